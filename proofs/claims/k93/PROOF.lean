import PyProof.Rows.All
import Wide.All
import OpenK.KLine
import OpenK.KWalk
import OpenK.KOwn
import KE.RegKIsAll
import KE.KxText
import KE.KIntText
import KE.KDictList
import KE.KTryMore
import KE.KRevIter
import Wide.FinOn
import PyProof.EqAt
import PyProof.EqKinds
import PyProof.TupleCall
import Lean
import PySem.Challenge.RW_foretell_k93_whole_desk
set_option Elab.async false
set_option linter.all false
set_option hygiene false
set_option bootstrap.genMatcherCode false
set_option compiler.extract_closed false
noncomputable section
set_option maxRecDepth 100000
set_option maxHeartbeats 0
theorem aA(_:True:=by rfl):True:=⟨⟩
theorem aB(_:True:=by decide):True:=⟨⟩
theorem aC(_:True:=by decide+kernel):True:=⟨⟩
theorem aD(_:True:=by intro _;rfl):True:=⟨⟩
theorem aE(_:True:=by intros;rfl):True:=⟨⟩
theorem aF(_:True:=by exact rfl):True:=⟨⟩
theorem aG(_:True:=by first|erw[.inl rfl]|erw[.inr rfl]|assumption):True:=⟨⟩
theorem aH(_:True:=by first|erw[Or.inl rfl]|erw[Or.inr (Or.inl J)]|erw[Or.inr (Or.inr J)]):True:=⟨⟩
local macro_rules | `(↑$p)=>`(autoParam $p aA._auto_1)
local macro_rules | `(⇑$p)=>`(autoParam $p aB._auto_1)
local macro_rules | `(↥$p)=>`(autoParam $p aC._auto_1)
local macro_rules | `(tactic| exists $ts,*)=>`(tactic| refine ⟨$ts,*⟩)
local macro_rules | `(tactic| omega)=>`(tactic| first | with_reducible assumption | lia | omega (config:={}))
open Lean.Parser.Tactic in
local macro_rules | `(tactic| let $p:term := $e)=>do
 let s<-p.raw.rewriteBottomUpM fun x=>do
  if x.isOfKind `Lean.Parser.Term.anonymousCtor||x.isOfKind `«term#[_,]» then
   let ps<-x[1].getSepArgs.mapM fun y=>`(rcasesPatLo| $(⟨y⟩):rcasesPat)
   return (<-`(rcasesPat| ⟨$[$ps:rcasesPatLo],*⟩)).raw
  else if x.isIdent then return (<-if x.getId==`J then `(rcasesPat| rfl) else `(rcasesPat| $(⟨x⟩):ident)).raw
  else if x.isOfKind `Lean.Parser.Term.hole then return (<-`(rcasesPat| _)).raw
  else return x
 `(tactic| obtain $(⟨s⟩):rcasesPat:=$e)
namespace PySem.W.Fast
local macro_rules
 | `(#synth $k:ident $ns*)=>Lean.MonadRef.withRef .missing do return Lean.mkNullNode ((<-(ns.foldl (fun c n=>match n.raw.isNatLit?,c.back? with | some n,b=>c.push (n+b.getD 0) | _,b=>(Array.range' c[0]! (b.getD 0-c[0]!+1))) #[]).mapM fun n=>`(theorem $(Lean.mkIdent (.mkSimple s!"tw{(k.getId.getPrefix.str s!"{k.getId.getString!}_{n}").hash}")) : True:=⟨⟩)).map (·.raw))
 | `(#synth $k:ident)=>`(theorem $(Lean.mkIdent (.mkSimple s!"tw{k.getId.hash}")) : True:=⟨⟩)
#synth PySem.Challenge.pw_foretell_k93_whole_desk
#synth H0.heap 39 7 1546
#synth H0.tree 47 23 15 15 15 15 15 15 15 15 15 15 15 15 15 15 48 45 37 43 43 50 16 65 45 51 47 85 15 58 68 51 42 140 86 31 66 26 59 80 14
#synth H0.view 39
#synth H0.o 43 1548 _
#synth H0.sts 49 22 15 15 15 15 15 15 15 15 15 15 15 15 15 15 48 45 37 43 43 50 16 65 45 51 47 85 15 58 68 51 42 229 28 66 26 59 80
#synth H0.env 41
end PySem.W.Fast
section
open PySem PySem.W PyProof.Rows
def Q0:Program:={PySem.Challenge.pw_foretell_k93_whole_desk with main:={PySem.Challenge.pw_foretell_k93_whole_desk.main with body:=PySem.Challenge.pw_foretell_k93_whole_desk.main.body.drop 130}}
def Z0:List Str:=PySem.Challenge.pw_foretell_k93_whole_desk.boundNames.filter (·!="law")
theorem H1{K:Params->Frag}{as:List Addr}(n:Nat)(e:∀P,as=(K P).map (·.1))(w:World)(s:Shared)(x:((as.take n).map s.heap.get?,(as.drop n).map s.heap.get?)=(((K w.params).take n).map (fun p=>some p.2),((K w.params).drop n).map fun p=>some p.2)):InK K w s.heap:=InK.of e w s (by
 have h:=Prod.mk.inj x
 rw [<-List.take_append_drop n as,List.map_append,h.1,h.2,<-List.map_append,List.take_append_drop])
local macro_rules | `(tactic| refine $f:ident $as*)=>do
 unless f.getId==`PySem.W.holds_open do Lean.Macro.throwUnsupported
 let h:=as[6]!.raw[3][1][0][1][1]
 let k:Lean.Term:=⟨h[0]⟩
 let a:Lean.Term:=⟨h[1]⟩
 let e:Lean.Term:=⟨h[2]⟩
 let r:=as.extract 10 as.size
 `(tactic| (refine ($f (q:=Q0) (loose:=Z0) $(as[2]!) $(as[3]!) (Yf:=fun s=>((List.take 400 $a).map s.heap.get?,(List.drop 400 $a).map s.heap.get?)) (Ya:=fun w=>((List.take 400 ($k w.params)).map (fun p=>some p.2),(List.drop 400 ($k w.params)).map fun p=>some p.2)) $(as[6]!) $(as[7]!) $(as[8]!) (H1 400 $e) $r*); case $(Lean.mkIdent `hc):ident=>exact $(Lean.mkIdent `hP)))
set_option maxRecDepth 100000 in
set_option maxHeartbeats 0 in
def H0:PSigma fun P:Prop=>P->PySem.Challenge.rw_foretell_k93_whole_desk.Holds:=by
 refine' ⟨_,fun hP=>?_⟩
 rotate_left
 w_on; o_law; k_head
 w_witness2
end
section
open PySem PySem.Spec PyProof.Rows
def bw:type_of% @List.length_map:=@List.length_map
def bP:type_of% @List.getElem?_eq_getElem:=@List.getElem?_eq_getElem
def bX:type_of% @wpAny_bind:=@wpAny_bind
def bY:type_of% @List.length_append:=@List.length_append
def bZ:type_of% @Heap.get?_push_of_some:=@Heap.get?_push_of_some
def cc:type_of% @Nat.le_refl:=@Nat.le_refl
def ce:type_of% @List.mem_map:=@List.mem_map
def cg:type_of% @decide_eq_true:=@decide_eq_true
def ci:type_of% @List.getElem?_map:=@List.getElem?_map
def cj:type_of% @decide_eq_false:=@decide_eq_false
def ck:type_of% @List.getElem?_eq_some_iff:=@List.getElem?_eq_some_iff
def cn:type_of% @List.mem_singleton:=@List.mem_singleton
def cq:type_of% @wpAny_pure:=@wpAny_pure
def cr:type_of% @List.mem_cons:=@List.mem_cons
def cu:type_of% @Option.some.inj:=@Option.some.inj
def cy:type_of% @List.map_append:=@List.map_append
def cz:type_of% @List.mem_of_getElem?:=@List.mem_of_getElem?
def cA:type_of% @Heap.get?_push_size:=@Heap.get?_push_size
def cB:type_of% @Heap.lt_size:=@Heap.lt_size
def cC:type_of% @Bool.and_eq_true:=@Bool.and_eq_true
def cD:type_of% @List.length_cons:=@List.length_cons
def cE:type_of% @Bool.false_ne_true:=@Bool.false_ne_true
def cF:type_of% @List.size_toArray:=@List.size_toArray
def cG:type_of% @List.length_take:=@List.length_take
def cH:type_of% @List.take_succ_eq_append_getElem:=@List.take_succ_eq_append_getElem
def cI:type_of% @Nat.zero_le:=@Nat.zero_le
def cJ:type_of% @List.append_assoc:=@List.append_assoc
def cK:type_of% @List.mem_append:=@List.mem_append
def cL:type_of% @List.map_map:=@List.map_map
def cM:type_of% @List.mem_cons_of_mem:=@List.mem_cons_of_mem
def cN:type_of% @List.mem_cons_self:=@List.mem_cons_self
def cO:type_of% @Nat.le_trans:=@Nat.le_trans
def cP:type_of% @Nat.not_lt_zero:=@Nat.not_lt_zero
def cQ:type_of% @List.mem_append_right:=@List.mem_append_right
def cR:type_of% @Nat.lt_of_lt_of_le:=@Nat.lt_of_lt_of_le
def cS:type_of% @Int.mul_le_mul_of_nonneg_left:=@Int.mul_le_mul_of_nonneg_left
def cT:type_of% @List.getElem?_eq_none:=@List.getElem?_eq_none
def cU:type_of% @List.take_length:=@List.take_length
def cV:type_of% @List.getElem_mem:=@List.getElem_mem
def cX:type_of% @List.map_cons:=@List.map_cons
def cY:type_of% @Nat.ne_of_lt:=@Nat.ne_of_lt
def cZ:type_of% @List.getD_eq_getElem?_getD:=@List.getD_eq_getElem?_getD
def c7:type_of% @Int.mul_le_mul_of_nonneg_right:=@Int.mul_le_mul_of_nonneg_right
def c8:type_of% @List.length_range:=@List.length_range
def db:type_of% @List.take_of_length_le:=@List.take_of_length_le
def df:type_of% @List.length_singleton:=@List.length_singleton
def dg:type_of% @List.mem_filter:=@List.mem_filter
def dh:type_of% @List.getElem?_append_left:=@List.getElem?_append_left
def di:type_of% @List.replicate_succ:=@List.replicate_succ
def dm:type_of% @wpAny_field:=@wpAny_field
def dn:type_of% @List.mem_of_mem_take:=@List.mem_of_mem_take
def du:type_of% @List.mem_append_left:=@List.mem_append_left
def dv:type_of% @List.getElem?_range:=@List.getElem?_range
def dw:type_of% @List.eq_nil_of_length_eq_zero:=@List.eq_nil_of_length_eq_zero
def dy:type_of% @List.mem_range:=@List.mem_range
def dz:type_of% @List.getElem?_append_right:=@List.getElem?_append_right
def dA:type_of% @wpAny_truthy_bool:=@wpAny_truthy_bool
def dB:type_of% @Array.length_toList:=@Array.length_toList
def dC:type_of% @List.drop_eq_getElem_cons:=@List.drop_eq_getElem_cons
def dD:type_of% @Int.emod_lt_of_pos:=@Int.emod_lt_of_pos
def dE:type_of% @List.length_drop:=@List.length_drop
def dF:type_of% @wpAny_mono:=@wpAny_mono
def dG:type_of% @Int.emod_nonneg:=@Int.emod_nonneg
def dH:type_of% @List.getElem_map:=@List.getElem_map
def dI:type_of% @Option.map_eq_some_iff:=@Option.map_eq_some_iff
def dJ:type_of% @List.nodup_cons:=@List.nodup_cons
def dL:type_of% @Option.map_some:=@Option.map_some
def dM:type_of% @Nat.lt_irrefl:=@Nat.lt_irrefl
def dN:type_of% @List.any_eq_true:=@List.any_eq_true
def dP:type_of% @beq_eq_false_iff_ne:=@beq_eq_false_iff_ne
def dQ:type_of% @List.append_nil:=@List.append_nil
def dR:type_of% @Nat.lt_of_le_of_lt:=@Nat.lt_of_le_of_lt
def dS:type_of% @List.take_append_drop:=@List.take_append_drop
end
abbrev Β:=Nat->PySem.Addr->Prop
abbrev Δ:=PySem.Value->PySem.Shared->Prop
abbrev Ε:=PySem.Str->Option PySem.Value
abbrev Η:=List (PySem.Str×List Int)
abbrev Θ:=List (PySem.Addr×PySem.Obj)
abbrev Λ:=Nat->List Int
abbrev Μ:=Nat->PySem.Addr
abbrev Ν:=PySem.Addr->Prop
abbrev Ξ:=Nat->Fin 3
abbrev Ο:=List PySem.Value
abbrev Ρ:=List Int
abbrev Τ:=List PySem.Str
abbrev Φ:=Option PySem.Str
abbrev Χ:=List PySem.Addr
abbrev z3:=PySem.W.Frag
abbrev z4:=PySem.Addr
abbrev qa:=PySem.Shared
abbrev qc:=PySem.Value
abbrev qd:=PySem.Stmt
abbrev qe:=PySem.World
abbrev qf:=PySem.Around
abbrev qg:=PySem.Heap
abbrev qh:=PySem.Expr
abbrev qi:=PySem.Program
abbrev qj:=List
abbrev ql:=Option
section
set_option tactic.hygienic false
local macro_rules | `(#[$xs,*])=>do
 if xs.getElems.size<2 then Lean.Macro.throwUnsupported
 `(⟨$xs,*⟩)
local macro_rules | `(tactic| let $x:ident := $e)=>`(tactic| have $x:ident := $e)
local macro_rules | `(())=>`(by omega)
local macro_rules | `(∅)=>`(by decide)
local macro_rules | `(tactic| rwa [$rs,*])=>`(tactic| (rw [$(rs.getElems.pop),*];refine $(⟨rs.getElems.back!.raw[1]⟩)))
local macro_rules | `(tactic| erw [$rs,*])=>do
 let F (c:Array Lean.Term):=if c.size<2 then `(tactic| refine $(c[0]!)) else `(tactic| refine ⟨$c,*⟩)
 let mut o:Array (Lean.TSyntax `tactic):=.empty
 let mut c:Array Lean.Term:=.empty
 for r in rs.getElems do
  let m:=r.raw[0]
  if !m.isNone then
   o:=o.push (<-F c)
   c:=.empty
   if (m.find? (·.isToken "←")).isSome then o:=o.push (<-`(tactic| ext))
  c:=c.push ⟨r.raw[1]⟩
 o:=o.push (<-F c)
 if o.size<2 then return o[0]! else `(tactic| ($[$o];*))
local macro_rules | `(mutual $cs* end)=>if cs.size==2 then Lean.Macro.throwUnsupported else return Lean.mkNullNode (cs.map (·.raw.rewriteBottomUp (·.setInfo .none)))
theorem _root_.J{α:Sort u}{a:α}:a=a:=rfl
local macro_rules | `($a\$b)=>`($a=some (.lst $b))
local macro_rules | `($a∩$f $as*)=>`($a=some (.ins $f $as*))
local macro_rules | `($a∪$b)=>`($a=some (.tup $b))
local macro_rules | `($a∣$b)=>`($a=some (.ref $b))
local macro_rules | `(!$s:str)=>`(Str.ofString $s)
local macro_rules
 | `('r')=>`(by right)
 | `('s')=>`(by simp)
 | `('z')=>`(by intro z;cases z)
 | `('l')=>`(by walk_at "len")
 | `('i')=>`(Inv X pins σ H)
 | `('v')=>`(vq P w K mg Γ CX0)
 | `('e')=>`(vq P w K mg Γ (CXe P w))
 | `('w')=>`(wpAny (model X.prog X.w) X.A)
 | `('u')=>`(uy PySem.F.plainAttrs_list PySem.F.slot_list_append PySem.F.type_list_append w9)
 | `('y')=>`(vx (CXe P w) P w K mg base N qual scope f cd A outer s H)
 | `('n')=>`(s.heap.objs.size)
 | `('d')=>`((x == ("__debug__":Str))=false)
 | `('a')=>`(starEach (e::es) X.env=(false,eval e X.env)::starEach es X.env)
 | `('b')=>`((backTo pos (starEach es X.env)).any (·.1)=false)
 | `('k')=>`(snK (xy n kd ps pre ts) (y9 ts))
mutual
inductive Ϝ{α:Sort a}{β:Sort b}(p:α->β->Prop):Prop|mk(x:α)(y:β)(h:p x y)
inductive ϒ{α:Sort a}{β:Sort b}{γ:Sort c}(p:α->β->γ->Prop):Prop|mk(x:α)(y:β)(z:γ)(h:p x y z)
inductive ϓ{α:Sort a}{β:Sort b}{γ:Sort c}{φ:Sort d}{χ:Sort e}{ψ:Sort f}(p:α->β->γ->φ->χ->ψ->Prop):Prop|mk(x:α)(y:β)(z:γ)(u:φ)(v:χ)(w:ψ)(h:p x y z u v w)
inductive Ϙ(a b c d:Prop):Prop|mk(x:a)(y:b)(z:c)(w:d)
inductive ϙ(a b c d e f g:Prop):Prop|mk(x:a)(y:b)(z:c)(w:d)(p:e)(q:f)(r:g)
end
open Lean in
def ϕ(t:Term):Nat->MacroM Term
 | n+1=>match t with
  | `($a/\$b/\$c/\$d/\$e/\$f/\$g)=>do `(ϙ $a $b $c $d $e $f $(<-ϕ g n))
  | `($a/\$b/\$c/\$d)=>`(Ϙ $a $b $c $d)
  | _=>return t
 | _=>return t
open Lean in
def ϔ(b:Term):List (Syntax×Option Syntax)->MacroM Term
 | x::y::z::u::v::w::l=>do `(ϓ $(<-F [x,y,z,u,v,w] (<-ϔ b l)))
 | x::y::z::l=>do `(ϒ $(<-F [x,y,z] (<-ϔ b l)))
 | x::y::l=>do `(Ϝ $(<-F [x,y] (<-ϔ b l)))
 | x::l=>do `(Exists $(<-F [x] (<-ϔ b l)))
 | _=>ϕ b 9
where F(l:List (Syntax×Option Syntax))(b:Term):MacroM Term:=l.foldrM (fun x b=>do
 let i:Term:=⟨x.1[0]⟩
 match x.2 with
 | some t=>`(fun ($i :$(⟨t⟩))=>$b)
 | _=>`(fun $i=>$b)) b
local macro_rules | `(∃$xs,$b)=>do
 let c:=xs.raw[0]
 let l:=if c.isOfKind `Lean.unbracketedExplicitBinders then c[0].getArgs.toList.map (·,if c[1].isNone then none else some c[1][1]) else c.getArgs.toList.flatMap fun y=>y[1].getArgs.toList.map (·,some y[3])
 if let [_]:=l then
  let `($_/\$_/\$_/\$_):=b | Lean.Macro.throwUnsupported
 ϔ b l
namespace L2
open PySem PySem.Spec PyProof.Rows
mutual
variable{C a:z4}{op:CmpOp}{tg:qh}{fd:FuncData}{h':qg}{pins:Θ}{kw:qj (Str×qc)}{fp:Χ}{es:qj qh}{body:qj qd}{us:Ο}{M:Model}{t':Nat}{P:qi}{s':qa}{mA:Ε}{u:qc}{E Q:Δ}
abbrev Key:=Sum Int Str
noncomputable def yhk:Key->qc->Bool
 | .inl k,v=>Value.isInt k v
 | .inr x,v=>Value.isStrOf x v
noncomputable def vk3(w:qe):Key->Int
 | .inl k=>hashInt k
 | .inr x=>hashStr w x
theorem xb:∀{k:Key}{v:qc},yhk k v=true->(∃i t,k=Sum.inl i/\v=Value.int i t)\/(∃x t,k=Sum.inr x/\v=Value.str x t)
 | .inl i,v,h=>by
  let#[t,e]:=Value.isInt_shape (k:=i) (v:=v) h;erw[.inl #[i,t,J,e]]
 | .inr x,v,h=>by
  let#[t,e]:=Value.isStrOf_shape (x:=x) (v:=v) h;erw[.inr #[x,t,J,e]]
def yh1(i:Int)(t:Tok):yhk (.inl i) (.int i t)=true:=by simp[yhk,Value.isInt]
def yiy(x:Str)(t:Tok):yhk (.inr x) (.str x t)=true:=by simp[yhk,Value.isStrOf]
def vcc(a b:Int):decide ((Sum.inl a:Key)=Sum.inl b)=(a == b):=by
 by_cases e:a=b
 .subst e;simp
 .have h:¬(Sum.inl a:Key)=Sum.inl b:=λq=>e (Sum.inl.inj q);rwa[cj h,(dP.mpr e).symm]
def vcf(a b:Str):decide ((Sum.inr a:Key)=Sum.inr b)=decide (a=b):=by
 by_cases e:a=b
 .subst e;simp
 .have h:¬(Sum.inr a:Key)=Sum.inr b:=λq=>e (Sum.inr.inj q);rw[cj h,cj e]
def yyq(a:Int)(b:Str):decide ((Sum.inl a:Key)=Sum.inr b)=false:=cj (λq=>nomatch q)
def yy9(a:Str)(b:Int):decide ((Sum.inr a:Key)=Sum.inl b)=false:=cj (λq=>nomatch q)
def wx(prog:qi)(w:qe):PySem.KeyKind prog w Key where
 is:=yhk
 hash:=vk3 w
 inj:=λv a b ha hb=>by
  rcases xb ha with⟨i,t,rfl,rfl⟩|⟨x,t,rfl,rfl⟩
  .rcases xb hb with⟨j,u,rfl,e⟩|⟨y,u,rfl,e⟩
   .injection e with e1 _;rw[e1]
   .erw[nomatch e]
  .rcases xb hb with⟨j,u,rfl,e⟩|⟨y,u,rfl,e⟩
   .erw[nomatch e]
   .injection e with e1 _;rw[e1]
 byValue:=λk v h=>by
  rcases xb h with⟨i,t,rfl,rfl⟩|⟨x,t,rfl,rfl⟩<;>rfl
 pyHash:=λhv h=>by
  rcases xb hv with⟨i,t,rfl,rfl⟩|⟨x,t,rfl,rfl⟩
  .erw[wpAny_pyHash_int h]
  .erw[wpAny_pyHash_str h]
 eqBool:=λhu hv h=>by
  rcases xb hu with⟨i,t,rfl,rfl⟩|⟨x,t,rfl,rfl⟩
  .rcases xb hv with⟨j,u,rfl,rfl⟩|⟨y,u,rfl,rfl⟩
   .rw[vcc]at h;erw[wpAny_eqBool_int h]
   .rw[yyq]at h;erw[SeqAt.EqAt.int_str i t y u _ _ _ _ h]
  .rcases xb hv with⟨j,u,rfl,rfl⟩|⟨y,u,rfl,rfl⟩
   .rw[yy9]at h;erw[SeqAt.EqAt.str_int x t j u _ _ _ _ h]
   .rw[vcf]at h;erw[wpAny_eqBool_str h]
 «strs»:=λk x t v h=>by
  rcases xb h with⟨i,u,rfl,e⟩|⟨y,u,rfl,e⟩
  .erw[nomatch e]
  .injection e with e1 _;subst e1;cases v<;>rfl
def yc2(prog:qi)(w:qe)(i:Int)(t:Tok):(wx prog w).is (.inl i) (.int i t)=true:=yh1 i t
def yc7(prog:qi)(w:qe)(x:Str)(t:Tok):(wx prog w).is (.inr x) (.str x t)=true:=yiy x t
inductive V where
 |non|bl (b:Bool)|int (i:Int)|str (x:Str)|byt (b:Array UInt8)|flt (b:UInt64)|ref (a:z4)|ty (n:String)
 deriving DecidableEq
abbrev _root_.Ι:=qj (Str×V)
abbrev _root_.Κ:=qj (Key×V)
abbrev _root_.Υ:=qj V
abbrev _root_.Ψ:=ql V
variable{vs xs ys:Υ}{v y:V}
def xr:V->qc->Prop
 | .non,u=>u=Value.none
 | .bl b,u=>u=Value.bool b
 | .int i,u=>∃t,u=Value.int i t
 | .str x,u=>∃t,u=Value.str x t
 | .byt b,u=>∃t,u=Value.bytes b t
 | .flt b,u=>∃t,u=Value.float b t
 | .ref a,u=>u=Value.ref a
 | .ty n,u=>u=Value.type n
abbrev w8:qj V->qj qc->Prop:=Paired xr
theorem w8.length(r:w8 xs us):xs.length=us.length:=Paired.length r
theorem w8.get:∀{xs:Υ}{us:Ο}{i:Nat}{x:V},w8 xs us->xs[i]?=some x->∃u,us[i]?=some u/\xr x u
 |_,_,_,_,.nil,e=>by simp at e
 |_,_,0,_,.cons r _,e=>by simp at e;subst e;exists _,J,r
 |_,_,i+1,x,.cons _ t,e=>by
  let#[u,a,b]:=w8.get (i:=i) (x:=x) t (by simpa using e);erw[u,by simpa using a,b]
def w8.append{ws:Ο}(h:w8 xs us)(s:w8 ys ws):w8 (xs++ys) (us++ws):=by
 induction h with
 |nil=>erw[s]
 |cons r t ih=>erw[.cons r ih]
theorem w8.take:∀{xs:Υ}{us:Ο}(n:Nat),w8 xs us->w8 (xs.take n) (us.take n)
 |_,_,0,_=>.nil
 |_,_,_+1,.nil=>.nil
 |_,_,n+1,.cons r t=>.cons r (w8.take n t)
theorem w8.drop:∀{xs:Υ}{us:Ο}(n:Nat),w8 xs us->w8 (xs.drop n) (us.drop n)
 |_,_,0,r=>r
 |_,_,_+1,.nil=>.nil
 |_,_,n+1,.cons _ t=>w8.drop n t
def ycy:ql V->ql qc->Prop
 |some v,some u=>xr v u
 |none,none=>True
 |_,_=>False
def KV{κ:Type}:qj (κ×V)->qj (κ×qc)->Prop:=Paired λ(p:κ×V)(q:κ×qc)=>p.1=q.1/\xr p.2 q.2
noncomputable def kV:Key->V
 | .inl i=>.int i
 | .inr x=>.str x
inductive HO where
 |lst (xs:Υ)
 |tup (xs:Υ)
 |dK (kvs:Κ)|dT (kvs:qj (qj Key×V))
 |set (S:Int->Bool) (n:Nat)
 |ins (C dx:z4) (fs:Ι)
 |own (x:z4)
 |xd (fs:Ι)
 |met (f x:z4)
 |rng (lo hi:Int)
 |frz (o:Obj) (u:HO)
 |tbl (ps:Array qc)
 |ext (φ:qg->Prop)
abbrev Hp:=z4->ql HO
variable{H H':Hp}
noncomputable def upd(H:Hp)(a:z4)(o:HO):Hp:=λb=>if b=a then some o else H b
def ya{o:HO}:upd H a o a=some o:=by unfold upd;rw[if_pos J]
def yk{b:z4}{o:HO}(h:b≠a):upd H a o b=H b:=by unfold upd;rw[if_neg h]
def xf{b:z4}{o u:HO}(h:H a=some o)(h':H b=some u)(d:o≠u):a≠b:=by intro e;subst e;rw[h]at h';erw[d (cu h')]
def yb{b:z4}{o:HO}(h:H a=some o)(h':H b=none):a≠b:=by intro e;subst e;rw[h]at h';cases h'
end
section
variable(P:qi)(w:qe)
def xq(H:Hp)(h:qg)(a:z4):HO->Prop
 | .lst xs=>xs.length<=sizeLine/\∃(its:Ο)(n:Nat),w8 xs its/\h.get? a=some { cls:=.type "list",data:=.seq its.toArray n}
 | .tup xs=>xs.length<=sizeLine/\∃its:Ο,w8 xs its/\IsTup h a its.toArray
 | .dK kvs=>kvs.length<=sizeLine/\(a == sysModules)=false/\∃vs,KV kvs vs/\h.DictOf (wx P w) a vs
 | .dT kvs=>kvs.length<=sizeLine/\(a == sysModules)=false/\∃xs:qj (qj Key×z4×qc),
   Paired (λ(p:qj Key×V)(q:qj Key×z4×qc)=>p.1=q.1/\H q.2.1∪(p.1.map kV)/\xr p.2 q.2.2) kvs xs/\
   ∃o es ep,h.get? a=some o/\o.ExactDict/\o.data=.dict es ep/\es.toList=xs.map (entryOfKey (tupleKind (wx P w)))/\(xs.map (·.1)).Nodup
 | .set S n=>h.SetOf (intKind P w) a S n
 | .ins C dx fs=>H dx=some (.own a)/\fs.length<=1000/\dx≠a/\h.get? a=some (W.instObj C dx)/\
   ∃mA,h.Ns1 dx mA/\(∀f,ycy (fs.lookup f) (mA f))/\PySem.Within mA (fs.map (·.1))
 | .own _=>∃o,h.get? a=some o
 | .xd fs=>∃mA,h.Ns1 a mA/\∀f,ycy (fs.lookup f) (mA f)
 | .rng lo hi=>∃t u v,h.get? a=some { cls:=.type "range",data:=.fields (List.toArray [.int lo t,.int hi u,.int 1 v])}
 | .frz o u=>h.get? a=some o/\xq H h a u
 | .tbl ps=>h.get? a=some { cls:=.none,data:=.fields ps}
 | .met f x=>h.get? a=some (W.methodObj (.ref f) (.ref x))
 | .ext φ=>φ h/\(∃o,h.get? a=some o)/\∀h1 h2:qg,φ h1->(∀o,h1.get? a=some o->h2.get? a=some o)->φ h2
def HOk(H:Hp)(h:qg):Prop:=∀a o,H a=some o->xq P w H h a o
end
section
mutual
variable{w:qe}{h:qg}{o:HO}
theorem xq.lt(x:xq P w H h a o):a<h.objs.size:=by
 cases o with
 |lst xs=>let⟨_,_,_,_,e⟩:=x;erw[cB e]
 |tup xs=>let⟨_,_,_,p⟩:=x;erw[p.lt]
 |dK kvs=>let⟨_,_,_,_,o,_,_,e,_⟩:=x;erw[cB e]
 |dT kvs=>let⟨_,_,_,_,o,_,_,e,_⟩:=x;erw[cB e]
 |set S n=>let⟨o,_,_,_,e,_⟩:=x;erw[cB e]
 |ins C dx fs=>let⟨_,_,_,e,_⟩:=x;erw[cB e]
 |own y=>let⟨_,e⟩:=x;erw[cB e]
 |xd fs=>let⟨_,⟨_,_,_,e,_⟩,_⟩:=x;erw[cB e]
 |rng lo hi=>let⟨_,_,_,e⟩:=x;erw[cB e]
 |frz ob u=>let⟨e,_⟩:=x;erw[cB e]
 |tbl ps=>erw[cB (show h.get? a=some _ from x)]
 |met f y=>erw[cB (show h.get? a=some _ from x)]
 |ext φ=>let⟨_,⟨_,e⟩,_⟩:=x;erw[cB e]
def Paired.mapP{α β:Type}{F G:α->β->Prop}{l₁:qj α}{l₂:qj β}(h:Paired F l₁ l₂)(f:∀a b,F a b->G a b):Paired G l₁ l₂:=by
 induction h with
 |nil=>erw[.nil]
 |cons r t ih=>erw[.cons (f _ _ r) ih]
def xq.stay(x:xq P w H h a o)(k:∀b u,(b=a\/H b=some (.own a))->h.get? b=some u->h'.get? b=some u)
  (ho:∀b,H b=some (.own a)->H' b=some (.own a)) (ht:∀b xs,H b∪xs->H' b∪xs):xq P w H' h' a o:=by
 induction o with
 |lst xs=>let⟨z,j,n,r,e⟩:=x;erw[z,j,n,r,k _ _ (.inl J) e]
 |tup xs=>let⟨z,j,r,ob,e,c⟩:=x;erw[z,j,r,ob,k _ _ (.inl J) e,c]
 |dK kvs=>let⟨z,y,A,r,ob,i,g,e,c⟩:=x;erw[z,y,A,r,ob,i,g,k _ _ (.inl J) e,c]
 |dT kvs =>
  let#[z,y,xs,r,ob,i,g,e,c,c1,c2,c3]:=x;erw[z,y,xs,Paired.mapP r λp q z=>#[z.1,ht _ _ z.2.1,z.2.2],ob,i,g,k _ _ (.inl J) e,c,c1,c2,c3]
 |set S n=>let⟨ob,i,g,t,e,c⟩:=x;erw[ob,i,g,t,k _ _ (.inl J) e,c]
 |ins C dx fs =>
  let#[d,z,B,e,m,#[l,i,g,D,c],r]:=x;erw[ho _ d,z,B,k _ _ (.inl J) e,m,#[l,i,g,k _ _ (.inr d) D,c],r]
 |own y=>let⟨ob,e⟩:=x;erw[ob,k _ _ (.inl J) e]
 |xd fs=>let⟨m,⟨l,i,g,e,c⟩,r⟩:=x;erw[m,#[l,i,g,k _ _ (.inl J) e,c],r]
 |rng lo hi=>let⟨t,u,v,e⟩:=x;erw[t,u,v,k _ _ (.inl J) e]
 |frz ob u ih=>let⟨e,q⟩:=x;erw[k _ _ (.inl J) e,ih q]
 |tbl ps =>
  have e:h.get? a=some { cls:=.none,data:=.fields ps}:=x;show h'.get? a=some { cls:=.none,data:=.fields ps};erw[k a _ (.inl J) e]
 |met f y =>
  have e:h.get? a=some (W.methodObj (.ref f) (.ref y)):=x;show h'.get? a=some (W.methodObj (.ref f) (.ref y));erw[k a _ (.inl J) e]
 |ext φ=>let⟨p,⟨o,e⟩,s⟩:=x;erw[s _ _ p λo q=>k _ _ (.inl J) q,#[o,k _ _ (.inl J) e],s]
theorem HOk.lt(x:HOk P w H h)(e:H a=some o):a<h.objs.size:=(x a o e).lt
def HOk.fresh(x:HOk P w H h)(e:h.objs.size<=a):H a=none:=by
 cases q:H a with
 |none=>rfl
 |some u=>erw[absurd (cR (x.lt q) e) (dM _)]
def HOk.kept(x:HOk P w H h)(k:∀b u,h.get? b=some u->h'.get? b=some u):HOk P w H h':=λa o e =>
 (x a o e).stay (λb u Z q=>k b u q) (λZ q=>q) λZ Z q=>q
def HOk.laid(x:HOk P w H h)(k:∀b u,h.get? b=some u->h'.get? b=some u)(hp:h.objs.size<=a)(new:xq P w (upd H a o) h' a o):HOk P w (upd H a o) h':=λb u e=>by
 let d:=x.fresh hp;by_cases hb:b=a
 .subst hb;rw[ya]at e;cases e;erw[new]
 .rw[yk hb]at e;erw[(x b u e).stay (λc v Z q=>k c v q) (λc q=>by rwa[yk (yb q d),q]) λc f q=>by rwa[yk (yb q d),q]]
end
end
mutual
def Rd(H:Hp)(a:z4)(u:HO):Prop:=H a=some u\/∃o,H a=some (.frz o u)
def Rd.of{u:HO}(h:H a=some u):Rd H a u:=.inl h
def Rd.ok{w:qe}{h:qg}{u:HO}(r:Rd H a u)(x:HOk P w H h):xq P w H h a u:=by
 rcases r with r|⟨o,r⟩
 .erw[x a u r]
 .let#[_,q]:=x a _ r;erw[q]
def Mut:ql HO->Prop
 |some (.lst _)=>True
 |some (.dK _)=>True
 |some (.dT _)=>True
 |some (.set _ _)=>True
 |some (.ins _ _ _)=>True
 |some (.ext _)=>True
 |_=>False
end
section
variable{w:qe}{h:qg}{x e:z4}{o':HO}
def HOk.write(ok:HOk P w H h)(mu:Mut (H x))(he:e=x\/H e=some (.own x))(k:∀b u,b≠e->h.get? b=some u->h'.get? b=some u)(heo:∃u,h'.get? e=some u)
  (new:xq P w (upd H x o') h' x o'):HOk P w (upd H x o') h':=λb u q=>by
 have a:∀c y,H c=some (.own y)->c≠x:=λc y r z=>by subst z;rw[r]at mu;erw[mu]
 have d:∀c f,H c∪f->c≠x:=λc f r z=>by subst z;rw[r]at mu;erw[mu]
 by_cases hb:b=x
 .subst hb;rw[ya]at q;cases q;erw[new]
 .rw[yk hb]at q;by_cases hbe:b=e
  .have i:H b=some (.own x):=by
    rcases he with z|z
    .erw[absurd (hbe.trans z) hb]
    .rw[hbe];erw[z]
   rw[q]at i;cases i;let#[v,j]:=heo;erw[v,by rwa[hbe,j]]
  .refine(ok b u q).stay (λc v g r=>k c v ?_ r) (λc r=>by rwa[yk (a c b r),r]) λc f r=>by rw[yk (d c f r)];exact r
   rcases g with rfl|g
   .erw[hbe]
   .rintro rfl;rcases he with z|z
    .erw[a c b g z]
    .rw[g]at z;cases z;erw[hb J]
end
mutual
structure Un(fs ex:Χ)(H H':Hp)(h h':qg):Prop where
 keep:∀b o,h.get? b=some o->H b=none->b∉fs->b∉ex->h'.get? b=some o
 slot:∀b o,h.get? b=some o->H b=none->b∈fs->b∉ex->∃sl,h'.get? b=some {o with slots:=sl}
 free:∀b o,h.get? b=some o->H b=none->b∉ex->H' b=none
 there:∀b o,h.get? b=some o->b∉ex->∃o',h'.get? b=some o'
 tups:∀b xs,H b∪xs->H' b∪xs
 frzs:∀b o u,H b=some (.frz o u)->H' b=some (.frz o u)
 tbls:∀b ps,H b=some (.tbl ps)->∃more,H' b=some (.tbl (ps++more))
end
section
mutual
variable{fs fs' ex ex':Χ}{H1 H2:Hp}{h h1 h2:qg}{x e:z4}{o:HO}
def Un.any(u:Un fs ex H H1 h h1){b:z4}{ob:Obj}(q:h.get? b=some ob)(n:H b=none)(hx:b∉ex):∃sl,h1.get? b=some {ob with slots:=sl}:=by
 by_cases hb:b∈fs
 .erw[u.slot b ob q n hb hx]
 .erw[ob.slots,u.keep b ob q n hb hx]
def Un.kept(k:∀b u,h.get? b=some u->h'.get? b=some u):Un fs ex H H h h' :=
 #[λb a q Z Z Z=>k b a q,λb a q Z Z Z=>#[a.slots,k b a q],λZ Z Z n Z=>n,λb a q Z=>#[a,k b a q],λZ Z q=>q,λZ Z Z q=>q,λZ c q=>#[#[],by rw[q];simp]]
def Un.refl:Un fs ex H H h h:=Un.kept λZ Z q=>q
def Un.laid(k:∀b u,h.get? b=some u->h'.get? b=some u)(hp:h.objs.size<=a)(hn:H a=none):Un fs ex H (upd H a o) h h' where
 keep:=λb u q Z Z Z=>k b u q
 slot:=λb u q Z Z Z=>#[u.slots,k b u q]
 free:=λb u q n Z=>by rwa[yk (cY (cR (cB q) hp)),n]
 there:=λb u q Z=>#[u,k b u q]
 tups:=λb c q=>by rwa[yk (yb q hn),q]
 frzs:=λb u c q=>by rwa[yk (yb q hn),q]
 tbls:=λb d q=>#[#[],by rw[yk (yb q hn),q];simp]
def Un.write(mu:Mut (H x))(he:e=x\/H e=some (.own x))(k:∀b u,b≠e->h.get? b=some u->h'.get? b=some u)(heo:∃u,h'.get? e=some u):Un fs ex H (upd H x o) h h':=by
 have d:∀b,H b=none->b≠x:=λb n z=>by subst z;rw[n]at mu;erw[mu]
 have c:∀b,H b=none->b≠e:=λb n z=>by
  subst z;rcases he with r|r
  .erw[d b n r]
  .rw[n]at r;cases r
 have a:∀b u,H b=some u->¬Mut (some u)->b≠x:=λb u q f z=>by subst z;rw[q]at mu;erw[f mu]
 erw[λb u q n Z Z=>k b u (c b n) q,λb u q n Z Z=>#[u.slots,k b u (c b n) q],λb u q n Z=>by rwa[yk (d b n),n],λb u q Z=>?_,
  λb g q=>by rwa[yk (a b _ q λz=>z),q],λb u g q=>by rwa[yk (a b _ q λz=>z),q],λb i q=>#[#[],by rw[yk (a b _ q λz=>z),q];simp]]
 by_cases hbe:b=e
 .subst hbe;erw[heo]
 .erw[u,k b u hbe q]
end
end
mutual
noncomputable def trk(h:qg)(H:Hp):Χ:=(List.range h.objs.size).filter λa=>(H a).isSome
def ypd(h:qg)(H:Hp):qg:=W.hideAll h (trk h H)
def yht(h:qg)(H:Hp):(ypd h H).objs.size=h.objs.size:=W.hideAll_size _ _
def ynn{h:qg}{b:z4}{o:Obj}(e:h.get? b=some o)(n:H b=none):(ypd h H).get? b=some o :=
 W.hideAll_get _ e λa=>by
  have q:(H b).isSome=true:=(dg.mp a).2;rw[n]at q;simp at q
def ywp{h:qg}{b:z4}{o:Obj}(e:(ypd h H).get? b=some o):h.get? b=some o/\H b=none:=by
 have a:h.get? b=some o:=W.of_hideAll (trk h H) e;erw[a,?_]
 cases q:H b with
 |none=>rfl
 |some x =>
  have c:b∈trk h H:=dg.mpr #[dy.mpr (cB a),by simp[q]];have z:(ypd h H).get? b=none:=W.hideAll_none (trk h H) c;rw[z]at e;cases e
noncomputable def yvo(g h:qg)(L:z4):Θ:=(List.range h.objs.size).filterMap λa=>if a=L\/(g.get? a).isSome=true then none else (h.get? a).map λo=>(a,o)
def xt(g h:qg)(L d:z4):Θ:=(yvo g h L).filter λp=>decide (p.1≠d)
structure Mod(K:z3)(mg:Ε)(base:qg):Prop where
 kin:K.In base
 glob:base.Ns mainGlobals mg
 blt:∃mb,base.Ns builtinsNs mb/\∀x:Str,x≠"__name__"->mb x=bootBuiltins x
 nolimit:base.NoLimit
structure Cx where
 prog:qi
 w:qe
 K:z3
 mg:Ε
 base:qg
 A:qf
 N:Τ
 s₀:qa
 H₀:Hp
 env:Env
 outer:qj Env
 stack:qj Env
 ex:Χ
 fn:Str->Bool
 calm:Bool
 pn:Θ
 xe:Δ
variable{X:Cx}
noncomputable def frs(l:qj Env):Χ:=l.filterMap (·.frame)
abbrev Cx.fs(X:Cx):Χ:=frs X.outer
def Vis(sc:Scope)(x:Str):Prop:=sc.names.lookup x=some .local\/sc.names.lookup x=some .cell\/sc.names.lookup x=some .free
def Loc(sc:Scope)(x:Str):Prop:=sc.names.lookup x=some .local\/sc.names.lookup x=some .cell
def vko(env:Env)(h:qg)(m:Ε)(x:Str)(u:qc):Prop :=
 (env.kindOf x=some .local/\m x=some u)\/((env.kindOf x=some .cell\/env.kindOf x=some .free)/\∃c,env.cells.lookup x=some c/\h.IsCell c (some u))
structure Cx.Ok(X:Cx):Prop where
 mod:Mod X.K X.mg X.base
 kind:X.env.scope.kind=.function
 glob:X.env.globals=mainGlobals
 blt:X.env.builtins=builtinsNs
 above:X.s₀.heap.objs.size<=X.env.locals
 inj:∀x y c,X.env.cells.lookup x=some c->X.env.cells.lookup y=some c->x=y
 has:∀x,(X.env.kindOf x=some .cell\/X.env.kindOf x=some .free)->∃c,X.env.cells.lookup x=some c
 cab:∀x c,X.fn x=true->X.env.cells.lookup x=some c->X.s₀.heap.objs.size<=c
 hd:X.calm=true->X.A.handled=none
 frames:X.A.frames=some X.stack
 stk:X.stack=X.outer\/(X.stack=X.env::X.outer/\X.env.frame=some X.env.locals)
 exf:∀b∈X.ex,b≠X.env.locals/\∀x c,X.env.cells.lookup x=some c->c≠b
 bs:∀b o,X.base.get? b=some o->X.s₀.heap.get? b=some o/\X.H₀ b=none
 bsz:X.base.objs.size<=X.s₀.heap.objs.size
 noex:∀b o,X.base.get? b=some o->b∉X.ex
 exfs:∀b∈X.ex,b∉X.fs
 funs:X.s₀.heap.FunFrames X.base X.outer
 frf:∀b∈X.fs,X.H₀ b=none
structure Inv(X:Cx)(pins:Θ)(σ:qj (Ψ))(H:Hp)(s:qa):Prop where
 ok:X.Ok
 os:s.os=X.s₀.os
 bare:AllBare s.gens
 base:Un X.fs X.ex X.H₀ H X.s₀.heap s.heap
 loc:∃m,s.heap.Ns X.env.locals m/\∀(i:Nat)(x:Str)(v:V),X.N[i]?=some x->σ[i]?=some (some v)->Vis X.env.scope x->∃u,xr v u/\vko X.env s.heap m x u
 cell:∀x c,X.env.cells.lookup x=some c->∃v,s.heap.IsCell c v
 free:H X.env.locals=none
 freeC:∀x c,X.env.cells.lookup x=some c->H c=none
 pin:∀p∈X.pn++pins,s.heap.get? p.1=some p.2/\H p.1=none/\p.1≠X.env.locals/\p.1∉X.fs/\∀v,p.2.data≠.cell v
 hok:HOk X.prog X.w H s.heap
 len:σ.length=X.N.length
end
section
mutual
variable{σ:qj (Ψ)}{s:qa}
def Cx.Ok.nofr(ok:X.Ok){b:z4}{o:Obj}(e:X.base.get? b=some o):b∉X.fs:=λa=>by
 have:=(ok.funs.mem a).1;rw[e]at this;cases this
theorem Inv.bs(I:'i' s):∀b o,X.base.get? b=some o->s.heap.get? b=some o/\H b=none:=λb o e =>
 #[I.base.keep b o (I.ok.bs b o e).1 (I.ok.bs b o e).2 (I.ok.nofr e) (I.ok.noex b o e),I.base.free b o (I.ok.bs b o e).1 (I.ok.bs b o e).2 (I.ok.noex b o e)]
def Inv.bk(I:'i' s):∀b o,X.base.get? b=some o->s.heap.get? b=some o:=λb o e=>(I.bs b o e).1
theorem Inv.mod(I:'i' s):Mod X.K X.mg X.base:=I.ok.mod
def Inv.kIn(I:'i' s):X.K.In s.heap:=I.ok.mod.kin.keeps I.bk
theorem Inv.lt(I:'i' s):X.env.locals<'n':=let ⟨_,hn,_⟩:=I.loc;hn.lt
def Inv.sz(I:'i' s):X.s₀.heap.objs.size<='n':=cO I.ok.above (Nat.le_of_lt I.lt)
def Inv.nofs(I:'i' s)(h:'n'<=a):a∉X.fs:=λc=>by
 let#[_,o,b,_]:=I.ok.funs.mem c;erw[absurd (cR (cB b) (cO I.sz h)) (dM _)]
def Inv.cne(I:'i' s):∀x c,X.env.cells.lookup x=some c->c≠X.env.locals:=λx c e z=>by
 let#[v,o,f,d]:=I.cell x c e;let#[m,#[i,h,g,b,a,_],_]:=I.loc;rw[z,b]at f;cases f;rw[a]at d;cases d
theorem Inv.funs(I:'i' s):s.heap.FunFrames X.base X.outer:=by
 have c:∀(l:qj Env),(∀b∈frs l,b∈X.fs)->X.s₀.heap.FunFrames X.base l->s.heap.FunFrames X.base l:=by
  intro l
  induction l with
  |nil=>intro _ _;trivial
  |cons env r ih =>
   intro g k;let#[i,#[L,o,a,n,j,h],m]:=k;have f:L∈X.fs:=g L (by unfold frs;rwa[List.filterMap_cons,a,cN]);let#[p,e]:=I.base.slot L o j (I.ok.frf L f) f λz=>I.ok.exfs L z f;erw[i,#[L,_,a,n,e,h],ih (λb d=>g b (by unfold frs;rwa[List.filterMap_cons,a,cM _ d])) m]
 erw[c X.outer (λZ d=>d) I.ok.funs]
theorem Inv.stack(I:'i' s):s.heap.FunFrames X.base X.stack:=by
 rcases I.ok.stk with e|⟨e,a⟩
 .rw[e];erw[I.funs]
 .rw[e];let#[m,b,_]:=I.loc;erw[.cons (by rw[I.ok.kind];decide) a b ?_ I.funs,<-Heap.get?_none_of_le (cO I.ok.bsz I.ok.above)]
def Inv.stkSub(I:'i' s):∀b∈frs X.stack,b∈X.env.locals::X.fs:=λb a=>by
 rcases I.ok.stk with e|⟨e,c⟩
 .rw[e]at a;erw[cM _ a]
 .rw[e]at a;unfold frs at a;rw[List.filterMap_cons,c]at a;erw[a]
def Inv.stkFree(I:'i' s):∀b∈frs X.stack,H b=none:=λb a=>by
 rcases cr.mp (I.stkSub b a)with e|a
 .rw[e];erw[I.free]
 .let#[_,o,c,_]:=I.ok.funs.mem a;erw[I.base.free b o c (I.ok.frf b a) λz=>I.ok.exfs b z a]
def Inv.step{g':Array GenState}{d':Drawn}{ch:Χ}(I:'i' s)
  (hch:∀b∈ch,(b∈X.ex\/X.s₀.heap.objs.size<=b)/\b≠X.env.locals/\(∀x c,X.env.cells.lookup x=some c->c≠b)/\∀p∈X.pn++pins,p.1≠b)
  (keep:∀b o,b≠X.env.locals->b∉X.fs->b∉ch->s.heap.get? b=some o->H b=none->h'.get? b=some o)
  (slot:∀b o,b≠X.env.locals->b∈X.fs->b∉ch->s.heap.get? b=some o->H b=none->∃sl,h'.get? b=some {o with slots:=sl}) (free:∀b o,b∉ch->s.heap.get? b=some o->H b=none->H' b=none)
  (there:∀b o,b∉ch->s.heap.get? b=some o->∃o',h'.get? b=some o')
  (tups:∀b xs,H b∪xs->H' b∪xs) (frzs:∀b o u,H b=some (.frz o u)->H' b=some (.frz o u)) (tbls:∀b ps,H b=some (.tbl ps)->∃more,H' b=some (.tbl (ps++more)))
  (ns:∀m,s.heap.Ns X.env.locals m->h'.Ns X.env.locals m) (hok:HOk X.prog X.w H' h') (hg:AllBare g'):
  Inv X pins σ H' {s with heap:=h',gens:=g',drawn:=d',toks:=t'}:=by
 have A:∀b o,X.s₀.heap.get? b=some o->b≠X.env.locals:=λb o e=>cY (cR (cB e) I.ok.above)
 have j:∀b o,X.s₀.heap.get? b=some o->b∉X.ex->b∉ch:=λb o e a t=>by
  rcases (hch b t).1 with z|z
  .erw[a z]
  .erw[absurd (cR (cB e) z) (dM _)]
 have f:∀x c,X.env.cells.lookup x=some c->∀v,s.heap.IsCell c v->h'.IsCell c v:=λx c e v ⟨o,y,C⟩=>by
  have g:c∉ch:=λz=>(hch c z).2.2.1 x c e J;by_cases hc:c∈X.fs
  .let#[sl,q]:=slot c o (I.cne x c e) hc g y (I.freeC x c e);exists _,q,C
  .erw[o,keep c o (I.cne x c e) hc g y (I.freeC x c e),C]
 erw[I.ok,I.os,hg,#[λb o e n t a=>?_,λb o e n t a=>?_,λb o e n a=>?_,λb o e a=>?_,λb xs e=>tups b xs (I.base.tups b xs e),λb o xs e=>frzs b o xs (I.base.frzs b o xs e),λb ps e=>?_],?_,λx c e=>?_,?_,λx c e=>?_,λp F=>?_,hok,I.len]
 .erw[keep b o (A b o e) t (j b o e a) (I.base.keep b o e n t a) (I.base.free b o e n a)]
 .let#[sl,h]:=I.base.slot b o e n t a;let#[D,B]:=slot b _ (A b o e) t (j b o e a) h (I.base.free b o e n a);erw[D,B]
 .let#[o',h]:=I.base.there b o e a;erw[free b o' (j b o e a) h (I.base.free b o e n a)]
 .let#[o',h]:=I.base.there b o e a;erw[there b o' (j b o e a) h]
 .let#[L,h]:=I.base.tbls b ps e;let#[ς,B]:=tbls b _ h;erw[L++ς,by rw[B,Array.append_assoc]]
 .let#[m,M,K]:=I.loc;erw[m,ns m M,λi x v h B N=>?_];let#[u,r,l]:=K i x v h B N;erw[u,r,?_];rcases l with l|⟨k,c,e,z⟩
  .erw[.inl l]
  .erw[.inr #[k,c,e,f x c e _ z]]
 .let#[v,z]:=I.cell x c e;erw[v,f x c e v z]
 .let#[m,#[o,_,_,y,_],_]:=I.loc;erw[free _ o (λz=>(hch _ z).2.1 rfl) y I.free]
 .let#[v,o,y,C]:=I.cell x c e;erw[free c o (λz=>(hch c z).2.2.1 x c e J) y (I.freeC x c e)]
 .let#[e,n,E,G,d]:=I.pin p F;have g:p.1∉ch:=λz=>(hch p.1 z).2.2.2 p F J;erw[keep p.1 p.2 E G g e n,free p.1 p.2 g e n,E,G,d]
def Inv.un(I:'i' s)(u:Un X.fs [] H H' s.heap h')(hok:HOk X.prog X.w H' h'):Inv X pins σ H' {s with heap:=h',toks:=t'}:=by
 let#[m,#[o,p,k,g,r],_]:=id I.loc;let#[l,j]:=u.any g I.free 's'
 erw[I.step (g':=s.gens) (d':=s.drawn) (ch:=[]) (λZ z=>nomatch z) (λb o Z d Z e n=>u.keep b o e n d 's') (λb o Z d Z e n=>u.slot b o e n d 's') (λb o Z e n=>u.free b o e n 's') (λb o Z e=>u.there b o e 's') u.tups u.frzs u.tbls (λt h=>by
  let#[q,f,c,a,i]:=h;rw[g]at a;cases a;erw[_,f,c,j,i]) hok I.bare]
def Inv.call{g':Array GenState}{d':Drawn}{ch:Χ}(I:'i' s)(u:Un (frs X.stack) ch H H' s.heap h')(hok:HOk X.prog X.w H' h')(hg:AllBare g')
  (hch:∀b∈ch,(b∈X.ex\/X.s₀.heap.objs.size<=b)/\b≠X.env.locals/\(∀x c,X.env.cells.lookup x=some c->c≠b)/\∀p∈X.pn++pins,p.1≠b):
  Inv X pins σ H' {s with heap:=h',gens:=g',drawn:=d',toks:=t'}:=by
 let#[m,#[o,v,q,i,r],_]:=id I.loc;let#[t,g]:=u.any i I.free λz=>(hch _ z).2.1 rfl
 erw[I.step (ch:=ch) hch (λb o g l a e n=>u.keep b o e n (λz=>(cr.mp (I.stkSub b z)).elim g l) a) (λb o Z Z a e n=>u.any e n a) (λb o a e n=>u.free b o e n a) (λb o a e=>u.there b o e a) u.tups u.frzs u.tbls (λA j=>by
  let#[y,h,f,d,k]:=j;rw[i]at d;cases d;erw[_,h,f,g,k]) hok hg]
def Inv.turned{it:z4}(I:'i' s)(k:∀b o,b≠it->s.heap.get? b=some o->h'.get? b=some o)(hn:H it=none)(hL:it≠X.env.locals)
  (h1:it∈X.ex\/X.s₀.heap.objs.size<=it) (h2:∀x c,X.env.cells.lookup x=some c->c≠it) (h3:∀p∈X.pn++pins,p.1≠it):'i' {s with heap:=h',toks:=t'}:=by
 have d:∀b u,H b=some u->b≠it:=λb u e z=>by rw[z,hn]at e;cases e
 refine I.step (g':=s.gens) (d':=s.drawn) (ch:=[it]) (λb j=>?_) (λb o Z Z a e Z=>k b o (λz=>a (by simp[z])) e) (λb o Z Z a e Z=>#[o.slots,k b o (λz=>a (by simp[z])) e]) (λZ Z Z Z n=>n)
  (λb o a e=>#[o,k b o (λz=>a (by simp[z])) e]) (λZ Z e=>e) (λZ Z Z e=>e) (λb l e=>#[#[],by rw[e];simp]) (λm f=>?_) (λb u e=>?_) I.bare
 .have e:b=it:=by simpa using j
  subst e;erw[h1,hL,h2,h3]
 .let#[o,i,g,h,r]:=f;erw[o,i,g,k _ o (Ne.symm hL) h,r]
 .erw[(I.hok b u e).stay (λc v a q=>k c v ?_ q) (λZ q=>q) λZ Z q=>q];rcases a with z|z
  .rw[z];erw[d b u e]
  .erw[d c _ z]
def Inv.tok(I:'i' s)(t:Nat):'i' {s with toks:=t}:=I.un (h':=s.heap) (t':=t) Un.refl I.hok
theorem Inv.kept(I:'i' s)(k:∀b u,s.heap.get? b=some u->h'.get? b=some u):'i' {s with heap:=h',toks:=t'}:=I.un (Un.kept k) (I.hok.kept k)
theorem Inv.laid{o:HO}(I:'i' s)(k:∀b u,s.heap.get? b=some u->h'.get? b=some u)(hp:'n'<=a)(new:xq X.prog X.w (upd H a o) h' a o):
  Inv X pins σ (upd H a o) {s with heap:=h',toks:=t'}:=I.un (Un.laid k hp (I.hok.fresh hp)) (I.hok.laid k hp new)
theorem Inv.write{x e:z4}{o:HO}(I:'i' s)(mu:Mut (H x))(he:e=x\/H e=some (.own x))(k:∀b u,b≠e->s.heap.get? b=some u->h'.get? b=some u)(heo:∃u,h'.get? e=some u)
  (new:xq X.prog X.w (upd H x o) h' x o):Inv X pins σ (upd H x o) {s with heap:=h',toks:=t'}:=I.un (Un.write mu he k heo) (I.hok.write mu he k heo new)
def Inv.pins_of{pins':Θ}(I:'i' s)(h:∀p∈pins',s.heap.get? p.1=some p.2/\H p.1=none/\p.1≠X.env.locals/\p.1∉X.fs/\∀v,p.2.data≠.cell v):Inv X pins' σ H s :=
 #[I.ok,I.os,I.bare,I.base,I.loc,I.cell,I.free,I.freeC,λp a=>(cK.mp a).elim (λz=>I.pin p (du _ z)) (h p),I.hok,I.len]
def yaj{N:Τ}(hN:N.Nodup){i j:Nat}{x:Str}(a:N[i]?=some x)(b:N[j]?=some x):i=j:=by let#[e,d]:=ck.mp a;let#[f,c]:=ck.mp b;erw[(List.getElem_inj hN).mp (d.trans c.symm)]
def Ħ{A:qf}{i:Nat}{x:Str}{Q:Unit->qa->Prop}(I:'i' s)(hN:X.N.Nodup)(hi:X.N[i]?=some x)(hx:Loc X.env.scope x)(r:xr v u)
  (h:∀s',Inv X pins (σ.set i (some v)) H s'->(∃a,Heap.SameBut a s.heap s'.heap/\(a=X.env.locals\/X.env.cells.lookup x=some a))->Q ⟨⟩ s') (hf:autoParam (X.fn x=true\/X.env.scope.names.lookup x=some .local) aG._auto_1):wpAny M A (storeName X.env x u) Q E s:=by
 let#[m,hn,hl]:=id I.loc;have R:(X.env.scope.kind == .class || (X.env.scope.kind == .module && X.env.locals != X.env.globals))=false:=by rw[I.ok.kind];rfl
 have hiσ:i<σ.length:=by rwa[I.len,(ck.mp hi).1]
 let G:=I.cne
 have g:∀{a:z4}{K:qg},(∃o,s.heap.get? a=some o/\H a=none)->Heap.SameBut a s.heap K->HOk X.prog X.w H K:=λ{a K}ha f b ob e=>by
  let#[_,_,B]:=ha;erw[(I.hok b ob e).stay (λc S t q=>(f.2 c ?_).trans q) (λN q=>q) λN N q=>q];rintro rfl;rcases t with rfl|t
  .rw[B]at e;cases e
  .rw[B]at t;cases t
 rcases hx with D|D
 .erw[wpAny_storeName_local D hn (λK a0 f=>?_) R];let#[oL,_,_,a1,_]:=id hn;refine h _ #[I.ok,I.os,I.bare,#[λb o e n F hx=>?_,λb o e n F hx=>?_,I.base.free,λb o e hx=>?_,I.base.tups,I.base.frzs,I.base.tbls],#[_,a0,λj y Y l C e3=>?_],λy c e=>?_,I.free,I.freeC,λp hp=>?_,g #[oL,a1,I.free] f,by simpa using I.len] #[_,f,.inl J]
  .erw[(f.2 b (cY (cR (cB e) I.ok.above))).trans (I.base.keep b o e n F hx)]
  .let#[Z,l]:=I.base.slot b o e n F hx;erw[Z,(f.2 b (cY (cR (cB e) I.ok.above))).trans l]
  .let#[o',l]:=I.base.there b o e hx;erw[o',(f.2 b (cY (cR (cB e) I.ok.above))).trans l]
  .by_cases hj:j=i
   .subst hj;rw[hi]at l;cases l;rw[List.getElem?_set_self hiσ]at C;cases C;erw[u,r,.inl #[D,'s']]
   .rw[List.getElem?_set_ne (Ne.symm hj)]at C;let#[u',W,q]:=hl j y Y l C e3;erw[u',W,?_];rcases q with⟨k,e⟩|⟨k,c,e,z⟩
    .erw[.inl #[k,?_]];have:y≠x:=λe=>hj (yaj hN l (e ▸ hi));simp[this,e]
    .erw[.inr #[k,c,e,z.sameBut f (G y c e)]]
  .let#[S,z]:=I.cell y c e;erw[S,z.sameBut f (G y c e)]
  .let#[e,n,U,nf,d]:=I.pin p hp;erw[(f.2 p.1 U).trans e,n,U,nf,d]
 .have ς:X.fn x=true:=by
   rcases hf with z|z
   .erw[z]
   .rw[z]at D;cases D
  let#[c,t]:=I.ok.has x (.inl D);let#[S,z]:=I.cell x c t;erw[wpAny_storeName_cell I.ok.kind D t z (λK P f=>?_)];let#[oc,L,O]:=id z;erw[h {s with heap:=K} #[I.ok,I.os,I.bare,#[λb o e n F hx=>?_,λb o e n F hx=>?_,I.base.free,λb o e hx=>?_,I.base.tups,I.base.frzs,I.base.tbls],#[m,hn.sameBut f (Ne.symm (G x c t)),λj y Y l C e3=>?_],λy T e=>?_,I.free,I.freeC,λp hp=>?_,g #[oc,L,I.freeC x c t] f,by simpa using I.len] #[c,f,.inr t]]
  .erw[(f.2 b (cY (cR (cB e) (I.ok.cab x c ς t)))).trans (I.base.keep b o e n F hx)]
  .let#[Z,l]:=I.base.slot b o e n F hx;erw[Z,(f.2 b (cY (cR (cB e) (I.ok.cab x c ς t)))).trans l]
  .let#[o',l]:=I.base.there b o e hx;erw[o',(f.2 b (cY (cR (cB e) (I.ok.cab x c ς t)))).trans l]
  .by_cases hj:j=i
   .subst hj;rw[hi]at l;cases l;rw[List.getElem?_set_self hiσ]at C;cases C;erw[u,r,.inr #[.inl D,c,t,P]]
   .rw[List.getElem?_set_ne (Ne.symm hj)]at C;let#[u',W,q]:=hl j y Y l C e3;erw[u',W,?_];rcases q with q|⟨k,T,e,z'⟩
    .erw[.inl q]
    .erw[.inr #[k,T,e,z'.sameBut f ?_]];rintro rfl;erw[hj (yaj hN l (I.ok.inj _ _ _ e t ▸ hi))]
  .by_cases hcc:T=c
   .subst hcc;erw[_,P]
   .let#[w2,z2]:=I.cell y T e;erw[w2,z2.sameBut f hcc]
  .let#[e,n,U,nf,d]:=I.pin p hp;erw[(f.2 p.1 ?_).trans e,n,U,nf,d];intro q;rw[q,L]at e;have q':oc=p.2:=cu e;erw[d S (by rwa[<- q',O])]
def yao{A:qf}{i:Nat}{x:Str}{Q:Unit->qa->Prop}(I:'i' s)(hN:X.N.Nodup)(hi:X.N[i]?=some x)(hx:Loc X.env.scope x)(r:xr v u)
  (h:∀s',Inv X pins (σ.set i (some v)) H s'->Q ⟨⟩ s') (hf:autoParam (X.fn x=true\/X.env.scope.names.lookup x=some .local) aG._auto_1):wpAny M A (storeName X.env x u) Q E s :=
 Ħ I hN hi hx r (λs' a Z=>h s' a) hf
def Inv.call'{ch:Χ}(I:'i' s)(ho:s'.os=s.os)(u:Un (frs X.stack) ch H H' s.heap s'.heap)(hok:HOk X.prog X.w H' s'.heap)(hg:AllBare s'.gens)
  (hch:∀b∈ch,(b∈X.ex\/X.s₀.heap.objs.size<=b)/\b≠X.env.locals/\(∀x c,X.env.cells.lookup x=some c->c≠b)/\∀p∈X.pn++pins,p.1≠b):Inv X pins σ H' s':=by let#[d,g',d',t',a]:=s';have e:a=s.os:=ho;subst e;erw[I.call (g':=g') (t':=t') (d':=d') u hok hg hch]
end
end
mutual
abbrev XK:=qc->ql z4->Hp->Prop
abbrev St:=qj (Ψ)
abbrev _root_.Ζ:=St->Hp->Prop
variable{σ:St}
abbrev VK:=V->Hp->Prop
abbrev TE:=St->Hp->VK->Prop
variable{ta te:TE}
abbrev TT:=St->Hp->(Bool->Hp->Prop)->Prop
abbrev TA:=St->Hp->(qj V->Hp->Prop)->Prop
structure ç where
 nx:Ζ
 rt:VK
 bk:Ζ:=λZ Z=>False
 ct:Ζ:=λZ Z=>False
abbrev TS:=ç->St->Hp->Prop
def EP(X:Cx)(pins:Θ)(σ:St)(Q:VK)(u:qc)(s':qa):Prop:=∃v H',Inv X pins σ H' s'/\xr v u/\Q v H'
def TP(X:Cx)(pins:Θ)(σ:St)(Q:Bool->Hp->Prop)(b:Bool)(s':qa):Prop:=∃H',Inv X pins σ H' s'/\Q b H'
def AP(X:Cx)(pins:Θ)(σ:St)(Q:qj V->Hp->Prop)(us:Ο)(s':qa):Prop:=∃vs H',Inv X pins σ H' s'/\w8 vs us/\Q vs H'
def SP(X:Cx)(pins:Θ)(D:ç)(f:Flow)(s':qa):Prop :=
 match f with
 | .next=>∃σ' H',Inv X pins σ' H' s'/\D.nx σ' H'
 | .brk=>∃σ' H',Inv X pins σ' H' s'/\D.bk σ' H'
 | .cont=>∃σ' H',Inv X pins σ' H' s'/\D.ct σ' H'
 | .ret u=>∃v σ' H',Inv X pins σ' H' s'/\xr v u/\D.rt v H'
structure PE(X:Cx)(e:qh)(t:TE):Prop where
 go:∀(pins:Θ)(s:qa)(σ:St)(H:Hp)(Q:VK),'i' s->t σ H Q->'w' (eval e X.env) (EP X pins σ Q) X.xe s
instance {X:Cx}{e:qh}{t:TE}:CoeFun (PE X e t) (λZ=>∀(pins:Θ)(s:qa)(σ:St)(H:Hp)(Q:VK),'i' s->t σ H Q->'w' (eval e X.env) (EP X pins σ Q) X.xe s):=⟨PE.go⟩
structure PT(X:Cx)(e:qh)(t:TT):Prop where
 go:∀(pins:Θ)(s:qa)(σ:St)(H:Hp)(Q:Bool->Hp->Prop),'i' s->t σ H Q->'w' (isTrue e X.env (eval e X.env)) (TP X pins σ Q) X.xe s
instance {X:Cx}{e:qh}{t:TT}:CoeFun (PT X e t) (λZ=>∀(pins:Θ)(s:qa)(σ:St)(H:Hp)(Q:Bool->Hp->Prop),'i' s->t σ H Q->'w' (isTrue e X.env (eval e X.env)) (TP X pins σ Q) X.xe s):=⟨PT.go⟩
def PW(X:Cx)(e:qh)(t:TT):Prop :=
 ∀(whole:Sem qc)(pins:Θ)(s:qa)(σ:St)(H:Hp)(Q:Bool->Hp->Prop),'i' s->t σ H Q->'w' (isTrue e X.env whole) (TP X pins σ Q) X.xe s
def PW.pt{e:qh}{t:TT}(h:PW X e t):PT X e t:=⟨h _⟩
structure PA(X:Cx)(es:qj qh)(t:TA):Prop where
 go:∀(pos:Pos)(pins:Θ)(s:qa)(σ:St)(H:Hp)(Q:qj V->Hp->Prop),'i' s->t σ H Q->'w' (spliced (backTo pos (starEach es X.env))) (AP X pins σ Q) X.xe s
instance {X:Cx}{es:qj qh}{t:TA}:CoeFun (PA X es t) (λZ=>∀(pos:Pos)(pins:Θ)(s:qa)(σ:St)(H:Hp)(Q:qj V->Hp->Prop),'i' s->t σ H Q->'w' (spliced (backTo pos (starEach es X.env))) (AP X pins σ Q) X.xe s):=⟨PA.go⟩
structure PS(X:Cx)(st:qd)(t:TS):Prop where
 go:∀(pins:Θ)(s:qa)(σ:St)(H:Hp)(D:ç),'i' s->t D σ H->'w' (exec st X.env) (SP X pins D) X.xe s
instance {X:Cx}{st:qd}{t:TS}:CoeFun (PS X st t) (λZ=>∀(pins:Θ)(s:qa)(σ:St)(H:Hp)(D:ç),'i' s->t D σ H->'w' (exec st X.env) (SP X pins D) X.xe s):=⟨PS.go⟩
structure PSs(X:Cx)(st:qj qd)(t:TS):Prop where
 go:∀(pins:Θ)(s:qa)(σ:St)(H:Hp)(D:ç),'i' s->t D σ H->'w' (execs st X.env) (SP X pins D) X.xe s
instance {X:Cx}{st:qj qd}{t:TS}:CoeFun (PSs X st t) (λZ=>∀(pins:Θ)(s:qa)(σ:St)(H:Hp)(D:ç),'i' s->t D σ H->'w' (execs st X.env) (SP X pins D) X.xe s):=⟨PSs.go⟩
def thn{α:Type}{t:Sem α}{Q Q':α->qa->Prop}{A:qf}{s:qa}(h:wpAny M A t Q E s)(hQ:∀a s,Q a s->Q' a s):wpAny M A t Q' E s:=dF h hQ λZ Z x=>x
end
section
mutual
def yxb(i:Nat):TE:=λσ H Q=>∃v,σ[i]?=some (some v)/\Q v H
def tC(v:V):TE:=λZ H Q=>Q v H
def ylf{i:Nat}{x:Str}{pos:Pos}(hN:X.N[i]?=some x)(hv:Vis X.env.scope x)(hd:⇑'d')(hcd:⇑((x == ("__classdict__":Str))=false)):PE X (.Name x pos) (yxb i):=by
 erw[.mk λf s σ H Q I h=>?_];let#[v,e,h]:=h;let#[m,n,k]:=I.loc;let#[u,r,l]:=k i x v hN e hv;have d:EP X f σ Q u s:=#[v,H,I,r,h];rcases l with⟨b,j⟩|⟨b,c,g,a⟩
 .erw[wpAny_Name (wpAny_loadName_local I.ok.kind b n j d) hd]
 .rcases b with b|b
  .erw[wpAny_Name (wpAny_loadName_cell I.ok.kind b g a d) hd]
  .erw[wpAny_Name (wpAny_loadName_free I.ok.kind b g a d hcd) hd]
def yf{i j pos}:PE X (.Constant (.int i) j pos) (tC (.int i)):=.mk λZ Z Z H Z I h=>wpAny_Constant_int #[.int i,H,I.tok _,#[_,J],h]
def uk{b j pos}:PE X (.Constant (.bool b) j pos) (tC (.bl b)):=.mk λZ Z Z H Z I h=>Constant_bool #[.bl b,H,I,J,h]
def z6{j pos}:PE X (.Constant .none j pos) (tC .non):=.mk λZ Z Z H Z I h=>Constant_none #[.non,H,I,J,h]
def y8{x j pos}:PE X (.Constant (.str x) j pos) (tC (.str x)):=.mk λZ Z Z H Z I h=>Calls.Constant_str #[.str x,H,I.tok _,#[_,J],h]
def Gl(X:Cx)(x:Str):Prop:=X.env.kindOf x=some .globalImplicit
def θ{s:qa}{x:Str}{pos:Pos}(I:'i' s)(hg:Gl X x)(hm:X.mg x=some u)(h:Q u s)
  (hd:⇑'d'):'w' (eval (.Name x pos) X.env) Q E s :=
 Calls.Name_function_global I.ok.kind hg (Calls.loadGlobal_global (by rwa[I.ok.glob,I.mod.glob.keeps I.bk]) hm h) hd
def Ą{s:qa}{x:Str}{pos:Pos}(I:'i' s)(hg:Gl X x)(hm:X.mg x=none)(hv:bootBuiltins x=some u)(h:Q u s)
  (hn:⇑(x≠"__name__")) (hd:⇑'d'):'w' (eval (.Name x pos) X.env) Q E s:=by let#[c,a,b]:=I.mod.blt;erw[Calls.Name_function_global I.ok.kind hg (Calls.loadGlobal_builtin (by rwa[I.ok.glob,I.mod.glob.keeps I.bk]) hm (by rwa[I.ok.blt,a.keeps I.bk]) ((b x hn).trans hv) h) hd]
def yd9{x:Str}{pos:Pos}(hg:Gl X x)(hm:X.mg x=some u)(r:xr v u)(hd:⇑'d'):PE X (.Name x pos) (tC v):=.mk
 λZ Z Z H Z I h=>θ I hg hm #[v,H,I,r,h] hd
def yuv{x:Str}{pos:Pos}(hg:Gl X x)(hm:X.mg x=none)(hv:bootBuiltins x=some u)(r:xr v u)(hn:⇑(x≠"__name__"))(hd:⇑'d'):PE X (.Name x pos) (tC v):=.mk
 λZ Z Z H Z I h=>Ą I hg hm hv #[v,H,I,r,h] hn hd
variable{a b:qh}{tb:TE}{pos:Pos}
def PC(X:Cx)(op:CmpOp)(a b:qh)(t:TE):Prop :=
 ∀(pins:Θ)(s:qa)(σ:St)(H:Hp)(Q:VK),'i' s->t σ H Q ->
  wpAny (model X.prog X.w) X.A (eval a X.env) (λv s₁=>'w' (eval b X.env) (λu s₂=>'w' (compareOp op v u) (EP X pins σ Q) X.xe s₂) X.xe s₁) X.xe s
def tB(t:TE):TT:=λσ H Q=>t σ H λx H1=>∃c,x=.bl c/\Q c H1
def ĵ{t:TE}(h:PC X op a b t)(h1:behindInMarks op b=false:=by first|erw[nobehind _ ∅ ∅]|rfl):PT X (.Compare a [op] [b] pos) (tB t):=by refine .mk λe s σ H Q I f=>?_;erw[wpAny_isTrue_Compare1 (thn (h e s σ H _ I f) λv o h1=>thn h1 λu n i=>thn i λc m h'=>?_) h1];let#[x,g,l,j,k]:=h';let#[d,J,q]:=k;cases j;erw[dA #[g,l,q]]
def xo{e:qh}{t:TE}(h:PE X e t)(he:autoParam (∀whole,isTrue e X.env whole=(do let v <- whole;standAt e.pos;holding [v] (truthy v))) aD._auto_1):PT X e (tB t):=by refine .mk λa s σ H Q I b=>?_;erw[isTrue_plain (thn (h a s σ H _ I b) λv j h'=>?_) (he _)];let#[x,c,i,f,g]:=h';let#[d,J,q]:=g;cases f;erw[dA #[c,i,q]]
variable{tA tB':TT}{xt:qj qh}
def vje(t u:TT):TT:=λσ H Q=>t σ H λc H1=>if c=true then u σ H1 Q else Q false H1
def tOr(t u:TT):TT:=λσ H Q=>t σ H λc H1=>if c=true then Q true H1 else u σ H1 Q
def vj7(t:TT):TT:=λσ H Q=>t σ H λc H1=>Q (!c) H1
def ya3(ha:PT X a tA):PW X (.BoolOp .And [a] pos) tA:=by
 intro f b s σ H Q I h;erw[isTrue_and (thn (ha b s σ H Q I h) λc d e=>?_)]
 cases c with
 |true=>erw[isTrue_and_nil e]
 |false=>erw[e]
def à(ha:PT X a tA):PW X (.BoolOp .Or [a] pos) tA:=by
 intro f b s σ H Q I h;erw[isTrue_or (thn (ha b s σ H Q I h) λc d e=>?_)]
 cases c with
 |false=>erw[isTrue_or_nil e]
 |true=>erw[e]
def ycl(ha:PT X a tA)(hb:PW X (.BoolOp .And (b::xt) pos) tB'):PW X (.BoolOp .And (a::b::xt) pos) (vje tA tB'):=by
 intro i d s σ H Q I h;erw[isTrue_and (thn (ha d s σ H _ I h) λc j ⟨e,g,f⟩=>?_)]
 cases c with
 |true=>erw[hb i d j σ e Q g f]
 |false=>erw[e,g,f]
def ü(ha:PT X a tA)(hb:PW X (.BoolOp .Or (b::xt) pos) tB'):PW X (.BoolOp .Or (a::b::xt) pos) (tOr tA tB'):=by
 intro i d s σ H Q I h;erw[isTrue_or (thn (ha d s σ H _ I h) λc j ⟨e,g,f⟩=>?_)]
 cases c with
 |true=>erw[e,g,f]
 |false=>erw[hb i d j σ e Q g f]
def xn(ha:PT X a tA):PT X (.UnaryOp .Not a pos) (vj7 tA):=by refine .mk λb s σ H Q I h=>?_;erw[isTrue_not (ha b s σ H (λc d=>Q (!c) d) I h)]
def vdv(ta tb:TE):TE:=λσ H Q=>ta σ H λx H1=>∃c,x=.bl c/\if c=true then tb σ H1 Q else Q (.bl false) H1
def ves(ta:TE):TE:=λσ H Q=>ta σ H λx H1=>∃c,x=.bl c/\Q (.bl (!c)) H1
def je{op}{t:TE}(h:PE X a t):PE X (.BoolOp op [a] pos) t:=.mk λb s σ H Q I c=>BoolOp_one (h b s σ H Q I c)
def u7(ha:PE X a ta)(hb:PE X (.BoolOp .And (b::xt) pos) tb):PE X (.BoolOp .And (a::b::xt) pos) (vdv ta tb):=by
 erw[.mk λd s σ H Q I h=>?_,<-BoolOp_and (thn (ha d s σ H _ I h) λv j h'=>?_)];let#[x,f,g,i,e]:=h';let#[c,J,e]:=e;cases i;erw[dA ?_]
 cases c with
 |true=>erw[hb d j σ f Q g e]
 |false=>erw[.bl false,f,g,J,e]
def vbx(ha:PE X a ta):PE X (.UnaryOp .Not a pos) (ves ta):=by refine .mk λb s σ H Q I h=>?_;erw[UnaryOp_ (thn (ha b s σ H _ I h) λv i h'=>?_)];let#[x,e,g,f,d]:=h';let#[c,J,d]:=d;cases f;erw[not_of (dA #[.bl (!c),e,g,J,d])]
def tIf(t:TT)(ta tb:TE):TE:=λσ H Q=>t σ H λc H1=>if c=true then ta σ H1 Q else tb σ H1 Q
def jq{c:qh}(hc:PT X c tA)(ha:PE X a ta)(hb:PE X b tb):PE X (.IfExp c a b pos) (tIf tA ta tb):=by
 erw[.mk λe s σ H Q I h=>?_,<-wpAny_IfExp (thn (hc e s σ H _ I h) λd i ⟨f,j,g⟩=>?_)]
 cases d with
 |true=>erw[ha e i σ f Q j g]
 |false=>erw[hb e i σ f Q j g]
end
end
mutual
def SqL(K:z3)(H:Hp)(a:z4)(xs:Υ):Prop :=
 Rd H a (.lst xs) \/
  ∃(o:Obj)(its:Array qc)(n:Nat),K.lookup a=some o/\o.cls=.type "list"/\o.dict=none/\o.data=.seq its n/\its.size<=sizeLine/\w8 xs its.toList
def SqT(K:z3)(H:Hp)(a:z4)(xs:Υ):Prop :=
 Rd H a (.tup xs) \/
  ∃(o:Obj)(its:Array qc)(n:Nat),K.lookup a=some o/\o.cls=.type "tuple"/\o.data=.seq its n/\its.size<=sizeLine/\w8 xs its.toList
noncomputable def vk8:qc->ql V
 | .none=>some .non
 | .bool b=>some (.bl b)
 | .int i _=>some (.int i)
 | .str x _=>some (.str x)
 | .bytes b _=>some (.byt b)
 | .float b _=>some (.flt b)
 | .ref a=>some (.ref a)
 | .type n=>some (.ty n)
 |_=>none
def xr.abs{x:V}(r:xr x u):vk8 u=some x:=by
 cases x with
 |non=>cases r;rfl
 |bl _=>cases r;rfl
 |int _=>let⟨t,rfl⟩:=r;rfl
 |str _=>let⟨t,rfl⟩:=r;rfl
 |byt _=>let⟨t,rfl⟩:=r;rfl
 |flt _=>let⟨t,rfl⟩:=r;rfl
 |ref _=>cases r;rfl
 |ty _=>cases r;rfl
def xr.inj{x:V}(r:xr x u)(q:xr y u):x=y:=cu (r.abs.symm.trans q.abs)
theorem w8.inj(h:w8 xs us)(k:w8 ys us):xs=ys:=by
 induction h generalizing ys with
 |nil=>cases k;rfl
 |cons r t ih =>
  cases k with
  |cons r' t'=>rw[r.inj r',ih t']
end
section
mutual
variable{s:qa}
def SqL.of{K:z3}(h:H a\xs):SqL K H a xs:=.inl (.inl h)
def SqT.of{K:z3}(h:H a∪xs):SqT K H a xs:=.inl (.inl h)
def Inv.list(I:'i' s)(h:SqL X.K H a xs):∃its:Ο,w8 xs its/\PlainL s.heap a its.toArray/\xs.length<=sizeLine:=by
 rcases h with h|⟨o,its,n,c,f,b,d,g,r⟩
 .let#[z,its,n,r,e]:=h.ok I.hok;erw[its,r,#[_,n,e,J,J,J],z]
 .erw[its.toList,r,#[o,n,I.kIn a o c,f,b,by simpa using d],?_];let e:=r.length;simp only[dB]at e;omega
def Inv.tuple(I:'i' s)(h:SqT X.K H a xs):∃its:Ο,w8 xs its/\IsTup s.heap a its.toArray/\xs.length<=sizeLine:=by
 rcases h with h|⟨o,its,n,d,c,b,f,r⟩
 .let#[z,its,r,p]:=h.ok I.hok;erw[its,r,p,z]
 .erw[its.toList,r,#[o,I.kIn a o d,c,n,by simpa using b],?_];let e:=r.length;simp only[dB]at e;omega
def Inv.list_inj(I:'i' s)(h:SqL X.K H a xs)(h':SqL X.K H a ys):xs=ys:=by
 let#[c,r,#[o,n,e,_,_,d],_]:=I.list h;let#[b,i,#[k,j,g,_,_,f],_]:=I.list h';rw[e]at g;cases g;rw[d]at f;injection f with d1 _;have:c=b:=by simpa using congrArg Array.toList d1
 subst this;erw[r.inj i]
def Inv.tuple_inj(I:'i' s)(h:SqT X.K H a xs)(h':SqT X.K H a ys):xs=ys:=by
 let#[c,r,#[o,e,_,n,d],_]:=I.tuple h;let#[b,i,#[k,g,_,j,f],_]:=I.tuple h';rw[e]at g;cases g;rw[d]at f;injection f with d1 _;have:c=b:=by simpa using congrArg Array.toList d1
 subst this;erw[r.inj i]
end
end
mutual
noncomputable abbrev Cx.wish(X:Cx)(E:Δ):Cx:={X with xe:=E}
noncomputable abbrev Cx.nox(X:Cx):Cx:=X.wish λZ Z=>False
theorem Cx.Ok.wish(ok:X.Ok)(E:Δ):(X.wish E).Ok :=
 #[ok.mod,ok.kind,ok.glob,ok.blt,ok.above,ok.inj,ok.has,ok.cab,ok.hd,ok.frames,ok.stk,ok.exf,ok.bs,ok.bsz,ok.noex,ok.exfs,ok.funs,ok.frf]
def Cx.Ok.unwish(ok:(X.wish E).Ok):X.Ok :=
 #[ok.mod,ok.kind,ok.glob,ok.blt,ok.above,ok.inj,ok.has,ok.cab,ok.hd,ok.frames,ok.stk,ok.exf,ok.bs,ok.bsz,ok.noex,ok.exfs,ok.funs,ok.frf]
end
section
mutual
variable{s:qa}
theorem Inv.wish(I:'i' s)(E:Δ):Inv (X.wish E) pins σ H s:=#[I.ok.wish E,I.os,I.bare,I.base,I.loc,I.cell,I.free,I.freeC,I.pin,I.hok,I.len]
theorem Inv.unwish(I:Inv (X.wish E) pins σ H s):'i' s:=#[I.ok.unwish,I.os,I.bare,I.base,I.loc,I.cell,I.free,I.freeC,I.pin,I.hok,I.len]
theorem SP.unwish{D:ç}{f:Flow}(h:SP (X.wish E) pins D f s'):SP X pins D f s':=by
 cases f with
 |next=>let⟨σ',a,I,q⟩:=h;erw[σ',a,I.unwish,q]
 |brk=>let⟨σ',a,I,q⟩:=h;erw[σ',a,I.unwish,q]
 |cont=>let⟨σ',a,I,q⟩:=h;erw[σ',a,I.unwish,q]
 |ret u=>let⟨v,σ',a,I,r,q⟩:=h;erw[v,σ',a,I.unwish,r,q]
theorem PSs.nox{st:qj qd}{t:TS}(h:PSs X.nox st t):PSs X st t:=.mk λa s σ H D I b =>
 dF (h a s σ H D (I.wish _) b) (λZ Z q=>q.unwish) λZ Z z=>False.elim z
end
end
section
mutual
variable{st:qd}{xt:qj qd}{t u:TS}{e:qh}{pos:Pos}
def vee:TS:=λD σ H=>D.nx σ H
def vi1(t u:TS):TS:=λD σ H=>t {D with nx:=u D} σ H
def yq:PSs X [] vee:=.mk λZ Z σ H Z I h=>wpAny_execs_nil #[σ,H,I,h]
def yh(h1:PS X st t)(h2:PSs X xt u):PSs X (st::xt) (vi1 t u):=by
 erw[.mk λa s σ H D I h=>?_,<-wpAny_execs_cons (thn (h1 a s σ H {D with nx:=u D} I h) λf c q=>?_)]
 cases f with
 |next =>
  let#[σ',d,b,q]:=q;erw[h2 a c σ' d D b q]
 |ret v=>erw[q]
 |brk=>erw[q]
 |cont=>erw[q]
def yc(h1:PS X st t):PSs X [st] t:=by
 erw[.mk λa s σ H D I h=>?_,<-wpAny_execs_cons (thn (h1 a s σ H D I h) λf b q=>?_)]
 cases f with
 |next=>erw[wpAny_execs_nil q]
 |ret v=>erw[q]
 |brk=>erw[q]
 |cont=>erw[q]
def Inv.quiet{s:qa}(I:'i' s):interactive X.env=false:=by simp[interactive,I.ok.kind]
def ve0(te:TE):TS:=λD σ H=>te σ H λZ H1=>D.nx σ H1
def yy(he:PE X e te)(hs:↑(swapsWith e none pos.line X.env=pure false)):PS X (.Expr e pos) (ve0 te):=by refine .mk λa s σ H D I h=>?_;erw[wpAny_Expr_any (thn (he a s σ H _ I h) λv g ⟨x,b,d,f,c⟩=>#[σ,b,d,c]) I.quiet hs]
def vjv(te:TE):TS:=λD σ H=>te σ H D.rt
def ym(he:PE X e te):PS X (.Return (some e) pos) (vjv te):=by refine .mk λa s σ H D I h=>?_;erw[wpAny_Return_some (thn (he a s σ H _ I h) λv g ⟨x,b,f,c,d⟩=>#[x,σ,b,f,c,d])]
def vgv(c:TT)(t u:TS):TS:=λD σ H=>c σ H λb H1=>if b=true then t D σ H1 else u D σ H1
def vj{c:qh}{a b:qj qd}{tc:TT}(hc:PT X c tc)(ha:PSs X a t)(hb:PSs X b u):PS X (.If c a b pos) (vgv tc t u):=by
 erw[.mk λe s σ H D I h=>?_,<-wpAny_If (thn (hc e s σ H _ I h) λd i ⟨f,j,g⟩=>?_)]
 cases d with
 |true=>erw[ha e i σ f D j g]
 |false=>erw[hb e i σ f D j g]
def yx2:TS:=λZ Z Z=>False
def za:PS X st yx2:=.mk λZ Z Z Z Z Z h=>h.elim
end
end
mutual
abbrev TG:=V->St->Hp->(Ζ)->Prop
abbrev TGs:=qj V->St->Hp->(Ζ)->Prop
def PG(X:Cx)(target:qh)(t:TG):Prop :=
 ∀(pins:Θ)(s:qa)(σ:St)(H:Hp)(v:V)(u:qc)(Q:Ζ),'i' s->xr v u->t v σ H Q ->
  wpAny (model X.prog X.w) X.A (assign target X.env u) (λZ s'=>∃σ' H',Inv X pins σ' H' s'/\Q σ' H') X.xe s
def PGs(X:Cx)(ts:qj qh)(t:TGs):Prop :=
 ∀(pins:Θ)(s:qa)(σ:St)(H:Hp)(vs:Υ)(us:Ο)(Q:Ζ),'i' s->w8 vs us->t vs σ H Q ->
  wpAny (model X.prog X.w) X.A (assignInOrder ((assignEach ts X.env).map (·.2)) us) (λZ s'=>∃σ' H',Inv X pins σ' H' s'/\Q σ' H') X.xe s
end
section
mutual
variable{pos:Pos}
def xi(i:Nat):TG:=λv σ H Q=>Q (σ.set i (some v)) H
def vz{i:Nat}{x:Str}(hN:X.N.Nodup)(hi:X.N[i]?=some x)(hx:Loc X.env.scope x)(hf:autoParam (X.fn x=true\/X.env.scope.names.lookup x=some .local) aG._auto_1):PG X (.Name x pos) (xi i):=by intro a s σ H v u Q I r h;erw[wpAny_assign_Name (yao I hN hi hx r (λc b=>#[_,H,b,h]) hf)]
def yl4:TGs:=λvs σ H Q=>vs=[]/\Q σ H
def zw(t:TG)(u:TGs):TGs:=λvs σ H Q=>∃v r,vs=v::r/\t v σ H λσ' H'=>u r σ' H' Q
def ö:PGs X [] yl4:=by intro a s σ H c b Q I r h;let#[e,h]:=h;subst e;cases r;erw[assignInOrder_nil #[σ,H,I,h]]
def xw{e:qh}{t:TG}{u:TGs}(h1:PG X e t)(h2:PGs X es u)
  (hs:↑((assignEach (e::es) X.env).map (·.2)=assign e X.env::(assignEach es X.env).map (·.2))):PGs X (e::es) (zw t u):=by
 intro a s σ H j i Q I r h;let#[v,k,b,h]:=h;subst b
 cases r with
 |cons r rr =>
  rwa[hs,assignInOrder_cons (thn (h1 a s σ H _ _ _ I r h) λZ f ⟨σ1,c,g,d⟩=>?_)];erw[h2 a f σ1 c _ _ Q g rr d]
def yw2(K:z3)(n:Nat)(t:TGs):TG:=λv σ H Q=>∃a xs,v=.ref a/\SqT K H a xs/\xs.length=n/\t xs σ H Q
def Ţ{k:Nat}{t:TGs}{n:Nat}(hc:X.calm=true)(h:PGs X es t)
  (hn:↑((assignEach es X.env).length=n)) (hst:↑((assignEach es X.env).findIdx? (·.1)=none)):PG X (.Tuple es k pos) (yw2 X.K n t):=by intro c s σ H v u Q I r d;let#[a,p,j,i,l,d]:=d;subst j;cases r;let#[m,f,q,y]:=I.tuple i;erw[assign_Tuple_tuple (I.ok.hd hc) q (by simp[hn,<- l,f.length]) hst λg x=>?_];have w:Inv X c σ H {s with heap:=g}:=I.kept (t':=s.toks) λb o e=>x b o (cY (cB e)) e;erw[h c _ σ H p _ Q w (by simpa using f) d]
def yw6(te:TE)(g:TG):TS:=λD σ H=>te σ H λx H1=>g x σ H1 D.nx
def vaa{e:qh}{g:TG}(he:PE X e te)(hg:PG X tg g)(hs:↑(swapsWithSole [tg] e pos.line X.env=pure false))(hw:↑(swappedStores [tg] e X.env=pure none))
  (h1:↑((assignEach [tg] X.env).map (·.2)=[assign tg X.env])):PS X (.Assign [tg] e pos) (yw6 te g):=by refine .mk λa s σ H D I h=>?_;erw[wpAny_Assign_stores (thn (he a s σ H _ I h) λv f h'=>?_) hs hw];let#[x,b,i,c,d]:=h';rwa[h1,thn (hg a f σ b x v _ i c d) λZ j q=>q]
def z8{i:Nat}{x:Str}{e:qh}{pos':Pos}(hN:X.N.Nodup)(hi:X.N[i]?=some x)(hx:Loc X.env.scope x)(he:PE X e te)(hs:↑(swapsWith e (some (.Name x pos')) pos.line X.env=pure false))(hf:autoParam (X.fn x=true\/X.env.scope.names.lookup x=some .local) aG._auto_1):
  PS X (.Assign [.Name x pos'] e pos) (yw6 te (xi i)):=by refine .mk λa s σ H D I h=>?_;erw[wpAny_Assign_Name (thn (he a s σ H _ I h) λv k h'=>?_) hs];let#[y,b,f,c,d]:=h';erw[yao f hN hi hx c (λj g=>#[_,b,g,d]) hf]
end
end
section
variable{pos:Pos}
def yy2(c:TT)(tb:TS):TS:=λD σ H=>∃W:Nat->St->Hp->Prop,(∃m,W m σ H)/\∀m σ H,W m σ H ->
 c σ H λb H1=>if b=true then ∃N:Ζ,(∀σ' H',N σ' H'->∃m',m'<m/\W m' σ' H')/\tb {D with nx:=N,ct:=N,bk:=D.nx} σ H1 else D.nx σ H1
def ψ{c:qh}{tc:TT}{tb:TS}(hp:PassesOwn (model X.prog X.w) X.A X.env X.xe)(hc:PT X c tc)(hb:PSs X body tb):PS X (.While c body [] pos) (yy2 tc tb):=by
 erw[.mk λa s σ H D I h=>?_];let#[W,#[B,C],e]:=h;erw[wpAny_While (codeAny_whileLoop (λn u=>∃σ' H',Inv X a σ' H' u/\W n σ' H') ?_ B #[σ,H,I,C])];rintro n E ⟨σ1,q,y,x⟩;erw[wpAny_passesOwn hp (thn (hc a E σ1 q _ y (e n σ1 q x)) λb z ⟨r,p,i⟩=>?_)]
 cases b with
 |true =>
  let#[N,t,i]:=i;rwa[if_pos J,wpAny_passesOwn hp (thn (hb a z σ1 r _ p i) λf F g=>?_)]
  cases f with
  |next =>
   let#[σ3,d,l,k]:=g;let#[m,o,j]:=t σ3 d k;erw[m,o,σ3,d,l,j]
  |cont =>
   let#[σ3,d,l,k]:=g;let#[m,o,j]:=t σ3 d k;erw[m,o,σ3,d,l,j]
  |brk=>erw[g]
  |ret v=>erw[g]
 |false =>
  rwa[if_neg cE,wpAny_execs_nil #[σ1,r,p,i]]
end
mutual
structure It where
 go:Nat->Hp->Prop
 yld:Nat->Hp->V->Hp->Prop
 stop:Nat->Hp->Prop
def ygf(X:Cx)(pins:Θ)(H:Hp)(b:z4):Prop :=
 H b=none/\b≠X.env.locals/\b∉X.fs/\(b∈X.ex\/X.s₀.heap.objs.size<=b)/\(∀x c,X.env.cells.lookup x=some c->c≠b)/\∀p∈X.pn++pins,p.1≠b
def Inv.fpOk{s:qa}{b:z4}(I:'i' s)(hb:'n'<=b)(hn:H' b=none):ygf X pins H' b:=by
 erw[hn,Nat.ne_of_gt (cR I.lt hb),I.nofs hb,.inr (cO I.sz hb),λx c e z=>?_,λp a z=>?_]
 .let#[v,q]:=I.cell x c e;erw[absurd (cR q.lt (by rwa[z,hb])) (dM _)]
 .erw[absurd (cR (cB (I.pin p a).1) (by rwa[z,hb])) (dM _)]
structure yek(P:qi)(w:qe)(K:z3)(tg:qh)(ς:It)(fp:Χ)(it:z4)(tn:Nat->qg->Prop):Prop where
 mem:it∈fp
 obj:∀i h,tn i h->∀b∈fp,∃o,h.get? b=some o/\∀v,o.data≠.cell v
 keep:∀i h h',tn i h->(∀b∈fp,∀o,h.get? b=some o->h'.get? b=some o)->tn i h'
 item:∀(X:Cx),X.prog=P->X.w=w->X.K=K->X.calm=true->∀(i:Nat)(pins:Θ)(s:qa)(σ:St)(H:Hp)(E:Δ),'i' s->(∀b∈fp,ygf X pins H b)->tn i s.heap->ς.go i H ->
  wpAny (model P w) X.A (pyNext (.ref it)) (λr s1=>∃u,r=some u/\
   wpAny (model P w) X.A (letOwnedTupleGo tg (.ref it) u) (λZ s2=>∃x H',Inv X pins σ H' s2/\xr x u/\ς.yld i H x H'/\tn (i+1) s2.heap/\∀b∈fp,H' b=none) E s1) E s
 done:∀(X:Cx),X.prog=P->X.w=w->X.K=K->X.calm=true->∀(i:Nat)(pins:Θ)(s:qa)(σ:St)(H:Hp)(E:Δ),'i' s->(∀b∈fp,ygf X pins H b)->tn i s.heap->ς.stop i H ->
  wpAny (model P w) X.A (pyNext (.ref it)) (λr s1=>r=none/\Inv X pins σ H s1) E s
 self:∀(A:qf)(i:Nat)(s:qa)(Q:Δ)(E:Δ),tn i s.heap->Q (.ref it) s->wpAny (model P w) A (pyIter (.ref it)) Q E s
abbrev TI:=St->Hp->(It->Hp->Prop)->Prop
def PIE(X:Cx)(pins:Θ)(σ:St)(tg:qh)(R:It->Hp->Prop)(itv:qc)(s2:qa):Prop :=
 ∃(it:z4)(fp:Χ)(tn:Nat->qg->Prop)(ς:It)(H':Hp),itv=.ref it/\Inv X pins σ H' s2/\yek X.prog X.w X.K tg ς fp it tn/\tn 0 s2.heap/\(∀b∈fp,ygf X pins H' b)/\R ς H'
def PI(X:Cx)(tg iter:qh)(wi:TI):Prop :=
 ∀(pins:Θ)(s:qa)(σ:St)(H:Hp)(R:It->Hp->Prop),'i' s->wi σ H R ->
  wpAny (model X.prog X.w) X.A (eval iter X.env) (λv s1=>'w' (pyIter v) (PIE X pins σ tg R) X.xe s1) X.xe s
def yct{A:qf}{s:qa}{it:z4}{o:Obj}{n:String}{vs:Array qc}{Q:Unit->qa->Prop}(ho:s.heap.get? it=some o)(hc:o.cls=.type n)(hd:o.data=.fields vs)
  (hn:["enumerate","zip","dict_itemiterator","dict_reverseitemiterator","odict_iterator","itertools.zip_longest","itertools.pairwise"].contains n=false) (hQ:Q ⟨⟩ s):wpAny M A (letOwnedTupleGo tg (.ref it) u) Q E s:=by
 unfold letOwnedTupleGo
 cases tg<;>first
  |erw[cq hQ]
  | (cases u<;>first
    |erw[cq hQ]
    | (refine bX (wpAny_load ho ?_)
       rw[hc,hd];show wpAny M A (if (["enumerate","zip","dict_itemiterator","dict_reverseitemiterator","odict_iterator","itertools.zip_longest","itertools.pairwise"].contains n && vs[0]? == some (rawInt _))=true then _ else _) Q E s;rwa[if_neg (by intro h;rw[hn,Bool.false_and]at h;cases h),cq hQ]))
noncomputable def Itl(K:z3)(a:z4):It :=
 #[λi H=>∃xs x,SqL K H a xs/\xs[i]?=some x,λi H x H'=>H'=H/\∀xs,SqL K H a xs->xs[i]?=some x,λi H=>∃xs,SqL K H a xs/\xs.length<=i]
noncomputable def Itt(K:z3)(a:z4):It :=
 #[λi H=>∃xs x,SqT K H a xs/\xs[i]?=some x,λi H x H'=>H'=H/\∀xs,SqT K H a xs->xs[i]?=some x,λi H=>∃xs,SqT K H a xs/\xs.length<=i]
def Itr(lo:Int)(n:Nat):It:=#[λi Z=>i<n,λi H x H'=>H'=H/\x=.int (lo+i),λi Z=>n<=i]
def yip{w:qe}{K:z3}(a it:z4):yek P w K tg (Itl K a) [it] it (λi h=>h.IsListIter it a i) where
 mem:='s'
 obj:=λi h f b j=>by
  have e:b=it:=by simpa using j
  subst e;let#[o,e,c,d]:=f;erw[o,e,λv z=>by rw[d]at z;cases z]
 keep:=λi h m f k=>f.at λo e=>k it 's' o e
 item:=by
  intro X L D B N i g s σ H E I q f r;subst L D B;let#[T,x,n,G]:=r;let#[A,C,p,R]:=I.list n;let#[u,U,Z]:=C.get G;let#[t,y,Y,M,ς,F]:=q it 's';erw[wpAny_pyNext_list_item f p.isList (x:=u) (by simpa using U) λm l sb=>?_];have O:Inv X g σ H {s with heap:=m}:=I.turned (t':=s.toks) (λb o j e=>(sb.2 b j).trans e) t y M ς F;let#[o,e,c,d]:=id l;erw[u,J,yct (s:={s with heap:=m}) e c d ∅ #[x,H,O,Z,#[J,λys S=>by rwa[I.list_inj S n,G]],l,λb j=>(q b j).1]]
 done:=by
  intro X L D B N i g s σ H E I q f r;subst L D B;let#[T,n,G]:=r;let#[A,C,p,R]:=I.list n;let#[t,y,Y,M,ς,F]:=q it 's';let hl:=C.length;erw[wpAny_pyNext_list_end (I.ok.hd N) f p.isList (by simp;omega) λm Q=>#[J,I.turned (t':=s.toks) (λb o j e=>Q b o j e) t y M ς F]]
 self:=λW W W W W f h=>wpAny_pyIter_listiter f h
def yhc{w:qe}{K:z3}(a it:z4):yek P w K tg (Itt K a) [it] it (λi h=>h.IsTupleIter it a i) where
 mem:='s'
 obj:=λi h f b j=>by
  have e:b=it:=by simpa using j
  subst e;let#[o,e,c,d]:=f;erw[o,e,λv z=>by rw[d]at z;cases z]
 keep:=λi h n f k=>f.at λo e=>k it 's' o e
 item:=by
  intro X L D B N i g s σ H E I r f t;subst L D B;let#[T,x,q,G]:=t;let#[l,C,p,R]:=I.tuple q;let#[u,U,Z]:=C.get G;let#[y,A,Y,M,ς,F]:=r it 's';erw[wpAny_pyNext_tuple_item f (show s.heap.IsTuple a l.toArray from p) (x:=u) (by simpa using U) λn m sb=>?_];have O:Inv X g σ H {s with heap:=n}:=I.turned (t':=s.toks) (λb o j e=>(sb.2 b j).trans e) y A M ς F;let#[o,e,c,d]:=id m;erw[u,J,yct (s:={s with heap:=n}) e c d ∅ #[x,H,O,Z,#[J,λys S=>by rwa[I.tuple_inj S q,G]],m,λb j=>(r b j).1]]
 done:=by
  intro X L D B N i g s σ H E I r f t;subst L D B;let#[T,q,G]:=t;let#[l,C,p,R]:=I.tuple q;let#[y,A,Y,M,ς,F]:=r it 's';let hl:=C.length;erw[wpAny_pyNext_tuple_end (I.ok.hd N) f (show s.heap.IsTuple a l.toArray from p) (by simp;omega) λn Q=>#[J,I.turned (t':=s.toks) (λb o j e=>Q b o j e) y A M ς F]]
 self:=λW W W W W f h=>wpAny_pyIter_tupleiter f h
def yg0{w:qe}{K:z3}(it:z4)(lo:Int)(n:Nat):yek P w K tg (Itr lo n) [it] it (λi h=>IsRangeIter h it (lo+(i:Nat)*1) ((n:Int)-(i:Nat)) 1) where
 mem:='s'
 obj:=λi h a b d=>by
  have e:b=it:=by simpa using d
  subst e
  erw[_,a,λv z=>by
   have D:Data.fields _=Data.cell v:=z;cases D]
 keep:=λi h g a k=>k it 's' _ a
 item:=by
  intro X y r q B i c s σ H E I j a l;subst y r q;let#[m,p,L,A,x,u]:=j it 's';let W:=Walks.range (prog:=X.prog) (w:=X.w) (I.ok.hd B) it lo 1 n;erw[W.item i s _ _ l a λv g C M f G=>?_];let#[t,J]:=M;have F:Inv X c σ H {s with heap:=g,toks:=C}:=I.turned (λb o d e=>G b o (by simpa using d) e) m p A x u;erw[_,J,yct (s:={s with heap:=g,toks:=C}) (n:="range_iterator") f J J ∅ #[.int (lo+i),H,F,#[t,?_],#[J,J],f,λb d=>(j b d).1]];rw[Int.mul_one]
 done:=by
  intro X y r q B i c s σ H E I j a l;subst y r q;let#[m,p,L,A,x,u]:=j it 's';erw[wpAny_pyNext_range_end (I.ok.hd B) a (by have:n<=i:=l;omega) λg ς=>#[J,I.turned (t':=s.toks) (λb o d e=>ς b o d e) m p A x u]]
 self:=λZ Z Z Z Z a h=>wpAny_pyIter_rangeiter a h
def ver(K:z3)(tl:TE):TI:=λσ H R=>tl σ H λx H1=>∃a,x=.ref a/\(∃xs,SqL K H1 a xs)/\R (Itl K a) H1
def vkc(K:z3)(tl:TE):TI:=λσ H R=>tl σ H λx H1=>∃a,x=.ref a/\(∃xs,SqT K H1 a xs)/\R (Itt K a) H1
def wg{l:qh}{tl:TE}(hl:PE X l tl):PI X tg l (ver X.K tl):=by
 intro c s σ H R I h;erw[thn (hl c s σ H _ I h) λv d h'=>?_];let#[x,i,f,k,m]:=h';let#[a,e,#[r,g],q]:=m;subst e;cases k;let#[j,t,p,u]:=f.list g;erw[wpAny_pyIter_list p.isList ?_,<-d.heap.objs.size,[d.heap.objs.size],_,_,i,J,f.kept (t':=d.toks) λb o e=>bZ _ e,yip a _,#[_,cA _ J,J,J],λb n=>?_,q];have e:b=d.heap.objs.size:=by simpa using n
 subst e;erw[f.fpOk (cc _) (f.hok.fresh (cc _))]
def yfv{l:qh}{tl:TE}(hl:PE X l tl):PI X tg l (vkc X.K tl):=by
 intro c s σ H R I h;erw[thn (hl c s σ H _ I h) λv d h'=>?_];let#[x,j,f,k,m]:=h';let#[a,e,#[r,i],q]:=m;subst e;cases k;let#[g,t,p,u]:=f.tuple i;erw[wpAny_pyIter_tuple (show d.heap.IsTuple a g.toArray from p) ?_,<-d.heap.objs.size,[d.heap.objs.size],_,_,j,J,f.kept (t':=d.toks) λb o e=>bZ _ e,yhc a _,#[_,cA _ J,J,J],λb n=>?_,q];have e:b=d.heap.objs.size:=by simpa using n
 subst e;erw[f.fpOk (cc _) (f.hok.fresh (cc _))]
def ymi{s:qa}{R:It->Hp->Prop}{lo hi:Int}{t u v:Tok}{tk:Nat}(I:'i' s)(h1:-(2^62)<=lo)(h2:lo<2^62)(h3:-(2^62)<=hi)(h4:hi<2^62)
  (q:R (Itr lo (hi-lo).toNat) H):'w' (pyIter (.ref 'n')) (PIE X pins σ tg R) E {s with heap:=s.heap.push { cls:=.type "range",data:=.fields (List.toArray [.int lo t,.int hi u,.int 1 v])},toks:=tk}:=by
 erw[wpAny_pyIter_range (IsRange.new ..) (small_one h1 h2 h3 h4) ?_];have a:'i' {s with heap:=s.heap.push { cls:=.type "range",data:=.fields (List.toArray [.int lo t,.int hi u,.int 1 v])},toks:=tk}:=I.kept λb o e=>bZ _ e
 erw[(s.heap.push { cls:=.type "range",data:=.fields (List.toArray [.int lo t,.int hi u,.int 1 v])}).objs.size,[(s.heap.push { cls:=.type "range",data:=.fields (List.toArray [.int lo t,.int hi u,.int 1 v])}).objs.size],_,_,H,J,
  a.kept (t':=tk) λb o e=>bZ _ e,yg0 _ lo (hi-lo).toNat,?_,λb d=>?_,q]
 .have f:lo+((0:Nat):Int)*1=lo:='s'
  have c:(((hi-lo).toNat:Nat):Int)-((0:Nat):Int)=Builtin.Range.rangeSize lo hi 1:=by rw[rangeSize_one];split<;>omega
  show IsRangeIter _ _ (lo+((0:Nat):Int)*1) ((((hi-lo).toNat:Nat):Int)-((0:Nat):Int)) 1;rwa[f,c,cA _ J]
 .have e:b=(s.heap.push { cls:=.type "range",data:=.fields (List.toArray [.int lo t,.int hi u,.int 1 v])}).objs.size:=by simpa using d
  subst e;erw[a.fpOk (cc _) (a.hok.fresh (cc _))]
def vdc(ta:TA):TI:=λσ H R=>ta σ H λvs H1=>∃j:Int,vs=[.int j]/\-(2^62)<=j/\j<2^62/\R (Itr 0 j.toNat) H1
def xz{a:qh}{ta:TA}{p pos:Pos}(hg:Gl X "range")(hm:X.mg "range"=none)(ha:PA X [a] ta)(hs:↑(starEach [a] X.env=[(false,eval a X.env)])):PI X tg (.Call (.Name "range" p) [a] [] pos) (vdc ta):=by
 intro b s σ H R I h;erw[Call_ (Ą I hg hm boot_range (PyProof.Rows.callWith_type1 (thn (ha pos b s σ H _ I h) λi m h'=>?_) hs J))];let#[k,l,f,d,c]:=h';let#[j,e,c,g,q]:=c;subst e
 cases d with
 |cons r rr =>
  cases rr;let#[t,J]:=r;erw[call_range_1 (ymi f () () c g (by simpa using q))]
def vj6(wi:TI)(g:TG)(tb:TS):TS:=λD σ H=>wi σ H λς H1=>∃W:Nat->Nat->St->Hp->Prop,(∃m,W 0 m σ H1)/\∀i m σ H,W i m σ H ->
 (ς.stop i H/\D.nx σ H)\/(ς.go i H/\∃N:Ζ,(∀σ' H',N σ' H'->∃m',m'<m/\W (i+1) m' σ' H')/\∀x H',ς.yld i H x H'->g x σ H' λσ2 H2=>tb {D with nx:=N,ct:=N,bk:=D.nx} σ2 H2)
noncomputable def yf9(fp:Χ)(h:qg):Θ:=fp.filterMap λb=>(h.get? b).map λo=>(b,o)
def zg{h:qg}{b:z4}{o:Obj}(hb:b∈fp)(e:h.get? b=some o):(b,o)∈yf9 fp h:=List.mem_filterMap.mpr #[b,hb,by rw[e];rfl]
def yih{h:qg}{p:z4×Obj}(hp:p∈yf9 fp h):p.1∈fp/\h.get? p.1=some p.2:=by
 let#[b,c,e]:=List.mem_filterMap.mp hp
 cases q:h.get? b with
 |none=>rw[q]at e;cases e
 |some o =>
  rw[q]at e;have a:(b,o)=p:=cu e;subst a;erw[c,q]
def Inv.pinned{s:qa}(I:'i' s)(hf:∀b∈fp,ygf X pins H b)(ho:∀b∈fp,∃o,s.heap.get? b=some o/\∀v,o.data≠.cell v):Inv X (pins++yf9 fp s.heap) σ H s :=
 I.pins_of λp g=>(cK.mp g).elim (λz=>I.pin p (cQ _ z)) λz=>by
  let#[c,e]:=yih z;let#[i,h,f,_]:=hf p.1 c;let#[o,a,d]:=ho p.1 c;rw[e]at a;cases a;erw[e,i,h,f,d]
def Inv.unpinned{pl:Θ}{s:qa}(I:Inv X (pins++pl) σ H s):'i' s:=I.pins_of λp a=>I.pin p (cQ _ (du _ a))
def uc{iter:qh}{wi:TI}{g:TG}{tb:TS}{pos:Pos}(hp:PassesOwn (model X.prog X.w) X.A X.env X.xe)(hc:X.calm=true)(hi:PI X tg iter wi)(hg:PG X tg g)(hb:PSs X body tb)
  (hs:autoParam (∀x,foldedSetIterable iter X.env x=pure x) aD._auto_1):PS X (.For tg iter body [] pos) (vj6 wi g tb):=by
 erw[.mk λa s σ H D I h=>?_,<-wpAny_For (thn (hi a s σ H _ I h) λv s1 h1=>thn h1 λa0 s2 h2=>?_) hs];let#[it,z,Y,ς,H2,e,I2,T,K,U,W,#[m0,w0],F]:=h2;subst e;have l:∀{H':Hp},(∀b∈z,H' b=none)->∀b∈z,ygf X a H' b:=λhn b hb=>#[hn b hb,(U b hb).2];erw[codeAny_forLoop_any (λn Q=>∃i σ' H',Inv X a σ' H' Q/\Y i Q.heap/\(∀b∈z,H' b=none)/\W i n σ' H') ?_ m0 #[0,σ,H2,I2,K,λb hb=>(U b hb).1,w0]];rintro n Z ⟨i,σ3,G,S,C,t,w3⟩;rcases F i n σ3 G w3 with⟨y,qn⟩|⟨go,N,hN,B⟩
 .erw[wpAny_passesOwn hp (thn (T.done X J J J hc i a Z σ3 G X.xe S (l t) C y) λr s4 ⟨M,I4⟩=>?_)];subst M;erw[wpAny_execs_nil #[σ3,G,I4,qn]]
 .erw[wpAny_passesOwn hp (thn (T.item X J J J hc i a Z σ3 G X.xe S (l t) C go) λr s4 ⟨u,M,h4⟩=>?_)];subst M;erw[wpAny_passesOwn hp (thn h4 λw s5 h'=>?_)];let#[x,R,I5,r5,y5,q,O]:=h';let P:=I5.pinned (l O) (T.obj _ _ q);erw[wpAny_passesOwn hp (thn (hg _ s5 σ3 R x u _ P r5 (B x R y5)) λw s6 ⟨σ6,H6,I6,q6⟩=>?_)];refine wpAny_passesOwn hp (thn (hb _ s6 σ6 H6 _ I6 q6) λf L p=>?_)
  have c:∀{σ7:St}{j:Hp},Inv X (a++yf9 z s5.heap) σ7 j L->N σ7 j->∃m,m<n/\∃i σ' H',Inv X a σ' H' L/\Y i L.heap/\(∀b∈z,H' b=none)/\W i m σ' H':=λ{σ7 j}k E=>by
   let#[m',hm,w7]:=hN σ7 j E;erw[m',hm,i+1,σ7,j,k.unpinned,T.keep _ _ _ q λb hb o e=>(k.pin (b,o) (cQ _ (cQ _ (zg hb e)))).1,λb hb=>?_,w7];let#[o,e,d]:=T.obj _ _ q b hb;erw[(k.pin (b,o) (cQ _ (cQ _ (zg hb e)))).2.1]
  cases f with
  |next=>let⟨σ7,j,k,E⟩:=p;erw[c k E]
  |cont=>let⟨σ7,j,k,E⟩:=p;erw[c k E]
  |brk=>let⟨σ7,j,k,p⟩:=p;erw[σ7,j,k.unpinned,p]
  |ret v=>let⟨x7,σ7,j,k,r7,p⟩:=p;erw[x7,σ7,j,k.unpinned,r7,p]
def ug{K:z3}{g:TG}{tb:TS}{D:ç}(Pv:Nat->St->Hp->Prop)(h0:Pv 0 σ H)(hl:∀i σ H,i<=xs.length->Pv i σ H->SqL K H a xs)
  (hs:∀i x σ H,xs[i]?=some x->Pv i σ H->g x σ H λσ2 H2=>tb {D with nx:=Pv (i+1),ct:=Pv (i+1),bk:=D.nx} σ2 H2) (hd:∀σ H,Pv xs.length σ H->D.nx σ H):
  ∃W:Nat->Nat->St->Hp->Prop,(∃m,W 0 m σ H)/\∀i m σ H,W i m σ H ->
   ((Itl K a).stop i H/\D.nx σ H)\/((Itl K a).go i H/\∃N:Ζ,(∀σ' H',N σ' H'->∃m',m'<m/\W (i+1) m' σ' H')/\∀x H',(Itl K a).yld i H x H'->g x σ H' λσ2 H2=>tb {D with nx:=N,ct:=N,bk:=D.nx} σ2 H2):=by
 erw[λi m σ H=>m=xs.length-i/\i<=xs.length/\Pv i σ H,#[xs.length,'s',cI _,h0],?_];rintro i m σ H ⟨rfl,b,p⟩;let q:=hl i σ H b p;by_cases hlt:i<xs.length
 .erw[.inr #[#[xs,xs[i],q,by simp[hlt]],Pv (i+1),λσ' H' c=>#[xs.length-(i+1),(),J,hlt,c],λx H' y=>?_]];let#[e,y]:=y;subst e;erw[hs i x σ _ (y xs q) p]
 .have e:i=xs.length:=()
  subst e;erw[.inl #[#[xs,q,cc _],hd σ H p]]
def j7{lo:Int}{n:Nat}{g:TG}{tb:TS}{D:ç}(Pv:Nat->St->Hp->Prop)(h0:Pv 0 σ H)
  (hs:∀i σ H,i<n->Pv i σ H->g (.int (lo+i)) σ H λσ2 H2=>tb {D with nx:=Pv (i+1),ct:=Pv (i+1),bk:=D.nx} σ2 H2) (hd:∀σ H,Pv n σ H->D.nx σ H):
  ∃W:Nat->Nat->St->Hp->Prop,(∃m,W 0 m σ H)/\∀i m σ H,W i m σ H ->
   ((Itr lo n).stop i H/\D.nx σ H)\/((Itr lo n).go i H/\∃N:Ζ,(∀σ' H',N σ' H'->∃m',m'<m/\W (i+1) m' σ' H')/\∀x H',(Itr lo n).yld i H x H'->g x σ H' λσ2 H2=>tb {D with nx:=N,ct:=N,bk:=D.nx} σ2 H2):=by
 erw[λi m σ H=>m=n-i/\i<=n/\Pv i σ H,#[n,'s',cI _,h0],?_];rintro i m σ H ⟨rfl,b,p⟩;by_cases hlt:i<n
 .erw[.inr #[hlt,Pv (i+1),λσ' H' a=>#[n-(i+1),(),J,hlt,a],λx H' y=>?_]];let#[e,y]:=y;subst e y;erw[hs i σ _ hlt p]
 .have e:i=n:=()
  subst e;erw[.inl #[cc _,hd σ H p]]
abbrev R2:=V->V->Hp->VK->Prop
def OpR(X:Cx)(f:qc->qc->Sem qc)(r:R2):Prop :=
 ∀(pins:Θ)(s:qa)(σ:St)(H:Hp)(x y:V)(v u:qc)(Q:VK),'i' s->xr x v->xr y u->r x y H Q ->
  wpAny (model X.prog X.w) X.A (f v u) (EP X pins σ Q) X.xe s
def UnR(X:Cx)(f:qc->Sem qc)(r:V->Hp->VK->Prop):Prop :=
 ∀(pins:Θ)(s:qa)(σ:St)(H:Hp)(x:V)(v:qc)(Q:VK),'i' s->xr x v->r x H Q ->
  wpAny (model X.prog X.w) X.A (f v) (EP X pins σ Q) X.xe s
def ji(X:Cx)(f:qc)(r:qj V->Hp->VK->Prop):Prop :=
 ∀(pins:Θ)(s:qa)(σ:St)(H:Hp)(xs:Υ)(us:Ο)(Q:VK),'i' s->w8 xs us->r xs H Q ->
  wpAny (model X.prog X.w) X.A (call f us) (EP X pins σ Q) X.xe s
def tOp(r:R2)(ta tb:TE):TE:=λσ H Q=>ta σ H λx H1=>tb σ H1 λy H2=>r x y H2 Q
def tUn(r:V->Hp->VK->Prop)(ta:TE):TE:=λσ H Q=>ta σ H λx H1=>r x H1 Q
def rI(C:Int->Int->Prop)(g:Int->Int->V):R2:=λx y H Q=>∃i j,x=.int i/\y=.int j/\C i j/\Q (g i j) H
def rI0(g:Int->Int->V):R2:=λx y H Q=>∃i j,x=.int i/\y=.int j/\Q (g i j) H
def rU(g:Int->V):V->Hp->VK->Prop:=λx H Q=>∃i,x=.int i/\Q (g i) H
end
section
mutual
variable{a b c:qh}{tb tc:TE}{pos:Pos}
def vg3(ha:PE X a ta)(hb:PE X b tb){s:qa}{R:V->V->Hp->Prop}(I:'i' s)
  (h:ta σ H λx H1=>tb σ H1 λy H2=>R x y H2) {Q:Δ} {f:qc->qc->Sem qc}
  (hf:∀v u s2 x y H2,Inv X pins σ H2 s2->xr x v->xr y u->R x y H2->'w' (f v u) Q X.xe s2):
  wpAny (model X.prog X.w) X.A (eval a X.env) (λv s₁=>'w' (eval b X.env) (λu s₂=>'w' (f v u) Q X.xe s₂) X.xe s₁) X.xe s:=by refine thn (ha pins s σ H _ I h) λv i h'=>?_;let#[x,H1,g,d,e]:=h';erw[thn (hb pins i σ H1 _ g e) λu s2 h'=>?_];let#[y,H2,j,c,k]:=h';erw[hf v u s2 x y H2 j d c k]
def yn{op:Operator}{r:R2}(ho:OpR X (binaryOp op) r)(ha:PE X a ta)(hb:PE X b tb):PE X (.BinOp a op b pos) (tOp r ta tb):=by refine .mk λc s σ H Q I h=>?_;erw[wpAny_BinOp (vg3 ha hb I h λv u e x y d f g i q=>ho c e σ d x y v u Q f g i q)]
def vf4{op:UnaryOp}{r:V->Hp->VK->Prop}(ho:UnR X (unaryOp op) r)(ha:PE X a ta):PE X (.UnaryOp op a pos) (tUn r ta):=by refine .mk λb s σ H Q I h=>?_;erw[UnaryOp_ (thn (ha b s σ H _ I h) λv f ⟨x,c,g,d,e⟩=>ho b f σ c x v Q g d e)]
def opI{f:qc->qc->Sem qc}{C:Int->Int->Prop}{g:Int->Int->Int}
  (rule:∀(i j:Int)(t u:Tok)(s:qa)(Q:Δ)(E:Δ),C i j->Q (.int (g i j) s.toks) {s with toks:=s.toks+1}->'w' (f (.int i t) (.int j u)) Q E s):
  OpR X f (rI C λi j=>.int (g i j)):=by intro a s σ H x y v u Q I c d h;let#[i,j,J,J,e,q]:=h;let#[t,J]:=c;let#[b,J]:=d;erw[rule i j t b s _ _ e #[.int (g i j),H,I.tok _,#[_,J],q]]
def vjx{f:qc->qc->Sem qc}{g:Int->Int->Int}
  (rule:∀(i j:Int)(t u:Tok)(s:qa)(Q:Δ)(E:Δ),Q (.int (g i j) s.toks) {s with toks:=s.toks+1}->'w' (f (.int i t) (.int j u)) Q E s):
  OpR X f (rI0 λi j=>.int (g i j)):=by intro a s σ H x y v u Q I d c h;let#[i,j,J,J,q]:=h;let#[t,J]:=d;let#[b,J]:=c;erw[rule i j t b s _ _ #[.int (g i j),H,I.tok _,#[_,J],q]]
def vg4{f:qc->qc->Sem qc}{g:Int->Int->Bool}
  (rule:∀(i j:Int)(t u:Tok)(s:qa)(Q:Δ)(E:Δ),Q (.bool (g i j)) s->'w' (f (.int i t) (.int j u)) Q E s):
  OpR X f (rI0 λi j=>.bl (g i j)):=by intro a s σ H x y v u Q I d c h;let#[i,j,J,J,q]:=h;let#[t,J]:=d;let#[b,J]:=c;erw[rule i j t b s _ _ #[.bl (g i j),H,I,J,q]]
def vi9(i j:Int):Prop:=(-(2^64)<i/\i<2^64)\/(-(2^64)<j/\j<2^64)
def vi9.ok{i j:Int}(h:vi9 i j):IntMulOk i j:=by
 rcases h with⟨a,b⟩|⟨a,b⟩
 .erw[.of_left (intBits_le_64 a b)]
 .erw[.of_right (intBits_le_64 a b)]
def ygp(k:Nat):(0:Int)<=2^k:=by rwa[two_pow_cast,Int.natCast_nonneg _]
def v9:OpR X (binaryOp .Add) (rI0 λi j=>.int (i+j)):=vjx λZ Z Z Z Z Z Z q=>add_int q
def zq:OpR X (binaryOp .Sub) (rI0 λi j=>.int (i-j)):=vjx λZ Z Z Z Z Z Z q=>sub_int q
def w4:OpR X (binaryOp .Mult) (rI vi9 λi j=>.int (i*j)):=opI λZ Z Z Z Z Z Z a q=>mul_int q a.ok
def xg:OpR X (binaryOp .Mod) (rI (λZ j=>0<j) λi j=>.int (i%j)):=opI λi j Z Z Z Z Z a q=>by
 have b:(0:Int)<j:=a;erw[mod_int' () (by rwa[Int.fmod_eq_emod_of_nonneg i (),q])]
def yzd:OpR X (binaryOp .RShift) (rI (λZ j=>0<=j) λi j=>.int (i/2^j.toNat)):=opI λi j Z Z Z Z Z a q =>
 rshift_int a (by rwa[Int.fdiv_eq_ediv_of_nonneg i (ygp _),q])
def unI{f:qc->Sem qc}{g:Int->Int}
  (rule:∀(i:Int)(t:Tok)(s:qa)(Q:Δ)(E:Δ),Q (.int (g i) s.toks) {s with toks:=s.toks+1}->'w' (f (.int i t)) Q E s):
  UnR X f (rU λi=>.int (g i)):=by intro a s σ H x v Q I b h;let#[i,J,q]:=h;let#[t,J]:=b;erw[rule i t s _ _ #[.int (g i),H,I.tok _,#[_,J],q]]
def yqm:UnR X (unaryOp .USub) (rU λi=>.int (-i)):=unI λZ Z Z Z Z q=>neg_int q
end
end
mutual
noncomputable def vi7:V->V->Bool
 | .non,.non=>true| .non,.int _=>true| .int _,.non=>true| .non,.bl _=>true| .bl _,.non=>true| .non,.str _=>true| .str _,.non=>true
 | .int _,.int _=>true| .bl _,.bl _=>true| .str _,.str _=>true| .byt _,.byt _=>true
 | .int _,.str _=>true| .str _,.int _=>true| .bl _,.str _=>true| .str _,.bl _=>true
 |_,_=>false
def rEq:R2:=λx y H Q=>vi7 x y=true/\Q (.bl (decide (x=y))) H
def rNe:R2:=λx y H Q=>vi7 x y=true/\Q (.bl (!decide (x=y))) H
def yj5{i j:Int}:decide (V.int i=V.int j)=(i == j):=by rw[Bool.eq_iff_iff];simp
def yqt{i j:Bool}:decide (V.bl i=V.bl j)=(i == j):=by rw[Bool.eq_iff_iff];simp
def yju{i j:Str}:decide (V.str i=V.str j)=(i == j):=by rw[Bool.eq_iff_iff];simp
def ykp{i j:Array UInt8}:decide (V.byt i=V.byt j)=(i.toList == j.toList):=by rw[Bool.eq_iff_iff];cases i;cases j;simp
end
section
mutual
variable{a b c:qh}{tb tc:TE}{pos:Pos}
def wu{s:qa}{Q:VK}{k k':Bool}(I:'i' s)(q:Q (.bl k) H)(e:k=k'):EP X pins σ Q (.bool k') s:=by subst e;erw[.bl k,H,I,J,q]
def w6:OpR X (compareOp .Eq) rEq:=by
 intro e s σ H x y v u Q I d a h;let#[c,q]:=h
 cases x with
 |non =>
  cases d
  cases y with
  |non=>cases a;erw[PySem.EqNone.eq_none_none (wu I q 's')]
  |bl j=>cases a;erw[PySem.EqNone.eq_none_bool (wu I q 's')]
  |int j=>let⟨b,rfl⟩:=a;erw[PySem.EqNone.eq_none_int (wu I q 's')]
  |str j=>let⟨b,rfl⟩:=a;erw[PySem.EqNone.eq_none_str (wu I q 's')]
  |_=>erw[absurd (show false=true from c) cE]
 |bl i =>
  cases d
  cases y with
  |non=>cases a;erw[PySem.EqNone.eq_bool_none (wu I q 's')]
  |bl j=>cases a;erw[eq_bool (wu I q yqt)]
  |str j=>let⟨b,rfl⟩:=a;erw[PySem.EqMixed.eq_bool_str (wu I q 's')]
  |_=>erw[absurd (show false=true from c) cE]
 |int i =>
  let#[t,J]:=d
  cases y with
  |non=>cases a;erw[PySem.EqNone.eq_int_none (wu I q 's')]
  |int j=>let⟨b,rfl⟩:=a;erw[eq_int (wu I q yj5)]
  |str j=>let⟨b,rfl⟩:=a;erw[PySem.EqMixed.eq_int_str (wu I q 's')]
  |_=>erw[absurd (show false=true from c) cE]
 |str i =>
  let#[t,J]:=d
  cases y with
  |non=>cases a;erw[PySem.EqNone.eq_str_none (wu I q 's')]
  |bl j=>cases a;erw[PySem.EqMixed.eq_str_bool (wu I q 's')]
  |int j=>let⟨b,rfl⟩:=a;erw[PySem.EqMixed.eq_str_int (wu I q 's')]
  |str j=>let⟨b,rfl⟩:=a;erw[eq_str (wu I q yju)]
  |_=>erw[absurd (show false=true from c) cE]
 |byt i =>
  let#[t,J]:=d
  cases y with
  |byt j=>let⟨b,rfl⟩:=a;erw[W.eq_bytes (wu I q ykp)]
  |_=>erw[absurd (show false=true from c) cE]
 |_=>cases y<;>erw[absurd (show false=true from c) cE]
def yhm:OpR X (compareOp .NotEq) rNe:=by
 intro e s σ H x y v u Q I d a h;let#[c,q]:=h
 cases x with
 |non =>
  cases d
  cases y with
  |non=>cases a;erw[PySem.EqNone.ne_none_none (wu I q 's')]
  |bl j=>cases a;erw[PySem.EqNone.ne_none_bool (wu I q 's')]
  |int j=>let⟨b,rfl⟩:=a;erw[PySem.EqNone.ne_none_int (wu I q 's')]
  |str j=>let⟨b,rfl⟩:=a;erw[PySem.EqNone.ne_none_str (wu I q 's')]
  |_=>erw[absurd (show false=true from c) cE]
 |bl i =>
  cases d
  cases y with
  |non=>cases a;erw[PySem.EqNone.ne_bool_none (wu I q 's')]
  |bl j=>cases a;erw[ne_bool (wu I q (congrArg not yqt))]
  |str j=>let⟨b,rfl⟩:=a;erw[PySem.EqMixed.ne_bool_str (wu I q 's')]
  |_=>erw[absurd (show false=true from c) cE]
 |int i =>
  let#[t,J]:=d
  cases y with
  |non=>cases a;erw[PySem.EqNone.ne_int_none (wu I q 's')]
  |int j=>let⟨b,rfl⟩:=a;erw[ne_int (wu I q (congrArg not yj5))]
  |str j=>let⟨b,rfl⟩:=a;erw[PySem.EqMixed.ne_int_str (wu I q 's')]
  |_=>erw[absurd (show false=true from c) cE]
 |str i =>
  let#[t,J]:=d
  cases y with
  |non=>cases a;erw[PySem.EqNone.ne_str_none (wu I q 's')]
  |bl j=>cases a;erw[PySem.EqMixed.ne_str_bool (wu I q 's')]
  |int j=>let⟨b,rfl⟩:=a;erw[PySem.EqMixed.ne_str_int (wu I q 's')]
  |str j=>let⟨b,rfl⟩:=a;erw[ne_str (wu I q (congrArg not yju))]
  |_=>erw[absurd (show false=true from c) cE]
 |byt i =>
  let#[t,J]:=d
  cases y with
  |byt j=>let⟨b,rfl⟩:=a;erw[W.ne_bytes (wu I q (congrArg not ykp))]
  |_=>erw[absurd (show false=true from c) cE]
 |_=>cases y<;>erw[absurd (show false=true from c) cE]
def ycu:OpR X (compareOp .Lt) (rI0 λi j=>.bl (decide (i<j))):=vg4 λZ Z Z Z Z Z Z q=>lt_int q
def ι:OpR X (compareOp .LtE) (rI0 λi j=>.bl (decide (i<=j))):=vg4 λZ Z Z Z Z Z Z q=>le_int q
def yhj:OpR X (compareOp .Gt) (rI0 λi j=>.bl (decide (j<i))):=vg4 λZ Z Z Z Z Z Z q=>gt_int q
def ywu:OpR X (compareOp .GtE) (rI0 λi j=>.bl (decide (j<=i))):=vg4 λZ Z Z Z Z Z Z q=>ge_int q
def ybx:OpR X (compareOp .In) (λx y H Q=>∃i j,x=.str i/\y=.str j/\Q (.bl (!(Builtin.Str.occurrences j i 0 j.length 1).isEmpty)) H):=by intro a s σ H x y v u Q I c b h;let#[i,j,J,J,q]:=h;let#[t,J]:=c;let#[d,J]:=b;erw[in_str (wu I q J)]
def yfm:OpR X (compareOp .Is) (λx y H Q=>y=.non/\Q (.bl (decide (x=.non))) H):=by
 intro a s σ H x y v u Q I b c h;let#[J,q]:=h;cases c;erw[is_none_gen (wu I q ?_)]
 cases x<;>first
  |(cases b;rfl)
  |(let⟨t,rfl⟩:=b;rfl)
def ĭ:OpR X (compareOp .IsNot) (λx y H Q=>y=.non/\Q (.bl (!decide (x=.non))) H):=by
 intro a s σ H x y v u Q I b c h;let#[J,q]:=h;cases c;erw[isnot_none_gen (wu I q ?_)]
 cases x<;>first
  |(cases b;rfl)
  |(let⟨t,rfl⟩:=b;rfl)
def yw(b:qh)(h:⇑(op≠.In))(h2:⇑(op≠.NotIn)):behindInMarks op b=false:=by
 have c:(op == CmpOp.In)=false:=by cases op<;>first|rfl|erw[absurd J h]
 have a:(op == CmpOp.NotIn)=false:=by cases op<;>first|rfl|erw[absurd J h2]
 delta behindInMarks
 rw[c,a]
 cases b<;>first|rfl|(show (_ && (false || false) && _)=false;rw[Bool.false_or,Bool.and_false,Bool.false_and])
def xm{r:R2}(ho:OpR X (compareOp op) r)(ha:PE X a ta)(hb:PE X b tb)(hm:behindInMarks op b=false):PE X (.Compare a [op] [b] pos) (tOp r ta tb):=by refine .mk λc s σ H Q I h=>?_;erw[wpAny_Compare1 (vg3 ha hb I h λv u e x y d f g i q=>ho c e σ d x y v u Q f g i q) hm]
def ywt(t:TE):TT:=λσ H Q=>t σ H λx H'=>∃k,x=.bl k/\Q k H'
def yp{r:R2}(ho:OpR X (compareOp op) r)(ha:PE X a ta)(hb:PE X b tb)(hm:behindInMarks op b=false):PT X (.Compare a [op] [b] pos) (ywt (tOp r ta tb)):=by
 erw[.mk λd s σ H Q I h=>?_]
 erw[wpAny_isTrue_Compare1 (thn (ha d s σ H _ I h) λv q ⟨x,l,w,o,p⟩=>thn (hb d q σ l _ w p) λu m ⟨y,i,n,f,A⟩ =>
  thn (ho d m σ i x y v u _ n o f A) λc C ⟨z,B,g,j,k,e,t⟩=>?_) hm]
 subst e;cases j;erw[dA #[B,g,t]]
def yk2(r r':R2)(ta tb tc:TE):TE:=λσ H Q=>ta σ H λx H1=>tb σ H1 λy H2=>r x y H2 λz H3=>∃k,z=.bl k/\
 (if k=true then tc σ H3 λw' H4=>r' y w' H4 Q else Q (.bl false) H3)
def Ü{op':CmpOp}{r r':R2}(ho:OpR X (compareOp op) r)(ho':OpR X (compareOp op') r')(ha:PE X a ta)(hb:PE X b tb)(hc:PE X c tc)
  (hm:lastMarks [op,op'] [b,c]=false:=by with_unfolding_all rfl):PE X (.Compare a [op,op'] [b,c] pos) (yk2 r r' ta tb tc):=by
 erw[.mk λf s σ H Q I h=>?_]
 erw[Compare_chain (thn (ha f s σ H _ I h) λv ς ⟨x,G,w,p,D⟩=>chain_link (thn (hb f ς σ G _ w D) λu C ⟨y,K,E,l,M⟩ =>
  thn (ho f C σ K x y v u _ E p l M) λd L ⟨z,g,i,m,k,e,j⟩=>?_)) hm]
 subst e;cases m;erw[dA ?_]
 cases k with
 |false=>erw[ite_ff #[.bl false,g,i,J,j]]
 |true=>erw[ite_tt (chain_last (thn (hc f L σ g _ i j) λo n ⟨t,B,q,A,F⟩=>ho' f n σ B y t u o Q q l A F))]
def ye7{op':CmpOp}{r r':R2}(ho:OpR X (compareOp op) r)(ho':OpR X (compareOp op') r')(ha:PE X a ta)(hb:PE X b tb)(hc:PE X c tc)
  (hm:lastMarks [op,op'] [b,c]=false:=by with_unfolding_all rfl):PT X (.Compare a [op,op'] [b,c] pos) (ywt (yk2 r r' ta tb tc)):=by
 erw[.mk λf s σ H Q I h=>?_]
 erw[isTrue_chain (thn (ha f s σ H _ I h) λv P ⟨x,O,w,p,F⟩=>test_link (thn (hb f P σ O _ w F) λu D ⟨y,R,ς,l,U⟩ =>
  thn (ho f D σ R x y v u _ ς p l U) λd S ⟨z,g,i,m,k,e,j⟩=>?_)) hm]
 subst e;cases m;erw[dA ?_]
 cases k with
 |false =>
  let#[Y,G,T]:=j;cases G;erw[ite_ff #[g,i,T]]
 |true =>
  erw[ite_tt (test_last (thn (hc f S σ g _ i j) λo n ⟨t,C,q,B,N⟩=>thn (ho' f n σ C y t u o _ q l B N) λZ s5 h'=>?_))];let#[W,A,E,L,k2,K,M]:=h';subst K;cases L;erw[dA #[A,E,M]]
def yck:(sizeLine:Nat)<2^63:=by rw[sizeLine_eq];decide
def vh:OpR X (binaryOp .Add) (λx y H Q=>∃i j,x=.str i/\y=.str j/\i.length+j.length<=sizeLine/\Q (.str (i++j)) H):=by intro a s σ H x y v u Q I c d h;let#[i,j,J,J,e,q]:=h;let#[t,J]:=c;let#[b,J]:=d;erw[add_str (λb f=>#[.str (i++j),H,I.tok _,#[_,J],q]) e]
def ymx(b:qh):Prop:=∀o i,subscripted b false o i=operate [o,i] (getItem o i)
def xc(ha:PE X a ta)(hb:PE X b tb)(hs:ymx b):
  PE X (.Subscript a b pos) (tOp (λx y H Q=>∃z i c,x=.str z/\y=.int i/\0<=i/\i<2^63/\i<z.length/\z.cps[i.toNat]?=some c/\Q (.str ⟨#[c]⟩) H) ta tb):=by
 erw[.mk λd s σ H Q I h=>?_,<-Subscript_ (vg3 ha hb I h λv u j x y f o m n q=>?_)];let#[z,i,c,J,J,l,w,k,p,q]:=q;let#[t,J]:=m;let#[A,J]:=n;have e:seqIndex? i z.length=some i.toNat:=PySem.StrLaws.seqIndex_nonneg l k
 erw[tail_any (typeIs_str j z t) slot_str_getitem.lookup (getItem_str (c:=c) (by
  have g:decide (i< -(2^63:Int))=false:=cj ();have r:decide (i ≥ 2^63)=false:=cj ();rw[g,r]<;>rfl) (by rwa[e,p]) #[.str ⟨#[c]⟩,f,o.tok _,#[_,J],q]) (hs _ _)]
def û{x:V}(r:w8 [x] us):∃u,us=[u]/\xr x u:=by
 cases r with
 |cons r1 r2=>cases r2;exists _,J,r1
def yo4{x:V}(r:w8 [x,y] us):∃u w',us=[u,w']/\xr x u/\xr y w':=by
 cases r with
 |cons r1 r2 =>
  cases r2 with
  |cons r3 r4=>cases r4;erw[_,_,J,r1,r3]
def Ĥ(hc:X.calm=true):ji X (.builtin "max") (λxs H Q=>∃i j,xs=[.int i,.int j]/\Q (.int (if j > i then j else i)) H):=by
 intro a s σ H xs d Q I r h;let#[i,j,J,q]:=h;let#[u,e,J,#[t,J],#[f,J]]:=yo4 r;erw[max_two_ints (I.ok.hd hc) λb c k=>#[_,H,I.kept k,?_,q]];by_cases hj:j > i
 .rw[if_pos hj,if_pos hj];erw[_,rfl]
 .rw[if_neg hj,if_neg hj];erw[_,rfl]
def ĝ(hc:X.calm=true):ji X (.builtin "min") (λxs H Q=>∃i j,xs=[.int i,.int j]/\Q (.int (if j<i then j else i)) H):=by
 intro a s σ H xs d Q I r h;let#[i,j,J,q]:=h;let#[u,e,J,#[t,J],#[f,J]]:=yo4 r;erw[min_two_ints (I.ok.hd hc) λb c k=>#[_,H,I.kept k,?_,q]];by_cases hj:j<i
 .rw[if_pos hj,if_pos hj];erw[_,rfl]
 .rw[if_neg hj,if_neg hj];erw[_,rfl]
def yiu:ji X (.type "int") (λxs H Q=>(∃i,xs=[.int i]/\Q (.int i) H)\/∃k,xs=[.bl k]/\Q (.int (if k then 1 else 0)) H):=by
 intro a s σ H xs c Q I r h;rcases h with⟨i,rfl,q⟩|⟨k,rfl,q⟩
 .let#[u,J,t,J]:=û r;erw[call_int_int #[.int i,H,I,#[_,J],q]]
 .let#[u,J,b]:=û r;cases b;erw[call_int_bool #[.int (if k then 1 else 0),H,I.tok _,#[_,J],q]]
def ybn:ji X (.type "str") (λxs H Q=>∃i,xs=[.int i]/\i.natAbs.log2<1920/\Q (.str (toString i)) H):=by intro a s σ H xs c Q I r h;let#[i,J,b,q]:=h;let#[u,J,t,J]:=û r;erw[PySem.P.str_of_int b #[.str _,H,I.tok _,#[_,J],q]]
end
end
mutual
structure yw3(h:qg)(x dx C:z4)(mA:Ε):Prop where
 obj:h.get? x=some (W.instObj C dx)
 ns:h.Ns1 dx mA
 ne:dx≠x
end
set_option tactic.hygienic true in
def yi1{h:qg}{dx:z4}(n:h.Ns1 dx mA):∃od,h.get? dx=some od/\∀name,W.lookIn name od=some (mA name):=by
 let#[o,c,l,i,d,g,_,f]:=n;erw[o,i,λname=>?_];let e:=f name;unfold nsFind findBy at e;rw[<- Array.find?_toList]at e;unfold W.lookIn;rw[d];dsimp only
 split
 .rename_i y q
  rw[q]at e;erw[congrArg some e]
 .rename_i q
  rw[q]at e
  have a:c.toList.any (·.refKey)=false:=by
   rw[List.any_eq_false];intro y j;let#[z,t,b]:=g y (Array.mem_toList_iff.mp j);simp[DictEntry.refKey,b]
  have k:¬c.toList.any (·.refKey)=true:=by rwa[a,cE]
  rwa[if_neg k,congrArg some e]
def yw3.look{h:qg}{x dx:z4}(I:yw3 h x dx C mA):∃od,W.InstAt h x (W.instObj C dx) C (some od)/\∀name,W.lookIn name od=some (mA name) :=
 let #[od,ho,hl]:=yi1 I.ns
 #[od,#[I.obj,J,J,ho],hl]
section
mutual
variable{prog:qi}{w:qe}{A:qf}{s:qa}{K:z3}{x dx f:z4}{name:Str}{v:qc}
def ytp{expr:Bool}(X:K.In s.heap)(I:yw3 s.heap x dx C mA)(hg:W.plainGet K C name=true)(hh:W.hasDictIn K C=true)
  (ha:W.findIn K (.ref C) name=some none) (hv:mA name=some v) (hv':W.handedIn v=true) (h:Q v {s with toks:=s.toks+1}):
  wpAny (model prog w) A (getAttr (.ref x) name expr) Q E s:=by let#[b,ς,a]:=I.look;erw[W.get_value X ς (W.plainGet_of hg).1 (W.findObj_own hh ha J (by rw[a,hv])) hv' h]
def yna{pl:Sem Bool}{Q:qc×qj qc->qa->Prop}(X:K.In s.heap)(I:yw3 s.heap x dx C mA)(hg:W.plainGet K C name=true)
  (hf:W.findIn K (.ref C) name=some (some (.ref f))) (ht:W.isFn K (.ref f)=true) (hv:mA name=none) (h:Q (.ref f,[.ref x]) s):
  wpAny (model prog w) A (getMethod (.ref x) name pl) Q E s:=by let#[a,ς,b]:=I.look;erw[W.method_fn X ς (W.plainGet_of hg).1 (W.plainGet_of hg).2 hf (beq_iff_eq.mp ht) (by show (W.lookIn name a).map (·.isSome)=some false;rw[b,hv];rfl) h]
def yvh{ns:Τ}{Q:Unit->qa->Prop}(X:K.In s.heap)(I:yw3 s.heap x dx C mA)
  (hs:W.findIn K (.ref C) "__setattr__"=some (some (.builtin "object.__setattr__"))) (hp:W.plainOver K C=true) (ht:W.takerIn K C name=some none) (hh:W.hasDictIn K C=true)
  (hw:PySem.Within mA ns) (hsz:ns.length<=sizeLine)
  (h:∀h',yw3 h' x dx C (λy=>if y=name then some v else mA y)->Heap.SameBut dx s.heap h'->Q ⟨⟩ {s with heap:=h',toks:=s.toks+2}):
  wpAny (model prog w) A (setAttr (.ref x) name v) Q E s:=by let#[p,ς,q]:=I.look;erw[W.set_plain X ς hs (W.osa_open (s:={s with toks:=s.toks+1}) (r:=none) X ς hp ht λb=>?_)];let#[o,k,f]:=W.any_some hh;have m:s.heap.get? x=some #[.ref C,some dx,.plain,#[]]:=I.obj;erw[bX (cq (bX (bX (wpAny_loadPart m (bX (W.Looks.here (s:={s with toks:=s.toks+1}) (W.looks_clsIn X k) ?_))))))];rwa[f,cq (a:=some dx) (bX (cq (bX ?_)))];erw[wpAny_nsSet1 (s:={s with toks:=s.toks+1}) I.ns λh' d c=>?_];let#[n,l,j,e,g,i]:=d.count (PySem.Within.cons name v hw);erw[bX (wpAny_lookBehind e (by rwa[g,pastItsLine_dict (cO i (by rw[cD];omega))]) ?_),<-cq (h _ #[(c.2 _ (Ne.symm I.ne)).trans I.obj,d,I.ne] c)]
def yfg{R:Result->qa->Prop}{vs:Ο}(X:K.In s.heap)(hm:W.makesIn K C=true)
  (hi:W.findIn K (.ref C) "__init__"=some (some (.ref f))) (hf:W.typeIn K (.ref f)=some (.type "function"))
  (h:codeAny (model prog w) (A.under (.builtin "type.__call__" #[.ref C::vs,kw])) (.call (.ref f) #[.ref ('n'+1)::vs,kw]) (W.InitBack ('n'+1) R)
   {s with heap:=(s.heap.push W.emptyDict).push (W.instObj C 'n')}):
  codeAny (model prog w) A (.call (.ref C) #[vs,kw]) R s:=by let#[c,g,d,t,b]:=s;erw[W.make_core (W.makes_of X hm) (W.looks_findIn X hi) (λa=>W.bind_fn X a hf) (.inl J) h]
end
end
mutual
noncomputable def ω(f:Str)(v:V):qj (Str×V)->qj (Str×V)
 |[]=>[(f,v)]
 |(g,x)::r=>if g=f then (g,v)::r else (g,x)::ω f v r
theorem ē(f g:Str)(v:V):∀fs:Ι,(ω f v fs).lookup g=if g=f then some v else fs.lookup g
 |[]=>by
  show List.lookup g [(f,v)]=_;by_cases h:g=f
  .have a:(g == f)=true:=beq_iff_eq.mpr h;simp only[List.lookup,a,if_pos h]
  .have a:(g == f)=false:=dP.mpr h;simp only[List.lookup,a,if_neg h]
 |(k,x)::r=>by
  let b:=ē f g v r;rw[show ω f v ((k,x)::r)=(if k=f then (k,v)::r else (k,x)::ω f v r)from rfl];by_cases hk:k=f
  .rw[if_pos hk];by_cases h:g=k
   .have a:(g == k)=true:=beq_iff_eq.mpr h;simp only[List.lookup,a,if_pos (h.trans hk)]
   .have a:(g == k)=false:=dP.mpr h;simp only[List.lookup,a,if_neg (λe:g=f=>h (e.trans hk.symm))]
  .rw[if_neg hk];by_cases h:g=k
   .have a:(g == k)=true:=beq_iff_eq.mpr h;simp only[List.lookup,a,if_neg (λe:g=f=>hk (h.symm.trans e))]
   .have a:(g == k)=false:=dP.mpr h;simp only[List.lookup,a];erw[b]
theorem ğ(f:Str)(v:V):∀fs:Ι,f∈(ω f v fs).map (·.1)/\∀g,g∈fs.map (·.1)->g∈(ω f v fs).map (·.1)
 |[]=>#[by simp[ω],λg h=>by simp at h]
 |(k,x)::r=>by
  let#[a,b]:=ğ f v r;rw[show ω f v ((k,x)::r)=(if k=f then (k,v)::r else (k,x)::ω f v r)from rfl];by_cases hk:k=f
  .rw[if_pos hk];subst hk;exists 's',λg h=>by simpa using h
  .rw[if_neg hk];exists ?_,λg h=>?_
   .rw[cX];erw[cM _ a]
   .rw[cX]at h⊢;rcases cr.mp h with e|e
    .erw[cr.mpr (.inl e)]
    .erw[cM _ (b g e)]
theorem Ě(f:Str)(v:V):∀fs:Ι,(ω f v fs).length<=fs.length+1
 |[]=>by simp[ω]
 |(k,x)::r=>by
  let a:=Ě f v r;rw[show ω f v ((k,x)::r)=(if k=f then (k,v)::r else (k,x)::ω f v r)from rfl];by_cases hk:k=f
  .rw[if_pos hk,cD,cD];omega
  .rw[if_neg hk,cD,cD];omega
def ycy.some_of{o:ql qc}(r:ycy (some v) o):∃u,o=some u/\xr v u:=by
 cases o with
 |none=>erw[(show False from r).elim]
 |some u=>erw[u,J,r]
def ycy.none_of{o:ql qc}(r:ycy none o):o=none:=by
 cases o with
 |none=>rfl
 |some u=>erw[(show False from r).elim]
def yjg(r:xr v u):W.handedIn u=true:=by
 cases v with
 |non=>cases (show u=Value.none from r);rfl
 |bl b=>cases (show u=Value.bool b from r);rfl
 |int i=>let⟨t,e⟩:=(show ∃t,u=Value.int i t from r);cases e;rfl
 |str x=>let⟨t,e⟩:=(show ∃t,u=Value.str x t from r);cases e;rfl
 |byt b=>let⟨t,e⟩:=(show ∃t,u=Value.bytes b t from r);cases e;rfl
 |flt b=>let⟨t,e⟩:=(show ∃t,u=Value.float b t from r);cases e;rfl
 |ref a=>cases (show u=Value.ref a from r);rfl
 |ty n=>cases (show u=Value.type n from r);rfl
end
section
variable{w:qe}{h:qg}{dx:z4}{fs fs':Ι}
def yaz(hok:HOk P w H h)(e:H a∩C dx fs):∃mA,yw3 h a dx C mA/\(∀f,ycy (fs.lookup f) (mA f))/\PySem.Within mA (fs.map (·.1))/\fs.length<=1000/\H dx=some (.own a):=by let#[d,z,c,b,mA,n,r,q]:=(show xq P w H h a (.ins C dx fs)from hok a _ e);erw[mA,#[b,n,c],r,q,z,d]
end
mutual
structure Cls(K:z3)(C:z4):Prop where
 pg:W.plainGet K C Str.empty=true
 hd:W.hasDictIn K C=true
 po:W.plainOver K C=true
 sa:W.findIn K (.ref C) "__setattr__"=some (some (.builtin "object.__setattr__"))
def Cls.get{K:z3}(c:Cls K C)(f:Str):W.plainGet K C f=true:=c.pg
def NoAttr(K:z3)(C:z4)(f:Str):Prop:=W.findIn K (.ref C) f=some none
def NoAttr.taker{K:z3}{f:Str}(n:NoAttr K C f):W.takerIn K C f=some none:=by unfold W.takerIn;rw[show W.findIn K (.ref C) f=some none from n];rfl
structure Con(K:z3)(C:z4)(f:Str)(v:V)(u:qc):Prop where
 at_:W.findIn K (.ref C) f=some (some u)
 rel:xr v u
 get:W.specialIn K u "__get__"=some none
 cp:W.copiedNames.contains f=false
structure Meth(K:z3)(C:z4)(m:Str)(f:z4):Prop where
 at_:W.findIn K (.ref C) m=some (some (.ref f))
 fn:W.isFn K (.ref f)=true
 kp:W.keepIn K (.ref f)=true
end
section
mutual
variable{s:qa}{dx:z4}{fs:Ι}{f:Str}{A:qf}
def yhb{b:Bool}(I:'i' s)(e:H a∩C dx fs)(c:Cls X.K C)(n:NoAttr X.K C f)(l:fs.lookup f=some v)
  (h:∀u s','i' s'->xr v u->Q u s'):wpAny (model X.prog X.w) A (getAttr (.ref a) f b) Q E s:=by let#[i,O,r,_,_,_]:=yaz I.hok e;let#[u,g,d]:=ycy.some_of (v:=v) (o:=i f) (by rwa[<- l,r f]);erw[ytp I.kIn O (c.get f) c.hd n g (yjg d) (h u _ (I.tok _) d)]
def í{m:Str}{g:z4}{pl:Sem Bool}{Q:qc×qj qc->qa->Prop}(I:'i' s)(e:H a∩C dx fs)(c:Cls X.K C)(k:Meth X.K C m g)(l:fs.lookup m=none)
  (h:Q (.ref g,[.ref a]) s):wpAny (model X.prog X.w) A (getMethod (.ref a) m pl) Q E s:=by let#[d,O,r,_,_,_]:=yaz I.hok e;have b:d m=none:=ycy.none_of (by rwa[<- l,r m]);erw[yna I.kIn O (c.get m) k.at_ k.fn b h]
def yg8{Q:Unit->qa->Prop}(I:'i' s)(e:H a∩C dx fs)(c:Cls X.K C)(n:NoAttr X.K C f)(hl:fs.length<1000)(ry:xr y u)
  (h:∀s',Inv X pins σ (upd H a (.ins C dx (ω f y fs))) s'->Q ⟨⟩ s'):wpAny (model X.prog X.w) A (setAttr (.ref a) f u) Q E s:=by
 let#[i,O,r,j,_,k]:=yaz I.hok e;have B:(fs.map (·.1)).length<=sizeLine:=by rw[bw,sizeLine_eq];omega
 erw[yvh I.kIn O c.sa c.po n.taker c.hd j B λm d p=>h _ ?_];have l:∃o,m.get? dx=some o:=let ⟨o,_,_,e',_⟩:=d.ns;#[o,e'];erw[I.write (x:=a) (e:=dx) (by rwa[e,True.intro]) (.inr k) (λb q t z=>(p.2 b t).trans z) l ?_];exists by rwa[yk O.ne,k],?_,O.ne,d.obj,_,d.ns,λg=>?_,λg v=>?_
 .have:=Ě f y fs;omega
 .show ycy ((ω f y fs).lookup g) (if g=f then some u else i g);rw[ē];by_cases q:g=f
  .rw[if_pos q,if_pos q];erw[ry]
  .rw[if_neg q,if_neg q];erw[r g]
 .by_cases q:g=f
  .rw[q];erw[(ğ f y fs).1]
  .erw[(ğ f y fs).2 g (j g λz=>v ?_)];show (if g=f then some u else i g)=none;rwa[if_neg q,z]
def Inv.made(I:'i' s):Inv X pins σ (upd (upd H 'n' (.own ('n'+1))) ('n'+1) (.ins C 'n' []))
  {s with heap:=(s.heap.push W.emptyDict).push (W.instObj C 'n')}:=by
 have c:(s.heap.push W.emptyDict).get? 'n'=some W.emptyDict:=cA s.heap J
 have j:((s.heap.push W.emptyDict).push (W.instObj C 'n')).get? ('n'+1)=some (W.instObj C 'n'):=by
  have:=cA (s.heap.push W.emptyDict) (o:=W.instObj C 'n') J
  rwa[Heap.size_push]at this
 have f:(s.heap.push W.emptyDict).Ns 'n' (λZ=>none):=#[W.emptyDict,#[],_,c,J,(λe g=>absurd g 's'),λZ=>rfl];let i:=I.laid (a:='n') (o:=.own ('n'+1)) (h':=s.heap.push W.emptyDict) (t':=s.toks) (λb u q=>bZ _ q) (cc _) #[_,c];erw[i.laid (a:='n'+1) (o:=.ins C 'n' []) (t':=s.toks) (λb u q=>bZ _ q) (Nat.le_of_eq (Heap.size_push _ _)) ?_];have d:'n'≠s.heap.objs.size+1:=cY (Nat.lt_succ_self _);exists by rw[yk d,ya],cI _,d,j,λZ=>none,(Heap.Ns1.of_empty f).at λo q=>bZ _ q,λZ=>True.intro,λy h=>absurd J h
def yv7{prog:qi}{w:qe}{env:Env}{e:qh}{pos:Pos}(hb:attributeBase e f env (eval e env)=eval e env)
  (h:wpAny (model prog w) A (eval e env) (λo s₁=>wpAny (model prog w) A (getAttr o f true) Q E s₁) E s):wpAny (model prog w) A (eval (.Attribute e f pos) env) Q E s :=
 Attribute_any_ h (by rw[arm_eval_Attribute,hb])
end
end
def vgw(K:z3)(ta:TE)(f:Str):TE:=λσ H Q=>ta σ H λx H1=>∃a C dx fs v,x=.ref a/\H1 a∩C dx fs/\Cls K C/\NoAttr K C f/\fs.lookup f=some v/\Q v H1
def vjl(K:z3)(ta tv:TE)(f:Str):TS:=λD σ H=>tv σ H λy H1=>ta σ H1 λx H2=>∃a C dx fs,x=.ref a/\H2 a∩C dx fs/\Cls K C/\NoAttr K C f/\fs.length<1000/\
 D.nx σ (upd H2 a (.ins C dx (ω f y fs)))
section
variable{o e value:qh}{f:Str}{pos pos' tpos:Pos}{tv:TE}
def zu(he:PE X e ta)(hb:attributeBase e f X.env (eval e X.env)=eval e X.env):PE X (.Attribute e f pos) (vgw X.K ta f):=by refine .mk λb s σ H Q I h=>?_;erw[yv7 hb (thn (he b s σ H _ I h) λu r h'=>?_)];let#[x,g,o,m,a,C,w,t,v,d,k,c,n,l,q]:=h';subst d;obtain rfl:u=Value.ref a:=m;erw[yhb o k c n l λy p i j=>#[v,g,i,j,q]]
def vg(ha:PE X o ta)(hv:PE X value tv)(hs:swapsWith value (some (.Attribute o f pos')) pos.line X.env=pure false):PS X (.Assign [.Attribute o f pos'] value pos) (vjl X.K ta tv f):=by refine .mk λb s σ H D I h=>?_;erw[plainObj_wpAny_Assign_Attribute (thn (hv b s σ H _ I h) λu k ⟨y,g,t,r,q⟩=>thn (ha b k σ g _ t q) λp A h'=>?_) hs];let#[x,w,i,m,a,C,E,B,d,j,c,n,l,v]:=h';subst d;obtain rfl:p=Value.ref a:=m;erw[yg8 i j c n l r λz e=>#[σ,_,e,v]]
end
section
variable{s:qa}{A:qf}{c:qc}{b:Bool}
inductive u6(K:z3)(H:Hp):V->qc->Prop where
 |non:u6 K H .non (.type "NoneType")
 |bl (x:Bool):u6 K H (.bl x) (.type "bool")
 |int (i:Int):u6 K H (.int i) (.type "int")
 |str (x:Str):u6 K H (.str x) (.type "str")
 |flt (x:UInt64):u6 K H (.flt x) (.type "float")
 |lst {a:z4} {xs:Υ} (e:H a\xs):u6 K H (.ref a) (.type "list")
 |frz {a:z4} {o:Obj} {xs:Υ} (e:H a=some (.frz o (.lst xs))):u6 K H (.ref a) (.type "list")
 |tup {a:z4} {xs:Υ} (e:H a∪xs):u6 K H (.ref a) (.type "tuple")
 |dK {a:z4} {kvs:Κ} (e:H a=some (.dK kvs)):u6 K H (.ref a) (.type "dict")
 |dT {a:z4} {kvs:qj (qj Key×V)} (e:H a=some (.dT kvs)):u6 K H (.ref a) (.type "dict")
 |ins {a C dx:z4} {fs:Ι} (e:H a∩C dx fs) (cl:Cls K C) (ha:W.findIn K (.ref C) "__class__"=some (some (.builtin "object.__class__")))
   (hn:W.specialIn K (.builtin "object.__class__") "__get__"=some (some (.builtin "getset_descriptor.__get__"))) (htk:W.takesIn K (.builtin "object.__class__")=some true)
   (hm:W.mroIn K C (.type "object")=some true):u6 K H (.ref a) (.ref C)
def yie{x:V}{t:qc}(I:'i' s)(rx:xr x u)(ty:u6 X.K H x t)(e:W.kitOne X.K t c=some b)(h:∀tk,Q (.bool b) {s with toks:=tk}):
  wpAny (model X.prog X.w) A (call (.builtin "isinstance") [u,c]) Q E s:=by
 cases ty with
 |non=>cases (show u=Value.none from rx);erw[W.kia_one W.kitx_none I.kIn True.intro e (λz=>nomatch z) h]
 |bl y=>cases (show u=Value.bool y from rx);erw[W.kia_one W.kitx_bool I.kIn True.intro e (λz=>nomatch z) h]
 |int i=>let⟨t,q⟩:=(show ∃t,u=Value.int i t from rx);cases q;erw[W.kia_one W.kitx_int I.kIn True.intro e (λz=>nomatch z) h]
 |str y=>let⟨t,q⟩:=(show ∃t,u=Value.str y t from rx);cases q;erw[W.kia_one W.kitx_str I.kIn True.intro e (λz=>nomatch z) h]
 |flt y=>let⟨t,q⟩:=(show ∃t,u=Value.float y t from rx);cases q;erw[W.kia_one W.kitx_float I.kIn True.intro e (λz=>nomatch z) h]
 | @lst a xs ea =>
  cases (show u=Value.ref a from rx);let#[_,_,n,_,d]:=(show xq X.prog X.w H s.heap a (.lst xs)from I.hok a _ ea)
  erw[W.kia_one W.kitx_list I.kIn #[_,d,J] e (λz=>nomatch z) h]
 | @frz a ob xs ea =>
  cases (show u=Value.ref a from rx);let#[_,_,_,n,_,d]:=(show xq X.prog X.w H s.heap a (.frz ob (.lst xs))from I.hok a _ ea)
  erw[W.kia_one W.kitx_list I.kIn #[_,d,J] e (λz=>nomatch z) h]
 | @tup a xs ea =>
  cases (show u=Value.ref a from rx);let#[_,_,_,p]:=(show xq X.prog X.w H s.heap a (.tup xs)from I.hok a _ ea);let#[o,d,f,_]:=p
  erw[W.kia_one W.kitx_tuple I.kIn #[o,d,f] e (λz=>nomatch z) h]
 | @dK a kvs ea =>
  cases (show u=Value.ref a from rx);let#[_,_,k,_,p]:=(show xq X.prog X.w H s.heap a (.dK kvs)from I.hok a _ ea);let#[o,j,g,d,f,_]:=p
  erw[W.kia_one W.kitx_dict I.kIn #[o,d,f.1] e (λz=>nomatch z) h]
 | @dT a kvs ea =>
  cases (show u=Value.ref a from rx);let#[_,_,xs,_,o,j,g,d,f,_]:=(show xq X.prog X.w H s.heap a (.dT kvs)from I.hok a _ ea)
  erw[W.kia_one W.kitx_dict I.kIn #[o,d,f.1] e (λz=>nomatch z) h]
 | @ins a C dx fs ea cl ha hn htk hm =>
  cases (show u=Value.ref a from rx);let#[m,O,_]:=yaz I.hok ea;let#[l,ς,_]:=O.look
  erw[W.kia_one (W.kitx_own (cl.get _) cl.hd ha hn htk hm) I.kIn ς e (λz=>nomatch z) h]
end
mutual
structure jx(k:Nat)(A:qf):Prop where
 hd:A.handled=none
 dp:A.depth+3*k+5<recursionLimit
 un:A.units+16*k+200<cLine
def jx.mono{j k:Nat}{A:qf}(r:jx k A)(h:j<=k):jx j A:=#[r.hd,by have:=r.dp;omega,by have:=r.un;omega]
theorem jx.deeper{k:Nat}{A:qf}(r:jx (k+1) A)(env:Env):jx k (A.deeper env) :=
 #[r.hd,by have:=r.dp;show A.depth+1+3*k+5<_;omega,by have:=r.un;show A.units+3+16*k+200<_;omega]
def yhh{A:qf}:(A.under (.builtin "type.__call__" #[.ref C::us,kw])).depth=A.depth+1:=by first|rfl|simp[Around.under,Code.weight,Code.isCreation,Code.isGuard,Code.isCaller,Code.frames,Code.isFrame,guardIds]
def yhe{A:qf}:(A.under (.builtin "type.__call__" #[.ref C::us,kw])).units=A.units+1:=by first|rfl|simp[Around.under,Code.cUnits,Code.frames,Code.isFrame]
def jx.make{k:Nat}{A:qf}(r:jx (k+1) A)(C:z4)(us:Ο)(kw:qj (Str×qc)):jx k (A.under (.builtin "type.__call__" #[.ref C::us,kw])) :=
 #[r.hd,by have:=r.dp;rw[yhh];omega,by have:=r.un;rw[yhe];omega]
theorem jx.depth{k:Nat}{A:qf}(r:jx k A):A.depth<recursionLimit:=by have:=r.dp;omega
theorem jx.units{k:Nat}{A:qf}(r:jx k A):A.units+64<cLine:=by have:=r.un;omega
def ypb:TA:=λZ H Q=>Q [] H
def yl2(ta:TE)(tr:TA):TA:=λσ H Q=>ta σ H λx H1=>tr σ H1 λxs H2=>Q (x::xs) H2
end
section
mutual
variable{e:qh}{t:TA}{pos:Pos}
def u8:PA X [] ypb:=.mk λZ Z Z Z H Q I h=>Calls.spliced_nil #[[],H,I,.nil,h]
def yj6(ha:PE X e te)(hr:PA X es t)(hs:↑'a'):PA X (e::es) (yl2 te t):=by refine .mk λb a s σ H Q I h=>?_;rw[hs];show wpAny _ _ (spliced ((false,eval e X.env)::backTo b (starEach es X.env))) _ _ s;erw[Calls.spliced_cons (thn (ha a s σ H _ I h) λu l h'=>?_)];let#[x,f,m,i,j]:=h';erw[thn (hr b a l σ f _ m j) λo p ⟨k,d,g,c,n⟩=>#[x::k,d,g,.cons i c,n]]
def vjw(t:TA):TE:=λσ H Q=>t σ H λxs H1=>xs.length<=sizeLine/\∀p,H1 p=none->Q (.ref p) (upd H1 p (.tup xs))
def vjj(t:TA):TE:=λσ H Q=>t σ H λxs H1=>xs.length<=sizeLine/\∀p,H1 p=none->Q (.ref p) (upd H1 p (.lst xs))
def zz{x1}(h:PA X es t):PE X (.Tuple es x1 pos) (vjw t):=by refine .mk λa s σ H Q I j=>?_;erw[wpAny_Tuple_spliced (thn (h pos a s σ H _ I j) λi c ⟨k,d,f,r,z,q⟩=>#[by rwa[<- r.length,z],?_])];have g:d c.heap.objs.size=none:=f.hok.fresh (cc _);erw[.ref c.heap.objs.size,upd d c.heap.objs.size (.tup k),f.laid (t':=c.toks) (λb u e=>bZ _ e) (cc _) ?_,J,q _ g,<-z,i,r,#[_,cA _ J,J,_,J]]
def wk(h:PA X es t):PE X (.List es pos) (vjj t):=by refine .mk λa s σ H Q I j=>?_;erw[wpAny_List_spliced (thn (h pos a s σ H _ I j) λi c ⟨k,d,f,r,z,q⟩=>#[by rwa[<- r.length,z],?_])];have g:d c.heap.objs.size=none:=f.hok.fresh (cc _);erw[.ref c.heap.objs.size,upd d c.heap.objs.size (.lst k),f.laid (t':=c.toks) (λb u e=>bZ _ e) (cc _) ?_,J,q _ g,<-z,i,0,r,cA _ J]
end
end
mutual
abbrev Sp:=qj V->Hp->VK->XK->Prop
abbrev CXT:=qj Env->Hp->qa->XK->qc->qa->Prop
variable{CX:CXT}
structure yw1(P:qi)(w:qe)(K:z3)(mg:Ε)(base:qg)(A:qf)(outer:qj Env)(s:qa)(H:Hp):Prop where
 frames:A.frames=some outer
 mod:Mod K mg base
 bs:∀b o,base.get? b=some o->s.heap.get? b=some o/\H b=none
 bsz:base.objs.size<='n'
 funs:s.heap.FunFrames base outer
 frf:∀b∈frs outer,H b=none
 hok:HOk P w H s.heap
 bare:AllBare s.gens
def CE(outer:qj Env)(P:qi)(w:qe)(H:Hp)(s:qa)(Q:VK)(u:qc)(s':qa):Prop :=
 ∃v H',s'.os=s.os/\AllBare s'.gens/\Un (frs outer) [] H H' s.heap s'.heap/\HOk P w H' s'.heap/\xr v u/\Q v H'
def CR(CX:CXT)(outer:qj Env)(P:qi)(w:qe)(H:Hp)(s:qa)(Q:VK)(E:XK)(r:Result)(s':qa):Prop :=
 match r with
 | .ok (.ret u)=>CE outer P w H s Q u s'
 | .ok _=>False
 | .error e=>CX outer H s E e s'
structure vq(P:qi)(w:qe)(K:z3)(mg:Ε)(base:qg)(CX:CXT)(k:Nat)(f:z4)(fd:FuncData)(ps:Τ)(sp:Sp):Prop where
 len:∀vs H Q E,sp vs H Q E->vs.length=ps.length
 run:∀(A:qf)(outer:qj Env)(s:qa)(H:Hp)(args:Args)(us:Ο)(vs:Υ)(Q:VK)(E:XK),jx k A->yw1 P w K mg base A outer s H->BindsTo s fd args (ps.zip us)->w8 vs us->sp vs H Q E ->
  codeAny (model P w) A (.call (.ref f) args) (CR CX outer P w H s Q E) s
def vq.imp{w:qe}{K:z3}{mg:Ε}{base:qg}{k:Nat}{f:z4}{ps:Τ}{sp sp':Sp}(F:vq P w K mg base CX k f fd ps sp)
  (h:∀vs H Q E,sp' vs H Q E->sp vs H Q E):vq P w K mg base CX k f fd ps sp' :=
 #[λvs H Q E q=>F.len vs H Q E (h _ _ _ _ q),λA a s H b c vs Q E g d i e j=>F.run A a s H b c vs Q E g d i e (h _ _ _ _ j)]
def yw1.make{w:qe}{K:z3}{mg:Ε}{base:qg}{A:qf}{outer:qj Env}{s:qa}(e:yw1 P w K mg base A outer s H)(C:z4)(us:Ο)(kw:qj (Str×qc)):
  yw1 P w K mg base (A.under (.builtin "type.__call__" #[.ref C::us,kw])) outer s H:=#[by first|erw[e.frames]|(simpa[Around.under,Code.envs,Code.isFrame,pushEnvs]using e.frames),e.mod,e.bs,e.bsz,e.funs,e.frf,e.hok,e.bare]
end
section
variable{s:qa}
def Inv.env0(I:'i' s):yw1 X.prog X.w X.K X.mg X.base X.A X.stack s H :=
 #[I.ok.frames,I.ok.mod,I.bs,cO I.ok.bsz I.sz,I.stack,I.stkFree,I.hok,I.bare]
def Inv.after{Q:VK}(I:'i' s)(h:CE X.stack X.prog X.w H s Q u s'):EP X pins σ Q u s':=by let#[v,k,f,a,i,c,r,q]:=h;let#[j,g,d,t,e]:=s';obtain rfl:e=s.os:=f;erw[v,k,I.call (h':=j) (g':=g) (d':=d) (t':=t) (ch:=[]) i c a (λb z=>absurd z 's'),r,q]
end
mutual
def yws(sp:Sp)(dvs:Υ)(E:XK)(t:TA):TE:=λσ H Q=>t σ H λvs H1=>sp (vs++dvs) H1 Q E
def yeh(C:z4)(m:Str)(sp:Sp)(dvs:Υ)(E:XK)(ta:TE)(t:TA):TE:=λσ H Q=>ta σ H λx H1=>∃a dx fs,x=.ref a/\H1 a∩C dx fs/\fs.lookup m=none/\
 t σ H1 λvs H2=>sp (x::(vs++dvs)) H2 Q E
def ywv(C:z4)(sp:Sp)(dvs:Υ)(E:XK)(t:TA):TE:=λσ H Q=>t σ H λvs H1=>∀x dx,H1 x=none->H1 dx=none->dx≠x ->
 sp (.ref x::(vs++dvs)) (upd (upd H1 dx (.own x)) x (.ins C dx [])) (λv H2=>v=.non/\Q (.ref x) H2) E
def uu(K:z3)(fd:FuncData)(ps:Τ)(ds:Ο):Prop :=
 ∀(s:qa)(us:Ο),K.In s.heap->(us++ds).length=ps.length->BindsTo s fd #[us,[]] (ps.zip (us++ds))
def uu.all{K:z3}{ps:Τ}(h:∀us:Ο,us.length=ps.length->bindArgs fd #[us,[]]=pure (ps.zip us)):uu K fd ps []:=λs us Z a=>by
 rw[dQ]at a⊢;erw[.of_eq (h us a)]
def ā(CX:CXT)(X:Cx)(E:XK):Prop:=∀(pins:Θ)(σ:St)(H:Hp)(s:qa)(e:qc)(s':qa),'i' s->CX X.stack H s E e s'->X.xe e s'
end
section
mutual
variable{k:Nat}{f:z4}{ps:Τ}{sp:Sp}{dvs:Υ}{ds:Ο}{E:XK}{x m:Str}{p pos apos:Pos}{e o:qh}{t:TA}
def yl0{s:qa}{Q:VK}(F:vq X.prog X.w X.K X.mg X.base CX k f fd ps sp)(hr:jx k X.A)(hb:uu X.K fd ps ds)(hd:w8 dvs ds)(hx:ā CX X E)
  (I:'i' s) (r:w8 vs us) (h:sp (vs++dvs) H Q E):'w' (call (.ref f) us) (EP X pins σ Q) X.xe s:=by
 have b:w8 (vs++dvs) (us++ds):=r.append hd;have c:(us++ds).length=ps.length:=by rwa[<- b.length,F.len _ _ _ _ h]
 erw[wpAny_call (codeAny_mono (F.run X.A X.stack s H #[us,[]] (us++ds) (vs++dvs) Q E hr I.env0 (hb s us I.kIn c) b h) λr d a=>?_)]
 cases r with
 |error e=>erw[hx pins σ H s e d I a]
 |ok fl =>
  cases fl with
  |ret u=>erw[I.after a]
  |next=>erw[False.elim a]
  |brk=>erw[False.elim a]
  |cont=>erw[False.elim a]
def yd1(F:vq X.prog X.w X.K X.mg X.base CX k f fd ps sp)(hr:jx k X.A)(hg:Gl X x)(hm:X.mg x∣f)(hk:W.keepIn X.K (.ref f)=true)(hb:uu X.K fd ps ds)(hd:w8 dvs ds)(hx:ā CX X E)
  (ha:PA X (e::es) t) (hdb:⇑'d') (he:↑'a') (hpl:↑'b'):
  PE X (.Call (.Name x p) (e::es) [] pos) (yws sp dvs E t):=by refine .mk λa s σ H Q I h=>?_;erw[wpAny_Call_Name_kw (θ I hg hm ?_ hdb),<-W.callWith_K (h₀:=X.base) I.ok.mod.kin hk (thn (ha pos a s σ H _ I h) λc i ⟨d,g,b,r,q⟩=>#[b.kIn,?_]) he hpl,<-yl0 F hr hb hd hx b r q]
def ww{pl:Sem Bool}(he:PE X o ta)(c:Cls X.K C)(hm:Meth X.K C m f)(F:vq X.prog X.w X.K X.mg X.base CX k f fd ps sp)(hr:jx k X.A)(hb:uu X.K fd ps ds)(hd:w8 dvs ds)(hx:ā CX X E)(ha:PA X (e::es) t)
  (hst:↑'a') (hpl:↑'b')
  (ht:eval (.Call (.Attribute o m apos) (e::es) [] pos) X.env=(do
   let ov <- eval o X.env
   standAt apos.atName
   let (f,first) <- holding [ov] (getMethod ov m pl)
   callWith pos f first (backTo pos (starEach (e::es) X.env)) (backToKw pos (keywordEach [] X.env))):=by rfl):
  PE X (.Call (.Attribute o m apos) (e::es) [] pos) (yeh C m sp dvs E ta t):=by
 erw[.mk λb s σ H Q I h=>?_,<-W.methodCall_KW (pl:=pl) (thn (he b s σ H _ I h) λu p h'=>?_) ht];let#[x,j,g,v,a,G,D,i,n,l,q]:=h';subst i;obtain rfl:u=Value.ref a:=v;erw[í g n c hm l ?_]
 erw[W.callWith_K (first:=[.ref a]) (h₀:=X.base) I.ok.mod.kin hm.kp (thn (ha pos b p σ j _ g q) λus B ⟨vs,z,d,r,y⟩=>#[d.kIn,?_]) hst hpl]
 erw[yl0 (us:=.ref a::us) (vs:=.ref a::vs) F hr hb hd hx d (.cons J r) y]
def vi{pl:Sem Bool}(he:PE X o ta)(c:Cls X.K C)(hm:Meth X.K C m f)(F:vq X.prog X.w X.K X.mg X.base CX k f fd ps sp)(hr:jx k X.A)(hb:uu X.K fd ps ds)(hd:w8 dvs ds)(hx:ā CX X E)
  (ht:eval (.Call (.Attribute o m apos) [] [] pos) X.env=(do
   let ov <- eval o X.env
   standAt apos.atName
   let (f,first) <- holding [ov] (getMethod ov m pl)
   callWith pos f first (backTo pos (starEach [] X.env)) (backToKw pos (keywordEach [] X.env))):=by rfl):
  PE X (.Call (.Attribute o m apos) [] [] pos) (yeh C m sp dvs E ta ypb):=by
 erw[.mk λb s σ H Q I h=>?_,<-W.methodCall_KW (pl:=pl) (thn (he b s σ H _ I h) λu n h'=>?_) ht];let#[x,j,d,i,a,r,p,e,g,l,q]:=h';subst e;obtain rfl:u=Value.ref a:=i;erw[í d g c hm l ?_]
 erw[W.callWith_K0 (first:=[.ref a]) d.kIn hm.kp (yl0 (us:=[.ref a]) (vs:=[.ref a]) F hr hb hd hx d (.cons J .nil) q)]
structure Mk(K:z3)(C f:z4):Prop where
 makes:W.makesIn K C=true
 init:W.findIn K (.ref C) "__init__"=some (some (.ref f))
 fn:W.isFn K (.ref f)=true
 kp:W.keepIn K (.ref C)=true
def yep{s:qa}{Q:VK}(M:Mk X.K C f)(F:vq X.prog X.w X.K X.mg X.base CX k f fd ps sp)(hr:jx (k+1) X.A)(hb:uu X.K fd ps ds)(hd:w8 dvs ds)
  (hx:ā CX X E) (I:'i' s) (r:w8 vs us)
  (h:∀x dx,H x=none->H dx=none->dx≠x->sp (.ref x::(vs++dvs)) (upd (upd H dx (.own x)) x (.ins C dx [])) (λv H2=>v=.non/\Q (.ref x) H2) E):
  wpAny (model X.prog X.w) X.A (call (.ref C) us) (EP X pins σ Q) X.xe s:=by
 let d:=h ('n'+1) 'n' (I.hok.fresh (Nat.le_succ _)) (I.hok.fresh (cc _)) (cY (Nat.lt_succ_self _));let b:=Inv.made (C:=C) I;have c:w8 (V.ref ('n'+1)::(vs++dvs)) (Value.ref ('n'+1)::(us++ds)):=.cons J (r.append hd)
 have l:(Value.ref ('n'+1)::us++ds).length=ps.length:=by
  let e:=c.length;rw[F.len _ _ _ _ d]at e;erw[e.symm]
 erw[wpAny_call (yfg (f:=f) I.kIn M.makes M.init (beq_iff_eq.mp M.fn) (codeAny_mono (F.run _ X.stack _ _ #[Value.ref ('n'+1)::us,[]] (Value.ref ('n'+1)::(us++ds)) _ _ E (hr.make C us [])
  (b.env0.make C us []) (hb _ (Value.ref ('n'+1)::us) b.kIn l) c d) λr i a=>?_))]
 cases r with
 |error e=>erw[hx pins σ _ _ e i b a]
 |ok fl =>
  cases fl with
  |ret u =>
   let#[v,m,j,o,g,n]:=b.after a;subst g;erw[o,#[V.ref ('n'+1),m,j,J,n]]
  |next=>erw[False.elim a]
  |brk=>erw[False.elim a]
  |cont=>erw[False.elim a]
def Ê(M:Mk X.K C f)(F:vq X.prog X.w X.K X.mg X.base CX k f fd ps sp)(hr:jx (k+1) X.A)(hg:Gl X x)(hm:X.mg x∣C)(hb:uu X.K fd ps ds)(hd:w8 dvs ds)(hx:ā CX X E)
  (ha:PA X (e::es) t) (hdb:⇑'d') (he:↑'a') (hpl:↑'b'):
  PE X (.Call (.Name x p) (e::es) [] pos) (ywv C sp dvs E t):=by refine .mk λa s σ H Q I h=>?_;erw[wpAny_Call_Name_kw (θ I hg hm ?_ hdb),<-W.callWith_K (h₀:=X.base) I.ok.mod.kin M.kp (thn (ha pos a s σ H _ I h) λc i ⟨d,g,b,r,q⟩=>#[b.kIn,?_]) he hpl,<-yep M F hr hb hd hx b r q]
def Ø(M:Mk X.K C f)(F:vq X.prog X.w X.K X.mg X.base CX k f fd ps sp)(hr:jx (k+1) X.A)(hg:Gl X x)(hm:X.mg x∣C)(hb:uu X.K fd ps ds)(hd:w8 dvs ds)(hx:ā CX X E)
  (hdb:⇑'d'):PE X (.Call (.Name x p) [] [] pos) (ywv C sp dvs E ypb):=by refine .mk λa s σ H Q I h=>?_;erw[wpAny_Call_Name_kw (θ I hg hm ?_ hdb),<-W.callWith_K0 I.kIn M.kp (yep (us:=[]) M F hr hb hd hx I .nil h)]
end
end
section
variable{k:Nat}{f:z4}{ps ks:Τ}{sp:Sp}{E:XK}{x m:Str}{p pos apos kpos:Pos}{e o:qh}{kws:qj Keyword}{t tk:TA}{nm:Φ}
structure vjd(K:z3)(fd:FuncData)(ps ks:Τ)(g:qj qc->qj qc->qj qc)(gV:qj V->qj V->qj V):Prop where
 to:∀(s:qa)(us ws:Ο),K.In s.heap->(g us ws).length=ps.length->BindsTo s fd #[us,ks.zip ws] (ps.zip (g us ws))
 rel:∀{vs:Υ}{us:Ο}{zs:Υ}{ws:Ο},w8 vs us->w8 zs ws->w8 (gV vs zs) (g us ws)
variable{g:qj qc->qj qc->qj qc}{gV:qj V->qj V->qj V}
end
mutual
structure yi(N P:Τ)(sc:Scope):Prop where
 kind:sc.kind=.function
 co:sc.isCoroutine=false
 gen:sc.isGenerator=false
 nd:N.Nodup
 pre:N.take P.length=P
 par:∀x∈P,sc.names.lookup x=some .local\/sc.names.lookup x=some .cell
 nofree:∀y∈sc.names,y.2≠.free
theorem yb3{kindOf:Str->ql NameKind}{x:Str}:∀{binds:qj (Str×qc)}{m:Ε},(∀v,(x,v)∉binds)->bindL kindOf binds m x=m x
 |[],_,_=>rfl
 |(n,v)::r,m,h=>by
  unfold bindL;rw[yb3 λw a=>h w (cM _ a)]
  split
  .have:x≠n:=by rintro rfl;exact h v cN
   simp[this]
  .rfl
theorem yce{kindOf:Str->ql NameKind}{x:Str}:∀{binds:qj (Str×qc)}{m:Ε},(∀v,(x,v)∉binds)->bindC kindOf binds m x=m x
 |[],_,_=>rfl
 |(n,v)::r,m,h=>by
  unfold bindC;rw[yce λw a=>h w (cM _ a)]
  split
  .rfl
  .have:x≠n:=by rintro rfl;exact h v cN
   simp[this]
theorem yb0{kindOf:Str->ql NameKind}{x:Str}{v:qc}:∀{P:Τ}{vs:Ο}{i:Nat}{m:Ε},P.Nodup->P[i]?=some x->vs[i]?=some v->kindOf x=some .local ->
  bindL kindOf (P.zip vs) m x=some v
 |[],_,_,_,_,h,_,_=>by simp at h
 |_::_,[],_,_,_,_,h,_=>by simp at h
 |p::P,w::vs,0,m,nd,h1,h2,hk=>by
  simp at h1 h2;subst h1;subst h2;show bindL kindOf ((p,w)::P.zip vs) m p=_;unfold bindL;rw[yb3 λv a=>(dJ.mp nd).1 (List.of_mem_zip a).1,if_pos hk];simp
 |p::P,w::vs,i+1,m,nd,h1,h2,hk=>by
  show bindL kindOf ((p,w)::P.zip vs) m x=_;unfold bindL;erw[yb0 (i:=i) (dJ.mp nd).2 (by simpa using h1) (by simpa using h2) hk]
theorem ycd{kindOf:Str->ql NameKind}{x:Str}{v:qc}:∀{P:Τ}{vs:Ο}{i:Nat}{m:Ε},P.Nodup->P[i]?=some x->vs[i]?=some v->kindOf x≠some .local ->
  bindC kindOf (P.zip vs) m x=some v
 |[],_,_,_,_,h,_,_=>by simp at h
 |_::_,[],_,_,_,_,h,_=>by simp at h
 |p::P,w::vs,0,m,nd,h1,h2,hk=>by
  simp at h1 h2;subst h1;subst h2;show bindC kindOf ((p,w)::P.zip vs) m p=_;unfold bindC;rw[yce λv a=>(dJ.mp nd).1 (List.of_mem_zip a).1,if_neg hk];simp
 |p::P,w::vs,i+1,m,nd,h1,h2,hk=>by
  show bindC kindOf ((p,w)::P.zip vs) m x=_;unfold bindC;erw[ycd (i:=i) (dJ.mp nd).2 (by simpa using h1) (by simpa using h2) hk]
noncomputable def ú(N:Τ)(vs:Υ):St:=vs.map some++List.replicate (N.length-vs.length) none
noncomputable def vx(CX:CXT)(P:qi)(w:qe)(K:z3)(mg:Ε)(base:qg)(N:Τ)(qual:Str)(scope:Scope)(f:z4)(cd:qc)(A:qf)(outer:qj Env)(s:qa)(H:Hp)(E:XK):Cx where
 prog:=P
 w:=w
 K:=K
 mg:=mg
 base:=base
 A:=A.deeper (envOfC qual scope 'n' f cd)
 N:=N
 s₀:=s
 H₀:=H
 env:=envOfC qual scope 'n' f cd
 outer:=outer
 stack:=envOfC qual scope 'n' f cd::outer
 ex:=[]
 calm:=true
 fn:=λZ=>true
 pn:=[]
 xe:=λe s'=>wpAny (model P w) (A.deeper (envOfC qual scope 'n' f cd)) (leaving (envOfC qual scope 'n' f cd) e) (λZ s''=>CX outer H s E e s'') (λe' s''=>CX outer H s E e' s'') s'
def yev{sc:Scope}{n:Nat}{x:Str}(h:sc.names.lookup x=some .cell):∃c,(cellsFrom n sc.names []).lookup x=some c:=by have q:=W.cellsFrom_some sc.names n [] (.inl h);erw[Option.isSome_iff_exists.mp q]
def yik{w:qe}{K:z3}{mg:Ε}{base:qg}{N ps:Τ}{qual:Str}{scope:Scope}{f:z4}{cd:qc}{A:qf}{outer:qj Env}{s s1:qa}{E:XK} 
  (S:yi N ps scope) (hd:A.handled=none) (e0:yw1 P w K mg base A outer s H) (hl:vs.length=ps.length) (r:w8 vs us)
  (x:InCallC s 'n' (bindL (envOfC qual scope 'n' f cd).kindOf (ps.zip us) λZ=>none) (cellsFrom ('n'+1) scope.names []) (bindC (envOfC qual scope 'n' f cd).kindOf (ps.zip us) λZ=>none) s1):
  Inv (vx CX P w K mg base N qual scope f cd A outer s H E) [] (ú N vs) H s1:=by
 have F:ps.length<=N.length:=by have:=congrArg List.length S.pre;rw[cG]at this;omega
 let#[o,I,J,B]:=x.done;have j:∀b:z4,b∉(vx CX P w K mg base N qual scope f cd A outer s H E).ex:=λb z=>absurd (show b∈([]:Χ)from z) 's'
 erw[#[e0.mod,S.kind,J,J,cc _,λy z c o d=>?_,λy g=>?_,λy c Z h=>?_,λZ=>hd,Around.frames_deeper e0.frames,.inr #[J,J],λb z=>absurd z (j b),e0.bs,e0.bsz,λb Z Z=>j b,λb z=>absurd z (j b),e0.funs,e0.frf],
  rfl,e0.bare,Un.kept B,#[_,x.toInCall.ns,λi y v o d ς=>?_],λy c h=>#[_,x.cell y c h],e0.hok.fresh (cc _),λy c h=>?_,λp l=>absurd (show p∈([]:Θ)from l) 's',e0.hok.kept B,?_]
 .erw[name_of_addr x.apart (PySem.mem_of_lookup o) (PySem.mem_of_lookup d)]
 .have g:scope.names.lookup y=some .cell\/scope.names.lookup y=some .free:=g;rcases g with g|g
  .erw[yev g]
  .erw[absurd J (S.nofree _ (PySem.mem_of_lookup g))]
 .erw[Nat.le_of_lt (x.above y c (PySem.mem_of_lookup h))]
 .have t:i<vs.length:=by
   unfold ú at d;by_cases t:i<vs.length
   .erw[t]
   .rw[dz (by simpa using t)]at d;rw[List.getElem?_replicate]at d
    split at d<;>cases d
  have D:vs[i]?=some v:=by
   unfold ú at d;rw[dh (by simpa using t),ci]at d
   cases e:vs[i]? with
   |none=>rw[e]at d;cases d
   |some a=>rw[e]at d;cases d;rfl
  let#[u,C,G]:=r.get D
  have l:ps[i]?=some y:=by
   rwa[<- S.pre,List.getElem?_take_of_lt (),o]
  have m:ps.Nodup:=by rwa[<- S.pre,S.nd.sublist (List.take_sublist _ _)]
  erw[u,G,?_];rcases S.par y (cz l)with k|k
  .erw[.inl #[k,yb0 m l C k]]
  .let#[c,e]:=yev (n:='n'+1) k;erw[.inr #[.inl k,c,e,?_]];let q:=x.cell y c e;rw[ycd m l C (by show scope.names.lookup y≠_;rw[k];decide)]at q;erw[q]
 .erw[e0.hok.fresh (Nat.le_of_lt (x.above y c (PySem.mem_of_lookup h)))]
 .unfold ú;show _=N.length;rw[bY,bw,List.length_replicate];omega
def yo1{w:qe}{K:z3}{mg:Ε}{base:qg}{k:Nat}{f:z4}{name qual:Str}{params:Arguments}{scope:Scope}{dV kV doc pm cdv ct oc:qc}{an od:ql z4}
  {osl:Array (ql qc)} {N ps:Τ} {sp:Sp} (lk:K.lookup f=some #[oc,od,.func (W.fnOf name qual params body scope dV kV doc pm an cdv ct),osl]) (hcd:W.codeIn K cdv qual=true) (S:yi N ps scope)
  (len:∀vs H Q E,sp vs H Q E->vs.length=ps.length)
  (hbody:∀(A:qf)(outer:qj Env)(s:qa)(H:Hp)(vs:Υ)(Q:VK)(E:XK),jx k (A.deeper (envOfC qual scope 'n' f cdv))->sp vs H Q E ->
   ∃t,PSs (vx CX P w K mg base N qual scope f cdv A outer s H E) body t/\t { nx:=λZ H'=>Q .non H',rt:=Q} (ú N vs) H):
  vq P w K mg base CX (k+1) f (W.fnOf name qual params body scope dV kV doc pm an cdv ct) ps sp:=by
 erw[len,λA outer s H p R vs Q E m d D r h=>?_];let L:=len _ _ _ _ h;have z:K.In s.heap:=d.mod.kin.keeps λb o e=>(d.bs b o e).1;have j:s.heap.NoLimit:=d.mod.nolimit.keeps λb o e=>(d.bs b o e).1
 have a:∀y∈ps.zip R,scope.names.lookup y.1=some .local\/(scope.names.lookup y.1=some .cell/\((cellsFrom ('n'+1) scope.names []).lookup y.1).isSome=true):=λ⟨n,v⟩ M=>by
  rcases S.par n (List.of_mem_zip M).1 with q|q
  .erw[.inl q]
  .erw[.inr #[q,W.cellsFrom_some _ _ _ (.inl q)]]
 erw[codeAny_call_function m.depth (z _ _ lk) J S.co S.gen J (W.codeRec_of z hcd) (D _ _ _ _ ?_),<-wpAny_newFunctionEnv_cells S.kind a λG T B x=>?_];subst T;erw[j.keeps x.toInCall.keep,codeAny_func ?_];let#[t,C,F]:=hbody A outer s H vs Q E (m.deeper _) h;have I:Inv (vx CX P w K mg base N qual scope f cdv A outer s H E) [] (ú N vs) H B:=yik S m.hd d L r x;erw[dF (C [] B (ú N vs) H _ I F) (λO i c=>?_) λe i c=>c]
 have g:∀{σ':St}{H':Hp}{v:V}{u:qc},Inv (vx CX P w K mg base N qual scope f cdv A outer s H E) [] σ' H' i->xr v u->Q v H'->CE outer P w H s Q u i :=
  λ{σ' H' v u}ς l q=>#[v,H',ς.os,ς.bare,ς.base,ς.hok,l,q]
 cases O with
 |ret u =>
  let#[v,σ',H',ς,l,q]:=c;erw[g ς l q]
 |next =>
  let#[σ',H',ς,q]:=c;erw[g (v:=V.non) (u:=Value.none) ς J q]
 |brk =>
  let#[_,_,_,q]:=c;erw[False.elim q]
 |cont =>
  let#[_,_,_,q]:=c;erw[False.elim q]
end
section
variable{x:Str}{p pos:Pos}{e:qh}{t:TA}{id T:String}{r:qj V->Hp->VK->Prop}
def tCB(r:qj V->Hp->VK->Prop)(t:TA):TE:=λσ H Q=>t σ H λvs H1=>r vs H1 Q
def yon(hc:ji X (.builtin id) r)(hg:Gl X x)(hm:X.mg x=none)(hv:bootBuiltins x=some (.builtin id))(ha:PA X (e::es) t)(hn:⇑(x≠"__name__"))(hdb:⇑'d')
  (he:↑'a') (hpl:↑'b'):PE X (.Call (.Name x p) (e::es) [] pos) (tCB r t):=by refine .mk λa s σ H Q I h=>?_;erw[wpAny_Call_Name_kw (Ą I hg hm hv ?_ hn hdb),<-PyProof.Rows.callWith_builtin1 (thn (ha pos a s σ H _ I h) λb i ⟨c,d,j,f,g⟩=>hc a i σ d c b Q j f g) he hpl]
def yi2(hc:ji X (.type T) r)(hg:Gl X x)(hm:X.mg x=none)(hv:bootBuiltins x=some (.type T))(ha:PA X (e::es) t)(hn:⇑(x≠"__name__"))(hdb:⇑'d')
  (he:↑'a') (hpl:↑'b'):PE X (.Call (.Name x p) (e::es) [] pos) (tCB r t):=by refine .mk λa s σ H Q I h=>?_;erw[wpAny_Call_Name_kw (Ą I hg hm hv ?_ hn hdb),<-PyProof.Rows.callWith_type1 (thn (ha pos a s σ H _ I h) λb i ⟨c,d,j,f,g⟩=>hc a i σ d c b Q j f g) he hpl]
end
end L2
namespace HT
open PySem PyProof.Rows
section
open PySem.SeqAt
open PySem.AutoSeq1 (wpAny_loadPart')
open PySem.MeetsSeq PySem.MeetsSeq2 PySem.MeetsSeq3
end
section
mutual
variable{prog:qi}{w:qe}{A:qf}{E:Δ}{s:qa}
noncomputable def sIx(n d:Nat):ql Int->Nat
 |none=>d
 |some v=>if v<0 then (v+(n:Int)).toNat else min v.toNat n
def sIx_none(n d:Nat):sIx n d none=d:=rfl
def sIx_nat(n d k:Nat):sIx n d (some (k:Int))=min k n:=by show (if (k:Int)<0 then ((k:Int)+(n:Int)).toNat else min (k:Int).toNat n)=min k n;rw[if_neg (),Int.toNat_natCast]
def yz8(n d:Nat)(hd:d<=n)(o:ql Int):sIx n d o<=n:=by
 cases o with
 |none=>erw[hd]
 |some v =>
  show (if v<0 then (v+(n:Int)).toNat else min v.toNat n)<=n;by_cases hv:v<0
  .rw[if_pos hv];omega
  .rw[if_neg hv];erw[Nat.min_le_right _ _]
def yjp(v:Int)(n d:Nat):(if v<0 then max (v+(n:Int)) 0 else min v (n:Int))=((sIx n d (some v):Nat):Int):=by
 show (if v<0 then max (v+(n:Int)) 0 else min v (n:Int))=(((if v<0 then (v+(n:Int)).toNat else min v.toNat n):Nat):Int);by_cases hv:v<0
 .simp only[if_pos hv];omega
 .simp only[if_neg hv];omega
def ygv(lo hi:ql Int)(n:Nat):Builtin.Slice.sliceAdjust lo hi 1 (n:Int)=(((sIx n 0 lo:Nat):Int),((sIx n n hi:Nat):Int)):=by
 have a:¬((1:Int)<0):=()
 unfold Builtin.Slice.sliceAdjust;simp only[a,if_false];erw[Prod.ext ?_ ?_]
 .cases lo with
  |none=>rfl
  |some v=>erw[yjp v n 0]
 .cases hi with
  |none=>rfl
  |some v=>erw[yjp v n n]
def yg7(i j:Nat):Builtin.Slice.slicePlaces (i:Int) (j:Int) 1=j-i:=by
 unfold Builtin.Slice.slicePlaces;have a:(1:Int) > 0:=()
 simp only[a,if_true,Int.ediv_one]
 split<;>omega
def ŝ{v:qc}{o:ql Int}{Q:ql Int->qa->Prop}(p:IsPart v o)(h:Q o s):wpAny (model prog w) A (Builtin.Slice.slicePartIndex v) Q E s:=by
 cases p with
 |none=>erw[slicePart_none h]
 |int i t=>erw[slicePart_int h]
def jy{sl:z4}{vl vu:qc}{lo hi:ql Int}{n:Nat}{Q:Int×Int×Nat->qa->Prop}(hs:s.heap.IsSliceOf sl vl vu .none)(pl:IsPart vl lo)(pu:IsPart vu hi)
  (h:Q (((sIx n 0 lo:Nat):Int),1,sIx n n hi-sIx n 0 lo) s):wpAny (model prog w) A (Builtin.Slice.sliceApplied (.ref sl) (pure (n:Int))) Q E s:=by
 let#[d,a,c,b]:=id hs;unfold Builtin.Slice.sliceApplied Builtin.Slice.sliceFields;erw[bX (bX (dm a b (x:=vl) J (bX (dm a b (x:=vu) J (bX (dm a b (x:=.none) J (cq ?_))))))),<-bX (slicePart_none ?_)];show wpAny _ _ (if ((1:Int) == 0)=true then _ else _) _ _ s;rwa[if_neg ∅,bX (ŝ pl (bX (ŝ pu (bX (cq ?_)))))]
 show wpAny _ _ (match Builtin.Slice.sliceAdjust lo hi 1 (n:Int)with|(lo,hi)=>pure (lo,(1:Int),Builtin.Slice.slicePlaces lo hi 1)) _ _ s
 rw[ygv lo hi n];show wpAny _ _ (pure (((sIx n 0 lo:Nat):Int),(1:Int),Builtin.Slice.slicePlaces ((sIx n 0 lo:Nat):Int) ((sIx n n hi:Nat):Int) 1)) _ _ s;rwa[yg7,cq h]
def yny(xs:Array qc)(i k:Nat):((List.range k).filterMap λ(m:Nat)=>xs[((i:Int)+(m:Int)*1).toNat]?).toArray=((xs.toList.drop i).take k).toArray:=by
 have e:(λ(m:Nat)=>xs[((i:Int)+(m:Int)*1).toNat]?)=λm=>xs[i+m]?:=by
  funext m
  have:((i:Int)+(m:Int)*1).toNat=i+m:=()
  rw[this]
 rw[e];have:=pick_run xs i k;rw[List.filterMap_map]at this;have a:((λx=>xs[x]?) ∘ λx=>i+x)=λm=>xs[i+m]?:=rfl;rw[a]at this;rw[this]
def getItem_tuple_cut{t sl:z4}{items:Array qc}{vl vu:qc}{lo hi:ql Int}{Q:Δ}(ht:IsTup s.heap t items)(hs:s.heap.IsSliceOf sl vl vu .none)(pl:IsPart vl lo)(pu:IsPart vu hi)
  (hw:¬(sIx items.size 0 lo=0/\sIx items.size items.size hi=items.size))
  (h:Q (.ref 'n') {s with heap:=s.heap.push { cls:=.type "tuple",data:=.seq ((items.toList.drop (sIx items.size 0 lo)).take (sIx items.size items.size hi-sIx items.size 0 lo)).toArray} })
  (hsz:items.size<=sizeLine):wpAny (model prog w) A (getItem (.ref t) (.ref sl)) Q E s:=by
 have a:sizeOk (.seq ((items.toList.drop (sIx items.size 0 lo)).take (sIx items.size items.size hi-sIx items.size 0 lo)).toArray):=by
  show ((items.toList.drop (sIx items.size 0 lo)).take (sIx items.size items.size hi-sIx items.size 0 lo)).toArray.size<=sizeLine;rw[cF,cG,dE,dB];omega
 have i:sIx items.size items.size hi<=items.size:=yz8 _ _ (cc _) hi;let#[f,d,e,g]:=id hs;have c:s.TypeIs (.ref sl) "slice":=#[f,d,e];unfold getItem
 try with_reducible refine wpAny_holding ?_
 first|erw[bX (cq ?_)]|skip
 erw[bX (wpAny_sequenceKey ht.typeIs ∅ ?_),<-bX (wpAny_callSpecial?_slot (name:=Str.ofString "__getitem__") ht.typeIs PyProof.Rows.slot_tuple_getitem
  (wpAny_call_entry PyProof.Rows.slot_tuple_getitem ht.typeIs entry_tuple_getitem ?_ (args_tuple_getitem _ _)))]
 show wpAny _ _ (Builtin.Tuple.tupleItemsOf (.ref t) >>=_) _ _ s;erw[bX (tupleItemsOf_ ht ?_),<-bX (wpAny_typeOf c ?_)];rwa[if_pos ∅,bX (jy hs pl pu ?_)]
 have b:¬((((sIx items.size 0 lo:Nat):Int) == 0 && (1:Int) == 1 && (sIx items.size items.size hi-sIx items.size 0 lo) == items.size)=true):=by
  intro q;rw[cC,cC]at q;have j:((sIx items.size 0 lo:Nat):Int)=0:=eq_of_beq q.1.1;have k:sIx items.size items.size hi-sIx items.size 0 lo=items.size:=eq_of_beq q.2;erw[hw #[(),()]]
 show wpAny _ _ (if (((sIx items.size 0 lo:Nat):Int) == 0 && (1:Int) == 1 && (sIx items.size items.size hi-sIx items.size 0 lo) == items.size)=true then _ else _) _ _ s;rw[if_neg b,yny]
 first
  |erw[bX (m:=Builtin.Tuple.tupleExact _) (wpAny_newObj_type (cq #[_,J,cq h]) a)]
  |erw[bX (m:=Builtin.Tuple.tupleExact _) (wpAny_newObj_type (bX (cq (cq #[_,J,cq h]))) a)]
  |erw[bX (bX (m:=Builtin.Tuple.tupleExact _) (wpAny_newObj_type (cq (cq #[_,J,cq h])) a))]
  |erw[bX (bX (m:=Builtin.Tuple.tupleExact _) (wpAny_newObj_type (cq #[_,J,cq h]) a))]
end
end
end HT
namespace L2
open PySem PySem.Spec PyProof.Rows
mutual
variable{us:Ο}{v:qc}
abbrev TO:=St->Hp->(ql Int->Hp->Prop)->Prop
def PO(X:Cx)(e:ql qh)(t:TO):Prop :=
 ∀(pins:Θ)(s:qa)(σ:St)(H:Hp)(Q:ql Int->Hp->Prop),'i' s->t σ H Q ->
  wpAny (model X.prog X.w) X.A (evalPart e X.env) (λu s'=>∃o H',Inv X pins σ H' s'/\IsPart u o/\Q o H') X.xe s
def ykm:TO:=λZ H Q=>Q none H
def vd2(t:TE):TO:=λσ H Q=>t σ H λx H1=>∃i,x=.int i/\Q (some i) H1
end
section
mutual
variable{X:Cx}{e:qh}{te:TE}{lo hi:ql qh}{tl th:TO}{pos p2:Pos}
def zj:PO X none ykm:=by intro a s σ H Q I h;rwa[evalPart_none,cq #[none,H,I,.none,h]]
def ut(h:PE X e te):PO X (some e) (vd2 te):=by intro a s σ H Q I b;rwa[evalPart_some,thn (h a s σ H _ I b) λu j h'=>?_];let#[x,c,g,d,f]:=h';let#[i,J,q]:=f;let#[t,J]:=d;erw[some i,c,g,.int i t,q]
def SlR(X:Cx)(r:V->ql Int->ql Int->Hp->VK->Prop):Prop :=
 ∀(pins:Θ)(s:qa)(σ:St)(H:Hp)(x:V)(v vl vu:qc)(lo hi:ql Int)(sl:z4)(Q:VK),'i' s->xr x v->s.heap.IsSliceOf sl vl vu .none->IsPart vl lo->IsPart vu hi->r x lo hi H Q ->
  ∃T id,typeLookup (.type T) "__getitem__"=pure (some (.builtin id))/\s.TypeIs v T/\wpAny (model X.prog X.w) X.A (getItem v (.ref sl)) (EP X pins σ Q) X.xe s
def SlR.or{r r':V->ql Int->ql Int->Hp->VK->Prop}(h:SlR X r)(h':SlR X r'):SlR X (λx lo hi H Q=>r x lo hi H Q\/r' x lo hi H Q):=by
 intro a s σ H x v e c lo hi b Q I g i d f q;rcases q with q|q
 .erw[h a s σ H x v e c lo hi b Q I g i d f q]
 .erw[h' a s σ H x v e c lo hi b Q I g i d f q]
def tSl(r:V->ql Int->ql Int->Hp->VK->Prop)(te:TE)(tl th:TO):TE:=λσ H Q=>te σ H λx H1=>tl σ H1 λl H2=>th σ H2 λu H3=>r x l u H3 Q
def x8{r:V->ql Int->ql Int->Hp->VK->Prop}(hr:SlR X r)(he:PE X e te)(hl:PO X lo tl)(hu:PO X hi th):PE X (.Subscript e (.Slice lo hi none p2) pos) (tSl r te tl th):=by refine .mk λa s σ H Q I h=>?_;erw[Subscript_ (thn (he a s σ H _ I h) λv F h'=>?_)];let#[x,C,n,i,y]:=h';erw[wpAny_Slice (thn (hl a F σ C _ n y) λf p ⟨l,G,B,D,ς⟩=>thn (hu a p σ G _ B ς) λd c h'=>?_)];let#[u,g,o,E,z]:=h';rwa[evalPart_none,cq ?_];have j:Inv X a σ g {c with heap:=c.heap.push { cls:=.type "slice",data:=.fields (List.toArray [f,d,.none])} }:=o.kept (t':=c.toks) λb K q=>bZ _ q;let#[T,id,t,k,m]:=hr a {c with heap:=c.heap.push { cls:=.type "slice",data:=.fields (List.toArray [f,d,.none])} } σ g x v f d l u c.heap.objs.size Q j i (Heap.IsSliceOf.new ..) D E z;show 'w' (subscriptTail e (.Slice lo hi none p2) v (.ref c.heap.objs.size)) (EP X a σ Q) X.xe {c with heap:=c.heap.push { cls:=.type "slice",data:=.fields (List.toArray [f,d,.none])} };erw[tail_any (ops:=[.ref c.heap.objs.size,v]) k t m (by with_unfolding_all rfl)]
def yc0(xs:Υ)(lo hi:ql Int):Υ:=(xs.drop (HT.sIx xs.length 0 lo)).take (HT.sIx xs.length xs.length hi-HT.sIx xs.length 0 lo)
def Ĕ(xs:Υ)(lo hi:ql Int):(yc0 xs lo hi).length<=xs.length:=by unfold yc0;rw[cG,dE];omega
def vj3(K:z3):V->ql Int->ql Int->Hp->VK->Prop:=λx lo hi H Q=>∃a xs,x=.ref a/\SqT K H a xs/\
 ¬(HT.sIx xs.length 0 lo=0/\HT.sIx xs.length xs.length hi=xs.length)/\∀p,H p=none->Q (.ref p) (upd H p (.tup (yc0 xs lo hi)))
def yzp:SlR X (vj3 X.K):=by
 intro i s σ H x v z w lo f u Q I n p l m h;let#[a,d,J,t,k,q]:=h;cases n;let#[e,r,g,j]:=I.tuple t;have c:e.toArray.size=d.length:=by rwa[cF,r.length.symm]
 erw["tuple",_,PyProof.Rows.slot_tuple_getitem.lookup,g.typeIs,?_,<-HT.getItem_tuple_cut g p l m (by rwa[c,k]) ?_ (by rwa[c,j])];rwa[c,#[.ref 'n',_,I.laid (t':=s.toks) (o:=.tup (yc0 d lo f)) (λb y q=>bZ _ q) (cc _) ?_,J,q _ (I.hok.fresh (cc _))]];erw[cO (Ĕ d lo f) j,_,(r.drop (HT.sIx d.length 0 lo)).take (HT.sIx d.length d.length f-HT.sIx d.length 0 lo),IsTup.new _ _]
end
end
mutual
noncomputable def ixN(n:Nat)(i:Int):ql Nat:=if 0<=i then (if i<n then some i.toNat else none)else if -(n:Int)<=i then some (i+n).toNat else none
def atI{α:Type}(xs:qj α)(i:Int):ql α:=(ixN xs.length i).bind λj=>xs[j]?
def yt3{n:Nat}{i:Int}{j:Nat}(h:ixN n i=some j):seqIndex? i n=some j/\j<n/\-(n:Int)<=i/\i<n:=by
 unfold ixN at h;by_cases h0:0<=i
 .rw[if_pos h0]at h;by_cases h1:i<n
  .rw[if_pos h1]at h;have e:i.toNat=j:=cu h;exists by rw[seqIndex_of h0 h1,e],(),(),h1
  .rw[if_neg h1]at h;cases h
 .rw[if_neg h0]at h;by_cases h1:-(n:Int)<=i
  .rw[if_pos h1]at h;have e:(i+n).toNat=j:=cu h;exists by rw[seqIndex_neg () h1,e],(),h1,()
  .rw[if_neg h1]at h;cases h
def yjr{α:Type}{xs:qj α}{i:Int}{v:α}(h:atI xs i=some v):∃j,seqIndex? i xs.length=some j/\xs[j]?=some v/\j<xs.length/\-(xs.length:Int)<=i/\i<xs.length:=by
 unfold atI at h
 cases e:ixN xs.length i with
 |none=>rw[e]at h;cases h
 |some j =>
  rw[e]at h;let#[a,b,d,c]:=yt3 e;erw[j,a,h,b,d,c]
def vw{α:Type}{xs:qj α}{j:Nat}{v:α}(h:xs[j]?=some v):atI xs (j:Int)=some v:=by
 have a:j<xs.length:=(ck.mp h).1
 have e:ixN xs.length (j:Int)=some j:=by
  unfold ixN;rw[if_pos (),if_pos ()];simp
 unfold atI;rwa[e,h]
def ymq{α:Type}(xs:qj α)(v:α):atI (xs++[v]) (-1)=some v:=by
 have a:(xs++[v]).length=xs.length+1:='s'
 have e:ixN (xs++[v]).length (-1)=some xs.length:=by
  unfold ixN;rw[a,if_neg ∅,if_pos ()]
  congr 1
  omega
 unfold atI;rw[e];show (xs++[v])[xs.length]?=some v;simp
def yka(b:qh):Prop:=∀o i,subscripted b false o i=operate [o,i] (getItem o i)
def IxR(X:Cx)(r:R2):Prop :=
 ∀(value slice:qh)(pins:Θ)(s:qa)(σ:St)(H:Hp)(x y:V)(v u:qc)(Q:VK),'i' s->xr x v->xr y u->r x y H Q ->
  subscripted slice false v u=operate [v,u] (getItem v u)->'w' (subscriptTail value slice v u) (EP X pins σ Q) X.xe s
def MtR(X:Cx)(id:String)(r:V->qj V->Hp->VK->Prop):Prop :=
 ∀(pins:Θ)(s:qa)(σ:St)(H:Hp)(x:V)(xs:Υ)(v:qc)(us:Ο)(Q:VK),'i' s->xr x v->w8 xs us->r x xs H Q ->
  wpAny (model X.prog X.w) X.A (call (.builtin id) (v::us)) (EP X pins σ Q) X.xe s
end
section
mutual
variable{X:Cx}{a b:qh}{ta tb:TE}{pos:Pos}
def vhu{r:R2}(hr:IxR X r)(ha:PE X a ta)(hb:PE X b tb)(hs:yka b):PE X (.Subscript a b pos) (tOp r ta tb):=by refine .mk λc s σ H Q I h=>?_;erw[Subscript_ (vg3 ha hb I h λv u e x y d f g i q=>hr a b c e σ d x y v u Q f g i q (hs _ _))]
def vg1(K:z3):R2:=λx y H Q=>∃p xs i v,x=.ref p/\y=.int i/\SqL K H p xs/\atI xs i=some v/\Q v H
def viz(K:z3):R2:=λx y H Q=>∃p xs i v,x=.ref p/\y=.int i/\SqT K H p xs/\atI xs i=some v/\Q v H
def we:IxR X (vg1 X.K):=by
 intro e d a s σ H x y v u Q I F G h n;let#[p,M,i,z,J,J,B,ς,q]:=h;cases F;let#[t,J]:=G;let#[g,r,k,L]:=I.list B;let#[j,c,A,N,C,D]:=yjr ς;let#[w,m,f]:=r.get A;let E:=r.length;let O:=yck;have b:EP X a σ Q w s:=#[z,H,I,f,q];by_cases h0:0<=i
 .have l:i.toNat=j:=by
   rw[seqIndex_of h0 D]at c;erw[cu c]
  erw[item_listR k.isList h0 () (by rw[l];simpa using m) b n]
 .have l:(i+(g.toArray.size:Int)).toNat=j:=by
   rw[seqIndex_neg () C]at c;rwa[cF,<- E,cu c]
  exact subscriptTail_builtinR (x:=w) k.isList.typeIs slot_list_getitem.lookup
   (wpAny_getItem_list_neg (Q:=λr o=>r=w/\EP X a σ Q r o) k.isList () (by rw[cF]<;>omega) () (by rw[l];simpa using m) #[J,b]) n
def zt:IxR X (viz X.K):=by
 intro d b a s σ H x y v u Q I B D h C;let#[p,L,i,z,J,J,l,E,q]:=h;cases B;let#[t,J]:=D;let#[m,r,f,ς]:=I.tuple l;let#[j,n,k,M,F,G]:=yjr E;let#[w,o,e]:=r.get k;let A:=r.length;let N:=yck;have c:EP X a σ Q w s:=#[z,H,I,e,q];exact subscriptTail_builtinR (x:=w) f.typeIs slot_tuple_getitem.lookup
  (getItem_tuple (j:=j) (Q:=λr g=>r=w/\EP X a σ Q r g) f () () (by rwa[cF,<- A,n]) (by simpa using o) #[J,c]) C
def ybm(lo hi:ql Int)(n:Nat):(sliceBounds lo hi none n).1=((HT.sIx n 0 lo:Nat):Int)/\(sliceBounds lo hi none n).2.1=((HT.sIx n n hi:Nat):Int)/\(sliceBounds lo hi none n).2.2=1:=by
 erw[?_,?_,rfl]
 .cases lo with
  |none=>simp[sliceBounds,HT.sIx]
  |some i =>
   simp only[sliceBounds,HT.sIx,Option.getD_none,show (1:Int) > 0 by decide,if_true];by_cases h:i<0
   .simp only[h,if_true]<;>omega
   .simp only[h,if_false]<;>omega
 .cases hi with
  |none=>simp[sliceBounds,HT.sIx]
  |some i =>
   simp only[sliceBounds,HT.sIx,Option.getD_none,show (1:Int) > 0 by decide,if_true];by_cases h:i<0
   .simp only[h,if_true]<;>omega
   .simp only[h,if_false]<;>omega
def ŭ(its:Ο)(lo hi:ql Int):slicePick its.toArray lo hi none=((its.drop (HT.sIx its.length 0 lo)).take (HT.sIx its.length its.length hi-HT.sIx its.length 0 lo)).toArray:=by let#[a,b,c]:=ybm lo hi its.toArray.size;unfold slicePick;rw[a,b,c];simp only[sliceRange_one,pick_run,cF]<;>rfl
def vjq(K:z3):V->ql Int->ql Int->Hp->VK->Prop:=λx lo hi H Q=>∃a xs,x=.ref a/\SqL K H a xs/\∀p,H p=none->Q (.ref p) (upd H p (.lst (yc0 xs lo hi)))
def ju:SlR X (vjq X.K):=by intro g s σ H x v y u lo e t Q I l m j k h;let#[a,c,J,n,q]:=h;cases l;let#[i,r,f,p]:=I.list n;let d:=r.length;erw["list",_,slot_list_getitem.lookup,f.isList.typeIs,?_,<-wpAny_getItem_list_slice f.isList m j k .none 's' ?_ (by rw[cF]<;>omega)];rwa[ŭ,<- d,#[.ref 'n',_,I.laid (t':=s.toks) (o:=.lst (yc0 c lo e)) (λb w q=>bZ _ q) (cc _) ?_,J,q _ (I.hok.fresh (cc _))]];erw[cO (Ĕ c lo e) p,_,0,(r.drop (HT.sIx c.length 0 lo)).take (HT.sIx c.length c.length e-HT.sIx c.length 0 lo),cA _ J]
noncomputable def Ŏ:V->Bool
 | .non=>true
 | .bl _=>true
 | .int _=>true
 | .str _=>true
 |_=>false
noncomputable def eqV:V->V->Bool
 | .non,.non=>true
 | .bl a,.bl b=>a == b
 | .bl a,.int b=>(if a then 1 else 0) == b
 | .int a,.bl b=>a == (if b then 1 else 0)
 | .int a,.int b=>a == b
 | .str a,.str b=>a == b
 |_,_=>false
def yz4{A:qf}{s:qa}{y x:V}{u:qc}(ry:xr y u)(rx:xr x v)(fy:Ŏ y=true)(fx:Ŏ x=true):SeqAt.EqAt A s u v (eqV y x):=by
 cases y with
 |non =>
  cases ry
  cases x with
  |non=>cases rx;erw[SeqAt.EqAt.same _]
  |bl b=>cases rx;erw[SeqAt.EqAt.none_bool b]
  |int b=>let⟨t,rfl⟩:=rx;erw[SeqAt.EqAt.none_int b t]
  |str b=>let⟨t,rfl⟩:=rx;erw[SeqAt.EqAt.none_str b t]
  |_=>erw[absurd (show false=true from fx) cE]
 |bl a =>
  cases ry
  cases x with
  |non=>cases rx;erw[SeqAt.EqAt.bool_none a]
  |bl b=>cases rx;erw[SeqAt.EqAt.bool_bool a b]
  |int b=>let⟨t,rfl⟩:=rx;erw[SeqAt.EqAt.bool_int a b t]
  |str b=>let⟨t,rfl⟩:=rx;erw[SeqAt.EqAt.bool_str a b t]
  |_=>erw[absurd (show false=true from fx) cE]
 |int a =>
  let#[c,J]:=ry
  cases x with
  |non=>cases rx;erw[SeqAt.EqAt.int_none a c]
  |bl b=>cases rx;erw[SeqAt.EqAt.int_bool a c b]
  |int b=>let⟨t,rfl⟩:=rx;erw[SeqAt.EqAt.int_int a c b t]
  |str b=>let⟨t,rfl⟩:=rx;erw[SeqAt.EqAt.int_str a c b t]
  |_=>erw[absurd (show false=true from fx) cE]
 |str a =>
  let#[c,J]:=ry
  cases x with
  |non=>cases rx;erw[SeqAt.EqAt.str_none a c]
  |bl b=>cases rx;erw[SeqAt.EqAt.str_bool a c b]
  |int b=>let⟨t,rfl⟩:=rx;erw[SeqAt.EqAt.str_int a c b t]
  |str b=>let⟨t,rfl⟩:=rx;erw[SeqAt.EqAt.str_str a c b t]
  |_=>erw[absurd (show false=true from fx) cE]
 |_=>erw[absurd (show false=true from fy) cE]
def eqU(x:V)(u:qc):Bool:=match u with
 | .none=>eqV .non x
 | .bool b=>eqV (.bl b) x
 | .int i _=>eqV (.int i) x
 | .str z _=>eqV (.str z) x
 |_=>false
def yqc{x y:V}{u:qc}(r:xr y u)(f:Ŏ y=true):eqU x u=eqV y x:=by
 cases y with
 |non=>cases r;rfl
 |bl b=>cases r;rfl
 |int i=>let⟨t,rfl⟩:=r;rfl
 |str z=>let⟨t,rfl⟩:=r;rfl
 |_=>erw[absurd (show false=true from f) cE]
theorem Į{x:V}:∀{xs:Υ}{us:Ο},w8 xs us->xs.all Ŏ=true->us.any (eqU x)=xs.any λy=>eqV y x
 |_,_,.nil,_=>rfl
 |y::xs,u::us,.cons r t,f=>by
  rw[List.all_cons,cC]at f;rw[List.any_cons,List.any_cons,yqc r f.1,Į t f.2]
theorem Ô{A:qf}{s:qa}{x:V}(rx:xr x v)(fx:Ŏ x=true):∀{xs:Υ}{us:Ο},w8 xs us->xs.all Ŏ=true->∀u∈us,SeqAt.EqAt A s u v (eqU x u)
 |_,_,.nil,_=>λu a=>by cases a
 |y::xs,u::us,.cons r t,f=>λb a=>by
  rw[List.all_cons,cC]at f;rcases cr.mp a with rfl|a
  .rw[yqc r f.1];erw[yz4 r rx f.1 fx]
  .erw[Ô rx fx t f.2 b a]
def inV(x:V)(xs:Υ):Bool:=xs.any λy=>eqV y x
def rIn(K:z3)(neg:Bool):R2:=λx y H Q=>∃p xs,y=.ref p/\(SqL K H p xs\/SqT K H p xs)/\Ŏ x=true/\xs.all Ŏ=true/\Q (.bl (if neg then !inV x xs else inV x xs)) H
def ħ:OpR X (compareOp .In) (rIn X.K false):=by
 intro g s σ H x y v u Q I i j h;let#[p,l,J,b,f,c,q]:=h;cases j;rcases b with b|b
 .let#[a,r,e,k]:=I.list b;erw[SeqAt.in_listAt (eqU x) e.isList (λw d=>Ô i f r c w (by simpa using d)) #[.bl _,H,I,J,?_]];rw[show a.toArray.any (eqU x)=a.any (eqU x) by simp,Į r c];erw[q]
 .let#[a,r,e,k]:=I.tuple b;erw[SeqAt.in_tupleAt (eqU x) e (λw d=>Ô i f r c w (by simpa using d)) #[.bl _,H,I,J,?_]];rw[show a.toArray.any (eqU x)=a.any (eqU x) by simp,Į r c];erw[q]
def ybf:OpR X (compareOp .NotIn) (rIn X.K true):=by
 intro g s σ H x y v u Q I i j h;let#[p,l,J,b,f,c,q]:=h;cases j;rcases b with b|b
 .let#[a,r,e,k]:=I.list b;erw[SeqAt.notIn_listAt (eqU x) e.isList (λw d=>Ô i f r c w (by simpa using d)) #[.bl _,H,I,J,?_]];rw[show a.toArray.any (eqU x)=a.any (eqU x) by simp,Į r c];erw[q]
 .let#[a,r,e,k]:=I.tuple b;erw[SeqAt.notIn_tupleAt (eqU x) e (λw d=>Ô i f r c w (by simpa using d)) #[.bl _,H,I,J,?_]];rw[show a.toArray.any (eqU x)=a.any (eqU x) by simp,Į r c];erw[q]
def yr:ji X (.builtin "len") (λxs H Q=>∃p ys,xs=[.ref p]/\(SqL X.K H p ys\/SqT X.K H p ys)/\Q (.int ys.length) H):=by
 intro f s σ H xs j Q I r h;let#[p,ys,J,b,q]:=h;let#[u,J,g]:=û r;cases g;let k:=yck;rcases b with b|b
 .let#[d,c,e,i]:=I.list b;let a:=c.length;erw[Calls.call_len_list e.isList (by simp only[cF]<;>omega) #[.int ys.length,H,I.tok _,#[s.toks+1,by rw[cF,a]],q]]
 .let#[d,c,e,i]:=I.tuple b;let a:=c.length;erw[len_tuple e (by simp only[cF]<;>omega) #[.int ys.length,H,I.tok _,#[s.toks+1,by rw[cF,a]],q]]
def xj:ji X (.builtin "len") (λxs H Q=>∃z,xs=[.str z]/\z.length<=sizeLine/\Q (.int z.length) H):=by intro a s σ H xs c Q I r h;let#[z,J,d,q]:=h;let#[u,J,t,J]:=û r;let b:=yck;erw[len_str () #[.int z.length,H,I.tok _,#[_,J],q]]
def xk:ji X (.type "list") (λxs H Q=>∃p ys,xs=[.ref p]/\(SqL X.K H p ys\/SqT X.K H p ys)/\∀l,H l=none->Q (.ref l) (upd H l (.lst ys))):=by
 intro j s σ H xs B Q I r h;let#[p,ys,J,i,q]:=h;let#[u,J,A]:=û r;cases A;have k:∀(a:Ο),w8 ys a->ys.length<=sizeLine->∀(c:qg)(f:Nat),(∀b o',s.heap.get? b=some o'->c.get? b=some o') ->
   c.get? 'n'=some { cls:=.type "list",dict:=none,data:=.seq a.toArray f,slots:=#[]}->EP X j σ Q (.ref 'n') {s with heap:=c}:=λa d t c f g e =>
  #[.ref 'n',_,I.laid (t':=s.toks) g (cc _) (show xq X.prog X.w _ c _ (.lst ys)from #[t,a,f,d,e]),J,q _ (I.hok.fresh (cc _))]
 rcases i with i|i
 .let#[a,d,y,t]:=I.list i;let m:=d.length;let#[o,x,z,n,v]:=y.isList;erw[call_list_seq p (.inl J) x z v (λc f g e=>k a d t c f g e) (by simp only[cF]<;>omega)]
 .let#[a,d,y,t]:=I.tuple i;let m:=d.length;let#[o,x,z,n,v]:=y;erw[call_list_seq p (.inr J) x z v (λc f g e=>k a d t c f g e) (by simp only[cF]<;>omega)]
def Ï:ji X (.type "tuple") (λxs H Q=>∃p ys,xs=[.ref p]/\((SqL X.K H p ys/\∀l,H l=none->Q (.ref l) (upd H l (.tup ys)))\/(SqT X.K H p ys/\Q (.ref p) H))):=by
 intro a s σ H xs x Q I r h;let#[p,ys,J,h]:=h;let#[u,J,v]:=û r;cases v;rcases h with⟨f,q⟩|⟨f,q⟩
 .let#[c,g,i,m]:=I.list f;let k:=g.length;erw[call_tuple_list i.isList (λd n=>?_) (by simp only[cF]<;>omega)];have j:Inv X a σ H {s with heap:=d}:=I.kept (t':=s.toks) n
  have t:Inv X a σ (upd H d.objs.size (.tup ys)) {s with heap:=d.push { cls:=.type "tuple",data:=.seq c.toArray} } :=
   j.laid (t':=s.toks) (λb o e=>bZ _ e) (cc _) (show xq X.prog X.w _ _ _ (.tup ys)from #[m,c,g,IsTup.new _ _])
  erw[.ref d.objs.size,_,t,J,q _ (j.hok.fresh (cc _))]
 .let#[c,g,i,m]:=I.tuple f;erw[call_tuple_same i #[.ref p,H,I,J,q]]
def tyV(K:z3)(T:String)(x:V)(H:Hp):Prop:=match x with
 | .str _=>T="str"
 | .int _=>T="int"
 | .ref p=>(T="list"/\∃xs,SqL K H p xs)\/(T="tuple"/\∃o,K.lookup p=some o/\o.cls=.type "tuple"/\o.dict=none) \/
   (T="dict"/\((∃kvs,H p=some (.dK kvs))\/∃kvs,H p=some (.dT kvs)))\/(T="set"/\∃S n,H p=some (.set S n))
 |_=>False
def yqg{pins:Θ}{σ:St}{H:Hp}{s:qa}{T:String}{x:V}(I:'i' s)(r:xr x v)(ty:tyV X.K T x H):
  s.TypeIs v T/\∀a,v=.ref a->∃ob,s.heap.get? a=some ob/\ob.dict=none:=by
 cases x with
 |str z =>
  let#[t,J]:=r;cases (show T="str" from ty)
  erw[typeIs_str s z t,λZ e=>nomatch e]
 |int i =>
  let#[t,J]:=r;cases (show T="int" from ty)
  erw[typeIs_int s i t,λZ e=>nomatch e]
 |ref p =>
  cases r;rcases ty with⟨rfl,q,k⟩|⟨rfl,o,b,m,f⟩|⟨rfl,b⟩|⟨rfl,S,n,b⟩
  .let#[l,_,j,_]:=I.list k;erw[j.isList.typeIs,λa e=>?_];cases e;let#[o,n,e,c,f,_]:=j;erw[o,e,f]
  .erw[#[o,I.kIn p o b,m],λa e=>?_];cases e;erw[o,I.kIn _ o b,f]
  .have z:∃o,s.heap.get? p=some o/\o.ExactDict:=by
    rcases b with⟨g,b⟩|⟨g,b⟩
    .let#[_,_,_,_,o,_,_,e,d,_]:=I.hok p _ b;erw[o,e,d]
    .let#[_,_,_,_,o,_,_,e,d,_]:=I.hok p _ b;erw[o,e,d]
   let#[o,e,d]:=z;erw[#[o,e,d.1],λa h=>?_];cases h;erw[o,e,d.2.1]
  .let#[o,_,_,_,e,d,_]:=I.hok p _ b;erw[#[o,e,d.1],λa h=>?_];cases h;erw[o,e,d.2.1]
 |_=>erw[False.elim ty]
def vj4(K:z3)(T:String)(r:V->qj V->Hp->VK->Prop)(to:TE):TE:=λσ H Q=>to σ H λx H1=>tyV K T x H1/\r x [] H1 Q
def tBM(K:z3)(T:String)(r:V->qj V->Hp->VK->Prop)(to:TE)(t:TA):TE:=λσ H Q=>to σ H λx H1=>tyV K T x H1/\t σ H1 λxs H2=>r x xs H2 Q
variable{o e:qh}{es:qj qh}{to:TE}{t:TA}{name:Str}{apos cpos:Pos}{T id:String}{r:V->qj V->Hp->VK->Prop}
def yci(pa:PlainAttrs T)(slot:Slot T name id)(hty:typeOf (.builtin id)=pure (.type "method_descriptor"))(hm:MtR X id r)(ho:PE X o to)
  (hbase:↑(attributeBase o name X.env (eval o X.env)=eval o X.env)) (hline:↑((apos.endLine == cpos.line)=true)):PE X (.Call (.Attribute o name apos) [] [] cpos) (vj4 X.K T r to):=by refine .mk λa s σ H Q I h=>?_;erw[wpAny_Call_method0_late hbase hline (thn (ho a s σ H _ I h) λv i h'=>?_)];let#[x,d,c,b,j,f]:=h';let#[g,e]:=yqg c b j;erw[T,id,pa,slot,hty,g,e,Calls.callWith_builtin J (PySem.evalArgs_none (hm a i σ d x [] v [] Q c b .nil f))]
def uy(pa:PlainAttrs T)(slot:Slot T name id)(hty:typeOf (.builtin id)=pure (.type "method_descriptor"))(hm:MtR X id r)(ho:PE X o to)(ha:PA X (e::es) t)
  (hbase:↑(attributeBase o name X.env (eval o X.env)=eval o X.env))
  (hfew:((backTo cpos (starEach (e::es) X.env)).all (λx=>!x.1) && (backToKw cpos (keywordEach [] X.env)).all (λx=>x.1.isSome)
   && decide ((e::es).length+([]:qj Keyword).length+(if ([]:qj Keyword).isEmpty then 0 else 1)<30))=true:=by rfl)
  (hline:↑((apos.endLine == cpos.line)=true)) (hs:↑'a') (hplain:↑((backTo cpos (starEach es X.env)).any (·.1)=false)):
  PE X (.Call (.Attribute o name apos) (e::es) [] cpos) (tBM X.K T r to t):=by refine .mk λa s σ H Q I h=>?_;erw[wpAny_Call_method_late hbase hfew hline J (thn (ho a s σ H _ I h) λv u h'=>?_)];let#[x,k,c,b,w,p]:=h';let#[q,m]:=yqg c b w;erw[T,id,pa,slot,hty,q,m,?_];let d:=ha cpos a u σ k _ c p;rw[hs]at d⊢;erw[Calls.callWith_builtin (by show (false || (backTo cpos (starEach es X.env)).any (·.1))=false;rw[hplain]<;>rfl) (Calls.evalArgs_plain ?_),<-thn d λi l ⟨j,g,n,f,y⟩=>hm a l σ g x j v i Q n b f y]
end
end
mutual
def MtM(X:Cx)(id:String)(r:V->qj V->Hp->VK->Prop):Prop :=
 ∀(pins:Θ)(s:qa)(σ:St)(H:Hp)(x:V)(xs:Υ)(v:qc)(us:Ο)(Q:VK),'i' s->xr x v->w8 xs us->r x xs H Q ->
  wpAny (model X.prog X.w) X.A (call (.builtin id) (v::us)) (EP X pins σ Q) X.xe s
def w8.one{x:V}(h:w8 [x] us):∃u,us=[u]/\xr x u:=by
 cases h with
 |cons r t=>cases t;exists _,J,r
theorem w8.zero:∀{us:Ο},w8 [] us->us=[]
 |_,.nil=>rfl
theorem w8.reverse{xs:Υ}(h:w8 xs us):w8 xs.reverse us.reverse:=by
 induction h with
 |nil=>erw[.nil]
 |cons r t ih=>rwa[List.reverse_cons,List.reverse_cons,w8.append ih (.cons r .nil)]
theorem w8.rep{xs:Υ}(h:w8 xs us):∀k:Nat,w8 (List.replicate k xs).flatten (List.replicate k us).flatten
 |0=>.nil
 |k+1=>by
  rwa[di,di,List.flatten_cons,List.flatten_cons,w8.append h (w8.rep h k)]
theorem yb4(its:Ο):∀(k:Nat)(acc:Ο),
  List.foldl (λx1 x2=>x1++x2) acc.toArray (List.replicate k its.toArray)=(acc++(List.replicate k its).flatten).toArray
 |0,acc=>by simp
 |k+1,acc=>by
  have e:acc.toArray++its.toArray=(acc++its).toArray:='s'
  have a:(acc++its)++(List.replicate k its).flatten=acc++(List.replicate (k+1) its).flatten:=by
   rw[di,List.flatten_cons,cJ]
  rw[<- a,<- yb4 its k (acc++its),<- e,di,List.foldl_cons]
end
section
mutual
variable{X:Cx}{pins:Θ}{σ:St}{H:Hp}{s:qa}{l b:z4}{xs ys zs:Υ}
def Inv.lset{its its':Ο}{n:Nat}{f:Array qc->Array qc}{t':Nat}(I:'i' s)(hH:H l\xs)
  (e:s.heap.get? l=some { cls:=.type "list",data:=.seq its.toArray n}) (hf:f its.toArray=its'.toArray) (hv:w8 ys its') (hz:ys.length<=sizeLine):
  Inv X pins σ (upd H l (.lst ys)) {s with heap:=s.heap.update l (Obj.mapSeq f),toks:=t'}:=by have q:=PySem.IsL.update e f;rw[hf]at q;erw[I.write (x:=l) (e:=l) (by rwa[hH,trivial]) (.inl J) (λc u b a=>(Heap.get?_update_other s.heap (Obj.mapSeq f) (Ne.symm b)).trans a) #[_,q] ?_,<-hz,its',_,hv,q]
def Inv.lnew{its:Ο}{t':Nat}(I:'i' s)(hv:w8 ys its)(hz:ys.length<=sizeLine):
  Inv X pins σ (upd H 'n' (.lst ys)) {s with heap:=s.heap.push { cls:=.type "list",data:=.seq its.toArray},toks:=t'} :=
 I.laid (λZ Z q=>bZ _ q) (cc _) #[hz,its,0,hv,cA _ J]
theorem Inv.fresh(I:'i' s):H 'n'=none:=I.hok.fresh (cc _)
def Inv.lstM(I:'i' s)(hH:H l\xs):xs.length<=sizeLine/\∃(its:Ο)(n:Nat),w8 xs its/\xs.length=its.length/\s.heap.get? l=some { cls:=.type "list",data:=.seq its.toArray n}:=by let#[z,its,n,r,e]:=I.hok l _ hH;erw[z,its,n,r,r.length,e]
def yfb{n:Nat}(h:n<=sizeLine):Builtin.List.listTooLong n=false:=by unfold Builtin.List.listTooLong;erw[cj ()]
end
end
section
mutual
variable{X:Cx}
def yj9:V->qj V->Hp->VK->Prop:=λx vs H Q=>∃l xs y,x=.ref l/\vs=[y]/\H l\xs/\xs.length<sizeLine/\Q .non (upd H l (.lst (xs++[y])))
def w9:MtM X "list.append" yj9:=by intro c s σ H x j v i Q I f g h;let#[l,m,y,J,J,b,o,q]:=h;cases f;let#[u,J,d]:=g.one;let#[z,a,n,r,k,e]:=I.lstM b;erw[call_meets F.slot_list_append #[_,e,J] F.entry_list_append (F.args_list_append_2 _ _) (PySem.list_append l a.toArray n u (by rw[cF];omega)) #[e,?_],<-.non,_,I.lset (its':=a++[u]) b e 's' (r.append (.cons d .nil)) ?_,J,q];rw[bY,df];omega
def ywo:V->qj V->Hp->VK->Prop:=λx vs H Q=>∃l b xs zs,x=.ref l/\vs=[.ref b]/\H l\xs/\H b\zs/\xs.length+zs.length<=sizeLine/\Q .non (upd H l (.lst (xs++zs)))
def Ò:MtM X "list.extend" ywo:=by
 intro i s σ H x C v ς Q I o m h;let#[l,b,G,A,J,J,g,w,D,q]:=h;cases o;let#[u,J,t]:=m.one;cases t;let#[z,c,n,r,E,e]:=I.lstM g;let#[B,a,y,p,j,k]:=I.lstM w;have f:c.toArray.size+a.toArray.size<=sizeLine:=by rw[cF,cF];omega
 have d:¬(!c.toArray.isEmpty && Builtin.List.listTooLong (c.toArray.size+a.toArray.size))=true:=by
  rwa[yfb f,Bool.and_false,cE]
 refine call_meets F.slot_list_extend #[_,e,J] F.entry_list_extend (F.args_list_extend_2 _ _)
  (AutoSeq1.list_extend_list_list_0 l c.toArray n b a.toArray y d (by rw[cF];omega) ()) #[e,k,?_]
 erw[.non,_,I.lset (its':=c++a) g e 's' (r.append p) ?_,J,q];rw[bY];omega
def yfl:V->qj V->Hp->VK->Prop:=λx vs H Q=>∃l xs,x=.ref l/\vs=[]/\H l\xs/\Q .non (upd H l (.lst xs.reverse))
def Ř:MtM X "list.reverse" yfl:=by intro d s σ H x j v i Q I f g h;let#[l,m,J,J,c,q]:=h;cases f;let b:=g.zero;subst b;let#[z,a,n,r,k,e]:=I.lstM c;erw[call_meets F.slot_list_reverse #[_,e,J] F.entry_list_reverse (F.args_list_reverse_1 _) (AutoSeq1.list_reverse_list_0 l a.toArray n (by rw[cF];omega)) #[e,?_],<-.non,_,I.lset (its':=a.reverse) c e 's' r.reverse ?_,J,q];rw[List.length_reverse];omega
def vku:R2:=λx y H Q=>∃l b xs zs,x=.ref l/\y=.ref b/\H l\xs/\H b\zs/\xs.length+zs.length<=sizeLine/\∀p,H p=none->Q (.ref p) (upd H p (.lst (xs++zs)))
def ĳ:OpR X (binaryOp .Add) vku:=by
 intro d s σ H x y v u Q I m o h;let#[l,b,A,B,J,J,i,k,D,q]:=h;cases m;cases o;let#[z,c,n,r,w,e]:=I.lstM i;let#[t,a,C,f,g,p]:=I.lstM k;erw[PySem.P.add_list e p ?_ (by rw[cF,cF];omega)];have j:c.toArray++a.toArray=(c++a).toArray:='s'
 rwa[j,#[.ref _,_,I.lnew (t':=s.toks) (r.append f) (by rw[bY];omega),J,q _ I.fresh]]
def vkk:R2:=λx y H Q=>∃l k xs,x=.ref l/\y=.int k/\H l\xs/\-(2^63)<=k/\k<2^63/\xs.length*k.toNat<=sizeLine/\
 ∀p,H p=none->Q (.ref p) (upd H p (.lst (List.replicate k.toNat xs).flatten))
def yu4{α:Type}(xs:qj α)(k:Nat):(List.replicate k xs).flatten.length=k*xs.length:=by
 induction k with
 |zero=>simp
 |succ k ih=>rw[di,List.flatten_cons,bY,ih,Nat.succ_mul,Nat.add_comm]
def yp8:OpR X (binaryOp .Mult) vkk:=by
 intro w s σ H x y v u Q I ς K h;let#[l,k,L,J,J,G,D,B,p,q]:=h;cases ς;let#[t,J]:=K;let#[z,b,n,r,E,e]:=I.lstM G;have f:b.toArray.size*k.toNat<=sizeLine:=by rwa[cF,<- E,p]
 have d:¬b.toArray.size*k.toNat > (2^63-1)/8:=by
  have:(sizeLine:Nat)<=(2^63-1)/8:=∅
  omega
 have i:¬(!Builtin.List.listFitsIndex k)=true:=by
  rwa[fitsIndex_both D B,cE]
 have c:¬Builtin.List.listTooLong (b.toArray.size*k.toNat)=true:=by
  rwa[yfb f,cE]
 have g:List.foldl (λo j=>o++j) #[] (List.replicate (if b.toArray.isEmpty=true then 0 else k.toNat) b.toArray)=(List.replicate k.toNat b).flatten.toArray:=by
  have C:∀m:Nat,List.foldl (λo j=>o++j) #[] (List.replicate m b.toArray)=(List.replicate m b).flatten.toArray:=λm=>by
   have:=yb4 b m [];rw[List.nil_append]at this;erw[this]
  rw[C]
  cases b with
  |nil=>simp
  |cons a r'=>rw[if_neg 's']
 refine wpAny_binaryOp_repeat_ref (T:="list") (U:="int") ∅ #[_,e,J] (λA=>typeIs_int A k t) noFill_list_mul F.fills_int_mul F.slot_int_rmul repeat_list F.slot_int_index.lookup
  (call_meets F.slot_int_rmul (typeIs_int s k t) F.entry_int_rmul (F.args_int_rmul_2 _ _) (int___rmul___int_list k t l b.toArray n)
   #[e,J,#[_,e,J],call_meets F.slot_list_mul #[_,e,J] F.entry_list_mul (F.args_list_mul_2 _ _) (AutoListH.list___mul___list_int_3 l b.toArray n k t i d c) #[e,?_]])
 rwa[g,#[.ref _,_,I.lnew (t':=s.toks) (r.rep k.toNat) (by rwa[yu4,Nat.mul_comm,p]),J,q _ I.fresh]]
end
end
end L2
namespace Att
open PySem PySem.W PySem.Calls PyProof.Rows
mutual
def ď{P:Params}{h:qg}:∀(ns:Ρ)(vs:Ο),WellAll P h vs (ns.map WData.int)->IntsAre vs ns:=by
 intro ns
 induction ns with
 |nil =>
  intro vs w;rw[List.map_nil]at w;cases w;erw[.nil]
 |cons n ns ih =>
  intro vs w;rw[cX]at w
  cases w with
  |cons a b =>
   cases a;erw[.cons _ _ (ih _ b)]
def yji{l:OpenLaw}{n:Nat}(hn:l.most=some n){P:Params}{h:qg}{args:qj WData}{vals:Ο}
  (hpre:l.row.toRowW.claim.pre args=true) (hwl:WellAll P h vals args):
  ∃a vs ns,vals=[Value.ref a]/\args=[WData.list (ns.map WData.int)]/\h.get? a=some { cls:=.type "list",data:=.seq vs.toArray}/\IntsAre vs ns/\ns.length<=n:=by
 have f:WShape.hasAll [] args [.list .int]=true:=(pre_splitW hpre).1;have g:l.pre.holds [] { args:=args}=true:=(pre_splitW hpre).2;let#[d,r,J,j,i]:=hasAllW_cons f;obtain rfl:=hasAllW_nil i;let#[o,J,k]:=hasW_list j;let#[ns,J]:=items_int k
 have b:ns.length<=n:=by
  unfold OpenLaw.pre at g
  have c:(WTm.not (.lt (.lit (.int (n:Int))) (.len (.arg 0)))).holds [] { args:=[.list (ns.map .int)]}=true:=by
   let c:=(holds_andW g).1;rw[hn]at c;erw[c]
  let e:=condW_of c (w_not (w_lt w_lit (w_len_list (w_arg J))));rw[bw]at e;erw[Nat.le_of_not_lt λq=>?_];have m:(n:Int)<((ns.length:Nat):Int):=()
  first
   |(rw[cg m]at e;erw[absurd e ∅])
   |(simp at e;omega)
 cases hwl with
 |cons w1 w2 =>
  cases w2
  cases w1 with
  |list ho hall=>erw[_,_,ns,J,J,ho,ď ns _ hall,b]
def yir(l:OpenLaw)(args:qj WData):l.row.toRowW.claim.post args (.bool true) args=true :=
 postW_of (r:=l.row.toRowW) (X:=(true == true))
  (show WShape.has [] (.bool true) .bool=true by first|rfl|decide|simp[WShape.has,WShape.arms,WShape.armsAll])
  (show (WTm.eq .res (.lit (.bool true))).value [] { args:=args,res:=some (.bool true),after:=args}=some (.bool (true == true))from w_eq_bool (w_res J) w_lit) J
def attach_call{l:OpenLaw}{n:Nat}{q:qi}{loose:Τ}{XP:(Ε)->qg->Prop}{YP:qe->qg->Prop}{d:DefRec}
  (hn:l.most=some n) (hdf:d.params.defaults=[])
  (call:∀(w:qe)(s₀ s₁:qa)(mg mb:Ε)(fa:z4)(o:Obj)(pm cd doc:qc)(a:z4)(vs:Ο)(ns:Ρ),
   Ground q loose [] XP w s₀ mg mb s₁.heap->YP w s₁.heap ->
   s₁.heap.get? fa=some o->o.data=.func (docDef d.name d.params d.body d.scope pm cd doc)->s₁.heap.CodeRec cd d.name->mg d.name∣fa ->
   s₁.heap.get? a=some { cls:=.type "list",data:=.seq vs.toArray}->IntsAre vs ns->ns.length<=n->s₁.gens=#[] ->
   codeAny (model l.prog w) callerA (.call (.ref fa) #[[.ref a],[]]) (λr s'=>r=.ok (.ret (.bool true))/\OldK s₁.heap s'.heap/\s'.os=s₁.os/\AllBare s'.gens) s₁):
  WalkO q loose XP YP l.row.toRowW d [] (λf vs=>PySem.call f vs):=by
 intro w s₀ s₁ mg mb G Y fa o pm cd doc F kV A u j p i x k m H g t B h E;obtain rfl:F=.none:=Dflts.none p hdf;obtain rfl:kV=.none:=Dflts.noKw p;let#[a,vs,ns,J,J,c,b,e]:=yji hn g h;erw[enter_call (codeAny_mono (call w s₀ s₁ mg mb fa o pm cd doc a vs ns G Y A (fd_plain u) j i c b e x) λr s' y=>?_)];let#[J,v,C,z]:=y
 erw[.inl #[.bool true,.bool true,[],J,λZ=>rfl,.bool true,yir l _,λZ=>#[List.Pairwise.nil,λZ D=>(nomatch D)]],v,C,z]
end
section
variable{prog:qi}{w:qe}{A:qf}{E:Δ}{s:qa}{K:Frag}
noncomputable def vjc(h:qg)(L d:z4):Θ:=(List.range h.objs.size).filterMap λa=>if a=L\/a=d then none else (h.get? a).map λo=>(a,o)
end
end Att
namespace L2
open PySem PySem.Spec PyProof.Rows
mutual
variable{C a:z4}{fd:FuncData}{st:qd}{qual:Str}{T:String}
theorem ybr:∀{vs:Ο}{ns:Ρ},IntsAre vs ns->w8 (ns.map V.int) vs
 |_,_,.nil=>.nil
 |_,_,.cons n t h=>.cons #[t,J] (ybr h)
def vja(H:Hp):Prop:=∀b,H b=none\/∃o xs,H b=some (.frz o (.lst xs))
def ynw{P:qi}{w:qe}{K:z3}{mg mb:Ε}{CX:CXT}{k:Nat}{fa:z4}{x:Str}{sp:Sp}{s₁:qa}{vs:Ο}{ns:Ρ}
  (KX:K.In s₁.heap) (hns:s₁.heap.Ns mainGlobals mg) (hb:s₁.heap.Ns builtinsNs mb) (hbb:∀x:Str,x≠"__name__"->mb x=bootBuiltins x) (hlim:s₁.heap.NoLimit) (hg:s₁.gens=#[])
  (ha:s₁.heap.get? a=some { cls:=.type "list",data:=.seq vs.toArray}) (hi:IntsAre vs ns) (hl:ns.length<=sizeLine) (hr:jx k callerA)
  (F:∀base:qg,K.In base->base.Ns mainGlobals mg->vq P w K mg base CX k fa fd [x] sp) (hbind:∀(s:qa)(u:qc),BindsTo s fd #[[u],[]] [(x,u)])
  (hsp:∀H:Hp,vja H->SqL K H a (ns.map V.int)->sp [.ref a] H (λv W=>v=.bl true) λW W W=>False)
  (hCX:∀H e s',CX [] H s₁ (λW W W=>False) e s'->False):
  codeAny (model P w) callerA (.call (.ref fa) #[[.ref a],[]]) (λr s'=>r=.ok (.ret (.bool true))/\OldK s₁.heap s'.heap/\s'.os=s₁.os/\AllBare s'.gens) s₁:=by
 let I:=ybr hi;let t:=hi.length;have g:∀H:Hp,vja H->SqL K H a (ns.map V.int)->HOk P w H s₁.heap->(∀b,H b≠none->b=a)->(H a≠none->K.lookup a=none) ->
   codeAny (model P w) callerA (.call (.ref fa) #[[.ref a],[]]) (λr s'=>r=.ok (.ret (.bool true))/\OldK s₁.heap s'.heap/\s'.os=s₁.os/\AllBare s'.gens) s₁:=by
  intro H E X y G R;have c:∀{b:z4}{o:Obj},s₁.heap.get? b=some o->H b=none->(ypd s₁.heap H).get? b=some o:=λe n=>ynn e n
  have D:∀{b:z4}{o:Obj}{p:Array DictEntry}{A:Nat},s₁.heap.get? b=some o->o.data=.dict p A->H b=none:=λ{b o p A}e d=>by
   cases q:H b with
   |none=>rfl
   |some u =>
    have C:b=a:=G b (by rw[q];simp);subst C;rw[ha]at e;cases e;have U:Data.seq vs.toArray _=Data.dict p A:=d;cases U
  have f:∀{b:z4}{m:Ε},s₁.heap.Ns b m->(ypd s₁.heap H).Ns b m:=λ{b m} ⟨o,p,A,e,d,r⟩=>#[o,p,A,c e (D e d),d,r]
  have B:K.In (ypd s₁.heap H):=λb o e=>c (KX b o e) (by
   cases q:H b with
   |none=>rfl
   |some u =>
    have C:b=a:=G b (by rw[q];simp);subst C;rw[R (by rw[q];simp)]at e;cases e)
  have O:Mod K mg (ypd s₁.heap H):=#[B,f hns,#[mb,f hb,hbb],let ⟨mc,h1,h2⟩:=hlim;#[mc,f h1,h2]];have M:yw1 P w K mg (ypd s₁.heap H) callerA [] s₁ H:=#[J,O,λb o e=>ywp e,Nat.le_of_eq (yht _ _),trivial,λb hb=>absurd (show b∈([]:Χ)from hb) 's',y,.of_eq hg];erw[codeAny_mono ((F _ B (f hns)).run callerA [] s₁ H #[[.ref a],[]] [.ref a] [.ref a] _ _ hr M (hbind s₁ (.ref a)) (.cons J .nil) (hsp H E X)) λr s' h=>?_]
  cases r with
  |error e=>erw[(hCX H e s' h).elim]
  |ok fl =>
   cases fl with
   |next=>erw[False.elim h]
   |brk=>erw[False.elim h]
   |cont=>erw[False.elim h]
   |ret u =>
    let#[v,H',os,j,ς,l,N,q]:=h;have Y:v=.bl true:=q;subst Y;obtain rfl:u=Value.bool true:=N;erw[J,OldK.of_keep λb o e=>?_,os,j]
    cases q:H b with
    |none=>erw[ς.keep b o e q (by intro z;erw[absurd (show b∈([]:Χ)from z) 's']) 's']
    |some u =>
     rcases E b with z|⟨S,Z,z⟩
     .rw[q]at z;cases z
     .let Q:=ς.frzs b S _ z;let#[L,_]:=y b _ z;let#[T,_]:=l b _ Q;rw[e]at L;cases L;erw[T]
 cases hk:K.lookup a with
 |some o =>
  let e:=KX a o hk;rw[ha]at e;cases e;erw[g (λW=>none) (λW=>.inl J) (.inr #[_,vs.toArray,_,hk,J,J,J,by rwa[cF,t,hl],by simpa using I]) (λb u z=>by have i:(none:ql HO)=some u:=z;cases i) (λb z=>absurd J z) λz=>absurd J z]
 |none =>
  erw[g (λb=>if b=a then some (.frz { cls:=.type "list",data:=.seq vs.toArray} (.lst (ns.map V.int)))else none) (λb=>?_) (.inl (.inr #[{ cls:=.type "list",data:=.seq vs.toArray},if_pos J])) (λb u z=>?_) (λb z=>?_) λW=>hk]
  .by_cases hb:b=a
   .erw[.inr #[_,_,if_pos hb]]
   .erw[.inl (if_neg hb)]
  .by_cases hb:b=a
   .let i:=(if_pos hb).symm.trans z;cases i;subst hb;erw[ha,by rwa[bw,hl],vs,_,I,ha]
   .let i:=(if_neg hb).symm.trans z;cases i
  .by_cases hb:b=a
   .erw[hb]
   .erw[absurd (if_neg hb) z]
def walk_of{l:W.OpenLaw}{n k:Nat}{q:qi}{loose:Τ}{XP:(Ε)->qg->Prop}{YP:qe->qg->Prop}{d:DefRec}{K:Params->z3}{CX:qe->CXT}{sp:qe->Sp}{x:Str}
  (hn:l.most=some n) (hn2:n<=sizeLine) (hdf:d.params.defaults=[]) (hr:jx k callerA)
  (hY:∀(w:qe)(h:qg),YP w h->(K w.params).In h)
  (F:∀(w:qe)(mg:Ε)(fa:z4)(h:qg),(K w.params).In h->h.Ns mainGlobals mg->mg d.name∣fa ->
   ∃fd:FuncData,(∀(s:qa)(u:qc),BindsTo s fd #[[u],[]] [(x,u)])/\
    ∀base:qg,(K w.params).In base->base.Ns mainGlobals mg->vq l.prog w (K w.params) mg base (CX w) k fa fd [x] (sp w))
  (hsp:∀(w:qe)(H:Hp)(a:z4)(ns:Ρ),ns.length<=n->vja H->SqL (K w.params) H a (ns.map V.int)->sp w [.ref a] H (λv Z=>v=.bl true) λZ Z Z=>False)
  (hCX:∀(w:qe)(H:Hp)(s:qa)(e:qc)(s':qa),CX w [] H s (λZ Z Z=>False) e s'->False):
  W.WalkO q loose XP YP l.row.toRowW d [] (λf vs=>PySem.call f vs):=by refine Att.attach_call hn hdf λw s₀ s₁ mg L fa o E ς A a vs ns G Y I D t m j i c z=>?_;let p:=hY w _ Y;let#[fd,B,C]:=F w mg fa _ p G.T.g m;erw[ynw p G.T.g G.T.b G.T.builtins G.T.nolimit z j i (cO c hn2) hr C B (λH y r=>hsp w H a ns c y r) λH e s'=>hCX w H s₁ e s']
noncomputable def yv(s:qd)(j:Nat):qd:=match s with
 | .ClassDef _ _ _ body _ _ _ _ _ _ _=>body.getD j (.Pass #[0,0,0,0])
 |_=>.Pass #[0,0,0,0]
noncomputable def xl(s:qd):Arguments:=match s with
 | .FunctionDef _ a _ _ _ _ _ _ _ _=>a
 |_=>{ posonlyargs:=[],args:=[],vararg:=none,kwonlyargs:=[],kw_defaults:=[],kwarg:=none,defaults:=[]}
noncomputable def wz(s:qd):qj qd:=match s with
 | .FunctionDef _ _ b _ _ _ _ _ _ _=>b
 |_=>[]
noncomputable def yd(s:qd):Scope:=match s with
 | .FunctionDef _ _ _ _ _ _ sc _ _ _=>sc
 |_=>{ kind:=.function,names:=[],isGenerator:=false,isCoroutine:=false}
abbrev CX0:CXT:=λZ Z Z Z Z Z=>False
abbrev E0:XK:=λZ Z Z=>False
def vv{X:Cx}:ā CX0 X E0:=λZ Z Z Z Z Z Z h=>h.elim
structure Fun(K:z3)(x qual:Str)(st:qd)(f:z4)(fd:FuncData):Prop where
 ex:∃(oc:qc)(od:ql z4)(kV doc pm:qc)(an:ql z4)(cdv ct:qc)(osl:Array (ql qc)),
  fd=W.fnOf x qual (xl st) (wz st) (yd st) .none kV doc pm an cdv ct/\K.lookup f=some #[oc,od,.func fd,osl]/\W.codeIn K cdv qual=true
 kp:W.keepIn K (.ref f)=true
end
section
variable{P:qi}{w:qe}{K:z3}{mg:Ε}{base:qg}
def Fun.ok{x:Str}{f:z4}{N ps:Τ}{k:Nat}{sp:Sp}(F:Fun K x qual st f fd)(S:yi N ps (yd st))(len:∀vs H Q E,sp vs H Q E->vs.length=ps.length)
  (hbody:∀(cdv:qc)(A:qf)(outer:qj Env)(s:qa)(H:Hp)(vs:Υ)(Q:VK)(E:XK),jx k (A.deeper (envOfC qual (yd st) 'n' f cdv))->sp vs H Q E ->
   ∃t,PSs (vx CX0 P w K mg base N qual (yd st) f cdv A outer s H E).nox (wz st) t/\t { nx:=λZ H'=>Q .non H',rt:=Q} (ú N vs) H):vq P w K mg base CX0 (k+1) f fd ps sp:=by let#[m,l,kV,e,j,i,cdv,n,g,J,c,b]:=F.ex;erw[yo1 c b S len λA outer s H vs Q E d a=>?_];let#[t,h,q]:=hbody cdv A outer s H vs Q E d a;erw[t,h.nox,q]
def Fun.binds{x:Str}{f:z4}{ps:Τ}(F:Fun K x qual st f fd)
  (h:∀(kV doc pm:qc)(an:ql z4)(cdv ct:qc)(us:Ο),us.length=ps.length->bindArgs (W.fnOf x qual (xl st) (wz st) (yd st) .none kV doc pm an cdv ct) #[us,[]]=pure (ps.zip us)):uu K fd ps []:=by let#[e,c,kV,doc,pm,an,cdv,ct,b,J,d,a]:=F.ex;erw[.all (h kV doc pm an cdv ct)]
def yr0{x:Str}{f:z4}{oc:qc}{od an:ql z4}{osl:Array (ql qc)}{kV doc pm cdv ct:qc}(l:K.lookup f=some #[oc,od,.func (W.fnOf x qual (xl st) (wz st) (yd st) .none kV doc pm an cdv ct),osl])
  (c:W.codeIn K cdv qual=true) (k:W.keepIn K (.ref f)=true):Fun K x qual st f (W.fnOf x qual (xl st) (wz st) (yd st) .none kV doc pm an cdv ct):=#[#[oc,od,kV,doc,pm,an,cdv,ct,osl,J,l,c],k]
end
def jk{A:qf}{k:Nat}(hr:jx k A):A.units+1<cLine:=dR (Nat.add_le_add_left (by decide:1<=64) _) hr.units
section
variable{X:Cx}
def pv(i:Nat){x:Str}{pos:Pos}(hN:↑(X.N[i]?=some x))(hv:autoParam (Vis X.env.scope x) aH._auto_1)(hd:⇑'d')
  (hcd:⇑((x == ("__classdict__":Str))=false)):PE X (.Name x pos) (yxb i):=ylf hN hv hd hcd
end
mutual
def uo{A B:Prop}(h:B):if false=true then A else B:=by rwa[if_neg cE,h]
def j4{A B:Prop}(h:A):if true=true then A else B:=by rwa[if_pos J,h]
def yz(H H':Hp):Prop:=∀b o,H b=some o->H' b=some o
def yz.refl(H:Hp):yz H H:=λZ Z h=>h
def yz.trans{H H1 H2:Hp}(a:yz H H1)(b:yz H1 H2):yz H H2:=λc o h=>b c o (a c o h)
def yz.free{H H':Hp}(e:yz H H'){l:z4}(h:H' l=Option.none):H l=Option.none:=by
 cases q:H l with
 |none=>rfl
 |some o =>
  rw[e l o q]at h;cases h
def yz.seq{K:z3}{H H':Hp}{xs:Υ}(e:yz H H')(h:SqL K H a xs):SqL K H' a xs:=by
 rcases h with(h|⟨o,h⟩)|h
 .erw[.inl (.inl (e _ _ h))]
 .erw[.inl (.inr #[o,e _ _ h])]
 .erw[.inr h]
end
section
mutual
variable{X:Cx}
def wq:ji X (.builtin "isinstance") (λxs H Q=>∃x cv t c k,xs=[x,cv]/\xr cv c/\(∀u,xr cv u->u=c)/\u6 X.K H x t/\W.kitOne X.K t c=some k/\Q (.bl k) H):=by intro a s σ H xs l Q I r h;let#[x,cv,t,c,k,J,_,i,f,e,q]:=h;let#[u,j,J,d,g]:=yo4 r;obtain rfl:=i j g;erw[yie I d f e λb=>#[.bl k,H,I.tok b,J,q]]
def j3{x:Str}{pos:Pos}(hg:Gl X x)(hm:X.mg x=none)(hv:bootBuiltins x=some (.type T))(hn:⇑(x≠"__name__"))(hd:⇑'d'):PE X (.Name x pos) (tC (.ty T)):=yuv hg hm hv J hn hd
def vy{x:Str}{i:Int}{t:Tok}{pos:Pos}(hg:Gl X x)(hm:X.mg x=some (.int i t))(hd:⇑'d'):PE X (.Name x pos) (tC (.int i)):=yd9 hg hm #[t,J] hd
def δ{x:Str}{pos:Pos}(hg:Gl X x)(hm:X.mg x∣C)(hd:⇑'d'):PE X (.Name x pos) (tC (.ref C)):=yd9 hg hm J hd
end
mutual
inductive RdV(K:z3)(H:Hp):V->PyData->Prop
 |non:RdV K H .non .none
 |bl (b:_):RdV K H (.bl b) (.bool b)
 |int (i:_):RdV K H (.int i) (.int i)
 |str (x:_):RdV K H (.str x) (.str x)
 |lst {a xs ds:_}:SqL K H a xs->ysv K H xs ds->RdV K H (.ref a) (.list ds)
 |tup {a xs ds:_}:SqT K H a xs->ysv K H xs ds->RdV K H (.ref a) (.tuple ds)
inductive ysv(K:z3)(H:Hp):qj V->qj PyData->Prop
 |nil:ysv K H [] []
 |cons {x xs d ds:_}:RdV K H x d->ysv K H xs ds->ysv K H (x::xs) (d::ds)
end
mutual
def RdV.reads{pins:Θ}{σ:St}{H:Hp}{s:qa}(I:'i' s){x:V}{d:PyData}{u:qc}(h:RdV X.K H x d):xr x u->∃as,Reads s.heap u d as:=by
 erw[RdV.rec (motive_1:=λx d Z=>∀u,xr x u->∃as,Reads s.heap u d as) (motive_2:=λf g Z=>∀e,w8 f e->∃as,ReadsAll s.heap e g as) ?_ ?_ ?_ ?_ ?_ ?_ ?_ ?_ h u]
 .intro u r;cases r;erw[_,.none]
 .intro b u r;cases r;erw[_,.bool _]
 .intro i u r;let#[t,J]:=r;erw[_,.int _ _]
 .intro i u r;let#[t,J]:=r;erw[_,.str _ _]
 .intro a f g j w k u r;cases r;let#[m,v,#[o,n,q,l,C,p],B]:=I.list j;let#[as,c]:=k _ v;erw[_,.list q l p (by simpa using c)]
 .intro a f g j w k u r;cases r;let#[m,v,#[o,q,l,n,p],B]:=I.tuple j;let#[as,c]:=k _ v;erw[_,.tuple q l p (by simpa using c)]
 .intro e r;cases r;erw[_,.nil]
 .intro x f d g h w y A e r
  cases r with
  |cons r rs =>
   let#[as,c]:=y _ r;let#[D,z]:=A _ rs;erw[_,.cons c z]
def yw7(K:z3)(g:Bool->Bool):R2:=λx y H Q=>∃d e,RdV K H x d/\RdV K H y e/\SeqAt.shaped d=true/\SeqAt.shaped e=true/\Q (.bl (g (PyData.eqv d e))) H
def ycp(hu:X.A.units+64<cLine):OpR X (compareOp .Eq) (yw7 X.K λb=>b):=by intro a s σ H x y v u Q I l m h;let#[d,e,j,f,k,c,q]:=h;let#[n,i]:=j.reads I l;let#[o,g]:=f.reads I m;erw[eq_dataH i g k c hu #[.bl _,H,I,J,q]]
def yly(hu:X.A.units+64<cLine):OpR X (compareOp .NotEq) (yw7 X.K λb=>!b):=by intro a s σ H x y v u Q I l m h;let#[d,e,j,f,k,c,q]:=h;let#[n,i]:=j.reads I l;let#[o,g]:=f.reads I m;erw[ne_dataH i g k c hu #[.bl _,H,I,J,q]]
theorem ģ{K:z3}{H:Hp}:∀ns:Ρ,ysv K H (ns.map V.int) (ns.map PyData.int)
 |[]=>.nil
 |n::r=>.cons (.int n) (ģ r)
theorem ě:∀ns:Ρ,PyData.canLayAll0 (ns.map PyData.int)=true
 |[]=>rfl
 |_::r=>by simp[PyData.canLayAll0,PyData.canLay0,ě r]
theorem Ŕ:∀ns:Ρ,PyData.depthAll (ns.map PyData.int)=0
 |[]=>rfl
 |_::r=>by simp[PyData.depthAll,PyData.depth,Ŕ r]
def ř(ns:Ρ):SeqAt.shaped (.list (ns.map PyData.int))=true:=by simp[SeqAt.shaped,PyData.canLay0,PyData.depth,ě,Ŕ]
theorem Ę:∀ns ms:Ρ,PyData.eqvAll (ns.map PyData.int) (ms.map PyData.int)=decide (ns=ms)
 |[],[]=>by simp[PyData.eqvAll]
 |[],_::_=>by simp[PyData.eqvAll]
 |_::_,[]=>by simp[PyData.eqvAll]
 |a::r,b::t=>by
  simp only[cX,PyData.eqvAll,PyData.eqv,Ę r t];by_cases h:a=b<;>by_cases h':r=t<;>simp[h,h']
def vhz{K:z3}{g:Bool->Bool}{H:Hp}{Q:VK}{b:z4}(ns ms:Ρ)(ha:SqL K H a (ns.map V.int))(hb:SqL K H b (ms.map V.int))(h:Q (.bl (g (decide (ns=ms)))) H):yw7 K g (.ref a) (.ref b) H Q :=
 #[_,_,.lst ha (ģ ns),.lst hb (ģ ms),ř ns,ř ms,by rwa[PyData.eqv,Ę,h]]
def vg7(_ j:Int):Prop:=0<j/\j<2^200
def vk:OpR X (binaryOp .FloorDiv) (rI vg7 λi j=>.int (i/j)):=opI λi j Z Z Z Z Z a q=>by
 let#[c,d]:=a;erw[floordiv_int () ?_ (.inl (PyProof.noPylong_of_log2 ?_))]
 .rw[Int.fdiv_eq_ediv_of_nonneg _ ()];erw[q]
 .have e:j.natAbs<2^200:=()
  have b:j.natAbs≠0:=()
  have:=(Nat.log2_lt b).mpr e;omega
def vjy(t:TS):TS:=λD σ H=>∃M:Ζ,t {D with nx:=M} σ H/\∀σ' H',M σ' H'->D.nx σ' H'
def Ã{t:TS}(h:PS X st t):PS X st (vjy t):=by
 erw[.mk λa s σ H D I ⟨M,d,c⟩=>?_,<-thn (h a s σ H {D with nx:=M} I d) λf g q=>?_]
 cases f with
 |next =>
  let#[σ',b,e,q]:=q;erw[σ',b,e,c σ' b q]
 |ret v=>erw[q]
 |brk=>erw[q]
 |cont=>erw[q]
end
end
def wn(nx:Ζ)(σ:St)(H:Hp):Prop:=nx σ H
section
mutual
variable{K:z3}{σ:St}{H:Hp}{Q:VK}{QB:Bool->Hp->Prop}{QL:qj V->Hp->Prop}{v x y:V}{i j:Int}{b:Bool}{ta tb tc te:TE}{t u:TS}{tA tB':TT}{tr:TA}{D:ç}
 {nx bk ct:Ζ} {rt:VK} {A B:Prop}
def yj{N:Τ}{vs:Υ}{σ':St}(e:ú N vs=σ')(h:t D σ' H):t D (ú N vs) H:=by rwa[e,h]
def vgn{k:Nat}(e:σ[k]?=some (some v))(h:Q v H):yxb k σ H Q:=#[v,e,h]
def i_c(h:Q v H):tC v σ H Q:=h
def vkw{r:R2}(h:ta σ H λx H1=>tb σ H1 λy H2=>r x y H2 Q):tOp r ta tb σ H Q:=h
def vkf{r:V->Hp->VK->Prop}(h:ta σ H λx H1=>r x H1 Q):tUn r ta σ H Q:=h
def vkh{g:Int->Int->V}(h:Q (g i j) H):rI0 g (.int i) (.int j) H Q:=#[i,j,J,J,h]
def i_I{C:Int->Int->Prop}{g:Int->Int->V}(hc:C i j)(h:Q (g i j) H):rI C g (.int i) (.int j) H Q:=#[i,j,J,J,hc,h]
def i_U{g:Int->V}(h:Q (g i) H):rU g (.int i) H Q:=#[i,J,h]
def vhw(h:Q (.bl (decide (i=j))) H):rEq (.int i) (.int j) H Q:=#[J,by
 have e:decide (V.int i=V.int j)=decide (i=j):='s'
 rwa[e,h]]
def yxh(h:ta σ H λx H'=>∃k,x=.bl k/\QB k H'):ywt ta σ H QB:=h
def vks(h:ta σ H λx H'=>∃k,x=.bl k/\QB k H'):tB ta σ H QB:=h
def vkt{P:Bool->Prop}(h:P b):∃k,V.bl b=V.bl k/\P k:=#[b,J,h]
def yv5{r r':R2}(h:ta σ H λx H1=>tb σ H1 λy H2=>r x y H2 λz H3=>∃k,z=.bl k/\(if k=true then tc σ H3 λw' H4=>r' y w' H4 Q else Q (.bl false) H3)):yk2 r r' ta tb tc σ H Q:=h
def vbn(h:ta σ H λx H1=>∃c,x=.bl c/\if c=true then tb σ H1 Q else Q (.bl false) H1):vdv ta tb σ H Q:=h
def yxx(h:ta σ H λx H1=>∃c,x=.bl c/\Q (.bl (!c)) H1):ves ta σ H Q:=h
def vg5{t1 t2:TT}(h:t1 σ H λc H1=>if c=true then t2 σ H1 QB else QB false H1):vje t1 t2 σ H QB:=h
def vkg{t1 t2:TT}(h:t1 σ H λc H1=>if c=true then QB true H1 else t2 σ H1 QB):tOr t1 t2 σ H QB:=h
def vhr{t1:TT}(h:t1 σ H λc H1=>QB (!c) H1):vj7 t1 σ H QB:=h
def vhl(h:tA σ H λc H1=>if c=true then ta σ H1 Q else tb σ H1 Q):tIf tA ta tb σ H Q:=h
structure Nx(u nx:Ζ):Prop where
 go:∀σ H,u σ H->nx σ H
def yfq(h:∀nx bk ct:Ζ,Nx (u D) nx->Nx D.bk bk->Nx D.ct ct->t #[nx,D.rt,bk,ct] σ H):vi1 t u D σ H:=h (u D) D.bk D.ct ⟨λZ Z z=>z⟩ ⟨λZ Z z=>z⟩ ⟨λZ Z z=>z⟩
def yl7{u nx:Ζ}(h:Nx u nx)(q:u σ H):nx σ H:=h.go _ _ q
def yzm(h:nx σ H):vee #[nx,rt,bk,ct] σ H:=h
def vh2(h:te σ H rt):vjv te #[nx,rt,bk,ct] σ H:=h
def vck(h:te σ H λZ H1=>nx σ H1):ve0 te #[nx,rt,bk,ct] σ H:=h
def vky(h:tA σ H λc H1=>if c=true then t D σ H1 else u D σ H1):vgv tA t u D σ H:=h
def ypa(M:Ζ)(h1:t #[M,rt,bk,ct] σ H)(h2:∀σ' H',M σ' H'->nx σ' H'):vjy t #[nx,rt,bk,ct] σ H:=#[M,h1,h2]
def vio{g:TG}(h:te σ H λx H1=>g x σ H1 nx):yw6 te g #[nx,rt,bk,ct] σ H:=h
def vb1{sp:Sp}{dvs:Υ}{E:XK}(h:tr σ H λvs H1=>sp (vs++dvs) H1 Q E):yws sp dvs E tr σ H Q:=h
def va3(h:ta σ H λx H1=>tr σ H1 λxs H2=>QL (x::xs) H2):yl2 ta tr σ H QL:=h
def vim(h:QL [] H):ypb σ H QL:=h
def vk5{r:qj V->Hp->VK->Prop}(h:tr σ H λvs H1=>r vs H1 Q):tCB r tr σ H Q:=h
def vij(h:tr σ H λxs H1=>xs.length<=sizeLine/\∀p,H1 p=none->Q (.ref p) (upd H1 p (.tup xs))):vjw tr σ H Q:=h
def vg6(h:tr σ H λxs H1=>xs.length<=sizeLine/\∀p,H1 p=none->Q (.ref p) (upd H1 p (.lst xs))):vjj tr σ H Q:=h
def yf7{m:Str}{sp:Sp}{dvs:Υ}{E:XK}(h:ta σ H λx H1=>∃a dx fs,x=.ref a/\H1 a∩C dx fs/\fs.lookup m=none/\tr σ H1 λvs H2=>sp (x::(vs++dvs)) H2 Q E):yeh C m sp dvs E ta tr σ H Q:=h
def vhm{f:Str}(h:ta σ H λx H1=>∃a C dx fs v,x=.ref a/\H1 a∩C dx fs/\Cls K C/\NoAttr K C f/\fs.lookup f=some v/\Q v H1):vgw K ta f σ H Q:=h
def yzt{f:Str}(h:tb σ H λy H1=>ta σ H1 λx H2=>∃a C dx fs,x=.ref a/\H2 a∩C dx fs/\Cls K C/\NoAttr K C f/\fs.length<1000/\wn nx σ (upd H2 a (.ins C dx (ω f y fs)))):vjl K ta tb f #[nx,rt,bk,ct] σ H:=h
def vk7{r:V->ql Int->ql Int->Hp->VK->Prop}{tl th:TO}(h:te σ H λx H1=>tl σ H1 λl H2=>th σ H2 λu H3=>r x l u H3 Q):tSl r te tl th σ H Q:=h
def ynm{QO:ql Int->Hp->Prop}(h:QO none H):ykm σ H QO:=h
def vcx{QO:ql Int->Hp->Prop}(h:ta σ H λx H1=>∃i,x=.int i/\QO (some i) H1):vd2 ta σ H QO:=h
def viv{P:Int->Prop}(h:P i):∃k,V.int i=V.int k/\P k:=#[i,J,h]
def vba(h:A):V.non=V.non/\A:=#[J,h]
def g0{a0:Ψ}{r:St}{N:Ζ}(h:N (some v::r) H):xi 0 v (a0::r) H N:=h
def g1{a0 a1:Ψ}{r:St}{N:Ζ}(h:N (a0::some v::r) H):xi 1 v (a0::a1::r) H N:=h
def g2{a0 a1 a2:Ψ}{r:St}{N:Ζ}(h:N (a0::a1::some v::r) H):xi 2 v (a0::a1::a2::r) H N:=h
def g3{a0 a1 a2 a3:Ψ}{r:St}{N:Ζ}(h:N (a0::a1::a2::some v::r) H):xi 3 v (a0::a1::a2::a3::r) H N:=h
def g4{a0 a1 a2 a3 a4:Ψ}{r:St}{N:Ζ}(h:N (a0::a1::a2::a3::some v::r) H):xi 4 v (a0::a1::a2::a3::a4::r) H N:=h
def g5{a0 a1 a2 a3 a4 a5:Ψ}{r:St}{N:Ζ}(h:N (a0::a1::a2::a3::a4::some v::r) H):xi 5 v (a0::a1::a2::a3::a4::a5::r) H N:=h
def g6{a0 a1 a2 a3 a4 a5 a6:Ψ}{r:St}{N:Ζ}(h:N (a0::a1::a2::a3::a4::a5::some v::r) H):xi 6 v (a0::a1::a2::a3::a4::a5::a6::r) H N:=h
def g7{a0 a1 a2 a3 a4 a5 a6 a7:Ψ}{r:St}{N:Ζ}(h:N (a0::a1::a2::a3::a4::a5::a6::some v::r) H):xi 7 v (a0::a1::a2::a3::a4::a5::a6::a7::r) H N:=h
def g8{a0 a1 a2 a3 a4 a5 a6 a7 a8:Ψ}{r:St}{N:Ζ}(h:N (a0::a1::a2::a3::a4::a5::a6::a7::some v::r) H):xi 8 v (a0::a1::a2::a3::a4::a5::a6::a7::a8::r) H N:=h
def g9{a0 a1 a2 a3 a4 a5 a6 a7 a8 a9:Ψ}{r:St}{N:Ζ}(h:N (a0::a1::a2::a3::a4::a5::a6::a7::a8::some v::r) H):xi 9 v (a0::a1::a2::a3::a4::a5::a6::a7::a8::a9::r) H N:=h
def g10{a0 a1 a2 a3 a4 a5 a6 a7 a8 a9 a10:Ψ}{r:St}{N:Ζ}(h:N (a0::a1::a2::a3::a4::a5::a6::a7::a8::a9::some v::r) H):xi 10 v (a0::a1::a2::a3::a4::a5::a6::a7::a8::a9::a10::r) H N:=h
def g11{a0 a1 a2 a3 a4 a5 a6 a7 a8 a9 a10 a11:Ψ}{r:St}{N:Ζ}(h:N (a0::a1::a2::a3::a4::a5::a6::a7::a8::a9::a10::some v::r) H):xi 11 v (a0::a1::a2::a3::a4::a5::a6::a7::a8::a9::a10::a11::r) H N:=h
def ţ{n:Nat}{tg:TGs}{xs:Υ}{N:Ζ}(hq:SqT K H a xs)(hl:xs.length=n)(h:tg xs σ H N):yw2 K n tg (.ref a) σ H N:=#[a,xs,J,hq,hl,h]
def yvk{tg:TG}{us:TGs}{r:Υ}{N:Ζ}(h:tg v σ H λσ' H'=>us r σ' H' N):zw tg us (v::r) σ H N:=#[v,r,J,h]
def yya{N:Ζ}(h:N σ H):yl4 [] σ H N:=#[J,h]
def z9{p:Prop}[Decidable p](h1:p->A)(h2:¬p->B):if decide p=true then A else B:=by
 by_cases h:p
 .rw[if_pos (cg h)];erw[h1 h]
 .rw[if_neg (by simp[h])];erw[h2 h]
def ō{p:Prop}[Decidable p](hp:p)(h:A):if decide p=true then A else B:=by rwa[if_pos (cg hp),h]
def ycv{p:Prop}[Decidable p](hp:¬p)(h:B):if decide p=true then A else B:=by rwa[if_neg (by simp[hp]),h]
def vgh{p:Prop}[Decidable p](hp:p)(h:B):if (!decide p)=true then A else B:=by rwa[if_neg (by simp[hp]),h]
def vir{p:Prop}[Decidable p](hp:¬p)(h:A):if (!decide p)=true then A else B:=by rwa[if_pos (by simp[hp]),h]
def ypf{p:Prop}[Decidable p](h1:p->B)(h2:¬p->A):if (!decide p)=true then A else B:=by
 by_cases h:p
 .erw[vgh h (h1 h)]
 .erw[vir h (h2 h)]
def vhb(h:B):if (!true)=true then A else B:=uo h
def vh6(h:A):if (!false)=true then A else B:=j4 h
def vh1{α:Type}{z:α}[Decidable (z=z)](h:A):if decide (z=z)=true then A else B:=ō J h
def x0{f:Str}{r:Ι}:List.lookup f ((f,v)::r)=some v:=by simp[List.lookup]
def wo{f g:Str}{r:Ι}{o:Ψ}(h:¬f=g)(e:List.lookup f r=o):List.lookup f ((g,v)::r)=o:=by
 have a:(f == g)=false:=by simp[h]
 simp[List.lookup,a,e]
def Ĵ{f:Str}:List.lookup f ([]:Ι)=none:=rfl
def μ{f:Str}{r:Ι}:ω f v ((f,x)::r)=(f,v)::r:=by simp[ω]
def wa{f g:Str}{r r':Ι}(h:¬g=f)(e:ω f v r=r'):ω f v ((g,x)::r)=(g,x)::r':=by simp[ω,h,e]
def wv{f:Str}:ω f v []=[(f,v)]:=rfl
def zn{c:z4}{o o':HO}(hn:H a=none)(h:H c=some o):upd H a o' c=some o:=by rwa[yk (yb h hn),h]
def ye{c:z4}{o o':HO}(hn:c≠a)(h:H c=some o):upd H a o' c=some o:=by rwa[yk hn,h]
def y7{o:HO}(hn:H a=none):yz H (upd H a o):=λZ Z h=>zn hn h
def yz.tup{H':Hp}{xs:Υ}(e:yz H H')(h:SqT K H a xs):SqT K H' a xs:=by
 rcases h with(h|⟨o,h⟩)|h
 .erw[.inl (.inl (e _ _ h))]
 .erw[.inl (.inr #[o,e _ _ h])]
 .erw[.inr h]
def ycn{tb:TS}{W:Nat->St->Hp->Prop}{m:Nat}(h:tb #[λσ' H'=>∃m',m'<m/\W m' σ' H',rt,nx,λσ' H'=>∃m',m'<m/\W m' σ' H'] σ H):
  ∃N:Ζ,(∀σ' H',N σ' H'->∃m',m'<m/\W m' σ' H')/\tb #[N,rt,nx,N] σ H:=#[_,λZ Z q=>q,h]
def yz7{sp:Sp}{dvs:Υ}{E:XK}(h:tr σ H λvs H1=>∀x dx,H1 x=none->H1 dx=none->dx≠x->sp (.ref x::(vs++dvs)) (upd (upd H1 dx (.own x)) x (.ins C dx [])) (λv H2=>v=.non/\Q (.ref x) H2) E):ywv C sp dvs E tr σ H Q:=h
def vkd{r:V->qj V->Hp->VK->Prop}(h:ta σ H λx H1=>tyV K T x H1/\tr σ H1 λxs H2=>r x xs H2 Q):tBM K T r ta tr σ H Q:=h
def vhy{r:V->qj V->Hp->VK->Prop}(h:ta σ H λx H1=>tyV K T x H1/\r x [] H1 Q):vj4 K T r ta σ H Q:=h
def jj{p:z4}{xs:Υ}(h:H p\xs)(k:A):tyV K "list" (.ref p) H/\A:=#[.inl #[J,_,SqL.of h],k]
def xx{l:z4}{xs:Υ}(h:H l\xs)(hz:xs.length<sizeLine)(k:Q .non (upd H l (.lst (xs++[y])))):yj9 (.ref l) [y] H Q:=#[l,xs,y,J,J,h,hz,k]
def yby{l:z4}{xs:Υ}(h:H l\xs)(k:Q .non (upd H l (.lst xs.reverse))):yfl (.ref l) [] H Q:=#[l,xs,J,J,h,k]
def zd{p:z4}{ys:Υ}{P:qj V->Prop}(h:SqL K H p ys)(k:P ys):∃p' ys',[V.ref p]=[V.ref p']/\(SqL K H p' ys'\/SqT K H p' ys')/\P ys':=#[p,ys,J,.inl h,k]
def yrg{p:z4}{ys:Υ}{P:qj V->Prop}(h:SqT K H p ys)(k:P ys):∃p' ys',[V.ref p]=[V.ref p']/\(SqL K H p' ys'\/SqT K H p' ys')/\P ys':=#[p,ys,J,.inr h,k]
def ymv{p:z4}{ys:Υ}{P:qj V->Prop}(h:SqL K H p ys)(k:P ys):∃p' ys',[V.ref p]=[V.ref p']/\(SqL K H p' ys'\/SqT K H p' ys')/\P ys':=#[p,ys,J,.inl h,k]
def ua{p:z4}{xs:Υ}(h:SqL K H p xs)(e:atI xs i=some v)(k:Q v H):vg1 K (.ref p) (.int i) H Q:=#[p,xs,i,v,J,J,h,e,k]
def Ĺ{p:z4}{xs:Υ}(h:SqT K H p xs)(e:atI xs i=some v)(k:Q v H):viz K (.ref p) (.int i) H Q:=#[p,xs,i,v,J,J,h,e,k]
def ya6{p:z4}{xs:Υ}{lo hi:ql Int}(h:SqL K H p xs)(k:∀q,H q=none->Q (.ref q) (upd H q (.lst (yc0 xs lo hi)))):vjq K (.ref p) lo hi H Q:=#[p,xs,J,h,k]
def jp{xs:Υ}(n:Nat):yc0 xs none (some (n:Int))=xs.take n:=by
 unfold yc0;rw[HT.sIx_none,HT.sIx_nat,List.drop_zero,Nat.sub_zero];rcases Nat.le_total n xs.length with h|h
 .rw[Nat.min_eq_left h]
 .rw[Nat.min_eq_right h,db (cc _),db h]
def vif{wi:TI}{g:TG}{tb:TS}(h:wi σ H λς H1=>∃W:Nat->Nat->St->Hp->Prop,(∃m,W 0 m σ H1)/\∀i m σ H,W i m σ H ->
  (ς.stop i H/\D.nx σ H)\/(ς.go i H/\∃N:Ζ,(∀σ' H',N σ' H'->∃m',m'<m/\W (i+1) m' σ' H')/\∀x H',ς.yld i H x H'->g x σ H' λσ2 H2=>tb {D with nx:=N,ct:=N,bk:=D.nx} σ2 H2)):vj6 wi g tb D σ H:=h
def yte{R:It->Hp->Prop}(h:ta σ H λx H1=>∃a,x=.ref a/\(∃xs,SqL K H1 a xs)/\R (Itl K a) H1):ver K ta σ H R:=h
def yzr{R:It->Hp->Prop}(h:ta σ H λx H1=>∃a,x=.ref a/\(∃xs,SqT K H1 a xs)/\R (Itt K a) H1):vkc K ta σ H R:=h
def yu3{R:It->Hp->Prop}(h:tr σ H λvs H1=>∃j:Int,vs=[.int j]/\-(2^62)<=j/\j<2^62/\R (Itr 0 j.toNat) H1):vdc tr σ H R:=h
def ĸ{n m:String}{k:Bool}{P:Bool->Prop}(ty:u6 K H x (.type n))(e:W.kitOne K (.type n) (.type m)=some k)(h:P k):
  ∃x' cv t c k',[x,V.ty m]=[x',cv]/\xr cv c/\(∀u,xr cv u->u=c)/\u6 K H x' t/\W.kitOne K t c=some k'/\P k':=#[x,.ty m,.type n,.type m,k,J,J,λZ r=>r,ty,e,h]
def yu9(h:nx σ H):wn nx σ H:=h
end
end
mutual
noncomputable def ypz:V->Bool
 | .int _=>true
 | .bl _=>true
 |_=>false
noncomputable def yj0:V->Bool
 | .bl _=>true
 |_=>false
noncomputable def â:V->Bool
 | .int _=>true
 |_=>false
def yey(K:z3)(n:String):W.kitOne K (.type n) (.type n)=some true:=by unfold W.kitOne;rw[if_pos 's']
def ywg{K:z3}{H:Hp}{x:V}{n:String}(ty:u6 K H x (.type n)):W.kitOne K (.type n) (.type "int")=some (ypz x):=by cases ty<;>rfl
def yov{K:z3}{H:Hp}{x:V}{n:String}(ty:u6 K H x (.type n)):W.kitOne K (.type n) (.type "bool")=some (yj0 x):=by cases ty<;>rfl
end
end L2
namespace SpanMath
mutual
def Ch(c:Int):Prop:=32768<=c/\c<=16744448
noncomputable def ren(l w s:Int):Int×Int×Int :=
 if w<4294967296 then (if w*256<4294967296 then (l*65536,w*65536,s+2)else (l*256,w*256,s+1))else (l,w,s)
noncomputable def cut(w c:Int):Int:=w*c/16777216
def nar(x:Int×Int×Int)(c b:Int):Int×Int×Int :=
 if b=1 then ren x.1 (cut x.2.1 c) x.2.2 else ren (x.1+cut x.2.1 c) (x.2.1-cut x.2.1 c) x.2.2
noncomputable def s0:Int×Int×Int:=(0,1099511627776,5)
def ymm{l w s:Int}(h:w<4294967296)(h2:8388608<=w):ren (l*256) (w*256) (s+1)=ren l w s:=by
 unfold ren;rw[if_pos h];by_cases h3:w*256<4294967296
 .rw[if_pos h3,if_pos h3,if_neg ()];refine Prod.ext ?_ (Prod.ext ?_ ?_)
  .show l*256*256=l*65536;omega
  .show w*256*256=w*65536;omega
  .show s+1+1=s+2;omega
 .rw[if_neg h3,if_neg h3]
def yuw{l w s:Int}(h:¬w<4294967296):ren l w s=(l,w,s):=by unfold ren;rw[if_neg h]
def ŧ{w c:Int}(hw:4294967296<=w)(hw2:w<=1099511627776)(hc:Ch c):8388608<=cut w c/\8388608<=w-cut w c/\cut w c<1099511627776:=by let#[a,d]:=hc;have b:w*32768<=w*c:=cS a ();have e:w*c<=w*16744448:=cS d ();unfold cut;generalize w*c=p at b e⊢;omega
structure Ok(x:Int×Int×Int):Prop where
 l0:0<=x.1
 w0:4294967296<=x.2.1
 w1:x.2.1<=1099511627776
 z:5<=x.2.2
def ok0:Ok s0:=#[∅,∅,∅,∅]
def ysg{l w s:Int}(h0:0<=l)(h1:8388608<=w)(h2:w<=1099511627776)(h3:5<=s):Ok (ren l w s):=by
 unfold ren
 split
 .split
  .exists by show 0<=l*65536;omega,by show _<=w*65536;omega,by show w*65536<=_;omega,by show 5<=s+2;omega
  .exists by show 0<=l*256;omega,by show _<=w*256;omega,by show w*256<=_;omega,by show 5<=s+1;omega
 .erw[h0,by show _<=w;omega,h2,h3]
def yyj{x:Int×Int×Int}{c b:Int}(h:Ok x)(hc:Ch c):Ok (nar x c b):=by
 let#[d,a,e]:=ŧ h.w0 h.w1 hc;have:=h.l0;have:=h.w0;have:=h.w1;have:=h.z;unfold nar
 split
 .erw[ysg () () () ()]
 .erw[ysg () () () ()]
noncomputable def pw:Nat->Int
 |0=>1
 |k+1=>pw k*256
theorem ul:∀k,0<pw k
 |0=>by decide
 |k+1=>by have:=ul k;show 0<pw k*256;omega
theorem Š(a:Nat):∀b,pw (a+b)=pw a*pw b
 |0=>by simp[pw]
 |b+1=>by
  show pw (a+b)*256=pw a*(pw b*256);rw[Š a b,Int.mul_assoc]
def ykd{a b:Nat}(h:a<=b):pw a<=pw b:=by
 let#[c,J]:=Nat.exists_eq_add_of_le h;rw[Š];let d:=ul a;let e:=ul c
 calc pw a=pw a*1:=()
  _<=pw a*pw c:=cS () ()
def vd1{a b:Nat}(h:pw a<pw b):a<b:=by apply Nat.lt_of_not_le;intro q;have:=ykd q;omega
noncomputable def lo:Nat->Int->qj Int
 |0,_=>[]
 |k+1,n=>n%256::lo k (n/256)
def wr(k:Nat)(n:Int):Ρ:=(lo k n).reverse
theorem yr9:∀k n,(lo k n).length=k
 |0,_=>rfl
 |k+1,n=>by simp[lo,yr9 k]
def yzh(k:Nat)(n:Int):(wr k n).length=k:=by simp[wr,yr9]
theorem ykr:∀k n,∀x∈lo k n,0<=x/\x<=255
 |0,_,x,h=>by simp[lo]at h
 |k+1,n,x,h=>by
  simp only[lo,cr]at h;rcases h with rfl|h
  .omega
  .erw[ykr k _ x h]
def ywn(k:Nat)(n:Int):∀x∈wr k n,0<=x/\x<=255:=λx h=>ykr k n x (by simpa[wr]using h)
def yvz(k:Nat)(n:Int):wr (k+1) n=wr k (n/256)++[n%256]:=by simp[wr,lo]
noncomputable def val(xs:Ρ):Int:=xs.foldl (λa b=>a*256+b) 0
def yeq(xs:Ρ)(b:Int):val (xs++[b])=val xs*256+b:=by simp[val,List.foldl_append]
theorem yre:∀(k:Nat)(n:Int),0<=n->n<pw k->val (wr k n)=n
 |0,n,h0,h1=>by
  have:n<1:=h1;have:n=0:=()
  subst this;rfl
 |k+1,n,h0,h1=>by
  have a:n<pw k*256:=h1;rw[yvz,yeq,yre k (n/256) () ()];omega
noncomputable def vkx:Nat->Int->Int->Nat
 |0,_,_=>0
 |n+1,a,b=>if a=b then 0 else vkx n (a/256) (b/256)+1
abbrev Sn:=Int×Int×Int
noncomputable def sz(x:Sn):Nat:=x.2.2.toNat
structure OkS(x:Sn):Prop where
 ok:Ok x
 top:x.1+x.2.1<=pw (sz x)
theorem OkS.sz{x:Sn}(h:OkS x):((sz x:Nat):Int)=x.2.2:=by have:=h.ok.z;unfold SpanMath.sz;omega
def OkS.sz5{x:Sn}(h:OkS x):5<=SpanMath.sz x:=by have:=h.ok.z;unfold SpanMath.sz;omega
def vi2:OkS s0:=#[ok0,∅]
structure Sub(x y:Sn)(r:Nat):Prop where
 z:sz y=sz x+r
 l:x.1*pw r<=y.1
 h:y.1+y.2.1<=(x.1+x.2.1)*pw r
def yd6{l w s:Int}(hs:0<=s):∃r,Sub (l,w,s) (ren l w s) r/\(ren l w s).2.1=w*pw r/\(ren l w s).1=l*pw r:=by
 unfold ren
 split
 .split
  .refine#[2,#[?_,?_,?_],?_,?_]
   .show (s+2).toNat=s.toNat+2;omega
   .show l*(1*256*256)<=l*65536;omega
   .show l*65536+w*65536<=(l+w)*(1*256*256);omega
   .show w*65536=w*(1*256*256);omega
   .show l*65536=l*(1*256*256);omega
  .refine#[1,#[?_,?_,?_],?_,?_]
   .show (s+1).toNat=s.toNat+1;omega
   .show l*(1*256)<=l*256;omega
   .show l*256+w*256<=(l+w)*(1*256);omega
   .show w*256=w*(1*256);omega
   .show l*256=l*(1*256);omega
 .refine#[0,#[?_,?_,?_],?_,?_]
  .rfl
  .show l*1<=l;omega
  .show l+w<=(l+w)*1;omega
  .show w=w*1;omega
  .show l=l*1;omega
def yv3{x:Sn}{c b:Int}(h:Ok x)(hc:Ch c):∃r,Sub x (nar x c b) r:=by
 let#[f,g,j]:=ŧ h.w0 h.w1 hc;let i:=h.l0;let k:=h.z;unfold nar
 split
 .let#[r,#[a,e,d],_]:=yd6 (l:=x.1) (w:=cut x.2.1 c) (s:=x.2.2) ();erw[r,a,e,Int.le_trans d (c7 ?_ (Int.le_of_lt (ul r)))];show x.1+cut x.2.1 c<=x.1+x.2.1;omega
 .let#[r,#[a,e,d],_]:=yd6 (l:=x.1+cut x.2.1 c) (w:=x.2.1-cut x.2.1 c) (s:=x.2.2) ();exists r,a,Int.le_trans (c7 ?_ (Int.le_of_lt (ul r))) e,Int.le_trans d (c7 ?_ (Int.le_of_lt (ul r)))
  .show x.1<=x.1+cut x.2.1 c;omega
  .show x.1+cut x.2.1 c+(x.2.1-cut x.2.1 c)<=x.1+x.2.1;omega
def ydt{x:Sn}{c b:Int}(h:OkS x)(hc:Ch c):OkS (nar x c b):=by exists yyj h.ok hc,?_;let#[r,q]:=yv3 (b:=b) h.ok hc;rwa[q.z,Š,Int.le_trans q.h (c7 h.top (Int.le_of_lt (ul r)))]
noncomputable def blk(l e:Int):Int:=(l+e-1)/e
def hold(l w:Int)(k:Nat):Prop:=(blk l (pw k)+1)*pw k<=l+w
instance (l w:Int)(k:Nat):Decidable (hold l w k):=inferInstanceAs (Decidable ((blk l (pw k)+1)*pw k<=l+w))
def ylr(l:Int){e:Int}(h:0<e):l<=blk l e*e/\blk l e*e<l+e:=by unfold blk;let a:=Int.emod_add_mul_ediv (l+e-1) e;let b:=dG (l+e-1) (show e≠0 by omega);let c:=dD (l+e-1) h;rw[Int.mul_comm]at a;generalize (l+e-1)/e*e=q at a⊢;omega
def yke{l w:Int}{k:Nat}(h:hold l w k):pw k<=w:=by have a:=ylr l (ul k);unfold hold at h;rw[Int.add_mul]at h;omega
def yme{l w:Int}{k:Nat}(h:¬hold l w k):w<2*pw k:=by have a:=ylr l (ul k);unfold hold at h;rw[Int.add_mul]at h;omega
noncomputable def tel(l w:Int):Nat->Nat->Nat
 |0,k=>k
 |f+1,k=>if hold l w (k+1)then tel l w f (k+1)else k
def ymf{l w:Int}{f k:Nat}(h:hold l w (k+1)):tel l w f (k+1)=tel l w (f+1) k:=by rw[tel,if_pos h]
def yue{l w:Int}{f k:Nat}(h:¬hold l w (k+1)):tel l w f k=k:=by
 cases f with
 |zero=>rfl
 |succ f=>rw[tel,if_neg h]
end
set_option tactic.hygienic true in
mutual
theorem yfa{l w:Int}:∀{f k:Nat},hold l w k->hold l w (tel l w f k)
 |0,_,h=>h
 |f+1,k,h=>by
  unfold tel
  split
  .rename_i q;erw[yfa q]
  .erw[h]
def pw5:pw 5=1099511627776:=∅
def yk6{l w:Int}{k:Nat}(hw:w<=1099511627776)(h:hold l w k):k<=5:=by have a:=yke h;rw[<- pw5]at hw;have b:pw k<pw 6:=Int.lt_of_le_of_lt (Int.le_trans a hw) ∅;have:=vd1 b;omega
theorem ykf{l w:Int}(hw:w<=1099511627776):∀{f k:Nat},f+k=5->¬hold l w (tel l w f k+1)
 |0,k,e=>by
  intro h;have:=yk6 hw h;simp only[tel]at this;omega
 |f+1,k,e=>by
  unfold tel
  split
  .erw[ykf hw ()]
  .assumption
def tK(x:Sn):Nat:=tel x.1 x.2.1 5 0
def tCn(x:Sn):Int:=blk x.1 (pw (tK x))
def tL(x:Sn):Ρ:=wr (sz x-tK x) (tCn x)
def vhp{x:Sn}(h:Ok x):hold x.1 x.2.1 0:=by have:=h.w0;show ((x.1+1-1)/1+1)*1<=x.1+x.2.1;omega
def ya4{x:Sn}(h:Ok x):hold x.1 x.2.1 (tK x):=yfa (vhp h)
def vab{x:Sn}(h:Ok x):¬hold x.1 x.2.1 (tK x+1):=ykf h.w1 J
def yo9{x:Sn}(h:OkS x):tK x<=5/\tK x<=sz x:=by have a:=yk6 h.ok.w1 (ya4 h.ok);let b:=h.sz5;omega
def yfu(x:Sn):(tL x).length=sz x-tK x:=yzh _ _
def yyp{x:Sn}(h:Ok x):0<=tCn x:=by have:=h.l0;have:=ul (tK x);erw[Int.ediv_nonneg () ()]
def yx3{x:Sn}(h:OkS x):tCn x<pw (sz x-tK x):=by have b:(tCn x+1)*pw (tK x)<=x.1+x.2.1:=ya4 h.ok;let a:=h.top;have e:sz x-tK x+tK x=sz x:=Nat.sub_add_cancel (yo9 h).2;rw[<- e,Š]at a;let c:=Int.le_of_mul_le_mul_right (Int.le_trans b a) (ul (tK x));omega
def yyo{x:Sn}(h:OkS x):val (tL x)=tCn x:=yre _ _ (yyp h.ok) (yx3 h)
noncomputable def gv(c b:Int):Int:=if b=1 then c else 16777216-c
def yxc(n:Nat)(g o:Int)(x:Sn):Prop:=0<g/\0<o/\g*pw (sz x)*(8388608-n)<=o*x.2.1*8388608
def vih:yxc 0 1 1 s0:=#[∅,∅,∅]
def vhi{g p o w m z:Int}(hz:0<=z)(h:g*p*m<=o*w*8388608):g*(p*z)*m<=o*(w*z)*8388608:=by
 let a:=c7 h hz
 have c:g*(p*z)*m=g*p*m*z:=by
  rw[<- Int.mul_assoc g p z,Int.mul_assoc (g*p) z m,Int.mul_comm z m,<- Int.mul_assoc]
 have b:o*(w*z)*8388608=o*w*8388608*z:=by
  rw[<- Int.mul_assoc o w z,Int.mul_assoc (o*w) z,Int.mul_comm z,<- Int.mul_assoc]
 rwa[c,b,a]
def yi9{n:Nat}{g o:Int}{x:Sn}{c b:Int}(hn:n<1000000)(h:OkS x)(hc:Ch c)(p:yxc n g o x):yxc (n+1) (g*gv c b) (o*16777216) (nar x c b):=by
 let#[G,X,H]:=p;let#[Z,Y,R]:=ŧ h.ok.w0 h.ok.w1 hc;let U:=h.ok.w0;let#[S,W]:=hc;let T:=h.ok.z;have C:cut x.2.1 c*16777216<=x.2.1*c:=by unfold cut;omega
 have u:x.2.1*c<cut x.2.1 c*16777216+16777216:=by unfold cut;omega
 let hS:=ul (sz x)
 have B:0<g*gv c b/\∃d,(nar x c b=if b=1 then ren x.1 d x.2.2 else ren (x.1+cut x.2.1 c) d x.2.2)/\g*gv c b*pw (sz x)*(8388608-(n+1:Nat))<=o*16777216*d*8388608:=by
  have k:0<=g*pw (sz x):=Int.mul_nonneg () ();have j:0<=o:=()
  unfold gv nar;by_cases hb:b=1
  .rw[if_pos hb,if_pos hb];exists Int.mul_pos G (),cut x.2.1 c,by rw[if_pos hb],?_
   have e:g*pw (sz x)*(8388608-n)*c<=o*x.2.1*8388608*c:=c7 H ();have y:x.2.1*c*8388608<=cut x.2.1 c*16777216*8388609:=()
   have f:o*(x.2.1*c*8388608)<=o*(cut x.2.1 c*16777216*8388609):=cS y j
   have a:g*pw (sz x)*c*((8388608-(n+1:Nat))*8388609)<=g*pw (sz x)*c*((8388608-n)*8388608) :=
    cS () (Int.mul_nonneg k ())
   have m:g*c*pw (sz x)=g*pw (sz x)*c:=by rw[Int.mul_assoc,Int.mul_comm c,<- Int.mul_assoc]
   rw[m];have Q:g*pw (sz x)*c*((8388608-(n+1:Nat))*8388609)=g*pw (sz x)*c*(8388608-(n+1:Nat))*8388609:=by rw[<- Int.mul_assoc]
   have A:g*pw (sz x)*c*((8388608-n)*8388608)=g*pw (sz x)*(8388608-n)*c*8388608:=by
    rw[<- Int.mul_assoc,Int.mul_assoc (g*pw (sz x)) c,Int.mul_comm c,<- Int.mul_assoc]
   have D:o*(x.2.1*c*8388608)=o*x.2.1*c*8388608:=by rw[<- Int.mul_assoc,<- Int.mul_assoc]
   have E:o*x.2.1*8388608*c=o*x.2.1*c*8388608:=by rw[Int.mul_assoc,Int.mul_comm 8388608,<- Int.mul_assoc]
   have t:o*(cut x.2.1 c*16777216*8388609)=o*cut x.2.1 c*16777216*8388609:=by rw[<- Int.mul_assoc,<- Int.mul_assoc]
   have v:o*16777216*cut x.2.1 c*8388608=o*cut x.2.1 c*16777216*8388608:=by rw[Int.mul_assoc o,Int.mul_comm 16777216,<- Int.mul_assoc]
   rw[Q,A]at a;rw[D,t]at f;rw[E]at e;rw[v];generalize g*pw (sz x)*c*(8388608-(n+1:Nat))=L at a⊢;generalize g*pw (sz x)*(8388608-n)*c=ς at e a;generalize o*x.2.1*c=O at e f;generalize o*cut x.2.1 c=K at f⊢;omega
  .rw[if_neg hb,if_neg hb];exists Int.mul_pos G (),x.2.1-cut x.2.1 c,by rw[if_neg hb],?_
   have F:0<=16777216-c:=()
   have e:g*pw (sz x)*(8388608-n)*(16777216-c)<=o*x.2.1*8388608*(16777216-c):=c7 H F;have y:x.2.1*(16777216-c)<=(x.2.1-cut x.2.1 c)*16777216:=by rw[Int.mul_sub];omega
   have f:o*(x.2.1*(16777216-c))<=o*((x.2.1-cut x.2.1 c)*16777216):=cS y j
   have a:g*pw (sz x)*(16777216-c)*(8388608-(n+1:Nat))<=g*pw (sz x)*(16777216-c)*(8388608-n) :=
    cS () (Int.mul_nonneg k F)
   have m:g*(16777216-c)*pw (sz x)=g*pw (sz x)*(16777216-c):=by rw[Int.mul_assoc,Int.mul_comm (16777216-c),<- Int.mul_assoc]
   rw[m]
   have A:g*pw (sz x)*(16777216-c)*(8388608-n)=g*pw (sz x)*(8388608-n)*(16777216-c):=by
    rw[Int.mul_assoc,Int.mul_comm (16777216-c),<- Int.mul_assoc]
   have D:o*(x.2.1*(16777216-c))=o*x.2.1*(16777216-c):=by rw[<- Int.mul_assoc]
   have E:o*x.2.1*8388608*(16777216-c)=o*x.2.1*(16777216-c)*8388608:=by rw[Int.mul_assoc,Int.mul_comm 8388608,<- Int.mul_assoc]
   have t:o*((x.2.1-cut x.2.1 c)*16777216)=o*(x.2.1-cut x.2.1 c)*16777216:=by rw[<- Int.mul_assoc]
   have v:o*16777216*(x.2.1-cut x.2.1 c)*8388608=o*(x.2.1-cut x.2.1 c)*16777216*8388608:=by rw[Int.mul_assoc o,Int.mul_comm 16777216,<- Int.mul_assoc]
   rw[A]at a;rw[D,t]at f;rw[E]at e;rw[v];generalize g*pw (sz x)*(16777216-c)*(8388608-(n+1:Nat))=L at a⊢;generalize g*pw (sz x)*(8388608-n)*(16777216-c)=ς at e a;generalize o*x.2.1*(16777216-c)=O at e f;generalize o*(x.2.1-cut x.2.1 c)=K at f⊢;omega
 let#[M,d,I,P]:=B;erw[M,(),?_]
 rw[I]
 have i:∀l:Int,g*gv c b*pw (sz (ren l d x.2.2))*(8388608-(n+1:Nat))<=o*16777216*(ren l d x.2.2).2.1*8388608:=λl=>by
  let#[r,q,N,_]:=yd6 (l:=l) (w:=d) (s:=x.2.2) ();rwa[q.z,N,Š,vhi (Int.le_of_lt (ul r)) P]
 split
 .erw[i _]
 .erw[i _]
def ywi{n:Nat}{g o:Int}{x:Sn}(hn:n<1000000)(h:OkS x)(p:yxc n g o x):g*pw (sz x-tK x)<1024*o:=by
 let#[r,d,a]:=p;let m:=yme (vab h.ok)
 have b:x.2.1<512*pw (tK x):=by
  have e:pw (tK x+1)=pw (tK x)*256:=rfl;omega
 have e:sz x-tK x+tK x=sz x:=Nat.sub_add_cancel (yo9 h).2;let k:=ul (tK x);rw[<- e,Š]at a
 have c:o*x.2.1*8388608<o*(512*pw (tK x))*8388608:=by
  have:=Int.mul_lt_mul_of_pos_left b d;omega
 have f:g*(pw (sz x-tK x)*pw (tK x))*(8388608-n)=g*pw (sz x-tK x)*(8388608-n)*pw (tK x):=by
  rw[<- Int.mul_assoc,Int.mul_assoc (g*pw (sz x-tK x)) (pw (tK x)),Int.mul_comm (pw (tK x)),<- Int.mul_assoc]
 have l:o*(512*pw (tK x))*8388608=o*512*8388608*pw (tK x):=by
  rw[<- Int.mul_assoc,Int.mul_assoc (o*512) (pw (tK x)),Int.mul_comm (pw (tK x)),<- Int.mul_assoc]
 rw[f]at a;rw[l]at c;let i:=Int.lt_of_mul_lt_mul_right (Int.lt_of_le_of_lt a c) (Int.le_of_lt k)
 have j:g*pw (sz x-tK x)*(8388608-n)<1024*o*(8388608-n):=by
  erw[Int.lt_of_lt_of_le i ?_];have:o*(512*8388608)<=o*(1024*(8388608-n)):=cS () ();have q:o*(1024*(8388608-n))=1024*o*(8388608-n):=by rw[<- Int.mul_assoc,Int.mul_comm o]
  omega
 erw[Int.lt_of_mul_lt_mul_right j ()]
end
end SpanMath
section
open PySem PySem.Spec PyProof.Rows
namespace L2
def ycr(ς:It)(te:TE)(D:z4)(R:Hp->Prop)(H1:Hp):Prop:=∃W:Nat->Nat->Hp->Prop,(∃m,W 0 m (upd H1 D (.lst [])))/\
 ∀i m H2,W i m H2->(ς.stop i H2/\R H2)\/(ς.go i H2/\∀x H3,ς.yld i H2 x H3->te [some x] H3 λy H4=>∃ys,H4 D\ys/\ys.length<sizeLine/\∃m',m'<m/\W (i+1) m' (upd H4 D (.lst (ys++[y]))))
section
mutual
variable{X:Cx}{iter elt:qh}{x:Str}{px pos:Pos}{scope:Scope}{te:TE}{wi:TI}{pins:Θ}{σ:St}
def vgz{α:Type}{t:Sem α}{Q Q':α->qa->Prop}{M:Model}{A:qf}{E:Δ}{s:qa}(h:wpAny M A t Q (λZ Z=>False) s)(hQ:∀a s,Q a s->Q' a s):wpAny M A t Q' E s:=dF h hQ λZ Z z=>z.elim
def cW(n:Nat)(Pv:Nat->Hp->Prop)(i m:Nat)(H:Hp):Prop:=m=n-i/\i<=n/\Pv i H
def jd{K:z3}{a D:z4}{xs:Υ}{R:Hp->Prop}{H1:Hp}(Pv:Nat->Hp->Prop)(h0:Pv 0 (upd H1 D (.lst [])))(hl:∀i H,i<=xs.length->Pv i H->SqL K H a xs)
  (hs:∀i x H,xs[i]?=some x->i<xs.length->Pv i H->te [some x] H λy H4=>∃ys,H4 D\ys/\ys.length<sizeLine/\∃m',m'<xs.length-i/\cW xs.length Pv (i+1) m' (upd H4 D (.lst (ys++[y]))))
  (hd:∀H,Pv xs.length H->R H):ycr (Itl K a) te D R H1:=by
 erw[cW xs.length Pv,#[xs.length,'s',cI _,h0],?_];rintro i m H ⟨rfl,b,p⟩;let q:=hl i H b p;by_cases hlt:i<xs.length
 .erw[.inr #[#[xs,xs[i],q,by simp[hlt]],λx c y=>?_]];let#[e,y]:=y;subst e;erw[hs i x _ (y xs q) hlt p]
 .have e:i=xs.length:=()
  subst e;erw[.inl #[#[xs,q,cc _],hd H p]]
def xh{n i:Nat}{Pv:Nat->Hp->Prop}{D:z4}{ys:Υ}{y:V}{H4:Hp}(hD:H4 D\ys)(hl:ys.length<sizeLine)(hi:i<n)(p:Pv (i+1) (upd H4 D (.lst (ys++[y])))):
  ∃ys,H4 D\ys/\ys.length<sizeLine/\∃m',m'<n-i/\cW n Pv (i+1) m' (upd H4 D (.lst (ys++[y]))):=#[ys,hD,hl,n-(i+1),(),J,hi,p]
end
end
end L2
namespace L2
open PySem
noncomputable def yd3:qh->Bool
 | .Starred _ _=>false
 |_=>true
def yjo{e:qh}{es:qj qh}{env:Env}(h:yd3 e=true):starEach (e::es) env=(false,eval e env)::starEach es env:=by cases e<;>first|rfl|cases h
end L2
namespace L2
mutual
variable{C D a:z4}{vs:Array qc}{h':qg}{pins:Θ}{M:Model}{oe:Obj}{P:qi}{scope:Scope}{st:qd}{qual:Str}{a0 cd u:qc}{E Q:Δ}
structure XCls(K:z3)(C:z4):Prop where
 hd:W.hasDictIn K C=true
 ga:W.findIn K (.ref C) "__getattribute__"=some (some (.builtin "BaseException.__getattribute__"))
 gt:W.findIn K (.ref C) "__getattr__"=some none
 ca:W.findIn K (.ref C) "__class__"=some (some (.builtin "object.__class__"))
 gg:W.specialIn K (.builtin "object.__class__") "__get__"=some (some (.builtin "getset_descriptor.__get__"))
 tk:W.takesIn K (.builtin "object.__class__")=some true
 mo:W.mroIn K C (.type "object")=some true
 mb:W.mroIn K C (.type "BaseException")=some true
def XCls.cl{K:z3}(c:XCls K C):(W.clsIn K C).isSome=true:=by let#[a,h,_]:=W.any_some c.hd;rw[h];rfl
def exm_mk{K:z3}(h0:W.subIn K (.ref D) (.type "BaseException")=some true)(h1:W.hasDictIn K D=true)(h2:W.typeIn K (.ref D)=some (.type "type"))
  (h3:W.subIn K (.ref C) (.ref D)=some true):W.exmOne K (.ref C) (.ref D)=some true:=by let#[a,h,_]:=W.any_some h1;unfold W.exmOne W.kitCls;rw[h0];dsimp only;rw[h,h2,h3];rfl
def yc1(x C:z4)(h:qg):Prop:=∃ox,h.get? x=some ox/\ox.cls=.ref C
end
section
mutual
variable{prog:qi}{w:qe}{A:qf}{s:qa}{K:z3}{x:z4}
def yc1.type{h:qg}(I:yc1 x C h):W.Looks M h (typeOf (.ref x)) (.ref C):=by let#[c,b,a]:=I;erw[a ▸ (W.Looks.ld b).andThen .now]
def XCls.finds(c:XCls K C){h:qg}(X:K.In h):W.Looks M h (Builtin.ObjectAttr.find (.ref x) (.ref C) "__class__") (.bind (.builtin "getset_descriptor.__get__") (.builtin "object.__class__")):=by have d:=W.looks_findIn (M:=M) X c.ca;have a:W.Looks M h (Builtin.ObjectAttr.getOf (some (.builtin "object.__class__"))) (some (.builtin "getset_descriptor.__get__")):=W.looks_specialIn X c.gg;have b:W.Looks M h (Builtin.ObjectAttr.dataDescriptor? (some (.builtin "object.__class__")) (some (.builtin "getset_descriptor.__get__"))) (some (.builtin "getset_descriptor.__get__",.builtin "object.__class__")):=(W.looks_takesIn X c.tk).andThen .now;erw[d.andThen (a.andThen (b.andThen (W.Looks.tag .now)))]
def yuj{R:Result->qa->Prop}{tp:qc}(c:XCls K C)(X:K.In s.heap)(I:yc1 x C s.heap)(h:R (.ok (.ret (.ref C))) s):
  codeAny (model prog w) A (.call (.builtin "getset_descriptor.__get__") #[[.builtin "object.__class__",.ref x,tp],[]]) R s:=by
 let#[d,g,e,t,a]:=s;let b:=I.type (M:=model prog w);let f:=W.looks_mroIn (M:=model prog w) X c.mo;erw[codeAny_call_builtin W.KF.slot_gs.plain W.KF.entry_gs (W.KF.slot_gs.check _ _ _ _ _ _ _ _ W.KF.type_class (W.KF.args_gs _ _ _) ?_)];unfold Builtin.«getset_descriptor.__get__» Builtin.Getset_descriptor.descrGet;rwa[W.dga_obj,bX (cq ?_)];unfold Builtin.Getset_descriptor.descrGetter Builtin.Getset_descriptor.descrCheckInstance Builtin.Getset_descriptor.descrNameAndClass isInstance;simp only[W.KF.owner_class]
 repeat lk
 erw[Code.quiet_builtin _ (by decide+kernel),codeAny_builtin W.KF.entry_class ?_];unfold Builtin.«object.__class__» shownTypeOf
 repeat lk
 erw[h]
def yja(c:XCls K C){Q:ql qc->qa->Prop}(X:K.In s.heap)(I:yc1 x C s.heap)(h:Q (some (.ref C)) {s with toks:=s.toks+1}):
  wpAny (model prog w) A (getAttr? (.ref x) "__class__") Q E s:=by
 let#[e,g,d,t,m]:=s;let b:=I.type (M:=model prog w);let p:=W.looks_findIn (M:=model prog w) X c.ga;let n:=W.looks_findIn (M:=model prog w) X c.gt;have i:W.Looks (model prog w) e (isInstance (.ref x) (.type "BaseException")) true:=b.andThen (W.looks_mroIn X c.mb);let j:=c.finds (x:=x) (M:=model prog w) X;unfold getAttr? getAttrBy? getAttrBy;erw[bX (wpAny_mkText (bX (wpAny_attempt (wpAny_holding (bX (b.at (bX (p.at ?_))))))))]
 have f:(onTheHeap (Value.ref C) && Value.builtin "BaseException.__getattribute__" == Value.builtin "object.__getattribute__")=false:=by
  have z:(Value.builtin "BaseException.__getattribute__" == Value.builtin "object.__getattribute__")=false:=by decide+kernel
  rw[z];rfl
 dsimp only;rw[f];unfold getAttrByItsOwn hookBefore;rwa[if_neg cE,bX ?_];rwa[if_pos (show onTheHeap (.ref C)=true from rfl),n.at ?_];erw[bX (wpAny_attempt (wpAny_holding ?_))];unfold callGetattribute;rw[if_neg 's'];unfold boundAndCalled;rwa[F.attr_ValueError.ga.bind (.ref x),bX (cq ?_)];erw[wpAny_call (codeAny_call_builtin F.attr_ValueError.ga.plain F.entry_bexc_ga ?_)];have k:builtinKind "BaseException.__getattribute__"=some .slot:=by decide+kernel
 have a:splitId "BaseException.__getattribute__"=some ("BaseException","__getattribute__"):=by decide+kernel
 let o:=F.args_bexc_ga (.ref x) (.str "__class__" t);simp only[checkBuiltinCall,k,a,List.cons_append,List.nil_append];erw[bX (i.at ?_)];rwa[if_neg 's',wpAny_of_eq o ?_];unfold Builtin.«object.__getattribute__»;have l:slotArgs "__getattribute__" 1 #[[Value.ref x,Value.str "__class__" t],[]]=pure (Value.ref x,[Value.str "__class__" t]):=by kernel_rfl
 have q:Builtin.ObjectAttr.attrName (Value.str "__class__" t)=pure "__class__":=by kernel_rfl
 erw[bX (wpAny_of_eq l ?_)];dsimp only;erw[bX (wpAny_of_eq q ?_),<-bX (b.at ?_),<-bX (j.at ?_)];dsimp only;show wpAny _ _ (holding [_] (call _ [_,_,_]) >>=ret) _ _ _;erw[bX (wpAny_holding (wpAny_call (yuj (s:=#[e,g,d,t+1,m]) c X I ?_))),<-cq ?_,<-W.handed_on J (cq h)]
end
set_option tactic.hygienic true in
def yvr(c:XCls K C):W.KitX K (.ref x) (.ref C) (yc1 x C) where
 ty:=λZ Z Z I=>I.type
 it:=λM h X Z=>by
  let#[d,a]:=Option.isSome_iff_exists.mp c.cl;unfold W.clsIn at a
  split at a
  .rename_i there
   intro m g j i k q;unfold isType loadHead;erw[bX (wpAny_loadPart (k _ _ (X _ _ there)) (cq q))]
  .cases a
 ne:=λh f o e n l X b=>by
  let#[d,a]:=Option.isSome_iff_exists.mp c.cl;erw[Bool.eq_false_iff.mpr λq=>?_];obtain rfl:C=f:=Value.ref.inj (beq_iff_eq.mp q);unfold W.clsIn at a
  split at a
  .rename_i there
   cases (X _ _ there).symm.trans b
  .cases a
 ca:=λX I k=>yja c X I k
end
section
variable{X:Cx}
def yv0{σ:St}{H:Hp}{s:qa}{x:z4}(I:'i' s)(e:H x=some (.ext (yc1 x C))):yc1 x C s.heap:=(show xq X.prog X.w H s.heap x (.ext (yc1 x C))from I.hok x _ e).1
def yw9(K:z3):qj V->Hp->VK->Prop:=λxs H Q=>∃x cv C c k,xs=[.ref x,cv]/\xr cv c/\(∀u,xr cv u->u=c)/\H x=some (.ext (yc1 x C))/\XCls K C/\W.kitOne K (.ref C) c=some k/\Q (.bl k) H
def yai:ji X (.builtin "isinstance") (yw9 X.K):=by
 intro a s σ H n m Q I r h;let#[x,o,C,c,k,J,_,j,b,d,e,q]:=h;let#[u,l,J,g,i]:=yo4 r;obtain rfl:=j l i;obtain rfl:u=Value.ref x:=g
 erw[W.kia_one (yvr d) I.kIn (yv0 I b) e (λz=>nomatch z) λf=>#[.bl k,H,I.tok f,J,q]]
end
def TrA(base h:qg)(e:z4)(cls a0 cx:qc):Prop:=∃fl,h.TracedAtW base e cls a0 fl/\∃oe vs,h.get? e=some oe/\oe.data=.fields vs/\vs[2]?=some cx
section
mutual
variable{A:qf}{s:qa}{base:qg}{env:Env}{outer:qj Env}{L e:z4}{cls cx:qc}{Q:Unit->qa->Prop}
def yp2{head:qc}{hadNext:Bool}(hfr:A.frames=some (env::outer))(hl:s.heap.FunFrames base (env::outer))(hf:env.frame=some L)(he:s.heap.get? e=some oe)(hkb:base.StaysIn s.heap)(hen:base.get? e=none)
  (hd:oe.data=.fields vs) (hsz:1<vs.size) (h0:vs[0]?=some a0) (h2:vs[2]?=some cx)
  (h:∀h',base.StaysIn h'->h'.FunFrames base (env::outer)->TrA base h' e oe.cls a0 cx->(∀b o,s.heap.get? b=some o->(∀vs,o.data≠.fields vs)->∃sl,h'.get? b=some {o with slots:=sl})->Q ⟨⟩ {s with heap:=h'}):
  wpAny M A (do let a <- frameOf env;let pl <- entryPlaceOf L hadNext;let b <- EntryCells.newEntry head a .none (rawInt L) .none pl;setField (.ref e) 1 b) Q E s:=by
 have m:e∉(env::outer).filterMap (·.frame):=λt=>by
  let#[_,o,w,c]:=hl.mem t;rw[he]at w;cases w;erw[c vs hd]
 erw[bX (wpAny_frameOf_fun hfr hl hf λg1 k=>?_),<-bX (wpAny_entryPlaceOf λpl B=>?_)];unfold EntryCells.newEntry newFields;erw[bX (wpAny_newObj_type ?_ (B.sizeOk5 _ _ _ _ _))];have g:g1.get? e=some oe:=(k.2.1 e m).trans he;have y:base.StaysIn g1:=λb o q=>(k.2.1 b λt=>by rw[(hl.mem t).1]at q;cases q).trans (hkb b o q);erw[wpAny_setField (bZ _ g) hd hsz ?_];let f:=Obj.data_mapFields hd (·.setIfInBounds 1 (Value.ref g1.objs.size));have v:g1.objs.size≠e:=Nat.ne_of_gt (cB g)
 have p:∀O:Obj,O.cls=.type "traceback"->(∃j,O.data=.fields j/\j[3]?=some (rawInt L))->Q ⟨⟩ {s with heap:=(g1.push O).update e (Obj.mapFields (·.setIfInBounds 1 (Value.ref g1.objs.size)))}:=by
  rintro O C ⟨j,x,l⟩;let i:=Heap.get?_update_self (Obj.mapFields (·.setIfInBounds 1 (Value.ref g1.objs.size))) (bZ O g) (Obj.isFreed_of_fields f);have u:∀b o,b≠e->g1.get? b=some o->((g1.push O).update e (Obj.mapFields (·.setIfInBounds 1 (Value.ref g1.objs.size)))).get? b=some o:=λb o n q=>(Heap.get?_update_other _ _ (Ne.symm n)).trans (bZ O q);have r:∀{b o},s.heap.get? b=some o->(∀vs,o.data≠.fields vs)->b≠e:=λ{b o}q c z=>by rw[z,he]at q;cases q;erw[c vs hd]
  have d:∀{b o},s.heap.get? b=some o->(∀vs,o.data≠.fields vs)->∃sl,((g1.push O).update e (Obj.mapFields (·.setIfInBounds 1 (Value.ref g1.objs.size)))).get? b=some {o with slots:=sl}:=λ{b o}q c=>by
   let#[sl,z]:=k.2.2 b o q;erw[sl,u b _ (r q c) z]
  erw[h _ (λb o q=>u b o (λz=>by rw[z,hen]at q;cases q) (y b o q)) (hl.of_keeps λb o q c=>?_) #[_,#[_,_,g1.objs.size,O,j,i,#[Obj.cls_mapFields _ _,?_],f,by simp[hsz],y.fresh,v,(Heap.get?_update_other _ _ (Ne.symm v)).trans (cA g1 ?_),x,l],_,_,i,f,?_] λb o q c=>d q c]
  .let#[sl,z]:=d q c;exists _,z,rfl
  .rw[Array.getElem?_setIfInBounds_ne ∅];erw[h0]
  .erw[Obj.isFreed_of_fields x]
  .rw[Array.getElem?_setIfInBounds_ne ∅];erw[h2]
 erw[p _ J #[_,J,'s']]
def vil(hfr:A.frames=some (env::outer))(hl:s.heap.FunFrames base (env::outer))(hf:env.frame=some L)(he:s.heap.get? e=some oe)(hkb:base.StaysIn s.heap)(hen:base.get? e=none)
  (hd:oe.data=.fields vs) (h1:vs[1]?=some .none) (h0:vs[0]?=some a0) (h2:vs[2]?=some cx)
  (h:∀h',base.StaysIn h'->h'.FunFrames base (env::outer)->TrA base h' e oe.cls a0 cx->(∀b o,s.heap.get? b=some o->(∀vs,o.data≠.fields vs)->∃sl,h'.get? b=some {o with slots:=sl})->Q ⟨⟩ {s with heap:=h'}):
  wpAny M A (noteFrame (.ref e) env) Q E s:=by unfold noteFrame;simp only[hf];erw[bX (dm he hd h1 ?_)];rwa[if_neg ∅,yp2 hfr hl hf he hkb hen hd (Array.getElem?_eq_some_iff.mp h1).1 h0 h2 h]
def vh4(hfr:A.frames=some (env::outer))(hl:s.heap.FunFrames base (env::outer))(hf:env.frame=some L)(ht:TrA base s.heap e cls a0 cx)(hkb:base.StaysIn s.heap)(hen:base.get? e=none)
  (h:∀h',base.StaysIn h'->h'.FunFrames base (env::outer)->TrA base h' e cls a0 cx->(∀b o,s.heap.get? b=some o->(∀vs,o.data≠.fields vs)->∃sl,h'.get? b=some {o with slots:=sl})->Q ⟨⟩ {s with heap:=h'}):
  wpAny M A (noteFrame (.ref e) env) Q E s:=by
 let#[D,#[C,vs,T,I,G,m,#[J,w],f,r,x,B,j,a,t],i,l,k,p,v]:=id ht;obtain rfl:C=i:=cu (m.symm.trans k);obtain rfl:vs=l:=Data.fields.inj (f.symm.trans p);unfold noteFrame;simp only[hf];erw[bX (dm m f r ?_)];rwa[if_pos 's',bX (dm j a t ?_)];by_cases z:(D == rawInt L)=true
 .rw[if_pos z];erw[cq (h s.heap hkb hl ht λb o q Z=>#[o.slots,q])]
 rwa[if_neg z,bX (wpAny_setField j a (Array.getElem?_eq_some_iff.mp t).1 ?_)];have d:∀b,b≠T->(s.heap.update T (Obj.mapFields (·.setIfInBounds 3 Value.none))).get? b=s.heap.get? b:=λb n=>Heap.get?_update_other _ _ (Ne.symm n);generalize s.heap.update T (Obj.mapFields (·.setIfInBounds 3 Value.none))=g at d⊢;have nT:∀{b o},s.heap.get? b=some o->(∀vs,o.data≠.fields vs)->g.get? b=some o:=λ{b o}q c=>(d b λz=>by rw[z,j]at q;cases q;erw[c G a]).trans q;exact yp2 (s:={s with heap:=g}) hfr (hl.of_keeps λb o q c=>#[o,nT q c,J]) hf ((d e B.symm).trans m) (λb o q=>(d b λz=>by rw[z,x]at q;cases q).trans (hkb b o q)) hen f (Array.getElem?_eq_some_iff.mp r).1 w v
  λh' u F y H=>h h' u F y λb o q c=>H b o (nT q c) c
def ytm{fm:ql z4}(hkb:base.StaysIn s.heap)(hl:s.heap.FunFrames base outer)(ht:TrA base s.heap e cls a0 cx)
  (h:∀h',base.StaysIn h'->h'.FunFrames base outer->TrA base h' e cls a0 cx->(∀b o,s.heap.get? b=some o->(∀vs,o.data≠.fields vs)->h'.get? b=some o)->Q ⟨⟩ {s with heap:=h'}):
  wpAny M A (setFlight (.ref e) fm) Q E s:=by
 let#[_,#[B,vs,T,F,w,x,D,r,u,t,j,k,a,C],i,m,l,p,y]:=ht;have v:3<w.size:=(Array.getElem?_eq_some_iff.mp C).1;unfold setFlight;erw[bX (dm x r u ?_)];rwa[if_pos 's',wpAny_setField k a v ?_];have d:∀b,b≠T->(s.heap.update T (Obj.mapFields (·.setIfInBounds 3 (fm.elim Value.none λf=>rawInt f)))).get? b=s.heap.get? b:=λb n=>Heap.get?_update_other _ _ (Ne.symm n);have nT:∀{b o},s.heap.get? b=some o->(∀vs,o.data≠.fields vs)->b≠T:=λ{b o}q g z=>by rw[z,k]at q;cases q;erw[g w a]
 let c:=Obj.data_mapFields a (·.setIfInBounds 3 (fm.elim Value.none λf=>rawInt f));erw[h _ (λb o q=>(d b λz=>by rw[z,t]at q;cases q).trans (hkb b o q)) (hl.of_keeps λb o q g=>#[o,(d b (nT q g)).trans q,J]) #[_,#[B,vs,T,_,_,(d e j.symm).trans x,D,r,u,t,j,Heap.get?_update_self _ k (Obj.isFreed_of_fields c),c,by simp[v];rfl],i,m,(d e j.symm).trans l,p,y] λb o q g=>(d b (nT q g)).trans q]
end
end
mutual
def xq.there{w:qe}{H:Hp}{h:qg}{o:HO}(x:xq P w H h a o):∃ob,h.get? a=some ob:=by
 cases o with
 |lst xs=>let⟨_,_,_,_,e⟩:=x;erw[_,e]
 |tup xs=>let⟨_,_,_,ob,e,_⟩:=x;erw[_,e]
 |dK kvs=>let⟨_,_,_,_,ob,_,_,e,_⟩:=x;erw[_,e]
 |dT kvs=>let⟨_,_,_,_,ob,_,_,e,_⟩:=x;erw[_,e]
 |set S n=>let⟨ob,_,_,_,e,_⟩:=x;erw[_,e]
 |ins C dx fs=>let⟨_,_,_,e,_⟩:=x;erw[_,e]
 |own y=>erw[x]
 |xd fs=>let⟨_,⟨_,_,_,e,_⟩,_⟩:=x;erw[_,e]
 |rng lo hi=>let⟨_,_,_,e⟩:=x;erw[_,e]
 |frz ob u=>let⟨e,_⟩:=x;erw[_,e]
 |tbl ps=>erw[_,(show h.get? a=some _ from x)]
 |met f y=>erw[_,(show h.get? a=some _ from x)]
 |ext φ=>let⟨_,e,_⟩:=x;erw[e]
def HOk.none_of{w:qe}{H:Hp}{h:qg}(x:HOk P w H h)(e:h.get? a=none):H a=none:=by
 cases q:H a with
 |none=>rfl
 |some u =>
  let#[b,z]:=(x a u q).there;rw[e]at z;cases z
def Fy(X:Cx)(pins:Θ)(H:Hp)(b:z4):Prop :=
 H b=none/\b≠X.env.locals/\b∉X.fs/\(b∈X.ex\/X.s₀.heap.get? b=none)/\(∀y c,X.env.cells.lookup y=some c->c≠b)/\∀p∈X.pn++pins,p.1≠b
end
section
mutual
variable{X:Cx}{σ:St}{H H':Hp}{s:qa}{b x T:z4}
def yfy(I:'i' s)(hb:s.heap.get? b=none)(hn:H' b=none):Fy X pins H' b:=by
 erw[hn,?_,?_,?_,?_,?_]
 .rintro rfl;let#[_,#[_,_,_,e,_],_]:=I.loc;rw[hb]at e;cases e
 .intro z;let#[_,o,e,_]:=I.funs.mem z;rw[hb]at e;cases e
 .by_cases hx:b∈X.ex
  .erw[.inl hx]
  .refine .inr ?_
   cases q:X.s₀.heap.get? b with
   |none=>rfl
   |some o =>
    let#[_,e]:=I.base.there b o q hx;rw[hb]at e;cases e
 .rintro y c e rfl;let#[_,_,q,_]:=I.cell y c e;rw[hb]at q;cases q
 .intro p a z;let q:=(I.pin p a).1;rw[z,hb]at q;cases q
def Inv.fly(I:'i' s)(hx:Fy X pins H x)(hT:Fy X pins H T)
  (keep:∀b o,b≠x->b≠T->b∉frs X.stack->s.heap.get? b=some o->h'.get? b=some o)
  (slot:∀b o,b∈frs X.stack->s.heap.get? b=some o->∃sl,h'.get? b=some {o with slots:=sl}):'i' {s with heap:=h'}:=by
 have a:∀{y b o},Fy X pins H y->X.s₀.heap.get? b=some o->b∉X.ex->b≠y:=λ{y b o}P e f z=>by
  subst z;rcases P.2.2.2.1 with q|q
  .erw[f q]
  .rw[e]at q;cases q
 have h:∀b o,b≠x->b≠T->s.heap.get? b=some o->∃sl,h'.get? b=some {o with slots:=sl}:=λb o N K e=>by
  by_cases z:b∈frs X.stack
  .erw[slot b o z e]
  .erw[o.slots,keep b o N K z e]
 have g:∀y c,X.env.cells.lookup y=some c->∀v,s.heap.IsCell c v->h'.IsCell c v:=λy c e v ⟨o,C,ς⟩=>by
  let#[sl,q]:=h c o (hx.2.2.2.2.1 y c e) (hT.2.2.2.2.1 y c e) C;exists _,q,ς
 erw[I.ok,I.os,I.bare,#[λb o e n A f=>?_,λb o e n A f=>?_,I.base.free,λb o e f=>?_,I.base.tups,I.base.frzs,I.base.tbls],?_,λy c e=>?_,I.free,I.freeC,λp B=>?_,λb u e=>?_,I.len]
 .erw[keep b o (a hx e f) (a hT e f) (λz=>?_) (I.base.keep b o e n A f)];rcases cr.mp (I.stkSub b z)with q|q
  .erw[absurd q (cY (cR (cB e) I.ok.above))]
  .erw[A q]
 .let#[sl,t]:=I.base.slot b o e n A f;let#[w,j]:=h b _ (a hx e f) (a hT e f) t;erw[w,j]
 .let#[Y,t]:=I.base.there b o e f;let#[w,j]:=h b _ (a hx e f) (a hT e f) t;erw[_,j]
 .let#[m,S,O]:=I.loc;exists m,?_,λi y v t j W=>?_
  .let#[o,Q,U,C,r]:=S;let#[sl,q]:=h _ o (Ne.symm hx.2.1) (Ne.symm hT.2.1) C;erw[_,Q,U,q,r]
  .let#[u,r,l]:=O i y v t j W;erw[u,r,?_];rcases l with l|⟨k,c,e,z⟩
   .erw[.inl l]
   .erw[.inr #[k,c,e,g y c e _ z]]
 .let#[v,z]:=I.cell y c e;erw[v,g y c e v z]
 .let#[e,n,E,G,d]:=I.pin p B;erw[keep p.1 p.2 (hx.2.2.2.2.2 p B) (hT.2.2.2.2.2 p B) (λz=>?_) e,n,E,G,d];rcases cr.mp (I.stkSub _ z)with q|q
  .erw[E q]
  .erw[G q]
 .have F:∀c v,H c=some v->c≠x/\c≠T/\c∉frs X.stack:=λc v q =>
   #[λz=>(by rw[z,hx.1]at q;cases q),λz=>(by rw[z,hT.1]at q;cases q),λz=>(by rw[I.stkFree c z]at q;cases q)]
  erw[(I.hok b u e).stay (λc v D q=>?_) (λZ q=>q) λZ Z q=>q]
  obtain⟨M,L,R⟩:c≠x/\c≠T/\c∉frs X.stack:=by
   rcases D with rfl|D
   .erw[F _ _ e]
   .erw[F _ _ D]
  erw[keep c v M L R q]
def Trd(h:qg)(x T:z4)(C:qc)(d:ql z4):Prop :=
 ∃oe vs oT ts a0,h.get? x=some oe/\(oe.cls=C/\vs[0]?=some a0/\vs[2]?=some (d.elim Value.none Value.ref))/\oe.data=.fields vs/\vs[1]?=some (.ref T)/\T≠x/\h.get? T=some oT/\oT.data=.fields ts/\∃fl,ts[3]?=some fl
def hid(s:qa)(X:Cx)(x T:z4):qg:=W.hideAll s.heap (x::T::frs X.stack)
def yk1:(hid s X x T).StaysIn s.heap:=λZ Z e=>W.of_hideAll _ e
def vfb:(hid s X x T).get? x=none:=W.hideAll_none _ (.head _)
def vie:(hid s X x T).get? T=none:=W.hideAll_none _ (.tail _ (.head _))
def ylq(I:'i' s):s.heap.FunFrames (hid s X x T) X.stack :=
 W.funFrames_hide I.stack λb c a d=>.tail _ (.tail _ (List.mem_filterMap.mpr #[b,c,d]))
def yrz{C:qc}{d:ql z4}(t:Trd s.heap x T C d):∃a0,TrA (hid s X x T) s.heap x C a0 (d.elim Value.none Value.ref):=by let#[e,b,l,i,a0,c,a,f,j,m,g,k,n,h]:=t;erw[a0,n,#[e,b,T,l,i,c,#[a.1,a.2.1],f,j,vie,m,g,k,h],e,b,c,f,a.2.2]
def ġ{C:qc}{d:ql z4}(I:'i' s)(hx:Fy X pins H x)(hT:Fy X pins H T)(k1:(hid s X x T).StaysIn h')(k2:h'.FunFrames (hid s X x T) X.stack)(k3:TrA (hid s X x T) h' x C a0 (d.elim Value.none Value.ref))
  (k4:∀b o,s.heap.get? b=some o->(∀vs,o.data≠.fields vs)->∃sl,h'.get? b=some {o with slots:=sl}):
  Inv X pins σ H {s with heap:=h'}/\∃T',Fy X pins H T'/\Trd h' x T' C d:=by
 erw[I.fly hx hT (λb o G ς w e=>k1 b o (W.hideAll_get _ e λz=>?_)) λb o v e=>?_,?_]
 .rcases cr.mp z with z|z
  .erw[G z]
  .rcases cr.mp z with z|z
   .erw[ς z]
   .erw[w z]
 .let#[_,D,a,i]:=I.stack.mem v;rw[e]at a;cases a;erw[k4 b o e i]
 .let#[B,#[n,vs,T',u,F,k,j,r,y,A,t,l,p,E],c,h,f,g,K]:=k3;obtain rfl:n=c:=cu (k.symm.trans f);obtain rfl:vs=h:=Data.fields.inj (r.symm.trans g);erw[T',?_,n,vs,u,F,a0,k,#[j.1,j.2,K],r,y,t,l,p,B,E];by_cases q:T'=T
  .rw[q];erw[hT]
  .cases e:s.heap.get? T' with
   |none=>erw[yfy I e (I.hok.none_of e)]
   |some o =>
    have z:T'∈frs X.stack:=Classical.byContradiction λz=>by
     have:=W.hideAll_get (x::T::frs X.stack) e (λm=>by
      rcases cr.mp m with m|m
      .erw[t m]
      .rcases cr.mp m with m|m
       .erw[q m]
       .erw[z m])
     rw[show (W.hideAll s.heap (x::T::frs X.stack)).get? T'=none from A]at this;cases this
    let#[_,D,a,i]:=k2.mem z;rw[l]at a;cases a;erw[absurd p (i _)]
end
section
mutual
variable{A:qf}{Q:Unit->qa->Prop}{env:Env}{outer:qj Env}{L:z4}{C:qc}{d:ql z4}
def j8{fm:ql z4}(I:'i' s)(hx:Fy X pins H x)(hT:Fy X pins H T)(tr:Trd s.heap x T C d)(k:∀s' T','i' s'->Fy X pins H T'->Trd s'.heap x T' C d->Q ⟨⟩ s'):wpAny M A (setFlight (.ref x) fm) Q E s:=by let#[m,i]:=yrz (X:=X) tr;erw[ytm (base:=hid s X x T) yk1 (ylq I) i λn c f g j=>?_];let#[ς,T',a,h]:=ġ I hx hT c f g λb o e l=>#[o.slots,j b o e l];erw[k _ T' ς a h]
def yd0(fr:A.frames=some X.stack)(hst:X.stack=env::outer)(hf:env.frame=some L)(I:'i' s)(hx:Fy X pins H x)(hT:Fy X pins H T)(tr:Trd s.heap x T C d)(k:∀s' T','i' s'->Fy X pins H T'->Trd s'.heap x T' C d->Q ⟨⟩ s'):wpAny M A (noteFrame (.ref x) env) Q E s:=by let#[j,h]:=yrz (X:=X) tr;let c:=ylq (x:=x) (T:=T) I;rw[hst]at fr c;erw[vh4 (base:=hid s X x T) fr c hf h yk1 vfb λl e b f i=>?_];rw[<- hst]at b;let#[ς,T',a,g]:=ġ I hx hT e b f i;erw[k _ T' ς a g]
def yn6(fr:A.frames=some X.stack)(hst:X.stack=env::outer)(hf:env.frame=some L)(I:'i' s)(hx:Fy X pins H x)(he:s.heap.get? x=some oe)(hd:oe.data=.fields vs)(h1:vs[1]?=some .none)(h0:vs[0]?=some a0)(h2:vs[2]?=some (d.elim Value.none Value.ref))
  (k:∀s' T','i' s'->Fy X pins H T'->Trd s'.heap x T' oe.cls d->Q ⟨⟩ s'):wpAny M A (noteFrame (.ref x) env) Q E s:=by have c:=ylq (x:=x) (T:=x) I;rw[hst]at fr c;erw[vil (base:=hid s X x x) fr c hf he yk1 vfb hd h1 h0 h2 λi e b f h=>?_];rw[<- hst]at b;let#[ς,T',a,g]:=ġ I hx hx e b f h;erw[k _ T' ς a g]
end
end
end
mutual
def CXe(P:qi)(w:qe):CXT:=λouter H s E e s'=>∃x T C d H',e=.ref x/\s'.os=s.os/\AllBare s'.gens/\Un (frs outer) [] H H' s.heap s'.heap/\HOk P w H' s'.heap/\
 (H' x=none/\s.heap.get? x=none)/\(H' T=none/\s.heap.get? T=none)/\Trd s'.heap x T C d/\E C d H'
def Ŋ(X:Cx)(Ex:St->XK):Prop:=∀(pins:Θ)(σ:St)(H:Hp)(s':qa)(x T:z4)(C:qc)(d:ql z4),'i' s'->Fy X pins H x->Fy X pins H T->Trd s'.heap x T C d->Ex σ C d H->X.xe (.ref x) s'
def yt{w:qe}{K:z3}{mg:Ε}{base:qg}{N:Τ}{f:z4}{A:qf}{outer:qj Env}{s:qa}{H:Hp}{E:XK}:
  Ŋ ('y' E) (λZ=>E):=by intro c σ g t x T C d I j o l q;show wpAny _ _ (leaving _ _) _ _ _;unfold leaving;erw[bX (yd0 (L:='n') I.ok.frames J J I j o l λv y r i m=>j8 r j i m λu n e h p=>?_)];have a:∀{b},Fy ('y' E) c g b->g b=none/\s.heap.get? b=none:=λk=>#[k.1,k.2.2.2.1.resolve_left 'z'];erw[x,n,C,d,g,J,e.os,e.bare,e.base,e.hok,a j,a h,p,q]
def ynf{w:qe}{K:z3}{mg:Ε}{base:qg}{N:Τ}{f:z4}{A:qf}{outer:qj Env}{s:qa}{H:Hp}{E:XK}
  {pins:Θ} {σ:St} {H1:Hp} {s1:qa} {h':qg} {x:z4} {C:qc} {vs:Ο} (I:Inv ('y' E) pins σ H1 s1) (m:Heap.MadeExcOf s1.heap h' x C vs) (q:E C none H1):
  ('y' E).xe (.ref x) {s1 with heap:=h'}:=by let#[t,l,_,_]:=m.there;have i:Fy ('y' E) pins H1 x:=yfy I m.new (I.hok.none_of m.new);have e:Inv ('y' E) pins σ H1 {s1 with heap:=h'}:=I.kept (t':=s1.toks) m.keeps;show wpAny _ _ (leaving _ _) _ _ _;unfold leaving;erw[bX (yn6 (L:='n') (d:=none) e.ok.frames J J e i l J J J J λp r e h k=>j8 e i h k λo n c g t'=>?_)];have a:∀{b},Fy ('y' E) pins H1 b->H1 b=none/\s.heap.get? b=none:=λj=>#[j.1,j.2.2.2.1.resolve_left 'z'];erw[x,n,C,none,H1,J,c.os,c.bare,c.base,c.hok,a i,a g,t',q]
def ykw(sp:Sp)(dvs:Υ)(Ex:St->XK)(t:TA):TE:=λσ H Q=>t σ H λvs H1=>sp (vs++dvs) H1 Q (Ex σ)
def ycj(C:z4)(m:Str)(sp:Sp)(dvs:Υ)(Ex:St->XK)(ta:TE)(t:TA):TE:=λσ H Q=>ta σ H λx H1=>∃a dx fs,x=.ref a/\H1 a∩C dx fs/\fs.lookup m=none/\
 t σ H1 λvs H2=>sp (x::(vs++dvs)) H2 Q (Ex σ)
def yrn(C:z4)(sp:Sp)(dvs:Υ)(Ex:St->XK)(t:TA):TE:=λσ H Q=>t σ H λvs H1=>∀x dx,H1 x=none->H1 dx=none->dx≠x ->
 sp (.ref x::(vs++dvs)) (upd (upd H1 dx (.own x)) x (.ins C dx [])) (λv H2=>v=.non/\Q (.ref x) H2) (Ex σ)
end
section
mutual
variable{X:Cx}{k:Nat}{f:z4}{fd:FuncData}{ps:Τ}{sp:Sp}{dvs:Υ}{ds:Ο}{Ex:St->XK}{x m:Str}{p pos apos:Pos}{e o:qh}{es:qj qh}{ta:TE}{t:TA}
def Inv.came{σ:St}{H:Hp}{s s':qa}{v:qc}(I:'i' s)(hc:Ŋ X Ex)(h:CXe X.prog X.w X.stack H s (Ex σ) v s'):X.xe v s':=by let#[y,T,D,d,k,J,i,a,j,c,e,f,g,q]:=h;erw[hc pins σ k s' y T D d (I.call' i j c a λb z=>absurd z 's') (yfy I e.2 e.1) (yfy I f.2 f.1) g q]
def ykq{σ:St}{H:Hp}{s:qa}{Q:VK}{us:Ο}{vs:Υ}(F:vq X.prog X.w X.K X.mg X.base (CXe X.prog X.w) k f fd ps sp)(hr:jx k X.A)(hb:uu X.K fd ps ds)(hd:w8 dvs ds)(hc:Ŋ X Ex)
  (I:'i' s) (r:w8 vs us) (h:sp (vs++dvs) H Q (Ex σ)):'w' (call (.ref f) us) (EP X pins σ Q) X.xe s:=by
 have b:w8 (vs++dvs) (us++ds):=r.append hd;have c:(us++ds).length=ps.length:=by rwa[<- b.length,F.len _ _ _ _ h]
 erw[wpAny_call (codeAny_mono (F.run X.A X.stack s H #[us,[]] (us++ds) (vs++dvs) Q (Ex σ) hr I.env0 (hb s us I.kIn c) b h) λr d a=>?_)]
 cases r with
 |error e=>erw[I.came hc a]
 |ok fl =>
  cases fl with
  |ret u=>erw[I.after a]
  |next=>erw[False.elim a]
  |brk=>erw[False.elim a]
  |cont=>erw[False.elim a]
def yng(F:vq X.prog X.w X.K X.mg X.base (CXe X.prog X.w) k f fd ps sp)(hr:jx k X.A)(hg:Gl X x)(hm:X.mg x∣f)(hk:W.keepIn X.K (.ref f)=true)(hb:uu X.K fd ps ds)(hd:w8 dvs ds)(hc:Ŋ X Ex)
  (ha:PA X (e::es) t) (hdb:⇑'d') (he:↑'a') (hpl:↑'b'):
  PE X (.Call (.Name x p) (e::es) [] pos) (ykw sp dvs Ex t):=by refine .mk λa s σ H Q I h=>?_;erw[wpAny_Call_Name_kw (θ I hg hm ?_ hdb),<-W.callWith_K (h₀:=X.base) I.ok.mod.kin hk (thn (ha pos a s σ H _ I h) λc i ⟨d,g,b,r,q⟩=>#[b.kIn,?_]) he hpl,<-ykq F hr hb hd hc b r q]
def y6{pl:Sem Bool}(he:PE X o ta)(c:Cls X.K C)(hm:Meth X.K C m f)(F:vq X.prog X.w X.K X.mg X.base (CXe X.prog X.w) k f fd ps sp)(hr:jx k X.A)(hb:uu X.K fd ps ds)(hd:w8 dvs ds)(hc:Ŋ X Ex)(ha:PA X (e::es) t)
  (hst:↑'a') (hpl:↑'b')
  (ht:eval (.Call (.Attribute o m apos) (e::es) [] pos) X.env=(do
   let ov <- eval o X.env
   standAt apos.atName
   let (f,first) <- holding [ov] (getMethod ov m pl)
   callWith pos f first (backTo pos (starEach (e::es) X.env)) (backToKw pos (keywordEach [] X.env))):=by rfl):
  PE X (.Call (.Attribute o m apos) (e::es) [] pos) (ycj C m sp dvs Ex ta t):=by
 erw[.mk λb s σ H Q I h=>?_,<-W.methodCall_KW (pl:=pl) (thn (he b s σ H _ I h) λu p h'=>?_) ht];let#[x,j,g,v,a,E,D,i,n,l,q]:=h';subst i;obtain rfl:u=Value.ref a:=v;erw[í g n c hm l ?_]
 erw[W.callWith_K (first:=[.ref a]) (h₀:=X.base) I.ok.mod.kin hm.kp (thn (ha pos b p σ j _ g q) λus B ⟨vs,z,d,r,y⟩=>#[d.kIn,?_]) hst hpl]
 erw[ykq (us:=.ref a::us) (vs:=.ref a::vs) F hr hb hd hc d (.cons J r) y]
def yi5{σ:St}{H:Hp}{s:qa}{Q:VK}{us:Ο}{vs:Υ}(M:Mk X.K C f)(F:vq X.prog X.w X.K X.mg X.base (CXe X.prog X.w) k f fd ps sp)(hr:jx (k+1) X.A)(hb:uu X.K fd ps ds)(hd:w8 dvs ds)
  (hc:Ŋ X Ex) (I:'i' s) (r:w8 vs us)
  (h:∀x dx,H x=none->H dx=none->dx≠x->sp (.ref x::(vs++dvs)) (upd (upd H dx (.own x)) x (.ins C dx [])) (λv H2=>v=.non/\Q (.ref x) H2) (Ex σ)):
  wpAny (model X.prog X.w) X.A (call (.ref C) us) (EP X pins σ Q) X.xe s:=by
 let d:=h ('n'+1) 'n' (I.hok.fresh (Nat.le_succ _)) (I.hok.fresh (cc _)) (cY (Nat.lt_succ_self _));let b:=Inv.made (C:=C) I;have c:w8 (V.ref ('n'+1)::(vs++dvs)) (Value.ref ('n'+1)::(us++ds)):=.cons J (r.append hd)
 have j:(Value.ref ('n'+1)::us++ds).length=ps.length:=by
  let e:=c.length;rw[F.len _ _ _ _ d]at e;erw[e.symm]
 erw[wpAny_call (yfg (f:=f) I.kIn M.makes M.init (beq_iff_eq.mp M.fn) (codeAny_mono (F.run _ X.stack _ _ #[Value.ref ('n'+1)::us,[]] (Value.ref ('n'+1)::(us++ds)) _ _ (Ex σ) (hr.make C us [])
  (b.env0.make C us []) (hb _ (Value.ref ('n'+1)::us) b.kIn j) c d) λr o a=>?_))]
 cases r with
 |error e=>erw[b.came hc a]
 |ok fl =>
  cases fl with
  |ret u =>
   let#[v,l,i,n,g,m]:=b.after a;subst g;erw[n,#[V.ref ('n'+1),l,i,J,m]]
  |next=>erw[False.elim a]
  |brk=>erw[False.elim a]
  |cont=>erw[False.elim a]
def uv(M:Mk X.K C f)(F:vq X.prog X.w X.K X.mg X.base (CXe X.prog X.w) k f fd ps sp)(hr:jx (k+1) X.A)(hg:Gl X x)(hm:X.mg x∣C)(hb:uu X.K fd ps ds)(hd:w8 dvs ds)(hc:Ŋ X Ex)
  (ha:PA X (e::es) t) (hdb:⇑'d') (he:↑'a') (hpl:↑'b'):
  PE X (.Call (.Name x p) (e::es) [] pos) (yrn C sp dvs Ex t):=by refine .mk λa s σ H Q I h=>?_;erw[wpAny_Call_Name_kw (θ I hg hm ?_ hdb),<-W.callWith_K (h₀:=X.base) I.ok.mod.kin M.kp (thn (ha pos a s σ H _ I h) λc i ⟨d,g,b,r,q⟩=>#[b.kIn,?_]) he hpl,<-yi5 M F hr hb hd hc b r q]
end
end
theorem PS.nox{X:Cx}{t:TS}(h:PS X.nox st t):PS X st t:=.mk λa s σ H D I b =>
 dF (h a s σ H D (I.wish _) b) (λZ Z q=>q.unwish) λZ Z z=>False.elim z
section
variable{w:qe}{K:z3}{mg:Ε}{base:qg}
def vn{X:Cx}:Ŋ X (λZ Z Z Z=>False):=λZ Z Z Z Z Z Z Z Z Z Z Z q=>q.elim
def Fun.okE{x:Str}{f:z4}{fd:FuncData}{N ps:Τ}{k:Nat}{sp:Sp}(F:Fun K x qual st f fd)(S:yi N ps (yd st))(len:∀vs H Q E,sp vs H Q E->vs.length=ps.length)
  (hbody:∀(cdv:qc)(A:qf)(outer:qj Env)(s:qa)(H:Hp)(vs:Υ)(Q:VK)(E:XK),jx k (A.deeper (envOfC qual (yd st) 'n' f cdv))->sp vs H Q E ->
   ∃t,PSs (vx (CXe P w) P w K mg base N qual (yd st) f cdv A outer s H E) (wz st) t/\t { nx:=λZ H'=>Q .non H',rt:=Q} (ú N vs) H):vq P w K mg base (CXe P w) (k+1) f fd ps sp:=by let#[l,j,kV,e,i,h,cdv,m,g,J,c,b]:=F.ex;erw[yo1 c b S len λA outer s H vs Q E d a=>hbody cdv A outer s H vs Q E d a]
end
abbrev bmV:Ο:=[.type "ValueError",.type "Exception",.type "BaseException",.type "object"]
abbrev XMk(K:z3)(C:z4):Prop:=W.excIn K C bmV "ValueError.__new__"=true
set_option tactic.hygienic true in
mutual
def ys3{K:z3}{h:qg}{bmB:Ο}{newId:String}(X:K.In h)(q:W.excIn K C bmB newId=true):
  ∃bm N nm qn bs hdct sn sub ab col dd k0 k1 k2 k3 k5 mN,h.get? C=some (excClassObj nm qn C N bs bm hdct sn sub ab col dd k0 k1 k2 k3 k5 newId)/\h.Ns N mN/\mN "__init__"=none/\OwnTail h bmB bm:=by
 unfold W.excIn at q
 split at q
 .rename_i dd cd sl ho
  split at q
  .rename_i C' bm k0 k1 k2 k3 n k5 hm d
   simp only[cC,beq_iff_eq,Bool.not_eq_true']at q;let#[#[#[#[#[J,J],a],j],b],c]:=q;let#[nm,bs,f,i,qn,e,sn,sub,ab,col,g]:=cd;dsimp only at hm a b c;subst hm a;let⟨l⟩:=sl;have d:l=[k0,k1,k2,k3,some (.builtin n),k5]:=d;subst d;erw[bm,i,nm,qn,bs,e,sn,sub,ab,col,dd,k0,k1,k2,k3,k5,_,X _ _ ho,.of_isNs (W.isNs_of_in X b),W.nsMap_none_of_in X b c,W.tail_of_in X j]
  .cases q
 .cases q
def yru(E:XK)(C:z4)(t:TA):TS:=λZ σ H=>t σ H λvs H1=>vs.length<=sizeLine/\E (.ref C) none H1
def xa{w:qe}{K:z3}{mg:Ε}{base:qg}{N:Τ}{f:z4}{A:qf}{outer:qj Env}{s:qa}{H:Hp}{E:XK}
  {C:z4} {x:Str} {np cpos pos:Pos} {e₀:qh} {xt:qj qh} {t:TA} (hg:Gl ('y' E) x) (hm:mg x∣C) (hC:XMk K C)
  (ha:PA ('y' E) (e₀::xt) t)
  (he:↑(starEach (e₀::xt) (envOfC qual scope 'n' f cd)=(false,eval e₀ (envOfC qual scope 'n' f cd))::starEach xt (envOfC qual scope 'n' f cd)))
  (hplain:↑((backTo cpos (starEach xt (envOfC qual scope 'n' f cd))).any (·.1)=false)) (hdb:⇑'d'):
  PS ('y' E) (.Raise (some (.Call (.Name x np) (e₀::xt) [] cpos)) none pos) (yru E C t):=by
 erw[.mk λa p σ l D I h=>?_];let#[k,n,nm,q,bs,hdct,sn,sub,ab,col,dd,k0,k1,k2,k3,k5,mN,c,j,g,T]:=ys3 I.mod.kin hC;refine wpAny_Raise_call_subT (C:=C) (nm:=nm) (q:=q) (N:=n) (bs:=bs) (bm:=k) (hdct:=hdct) (sn:=sn) (sub:=sub) (ab:=ab) (col:=col) (dd:=dd) (k0:=k0) (k1:=k1) (k2:=k2) (k3:=k3) (k5:=k5)
  F.excBase_ValueError (mN:=mN) (T.hasType F.excBase_ValueError.hasBase) (I.ok.hd J) (by
   show (backTo cpos (starEach (e₀::xt) (envOfC qual scope 'n' f cd))).any (·.1)=false;rw[he];show (false || (backTo cpos (starEach xt (envOfC qual scope 'n' f cd))).any (·.1))=false;rw[hplain];rfl) g (θ I hg hm #[J,?_] hdb)
 let i:=ha cpos a p σ l _ I h;have d:starEach (e₀::xt) ('y' E).env=(false,eval e₀ ('y' E).env)::starEach xt ('y' E).env:=he;rw[d]at i⊢;erw[Calls.evalArgs_plain (dF i (by rintro B s₂ ⟨G,v,b,r,o,u⟩;erw[J,by rwa[<- r.length,o],b.bk _ _ c,j.keeps b.bk,T.keeps b.bk,λz y m=>ynf b m u]) λZ Z y=>y)]
end
section
mutual
variable{X:Cx}{σ:St}{H:Hp}{s:qa}{x T:z4}
noncomputable abbrev Cx.pnd(X:Cx)(pn:Θ):Cx:={X with pn:=pn}
theorem Cx.Ok.pnd(ok:X.Ok)(pn:Θ):(X.pnd pn).Ok :=
 #[ok.mod,ok.kind,ok.glob,ok.blt,ok.above,ok.inj,ok.has,ok.cab,ok.hd,ok.frames,ok.stk,ok.exf,ok.bs,ok.bsz,ok.noex,ok.exfs,ok.funs,ok.frf]
def Cx.Ok.unpnd{pn:Θ}(ok:(X.pnd pn).Ok):X.Ok :=
 #[ok.mod,ok.kind,ok.glob,ok.blt,ok.above,ok.inj,ok.has,ok.cab,ok.hd,ok.frames,ok.stk,ok.exf,ok.bs,ok.bsz,ok.noex,ok.exfs,ok.funs,ok.frf]
theorem Inv.pnd(I:'i' s):Inv (X.pnd (X.pn++pins)) [] σ H s :=
 #[I.ok.pnd _,I.os,I.bare,I.base,I.loc,I.cell,I.free,I.freeC,λp a=>I.pin p (by simpa using a),I.hok,I.len]
theorem Inv.unpnd{ps:Θ}(I:Inv (X.pnd (X.pn++pins)) ps σ H s):'i' s :=
 #[I.ok.unpnd,I.os,I.bare,I.base,I.loc,I.cell,I.free,I.freeC,λp a=>I.pin p (du _ a),I.hok,I.len]
def XT(Y:Cx)(Ex:St->XK)(e:qc)(s':qa):Prop:=∃pins σ H x T C d,e=.ref x/\Inv Y pins σ H s'/\Fy Y pins H x/\Fy Y pins H T/\Trd s'.heap x T C d/\Ex σ C d H
noncomputable abbrev Cx.tr(X:Cx)(pn:Θ)(Ex:St->XK):Cx:=(X.pnd pn).wish (XT (X.pnd pn) Ex)
def yoo{pn:Θ}{Ex:St->XK}:Ŋ (X.tr pn Ex) Ex:=λa σ H Z x T C d I b c tr q=>#[a,σ,H,x,T,C,d,J,I.unwish,b,c,tr,q]
noncomputable abbrev Cx.su(X:Cx)(pn:Θ)(x:z4):Cx:={X with A:=X.A.mark (some (.ref x)),calm:=false,pn:=pn,xe:=λZ Z=>False}
theorem Inv.su(I:'i' s)(x:z4):Inv (X.su (X.pn++pins) x) [] σ H s :=
 #[#[I.ok.mod,I.ok.kind,I.ok.glob,I.ok.blt,I.ok.above,I.ok.inj,I.ok.has,I.ok.cab,λz=>(by cases z),I.ok.frames,I.ok.stk,I.ok.exf,I.ok.bs,I.ok.bsz,I.ok.noex,I.ok.exfs,I.ok.funs,I.ok.frf],
  I.os,I.bare,I.base,I.loc,I.cell,I.free,I.freeC,λp a=>I.pin p (by simpa using a),I.hok,I.len]
def Inv.unsu(I:Inv (X.su (X.pn++pins) x) [] σ H s)(ok:X.Ok):'i' s :=
 #[ok,I.os,I.bare,I.base,I.loc,I.cell,I.free,I.freeC,λp a=>I.pin p (du _ a),I.hok,I.len]
def Inv.track{o:HO}(I:'i' s)(hx:Fy X pins H x)(ob:xq X.prog X.w (upd H x o) s.heap x o):Inv X pins σ (upd H x o) s:=by
 have d:∀{b u},H b=some u->b≠x:=λ{b u}e z=>by rw[z,hx.1]at e;cases e
 erw[I.ok,I.os,I.bare,#[I.base.keep,I.base.slot,λb ob e n g=>?_,I.base.there,λb h e=>?_,λb ob u e=>?_,λb i e=>?_],I.loc,I.cell,?_,λy c e=>?_,λp f=>?_,λb u e=>?_,I.len]
 .rw[yk ?_]
  .erw[I.base.free b ob e n g]
  .rintro rfl;rcases hx.2.2.2.1 with z|z
   .erw[g z]
   .rw[e]at z;cases z
 .let q:=I.base.tups b h e;rwa[yk (d q),q]
 .let q:=I.base.frzs b ob u e;rwa[yk (d q),q]
 .let#[a,q]:=I.base.tbls b i e;erw[a,by rwa[yk (d q),q]]
 .rw[yk (Ne.symm hx.2.1)];erw[I.free]
 .rw[yk (hx.2.2.2.2.1 y c e)];erw[I.freeC y c e]
 .let#[e,n,q]:=I.pin p f;erw[e,by rwa[yk (hx.2.2.2.2.2 p f),n],q]
 .by_cases hb:b=x
  .subst hb;rw[ya]at e;cases e;erw[ob]
  .rw[yk hb]at e;erw[(I.hok b u e).stay (λZ Z Z q=>q) (λc q=>by rwa[yk (d q),q]) λc h q=>by rwa[yk (d q),q]]
def Inv.unbind{A:qf}{i:Nat}{n:Str}{pos:Pos}{Q:Unit->qa->Prop}(I:'i' s)(hN:X.N.Nodup)(hi:X.N[i]?=some n)(hl:X.env.scope.names.lookup n=some .local)
  (h:∀s',Inv X pins (σ.set i none) H s'->Q ⟨⟩ s'):wpAny M A (do bindName X.env n .none;unbindBehindTheSuite X.env n pos) Q E s:=by
 let#[m,F,B]:=id I.loc;let#[Y,_,_,T,_]:=id F;have a:∀b o,X.s₀.heap.get? b=some o->b≠X.env.locals:=λb o e=>cY (cR (cB e) I.ok.above);erw[wpAny_nameGoes_keeps hl F (by rw[I.ok.kind];rfl) λW v x f=>h _ #[I.ok,I.os,I.bare,#[λb o e n w l=>?_,λb o e n w l=>?_,I.base.free,λb o e l=>?_,I.base.tups,I.base.frzs,I.base.tbls],#[_,x,λj y ς g r S=>?_],λy c e=>?_,I.free,I.freeC,λp P=>?_,λb u e=>?_,by simpa using I.len]]
 .erw[(f.2 b (a b o e)).trans (I.base.keep b o e n w l)]
 .let#[K,g]:=I.base.slot b o e n w l;erw[K,(f.2 b (a b o e)).trans g]
 .let#[R,g]:=I.base.there b o e l;erw[R,(f.2 b (a b o e)).trans g]
 .by_cases hj:j=i
  .subst hj;have:j<σ.length:=by rw[I.len];exact(ck.mp hi).1
   rw[List.getElem?_set_self this]at r;cases r
  .rw[List.getElem?_set_ne (Ne.symm hj)]at r;let#[O,G,q]:=B j y ς g r S;erw[O,G,?_];rcases q with⟨k,e⟩|⟨k,c,e,z⟩
   .have:y≠n:=λz=>hj (yaj hN g (z ▸ hi));erw[.inl #[k,by simp[this,e]]]
   .erw[.inr #[k,c,e,z.sameBut f (I.cne y c e)]]
 .let#[C,z]:=I.cell y c e;erw[C,z.sameBut f (I.cne y c e)]
 .let#[e,L,D,U,d]:=I.pin p P;erw[(f.2 p.1 D).trans e,L,D,U,d]
 .erw[(I.hok b u e).stay (λc C t q=>(f.2 c ?_).trans q) (λZ q=>q) λZ Z q=>q];rintro rfl;rcases t with rfl|t
  .rw[I.free]at e;cases e
  .rw[I.free]at t;cases t
end
end
mutual
variable{X:Cx}
noncomputable def ç.un(D:ç)(i:Nat):ç:=#[λσ H=>D.nx (σ.set i none) H,D.rt,λσ H=>D.bk (σ.set i none) H,λσ H=>D.ct (σ.set i none) H]
def exT(K:z3)(D:z4)(i:Nat)(ts:TS)(En:ç):St->XK:=λσ' C Z H'=>∀x,H' x=none->∃Ca,C=.ref Ca/\W.exmOne K (.ref Ca) (.ref D)=some true/\ts (En.un i) (σ'.set i (some (.ref x))) (upd H' x (.ext (yc1 x Ca)))
def vjk(K:z3)(D:z4)(i:Nat)(tb:(St->XK)->TS)(ts:TS):TS:=λEn σ H=>tb (exT K D i ts En) En σ H
end
section
variable{body suite:qj qd}{b₀:qd}{tx n:Str}{np hpos pos:Pos}{i:Nat}{tb:(St->XK)->TS}{ts:TS}
def vaw(hb:∀pn Ex,PSs (X.tr pn Ex) body (tb Ex))(hst:X.stack=X.env::X.outer/\X.env.frame=some X.env.locals)(hg:Gl X tx)(hm:X.mg tx∣D)
  (hs:∀pn x,PSs (X.su pn x) (b₀::suite) ts) (hN:X.N.Nodup) (hi:X.N[i]?=some n) (hl:X.env.scope.names.lookup n=some .local) (hdb:⇑((tx == ("__debug__":Str))=false)):
  PS X (.Try body [.ExceptHandler (some (.Name tx np)) (some n) (b₀::suite) hpos] [] [] pos) (vjk X.K D i tb ts):=by
 erw[.mk λa s σ H y I h=>?_]
 have G:∀{f B},SP (X.tr (X.pn++a) (exT X.K D i ts y)) [] y f B->SP X a y f B:=λ{f B}q=>by
  cases f with
  |next=>let⟨σ',j,ς,q⟩:=q;erw[σ',j,ς.unwish.unpnd,q]
  |brk=>let⟨σ',j,ς,q⟩:=q;erw[σ',j,ς.unwish.unpnd,q]
  |cont=>let⟨σ',j,ς,q⟩:=q;erw[σ',j,ς.unwish.unpnd,q]
  |ret u=>let⟨v,σ',j,ς,r,q⟩:=q;erw[v,σ',j,ς.unwish.unpnd,r,q]
 erw[wpAny_Try_except (dF (hb (X.pn++a) (exT X.K D i ts y) [] s σ H y (I.pnd.wish _) h) (λf Y q=>?_) λe Y q=>?_)]
 .let q:=G q
  cases f with
  |next=>erw[wpAny_execs_nil q]
  |brk=>erw[q]
  |cont=>erw[q]
  |ret u=>erw[q]
 .let#[ps,σ',j,x,T,C,d,J,ς,g,c,tr,q]:=q;have ς:Inv X a σ' j Y:=ς.unpnd;have g:Fy X a j x:=#[g.1,g.2.1,g.2.2.1,g.2.2.2.1,g.2.2.2.2.1,λp Q=>g.2.2.2.2.2 p (du _ Q)];have c:Fy X a j T:=#[c.1,c.2.1,c.2.2.1,c.2.2.2.1,c.2.2.2.2.1,λp Q=>c.2.2.2.2.2 p (du _ Q)];let#[O,J,S,q]:=q x g.1;erw[yd0 ς.ok.frames hst.1 hst.2 ς g c tr λs2 T2 ς c tr=>j8 ς g c tr λZ T3 ς c tr=>?_];refine wpAny_handleBy_cons (codeAny_handlers_test (θ (ς.su x) hg hm ?_ hdb)) 'z'
  have E:yc1 x O Z.heap:=by
   let#[L,_,_,_,_,U,P,_]:=id tr;erw[L,U,P.1]
  erw[W.exm_one (M:=model X.prog X.w) (h:=Z.heap) ς.kIn E.type S _ _ _ _ (λF F z=>z) ?_];dsimp only[if_true];erw[codeAny_handlers_suite_as ?_,<-j8 ς g c tr λs4 T4 ς c tr=>?_]
  have A:yc1 x O s4.heap:=by
   let#[L,_,_,_,_,U,P,_]:=id tr;erw[L,U,P.1]
  let ς:=ς.track (o:=.ext (yc1 x O)) g #[A,let ⟨R,z,_⟩:=A;#[R,z],λh1 h2 ⟨R,z1,z2⟩ k=>#[R,k _ z1,z2]];erw[yao (X:=X.su (X.pn++a) x) (i:=i) (v:=V.ref x) (ς.su x) hN hi (Or.inl hl) J (λs5 J5=>?_) (Or.inr hl),<-dF (hs (X.pn++a) x [] s5 _ _ (y.un i) J5 q) (λf s6 q=>?_) λF F z=>False.elim z]
  cases f with
  |next=>let⟨σ6,l,m,q⟩:=q;erw[(m.unsu I.ok).unbind hN hi hl λF t=>#[_,l,t,q]]
  |brk=>let⟨σ6,l,m,q⟩:=q;erw[(m.unsu I.ok).unbind hN hi hl λF t=>#[_,l,t,q]]
  |cont=>let⟨σ6,l,m,q⟩:=q;erw[(m.unsu I.ok).unbind hN hi hl λF t=>#[_,l,t,q]]
  |ret u=>let⟨v,σ6,l,m,r,q⟩:=q;erw[(m.unsu I.ok).unbind hN hi hl λF t=>#[v,_,l,t,r,q]]
end
section
mutual
variable{σ:St}{H:Hp}{Q:VK}{tr:TA}{ta:TE}{nx:Ζ}{rt:VK}{bk ct:Ζ}{ts:TS}
def yux{sp:Sp}{dvs:Υ}{Ex:St->XK}(h:tr σ H λvs H1=>sp (vs++dvs) H1 Q (Ex σ)):ykw sp dvs Ex tr σ H Q:=h
def ya5{m:Str}{sp:Sp}{dvs:Υ}{Ex:St->XK}(h:ta σ H λx H1=>∃a dx fs,x=.ref a/\H1 a∩C dx fs/\fs.lookup m=none/\tr σ H1 λvs H2=>sp (x::(vs++dvs)) H2 Q (Ex σ)):ycj C m sp dvs Ex ta tr σ H Q:=h
def ytv{sp:Sp}{dvs:Υ}{Ex:St->XK}(h:tr σ H λvs H1=>∀x dx,H1 x=none->H1 dx=none->dx≠x->sp (.ref x::(vs++dvs)) (upd (upd H1 dx (.own x)) x (.ins C dx [])) (λv H2=>v=.non/\Q (.ref x) H2) (Ex σ)):yrn C sp dvs Ex tr σ H Q:=h
def yth{E:XK}{D:ç}(h:tr σ H λvs H1=>vs.length<=sizeLine/\E (.ref C) none H1):yru E C tr D σ H:=h
def vha{K:z3}{i:Nat}{tb:(St->XK)->TS}(h:tb (exT K D i ts #[nx,rt,bk,ct]) #[nx,rt,bk,ct] σ H):vjk K D i tb ts #[nx,rt,bk,ct] σ H:=h
def ywx{K:z3}{i:Nat}{d:ql z4}(he:W.exmOne K (.ref C) (.ref D)=some true)(h:∀x,H x=none->ts #[λσ H=>nx (σ.set i none) H,rt,λσ H=>bk (σ.set i none) H,λσ H=>ct (σ.set i none) H] (σ.set i (some (.ref x))) (upd H x (.ext (yc1 x C)))):
  exT K D i ts #[nx,rt,bk,ct] σ (.ref C) d H:=λx a=>#[C,J,he,h x a]
def viq{K:z3}{x:z4}{cv:V}{c:qc}{k:Bool}(hx:H x=some (.ext (yc1 x C)))(cl:XCls K C)(r:xr cv c)(u:∀u,xr cv u->u=c)(e:W.kitOne K (.ref C) c=some k)(h:Q (.bl k) H):yw9 K [.ref x,cv] H Q:=#[x,cv,C,c,k,J,r,u,hx,cl,e,h]
def Þ{K:z3}{x:z4}{k:Bool}(hx:H x=some (.ext (yc1 x C)))(cl:XCls K C)(e:W.kitOne K (.ref C) (.ref D)=some k)(h:Q (.bl k) H):yw9 K [.ref x,.ref D] H Q:=viq hx cl J (λZ z=>z) e h
end
end
section
mutual
variable{κ:Type}[DecidableEq κ]
noncomputable def jn(kvs:qj (κ×V))(k:κ):Ψ:=(kvs.find? λkv=>decide (kv.1=k)).map (·.2)
noncomputable def ya9(kvs:qj (κ×V))(k:κ)(v:V):qj (κ×V) :=
 if (kvs.any λkv=>decide (kv.1=k))=true then kvs.map (λkv=>if kv.1=k then (kv.1,v)else kv)else kvs++[(k,v)]
noncomputable def ã(kvs:qj (κ×V))(k:κ):qj (κ×V):=kvs.filter λkv=>decide (kv.1≠k)
def uf{p:κ×V}{r:qj (κ×V)}{k:κ}(e:p.1=k):jn (p::r) k=some p.2:=by simp[jn,List.find?_cons,e]
def ue{p:κ×V}{r:qj (κ×V)}{k:κ}(e:¬p.1=k):jn (p::r) k=jn r k:=by simp[jn,List.find?_cons,e]
theorem ρ(k:κ):∀kvs:qj (κ×V),(kvs.any λkv=>decide (kv.1=k))=(jn kvs k).isSome
 |[]=>rfl
 |p::r=>by
  rw[List.any_cons];by_cases e:p.1=k
  .simp only[uf e,cg e,Bool.true_or,Option.isSome_some]
  .rw[ue e,cj e,Bool.false_or];erw[ρ k r]
theorem ye0(k j:κ)(y:V):∀kvs:qj (κ×V),jn (kvs.map λkv=>if kv.1=k then (kv.1,y)else kv) j=(jn kvs j).map λx=>if j=k then y else x
 |[]=>rfl
 |p::r=>by
  let a:=ye0 k j y r;rw[cX];by_cases h:p.1=k
  .rw[if_pos h];by_cases e:p.1=j
   .rw[uf (p:=(p.1,y)) e,uf e,dL,if_pos (e.symm.trans h)]
   .rw[ue (p:=(p.1,y)) e,ue e,a]
  .rw[if_neg h];by_cases e:p.1=j
   .rw[uf (p:=p) e,uf e,dL,if_neg (λz=>h (e.trans z))]
   .rw[ue (p:=p) e,ue e,a]
theorem yb5(k j:κ)(y:V):∀kvs:qj (κ×V),jn kvs k=none->jn (kvs++[(k,y)]) j=if j=k then some y else jn kvs j
 |[],_=>by
  by_cases e:k=j
  .rw[if_pos e.symm];erw[uf (p:=(k,y)) e]
  .rw[if_neg (λz=>e z.symm)];erw[ue (p:=(k,y)) e]
 |p::r,hn=>by
  rw[List.cons_append];have a:¬p.1=k:=λz=>by rw[uf z]at hn;cases hn
  rw[ue a]at hn;let b:=yb5 k j y r hn;by_cases e:p.1=j
  .rw[uf e,uf e,if_neg (λz=>a (e.trans z))]
  .rw[ue e,ue e,b]
def yam(kvs:qj (κ×V))(k j:κ)(y:V):jn (ya9 kvs k y) j=if j=k then some y else jn kvs j:=by
 unfold ya9;by_cases a:(kvs.any λb=>decide (b.1=k))=true
 .rw[if_pos a,ye0];rw[ρ]at a;by_cases e:j=k
  .let#[x,c]:=Option.isSome_iff_exists.mp a;rw[if_pos e,e,c,dL,if_pos J]
  .rw[if_neg e]
   cases jn kvs j with
   |none=>rfl
   |some x=>rw[dL,if_neg e]
 .rw[if_neg a];erw[yb5 k j y kvs ?_];rw[ρ]at a
  cases q:jn kvs k with
  |none=>rfl
  |some x=>rw[q]at a;erw[(a J).elim]
def Ĝ(kvs:qj (κ×V))(k:κ)(v:V):(ya9 kvs k v).length<=kvs.length+1:=by
 unfold ya9
 split
 .rw[bw];omega
 .rw[bY,cD,List.length_nil];omega
def π{kvs:qj (κ×V)}{k:κ}(v:V)(h:jn kvs k=none):ya9 kvs k v=kvs++[(k,v)]:=by unfold ya9;rwa[ρ,h,if_neg ∅]
def ycy.isSome_eq{o:Ψ}{u:ql qc}(r:ycy o u):o.isSome=u.isSome:=by
 cases o with
 |none=>cases u with
  |none=>rfl
  |some _=>erw[(show False from r).elim]
 |some _=>cases u with
  |none=>erw[(show False from r).elim]
  |some _=>rfl
def KV.val{kvs:qj (κ×V)}{vs:qj (κ×qc)}(r:KV kvs vs)(k:κ):ycy (jn kvs k) (valueAt vs k):=by
 unfold KV at r
 induction r with
 |nil=>erw[True.intro]
 | @cons p q ps qs h t ih =>
  let#[c,d]:=h;by_cases e:p.1=k
  .have a:q.1=k:=c.symm.trans e;have b:valueAt (q::qs) k=some q.2:=by simp[valueAt,List.find?_cons,a]
   rwa[uf e,b,d]
  .have a:¬q.1=k:=λz=>e (c.trans z);have b:valueAt (q::qs) k=valueAt qs k:=by simp[valueAt,List.find?_cons,a]
   rwa[ue e,b,ih]
theorem KV.any{kvs:qj (κ×V)}{vs:qj (κ×qc)}(r:KV kvs vs)(k:κ):(kvs.any λkv=>decide (kv.1=k))=vs.any λkv=>decide (kv.1=k):=by
 unfold KV at r
 induction r with
 |nil=>rfl
 |cons h t ih=>rw[List.any_cons,List.any_cons,ih,h.1]
def KV.repl{kvs:qj (κ×V)}{vs:qj (κ×qc)}(r:KV kvs vs)(k:κ){y:V}(ry:xr y u):
  KV (kvs.map λkv=>if kv.1=k then (kv.1,y)else kv) (vs.map λkv=>if kv.1=k then (kv.1,u)else kv):=by
 unfold KV at r⊢
 induction r with
 |nil=>erw[.nil]
 | @cons p q ps qs h t ih =>
  rwa[cX,cX,.cons ?_ ih];let#[a,b]:=h;by_cases e:p.1=k
  .rw[if_pos e,if_pos (a.symm.trans e)];erw[a,ry]
  .rw[if_neg e,if_neg (λz=>e (a.trans z))];erw[a,b]
def KV.put{kvs:qj (κ×V)}{vs:qj (κ×qc)}(r:KV kvs vs)(k:κ){y:V}(ry:xr y u):KV (ya9 kvs k y) (stored vs k u):=by
 unfold ya9 stored;rw[r.any k];by_cases e:(vs.any λa=>decide (a.1=k))=true
 .rw[if_pos e,if_pos e];erw[r.repl k ry]
 .rw[if_neg e,if_neg e];erw[Paired.snoc r #[J,ry]]
def KV.drop{kvs:qj (κ×V)}{vs:qj (κ×qc)}(r:KV kvs vs)(k:κ):KV (ã kvs k) (without vs k):=by
 unfold KV at r⊢;unfold ã without
 induction r with
 |nil=>erw[.nil]
 | @cons p q ps qs h t ih =>
  let#[c,d]:=h;rw[List.filter_cons,List.filter_cons];by_cases e:p.1=k
  .have a:¬decide (p.1≠k)=true:=by simp[e]
   have b:¬decide (q.1≠k)=true:=by simp[c.symm.trans e]
   rwa[if_neg a,if_neg b,ih]
  .have f:¬q.1=k:=λz=>e (c.trans z);have a:decide (p.1≠k)=true:=by simp[e]
   have b:decide (q.1≠k)=true:=by simp[f]
   rwa[if_pos a,if_pos b,.cons #[c,d] ih]
theorem KV.length{kvs:qj (κ×V)}{vs:qj (κ×qc)}(r:KV kvs vs):kvs.length=vs.length:=Paired.length r
def yn5(kvs:qj (κ×V))(k:κ):(ã kvs k).length<=kvs.length:=List.length_filter_le _ _
end
end
mutual
def yhn{w:qe}{k:Key}(r:xr (kV k) u):(wx P w).is k u=true:=by
 cases k with
 |inl i=>let⟨t,e⟩:=(show ∃t,u=Value.int i t from r);subst e;erw[yc2 P w i t]
 |inr x=>let⟨t,e⟩:=(show ∃t,u=Value.str x t from r);subst e;erw[yc7 P w x t]
theorem ybz{w:qe}:∀{ks:qj Key}{us:Ο},w8 (ks.map kV) us->ItemsAre (wx P w) ks us
 |[],_,r=>by rw[List.map_nil]at r;cases r;erw[.nil]
 |k::ks,_,r=>by
  rw[cX]at r
  cases r with
  |cons h t=>erw[.cons (yhn h) (ybz t)]
abbrev KT(H:Hp):qj (qj Key×V)->qj (qj Key×z4×qc)->Prop:=Paired λp q=>p.1=q.1/\H q.2.1∪(p.1.map kV)/\xr p.2 q.2.2
def KT.val{H:Hp}{kvs:qj (qj Key×V)}{xs:qj (qj Key×z4×qc)}(r:KT H kvs xs)(k:qj Key):ycy (jn kvs k) ((atKey xs k).map (·.2)):=by
 induction r with
 |nil=>erw[True.intro]
 | @cons p q ps qs h t ih =>
  let#[c,_,d]:=h;by_cases e:p.1=k
  .have a:q.1=k:=c.symm.trans e;have b:atKey (q::qs) k=some q.2:=by simp[atKey,List.find?_cons,a]
   rwa[uf e,b,d]
  .have a:¬q.1=k:=λz=>e (c.trans z);have b:atKey (q::qs) k=atKey qs k:=by simp[atKey,List.find?_cons,a]
   rwa[ue e,b,ih]
def KT.repl{H:Hp}{kvs:qj (qj Key×V)}{xs:qj (qj Key×z4×qc)}(r:KT H kvs xs)(k:qj Key){y:V}(ry:xr y u):
  KT H (kvs.map λkv=>if kv.1=k then (kv.1,y)else kv) (xs.map (putAt k u)):=by
 induction r with
 |nil=>erw[.nil]
 | @cons p q ps qs h t ih =>
  rwa[cX,cX,.cons ?_ ih];let#[a,b,c]:=h;unfold putAt;by_cases e:p.1=k
  .rw[if_pos e,if_pos (a.symm.trans e)];erw[a,b,ry]
  .rw[if_neg e,if_neg (λz=>e (a.trans z))];erw[a,b,c]
def KT.put{H:Hp}{kvs:qj (qj Key×V)}{xs:qj (qj Key×z4×qc)}(r:KT H kvs xs)(k:qj Key){b:z4}{y:V}(hb:H b∪(k.map kV))(ry:xr y u):
  KT H (ya9 kvs k y) (storedH xs k b u):=by
 have e:(kvs.any λa=>decide (a.1=k))=(atKey xs k).isSome:=by
  rw[ρ,(r.val k).isSome_eq,Option.isSome_map]
 unfold ya9 storedH;rw[e];by_cases q:(atKey xs k).isSome=true
 .rw[if_pos q,if_pos q];erw[r.repl k ry]
 .rw[if_neg q,if_neg q];erw[Paired.snoc r #[J,hb,ry]]
def KT.keeps{H H':Hp}{kvs:qj (qj Key×V)}{xs:qj (qj Key×z4×qc)}(r:KT H kvs xs)(ht:∀b ys,H b∪ys->H' b∪ys):KT H' kvs xs :=
 Paired.mapP r λZ Z z=>#[z.1,ht _ _ z.2.1,z.2.2]
end
section
mutual
variable{w:qe}{H:Hp}{h:qg}
def vfu{u:HO}(ok:HOk P w H h)(e:Rd H a u):xq P w H h a u:=e.ok ok
def yej{kvs:Κ}(ok:HOk P w H h)(e:Rd H a (.dK kvs)):kvs.length<=sizeLine/\(a == sysModules)=false/\∃vs,KV kvs vs/\h.DictOf (wx P w) a vs :=
 show xq P w H h a (.dK kvs)from vfu ok e
def vfc{kvs:Κ}(ok:HOk P w H h)(e:H a=some (.dK kvs)):kvs.length<=sizeLine/\(a == sysModules)=false/\∃vs,KV kvs vs/\h.DictOf (wx P w) a vs:=yej ok (.inl e)
def ycq{ks:qj Key}(ok:HOk P w H h)(e:H a∪(ks.map kV)):(tupleKind (wx P w)).is h ks a:=by let#[_,b,r,o,f,c,n,d]:=(show xq P w H h a (.tup (ks.map kV))from ok a _ e);erw[o,b.toArray,n,f,c,d,by simpa using ybz r]
def yhl{kvs:qj (qj Key×V)}(ok:HOk P w H h)(e:Rd H a (.dT kvs)):kvs.length<=sizeLine/\(a == sysModules)=false/\
  ∃xs,KT H kvs xs/\h.DictOfH (tupleKind (wx P w)) a xs:=by
 let#[z,y,xs,r,o,j,d,i,f,n,g,k]:=(show xq P w H h a (.dT kvs)from vfu ok e);erw[z,y,xs,r,o,j,d,i,f,n,g,λx b=>?_,k]
 have c:∀{l:qj (qj Key×V)}{m:qj (qj Key×z4×qc)},KT H l m->∀x∈m,(tupleKind (wx P w)).is h x.1 x.2.1:=by
  intro l m q
  induction q with
  |nil=>intro x b;erw[nomatch b]
  | @cons p q ps qs hq t ih =>
   intro x b;rcases cr.mp b with e|b
   .subst e;erw[ycq ok (by rwa[<- hq.1,hq.2.1])]
   .erw[ih x b]
 erw[c r x b]
def vg9{kvs:qj (qj Key×V)}(ok:HOk P w H h)(e:H a=some (.dT kvs)):kvs.length<=sizeLine/\(a == sysModules)=false/\
  ∃xs,KT H kvs xs/\h.DictOfH (tupleKind (wx P w)) a xs:=yhl ok (.inl e)
end
end
mutual
def Ļ(H:Hp)(a:z4)(y:V)(r:Ψ):Prop :=
 (∃kvs k,Rd H a (.dK kvs)/\y=kV k/\r=jn kvs k)\/∃kvs k b,Rd H a (.dT kvs)/\y=.ref b/\H b∪(k.map kV)/\r=jn kvs k
def yhs(H:Hp)(a:z4)(y v:V)(H':Hp):Prop :=
 (∃kvs k,H a=some (.dK kvs)/\y=kV k/\kvs.length<sizeLine/\H'=upd H a (.dK (ya9 kvs k v))) \/
 ∃kvs k b,H a=some (.dT kvs)/\y=.ref b/\H b∪(k.map kV)/\kvs.length<sizeLine/\H'=upd H a (.dT (ya9 kvs k v))
theorem Ļ.k{H:Hp}{kvs:Κ}{k:Key}(e:H a=some (.dK kvs)):Ļ H a (kV k) (jn kvs k):=.inl #[kvs,k,.inl e,J,J]
def Ļ.t{H:Hp}{b:z4}{kvs:qj (qj Key×V)}{k:qj Key}(e:H a=some (.dT kvs))(eb:H b∪(k.map kV)):Ļ H a (.ref b) (jn kvs k):=.inr #[kvs,k,b,.inl e,J,eb,J]
theorem yhs.k{H:Hp}{kvs:Κ}{k:Key}{v:V}(e:H a=some (.dK kvs))(hl:kvs.length<sizeLine):yhs H a (kV k) v (upd H a (.dK (ya9 kvs k v))):=.inl #[kvs,k,e,J,hl,J]
def yhs.t{H:Hp}{b:z4}{kvs:qj (qj Key×V)}{k:qj Key}{v:V}(e:H a=some (.dT kvs))(eb:H b∪(k.map kV))(hl:kvs.length<sizeLine):
  yhs H a (.ref b) v (upd H a (.dT (ya9 kvs k v))):=.inr #[kvs,k,b,e,J,eb,hl,J]
end
section
mutual
variable{σ:St}{H:Hp}{s:qa}{y v:V}{r:qc}{o:Ψ}{A:qf}
def Inv.big(I:'i' s):sysModules<'n':=by have h:mainGlobals<'n':=(I.mod.glob.keeps I.bk).lt;erw[Nat.lt_trans ∅ h]
def yil(hu:A.units+1<cLine)(I:'i' s)(g:Ļ H a y (some v))(ry:xr y u)(h:∀w' s','i' s'->xr v w'->Q w' s'):
  wpAny (model X.prog X.w) A (getItem (.ref a) u) Q E s:=by
 rcases g with⟨i,k,e,j,l⟩|⟨i,k,b,e,j,B,l⟩
 .subst j;let#[z,q,t,d,n]:=yej I.hok e;let#[w',f,c]:=ycy.some_of (v:=v) (o:=valueAt t k) (by rwa[l,d.val k]);erw[wpAny_getItem_of (yhn ry) n.mapOf f (h w' _ (I.tok _) c)]
 .subst j;cases (show u=Value.ref b from ry);let#[z,q,x,d,n]:=yhl I.hok e;let#[w',f,c]:=ycy.some_of (v:=v) (o:=(atKey x k).map (·.2)) (by rwa[l,d.val k]);let#[p,r,m]:=dI.mp f;erw[wpAny_getItem_heap (tupleKind_room_in1 hu) (ycq I.hok B) n r ?_];rwa[m,h w' _ (I.tok _) c]
def vk2(hu:A.units+1<cLine)(I:'i' s)(g:Ļ H a y o)(ry:xr y u)(h:∀s','i' s'->Q (.bool o.isSome) s'):
  wpAny (model X.prog X.w) A (compareOp .In u (.ref a)) Q E s:=by
 rcases g with⟨f,k,e,i,l⟩|⟨f,k,b,e,i,m,l⟩
 .subst i;let#[z,d,n,c,j]:=yej I.hok e;erw[wpAny_in_of (yhn ry) d j.mapOf ?_];rwa[<- (c.val k).isSome_eq,<- l,h _ (I.tok _)]
 .subst i;cases (show u=Value.ref b from ry);let#[z,d,p,c,j]:=yhl I.hok e;erw[wpAny_in_heap (tupleKind_room_in1 hu) (ycq I.hok m) d j ?_];let q:=(c.val k).isSome_eq;rw[Option.isSome_map]at q;rwa[<- q,<- l,h _ (I.tok _)]
def yvy(hu:A.units+1<cLine)(I:'i' s)(g:Ļ H a y o)(ry:xr y u)(h:∀s','i' s'->Q (.bool (!o.isSome)) s'):
  wpAny (model X.prog X.w) A (compareOp .NotIn u (.ref a)) Q E s:=by
 rcases g with⟨f,k,e,i,l⟩|⟨f,k,b,e,i,m,l⟩
 .subst i;let#[z,d,n,c,j]:=yej I.hok e;erw[wpAny_notIn_of (yhn ry) d j.mapOf ?_];rwa[<- (c.val k).isSome_eq,<- l,h _ (I.tok _)]
 .subst i;cases (show u=Value.ref b from ry);let#[z,d,p,c,j]:=yhl I.hok e;erw[wpAny_notIn_heap (tupleKind_room_in1 hu) (ycq I.hok m) d j ?_];let q:=(c.val k).isSome_eq;rw[Option.isSome_map]at q;rwa[<- q,<- l,h _ (I.tok _)]
def ydx{t':Nat}{ob:HO}(I:'i' s)(mu:Mut (H a))(hs:Heap.SameBut a s.heap h')(he:∃q,h'.get? a=some q)(new:xq X.prog X.w (upd H a ob) h' a ob):
  Inv X pins σ (upd H a ob) {s with heap:=h',toks:=t'} :=
 I.write (x:=a) (e:=a) mu (.inl J) (λb q c z=>(hs.2 b c).trans z) he new
def ypw{w:qe}{H':Hp}{kvs:Κ}{vs:qj (Key×qc)}(z:kvs.length<=sizeLine)(hd:(a == sysModules)=false)(rel:KV kvs vs)(dd:h'.DictOf (wx P w) a vs):
  xq P w H' h' a (.dK kvs):=#[z,hd,vs,rel,dd]
def yib{H':Hp}{Q:Unit->qa->Prop}(hu:A.units+1<cLine)(I:'i' s)(g:yhs H a y v H')(ry:xr y u)(rv:xr v r)(h:∀s',Inv X pins σ H' s'->Q ⟨⟩ s'):
  wpAny (model X.prog X.w) A (setItem (.ref a) u r) Q E s:=by
 rcases g with⟨d,k,e,B,l,n⟩|⟨d,k,b,e,B,F,l,n⟩
 .subst B n;let#[z,m,ς,f,x]:=vfc I.hok e;have o:ς.length<=sizeLine:=by rw[<- f.length];exact z
  have p:(ya9 d k v).length<=sizeLine:=by have:=Ĝ d k v;omega
  erw[wpAny_setItem_pairs (hsz:=o) (yhn ry) x λD i t=>h _ ?_];have R:∃q,D.get? a=some q:=let ⟨q,_,_,j,_⟩:=i;#[q,j];erw[ydx I (by rwa[e,True.intro]) t R (ypw p m (f.put k rv) i)]
 .subst B n;cases (show u=Value.ref b from ry);let#[z,m,M,f,x]:=vg9 I.hok e;have o:M.length<=sizeLine:=by rw[<- Paired.length f];exact z
  have p:(ya9 d k v).length<=sizeLine:=by have:=Ĝ d k v;omega
  erw[wpAny_setItem_heap (hsz:=o) (tupleKind_room_in1 hu) (ycq I.hok F) x λD i t=>h _ ?_];let#[q,N,P,j,G,O,K,_,L]:=i;erw[ydx I (by rwa[e,True.intro]) t #[q,j] #[p,m,_,(f.put k F rv).keeps λc S C=>?_,q,N,P,j,G,O,K,L]]
  rw[yk (xf C e (λz=>nomatch z))]
  erw[C]
end
end
section
variable{σ:St}{H:Hp}{s:qa}{kvs:Κ}{k:Key}{A:qf}
def vg8{v:V}{more:Ο}(I:'i' s)(e:H a=some (.dK kvs))(ry:xr (kV k) u)(l:jn kvs k=some v)(hm:more=[]\/∃x,more=[x])
  (h:∀w' s',Inv X pins σ (upd H a (.dK (ã kvs k))) s'->xr v w'->Q w' s'):wpAny (model X.prog X.w) A (call (.builtin "dict.pop") (.ref a::u::more)) Q E s:=by
 let#[z,j,f,b,g]:=vfc I.hok e;let#[w',m,d]:=ycy.some_of (v:=v) (o:=valueAt f k) (by rwa[<- l,b.val k])
 have n:(keyPart u).isSome=true:=by
  cases k with
  |inl i=>let⟨t,q⟩:=(show ∃t,u=Value.int i t from ry);subst q;rfl
  |inr x=>let⟨t,q⟩:=(show ∃t,u=Value.str x t from ry);subst q;rfl
 have r:argsOk "dict.pop" #[.ref a::u::more,[]]:=by
  rcases hm with q|⟨x,q⟩
  .subst q;erw[PySem.F.args_dict_pop_2 _ _]
  .subst q;erw[PySem.F.args_dict_pop_3 _ _ _]
 refine call_meetsIn PySem.F.slot_dict_pop g.typeIs PySem.F.entry_dict_pop r (meets_dict_pop_there (wx X.prog X.w) a (yhn ry) more hm n)
  #[f,w',g,by rwa[<- b.length,z],m,λp c B=>h w' _ ?_ d]
 have y:∃q,p.get? a=some q:=let ⟨q,_,_,hq,_⟩:=c;#[q,hq];erw[ydx I (by rwa[e,True.intro]) B y (ypw (cO (yn5 kvs k) z) j (b.drop k) c)]
def vig(I:'i' s)(e:Rd H a (.dK kvs))(h:∀t s','i' s'->Q (.int kvs.length t) s'):wpAny (model X.prog X.w) A (call (.builtin "len") [.ref a]) Q E s:=by let#[z,c,f,b,d]:=yej I.hok e;erw[call_len_dict c d (by rw[<- b.length];rw[sizeLine_eq]at z;omega) ?_];rwa[<- b.length,h _ _ (I.tok _)]
end
mutual
def vjz(i:qh):Prop:=∀ov iv,subscripted i false ov iv=operate [ov,iv] (getItem ov iv)
def ywe{prog:qi}{w:qe}{A:qf}{s:qa}{env:Env}{value slice:qh}{pos:Pos}{T id:String} 
  (hl:typeLookup (.type T) "__getitem__"=pure (some (.builtin id))) (hs:vjz slice)
  (h:wpAny (model prog w) A (eval value env) (λo s₁=>wpAny (model prog w) A (eval slice env) (λi s₂=>s₂.TypeIs o T/\wpAny (model prog w) A (getItem o i) Q E s₂) E s₁) E s):
  wpAny (model prog w) A (eval (.Subscript value slice pos) env) Q E s:=by
 erw[Subscript_ (dF h (λo s₁ h₁=>dF h₁ (λi s₂ h₂=>?_) λZ Z x=>x) λZ Z x=>x)];let#[b,h₂]:=h₂;unfold subscriptTail;erw[bX ?_];rwa[getitemInPython_of_ne b.not_modules,bX (wpAny_specialOf b hl ?_)]
 have a:wpAny (model prog w) A (subscripted slice false o i) (λr s₃=>wpAny (model prog w) A (letTemporaryGo value o r >>=λZ=>pure r) Q E s₃) E s₂:=by
  rwa[hs o i,wpAny_operating (dF h₂ (λr s₃ h₃=>bX (wpAny_letTemporaryGo (cq h₃))) λZ Z x=>x)]
 first
  |erw[cq (bX a)]
  |erw[bX (cq (bX a))]
  |erw[bX a]
def ydc{σ:St}{H:Hp}{s:qa}{y:V}{o:Ψ}(I:'i' s)(g:Ļ H a y o):s.TypeIs (.ref a) "dict":=by
 rcases g with⟨d,k,e,_,_⟩|⟨d,k,b,e,_,_,_⟩
 .let#[_,_,h,_,c]:=yej I.hok e;erw[c.typeIs]
 .let#[_,_,f,_,c]:=yhl I.hok e;erw[c.typeIs]
def vd0(td ty:TE):TE:=λσ H Q=>td σ H λx H1=>ty σ H1 λy H2=>∃a v,x=.ref a/\Ļ H2 a y (some v)/\Q v H2
def vj8(ty td:TE):TE:=λσ H Q=>ty σ H λy H1=>td σ H1 λx H2=>∃a o,x=.ref a/\Ļ H2 a y o/\Q (.bl o.isSome) H2
def yjt(ty td:TE):TE:=λσ H Q=>ty σ H λy H1=>td σ H1 λx H2=>∃a o,x=.ref a/\Ļ H2 a y o/\Q (.bl (!o.isSome)) H2
def vdx(td ty tv:TE):TS:=λD σ H=>tv σ H λv H1=>td σ H1 λx H2=>ty σ H2 λy H3=>∃a H4,x=.ref a/\yhs H3 a y v H4/\D.nx σ H4
end
section
mutual
variable{o i e value:qh}{pos pos' tpos:Pos}{td ty tv:TE}
def γ(hu:X.A.units+1<cLine)(ho:PE X o td)(hi:PE X i ty)(hs:vjz i):PE X (.Subscript o i pos) (vd0 td ty):=by refine .mk λb s σ H Q I h=>?_;erw[ywe PySem.F.slot_dict_getitem.lookup hs (thn (ho b s σ H _ I h) λu m ⟨x,k,q,n,l⟩=>thn (hi b m σ k _ q l) λB z h'=>?_)];let#[y,j,d,p,a,v,e,g,r]:=h';subst e;obtain rfl:u=Value.ref a:=n;erw[ydc d g,yil hu d g p λw t f c=>#[v,j,f,c,r]]
def yqy(hu:X.A.units+1<cLine)(hi:PE X i ty)(ho:PE X o td):PC X .In i o (vj8 ty td):=by intro b s σ H Q I h;erw[thn (hi b s σ H _ I h) λw l ⟨y,f,q,p,k⟩=>thn (ho b l σ f _ q k) λu v h'=>?_];let#[x,e,j,m,a,n,c,g,r]:=h';subst c;obtain rfl:u=Value.ref a:=m;erw[vk2 hu j g p λt d=>#[.bl n.isSome,e,d,J,r]]
def j9(hu:X.A.units+1<cLine)(hi:PE X i ty)(ho:PE X o td):PC X .NotIn i o (yjt ty td):=by intro b s σ H Q I h;erw[thn (hi b s σ H _ I h) λw l ⟨y,f,q,p,k⟩=>thn (ho b l σ f _ q k) λu v h'=>?_];let#[x,e,j,m,a,n,c,g,r]:=h';subst c;obtain rfl:u=Value.ref a:=m;erw[yvy hu j g p λt d=>#[.bl (!n.isSome),e,d,J,r]]
def ī(hu:X.A.units+1<cLine)(ho:PE X o td)(hi:PE X i ty)(hv:PE X value tv)(hs:swapsWith value (some (.Subscript o i pos')) pos.line X.env=pure false):
  PS X (.Assign [.Subscript o i pos'] value pos) (vdx td ty tv):=by refine .mk λb s σ H D I h=>?_;erw[wpAny_Assign_Subscript (thn (hv b s σ H _ I h) λr t ⟨v,q,e,p,l⟩=>thn (ho b t σ q _ e l) λu k ⟨x,B,n,w,C⟩=>thn (hi b k σ B _ n C) λς G h'=>?_) hs];let#[y,F,f,z,a,j,c,g,m]:=h';subst c;obtain rfl:u=Value.ref a:=w;erw[yib hu f g z p λE d=>#[σ,j,d,m]]
end
end
mutual
def ym8{w:qe}{H:Hp}(h:qg)(hb:sysModules<h.objs.size):xq P w H (h.push { cls:=.type "dict",data:=.dict #[]}) h.objs.size (.dK []) :=
 #[cI _,dP.mpr (Ne.symm (cY hb)),[],.nil,Heap.DictOf.new h]
def ynu{w:qe}{H:Hp}(h:qg)(hb:sysModules<h.objs.size):xq P w H (h.push { cls:=.type "dict",data:=.dict #[]}) h.objs.size (.dT []) :=
 #[cI _,dP.mpr (Ne.symm (cY hb)),[],.nil,_,#[],0,cA _ J,#[J,J,J],J,J,List.nodup_nil]
def yrp:TE:=λZ H Q=>∀p,H p=none->Q (.ref p) (upd H p (.dK []))
def yqr:TE:=λZ H Q=>∀p,H p=none->Q (.ref p) (upd H p (.dT []))
end
section
variable{pos:Pos}
def Ĉ:PE X (.Dict [] [] pos) yrp:=.mk λb s σ H Q I h =>
 wpAny_Dict_empty #[.ref 'n',_,I.laid (a:='n') (o:=.dK []) (t':=s.toks) (λZ Z q=>bZ _ q) (cc _) (ym8 s.heap I.big),J,h _ (I.hok.fresh (cc _))]
def yok:PE X (.Dict [] [] pos) yqr:=.mk λb s σ H Q I h =>
 wpAny_Dict_empty #[.ref 'n',_,I.laid (a:='n') (o:=.dT []) (t':=s.toks) (λZ Z q=>bZ _ q) (cc _) (ynu s.heap I.big),J,h _ (I.hok.fresh (cc _))]
end
mutual
structure M1(X:Cx)(o:qh)(m:Str)(apos:Pos)(e:qh)(cpos:Pos):Prop where
 base:attributeBase o m X.env (eval o X.env)=eval o X.env
 few:((backTo cpos (starEach [e] X.env)).all (λx=>!x.1) && (backToKw cpos (keywordEach [] X.env)).all (λx=>x.1.isSome)
  && decide (([e]:qj qh).length+([]:qj Keyword).length+(if ([]:qj Keyword).isEmpty then 0 else 1)<30))=true
 line:(apos.endLine == cpos.line)=true
 trees:backTo cpos (starEach [e] X.env)=[(false,eval e X.env)]
structure M2(X:Cx)(o:qh)(m:Str)(apos:Pos)(e f:qh)(cpos:Pos):Prop where
 base:attributeBase o m X.env (eval o X.env)=eval o X.env
 few:((backTo cpos (starEach [e,f] X.env)).all (λx=>!x.1) && (backToKw cpos (keywordEach [] X.env)).all (λx=>x.1.isSome)
  && decide (([e,f]:qj qh).length+([]:qj Keyword).length+(if ([]:qj Keyword).isEmpty then 0 else 1)<30))=true
 line:(apos.endLine == cpos.line)=true
 trees:backTo cpos (starEach [e,f] X.env)=[(false,eval e X.env),(false,eval f X.env)]
def IsD(H:Hp)(a:z4):Prop:=(∃kvs,Rd H a (.dK kvs))\/∃kvs,Rd H a (.dT kvs)
def va9{σ:St}{H:Hp}{s:qa}(I:'i' s)(d:IsD H a):
  s.TypeIs (.ref a) "dict"/\(∀b,Value.ref a=.ref b->∃ob,s.heap.get? b=some ob/\ob.dict=none)/\(a == sysModules)=false:=by
 rcases d with⟨g,e⟩|⟨g,e⟩
 .let#[_,f,j,_,c]:=yej I.hok e;erw[c.typeIs,λb q=>?_,f];cases q;let#[ob,_,_,i,h,_]:=c;erw[ob,i,h.2.1]
 .let#[_,f,k,_,c]:=yhl I.hok e;erw[c.typeIs,λb q=>?_,f];cases q;let#[ob,_,_,i,h,_]:=c;erw[ob,i,h.2.1]
def yr1(td ty:TE):TE:=λσ H Q=>td σ H λx H1=>∃a,x=.ref a/\IsD H1 a/\ty σ H1 λy H2=>∃kvs k v,H2 a=some (.dK kvs)/\y=kV k/\jn kvs k=some v/\Q v (upd H2 a (.dK (ã kvs k)))
end
section
variable{o e f:qh}{apos cpos:Pos}{td ty tx:TE}
def yeo(ho:PE X o td)(he:PE X e ty)(m:M1 X o "pop" apos e cpos):PE X (.Call (.Attribute o "pop" apos) [e] [] cpos) (yr1 td ty):=by refine .mk λb s σ H Q I h=>?_;erw[wpAny_Call_method m.base m.few m.line PySem.F.plainAttrs_dict PySem.F.slot_dict_pop PySem.F.type_dict_pop (thn (ho b s σ H _ I h) λu w h'=>?_)];let#[x,t,f,z,a,i,d,p]:=h';subst i;obtain rfl:u=Value.ref a:=z;let#[r,j,_]:=va9 f d;erw[r,j,?_];rwa[m.trees,Calls.callWith_builtin J (Calls.evalArgs_plain (Calls.spliced_cons (thn (he b w σ t _ f p) λL G ⟨y,ς,q,A,g,k,v,C,B,l,D⟩=>Calls.spliced_nil ?_)))];subst B;erw[vg8 q C A l (.inl J) λE K n c=>#[v,_,n,c,D]]
end
mutual
@[irreducible] def QE(X:Cx)(e:qh)(t:TE):Prop:=PE X e t
@[irreducible] def QSs(X:Cx)(st:qj qd)(t:TS):Prop:=PSs X st t
@[irreducible] def QS(X:Cx)(st:qd)(t:TS):Prop:=PS X st t
end
section
variable{e:qh}{te:TE}{pos:Pos}{ts us:TS}{xt:qj qd}
def yg{R:TS->Prop}(h1:PS X st ts)(h2:∃us,PSs X xt us/\R (vi1 ts us)):∃t,PSs X (st::xt) t/\R t:=let ⟨_,a,b⟩:=h2;#[_,yh h1 a,b]
end
mutual
theorem yan:∀{bs:qj Bool}{us:Ο},w8 (bs.map V.bl) us->us=bs.map Value.bool
 |[],_,.nil=>rfl
 |b::r,_,.cons a t=>by rw[show _=Value.bool b from a,yan t];rfl
def yjd(bs:qj Bool):((List.range bs.length).all λi=>(bs[i]?).getD true)=bs.all id:=by
 rw[Bool.eq_iff_iff,List.all_eq_true,List.all_eq_true]
 constructor
 .intro h b c;let#[i,a,J]:=List.getElem_of_mem c;have:=h i (dy.mpr a);rw[bP a]at this;erw[this]
 .intro h i a;let a:=dy.mp a;rwa[bP a,h _ (cV a)]
def zx(hc:X.calm=true):ji X (.builtin "all") (λxs H Q=>∃p bs,xs=[.ref p]/\SqL X.K H p (List.map V.bl bs)/\Q (.bl (bs.all id)) H):=by
 intro g s σ H xs E Q I r h;let#[p,bs,J,l,q]:=h;let#[u,J,t]:=û r;cases t;let#[n,j,o,C]:=I.list l;obtain rfl:=yan j;let f:=o.isList;have c:p<'n':=by let#[_,e,_]:=f;erw[cB e]
 erw[call_all_walk (wpAny_pyIter_list f ?_)]
 erw['n',['n',p],['n'],(bs.map Value.bool).toArray.size,_,_,λi=>(bs[i]?).getD true,J,Walks.list (A:=X.A.in1) (show X.A.handled=none from I.ok.hd hc) _ p (cY c) (bs.map Value.bool).toArray,
  #[#[_,cA _ J,J,J],f.push _],λi v y D z a d=>?_,λB m k=>?_]
 .have a:(bs.map Value.bool)[i]?=some v:=by simpa using a
  rw[ci]at a
  cases e:bs[i]? with
  |none=>rw[e]at a;cases a
  |some b =>
   dsimp only at d;rw[e]at a d;cases a;erw[dA d]
 .have e:((List.range (bs.map Value.bool).toArray.size).all λi=>(bs[i]?).getD true)=bs.all id:=by
   rwa[cF,bw,yjd bs]
  rwa[e,#[.bl (bs.all id),H,I.kept (t':=m) λb x e=>k b x (λw=>?_) (bZ _ e),J,q]];rw[cn.mp w]at e;erw[dM _ (cB e)]
end
set_option tactic.hygienic true in
mutual
theorem ja{env:Env}:∀{names:qj (Str×NameKind)}{x:Str}{k:NameKind},
  (names.map λ(n,k)=>if (k == NameKind.free && env.scope.kind == .function && env.kindOf n == some .cell)then (n,NameKind.cell)else (n,k)).lookup x=some k->∃k0,(x,k0)∈names/\(k=k0\/k0=.free)
 |[],_,_,h=>by simp at h
 |(n,k1)::r,x,k,h=>by
  rw[cX]at h;by_cases hx:x=n
  .subst hx;erw[k1,.head _,?_];dsimp only at h
   split at h
   .rename_i hc
    simp only[cC,beq_iff_eq]at hc;erw[.inr hc.1.1]
   .simp[List.lookup]at h;erw[.inl h.symm]
  .have:(x == n)=false:=by simpa using hx
   have a:(r.map λ(n,k)=>if (k == NameKind.free && env.scope.kind == .function && env.kindOf n == some .cell)then (n,NameKind.cell)else (n,k)).lookup x=some k:=by
    dsimp only at h
    split at h<;>simpa[List.lookup,this]using h
   let#[k0,m,q]:=ja a;erw[k0,.tail _ m,q]
noncomputable def ļ(ys:Τ)(env:Env):qj (Str×z4):=ys.map λy=>(y,(env.cells.lookup y).getD 0)
theorem ye5{env:Env}:∀{ys:Τ}{y:Str}{c:z4},(ļ ys env).lookup y=some c->y∈ys/\c=(env.cells.lookup y).getD 0
 |[],_,_,h=>by simp[ļ]at h
 |z::r,y,c,h=>by
  by_cases hy:y=z
  .subst hy;simp[ļ,List.lookup]at h;erw[.head _,h.symm]
  .have b:(y == z)=false:=by simpa using hy
   have a:(ļ r env).lookup y=some c:=by simpa[ļ,List.lookup,b]using h
   let#[m,e]:=ye5 a;erw[.tail _ m,e]
theorem yag{env:Env}:∀{ys:Τ}{y:Str},y∈ys->(ļ ys env).lookup y=some ((env.cells.lookup y).getD 0)
 |z::r,y,h=>by
  by_cases hy:y=z
  .subst hy;simp[ļ,List.lookup]
  .have b:(y == z)=false:=by simpa using hy
   have a:y∈r:=by
    rcases cr.mp h with q|q
    .erw[absurd q hy]
    .erw[q]
   have:=yag (env:=env) a;simpa[ļ,List.lookup,b]using this
abbrev Cx.compF(X:Cx)(scope:Scope)(ys:Τ)(C:z4)(x:Str)(s2:qa)(H2:Hp)(fp:Χ):Cx :=
 {X with N:=x::ys,s₀:=s2,H₀:=H2,env:=compEnvC scope (ļ ys X.env) C X.env,outer:=X.stack,ex:=fp,fn:=λZ=>false,pn:=[],xe:=λZ Z=>False}
def ur(ς:It)(te:TE)(fr:St)(D:z4)(R:Hp->Prop)(H1:Hp):Prop:=∃W:Nat->Nat->Hp->Prop,(∃m,W 0 m (upd H1 D (.lst [])))/\
 ∀i m H2,W i m H2->(ς.stop i H2/\R H2)\/(ς.go i H2/\∀x H3,ς.yld i H2 x H3->te (some x::fr) H3 λy H4=>∃ys,H4 D\ys/\ys.length<sizeLine/\∃m',m'<m/\W (i+1) m' (upd H4 D (.lst (ys++[y]))))
noncomputable def ux(js:qj Nat)(σ:St):St:=js.map λj=>(σ[j]?).getD none
def yk5(wi:TI)(te:TE)(js:qj Nat):TE:=λσ H Q=>wi σ H λς H1=>∀D,H1 D=none->ur ς te (ux js σ) D (λH2=>Q (.ref D) H2) H1
end
section
mutual
variable{iter elt:qh}{x:Str}{px pos:Pos}{te:TE}{wi:TI}{σ:St}{ys:Τ}{js:qj Nat}
def ytd{H:Hp}{Q:VK}(h:wi σ H λς H1=>∀D,H1 D=none->ur ς te (ux js σ) D (λH2=>Q (.ref D) H2) H1):yk5 wi te js σ H Q:=h
def ì{K:z3}{xs:Υ}{fr:St}{R:Hp->Prop}{H1:Hp}(Pv:Nat->Hp->Prop)(h0:Pv 0 (upd H1 D (.lst [])))(hl:∀i H,i<=xs.length->Pv i H->SqL K H a xs)
  (hs:∀i x H,xs[i]?=some x->i<xs.length->Pv i H->te (some x::fr) H λy H4=>∃ys,H4 D\ys/\ys.length<sizeLine/\∃m',m'<xs.length-i/\cW xs.length Pv (i+1) m' (upd H4 D (.lst (ys++[y]))))
  (hd:∀H,Pv xs.length H->R H):ur (Itl K a) te fr D R H1:=by
 erw[cW xs.length Pv,#[xs.length,'s',cI _,h0],?_];rintro i m H ⟨rfl,b,p⟩;let q:=hl i H b p;by_cases hlt:i<xs.length
 .erw[.inr #[#[xs,xs[i],q,by simp[hlt]],λx c y=>?_]];let#[e,y]:=y;subst e;erw[hs i x _ (y xs q) hlt p]
 .have e:i=xs.length:=()
  subst e;erw[.inl #[#[xs,q,cc _],hd H p]]
def jo{lo:Int}{n:Nat}{fr:St}{R:Hp->Prop}{H1:Hp}(Pv:Nat->Hp->Prop)(h0:Pv 0 (upd H1 D (.lst [])))
  (hs:∀i H,i<n->Pv i H->te (some (.int (lo+i))::fr) H λy H4=>∃ys,H4 D\ys/\ys.length<sizeLine/\∃m',m'<n-i/\cW n Pv (i+1) m' (upd H4 D (.lst (ys++[y]))))
  (hd:∀H,Pv n H->R H):ur (Itr lo n) te fr D R H1:=by
 erw[cW n Pv,#[n,'s',cI _,h0],?_];rintro i m H ⟨rfl,a,p⟩;by_cases hlt:i<n
 .erw[.inr #[hlt,λx b y=>?_]];let#[e,y]:=y;subst e y;erw[hs i _ hlt p]
 .have e:i=n:=()
  subst e;erw[.inl #[cc _,hd H p]]
end
end
end L2
namespace L2
def yu{α:Type}{P:α->Prop}:∀y∈([]:qj α),P y:=λZ h=>nomatch h
def all_cons{α:Type}{P:α->Prop}{y:α}{r:qj α}(h:P y)(t:∀z∈r,P z):∀z∈y::r,P z:=λz a=>by
 rcases cr.mp a with e|a
 .erw[e ▸ h]
 .erw[t z a]
open PySem PySem.Spec PyProof.Rows
section
variable{X:Cx}
theorem yfe:∀{ns:Ρ}{us:Ο},w8 (ns.map V.int) us->∃xs:Array (Int×Tok),us.toArray=intItems xs/\xs.toList.map (·.1)=ns
 |[],_,.nil=>#[#[],by simp[intItems],J]
 |n::r,_,.cons (l₂:=us) a t=>by
  let#[c,J]:=a;let#[xs,d,b]:=yfe t;erw[((n,c)::xs.toList).toArray,?_,by simp[b]]
  have:us=(intItems xs).toList:=by rw[<- d]
  rw[this];simp[intItems]
def Ý(hc:X.calm=true):ji X (.builtin "sum") (λvs H Q=>∃p ns,vs=[.ref p]/\SqL X.K H p (List.map V.int ns)/\Q (.int ns.sum) H):=by intro a s σ H t o Q I r h;let#[p,ns,J,d,q]:=h;let#[u,J,l]:=û r;cases l;let#[g,e,k,v]:=I.list d;let#[i,j,m]:=yfe e;have f:s.heap.IsList p (intItems i):=j ▸ k.isList;erw[sum_intListG (I.ok.hd hc) f λn c t' b=>?_];rwa[preSum_eq,db 's',m,#[.int ns.sum,H,I.kept (t':=c) b,#[_,J],q]]
end
variable{it:z4}{fp:Χ}{tn:Nat->qg->Prop}{s2:qa}
section
mutual
variable{X:Cx}{e:qh}{t1 t2:TE}
def ywz(t1 t2:TE):TE:=λσ H Q=>t1 σ H Q\/t2 σ H Q
def ı(h1:PE X e t1)(h2:PE X e t2):PE X e (ywz t1 t2):=by
 erw[.mk λa s σ H Q I h=>?_];rcases h with h|h
 .erw[h1 a s σ H Q I h]
 .erw[h2 a s σ H Q I h]
def ÿ{σ:St}{H:Hp}{Q:VK}(h:t1 σ H Q):ywz t1 t2 σ H Q:=.inl h
def Â{σ:St}{H:Hp}{Q:VK}(h:t2 σ H Q):ywz t1 t2 σ H Q:=.inr h
end
end
mutual
def vgm(i j:Int):Prop:=∃k:Nat,i.natAbs<2^k/\j.natAbs<2^k/\k<=2^20
def yv2{X:Cx}:OpR X (binaryOp .Mult) (rI vgm λi j=>.int (i*j)):=opI λZ Z Z Z Z Z Z c q=>mul_int q (by
 let#[k,b,d,a]:=c;erw[IntMulOk.of_bits (cO (PyProof.Rows.intBits_le b) a) (cO (PyProof.Rows.intBits_le d) a)])
def yz1{i j:Int}{H:Hp}{Q:VK}(k:Nat)(h1:i.natAbs<2^k)(h2:j.natAbs<2^k)(h3:k<=2^20)(h:Q (.int (i*j)) H):rI vgm (λi j=>.int (i*j)) (.int i) (.int j) H Q:=#[i,j,J,J,#[k,h1,h2,h3],h]
def yx{H:Hp}{p:z4}{o:HO}{A:Hp->Prop}(hp:H p=none)(h:∀H',yz H H'->H' p=some o->A H'):A (upd H p o):=h _ (y7 hp) ya
def yo{α:Type}{H:Hp}{p:z4}{o:HO}{A:Hp->α->Prop}{Q:α}(hp:H p=none)(h:∀H',yz H H'->H' p=some o->A H' Q):A (upd H p o) Q:=h _ (y7 hp) ya
end
section
mutual
variable{K:z3}{a D:z4}{xs:Υ}{te:TE}{fr:St}{R:Hp->Prop}{H1:Hp}
def yb9(Pv:Nat->Hp->Prop)(h0:Pv 0 (upd H1 D (.lst [])))(hl:∀i H,i<=xs.length->Pv i H->SqT K H a xs)
  (hs:∀i x H,xs[i]?=some x->i<xs.length->Pv i H->te (some x::fr) H λy H4=>∃ys,H4 D\ys/\ys.length<sizeLine/\∃m',m'<xs.length-i/\cW xs.length Pv (i+1) m' (upd H4 D (.lst (ys++[y]))))
  (hd:∀H,Pv xs.length H->R H):ur (Itt K a) te fr D R H1:=by
 erw[cW xs.length Pv,#[xs.length,'s',cI _,h0],?_];rintro i m H ⟨rfl,b,p⟩;let q:=hl i H b p;by_cases hlt:i<xs.length
 .erw[.inr #[#[xs,xs[i],q,by simp[hlt]],λx c y=>?_]];let#[e,y]:=y;subst e;erw[hs i x _ (y xs q) hlt p]
 .have e:i=xs.length:=()
  subst e;erw[.inl #[#[xs,q,cc _],hd H p]]
def yo0(Pv:Nat->Hp->Prop)(h0:Pv 0 (upd H1 D (.lst [])))(hl:∀i H,i<=xs.length->Pv i H->SqT K H a xs)
  (hs:∀i x H,xs[i]?=some x->i<xs.length->Pv i H->te [some x] H λy H4=>∃ys,H4 D\ys/\ys.length<sizeLine/\∃m',m'<xs.length-i/\cW xs.length Pv (i+1) m' (upd H4 D (.lst (ys++[y]))))
  (hd:∀H,Pv xs.length H->R H):ycr (Itt K a) te D R H1:=by
 erw[cW xs.length Pv,#[xs.length,'s',cI _,h0],?_];rintro i m H ⟨rfl,b,p⟩;let q:=hl i H b p;by_cases hlt:i<xs.length
 .erw[.inr #[#[xs,xs[i],q,by simp[hlt]],λx c y=>?_]];let#[e,y]:=y;subst e;erw[hs i x _ (y xs q) hlt p]
 .have e:i=xs.length:=()
  subst e;erw[.inl #[#[xs,q,cc _],hd H p]]
def Mp(H1:Hp)(D:z4)(f:Nat->V)(i:Nat)(H:Hp):Prop:=yz H1 H/\H D\((List.range i).map f)
def Mp.zero{f:Nat->V}(hD:H1 D=none):Mp H1 D f 0 (upd H1 D (.lst [])):=#[y7 hD,ya]
def Mp.step{f:Nat->V}{n i:Nat}{H4:Hp}{y:V}(hD:H1 D=none)(hn:n<sizeLine)(hi:i<n)(S:yz H1 H4)(h4:H4 D\((List.range i).map f))(e:y=f i):
  ∃ys,H4 D\ys/\ys.length<sizeLine/\∃m',m'<n-i/\cW n (Mp H1 D f) (i+1) m' (upd H4 D (.lst (ys++[y]))):=by
 erw[xh (n:=n) h4 (by rw[bw,c8];omega) hi #[?_,?_]]
 .intro b o a;rwa[yk (yb a hD),S b o a]
 .rw[ya,List.range_succ,cy,e];rfl
def Ó{f:Nat->V}{g:V->V}(h:∀i x,xs[i]?=some x->f i=g x):(List.range xs.length).map f=xs.map g:=by
 erw[List.ext_getElem? λi=>?_];rw[ci,ci];by_cases hi:i<xs.length
 .rw[dv hi,bP hi];show some (f i)=some (g xs[i]);rw[h i _ (bP hi)]
 .rw[cT (by rw[c8];omega),cT ()];rfl
noncomputable def ofG(g:V->V)(xs:Υ)(i:Nat):V:=((xs[i]?).map g).getD .non
def ycm{g:V->V}{i:Nat}{x:V}(h:xs[i]?=some x):ofG g xs i=g x:=by unfold ofG;rw[h];rfl
def MpK(H1:Hp)(D:z4)(f:Nat->V)(n i:Nat):VK:=λy H4=>∃ys,H4 D\ys/\ys.length<sizeLine/\∃m',m'<n-i/\cW n (Mp H1 D f) (i+1) m' (upd H4 D (.lst (ys++[y])))
def Mp.done{g:V->V}{i:Nat}{x y:V}{H4:Hp}(hD:H1 D=none)(hn:xs.length<sizeLine)(hx:xs[i]?=some x)(S:yz H1 H4)(h4:H4 D\((List.range i).map (ofG g xs)))(e:y=g x):MpK H1 D (ofG g xs) xs.length i y H4:=by
 have a:i<xs.length:=by
  rcases Nat.lt_or_ge i xs.length with q|q
  .erw[q]
  .rw[cT q]at hx;cases hx
 erw[Mp.step hD hn a S h4 (e.trans (ycm hx).symm)]
def Mp.doneR{f:Nat->V}{n i:Nat}{y:V}{H4:Hp}(hD:H1 D=none)(hn:n<sizeLine)(hi:i<n)(S:yz H1 H4)(h4:H4 D\((List.range i).map f))(e:y=f i):MpK H1 D f n i y H4:=Mp.step hD hn hi S h4 e
def zh(g:V->V)(hq:SqL K H1 a xs)(hD:H1 D=none)
  (hs:∀i x H,xs[i]?=some x->yz H1 H->H D\((List.range i).map (ofG g xs))->te (some x::fr) H (MpK H1 D (ofG g xs) xs.length i))
  (hd:∀H,yz H1 H->H D\(xs.map g)->R H):ur (Itl K a) te fr D R H1 :=
 ì (Mp H1 D (ofG g xs)) (Mp.zero hD) (λZ Z Z p=>p.1.seq hq) (λi x H b c p=>hs i x H b p.1 p.2)
  λH p=>hd H p.1 (by rwa[<- Ó (f:=ofG g xs) λi x=>ycm,p.2])
def yg6(g:V->V)(hq:SqL K H1 a xs)(hD:H1 D=none)
  (hs:∀i x H,xs[i]?=some x->yz H1 H->H D\((List.range i).map (ofG g xs))->te [some x] H (MpK H1 D (ofG g xs) xs.length i))
  (hd:∀H,yz H1 H->H D\(xs.map g)->R H):ycr (Itl K a) te D R H1 :=
 jd (Mp H1 D (ofG g xs)) (Mp.zero hD) (λZ Z Z p=>p.1.seq hq) (λi x H b c p=>hs i x H b p.1 p.2)
  λH p=>hd H p.1 (by rwa[<- Ó (f:=ofG g xs) λi x=>ycm,p.2])
def Ś(g:V->V)(hq:SqT K H1 a xs)(hD:H1 D=none)
  (hs:∀i x H,xs[i]?=some x->yz H1 H->H D\((List.range i).map (ofG g xs))->te (some x::fr) H (MpK H1 D (ofG g xs) xs.length i))
  (hd:∀H,yz H1 H->H D\(xs.map g)->R H):ur (Itt K a) te fr D R H1 :=
 yb9 (Mp H1 D (ofG g xs)) (Mp.zero hD) (λZ Z Z p=>p.1.tup hq) (λi x H b c p=>hs i x H b p.1 p.2)
  λH p=>hd H p.1 (by rwa[<- Ó (f:=ofG g xs) λi x=>ycm,p.2])
def yjf(g:V->V)(hq:SqT K H1 a xs)(hD:H1 D=none)
  (hs:∀i x H,xs[i]?=some x->yz H1 H->H D\((List.range i).map (ofG g xs))->te [some x] H (MpK H1 D (ofG g xs) xs.length i))
  (hd:∀H,yz H1 H->H D\(xs.map g)->R H):ycr (Itt K a) te D R H1 :=
 yo0 (Mp H1 D (ofG g xs)) (Mp.zero hD) (λZ Z Z p=>p.1.tup hq) (λi x H b c p=>hs i x H b p.1 p.2)
  λH p=>hd H p.1 (by rwa[<- Ó (f:=ofG g xs) λi x=>ycm,p.2])
def þ{lo:Int}{n:Nat}(f:Nat->V)(hD:H1 D=none)
  (hs:∀i H,i<n->yz H1 H->H D\((List.range i).map f)->te (some (.int (lo+i))::fr) H (MpK H1 D f n i))
  (hd:∀H,yz H1 H->H D\((List.range n).map f)->R H):ur (Itr lo n) te fr D R H1 :=
 jo (Mp H1 D f) (Mp.zero hD) (λi H a p=>hs i H a p.1 p.2) λH p=>hd H p.1 p.2
end
end
mutual
structure Mk0(K:z3)(C:z4):Prop where
 makes:W.makesIn K C=true
 init:W.findIn K (.ref C) "__init__"=some (some (.builtin "object.__init__"))
 kp:W.keepIn K (.ref C)=true
abbrev Cx.compT(X:Cx)(scope:Scope)(ys:Τ)(C:z4)(xs:Τ)(s2:qa)(H2:Hp)(fp:Χ):Cx :=
 {X with N:=xs++ys,s₀:=s2,H₀:=H2,env:=compEnvC scope (ļ ys X.env) C X.env,outer:=X.stack,ex:=fp,fn:=λZ=>false,pn:=[],xe:=λZ Z=>False}
variable{X:Cx}
def ε(ς:It)(g:TG)(te:TE)(n:Nat)(fr:St)(D:z4)(R:Hp->Prop)(H1:Hp):Prop:=∃W:Nat->Nat->Hp->Prop,(∃m,W 0 m (upd H1 D (.lst [])))/\
 ∀i m H2,W i m H2->(ς.stop i H2/\R H2)\/(ς.go i H2/\∀x H3 pre,ς.yld i H2 x H3->List.length pre=n->g x (pre++fr) H3 λσ' H'=>(∃pre',List.length pre'=n/\σ'=pre'++fr)/\te σ' H' λy H4=>∃ys,H4 D\ys/\ys.length<sizeLine/\∃m',m'<m/\W (i+1) m' (upd H4 D (.lst (ys++[y]))))
def ykt(wi:TI)(g:TG)(te:TE)(n:Nat)(js:qj Nat):TE:=λσ H Q=>wi σ H λς H1=>∀D,H1 D=none->ε ς g te n (ux js σ) D (λH2=>Q (.ref D) H2) H1
def PTs(X:Cx)(ifs:qj qh)(t:TT):Prop:=∀(pins:Θ)(s:qa)(σ:St)(H:Hp)(Q:Bool->Hp->Prop),'i' s->t σ H Q ->
 wpAny (model X.prog X.w) X.A (forIn ifs true λc r=>if r=true then do let ok <- isTrue c X.env (eval c X.env);pure (ForInStep.yield ok)else pure (ForInStep.yield r)) (TP X pins σ Q) X.xe s
def vjn:TT:=λZ H Q=>Q true H
def yum:PTs X [] vjn:=λZ Z σ H Z I h=>cq #[H,I,h]
def yuc(ς:It)(g:TG)(tt:TT)(te:TE)(n:Nat)(fr:St)(D:z4)(R:Hp->Prop)(H1:Hp):Prop:=∃W:Nat->Nat->Hp->Prop,(∃m,W 0 m (upd H1 D (.lst [])))/\
 ∀i m H2,W i m H2->(ς.stop i H2/\R H2)\/(ς.go i H2/\∀x H3 pre,ς.yld i H2 x H3->List.length pre=n->g x (pre++fr) H3 λσ' H'=>(∃pre',List.length pre'=n/\σ'=pre'++fr)/\tt σ' H' λb H4=>if b=true then te σ' H4 (λy H5=>∃ys,H5 D\ys/\ys.length<sizeLine/\∃m',m'<m/\W (i+1) m' (upd H5 D (.lst (ys++[y]))))else ∃m',m'<m/\W (i+1) m' H4)
end
section
mutual
variable{iter elt tg:qh}{xs:Τ}{g:TG}{pos:Pos}{scope:Scope}{te:TE}{wi:TI}{ifs:qj qh}{tt:TT}{pins:Θ}{σ:St}{ys:Τ}{js:qj Nat}
def yg9{H2:Hp}{ς:It}(hc:X.calm=true)
  (ht:∀(C:z4)(s2:qa)(H2:Hp)(fp:Χ),PTs (X.compT scope ys C xs s2 H2 fp) ifs tt) (he:∀(C:z4)(s2:qa)(H2:Hp)(fp:Χ),PE (X.compT scope ys C xs s2 H2 fp) elt te)
  (hgt:∀(C:z4)(s2:qa)(H2:Hp)(fp:Χ),PG (X.compT scope ys C xs s2 H2 fp) tg g)
  (hcell:∀y∈scope.names,y.2≠.cell) (hkind:scope.kind=.function)
  (hfr:∀y∈scope.names,y.2=.free->y.1∈ys) (hyc:∀y∈ys,X.env.kindOf y=some .cell) (hrel:∀y∈ys,(relabel scope X.env).names.lookup y=some .cell) (hjs:js.map (λj=>X.N[j]?)=ys.map some)
  (I2:Inv X pins σ H2 s2) (T:yek X.prog X.w X.K tg ς fp it tn) (st2:tn 0 s2.heap) (f2:∀b∈fp,ygf X pins H2 b)
  {R:z4->Hp->Prop} (h:∀D,H2 D=none->yuc ς g tt te xs.length (ux js σ) D (R D) H2) {RR:qc->z4->Result->qa->Prop} {E:Δ}
  (hR:∀(D C:z4)(H':Hp)(s':qa)(m:Ε),ygf X pins H' C->s'.heap.Ns C m->Inv X pins σ H' s'->R D H'->RR (.ref D) C (.ok .next) s'):
  wpAny (model X.prog X.w) X.A (newList []) (λacc s₃=>'w' (newFunctionEnv scope X.env.globals (ļ ys X.env) [] X.env.qual none .none (some X.env)) (λcenv s₄ =>
   codeAny (model X.prog X.w) X.A (.compStart (.ListComp elt [#[tg,iter,ifs,0]] scope pos) 0 (.ref it) acc {cenv with scope:=relabel scope X.env}) (RR acc cenv.locals) s₄) E s₃) E s2:=by
 have k:∀y c,(ļ ys X.env).lookup y=some c->X.env.cells.lookup y=some c:=λy c e=>by
  let#[m,J]:=ye5 e;let#[c',q]:=I2.ok.has y (.inl (hyc y m));rw[q];rfl
 erw[wpAny_newObj_type (wpAny_newFunctionEnv hcell (by intro y hy;simp at hy) (λh₁ hns₁ hsb₁=>?_) hkind)];dsimp only at hns₁ hsb₁⊢;generalize U:s2.heap.push { cls:=.type "list",dict:=none,data:=.seq ([]:Ο).toArray}=G at hns₁ hsb₁⊢;have hC:G.objs.size=s2.heap.objs.size+1:=by rw[<- U,Heap.size_push]
 have a6:s2.heap.objs.size≠G.objs.size:=by rwa[hC,cY (Nat.lt_succ_self _)]
 have L:s2.heap.objs.size<=G.objs.size:=by rwa[hC,Nat.le_succ _]
 have f:∀b,b<s2.heap.objs.size->b≠G.objs.size/\b≠s2.heap.objs.size:=λb a=>#[by rwa[hC,cY (Nat.lt_succ_of_lt a)],cY a];have F:∀b o,s2.heap.get? b=some o->h₁.get? b=some o:=λb o e=>hsb₁.extBut b o (f b (cB e)).1 (bZ _ (U ▸ bZ _ e));have a3:h₁.get? s2.heap.objs.size=some { cls:=.type "list",data:=.seq ([]:Ο).toArray}:=hsb₁.extBut _ _ a6 (bZ _ (U ▸ cA _ J));have Z:∀b∈fp,b<s2.heap.objs.size:=λb a=>let ⟨_,e,_⟩:=T.obj 0 _ st2 b a;cB e;have a5:∀b∈fp,b∉frs X.stack:=λb a z=>(cr.mp (I2.stkSub b z)).elim (f2 b a).2.1 (f2 b a).2.2.1;have nC:H2 G.objs.size=none:=I2.hok.fresh L;have nD:H2 s2.heap.objs.size=none:=I2.hok.fresh (cc _)
 have B:∀y c,(ļ ys X.env).lookup y=some c->∃v o,s2.heap.get? c=some o/\o.data=.cell v:=λy c e=>by
  let#[v,o,q1,q2]:=I2.cell y c (k y c e);erw[v,o,q1,q2]
 have aa:(X.compT scope ys G.objs.size xs s2 H2 fp).Ok:=by
  erw[I2.ok.mod,hkind,I2.ok.glob,I2.ok.blt,L,λy z c e Y=>I2.ok.inj y z c (k y c e) (k z c Y),λy e=>?_,λy c z e=>(by cases z),I2.ok.hd,I2.ok.frames,.inl J,λb a=>#[(f b (Z b a)).1,λy c e=>(f2 b a).2.2.2.2.1 y c (k y c e)],I2.bs,?_,λb o e a=>?_,λb a=>a5 b a,I2.stack,I2.stkFree]
  .have Y:(relabel scope X.env).names.lookup y=some .cell\/(relabel scope X.env).names.lookup y=some .free:=e
   have ab:y∈ys:=by
    rcases Y with Y|Y
    .let#[k0,m,q]:=ja Y;rcases q with q|q
     .erw[absurd q.symm (hcell _ m)]
     .erw[hfr _ m q]
    .let#[k0,m,q]:=ja Y;rcases q with q|q
     .erw[hfr _ m q.symm]
     .erw[hfr _ m q]
   erw[_,yag ab]
  .erw[cO I2.ok.bsz I2.sz]
  .rcases (f2 b a).2.2.2.1 with z|z
   .erw[I2.ok.noex b o e z]
   .erw[absurd (cR (cB (I2.ok.bs b o e).1) z) (dM _)]
 have a1:(ux js σ).length=ys.length:=by
  have:=congrArg List.length hjs;simpa[ux]using this
 have I3:∀tk,Inv (X.compT scope ys G.objs.size xs s2 H2 fp) [] (List.replicate xs.length none++ux js σ) (upd H2 s2.heap.objs.size (.lst [])) {s2 with heap:=h₁,toks:=tk}:=λtk =>
  #[aa,J,I2.bare,Un.laid F (cc _) nD,#[_,hns₁,λi y v e1 P e3=>by
    by_cases hi0:i<xs.length
    .rw[dh (by simpa using hi0),List.getElem?_replicate,if_pos hi0]at P;cases P
    .obtain⟨i,rfl⟩:∃i',i=xs.length+i':=#[i-xs.length,()];have e1:ys[i]?=some y:=by rw[dz ()]at e1;simpa using e1
     have P:(ux js σ)[i]?=some (some v):=by rw[dz 's']at P;simpa using P
     have hy:y∈ys:=cz e1;let S:=congrArg (λl=>l[i]?) hjs;simp only[ci,e1,dL]at S
     cases q:js[i]? with
     |none=>rw[q]at S;cases S
     |some j =>
      rw[q]at S;have S:X.N[j]?=some y:=by simpa using S
      have es:σ[j]?=some (some v):=by
       simp only[ux,ci,q,dL,Option.some.injEq]at P
       cases r:σ[j]? with
       |none=>rw[r]at P;cases P
       |some w'=>rw[r]at P;rw[show w'=some v from P]
      let#[m0,_,a8]:=I2.loc;let#[u,ru,lk]:=a8 j y v S es (.inr (.inl (hyc y hy)));erw[u,ru,.inr #[.inl (hrel y hy),?_]];rcases lk with⟨k1,_⟩|⟨_,c,ec,o,ho,hd⟩
      .rw[hyc y hy]at k1;cases k1
      .erw[c,?_,o,F c o ho,hd];show (ļ ys X.env).lookup y=some c;rw[yag hy,ec]
       rfl],λy c e=>(by
    let#[v,o,q1,q2]:=B y c e
    erw[v,o,F c o q1,q2]),(by show upd H2 s2.heap.objs.size _ G.objs.size=none;rwa[yk a6.symm,nC]),λy c e=>(by
    let#[v,o,q1,q2]:=B y c e;show upd H2 s2.heap.objs.size _ c=none;rw[yk (f c (cB q1)).2]
    erw[I2.freeC y c (k y c e)]),λp hp=>(by simp at hp),
   I2.hok.laid F (cc _) #[cI _,[],_,.nil,a3],by show (List.replicate xs.length none++ux js σ).length=(xs++ys).length;simp[a1]]
 have M:∀{H':Hp},(∀b∈fp,H' b=none)->∀b∈fp,ygf (X.compT scope ys G.objs.size xs s2 H2 fp) [] H' b:=λhn b a=>#[hn b a,(f b (Z b a)).1,a5 b a,.inl a,λy c e=>(f2 b a).2.2.2.2.1 y c (k y c e),λp hp=>(by simp at hp)]
 have Q:∀tk,codeAny (model X.prog X.w) X.A (.compLoop (.ListComp elt [#[tg,iter,ifs,0]] scope pos) 0 (.ref it) (.ref s2.heap.objs.size) (compEnvC scope (ļ ys X.env) G.objs.size X.env)) (RR (.ref s2.heap.objs.size) G.objs.size) {s2 with heap:=h₁,toks:=tk}:=by
  intro tk;let#[W,#[m0,w0],a7]:=h s2.heap.objs.size nD;refine codeAny_loop J (λn s'=>∃i v H',List.length v=xs.length/\Inv (X.compT scope ys G.objs.size xs s2 H2 fp) [] (v++ux js σ) H' s'/\tn i s'.heap/\(∀b∈fp,H' b=none)/\W i n H') (λn s' hI=>?_) m0
   #[0,List.replicate xs.length none,_,'s',I3 tk,T.keep 0 _ _ st2 (λb a o e=>F b o e),λb a=>(by rwa[yk (f b (Z b a)).2,(f2 b a).1]),w0]
  let#[i,v,H',hv,I,st,fr,w]:=hI;show wpAny _ _ ((compTurn (.ListComp elt [#[tg,iter,ifs,0]] scope pos) 0 (.ref it) (.ref s2.heap.objs.size) (compEnvC scope (ļ ys X.env) G.objs.size X.env)).onRaise (λx=>do noteFrame x (compEnvC scope (ļ ys X.env) G.objs.size X.env);theTreesLotGoes x)) _ _ s';erw[wpAny_noted ?_];rwa[compTurn_list,bX (wpAny_standAt (bX ?_))];rcases a7 i n H' w with⟨a4,q⟩|⟨go,a2⟩
  .erw[thn (T.done (X.compT scope ys G.objs.size xs s2 H2 fp) J J J hc i [] s' (v++ux js σ) H' _ I (M fr) st a4) λr s4 ⟨hr,I4⟩=>?_];subst hr;erw[cq ?_];let#[m,hn,_]:=I4.loc;erw[hR _ _ H' s4 m (I2.fpOk L I4.free) hn (I2.call' (ch:=fp) I4.os I4.base I4.hok I4.bare λb a=>#[(f2 b a).2.2.2.1,(f2 b a).2.1,(f2 b a).2.2.2.2.1,(f2 b a).2.2.2.2.2]) q]
  .erw[thn (T.item (X.compT scope ys G.objs.size xs s2 H2 fp) J J J hc i [] s' (v++ux js σ) H' _ I (M fr) st go) λr s4 ⟨u,hr,h4⟩=>?_];subst hr;erw[bX (thn h4 λN s5 ⟨y,H5,I5,r5,y5,H,a9⟩=>bX ?_)];let ac:=I5.pinned (M a9) (T.obj _ _ H);erw[vgz (hgt _ _ _ _ _ s5 (v++ux js σ) H5 y u _ ac r5 (a2 y H5 v y5 hv)) λN s6 ⟨σ',H6,I6,⟨t,a0,ep⟩,q6⟩=>?_];subst ep;refine bX (vgz (ht _ _ _ _ _ s6 (t++ux js σ) H6 _ I6 q6) λb s7 ⟨H7,I7,q7⟩=>?_)
   cases b with
   |false =>
    let#[m',hm,w']:=q7
    have O:∀b∈fp,∀o,s5.heap.get? b=some o->s7.heap.get? b=some o/\H7 b=none:=λb a o e =>
     #[(I7.pin (b,o) (cQ _ (cQ _ (zg a e)))).1,(I7.pin (b,o) (cQ _ (cQ _ (zg a e)))).2.1]
    erw[cq #[J,m',hm,i+1,t,_,a0,I7.unpinned,T.keep _ _ _ H λb a o e=>(O b a o e).1,λb a=>?_,w']];let#[o,e,d]:=T.obj _ _ H b a;erw[(O b a o e).2]
   |true =>
    erw[bX (bX (vgz (he _ _ _ _ _ s7 (t++ux js σ) H7 _ I7 q7) λu2 s7 ⟨y2,H7,I7,r7,zs,hD,hl,m',hm,w'⟩=>bX ?_)),<-vgz (w9 _ s7 (t++ux js σ) H7 (.ref s2.heap.objs.size) [y2] (.ref s2.heap.objs.size) [u2] (λN H8=>H8=upd H7 s2.heap.objs.size (.lst (zs++[y2]))) I7 J (.cons r7 .nil) #[_,zs,y2,J,J,hD,hl,J]) λN s8 h'=>?_];let#[_,H8,I8,_,e8]:=h';subst e8
    have O:∀b∈fp,∀o,s5.heap.get? b=some o->s8.heap.get? b=some o/\upd H7 s2.heap.objs.size (HO.lst (zs++[y2])) b=none:=λb a o e =>
     #[(I8.pin (b,o) (cQ _ (cQ _ (zg a e)))).1,(I8.pin (b,o) (cQ _ (cQ _ (zg a e)))).2.1]
    erw[cq (cq #[J,m',hm,i+1,t,_,a0,I8.unpinned,T.keep _ _ _ H λb a o e=>(O b a o e).1,λb a=>?_,w'])];let#[o,e,d]:=T.obj _ _ H b a;erw[(O b a o e).2]
 erw[codeAny_compStart_list (Q _) (T.self X.A 0 _ _ _ (T.keep 0 _ _ st2 (λb a o e=>F b o e)) (Q _))]
def ë{H2:Hp}{ς:It}(hc:X.calm=true)
  (he:∀(C:z4)(s2:qa)(H2:Hp)(fp:Χ),PE (X.compT scope ys C xs s2 H2 fp) elt te)
  (hgt:∀(C:z4)(s2:qa)(H2:Hp)(fp:Χ),PG (X.compT scope ys C xs s2 H2 fp) tg g)
  (hcell:∀y∈scope.names,y.2≠.cell) (hkind:scope.kind=.function)
  (hfr:∀y∈scope.names,y.2=.free->y.1∈ys) (hyc:∀y∈ys,X.env.kindOf y=some .cell) (hrel:∀y∈ys,(relabel scope X.env).names.lookup y=some .cell) (hjs:js.map (λj=>X.N[j]?)=ys.map some)
  (I2:Inv X pins σ H2 s2) (T:yek X.prog X.w X.K tg ς fp it tn) (st2:tn 0 s2.heap) (f2:∀b∈fp,ygf X pins H2 b)
  {R:z4->Hp->Prop} (h:∀D,H2 D=none->ε ς g te xs.length (ux js σ) D (R D) H2) {RR:qc->z4->Result->qa->Prop} {E:Δ}
  (hR:∀(D C:z4)(H':Hp)(s':qa)(m:Ε),ygf X pins H' C->s'.heap.Ns C m->Inv X pins σ H' s'->R D H'->RR (.ref D) C (.ok .next) s'):
  wpAny (model X.prog X.w) X.A (newList []) (λacc s₃=>'w' (newFunctionEnv scope X.env.globals (ļ ys X.env) [] X.env.qual none .none (some X.env)) (λcenv s₄ =>
   codeAny (model X.prog X.w) X.A (.compStart (.ListComp elt [#[tg,iter,[],0]] scope pos) 0 (.ref it) acc {cenv with scope:=relabel scope X.env}) (RR acc cenv.locals) s₄) E s₃) E s2 :=
 yg9 (tt:=vjn) hc (λZ Z Z Z=>yum) he hgt hcell hkind hfr hyc hrel hjs I2 T st2 f2 (λD l=>by
  let#[W,k,c]:=h D l;erw[W,k,λi m H w=>(c i m H w).imp id λ⟨f,a⟩=>#[f,λx n d y e=>?_],<-a x n d y e]) hR
def yah(hc:X.calm=true)(hi:PI X tg iter wi)(he:∀(C:z4)(s2:qa)(H2:Hp)(fp:Χ),PE (X.compT scope ys C xs s2 H2 fp) elt te)(hjs:js.map (λj=>X.N[j]?)=ys.map some)
  (hgt:∀(C:z4)(s2:qa)(H2:Hp)(fp:Χ),PG (X.compT scope ys C xs s2 H2 fp) tg g)
  (hclos:closureFor scope X.env=pure (ļ ys X.env)) (hyc:∀y∈ys,X.env.kindOf y=some .cell) (hrel:∀y∈ys,(relabel scope X.env).names.lookup y=some .cell)
  (hfr:↥(∀y∈scope.names,y.2=.free->y.1∈ys)) (hcell:↥(∀y∈scope.names,y.2≠.cell)) (hkind:↑(scope.kind=.function))
  (hnames:↥(∀y∈scope.names,y.2=.local->scope.names.lookup y.1=some .local)) (hs:autoParam (∀x,foldedSetIterable iter X.env x=pure x) aD._auto_1):
  PE X (.ListComp elt [#[tg,iter,[],0]] scope pos) (ykt wi g te xs.length js):=by refine .mk λa s σ H Q I h=>?_;rwa[eval_ListComp,wpAny_comprehension_free (use:=none) J hs hclos hkind hnames (thn (hi a s σ H _ I h) λv K p=>thn p λk s2 n=>?_)];let#[F,fp,G,ς,H2,e,B,T,d,i,h]:=n;subst e;erw[ë (R:=λD c=>Q (.ref D) c) (RR:=compPost (model X.prog X.w) X.A X.xe none (EP X a σ Q)) hc he hgt hcell hkind hfr hyc hrel hjs B T d i h ?_];intro D C c l m f t r q;erw[m,t,λE z=>#[.ref D,c,?_,J,q],<-r.turned (t':=l.toks) (λb o u e=>z.extBut b o u e) f.1 f.2.1 f.2.2.2.1 f.2.2.2.2.1 f.2.2.2.2.2]
def yvx{H:Hp}{Q:VK}{n:Nat}(h:wi σ H λς H1=>∀D,H1 D=none->ε ς g te n (ux js σ) D (λH2=>Q (.ref D) H2) H1):ykt wi g te n js σ H Q:=h
end
end
section
mutual
variable{iter elt:qh}{x:Str}{px pos:Pos}{scope:Scope}{te:TE}{wi:TI}{pins:Θ}{σ:St}{ys:Τ}{js:qj Nat}
def ο{pre:qj (Ψ)}{n:Nat}(h:List.length pre=n+1):∃v t,pre=v::t/\List.length t=n:=by
 cases pre with
 |nil=>cases h
 |cons v t=>erw[v,t,J,Nat.succ.inj h]
def yzn{ς:It}{fr:St}{D:z4}{R:Hp->Prop}{H1:Hp}(h:ur ς te fr D R H1):ε ς (xi 0) te 1 fr D R H1:=by let#[W,f,j]:=h;erw[W,f,λi m b w=>(j i m b w).imp id λ⟨e,y⟩=>#[e,λx k c d a=>?_]];let#[z,t,J,g]:=ο a;obtain rfl:=List.length_eq_zero_iff.mp g;erw[#[[some x],J,J],y x k d]
def Ŗ{H2:Hp}{ς:It}(hc:X.calm=true)
  (he:∀(C:z4)(s2:qa)(H2:Hp)(fp:Χ),PE (X.compF scope ys C x s2 H2 fp) elt te)
  (hcell:∀y∈scope.names,y.2≠.cell) (hkind:scope.kind=.function) (hx:scope.names.lookup x=some .local) (hnd:(x::ys).Nodup)
  (hfr:∀y∈scope.names,y.2=.free->y.1∈ys) (hyc:∀y∈ys,X.env.kindOf y=some .cell) (hrel:∀y∈ys,(relabel scope X.env).names.lookup y=some .cell) (hjs:js.map (λj=>X.N[j]?)=ys.map some)
  (I2:Inv X pins σ H2 s2) (T:yek X.prog X.w X.K (.Name x px) ς fp it tn) (st2:tn 0 s2.heap) (f2:∀b∈fp,ygf X pins H2 b)
  {R:z4->Hp->Prop} (h:∀D,H2 D=none->ur ς te (ux js σ) D (R D) H2) {RR:qc->z4->Result->qa->Prop} {E:Δ}
  (hR:∀(D C:z4)(H':Hp)(s':qa)(m:Ε),ygf X pins H' C->s'.heap.Ns C m->Inv X pins σ H' s'->R D H'->RR (.ref D) C (.ok .next) s'):
  wpAny (model X.prog X.w) X.A (newList []) (λacc s₃=>'w' (newFunctionEnv scope X.env.globals (ļ ys X.env) [] X.env.qual none .none (some X.env)) (λcenv s₄ =>
   codeAny (model X.prog X.w) X.A (.compStart (.ListComp elt [#[.Name x px,iter,[],0]] scope pos) 0 (.ref it) acc {cenv with scope:=relabel scope X.env}) (RR acc cenv.locals) s₄) E s₃) E s2 :=
 ë (tg:=.Name x px) (xs:=[x]) (g:=xi 0) hc he (λC s2 H2 fp=>vz (i:=0) hnd J (Or.inl (lookup_relabel_local hx)) (Or.inr (lookup_relabel_local hx))) hcell hkind hfr hyc hrel hjs I2 T st2 f2 (λD a=>yzn (h D a)) hR
def vt(hc:X.calm=true)(hi:PI X (.Name x px) iter wi)(he:∀(C:z4)(s2:qa)(H2:Hp)(fp:Χ),PE (X.compF scope ys C x s2 H2 fp) elt te)(hjs:js.map (λj=>X.N[j]?)=ys.map some)
  (hclos:closureFor scope X.env=pure (ļ ys X.env)) (hnd:⇑((x::ys).Nodup)) (hyc:∀y∈ys,X.env.kindOf y=some .cell) (hrel:∀y∈ys,(relabel scope X.env).names.lookup y=some .cell)
  (hfr:↥(∀y∈scope.names,y.2=.free->y.1∈ys)) (hcell:↥(∀y∈scope.names,y.2≠.cell)) (hkind:↑(scope.kind=.function))
  (hnames:↥(∀y∈scope.names,y.2=.local->scope.names.lookup y.1=some .local)) (hx:↑(scope.names.lookup x=some .local)) (hs:autoParam (∀x,foldedSetIterable iter X.env x=pure x) aD._auto_1):
  PE X (.ListComp elt [#[.Name x px,iter,[],0]] scope pos) (yk5 wi te js):=by refine .mk λa s σ H Q I h=>?_;rwa[eval_ListComp,wpAny_comprehension_free (use:=none) J hs hclos hkind hnames (thn (hi a s σ H _ I h) λv G n=>thn n λi s2 l=>?_)];let#[E,fp,F,ς,H2,e,z,T,d,g,h]:=l;subst e;erw[Ŗ (R:=λD c=>Q (.ref D) c) (RR:=compPost (model X.prog X.w) X.A X.xe none (EP X a σ Q)) hc he hcell hkind hx hnd hfr hyc hrel hjs z T d g h ?_];intro D C c k m f r p q;erw[m,r,λB u=>#[.ref D,c,?_,J,q],<-p.turned (t':=k.toks) (λb o t e=>u.extBut b o t e) f.1 f.2.1 f.2.2.2.1 f.2.2.2.2.1 f.2.2.2.2.2]
def yfh{i:Nat}{y:Str}{py spos:Pos}(hN:X.N.Nodup)(hy:X.N[i]?=some y)(hl:X.env.scope.names.lookup y=some .local)(hc:X.calm=true)(hi:PI X (.Name x px) iter wi)
  (he:∀(C:z4)(s2:qa)(H2:Hp)(fp:Χ),PE (X.compF scope ys C x s2 H2 fp) elt te) (hjs:js.map (λj=>X.N[j]?)=ys.map some)
  (hclos:closureFor scope X.env=pure (ļ ys X.env)) (hyc:∀y∈ys,X.env.kindOf y=some .cell) (hrel:∀y∈ys,(relabel scope X.env).names.lookup y=some .cell)
  (hsw:↑(swapsWith (.ListComp elt [#[.Name x px,iter,[],0]] scope pos) (some (.Name y py)) spos.line X.env=pure true)) (hnd:⇑((x::ys).Nodup))
  (hfr:↥(∀y∈scope.names,y.2=.free->y.1∈ys)) (hcell:↥(∀y∈scope.names,y.2≠.cell)) (hkind:↑(scope.kind=.function))
  (hnames:↥(∀y∈scope.names,y.2=.local->scope.names.lookup y.1=some .local)) (hx:↑(scope.names.lookup x=some .local)) (hs:autoParam (∀x,foldedSetIterable iter X.env x=pure x) aD._auto_1):
  PS X (.Assign [.Name y py] (.ListComp elt [#[.Name x px,iter,[],0]] scope pos) spos) (yw6 (yk5 wi te js) (xi i)):=by
 erw[.mk λa s σ H p I h=>?_];rwa[exec_Assign_Name_used _ _ _ _ hsw,bX (wpAny_standAt (bX ?_))];show wpAny _ X.A (do let _ <- comprehension (.ListComp elt [#[.Name x px,iter,[],0]] scope pos) scope X.env _ (newList []) false (eval iter X.env) (some (assign (.Name y py) X.env))) _ _ s;erw[bX (dF (wpAny_comprehension_free (use:=some (assign (.Name y py) X.env)) (Q:=λZ d=>SP X a p .next d) J hs hclos hkind hnames (thn (hi a s σ H _ I h) λv P F=>thn F λu s2 B=>?_)) (λZ d E=>cq (cq E)) λZ Z e=>e)];let#[S,fp,U,ς,H2,e,K,T,g,M,h]:=B;subst e;erw[Ŗ (R:=λD r=>xi i (.ref D) σ r p.nx) (RR:=compPost (model X.prog X.w) X.A X.xe (some (assign (.Name y py) X.env)) (λZ d=>SP X a p .next d)) hc he hcell hkind hx hnd hfr hyc hrel hjs K T g M h ?_];intro D C r d m f L G q;erw[wpAny_assign_Name (Ħ (v:=V.ref D) G hN hy (Or.inl hl) J (λl n k=>?_) (Or.inr hl)),<-m,?_,λO t=>#[_,r,?_,q]]
 .let#[b,t,c]:=k;erw[L.sameBut t λz=>?_];rcases c with c|c
  .erw[f.2.1 (z.trans c)]
  .erw[f.2.2.2.2.1 y b c z.symm]
 .erw[n.turned (t':=l.toks) (λb o c e=>t.extBut b o c e) f.1 f.2.1 f.2.2.2.1 f.2.2.2.2.1 f.2.2.2.2.2]
end
end
end L2
namespace L2
mutual
variable{st:Int}
def vg0(lo st:Int)(n:Nat):It:=#[λi Z=>i<n,λi H x H'=>H'=H/\x=.int (lo+i*st),λi Z=>n<=i]
def yc4{P:qi}{w:qe}{K:z3}{tg:qh}(it:z4)(lo st:Int)(n:Nat):yek P w K tg (vg0 lo st n) [it] it (λi h=>IsRangeIter h it (lo+(i:Nat)*st) ((n:Int)-(i:Nat)) st) where
 mem:='s'
 obj:=λi h st b c=>by
  have e:b=it:=by simpa using c
  subst e
  erw[_,st,λv z=>by
   have D:Data.fields _=Data.cell v:=z;cases D]
 keep:=λi h g st k=>k it 's' _ st
 item:=by
  intro X y r q B i a s σ H E I j d l;subst y r q;let#[m,p,L,A,x,u]:=j it 's';let W:=Walks.range (prog:=X.prog) (w:=X.w) (I.ok.hd B) it lo st n;erw[W.item i s _ _ l d λv g C M f G=>?_];let#[t,J]:=M;have F:Inv X a σ H {s with heap:=g,toks:=C}:=I.turned (λb o c e=>G b o (by simpa using c) e) m p A x u;erw[_,J,yct (s:={s with heap:=g,toks:=C}) (n:="range_iterator") f J J ∅ #[.int (lo+i*st),H,F,#[t,J],#[J,J],f,λb c=>(j b c).1]]
 done:=by
  intro X y r q B i a s σ H E I j d l;subst y r q;let#[m,p,L,A,x,u]:=j it 's';erw[wpAny_pyNext_range_end (I.ok.hd B) d (by have:n<=i:=l;omega) λg ς=>#[J,I.turned (t':=s.toks) (λb o c e=>ς b o c e) m p A x u]]
 self:=λZ Z Z Z Z st h=>wpAny_pyIter_rangeiter st h
def rgN(lo hi st:Int):Nat:=if lo<hi then ((hi-lo-1)/st+1).toNat else 0
def yq7{lo hi:Int}(hs:0<st):((rgN lo hi st:Nat):Int)=Builtin.Range.rangeSize lo hi st:=by
 unfold rgN Builtin.Range.rangeSize;rw[if_pos (show st > 0 from hs)]
 split
 .have:0<=(hi-lo-1)/st:=Int.ediv_nonneg () ();omega
 .rfl
def yjh{lo hi:Int}(hs:0<st)(hs2:st<1000000)(h1:0<=lo)(h2:lo<100000000)(h3:0<=hi)(h4:hi<100000000):Builtin.Range.small lo hi st=true:=by
 let e:=yq7 (lo:=lo) (hi:=hi) hs
 have g:(hi-lo-1)/st<=100000000:=Int.le_trans (Int.ediv_le_ediv hs (show hi-lo-1<=100000000*st by
  have:100000000*1<=100000000*st:=cS hs ∅;omega)) (by rwa[Int.mul_ediv_cancel _ (),Int.le_refl _])
 have b:((rgN lo hi st:Nat):Int)<=100000001:=by
  unfold rgN
  split
  .have:0<=(hi-lo-1)/st:=Int.ediv_nonneg () ();omega
  .decide
 have a:0<=((rgN lo hi st:Nat):Int):=Int.natCast_nonneg _;unfold Builtin.Range.small;rw[<- e];generalize ((rgN lo hi st:Nat):Int)=m at b a;have f:0<=m*st:=Int.mul_nonneg a ();have d:m*st<=100000001*1000000:=Int.mul_le_mul b () () ∅;have c:(m-1)*st=m*st-st:=by rw[Int.sub_mul,Int.one_mul]
 simp only[Builtin.Range.rangeFitsLong,cC,Bool.or_eq_true,decide_eq_true_eq,beq_iff_eq,show st > 0 from hs,if_true];omega
end
section
mutual
variable{X:Cx}{tg:qh}
def vex(ta:TA):TI:=λσ H R=>ta σ H λvs H1=>∃i j st:Int,vs=[.int i,.int j,.int st]/\(0<=i/\i<100000000/\0<=j/\j<100000000/\0<st/\st<1000000)/\R (vg0 i st (rgN i j st)) H1
def yiw{a b c:qh}{ta:TA}{p pos:Pos}(hg:Gl X "range")(hm:X.mg "range"=none)(ha:PA X [a,b,c] ta)(hs:↑(starEach [a,b,c] X.env=[(false,eval a X.env),(false,eval b X.env),(false,eval c X.env)]))(hs2:↑(starEach [b,c] X.env=[(false,eval b X.env),(false,eval c X.env)])):
  PI X tg (.Call (.Name "range" p) [a,b,c] [] pos) (vex ta):=by
 intro g s σ H R I h;erw[Call_ (Ą I hg hm boot_range (PyProof.Rows.callWith_type1 (thn (ha pos g s σ H _ I h) λF k h'=>?_) (by rw[hs,hs2]) (by rw[hs2];rfl)))];let#[E,u,x,v,l]:=h';let#[i,j,d,e,#[l,D,z,B,n,y],q]:=l;subst e
 cases v with
 |cons r rr =>
  cases rr with
  |cons r' rr =>
   cases rr with
   |cons r'' rr =>
    cases rr;let#[t,J]:=r;let#[t',J]:=r';let#[f,J]:=r'';erw[call_range_3 () (wpAny_pyIter_range (IsRange.new ..) (yjh n y l D z B) ?_) (.inl (PyProof.noPylong_small ()))];have m:Inv X g σ u {k with heap:=k.heap.push { cls:=.type "range",data:=.fields (List.toArray [.int i t,.int j t',.int d f])},toks:=k.toks}:=x.kept λb o e=>bZ _ e
    erw[(k.heap.push { cls:=.type "range",data:=.fields (List.toArray [.int i t,.int j t',.int d f])}).objs.size,[(k.heap.push { cls:=.type "range",data:=.fields (List.toArray [.int i t,.int j t',.int d f])}).objs.size],_,_,u,J,
     m.kept (t':=k.toks) λb o e=>bZ _ e,yc4 _ i d (rgN i j d),?_,λb w=>?_,q]
    .have C:i+((0:Nat):Int)*d=i:='s'
     have A:((rgN i j d:Nat):Int)-((0:Nat):Int)=Builtin.Range.rangeSize i j d:=by rw[<- yq7 n];omega
     show IsRangeIter _ _ (i+((0:Nat):Int)*d) (((rgN i j d:Nat):Int)-((0:Nat):Int)) d;rwa[C,A,cA _ J]
    .have e:b=(k.heap.push { cls:=.type "range",data:=.fields (List.toArray [.int i t,.int j t',.int d f])}).objs.size:=by simpa using w
     subst e;erw[m.fpOk (cc _) (m.hok.fresh (cc _))]
def yvj{tr:TA}{σ:St}{H:Hp}{R:It->Hp->Prop}(h:tr σ H λvs H1=>∃i j st:Int,vs=[.int i,.int j,.int st]/\(0<=i/\i<100000000/\0<=j/\j<100000000/\0<st/\st<1000000)/\R (vg0 i st (rgN i j st)) H1):vex tr σ H R:=h
def Ž{lo:Int}{n:Nat}{D:z4}{te:TE}{fr:St}{R:Hp->Prop}{H1:Hp}(f:Nat->V)(hD:H1 D=none)
  (hs:∀i H,i<n->yz H1 H->H D\((List.range i).map f)->te (some (.int (lo+i*st))::fr) H (MpK H1 D f n i))
  (hd:∀H,yz H1 H->H D\((List.range n).map f)->R H):ur (vg0 lo st n) te fr D R H1:=by
 erw[cW n (Mp H1 D f),#[n,'s',cI _,Mp.zero hD],?_];rintro i m H ⟨rfl,a,p⟩;by_cases hlt:i<n
 .erw[.inr #[hlt,λx b y=>?_]];let#[e,y]:=y;subst e y;erw[hs i _ hlt p.1 p.2]
 .have e:i=n:=()
  subst e;erw[.inl #[cc _,hd H p.1 p.2]]
end
end
section
variable{prog:qi}{w:qe}{A:qf}{E:Δ}{s:qa}
def È{it l:z4}{i:Nat}{items}{x:qc}{Q:Δ}(hit:s.heap.IsTupleIter it l i)(hl:s.heap.IsTuple l items)(hx:items[i]?=some x)
  (hQ:∀h',h'.IsTupleIter it l (i+1)->Heap.SameBut it s.heap h'->Q x {s with heap:=h'}):wpAny (model prog w) A (Builtin.SmallTypes.nextOf (.ref it)) Q E s:=by let#[g,b,c,a]:=id hit;let#[h,d,_,f,e]:=hl;unfold Builtin.SmallTypes.nextOf;erw[bX (wpAny_callSpecial?_slot (name:=Str.ofString "__next__") hit.typeIs slot_tupleiter_next (wpAny_call_entry slot_tupleiter_next hit.typeIs entry_tupleiter_next ?_ (args_tupleiter_next _)))];show wpAny _ _ (field (.ref it) 0 >>=_) _ _ s;erw[bX (dm b a (x:=.ref l) J ?_)];show wpAny _ _ (if (Value.ref l == Value.none)=true then _ else _) _ _ s;rw[if_neg (show ¬((Value.ref l == Value.none)=true)from cE)];show wpAny _ _ (field (.ref it) 1 >>=_) _ _ s;erw[bX (dm b a (x:=.int i 0) J ?_)];show wpAny _ _ (seqItems? (.ref l) >>=_) _ _ s;erw[bX (wpAny_seqItems d e ?_)];simp only[Int.toNat_natCast,hx];erw[bX (wpAny_setField b a 's' (cq #[x,J,cq (hQ _ #[_,Heap.get?_update_self _ b (Obj.isFreed_of_fields (Obj.data_mapFields a _)),(Obj.cls_mapFields ..).trans c,?_] (Heap.SameBut.update ..))]))];rw[Obj.data_mapFields a];simp[rawInt]
def ę{it l:z4}{i:Nat}{items}{Q:Δ}(hh:A.handled=none)(hit:s.heap.IsTupleIter it l i)(hl:s.heap.IsTuple l items)(hx:items[i]?=none)
  (hE:∀h' e,Heap.ExtBut it s.heap h'->(∃o,h'.get? e=some o/\o.cls=.type "StopIteration")->E (.ref e) {s with heap:=h'}):wpAny (model prog w) A (Builtin.SmallTypes.nextOf (.ref it)) Q E s:=by
 let#[j,c,g,b]:=id hit;let#[k,d,_,h,f]:=hl;unfold Builtin.SmallTypes.nextOf;erw[bX (wpAny_callSpecial?_slot (name:=Str.ofString "__next__") hit.typeIs slot_tupleiter_next (wpAny_call_entry slot_tupleiter_next hit.typeIs entry_tupleiter_next ?_ (args_tupleiter_next _)))]
 (show wpAny _ _ (field (.ref it) 0 >>=_) _ _ s);erw[bX (dm c b (x:=.ref l) J ?_)]
 (show wpAny _ _ (if (Value.ref l == Value.none)=true then _ else _) _ _ s);rw[if_neg (show ¬((Value.ref l == Value.none)=true)from cE)]
 (show wpAny _ _ (field (.ref it) 1 >>=_) _ _ s);erw[bX (dm c b (x:=.int i 0) J ?_)]
 (show wpAny _ _ (seqItems? (.ref l) >>=_) _ _ s);erw[bX (wpAny_seqItems d f ?_)]
 simp only[Int.toNat_natCast,hx];erw[bX (wpAny_rule (bX (wpAny_setField c b 's' ?_)))]
 (show wpAny _ _ (newExc (.type "StopIteration") [] >>=_) _ _ _);erw[bX ?_]
 simp only[newExc,newTuple];erw[bX (wpAny_newObj_type ?_ (by size_fits))]
 erw[bX (m:=firstArgMember _ _) (wpAny_of_eq (a:=Value.none) (by first|rfl|(simp only[firstArgMember];rfl)) (wpAny_newObj_type ?_ (by size_fits)))]
 simp only[raiseNew];erw[bX (wpAny_handled ?_)]
 (first|rw[show A.in1.handled=none from hh]|rw[hh]);erw[bX (cq (wpAny_throw ?_))]
 erw[hE _ _ (((Heap.SameBut.update _ ..).extBut.push _).push _) #[_,cA _ J,J]]
end
section
open AutoSeq1 (wpAny_loadPart')
set_option maxRecDepth 100000
end
end L2
namespace L2
section
mutual
variable{σ:St}{H:Hp}{Q:VK}{td ty tx tv:TE}
def vcy(h:td σ H λx H1=>ty σ H1 λy H2=>∃a v,x=.ref a/\Ļ H2 a y (some v)/\Q v H2):vd0 td ty σ H Q:=h
def vhg(h:ty σ H λy H1=>td σ H1 λx H2=>∃a o,x=.ref a/\Ļ H2 a y o/\Q (.bl o.isSome) H2):vj8 ty td σ H Q:=h
def yoi(h:ty σ H λy H1=>td σ H1 λx H2=>∃a o,x=.ref a/\Ļ H2 a y o/\Q (.bl (!o.isSome)) H2):yjt ty td σ H Q:=h
def vcn{nx bk ct:Ζ}{rt:VK}(h:tv σ H λv H1=>td σ H1 λx H2=>ty σ H2 λy H3=>∃a H4,x=.ref a/\yhs H3 a y v H4/\nx σ H4):vdx td ty tv #[nx,rt,bk,ct] σ H:=h
def ywh(h:∀p,H p=none->Q (.ref p) (upd H p (.dT []))):yqr σ H Q:=h
end
end
open PySem PySem.Spec PyProof.Rows
mutual
variable{i1 i2 l1 l2:z4}{xs ys:Array qc}{elts:qj qh}{k1 k2:Nat}{tpos:Pos}{P:qi}{a:qc}
def vjb(Sq:Hp->z4->qj V->Prop)(a b:z4):It :=
 #[λi H=>∃xs ys x y,Sq H a xs/\Sq H b ys/\xs[i]?=some x/\ys[i]?=some y,
  λi H v H'=>∃t x y,v=.ref t/\H t=none/\H'=upd H t (.tup [x,y])/\(∀xs,Sq H a xs->xs[i]?=some x)/\(∀ys,Sq H b ys->ys[i]?=some y),
  λi H=>∃xs ys,Sq H a xs/\Sq H b ys/\(xs.length<=i\/ys.length<=i)]
abbrev Itz(K:z3)(a b:z4):It:=vjb (SqL K) a b
structure Zap(z TI TO i1 i2:z4):Prop where
 a1:TI≠z
 a2:TO≠z
 a3:i1≠z
 a4:i2≠z
 a5:TI≠TO
 a6:TI≠i1
 a7:TI≠i2
 a8:TO≠i1
 a9:TO≠i2
 b1:i1≠i2
def vgu(Ii:qg->z4->z4->Nat->Prop)(z TI TO i1 i2 l1 l2:z4)(i:Nat)(h:qg):Prop:=IsZip h z TI TO .none/\IsPair h TI (.ref i1) (.ref i2)/\(∃a b,IsPair h TO a b)/\Ii h i1 l1 i/\Ii h i2 l2 i
abbrev Zst:=vgu Heap.IsListIter
def z5{h:qg}{a b:z4}{o o':Obj}(e:h.get? a=some o)(e':h.get? b=some o')(n:o.cls≠o'.cls):a≠b:=by rintro rfl;rw[e]at e';cases e';erw[n J]
def yp1(z:Nat):Zap (z+4) (z+2) (z+3) z (z+1):=by constructor<;>(show (_:Nat)≠(_:Nat);omega)
def nT{a b:String}(h:Value.type a≠Value.type b):Value.type a≠Value.type b:=h
def Zap.apart{X:Cx}{pins:Θ}{σ:St}{H:Hp}{s:qa}{z TI TO:z4}{i:Nat}{xs ys:Ο}(d:Zap z TI TO i1 i2)(st:Zst z TI TO i1 i2 l1 l2 i s.heap)(p:PlainL s.heap l1 xs.toArray)(q:PlainL s.heap l2 ys.toArray)(_:'i' s):ZipApart z TI TO i1 i2 l1 l2:=by
 let#[l,o,#[a,b,c],#[v,k,n,_],#[t,m,j,_]]:=st;let#[u,h,f,_]:=p.isList;let#[r,e,g,_]:=q.isList
 erw[d.a1,d.a2,d.a3,d.a4,d.a5,d.a6,d.a7,d.a8,d.a9,d.b1,
  z5 h l (by rwa[f,nT ∅]),z5 h c (by rwa[f,nT ∅]),z5 h k (by rw[f,n];decide),z5 h m (by rw[f,j];decide),
  z5 e l (by rwa[g,nT ∅]),z5 e c (by rwa[g,nT ∅]),z5 e k (by rw[g,n];decide),z5 e m (by rw[g,j];decide)]
structure ZK(K:z3)(Sq:Hp->z4->qj V->Prop)(Ii:qg->z4->z4->Nat->Prop)(z TI TO i1 i2 l1 l2:z4):Prop where
 ob:∀{h:qg}{i l:z4}{k:Nat},Ii h i l k->∃o,h.get? i=some o/\∃fs,o.data=.fields fs
 kp:∀{h h':qg}{i l:z4}{k:Nat},Ii h i l k->(∀o,h.get? i=some o->h'.get? i=some o)->Ii h' i l k
 inj:∀{X:Cx}{pins:Θ}{σ:St}{H:Hp}{s:qa}{l:z4}{xs ys:Υ},X.K=K->'i' s->Sq H l xs->Sq H l ys->xs=ys
 nx:∀{X:Cx}{pins:Θ}{σ:St}{H:Hp}{s:qa}{E:Δ}{i:Nat}{xs ys:Υ}{x y:V},X.K=K->'i' s->H TO=none->vgu Ii z TI TO i1 i2 l1 l2 i s.heap->Sq H l1 xs->Sq H l2 ys->xs[i]?=some x->ys[i]?=some y ->
  ∃u u',xr x u/\xr y u'/\ZipApart z TI TO i1 i2 l1 l2/\∀Q:ql qc->qa->Prop,(∀h',IsZip h' z TI TO (rawInt 'n')->IsPair h' TO u u'->Ii h' i1 l1 (i+1)->Ii h' i2 l2 (i+1)->IsPair h' 'n' u u'->h'.objs.size='n'+1->(∀c o,c≠z->c≠TO->c≠i1->c≠i2->s.heap.get? c=some o->h'.get? c=some o)->Q (some (.ref 'n')) {s with heap:=h'})->'w' (pyNext (.ref z)) Q E s
 sp:∀{X:Cx}{pins:Θ}{σ:St}{H:Hp}{s:qa}{E:Δ}{i:Nat}{xs ys:Υ},X.K=K->X.calm=true->'i' s->H TO=none->vgu Ii z TI TO i1 i2 l1 l2 i s.heap->Sq H l1 xs->Sq H l2 ys->(xs.length<=i\/ys.length<=i) ->
  ∀Q:ql qc->qa->Prop,(∀h',(∀c o,c≠z->c≠TO->c≠i1->c≠i2->s.heap.get? c=some o->h'.get? c=some o)->Q none {s with heap:=h'})->'w' (pyNext (.ref z)) Q E s
def yb2{w:qe}{K:z3}{x1}{Sq:Hp->z4->qj V->Prop}{Ii:qg->z4->z4->Nat->Prop}{z TI TO:z4}(zk:ZK K Sq Ii z TI TO i1 i2 l1 l2):
  yek P w K (.Tuple elts x1 tpos) (vjb Sq l1 l2) [z,TI,TO,i1,i2] z (vgu Ii z TI TO i1 i2 l1 l2) where
 mem:='s'
 obj:=λi h B b d=>by
  let#[S,r,#[_,_,A],h1,h2]:=B;let#[o1,e1,_,d1]:=zk.ob h1;let#[o2,e2,_,d2]:=zk.ob h2;simp only[cr,List.not_mem_nil,or_false]at d;rcases d with rfl|rfl|rfl|rfl|rfl
  .erw[_,S,λv z=>by cases z]
  .erw[_,r,λv z=>by cases z]
  .erw[_,A,λv z=>by cases z]
  .erw[o1,e1,λv z=>by rw[d1]at z;cases z]
  .erw[o2,e2,λv z=>by rw[d2]at z;cases z]
 keep:=λi h L B k=>by
  let#[S,r,#[a,b,A],h1,h2]:=B;erw[k z 's' _ S,k TI 's' _ r,#[a,b,k TO 's' _ A],zk.kp h1 λo e=>k i1 's' o e,zk.kp h2 λo e=>k i2 's' o e]
 item:=by
  intro X hP hw hK hc i F s σ H E I p B hg;subst hP hw hK;let#[xs,Y,x,y,M,C,j,hy]:=hg;let#[u,u',ru,a8,D,nx]:=zk.nx (E:=E) J I (p TO 's').1 B M C j hy;let#[S,r,#[va,vb,A],a0,a7]:=B;erw[nx _ λL a1 a2 a3 a4 a5 a6 hk=>?_,<-_,J,wpAny_letOwnedTupleGo_zip a1 λl T g=>?_];have t:H 'n'=none:=I.hok.fresh (cc _);have lz:z<'n':=cB S;have lo:TO<'n':=cB A;have lI:TI<'n':=cB r;have a9:i1<'n':=by let#[o,e,_]:=zk.ob a0;erw[cB e]
  have aa:i2<'n':=by let#[o,e,_]:=zk.ob a7;erw[cB e]
  have keep:∀b o,b≠z->b≠TO->b≠i1->b≠i2->s.heap.get? b=some o->l.get? b=some o:=λb o N Z O Q e=>(g.2 b N).trans (hk b o N Z O Q e);have R:l.get? 'n'=some { cls:=.type "tuple",data:=.seq (List.toArray [u,u'])}:=(g.2 _ (Nat.ne_of_gt lz)).trans a5;have U:∀{b v},H b=some v->b≠z/\b≠TO/\b≠i1/\b≠i2:=λ{b v}e=>#[yb e (p z 's').1,yb e (p TO 's').1,yb e (p i1 's').1,yb e (p i2 's').1]
  have ς:HOk X.prog X.w (upd H 'n' (.tup [x,y])) l:=λb o e=>by
   by_cases d:b='n'
   .subst d;rw[ya]at e;cases e;exists by show 2<=sizeLine;decide,[u,u'],.cons ru (.cons a8 .nil),#[_,R,J,_,J]
   .rw[yk d]at e;refine(I.hok b o e).stay (λc v m q=>?_) (λc q=>by rwa[yk (yb q t),q]) λc Y q=>by rw[yk (yb q t)];exact q
    obtain⟨N,Z,O,Q⟩:c≠z/\c≠TO/\c≠i1/\c≠i2:=by
     rcases m with rfl|m
     .erw[U e]
     .erw[U m]
    erw[keep c v N Z O Q q]
  have un:Un (frs X.stack) [z,TI,TO,i1,i2] H (upd H 'n' (.tup [x,y])) s.heap l:=by
   have G:∀{b o},b∉[z,TI,TO,i1,i2]->s.heap.get? b=some o->l.get? b=some o:=λ{b o}d e=>keep b o (λq=>d (by simp[q])) (λq=>d (by simp[q])) (λq=>d (by simp[q])) (λq=>d (by simp[q])) e
   erw[λb o e n W j=>G j e,λb o e n W j=>#[o.slots,G j e],λb o e n W=>by rwa[yk (cY (cB e)),n],λb o e j=>#[o,G j e],
    λb Y e=>by rwa[yk (yb e t),e],λb o v e=>by rwa[yk (yb e t),e],λb ps e=>#[#[],by rw[yk (yb e t),e];simp]]
  have I1:Inv X F σ (upd H 'n' (.tup [x,y])) {s with heap:=l}:=I.call' (s':={s with heap:=l}) J un ς I.bare λb d=>by
   let f:=p b d;erw[f.2.2.2.1,f.2.1,f.2.2.2.2.1,f.2.2.2.2.2]
  erw[.ref 'n',_,I1,J,#[_,x,y,J,t,J,λzs h=>by rwa[zk.inj J I h M,j],λzs h=>by rwa[zk.inj J I h C,hy]],?_,λb d=>?_]
  .erw[T,keep _ _ D.TIz D.TITO D.TIi1 D.TIi2 r,#[u,u',(g.2 _ D.TOz).trans a2],zk.kp a3 λo e=>(g.2 _ D.i1z).trans e,zk.kp a4 λo e=>(g.2 _ D.i2z).trans e]
  .rw[yk (λq=>?_)]
   .erw[(p b d).1]
   .have M:b<'n':=by
     simp only[cr,List.not_mem_nil,or_false]at d;rcases d with rfl|rfl|rfl|rfl|rfl<;>assumption
    erw[absurd q (cY M)]
 done:=by
  intro X hP hw hK hc i F s σ H E I p B hg;subst hP hw hK;let#[xs,Y,M,C,j]:=hg;erw[zk.sp J hc I (p TO 's').1 B M C j _ λL hk=>#[J,?_]];have U:∀{b v},H b=some v->b≠z/\b≠TO/\b≠i1/\b≠i2:=λ{b v}e=>#[yb e (p z 's').1,yb e (p TO 's').1,yb e (p i1 's').1,yb e (p i2 's').1]
  have ς:HOk X.prog X.w H L:=λb o e=>by
   erw[(I.hok b o e).stay (λc v m q=>?_) (λc q=>q) λc Y q=>q]
   obtain⟨N,Z,O,Q⟩:c≠z/\c≠TO/\c≠i1/\c≠i2:=by
    rcases m with rfl|m
    .erw[U e]
    .erw[U m]
   erw[hk c v N Z O Q q]
  have un:Un (frs X.stack) [z,TI,TO,i1,i2] H H s.heap L:=by
   have G:∀{b o},b∉[z,TI,TO,i1,i2]->s.heap.get? b=some o->L.get? b=some o:=λ{b o}d e=>hk b o (λq=>d (by simp[q])) (λq=>d (by simp[q])) (λq=>d (by simp[q])) (λq=>d (by simp[q])) e;erw[λb o e n W j=>G j e,λb o e n W j=>#[o.slots,G j e],λb o e n W=>n,λb o e j=>#[o,G j e],λb Y e=>e,λb o v e=>e,λb ps e=>#[#[],by rw[e];simp]]
  exact I.call' (s':={s with heap:=L}) J un ς I.bare λb d=>by
   let f:=p b d;erw[f.2.2.2.1,f.2.1,f.2.2.2.2.1,f.2.2.2.2.2]
 self:=λW W W W W B h=>wpAny_pyIter_zip B.1 h
def yn2{w:qe}{K:z3}{x1}(l1 l2 z TI TO i1 i2:z4)(d:Zap z TI TO i1 i2):
  yek P w K (.Tuple elts x1 tpos) (Itz K l1 l2) [z,TI,TO,i1,i2] z (Zst z TI TO i1 i2 l1 l2):=yb2 #[λ⟨o,e,_,d⟩=>#[o,e,_,d],λh f=>h.at f,λ{X a σ H s l R T}r I h g=>by subst r;erw[I.list_inj h g],λ{X a σ H s E i R T x y}r I W B G q S Z=>by
  subst r;let#[ς,M,p,F]:=I.list G;let#[t,m,C,v]:=I.list q;let#[u,hu,ru]:=M.get S;let#[Y,L,O]:=m.get Z;let D:=d.apart B p C I;let#[N,c,#[va,U,n],b,j]:=B
  erw[u,Y,ru,O,D,λQ k=>wpAny_pyNext_zip_item D N c n b j p.isList C.isList (by simpa using hu) (by simpa using L) k],λ{X a σ H s E i R T}r hc I W B G q S Q k=>by
  subst r;let#[ς,M,p,F]:=I.list G;let#[t,m,C,v]:=I.list q;let D:=d.apart B p C I;let#[N,c,#[va,U,n],b,j]:=B;let hl:=M.length;let a0:=m.length;erw[wpAny_pyNext_zip_end (show X.A.handled=none from I.ok.hd hc) D N c n b j p.isList C.isList (by simp;omega) k]]
end
section
mutual
variable{X:Cx}
def vjf(K:z3)(ta:TA):TI:=λσ H R=>ta σ H λvs H1=>∃a b,vs=[.ref a,.ref b]/\(∃xs ys,SqL K H1 a xs/\SqL K H1 b ys)/\R (Itz K a b) H1
def ysf{x1}{l m:qh}{ta:TA}{p pos:Pos}(hg:Gl X "zip")(hm:X.mg "zip"=none)(ha:PA X [l,m] ta)(hs:↑(starEach [l,m] X.env=[(false,eval l X.env),(false,eval m X.env)]))(hs2:↑(starEach [m] X.env=[(false,eval m X.env)])):
  PI X (.Tuple elts x1 tpos) (.Call (.Name "zip" p) [l,m] [] pos) (vjf X.K ta):=by
 intro g s σ H R I h;erw[Call_ (Ą I hg hm (show bootBuiltins "zip"=some (.type "zip") by decide+kernel) (PyProof.Rows.callWith_type1 (thn (ha pos g s σ H _ I h) λO c h'=>?_) (by rw[hs,hs2]) (by rw[hs2];rfl)))];let#[L,E,f,w,A]:=h';let#[a,b,e,#[N,P,y,o],q]:=A;subst e
 cases w with
 |cons r rr =>
  cases rr with
  |cons r' rr =>
   cases rr;cases r;cases r';let#[z,M,F,j]:=f.list y;let#[u,C,t,G]:=f.list o;erw[call_zip_2 F.isList t.isList λς j i k B v D x=>?_,<-wpAny_pyIter_zip j ?_];have n:Zap (c.heap.objs.size+4) (c.heap.objs.size+2) (c.heap.objs.size+3) c.heap.objs.size (c.heap.objs.size+1):=yp1 _;erw[c.heap.objs.size+4,[c.heap.objs.size+4,c.heap.objs.size+2,c.heap.objs.size+3,c.heap.objs.size,c.heap.objs.size+1],_,_,E,J,f.kept (t':=c.toks) x,yn2 a b _ _ _ _ _ n,#[j,i,#[_,_,k],B,v],λb d=>?_,q]
   have d:c.heap.objs.size<=b:=by
    simp only[cr,List.not_mem_nil,or_false]at d;rcases d with rfl|rfl|rfl|rfl|rfl<;>omega
   erw[f.fpOk d (f.hok.fresh d)]
def vbs{K:z3}{ta:TA}{σ:St}{H:Hp}{R:It->Hp->Prop}(h:ta σ H λvs H1=>∃a b,vs=[.ref a,.ref b]/\(∃xs ys,SqL K H1 a xs/\SqL K H1 b ys)/\R (Itz K a b) H1):vjf K ta σ H R:=h
end
end
def Ŝ{K:z3}{a b D:z4}{xs ys:Υ}{g:TG}{te:TE}{n:Nat}{fr:St}{R:Hp->Prop}{H1:Hp}(f:Nat->V)(hq:SqL K H1 a xs)(hq':SqL K H1 b ys)(hl:ys.length=xs.length)(hD:H1 D=none)
  (hs:∀i x y H t pre,xs[i]?=some x->ys[i]?=some y->yz H1 H->H D\((List.range i).map f)->H t=none->List.length pre=n->g (.ref t) (pre++fr) (upd H t (.tup [x,y])) λσ' H'=>(∃pre',List.length pre'=n/\σ'=pre'++fr)/\te σ' H' (MpK H1 D f xs.length i))
  (hd:∀H,yz H1 H->H D\((List.range xs.length).map f)->R H):ε (Itz K a b) g te n fr D R H1:=by
 erw[cW xs.length (Mp H1 D f),#[xs.length,'s',cI _,Mp.zero hD],?_];rintro i m H ⟨rfl,o,p⟩;let q:=p.1.seq hq;let c:=p.1.seq hq';by_cases hlt:i<xs.length
 .erw[.inr #[#[xs,ys,xs[i],ys[i]'(),q,c,by simp[hlt],by simp[hl,hlt]],λy H' pre h d=>?_]];let#[t,x,y,J,k,J,l,j]:=h;erw[hs i x y H t pre (l xs q) (j ys c) p.1 p.2 k d]
 .have e:i=xs.length:=()
  subst e;erw[.inl #[#[xs,ys,q,c,.inl (cc _)],hd H p.1 p.2]]
section
variable{X:Cx}{iter elt tg:qh}{xs:Τ}{g:TG}{pos:Pos}{scope:Scope}{te:TE}{wi:TI}{ys:Τ}{js:qj Nat}
def ym0{i:Nat}{y:Str}{py spos:Pos}(hN:X.N.Nodup)(hy:X.N[i]?=some y)(hl:X.env.scope.names.lookup y=some .local)(hc:X.calm=true)(hi:PI X tg iter wi)
  (he:∀(C:z4)(s2:qa)(H2:Hp)(fp:Χ),PE (X.compT scope ys C xs s2 H2 fp) elt te) (hjs:js.map (λj=>X.N[j]?)=ys.map some)
  (hgt:∀(C:z4)(s2:qa)(H2:Hp)(fp:Χ),PG (X.compT scope ys C xs s2 H2 fp) tg g)
  (hclos:closureFor scope X.env=pure (ļ ys X.env)) (hyc:∀y∈ys,X.env.kindOf y=some .cell) (hrel:∀y∈ys,(relabel scope X.env).names.lookup y=some .cell)
  (hsw:↑(swapsWith (.ListComp elt [#[tg,iter,[],0]] scope pos) (some (.Name y py)) spos.line X.env=pure true))
  (hfr:↥(∀y∈scope.names,y.2=.free->y.1∈ys)) (hcell:↥(∀y∈scope.names,y.2≠.cell)) (hkind:↑(scope.kind=.function))
  (hnames:↥(∀y∈scope.names,y.2=.local->scope.names.lookup y.1=some .local)) (hs:autoParam (∀x,foldedSetIterable iter X.env x=pure x) aD._auto_1):
  PS X (.Assign [.Name y py] (.ListComp elt [#[tg,iter,[],0]] scope pos) spos) (yw6 (ykt wi g te xs.length js) (xi i)):=by
 erw[.mk λa s σ H r I h=>?_];rwa[exec_Assign_Name_used _ _ _ _ hsw,bX (wpAny_standAt (bX ?_))];show wpAny _ X.A (do let _ <- comprehension (.ListComp elt [#[tg,iter,[],0]] scope pos) scope X.env _ (newList []) false (eval iter X.env) (some (assign (.Name y py) X.env))) _ _ s;erw[bX (dF (wpAny_comprehension_free (use:=some (assign (.Name y py) X.env)) (Q:=λZ d=>SP X a r .next d) J hs hclos hkind hnames (thn (hi a s σ H _ I h) λv S G=>thn G λB s2 E=>?_)) (λZ d F=>cq (cq F)) λZ Z e=>e)];let#[U,fp,W,ς,H2,e,L,T,k,O,h]:=E;subst e;erw[ë (R:=λD t=>xi i (.ref D) σ t r.nx) (RR:=compPost (model X.prog X.w) X.A X.xe (some (assign (.Name y py) X.env)) (λZ d=>SP X a r .next d)) hc he hgt hcell hkind hfr hyc hrel hjs L T k O h ?_];intro D C t d m f M K q;erw[wpAny_assign_Name (Ħ (v:=V.ref D) K hN hy (Or.inl hl) J (λn p l=>?_) (Or.inr hl)),<-m,?_,λP u=>#[_,t,?_,q]]
 .let#[b,u,c]:=l;erw[M.sameBut u λz=>?_];rcases c with c|c
  .erw[f.2.1 (z.trans c)]
  .erw[f.2.2.2.2.1 y b c z.symm]
 .erw[p.turned (t':=n.toks) (λb o c e=>u.extBut b o c e) f.1 f.2.1 f.2.2.2.1 f.2.2.2.2.1 f.2.2.2.2.2]
end
section
mutual
variable{X:Cx}
noncomputable def onI(f:Int->Int):V->V
 | .int i=>.int (f i)
 |v=>v
def yjz(f:Int->Int)(ns:Ρ):(ns.map V.int).map (onI f)=(ns.map f).map V.int:=by rw[cL,cL];rfl
def yli{pre:qj (Ψ)}(h:List.length pre=2):∃v1 v2,pre=[v1,v2]:=by let#[v1,t,J,a]:=ο h;let#[v2,t,J,b]:=ο a;erw[v1,v2,by rw[List.length_eq_zero_iff.mp b]]
end
end
section
mutual
variable{X:Cx}
def ve2:V->qj V->Hp->VK->Prop:=λx vs H Q=>∃i:Int,x=.int i/\vs=[]/\Q (.int (Builtin.Int.intBits i:Nat)) H
def yj3:MtR X "int.bit_length" ve2:=by intro b s σ H x f v e Q I c d h;let#[i,J,J,q]:=h;let#[t,J]:=c;let a:=d.zero;subst a;erw[PyProof.Rows.call_int_bit_length #[.int _,H,I.tok _,#[_,J],q]]
def vaz{K:z3}{i:Int}{H:Hp}{Q:VK}(h:Q (.int (Builtin.Int.intBits i:Nat)) H):tyV K "int" (.int i) H/\ve2 (.int i) [] H Q:=#[J,i,J,J,h]
end
end
section
mutual
variable{prog:qi}{w:qe}{A:qf}{E:Δ}{s:qa}
def yoa{z TI TO:z4}{x y b:qc}{Q:Δ}(D:ZipApart z TI TO i1 i2 l1 l2)(hz:IsZip s.heap z TI TO .none)(hTI:IsPair s.heap TI (.ref i1) (.ref i2))(hTO:IsPair s.heap TO a b)
  (h1:s.heap.IsTupleIter i1 l1 k1) (h2:s.heap.IsTupleIter i2 l2 k2) (hl1:s.heap.IsTuple l1 xs) (hl2:s.heap.IsTuple l2 ys) (hx:xs[k1]?=some x) (hy:ys[k2]?=some y)
  (hQ:∀h',IsZip h' z TI TO (rawInt 'n')->IsPair h' TO x y->h'.IsTupleIter i1 l1 (k1+1)->h'.IsTupleIter i2 l2 (k2+1)->IsPair h' 'n' x y->h'.objs.size='n'+1->(∀c o,c≠z->c≠TO->c≠i1->c≠i2->s.heap.get? c=some o->h'.get? c=some o)->Q (.ref 'n') {s with heap:=h'}):
  wpAny (model prog w) A (Builtin.«zip.__next__» #[[.ref z],[]]) (λfin s'=>∃v,fin=.done (.ret v)/\Q v s') E s:=by
 (show wpAny _ _ (field (.ref z) 2 >>=_) _ _ _);erw[bX (dm hz J (x:=.bool false) J ?_)]
 (show wpAny _ _ (field (.ref z) 3 >>=_) _ _ _);erw[bX (dm hz J (x:=.ref TI) J ?_),<-bX (wpAny_seqItems hTI J ?_)]
 (show wpAny _ _ (Builtin.SmallTypes.ownedTupleIsFree (.ref z) >>=_) _ _ _);erw[bX ?_];unfold Builtin.SmallTypes.ownedTupleIsFree
 erw[bX (dm hz J (x:=.none) J (cq ?_))];simp only[if_true];erw[bX (wpAny_rule ?_),<-bX (dm hz J (x:=.ref TO) J ?_),<-bX (wpAny_setField_rec hz 's' λh₁ hz₁ hs₁=>?_)]
 replace hz₁:IsZip h₁ z TI TO .ellipsis:=hz₁;erw[bX ?_];simp only[List.zipIdx_cons,List.zipIdx_nil,List.forIn_cons,List.forIn_nil]
 erw[bX (bX (wpAny_onRaise ?_))];(show wpAny _ _ (Builtin.SmallTypes.nextOf (.ref i1) >>=_) _ _ _);erw[bX (È (h1.at λo e=>hs₁.extBut _ _ D.i1z e) (hl1.extBut hs₁.extBut D.l1z) hx λh₂ h1₂ hs₂=>cq ?_)];have hTO₂:IsPair h₂ TO a b:=hs₂.extBut _ _ D.TOi1 (hs₁.extBut _ _ D.TOz hTO);erw[bX (wpAny_seqItems hTO₂ J ?_),<-bX (wpAny_updateSeq_pair hTO₂ λh₃ hTO₃ hs₃=>?_)];replace hTO₃:IsPair h₃ TO x b:=hTO₃;erw[bX (wpAny_letGo (cq ?_)),<-bX (bX (wpAny_onRaise ?_))];(show wpAny _ _ (Builtin.SmallTypes.nextOf (.ref i2) >>=_) _ _ _);erw[bX (È (h2.at λo e=>hs₃.extBut _ _ D.TOi2.symm (hs₂.extBut _ _ D.i12.symm (hs₁.extBut _ _ D.i2z e))) (((hl2.extBut hs₁.extBut D.l2z).extBut hs₂.extBut D.l2i1).extBut hs₃.extBut D.l2TO) hy λh₄ h2₄ hs₄=>cq ?_)];have hTO₄:IsPair h₄ TO x b:=hs₄.extBut _ _ D.TOi2 hTO₃;erw[bX (wpAny_seqItems hTO₄ J ?_),<-bX (wpAny_updateSeq_pair hTO₄ λh₅ hTO₅ hs₅=>?_)];replace hTO₅:IsPair h₅ TO x y:=hTO₅;erw[bX (wpAny_letGo (cq (cq ?_))),<-bX (wpAny_seqItems hTO₅ J ?_),<-bX (wpAny_newTuple ?_)];have i:h₅.objs.size='n':=by(rw[hs₅.1,hs₄.1,hs₃.1,hs₂.1,hs₁.1])
 have hz₅:IsZip h₅ z TI TO .ellipsis:=(hs₅.extBut _ _ D.TOz.symm (hs₄.extBut _ _ D.i2z.symm (hs₃.extBut _ _ D.TOz.symm (hs₂.extBut _ _ D.i1z.symm hz₁))));have hk₅:∀c o,c≠z->c≠TO->c≠i1->c≠i2->s.heap.get? c=some o->h₅.get? c=some o:=λc o f j l m e=>hs₅.extBut _ _ j (hs₄.extBut _ _ m (hs₃.extBut _ _ j (hs₂.extBut _ _ l (hs₁.extBut _ _ f e))));have h1₅:h₅.IsTupleIter i1 l1 (k1+1):=h1₂.at λo e=>hs₅.extBut _ _ D.TOi1.symm (hs₄.extBut _ _ D.i12 (hs₃.extBut _ _ D.TOi1.symm e));have h2₅:h₅.IsTupleIter i2 l2 (k2+1):=h2₄.at λo e=>hs₅.extBut _ _ D.TOi2.symm e;have d:z<h₅.objs.size:=(cB hz₅)
 (show wpAny _ _ (Builtin.SmallTypes.ownedTupleHandOut (.ref z) (.ref h₅.objs.size) >>=_) _ _ _);erw[bX ?_];unfold Builtin.SmallTypes.ownedTupleHandOut
 have hz₆:IsZip (h₅.push { cls:=.type "tuple",data:=.seq (List.toArray [x,y])}) z TI TO .ellipsis:=(bZ _ hz₅);erw[bX (wpAny_setField_rec hz₆ 's' λh₇ hz₇ hs₇=>?_)];replace hz₇:IsZip h₇ z TI TO (rawInt h₅.objs.size):=hz₇;erw[wpAny_setField_rec hz₇ 's' λh₈ hz₈ hs₈=>?_];replace hz₈:IsZip h₈ z TI TO (rawInt h₅.objs.size):=hz₈;have k:∀c o,c≠z->h₅.get? c=some o->h₈.get? c=some o:=(λc o f e=>hs₈.extBut _ _ f (hs₇.extBut _ _ f (bZ _ e)));have hT₈:IsPair h₈ h₅.objs.size x y:=(hs₈.extBut _ _ (Nat.ne_of_gt d) (hs₇.extBut _ _ (Nat.ne_of_gt d) (cA _ J)));have g:h₈.objs.size=h₅.objs.size+1:=by(rw[hs₈.1,hs₇.1,Heap.size_push])
 (rw[i]at hz₈ hT₈ g);erw[cq #[_,J,?_]];show Q (.ref h₅.objs.size) _;rw[i]
 erw[hQ h₈ hz₈ (k _ _ D.TOz hTO₅) (h1₅.at λo e=>k _ o D.i1z e) (h2₅.at λo e=>k _ o D.i2z e) hT₈ g (λc o f j l m e=>k c o f (hk₅ c o f j l m e))]
def yus{z TI TO:z4}{b:qc}{Q:Fin->qa->Prop}(hh:A.handled=none)(D:ZipApart z TI TO i1 i2 l1 l2)(hz:IsZip s.heap z TI TO .none)(hTI:IsPair s.heap TI (.ref i1) (.ref i2))(hTO:IsPair s.heap TO a b)
  (h1:s.heap.IsTupleIter i1 l1 k1) (h2:s.heap.IsTupleIter i2 l2 k2) (hl1:s.heap.IsTuple l1 xs) (hl2:s.heap.IsTuple l2 ys) (hend:xs[k1]?=none\/ys[k2]?=none)
  (hE:∀h' e,(∀c o,c≠z->c≠TO->c≠i1->c≠i2->s.heap.get? c=some o->h'.get? c=some o)->(∃o,h'.get? e=some o/\o.cls=.type "StopIteration")->E (.ref e) {s with heap:=h'}):wpAny (model prog w) A (Builtin.«zip.__next__» #[[.ref z],[]]) Q E s:=by
 (show wpAny _ _ (field (.ref z) 2 >>=_) _ _ _);erw[bX (dm hz J (x:=.bool false) J ?_)]
 (show wpAny _ _ (field (.ref z) 3 >>=_) _ _ _);erw[bX (dm hz J (x:=.ref TI) J ?_),<-bX (wpAny_seqItems hTI J ?_)]
 (show wpAny _ _ (Builtin.SmallTypes.ownedTupleIsFree (.ref z) >>=_) _ _ _);erw[bX ?_];unfold Builtin.SmallTypes.ownedTupleIsFree
 erw[bX (dm hz J (x:=.none) J (cq ?_))];simp only[if_true];erw[bX (wpAny_rule ?_),<-bX (dm hz J (x:=.ref TO) J ?_),<-bX (wpAny_setField_rec hz 's' λh₁ hz₁ hs₁=>?_)]
 replace hz₁:IsZip h₁ z TI TO .ellipsis:=hz₁;erw[bX ?_];simp only[List.zipIdx_cons,List.zipIdx_nil,List.forIn_cons,List.forIn_nil]
 erw[bX (bX (wpAny_onRaise ?_))];(show wpAny _ _ (Builtin.SmallTypes.nextOf (.ref i1) >>=_) _ _ _)
 cases hx:xs[k1]? with
 |none =>
  erw[bX (ę hh (h1.at λo e=>hs₁.extBut _ _ D.i1z e) (hl1.extBut hs₁.extBut D.l1z) hx λh₂ e hs₂ j=>?_)];let#[l,d,f]:=j;have hz₂:IsZip h₂ z TI TO .ellipsis:=hs₂ _ _ D.i1z.symm hz₁;have g:e≠z:=(λx=>by(subst x;rw[hz₂]at d;cases d;simp at f));erw[wpAny_setField_rec hz₂ 's' λh₃ Z hs₃=>hE h₃ e (λc o i Z k Z x=>hs₃.extBut _ _ i (hs₂ _ _ k (hs₁.extBut _ _ i x))) #[l,hs₃.extBut _ _ g d,f]]
 |some x =>
  have n:ys[k2]?=none:=by(rcases hend with h|h;(rw[hx]at h;cases h);erw[h])
  erw[bX (È (h1.at λo e=>hs₁.extBut _ _ D.i1z e) (hl1.extBut hs₁.extBut D.l1z) hx λh₂ h1₂ hs₂=>cq ?_)];have hTO₂:IsPair h₂ TO a b:=(hs₂.extBut _ _ D.TOi1 (hs₁.extBut _ _ D.TOz hTO));erw[bX (wpAny_seqItems hTO₂ J ?_),<-bX (wpAny_updateSeq_pair hTO₂ λh₃ hTO₃ hs₃=>?_),<-bX (wpAny_letGo (cq ?_)),<-bX (bX (wpAny_onRaise ?_))];(show wpAny _ _ (Builtin.SmallTypes.nextOf (.ref i2) >>=_) _ _ _);erw[bX (ę hh (h2.at λo e=>hs₃.extBut _ _ D.TOi2.symm (hs₂.extBut _ _ D.i12.symm (hs₁.extBut _ _ D.i2z e))) (((hl2.extBut hs₁.extBut D.l2z).extBut hs₂.extBut D.l2i1).extBut hs₃.extBut D.l2TO) n λh₄ e hs₄ j=>?_)];let#[l,d,f]:=j;have hz₄:IsZip h₄ z TI TO .ellipsis:=hs₄ _ _ D.i2z.symm (hs₃.extBut _ _ D.TOz.symm (hs₂.extBut _ _ D.i1z.symm hz₁));have g:e≠z:=(λx=>by(subst x;rw[hz₄]at d;cases d;simp at f));erw[wpAny_setField_rec hz₄ 's' λh₅ Z hs₅=>hE h₅ e (λc o i m k p x=>hs₅.extBut _ _ i (hs₄ _ _ p (hs₃.extBut _ _ m (hs₂.extBut _ _ k (hs₁.extBut _ _ i x))))) #[l,hs₅.extBut _ _ g d,f]]
def yoc{z TI TO:z4}{x y b:qc}{Q:ql qc->qa->Prop}(D:ZipApart z TI TO i1 i2 l1 l2)(hz:IsZip s.heap z TI TO .none)(hTI:IsPair s.heap TI (.ref i1) (.ref i2))(hTO:IsPair s.heap TO a b)
  (h1:s.heap.IsTupleIter i1 l1 k1) (h2:s.heap.IsTupleIter i2 l2 k2) (hl1:s.heap.IsTuple l1 xs) (hl2:s.heap.IsTuple l2 ys) (hx:xs[k1]?=some x) (hy:ys[k2]?=some y)
  (hQ:∀h',IsZip h' z TI TO (rawInt 'n')->IsPair h' TO x y->h'.IsTupleIter i1 l1 (k1+1)->h'.IsTupleIter i2 l2 (k2+1)->IsPair h' 'n' x y->h'.objs.size='n'+1->(∀c o,c≠z->c≠TO->c≠i1->c≠i2->s.heap.get? c=some o->h'.get? c=some o)->Q (some (.ref 'n')) {s with heap:=h'}):
  wpAny (model prog w) A (pyNext (.ref z)) Q E s:=by
 have d:s.TypeIs (.ref z) "zip":=(#[_,hz,J]);unfold pyNext;erw[bX (wpAny_attempt (wpAny_callSpecial?_slot (name:=Str.ofString "__next__") d F.slot_zip_next (wpAny_call_entry F.slot_zip_next d F.entry_zip_next
   (yoa D hz hTI hTO h1 h2 hl1 hl2 hx hy λh' f g i e j k h=>cq (hQ h' f g i e j k h)) (F.args_zip_next_1 _))))]
def yms{z TI TO:z4}{b:qc}{Q:ql qc->qa->Prop}(hh:A.handled=none)(D:ZipApart z TI TO i1 i2 l1 l2)(hz:IsZip s.heap z TI TO .none)(hTI:IsPair s.heap TI (.ref i1) (.ref i2))(hTO:IsPair s.heap TO a b)
  (h1:s.heap.IsTupleIter i1 l1 k1) (h2:s.heap.IsTupleIter i2 l2 k2) (hl1:s.heap.IsTuple l1 xs) (hl2:s.heap.IsTuple l2 ys) (hend:xs[k1]?=none\/ys[k2]?=none)
  (hQ:∀h',(∀c o,c≠z->c≠TO->c≠i1->c≠i2->s.heap.get? c=some o->h'.get? c=some o)->Q none {s with heap:=h'}):wpAny (model prog w) A (pyNext (.ref z)) Q E s:=by
 have d:s.TypeIs (.ref z) "zip":=(#[_,hz,J]);unfold pyNext;erw[bX (wpAny_attempt (wpAny_callSpecial?_slot (name:=Str.ofString "__next__") d F.slot_zip_next (wpAny_call_entry F.slot_zip_next d F.entry_zip_next
  (yus hh D hz hTI hTO h1 h2 hl1 hl2 hend λh' e f h=>?_) (F.args_zip_next_1 _))))]
 let#[o,g,i]:=h;erw[bX (wpAny_isInstance (T:="StopIteration") (b:=true) #[o,g,i] isSubtype_stop ?_),<-cq (hQ _ f)]
end
end
mutual
noncomputable abbrev zT1(h:qg)(l1:z4):qg:=h.push { cls:=.type "tuple_iterator",data:=.fields (List.toArray [.ref l1,.int 0 0])}
abbrev zT2(h:qg)(l1 l2:z4):qg:=(zT1 h l1).push { cls:=.type "tuple_iterator",data:=.fields (List.toArray [.ref l2,.int 0 0])}
abbrev zT3(h:qg)(l1 l2:z4):qg:=(zT2 h l1 l2).push { cls:=.type "tuple",data:=.seq (List.toArray [.ref h.objs.size,.ref (zT1 h l1).objs.size])}
abbrev zT4(h:qg)(l1 l2:z4):qg:=(zT3 h l1 l2).push { cls:=.type "tuple",data:=.seq (List.toArray [.none,.none])}
abbrev zT5(h:qg)(l1 l2:z4):qg:=(zT4 h l1 l2).push { cls:=.type "zip",data:=.fields (List.toArray [.none,.bool false,.bool false,.ref (zT2 h l1 l2).objs.size,.ref (zT3 h l1 l2).objs.size])}
def ys9(l1 l2:z4)(xs ys:Array qc):Meets (Builtin.«zip.__new__» #[[.type "zip",.ref l1,.ref l2],[]]) (λZ R s=>s.heap.IsTuple l1 xs/\s.heap.IsTuple l2 ys/\R (.ok (.ret (.ref (zT4 s.heap l1 l2).objs.size))) {s with heap:=zT5 s.heap l1 l2}) :=
 .of_wp λl w A R s h=>by
  let#[f,g,d,i,j]:=s;let#[b,a,h]:=h;let k:=sub_zip;have c:Heap.IsTuple (Shared.heap #[f,g,d,i,j]) l1 xs:=b;have e:Heap.IsTuple (Shared.heap #[f.push { cls:=.type "tuple_iterator",data:=.fields (List.toArray [.ref l1,.int 0 0])},g,d,i,j]) l2 ys:=Heap.IsTuple.push a _
  wp_walk using wpAny_pyIter_tuple c,wpAny_pyIter_tuple e
  exists _,J,h
end
section
variable{prog:qi}{w:qe}{A:qf}{E:Δ}{s:qa}
def yoy{Q:Δ}(hl1:s.heap.IsTuple l1 xs)(hl2:s.heap.IsTuple l2 ys)
  (h:∀h',IsZip h' ('n'+4) ('n'+2) ('n'+3) .none->IsPair h' ('n'+2) (.ref 'n') (.ref ('n'+1))->IsPair h' ('n'+3) .none .none->h'.IsTupleIter 'n' l1 0->h'.IsTupleIter ('n'+1) l2 0 ->
   (∀c o,s.heap.get? c=some o->h'.get? c=some o)->Q (.ref ('n'+4)) {s with heap:=h'}):wpAny (model prog w) A (call (.type "zip") [.ref l1,.ref l2]) Q E s:=by
 erw[callType_new F.called_zip ∅ (F.typeCall_zip_2 _ _) (F.newCall_zip_2 _ _) (λd=>F.args_object_init_3 d _ _) F.entry_zip_new (ys9 l1 l2 xs ys) #[hl1,hl2,?_]];have b:(zT1 s.heap l1).objs.size='n'+1:=Heap.size_push ..;have a:(zT2 s.heap l1 l2).objs.size='n'+2:=by rw[Heap.size_push,b]
 have e:(zT3 s.heap l1 l2).objs.size='n'+3:=by rw[Heap.size_push,a]
 have f:(zT4 s.heap l1 l2).objs.size='n'+4:=by rw[Heap.size_push,e]
 have g5:(zT5 s.heap l1 l2).get? (zT4 s.heap l1 l2).objs.size=some _:=cA _ J;have g4:(zT5 s.heap l1 l2).get? (zT3 s.heap l1 l2).objs.size=some _:=bZ _ (cA _ J);have g3:(zT5 s.heap l1 l2).get? (zT2 s.heap l1 l2).objs.size=some _:=bZ _ (bZ _ (cA _ J));have g2:(zT5 s.heap l1 l2).get? (zT1 s.heap l1).objs.size=some _:=bZ _ (bZ _ (bZ _ (cA _ J)));have g1:(zT5 s.heap l1 l2).get? 'n'=some _:=(bZ _ (bZ _ (bZ _ (bZ _ (cA _ J)))));show _/\_;rw[a,e,f]at g5;rw[b,a]at g3;rw[e]at g4;rw[b]at g2;rwa[f,#[#[_,g5,J],h _ g5 g3 g4 #[_,g1,J,J] #[_,g2,J,J] λc o x=>(bZ _ (bZ _ (bZ _ (bZ _ (bZ _ x)))))]]
end
mutual
abbrev vgs(K:z3)(a b:z4):It:=vjb (SqT K) a b
abbrev vjo:=vgu Heap.IsTupleIter
def Zap.apartT{X:Cx}{H:Hp}{s:qa}{z TI TO:z4}{i:Nat}{xs ys:Ο}{us vs:Υ}(d:Zap z TI TO i1 i2)(st:vjo z TI TO i1 i2 l1 l2 i s.heap)(p:s.heap.IsTuple l1 xs.toArray)(q:s.heap.IsTuple l2 ys.toArray)(hn:H TO=none)(hK:X.K.lookup TO=none)
  (hq:SqT X.K H l1 us) (hq':SqT X.K H l2 vs):ZipApart z TI TO i1 i2 l1 l2:=by
 let#[n,v,#[a,b,w],#[B,m,u,_],#[y,t,k,_]]:=st;let#[A,j,f,_]:=p;let#[x,e,g,_]:=q
 have c:∀{l:z4}{r:Υ},SqT X.K H l r->l≠TO:=λ{l r}h=>by
  rintro rfl;rcases h with(h|⟨o,h⟩)|⟨_,_,_,h,_⟩
  .rw[hn]at h;cases h
  .rw[hn]at h;cases h
  .rw[hK]at h;cases h
 erw[d.a1,d.a2,d.a3,d.a4,d.a5,d.a6,d.a7,d.a8,d.a9,d.b1,
  z5 j n (by rwa[f,nT ∅]),c hq,z5 j m (by rw[f,u];decide),z5 j t (by rw[f,k];decide),
  z5 e n (by rwa[g,nT ∅]),c hq',z5 e m (by rw[g,u];decide),z5 e t (by rw[g,k];decide)]
def yhy{w:qe}{K:z3}{x1}(l1 l2 z TI TO i1 i2:z4)(d:Zap z TI TO i1 i2)(hKT:K.lookup TO=none):
  yek P w K (.Tuple elts x1 tpos) (vgs K l1 l2) [z,TI,TO,i1,i2] z (vjo z TI TO i1 i2 l1 l2):=yb2 #[λ⟨o,e,_,d⟩=>#[o,e,_,d],λh f=>h.at f,λ{X j σ H s l xs ys}B I h g=>by subst B;erw[I.tuple_inj h g],λ{X j σ H s E i xs ys x y}B I O F v c S Y=>by
  subst B;let#[b,M,p,ς]:=I.tuple v;let#[a,r,G,C]:=I.tuple c;let#[u,hu,ru]:=M.get S;let#[U,L,R]:=r.get Y;let D:=d.apartT (xs:=b) (ys:=a) F p G O hKT v c;let#[N,n,#[Z,T,t],m,q]:=F
  erw[u,U,ru,R,D,λQ k=>yoc (xs:=b.toArray) (ys:=a.toArray) D N n t m q p G (by simpa using hu) (by simpa using L) k],λ{X j σ H s E i xs ys}B hc I O F v c S Q k=>by
  subst B;let#[b,M,p,ς]:=I.tuple v;let#[a,r,G,C]:=I.tuple c;let D:=d.apartT (xs:=b) (ys:=a) F p G O hKT v c;let#[N,n,#[Z,T,t],m,q]:=F;let hl:=M.length;let a0:=r.length;erw[yms (xs:=b.toArray) (ys:=a.toArray) (show X.A.handled=none from I.ok.hd hc) D N n t m q p G (by simp;omega) k]]
end
section
mutual
variable{X:Cx}
def vfj(K:z3)(ta:TA):TI:=λσ H R=>ta σ H λvs H1=>∃a b,vs=[.ref a,.ref b]/\(∃xs ys,SqT K H1 a xs/\SqT K H1 b ys)/\R (vgs K a b) H1
def ywj{x1}{l m:qh}{ta:TA}{p pos:Pos}(hg:Gl X "zip")(hm:X.mg "zip"=none)(ha:PA X [l,m] ta)(hs:↑(starEach [l,m] X.env=[(false,eval l X.env),(false,eval m X.env)]))(hs2:↑(starEach [m] X.env=[(false,eval m X.env)])):
  PI X (.Tuple elts x1 tpos) (.Call (.Name "zip" p) [l,m] [] pos) (vfj X.K ta):=by
 intro i s σ H R I h;erw[Call_ (Ą I hg hm (show bootBuiltins "zip"=some (.type "zip") by decide+kernel) (PyProof.Rows.callWith_type1 (thn (ha pos i s σ H _ I h) λP c h'=>?_) (by rw[hs,hs2]) (by rw[hs2];rfl)))];let#[M,F,d,z,C]:=h';let#[a,b,e,#[O,Q,B,v],q]:=C;subst e
 cases z with
 |cons r rr =>
  cases rr with
  |cons r' rr =>
   cases rr;cases r;cases r';let#[k,N,G,n]:=d.tuple B;let#[g,E,w,ς]:=d.tuple v;erw[yoy (show c.heap.IsTuple a k.toArray from G) (show c.heap.IsTuple b g.toArray from w) λL n j t D y A=>?_,<-wpAny_pyIter_zip n ?_]
   have x:X.K.lookup (c.heap.objs.size+3)=none:=by
    cases hl:X.K.lookup (c.heap.objs.size+3)with
    |none=>rfl
    |some o=>erw[absurd (cB (d.kIn _ o hl)) (Nat.not_lt.mpr (Nat.le_add_right _ _))]
   have u:Zap (c.heap.objs.size+4) (c.heap.objs.size+2) (c.heap.objs.size+3) c.heap.objs.size (c.heap.objs.size+1):=yp1 _;erw[c.heap.objs.size+4,[c.heap.objs.size+4,c.heap.objs.size+2,c.heap.objs.size+3,c.heap.objs.size,c.heap.objs.size+1],_,_,F,J,d.kept (t':=c.toks) A,yhy a b _ _ _ _ _ u x,#[n,j,#[_,_,t],D,y],λb f=>?_,q]
   have f:c.heap.objs.size<=b:=by
    simp only[cr,List.not_mem_nil,or_false]at f;rcases f with rfl|rfl|rfl|rfl|rfl<;>omega
   erw[d.fpOk f (d.hok.fresh f)]
def yv8{K:z3}{ta:TA}{σ:St}{H:Hp}{R:It->Hp->Prop}(h:ta σ H λvs H1=>∃a b,vs=[.ref a,.ref b]/\(∃xs ys,SqT K H1 a xs/\SqT K H1 b ys)/\R (vgs K a b) H1):vfj K ta σ H R:=h
end
end
def yc9{K:z3}{a b D:z4}{xs ys:Υ}{g:TG}{te:TE}{n m:Nat}{fr:St}{R:Hp->Prop}{H1:Hp}(f:Nat->V)(hq:SqT K H1 a xs)(hq':SqT K H1 b ys)(h1:m<=xs.length)(h2:m<=ys.length)(h3:xs.length<=m\/ys.length<=m)(hD:H1 D=none)
  (hs:∀i x y H t pre,i<m->xs[i]?=some x->ys[i]?=some y->yz H1 H->H D\((List.range i).map f)->H t=none->List.length pre=n->g (.ref t) (pre++fr) (upd H t (.tup [x,y])) λσ' H'=>(∃pre',List.length pre'=n/\σ'=pre'++fr)/\te σ' H' (MpK H1 D f m i))
  (hd:∀H,yz H1 H->H D\((List.range m).map f)->R H):ε (vgs K a b) g te n fr D R H1:=by
 erw[cW m (Mp H1 D f),#[m,'s',cI _,Mp.zero hD],?_];rintro i j H ⟨rfl,r,p⟩;let q:=p.1.tup hq;let c:=p.1.tup hq';by_cases hlt:i<m
 .erw[.inr #[#[xs,ys,xs[i]'(),ys[i]'(),q,c,bP _,bP _],λy H' pre h d=>?_]];let#[t,x,y,J,l,J,o,k]:=h;erw[hs i x y H t pre hlt (o xs q) (k ys c) p.1 p.2 l d]
 .have e:i=m:=()
  subst e;erw[.inl #[#[xs,ys,q,c,h3],hd H p.1 p.2]]
end L2
namespace L2
open HT
section
variable{prog:qi}{w:qe}{A:qf}{E:Δ}{s:qa}
def ydk{t sl:z4}{items:Array qc}{vl vu:qc}{lo hi:ql Int}{Q:Δ}(ht:IsTup s.heap t items)(hs:s.heap.IsSliceOf sl vl vu .none)(pl:IsPart vl lo)(pu:IsPart vu hi)
  (hw:sIx items.size 0 lo=0/\sIx items.size items.size hi=items.size) (h:Q (.ref t) s):wpAny (model prog w) A (getItem (.ref t) (.ref sl)) Q E s:=by
 let#[e,c,d,f]:=id hs;have b:s.TypeIs (.ref sl) "slice":=#[e,c,d];unfold getItem
 try with_reducible refine wpAny_holding ?_
 first|erw[bX (cq ?_)]|skip
 erw[bX (wpAny_sequenceKey ht.typeIs ∅ ?_),<-bX (wpAny_callSpecial?_slot (name:=Str.ofString "__getitem__") ht.typeIs PyProof.Rows.slot_tuple_getitem
  (wpAny_call_entry PyProof.Rows.slot_tuple_getitem ht.typeIs entry_tuple_getitem ?_ (args_tuple_getitem _ _)))]
 show wpAny _ _ (Builtin.Tuple.tupleItemsOf (.ref t) >>=_) _ _ s;erw[bX (tupleItemsOf_ ht ?_),<-bX (wpAny_typeOf b ?_)];rwa[if_pos ∅,bX (jy hs pl pu ?_)]
 have a:(((sIx items.size 0 lo:Nat):Int) == 0 && (1:Int) == 1 && (sIx items.size items.size hi-sIx items.size 0 lo) == items.size)=true:=by
  rw[hw.1,hw.2];simp
 show wpAny _ _ (if (((sIx items.size 0 lo:Nat):Int) == 0 && (1:Int) == 1 && (sIx items.size items.size hi-sIx items.size 0 lo) == items.size)=true then _ else _) _ _ s;rwa[if_pos a,bX (m:=Builtin.Tuple.tupleIsExact _) ?_];unfold Builtin.Tuple.tupleIsExact;erw[bX (wpAny_typeOf ht.typeIs (cq ?_))];show wpAny _ _ (if (Value.type "tuple" == Value.type "tuple")=true then _ else _) _ _ s;rw[if_pos ∅]
 first
  |erw[bX (wpAny_rule (cq #[_,J,cq h]))]
  |erw[bX (wpAny_rule (bX (cq (cq #[_,J,cq h]))))]
  |erw[bX (bX (wpAny_rule (cq (cq #[_,J,cq h]))))]
end
section
variable{X:Cx}
def vet(K:z3):V->ql Int->ql Int->Hp->VK->Prop:=λx lo hi H Q=>∃a xs,x=.ref a/\SqT K H a xs/\(HT.sIx xs.length 0 lo=0/\HT.sIx xs.length xs.length hi=xs.length)/\Q (.ref a) H
def ywc:SlR X (vet X.K):=by
 intro d s σ H x v p o lo t n Q I k l g i h;let#[a,j,J,m,f,q]:=h;cases k;let#[c,r,e,u]:=I.tuple m;have b:c.toArray.size=j.length:=by rwa[cF,r.length.symm]
 erw["tuple",_,PyProof.Rows.slot_tuple_getitem.lookup,e.typeIs,ydk e l g i (by rwa[b,f]) #[.ref a,H,I,J,q]]
end
end L2
namespace L2
open PySem.SeqAt
open AutoSeq1 (wpAny_loadPart')
def vip:isSubtype (.type "dict") (.type "dict")=pure true:=by rw[isSubtype_type];kernel_rfl
def ywm(d q:z4)(es:Array DictEntry)(ep ep2:Nat)(hs:(d == sysModules)=false)(hs2:(q == sysModules)=false):Meets (Builtin.«dict.__eq__» #[[.ref d,.ref q],[]]) (λZ R s=>s.heap.get? d=some { cls:=.type "dict",dict:=none,data:=.dict es ep,slots:=#[]}/\s.heap.get? q=some { cls:=.type "dict",dict:=none,data:=.dict #[] ep2,slots:=#[]}/\R (.ok (.ret (.bool es.isEmpty))) s) :=
 .of_wp λi w A R s h=>by
  let#[k,g,n,l,m]:=s;let#[e,c,h]:=h;let f:=vip;by_cases he:es=#[]
  .subst he
   wp_walk using AutoSeq1.wpAny_loadPart' e,AutoSeq1.wpAny_loadPart' c
   (with_unfolding_all refine wpAny_of_eq (a:=(none,Unit.unit)) J ?_;erw[cq (cq #[_,J,h])])
  .have j:(es.size != 0)=true:=by simpa using he
   have b:es.isEmpty=false:=by simpa using he
   rw[b]at h
   wp_walk using AutoSeq1.wpAny_loadPart' e,AutoSeq1.wpAny_loadPart' c
   exists _,J,h
section
variable{X:Cx}
def vh5:R2:=λx y H Q=>∃p q kvs,x=.ref p/\y=.ref q/\H p=some (.dK kvs)/\H q=some (.dK [])/\Q (.bl kvs.isEmpty) H
def ytw(hu:X.A.units+64<cLine):OpR X (compareOp .Eq) vh5:=by
 intro L s σ H x y v u Q I rx ry h;let#[p,q,a,J,J,m,S,k]:=h;cases rx;cases ry;let#[_,hs,vs,r,o,f,M,e,O,N,E]:=I.hok p _ m;let#[_,D,B,r2,U,g,d,C,w,n,j]:=I.hok q _ S;have hv:B=[]:=by cases r2;rfl
 subst hv
 have b:g=#[]:=by
  let m:=j.2.1;generalize Y:g.toList=l at m;cases m;erw[Array.toList_eq_nil_iff.mp Y]
 subst b
 have K:s.heap.get? p=some { cls:=.type "dict",dict:=none,data:=.dict f M,slots:=#[]}:=by
  let#[c,dd,W,R]:=o;let#[G,C,ς]:=O;cases G;cases C;cases ς;cases N;erw[e]
 have i:s.heap.get? q=some { cls:=.type "dict",dict:=none,data:=.dict #[] d,slots:=#[]}:=by
  let#[c,dd,W,R]:=U;let#[G,t,ς]:=w;cases G;cases t;cases ς;cases n;erw[C]
 have z:f.isEmpty=a.isEmpty:=by
  let T:=E.2.1.length;let P:=KV.length r;have Z:f.size=a.length:=by rw[P,<- T];rfl
  rw[Bool.eq_iff_iff,Array.isEmpty_iff_size_eq_zero,List.isEmpty_iff_length_eq_zero,Z]
 unfold compareOp
 erw[richCompare_meets_room (op:=.Eq) #[_,K,J] #[_,i,J] F.slot_dict_eq F.entry_dict_eq (F.args_dict_eq_2 _ _) (ywm p q f M d hs D) #[K,i,show Value.bool f.isEmpty≠Value.notImplemented/\_ from #[(λx=>nomatch x),.bl a.isEmpty,H,I,by rw[z];rfl,k]] ()]
end
end L2
namespace L2
mutual
variable{D:z4}{st:qd}{qual:Str}
def yed{X:Cx}{K:z3}{e:qh}{f:Str}{pos:Pos}{ta:TE}(hK:X.K=K)(he:PE X e ta)(hb:attributeBase e f X.env (eval e X.env)=eval e X.env):PE X (.Attribute e f pos) (vgw K ta f):=hK ▸ zu he hb
structure ymc(K:z3)(x qual:Str)(st:qd)(D:z4)(f:z4)(fd:FuncData):Prop where
 ex:∃(oc:qc)(od:ql z4)(kV doc pm:qc)(an:ql z4)(cdv ct:qc)(osl:Array (ql qc)),
  fd=W.fnOf x qual (xl st) (wz st) (yd st) (.ref D) kV doc pm an cdv ct/\K.lookup f=some #[oc,od,.func fd,osl]/\W.codeIn K cdv qual=true
 kp:W.keepIn K (.ref f)=true
end
section
mutual
variable{P:qi}{w:qe}{K:z3}{mg:Ε}{base:qg}
def ymc.ok{x:Str}{f:z4}{fd:FuncData}{N ps:Τ}{k:Nat}{sp:Sp}(F:ymc K x qual st D f fd)(S:yi N ps (yd st))(len:∀vs H Q E,sp vs H Q E->vs.length=ps.length)
  (hbody:∀(cdv:qc)(A:qf)(outer:qj Env)(s:qa)(H:Hp)(vs:Υ)(Q:VK)(E:XK),jx k (A.deeper (envOfC qual (yd st) 'n' f cdv))->sp vs H Q E ->
   ∃t,PSs (vx CX0 P w K mg base N qual (yd st) f cdv A outer s H E).nox (wz st) t/\t { nx:=λZ H'=>Q .non H',rt:=Q} (ú N vs) H):vq P w K mg base CX0 (k+1) f fd ps sp:=by let#[m,l,kV,e,j,i,cdv,n,g,J,c,b]:=F.ex;erw[yo1 c b S len λA outer s H vs Q E d a=>?_];let#[t,h,q]:=hbody cdv A outer s H vs Q E d a;erw[t,h.nox,q]
def ymc.okE{x:Str}{f:z4}{fd:FuncData}{N ps:Τ}{k:Nat}{sp:Sp}(F:ymc K x qual st D f fd)(S:yi N ps (yd st))(len:∀vs H Q E,sp vs H Q E->vs.length=ps.length)
  (hbody:∀(cdv:qc)(A:qf)(outer:qj Env)(s:qa)(H:Hp)(vs:Υ)(Q:VK)(E:XK),jx k (A.deeper (envOfC qual (yd st) 'n' f cdv))->sp vs H Q E ->
   ∃t,PSs (vx (CXe P w) P w K mg base N qual (yd st) f cdv A outer s H E) (wz st) t/\t { nx:=λZ H'=>Q .non H',rt:=Q} (ú N vs) H):vq P w K mg base (CXe P w) (k+1) f fd ps sp:=by let#[l,j,kV,e,i,h,cdv,m,g,J,c,b]:=F.ex;erw[yo1 c b S len λA outer s H vs Q E d a=>hbody cdv A outer s H vs Q E d a]
def vi3:Nat->(qj qc->Prop)->Prop
 |0,C=>C []
 |n+1,C=>∀a,vi3 n λt=>C (a::t)
def yt5:∀{n:Nat}{C:qj qc->Prop}{us:Ο},vi3 n C->us.length=n->C us:=by
 intro n C us
 induction us generalizing n C with
 |nil=>intro h e;subst e;erw[h]
 |cons a t ih=>intro h e;subst e;erw[ih (h a) J]
def bindsR{x:Str}{ps:Τ}{ds:Ο}{c:qc}{od an:ql z4}{sl:Array (ql qc)}{its:Array qc}{n j:Nat}{kV doc pm cdv ct:qc}(hj:j+ds.length=ps.length)
  (h:∀(kV doc pm:qc)(an:ql z4)(cdv ct:qc),vi3 j λus =>
   ∃k:ql (Array qc)->Sem (qj (Str×qc)),bindArgs (W.fnOf x qual (xl st) (wz st) (yd st) (.ref D) kV doc pm an cdv ct) #[us,[]]=(seqItems? (.ref D) >>=k)/\k (some its)=pure (ps.zip (us++ds))) (hD:K.lookup D=some #[c,od,.seq its n,sl]):uu K (W.fnOf x qual (xl st) (wz st) (yd st) (.ref D) kV doc pm an cdv ct) ps ds:=by intro s us a b;let#[k,e,d]:=yt5 (us:=us) (h kV doc pm an cdv ct) (by rw[bY]at b;omega);erw[BindsTo.of_defaults J (a _ _ hD) J e d]
def funD_mk{x:Str}{f:z4}{oc:qc}{od an:ql z4}{osl:Array (ql qc)}{kV doc pm cdv ct:qc}(l:K.lookup f=some #[oc,od,.func (W.fnOf x qual (xl st) (wz st) (yd st) (.ref D) kV doc pm an cdv ct),osl])
  (c:W.codeIn K cdv qual=true) (k:W.keepIn K (.ref f)=true):ymc K x qual st D f (W.fnOf x qual (xl st) (wz st) (yd st) (.ref D) kV doc pm an cdv ct):=#[#[oc,od,kV,doc,pm,an,cdv,ct,osl,J,l,c],k]
end
end
mutual
def yhd{K:z3}{a:z4}{xs:Υ}{g:TG}{te:TE}{n:Nat}{fr:St}{R:Hp->Prop}{H1:Hp}(Pv:Nat->Hp->Prop)(h0:Pv 0 (upd H1 D (.lst [])))(hl:∀i H,i<=xs.length->Pv i H->SqL K H a xs)
  (hs:∀i x H pre,xs[i]?=some x->i<xs.length->Pv i H->List.length pre=n->g x (pre++fr) H λσ' H'=>(∃pre',List.length pre'=n/\σ'=pre'++fr)/\te σ' H' λy H4=>∃ys,H4 D\ys/\ys.length<sizeLine/\∃m',m'<xs.length-i/\cW xs.length Pv (i+1) m' (upd H4 D (.lst (ys++[y]))))
  (hd:∀H,Pv xs.length H->R H):ε (Itl K a) g te n fr D R H1:=by
 erw[cW xs.length Pv,#[xs.length,'s',cI _,h0],?_];rintro i m H ⟨rfl,c,p⟩;let q:=hl i H c p;by_cases hlt:i<xs.length
 .erw[.inr #[#[xs,xs[i],q,by simp[hlt]],λx H' pre y b=>?_]];let#[e,y]:=y;subst e;erw[hs i x _ pre (y xs q) hlt p b]
 .have e:i=xs.length:=()
  subst e;erw[.inl #[#[xs,q,cc _],hd H p]]
def ykb(K:z3):qj V->Hp->VK->Prop:=λxs H Q=>∃p ys,xs=[.ref p]/\(SqL K H p ys\/SqT K H p ys)/\∀l,H l=none->Q (.ref l) (upd H l (.lst ys))
def ynp{pre:qj (Ψ)}(h:List.length pre=3):∃v1 v2 v3,pre=[v1,v2,v3]:=by let#[v1,t,J,a]:=ο h;let#[v2,t,J,b]:=ο a;let#[v3,t,J,c]:=ο b;erw[v1,v2,v3,by rw[List.length_eq_zero_iff.mp c]]
end
section
mutual
variable{X:Cx}{body suite:qj qd}{b₀:qd}{tx n:Str}{np hpos pos:Pos}{i:Nat}{tb:(St->XK)->TS}{ts:TS}
abbrev THs:=ç->St->z4->z4->ql z4->Hp->Prop
def PHs(X:Cx)(hs:qj ExceptHandler)(th:THs):Prop:=∀(pins:Θ)(s:qa)(σ:St)(H:Hp)(x T Ca:z4)(d:ql z4)(En:ç),'i' s->Fy X pins H x->Fy X pins H T->Trd s.heap x T (.ref Ca) d->th En σ Ca x d H ->
 wpAny (model X.prog X.w) X.A (handleBy (.ref x) X.env hs) (SP X pins En) X.xe s
def vhq:THs:=λZ Z Z Z Z Z=>False
def vbu{hs:qj ExceptHandler}:PHs X hs vhq:=λZ Z Z Z Z Z Z Z Z Z Z Z Z h=>h.elim
def exm_mkB{K:z3}{C:z4}{b:Bool}(h0:W.subIn K (.ref D) (.type "BaseException")=some true)(h1:W.hasDictIn K D=true)(h2:W.typeIn K (.ref D)=some (.type "type"))
  (h3:W.subIn K (.ref C) (.ref D)=some b):W.exmOne K (.ref C) (.ref D)=some b:=by let#[a,h,_]:=W.any_some h1;unfold W.exmOne W.kitCls;rw[h0];dsimp only;rw[h,h2,h3];cases b<;>rfl
def exH(th:THs)(En:ç):St->XK:=λσ' C d H'=>∀x,H' x=none->∃Ca,C=.ref Ca/\th En σ' Ca x d H'
def vfz(tb:(St->XK)->TS)(th:THs):TS:=λEn σ H=>tb (exH th En) En σ H
def yvd{h₀:ExceptHandler}{hs:qj ExceptHandler}{th:THs}(hb:∀pn Ex,PSs (X.tr pn Ex) body (tb Ex))(hst:X.stack=X.env::X.outer/\X.env.frame=some X.env.locals)(hh:PHs X (h₀::hs) th):
  PS X (.Try body (h₀::hs) [] [] pos) (vfz tb th):=by
 erw[.mk λa s σ H i I h=>?_]
 have l:∀{f k},SP (X.tr (X.pn++a) (exH th i)) [] i f k->SP X a i f k:=λ{f k}q=>by
  cases f with
  |next=>let⟨σ',c,ς,q⟩:=q;erw[σ',c,ς.unwish.unpnd,q]
  |brk=>let⟨σ',c,ς,q⟩:=q;erw[σ',c,ς.unwish.unpnd,q]
  |cont=>let⟨σ',c,ς,q⟩:=q;erw[σ',c,ς.unwish.unpnd,q]
  |ret u=>let⟨v,σ',c,ς,r,q⟩:=q;erw[v,σ',c,ς.unwish.unpnd,r,q]
 erw[wpAny_Try_except (dF (hb (X.pn++a) (exH th i) [] s σ H i (I.pnd.wish _) h) (λf m q=>?_) λe m q=>?_)]
 .let q:=l q
  cases f with
  |next=>erw[wpAny_execs_nil q]
  |brk=>erw[q]
  |cont=>erw[q]
  |ret u=>erw[q]
 .let#[w,σ',c,x,T,C,d,J,ς,g,b,tr,q]:=q;have ς:Inv X a σ' c m:=ς.unpnd;have g:Fy X a c x:=#[g.1,g.2.1,g.2.2.1,g.2.2.2.1,g.2.2.2.2.1,λp j=>g.2.2.2.2.2 p (du _ j)];have b:Fy X a c T:=#[b.1,b.2.1,b.2.2.1,b.2.2.2.1,b.2.2.2.2.1,λp j=>b.2.2.2.2.2 p (du _ j)];let#[o,J,t]:=q x g.1;erw[yd0 ς.ok.frames hst.1 hst.2 ς g b tr λz A ς b tr=>j8 ς g b tr λy n ς b tr=>?_,<-hh a _ σ' c x n o d i ς g b tr t]
end
end
section
variable{σ:St}{H:Hp}{nx:Ζ}{rt:VK}{bk ct:Ζ}{ts:TS}
def vby{th:THs}{tb:(St->XK)->TS}(h:tb (exH th #[nx,rt,bk,ct]) #[nx,rt,bk,ct] σ H):vfz tb th #[nx,rt,bk,ct] σ H:=h
end
end L2
namespace L2
mutual
variable{tg:qh}{pins:Θ}{ep:Nat}{P:qi}{p0 p1 p2 p3:Str}
def pG{p:Prop}(h:p):p:=h
structure Dg(K:z3)(x q:Str)(st:qd)(f:z4)(fd:FuncData)(M:Prop):Prop where
 F:Fun K x q st f fd
 m:M
structure Df(K:z3)(x q:Str)(st:qd)(ps:Τ)(f:z4)(fd:FuncData)(M:Prop):Prop where
 F:Fun K x q st f fd
 B:uu K fd ps []
 m:M
def Ő{α:Type}{n:Nat}{a:qj α}(h:a.length=n+1):∃x r,a=x::r/\r.length=n:=by
 cases a with
 |nil=>cases h
 |cons x r=>erw[x,r,J,Nat.succ.inj h]
abbrev Dgf(K:z3)(mg:Ε)(x:Str)(st:qd)(f:z4)(fd:FuncData):Prop:=Dg K x x st f fd (mg x∣f)
abbrev Dgm(K:z3)(C:z4)(x q:Str)(st:qd)(f:z4)(fd:FuncData):Prop:=Dg K x q st f fd (Meth K C x f)
abbrev Dff(K:z3)(mg:Ε)(x:Str)(st:qd)(ps:Τ)(f:z4)(fd:FuncData):Prop:=Df K x x st ps f fd (mg x∣f)
abbrev Dfm(K:z3)(C:z4)(x q:Str)(st:qd)(ps:Τ)(f:z4)(fd:FuncData):Prop:=Df K x q st ps f fd (Meth K C x f)
end
section
mutual
variable{K:z3}{mg:Ε}{h:qg}{x q:Str}{st:qd}{f C:z4}{fd:FuncData}{M:Prop}{oc kV doc pm cdv ct:qc}{od an:ql z4}{osl:Array (ql qc)}
def dgf_mk(X:K.In h)(G:h.Ns mainGlobals mg)(a:W.nsIn K mainGlobals x=some (some (.ref f)))(l:K.lookup f=some #[oc,od,.func (W.fnOf x x (xl st) (wz st) (yd st) .none kV doc pm an cdv ct),osl])
  (c:W.codeIn K cdv x=true) (k:W.keepIn K (.ref f)=true):Dgf K mg x st f (W.fnOf x x (xl st) (wz st) (yd st) .none kV doc pm an cdv ct):=#[yr0 l c k,W.mg_of X G a]
def dgm_mk(a:W.findIn K (.ref C) x=some (some (.ref f)))(i:W.isFn K (.ref f)=true)(l:K.lookup f=some #[oc,od,.func (W.fnOf x q (xl st) (wz st) (yd st) .none kV doc pm an cdv ct),osl])
  (c:W.codeIn K cdv q=true) (k:W.keepIn K (.ref f)=true):Dgm K C x q st f (W.fnOf x q (xl st) (wz st) (yd st) .none kV doc pm an cdv ct):=#[yr0 l c k,a,i,k]
def Dg.d1(D:Dg K x q st f fd M)(h:autoParam (∀(kV doc pm:qc)(an:ql z4)(cdv ct:qc)(u0:qc),bindArgs (W.fnOf x q (xl st) (wz st) (yd st) .none kV doc pm an cdv ct) #[[u0],[]]=pure [(p0,u0)]) aE._auto_1):Df K x q st [p0] f fd M :=
 #[D.F,D.F.binds λkV doc pm an cdv ct c a=>(by
  let#[u0,d,J,b]:=Ő a;obtain rfl:=dw b;erw[h kV doc pm an cdv ct u0]),D.m]
def Dg.d2(D:Dg K x q st f fd M)(h:autoParam (∀(kV doc pm:qc)(an:ql z4)(cdv ct:qc)(u0 u1:qc),bindArgs (W.fnOf x q (xl st) (wz st) (yd st) .none kV doc pm an cdv ct) #[[u0,u1],[]]=pure [(p0,u0),(p1,u1)]) aE._auto_1):Df K x q st [p0,p1] f fd M :=
 #[D.F,D.F.binds λkV doc pm an cdv ct d b=>(by
  let#[u0,e,J,c]:=Ő b;let#[u1,g,J,a]:=Ő c;obtain rfl:=dw a;erw[h kV doc pm an cdv ct u0 u1]),D.m]
def Dg.d3(D:Dg K x q st f fd M)(h:autoParam (∀(kV doc pm:qc)(an:ql z4)(cdv ct:qc)(u0 u1 u2:qc),bindArgs (W.fnOf x q (xl st) (wz st) (yd st) .none kV doc pm an cdv ct) #[[u0,u1,u2],[]]=pure [(p0,u0),(p1,u1),(p2,u2)]) aE._auto_1):Df K x q st [p0,p1,p2] f fd M :=
 #[D.F,D.F.binds λkV doc pm an cdv ct g c=>(by
  let#[u0,i,J,d]:=Ő c;let#[u1,j,J,a]:=Ő d;let#[u2,e,J,b]:=Ő a;obtain rfl:=dw b;erw[h kV doc pm an cdv ct u0 u1 u2]),D.m]
def Dg.d4(D:Dg K x q st f fd M)(h:autoParam (∀(kV doc pm:qc)(an:ql z4)(cdv ct:qc)(u0 u1 u2 u3:qc),bindArgs (W.fnOf x q (xl st) (wz st) (yd st) .none kV doc pm an cdv ct) #[[u0,u1,u2,u3],[]]=pure [(p0,u0),(p1,u1),(p2,u2),(p3,u3)]) aE._auto_1):Df K x q st [p0,p1,p2,p3] f fd M :=
 #[D.F,D.F.binds λkV doc pm an cdv ct j d=>(by
  let#[u0,l,J,e]:=Ő d;let#[u1,k,J,a]:=Ő e;let#[u2,g,J,b]:=Ő a;let#[u3,i,J,c]:=Ő b;obtain rfl:=dw c;erw[h kV doc pm an cdv ct u0 u1 u2 u3]),D.m]
def Dg.d5{p4:Str}(D:Dg K x q st f fd M)(h:autoParam (∀(kV doc pm:qc)(an:ql z4)(cdv ct:qc)(u0 u1 u2 u3 u4:qc),bindArgs (W.fnOf x q (xl st) (wz st) (yd st) .none kV doc pm an cdv ct) #[[u0,u1,u2,u3,u4],[]]=pure [(p0,u0),(p1,u1),(p2,u2),(p3,u3),(p4,u4)]) aE._auto_1):Df K x q st [p0,p1,p2,p3,p4] f fd M :=
 #[D.F,D.F.binds λkV doc pm an cdv ct l d=>(by
  let#[u0,o,J,e]:=Ő d;let#[u1,n,J,a]:=Ő e;let#[u2,j,J,b]:=Ő a;let#[u3,k,J,c]:=Ő b;let#[u4,i,J,g]:=Ő c;obtain rfl:=dw g;erw[h kV doc pm an cdv ct u0 u1 u2 u3 u4]),D.m]
def Dg.d6{p4 p5:Str}(D:Dg K x q st f fd M)(h:autoParam (∀(kV doc pm:qc)(an:ql z4)(cdv ct:qc)(u0 u1 u2 u3 u4 u5:qc),bindArgs (W.fnOf x q (xl st) (wz st) (yd st) .none kV doc pm an cdv ct) #[[u0,u1,u2,u3,u4,u5],[]]=pure [(p0,u0),(p1,u1),(p2,u2),(p3,u3),(p4,u4),(p5,u5)]) aE._auto_1):Df K x q st [p0,p1,p2,p3,p4,p5] f fd M :=
 #[D.F,D.F.binds λkV doc pm an cdv ct n d=>(by
  let#[u0,p,J,e]:=Ő d;let#[u1,o,J,a]:=Ő e;let#[u2,k,J,b]:=Ő a;let#[u3,l,J,c]:=Ő b;let#[u4,j,J,i]:=Ő c;let#[u5,r,J,g]:=Ő i;obtain rfl:=dw g;erw[h kV doc pm an cdv ct u0 u1 u2 u3 u4 u5]),D.m]
end
end
def yr2{K:z3}{W:z4}{od:ql z4}{its:Array qc}{n:Nat}{sl:Array (ql qc)}{xs:Υ}(l:K.lookup W=some #[.type "tuple",od,.seq its n,sl])(hz:its.size<=sizeLine)(hv:w8 xs its.toList):∀H,SqT K H W xs:=λZ=>.inr #[_,_,_,l,J,J,hz,hv]
structure KC(K:z3)(C:z4):Prop where
 pg:W.plainGet K C Str.empty=true
 hd:W.hasDictIn K C=true
 po:W.plainOver K C=true
 sa:W.findIn K (.ref C) "__setattr__"=some (some (.builtin "object.__setattr__"))
 mk':W.makesIn K C=true
 kc:W.keepIn K (.ref C)=true
section
mutual
variable{K:z3}{H:Hp}{p C dx:z4}{fs fs':Ι}{v:V}{nm:Str}{P:V->Prop}{nx:Ζ}{σ:St}
abbrev RdX(K:z3)(H:Hp)(p:z4)(nm:Str)(P:V->Prop):Prop:=∃a' C dx fs v,V.ref p=.ref a'/\H a'∩C dx fs/\Cls K C/\NoAttr K C nm/\fs.lookup nm=some v/\P v
abbrev StX(K:z3)(H:Hp)(p:z4)(nm:Str)(v:V)(nx:Ζ)(σ:St):Prop:=∃a' C dx fs,V.ref p=.ref a'/\H a'∩C dx fs/\Cls K C/\NoAttr K C nm/\fs.length<1000/\wn nx σ (upd H a' (.ins C dx (ω nm v fs)))
abbrev MtX(H:Hp)(p C:z4)(nm:Str)(R:Prop):Prop:=∃a dx fs,V.ref p=.ref a/\H a∩C dx fs/\fs.lookup nm=none/\R
def rdX(hp:H p∩C dx fs)(c:Cls K C)(n:NoAttr K C nm)(l:fs.lookup nm=some v)(h:P v):RdX K H p nm P:=#[p,C,dx,fs,v,J,hp,c,n,l,h]
def stX(hp:H p∩C dx fs)(c:Cls K C)(n:NoAttr K C nm)(l:fs.length<1000)(e:ω nm v fs=fs')(h:wn nx σ (upd H p (.ins C dx fs'))):StX K H p nm v nx σ:=#[p,C,dx,fs,J,hp,c,n,l,by rwa[e,h]]
def gRd(h:RdX K H p nm P):RdX K H p nm P:=h
def gSt(h:StX K H p nm v nx σ):StX K H p nm v nx σ:=h
def gMt{R:Prop}(h:MtX H p C nm R):MtX H p C nm R:=h
def lt0:([]:Ι).length<1000:=by show 0<1000;decide
def lt1{a:Str×V}:[a].length<1000:=by show 1<1000;decide
def lt2{a b:Str×V}:[a,b].length<1000:=by show 2<1000;decide
def lt3{a b c:Str×V}:[a,b,c].length<1000:=by show 3<1000;decide
def lt4{a b c d:Str×V}:[a,b,c,d].length<1000:=by show 4<1000;decide
def lt5{a b c d e:Str×V}:[a,b,c,d,e].length<1000:=by show 5<1000;decide
def lt6{a b c d e f:Str×V}:[a,b,c,d,e,f].length<1000:=by show 6<1000;decide
theorem vgj:∀{fs:Ι},nm∉fs.map (·.1)->fs.lookup nm=none
 |[],_=>rfl
 |(g,v)::r,h=>wo (λe=>h (by rwa[e,cN])) (vgj λm=>h (cM _ m))
def mtX{R:Prop}{N:Τ}(hp:H p∩C dx fs)(k:fs.map (·.1)=N)(n:nm∉N)(h:R):MtX H p C nm R:=#[p,dx,fs,J,hp,vgj (by rwa[k,n]),h]
def wb{N P:Τ}{sc:Scope}(h:(sc.kind=.function/\sc.isCoroutine=false/\sc.isGenerator=false)/\N.Nodup/\N.take P.length=P/\(∀x∈P,sc.names.lookup x=some .local\/sc.names.lookup x=some .cell)/\∀y∈sc.names,y.2≠.free):yi N P sc:=#[h.1.1,h.1.2.1,h.1.2.2,h.2.1,h.2.2.1,h.2.2.2.1,h.2.2.2.2]
end
end
mutual
def Inv.freeze{X:Cx}{σ:St}{H:Hp}{s:qa}{d:z4}{u:HO}{o:Obj}(I:'i' s)(hd:H d=some u)(mu:Mut (some u))(ho:s.heap.get? d=some o):Inv X pins σ (upd H d (.frz o u)) s:=by
 have h:∀{b},H b=none->b≠d:=λn z=>by rw[z,hd]at n;cases n
 have f:∀{b v},H b=some v->¬Mut (some v)->b≠d:=λe n z=>by rw[z,hd]at e;cases e;erw[n mu]
 erw[I.ok,I.os,I.bare,#[I.base.keep,I.base.slot,λb i e n A=>?_,I.base.there,λb t e=>?_,λb i v e=>?_,λb l e=>?_],I.loc,I.cell,?_,λx c e=>?_,λp k=>?_,λb v e=>?_,I.len]
 .let z:=I.base.free b i e n A;rwa[yk (h z),z]
 .let z:=I.base.tups b t e;rwa[yk (f z id),z]
 .let z:=I.base.frzs b i v e;rwa[yk (f z id),z]
 .let#[m,z]:=I.base.tbls b l e;erw[m,by rwa[yk (f z id),z]]
 .rw[yk (h I.free)];erw[I.free]
 .rw[yk (h (I.freeC x c e))];erw[I.freeC x c e]
 .let#[r,j,w]:=I.pin p k;erw[r,by rwa[yk (h j),j],w]
 .have g:∀{c y},H c=some (.own y)->upd H d (.frz o u) c=some (.own y):=λq=>by rw[yk (f q id)];exact q
  have a:∀{c y},H c∪y->upd H d (.frz o u) c∪y:=λq=>by rwa[yk (f q id),q]
  by_cases hb:b=d
  .subst hb;rw[ya]at e;cases e;erw[ho,(I.hok b _ hd).stay (λZ Z Z q=>q) (λZ q=>g q) λZ Z q=>a q]
  .rw[yk hb]at e;erw[(I.hok b v e).stay (λZ Z Z q=>q) (λZ q=>g q) λZ Z q=>a q]
def Inv.thaw{X:Cx}{σ:St}{H:Hp}{s:qa}{d:z4}{u:HO}{o:Obj}(I:'i' s)(h0:∀o u,X.H₀ d≠some (.frz o u))(hd:H d=some (.frz o u)):Inv X pins σ (upd H d u) s:=by
 have g:∀{b},H b=none->b≠d:=λn z=>by rw[z,hd]at n;cases n
 erw[I.ok,I.os,I.bare,#[I.base.keep,I.base.slot,λb h e n A=>?_,I.base.there,λb r e=>?_,λb h u e=>?_,λb k e=>?_],I.loc,I.cell,?_,λx c e=>?_,λp j=>?_,λb v e=>?_,I.len]
 .let z:=I.base.free b h e n A;rwa[yk (g z),z]
 .let z:=I.base.tups b r e;rwa[yk (xf z hd (by intro w;cases w)),z]
 .rw[yk (λz=>h0 h u (by rwa[<- z,e]))];erw[I.base.frzs b h u e]
 .let#[m,z]:=I.base.tbls b k e;erw[m,by rwa[yk (xf z hd (by intro w;cases w)),z]]
 .rw[yk (g I.free)];erw[I.free]
 .rw[yk (g (I.freeC x c e))];erw[I.freeC x c e]
 .let#[l,i,t]:=I.pin p j;erw[l,by rwa[yk (g i),i],t]
 .have f:∀{c y},H c=some (.own y)->upd H d u c=some (.own y):=λq=>by rw[yk (xf q hd (by intro w;cases w))];exact q
  have a:∀{c y},H c∪y->upd H d u c∪y:=λq=>by rwa[yk (xf q hd (by intro w;cases w)),q]
  by_cases hb:b=d
  .subst hb;rw[ya]at e;cases e;erw[(I.hok b _ hd).2.stay (λZ Z Z q=>q) (λZ q=>f q) λZ Z q=>a q]
  .rw[yk hb]at e;erw[(I.hok b v e).stay (λZ Z Z q=>q) (λZ q=>f q) λZ Z q=>a q]
def yh9{α β:Type}{F:α->β->Prop}{l₁:qj α}{l₂:qj β}(h:Paired F l₁ l₂):∀{i:Nat}{y:β},l₂[i]?=some y->∃x,l₁[i]?=some x/\F x y:=by
 induction h with
 |nil=>intro i y e;cases e
 |cons r t ih =>
  intro i y e
  cases i with
  |zero=>cases e;exists _,J,r
  |succ j=>erw[ih e]
end
section
mutual
variable{X:Cx}
def vgi(H:Hp)(D:ç):ç:={D with nx:=λσ' H'=>∃d o u,(∀o u,H d≠some (.frz o u))/\H' d=some (.frz o u)/\D.nx σ' (upd H' d u)}
def vem(t:TS):TS:=λD σ H=>t (vgi H D) σ H
def ydu{st:qd}{t:TS}(h:PS X st t):PS X st (vem t):=by
 erw[.mk λa s σ H D I q=>?_,<-thn (h a s σ H _ I q) λf i z=>?_]
 cases f with
 |next =>
  let#[σ',j,ς,d,o,c,g,b,k]:=z;erw[σ',_,ς.thaw (λo u e=>g o u (I.base.frzs d o u e)) b,k]
 |brk=>erw[z]
 |cont=>erw[z]
 |ret u=>erw[z]
def vbl{t:TS}{D:ç}{σ:St}{H:Hp}(h:t (vgi H D) σ H):vem t D σ H:=h
end
end
noncomputable def Its(x:Str):It:=#[λi Z=>i<x.cps.size,λi H v H'=>H'=H/\∃c,x.cps[i]?=some c/\v=.str ⟨#[c]⟩,λi Z=>i=x.cps.size]
def yer{w:qe}{K:z3}{ty:String}(x:Str)(t:Tok)(it:z4)(hn:["enumerate","zip","dict_itemiterator","dict_reverseitemiterator","odict_iterator","itertools.zip_longest","itertools.pairwise"].contains ty=false)
  (W:∀A:qf,A.handled=none->Walks P w A it [it] [it] x.cps.size (SignAt x) (λi h=>h.IsStrIter it ty x t i)) (hs:∀(A:qf)(i:Nat)(s:qa)(Q E:Δ),s.heap.IsStrIter it ty x t i->Q (.ref it) s->wpAny (model P w) A (pyIter (.ref it)) Q E s):yek P w K tg (Its x) [it] it (λi h=>h.IsStrIter it ty x t i) where
 mem:='s'
 obj:=λi h a b g=>by
  have e:b=it:=by simpa using g
  subst e;let#[o,e,_,d]:=a;erw[o,e,λv z=>by rw[d]at z;cases z]
 keep:=λi h m a k=>let ⟨o,e,r⟩:=a;#[o,k it 's' o e,r]
 item:=by
  intro X ς D C M i f s σ H E I n a j;subst ς D C;let#[p,B,T,L,G,F]:=n it 's';erw[(W X.A (I.ok.hd M)).item i s _ _ j a λv m q U l y=>?_];let#[c,u,S,J]:=U;have N:Inv X f σ H {s with heap:=m,toks:=q}:=I.turned (λb o g e=>y b o (by simpa using g) e) p B L G F;let#[o,e,R,O]:=id l;erw[_,J,yct (s:={s with heap:=m,toks:=q}) e R O hn #[.str ⟨#[c]⟩,H,N,#[u,J],#[J,c,S,J],l,λb g=>(n b g).1]]
 done:=by
  intro X ς D C M i f s σ H E I n a j;subst ς D C;have j:i=x.cps.size:=j;subst j;let#[p,B,T,L,G,F]:=n it 's';erw[(W X.A (I.ok.hd M)).done s _ _ a λm q y=>#[J,I.turned (λb o g e=>y b o (by simpa using g) e) p B L G F]]
 self:=λA i s Q E a h=>hs A i s Q E a h
section
mutual
variable{X:Cx}
def vj5(tl:TE):TI:=λσ H R=>tl σ H λv H1=>∃x,v=.str x/\R (Its x) H1
def yga{l:qh}{tl:TE}(hl:PE X l tl):PI X tg l (vj5 tl):=by
 intro a s σ H R I h;erw[thn (hl a s σ H _ I h) λv c h'=>?_];let#[y,g,f,k,x,e,q]:=h';subst e;let#[t,J]:=k
 have d:∀{ob:Obj},∀b∈[c.heap.objs.size],ygf X a g b:=λ{_}b m=>by
  have e:b=c.heap.objs.size:=by simpa using m
  subst e;erw[f.fpOk (cc _) (f.hok.fresh (cc _))]
 cases ha:x.cps.all (· <128)
 .erw[wpAny_pyIter_wide ha ?_];erw[c.heap.objs.size,[c.heap.objs.size],_,_,g,J,f.kept (t':=c.toks) λb o e=>bZ _ e,yer x t _ ∅ (λA i=>Walks.strWide i _ x t) (λZ Z Z Z Z j h=>wpAny_pyIter_striter_wide j h),#[_,cA _ J,J,J],d (ob:=default),q]
 .erw[wpAny_pyIter_ascii ha ?_];erw[c.heap.objs.size,[c.heap.objs.size],_,_,g,J,f.kept (t':=c.toks) λb o e=>bZ _ e,yer x t _ ∅ (λA i=>Walks.strAscii i _ x t) (λZ Z Z Z Z j h=>wpAny_pyIter_striter_ascii j h),#[_,cA _ J,J,J],d (ob:=default),q]
def va0{tl:TE}{σ:St}{H:Hp}{R:It->Hp->Prop}(h:tl σ H λv H1=>∃x,v=.str x/\R (Its x) H1):vj5 tl σ H R:=h
def zi{x:Str}{k:Str}{t:Tok}{pos:Pos}(hg:Gl X x)(hm:X.mg x=some (.str k t))(hd:⇑'d'):PE X (.Name x pos) (tC (.str k)):=yd9 hg hm #[t,J] hd
end
end
mutual
def Ð{x:Str}{D:z4}{te:TE}{R:Hp->Prop}{H1:Hp}(f:Nat->V)(hD:H1 D=none)
  (hs:∀i c H,x.cps[i]?=some c->i<x.cps.size->yz H1 H->H D\((List.range i).map f)->te [some (.str ⟨#[c]⟩)] H (MpK H1 D f x.cps.size i)) (hd:∀H,yz H1 H->H D\((List.range x.cps.size).map f)->R H):ycr (Its x) te D R H1:=by
 erw[cW x.cps.size (Mp H1 D f),#[x.cps.size,'s',cI _,Mp.zero hD],?_];rintro i m H ⟨rfl,d,p⟩;by_cases hlt:i<x.cps.size
 .erw[.inr #[hlt,λv b y=>?_]];let#[J,c,a,J]:=y;erw[hs i c _ a hlt p.1 p.2]
 .have e:i=x.cps.size:=()
  subst e;erw[.inl #[J,hd H p.1 p.2]]
def Itk(o:Obj)(d:z4)(kvs:Κ):It :=
 #[λi H=>H d=some (.frz o (.dK kvs))/\i<kvs.length,λi H x H'=>H'=H/\∃k v,kvs[i]?=some (k,v)/\x=kV k,λi H=>H d=some (.frz o (.dK kvs))/\kvs.length<=i]
noncomputable def Itv(o:Obj)(d:z4)(kvs:Κ):It :=
 #[λi H=>H d=some (.frz o (.dK kvs))/\i<kvs.length,λi H x H'=>H'=H/\∃k,kvs[i]?=some (k,x),λi H=>H d=some (.frz o (.dK kvs))/\kvs.length<=i]
def vde{w:qe}{k:Key}{u:qc}(r:(wx P w).is k u=true):xr (kV k) u:=by rcases xb r with⟨i,t,rfl,rfl⟩|⟨x,t,rfl,rfl⟩<;>erw[t,J]
def KV.get{kvs:Κ}{vs:qj (Key×qc)}(r:KV kvs vs){i:Nat}{k:Key}{u:qc}(h:vs[i]?=some (k,u)):∃v,kvs[i]?=some (k,v)/\xr v u:=by let#[#[b,v],e,a,c]:=yh9 r h;have a:b=k:=a;erw[v,by rw[e,a],c]
def ywl{xs:Υ}{us:Ο}(hl:xs.length=us.length)(h:∀(i:Nat)u,us[i]?=some u->∃x,xs[i]?=some x/\xr x u):w8 xs us:=by
 induction xs generalizing us with
 |nil =>
  cases us with
  |nil=>erw[.nil]
  |cons u us=>cases hl
 |cons x xs ih =>
  cases us with
  |nil=>cases hl
  |cons u us =>
   let#[y,e,r]:=h 0 u J;cases e;erw[.cons r (ih (Nat.succ.inj hl) λi u a=>h (i+1) u a)]
def ygc{X:Cx}{σ:St}{H:Hp}{s:qa}{d:z4}{kvs:Κ}{o:Obj}{es:Array DictEntry}(I:'i' s)(hd:H d=some (.frz o (.dK kvs)))(ho:o.data=.dict es ep):∃vs,KV kvs vs/\s.heap.DictAt (wx X.prog X.w) d vs ep:=by let#[a,_,_,vs,r,i,h,f,b,g,c,e]:=(show xq X.prog X.w H s.heap d (.frz o (.dK kvs))from I.hok d _ hd);rw[a]at b;cases b;rw[ho]at c;cases c;erw[vs,r,o,es,a,g,ho,e]
def yhv{w:qe}{K:z3}{o:Obj}{es:Array DictEntry}{kvs:Κ}(d it:z4)(hne:d≠it)(ho:o.data=.dict es ep):yek P w K tg (Itk o d kvs) [it] it (λi h=>h.IsKeyIter it d i kvs.length ep) where
 mem:='s'
 obj:=λi h a b f=>by
  have e:b=it:=by simpa using f
  subst e;let#[o,e,_,d]:=a;erw[o,e,λv z=>by rw[d]at z;cases z]
 keep:=λi h j a k=>a.at λo e=>k it 's' o e
 item:=by
  intro X D u t ς i c s σ H E I l a #[n,O];subst D u t;let#[p,q,f2,F,C,B]:=l it 's';let#[M,r,G]:=ygc I n ho;let m:=r.length;let W:=Walks.dictKeys (knd:=wx X.prog X.w) (prog:=X.prog) (w:=X.w) (A:=X.A) (I.ok.hd ς) it d hne M ep;erw[W.item i s _ _ () #[by rwa[<- m,a],G] λv j L hv g T=>?_];let#[k,x,hx,S]:=hv;let#[y,Z,_]:=r.get hx;have R:Inv X c σ H {s with heap:=j,toks:=L}:=I.turned (λb o f e=>T b o (by simpa using f) e) p q F C B;let#[o',U,Q,d']:=id g.1;erw[_,J,yct (s:={s with heap:=j,toks:=L}) U Q d' ∅ #[kV k,H,R,vde S,#[J,k,y,Z,J],by rwa[m,g.1],λb f=>(l b f).1]]
 done:=by
  intro X D u t ς i c s σ H E I l a #[n,N];subst D u t;let#[p,q,f2,F,C,B]:=l it 's';let#[M,r,G]:=ygc I n ho;let m:=r.length;erw[wpAny_pyNext_dict_end (I.ok.hd ς) (by rwa[<- m,a]) G (by rw[List.getElem?_eq_none_iff];omega) λj Y=>#[J,I.turned (t':=s.toks) (λb o f e=>Y b o f e) p q F C B]]
 self:=λv v v v v a h=>wpAny_pyIter_keyiter a h
def yiz{w:qe}{K:z3}{o:Obj}{es:Array DictEntry}{kvs:Κ}(d it:z4)(hne:d≠it)(ho:o.data=.dict es ep):yek P w K tg (Itv o d kvs) [it] it (λi h=>h.IsValIter it d i kvs.length ep) where
 mem:='s'
 obj:=λi h a b f=>by
  have e:b=it:=by simpa using f
  subst e;let#[o,e,_,d]:=a;erw[o,e,λv z=>by rw[d]at z;cases z]
 keep:=λi h j a k=>a.at λo e=>k it 's' o e
 item:=by
  intro X C u t G i c s σ H E I l a #[n,N];subst C u t;let#[p,q,f2,D,B,x]:=l it 's';let#[L,r,F]:=ygc I n ho;let m:=r.length;let W:=Walks.dictValues (knd:=wx X.prog X.w) (prog:=X.prog) (w:=X.w) (A:=X.A) (I.ok.hd G) it d hne L ep;erw[W.item i s _ _ () #[by rwa[<- m,a],F] λv j ς hv g R=>?_];let#[k,hx]:=hv;let#[y,U,Z]:=r.get hx;have Q:Inv X c σ H {s with heap:=j,toks:=ς}:=I.turned (λb o f e=>R b o (by simpa using f) e) p q D B x;let#[o',S,O,Y]:=id g.1;erw[_,J,yct (s:={s with heap:=j,toks:=ς}) S O Y ∅ #[y,H,Q,Z,#[J,k,U],by rwa[m,g.1],λb f=>(l b f).1]]
 done:=by
  intro X C u t G i c s σ H E I l a #[n,M];subst C u t;let#[p,q,f2,D,B,x]:=l it 's';let#[L,r,F]:=ygc I n ho;let m:=r.length;erw[wpAny_pyNext_values_end (I.ok.hd G) (by rwa[<- m,a]) F (by rw[List.getElem?_eq_none_iff];omega) λj T=>#[J,I.turned (t':=s.toks) (λb o f e=>T b o f e) p q D B x]]
 self:=λv v v v v a h=>wpAny_pyIter_valiter a h
end
section
mutual
variable{X:Cx}
def vff(to:TE):TI:=λσ H R=>to σ H λx H1=>∃d kvs,x=.ref d/\H1 d=some (.dK kvs)/\∀o,R (Itk o d kvs) (upd H1 d (.frz o (.dK kvs)))
def vfx(to:TE):TI:=λσ H R=>to σ H λx H1=>∃d kvs,x=.ref d/\H1 d=some (.dK kvs)/\∀o,R (Itv o d kvs) (upd H1 d (.frz o (.dK kvs)))
def ydy{l:qh}{to:TE}(hl:PE X l to):PI X tg l (vff to):=by
 intro c s σ H R I h;erw[thn (hl c s σ H _ I h) λv a h'=>?_];let#[x,z,m,t,d,g,e,k,q]:=h';subst e;cases t;let#[_,i,y,r,p,A,B,f,C,n,D]:=(show xq X.prog X.w z a.heap d (.dK g)from m.hok d _ k);have E:a.heap.DictAt (wx X.prog X.w) d y B:=#[p,A,f,C,n,D];erw[wpAny_pyIter_dict i E ?_];let j:=m.freeze k trivial f;erw[a.heap.objs.size,[a.heap.objs.size],_,_,_,J,j.kept (t':=a.toks) λb o e=>bZ _ e,yhv d _ (cY (cB f)) n,#[_,cA _ J,J,by rw[r.length];rfl],λb u=>?_,q p];have e:b=a.heap.objs.size:=by simpa using u
 subst e;erw[j.fpOk (cc _) (j.hok.fresh (cc _))]
def ykl{l:qh}{to:TE}{apos cpos:Pos}(hl:PE X l to)(hbase:↑(attributeBase l "values" X.env (eval l X.env)=eval l X.env))(hline:↑((apos.endLine == cpos.line)=true)):PI X tg (.Call (.Attribute l "values" apos) [] [] cpos) (vfx to):=by
 intro i s σ H R I h;erw[wpAny_Call_method0_late hbase hline (thn (hl i s σ H _ I h) λv c h'=>?_)];let#[x,E,A,C,d,kvs,e,z,q]:=h';subst e;cases C;let#[_,n,p,r,k,G,ep,f,u,B,ς]:=(show xq X.prog X.w E c.heap d (.dK kvs)from A.hok d _ z);have y:c.heap.DictAt (wx X.prog X.w) d p ep:=#[k,G,f,u,B,ς];erw["dict","dict.values",F.plainAttrs_dict,F.slot_dict_values,F.type_dict_values,#[k,f,u.1],λa K=>by cases K;erw[k,f,u.2.1],Calls.callWith_builtin J (PySem.evalArgs_none (call_meetsIn F.slot_dict_values y.dictOf.typeIs F.entry_dict_values (F.args_dict_values_1 _) (meets_dict_values (wx X.prog X.w) d n) #[#[p,y.dictOf],?_]))];erw[wpAny_pyIter_values (knd:=wx X.prog X.w) (d:=d) (kvs:=p) (ep:=ep) #[_,cA _ J,J,J] (y.push _) ?_];let t:=A.freeze z trivial f;have g:(c.heap.push { cls:=.type "dict_values",data:=.fields #[.ref d]}).objs.size=c.heap.objs.size+1:=Heap.size_push ..;have m:d<c.heap.objs.size:=cB f;erw[_,[_],_,_,_,J,t.kept (t':=c.toks) λb o e=>bZ _ (bZ _ e),yiz d _ (show d≠(c.heap.push _).objs.size by rwa[g,cY (Nat.lt_succ_of_lt m)]) B,#[_,cA _ J,J,by rw[r.length];rfl],λb D=>?_,q k];have e:b=(c.heap.push { cls:=.type "dict_values",data:=.fields #[.ref d]}).objs.size:=by simpa using D
 have j:c.heap.objs.size<=b:=by rw[e,g];omega
 erw[t.fpOk j (t.hok.fresh j)]
def ytr{to:TE}{σ:St}{H:Hp}{R:It->Hp->Prop}(h:to σ H λx H1=>∃d kvs,x=.ref d/\H1 d=some (.dK kvs)/\∀o,R (Itk o d kvs) (upd H1 d (.frz o (.dK kvs)))):vff to σ H R:=h
def yt6{to:TE}{σ:St}{H:Hp}{R:It->Hp->Prop}(h:to σ H λx H1=>∃d kvs,x=.ref d/\H1 d=some (.dK kvs)/\∀o,R (Itv o d kvs) (upd H1 d (.frz o (.dK kvs)))):vfx to σ H R:=h
def yro(t:TE):TE:=λσ H Q=>t σ H λv H'=>∃d o u,(∀o u,H d≠some (.frz o u))/\H' d=some (.frz o u)/\Q v (upd H' d u)
def yjv{e:qh}{t:TE}(h:PE X e t):PE X e (yro t):=.mk λa s σ H Q I q=>thn (h a s σ H _ I q) λv f z=>by
 let#[x,g,ς,r,d,o,u,c,b,k]:=z;erw[x,_,ς.thaw (λo u e=>c o u (I.base.frzs d o u e)) b,r,k]
def yt9{t:TE}{σ:St}{H:Hp}{Q:VK}(h:t σ H λv H'=>∃d o u,(∀o u,H d≠some (.frz o u))/\H' d=some (.frz o u)/\Q v (upd H' d u)):yro t σ H Q:=h
def yxq:qj V->Hp->VK->Prop:=λxs H Q=>∃d kvs,xs=[.ref d]/\H d=some (.dK kvs)/\∀l,H l=none->Q (.ref l) (upd H l (.lst (kvs.map λp=>kV p.1)))
def ð(hc:X.calm=true):ji X (.type "list") yxq:=by
 intro j s σ H R T Q I r h;let#[d,kvs,J,l,q]:=h;let#[u,J,E]:=û r;cases E;let#[g,c,f,r,L,D,ep,m,ς,B,K]:=(show xq X.prog X.w H s.heap d (.dK kvs)from I.hok d _ l);have M:s.heap.DictAt (wx X.prog X.w) d f ep:=#[L,D,m,ς,B,K];erw[W.kdl_call (W.kdl_dict (knd:=wx X.prog X.w) (kvs:=f) (ep:=ep) c) (I.ok.hd hc) M (by rwa[<- r.length,g]) λz A a o n e b=>?_]
 have N:w8 (kvs.map λp=>kV p.1) a.toList:=ywl (by have P:=b.1;let O:=r.length;have S:a.toList.length=a.size:=dB;rw[bw];omega) λi v F=>by
  let#[k,x,G,t]:=b.2 i v (by rwa[<- Array.getElem?_toList,F]);let#[y,C,_]:=r.get G;erw[kV k,by rw[ci,C];rfl,vde t]
 erw[.ref 'n',_,I.laid (t':=A) n (cc _) (show xq X.prog X.w _ z _ (.lst _)from #[by rwa[bw,g],a.toList,o,N,by rwa[Array.toArray_toList,e]]),J,q _ (I.hok.fresh (cc _))]
end
end
mutual
def yap{o:Obj}{d:z4}{kvs:Κ}{g:TG}{tb:TS}{D:ç}{σ:St}{H:Hp}(Pv:Nat->St->Hp->Prop)(h0:Pv 0 σ H)(hl:∀i σ H,i<=kvs.length->Pv i σ H->H d=some (.frz o (.dK kvs)))
  (hs:∀i k v σ H,kvs[i]?=some (k,v)->Pv i σ H->g (kV k) σ H λσ2 H2=>tb {D with nx:=Pv (i+1),ct:=Pv (i+1),bk:=D.nx} σ2 H2) (hd:∀σ H,Pv kvs.length σ H->D.nx σ H):
  ∃W:Nat->Nat->St->Hp->Prop,(∃m,W 0 m σ H)/\∀i m σ H,W i m σ H ->
   ((Itk o d kvs).stop i H/\D.nx σ H)\/((Itk o d kvs).go i H/\∃N:Ζ,(∀σ' H',N σ' H'->∃m',m'<m/\W (i+1) m' σ' H')/\∀x H',(Itk o d kvs).yld i H x H'->g x σ H' λσ2 H2=>tb {D with nx:=N,ct:=N,bk:=D.nx} σ2 H2):=by
 erw[λi m σ H=>m=kvs.length-i/\i<=kvs.length/\Pv i σ H,#[kvs.length,'s',cI _,h0],?_];rintro i m σ H ⟨rfl,b,p⟩;let q:=hl i σ H b p;by_cases hlt:i<kvs.length
 .erw[.inr #[#[q,hlt],Pv (i+1),λσ' H' c=>#[kvs.length-(i+1),(),J,hlt,c],λx H' y=>?_]];let#[J,k,v,a,J]:=y;erw[hs i k v σ _ a p]
 .have e:i=kvs.length:=()
  subst e;erw[.inl #[#[q,cc _],hd σ H p]]
def ŗ{o:Obj}{d D:z4}{kvs:Κ}{te:TE}{fr:St}{R:Hp->Prop}{H1:Hp}(Pv:Nat->Hp->Prop)(h0:Pv 0 (upd H1 D (.lst [])))(hl:∀i H,i<=kvs.length->Pv i H->H d=some (.frz o (.dK kvs)))
  (hs:∀i k v H,kvs[i]?=some (k,v)->i<kvs.length->Pv i H->te (some v::fr) H λy H4=>∃ys,H4 D\ys/\ys.length<sizeLine/\∃m',m'<kvs.length-i/\cW kvs.length Pv (i+1) m' (upd H4 D (.lst (ys++[y])))) (hd:∀H,Pv kvs.length H->R H):ur (Itv o d kvs) te fr D R H1:=by
 erw[cW kvs.length Pv,#[kvs.length,'s',cI _,h0],?_];rintro i m H ⟨rfl,b,p⟩;let q:=hl i H b p;by_cases hlt:i<kvs.length
 .erw[.inr #[#[q,hlt],λx c y=>?_]];let#[J,k,a]:=y;erw[hs i k x _ a hlt p]
 .have e:i=kvs.length:=()
  subst e;erw[.inl #[#[q,cc _],hd H p]]
noncomputable def isN:V->Bool
 | .non=>true
 |_=>false
noncomputable def vgr:qc->Bool
 | .none=>true
 |_=>false
def vkv(K:z3):R2:=λx y H Q=>∃p xs,x=.non/\y=.ref p/\SqL K H p xs/\(∀z∈xs,z=.non\/∃q ys,z=.ref q/\SqL K H q ys)/\Q (.bl (xs.any isN)) H
theorem yko:∀{xs:Υ}{us:Ο},w8 xs us->(∀z∈xs,z=.non\/∃q,z=.ref q)->us.any vgr=xs.any isN
 |_,_,.nil,_=>rfl
 |y::xs,u::us,.cons r t,f=>by
  rw[List.any_cons,List.any_cons,yko t λz a=>f z (cM _ a)]
  congr 1
  rcases f y cN with rfl|⟨q,rfl⟩
  .cases r;rfl
  .cases r;rfl
def yye{X:Cx}(hu:X.A.units+64<cLine):OpR X (compareOp .In) (vkv X.K):=by
 intro n s σ H x y v u Q I F G h;let#[p,d,J,J,B,c,q]:=h;cases F;cases G;let#[b,r,E,D]:=I.list B
 have g:∀{d:Υ}{j:Ο},w8 d j->(∀z∈d,z=.non\/∃q o,z=.ref q/\SqL X.K H q o)->∀w∈j,SeqAt.EqAt X.A.in1 s w .none (vgr w):=by
  intro d j C
  induction C with
  |nil=>intro _ w a;cases a
  |cons r1 t ih =>
   intro f w a;rcases cr.mp a with rfl|a
   .rcases f _ cN with rfl|⟨ς,o,rfl,i⟩
    .cases r1;erw[SeqAt.EqAt.same _]
    .cases r1;let#[m,_,k,_]:=I.list i;erw[SeqAt.EqAt.list_none k.isList (by show X.A.units+1<cLine;omega)]
   .erw[ih (λz c=>f z (cM _ c)) w a]
 erw[SeqAt.in_listAt vgr E.isList (λw a=>g r c w (by simpa using a)) #[.bl _,H,I,J,?_]];rw[show b.toArray.any vgr=b.any vgr by simp,yko r λz l=>(c z l).imp id λ⟨q,_,e,_⟩=>#[q,e]];erw[q]
def ybw{X:Cx}:ji X (.builtin "len") (λxs H Q=>∃a kvs,xs=[V.ref a]/\H a=some (.dK kvs)/\Q (.int kvs.length) H):=by intro b s σ H xs g Q I r h;let#[a,kvs,J,e,q]:=h;let#[u,J,d]:=û r;cases d;erw[vig I (.of e) λt f c=>#[.int kvs.length,H,c,#[t,J],q]]
def yu5{σ:St}{H:Hp}{Q:VK}(h:∀p,H p=none->Q (.ref p) (upd H p (.dK []))):yrp σ H Q:=h
def yu8{td ty:TE}{σ:St}{H:Hp}{Q:VK}(h:td σ H λx H1=>∃a,x=.ref a/\IsD H1 a/\ty σ H1 λy H2=>∃kvs k v,H2 a=some (.dK kvs)/\y=kV k/\jn kvs k=some v/\Q v (upd H2 a (.dK (ã kvs k)))):yr1 td ty σ H Q:=h
def yi0(bs:qj Bool):((List.range bs.length).any λi=>(bs[i]?).getD false)=bs.any id:=by
 rw[Bool.eq_iff_iff,dN,dN]
 constructor
 .rintro ⟨i,a,h⟩;let a:=dy.mp a;rw[bP a]at h;erw[_,cV a,h]
 .rintro ⟨b,c,h⟩;let#[i,a,J]:=List.getElem_of_mem c;erw[i,dy.mpr a,by rwa[bP a,h]]
def ymj{X:Cx}(hc:X.calm=true):ji X (.builtin "any") (λxs H Q=>∃p bs,xs=[.ref p]/\SqL X.K H p (List.map V.bl bs)/\Q (.bl (bs.any id)) H):=by
 intro g s σ H xs E Q I r h;let#[p,bs,J,l,q]:=h;let#[u,J,t]:=û r;cases t;let#[n,j,o,C]:=I.list l;obtain rfl:=yan j;let f:=o.isList;have c:p<'n':=by let#[_,e,_]:=f;erw[cB e]
 erw[call_any_walk (wpAny_pyIter_list f ?_)]
 erw['n',['n',p],['n'],(bs.map Value.bool).toArray.size,_,_,λi=>(bs[i]?).getD false,J,Walks.list (A:=X.A.in1) (show X.A.handled=none from I.ok.hd hc) _ p (cY c) (bs.map Value.bool).toArray,
  #[#[_,cA _ J,J,J],f.push _],λi v y D z a d=>?_,λB m k=>?_]
 .have a:(bs.map Value.bool)[i]?=some v:=by simpa using a
  rw[ci]at a
  cases e:bs[i]? with
  |none=>rw[e]at a;cases a
  |some b =>
   dsimp only at d;rw[e]at a d;cases a;erw[dA d]
 .have e:((List.range (bs.map Value.bool).toArray.size).any λi=>(bs[i]?).getD false)=bs.any id:=by rw[cF,bw];exact yi0 bs
  rwa[e,#[.bl (bs.any id),H,I.kept (t':=m) λb x e=>k b x (λw=>?_) (bZ _ e),J,q]];rw[cn.mp w]at e;erw[dM _ (cB e)]
end
section
mutual
variable{X:Cx}
def vi5:V->ql Int->ql Int->Hp->VK->Prop:=λx lo hi H Q=>∃z:Str,x=.str z/\z.length<=sizeLine/\Q (.str (Txt.slice z lo hi)) H
def ypm:SlR X vi5:=by
 intro e s σ H x v o n lo p m Q I g a f d h;let#[z,J,b,q]:=h;let#[t,J]:=g;erw["str",_,F.slot_str_getitem.lookup,typeIs_str _ _ _,?_]
 cases f with
 |none =>
  cases d with
  |none=>erw[wpAny_getItem_str_slice (l:=none) (u:=none) (st:=none) a J (post_val_or_str #[cO (Txt.slice_le z _ _) b,λc k=>#[.str _,H,I.tok _,#[_,J],q]])]
  |int j uj=>erw[wpAny_getItem_str_slice (l:=none) (u:=some (j,uj)) (st:=none) a J (post_val_or_str #[cO (Txt.slice_le z _ _) b,λc k=>#[.str _,H,I.tok _,#[_,J],q]])]
 |int i ui =>
  cases d with
  |none=>erw[wpAny_getItem_str_slice (l:=some (i,ui)) (u:=none) (st:=none) a J (post_val_or_str #[cO (Txt.slice_le z _ _) b,λc k=>#[.str _,H,I.tok _,#[_,J],q]])]
  |int j uj=>erw[wpAny_getItem_str_slice (l:=some (i,ui)) (u:=some (j,uj)) (st:=none) a J (post_val_or_str #[cO (Txt.slice_le z _ _) b,λc k=>#[.str _,H,I.tok _,#[_,J],q]])]
def ymt{x:Str}{j:Nat}(h:j<=x.length):(Txt.slice x none (some (j:Int))).cps.toList=x.cps.toList.take j:=by have e:=slice_closes_toL (x:=x) (j:=(j:Int)) () ();rw[beq_iff_eq.mp e];simp
def ygi{x:Str}{j:Nat}(h:j<=x.length):(Txt.slice x (some (j:Int)) none).cps.toList=x.cps.toList.drop j:=by
 rw[slice_from_eq (b:=(x.length:Int)) () () J];have e:x.length=x.cps.toList.length:=by simp[Str.length]
 simp;rw[db (by rw[dE,e];omega)]
end
end
section
mutual
variable{X:Cx}
def viy:R2:=λx y H Q=>∃(z:Str)(k:Int),x=.str z/\y=.int k/\0<=k/\k<=2000/\z.length<=1000/\∀z':Str,z'.cps.toList=(List.replicate k.toNat z.cps.toList).flatten->Q (.str z') H
theorem yjx(a:Array Nat):∀(k:Nat)(b:Array Nat),((List.replicate k a).foldl (·++·) b).toList=b.toList++(List.replicate k a.toList).flatten
 |0,b=>by simp
 |k+1,b=>by
  rw[di,List.foldl_cons,yjx a k,Array.toList_append,di,List.flatten_cons,cJ]
theorem ś:OpR X (binaryOp .Mult) viy:=by
 intro a s σ H x y v u Q I f g h;let#[z,k,J,J,l,n,j,q]:=h;let#[t,J]:=f;let#[o,J]:=g;by_cases k0:k<1
 .erw[P.mul_str_none k0 () #[.str Str.empty,H,I.tok _,#[_,J],q _ (by rw[show k.toNat=0 by omega];rfl)]]
 have m:z.length*k.toNat<=1000*2000:=Nat.mul_le_mul j ();erw[P.mul_str (by rw[cj (),cj ()];rfl) (λZ Z=>?_) (λZ Z=>?_) ?_]
 .have c:(z.length:Int)*k=((z.length*k.toNat:Nat):Int):=by rw[Int.natCast_mul,Int.toNat_of_nonneg ()]
  have d:(z.length:Int)*k<=(2^63-1:Int):=by rw[c];omega
  erw[Int.not_lt.mpr (Int.le_ediv_of_mul_le () d)]
 .have:=sizeLine_eq;unfold Builtin.Str.tooLong;erw[cj ()]
 .rw[if_neg ()];by_cases h1:(k == 1 || z.length == 0)=true
  .rw[if_pos h1];erw[.str z,H,I,#[_,J],q z ?_];rcases Bool.or_eq_true_iff.mp h1 with e|e
   .rw[beq_iff_eq.mp e];simp
   .have i:z.cps.toList=[]:=dw (by have:=beq_iff_eq.mp e;simpa[Str.length]using this);rw[i];simp
  .rw[if_neg h1];let b:=yjx z.cps k.toNat #[];exists ?_,#[.str _,H,I.tok _,#[_,J],q _ b]
   have e:Str.length ⟨(List.replicate k.toNat z.cps).foldl (·++·) #[]⟩=k.toNat*z.cps.toList.length:=by
    show ((List.replicate k.toNat z.cps).foldl (·++·) #[]).size=_;rw[<- dB,b];simp[List.sum_replicate_nat]
   rw[e,sizeLine_eq,Nat.mul_comm];have:z.cps.toList.length=z.length:=by simp[Str.length]
   rw[this];omega
end
end
section
variable{prog:qi}{w:qe}
noncomputable def vh8(k:Int×qj Int):Int:=reduceHash (Builtin.Tuple.tupleHashOf [hashInt k.1,reduceHash (Builtin.Tuple.tupleHashOf (k.2.map hashInt))])
variable{A:qf}{E:Δ}{s:qa}
end
mutual
abbrev NX:=(Int×qj Int)×z4×z4
def vkq(x:NX):DictEntry:=#[vh8 x.1,.ref x.2.1,.ref x.2.2]
def ND(a:z4)(xs:qj NX):HO:=.ext λh=>(a == sysModules)=false/\∃o es ep,h.get? a=some o/\o.ExactDict/\o.data=.dict es ep/\es.toList=xs.map vkq
def NKy(H:Hp)(p:z4)(k:Int×qj Int):Prop:=∃b,H p∪[.int k.1,.ref b]/\H b∪(k.2.map V.int)
structure NDt(H:Hp)(a:z4)(xs:qj NX):Prop where
 o:H a=some (ND a xs)
 k:∀x∈xs,NKy H x.2.1 x.1
 n:(xs.map (·.1)).Nodup
 l:xs.length<sizeLine
def yqk{X:Cx}{K:z3}{o e:qh}{es:qj qh}{to:TE}{t:TA}{name:Str}{apos cpos:Pos}{T id:String}{r:V->qj V->Hp->VK->Prop}(hK:X.K=K)(pa:PlainAttrs T)(slot:Slot T name id)(hty:typeOf (.builtin id)=pure (.type "method_descriptor"))(hm:MtR X id r)(ho:PE X o to)(ha:PA X (e::es) t)
  (hbase:↑(attributeBase o name X.env (eval o X.env)=eval o X.env))
  (hfew:((backTo cpos (starEach (e::es) X.env)).all (λx=>!x.1) && (backToKw cpos (keywordEach [] X.env)).all (λx=>x.1.isSome)
   && decide ((e::es).length+([]:qj Keyword).length+(if ([]:qj Keyword).isEmpty then 0 else 1)<30))=true:=by rfl)
  (hline:↑((apos.endLine == cpos.line)=true)) (hs:↑'a') (hplain:↑((backTo cpos (starEach es X.env)).any (·.1)=false)):
  PE X (.Call (.Attribute o name apos) (e::es) [] cpos) (tBM K T r to t):=hK ▸ uy pa slot hty hm ho ha hbase hfew hline hs hplain
def yne(b:Str)(ns:Τ):inV (.str b) (ns.map V.str)=decide (b∈ns):=by
 unfold inV;rw[Bool.eq_iff_iff,dN,decide_eq_true_iff]
 constructor
 .rintro ⟨v,a,e⟩;let#[x,c,J]:=ce.mp a;have d:x=b:=eq_of_beq (show (x == b)=true from e);rwa[<- d,c]
 .intro h;erw[_,ce.mpr #[b,h,J],show (b == b)=true from beq_self_eq_true b]
def ybs(ns:Τ):(ns.map V.str).all Ŏ=true:=by rw[List.all_eq_true];intro v a;let#[x,_,J]:=ce.mp a;rfl
end
end L2
namespace L2
open PySem.SeqAt PySem.Builtin PySem.Builtin.Str
mutual
noncomputable def isS(b:Str):qc->Bool
 | .str x _=>decide (x=b)
 |_=>false
def vjp(ns:Τ)(b:Str)(j:Nat):Prop:=ns[j]?=some b/\∀m,m<j->ns[m]?≠some b
theorem yky(b:Str):∀{ns:Τ}{vs:Ο},w8 (ns.map V.str) vs->∀(j:Nat)(h:j<vs.length),isS b vs[j]=decide (ns[j]?=some b)
 |[],_,.nil,j,h=>absurd h (cP j)
 |x::ns,_,.cons r rs,j,h=>by
  let#[t,J]:=r
  cases j with
  |zero =>
   show decide (x=b)=decide (some x=some b);simp
  |succ j=>erw[yky b rs j (Nat.lt_of_succ_lt_succ h)]
theorem yqa(b:Str)(u:Tok):∀{ns:Τ}{vs:Ο},w8 (ns.map V.str) vs->∀y,y∈vs->MeetsSeq.EqGives y (.str b u) (isS b y)
 |[],_,.nil,y,h=>nomatch h
 |x::ns,_,.cons r rs,y,h=>by
  let#[t,J]:=r;rcases cr.mp h with rfl|h
  .erw[λZ Z Z Z Z Z h=>wpAny_eqBool_str h]
  .erw[yqa b u rs y h]
end
section
mutual
variable{X:Cx}
def yvf(K:z3):V->qj V->Hp->VK->Prop:=λx vs H Q=>∃l ns b j,x=.ref l/\vs=[.str b]/\SqL K H l (List.map V.str ns)/\vjp ns b j/\Q (.int (j:Nat)) H
def yh8:MtR X "list.index" (yvf X.K):=by
 intro w s σ H x S v U Q I N E h;let#[l,g,b,j,J,J,ς,#[z,e],q]:=h;cases N;let#[u,J,P]:=E.one;let#[t,J]:=P;let#[a,r,M,o]:=I.list ς;let#[#[B,T,i,C],n,p,A,d,c]:=M;simp only at A d c;subst A d c;have k:g.length=a.length:=by rw[<- r.length,bw]
 have D:j<g.length:=(ck.mp z).1;let G:=yck;have R:g.length<=sizeLine:=by rw[bw]at o;erw[o]
 refine call_meets PySem.F.slot_list_index #[_,p,J] PySem.F.entry_list_index (PySem.F.args_list_index_2 _ _)
  (list_indexAt l a.toArray n none C (.str b t) (isS b) j (by rw[cF];omega) () ?_ ?_) #[p,λy L=>(yqa b t r y (by simpa using L)).at _ _,.int j,H,I.tok _,#[_,J],q]
 .show isS b a[j]=true;rwa[yky b r j (),cg z]
 .intro m O f;show isS b a[m]=false;rwa[yky b r m (by simpa using O),cj (e m f)]
def ydq:V->qj V->Hp->VK->Prop:=λx vs H Q=>∃y b,∃i:Nat,∃xt,x=.str y/\vs=[.str b]/\occurrences y b 0 y.length 1=i::xt/\Q (.int i) H
def yb6:MtR X "str.index" ydq:=by intro a s σ H x j v k Q I e f h;let#[y,b,i,xt,J,J,c,q]:=h;let#[t,J]:=e;let#[u,J,d]:=f.one;let#[g,J]:=d;erw[SC.index c #[.int i,H,I.tok _,#[_,J],q]]
end
end
def viu(t:z4)(o:Obj)(n:Nat)(x y z b:Str)(tx ty tz u:Tok)(hc:o.cls=.type "tuple")(hd:o.data=.seq (List.toArray [.str x tx,.str y ty,.str z tz]) n)(k:Nat)(hk:(x=b/\k=0)\/(x≠b/\y=b/\k=1)\/(x≠b/\y≠b/\z=b/\k=2)):
  Meets (Builtin.«tuple.index» #[[.ref t,.str b u],[]]) (λZ R s=>s.heap.get? t=some o/\R (.ok (.ret (.int (k:Nat) s.toks))) {s with toks:=s.toks+1}) :=
 .of_wp λa w A R s h=>by
  let#[F,g,K,H,ς]:=s;let#[m,h]:=h;let#[c,d,G,I]:=o;simp only at hc hd;subst hc hd;unfold Builtin.«tuple.index»;simp only[Std.Legacy.Range.forIn_eq_forIn_range',Std.Legacy.Range.size,Nat.sub_zero,Nat.add_sub_cancel,Nat.div_one]
  have f:∀{c:Bool}{q r:Str}{v B:Tok},decide (q=r)=c->∀{Q:Bool->qa->Prop}{E:Δ}{A:qf}{s:qa},Q c s->wpAny (model a w) A (eqBool (.str q v) (.str r B)) Q E s:=by
   intro c q r v B e Q E A s h;erw[wpAny_eqBool_str (by rwa[e,h])]
  rcases hk with⟨j,rfl⟩|⟨j,p,rfl⟩|⟨j,p,C,rfl⟩
  .have i:∀{Q:Bool->qa->Prop}{E:Δ}{A:qf}{s:qa},Q true s->wpAny (model a w) A (eqBool ((List.toArray [Value.str x tx,Value.str y ty,Value.str z tz])[0]) (Value.str b u)) Q E s:=λh=>f (cg j) h
   wp_walk using AutoSeq1.wpAny_loadPart' m,i
   exists _,J,h
  .have i:∀{Q:Bool->qa->Prop}{E:Δ}{A:qf}{s:qa},Q false s->wpAny (model a w) A (eqBool ((List.toArray [Value.str x tx,Value.str y ty,Value.str z tz])[0]) (Value.str b u)) Q E s:=λh=>f (cj j) h;have l:∀{Q:Bool->qa->Prop}{E:Δ}{A:qf}{s:qa},Q true s->wpAny (model a w) A (eqBool ((List.toArray [Value.str x tx,Value.str y ty,Value.str z tz])[1]) (Value.str b u)) Q E s:=λh=>f (cg p) h
   wp_walk using AutoSeq1.wpAny_loadPart' m,i,l
   exists _,J,h
  .have i:∀{Q:Bool->qa->Prop}{E:Δ}{A:qf}{s:qa},Q false s->wpAny (model a w) A (eqBool ((List.toArray [Value.str x tx,Value.str y ty,Value.str z tz])[0]) (Value.str b u)) Q E s:=λh=>f (cj j) h;have l:∀{Q:Bool->qa->Prop}{E:Δ}{A:qf}{s:qa},Q false s->wpAny (model a w) A (eqBool ((List.toArray [Value.str x tx,Value.str y ty,Value.str z tz])[1]) (Value.str b u)) Q E s:=λh=>f (cj p) h;have D:∀{Q:Bool->qa->Prop}{E:Δ}{A:qf}{s:qa},Q true s->wpAny (model a w) A (eqBool ((List.toArray [Value.str x tx,Value.str y ty,Value.str z tz])[2]) (Value.str b u)) Q E s:=λh=>f (cg C) h
   wp_walk using AutoSeq1.wpAny_loadPart' m,i,l,D
   exists _,J,h
section
variable{X:Cx}
def ywf(K:z3):V->qj V->Hp->VK->Prop:=λx vs H Q=>∃y0 y1 y2 b t,∃k:Nat,x=.ref t/\vs=[.str b]/\SqT K H t [.str y0,.str y1,.str y2]/\((y0=b/\k=0)\/(y0≠b/\y1=b/\k=1)\/(y0≠b/\y1≠b/\y2=b/\k=2))/\Q (.int (k:Nat)) H
def yi4:MtR X "tuple.index" (ywf X.K):=by
 intro c s σ H x E v ς Q I A p h;let#[B,j,D,b,t,k,J,J,i,l,q]:=h;cases A;let#[u,J,C]:=p.one;let#[f,J]:=C;let#[m,r,z,G]:=I.tuple i;let#[o,a,d,n,e]:=z
 cases r with
 |cons r0 r=>cases r with
  |cons r1 r=>cases r with
   |cons r2 r =>
    cases r;let#[w,J]:=r0;let#[y,J]:=r1;let#[g,J]:=r2;erw[call_meets PySem.F.slot_tuple_index #[_,a,d] PySem.F.entry_tuple_index (PySem.F.args_tuple_index_2 _ _) (viu t o n B j D b w y g f d e k l) #[a,.int k,H,I.tok _,#[_,J],q]]
end
end L2
namespace L2
def jx.m{j k:Nat}{A:qf}(r:jx k A)(h:⇑(j<=k)):jx j A:=r.mono h
section
variable{X:Cx}{e:qh}{es:qj qh}{te:TE}{t:TA}
def pa1(ha:PE X e te)(h:autoParam (yd3 e=true) aF._auto_1):PA X [e] (yl2 te ypb):=yj6 ha u8 (yjo h)
def pac(ha:PE X e te)(hr:PA X es t)(h:autoParam (yd3 e=true) aF._auto_1):PA X (e::es) (yl2 te t):=yj6 ha hr (yjo h)
end
section
mutual
variable{X:Cx}{k:Nat}{f:z4}{fd:FuncData}{ps:Τ}{sp:Sp}{Ex:St->XK}{x:Str}{p pos:Pos}{e:qh}{es:qj qh}{t:TA}{st:qd}{id:String}{r:qj V->Hp->VK->Prop}{T:String}
def xp(F:vq X.prog X.w X.K X.mg X.base CX0 k f fd ps sp)(hr:jx k X.A)(D:Dff X.K X.mg x st ps f fd)(ha:PA X (e::es) t)(hg:autoParam (Gl X x) aF._auto_1)(hdb:⇑'d')
  (he:↑'a') (hpl:↑'b'):PE X (.Call (.Name x p) (e::es) [] pos) (yws sp [] E0 t):=yd1 F hr hg D.m D.F.kp D.B .nil vv ha hdb he hpl
def uh(F:vq X.prog X.w X.K X.mg X.base (CXe X.prog X.w) k f fd ps sp)(hr:jx k X.A)(D:Dff X.K X.mg x st ps f fd)(hc:Ŋ X Ex)(ha:PA X (e::es) t)(hg:autoParam (Gl X x) aF._auto_1)(hdb:⇑'d')
  (he:↑'a') (hpl:↑'b'):PE X (.Call (.Name x p) (e::es) [] pos) (ykw sp [] Ex t):=yng F hr hg D.m D.F.kp D.B .nil hc ha hdb he hpl
def pcB(hc:ji X (.builtin id) r)(hm:X.mg x=none)(ha:PA X (e::es) t)(hg:autoParam (Gl X x) aF._auto_1)(hv:↥(bootBuiltins x=some (.builtin id)))(hn:⇑(x≠"__name__"))(hdb:⇑'d')
  (he:↑'a') (hpl:↑'b'):PE X (.Call (.Name x p) (e::es) [] pos) (tCB r t):=yon hc hg hm hv ha hn hdb he hpl
def pcT(hc:ji X (.type T) r)(hm:X.mg x=none)(ha:PA X (e::es) t)(hg:autoParam (Gl X x) aF._auto_1)(hv:↥(bootBuiltins x=some (.type T)))(hn:⇑(x≠"__name__"))(hdb:⇑'d')
  (he:↑'a') (hpl:↑'b'):PE X (.Call (.Name x p) (e::es) [] pos) (tCB r t):=yi2 hc hg hm hv ha hn hdb he hpl
end
end
section
mutual
variable{X:Cx}{x f:Str}{p pos pos':Pos}{a b e:qh}{ta tb te:TE}{r:R2}
def pfs(hN:↑(X.N[0]?=some x))(hv:autoParam (Vis X.env.scope x) aH._auto_1)(hd:⇑'d')(hcd:⇑((x == ("__classdict__":Str))=false))(hb:↑(attributeBase (.Name x p) f X.env (eval (.Name x p) X.env)=eval (.Name x p) X.env)):PE X (.Attribute (.Name x p) f pos) (vgw X.K (yxb 0) f):=zu (ylf hN hv hd hcd) hb
def pav(i:Nat)(hN:↑(X.N[i]?=some x))(hv:autoParam (Vis X.env.scope x) aH._auto_1)(hd:⇑'d')(hcd:⇑((x == ("__classdict__":Str))=false)):PA X [.Name x p] (yl2 (yxb i) ypb):=pa1 (ylf hN hv hd hcd)
def pst(i:Nat)(hN:X.N.Nodup)(he:PE X e te)(hi:↑(X.N[i]?=some x))(hx:Loc X.env.scope x:=by exact Or.inl J)(hs:↑(swapsWith e (some (.Name x pos')) pos.line X.env=pure false))(hf:autoParam (X.fn x=true\/X.env.scope.names.lookup x=some .local) aG._auto_1):
  PS X (.Assign [.Name x pos'] e pos) (yw6 te (xi i)):=z8 hN hi hx he hs hf
def pix(hr:IxR X r)(ha:PE X a ta)(hb:PE X b tb)(hs:yka b:=by exact λZ Z=>rfl):PE X (.Subscript a b pos) (tOp r ta tb):=vhu hr ha hb hs
end
end
section
variable{X:Cx}
def vkj(cs:qj Nat):(cs.map ((λx:Str=>x.length) ∘ λc=>(⟨#[c]⟩:Str))).sum=cs.length:=by
 induction cs with
 |nil=>rfl
 |cons c cs ih=>rw[cX,List.sum_cons,ih,cD];show 1+cs.length=_;omega
end
mutual
noncomputable def yw5(K:z3)(a:z4)(xs:Υ):It :=
 #[λi H=>SqL K H a xs/\i<xs.length,λi H x H'=>H'=H/\xs.reverse[i]?=some x,λi Z=>i=xs.length]
def ymr{P:qi}{w:qe}{K:z3}{tg:qh}(a it:z4)(xs:Υ):yek P w K tg (yw5 K a xs) [it] it (λi h=>h.IsRevIter it a ((xs.length:Int)-1-i)) where
 mem:='s'
 obj:=λi h f b j=>by
  have e:b=it:=by simpa using j
  subst e;let#[o,e,c,d]:=f;erw[o,e,λv z=>by rw[d]at z;cases z]
 keep:=λi h m f k=>f.at λo e=>k it 's' o e
 item:=by
  intro X D A y G i g s σ H E I n f q;subst D A y;let#[L,R]:=q;let#[M,O,p,Y]:=I.list L;let#[u,Q,T]:=O.get (bP (show xs.length-1-i<xs.length by omega));let#[r,t,S,F,C,B]:=n it 's';rw[show (xs.length:Int)-1-(i:Int)=((xs.length-1-i:Nat):Int) by omega]at f;erw[wpAny_pyNext_rev_item f p.isList (x:=u) (by simpa using Q) λm l U=>?_];rw[show ((xs.length-1-i:Nat):Int)-1=(xs.length:Int)-1-((i+1:Nat):Int) by omega]at l;have ς:Inv X g σ H {s with heap:=m}:=I.turned (t':=s.toks) (λb o j e=>(U.2 b j).trans e) r t F C B;let#[o,e,c,d]:=id l;erw[u,J,yct (s:={s with heap:=m}) e c d ∅ #[_,H,ς,T,#[J,by rw[List.getElem?_reverse R,bP]],l,λb j=>(n b j).1]]
 done:=by
  intro X D A y G i g s σ H E I n f q;subst D A y;let#[r,t,S,F,C,B]:=n it 's';rw[show i=xs.length from q,show (xs.length:Int)-1-(xs.length:Int)=-1 by omega]at f;erw[wpAny_pyNext_rev_end (I.ok.hd G) f λm N=>#[J,I.turned (t':=s.toks) (λb o j e=>N b o j e) r t F C B]]
 self:=λZ Z Z Z Z f h=>wpAny_pyIter_revIter f h
def vj2(K:z3)(ta:TA):TI:=λσ H R=>ta σ H λvs H1=>∃a xs,vs=[.ref a]/\SqL K H1 a xs/\R (yw5 K a xs) H1
def yxl{X:Cx}{tg a:qh}{ta:TA}{p pos:Pos}(hg:Gl X "reversed")(hm:X.mg "reversed"=none)(ha:PA X [a] ta)(hs:↑(starEach [a] X.env=[(false,eval a X.env)]))(hv:↥(bootBuiltins "reversed"=some (.type "reversed"))):PI X tg (.Call (.Name "reversed" p) [a] [] pos) (vj2 X.K ta):=by
 intro d s σ H R I h;erw[Call_ (Ą I hg hm hv (PyProof.Rows.callWith_type1 (thn (ha pos d s σ H _ I h) λw c h'=>?_) hs J))];let#[x,l,f,n,r]:=h';let#[a,i,e,k,q]:=r;subst e;let#[u,J,m]:=n.one;cases m;let#[g,v,p,y]:=f.list k;erw[call_reversed_list p.isList ?_]
 have j:(c.heap.push (revObj a ((g.toArray.size:Int)-1))).IsRevIter c.heap.objs.size a ((i.length:Int)-1-((0:Nat):Int)):=by
  rwa[v.length,#[_,cA _ J,J,?_]];simp[revObj]
 erw[wpAny_pyIter_revIter j ?_,<-c.heap.objs.size,[c.heap.objs.size],_,_,l,J,f.kept (t':=c.toks) λb o e=>bZ _ e,ymr a _ i,j,λb t=>?_,q];have e:b=c.heap.objs.size:=by simpa using t
 subst e;erw[f.fpOk (cc _) (f.hok.fresh (cc _))]
def yzc{K:z3}{ta:TA}{σ:St}{H:Hp}{R:It->Hp->Prop}(h:ta σ H λvs H1=>∃a xs,vs=[.ref a]/\SqL K H1 a xs/\R (yw5 K a xs) H1):vj2 K ta σ H R:=h
def ysx{K:z3}{a:z4}{xs:Υ}{g:TG}{tb:TS}{D:ç}{σ:St}{H:Hp}(Pv:Nat->St->Hp->Prop)(h0:Pv 0 σ H)(hl:∀i σ H,i<=xs.length->Pv i σ H->SqL K H a xs)
  (hs:∀i x σ H,xs.reverse[i]?=some x->Pv i σ H->g x σ H λσ2 H2=>tb {D with nx:=Pv (i+1),ct:=Pv (i+1),bk:=D.nx} σ2 H2) (hd:∀σ H,Pv xs.length σ H->D.nx σ H):
  ∃W:Nat->Nat->St->Hp->Prop,(∃m,W 0 m σ H)/\∀i m σ H,W i m σ H ->
   ((yw5 K a xs).stop i H/\D.nx σ H)\/((yw5 K a xs).go i H/\∃N:Ζ,(∀σ' H',N σ' H'->∃m',m'<m/\W (i+1) m' σ' H')/\∀x H',(yw5 K a xs).yld i H x H'->g x σ H' λσ2 H2=>tb {D with nx:=N,ct:=N,bk:=D.nx} σ2 H2):=by
 erw[λi m σ H=>m=xs.length-i/\i<=xs.length/\Pv i σ H,#[xs.length,'s',cI _,h0],?_];rintro i m σ H ⟨rfl,b,p⟩;let q:=hl i σ H b p;by_cases hlt:i<xs.length
 .erw[.inr #[#[q,hlt],Pv (i+1),λσ' H' c=>#[xs.length-(i+1),(),J,hlt,c],λx H' y=>?_]];let#[e,y]:=y;subst e;erw[hs i x σ _ y p]
 .have e:i=xs.length:=()
  subst e;erw[.inl #[J,hd σ H p]]
end
end L2
namespace L2
open PySem.Builtin PySem.Builtin.Str in
def yn7{prog:qi}{w:qe}{A:qf}{E:Δ}{s:qa}{x y:Str}{t u:Tok}{Q:Δ}(hy:(y.length == 0)=false)
  (hq:∀l k,l.map (·.1)=Txt.split x y->Q (.ref 'n') {s with heap:=s.heap.push { cls:=.type "list",data:=.seq (strValues l).toArray},toks:=k})
  (hsz:x.length<=sizeLine) (hsz2:(partsBetween x (occurrences x y 0 x.length (x.length+1)) y.length).length<=sizeLine):
  wpAny (model prog w) A (call (.builtin "str.split") [.str x t,.str y u]) Q E s:=by
 cases h1:(decide (x.length<y.length) || decide (strKind x<strKind y))
 .cases hf:(occurrences x y 0 x.length (x.length+1)).isEmpty
  .erw[call_meets F.slot_str_split (typeIs_str _ _ _) F.entry_str_split (F.args_str_split_2 _ _) (meets_str_split_sep x y t u h1 hy hf hsz hsz2) ?_];show wants Q E _ {s with toks:=_,heap:=s.heap.push { cls:=.type "list",data:=.seq (strsFrom s.toks (partsBetween x (occurrences x y 0 x.length (x.length+1)) y.length)).toArray} };rwa[strsFrom_eq,hq (numbered s.toks _) _ ((numbered_texts _ _).trans ((if_neg (ne_true_of_eq_false h1)).trans (if_neg (ne_true_of_eq_false hf))).symm)]
  .exact call_meets F.slot_str_split (typeIs_str _ _ _) F.entry_str_split (F.args_str_split_2 _ _) (meets_str_split_not_found x y t u h1 hy hf)
    (hq [(x,t)] s.toks ((if_neg (ne_true_of_eq_false h1)).trans (if_pos hf)).symm)
 .exact call_meets F.slot_str_split (typeIs_str _ _ _) F.entry_str_split (F.args_str_split_2 _ _) (meets_str_split_cannot_occur x y t u h1)
   (hq [(x,t)] s.toks (if_pos h1).symm)
section
mutual
variable{X:Cx}
def vbp:V->qj V->Hp->VK->Prop:=λx vs H Q=>∃s y:Str,x=.str s/\vs=[.str y]/\(y.length == 0)=false/\s.length<=100000/\∀l,H l=none->Q (.ref l) (upd H l (.lst ((Txt.split s y).map V.str)))
theorem ybq:∀l:qj (Str×Tok),w8 ((l.map (·.1)).map V.str) (strValues l)
 |[]=>.nil
 |(x,t)::l=>.cons #[t,J] (ybq l)
def yol:MtR X "str.split" vbp:=by
 intro a s σ H x p v n Q I i j h;let#[z,y,J,J,f,A,q]:=h;let#[t,J]:=i;let#[u,J,g]:=j.one;let#[m,J]:=g;have r:sizeLine ≥ 100002:=∅
 have c:(Builtin.Str.partsBetween z (Builtin.Str.occurrences z y 0 z.length (z.length+1)) y.length).length<=sizeLine:=by
  rw[len_partsBetween];have:=StrLaws.occ_length_le z y 0 z.length (z.length+1);omega
 erw[yn7 f (λl k e=>?_) () c];let d:=split_le z y;erw[.ref _,_,I.laid (t':=k) (o:=.lst ((Txt.split z y).map V.str)) (λb w q=>bZ _ q) (cc _) ?_,J,q _ (I.hok.fresh (cc _))];exists by rw[bw];omega,_,0,by rwa[<- e,ybq l],?_
 rw[cA _ J]
def vao(K:z3):V->qj V->Hp->VK->Prop:=λx vs H Q=>∃(sp:Str)(l:z4)(ys:Τ),x=.str sp/\vs=[.ref l]/\SqL K H l (ys.map V.str)/\(ys.map (·.length)).sum+ys.length*sp.length<=1000000/\Q (.str (Str.join sp ys)) H
def vis{ys:Τ}{vs:Ο}(h:w8 (ys.map V.str) vs):StrsAre vs ys:=by
 induction ys generalizing vs with
 |nil=>cases h;erw[.nil]
 |cons c cs ih =>
  cases h with
  |cons r t =>
   let#[u,J]:=r;erw[.cons _ _ (ih t)]
def Ù:MtR X "str.join" (vao X.K):=by
 intro b s σ H x y v w Q I m p h;let#[c,l,ys,J,J,d,A,q]:=h;let#[t,J]:=m;let#[u,J,i]:=p.one;cases i;let#[f,r,#[o,n,j,e,z,g],_]:=I.list d;erw[join_list (ys:=ys) #[o,j,e,n,g] (vis r) ?_ λa k=>#[.str (Str.join c ys),H,I.tok _,#[a,?_],q]]
 .have:sizeLine ≥ 1000000:=∅
  omega
 .show Value.str (Builtin.Str.glued _ _) a=_;rw[StrLaws.glued_eq_join]
end
end
mutual
noncomputable def jL(c:Nat):qj (qj Nat)->qj Nat
 |[]=>[]
 |[w]=>w
 |w::v::r=>w++c::jL c (v::r)
theorem Õ(c:Nat):∀ws:Τ,(Str.join ⟨#[c]⟩ ws).cps.toList=jL c (ws.map λw=>w.cps.toList)
 |[]=>rfl
 |[w]=>rfl
 |w::v::r=>by
  show (w++⟨#[c]⟩++Str.join ⟨#[c]⟩ (v::r)).cps.toList=w.cps.toList++c::jL c ((v::r).map λw=>w.cps.toList);rw[Str.cps_append,Str.cps_append,Array.toList_append,Array.toList_append,Õ c (v::r),cJ];rfl
theorem ye4{c:Nat}{x y:qj Nat}:∀{a b:qj Nat},c∉a->c∉b->a++c::x=b++c::y->a=b/\x=y
 |[],[],_,_,e=>#[J,(List.cons.inj e).2]
 |[],d::b,_,hb,e=>absurd (by rwa[(List.cons.inj e).1,cN]) hb
 |d::a,[],ha,_,e=>absurd (by rwa[<- (List.cons.inj e).1,cN]) ha
 |d::a,f::b,ha,hb,e=>by
  let#[j,h]:=List.cons.inj e;let#[g,i]:=ye4 (λz=>ha (cM _ z)) (λz=>hb (cM _ z)) h;exists by rw[j,g],i
theorem yqn{c:Nat}:∀{as bs:qj (qj Nat)},as≠[]->bs≠[]->(∀a∈as,c∉a)->(∀b∈bs,c∉b)->jL c as=jL c bs->as=bs
 |[],_,h,_,_,_,_=>absurd J h
 |_,[],_,h,_,_,_=>absurd J h
 |[a],[b],_,_,_,_,e=>by rw[show a=b from e]
 |[a],b::d::r,_,_,ha,_,e=>absurd (by rw[show a=b++c::jL c (d::r)from e];simp) (ha a cN)
 |a::d::r,[b],_,_,_,hb,e=>absurd (by rw[show b=a++c::jL c (d::r)from e.symm];simp) (hb b cN)
 |a::d::r,b::f::q,_,_,ha,hb,e=>by
  let#[j,i]:=ye4 (ha a cN) (hb b cN) (show a++c::jL c (d::r)=b++c::jL c (f::q)from e);rw[j,yqn (List.cons_ne_nil _ _) (List.cons_ne_nil _ _) (λx g=>ha x (cM _ g)) (λx g=>hb x (cM _ g)) i]
def õ{x y:Str}(h:x.cps.toList=y.cps.toList):x=y:=by
 cases x with|mk a =>
 cases y with|mk b =>
 congr 1
 erw[Array.toList_inj.mp h]
def ygs{c:Nat}{ws:Τ}(hne:ws≠[])(h:∀w∈ws,c∉w.cps.toList):Txt.split (Str.join ⟨#[c]⟩ ws) ⟨#[c]⟩=ws:=by
 let e:=congrArg (λz:Str=>z.cps.toList) (StrLaws.join_split (Str.join ⟨#[c]⟩ ws) ⟨#[c]⟩);simp only[Õ]at e;let d:=yqn ?_ ?_ ?_ ?_ e
 .have g:∀{l m:Τ},(l.map λw=>w.cps.toList)=(m.map λw=>w.cps.toList)->l=m:=by
   intro l
   induction l with
   |nil=>intro m e;cases m with
    |nil=>rfl
    |cons _ _=>cases e
   |cons x l ih=>intro m e;cases m with
    |nil=>cases e
    |cons y m =>
     let#[i,o]:=List.cons.inj e;rw[õ i,ih o]
  erw[g d]
 .intro z;have:=split_pos (Str.join ⟨#[c]⟩ ws) ⟨#[c]⟩;let n:=congrArg List.length z;rw[bw,List.length_nil]at n;omega
 .intro z;erw[hne (List.map_eq_nil_iff.mp z)]
 .intro a j;let#[p,f,J]:=ce.mp j;erw[StrLaws.split_free _ c p f]
 .intro b k;let#[p,f,J]:=ce.mp k;erw[h p f]
end
end L2
end
namespace MixI
mutual
noncomputable def giv(c b:Int):Int:=if b=1 then c else 16777216-c
noncomputable def yo3(x:Int):Nat:=if x == 0 then 0 else x.natAbs.log2+1
def shL(ws cs:Ρ)(b:Int):Ρ:=List.zipWith (λw c=>w*giv c b) ws cs
noncomputable def grL(sh:Ρ):Ρ:=sh.map λs=>31*(sh.length:Int)*s+sh.sum
def tOf(s:Int):Nat:=yo3 s-48
def lrn(ws cs:Ρ)(b:Int):Ρ:=(grL (shL ws cs b)).map λv=>v/2^tOf (grL (shL ws cs b)).sum
noncomputable def vka(ws cs:Ρ):Int:=(List.zipWith (λw c=>w*c) ws cs).sum
def yl6(ws cs:Ρ):Int:=vka ws cs/ws.sum
structure WOk(k:Nat)(ws:Ρ):Prop where
 len:ws.length=k
 one:∀w∈ws,1<=w
 top:∀w∈ws,w<281474976710656
structure COk(k:Nat)(cs:Ρ):Prop where
 len:cs.length=k
 lo:∀c∈cs,32768<=c
 hi:∀c∈cs,c<=16744448
def ylh{c b:Int}(h1:32768<=c)(h2:c<=16744448):32768<=giv c b:=by unfold giv;split<;>omega
def yr3{c b:Int}(h1:32768<=c)(h2:c<=16744448):giv c b<=16744448:=by unfold giv;split<;>omega
def yd4{ws cs:Ρ}{b:Int}(h:ws.length=cs.length):(shL ws cs b).length=ws.length:=by unfold shL;rw[List.length_zipWith,<- h];omega
def ykh{sh:Ρ}:(grL sh).length=sh.length:=by unfold grL;rw[bw]
def yvu{k:Nat}{ws cs:Ρ}{b:Int}(hw:WOk k ws)(hc:COk k cs):(lrn ws cs b).length=k:=by unfold lrn;rw[bw,ykh,yd4 (by rw[hw.len,hc.len]),hw.len]
theorem œ(m d:Int):∀sh:Ρ,(sh.map λs=>m*s+d).sum=m*sh.sum+sh.length*d
 |[]=>by simp
 |s::r=>by
  simp only[cX,List.sum_cons,œ m d r,cD,Int.natCast_add,Int.natCast_one,Int.mul_add,Int.add_mul];omega
def yvt(sh:Ρ):(grL sh).sum=32*(sh.length:Int)*sh.sum:=by unfold grL;rw[œ,Int.mul_assoc,Int.mul_assoc];generalize (sh.length:Int)*sh.sum=x;omega
theorem ylv:∀{l:Ρ},(∀x∈l,0<=x)->0<=l.sum
 |[],_=>by simp
 |a::r,h=>by
  let c:=h a 's';let d:=ylv (l:=r) λx b=>h x (by simp[b]);rw[List.sum_cons];omega
theorem ypq:∀{l:Ρ}{y:Int},(∀x∈l,0<=x)->y∈l->y<=l.sum
 |a::r,y,h,hy=>by
  let d:=h a 's';have b:∀x∈r,0<=x:=λx c=>h x (by simp[c]);let f:=ylv b;rw[List.sum_cons];rcases cr.mp hy with e|hy
  .omega
  .have:=ypq b hy;omega
theorem yk9{c:Int}:∀{l:Ρ},(∀x∈l,c<=x)->c*l.length<=l.sum
 |[],_=>by simp
 |a::r,h=>by
  let d:=h a 's';let e:=yk9 (l:=r) λx b=>h x (by simp[b]);rw[List.sum_cons,cD,Int.natCast_add,Int.natCast_one,Int.mul_add];omega
theorem yq8{c:Int}:∀{l:Ρ},(∀x∈l,x<=c)->l.sum<=c*l.length
 |[],_=>by simp
 |a::r,h=>by
  let d:=h a 's';let e:=yq8 (l:=r) λx b=>h x (by simp[b]);rw[List.sum_cons,cD,Int.natCast_add,Int.natCast_one,Int.mul_add];omega
theorem yq0{f:Int->Int}{m:Int}:∀{ws cs:Ρ},ws.length=cs.length->(∀w∈ws,0<=w)->(∀c∈cs,m<=f c)->m*ws.sum<=(List.zipWith (λw c=>w*f c) ws cs).sum
 |[],[],_,_,_=>by simp
 |w::r,c::t,h,h1,h2=>by
  let i:=yq0 (f:=f) (m:=m) (ws:=r) (cs:=t) (by simpa using h) (λx b=>h1 x (by simp[b])) λx b=>h2 x (by simp[b]);let a:=cS (h2 c 's') (h1 w 's');rw[List.zipWith_cons_cons,List.sum_cons,List.sum_cons,Int.mul_add,Int.mul_comm m w];omega
theorem ysn{f:Int->Int}{m:Int}:∀{ws cs:Ρ},ws.length=cs.length->(∀w∈ws,0<=w)->(∀c∈cs,f c<=m)->(List.zipWith (λw c=>w*f c) ws cs).sum<=m*ws.sum
 |[],[],_,_,_=>by simp
 |w::r,c::t,h,h1,h2=>by
  let i:=ysn (f:=f) (m:=m) (ws:=r) (cs:=t) (by simpa using h) (λx b=>h1 x (by simp[b])) λx b=>h2 x (by simp[b]);let a:=cS (h2 c 's') (h1 w 's');rw[List.zipWith_cons_cons,List.sum_cons,List.sum_cons,Int.mul_add,Int.mul_comm m w];omega
def WOk.pos{k:Nat}{ws:Ρ}(h:WOk k ws)(hk:1<=k):1<=ws.sum:=by have:=yk9 (c:=1) h.one;rw[h.len]at this;omega
def WOk.small{k:Nat}{ws:Ρ}(h:WOk k ws)(hk:k<=6):ws.sum<=1688849860263936:=by have:=yq8 (c:=281474976710656) λx a=>Int.le_of_lt (h.top x a);rw[h.len]at this;omega
def yf3{k:Nat}{ws cs:Ρ}(hk:1<=k)(hw:WOk k ws)(hc:COk k cs):32768<=yl6 ws cs/\yl6 ws cs<=16744448:=by
 have e:ws.length=cs.length:=by rw[hw.len,hc.len]
 have d:∀w∈ws,0<=w:=λw h=>by have:=hw.one w h;omega
 let p:=hw.pos hk;let a:=yq0 (f:=λc=>c) e d hc.lo;let b:=ysn (f:=λc=>c) e d hc.hi;unfold yl6 vka;erw[(Int.le_ediv_iff_mul_le ()).mpr a,Int.le_of_lt_add_one ((Int.ediv_lt_iff_lt_mul ()).mpr (by rw[Int.add_mul];omega))]
def yel(t:Nat):(2:Int)^t=((2^t:Nat):Int):=by rw[Int.natCast_pow];rfl
def yun(t:Nat):(0:Int)<2^t:=by rwa[yel,Int.natCast_pos.mpr (Nat.pow_pos ∅)]
def vbw{s:Int}(h:1<=s):s<281474976710656*2^tOf s/\(tOf s=0\/140737488355328*2^tOf s<=s):=by
 have f:s.natAbs≠0:=()
 have e:(s.natAbs:Int)=s:=()
 let a:=Nat.log2_self_le f;let b:=@Nat.lt_log2_self s.natAbs;unfold tOf yo3;rw[if_neg (by simp;omega)];generalize s.natAbs.log2=L at a b⊢;rcases Nat.lt_or_ge L 48 with q|q
 .have z:L+1-48=0:=()
  rwa[z,#[?_,.inl J]];have:2^(L+1)<=2^48:=Nat.pow_le_pow_right ∅ ();have c:(2:Nat)^48=281474976710656:=∅
  rw[c]at this;rw[<- e,Int.pow_zero,Int.mul_one];omega
 .obtain⟨t,rfl⟩:∃t,L=47+t:=#[L-47,()];have z:47+t+1-48=t:=()
  rw[z,yel];have d:(2:Nat)^(47+t)=140737488355328*2^t:=by rw[Nat.pow_add]
  have c:(2:Nat)^(47+t+1)=281474976710656*2^t:=by rw[show 47+t+1=48+t by omega,Nat.pow_add]
  rw[d]at a;rw[c]at b;generalize 2^t=T at a b⊢;exists by omega,.inr ()
end
section
mutual
variable{k:Nat}{ws cs:Ρ}{b:Int}
def ytn(hw:WOk k ws)(hc:COk k cs):∀s∈shL ws cs b,1<=s:=by intro s a;unfold shL at a;rw[List.mem_iff_getElem]at a;let#[i,d,J]:=a;rw[List.length_zipWith]at d;rw[List.getElem_zipWith];let c:=hw.one ws[i] (cV _);let e:=ylh (b:=b) (hc.lo cs[i] (cV _)) (hc.hi cs[i] (cV _));have:=Int.mul_le_mul c e ∅ ();omega
def yx1{sh:Ρ}(h:∀s∈sh,1<=s):∀v∈grL sh,sh.sum<=v/\v<=(grL sh).sum/\0<=v:=by
 let e:=ylv (l:=sh) λx d=>by have:=h x d;omega
 have a:∀v∈grL sh,sh.sum<=v:=λv a=>by
  unfold grL at a;let#[s,b,J]:=ce.mp a;have:=h s b;have:0<=31*(sh.length:Int)*s:=Int.mul_nonneg (Int.mul_nonneg ∅ (Int.natCast_nonneg _)) ();omega
 erw[λv c=>#[a v c,ypq (λx d=>by have:=a x d;omega) c,by have:=a v c;omega]]
def yqw(hk:1<=k)(hk6:k<=6)(hw:WOk k ws)(hc:COk k cs):WOk k (lrn ws cs b):=by
 have g:(shL ws cs b).length=k:=by rw[yd4 (by rw[hw.len,hc.len]),hw.len]
 let f:=ytn (b:=b) hw hc
 have l:1<=(shL ws cs b).sum:=by
  have:=yk9 (c:=1) f;rw[g]at this;omega
 let j:=yx1 f;let e:=yvt (shL ws cs b);rw[g]at e
 have n:1<=(grL (shL ws cs b)).sum:=by
  rw[e];have:32*(k:Int)*1<=32*(k:Int)*(shL ws cs b).sum:=cS l ();omega
 have q:(grL (shL ws cs b)).sum<=192*(shL ws cs b).sum:=by
  rwa[e,c7 () ()]
 let#[r,a]:=vbw n;let i:=yun (tOf (grL (shL ws cs b)).sum);erw[yvu hw hc,λw h=>?_,λw h=>?_]
 .let#[v,d,J]:=ce.mp h;let#[p,o,m]:=j v d;erw[(Int.le_ediv_iff_mul_le i).mpr ?_];rcases a with a|a
  .rw[a,Int.pow_zero];omega
  .generalize (2:Int)^tOf (grL (shL ws cs b)).sum=T at*;omega
 .let#[v,d,J]:=ce.mp h;let#[p,o,m]:=j v d;erw[(Int.ediv_lt_iff_lt_mul i).mpr ()]
def yiv{g:Int->Int->Int}{ws cs:Ρ}(h:cs.length=ws.length):(List.range ws.length).map (λi=>g ((ws[i]?).getD 0) ((cs[i]?).getD 0))=List.zipWith g ws cs:=by
 apply List.ext_getElem
 .rw[bw,c8,List.length_zipWith];omega
 .intro i a b;rw[bw,c8]at a;rw[dH,List.getElem_range,List.getElem_zipWith,bP a,bP ()];rfl
end
end
end MixI
namespace SpanMath
mutual
noncomputable def rn(d:Ρ):Nat->Int
 |0=>0
 |k+1=>rn d k*256+(d[k]?).getD 0
def Byt(d:Ρ):Prop:=∀x∈d,0<=x/\x<=255
def va1{d:Ρ}(h:Byt d)(k:Nat):0<=(d[k]?).getD 0/\(d[k]?).getD 0<=255:=by
 cases e:d[k]? with
 |none=>exists by decide,∅
 |some x=>erw[h x (cz e)]
theorem ylb{d:Ρ}(h:Byt d)(k:Nat):∀r,∃q,rn d (k+r)=rn d k*pw r+q/\0<=q/\q<pw r
 |0=>#[0,by show rn d k=rn d k*1+0;omega,∅,∅]
 |r+1=>by
  let#[q,e,a,b]:=ylb h k r;let#[f,c]:=va1 h (k+r);erw[q*256+(d[k+r]?).getD 0,?_,(),?_]
  .show rn d (k+r)*256+(d[k+r]?).getD 0=rn d k*(pw r*256)+_;rw[e,<- Int.mul_assoc,Int.add_mul,Int.add_assoc]
  .show _<pw r*256;omega
def ynq{d:Ρ}(h:Byt d)(k r:Nat)(l w':Int):(l*pw r<=rn d (k+r)/\rn d (k+r)<l*pw r+w'*pw r)↔(l<=rn d k/\rn d k<l+w'):=by
 let#[q,e,g,f]:=ylb h k r;let c:=ul r;rw[e,<- Int.add_mul];generalize rn d k=v;generalize pw r=p at c g f⊢
 constructor
 .rintro ⟨a,b⟩
  constructor
  .erw[Int.le_of_lt_add_one (Int.lt_of_mul_lt_mul_right (a:=p) ?_ (Int.le_of_lt c))];rw[Int.add_mul,Int.one_mul];omega
  .erw[Int.lt_of_mul_lt_mul_right (a:=p) ?_ (Int.le_of_lt c)];omega
 .rintro ⟨a,b⟩;let j:=c7 a (Int.le_of_lt c);let i:=c7 (show v+1<=l+w' by omega) (Int.le_of_lt c);rw[Int.add_mul v 1 p,Int.one_mul]at i;omega
structure InS(d:Ρ)(x:Sn):Prop where
 lo:x.1<=rn d (sz x)
 hi:rn d (sz x)<x.1+x.2.1
def vep(l w' s':Int):∃r:Nat,ren l w' s'=(l*pw r,w'*pw r,s'+r):=by
 unfold ren
 split
 .split
  .erw[2,J]
  .erw[1,J]
 .erw[0,?_];show (l,w',s')=(l*1,w'*1,s'+0);rw[Int.mul_one,Int.mul_one,Int.add_zero]
def ypo{d:Ρ}(h:Byt d){l w' s':Int}(hs:0<=s'):InS d (ren l w' s')↔(l<=rn d s'.toNat/\rn d s'.toNat<l+w'):=by
 let#[r,e]:=vep l w' s';rw[e]
 have c:sz (l*pw r,w'*pw r,s'+r)=s'.toNat+r:=by
  show (s'+(r:Int)).toNat=s'.toNat+r;omega
 rw[<- ynq h s'.toNat r l w']
 constructor
 .rintro ⟨a,b⟩;rw[c]at a b;erw[a,b]
 .rintro ⟨a,b⟩;exists by rwa[c,a],by rwa[c,b]
def å(d:Ρ)(x:Sn)(c:Int):Int:=if rn d (sz x)<x.1+cut x.2.1 c then 1 else 0
def yar(d:Ρ)(x:Sn)(c:Int):å d x c=0\/å d x c=1:=by
 unfold å
 split
 .erw[.inr J]
 .erw[.inl J]
def yt4{d:Ρ}(hd:Byt d){x:Sn}{c b:Int}(h:OkS x)(hc:Ch c)(hb:b=0\/b=1)(i:InS d (nar x c b)):InS d x/\b=å d x c:=by
 let k:=h.ok.z;let#[f,g,j]:=ŧ h.ok.w0 h.ok.w1 hc;unfold nar at i;rcases hb with rfl|rfl
 .rw[if_neg ∅]at i;let#[e,a]:=(ypo hd ()).mp i;have e:x.1+cut x.2.1 c<=rn d (sz x):=e;have a:rn d (sz x)<x.1+cut x.2.1 c+(x.2.1-cut x.2.1 c):=a;erw[#[(),()],?_];unfold å;rw[if_neg ()]
 .rw[if_pos J]at i;let#[e,a]:=(ypo hd ()).mp i;have e:x.1<=rn d (sz x):=e;have a:rn d (sz x)<x.1+cut x.2.1 c:=a;erw[#[(),()],?_];unfold å;rw[if_pos a]
theorem yqu:∀(k:Nat)(d:Ρ),k<=d.length->rn d k=val (d.take k)
 |0,_,_=>rfl
 |k+1,d,h=>by
  have a:k<d.length:=()
  have e:d.take (k+1)=d.take k++[d[k]]:=by rw[List.take_succ,bP a];rfl
  rw[e,yeq,<- yqu k d ()];show rn d k*256+_=_;rw[bP a];rfl
def yaw{d:Ρ}(hd:Byt d){x:Sn}(h:OkS x)(hl:(tL x).length<=d.length)(hp:d.take (tL x).length=tL x):InS d x:=by
 let g:=yo9 h
 have e:rn d (sz x-tK x)=tCn x:=by
  rw[<- yfu x,yqu _ _ hl,hp,yyo h]
 let#[q,b,i,j]:=ylb hd (sz x-tK x) (tK x);have f:sz x-tK x+tK x=sz x:=()
 rw[f,e]at b;let a:=ya4 h.ok;let c:=(ylr x.1 (ul (tK x))).1;unfold hold at a;have a:(tCn x+1)*pw (tK x)<=x.1+x.2.1:=a;have c:x.1<=tCn x*pw (tK x):=c;rw[Int.add_mul,Int.one_mul]at a;exists by rw[b];omega,by rw[b];omega
end
end SpanMath
namespace Law
local macro_rules | `(tactic| ext)=>`(tactic| walk_at "rd")
local macro_rules | `(tactic| right)=>`(tactic| decide +kernel)
open PySem L2
set_option genInjectivity false
set_option genSizeOf false
local macro_rules | `(tactic| walk_at "rd1")=>`(tactic| fail)
open Lean in
set_option hygiene true in
local macro_rules | `(tactic| fail $s:str)=>do
 let n::_::x::l:=s.getString.splitOn " "|Macro.throwUnsupported
 if n.isNat then `(tactic| fail $(Syntax.mkStrLit (" ".intercalate (n::x::l)))) else Macro.throwUnsupported
open Lean in
set_option hygiene true in
local macro_rules | `(tactic| fail $s:str)=>do
 let n::x::_:=s.getString.splitOn " "|Macro.throwUnsupported
 let some n:=n.toNat?|Macro.throwUnsupported
 let x:=mkIdent ((if n<4 then `_root_.Law else `_root_.L2)++x.toName)
 if n%4=0 then return <-`(tactic| refine $x ?_)
 let y:Term<-if n%4=1 then `($x (by assumption) ?q ?_) else if n%4=2 then `($x ?q ?_) else `($x ?q ?n ?_)
 let z<-if n%4=3 then `(tactic| case n=>with_unfolding_all decide +kernel) else `(tactic| skip)
 `(tactic| (with_reducible refine' $y; (case q=>first | assumption | exact ya); $z:tactic))
local macro_rules | `(tactic| exists $n:num,$m:num)=>do
 let xs:=Array.replicate n.getNat (<-`(some _))++Array.replicate m.getNat (<-`(none))
 `(tactic| (try dsimp only [vx]; refine yj (σ':=[$xs,*]) rfl ?_))
local macro_rules | `(tactic| exists $h:ident,$a:ident,$b:ident,$c:ident)=>`(tactic| with_reducible first | refine yo $h fun $a $b $c=>?_ | refine yx $h fun $a $b $c=>?_)
local macro_rules | `(tactic| exists $n:num,$m:num,$t)=>`(tactic| (refine ⟨_,$t,?_⟩;exists $n,$m;ext))
local macro_rules | `(tactic| left)=>`(tactic| first | (cases h; subst_vars; rfl) | repeat first | (obtain ⟨e,_⟩:=h; subst e; rfl) | obtain ⟨_,h⟩:=h)
local macro_rules | `(tactic| exists $a:ident,$b:ident,$c:ident)=>`(tactic| (refine $a $b (fun ϟ H Q E h=>?_) (fun ϟ A ϟ s H ϟ Q E $c h=>?_); left))
local macro_rules | `(tactic| walk_at "side")=>`(tactic| first | exact ⟨∅,∅⟩ | (show (0:Int) < _; first | decide | omega) | exact Or.inl ⟨(),()⟩ | exact Or.inr ⟨(),()⟩ | exact ⟨(),()⟩ | exact ⟨∅,∅,∅⟩)
local macro_rules | `(tactic| walk_at "len")=>`(tactic| first | decide | (simp only [cD,List.length_nil]; decide))
local macro_rules | `(tactic| walk_at "rd1")=>`(tactic| with_reducible first
 | fail "4 vkt viv vaz vba"
 | ((fail_if_success constructor); walk_at "rd2"))
local macro_rules | `(tactic| walk_at "o")=>`(tactic| refine yfq fun ϟ ϟ ϟ ϟ ϟ ϟ=>?_)
set_option hygiene true in
local macro_rules | `(tactic| walk_at "rd2")=>`(tactic| with_reducible first
 | walk_at "o"
 | refine yl7 (by assumption) ?_
 | (refine' vgn ?rdv ?_; (case rdv=>with_unfolding_all rfl))
 | fail "4 i_c vkw vkh yxh vks vky vio vh2 yzm vck vb1 yux ya5 ytv yth vha va3 vim vk5 vhw yv5 vbn yxx vg5 vkg vhr vhl vij vg6 yf7 yz7 vkd vhy vhm yzt vk7 ynm vcx vkf i_U g0 g1 g2 g3 g4 g5 g6 g7 g8 g9 g10 g11 yvk yya j4 uo vhb vh6 vif yte yzr ytd yu3 yvj vbs yv8 yzc vbl yt9 va0 ytr yt6 yu5 yu8 yvx vcy vhg yoi vcn ywh yu9"
 | (refine' i_shlC ?rdp ?rdq ?_; (case rdp=>with_unfolding_all exact ⟨∅,∅,∅⟩); (case rdq=>with_unfolding_all decide))
 | (refine' i_powC ?rdp ?rdq ?_; (case rdp=>with_unfolding_all exact ⟨∅,∅,∅⟩); (case rdq=>with_unfolding_all decide))
 | (refine i_I ?rdc ?_; (case rdc=>with_unfolding_all walk_at "side")))
local macro_rules | `(tactic| walk_at "rd")=>`(tactic| repeat walk_at "rd1")
mutual
variable{D c' cl' ct' dc dq ds md q st tl y:z4}{U U' W' W2:Ν}{G:Int}{L M:Η}{ts us xs:Ρ}{j m':Nat}{tp:Μ}{O O' O2:Β}{bt:Nat->Int}{R:Prop}{tu:Str->z4}
noncomputable def top(i:Nat):qd:=PySem.Challenge.pw_foretell_k93_whole_desk.main.body.getD i (.Pass #[0,0,0,0])
abbrev vjt:qd:=top 23
abbrev vji:qd:=top 24
abbrev vj1:qd:=top 25
abbrev vjh:qd:=top 26
abbrev vkb:qd:=top 27
abbrev vjs:qd:=top 28
abbrev vj9:qd:=top 29
abbrev vj0:qd:=top 30
abbrev vju:qd:=top 31
abbrev ve1:qd:=top 32
abbrev vef:qd:=top 33
abbrev ven:qd:=yv (top 38) 0
abbrev vfd:qd:=yv (top 38) 1
abbrev vc7:qd:=yv (top 38) 2
abbrev vfr:qd:=yv (top 39) 0
abbrev vga:qd:=yv (top 39) 1
abbrev vdw:qd:=yv (top 39) 2
abbrev ve4:qd:=yv (top 40) 0
abbrev veb:qd:=yv (top 40) 1
abbrev vfe:qd:=yv (top 40) 2
abbrev vdf:qd:=top 41
abbrev vfl:qd:=top 46
abbrev vc4:qd:=top 47
abbrev vgo:qd:=yv (top 48) 0
abbrev vgc:qd:=yv (top 48) 2
abbrev vdq:qd:=yv (top 48) 3
abbrev vdu:qd:=yv (top 48) 5
abbrev vfm:qd:=yv (top 48) 6
abbrev vdo:qd:=top 54
abbrev vfk:qd:=top 55
abbrev vf3:qd:=top 56
abbrev vgg:qd:=top 57
abbrev vfs:qd:=top 58
abbrev vdz:qd:=top 59
abbrev veh:qd:=top 60
abbrev veq:qd:=yv (top 61) 0
abbrev vc8:qd:=yv (top 61) 2
abbrev vgl:qd:=yv (top 66) 0
abbrev vec:qd:=yv (top 66) 2
abbrev vdr:qd:=yv (top 66) 3
abbrev vdh:qd:=yv (top 69) 0
abbrev vfp:qd:=yv (top 69) 1
abbrev veo:qd:=yv (top 69) 2
abbrev vek:qd:=yv (top 69) 3
abbrev vf2:qd:=yv (top 69) 7
abbrev vew:qd:=yv (top 69) 8
abbrev vd7:qd:=yv (top 69) 9
abbrev vej:qd:=top 72
abbrev vda:qd:=top 73
abbrev vel:qd:=yv (top 75) 0
abbrev vdg:qd:=yv (top 75) 1
abbrev vc9:qd:=yv (top 75) 2
abbrev vd3:qd:=yv (top 75) 3
abbrev vf0:qd:=yv (top 75) 5
abbrev vdi:qd:=top 78
abbrev vf1:qd:=top 79
abbrev vf9:qd:=top 80
abbrev vfi:qd:=top 81
abbrev ve8:qd:=top 82
abbrev vf7:qd:=top 84
abbrev vge:qd:=top 85
abbrev ve3:qd:=top 86
abbrev ve9:qd:=top 87
abbrev ve5:qd:=top 88
abbrev vea:qd:=yv (top 90) 0
abbrev vfg:qd:=yv (top 90) 1
abbrev vfy:qd:=yv (top 90) 2
abbrev vgd:qd:=yv (top 90) 3
abbrev vdy:qd:=top 95
abbrev vft:qd:=top 96
abbrev vd5:qd:=top 97
abbrev vfo:qd:=yv (top 98) 0
abbrev vgf:qd:=yv (top 99) 0
abbrev vf6:qd:=yv (top 99) 1
abbrev vf5:qd:=yv (top 99) 2
abbrev vey:qd:=yv (top 99) 3
abbrev vd9:qd:=yv (top 99) 4
abbrev vd4:qd:=yv (top 99) 5
abbrev vfa:qd:=yv (top 99) 6
abbrev vdl:qd:=yv (top 99) 7
abbrev ve6:qd:=yv (top 99) 8
abbrev vdk:qd:=yv (top 99) 9
abbrev vei:qd:=yv (top 99) 10
abbrev vdd:qd:=yv (top 99) 11
abbrev veu:qd:=yv (top 99) 12
abbrev vdj:qd:=yv (top 99) 13
abbrev vgk:qd:=yv (top 99) 14
abbrev vfh:qd:=yv (top 99) 15
abbrev vdp:qd:=yv (top 99) 16
abbrev vez:qd:=yv (top 99) 17
abbrev vfw:qd:=top 102
abbrev vds:qd:=top 103
abbrev vdb:qd:=top 104
abbrev vdn:qd:=top 105
abbrev vc6:qd:=yv (top 106) 0
abbrev vfv:qd:=yv (top 106) 1
abbrev vdt:qd:=yv (top 106) 2
abbrev vfn:qd:=yv (top 106) 3
abbrev vd6:qd:=yv (top 106) 4
abbrev ypy:qd:=yv (top 106) 5
abbrev ysc:qd:=yv (top 106) 6
abbrev ysk:qd:=yv (top 106) 7
abbrev yql:qd:=top 107
abbrev yrk:qd:=top 112
abbrev yq2:qd:=top 113
abbrev ypv:qd:=top 114
abbrev yse:qd:=yv (top 115) 0
abbrev yrs:qd:=yv (top 115) 1
abbrev yrv:qd:=yv (top 115) 2
abbrev yr6:qd:=yv (top 115) 3
abbrev yp7:qd:=yv (top 115) 4
abbrev yq4:qd:=yv (top 115) 5
abbrev yrq:qd:=top 117
abbrev yqs:qd:=top 118
abbrev yqv:qd:=top 119
abbrev yqf:qd:=top 120
abbrev yrl:qd:=top 121
abbrev ysa:qd:=top 122
abbrev ysd:qd:=top 123
abbrev yq5:qd:=top 124
abbrev yss:qd:=top 125
abbrev yrr:qd:=top 126
abbrev ysq:qd:=top 127
abbrev yp5:qd:=top 128
abbrev yrj:qd:=top 129
abbrev vc5:qd:=top 130
set_option genInjectivity false in
set_option genSizeOfSpec false in
structure Ads where
 {So Sq Sr Ss Su Sv Sw Sy Sz Ly Lz Hr M0 M4 Hs M5 M6 Ht M7 M8 M9 Ma Mb Hu Mc Md Me Mf Mg Mh Mi Mj Ml Mm Mn Hv Mo Hw Mq Mr Hx Ms Mt Mu Mv Mw Mx My Mz Hy N2 N3 N4 N5 N6 N7 N8 Hz T0 I0 T6 N9 Na Nd Nf Ng I1 Nh Ni I2 Nj Nk Nl I3 I4 T8 Nm Nn No I5 T9 Np Nq Nr Nt Nu Nv Nw Ny Nz O0 O4 O5 O6 O7 O8 O9 Oa I6 Ob Oc Od Oe I7 I8 I9 Ia Ib Ic Ie G0 S8 If Ig Ih Ii Ij Ik Il Im Io Ip Iq Ir Is Iu Iv Iw Ix Iy Of Ag Ae Ap C6 Aj A8 A6 Ao A3 Ab A0 A4 Ah Lp Iz Bj G6 Bk Ha Ev Al Av Af D8 A2 Ak Hb Co Am Ba Bl:z4}
 {Ta Tb Tc Td Te Tf Tg Th Ti Og Oh Oi Oj Ol Om On Oo Op Oq Os Ot Ou Ov Ow Ox Oy Oz P1 P4 P5 P6 P7 P8 P9 Pa Pb Pe Pf Pg Ph Pi Pj Pk Pl Pm Pn Po Pp Pq Pr Ps Pt Pu Pv Pw Px Py Gn Gp Pz Q1 Q3 Q4 Q5 Q6 Q7 Q8 J0 Q9 Qa Qc Qd Gq Qe Qf Qg Gr Qh Qi Qj Qk Ql Qm Qn Qo Qp Qq Qr Qt Qu Qv Qw Qx Qy Qz R0 R1 R3 R4 J1 J2 J3 J4 J5 J6 J7 Ef J8 J9 Ja Jb Jc Jd Je Jf Jg Jh Ji Jj Jk Jl Jm Jn Jo Jp Jq:FuncData}
 {Jr Hc Lq Tj Eg Eh D9 Dz Ei E4 G8 E5 Ej Hd Da Ew Db Ey C7 Dc He E6 Ek Dd Hf Sa G9 Ga Gb Ez F0 F7 F8 F9 Fa Fb Fc:Tok}
 {Hg:ql z4}
 {Js Hh:Nat}
 {Jt Hi:Array (ql qc)}
variable{a:Ads}
structure Txt(K:z3)(mg:Ε)(a:Ads):Prop where
 Hj:Dff K mg "is_whole" vjt ["thing"] a.So a.Ta
 Tk:Dff K mg "is_bit" vji ["thing"] a.Sq a.Tb
 Tl:Dff K mg "is_chance" vj1 ["thing"] a.Sr a.Tc
 Tm:Dff K mg "is_sign" vjh ["thing"] a.Ss a.Td
 Lr:Dff K mg "is_list_of_signs" vkb ["thing","most"] a.Su a.Te
 Ju:Dff K mg "checked_text" vjs ["thing"] a.Sv a.Tf
 Tn:Dff K mg "checked_bytes" vj9 ["thing"] a.Sw a.Tg
 Tp:Dff K mg "check_most" vj0 ["thing"] a.Sy a.Th
 Ls:Dff K mg "check_chance" vju ["thing"] a.Sz a.Ti
 Cz:Dff K mg "check_bit" ve1 ["thing"] a.Ly a.Og
 Jv:Dff K mg "gives" vef ["chance","bit"] a.Lz a.Oh
 R5:Dfm K a.Ag "__init__" "Even.__init__" ven ["self"] a.Hr a.Oi
 Jw:Dfm K a.Ag "chance" "Even.chance" vfd ["self"] a.M0 a.Oj
 Jx:Dfm K a.Ag "seen" "Even.seen" vc7 ["self","bit"] a.M4 a.Ol
 R6:Dfm K a.Ae "__init__" "Quick.__init__" vfr ["self"] a.Hs a.Om
 Jy:Dfm K a.Ae "chance" "Quick.chance" vga ["self"] a.M5 a.On
 Jz:Dfm K a.Ae "seen" "Quick.seen" vdw ["self","bit"] a.M6 a.Oo
 R7:Dfm K a.Ap "__init__" "Run.__init__" ve4 ["self"] a.Ht a.Op
 K1:Dfm K a.Ap "chance" "Run.chance" veb ["self"] a.M7 a.Oq
 K2:Dfm K a.Ap "seen" "Run.seen" vfe ["self","bit"] a.M8 a.Os
 R8:Dff K mg "slot_of" vdf ["kind"] a.M9 a.Ot
 K4:Dff K mg "written" vfl ["number","size"] a.Ma a.Ou
 K5:Dff K mg "first_block" vc4 ["low","unit"] a.Mb a.Ov
 K6:Dfm K a.A8 "__init__" "Span.__init__" vgo ["self"] a.Hu a.Ow
 Fd:Dfm K a.A8 "cut" "Span.cut" vgc ["self","chance"] a.Mc a.Ox
 Fe:Dfm K a.A8 "narrow" "Span.narrow" vdq ["self","chance","bit"] a.Md a.Oy
 K7:Dfm K a.A8 "holds_block" "Span.holds_block" vdu ["self","unit"] a.Me a.Oz
 Ff:Dfm K a.A8 "told" "Span.told" vfm ["self"] a.Mf a.P1
 R9:Dff K mg "is_kind" vdo ["thing"] a.Mg a.P4
 Ra:Dff K mg "is_place" vfk ["thing"] a.Mh a.P5
 Rb:Dff K mg "are_places" vf3 ["thing"] a.Mi a.P6
 Rc:Dff K mg "is_look" vgg ["thing"] a.Mj a.P7
 K8:Dff K mg "checked_looks" vfs ["thing"] a.Ml a.P8
 Re:Dff K mg "sign_back" vdz ["signs","place"] a.Mm a.P9
 Rf:Dff K mg "context_of" veh ["look","signs","node"] a.Mn a.Pa
 Rg:Dfm K a.Aj "__init__" "Book.__init__" veq ["self","look"] a.Hv a.Pb
 K9:Dfm K a.Aj "slot_at" "Book.slot_at" vc8 ["self","signs","node"] a.Mo a.Pe
 Rh:Dfm K a.C6 "__init__" "Mixer.__init__" vgl ["self","many"] a.Hw a.Pf
 Ka:Dfm K a.C6 "mixed" "Mixer.mixed" vec ["self","chances"] a.Mq a.Pg
 Kb:Dfm K a.C6 "learn" "Mixer.learn" vdr ["self","chances","bit"] a.Mr a.Ph
 Kc:Dfm K a.A6 "__init__" "Foreteller.__init__" vdh ["self","looks"] a.Hx a.Pi
 Fg:Dfm K a.A6 "arrive" "Foreteller.arrive" vfp ["self"] a.Ms a.Pj
 De:Dfm K a.A6 "chances" "Foreteller.chances" veo ["self"] a.Mt a.Pk
 Dh:Dfm K a.A6 "chance" "Foreteller.chance" vek ["self"] a.Mu a.Pl
 C8:Dfm K a.A6 "see" "Foreteller.see" vf2 ["self","bit"] a.Mv a.Pm
 Kd:Dfm K a.A6 "step" "Foreteller.step" vew ["self","bit"] a.Mw a.Pn
 Ke:Dfm K a.A6 "step_in_sign" "Foreteller.step_in_sign" vd7 ["self","bit"] a.Mx a.Po
 Ri:Dff K mg "bits_of" vej ["sign"] a.My a.Pp
 Gs:Dff K mg "decisions_of" vda ["text"] a.Mz a.Pq
 Rj:Dfm K a.Ao "__init__" "Seeker.__init__" vel ["self","data"] a.Hy a.Pr
 Fh:Dfm K a.Ao "follow" "Seeker.follow" vdg ["self"] a.N2 a.Ps
 Kg:Dfm K a.Ao "byte_at" "Seeker.byte_at" vc9 ["self","place"] a.N3 a.Pt
 Kh:Dfm K a.Ao "bit" "Seeker.bit" vd3 ["self","chance"] a.N4 a.Pu
 Ki:Dfm K a.Ao "told" "Seeker.told" vf0 ["self"] a.N5 a.Pv
 Rk:Dff K mg "checked_learned" vdi ["thing"] a.N6 a.Pw
 Rl:Dff K mg "teach" vf1 ["foreteller","texts"] a.N7 a.Px
 Rm:Dff K mg "rows_of" vf9 ["looks","text","learned"] a.N8 a.Py
 Rn:ymc K "foretold" "foretold" vfi a.T0 a.Hz a.Gn
 Ud:uu K a.Gn ["looks","text","learned"] [.none]
 Tq:uu K a.Gn ["looks","text","learned"] []
 Tr:mg "foretold"∣a.Hz
 Ro:ymc K "cost" "cost" ve8 a.T6 a.I0 a.Gp
 Ue:uu K a.Gp ["looks","text","learned"] [.none]
 Ts:uu K a.Gp ["looks","text","learned"] []
 Tt:mg "cost"∣a.I0
 Rp:Dff K mg "press_by" vf7 ["foreteller","text"] a.N9 a.Pz
 Kj:Dff K mg "bit_by" vge ["foreteller","seeker"] a.Na a.Q1
 Rq:Dff K mg "sign_by" ve3 ["foreteller","seeker"] a.Nd a.Q3
 Rr:Dff K mg "text_by" ve9 ["foreteller","seeker","most"] a.Nf a.Q4
 Kk:Dff K mg "read_by" ve5 ["foreteller","data","most"] a.Ng a.Q5
 Eb:Dfm K a.A3 "__init__" "Chain.__init__" vea ["self","looks"] a.I1 a.Q6
 Di:Dfm K a.A3 "grow" "Chain.grow" vfg ["self","name","text"] a.Nh a.Q7
 Kl:Dfm K a.A3 "press" "Chain.press" vfy ["self","name","text"] a.Ni a.Q8
 Fi:Dfm K a.A3 "read" "Chain.read" vgd ["self","name","data","most"] a.I2 a.J0
 Rs:Dff K mg "is_name" vdy ["thing"] a.Nj a.Q9
 Fj:Dff K mg "checked_name" vft ["thing"] a.Nk a.Qa
 Rt:Dff K mg "check_base" vd5 ["thing"] a.Nl a.Qc
 Km:Dfm K a.Ab "__init__" "Piece.__init__" vfo ["self","base","data"] a.I3 a.Qd
 Tu:ymc K "__init__" "Store.__init__" vgf a.T8 a.I4 a.Gq
 Uf:uu K a.Gq ["self","looks","most"] [.int 1000 a.Jr]
 Ru:uu K a.Gq ["self","looks","most"] []
 Fk:Dfm K a.A0 "told_looks" "Store.told_looks" vf6 ["self"] a.Nm a.Qe
 Kn:Dfm K a.A0 "most_signs" "Store.most_signs" vf5 ["self"] a.Nn a.Qf
 C9:Dfm K a.A0 "names" "Store.names" vey ["self"] a.No a.Qg
 Tv:ymc K "put" "Store.put" vd9 a.T9 a.I5 a.Gr
 Ug:uu K a.Gr ["self","name","text","base"] [.none]
 Tw:uu K a.Gr ["self","name","text","base"] []
 Tx:Meth K a.A0 "put" a.I5
 Ko:Dfm K a.A0 "put_first" "Store.put_first" vd4 ["self","name","data","base"] a.Np a.Qh
 Kp:Dfm K a.A0 "check_length" "Store.check_length" vfa ["self","text"] a.Nq a.Qi
 Fl:Dfm K a.A0 "check_room" "Store.check_room" vdl ["self","name","base"] a.Nr a.Qj
 B9:Dfm K a.A0 "piece_at" "Store.piece_at" ve6 ["self","name"] a.Nt a.Qk
 Fm:Dfm K a.A0 "links_to" "Store.links_to" vdk ["self","name"] a.Nu a.Ql
 Dj:Dfm K a.A0 "chain_to" "Store.chain_to" vei ["self","name"] a.Nv a.Qm
 Fn:Dfm K a.A0 "texts_to" "Store.texts_to" vdd ["self","name"] a.Nw a.Qn
 Fo:Dfm K a.A0 "text_of" "Store.text_of" veu ["self","name"] a.Ny a.Qo
 Fp:Dfm K a.A0 "bytes_of" "Store.bytes_of" vdj ["self","name"] a.Nz a.Qp
 Fq:Dfm K a.A0 "base_of" "Store.base_of" vgk ["self","name"] a.O0 a.Qq
 Kq:Dfm K a.A0 "learned_of" "Store.learned_of" vfh ["self","name"] a.O4 a.Qr
 Kr:Dfm K a.A0 "drop" "Store.drop" vdp ["self","name"] a.O5 a.Qt
 Ks:Dfm K a.A0 "best_base" "Store.best_base" vez ["self","text"] a.O6 a.Qu
 Rv:Dff K mg "look_bytes" vfw ["look"] a.O7 a.Qv
 Rw:Dff K mg "name_bytes" vds ["name"] a.O8 a.Qw
 Rx:Dff K mg "base_bytes" vdb ["store","name"] a.O9 a.Qx
 Ry:Dff K mg "shelf_of" vdn ["store"] a.Oa a.Qy
 Rz:Dfm K a.A4 "__init__" "Reader.__init__" vc6 ["self","data"] a.I6 a.Qz
 Au:Dfm K a.A4 "next_byte" "Reader.next_byte" vfv ["self"] a.Ob a.R0
 Dl:Dfm K a.A4 "next_part" "Reader.next_part" vdt ["self","parts"] a.Oc a.R1
 Kt:Dfm K a.A4 "next_look" "Reader.next_look" vfn ["self"] a.Od a.R3
 Ku:Dfm K a.A4 "next_store" "Reader.next_store" vd6 ["self"] a.Oe a.R4
 Gc:Dfm K a.A4 "next_name" "Reader.next_name" ypy ["self"] a.I7 a.J1
 Gd:Dfm K a.A4 "put_next" "Reader.put_next" ysc ["self","store"] a.I8 a.J2
 Ge:Dfm K a.A4 "whole_store" "Reader.whole_store" ysk ["self"] a.I9 a.J3
 Kv:Dff K mg "opened" yql ["data"] a.Ia a.J4
 El:Dff K mg "hex_of" yrk ["signs"] a.Ib a.J5
 Em:Dff K mg "signs_by" yq2 ["word"] a.Ic a.J6
 Gf:Dff K mg "shown" ypv ["base"] a.Ie a.J7
 Sb:ymc K "__init__" "Desk.__init__" yse a.S8 a.G0 a.Ef
 Uc:uu K a.Ef ["self","looks","most"] [.int 1000 a.Hc]
 Kw:uu K a.Ef ["self","looks","most"] []
 Aa:Dfm K a.Ah "say" "Desk.say" yrs ["self","row"] a.If a.J8
 Gg:Dfm K a.Ah "say_alone" "Desk.say_alone" yrv ["self","verb"] a.Ig a.J9
 Gh:Dfm K a.Ah "say_with" "Desk.say_with" yr6 ["self","verb","word"] a.Ih a.Ja
 Dm:Dfm K a.Ah "lay" "Desk.lay" yp7 ["self","name","word","base"] a.Ii a.Jb
 Gi:Dfm K a.Ah "cost_of" "Desk.cost_of" yq4 ["self","name"] a.Ij a.Jc
 Bx:Dff K mg "_law_mixed" yrq ["_law_script","_law_k"] a.Ik a.Jd
 Kx:Dff K mg "_law_names" yqs ["_law_cell"] a.Il a.Je
 Ky:Dff K mg "_law_looks" yqv ["_law_script"] a.Im a.Jf
 Kz:Dff K mg "_law_text" yqf ["_law_cell","_law_more"] a.Io a.Jg
 En:Dff K mg "_law_hex" yrl ["_law_signs"] a.Ip a.Jh
 Dn:Dff K mg "_law_say" ysa ["_law_desk","_law_row"] a.Iq a.Ji
 L1:Dff K mg "_law_put" ysd ["_law_desk","_law_pieces","_law_name","_law_base","_law_text_here"] a.Ir a.Jj
 L6:Dff K mg "_law_drop" yq5 ["_law_desk","_law_pieces","_law_name"] a.Is a.Jk
 L7:Dff K mg "_law_deed" yss ["_law_desk","_law_pieces","_law_names_here","_law_cell","_law_k","_law_text_here"] a.Iu a.Jl
 Do:Dff K mg "_law_read" yrr ["_law_desk","_law_pieces","_law_name"] a.Iv a.Jm
 Dp:Dff K mg "_law_told" ysq ["_law_desk","_law_pieces"] a.Iw a.Jn
 L8:Dff K mg "_law_without" yp5 ["_law_pieces","_law_name"] a.Ix a.Jo
 L9:Dff K mg "_law_opened" yrj ["_law_other","_law_shelf","_law_names_here"] a.Iy a.Jp
 La:Dff K mg "law" vc5 ["_law_script"] a.Of a.Jq
 Az:Cls K a.Ag
 Sc:mg "Even"∣a.Ag
 Se:Mk K a.Ag a.Hr
 Aw:NoAttr K a.Ag "noughts"
 Bm:NoAttr K a.Ag "ones"
 Bn:Cls K a.Ae
 Lt:mg "Quick"∣a.Ae
 Lu:Mk K a.Ae a.Hs
 Bb:NoAttr K a.Ae "held"
 Bo:Cls K a.Ap
 Ty:mg "Run"∣a.Ap
 Tz:Mk K a.Ap a.Ht
 By:NoAttr K a.Ap "last"
 Bc:NoAttr K a.Ap "length"
 Fs:Cls K a.C6
 Uh:mg "Mixer"∣a.C6
 Ui:Mk K a.C6 a.Hw
 Cp:NoAttr K a.C6 "kept"
 Ca:Cls K a.Aj
 Sf:mg "Book"∣a.Aj
 Sg:Mk K a.Aj a.Hv
 D0:NoAttr K a.Aj "look"
 Cb:NoAttr K a.Aj "slots"
 Ai:Cls K a.A8
 Lb:mg "Span"∣a.A8
 Lc:Mk K a.A8 a.Hu
 Bz:NoAttr K a.A8 "low"
 Bd:NoAttr K a.A8 "width"
 Bp:NoAttr K a.A8 "size"
 Ad:Cls K a.A6
 U0:mg "Foreteller"∣a.A6
 U1:Mk K a.A6 a.Hx
 C0:NoAttr K a.A6 "looks"
 Dq:NoAttr K a.A6 "books"
 Dr:NoAttr K a.A6 "mixer"
 C1:NoAttr K a.A6 "ended"
 C4:NoAttr K a.A6 "place"
 Be:NoAttr K a.A6 "present"
 Ax:Cls K a.Ao
 Uj:mg "Seeker"∣a.Ao
 Uk:Mk K a.Ao a.Hy
 Ec:NoAttr K a.Ao "data"
 Ed:NoAttr K a.Ao "span"
 Bq:NoAttr K a.Ao "number"
 Bf:NoAttr K a.Ao "reached"
 An:Cls K a.A3
 Cc:mg "Chain"∣a.A3
 Cd:Mk K a.A3 a.I1
 Ay:NoAttr K a.A3 "foreteller"
 Bu:NoAttr K a.A3 "links"
 Bv:NoAttr K a.A3 "texts"
 Ce:Cls K a.Ab
 Gt:mg "Piece"∣a.Ab
 Gu:Mk K a.Ab a.I3
 Cg:NoAttr K a.Ab "base"
 Ci:NoAttr K a.Ab "data"
 A1:Cls K a.A0
 Gv:mg "Store"∣a.A0
 Gw:Mk K a.A0 a.I4
 B0:NoAttr K a.A0 "looks"
 Cj:NoAttr K a.A0 "most"
 Br:NoAttr K a.A0 "pieces"
 B6:NoAttr K a.A0 "chain"
 A7:Cls K a.A4
 Ld:mg "Reader"∣a.A4
 Le:Mk K a.A4 a.I6
 Bw:NoAttr K a.A4 "data"
 At:NoAttr K a.A4 "reached"
 Ac:Cls K a.Ah
 Lf:mg "Desk"∣a.Ah
 Lg:Mk K a.Ah a.G0
 Bg:NoAttr K a.Ah "store"
 Ul:mg "NoText"∣a.Lp
 Um:mg "NoBytes"∣a.Iz
 Lh:mg "NoMost"∣a.Bj
 Uo:mg "NoChance"∣a.G6
 Up:mg "NoBit"∣a.Bk
 Uq:mg "NoLooks"∣a.Ha
 U5:mg "NoPress"∣a.Ev
 Li:mg "NoName"∣a.Al
 Hk:mg "TooLong"∣a.Av
 Gy:mg "Taken"∣a.Af
 Sh:mg "Full"∣a.D8
 Ee:mg "NoPiece"∣a.A2
 Gz:mg "InUse"∣a.Ak
 Sk:mg "NoShelf"∣a.Hb
 Cq:mg "NoWords"∣a.Co
 D5:mg "ForetellError"∣a.Am
 Ux:XCls K a.Lp
 Ur:XMk K a.Lp
 Uy:XCls K a.Iz
 Us:XMk K a.Iz
 U8:XCls K a.Bj
 Lj:XMk K a.Bj
 Uz:XCls K a.G6
 Ut:XMk K a.G6
 V0:XCls K a.Bk
 Uu:XMk K a.Bk
 V1:XCls K a.Ha
 Uv:XMk K a.Ha
 V2:XCls K a.Ev
 U9:XMk K a.Ev
 Ua:XCls K a.Al
 Lk:XMk K a.Al
 Sl:XCls K a.Av
 Hl:XMk K a.Av
 Eo:XCls K a.Af
 Lv:XMk K a.Af
 Uw:XCls K a.D8
 Si:XMk K a.D8
 Cr:XCls K a.A2
 Hm:XMk K a.A2
 Ep:XCls K a.Ak
 Lx:XMk K a.Ak
 Sm:XCls K a.Co
 Cs:XMk K a.Co
 Fz:W.exmOne K (.ref a.Bk) (.ref a.Am)=some true
 Ds:W.kitOne K (.ref a.Af) (.ref a.Ak)=some false
 Ct:W.kitOne K (.ref a.Af) (.ref a.A2)=some false
 Dt:W.kitOne K (.ref a.Af) (.ref a.Af)=some true
 Bh:W.exmOne K (.ref a.Af) (.ref a.Am)=some true
 Cu:W.kitOne K (.ref a.A2) (.ref a.Ak)=some false
 C5:W.kitOne K (.ref a.A2) (.ref a.A2)=some true
 Cv:W.kitOne K (.ref a.A2) (.ref a.Af)=some false
 B8:W.exmOne K (.ref a.A2) (.ref a.Am)=some true
 Du:W.kitOne K (.ref a.Ak) (.ref a.Ak)=some true
 Cw:W.kitOne K (.ref a.Ak) (.ref a.A2)=some false
 Dv:W.kitOne K (.ref a.Ak) (.ref a.Af)=some false
 Bi:W.exmOne K (.ref a.Ak) (.ref a.Am)=some true
 A5:mg "isinstance"=none
 Ll:mg "int"=none
 Sj:mg "bool"=none
 Aq:mg "list"=none
 D1:mg "all"=none
 A9:mg "len"=none
 Lm:mg "min"=none
 Ln:mg "max"=none
 Ft:mg "str"=none
 D6:mg "tuple"=none
 Lo:mg "zip"=none
 Fu:mg "sum"=none
 Ub:mg "any"=none
 Ar:mg "range"=none
 Gj:mg "reversed"=none
 D7:mg "LEAST"=some (.int 32768 a.Lq)
 Ck:mg "ONE"=some (.int 16777216 a.Tj)
 Cl:mg "MOST_SIGNS"=some (.int 1000 a.Eg)
 Cm:mg "MOST_BYTES"=some (.int 12000 a.Eh)
 Bt:mg "MOST_COUNTED"=some (.int 255 a.D9)
 E7:mg "FIRST_WIDTH"=some (.int 1099511627776 a.Dz)
 Er:mg "FIRST_SIZE"=some (.int 5 a.Ei)
 E8:mg "LEAST_WIDTH"=some (.int 4294967296 a.E4)
 Gk:mg "FARTHEST"=some (.int 8 a.G8)
 E9:mg "MOST_PLACES"=some (.int 4 a.E5)
 Es:mg "MOST_LOOKS"=some (.int 6 a.Ej)
 Hn:mg "NO_SIGN"=some (.int 256 a.Hd)
 Dw:mg "FIRST_WEIGHT"=some (.int 1099511627776 a.Da)
 Fv:mg "OWN_PARTS"=some (.int 31 a.Ew)
 Dx:mg "MOST_FIGURES"=some (.int 48 a.Db)
 D4:mg "NODES_END"=some (.int 256 a.Ey)
 Cn:mg "FIGURES_telling"=some (.int 24 a.C7)
 Dy:mg "MOST_LETTERS"=some (.int 8 a.Dc)
 Cy:mg "LETTERS"=some (.str "abcdefghijklmnopqrstuvwxyz" a.He)
 Ea:mg "MOST_PIECES"=some (.int 60 a.E6)
 Et:mg "MOST_SHELF"=some (.int 1000000 a.Ek)
 As:mg "FIGURES_desk"=some (.str "0123456789abcdef" a.Dd)
 Ho:mg "NO_BASE"=some (.str "-" a.Hf)
 Gm:mg "DONE"=some (.str "ok" a.Sa)
 Eu:mg "KINDS"∣a.Ba
 Fw:K.lookup a.Ba=some #[.type "tuple",none,.seq (List.toArray [.str "even" a.G9,.str "quick" a.Ga,.str "run" a.Gb]) a.Js,a.Jt]
 Fx:mg "WORTHS"∣a.Bl
 Hq:K.lookup a.Bl=some #[.type "tuple",a.Hg,.seq (List.toArray [.int 128 a.Ez,.int 64 a.F0,.int 32 a.F7,.int 16 a.F8,.int 8 a.F9,.int 4 a.Fa,.int 2 a.Fb,.int 1 a.Fc]) a.Hh,a.Hi]
def Txt.w_KINDS{K:z3}{mg:Ε}(T:Txt K mg a):∀H,SqT K H a.Ba [V.str "even",V.str "quick",V.str "run"]:=yr2 T.Fw (by show 3<=sizeLine;decide) (.cons #[_,J] (.cons #[_,J] (.cons #[_,J] .nil)))
def Txt.wy_KINDS{K:z3}{mg:Ε}(T:Txt K mg a):∃o,K.lookup a.Ba=some o/\o.cls=.type "tuple"/\o.dict=none:=#[_,T.Fw,J,J]
def Txt.w_WORTHS{K:z3}{mg:Ε}(T:Txt K mg a):∀H,SqT K H a.Bl [V.int 128,V.int 64,V.int 32,V.int 16,V.int 8,V.int 4,V.int 2,V.int 1]:=yr2 T.Hq (by show 8<=sizeLine;decide) (.cons #[_,J] (.cons #[_,J] (.cons #[_,J] (.cons #[_,J] (.cons #[_,J] (.cons #[_,J] (.cons #[_,J] (.cons #[_,J] .nil))))))))
end
section
variable{P:qi}{w:qe}{K:z3}{mg:Ε}{Γ:qg}
section
open Lean
mutual
def fld0 (w z:Term):Nat->MacroM Term
 | 0=>return z
 | i+1=>do `($w 'r' $(<-fld0 w z i))
def fld1 (x c l h r k q:Term)(e:List Term):MacroM Syntax:=`(theorem $(⟨x⟩):ident (T:Txt K mg a)(hp:H p=some (.ins $c dx $l))(h : $h) : $r := $k hp $q $(e.toArray)* h)
def fld2 (F:Term)(n:Nat)(w:Array (Term×Term)):MacroM Term:=if w.size<n then do `([$(<-w.mapM fun x=>`(($(x.1),$(x.2)))),*]) else `($F $(w.map (·.2))*)
def fld3 (x g s:Term):MacroM Syntax:=`(theorem $(⟨x⟩):ident {C:z4}{nm:Str}(hp:H p=some (.ins C dx $g))(n:nm∉($s :Τ))(h:R):MtX H p C nm R:=mtX hp J n h)
def fld4 (x g s e:Term):MacroM Syntax:=`(theorem $(⟨x⟩):ident :List.lookup ($s :Str) $g=none:=$e)
def fld5 (x:Term)(v:Array Ident)(l:Term):MacroM Syntax:=`(def $(⟨x⟩):ident ($v*:V):Ι:= $l)
def fld6 (b:Bool)(x:MacroM Syntax):MacroM (Array Syntax):=if b then return #[<-x] else return #[]
def fld7 (c m:Term):MacroM Term:=`(wn nx σ (upd H p (.ins $c dx $m)))
def fld8 (F c q:Term)(w:Array (Term×Term))(g:Term)(i:Nat)(y:Array Term):MacroM (Array Syntax):=do
 let k:=w.size
 let s:=y[0]!
 let n:=y[1]!
 let r<-`(StX K H p $s v nx σ)
 let V:=(s,<-`(v))
 let z:=w.extract 0 i
 let t (j k l m e):=fld6 y[j]!.raw.isIdent do fld1 y[j]! c (<-fld2 F w.size l) (<-fld7 c (<-fld2 F w.size m)) r (<-`(stX)) q [n,mkIdent (.mkSimple s!"lt{k}"),<-fld0 (<-`(wa)) e i]
 return (<-fld6 y[2]!.raw.isIdent do fld1 y[2]! c g (<-`(P $(w[i]!.2))) (<-`(RdX K H p $s P)) (<-`(rdX)) q [n,<-fld0 (<-`(wo)) (<-`(x0)) i])++(<-t 3 k w (w.set! i V) (<-`(μ)))++(<-t 4 i z (z.push V) (<-`(wv)))
end
local macro_rules | `(#synth[$F,$C,$q,$xs,*])=>do
 let r:=xs.getElems.map fun x=>x.raw[1].getSepArgs.map fun x=>(⟨x⟩:Term)
 let f:=r.filter (·.size==5)
 let v:Array Ident:=f.mapIdx fun i _=>mkIdent (.mkSimple s!"v{i}")
 let w:=f.mapIdx fun i y=>(y[0]!,(⟨v[i]!⟩:Term))
 let g<-fld2 F 0 w
 let mut o:=(List.cons (<-fld5 F v (<-fld2 F 99 w)) []).toArray
 for y in r do
  o:=o++(<-fld6 (y.size==1) (do fld3 y[0]! g (<-`([$(w.map (·.1)),*]))))++(<-fld6 (y.size==2) (do fld4 y[1]! g y[0]! (<-fld0 (<-`(wo)) (<-`(Ĵ)) v.size)))
 for i in [0:f.size] do o:=o++(<-fld8 F C q w g i f[i]!)
 return mkNullNode o
mutual
variable{H:Hp}{p dx:z4}{v0 v1 v2 v3 v4 v5 v:V}{P:V->Prop}{nx:Ζ}{σ:St}
#synth[Å,a.Ag,T.Az,["noughts",T.Aw,Č,ċ,đ],["ones",T.Bm,ybj,ybh,ybc],["chance",ŉ],["seen",ybk]]
#synth[jv,a.Ae,T.Bn,["held",T.Bb,ű,Ŷ,Ÿ],["chance",č],["seen",ų]]
#synth[Ō,a.Ap,T.Bo,["last",T.By,ydp,ydo,ydl],["length",T.Bc,yae,yad,Ů],["chance",ż],["seen",ydh]]
#synth[vgp,a.C6,T.Fs,["kept",T.Cp,ygq,yg2,ygz],[vht]]
#synth[ygb,a.Aj,T.Ca,["look",T.D0,ybg,_,ybe],["slots",T.Cb,ŵ,_,yac],[yud]]
#synth[ĺ,a.A6,T.Ad,["looks",T.C0,_,_,ydb],["books",T.Dq,ydn,_,yda],["mixer",T.Dr,ydi,_,yc6],["ended",T.C1,ydm,ydf,yc8],["place",T.C4,ydd,yc3,ydg],["present",T.Be,ž,ſ,yaa],[viw]]
#synth[yl5,a.Ao,T.Ax,["data",T.Ec,yg1,_,yg5],["span",T.Ed,ygj,_,yhg],["number",T.Bq,ybp,ybi,ybl],["reached",T.Bf,Ŵ,ũ,ū],[vhj]]
#synth[η,a.A3,T.An,["foreteller",T.Ay,Æ,_,Ç],["links",T.Bu,Ń,_,ń],["texts",T.Bv,ŀ,_,Ň],[ynh]]
#synth[į,a.Ab,T.Ce,["base",T.Cg,Ų,_,ź],["data",T.Ci,Ū,_,ŷ]]
#synth[wc,a.A0,T.A1,["looks",T.B0,ņ,_,Ņ],["most",T.Cj,ů,_,Ź],["pieces",T.Br,Đ,_,Ď],["chain",T.B6,Ľ,ň,Ł],[ynx]]
#synth[zy,a.A4,T.A7,["data",T.Bw,ľ,_,ł],["reached",T.At,è,é,ê],[yh7]]
#synth[ß,a.Ah,T.Ac,["store",T.Bg,yab,Ż,Ű],[yvi]]
end
end
local macro_rules | `(tactic| walk_at "f1")=>`(tactic| first
 | fail "1 Č ybj ű ydp yae ygq ybg ŵ ydn ydi ydm ydd ž yg1 ygj ybp Ŵ Æ Ń ŀ Ų Ū ņ ů Đ Ľ ľ è yab")
local macro_rules | `(tactic| walk_at "f2")=>`(tactic| first
 | fail "1 ċ đ ybh ybc Ŷ Ÿ ydo ydl yad Ů yg2 ygz ybe yac ydb yda yc6 ydf yc8 yc3 ydg ſ yaa yg5 yhg ybi ybl ũ ū Ç ń Ň ź ŷ Ņ Ź Ď ň Ł ł é ê Ż Ű")
local macro_rules | `(tactic| walk_at "f3")=>`(tactic| first
 | fail "3 vht yud viw vhj ynh ynx yh7 yvi")
local macro_rules | `(tactic| walk_at "rd1")=>`(tactic| first | ((with_reducible refine gRd ?_); walk_at "f1") | ((with_reducible refine gSt ?_); walk_at "f2") | ((with_reducible refine gMt ?_); walk_at "f3"))
open SpanMath
mutual
def But(p:z4)(H H':Hp):Prop:=∀b o,H b=some o->b≠p->H' b=some o
def But.refl{p:z4}{H:Hp}:But p H H:=λZ Z h Z=>h
def But.of{p:z4}{H H':Hp}(s:yz H H'):But p H H':=λb o h Z=>s b o h
def But.trans{p:z4}{H H1 H2:Hp}(x:But p H H1)(y:But p H1 H2):But p H H2:=λb o h n=>y b o (x b o h n) n
theorem But.upd{p:z4}{H:Hp}{o:HO}:But p H (L2.upd H p o):=λb u h n=>by rwa[yk n,h]
theorem But.lst{p l C dx:z4}{fs:Ι}{H H':Hp}{xs:Υ}(e:But p H H')(hp:H p∩C dx fs)(h:H l\xs):H' l\xs:=e _ _ h (xf h hp 'z')
def ξ{x:V}(h:â x=true):∃i,x=.int i:=by
 cases x with
 |int i=>erw[i,rfl]
 |_=>cases h
noncomputable def Ć:V->Bool
 | .int i=>decide (0<=i) && decide (i<=1)
 |_=>false
noncomputable def chV:V->Bool
 | .int i=>decide (32768<=i) && decide (i<=16744448)
 |_=>false
end
local macro_rules | `(#synth ∀$bs:bracketedBinder*,∀$cs:bracketedBinder*,$n:ident)=>`(inductive $n:ident $bs* (vs:Υ)(H:Hp)(Q:VK)(E:XK):Prop | mk $cs*)
local macro_rules | `(#synth ∀$cs:bracketedBinder*,$n:ident)=>`(inductive $n:ident (vs:Υ)(H:Hp)(Q:VK)(E:XK):Prop | mk $cs*)
mutual
#synth ∀(K:z3),∀(x n:_)(_:vs=[x])(_:u6 K H x (.type n))(_:Q (.bl (â x)) H),yxd
noncomputable def ν(x:Sn):Ι:=[("low",.int x.1),("width",.int x.2.1),("size",.int x.2.2)]
def nWL:¬(("width":Str)="low"):='r'
def nLW:¬(("low":Str)="width"):='r'
def nSL:¬(("size":Str)="low"):='r'
def nLS:¬(("low":Str)="size"):='r'
def nSW:¬(("size":Str)="width"):='r'
def nWS:¬(("width":Str)="size"):='r'
def lkL(x:Sn):(ν x).lookup ("low":Str)=some (.int x.1):=x0
def lkW(x:Sn):(ν x).lookup ("width":Str)=some (.int x.2.1):=wo nWL x0
def lkS(x:Sn):(ν x).lookup ("size":Str)=some (.int x.2.2):=wo nSL (wo nSW x0)
def lkN(x:Sn){m:Str}(h1:¬m="low")(h2:¬m="width")(h3:¬m="size"):(ν x).lookup m=none:=wo h1 (wo h2 (wo h3 Ĵ))
def pfL(x:Sn)(v:Int):ω "low" (.int v) (ν x)=ν (v,x.2.1,x.2.2):=μ
def pfW(x:Sn)(v:Int):ω "width" (.int v) (ν x)=ν (x.1,v,x.2.2):=wa nLW μ
def pfS(x:Sn)(v:Int):ω "size" (.int v) (ν x)=ν (x.1,x.2.1,v):=wa nLS (wa nWS μ)
end
section
mutual
variable{H:Hp}{p dx:z4}{x:Sn}{P:V->Prop}{nx:Ζ}{σ:St}{v:Int}
def rdL(T:Txt K mg a)(hp:H p∩a.A8 dx (ν x))(h:P (.int x.1)):
  ∃a' C dx fs v,V.ref p=.ref a'/\H a'∩C dx fs/\Cls K C/\NoAttr K C "low"/\fs.lookup ("low":Str)=some v/\P v:=#[p,_,dx,_,_,J,hp,T.Ai,T.Bz,lkL x,h]
def rdW(T:Txt K mg a)(hp:H p∩a.A8 dx (ν x))(h:P (.int x.2.1)):
  ∃a' C dx fs v,V.ref p=.ref a'/\H a'∩C dx fs/\Cls K C/\NoAttr K C "width"/\fs.lookup ("width":Str)=some v/\P v:=#[p,_,dx,_,_,J,hp,T.Ai,T.Bd,lkW x,h]
def rdS(T:Txt K mg a)(hp:H p∩a.A8 dx (ν x))(h:P (.int x.2.2)):
  ∃a' C dx fs v,V.ref p=.ref a'/\H a'∩C dx fs/\Cls K C/\NoAttr K C "size"/\fs.lookup ("size":Str)=some v/\P v:=#[p,_,dx,_,_,J,hp,T.Ai,T.Bp,lkS x,h]
def vkl(T:Txt K mg a)(hp:H p∩a.A8 dx (ν x))(h:wn nx σ (upd H p (.ins a.A8 dx (ν (v,x.2.1,x.2.2))))):
  ∃a' C dx fs,V.ref p=.ref a'/\H a'∩C dx fs/\Cls K C/\NoAttr K C "low"/\fs.length<1000/\wn nx σ (upd H a' (.ins C dx (ω "low" (.int v) fs))):=#[p,_,dx,ν x,J,hp,T.Ai,T.Bz,by show 3<1000;decide,by rwa[pfL,h]]
def vkp(T:Txt K mg a)(hp:H p∩a.A8 dx (ν x))(h:wn nx σ (upd H p (.ins a.A8 dx (ν (x.1,v,x.2.2))))):
  ∃a' C dx fs,V.ref p=.ref a'/\H a'∩C dx fs/\Cls K C/\NoAttr K C "width"/\fs.length<1000/\wn nx σ (upd H a' (.ins C dx (ω "width" (.int v) fs))):=#[p,_,dx,ν x,J,hp,T.Ai,T.Bd,by show 3<1000;decide,by rwa[pfW,h]]
def vkz(T:Txt K mg a)(hp:H p∩a.A8 dx (ν x))(h:wn nx σ (upd H p (.ins a.A8 dx (ν (x.1,x.2.1,v))))):
  ∃a' C dx fs,V.ref p=.ref a'/\H a'∩C dx fs/\Cls K C/\NoAttr K C "size"/\fs.length<1000/\wn nx σ (upd H a' (.ins C dx (ω "size" (.int v) fs))):=#[p,_,dx,ν x,J,hp,T.Ai,T.Bp,by show 3<1000;decide,by rwa[pfS,h]]
end
end
set_option hygiene true in
local macro_rules | `(tactic| walk_at "rd1")=>`(tactic| first
 | fail "1 rdL rdW rdS vkl vkp"
 | (with_reducible refine' vkz (by assumption) ?rdh ?_; (case rdh=>first | assumption | exact ya)))
mutual
inductive Slt where
 |ev (n o:Int)
 |qk (h:Int)
 |rn (l n:Int)
abbrev _root_.Α:=Nat->qj Int->ql Slt
def Slt.ok:Slt->Prop
 | .ev n o=>0<=n/\0<=o/\n+o<=255
 | .qk h=>32768<=h/\h<=16744448
 | .rn l n=>0<=l/\l<=1/\0<=n/\n<=255
noncomputable def Ă(n:Int):Int:=(2*n+1)*16777216/(2*n+2)
def Slt.due:Slt->Int
 | .ev n o=>(2*o+1)*16777216/(2*(n+o)+2)
 | .qk h=>h
 | .rn l n=>if l=1 then Ă n else 16777216-Ă n
noncomputable def yeg(n o:Int):Slt:=if 255<n+o then .ev ((n+1)/2) ((o+1)/2)else .ev n o
noncomputable def yf5(m:Int):Int:=if 16744448<(if 32768 > m then 32768 else m)then 16744448 else (if 32768 > m then 32768 else m)
def Slt.see:Slt->Int->Slt
 | .ev n o,b=>if b=1 then yeg n (o+1)else yeg (n+1) o
 | .qk h,b=>.qk (yf5 (if b=1 then h+(16777216-h)/16 else h-h/16))
 | .rn l n,b=>if b=l then .rn l (if 255<n+1 then 255 else n+1)else .rn b 1
noncomputable def oS(a:Ads)(dx:z4):Slt->HO
 | .ev n o=>.ins a.Ag dx (Å (.int n) (.int o))
 | .qk h=>.ins a.Ae dx (jv (.int h))
 | .rn l n=>.ins a.Ap dx (Ō (.int l) (.int n))
def ye6{n o:Int}(h1:0<=n)(h2:0<=o)(h3:n+o<=256):(yeg n o).ok:=by
 unfold yeg
 split
 .exists by omega,(),()
 .erw[h1,h2,()]
def yjk(m:Int):32768<=yf5 m/\yf5 m<=16744448:=by
 unfold yf5
 split<;>split<;>omega
def Slt.see_ok{s:Slt}{b:Int}(h:s.ok)(b0:0<=b)(b1:b<=1):(s.see b).ok:=by
 cases s with
 |ev n o =>
  let#[a,c,d]:=h;unfold Slt.see;dsimp only
  split
  .erw[ye6 a () ()]
  .erw[ye6 () c ()]
 |qk h0=>erw[yjk _]
 |rn l n =>
  let#[a,c,d,e]:=h;unfold Slt.see;dsimp only
  split
  .erw[a,c,?_,?_]<;>split<;>omega
  .erw[b0,b1,∅,∅]
noncomputable def kdS:Fin 3->Str
 |0=>"even"
 |1=>"quick"
 |2=>"run"
def kd0:Fin 3->Slt
 |0=>.ev 0 0
 |1=>.qk 8388608
 |2=>.rn 1 0
def yrc(k:Fin 3):(kd0 k).ok:=by
 match k with
 |0=>exists by decide,∅,∅
 |1=>exists by decide,∅
 |2=>exists by decide,∅,∅,∅
def vbz{b:Int}(b0:0<=b)(b1:b<=1):Ć (.int b)=true:=by simp only[Ć,cC,decide_eq_true_eq];omega
def yge{x:V}(h:Ć x=true):∃b:Int,x=.int b/\0<=b/\b<=1:=by
 cases x with
 |int i =>
  simp only[Ć,cC,decide_eq_true_eq]at h;erw[i,J,h.1,h.2]
 |_=>cases h
#synth ∀(C:z4)(F:Ι),∀(p dx:z4)(_:vs=[.ref p])(_:H p∩C dx [])(_:∀H',H' p∩C dx F->But p H H'->Q .non H'),yas
#synth ∀(o:z4->Slt->HO)(g:Slt->Prop),∀(p dx:z4)(s:Slt)(_:vs=[.ref p])(_:g s)(_:s.ok)(_:H p=some (o dx s))(_:Q (.int s.due) H),zf
#synth ∀(K:z3)(o:z4->Slt->HO)(g:Slt->Prop)(C:z4),∀(p dx:z4)(s:Slt)(x:V)(n:String)(_:vs=[.ref p,x])(_:g s)(_:s.ok)(_:H p=some (o dx s))(_:u6 K H x (.type n))(_:(∀b:Int,x=.int b->0<=b->b<=1->∀H',H' p=some (o dx (s.see b))->But p H H'->Q .non H'))(_:(Ć x=false->E (.ref C) none H)),υ
def vgy:Slt->Prop
 | .ev _ _=>True
 |_=>False
def vg2:Slt->Prop
 | .qk _=>True
 |_=>False
def vgx:Slt->Prop
 | .rn _ _=>True
 |_=>False
def ycx(bs:Ρ):Prop:=∀b∈bs,0<=b/\b<=1
def vo{n:Nat}(h:n<=16000000):n<=sizeLine:=cO h ∅
def ve{n:Nat}(h:n<=16000000):n<sizeLine:=dR h ∅
def jh{ns:Ρ}{i:Nat}{x:V}(h:(ns.map V.int)[i]?=some x):∃n,x=.int n/\n∈ns/\ns[i]?=some n/\i<ns.length:=by
 rw[ci]at h
 cases e:ns[i]? with
 |none=>rw[e]at h;cases h
 |some n =>
  rw[e]at h
  have a:i<ns.length:=by
   rcases Nat.lt_or_ge i ns.length with q|q
   .erw[q]
   .rw[cT q]at e;cases e
  erw[n,(cu h).symm,cz e,J,a]
def jc{l:Ρ}{i:Nat}{q:Int}(h:l[i]?=some q):l.take (i+1)=l.take i++[q]:=by rw[List.take_add_one,h];rfl
def yob{ys:Ρ}(h1:ycx xs)(h2:ycx ys):ycx (xs++ys):=λb a=>by
 rcases cK.mp a with h|h
 .erw[h1 b h]
 .erw[h2 b h]
def yi8(c:Int)(n:Nat):(List.replicate n [V.int c]).flatten=(List.replicate n c).map V.int:=by
 induction n with
 |zero=>rfl
 |succ n ih=>rw[di,List.flatten_cons,ih,di];rfl
def yst(sg:Ρ)(p:Int):Int:=if p<=sg.length then (atI sg (-p)).getD 256 else 256
def yuz{α β:Type}(f:α->β)(xs:qj α)(i:Int):atI (xs.map f) i=(atI xs i).map f:=by
 unfold atI;rw[bw]
 cases ixN xs.length i with
 |none=>rfl
 |some j =>
  show (xs.map f)[j]?=(xs[j]?).map f;rw[ci]
def you{sg:Ρ}{p:Int}(h1:1<=p)(h2:p<=sg.length):∃c,atI sg (-p)=some c/\c∈sg:=by
 unfold atI ixN;rw[if_neg ()];by_cases h:-(sg.length:Int)<= -p
 .rw[if_pos ()];have a:((-p+(sg.length:Int)).toNat)<sg.length:=()
  erw[_,bP a,cV a]
 .omega
def Slt.kind:Slt->Fin 3
 | .ev _ _=>0
 | .qk _=>1
 | .rn _ _=>2
def ymz(s:Slt)(b:Int):(s.see b).kind=s.kind:=by
 cases s with
 |ev n o =>
  unfold Slt.see yeg;dsimp only
  split<;>split<;>rfl
 |qk h=>rfl
 |rn l n =>
  unfold Slt.see;dsimp only
  split<;>rfl
def ym6(k:Fin 3):(kd0 k).kind=k:=by
 match k with
 |0=>rfl
 |1=>rfl
 |2=>rfl
def Ĳ(a:Ads)(dx:z4)(s:Slt):∃C fs,oS a dx s=.ins C dx fs:=by cases s<;>erw[_,_,J]
def yf2{s:Slt}(h:s.ok):32768<=s.due/\s.due<=16744448:=by
 cases s with
 |ev n o =>
  let#[c,b,d]:=h;unfold Slt.due;dsimp only;have a:(0:Int)<2*(n+o)+2:=()
  constructor
  .rw[Int.le_ediv_iff_mul_le a];omega
  .have:(2*o+1)*16777216/(2*(n+o)+2)<16744449:=by
    rw[Int.ediv_lt_iff_lt_mul a];omega
   omega
 |qk h0=>erw[h]
 |rn l n =>
  let#[c,b,d,e]:=h;have a:(0:Int)<2*n+2:=()
  have g1:8388608<=Ă n:=by
   unfold Ă;rw[Int.le_ediv_iff_mul_le a];omega
  have g2:Ă n<16744449:=by
   unfold Ă;rw[Int.ediv_lt_iff_lt_mul a];omega
  unfold Slt.due;dsimp only
  split<;>omega
def yh0{p dx:z4}{s:Slt}{ta:TE}{σ:St}{H:Hp}{Q:VK}{E1 E2 E3:XK}(hta:∀Q':VK,Q' (.ref p) H->ta σ H Q')(hp:H p=some (oS a dx s))(ok:s.ok)(h:Q (.int s.due) H):
  ywz (yeh a.Ag "chance" (zf (oS a) vgy) [] E1 ta ypb) (ywz (yeh a.Ae "chance" (zf (oS a) vg2) [] E2 ta ypb) (yeh a.Ap "chance" (zf (oS a) vgx) [] E3 ta ypb)) σ H Q:=by
 cases s with
 |ev n o=>erw[ÿ (yf7 (hta _ #[p,dx,_,J,hp,ŉ,p,dx,.ev n o,J,trivial,ok,hp,h]))]
 |qk h0=>erw[Â (ÿ (yf7 (hta _ #[p,dx,_,J,hp,č,p,dx,.qk h0,J,trivial,ok,hp,h])))]
 |rn l n=>erw[Â (Â (yf7 (hta _ #[p,dx,_,J,hp,ż,p,dx,.rn l n,J,trivial,ok,hp,h])))]
def yty{p dx:z4}{s:Slt}{ta:TE}{t:TA}{σ:St}{H:Hp}{Q:VK}{E1 E2 E3:St->XK}{x:V}{n:String}(hta:∀Q':VK,Q' (.ref p) H->ta σ H Q')(ht:∀Q':qj V->Hp->Prop,Q' [x] H->t σ H Q')(hp:H p=some (oS a dx s))(ok:s.ok)(ty:u6 K H x (.type n))
  (h:∀b:Int,x=.int b->0<=b->b<=1->∀H',H' p=some (oS a dx (s.see b))->But p H H'->Q .non H') (h1:Ć x=false->E1 σ (.ref a.Bk) none H) (h2:Ć x=false->E2 σ (.ref a.Bk) none H) (h3:Ć x=false->E3 σ (.ref a.Bk) none H):
  ywz (ycj a.Ag "seen" (υ K (oS a) vgy a.Bk) [] E1 ta t) (ywz (ycj a.Ae "seen" (υ K (oS a) vg2 a.Bk) [] E2 ta t) (ycj a.Ap "seen" (υ K (oS a) vgx a.Bk) [] E3 ta t)) σ H Q:=by
 cases s with
 |ev n o=>erw[ÿ (ya5 (hta _ #[p,dx,_,J,hp,ybk,ht _ #[p,dx,.ev n o,x,_,J,trivial,ok,hp,ty,h,h1]]))]
 |qk h0=>erw[Â (ÿ (ya5 (hta _ #[p,dx,_,J,hp,ų,ht _ #[p,dx,.qk h0,x,_,J,trivial,ok,hp,ty,h,h2]])))]
 |rn l n=>erw[Â (Â (ya5 (hta _ #[p,dx,_,J,hp,ydh,ht _ #[p,dx,.rn l n,x,_,J,trivial,ok,hp,ty,h,h3]])))]
def vbe{x:Sn}{c b:Int}(h:Ok x):(nar x c b).2.2<=x.2.2+2:=by
 unfold nar ren;have:=h.z
 (repeat' split)<;>(dsimp only;omega)
noncomputable abbrev tMx:Nat:=100000
def yem{k:Nat}(h:k<=6):pw k<=281474976710656:=Int.le_trans (ykd h) ∅
def ym4(xs:Ρ)(y:Int):xs.map V.int++[V.int y]=(xs++[y]).map V.int:='s'
def ysy(xs:Ρ):(xs.map V.int).reverse=xs.reverse.map V.int:='s'
noncomputable def gvv(c b:Int):Int:=if b=1 then c else 16777216-c
def ydw{x:V}(h:chV x=true):∃c,x=.int c/\32768<=c/\c<=16744448:=by
 cases x with
 |int i =>
  simp only[chV,cC,decide_eq_true_eq]at h;erw[i,J,h.1,h.2]
 |_=>cases h
def yew{x:V}(h:Ć x=true):∃b,x=.int b/\0<=b/\b<=1:=by
 cases x with
 |int i =>
  simp only[Ć,cC,decide_eq_true_eq]at h;erw[i,J,h.1,h.2]
 |_=>cases h
def ych{c:Int}(h:Ch c):chV (.int c)=true:=by let#[a,b]:=h;simp only[chV,cC,decide_eq_true_eq];omega
def yau{b:Int}(h1:0<=b)(h2:b<=1):Ć (.int b)=true:=by simp only[Ć,cC,decide_eq_true_eq];omega
def yzv{H H':Hp}{v:V}{n:String}(S:yz H H')(t:u6 K H v (.type n)):u6 K H' v (.type n):=by
 cases t with
 |non=>erw[.non]
 |bl b=>erw[.bl b]
 |int i=>erw[.int i]
 |str x=>erw[.str x]
 |flt x=>erw[.flt x]
 |lst e=>erw[.lst (S _ _ e)]
 |frz e=>erw[.frz (S _ _ e)]
 |tup e=>erw[.tup (S _ _ e)]
 |dK e=>erw[.dK (S _ _ e)]
 |dT e=>erw[.dT (S _ _ e)]
noncomputable def sgV:V->Bool
 | .int i=>decide (0<=i) && decide (i<=255)
 |_=>false
def yo2(K:z3)(H:Hp)(xs:Υ):Prop:=∀y∈xs,∃k:String,u6 K H y (.type k)
def î{H:Hp}(ns:Ρ):yo2 K H (ns.map V.int):=λy a=>by
 let#[i,_,J]:=ce.mp a;erw[_,.int i]
def Bad(K:z3)(H:Hp)(x:V)(n:String)(m:Int):Prop:=n≠"list"\/∃p xs,x=.ref p/\H p\xs/\yo2 K H xs/\xs.length<=100000/\(decide ((xs.length:Int)<=m) && xs.all sgV)=false
def vgt(K:z3)(H:Hp)(x:V)(xs:Υ)(m:Int):Prop:=∃p,x=.ref p/\H p\xs/\yo2 K H xs/\xs.length<=100000/\(decide ((xs.length:Int)<=m) && xs.all sgV)=true
def yvw{H:Hp}{x:V}{n:String}(ty:u6 K H x (.type n)):W.kitOne K (.type n) (.type "list")=some (decide (n="list")):=by cases ty<;>rfl
def yn8{n:Nat}(h:n<=100000):n<sizeLine:=dR h ∅
def yod{xs:Υ}(n:Nat):yc0 xs (some (n:Int)) none=xs.drop n:=by
 unfold yc0;rw[HT.sIx_nat,HT.sIx_none];by_cases h:n<=xs.length
 .rw[Nat.min_eq_left h,db (by rwa[dE,cc _])]
 .rw[Nat.min_eq_right (),Nat.sub_self,List.take_zero,List.drop_of_length_le ()]
def ydz{ns:Ρ}(h:∀i∈ns,0<=i/\i<=255):(ns.map V.int).all sgV=true:=by rw[List.all_map,List.all_eq_true];intro i b;let#[a,c]:=h i b;simp[sgV,a,c]
#synth ∀(K:z3)(C:z4)(m:Int),∀(x n:_)(_:vs=[x])(_:u6 K H x (.type n))(_:((Bad K H x n m/\∀H',yz H H'->E (.ref C) none H')\/∃xs,vgt K H x xs m/\∀r H',H r=none->H' r\xs->yz H H'->Q (.ref r) H')),ő
def yl9(p q:z4)(H H':Hp):Prop:=∀b o,H b=some o->b≠p->b≠q->H' b=some o
def But.two{p:z4}{H H':Hp}(h:But p H H'):yl9 p q H H':=λb o e n Z=>h b o e n
def But.two'{p:z4}{H H':Hp}(h:But q H H'):yl9 p q H H':=λb o e Z n=>h b o e n
def yl9.trans{p:z4}{H H1 H2:Hp}(x:yl9 p q H H1)(y:yl9 p q H1 H2):yl9 p q H H2:=λb o h n m=>y b o (x b o h n m) n m
structure yhr(a:Ads)(H:Hp)(p dx pd ps ds:z4)(d:Ρ)(x:Sn):Prop where
 me:H p∩a.Ao dx (yl5 (.ref pd) (.ref ps) (.int (rn d (sz x))) (.int x.2.2))
 dt:H pd\(d.map V.int)
 sp:H ps∩a.A8 ds (ν x)
 ne:p≠ps
def yhr.same{H H':Hp}{p dx pd ps:z4}{d:Ρ}{x:Sn}(h:yhr a H p dx pd ps ds d x)(S:yz H H'):yhr a H' p dx pd ps ds d x:=#[S _ _ h.me,S _ _ h.dt,S _ _ h.sp,h.ne]
end
section
variable{H H':Hp}{p dx pd ps:z4}{d:Ρ}{x:Sn}
theorem yhr.lst(h:yhr a H p dx pd ps ds d x)(B:yl9 p ps H H'){l:z4}{xs:Υ}(e:H l\xs):H' l\xs:=B _ _ e (xf e h.me 'z') (xf e h.sp 'z')
theorem yhr.tup(h:yhr a H p dx pd ps ds d x)(B:yl9 p ps H H'){l:z4}{xs:Υ}(e:H l∪xs):H' l∪xs:=B _ _ e (xf e h.me 'z') (xf e h.sp 'z')
end
mutual
def ymw{H:Hp}{p:z4}{d:Ρ}(h:H p\(d.map V.int))(hb:Byt d)(hz:d.length<=12000):vgt K H (.ref p) (d.map V.int) 12000 :=
 #[p,J,h,î d,by rw[bw];omega,by rw[ydz hb,bw,cg ()];rfl]
def Sgs(ns:Ρ):Prop:=∀i∈ns,0<=i/\i<=255
noncomputable def wth:Ρ:=[128,64,32,16,8,4,2,1]
def b8(s:Int):Ρ:=wth.map (λw=>s/w%2)
def dec:qj Int->qj Int
 |[]=>[0]
 |s::r=>(1::b8 s)++dec r
noncomputable def nds:Int->qj Int->qj Int
 |_,[]=>[]
 |n,b::r=>n::nds (2*n+b) r
def ycz:qj Int->qj Int
 |[]=>[]
 |s::r=>(1::b8 s)++ycz r
theorem yo8:∀ns,dec ns=ycz ns++[0]
 |[]=>rfl
 |s::r=>by simp[dec,ycz,yo8 r]
theorem ybv(s:Int):∀ns,ycz (ns++[s])=ycz ns++(1::b8 s)
 |[]=>by simp[ycz]
 |t::r=>by simp[ycz,ybv s r]
def yr4(s:Int):(b8 s).length=8:=rfl
theorem τ:∀ns:Ρ,(ycz ns).length=9*ns.length
 |[]=>rfl
 |s::r=>by
  show ((1::b8 s)++ycz r).length=9*(r.length+1);rw[bY,τ r];show 9+_=_;omega
def yvq(s:Int):ycx (b8 s):=λb c=>by
 let#[w,_,J]:=ce.mp c;have a:0<=s/w%2:=dG _ ∅;have d:s/w%2<2:=dD _ ∅;erw[a,()]
theorem jt:∀ns,ycx (dec ns)
 |[]=>λb a=>by rw[cn.mp a];decide
 |s::r=>by
  erw[yob (λb a=>?_) (jt r)];rcases cr.mp a with rfl|a
  .decide
  .erw[yvq s b a]
def ywq{s:Int}(h0:0<=s)(h1:s<=255):128*(s/128%2)+(64*(s/64%2)+(32*(s/32%2)+(16*(s/16%2)+(8*(s/8%2)+(4*(s/4%2)+(2*(s/2%2)+(1*(s/1%2)+0)))))))=s:=by
 have h:∀n:Nat,n<256->128*((n:Int)/128%2)+(64*((n:Int)/64%2)+(32*((n:Int)/32%2)+(16*((n:Int)/16%2)+(8*((n:Int)/8%2)+(4*((n:Int)/4%2)+(2*((n:Int)/2%2)+(1*((n:Int)/1%2)+0)))))))=(n:Int):='r'
 let#[n,J]:=Int.eq_ofNat_of_zero_le h0;erw[h n ()]
noncomputable def wV(s:Int):V->V
 | .int w=>.int (s/w%2)
 |_=>.non
def yat{H:Hp}{p:z4}{d:Ρ}(h:H p\(d.map V.int))(hb:Sgs d)(hz:d.length<=1000):vgt K H (.ref p) (d.map V.int) 1000 :=
 #[p,J,h,î d,by rw[bw];omega,by rw[ydz hb,bw,cg ()];rfl]
def yni(xs ys:Ρ):xs.map V.int++ys.map V.int=(xs++ys).map V.int:='s'
def xv(ns:Ρ):(dec ns).length=9*ns.length+1:=by rw[yo8,bY,τ];rfl
noncomputable def ya8(f:qj Int->ql Slt)(k:Ρ)(s:Slt):qj Int->ql Slt:=λj=>if j=k then some s else f j
noncomputable def yw8:HO->Bool
 | .ins _ _ _=>true
 | .dT _=>true
 |_=>false
noncomputable def kI(k:Ρ):qj Key:=k.map Sum.inl
def vaf(k:Ρ):(kI k).map kV=k.map V.int:=by unfold kI;rw[cL];rfl
def yra{j k:Ρ}(h:kI j=kI k):j=k:=by
 unfold kI at h
 induction j generalizing k with
 |nil =>
  cases k with
  |nil=>rfl
  |cons _ _=>cases h
 |cons x r ih =>
  cases k with
  |nil=>cases h
  |cons y s =>
   injection h with h1 h2;injection h1 with h1;rw[h1,ih h2]
def yw0(H:Hp)(d:z4):Prop:=∀kvs,H d=some (.dT kvs)->(kvs.map (·.1)).Nodup/\∀q∈kvs,∃k,q.1=kI k
def yw0.mv{H H':Hp}{d:z4}{kvs:qj (qj Key×V)}(h:yw0 H d)(h1:H d=some (.dT kvs))(h2:H' d=some (.dT kvs)):yw0 H' d:=λa e=>by
 rw[h2]at e;cases e;erw[h kvs h1]
def ync{kvs:qj (qj Key×V)}{k:qj Key}(h:jn kvs k=none):k∉kvs.map (·.1):=λm=>by
 let#[p,b,e]:=ce.mp m;let a:=ρ k kvs;rw[h]at a;erw[List.any_eq_false.mp a p b (cg e)]
def yw0.snoc{H':Hp}{d:z4}{kvs:qj (qj Key×V)}{k:Ρ}{v:V}(h:(kvs.map (·.1)).Nodup/\∀q∈kvs,∃k,q.1=kI k)(hn:jn kvs (kI k)=none)(h2:H' d=some (.dT (ya9 kvs (kI k) v))):yw0 H' d:=λa e=>by
 rw[h2,π _ hn]at e;cases e;rwa[cy,#[List.nodup_append.mpr #[h.1,dJ.mpr #[List.not_mem_nil,List.nodup_nil],λx b y c z=>?_],λq f=>?_]]
 .rw[z,cn.mp c]at b;erw[ync hn b]
 .rcases cK.mp f with w|w
  .erw[h.2 q w]
  .rw[cn.mp w];erw[k,rfl]
structure ą(a:Ads)(H:Hp)(p dx lk d:z4)(kd:Fin 3)(f:qj Int->ql Slt)(O:Ν)(m:Nat):Prop where
 me:H p∩a.Aj dx (ygb (.ref lk) (.ref d))
 own:∀b,O b->∃o,H b=some o/\yw8 o=true
 np:¬O p
 dO:O d
 ky:yw0 H d
 tb:∃(kvs:qj (qj Key×V))(loc:qj Int->z4×z4),H d=some (.dT kvs)/\kvs.length<=m/\(∀k,f k=none->jn kvs (kI k)=none)/\
  (∀k s,f k=some s->jn kvs (kI k)∣(loc k).1/\H (loc k).1=some (oS a (loc k).2 s)/\s.ok/\s.kind=kd/\O (loc k).1)/\(∀k j s t,f k=some s->f j=some t->(loc k).1=(loc j).1->k=j)
def yph(O:Ν)(H H':Hp):Prop:=∀b o,H b=some o->¬O b->H' b=some o
end
section
variable{H H':Hp}{p dx lk d:z4}{kd:Fin 3}{f:qj Int->ql Slt}{O:Ν}{m:Nat}
def ą.frame(h:ą a H p dx lk d kd f O m){O2:Ν}(B:yph O2 H H')(dj:∀b,O b->¬O2 b)(hp:¬O2 p):ą a H' p dx lk d kd f O m:=by
 let#[c,g,e,r,w,t,v]:=h.tb;erw[B _ _ h.me hp,λb i=>?_,h.np,h.dO,h.ky.mv e (B _ _ e (dj _ h.dO)),c,g,B _ _ e (dj _ h.dO),r,w,λk s l=>?_,v]
 .let#[o,n,z]:=h.own b i;erw[o,B _ _ n (dj b i),z]
 .let#[u,y,x,q,j]:=t k s l;erw[u,B _ _ y (dj _ j),x,q,j]
def ą.same(h:ą a H p dx lk d kd f O m)(S:yz H H'):ą a H' p dx lk d kd f O m:=h.frame (O2:=λZ=>False) (λb o e Z=>S b o e) (λZ Z z=>z) (λz=>z)
end
open MixI
mutual
structure yma(a:Ads)(p dx l:z4)(ws:Ρ)(H:Hp):Prop where
 o:H p∩a.C6 dx (vgp (.ref l))
 l:H l\(ws.map V.int)
def yma.same{p dx l:z4}{ws:Ρ}{H H':Hp}(m:yma a p dx l ws H)(S:yz H H'):yma a p dx l ws H':=#[S _ _ m.o,S _ _ m.l]
def vcb{k:Nat}{cs:Ρ}(h:COk k cs){c:Int}(hm:c∈cs):Ch c:=#[h.lo c hm,h.hi c hm]
def yri{g:Int->Int->Int}{ws cs:Ρ}(h:cs.length=ws.length):(List.range (ws.map V.int).length).map (λi=>V.int (g ((ws[i]?).getD 0) ((cs[i]?).getD 0)))=(List.zipWith g ws cs).map V.int:=by rw[bw,<- yiv h,cL];rfl
def ye1{H:Hp}{xs ys:Υ}(h:H D\xs)(e:xs=ys):H D\ys:=e ▸ h
#synth ∀(K:z3)(a:Ads),∀(p dx l c:z4)(ws cs:Ρ)(k:Nat)(_:vs=[.ref p,.ref c])(_:1<=k)(_:k<=6)(_:WOk k ws)(_:COk k cs)(_:yma a p dx l ws H)(_:SqL K H c (cs.map V.int))(_:∀H',yz H H'->Q (.int (yl6 ws cs)) H'),yij
#synth ∀(K:z3)(a:Ads)(C:z4),∀(p dx l c:z4)(ws cs:Ρ)(k:Nat)(x:V)(n:String)(_:vs=[.ref p,.ref c,x])(_:1<=k)(_:k<=6)(_:WOk k ws)(_:COk k cs)(_:yma a p dx l ws H)(_:SqL K H c (cs.map V.int))(_:u6 K H x (.type n))(_:(∀b:Int,x=.int b->0<=b->b<=1->∀l' H',H l'=none->yma a p dx l' (lrn ws cs b) H'->But p H H'->Q .non H'))(_:(Ć x=false->E (.ref C) none H)),yh2
#synth ∀(a:Ads),∀(p dx l:z4)(ws:Ρ)(_:vs=[.ref p])(_:yma a p dx l ws H)(_:∀r H',H r=none->H' r\(ws.map V.int)->yz H H'->Q (.ref r) H'),ysw
#synth ∀(a:Ads),∀(p dx:z4)(k:Nat)(_:vs=[.ref p,.int k])(_:1<=k)(_:k<=6)(_:H p∩a.C6 dx [])(_:∀l H',H l=none->yma a p dx l (List.replicate k 1099511627776) H'->But p H H'->Q .non H'),ynt
noncomputable def plV:V->Bool
 | .int i=>decide (1<=i) && decide (i<=8)
 |_=>false
noncomputable def ltV:V->V->Bool
 | .int i,.int j=>decide (i<j)
 |_,_=>false
def vi0(xs:Υ):Bool:=(List.zipWith ltV xs xs.tail).all id
def uz(xs:Υ):Bool:=decide (xs.length<=4) && xs.all plV && vi0 xs
def yn0{H:Hp}{x:V}{n:String}(ty:u6 K H x (.type n)):W.kitOne K (.type n) (.type "str")=some (decide (n="str")):=by cases ty<;>rfl
def yki{y:V}(h:plV y=true):∃i:Int,y=.int i/\1<=i/\i<=8:=by
 cases y with
 |int i =>
  have h:(decide (1<=i) && decide (i<=8))=true:=h;rw[cC]at h;erw[i,J,of_decide_eq_true h.1,of_decide_eq_true h.2]
 |_=>cases h
def yuu{xs:Υ}{i:Nat}{y:V}(h:xs.tail[i]?=some y):xs[i+1]?=some y:=by
 cases xs with
 |nil=>simp at h
 |cons x r=>simpa using h
def yio(xs:Υ):(List.range xs.tail.length).map (λi=>V.bl (ltV ((xs[i]?).getD .non) ((xs.tail[i]?).getD .non)))=(List.zipWith ltV xs xs.tail).map V.bl:=by
 apply List.ext_getElem
 .rw[bw,c8,bw,List.length_zipWith,List.length_tail];omega
 .intro i a c;rw[bw,c8]at a;have b:i<xs.length:=by rw[List.length_tail]at a;omega
  rw[dH,List.getElem_range,dH,List.getElem_zipWith,bP a,bP b];rfl
def yuo{t u:z4}{xs:Υ}{te:TE}{fr:St}{R:Hp->Prop}{H1:Hp}(hint:∀y∈xs,∃i:Int,y=.int i)(hl:xs.length<=1000)(ht:SqT K H1 t xs)(hu:SqT K H1 u xs.tail)(hD:H1 D=none)
  (hte:∀(i j:Int)(σ':St)(H':Hp)(Q':VK),Q' (.bl (decide (i<j))) H'->te (some (.int i)::some (.int j)::σ') H' Q') (hR:∀H,yz H1 H->H D\((List.zipWith ltV xs xs.tail).map V.bl)->R H):
  ε (vgs K t u) (yw2 K 2 (zw (xi 0) (zw (xi 1) yl4))) te 2 fr D R H1:=by
 erw[yc9 (m:=xs.tail.length) (λi=>V.bl (ltV ((xs[i]?).getD .non) ((xs.tail[i]?).getD .non))) ht hu (by rw[List.length_tail];omega) (cc _) (.inr (cc _)) hD (λi x y h l s z q p k a g f=>?_) (λh k a=>?_)]
 .let#[w,v,J]:=yli f;let#[c,J]:=hint x (cz q);let#[d,J]:=hint y (cz (yuu p));let n:=k.trans (y7 (o:=HO.tup [V.int c,V.int d]) g);let e:=zn (o':=HO.tup [V.int c,V.int d]) g a;have b:upd h l (HO.tup [V.int c,V.int d]) l∪[V.int c,V.int d]:=ya;generalize upd h l (HO.tup [V.int c,V.int d])=r at n e b;erw[ţ (SqT.of b) J ?_];show zw (xi 0) (zw (xi 1) yl4) [V.int c,V.int d] (w::v::fr) r _;ext;erw[#[[some (.int c),some (.int d)],J,J],?_,<-hte c d fr r _ ?_,<-Mp.doneR hD (ve (by rw[List.length_tail];omega)) z n e ?_];rw[q,p];rfl
 .erw[hR h k (by rwa[<- yio,a])]
def ys6(xs:Υ):yc0 xs (some 1) none=xs.tail:=by
 unfold yc0
 have e:HT.sIx xs.length 0 (some 1)=min 1 xs.length:=by
  have:=HT.sIx_nat xs.length 0 1;simpa using this
 rw[HT.sIx_none,e]
 cases xs with
 |nil=>rfl
 |cons x r=>simp
def LkG(H:Hp)(v:V)(kd:Fin 3)(tp:z4)(ps:Ρ):Prop:=∃lk,v=.ref lk/\H lk∪[.str (kdS kd),.ref tp]/\H tp∪(ps.map V.int)/\uz (ps.map V.int)=true
def LkG.same{H H':Hp}{v:V}{kd:Fin 3}{tp:z4}{ps:Ρ}(h:LkG H v kd tp ps)(S:yz H H'):LkG H' v kd tp ps:=by let#[b,e,a,c,d]:=h;erw[b,e,S _ _ a,S _ _ c,d]
def jb{xs:Υ}(h:uz xs=true):xs.length<=4:=by unfold uz at h;rw[cC,cC]at h;erw[of_decide_eq_true h.1.1]
theorem yqq:∀{ps:Ρ},ps.Pairwise (· < ·)->vi0 (ps.map V.int)=true
 |[],_=>rfl
 |[_],_=>rfl
 |p::q::r,h=>by
  have b:p<q:=(List.pairwise_cons.mp h).1 q 's';let a:=yqq (List.pairwise_cons.mp h).2;unfold vi0 at a⊢;simp only[cX,List.tail_cons,List.zipWith_cons_cons,List.all_cons]at a⊢;rw[show ltV (V.int p) (V.int q)=true from cg b];simpa using a
def yjc{ps:Ρ}(h1:ps.length<=4)(h2:∀p∈ps,1<=p/\p<=8)(h3:ps.Pairwise (· < ·)):uz (ps.map V.int)=true:=by unfold uz;rw[bw,cg h1,yqq h3,Bool.true_and,Bool.and_true,List.all_eq_true];intro y b;let#[i,a,J]:=ce.mp b;have:=h2 i a;show (decide (1<=i) && decide (i<=8))=true;rw[cg this.1,cg this.2];rfl
def Lks(H:Hp)(xs:Υ):Prop:=∀y∈xs,∃kd tp ps,LkG H y kd tp ps
theorem LkG.upd{H:Hp}{v:V}{kd:Fin 3}{tp l:z4}{ps:Ρ}{xs ys:Υ}(h:LkG H v kd tp ps)(hl:H l\xs):LkG (L2.upd H l (.lst ys)) v kd tp ps:=by let#[c,e,a,b,d]:=h;erw[c,e,ye (xf a hl 'z') a,ye (xf b hl 'z') b,d]
def vjm(_:z3)(_:Hp)(_:V):Prop:=False
noncomputable def upN{α:Type}(g:Nat->α)(n:Nat)(x:α):Nat->α:=λj=>if j=n then x else g j
def w5{α:Type}{g:Nat->α}{n:Nat}{x:α}:upN g n x n=x:=if_pos J
def wy{α:Type}{g:Nat->α}{n:Nat}{x:α}(h:j<n):upN g n x j=g j:=if_neg ()
def ytq(c:Int):∃kk:Fin 3,atI [V.str "even",V.str "quick",V.str "run"] (c%3)=some (V.str (kdS kk)):=by
 have b:0<=c%3:=dG _ ∅;have a:c%3<3:=dD _ ∅;generalize c%3=z at b a;obtain rfl|rfl|rfl:z=0\/z=1\/z=2:=()
 .erw[0,J]
 .erw[1,J]
 .erw[2,J]
def x9(H:Hp)(n:Nat)(lk:Μ)(kd:Ξ)(tp:Μ)(ps:Λ):Prop:=∀i,i<n->LkG H (.ref (lk i)) (kd i) (tp i) (ps i)
theorem x9.same{H H':Hp}{n:Nat}{lk:Μ}{kd:Ξ}{ps:Λ}(h:x9 H n lk kd tp ps)(S:yz H H'):x9 H' n lk kd tp ps:=λi a=>(h i a).same S
structure Sd(K:z3)(H:Hp)(v:V)(d:PyData)(k:Nat):Prop where
 rd:RdV K H v d
 lay:d.canLay0=true
 dep:d.depth<=k
 eq:PyData.eqv d d=true
structure Sds(K:z3)(H:Hp)(xs:Υ)(ds:qj PyData)(k:Nat):Prop where
 rd:ysv K H xs ds
 lay:PyData.canLayAll0 ds=true
 dep:PyData.depthAll ds<=k
 eq:PyData.eqvAll ds ds=true
theorem Sd.bl{H:Hp}(b:Bool){k:Nat}:Sd K H (.bl b) (.bool b) k:=#[.bl b,by simp[PyData.canLay0],by simp[PyData.depth],by simp[PyData.eqv]]
theorem Sds.nil{H:Hp}{k:Nat}:Sds K H [] [] k:=#[.nil,J,cI _,by simp[PyData.eqvAll]]
theorem Sds.cons{H:Hp}{v:V}{d:PyData}{xs:Υ}{ds:qj PyData}{k:Nat}(h:Sd K H v d k)(r:Sds K H xs ds k):Sds K H (v::xs) (d::ds) k:=by
 erw[.cons h.rd r.rd,by simp[PyData.canLayAll0,h.lay,r.lay],?_,by simp[PyData.eqvAll,h.eq,r.eq]]
 let a:=h.dep;let b:=r.dep;simp only[PyData.depthAll];omega
theorem Sd.lst{H:Hp}{p:z4}{xs:Υ}{ds:qj PyData}{k:Nat}(h:SqL K H p xs)(r:Sds K H xs ds k):Sd K H (.ref p) (.list ds) (k+1):=by
 erw[.lst h r.rd,by simp[PyData.canLay0,r.lay],?_,by simp[PyData.eqv,r.eq]]
 let a:=r.dep;simp only[PyData.depth];omega
def vhn{g:Bool->Bool}{H:Hp}{Q:VK}{x y:V}{d:PyData}{k:Nat}(h1:Sd K H x d k)(h2:Sd K H y d k)(hk:k<=60)(h:Q (.bl (g true)) H):yw7 K g x y H Q:=by
 have a:SeqAt.shaped d=true:=by
  unfold SeqAt.shaped;rwa[cC,#[h1.lay,cg (by have:=h1.dep;omega)]]
 erw[d,d,h1.rd,h2.rd,a,a,by rwa[h1.eq,h]]
end
local macro_rules | `(#synth $n:ident $a $b)=>`(theorem $n : yi $a $a (yd $b):=wb (by decide +kernel)) | `(#synth $n:ident $a $b $c)=>`(theorem $n : yi $a $b (yd $c):=wb (by decide +kernel))
mutual
#synth vix ["thing"] vjt
#synth ∀(K:z3),∀(x n:_)(_:vs=[x])(_:u6 K H x (.type n))(_:Q (.bl (â x)) H),yde
variable(T:Txt K mg a)
def yl1:'v' 1 a.So a.Ta ["thing"] (yde K):=by
 exists T.Hj.F.ok,vix,g;let#[x,n,J,b,k]:=h;exists 1,0,yc (ym (u7 (pcB wq T.A5 (pac (pv 0) (pa1 (j3 (T:="int") J T.Ll 'r')))) (je (vbx (pcB wq T.A5 (pac (pv 0) (pa1 (j3 (T:="bool") J T.Sj 'r'))))))));erw[ĸ b (ywg b) ?_];ext
 cases hx:ypz x with
 |false =>
  have e:â x=false:=by
   cases x<;>first|rfl|cases hx
  rw[e]at k;erw[uo k]
 |true =>
  have e:â x=!yj0 x:=by
   cases x<;>first|rfl|cases hx
  rw[e]at k;erw[j4 ?_,←ĸ b (yov b) ?_,←k]
#synth vho ["thing"] vji
#synth ∀(K:z3),∀(x n:_)(_:vs=[x])(_:u6 K H x (.type n))(_:Q (.bl (Ć x)) H),yh3
def vhd:'v' 2 a.Sq a.Tb ["thing"] (yh3 K):=by
 exists T.Tk.F.ok,vho,g;let#[x,n,J,j,k]:=h;exists 1,0,yc (ym (u7 (xp (yl1 T) g.m T.Hj (pav 0)) (je (Ü ι ι yf (pv 0) yf))));erw[x,n,J,j,?_];ext
 cases hx:â x with
 |false =>
  have e:Ć x=false:=by
   cases x<;>first|rfl|cases hx
  rw[e]at k;erw[uo k]
 |true =>
  let#[i,J]:=ξ hx;erw[j4 ?_,←z9 (λc=>?_) (λc=>?_)]
  .ext;have e:Ć (.int i)=decide (i<=1):=by simp[Ć,c]
   rw[e]at k;erw[k]
  .have e:Ć (.int i)=false:=by simp[Ć,c]
   rw[e]at k;erw[k]
#synth vib ["thing"] vj1
#synth ∀(K:z3),∀(x n:_)(_:vs=[x])(_:u6 K H x (.type n))(_:Q (.bl (chV x)) H),ybd
def via:'v' 2 a.Sr a.Tc ["thing"] (ybd K):=by
 exists T.Tl.F.ok,vib,g;let#[x,n,J,j,k]:=h;exists 1,0,yc (ym (u7 (xp (yl1 T) g.m T.Hj (pav 0)) (je (Ü ι ι (vy J T.D7) (pv 0) (yn zq (vy J T.Ck) (vy J T.D7))))));erw[x,n,J,j,?_];ext
 cases hx:â x with
 |false =>
  have e:chV x=false:=by
   cases x<;>first|rfl|cases hx
  rw[e]at k;erw[uo k]
 |true =>
  let#[i,J]:=ξ hx;erw[j4 ?_,←z9 (λc=>?_) (λc=>?_)]
  .ext;have e:chV (.int i)=decide (i<=16777216-32768):=by simp[chV,c]
   rw[e]at k;erw[k]
  .have e:chV (.int i)=false:=by simp[chV,c]
   rw[e]at k;erw[k]
#synth vic ["thing"] vjh
#synth ∀(K:z3),∀(x n:_)(_:vs=[x])(_:u6 K H x (.type n))(_:Q (.bl (sgV x)) H),ygm
def vhs:'v' 2 a.Ss a.Td ["thing"] (ygm K):=by
 exists T.Tm.F.ok,vic,g;let#[x,n,J,j,k]:=h;exists 1,0,yc (ym (u7 (xp (yl1 T) g.m T.Hj (pav 0)) (je (Ü ι ι yf (pv 0) yf))));erw[x,n,J,j,?_];ext
 cases hx:â x with
 |false =>
  have e:sgV x=false:=by
   cases x<;>first|rfl|cases hx
  rw[e]at k;erw[uo k]
 |true =>
  let#[i,J]:=ξ hx;erw[j4 ?_,←z9 (λc=>?_) (λc=>?_)]
  .ext;have e:sgV (.int i)=decide (i<=255):=by simp[sgV,c]
   rw[e]at k;erw[k]
  .have e:sgV (.int i)=false:=by simp[sgV,c]
   rw[e]at k;erw[k]
#synth vh3 ["thing","most"] vkb
#synth ∀(K:z3),∀(x n m:_)(_:vs=[x,.int m])(_:u6 K H x (.type n))(_:((Bad K H x n m/\∀H',yz H H'->Q (.bl false) H')\/∃xs,vgt K H x xs m/\∀H',yz H H'->Q (.bl true) H')),yyu
def ywr:'v' 3 a.Su a.Te ["thing","most"] (yyu K):=by
 exists T.Lr.F.ok,vh3,W;let#[x,n,m,J,I,h]:=h
 have G:(n≠"list"/\∀d,yz H d->Q (.bl false) d)\/∃p xs,x=.ref p/\H p\xs/\yo2 K H xs/\xs.length<=100000/\∀d,yz H d->Q (.bl (decide ((xs.length:Int)<=m) && xs.all sgV)) d:=by
  rcases h with⟨h|⟨p,xs,e,c,t,l,u⟩,k⟩|⟨xs,⟨p,e,c,t,l,u⟩,k⟩
  .erw[.inl #[h,k]]
  .erw[.inr #[p,xs,e,c,t,l,λd S=>by rwa[u,k d S]]]
  .erw[.inr #[p,xs,e,c,t,l,λd S=>by rwa[u,k d S]]]
 exists 2,0,yc (ym (u7 (pcB wq T.A5 (pac (pv 0) (pa1 (j3 (T:="list") J T.Aq 'r')))) (u7 (xm ι (pcB yr T.A9 (pav 0)) (pv 1) (yw _)) (je (pcB (zx J) T.D1 (pa1 (vt (js:=[]) (ys:=[]) J (wg (pv 0)) (λC Z H2 Y=>(xp (vhs T) W.m T.Tm (pav 0))) J J (hyc:=yu) (hrel:=yu))))))));erw[ĸ I (yvw I) ?_];ext;rcases G with⟨ς,k⟩|⟨p,xs,rfl,c,X,l,k⟩
 .erw[ycv ς ?_];ext;erw[k _ (yz.refl _)]
 .have ς:n="list":=by
   cases I with
   |lst e=>rfl
   |frz e=>rfl
   |tup e=>rw[c]at e;cases e
   |dK e=>rw[c]at e;cases e
   |dT e=>rw[c]at e;cases e
  erw[ō ς ?_,←zd (SqL.of c) ?_,←z9 (λL=>?_) (λL=>?_)]
  .rw[cg L,Bool.true_and]at k;ext;erw[p,J,#[_,SqL.of c],λD v=>?_];have nD:p≠D:=yb c v;refine jd (K:=K) (a:=p) (xs:=xs) (λi g=>g D\(((xs.take i).map sgV).map V.bl)/\yz H g)
    #[ya,y7 v] (λi g F q=>SqL.of (q.2 _ _ c)) ?_ ?_
   .rintro i y g N r ⟨f,j⟩;ext;let#[O,M]:=X y (cz N);erw[y,O,J,yzv j M,?_];refine xh f (by rwa[bw,bw,cG,yn8 ()]) r #[ya.trans ?_,λb o e=>ye (λz=>?_) (j _ _ e)]
    .rw[List.take_succ,N];simp
    .subst z;rw[v]at e;cases e
   .rintro g ⟨f,j⟩;ext;erw[D,_,J,SqL.of f,?_];rwa[db (cc _),List.all_map,k _ j]
  .rw[cj L,Bool.false_and]at k;ext;erw[k _ (yz.refl _)]
#synth vii ["thing"] vjs
def yo7:'e' 4 a.Sv a.Tf ["thing"] (ő K a.Lp 1000):=by
 exists T.Ju.F.okE,vii,o;let#[x,n,J,t,h]:=h;exists 1,0,yh (vj (xn (xo (xp (ywr T) o.m T.Lr (pac (pv 0) (pa1 (vy J T.Cl)))))) (yc (xa J T.Ul T.Ur (pa1 y8))) yq) (yc (ym (pcT xk T.Aq (pav 0))));erw[x,n,_,J,t,?_];rcases h with⟨q,k⟩|⟨e,f,k⟩
 .erw[.inl #[q,λl c=>?_]];ext;exists 'l',k _ c
 .erw[.inr #[e,f,λl c=>?_]];let#[p,J,i,_]:=f;ext;erw[p,e,J,.inl (SqL.of (c _ _ i)),λr b=>?_,<-k r _ (c.free b) ya (c.trans (y7 b))]
#synth vhe ["thing"] vj9
def vhc:'e' 4 a.Sw a.Tg ["thing"] (ő K a.Iz 12000):=by
 exists T.Tn.F.okE,vhe,o;let#[x,n,J,t,h]:=h;exists 1,0,yh (vj (xn (xo (xp (ywr T) o.m T.Lr (pac (pv 0) (pa1 (vy J T.Cm)))))) (yc (xa J T.Um T.Us (pa1 y8))) yq) (yc (ym (pcT xk T.Aq (pav 0))));erw[x,n,_,J,t,?_];rcases h with⟨q,k⟩|⟨e,f,k⟩
 .erw[.inl #[q,λl c=>?_]];ext;exists 'l',k _ c
 .erw[.inr #[e,f,λl c=>?_]];let#[p,J,i,_]:=f;ext;erw[p,e,J,.inl (SqL.of (c _ _ i)),λr b=>?_,<-k r _ (c.free b) ya (c.trans (y7 b))]
#synth vhx ["thing"] vj0
noncomputable def yw4:V->Bool
 | .int i=>decide (0<=i) && decide (i<=1000)
 |_=>false
def yxt{m:Nat}(h:m<=1000):yw4 (.int m)=true:=by show (decide ((0:Int)<=m) && decide ((m:Int)<=1000))=true;rw[cg (),cg ()];rfl
#synth ∀(K:z3)(C:z4),∀(x n:_)(_:vs=[x])(_:u6 K H x (.type n))(_:(yw4 x=true->Q .non H))(_:(yw4 x=false->E (.ref C) none H)),ynd
def vhh:'e' 2 a.Sy a.Th ["thing"] (ynd K a.Bj):=by
 exists T.Tp.F.okE,vhx,l;let#[x,n,J,o,g,b]:=h;exists 1,0,yc (vj (PW.pt (ü (xn (xo (xp (yl1 T) l.m T.Hj (pav 0)))) (à (xn (ye7 ι ι yf (pv 0) (vy J T.Cl)))))) (yc (xa J T.Lh T.Lj (pa1 y8))) yq);erw[x,n,J,o,?_];ext
 cases hx:â x with
 |false =>
  have e:yw4 x=false:=by
   cases x<;>first|rfl|cases hx
  ext;exists 'l',b e
 |true =>
  let#[i,J]:=ξ hx;ext;erw[z9 (λf=>?_) (λf=>?_)]
  .ext;refine ypf (λc=>?_) (λc=>?_)
   .ext;erw[g (by simp[yw4,f,c])]
   .ext;exists 'l',b (by simp[yw4,c])
  .ext;exists 'l',b (by simp[yw4,f])
#synth vhk ["thing"] vju
#synth ∀(K:z3)(C:z4),∀(x n:_)(_:vs=[x])(_:u6 K H x (.type n))(_:(chV x=true->Q .non H))(_:(chV x=false->E (.ref C) none H)),Ē
def yww:'e' 3 a.Sz a.Ti ["thing"] (Ē K a.G6):=by
 exists T.Ls.F.okE,vhk,g;let#[x,n,J,i,c,e]:=h;exists 1,0,yc (vj (xn (xo (xp (via T) g.m T.Tl (pav 0)))) (yc (xa J T.Uo T.Ut (pa1 y8))) yq);erw[x,n,J,i,?_];ext
 cases hx:chV x with
 |false =>
  ext;exists 'l',e hx
 |true =>
  ext;erw[c hx]
#synth yzb ["thing"] ve1
#synth ∀(K:z3)(C:z4),∀(x n:_)(_:vs=[x])(_:u6 K H x (.type n))(_:(Ć x=true->Q .non H))(_:(Ć x=false->E (.ref C) none H)),ybo
def Ķ:'e' 3 a.Ly a.Og ["thing"] (ybo K a.Bk):=by
 exists T.Cz.F.okE,yzb,g;let#[x,n,J,i,c,e]:=h;exists 1,0,yc (vj (xn (xo (xp (vhd T) g.m T.Tk (pav 0)))) (yc (xa J T.Up T.Uu (pa1 y8))) yq);erw[x,n,J,i,?_];ext
 cases hx:Ć x with
 |false =>
  ext;exists 'l',e hx
 |true =>
  ext;erw[c hx]
#synth yxi ["chance","bit"] vef
#synth ∀(K:z3)(C D:z4),∀(x n y m:_)(_:vs=[x,y])(_:u6 K H x (.type n))(_:u6 K H y (.type m))(_:(chV x=false->E (.ref C) none H))(_:(chV x=true->Ć y=false->E (.ref D) none H))(_:(∀c b,x=.int c->y=.int b->chV x=true->Ć y=true->Q (.int (gvv c b)) H)),yml
def yqi:'e' 4 a.Lz a.Oh ["chance","bit"] (yml K a.G6 a.Bk):=by
 exists T.Jv.F.okE,yxi,i;let#[x,n,y,m,J,r,t,j,o,q]:=h;exists 2,0,yh (yy (uh (yww T) i.m T.Ls yt (pav 0))) (yh (yy (uh (Ķ T) i.m T.Cz yt (pav 1))) (yc (ym (jq (yp w6 (pv 1) yf (yw _)) (pv 0) (yn zq (vy J T.Ck) (pv 0))))));erw[x,n,J,r,λf=>?_,j,←y,m,J,t,λg=>?_,o f];let#[c,J,B,u]:=ydw f;let#[b,J,v,z]:=yew g;ext;let k:=q c b J J f g;unfold gvv at k;erw[z9 (λe=>?_) (λe=>?_)]
 .rw[if_pos e]at k;ext;erw[k]
 .rw[if_neg e]at k;ext;erw[k]
#synth vcv ["self"] ven
def yxe:'v' 1 a.Hr a.Oi ["self"] (yas a.Ag (Å (.int 0) (.int 0))):=by exists T.R5.F.ok,vcv,g;let#[p,e,J,f,k]:=h;exists 1,0,yh (vg (pv 0) yf J) (yc (vg (pv 0) yf J));erw[k _ ya (But.upd.trans But.upd)]
#synth vav ["self"] vfd
def yzl:'v' 1 a.M0 a.Oj ["self"] (zf (oS a) vgy):=by
 exists T.Jw.F.ok,vav,m;let#[p,d,g,J,e,j,c,k]:=h
 cases g with
 |ev n o =>
  let#[q,l,r]:=j;have c:H p∩a.Ag d (Å (.int n) (.int o)):=c;exists 1,0,yc (ym (yn vk (yn w4 (yn v9 (yn w4 yf pfs) yf) (vy J T.Ck)) (yn v9 (yn w4 yf (yn v9 pfs pfs)) yf)));erw[k]
 |qk _=>erw[e.elim]
 |rn _ _=>erw[e.elim]
#synth vcd ["self","bit"] vc7
def yzx:'e' 4 a.M4 a.Ol ["self","bit"] (υ K (oS a) vgy a.Bk):=by
 exists T.Jx.F.okE,vcd,y;let#[p,i,l,x,r,J,f,B,g,z,j,D]:=h
 cases l with
 |ev n o =>
  let#[I,G,ς]:=B;have g:H p∩a.Ag i (Å (.int n) (.int o)):=g;exists 2,0,yh (yy (uh (Ķ T) y.m T.Cz yt (pav 1))) (yh (vj (yp w6 (pv 1) yf (yw _)) (yc (vg (pv 0) (yn v9 pfs yf) J)) (yc (vg (pv 0) (yn v9 pfs yf) J))) (yc (vj (yp yhj (yn v9 pfs pfs) (vy J T.Bt) (yw _)) (yh (vg (pv 0) (yn vk (yn v9 pfs yf) yf) J) (yc (vg (pv 0) (yn vk (yn v9 pfs yf) yf) J))) yq)));erw[x,r,J,z,λC=>?_,D];let#[b,J,u,q]:=yge C;let k:=j b J u q;unfold Slt.see at k;dsimp only at k;ext;erw[z9 (λd=>?_) (λd=>?_)]
  .rw[if_pos d]at k;unfold yeg at k;ext;refine z9 (λc=>?_) (λc=>?_)
   .rw[if_pos c]at k;ext;erw[k _ ya ((But.upd.trans But.upd).trans But.upd)]
   .rw[if_neg c]at k;ext;erw[k _ ya But.upd]
  .rw[if_neg d]at k;unfold yeg at k;ext;refine z9 (λc=>?_) (λc=>?_)
   .rw[if_pos c]at k;ext;erw[k _ ya ((But.upd.trans But.upd).trans But.upd)]
   .rw[if_neg c]at k;ext;erw[k _ ya But.upd]
 |qk _=>erw[f.elim]
 |rn _ _=>erw[f.elim]
#synth yxv ["self"] vfr
def yy7:'v' 1 a.Hs a.Om ["self"] (yas a.Ae (jv (.int 8388608))):=by exists T.R6.F.ok,yxv,g;let#[p,e,J,f,k]:=h;exists 1,0,yc (vg (pv 0) (yn vk (vy J T.Ck) yf) J);erw[k _ ya But.upd]
#synth yxw ["self"] vga
def yy8:'v' 1 a.M5 a.On ["self"] (zf (oS a) vg2):=by
 exists T.Jy.F.ok,yxw,j;let#[p,d,g,J,e,l,c,k]:=h
 cases g with
 |qk h0 =>
  have c:H p∩a.Ae d (jv (.int h0)):=c;exists 1,0,yc (ym pfs);erw[k]
 |ev _ _=>erw[e.elim]
 |rn _ _=>erw[e.elim]
#synth ylm ["self","bit","moved"] ["self","bit"] vdw
def yyy:'e' 4 a.M6 a.Oo ["self","bit"] (υ K (oS a) vg2 a.Bk):=by
 exists T.Jz.F.okE,ylm,u;let#[p,g,j,x,o,J,e,y,f,v,i,B]:=h
 cases j with
 |qk h0 =>
  let#[D,C]:=y;have f:H p∩a.Ae g (jv (.int h0)):=f;exists 2,1,yh (yy (uh (Ķ T) u.m T.Cz yt (pav 1))) (yh (vj (yp w6 (pv 1) yf (yw _)) (yc (pst 2 ylm.nd (yn v9 pfs (yn vk (yn zq (vy J T.Ck) pfs) yf)))) (yc (pst 2 ylm.nd (yn zq pfs (yn vk pfs yf))))) (yc (vg (pv 0) (pcB (ĝ J) T.Lm (pac (pcB (Ĥ J) T.Ln (pac (pv 2) (pa1 (vy J T.D7)))) (pa1 (yn zq (vy J T.Ck) (vy J T.D7))))) J)));erw[x,o,J,v,λz=>?_,B];let#[b,J,r,l]:=yge z;let k:=i b J r l;unfold Slt.see at k;dsimp only at k;ext;erw[z9 (λc=>?_) (λc=>?_)]
  .rw[if_pos c]at k;ext;erw[_,_,J,?_,←_,_,J,?_,←k _ ya But.upd]
  .rw[if_neg c]at k;ext;erw[_,_,J,?_,←_,_,J,?_,←k _ ya But.upd]
 |ev _ _=>erw[e.elim]
 |rn _ _=>erw[e.elim]
#synth va6 ["self"] ve4
def vb2:'v' 1 a.Ht a.Op ["self"] (yas a.Ap (Ō (.int 1) (.int 0))):=by exists T.R7.F.ok,va6,g;let#[p,e,J,f,k]:=h;exists 1,0,yh (vg (pv 0) yf J) (yc (vg (pv 0) yf J));erw[k _ ya (But.upd.trans But.upd)]
#synth yry ["self","given"] ["self"] veb
def yz0:'v' 1 a.M7 a.Oq ["self"] (zf (oS a) vgx):=by
 exists T.K1.F.ok,yry,r;let#[p,e,i,J,f,m,d,k]:=h
 cases i with
 |rn l n =>
  let#[t,o,u,q]:=m;have d:H p∩a.Ap e (Ō (.int l) (.int n)):=d;exists 1,1,yh (pst 1 yry.nd (yn vk (yn w4 (yn v9 (yn w4 yf pfs) yf) (vy J T.Ck)) (yn v9 (yn w4 yf pfs) yf))) (yc (ym (jq (yp w6 pfs yf (yw _)) (pv 1) (yn zq (vy J T.Ck) (pv 1)))));have k:Q (.int (if l=1 then Ă n else 16777216-Ă n)) H:=k;erw[z9 (λc=>?_) (λc=>?_)]
  .rw[if_pos c]at k;ext;erw[k]
  .rw[if_neg c]at k;ext;erw[k]
 |ev _ _=>erw[f.elim]
 |qk _=>erw[f.elim]
#synth yy6 ["self","bit"] vfe
def vbh:'e' 4 a.M8 a.Os ["self","bit"] (υ K (oS a) vgx a.Bk):=by
 exists T.K2.F.okE,yy6,v;let#[p,g,j,x,q,J,e,z,f,y,i,C]:=h
 cases j with
 |rn l n =>
  let#[I,D,ς,G]:=z;have f:H p∩a.Ap g (Ō (.int l) (.int n)):=f;exists 2,0,yh (yy (uh (Ķ T) v.m T.Cz yt (pav 1))) (yc (vj (yp w6 (pv 1) pfs (yw _)) (yc (vg (pv 0) (pcB (ĝ J) T.Lm (pac (yn v9 pfs yf) (pa1 (vy J T.Bt)))) J)) (yh (vg (pv 0) (pv 1) J) (yc (vg (pv 0) yf J)))));erw[x,q,J,y,λB=>?_,C];let#[b,J,t,o]:=yge B;let k:=i b J t o;unfold Slt.see at k;dsimp only at k;ext;erw[z9 (λc=>?_) (λc=>?_)]
  .rw[if_pos c]at k;ext;erw[_,_,J,?_,←k _ ya But.upd]
  .rw[if_neg c]at k;ext;erw[k _ ya (But.upd.trans But.upd)]
 |ev _ _=>erw[e.elim]
 |qk _=>erw[e.elim]
#synth yxo ["kind"] vdf
#synth ∀(a:Ads),∀(k:Fin 3)(_:vs=[.str (kdS k)])(_:∀p dx H',H p=none->H' p=some (oS a dx (kd0 k))->yz H H'->Q (.ref p) H'),ygo
def vco:'v' 3 a.M9 a.Ot ["kind"] (ygo a):=by
 exists T.R8.F.ok,yxo,l;let#[t,J,k]:=h;exists 1,0,yh (vj (yp w6 (pv 0) y8 (yw _)) (yc (ym (Ø T.Se (yxe T) l.m J T.Sc T.R5.B .nil vv))) yq) (yh (vj (yp w6 (pv 0) y8 (yw _)) (yc (ym (Ø T.Lu (yy7 T) l.m J T.Lt T.R6.B .nil vv))) yq) (yh (vj (yp w6 (pv 0) y8 (yw _)) (yc (ym (Ø T.Tz (vb2 T) l.m J T.Ty T.R7.B .nil vv))) yq) (yc za)));erw[J,?_]
 match t with
 |0 =>
  erw[_,J,ō J ?_];ext;intro p g f d q;erw[p,g,J,ya,λi c j=>#[J,?_],<-k p g i f c λb o e=>j b o (by rwa[yk (yb e f),yk (yb e d),e]) (yb e f)]
 |1 =>
  erw[_,J,ycv (by intro z;injection z with z;revert z;decide+kernel) ?_,←J,?_,<-_,J,ō J ?_];ext;intro p g f d q;erw[p,g,J,ya,λi c j=>#[J,?_],<-k p g i f c λb o e=>j b o (by rwa[yk (yb e f),yk (yb e d),e]) (yb e f)]
 |2 =>
  erw[_,J,ycv (by intro z;injection z with z;revert z;decide+kernel) ?_,←J,?_,<-_,J,ycv (by intro z;injection z with z;revert z;decide+kernel) ?_,←J,?_,<-_,J,ō J ?_];ext;intro p g f d q;erw[p,g,J,ya,λi c j=>#[J,?_],<-k p g i f c λb o e=>j b o (by rwa[yk (yb e f),yk (yb e d),e]) (yb e f)]
#synth ykz ["number","size","places"] ["number","size"] vfl
#synth ∀(n:Int)(k:Nat)(_:vs=[.int n,.int k])(_:k<=100000)(_:∀t H',H t=none->H' t\((wr k n).map V.int)->yz H H'->Q (.ref t) H'),yha
def yp0:'v' 1 a.Ma a.Ou ["number","size"] yha:=by
 exists T.K4.F.ok,ykz,D;let#[n,d,J,z,k]:=h;exists 2,1,yh (pst 2 ykz.nd (wk u8)) (yh (ψ PassesOwn.never (yp ycu (pcB yr T.A9 (pav 2)) (pv 1) (yw _)) (yh (yy ('u' (pv 2) (pa1 (yn xg (pv 0) yf)))) (yc (pst 0 ykz.nd (yn vk (pv 0) yf))))) (yh (yy (yci PySem.F.plainAttrs_list PySem.F.slot_list_reverse PySem.F.type_list_reverse Ř (pv 2))) (yc (ym (pv 2)))));exists 'l',λt i=>?_
 ext;erw[λm σ' r=>∃(f:Int)(c:Ρ),σ'=[some (.int f),some (.int d),some (.ref t)]/\r t\(c.map V.int)/\yz H r/\c++lo (d-c.length) f=lo d n/\c.length<=d/\m=d-c.length,#[_,n,[],J,ya,y7 i,J,cI _,J],?_];rintro m σ2 B ⟨f,c,rfl,g,q,j,C,rfl⟩;ext;erw[zd (SqL.of g) ?_];rw[bw];ext;erw[z9 (λy=>?_) (λy=>?_)]
 .erw[ycn ?_];ext;erw[jj g ?_,←xx g (by rwa[bw,ve ()]) ?_];ext;exists _,?_,f/256,c++[f%256],J,(ya.trans (by rw[ym4])),λb o e=>?_,?_,?_,rfl
  .rw[bY];show d-(c.length+1)<d-c.length;omega
  .rw[yk (yb e i)];erw[q b o e]
  .have l:d-c.length=d-(c++[f%256]).length+1:=by
    rw[bY];show d-c.length=d-(c.length+1)+1;omega
   rw[l]at j;rw[<- j,cJ];rfl
  .rw[bY];show c.length+1<=d;omega
 .ext;have l:d-c.length=0:=()
  rw[l]at j;have x:c=lo d n:=by rw[<- j];simp[lo]
  erw[jj g ?_,<-yby g ?_,←k t _ i ?_ λb o e=>?_]
  .rw[ya,ysy,x];rfl
  .rw[yk (yb e i)];erw[q b o e]
#synth vaq ["low","unit"] vc4
#synth ∀(l e:Int)(_:vs=[.int l,.int e])(_:0<e)(_:e<2^63)(_:Q (.int (blk l e)) H),Ŀ
def yqb:'v' 1 a.Mb a.Ov ["low","unit"] Ŀ:=by exists T.K5.F.ok,vaq,g;let#[l,e,J,i,f,k]:=h;exists 2,0,yc (ym (yn vk (yn zq (yn v9 (pv 0) (pv 1)) yf) (pv 1)));erw[k]
#synth vcp ["self"] vgo
#synth ∀(C:z4),∀(p dx:z4)(_:vs=[.ref p])(_:H p∩C dx [])(_:∀H',H' p∩C dx (ν s0)->But p H H'->Q .non H'),yuf
def yrx:'v' 1 a.Hu a.Ow ["self"] (yuf a.A8):=by
 exists T.K6.F.ok,vcp,j;let#[p,c,J,g,k]:=h;exists 1,0,yh (vg (pv 0) yf J) (yh (vg (pv 0) (vy J T.E7) J) (yc (vg (pv 0) (vy J T.Er) J)));erw[p,_,c,_,J,g,T.Ai,T.Bz,by show 0<1000;decide,?_]
 ext;erw[p,_,c,_,J,ya,T.Ai,T.Bd,by show 1<1000;decide,?_]
 ext;erw[p,_,c,_,J,ya,T.Ai,T.Bp,by show 2<1000;decide,?_]
 have e:ω "size" (.int 5) (ω "width" (.int 1099511627776) (ω "low" (.int 0) []))=ν s0:=by
  rw[wv,wa nLW wv,wa nLS (wa nWS wv)];rfl
 erw[k _ (ya.trans (congrArg (λl=>some (HO.ins a.A8 c l)) e)) λb o h n=>?_];rwa[yk n,yk n,yk n,h]
#synth vau ["self","chance"] vgc
#synth ∀(C:z4),∀(p dx:z4)(x:Sn)(c:Int)(_:vs=[.ref p,.int c])(_:H p∩C dx (ν x))(_:Ch c)(_:Q (.int (cut x.2.1 c)) H),va5
def yrt:'v' 1 a.Mc a.Ox ["self","chance"] (va5 a.A8):=by exists T.Fd.F.ok,vau,j;let#[p,f,x,c,J,g,#[l,i],k]:=h;exists 2,0,yc (ym (yn vk (yn w4 pfs (pv 1)) (vy J T.Ck)));erw[k]
#synth yqz ["self","chance","bit","cut"] ["self","chance","bit"] vdq
#synth ∀(K:z3)(C Nc Nb:z4),∀(p dx:z4)(x:Sn)(vc vb:V)(n m:String)(_:vs=[.ref p,vc,vb])(_:H p∩C dx (ν x))(_:Ok x)(_:u6 K H vc (.type n))(_:u6 K H vb (.type m))(_:(chV vc=false->E (.ref Nc) none H))(_:(chV vc=true->Ć vb=false->E (.ref Nb) none H))(_:∀c b:Int,vc=.int c->vb=.int b->Ch c->0<=b->b<=1->∀H',H' p∩C dx (ν (nar x c b))->But p H H'->Q .non H'),yi7
def ypn:'e' 4 a.Md a.Oy ["self","chance","bit"] (yi7 K a.A8 a.G6 a.Bk):=by
 exists T.Fe.F.okE,yqz,o;let#[p,g,x,I,v,n,m,J,D,G,N,Z,ς,k2,k]:=h;erw[_,(yh (yy (uh (yww T) o.m T.Ls yt (pav 1))) (yh (yy (uh (Ķ T) o.m T.Cz yt (pav 2))) (yh (pst 3 yqz.nd (ww (pv 0) T.Ai T.Fd.m (yrt T) o.m T.Fd.B .nil vv (pav 1))) (yh (Ã (vj (yp w6 (pv 2) yf (yw _)) (yc (vg (pv 0) (pv 3) J)) (yh (vg (pv 0) (yn v9 pfs (pv 3)) J) (yc (vg (pv 0) (yn zq pfs (pv 3)) J))))) (yc (PS.nox (ψ PassesOwn.never (yp ycu pfs (vy J T.E8) (yw _)) (yh (vg (pv 0) (yn w4 pfs yf) J) (yh (vg (pv 0) (yn w4 pfs yf) J) (yc (vg (pv 0) (yn v9 pfs yf) J))))))))))),?_];exists 3,1;let t:=G.w0;let q:=G.w1;ext;erw[I,n,J,N,λf=>?_,ς,←v,m,J,Z,λi=>?_,k2 f];let#[c,J,X,c2]:=ydw f;let#[b,J,R,L]:=yew i;have u:Ch c:=#[X,c2];let k:=k c b J J u R L;ext;erw[p,g,_,J,D,lkN _ 'r' 'r' 'r',?_,←p,g,x,c,J,D,u,?_];ext;let#[a1,a2,W]:=ŧ t q u;erw[ypa (λσ' e=>∃y:Sn,σ'=[some (.ref p),some (.int c),some (.int b),some (.int (cut x.2.1 c))]/\e p∩a.A8 g (ν y)/\8388608<=y.2.1/\y.2.1<=1099511627776/\ren y.1 y.2.1 y.2.2=nar x c b/\But p H e) ?_ ?_]
 .ext;refine z9 (λd=>?_) (λd=>?_)
  .ext;erw[_,J,ya,a1,Int.le_of_lt W,?_,But.upd];unfold nar
   (rw[if_pos d])<;>rfl
  .ext;exists _,J,ya,a2,?_,?_,But.upd.trans But.upd
   .show x.2.1-cut x.2.1 c<=_;omega
   .unfold nar
    (rw[if_neg d])<;>rfl
 .rintro σ' e ⟨y,rfl,j,M,y2,S,y4⟩;ext;erw[λm σ' e=>∃y:Sn,σ'=[some (.ref p),some (.int c),some (.int b),some (.int (cut x.2.1 c))]/\e p∩a.A8 g (ν y)/\8388608<=y.2.1/\y.2.1<=1099511627776/\ren y.1 y.2.1 y.2.2=nar x c b/\But p H e/\m=(4294967296-y.2.1).toNat,#[_,y,J,j,M,y2,S,y4,J],?_];rintro m σ2 H2 ⟨z,rfl,Y,U,z2,r,C,rfl⟩;ext;refine z9 (λd=>?_) (λd=>?_)
  .erw[ycn ?_];ext;exists _,?_,(z.1*256,z.2.1*256,z.2.2+1),J,ya,?_,?_,(ymm d U).trans r,((C.trans But.upd).trans But.upd).trans But.upd,rfl
   .show (4294967296-z.2.1*256).toNat<(4294967296-z.2.1).toNat;omega
   .show 8388608<=z.2.1*256;omega
   .show z.2.1*256<=1099511627776;omega
  .rw[yuw d]at r;erw[k _ ?_ C];rwa[<- r,Y]
#synth yxz ["self","unit"] vdu
#synth ∀(C:z4),∀(p dx:z4)(x:Sn)(j:Nat)(_:vs=[.ref p,.int (pw j)])(_:H p∩C dx (ν x))(_:j<=6)(_:Q (.bl (decide (hold x.1 x.2.1 j))) H),ymp
def yyv:'v' 2 a.Me a.Oz ["self","unit"] (ymp a.A8):=by
 exists T.K7.F.ok,yxz,f;let#[p,g,x,j,J,l,e,k]:=h;erw[_,(yc (ym (xm ι (yn w4 (yn v9 (xp (yqb T) f.m T.K5 (pac pfs (pav 1))) yf) (pv 1)) (yn v9 pfs pfs) (yw _)))),?_];exists 2,0;let n:=yem e;let i:=ul j;ext;erw[_,_,J,i,(),?_]
 ext;erw[k]
#synth yco ["self","unit","size"] ["self"] vfm
#synth ∀(C:z4),∀(p dx:z4)(x:Sn)(_:vs=[.ref p])(_:H p∩C dx (ν x))(_:OkS x)(_:sz x<=100000)(_:∀t H',H t=none->H' t\((tL x).map V.int)->yz H H'->Q (.ref t) H'),yvc
def ypk:'v' 3 a.Mf a.P1 ["self"] (yvc a.A8):=by
 exists T.Ff.F.ok,yco,e;let#[p,i,x,J,l,f,z,k]:=h;exists 1,2,yh (pst 1 yco.nd yf) (yh (pst 2 yco.nd pfs) (yh (ψ PassesOwn.never (xo (ww (pv 0) T.Ai T.K7.m (yyv T) e.m T.K7.B .nil vv (pa1 (yn w4 (pv 1) yf)))) (yh (pst 1 yco.nd (yn w4 (pv 1) yf)) (yc (pst 2 yco.nd (yn zq (pv 2) yf))))) (yc (ym (xp (yp0 T) e.m T.K4 (pac (xp (yqb T) e.m T.K5 (pac pfs (pav 1))) (pav 2)))))));erw[λm σ' t=>t=H/\∃j:Nat,σ'=[some (.ref p),some (.int (pw j)),some (.int (x.2.2-j))]/\j<=5/\tel x.1 x.2.1 (5-j) j=tK x/\m=6-j,#[_,J,0,by simp[pw],∅,J,J],?_];rintro m σ2 D ⟨rfl,j,rfl,G,n,rfl⟩;let y:=yem (show j<=6 by omega);let u:=ul j;ext;erw[p,i,_,J,l,lkN _ 'r' 'r' 'r',?_,←p,i,x,j+1,J,l,(),?_]
 ext;erw[z9 (λb=>?_) (λb=>?_)]
 .erw[ycn ?_];ext;let q:=yk6 f.ok.w1 b;exists _,?_,J,j+1,?_,q,?_,rfl
  .show 6-(j+1)<6-j;omega
  .have g:x.2.2-(j:Int)-1=x.2.2-((j+1:Nat):Int):=()
   rw[g];rfl
  .rw[ymf b,<- n]
   congr 1
   omega
 .have d:j=tK x:=by rw[<- n,yue b]
  subst d;ext;erw[_,_,J,u,(),?_]
  ext;let C:=f.sz;let v:=(yo9 f).2;have g:x.2.2-(tK x:Int)=((sz x-tK x:Nat):Int):=()
  rwa[g,#[_,_,J,(),k]]
#synth va2 ["thing"] vdo
#synth ∀(kd:_)(_:vs=[.str (kdS kd)])(_:Q (.bl true) H),ygn
def yyi:'v' 1 a.Mg a.P4 ["thing"] ygn:=by
 exists T.R9.F.ok,va2,f;let#[c,J,k]:=h;exists 1,0,yc (ym (u7 (pcB wq T.A5 (pac (pv 0) (pa1 (j3 (T:="str") J T.Ft 'r')))) (je (xm ħ (pv 0) (δ J T.Eu) (by with_unfolding_all rfl)))));erw[ĸ (.str _) J ?_,←a.Ba,_,J,.inr (T.w_KINDS H),J,J,?_]
 match c with
 |0=>erw[k]
 |1=>erw[k]
 |2=>erw[k]
#synth vbi ["thing"] vfk
#synth ∀(i:Int)(_:vs=[.int i])(_:1<=i)(_:i<=8)(_:Q (.bl true) H),yc5
def vbf:'v' 2 a.Mh a.P5 ["thing"] yc5:=by exists T.Ra.F.ok,vbi,f;let#[i,J,g,e,k]:=h;exists 1,0,yc (ym (u7 (xp (yl1 T) f.m T.Hj (pav 0)) (je (Ü ι ι yf (pv 0) (vy J T.Gk)))));erw[.int i,"int",J,.int _,?_,←j4 ?_,←ō g ?_];ext;rwa[cg e,k]
def vhf{H:Hp}{t:z4}{xs:Υ}{Q:VK}(ht:H t∪xs)(k:∀u H3,yz H H3->H3 u∪xs.tail->Q (.ref u) H3):vj3 K (.ref t) (some 1) none H Q\/vet K (.ref t) (some 1) none H Q:=by
 cases xs with
 |nil=>erw[.inr #[t,[],J,SqT.of ht,#[J,J],k t H (yz.refl _) ht]]
 |cons x r =>
  erw[.inl #[t,_,J,SqT.of ht,?_,λu b=>?_]]
  .rintro ⟨z,_⟩;let a:=HT.sIx_nat (x::r).length 0 1;rw[show ((1:Nat):Int)=1 from rfl]at a;rw[a]at z;simp at z
  .rw[ys6];erw[k u _ (y7 b) ya]
#synth va8 ["thing"] vf3
#synth ∀(t xs:_)(_:vs=[.ref t])(_:H t∪xs)(_:uz xs=true)(_:∀H',yz H H'->Q (.bl true) H'),Ŭ
def vcw:'v' 3 a.Mi a.P6 ["thing"] Ŭ:=by
 exists T.Rb.F.ok,va8,W;let#[t,xs,J,l,f,k]:=h;unfold uz at f;rw[cC,cC,List.all_eq_true]at f;let#[#[ς,f],N]:=f;let ς:=of_decide_eq_true ς;have p:∀y∈xs,∃i:Int,y=.int i:=λy X=>let ⟨i,e,_⟩:=yki (f y X);#[i,e];exists 1,0,yh (vj (PW.pt (ü (xn (xo (pcB wq T.A5 (pac (pv 0) (pa1 (j3 (T:="tuple") J T.D6 'r')))))) (ü (yp yhj (pcB yr T.A9 (pav 0)) (vy J T.E9) (yw _)) (à (xn (xo (pcB (zx J) T.D1 (pa1 (vt (js:=[]) (ys:=[]) J (yfv (pv 0)) (λC I r B=>(xp (vbf T) W.m T.Ra (pav 0))) J J (hyc:=yu) (hrel:=yu)))))))))) (yc (ym uk)) yq) (yc (ym (pcB (zx J) T.D1 (pa1 (yah (js:=[]) (ys:=[]) (xs:=["near","far"]) (g:=yw2 K 2 (zw (xi 0) (zw (xi 1) yl4))) J (ywj J T.Lo (pac (pv 0) (pa1 (x8 (yzp.or ywc) (pv 0) (ut yf) zj)))) (λC I r B=>(xm ycu (pv 0) (pv 1) (yw _))) J (λC I r B=>Ţ J (xw (vz (i:=0) (show List.Nodup ((["near","far"]:Τ)++([]:Τ)) by right) J (Or.inl J)) (xw (vz (i:=1) (show List.Nodup ((["near","far"]:Τ)++([]:Τ)) by right) J (Or.inl J)) ö))) J (hyc:=yu) (hrel:=yu))))));erw[ĸ (.tup l) J ?_,←yrg (SqT.of l) ?_,←ycv () ?_,←t,J,#[_,SqT.of l],λD G=>?_,<-yjf (xs:=xs) (λF=>.bl true) (SqT.of l) G (λi y r o q b=>?_) (λr q b=>?_)]
 .let#[c,J,S,M]:=yki (f y (cz o));ext;erw[c,J,S,M,?_,<-Mp.done G (ve ()) o q b J]
 have e:xs.map (λF=>V.bl true)=(xs.map λF=>true).map V.bl:=by rw[cL];rfl
 rw[e]at b;ext;erw[D,_,J,SqL.of b,?_];rw[show (xs.map λF=>true).all id=true by simp];let d:=q _ _ l;ext;erw[vhf d λu Z z L=>?_,<-t,u,J,#[_,_,SqT.of (z _ _ d),SqT.of L],λR n=>?_,<-yuo (xs:=xs) p () (SqT.of (z _ _ d)) (SqT.of L) n (λi j σ' H' Q' h=>?_) (λH4 Y x=>?_)]
 .ext;erw[h]
 .ext;erw[R,_,J,SqL.of x,?_];rwa[show (List.zipWith ltV xs xs.tail).all id=true from N,k _ (q.trans (z.trans Y))]
#synth yzk ["thing"] vgg
#synth ∀(v kd tp ps:_)(_:vs=[v])(_:LkG H v kd tp ps)(_:∀H',yz H H'->Q (.bl true) H'),ygg
def yzz:'v' 4 a.Mj a.P7 ["thing"] ygg:=by exists T.Rc.F.ok,yzk,f;let#[v,i,g,n,J,p,k]:=h;let#[t,J,b,e,c]:=p;exists 1,0,yc (ym (u7 (pcB wq T.A5 (pac (pv 0) (pa1 (j3 (T:="tuple") J T.D6 'r')))) (u7 (xm w6 (pcB yr T.A9 (pav 0)) yf (yw _)) (u7 (xp (yyi T) f.m T.R9 (pa1 (pix zt (pv 0) yf))) (je (xp (vcw T) f.m T.Rb (pa1 (pix zt (pv 0) yf))))))));erw[ĸ (.tup b) J ?_,←yrg (SqT.of b) ?_,←ō J ?_,←Ĺ (SqT.of b) (vw (j:=0) J) ?_,←i,J,?_,←Ĺ (SqT.of b) (vw (j:=1) J) ?_,←g,_,J,e,c,k]
#synth vb9 ["thing"] vfs
#synth ∀(_:z3)(_:z4),∀(l:z4)(xs:Υ)(_:vs=[.ref l])(_:H l\xs)(_:1<=xs.length)(_:xs.length<=6)(_:Lks H xs)(_:∀r H',H r=none->H' r\xs->yz H H'->Q (.ref r) H'),Ĩ
def yp4:'e' 5 a.Ml a.P8 ["thing"] (Ĩ K a.Ha):=by
 exists T.K8.F.okE,vb9,x;let#[l,xs,J,g,M,N,G,k]:=h;exists 1,0,yh (vj (PW.pt (ü (xn (xo (pcB wq T.A5 (pac (pv 0) (pa1 (j3 (T:="list") J T.Aq 'r')))))) (ü (xn (ye7 ι ι yf (pcB yr T.A9 (pav 0)) (vy J T.Es))) (à (xn (xo (pcB (zx J) T.D1 (pa1 (vt (js:=[]) (ys:=[]) J (wg (pv 0)) (λC L o I=>(xp (yzz T) x.m T.Rc (pav 0))) J J (hyc:=yu) (hrel:=yu)))))))))) (yc (xa J T.Uq T.Uv (pa1 y8))) yq) (yc (ym (pcT xk T.Aq (pav 0))));erw[ĸ (.lst g) J ?_,←zd (SqL.of g) ?_,←ō () ?_,←vgh () ?_,←l,J,#[_,SqL.of g],λD n=>?_,<-yg6 (xs:=xs) (λZ=>.bl true) (SqL.of g) n (λi y o d c b=>?_) (λo c b=>?_)]
 .let#[q,B,t,z]:=G y (cz d);ext;erw[y,q,B,t,J,z.same c,λς p=>?_,<-Mp.done n (ve ()) d (c.trans p) (p _ _ b) J]
 have e:xs.map (λZ=>V.bl true)=(xs.map λZ=>true).map V.bl:=by rw[cL];rfl
 rw[e]at b;ext;erw[D,_,J,SqL.of b,?_];rw[show (xs.map λZ=>true).all id=true by simp];ext;erw[ymv (SqL.of (c _ _ g)) λr f=>?_,<-k r _ (c.free f) ya (c.trans (y7 f))]
def vfq{C l:z4}{xs:Υ}{H:Hp}{Q:VK}{E:XK}(hl:H l\xs)(h1:1<=xs.length)(h6:xs.length<=6)(h:Lks H xs)(k:∀r H',H r=none->H' r\xs->yz H H'->Q (.ref r) H'):Ĩ K C [.ref l] H Q E:=#[l,xs,J,hl,h1,h6,h,k]
def vct{C:z4}{x:V}{H:Hp}{Q:VK}{E:XK}(h:vjm K H x)(k:∀H',yz H H'->E (.ref C) none H'):Ĩ K C [x] H Q E:=h.elim
#synth yxn ["signs","place"] vdz
#synth ∀(K:z3),∀(l:z4)(sg:Ρ)(p:Int)(_:vs=[.ref l,.int p])(_:SqL K H l (sg.map V.int))(_:1<=p)(_:Q (.int (yst sg p)) H),yow
def vc0:'v' 1 a.Mm a.P9 ["signs","place"] (yow K):=by
 exists T.Re.F.ok,yxn,n;let#[l,m,p,J,e,i,k]:=h;exists 2,0,yc (ym (jq (yp ι (pv 1) (pcB yr T.A9 (pav 0)) (yw _)) (pix we (pv 0) (vf4 yqm (pv 1))) (vy J T.Hn)));erw[zd e ?_];rw[bw];ext;unfold yst at k;erw[z9 (λb=>?_) (λb=>?_)]
 .rw[if_pos b]at k;let#[c,f,_]:=you i b;rw[f]at k;ext;erw[ua e (by rw[yuz,f];rfl) k]
 .rw[if_neg b]at k;ext;erw[k]
#synth yzq ["look","signs","node"] veh
def jz(K:z3)(H:Hp)(k:z4)(x:V)(ps:Ρ):Prop:=∃t,SqT K H k [x,.ref t]/\SqT K H t (ps.map V.int)/\(∀p∈ps,1<=p/\p<=8)/\ps.length<=4
def jz.same{H H':Hp}{k:z4}{x:V}{ps:Ρ}(S:yz H H')(h:jz K H k x ps):jz K H' k x ps:=by let#[t,a,b,d,c]:=h;erw[t,S.tup a,S.tup b,d,c]
def ctx(ps sg:Ρ)(nd:Int):Ρ:=ps.map (yst sg)++[nd]
def bkV(sg:Ρ):V->V
 | .int p=>.int (yst sg p)
 |_=>.non
def yv4(sg ps:Ρ):(ps.map V.int).map (bkV sg)=(ps.map (yst sg)).map V.int:=by rw[cL,cL];rfl
#synth ∀(K:z3),∀(k l:z4)(x:V)(ps sg:Ρ)(nd:Int)(_:vs=[.ref k,.ref l,.int nd])(_:jz K H k x ps)(_:SqL K H l (sg.map V.int))(_:∀r H',H r=none->H' r∪((ctx ps sg nd).map V.int)->yz H H'->Q (.ref r) H'),ygh
def vbt:'v' 2 a.Mn a.Pa ["look","signs","node"] (ygh K):=by
 exists T.Rf.F.ok,yzq,U;let#[W,l,x,g,q,L,J,#[t,M,z,v,ς],R,k]:=h;exists 3,0,yc (ym (pcT Ï T.D6 (pa1 (yn ĳ (vt (js:=[1]) (ys:=["signs"]) J (yfv (pix zt (pv 0) yf)) (λC Y I X=>(xp (vc0 T) U.m T.Re (pac (pv 1) (pav 0)))) J J (hyc:=(all_cons J yu)) (hrel:=(all_cons J yu))) (wk (pav 2))))));erw[Ĺ M (vw (j:=1) J) ?_,<-t,J,#[_,z],λD B=>?_];have f:(g.map V.int).length<sizeLine:=ve (by rw[bw];omega);erw[Ś (xs:=g.map V.int) (bkV q) z B (λi y I G e b=>?_) (λI e b=>?_)]
 .let#[p,J,u,_,_]:=jh G;ext;erw[l,q,p,J,e.seq R,(v p u).1,?_,<-Mp.done B f G e b J]
 .rw[yv4]at b;ext;exists 'l',λn hn=>?_
  exists hn,H3,S3,hn3;erw[D,n,_,_,J,J,S3 _ _ b,hn3,vo (by rw[bw,bw];show _+1<=_;omega),λc hc=>?_];exists hc,H4,S4,hc4;erw[c,_,J,.inl #[SqL.of hc4,λr d=>?_]];let S:=e.trans (S3.trans S4);erw[k r _ (S.free d) (ya.trans ?_) (S.trans (y7 d))];unfold ctx;rw[cy];rfl
#synth vad ["self","look"] veq
#synth ∀(a:Ads),∀(p dx lk:z4)(kd:Fin 3)(_:vs=[.ref p,.ref lk])(_:H p∩a.Aj dx [])(_:∀d H',H d=none->ą a H' p dx lk d kd (λZ=>none) (λb=>b=d) 0->But p H H'->Q .non H'),yhw
def yzw:'v' 1 a.Hv a.Pb ["self","look"] (yhw a):=by
 exists T.Rg.F.ok,vad,D;let#[p,j,i,B,J,v,k]:=h;exists 2,0,yh (vg (pv 0) (pv 1) J) (yc (vg (pv 0) yok J));intro d l
 have g:H d=none:=by
  cases e:H d with
  |none=>rfl
  |some o =>
   by_cases z:d=p
   .rw[z,ya]at l;cases l
   .rw[yk z,e]at l;cases l
 have f:d≠p:=λz=>by rw[z,v]at g;cases g
 let q:=zn (o':=HO.dT []) l (show upd H p (HO.ins a.Aj j ([("look",V.ref i)]:Ι)) p=some (HO.ins a.Aj j ([("look",V.ref i)]:Ι))from ya);have c:upd (upd H p (HO.ins a.Aj j ([("look",V.ref i)]:Ι))) d (.dT []) d=some (.dT []):=ya;have r:But p H (upd (upd H p (HO.ins a.Aj j ([("look",V.ref i)]:Ι))) d (.dT [])):=λb o e n=>by rwa[yk (yb e g),yk n,e]
 generalize upd (upd H p (HO.ins a.Aj j ([("look",V.ref i)]:Ι))) d (.dT [])=C at q c r⊢;ext
 erw[k d _ g #[ya,λb y=>#[HO.dT [],by cases y;erw[ye f c],J],λz=>f z.symm,J,λu e=>(by cases (ye f c).symm.trans e;erw[List.nodup_nil,λZ z=>(nomatch z)]),[],λZ=>(0,0),ye f c,cc _,λZ Z=>rfl,λZ Z z=>(nomatch z),λZ Z Z Z z=>(nomatch z)] (r.trans But.upd)]
#synth ysj ["self","signs","node","context"] ["self","signs","node"] vc8
#synth ∀(K:z3)(a:Ads),∀(p dx lk d sl:z4)(kd:Fin 3)(f:qj Int->ql Slt)(O:Ν)(m:Nat)(ps sg:Ρ)(nd:Int)(_:vs=[.ref p,.ref sl,.int nd])(_:ą a H p dx lk d kd f O m)(_:m<1000000)(_:jz K H lk (.str (kdS kd)) ps)(_:SqL K H sl (sg.map V.int))(_:∀(q:z4)(O':Ν)(H':Hp),ą a H' p dx lk d kd (ya8 f (ctx ps sg nd) ((f (ctx ps sg nd)).getD (kd0 kd))) O' (m+1)->(∀kvs,H' d=some (.dT kvs)->jn kvs (kI (ctx ps sg nd))∣q)->(∀c,O' c->O c\/H c=none)->(∀c,O c->O' c)->yph O H H'->Q (.ref q) H'),yhu
end
set_option tactic.hygienic true in
mutual
def vcl:'v' 4 a.Mo a.Pe ["self","signs","node"] (yhu K a):=by
 exists T.K9.F.ok,ysj,Z;let#[p,dx,lk,d,sl,B,f,O,m,ps,sg,W,J,hb,hm,hl,hs,k]:=h;let ab:=hb.me;exists 3,1,yh (pst 3 ysj.nd (xp (vbt T) Z.m T.Rf (pac pfs (pac (pv 1) (pav 2))))) (yh (Ã (vj (ĵ (j9 (jk Z) (pv 3) pfs)) (yc (ī (jk Z) pfs (pv 3) (xp (vco T) Z.m T.R8 (pa1 (pix zt pfs yf))) J)) yq)) (yc (ym (γ (jk Z) pfs (pv 3) (λF F=>rfl)))));erw[lk,sl,_,ps,sg,W,J,hl,hs,λr H1 ac a8 S1=>?_];have i:H1 r∪((kI (ctx ps sg W)).map kV):=by rwa[vaf,a8]
 generalize ctx ps sg W=b at i k;let g:=hb.same S1;let x:=g.me;ext;erw[ypa (λσ' H'=>σ'=[some (.ref p),some (.ref sl),some (.int W),some (.ref r)]/\∃X,ą a H' p dx lk d B (ya8 f b ((f b).getD (kd0 B))) X (m+1)/\(∀c,X c->O c\/H c=none)/\(∀c,O c->X c)/\yph O H H'/\H' r∪((kI b).map kV)) ?_ ?_]
 .let#[G,l,D,h2,S,M,h5]:=g.tb;ext;exists d,_,J,Ļ.t D i,?_
  cases hf:f b with
  |none =>
   rw[S b hf];ext;erw[j4 ?_];ext;let#[t,a7,ad,_,_]:=hl;erw[Ĺ (S1.tup a7) (vw (j:=0) J) ?_,←B,J,λq dq H2 n a0 I=>?_];ext;let L:=I _ _ x;ext;erw[d,_,J,yhs.t (I _ _ D) (I _ _ i) (ve ()),?_];let a3:=S1.trans I;have U:q≠d:=λz=>by rw[z,D]at n;cases n
   have a2:p≠d:=λz=>g.np (z ▸ g.dO);ext;erw[J,λc=>O c\/c=q,#[ye a2 L,λc u=>?_,λz=>?_,.inl g.dO,yw0.snoc (g.ky G D) (S b hf) ya,ya9 G (kI b) (.ref q),λj=>if j=b then (q,dq)else l j,ya,?_,λj ς=>?_,λj s' ς=>?_,λj1 j2 s1 s2 e1 Y v=>?_],λc u=>?_,λc u=>.inl u,λc o e no=>?_,ye (xf (I _ _ i) (I _ _ D) 'z') (I _ _ i)]
   .rcases u with u|rfl
    .let#[o,ho,hi]:=g.own c u;by_cases z:c=d
     .rw[z];exists _,ya,rfl
     .erw[o,ye z (I _ _ ho),hi]
    .let#[C,fs,eo]:=Ĳ a dq (kd0 B);erw[_,ye U a0,by rw[eo];rfl]
   .rcases z with z|z
    .erw[g.np z]
    .rw[z]at x;rw[x]at n;cases n
   .rw[π _ (S b hf),bY];show _+1<=m+1;omega
   .unfold ya8 at ς
    split at ς
    .cases ς
    .rename_i hne
     rwa[yam,if_neg λz=>hne (yra z),S j ς]
   .unfold ya8 at ς
    split at ς
    .rename_i he
     subst he;cases ς;dsimp only;rwa[if_pos J,yam,if_pos J,#[J,ye U a0,yrc B,ym6 B,.inr J]]
    .rename_i hne
     let#[R,y,q3,q4,q5]:=M j s' ς;dsimp only;rw[if_neg hne,yam,if_neg λz=>hne (yra z)]
     have a6:(l j).1≠d:=by
      let#[C,fs,eo]:=Ĳ a (l j).2 s';rw[eo]at y;erw[xf y D 'z']
     erw[R,ye a6 (I _ _ y),q3,q4,.inl q5]
   .unfold ya8 at e1 Y;dsimp only at v;by_cases z1:j1=b
    .by_cases z2:j2=b
     .rw[z1,z2]
     .rw[if_neg z2]at Y;rw[if_pos z1,if_neg z2]at v;let#[_,y,_]:=M j2 s2 Y;have v:q=(l j2).1:=v;rw[<- v,n]at y;cases y
    .rw[if_neg z1]at e1;by_cases z2:j2=b
     .rw[if_neg z1,if_pos z2]at v;let#[_,y,_]:=M j1 s1 e1;have v:(l j1).1=q:=v;rw[v,n]at y;cases y
     .rw[if_neg z2]at Y;rw[if_neg z1,if_neg z2]at v;erw[h5 j1 j2 s1 s2 e1 Y v]
   .rcases u with u|rfl
    .erw[.inl u]
    .erw[.inr (S1.free n)]
   .erw[ye (λz=>no (z ▸ g.dO)) (a3 _ _ e)]
  |some s' =>
   let#[R,y,q3,q4,q5]:=M b s' hf;rw[R];ext;erw[J,O,?_,λc u=>.inl u,λc u=>u,λc o e F=>S1 _ _ e,i]
   have ef:ya8 f b ((some s').getD (kd0 B))=f:=by
    funext j
    unfold ya8
    split
    .rename_i z
     rw[z,hf];rfl
    .rfl
   rwa[ef,#[g.me,g.own,g.np,g.dO,g.ky,G,l,D,Nat.le_succ_of_le h2,S,M,h5]]
 .rintro σ' H2 ⟨rfl,X,N,hO,hM,B2,a1⟩;let L:=N.me;let#[G,l,D,h2,S,M,h5]:=id N.tb;have a4:ya8 f b ((f b).getD (kd0 B)) b=some ((f b).getD (kd0 B)):=by unfold ya8;rw[if_pos J]
  let#[R,y,q3,q4,q5]:=M b _ a4;ext;erw[d,_,J,by rwa[<- R,Ļ.t D a1],?_]
  erw[k (l b).1 X H2 N (λa9 e=>by rw[D]at e;cases e;erw[R]) hO hM B2]
#synth yxj ["self","many"] vgl
def yza:'v' 1 a.Hw a.Pf ["self","many"] (ynt a):=by
 exists T.Rh.F.ok,yxj,q;let#[p,i,n,J,o,m,e,k]:=h;exists 2,0,yc (vg (pv 0) (yn yp8 (wk (pa1 (vy J T.Dw))) (pv 1)) J);exists 'l',λr hr0=>?_
 exists hr0,H1,S1,e1;ext;erw[r,n,_,J,J,e1,(),(),vo (by show 1*(n:Int).toNat<=16000000;omega),λl hl=>?_]
 rw[yi8];exists hl,H2,S2,e2;let b:=S1.trans S2;let j:=b _ _ e;ext;have c:l≠p:=λz=>by rw[z,S1 _ _ e]at hl;cases hl
 erw[k l _ (S1.free hl) #[ya,ye c e2] ((But.of b).trans But.upd)]
#synth yy3 ["self","chances"] vec
def yxg:'v' 1 a.Mq a.Pg ["self","chances"] (yij K a):=by
 exists T.Ka.F.ok,yy3,hr;let#[p,dx,l,c,G,z,n,J,n1,n6,e,hc,#[hp,I],M,k]:=h;erw[_,(yc (ym (yn vk (pcB (Ý J) T.Fu (pa1 (yah (js:=[]) (ys:=[]) (xs:=["weight","chance"]) (g:=yw2 K 2 (zw (xi 0) (zw (xi 1) yl4))) J (ysf J T.Lo (pac pfs (pav 1))) (λC Y r U=>(yn w4 (pv 0) (pv 1))) J (λC Y r U=>Ţ J (xw (vz (i:=0) (show List.Nodup ((["weight","chance"]:Τ)++([]:Τ)) by right) J (Or.inl J)) (xw (vz (i:=1) (show List.Nodup ((["weight","chance"]:Τ)++([]:Τ)) by right) J (Or.inl J)) ö))) J (hyc:=yu) (hrel:=yu)))) (pcB (Ý J) T.Fu (pa1 pfs))))),?_];exists 2,0;have d:z.length=G.length:=by rw[e.len,hc.len]
 ext;erw[l,c,J,#[_,_,SqL.of I,M],λD L=>?_,<-Ŝ (λi=>V.int ((G[i]?).getD 0*(z[i]?).getD 0)) (SqL.of I) M (by rw[bw,bw,d]) L (λi x y r ς Z hx hy f b q m=>?_) (λr f b=>?_)]
 .let#[v1,v2,J]:=yli m;let#[w,J,N,S,R]:=jh hx;let#[u,J,um,ui,_]:=jh hy;let w1:=e.one w N;let w2:=e.top w N;let O:=f.trans (y7 (o:=HO.tup [V.int w,V.int u]) q);let j:=zn (o':=HO.tup [V.int w,V.int u]) q b;have t:upd r ς (HO.tup [V.int w,V.int u]) ς∪[V.int w,V.int u]:=ya;generalize upd r ς (HO.tup [V.int w,V.int u])=W at O j t;erw[ţ (SqT.of t) J ?_];show zw (xi 0) (zw (xi 1) yl4) [V.int w,V.int u] (v1::v2::ux [] [some (V.ref p),some (V.ref c)]) W _;ext;erw[#[[some (.int w),some (.int u)],J,J],?_,←Mp.doneR L (ve (by rw[bw,e.len];omega)) (by rwa[bw,R]) O j ?_];rw[S,ui];rfl
 .let b:=ye1 b (yri (g:=λw c=>w*c) d);let a0:=f _ _ hp;let v:=f _ _ I;let p1:=e.pos n1;let p2:=e.small n6;ext;erw[D,_,J,SqL.of b,?_,←l,_,J,SqL.of v,?_,←k _ f]
#synth Ť ["self","chances","bit","shares","whole","own","grown","dropped"] ["self","chances","bit"] vdr
def vci:'e' 5 a.Mr a.Ph ["self","chances","bit"] (yh2 K a a.Bk):=by
 exists T.Kb.F.okE,Ť,hr;let#[p,dx,l,c,B,r,n,x,m,J,n1,n6,W,hc,#[hp,hl],hq,ty,k1,k2]:=h;erw[yg (yy (uh (Ķ T) hr.m T.Cz yt (pav 2))) ?_,<-yg (ym0 (i:=3) (js:=[2]) (ys:=["bit"]) (xs:=["weight","chance"]) (g:=yw2 K 2 (zw (xi 0) (zw (xi 1) yl4))) Ť.nd J J J (ysf J T.Lo (pac pfs (pav 1))) (λC s2 M fp=>(yn w4 (pv 0) (uh (yqi T) hr.m T.Jv vn (pac (pv 1) (pav 2))))) J (λC s2 M fp=>Ţ J (xw (vz (i:=0) (show List.Nodup ((["weight","chance"]:Τ)++(["bit"]:Τ)) by right) J (Or.inl J)) (xw (vz (i:=1) (show List.Nodup ((["weight","chance"]:Τ)++(["bit"]:Τ)) by right) J (Or.inl J)) ö))) J (hyc:=(all_cons J yu)) (hrel:=(all_cons J yu))) ?_,<-yg (z8 (i:=4) Ť.nd J (Or.inr J) (pcB (Ý J) T.Fu (pav 3))) ?_,<-yg (z8 (i:=5) Ť.nd J (Or.inr J) (yn w4 (vy J T.Fv) (pcB yr T.A9 (pav 3)))) ?_,<-yg (yfh (i:=6) (js:=[4,5]) (ys:=["whole","own"]) Ť.nd J J J (wg (pv 3)) (λC s2 M fp=>(yn v9 (yn w4 (pv 2) (pv 0)) (pv 1))) J J (hyc:=(all_cons J (all_cons J yu))) (hrel:=(all_cons J (all_cons J yu)))) ?_,<-yg (z8 (i:=7) Ť.nd J (Or.inr J) (pcB (Ĥ J) T.Ln (pac (yn zq (yci PySem.F.plainAttrs_int PySem.F.slot_int_bit_length PySem.F.type_int_bit_length yj3 (pcB (Ý J) T.Fu (pav 6))) (vy J T.Dx)) (pa1 yf)))) ?_,<-_,(yc (vg (pv 0) (vt (js:=[7]) (ys:=["dropped"]) J (wg (pv 6)) (λC s2 M fp=>(yn yzd (pv 0) (pv 1))) J J (hyc:=(all_cons J yu)) (hrel:=(all_cons J yu))) J)),?_];exists 3,5;have j:r.length=B.length:=by rw[W.len,hc.len]
 ext;erw[x,m,J,ty,λhx=>?_,k2];let#[b,J,b0,b1]:=yge hx;let k:=k1 b J b0 b1;ext;erw[l,c,J,#[_,_,SqL.of hl,hq],λD hD=>?_,<-Ŝ (λi=>V.int ((B[i]?).getD 0*giv ((r[i]?).getD 0) b)) (SqL.of hl) hq (by rw[bw,bw,j]) hD (λi x y M tt a7 hx N U d a0 Y=>?_) (λM U d=>?_)]
 .let#[v1,v2,J]:=yli Y;let#[w,J,wm,wi,il]:=jh hx;let#[u,J,um,ui,_]:=jh N;let w1:=W.one w wm;let w2:=W.top w wm;let a6:=ych (vcb hc um);let a2:=yau b0 b1;let L:=U.trans (y7 (o:=HO.tup [V.int w,V.int u]) a0);let X:=zn (o':=HO.tup [V.int w,V.int u]) a0 d;have a1:upd M tt (HO.tup [V.int w,V.int u]) tt∪[V.int w,V.int u]:=ya;generalize upd M tt (HO.tup [V.int w,V.int u])=H3 at L X a1;erw[ţ (SqT.of a1) J ?_];show zw (xi 0) (zw (xi 1) yl4) [V.int w,V.int u] (v1::v2::ux [2] [some (V.ref p),some (V.ref c),some (V.int b),none,none,none,none,none]) H3 _;ext;erw[#[[some (.int w),some (.int u)],J,J],?_,←.int u,_,.int b,_,J,.int u,.int b,λz=>(by rw[a6]at z;cases z),λF z=>(by rw[a2]at z;cases z),λc' b' ec eb F F=>?_];cases ec;cases eb;ext;erw[Mp.doneR hD (ve (by rw[bw,W.len];omega)) (by rwa[bw,il]) L X ?_];rw[wi,ui];rfl
 .have d:M D\((shL B r b).map V.int):=ye1 d (yri (g:=λw c=>w*giv c b) j);have q:(shL B r b).length=n:=by rw[yd4 j.symm,W.len]
  let a5:=U _ _ hp;have ek:lrn B r b=(grL (shL B r b)).map λv=>v/2^tOf (grL (shL B r b)).sum:=rfl;rw[ek]at k;generalize shL B r b=ς at d q k;have eg:grL ς=ς.map λs=>31*(n:Int)*s+ς.sum:=by rw[<- q];rfl
  ext;erw[D,_,J,SqL.of d,?_,←zd (SqL.of d) ?_];rw[bw,q];ext;erw[D,J,#[_,SqL.of d],λG hG=>?_,<-zh (onI λs=>31*(n:Int)*s+ς.sum) (SqL.of d) hG (λi y H3 N L f=>?_) (λH3 L f=>?_)]
  .let#[s',J,_,_,il]:=jh N;show tOp _ _ _ (some (V.int s')::ux [4,5] [some (V.ref p),some (V.ref c),some (V.int b),some (V.ref D),some (V.int ς.sum),some (V.int (31*(n:Int))),none,none]) H3 _;ext;erw[Mp.done hG (ve (by rw[bw,q];omega)) N L f J]
  .rw[yjz,<- eg]at f;have R:(grL ς).length=n:=by rw[ykh,q]
   generalize grL ς=O at f k R;let S:=L _ _ a5;ext;erw[G,_,J,SqL.of f,?_,←_,_,J,?_]
   have et:(if (0:Int) > ((Builtin.Int.intBits O.sum:Nat):Int)-48 then (0:Int)else ((Builtin.Int.intBits O.sum:Nat):Int)-48)=((tOf O.sum:Nat):Int):=by
    show _=(((yo3 O.sum)-48:Nat):Int);have e:Builtin.Int.intBits O.sum=yo3 O.sum:=rfl;rw[e]
    split<;>omega
   rw[et];generalize tOf O.sum=t at k;ext;erw[G,J,#[_,SqL.of f],λZ hZ=>?_,<-zh (onI λv=>v/2^t) (SqL.of f) hZ (λi y H4 N S4 I=>?_) (λH4 S4 I=>?_)]
   .let#[s',J,_,_,il]:=jh N;show tOp _ _ _ (some (V.int s')::ux [7] [some (V.ref p),some (V.ref c),some (V.int b),some (V.ref D),some (V.int ς.sum),some (V.int (31*(n:Int))),some (V.ref G),some (V.int (t:Int))]) H4 _;ext;erw[i_I (Int.natCast_nonneg t) ?_,<-Mp.done hZ (ve (by rw[bw,R];omega)) N S4 I J]
   .rw[yjz]at I;let a9:=S4 _ _ S;ext;have nz:Z≠p:=λz=>by rw[z,S]at hZ;cases hZ
    let a3:=U.trans (L.trans S4);erw[k Z _ ((U.trans L).free hZ) #[ya,ye nz I] ((But.of a3).trans But.upd)]
#synth yzf ["self"] vfp
def ą.sqt{H H':Hp}{p dx lk d:z4}{kd:Fin 3}{f:qj Int->ql Slt}{O:Ν}{m:Nat}(h:ą a H p dx lk d kd f O m)(B:yph O H H'){t:z4}{xs:Υ}(e:SqT K H t xs):SqT K H' t xs:=by
 have i:∀o:HO,H t=some o->yw8 o=false->H' t=some o:=λo g j=>B _ _ g λz=>by
  let#[k,c,b]:=h.own t z;rw[g]at c;cases c;rw[j]at b;cases b
 rcases e with(e|⟨o,e⟩)|e
 .erw[.inl (.inl (i _ e J))]
 .erw[.inl (.inr #[o,i _ e J])]
 .erw[.inr e]
def ą.up{H:Hp}{p dx lk d:z4}{kd:Fin 3}{f:qj Int->ql Slt}{O:Ν}{m:Nat}(h:ą a H p dx lk d kd f O m)(hm:m<=m'):ą a H p dx lk d kd f O m':=by let#[b,c,i,e,j,g]:=h.tb;erw[h.me,h.own,h.np,h.dO,h.ky,b,c,i,cO e hm,j,g]
def jz.mvT{H H':Hp}{k:z4}{x:V}{ps:Ρ}(h:jz K H k x ps)(h1:∀t xs,SqT K H t xs->SqT K H' t xs):jz K H' k x ps:=by let#[t,a,b,c,d]:=h;erw[t,h1 _ _ a,h1 _ _ b,c,d]
noncomputable def refs(g:Μ)(n:Nat):Υ:=(List.range n).map λi=>V.ref (g i)
def v8(g:Μ)(n:Nat):(refs g n).length=n:=by unfold refs;rw[bw,c8]
def u9{g:Μ}{n i:Nat}{x:V}(h:(refs g n)[i]?=some x):x=.ref (g i)/\i<n:=by
 have a:i<n:=by
  have:=(ck.mp h).1;rw[v8]at this;erw[this]
 unfold refs at h;rw[ci,dv a]at h;erw[(cu h).symm,a]
def ud(g:Μ)(n:Nat):refs g (n+1)=refs g n++[.ref (g n)]:=by unfold refs;rw[List.range_succ,cy];rfl
def ub{g h:Μ}{n:Nat}(e:∀i,i<n->g i=h i):refs g n=refs h n:=by unfold refs;erw[List.map_congr_left λi a=>by rw[e i (dy.mp a)]]
structure Bks(K:z3)(a:Ads)(H:Hp)(n:Nat)(bk dx lk dd:Μ)(kd:Ξ)(ps:Λ)(f:Α)(O:Β)(m:Nat):Prop where
 look:∀i,i<n->jz K H (lk i) (.str (kdS (kd i))) (ps i)
 b:∀i,i<n->ą a H (bk i) (dx i) (lk i) (dd i) (kd i) (f i) (O i) m
 dj:∀i j c,i<n->j<n->i≠j->O i c->¬O j c
 nb:∀i j,i<n->j<n->¬O i (bk j)
def AtS(H:Hp)(d:z4)(k:Ρ)(q:z4):Prop:=∀kvs,H d=some (.dT kvs)->jn kvs (kI k)∣q
def ą.slot{H:Hp}{p dx lk d:z4}{kd:Fin 3}{f:qj Int->ql Slt}{O:Ν}{m:Nat}{k:Ρ}{s:Slt}(h:ą a H p dx lk d kd f O m)(hf:f k=some s)(hq:AtS H d k q):∃dq,H q=some (oS a dq s)/\s.ok/\s.kind=kd/\O q:=by let#[b,r,j,t,v,g,u]:=h.tb;let#[i,n,l,c,o]:=g k s hf;let e:=hq b j;rw[i]at e;injection e with e;injection e with e;subst e;erw[_,n,l,c,o]
def ą.told{H H':Hp}{p dx lk d:z4}{kd:Fin 3}{f:qj Int->ql Slt}{O:Ν}{m:Nat}{k:Ρ}{s:Slt}{b:Int}(h:ą a H p dx lk d kd f O m)(hf:f k=some s)(hq:AtS H d k q)(b0:0<=b)(b1:b<=1)
  (h3:H' q=some (oS a dq (s.see b))) (B:But q H H'):ą a H' p dx lk d kd (ya8 f k (s.see b)) O m:=by
 let y:=h.me;let#[r,l,v,R,E,G,ς]:=id h.tb;let#[I,L,X,q4,K]:=G k s hf;let e:=hq r v;rw[I]at e;injection e with e;injection e with e;have D:p≠q:=λz=>h.np (by rwa[z,<- e,K])
 have u:d≠q:=λz=>by
  let#[C,fs,A]:=Ĳ a (l k).2 s;rw[e,<- z,v,A]at L;cases L
 erw[B _ _ y D,λc hc=>?_,h.np,h.dO,h.ky.mv v (B _ _ v u),r,λj=>if j=k then (q,dq)else l j,B _ _ v u,R,λj i=>?_,λj n i=>?_,λx F s1 U e1 Y W=>?_]
 .let#[o,ho,hi]:=h.own c hc;by_cases z:c=q
  .rw[z];let#[C,fs,A]:=Ĳ a dq (s.see b);erw[_,h3,by rw[A];rfl]
  .erw[o,B _ _ ho z,hi]
 .erw[E j ?_];unfold ya8 at i
  split at i
  .cases i
  .erw[i]
 .unfold ya8 at i;by_cases z:j=k
  .rw[if_pos z]at i;cases i;subst z;dsimp only;rw[if_pos J];exists by rw[I,e],h3,Slt.see_ok X b0 b1,(ymz s b).trans q4,e ▸ K
  .rw[if_neg z]at i;let#[Z,S,M,P,N]:=G j n i;dsimp only;rwa[if_neg z,#[Z,B _ _ S (λw=>z (ς j k n s i hf (w.trans e.symm))),M,P,N]]
 .have g:∀j n,ya8 f k (s.see b) j=some n->∃t,f j=some t:=λj n h=>by
   unfold ya8 at h;by_cases z:j=k
   .erw[s,by rwa[z,hf]]
   .rw[if_neg z]at h;erw[n,h]
  let#[t1,T]:=g x s1 e1;let#[Q,f2]:=g F U Y;erw[ς x F t1 Q T f2 ?_]
  have yst:∀j,(if j=k then ((q,dq):z4×z4)else l j).1=(l j).1:=λj=>by
   by_cases z:j=k
   .rw[if_pos z,z];erw[e.symm]
   .rw[if_neg z]
  rwa[<- yst x,<- yst F,W]
def AtS.told{H H':Hp}{p dx lk d:z4}{kd:Fin 3}{f:qj Int->ql Slt}{O:Ν}{m:Nat}{k:Ρ}(h:ą a H p dx lk d kd f O m){r:z4}(hd:d≠r)(B:But r H H')(hq:AtS H d k q):AtS H' d k q:=λg e=>by
 let#[c,i,b,_]:=h.tb;rw[B _ _ b hd]at e;cases e;erw[hq _ b]
end
section
mutual
variable{H H':Hp}{n m:Nat}{bk dx lk dd:Μ}{kd:Ξ}{ps:Λ}{f:Α}
theorem Bks.frame(h:Bks K a H n bk dx lk dd kd ps f O m){O2:Ν}(B:yph O2 H H')(dj:∀i b,i<n->O i b->¬O2 b)(hp:∀i,i<n->¬O2 (bk i))(ht:∀t xs,SqT K H t xs->SqT K H' t xs):Bks K a H' n bk dx lk dd kd ps f O m :=
 #[λi c=>(h.look i c).mvT ht,λi c=>(h.b i c).frame B (λb d=>dj i b c d) (hp i c),h.dj,h.nb]
def Bks.same(h:Bks K a H n bk dx lk dd kd ps f O m)(S:yz H H'):Bks K a H' n bk dx lk dd kd ps f O m :=
 h.frame (O2:=λZ=>False) (λb o e Z=>S b o e) (λZ Z Z Z z=>z) (λZ Z z=>z) λZ Z e=>S.tup e
def Bks.move(h:Bks K a H n bk dx lk dd kd ps f O m)(hj:j<n){f':qj Int->ql Slt}{O':Ν}(hm:m<=m')(hb:ą a H' (bk j) (dx j) (lk j) (dd j) (kd j) f' O' m')(hO:∀c,O' c->O j c\/H c=none)(B:yph (O j) H H'):
  Bks K a H' n bk dx lk dd kd ps (λi=>if i=j then f' else f i) (λi=>if i=j then O' else O i) m':=by
 let A:=h.b j hj
 have g:∀q c,q<n->q≠j->O q c->¬O' c:=λq c C x w E=>by
  rcases hO c E with v|v
  .erw[h.dj q j c C hj x w v]
  .let#[o,D,_]:=(h.b q C).own c w;rw[v]at D;cases D
 erw[λi d=>(h.look i d).mvT λt F e=>A.sqt B e,λi d=>?_,λi l c d p u r k=>?_,λi l d p e=>?_]
 .try dsimp only
  by_cases z:i=j
  .subst z;rwa[if_pos J,if_pos J,hb]
  .rw[if_neg z,if_neg z];erw[((h.b i d).frame B (λb y=>h.dj i j b d hj z y) (h.nb j i hj d)).up hm]
 .try dsimp only at r k
  by_cases z1:i=j
  .rw[if_pos z1]at r;have s:l≠j:=λw=>u (z1.trans w.symm);rw[if_neg s]at k;erw[g l c p s k r]
  .rw[if_neg z1]at r;by_cases s:l=j
   .rw[if_pos s]at k;erw[g i c d z1 r k]
   .rw[if_neg s]at k;erw[h.dj i l c d p u r k]
 .try dsimp only at e
  by_cases z:i=j
  .rw[if_pos z]at e;rcases hO _ e with v|v
   .erw[h.nb j l hj p v]
   .rw[(h.b l p).me]at v;cases v
  .rw[if_neg z]at e;erw[h.nb i l d p e]
def AtS.move(h:Bks K a H n bk dx lk dd kd ps f O m){i:Nat}(hi:i<n)(hj:j<n)(hij:i≠j)(B:yph (O j) H H'){k:Ρ}(hq:AtS H (dd i) k q):AtS H' (dd i) k q:=λg e=>by
 let#[d,l,c,_]:=(h.b i hi).tb;rw[B _ _ c (h.dj i j _ hi hj hij (h.b i hi).dO)]at e;cases e;erw[hq _ c]
def Bks.nlst(h:Bks K a H n bk dx lk dd kd ps f O m){l:z4}{xs:Υ}(hl:H l\xs):∀i,i<n->¬O i l:=λi e z=>by
 let#[o,d,c]:=(h.b i e).own l z;rw[hl]at d;cases d;cases c
end
end
mutual
def ypc(n:Nat)(kd:Ξ)(f:Α)(g:Nat->qj Int->Slt):Prop:=∀i,i<n->∀k,(f i k).getD (kd0 (kd i))=g i k
def ypc.put{n:Nat}{kd:Ξ}{f:Α}{g:Nat->qj Int->Slt}(h:ypc n kd f g)(j:Nat)(hj:j<n)(k:Ρ):ypc n kd (λi=>if i=j then ya8 (f j) k ((f j k).getD (kd0 (kd j)))else f i) g:=λi b a=>by
 dsimp only;by_cases z:i=j
 .subst z;rw[if_pos J];unfold ya8;by_cases w:a=k
  .rw[if_pos w,w];erw[h i b k]
  .rw[if_neg w];erw[h i b a]
 .rw[if_neg z];erw[h i b a]
inductive ygu(K:z3)(a:Ads)(vs:Υ)(H:Hp)(Q:VK)(E':XK):Prop
 | mk(p dp ll bl mp el pl0:z4)(nd:Int)(sg:Ρ)(n m:Nat)(bk dx lk dd:Μ)(kd:Ξ)(ps:Λ)(f:Α)(O:Β)(g:Nat->qj Int->Slt)(_:vs=[.ref p])(_:H p∩a.A6 dp (ĺ (.ref ll) (.ref bl) (.ref mp) (.ref el) (.int nd) (.ref pl0)))(_:H bl\(refs bk n))(_:H el\(sg.map V.int))(_:Bks K a H n bk dx lk dd kd ps f O m)(_:ypc n kd f g)(_:n<=6)(_:m+10<1000000)(_:(∀i,i<n->¬O i p))(_:∀(pl:z4)(sl:Μ)(f':Α)(O':Β)(H':Hp),H' p∩a.A6 dp (ĺ (.ref ll) (.ref bl) (.ref mp) (.ref el) (.int nd) (.ref pl))->H' pl\(refs sl n)->H pl=none ->
  Bks K a H' n bk dx lk dd kd ps f' O' (m+n)->ypc n kd f' g->(∀j,j<n->(∃s,f' j (ctx (ps j) sg nd)=some s)/\AtS H' (dd j) (ctx (ps j) sg nd) (sl j))->(∀j c,j<n->O' j c->O j c\/H c=none) ->
  (∀c o,H c=some o->c≠p->(∀j,j<n->¬O j c)->H' c=some o)->(∀c o,H c=some o->∃o',H' c=some o')->Q .non H')
def yso:'v' 5 a.Ms a.Pj ["self"] (ygu K a):=by
 exists T.Fg.F.ok,yzf,hr;let#[p,dp,ll,bl,mp,el,ae,N,X,n,m,Z,dx,lk,dd,kd,M,f,O,g,J,hp,U,a6,hB,hA,n6,hm,np,k]:=h;exists 1,0,yc (vg (pv 0) (vt (js:=[0]) (ys:=["self"]) J (wg pfs) (λC s2 H2 fp=>(ww (pv 0) T.Ca T.K9.m (vcl T) hr.m T.K9.B .nil vv (pac (yed (K:=K) J (pv 1) J) (pa1 (yed (K:=K) J (pv 1) J))))) J J (hyc:=(all_cons J yu)) (hrel:=(all_cons J yu))) J);erw[bl,J,#[_,SqL.of U],λD L=>?_];let a8:=hB.nlst U;let aa:=hB.nlst a6;refine ì (K:=K) (xs:=refs Z n) (λi G=>∃(y:Μ)(R:Α)(ς:Β),G D\(refs y i)/\Bks K a G n Z dx lk dd kd M R ς (m+i)/\ypc n kd R g/\(∀j,j<i->(∃s,R j (ctx (M j) X N)=some s)/\AtS G (dd j) (ctx (M j) X N) (y j))/\
  (∀j c,j<n->ς j c->O j c\/H c=none)/\(∀c o,H c=some o->(∀j,j<n->¬O j c)->G c=some o)/\(∀c o,H c=some o->∃o',G c=some o'))
  #[λF=>0,f,O,ya,hB.same (y7 L),hA,λj d=>absurd d (cP j),λj c F z=>.inl z,λc o e F=>zn L e,λc o e=>#[o,zn L e]] (λi G F z=>?_) (λi x G hx hi z=>?_) (λG z=>?_)
 .let#[_,_,_,_,_,_,_,_,w,_]:=z;erw[SqL.of (w _ _ U a8)]
 .let#[y,R,ς,gD,r,gA,gS,Y,gF,gL]:=z;let#[J,l]:=u9 hx;let I:=gF _ _ hp np;let a5:=gF _ _ a6 aa;let ah:=(r.b i l).me;show yeh _ _ _ _ _ _ _ (some (V.ref (Z i))::ux [0] [some (V.ref p)]) G _;ext;exists Z i,dx i,lk i,dd i,el,kd i,R i,ς i,m+i,M i,X,N,J,r.b i l,(),r.look i l,SqL.of a5,λq O2 G2 a4 hv a2 ag B2=>?_
  let nD:=r.nlst gD;have u:G2 D\(refs y i):=B2 _ _ gD (nD i l);erw[xh (n:=(refs Z n).length) u (ve (by rw[v8];omega)) hi ?_];let M2:=r.move l (Nat.le_succ (m+i)) a4 a2 B2;let a7:=M2.nlst u;have S:∀c o,G2 c=some o->c≠D->upd G2 D (.lst (refs y i++[V.ref q])) c=some o:=λc o e W=>ye W e
  let M3:=M2.frame (O2:=λc=>c=D) (λc o e W=>S c o e W) (λj c d w z=>a7 j d (z ▸ w)) (λj d z=>by
   have:=(M2.b j d).me;rw[z,u]at this
   cases this) (λt xs e=>by
   rcases e with(e|⟨o,e⟩)|e
   .erw[.inl (.inl (S _ _ e (λz=>by rw[z,u]at e;cases e)))]
   .erw[.inl (.inr #[o,S _ _ e (λz=>by rw[z,u]at e;cases e)])]
   .erw[.inr e])
  have up:∀j,j<n->AtS G2 (dd j) (ctx (M j) X N) (if j=i then q else y j)->AtS (upd G2 D (.lst (refs y i++[V.ref q]))) (dd j) (ctx (M j) X N) (if j=i then q else y j):=λj d h =>
   h.told (M2.b j d) (λz=>a7 j d (by rwa[<- z,(M2.b j d).dO])) (λc o e W=>S c o e W)
  erw[λj=>if j=i then q else y j,_,_,?_,M3,gA.put i l _,λj d=>?_,λj c d w=>?_,λc o e no=>?_,λc o e=>?_]
  .rw[ya,ud,if_pos J]
   congr 3
   erw[ub λj d=>(if_neg ()).symm]
  .by_cases z:j=i
   .subst z;exists#[(R j (ctx (M j) X N)).getD (kd0 (kd j)),?_],up j l ?_
    .try dsimp only
     rw[if_pos J];unfold ya8;rw[if_pos J]
    .rw[if_pos J];erw[hv]
   .have a1:j<n:=()
    let#[#[s',ab],ad]:=gS j ();erw[#[s',?_],up j a1 ?_]
    .try dsimp only
     rwa[if_neg z,ab]
    .rw[if_neg z];erw[ad.move r a1 l z B2]
  .try dsimp only at w
   by_cases z:j=i
   .subst z;rw[if_pos J]at w;rcases a2 c w with v|v
    .erw[Y j c d v]
    .refine .inr ?_
     cases e:H c with
     |none=>rfl
     |some o =>
      let#[o',w']:=gL c o e;rw[w']at v;cases v
   .rw[if_neg z]at w;erw[Y j c d w]
  .let hG:=gF c o e no
   have nc:¬ς i c:=λw=>by
    rcases Y i c l w with v|v
    .erw[no i l v]
    .rw[e]at v;cases v
   erw[S _ _ (B2 _ _ hG nc) (λz=>?_)];rw[z,L]at e;cases e
  .let#[o1,w1]:=gL c o e;have a3:c≠D:=λz=>by rw[z,L]at e;cases e
   by_cases w2:ς i c
   .let#[o2,a9,_]:=a4.own c (ag c w2);erw[o2,S _ _ a9 a3]
   .erw[o1,S _ _ (B2 _ _ w1 w2) a3]
 .let#[y,R,ς,gD,r,gA,gS,Y,gF,gL]:=z;rw[v8]at gD r gS;let I:=gF _ _ hp np;ext;have ac:D≠p:=λz=>by rw[z,hp]at L;cases L
  have BP:But p G (upd G p (.ins a.A6 dp (ĺ (.ref ll) (.ref bl) (.ref mp) (.ref el) (.int N) (.ref D)))):=But.upd
  have a0:∀i,i<n->¬ς i p:=λi hi w=>by
   rcases Y i p hi w with v|v
   .erw[np i hi v]
   .rw[hp]at v;cases v
  let M3:=r.frame (O2:=λc=>c=p) (λc o e W=>BP c o e W) (λj c d w z=>a0 j d (z ▸ w)) (λj d z=>by
   have:=(r.b j d).me;rw[z,I]at this;injection this with this;injection this with _ _ e
   erw[absurd (congrArg List.length e) (show ¬(6=2) by decide)]) (λt xs e=>by
   rcases e with(e|⟨o,e⟩)|e
   .erw[.inl (.inl (BP _ _ e (λz=>by rw[z,I]at e;cases e)))]
   .erw[.inl (.inr #[o,BP _ _ e (λz=>by rw[z,I]at e;cases e)])]
   .erw[.inr e])
  erw[k D y R ς _ ya (ye ac gD) L M3 gA (λj d=>#[(gS j d).1,(gS j d).2.told (r.b j d) (λz=>a0 j d (by rwa[<- z,(r.b j d).dO])) BP]) Y (λc o e nc no=>BP _ _ (gF c o e no) nc) λc o e=>?_];by_cases zc:c=p
  .rw[zc];erw[_,ya]
  .let#[o1,w1]:=gL c o e;erw[o1,BP _ _ w1 zc]
structure FA where
 dp:z4
 ll:z4
 bl:z4
 mp:z4
 mx:z4
 ml:z4
 el:z4
 pl:z4
 n:Nat
 bk:Μ
 dx:Μ
 lk:Μ
 dd:Μ
 sl:Μ
 kd:Ξ
 ps:Λ
structure FX where
 g:Nat->qj Int->Slt
 ws:Ρ
 sg:Ρ
 nd:Int
def FX.key(X:FX)(A:FA)(i:Nat):Ρ:=ctx (A.ps i) X.sg X.nd
noncomputable def FX.cs(X:FX)(A:FA):Ρ:=(List.range A.n).map λi=>(X.g i (X.key A i)).due
noncomputable def ndN(nd b:Int):Int:=if 0<nd then (if 256<=2*nd+b then 0 else 2*nd+b)else if b=1 then 1 else nd
noncomputable def sgN(sg:Ρ)(nd b:Int):Ρ:=if 0<nd then (if 256<=2*nd+b then sg++[2*nd+b-256]else sg)else if b=1 then sg else []
def FX.see(X:FX)(A:FA)(b:Int):FX:={ g:=λi k=>if k=X.key A i then (X.g i k).see b else X.g i k,ws:=lrn X.ws (X.cs A) b,sg:=sgN X.sg X.nd b,nd:=ndN X.nd b}
structure zv(K:z3)(a:Ads)(H:Hp)(p:z4)(A:FA)(X:FX)(f:Α)(O:Β)(m:Nat):Prop where
 me:H p∩a.A6 A.dp (ĺ (.ref A.ll) (.ref A.bl) (.ref A.mp) (.ref A.el) (.int X.nd) (.ref A.pl))
 bl:H A.bl\(refs A.bk A.n)
 el:H A.el\(X.sg.map V.int)
 mx:yma a A.mp A.mx A.ml X.ws H
 wok:WOk A.n X.ws
 pl:H A.pl\(refs A.sl A.n)
 B:Bks K a H A.n A.bk A.dx A.lk A.dd A.kd A.ps f O m
 ag:ypc A.n A.kd f X.g
 at':∀j,j<A.n->(∃s,f j (X.key A j)=some s)/\AtS H (A.dd j) (X.key A j) (A.sl j)
 np:∀i,i<A.n->¬O i p
 nm:∀i,i<A.n->¬O i A.mp
 n1:1<=A.n
 n6:A.n<=6
theorem zv.same{H H':Hp}{p:z4}{A:FA}{X:FX}{f:Α}{m:Nat}(h:zv K a H p A X f O m)(S:yz H H'):zv K a H' p A X f O m :=
 #[S _ _ h.me,S _ _ h.bl,S _ _ h.el,h.mx.same S,h.wok,S _ _ h.pl,h.B.same S,h.ag,λj c=>#[(h.at' j c).1,λi e=>by
  let#[g,k,d,_]:=(h.B.b j c).tb;rw[S _ _ d]at e;cases e;erw[(h.at' j c).2 _ d]],h.np,h.nm,h.n1,h.n6]
theorem zv.slot{H:Hp}{p:z4}{A:FA}{X:FX}{f:Α}{m:Nat}(h:zv K a H p A X f O m)(hj:j<A.n):
  f j (X.key A j)=some (X.g j (X.key A j))/\(∃dq,H (A.sl j)=some (oS a dq (X.g j (X.key A j))))/\(X.g j (X.key A j)).ok/\O j (A.sl j):=by let#[#[s,c],d]:=h.at' j hj;let e:=h.ag j hj (X.key A j);rw[c]at e;have e:s=X.g j (X.key A j):=e;rw[<- e];let#[dq,l,i,o,k]:=(h.B.b j hj).slot c d;erw[c,#[dq,l],i,k]
def zv.cok{H:Hp}{p:z4}{A:FA}{X:FX}{f:Α}{m:Nat}(h:zv K a H p A X f O m):COk A.n (X.cs A):=by
 exists by unfold FX.cs;rw[bw,c8],λc d=>?_,λc d=>?_
 .let#[j,b,J]:=ce.mp d;erw[(yf2 (h.slot (dy.mp b)).2.2.1).1]
 .let#[j,b,J]:=ce.mp d;erw[(yf2 (h.slot (dy.mp b)).2.2.1).2]
def LkG.at'{H:Hp}{lk tp:z4}{kd:Fin 3}{ps:Ρ}(h:LkG H (.ref lk) kd tp ps):jz K H lk (.str (kdS kd)) ps:=by
 let#[c,e,f,d,a]:=h;cases e;let a:=a;unfold uz at a;rw[cC,cC,List.all_eq_true]at a;erw[tp,SqT.of f,SqT.of d,λp b=>?_,by have:=of_decide_eq_true a.1.1;rw[bw]at this;erw[this]]
 let w:=a.1.2 (.int p) (ce.mpr #[p,b,J]);have w:(decide (1<=p) && decide (p<=8))=true:=w;rw[cC]at w;erw[of_decide_eq_true w.1,of_decide_eq_true w.2]
def Bks.snoc{H:Hp}{n m:Nat}{bk dx lk dd:Μ}{kd:Ξ}{ps:Λ}{f:Α}(h:Bks K a H n bk dx lk dd kd ps f O m)
  (hl:jz K H (lk n) (.str (kdS (kd n))) (ps n)) {q dq d:z4} {f':qj Int->ql Slt} {O':Ν} (hb:ą a H q dq (lk n) d (kd n) f' O' m) (dj:∀j c,j<n->O j c->¬O' c) (n1:∀j,j<n->¬O j q) (n2:∀j,j<n->¬O' (bk j)):
  Bks K a H (n+1) (upN bk n q) (upN dx n dq) lk (upN dd n d) kd ps (upN f n f') (upN O n O') m:=by
 erw[λi p=>?_,λi p=>?_,λi j c p s r o l=>?_,λi j p s e=>?_]
 .by_cases z:i=n
  .rw[z];erw[hl]
  .erw[h.look i ()]
 .by_cases z:i=n
  .subst z;rwa[w5,w5,w5,w5,w5,hb]
  .have g:i<n:=()
   rwa[wy g,wy g,wy g,wy g,wy g,h.b i g]
 .by_cases z:i=n
  .subst z;have k:j<i:=()
   rw[w5]at o;rw[wy k]at l;erw[dj j c k l o]
  .have g:i<n:=()
   rw[wy g]at o;by_cases w:j=n
   .subst w;rw[w5]at l;erw[dj i c g o l]
   .have k:j<n:=()
    rw[wy k]at l;erw[h.dj i j c g k r o l]
 .by_cases z:i=n
  .subst z;rw[w5]at e;by_cases w:j=i
   .subst w;rw[w5]at e;erw[hb.np e]
   .have k:j<i:=()
    rw[wy k]at e;erw[n2 j k e]
  .have g:i<n:=()
   rw[wy g]at e;by_cases w:j=n
   .subst w;rw[w5]at e;erw[n1 i g e]
   .have k:j<n:=()
    rw[wy k]at e;erw[h.nb i j g k e]
def ypg(K:z3)(a:Ads)(H G:Hp)(n:Nat)(bk dx lk dd:Μ)(kd:Ξ)(ps:Λ)(f:Α)(O:Β):Prop :=
 Bks K a G n bk dx lk dd kd ps f O 0/\(∀j k,j<n->f j k=none)/\(∀j c,j<n->O j c->H c=none)/\(∀j,j<n->H (bk j)=none)
def ypg.zero{H G:Hp}{bk dx lk dd:Μ}{kd:Ξ}{ps:Λ}{f:Α}:ypg K a H G 0 bk dx lk dd kd ps f O :=
 #[#[λi b=>absurd b (cP i),λi b=>absurd b (cP i),λi Z Z b=>absurd b (cP i),λi Z b=>absurd b (cP i)],λi Z b=>absurd b (cP i),λi Z b=>absurd b (cP i),λi b=>absurd b (cP i)]
def ypg.next{H G G2:Hp}{n:Nat}{bk dx lk dd:Μ}{kd:Ξ}{ps:Λ}{f:Α}(h:ypg K a H G n bk dx lk dd kd ps f O)(hl:jz K G (lk n) (.str (kdS (kd n))) (ps n))
  (S:yz H G) {q dq d D:z4} {xs ys:Υ} (hq:G q=none) (hd:G d=none) (S2:yz G G2) (hb:ą a G2 q dq (lk n) d (kd n) (λZ=>none) (λb=>b=d) 0) (hD:G D\xs):
  ypg K a H (upd G2 D (.lst ys)) (n+1) (upN bk n q) (upN dx n dq) lk (upN dd n d) kd ps (upN f n λZ=>none) (upN O n λb=>b=d):=by
 let#[s,v,u,x]:=h;have l:∀j c,j<n->O j c->∃o,G c=some o:=λj c g w=>let ⟨o,m,_⟩:=(s.b j g).own c w;#[o,m]
 let M:=(s.same S2).snoc (hl.same S2) hb (λj c g w z=>by
  let#[o,m]:=l j c g w;rw[show c=d from z,hd]at m
  cases m) (λj g w=>by
  let#[o,m]:=l j q g w;rw[hq]at m
  cases m) (λj g z=>by
  let e:=(s.b j g).me;rw[show bk j=d from z,hd]at e;cases e)
 let i:=S2 _ _ hD;let y:=M.nlst i;have p:∀c o,G2 c=some o->c≠D->upd G2 D (.lst ys) c=some o:=λc o e r=>ye r e;erw[M.frame (O2:=λc=>c=D) (λc o e r=>p c o e r) (λj c g w z=>y j g (z ▸ w)) (λj g z=>?_) (λt xs e=>?_),λj k g=>?_,λj c g w=>?_,λj g=>?_]
 .let e:=(M.b j g).me;rw[z,i]at e;cases e
 .rcases e with(e|⟨o,e⟩)|e
  .erw[.inl (.inl (p _ _ e (λz=>by rw[z,i]at e;cases e)))]
  .erw[.inl (.inr #[o,p _ _ e (λz=>by rw[z,i]at e;cases e)])]
  .erw[.inr e]
 .by_cases z:j=n
  .rw[z,w5]
  .rw[wy ()];erw[v j k ()]
 .by_cases z:j=n
  .rw[z,w5]at w;rwa[show c=d from w,S.free hd]
  .rw[wy ()]at w;erw[u j c () w]
 .by_cases z:j=n
  .rw[z,w5];erw[S.free hq]
  .rw[wy ()];erw[x j ()]
def ypg.ag{H G:Hp}{n:Nat}{bk dx lk dd:Μ}{kd:Ξ}{ps:Λ}{f:Α}(h:ypg K a H G n bk dx lk dd kd ps f O):ypc n kd f (λi Z=>kd0 (kd i)):=λi b k=>by
 rw[h.2.1 i k b];rfl
def FX0(n:Nat)(kd:Ξ):FX:={ g:=λi Z=>kd0 (kd i),ws:=List.replicate n 1099511627776,sg:=[],nd:=0}
def ym3{g:Μ}{n:Nat}{x:V}(h:x∈refs g n):∃i,i<n/\x=.ref (g i):=by unfold refs at h;let#[i,a,e]:=ce.mp h;erw[i,dy.mp a,e.symm]
def x9.lks{H:Hp}{n:Nat}{lk:Μ}{kd:Ξ}{ps:Λ}(h:x9 H n lk kd tp ps):Lks H (refs lk n):=λy b=>by
 let#[i,a,J]:=ym3 b;erw[_,_,_,h i a]
theorem zv.frame{H H':Hp}{p:z4}{A:FA}{X:FX}{f:Α}{m:Nat}(h:zv K a H p A X f O m){O2:Ν}(B:yph O2 H H')(hp:¬O2 p)(hm:¬O2 A.mp)(hb:∀i,i<A.n->¬O2 (A.bk i))
  (dj:∀i c,i<A.n->O i c->¬O2 c) (hl:∀l xs,(l=A.bl\/l=A.el\/l=A.ml\/l=A.pl)->H l\xs->H' l\xs) (ht:∀t xs,SqT K H t xs->SqT K H' t xs):zv K a H' p A X f O m :=
 #[B _ _ h.me hp,hl _ _ (.inl J) h.bl,hl _ _ (.inr (.inl J)) h.el,#[B _ _ h.mx.o hm,hl _ _ (.inr (.inr (.inl J))) h.mx.l],h.wok,hl _ _ (.inr (.inr (.inr J))) h.pl,h.B.frame B (λi c r w=>dj i c r w) hb ht,h.ag,λj d=>#[(h.at' j d).1,λq e=>by
  let#[k,s,g,_]:=(h.B.b j d).tb;rw[B _ _ g (dj j _ d (h.B.b j d).dO)]at e;cases e;erw[(h.at' j d).2 _ g]],h.np,h.nm,h.n1,h.n6]
def yvl{G:Hp}{t c:z4}{xs ys zs:Υ}(hc:G c\ys)(e:SqT K G t xs):SqT K (upd G c (.lst zs)) t xs:=by
 rcases e with(e|⟨o,e⟩)|e
 .erw[.inl (.inl (ye (xf e hc 'z') e))]
 .erw[.inl (.inr #[o,ye (xf e hc 'z') e])]
 .erw[.inr e]
def zv.app{H:Hp}{p R:z4}{A:FA}{X:FX}{f:Α}{m:Nat}{xs ys:Υ}(h:zv K a H p A X f O m)(hR:H R\xs)(hq:∀q,(q=A.bl\/q=A.el\/q=A.ml\/q=A.pl)->q≠R):zv K a (upd H R (.lst ys)) p A X f O m:=by
 erw[h.frame (O2:=λc=>c=R) (λc o e g=>ye g e) (λz=>?_) (λz=>?_) (λi d z=>?_) (λi c d w z=>h.B.nlst hR i d (z ▸ w)) (λl xs w e=>ye (hq l w) e) (λt xs e=>yvl hR e)]
 .let e:=h.me;rw[z,hR]at e;cases e
 .let e:=h.mx.o;rw[z,hR]at e;cases e
 .let e:=(h.B.b i d).me;rw[z,hR]at e;cases e
def ve7(n:Nat)(n1:1<=n)(n6:n<=6):WOk n (List.replicate n 1099511627776):=by refine#[List.length_replicate,λw h=>?_,λw h=>?_]<;>(rw[List.eq_of_mem_replicate h];decide)
#synth yzi ["self","looks"] vdh
structure vk4(K:z3)(a:Ads)(H H':Hp)(p:z4)(n:Nat)(lk:Μ)(kd:Ξ)(ps:Λ)(A:FA)(f:Α)(O:Β):Prop where
 ft:zv K a H' p A (FX0 n kd) f O 6
 en:A.n=n
 elk:A.lk=lk
 ekd:A.kd=kd
 eps:A.ps=ps
 oO:∀j c,j<n->O j c->H c=none
 oB:∀j,j<n->H (A.bk j)=none
 oM:H A.mp=none
 oL:∀l,(l=A.bl\/l=A.el\/l=A.ml\/l=A.pl)->H l=none
 lo:H' A.ll\(refs lk n)/\A.ll≠A.el/\H A.ll=none
inductive yex(K:z3)(a:Ads)(vs:Υ)(H:Hp)(Q:VK)(E:XK):Prop
 | mk(p dp:z4)(x:V)(_:vs=[.ref p,x])(_:H p∩a.A6 dp [])(_:((vjm K H x/\∀H',yz H H'->E (.ref a.Ha) none H')\/∃(l:z4)(n:Nat)(lk:Μ)(kd:Ξ)(tp:Μ)(ps:Λ),x=.ref l/\H l\(refs lk n)/\1<=n/\n<=6/\x9 H n lk kd tp ps/\
  ∀A f O H',vk4 K a H H' p n lk kd ps A f O->But p H H'->Q .non H'))
def yqe:'e' 6 a.Hx a.Pi ["self","looks"] (yex K a):=by
 exists T.Kc.F.okE,yzi,hr;let#[p,f,x,J,hp,h]:=h;erw[yg (vg (pv 0) (uh (yp4 T) hr.m T.K8 yt (pav 1)) J) ?_,<-yg (vg (pv 0) (vt (js:=[]) (ys:=[]) J (wg pfs) (λC s2 H2 fp=>(Ê T.Sg (yzw T) hr.m J T.Sf T.Rg.B .nil vv (pav 0))) J J (hyc:=yu) (hrel:=yu)) J) ?_,<-yg (vg (pv 0) (Ê T.Ui (yza T) hr.m J T.Uh T.Rh.B .nil vv (pa1 (pcB yr T.A9 (pa1 pfs)))) J) ?_,<-yg (vg (pv 0) (wk u8) J) ?_,<-yg (vg (pv 0) yf J) ?_,<-yg (vg (pv 0) (wk u8) J) ?_];exists 2,0,yc (yy (vi (pv 0) T.Ad T.Fg.m (yso T) hr.m T.Fg.B .nil vv));rcases h with⟨hb,k⟩|⟨l,n,lk,kd,tp,ps,rfl,hl,n1,n6,am,k⟩
 .erw[vct hb k]
 .erw[vfq hl (by rwa[v8,n1]) (by rwa[v8,n6]) am.lks λg H1 ak aF S1=>?_];let aX:=S1 _ _ hp;let aU:=am.same S1;ext;have U:upd H1 p (HO.ins a.A6 f ([("looks",V.ref g)]:Ι)) p=some (HO.ins a.A6 f ([("looks",V.ref g)]:Ι)):=ya;have BA:But p H1 (upd H1 p (HO.ins a.A6 f ([("looks",V.ref g)]:Ι))):=But.upd;have a2:g≠p:=(yb hp ak).symm;have I:upd H1 p (HO.ins a.A6 f ([("looks",V.ref g)]:Ι)) g\(refs lk n):=ye a2 aF;generalize upd H1 p (HO.ins a.A6 f ([("looks",V.ref g)]:Ι))=HA at U BA I⊢;have a4:But p H HA:=(But.of S1).trans BA
  have aM:x9 HA n lk kd tp ps:=λi hi=>by
   let#[q,e,h1,h2,h3]:=am i hi;erw[q,e,a4 _ _ h1 (xf h1 hp 'z'),a4 _ _ h2 (xf h2 hp 'z'),h3]
  erw[p,_,f,_,_,J,U,T.Ad,T.C0,J,?_,<-g,J,#[_,SqL.of I],λu Y=>?_];refine jd (K:=K) (xs:=refs lk n) (λi G=>∃(bk dx dd:Μ)(f2:Α)(O2:Β),G u\(refs bk i)/\ypg K a HA G i bk dx lk dd kd ps f2 O2/\yz HA G)
   #[λF=>0,λF=>0,λF=>0,λF F=>none,λF F=>False,ya,ypg.zero,y7 Y] (λi G F z=>?_) (λi y G hy hi z=>?_) (λG z=>?_)
  .let#[_,_,_,_,_,_,_,SG]:=z;erw[SqL.of (SG _ _ I)]
  .let#[bk,dx,dd,f2,O2,aa,gN,SG]:=z;let#[J,aS]:=u9 hy;ext;intro q dq nq aT aY;have SQ:yz G (upd (upd G dq (.own q)) q (.ins a.Aj dq [])):=λb o e=>by rw[yk (yb e nq),yk (yb e aT)];exact e
   erw[q,dq,lk i,kd i,J,ya,λd G2 aQ aL B2=>#[J,?_]];have aq:yz G G2:=λb o e=>B2 b o (SQ b o e) (yb e nq);erw[xh (n:=(refs lk n).length) (aq _ _ aa) (ve (by rw[v8];omega)) hi ?_,<-_,_,_,_,_,?_,gN.next ((aM i aS).same SG).at' SG nq (SQ.free aQ) aq aL aa,λb o e=>ye (yb e Y) (aq _ _ (SG b o e))];rw[ya,ud,w5]
   congr 3
   erw[ub λj r=>(wy r).symm]
  let#[bk,dx,dd,f2,O2,aa,gN,SG]:=z;rw[v8]at aa gN;let au:=SG _ _ U;ext;have ax:∀c o,HA c=some o->c≠p->upd G p (HO.ins a.A6 f ([("looks",V.ref g),("books",V.ref u)]:Ι)) c=some o:=λc o e ς=>ye ς (SG _ _ e);have a5:upd G p (HO.ins a.A6 f ([("looks",V.ref g),("books",V.ref u)]:Ι)) p=some (HO.ins a.A6 f ([("looks",V.ref g),("books",V.ref u)]:Ι)):=ya;have ae:u≠p:=(yb U Y).symm;have ai:upd G p (HO.ins a.A6 f ([("looks",V.ref g),("books",V.ref u)]:Ι)) u\(refs bk n):=ye ae aa;have BP:∀{fs:Ι},But p G (upd G p (HO.ins a.A6 f fs)):=But.upd
  have ab:∀j,j<n->¬O2 j p:=λj r w=>by
   let e:=gN.2.2.1 j p r w;rw[U]at e;cases e
  have aC:∀{G':Hp},But p G G'->Bks K a G' n bk dx lk dd kd ps f2 O2 0:=λ{G'}B=>gN.1.frame (O2:=λc=>c=p) (λc o e ς=>B c o e ς) (λj c r w z=>ab j r (z ▸ w)) (λj r z=>by
   let e:=gN.2.2.2 j r;rw[z,U]at e
   cases e) (λt xs e=>by
   rcases e with(e|⟨o,e⟩)|e
   .erw[.inl (.inl (B _ _ e (λz=>by rw[z,au]at e;cases e)))]
   .erw[.inl (.inr #[o,B _ _ e (λz=>by rw[z,au]at e;cases e)])]
   .erw[.inr e])
  have BB:But p G (upd G p (HO.ins a.A6 f ([("looks",V.ref g),("books",V.ref u)]:Ι))):=But.upd;generalize upd G p (HO.ins a.A6 f ([("looks",V.ref g),("books",V.ref u)]:Ι))=HB at ax a5 ai BB⊢;erw[p,_,f,_,_,J,a5,T.Ad,T.C0,J,?_,<-zd (SqL.of (ax _ _ I a2)) ?_];rw[v8];ext;intro D mx a8 aG aZ;have SM:yz HB (upd (upd HB mx (.own D)) D (.ins a.C6 mx [])):=λb o e=>by rwa[yk (yb e a8),yk (yb e aG),e]
  erw[D,mx,n,J,n1,n6,ya,λml HC aE MC BC=>#[J,?_]];have SC:yz HB HC:=λb o e=>BC b o (SM b o e) (yb e a8);let aV:=SC _ _ a5;let aB:=SC _ _ ai;have a6:HB ml=none:=SM.free aE;have O:D≠p:=(yb a5 a8).symm;have a0:ml≠p:=(yb a5 a6).symm;ext;exists 'l',λM Z=>?_
  have W:M≠p:=λz=>by rw[z,ya]at Z;cases Z
  have S:HC M=none:=by rw[yk W]at Z;erw[Z]
  have aN:upd (upd HC p (HO.ins a.A6 f ([("looks",V.ref g),("books",V.ref u),("mixer",V.ref D)]:Ι))) M (.lst []) p=some (HO.ins a.A6 f ([("looks",V.ref g),("books",V.ref u),("mixer",V.ref D)]:Ι)):=ye W.symm ya;have ah:upd (upd HC p (HO.ins a.A6 f ([("looks",V.ref g),("books",V.ref u),("mixer",V.ref D)]:Ι))) M (.lst []) M\[]:=ya;have BD:But p HC (upd (upd HC p (HO.ins a.A6 f ([("looks",V.ref g),("books",V.ref u),("mixer",V.ref D)]:Ι))) M (.lst [])):=λb o e ς=>ye (yb e S) (ye ς e);generalize upd (upd HC p (HO.ins a.A6 f ([("looks",V.ref g),("books",V.ref u),("mixer",V.ref D)]:Ι))) M (.lst [])=HD at aN ah BD⊢;ext;exists 'l',λL X=>?_
  have ar:L≠p:=λz=>by rw[z,ya]at X;cases X
  have al:HD L=none:=by rw[yk ar,yk ar]at X;erw[X]
  have aP:upd (upd (upd HD p (HO.ins a.A6 f ([("looks",V.ref g),("books",V.ref u),("mixer",V.ref D),("ended",V.ref M)]:Ι))) p (HO.ins a.A6 f ([("looks",V.ref g),("books",V.ref u),("mixer",V.ref D),("ended",V.ref M),("place",V.int 0)]:Ι))) L (.lst []) p=some (HO.ins a.A6 f ([("looks",V.ref g),("books",V.ref u),("mixer",V.ref D),("ended",V.ref M),("place",V.int 0)]:Ι)):=ye ar.symm ya;have BE:But p HD (upd (upd (upd HD p (HO.ins a.A6 f ([("looks",V.ref g),("books",V.ref u),("mixer",V.ref D),("ended",V.ref M)]:Ι))) p (HO.ins a.A6 f ([("looks",V.ref g),("books",V.ref u),("mixer",V.ref D),("ended",V.ref M),("place",V.int 0)]:Ι))) L (.lst [])):=λb o e ς=>ye (yb e al) (ye ς (ye ς e));generalize upd (upd (upd HD p (HO.ins a.A6 f ([("looks",V.ref g),("books",V.ref u),("mixer",V.ref D),("ended",V.ref M)]:Ι))) p (HO.ins a.A6 f ([("looks",V.ref g),("books",V.ref u),("mixer",V.ref D),("ended",V.ref M),("place",V.int 0)]:Ι))) L (.lst [])=HE at aP BE⊢;ext;have BF:But p HE (upd HE p (.ins a.A6 f (ĺ (.ref g) (.ref u) (.ref D) (.ref M) (.int 0) (.ref L)))):=But.upd;have a9:upd HE p (.ins a.A6 f (ĺ (.ref g) (.ref u) (.ref D) (.ref M) (.int 0) (.ref L))) p∩a.A6 f (ĺ (.ref g) (.ref u) (.ref D) (.ref M) (.int 0) (.ref L)):=ya;generalize upd HE p (.ins a.A6 f (ĺ (.ref g) (.ref u) (.ref D) (.ref M) (.int 0) (.ref L)))=HF at a9 BF⊢;have ac:But p HC HF:=(BD.trans BE).trans BF;have a1:But p G HF:=λb o e ς=>ac b o (SC _ _ (BB b o e ς)) ς;let aD:=ac _ _ MC.o O;let aA:=ac _ _ MC.l a0;let as:=ac _ _ aB ae;let ap:=BF _ _ (BE _ _ ah W) W;erw[p,f,g,u,D,M,L,0,[],n,0,bk,dx,lk,dd,kd,ps,f2,O2,λi F=>kd0 (kd i),J,a9,as,ap,aC a1,gN.ag,n6,(),ab,λpl sl f' O' H' aI aH aj B' aK aJ ad F' L'=>?_]
  have a3:∀{c:z4},c≠p->HF c=none->G c=none:=λ{c}ς h=>by
   cases e:G c with
   |none=>rfl
   |some o=>rw[a1 _ _ e ς]at h;cases h
  have ao:∀j c,j<n->O2 j c->∃o,G c=some o:=λj c r w=>let ⟨o,ho,_⟩:=(gN.1.b j r).own c w;#[o,ho]
  have nO:∀{c:z4}{o:HO},HF c=some o->yw8 o=false->∀j,j<n->¬O2 j c:=λ{c o}e hi j r w=>by
   let#[o',az,av]:=((aC a1).b j r).own c w;rw[e]at az;cases az;rw[hi]at av;cases av
  have ay:∀j,j<n->¬O2 j D:=λj r w=>by
   let#[o,ho]:=ao j D r w;let e:=BB _ _ ho O;rw[a8]at e;cases e
  have N:∀{c:z4},c≠p->HA c=none->H c=none:=λ{c}ς h=>by
   cases e:H c with
   |none=>rfl
   |some o=>rw[a4 _ _ e ς]at h;cases h
  have R:∀{c:z4},G c=none->HA c=none:=λ{c}h=>SG.free h
  have a7:∀{c:z4},c≠p->HB c=none->G c=none:=λ{c}ς h=>by
   cases e:G c with
   |none=>rfl
   |some o=>rw[BB _ _ e ς]at h;cases h
  have aw:∀{c:z4},HC c=none->HB c=none:=λ{c}h=>SC.free h;erw[k #[f,g,u,D,mx,ml,M,pl,n,bk,dx,lk,dd,sl,kd,ps] f' O' H' #[#[aI,F' _ _ as ae (nO as J),F' _ _ ap W (nO ap J),#[F' _ _ aD O ay,F' _ _ aA a0 (nO aA J)],?_,aH,#[B'.look,λi hi=>(B'.b i hi).up (),B'.dj,B'.nb],aK,aJ,λj r w=>?_,λj r w=>?_,n1,n6],J,J,J,J,λj c r w=>?_,λj r=>?_,?_,λc hc=>?_,F' _ _ (a1 _ _ (SG _ _ I) a2) a2 (nO (a1 _ _ (SG _ _ I) a2) J),yb (SC _ _ (BB _ _ (SG _ _ I) a2)) S,ak] ?_]
  .erw[ve7 n n1 n6]
  .rcases ad j p r w with v|v
   .erw[ab j r v]
   .rw[a9]at v;cases v
  .rcases ad j D r w with v|v
   .erw[ay j r v]
   .rw[aD]at v;cases v
  .have an:c≠p:=λz=>by
    rw[z]at w;rcases ad j p r w with v|v
    .erw[ab j r v]
    .rw[a9]at v;cases v
   rcases ad j c r w with v|v
   .erw[N an (gN.2.2.1 j c r v)]
   .erw[N an (R (a3 an v))]
  .have aO:bk j≠p:=λz=>by
    let e:=gN.2.2.2 j r;rw[z,U]at e;cases e
   erw[N aO (gN.2.2.2 j r)]
  .erw[N O (R (a7 O a8))]
  .rcases hc with z|z|z|z
   .rw[z];erw[N ae Y]
   .rw[z];erw[N W (R (a7 W (aw S)))]
   .rw[z];erw[N a0 (R (a7 a0 a6))]
   .rw[z];have af:pl≠p:=(yb a9 aj).symm;erw[N af (R (a3 af aj))]
  .intro c o e ς;erw[F' c o (a1 _ _ (SG _ _ (a4 c o e ς)) ς) ς λj r w=>?_];let e2:=gN.2.2.1 j c r w;rw[a4 c o e ς]at e2;cases e2
theorem yd2:∀(ts:Ρ)(q j:Nat)(s:Int),ts[q]?=some s->j<=8->(dec ts)[9*q+j]?=(1::b8 s)[j]?
 |[],_,_,_,h,_=>by simp at h
 |t::r,0,j,s,h,hj=>by
  have e:t=s:=by simpa using h
  subst e;show ((1::b8 t)++dec r)[9*0+j]?=_;rw[Nat.mul_zero,Nat.zero_add,dh (by rw[cD,yr4];omega)]
 |t::r,q+1,j,s,h,hj=>by
  have b:r[q]?=some s:=by simpa using h
  show ((1::b8 t)++dec r)[9*(q+1)+j]?=_;have a:(1::b8 t).length=9:=rfl;rw[dz (by rw[a];omega),a,show 9*(q+1)+j-9=9*q+j by omega];erw[yd2 r q j s b hj]
def yur(ts:Ρ):(dec ts)[9*ts.length]?=some 0:=by rw[yo8,dz (by rwa[τ,cc _]),τ,Nat.sub_self];rfl
def ya7(ts:Ρ)(k:Nat)(sg:Ρ)(nd:Int):Prop:=∃q j:Nat,k=9*q+j/\j<=8/\sg=ts.take q/\((j=0/\nd=0/\q<=ts.length)\/(1<=j/\∃s,ts[q]?=some s/\nd=(256+s)/2^(9-j)))
def vin{s P c:Int}(h:0<=s/\s<=255)(hP:2<=P)(hc:P*(2*c)=256)(c1:1<=c/\c<=64):0<(256+s)/(2*P)/\2*((256+s)/(2*P))+s/P%2<256/\2*((256+s)/(2*P))+s/P%2=(256+s)/P:=by
 have a:(256+s)/P=s/P+2*c:=by rw[<- hc,Int.add_comm,Int.add_mul_ediv_left _ _ ()]
 have b:(256+s)/(2*P)=(s/P+2*c)/2:=by rw[<- a,Int.ediv_ediv_of_nonneg (show 0<=P by omega),Int.mul_comm]
 let e:=Int.ediv_nonneg h.1 (show 0<=P by omega);let d:=Int.ediv_lt_of_lt_mul (show 0<P by omega) (show s<128*P by omega);rw[a,b];generalize s/P=y at e d;clear hc a b hP h;omega
def nd9{s:Int}(h:0<=s/\s<=255)(h1:1<=j)(hj:j<=8):0<(256+s)/2^(9-j)/\(256+s)/2^(9-j)<256:=by
 have a:∀j,j<9->1<=j->(2:Int)<=2^(9-j)/\(2:Int)^(9-j)<=256:=∅
 let#[b,c]:=a j (Nat.lt_succ_of_le hj) h1;generalize (2:Int)^(9-j)=K at b c;erw[Int.le_ediv_of_mul_le () (),Int.ediv_lt_of_lt_mul () ()]
def ya7.zero(ts:Ρ):ya7 ts 0 [] 0:=#[0,0,J,(),'s',.inl #[J,J,cI _]]
theorem ya7.nd{k:Nat}{sg:Ρ}{nd:Int}(h:ya7 ts k sg nd)(hs:Sgs ts):0<=nd/\nd<256:=by
 let#[q,j,_,e,_,h]:=h;rcases h with⟨_,h,_⟩|⟨d,s,c,h⟩
 .omega
 .let#[a,b]:=nd9 (hs s (cz c)) d e;rwa[h,#[Int.le_of_lt a,b]]
def ya7.len{k:Nat}{sg:Ρ}{nd:Int}(h:ya7 ts k sg nd):sg.length<=ts.length:=by let#[q,j,_,_,a,_]:=h;rw[a,cG];omega
def ya7.next{k:Nat}{sg:Ρ}{nd b:Int}(h:ya7 ts k sg nd)(hs:Sgs ts)(hb:(dec ts)[k]?=some b):
  (k<9*ts.length/\ya7 ts (k+1) (sgN sg nd b) (ndN nd b))\/(k=9*ts.length/\sgN sg nd b=[]/\ndN nd b=0):=by
 let#[q,j,p,v,g,h]:=h;rcases h with⟨w,d,A⟩|⟨D,s,a,d⟩
 .subst w;rcases Nat.lt_or_ge q ts.length with m|m
  .erw[.inl #[(),?_]];let e:=yd2 ts q 0 ts[q] (bP m) ();rw[<- p,hb]at e;have e:b=1:=by simpa using e
   have:=hs ts[q] (cV m);unfold sgN ndN;rwa[if_neg (),if_pos e,if_neg (),if_pos e,#[q,1,(),(),g,.inr #[(),ts[q],bP m,?_]]]
   simp only[Nat.reduceSub,Int.reducePow];omega
  .have r:q=ts.length:=()
   let e:=yur ts;rw[<- r,show 9*q=k by omega,hb]at e;have e:b=0:=by simpa using e
   erw[.inr #[(),?_,?_]]
   .unfold sgN;rw[if_neg (),if_neg ()]
   .unfold ndN;rwa[if_neg (),if_neg (),d]
 .let n:=hs s (cz a);have m:q<ts.length:=(ck.mp a).1;let e:=yd2 ts q j s a v;rw[<- p,hb]at e
  have l:some b=(b8 s)[j-1]?:=by
   obtain⟨i,rfl⟩:∃i,j=i+1:=#[j-1,()];simpa using e
  erw[.inl #[(),?_]];by_cases h8:j=8
  .subst h8;have l:b=s/1%2:=cu l;simp only[Nat.reduceSub,Int.reducePow]at d;have B:2*nd+b=256+s:=()
   unfold sgN ndN;rwa[if_pos (),if_pos (),if_pos (),if_pos (),#[q+1,0,(),(),?_,.inl #[J,J,()]]]
   rw[g,show 2*nd+b-256=s by omega,jc a]
  .have o:0<nd/\2*nd+b<256/\2*nd+b=(256+s)/2^(9-(j+1)):=by
    have k:∀P c:Int,2<=P->P*(2*c)=256->1<=c/\c<=64->nd=(256+s)/(2*P)->b=s/P%2->0<nd/\2*nd+b<256/\2*nd+b=(256+s)/P:=λP c x y z e f=>by
     rwa[e,f,vin n x y z]
    clear p hb e g m hs;obtain rfl|rfl|rfl|rfl|rfl|rfl|rfl:j=1\/j=2\/j=3\/j=4\/j=5\/j=6\/j=7:=()
    .erw[k 128 1 ∅ J ∅ d (cu l)]
    .erw[k 64 2 ∅ J ∅ d (cu l)]
    .erw[k 32 4 ∅ J ∅ d (cu l)]
    .erw[k 16 8 ∅ J ∅ d (cu l)]
    .erw[k 8 16 ∅ J ∅ d (cu l)]
    .erw[k 4 32 ∅ J ∅ d (cu l)]
    .erw[k 2 64 ∅ J ∅ d (cu l)]
   let#[t,C,u]:=o;unfold sgN ndN;rwa[if_pos t,if_neg (),if_pos t,if_neg (),#[q,j+1,(),(),g,.inr #[(),s,a,u]]]
theorem zv.up{H:Hp}{p:z4}{A:FA}{X:FX}{f:Α}{m:Nat}(h:zv K a H p A X f O m)(hm:m<=m'):zv K a H p A X f O m' :=
 #[h.me,h.bl,h.el,h.mx,h.wok,h.pl,#[h.B.look,λi c=>(h.B.b i c).up hm,h.B.dj,h.B.nb],h.ag,h.at',h.np,h.nm,h.n1,h.n6]
structure Lw(K:z3)(a:Ads)(H:Hp)(p:z4)(A:FA)(X:FX)(f:Α)(O:Β)(m:Nat)(bk dx dd:Μ)(f2:Α)(O2:Β)(mp mx ml:z4)(ws:Ρ):Prop where
 ft:zv K a H p A X f O m
 bs:Bks K a H A.n bk dx A.lk dd A.kd A.ps f2 O2 m
 mx:yma a mp mx ml ws H
 dj:∀i j c,i<A.n->j<A.n->O i c->¬O2 j c
 n1:∀i j,i<A.n->j<A.n->¬O i (bk j)
 n2:∀i j,i<A.n->j<A.n->¬O2 i (A.bk j)
 n3:∀i,i<A.n->¬O2 i p/\¬O2 i A.mp/\¬O2 i mp/\¬O i mp
 n4:mp≠A.mp
 n5:ml≠A.el
end
section
variable{H H':Hp}{p:z4}{A:FA}{X:FX}{f:Α}{m:Nat}{bk dx dd:Μ}{f2:Α}{mp mx ml:z4}{ws:Ρ}
def zr{C d e:z4}{fs gs:Ι}(hp:H p∩C d fs)(hq:H q∩D e gs)(hl:fs.length≠gs.length):p≠q:=λz=>by
 rw[z,hq]at hp;injection hp with hp;injection hp with _ _ e;erw[hl (congrArg List.length e).symm]
end
mutual
def KpA(B G:Hp)(e0 e:z4):Prop:=∀c o,B c=some o->yw8 o=false->c≠e0->c≠e/\G c=some o
theorem KpA.lst{B G:Hp}{e0 e c:z4}{xs:Υ}(h:KpA B G e0 e)(hc:B c\xs)(ne:c≠e0):G c\xs:=(h c _ hc J ne).2
def TxE(ts:Ρ)(k:Nat)(sg:Ρ)(nd:Int):Prop:=(k<=9*ts.length/\ya7 ts k sg nd)\/(k=9*ts.length+1/\sg=[]/\nd=0)
theorem TxE.next{k:Nat}{sg:Ρ}{nd b:Int}(h:TxE ts k sg nd)(hs:Sgs ts)(hb:(dec ts)[k]?=some b):ya7 ts k sg nd/\TxE ts (k+1) (sgN sg nd b) (ndN nd b):=by
 rcases h with⟨c,h⟩|⟨c,_⟩
 .erw[h,?_];rcases h.next hs hb with⟨e,a⟩|⟨e,a,d⟩
  .erw[.inl #[(),a]]
  .erw[.inr #[(),a,d]]
 .rw[c,cT (by rwa[xv,cc _])]at hb;cases hb
#synth vcm ["self"] veo
#synth ∀(K:z3)(a:Ads),∀(p:z4)(A:FA)(X:FX)(f:Α)(O:Β)(m:Nat)(_:vs=[.ref p])(_:zv K a H p A X f O m)(_:∀r H',H r=none->H' r\((X.cs A).map V.int)->yz H H'->Q (.ref r) H'),ydj
def ylo:'v' 2 a.Mt a.Pk ["self"] (ydj K a):=by
 exists T.De.F.ok,vcm,o;let#[p,c,X,f,O,m,J,h,k]:=h;let L:=h.me;let M:=h.n6;exists 1,0,yc (ym (vt (js:=[]) (ys:=[]) J (wg pfs) (λC ς r I=>(ı (vi (pv 0) T.Az T.Jw.m (yzl T) o.m T.Jw.B .nil vv) (ı (vi (pv 0) T.Bn T.Jy.m (yy8 T) o.m T.Jy.B .nil vv) (vi (pv 0) T.Bo T.K1.m (yz0 T) o.m T.K1.B .nil vv)))) J J (hyc:=yu) (hrel:=yu)));erw[c.pl,J,#[_,SqL.of h.pl],λD e=>?_,<-jd (K:=K) (xs:=refs c.sl c.n) (Mp H D (λi=>V.int (X.g i (X.key c i)).due)) (Mp.zero e) (λZ Z Z q=>q.1.seq (SqL.of h.pl)) (λi y r x G q=>?_) (λr q=>?_)]
 .let#[d,b]:=q;let#[J,l]:=u9 x;let#[_,#[R,z],v,_]:=h.slot l;erw[yh0 (λN h=>vgn J h) (d _ _ z) v ?_,<-Mp.doneR e (ve (by rw[v8];omega)) G d b J]
 .let#[d,b]:=q;rw[v8]at b;erw[k D _ e ?_ d];rw[b];unfold FX.cs;rw[cL];rfl
#synth vb4 ["self"] vek
#synth ∀(K:z3)(a:Ads),∀(p:z4)(A:FA)(X:FX)(f:Α)(O:Β)(m:Nat)(_:vs=[.ref p])(_:zv K a H p A X f O m)(_:∀H',yz H H'->Q (.int (yl6 X.ws (X.cs A))) H'),ygk
def ylk:'v' 3 a.Mu a.Pl ["self"] (ygk K a):=by exists T.Dh.F.ok,vb4,g;let#[p,b,X,f,O,m,J,h,k]:=h;let u:=h.me;let t:=h.mx.o;exists 1,0,yc (ym (ww pfs T.Fs T.Ka.m (yxg T) g.m T.Ka.B .nil vv (pa1 (vi (pv 0) T.Ad T.De.m (ylo T) g.m T.De.B .nil vv))));erw[p,b,X,f,O,m,J,h,λr x q c e=>?_,←b.mp,b.mx,b.ml,r,X.ws,X.cs b,b.n,J,h.n1,h.n6,h.wok,h.cok,h.mx.same e,SqL.of c,λv i=>k _ (e.trans i)]
#synth vcs ["self","bit"] vd7
#synth ∀(a:Ads),∀(p dp ll bl mp el pl:z4)(nd b:Int)(sg:Ρ)(_:vs=[.ref p,.int b])(_:H p∩a.A6 dp (ĺ (.ref ll) (.ref bl) (.ref mp) (.ref el) (.int nd) (.ref pl)))(_:H el\(sg.map V.int))(_:sg.length<=100000)(_:0<nd)(_:∀H',H' p∩a.A6 dp (ĺ (.ref ll) (.ref bl) (.ref mp) (.ref el) (.int (ndN nd b)) (.ref pl))->H' el\((sgN sg nd b).map V.int)->(∀c o,H c=some o->c≠p->c≠el->H' c=some o)->Q .non H'),yut
def yzs:'v' 1 a.Mx a.Po ["self","bit"] (yut a):=by
 exists T.Ke.F.ok,vcs,O;let#[p,m,q,l,r,i,n,g,b,B,J,L,C,M,y,k]:=h;erw[_,(yh (vg (pv 0) (yn v9 (yn w4 yf pfs) (pv 1)) J) (yc (vj (yp ywu pfs (vy J T.D4) (yw _)) (yh (yy ('u' pfs (pa1 (yn zq pfs (vy J T.D4))))) (yc (vg (pv 0) yf J))) yq))),?_];exists 2,0;unfold ndN sgN at k;rw[if_pos y,if_pos y]at k;have j:i≠p:=xf C L 'z';ext;have f:upd H p (.ins a.A6 m (ĺ (.ref q) (.ref l) (.ref r) (.ref i) (.int (2*g+b)) (.ref n))) p∩a.A6 m (ĺ (.ref q) (.ref l) (.ref r) (.ref i) (.int (2*g+b)) (.ref n)):=ya;let d:=ye (o':=HO.ins a.A6 m (ĺ (.ref q) (.ref l) (.ref r) (.ref i) (.int (2*g+b)) (.ref n))) j C;have x:But p H (upd H p (.ins a.A6 m (ĺ (.ref q) (.ref l) (.ref r) (.ref i) (.int (2*g+b)) (.ref n)))):=But.upd;generalize upd H p (.ins a.A6 m (ĺ (.ref q) (.ref l) (.ref r) (.ref i) (.int (2*g+b)) (.ref n)))=N at f d x⊢;ext;erw[z9 (λt=>?_) (λt=>?_)]
 .rw[if_pos t,if_pos t]at k;ext;erw[jj d ?_,←xx d (ve (by rw[bw];omega)) ?_];let I:=ye (o':=HO.lst (List.map V.int B++[V.int (2*g+b-256)])) (Ne.symm j) f;ext;erw[k _ ya ?_ λc o e u D=>ye u (ye D (x _ _ e u))];rw[yk j,ya,cy];rfl
 .rw[if_neg t,if_neg t]at k;ext;erw[k _ f d λc o e u D=>x _ _ e u]
#synth vcj ["self","bit"] vew
#synth ∀(a:Ads),∀(p dp ll bl mp el pl:z4)(nd b:Int)(sg:Ρ)(_:vs=[.ref p,.int b])(_:H p∩a.A6 dp (ĺ (.ref ll) (.ref bl) (.ref mp) (.ref el) (.int nd) (.ref pl)))(_:H el\(sg.map V.int))(_:sg.length<=100000)(_:0<=nd)(_:∀(el':z4)H',(el'=el\/H el'=none)->H' p∩a.A6 dp (ĺ (.ref ll) (.ref bl) (.ref mp) (.ref el') (.int (ndN nd b)) (.ref pl))->H' el'\((sgN sg nd b).map V.int)->(∀c o,H c=some o->c≠p->c≠el->H' c=some o)->(∃o,H' el=some o)->Q .non H'),yot
def yx6:'v' 2 a.Mw a.Pn ["self","bit"] (yot a):=by
 exists T.Kd.F.ok,vcj,R;let#[p,y,G,v,I,g,D,x,b,C,J,j,i,N,W,k]:=h;erw[_,(yc (vj (yp yhj pfs yf (yw _)) (yc (yy (ww (pv 0) T.Ad T.Ke.m (yzs T) R.m T.Ke.B .nil vv (pav 1)))) (yc (vj (yp w6 (pv 1) yf (yw _)) (yc (vg (pv 0) yf J)) (yc (vg (pv 0) (wk u8) J)))))),?_];exists 2,0;have d:g≠p:=xf i j 'z';ext;erw[z9 (λl=>?_) (λl=>?_)]
 .ext;erw[p,y,G,v,I,g,D,x,b,C,J,j,i,N,l,λU M u S=>k g U (.inl J) M u S #[_,u]]
 .unfold ndN sgN at k;rw[if_neg l,if_neg l]at k;ext;refine z9 (λf=>?_) (λf=>?_)
  .rw[if_pos f,if_pos f]at k;ext;erw[k g _ (.inl J) ya (ye d i) (λc o e t Z=>ye t e) #[_,ye d i]]
  .rw[if_neg f,if_neg f]at k;ext;exists 'l',λr hr0=>?_
   exists hr0,H1,S1,e1;let ς:=S1 _ _ j;ext;have n:r≠p:=λz=>by rw[z,j]at hr0;cases hr0
   erw[k r _ (.inr hr0) ya (ye n e1) (λc o e t Z=>ye t (S1 _ _ e)) #[_,ye d (S1 _ _ i)]]
noncomputable abbrev FA.re(A:FA)(ml el pl:z4)(sl:Μ):FA:={A with ml:=ml,el:=el,pl:=pl,sl:=sl}
noncomputable def FX.run(A:FA)(X:FX):qj Int->FX
 |[]=>X
 |b::r=>FX.run A (X.see A b) r
theorem Ì(A:FA):∀(bs cs:Ρ)(X:FX),X.run A (bs++cs)=(X.run A bs).run A cs
 |[],_,_=>rfl
 |b::r,cs,X=>Ì A r cs (X.see A b)
def yn4(A:FA)(bs:Ρ)(b:Int)(X:FX):X.run A (bs++[b])=(X.run A bs).see A b:=Ì A bs [b] X
noncomputable def fa0(n:Nat)(ps:Λ):FA:={ dp:=0,ll:=0,bl:=0,mp:=0,mx:=0,ml:=0,el:=0,pl:=0,n:=n,bk:=λZ=>0,dx:=λZ=>0,lk:=λZ=>0,dd:=λZ=>0,sl:=λZ=>0,kd:=λZ=>0,ps:=ps}
theorem Ĭ(A:FA):∀(bs:Ρ)(X:FX),X.run A bs=X.run (fa0 A.n A.ps) bs
 |[],_=>rfl
 |b::r,X=>Ĭ A r (X.see A b)
def vgq(H:Hp)(A:FA):Prop:=H A.ll=some (.lst (refs A.lk A.n))/\A.ll≠A.el/\∃tp,x9 H A.n A.lk A.kd tp A.ps
theorem vgq.same{H H':Hp}{A:FA}(h:vgq H A)(S:yz H H'):vgq H' A:=#[S _ _ h.1,h.2.1,let ⟨tp,r⟩:=h.2.2;#[tp,r.same S]]
structure Go(W:Ν)(H H':Hp)(W':Ν):Prop where
 fr:∀c o,H c=some o->¬W c->H' c=some o
 nw:∀c,W' c->W c\/H c=none
 lv:∀c o,H c=some o->∃o',H' c=some o'
def Go.free{W:Ν}{H H':Hp}(h:Go W H H' W'){c:z4}(e:H' c=none):H c=none:=by
 cases z:H c with
 |none=>rfl
 |some o =>
  let#[a,w]:=h.lv c o z;rw[e]at w;cases w
def Go.refl{W:Ν}{H:Hp}:Go W H H W:=#[λZ Z e Z=>e,λZ w=>.inl w,λZ o e=>#[o,e]]
def Go.trans{W W1:Ν}{H H1 H2:Hp}(h:Go W H H1 W1)(k:Go W1 H1 H2 W2):Go W H H2 W2:=by
 erw[λc o e a=>k.fr c o (h.fr c o e a) λw=>?_,λc w=>?_,λc o e=>?_]
 .rcases h.nw c w with v|v
  .erw[a v]
  .rw[e]at v;cases v
 .rcases k.nw c w with v|v
  .erw[h.nw c v]
  .erw[.inr (h.free v)]
 .let#[d,b]:=h.lv c o e;erw[k.lv c d b]
def Go.same{W:Ν}{H H1 H2:Hp}(h:Go W H H1 W')(S:yz H1 H2):Go W H H2 W':=#[λc o e a=>S _ _ (h.fr c o e a),h.nw,λc o e=>let ⟨o',w⟩:=h.lv c o e;#[o',S _ _ w]]
def Go.ahead{W:Ν}{H H1 H2:Hp}(S:yz H H1)(h:Go W H1 H2 W'):Go W H H2 W':=#[λc o e=>h.fr c o (S _ _ e),λc w=>(h.nw c w).imp id S.free,λc o e=>h.lv c o (S _ _ e)]
def Go.apart{W:Ν}{H H':Hp}(h:Go W H H' W')(hU:∀c,U c->∃o,H c=some o)(dj:∀c,U c->¬W c):∀c,U c->¬W' c:=λc u w=>by
 rcases h.nw c w with v|v
 .erw[dj c u v]
 .let#[o,e]:=hU c u;rw[v]at e;cases e
end
section
variable{H H':Hp}{p:z4}{n:Nat}{kd:Ξ}{ps:Λ}{X:FX}{M:Nat}{W:Ν}
def yup{g:Μ}(h:1<=n):(refs g n)[0]?=some (.ref (g 0)):=by unfold refs;rw[ci,dv h];rfl
end
mutual
#synth ysl ["self","bit","slot"] ["self","bit"] vf2
inductive yvb(K:z3)(a:Ads)(vs:Υ)(H:Hp)(Q:VK)(E':XK):Prop
 | mk(p:z4)(A:FA)(X:FX)(f:Α)(O:Β)(m:Nat)(b:Int)(_:vs=[.ref p,.int b])(_:zv K a H p A X f O m)(_:0<=b)(_:b<=1)(_:m+20<1000000)(_:0<=X.nd)(_:X.sg.length<=100000)(_:∀(ml el pl:z4)(sl:Μ)(f':Α)(O':Β)(H':Hp),(el=A.el\/H el=none)->zv K a H' p {A with ml:=ml,el:=el,pl:=pl,sl:=sl} (X.see A b) f' O' (m+A.n)->(∀j c,j<A.n->O' j c->O j c\/H c=none) ->
  (∀c o,H c=some o->c≠p->c≠A.mp->c≠A.el->(∀j,j<A.n->¬O j c)->H' c=some o)->(∀c o,H c=some o->∃o',H' c=some o')->H ml=none->Q .non H')
def yfw:'v' 6 a.Mv a.Pm ["self","bit"] (yvb K a):=by
 exists T.C8.F.ok,ysl,hr;let#[p,d,X,f,O,m,b,J,h,b0,b1,hm,aD,au,k]:=h;let hp:=h.me;let ac:=h.mx.o;let n6:=h.n6;let I:=vbz b0 b1;erw[yg (yy (uh (Ķ T) hr.m T.Cz vn (pav 1))) ?_,<-yg (yy (y6 pfs T.Fs T.Kb.m (vci T) hr.m T.Kb.B .nil vn (pac (vi (pv 0) T.Ad T.De.m (ylo T) hr.m T.De.B .nil vv) (pav 1)))) ?_,<-yg (uc PassesOwn.never J (wg pfs) (vz (i:=2) ysl.nd J (Or.inl J)) (yc (yy (ı (y6 (pv 2) T.Az T.Jx.m (yzx T) hr.m T.Jx.B .nil vn (pav 1)) (ı (y6 (pv 2) T.Bn T.Jz.m (yyy T) hr.m T.Jz.B .nil vn (pav 1)) (y6 (pv 2) T.Bo T.K2.m (vbh T) hr.m T.K2.B .nil vn (pav 1))))))) ?_,<-yg (yy (ww (pv 0) T.Ad T.Kd.m (yx6 T) hr.m T.Kd.B .nil vv (pav 1))) ?_];exists 2,1,yc (yy (vi (pv 0) T.Ad T.Fg.m (yso T) hr.m T.Fg.B .nil vv));erw[.int b,_,J,.int b,λF=>?_,λz=>(by rw[I]at z;cases z),←p,d,X,f,O,m,J,h,λr H1 aK aq S1=>?_];let L:=S1 _ _ ac;ext;erw[d.mp,d.mx,d.ml,r,X.ws,X.cs d,d.n,.int b,_,J,h.n1,n6,h.wok,h.cok,h.mx.same S1,SqL.of aq,.int b,λb' e F F ml H2 a7 M2 Z=>?_,λz=>(by rw[I]at z;cases z)];cases e;let N:=h.same S1
 have a9:p≠d.mp:=λz=>by
  have:=h.me;rw[z,ac]at this;injection this with this;injection this with _ _ e;erw[absurd (congrArg List.length e) (show ¬(1=6) by decide)]
 let ay:=Z _ _ N.me a9;have af:∀{l:z4}{xs:Υ},H1 l\xs->l≠d.mp:=λ{l xs}e z=>by rw[z,L]at e;cases e
 let a8:=Z _ _ N.bl (af N.bl);let a6:=Z _ _ N.el (af N.el);let a0:=Z _ _ N.pl (af N.pl)
 let U:=N.B.frame (O2:=λc=>c=d.mp) (λc o e ne=>Z c o e ne) (λj c q w z=>h.nm j q (z ▸ w)) (λj q z=>by
  have:=(N.B.b j q).me;rw[z,L]at this;injection this with this;injection this with _ _ e
  erw[absurd (congrArg List.length e) (show ¬(1=2) by decide)]) (λt xs e=>by
  rcases e with(e|⟨o,e⟩)|e
  .erw[.inl (.inl (Z _ _ e (λz=>by rw[z,L]at e;cases e)))]
  .erw[.inl (.inr #[o,Z _ _ e (λz=>by rw[z,L]at e;cases e)])]
  .erw[.inr e])
 have as:∀j,j<d.n->(∃s,f j (X.key d j)=some s)/\AtS H2 (d.dd j) (X.key d j) (d.sl j):=λj q=>#[(N.at' j q).1,(N.at' j q).2.told (N.B.b j q) (λz=>h.nm j q (by rwa[<- z,(N.B.b j q).dO])) Z];ext;erw[d.pl,J,#[_,SqL.of a0],ug (K:=K) (a:=d.pl) (xs:=refs d.sl d.n) (λi σ2 G=>∃(v:Ψ)(f':Α),σ2=[some (.ref p),some (.int b),v]/\Bks K a G d.n d.bk d.dx d.lk d.dd d.kd d.ps f' O m/\
   (∀j,j<d.n->∀k,(f' j k).getD (kd0 (d.kd j))=if j<i/\k=X.key d j then (X.g j k).see b else X.g j k)/\(∀j,j<d.n->(∃s,f' j (X.key d j)=some s)/\AtS G (d.dd j) (X.key d j) (d.sl j))/\(∀c o,H2 c=some o->(∀j,j<d.n->¬O j c)->G c=some o))
  #[_,f,J,U,λj q M=>by rwa[if_neg (λz=>absurd z.1 (cP j)),h.ag j q M],as,λc o e F=>e] (by rintro i σ2 G _ ⟨_,_,_,_,_,_,w⟩;erw[SqL.of (w _ _ a0 (U.nlst a0))]) ?_ ?_]
 .rintro i y σ2 G hy ⟨v,f',rfl,S,gA,gS,gF⟩;let#[J,D]:=u9 hy;let#[#[s',ad],ae]:=gS i D
  have es:s'=X.g i (X.key d i):=by
   have:=gA i D (X.key d i);rw[ad,if_neg (λz=>absurd z.1 (dM i))]at this;erw[this]
  let#[dq,hq,ok,aI,ax]:=(S.b i D).slot ad ae;ext;erw[yty (x:=.int b) (λQ' h=>?_) (λQ' h=>?_) hq ok (.int b) (λb' e F F G3 h3 B3=>?_) (λz=>by rw[I]at z;cases z) (λz=>by rw[I]at z;cases z) (λz=>by rw[I]at z;cases z)]
  .ext;erw[h]
  .ext;erw[h]
  cases e;let av:=(S.b i D).told ad ae b0 b1 h3 B3;have BO:yph (O i) G G3:=λc o e no=>B3 _ _ e λz=>no (by rwa[z,ax]);let M3:=S.move D (cc m) av (λc w=>.inl w) BO
  have eO:(λj=>if j=i then O i else O j)=O:=by
   funext j
   by_cases z:j=i
   .rw[if_pos z,z]
   .rw[if_neg z]
  rw[eO]at M3
  have aE:d.dd i≠d.sl i:=λz=>by
   let#[aL,aH,w1,_]:=(S.b i D).tb;let#[C,fs,eo]:=Ĳ a dq s';rw[z,hq,eo]at w1;cases w1
  ext;erw[_,_,J,M3,λj q M=>?_,λj q=>?_,λc o e no=>?_]
  .try dsimp only
   by_cases z:j=i
   .subst z;rw[if_pos J];unfold ya8;by_cases w:M=X.key d j
    .rw[if_pos w,if_pos #[Nat.lt_succ_self j,w],w,<- es];rfl
    .rw[if_neg w,if_neg (λz=>w z.2)];have:=gA j q M;rw[if_neg (λz=>w z.2)]at this;erw[this]
   .rw[if_neg z,gA j q M];have:(j<i/\M=X.key d j)↔(j<i+1/\M=X.key d j):=by constructor<;>(rintro ⟨u,v⟩;erw[(),v])
    by_cases w:j<i/\M=X.key d j
    .rw[if_pos w,if_pos (this.mp w)]
    .rw[if_neg w,if_neg (λz=>w (this.mpr z))]
  .try dsimp only
   by_cases z:j=i
   .subst z;rwa[if_pos J,#[#[s'.see b,?_],ae.told (S.b j D) aE B3]];unfold ya8;rw[if_pos J]
   .rw[if_neg z];erw[(gS j q).1,(gS j q).2.move S q D z BO]
  .erw[BO _ _ (gF c o e no) (no i D)]
 .rintro σ2 G ⟨v,f',rfl,S,gA,gS,gF⟩;rw[v8]at gA;let gp:=gF _ _ ay h.np;let R:=gF _ _ a6 (U.nlst a6);let al:=gF _ _ a8 (U.nlst a8);let Y:=gF _ _ M2.o h.nm;let ak:=gF _ _ M2.l (U.nlst M2.l);ext;erw[p,d.dp,d.ll,d.bl,d.mp,d.el,d.pl,X.nd,b,X.sg,J,gp,R,au,aD,λel H4 ai ab a5 F4 L4=>?_];have aj:∀{l:z4}{xs:Υ},G l\xs->l≠p:=λ{l xs}e z=>by rw[z,gp]at e;cases e
  have ao:∀j,j<d.n->¬O j p:=h.np;let ah:=S.nlst R
  let a3:=S.frame (O2:=λc=>c=p\/c=d.el) (λc o e ne=>F4 c o e (λz=>ne (.inl z)) (λz=>ne (.inr z))) (λj c q w z=>by
   rcases z with z|z
   .erw[ao j q (z ▸ w)]
   .erw[ah j q (z ▸ w)]) (λj q z=>by
   have:=(S.b j q).me;rcases z with z|z
   .rw[z,gp]at this;injection this with this;injection this with _ _ e;erw[absurd (congrArg List.length e) (show ¬(6=2) by decide)]
   .rw[z,R]at this
    cases this) (λt xs e=>by
   rcases e with(e|⟨o,e⟩)|e
   .erw[.inl (.inl (F4 _ _ e (λz=>by rw[z,gp]at e;cases e) (λz=>by rw[z,R]at e;cases e)))]
   .erw[.inl (.inr #[o,F4 _ _ e (λz=>by rw[z,gp]at e;cases e) (λz=>by rw[z,R]at e;cases e)])]
   .erw[.inr e])
  have an:d.bl≠d.el:=λz=>by
   let e:=h.bl;rw[z,h.el]at e;injection e with e;injection e with e;let e0:=congrArg (λl:Υ=>l[0]?) e
   have r0:(refs d.bk d.n)[0]?=some (.ref (d.bk 0)):=by
    unfold refs;rw[ci,dv h.n1];rfl
   try dsimp only at e0
   rw[r0,ci]at e0
   cases hs:X.sg[0]? with
   |none=>rw[hs]at e0;cases e0
   |some c=>rw[hs]at e0;cases e0
  have aF:ml≠d.el:=(yb N.el a7).symm;let a4:=F4 _ _ al (aj al) an;let ap:=F4 _ _ Y (Ne.symm a9) (λz=>by rw[z,R]at Y;cases Y);let aa:=F4 _ _ ak (aj ak) aF
  have a1:∀c o,H c=some o->∃W,H4 c=some W:=λc o e=>by
   by_cases zp:c=p
   .erw[_,zp ▸ ab]
   by_cases ze:c=d.el
   .rw[ze];erw[L4]
   have gc:∃W,G c=some W:=by
    by_cases zm:c=d.mp
    .erw[_,zm ▸ Y]
    by_cases zo:∀j,j<d.n->¬O j c
    .erw[o,gF _ _ (Z _ _ (S1 _ _ e) zm) zo]
    .have:∃j,j<d.n/\O j c:=Classical.byContradiction λw=>zo λj q w'=>w #[j,q,w'];let#[j,q,w]:=this;let#[W,ς,_]:=(S.b j q).own c w;erw[W,ς]
   let#[W,ς]:=gc;erw[W,F4 _ _ ς zp ze]
  have aC:ypc d.n d.kd f' (X.see d b).g:=λj q M=>by
   rw[gA j q M];show _=if M=X.key d j then (X.g j M).see b else X.g j M;by_cases w:M=X.key d j
   .rw[if_pos #[q,w],if_pos w]
   .rw[if_neg (λz=>w z.2),if_neg w]
  ext;erw[p,d.dp,d.ll,d.bl,d.mp,el,d.pl,ndN X.nd b,sgN X.sg X.nd b,d.n,m,d.bk,d.dx,d.lk,d.dd,d.kd,d.ps,f',O,(X.see d b).g,J,ab,a4,a5,a3,aC,n6,(),h.np,λpl sl f2 O2 H5 ar aw aG B5 az aA am F5 L5=>?_]
  have a2:∀{l:z4}{xs:Υ},H4 l\xs->l≠p:=λ{l xs}e z=>by rw[z,ab]at e;cases e
  have n2:∀j c,j<d.n->O2 j c->O j c\/H c=none:=λj c q w=>by
   rcases am j c q w with v|v
   .erw[.inl v]
   .refine .inr ?_
    cases e:H c with
    |none=>rfl
    |some o =>
     let#[W,ς]:=a1 c o e;rw[ς]at v;cases v
  erw[k ml el pl sl f2 O2 H5 ?_ #[ar,F5 _ _ a4 (a2 a4) (a3.nlst a4),F5 _ _ a5 (a2 a5) (a3.nlst a5),#[F5 _ _ ap (Ne.symm a9) h.nm,F5 _ _ aa (a2 aa) (a3.nlst aa)],yqw h.n1 n6 h.wok h.cok,aw,B5,az,aA,λj q w=>?_,λj q w=>?_,h.n1,n6] n2 (λc o e c1 c2 c3 no=>F5 _ _ (F4 _ _ (gF _ _ (Z _ _ (S1 _ _ e) c2) no) c1 c3) c1 no) (λc o e=>let ⟨W,w⟩:=a1 c o e;L5 c W w) (S1.free a7)]
  .rcases ai with z|z
   .erw[.inl z]
   .refine .inr ?_
    cases e:H el with
    |none=>rfl
    |some o =>
     exfalso;by_cases zp:el=p
     .rw[zp,gp]at z;cases z
     by_cases zm:el=d.mp
     .rw[zm,Y]at z;cases z
     by_cases zo:∀j,j<d.n->¬O j el
     .rw[gF _ _ (Z _ _ (S1 _ _ e) zm) zo]at z;cases z
     .have:∃j,j<d.n/\O j el:=Classical.byContradiction λw=>zo λj q w'=>w #[j,q,w'];let#[j,q,w]:=this;let#[W,ς,_]:=(S.b j q).own el w;rw[ς]at z;cases z
  .rcases n2 j p q w with v|v
   .erw[h.np j q v]
   .rw[hp]at v;cases v
  .rcases n2 j d.mp q w with v|v
   .erw[h.nm j q v]
   .rw[ac]at v;cases v
def zb{A:FA}{X:FX}{bs:Ρ}{k:Nat}{b:Int}(h:bs[k]?=some b):X.run A (bs.take (k+1))=(X.run A (bs.take k)).see A b:=by rw[jc h,yn4]
structure FGo(p:z4)(A:FA)(O:Β)(H H':Hp)(el:z4)(O':Β):Prop where
 he:el=A.el\/H el=none
 hO:∀j c,j<A.n->O' j c->O j c\/H c=none
 fr:∀c o,H c=some o->c≠p->c≠A.mp->c≠A.el->(∀j,j<A.n->¬O j c)->H' c=some o
 live:∀c o,H c=some o->∃o',H' c=some o'
def FGo.free{p:z4}{A:FA}{H H':Hp}{el c:z4}(h:FGo p A O H H' el O')(hc:H' c=none):H c=none:=by
 cases e:H c with
 |none=>rfl
 |some o =>
  let#[a,w]:=h.live c o e;rw[hc]at w;cases w
def FGo.refl{p:z4}{A:FA}{H:Hp}:FGo p A O H H A.el O:=#[.inl J,λZ Z Z w=>.inl w,λZ Z e Z Z Z Z=>e,λZ o e=>#[o,e]]
theorem FGo.trans{p:z4}{A:FA}{O1:Β}{H H1 H2:Hp}{ml el pl el2:z4}{sl:Μ}(h:FGo p A O H H1 el O1)(k:FGo p (A.re ml el pl sl) O1 H1 H2 el2 O2):FGo p A O H H2 el2 O2:=by
 erw[?_,λj c a w=>?_,λc o e g b f d=>?_,λc o e=>?_]
 .rcases k.he with z|z
  .rcases h.he with y|y
   .erw[.inl (z.trans y)]
   .erw[.inr (by rwa[show el2=el from z,y])]
  .erw[.inr (h.free z)]
 .rcases k.hO j c a w with v|v
  .erw[h.hO j c a v]
  .erw[.inr (h.free v)]
 .refine k.fr c o (h.fr c o e g b f d) g b (λz=>?_) (λj a w=>?_)
  .rcases h.he with y|y
   .erw[f (z.trans y)]
   .rw[show c=el from z,y]at e;cases e
  .rcases h.hO j c a w with v|v
   .erw[d j a v]
   .rw[e]at v;cases v
 .let#[l,i]:=h.live c o e;erw[k.live c l i]
def FGo.same{p:z4}{A:FA}{H H1 H2:Hp}{el:z4}(h:FGo p A O H H1 el O')(S:yz H1 H2):FGo p A O H H2 el O' :=
 #[h.he,h.hO,λc o e b a f d=>S _ _ (h.fr c o e b a f d),λc o e=>let ⟨o',w⟩:=h.live c o e;#[o',S _ _ w]]
def FGo.ahead{p:z4}{A:FA}{H H1 H2:Hp}{el:z4}(S:yz H H1)(h:FGo p A O H1 H2 el O'):FGo p A O H H2 el O' :=
 #[h.he.imp id S.free,λj c a w=>(h.hO j c a w).imp id S.free,λc o e=>h.fr c o (S _ _ e),λc o e=>h.live c o (S _ _ e)]
def FGo.kpa{p:z4}{A:FA}{X:FX}{f:Α}{m:Nat}{H H':Hp}{el:z4}(hf:zv K a H p A X f O m)(h:FGo p A O H H' el O'):KpA H H' A.el el:=λc o e i k=>by
 erw[?_,h.fr c o e (λz=>by rw[z,hf.me]at e;cases e;cases i) (λz=>by rw[z,hf.mx.o]at e;cases e;cases i) k λj l w=>?_]
 .rcases h.he with z|z
  .rw[z];erw[k]
  .erw[yb e z]
 .let#[n,g,d]:=(hf.B.b j l).own c w;rw[e]at g;cases g;rw[i]at d;cases d
def FGo.app{p R:z4}{A:FA}{H H1:Hp}{el:z4}{o':HO}(h:FGo p A O H H1 el O')(hR:H R=none):FGo p A O H (upd H1 R o') el O' :=
 #[h.he,h.hO,λc o e b a f d=>ye (yb e hR) (h.fr c o e b a f d),λc o e=>let ⟨o',w⟩:=h.live c o e;#[o',ye (yb e hR) w]]
def yfr{g:Μ}{n:Nat}(h:1<=n):(refs g n)[0]?=some (.ref (g 0)):=by unfold refs;rw[ci,dv h];rfl
def zv.notR{G:Hp}{p R:z4}{A:FA}{X:FX}{f:Α}{m:Nat}{tu:Μ}(h:zv K a G p A X f O m)(hR:G R\(refs tu j))(htu:∀i,i<j->∃o,G (tu i)=some o/\yw8 o=false)(nR:R≠A.el):∀q,(q=A.bl\/q=A.el\/q=A.ml\/q=A.pl)->q≠R:=λq t z=>by
 let d:=h.n1
 have c:∀(l:Υ)(x:V),l[0]?=some x->refs tu j=l->1<=j/\x=.ref (tu 0):=λl x n e=>by
  rcases Nat.eq_zero_or_pos j with w|w
  .rw[<- e,w]at n;cases n
  .rw[<- e,yfr w]at n;erw[w,(cu n).symm]
 rcases t with y|y|y|y
 .let e:=h.bl;rw[<- y,z,hR]at e;let#[w,e]:=c _ _ (yfr d) (HO.lst.inj (cu e));let#[o,k,r]:=htu 0 w;rw[<- V.ref.inj e,(h.B.b 0 d).me]at k;cases k;cases r
 .erw[nR (z.symm.trans y)]
 .let e:=h.mx.l;rw[<- y,z,hR]at e;have u:0<X.ws.length:=by rw[h.wok.len];exact d
  let#[w,e]:=c _ (.int X.ws[0]) (by rw[ci,bP u];rfl) (HO.lst.inj (cu e));cases e
 .let e:=h.pl;rw[<- y,z,hR]at e;let#[w,e]:=c _ _ (yfr d) (HO.lst.inj (cu e));let#[o,k,r]:=htu 0 w;let#[_,#[s,D],_,_]:=h.slot d;let#[C,E,v]:=Ĳ a s (X.g 0 (X.key A 0));rw[<- V.ref.inj e,D,v]at k;cases k;cases r
structure ä(H:Hp)(t:z4)(ts:Ρ)(w:Nat):Prop where
 l:H t\(ts.map V.int)
 s:Sgs ts
 z:ts.length<=w
def ä.same{H H':Hp}{t:z4}{w:Nat}(h:ä H t ts w)(S:yz H H'):ä H' t ts w:=#[S _ _ h.l,h.s,h.z]
def À(tt:Λ):Λ
 |0=>[]
 |i+1=>À tt i++dec (tt i)
def fX(n:Nat)(kd:Ξ)(ps:Λ)(pre:Ρ)(ts:Ρ)(k:Nat):FX:=((FX0 n kd).run (fa0 n ps) pre).run (fa0 n ps) ((dec ts).take k)
def xy(n:Nat)(kd:Ξ)(ps:Λ)(pre:Ρ)(ts:Ρ)(k:Nat):Int:=yl6 (fX n kd ps pre ts k).ws ((fX n kd ps pre ts k).cs (fa0 n ps))
def fCs(n:Nat)(kd:Ξ)(ps:Λ)(pre:Ρ)(ts:Ρ)(k:Nat):Ρ:=(fX n kd ps pre ts k).cs (fa0 n ps)
def y9(ts:Ρ)(k:Nat):Int:=((dec ts)[k]?).getD 0
def yeu(ts:Ρ)(k:Nat)(h:k<(dec ts).length):0<=y9 ts k/\y9 ts k<=1:=by unfold y9;rwa[bP h,jt ts _ (cV h)]
def yxa(H:Hp)(lx:V)(N w:Nat)(lt:Μ)(tt:Λ):Prop:=((lx=.non/\N=0)\/∃ll,lx=.ref ll/\H ll\(refs lt N))/\∀i,i<N->ä H (lt i) (tt i) w
theorem yxa.same{H H':Hp}{lx:V}{N w:Nat}{lt:Μ}{tt:Λ}(h:yxa H lx N w lt tt)(S:yz H H'):yxa H' lx N w lt tt :=
 #[h.1.imp id λ⟨b,e,z⟩=>#[b,e,S _ _ z],λi a=>(h.2 i a).same S]
structure vi4(H:Hp)(L tx:z4)(lx:V)(n:Nat)(lk:Μ)(kd:Ξ)(tp:Μ)(ps:Λ)(ts:Ρ)(N w:Nat)(lt:Μ)(tt:Λ):Prop where
 l:H L\(refs lk n)
 n1:1<=n
 n6:n<=6
 r:x9 H n lk kd tp ps
 t:ä H tx ts 1000
 lr:yxa H lx N w lt tt
 w1:w<=1000
 N1:N<=1000
 b:6+6*(N*(9*w+1))+6*(9*ts.length+1)+20<1000000
structure XOk(n:Nat)(X:FX):Prop where
 w:WOk n X.ws
 s:∀i k,(X.g i k).ok
theorem XOk.cs{n:Nat}{X:FX}(h:XOk n X)(ps:Λ):COk n (X.cs (fa0 n ps)):=by
 exists by unfold FX.cs;rw[bw,c8];rfl,λc a=>?_,λc a=>?_
 .let#[j,_,J]:=ce.mp a;erw[(yf2 (h.s _ _)).1]
 .let#[j,_,J]:=ce.mp a;erw[(yf2 (h.s _ _)).2]
theorem XOk.see{n:Nat}{X:FX}(h:XOk n X)(n1:1<=n)(n6:n<=6)(ps:Λ){b:Int}(b0:0<=b)(b1:b<=1):XOk n (X.see (fa0 n ps) b):=by
 erw[yqw n1 n6 h.w (h.cs ps),λi k=>?_];show (if k=X.key (fa0 n ps) i then (X.g i k).see b else X.g i k).ok
 split
 .erw[Slt.see_ok (h.s i k) b0 b1]
 .erw[h.s i k]
theorem XOk.run{n:Nat}(n1:1<=n)(n6:n<=6)(ps:Λ):∀(bs:Ρ){X:FX},XOk n X->ycx bs->XOk n (X.run (fa0 n ps) bs)
 |[],_,h,_=>h
 |b::r,_,h,hb=>XOk.run n1 n6 ps r (h.see n1 n6 ps (hb b 's').1 (hb b 's').2) λc a=>hb c (by simp[a])
def XOk.zero{n:Nat}(n1:1<=n)(n6:n<=6)(kd:Ξ):XOk n (FX0 n kd):=#[ve7 n n1 n6,λi Z=>yrc (kd i)]
def yic{bs:Ρ}(h:ycx bs)(k:Nat):ycx (bs.take k):=λb a=>h b (dn a)
def vgb{n:Nat}(n1:1<=n)(n6:n<=6){kd:Ξ}{ps:Λ}{pre:Ρ}(hp:ycx pre)(k:Nat):XOk n (fX n kd ps pre ts k):=by unfold fX;erw[((XOk.zero n1 n6 kd).run n1 n6 ps pre hp).run n1 n6 ps _ (yic (jt ts) k)]
def ø{n:Nat}(n1:1<=n)(n6:n<=6){kd:Ξ}{ps:Λ}{pre:Ρ}(hp:ycx pre)(k:Nat):Ch (xy n kd ps pre ts k):=yf3 n1 (vgb (kd:=kd) (ps:=ps) (ts:=ts) n1 n6 hp k).w ((vgb (kd:=kd) (ps:=ps) (ts:=ts) n1 n6 hp k).cs ps)
#synth vbv ["sign"] vej
#synth ∀(K:z3),∀(s:Int)(_:vs=[.int s])(_:∀r H',H r=none->H' r\((b8 s).map V.int)->yz H H'->Q (.ref r) H'),ygw
def vbm:'v' 1 a.My a.Pp ["sign"] (ygw K):=by
 exists T.Ri.F.ok,vbv,t;let#[n,J,k]:=h;exists 1,0,yc (ym (vt (js:=[0]) (ys:=["sign"]) J (yfv (δ J T.Fx)) (λC r e u=>(yn xg (yn vk (pv 1) (pv 0)) yf)) J J (hyc:=(all_cons J yu)) (hrel:=(all_cons J yu))));erw[a.Bl,J,#[_,T.w_WORTHS H],λD g=>?_,<-Ś (wV n) (T.w_WORTHS H) g (λi y e l d b=>?_) (λe d b=>?_)]
 .obtain⟨c,o,rfl,q⟩:∃c,0<c/\y=V.int c/\c<=128:=by
   let j:=cz l;simp only[cr,List.not_mem_nil,or_false]at j;rcases j with rfl|rfl|rfl|rfl|rfl|rfl|rfl|rfl<;>erw[_,∅,J,∅]
  ext;erw[Mp.done g (by show 8<sizeLine;decide) l d b J]
 .erw[k D e g b d]
#synth yln ["text","bits","sign"] ["text"] vda
#synth ∀(K:z3),∀(t:z4)(ns:Ρ)(_:vs=[.ref t])(_:H t\(ns.map V.int))(_:Sgs ns)(_:ns.length<=1000)(_:∀r H',H r=none->H' r\((dec ns).map V.int)->yz H H'->Q (.ref r) H'),yz3
def ylj:'v' 5 a.Mz a.Pq ["text"] (yz3 K):=by
 exists T.Gs.F.ok,yln,S;let#[t,f,J,O,hs,Y,k]:=h;exists 1,2,yh (pst 1 yln.nd (wk u8)) (yh (uc PassesOwn.never J (wg (uh (yo7 T) S.m T.Ju vn (pav 0))) (vz (i:=2) yln.nd J (Or.inl J)) (yh (yy ('u' (pv 1) (pa1 yf))) (yc (yy (uy PySem.F.plainAttrs_list PySem.F.slot_list_extend PySem.F.type_list_extend Ò (pv 1) (pa1 (xp (vbm T) S.m T.Ri (pav 2)))))))) (yh (yy ('u' (pv 1) (pa1 yf))) (yc (ym (pv 1)))));exists 'l',λr hr0=>?_
 exists hr0,H1,S1,hr1;ext;erw[.ref t,_,J,.lst (S1 _ _ O),.inr #[f.map V.int,yat (S1 _ _ O) hs Y,λc H2 j n R=>?_]];let D:=S1.trans R;erw[c,J,#[_,SqL.of n],ug (K:=K) (a:=c) (xs:=f.map V.int) (λi σ2 G=>∃v,σ2=[some (.ref t),some (.ref r),v]/\G r\((ycz (f.take i)).map V.int)/\G c\(f.map V.int)/\yz H G)
  #[_,J,R _ _ hr1,n,D] (by rintro i σ2 G _ ⟨_,_,_,z,_⟩;erw[SqL.of z]) ?_ ?_]
 .rintro i y σ2 G hi ⟨v,rfl,d,x,M⟩;let#[z,J,U,ς,a0]:=jh hi;have u:c≠r:=λe=>by rw[e,hr1]at j;cases j
  have l:(List.map V.int (ycz (f.take i))).length<=9000:=by rw[bw,τ,cG];omega
  ext;erw[jj d ?_,←xx d (ve ()) ?_];have p:yz H (upd G r (.lst (List.map V.int (ycz (f.take i))++[V.int 1]))):=λb o e=>ye (yb e hr0) (M b o e);have B:upd G r (.lst (List.map V.int (ycz (f.take i))++[V.int 1])) c\(f.map V.int):=ye u x;have g:upd G r (.lst (List.map V.int (ycz (f.take i))++[V.int 1])) r\(List.map V.int (ycz (f.take i)++[1])):=by rw[ya,cy];rfl
  generalize upd G r (.lst (List.map V.int (ycz (f.take i))++[V.int 1]))=G1 at p B g⊢;ext;erw[jj g ?_,←z,J,λq G2 X L N=>?_];ext;let C:=N _ _ g;erw[r,q,_,_,J,J,C,L,vo (by rw[bw,bw,bY,yr4];rw[bw]at l;show _+1+8<=_;omega),?_,←_,J,?_,?_,λb o e=>ye (yb e hr0) (N _ _ (p b o e))]
  .rw[ya,jc ς,ybv,yni,cJ];rfl
  .erw[ye u (N _ _ B)]
 .rintro σ2 G ⟨v,rfl,d,x,M⟩;rw[bw,cU]at d;ext;erw[jj d ?_,←xx d (ve (by rw[bw,τ];omega)) ?_,←k r _ hr0 ?_ λb o e=>ye (yb e hr0) (M b o e)];rw[ya,yo8,cy];rfl
#synth yy1 ["self","place"] vc9
#synth ∀(C:z4),∀(p dx pd:z4)(v1 v2 v3:V)(d:Ρ)(k:Nat)(_:vs=[.ref p,.int k])(_:H p∩C dx (yl5 (.ref pd) v1 v2 v3))(_:H pd\(d.map V.int))(_:Q (.int ((d[k]?).getD 0)) H),ygl
def van:'v' 1 a.N3 a.Pt ["self","place"] (ygl a.Ao):=by
 exists T.Kg.F.ok,yy1,t;let#[p,m,q,l,j,i,d,o,J,r,c,k]:=h;exists 2,0,yc (ym (jq (yp ycu (pv 1) (pcB yr T.A9 (pa1 pfs)) (yw _)) (pix we pfs (pv 1)) yf));erw[zd (SqL.of c) ?_];rw[bw];ext;erw[z9 (λn=>?_) (λn=>?_)]
 .have e:o<d.length:=()
  rw[bP e]at k;ext;erw[ua (SqL.of c) (vw (by rw[ci,bP e];rfl)) k]
 .rw[cT ()]at k;ext;erw[k]
#synth vc1 ["self"] vdg
#synth ∀(C D:z4),∀(p dx pd ps ds:z4)(d:Ρ)(x:Sn)(r:Nat)(_:vs=[.ref p])(_:H p∩C dx (yl5 (.ref pd) (.ref ps) (.int (rn d r)) (.int r)))(_:H pd\(d.map V.int))(_:H ps∩D ds (ν x))(_:p≠ps)(_:OkS x)(_:r<=sz x)(_:∀H',H' p∩C dx (yl5 (.ref pd) (.ref ps) (.int (rn d (sz x))) (.int x.2.2))->But p H H'->Q .non H'),yh6
def yq9:'v' 2 a.N2 a.Ps ["self"] (yh6 a.Ao a.A8):=by
 exists T.Fh.F.ok,vc1,I;let#[p,n,l,g,o,d,x,r,J,q,u,L,i,M,f,k]:=h;erw[_,(yc (ψ PassesOwn.never (yp ycu pfs (zu pfs J) (yw _)) (yh (vg (pv 0) (yn v9 (yn w4 pfs yf) (ww (pv 0) T.Ax T.Kg.m (van T) I.m T.Kg.B .nil vv (pa1 pfs))) J) (yc (vg (pv 0) (yn v9 pfs yf) J))))),?_];exists 1,0;let D:=M.sz;erw[λm σ' t=>∃r:Nat,σ'=[some (.ref p)]/\t p∩a.Ao n (yl5 (.ref l) (.ref g) (.int (rn d r)) (.int r))/\r<=sz x/\But p H t/\m=sz x-r,#[_,r,J,q,f,But.refl,J],?_];rintro m σ2 N ⟨r,rfl,b,v,c,rfl⟩;have ς:N g∩a.A8 o (ν x):=c _ _ L i.symm;let e:=c.lst q u;ext;erw[z9 (λz=>?_) (λz=>?_)]
 .erw[ycn ?_];ext;erw[p,n,l,_,_,_,d,r,J,b,e,?_];ext;exists _,?_,r+1,J,?_,(),(c.trans But.upd).trans But.upd,rfl
  .omega
  .rw[ya];rfl
 .have y:r=sz x:=()
  subst y;ext;erw[k _ ?_ c];rwa[<- D,b]
#synth vb5 ["self","data"] vel
#synth ∀(K:z3)(a:Ads),∀(p dx:z4)(v:V)(n:String)(_:vs=[.ref p,v])(_:H p∩a.Ao dx [])(_:u6 K H v (.type n))(_:((Bad K H v n 12000/\∀H',yz H H'->E (.ref a.Iz) none H')\/∃d:Ρ,vgt K H v (d.map V.int) 12000/\∀pd ps ds H',H pd=none->H ps=none->yhr a H' p dx pd ps ds d s0->But p H H'->Q .non H')),yhx
def yz5:'e' 5 a.Hy a.Pr ["self","data"] (yhx K a):=by
 exists T.Rj.F.okE,vb5,L;let#[p,r,v,n,J,U,ty,h]:=h;exists 2,0,yh (vg (pv 0) (uh (vhc T) L.m T.Tn yt (pav 1)) J) (yh (vg (pv 0) (Ø T.Lc (yrx T) L.m J T.Lb T.K6.B .nil vv) J) (yh (vg (pv 0) yf J) (yh (vg (pv 0) yf J) (yc (yy (vi (pv 0) T.Ax T.Fh.m (yq9 T) L.m T.Fh.B .nil vv))))));erw[v,n,J,ty,?_];rcases h with⟨Y,k⟩|⟨d,Z,k⟩
 .erw[.inl #[Y,k]]
 .erw[.inr #[d.map V.int,Z,λi C q ς W=>?_]];let X:=W _ _ U;have f:i≠p:=λz=>by rw[z,U]at q;cases q
  ext;have O:But p H (upd C p (.ins a.Ao r ([("data",V.ref i)]:Ι))):=(But.of W).trans But.upd;have l:upd C p (.ins a.Ao r ([("data",V.ref i)]:Ι)) p∩a.Ao r ([("data",V.ref i)]:Ι):=ya;have u:upd C p (.ins a.Ao r ([("data",V.ref i)]:Ι)) i\(d.map V.int):=ye f ς;generalize upd C p (.ins a.Ao r ([("data",V.ref i)]:Ι))=H2 at O l u⊢;intro t I g nds ne;erw[t,I,J,ya,λR x B3=>#[J,?_]];have N:yz H2 R:=λb o e=>B3 b o (by rwa[yk (yb e g),yk (yb e nds),e]) (yb e g);let a0:=N _ _ l;let y:=N _ _ u;have c:p≠t:=yb l g
  have D:H t=none:=by
   cases e:H t with
   |none=>rfl
   |some o=>erw[absurd (O _ _ e c.symm) (by rwa[g,λz=>nomatch z])]
  ext;erw[p,r,i,t,I,d,s0,0,J,ya,?_,?_,c,vi2,cI _,λS M B4=>?_]
  .erw[ye f (ye f (ye f y))]
  .erw[ye c.symm (ye c.symm (ye c.symm x))]
  .ext;have j:But p R S:=((But.upd.trans But.upd).trans But.upd).trans B4;erw[k i t I S q D #[M,j _ _ y f,j _ _ x c.symm,c] ((O.trans (But.of N)).trans j)]
#synth yqx ["self","chance","bit"] ["self","chance"] vd3
#synth ∀(K:z3)(a:Ads),∀(p dx pd ps ds:z4)(d:Ρ)(x:Sn)(v:V)(n:String)(_:vs=[.ref p,v])(_:yhr a H p dx pd ps ds d x)(_:OkS x)(_:u6 K H v (.type n))(_:(chV v=false->E (.ref a.G6) none H))(_:∀c:Int,v=.int c->Ch c->∀H',yhr a H' p dx pd ps ds d (nar x c (å d x c))->yl9 p ps H H'->Q (.int (å d x c)) H'),yoz
def yyz{x:Sn}{c b:Int}(h:Ok x)(hc:Ch c):sz x<=sz (nar x c b):=by
 let#[r,e]:=vep (if b=1 then x.1 else x.1+cut x.2.1 c) (if b=1 then cut x.2.1 c else x.2.1-cut x.2.1 c) x.2.2
 have a:nar x c b=ren (if b=1 then x.1 else x.1+cut x.2.1 c) (if b=1 then cut x.2.1 c else x.2.1-cut x.2.1 c) x.2.2:=by
  unfold nar
  split<;>rfl
 rw[a,e];unfold sz;dsimp only;omega
def vb6:'e' 5 a.N4 a.Pu ["self","chance"] (yoz K a):=by
 exists T.Kh.F.okE,yqx,u;let#[p,M,L,j,o,d,x,v,n,J,i,y,ty,R,k]:=h;exists 2,1,yh (yy (uh (yww T) u.m T.Ls yt (pav 1))) (yh (Ã (pst 2 yqx.nd (jq (yp ycu pfs (yn v9 (zu pfs J) (ww pfs T.Ai T.Fd.m (yrt T) u.m T.Fd.B .nil vv (pav 1))) (yw _)) yf yf))) (yh (yy (y6 pfs T.Ai T.Fe.m (ypn T) u.m T.Fe.B .nil yt (pac (pv 1) (pav 2)))) (yh (yy (vi (pv 0) T.Ax T.Fh.m (yq9 T) u.m T.Fh.B .nil vv)) (yc (ym (pv 2))))));erw[v,n,J,ty,λhv=>?_,R];let#[c,J,Z,c2]:=ydw hv;have r:Ch c:=#[Z,c2];let k:=k c J r;let G:=i.me;let e:=i.sp;ext;erw[ypa (λσ' O=>σ'=[some (.ref p),some (.int c),some (.int (å d x c))]/\H=O) ?_ ?_]
 .ext;erw[j,o,_,J,e,lkN _ 'r' 'r' 'r',?_,←j,o,x,c,J,e,r,?_];ext;unfold å;refine z9 (λt=>?_) (λt=>?_)
  .rw[if_pos t];ext;erw[J,rfl]
  .rw[if_neg t];ext;erw[J,rfl]
 .rintro σ' O ⟨rfl,rfl⟩;let ς:=yar d x c;generalize t:å d x c=b at ς k⊢;ext;erw[j,o,_,J,e,lkN _ 'r' 'r' 'r',?_,←j,o,x,.int c,.int b,_,_,J,e,y.ok,.int c,.int b,(λz=>by rw[ych r]at z;cases z),(λF z=>by rw[yau () ()]at z;cases z),λS W U Y F F F H1 q I=>?_];obtain rfl:c=S:=V.int.inj U;obtain rfl:b=W:=V.int.inj Y;let f:=I _ _ G i.ne;let g:=I.lst e i.dt;ext;have l:H1 p∩a.Ao M (yl5 (.ref L) (.ref j) (.int (rn d (sz x))) (.int ((sz x:Nat):Int))):=by rw[y.sz];exact f
  erw[p,M,L,j,o,d,nar x c b,sz x,J,l,g,q,i.ne,ydt y r,yyz y.ok r,λH2 D N=>?_,←k H2 #[D,N.lst f g,N _ _ q i.ne.symm,i.ne] (I.two'.trans N.two)]
#synth vca ["self"] vf0
#synth ∀(a:Ads),∀(p dx pd ps ds:z4)(d:Ρ)(x:Sn)(_:vs=[.ref p])(_:yhr a H p dx pd ps ds d x)(_:OkS x)(_:sz x<=tMx)(_:∀t H',H t=none->H' t\((tL x).map V.int)->yz H H'->Q (.ref t) H'),yin
def vb7:'v' 4 a.N5 a.Pv ["self"] (yin a):=by exists T.Ki.F.ok,vca,n;let#[p,o,q,c,f,d,x,J,g,r,t,k]:=h;let l:=g.me;let b:=g.sp;exists 1,0,yc (ym (vi pfs T.Ai T.Ff.m (ypk T) n.m T.Ff.B .nil vv));erw[c,f,_,J,b,lkN _ 'r' 'r' 'r',?_,←c,f,x,J,b,r,t,k]
#synth vat ["thing"] vdi
def yb1(K:z3):Sp:=λvs H Q Z=>(vs=[.non]/\∀r H',H r=none->H' r\[]->yz H H'->Q (.ref r) H')\/∃(l:z4)(n:Nat)(tx:Μ)(tt:Λ),vs=[.ref l]/\H l\(refs tx n)/\n<=1000/\(∀i,i<n->ä H (tx i) (tt i) 1000)/\
 ∀r(cx:Μ)H',H r=none->H' r\(refs cx n)->(∀i,i<n->H (cx i)=none/\H' (cx i)\((tt i).map V.int))->yz H H'->Q (.ref r) H'
def vch:'v' 5 a.N6 a.Pw ["thing"] (yb1 K):=by
 erw[T.Rk.F.ok vat (λZ H Q E h=>?_) (λa0 A ς s H Z Q E U h=>?_)]
 .rcases h with⟨rfl,_⟩|⟨l,n,B,R,rfl,_⟩<;>rfl
 .rcases h with⟨rfl,k⟩|⟨l,n,B,R,rfl,N,hn,Y,k⟩
  .erw[_,(yh (vj (yp yfm (pv 0) z6 (yw _)) (yc (ym (wk u8))) yq) (yh (vj (xn (xo (pcB wq T.A5 (pac (pv 0) (pa1 (j3 (T:="list") J T.Aq 'r')))))) (yc za) yq) (yc (ym (vt (js:=[]) (ys:=[]) J (wg (pv 0)) (λC s2 H2 X=>(uh (yo7 T) U.m T.Ju vn (pav 0))) J J (hyc:=yu) (hrel:=yu)))))),?_];erw[yj (σ':=[some _]) J ?_,←vh1 ?_];ext;exists 'l',λr u=>?_
   erw[k r _ u ya (y7 u)]
  .erw[_,(yh (vj (yp yfm (pv 0) z6 (yw _)) (yc (ym (wk u8))) yq) (yh (vj (xn (xo (pcB wq T.A5 (pac (pv 0) (pa1 (j3 (T:="list") J T.Aq 'r')))))) (yc za) yq) (yc (ym (vt (js:=[]) (ys:=[]) J (wg (pv 0)) (λC s2 H2 X=>(uh (yo7 T) U.m T.Ju vn (pav 0))) J J (hyc:=yu) (hrel:=yu)))))),?_];erw[yj (σ':=[some _]) J ?_];ext
   erw[ycv (λz=>nomatch z) ?_]
   ext;erw[ĸ (.lst N) (yey _ _) ?_,←l,J,#[_,SqL.of N],λD I=>?_];refine jd (K:=K) (xs:=refs B n) (λi G=>∃f:Μ,G D\(refs f i)/\(∀j,j<i->H (f j)=none/\G (f j)\((R j).map V.int)/\f j≠D)/\yz H G)
    #[λF=>0,ya,λj x=>absurd x (cP j),y7 I] (λi G F ⟨_,_,_,S⟩=>SqL.of (S _ _ N)) (λi y G hy v z=>?_) (λG z=>?_)
   .let#[f,t,p,S]:=z;let#[J,M]:=u9 hy;let d:=(Y i M).same S;ext;erw[.ref (B i),_,J,.lst d.l,.inr #[(R i).map V.int,yat d.l d.s d.z,λc G2 g O L=>?_]];have W:c≠D:=(yb t g).symm;erw[xh (n:=(refs B n).length) (L _ _ t) (ve (by rw[v8];omega)) v ?_];exists upN f i c,?_,λj x=>?_,λb o e=>ye (yb e I) (L _ _ (S b o e))
    .rw[ya,ud,w5]
     congr 3
     erw[ub λj x=>(wy x).symm]
    .by_cases z:j=i
     .rw[z,w5];erw[S.free g,ye W O,W]
     .have q:j<i:=()
      rw[wy q];let#[g1,g2,g3]:=p j q;erw[g1,ye g3 (L _ _ g2),g3]
   .let#[f,t,p,S]:=z;rw[v8]at t p;erw[k D f G I t (λi v=>#[(p i v).1,(p i v).2.1]) S]
def yje{H:Hp}{lx:V}{N w:Nat}{lt:Μ}{tt:Λ}{Q:VK}{E:XK}(h:yxa H lx N w lt tt)(hw:w<=1000)(hN:N<=1000)
  (k:∀r(cx:Μ)H',H r=none->H' r\(refs cx N)->(∀i,i<N->H (cx i)=none/\H' (cx i)\((tt i).map V.int))->yz H H'->Q (.ref r) H'):yb1 K [lx] H Q E:=by
 obtain⟨⟨rfl,rfl⟩|⟨d,rfl,c⟩,b⟩:=h
 .erw[.inl #[J,λr H' f e S=>k r (λZ=>0) H' f e (λi a=>absurd a (cP i)) S]]
 .erw[.inr #[d,N,lt,tt,J,c,hN,λi a=>#[(b i a).l,(b i a).s,cO (b i a).z hw],k]]
structure vke(H H':Hp)(r:z4)(m:Nat)(tu cl:Μ)(mx:Nat->Int)(cs:Λ)(bt:Nat->Int):Prop where
 r0:H r=none
 r:H' r\(refs tu m)
 t:∀j,j<m->H' (tu j)∪[.int (mx j),.ref (cl j),.int (bt j)]
 c:∀j,j<m->H (cl j)=none/\H' (cl j)\((cs j).map V.int)
#synth yla ["foreteller","texts","text","bit"] ["foreteller","texts"] vf1
#synth ∀(K:z3)(a:Ads),∀(p:z4)(A:FA)(X:FX)(f:Α)(O:Β)(m:Nat)(tl:z4)(n w:Nat)(tx:Μ)(tt:Λ)(_:vs=[.ref p,.ref tl])(_:zv K a H p A X f O m)(_:X.sg=[])(_:X.nd=0)(_:H tl\(refs tx n))(_:tl≠A.el)(_:(∀i,i<n->ä H (tx i) (tt i) w/\tx i≠A.el))(_:w<=1000)(_:m+6*(n*(9*w+1))+20<1000000)(_:∀(ml el pl:z4)(sl:Μ)(f':Α)(O':Β)(m':Nat)(H':Hp),zv K a H' p (A.re ml el pl sl) (X.run A (À tt n)) f' O' m'->m'<=m+6*(n*(9*w+1))->FGo p A O H H' el O'->(X.run A (À tt n)).sg=[]->(X.run A (À tt n)).nd=0->Q .non H'),ynl
def yz2:'v' 7 a.N7 a.Px ["foreteller","texts"] (ynl K a):=by
 exists T.Rl.F.ok,yla,hr;let#[p,c,X,f,O,m,tl,n,w,tx,d,J,hF,ab,ao,a2,a8,a7,hw,hm,k]:=h;exists 2,2,yc (uc PassesOwn.never J (wg (pv 1)) (vz (i:=2) yla.nd J (Or.inl J)) (yc (uc PassesOwn.never J (wg (xp (ylj T) hr.m T.Gs (pav 2))) (vz (i:=3) yla.nd J (Or.inl J)) (yc (yy (ww (pv 0) T.Ad T.C8.m (yfw T) hr.m T.C8.B .nil vv (pav 3)))))));erw[tl,J,#[_,SqL.of a2],ug (K:=K) (a:=tl) (xs:=refs tx n) (λi σ2 G=>∃(v1 ς:Ψ)(W t U:z4)(Z:Μ)(f':Α)(O':Β)(m':Nat),σ2=[some (.ref p),some (.ref tl),v1,ς]/\zv K a G p (c.re W t U Z) (X.run c (À d i)) f' O' m'/\m'<=m+6*(i*(9*w+1))/\FGo p c O H G t O'/\(X.run c (À d i)).sg=[]/\(X.run c (À d i)).nd=0)
  #[_,_,c.ml,c.el,c.pl,c.sl,f,O,m,J,hF,Nat.le_add_right _ _,FGo.refl,ab,ao] (by rintro i σ2 G _ ⟨_,_,_,_,_,_,_,_,_,_,_,_,go,_,_⟩;erw[SqL.of ((go.kpa hF).lst a2 a8)]) ?_ ?_]
 .rintro i y σ2 G hy ⟨v1,ς,W,t,U,Z,f1,O1,m1,rfl,q,N,r,g,o⟩;let#[J,a3]:=u9 hy;let#[R,a9]:=a7 i a3;let a1:=(r.kpa hF).lst R.l a9;let M:=R.s;let hz:=R.z
  have a5:i*(9*w+1)+(9*w+1)<=n*(9*w+1):=by
   have:(i+1)*(9*w+1)<=n*(9*w+1):=Nat.mul_le_mul_right _ a3;rw[Nat.add_mul,Nat.one_mul]at this;erw[this]
  let ar:=xv (d i);ext;erw[tx i,d i,J,a1,M,(),λbt G1 a4 x S1=>?_]
  let v:=q.same S1;have ae:bt≠t:=(yb q.el a4).symm;erw[bt,J,#[_,SqL.of x],ug (K:=K) (a:=bt) (xs:=(dec (d i)).map V.int) (λj σ2 G'=>∃(ς:Ψ)(ml' el' pl':z4)(sl':Μ)(f':Α)(O':Β),σ2=[some (.ref p),some (.ref tl),some (.ref (tx i)),ς]/\zv K a G' p (c.re ml' el' pl' sl') ((X.run c (À d i)).run c ((dec (d i)).take j)) f' O' (m1+6*j)/\FGo p (c.re W t U Z) O1 G1 G' el' O'/\TxE (d i) j ((X.run c (À d i)).run c ((dec (d i)).take j)).sg ((X.run c (À d i)).run c ((dec (d i)).take j)).nd)
   #[_,W,t,U,Z,f1,O1,J,v,FGo.refl,.inl #[cI _,by show ya7 _ _ (X.run c (À d i)).sg (X.run c (À d i)).nd;rwa[g,o,ya7.zero _]]] (by rintro j σ2 G' _ ⟨_,_,_,_,_,_,_,_,_,go,_⟩;erw[SqL.of ((go.kpa v).lst x ae)]) ?_ ?_]
  .rintro j y σ3 G' hy ⟨ς,D,I,C,S,f2,O2,rfl,e,L,Y⟩;let#[b,J,ak,hb,hj]:=jh hy;let#[b0,b1]:=jt _ b ak;let#[a0,al]:=Y.next M hb;let#[ad,ap]:=a0.nd M;let aq:=a0.len;let as:=e.me;ext;exists p,c.re D I C S,_,f2,O2,m1+6*j,b,J,e,b0,b1,(),ad,(),λag ai an a6 f3 O3 G3 aa ah aj af ac F=>?_
   ext;let n6:=e.n6;erw[_,ag,ai,an,a6,f3,O3,J,?_,L.trans #[aa,aj,af,ac],?_]
   .rw[zb hb];erw[ah.up (by show m1+6*j+c.n<=_;have:c.n<=6:=n6;omega)]
   .rw[zb hb];erw[al]
  .rintro σ3 G' ⟨ς,D,I,C,S,f2,O2,rfl,e,L,Y⟩;rw[bw]at e Y;rw[cU]at e Y;have er:X.run c (À d (i+1))=(X.run c (À d i)).run c (dec (d i)):=Ì c _ _ X;rw[<- er]at e Y
   have u:(X.run c (À d (i+1))).sg=[]/\(X.run c (À d (i+1))).nd=0:=by
    rcases Y with⟨h,_⟩|⟨_,h⟩
    .omega
    .erw[h]
   ext;erw[_,_,D,I,C,S,f2,O2,_,J,e,by rw[Nat.add_mul,Nat.one_mul];omega,r.trans (FGo.ahead S1 L),u.1,u.2]
 .rintro σ2 G ⟨v1,ς,W,t,U,Z,f1,O1,m1,rfl,q,N,r,g,o⟩;rw[v8]at q N g o;ext;erw[k W t U Z f1 O1 m1 G q N r g o]
#synth ycf ["looks","text","learned","foreteller","bits","rows","bit"] ["looks","text","learned"] vf9
#synth ∀(K:z3)(a:Ads),∀(L tx:z4)(lx:V)(n:Nat)(lk:Μ)(kd:Ξ)(tp:Μ)(ps:Λ)(ts:Ρ)(N w:Nat)(lt:Μ)(tt:Λ)(_:vs=[.ref L,.ref tx,lx])(_:vi4 H L tx lx n lk kd tp ps ts N w lt tt)(_:∀r(tu cl:Μ)H',vke H H' r (dec ts).length tu cl (xy n kd ps (À tt N) ts) (fCs n kd ps (À tt N) ts) (y9 ts)->(∀k,k<(dec ts).length->Ch (xy n kd ps (À tt N) ts k)/\WOk n (fX n kd ps (À tt N) ts k).ws/\COk n (fCs n kd ps (À tt N) ts k))->(∀i j,i<(dec ts).length->j<(dec ts).length->i≠j->cl i≠cl j)->yz H H'->Q (.ref r) H'),yto
def vbo:'v' 8 a.N8 a.Py ["looks","text","learned"] (yto K a):=by
 exists T.Rm.F.ok,ycf,hr;let#[L,tx,lx,n,lk,kd,tp,ps,u,N,w,lt,tt,J,q,k]:=h;let aS:=q.b;let n1:=q.n1;let n6:=q.n6;erw[yg (pst 3 ycf.nd (uv T.U1 (yqe T) hr.m J T.U0 T.Kc.B .nil vn (pav 0))) ?_,<-yg (pst 4 ycf.nd (xp (ylj T) hr.m T.Gs (pav 1))) ?_,<-yg (yy (xp (yz2 T) hr.m T.Rl (pac (pv 3) (pa1 (xp (vch T) hr.m T.Rk (pav 2)))))) ?_,<-yg (pst 5 ycf.nd (wk u8)) ?_,<-yg (uc PassesOwn.never J (wg (pv 4)) (vz (i:=6) ycf.nd J (Or.inl J)) (yh (yy ('u' (pv 5) (pa1 (zz (pac (vi (pv 3) T.Ad T.Dh.m (ylk T) hr.m T.Dh.B .nil vv) (pac (vi (pv 3) T.Ad T.De.m (ylo T) hr.m T.De.B .nil vv) (pav 6))))))) (yc (yy (ww (pv 3) T.Ad T.C8.m (yfw T) hr.m T.C8.B .nil vv (pav 6)))))) ?_];exists 3,4,yc (ym (pv 5));intro p dp np aK b2;have S0:yz H (upd (upd H dp (.own p)) p (.ins a.A6 dp [])):=λb o e=>by rwa[yk (yb e np),yk (yb e aK),e]
 erw[p,dp,.ref L,J,ya,.inr #[L,n,lk,kd,tp,ps,J,S0 _ _ q.l,n1,n6,q.r.same S0,λA f O H1 N1 B1=>#[J,?_]]];let#[ay,J,J,J,J,oO,oB,oM,oL]:=N1;have S1:yz H H1:=λb o e=>B1 b o (S0 b o e) (yb e np);have Y:∀{c:z4},upd (upd H dp (.own p)) p (.ins a.A6 dp []) c=none->H c=none:=λh=>S0.free h;have aw:H A.el=none:=Y (oL A.el (.inr (.inl J)));ext;erw[tx,u,J,S1 _ _ q.t.l,q.t.s,q.t.z,λbt H2 ax ab S2=>?_];let a9:=S1.trans S2;let D:=ay.same S2;have an:bt≠A.el:=(yb ay.el ax).symm;ext;erw[yje (q.lr.same a9) q.w1 q.N1 λaQ cx H3 h0 h3 hx S3=>?_,←p,A,FX0 A.n A.kd,f,O,6,aQ,N,w,cx,tt,J,D.same S3,J,J,h3,(yb D.el h0).symm,λi g=>#[#[(hx i g).2,(q.lr.2 i g).s,(q.lr.2 i g).z],(yb D.el (hx i g).1).symm],q.w1,(),λml el pl sl f1 O1 m1 H4 a0 aE a4 av al=>?_]
 let a4:=FGo.ahead S3 a4;let a0:=a0.up aE;let au:=(a4.kpa D).lst ab an;let aY:=xv u;let aU:=q.t.z;let as:=q.t.s;generalize hX:(FX0 A.n A.kd).run A (À tt N)=x at a0 av al;generalize hM:6+6*(N*(9*w+1))=M at a0 aS;ext;exists 'l',λR hR0=>?_
 exists hR0,H5,S5,hR5;have ao:H2 R=none:=a4.free hR0;ext;erw[bt,J,#[_,SqL.of (S5 _ _ au)],ug (K:=K) (a:=bt) (xs:=(dec u).map V.int) (λj σ2 G=>∃(v:Ψ)(ml el pl:z4)(sl:Μ)(f':Α)(O':Β)(W cl:Μ),σ2=[some (.ref L),some (.ref tx),some lx,some (.ref p),some (.ref bt),some (.ref R),v]/\
   zv K a G p (A.re ml el pl sl) (x.run A ((dec u).take j)) f' O' (M+6*j)/\FGo p A O H2 G el O'/\TxE u j (x.run A ((dec u).take j)).sg (x.run A ((dec u).take j)).nd/\(G R\(refs W j)/\R≠el)/\
   (∀i,i<j->G (W i)∪[.int (yl6 (x.run A ((dec u).take i)).ws ((x.run A ((dec u).take i)).cs A)),.ref (cl i),.int (y9 u i)]/\G (cl i)\(((x.run A ((dec u).take i)).cs A).map V.int)/\cl i≠el/\H2 (cl i)=none/\cl i≠R)/\
   (∀i,i<j->WOk A.n (x.run A ((dec u).take i)).ws/\COk A.n ((x.run A ((dec u).take i)).cs A))/\(∀i l,i<j->l<j->i≠l->cl i≠cl l))
  #[_,ml,el,pl,sl,f1,O1,λF=>0,λF=>0,J,a0.same S5,a4.same S5,.inl #[cI _,by show ya7 _ _ x.sg x.nd;rwa[av,al,ya7.zero _]],#[hR5,(yb a0.el hR0).symm],λi g=>absurd g (cP i),λi g=>absurd g (cP i),λi F g=>absurd g (cP i)]
  (by rintro j σ2 G _ ⟨_,_,_,_,_,_,_,_,_,_,_,go,_⟩;erw[SqL.of ((go.kpa D).lst ab an)]) ?_ ?_]
 .rintro j y σ2 G hy ⟨v,a1,S,a3,a2,f2,O2,W,cl,rfl,hF,go,hT,⟨hR,nR⟩,d,X,Z⟩;let#[b,J,aL,hb,hj]:=jh hy;let#[b0,b1]:=jt _ b aL;let#[ar,aM]:=hT.next as hb;let#[aH,aW]:=ar.nd as;let aX:=ar.len;have aD:y9 u j=b:=by unfold y9;rw[hb];rfl
  let aC:=hF.me;ext;erw[jj hR ?_,←p,A.re a1 S a3 a2,_,f2,O2,_,J,hF,λG1 T1=>?_];let aT:=T1 _ _ aC;ext;erw[p,A.re a1 S a3 a2,_,f2,O2,_,J,hF.same T1,λc G2 a8 aF T2=>?_];ext;exists 'l',λt ht0=>?_
  exists ht0,G3,T3,ht3;let C:=T1.trans (T2.trans T3);ext;erw[xx (C _ _ hR) (ve (by rw[v8];omega)) ?_];let ap:=hF.same C;let a6:=C _ _ hR;have ς:zv K a (upd G3 R (.lst (refs W j++[V.ref t]))) p (A.re a1 S a3 a2) (x.run A ((dec u).take j)) f2 O2 (M+6*j):=ap.app a6 (ap.notR a6 (λi g=>#[_,C _ _ (d i g).1,J]) nR);have aa:FGo p A O H2 (upd G3 R (.lst (refs W j++[V.ref t]))) S O2:=(go.same C).app ao;have ag:c≠R:=(yb (T1 _ _ hR) a8).symm;have aj:c≠S:=(yb (hF.same T1).el a8).symm;have ad:upd G3 R (.lst (refs W j++[V.ref t])) c\(((x.run A ((dec u).take j)).cs A).map V.int):=ye ag (T3 _ _ aF);have af:upd G3 R (.lst (refs W j++[V.ref t])) t∪[.int (yl6 (x.run A ((dec u).take j)).ws ((x.run A ((dec u).take j)).cs A)),.ref c,.int b]:=ye (xf ht3 a6 'z') ht3
  have ae:upd G3 R (.lst (refs W j++[V.ref t])) R\(refs (upN W j t) (j+1)):=by
   rw[ya,ud,w5]
   congr 3
   erw[ub λi g=>(wy g).symm]
  have hold:∀i,i<j->upd G3 R (.lst (refs W j++[V.ref t])) (W i)∪[.int (yl6 (x.run A ((dec u).take i)).ws ((x.run A ((dec u).take i)).cs A)),.ref (cl i),.int (y9 u i)]/\upd G3 R (.lst (refs W j++[V.ref t])) (cl i)\(((x.run A ((dec u).take i)).cs A).map V.int):=λi g=>#[ye (xf (C _ _ (d i g).1) a6 'z') (C _ _ (d i g).1),ye (d i g).2.2.2.2 (C _ _ (d i g).2.1)];have a7:H2 c=none:=go.free (T1.free a8);have a5:∀i,i<j->cl i≠c:=λi g=>yb (T1 _ _ (d i g).2.1) a8;let ai:=hF.wok;let ah:=hF.cok;generalize upd G3 R (.lst (refs W j++[V.ref t]))=G4 at ς aa ad af ae hold⊢;let aV:=ς.me;ext;let b3:=hF.n6;erw[p,A.re a1 S a3 a2,_,f2,O2,M+6*j,b,J,ς,b0,b1,(),aH,(),λaJ aq aP aA f3 O3 G5 aN az aB aG aI F=>?_]
  have ak:FGo p (A.re a1 S a3 a2) O2 G4 G5 aq O3:=#[aN,aB,aG,aI];let U:=ak.kpa ς;let ac:=ς.el;ext;erw[_,aJ,aq,aP,aA,f3,O3,upN W j t,upN cl j c,J,?_,aa.trans ak,?_,#[(U _ _ ae J nR).2,(U _ _ ae J nR).1],λi g=>?_,λi g=>?_,λi l g hl aR=>?_]
  .rw[zb hb];erw[az.up (by show M+6*j+A.n<=_;omega)]
  .rw[zb hb];erw[aM]
  .by_cases z:i=j
   .rw[z,w5,w5,aD];erw[(U _ _ af J (xf af ac 'z')).2,(U _ _ ad J aj).2,(U _ _ ad J aj).1,a7,ag]
   .have I:i<j:=()
    rw[wy I,wy I];let#[o1,o2]:=hold i I;let#[_,_,r3,r4,r5]:=d i I;erw[(U _ _ o1 J (xf o1 ac 'z')).2,(U _ _ o2 J r3).2,(U _ _ o2 J r3).1,r4,r5]
  .by_cases z:i=j
   .rw[z];erw[ai,ah]
   .erw[X i ()]
  .by_cases z:i=j
   .have am:l<j:=()
    rwa[z,w5,wy am,(a5 l am).symm]
   .have I:i<j:=()
    rw[wy I];by_cases z2:l=j
    .rw[z2,w5];erw[a5 i I]
    .rw[wy ()];erw[Z i l I () aR]
 .rintro σ2 G ⟨v,a1,S,a3,a2,f2,O2,W,cl,rfl,hF,go,hT,⟨hR,nR⟩,d,X,Z⟩;rw[bw]at d X Z;rw[bw]at hR
  have eX:∀i,fX A.n A.kd A.ps (À tt N) u i=x.run A ((dec u).take i):=λi=>by
   unfold fX;rw[<- Ĭ,<- Ĭ,hX]
  ext;erw[k R W cl G #[a9.free ao,hR,λi g=>?_,λi g=>#[a9.free (d i g).2.2.2.1,?_]] (λi g=>#[?_,?_,?_]) Z ?_]
  .rw[(d i g).1];unfold xy;rw[eX];rfl
  .rw[(d i g).2.1];unfold fCs;rw[eX];rfl
  .unfold xy;rwa[eX,yf3 n1 (X i g).1 (X i g).2]
  .rw[eX];erw[(X i g).1]
  .unfold fCs;rwa[eX,(X i g).2]
  .intro c o e;refine go.fr c o (a9 _ _ e) (λz=>?_) (λz=>?_) (λz=>?_) (λi g w'=>?_)
   .rw[z,np]at e;cases e
   .rw[z,Y oM]at e;cases e
   .rw[z,aw]at e;cases e
   .rw[Y (oO i c g w')]at e;cases e
#synth yx4 ["looks","text","learned"] vfi
structure vk6(H H':Hp)(r:z4)(m:Nat)(tu:Μ)(mx bt:Nat->Int):Prop where
 r0:H r=none
 r:H' r\(refs tu m)
 t:∀j,j<m->H' (tu j)∪[.int (mx j),.int (bt j)]
#synth ∀(K:z3),∀(L tx:z4)(lx:V)(n:Nat)(lk:Μ)(kd:Ξ)(tp:Μ)(ps:Λ)(ts:Ρ)(N w:Nat)(lt:Μ)(tt:Λ)(_:vs=[.ref L,.ref tx,lx])(_:vi4 H L tx lx n lk kd tp ps ts N w lt tt)(_:∀r(tu:Μ)H',vk6 H H' r (dec ts).length tu (xy n kd ps (À tt N) ts) (y9 ts)->(∀k,k<(dec ts).length->Ch (xy n kd ps (À tt N) ts k)/\WOk n (fX n kd ps (À tt N) ts k).ws/\COk n (fCs n kd ps (À tt N) ts k))->yz H H'->Q (.ref r) H'),ymh
def vbq:'v' 9 a.Hz a.Gn ["looks","text","learned"] (ymh K):=by
 exists T.Rn.ok,yx4,hr;let#[L,tx,W,n,lk,I,tp,ς,d,N,w,lt,O,J,v,k]:=h;let hz:=v.t.z;let a3:=xv d;exists 3,0,yc (ym (yah (js:=[]) (ys:=[]) (xs:=["chance","chances","bit"]) (g:=yw2 K 3 (zw (xi 0) (zw (xi 1) (zw (xi 2) yl4)))) J (wg (xp (vbo T) hr.m T.Rm (pac (pv 0) (pac (pv 1) (pav 2))))) (λC s2 H2 fp=>(zz (pac (pv 0) (pav 2)))) J (λC s2 H2 fp=>Ţ J (xw (vz (i:=0) (show List.Nodup ((["chance","chances","bit"]:Τ)++([]:Τ)) by right) J (Or.inl J)) (xw (vz (i:=1) (show List.Nodup ((["chance","chances","bit"]:Τ)++([]:Τ)) by right) J (Or.inl J)) (xw (vz (i:=2) (show List.Nodup ((["chance","chances","bit"]:Τ)++([]:Τ)) by right) J (Or.inl J)) ö)))) J (hyc:=yu) (hrel:=yu)));erw[L,tx,W,n,lk,I,tp,ς,d,N,w,lt,O,J,v,λr0 y cl H1 c p C S1=>?_];generalize xy n I ς (À O N) d=M at c p k;generalize fCs n I ς (À O N) d=cs at c p k;erw[r0,J,#[_,SqL.of c.r],λD U=>?_,<-yhd (K:=K) (xs:=refs y (dec d).length) (λi G=>∃q:Μ,G D\(refs q i)/\(∀j,j<i->G (q j)∪[.int (M j),.int (y9 d j)])/\yz H1 G) #[λC=>0,ya,λj R=>absurd R (cP j),y7 U] (λi G C ⟨_,_,_,S⟩=>SqL.of (S _ _ c.r)) (λi x G a1 hx hi z F=>?_) (λG z=>?_)]
 .let#[q,u,B,S]:=z;let#[J,Z]:=u9 hx;let#[v1,v2,v3,J]:=ynp F;erw[ţ (SqT.of (S _ _ (c.t i Z))) J ?_];show zw (xi 0) (zw (xi 1) (zw (xi 2) yl4)) [V.int (M i),V.ref (cl i),V.int (y9 d i)] (v1::v2::v3::ux [] [some (V.ref L),some (V.ref tx),some W]) G _;ext;erw[#[[some (.int (M i)),some (.ref (cl i)),some (.int (y9 d i))],J,J],?_];ext;exists 'l',λt f=>?_
  have a0:t≠D:=(yb u f).symm;let Y:=zn (o':=HO.tup [V.int (M i),V.int (y9 d i)]) f u;erw[xh (n:=(refs y (dec d).length).length) Y (ve (by rw[v8];omega)) hi ?_,<-upN q i t,?_,λj R=>?_,λb o e=>ye (yb e U) (zn f (S b o e))]
  .rw[ya,ud,w5]
   congr 3
   erw[ub λj R=>(wy R).symm]
  .by_cases z:j=i
   .rw[z,w5];erw[ye a0 ya]
   .have l:j<i:=()
    rwa[wy l,ye (xf (B j l) u 'z') (zn f (B j l))]
 .let#[q,u,B,S]:=z;rw[v8]at u B;erw[k D q G #[S1.free U,u,B] p (S1.trans S)]
#synth ť ["looks","text","learned","steps","given","chance","bit"] ["looks","text","learned"] ve8
def Í(mx bt:Nat->Int):Nat->Int
 |0=>1
 |j+1=>Í mx bt j*giv (mx j) (bt j)
theorem yak{mx:Nat->Int}:∀(m:Nat),(∀j,j<m->Ch (mx j))->1<=Í mx bt m/\Í mx bt m<=16777216^m
 |0,_=>#[Int.le_refl 1,by rwa[Int.pow_zero,Int.le_refl 1]]
 |m+1,h=>by
  obtain⟨e,c⟩:1<=Í mx bt m/\Í mx bt m<=16777216^m:=yak m λj f=>h j ();let#[d,a]:=h m ();let g1:=ylh (b:=bt m) d a;let g2:=yr3 (b:=bt m) d a;show 1<=Í mx bt m*giv (mx m) (bt m)/\Í mx bt m*giv (mx m) (bt m)<=16777216^(m+1);erw[?_,?_]
  .have:=Int.mul_le_mul e (show 1<=giv (mx m) (bt m) by omega) () ();simpa using this
  .rw[Int.pow_succ];erw[Int.mul_le_mul c () () (Int.le_trans () c)]
def Œ{x:Int}{m:Nat}(h1:1<=x)(h2:x<=16777216^m):x.natAbs<2^(24*m+1):=by
 have e:(16777216:Int)^m=((2^(24*m):Nat):Int):=by
  rw[Nat.pow_mul];simp
 rw[e]at h2;have:x.natAbs<=2^(24*m):=()
 erw[dR this (Nat.pow_lt_pow_right ∅ ())]
noncomputable def yei(m:Nat)(G:Int):Int:=24*(m:Int)+1-(Builtin.Int.intBits G:Nat)
#synth ∀(K:z3),∀(L tx:z4)(lx:V)(n:Nat)(lk:Μ)(kd:Ξ)(tp:Μ)(ps:Λ)(ts:Ρ)(N w:Nat)(lt:Μ)(tt:Λ)(_:vs=[.ref L,.ref tx,lx])(_:vi4 H L tx lx n lk kd tp ps ts N w lt tt)(_:∀H',yz H H'->Q (.int (yei (dec ts).length (Í (xy n kd ps (À tt N) ts) (y9 ts) (dec ts).length))) H'),yva
def vb3:'v' 10 a.I0 a.Gp ["looks","text","learned"] (yva K):=by
 exists T.Ro.ok,ť,R;let#[L,ς,v,n,M,q,S,u,c,N,w,O,D,J,g,k]:=h;let hz:=g.t.z;let a1:=xv c;erw[yg (pst 3 ť.nd (yd1 (vbq T) R.m J T.Tr T.Rn.kp T.Tq .nil vv (pac (pv 0) (pac (pv 1) (pav 2))))) ?_,<-yg (pst 4 ť.nd yf) ?_,<-yg (uc PassesOwn.never J (wg (pv 3)) (Ţ J (xw (vz (i:=5) ť.nd J (Or.inl J)) (xw (vz (i:=6) ť.nd J (Or.inl J)) ö))) (yc (pst 4 ť.nd (yn yv2 (pv 4) (uh (yqi T) R.m T.Jv vn (pac (pv 5) (pav 6))))))) ?_];exists 3,4,yc (ym (yn zq (yn v9 (yn w4 (vy J T.Cn) (pcB yr T.A9 (pav 3))) yf) (yci PySem.F.plainAttrs_int PySem.F.slot_int_bit_length PySem.F.type_int_bit_length yj3 (pv 4))));erw[L,ς,v,n,M,q,S,u,c,N,w,O,D,J,g,λr Y H1 l f S1=>?_];generalize xy n q u (À D N) c=mx at l f k;ext;erw[r,J,#[_,SqL.of l.r],ug (K:=K) (a:=r) (xs:=refs Y (dec c).length) (λi σ2 G=>H1=G/\∃B C:Ψ,σ2=[some (.ref L),some (.ref ς),some v,some (.ref r),some (.int (Í mx (y9 c) i)),B,C]) #[J,_,_,J] (λi σ2 G Z ⟨e,_⟩=>e ▸ SqL.of l.r) ?_ ?_]
 .rintro i y σ2 G hy ⟨rfl,B,C,rfl⟩;let#[J,d]:=u9 hy;let o:=(f i d).1;let#[b0,U]:=yeu c i d;let I:=ych o;let p:=yau b0 U;let#[p1,W]:=yak (mx:=mx) (bt:=y9 c) i λj hj=>(f j ()).1;erw[ţ (SqT.of (l.t i d)) J ?_,←.int (mx i),_,.int (y9 c i),_,J,.int _,.int _,λz=>(by rw[I]at z;cases z),λZ z=>(by rw[p]at z;cases z),λc' b' X eb Z Z=>?_];cases X;cases eb;let g1:=ylh (b:=y9 c i) o.1 o.2;let g2:=yr3 (b:=y9 c i) o.1 o.2;ext;refine yz1 (24*i+25) ?_ ?_ ?_ ?_
  .erw[cR (Œ p1 W) (Nat.pow_le_pow_right ∅ ())]
  .have:(giv (mx i) (y9 c i)).natAbs<2^25:=()
   erw[cR this (Nat.pow_le_pow_right ∅ ())]
  .omega
  ext;exists J,_,_,rfl
 .rintro σ2 G ⟨rfl,B,C,rfl⟩;rw[v8];ext;erw[zd (SqL.of l.r) ?_];rw[v8];ext;erw[k _ S1]
def snK(mx bt:Nat->Int):Nat->Sn
 |0=>s0
 |k+1=>nar (snK mx bt k) (mx k) (bt k)
theorem jg{mx:Nat->Int}:∀m,(∀j,j<m->Ch (mx j))->OkS (snK mx bt m)/\(snK mx bt m).2.2<=5+2*(m:Int)
 |0,_=>#[vi2,by show (5:Int)<=5+2*((0:Nat):Int);decide]
 |m+1,h=>by
  let#[a,e]:=jg m λj d=>h j ();erw[ydt a (h m ()),?_];have:=vbe (c:=mx m) (b:=bt m) a.ok;show (nar (snK mx bt m) (mx m) (bt m)).2.2<=_;omega
theorem ybu{mx my bu:Nat->Int}:∀m,(∀j,j<m->mx j=my j/\bt j=bu j)->snK mx bt m=snK my bu m
 |0,_=>rfl
 |m+1,h=>by
  show nar (snK mx bt m) (mx m) (bt m)=nar (snK my bu m) (my m) (bu m);rw[ybu m λj a=>h j (),(h m ()).1,(h m ()).2]
def FGo.but{p:z4}{A:FA}{H H1 H2:Hp}{el:z4}{o':HO}(h:FGo p A O H H1 el O')(hq:H q=none)(B:But q H1 H2)(hq2:H2 q=some o'):FGo p A O H H2 el O' :=
 #[h.he,h.hO,λc o e b a f d=>B _ _ (h.fr c o e b a f d) (yb e hq),λc o e=>let ⟨o1,w⟩:=h.live c o e;#[o1,B _ _ w (yb e hq)]]
def zv.but{H H':Hp}{p C:z4}{A:FA}{X:FX}{f:Α}{m:Nat}{fs:Ι}(h:zv K a H p A X f O m)(hq:H q∩C dq fs)(hl:fs.length=3)(nO:∀i,i<A.n->¬O i q)(B:But q H H'):zv K a H' p A X f O m:=by
 erw[h.frame (O2:=λc=>c=q) (λc o e j=>B c o e j) (λz=>zr h.me hq (by rw[hl];show ¬(6=3);decide) z) (λz=>zr h.mx.o hq (by rw[hl];show ¬(1=3);decide) z) (λi d z=>zr (h.B.b i d).me hq (by rw[hl];show ¬(2=3);decide) z) (λi c d w z=>nO i d (z ▸ w)) (λl g Z e=>B.lst hq e) (λt g e=>?_)];rcases e with(e|⟨o,e⟩)|e
 .erw[.inl (.inl (B _ _ e (λz=>by rw[z,hq]at e;cases e)))]
 .erw[.inl (.inr #[o,B _ _ e (λz=>by rw[z,hq]at e;cases e)])]
 .erw[.inr e]
def yhq(A:FA)(X:FX)(ts:Ρ)(k:Nat):Int:=yl6 (X.run A ((dec ts).take k)).ws ((X.run A ((dec ts).take k)).cs A)
#synth ykv ["foreteller","text","span","bit"] ["foreteller","text"] vf7
#synth ∀(K:z3)(a:Ads),∀(p:z4)(A:FA)(X:FX)(f:Α)(O:Β)(m:Nat)(tx:z4)(ts:Ρ)(_:vs=[.ref p,.ref tx])(_:zv K a H p A X f O m)(_:X.sg=[])(_:X.nd=0)(_:ä H tx ts 1000)(_:tx≠A.el)(_:m+6*(dec ts).length+20<1000000)(_:∀(r ml el pl:z4)(sl:Μ)(f':Α)(O':Β)(m':Nat)(H':Hp),H r=none->H' r\((tL (snK (yhq A X ts) (y9 ts) (dec ts).length)).map V.int)->zv K a H' p (A.re ml el pl sl) (X.run A (dec ts)) f' O' m'->m'<=m+6*(dec ts).length->FGo p A O H H' el O'->Q (.ref r) H'),yfc
def va7:'v' 7 a.N9 a.Pz ["foreteller","text"] (yfc K a):=by
 exists T.Rp.F.ok,ykv,hr;let#[p,c,X,f,O,m,tx,d,J,hF,ah,ay,Y,aH,hm,k]:=h;let aE:=xv d;let hz:=Y.z;let a0:=Y.s;erw[yg (pst 2 ykv.nd (Ø T.Lc (yrx T) hr.m J T.Lb T.K6.B .nil vv)) ?_,<-yg (uc PassesOwn.never J (wg (xp (ylj T) hr.m T.Gs (pav 1))) (vz (i:=3) ykv.nd J (Or.inl J)) (yh (yy (y6 (pv 2) T.Ai T.Fe.m (ypn T) hr.m T.Fe.B .nil vn (pac (vi (pv 0) T.Ad T.Dh.m (ylk T) hr.m T.Dh.B .nil vv) (pav 3)))) (yc (yy (ww (pv 0) T.Ad T.C8.m (yfw T) hr.m T.C8.B .nil vv (pav 3)))))) ?_];exists 2,2,yc (ym (vi (pv 2) T.Ai T.Ff.m (ypk T) hr.m T.Ff.B .nil vv));intro q W nq az aI;have SQ:yz H (upd (upd H W (.own q)) q (.ins a.A8 W [])):=λb o e=>by rwa[yk (yb e nq),yk (yb e az),e]
 erw[q,W,J,ya,λH1 ar B1=>#[J,?_]];have S1:yz H H1:=λb o e=>B1 b o (SQ b o e) (yb e nq);ext;erw[tx,d,J,S1 _ _ Y.l,a0,(),λbt H2 ac U S2=>?_]
 let aa:=S1.trans S2;let aA:=hF.same aa;have ak:bt≠c.el:=(yb (hF.same S1).el ac).symm
 have ae:∀i,i<c.n->¬O i q:=λi Z w=>by
  let#[o,ho,_]:=(hF.B.b i Z).own q w;rw[nq]at ho;cases ho
 erw[bt,J,#[_,SqL.of U],ug (K:=K) (a:=bt) (xs:=(dec d).map V.int) (λj σ2 G=>∃(v:Ψ)(ml el pl:z4)(sl:Μ)(f':Α)(O':Β),σ2=[some (.ref p),some (.ref tx),some (.ref q),v]/\zv K a G p (c.re ml el pl sl) (X.run c ((dec d).take j)) f' O' (m+6*j)/\FGo p c O H G el O'/\TxE d j (X.run c ((dec d).take j)).sg (X.run c ((dec d).take j)).nd/\G q∩a.A8 W (ν (snK (yhq c X d) (y9 d) j))/\(∀i,i<c.n->¬O' i q)/\(G bt\((dec d).map V.int)/\bt≠el)/\(∀i,i<j->Ch (yhq c X d i)))
  #[_,c.ml,c.el,c.pl,c.sl,f,O,J,aA,FGo.refl.same aa,.inl #[cI _,by show ya7 _ _ X.sg X.nd;rwa[ah,ay,ya7.zero _]],S2 _ _ ar,ae,#[U,ak],λi Z=>absurd Z (cP i)] (by rintro j σ2 G _ ⟨_,_,_,_,_,_,_,_,_,_,_,_,_,z,_⟩;erw[SqL.of z.1]) ?_ ?_]
 .rintro j y σ2 G hy ⟨v,D,C,ς,I,f1,O1,rfl,g,go,hT,u,N,⟨a2,S⟩,L⟩;let#[b,J,au,hb,hj]:=jh hy;let#[b0,b1]:=jt _ b au;let#[a9,av]:=hT.next a0 hb;let#[aj,aC]:=a9.nd a0;let aD:=a9.len;have a4:y9 d j=b:=by unfold y9;rw[hb];rfl
  let aB:=g.me;have a6:Ch (yhq c X d j):=yf3 g.n1 g.wok g.cok;let ap:=ych a6;let as:=yau b0 b1;let#[a1,aq]:=jg (mx:=yhq c X d) (bt:=y9 d) j L;ext;erw[q,W,_,J,u,lkN _ 'r' 'r' 'r',?_,←p,c.re D C ς I,_,f1,O1,_,J,g,λG1 R=>?_,←q,W,_,.int (yhq c X d j),.int b,_,_,J,R _ _ u,a1.ok,.int _,.int _,λz=>(by rw[ap]at z;cases z),λF z=>(by rw[as]at z;cases z),λc' b' ec eb F F F G2 x B2=>?_];cases ec;cases eb;let t:=(g.same R).but (R _ _ u) J N B2;have ao:FGo p c O H G2 C O1:=(go.same R).but nq B2 x;have M:G2 bt\((dec d).map V.int):=B2.lst (R _ _ u) (R _ _ a2);let aF:=t.me;let n6:=g.n6;ext;erw[p,c.re D C ς I,_,f1,O1,m+6*j,b,J,t,b0,b1,(),aj,(),λal a7 ax ad f3 O3 G3 ag am a8 a5 ai F=>?_]
  have ab:FGo p (c.re D C ς I) O1 G2 G3 a7 O3:=#[ag,a8,a5,ai];let a3:=ab.kpa t;ext;erw[_,al,a7,ax,ad,f3,O3,J,?_,ao.trans ab,?_,?_,λi Z w=>?_,#[(a3 _ _ M J S).2,(a3 _ _ M J S).1],λi Z=>?_]
  .rw[zb hb];erw[am.up (by show m+6*j+c.n<=_;have:c.n<=6:=n6;omega)]
  .rw[zb hb];erw[av]
  .have e:snK (yhq c X d) (y9 d) (j+1)=nar (snK (yhq c X d) (y9 d) j) (yhq c X d j) b:=by show nar _ _ (y9 d j)=_;rw[a4]
   rwa[e,a5 _ _ x (zr x t.me (show ¬(3=6) by decide)) (zr x t.mx.o (show ¬(3=1) by decide)) (λz=>by have e:=t.el;rw[<- z,x]at e;cases e) N]
  .rcases a8 i q Z w with v|v
   .erw[N i Z v]
   .rw[x]at v;cases v
  .by_cases z:i=j
   .rw[z];erw[a6]
   .erw[L i ()]
 .rintro σ2 G ⟨v,D,C,ς,I,f1,O1,rfl,g,go,hT,u,N,_,L⟩;rw[bw]at g u L;rw[cU]at g;let#[a1,aq]:=jg (mx:=yhq c X d) (bt:=y9 d) (dec d).length L;ext;erw[q,W,_,J,u,lkN _ 'r' 'r' 'r',?_];ext;exists q,W,_,J,u,a1,by show Int.toNat _<=100000;omega,λr G1 an af R=>?_
  erw[k r D C ς I f1 O1 _ G1 (go.free an) af (g.same R) (cc _) (go.same R)]
structure RGo(p q s:z4)(A:FA)(O:Β)(H H':Hp)(ml el:z4)(O':Β):Prop where
 hm:ml=A.ml\/H ml=none
 he:el=A.el\/H el=none
 hO:∀j c,j<A.n->O' j c->O j c\/H c=none
 fr:∀c o,H c=some o->c≠p->c≠A.mp->c≠A.el->c≠q->c≠s->(∀j,j<A.n->¬O j c)->H' c=some o
 live:∀c o,H c=some o->∃o',H' c=some o'
def RGo.free{p s:z4}{A:FA}{H H':Hp}{ml el c:z4}(h:RGo p q s A O H H' ml el O')(hc:H' c=none):H c=none:=by
 cases e:H c with
 |none=>rfl
 |some o =>
  let#[a,w]:=h.live c o e;rw[hc]at w;cases w
def RGo.refl{p s:z4}{A:FA}{H:Hp}:RGo p q s A O H H A.ml A.el O:=#[.inl J,.inl J,λZ Z Z w=>.inl w,λZ Z e Z Z Z Z Z Z=>e,λZ o e=>#[o,e]]
theorem RGo.trans{p s:z4}{A:FA}{O1:Β}{H H1 H2:Hp}{ml el pl ml2 el2:z4}{sl:Μ}(h:RGo p q s A O H H1 ml el O1)(k:RGo p q s (A.re ml el pl sl) O1 H1 H2 ml2 el2 O2):RGo p q s A O H H2 ml2 el2 O2:=by
 erw[?_,?_,λj c a w=>?_,λc o e l b f i g d=>?_,λc o e=>?_]
 .rcases k.hm with z|z
  .rcases h.hm with y|y
   .erw[.inl (z.trans y)]
   .erw[.inr (by rwa[show ml2=ml from z,y])]
  .erw[.inr (h.free z)]
 .rcases k.he with z|z
  .rcases h.he with y|y
   .erw[.inl (z.trans y)]
   .erw[.inr (by rwa[show el2=el from z,y])]
  .erw[.inr (h.free z)]
 .rcases k.hO j c a w with v|v
  .erw[h.hO j c a v]
  .erw[.inr (h.free v)]
 .refine k.fr c o (h.fr c o e l b f i g d) l b (λz=>?_) i g (λj a w=>?_)
  .rcases h.he with y|y
   .erw[f (z.trans y)]
   .rw[show c=el from z,y]at e;cases e
  .rcases h.hO j c a w with v|v
   .erw[d j a v]
   .rw[e]at v;cases v
 .let#[n,m]:=h.live c o e;erw[k.live c n m]
def RGo.same{p s:z4}{A:FA}{H H1 H2:Hp}{ml el:z4}(h:RGo p q s A O H H1 ml el O')(S:yz H1 H2):RGo p q s A O H H2 ml el O' :=
 #[h.hm,h.he,h.hO,λc o e i a d g f b=>S _ _ (h.fr c o e i a d g f b),λc o e=>let ⟨o',w⟩:=h.live c o e;#[o',S _ _ w]]
structure Î(K:z3)(a:Ads)(H:Hp)(p:z4)(A:FA)(X:FX)(f:Α)(O:Β)(m:Nat)(q dx pd s ds:z4)(d:Ρ)(x:Sn):Prop where
 ft:zv K a H p A X f O m
 sk:yhr a H q dx pd s ds d x
 ok:OkS x
 nO:∀i,i<A.n->¬O i q/\¬O i s
 nd:pd≠A.el
theorem Î.same{H H':Hp}{p:z4}{A:FA}{X:FX}{f:Α}{m:Nat}{dx pd s:z4}{d:Ρ}{x:Sn}(h:Î K a H p A X f O m q dx pd s ds d x)(S:yz H H'):Î K a H' p A X f O m q dx pd s ds d x:=#[h.ft.same S,h.sk.same S,h.ok,h.nO,h.nd]
def chX(A:FA)(X:FX):Int:=yl6 X.ws (X.cs A)
def zv.but2{H H':Hp}{p:z4}{A:FA}{X:FX}{f:Α}{m:Nat}{dx pd s:z4}{d:Ρ}{x:Sn}(h:Î K a H p A X f O m q dx pd s ds d x)(B:yl9 q s H H'):zv K a H' p A X f O m:=by
 let j:=h.sk.me;let k:=h.sk.sp;erw[h.ft.frame (O2:=λc=>c=q\/c=s) (λc o e n=>B c o e (λz=>n (.inl z)) (λz=>n (.inr z))) (λz=>?_) (λz=>?_) (λi g z=>?_) (λi c g w z=>?_) (λl r Z e=>h.sk.lst B e) (λt r e=>?_)]
 .rcases z with z|z
  .erw[zr h.ft.me j (show ¬(6=4) by decide) z]
  .erw[zr h.ft.me k (show ¬(6=3) by decide) z]
 .rcases z with z|z
  .erw[zr h.ft.mx.o j (show ¬(1=4) by decide) z]
  .erw[zr h.ft.mx.o k (show ¬(1=3) by decide) z]
 .rcases z with z|z
  .erw[zr (h.ft.B.b i g).me j (show ¬(2=4) by decide) z]
  .erw[zr (h.ft.B.b i g).me k (show ¬(2=3) by decide) z]
 .rcases z with z|z
  .erw[(h.nO i g).1 (z ▸ w)]
  .erw[(h.nO i g).2 (z ▸ w)]
 .rcases e with(e|⟨o,e⟩)|e
  .erw[.inl (.inl (h.sk.tup B e))]
  .erw[.inl (.inr #[o,B _ _ e (xf e j 'z') (xf e k 'z')])]
  .erw[.inr e]
#synth ysm ["foreteller","seeker","bit"] ["foreteller","seeker"] vge
#synth ∀(K:z3)(a:Ads),∀(p:z4)(A:FA)(X:FX)(f:Α)(O:Β)(m:Nat)(q dx pd s ds:z4)(d:Ρ)(x:Sn)(_:vs=[.ref p,.ref q])(_:Î K a H p A X f O m q dx pd s ds d x)(_:m+20<1000000)(_:0<=X.nd)(_:X.sg.length<=100000)(_:∀(ml el pl:z4)(sl:Μ)(f':Α)(O':Β)(H':Hp),Î K a H' p (A.re ml el pl sl) (X.see A (å d x (chX A X))) f' O' (m+A.n) q dx pd s ds d (nar x (chX A X) (å d x (chX A X)))->RGo p q s A O H H' ml el O'->Q (.int (å d x (chX A X))) H'),yff
def yrf:'v' 7 a.Na a.Q1 ["foreteller","seeker"] (yff K a):=by
 exists T.Kj.F.ok,ysm,hr;let#[p,r,X,f,O,m,q,dx,pd,u,ds,d,x,J,n,hm,a6,a4,k]:=h;let hp:=n.ft.me;let hq:=n.sk.me;have ς:Ch (chX r X):=yf3 n.ft.n1 n.ft.wok n.ft.cok;let a5:=ych ς;exists 2,1,yh (pst 2 ysm.nd (y6 (pv 1) T.Ax T.Kh.m (vb6 T) hr.m T.Kh.B .nil vn (pa1 (vi (pv 0) T.Ad T.Dh.m (ylk T) hr.m T.Dh.B .nil vv)))) (yh (yy (ww (pv 0) T.Ad T.C8.m (yfw T) hr.m T.C8.B .nil vv (pav 2))) (yc (ym (pv 2))));erw[p,r,X,f,O,m,J,n.ft,λH1 D=>?_];let S:=n.same D;ext;erw[q,dx,pd,u,ds,d,x,.int (chX r X),_,J,S.sk,n.ok,.int _,λz=>(by rw[a5]at z;cases z),λc' ec F H2 g G=>?_];cases ec;let l:=zv.but2 S G;let a7:=l.me
 obtain⟨b0,b1⟩:0<=å d x (chX r X)/\å d x (chX r X)<=1:=by
  rcases yar d x (chX r X)with e|e<;>(rw[e];decide)
 generalize hb:å d x (chX r X)=b at b0 b1 g k;ext;erw[p,r,X,f,O,m,b,J,l,b0,b1,hm,a6,a4,λL M pl sl f' O' H3 he Z hO U lv t=>?_];have a2:q≠p:=zr g.me l.me (show ¬(4=6) by decide);have a3:q≠r.mp:=zr g.me l.mx.o (show ¬(4=1) by decide);have W:u≠p:=zr g.sp l.me (show ¬(3=6) by decide);have a0:u≠r.mp:=zr g.sp l.mx.o (show ¬(3=1) by decide)
 have R:∀{c C dc:z4}{fs:Ι},H2 c∩C dc fs->c≠r.el:=λe z=>by
  let e2:=l.el;rw[<- z,e]at e2;cases e2
 let N:=U _ _ g.me a2 a3 (R g.me) λi y=>(n.nO i y).1;let I:=U _ _ g.sp W a0 (R g.sp) λi y=>(n.nO i y).2;have Y:H3 pd\(d.map V.int):=U _ _ g.dt (λz=>by have e:=g.dt;rw[z,l.me]at e;cases e) (λz=>by have e:=g.dt;rw[z,l.mx.o]at e;cases e) n.nd (l.B.nlst g.dt);ext;erw[k L M pl sl f' O' H3 #[Z,#[N,Y,I,g.ne],ydt n.ok ς,λi y=>#[λw=>?_,λw=>?_],?_] #[.inr ?_,?_,λj c hj w=>?_,λc o e c1 c2 c3 c4 c5 no=>?_,λc o e=>?_]]
 .rcases hO i q y w with v|v
  .erw[(n.nO i y).1 v]
  .rw[g.me]at v;cases v
 .rcases hO i u y w with v|v
  .erw[(n.nO i y).2 v]
  .rw[g.sp]at v;cases v
 .rcases he with z|z
  .rw[show (r.re L M pl sl).el=r.el from z];erw[n.nd]
  .erw[yb g.dt z]
 .cases e:H L with
  |none=>rfl
  |some o =>
   by_cases z1:L=q
   .rw[z1,g.me]at t;cases t
   by_cases z2:L=u
   .rw[z2,g.sp]at t;cases t
   rw[G _ _ (D _ _ e) z1 z2]at t;cases t
 .rcases he with z|z
  .erw[.inl z]
  .refine .inr ?_
   cases e:H M with
   |none=>rfl
   |some o =>
    by_cases z1:M=q
    .rw[z1,g.me]at z;cases z
    by_cases z2:M=u
    .rw[z2,g.sp]at z;cases z
    rw[G _ _ (D _ _ e) z1 z2]at z;cases z
 .rcases hO j c hj w with v|v
  .erw[.inl v]
  .refine .inr ?_
   cases e:H c with
   |none=>rfl
   |some o =>
    by_cases z1:c=q
    .rw[z1,g.me]at v;cases v
    by_cases z2:c=u
    .rw[z2,g.sp]at v;cases v
    rw[G _ _ (D _ _ e) z1 z2]at v;cases v
 .erw[U c o (G _ _ (D _ _ e) c4 c5) c1 c2 c3 no]
 .by_cases z1:c=q
  .erw[_,z1 ▸ N]
  by_cases z2:c=u
  .erw[_,z2 ▸ I]
  erw[lv c o (G _ _ (D _ _ e) z1 z2)]
def rnx(A:FA)(d:Ρ)(S:FX×Sn):FX×Sn:=(S.1.see A (å d S.2 (chX A S.1)),nar S.2 (chX A S.1) (å d S.2 (chX A S.1)))
def rst(A:FA)(d:Ρ)(S:FX×Sn):Nat->FX×Sn
 |0=>S
 |n+1=>rnx A d (rst A d S n)
def j5(A:FA)(d:Ρ)(S:FX×Sn)(n:Nat):Int:=å d (rst A d S n).2 (chX A (rst A d S n).1)
def yll(A:FA)(d:Ρ)(S:FX×Sn)(n:Nat):j5 A d S n=0\/j5 A d S n=1:=yar _ _ _
theorem yee(A:FA)(d:Ρ)(S:FX×Sn)(k:Nat):∀n,rst A d (rst A d S k) n=rst A d S (k+n)
 |0=>rfl
 |n+1=>congrArg (rnx A d) (yee A d S k n)
theorem yk8(A:FA)(d:Ρ)(S:FX×Sn)(ml el pl:z4)(sl:Μ):∀n,rst (A.re ml el pl sl) d S n=rst A d S n
 |0=>rfl
 |n+1=>by
  show rnx (A.re ml el pl sl) d (rst (A.re ml el pl sl) d S n)=_;rw[yk8 A d S ml el pl sl n];rfl
def yxs(A:FA)(X:FX)(b:Int)(h:0<=X.nd)(hb:0<=b):0<=(X.see A b).nd:=by
 show 0<=ndN X.nd b;unfold ndN
 split
 .split<;>omega
 .split<;>omega
def vax(A:FA)(X:FX)(b:Int):(X.see A b).sg.length<=X.sg.length+1:=by
 show (sgN X.sg X.nd b).length<=_;unfold sgN
 split
 .split
  .rw[bY];erw[cc _]
  .omega
 .split
  .omega
  .erw[cI _]
theorem yf1(A:FA)(d:Ρ)(S:FX×Sn)(h:0<=S.1.nd):∀n,0<=(rst A d S n).1.nd
 |0=>h
 |n+1=>yxs A _ _ (yf1 A d S h n) (by rcases yll A d S n with e|e<;>(unfold j5 at e;rw[e];decide))
theorem ygd(A:FA)(d:Ρ)(S:FX×Sn):∀n,(rst A d S n).1.sg.length<=S.1.sg.length+n
 |0=>cc _
 |n+1=>cO (vax A _ _) (Nat.succ_le_succ (ygd A d S n))
theorem Î.app{H:Hp}{p R:z4}{A:FA}{X:FX}{f:Α}{m:Nat}{dx pd s:z4}{d:Ρ}{x:Sn}{xs ys:Υ}(h:Î K a H p A X f O m q dx pd s ds d x)(hR:H R\xs)(hq:∀q,(q=A.bl\/q=A.el\/q=A.ml\/q=A.pl)->q≠R)(np:pd≠R):Î K a (upd H R (.lst ys)) p A X f O m q dx pd s ds d x:=by
 erw[h.ft.app hR hq,#[ye (λz=>?_) h.sk.me,ye np h.sk.dt,ye (λz=>?_) h.sk.sp,h.sk.ne],h.ok,h.nO,h.nd]
 .let e:=h.sk.me;rw[z,hR]at e;cases e
 .let e:=h.sk.sp;rw[z,hR]at e;cases e
def Î.notN{H:Hp}{p R:z4}{A:FA}{X:FX}{f:Α}{m:Nat}{dx pd s:z4}{d:Ρ}{x:Sn}(h:Î K a H p A X f O m q dx pd s ds d x)(hR:H R\(xs.map V.int))(nm:R≠A.ml)(ne:R≠A.el):∀q,(q=A.bl\/q=A.el\/q=A.ml\/q=A.pl)->q≠R:=λq j z=>by
 let i:=h.ft.n1
 have b:∀(g:Μ),xs.map V.int=refs g A.n->False:=λg e=>by
  have c:(refs g A.n)[0]?=some (V.ref (g 0)):=yfr i;rw[<- e,ci]at c
  cases w:xs[0]? with
  |none=>rw[w]at c;cases c
  |some y=>rw[w]at c;cases c
 rcases j with y|y|y|y
 .let e:=h.ft.bl;rw[<- y,z,hR]at e;erw[b _ (HO.lst.inj (cu e))]
 .erw[ne (z.symm.trans y)]
 .erw[nm (z.symm.trans y)]
 .let e:=h.ft.pl;rw[<- y,z,hR]at e;erw[b _ (HO.lst.inj (cu e))]
def RGo.app{p s R:z4}{A:FA}{H H1:Hp}{ml el:z4}{o':HO}(h:RGo p q s A O H H1 ml el O')(hR:H R=none):RGo p q s A O H (upd H1 R o') ml el O' :=
 #[h.hm,h.he,h.hO,λc o e i a d g f b=>ye (yb e hR) (h.fr c o e i a d g f b),λc o e=>let ⟨o1,w⟩:=h.live c o e;#[o1,ye (yb e hR) w]]
noncomputable def wB(i:Nat):Int:=([128,64,32,16,8,4,2,1]:Ρ)[i]?.getD 0
def vh0(i:Nat):0<=wB i/\wB i<=128:=by
 rcases i with _|_|_|_|_|_|_|_|i
 .exists by decide,∅
 .exists by decide,∅
 .exists by decide,∅
 .exists by decide,∅
 .exists by decide,∅
 .exists by decide,∅
 .exists by decide,∅
 .exists by decide,∅
 .exists by show (0:Int)<=0;decide,by show (0:Int)<=128;decide
def sgB(A:FA)(d:Ρ)(S:FX×Sn)(i:Nat):Ρ:=(List.range i).map λj=>wB j*j5 A d S j
def yom(A:FA)(d:Ρ)(S:FX×Sn)(i:Nat):sgB A d S (i+1)=sgB A d S i++[wB i*j5 A d S i]:=by unfold sgB;rw[List.range_succ,cy];rfl
#synth vbc ["foreteller","seeker"] ve3
#synth ∀(K:z3)(a:Ads),∀(p:z4)(A:FA)(S:FX×Sn)(f:Α)(O:Β)(m:Nat)(q dx pd s ds:z4)(d:Ρ)(_:vs=[.ref p,.ref q])(_:Î K a H p A S.1 f O m q dx pd s ds d S.2)(_:m+80<1000000)(_:0<=S.1.nd)(_:S.1.sg.length<=90000)(_:∀(ml el pl:z4)(sl:Μ)(f':Α)(O':Β)(H':Hp),Î K a H' p (A.re ml el pl sl) (rst A d S 8).1 f' O' (m+8*A.n) q dx pd s ds d (rst A d S 8).2->RGo p q s A O H H' ml el O'->Q (.int (sgB A d S 8).sum) H'),yca
def vcq:'v' 8 a.Nd a.Q3 ["foreteller","seeker"] (yca K a):=by
 exists T.Rq.F.ok,vbc,hr;let#[p,b,S,f,O,m,q,dx,pd,Z,ds,d,J,X,hm,a5,aa,k]:=h;let n6:=X.ft.n6;exists 2,0,yc (ym (pcB (Ý J) T.Fu (pa1 (vt (js:=[1,0]) (ys:=["seeker","foreteller"]) J (yfv (δ J T.Fx)) (λC s2 H2 fp=>(yn w4 (pv 0) (xp (yrf T) hr.m T.Kj (pac (pv 2) (pav 1))))) J J (hyc:=(all_cons J (all_cons J yu))) (hrel:=(all_cons J (all_cons J yu)))))));erw[a.Bl,J,#[_,T.w_WORTHS H],λD ς=>?_,<-yb9 (xs:=[.int 128,.int 64,.int 32,.int 16,.int 8,.int 4,.int 2,.int 1]) (λi G=>∃(t u U:z4)(M:Μ)(f':Α)(O':Β),Î K a G p (b.re t u U M) (rst b d S i).1 f' O' (m+i*b.n) q dx pd Z ds d (rst b d S i).2/\RGo p q Z b O H G t u O'/\G D\((sgB b d S i).map V.int)/\D≠t/\D≠u) ?_ (λi G F F=>T.w_WORTHS G) ?_ ?_]
 .have S1:yz H (upd H D (.lst [])):=y7 ς;erw[b.ml,b.el,b.pl,b.sl,f,O,?_,RGo.refl.same S1,ya,(yb X.ft.mx.l ς).symm,(yb X.ft.el ς).symm];rwa[Nat.zero_mul,X.same S1]
 .rintro i y G j a3 ⟨t,u,U,M,f1,O1,e,r,c,I,x⟩;have hi:i<8:=a3
  obtain rfl:y=V.int (wB i):=by
   rcases i with _|_|_|_|_|_|_|_|i
   .erw[(cu j).symm]
   .erw[(cu j).symm]
   .erw[(cu j).symm]
   .erw[(cu j).symm]
   .erw[(cu j).symm]
   .erw[(cu j).symm]
   .erw[(cu j).symm]
   .erw[(cu j).symm]
   .omega
  have a9:i*b.n<=8*b.n:=Nat.mul_le_mul_right _ ();let#[a8,ab]:=vh0 i;let a1:=yf1 b d S a5 i;let a6:=ygd b d S i;ext;erw[p,b.re t u U M,(rst b d S i).1,f1,O1,m+i*b.n,q,dx,pd,Z,ds,d,(rst b d S i).2,J,e,(),a1,(),λL R a0 a4 f2 O2 G2 Y g=>?_]
  have v:G2 D\((sgB b d S i).map V.int):=g.fr _ _ c (xf c e.ft.me 'z') (xf c e.ft.mx.o 'z') x (xf c e.sk.me 'z') (xf c e.sk.sp 'z') (e.ft.B.nlst c)
  have N:D≠L:=by
   rcases g.hm with z|z
   .rw[z];erw[I]
   .erw[yb c z]
  have W:D≠R:=by
   rcases g.he with z|z
   .rw[z];erw[x]
   .erw[yb c z]
  erw[wB i,_,J,J,.inl #[(),()],?_,<-_,v,?_,8-(i+1),by show 8-(i+1)<8-i;omega,J,hi,L,R,a0,a4,f2,O2,?_,?_,?_,N,W]
  .unfold sgB;rwa[bw,bw,c8,Nat.lt_trans hi ∅]
  .rw[show m+(i+1)*b.n=m+i*b.n+b.n by rw[Nat.succ_mul,Nat.add_assoc]];erw[Î.app Y v (Y.notN v N W) (yb X.sk.dt ς)]
  .erw[(r.trans g).app ς]
  .rw[yom,cy];erw[ya]
 .rintro G ⟨t,u,U,M,f1,O1,e,r,c,I,x⟩;ext;erw[D,sgB b d S 8,J,SqL.of c,?_,←k t u U M f1 O1 G e r]
theorem Î.up{H:Hp}{p:z4}{A:FA}{X:FX}{f:Α}{m:Nat}{dx pd s:z4}{d:Ρ}{x:Sn}(h:Î K a H p A X f O m q dx pd s ds d x)(hm:m<=m'):Î K a H p A X f O m' q dx pd s ds d x:=#[h.ft.up hm,h.sk,h.ok,h.nO,h.nd]
def yti(A:FA)(d:Ρ)(S:FX×Sn)(ml el pl:z4)(sl:Μ)(n:Nat):j5 (A.re ml el pl sl) d S n=j5 A d S n:=by unfold j5;rw[yk8];rfl
def vce(A:FA)(d:Ρ)(S:FX×Sn)(ml el pl:z4)(sl:Μ)(n:Nat):sgB (A.re ml el pl sl) d S n=sgB A d S n:=by unfold sgB;erw[List.map_congr_left λj Z=>by rw[yti]]
def rsg(A:FA)(d:Ρ)(S:FX×Sn)(k:Nat):Int:=(sgB A d (rst A d S (9*k+1)) 8).sum
def rtx(A:FA)(d:Ρ)(S:FX×Sn)(k:Nat):Ρ:=(List.range k).map (rsg A d S)
def yno(A:FA)(d:Ρ)(S:FX×Sn)(k:Nat):rtx A d S (k+1)=rtx A d S k++[rsg A d S k]:=by unfold rtx;rw[List.range_succ,cy];rfl
def ñ(A:FA)(d:Ρ)(S:FX×Sn)(k:Nat):(rtx A d S k).length=k:=by unfold rtx;rw[bw,c8]
end
section
variable{G:Hp}{p:z4}{A:FA}{S:FX×Sn}{f:Α}{m n:Nat}{dx pd s ml el pl:z4}{sl:Μ}{d:Ρ}{Q:VK}{E:XK}
def yyx(hR:Î K a G p (A.re ml el pl sl) (rst A d S n).1 f O m q dx pd s ds d (rst A d S n).2)(hm:m+20<1000000)(nd0:0<=S.1.nd)(hsg:S.1.sg.length+n<=100000)
  (k:∀(ml2 el2 pl2:z4)(sl2:Μ)(f':Α)(O':Β)(H':Hp),Î K a H' p (A.re ml2 el2 pl2 sl2) (rst A d S (n+1)).1 f' O' (m+6) q dx pd s ds d (rst A d S (n+1)).2->RGo p q s (A.re ml el pl sl) O G H' ml2 el2 O'->Q (.int (j5 A d S n)) H'):yff K a [.ref p,.ref q] G Q E :=
 #[p,A.re ml el pl sl,(rst A d S n).1,f,O,m,q,dx,pd,s,ds,d,(rst A d S n).2,J,hR,hm,yf1 A d S nd0 n,cO (ygd A d S n) hsg,λml2 el2 pl2 sl2 f' O' H' b c=>k ml2 el2 pl2 sl2 f' O' H' (Î.up b (Nat.add_le_add_left hR.ft.n6 m)) c]
def yu1(hR:Î K a G p (A.re ml el pl sl) (rst A d S n).1 f O m q dx pd s ds d (rst A d S n).2)(hm:m+80<1000000)(nd0:0<=S.1.nd)(hsg:S.1.sg.length+n<=90000)
  (k:∀(ml2 el2 pl2:z4)(sl2:Μ)(f':Α)(O':Β)(H':Hp),Î K a H' p (A.re ml2 el2 pl2 sl2) (rst A d S (n+8)).1 f' O' (m+48) q dx pd s ds d (rst A d S (n+8)).2->RGo p q s (A.re ml el pl sl) O G H' ml2 el2 O'->Q (.int (sgB A d (rst A d S n) 8).sum) H'):yca K a [.ref p,.ref q] G Q E:=by exists p,A.re ml el pl sl,rst A d S n,f,O,m,q,dx,pd,s,ds,d,J,hR,hm,yf1 A d S nd0 n,cO (ygd A d S n) hsg,λml2 el2 pl2 sl2 f' O' H' b c=>?_;have e:A.n<=6:=hR.ft.n6;let b:=Î.up b (show m+8*A.n<=m+48 by omega);rw[yk8,yee]at b;rwa[vce,k ml2 el2 pl2 sl2 f' O' H' b c]
end
mutual
#synth yrh ["foreteller","seeker","most","text"] ["foreteller","seeker","most"] ve9
#synth ∀(K:z3)(a:Ads),∀(p:z4)(A:FA)(S:FX×Sn)(f:Α)(O:Β)(m:Nat)(q dx pd s ds:z4)(d:Ρ)(mo:Nat)(_:vs=[.ref p,.ref q,.int mo])(_:Î K a H p A S.1 f O m q dx pd s ds d S.2)(_:mo<=1000)(_:m+54*mo+200<1000000)(_:0<=S.1.nd)(_:S.1.sg.length<=10000)(_:(∀(N:Nat)(r ml el pl:z4)(sl:Μ)(f':Α)(O':Β)(H':Hp),N<=mo->(∀j,j<N->j5 A d S (9*j)=1)->j5 A d S (9*N)=0->H r=none->H' r\((rtx A d S N).map V.int)->r≠el->Î K a H' p (A.re ml el pl sl) (rst A d S (9*N+1)).1 f' O' (m+54*N+6) q dx pd s ds d (rst A d S (9*N+1)).2->RGo p q s A O H H' ml el O'->Q (.ref r) H'))(_:((∀j,j<=mo->j5 A d S (9*j)=1)->∀(ml el:z4)(O':Β)(H':Hp),RGo p q s A O H H' ml el O'->E (.ref a.Ev) none H')),yif
def yzy:'e' 9 a.Nf a.Q4 ["foreteller","seeker","most"] (yif K a):=by
 exists T.Rr.F.okE,yrh,hr;let#[p,g,S,f,O,m,q,dx,pd,M,ds,d,R,J,hR,an,hm,a6,am,kQ,kE]:=h;exists 3,1,yh (pst 3 yrh.nd (wk u8)) (yh (ψ PassesOwn.leaving (yp w6 (xp (yrf T) hr.m T.Kj (pac (pv 0) (pav 1))) yf (yw _)) (yh (vj (yp w6 (pcB yr T.A9 (pav 3)) (pv 2) (yw _)) (yc (xa J T.U5 T.U9 (pa1 y8))) yq) (yc (yy ('u' (pv 3) (pa1 (xp (vcq T) hr.m T.Rq (pac (pv 0) (pav 1))))))))) (yc (ym (pv 3))));exists 'l',λr hr0=>?_
 exists hr0,H1,S1,hr1;have ae:pd≠r:=yb hR.sk.dt hr0;ext
 erw[λw σ' G=>∃(N:Nat)(C D pl:z4)(Z:Μ)(f':Α)(O':Β),σ'=[some (.ref p),some (.ref q),some (.int R),some (.ref r)]/\N<=R/\(∀j,j<N->j5 g d S (9*j)=1)/\Î K a G p (g.re C D pl Z) (rst g d S (9*N)).1 f' O' (m+54*N) q dx pd M ds d (rst g d S (9*N)).2/\RGo p q M g O H G C D O'/\G r\((rtx g d S N).map V.int)/\r≠C/\r≠D/\w=R-N,
  #[_,0,g.ml,g.el,g.pl,g.sl,f,O,J,cI _,λj hj=>absurd hj (cP j),hR.same S1,RGo.refl.same S1,hr1,(yb hR.ft.mx.l hr0).symm,(yb hR.ft.el hr0).symm,J],?_]
 rintro w σ2 G ⟨N,C,D,pl,Z,f1,O1,rfl,hN,a5,e,aa,ah,I,y,rfl⟩;ext;erw[yyx e () a6 () λn u a7 aj f2 O2 G2 L i=>?_]
 have t:∀{G G2:Hp}{C D pl n u:z4}{Z:Μ}{X:FX}{f1:Α}{O1 O2:Β}{m x}{xs:Υ},Î K a G p (g.re C D pl Z) X f1 O1 m q dx pd M ds d x->RGo p q M (g.re C D pl Z) O1 G G2 n u O2->G r\xs->r≠C->r≠D->G2 r\xs/\r≠n/\r≠u:=λe i c I y=>by
  erw[i.fr _ _ c (xf c e.ft.me 'z') (xf c e.ft.mx.o 'z') y (xf c e.sk.me 'z') (xf c e.sk.sp 'z') (e.ft.B.nlst c),?_,?_]
  .rcases i.hm with z|z
   .rw[z];erw[I]
   .erw[yb c z]
  .rcases i.he with z|z
   .rw[z];erw[y]
   .erw[yb c z]
 let#[v,ad,a3]:=t e i ah I y;let k:=aa.trans i;let a0:=yll g d S (9*N);generalize ab:j5 g d S (9*N)=b at a0;ext;erw[z9 (λhb=>?_) (λhb=>?_)]
 .subst hb
  have a2:∀j,j<N+1->j5 g d S (9*j)=1:=λj hj=>by
   by_cases z:j=N
   .rw[z];erw[ab]
   .erw[a5 j ()]
  erw[ycn ?_,←zd (SqL.of v) ?_];rw[bw,ñ];ext;erw[z9 (λhc=>?_) (λhc=>?_)]
  .have ak:N=R:=()
   ext;exists 'l',kE (λj hj=>a2 j ()) n u O2 G2 k
  .ext;erw[jj v ?_,←yu1 L () a6 () λa8 ac ag a9 f3 O3 G3 Y a4=>?_];let#[ς,U,a1]:=t L a4 v ad a3;let W:=k.trans a4;ext;erw[xx ς (ve (by rw[bw,ñ];omega)) ?_];ext;exists _,?_,N+1,a8,ac,ag,a9,f3,O3,J,(),a2,?_,W.app hr0,?_,U,a1,rfl
   .omega
   .erw[Î.app Y ς (Y.notN ς U a1) ae]
   .rw[ya,yno,cy];rfl
 .have ai:j5 g d S (9*N)=0:=()
  ext;erw[kQ N r n u a7 aj f2 O2 G2 hN a5 ai hr0 v a3 L k]
def ywb(x:Sn)(c b:Int):(nar x c b).2.2<=x.2.2+2:=by
 unfold nar ren
 (repeat' split)<;>(dsimp only;omega)
theorem yps(A:FA)(d:Ρ)(S:FX×Sn):∀n:Nat,(rst A d S n).2.2.2<=S.2.2.2+2*(n:Int)
 |0=>by show S.2.2.2<=S.2.2.2+2*((0:Nat):Int);omega
 |n+1=>by
  let a:=yps A d S n;let b:=ywb (rst A d S n).2 (chX A (rst A d S n).1) (å d (rst A d S n).2 (chX A (rst A d S n).1));show (nar (rst A d S n).2 (chX A (rst A d S n).1) (å d (rst A d S n).2 (chX A (rst A d S n).1))).2.2<=_;omega
structure ROk(A:FA)(d:Ρ)(S:FX×Sn)(N:Nat):Prop where
 b1:∀j,j<N->j5 A d S (9*j)=1
 b0:j5 A d S (9*N)=0
 tk:d.take (tL (rst A d S (9*N+1)).2).length=tL (rst A d S (9*N+1)).2
def ROk.uniq{A:FA}{d:Ρ}{S:FX×Sn}{N M:Nat}(h:ROk A d S N)(b1:∀j,j<M->j5 A d S (9*j)=1)(b0:j5 A d S (9*M)=0):M=N:=by
 rcases Nat.lt_trichotomy M N with z|z|z
 .let e:=h.b1 M z;rw[b0]at e;cases e
 .erw[z]
 .let e:=b1 N z;rw[h.b0]at e;cases e
def rTL(A:FA)(d:Ρ)(S:FX×Sn)(N:Nat):Nat:=(tL (rst A d S (9*N+1)).2).length
def RGo.fgo{p s:z4}{A:FA}{H0 H H':Hp}{ml el:z4}(S:yz H0 H)(hq:H0 q=none)(hs:H0 s=none)(h:RGo p q s A O H H' ml el O'):FGo p A O H0 H' el O' :=
 #[h.he.imp id S.free,λj c b w=>(h.hO j c b w).imp id S.free,λc o e g a f d=>h.fr c o (S _ _ e) g a f (yb e hq) (yb e hs) d,λc o e=>h.live c o (S _ _ e)]
#synth yf4 ["foreteller","data","most","seeker","text","own"] ["foreteller","data","most"] ve5
#synth ∀(K:z3)(a:Ads),∀(p:z4)(A:FA)(X:FX)(f:Α)(O:Β)(m:Nat)(dt:z4)(d:Ρ)(mo:Nat)(_:vs=[.ref p,.ref dt,.int mo])(_:zv K a H p A X f O m)(_:H dt\(d.map V.int))(_:dt≠A.el)(_:Byt d)(_:d.length<=12000)(_:mo<=1000)(_:m+54*mo+200<1000000)(_:0<=X.nd)(_:X.sg.length<=10000)(_:(∀(N:Nat)(t r el:z4)(O':Β)(H':Hp),N<=mo->ROk A d (X,s0) N->H t=none->H r=none->H' t∪[.ref r,.int (rTL A d (X,s0) N)]->H' r\((rtx A d (X,s0) N).map V.int)->FGo p A O H H' el O'->(r≠el/\∃ml pl sl f',zv K a H' p (A.re ml el pl sl) (rst A d (X,s0) (9*N+1)).1 f' O' (m+54*N+6))->Q (.ref t) H'))(_:((∀N,N<=mo->¬ROk A d (X,s0) N)->∀(el:z4)(O':Β)(H':Hp),FGo p A O H H' el O'->E (.ref a.Ev) none H')),Ģ
def yp3:'e' 10 a.Ng a.Q5 ["foreteller","data","most"] (Ģ K a):=by
 exists T.Kk.F.okE,yf4,hr;let#[p,l,X,f,O,m,dt,d,mo,J,hF,v,a1,a6,ab,ad,hm,ae,a7,kQ,kE]:=h;erw[yg (pst 3 yf4.nd (uv T.Uk (yz5 T) hr.m J T.Uj T.Rj.B .nil yt (pav 1))) ?_,<-yg (pst 4 yf4.nd (uh (yzy T) hr.m T.Rr yt (pac (pv 0) (pac (pv 3) (pav 2))))) ?_,<-yg (pst 5 yf4.nd (vi (pv 3) T.Ax T.Ki.m (vb7 T) hr.m T.Ki.B .nil vv)) ?_,<-yg (vj (yp (yly hr.units) (x8 ju (pv 1) zj (ut (pcB yr T.A9 (pav 5)))) (pv 5) (yw _)) (yc (xa J T.U5 T.U9 (pa1 y8))) yq) ?_];exists 3,3,yc (ym (zz (pac (pv 4) (pa1 (pcB yr T.A9 (pav 5))))));intro q D L aa ag;have R:yz H (upd (upd H D (.own q)) q (.ins a.Ao D [])):=λb o e=>by rwa[yk (yb e L),yk (yb e aa),e]
 erw[q,D,.ref dt,_,J,ya,.lst (R _ _ v),.inr #[d,ymw (R _ _ v) a6 ab,λpd Z ds H1 W I a0 B1=>#[J,?_]]];have S1:yz H H1:=λb o e=>B1 b o (R b o e) (yb e L);have z:H Z=none:=R.free I;have ac:H pd=none:=R.free W
 have nO:∀{c:z4},H c=none->∀i,i<l.n->¬O i c:=λG i hi w=>by
  let#[o,ho,_]:=(hF.B.b i hi).own _ w;rw[G]at ho;cases ho
 have hR:Î K a H1 p l X f O m q D pd Z ds d s0:=#[hF.same S1,a0,vi2,λi hi=>#[nO L i hi,nO z i hi],(yb hF.el ac).symm];ext;erw[p,l,(X,s0),f,O,m,q,D,pd,Z,ds,d,mo,J,hR,ad,hm,ae,a7,λN r ml el pl sl f2 O2 H2 hN Y S a8 a2 a9 k y=>?_,λU ml el O2 H2 y=>?_]
 .let a5:=yps l d (X,s0) (9*N+1);have a3:((X,s0):FX×Sn).2.2.2=5:=rfl;rw[a3]at a5;let go:=y.fgo S1 L z;let ai:=k.sk.me;have ς:H2 dt\(d.map V.int):=(go.kpa hF).lst v a1;ext;exists q,D,pd,Z,ds,d,_,J,k.sk,k.ok,by show Int.toNat _<=100000;omega,λw H3 ah x S3=>?_
  ext;erw[zd (SqL.of x) ?_];rw[bw];ext;erw[ya6 (SqL.of (S3 _ _ ς)) λu hu=>?_];have ec:yc0 (d.map V.int) none (some (((tL (rst l d (X,s0) (9*N+1)).2).length:Nat):Int))=(d.take (tL (rst l d (X,s0) (9*N+1)).2).length).map V.int:=by rwa[List.map_take,jp _]
  rw[ec];exists hu,H4,S4,hu4;let C:=go.same (S3.trans S4);ext;erw[vhz _ _ (SqL.of hu4) (SqL.of (S4 _ _ x)) ?_];by_cases G:d.take (tL (rst l d (X,s0) (9*N+1)).2).length=tL (rst l d (X,s0) (9*N+1)).2
  .rw[cg G];ext;erw[zd (SqL.of (S4 _ _ x)) ?_];rw[bw];ext;exists 'l',λt j=>?_
   erw[kQ N t r el O2 _ hN #[Y,S,G] (C.free j) (S1.free a8) ya (zn j ((S3.trans S4) _ _ a2)) (C.same (y7 j)) #[a9,ml,pl,sl,f2,((k.ft.same (S3.trans S4)).same (y7 j))]]
  .rw[cj G];ext;exists 'l',kE (λM hM g=>G (by rwa[g.uniq Y S,g.tk])) el O2 _ C
 .erw[kE (λM hM g=>by have e:=U M hM;rw[g.b0]at e;cases e) el O2 H2 (y.fgo S1 L z)]
structure vk9(H:Hp)(L dt:z4)(lx:V)(n:Nat)(lk:Μ)(kd:Ξ)(tp:Μ)(ps:Λ)(d:Ρ)(mo N w:Nat)(lt:Μ)(tt:Λ):Prop where
 l:H L\(refs lk n)
 n1:1<=n
 n6:n<=6
 r:x9 H n lk kd tp ps
 dat:H dt\(d.map V.int)
 by':Byt d
 dl:d.length<=12000
 mo1:mo<=1000
 lr:yxa H lx N w lt tt
 w1:w<=1000
 N1:N<=1000
 b:6+6*(N*(9*w+1))+54*mo+200<1000000
def rS(n:Nat)(kd:Ξ)(ps:Λ)(pre:Ρ):FX×Sn:=((FX0 n kd).run (fa0 n ps) pre,s0)
theorem É(A:FA)(d:Ρ)(S:FX×Sn):∀k,rst A d S k=rst (fa0 A.n A.ps) d S k
 |0=>rfl
 |k+1=>by
  show rnx A d (rst A d S k)=rnx (fa0 A.n A.ps) d (rst (fa0 A.n A.ps) d S k);rw[É A d S k];rfl
def Û(A:FA)(d:Ρ)(S:FX×Sn)(k:Nat):j5 A d S k=j5 (fa0 A.n A.ps) d S k:=by unfold j5;rw[É];rfl
def yuk(A:FA)(d:Ρ)(S:FX×Sn)(k:Nat):rsg A d S k=rsg (fa0 A.n A.ps) d S k:=by unfold rsg sgB;rwa[É,congrArg List.sum (List.map_congr_left λj Z=>by rw[Û])]
def ytx(A:FA)(d:Ρ)(S:FX×Sn)(k:Nat):rtx A d S k=rtx (fa0 A.n A.ps) d S k:=by unfold rtx;erw[List.map_congr_left λj Z=>yuk A d S j]
def yvg(A:FA)(d:Ρ)(S:FX×Sn)(k:Nat):rTL A d S k=rTL (fa0 A.n A.ps) d S k:=by unfold rTL;rw[É]
theorem ROk.fa0{A:FA}{d:Ρ}{S:FX×Sn}{N:Nat}:ROk A d S N↔ROk (fa0 A.n A.ps) d S N:=by
 constructor
 .intro h;exists λj a=>by rwa[<- Û,h.b1 j a],by rwa[<- Û,h.b0],by rwa[<- É,h.tk]
 .intro h;exists λj a=>by rwa[Û,h.b1 j a],by rwa[Û,h.b0],by rwa[É,h.tk]
def yxr{s t:Int}(hs:0<=s/\s<=255)(ht:0<=t/\t<=255)(h:b8 s=b8 t):s=t:=by have b:=ywq hs.1 hs.2;let a:=ywq ht.1 ht.2;have h:[s/128%2,s/64%2,s/32%2,s/16%2,s/8%2,s/4%2,s/2%2,s/1%2]=[t/128%2,t/64%2,t/32%2,t/16%2,t/8%2,t/4%2,t/2%2,t/1%2]:=h;injection h with h0 h;injection h with h1 h;injection h with h2 h;injection h with h3 h;injection h with h4 h;injection h with h5 h;injection h with h6 h;injection h with h7 h;omega
def yfs{mx:Nat->Int}{d:Ρ}(hd:Byt d){m:Nat}(hc:∀j,j<m->Ch (mx j))(hb:∀j,j<m->bt j=0\/bt j=1)(i:InS d (snK mx bt m)):∀k,k<m->bt k=å d (snK mx bt k) (mx k)/\InS d (snK mx bt k):=by
 induction m with
 |zero=>erw[λk b=>absurd b (cP k)]
 |succ m ih =>
  let f:=(jg (mx:=mx) (bt:=bt) m λj c=>hc j ()).1;let#[a,e]:=yt4 hd f (hc m ()) (hb m ()) i;intro k b;by_cases z:k=m
  .rw[z];erw[e,a]
  .erw[ih (λj c=>hc j ()) (λj c=>hb j ()) a k ()]
def yo5{k:Nat}(h:k<(dec ts).length):y9 ts k=0\/y9 ts k=1:=by let#[b,a]:=yeu ts k h;omega
def Ŧ(x:Sn):Byt (tL x):=λb a=>ywn _ _ b a
theorem ć{n:Nat}{kd:Ξ}{ps:Λ}{pre d:Ρ}(hd:Byt d)(hc:∀j,j<(dec ts).length->Ch (xy n kd ps pre ts j))(hi:InS d ('k' (dec ts).length)):∀k,k<=(dec ts).length->rst (fa0 n ps) d (rS n kd ps pre) k=(fX n kd ps pre ts k,'k' k)
 |0,_=>rfl
 |k+1,hk=>by
  let c:=(yfs hd hc (λj b=>yo5 b) hi k ()).1;have e:(dec ts)[k]?=some (y9 ts k):=by unfold y9;rw[bP ()];rfl
  show rnx (fa0 n ps) d (rst (fa0 n ps) d (rS n kd ps pre) k)=_;rw[ć hd hc hi k ()];show ((fX n kd ps pre ts k).see (fa0 n ps) (å d ('k' k) (xy n kd ps pre ts k)),nar ('k' k) (xy n kd ps pre ts k) (å d ('k' k) (xy n kd ps pre ts k)))=(fX n kd ps pre ts (k+1),nar ('k' k) (xy n kd ps pre ts k) (y9 ts k));rw[<- c]
  have a:fX n kd ps pre ts (k+1)=(fX n kd ps pre ts k).see (fa0 n ps) (y9 ts k):=by
   unfold fX;rw[zb e]
  rw[a]
def yi3{n:Nat}{kd:Ξ}{ps:Λ}{pre d:Ρ}(hd:Byt d)(hc:∀j,j<(dec ts).length->Ch (xy n kd ps pre ts j))(hi:InS d ('k' (dec ts).length))(k:Nat)(hk:k<(dec ts).length):j5 (fa0 n ps) d (rS n kd ps pre) k=y9 ts k:=by have b:=(yfs hd hc (λj a=>yo5 a) hi k hk).1;unfold j5;rwa[ć hd hc hi k (),b.symm]
def ï(t:Int)(r:Ρ)(k:Nat):y9 (t::r) (k+9)=y9 r k:=rfl
def ygy(t:Int)(r:Ρ):∀i,i<8->y9 (t::r) (1+i)=t/wB i%2:=λi a=>by
 rcases i with _|_|_|_|_|_|_|_|i
 .rfl
 .rfl
 .rfl
 .rfl
 .rfl
 .rfl
 .rfl
 .rfl
 .omega
theorem Ñ:∀(ts:Ρ)(j:Nat)(hj:j<ts.length),y9 ts (9*j)=1/\∀i,i<8->y9 ts (9*j+1+i)=ts[j]/wB i%2
 |[],j,hj=>absurd hj (cP j)
 |t::r,0,_=>#[J,λi a=>by rw[show 9*0+1+i=1+i by omega];erw[ygy t r i a]]
 |t::r,j+1,hj=>by
  let#[b,c]:=Ñ r j (by simpa using hj);erw[?_,λi a=>?_]
  .rw[show 9*(j+1)=9*j+9 by omega,ï];erw[b]
  .rw[show 9*(j+1)+1+i=9*j+1+i+9 by omega,ï];erw[c i a]
theorem yaf:∀ts:Ρ,y9 ts (9*ts.length)=0
 |[]=>rfl
 |t::r=>by
  rw[show 9*(t::r).length=9*r.length+9 by rw[cD];omega,ï];erw[yaf r]
def ye9(A:FA)(d:Ρ)(S:FX×Sn)(c i:Nat):j5 A d (rst A d S c) i=j5 A d S (c+i):=by unfold j5;rw[yee]
def yim{n:Nat}{kd:Ξ}{ps:Λ}{pre d:Ρ}(hts:Sgs ts)(hd:Byt d)(hc:∀j,j<(dec ts).length->Ch (xy n kd ps pre ts j))(hl:(tL ('k' (dec ts).length)).length<=d.length)(h:d.take (tL ('k' (dec ts).length)).length=tL ('k' (dec ts).length)):
  ROk (fa0 n ps) d (rS n kd ps pre) ts.length/\rtx (fa0 n ps) d (rS n kd ps pre) ts.length=ts/\rTL (fa0 n ps) d (rS n kd ps pre) ts.length=(tL ('k' (dec ts).length)).length:=by
 let p:=(jg (bt:=y9 ts) _ hc).1;let a:=yaw hd p hl h;let c:=xv ts
 have f:rst (fa0 n ps) d (rS n kd ps pre) (9*ts.length+1)=(fX n kd ps pre ts (dec ts).length,'k' (dec ts).length):=by
  rwa[<- c,ć hd hc a _ (cc _)]
 let b:=yi3 hd hc a;erw[#[λj l=>?_,?_,?_],?_,?_]
 .rw[b _ ()];erw[(Ñ ts j l).1]
 .rw[b _ ()];erw[yaf ts]
 .rw[f];erw[h]
 .show (List.range ts.length).map (rsg (fa0 n ps) d (rS n kd ps pre))=ts;erw[List.ext_getElem (by rw[bw,c8]) λj q g=>?_];rw[dH,List.getElem_range];let k:=hts ts[j] (cV g);let m:=(Ñ ts j g).2
  have e:∀i,i<8->wB i*j5 (fa0 n ps) d (rst (fa0 n ps) d (rS n kd ps pre) (9*j+1)) i=wB i*(ts[j]/wB i%2):=λi a=>by
   rw[ye9,b _ (),m i a]
  have o:sgB (fa0 n ps) d (rst (fa0 n ps) d (rS n kd ps pre) (9*j+1)) 8=(List.range 8).map λi=>wB i*(ts[j]/wB i%2):=by
   unfold sgB;erw[List.map_congr_left λi a=>e i (dy.mp a)]
  unfold rsg;rwa[o,ywq k.1 k.2]
 .unfold rTL;rw[f]
theorem yk4:∀{ts us:Ρ},Sgs ts->Sgs us->dec ts=(dec us).take (dec ts).length->ts=us
 |[],[],_,_,_=>rfl
 |[],u::r,_,_,h=>by
  have h:[(0:Int)]=[1]:=h;simp at h
 |t::r,[],_,_,h=>by
  have e:(dec (t::r)).length=9*(r.length+1)+1:=xv (t::r);let f:=congrArg List.length h;rw[cG,e]at f;have j:(dec ([]:Ρ)).length=1:=rfl;omega
 |t::r,u::r',ht,hu,h=>by
  have a:∀s:Int,(1::b8 s).length=9:=λZ=>rfl;have h:(1::b8 t)++dec r=((1::b8 u)++dec r').take (((1::b8 t)++dec r).length):=h;rw[bY,a,List.take_append,a,Nat.add_sub_cancel_left,db (by rw[a];omega)]at h;let#[g,d]:=List.append_inj h (by rw[a,a]);let c:=yxr (ht t 's') (hu u 's') (List.cons.inj g).2;let i:=yk4 (λx b=>ht x (by simp[b])) (λx b=>hu x (by simp[b])) d;rw[c,i]
def yjs{n:Nat}{kd:Ξ}{ps:Λ}{pre:Ρ}(hts:Sgs ts)(hus:Sgs us)(c1:∀j,j<(dec ts).length->Ch (xy n kd ps pre ts j))(c2:∀j,j<(dec us).length->Ch (xy n kd ps pre us j))
  (h:(tL ('k' (dec ts).length)).take (tL (snK (xy n kd ps pre us) (y9 us) (dec us).length)).length=tL (snK (xy n kd ps pre us) (y9 us) (dec us).length)):ts=us:=by
 let v:=(jg (bt:=y9 ts) _ c1).1;let u:=(jg (bt:=y9 us) _ c2).1;let a:=Ŧ ('k' (dec ts).length);let g:=yaw a v (cc _) (cU);let m:=yaw a u (by have:=congrArg List.length h;rw[cG]at this;omega) h;generalize tL ('k' (dec ts).length)=d at a g m;let q:=yfs a c1 (λj c=>yo5 c) g;let s:=yfs a c2 (λj c=>yo5 c) m
 have b:∀k,k<=(dec ts).length->k<=(dec us).length->(dec ts).take k=(dec us).take k/\snK (xy n kd ps pre ts) (y9 ts) k=snK (xy n kd ps pre us) (y9 us) k:=by
  intro k
  induction k with
  |zero=>erw[λZ Z=>#[J,J]]
  |succ k ih =>
   intro x w;let#[l,o]:=ih () ()
   have i:xy n kd ps pre ts k=xy n kd ps pre us k:=by
    unfold xy fX;rw[l]
   have p:y9 ts k=y9 us k:=by rw[(q k ()).1,(s k ()).1,o,i]
   erw[?_,?_]
   .have r:(dec ts)[k]?=some (y9 ts k):=by unfold y9;rw[bP ()];rfl
    have t:(dec us)[k]?=some (y9 us k):=by unfold y9;rw[bP ()];rfl
    rw[jc r,jc t,l,p]
   .show nar _ _ _=nar _ _ _;rw[o,i,p]
 rcases Nat.le_total (dec ts).length (dec us).length with f|f
 .let#[e,_]:=b _ (cc _) f;rw[cU]at e;erw[yk4 hts hus e]
 .let#[e,_]:=b _ f (cc _);rw[cU]at e;erw[(yk4 hus hts e.symm).symm]
def yal{ys:Ρ}(h1:Byt xs)(h2:Byt ys):Byt (xs++ys):=λb a=>by
 rcases cK.mp a with h|h
 .erw[h1 b h]
 .erw[h2 b h]
def jl(n:Nat)(kd:Ξ)(ps:Λ)(pre ts:Ρ):Ρ:=tL ('k' (dec ts).length)
def Ú{n:Nat}{kd:Ξ}{ps:Λ}{pre:Ρ}(n1:1<=n)(n6:n<=6)(hp:ycx pre)(hz:ts.length<=300):(jl n kd ps pre ts).length<=5500:=by
 let b:=xv ts;let#[c,a]:=jg (mx:=xy n kd ps pre ts) (bt:=y9 ts) (dec ts).length λj Z=>ø n1 n6 hp j;unfold jl;rw[yfu];have:sz ('k' (dec ts).length)<=5500:=by show Int.toNat _<=5500;omega
 omega
def yog{n:Nat}{kd:Ξ}{ps:Λ}{pre bs:Ρ}(n1:1<=n)(n6:n<=6)(hp:ycx pre)(hts:Sgs ts)(hb:Byt bs):
  ROk (fa0 n ps) (jl n kd ps pre ts++bs) (rS n kd ps pre) ts.length/\rtx (fa0 n ps) (jl n kd ps pre ts++bs) (rS n kd ps pre) ts.length=ts/\rTL (fa0 n ps) (jl n kd ps pre ts++bs) (rS n kd ps pre) ts.length=(jl n kd ps pre ts).length :=
 yim hts (yal (Ŧ _) hb) (λj Z=>ø n1 n6 hp j) (by rwa[bY,Nat.le_add_right _ _]) List.take_left
def yvv{n:Nat}{kd:Ξ}{ps:Λ}{pre bs:Ρ}(n1:1<=n)(n6:n<=6)(hp:ycx pre)(hb:Byt bs):(rst (fa0 n ps) (jl n kd ps pre ts++bs) (rS n kd ps pre) (9*ts.length+1)).1=((FX0 n kd).run (fa0 n ps) pre).run (fa0 n ps) (dec ts):=by have b:∀j,j<(dec ts).length->Ch (xy n kd ps pre ts j):=λj Z=>ø n1 n6 hp j;have a:Byt (jl n kd ps pre ts++bs):=yal (Ŧ _) hb;let c:=yaw a (jg (bt:=y9 ts) _ b).1 (by rwa[bY,Nat.le_add_right _ _]) List.take_left;rw[<- xv ts,ć a b c _ (cc _)];unfold fX;rw[cU]
noncomputable def ymb(a b c d e f g h:Int):Int:=128*a+(64*b+(32*c+(16*d+(8*e+(4*f+(2*g+(1*h+0)))))))
noncomputable def ypi:Ρ:=[0,1]
def vki:∀a∈ypi,∀b∈ypi,∀c∈ypi,∀d∈ypi,∀e∈ypi,∀f∈ypi,∀g∈ypi,∀h∈ypi,(0<=ymb a b c d e f g h/\ymb a b c d e f g h<=255)/\ymb a b c d e f g h/128%2=a/\ymb a b c d e f g h/64%2=b/\ymb a b c d e f g h/32%2=c/\ymb a b c d e f g h/16%2=d/\ymb a b c d e f g h/8%2=e/\ymb a b c d e f g h/4%2=f/\ymb a b c d e f g h/2%2=g/\ymb a b c d e f g h/1%2=h:='r'
def yfj(A:FA)(d:Ρ)(S:FX×Sn)(j:Nat):(0<=rsg A d S j/\rsg A d S j<=255)/\∀i,i<8->rsg A d S j/wB i%2=j5 A d S (9*j+1+i):=by
 have m:∀i,j5 A d (rst A d S (9*j+1)) i∈ypi:=λi=>by
  rcases yll A d (rst A d S (9*j+1)) i with z|z<;>(rw[z];decide)
 have r:∀i,j5 A d S (9*j+1+i)=j5 A d (rst A d S (9*j+1)) i:=λi=>(ye9 A d S (9*j+1) i).symm;let#[q,c,f,h,g,b,k,a,e]:=vki _ (m 0) _ (m 1) _ (m 2) _ (m 3) _ (m 4) _ (m 5) _ (m 6) _ (m 7);erw[q,λi l=>?_];rw[r i];rcases i with _|_|_|_|_|_|_|_|i
 .erw[c]
 .erw[f]
 .erw[h]
 .erw[g]
 .erw[b]
 .erw[k]
 .erw[a]
 .erw[e]
 .omega
def yxp{A:FA}{d:Ρ}{S:FX×Sn}{M:Nat}(h:j<(rtx A d S M).length):(rtx A d S M)[j]=rsg A d S j:=by
 have e:(rtx A d S M)[j]?=some (rsg A d S j):=by
  unfold rtx;rw[ci,dv (by rw[ñ]at h;erw[h])];rfl
 rw[bP h]at e;erw[cu e]
def ynb{A:FA}{d:Ρ}{S:FX×Sn}{M:Nat}(b1:∀j,j<M->j5 A d S (9*j)=1)(b0:j5 A d S (9*M)=0)(k:Nat)(hk:k<9*M+1):y9 (rtx A d S M) k=j5 A d S k:=by
 let c:=ñ A d S M;by_cases z:k=9*M
 .rw[z,b0];let e:=yaf (rtx A d S M);rw[c]at e;erw[e]
 .have b:k/9<M:=()
  have a:k/9<(rtx A d S M).length:=by rwa[c,b]
  let#[l,h]:=Ñ (rtx A d S M) (k/9) a;by_cases y:k%9=0
  .have e:k=9*(k/9):=()
   rw[e,l,b1 _ b]
  .obtain⟨i,g,m⟩:∃i,i<8/\k=9*(k/9)+1+i:=#[k%9-1,(),()];let f:=h i g;rw[yxp a,(yfj A d S (k/9)).2 i g,<- m]at f;erw[f]
def ys2(A:FA)(d:Ρ)(S:FX×Sn)(M:Nat):Sgs (rtx A d S M):=λx a=>by
 let#[j,_,J]:=ce.mp a;erw[(yfj A d S j).1]
theorem yjy{n:Nat}{kd:Ξ}{ps:Λ}{pre d:Ρ}(hb:∀k,k<(dec us).length->y9 us k=j5 (fa0 n ps) d (rS n kd ps pre) k):∀k,k<=(dec us).length->rst (fa0 n ps) d (rS n kd ps pre) k=(fX n kd ps pre us k,snK (xy n kd ps pre us) (y9 us) k)
 |0,_=>rfl
 |k+1,hk=>by
  let b:=yjy hb k ()
  have e:y9 us k=å d (snK (xy n kd ps pre us) (y9 us) k) (xy n kd ps pre us k):=by
   rw[hb k ()];show å d (rst (fa0 n ps) d (rS n kd ps pre) k).2 (chX (fa0 n ps) (rst (fa0 n ps) d (rS n kd ps pre) k).1)=_;rw[b];rfl
  have a:(dec us)[k]?=some (y9 us k):=by unfold y9;rw[bP ()];rfl
  show rnx (fa0 n ps) d (rst (fa0 n ps) d (rS n kd ps pre) k)=_;rw[b];show ((fX n kd ps pre us k).see (fa0 n ps) (å d (snK (xy n kd ps pre us) (y9 us) k) (xy n kd ps pre us k)),nar (snK (xy n kd ps pre us) (y9 us) k) (xy n kd ps pre us k) (å d (snK (xy n kd ps pre us) (y9 us) k) (xy n kd ps pre us k)))=(fX n kd ps pre us (k+1),nar (snK (xy n kd ps pre us) (y9 us) k) (xy n kd ps pre us k) (y9 us k));rw[<- e]
  have c:fX n kd ps pre us (k+1)=(fX n kd ps pre us k).see (fa0 n ps) (y9 us k):=by
   unfold fX;rw[zb a]
  rw[c]
def yig{n:Nat}{kd:Ξ}{ps:Λ}{pre d:Ρ}{M:Nat}(h:ROk (fa0 n ps) d (rS n kd ps pre) M):
  jl n kd ps pre (rtx (fa0 n ps) d (rS n kd ps pre) M)=d.take (rTL (fa0 n ps) d (rS n kd ps pre) M)/\(jl n kd ps pre (rtx (fa0 n ps) d (rS n kd ps pre) M)).length=rTL (fa0 n ps) d (rS n kd ps pre) M:=by
 let a:=xv (rtx (fa0 n ps) d (rS n kd ps pre) M);rw[ñ]at a;let e:=yjy (n:=n) (kd:=kd) (ps:=ps) (pre:=pre) (us:=rtx (fa0 n ps) d (rS n kd ps pre) M) (d:=d) (λk c=>ynb h.b1 h.b0 k ()) _ (cc _)
 have b:jl n kd ps pre (rtx (fa0 n ps) d (rS n kd ps pre) M)=tL (rst (fa0 n ps) d (rS n kd ps pre) (9*M+1)).2:=by
  rw[<- a,e];rfl
 rwa[b,#[h.tk.symm,rfl]]
def vik{x:Sn}{c b:Int}(h:Ok x)(hc:Ch c):(nar x c b).2.1<1099511627776:=by
 let#[d,e,f]:=ŧ h.w0 h.w1 hc;let a:=h.w1;unfold nar ren
 (repeat' split)<;>(dsimp only at*;omega)
def ye8{n:Nat}{kd:Ξ}{ps:Λ}{pre:Ρ}(n1:1<=n)(n6:n<=6)(hp:ycx pre):1<=(jl n kd ps pre ts).length:=by
 let f:=xv ts;obtain⟨m,d⟩:∃m,(dec ts).length=m+1:=#[9*ts.length,()];unfold jl;rw[yfu,d];have a:∀j,j<m+1->Ch (xy n kd ps pre ts j):=λj Z=>ø n1 n6 hp j;let g:=(jg (bt:=y9 ts) m λj k=>a j ()).1;let c:=(jg (bt:=y9 ts) (m+1) a).1;have h:('k' (m+1)).2.1<1099511627776:=vik (x:='k' m) (b:=y9 ts m) g.ok (a m ());let i:=yke (ya4 c.ok);let l:=c.sz5;have e:pw (tK ('k' (m+1)))<pw 5:=by rw[pw5];omega
 have:=vd1 e;omega
def j6(L:qj (Ρ)):Ρ:=(L.map dec).flatten
def ĥ(L:qj (Ρ))(t:Ρ):j6 (L++[t])=j6 L++dec t:=by unfold j6;rw[cy,List.flatten_append];simp
def xu(L:qj (Ρ)):ycx (j6 L):=λb a=>by
 unfold j6 at a;let#[l,c,a]:=List.mem_flatten.mp a;let#[t,_,J]:=ce.mp c;erw[jt t b a]
def yop{A:FA}{X:FX}(hts:Sgs ts)(h1:X.sg=[])(h2:X.nd=0):(X.run A (dec ts)).sg=[]/\(X.run A (dec ts)).nd=0:=by
 have a:∀k,k<=(dec ts).length->TxE ts k (X.run A ((dec ts).take k)).sg (X.run A ((dec ts).take k)).nd:=by
  intro k
  induction k with
  |zero =>
   intro _;erw[.inl #[cI _,by show ya7 _ _ X.sg X.nd;rwa[h1,h2,ya7.zero _]]]
  |succ k ih =>
   intro d;have b:(dec ts)[k]?=some ((dec ts)[k]'()):=bP _;rwa[zb b,((ih ()).next hts b).2]
 let e:=a _ (cc _);rw[cU]at e;let c:=xv ts;rcases e with⟨h,_⟩|⟨_,h⟩
 .omega
 .erw[h]
def ywy(p:z4)(A:FA)(O:Β):Ν:=λc=>c=p\/c=A.mp\/(∃j,j<A.n/\c=A.bk j)\/(∃j,j<A.n/\O j c)\/c=A.el
def FZ(K:z3)(a:Ads)(H:Hp)(p:z4)(n:Nat)(kd:Ξ)(ps:Λ)(pre:Ρ)(M:Nat)(W:Ν):Prop :=
 ∃A f O m,zv K a H p A ((FX0 n kd).run (fa0 n ps) pre) f O m/\m<=M/\vgq H A/\A.n=n/\A.kd=kd/\A.ps=ps/\((FX0 n kd).run (fa0 n ps) pre).sg=[]/\((FX0 n kd).run (fa0 n ps) pre).nd=0/\∀c,W c↔ywy p A O c
noncomputable def yl8:HO->Bool
 | .ins _ _ _=>true
 | .dT _=>true
 | .dK _=>true
 | .frz _ (.dK _)=>true
 |_=>false
def vi6(o:ql HO):Prop:=(∃ys,o\ys)\/∃ys,o∪ys/\(ys.length≠2\/∃i,ys[0]?=some (.int i))
noncomputable def vi8:V->Bool
 | .non=>true
 | .bl _=>true
 |_=>false
def WSh(H:Hp)(W:Ν):Prop:=∀c,W c->∃o,H c=some o/\(yl8 o=true\/∃xs,o=.lst xs/\∀x∈xs,(∃s,x=V.str s)\/vi8 x=true\/∃q,x=V.ref q/\vi6 (H q))
def yuq{o:HO}(h:yw8 o=true):yl8 o=true:=by cases o<;>first|rfl|cases h
end
section
mutual
variable{H H':Hp}{p:z4}{n:Nat}{kd:Ξ}{ps:Λ}{pre:Ρ}{M:Nat}{W:Ν}
def FZ.sh(h:FZ K a H p n kd ps pre M W):WSh H W:=λc w=>by
 let#[A,f,O,m,d,_,_,_,_,_,l,_,e]:=h;rcases (e c).mp w with z|z|⟨j,g,z⟩|⟨j,g,z⟩|z
 .erw[_,by rwa[z,d.me],.inl J]
 .erw[_,by rwa[z,d.mx.o],.inl J]
 .erw[_,by rwa[z,(d.B.b j g).me],.inl J]
 .let#[o,k,q]:=(d.B.b j g).own c z;erw[o,k,.inl (yuq q)]
 .let i:=d.el;rw[l]at i;erw[_,by rwa[z,i],.inr #[_,J,λx r=>by cases r]]
def FZ.live(h:FZ K a H p n kd ps pre M W):∀c,W c->∃o,H c=some o:=λc w=>let ⟨o,e,_⟩:=h.sh c w;#[o,e]
theorem FZ.same(h:FZ K a H p n kd ps pre M W)(S:yz H H'):FZ K a H' p n kd ps pre M W:=by let#[A,f,O,m,i,c,e,g,b,d,r]:=h;erw[A,f,O,m,i.same S,c,e.same S,g,b,d,r]
def FZ.up(h:FZ K a H p n kd ps pre M W){M':Nat}(hM:M<=M'):FZ K a H p n kd ps pre M' W:=by let#[A,f,O,m,i,c,g,e,b,d,r]:=h;erw[A,f,O,m,i,cO c hM,g,e,b,d,r]
theorem WSh.tup(h:WSh H W){c:z4}{xs:Υ}(e:H c∪xs):¬W c:=λw=>by
 obtain⟨o,a,z|⟨b,z,_⟩⟩:=h c w
 .rw[e]at a;cases a;cases z
 .rw[e,z]at a;cases a
def WSh.ints(h:WSh H W){c:z4}{ns:Ρ}(e:H c\(ns.map V.int))(hn:1<=ns.length):¬W c:=λw=>by
 obtain⟨o,a,z|⟨b,z,q⟩⟩:=h c w
 .rw[e]at a;cases a;cases z
 .rw[e,z]at a;cases a
  cases ns with
  |nil=>cases hn
  |cons x r=>rcases q (.int x) cN with⟨_,z⟩|z|⟨_,z,_⟩<;>cases z
theorem WSh.refs(h:WSh H W){c:z4}{g:Μ}{k:Nat}(e:H c\(Law.refs g k))(hk:1<=k)(hg:¬vi6 (H (g 0))):¬W c:=λw=>by
 obtain⟨o,a,z|⟨f,z,q⟩⟩:=h c w
 .rw[e]at a;cases a;cases z
 .rw[e,z]at a;cases a;rcases q (.ref (g 0)) (cz (yup hk))with⟨_,z⟩|z|⟨d,z,b⟩
  .cases z
  .cases z
  .cases z;erw[hg b]
theorem FZ.frame(h:FZ K a H p n kd ps pre M W)(sh:WSh H W2)(dj:∀c,W c->¬W2 c)(fr:∀c o,H c=some o->¬W2 c->H' c=some o):FZ K a H' p n kd ps pre M W:=by
 let#[A,f,O,m,d,X,x,Y,N,Z,e4,L,q]:=h;let k:=d.n1;let#[S,j]:=x.2.2
 have y:¬W2 A.ll:=sh.refs x.1 k λz=>by
  let#[I,e,u,_]:=j 0 k;cases e;rw[u]at z;rcases z with⟨_,z⟩|⟨_,z,r⟩
  .cases z
  .cases z;erw[r.elim (λr=>r J) λ⟨_,r⟩=>nomatch r]
 have D:¬W2 A.bl:=sh.refs d.bl k λz=>by rw[(d.B.b 0 k).me]at z;rcases z with⟨_,z⟩|⟨_,z,_⟩<;>cases z
 have E:¬W2 A.pl:=sh.refs d.pl k λz=>by
  let#[_,#[dq,U],_,_]:=d.slot k;let#[C,fs,P]:=Ĳ a dq (((FX0 n kd).run (fa0 n ps) pre).g 0 (((FX0 n kd).run (fa0 n ps) pre).key A 0));rw[U,P]at z;rcases z with⟨_,z⟩|⟨_,z,_⟩<;>cases z
 have G:¬W2 A.ml:=sh.ints d.mx.l (by rwa[d.wok.len,k]);erw[A,f,O,m,d.frame (O2:=W2) (λc o e Q=>fr c o e Q) (dj _ ((q _).mpr (.inl J))) (dj _ ((q _).mpr (.inr (.inl J)))) (λi s=>dj _ ((q _).mpr (.inr (.inr (.inl #[i,s,J]))))) (λi c s w=>dj _ ((q _).mpr (.inr (.inr (.inr (.inl #[i,s,w])))))) (λl R F e=>fr _ _ e ?_) (λt R e=>?_),X,#[fr _ _ x.1 y,x.2.1,S,λi s=>?_],Y,N,Z,e4,L,q]
 .rcases F with z|z|z|z
  .rw[z];erw[D]
  .rw[z];erw[dj _ ((q _).mpr (.inr (.inr (.inr (.inr J)))))]
  .rw[z];erw[G]
  .rw[z];erw[E]
 .rcases e with(e|⟨o,e⟩)|e
  .erw[.inl (.inl (fr _ _ e (sh.tup e)))]
  .erw[.inl (.inr #[o,fr _ _ e λw=>?_])];obtain⟨o',v,z|⟨ys,z,_⟩⟩:=sh t w
   .rw[e]at v;cases v;cases z
   .rw[e,z]at v;cases v
  .erw[.inr e]
 .let#[I,z,u,ς,T]:=j i s;erw[I,z,fr _ _ u (sh.tup u),fr _ _ ς (sh.tup ς),T]
def FZ.went{A:FA}{f f':Α}{m:Nat}{X:FX}{ml el pl:z4}{sl:Μ}(hF:zv K a H p A ((FX0 A.n A.kd).run (fa0 A.n A.ps) pre) f O m)(hl:vgq H A)(hX:X=(FX0 A.n A.kd).run (fa0 A.n A.ps) (pre++dec ts))(hts:Sgs ts)(h4:((FX0 A.n A.kd).run (fa0 A.n A.ps) pre).sg=[])(h5:((FX0 A.n A.kd).run (fa0 A.n A.ps) pre).nd=0)
  (hF':zv K a H' p (A.re ml el pl sl) X f' O' m') (go:FGo p A O H H' el O') (e6:∀c,W c↔ywy p A O c):FZ K a H' p A.n A.kd A.ps (pre++dec ts) m' (ywy p (A.re ml el pl sl) O')/\Go W H H' (ywy p (A.re ml el pl sl) O'):=by
 subst hX;let h:=go.kpa hF;let d:=yop (A:=fa0 A.n A.ps) hts h4 h5;erw[#[_,f',O',m',hF',cc _,#[(h _ _ hl.1 J hl.2.1).2,(h _ _ hl.1 J hl.2.1).1,?_],J,J,J,by rwa[Ì,d.1],by rwa[Ì,d.2],λc=>Iff.rfl],#[λc o e t=>?_,λc w=>?_,go.live]]
 .let#[u,r]:=hl.2.2;erw[u,λi B=>?_];let#[s,z,q,k,x]:=r i B;have l:∀{c:z4}{xs:Υ},H c∪xs->c≠A.el:=λe z=>by rw[z,hF.el]at e;cases e
  erw[s,z,(h _ _ q J (l q)).2,(h _ _ k J (l k)).2,x]
 .have b:¬ywy p A O c:=λw=>t ((e6 c).mpr w);erw[go.fr c o e (λz=>b (.inl z)) (λz=>b (.inr (.inl z))) (λz=>b (.inr (.inr (.inr (.inr z))))) λj g w=>b (.inr (.inr (.inr (.inl #[j,g,w]))))]
 .rcases w with z|z|⟨j,g,z⟩|⟨j,g,z⟩|z
  .erw[.inl ((e6 c).mpr (.inl z))]
  .erw[.inl ((e6 c).mpr (.inr (.inl z)))]
  .erw[.inl ((e6 c).mpr (.inr (.inr (.inl #[j,g,z]))))]
  .rcases go.hO j c g z with v|v
   .erw[.inl ((e6 c).mpr (.inr (.inr (.inr (.inl #[j,g,v])))))]
   .erw[.inr v]
  .rcases go.he with y|y
   .erw[.inl ((e6 c).mpr (.inr (.inr (.inr (.inr (show c=A.el from Eq.trans z y))))))]
   .erw[.inr (by rwa[show c=el from z,y])]
def FZ.read{Q:VK}{E:XK}{dt:z4}{bs:Ρ}{mo:Nat}(h:FZ K a H p n kd ps pre M W)(hb:ycx pre)(hts:Sgs ts)(hdt:H dt\((jl n kd ps pre ts++bs).map V.int))(ndt:¬W dt)(hbs:Byt bs)(hdl:(jl n kd ps pre ts++bs).length<=12000)(hz:ts.length<=mo)(hmo:mo<=1000)(hM:M+54*mo+200<1000000)
  (k:∀t r W' H',H t=none->H r=none->H' t∪[.ref r,.int ((jl n kd ps pre ts).length:Nat)]->H' r\(ts.map V.int)->FZ K a H' p n kd ps (pre++dec ts) (M+6*(dec ts).length) W'->Go W H H' W'->¬W' r->Q (.ref t) H'):Ģ K a [.ref p,.ref dt,.int mo] H Q E:=by
 let#[A,f,O,m,l,hm,hl,J,J,J,Y,L,S]:=h;let#[q,x,C]:=yog (kd:=A.kd) (ps:=A.ps) (pre:=pre) (bs:=bs) l.n1 l.n6 hb hts hbs;have D:Byt (jl A.n A.kd A.ps pre ts++bs):=yal (Ŧ _) hbs;erw[p,A,_,f,O,m,dt,_,mo,J,l,hdt,λz=>ndt ((S _).mpr (.inr (.inr (.inr (.inr z))))),D,hdl,hmo,(),by rw[L];decide,by rwa[Y,cI _],λN t r v Z H' hN i ς F s d X c=>?_,λu v Z H' X=>?_]
 .rw[ROk.fa0]at i;obtain rfl:N=ts.length:=q.uniq i.b1 i.b0;rw[yvg]at s;rw[ytx]at d;have s:H' t∪[.ref r,.int (rTL (fa0 A.n A.ps) (jl A.n A.kd A.ps pre ts++bs) (rS A.n A.kd A.ps pre) ts.length)]:=s;have d:H' r\((rtx (fa0 A.n A.ps) (jl A.n A.kd A.ps pre ts++bs) (rS A.n A.kd A.ps pre) ts.length).map V.int):=d;rw[C]at s;rw[x]at d;let#[G,P,U,R,f',c]:=c;let y:=xv ts
  have eX:(rst A (jl A.n A.kd A.ps pre ts++bs) ((FX0 A.n A.kd).run (fa0 A.n A.ps) pre,s0) (9*ts.length+1)).1=(FX0 A.n A.kd).run (fa0 A.n A.ps) (pre++dec ts):=by
   rwa[É,Ì,yvv l.n1 l.n6 hb hbs]
  let#[z,g]:=FZ.went l hl eX hts Y L c X S;erw[k t r _ H' ς F s d (z.up ()) g λw=>?_];rcases w with w|w|⟨j,I,w⟩|⟨j,I,w⟩|w
  .let e:=c.me;rw[<- w,d]at e;cases e
  .let e:=c.mx.o;rw[show r=(A.re P v U R).mp from w]at d;rw[d]at e;cases e
  .let e:=(c.B.b j I).me;rw[show r=(A.re P v U R).bk j from w]at d;rw[d]at e;cases e
  .let#[o,T,hi]:=(c.B.b j I).own _ w;rw[d]at T;cases T;cases hi
  .erw[G w]
 .erw[(u ts.length hz (by rwa[ROk.fa0,q])).elim]
def FZ.press{Q:VK}{E:XK}{tx:z4}(h:FZ K a H p n kd ps pre M W)(htx:ä H tx ts 1000)(ntx:¬W tx)(hM:M+6*(dec ts).length+20<1000000)
  (k:∀r W' H',H r=none->H' r\((jl n kd ps pre ts).map V.int)->FZ K a H' p n kd ps (pre++dec ts) (M+6*(dec ts).length) W'->Go W H H' W'->Q (.ref r) H'):yfc K a [.ref p,.ref tx] H Q E:=by
 let#[A,f,O,m,l,I,t,J,J,J,o,d,i]:=h;erw[p,A,_,f,O,m,tx,ts,J,l,o,d,htx,λz=>ntx ((i _).mpr (.inr (.inr (.inr (.inr z))))),(),λr x B D y F C G H' c u b q w=>?_]
 have v:((FX0 A.n A.kd).run (fa0 A.n A.ps) pre).run A (dec ts)=(FX0 A.n A.kd).run (fa0 A.n A.ps) (pre++dec ts):=by rwa[Ì,Ĭ A _ _]
 let#[z,g]:=FZ.went l t v htx.s o d b w i;erw[k r _ H' c ?_ (z.up ()) g];rw[u];have e:snK (yhq A ((FX0 A.n A.kd).run (fa0 A.n A.ps) pre) ts) (y9 ts) (dec ts).length=snK (xy A.n A.kd A.ps pre ts) (y9 ts) (dec ts).length:=ybu _ λj Z=>#[by unfold xy yhq fX;rw[Ĭ A];rfl,J];rw[e];rfl
end
end
mutual
noncomputable def nmL(L:Η):Υ:=L.map λx=>V.str x.1
def ycw(H:Hp)(U:Ν):qj (Str×qj Int)->qj V->Prop
 |[],ks=>ks=[]
 |x::r,ks=>∃k ks',ks=k::ks'/\(k=.non\/∃q,k=.ref q/\H q\(x.2.map V.int)/\¬U q)/\ycw H U r ks'
theorem ycw.len{H:Hp}:∀{L:Η}{ks:Υ},ycw H U L ks->ks.length=L.length
 |[],_,h=>by rw[show _=_ from h];rfl
 |_::r,_,⟨_,_,e,_,h⟩=>by rw[e,cD,cD,h.len]
theorem ycw.mono{H H':Hp}(f:∀q xs,H q\xs->¬U q->H' q\xs/\¬U' q):∀{L:Η}{ks:Υ},ycw H U L ks->ycw H' U' L ks
 |[],_,h=>h
 |_::_,_,⟨k,ks',e,z,h⟩=>#[k,ks',e,z.imp id λ⟨q,e,b,a⟩=>#[q,e,f q _ b a],h.mono f]
theorem ycw.snoc{H:Hp}{nm:Str}{t:Ρ}{k:V}(hk:k=.non\/∃q,k=.ref q/\H q\(t.map V.int)/\¬U q):∀{L:Η}{ks:Υ},ycw H U L ks->ycw H U (L++[(nm,t)]) (ks++[k])
 |[],_,h=>by rwa[show _=_ from h,#[k,[],J,hk,rfl]]
 |_::_,_,⟨k',ks',e,z,h⟩=>#[k',ks'++[k],by rw[e];rfl,z,h.snoc hk]
theorem ycw.mem{H:Hp}:∀{L:Η}{ks:Υ},ycw H U L ks->∀x∈ks,x=.non\/∃q ys,x=.ref q/\H q\ys/\¬U q
 |[],_,h,x,hx=>by rw[show _=_ from h]at hx;cases hx
 |_::_,_,⟨k,ks',e,z,h⟩,x,hx=>by
  rw[e]at hx;rcases cr.mp hx with y|y
  .rw[y];erw[z.imp id λ⟨q,e,b,a⟩=>#[q,_,e,b,a]]
  .erw[h.mem x y]
def ChW(ll tl:z4)(W:Ν):Ν:=λc=>c=ll\/c=tl\/W c
structure æ(K:z3)(a:Ads)(H:Hp)(c dc p ll tl:z4)(n:Nat)(kd:Ξ)(ps:Λ)(L:Η)(ks:Υ)(M:Nat)(W:Ν):Prop where
 me:H c∩a.A3 dc (η (.ref p) (.ref ll) (.ref tl))
 fz:FZ K a H p n kd ps (j6 (L.map (·.2))) M W
 hl:H ll\(nmL L)
 ht:H tl\ks
 tx:ycw H (ChW ll tl W) L ks
 nc:¬W c
 nll:¬W ll
 ntl:¬W tl
 ne:ll≠tl
def FZ.new{H:Hp}{p dp l:z4}{n:Nat}{lk:Μ}{kd:Ξ}{ps:Λ}{Q:VK}{E:XK}(np:H p=none)(ndp:H dp=none)(hl:H l\(refs lk n))(n1:1<=n)(n6:n<=6)(r:x9 H n lk kd tp ps)
  (k:∀W H',FZ K a H' p n kd ps [] 6 W->(∀c,W c->H c=none)->yz H H'->(∀y xs H'',H y\xs->But y H' H''->FZ K a H'' p n kd ps [] 6 W)->Q .non H'):yex K a [.ref p,.ref l] (upd (upd H dp (.own p)) p (.ins a.A6 dp [])) Q E:=by
 have d:yz H (upd (upd H dp (.own p)) p (.ins a.A6 dp [])):=λb o e=>by rwa[yk (yb e np),yk (yb e ndp),e]
 erw[p,dp,.ref l,J,ya,.inr #[l,n,lk,kd,tp,ps,J,d _ _ hl,n1,n6,r.same d,λA f O F U Y=>?_]];have B:yz H F:=λb o e=>Y b o (d b o e) (yb e np);let#[s,J,J,J,J,P,T,M,S,m,u,C]:=U;erw[k (ywy p A O) F #[A,f,O,6,s,cc _,#[m,u,tp,r.same B],J,J,J,J,J,λc=>Iff.rfl] (λc w=>?_) B (λy xs H2 R b=>?_)]
 .rcases w with z|z|⟨j,ς,z⟩|⟨j,ς,z⟩|z
  .rw[z];erw[np]
  .rw[z];erw[d.free M]
  .rw[z];erw[d.free (T j ς)]
  .erw[d.free (P j c ς z)]
  .erw[d.free (S c (.inr (.inl z)))]
 .have g:∀{x:z4},H x=none->x≠y:=λ{x}e z=>by rw[z,R]at e;cases e
  let h:=B _ _ R;have I:∀{x:z4}{v:Υ},F x∪v->x≠y:=λ{x v}e z=>by rw[z,h]at e;cases e
  erw[A,f,O,6,s.frame (O2:=λc=>c=y) (λc o e X=>b c o e X) (g np) (g (d.free M)) (λi q=>g (d.free (T i q))) (λi c q w=>g (d.free (P i c q w))) (λl v G e=>b _ _ e (g (d.free (S l G)))) (λt v e=>?_),cc _,#[b _ _ m (g (d.free C)),u,tp,λi q=>?_],J,J,J,J,J,λc=>Iff.rfl]
  .rcases e with(e|⟨o,e⟩)|e
   .erw[.inl (.inl (b _ _ e (I e)))]
   .erw[.inl (.inr #[o,b _ _ e (λz=>by rw[z,h]at e;cases e)])]
   .erw[.inr e]
  .let#[D,e,N,L,Z]:=r.same B i q;erw[D,e,b _ _ N (I N),b _ _ L (I L),Z]
@[irreducible] def yhp(c:Nat):Bool:=!(Builtin.Str.occurrences "abcdefghijklmnopqrstuvwxyz" ⟨#[c]⟩ 0 (Str.length "abcdefghijklmnopqrstuvwxyz") 1).isEmpty
noncomputable def nmS(x:Str):Bool:=decide (1<=(x.length:Int)) && (decide ((x.length:Int)<=8) && x.cps.toList.all yhp)
def nmV:V->Bool
 | .str x=>nmS x
 |_=>false
def ys5(x:Str):(List.range x.cps.size).map (λi=>V.bl (yhp (x.cps.toList.getD i 0)))=(x.cps.toList.map yhp).map V.bl:=by
 rwa[cL,List.ext_getElem? λi=>?_];rw[ci,ci];by_cases hi:i<x.cps.size
 .rw[dv hi,bP (by rwa[dB,hi]),dL,dL,cZ,bP (by rwa[dB,hi]),Option.getD_some,Function.comp_apply]
 .rw[cT (by rw[c8];omega),cT (by rw[dB];omega),Option.map_none,Option.map_none]
def vaj{x:Str}(h1:(1:Int)<=(x.length:Int))(h8:(x.length:Int)<=8):nmV (.str x)=(x.cps.toList.map yhp).all id:=by
 have e:nmV (.str x)=nmS x:=by unfold nmV;rfl
 rw[e];unfold nmS;rw[cg h1,cg h8,List.all_map,Function.id_comp,Bool.true_and,Bool.true_and]
def yz6{x:Str}(h8:¬(x.length:Int)<=8):nmV (.str x)=false:=by
 have e:nmV (.str x)=nmS x:=by unfold nmV;rfl
 rw[e];unfold nmS;rw[cj h8,Bool.false_and,Bool.and_false]
def yyk{x:Str}(h1:¬(1:Int)<=(x.length:Int)):nmV (.str x)=false:=by
 have e:nmV (.str x)=nmS x:=by unfold nmV;rfl
 rw[e];unfold nmS;rw[cj h1,Bool.false_and]
def vak{x:V}(h:nmV x=true):∃b,x=.str b/\nmS b=true:=by
 cases x with
 |str b=>erw[b,J,h]
 |_=>cases h
def wj{x:Str}(h:nmS x=true):x.length<=8:=by unfold nmS at h;simp only[cC,decide_eq_true_eq]at h;have:=h.2.1;omega
noncomputable def smS:Str:=Str.ofString "abcdefghijklmnopqrstuvwxyz"
def ķ:smS.length=26:='r'
def yle:∀i,i<26->smS.cps[i]?=some (97+i):='r'
def yl3{i:Int}(h0:0<=i)(h1:i<26):smS.cps[i.toNat]?=some (97+i.toNat):=yle _ ()
def yxk:∀i,i<26->yhp (97+i)=true:='r'
def ŏ(l:qj Nat):Prop:=∀c,c∈l->97<=c/\c<123
def ŏ.app{l m:qj Nat}(h:ŏ l)(g:ŏ m):ŏ (l++m):=λc a=>(cK.mp a).elim (h c) (g c)
def ŏ.one{c:Nat}(h:97<=c/\c<123):ŏ [c]:=λd a=>by rwa[cn.mp a,h]
theorem ŏ.take{l:qj Nat}(h:ŏ l)(k:Nat):ŏ (l.take k):=λc a=>h c (dn a)
theorem ŏ.drop{l:qj Nat}(h:ŏ l)(k:Nat):ŏ (l.drop k):=λc a=>h c (List.mem_of_mem_drop a)
def ved{x:Str}(h:ŏ x.cps.toList)(h1:1<=x.cps.toList.length)(h8:x.cps.toList.length<=8):nmS x=true/\PyData.strOk x=true:=by
 have e:x.length=x.cps.toList.length:=by simp[Str.length]
 erw[?_,?_]
 .unfold nmS;rw[cg (),cg (),Bool.true_and,Bool.true_and,List.all_eq_true];intro c a;let#[b,d]:=h c a;have:=yxk (c-97) ()
  rwa[show 97+(c-97)=c by omega]at this
 .unfold PyData.strOk;rw[<- Array.all_toList,List.all_eq_true];intro c a;let#[b,d]:=h c a;erw[cg ()]
def wt(x y:Str):(x++y).cps.toList=x.cps.toList++y.cps.toList:=by rw[PySem.Str.cps_append,Array.toList_append]
def zl(x:Str):x.length=x.cps.toList.length:=by simp[Str.length]
noncomputable def ype(z:Str)(j:Nat)(c:Nat):Str:=Txt.slice z none (some (j:Int))++⟨#[c]⟩++Txt.slice z (some (j:Int)) none
def Ö{z:Str}{c:Nat}(hj:j<=z.length):(ype z j c).cps.toList=z.cps.toList.take j++[c]++z.cps.toList.drop j:=by unfold ype;rw[wt,wt,ymt hj,ygi hj]
def yt1{z:Str}{c:Nat}(hj:j<=z.length)(hz:ŏ z.cps.toList)(hc:97<=c/\c<123)(h7:z.length<=7):nmS (ype z j c)=true/\PyData.strOk (ype z j c)=true:=by
 let e:=zl z;erw[ved ?_ ?_ ?_]
 .rw[Ö hj];erw[((hz.take j).app (.one hc)).app (hz.drop j)]
 .rw[Ö hj];simp;omega
 .rw[Ö hj,bY,bY,cG,dE,df];omega
def ymd{z:Str}{c d:Nat}(hj:j<=z.length)(e:ype z j c=ype z j d):c=d:=by have h:=congrArg (λx:Str=>x.cps.toList) e;simp only[Ö hj]at h;rw[cJ,cJ]at h;let a:=List.append_cancel_left h;simp at a;erw[a]
def yis{z:Str}(hj:j<=z.length)(o m:Nat):((List.range m).map λi=>ype z j (97+o+i)).Nodup :=
 List.Pairwise.map (R:=λa b=>a≠b) _ (λa b h e=>h (by have:=ymd hj e;omega)) List.nodup_range
theorem Ġ{H:Hp}:∀ns:Τ,ysv K H (ns.map V.str) (ns.map PyData.str)
 |[]=>.nil
 |n::r=>.cons (.str n) (Ġ r)
theorem ĕ:∀ns:Τ,(∀x,x∈ns->PyData.strOk x=true)->PyData.canLayAll0 (ns.map PyData.str)=true
 |[],_=>rfl
 |x::r,h=>by simp[PyData.canLayAll0,PyData.canLay0,h x cN,ĕ r λy a=>h y (cM _ a)]
theorem ŕ:∀ns:Τ,PyData.depthAll (ns.map PyData.str)=0
 |[]=>rfl
 |_::r=>by simp[PyData.depthAll,PyData.depth,ŕ r]
def ė(ns:Τ)(h:∀x,x∈ns->PyData.strOk x=true):SeqAt.shaped (.list (ns.map PyData.str))=true:=by simp[SeqAt.shaped,PyData.canLay0,PyData.depth,ĕ ns h,ŕ]
theorem Ė:∀ns ms:Τ,PyData.eqvAll (ns.map PyData.str) (ms.map PyData.str)=decide (ns=ms)
 |[],[]=>by simp[PyData.eqvAll]
 |[],_::_=>by simp[PyData.eqvAll]
 |_::_,[]=>by simp[PyData.eqvAll]
 |a::r,b::t=>by
  simp only[cX,PyData.eqvAll,PyData.eqv,Ė r t];by_cases h:a=b<;>by_cases h':r=t<;>simp[h,h']
def ypu{g:Bool->Bool}{H:Hp}{Q:VK}{a b:z4}(ns ms:Τ)(hn:∀x,x∈ns->PyData.strOk x=true)(hm:∀x,x∈ms->PyData.strOk x=true)(ha:SqL K H a (ns.map V.str))(hb:SqL K H b (ms.map V.str))(h:Q (.bl (g (decide (ns=ms)))) H):yw7 K g (.ref a) (.ref b) H Q :=
 #[_,_,.lst ha (Ġ ns),.lst hb (Ġ ms),ė ns hn,ė ms hm,by rwa[PyData.eqv,Ė,h]]
structure Pc where
 nm:Str
 bs:Φ
 path:Η
 tx:Ρ
 ob:z4
 od:z4
 dl:z4
noncomputable def baV:ql Str->V
 |none=>.non
 |some b=>.str b
def Pc.by(n:Nat)(kd:Ξ)(ps:Λ)(q:Pc):Ρ:=jl n kd ps (j6 (q.path.map (·.2))) q.tx
noncomputable def pcs(P:qj Pc):Κ:=P.map λq=>(.inr q.nm,.ref q.ob)
def To(P:qj Pc):ql Str->qj (Str×qj Int)->Prop
 |none,L=>L=[]
 |some b,L=>∃r,r∈P/\r.nm=b/\L=r.path++[(b,r.tx)]
structure Ũ(a:Ads)(H:Hp)(d:z4)(n:Nat)(kd:Ξ)(ps:Λ)(w:Nat)(P:qj Pc):Prop where
 dk:H d=some (.dK (pcs P))
 ob:∀q,q∈P->H q.ob∩a.Ab q.od (į (baV q.bs) (.ref q.dl))/\H q.dl\((q.by n kd ps).map V.int)
 nd:(P.map (·.nm)).Nodup
 wf:∀q,q∈P->To P q.bs q.path
 sz:∀q,q∈P->Sgs q.tx/\q.tx.length<=w/\q.path.length<=60/\(∀x,x∈q.path->Sgs x.2/\x.2.length<=w)
 z:P.length<=60
 nm:∀q,q∈P->nmS q.nm=true/\PyData.strOk q.nm=true
theorem ylc:∀{P:qj Pc}{r:Pc},(P.map (·.nm)).Nodup->r∈P->jn (pcs P) (.inr r.nm)∣r.ob
 |q::P,r,hn,hr=>by
  let a:=dJ.mp hn;by_cases e:q.nm=r.nm
  .rcases cr.mp hr with z|z
   .subst z;unfold jn pcs;rw[cX,List.find?_cons_of_pos 's'];rfl
   .erw[absurd (ce.mpr #[r,z,e.symm]) a.1]
  .rcases cr.mp hr with z|z
   .erw[absurd (by rw[z]) e]
   .unfold jn pcs;rwa[cX,List.find?_cons_of_neg (by simpa using e),ylc a.2 z]
def ylt{P:qj Pc}{x:Str}(h:∀q,q∈P->q.nm≠x):jn (pcs P) (.inr x)=none:=by
 unfold jn pcs;rw[List.find?_eq_none.mpr λy a=>?_]
 .rfl
 .let#[q,b,e]:=ce.mp a;rw[<- e];simpa using h q b
def Ũ.same{H H':Hp}{d:z4}{n:Nat}{kd:Ξ}{ps:Λ}{w:Nat}{P:qj Pc}(h:Ũ a H d n kd ps w P)(S:yz H H'):Ũ a H' d n kd ps w P :=
 #[S _ _ h.dk,λq b=>#[S _ _ (h.ob q b).1,S _ _ (h.ob q b).2],h.nd,h.wf,h.sz,h.z,h.nm]
def yt0(x:Str)(t:Ρ)(S:Η):(nmL ((x,t)::S)).reverse=(nmL S).reverse++[.str x]:=by unfold nmL;rw[cX,List.reverse_cons]
def To.len{H:Hp}{d:z4}{n:Nat}{kd:Ξ}{ps:Λ}{w:Nat}{P:qj Pc}{x:Φ}(h:Ũ a H d n kd ps w P)(t:To P x L):L.length<=61:=by
 cases x with
 |none=>rwa[show L=[]from t,cI _]
 |some b =>
  let#[r,c,_,e]:=t;have:=(h.sz r c).2.2.1;rw[e,bY,df];omega
def Ũ.get{H:Hp}{d:z4}{n:Nat}{kd:Ξ}{ps:Λ}{w:Nat}{P:qj Pc}{r:Pc}(h:Ũ a H d n kd ps w P)(hr:r∈P):Ļ H d (.str r.nm) (some (.ref r.ob)):=by rwa[<- ylc h.nd hr,Ļ.k (k:=.inr r.nm) h.dk]
def vf8{α:Type}{f:α->Str}{P:qj α}{q r:α}(hn:(P.map f).Nodup)(hq:q∈P)(hr:r∈P)(e:f q=f r):q=r:=by
 induction P with
 |nil=>cases hq
 |cons x P ih =>
  let a:=dJ.mp hn;rcases cr.mp hq with z|z<;>rcases cr.mp hr with y|y
  .rw[z,y]
  .erw[absurd (ce.mpr #[r,y,by rw[<- e,z]]) a.1]
  .erw[absurd (ce.mpr #[q,z,by rw[e,y]]) a.1]
  .erw[ih a.2 z y]
def vhv{P:qj Pc}{q r:Pc}(hn:(P.map (·.nm)).Nodup)(hq:q∈P)(hr:r∈P)(e:q.nm=r.nm):q=r:=vf8 hn hq hr e
def To.uniq{P:qj Pc}{x:Φ}(hn:(P.map (·.nm)).Nodup)(h:To P x L)(g:To P x M):L=M:=by
 cases x with
 |none=>rw[show L=[]from h,show M=[]from g]
 |some b =>
  let#[r,e,d,i]:=h;let#[q,c,f,a]:=g;obtain rfl:=vhv hn e c (d.trans f.symm);rw[i,a]
theorem To.pre{P:qj Pc}(wf:∀q,q∈P->To P q.bs q.path){b:Str}{t:Ρ}{A:Η}:∀(m:Nat){x:Φ}{B:Η},B.length<=m->To P x (A++[(b,t)]++B)->To P (some b) (A++[(b,t)])
 |m,none,B,_,h=>by
  let e:=congrArg List.length (show A++[(b,t)]++B=[]from h);rw[bY,bY]at e;simp at e
 |m,some c,B,hm,⟨r,hr,e1,e2⟩=>by
  rcases List.eq_nil_or_concat B with z|⟨i,y,z⟩
  .subst z;rw[dQ]at e2;let a:=List.append_inj' e2 J;let#[g,f]:=a;cases f;erw[r,hr,e1,by rw[g]]
  .subst z;rw[List.concat_eq_append]at e2 hm;rw[<- cJ]at e2;let a:=(List.append_inj' e2 J).1
   cases m with
   |zero=>rw[bY]at hm;simp at hm
   |succ m =>
    let d:=wf r hr;rw[<- a]at d;erw[To.pre wf m (by rw[bY,df]at hm;omega) d]
def To.ahead{P:qj Pc}(hn:(P.map (·.nm)).Nodup)(wf:∀q,q∈P->To P q.bs q.path){x y:Φ}(h:To P x L)(g:To P y M)(e:nmL L=(nmL M).take L.length):L=M.take L.length:=by
 cases x with
 |none=>rw[show L=[]from h];rfl
 |some b =>
  let#[r,o,m,f]:=id h;have n:L.length=r.path.length+1:=by rw[f,bY,df]
  let c:=congrArg List.length e;unfold nmL at c;rw[cG,bw,bw]at c;have a:r.path.length<M.length:=()
  have k:M=M.take r.path.length++[M[r.path.length]]++M.drop (r.path.length+1):=by
   rw[cJ,List.singleton_append,<- dC a,dS]
  have j:(M[r.path.length]).1=b:=by
   let z:=congrArg (λl=>l[r.path.length]?) e;unfold nmL at z;simp only[ci,List.getElem?_take]at z;rw[if_pos (),f,dz (cc _),Nat.sub_self,bP a]at z;simp at z;erw[z.symm]
  let g2:=g;rw[k]at g2;have d:M[r.path.length]=(b,(M[r.path.length]).2):=by rw[<- j]
  rw[d]at g2;let g3:=To.pre wf _ (cc _) g2;let i:=To.uniq hn h g3;rw[i,<- d,<- cH a]
  congr 1
  rw[cG];omega
def Ũ.getNo{H:Hp}{d:z4}{n:Nat}{kd:Ξ}{ps:Λ}{w:Nat}{P:qj Pc}{x:Str}(h:Ũ a H d n kd ps w P)(hx:∀q,q∈P->q.nm≠x):Ļ H d (.str x) none:=by rwa[<- ylt hx,Ļ.k (k:=.inr x) h.dk]
def vdm(P:qj Pc)(b:Str):(∃r,r∈P/\r.nm=b)\/∀q,q∈P->q.nm≠b:=by
 by_cases h:∃r,r∈P/\r.nm=b
 .erw[.inl h]
 .erw[.inr λq a e=>h #[q,a,e]]
theorem To.sz{H:Hp}{d:z4}{n:Nat}{kd:Ξ}{ps:Λ}{w:Nat}{P:qj Pc}{x:Φ}(h:Ũ a H d n kd ps w P)(t:To P x L):∀y,y∈L->Sgs y.2/\y.2.length<=w:=by
 cases x with
 |none=>intro y c;rw[show L=[]from t]at c;cases c
 |some b =>
  let#[r,i,_,e]:=t;let#[j,f,_,g]:=h.sz r i;intro y c;rw[e]at c;rcases cK.mp c with z|z
  .erw[g y z]
  .rw[cn.mp z];erw[j,f]
def To.at'{P:qj Pc}(wf:∀q,q∈P->To P q.bs q.path){x:Φ}(t:To P x L)(hj:j<L.length):∃r,r∈P/\L[j]=(r.nm,r.tx)/\r.path=L.take j/\To P (some r.nm) (L.take (j+1)):=by
 have g:L=L.take j++[(L[j].1,L[j].2)]++L.drop (j+1):=by
  rw[cJ,List.singleton_append,<- dC hj,dS]
 rw[g]at t;let a:=To.pre wf _ (cc _) t;let#[r,f,b,h]:=id a;let#[c,d]:=List.append_inj' h J
 cases r with|mk nm bs path tx ob od dl =>
 simp only at b c d;subst b;have e:L[j].2=tx:=by cases d;rfl
 erw[_,f,?_,c.symm,?_]
 .show L[j]=(L[j].1,tx);rw[<- e]
 .rw[cH hj];erw[a]
def To.nms{P:qj Pc}(wf:∀q,q∈P->To P q.bs q.path){x:Φ}(t:To P x L){y:Str×qj Int}(hy:y∈L):∃r,r∈P/\r.nm=y.1:=by let#[j,a,e]:=List.mem_iff_getElem.mp hy;let#[r,c,b,_]:=t.at' wf a;erw[r,c,by rw[<- e,b]]
def To.ok{H:Hp}{d:z4}{n:Nat}{kd:Ξ}{ps:Λ}{w:Nat}{P:qj Pc}{x:Φ}(h:Ũ a H d n kd ps w P)(t:To P x L):∀y,y∈L.map (·.1)->PyData.strOk y=true:=λy c=>by
 let#[u,b,J]:=ce.mp c;let#[r,f,e]:=t.nms h.wf b;rwa[<- e,(h.nm r f).2]
def ô(L:Η):nmL L=(L.map (·.1)).map V.str:=by unfold nmL;rw[cL];rfl
def ĉ(L:Η)(k:Nat):(nmL L).take k=nmL (L.take k):=by unfold nmL;rw[List.map_take]
def Ë(L:Η):(nmL L).length=L.length:=bw _
def ypt(h:L.map (·.1)=M.map (·.1)):nmL L=nmL M:=by rw[ô,ô,h]
theorem yfd{w:Nat}:∀L:qj (Ρ),(∀x,x∈L->x.length<=w)->(j6 L).length<=L.length*(9*w+1)
 |[],_=>cI _
 |t::L,h=>by
  have e:j6 (t::L)=dec t++j6 L:=rfl;let b:=h t cN;let c:=yfd L λx a=>h x (cM _ a);let d:=xv t;rw[e,bY,cD,Nat.succ_mul];omega
noncomputable def txi(L:Η)(i:Nat):Ρ:=(L.map (·.2)).getD i []
def mOf(L:Η):Nat:=6+6*(j6 (L.map (·.2))).length
def NK(H:Hp)(ks ks':Υ):Prop:=∀q,V.ref q∈ks'->V.ref q∈ks\/H q=none
def NK.refl{H:Hp}{ks:Υ}:NK H ks ks:=λZ h=>.inl h
def NK.nil{H:Hp}{ks:Υ}:NK H ks []:=λZ h=>nomatch h
def NK.trans{H H1:Hp}{k1 k2 k3:Υ}(h:NK H k1 k2)(g:NK H1 k2 k3)(f:∀q,H1 q=none->H q=none):NK H k1 k3:=λq a=>(g q a).elim (h q) λz=>.inr (f q z)
def NK.app{H:Hp}{ks ks':Υ}{v:V}(h:NK H ks ks')(g:∀q,v=.ref q->H q=none):NK H ks (ks'++[v]):=λq a=>(cK.mp a).elim (h q) λz=>.inr (g q (cn.mp z).symm)
def StW(c cl ct:z4)(U:Ν):Ν:=λx=>x=c\/ChW cl ct U x
structure jw(K:z3)(a:Ads)(H:Hp)(st ds ll d c dc p cl ct:z4)(lk tp:Μ)(n:Nat)(kd:Ξ)(ps:Λ)(mo w:Nat)(P:qj Pc)(L:Η)(ks:Υ)(U:Ν):Prop where
 me:H st∩a.A0 ds (wc (.ref ll) (.int mo) (.ref d) (.ref c))
 n1:1<=n
 n6:n<=6
 lo:H ll\(refs lk n)
 row:x9 H n lk kd tp ps
 pz:Ũ a H d n kd ps w P
 ch:æ K a H c dc p cl ct n kd ps L ks (mOf L) U
 nw:∀x,(x=st\/x=ll\/x=d\/∃q,q∈P/\(x=q.ob\/x=q.dl))->¬StW c cl ct U x
 mo1:mo<=1000
 wm:w<=mo/\w<=200
 way:∃x,To P x L
def æ.but{H H':Hp}{c p ll:z4}{n:Nat}{kd:Ξ}{ps:Λ}{ks:Υ}{M:Nat}{W:Ν}(h:æ K a H c dc p ll tl n kd ps L ks M W){C:z4}{fs:Ι}(hq:H q∩C dq fs)(nq:¬StW c ll tl W q)(B:But q H H'):æ K a H' c dc p ll tl n kd ps L ks M W:=by
 have b:∀{x:z4}{d:Υ},H x\d->x≠q:=λ{x d}e z=>by rw[z,hq]at e;cases e
 erw[B _ _ h.me λz=>nq (.inl z.symm),h.fz.frame (W2:=λx=>x=q) (λx z=>#[.ins C dq fs,by rwa[show x=q from z,hq],.inl J]) (λx w z=>nq (.inr (.inr (.inr (by rwa[<- show x=q from z,w]))))) (λx o e f=>B x o e f),B _ _ h.hl (b h.hl),B _ _ h.ht (b h.ht),h.tx.mono λx d e g=>#[B _ _ e (b e),g],h.nc,h.nll,h.ntl,h.ne]
def yet(L:Η)(x:Str)(t:Ρ):mOf (L++[(x,t)])=mOf L+6*(dec t).length:=by unfold mOf;rw[cy,show List.map (λx:Str×qj Int=>x.2) [(x,t)]=[t]from rfl,ĥ,bY];omega
def yk3{w:Nat}(h:∀y,y∈L->y.2.length<=w)(hw:w<=200)(hl:L.length<=61):mOf L<=660000:=by
 let c:=yfd (w:=w) (L.map (·.2)) λx b=>by
  let#[y,a,J]:=ce.mp b;erw[h y a]
 rw[bw]at c;have d:L.length*(9*w+1)<=61*1801:=Nat.mul_le_mul hl ();unfold mOf;omega
def StO(st c cl ct:z4)(U:Ν):Ν:=λy=>y=st\/StW c cl ct U y
def Go.or{W Y:Ν}{H H':Hp}(g:Go W H H' W'):Go (λx=>Y x\/W x) H H' (λx=>Y x\/W' x) :=
 #[λc o e a=>g.fr c o e λw=>a (.inr w),λc w=>w.elim (λy=>.inl (.inl y)) λw=>(g.nw c w).imp .inr id,g.lv]
def æ.noTup{H:Hp}{c p ll:z4}{n:Nat}{kd:Ξ}{ps:Λ}{ks:Υ}{M:Nat}{W:Ν}(h:æ K a H c dc p ll tl n kd ps L ks M W){x:z4}{xs:Υ}(e:H x∪xs):¬StW c ll tl W x:=λw=>by
 rcases w with z|z|z|z
 .rw[z,h.me]at e;cases e
 .rw[z,h.hl]at e;cases e
 .rw[z,h.ht]at e;cases e
 .erw[h.fz.sh.tup e z]
theorem æ.same{H H':Hp}{c p ll:z4}{n:Nat}{kd:Ξ}{ps:Λ}{ks:Υ}{M:Nat}{W:Ν}(h:æ K a H c dc p ll tl n kd ps L ks M W)(S:yz H H'):æ K a H' c dc p ll tl n kd ps L ks M W :=
 #[S _ _ h.me,h.fz.same S,S _ _ h.hl,S _ _ h.ht,h.tx.mono λZ Z e b=>#[S _ _ e,b],h.nc,h.nll,h.ntl,h.ne]
def Ũ.fr{H H':Hp}{d:z4}{n:Nat}{kd:Ξ}{ps:Λ}{w:Nat}{P:qj Pc}(h:Ũ a H d n kd ps w P)(f:∀x o,H x=some o->(x=d\/∃q,q∈P/\(x=q.ob\/x=q.dl))->H' x=some o):Ũ a H' d n kd ps w P :=
 #[f _ _ h.dk (.inl J),λq b=>#[f _ _ (h.ob q b).1 (.inr #[q,b,.inl J]),f _ _ (h.ob q b).2 (.inr #[q,b,.inr J])],h.nd,h.wf,h.sz,h.z,h.nm]
def x9.fr{H H':Hp}{n:Nat}{lk:Μ}{kd:Ξ}{ps:Λ}(h:x9 H n lk kd tp ps)(f:∀x xs,H x∪xs->H' x∪xs):x9 H' n lk kd tp ps:=λi b=>by
 let#[q,e,a,c,d]:=h i b;erw[q,e,f _ _ a,f _ _ c,d]
end
section
mutual
variable{H H':Hp}{ll d c p cl ct:z4}{lk:Μ}{n:Nat}{kd:Ξ}{ps:Λ}{mo w:Nat}{P:qj Pc}{ks:Υ}
theorem jw.same(h:jw K a H st ds ll d c dc p cl ct lk tp n kd ps mo w P L ks U)(S:yz H H'):jw K a H' st ds ll d c dc p cl ct lk tp n kd ps mo w P L ks U :=
 #[S _ _ h.me,h.n1,h.n6,S _ _ h.lo,h.row.same S,h.pz.same S,h.ch.same S,h.nw,h.mo1,h.wm,h.way]
def jw.lv(h:jw K a H st ds ll d c dc p cl ct lk tp n kd ps mo w P L ks U):∀x,(x=st\/x=ll\/x=d\/∃q,q∈P/\(x=q.ob\/x=q.dl))->∃o,H x=some o:=λx e=>by
 rcases e with z|z|z|⟨q,b,z|z⟩
 .erw[_,by rwa[z,h.me]]
 .erw[_,by rwa[z,h.lo]]
 .erw[_,by rwa[z,h.pz.dk]]
 .erw[_,by rwa[z,(h.pz.ob q b).1]]
 .erw[_,by rwa[z,(h.pz.ob q b).2]]
def jw.lvO(h:jw K a H st ds ll d c dc p cl ct lk tp n kd ps mo w P L ks U):∀x,StO st c cl ct U x->∃o,H x=some o:=λx b=>by
 rcases b with z|z|z|z|z
 .erw[_,by rwa[z,h.me]]
 .erw[_,by rwa[z,h.ch.me]]
 .erw[_,by rwa[z,h.ch.hl]]
 .erw[_,by rwa[z,h.ch.ht]]
 .erw[h.ch.fz.live x z]
def jw.go(h:jw K a H st ds ll d c dc p cl ct lk tp n kd ps mo w P L ks U){ks':Υ}(hc:æ K a H' c dc p cl ct n kd ps M ks' (mOf M) U')(g:Go (ChW cl ct U) H H' (ChW cl ct U'))(way:∃x,To P x M):jw K a H' st ds ll d c dc p cl ct lk tp n kd ps mo w P M ks' U'/\Go (StO st c cl ct U) H H' (StO st c cl ct U'):=by have g1:Go (StW c cl ct U) H H' (StW c cl ct U'):=g.or (Y:=λx=>x=c);have f:∀x o,H x=some o->(x=st\/x=ll\/x=d\/∃q,q∈P/\(x=q.ob\/x=q.dl))->H' x=some o:=λx o e b=>g1.fr x o e (h.nw x b);erw[#[f _ _ h.me (.inl J),h.n1,h.n6,f _ _ h.lo (.inr (.inl J)),h.row.fr λx i e=>g1.fr _ _ e (h.ch.noTup e),h.pz.fr λx o e z=>f x o e (.inr (.inr z)),hc,g1.apart (λx b=>h.lv x b) h.nw,h.mo1,h.wm,way],g1.or (Y:=λx=>x=st)]
structure StB(a:Ads)(H:Hp)(st ds ll d:z4)(vc:V)(lk tp:Μ)(n:Nat)(kd:Ξ)(ps:Λ)(mo w:Nat)(P:qj Pc):Prop where
 me:H st∩a.A0 ds (wc (.ref ll) (.int mo) (.ref d) vc)
 n1:1<=n
 n6:n<=6
 lo:H ll\(refs lk n)
 row:x9 H n lk kd tp ps
 pz:Ũ a H d n kd ps w P
 mo1:mo<=1000
 wm:w<=mo/\w<=200
def jw.b(h:jw K a H st ds ll d c dc p cl ct lk tp n kd ps mo w P L ks U):StB a H st ds ll d (.ref c) lk tp n kd ps mo w P:=#[h.me,h.n1,h.n6,h.lo,h.row,h.pz,h.mo1,h.wm]
def StB.lv{vc:V}(h:StB a H st ds ll d vc lk tp n kd ps mo w P):∀x,(x=st\/x=ll\/x=d\/∃q,q∈P/\(x=q.ob\/x=q.dl))->∃o,H x=some o:=λx c=>by
 rcases c with z|z|z|⟨q,b,z|z⟩
 .erw[_,by rwa[z,h.me]]
 .erw[_,by rwa[z,h.lo]]
 .erw[_,by rwa[z,h.pz.dk]]
 .erw[_,by rwa[z,(h.pz.ob q b).1]]
 .erw[_,by rwa[z,(h.pz.ob q b).2]]
def Go.wide{W:Ν}(g:Go W H H' W')(f:∀x,W x->W2 x):Go W2 H H' W':=#[λc o e a=>g.fr c o e λw=>a (f c w),λc w=>(g.nw c w).imp (f c) id,g.lv]
def StB.re{vc:V}(h:StB a H st ds ll d vc lk tp n kd ps mo w P){dc' p':z4}{HE:Hp}(nc:H c'=none)(ndc:H dc'=none)(hch:æ K a HE c' dc' p' cl' ct' n kd ps [] [] 6 U')(hnew:∀x,ChW cl' ct' U' x->(upd (upd H dc' (.own c')) c' (.ins a.A3 dc' [])) x=none)(BE:But c' (upd (upd H dc' (.own c')) c' (.ins a.A3 dc' [])) HE):
  jw K a (upd HE st (.ins a.A0 ds (wc (.ref ll) (.int mo) (.ref d) (.ref c')))) st ds ll d c' dc' p' cl' ct' lk tp n kd ps mo w P [] [] U'/\Go (λy=>y=st) H (upd HE st (.ins a.A0 ds (wc (.ref ll) (.int mo) (.ref d) (.ref c')))) (StO st c' cl' ct' U')/\yz H HE/\∀x,StW c' cl' ct' U' x->H x=none:=by
 have m:yz H (upd (upd H dc' (.own c')) c' (.ins a.A3 dc' [])):=λb o e=>by rwa[yk (yb e nc),yk (yb e ndc),e]
 have f:yz H HE:=λb o e=>BE _ _ (m _ _ e) (yb e nc)
 have k:∀x,StW c' cl' ct' U' x->H x=none:=λx w=>by
  rcases w with z|z
  .rw[z];erw[nc]
  .erw[m.free (hnew x z)]
 have g:∀{x:z4}{o:HO},H x=some o->¬StW c' cl' ct' U' x:=λ{x o}e w=>by rw[k x w]at e;cases e
 let c:=h.me;have l:∀{x:z4}{j:Υ},H x\j->x≠st:=λ{x j}e z=>by rw[z,c]at e;cases e
 erw[#[ya,h.n1,h.n6,ye (l h.lo) (f _ _ h.lo),h.row.fr λx j e=>ye (λz=>by rw[z,c]at e;cases e) (f _ _ e),#[ye (λz=>?_) (f _ _ h.pz.dk),λq i=>#[ye (λz=>?_) (f _ _ (h.pz.ob q i).1),ye (l (h.pz.ob q i).2) (f _ _ (h.pz.ob q i).2)],h.pz.nd,h.pz.wf,h.pz.sz,h.pz.z,h.pz.nm],hch.but (f _ _ c) (g c) But.upd,λx s=>?_,h.mo1,h.wm,#[none,J]],#[λx o e p=>ye p (f _ _ e),λx w=>?_,λx o e=>?_],f,k]
 .let e:=h.pz.dk;rw[z,c]at e;cases e
 .let e:=(h.pz.ob q i).1;rw[z,c]at e;injection e with e;injection e with _ _ e;let r:=congrArg List.length e;erw[absurd (show (4:Nat)=2 from r) ∅]
 .let#[o,e]:=h.lv x s;erw[g e]
 .rcases w with z|z
  .erw[.inl z]
  .erw[.inr (k x z)]
 .by_cases z:x=st
  .erw[_,by rwa[z,ya]]
  .erw[o,ye z (f _ _ e)]
theorem jw.re(h:jw K a H st ds ll d c dc p cl ct lk tp n kd ps mo w P L ks U){dc' p':z4}{HE:Hp}(nc:H c'=none)(ndc:H dc'=none)(hch:æ K a HE c' dc' p' cl' ct' n kd ps [] [] 6 U')(hnew:∀x,ChW cl' ct' U' x->(upd (upd H dc' (.own c')) c' (.ins a.A3 dc' [])) x=none)(BE:But c' (upd (upd H dc' (.own c')) c' (.ins a.A3 dc' [])) HE):
  jw K a (upd HE st (.ins a.A0 ds (wc (.ref ll) (.int mo) (.ref d) (.ref c')))) st ds ll d c' dc' p' cl' ct' lk tp n kd ps mo w P [] [] U'/\Go (StO st c cl ct U) H (upd HE st (.ins a.A0 ds (wc (.ref ll) (.int mo) (.ref d) (.ref c')))) (StO st c' cl' ct' U')/\yz H HE/\∀x,StW c' cl' ct' U' x->H x=none:=by let#[e,f,g]:=h.b.re nc ndc hch hnew BE;erw[e,f.wide λZ z=>.inl z,g]
def To.less{b:Str}{x:Φ}(h:To P x M)(hx:x≠some b):To (P.filter λq=>decide (q.nm≠b)) x M:=by
 cases x with
 |none=>erw[h]
 |some y =>
  let#[r,c,a,d]:=h;erw[r,dg.mpr #[c,cg λz=>hx ?_],a,d];rw[<- a,z]
def ym5(b:Str):∀P:qj Pc,ã (pcs P) (.inr b)=pcs (P.filter λq=>decide (q.nm≠b)):=λP=>by
 unfold ã pcs;rw[List.filter_map]
 congr 1
 erw[List.filter_congr λq Z=>?_];by_cases e:q.nm=b
 .simp[e]
 .simp[e]
def StB.drop{vc:V}(h:StB a H st ds ll d vc lk tp n kd ps mo w P){b:Str}(hb:∀q,q∈P->q.bs≠some b):StB a (upd H d (.dK (ã (pcs P) (.inr b)))) st ds ll d vc lk tp n kd ps mo w (P.filter λq=>decide (q.nm≠b)):=by
 let i:=h.pz.dk;have f:∀{x:z4}{o:HO},H x=some o->o≠.dK (pcs P)->(upd H d (.dK (ã (pcs P) (.inr b)))) x=some o:=λ{x o}e j=>ye (λz=>by rw[z,i]at e;cases e;erw[j J]) e;have g:∀{q:Pc},q∈(P.filter λq=>decide (q.nm≠b))->q∈P:=λc=>(dg.mp c).1
 erw[f h.me (λz=>nomatch z),h.n1,h.n6,f h.lo (λz=>nomatch z),h.row.fr λx k e=>f e (λz=>nomatch z),#[by rwa[<- ym5,ya],λq c=>#[f (h.pz.ob q (g c)).1 (λz=>nomatch z),f (h.pz.ob q (g c)).2 (λz=>nomatch z)],h.pz.nd.sublist (List.filter_sublist.map _),λq c=>(h.pz.wf q (g c)).less (hb q (g c)),λq c=>h.pz.sz q (g c),cO (List.length_filter_le _ _) h.pz.z,λq c=>h.pz.nm q (g c)],h.mo1,h.wm]
end
end
mutual
def ifI{tc:TT}{ts te:TS}{D:ç}{σ:St}{H:Hp}(C:Prop)(h:∀Qb:Bool->Hp->Prop,(C->Qb true H)->Qb false H->tc σ H Qb)(hT:C->ts D σ H)(hF:te D σ H):vgv tc ts te D σ H :=
 h _ (λc=>by show (if true=true then _ else _);rwa[if_pos J,hT c]) (by show (if false=true then _ else _);rwa[if_neg ∅,hF])
def vk1{tc:TT}{ts te:TS}{D:ç}{σ:St}{H:Hp}(C C':Prop)(h:∀Qb:Bool->Hp->Prop,(C->Qb true H)->(C'->Qb false H)->tc σ H Qb)(hT:C->ts D σ H)(hF:C'->te D σ H):vgv tc ts te D σ H :=
 h _ (λc=>by show (if true=true then _ else _);rwa[if_pos J,hT c]) (λc=>by show (if false=true then _ else _);rwa[if_neg ∅,hF c])
structure Pd where
 nm:Str
 bs:Φ
 path:Η
 tx:Ρ
noncomputable def Pc.pd(q:Pc):Pd:=#[q.nm,q.bs,q.path,q.tx]
structure Cf where
 n:Nat
 kd:Ξ
 ps:Λ
 mo:Nat
 w:Nat
def Pd.by(C:Cf)(q:Pd):Ρ:=jl C.n C.kd C.ps (j6 (q.path.map (·.2))) q.tx
def ToD(P:qj Pd):ql Str->qj (Str×qj Int)->Prop
 |none,L=>L=[]
 |some b,L=>∃r,r∈P/\r.nm=b/\L=r.path++[(b,r.tx)]
def ĩ{Q:qj Pc}{x:Φ}:ToD (Q.map Pc.pd) x L↔To Q x L:=by
 cases x with
 |none=>erw[Iff.rfl]
 |some b =>
  erw[λ⟨r,a,e⟩=>?_,λ⟨r,a,e⟩=>#[_,ce.mpr #[r,a,J],e]];let#[q,c,J]:=ce.mp a;erw[q,c,e]
def okN(x:Str):Prop:=nmS x=true/\PyData.strOk x=true
def WD(d st c cl ct:z4)(U:Ν):Ν:=λy=>y=d\/StO st c cl ct U y
structure Sx where
 w:Ν
 f:Ν
noncomputable def ysu(d st c cl ct:z4)(U:Ν)(ll:z4)(Q:qj Pc)(ks:Υ):Sx :=
 #[WD d st c cl ct U,λy=>WD d st c cl ct U y\/y=ll\/(∃q,q∈Q/\(y=q.ob\/y=q.dl))\/V.ref y∈ks]
inductive Sto(K:z3)(a:Ads)(H:Hp)(st:z4)(C:Cf)(P:qj Pd)(X:Sx):Prop
 |mk(ds ll d c dc p cl ct:z4)(lk tp:Μ)(Q:qj Pc)(L:Η)(ks:Υ)(U:Ν)(s:jw K a H st ds ll d c dc p cl ct lk tp C.n C.kd C.ps C.mo C.w Q L ks U)(e:Q.map Pc.pd=P)(x:X=ysu d st c cl ct U ll Q ks)
structure Gx(X:Sx)(H H':Hp)(Y:Sx):Prop where
 g:Go X.w H H' Y.w
 f:∀y,Y.f y->X.f y\/H y=none
theorem Gx.same{X Y:Sx}{H H1 H2:Hp}(h:Gx X H H1 Y)(S:yz H1 H2):Gx X H H2 Y:=#[h.g.same S,h.f]
theorem Gx.ahead{X Y:Sx}{H H1 H2:Hp}(S:yz H H1)(h:Gx X H1 H2 Y):Gx X H H2 Y:=#[h.g.ahead S,λy w=>(h.f y w).imp id S.free]
theorem Gx.refl{X:Sx}{H:Hp}:Gx X H H X:=#[.refl,λZ w=>.inl w]
theorem Gx.trans{X Y Z:Sx}{H H1 H2:Hp}(h:Gx X H H1 Y)(k:Gx Y H1 H2 Z):Gx X H H2 Z:=#[h.g.trans k.g,λy w=>(k.f y w).elim (h.f y) λe=>.inr (h.g.free e)]
def Kf(H:Hp)(X:Sx)(x:z4)(o:HO):Prop:=H x=some o/\¬X.f x
end
section
mutual
variable{B H H':Hp}{C:Cf}{P:qj Pd}{X Y:Sx}
theorem Sto.same(h:Sto K a H st C P X)(S:yz H H'):Sto K a H' st C P X:=by let#[m,g,d,c,i,p,b,k,f,j,Q,L,l,U,s,e,x]:=h;erw[m,g,d,c,i,p,b,k,f,j,Q,L,l,U,s.same S,e,x]
def Sto.live(h:Sto K a H st C P X):∀y,X.f y->∃o,H y=some o:=λy g=>by
 let#[u,l,d,c,m,p,i,r,k,n,Q,L,t,U,s,J,J]:=h;rcases g with(z|z)|z|⟨q,b,z⟩|z
 .erw[_,by rwa[z,s.pz.dk]]
 .erw[s.lvO y z]
 .erw[_,by rwa[z,s.lo]]
 .erw[s.lv y (.inr (.inr (.inr #[q,b,z])))]
 .rcases s.ch.tx.mem _ z with e|⟨q,j,e,b,_⟩
  .cases e
  .cases e;erw[_,b]
def Sto.wf(h:Sto K a H st C P X):∀y,X.w y->X.f y:=λy b=>by
 let#[n,i,d,c,j,p,e,l,g,k,Q,L,m,U,s,J,J]:=h;erw[.inl b]
theorem Sto.ins(h:Sto K a H st C P X):∃ds vl vm vp vc,H st∩a.A0 ds (wc vl vm vp vc):=by let#[ds,f,d,c,g,p,b,j,e,i,Q,L,k,U,s,J,J]:=h;erw[_,_,_,_,_,s.me]
def Sto.me(h:Sto K a H st C P X):X.f st:=by let#[m,g,d,c,i,p,b,k,e,j,Q,L,l,U,s,J,J]:=h;erw[.inl (.inr (.inl J))]
def vh9(Q:qj Pc):(Q.map Pc.pd).map (·.nm)=Q.map (·.nm):=by rw[cL];rfl
theorem Sto.nd(h:Sto K a H st C P X):(P.map (·.nm)).Nodup:=by let#[l,f,d,c,g,p,b,j,e,i,Q,L,k,U,s,J,J]:=h;rwa[vh9,s.pz.nd]
theorem Sto.z(h:Sto K a H st C P X):P.length<=60:=by let#[l,f,d,c,g,p,b,j,e,i,Q,L,k,U,s,J,J]:=h;rwa[bw,s.pz.z]
theorem Sto.nm(h:Sto K a H st C P X):∀q,q∈P->okN q.nm:=λq b=>by
 let#[n,i,d,c,j,p,f,l,g,k,Q,L,m,U,s,J,J]:=h;let#[r,e,J]:=ce.mp b;erw[s.pz.nm r e]
def Sto.to(h:Sto K a H st C P X):∀q,q∈P->ToD P q.bs q.path:=λq b=>by
 let#[n,i,d,c,j,p,f,l,g,k,Q,L,m,U,s,J,J]:=h;let#[r,e,J]:=ce.mp b;erw[ĩ.mpr (s.pz.wf r e)]
theorem Sto.sz(h:Sto K a H st C P X):∀q,q∈P->Sgs q.tx/\q.tx.length<=C.w/\q.path.length<=60/\(∀x,x∈q.path->Sgs x.2/\x.2.length<=C.w):=λq b=>by
 let#[n,i,d,c,j,p,f,l,g,k,Q,L,m,U,s,J,J]:=h;let#[r,e,J]:=ce.mp b;erw[s.pz.sz r e]
def Sto.cf(h:Sto K a H st C P X):1<=C.n/\C.n<=6/\C.mo<=1000/\C.w<=C.mo/\C.w<=200:=by let#[l,f,d,c,g,p,b,j,e,i,Q,L,k,U,s,J,J]:=h;erw[s.n1,s.n6,s.mo1,s.wm.1,s.wm.2]
theorem Sto.sh(h:Sto K a H st C P X):WSh H X.w:=λy i=>by
 let#[t,l,d,c,m,p,j,o,k,n,Q,L,r,U,s,J,J]:=h;rcases i with z|z|z|z|z|z
 .erw[_,by rwa[z,s.pz.dk],.inl J]
 .erw[_,by rwa[z,s.me],.inl J]
 .erw[_,by rwa[z,s.ch.me],.inl J]
 .exists _,by rwa[z,s.ch.hl],.inr #[_,J,λv b=>?_]
  let#[u,_,e]:=ce.mp b;erw[.inl #[u.1,e.symm]]
 .exists _,by rwa[z,s.ch.ht],.inr #[_,J,λv b=>.inr ?_]
  erw[(s.ch.tx.mem v b).imp (λe=>by rw[e];rfl) λ⟨q,g,e,f,_⟩=>#[q,e,.inl #[g,f]]]
 .erw[s.ch.fz.sh y z]
theorem Sto.frame(h:Sto K a H st C P X)(sh:WSh H W2)(dj:∀y,X.f y->¬W2 y)(fr:∀y o,H y=some o->¬W2 y->H' y=some o):Sto K a H' st C P X:=by
 let#[F,n,d,c,B,p,g,i,A,D,Q,L,l,U,s,J,J]:=h;have f:∀{y:z4}{o:HO},H y=some o->(ysu d st c g i U n Q l).f y->H' y=some o:=λ{y o}e w=>fr y o e (dj y w);erw[F,n,d,c,B,p,g,i,A,D,Q,L,l,U,#[f s.me (.inl (.inr (.inl J))),s.n1,s.n6,f s.lo (.inr (.inl J)),s.row.fr λy G e=>fr _ _ e (sh.tup e),s.pz.fr λy o e z=>f e (z.elim (λz=>.inl (.inl z)) λz=>.inr (.inr (.inl z))),#[f s.ch.me (.inl (.inr (.inr (.inl J)))),s.ch.fz.frame sh (λy w=>dj y (.inl (.inr (.inr (.inr (.inr (.inr w))))))) fr,f s.ch.hl (.inl (.inr (.inr (.inr (.inl J))))),f s.ch.ht (.inl (.inr (.inr (.inr (.inr (.inl J)))))),?_,s.ch.nc,s.ch.nll,s.ch.ntl,s.ch.ne],s.nw,s.mo1,s.wm,s.way],J,rfl]
 have j:∀{L:Η}{b:Υ},(∀v,v∈b->v∈l)->ycw H (ChW g i U) L b->ycw H' (ChW g i U) L b:=by
  intro L
  induction L with
  |nil=>intro b _ h;erw[h]
  |cons y r ih =>
   rintro b m ⟨k,t,rfl,z,h⟩;erw[k,t,J,z.imp id λ⟨q,e,u,E⟩=>#[q,e,f u (.inr (.inr (.inr ?_))),E],ih (λv x=>m v (cM _ x)) h];rwa[<- e,m _ cN]
 erw[j (λZ h=>h) s.ch.tx]
def Sto.but(h:Sto K a H st C P X)(sh:WSh H λz=>z=y)(ny:¬X.f y)(b:But y H H'):Sto K a H' st C P X :=
 h.frame sh (λz w e=>ny (by rwa[<- e,w])) λz o e c=>b z o e c
def WSh.mu{o:HO}(e:H y=some o)(ho:yl8 o=true):WSh H λz=>z=y:=λz w=>#[o,by rwa[w,e],.inl ho]
def WSh.ls{xs:Υ}(e:H y\xs)(hx:∀x∈xs,(∃s,x=V.str s)\/vi8 x=true\/∃q,x=V.ref q/\vi6 (H q)):WSh H λz=>z=y:=λz w=>#[_,by rwa[w,e],.inr #[xs,J,hx]]
def Kf.go{x:z4}{o:HO}(h:Kf H X x o)(s:Sto K a H st C P X)(g:Gx X H H' Y):Kf H' Y x o :=
 #[g.g.fr _ _ h.1 λw=>h.2 (s.wf _ w),λw=>(g.f x w).elim h.2 λe=>by rw[h.1]at e;cases e]
def Kf.same{x:z4}{o:HO}(h:Kf H X x o)(S:yz H H'):Kf H' X x o:=#[S _ _ h.1,h.2]
def Kf.new{x:z4}{o:HO}(s:Sto K a H st C P X)(hx:H x=none)(e:H' x=some o):Kf H' X x o:=#[e,λw=>by
 let#[c,b]:=s.live x w;rw[hx]at b;cases b]
def Kf.but{x:z4}{o:HO}(h:Kf H X x o)(ne:x≠y)(b:But y H H'):Kf H' X x o:=#[b _ _ h.1 ne,h.2]
def Sep(X Y:Sx):Prop:=∀y,X.f y->¬Y.f y
def Sep.symm(h:Sep X Y):Sep Y X:=λy w v=>h y v w
def Gx.of{d c cl ct ll:z4}{Q Q':qj Pc}{ks ks':Υ}(g:Go (WD d st c cl ct U) H H' (WD d st c' cl' ct' U'))(nk:NK H ks ks')(hq:∀q,q∈Q'->q∈Q\/(H q.ob=none/\H q.dl=none)):Gx (ysu d st c cl ct U ll Q ks) H H' (ysu d st c' cl' ct' U' ll Q' ks'):=by
 erw[g,λy w=>?_];rcases w with z|z|⟨q,h,z⟩|z
 .erw[(g.nw y z).imp .inl id]
 .erw[.inl (.inr (.inl z))]
 .rcases hq q h with e|⟨a,b⟩
  .erw[.inl (.inr (.inr (.inl #[q,e,z])))]
  .rcases z with z|z
   .rw[z];erw[.inr a]
   .rw[z];erw[.inr b]
 .erw[(nk y z).imp (λz=>.inr (.inr (.inr z))) id]
end
end
mutual
def ă{P:qj Pd}{q r:Pd}(hn:(P.map (·.nm)).Nodup)(hq:q∈P)(hr:r∈P)(e:q.nm=r.nm):q=r:=vf8 hn hq hr e
theorem yd7{α:Type}[DecidableEq α]:∀{l m:qj α},l.Nodup->(∀x,x∈l->x∈m)->l.length<=m.length
 |[],_,_,_=>cI _
 |x::l,m,hn,h=>by
  let a:=dJ.mp hn;let c:=h x cN;have d:l.length<=(m.erase x).length:=yd7 a.2 λy b=>(List.mem_erase_of_ne (λe=>a.1 (by rwa[<- e,b]))).mpr (h y (cM _ b));rw[List.length_erase_of_mem c]at d;have:=List.length_pos_of_mem c;rw[cD];omega
noncomputable def Pd.pc(q:Pd):Pc:=#[q.nm,q.bs,q.path,q.tx,0,0,0]
def vev(P:qj Pd):(P.map Pd.pc).map Pc.pd=P:=by rwa[cL,List.map_id _]
structure PdW(P:qj Pd):Prop where
 nd:(P.map (·.nm)).Nodup
 wf:∀q,q∈P->ToD P q.bs q.path
theorem ToD.pc{P:qj Pd}{x:Φ}(h:ToD P x L):To (P.map Pd.pc) x L:=ĩ.mp (by rwa[vev,h])
theorem ToD.at{P:qj Pd}(w:PdW P){x:Φ}(t:ToD P x L)(hj:j<L.length):∃r,r∈P/\L[j]=(r.nm,r.tx)/\r.path=L.take j/\ToD P (some r.nm) (L.take (j+1)):=by
 let#[r,d,e,c,f]:=To.at' (λq b=>by
  let#[u,a,J]:=ce.mp b;erw[(w.wf u a).pc]) t.pc hj
 let#[u,a,J]:=ce.mp d;erw[u,a,e,c,?_];have:=ĩ.mpr f;rw[vev]at this;erw[this]
def ToD.len{P:qj Pd}(w:PdW P){x:Φ}(t:ToD P x L):L.length<=P.length:=by
 let h:=yd7 (l:=L.map (·.1)) (m:=P.map (·.nm)) ?_ ?_
 .rw[bw,bw]at h;erw[h]
 .erw[List.pairwise_iff_getElem.mpr λi j f a g e=>?_];rw[bw]at f a;rw[dH,dH]at e;let#[r,b,c,d,_]:=t.at w f;let#[u,n,g1,g2,_]:=t.at w a;rw[c,g1]at e;have:=ă w.nd b n e;rw[this,g2]at d;let o:=congrArg List.length d;rw[cG,cG]at o;omega
 .intro y k;let#[z,p,J]:=ce.mp k;let#[j,a,J]:=List.mem_iff_getElem.mp p;let#[r,b,c,_]:=t.at w a;rwa[c,ce.mpr #[r,b,J]]
def Sto.pw{H:Hp}{C:Cf}{P:qj Pd}{X:Sx}(h:Sto K a H st C P X):PdW P:=#[h.nd,h.to]
structure Bs(B H:Hp)(X:Sx):Prop where
 s:yz B H
 n:∀y,X.f y->B y=none
def Bs.same{B H H':Hp}{X:Sx}(h:Bs B H X)(S:yz H H'):Bs B H' X:=#[h.s.trans S,h.n]
def Bs.but{B H H':Hp}{X:Sx}(h:Bs B H X)(ny:B y=none)(b:But y H H'):Bs B H' X:=#[λx o e=>b _ _ (h.s _ _ e) (yb e ny),h.n]
def Bs.kf{B H:Hp}{X:Sx}{x:z4}{o:HO}(h:Bs B H X)(e:B x=some o):Kf H X x o:=#[h.s _ _ e,λw=>by rw[h.n x w]at e;cases e]
def Sto.ntup{H:Hp}{C:Cf}{P:qj Pd}{X:Sx}(h:Sto K a H st C P X){x:z4}{xs:Υ}(e:H x∪xs):¬X.f x:=λw=>by
 let i:=h.sh;let#[u,m,d,c,n,p,j,r,l,o,Q,L,t,U,s,J,J]:=h;rcases w with z|z|⟨q,b,z|z⟩|z
 .erw[i.tup e z]
 .rw[z,s.lo]at e;cases e
 .rw[z,(s.pz.ob q b).1]at e;cases e
 .rw[z,(s.pz.ob q b).2]at e;cases e
 .rcases s.ch.tx.mem _ z with g|⟨q,k,g,b,_⟩
  .cases g
  .cases g;rw[b]at e;cases e
noncomputable def mdK(tu:Str->z4)(P:qj Pd):Κ:=P.map λq=>(.inr q.nm,.ref (tu q.nm))
theorem yku(tu:Str->z4):∀{P:qj Pd}{q:Pd},q∈P->jn (mdK tu P) (.inr q.nm)∣(tu q.nm)
 |r::P,q,hq=>by
  unfold jn mdK;rw[cX];by_cases e:r.nm=q.nm
  .rw[List.find?_cons_of_pos (by simp[e]),<- e];rfl
  .rw[List.find?_cons_of_neg (by simpa using e)];rcases cr.mp hq with z|z
   .erw[absurd (by rw[z]) e]
   .erw[yku tu z]
def ylp(tu:Str->z4){P:qj Pd}{b:Str}(h:∀q,q∈P->q.nm≠b):jn (mdK tu P) (.inr b)=none:=by
 unfold jn mdK;rw[List.find?_eq_none.mpr λy a=>?_]
 .rfl
 .let#[q,c,e]:=ce.mp a;rw[<- e];simpa using h q c
def DkF(H:Hp)(md:z4)(kvs:Κ):Prop:=H md=some (.dK kvs)\/∃o,H md=some (.frz o (.dK kvs))
def DkF.get{H:Hp}{kvs:Κ}(h:DkF H md kvs)(b:Str):Ļ H md (.str b) (jn kvs (.inr b)):=.inl #[kvs,.inr b,h,J,J]
structure Mdl(H:Hp)(X:Sx)(md:z4)(P:qj Pd)(tu tx:Str->z4):Prop where
 d:DkF H md (mdK tu P)
 n:¬X.f md
 t:∀q,q∈P->Kf H X (tu q.nm) (.tup [.ref (tx q.nm),baV q.bs])
 x:∀q,q∈P->Kf H X (tx q.nm) (.lst (q.tx.map V.int))
theorem Mdl.same{H H':Hp}{X:Sx}{P:qj Pd}{tx:Str->z4}(h:Mdl H X md P tu tx)(S:yz H H'):Mdl H' X md P tu tx:=#[h.d.imp (S _ _) λ⟨o,e⟩=>#[o,S _ _ e],h.n,λq a=>(h.t q a).same S,λq a=>(h.x q a).same S]
theorem Mdl.but{H H':Hp}{X:Sx}{P:qj Pd}{tx:Str->z4}(h:Mdl H X md P tu tx){o:HO}(hy:H y=some o)(ho:yl8 o=true)(ne:md≠y)(b:But y H H'):Mdl H' X md P tu tx :=
 #[h.d.imp (λe=>b _ _ e ne) λ⟨o,e⟩=>#[o,b _ _ e ne],h.n,λq a=>(h.t q a).but (λz=>by have e:=(h.t q a).1;rw[z,hy]at e;cases e;cases ho) b,λq a=>(h.x q a).but (λz=>by have e:=(h.x q a).1;rw[z,hy]at e;cases e;cases ho) b]
def Mdl.butL{H H':Hp}{X:Sx}{P:qj Pd}{tx:Str->z4}(h:Mdl H X md P tu tx){xs:Υ}(hy:H y\xs)(hx:∀q,q∈P->tx q.nm≠y)(b:But y H H'):Mdl H' X md P tu tx :=
 have c:∀{o:HO},H md=some o->yl8 o=true->md≠y:=λ{o}e f z=>by rw[z,hy]at e;cases e;cases f
 #[h.d.imp (λe=>b _ _ e (c e J)) λ⟨o,e⟩=>#[o,b _ _ e (c e J)],h.n,λq a=>(h.t q a).but (λz=>by have e:=(h.t q a).1;rw[z,hy]at e;cases e) b,λq a=>(h.x q a).but (hx q a) b]
theorem Mdl.get{H:Hp}{X:Sx}{P:qj Pd}{tx:Str->z4}(h:Mdl H X md P tu tx){q:Pd}(hq:q∈P):Ļ H md (.str q.nm) (some (.ref (tu q.nm))):=by rwa[<- yku tu hq,h.d.get q.nm]
def Mdl.getNo{H:Hp}{X:Sx}{P:qj Pd}{tx:Str->z4}(h:Mdl H X md P tu tx){b:Str}(hb:∀q,q∈P->q.nm≠b):Ļ H md (.str b) none:=by rwa[<- ylp tu hb,h.d.get b]
noncomputable def upS(g:Str->z4)(b:Str)(x:z4):Str->z4:=λs=>if s=b then x else g s
def yfp{g:Str->z4}{b:Str}{x:z4}:upS g b x b=x:=if_pos J
def yfo{g:Str->z4}{b s:Str}{x:z4}(h:s≠b):upS g b x s=g s:=if_neg h
def yen(tu:Str->z4)(P:qj Pd):((mdK tu P).map λp=>kV p.1)=(P.map (·.nm)).map V.str:=by unfold mdK;rw[cL,cL];rfl
def ytj{P:qj Pd}{q:Pd}{t:z4}(hno:∀r,r∈P->r.nm≠q.nm):ya9 (mdK tu P) (.inr q.nm) (.ref t)=mdK (upS tu q.nm t) (P++[q]):=by
 rw[π _ (ylp tu hno)];unfold mdK;rw[cy,List.map_singleton,yfp]
 congr 1
 erw[List.map_congr_left λr a=>by rw[yfo (hno r a)]]
def Mdl.put{H:Hp}{X:Sx}{t:z4}{P:qj Pd}{tx:Str->z4}{q:Pd}(h:Mdl H X md P tu tx)(hd:H md=some (.dK (mdK tu P)))(hno:∀r,r∈P->r.nm≠q.nm)(ht:Kf H X t (.tup [.ref y,baV q.bs]))(hy:Kf H X y (.lst (q.tx.map V.int))):
  Mdl (upd H md (.dK (mdK (upS tu q.nm t) (P++[q])))) X md (P++[q]) (upS tu q.nm t) (upS tx q.nm y):=by
 have f:∀{x:z4}{o:HO},yl8 o=false->Kf H X x o->Kf (upd H md (.dK (mdK (upS tu q.nm t) (P++[q])))) X x o:=λ{x o}b k=>k.but (λz=>by have e:=k.1;rw[z,hd]at e;cases e;cases b) But.upd;erw[.inl ya,h.n,λr a=>?_,λr a=>?_]
 .rcases cK.mp a with z|z
  .rw[yfo (hno r z),yfo (hno r z)];erw[f J (h.t r z)]
  .obtain rfl:=cn.mp z;rwa[yfp,yfp,f J ht]
 .rcases cK.mp a with z|z
  .rw[yfo (hno r z)];erw[f J (h.x r z)]
  .obtain rfl:=cn.mp z;rwa[yfp,f J hy]
def yn1(tu:Str->z4)(P:qj Pd)(b:Str):ã (mdK tu P) (.inr b)=mdK tu (P.filter λq=>decide (q.nm≠b)):=by
 unfold ã mdK;rw[List.filter_map]
 congr 1
 erw[List.filter_congr λq Z=>?_];by_cases e:q.nm=b
 .simp[e]
 .simp[e]
def Mdl.drop{H:Hp}{X:Sx}{P:qj Pd}{tx:Str->z4}(h:Mdl H X md P tu tx)(hd:H md=some (.dK (mdK tu P)))(b:Str):Mdl (upd H md (.dK (mdK tu (P.filter λq=>decide (q.nm≠b))))) X md (P.filter λq=>decide (q.nm≠b)) tu tx:=by have f:∀{x:z4}{o:HO},yl8 o=false->Kf H X x o->Kf (upd H md (.dK (mdK tu (P.filter λq=>decide (q.nm≠b))))) X x o:=λ{x o}c k=>k.but (λz=>by have e:=k.1;rw[z,hd]at e;cases e;cases c) But.upd;erw[.inl ya,h.n,λq a=>f J (h.t q (dg.mp a).1),λq a=>f J (h.x q (dg.mp a).1)]
theorem yez(L:Η):∀i,i<=L.length->À (txi L) i=j6 ((L.map (·.2)).take i)
 |0,_=>rfl
 |i+1,h=>by
  have a:i<(L.map (·.2)).length:=by rw[bw];omega
  rw[cH a,ĥ,<- yez L i ()];show _++dec (txi L i)=_;unfold txi;rw[cZ,bP a];rfl
def yi6(L:Η):À (txi L) L.length=j6 (L.map (·.2)):=by rw[yez L _ (cc _),db (by rwa[bw,cc _])]
def FZ.readN{H:Hp}{p:z4}{n:Nat}{kd:Ξ}{ps:Λ}{pre:Ρ}{M:Nat}{W:Ν}{Q:VK}{E:XK}{dt:z4}{d:Ρ}{mo:Nat}(h:FZ K a H p n kd ps pre M W)(hdt:H dt\(d.map V.int))(ndt:¬W dt)(hd:Byt d)(hdl:d.length<=12000)(hmo:mo<=1000)(hM:M+54*mo+200<1000000)
  (no:∀ts bs,Sgs ts->ts.length<=mo->d≠jl n kd ps pre ts++bs) (k:∀H',(∀c o,H c=some o->¬W c->H' c=some o)->E (.ref a.Ev) none H'):Ģ K a [.ref p,.ref dt,.int mo] H Q E:=by
 let#[A,f,O,m,C,D,F,J,J,J,y,l,i]:=h;erw[p,A,_,f,O,m,dt,d,mo,J,C,hdt,λz=>ndt ((i _).mpr (.inr (.inr (.inr (.inr z))))),hd,hdl,hmo,(),by rw[l];decide,by rwa[y,cI _],λN t r q s H' B g Z Z Z Z Z Z=>?_,λZ q s H' x=>k H' λc o e u=>?_]
 .rw[ROk.fa0]at g;let e:=(yig (kd:=A.kd) g).1;erw[absurd ?_ (no (rtx (fa0 A.n A.ps) d (rS A.n A.kd A.ps pre) N) (d.drop (rTL (fa0 A.n A.ps) d (rS A.n A.kd A.ps pre) N)) (ys2 _ _ _ _) (by rwa[ñ,B]))];rw[e,dS]
 .have b:¬ywy p A O c:=λw=>u ((i c).mpr w);erw[x.fr c o e (λz=>b (.inl z)) (λz=>b (.inr (.inl z))) (λz=>b (.inr (.inr (.inr (.inr z))))) λj v w=>b (.inr (.inr (.inr (.inl #[j,v,w]))))]
#synth yz9 ["self","looks"] vea
#synth ∀(K:z3)(a:Ads),∀(c dc l:z4)(n:Nat)(lk tp:Μ)(kd:Ξ)(ps:Λ)(_:vs=[.ref c,.ref l])(_:H c∩a.A3 dc [])(_:H l\(refs lk n))(_:1<=n)(_:n<=6)(_:x9 H n lk kd tp ps)(_:∀(p ll tl:z4)(W:Ν)(H':Hp),æ K a H' c dc p ll tl n kd ps [] [] 6 W->(∀x,ChW ll tl W x->H x=none)->But c H H'->(∀y xs H'',H y\xs->But y H' H''->æ K a H'' c dc p ll tl n kd ps [] [] 6 W)->Q .non H'),yjb
def ycs:'e' 8 a.I1 a.Q6 ["self","looks"] (yjb K a):=by
 exists T.Eb.F.okE,yz9,hr;let#[c,f,l,n,lk,tp,kd,ps,J,hc,hl,n1,n6,a0,k]:=h;erw[yg (vg (pv 0) (uv T.U1 (yqe T) hr.m J T.U0 T.Kc.B .nil yt (pav 1)) J) ?_,<-yg (vg (pv 0) (wk u8) J) ?_];exists 2,0,yc (vg (pv 0) (wk u8) J);intro p dp np U a5;erw[FZ.new np U hl n1 n6 a0 λW D hf nW S1 X=>#[J,?_]];let R:=S1 _ _ hc;ext;have r:upd D c (HO.ins a.A3 f ([("foreteller",V.ref p)]:Ι)) c=some (HO.ins a.A3 f ([("foreteller",V.ref p)]:Ι)):=ya;have G:But c D (upd D c (HO.ins a.A3 f ([("foreteller",V.ref p)]:Ι))):=But.upd;generalize upd D c (HO.ins a.A3 f ([("foreteller",V.ref p)]:Ι))=Z at r G⊢;exists 'l',λj hll=>?_
 exists hll,HB,SB,eB;let a6:=SB _ _ r;ext;have t:upd HB c (HO.ins a.A3 f ([("foreteller",V.ref p),("links",V.ref j)]:Ι)) c=some (HO.ins a.A3 f ([("foreteller",V.ref p),("links",V.ref j)]:Ι)):=ya;have M:But c HB (upd HB c (HO.ins a.A3 f ([("foreteller",V.ref p),("links",V.ref j)]:Ι))):=But.upd;generalize upd HB c (HO.ins a.A3 f ([("foreteller",V.ref p),("links",V.ref j)]:Ι))=HC at t M⊢;exists 'l',λC htl=>?_
 exists htl,HD,SD,eD;let a4:=SD _ _ t;ext;have i:j≠c:=(yb r hll).symm;have g:C≠c:=(yb t htl).symm;have S:HC j\[]:=M _ _ eB i
 have O:∀{x:z4},x≠c->Z x=none->H x=none:=λ{x}d e=>by
  cases z:H x with
  |none=>rfl
  |some o=>rw[G _ _ (S1 _ _ z) d]at e;cases e
 have a1:∀{x:z4},x≠c->HC x=none->Z x=none:=λ{x}d e=>by
  cases z:Z x with
  |none=>rfl
  |some o=>rw[M _ _ (SB _ _ z) d]at e;cases e
 have v:But c D (upd HD c (HO.ins a.A3 f (η (.ref p) (.ref j) (.ref C)))):=λx o e d=>ye d (SD _ _ (M _ _ (SB _ _ (G _ _ e d)) d))
 have q:∀x,W x->x≠c:=λx w z=>by
  let e:=nW x w;rw[z,hc]at e;cases e
 have I:H j=none:=O i hll;have N:H C=none:=O g (a1 g htl)
 have ς:¬W j:=λw=>by
  let#[o,e]:=hf.live _ w;rw[G _ _ e i]at hll;cases hll
 have L:¬W C:=λw=>by
  let#[o,e]:=hf.live _ w;rw[M _ _ (SB _ _ (G _ _ e g)) g]at htl;cases htl
 erw[k p j C W (upd HD c (HO.ins a.A3 f (η (.ref p) (.ref j) (.ref C)))) #[ya,?_,?_,?_,J,λw=>q c w J,ς,L,yb S htl] (λx w=>?_) (λx o e d=>v x o (S1 _ _ e) d) (λy xs H2 u b=>?_)]
 .erw[hf.frame (W2:=λx=>x=c) (λx z=>#[.ins a.A3 f [],by rwa[show x=c from z,R],.inl J]) (λx w z=>q x w z) (λx o e d=>v x o e d)]
 .erw[ye i (SD _ _ S)]
 .erw[ye g eD]
 .rcases w with z|z|z
  .rw[z];erw[I]
  .rw[z];erw[N]
  .erw[nW x z]
 .have a2:c≠y:=λz=>by rw[<- z,hc]at u;cases u
  have bG:But y D (upd H2 c (.ins a.A3 f [])):=λx o e d=>by
   by_cases z:x=c
   .rw[z,ya];rw[z,R]at e;erw[e]
   .erw[ye z (b _ _ (v x o e z) d)]
  erw[b _ _ ya a2,(X y xs _ u bG).frame (W2:=λx=>x=c) (λx z=>#[.ins a.A3 f [],by rwa[show x=c from z,ya],.inl J]) (λx w z=>q x w z) (λx o e d=>by rw[yk d]at e;erw[e]),b _ _ (ye i (SD _ _ S)) (λz=>by rw[<- z,I]at u;cases u),b _ _ (ye g eD) (λz=>by rw[<- z,N]at u;cases u),J,λw=>q c w J,ς,L,yb S htl]
#synth vai ["self","name","text"] vfg
#synth ∀(a:Ads),∀(c dc:z4)(vf:V)(ll tl:z4)(x y:V)(xs ys:Υ)(_:vs=[.ref c,x,y])(_:H c∩a.A3 dc (η vf (.ref ll) (.ref tl)))(_:H ll\xs)(_:H tl\ys)(_:ll≠tl)(_:xs.length<=10000)(_:ys.length<=10000)(_:Q .non (upd (upd H ll (.lst (xs++[x]))) tl (.lst (ys++[y])))),yn9
def yk7:'v' 1 a.Nh a.Q7 ["self","name","text"] (yn9 a):=by
 exists T.Di.F.ok,vai,B;let#[c,n,l,d,e,x,y,i,m,J,j,f,r,q,v,u,k]:=h;exists 3,0,yh (yy ('u' pfs (pav 1))) (yc (yy ('u' pfs (pav 2))));erw[jj f ?_,←xx f (ve ()) ?_];have t:(upd H d (.lst (i++[x]))) c∩a.A3 n (η l (.ref d) (.ref e)):=by rwa[yk (λz=>by rw[z,f]at j;cases j),j]
 ext;have b:(upd H d (.lst (i++[x]))) e\m:=by rwa[yk q.symm,r]
 erw[jj b ?_,←xx b (ve ()) ?_,←k]
def æ.grow{H H1:Hp}{c p ll:z4}{n:Nat}{kd:Ξ}{ps:Λ}{ks:Υ}{M M':Nat}{W:Ν}(h:æ K a H c dc p ll tl n kd ps L ks M W){nm:Str}{t:Ρ}{k:V}(hf:FZ K a H1 p n kd ps (j6 (L.map (·.2))++dec t) M' W')(g:Go W H H1 W')(hk:k=.non\/∃q,k=.ref q/\H1 q\(t.map V.int)/\¬ChW ll tl W' q):
  æ K a (upd (upd H1 ll (.lst (nmL L++[V.str nm]))) tl (.lst (ks++[k]))) c dc p ll tl n kd ps (L++[(nm,t)]) (ks++[k]) M' W'/\Go (ChW ll tl W) H (upd (upd H1 ll (.lst (nmL L++[V.str nm]))) tl (.lst (ks++[k]))) (ChW ll tl W'):=by
 let r:=g.fr _ _ h.hl h.nll;let l:=g.fr _ _ h.ht h.ntl;let A:=g.fr _ _ h.me h.nc;have i:∀{x:z4}{o:HO},H x=some o->¬W x->¬W' x:=λ{x o}e d w=>(g.nw x w).elim d λz=>by rw[e]at z;cases z
 let B:=i h.hl h.nll;let D:=i h.ht h.ntl
 have f:∀x o,H1 x=some o->¬(x=ll\/x=tl)->(upd (upd H1 ll (.lst (nmL L++[V.str nm]))) tl (.lst (ks++[k]))) x=some o:=λx o e d=>by
  rwa[yk (λz=>d (.inr z)),yk (λz=>d (.inl z)),e]
 have v:c≠ll:=λz=>by have e:=h.me;rw[z,h.hl]at e;cases e
 have s:c≠tl:=λz=>by have e:=h.me;rw[z,h.ht]at e;cases e
 erw[#[f _ _ A λz=>z.elim v s,?_,?_,ya,?_,i h.me h.nc,B,D,h.ne],#[λx o e d=>?_,λx w=>?_,λx o e=>?_]]
 .have G:j6 ((L++[(nm,t)]).map (·.2))=j6 (L.map (·.2))++dec t:=by rw[cy];exact ĥ _ _
  rwa[G,hf.frame (W2:=λx=>x=ll\/x=tl) (λx w=>?_) (λx w z=>?_) λx o e d=>f x o e d]
  .rcases w with z|z
   .exists _,by rwa[show x=ll from z,r],.inr #[_,J,λy m=>?_]
    let#[u,_,e]:=ce.mp m;erw[.inl #[u.1,e.symm]]
   .exists _,by rwa[show x=tl from z,l],.inr #[_,J,λy m=>.inr ?_]
    erw[(h.tx.mem y m).imp (λe=>by rw[e];rfl) λ⟨q,E,e,j,b⟩=>#[q,e,.inl #[E,g.fr q _ j λw=>b (.inr (.inr w))]]]
  .rcases z with z|z
   .rw[z]at w;erw[B w]
   .rw[z]at w;erw[D w]
 .rw[yk h.ne,ya];unfold nmL;rw[cy];rfl
 .refine ycw.snoc ?_ (h.tx.mono λq I e b=>#[f q _ (g.fr q _ e λw=>b (.inr (.inr w))) λz=>b (z.imp id .inl),λw=>?_])
  .erw[hk.imp id λ⟨q,e,j,b⟩=>#[q,e,f q _ j λz=>b (z.imp id .inl),b]]
  .rcases w with w|w|w
   .erw[b (.inl w)]
   .erw[b (.inr (.inl w))]
   .erw[i e (λw=>b (.inr (.inr w))) w]
 .erw[f x o (g.fr x o e λw=>d (.inr (.inr w))) λz=>d (z.imp id .inl)]
 .rcases w with w|w|w
  .erw[.inl (.inl w)]
  .erw[.inl (.inr (.inl w))]
  .erw[(g.nw x w).imp (λw=>.inr (.inr w)) id]
 .let#[C,F]:=g.lv x o e;by_cases z2:x=tl
  .erw[_,by rwa[z2,ya]]
  .by_cases z1:x=ll
   .erw[_,by rwa[z1,yk h.ne,ya]]
   .erw[C,f x C F λz=>z.elim z1 z2]
#synth yq3 ["self","name","text","data"] ["self","name","text"] vfy
#synth ∀(K:z3)(a:Ads),∀(c dc p ll tl:z4)(n:Nat)(kd:Ξ)(ps:Λ)(L:Η)(ks:Υ)(M:Nat)(W:Ν)(tx:z4)(nm:Str)(ts:Ρ)(_:vs=[.ref c,.str nm,.ref tx])(_:æ K a H c dc p ll tl n kd ps L ks M W)(_:L.length<=1000)(_:ä H tx ts 1000)(_:¬W tx)(_:M+6*(dec ts).length+20<1000000)(_:∀(r:z4)(W':Ν)(H':Hp),H r=none->H' r\((jl n kd ps (j6 (L.map (·.2))) ts).map V.int)->æ K a H' c dc p ll tl n kd ps (L++[(nm,ts)]) (ks++[.non]) (M+6*(dec ts).length) W'->Go (ChW ll tl W) H H' (ChW ll tl W')->Q (.ref r) H'),yg4
def yyh:'v' 8 a.Ni a.Q8 ["self","name","text"] (yg4 K a):=by
 exists T.Kl.F.ok,yq3,v;let#[c,u,p,x,t,n,G,I,L,D,M,W,U,nm,S,J,b,Y,e,l,C,k]:=h;let R:=b.me;let y:=b.tx.len;exists 3,1,yh (pst 3 yq3.nd (xp (va7 T) v.m T.Rp (pac pfs (pav 2)))) (yh (yy (ww (pv 0) T.An T.Di.m (yk7 T) v.m T.Di.B .nil vv (pac (pv 1) (pa1 z6)))) (yc (ym (pv 3))));erw[b.fz.press e l C λr X Z d j O g=>?_];let o:=g.fr _ _ b.hl b.nll;let i:=g.fr _ _ b.ht b.ntl;let q:=g.fr _ _ b.me b.nc;ext;erw[c,u,_,x,t,_,_,_,_,J,q,o,i,b.ne,by unfold nmL;rw[bw];omega,(),?_]
 let#[z,g2]:=b.grow (nm:=nm) O g (.inl J);ext;erw[k r X _ d ?_ z g2];rwa[yk (yb b.ht d).symm,yk (yb b.hl d).symm,j]
#synth ylg ["self","name","data","most","first"] ["self","name","data","most"] vgd
#synth ∀(K:z3)(a:Ads),∀(c dc p ll tl:z4)(n:Nat)(kd:Ξ)(ps:Λ)(L:Η)(ks:Υ)(M:Nat)(W:Ν)(dt:z4)(nm:Str)(ts bs:Ρ)(mo:Nat)(_:vs=[.ref c,.str nm,.ref dt,.int mo])(_:æ K a H c dc p ll tl n kd ps L ks M W)(_:L.length<=1000)(_:Sgs ts)(_:H dt\((jl n kd ps (j6 (L.map (·.2))) ts++bs).map V.int))(_:¬W dt)(_:Byt bs)(_:(jl n kd ps (j6 (L.map (·.2))) ts++bs).length<=12000)(_:ts.length<=mo)(_:mo<=1000)(_:M+54*mo+200<1000000)(_:∀(q:z4)(W':Ν)(H':Hp),H q=none->æ K a H' c dc p ll tl n kd ps (L++[(nm,ts)]) (ks++[.ref q]) (M+6*(dec ts).length) W'->Go (ChW ll tl W) H H' (ChW ll tl W')->Q (.int ((jl n kd ps (j6 (L.map (·.2))) ts).length:Nat)) H'),ybt
inductive yg3(K:z3)(a:Ads)(vs:Υ)(H:Hp)(E':VK)(E:XK):Prop
 |mk(c dc p ll tl:z4)(n:Nat)(kd:Ξ)(ps:Λ)(L:Η)(ks:Υ)(M:Nat)(W:Ν)(dt:z4)(nm:Str)(d:Ρ)(mo:Nat)(_:vs=[.ref c,.str nm,.ref dt,.int mo])(_:æ K a H c dc p ll tl n kd ps L ks M W)(_:H dt\(d.map V.int))(_:¬W dt)(_:Byt d)(_:d.length<=12000)(_:mo<=1000)(_:M+54*mo+200<1000000)(_:(∀ts bs,Sgs ts->ts.length<=mo->d≠jl n kd ps (j6 (L.map (·.2))) ts++bs))(_:∀H',(∀x o,H x=some o->¬W x->H' x=some o)->E (.ref a.Ev) none H')
def vkn(K:z3)(a:Ads):Sp:=λvs H Q E=>ybt K a vs H Q E\/yg3 K a vs H Q E
def Á:'e' 11 a.I2 a.J0 ["self","name","data","most"] (vkn K a):=by
 erw[T.Fi.F.okE ylg (λvs H Q E h=>?_) (λa3 A O s H vs Q E D h=>?_)]
 .rcases h with⟨c,v,p,r,o,n,y,C,L,x,M,W,S,nm,ts,bs,G,rfl,_⟩|⟨c,v,p,r,o,n,y,C,L,x,M,W,S,nm,d,G,rfl,_⟩
  .rfl
  .rfl
 .rcases h with⟨c,v,p,r,o,n,y,C,L,x,M,W,S,nm,ts,bs,G,rfl,b,hz,Z,e,f,I,l,R,j,ς,k⟩|⟨c,v,p,r,o,n,y,C,L,x,M,W,S,nm,d,G,rfl,b,e,f,hd,l,j,ς,no,k⟩
  .let U:=b.me;let a2:=b.tx.len;exists 4,1,yh (pst 4 ylg.nd (uh (yp3 T) D.m T.Kk yt (pac pfs (pac (pv 2) (pav 3))))) (yh (yy (ww (pv 0) T.An T.Di.m (yk7 T) D.m T.Di.B .nil vv (pac (pv 1) (pa1 (pix zt (pv 4) yf))))) (yc (ym (pix zt (pv 4) yf))));erw[b.fz.read (xu _) Z e f I l R j ς λt q W' H1 u i ht hq hf g nq=>?_];let a0:=g.fr _ _ b.hl b.nll;let X:=g.fr _ _ b.ht b.ntl;let a1:=g.fr _ _ b.me b.nc;ext;erw[t,_,0,_,J,J,SqT.of ht,J,?_];ext;exists c,v,_,r,o,_,_,_,_,J,a1,a0,X,b.ne,by unfold nmL;rw[bw];omega,(),?_
   have N:¬ChW r o W' q:=λw=>by
    rcases w with w|w|w
    .erw[yb b.hl i w.symm]
    .erw[yb b.ht i w.symm]
    .erw[nq w]
   let#[z,g2]:=b.grow (nm:=nm) hf g (.inr #[q,J,hq,N])
   have Y:(upd (upd H1 r (.lst (nmL L++[V.str nm]))) o (.lst (x++[V.ref q]))) t∪[.ref q,.int ((jl n y C (j6 (L.map (·.2))) ts).length:Nat)]:=by
    rwa[yk (yb b.ht u).symm,yk (yb b.hl u).symm,ht]
   ext;erw[t,_,1,_,J,J,SqT.of Y,J,?_,<-k q W' _ i z g2]
  .let U:=b.me;exists 4,1,yh (pst 4 ylg.nd (uh (yp3 T) D.m T.Kk yt (pac pfs (pac (pv 2) (pav 3))))) (yh (yy (ww (pv 0) T.An T.Di.m (yk7 T) D.m T.Di.B .nil vv (pac (pv 1) (pa1 (pix zt (pv 4) yf))))) (yc (ym (pix zt (pv 4) yf))));erw[b.fz.readN e f hd l j ς no k]
def yx9:'e' 11 a.I2 a.J0 ["self","name","data","most"] (ybt K a):=(Á T).imp λZ Z Z Z h=>.inl h
#synth var ["thing"] vdy
#synth ∀(K:z3),∀(x n:_)(_:vs=[x])(_:u6 K H x (.type n))(_:(∀s,x=.str s->s.length<=100000))(_:∀H',yz H H'->Q (.bl (nmV x)) H'),yix
def yzo:'v' 1 a.Nj a.Q9 ["thing"] (yix K):=by
 exists T.Rs.F.ok,var,u;let#[x,n,J,b,d,k]:=h;exists 1,0,yc (ym (u7 (pcB wq T.A5 (pac (pv 0) (pa1 (j3 (T:="str") J T.Ft 'r')))) (u7 (Ü ι ι yf (pcB xj T.A9 (pav 0)) (vy J T.Dy)) (je (pcB (zx J) T.D1 (pa1 (vt (js:=[]) (ys:=[]) J (yga (pv 0)) (λC t r v=>(xm ybx (pv 0) (zi J T.Cy) (by with_unfolding_all rfl))) J J (hyc:=yu) (hrel:=yu))))))));erw[ĸ b (yn0 b) ?_];ext;by_cases hn:n="str"
 .obtain⟨s',rfl⟩:∃s',x=.str s':=by
   cases b with
   |str s'=>erw[s',rfl]
   |_=>erw[absurd hn ∅]
  let d:=d s' J;rwa[cg hn,j4 ?_];ext;erw[s',J,cO d ∅,?_,<-1,(s'.length:Int),J,J,_,J,?_];by_cases h1:(1:Int)<=(s'.length:Int)
  .erw[ō h1 ?_];erw[(s'.length:Int),8,J,J,_,J,?_];by_cases h8:(s'.length:Int)<=8
   .erw[ō h8 ?_];ext;erw[s',J,λD j=>?_];refine Ð (λi=>.bl (yhp (s'.cps.toList.getD i 0))) j (λi c G p q S g=>?_) (λG S g=>?_)
    .ext;erw[_,_,J,J,?_];refine Mp.doneR j (dR (show s'.cps.size<=100000 from d) ∅) q S g ?_
     have o:s'.cps.toList.getD i 0=c:=by
      rw[cZ,Array.getElem?_toList,p];rfl
     rw[o];unfold yhp;rfl
    .ext;exists D,s'.cps.toList.map yhp,J,?_,?_
     .erw[SqL.of (g.trans ?_)];rw[ys5]
     .let e:=vaj h1 h8;rwa[<- e,k _ S]
   .let e:=yz6 h8;rw[e]at k;erw[ycv h8 (k _ (yz.refl _))]
  .let e:=yyk h1;rw[e]at k;erw[ycv h1 ?_,<-_,J,uo (k _ (yz.refl _))]
 .have e:nmV x=false:=by
   cases b with
   |str s'=>erw[absurd J hn]
   |_=>rfl
  rw[cj hn];rw[e]at k;erw[uo (k _ (yz.refl _))]
#synth yym ["thing"] vft
#synth ∀(K:z3)(C:z4),∀(x n:_)(_:vs=[x])(_:u6 K H x (.type n))(_:(∀s,x=.str s->s.length<=100000))(_:(nmV x=true->∀H',yz H H'->Q x H'))(_:(nmV x=false->∀H',yz H H'->E (.ref C) none H')),ym2
def yf0:'e' 2 a.Nk a.Qa ["thing"] (ym2 K a.Al):=by
 exists T.Fj.F.okE,yym,i;let#[x,n,J,j,k,d,f]:=h;exists 1,0,yh (vj (xn (xo (xp (yzo T) i.m T.Rs (pav 0)))) (yc (xa J T.Li T.Lk (pa1 y8))) yq) (yc (ym (pv 0)));erw[x,n,J,j,k,λl c=>?_];ext
 cases hx:nmV x with
 |false =>
  ext;exists 'l',f hx _ c
 |true =>
  ext;erw[d hx _ c]
#synth yxy ["thing"] vd5
#synth ∀(K:z3)(C:z4),∀(x n:_)(_:vs=[x])(_:u6 K H x (.type n))(_:(∀s,x=.str s->s.length<=100000))(_:((x=.non\/nmV x=true)->∀H',yz H H'->Q .non H'))(_:(x≠.non->nmV x=false->∀H',yz H H'->E (.ref C) none H')),yns
def vah:'e' 3 a.Nl a.Qc ["thing"] (yns K a.Al):=by
 exists T.Rt.F.okE,yxy,k;let#[x,n,J,l,o,e,i]:=h;exists 1,0,yc (vj (yp ĭ (pv 0) z6 (yw _)) (yc (yy (uh (yf0 T) k.m T.Fj yt (pav 0)))) yq);by_cases hx:x=.non
 .subst hx;ext;erw[e (.inl J) _ (yz.refl _)]
 .ext;rwa[cj hx,j4 ?_];ext;erw[x,n,J,l,o,λc f b=>?_,λc f b=>i hx c f b,←e (.inr c) _ b]
#synth yy5 ["self","base","data"] vfo
#synth ∀(a:Ads),∀(p dp:z4)(x y:V)(_:vs=[.ref p,x,y])(_:H p∩a.Ab dp [])(_:∀H',H' p∩a.Ab dp (į x y)->But p H H'->Q .non H'),ymo
def ypr:'v' 1 a.I3 a.Qd ["self","base","data"] (ymo a):=by exists T.Km.F.ok,yy5,j;let#[p,b,x,y,J,i,k]:=h;exists 3,0,yh (vg (pv 0) (pv 1) J) (yc (vg (pv 0) (pv 2) J));have d:upd H p (HO.ins a.Ab b ([("base",x)]:Ι)) p=some (HO.ins a.Ab b ([("base",x)]:Ι)):=ya;have e:But p H (upd H p (HO.ins a.Ab b ([("base",x)]:Ι))):=But.upd;generalize upd H p (HO.ins a.Ab b ([("base",x)]:Ι))=l at d e⊢;ext;erw[k _ ya (e.trans But.upd)]
#synth yy4 ["self","looks","most"] vgf
#synth ∀(K:z3)(a:Ads),∀(p ds l:z4)(mo w:Nat)(n:Nat)(lk tp:Μ)(kd:Ξ)(ps:Λ)(_:vs=[.ref p,.ref l,.int mo])(_:H p∩a.A0 ds [])(_:H l\(refs lk n))(_:1<=n)(_:n<=6)(_:x9 H n lk kd tp ps)(_:mo<=1000)(_:w<=mo)(_:w<=200)(_:∀(ll d c dc q cl ct:z4)(U:Ν)(H':Hp),jw K a H' p ds ll d c dc q cl ct lk tp n kd ps mo w [] [] [] U->(∀x,StW c cl ct U x->H x=none)->H ll=none->H d=none->But p H H'->(∀y xs H'',H y\xs->But y H' H''->jw K a H'' p ds ll d c dc q cl ct lk tp n kd ps mo w [] [] [] U)->Q .non H'),yb7
def yqp:'e' 10 a.I4 a.Gq ["self","looks","most"] (yb7 K a):=by
 exists T.Tu.okE,yy4,hr;let#[p,j,l,v,w,n,lk,tp,kd,ps,J,S,hl,ς,n6,W,Z,a6,a2,k]:=h;erw[yg (vg (pv 0) (uh (yp4 T) hr.m T.K8 yt (pav 1)) J) ?_,<-yg (yy (uh (vhh T) hr.m T.Tp yt (pav 2))) ?_,<-yg (vg (pv 0) (pv 2) J) ?_,<-yg (vg (pv 0) Ĉ J) ?_];exists 3,0,yc (vg (pv 0) (uv T.Cd (ycs T) hr.m J T.Cc T.Eb.B .nil yt (pa1 pfs)) J);erw[vfq hl (by rwa[v8,ς]) (by rwa[v8,n6]) W.lks λg H1 F a8 u=>?_];let ah:=u _ _ S;ext;have ag:upd H1 p (HO.ins a.A0 j ([("looks",V.ref g)]:Ι)) p=some (HO.ins a.A0 j ([("looks",V.ref g)]:Ι)):=ya;have BA:But p H1 (upd H1 p (HO.ins a.A0 j ([("looks",V.ref g)]:Ι))):=But.upd;generalize upd H1 p (HO.ins a.A0 j ([("looks",V.ref g)]:Ι))=HA at ag BA⊢;erw[.int v,"int",J,.int _,λB=>?_,λz=>by rw[yxt Z]at z;cases z]
 ext;have Y:upd HA p (HO.ins a.A0 j ([("looks",V.ref g),("most",V.int v)]:Ι)) p=some (HO.ins a.A0 j ([("looks",V.ref g),("most",V.int v)]:Ι)):=ya;have BB:But p HA (upd HA p (HO.ins a.A0 j ([("looks",V.ref g),("most",V.int v)]:Ι))):=But.upd;generalize upd HA p (HO.ins a.A0 j ([("looks",V.ref g),("most",V.int v)]:Ι))=HB at Y BB⊢;intro d hd0;exists hd0,HC,SC,eC;let aj:=SC _ _ Y;ext;have r:upd HC p (HO.ins a.A0 j ([("looks",V.ref g),("most",V.int v),("pieces",V.ref d)]:Ι)) p=some (HO.ins a.A0 j ([("looks",V.ref g),("most",V.int v),("pieces",V.ref d)]:Ι)):=ya;have BD:But p HC (upd HC p (HO.ins a.A0 j ([("looks",V.ref g),("most",V.int v),("pieces",V.ref d)]:Ι))):=But.upd;generalize upd HC p (HO.ins a.A0 j ([("looks",V.ref g),("most",V.int v),("pieces",V.ref d)]:Ι))=X at r BD⊢;have L:∀x o,H1 x=some o->x≠p->X x=some o:=λx o e t=>BD _ _ (SC _ _ (BB _ _ (BA _ _ e t) t)) t
 have K0:∀x,x≠p->X x=none->H x=none:=λx t e=>by
  cases z:H x with
  |none=>rfl
  |some o=>rw[L _ _ (u _ _ z) t]at e;cases e
 have a1:g≠p:=(yb S F).symm;have D:d≠p:=(yb Y hd0).symm;let C:=L _ _ a8 a1;have O:X d=some (.dK []):=BD _ _ eC D
 have ac:x9 X n lk kd tp ps:=λi hi=>by
  let#[q,e,R,M,h3]:=W i hi;erw[q,e,L _ _ (u _ _ R) (xf R S 'z'),L _ _ (u _ _ M) (xf M S 'z'),h3]
 erw[p,_,j,_,_,J,r,T.A1,T.B0,J,?_];ext;intro c dc nc aa ak;have SQ:yz X (upd (upd X dc (.own c)) c (.ins a.A3 dc [])):=λb o e=>by rwa[yk (yb e nc),yk (yb e aa),e]
 erw[c,dc,g,n,lk,tp,kd,ps,J,ya,SQ _ _ C,ς,n6,ac.same SQ,λq cl ct U HE af a5 BE a9=>#[J,?_]];have I:yz X HE:=λb o e=>BE _ _ (SQ _ _ e) (yb e nc);let a4:=I _ _ r
 have N:∀x,StW c cl ct U x->X x=none:=λx w=>by
  rcases w with z|z
  .rw[z];erw[nc]
  .erw[SQ.free (a5 x z)]
 have a0:¬StW c cl ct U p:=λw=>by have e:=N _ w;rw[r]at e;cases e
 have a3:H d=none:=by
  cases z:H d with
  |none=>rfl
  |some o=>rw[BB _ _ (BA _ _ (u _ _ z) D) D]at hd0;cases hd0
 ext;erw[k g d c dc q cl ct U _ #[ya,ς,n6,ye a1 (I _ _ C),λi hi=>?_,#[ye D (I _ _ O),λq f=>(by cases f),List.nodup_nil,λq f=>(by cases f),λq f=>(by cases f),cI _,λq f=>(by cases f)],af.but a4 a0 But.upd,λx hx w=>?_,Z,#[a6,a2],#[none,J]] (λx w=>?_) F ?_ (λx o e t=>ye t (I _ _ (L _ _ (u _ _ e) t))) (λy xs H2 G b=>?_)]
 .let#[q,e,R,M,h3]:=W i hi;let ς:=xf R S 'z';let n2:=xf M S 'z';erw[q,e,ye ς (I _ _ (L _ _ (u _ _ R) ς)),ye n2 (I _ _ (L _ _ (u _ _ M) n2)),h3]
 .let e:=N _ w;rcases hx with z|z|z|⟨q,f,_⟩
  .rw[z,r]at e;cases e
  .rw[z,C]at e;cases e
  .rw[z,O]at e;cases e
  .cases f
 .erw[K0 x (λz=>a0 (z ▸ w)) (N x w)]
 .erw[a3]
 .have a7:p≠y:=λz=>by rw[<- z,S]at G;cases G
  let ae:=SQ _ _ (L _ _ (u _ _ G) a7.symm)
  have bG:But y HE (upd H2 p (HO.ins a.A0 j ([("looks",V.ref g),("most",V.int v),("pieces",V.ref d)]:Ι))):=λx o e t=>by
   by_cases z:x=p
   .rw[z,ya];rw[z,a4]at e;erw[e]
   .erw[ye z (b _ _ (ye z e) t)]
  let ad:=a9 y xs _ ae bG;let ai:=u _ _ G;erw[b _ _ ya a7,ς,n6,b _ _ (ye a1 (I _ _ C)) (λz=>by rw[<- z,F]at G;cases G),λi hi=>?_,#[b _ _ (ye D (I _ _ O)) (λz=>by rw[<- z,a3]at G;cases G),λq f=>(by cases f),List.nodup_nil,λq f=>(by cases f),λq f=>(by cases f),cI _,λq f=>(by cases f)],ad.but ya a0 (λx o e t=>by rw[yk t]at e;erw[e]),λx hx w=>?_,Z,#[a6,a2],#[none,J]]
  .let#[q,e,R,M,h3]:=W i hi;let ς:=xf R S 'z';let n2:=xf M S 'z';erw[q,e,b _ _ (ye ς (I _ _ (L _ _ (u _ _ R) ς))) (xf R G 'z'),b _ _ (ye n2 (I _ _ (L _ _ (u _ _ M) n2))) (xf M G 'z'),h3]
  .let e:=N _ w;rcases hx with z|z|z|⟨q,f,_⟩
   .rw[z,r]at e;cases e
   .rw[z,C]at e;cases e
   .rw[z,O]at e;cases e
   .cases f
def Sto.new{H:Hp}{l:z4}{mo w n:Nat}{lk:Μ}{kd:Ξ}{ps:Λ}{Q:VK}{E:XK}(hst0:H st=none)(hds0:H ds=none)(hlo:H l\(refs lk n))(n1:1<=n)(n6:n<=6)(hR:x9 H n lk kd tp ps)(m1:mo<=1000)(wm:w<=mo)(w2:w<=200)
  (k:∀X H',Sto K a H' st #[n,kd,ps,mo,w] [] X->yz H H'->(∀y,X.f y->H y=none)->(∀y xs H'',H y\xs->But y H' H''->Sto K a H'' st #[n,kd,ps,mo,w] [] X)->Q .non H'):yb7 K a [.ref st,.ref l,.int mo] (upd (upd H ds (.own st)) st (.ins a.A0 ds [])) Q E:=by
 have g:yz H (upd (upd H ds (.own st)) st (.ins a.A0 ds [])):=λb o e=>by rwa[yk (yb e hst0),yk (yb e hds0),e]
 erw[st,ds,l,mo,w,n,lk,tp,kd,ps,J,ya,g _ _ hlo,n1,n6,hR.same g,m1,wm,w2,λu d c v p t x U B j s h m C r=>k _ B #[ds,u,d,c,v,p,t,x,lk,tp,[],[],[],U,j,J,J] (λy o e=>C _ _ (g _ _ e) (yb e hst0)) (λy i=>?_) λy xs A i b=>#[ds,u,d,c,v,p,t,x,lk,tp,[],[],[],U,r y xs A (g _ _ i) b,J,J]];rcases i with(z|z|z)|z|⟨q,hq,_⟩|z
 .rw[z];erw[g.free m]
 .rw[z];erw[hst0]
 .erw[g.free (s y z)]
 .rw[z];erw[g.free h]
 .cases hq
 .cases z
#synth yxm ["self"] vf6
#synth ∀(a:Ads),∀(st ds ll:z4)(vm vp vc:V)(xs:Υ)(_:vs=[.ref st])(_:H st∩a.A0 ds (wc (.ref ll) vm vp vc))(_:H ll\xs)(_:∀l H',H l=none->H' l\xs->yz H H'->Q (.ref l) H'),yb8
def yqh:'v' 1 a.Nm a.Qe ["self"] (yb8 a):=by exists T.Fk.F.ok,yxm,r;let#[q,p,e,o,m,i,n,J,f,c,k]:=h;exists 1,0,yc (ym (pcT xk T.Aq (pa1 pfs)));erw[e,_,J,.inl (SqL.of c),λl b=>?_,<-k l _ b ya (y7 b)]
def Sto.tlooks{H:Hp}{C:Cf}{P:qj Pd}{X:Sx}{Q:VK}{E:XK}(h:Sto K a H st C P X)(k:∀l lk tp H',H l=none->H' l\(refs lk C.n)->x9 H' C.n lk C.kd tp C.ps->yz H H'->Q (.ref l) H'):yb8 a [.ref st] H Q E:=by let#[g,b,d,c,j,p,i,o,lk,tp,m,L,q,U,s,J,J]:=h;erw[st,g,b,_,_,_,_,J,s.me,s.lo,λl H' f e S=>k l lk tp H' f e (s.row.same S) S]
#synth yyn ["self"] vf5
#synth ∀(a:Ads),∀(st ds:z4)(vl vm vp vc:V)(_:vs=[.ref st])(_:H st∩a.A0 ds (wc vl vm vp vc))(_:Q vm H),yfk
def vcg:'v' 1 a.Nn a.Qf ["self"] (yfk a):=by exists T.Kn.F.ok,yyn,n;let#[m,l,i,j,g,e,J,c,k]:=h;exists 1,0,yc (ym pfs);erw[k]
def Sto.tmost{H:Hp}{C:Cf}{P:qj Pd}{X:Sx}{Q:VK}{E:XK}(h:Sto K a H st C P X)(k:Q (.int C.mo) H):yfk a [.ref st] H Q E:=by let#[b,g,d,c,i,p,e,m,f,l,j,L,n,U,s,J,J]:=h;erw[st,b,_,_,_,_,J,s.me,k]
#synth vcu ["self"] vey
#synth ∀(a:Ads),∀(st ds d:z4)(vl vm vc:V)(P:qj Pc)(_:vs=[.ref st])(_:H st∩a.A0 ds (wc vl vm (.ref d) vc))(_:H d=some (.dK (pcs P)))(_:P.length<=60)(_:∀l H',H l=none->H' l\(P.map λq=>V.str q.nm)->yz H H'->Q (.ref l) H'),yfi
def yf6:'v' 1 a.No a.Qg ["self"] (yfi a):=by
 exists T.C9.F.ok,vcu,u;let#[t,r,d,n,o,j,P,J,g,f,v,k]:=h;exists 1,0,yc (ym (pcT (ð J) T.Aq (pa1 pfs)));erw[d,_,J,f,λl b=>?_];have e:(pcs P).map (λp=>kV p.1)=P.map λq=>V.str q.nm:=by unfold pcs;rw[cL];rfl
 rwa[e,k l _ b ya (y7 b)]
def Sto.names{H:Hp}{C:Cf}{P:qj Pd}{X:Sx}{Q:VK}{E:XK}(h:Sto K a H st C P X)(k:∀l H',H l=none->H' l\(P.map λq=>V.str q.nm)->yz H H'->Q (.ref l) H'):yfi a [.ref st] H Q E:=by let#[g,m,d,c,n,p,i,r,j,o,e,L,t,U,s,J,J]:=h;erw[st,g,d,_,_,_,e,J,s.me,s.pz.dk,s.pz.z,λl H' f b S=>k l H' f ?_ S];rwa[cL,b]
#synth vay ["self","text"] vfa
#synth ∀(a:Ads),∀(st ds tx:z4)(vl vp vc:V)(mo:Int)(xs:Υ)(_:vs=[.ref st,.ref tx])(_:H st∩a.A0 ds (wc vl (.int mo) vp vc))(_:H tx\xs)(_:((xs.length:Int)<=mo->Q .non H))(_:(¬(xs.length:Int)<=mo->E (.ref a.Av) none H)),yub
def vb0:'e' 1 a.Nq a.Qi ["self","text"] (yub a):=by
 exists T.Kp.F.okE,vay,t;let#[l,q,p,n,m,g,k,o,J,e,c,d,i]:=h;exists 2,0,yc (vj (yp yhj (pcB yr T.A9 (pav 1)) pfs (yw _)) (yc (xa J T.Hk T.Hl (pa1 y8))) yq);erw[zd (SqL.of c) ?_,←z9 (λr=>?_) (λr=>?_)]
 .ext;exists 'l',i ()
 .erw[d ()]
#synth yze ["self","name"] ve6
#synth ∀(K:z3)(a:Ads),∀(st ds d:z4)(vl vm vc:V)(n:Nat)(kd:Ξ)(ps:Λ)(w:Nat)(P:qj Pc)(x:V)(nt:String)(_:vs=[.ref st,x])(_:H st∩a.A0 ds (wc vl vm (.ref d) vc))(_:Ũ a H d n kd ps w P)(_:u6 K H x (.type nt))(_:(∀s,x=.str s->s.length<=100000))(_:(nmV x=false->∀H',yz H H'->E (.ref a.Al) none H'))(_:(∀b,x=.str b->nmS b=true->(∀q,q∈P->q.nm≠b)->∀H',yz H H'->E (.ref a.A2) none H'))(_:(∀r,r∈P->x=.str r.nm->nmS r.nm=true->∀H',yz H H'->Q (.ref r.ob) H')),vbb
def š:'e' 3 a.Nt a.Qk ["self","name"] (vbb K a):=by
 exists T.B9.F.okE,yze,k;let#[L,C,d,I,R,M,n,v,y,w,P,x,t,J,g,O,ς,D,u,N,B]:=h;exists 2,0,yh (vj (ĵ (j9 (jk k) (uh (yf0 T) k.m T.Fj yt (pav 1)) pfs)) (yc (xa J T.Ee T.Hm (pa1 y8))) yq) (yc (ym (γ (jk k) pfs (pv 1) (λZ Z=>rfl))));erw[x,t,J,ς,D,λi p f=>?_,λi p f=>u i p f];let#[b,J,l]:=vak i;let o:=f _ _ g;let c:=O.same f;ext;rcases vdm P b with⟨r,e,rfl⟩|q
 .erw[d,_,J,c.get e,?_];erw[false,J,uo ?_,←d,_,J,c.get e,?_,<-B r e J l _ f]
 .erw[d,_,J,c.getNo q,?_];erw[true,J,j4 ?_];ext;exists 'l',N b J l q _ f
#synth yxu ["self","name","base"] vdl
#synth ∀(K:z3)(a:Ads),∀(st ds d:z4)(vl vm vc:V)(n:Nat)(kd:Ξ)(ps:Λ)(w:Nat)(P:qj Pc)(b:Str)(x:Φ)(_:vs=[.ref st,.str b,baV x])(_:H st∩a.A0 ds (wc vl vm (.ref d) vc))(_:Ũ a H d n kd ps w P)(_:(∀y,x=some y->nmS y=true/\y.length<=100000))(_:((∃r,r∈P/\r.nm=b)->E (.ref a.Af) none H))(_:((∀q,q∈P->q.nm≠b)->(∀y,x=some y->(∀q,q∈P->q.nm≠y)->∀H',yz H H'->E (.ref a.A2) none H')/\(∀L,To P x L->(P.length=60->∀H',yz H H'->E (.ref a.D8) none H')/\(P.length≠60->∀H',yz H H'->Q .non H')))),ytg
def yqo:'e' 4 a.Nr a.Qj ["self","name","base"] (ytg K a):=by
 exists T.Fl.F.okE,yxu,I;let#[L,C,d,ς,N,M,n,u,v,w,P,b,x,J,f,g,Z,R,k2]:=h;exists 3,0,yh (vj (ĵ (yqy (jk I) (pv 1) pfs)) (yc (xa J T.Gy T.Lv (pa1 y8))) yq) (yh (vj (yp ĭ (pv 2) z6 (yw _)) (yc (yy (y6 (pv 0) T.A1 T.B9.m (š T) I.m T.B9.B .nil yt (pav 2)))) yq) (yc (vj (yp w6 (pcB ybw T.A9 (pa1 pfs)) (vy J T.Ea) (yw _)) (yc (xa J T.Sh T.Si (pa1 y8))) yq)));rcases vdm P b with⟨r,c,rfl⟩|G
 .erw[d,_,J,g.get c,?_];erw[true,J,j4 ?_];ext;exists 'l',R #[r,c,J]
 .erw[d,_,J,g.getNo G,?_];erw[false,J,uo ?_];let#[X,O]:=k2 G;have U:(pcs P).length=P.length:=bw _;ext
  cases x with
  |none =>
   erw[ypf (λY=>?_) (λz=>absurd J z)];let#[p,q]:=O [] J;ext;erw[d,_,J,g.dk,?_,←z9 (λt=>?_) (λt=>?_)]
   .ext;exists 'l',p () _ (yz.refl _)
   .ext;erw[q () _ (yz.refl _)]
  |some y =>
   erw[ypf (λz=>nomatch z) (λY=>?_)]
   let#[j,k]:=Z y J;ext;erw[L,C,d,ς,N,M,n,u,v,w,P,.str y,"str",J,f,g,.str y,(λs e=>by cases e;erw[k]),(λz=>by rw[show nmV (.str y)=nmS y from rfl,j]at z;cases z),(λb e Y o H' S=>by cases e;erw[X y J o H' S]),λr c e Y H1 i=>?_];obtain rfl:y=r.nm:=by cases e;rfl
   let#[p,q]:=O _ #[r,c,J,J];let D:=i _ _ f;ext;erw[d,_,J,i _ _ g.dk,?_,←z9 (λt=>?_) (λt=>?_)]
   .ext;exists 'l',p () _ i
   .ext;erw[q () _ i]
#synth ylz ["self","name","links"] ["self","name"] vdk
#synth ∀(a:Ads),∀(st ds d:z4)(vl vm vc:V)(n:Nat)(kd:Ξ)(ps:Λ)(w:Nat)(P:qj Pc)(x:Φ)(L:Η)(_:vs=[.ref st,baV x])(_:H st∩a.A0 ds (wc vl vm (.ref d) vc))(_:Ũ a H d n kd ps w P)(_:To P x L)(_:∀(l:z4)(H':Hp),H l=none->H' l\(nmL L)->yz H H'->Q (.ref l) H'),yoe
def yqj:'v' 1 a.Nu a.Ql ["self","name"] (yoe a):=by
 exists T.Fm.F.ok,ylz,hr;let#[ς,ds,d,vl,vm,vc,n,U,W,w,P,x,L,J,p,v,I,k]:=h;exists 2,1,yh (pst 2 ylz.nd (wk u8)) (yh (ψ PassesOwn.never (yp ĭ (pv 1) z6 (yw _)) (yh (yy ('u' (pv 2) (pav 1))) (yc (pst 1 ylz.nd (zu (γ (jk hr) pfs (pv 1) (λF F=>rfl)) J))))) (yh (yy (yci PySem.F.plainAttrs_list PySem.F.slot_list_reverse PySem.F.type_list_reverse Ř (pv 2))) (yc (ym (pv 2)))));exists 'l',λl c=>?_
 ext
 erw[λm σ' G=>∃(y:Φ)(R S:Η),σ'=[some (.ref ς),some (baV y),some (.ref l)]/\To P y R/\R++S=L/\G l\(nmL S).reverse/\yz H G/\m=R.length,
  #[_,x,L,[],J,I,dQ L,ya,y7 c,J],?_]
 rintro m σ2 G ⟨y,R,S,rfl,N,i,f,B,rfl⟩;let O:=B _ _ p;let a0:=v.same B;let C:=To.len v I;have Y:S.length<=61:=by rw[<- i,bY]at C;omega
 ext
 cases y with
 |none =>
  erw[ypf (λF=>?_) (λz=>absurd J z)];have e:S=L:=by rw[show R=[]from N]at i;erw[i]
  ext;erw[jj f ?_,←yby f ?_];rw[List.reverse_reverse,e];ext;erw[k l _ c ya λb o z=>ye (yb z c) (B _ _ z)]
 |some b =>
  erw[ypf (λz=>nomatch z) (λF=>?_)]
  let#[r,j,J,t]:=N;erw[_,λσ' H' z=>z,?_,←jj f ?_,←xx f (ve (by unfold nmL;rw[List.length_reverse,bw];omega)) ?_];have g:yz H (upd G l (HO.lst ((nmL S).reverse++[baV (some r.nm)]))):=λb o e=>ye (yb e c) (B _ _ e);have u:upd G l (HO.lst ((nmL S).reverse++[baV (some r.nm)])) l=some (HO.lst ((nmL S).reverse++[baV (some r.nm)])):=ya;generalize upd G l (HO.lst ((nmL S).reverse++[baV (some r.nm)]))=G' at g u⊢;let M:=g _ _ p;let q:=v.same g;let Z:=(q.ob r j).1;ext;erw[d,_,J,q.get j,?_,←r.path.length,?_,r.bs,r.path,(r.nm,r.tx)::S,J,v.wf r j,?_,?_,g,rfl]
  .rw[t,bY,df];omega
  .rw[<- i,t,cJ];rfl
  .rw[yt0];erw[u]
#synth ylw ["self","name","links","link"] ["self","name"] vei
#synth ∀(K:z3)(a:Ads),∀(st ds ll d c dc p cl ct:z4)(lk tp:Μ)(n:Nat)(kd:Ξ)(ps:Λ)(mo w:Nat)(P:qj Pc)(L:Η)(ks:Υ)(U:Ν)(x:Φ)(L':Η)(_:vs=[.ref st,baV x])(_:jw K a H st ds ll d c dc p cl ct lk tp n kd ps mo w P L ks U)(_:To P x L')(_:∀(c' dc' p' cl' ct':z4)(ks':Υ)(U':Ν)(H':Hp),jw K a H' st ds ll d c' dc' p' cl' ct' lk tp n kd ps mo w P L' ks' U'->Go (StO st c cl ct U) H H' (StO st c' cl' ct' U')->NK H ks ks'->(V.non∈ks'->V.non∈ks.take L'.length)->Q (.ref c') H'),ygr
def yk0:'e' 12 a.Nv a.Qm ["self","name"] (ygr K a):=by
 exists T.Dj.F.okE,ylw,hr;let#[R,ds,ll,d,c,dc,p,cl,ct,lk,tp,n,kd,ps,mo,w,P,L,ks,U,x,t,J,N,hL,k]:=h;let a7:=N.me;erw[yg (pst 2 ylw.nd (ww (pv 0) T.A1 T.Fm.m (yqj T) hr.m T.Fm.B .nil vv (pav 1))) ?_,<-yg (Ã (vj (yp (yly hr.units) (zu pfs J) (x8 ju (pv 2) zj (ut (pcB yr T.A9 (pa1 (zu pfs J))))) (yw _)) (yc (vg (pv 0) (uv T.Cd (ycs T) hr.m J T.Cc T.Eb.B .nil yt (pa1 pfs)) J)) yq)) ?_,<-yg (PS.nox (uc PassesOwn.never J (wg (x8 ju (pv 2) (ut (pcB yr T.A9 (pa1 (zu pfs J)))) zj)) (vz (i:=3) ylw.nd J (Or.inl J)) (yc (yy (y6 pfs T.An T.Fi.m (yx9 T) hr.m T.Fi.B .nil vn (pac (pv 3) (pac (zu (γ (jk hr) pfs (pv 3) (λB B=>rfl)) J) (pa1 pfs)))))))) ?_];exists 2,2,yc (ym pfs);erw[R,ds,d,_,_,_,n,kd,ps,w,P,x,t,J,a7,N.pz,hL,λl H1 ay a6 S1=>?_];let ar:=S1 _ _ a7;let ae:=N.same S1;let aE:=ae.ch.me;let aa:=ae.ch.hl;let#[y,hy]:=N.way;let as:=To.len N.pz hL;let ax:=To.len N.pz hy;ext;erw[λσ2 G=>∃(S O p2 f j:z4)(I:Υ)(U2:Ν)(C:Η),σ2=[some (.ref R),some (baV x),some (.ref l),none]/\jw K a G R ds ll d S O p2 f j lk tp n kd ps mo w P C I U2/\Go (StO R c cl ct U) H G (StO R S f j U2)/\C=t.take C.length/\C.length<=t.length/\G l\(nmL t)/\NK H ks I/\(V.non∈I->V.non∈ks.take t.length),?_,?_]
 .ext;erw[zd (SqL.of aa) ?_,←ya6 (SqL.of a6) λq hq0=>?_];rw[Ë,jp,ĉ];exists hq0,H2,S2,e2;let a5:=S1.trans S2;let M:=N.same a5;let a4:=M.me;let Z:=S2 _ _ a6;rw[ô]at e2;let a3:=M.ch.hl;rw[ô]at a3;erw[ypu _ _ (hy.ok N.pz) (λz hz=>hL.ok N.pz z (by let#[u,hu,J]:=ce.mp hz;erw[ce.mpr #[u,dn hu,J]])) (SqL.of a3) (SqL.of e2) ?_];by_cases he:L.map (·.1)=(t.take L.length).map (·.1)
  .rw[cg he];erw[false,J,uo ?_];let e3:=To.ahead N.pz.nd N.pz.wf hy hL (by rwa[ĉ,ypt he]);let e4:=congrArg List.length e3;rw[cG]at e4;erw[c,dc,p,cl,ct,ks,U,L,J,M,Go.refl.same a5,e3,(),Z,.refl,λz=>by rwa[db (by rw[N.ch.tx.len];omega),z]]
  .rw[cj he];erw[true,J,j4 ?_];ext;intro c' X nc a8 aA;have SQ:yz H2 (upd (upd H2 X (.own c')) c' (.ins a.A3 X [])):=λb o e=>by rw[yk (yb e nc),yk (yb e a8)];exact e
   erw[c',X,ll,n,lk,tp,kd,ps,J,ya,SQ _ _ M.lo,M.n1,M.n6,M.row.same SQ,λp' ap af U' HE a2 ad BE B=>#[J,?_]];let#[hR,gR,SE,hN]:=M.re nc a8 a2 ad BE;let au:=SE _ _ a4;ext
   erw[c',X,p',ap,af,[],U',[],J,hR,gR.ahead a5,J,cI _,ye (λz=>by rw[z,a4]at Z;cases Z) (SE _ _ Z),.nil,λz=>nomatch z]
 .rintro σ2 G ⟨S,O,p2,f,j,I,U2,C,rfl,hG,go,al,ak,ai,ao,ah⟩;let aw:=hG.me;let aD:=hG.ch.me;let ac:=hG.ch.hl;ext;erw[zd (SqL.of ac) ?_,←ya6 (SqL.of ai) λq hq0=>?_];rw[Ë,yod];let S1:=y7 (o:=(HO.lst ((nmL t).drop C.length))) hq0;have e1:upd G q (HO.lst ((nmL t).drop C.length)) q=some (HO.lst ((nmL t).drop C.length)):=ya;generalize upd G q (HO.lst ((nmL t).drop C.length))=G1 at S1 e1⊢
  have am:∀W F,Go (StO R S f j U2) G1 F (StO R S f j W)->jw K a G R ds ll d S O p2 f j lk tp n kd ps mo w P C I U2->F q=some (HO.lst ((nmL t).drop C.length)):=λW F g hG=>g.fr _ _ e1 λw=>by
   let#[o,e]:=hG.lvO q w;rw[hq0]at e;cases e
  erw[q,J,#[_,SqL.of e1],ug (K:=K) (a:=q) (xs:=(nmL t).drop C.length) (λi σ2 F=>∃(v:Ψ)(D:Υ)(W:Ν),σ2=[some (.ref R),some (baV x),some (.ref l),v]/\jw K a F R ds ll d S O p2 f j lk tp n kd ps mo w P (t.take (C.length+i)) D W/\Go (StO R S f j U2) G1 F (StO R S f j W)/\NK G1 I D/\(V.non∈D->V.non∈I)) ?_ ?_ ?_ ?_]
  .rw[Nat.add_zero,<- al];erw[none,I,U2,J,hG.same S1,Go.refl,.refl,id]
  .rintro i σ2 F _ ⟨v,D,W,rfl,ς,g,a1,Y⟩;erw[SqL.of (am W F g hG)]
  .rintro i z σ2 F hz ⟨v,D,W,rfl,ς,g,a1,Y⟩
   have hj:C.length+i<t.length:=by
    rcases Nat.lt_or_ge (C.length+i) t.length with z|z
    .erw[z]
    .rw[cT (by rw[dE,Ë];omega)]at hz;cases hz
   let#[r,a0,e3,e4,e5]:=hL.at' N.pz.wf hj
   obtain rfl:z=.str r.nm:=by
    rw[List.getElem?_drop,ô,cL,ci,bP hj,e3]at hz;cases hz;rfl
   let a9:=ς.me;let aB:=ς.ch.me;let#[av,ab]:=ς.pz.ob r a0;ext;erw[d,_,J,ς.pz.get a0,?_];ext;let an:=ς.pz.sz r a0;let hb:=ς.wm;let hm:=yk3 (L:=t.take (C.length+i)) (w:=w) (λy hy=>(hL.sz N.pz y (dn hy)).2) hb.2 (by rw[cG];omega);let aj:=ς.mo1;let az:=Ú (n:=n) (kd:=kd) (ps:=ps) (pre:=j6 ((t.take (C.length+i)).map (·.2))) (ts:=r.tx) ς.n1 ς.n6 (xu _) ();erw[S,O,p2,f,j,n,kd,ps,t.take (C.length+i),D,mOf (t.take (C.length+i)),W,r.dl,r.nm,r.tx,[],mo,J,ς.ch,by rw[cG];omega,an.1,?_,λw=>ς.nw r.dl (.inr (.inr (.inr #[r,a0,.inr J]))) (.inr (.inr (.inr w))),(λb hb=>by cases hb),by rw[dQ];omega,(),aj,(),λq3 U4 F2 ag a2 g2=>?_]
   .rw[dQ,<- e4];erw[ab]
   rw[<- yet,<- e3,<- cH hj]at a2;let#[h4,g4]:=ς.go a2 g2 #[_,e5];ext;erw[_,_,U4,J,h4,g.trans g4,a1.app (λq e=>by cases e;erw[g.free ag]),λz=>Y ((cK.mp z).elim id λy=>by cases cn.mp y)]
  .rintro σ2 F ⟨v,D,W,rfl,ς,g,a1,Y⟩;rw[dE,Ë,Nat.add_sub_cancel' ak,cU]at ς;let a9:=ς.me;ext;erw[k S O p2 f j D W F ς (go.trans (g.ahead S1)) (ao.trans a1 λq e=>go.free (S1.free e)) λz=>ah (Y z)]
def æ.lvW{H:Hp}{c p ll:z4}{n:Nat}{kd:Ξ}{ps:Λ}{ks:Υ}{M:Nat}{W:Ν}(h:æ K a H c dc p ll tl n kd ps L ks M W):∀x,StW c ll tl W x->∃o,H x=some o:=λx b=>by
 rcases b with z|z|z|z
 .erw[_,by rwa[z,h.me]]
 .erw[_,by rwa[z,h.hl]]
 .erw[_,by rwa[z,h.ht]]
 .erw[h.fz.live x z]
def æ.butM{H H':Hp}{c p ll:z4}{n:Nat}{kd:Ξ}{ps:Λ}{ks:Υ}{M:Nat}{W:Ν}(h:æ K a H c dc p ll tl n kd ps L ks M W){o:HO}(hq:H q=some o)(ho:yl8 o=true)(nq:¬StW c ll tl W q)(B:But q H H'):æ K a H' c dc p ll tl n kd ps L ks M W:=by
 have b:∀{x:z4}{d:Υ},H x\d->x≠q:=λ{x d}e z=>by rw[z,hq]at e;cases e;cases ho
 erw[B _ _ h.me λz=>nq (.inl z.symm),h.fz.frame (W2:=λx=>x=q) (λx z=>#[o,by rwa[show x=q from z,hq],.inl ho]) (λx w z=>nq (.inr (.inr (.inr (by rwa[<- show x=q from z,w]))))) (λx o e f=>B x o e f),B _ _ h.hl (b h.hl),B _ _ h.ht (b h.ht),h.tx.mono λx d e g=>#[B _ _ e (b e),g],h.nc,h.nll,h.ntl,h.ne]
def To.more{P:qj Pc}{q:Pc}{x:Φ}(h:To P x L):To (P++[q]) x L:=by
 cases x with
 |none=>erw[h]
 |some b =>
  let#[r,a,e]:=h;erw[r,du _ a,e]
end
section
variable{H H1 H2 H3:Hp}{ll d c p cl ct:z4}{lk:Μ}{n:Nat}{kd:Ξ}{ps:Λ}{mo w:Nat}{P:qj Pc}{ks ks':Υ}
def jw.put(h:jw K a H st ds ll d c dc p cl ct lk tp n kd ps mo w P L ks U){b:Str}{x:Φ}{r ob od:z4}(hc:æ K a H1 c dc p cl ct n kd ps (L++[(b,ts)]) ks' (mOf L+6*(dec ts).length) U')(g:Go (ChW cl ct U) H H1 (ChW cl ct U'))(hr0:H r=none)(hr:H1 r\((jl n kd ps (j6 (L.map (·.2))) ts).map V.int))(hob0:H1 ob=none)(S:yz H1 H2)(hob:H2 ob∩a.Ab od (į (baV x) (.ref r)))
  (hL:To P x L) (hL6:L.length<=60) (hts:Sgs ts) (htz:ts.length<=w) (hb1:nmS b=true) (hb2:PyData.strOk b=true) (hno:∀q,q∈P->q.nm≠b) (hP:P.length<60):
  jw K a (upd H2 d (.dK (pcs (P++[#[b,x,L,ts,ob,od,r]])))) st ds ll d c dc p cl ct lk tp n kd ps mo w (P++[#[b,x,L,ts,ob,od,r]]) (L++[(b,ts)]) ks' U'/\Go (λy=>y=d\/StO st c cl ct U y) H (upd H2 d (.dK (pcs (P++[#[b,x,L,ts,ob,od,r]])))) (λy=>y=d\/StO st c cl ct U' y):=by
 have g1:Go (StW c cl ct U) H H1 (StW c cl ct U'):=g.or (Y:=λx=>x=c);have f:∀x o,H x=some o->(x=st\/x=ll\/x=d\/∃q,q∈P/\(x=q.ob\/x=q.dl))->H2 x=some o:=λx o e C=>S _ _ (g1.fr x o e (h.nw x C));let k:=f _ _ h.me (.inl J);let m:=f _ _ h.lo (.inr (.inl J));let j:=f _ _ h.pz.dk (.inr (.inr (.inl J)));let u:=g1.apart (λx C=>h.lv x C) h.nw;have t:x9 H2 n lk kd tp ps:=h.row.fr λx ς e=>S _ _ (g1.fr _ _ e (h.ch.noTup e));have v:æ K a H2 c dc p cl ct n kd ps (L++[(b,ts)]) ks' (mOf (L++[(b,ts)])) U':=by rwa[yet,hc.same S]
 have B:¬StW c cl ct U' ob:=λz=>by
  let#[o,e]:=hc.lvW ob z;rw[hob0]at e;cases e
 have I:¬StW c cl ct U' r:=λz=>by
  rcases z with z|z|z|z
  .rw[z,h.ch.me]at hr0;cases hr0
  .rw[z,h.ch.hl]at hr0;cases hr0
  .rw[z,h.ch.ht]at hr0;cases hr0
  .erw[hc.fz.sh.ints hr (ye8 h.n1 h.n6 (xu _)) z]
 erw[#[ye (λz=>by rw[z,j]at k;cases k) k,h.n1,h.n6,ye (λz=>by rw[z,j]at m;cases m) m,t.fr λx ς e=>ye (λz=>by rw[z,j]at e;cases e) e,#[ya,λq i=>?_,?_,λq i=>?_,λq i=>?_,?_,λq i=>?_],v.butM j J (u d (.inr (.inr (.inl J)))) But.upd,λy s=>?_,h.mo1,h.wm,#[some b,_,cQ _ (cn.mpr J),J,J]],#[λy o e F=>?_,λy z=>?_,λy o e=>?_]]
 .rcases cK.mp i with z|z
  .let D:=f _ _ (h.pz.ob q z).1 (.inr (.inr (.inr #[q,z,.inl J])));let l:=f _ _ (h.pz.ob q z).2 (.inr (.inr (.inr #[q,z,.inr J])));erw[ye (λz=>by rw[z,j]at D;cases D) D,ye (λz=>by rw[z,j]at l;cases l) l]
  .obtain rfl:=cn.mp z;let l:=S _ _ hr;erw[ye (λz=>by rw[show ob=d from z,j]at hob;cases hob) hob,ye (λz=>by rw[show r=d from z,j]at l;cases l) l]
 .rw[cy];erw[List.nodup_append.mpr #[h.pz.nd,'s',λy s z E e=>?_]];let#[q,i,J]:=ce.mp s;rw[List.map_singleton,cn]at E;erw[hno q i (e.trans E)]
 .rcases cK.mp i with z|z
  .erw[(h.pz.wf q z).more]
  .obtain rfl:=cn.mp z;erw[hL.more]
 .rcases cK.mp i with z|z
  .erw[h.pz.sz q z]
  .obtain rfl:=cn.mp z;erw[hts,htz,hL6,λy s=>hL.sz h.pz y s]
 .rw[bY,df];omega
 .rcases cK.mp i with z|z
  .erw[h.pz.nm q z]
  .obtain rfl:=cn.mp z;erw[hb1,hb2]
 .rcases s with z|z|z|⟨q,i,z⟩
  .erw[u y (.inl z)]
  .erw[u y (.inr (.inl z))]
  .erw[u y (.inr (.inr (.inl z)))]
  .rcases cK.mp i with A|A
   .erw[u y (.inr (.inr (.inr #[q,A,z])))]
   .obtain rfl:=cn.mp A;rcases z with z|z
    .rw[z];erw[B]
    .rw[z];erw[I]
 .erw[ye (λz=>F (.inl z)) (S _ _ (g1.fr y o e λz=>F (.inr (.inr z))))]
 .rcases z with z|z|z
  .erw[.inl (.inl z)]
  .erw[.inl (.inr (.inl z))]
  .erw[(g1.nw y z).imp (λz=>.inr (.inr z)) id]
 .let#[M,G]:=g1.lv y o e;by_cases z:y=d
  .erw[_,by rwa[z,ya]]
  .erw[M,ye z (S _ _ G)]
end
mutual
#synth yls ["self","name","text","base","signs","data"] ["self","name","text","base"] vd9
inductive ypl(K:z3)(a:Ads)(vs:Υ)(H:Hp)(Q:VK)(E:XK):Prop
 | mk(st ds ll d c dc p cl ct:z4)(lk tp:Μ)(n:Nat)(kd:Ξ)(ps:Λ)(mo w:Nat)(P:qj Pc)(L:Η)(ks:Υ)(U:Ν)(b:Str)(x:Φ)(tx:z4)(ts:Ρ)(_:vs=[.ref st,.str b,.ref tx,baV x])(_:jw K a H st ds ll d c dc p cl ct lk tp n kd ps mo w P L ks U)(_:nmS b=true)(_:PyData.strOk b=true)(_:ä H tx ts 1000)(_:(∀y,x=some y->nmS y=true))(_:P.length<60)(_:(mo<ts.length->∀H',yz H H'->E (.ref a.Av) none H'))(_:(ts.length<=mo->(∃r,r∈P/\r.nm=b)->∀H',yz H H'->E (.ref a.Af) none H'))(_:(ts.length<=mo->(∀q,q∈P->q.nm≠b)->∀y,x=some y->(∀q,q∈P->q.nm≠y)->∀H',yz H H'->E (.ref a.A2) none H'))(_:(ts.length<=mo->(∀q,q∈P->q.nm≠b)->∀L',To P x L'->ts.length<=w/\L'.length<=60/\
 ∀(ob od dl c' dc' p' cl' ct':z4)(ks':Υ)(U':Ν)(H':Hp),jw K a H' st ds ll d c' dc' p' cl' ct' lk tp n kd ps mo w (P++[#[b,x,L',ts,ob,od,dl]]) (L'++[(b,ts)]) ks' U'->H ob=none->H dl=none->Go (λy=>y=d\/StO st c cl ct U y) H H' (λy=>y=d\/StO st c' cl' ct' U' y)->NK H ks ks'->Q .non H'))
def yyt:'e' 13 a.I5 a.Gr ["self","name","text","base"] (ypl K a):=by
 exists T.Tv.okE,yls,D;let#[R,ds,ll,d,c,dc,p,cl,ct,lk,tp,n,kd,ps,mo,w,P,L,ks,U,b,x,tx,ts,J,W,X,ah,u,G,aj,kL,kT,kN,k]:=h;let ax:=W.me;erw[yg (yy (uh (yf0 T) D.m T.Fj yt (pav 1))) ?_,<-yg (pst 4 yls.nd (uh (yo7 T) D.m T.Ju yt (pav 2))) ?_,<-yg (yy (uh (vah T) D.m T.Rt yt (pav 3))) ?_,<-yg (yy (y6 (pv 0) T.A1 T.Kp.m (vb0 T) D.m T.Kp.B .nil yt (pav 4))) ?_,<-yg (yy (y6 (pv 0) T.A1 T.Fl.m (yqo T) D.m T.Fl.B .nil yt (pac (pv 1) (pav 3)))) ?_,<-yg (pst 5 yls.nd (ww (y6 (pv 0) T.A1 T.Dj.m (yk0 T) D.m T.Dj.B .nil yt (pav 3)) T.An T.Kl.m (yyh T) D.m T.Kl.B .nil vv (pac (pv 1) (pav 4)))) ?_,<-_,(yc (ī (jk D) pfs (pv 1) (Ê T.Gu (ypr T) D.m J T.Gt T.Km.B .nil vv (pac (pv 3) (pav 5))) J)),?_];exists 4,2;let aw:=wj X;have C:∀y,x=some y->nmS y=true/\y.length<=8:=λy e=>#[G y e,wj (G y e)];let ak:=W.wm;let aq:=W.mo1;ext;erw[.str b,"str",J,.str b,(λs e=>by cases e;omega),λB H1 S1=>?_,λz=>by rw[show nmV (.str b)=nmS b from rfl,X]at z;cases z]
 let g:=u.same S1;ext;erw[.ref tx,_,J,.lst g.l,.inr #[ts.map V.int,yat g.l g.s (by have:=g.z;omega),λsg H2 a5 a4 S2=>?_]];ext
 have N:∃nt,u6 K H2 (baV x) (.type nt):=by
  cases x with
  |none=>erw[_,.non]
  |some y=>erw[_,.str y]
 let#[nt,N]:=N
 have ag:baV x=.non\/nmV (baV x)=true:=by
  cases x with
  |none=>erw[.inl J]
  |some y=>erw[.inr (C y J).1]
 erw[baV x,nt,J,N,(λs e=>?_),λB H3 S3=>?_,λz1 z2=>absurd ag λz=>z.elim z1 λz=>by rw[z2]at z;cases z]
 .cases x with
  |none=>cases e
  |some y=>cases e;have:=(C _ J).2;omega
 let t:=S1.trans (S2.trans S3);let a2:=W.same t;let F:=a2.me;let ς:=S3 _ _ a4;ext;erw[R,ds,sg,_,_,_,mo,_,J,F,ς,λi=>?_,λz=>kL (by rw[bw]at z;omega) _ t];have i:ts.length<=mo:=by rw[bw]at i;omega
 ext;erw[R,ds,d,_,_,_,n,kd,ps,w,P,b,x,J,F,a2.pz,(λy e=>#[(C y e).1,by have:=(C y e).2;omega]),(λhx=>kT i hx _ t),λv=>#[λy e af H4 S4=>kN i v y e af _ (t.trans S4),λL' hL=>#[λz=>absurd z (),λB H4 S4=>?_]]];let#[an,ab,k]:=k i v L' hL;let j:=t.trans S4;let a8:=W.same j;let as:=a8.me;let I:=S4 _ _ ς;ext;erw[R,ds,ll,d,c,dc,p,cl,ct,lk,tp,n,kd,ps,mo,w,P,L,ks,U,x,L',J,a8,hL,λc' a3 p' S M am U' H5 O g5 ap B=>?_];let aA:=O.ch.me
 have a1:¬StO R c cl ct U sg:=λz=>by
  let#[o,e]:=W.lvO sg z;rw[S1.free a5]at e;cases e
 let a9:=g5.fr _ _ I a1;have a7:¬StO R c' S M U' sg:=λz=>(g5.nw sg z).elim a1 λe=>by rw[I]at e;cases e
 let hm:=yk3 (L:=L') (w:=w) (λy hy=>(hL.sz W.pz y hy).2) ak.2 ();let ay:=xv ts;let au:=u.z;ext;erw[c',a3,p',S,M,n,kd,ps,L',am,mOf L',U',sg,b,ts,J,O.ch,(),#[a9,u.s,()],λz=>a7 (.inr (.inr (.inr (.inr z)))),(),λr U6 H6 a6 ae al g6=>?_]
 let ai:=g6.fr _ _ O.me λz=>O.nw R (.inl J) (.inr z);let ac:=g6.fr _ _ O.pz.dk λz=>O.nw d (.inr (.inr (.inl J))) (.inr z);ext;intro Z od f aa av;have SQ:yz H6 (upd (upd H6 od (.own Z)) Z (.ins a.Ab od [])):=λb o e=>by rwa[yk (yb e f),yk (yb e aa),e]
 erw[Z,od,baV x,.ref r,J,ya,λH7 a0 B7=>#[J,?_]];have S7:yz H6 H7:=λy o e=>B7 _ _ (SQ _ _ e) (yb e f);let ar:=S7 _ _ ai;ext;erw[d,_,J,yhs.k (k:=.inr b) (S7 _ _ ac) (ve (by unfold pcs;rw[bw];omega)),?_];rw[π _ (ylt v)];let#[z1,z2]:=O.put (x:=x) al g6 a6 ae f S7 a0 hL ab u.s an X ah v aj;have e8:pcs (P++[#[b,x,L',ts,Z,od,r]])=pcs P++[(.inr b,.ref Z)]:=by unfold pcs;rw[cy];rfl
 rw[e8]at z1 z2;have ad:∀{y:z4},H6 y=none->H y=none:=λ{y}e=>j.free (g5.free (g6.free e))
 erw[k Z od r c' a3 p' S M _ U6 _ z1 (ad f) (j.free (g5.free a6)) (((g5.ahead j).or (Y:=λy=>y=d)).trans z2) ((NK.refl.trans ap λB e=>j.free e).app λq e=>nomatch e)]
def Sto.putE{H:Hp}{C:Cf}{P:qj Pd}{X:Sx}{Q:VK}{E:XK}(h:Sto K a H st C P X){b:Str}{x:Φ}{tx:z4}(hb:okN b)(htx:ä H tx ts 1000)(hx:∀y,x=some y->nmS y=true)(hP:P.length<60)
  (kL:C.mo<ts.length->∀H',yz H H'->E (.ref a.Av) none H') (kT:ts.length<=C.mo->(∃r,r∈P/\r.nm=b)->∀H',yz H H'->E (.ref a.Af) none H') (kN:ts.length<=C.mo->(∀q,q∈P->q.nm≠b)->∀y,x=some y->(∀q,q∈P->q.nm≠y)->∀H',yz H H'->E (.ref a.A2) none H')
  (k:ts.length<=C.mo->(∀q,q∈P->q.nm≠b)->∀L,ToD P x L->ts.length<=C.w/\L.length<=60/\∀Y H',Sto K a H' st C (P++[#[b,x,L,ts]]) Y->Gx X H H' Y->Q .non H'):ypl K a [.ref st,.str b,.ref tx,baV x] H Q E:=by
 let#[G,ς,d,c,R,p,cl,ct,F,I,m,L0,S,U,s,J,J]:=h;rw[bw]at hP
 have A:∀{z:Str},(∀q,q∈m->q.nm≠z)->∀q,q∈m.map Pc.pd->q.nm≠z:=λ{z}hz q o=>by
  let#[u,hu,J]:=ce.mp o;erw[hz u hu]
 erw[st,G,ς,d,c,R,p,cl,ct,F,I,C.n,C.kd,C.ps,C.mo,C.w,m,L0,S,U,b,x,tx,ts,J,s,hb.1,hb.2,htx,hx,hP,kL,(λf ⟨r,hr,e⟩=>kT f #[r.pd,ce.mpr #[r,hr,J],e]),(λf j y e h3=>kN f (A j) y e (A h3)),λf j L Z=>?_];let#[M,k2,k]:=k f (A j) L (ĩ.mpr Z);erw[M,k2,λob od dl O D p' v i l T H' N t B g nk=>k _ H' #[G,ς,d,O,D,p',v,i,F,I,_,_,l,T,N,by rw[cy];rfl,J] (Gx.of g nk λq o=>?_)];rcases cK.mp o with z|z
 .erw[.inl z]
 .rw[cn.mp z];erw[.inr #[t,B]]
def Fr(F:Ν)(H H':Hp):Prop:=∀y o,H y=some o->¬F y->H' y=some o
def Rfs(a:Ads)(c:z4):Prop:=c=a.Ha\/c=a.Bj\/c=a.Al\/c=a.Af\/c=a.D8\/c=a.Ev
structure PGo(C:Cf)(P:qj Pd)(b:Str)(L:Η)(d ts bs:Ρ):Prop where
 nm:nmS b=true
 no:∀q,q∈P->q.nm≠b
 z:P.length<60
 s:Sgs ts
 l:ts.length<=C.mo
 e:d=jl C.n C.kd C.ps (j6 (L.map (·.2))) ts++bs
#synth ykx ["self","name","data","base","chain","own"] ["self","name","data","base"] vd4
#synth ∀(K:z3)(a:Ads),∀(st dt:z4)(C:Cf)(P:qj Pd)(X:Sx)(b:Str)(x:Φ)(L:Η)(d:Ρ)(_:vs=[.ref st,.str b,.ref dt,baV x])(_:Sto K a H st C P X)(_:PyData.strOk b=true)(_:b.length<=1000)(_:H dt\(d.map V.int))(_:¬X.f dt)(_:Byt d)(_:d.length<=12000)(_:(∀ts bs,PGo C P b L d ts bs->ts.length<=C.w))(_:ToD P x L)(_:(∀ts bs,PGo C P b L d ts bs->∀Y H',Sto K a H' st C (P++[#[b,x,L,ts]]) Y->Gx X H H' Y->Q (.int ((jl C.n C.kd C.ps (j6 (L.map (·.2))) ts).length:Nat)) H'))(_:((∀ts bs,¬PGo C P b L d ts bs)->∀c H',Rfs a c->Fr X.f H H'->E (.ref c) none H')),ys8
def yx0:'e' 13 a.Np a.Qh ["self","name","data","base"] (ys8 K a):=by
 exists T.Ko.F.okE,ykx,O;let#[i,dt,C,P,X,b,x,L',da,J,a7,aw,aG,ay,ai,ao,an,aB,a4,kQ,kE]:=h
 have av:∀y,x=some y->nmS y=true/\y.length<=100000:=λy e=>by
  subst e;let#[r,O,e,_]:=a4;let h1:=(a7.nm r O).1;rw[e]at h1;have:=wj h1;erw[h1,()]
 let aP:=a4.len a7.pw;let#[Z,R,d,c,dc,p,cl,ct,lk,tp,Qs,L,ks,U,hS,J,J]:=id a7;let hL:=ĩ.mp a4;have aI:(Qs.map Pc.pd).length=Qs.length:=bw _;let aH:=hS.pz.z;let aK:=hS.me;let az:=hS.wm;let a1:=hS.mo1;erw[yg (yy (uh (yf0 T) O.m T.Fj yt (pav 1))) ?_,<-yg (yy (y6 (pv 0) T.A1 T.Fl.m (yqo T) O.m T.Fl.B .nil yt (pac (pv 1) (pav 3)))) ?_,<-yg (pst 4 ykx.nd (y6 (pv 0) T.A1 T.Dj.m (yk0 T) O.m T.Dj.B .nil yt (pav 3))) ?_,<-yg (vg (pv 0) (uv T.Cd (ycs T) O.m J T.Cc T.Eb.B .nil yt (pa1 pfs)) J) ?_,<-yg (pst 5 ykx.nd (y6 (pv 4) T.An T.Fi.m (Á T) O.m T.Fi.B .nil yt (pac (pv 1) (pac (pv 2) (pa1 pfs))))) ?_,<-yg (vg (pv 0) (pv 4) J) ?_,<-yg (ī (jk O) pfs (pv 1) (Ê T.Gu (ypr T) O.m J T.Gt T.Km.B .nil vv (pac (pv 3) (pa1 (x8 ju (pv 2) zj (ut (pv 5)))))) J) ?_];exists 4,2,yc (ym (pv 5));erw[.str b,"str",J,.str b,(λs e=>by cases e;omega),λaq H1 S1=>?_,λz H1 S1=>kE (λt I g=>by rw[show nmV (.str b)=nmS b from rfl,g.nm]at z;cases z) _ _ (.inr (.inr (.inl J))) λy o e F=>S1 _ _ e];let am:=hS.same S1;let ac:=am.me;ext;erw[i,Z,d,_,_,_,C.n,C.kd,C.ps,C.w,Qs,b,x,J,ac,am.pz,av,(λ⟨r,O,e⟩=>kE (λt I g=>g.no _ (ce.mpr #[r,O,J]) e) _ _ (.inr (.inr (.inr (.inl J)))) λy o e F=>S1 _ _ e),λa6=>#[λy e no=>?_,λL2 aO=>#[λz H2 S2=>kE (λt I g=>by have:=g.z;omega) _ _ (.inr (.inr (.inr (.inr (.inl J))))) λy o e F=>S2 _ _ (S1 _ _ e),λz H2 S2=>?_]]]
 .subst e;let#[r,O,e,_]:=hL;erw[absurd e (no r O)]
 let aa:=S1.trans S2;let ae:=hS.same aa;let aF:=ae.me;ext;erw[i,Z,R,d,c,dc,p,cl,ct,lk,tp,C.n,C.kd,C.ps,C.mo,C.w,Qs,L,ks,U,x,L',J,ae,hL,λc' a5 p' D v ah U' H5 h5 g5 aD F=>?_];let N:=g5.ahead aa;let a2:=h5.me;let M:=h5.nw i (.inl J);ext;intro c2 a3 nc au aL;have SQ:yz H5 (upd (upd H5 a3 (.own c2)) c2 (.ins a.A3 a3 [])):=λb o e=>by rwa[yk (yb e nc),yk (yb e au),e]
 erw[c2,a3,R,C.n,lk,tp,C.kd,C.ps,J,ya,SQ _ _ h5.lo,h5.n1,h5.n6,h5.row.same SQ,λp2 aM aS U2 HE F F BE F=>#[J,?_]];have SE:yz H5 HE:=λb o e=>BE _ _ (SQ _ _ e) (yb e nc);let af:=SE _ _ a2;ext;have b6:But i HE (upd HE i (.ins a.A0 Z (wc (.ref R) (.int C.mo) (.ref d) (.ref c2)))):=But.upd;have j:upd HE i (.ins a.A0 Z (wc (.ref R) (.int C.mo) (.ref d) (.ref c2))) i∩a.A0 Z (wc (.ref R) (.int C.mo) (.ref d) (.ref c2)):=ya;generalize upd HE i (.ins a.A0 Z (wc (.ref R) (.int C.mo) (.ref d) (.ref c2)))=H6 at b6 j⊢;let a8:=(h5.ch.same SE).but af M b6;let aN:=a8.me
 have nW:∀{y:z4}{o:HO},H y=some o->¬(ysu d i c cl ct U R Qs ks).f y->H6 y=some o/\¬StW c' D v U' y:=λ{y o}e nf=>by
  let h1:=N.fr y o e λw=>nf (.inl (.inr w));erw[b6 _ _ (SE _ _ h1) λz=>nf (.inl (.inr (.inl z))),λw=>?_];rcases N.nw y (.inr w)with z|z
  .erw[nf (.inl (.inr z))]
  .rw[e]at z;cases z
 let#[S,W]:=nW ay ai;let hm:=yk3 (L:=L') (w:=C.w) (λy hy=>(hL.sz hS.pz y hy).2) az.2 ();ext;by_cases hg:∃t I,Sgs t/\t.length<=C.mo/\da=jl C.n C.kd C.ps (j6 (L'.map (·.2))) t++I
 .let#[t,I,a9,aj,J]:=hg
  have ak:PGo C (Qs.map Pc.pd) b L' (jl C.n C.kd C.ps (j6 (L'.map (·.2))) t++I) t I:=#[aq,λq hq=>by
   let#[u,hu,J]:=ce.mp hq;erw[a6 u hu],(),a9,aj,J]
  let aR:=aB t I ak;erw[.inl #[c',a5,p',D,v,C.n,C.kd,C.ps,L',ah,mOf L',U',dt,b,t,I,C.mo,J,a8,(),a9,S,λw=>W (.inr (.inr (.inr w))),λy hy=>ao y (cQ _ hy),an,aj,a1,(),λq U7 H7 a0 aA g7=>?_]]
  have ap:¬StW c' D v U7 i:=λw=>by
   rcases w with z|z
   .erw[M (.inl z)]
   .rcases g7.nw i z with z|z
    .erw[M (.inr z)]
    .rw[j]at z;cases z
  let ab:=g7.fr _ _ j λz=>M (.inr z);ext;have b8:But i H7 (upd H7 i (.ins a.A0 Z (wc (.ref R) (.int C.mo) (.ref d) (.ref c')))):=But.upd;have ς:upd H7 i (.ins a.A0 Z (wc (.ref R) (.int C.mo) (.ref d) (.ref c'))) i∩a.A0 Z (wc (.ref R) (.int C.mo) (.ref d) (.ref c')):=ya;generalize upd H7 i (.ins a.A0 Z (wc (.ref R) (.int C.mo) (.ref d) (.ref c')))=H8 at b8 ς⊢;let ar:=aA.but ab ap b8
  have g8:Go (ChW D v U') H5 H8 (ChW D v U7):=by
   erw[λy o e nw=>?_,λy w=>(g7.nw y w).imp id λe=>?_,λy o e=>?_]
   .by_cases z:y=i
    .rw[z]at e⊢;rw[a2]at e;rw[ς,<- e]
    .erw[b8 _ _ (g7.fr y o (b6 _ _ (SE _ _ e) z) nw) z]
   .cases e5:H5 y with
    |none=>rfl
    |some o =>
     by_cases z:y=i
     .rw[z,j]at e;cases e
     .rw[b6 _ _ (SE _ _ e5) z]at e;cases e
   .by_cases z:y=i
    .erw[_,by rwa[z,ς]]
    .let#[o',e']:=g7.lv y o (b6 _ _ (SE _ _ e) z);erw[o',b8 _ _ e' z]
  let ax:=g8.fr _ _ h5.pz.dk λz=>h5.nw d (.inr (.inr (.inl J))) (.inr z);let ag:=b8 _ _ (g7.fr _ _ S λz=>W (.inr z)) (λz=>ai (by rwa[z,.inl (.inr (.inl J))]));ext;erw[ya6 (SqL.of ag) λr hr0=>?_];rw[jp,<- List.map_take,List.take_left];exists hr0,H9,S9,hr9;ext;intro ob od G al aJ;have as:yz H9 (upd (upd H9 od (.own ob)) ob (.ins a.Ab od [])):=λb o e=>by rwa[yk (yb e G),yk (yb e al),e]
  erw[ob,od,baV x,.ref r,J,ya,λHA ad BA=>#[J,?_]];have SA:yz H9 HA:=λy o e=>BA _ _ (as _ _ e) (yb e G);let aE:=SA _ _ (S9 _ _ ς);ext;erw[d,_,J,yhs.k (k:=.inr b) (SA _ _ (S9 _ _ ax)) (ve (by unfold pcs;rw[bw];omega)),?_];rw[π _ (ylt a6)];let g9:=g8.same S9;let#[z1,z2]:=h5.put (x:=x) (ar.same S9) g9 (g8.free hr0) hr9 G SA ad hL () a9 () aq aw a6 ();have e8:pcs (Qs++[#[b,x,L',t,ob,od,r]])=pcs Qs++[(.inr b,.ref ob)]:=by unfold pcs;rw[cy];rfl
  rw[e8]at z1 z2;ext;erw[kQ t I ak _ _ #[Z,R,d,c',a5,p',D,v,lk,tp,_,_,_,U7,z1,by rw[cy];rfl,J] (Gx.of ((N.or (Y:=λy=>y=d)).trans z2) ((NK.refl.trans aD λF e=>aa.free e).app λq e=>?_) λq hq=>?_)]
  .cases e;refine N.free ?_
   cases e5:H5 q with
   |none=>rfl
   |some o =>
    by_cases z:q=i
    .rw[z,j]at a0;cases a0
    .rw[b6 _ _ (SE _ _ e5) z]at a0;cases a0
  .rcases cK.mp hq with z|z
   .erw[.inl z]
   .rw[cn.mp z];erw[.inr #[N.free (g9.free G),N.free (g8.free hr0)]]
 .erw[.inr #[c',a5,p',D,v,C.n,C.kd,C.ps,L',ah,mOf L',U',dt,b,da,C.mo,J,a8,S,λw=>W (.inr (.inr (.inr w))),ao,an,a1,(),λt I h1 h2 h3=>hg #[t,I,h1,h2,h3],λH7 fr=>kE (λt I g=>hg #[t,I,g.s,g.l,g.e]) _ _ (.inr (.inr (.inr (.inr (.inr J))))) λy o e nf=>?_]];let#[h1,h2]:=nW e nf;erw[fr y o h1 λw=>h2 (.inr (.inr (.inr w)))]
theorem ycw.get{H:Hp}:∀{L:Η}{ks:Υ},ycw H U L ks->∀{j:Nat}(hj:j<L.length),∃k,ks[j]?=some k/\(k=.non\/∃q,k=.ref q/\H q\(L[j].2.map V.int)/\¬U q)
 |[],_,_,j,hj=>absurd hj (cP j)
 |x::r,_,⟨k,ks',e,z,h⟩,0,hj=>#[k,by rw[e];rfl,z]
 |x::r,_,⟨k,ks',e,z,h⟩,j+1,hj=>by
  let#[b,c,a]:=h.get (Nat.lt_of_succ_lt_succ hj);erw[b,by rwa[e,List.getElem?_cons_succ,c],a]
#synth ysb ["self","name","links"] ["self","name"] vdd
#synth ∀(K:z3)(a:Ads),∀(st ds ll d c dc p cl ct:z4)(lk tp:Μ)(n:Nat)(kd:Ξ)(ps:Λ)(mo w:Nat)(P:qj Pc)(L:Η)(ks:Υ)(U:Ν)(x:Φ)(L':Η)(_:vs=[.ref st,baV x])(_:jw K a H st ds ll d c dc p cl ct lk tp n kd ps mo w P L ks U)(_:To P x L')(_:∀(c' dc' p' cl' ct':z4)(L2:Η)(ks':Υ)(U':Ν)(r:z4)(cx:Μ)(H1 H':Hp),jw K a H1 st ds ll d c' dc' p' cl' ct' lk tp n kd ps mo w P L2 ks' U'->Go (StO st c cl ct U) H H1 (StO st c' cl' ct' U')->NK H ks ks'->yz H1 H'->H1 r=none->H' r\(refs cx L'.length)->(∀i,i<L'.length->H1 (cx i)=none/\cx i≠r/\H' (cx i)\((txi L' i).map V.int))->Q (.ref r) H'),ygt
def yr7:'e' 13 a.Nw a.Qn ["self","name"] (ygt K a):=by
 exists T.Fn.F.okE,ysb,hr;let#[N,ds,ll,d,c,dc,p,cl,ct,lk,tp,n,kd,ps,mo,w,P,L,ks,U,x,g,J,W,hL,k]:=h;let af:=W.me;erw[yg (pst 2 ysb.nd (ww (pv 0) T.A1 T.Fm.m (yqj T) hr.m T.Fm.B .nil vv (pav 1))) ?_,<-yg (Ã (vj (yp (yye hr.units) z6 (x8 ju (zu pfs J) zj (ut (pcB yr T.A9 (pav 2)))) (by with_unfolding_all rfl)) (yc (vg (pv 0) (uv T.Cd (ycs T) hr.m J T.Cc T.Eb.B .nil yt (pa1 pfs)) J)) yq)) ?_,<-yg (Ã (vj (yp (yly hr.units) (x8 ju (zu pfs J) zj (ut (pcB yr T.A9 (pav 2)))) (pv 2) (yw _)) (yc (yy (y6 (pv 0) T.A1 T.Dj.m (yk0 T) hr.m T.Dj.B .nil yt (pav 1)))) yq)) ?_];exists 2,1,yc (ym (vt (js:=[]) (ys:=[]) J (wg (x8 ju (zu pfs J) zj (ut (pcB yr T.A9 (pav 2))))) (λC s2 H2 fp=>(pcT (r:=ykb K) xk T.Aq (pav 0))) J J (hyc:=yu) (hrel:=yu)));erw[N,ds,d,_,_,_,n,kd,ps,w,P,x,g,J,af,W.pz,hL,λl H1 ap ac S1=>?_];let aA:=S1 _ _ af;let a8:=W.same S1;let aL:=a8.ch.me;let aB:=a8.ch.hl;let ab:=a8.ch.ht;let aC:=To.len W.pz hL;ext;erw[λσ2 G=>∃(c2 X p2 M O:z4)(I:Υ)(U2:Ν)(L2:Η),σ2=[some (.ref N),some (baV x),some (.ref l)]/\jw K a G N ds ll d c2 X p2 M O lk tp n kd ps mo w P L2 I U2/\Go (StO N c cl ct U) H G (StO N c2 M O U2)/\NK H ks I/\V.non∉I.take g.length/\G l\(nmL g)/\¬StO N c2 M O U2 l,?_,?_]
 .ext;erw[zd (SqL.of ac) ?_,←ya6 (SqL.of ab) λq hq0=>?_];rw[Ë,jp];exists hq0,H2,S2,e2;let a0:=S1.trans S2;let v:=W.same a0;let R:=v.me;let t:=S2 _ _ ac;erw[q,_,J,J,SqL.of e2,λz hz=>(W.ch.tx.mem z (dn hz)).imp id λ⟨q,ys,e,hq,_⟩=>#[q,ys,e,SqL.of (a0 _ _ hq)],?_];by_cases he:(ks.take g.length).any isN=true
  .rw[he];erw[true,J,j4 ?_];ext;intro c' ς nc ag aF;have SQ:yz H2 (upd (upd H2 ς (.own c')) c' (.ins a.A3 ς [])):=λb o e=>by rw[yk (yb e nc),yk (yb e ag)];exact e
   erw[c',ς,ll,n,lk,tp,kd,ps,J,ya,SQ _ _ v.lo,v.n1,v.n6,v.row.same SQ,λp' a7 a4 U' HE av am BE B=>#[J,?_]];let#[hR,gR,SE,hN]:=v.re nc ag av am BE;let aD:=SE _ _ R;have a9:l≠N:=λz=>by rw[z,R]at t;cases t
   ext;erw[c',ς,p',a7,a4,[],U',[],J,hR,gR.ahead a0,.nil,'s',ye a9 (SE _ _ t),λz=>?_]
   rcases z with z|z
   .erw[a9 z]
   .rw[hN l z]at t;cases t
  .rw[Bool.eq_false_iff.mpr he];erw[false,J,uo ?_,<-c,dc,p,cl,ct,ks,U,L,J,v,Go.refl.same a0,.refl,λz=>he (dN.mpr #[_,z,J]),t,λz=>?_];let#[o,e]:=W.lvO l z;rw[ap]at e;cases e
 .rintro σ2 G ⟨c2,X,p2,M,O,I,U2,L2,rfl,hG,go,ak,ad,ae,as⟩;let aE:=hG.me;let aJ:=hG.ch.me;let al:=hG.ch.hl;ext;exists λσ2 F=>∃(c3 a5 p3 Y a1:z4)(f:Υ)(U3:Ν)(L3:Η),σ2=[some (.ref N),some (baV x),some (.ref l)]/\jw K a F N ds ll d c3 a5 p3 Y a1 lk tp n kd ps mo w P L3 f U3/\Go (StO N c cl ct U) H F (StO N c3 Y a1 U3)/\NK H ks f/\V.non∉f.take g.length/\g=L3.take g.length/\F l\(nmL g),?_,?_
  .ext;erw[zd (SqL.of ae) ?_,←ya6 (SqL.of al) λq hq0=>?_];rw[Ë,jp,ĉ];exists hq0,G2,S2,e2;let a6:=hG.same S2;let R:=a6.me;let t:=S2 _ _ ae;let#[y,hy]:=hG.way;let a3:=t;rw[ô]at e2 a3;ext;erw[ypu _ _ (λz hz=>hy.ok W.pz z (by let#[u,hu,J]:=ce.mp hz;erw[ce.mpr #[u,dn hu,J]])) (hL.ok W.pz) (SqL.of e2) (SqL.of a3) ?_];by_cases he:(L2.take g.length).map (·.1)=g.map (·.1)
   .rw[cg he];erw[false,J,uo ?_,<-c2,X,p2,M,O,I,U2,L2,J,a6,go.same S2,ak,ad,To.ahead W.pz.nd W.pz.wf hL hy (by rwa[ĉ,(ypt he).symm]),t]
   .rw[cj he];erw[true,J,j4 ?_,←N,ds,ll,d,c2,X,p2,M,O,lk,tp,n,kd,ps,mo,w,P,L2,I,U2,x,g,J,a6,hL,λc' ς p' a7 a4 aw U' F hC Z aq hn=>?_,←c',ς,p',a7,a4,aw,U',g,J,hC,(go.same S2).trans Z,ak.trans aq (λq e=>go.free (S2.free e)),λz=>ad (hn (dn z)),(cU).symm,Z.fr _ _ t as]
  .rintro σ2 F ⟨c3,a5,p3,Y,a1,f,U3,L3,rfl,hF,ay,au,ao,aa,ar⟩;let az:=hF.me;let aH:=hF.ch.me;let an:=hF.ch.ht
   have aG:g.length<=L3.length:=by
    let e:=congrArg List.length aa;rw[cG]at e;omega
   ext;erw[zd (SqL.of ar) ?_,←ya6 (SqL.of an) λq hq0=>?_];rw[Ë,jp];let S1:=y7 (o:=(HO.lst (f.take g.length))) hq0;have e1:upd F q (HO.lst (f.take g.length)) q=some (HO.lst (f.take g.length)):=ya;generalize upd F q (HO.lst (f.take g.length))=F1 at S1 e1⊢;let aK:=hF.ch.tx.len;have a2:(f.take g.length).length=g.length:=by rw[cG];omega
   let aj:=hF.same S1;erw[q,J,#[_,SqL.of e1],λD hD=>?_];refine jd (K:=K) (xs:=f.take g.length) (λi G=>∃cx:Μ,G D\(refs cx i)/\(∀j,j<i->F1 (cx j)=none/\G (cx j)\((txi g j).map V.int)/\cx j≠D)/\yz F1 G)
    #[λB=>0,ya,λj hj=>absurd hj (cP j),y7 hD] (λi G B ⟨_,_,_,S⟩=>SqL.of (S _ _ e1)) (λi y G hy hi z=>?_) (λG z=>?_)
   .let#[cx,gD,Z,S]:=z;rw[a2]at hi;let#[k',ek,hk]:=aj.ch.tx.get (j:=i) ();rw[List.getElem?_take,if_pos hi,ek]at hy;obtain rfl:k'=y:=by cases hy;rfl
    rcases hk with z|⟨q2,rfl,ah,_⟩
    .erw[absurd ?_ ao];rwa[<- z,cz (i:=i) (by rwa[List.getElem?_take,if_pos hi,ek])]
    have et:L3[i].2=txi g i:=by
     let e:=congrArg (λl=>l[i]?) aa;simp only[List.getElem?_take]at e;rw[if_pos hi]at e;unfold txi;rw[cZ,ci,e,bP ()];rfl
    rw[et]at ah;ext;erw[q2,_,J,.inl (SqL.of (S _ _ ah)),λc hc0=>?_];have nc:c≠D:=(yb gD hc0).symm;exists hc0,G2,S2,hc2;erw[xh (n:=(f.take g.length).length) (S2 _ _ gD) (ve (by rw[v8];omega)) () ?_,<-upN cx i c,?_,λj hj=>?_,λb o e=>ye (yb e hD) (S2 _ _ (S b o e))]
    .rw[ya,ud,w5]
     congr 3
     erw[ub λj hj=>(wy hj).symm]
    .by_cases z:j=i
     .rw[z,w5];erw[S.free hc0,ye nc hc2,nc]
     .have ai:j<i:=()
      rw[wy ai];let#[g1,g2,g3]:=Z j ai;erw[g1,ye g3 (S2 _ _ g2),g3]
   .let#[cx,gD,Z,S]:=z;rw[a2]at gD Z;erw[k c3 a5 p3 Y a1 L3 f U3 D cx F1 G aj (ay.same S1) au S hD gD λi hi=>#[(Z i hi).1,(Z i hi).2.2,(Z i hi).2.1]]
#synth vac ["self","name"] veu
inductive Ğ(K:z3)(a:Ads)(vs:Υ)(H:Hp)(Q:VK)(E:XK):Prop
 | mk(st ds ll d c dc p cl ct:z4)(lk tp:Μ)(n:Nat)(kd:Ξ)(ps:Λ)(mo w:Nat)(P:qj Pc)(L:Η)(ks:Υ)(U:Ν)(x:V)(nt:String)(_:vs=[.ref st,x])(_:jw K a H st ds ll d c dc p cl ct lk tp n kd ps mo w P L ks U)(_:u6 K H x (.type nt))(_:(∀s,x=.str s->s.length<=100000))(_:(nmV x=false->∀H',yz H H'->E (.ref a.Al) none H'))(_:(∀b,x=.str b->nmS b=true->(∀q,q∈P->q.nm≠b)->∀H',yz H H'->E (.ref a.A2) none H'))(_:(∀r,r∈P->x=.str r.nm ->
 ∀(c' dc' p' cl' ct':z4)(L2:Η)(ks':Υ)(U':Ν)(q:z4)(H1 H':Hp),jw K a H1 st ds ll d c' dc' p' cl' ct' lk tp n kd ps mo w P L2 ks' U'->Go (StO st c cl ct U) H H1 (StO st c' cl' ct' U')->NK H ks ks'->yz H1 H'->H1 q=none->H' q\(r.tx.map V.int)->Q (.ref q) H'))
def yr5:'e' 14 a.Ny a.Qo ["self","name"] (Ğ K a):=by
 exists T.Fo.F.okE,vac,S;let#[C,y,Z,d,c,N,p,Y,ct,M,W,n,k,q,ς,w,P,L,O,U,x,X,J,D,ty,hz,k1,k2,k3]:=h;let o:=D.me;exists 2,0,yh (yy (y6 (pv 0) T.A1 T.B9.m (š T) S.m T.B9.B .nil yt (pav 1))) (yc (ym (pix we (y6 (pv 0) T.A1 T.Fn.m (yr7 T) S.m T.Fn.B .nil yt (pav 1)) (vf4 yqm yf))));erw[C,y,d,_,_,_,n,k,q,w,P,x,X,J,o,D.pz,ty,hz,k1,k2,λr b e hb H1 G=>?_];subst e;let f:=D.same G;let R:=f.me;ext;erw[C,y,Z,d,c,N,p,Y,ct,M,W,n,k,q,ς,w,P,L,O,U,some r.nm,r.path++[(r.nm,r.tx)],J,f,#[r,b,J,J],λc' I p' z g L2 i U' l cx HB H2 h2 g2 nk SB a0 t j=>?_];ext;let#[f1,f2,f3]:=j r.path.length (by rw[bY,df];omega);erw[ua (v:=.ref (cx r.path.length)) (SqL.of t) ?_ ?_]
 .rw[bY,df,ud];erw[ymq _ _]
 .ext;erw[k3 r b J c' I p' z g L2 i U' _ HB H2 h2 (g2.ahead G) (NK.refl.trans nk λF e=>G.free e) SB f1 ?_];rw[f3];unfold txi;simp
def Sto.textof1{H:Hp}{C:Cf}{P:qj Pd}{X:Sx}{Q:VK}{E:XK}(h:Sto K a H st C P X){b:Str}(hb:nmS b=true)(k1:(∀q,q∈P->q.nm≠b)->∀H',yz H H'->E (.ref a.A2) none H')
  (k2:∀r,r∈P->r.nm=b->∀Y q H1 H',Sto K a H1 st C P Y->Gx X H H1 Y->yz H1 H'->H1 q=none->H' q\(r.tx.map V.int)->Q (.ref q) H'):Ğ K a [.ref st,.str b] H Q E:=by
 let#[v,B,d,c,G,p,T,ct,t,A,I,R,ς,U,s,J,J]:=h;let Z:=wj hb;erw[st,v,B,d,c,G,p,T,ct,t,A,C.n,C.kd,C.ps,C.mo,C.w,I,R,ς,U,.str b,"str",J,s,.str _,(λx e=>by cases e;omega),(λz=>by rw[show nmV (.str b)=nmS b from rfl,hb]at z;cases z),(λb' e W k=>?_),λr M e F o p' m i L2 j L q H1 H' D g O S l f=>?_]
 .cases e;erw[k1 λq f=>?_];let#[u,N,J]:=ce.mp f;erw[k u N]
 .cases e;erw[k2 r.pd (ce.mpr #[r,M,J]) J _ q H1 H' #[v,B,d,F,o,p',m,i,t,A,_,_,j,L,D,J,J] (Gx.of (g.or (Y:=λy=>y=d)) O λq f=>.inl f) S l f]
def Sto.textof{H:Hp}{C:Cf}{P:qj Pd}{X:Sx}{Q:VK}{E:XK}(h:Sto K a H st C P X){b:Str}(hb:nmS b=true)(k1:(∀q,q∈P->q.nm≠b)->∀H',yz H H'->E (.ref a.A2) none H')
  (k2:∀r,r∈P->r.nm=b->∀Y q H',Sto K a H' st C P Y->Gx X H H' Y->H q=none->Kf H' Y q (.lst (r.tx.map V.int))->Q (.ref q) H'):Ğ K a [.ref st,.str b] H Q E :=
 h.textof1 hb k1 λr i e Y q j H' d g1 S c f=>k2 r i e Y q H' (d.same S) (g1.same S) (g1.g.free c) (Kf.new d c f)
#synth va4 ["self","name"] vdj
#synth ∀(K:z3)(a:Ads),∀(st ds d:z4)(vl vm vc:V)(n:Nat)(kd:Ξ)(ps:Λ)(w:Nat)(P:qj Pc)(x:V)(nt:String)(_:vs=[.ref st,x])(_:H st∩a.A0 ds (wc vl vm (.ref d) vc))(_:Ũ a H d n kd ps w P)(_:u6 K H x (.type nt))(_:(∀s,x=.str s->s.length<=100000))(_:(nmV x=false->∀H',yz H H'->E (.ref a.Al) none H'))(_:(∀b,x=.str b->nmS b=true->(∀q,q∈P->q.nm≠b)->∀H',yz H H'->E (.ref a.A2) none H'))(_:(∀r,r∈P->x=.str r.nm->nmS r.nm=true->∀l H',H l=none->H' l\((r.by n kd ps).map V.int)->yz H H'->Q (.ref l) H')),Ş
def yrb:'e' 4 a.Nz a.Qp ["self","name"] (Ş K a):=by exists T.Fp.F.okE,va4,N;let#[u,p,d,q,z,v,n,k,o,w,P,x,t,J,f,y,O,L,C,R,I]:=h;exists 2,0,yc (ym (pcT xk T.Aq (pa1 (zu (y6 (pv 0) T.A1 T.B9.m (š T) N.m T.B9.B .nil yt (pav 1)) J))));erw[u,p,d,q,z,v,n,k,o,w,P,x,t,J,f,y,O,L,C,R,λr c e D S j=>?_];let#[ς,i]:=(y.same j).ob r c;ext;erw[r.dl,_,J,.inl (SqL.of i),λl b=>?_,<-I r c e D l _ (j.free b) ya (j.trans (y7 b))]
def Sto.bytesof{H:Hp}{C:Cf}{P:qj Pd}{X:Sx}{Q:VK}{E:XK}(h:Sto K a H st C P X){b:Str}(hb:nmS b=true)(k1:(∀q,q∈P->q.nm≠b)->∀H',yz H H'->E (.ref a.A2) none H')
  (k2:∀r,r∈P->r.nm=b->∀l H',H l=none->H' l\((r.by C).map V.int)->yz H H'->Q (.ref l) H'):Ş K a [.ref st,.str b] H Q E:=by
 let#[v,B,d,c,D,p,y,ς,A,I,m,L,G,U,s,J,J]:=h;let g:=wj hb;erw[st,v,d,_,_,_,C.n,C.kd,C.ps,C.w,m,.str b,"str",J,s.me,s.pz,.str _,(λx e=>by cases e;omega),(λz=>by rw[show nmV (.str b)=nmS b from rfl,hb]at z;cases z),(λF e Z f=>?_),λr j e Z l H' o k S=>?_]
 .cases e;erw[k1 λq i=>?_];let#[u,t,J]:=ce.mp i;erw[f u t]
 .cases e;erw[k2 r.pd (ce.mpr #[r,j,J]) J l H' o k S]
#synth vbj ["self","name"] vgk
#synth ∀(K:z3)(a:Ads),∀(st ds d:z4)(vl vm vc:V)(n:Nat)(kd:Ξ)(ps:Λ)(w:Nat)(P:qj Pc)(x:V)(nt:String)(_:vs=[.ref st,x])(_:H st∩a.A0 ds (wc vl vm (.ref d) vc))(_:Ũ a H d n kd ps w P)(_:u6 K H x (.type nt))(_:(∀s,x=.str s->s.length<=100000))(_:(nmV x=false->∀H',yz H H'->E (.ref a.Al) none H'))(_:(∀b,x=.str b->nmS b=true->(∀q,q∈P->q.nm≠b)->∀H',yz H H'->E (.ref a.A2) none H'))(_:(∀r,r∈P->x=.str r.nm->nmS r.nm=true->∀H',yz H H'->Q (baV r.bs) H')),ycc
def yrd:'e' 4 a.O0 a.Qq ["self","name"] (ycc K a):=by exists T.Fq.F.okE,vbj,ς;let#[o,j,d,k,u,p,n,g,i,w,P,x,l,J,c,q,L,G,v,M,C]:=h;exists 2,0,yc (ym (zu (y6 (pv 0) T.A1 T.B9.m (š T) ς.m T.B9.B .nil yt (pav 1)) J));erw[o,j,d,k,u,p,n,g,i,w,P,x,l,J,c,q,L,G,v,M,λr b e y N t=>?_];let D:=((q.same t).ob r b).1;ext;erw[C r b e y _ t]
def Sto.baseof{H:Hp}{C:Cf}{P:qj Pd}{X:Sx}{Q:VK}{E:XK}(h:Sto K a H st C P X){b:Str}(hb:nmS b=true)(k1:(∀q,q∈P->q.nm≠b)->∀H',yz H H'->E (.ref a.A2) none H')
  (k2:∀r,r∈P->r.nm=b->∀H',yz H H'->Q (baV r.bs) H'):ycc K a [.ref st,.str b] H Q E:=by
 let#[m,v,d,c,y,p,o,F,t,A,k,G,D,U,s,J,J]:=h;let g:=wj hb;erw[st,m,d,_,_,_,C.n,C.kd,C.ps,C.w,k,.str b,"str",J,s.me,s.pz,.str _,(λx e=>by cases e;omega),(λz=>by rw[show nmV (.str b)=nmS b from rfl,hb]at z;cases z),(λB e Z f=>?_),λr j e Z H' S=>?_]
 .cases e;erw[k1 λq i=>?_];let#[u,l,J]:=ce.mp i;erw[f u l]
 .cases e;erw[k2 r.pd (ce.mpr #[r,j,J]) J H' S]
#synth vam ["self","name"] vfh
inductive ý(K:z3)(a:Ads)(vs:Υ)(H:Hp)(Q:VK)(E:XK):Prop
 | mk(st ds ll d c dc p cl ct:z4)(lk tp:Μ)(n:Nat)(kd:Ξ)(ps:Λ)(mo w:Nat)(P:qj Pc)(L:Η)(ks:Υ)(U:Ν)(x:V)(nt:String)(_:vs=[.ref st,x])(_:jw K a H st ds ll d c dc p cl ct lk tp n kd ps mo w P L ks U)(_:u6 K H x (.type nt))(_:(∀s,x=.str s->s.length<=100000))(_:(nmV x=false->∀H',yz H H'->E (.ref a.Al) none H'))(_:(∀b,x=.str b->nmS b=true->(∀q,q∈P->q.nm≠b)->∀H',yz H H'->E (.ref a.A2) none H'))(_:(∀r,r∈P->x=.str r.nm ->
 ∀(c' dc' p' cl' ct':z4)(L2:Η)(ks':Υ)(U':Ν)(q:z4)(cx:Μ)(H1 H':Hp),jw K a H1 st ds ll d c' dc' p' cl' ct' lk tp n kd ps mo w P L2 ks' U'->Go (StO st c cl ct U) H H1 (StO st c' cl' ct' U')->NK H ks ks'->yz H1 H'->H1 q=none->H' q\(refs cx r.path.length)->(∀i,i<r.path.length->H1 (cx i)=none/\cx i≠q/\H' (cx i)\((txi r.path i).map V.int))->Q (.ref q) H'))
def yyr:'e' 14 a.O4 a.Qr ["self","name"] (ý K a):=by exists T.Kq.F.okE,vam,W;let#[C,y,ll,d,c,N,p,Z,ct,M,X,n,o,t,ς,w,P,L,O,U,x,Y,J,D,ty,hz,k1,k2,k3]:=h;let q:=D.me;exists 2,0,yc (ym (y6 (pv 0) T.A1 T.Fn.m (yr7 T) W.m T.Fn.B .nil yt (pa1 (zu (y6 (pv 0) T.A1 T.B9.m (š T) W.m T.B9.B .nil yt (pav 1)) J))));erw[C,y,d,_,_,_,n,o,t,w,P,x,Y,J,q,D.pz,ty,hz,k1,k2,λr f e hb H1 G=>?_];subst e;let b:=D.same G;let S:=b.me;let R:=(b.pz.ob r f).1;ext;erw[C,y,ll,d,c,N,p,Z,ct,M,X,n,o,t,ς,w,P,L,O,U,r.bs,r.path,J,b,b.pz.wf r f,λc' I p' z g L2 i U' l cx HB H2 h2 g2 nk SB j u k=>?_,<-k3 r f J c' I p' z g L2 i U' l cx HB H2 h2 (g2.ahead G) (NK.refl.trans nk λF e=>G.free e) SB j u k]
def Sto.learnedof{H:Hp}{C:Cf}{P:qj Pd}{X:Sx}{Q:VK}{E:XK}(h:Sto K a H st C P X){b:Str}(hb:nmS b=true)(k1:(∀q,q∈P->q.nm≠b)->∀H',yz H H'->E (.ref a.A2) none H')
  (k2:∀r,r∈P->r.nm=b->∀Y q cx H',Sto K a H' st C P Y->Gx X H H' Y->H q=none->Kf H' Y q (.lst (refs cx r.path.length))->(∀i,i<r.path.length->cx i≠q/\H (cx i)=none/\Kf H' Y (cx i) (.lst ((txi r.path i).map V.int)))->Q (.ref q) H'):ý K a [.ref st,.str b] H Q E:=by
 let#[M,v,d,c,dc,p,R,T,ς,O,m,L0,L,U,s,J,J]:=h;let a0:=wj hb;erw[st,M,v,d,c,dc,p,R,T,ς,O,C.n,C.kd,C.ps,C.mo,C.w,m,L0,L,U,.str b,"str",J,s,.str _,(λx e=>by cases e;omega),(λz=>by rw[show nmV (.str b)=nmS b from rfl,hb]at z;cases z),(λb' e W F=>?_),λr hr e B I p' l j L2 k D q cx N H' Z g nk S t o f=>?_]
 .cases e;erw[k1 λq o=>?_];let#[u,hu,J]:=ce.mp o;erw[F u hu]
 .cases e;have G:Sto K a N st C (m.map Pc.pd) (ysu d st B l j D v m k):=#[M,v,d,B,I,p',l,j,ς,O,_,_,k,D,Z,J,J];have g1:Gx (ysu d st c R T U v m L) H N (ysu d st B l j D v m k):=Gx.of (g.or (Y:=λy=>y=d)) nk λq o=>.inl o;erw[k2 r.pd (ce.mpr #[r,hr,J]) J _ q cx H' (G.same S) (g1.same S) (g1.g.free t) (Kf.new G t o) λi A=>#[(f i A).2.1,g1.g.free (f i A).1,Kf.new G (f i A).1 (f i A).2.2]]
def vbk(x:Φ)(b:Str):vi7 (baV x) (.str b)=true/\decide (baV x=.str b)=decide (x=some b):=by
 cases x with
 |none=>erw[J,by rw[cj (λz=>nomatch z),cj (λz=>nomatch z)]]
 |some y =>
  erw[J,?_];by_cases e:y=b
  .rw[cg (by rw[e];rfl),cg (by rw[e])]
  .rw[cj (λz=>e (by cases z;rfl)),cj (λz=>e (by cases z;rfl))]
#synth vae ["self","name"] vdp
inductive yjw(K:z3)(a:Ads)(vs:Υ)(H:Hp)(Q:VK)(E:XK):Prop
 | mk(st ds ll d c dc p cl ct:z4)(lk tp:Μ)(n:Nat)(kd:Ξ)(ps:Λ)(mo w:Nat)(P:qj Pc)(L:Η)(ks:Υ)(U:Ν)(x:V)(nt:String)(_:vs=[.ref st,x])(_:jw K a H st ds ll d c dc p cl ct lk tp n kd ps mo w P L ks U)(_:u6 K H x (.type nt))(_:(∀s,x=.str s->s.length<=100000))(_:(nmV x=false->∀H',yz H H'->E (.ref a.Al) none H'))(_:(∀b,x=.str b->nmS b=true->(∀q,q∈P->q.nm≠b)->∀H',yz H H'->E (.ref a.A2) none H'))(_:(∀r,r∈P->x=.str r.nm->(∃q,q∈P/\q.bs=some r.nm)->∀H',yz H H'->E (.ref a.Ak) none H'))(_:(∀r,r∈P->x=.str r.nm->(∀q,q∈P->q.bs≠some r.nm) ->
 ∀(c' dc' p' cl' ct':z4)(U':Ν)(H':Hp),jw K a H' st ds ll d c' dc' p' cl' ct' lk tp n kd ps mo w (P.filter λq=>decide (q.nm≠r.nm)) [] [] U'->Go (λy=>y=d\/StO st c cl ct U y) H H' (λy=>y=d\/StO st c' cl' ct' U' y)->Q .non H'))
def yzg:'e' 10 a.O5 a.Qt ["self","name"] (yjw K a):=by
 exists T.Kr.F.okE,vae,hr;let#[st,ds,ll,d,c,dc,p,cl,ct,lk,tp,n,kd,ps,mo,w,P,L,ks,U,x,nt,J,hS,ty,hz,k1,k2,k3,k4]:=h;let a2:=hS.me;exists 2,0,yh (yy (y6 (pv 0) T.A1 T.B9.m (š T) hr.m T.B9.B .nil yt (pav 1))) (yh (vj (xo (pcB (ymj J) T.Ub (pa1 (yjv (vt (js:=[1]) (ys:=["name"]) J (ykl pfs) (λC s2 H2 fp=>(xm w6 (yed (K:=K) J (pv 0) J) (pv 1) (yw _))) J J (hyc:=(all_cons J yu)) (hrel:=(all_cons J yu))))))) (yc (xa J T.Gz T.Lx (pa1 y8))) yq) (yh (yy (yeo pfs (pv 1) #[J,J,J,J])) (yc (vg (pv 0) (uv T.Cd (ycs T) hr.m J T.Cc T.Eb.B .nil yt (pa1 pfs)) J))));erw[st,ds,d,_,_,_,n,kd,ps,w,P,x,nt,J,a2,hS.pz,ty,hz,k1,k2,λr M e hb H1 S1=>?_];subst e;let g:=hS.same S1;let a7:=g.me;ext;let j:=g.pz.dk;erw[d,pcs P,J,j,λo D hD=>?_];have W:(pcs P).length=P.length:=bw _;let ab:=g.pz.z;have a1:D≠d:=λz=>by rw[z,ya]at hD;cases hD
 erw[ŗ (λi G=>G D\((P.take i).map λq=>V.bl (decide (q.bs=some r.nm)))/\yz (upd H1 d (.frz o (.dK (pcs P)))) G) #[ya,y7 hD] (λi G F z=>z.2 _ _ ya) (λi kk v G I hi z=>?_) (λG z=>?_)]
 .let#[gD,S]:=z;rw[W]at hi;have N:P[i]?=some P[i]:=bP hi;unfold pcs at I;rw[ci,N]at I;obtain rfl:v=.ref (P[i]).ob:=by cases I;rfl
  let l:=(g.pz.ob _ (cV hi)).1;let a9:=S _ _ (ye (λz=>by rw[z,j]at l;cases l) l);ext;let#[b1,b2]:=vbk (P[i]).bs r.nm;erw[b1,?_];rwa[b2,xh (n:=(pcs P).length) gD (ve (by rw[bw,cG];omega)) () #[?_,λy o e=>ye (yb e hD) (S _ _ e)]];rw[ya,cH hi,cy];rfl
 .let#[gD,S]:=z;rw[W,cU]at gD;exists d,o,.dK (pcs P),(λo u e=>by rw[j]at e;cases e),S _ _ ya,?_
  have S3:yz H1 (upd G d (.dK (pcs P))):=λy o' e=>by
   by_cases z:y=d
   .rw[z,ya];rw[z,j]at e;erw[e]
   .erw[ye z (S _ _ (ye z e))]
  have R:(upd G d (.dK (pcs P))) D\((P.map λq=>decide (q.bs=some r.nm)).map V.bl):=ye a1 (by rw[gD,cL];rfl);generalize upd G d (.dK (pcs P))=H3 at S3 R⊢;let f:=g.same S3;let a6:=f.me;ext;erw[D,_,J,SqL.of R,?_];by_cases hu:∃q,q∈P/\q.bs=some r.nm
  .have e:(P.map λq=>decide (q.bs=some r.nm)).any id=true:=by
    let#[q,N,e]:=hu;erw[dN.mpr #[true,ce.mpr #[q,N,cg e],J]]
   rwa[e,#[true,J,j4 ?_]];ext;exists 'l',k3 r M J hu _ (S1.trans S3)
  .have t:∀q,q∈P->q.bs≠some r.nm:=λq N e=>hu #[q,N,e]
   have e:(P.map λq=>decide (q.bs=some r.nm)).any id=false:=by
    rw[List.any_map,List.any_eq_false];intro q N;simpa using t q N
   rwa[e,#[false,J,uo ?_]];ext;erw[d,J,.inl #[_,.of f.pz.dk],?_,←pcs P,.inr r.nm,_,f.pz.dk,J,ylc f.pz.nd M,?_];let ς:=f.b.drop t
   have gA:Go (λy=>y=d\/StO st c cl ct U y) H3 (upd H3 d (.dK (ã (pcs P) (.inr r.nm)))) (λy=>y=d\/StO st c cl ct U y):=#[λy o e no=>ye (λz=>no (.inl z)) e,λy z=>.inl z,λy o e=>by
    by_cases z:y=d
    .erw[_,by rwa[z,ya]]
    .erw[o,ye z e]]
   generalize upd H3 d (.dK (ã (pcs P) (.inr r.nm)))=H4 at ς gA⊢;let X:=ς.me;ext;intro c' k nc O aa;have SQ:yz H4 (upd (upd H4 k (.own c')) c' (.ins a.A3 k [])):=λb o e=>by rwa[yk (yb e nc),yk (yb e O),e]
   erw[c',k,ll,n,lk,tp,kd,ps,J,ya,SQ _ _ ς.lo,ς.n1,ς.n6,ς.row.same SQ,λp' a3 a0 U' HE a4 Z BE F=>#[J,?_]];let#[hR,gR,SE,hN]:=ς.re nc O a4 Z BE;let a8:=SE _ _ X;ext;erw[k4 r M J t c' k p' a3 a0 U' _ hR ((gA.ahead (S1.trans S3)).trans ((gR.or (Y:=λy=>y=d)).wide λy z=>z.imp id .inl))]
def yii(Q:qj Pc)(b:Str):(Q.filter λq=>decide (q.nm≠b)).map Pc.pd=(Q.map Pc.pd).filter λq=>decide (q.nm≠b):=by rw[List.filter_map];rfl
def Sto.drop{H:Hp}{C:Cf}{P:qj Pd}{X:Sx}{Q:VK}{E:XK}(h:Sto K a H st C P X){b:Str}(hb:nmS b=true)(k1:(∀q,q∈P->q.nm≠b)->∀H',yz H H'->E (.ref a.A2) none H')(k2:∀r,r∈P->r.nm=b->(∃q,q∈P/\q.bs=some b)->∀H',yz H H'->E (.ref a.Ak) none H')
  (k3:∀r,r∈P->r.nm=b->(∀q,q∈P->q.bs≠some b)->∀Y H',Sto K a H' st C (P.filter λq=>decide (q.nm≠b)) Y->Gx X H H' Y->Q .non H'):yjw K a [.ref st,.str b] H Q E:=by
 let#[y,B,d,c,G,p,N,S,v,A,I,M,ς,U,s,J,J]:=h;let O:=wj hb;erw[st,y,B,d,c,G,p,N,S,v,A,C.n,C.kd,C.ps,C.mo,C.w,I,M,ς,U,.str b,"str",J,s,.str _,(λx e=>by cases e;omega),(λz=>by rw[show nmV (.str b)=nmS b from rfl,hb]at z;cases z),(λT e Z k=>?_),(λr m e i=>?_),λr m e i F t R o j L H' D g=>?_]
 .cases e;erw[k1 λq f=>?_];let#[u,i,J]:=ce.mp f;erw[k u i]
 .cases e;let#[q,f,e]:=i;erw[k2 r.pd (ce.mpr #[r,m,J]) J #[q.pd,ce.mpr #[q,f,J],e]]
 .cases e;erw[k3 r.pd (ce.mpr #[r,m,J]) J (λq f=>?_) _ H' #[y,B,d,F,t,R,o,j,v,A,_,_,[],L,D,yii _ _,J] (Gx.of g NK.nil λq f=>.inl (dg.mp f).1)];let#[u,l,J]:=ce.mp f;erw[i u l]
#synth vbd ["self","text","signs","best","fewest","name","size"] ["self","text"] vez
def yuh:Sp:=λZ Z Z Z=>False
def yx7:'v' 1 a.O6 a.Qu ["self","text"] yuh:=by refine T.Ks.F.ok vbd (λd H Q E h=>h.elim) (λc A b s H d Q E e h=>h.elim)
def lkB(k:Fin 3)(p:Ρ):Ρ:=((k.val:Nat):Int)::((p.length:Nat):Int)::p
def yyf(k:Fin 3):(kdS 0=kdS k/\k.val=0)\/(kdS 0≠kdS k/\kdS 1=kdS k/\k.val=1)\/(kdS 0≠kdS k/\kdS 1≠kdS k/\kdS 2=kdS k/\k.val=2):=by revert k;decide
#synth yzu ["look"] vfw
#synth ∀(v:V)(kd:Fin 3)(tp:z4)(ps:Ρ)(_:vs=[v])(_:LkG H v kd tp ps)(_:∀l H',H l=none->H' l\((lkB kd ps).map V.int)->yz H H'->Q (.ref l) H'),yox
def yx5:'v' 1 a.O7 a.Qv ["look"] yox:=by
 exists T.Rv.F.ok,yzu,r;let#[v,d,g,i,J,#[q,J,e,l,p],k]:=h;let o:=jb p;rw[bw]at o;exists 1,0,yc (ym (yn ĳ (wk (pac (uy PySem.F.plainAttrs_tuple PySem.F.slot_tuple_index PySem.F.type_tuple_index yi4 (δ J T.Eu) (pa1 (pix zt (pv 0) yf))) (pa1 (pcB yr T.A9 (pa1 (pix zt (pv 0) yf)))))) (pcT xk T.Aq (pa1 (pix zt (pv 0) yf)))));erw[.inr (.inl #[J,T.wy_KINDS]),?_,←Ĺ (SqT.of e) (vw (j:=0) J) ?_,←kdS 0,kdS 1,kdS 2,kdS d,a.Ba,d.val,J,J,T.w_KINDS H,yyf d,?_,←Ĺ (SqT.of e) (vw (j:=1) J) ?_,←g,_,J,.inr (SqT.of l),?_];rw[bw];ext;exists 'l',λu hu0=>?_
 exists hu0,H1,S1,hu1;ext;erw[Ĺ (SqT.of (S1 _ _ e)) (vw (j:=1) J) ?_,←g,_,J,.inr (SqT.of (S1 _ _ l)),λw hw0=>?_];exists hw0,H2,S2,hw2;ext;erw[u,w,_,_,J,J,S2 _ _ hu1,hw2,vo (by rw[bw];show 2+i.length<=_;omega),λc b=>?_,<-k c _ (S1.free (S2.free b)) ya (S1.trans (S2.trans (y7 b)))]
def lix(c:Nat):Nat:=(PySem.Builtin.Str.occurrences smS ⟨#[c]⟩ 0 26 1).headD 0
def yvs:∀i:Fin 26,PySem.Builtin.Str.occurrences smS ⟨#[97+i.val]⟩ 0 26 1=[i.val]:='r'
def ysp{c:Nat}(h1:97<=c)(h2:c<=122):lix c=c-97:=by have e:=yvs #[c-97,()];unfold lix;rw[show 97+(#[c-97,()]:Fin 26).val=c by show 97+(c-97)=c;omega]at e;rw[e];rfl
def ytz{x:Str}(h:nmS x=true){i c:Nat}(hc:x.cps[i]?=some c):∃xt,PySem.Builtin.Str.occurrences smS ⟨#[c]⟩ 0 smS.length 1=lix c::xt:=by
 unfold nmS at h;simp only[cC,List.all_eq_true]at h;let a:=h.2.2 c (cz (by rwa[Array.getElem?_toList,hc]));unfold yhp at a;have a:(!(PySem.Builtin.Str.occurrences smS ⟨#[c]⟩ 0 26 1).isEmpty)=true:=a;show ∃xt,PySem.Builtin.Str.occurrences smS ⟨#[c]⟩ 0 26 1=_;unfold lix
 cases e:PySem.Builtin.Str.occurrences smS ⟨#[c]⟩ 0 26 1 with
 |nil=>rw[e]at a;cases a
 |cons i r=>erw[r,rfl]
def nmB(x:Str):Ρ:=((x.length:Nat):Int)::x.cps.toList.map λc=>((lix c:Nat):Int)
def ytc(x:Str):(List.range x.cps.size).map (λi=>V.int ((lix (x.cps.toList.getD i 0):Nat):Int))=(x.cps.toList.map λc=>((lix c:Nat):Int)).map V.int:=by
 erw[List.ext_getElem? λi=>?_];rw[ci,ci,ci];rcases Nat.lt_or_ge i x.cps.size with z|z
 .rw[dv z,bP (by simpa using z)];show some (V.int ((lix (x.cps.toList.getD i 0):Nat):Int))=_;rw[cZ,bP (by simpa using z)];rfl
 .rw[cT (by rwa[c8,z]),cT (by simpa using z)];rfl
#synth vcz ["name"] vds
#synth ∀(x:Str)(_:vs=[.str x])(_:nmS x=true)(_:∀l H',H l=none->H' l\((nmB x).map V.int)->yz H H'->Q (.ref l) H'),yoh
def yxf:'v' 1 a.O8 a.Qw ["name"] yoh:=by
 exists T.Rw.F.ok,vcz,z;let#[x,J,l,k]:=h;let p:=wj l;have t:x.cps.size=x.length:=rfl;exists 1,0,yc (ym (yn ĳ (wk (pa1 (pcB xj T.A9 (pav 0)))) (vt (js:=[]) (ys:=[]) J (yga (pv 0)) (λC y v B=>(yqk (K:=K) (r:=(ydq)) J PySem.F.plainAttrs_str PySem.F.slot_str_index PySem.F.type_str_index yb6 (zi J T.Cy) (pav 0))) J J (hyc:=yu) (hrel:=yu))));erw[x,J,cO p ∅,?_];ext;exists 'l',λu hu0=>?_
 exists hu0,H1,S1,hu1;ext;erw[x,J,λD g=>?_,<-Ð (λi=>.int ((lix (x.cps.toList.getD i 0):Nat):Int)) g (λi c G j q S e=>?_) (λG S e=>?_)]
 .let#[xt,n]:=ytz l j;ext;erw[J,?_,←smS,_,lix c,xt,J,J,n,?_,<-Mp.doneR g (ve ()) q S e ?_];show V.int _=V.int _;rw[cZ,Array.getElem?_toList,j];rfl
 .ext;let b:=S1.trans S;rw[ytc]at e;erw[u,D,_,_,J,J,S _ _ hu1,e,vo (by rw[bw,bw];show 1+x.cps.size<=_;omega),λc d=>?_,<-k c _ (b.free d) ya (b.trans (y7 d))]
noncomputable def bsN(P:qj Pd):ql Str->Int
 |none=>0
 |some b=>(((P.map (·.nm)).idxOf b:Nat):Int)+1
def ykc{ns:Τ}{b:Str}(h:b∈ns):vjp ns b (ns.idxOf b):=by
 have a:ns.idxOf b<ns.length:=List.idxOf_lt_length_iff.mpr h;erw[?_,λm c e=>?_]
 .rw[bP a,List.getElem_idxOf a]
 .let#[f,d]:=ck.mp e;have:=List.not_of_lt_findIdx (p:=(· == b)) (xs:=ns) (i:=m) c;rw[d]at this;simp at this
#synth yq1 ["store","name","base"] ["store","name"] vdb
#synth ∀(K:z3)(a:Ads),∀(st:z4)(C:Cf)(P:qj Pd)(X:Sx)(q:Pd)(_:vs=[.ref st,.str q.nm])(_:Sto K a H st C P X)(_:q∈P)(_:∀l H',H l=none->H' l\[V.int (bsN P q.bs)]->yz H H'->Q (.ref l) H'),ymu
def yyw:'v' 5 a.O9 a.Qx ["store","name"] (ymu K a):=by
 exists T.Rx.F.ok,yq1,n;let#[R,C,P,X,q,J,g,v,k]:=h;let#[W,Z,vm,vp,vc,t]:=g.ins;let p:=g.nm q v;exists 2,1,yh (pst 2 yq1.nd (y6 (pv 0) T.A1 T.Fq.m (yrd T) n.m T.Fq.B .nil vn (pav 1))) (yc (ym (wk (pa1 (jq (yp yfm (pv 2) z6 (yw _)) yf (yn v9 (uy PySem.F.plainAttrs_list PySem.F.slot_list_index PySem.F.type_list_index yh8 (vi (pv 0) T.A1 T.C9.m (yf6 T) n.m T.C9.B .nil vv) (pav 2)) yf))))));erw[g.baseof p.1 (λN=>absurd J (N q v)) λr n e Y o=>?_];obtain rfl:=ă g.nd n v e;let y:=g.same o;let I:=o _ _ t
 cases hb:r.bs with
 |none =>
  ext;erw[z9 (λF=>?_) (λz=>absurd J z)];ext;exists 'l',λl c=>?_
  erw[k l _ (o.free c) ?_ (o.trans (y7 c))];rwa[hb,ya]
 |some b =>
  let i:=g.to r n;rw[hb]at i;let#[u,O,U,_]:=i;ext
  erw[z9 (λz=>nomatch z) (λF=>?_)]
  ext;erw[y.names λD S G d L=>?_];have f:S D\((P.map (·.nm)).map V.str):=by rw[d,cL];rfl
  erw[jj d ?_,←D,_,b,_,J,J,SqL.of f,ykc (ce.mpr #[u,O,U]),?_];ext;exists 'l',λl c=>?_
  let j:=o.trans L;erw[k l _ (j.free c) ?_ (j.trans (y7 c))];rwa[hb,ya]
def pdB(C:Cf)(P:qj Pd)(q:Pd):Ρ:=nmB q.nm++[bsN P q.bs]++q.by C
def lkF(C:Cf)(i:Nat):Ρ:=((List.range i).map λj=>lkB (C.kd j) (C.ps j)).flatten
def Ċ(C:Cf)(i:Nat):lkF C (i+1)=lkF C i++lkB (C.kd i) (C.ps i):=by unfold lkF;rw[List.range_succ,cy,List.flatten_append,List.map_singleton,List.flatten_singleton]
def hdB(C:Cf):Ρ:=((C.n:Nat):Int)::lkF C C.n++[((C.mo:Nat):Int)/256,((C.mo:Nat):Int)%256]
def shB(C:Cf)(P:qj Pd):Ρ:=hdB C++((P.length:Nat):Int)::(P.map (pdB C P)).flatten
theorem x9.lkl{H:Hp}{C:Cf}{lk:Μ}(h:x9 H C.n lk C.kd tp C.ps):∀i,i<=C.n->(lkF C i).length<=i*6
 |0,_=>cc _
 |i+1,hi=>by
  let#[_,_,_,_,b]:=h i ();let a:=jb b;rw[bw]at a;rw[Ċ,bY];have:=h.lkl i ();show (lkF C i).length+((C.ps i).length+1+1)<=_;omega
end
section
variable{H:Hp}{C:Cf}{P:qj Pd}{X:Sx}
def Sto.pdl(h:Sto K a H st C P X){q:Pd}(hq:q∈P):(pdB C P q).length<=5520:=by have d:=wj (h.nm q hq).1;let e:=h.sz q hq;let b:=h.cf;let c:=Ú (n:=C.n) (kd:=C.kd) (ps:=C.ps) (pre:=j6 (q.path.map (·.2))) (ts:=q.tx) b.1 b.2.1 (xu _) ();have c:(q.by C).length<=5500:=c;have b:q.nm.cps.toList.length=q.nm.length:=rfl;unfold pdB nmB;rw[bY,bY,cD,bw,b];show _+1+1+_<=_;omega
theorem Sto.pls(h:Sto K a H st C P X):∀i,i<=P.length->(((P.take i).map (pdB C P)).flatten).length<=i*5520
 |0,_=>cc _
 |i+1,hi=>by
  have b:i<P.length:=()
  rw[cH b,cy,List.flatten_append,bY];let d:=h.pls i ();let c:=h.pdl (cV b);rw[List.map_singleton,List.flatten_singleton];omega
end
mutual
def ye3(C:Cf){P:qj Pd}{i:Nat}{q:Pd}(h:P[i]?=some q):((P.take (i+1)).map (pdB C P)).flatten=((P.take i).map (pdB C P)).flatten++pdB C P q:=by rw[cH (ck.mp h).1,(ck.mp h).2,cy,List.flatten_append,List.map_singleton,List.flatten_singleton]
def wr2{m:Nat}(h:m<=1000):wr 2 (m:Int)=[(m:Int)/256,(m:Int)%256]:=by show [(m:Int)/256%256,(m:Int)%256]=_;rw[Int.emod_eq_of_lt (a:=(m:Int)/256) () ()]
#synth ş ["store","looks","names","shelf","look","name"] ["store"] vdn
#synth ∀(K:z3)(a:Ads),∀(st:z4)(C:Cf)(P:qj Pd)(X:Sx)(_:vs=[.ref st])(_:Sto K a H st C P X)(_:∀l H',H l=none->H' l\((shB C P).map V.int)->yz H H'->Q (.ref l) H'),ynr
def vcr:'v' 6 a.Oa a.Qy ["store"] (ynr K a):=by
 exists T.Ry.F.ok,ş,x;let#[st,C,P,X,J,R,k]:=h;let#[ds,vl,vm,vp,vc,ad]:=R.ins;let#[c1,c6,cm,cw,c2]:=R.cf;let ax:=R.z;erw[yg (pst 1 ş.nd (vi (pv 0) T.A1 T.Fk.m (yqh T) x.m T.Fk.B .nil vv)) ?_,<-yg (pst 2 ş.nd (vi (pv 0) T.A1 T.C9.m (yf6 T) x.m T.C9.B .nil vv)) ?_,<-yg (pst 3 ş.nd (wk (pa1 (pcB yr T.A9 (pav 1))))) ?_,<-yg (uc PassesOwn.never J (wg (pv 1)) (vz (i:=4) ş.nd J (Or.inl J)) (yc (yy (uy PySem.F.plainAttrs_list PySem.F.slot_list_extend PySem.F.type_list_extend Ò (pv 3) (pa1 (xp (yx5 T) x.m T.Rv (pav 4))))))) ?_,<-yg (yy (uy PySem.F.plainAttrs_list PySem.F.slot_list_extend PySem.F.type_list_extend Ò (pv 3) (pa1 (xp (yp0 T) x.m T.K4 (pac (vi (pv 0) T.A1 T.Kn.m (vcg T) x.m T.Kn.B .nil vv) (pa1 yf)))))) ?_,<-yg (yy ('u' (pv 3) (pa1 (pcB yr T.A9 (pav 2))))) ?_,<-yg (uc PassesOwn.never J (wg (pv 2)) (vz (i:=5) ş.nd J (Or.inl J)) (yc (yy (uy PySem.F.plainAttrs_list PySem.F.slot_list_extend PySem.F.type_list_extend Ò (pv 3) (pa1 (yn ĳ (yn ĳ (xp (yxf T) x.m T.Rw (pav 5)) (xp (yyw T) x.m T.Rx (pac (pv 0) (pav 5)))) (y6 (pv 0) T.A1 T.Fp.m (yrb T) x.m T.Fp.B .nil vn (pav 5)))))))) ?_];exists 1,5,yc (ym (pv 3));erw[R.tlooks λlo lk tp H1 an L hR S=>?_];let a0:=S _ _ ad;ext;erw[(R.same S).names λnm H2 W g N=>?_];let j:=N _ _ L;ext;erw[zd (SqL.of j) ?_];rw[v8];ext;exists 'l',λd hsh0=>?_
 exists hsh0,H3,S3,hsh3;let aB:=S.trans (N.trans S3);have a1:H d=none:=S.free (N.free hsh0);let a5:=S3 _ _ j;let aa:=S3 _ _ g;let ac:=(hR.same N).same S3;have a7:H3 d\((((C.n:Nat):Int)::lkF C 0).map V.int):=hsh3;let O:=hR.same N;let v:=R.same (S.trans N);clear hR hsh3 aa a5 ac L W a0;let a9:=O.lkl;ext;erw[lo,J,#[_,SqL.of (S3 _ _ j)],ug (K:=K) (a:=lo) (xs:=refs lk C.n) (λi σ2 G=>∃v4:Ψ,σ2=[some (.ref st),some (.ref lo),some (.ref nm),some (.ref d),v4,none]/\yz H2 G/\G d\((((C.n:Nat):Int)::lkF C i).map V.int))
  #[none,J,S3,a7] (λi σ2 G F ⟨_,_,f,_⟩=>SqL.of (f _ _ j)) ?_ ?_]
 .rintro i y σ2 G hy ⟨v4,rfl,f,c⟩;let#[J,hi]:=u9 hy;let ah:=a9 i ();let#[_,_,_,_,h3]:=O i hi;let h4:=jb h3;rw[bw]at h4;ext;erw[jj c ?_,←.ref (lk i),C.kd i,tp i,C.ps i,J,(O i hi).same f,λl G2 ap ae I=>?_,<-d,l,_,_,J,J,I _ _ c,ae,vo (by rw[bw,bw];show (lkF C i).length+1+((C.ps i).length+1+1)<=_;omega),?_,←_,J,λb o e=>ye (yb e hsh0) (I _ _ (f _ _ e)),?_];rw[ya,Ċ,<- cy];rfl
 rintro σ2 G ⟨v4,rfl,f,c⟩;rw[v8]at c;let ah:=a9 C.n (cc _);let t:=v.same f;let#[as,aD,ar,av,ay,a6]:=t.ins;clear a7;ext;erw[jj c ?_,←t.tmost ?_,←_,2,J,∅,λw G2 ag M I=>?_]
 rw[wr2 cm]at M;erw[d,w,_,_,J,J,I _ _ c,M,vo (by rw[bw];show (lkF C C.n).length+1+2<=_;omega),?_];rw[<- cy];have S4:yz H2 (upd G2 d (.lst ((((C.n:Nat):Int)::lkF C C.n++[((C.mo:Nat):Int)/256,((C.mo:Nat):Int)%256]).map V.int))):=λb o e=>ye (yb e hsh0) (I _ _ (f _ _ e));have p:upd G2 d (.lst ((((C.n:Nat):Int)::lkF C C.n++[((C.mo:Nat):Int)/256,((C.mo:Nat):Int)%256]).map V.int)) d\((hdB C).map V.int):=ya;generalize upd G2 d (.lst ((((C.n:Nat):Int)::lkF C C.n++[((C.mo:Nat):Int)/256,((C.mo:Nat):Int)%256]).map V.int))=H4 at S4 p⊢;clear c t a6 ag M I f;have ao:(hdB C).length<=40:=by unfold hdB;rw[bY,cD];show _+1+2<=40;omega
 ext;erw[jj p ?_,←zd (SqL.of (S4 _ _ g)) ?_];rw[bw];ext;erw[xx p (ve (by rw[bw];omega)) ?_];have S5:yz H2 (upd H4 d (.lst ((hdB C).map V.int++[V.int ((P.length:Nat):Int)]))):=λb o e=>ye (yb e hsh0) (S4 _ _ e)
 have ς:upd H4 d (.lst ((hdB C).map V.int++[V.int ((P.length:Nat):Int)])) d\((hdB C++((P.length:Nat):Int)::((P.take 0).map (pdB C P)).flatten).map V.int):=by
  rw[ya,cy];rfl
 generalize upd H4 d (.lst ((hdB C).map V.int++[V.int ((P.length:Nat):Int)]))=H5 at S5 ς⊢;clear p S4;have af:∀q,q∈P->(pdB C P q).length<=5520:=λq=>v.pdl;let ab:=v.pls;ext;erw[nm,J,#[_,SqL.of (S5 _ _ g)],ug (K:=K) (a:=nm) (xs:=P.map λq=>V.str q.nm) (λi σ2 G=>∃v5:Ψ,σ2=[some (.ref st),some (.ref lo),some (.ref nm),some (.ref d),v4,v5]/\yz H2 G/\G d\((hdB C++((P.length:Nat):Int)::((P.take i).map (pdB C P)).flatten).map V.int))
  #[none,J,S5,ς] (λi σ2 G F ⟨_,_,f,_⟩=>SqL.of (f _ _ g)) ?_ ?_]
 .rintro i y σ2 G hy ⟨v5,rfl,f,c⟩;rw[ci]at hy;let#[q,hq,J]:=dI.mp hy;have aF:i<P.length:=(ck.mp hq).1;have aE:P[i]=q:=(ck.mp hq).2;let u:=cz hq;let a8:=v.nm q u;let aw:=ab i ();let D:=af q u;let t:=v.same f;ext;erw[jj c ?_,←q.nm,J,a8.1,λb1 G1 am U T1=>?_,←st,C,P,X,q,J,t.same T1,u,λb2 G2 ak a2 I=>?_,←b1,b2,_,_,J,J,I _ _ U,a2,vo (by rw[bw];unfold pdB at D;rw[bY,bY]at D;show _+1<=_;omega),λb3 hb30=>?_];exists hb30,G3,T3,hb33;let Z:=T1.trans (I.trans T3);let Y:=t.same Z;let#[au,aG,aA,aC,aq,al]:=Y.ins;ext;erw[Y.bytesof a8.1 (λno=>absurd J (no q u)) λr x er b4 G4 aj a4 T4=>?_];obtain rfl:=ă R.nd x u er;ext;erw[b3,b4,_,_,J,J,T4 _ _ hb33,a4,vo (by rw[bY,bw,bw];unfold pdB at D;rw[bY,bY]at D;show _+1+_<=_;omega),λb5 hb50=>?_];exists hb50,G5,T5,hb55;let a3:=Z.trans (T4.trans T5)
  have hb55:G5 b5\((pdB C P r).map V.int):=by
   rw[hb55];unfold pdB;rw[cy,cy];rfl
  erw[d,b5,_,_,J,J,a3 _ _ c,hb55,vo (by rw[bw,bw,bY,cD];omega),?_,←_,J,λb o e=>ye (yb e hsh0) (a3 _ _ (f _ _ e)),?_];rw[ya,ye3 C hq,<- cy,cJ];rfl
 .rintro σ2 G ⟨v5,rfl,f,c⟩;rw[bw,cU]at c;ext;erw[k d G a1 c (S.trans (N.trans f))]
structure RdR(a:Ads)(H:Hp)(r dr dl:z4)(d:Ρ)(j:Nat):Prop where
 me:H r∩a.A4 dr (zy (.ref dl) (.int ((j:Nat):Int)))
 dl:H dl\(d.map V.int)
def RdR.same{H H':Hp}{r dr dl:z4}{d:Ρ}(h:RdR a H r dr dl d j)(S:yz H H'):RdR a H' r dr dl d j:=#[S _ _ h.me,S _ _ h.dl]
#synth yyd ["self","data"] vc6
#synth ∀(a:Ads),∀(r dr dl:z4)(d:Ρ)(_:vs=[.ref r,.ref dl])(_:H r∩a.A4 dr [])(_:H dl\(d.map V.int))(_:∀H',RdR a H' r dr dl d 0->But r H H'->Q .non H'),yid
def vap:'v' 1 a.I6 a.Qz ["self","data"] (yid a):=by
 exists T.Rz.F.ok,yyd,m;let#[r,f,b,d,J,j,c,k]:=h;have g:b≠r:=λz=>by rw[z,j]at c;cases c
 exists 2,0,yh (vg (pv 0) (pv 1) J) (yc (vg (pv 0) yf J));have n:upd H r (.ins a.A4 f [("data",.ref b)]) r∩a.A4 f [("data",.ref b)]:=ya;ext;erw[k _ #[ya,ye g (ye g c)] (But.upd.trans But.upd)]
def But.non{r t:z4}{H H':Hp}{o:HO}(b:But r H H')(hr:H' r=some o)(h:H' t=none):H t=none:=by
 cases e:H t with
 |none=>rfl
 |some o' =>
  by_cases z:t=r
  .rw[z,hr]at h;cases h
  .rw[b t o' e z]at h;cases h
#synth yx8 ["self"] vfv
#synth ∀(a:Ads),∀(r dr dl:z4)(d:Ρ)(j:Nat)(x:Int)(xt:Ρ)(_:vs=[.ref r])(_:RdR a H r dr dl d j)(_:d.drop j=x::xt)(_:∀H',RdR a H' r dr dl d (j+1)->But r H H'->Q (.int x) H'),ynk
def Ā:'v' 1 a.Ob a.R0 ["self"] (ynk a):=by
 exists T.Au.F.ok,yx8,B;let#[r,c,b,d,j,x,xt,J,h,g,k]:=h;let l:=h.me;have t:b≠r:=λz=>by have e:=h.dl;rw[z,l]at e;cases e
 have o:j<d.length:=by
  rcases Nat.lt_or_ge j d.length with z|z
  .erw[z]
  .rw[List.drop_eq_nil_of_le z]at g;cases g
 have i:d[j]?=some x:=by
  rw[dC o]at g;rw[bP o];cases g;rfl
 exists 1,0,yh (vj (yp w6 pfs (pcB yr T.A9 (pa1 pfs)) (yw _)) (yc za) yq) (yh (vg (pv 0) (yn v9 pfs yf) J) (yc (ym (pix we pfs (yn zq pfs yf)))));erw[zd (SqL.of h.dl) ?_];rw[bw];ext;erw[z9 (λz=>absurd z ()) (λZ=>?_)];ext;have f:RdR a (upd H r (.ins a.A4 c (zy (.ref b) (.int ((j:Nat)+1))))) r c b d (j+1):=#[ya,ye t h.dl];have n:But r H (upd H r (.ins a.A4 c (zy (.ref b) (.int ((j:Nat)+1))))):=But.upd;generalize upd H r (.ins a.A4 c (zy (.ref b) (.int ((j:Nat)+1))))=y at f n⊢;let p:=f.me;ext;erw[ua (v:=.int x) (SqL.of f.dl) (by rw[show ((j:Nat):Int)+1-1=((j:Nat):Int) by omega];erw[vw (by rw[ci,i];rfl)]) ?_,<-k _ f n]
def vkr(K:z3)(H:Hp)(pt:V)(x:Nat)(v:V):Prop :=
 (∃p xs,pt=.ref p/\H p\xs/\xs[x]?=some v)\/(∃p xs,pt=.ref p/\(∀H,SqT K H p xs)/\xs[x]?=some v)\/∃(z:Str)(c:Nat),pt=.str z/\z.length<=1000/\z.cps[x]?=some c/\v=.str ⟨#[c]⟩
#synth ypx ["self","parts","number"] ["self","parts"] vdt
#synth ∀(K:z3)(a:Ads),∀(r dr dl:z4)(d:Ρ)(j x:Nat)(xt:Ρ)(pt v:V)(_:vs=[.ref r,pt])(_:RdR a H r dr dl d j)(_:d.drop j=((x:Nat):Int)::xt)(_:vkr K H pt x v)(_:∀H',RdR a H' r dr dl d (j+1)->But r H H'->Q v H'),ym7
def ylx:'v' 2 a.Oc a.R1 ["self","parts"] (ym7 K a):=by
 exists T.Dl.F.ok,ypx,ς;let#[r,y,t,d,j,x,xt,D,v,J,h,L,b,k]:=h;let o:=h.me;exists 2,1,yh (pst 2 ypx.nd (vi (pv 0) T.A7 T.Au.m (Ā T) ς.m T.Au.B .nil vv)) (yh (vj (yp ywu (pv 2) (ı (pcB yr T.A9 (pav 1)) (pcB xj T.A9 (pav 1))) (yw _)) (yc za) yq) (yc (ym (ı (pix we (pv 1) (pv 2)) (ı (pix zt (pv 1) (pv 2)) (xc (pv 1) (pv 2) (λZ Z=>rfl)))))));erw[r,y,t,d,j,_,xt,J,h,L,λN l i=>?_];rcases b with⟨p,q,rfl,b,g⟩|⟨p,q,rfl,b,g⟩|⟨z,c,rfl,M,C,rfl⟩
 .let f:=i _ _ b λz=>by rw[z,o]at b;cases b
  have u:x<q.length:=(ck.mp g).1;ext;erw[ÿ ?_,←zd (SqL.of f) ?_,←z9 (λz=>absurd z ()) (λZ=>?_),←ÿ ?_,←ua (SqL.of f) (vw g) ?_,<-k _ l i]
 .have u:x<q.length:=(ck.mp g).1;ext;erw[ÿ ?_,←p,_,J,.inr (b _),?_,←z9 (λz=>absurd z ()) (λZ=>?_),←Â (ÿ ?_),←Ĺ (b _) (vw g) ?_,<-k _ l i]
 .have u:x<z.length:=by
   let e:=(Array.getElem?_eq_some_iff.mp C).1;erw[e]
  ext;erw[Â ?_,←z,J,vo (),?_,←z9 (λz=>absurd z ()) (λZ=>?_),←Â (Â ?_),←z,((x:Nat):Int),c,J,J,(),(),(),by rwa[Int.toNat_natCast,C],?_]
  erw[k _ l i]
def vid(kd:Fin 3):([.str "even",.str "quick",.str "run"]:Υ)[kd.val]?=some (.str (kdS kd)):=by
 match kd with
 |0=>rfl
 |1=>rfl
 |2=>rfl
#synth ylu ["self","kind","many"] ["self"] vfn
#synth ∀(K:z3)(a:Ads),∀(r dr dl:z4)(d:Ρ)(j:Nat)(kd:Fin 3)(ps xt:Ρ)(_:vs=[.ref r])(_:RdR a H r dr dl d j)(_:d.drop j=lkB kd ps++xt)(_:ps.length<=255)(_:∀t tp H',H t=none->H tp=none->H' t∪[.str (kdS kd),.ref tp]->H' tp∪(ps.map V.int)->RdR a H' r dr dl d (j+(2+ps.length))->But r H H'->Q (.ref t) H'),ym1
def vas:'v' 3 a.Od a.R3 ["self"] (ym1 K a):=by
 exists T.Kt.F.ok,ylu,U;let#[r,I,q,d,j,R,c,xt,J,h,hx,a0,k]:=h;let a2:=h.me
 have v:d.drop (j+1)=((c.length:Nat):Int)::(c++xt):=by
  rw[<- List.drop_drop,hx];rfl
 have hx2:d.drop (j+1+1)=c++xt:=by
  rw[<- List.drop_drop,v];rfl
 exists 1,2,yh (pst 1 ylu.nd (ww (pv 0) T.A7 T.Dl.m (ylx T) U.m T.Dl.B .nil vv (pa1 (δ J T.Eu)))) (yh (pst 2 ylu.nd (vi (pv 0) T.A7 T.Au.m (Ā T) U.m T.Au.B .nil vv)) (yc (ym (zz (pac (pv 1) (pa1 (pcT Ï T.D6 (pa1 (vt (js:=[0]) (ys:=["self"]) J (xz J T.Ar (pav 2)) (λC s2 H2 fp=>(vi (pv 1) T.A7 T.Au.m (Ā T) U.m T.Au.B .nil vv)) J J (hyc:=(all_cons J yu)) (hrel:=(all_cons J yu)))))))))));erw[r,I,q,d,j,R.val,_,_,.str (kdS R),J,h,hx,.inr (.inl #[a.Ba,_,J,T.w_KINDS,vid R]),λH1 X b1=>?_];let Z:=X.me;ext;erw[r,I,q,d,j+1,_,_,J,X,v,λH2 N b2=>?_];let f:=N.me;let y:=b1.trans b2;ext;erw[_,J,(),(),λD l=>?_]
 have ς:D≠r:=λz=>by rw[z,f]at l;cases l
 erw[jo (n:=c.length) (λi G=>RdR a G r I q d (j+1+1+i)/\G D\((c.take i).map V.int)/\But r H2 G) #[#[ye (yb f l) f,ye (yb N.dl l) N.dl],ya,λb o e F=>ye (yb e l) e] (λi G W z=>?_) (λG z=>?_)]
 .let#[p,g,O]:=z;let Y:=p.me;ext;exists r,I,q,d,j+1+1+i,c[i],c.drop (i+1)++xt,J,p,?_,λG1 L x=>?_
  .rw[<- List.drop_drop,hx2,List.drop_append_of_le_length (),dC W];rfl
  .let u:=x _ _ g ς;ext;erw[xh (n:=c.length) u (ve (by rw[bw,cG];omega)) W #[#[ye ς.symm L.me,ye (yb N.dl l) L.dl],by rw[ya,cH W,cy];rfl,λb o e n=>ye (yb e l) (x _ _ (O b o e n) n)]]
 let#[p,g,O]:=z;rw[cU]at g;ext;erw[D,_,J,.inl #[SqL.of g,λtp htp=>?_]];exists htp,G1,S1,e1;ext;exists by show 2<=sizeLine;decide,λt ht=>?_
 exists ht,G2,S2,e2;have M:But r H G1:=λb o e n=>S1 _ _ (O _ _ (y _ _ e n) n);erw[k t tp G2 (M.non (S1 _ _ p.me) ht) ((y.trans O).non p.me htp) e2 (S2 _ _ e1) (by rw[show j+(2+c.length)=j+1+1+c.length by omega];erw[p.same (S1.trans S2)]) λb o e n=>S2 _ _ (M b o e n)]
structure CfG(C:Cf):Prop where
 n:1<=C.n/\C.n<=6
 m:C.mo<=1000/\C.w<=C.mo/\C.w<=200
 p:∀i,i<C.n->uz ((C.ps i).map V.int)=true
theorem ysh(C:Cf){i:Nat}:∀{n:Nat},i<n->∃m,lkF C n=lkF C i++(lkB (C.kd i) (C.ps i)++m)
 |n+1,h=>by
  rw[Ċ];rcases Nat.lt_or_ge i n with z|z
  .let#[m,e]:=ysh C z;erw[m++lkB (C.kd n) (C.ps n),by rw[e,cJ,cJ]]
  .obtain rfl:i=n:=()
   erw[[],by rw[dQ]]
def uw{d A B:Ρ}{k:Nat}(h:d.drop k=A++B):d.drop (k+A.length)=B:=by rw[<- List.drop_drop,h,List.drop_left]
def yu0(tt:Μ)(i:Nat)(t:z4):refs (λj=>if j=i then t else tt j) (i+1)=refs tt i++[V.ref t]:=by rw[ud,if_pos J,ub λj a=>if_neg (cY a)]
#synth yf8 ["self","many","looks","upper"] ["self"] vd6
#synth ∀(K:z3)(a:Ads),∀(r dr dl:z4)(d:Ρ)(j:Nat)(C:Cf)(xt:Ρ)(_:vs=[.ref r])(_:RdR a H r dr dl d j)(_:d.drop j=hdB C++xt)(_:CfG C)(_:∀st X H',Sto K a H' st C [] X->RdR a H' r dr dl d (j+(hdB C).length)->But r H H'->(∀y,X.f y->H y=none)->Q (.ref st) H'),yiq
def yyg:'v' 12 a.Oe a.R4 ["self"] (yiq K a):=by
 exists T.Ku.F.ok,yf8,Z;let#[r,N,L,d,j,C,xt,J,h,hx,hC,k]:=h;let ac:=h.me;let#[#[n1,n6],#[m1,wm,w2],S]:=hC
 have a0:d.drop j=((C.n:Nat):Int)::(lkF C C.n++([((C.mo:Nat):Int)/256,((C.mo:Nat):Int)%256]++xt)):=by
  rw[hx];unfold hdB;rw[cJ];rfl
 have W:d.drop (j+1)=lkF C C.n++([((C.mo:Nat):Int)/256,((C.mo:Nat):Int)%256]++xt):=uw (A:=[_]) a0;let hx2:=uw W;let a3:=uw (A:=[_]) hx2;exists 1,3,yh (pst 1 yf8.nd (vi (pv 0) T.A7 T.Au.m (Ā T) Z.m T.Au.B .nil vv)) (yh (yfh (i:=2) (js:=[0]) (ys:=["self"]) yf8.nd J J J (xz J T.Ar (pav 1)) (λC s2 H2 fp=>(vi (pv 1) T.A7 T.Kt.m (vas T) Z.m T.Kt.B .nil vv)) J J (hyc:=(all_cons J yu)) (hrel:=(all_cons J yu))) (yh (pst 3 yf8.nd (vi (pv 0) T.A7 T.Au.m (Ā T) Z.m T.Au.B .nil vv)) (yc (ym (uv T.Gw (yqp T) Z.m J T.Gv T.Ru .nil vn (pac (pv 2) (pa1 (yn v9 (yn w4 yf (pv 3)) (vi (pv 0) T.A7 T.Au.m (Ā T) Z.m T.Au.B .nil vv)))))))));erw[r,N,L,d,j,_,_,J,h,a0,λH1 h1 b1=>?_];let f:=h1.me;ext;erw[_,J,(),(),λD u=>?_]
 have ς:D≠r:=λz=>by rw[z,f]at u;cases u
 erw[jo (n:=C.n) (λi G=>∃p M,RdR a G r N L d (j+1+(lkF C i).length)/\G D\(refs p i)/\x9 G i p C.kd M C.ps/\But r H1 G) #[λF=>0,λF=>0,#[ye (yb f u) f,ye (yb h1.dl u) h1.dl],ya,λi O=>absurd O (cP _),λb o e F=>ye (yb e u) e] (λi G O z=>?_) (λG z=>?_)]
 .let#[p,M,hG,v,hR,bG]:=z;let c:=hG.me;let#[m,em]:=ysh C O;let a7:=jb (S i O);rw[bw]at a7;ext;exists r,N,L,d,_,C.kd i,C.ps i,m++([((C.mo:Nat):Int)/256,((C.mo:Nat):Int)%256]++xt),J,hG,uw (by rw[W,em,cJ,cJ]),(),λt tq G1 ad aa ht a8 a1 g=>?_
  let q:=g _ _ v ς;erw[xh q (ve (by rw[v8];omega)) O #[λk=>if k=i then t else p k,λk=>if k=i then tq else M k,#[by rw[Ċ,bY,show (lkB (C.kd i) (C.ps i)).length=2+(C.ps i).length by show _+1+1=_;omega,<- Nat.add_assoc];erw[ye ς.symm a1.me],ye (yb h1.dl u) a1.dl],by rw[ya,yu0],λk hk=>?_,λb o e n=>ye (yb e u) (g _ _ (bG b o e n) n)]];have up:∀{x:z4}{I:Υ},G1 x∪I->upd G1 D (.lst (refs p i++[.ref t])) x∪I:=λ{x I}e=>ye (λz=>by rw[z,q]at e;cases e) e;show LkG _ (.ref (if k=i then t else p k)) (C.kd k) (if k=i then tq else M k) (C.ps k);by_cases z:k=i
  .rw[if_pos z,if_pos z,z];erw[t,J,up ht,up a8,S i O]
  .rw[if_neg z,if_neg z];let#[l,e,e1,e2,e3]:=hR k ();have nr:∀{x:z4}{I:Υ},G x∪I->x≠r:=λ{x I}e z=>by rw[z,c]at e;cases e
   erw[l,e,up (g _ _ e1 (nr e1)),up (g _ _ e2 (nr e2)),e3]
 let#[p,M,hG,v,hR,bG]:=z;let c:=hG.me;ext;erw[r,N,L,d,_,_,_,J,hG,hx2,λH3 h3 b3=>?_];let a9:=h3.me;ext;erw[r,N,L,d,_,_,_,J,h3,a3,λH4 h4 b4=>?_];ext;intro st ds Y U ae;let a2:=(bG.trans b3).trans b4;let R:=b1.trans a2;let a6:=(b3.trans b4) _ _ v ς;have a5:x9 H4 C.n p C.kd M C.ps:=hR.fr λx I e=>(b3.trans b4) _ _ e λz=>by rw[z,c]at e;cases e
 rw[show 256*(((C.mo:Nat):Int)/256)+((C.mo:Nat):Int)%256=((C.mo:Nat):Int) by omega];erw[Sto.new (mo:=C.mo) (w:=C.w) Y U a6 n1 n6 a5 m1 wm w2 λX H5 hS S5 hn F=>#[J,?_],<-k st X H5 hS ?_ (λb o e n=>S5 _ _ (R b o e n)) λy hy=>R.non h4.me (hn y hy)];rw[show j+(hdB C).length=j+1+(lkF C C.n).length+1+1 by unfold hdB;rw[bY,cD];show _+(_+1+2)=_;omega];erw[h4.same S5]
def yta{x:Str}(h:nmS x=true){c:Nat}(hc:c∈x.cps.toList):yhp c=true:=by unfold nmS at h;simp only[cC,List.all_eq_true]at h;erw[h.2.2 c hc]
def yt8{c:Nat}(h:yhp c=true):97<=c/\c<=122:=by
 unfold yhp at h;have h:(!(Builtin.Str.occurrences smS ⟨#[c]⟩ 0 smS.length 1).isEmpty)=true:=h;rw[PySem.StrLaws.found_one]at h;let#[i,d,e]:=List.mem_iff_getElem.mp (of_decide_eq_true h)
 have a:i<26:=by
  have:=ķ;have e:smS.cps.toList.length=smS.length:=rfl;omega
 let b:=yle i a;rw[<- Array.getElem?_toList,bP d,e]at b;have:=cu b;omega
#synth yj2 ["self","many"] ["self"] ypy
#synth ∀(K:z3)(a:Ads),∀(r dr dl:z4)(d:Ρ)(j:Nat)(x:Str)(xt:Ρ)(_:vs=[.ref r])(_:RdR a H r dr dl d j)(_:d.drop j=nmB x++xt)(_:nmS x=true)(_:∀H',RdR a H' r dr dl d (j+(nmB x).length)->But r H H'->Q (.str x) H'),ymg
def yvp:'v' 3 a.I7 a.J1 ["self"] (ymg K a):=by
 exists T.Gc.F.ok,yj2,W;let#[r,L,I,d,j,x,xt,J,h,X,Y,k]:=h;let a1:=h.me;let h8:=wj Y;have R:d.drop (j+1)=(x.cps.toList.map λc=>((lix c:Nat):Int))++xt:=uw (A:=[_]) X;exists 1,1,yh (pst 1 yj2.nd (vi (pv 0) T.A7 T.Au.m (Ā T) W.m T.Au.B .nil vv)) (yc (ym (uy PySem.F.plainAttrs_str PySem.F.slot_str_join PySem.F.type_str_join Ù y8 (pa1 (vt (js:=[0]) (ys:=["self"]) J (xz J T.Ar (pav 1)) (λC s2 H2 fp=>(ww (pv 1) T.A7 T.Dl.m (ylx T) W.m T.Dl.B .nil vv (pa1 (zi J T.Cy)))) J J (hyc:=(all_cons J yu)) (hrel:=(all_cons J yu)))))));erw[r,L,I,d,j,_,_,J,h,X,λH1 ς Z=>?_];let f:=ς.me;ext;erw[J,?_,←_,J,(),(),λD p=>?_]
 have v:D≠r:=λz=>by rw[z,f]at p;cases p
 have l:x.cps.toList.length=x.length:=rfl;erw[jo (n:=x.length) (λi G=>RdR a G r L I d (j+1+i)/\G D\((x.cps.toList.take i).map λc=>V.str ⟨#[c]⟩)/\But r H1 G) #[#[ye (yb f p) f,ye (yb ς.dl p) ς.dl],ya,λb o e F=>ye (yb e p) e] (λi G u z=>?_) (λG z=>?_)]
 .let#[M,g,N]:=z;let S:=M.me;rw[<- l]at u;let U:=yt8 (yta Y (cV u));ext;exists r,L,I,d,j+1+i,lix x.cps.toList[i],(x.cps.toList.drop (i+1)).map (λc=>((lix c:Nat):Int))++xt,_,.str ⟨#[x.cps.toList[i]]⟩,J,M,?_,.inr (.inr #[smS,x.cps.toList[i],J,by rw[ķ];decide,?_,J]),λG1 y t=>?_
  .rw[<- List.drop_drop,R,List.drop_append_of_le_length (by rw[bw];omega),<- List.map_drop,dC u];rfl
  .rw[ysp U.1 U.2,yle _ ()]
   congr 1
   omega
  .let q:=t _ _ g v;erw[xh q (ve (by rw[bw,cG];omega)) (by rwa[<- l,u]) #[#[ye v.symm y.me,ye (yb ς.dl p) y.dl],by rw[ya,cH u,cy];rfl,λb o e n=>ye (yb e p) (t _ _ (N b o e n) n)]]
 let#[M,g,N]:=z;rw[<- l,cU]at g;ext;erw[⟨#[]⟩,D,x.cps.toList.map λc=>(⟨#[c]⟩:Str),J,J,SqL.of (by rwa[cL,g]),by rw[cL,vkj,bw];show _+_*0<=_;omega,?_]
 rw[PyProof.Rows.join_ones,show (⟨x.cps.toList.toArray⟩:Str)=x by rw[Array.toArray_toList]];erw[k _ (by rw[show j+(nmB x).length=j+1+x.length by unfold nmB;rw[cD,bw];omega];erw[M]) (Z.trans N)]
structure PdN(C:Cf)(P:qj Pd)(q:Pd):Prop where
 nm:okN q.nm
 no:∀u,u∈P->u.nm≠q.nm
 z:P.length<60
 s:Sgs q.tx
 l:q.tx.length<=C.w
 to:ToD P q.bs q.path
noncomputable def bsX(P:qj Pd):ql Str->Nat
 |none=>0
 |some b=>(P.map (·.nm)).idxOf b+1
def vb8(P:qj Pd)(x:Φ):bsN P x=((bsX P x:Nat):Int):=by
 cases x with
 |none=>rfl
 |some b=>show (((P.map (·.nm)).idxOf b:Nat):Int)+1=(((P.map (·.nm)).idxOf b+1:Nat):Int);omega
def vag{P:qj Pd}{x:Φ}(h:ToD P x L):([V.non]++P.map λq=>V.str q.nm)[bsX P x]?=some (baV x):=by
 cases x with
 |none=>rfl
 |some b =>
  let#[r,a,e,_]:=h;have:=(ykc (ns:=P.map (·.nm)) (b:=b) (ce.mpr #[r,a,e])).1;show (P.map λq=>V.str q.nm)[(P.map (·.nm)).idxOf b]?=_;rw[show (P.map λq=>V.str q.nm)=(P.map (·.nm)).map V.str by rw[cL];rfl,ci,this];rfl
def yu2{xs:Υ}{p m:Nat}(h:p<=xs.length):yc0 xs (some (p:Int)) (some ((p:Int)+(m:Int)))=(xs.drop p).take m:=by
 unfold yc0;rw[show (p:Int)+(m:Int)=((p+m:Nat):Int) by omega,HT.sIx_nat,HT.sIx_nat,Nat.min_eq_left h];rcases Nat.le_total (p+m) xs.length with z|z
 .rw[Nat.min_eq_left z,Nat.add_sub_cancel_left]
 .rw[Nat.min_eq_right z,db (by rw[dE];omega),db (by rw[dE];omega)]
def ykg{n:Nat}{kd:Ξ}{ps:Λ}{pre bs cs:Ρ}(n1:1<=n)(n6:n<=6)(hp:ycx pre)(hts:Sgs ts)(hus:Sgs us)(e:jl n kd ps pre ts++bs=jl n kd ps pre us++cs):ts=us:=by
 have c:∀(x:Ρ)(j:Nat),j<(dec x).length->Ch (xy n kd ps pre x j):=λx j Z=>ø n1 n6 hp j;rcases Nat.le_total (jl n kd ps pre us).length (jl n kd ps pre ts).length with h|h
 .erw[yjs hts hus (c ts) (c us) ?_];have:=congrArg (List.take (jl n kd ps pre us).length) e;rw[List.take_append_of_le_length h,List.take_left]at this;erw[this]
 .erw[(yjs hus hts (c us) (c ts) ?_).symm];have:=congrArg (List.take (jl n kd ps pre ts).length) e.symm;rw[List.take_append_of_le_length h,List.take_left]at this;erw[this]
#synth yav ["self","store","name","base","ahead"] ["self","store"] ysc
#synth ∀(K:z3)(a:Ads),∀(r dr dl:z4)(d:Ρ)(j:Nat)(st:z4)(C:Cf)(P:qj Pd)(X:Sx)(q:Pd)(xt:Ρ)(_:vs=[.ref r,.ref st])(_:RdR a H r dr dl d j)(_:Sto K a H st C P X)(_:¬X.f r)(_:¬X.f dl)(_:Byt d)(_:d.drop j=pdB C P q++xt)(_:PdN C P q)(_:∀Y H',Sto K a H' st C (P++[q]) Y->RdR a H' r dr dl d (j+(pdB C P q).length)->(∀b o,H b=some o->¬X.f b->b≠r->H' b=some o)->(∀y,Y.f y->X.f y\/H y=none)->Q .non H'),ynj
def yua:'v' 14 a.I8 a.J2 ["self","store"] (ynj K a):=by
 exists T.Gd.F.ok,yav,W;let#[r,dr,U,d,j,st,C,P,X,q,xt,J,h,hS,M,nd,hd,hx,p,k]:=h;let a7:=h.me;let i:=hS.cf;let ag:=wj p.nm.1
 have R:d.drop j=nmB q.nm++(bsN P q.bs::(q.by C++xt)):=by
  rw[hx];unfold pdB;rw[cJ,cJ];rfl
 let ς:=uw R;have hx2:d.drop (j+(nmB q.nm).length+1)=q.by C++xt:=uw (A:=[_]) ς;rw[vb8]at ς;let ho:=Ú (n:=C.n) (kd:=C.kd) (ps:=C.ps) (pre:=j6 (q.path.map (·.2))) (ts:=q.tx) i.1 i.2.1 (xu _) (by have:=p.l;omega);have ho:(q.by C).length<=5500:=ho;exists 2,3,yh (pst 2 yav.nd (vi (pv 0) T.A7 T.Gc.m (yvp T) W.m T.Gc.B .nil vv)) (yh (pst 3 yav.nd (ww (pv 0) T.A7 T.Dl.m (ylx T) W.m T.Dl.B .nil vv (pa1 (yn ĳ (wk (pa1 z6)) (vi (pv 1) T.A1 T.C9.m (yf6 T) W.m T.C9.B .nil vv))))) (yh (pst 4 yav.nd (x8 ju pfs (ut pfs) (ut (yn v9 pfs (vy J T.Cm))))) (yc (vg (pv 0) (yn v9 pfs (y6 (pv 1) T.A1 T.Ko.m (yx0 T) W.m T.Ko.B .nil vn (pac (pv 2) (pac (pv 4) (pav 3))))) J))));erw[r,dr,U,d,j,q.nm,_,J,h,R,p.nm.1,λH1 h1 b1=>?_];let ac:=h1.me;let L:=hS.but (WSh.mu a7 J) M b1;let#[ds,vl,vm,vp,vc,G]:=L.ins;ext;exists 'l',λu hu0=>?_
 exists hu0,H2,S2,hu2;let ad:=S2 _ _ G;ext;erw[(L.same S2).names λl H3 ae a9 S3=>?_,←u,l,_,_,J,J,S3 _ _ hu2,a9,vo (by rw[bw];have:=p.z;show 1+_<=_;omega),λc hc0=>?_];exists hc0,H4,S4,hc4;let D:=S2.trans (S3.trans S4);let a0:=L.same D;let h4:=h1.same D;ext;erw[r,dr,U,d,_,_,_,_,_,J,h4,ς,.inl #[c,_,J,hc4,vag p.to],λH5 h5 Z=>?_];let aa:=h5.me;let O:=a0.but (WSh.mu h4.me J) M Z;let S:=Z _ _ (D _ _ G) λz=>M (by rwa[<- z,hS.me]);ext;erw[ya6 (SqL.of h5.dl) λah hah0=>?_]
 have a4:j+(nmB q.nm).length+1<=(d.map V.int).length:=by
  rw[bw];rcases Nat.le_total (j+(nmB q.nm).length+1) d.length with z|z
  .erw[z]
  .rw[List.drop_eq_nil_of_le z]at hx2;have:=congrArg List.length hx2;have o1:1<=(q.by C).length:=ye8 i.1 i.2.1 (xu _);rw[bY,List.length_nil]at this;omega
 rw[show ((j+(nmB q.nm).length+1:Nat):Int)+12000=((j+(nmB q.nm).length+1:Nat):Int)+((12000:Nat):Int)from rfl,yu2 a4,<- List.map_drop,<- List.map_take,hx2,List.take_append,db ()];exists hah0,H6,S6,hah6;let h6:=h5.same S6;let t:=h6.me;let x:=O.same S6;let ab:=S6 _ _ S
 have a5:¬X.f ah:=λw=>by
  let#[o,e]:=O.live _ w;rw[hah0]at e;cases e
 have a8:Byt (q.by C++xt.take (12000-(q.by C).length)):=λb hb=>hd b (by
  have:b∈q.by C++xt:=(cK.mp hb).elim (λz=>du _ z) λz=>cQ _ (dn z);rw[<- hx2]at this;erw[List.mem_of_mem_drop this])
 ext;erw[st,ah,C,P,X,q.nm,q.bs,q.path,_,J,x,p.nm.2,(),hah6,a5,a8,by rw[bY,cG];omega,λts bs g=>?_,p.to,λts bs g Y H7 a2 N=>?_,λno=>absurd #[p.nm.1,p.no,p.z,p.s,by have:=p.l;omega,J] (no q.tx _)]
 .rw[ykg (bs:=bs) i.1 i.2.1 (xu _) g.s p.s g.e.symm];erw[p.l]
 obtain rfl:=ykg (bs:=bs) i.1 i.2.1 (xu _) g.s p.s g.e.symm;let I:=N.g.fr _ _ t λw=>M (x.wf _ w);let v:=N.g.fr _ _ h6.dl λw=>nd (x.wf _ w);have a3:¬Y.f r:=λw=>(N.f r w).elim M λe=>by rw[t]at e;cases e
 have a1:U≠r:=λz=>by rw[z,I]at v;cases v
 ext;have lv:∀{b:z4}{o:HO},H b=some o->b≠r->H6 b=some o:=λ{b o}e n=>S6 _ _ (Z _ _ (D _ _ (b1 _ _ e n)) n);erw[k Y _ (a2.but (WSh.mu I J) a3 But.upd) #[?_,ye a1 v] (λb o e nf n=>ye n (N.g.fr _ _ (lv e n) λw=>nf (x.wf _ w))) λy hy=>(N.f y hy).imp id λe=>?_]
 .rw[ya,show j+(pdB C P q).length=j+(nmB q.nm).length+1+(q.by C).length by unfold pdB;rw[bY,bY,df];omega];rfl
 .cases e0:H y with
  |none=>rfl
  |some o =>
   by_cases z:y=r
   .rw[z,t]at e;cases e
   .rw[lv e0 z]at e;cases e
def Stk(P:qj Pd):Prop:=∀(i:Nat)(r:Pd)(b:Str),P[i]?=some r->r.bs=some b->∃j s,j<i/\P[j]?=some s/\s.nm=b
structure ypj(C:Cf)(P:qj Pd):Prop where
 c:CfG C
 w:PdW P
 z:P.length<=60
 nm:∀q,q∈P->okN q.nm
 s:∀q,q∈P->Sgs q.tx/\q.tx.length<=C.w
 k:Stk P
def Sto.shok{H:Hp}{C:Cf}{P:qj Pd}{X:Sx}(h:Sto K a H st C P X)(k:Stk P):ypj C P:=by have b:=h.cf;erw[#[#[b.1,b.2.1],#[b.2.2.1,b.2.2.2.1,b.2.2.2.2],λi g=>?_],h.pw,h.z,h.nm,λq e=>#[(h.sz q e).1,(h.sz q e).2.1],k];let#[v,m,d,c,n,p,j,u,l,r,o,L,t,U,s,J,J]:=h;let#[_,_,_,_,f]:=s.row i g;erw[f]
def ypj.nx{C:Cf}{P:qj Pd}(h:ypj C P){i:Nat}(hi:i<P.length):PdN C (P.take i) P[i]/\pdB C (P.take i) P[i]=pdB C P P[i]:=by
 let c:=cV hi;let a:=h.w.wf _ c
 have d:∀b,P[i].bs=some b->∃s,s∈P.take i/\s.nm=b:=λb e=>by
  let#[j,s,l,p,n]:=h.k i P[i] b (bP hi) e;erw[s,cz (i:=j) (by rwa[List.getElem?_take_of_lt l,p]),n]
 erw[#[h.nm _ c,λu t e=>?_,by rw[cG];have:=h.z;omega,(h.s _ c).1,(h.s _ c).2,?_],?_]
 .let#[j,l,J]:=List.mem_iff_getElem.mp t;rw[cG]at l;rw[List.getElem_take]at e;have:=ă (q:=P[j]) (r:=P[i]) h.w.nd (cV _) c e;have:=List.pairwise_iff_getElem.mp h.w.nd j i (by rw[bw];omega) (by rwa[bw,hi]) ();rw[dH,dH]at this;erw[this e]
 .cases eb:P[i].bs with
  |none=>rw[eb]at a;erw[a]
  |some b =>
   rw[eb]at a;let#[r,o,m,v]:=a;let#[s,f,g]:=d b eb;obtain rfl:=ă h.w.nd o (dn f) (m.trans g.symm);erw[r,f,m,v]
 .unfold pdB
  congr 3
  cases eb:P[i].bs with
  |none=>rfl
  |some b =>
   let#[s,f,g]:=d b eb;show (((((P.take i).map (·.nm)).idxOf b:Nat):Int)+1)=(((P.map (·.nm)).idxOf b:Nat):Int)+1
   have e:(P.map (·.nm)).idxOf b=((P.take i).map (·.nm)).idxOf b:=by
    conv=>lhs;rw[<- dS i P]
    rw[cy,List.idxOf_append,if_pos (ce.mpr #[s,f,g])]
   rw[e]
def vh7{P:qj Pd}{i:Nat}(hi:i<P.length)(f:Pd->qj Int):(P.map f).flatten=((P.take i).map f).flatten++(f P[i]++((P.drop (i+1)).map f).flatten):=by
 conv=>lhs;rw[<- dS i P,dC hi]
 rw[cy,List.flatten_append,cX,List.flatten_cons]
#synth yd8 ["self","store","place"] ["self"] ysk
#synth ∀(K:z3)(a:Ads),∀(r dr dl:z4)(C:Cf)(P:qj Pd)(_:vs=[.ref r])(_:RdR a H r dr dl (shB C P) 0)(_:Byt (shB C P))(_:ypj C P)(_:∀st X H',Sto K a H' st C P X->But r H H'->(∀y,X.f y->H y=none)->Q (.ref st) H'),yit
def yt7:'v' 15 a.I9 a.J3 ["self"] (yit K a):=by
 exists T.Ge.F.ok,yd8,S;let#[r,x,p,C,P,J,h,R,l,k]:=h;let g:=h.me;have hx:(shB C P).drop 0=hdB C++(((P.length:Nat):Int)::(P.map (pdB C P)).flatten):=rfl;let u:=uw hx;have hx2:(shB C P).drop (0+(hdB C).length+1)=(P.map (pdB C P)).flatten:=uw (A:=[_]) u;let hz:=l.z;erw[yg (pst 1 yd8.nd (vi (pv 0) T.A7 T.Ku.m (yyg T) S.m T.Ku.B .nil vv)) ?_,<-yg (uc PassesOwn.never J (xz J T.Ar (pa1 (vi (pv 0) T.A7 T.Au.m (Ā T) S.m T.Au.B .nil vv))) (vz (i:=2) yd8.nd J (Or.inl J)) (yc (yy (ww (pv 0) T.A7 T.Gd.m (yua T) S.m T.Gd.B .nil vv (pav 1))))) ?_,<-yg (vj (yp ycu pfs (pcB yr T.A9 (pa1 pfs)) (yw _)) (yc za) yq) ?_];exists 1,2,yc (ym (pv 1));erw[r,x,p,_,0,C,_,J,h,hx,l.c,λL X H1 O W b1 n1=>?_];let v:=W.me;ext;erw[r,x,p,_,_,_,_,J,W,u,λH2 h2 b2=>?_];have nr:¬X.f r:=λw=>by rw[n1 r w]at g;cases g
 let j:=O.but (WSh.mu v J) nr b2;ext;erw[_,J,(),(),j7 (n:=((P.length:Nat):Int).toNat) (λi σ2 G=>∃X U,σ2=[some (.ref r),some (.ref L),U]/\Sto K a G L C (P.take i) X/\RdR a G r x p (shB C P) (0+(hdB C).length+1+(((P.take i).map (pdB C P)).flatten).length)/\But r H G/\∀y,X.f y->H y=none) #[X,_,J,j,h2,b1.trans b2,n1] ?_ ?_]
 .rintro i σ2 G D ⟨X,U,rfl,M,q,ς,t⟩;have D:i<P.length:=()
  let d:=q.me;let#[hN,Z]:=l.nx D;ext;erw[r,x,p,_,_,L,C,P.take i,X,P[i],_,J,q,M,(λw=>by rw[t r w]at g;cases g),(λw=>by have e:=h.dl;rw[t p w]at e;cases e),R,uw (by rw[hx2,Z,vh7 D]),hN,λY G2 j I fr nY=>?_,←Y,_,J,by rwa[cH D,j],?_,λb o e n=>fr b o (ς b o e n) (λw=>by rw[t b w]at e;cases e) n,λy hy=>(nY y hy).elim (t y) λe=>ς.non d e]
  rw[Z,Nat.add_assoc]at I;rwa[ye3 C (bP D),bY,I]
 rintro σ2 G ⟨X,U,rfl,M,q,ς,t⟩;rw[Int.toNat_natCast,cU]at M q;let d:=q.me
 have hl:0+(hdB C).length+1+((P.map (pdB C P)).flatten).length=(shB C P).length:=by
  unfold shB;rw[bY,cD];omega
 rw[hl]at d;ext;erw[zd (SqL.of q.dl) ?_];rw[bw];ext;erw[z9 (λz=>absurd z ()) (λF=>?_),←k L X G M ς t]
#synth ywk ["data","e"] ["data"] yql
#synth ∀(K:z3)(a:Ads),∀(l:z4)(C:Cf)(P:qj Pd)(_:vs=[.ref l])(_:H l\((shB C P).map V.int))(_:Byt (shB C P))(_:(shB C P).length<=100000)(_:ypj C P)(_:∀st X H',Sto K a H' st C P X->yz H H'->(∀y,X.f y->H y=none)->Q (.ref st) H'),yia
def yu6:'v' 16 a.Ia a.J4 ["data"] (yia K a):=by
 exists T.Kv.F.ok,ywk,p;let#[l,C,P,J,n,g,M,q,k]:=h;exists 1,1,yh (vj (xn (xo (xp (ywr T) p.m T.Lr (pac (pv 0) (pa1 (vy J T.Et)))))) (yc za) yq) (yc (yvd (λZ Ex=>(yc (ym (vi (Ê T.Le (vap T) p.m J T.Ld T.Rz.B .nil vv (pa1 (pcT (r:=ykb K) xk T.Aq (pav 0)))) T.A7 T.Ge.m (yt7 T) p.m T.Ge.B .nil vv)))) #[J,J] vbu));erw[.ref l,"list",1000000,J,.lst n,.inr #[_,#[l,J,n,î _,by rwa[bw,M],?_],λH1 t=>?_]]
 .rw[ydz g,Bool.and_true,bw,cg ()]
 ext;erw[vby ?_,←l,_,J,.inl (SqL.of (t _ _ n)),λu hdl0=>?_];exists hdl0,H2,S2,hdl2;ext;intro r i c f S;have v:yz H2 (upd (upd H2 i (.own r)) r (.ins a.A4 i [])):=λb o e=>by rwa[yk (yb e c),yk (yb e f),e]
 erw[r,i,u,shB C P,J,ya,v _ _ hdl2,λI z D=>#[J,?_]];let x:=z.me;have W:yz H2 I:=λb o e=>D _ _ (v _ _ e) (yb e c);let d:=(t.trans S2).trans W;ext;erw[r,i,u,C,P,J,z,g,q,λU X ς Y R G=>?_,<-k U X ς Y (λb o e=>R _ _ (d _ _ e) (yb ((t.trans S2) _ _ e) c)) λy O=>d.free (G y O)]
noncomputable def hxS:Str:=Str.ofString "0123456789abcdef"
def hxC(i:Nat):Nat:=hxS.cps.toList.getD i 0
def yft:hxS.length=16:='r'
def yo6:∀i:Fin 16,hxS.cps[i.val]?=some (hxC i.val):='r'
def hx2(s:Int):Str:=⟨(List.toArray [hxC (s/16).toNat,hxC (s%16).toNat])⟩
def hxV:V->V
 | .int s=>.str (hx2 s)
 |v=>v
def jm(ts:Ρ):Str:=Str.join ⟨#[]⟩ (ts.map hx2)
theorem χ:∀ts:Ρ,(jm ts).cps.toList=ts.flatMap λs=>[hxC (s/16).toNat,hxC (s%16).toNat]
 |[]=>rfl
 |[s]=>rfl
 |s::t::r=>by
  show (hx2 s++⟨#[]⟩++jm (t::r)).cps.toList=_;rw[Str.cps_append,Str.cps_append,Array.toList_append,Array.toList_append,χ (t::r)];rfl
def jr(ts:Ρ):(jm ts).length=2*ts.length:=by
 rw[zl,χ]
 induction ts with
 |nil=>rfl
 |cons s r ih=>rw[List.flatMap_cons,bY,ih,cD];show 2+_=2*(r.length+1);omega
def yrm(ts:Ρ):((ts.map hx2).map λx:Str=>x.length).sum=2*ts.length:=by
 induction ts with
 |nil=>rfl
 |cons t r ih=>rw[cX,cX,List.sum_cons,ih,cD];show 2+_=2*(r.length+1);omega
#synth ytu ["signs"] yrk
#synth ∀(K:z3),∀(l:z4)(ts:Ρ)(_:vs=[.ref l])(_:SqL K H l (ts.map V.int))(_:Byt ts)(_:ts.length<=100000)(_:∀H',yz H H'->Q (.str (jm ts)) H'),ysr
def yea:'v' 1 a.Ib a.J5 ["signs"] (ysr K):=by
 exists T.El.F.ok,ytu,t;let#[l,d,J,g,p,z,k]:=h;exists 1,0,yc (ym (uy PySem.F.plainAttrs_str PySem.F.slot_str_join PySem.F.type_str_join Ù y8 (pa1 (vt (js:=[]) (ys:=[]) J (wg (pv 0)) (λC r q u=>(yn vh (xc (zi J T.As) (yn vk (pv 0) yf) (λZ Z=>rfl)) (xc (zi J T.As) (yn xg (pv 0) yf) (λZ Z=>rfl)))) J J (hyc:=yu) (hrel:=yu)))));erw[J,?_,←l,J,#[_,g],λD m=>?_,<-zh hxV g m (λi y G j S b=>?_) (λG S b=>?_)]
 .let#[c,J,e,_,_]:=jh j;let#[x,v]:=p c e;ext;exists hxS,c/16,_,J,J,(),(),by rw[yft];omega,yo6 #[(c/16).toNat,()],?_
  ext;erw[hxS,c%16,_,J,J,(),(),by rw[yft];omega,yo6 #[(c%16).toNat,()],?_]
  erw[_,_,J,J,by show 1+1<=_;decide,?_]
  erw[Mp.done m (ve (by rw[bw];omega)) j S b J]
 .ext;have b:G D\((d.map hx2).map V.str):=by rw[b,cL,cL];rfl
  erw[⟨#[]⟩,D,d.map hx2,J,J,SqL.of b,?_,k G S];rw[yrm];show 2*d.length+_*0<=_;omega
noncomputable def nib(ts:Ρ):qj Nat:=ts.flatMap λs=>[(s/16).toNat,(s%16).toNat]
def ykn(ts:Ρ):(jm ts).cps.toList=(nib ts).map hxC:=by rw[χ];unfold nib;rw[List.map_flatMap];rfl
def yzj(h:Byt ts):∀k,k∈nib ts->k<16:=λk a=>by
 let#[s,b,a]:=List.mem_flatMap.mp a;let#[d,c]:=h s b;rcases cr.mp a with rfl|a
 .omega
 .rw[cn.mp a];omega
def ytk(ts:Ρ):(nib ts).length=2*ts.length:=by
 induction ts with
 |nil=>rfl
 |cons s r ih =>
  unfold nib at ih⊢;rw[List.flatMap_cons,bY,ih,cD];show 2+_=2*(r.length+1);omega
theorem ysi:∀{ts:Ρ}{i:Nat}{s:Int},ts[i]?=some s->(nib ts)[2*i]?=some (s/16).toNat/\(nib ts)[2*i+1]?=some (s%16).toNat
 |t::r,0,s,h=>by
  cases h;erw[J,rfl]
 |t::r,i+1,s,h=>ysi (ts:=r) (i:=i) h
def yqd:∀k:Fin 16,Builtin.Str.occurrences hxS ⟨#[hxC k.val]⟩ 0 hxS.length 1=[k.val]:='r'
#synth yj4 ["word","worths"] ["word"] yq2
#synth ∀(ts:Ρ)(_:vs=[.str (jm ts)])(_:Byt ts)(_:ts.length<=40000)(_:∀l H',H l=none->H' l\(ts.map V.int)->yz H H'->Q (.ref l) H'),ymy
def yds:'v' 1 a.Ic a.J6 ["word"] ymy:=by
 exists T.Em.F.ok,yj4,hr;let#[b,J,N,hz,k]:=h;let W:=jr b;exists 1,1,yh (vj (PW.pt (ü (yp w6 (yn xg (pcB xj T.A9 (pav 0)) yf) yf (yw _)) (à (xn (xo (pcB (zx J) T.D1 (pa1 (vt (js:=[]) (ys:=[]) J (yga (pv 0)) (λC R H2 M=>(xm ybx (pv 0) (zi J T.As) (by with_unfolding_all rfl))) J J (hyc:=yu) (hrel:=yu))))))))) (yc za) yq) (yh (z8 (i:=1) yj4.nd J (Or.inr J) (vt (js:=[]) (ys:=[]) J (yga (pv 0)) (λC R H2 M=>(yqk (K:=K) (r:=(ydq)) J PySem.F.plainAttrs_str PySem.F.slot_str_index PySem.F.type_str_index yb6 (zi J T.As) (pav 0))) J J (hyc:=yu) (hrel:=yu))) (yc (ym (vt (js:=[1]) (ys:=["worths"]) J (yiw J T.Ar (pac yf (pac (pcB yr T.A9 (pav 1)) (pa1 yf)))) (λC R H2 M=>(yn v9 (yn w4 yf (pix (r:=vg1 K) we (pv 1) (pv 0))) (pix (r:=vg1 K) we (pv 1) (yn v9 (pv 0) yf)))) J J (hyc:=(all_cons J yu)) (hrel:=(all_cons J yu))))));erw[_,J,vo (),?_];ext;rwa[cj (show ¬(((jm b).length:Int)%2=1) by omega),uo ?_];ext;let B:=ytk b
 have L:(jm b).cps.size=(nib b).length:=by
  let e:=congrArg List.length (ykn b);rw[bw,dB]at e;erw[e]
 have q:∀{i c:Nat},(jm b).cps[i]?=some c->∃k,(nib b)[i]?=some k/\k<16/\c=hxC k:=λ{i c}e=>by
  rw[<- Array.getElem?_toList,ykn,ci]at e;let#[k,n,J]:=dI.mp e;erw[k,n,yzj N k (cz n),rfl]
 erw[_,J,λD O=>?_,<-Ð (λF=>.bl true) O (λi c G ς l S I=>?_) (λG S I=>?_)]
 .let#[k,n,g,J]:=q ς;ext;erw[_,_,J,J,?_,<-Mp.doneR O (ve ()) l S I ?_];show V.bl (!(Builtin.Str.occurrences hxS ⟨#[hxC k]⟩ 0 hxS.length 1).isEmpty)=_;rw[yqd #[k,g]];rfl
 ext;erw[D,(List.range (jm b).cps.size).map λF=>true,J,SqL.of (by rw[I,cL];rfl),?_];rw[show ((List.range (jm b).cps.size).map λF=>true).all id=true by rwa[List.all_eq_true,λx hx=>by let#[_,_,e]:=ce.mp hx;erw[e.symm]]];ext;erw[_,J,λU o=>?_,<-Ð (λi=>.int (((nib b).getD i 0:Nat):Int)) o (λi c Z ς l t d=>?_) (λZ t d=>?_)]
 .let#[k,n,g,J]:=q ς;ext;erw[J,?_,←hxS,_,k,[],J,J,yqd #[k,g],?_,<-Mp.doneR o (ve ()) l t d ?_];rw[cZ,n];rfl
 rw[L]at d
 have Y:Z U\((nib b).map λk=>V.int ((k:Nat):Int)):=by
  rw[d]
  congr 2
  erw[List.ext_getElem? λi=>?_];rw[ci,ci];rcases Nat.lt_or_ge i (nib b).length with z|z
  .rw[dv z,bP z];show some (V.int (((nib b).getD i 0:Nat):Int))=_;rw[cZ,bP z];rfl
  .rw[cT (by rwa[c8,z]),cT z];rfl
 ext;erw[U,_,J,.inl (SqL.of Y),?_];rw[bw,B];ext;erw[0,((2*b.length:Nat):Int),2,J,(),λD3 j=>?_];rw[show rgN 0 ((2*b.length:Nat):Int) 2=b.length by unfold rgN;split<;>omega];erw[Ž (λi=>.int (b.getD i 0)) j (λi X l u f=>?_) (λX u f=>?_)]
 .let p:=bP l;let#[n1,n2]:=ysi p;let#[b0,b1]:=N _ (cV l);let m:=u _ _ Y;ext;rw[show (0:Int)+(i:Int)*2=((2*i:Nat):Int) by omega];erw[ua (v:=.int ((b[i]/16).toNat:Nat)) (SqL.of m) (vw (by rw[ci,n1];rfl)) ?_];ext;rw[show ((2*i:Nat):Int)+1=((2*i+1:Nat):Int) by omega];erw[ua (v:=.int ((b[i]%16).toNat:Nat)) (SqL.of m) (vw (by rw[ci,n2];rfl)) ?_,←Mp.doneR j (ve ()) l u f ?_];rw[cZ,p];show V.int _=V.int b[i]
  congr 1
  omega
 erw[k D3 X (S.free (t.free j)) ?_ (S.trans (t.trans u))];rw[f]
 congr 2
 erw[List.ext_getElem? λi=>?_];rw[ci,ci];rcases Nat.lt_or_ge i b.length with z|z
 .rw[dv z,bP z];show some (V.int (b.getD i 0))=_;rw[cZ,bP z];rfl
 .rw[cT (by rwa[c8,z]),cT z];rfl
#synth ys0 ["base"] ypv
#synth ∀(x:Φ)(_:vs=[baV x])(_:Q (.str (x.getD !"-")) H),ymk
def ykj:'v' 1 a.Ie a.J7 ["base"] ymk:=by
 exists T.Gf.F.ok,ys0,f;let#[x,J,k]:=h;exists 1,0,yc (ym (jq (yp yfm (pv 0) z6 (yw _)) (zi J T.Ho) (pv 0)))
 cases x with
 |none =>
  erw[z9 (λZ=>?_) (λz=>absurd J z),←k]
 |some b =>
  erw[z9 (λz=>nomatch z) (λZ=>?_)]
  ext;erw[k]
noncomputable def DX(Z:Sx)(dk:z4):Sx:=#[λy=>Z.w y\/y=dk,λy=>Z.f y\/y=dk]
inductive Dk(K:z3)(a:Ads)(H:Hp)(dk:z4)(C:Cf)(P:qj Pd)(X:Sx):Prop
 |mk(dd st:z4)(Z:Sx)(me:H dk∩a.Ah dd (ß (.ref st)))(s:Sto K a H st C P Z)(n:¬Z.f dk)(x:X=DX Z dk)
end
section
mutual
variable{H H':Hp}{dk:z4}{C:Cf}{P P':qj Pd}{X Y Z Z':Sx}
theorem Dk.same(h:Dk K a H dk C P X)(S:yz H H'):Dk K a H' dk C P X:=by let#[d,b,Z,c,s,n,J]:=h;erw[d,b,Z,S _ _ c,s.same S,n,rfl]
theorem Dk.live(h:Dk K a H dk C P X):∀y,X.f y->∃o,H y=some o:=by
 let#[d,c,Z,b,s,n,J]:=h;rintro y (w|rfl)
 .erw[s.live y w]
 .erw[_,b]
theorem Dk.wf(h:Dk K a H dk C P X):∀y,X.w y->X.f y:=by
 let#[d,b,Z,c,s,n,J]:=h;rintro y (w|rfl)
 .erw[.inl (s.wf y w)]
 .erw[.inr J]
theorem Dk.sh(h:Dk K a H dk C P X):WSh H X.w:=by
 let#[d,c,Z,b,s,n,J]:=h;rintro y (w|rfl)
 .erw[s.sh y w]
 .erw[_,b,.inl J]
theorem Dk.frame(h:Dk K a H dk C P X)(sh:WSh H W2)(dj:∀y,X.f y->¬W2 y)(fr:∀y o,H y=some o->¬W2 y->H' y=some o):Dk K a H' dk C P X:=by let#[d,b,Z,c,s,n,J]:=h;erw[d,b,Z,fr _ _ c (dj _ (.inr J)),s.frame sh (λy w=>dj y (.inl w)) fr,n,rfl]
theorem Dk.pw(h:Dk K a H dk C P X):PdW P:=by let#[d,b,Z,c,s,n,J]:=h;erw[s.pw]
def DX.gx{o:HO}(g:Gx Z H H' Z')(e:H dk=some o):Gx (DX Z dk) H H' (DX Z' dk):=by exists#[λc o e n=>g.g.fr _ _ e λw=>n (.inl w),λc w=>w.elim (λw=>(g.g.nw c w).imp .inl id) λw=>.inl (.inr w),g.g.lv],λc w=>w.elim (λw=>(g.f c w).imp .inl id) λw=>.inl (.inr w)
def Dk.of{dd:z4}(me:H dk∩a.Ah dd (ß (.ref st)))(s:Sto K a H st C P Z)(n:¬Z.f dk)(s':Sto K a H' st C P' Z')(g:Gx Z H H' Z'):Dk K a H' dk C P' (DX Z' dk)/\Gx (DX Z dk) H H' (DX Z' dk) :=
 #[#[dd,st,Z',g.g.fr _ _ me λw=>n (s.wf _ w),s',(λw=>(g.f dk w).elim n λe=>by rw[me]at e;cases e),J],DX.gx g me]
end
end
mutual
#synth ytl ["self","looks","most"] yse
#synth ∀(K:z3)(a:Ads),∀(dk dd l:z4)(mo w n:Nat)(lk tp:Μ)(kd:Ξ)(ps:Λ)(_:vs=[.ref dk,.ref l,.int mo])(_:H dk∩a.Ah dd [])(_:H l\(refs lk n))(_:1<=n)(_:n<=6)(_:x9 H n lk kd tp ps)(_:mo<=1000)(_:w<=mo)(_:w<=200)(_:∀X H',Dk K a H' dk #[n,kd,ps,mo,w] [] X->But dk H H'->(∀y,X.f y->y=dk\/H y=none)->Q .non H'),yh4
def yj7:'v' 12 a.G0 a.Ef ["self","looks","most"] (yh4 K a):=by
 exists T.Sb.ok,ytl,M;let#[p,t,l,mo,w,n,x,N,B,C,J,c,L,S,ς,U,O,G,W,k]:=h;exists 3,0,yc (vg (pv 0) (uv T.Gw (yqp T) M.m J T.Gv T.Ru .nil vn (pac (pv 1) (pav 2))) J);intro R Z i g Y;erw[Sto.new (mo:=mo) (w:=w) i g L S ς U O G W λX H1 r u d I=>#[J,?_]];let j:=u _ _ c;have v:¬X.f p:=λz=>by rw[d p z]at c;cases c
 ext;erw[k (DX X p) _ #[t,R,X,ya,r.but (WSh.mu j J) v But.upd,v,J] (λb o e F=>ye F (u _ _ e)) λy w=>w.elim (λw=>.inr (d y w)) .inl]
theorem yec:∀{P:qj Pd},(∀q,q∈P->q.nm.length<=8)->((P.map (·.nm)).map λx:Str=>x.length).sum<=8*P.length
 |[],_=>cc _
 |q::r,h=>by
  rw[cX,cX,List.sum_cons,cD];have:=yec (P:=r) λq a=>h q (cM _ a);have:=h q cN;omega
#synth yuy ["self","verb"] yrv
#synth ∀(K:z3)(a:Ads),∀(dk:z4)(C:Cf)(P:qj Pd)(X:Sx)(v:Str)(_:vs=[.ref dk,.str v])(_:Dk K a H dk C P X)(_:((v=Str.ofString "names"/\∀H',yz H H'->Q (.str (Str.join ⟨#[32]⟩ (P.map (·.nm)))) H')\/(v=Str.ofString "shelf"/\Byt (shB C P)/\(shB C P).length<=100000/\∀H',yz H H'->Q (.str (jm (shB C P))) H'))),yaq
def yve:'v' 7 a.Ig a.J9 ["self","verb"] (yaq K a):=by
 exists T.Gg.F.ok,yuy,f;let#[D,C,P,X,v,J,#[N,G,Z,ς,c,n,J],h]:=h;let#[L,M,S,R,O,p]:=c.ins;erw[_,(yh (vj (yp w6 (pv 1) y8 (yw _)) (yc (ym (uy PySem.F.plainAttrs_str PySem.F.slot_str_join PySem.F.type_str_join Ù y8 (pa1 (vi pfs T.A1 T.C9.m (yf6 T) f.m T.C9.B .nil vv))))) yq) (yh (vj (yp w6 (pv 1) y8 (yw _)) (yc (ym (xp (yea T) f.m T.El (pa1 (xp (vcr T) f.m T.Ry (pa1 pfs)))))) yq) (yc za))),?_];exists 2,0;rcases h with⟨rfl,k⟩|⟨rfl,o,j,k⟩
 .ext;erw[J,_,J,?_];rwa[cg J,j4 ?_];ext;erw[J,?_,←c.names λl y d b g=>?_,<-⟨#[32]⟩,l,P.map (·.nm),J,J,SqL.of (by rw[b,cL];rfl),?_,k _ g];let j:=c.z;let i:=yec λq t=>wj (c.nm q t).1;rw[bw];show _+P.length*1<=_;omega
 .ext;erw[J,_,J,?_];rwa[cj ∅,uo ?_];ext;erw[J,_,J,?_];rwa[cg J,j4 ?_];ext;erw[G,C,P,Z,J,c,λl y d b g=>?_,←l,_,J,SqL.of b,o,j,λI u=>k I (g.trans u)]
def ŋ(C:Cf)(r:Pd):Int:=yei (dec r.tx).length (Í (xy C.n C.kd C.ps (j6 (r.path.map (·.2))) r.tx) (y9 r.tx) (dec r.tx).length)
def yq6{i:Nat}(h:i<L.length):txi L i=L[i].2:=by unfold txi;rw[cZ,ci,bP h];rfl
#synth yug ["self","name"] yq4
#synth ∀(K:z3)(a:Ads),∀(dk:z4)(C:Cf)(P:qj Pd)(X:Sx)(b:Str)(_:vs=[.ref dk,.str b])(_:Dk K a H dk C P X)(_:nmS b=true)(_:((∀q,q∈P->q.nm≠b)->∀H',yz H H'->E (.ref a.A2) none H'))(_:(∀r,r∈P->r.nm=b->∀Y H',Dk K a H' dk C P Y->Gx X H H' Y->Q (.int (ŋ C r)) H')),yh5
def ytt:'e' 15 a.Ij a.Jc ["self","name"] (yh5 K a):=by
 exists T.Gi.F.okE,yug,I;let#[dk,C,P,X,b,J,#[dd,st,Z,me,p,n,J],hb,k1,k2]:=h;let#[ds,vl,vm,vp,vc,N]:=p.ins;let#[n1,n6,_,_,w2]:=p.cf;exists 2,0,yc (ym (yd1 (vb3 T) I.m J T.Tt T.Ro.kp T.Ts .nil vv (pac (vi pfs T.A1 T.Fk.m (yqh T) I.m T.Fk.B .nil vv) (pac (y6 pfs T.A1 T.Fo.m (yr5 T) I.m T.Fo.B .nil yt (pav 1)) (pa1 (y6 pfs T.A1 T.Kq.m (yyr T) I.m T.Kq.B .nil yt (pav 1)))))));erw[p.tlooks λl lk tp H1 ς a0 a2 D=>?_];let j:=p.same D;let a4:=D _ _ N;let t:=D _ _ me;ext;erw[j.textof hb (λU H2 S2=>k1 U H2 (D.trans S2)) λr d e Z2 q H2 c g2 aa hq=>?_];let S:=g2.g.fr _ _ t λw=>n (j.wf _ w);let#[ad,ac,a7,a9,a8,a5]:=c.ins;let a6:=p.nm r d;ext;erw[c.learnedof hb (λU=>absurd e (U r d)) λy L e2 Z3 q3 cx H3 Y g3 a3 a1 M=>?_];obtain rfl:=ă p.nd L d (e2.trans e.symm);let k:=p.sz y d
 have u:∀{x:z4}{o:HO},H1 x=some o->¬Z.f x->H2 x=some o/\H3 x=some o:=λ{x o}e nx=>by
  let G:=Kf.go #[e,nx] j g2;erw[G.1,(G.go c g3).1]
 have nl:∀{x:z4},H x=none->¬Z.f x:=λ{x}e w=>by
  let#[o,e']:=p.live x w;rw[e]at e';cases e'
 let W:=(u a0 (nl ς)).2;have O:x9 H3 C.n lk C.kd tp C.ps:=a2.fr λx xs e=>(u e (j.ntup e)).2;let z:=(hq.go c g3).1;ext;erw[l,q,.ref q3,C.n,lk,C.kd,tp,C.ps,y.tx,y.path.length,C.w,cx,txi y.path,J,#[W,n1,n6,O,#[z,k.1,()],#[.inr #[q3,J,a1.1],λi v=>#[(M i v).2.2.1,?_,?_]],(),(),?_],λH4 S4=>?_]
 .rw[yq6 v];erw[(k.2.2.2 _ (cV v)).1]
 .rw[yq6 v];erw[(k.2.2.2 _ (cV v)).2]
 .let hm:=Nat.mul_le_mul k.2.2.1 (show 9*C.w+1<=1801 by omega);omega
 .rw[yi6];let#[h1,G]:=Dk.of t j n c g2;let#[h3,h4]:=Dk.of S c (λw=>(g2.f dk w).elim n λe=>by rw[t]at e;cases e) Y g3;erw[k2 y d e _ H4 (h3.same S4) (((G.trans h4).same S4).ahead D)]
inductive SW(K:z3)(a:Ads)(H:Hp)(dk:z4)(C:Cf)(P:qj Pd)(X:Sx)(Q:VK)(E:XK)(b:Str):Str->Prop
 |get (hb:nmS b=true) (k1:(∀q,q∈P->q.nm≠b)->∀H',yz H H'->E (.ref a.A2) none H') (k2:∀r,r∈P->r.nm=b->∀Y H',Dk K a H' dk C P Y->Gx X H H' Y->Q (.str (jm r.tx)) H'):SW K a H dk C P X Q E b (Str.ofString "get")
 |bytes (hb:nmS b=true) (k1:(∀q,q∈P->q.nm≠b)->∀H',yz H H'->E (.ref a.A2) none H') (k2:∀r,r∈P->r.nm=b->∀H',yz H H'->Q (.str (jm (r.by C))) H'):SW K a H dk C P X Q E b (Str.ofString "bytes")
 |bas (hb:nmS b=true) (k1:(∀q,q∈P->q.nm≠b)->∀H',yz H H'->E (.ref a.A2) none H') (k2:∀r,r∈P->r.nm=b->∀H',yz H H'->Q (.str (r.bs.getD !"-")) H'):SW K a H dk C P X Q E b (Str.ofString "base")
 |cost (hb:nmS b=true) (k1:(∀q,q∈P->q.nm≠b)->∀H',yz H H'->E (.ref a.A2) none H') (k2:∀r,r∈P->r.nm=b->(ŋ C r).natAbs.log2<1920/\∀Y H',Dk K a H' dk C P Y->Gx X H H' Y->Q (.str (toString (ŋ C r))) H'):SW K a H dk C P X Q E b (Str.ofString "cost")
 |drop (hb:nmS b=true) (k1:(∀q,q∈P->q.nm≠b)->∀H',yz H H'->E (.ref a.A2) none H') (k2:∀r,r∈P->r.nm=b->(∃q,q∈P/\q.bs=some b)->∀H',yz H H'->E (.ref a.Ak) none H')
  (k3:∀r,r∈P->r.nm=b->(∀q,q∈P->q.bs≠some b)->∀Y H',Dk K a H' dk C (P.filter λq=>decide (q.nm≠b)) Y->Gx X H H' Y->Q (.str !"ok") H'):SW K a H dk C P X Q E b (Str.ofString "drop")
 |opn (C2:Cf) (P2:qj Pd) (e:b=jm (shB C2 P2)) (hb:Byt (shB C2 P2)) (hz:(shB C2 P2).length<=40000) (ok:ypj C2 P2) (k:∀Y H',Dk K a H' dk C2 P2 Y->But dk H H'->(∀y,Y.f y->y=dk\/H y=none)->Q (.str !"ok") H'):SW K a H dk C P X Q E b (Str.ofString "open")
#synth yt2 ["self","verb","word"] yr6
#synth ∀(K:z3)(a:Ads),∀(dk:z4)(C:Cf)(P:qj Pd)(X:Sx)(v b:Str)(_:vs=[.ref dk,.str v,.str b])(_:Dk K a H dk C P X)(_:SW K a H dk C P X Q E b v),yj1
def yv6:'e' 17 a.Ih a.Ja ["self","verb","word"] (yj1 K a):=by
 exists T.Gh.F.okE,yt2,d;let#[I,C,P,X,v,b,J,#[dd,st,Z,G,i,n,J],h]:=h;let#[ds,vl,vm,vp,vc,a1]:=i.ins;let ς:=i.cf;erw[yg (vj (yp w6 (pv 1) y8 (yw _)) (yc (ym (xp (yea T) d.m T.El (pa1 (y6 pfs T.A1 T.Fo.m (yr5 T) d.m T.Fo.B .nil yt (pav 2)))))) yq) ?_,<-yg (vj (yp w6 (pv 1) y8 (yw _)) (yc (ym (xp (yea T) d.m T.El (pa1 (y6 pfs T.A1 T.Fp.m (yrb T) d.m T.Fp.B .nil yt (pav 2)))))) yq) ?_,<-yg (vj (yp w6 (pv 1) y8 (yw _)) (yc (ym (xp (ykj T) d.m T.Gf (pa1 (y6 pfs T.A1 T.Fq.m (yrd T) d.m T.Fq.B .nil yt (pav 2)))))) yq) ?_,<-yg (vj (yp w6 (pv 1) y8 (yw _)) (yc (ym (pcT ybn T.Ft (pa1 (y6 (pv 0) T.Ac T.Gi.m (ytt T) d.m T.Gi.B .nil yt (pav 2)))))) yq) ?_,<-yg (vj (yp w6 (pv 1) y8 (yw _)) (yh (yy (y6 pfs T.A1 T.Kr.m (yzg T) d.m T.Kr.B .nil yt (pav 2))) (yc (ym (zi J T.Gm)))) yq) ?_,<-yg (vj (yp w6 (pv 1) y8 (yw _)) (yc (ym (xp (ykj T) d.m T.Gf (pa1 (ww pfs T.A1 T.Ks.m (yx7 T) d.m T.Ks.B .nil vv (pa1 (xp (yds T) d.m T.Em (pav 2)))))))) yq) ?_,<-yg (vj (yp w6 (pv 1) y8 (yw _)) (yh (vg (pv 0) (xp (yu6 T) d.m T.Kv (pa1 (xp (yds T) d.m T.Em (pav 2)))) J) (yc (ym (zi J T.Gm)))) yq) ?_,<-_,(yc (xa J T.Cq T.Cs (pa1 y8))),?_];exists 3,0
 cases h with
 |get hb k1 k2 =>
  ext;erw[J,_,J,?_];rwa[cg J,j4 ?_];ext;erw[i.textof hb k1 λr c e Y q p j g1 a2 hq=>?_];let#[S,M]:=Dk.of G i n j g1;let hz:=i.sz r c;ext;erw[q,r.tx,J,SqL.of hq.1,hz.1,(),λL x=>k2 r c e _ L (S.same x) (M.same x)]
 |bytes hb k1 k2 =>
  ext;erw[J,_,J,?_];rwa[cj ∅,uo ?_];ext;erw[J,_,J,?_];rwa[cg J,j4 ?_];ext;erw[i.bytesof hb k1 λr c e l p N t u=>?_];let hz:=i.sz r c;let ho:=Ú (n:=C.n) (kd:=C.kd) (ps:=C.ps) (pre:=j6 (r.path.map (·.2))) (ts:=r.tx) ς.1 ς.2.1 (xu _) ();have ho:(r.by C).length<=5500:=ho;ext;erw[l,r.by C,J,SqL.of t,Ŧ _,(),λL x=>k2 r c e L (u.trans x)]
 |bas hb k1 k2 =>
  ext;erw[J,_,J,?_];rwa[cj ∅,uo ?_];ext;erw[J,_,J,?_];rwa[cj ∅,uo ?_];ext;erw[J,_,J,?_];rwa[cg J,j4 ?_];ext;erw[i.baseof hb k1 λr c e p u=>?_,←r.bs,J,k2 r c e p u]
 |cost hb k1 k2 =>
  ext;erw[J,_,J,?_];rwa[cj ∅,uo ?_];ext;erw[J,_,J,?_];rwa[cj ∅,uo ?_];ext;erw[J,_,J,?_];rwa[cj ∅,uo ?_];ext;erw[J,_,J,?_];rwa[cg J,j4 ?_];ext;erw[I,C,P,_,b,J,#[dd,st,Z,G,i,n,J],hb,k1,λr c e Y p hD g=>?_];let#[z,k2]:=k2 r c e;erw[_,J,z,k2 Y p hD g]
 |drop hb k1 k2 k3 =>
  ext;erw[J,_,J,?_];rwa[cj ∅,uo ?_];ext;erw[J,_,J,?_];rwa[cj ∅,uo ?_];ext;erw[J,_,J,?_];rwa[cj ∅,uo ?_];ext;erw[J,_,J,?_];rwa[cj ∅,uo ?_];ext;erw[J,_,J,?_];rwa[cg J,j4 ?_];ext;erw[i.drop hb k1 k2 λr c e no Y p j g1=>?_];let#[S,M]:=Dk.of G i n j g1;ext;erw[k3 r c e no _ _ S M]
 |opn C2 P2 e hb2 hz ok k =>
  subst e;ext;erw[J,_,J,?_];rwa[cj ∅,uo ?_];ext;erw[J,_,J,?_];rwa[cj ∅,uo ?_];ext;erw[J,_,J,?_];rwa[cj ∅,uo ?_];ext;erw[J,_,J,?_];rwa[cj ∅,uo ?_];ext;erw[J,_,J,?_];rwa[cj ∅,uo ?_];ext;erw[J,_,J,?_];rwa[cj ∅,uo ?_];ext;erw[J,_,J,?_];rwa[cg J,j4 ?_];ext;erw[shB C2 P2,J,hb2,hz,λl p N t u=>?_,←l,C2,P2,J,t,hb2,(),ok,λR O L W x n2=>?_]
  let D:=u.trans x;let a0:=D _ _ G
  have nz:¬O.f I:=λw=>by
   let e:=u _ _ G;rw[n2 I w]at e;cases e
  ext;erw[k (DX O I) _ #[dd,R,O,ya,W.but (WSh.mu a0 J) nz But.upd,nz,J] (λb o e ne=>ye ne (D _ _ e)) λy w=>w.elim (λw=>.inr (u.free (n2 y w))) .inl]
#synth ywa ["self","name","word","base"] yp7
#synth ∀(K:z3)(a:Ads),∀(dk:z4)(C:Cf)(P:qj Pd)(X:Sx)(b:Str)(ts:Ρ)(x:Φ)(_:vs=[.ref dk,.str b,.str (jm ts),baV x])(_:Dk K a H dk C P X)(_:okN b)(_:Sgs ts)(_:ts.length<=C.w)(_:(∀y,x=some y->nmS y=true))(_:P.length<60)(_:((∃r,r∈P/\r.nm=b)->∀H',yz H H'->E (.ref a.Af) none H'))(_:((∀q,q∈P->q.nm≠b)->∀y,x=some y->(∀q,q∈P->q.nm≠y)->∀H',yz H H'->E (.ref a.A2) none H'))(_:((∀q,q∈P->q.nm≠b)->∀L,ToD P x L->∀Y H',Dk K a H' dk C (P++[#[b,x,L,ts]]) Y->Gx X H H' Y->Q (.str !"ok") H')),yfn
def yjn:'e' 14 a.Ii a.Jb ["self","name","word","base"] (yfn K a):=by
 exists T.Dm.F.okE,ywa,v;let#[U,C,P,X,b,B,x,J,#[dd,st,Z,R,i,n,J],I,d,j,Y,hP,W,ς,k]:=h;let a0:=i.cf;let#[ds,vl,vm,vp,vc,M]:=i.ins;exists 4,0,yh (yy (y6 pfs T.A1 T.Tx (yyt T) v.m T.Tw .nil yt (pac (pv 1) (pac (xp (yds T) v.m T.Em (pav 2)) (pav 3))))) (yc (ym (zi J T.Gm)));erw[B,J,d,(),λl H1 G t f=>?_]
 let c:=i.same f;let hz:=i.z;ext;erw[c.putE I #[t,d,()] Y hP (λz=>absurd z ()) (λF z g p=>W z g (f.trans p)) (λF z y e r g p=>ς z y e r g (f.trans p)) λF r L u=>#[j,?_,λZ' g q g2=>?_]]
 .have:=u.len c.pw;omega
 ext;let#[O,D]:=Dk.of (f _ _ R) c n q g2;erw[k r L u _ _ O (D.ahead f)]
#synth yjl ["self","row","words"] ["self","row"] yrs
#synth ∀(K:z3)(a:Ads),∀(dk dd:z4)(vd:V)(ws:Τ)(_:vs=[.ref dk,.str (Str.join ⟨#[32]⟩ ws)])(_:H dk∩a.Ah dd (ß vd))(_:(∀w,w∈ws->32∉w.cps.toList))(_:(Str.join ⟨#[32]⟩ ws).length<=100000)(_:((∃v,ws=[v]/\∀H1,yz H H1->yaq K a [.ref dk,.str v] H1 Q E0)\/(∃v b,ws=[v,b]/\∀H1,yz H H1->yj1 K a [.ref dk,.str v,.str b] H1 Q E)\/(∃b t,ws=[Str.ofString "put",b,t]/\∀H1,yz H H1->yfn K a [.ref dk,.str b,.str t,.non] H1 Q E)\/∃b y t,ws=[Str.ofString "put",b,Str.ofString "on",y,t]/\∀H1,yz H H1->yfn K a [.ref dk,.str b,.str t,.str y] H1 Q E)),á
def uq:'e' 18 a.If a.J8 ["self","row"] (á K a):=by
 exists T.Aa.F.okE,yjl,c;let#[p,o,r,f,J,q,i,u,h]:=h
 have d:f≠[]:=by
  rcases h with⟨v,rfl,_⟩|⟨v,b,rfl,_⟩|⟨b,t,rfl,_⟩|⟨b,y,t,rfl,_⟩<;>erw[List.cons_ne_nil _ _]
 erw[yg (vj (xn (xo (pcB wq T.A5 (pac (pv 1) (pa1 (j3 (T:="str") J T.Ft 'r')))))) (yc (xa J T.Cq T.Cs (pa1 y8))) yq) ?_,<-yg (pst 2 yjl.nd (uy PySem.F.plainAttrs_str PySem.F.slot_str_split PySem.F.type_str_split yol (pv 1) (pa1 y8))) ?_,<-yg (vj (yp w6 (pcB yr T.A9 (pav 2)) yf (yw _)) (yc (ym (ww (pv 0) T.Ac T.Gg.m (yve T) c.m T.Gg.B .nil vv (pav 1)))) yq) ?_,<-yg (vj (yp w6 (pcB yr T.A9 (pav 2)) yf (yw _)) (yc (ym (y6 (pv 0) T.Ac T.Gh.m (yv6 T) c.m T.Gh.B .nil yt (pac (pix we (pv 2) yf) (pa1 (pix we (pv 2) yf)))))) yq) ?_,<-yg (vj (PW.pt (ycl (yp w6 (pix we (pv 2) yf) y8 (yw _)) (ya3 (yp w6 (pcB yr T.A9 (pav 2)) yf (yw _))))) (yc (ym (y6 (pv 0) T.Ac T.Dm.m (yjn T) c.m T.Dm.B .nil yt (pac (pix we (pv 2) yf) (pac (pix we (pv 2) yf) (pa1 z6)))))) yq) ?_,<-yg (vj (PW.pt (ycl (yp w6 (pix we (pv 2) yf) y8 (yw _)) (ycl (yp w6 (pcB yr T.A9 (pav 2)) yf (yw _)) (ya3 (yp w6 (pix we (pv 2) yf) y8 (yw _)))))) (yc (ym (y6 (pv 0) T.Ac T.Dm.m (yjn T) c.m T.Dm.B .nil yt (pac (pix we (pv 2) yf) (pac (pix we (pv 2) yf) (pa1 (pix we (pv 2) yf))))))) yq) ?_];exists 2,1,yc (xa J T.Cq T.Cs (pa1 y8));erw[ĸ (.str _) (yey _ _) ?_,←J,?_,←_,⟨#[32]⟩,J,J,J,u,λl hl0=>?_];rw[ygs d i];exists hl0,H1,S1,hl1;let k:=S1 _ _ q;rcases h with⟨v,rfl,h⟩|⟨v,b,rfl,h⟩|⟨b,t,rfl,h⟩|⟨b,y,t,rfl,h⟩
 .ext;erw[l,_,J,.inl (SqL.of hl1),?_];ext;rwa[cg (by rfl),j4 ?_];ext;erw[h H1 S1]
 .ext;erw[l,_,J,.inl (SqL.of hl1),?_,←yl7 (by assumption) ?_,←l,_,J,.inl (SqL.of hl1),?_];ext;rwa[cg (by rfl),j4 ?_];ext;erw[ua (v:=.str v) (SqL.of hl1) (vw (j:=0) J) ?_,←ua (v:=.str b) (SqL.of hl1) (vw (j:=1) J) ?_,←h H1 S1]
 .ext;erw[l,_,J,.inl (SqL.of hl1),?_,←yl7 (by assumption) ?_,←l,_,J,.inl (SqL.of hl1),?_,←yl7 (by assumption) ?_,←ua (v:=.str !"put") (SqL.of hl1) (vw (j:=0) J) ?_,←J,_,J,?_];rwa[cg J,j4 ?_];ext;erw[l,_,J,.inl (SqL.of hl1),?_];ext;rwa[cg (by rfl),j4 ?_];ext;erw[ua (v:=.str b) (SqL.of hl1) (vw (j:=1) J) ?_,←ua (v:=.str t) (SqL.of hl1) (vw (j:=2) J) ?_,←h H1 S1]
 .ext;erw[l,_,J,.inl (SqL.of hl1),?_,←yl7 (by assumption) ?_,←l,_,J,.inl (SqL.of hl1),?_,←yl7 (by assumption) ?_,←ua (v:=.str !"put") (SqL.of hl1) (vw (j:=0) J) ?_,←J,_,J,?_];rwa[cg J,j4 ?_];ext;erw[l,_,J,.inl (SqL.of hl1),?_,←yl7 (by assumption) ?_,←ua (v:=.str !"put") (SqL.of hl1) (vw (j:=0) J) ?_,←J,_,J,?_];rwa[cg J,j4 ?_];ext;erw[l,_,J,.inl (SqL.of hl1),?_];ext;rwa[cg (by rfl),j4 ?_];ext;erw[ua (v:=.str !"on") (SqL.of hl1) (vw (j:=2) J) ?_,←J,_,J,?_];rwa[cg J,j4 ?_];ext;erw[ua (v:=.str b) (SqL.of hl1) (vw (j:=1) J) ?_,←ua (v:=.str t) (SqL.of hl1) (vw (j:=4) J) ?_,←ua (v:=.str y) (SqL.of hl1) (vw (j:=3) J) ?_,←h H1 S1]
#synth ydv ["_law_script","_law_k","_law_cell"] ["_law_script","_law_k"] yrq
#synth ∀(K:z3),∀(l:z4)(ns:Ρ)(j:Nat)(_:vs=[.ref l,.int j])(_:SqL K H l (ns.map V.int))(_:j<=1000)(_:∀n:Int,0<=n->n<2147483647->Q (.int n) H),yyl
def ó:'v' 1 a.Ik a.Jd ["_law_script","_law_k"] (yyl K):=by
 exists T.Bx.F.ok,ydv,q;let#[l,e,j,J,f,n,k]:=h;exists 2,1,yh (pst 2 ydv.nd yf) (yh (Ã (vj (yp ycu (pv 1) (pcB yr T.A9 (pav 0)) (yw _)) (yc (pst 2 ydv.nd (yn xg (pix we (pv 0) (pv 1)) yf))) yq)) (yc (ym (yn xg (yn w4 (yn v9 (yn v9 (yn v9 (yn w4 (pv 2) (pv 2)) (pv 2)) (yn w4 (yn w4 yf (pv 1)) (pv 1))) yf) yf) yf))));erw[ypa (λσ' G=>H=G/\∃c:Int,σ'=[some (.ref l),some (.int j),some (.int c)]/\0<=c/\c<2147483629) ?_ ?_]
 .ext;erw[zd f ?_];rw[bw];ext;refine z9 (λm=>?_) (λm=>?_)
  .have b:j<e.length:=()
   ext;erw[ua (v:=V.int e[j]) f (vw (by rw[ci,bP b];rfl)) ?_,←J,_,J,dG _ ∅,dD _ ∅]
  .ext;erw[J,0,J,∅,∅]
 .rintro σ' G ⟨rfl,c,rfl,p,t⟩;have o:(0:Int)<=(j:Int)/\(j:Int)<=1000:=()
  have r:(0:Int)<=5*(j:Int)/\5*(j:Int)<=5000:=()
  ext;erw[k _ (dG _ ∅) (dD _ ∅)]
noncomputable def nmR(c:Nat)(k:Nat):Str:=⟨(List.replicate k c).toArray⟩
def yp6{c k:Nat}{z:Str}(h:z.cps.toList=(List.replicate k (⟨#[c]⟩:Str).cps.toList).flatten):z=nmR c k:=by
 have e:(List.replicate k [c]).flatten=List.replicate k c:=by
  clear h
  induction k with
  |zero=>rfl
  |succ k ih=>rw[di,List.flatten_cons,di,List.singleton_append,ih]
 have h:z.cps.toList=(List.replicate k [c]).flatten:=h;rw[e]at h
 cases z with|mk cps =>
 unfold nmR
 congr 1
 erw[Array.toList_inj.mp (by simpa using h)]
def ykk{c k:Nat}(h:97<=c/\c<123):ŏ (nmR c k).cps.toList:=λd a=>by
 have e:d∈List.replicate k c:=a;rwa[List.eq_of_mem_replicate e,h]
def OkL(x:Str):Prop:=okN x/\ŏ x.cps.toList
def yp9{x:Str}(h:ŏ x.cps.toList)(h1:1<=x.cps.toList.length)(h8:x.cps.toList.length<=8):OkL x:=#[ved h h1 h8,h]
noncomputable def sz6:Ρ:=[1,3,5,6,8,7]
noncomputable def gI(f:Int->Str):V->V
 | .int t=>.str (f t)
 |v=>v
def yy0(f:Int->Str)(ts:Ρ):(ts.map V.int).map (gI f)=(ts.map f).map V.str:=by rw[cL,cL];rfl
#synth ζ ["_law_cell","_law_small","_law_odd","_law_stem","_law_k","_law_at"] ["_law_cell"] yqs
#synth ∀(K:z3),∀(c:Int)(_:vs=[.int c])(_:0<=c)(_:c<2147483647)(_:∀(r:z4)(ns:Τ)(H':Hp),H r=none->H' r\(ns.map V.str)->yz H H'->ns.length=6->ns.Nodup->(∀x,x∈ns->OkL x)->Q (.ref r) H'),yjj
def yvm:'v' 1 a.Il a.Je ["_law_cell"] (yjj K):=by
 exists T.Kx.F.ok,ζ,hr;let#[c,J,c0,c1,k]:=h;erw[yg (z8 (i:=1) ζ.nd J (Or.inr J) y8) ?_,<-yg (z8 (i:=2) ζ.nd J (Or.inr J) (yn xg (pv 0) yf)) ?_,<-yg (pst 0 ζ.nd (yn vk (pv 0) yf)) ?_,<-yg (vj (yp w6 (yn xg (pv 0) yf) yf (yw _)) (yc (ym (vt (js:=[1,2]) (ys:=["_law_small","_law_odd"]) J (wg (wk (pac yf (pac yf (pac yf (pac yf (pac yf (pa1 yf)))))))) (λC s2 H2 fp=>(yn ś (xc (pv 1) (pv 2) (λC C=>rfl)) (pv 0))) J J (hyc:=(all_cons J (all_cons J yu))) (hrel:=(all_cons J (all_cons J yu)))))) yq) ?_,<-yg (vj (yp w6 (yn xg (pv 0) yf) yf (yw _)) (yc (ym (vt (js:=[1,2]) (ys:=["_law_small","_law_odd"]) J (xz J T.Ar (pa1 yf)) (λC s2 H2 fp=>(yn vh (xc (pv 1) (yn zq (yn v9 (pv 2) yf) (pv 0)) (λC C=>rfl)) (yn ś (xc (pv 1) (pv 2) (λC C=>rfl)) (pv 0)))) J J (hyc:=(all_cons J (all_cons J yu))) (hrel:=(all_cons J (all_cons J yu)))))) yq) ?_,<-yg (z8 (i:=3) ζ.nd J (Or.inr J) y8) ?_,<-yg (uc PassesOwn.never J (xz J T.Ar (pa1 (yn xg (yn vk (pv 0) yf) yf))) (vz (i:=4) ζ.nd J (Or.inl J)) (yc (z8 (i:=3) ζ.nd J (Or.inr J) (yn vh (pv 3) (xc (pv 1) (yn xg (yn vk (yn w4 (pv 0) (yn v9 (pv 4) yf)) yf) yf) (λC C=>rfl)))))) ?_,<-yg (z8 (i:=5) ζ.nd J (Or.inr J) (yn xg (yn vk (pv 0) yf) (yn v9 (pcB xj T.A9 (pav 3)) yf))) ?_];exists 1,5,yc (ym (vt (js:=[3,1,2,5]) (ys:=["_law_stem","_law_small","_law_odd","_law_at"]) J (xz J T.Ar (pa1 yf)) (λC s2 H2 fp=>(yn vh (yn vh (x8 (r:=vi5) ypm (pv 1) zj (ut (pv 4))) (xc (pv 2) (yn v9 (pv 3) (pv 0)) (λC C=>rfl))) (x8 (r:=vi5) ypm (pv 1) (ut (pv 4)) zj))) J J (hyc:=(all_cons J (all_cons J (all_cons J (all_cons J yu))))) (hrel:=(all_cons J (all_cons J (all_cons J (all_cons J yu)))))));obtain⟨o,ho,a1⟩:∃o:Nat,c%21=(o:Int)/\o<=20:=#[(c%21).toNat,(),()];rw[ho];have Y:0<=c/21:=()
 have S:c/21<2147483647:=()
 generalize c/21=p at Y S⊢;clear c0 c1 ho c;erw[z9 (λC=>?_) (λC=>?_)]
 .clear Y S;ext;exists 'l',λX M=>?_
  let I:=y7 (o:=(HO.lst [V.int 1,V.int 3,V.int 5,V.int 6,V.int 8,V.int 7])) M;have G:upd H X (HO.lst [V.int 1,V.int 3,V.int 5,V.int 6,V.int 8,V.int 7]) X=some (HO.lst [V.int 1,V.int 3,V.int 5,V.int 6,V.int 8,V.int 7]):=ya;generalize upd H X (HO.lst [V.int 1,V.int 3,V.int 5,V.int 6,V.int 8,V.int 7])=a4 at I G⊢;erw[X,J,#[_,SqL.of G],λD f=>?_,<-zh (xs:=sz6.map V.int) (gI λt=>nmR (97+o) t.toNat) (SqL.of G) f (λi y F hy g d=>?_) (λF g d=>?_)]
  .rw[ci]at hy;let#[t,O,J]:=dI.mp hy;have a6:1<=t/\t<=8:=(show ∀t∈sz6,1<=t/\t<=8 by decide) t (cz O);ext;exists smS,_,_,J,J,(),(),by rw[ķ];omega,yl3 () (),?_
   rw[show ((o:Int)).toNat=o from rfl];ext;erw[_,_,J,J,(),(),by show 1<=_;decide,λz m=>?_]
   obtain rfl:=yp6 m;erw[Mp.done f (ve ∅) (by rw[ci,O];rfl) g d J]
  .rw[yy0]at d;refine k D _ F (I.free f) d (I.trans g) J ?_ λx L=>?_
   .erw[List.pairwise_map.mpr ((show sz6.Pairwise λa b=>a≠b by decide).imp_of_mem λ{a b}ha hb Z e=>Z ?_)];let h2:=(show ∀t∈sz6,1<=t/\t<=8 by decide) a ha;let h3:=(show ∀t∈sz6,1<=t/\t<=8 by decide) b hb;let W:=congrArg (λx:Str=>x.cps.toList.length) e;simp[nmR]at W;omega
   .let#[t,O,J]:=ce.mp L;let h2:=(show ∀t∈sz6,1<=t/\t<=8 by decide) t O;erw[yp9 (ykk ()) (by simp[nmR];omega) (by simp[nmR];omega)]
 ext;erw[z9 (λC=>?_) (λC=>?_)]
 .clear Y S;ext;exists _,J,∅,∅,λD f=>?_
  erw[þ (lo:=0) (n:=6) (λi=>.str (⟨#[97+(o+5-i)]⟩++nmR (97+o) i)) f (λi F B g d=>?_) (λF g d=>?_)]
  .ext;exists smS,_,_,J,J,(),(),by rw[ķ];omega,yl3 () (),?_
   rw[show ((o:Int)+5-(0+(i:Int))).toNat=o+5-i by omega];ext;erw[smS,_,_,J,J,(),(),by rw[ķ];omega,yl3 () (),?_]
   rw[show ((o:Int)).toNat=o from rfl];ext;erw[_,_,J,J,(),(),by show 1<=_;decide,λz m=>?_]
   rw[show (0+(i:Int)).toNat=i by omega]at m;obtain rfl:=yp6 m;erw[_,_,J,J,by rw[sizeLine_eq,zl (nmR _ _)];simp[nmR];show 1+i<=_;omega,?_]
   erw[Mp.doneR f (ve ∅) B g d J]
  .have eF:F D\(((List.range 6).map λi=>(⟨#[97+(o+5-i)]⟩++nmR (97+o) i:Str)).map V.str):=by rw[d,cL];rfl
   erw[k D _ F f eF g J ?_ λx L=>?_]
   .erw[List.pairwise_map.mpr (List.nodup_range.imp λ{a b}Z e=>Z ?_)];let W:=congrArg (λx:Str=>x.cps.toList.length) e;simp[wt,nmR]at W;erw[W]
   .let#[i,B,J]:=ce.mp L;let h3:=dy.mp B;refine yp9 ?_ ?_ ?_
    .rw[wt];erw[ŏ.app (.one ()) (ykk ())]
    .rw[wt,bY];show 1<=1+_;omega
    .rw[wt,bY];simp[nmR];omega
 .obtain⟨l7,N,hl⟩:∃l:Nat,p/4%8=(l:Int)/\l<=7:=#[(p/4%8).toNat,(),()];ext;rw[N];clear N Y S;refine#[_,J,(),(),j7 (n:=l7) (λi σ2 F=>∃(z:Str)(v:Ψ),σ2=[some (.int p),some (.str smS),some (.int o),some (.str z),v,none]/\ŏ z.cps.toList/\z.length=i/\H=F)
   #[_,_,J,(λc hc=>by cases (show c∈[]from hc)),J,J] ?_ ?_]
  .rintro i σ2 F B ⟨z,v,rfl,m,u,rfl⟩;ext;let R:=dG (p*(0+(i:Int)+3)/7) (show (26:Int)≠0 by decide);let U:=dD (p*(0+(i:Int)+3)/7) (show (0:Int)<26 by decide);generalize p*(0+(i:Int)+3)/7%26=q at R U⊢;exists smS,q,97+q.toNat,J,J,R,(),by rwa[ķ,U],yl3 R U,?_
   erw[z,_,J,J,?_,?_]
   .rw[u,sizeLine_eq];show i+1<=_;omega
   .ext;exists _,_,J,?_,?_,rfl
    .rw[wt];erw[m.app (.one ())]
    .rw[zl,wt,bY,<- zl,u];rfl
  .rintro σ2 F ⟨z,v,rfl,m,u,rfl⟩;ext;exists z,J,by rw[u,sizeLine_eq];omega,?_
   ext
   obtain⟨j,hj,ς⟩:∃j:Nat,p/32%((z.length:Int)+1)=(j:Int)/\j<=z.length:=by
    let R:=dG (p/32) (show ((z.length:Int)+1)≠0 by omega);let U:=dD (p/32) (show 0<((z.length:Int)+1) by omega);erw[(p/32%((z.length:Int)+1)).toNat,(),()]
   rw[hj];clear hj;erw[_,J,∅,∅,λD f=>?_]
   erw[þ (lo:=0) (n:=6) (λi=>.str (ype z j (97+o+i))) f (λi F B g d=>?_) (λF g d=>?_)]
   .ext;let a5:=Txt.slice_le z none (some (j:Int));let a2:=Txt.slice_le z (some (j:Int)) none;exists z,J,by rw[sizeLine_eq];omega,?_
    ext;have ei:97+((o:Int)+(0+(i:Int))).toNat=97+o+i:=()
    erw[smS,_,_,J,J,(),(),by rw[ķ];omega,yl3 () (),?_]
    rwa[ei,#[_,_,J,J,by rw[sizeLine_eq];show _+1<=_;omega,?_]]
    ext;erw[z,J,by rw[sizeLine_eq];omega,?_]
    erw[_,_,J,J,?_,?_]
    .rw[sizeLine_eq,zl,wt,bY,<- zl];show _+1+_<=_;omega
    .erw[Mp.doneR f (ve ∅) B g d J]
   .have eF:F D\(((List.range 6).map λi=>ype z j (97+o+i)).map V.str):=by rw[d,cL];rfl
    erw[k D _ F f eF g J (yis ς o 6) λx L=>?_];let#[i,B,J]:=ce.mp L;let h3:=dy.mp B;erw[yt1 ς m () (),?_];rwa[Ö ς,((m.take j).app (.one ())).app (m.drop j)]
#synth Ī ["_law_script","_law_looks_here","_law_k","_law_cell","_law_places"] ["_law_script"] yqv
#synth ∀(K:z3),∀(l:z4)(zs:Ρ)(_:vs=[.ref l])(_:SqL K H l (zs.map V.int))(_:∀r(n:Nat)(lk:Μ)(kd:Ξ)(tp:Μ)(ps:Λ)H',H r=none->H' r\(refs lk n)->1<=n->n<=6->x9 H' n lk kd tp ps->yz H H'->Q (.ref r) H'),ynv
def ys1:'v' 2 a.Im a.Jf ["_law_script"] (ynv K):=by
 exists T.Ky.F.ok,Ī,hr;let#[l,Z,J,hl,k]:=h;erw[yg (pst 1 Ī.nd (wk u8)) ?_,<-yg (uc PassesOwn.never J (xz J T.Ar (pa1 (yn v9 yf (yn xg (xp (ó T) hr.m T.Bx (pac (pv 0) (pa1 yf))) yf)))) (vz (i:=2) Ī.nd J (Or.inl J)) (yh (pst 3 Ī.nd (xp (ó T) hr.m T.Bx (pac (pv 0) (pa1 (yn v9 yf (pv 2)))))) (yh (pst 4 Ī.nd (pix we (wk (pac (zz u8) (pac (zz (pa1 yf)) (pac (zz (pa1 yf)) (pac (zz (pac yf (pa1 yf))) (pac (zz (pa1 (yn v9 yf (yn xg (yn vk (pv 3) yf) yf)))) (pa1 (zz (pac yf (pac yf (pac yf (pa1 yf)))))))))))) (yn xg (yn vk (pv 3) yf) yf))) (yc (yy ('u' (pv 1) (pa1 (zz (pac (pix we (wk (pac y8 (pac y8 (pa1 y8)))) (yn xg (pv 3) yf)) (pav 4)))))))))) ?_];exists 1,4,yc (ym (pv 1));exists 'l',λL hL0=>?_
 exists hL0,H1,S1,hL1;ext;erw[l,Z,0,J,S1.seq hl,∅,λc c0 c1=>?_]
 ext;obtain⟨n,hn,n1,n6⟩:∃n:Nat,1+c%2=(n:Int)/\1<=n/\n<=6:=#[(1+c%2).toNat,(),(),()];rwa[hn,#[_,J,(),(),j7 (n:=n) (λi σ2 G=>∃(v2 X v4:Ψ)(u:Μ)(v:Ξ)(N:Μ)(B:Λ),σ2=[some (.ref l),some (.ref L),v2,X,v4]/\G L\(refs u i)/\x9 G i u v N B/\yz H G)
  #[_,_,_,λF=>0,λF=>0,λF=>0,λF=>[],J,hL1,λj U=>absurd U (cP j),S1] ?_ ?_]]
 .rintro i σ2 G hi ⟨v2,X,v4,u,v,N,B,rfl,gL,gR,W⟩;ext;exists l,Z,1+i,by rw[show ((1+i:Nat):Int)=1+(0+(i:Int)) by omega];rfl,W.seq hl,(),λd d0 d1=>?_
  ext;exists 'l',λx1 xg1=>?_
  exists xg1,xH1,xS1,xe1;ext;exists 'l',λx2 xg2=>?_
  exists xg2,xH2,xS2,xe2;ext;exists 'l',λx3 xg3=>?_
  exists xg3,xH3,xS3,xe3;ext;exists 'l',λx4 xg4=>?_
  exists xg4,xH4,xS4,xe4;ext;exists 'l',λx5 xg5=>?_
  exists xg5,xH5,xS5,xe5;ext;exists 'l',λx6 xg6=>?_
  exists xg6,xH6,xS6,xe6;ext;exists 'l',λx7 xg7=>?_
  exists xg7,xH7,xS7,xe7;let O:=xS7;let xe6:=O _ _ xe6;let R:=xS6.trans O;let xe5:=R _ _ xe5;let y:=xS5.trans R;let xe4:=y _ _ xe4;let I:=xS4.trans y;let xe3:=I _ _ xe3;let D:=xS3.trans I;let xe2:=D _ _ xe2;let C:=xS2.trans D;let xe1:=C _ _ xe1;let ς:=xS1.trans C;ext
  obtain⟨f,M,hv,hq,Y⟩:∃f M,atI [V.ref x1,V.ref x2,V.ref x3,V.ref x4,V.ref x5,V.ref x6] (d/24%6)∣f/\xH7 f∪(List.map V.int M)/\uz (M.map V.int)=true:=by
   have h0:d/24%6=0\/d/24%6=1\/d/24%6=2\/d/24%6=3\/d/24%6=4\/d/24%6=5:=()
   rcases h0 with z|z|z|z|z|z<;>rw[z]
   .erw[x1,[],J,xe1,rfl]
   .erw[x2,[1],J,xe2,rfl]
   .erw[x3,[2],J,xe3,rfl]
   .erw[x4,[1,2],J,xe4,rfl]
   .erw[x5,[1+d/3%8],J,xe5,yjc (by show 1<=4;decide) (λp hp=>?_) (List.pairwise_singleton _ _)];rw[cn.mp hp];omega
   .erw[x6,[1,3,5,8],J,xe6,rfl]
  erw[ua (SqL.of xe7) hv ?_];let S:=ς _ _ gL;ext;erw[jj S ?_];ext;exists 'l',λq2 hq2=>?_
  exists hq2,G4,T4,hq4;ext;let#[kk,hk]:=ytq d;erw[ua (SqL.of hq4) hk ?_];ext;exists 'l',λt ht=>?_
  exists ht,G7,T7,ht7;let q:=T4.trans T7;let r:=q _ _ S;let x:=ς.trans q;ext;erw[xx r (ve (by rw[v8];omega)) ?_];have g7:LkG G7 (.ref t) kk f M:=#[t,J,ht7,q _ _ hq,Y];ext;erw[_,_,_,upN u i t,upN v i kk,upN N i f,upN B i M,J,?_,λj U=>?_,λb o e=>ye (yb e hL0) (x _ _ (W b o e))]
  .rw[ya,ud,w5]
   congr 3
   erw[ub λj U=>(wy U).symm]
  .by_cases z:j=i
   .subst z;rwa[w5,w5,w5,w5,g7.upd r]
   .have g:j<i:=()
    rwa[wy g,wy g,wy g,wy g,((gR j g).same x).upd r]
 .rintro σ2 G ⟨v2,X,v4,u,v,N,B,rfl,gL,gR,W⟩;ext;erw[k L n u v N B G hL0 gL n1 n6 gR W]
#synth ò ["_law_cell","_law_more","_law_size","_law_text_here","_law_k"] ["_law_cell","_law_more"] yqf
#synth ∀(K:z3),∀(c:Int)(m:Nat)(_:vs=[.int c,.int m])(_:0<=c)(_:c<2147483647)(_:m<=9)(_:∀r(ts:Ρ)H',H r=none->H' r\(ts.map V.int)->Sgs ts->ts.length<=3+m->yz H H'->Q (.ref r) H'),yoj
def ytf:'v' 1 a.Io a.Jg ["_law_cell","_law_more"] (yoj K):=by
 exists T.Kz.F.ok,ò,W;let#[c,m,J,Y,U,S,k]:=h;erw[yg (pst 2 ò.nd (yn v9 (yn xg (pv 0) yf) (pv 1))) ?_,<-yg (pst 0 ò.nd (yn vk (pv 0) yf)) ?_,<-yg (pst 3 ò.nd (wk u8)) ?_,<-yg (uc PassesOwn.never J (xz J T.Ar (pav 2)) (vz (i:=4) ò.nd J (Or.inl J)) (yh (yy ('u' (pv 3) (pa1 (yn xg (pv 0) yf)))) (yc (vj (yp yhj (yn xg (yn vk (pv 0) yf) yf) yf (yw _)) (yc (pst 0 ò.nd (yn xg (yn w4 (yn vk (pv 0) yf) yf) yf))) yq)))) ?_];exists 2,3,yc (ym (pv 3));obtain⟨z,M,O⟩:∃z:Nat,c%4+(m:Int)=(z:Int)/\z<=3+m:=#[(c%4+(m:Int)).toNat,(),()];rw[M];have u:0<=c/4:=()
 have r:c/4<2147483647:=()
 generalize c/4=d at u r⊢;exists 'l',λt ht0=>?_
 exists ht0,H1,S1,ht1;ext;erw[_,J,(),(),j7 (n:=z) (λi σ2 G=>∃(v:Ψ)(d:Int)(f:Ρ),σ2=[some (.int d),some (.int m),some (.int z),some (.ref t),v]/\0<=d/\d<2147483647/\G t\(f.map V.int)/\Sgs f/\f.length=i/\yz H G)
  #[_,d,[],J,u,r,ht1,(λx D=>by cases D),J,S1] ?_ ?_]
 .clear u r d;rintro i σ2 G X ⟨v,d,f,rfl,u,r,B,p,y,I⟩;ext;erw[jj B ?_];ext;refine xx B (ve (by rw[bw];omega)) ?_
  have g:Sgs (f++[d%256]):=λx D=>by
   rcases cK.mp D with z|z
   .erw[p x z]
   .rw[cn.mp z];omega
  have j:(f++[d%256]).length=i+1:=by rw[bY,y];rfl
  have q:upd G t (.lst (f.map V.int++[V.int (d%256)])) t\((f++[d%256]).map V.int):=by rw[ya,cy];rfl
  have l:yz H (upd G t (.lst (f.map V.int++[V.int (d%256)]))):=λb o e=>ye (yb e ht0) (I _ _ e);generalize upd G t (.lst (f.map V.int++[V.int (d%256)]))=R at q l⊢;ext;erw[z9 (λL=>?_) (λL=>?_)]
  .ext;erw[_,_,_,J,dG _ ∅,dD _ ∅,q,g,j,l]
  .erw[_,d,_,J,u,r,q,g,j,l]
 .rintro σ2 G ⟨v,d,f,rfl,u,r,B,p,y,I⟩;ext;erw[k t f G ht0 B p () I]
#synth yks ["_law_signs","_law_figures"] ["_law_signs"] yrl
def yef:'v' 1 a.Ip a.Jh ["_law_signs"] (ysr K):=by
 exists T.En.F.ok,yks,t;let#[l,d,J,g,p,z,k]:=h;exists 1,1,yh (z8 (i:=1) yks.nd J (Or.inr J) y8) (yc (ym (uy PySem.F.plainAttrs_str PySem.F.slot_str_join PySem.F.type_str_join Ù y8 (pa1 (vt (js:=[1]) (ys:=["_law_figures"]) J (wg (pv 0)) (λC r q u=>(yn vh (xc (pv 1) (yn vk (pv 0) yf) (λZ Z=>rfl)) (xc (pv 1) (yn xg (pv 0) yf) (λZ Z=>rfl)))) J J (hyc:=(all_cons J yu)) (hrel:=(all_cons J yu)))))));erw[J,?_,←l,J,#[_,g],λD m=>?_,<-zh hxV g m (λi y G j S b=>?_) (λG S b=>?_)]
 .let#[c,J,e,_,_]:=jh j;let#[x,v]:=p c e;ext;exists hxS,c/16,_,J,J,(),(),by rw[yft];omega,yo6 #[(c/16).toNat,()],?_
  ext;erw[hxS,c%16,_,J,J,(),(),by rw[yft];omega,yo6 #[(c%16).toNat,()],?_]
  erw[_,_,J,J,by show 1+1<=_;decide,?_]
  erw[Mp.done m (ve (by rw[bw];omega)) j S b J]
 .ext;have b:G D\((d.map hx2).map V.str):=by rw[b,cL,cL];rfl
  erw[⟨#[]⟩,D,d.map hx2,J,J,SqL.of b,?_,k G S];rw[yrm];show 2*d.length+_*0<=_;omega
end
section
mutual
variable{B H H':Hp}{dk:z4}{C:Cf}{P:qj Pd}{X Y:Sx}{tx:Str->z4}
def Kf.goW{x:z4}{o:HO}(h:Kf H X x o)(wf:∀y,X.w y->X.f y)(g:Gx X H H' Y):Kf H' Y x o :=
 #[g.g.fr _ _ h.1 λw=>h.2 (wf _ w),λw=>(g.f x w).elim h.2 λe=>by rw[h.1]at e;cases e]
theorem Mdl.goW(h:Mdl H X md P tu tx)(wf:∀y,X.w y->X.f y)(g:Gx X H H' Y):Mdl H' Y md P tu tx :=
 #[h.d.imp (λe=>(Kf.goW #[e,h.n] wf g).1) λ⟨o,e⟩=>#[o,(Kf.goW #[e,h.n] wf g).1],(h.d.elim (λe=>(Kf.goW #[e,h.n] wf g).2) λ⟨o,e⟩=>(Kf.goW #[e,h.n] wf g).2),λq a=>(h.t q a).goW wf g,λq a=>(h.x q a).goW wf g]
def Bs.goW(h:Bs B H X)(wf:∀y,X.w y->X.f y)(g:Gx X H H' Y):Bs B H' Y :=
 #[λy o e=>g.g.fr _ _ (h.s _ _ e) (λw=>by rw[h.n y (wf y w)]at e;cases e),λy w=>(g.f y w).elim (h.n y) λe=>h.s.free e]
def Dk.but(h:Dk K a H dk C P X){o:HO}(e:H y=some o)(ho:yl8 o=true)(ny:¬X.f y)(b:But y H H'):Dk K a H' dk C P X :=
 h.frame (WSh.mu e ho) (λz w q=>ny (by rwa[<- q,w])) λz o e c=>b z o e c
def Dk.new(h:Dk K a H dk C P X){x:z4}(e:H x=none):¬X.f x:=λw=>by
 let#[o,b]:=h.live x w;rw[e]at b;cases b
def Dk.oth{dk2:z4}{C2:Cf}{P2:qj Pd}{X2 Y2:Sx}(h:Dk K a H dk C P X)(h2:Dk K a H dk2 C2 P2 X2)(sp:Sep X X2)(g:Gx X2 H H' Y2):Dk K a H' dk C P X/\Sep X Y2 :=
 #[h.frame h2.sh (λy w v=>sp y w (h2.wf y v)) g.g.fr,λy w v=>(g.f y v).elim (sp y w) λe=>h.new e w]
end
end
mutual
def yho(v:String)(b:Str)(h:(Str.ofString (v++" ")).cps.toList=(Str.ofString v).cps.toList++[32]):Str.ofString (v++" ")++b=Str.join ⟨#[32]⟩ [Str.ofString v,b]:=õ (by
 rw[wt,Õ,h,cJ];rfl)
def yd5(ws:Τ):(Str.join ⟨#[32]⟩ ws).length<=(ws.map λw:Str=>w.length).sum+ws.length:=by rw[<- PySem.StrLaws.glued_eq_join,PySem.size_glued];show _+(ws.length-1)*1<=_;omega
def ybb(x y:Str):(x++y).length=x.length+y.length:=by rw[zl,wt,bY,<- zl,<- zl]
def Ä{b:Str}(h:ŏ b.cps.toList):32∉b.cps.toList:=λz=>by
 have:=h 32 z;omega
def yr8(ts:Ρ):32∉(jm ts).cps.toList:=λz=>by
 rw[χ]at z;let#[s,_,b]:=List.mem_flatMap.mp z
 have a:∀i:Nat,hxC i≠32:=λi=>by
  rcases Nat.lt_or_ge i 16 with h|h
  .erw[(by right:∀i:Fin 16,hxC i.val≠32) #[i,h]]
  .unfold hxC;rw[cZ,cT (by rw[show hxS.cps.toList.length=16 by right];erw[h])];decide
 rcases cr.mp b with e|e
 .erw[a _ e.symm]
 .erw[a _ (cn.mp e).symm]
def Dk.two{H:Hp}{dk:z4}{C:Cf}{P:qj Pd}{X:Sx}{v b:Str}{Q:VK}{E:XK}(h:Dk K a H dk C P X)(hv:32∉v.cps.toList)(hb:32∉b.cps.toList)(lv:v.length<=5)(lb:b.length<=80000)(g:∀H1,yz H H1->SW K a H1 dk C P X Q E b v):á K a [.ref dk,.str (Str.join ⟨#[32]⟩ [v,b])] H Q E:=by
 let#[f,k,Z,e,i,n,j]:=id h;erw[dk,f,_,[v,b],J,e,λw c=>?_,?_,.inr (.inl #[v,b,J,λH1 d=>#[dk,C,P,X,v,b,J,h.same d,g H1 d]])]
 .rcases cr.mp c with rfl|c
  .erw[hv]
  .rw[cn.mp c];erw[hb]
 .erw[cO (yd5 _) ?_];show (v.length+(b.length+0))+2<=_;omega
theorem Dk.ins{H:Hp}{dk:z4}{C:Cf}{P:qj Pd}{X:Sx}(h:Dk K a H dk C P X):∃dd vd,H dk∩a.Ah dd (ß vd):=by let#[dd,c,Z,b,_]:=h;exists dd,_,b
theorem yeb{ς:Hp}:∀bs:qj Bool,Sds K ς (bs.map V.bl) (bs.map PyData.bool) 0
 |[]=>.nil
 |b::r=>.cons (Sd.bl b) (yeb r)
def ycg{ς:Hp}{Q:VK}{l m:z4}(bs:qj Bool)(h1:ς l\(bs.map V.bl))(h2:ς m\(bs.map V.bl))(q:Q (.bl true) ς):yw7 K id (.ref l) (.ref m) ς Q :=
 vhn (Sd.lst (SqL.of h1) (yeb bs)) (Sd.lst (SqL.of h2) (yeb bs)) ∅ q
def ErK(a:Ads)(c:qc)(bs:qj Bool):Prop:=(c=.ref a.Af/\bs=[true,false,false])\/(c=.ref a.A2/\bs=[false,true,false])\/(c=.ref a.Ak/\bs=[false,false,true])
#synth İ ["_law_desk","_law_row","_law_found","e"] ["_law_desk","_law_row"] ysa
#synth ∀(K:z3)(a:Ads),∀(dk dd:z4)(vd:V)(r:Str)(_:vs=[.ref dk,.str r])(_:H dk∩a.Ah dd (ß vd))(_:∀Q2 E2,(∀v H',Q v H'->Q2 v H')->(∀c bs H',ErK a c bs->(∀l H2,H' l=none->H2 l\(bs.map V.bl)->yz H' H2->Q (.ref l) H2)->E2 c none H')->á K a [.ref dk,.str r] H Q2 E2),ysz
def ya1:'v' 19 a.Iq a.Ji ["_law_desk","_law_row"] (ysz K a):=by
 exists T.Dn.F.ok,İ,o;let#[n,j,u,r,J,z,k]:=h;exists 2,2,yh (pst 2 İ.nd y8) (yh (vaw (i:=3) (λg y=>(yc (pst 2 İ.nd (y6 (pv 0) T.Ac T.Aa.m (uq T) o.m T.Aa.B .nil yoo (pav 1))))) #[J,J] J T.D5 (λg x=>(yc (pst 2 İ.nd (wk (pac (pcB (id:="isinstance") (r:=yw9 K) yai T.A5 (pac (pv 3) (pa1 (δ J T.Gy)))) (pac (pcB (id:="isinstance") (r:=yw9 K) yai T.A5 (pac (pv 3) (pa1 (δ J T.Ee)))) (pa1 (pcB (id:="isinstance") (r:=yw9 K) yai T.A5 (pac (pv 3) (pa1 (δ J T.Gz))))))))))) İ.nd J J) (yc (ym (pv 2))));erw[k _ _ (λv p q=>?_) (λc C p t q=>?_)]
 .ext;erw[q]
 .rcases t with⟨rfl,rfl⟩|⟨rfl,rfl⟩|⟨rfl,rfl⟩
  .erw[ywx T.Bh λx hx=>?_];dsimp only[List.set];exists hx,H2,S2,e2;ext;erw[Þ e2 T.Eo T.Dt ?_,←Þ e2 T.Eo T.Ct ?_,←Þ e2 T.Eo T.Ds ?_];ext;exists 'l',λl b=>?_
   ext;erw[q l _ (S2.free b) ya (S2.trans (y7 b))]
  .erw[ywx T.B8 λx hx=>?_];dsimp only[List.set];exists hx,H2,S2,e2;ext;erw[Þ e2 T.Cr T.Cv ?_,←Þ e2 T.Cr T.C5 ?_,←Þ e2 T.Cr T.Cu ?_];ext;exists 'l',λl b=>?_
   ext;erw[q l _ (S2.free b) ya (S2.trans (y7 b))]
  .erw[ywx T.Bi λx hx=>?_];dsimp only[List.set];exists hx,H2,S2,e2;ext;erw[Þ e2 T.Ep T.Dv ?_,←Þ e2 T.Ep T.Cw ?_,←Þ e2 T.Ep T.Du ?_];ext;exists 'l',λl b=>?_
   ext;erw[q l _ (S2.free b) ya (S2.trans (y7 b))]
noncomputable def wsP(b:Str):ql Str->Str->qj Str
 |none,t=>[Str.ofString "put",b,t]
 |some y,t=>[Str.ofString "put",b,Str.ofString "on",y,t]
def vjg(b t:Str):Str.ofString "put "++b++Str.ofString " "++t=Str.join ⟨#[32]⟩ (wsP b none t):=õ (by
 rw[wt,wt,wt,wsP,Õ];show ([112,117,116,32]++b.cps.toList++[32])++t.cps.toList=[112,117,116]++32::(b.cps.toList++32::t.cps.toList);simp)
def vk0(b y t:Str):Str.ofString "put "++b++Str.ofString " "++Str.ofString "on "++y++Str.ofString " "++t=Str.join ⟨#[32]⟩ (wsP b (some y) t):=õ (by
 rw[wt,wt,wt,wt,wt,wt,wsP,Õ];show ((([112,117,116,32]++b.cps.toList++[32])++[111,110,32])++y.cps.toList++[32])++t.cps.toList=[112,117,116]++32::(b.cps.toList++32::([111,110]++32::(y.cps.toList++32::t.cps.toList)));simp)
theorem Dk.put{H:Hp}{dk:z4}{C:Cf}{P:qj Pd}{X:Sx}{b:Str}{x:Φ}{Q:VK}{E:XK}(h:Dk K a H dk C P X)(hb:OkL b)(hx:∀y,x=some y->OkL y)(hts:Sgs ts)(htw:ts.length<=C.w)(hP:P.length<60)
  (kT:(∃r,r∈P/\r.nm=b)->∀H',yz H H'->E (.ref a.Af) none H') (kN:(∀q,q∈P->q.nm≠b)->∀y,x=some y->(∀q,q∈P->q.nm≠y)->∀H',yz H H'->E (.ref a.A2) none H')
  (k:(∀q,q∈P->q.nm≠b)->∀L,ToD P x L->∀Y H',Dk K a H' dk C (P++[#[b,x,L,ts]]) Y->Gx X H H' Y->Q (.str !"ok") H'):á K a [.ref dk,.str (Str.join ⟨#[32]⟩ (wsP b x (jm ts)))] H Q E:=by
 let#[A,F,Z,u,s,n,D]:=id h;let t:=s.cf;let B:=wj hb.1.1;let o:=jr ts;have f:∀l,yz H l->yfn K a [.ref dk,.str b,.str (jm ts),baV x] l Q E:=λl g=>#[dk,C,P,X,b,ts,x,J,h.same g,hb.1,hts,htw,λy e=>(hx y e).1.1,hP,λz d i=>kT z d (g.trans i),λz y e m d i=>kN z y e m d (g.trans i),λm L v Y d p g2=>k m L v Y d p (g2.ahead g)];erw[dk,A,_,_,J,u,λw c=>?_,?_,?_]
 .have j:w=Str.ofString "put"\/w=b\/w=Str.ofString "on"\/x=some w\/w=jm ts:=by
   cases x with
   |none =>
    rcases cr.mp c with z|c
    .erw[.inl z]
    rcases cr.mp c with z|c
    .erw[.inr (.inl z)]
    .erw[.inr (.inr (.inr (.inr (cn.mp c))))]
   |some y =>
    rcases cr.mp c with z|c
    .erw[.inl z]
    rcases cr.mp c with z|c
    .erw[.inr (.inl z)]
    rcases cr.mp c with z|c
    .erw[.inr (.inr (.inl z))]
    rcases cr.mp c with z|c
    .erw[.inr (.inr (.inr (.inl (by rw[z]))))]
    .erw[.inr (.inr (.inr (.inr (cn.mp c))))]
  rcases j with rfl|rfl|rfl|e|rfl
  .decide+kernel
  .erw[Ä hb.2]
  .decide+kernel
  .erw[Ä (hx w e).2]
  .erw[yr8 ts]
 .refine cO (yd5 _) ?_
  cases x with
  |none =>
   show 3+(b.length+((jm ts).length+0))+3<=_;omega
  |some y =>
   have:=wj (hx y J).1.1;show 3+(b.length+(2+(y.length+((jm ts).length+0))))+5<=_;omega
 .cases x with
  |none=>erw[.inr (.inr (.inl #[b,jm ts,J,f]))]
  |some y=>erw[.inr (.inr (.inr #[b,y,jm ts,J,f]))]
structure NsO(ns:Τ):Prop where
 l:ns.length=6
 o:∀x,x∈ns->OkL x
def Stk.snoc{P:qj Pd}{q:Pd}(h:Stk P)(hb:∀b,q.bs=some b->∃r,r∈P/\r.nm=b):Stk (P++[q]):=λi r b c e=>by
 rcases Nat.lt_or_ge i P.length with z|z
 .rw[dh z]at c;let#[j,s,a,k,f]:=h i r b c e;erw[j,s,a,by rwa[dh (),k],f]
 .have l:i=P.length:=by
   have:=(ck.mp c).1;rw[bY,df]at this;omega
  subst l;rw[List.getElem?_concat_length]at c;cases c;let#[u,g,d]:=hb b e;let#[j,a,J]:=List.mem_iff_getElem.mp g;erw[j,_,a,by rwa[dh a,bP a],d]
structure K3(K:z3)(a:Ads)(B H:Hp)(dk md:z4)(C:Cf)(P:qj Pd)(X:Sx)(tu tx:Str->z4)(ns:Τ):Prop where
 s:Dk K a H dk C P X
 b:Bs B H X
 n:B md=none
 m:Mdl H X md P tu tx
 d:H md=some (.dK (mdK tu P))
 i:∀q,q∈P->q.nm∈ns
 k:Stk P
end
section
mutual
variable{B B' H H':Hp}{dk:z4}{C:Cf}{P:qj Pd}{X Y:Sx}{tx:Str->z4}{ns:Τ}
theorem K3.same(h:K3 K a B H dk md C P X tu tx ns)(S:yz H H'):K3 K a B H' dk md C P X tu tx ns:=#[h.s.same S,h.b.same S,h.n,h.m.same S,S _ _ h.d,h.i,h.k]
def K3.go(h:K3 K a B H dk md C P X tu tx ns)(s:Dk K a H' dk C P Y)(g:Gx X H H' Y):K3 K a B H' dk md C P Y tu tx ns :=
 #[s,h.b.goW h.s.wf g,h.n,h.m.goW h.s.wf g,(Kf.goW #[h.d,h.m.n] h.s.wf g).1,h.i,h.k]
def Dk.z{h:Dk K a H dk C P X}(o:NsO ns)(i:∀q,q∈P->q.nm∈ns):P.length<=6:=by
 let e:=yd7 h.pw.nd (m:=ns) λy c=>by
  let#[u,b,J]:=ce.mp c;erw[i u b]
 rw[bw,o.l]at e;erw[e]
theorem K3.z(h:K3 K a B H dk md C P X tu tx ns)(o:NsO ns):P.length<=6:=h.s.z o h.i
end
end
mutual
#synth ya0 ["_law_desk","_law_pieces","_law_name","_law_base","_law_text_here","_law_row","_law_found"] ["_law_desk","_law_pieces","_law_name","_law_base","_law_text_here"] ysd
#synth ∀(K:z3)(a:Ads),∀(dk md t:z4)(C:Cf)(P:qj Pd)(X:Sx)(tu tx:Str->z4)(ns:Τ)(b:Str)(x:Φ)(ts:Ρ)(B:Hp)(_:vs=[.ref dk,.ref md,.str b,baV x,.ref t])(_:K3 K a B H dk md C P X tu tx ns)(_:NsO ns)(_:b∈ns)(_:(∀y,x=some y->y∈ns))(_:ä B t ts C.w)(_:∀P' Y tu' tx' H',K3 K a B H' dk md C P' Y tu' tx' ns->Q (.bl true) H'),ys7
def ywd:'v' 20 a.Ir a.Jj ["_law_desk","_law_pieces","_law_name","_law_base","_law_text_here"] (ys7 K a):=by
 exists T.L1.F.ok,ya0,f;let#[U,j,t,C,P,X,S,tx,ns,b,x,v,B,J,Z,D,a0,a5,ς,k]:=h;let hb:=D.o b a0;let ah:=Z.z D;have ab:(mdK S P).length=P.length:=bw _;let h8:=wj hb.1.1;let a7:=jr v;let I:=ς.z
 have ai:C.w<=200:=by
  let#[_,_,_,_,hS,_,_]:=Z.s;erw[hS.cf.2.2.2.2]
 let#[dd,vd,me]:=Z.s.ins;erw[yg (pst 5 ya0.nd (yn vh (yn vh y8 (pv 2)) y8)) ?_,<-yg (Ã (vj (yp ĭ (pv 3) z6 (yw _)) (yc (pst 5 ya0.nd (yn vh (yn vh (yn vh (pv 5) y8) (pv 3)) y8))) yq)) ?_,<-yg (pst 6 ya0.nd (xp (ya1 T) f.m T.Dn (pac (pv 0) (pa1 (yn vh (pv 5) (xp (yef T) f.m T.En (pav 4))))))) ?_,<-yg (vj (ĵ (yqy (jk f) (pv 2) (pv 1))) (yc (ym (xm (ycp f.units) (pv 6) (wk (pac uk (pac uk (pa1 uk)))) (yw _)))) yq) ?_,<-yg (vj (PW.pt (ycl (yp ĭ (pv 3) z6 (yw _)) (ya3 (ĵ (j9 (jk f) (pv 3) (pv 1)))))) (yc (ym (xm (ycp f.units) (pv 6) (wk (pac uk (pac uk (pa1 uk)))) (yw _)))) yq) ?_,<-yg (ī (jk f) (pv 1) (pv 2) (zz (pac (pv 4) (pav 3))) J) ?_];exists 5,2,yc (ym (xm w6 (pv 6) y8 (yw _)));erw[_,_,J,J,vo (by show 4+_<=_;omega),?_,←_,_,J,J,vo (by rw[ybb];show 4+_+1<=_;omega),?_,←λσ2 F=>H=F/\∃r:Str,σ2=[some (.ref U),some (.ref j),some (.str b),some (baV x),some (.ref t),some (.str r),none]/\r.length<=30/\r++jm v=Str.join ⟨#[32]⟩ (wsP b x (jm v)),?_,?_]
 .cases x with
  |none =>
   ext;erw[ypf (λm=>?_) (λz=>absurd J z),<-J,_,J,by rw[ybb,ybb];show 4+_+1<=_;omega,vjg _ _]
  |some y =>
   have:=wj (D.o y (a5 y J)).1.1;ext
   erw[ypf (λz=>nomatch z) (λm=>?_)]
   ext;erw[_,_,J,J,vo (by rw[ybb,ybb];show 4+_+1+3<=_;omega),?_,←_,_,J,J,vo (by rw[ybb,ybb,ybb];show 4+_+1+3+_<=_;omega),?_,←_,_,J,J,vo (by rw[ybb,ybb,ybb,ybb];show 4+_+1+3+_+1<=_;omega),?_,←J,_,J,by rw[ybb,ybb,ybb,ybb,ybb];show 4+_+1+3+_+1<=_;omega,vk0 _ _ _]
 rintro σ2 F ⟨rfl,r,rfl,ae,G⟩;ext;erw[t,v,J,SqL.of (Z.b.s _ _ ς.l),ς.s,(),λH1 S1=>?_]
 erw[_,_,J,J,vo (by rw[a7];omega),?_];rw[G];let c:=Z.same S1;have O:∀y,x=some y->OkL y:=λy e=>D.o y (a5 y e);clear G ae Z;ext;by_cases hp:b∈P.map (·.nm)
 .let#[q,M,J]:=ce.mp hp;erw[U,dd,vd,_,J,S1 _ _ me,λQ2 E2 hQ hE=>c.s.put hb O ς.s I () (λm H2 S2=>hE _ _ H2 (.inl #[J,J]) λl H3 a8 hl S3=>?_) (λW=>absurd J (W q M)) λW=>absurd J (W q M)];let p:=c.same (S2.trans S3);ext;erw[j,_,J,p.m.get M,?_,←j4 ?_];ext;exists 'l',λl2 hl2=>?_
  exists hl2,H4,S4,e4;ext;erw[ycg [true,false,false] (S4 _ _ hl) e4 (k _ _ _ _ _ (p.same S4))]
 .have g:∀q,q∈P->q.nm≠b:=λq M e=>hp (ce.mpr #[q,M,e]);by_cases hin:∀y,x=some y->∃r,r∈P/\r.nm=y
  .erw[U,dd,vd,_,J,S1 _ _ me,λQ2 E2 hQ hE=>c.s.put hb O ς.s I () (λ⟨r,f,e⟩=>absurd e (g r f)) (λm y e W=>(let ⟨r,f,e'⟩:=hin y e;absurd e' (W r f))) λm L hL Y H2 a4 g2=>hQ _ _ ?_];let N:=c.m.goW c.s.wf g2;let ad:=c.b.goW c.s.wf g2;let a6:=(Kf.goW #[c.d,c.m.n] c.s.wf g2).1;ext;erw[j,_,J,N.getNo g,?_,←uo ?_,<-yl7 (by assumption) ?_,<-yfq λm m m m m m=>?_];refine ifI False (λQb qT qF=>?_) (λz=>z.elim) ?_
   .cases x with
    |none =>
     ext;erw[qF]
    |some y =>
     let#[r,aa,e']:=hin y J;subst e';ext
     erw[ypf (λz=>nomatch z) (λm=>?_)]
     ext;erw[j,_,J,N.get aa,false,J,qF]
   ext;exists 'l',λtt htt0=>?_
   exists htt0,H4,S4,htt4;let af:=a4.same S4;let a1:=N.same S4;let a3:=ad.same S4;let R:=S4 _ _ a6;have a9:Kf H4 Y t (.lst (v.map V.int)):=a3.kf ς.l;ext;erw[j,_,J,yhs.k (k:=.inr b) R (ve (by rw[ab];omega)),?_];rw[ytj (q:=#[b,x,L,v]) g];have b5:But j H4 (upd H4 j (.dK (mdK (upS S b tt) (P++[#[b,x,L,v]])))):=But.upd;let ag:=a1.put (q:=#[b,x,L,v]) R g #[htt4,a4.new htt0] a9;have h5:K3 K a B (upd H4 j (.dK (mdK (upS S b tt) (P++[#[b,x,L,v]])))) U j C (P++[#[b,x,L,v]]) Y (upS S b tt) (upS tx b t) ns:=#[af.but R J a1.n b5,a3.but c.n b5,c.n,ag,ya,λu hu=>(cK.mp hu).elim (c.i u) λe=>by rwa[cn.mp e,a0],c.k.snoc hin];generalize upd H4 j (.dK (mdK (upS S b tt) (P++[#[b,x,L,v]])))=H5 at h5⊢;ext;erw[J,?_];rwa[cg J,k _ _ _ _ _ h5]
  .obtain⟨y,rfl,a2⟩:∃y,x=some y/\∀q,q∈P->q.nm≠y:=by
    cases x with
    |none=>erw[absurd (λy e=>nomatch e) hin]
    |some y=>erw[y,J,λq M e=>hin λz ez=>#[q,M,by cases ez;erw[e]]]
   erw[U,dd,vd,_,J,S1 _ _ me,λQ2 E2 hQ hE=>c.s.put hb O ς.s I () (λ⟨r,f,e⟩=>absurd e (g r f)) (λm z ez W H2 S2=>hE _ _ H2 (.inr (.inl #[J,J])) λl H3 a8 hl S3=>?_) λm L hL=>(let ⟨r,f,e,_⟩:=hL;absurd e (a2 r f))];let p:=c.same (S2.trans S3);ext;erw[j,_,J,p.m.getNo g,?_,←uo ?_,<-yl7 (by assumption) ?_,<-yfq λm m m m m m=>?_,<-vk1 True False (λQb qT qF=>?_) (λm=>?_) (λz=>z.elim)]
   .ext
    erw[ypf (λz=>nomatch z) (λm=>?_)]
    ext;erw[j,_,J,p.m.getNo a2,true,J,qT trivial]
   ext;exists 'l',λl2 hl2=>?_
   exists hl2,H4,S4,e4;ext;erw[ycg [false,true,false] (S4 _ _ hl) e4 (k _ _ _ _ _ (p.same S4))]
def yfz{P:qj Pd}{i:Nat}{kk:Key}{v:V}(h:(mdK tu P)[i]?=some (kk,v)):∃q,P[i]?=some q/\kk=.inr q.nm/\v=.ref (tu q.nm):=by unfold mdK at h;rw[ci]at h;let#[q,a,e]:=dI.mp h;cases e;erw[q,a,J,J]
theorem Mdl.frz{H:Hp}{X:Sx}{P:qj Pd}{tx:Str->z4}(h:Mdl H X md P tu tx)(hd:H md=some (.dK (mdK tu P)))(o:Obj):Mdl (upd H md (.frz o (.dK (mdK tu P)))) X md P tu tx :=
 #[.inr #[o,ya],h.n,λq a=>(h.t q a).but (λz=>by have e:=(h.t q a).1;rw[z,hd]at e;cases e) But.upd,λq a=>(h.x q a).but (λz=>by have e:=(h.x q a).1;rw[z,hd]at e;cases e) But.upd]
def yv9(b:Str)(P:qj Pd):inV (.str b) (P.map λq=>baV q.bs)=P.any λq=>decide (q.bs=some b):=by
 unfold inV;rw[List.any_map]
 congr 1
 funext q
 show eqV (baV q.bs) (.str b)=_
 cases e:q.bs with
 |none=>erw[(cj (λz=>nomatch z)).symm]
 |some x =>
  show (x == b)=_;rwa[Bool.eq_iff_iff,beq_iff_eq,decide_eq_true_iff,#[congrArg some,cu]]
def yoq(P:qj Pd):(P.map λq=>baV q.bs).all Ŏ=true:=by rw[List.all_eq_true];intro v a;let#[q,_,J]:=ce.mp a;cases q.bs<;>rfl
def vkm{tc:TT}{ts te:TS}{D:ç}{σ:St}{H:Hp}(C C':Prop)(h:∀Qb:Bool->Hp->Prop,(C->∀H',yz H H'->Qb true H')->(C'->∀H',yz H H'->Qb false H')->tc σ H Qb)(hT:C->∀H',yz H H'->ts D σ H')(hF:C'->∀H',yz H H'->te D σ H'):vgv tc ts te D σ H :=
 h _ (λc H' S=>by show (if true=true then _ else _);rwa[if_pos J,hT c H' S]) (λc H' S=>by show (if false=true then _ else _);rwa[if_neg ∅,hF c H' S])
theorem Stk.filter{P:qj Pd}(h:Stk P){b:Str}(hb:∀q,q∈P->q.bs≠some b):Stk (P.filter λq=>decide (q.nm≠b)):=by
 have l:∀(R:qj Pd)(Q:qj Pd),(∀(i:Nat)(r:Pd)(y:Str),R[i]?=some r->r.bs=some y->(∃s:Pd,s∈Q/\s.nm=y/\s.nm≠b)\/∃(j:Nat)(s:Pd),j<i/\R[j]?=some s/\s.nm=y/\s.nm≠b)->∀(i:Nat)(r:Pd)(y:Str),(R.filter λq=>decide (q.nm≠b))[i]?=some r->r.bs=some y->(∃s:Pd,s∈Q/\s.nm=y/\s.nm≠b)\/∃(j:Nat)(s:Pd),j<i/\(R.filter λq=>decide (q.nm≠b))[j]?=some s/\s.nm=y:=by
  intro R
  induction R with
  |nil=>intro Q _ i r y e;cases e
  |cons u R ih =>
   intro Q n
   let f:=ih (u::Q) λi r y c d=>by
    rcases n (i+1) r y c d with⟨s,a,e⟩|⟨j,s,g,a,e,m⟩
    .erw[.inl #[s,cM _ a,e]]
    .cases j with
     |zero=>cases a;erw[.inl #[u,cN,e,m]]
     |succ j=>erw[.inr #[j,s,(),a,e,m]]
   intro i r y c d;by_cases hu:u.nm=b
   .rw[List.filter_cons_of_neg (by simp[hu])]at c⊢;rcases f i r y c d with⟨s,a,e,k⟩|z
    .rcases cr.mp a with rfl|a
     .erw[absurd hu k]
     .erw[.inl #[s,a,e,k]]
    .erw[.inr z]
   .rw[List.filter_cons_of_pos (by simp[hu])]at c⊢
    cases i with
    |zero =>
     cases c;rcases n 0 _ y rfl d with z|⟨j,_,g,_⟩
     .erw[.inl z]
     .omega
    |succ i =>
     rcases f i r y c d with⟨s,a,e,k⟩|⟨j,s,g,a,e⟩
     .rcases cr.mp a with rfl|a
      .erw[.inr #[0,s,(),J,e]]
      .erw[.inl #[s,a,e,k]]
     .erw[.inr #[j+1,s,(),a,e]]
 intro i r y c d
 rcases l P [] (λi r y c d=>by
  let#[j,s,g,a,e]:=h i r y c d;erw[.inr #[j,s,g,a,e,λz=>hb r (cz c) (by rw[d,<- e,z])]]) i r y c d with⟨s,a,_⟩|z
 .cases a
 .erw[z]
theorem Dk.drop{H:Hp}{dk:z4}{C:Cf}{P:qj Pd}{X:Sx}{b:Str}{Q:VK}{E:XK}(h:Dk K a H dk C P X)(hb:OkL b)(k1:(∀q,q∈P->q.nm≠b)->∀H',yz H H'->E (.ref a.A2) none H')(k2:∀r,r∈P->r.nm=b->(∃q,q∈P/\q.bs=some b)->∀H',yz H H'->E (.ref a.Ak) none H')
  (k3:∀r,r∈P->r.nm=b->(∀q,q∈P->q.bs≠some b)->∀Y H',Dk K a H' dk C (P.filter λq=>decide (q.nm≠b)) Y->Gx X H H' Y->Q (.str !"ok") H'):á K a [.ref dk,.str (Str.join ⟨#[32]⟩ [Str.ofString "drop",b])] H Q E :=
 let k:=wj hb.1.1
 h.two ∅ (Ä hb.2) ∅ () λl f=>.drop hb.1.1 (λg c d=>k1 g c (f.trans d)) (λr i e u c d=>k2 r i e u c (f.trans d)) λr i e g Y c j g2=>k3 r i e g Y c j (g2.ahead f)
#synth yjq ["_law_desk","_law_pieces","_law_name","_law_found"] ["_law_desk","_law_pieces","_law_name"] yq5
#synth ∀(K:z3)(a:Ads),∀(dk md:z4)(C:Cf)(P:qj Pd)(X:Sx)(tu tx:Str->z4)(ns:Τ)(b:Str)(B:Hp)(_:vs=[.ref dk,.ref md,.str b])(_:K3 K a B H dk md C P X tu tx ns)(_:NsO ns)(_:b∈ns)(_:∀P' Y H',K3 K a B H' dk md C P' Y tu tx ns->Q (.bl true) H'),yos
def yv1:'v' 20 a.Is a.Jk ["_law_desk","_law_pieces","_law_name"] (yos K a):=by
 exists T.L6.F.ok,yjq,hr;let#[dk,p,C,P,X,x,tx,ns,b,B,J,g,a1,a5,k]:=h;let hb:=a1.o b a5;let ad:=g.z a1;have a4:(mdK x P).length=P.length:=bw _;let h8:=wj hb.1.1;let#[dd,vd,me]:=g.s.ins;erw[yg (Ã (pst 3 yjq.nd (xp (ya1 T) hr.m T.Dn (pac (pv 0) (pa1 (yn vh y8 (pv 2))))))) ?_,<-yg (vj (ĵ (j9 (jk hr) (pv 2) (pv 1))) (yc (ym (xm (ycp hr.units) (pv 3) (wk (pac uk (pac uk (pa1 uk)))) (yw _)))) yq) ?_,<-yg (vj (yp ħ (pv 2) (yjv (vt (js:=[]) (ys:=[]) J (ykl (pv 1)) (λC s2 S fp=>(pix (r:=viz K) zt (pv 0) yf)) J J (hyc:=yu) (hrel:=yu))) (by with_unfolding_all rfl)) (yc (ym (xm (ycp hr.units) (pv 3) (wk (pac uk (pac uk (pa1 uk)))) (yw _)))) yq) ?_,<-yg (yy (yeo (pv 1) (pv 2) #[J,J,J,J])) ?_];exists 3,1,yc (ym (xm w6 (pv 3) y8 (yw _)));erw[λσ2 F=>∃(f:V)(Y:Sx),σ2=[some (.ref dk),some (.ref p),some (.str b),some f]/\Bs B F Y/\Mdl F Y p P x tx/\F p=some (.dK (mdK x P))/\((∃l bs,f=.ref l/\F l\(bs.map V.bl)/\Dk K a F dk C P Y/\(((∀q,q∈P->q.nm≠b)/\bs=[false,true,false])\/(b∈P.map (·.nm)/\(∃q,q∈P/\q.bs=some b)/\bs=[false,false,true])))\/(f=.str (Str.ofString "ok")/\b∈P.map (·.nm)/\(∀q,q∈P->q.bs≠some b)/\Dk K a F dk C (P.filter λq=>decide (q.nm≠b)) Y)),?_,?_]
 .ext;erw[_,_,J,J,vo (by show 5+_<=_;omega),?_];rw[show Str.ofString "drop "++b=Str.join ⟨#[32]⟩ [Str.ofString "drop",b]from yho "drop" b J];ext;exists dk,dd,vd,_,J,me,λQ2 E2 hQ hE=>g.s.drop hb (λno H1 S1=>hE _ _ H1 (.inr (.inl #[J,J])) λl S m R D=>?_) (λr W e u H1 S1=>hE _ _ H1 (.inr (.inr #[J,J])) λl S m R D=>?_) λr W e no Y H1 a6 g1=>hQ _ _ ?_
  .let O:=g.same (S1.trans D);ext;erw[_,X,J,O.b,O.m,O.d,.inl #[l,_,J,R,O.s,.inl #[no,J]]]
  .let O:=g.same (S1.trans D);ext;erw[_,X,J,O.b,O.m,O.d,.inl #[l,_,J,R,O.s,.inr #[ce.mpr #[r,W,e],u,J]]]
  .ext;erw[_,Y,J,g.b.goW g.s.wf g1,g.m.goW g.s.wf g1,(Kf.goW #[g.d,g.m.n] g.s.wf g1).1,.inr #[J,ce.mpr #[r,W,e],no,a6]]
 rintro σ2 F ⟨f,Y,rfl,hB,hM,U,hf⟩;by_cases hp:b∈P.map (·.nm)
 .let#[q,hq,J]:=ce.mp hp;ext;erw[p,_,J,hM.get hq,?_,←uo ?_,<-yl7 (by assumption) ?_,<-yfq λm m m m m m=>?_];refine vkm (∃u,u∈P/\u.bs=some q.nm) (∀u,u∈P->u.bs≠some q.nm) (λQb qT qF=>?_) (λL S D=>?_) (λM S D=>?_)
  .ext;erw[p,mdK x P,J,U,λo D2 I=>?_];have ac:D2≠p:=λz=>by rw[z,ya]at I;cases I
   erw[ŗ (λi G=>G D2\((P.take i).map λq=>baV q.bs)/\yz (upd F p (.frz o (.dK (mdK x P)))) G) #[ya,y7 I] (λi G m z=>z.2 _ _ ya) (λi kk v G a8 hi z=>?_) (λG z=>?_)]
   .let#[gD,SG]:=z;let#[u,L,J,J]:=yfz a8;have ab:i<P.length:=(ck.mp L).1;let aa:=cz L;ext;erw[Ĺ (SqT.of (((hM.frz U o).same SG).t u aa).1) (vw (j:=1) J) ?_,<-xh (n:=(mdK x P).length) gD (ve (by rw[bw,cG];omega)) hi #[?_,λy o e=>ye (yb e I) (SG _ _ e)]];rw[ya,cH ab,(ck.mp L).2,cy];rfl
   let#[gD,SG]:=z;rw[a4,cU]at gD;erw[p,o,.dK (mdK x P),(λo u e=>by rw[U]at e;cases e),SG _ _ ya,?_]
   have D:yz F (upd G p (.dK (mdK x P))):=λc o' e=>by
    by_cases z:c=p
    .rw[z,ya];rw[z,U]at e;erw[e]
    .erw[ye z (SG _ _ (ye z e))]
   erw[D2,_,J,.inl (SqL.of (ye ac gD)),J,yoq _,?_];rw[yv9];by_cases L:∃u,u∈P/\u.bs=some q.nm
   .rw[dN.mpr (let ⟨u,h1,h2⟩:=L;#[u,h1,cg h2])];erw[_,J,qT L _ D]
   .have M:∀u,u∈P->u.bs≠some q.nm:=λu h1 h2=>L #[u,h1,h2];rw[List.any_eq_false.mpr λu h1=>by rw[cj (M u h1)];decide];erw[_,J,qF M _ D]
  .rcases hf with⟨l,bs,rfl,R,hD,z|⟨_,_,rfl⟩⟩|⟨_,_,z,_⟩
   .erw[absurd J (z.1 q hq)]
   .ext;exists 'l',λl2 hl2=>?_
    exists hl2,H4,S4,e4;let ς:=D.trans S4;ext;erw[ycg [false,false,true] (ς _ _ R) e4 (k P Y _ #[hD.same ς,hB.same ς,g.n,hM.same ς,ς _ _ U,g.i,g.k])]
   .let#[u,a0,Z]:=L;erw[absurd Z (z u a0)]
  .rcases hf with⟨l,bs,rfl,R,hD,z|⟨_,⟨u,a0,Z⟩,_⟩⟩|⟨rfl,_,z,hD⟩
   .erw[absurd J (z.1 q hq)]
   .erw[absurd Z (M u a0)]
   .let a2:=hM.same D;let I:=hD.same D;let a9:=hB.same D;let N:=D _ _ U;ext;erw[p,J,.inl #[_,.of N],?_,←mdK x P,.inr q.nm,_,N,J,yku x hq,?_];rw[yn1];have b6:But p S (upd S p (.dK (mdK x (P.filter λr=>decide (r.nm≠q.nm))))):=But.upd;have h6:K3 K a B (upd S p (.dK (mdK x (P.filter λr=>decide (r.nm≠q.nm))))) dk p C (P.filter λr=>decide (r.nm≠q.nm)) Y x tx ns:=#[I.but N J a2.n b6,a9.but g.n b6,g.n,a2.drop N q.nm,ya,λu L=>g.i u (dg.mp L).1,g.k.filter M];generalize upd S p (.dK (mdK x (P.filter λr=>decide (r.nm≠q.nm))))=H6 at h6⊢;ext;erw[J,?_];rwa[cg J,k _ _ _ h6]
 .have a3:∀q,q∈P->q.nm≠b:=λq hq e=>hp (ce.mpr #[q,hq,e]);ext;erw[p,_,J,hM.getNo a3,?_,←j4 ?_];rcases hf with⟨l,bs,rfl,R,hD,⟨_,rfl⟩|⟨z,_,_⟩⟩|⟨_,z,_,_⟩
  .ext;exists 'l',λl2 hl2=>?_
   exists hl2,H4,S4,e4;ext;erw[ycg [false,true,false] (S4 _ _ R) e4 (k P Y _ #[hD.same S4,hB.same S4,g.n,hM.same S4,S4 _ _ U,g.i,g.k])]
  .erw[absurd z hp]
  .erw[absurd z hp]
theorem Dk.get{H:Hp}{dk:z4}{C:Cf}{P:qj Pd}{X:Sx}{b:Str}{Q:VK}{E:XK}(h:Dk K a H dk C P X)(hb:OkL b)(k1:(∀q,q∈P->q.nm≠b)->∀H',yz H H'->E (.ref a.A2) none H')(k2:∀r,r∈P->r.nm=b->∀Y H',Dk K a H' dk C P Y->Gx X H H' Y->Q (.str (jm r.tx)) H'):á K a [.ref dk,.str (Str.join ⟨#[32]⟩ [Str.ofString "get",b])] H Q E :=
 let k:=wj hb.1.1
 h.two ∅ (Ä hb.2) ∅ () λl d=>.get hb.1.1 (λi c f=>k1 i c (d.trans f)) λr j e Y c g g2=>k2 r j e Y c g (g2.ahead d)
#synth yj8 ["_law_desk","_law_pieces","_law_name","_law_found"] ["_law_desk","_law_pieces","_law_name"] yrr
#synth ∀(K:z3)(a:Ads),∀(dk md:z4)(C:Cf)(P:qj Pd)(X:Sx)(tu tx:Str->z4)(b:Str)(_:vs=[.ref dk,.ref md,.str b])(_:Dk K a H dk C P X)(_:Mdl H X md P tu tx)(_:OkL b)(_:∀Y H',Dk K a H' dk C P Y->Gx X H H' Y->Q (.bl true) H'),yes
def ya2:'v' 20 a.Iv a.Jm ["_law_desk","_law_pieces","_law_name"] (yes K a):=by
 exists T.Do.F.ok,yj8,u;let#[D,v,C,P,X,W,S,b,J,i,G,z,k]:=h;let h8:=wj z.1.1;let#[N,O,ς]:=i.ins;exists 3,1,yh (pst 3 yj8.nd (xp (ya1 T) u.m T.Dn (pac (pv 0) (pa1 (yn vh y8 (pv 2)))))) (yh (vj (ĵ (j9 (jk u) (pv 2) (pv 1))) (yc (ym (xm (ycp u.units) (pv 3) (wk (pac uk (pac uk (pa1 uk)))) (yw _)))) yq) (yc (ym (xm w6 (pv 3) (xp (yef T) u.m T.En (pa1 (pix zt (γ (jk u) (pv 1) (pv 2) (λF F=>rfl)) yf))) (yw _)))));erw[_,_,J,J,vo (by show 4+_<=_;omega),?_];rw[show Str.ofString "get "++b=Str.join ⟨#[32]⟩ [Str.ofString "get",b]from yho "get" b J];ext;by_cases hp:b∈P.map (·.nm)
 .let#[q,c,J]:=ce.mp hp;erw[D,N,O,_,J,ς,λQ2 E2 I L=>i.get z (λno=>absurd J (no q c)) λr f e Y M o g1=>I _ _ ?_];obtain rfl:=ă i.pw.nd f c e;let d:=G.goW i.wf g1;ext;erw[v,_,J,d.get c,?_,←uo ?_,←v,_,J,d.get c,?_,←Ĺ (SqT.of (d.t r c).1) (vw (j:=0) J) ?_];ext;let#[a1,Z,Z1,a3,p,n1,J]:=id o;let hz:=p.sz r c;let a2:=p.cf;exists S r.nm,r.tx,J,SqL.of (d.x r c).1,hz.1,(),λR y=>?_
  erw[J,?_];rwa[cg J,k _ R (o.same y) (g1.same y)]
 .have n:∀q,q∈P->q.nm≠b:=λq c e=>hp (ce.mpr #[q,c,e]);erw[D,N,O,_,J,ς,λQ2 E2 I L=>i.get z (λF M S1=>L _ _ M (.inr (.inl #[J,J])) λl R U hl y=>?_) λr f e=>absurd e (n r f)];let g:=S1.trans y;ext;erw[v,_,J,(G.same g).getNo n,?_,←j4 ?_];ext;exists 'l',λl2 hl2=>?_
  exists hl2,H3,S3,e3;ext;erw[ycg [false,true,false] (S3 _ _ hl) e3 ?_,<-k X H3 (i.same (g.trans S3)) (Gx.refl.same (g.trans S3))]
def ymn{ps:Ρ}(h:uz (ps.map V.int)=true):∀p,p∈ps->1<=p/\p<=8:=λp b=>by
 unfold uz at h;rw[cC,cC]at h;have:=(List.all_eq_true.mp h.1.2) _ (ce.mpr #[p,b,J]);have a:(decide (1<=p) && decide (p<=8))=true:=this;rw[cC]at a;erw[of_decide_eq_true a.1,of_decide_eq_true a.2]
def Sto.byt{H:Hp}{C:Cf}{P:qj Pd}{X:Sx}{lk:Μ}(h:Sto K a H st C P X)(hR:x9 H C.n lk C.kd tp C.ps)(hP:P.length<=6)(hl:∀q,q∈P->ŏ q.nm.cps.toList):(∀b,b∈shB C P->0<=b/\b<=255)/\(shB C P).length<=1000000:=by
 let#[A,z,w,_,_]:=h.cf;erw[λb d=>?_,?_]
 .unfold shB hdB at d;rcases cK.mp d with d|d
  .rcases cK.mp d with d|d
   .rcases cr.mp d with rfl|d
    .omega
    .unfold lkF at d;let#[l,hl,d]:=List.mem_flatten.mp d;let#[i,k,J]:=ce.mp hl;let k:=dy.mp k;let#[_,_,_,_,m]:=hR i k;let r:=jb m;rw[bw]at r;let v:=(C.kd i).isLt;rcases cr.mp d with rfl|d
     .omega
     .rcases cr.mp d with rfl|d
      .omega
      .have:=ymn m b d;omega
   .rcases cr.mp d with rfl|d
    .omega
    .rw[cn.mp d];omega
  .rcases cr.mp d with rfl|d
   .omega
   .let#[l,f,d]:=List.mem_flatten.mp d;let#[q,g,J]:=ce.mp f;let y:=wj (h.nm q g).1;unfold pdB nmB at d;rcases cK.mp d with d|d
    .rcases cK.mp d with d|d
     .rcases cr.mp d with rfl|d
      .omega
      .let#[c,t,J]:=ce.mp d;let#[j,p]:=hl q g c t;rw[ysp j ()];omega
     .rw[cn.mp d]
      cases hbs:q.bs with
      |none=>erw[(show (0:Int)<=0/\(0:Int)<=255 by decide)]
      |some x =>
       let e:=h.to q g;rw[hbs]at e;let#[u,s,o,_]:=e;have:=List.idxOf_lt_length_iff.mpr (show x∈P.map (·.nm)from ce.mpr #[u,s,o]);rw[bw]at this;show 0<=(((P.map (·.nm)).idxOf x:Nat):Int)+1/\(((P.map (·.nm)).idxOf x:Nat):Int)+1<=255;omega
    .erw[Ŧ _ b d]
 .let j:=h.pls P.length (cc _);let p:=hR.lkl C.n (cc _);rw[cU]at j;unfold shB hdB;rw[bY,bY,cD,cD];show _+1+2+(_+1)<=_;omega
theorem Dk.shok{H:Hp}{dk:z4}{C:Cf}{P:qj Pd}{X:Sx}(h:Dk K a H dk C P X)(hP:P.length<=6)(hl:∀q,q∈P->OkL q.nm)(k:Stk P):Byt (shB C P)/\(shB C P).length<=40000/\ypj C P:=by let#[y,x,Z,t,b,n,J]:=h;let e:=b.shok k;let#[u,B,d,c,l,p,A,D,i,v,m,L,o,U,s,r,z]:=id b;erw[(b.byt s.row hP λq f=>(hl q f).2).1,?_,e];let g:=b.pls P.length (cc _);let j:=s.row.lkl C.n (cc _);let w:=b.cf;rw[cU]at g;unfold shB hdB;rw[bY,bY,cD,cD];show _+1+2+(_+1)<=_;omega
def Dk.alone{H:Hp}{dk:z4}{C:Cf}{P:qj Pd}{X:Sx}{v:Str}{Q:VK}{E:XK}(h:Dk K a H dk C P X)(hv:32∉v.cps.toList)(lv:v.length<=5)(g:∀H1,yz H H1->yaq K a [.ref dk,.str v] H1 Q E0):á K a [.ref dk,.str v] H Q E:=by let#[d,e,c]:=h.ins;erw[dk,d,_,[v],J,c,λw b=>by rwa[cn.mp b,hv],cO (yd5 _) (by show v.length+0+1<=_;omega),.inl #[v,J,g]]
theorem Dk.shelf{H:Hp}{dk:z4}{C:Cf}{P:qj Pd}{X:Sx}{Q:VK}{E:XK}(h:Dk K a H dk C P X)(hb:Byt (shB C P))(hz:(shB C P).length<=40000)(k:∀H',yz H H'->Q (.str (jm (shB C P))) H'):á K a [.ref dk,.str !"shelf"] H Q E :=
 h.alone ∅ ∅ λe b=>#[dk,C,P,X,_,J,h.same b,.inr #[J,hb,(),λc d=>k c (b.trans d)]]
theorem Dk.opn{H:Hp}{dk:z4}{C C2:Cf}{P P2:qj Pd}{X:Sx}{Q:VK}{E:XK}(h:Dk K a H dk C P X)(hb:Byt (shB C2 P2))(hz:(shB C2 P2).length<=40000)(ok:ypj C2 P2)(k:∀Y H',Dk K a H' dk C2 P2 Y->But dk H H'->(∀y,Y.f y->y=dk\/H y=none)->Q (.str !"ok") H'):á K a [.ref dk,.str (Str.join ⟨#[32]⟩ [Str.ofString "open",jm (shB C2 P2)])] H Q E :=
 let m:=jr (shB C2 P2)
 h.two ∅ (yr8 _) ∅ () λl b=>.opn C2 P2 J hb hz ok λY c d i j=>k Y c d (λy o e g=>i _ _ (b _ _ e) g) λy w=>(j y w).imp id b.free
def Gx.opn{H H':Hp}{dk:z4}{C C2:Cf}{P P2:qj Pd}{X Y:Sx}(h:Dk K a H dk C P X)(s:Dk K a H' dk C2 P2 Y)(b:But dk H H')(n:∀y,Y.f y->y=dk\/H y=none):Gx X H H' Y:=by
 let#[l,p,Z,m,k,j,J]:=h;let#[i,q,d]:=s.ins;erw[#[λc o e g=>b _ _ e λz=>g (.inr z),λc w=>(n c (s.wf c w)).imp .inr id,λc o e=>?_],λc w=>(n c w).imp .inr id];by_cases z:c=dk
 .rw[z];erw[_,d]
 .erw[o,b _ _ e z]
def yul{ns:Τ}(h:ns.length=6)(hj:j<8):∃x:Φ,((ns.map V.str)++[V.non,V.non])[j]?=some (baV x)/\∀y,x=some y->y∈ns:=by
 rcases Nat.lt_or_ge j ns.length with z|z
 .exists some ns[j],?_,λy e=>by cases e;exact cV z
  rw[dh (by rwa[bw,z]),ci,bP z];rfl
 .exists none,?_,(λy e=>nomatch e)
  rw[dz (by rwa[bw,z]),bw];obtain e|e:j-ns.length=0\/j-ns.length=1:=()
  .rw[e];rfl
  .rw[e];rfl
#synth yay ["_law_desk","_law_pieces","_law_names_here","_law_cell","_law_k","_law_text_here","_law_way","_law_name","_law_base"] ["_law_desk","_law_pieces","_law_names_here","_law_cell","_law_k","_law_text_here"] yss
#synth ∀(K:z3)(a:Ads),∀(dk md nl t:z4)(C:Cf)(P:qj Pd)(X:Sx)(tu tx:Str->z4)(ns:Τ)(ts:Ρ)(c i:Int)(B:Hp)(_:vs=[.ref dk,.ref md,.ref nl,.int c,.int i,.ref t])(_:K3 K a B H dk md C P X tu tx ns)(_:NsO ns)(_:B nl\(ns.map V.str))(_:0<=c)(_:ä B t ts C.w)(_:∀P' Y tu' tx' H',K3 K a B H' dk md C P' Y tu' tx' ns->Q (.bl true) H'),yor
def yts:'v' 21 a.Iu a.Jl ["_law_desk","_law_pieces","_law_names_here","_law_cell","_law_k","_law_text_here"] (yor K a):=by
 exists T.L7.F.ok,yay,I;let#[p,G,nl,t,C,P,X,R,S,D,ts,c,i,B,J,g,d,O,c0,ht,k]:=h;let#[dd,vd,me]:=g.s.ins;erw[yg (pst 6 yay.nd (yn xg (pv 3) yf)) ?_,<-yg (Ã (vj (PW.pt (ycl (yp w6 (pv 6) yf (yw _)) (ya3 (yp w6 (yn xg (pv 4) yf) yf (yw _))))) (yc (ym (xm w6 (xp (ya1 T) I.m T.Dn (pac (pv 0) (pa1 (yn vh y8 (y6 (pv 0) T.Ac T.Aa.m (uq T) I.m T.Aa.B .nil vn (pa1 y8)))))) y8 (yw _)))) yq)) ?_,<-yg (pst 7 yay.nd (pix we (pv 2) (yn xg (yn vk (pv 3) yf) yf))) ?_,<-yg (vj (yp w6 (pv 6) yf (yw _)) (yc (ym (u7 (xp (yv1 T) I.m T.L6 (pac (pv 0) (pac (pv 1) (pav 7)))) (je (xp (ya2 T) I.m T.Do (pac (pv 0) (pac (pv 1) (pav 7)))))))) yq) ?_,<-yg (pst 8 yay.nd (pix we (yn ĳ (pv 2) (yn yp8 (wk (pa1 z6)) yf)) (yn xg (yn vk (pv 3) yf) yf))) ?_];exists 6,3,yc (ym (u7 (xp (ywd T) I.m T.L1 (pac (pv 0) (pac (pv 1) (pac (pv 7) (pac (pv 8) (pav 5)))))) (je (xp (ya2 T) I.m T.Do (pac (pv 0) (pac (pv 1) (pav 7)))))));erw[λσ2 F=>H=F/\σ2=[some (.ref p),some (.ref G),some (.ref nl),some (.int c),some (.int i),some (.ref t),some (.int (c%8)),none,none],?_,?_]
 .ext;refine z9 (λZ=>?_) (λZ=>?_)
  all_goals walk_at "rd"
  rotate_left
  .erw[J,rfl]
  erw[z9 (λZ=>?_) (λZ=>?_)]
  all_goals walk_at "rd"
  rotate_left
  .erw[J,rfl]
  let#[N,M,a4]:=g.s.shok (g.z d) (λq hq=>d.o _ (g.i q hq)) g.k;let U:=jr (shB C P);ext;erw[g.s.shelf N M λH1 S1=>?_,←_,_,J,J,vo (by rw[U];show 5+_<=_;omega),?_];rw[show Str.ofString "open "++jm (shB C P)=Str.join ⟨#[32]⟩ [Str.ofString "open",jm (shB C P)]from yho "open" _ J];let e:=g.same S1;ext;erw[p,dd,vd,_,J,S1 _ _ me,λQ2 E2 hQ hE=>e.s.opn N M a4 λY H2 n b2 n2=>hQ _ _ ?_,<-J,?_];rwa[cg J,k _ _ _ _ _ (e.go n (Gx.opn e.s n b2 n2))]
 .rintro σ2 F ⟨rfl,rfl⟩;obtain⟨j,hj,a2⟩:∃j:Nat,c/8%6=(j:Int)/\j<6:=#[(c/8%6).toNat,(),()];have ς:j<D.length:=by rw[d.l];exact a2
  ext;rwa[hj,ua (v:=.str D[j]) (SqL.of (g.b.s _ _ O)) (vw (by rw[ci,bP ς];rfl)) ?_];let f:=cV ς;generalize D[j]=b at f⊢;ext;erw[z9 (λz=>?_) (λz=>?_)]
  .ext;erw[p,G,C,P,X,R,S,D,b,B,J,g,d,f,λP' Y H1 e=>?_,←p,G,C,P',Y,R,S,b,J,e.s,e.m,d.o b f,λY2 H2 n g2=>?_,<-k _ _ _ _ _ (e.go n g2)]
  .ext;exists 'l',λu hu0=>?_
   exists hu0,H1,S1,hu1;ext;erw[u,2,_,J,J,hu1,∅,∅,∅,λv hv0=>?_]
   exists hv0,H2,S2,hv2;let L:=S1.trans S2;erw[nl,v,_,_,J,J,L _ _ (g.b.s _ _ O),hv2,vo (by rw[bw,d.l];show 6+2<=_;decide),λy hy0=>?_];exists hy0,H3,S3,hy3;ext;obtain⟨m,hm,a6⟩:∃m:Nat,c/48%8=(m:Int)/\m<8:=#[(c/48%8).toNat,(),()];rw[hm];let#[x,hx,a3]:=yul d.l a6;erw[ua (SqL.of hy3) (vw hx) ?_];let a0:=g.same (L.trans S3);ext;erw[p,G,t,C,P,X,R,S,D,b,x,ts,B,J,a0,d,f,a3,ht,λP' Y W a1 H4 r=>?_,←p,G,C,P',Y,W,a1,b,J,r.s,r.m,d.o b f,λY2 H5 a5 g5=>?_,<-k _ _ _ _ _ (r.go a5 g5)]
theorem yrw:∀k:Nat,pw k=2^(8*k)
 |0=>rfl
 |k+1=>by
  show pw k*256=2^(8*k+8);rw[yrw k,Int.pow_add];rfl
def ycb(h:1<=G):2^(Builtin.Int.intBits G-1)<=G.toNat/\G.toNat<2^Builtin.Int.intBits G/\1<=Builtin.Int.intBits G:=by
 have e:Builtin.Int.intBits G=G.natAbs.log2+1:=by
  show (if G == 0 then 0 else G.natAbs.log2+1)=_;rw[if_neg (by simp;omega)]
 have a:G.toNat=G.natAbs:=()
 rwa[e,a,#[?_,?_,()]]
 .rw[Nat.add_sub_cancel];erw[Nat.log2_self_le ()]
 .erw[Nat.lt_log2_self]
def yu7{m:Nat}(h1:1<=G)(h2:G<=16777216^m):Builtin.Int.intBits G<=24*m+1:=by
 let#[d,c,a]:=ycb h1;have:=Œ h1 h2;have b:G.toNat=G.natAbs:=()
 rcases Nat.lt_or_ge (24*m+1) (Builtin.Int.intBits G)with q|q
 .exfalso;let p:=Nat.pow_le_pow_right (n:=2) ∅ (show 24*m+1<=Builtin.Int.intBits G-1 by omega);omega
 .erw[q]
theorem veg{mx:Nat->Int}:∀m:Nat,m<100000->(∀j,j<m->Ch (mx j))->yxc m (Í mx bt m) (16777216^m) (snK mx bt m)
 |0,_,_=>vih
 |m+1,hm,hc=>by
  have c:yxc m (Í mx bt m) (16777216^m) (snK mx bt m):=veg m () λj a=>hc j ();let d:=(jg (bt:=bt) m λj a=>hc j ()).1;let e:=yi9 (b:=bt m) () d (hc m ()) c;rwa[Int.pow_succ,e]
def yof{mx:Nat->Int}{m:Nat}(hm:m<100000)(hc:∀j,j<m->Ch (mx j)):Í mx bt m*2^(8*(tL (snK mx bt m)).length)<1024*16777216^m:=by rwa[<- yrw,yfu,ywi () (jg m hc).1 (veg m hm hc)]
def ygx{m l:Nat}(h1:1<=G)(h:G*2^(8*l)<1024*16777216^m):8*(l:Int)<yei m G+10:=by
 let#[a,b,c]:=ycb h1;obtain⟨g,rfl⟩:∃g:Nat,G=g:=#[G.toNat,()];rw[Int.toNat_natCast]at a b
 have e:(1024:Int)*16777216^m=((2^(24*m+10):Nat):Int):=by
  rw[Nat.pow_add,Nat.pow_mul,Int.mul_comm];simp
 have d:((g:Int)*2^(8*l))=((g*2^(8*l):Nat):Int):='s'
 rw[e,d,Int.ofNat_lt]at h;unfold yei;generalize Builtin.Int.intBits (g:Int)=B at a b c
 have p:2^(B-1+8*l)<2^(24*m+10):=by
  rwa[Nat.pow_add,dR (Nat.mul_le_mul_right _ a) h]
 have:=(Nat.pow_lt_pow_iff_right (by decide:1<2)).mp p;omega
def vbg{m:Nat}(h1:1<=G)(h2:G<=16777216^m):0<=yei m G:=by have:=yu7 h1 h2;unfold yei;omega
def ye2{C:Cf}{q:Pd}(n1:1<=C.n)(n6:C.n<=6)(hz:q.tx.length<=200):0<=ŋ C q/\ŋ C q<10^9/\8*(((q.by C).length:Nat):Int)<ŋ C q+10:=by have a:∀j,j<(dec q.tx).length->Ch (xy C.n C.kd C.ps (j6 (q.path.map (·.2))) q.tx j):=λj Z=>ø n1 n6 (xu _) j;obtain⟨g1,g2⟩:1<=Í (xy C.n C.kd C.ps (j6 (q.path.map (·.2))) q.tx) (y9 q.tx) (dec q.tx).length/\Í (xy C.n C.kd C.ps (j6 (q.path.map (·.2))) q.tx) (y9 q.tx) (dec q.tx).length<=16777216^(dec q.tx).length:=yak _ a;let b:=xv q.tx;erw[vbg g1 g2,?_,ygx g1 (yof () a)];unfold ŋ yei;omega
def ypp{i:Int}(h0:0<=i)(h:i<10^9):i.natAbs.log2<1920:=by
 by_cases z:i.natAbs=0
 .rw[z];decide
 .have:=(Nat.log2_lt (k:=30) z).mpr ();omega
def vjr(ta tb:TE):TE:=λσ H Q=>ta σ H λx H1=>∃o:Φ,x=baV o/\(o=none->tb σ H1 Q)/\∀y,o=some y->1<=y.length/\y.length<=1000/\Q (.str y) H1
def yyc{X:Cx}{a b:qh}{xt:qj qh}{pos:Pos}{ta tb:TE}(ha:PE X a ta)(hb:PE X (.BoolOp .Or (b::xt) pos) tb):PE X (.BoolOp .Or (a::b::xt) pos) (vjr ta tb):=by
 erw[.mk λc s σ H Q I h=>?_,<-PyProof.Rows.BoolOp_or (thn (ha c s σ H _ I h) λv j h'=>?_)];let#[x,e,g,f,d]:=h';let#[o,J,i,d]:=d
 cases o with
 |none =>
  cases f;erw[PyProof.Rows.truthy_none (hb c j σ e Q g (i J))]
 |some y =>
  let#[t,J]:=f;let#[l,k,d]:=d y J;erw[PySem.P.truthy_str () ?_];rw[show ((y.length:Int) != 0)=true by simp;omega];erw[.str y,e,g.tok _,#[t,J],d]
def vit{σ:St}{H:Hp}{i:Nat}{x:Φ}{w:Str}{Q:VK}(hx:σ[i]?=some (some (baV x)))(hb:∀y,x=some y->1<=y.length/\y.length<=8)(q:Q (.str (x.getD w)) H):vjr (yxb i) (tC (.str w)) σ H Q:=by
 erw[baV x,hx,x,J,λe=>?_,λy e=>#[(hb y e).1,by have:=(hb y e).2;omega,?_]]
 .rw[e]at q;erw[q]
 .rw[e]at q;erw[q]
def yyb:V->qj V->Hp->VK->Prop:=λx vs H Q=>∃s:Str,x=.str s/\vs=[]/\Q (.bl (Txt.isdigit s)) H
def ym9{X:Cx}:MtR X "str.isdigit" yyb:=by intro b s σ H x f v e Q I c d h;let#[z,J,J,q]:=h;let#[t,J]:=c;let a:=d.zero;subst a;erw[SC.isdigit #[.bl _,H,I,J,q]]
def ys4{n:Int}(h0:0<=n):Txt.isdigit (Str.ofString (toString n))=true:=by
 let#[m,J]:=Int.eq_ofNat_of_zero_le h0;let e:=W.KIN.signs_num m;unfold Txt.isdigit;rwa[cC,#[cg ?_,?_]]
 .rw[zl,e,bw];erw[PySem.toDigits_len_ge 10 m]
 .rw[<- Array.all_toList,e,List.all_eq_true];intro c d;let#[b,a,J]:=ce.mp d;let r:=PyProof.Rows.digit_range (Nat.isDigit_of_mem_toDigits ∅ ∅ a);erw[(by right:∀i:Fin 58,48<=i.val->Unicode.isDigit i.val=true) #[b.toNat,()] r.1]
def yhz{X:Cx}:ji X (.type "int") (λxs H Q=>∃i:Int,xs=[.str (Str.ofString (toString i))]/\0<=i/\i<10^9/\Q (.int i) H):=by intro a s σ H xs d Q I r h;let#[i,J,b,c,q]:=h;let#[u,J,t,J]:=û r;erw[W.KIN.call_num b () #[.int i,H,I.tok _,#[_,J],q]]
#synth ù ["_law_desk","_law_pieces","_law_name","_law_text_here","_law_base","_law_figures","_law_most"] ["_law_desk","_law_pieces"] ysq
#synth ∀(K:z3)(a:Ads),∀(dk md:z4)(C:Cf)(P:qj Pd)(X:Sx)(tu tx:Str->z4)(_:vs=[.ref dk,.ref md])(_:Dk K a H dk C P X)(_:Mdl H X md P tu tx)(_:H md=some (.dK (mdK tu P)))(_:(∀q,q∈P->OkL q.nm))(_:P.length<=6)(_:∀Y H',Dk K a H' dk C P Y->Gx X H H' Y->Q (.bl true) H'),ynz
def yax:'v' 19 a.Iw a.Jn ["_law_desk","_law_pieces"] (ynz K a):=by
 exists T.Dp.F.ok,ù,S;let#[dk,D,C,P,X,tu,tx,J,hD,hM,hd,a1,ao,k]:=h;let am:=yec λq hq=>wj (a1 q hq).1.1
 obtain⟨n1,n6,M⟩:1<=C.n/\C.n<=6/\∀q,q∈P->Sgs q.tx/\q.tx.length<=200:=by
  let#[_,_,_,_,hS,_,_]:=id hD;let a6:=hS.cf;erw[a6.1,a6.2.1,λq hq=>#[(hS.sz q hq).1,by have:=(hS.sz q hq).2.1;omega]]
 let#[dd,vd,Z]:=hD.ins;erw[yg (vj (yp yhm (y6 (pv 0) T.Ac T.Aa.m (uq T) S.m T.Aa.B .nil vn (pa1 y8)) (uy PySem.F.plainAttrs_str PySem.F.slot_str_join PySem.F.type_str_join Ù y8 (pa1 (pcT (ð J) T.Aq (pav 1)))) (yw _)) (yc (ym uk)) yq) ?_,<-yg (ydu (uc PassesOwn.never J (ydy (pv 1)) (vz (i:=2) ù.nd J (Or.inl J)) (yh (vaa (γ (jk S) (pv 1) (pv 2) (λB B=>rfl)) (Ţ J (xw (vz (i:=3) ù.nd J (Or.inl J)) (xw (vz (i:=4) ù.nd J (Or.inl J)) ö)))) (yh (vj (PW.pt (ü (yp yhm (y6 (pv 0) T.Ac T.Aa.m (uq T) S.m T.Aa.B .nil vn (pa1 (yn vh y8 (pv 2)))) (xp (yef T) S.m T.En (pav 3)) (yw _)) (à (yp yhm (y6 (pv 0) T.Ac T.Aa.m (uq T) S.m T.Aa.B .nil vn (pa1 (yn vh y8 (pv 2)))) (yyc (pv 4) (je y8)) (yw _))))) (yc (ym uk)) yq) (yh (pst 5 ù.nd (y6 (pv 0) T.Ac T.Aa.m (uq T) S.m T.Aa.B .nil vn (pa1 (yn vh y8 (pv 2))))) (yh (pst 6 ù.nd (y6 (pv 0) T.Ac T.Aa.m (uq T) S.m T.Aa.B .nil vn (pa1 (yn vh y8 (pv 2))))) (yh (vj (PW.pt (ü (xn (xo (pcB wq T.A5 (pac (pv 5) (pa1 (j3 (T:="str") J T.Ft 'r')))))) (ü (yp w6 (yn xg (pcB xj T.A9 (pav 5)) yf) yf (yw _)) (ü (xn (xo (yci PySem.F.plainAttrs_str PySem.F.slot_str_isdigit PySem.F.type_str_isdigit ym9 (pv 6)))) (à (yp yhj (pcB xj T.A9 (pav 6)) yf (yw _))))))) (yc (ym uk)) yq) (yc (vj (yp ywu (yn w4 yf (pcB xj T.A9 (pav 5))) (yn v9 (pcT yhz T.Ll (pav 6)) yf) (yw _)) (yc (ym uk)) yq))))))))) ?_];exists 2,5,yc (ym uk);erw[hD.alone ∅ ∅ λH1 S1=>#[dk,C,P,X,_,J,hD.same S1,.inl #[J,λH2 S2=>?_]]];let a3:=S1.trans S2;ext;erw[J,?_,←D,_,J,a3 _ _ hd,λkl hkl0=>?_];rw[yen];exists hkl0,H3,S3,hkl3;erw[⟨#[32]⟩,kl,P.map (·.nm),J,J,SqL.of hkl3,by rw[bw];show _+P.length*1<=_;omega,?_]
 erw[J,_,J,?_];rwa[cg J,uo ?_];let p:=a3.trans S3;let ak:=hD.same p;let a8:=hM.same p;let L:=p _ _ hd;clear a3 S1 S2 S3 hkl0 hkl3;ext;erw[D,mdK tu P,J,L,λo=>?_];let O:=ak.but L J a8.n (But.upd (o:=.frz o (.dK (mdK tu P))));let al:=a8.frz L o;refine yap (o:=o) (d:=D) (kvs:=mdK tu P) (λi σ2 F=>∃(Y:Sx)(v2 v3 v4 v5 v6:Ψ),σ2=[some (.ref dk),some (.ref D),v2,v3,v4,v5,v6]/\Dk K a F dk C P Y/\Gx X (upd H3 D (.frz o (.dK (mdK tu P)))) F Y)
  #[X,_,_,_,_,_,J,O,Gx.refl] ?_ ?_ ?_
 .rintro i σ2 F _ ⟨Y,v2,v3,v4,v5,v6,rfl,hF,I⟩;erw[(Kf.goW #[ya,hM.n] O.wf I).1]
 .rintro i kk v σ2 F ag ⟨Y,v2,v3,v4,v5,v6,rfl,hF,I⟩;let#[q,hq,J,J]:=yfz ag;let j:=cz hq;let l:=a1 q j;let h8:=wj l.1.1;let R:=al.goW O.wf I;let#[c0,c9,cb]:=ye2 n1 n6 (M q j).2;have un:∀{r:Pd},r∈P->r.nm=q.nm->r=q:=λS e=>ă hD.pw.nd S j e;have no:∀{G:Prop},(∀r,r∈P->r.nm≠q.nm)->G:=λz=>absurd J (z q j);let#[dd,vd,Z]:=hF.ins;ext;erw[D,_,J,R.get j,?_,←ţ (SqT.of (R.t q j).1) J ?_,←_,_,J,J,vo (by show 4+_<=_;omega),?_];rw[show Str.ofString "get "++q.nm=Str.join ⟨#[32]⟩ [Str.ofString "get",q.nm]from yho "get" _ J];ext;erw[hF.get l (λz=>no z) λr b e Y1 F1 aa g1=>?_];rw[show r=q from un b e];let W:=R.goW hF.wf g1;let ac:=I.trans g1;clear R g1 hF I Z e b r;ext;exists tx q.nm,q.tx,J,SqL.of (W.x q j).1,(M q j).1,by have:=(M q j).2;omega,λF2 T2=>?_
  erw[J,_,J,?_];rwa[cg J,uo ?_];let U:=aa.same T2;let ad:=ac.same T2;clear W ac aa T2;let#[dd,vd,Z]:=U.ins;ext;erw[_,_,J,J,vo (by show 5+_<=_;omega),?_];rw[show Str.ofString "base "++q.nm=Str.join ⟨#[32]⟩ [Str.ofString "base",q.nm]from yho "base" _ J];ext;erw[U.two ∅ (Ä l.2) ∅ () λF3 ς=>.bas l.1.1 (λz=>no z) λr b e F4 T4=>?_];rw[show r=q from un b e];let N:=U.same (ς.trans T4);let ab:=ad.same (ς.trans T4);clear U ad ς T4 Z e b r;ext
  have a4:∀y,q.bs=some y->1<=y.length/\y.length<=8:=λy e=>by
   let a5:=hD.pw.wf q j;rw[e]at a5;let#[u,hu,eu,_]:=a5;rw[<- eu];let hn:=(a1 u hu).1.1;erw[?_,wj hn];unfold nmS at hn;rw[cC]at hn;have:=of_decide_eq_true hn.1;omega
  erw[vit J a4 ?_,<-J,_,J,?_];rwa[cg J,uo ?_];clear a4;let#[dd,vd,Z]:=N.ins;ext;erw[_,_,J,J,vo (by show 6+_<=_;omega),?_];rw[show Str.ofString "bytes "++q.nm=Str.join ⟨#[32]⟩ [Str.ofString "bytes",q.nm]from yho "bytes" _ J];ext;erw[N.two ∅ (Ä l.2) ∅ () λF3 ς=>.bytes l.1.1 (λz=>no z) λr b e F5 T5=>?_];rw[show r=q from un b e];let a0:=N.same (ς.trans T5);let a9:=ab.same (ς.trans T5);clear N ab ς T5 Z e b r;let#[dd,vd,Z]:=a0.ins;ext;erw[_,_,J,J,vo (by show 5+_<=_;omega),?_];rw[show Str.ofString "cost "++q.nm=Str.join ⟨#[32]⟩ [Str.ofString "cost",q.nm]from yho "cost" _ J];ext;erw[a0.two ∅ (Ä l.2) ∅ () λF3 ς=>.cost l.1.1 (λz=>no z) λr b e=>?_];rwa[show r=q from un b e,#[ypp c0 c9,λY6 F6 ai g6=>?_]];let af:=a9.trans (g6.ahead ς);clear a0 a9 ς Z e b r g6;let ae:=jr (q.by C);have an:(q.by C).length<=5500:=Ú n1 n6 (xu _) (by have:=(M q j).2;omega);have aq:(Str.ofString (toString (ŋ C q))).length<=9:=PyProof.Rows.toString_length_le c0 ∅ c9;ext;erw[ĸ (.str _) J ?_,<-true,J,?_,<-uo ?_,←_,J,vo (),?_];ext;rwa[cj (show ¬(((jm (q.by C)).length:Int)%2=1) by omega),uo ?_];ext;erw[J,_,J,J,?_];rwa[ys4 c0,#[true,J,?_]];erw[uo ?_,←_,J,vo (),?_];ext;rwa[cj (show ¬(((Str.ofString (toString (ŋ C q))).length:Int) > 9) by omega),uo ?_];ext;erw[_,J,vo (),?_,←_,J,c0,c9,?_];ext;rwa[cj (show ¬(4*((jm (q.by C)).length:Int) ≥ ŋ C q+10) by rw[ae];omega),uo ?_];erw[Y6,_,_,_,_,_,J,ai,af]
 .rintro σ2 F ⟨Y,v2,v3,v4,v5,v6,rfl,hF,I⟩;let a2:=(Kf.goW #[ya,hM.n] O.wf I);erw[D,o,.dK (mdK tu P),(λo u e=>by rw[L]at e;cases e),a2.1,?_];ext;let ah:=hF.but a2.1 J a2.2 (But.upd (o:=.dK (mdK tu P)))
  have a7:∀{c:z4},upd H3 D (.frz o (.dK (mdK tu P))) c=none->H c=none:=λ{c}e=>p.free (by
   by_cases z:c=D
   .rw[z,ya]at e;cases e
   .rw[yk z]at e;erw[e])
  erw[k Y _ ah #[#[λc o' e nw=>?_,λc w=>(I.g.nw c w).imp id a7,λc o' e=>?_],λc w=>(I.f c w).imp id a7]]
  .by_cases z:c=D
   .rw[z,ya];rw[z,hd]at e;erw[e]
   .erw[ye z (I.g.fr c o' (ye z (p _ _ e)) nw)]
  .by_cases z:c=D
   .rw[z];erw[_,ya]
   .let#[o2,e2]:=I.g.lv c o' (ye z (p _ _ e));erw[o2,ye z e2]
noncomputable def yba(g:Τ)(q:Pd):Τ:=if ∃y,q.bs=some y/\y∈g then g++[q.nm]else g
def yvn(q:Pd)(g:Τ):inV (baV q.bs) (g.map V.str)=decide (∃y,q.bs=some y/\y∈g):=by
 unfold inV;rw[List.any_map]
 cases e:q.bs with
 |none =>
  rw[cj (λ⟨y,z,_⟩=>nomatch z),List.any_eq_false]
  intro x _;erw[λz=>Bool.noConfusion (show false=true from z)]
 |some y =>
  rw[Bool.eq_iff_iff,dN,decide_eq_true_iff]
  constructor
  .rintro ⟨x,b,z⟩;erw[y,J,?_];have z:(x == y)=true:=z;rwa[<- beq_iff_eq.mp z,b]
  .rintro ⟨z,a,c⟩;cases a;erw[y,c,show (y == y)=true from beq_iff_eq.mpr J]
def yn3(g:Τ)(q:Pd):(yba g q).length<=g.length+1:=by
 unfold yba
 split
 .rw[bY];erw[cc _]
 .omega
#synth ydr ["_law_pieces","_law_name","_law_gone","_law_other"] ["_law_pieces","_law_name"] yp5
#synth ∀(K:z3),∀(md:z4)(P:qj Pd)(X:Sx)(tu tx:Str->z4)(b:Str)(_:vs=[.ref md,.str b])(_:Mdl H X md P tu tx)(_:H md=some (.dK (mdK tu P)))(_:P.length<=6)(_:∀l H',H l=none->H' l\((P.foldl yba [b]).map V.str)->yz H H'->Q (.ref l) H'),vbr
def ytb:'v' 1 a.Ix a.Jo ["_law_pieces","_law_name"] (vbr K):=by
 exists T.L8.F.ok,ydr,U;let#[f,P,X,p,tx,b,J,Z,L,a0,k]:=h;erw[yg (pst 2 ydr.nd (wk (pav 1))) ?_,<-yg (ydu (uc PassesOwn.never J (ydy (pv 0)) (vz (i:=3) ydr.nd J (Or.inl J)) (yc (vj (yp ħ (pix zt (γ (jk U) (pv 0) (pv 3) (λR R=>rfl)) yf) (pv 2) (by with_unfolding_all rfl)) (yc (yy ('u' (pv 2) (pav 3)))) yq)))) ?_];exists 2,2,yc (ym (pv 2));exists 'l',λl hl0=>?_
 exists hl0,H1,S1,hl1;let O:=Z.same S1;let B:=S1 _ _ L;have G:l≠f:=λz=>by rw[z,L]at hl0;cases hl0
 ext;erw[f,mdK p P,J,B,λo=>?_];refine yap (o:=o) (d:=f) (kvs:=mdK p P) (λi σ2 F=>∃(ς:Ψ),σ2=[some (.ref f),some (.str b),some (.ref l),ς]/\But l (upd H1 f (.frz o (.dK (mdK p P)))) F/\F l\(((P.take i).foldl yba [b]).map V.str)/\((P.take i).foldl yba [b]).length<=i+1)
  #[_,J,λR R e R=>e,ye G hl1,cc 1] ?_ ?_ ?_
 .rintro i σ2 F _ ⟨ς,rfl,n,m,_⟩;erw[n _ _ ya (Ne.symm G)]
 .rintro i kk v σ2 F S ⟨ς,rfl,n,m,hz⟩;let#[q,N,J,J]:=yfz S;let D:=cz N;have W:i<P.length:=(ck.mp N).1
  have e1:(P.take (i+1)).foldl yba [b]=yba ((P.take i).foldl yba [b]) q:=by
   rw[cH W,(ck.mp N).2,List.foldl_append];rfl
  rw[e1];generalize (P.take i).foldl yba [b]=g at m hz⊢;let gz:=yn3 g q;let Y:=O.frz B o;have I:Mdl F X f P p tx:=Y.butL (show upd H1 f (.frz o (.dK (mdK p P))) l=some (.lst [.str b])from ye G hl1) (λr U e=>by have C:=(Z.x r U).1;rw[e,hl0]at C;cases C) n;ext;erw[f,_,J,I.get D,?_,←Ĺ (SqT.of (I.t q D).1) (vw (j:=1) J) ?_,←l,_,J,.inl (SqL.of m),by cases q.bs<;>rfl,ybs _,?_]
  rw[yvn];by_cases hg:∃y,q.bs=some y/\y∈g
  .rw[cg hg];erw[true,J,?_,<-j4 ?_];have C:yba g q=g++[q.nm]:=if_pos hg;ext;erw[jj m ?_,←xx m (ve (by rw[bw];omega)) ?_];ext;exists _,J,λc o' e ne=>ye ne (n _ _ e ne),?_,()
   rw[ya,C,cy];rfl
  .rw[cj hg];erw[false,J,?_,<-uo ?_];have C:yba g q=g:=if_neg hg;rwa[C,#[_,J,n,m,()]]
 .rintro σ2 F ⟨ς,rfl,n,m,_⟩;have M:(mdK p P).length=P.length:=bw _;rw[M,cU]at m;erw[f,o,.dK (mdK p P),(λo u e=>by rw[B]at e;cases e),n _ _ ya (Ne.symm G),?_,←k l _ hl0 (ye G m) λc o' e=>?_];by_cases z:c=f
  .rw[z,ya];rw[z,L]at e;erw[e]
  .erw[ye z (n _ _ (ye z (S1 _ _ e)) (yb e hl0))]
#synth yjm ["_law_other","_law_shelf","_law_names_here","_law_word"] ["_law_other","_law_shelf","_law_names_here"] yrj
#synth ∀(K:z3)(a:Ads),∀(dk nl:z4)(C C2:Cf)(P2:qj Pd)(X:Sx)(ns:Τ)(_:vs=[.ref dk,.str (jm (shB C2 P2)),.ref nl])(_:Dk K a H dk C [] X)(_:1<=C.w)(_:Kf H X nl (.lst (ns.map V.str)))(_:NsO ns)(_:Byt (shB C2 P2))(_:(shB C2 P2).length<=40000)(_:ypj C2 P2)(_:∀Y H',Dk K a H' dk C2 P2 Y->Gx X H H' Y->Q (.bl true) H'),yhf
def yui:'v' 19 a.Iy a.Jp ["_law_other","_law_shelf","_law_names_here"] (yhf K a):=by
 exists T.L9.F.ok,yjm,hr;let#[W,nl,C,ς,U,X,ns,J,hD,hw,hB,a4,a8,a7,aa,k]:=h
 obtain⟨b,r,rfl⟩:∃b r,ns=b::r:=by
  cases ns with
  |nil=>erw[absurd a4.l ∅]
  |cons b r=>erw[b,r,J]
 let p:=a4.o b cN;let h8:=wj p.1.1;let a5:=jr (shB ς U);let#[dd,vd,me]:=hD.ins
 obtain⟨a1,a3⟩:1<=C.n/\C.n<=6:=by
  let#[_,_,_,_,hS,_,_]:=id hD;erw[hS.cf.1,hS.cf.2.1]
 erw[yg (vj (PW.pt (ü (yp yhm (y6 (pv 0) T.Ac T.Aa.m (uq T) hr.m T.Aa.B .nil vn (pa1 (yn vh (yn vh y8 (pix we (pv 2) yf)) y8))) y8 (yw _)) (à (yp yhm (y6 (pv 0) T.Ac T.Aa.m (uq T) hr.m T.Aa.B .nil vn (pa1 (yn vh y8 (pix we (pv 2) yf)))) y8 (yw _))))) (yc (ym uk)) yq) ?_,<-yg (uc PassesOwn.never J (wg (wk (pac y8 (pac y8 (pa1 y8))))) (vz (i:=3) yjm.nd J (Or.inl J)) (yc (yy (y6 (pv 0) T.Ac T.Aa.m (uq T) hr.m T.Aa.B .nil vn (pa1 (yn vh (pv 3) (pix we (pv 2) yf))))))) ?_];exists 3,1,yc (ym (xm w6 (y6 (pv 0) T.Ac T.Aa.m (uq T) hr.m T.Aa.B .nil vn (pa1 (yn vh y8 (pv 1)))) y8 (yw _)));erw[ua (v:=.str b) (SqL.of hB.1) (vw (j:=0) J) ?_,←_,_,J,J,vo (by show 4+_<=_;omega),?_,←_,_,J,J,vo (by rw[ybb];show 4+_+3<=_;omega),?_];rw[show Str.ofString "put "++b++Str.ofString " ff"=Str.join ⟨#[32]⟩ (wsP b none (jm [255])) by rwa[<- vjg,õ (by rw[wt,wt,wt,wt,wt,χ];rw[cJ,cJ,cJ];rfl)]];ext
 erw[hD.put p (λy e=>nomatch e) (λx hx=>by rw[cn.mp hx];decide) hw ∅ (λ⟨r,hr,_⟩=>nomatch hr) (λF y e=>nomatch e) λF L hL Y H1 t g1=>?_]
 let D:=hB.goW hD.wf g1;clear hB hD me;let#[dd,vd,me]:=t.ins;obtain rfl:L=[]:=hL;have un:∀{q:Pd},q∈[]++[(#[b,none,[],[255]]:Pd)]->q=#[b,none,[],[255]]:=λO=>cn.mp O;have no:∀{G:Prop},(∀q,q∈[]++[(#[b,none,[],[255]]:Pd)]->q.nm≠b)->G:=λz=>absurd J (z #[b,none,[],[255]] cN);ext;erw[J,_,J,?_];rwa[cg J,uo ?_];ext;erw[ua (v:=.str b) (SqL.of D.1) (vw (j:=0) J) ?_,←_,_,J,J,vo (by show 4+_<=_;omega),?_];rw[show Str.ofString "get "++b=Str.join ⟨#[32]⟩ [Str.ofString "get",b]from yho "get" b J];ext;erw[t.get p (λz=>no z) λq O F Y2 H2 a2 g2=>?_];rw[show q=_ from un O];let a9:=D.goW t.wf g2;let ab:=g1.trans g2;clear D t me g1 g2;ext;erw[J,_,J,?_];rwa[cg (show V.str (jm [255])=V.str (Str.ofString "ff")from congrArg V.str (õ (by rw[χ];rfl))),uo ?_];ext;exists 'l',λN u=>?_
 let S3:=y7 (o:=(.lst [.str !"cost ",.str !"bytes ",.str !"base "])) u;have d:upd H2 N (.lst [.str !"cost ",.str !"bytes ",.str !"base "]) N\[.str !"cost ",.str !"bytes ",.str !"base "]:=ya;generalize upd H2 N (.lst [.str !"cost ",.str !"bytes ",.str !"base "])=H3 at S3 d⊢;erw[N,J,#[_,SqL.of d],ug (K:=K) (a:=N) (xs:=[.str !"cost ",.str !"bytes ",.str !"base "]) (λi σ2 G=>∃(Y:Sx)(v:Ψ),σ2=[some (.ref W),some (.str (jm (shB ς U))),some (.ref nl),v]/\Dk K a G W C ([]++[(#[b,none,[],[255]]:Pd)]) Y/\Gx X H G Y/\Kf G Y nl (.lst ((b::r).map V.str))/\Kf G Y N (.lst [.str !"cost ",.str !"bytes ",.str !"base "])) #[Y2,_,J,a2.same S3,ab.same S3,a9.same S3,d,a2.new u] (by rintro i σ2 G _ ⟨_,_,_,_,_,_,z⟩;erw[SqL.of z.1]) ?_ ?_]
 .rintro i x σ2 G hx ⟨Y3,v,rfl,c,gG,I,a0⟩;let#[dd,vd,me]:=c.ins;let R:=I.1;have f:∀{S:Sx}{g:Hp}{z:V},Dk K a g W C ([]++[(#[b,none,[],[255]]:Pd)]) S->Gx Y3 G g S->∃(Y:Sx)(v:Ψ),[some (V.ref W),some (.str (jm (shB ς U))),some (.ref nl),some z]=[some (.ref W),some (.str (jm (shB ς U))),some (.ref nl),v]/\Dk K a g W C ([]++[(#[b,none,[],[255]]:Pd)]) Y/\Gx X H g Y/\Kf g Y nl (.lst ((b::r).map V.str))/\Kf g Y N (.lst [.str !"cost ",.str !"bytes ",.str !"base "]):=λ{S g z}Z g4=>#[S,_,J,Z,gG.trans g4,I.goW c.wf g4,a0.goW c.wf g4];let#[c0,c9,_]:=ye2 (C:=C) (q:=#[b,none,[],[255]]) a1 a3 (by show 1<=200;decide)
  have hi:i=0\/i=1\/i=2:=by
   have:=(ck.mp hx).1;have:i<3:=this;omega
  rcases hi with rfl|rfl|rfl
  .cases hx;ext;erw[ua (v:=.str b) (SqL.of R) (vw (j:=0) J) ?_,<-_,_,J,J,vo (by show 5+_<=_;omega),?_];rw[show Str.ofString "cost "++b=Str.join ⟨#[32]⟩ [Str.ofString "cost",b]from yho "cost" b J];ext;erw[c.two ∅ (Ä p.2) ∅ () λG1 M=>.cost p.1.1 (λz=>no z) λq O F=>?_];rwa[show q=_ from un O,#[ypp c0 c9,λS g Z g4=>?_]];ext;erw[f Z (g4.ahead M)]
  .cases hx;ext;erw[ua (v:=.str b) (SqL.of R) (vw (j:=0) J) ?_,<-_,_,J,J,vo (by show 6+_<=_;omega),?_];rw[show Str.ofString "bytes "++b=Str.join ⟨#[32]⟩ [Str.ofString "bytes",b]from yho "bytes" b J];ext;erw[c.two ∅ (Ä p.2) ∅ () λG1 M=>.bytes p.1.1 (λz=>no z) λq O F G2 T2=>?_,←f (c.same (M.trans T2)) (Gx.refl.same (M.trans T2))]
  .cases hx;ext;erw[ua (v:=.str b) (SqL.of R) (vw (j:=0) J) ?_,<-_,_,J,J,vo (by show 5+_<=_;omega),?_];rw[show Str.ofString "base "++b=Str.join ⟨#[32]⟩ [Str.ofString "base",b]from yho "base" b J];ext;erw[c.two ∅ (Ä p.2) ∅ () λG1 M=>.bas p.1.1 (λz=>no z) λq O F G2 T2=>?_,←f (c.same (M.trans T2)) (Gx.refl.same (M.trans T2))]
 .rintro σ2 G ⟨Y3,v,rfl,c,gG,I,a0⟩;let#[dd,vd,me]:=c.ins;ext;erw[_,_,J,J,vo (by rw[a5];show 5+_<=_;omega),?_];rw[show Str.ofString "open "++jm (shB ς U)=Str.join ⟨#[32]⟩ [Str.ofString "open",jm (shB ς U)]from yho "open" _ J];ext;erw[c.opn a8 a7 aa λS g Z b4 n4=>?_,←J,?_];rwa[cg J,k S g Z (gG.trans (Gx.opn c Z b4 n4))]
end
section
mutual
variable{B B' H H':Hp}{dk:z4}{C:Cf}{P:qj Pd}{X Y:Sx}{tx:Str->z4}{ns:Τ}{dk2:z4}{C2:Cf}{P2 P3:qj Pd}{X2 Y2:Sx}
def K3.hold(h:K3 K a B H dk md C P X tu tx ns){x:z4}{o:HO}(e:H x=some o)(nx:¬X.f x)(nm:x≠md):K3 K a (upd B x o) H dk md C P X tu tx ns :=
 { h with
  b:=#[λy d c=>by
    by_cases z:y=x
    .rw[z,ya]at c;cases c;rwa[z,e]
    .erw[h.b.s _ _ (by unfold upd at c;rw[if_neg z]at c;erw[c])],λy w=>by
    unfold upd;rwa[if_neg λz=>nx (by rwa[<- z,w]),h.b.n y w]]
  n:=by   unfold upd;rwa[if_neg λz=>nm z.symm,h.n]}
def K3.less(h:K3 K a B' H dk md C P X tu tx ns)(S:yz B B'):K3 K a B H dk md C P X tu tx ns :=
 { h with
  b:=#[λy o e=>h.b.s _ _ (S _ _ e),λy w=>S.free (h.b.n y w)]
  n:=S.free h.n}
structure D3(K:z3)(a:Ads)(B H:Hp)(dk md:z4)(C:Cf)(P:qj Pd)(X:Sx)(tu tx:Str->z4)(ns:Τ)(dk2:z4)(C2:Cf)(P2:qj Pd)(X2:Sx):Prop where
 k:K3 K a B H dk md C P X tu tx ns
 o:Dk K a H dk2 C2 P2 X2
 p:Sep X X2
 b:∀y,X2.f y->B y=none
 m:Mdl H X2 md P tu tx
theorem D3.same(h:D3 K a B H dk md C P X tu tx ns dk2 C2 P2 X2)(S:yz H H'):D3 K a B H' dk md C P X tu tx ns dk2 C2 P2 X2:=#[h.k.same S,h.o.same S,h.p,h.b,h.m.same S]
def D3.go2{C3:Cf}(h:D3 K a B H dk md C P X tu tx ns dk2 C2 P2 X2)(s:Dk K a H' dk2 C3 P3 Y2)(g:Gx X2 H H' Y2):D3 K a B H' dk md C P X tu tx ns dk2 C3 P3 Y2:=by let#[l,j]:=h.k.s.oth h.o h.p g;let f:=Bs.goW #[h.k.b.s,h.b] h.o.wf g;let e:=h.m.goW h.o.wf g;erw[#[l,#[f.s,h.k.b.n],h.k.n,#[e.d,h.k.m.n,λq c=>#[(e.t q c).1,(h.k.m.t q c).2],λq c=>#[(e.x q c).1,(h.k.m.x q c).2]],(Kf.goW #[h.k.d,h.m.n] h.o.wf g).1,h.k.i,h.k.k],s,j,f.n,e]
def D3.go1(h:D3 K a B H dk md C P X tu tx ns dk2 C2 P2 X2)(s:Dk K a H' dk C P Y)(g:Gx X H H' Y):D3 K a B H' dk md C P Y tu tx ns dk2 C2 P2 X2:=by let#[f,i]:=h.o.oth h.k.s h.p.symm g;let e:=h.k.m.goW h.k.s.wf g;erw[h.k.go s g,f,i.symm,h.b,#[e.d,h.m.n,λq c=>#[(e.t q c).1,(h.m.t q c).2],λq c=>#[(e.x q c).1,(h.m.x q c).2]]]
def D3.nw(h:D3 K a B H dk md C P X tu tx ns dk2 C2 P2 X2){x:z4}(e:H x=none):¬X.f x/\¬X2.f x/\x≠md/\B x=none/\∀q,q∈P->tx q.nm≠x :=
 #[h.k.s.new e,h.o.new e,(λz=>by rw[z,h.k.d]at e;cases e),h.k.b.s.free e,λq g z=>by have c:=(h.m.x q g).1;rw[z,e]at c;cases c]
def D3.up(h:D3 K a B H dk md C P X tu tx ns dk2 C2 P2 X2){x:z4}{xs:Υ}(e:H x\xs)(hx:∀v∈xs,vi8 v=true)(n:¬X.f x/\¬X2.f x/\x≠md/\B x=none/\∀q,q∈P->tx q.nm≠x)(b:But x H H'):D3 K a B H' dk md C P X tu tx ns dk2 C2 P2 X2 :=
 have g:WSh H λz=>z=x:=WSh.ls e λv j=>.inr (.inl (hx v j))
 #[#[h.k.s.frame g (λz w q=>n.1 (by rwa[<- q,w])) λz o e c=>b z o e c,h.k.b.but n.2.2.2.1 b,h.k.n,h.k.m.butL e n.2.2.2.2 b,b _ _ h.k.d (Ne.symm n.2.2.1),h.k.i,h.k.k],h.o.frame g (λz w q=>n.2.1 (by rwa[<- q,w])) (λz o e c=>b z o e c),h.p,h.b,h.m.butL e n.2.2.2.2 b]
def D3.reads{te:TE}{fr:St}{R:Hp->Prop}{nl m2:z4}{om:HO}(h:D3 K a B H dk md C P X tu tx ns dk2 C2 P2 X2)(hm:Mdl H X2 m2 P2 tu tx)(hk:H m2=some om)(hnl:B nl\(ns.map V.str))(hns:NsO ns)(ht:∀{G:Hp}{b:Str}{R:VK},yes K a [.ref dk2,.ref m2,.str b] G R E0->te (some (.str b)::fr) G R)(hD:H D=none)
  (hR:∀Y2 G,D3 K a B G dk md C P X tu tx ns dk2 C2 P2 Y2->Mdl G Y2 m2 P2 tu tx->G m2=some om->G D\((List.replicate 6 true).map V.bl)->R G):ur (Itl K nl) te fr D R H:=by
 let r:=h.nw hD
 have hx2:∀q,q∈P2->tx q.nm≠D:=λq A z=>by
  let w:=(hm.x q A).1;rw[z,hD]at w;cases w
 have f:(ns.map V.str).length=6:=by rw[bw,hns.l]
 have c:m2≠D:=λz=>by rw[z,hD]at hk;cases hk
 erw[ì (xs:=ns.map V.str) (λi G=>∃Y2,D3 K a B G dk md C P X tu tx ns dk2 C2 P2 Y2/\Mdl G Y2 m2 P2 tu tx/\G m2=some om/\Kf G Y2 D (.lst ((List.replicate i true).map V.bl))) #[X2,h.same (y7 hD),hm.same (y7 hD),ye c hk,ya,r.2.1] (by rintro i G _ ⟨_,z,_,_,_⟩;erw[SqL.of (z.k.b.s _ _ hnl)]) (λi x G y ς h'=>?_) λG ⟨Y2,g,e,t,j⟩=>hR Y2 G g e t (by rw[f]at j;erw[j.1])];let#[Y2,g,e,t,j]:=h';rw[ci]at y;let#[b,L,J]:=dI.mp y;erw[ht #[dk2,m2,C2,P2,Y2,tu,tx,b,J,g.o,e,hns.o b (cz L),λF u p g3=>?_]];let d:=j.goW g.o.wf g3;let I:=e.goW g.o.wf g3;have m:But D u (upd u D (.lst ((List.replicate i true).map V.bl++[V.bl true]))):=But.upd;erw[xh (n:=(ns.map V.str).length) d.1 (ve (by rw[bw,List.length_replicate];omega)) ς #[F,(g.go2 p g3).up d.1 (λv E=>by let#[_,_,J]:=ce.mp E;rfl) #[r.1,d.2,r.2.2] m,I.butL d.1 hx2 m,m _ _ (Kf.goW #[t,e.n] g.o.wf g3).1 c,?_,d.2]];rw[ya,List.replicate_succ',cy];rfl
structure Gon(P:qj Pd)(b:Str)(j i:Nat)(g:Τ):Prop where
 m:∀x,x∈g->x=b\/∃k r,j<k/\k<i/\P[k]?=some r/\r.nm=x
 nd:g.Nodup
 o:∀(m:Nat)(x:Str),g[m]?=some x->∀(k:Nat)(r:Pd),k<i->P[k]?=some r->r.bs=some x->∃m',m<m'/\g[m']?=some r.nm
def yhi(hn:(P.map (·.nm)).Nodup){i:Nat}{q r:Pd}(hi:P[i]?=some q)(hj:P[j]?=some r)(e:q.nm=r.nm):i=j:=by
 have a:(P.map (·.nm))[i]?=some q.nm:=by rw[ci,hi];rfl
 have b:(P.map (·.nm))[j]?=some q.nm:=by rw[ci,hj,e];rfl
 erw[(List.getElem?_inj (ck.mp a).1 hn).mp (a.trans b.symm)]
theorem Gon.all(k:Stk P)(hn:(P.map (·.nm)).Nodup){b:Str}{qb:Pd}(hj:P[j]?=some qb)(eb:qb.nm=b):∀i,i<=P.length->Gon P b j i ((P.take i).foldl yba [b])
 |0,_=>#[λx h=>.inl (cn.mp h),List.pairwise_singleton _ b,λm x Z k r B=>absurd B (cP k)]
 |i+1,hi=>by
  let n:=Gon.all k hn hj eb i ();let l:=bP (show i<P.length from hi);rw[cH hi,List.foldl_append];show Gon P b j (i+1) (yba ((P.take i).foldl yba [b]) P[i]);generalize (P.take i).foldl yba [b]=g at n⊢;generalize P[i]=q at l⊢;by_cases hg:∃y,q.bs=some y/\y∈g
  .rw[show yba g q=g++[q.nm]from if_pos hg];let#[y,H,C]:=hg
   have D:j<i:=by
    rcases n.m y C with z|⟨a,r,d,c,_⟩
    .let#[u,r,d,c,f]:=k i q y l H;have:=yhi hn hj c (by rw[eb,f,z]);omega
    .omega
   have F:q.bs≠some q.nm:=λz=>by
    let#[u,r,d,c,f]:=k i q _ l z;have:=yhi hn l c f.symm;omega
   have A:q.nm∉g:=λz=>by
    rcases n.m _ z with z|⟨a,r,d,c,f,t⟩
    .have:=yhi hn hj l (by rw[eb,z]);omega
    .have:=yhi hn f l t;omega
   erw[λx h=>?_,?_,λm x s a r B p e=>?_]
   .rcases cK.mp h with h|h
    .rcases n.m x h with z|⟨a,r,d,c,f,t⟩
     .erw[.inl z]
     .erw[.inr #[a,r,d,(),f,t]]
    .erw[.inr #[i,q,D,(),l,(cn.mp h).symm]]
   .rw[List.nodup_append];erw[n.nd,List.pairwise_singleton _ _,λu I w G z=>A ?_];rwa[<- cn.mp G,<- z,I]
   .rcases Nat.lt_or_ge m g.length with E|E
    .rw[dh E]at s;rcases Nat.lt_or_ge a i with v|v
     .let#[ς,d,c]:=n.o m x s a r v p e;erw[ς,d,by rwa[dh (ck.mp c).1,c]]
     .obtain rfl:a=i:=()
      rw[l]at p;cases p;erw[g.length,E,List.getElem?_concat_length]
    .exfalso
     have h:x=q.nm:=by
      let d:=(ck.mp s).1;rw[bY,df]at d;obtain rfl:m=g.length:=()
      rw[List.getElem?_concat_length]at s;erw[(cu s).symm]
     subst h;let#[u,K,d,c,f]:=k a r _ p e;have:=yhi hn l c f.symm;omega
  .rw[show yba g q=g from if_neg hg];exists λx h=>?_,n.nd,λm x s a r B p e=>?_
   .rcases n.m x h with z|⟨a,r,d,c,f,t⟩
    .erw[.inl z]
    .erw[.inr #[a,r,d,(),f,t]]
   .rcases Nat.lt_or_ge a i with v|v
    .erw[n.o m x s a r v p e]
    .obtain rfl:a=i:=()
     rw[l]at p;cases p;erw[absurd #[x,e,cz s] hg]
theorem Gon.drop{b:Str}{g:Τ}(G:Gon P b j P.length g){qb:Pd}(hj:P[j]?=some qb)(eb:qb.nm=b){m:Nat}(hm:m<g.length):(∃q,q∈P.filter (λq=>decide (q.nm∉g.drop (m+1)))/\q.nm=g[m])/\(∀q,q∈P.filter (λq=>decide (q.nm∉g.drop (m+1)))->q.bs≠some g[m])/\(P.filter λq=>decide (q.nm∉g.drop (m+1))).filter (λq=>decide (q.nm≠g[m]))=P.filter λq=>decide (q.nm∉g.drop m):=by
 let a:=bP hm;erw[?_,λq c e=>?_,?_]
 .obtain⟨q,c,e⟩:∃q,q∈P/\q.nm=g[m]:=by
   rcases G.m _ (cV hm)with z|⟨k,r,_,_,f,d⟩
   .erw[qb,cz hj,by rw[eb,z]]
   .erw[r,cz f,d]
  erw[q,dg.mpr #[c,cg λz=>?_],e];rw[e]at z;let#[i,t,z]:=List.mem_iff_getElem.mp z
  have p:g[m+1+i]?=some g[m]:=by
   rw[<- List.getElem?_drop,bP t,z]
  have:=(List.getElem?_inj hm G.nd).mp (a.trans p.symm);omega
 .let#[f,d]:=dg.mp c;let#[k,l,J]:=List.mem_iff_getElem.mp f;let#[h,n,s]:=G.o m _ a k _ l (bP l) e;erw[of_decide_eq_true d (cz (i:=h-(m+1)) ?_)];rw[List.getElem?_drop,show m+1+(h-(m+1))=h by omega];erw[s]
 .rw[List.filter_filter,dC hm];erw[List.filter_congr λq Z=>?_];rw[Bool.eq_iff_iff,cC,decide_eq_true_iff,decide_eq_true_iff,decide_eq_true_iff,cr,not_or]
def D3.upM(h:D3 K a B H dk md C P X tu tx ns dk2 C2 P2 X2){x:z4}{o:HO}(e:H x=some o)(ho:yl8 o=true)(n:¬X.f x/\¬X2.f x/\x≠md/\B x=none/\∀q,q∈P->tx q.nm≠x)(b:But x H H'):D3 K a B H' dk md C P X tu tx ns dk2 C2 P2 X2 :=
 #[#[h.k.s.but e ho n.1 b,h.k.b.but n.2.2.2.1 b,h.k.n,h.k.m.but e ho (Ne.symm n.2.2.1) b,b _ _ h.k.d (Ne.symm n.2.2.1),h.k.i,h.k.k],h.o.but e ho n.2.1 b,h.p,h.b,h.m.but e ho (Ne.symm n.2.2.1) b]
theorem D3.hold(h:D3 K a B H dk md C P X tu tx ns dk2 C2 P2 X2){x:z4}{o:HO}(e:H x=some o)(n:¬X.f x/\¬X2.f x/\x≠md/\B x=none/\∀q,q∈P->tx q.nm≠x):D3 K a (upd B x o) H dk md C P X tu tx ns dk2 C2 P2 X2 :=
 #[h.k.hold e n.1 n.2.2.1,h.o,h.p,λy w=>by
  unfold upd;rwa[if_neg λz=>n.2.1 (by rwa[<- z,w]),h.b y w],h.m]
end
end
mutual
#synth jf ["_law_script","_law_names_here","_law_more","_law_desk","_law_pieces","_law_k","_law_cell","_law_text_here","_law_other","_law_gone","_law_name","_law_left"] ["_law_script"] vc5
#synth ∀(K:z3),∀(l:z4)(ns:Ρ)(_:vs=[.ref l])(_:SqL K H l (ns.map V.int))(_:ns.length<=63)(_:∀H',Q (.bl true) H'),yfx
def yys:'v' 22 a.Of a.Jq ["_law_script"] (yfx K):=by
 exists T.La.F.ok,jf,L;let#[l,zs,J,hS,bC,k]:=h;erw[yg (pst 1 jf.nd (xp (yvm T) L.m T.Kx (pa1 (xp (ó T) L.m T.Bx (pac (pv 0) (pa1 yf)))))) ?_,<-yg (pst 2 jf.nd (yn w4 yf (pcT yiu T.Ll (pa1 (xm w6 (yn xg (yn vk (xp (ó T) L.m T.Bx (pac (pv 0) (pa1 yf))) yf) yf) yf (yw _)))))) ?_,<-yg (pst 3 jf.nd (Ê T.Lg (yj7 T) L.m J T.Lf T.Kw .nil vv (pac (xp (ys1 T) L.m T.Ky (pav 0)) (pa1 (pix we (wk (pac yf (pa1 yf))) (yn vk (pv 2) yf)))))) ?_,<-yg (z8 (i:=4) jf.nd J (Or.inr J) Ĉ) ?_,<-yg (uc PassesOwn.never J (xz J T.Ar (pa1 (pcB (ĝ J) T.Lm (pac (pix we (wk (pac yf (pa1 yf))) (yn vk (pv 2) yf)) (pa1 (pcB (Ĥ J) T.Ln (pac yf (pa1 (yn zq (pcB yr T.A9 (pav 0)) yf))))))))) (vz (i:=5) jf.nd J (Or.inl J)) (yh (pst 6 jf.nd (xp (ó T) L.m T.Bx (pac (pv 0) (pa1 (yn v9 yf (pv 5)))))) (yh (pst 7 jf.nd (x8 ju (xp (ytf T) L.m T.Kz (pac (yn vk (pv 6) yf) (pav 2))) zj (ut (yn v9 yf (yn w4 yf (yn vk (pv 2) yf)))))) (yc (vj (xn (xo (xp (yts T) L.m T.L7 (pac (pv 3) (pac (pv 4) (pac (pv 1) (pac (pv 6) (pac (pv 5) (pav 7))))))))) (yc (ym uk)) yq))))) ?_,<-yg (z8 (i:=8) jf.nd J (Or.inr J) (Ê T.Lg (yj7 T) L.m J T.Lf T.Kw .nil vv (pac (wk (pa1 (zz (pac y8 (pa1 (zz (pac yf (pa1 yf)))))))) (pa1 yf)))) ?_,<-yg (vj (PW.pt (ü (xn (xo (xp (yui T) L.m T.L9 (pac (pv 8) (pac (y6 (pv 3) T.Ac T.Aa.m (uq T) L.m T.Aa.B .nil vn (pa1 y8)) (pav 1)))))) (à (xn (xo (pcB (zx J) T.D1 (pa1 (vt (js:=[4,8]) (ys:=["_law_pieces","_law_other"]) J (wg (pv 1)) (λC s2 H2 fp=>(xp (ya2 T) L.m T.Do (pac (pv 2) (pac (pv 1) (pav 0))))) J J (hyc:=(all_cons J (all_cons J yu))) (hrel:=(all_cons J (all_cons J yu))))))))))) (yc (ym uk)) yq) ?_,<-yg (vj (PW.pt (ü (xn (xo (xp (yax T) L.m T.Dp (pac (pv 3) (pav 4))))) (à (xn (xo (xp (yax T) L.m T.Dp (pac (pv 8) (pav 4)))))))) (yc (ym uk)) yq) ?_,<-yg (vj (yp (ytw L.units) (pv 4) Ĉ (yw _)) (yc (ym uk)) yq) ?_,<-yg (pst 9 jf.nd (xp (ytb T) L.m T.L8 (pac (pv 4) (pa1 (pix we (pcT (ð J) T.Aq (pav 4)) (yn xg (yn vk (xp (ó T) L.m T.Bx (pac (pv 0) (pa1 yf))) yf) (pcB ybw T.A9 (pav 4)))))))) ?_,<-yg (uc PassesOwn.never J (yxl J T.Gj (pav 9)) (vz (i:=10) jf.nd J (Or.inl J)) (yc (vj (yp yhm (y6 (pv 8) T.Ac T.Aa.m (uq T) L.m T.Aa.B .nil vn (pa1 (yn vh y8 (pv 10)))) y8 (yw _)) (yc (ym uk)) yq))) ?_,<-yg (z8 (i:=11) jf.nd J (Or.inr J) Ĉ) ?_,<-yg (ydu (uc PassesOwn.never J (ydy (pv 4)) (vz (i:=10) jf.nd J (Or.inl J)) (yc (vj (yp ybf (pv 10) (pv 9) (by with_unfolding_all rfl)) (yc (ī (jk L) (pv 11) (pv 10) (γ (jk L) (pv 4) (pv 10) (λC C=>rfl)) J)) yq)))) ?_,<-yg (vj (xn (xo (pcB (zx J) T.D1 (pa1 (vt (js:=[8,11]) (ys:=["_law_other","_law_left"]) J (wg (pv 1)) (λC s2 H2 fp=>(xp (ya2 T) L.m T.Do (pac (pv 1) (pac (pv 2) (pav 0))))) J J (hyc:=(all_cons J (all_cons J yu))) (hrel:=(all_cons J (all_cons J yu)))))))) (yc (ym uk)) yq) ?_];exists 1,11,yc (ym (u7 (xp (yax T) L.m T.Dp (pac (pv 8) (pav 11))) (je (xp (yax T) L.m T.Dp (pac (pv 3) (pav 4))))));erw[l,zs,4,J,hS,∅,λc4 bh bd=>?_]
 ext;erw[c4,J,bh,bd,λnl ns H2 aD N S2 bv bV be=>?_];have W:NsO ns:=#[bv,be];let ac:=S2.seq hS;clear hS S2 aD;ext;erw[l,zs,4,J,ac,∅,λc5 bU bN=>?_]
 ext;erw[.inr #[_,J,?_]]
 obtain⟨mr,bB,b9⟩:∃mr:Nat,(9*if decide (c5/4096%8=0)=true then 1 else 0:Int)=(mr:Int)/\(mr=0\/mr=9):=by
  by_cases z:c5/4096%8=0
  .erw[9,by rw[cg z];rfl,∅]
  .erw[0,by rw[cj z];rfl,∅]
 ext;rw[bB];ext;erw[l,zs,J,ac,λlo n lk kd tp ps H3 b3 ar n1 n6 aE S3=>?_];ext;exists 'l',λml hml0=>?_
 exists hml0,H4,S4,hml4
 obtain⟨R,bo,b2⟩:∃R:Nat,atI [V.int 4,V.int 12] ((mr:Int)/9)=some (.int (R:Nat))/\((mr=0/\R=4)\/(mr=9/\R=12)):=by
  rcases b9 with rfl|rfl
  .erw[4,J,∅]
  .erw[12,J,∅]
 ext;erw[ua (SqL.of hml4) bo ?_];ext;intro dk dd a1 ao ag;have M:yz H4 (upd (upd H4 dd (.own dk)) dk (.ins a.Ah dd [])):=(y7 ao).trans (y7 (by rwa[yk (Ne.symm ag),a1]));erw[dk,dd,lo,R,R,n,lk,tp,kd,ps,J,ya,M _ _ (S4 _ _ ar),n1,n6,aE.same (S4.trans M),(),cc _,(),λX H5 aB b5 f5=>#[J,?_]]
 let ak:=S3.trans S4;have aA:Bs H2 H5 X:=#[λy o e=>b5 _ _ (M _ _ (ak _ _ e)) (λz=>by have e2:=ak _ _ e;rw[z,a1]at e2;cases e2),λy w=>ak.free ((f5 y w).elim (λz=>by rwa[z,a1]) λz=>M.free z)];clear S3 S4 M ak b5 f5 a1 ao ag hml0 hml4 b3 ar aE;ext;intro ς hmd0;exists hmd0,H6,S6,hmd6
 have h6:K3 K a H2 H6 dk ς #[n,kd,ps,R,R] [] X (λC=>0) (λC=>0) ns:=#[aB.same S6,aA.same S6,aA.s.free hmd0,#[.inl hmd6,aB.new hmd0,λq p=>(nomatch p),λq p=>(nomatch p)],hmd6,λq p=>(nomatch p),λi r b hi=>(nomatch hi)]
 clear hmd6 hmd0 S6 aA aB;ext;exists 'l',λpq hpq0=>?_
 exists hpq0,H7,S7,hpq7;let h7:=h6.same S7
 obtain⟨z,hz,z0,z7⟩:∃z:Int,atI [V.int 12,V.int 5] ((mr:Int)/9)=some (.int z)/\0<=z/\z<=12:=by
  rcases b9 with rfl|rfl
  .erw[12,J,∅,∅]
  .erw[5,J,∅,∅]
 ext;erw[ua (SqL.of hpq7) hz ?_];clear h6 S7 hpq0 hpq7 hz;ext;erw[zd (h7.b.s.seq ac) ?_];rw[bw];ext;erw[_,_,J,?_,←_,_,J,?_];ext
 obtain⟨m,hm,bG⟩:∃m:Nat,(if (if ((zs.length:Nat):Int)-5 > 0 then ((zs.length:Nat):Int)-5 else 0)<z then (if ((zs.length:Nat):Int)-5 > 0 then ((zs.length:Nat):Int)-5 else 0)else z)=(m:Int)/\m<=12:=by
  generalize ((zs.length:Nat):Int)-5=y;erw[(if (if y > 0 then y else 0)<z then (if y > 0 then y else 0)else z).toNat,?_,?_]<;>(split<;>split<;>omega)
 rw[hm];clear hm z0 z7;erw[_,J,(),(),j7 (n:=m) (λi σ2 G=>∃(P:qj Pd)(Y:Sx)(I tx:Str->z4)(v5 v6 v7:Ψ),σ2=[some (.ref l),some (.ref nl),some (.int (mr:Nat)),some (.ref dk),some (.ref ς),v5,v6,v7,none,none,none,none]/\K3 K a H2 G dk ς #[n,kd,ps,R,R] P Y I tx ns) #[[],X,_,_,_,_,_,J,h7] ?_ ?_]
 .rintro i σ2 G hi ⟨P,Y,I,tx,v5,v6,v7,rfl,h⟩;ext;exists l,zs,5+i,by rw[show ((5+i:Nat):Int)=5+(0+(i:Int)) by omega];rfl,h.b.s.seq ac,(),λe e0 e1=>?_
  ext;erw[e/384,mr,J,(),(),(),λt us G2 bs aY bx bS T2=>?_]
  ext
  obtain⟨wd,bn,bQ⟩:∃wd:Nat,2+10*((mr:Int)/9)=(wd:Int)/\wd<=R:=by
   rcases b2 with⟨rfl,rfl⟩|⟨rfl,rfl⟩
   .erw[2,J,∅]
   .erw[12,J,∅]
  rwa[bn,ya6 (SqL.of aY) λt2 ht20=>?_];rw[jp,<- List.map_take];exists ht20,G3,T3,ht23;let h3:=h.same (T2.trans T3);let aZ:=(h.same T2).s.new ht20;have aJ:t2≠ς:=λz=>by have e2:=(h.same T2).d;rw[<- z,ht20]at e2;cases e2
  have aK:H2 t2=none:=(h.same T2).b.s.free ht20;let h4:=h3.hold ht23 aZ aJ;have ba:(us.take wd).length<=R:=by rw[cG];omega
  clear h h3 T2 T3 bs aY ht20 ht23 aZ aJ;ext;erw[dk,ς,nl,t2,#[n,kd,ps,R,R],P,Y,I,tx,ns,us.take wd,e,_,_,J,h4,W,y7 aK _ _ N,e0,#[ya,λx hx=>bx x (dn hx),ba],λP' Y' bp bk G5 h5=>?_,<-true,J,?_,<-uo ?_,<-P',Y',bp,bk,_,_,_,J,h5.less (y7 aK)]
 rintro σ2 G ⟨P,Y,I,tx,v5,v6,v7,rfl,h⟩;clear h7;ext;exists 'l',λx1 xg1=>?_
 exists xg1,xH1,xS1,xe1;ext;exists 'l',λx2 xg2=>?_
 exists xg2,xH2,xS2,xe2;ext;exists 'l',λx3 xg3=>?_
 exists xg3,xH3,xS3,xe3;let aG:=xS3;let xe2:=aG _ _ xe2;let aF:=xS2.trans aG;let xe1:=aF _ _ xe1;let aN:=xS1.trans aF;ext;intro dj de a2 al ag;have M:yz xH3 (upd (upd xH3 de (.own dj)) dj (.ins a.Ah de [])):=(y7 al).trans (y7 (by rwa[yk (Ne.symm ag),a2]));erw[dj,de,x3,9,9,1,λC=>x2,λC=>x1,λC=>1,λC=>[3,4],J,ya,M _ _ xe3,cc 1,∅,λi C=>#[x2,J,M _ _ xe2,M _ _ xe1,J],∅,∅,∅,λX2 H8 aR b8 f8=>#[J,?_]]
 have aQ:yz xH3 H8:=λy o e=>b8 _ _ (M _ _ e) (λz=>by rw[z,a2]at e;cases e);let af:=aN.trans aQ;have nw:∀y,X2.f y->G y=none:=λy w=>aN.free ((f8 y w).elim (λz=>by rwa[z,a2]) λz=>M.free z)
 have h8:D3 K a H2 H8 dk ς #[n,kd,ps,R,R] P Y I tx ns dj #[1,λC=>1,λC=>[3,4],9,9] [] X2:=by
  erw[h.same af,aR,λy w w2=>h.s.new (nw y w2) w,λy w=>h.b.s.free (nw y w),(h.m.same af).d,λw=>?_,λq p=>#[af _ _ (h.m.t q p).1,λw=>?_],λq p=>#[af _ _ (h.m.x q p).1,λw=>?_]]
  .let e:=h.d;rw[nw ς w]at e;cases e
  .let e:=(h.m.t q p).1;rw[nw _ w]at e;cases e
  .let e:=(h.m.x q p).1;rw[nw _ w]at e;cases e
 clear M aQ af nw b8 f8 aR a2 al ag h;let#[aO,aH,bA]:=h8.k.s.shok (h8.k.z W) (λq p=>W.o _ (h8.k.i q p)) h8.k.k;let#[d8,bj,aL]:=h8.k.s.ins;ext;erw[h8.k.s.shelf aO aH λH9 S9=>?_];let h9:=h8.same S9;clear h8 S9 aL;ext;erw[dj,nl,_,_,P,X2,ns,J,h9.o,∅,#[h9.k.b.s _ _ N,λw=>by rw[h9.b nl w]at N;cases N],W,aO,aH,bA,λY2 bR au g10=>?_]
 let a7:=h9.go2 au g10;clear h9 au g10;erw[true,J,?_,<-uo ?_,←nl,J,#[_,SqL.of (a7.k.b.s _ _ N)],λD ae=>?_,<-a7.reads a7.m a7.k.d N W (λg=>by walk_at "rd";erw[g]) ae λY3 bH a0 C C an=>?_,←D,List.replicate 6 true,J,SqL.of an,?_,<-true,J,?_,<-uo ?_];clear ae an a7;let ab:=a0.k.z W;have a6:∀q,q∈P->OkL q.nm:=λq p=>W.o _ (a0.k.i q p);ext;erw[dk,ς,_,P,Y,I,tx,J,a0.k.s,a0.k.m,a0.k.d,a6,ab,λY4 bO as b4=>?_];let ad:=a0.go1 as b4;clear a0 as b4;erw[true,J,?_,<-uo ?_,←dj,ς,_,P,Y3,I,tx,J,ad.o,ad.m,ad.k.d,a6,ab,λY5 bW av b0=>?_];let aC:=ad.go2 av b0;clear ad av b0;erw[true,J,?_,<-uo ?_];ext;intro ed hed0;exists hed0,H14,S14,hed14;let ah:=aC.same S14;clear aC S14 hed0;erw[ς,ed,_,J,J,ah.k.d,hed14,?_,<-_,J,?_];by_cases hP0:P=[]
 .rw[hP0];erw[j4 ?_,←k _]
 have bE:0<P.length:=List.length_pos_iff.mpr hP0
 have hmd0:(mdK I P).isEmpty=false:=by
  cases P with
  |nil=>erw[absurd J hP0]
  |cons q r=>rfl
 rwa[hmd0,uo ?_];clear hmd0 hed14;ext;erw[ς,_,J,ah.k.d,λkl hkl0=>?_];rw[yen];exists hkl0,H15,S15,hkl15;let S:=ah.same S15;ext;erw[l,zs,4,J,S.k.b.s.seq ac,∅,λc6 bM bT=>?_]
 ext;erw[ς,_,J,S.k.d,?_];rw[show (mdK I P).length=P.length from bw _];ext
 obtain⟨j,hj,b7⟩:∃j:Nat,c6/64%((P.length:Nat):Int)=(j:Int)/\j<P.length:=by
  let e0:=dG (c6/64) (show ((P.length:Nat):Int)≠0 by omega);let e1:=dD (c6/64) (show 0<((P.length:Nat):Int) by omega);erw[(c6/64%((P.length:Nat):Int)).toNat,(),()]
 rwa[hj,ua (v:=.str P[j].nm) (SqL.of hkl15) (vw (by rw[ci,ci,bP b7];rfl)) ?_];let aX:=bP b7;let a9:=Gon.all S.k.k S.k.s.pw.nd aX J P.length (cc _);rw[cU]at a9;clear hj ah S15 hkl0 hkl15;ext;erw[ς,P,Y4,I,tx,P[j].nm,J,S.k.m,S.k.d,ab,λgl bK ap Z aV=>?_];generalize P.foldl yba [P[j].nm]=g at a9 Z;let aw:=S.nw ap;let ai:=(S.same aV).hold Z aw;have b6:H2 gl=none:=aw.2.2.2.1;have aU:yz H2 (upd H2 gl (.lst (g.map V.str))):=y7 b6;have a4:upd H2 gl (.lst (g.map V.str)) gl\(g.map V.str):=ya;let a5:=aU _ _ N;generalize upd H2 gl (.lst (g.map V.str))=B at ai aU a4 a5;clear S aV ap Z aw;ext;have P0:P.filter (λq=>decide (q.nm∉g.drop (g.length-0)))=P:=List.filter_eq_self.mpr λq C=>cg (by rwa[Nat.sub_zero,List.drop_length,List.not_mem_nil]);erw[gl,_,J,SqL.of (ai.k.b.s _ _ a4),ysx (K:=K) (a:=gl) (xs:=g.map V.str) (λi σ2 G=>∃(Y6:Sx)(v:Ψ),σ2=[some (.ref l),some (.ref nl),some (.int (mr:Nat)),some (.ref dk),some (.ref ς),v5,v6,v7,some (.ref dj),some (.ref gl),v,none]/\D3 K a B G dk ς #[n,kd,ps,R,R] P Y4 I tx ns dj #[n,kd,ps,R,R] (P.filter λq=>decide (q.nm∉g.drop (g.length-i))) Y6) #[Y5,_,J,by rwa[P0,ai]] (λi σ2 G C ⟨_,_,_,z⟩=>SqL.of (z.k.b.s _ _ a4)) ?_ ?_]
 .rintro i x σ2 G hx ⟨Y6,v,rfl,hG⟩
  have bt:i<g.length:=by
   let e:=(ck.mp hx).1;rw[List.length_reverse,bw]at e;erw[e]
  obtain⟨m,hm⟩:∃m,m+1=g.length-i:=#[g.length-i-1,()];have aP:m<g.length:=()
  have hx:x=.str g[m]:=by
   rw[List.getElem?_reverse (by rwa[bw,bt]),bw,ci,show g.length-1-i=m by omega,bP aP]at hx;erw[(cu hx).symm]
  subst hx;rw[<- hm]at hG;let#[#[q,p,eq],bf,aM]:=a9.drop aX J aP;have b1:OkL g[m]:=by rwa[<- eq,a6 q (dg.mp p).1]
  let h8:=wj b1.1.1;let#[d8,bj,aL]:=hG.o.ins;ext;erw[_,_,J,J,vo (by show 5+_<=_;omega),?_];rw[show Str.ofString "drop "++g[m]=Str.join ⟨#[32]⟩ [Str.ofString "drop",g[m]]from yho "drop" _ J];ext;erw[hG.o.drop b1 (λno=>absurd eq (no q p)) (λr L e ⟨u,hu,eu⟩=>absurd eu (bf u hu)) λr L e no Y7 G2 aI g2=>?_];rw[aM]at aI;ext;erw[J,_,J,?_];rwa[cg J,uo ?_];erw[Y7,_,J,?_];rw[show g.length-(i+1)=m by omega];erw[hG.go2 aI g2]
 rintro σ2 G ⟨Y6,v,rfl,hG⟩;rw[bw,Nat.sub_self,List.drop_zero]at hG;clear ai P0;ext;intro ml hml0;exists hml0,H17,S17,hml17;let O:=hG.same S17;let aj:=hG.nw hml0
 have bD:∀q,q∈P->I q.nm≠ml:=λq p z=>by
  let e2:=(hG.m.t q p).1;rw[z,hml0]at e2;cases e2
 clear hG S17;ext;erw[ς,mdK I P,J,O.k.d,λo=>?_];have aa:ml≠ς:=aj.2.2.1;have a8:upd H17 ς (.frz o (.dK (mdK I P))) ml=some (.dK (mdK I [])):=ye aa hml17;refine yap (o:=o) (d:=ς) (kvs:=mdK I P) (λi σ2 F=>∃(v:Ψ),σ2=[some (.ref l),some (.ref nl),some (.int (mr:Nat)),some (.ref dk),some (.ref ς),v5,v6,v7,some (.ref dj),some (.ref gl),v,some (.ref ml)]/\But ml (upd H17 ς (.frz o (.dK (mdK I P)))) F/\F ml=some (.dK (mdK I ((P.take i).filter λq=>decide (q.nm∉g)))))
  #[_,J,λC C e C=>e,a8] ?_ ?_ ?_
 .rintro i σ2 F _ ⟨v,rfl,bF,hF⟩;erw[bF _ _ ya (Ne.symm aa)]
 .rintro i kk v0 σ2 F bl ⟨v,rfl,bF,hF⟩;let#[q,p,J,J]:=yfz bl;let bq:=cz p;have bz:i<P.length:=(ck.mp p).1;let bm:=(O.m.frz O.k.d o).but a8 J (Ne.symm aa) bF;have br:F gl\(g.map V.str):=bF _ _ (ye (λz=>by have e:=O.k.n;rw[<- z,a4]at e;cases e) (O.k.b.s _ _ a4)) (λz=>by have e:=aj.2.2.2.1;rw[<- z,a4]at e;cases e)
  have e1:(P.take (i+1)).filter (λq=>decide (q.nm∉g))=(P.take i).filter (λq=>decide (q.nm∉g))++[q].filter (λq=>decide (q.nm∉g)):=by
   rw[cH bz,(ck.mp p).2,List.filter_append]
  rw[e1];ext;erw[gl,_,J,.inl (SqL.of br),J,ybs _,?_];rw[show inV (kV (.inr q.nm)) (g.map V.str)=decide (q.nm∈g)from yne _ _];by_cases hg:q.nm∈g
  .rw[cg hg];erw[false,J,?_,<-uo ?_,<-_,J,bF,?_];rwa[List.filter_cons_of_neg (by rw[cj λz=>z hg];decide),List.filter_nil,dQ,hF]
  .rw[cj hg];erw[true,J,?_];refine j4 ?_
   have bg:∀r,r∈(P.take i).filter (λq=>decide (q.nm∉g))->r.nm≠q.nm:=λr L e=>by
    let#[u,hu,J]:=List.mem_iff_getElem.mp (dg.mp L).1;rw[cG]at hu;have:=yhi O.k.s.pw.nd (show P[u]?=some (P.take i)[u] by rwa[List.getElem_take,bP ()]) p e;omega
   have bI:((P.take i).filter λq=>decide (q.nm∉g)).length<=6:=cO (List.length_filter_le _ _) (by rw[cG];omega);ext;erw[ς,_,J,bm.get bq,?_,←ml,_,J,yhs.k (k:=.inr q.nm) hF (ve (by unfold mdK;rw[bw];omega)),?_];rw[π _ (ylp I bg)];ext;erw[_,J,λc o' e ne=>ye ne (bF _ _ e ne),?_];rw[ya,show [q].filter (λq=>decide (q.nm∉g))=[q]from List.filter_cons_of_pos (cg hg)];unfold mdK;rw[cy,List.map_singleton]
 .rintro σ2 F ⟨v,rfl,bF,hF⟩;have bu:(mdK I P).length=P.length:=bw _;rw[bu,cU]at hF;exists ς,o,.dK (mdK I P),(λo u e=>by rw[O.k.d]at e;cases e),bF _ _ ya (Ne.symm aa),?_
  have ay:But ml H17 (upd F ς (.dK (mdK I P))):=λc o' e ne=>by
   by_cases z:c=ς
   .rw[z,ya];rw[z,O.k.d]at e;erw[e]
   .erw[ye z (bF _ _ (ye z e) ne)]
  let a3:=O.upM hml17 J aj ay;have U:upd F ς (.dK (mdK I P)) ml=some (.dK (mdK I (P.filter λq=>decide (q.nm∉g)))):=ye aa hF;generalize upd F ς (.dK (mdK I P))=bb at a3 U ay⊢;have aq:Mdl bb Y6 ml (P.filter λq=>decide (q.nm∉g)) I tx:=#[.inl U,aj.2.1,λq p=>a3.m.t q (dg.mp p).1,λq p=>a3.m.x q (dg.mp p).1];clear O ay bF hF a8 hml17;ext;erw[nl,J,#[_,SqL.of (a3.k.b.s _ _ a5)],λD ae=>?_,<-a3.reads aq U a5 W (λg=>by walk_at "rd";erw[g]) ae λY7 bJ aS aW az am=>?_,←D,List.replicate 6 true,J,SqL.of am,?_,<-true,J,?_,<-uo ?_];clear a3 aq U ae am;ext;erw[dj,ml,_,_,Y7,I,tx,J,aS.o,aW,az,λq p=>a6 q (dg.mp p).1,cO (List.length_filter_le _ _) ab,λY8 bL aT bi=>?_];let ax:=aS.go2 aT bi;ext;erw[dk,ς,_,P,Y4,I,tx,J,ax.k.s,ax.k.m,ax.k.d,a6,ab,λY9 bc C C=>?_,<-k bc]
end
end
variable{C C2:Cf}{P P2:qj Pd}{X Y:Sx}
def all_mk{l:W.OpenLaw}{w:qe}{K:z3}{mg:Ε}{fa:z4}(hfa:mg "law"∣fa)(T:Txt K mg a)
 :∃fd:FuncData,(∀(s:qa)(v:qc),BindsTo s fd #[[v],[]] [("_law_script",v)])/\∀Γ:qg,K.In Γ->Γ.Ns mainGlobals mg->vq l.prog w K mg Γ CX0 22 fa fd ["_law_script"] (yfx K):=by have e:=hfa.symm.trans T.La.m;obtain rfl:=Value.ref.inj (cu e);erw[a.Jq,λs v=>?_,λΓ Z Z=>yys T];let#[_,_,_,_,_,_,_,_,_,e,_,_]:=T.La.F.ex;rwa[e,.of_eq J]
def walk{l:W.OpenLaw}{q:qi}{loose:Τ}{XP:(Ε)->qg->Prop}{YP:qe->qg->Prop}{d:DefRec}{K:Params->z3}(hn:l.most=some 63)(hdf:d.params.defaults=[])
  (hY:∀(w:qe)(h:qg),YP w h->(K w.params).In h)
  (F:∀(w:qe)(mg:Ε)(fa:z4)(h:qg),(K w.params).In h->h.Ns mainGlobals mg->mg d.name∣fa ->
   ∃fd:FuncData,(∀(s:qa)(u:qc),BindsTo s fd #[[u],[]] [("_law_script",u)])/\∀Γ:qg,(K w.params).In Γ->Γ.Ns mainGlobals mg->vq l.prog w (K w.params) mg Γ CX0 22 fa fd ["_law_script"] (yfx (K w.params))):
  W.WalkO q loose XP YP l.row.toRowW d [] (λf vs=>PySem.call f vs) :=
 L2.walk_of (n:=63) (k:=22) (x:="_law_script") (CX:=λZ=>CX0) (sp:=λw=>yfx (K w.params)) hn ∅ hdf #[J,∅,∅] hY F (λZ Z a c b Z e=>#[a,c,J,e,b,λZ=>rfl]) λZ Z Z Z Z z=>z
end Law
end
open PySem PySem.W PyProof.Rows
set_option maxRecDepth 100000 in
set_option maxHeartbeats 0 in
theorem PySem.Challenge.cw_foretell_k93_whole_desk_holds : PySem.Challenge.rw_foretell_k93_whole_desk.Holds := by
 refine H0.2 ?_
 unfold H0
 dsimp only []
 k_fill
 refine Law.walk (l := PySem.Challenge.rw_foretell_k93_whole_desk) rfl rfl (fun w h Y => PySem.W.kIn_of Y) ?F
 case F =>
  intro w mg fa h KX G hmg
  refine' Law.all_mk hmg (Law.Txt.mk (a := Law.Ads.mk) ..)
  any_goals (refine L2.pG ?_; try dsimp only)
  any_goals (refine L2.pG ?_; first | (refine' PySem.W.mg_of KX G ?_; k_is; done) | (refine' PySem.W.mg_none_of KX G ?_; k_is; done))
  any_goals (refine L2.pG ?_; first | (refine' L2.Dg.d1 (L2.dgf_mk KX G ?_ ?_ ?_ ?_); any_goals k_is; done) | (refine' L2.Dg.d2 (L2.dgf_mk KX G ?_ ?_ ?_ ?_); any_goals k_is; done) | (refine' L2.Dg.d3 (L2.dgf_mk KX G ?_ ?_ ?_ ?_); any_goals k_is; done) | (refine' L2.Dg.d5 (L2.dgf_mk KX G ?_ ?_ ?_ ?_); any_goals k_is; done) | (refine' L2.Dg.d6 (L2.dgf_mk KX G ?_ ?_ ?_ ?_); any_goals k_is; done) | (refine' L2.Dg.d1 (L2.dgm_mk ?_ ?_ ?_ ?_ ?_); any_goals k_is; done) | (refine' L2.Dg.d2 (L2.dgm_mk ?_ ?_ ?_ ?_ ?_); any_goals k_is; done) | (refine' L2.Dg.d3 (L2.dgm_mk ?_ ?_ ?_ ?_ ?_); any_goals k_is; done) | (refine' L2.Dg.d4 (L2.dgm_mk ?_ ?_ ?_ ?_ ?_); any_goals k_is; done) | (refine' L2.funD_mk ?_ ?_ ?_; any_goals k_is; done) | (refine' L2.bindsR (j := 2) ?hj ?hh ?hd; (case hd=>k_is); (case hj => rfl); (case hh => exact fun _ _ _ _ _ _ _ _ => Exists.intro _ ⟨rfl, rfl⟩); done) | (refine' L2.bindsR (j := 3) ?hj ?hh ?hd; (case hd=>k_is); (case hj => rfl); (case hh => exact fun _ _ _ _ _ _ _ _ _ => Exists.intro _ ⟨rfl, rfl⟩); done) | (refine' L2.bindsR (j := 4) ?hj ?hh ?hd; (case hd=>k_is); (case hj => rfl); (case hh => exact fun _ _ _ _ _ _ _ _ _ _ => Exists.intro _ ⟨rfl, rfl⟩); done) | (refine' L2.XCls.mk ?_ ?_ ?_ ?_ ?_ ?_ ?_ ?_ <;> k_is) | (refine' L2.Cls.mk ?_ ?_ ?_ ?_ <;> k_is) | (refine' L2.Mk.mk ?_ ?_ ?_ ?_; any_goals k_is; done) | (refine' L2.Meth.mk ?_ ?_ ?_; any_goals k_is; done) | ((first | refine' L2.exm_mk ?_ ?_ ?_ ?_ | refine' L2.exm_mkB ?_ ?_ ?_ ?_); any_goals (first | k_is | k_exc); done) | (unfold L2.NoAttr; k_is) | k_is | kit_is | k_exc | (with_reducible show _ = _; first | k_is | k_exc))
  any_goals (refine L2.pG ?_; first | (refine' L2.funD_mk ?_ ?_ ?_; any_goals k_is; done) | (refine' L2.bindsR (j := 2) ?hj ?hh ?hd; (case hd=>k_is); (case hj => rfl); (case hh => exact fun _ _ _ _ _ _ _ _ => Exists.intro _ ⟨rfl, rfl⟩); done) | (refine' L2.bindsR (j := 3) ?hj ?hh ?hd; (case hd=>k_is); (case hj => rfl); (case hh => exact fun _ _ _ _ _ _ _ _ _ => Exists.intro _ ⟨rfl, rfl⟩); done) | (refine' L2.bindsR (j := 4) ?hj ?hh ?hd; (case hd=>k_is); (case hj => rfl); (case hh => exact fun _ _ _ _ _ _ _ _ _ _ => Exists.intro _ ⟨rfl, rfl⟩); done))
#print axioms PySem.Challenge.cw_foretell_k93_whole_desk_holds
