import PyProof.Rows.All
import Wide.All
import OpenK.KLine
import OpenK.KWalk
import OpenK.KOwn
import KE.RegKIsAll
import KE.KxText
import KE.KIntText
import KE.KDictList
import KE.KTryMore
import Wide.FinOn
import PyProof.EqAt
import PyProof.EqKinds
import PyProof.TupleCall
import Lean
import PySem.Challenge.RW_foretell_k44_store_refused
set_option Elab.async false
set_option linter.all false
set_option hygiene false
set_option bootstrap.genMatcherCode false
set_option compiler.extract_closed false
noncomputable section
set_option maxRecDepth 100000
set_option maxHeartbeats 0
theorem aA(_:True:=by rfl):True:=⟨⟩
theorem aB(_:True:=by decide):True:=⟨⟩
theorem aC(_:True:=by decide+kernel):True:=⟨⟩
theorem aD(_:True:=by intro _;rfl):True:=⟨⟩
theorem aE(_:True:=by exact rfl):True:=⟨⟩
theorem aF(_:True:=by first|erw[.inl rfl]|erw[.inr rfl]|assumption):True:=⟨⟩
theorem aG(_:True:=by intros;rfl):True:=⟨⟩
theorem aH(_:True:=by first|erw[Or.inl rfl]|erw[Or.inr (Or.inl J)]|erw[Or.inr (Or.inr J)]):True:=⟨⟩
local macro_rules | `(↑$p)=>`(autoParam $p aA._auto_1)
local macro_rules | `(⇑$p)=>`(autoParam $p aB._auto_1)
local macro_rules | `(↥$p)=>`(autoParam $p aC._auto_1)
local macro_rules | `(tactic| exists $ts,*)=>`(tactic| refine ⟨$ts,*⟩)
local macro_rules | `(tactic| omega)=>`(tactic| first | with_reducible assumption | lia | omega (config:={}))
open Lean.Parser.Tactic in
local macro_rules | `(tactic| let $p:term := $e)=>do
 let s<-p.raw.rewriteBottomUpM fun x=>do
  if x.isOfKind `Lean.Parser.Term.anonymousCtor||x.isOfKind `«term#[_,]» then
   let ps<-x[1].getSepArgs.mapM fun y=>`(rcasesPatLo| $(⟨y⟩):rcasesPat)
   return (<-`(rcasesPat| ⟨$[$ps:rcasesPatLo],*⟩)).raw
  else if x.isIdent then return (<-if x.getId==`J then `(rcasesPat| rfl) else `(rcasesPat| $(⟨x⟩):ident)).raw
  else if x.isOfKind `Lean.Parser.Term.hole then return (<-`(rcasesPat| _)).raw
  else return x
 `(tactic| obtain $(⟨s⟩):rcasesPat:=$e)
namespace PySem.W.Fast
local macro_rules
 | `(#synth $k:ident $ns*)=>Lean.MonadRef.withRef .missing do return Lean.mkNullNode ((<-(ns.foldl (fun c n=>match n.raw.isNatLit?,c.back? with | some n,b=>c.push (n+b.getD 0) | _,b=>(Array.range' c[0]! (b.getD 0-c[0]!+1))) #[]).mapM fun n=>`(theorem $(Lean.mkIdent (.mkSimple s!"tw{(k.getId.getPrefix.str s!"{k.getId.getString!}_{n}").hash}")) : True:=⟨⟩)).map (·.raw))
 | `(#synth $k:ident)=>`(theorem $(Lean.mkIdent (.mkSimple s!"tw{k.getId.hash}")) : True:=⟨⟩)
#synth PySem.Challenge.pw_foretell_k44_store_refused
#synth H0.heap 39 7 1442
#synth H0.tree 47 23 15 15 15 15 15 15 15 15 15 15 15 15 15 15 48 45 37 43 43 50 45 51 47 85 29 65 58 35 51 42 140 86 31 66 84 26
#synth H0.view 39
#synth H0.sts 49 22 15 15 15 15 15 15 15 15 15 15 15 15 15 15 48 45 37 43 43 50 45 51 47 85 29 65 58 35 51 42 229 28 66 84
#synth H0.o 43 1444 _
#synth H0.env 41
end PySem.W.Fast
section
open PySem PySem.W PyProof.Rows
def Q0:Program:={PySem.Challenge.pw_foretell_k44_store_refused with main:={PySem.Challenge.pw_foretell_k44_store_refused.main with body:=PySem.Challenge.pw_foretell_k44_store_refused.main.body.drop 116}}
def Z0:List Str:=PySem.Challenge.pw_foretell_k44_store_refused.boundNames.filter (·!="law")
theorem H1{K:Params->Frag}{as:List Addr}(n:Nat)(e:∀P,as=(K P).map (·.1))(w:World)(s:Shared)(x:((as.take n).map s.heap.get?,(as.drop n).map s.heap.get?)=(((K w.params).take n).map (fun p=>some p.2),((K w.params).drop n).map fun p=>some p.2)):InK K w s.heap:=InK.of e w s (by
 have h:=Prod.mk.inj x
 rw [<-List.take_append_drop n as,List.map_append,h.1,h.2,<-List.map_append,List.take_append_drop])
local macro_rules | `(tactic| refine $f:ident $as*)=>do
 unless f.getId==`PySem.W.holds_open do Lean.Macro.throwUnsupported
 let h:=as[6]!.raw[3][1][0][1][1]
 let k:Lean.Term:=⟨h[0]⟩
 let a:Lean.Term:=⟨h[1]⟩
 let e:Lean.Term:=⟨h[2]⟩
 let r:=as.extract 10 as.size
 `(tactic| (refine ($f (q:=Q0) (loose:=Z0) $(as[2]!) $(as[3]!) (Yf:=fun s=>((List.take 400 $a).map s.heap.get?,(List.drop 400 $a).map s.heap.get?)) (Ya:=fun w=>((List.take 400 ($k w.params)).map (fun p=>some p.2),(List.drop 400 ($k w.params)).map fun p=>some p.2)) $(as[6]!) $(as[7]!) $(as[8]!) (H1 400 $e) $r*); case $(Lean.mkIdent `hc):ident=>exact $(Lean.mkIdent `hP)))
set_option maxRecDepth 100000 in
set_option maxHeartbeats 0 in
def H0:PSigma fun P:Prop=>P->PySem.Challenge.rw_foretell_k44_store_refused.Holds:=by
 refine' ⟨_,fun hP=>?_⟩
 rotate_left
 w_on; o_law; k_head
 w_witness2
end
section
open PySem PySem.Spec PyProof.Rows
def bj:type_of% @wpAny_bind:=@wpAny_bind
def bo:type_of% @List.length_map:=@List.length_map
def bp:type_of% @List.getElem?_eq_getElem:=@List.getElem?_eq_getElem
def bq:type_of% @List.length_append:=@List.length_append
def br:type_of% @Heap.get?_push_of_some:=@Heap.get?_push_of_some
def bv:type_of% @wpAny_pure:=@wpAny_pure
def bw:type_of% @List.mem_map:=@List.mem_map
def bx:type_of% @Nat.le_refl:=@Nat.le_refl
def bz:type_of% @decide_eq_true:=@decide_eq_true
def bA:type_of% @List.map_append:=@List.map_append
def bB:type_of% @List.getElem?_map:=@List.getElem?_map
def bC:type_of% @Heap.get?_push_size:=@Heap.get?_push_size
def bD:type_of% @decide_eq_false:=@decide_eq_false
def bE:type_of% @Heap.lt_size:=@Heap.lt_size
def bF:type_of% @List.size_toArray:=@List.size_toArray
def bH:type_of% @List.mem_cons:=@List.mem_cons
def bJ:type_of% @List.getElem?_eq_some_iff:=@List.getElem?_eq_some_iff
def bK:type_of% @Bool.false_ne_true:=@Bool.false_ne_true
def bL:type_of% @Option.some.inj:=@Option.some.inj
def bM:type_of% @List.mem_of_getElem?:=@List.mem_of_getElem?
def bN:type_of% @List.length_cons:=@List.length_cons
def bO:type_of% @List.mem_singleton:=@List.mem_singleton
def bP:type_of% @List.mem_append_right:=@List.mem_append_right
def bQ:type_of% @List.mem_append:=@List.mem_append
def bR:type_of% @Nat.zero_le:=@Nat.zero_le
def bS:type_of% @Nat.not_lt_zero:=@Nat.not_lt_zero
def bT:type_of% @List.length_take:=@List.length_take
def bU:type_of% @Bool.and_eq_true:=@Bool.and_eq_true
def bV:type_of% @List.take_succ_eq_append_getElem:=@List.take_succ_eq_append_getElem
def bW:type_of% @List.getElem_mem:=@List.getElem_mem
def bX:type_of% @List.append_assoc:=@List.append_assoc
def bY:type_of% @Nat.ne_of_lt:=@Nat.ne_of_lt
def bZ:type_of% @Nat.lt_of_lt_of_le:=@Nat.lt_of_lt_of_le
def b9:type_of% @List.length_range:=@List.length_range
def cb:type_of% @List.map_cons:=@List.map_cons
def ce:type_of% @wpAny_field:=@wpAny_field
def cg:type_of% @List.mem_cons_of_mem:=@List.mem_cons_of_mem
def ci:type_of% @List.getElem?_eq_none:=@List.getElem?_eq_none
def cj:type_of% @List.mem_cons_self:=@List.mem_cons_self
def ck:type_of% @Nat.le_trans:=@Nat.le_trans
def cn:type_of% @List.map_map:=@List.map_map
def cq:type_of% @List.take_length:=@List.take_length
def cr:type_of% @wpAny_mono:=@wpAny_mono
def cu:type_of% @List.replicate_succ:=@List.replicate_succ
def cz:type_of% @List.length_singleton:=@List.length_singleton
def cA:type_of% @Int.emod_lt_of_pos:=@Int.emod_lt_of_pos
def cB:type_of% @List.getElem?_append_right:=@List.getElem?_append_right
def cD:type_of% @Int.mul_le_mul_of_nonneg_right:=@Int.mul_le_mul_of_nonneg_right
def cE:type_of% @List.take_of_length_le:=@List.take_of_length_le
def cF:type_of% @List.drop_eq_getElem_cons:=@List.drop_eq_getElem_cons
def cG:type_of% @List.mem_range:=@List.mem_range
def cH:type_of% @List.mem_of_mem_take:=@List.mem_of_mem_take
def cI:type_of% @wpAny_truthy_bool:=@wpAny_truthy_bool
def cJ:type_of% @Array.length_toList:=@Array.length_toList
def cK:type_of% @Int.emod_nonneg:=@Int.emod_nonneg
def cL:type_of% @List.getElem_map:=@List.getElem_map
def cM:type_of% @Int.mul_le_mul_of_nonneg_left:=@Int.mul_le_mul_of_nonneg_left
def cN:type_of% @List.mem_append_left:=@List.mem_append_left
def cO:type_of% @List.eq_nil_of_length_eq_zero:=@List.eq_nil_of_length_eq_zero
def cP:type_of% @List.nodup_cons:=@List.nodup_cons
def cQ:type_of% @List.getElem?_range:=@List.getElem?_range
def cR:type_of% @List.mem_filter:=@List.mem_filter
def cS:type_of% @Option.map_some:=@Option.map_some
def cT:type_of% @List.append_nil:=@List.append_nil
def cU:type_of% @Nat.lt_irrefl:=@Nat.lt_irrefl
def cV:type_of% @List.length_replicate:=@List.length_replicate
def cX:type_of% @List.getD_eq_getElem?_getD:=@List.getD_eq_getElem?_getD
def cZ:type_of% @List.length_drop:=@List.length_drop
def c7:type_of% @List.any_eq_true:=@List.any_eq_true
def c8:type_of% @List.getElem?_append_left:=@List.getElem?_append_left
def c9:type_of% @beq_eq_false_iff_ne:=@beq_eq_false_iff_ne
def da:type_of% @List.take_append_drop:=@List.take_append_drop
end
abbrev Β:=Nat->PySem.Addr->Prop
abbrev Δ:=PySem.Value->PySem.Shared->Prop
abbrev Ε:=PySem.Str->Option PySem.Value
abbrev Η:=List (PySem.Str×List Int)
abbrev Θ:=List (PySem.Addr×PySem.Obj)
abbrev Κ:=Nat->List Int
abbrev Λ:=Nat->PySem.Addr
abbrev Μ:=PySem.Addr->Prop
abbrev Ν:=Nat->Fin 3
abbrev Ξ:=List PySem.Value
abbrev Ο:=List Int
abbrev Ρ:=List PySem.Str
abbrev Υ:=Option PySem.Str
abbrev Φ:=List PySem.Addr
abbrev xy:=PySem.W.Frag
abbrev qa:=PySem.Addr
abbrev qb:=PySem.Shared
abbrev qc:=PySem.Value
abbrev qd:=PySem.Stmt
abbrev qe:=PySem.World
abbrev qf:=PySem.Around
abbrev qg:=PySem.Heap
abbrev qh:=PySem.Expr
abbrev qi:=PySem.Program
abbrev qj:=List
abbrev ql:=Option
section
set_option tactic.hygienic false
local macro_rules | `(#[$xs,*])=>do
 if xs.getElems.size<2 then Lean.Macro.throwUnsupported
 `(⟨$xs,*⟩)
local macro_rules | `(tactic| let $x:ident := $e)=>`(tactic| have $x:ident := $e)
local macro_rules | `(())=>`(by omega)
local macro_rules | `(∅)=>`(by decide)
local macro_rules | `(tactic| rwa [$rs,*])=>`(tactic| (rw [$(rs.getElems.pop),*];refine $(⟨rs.getElems.back!.raw[1]⟩)))
local macro_rules | `(tactic| erw [$rs,*])=>do
 let F (c:Array Lean.Term):=if c.size<2 then `(tactic| refine $(c[0]!)) else `(tactic| refine ⟨$c,*⟩)
 let mut o:Array (Lean.TSyntax `tactic):=.empty
 let mut c:Array Lean.Term:=.empty
 for r in rs.getElems do
  let m:=r.raw[0]
  if !m.isNone then
   o:=o.push (<-F c)
   c:=.empty
   if (m.find? (·.isToken "←")).isSome then o:=o.push (<-`(tactic| ext))
  c:=c.push ⟨r.raw[1]⟩
 o:=o.push (<-F c)
 if o.size<2 then return o[0]! else `(tactic| ($[$o];*))
local macro_rules | `(mutual $cs* end)=>if cs.size==2 then Lean.Macro.throwUnsupported else return Lean.mkNullNode (cs.map (·.raw.rewriteBottomUp (·.setInfo .none)))
theorem _root_.J{α:Sort u}{a:α}:a=a:=rfl
local macro_rules | `($a\$b)=>`($a=some (.lst $b))
local macro_rules | `($a∩$f $as*)=>`($a=some (.ins $f $as*))
local macro_rules | `($a∪$b)=>`($a=some (.tup $b))
local macro_rules | `($a∣$b)=>`($a=some (.ref $b))
local macro_rules | `(!$s:str)=>`(Str.ofString $s)
local macro_rules
 | `('r')=>`(by right)
 | `('s')=>`(by simp)
 | `('z')=>`(by intro z;cases z)
 | `('l')=>`(by walk_at "len")
 | `('i')=>`(Inv X pins σ H)
 | `('v')=>`(vx P w K mg Γ CX0)
 | `('e')=>`(vx P w K mg Γ (CXe P w))
 | `('w')=>`(wpAny (model X.prog X.w) X.A)
 | `('u')=>`(ξ PySem.F.plainAttrs_list PySem.F.slot_list_append PySem.F.type_list_append xt)
 | `('y')=>`(vy (CXe P w) P w K mg base N qual scope f cd A outer s H)
 | `('n')=>`(s.heap.objs.size)
 | `('d')=>`((x == ("__debug__":Str))=false)
 | `('a')=>`(starEach (e::es) X.env=(false,eval e X.env)::starEach es X.env)
 | `('b')=>`((backTo pos (starEach es X.env)).any (·.1)=false)
 | `('k')=>`(snK (Ú n kd ps pre ts) (ww ts))
mutual
inductive Ϝ{α:Sort a}{β:Sort b}(p:α->β->Prop):Prop|mk(x:α)(y:β)(h:p x y)
inductive ϒ{α:Sort a}{β:Sort b}{γ:Sort c}(p:α->β->γ->Prop):Prop|mk(x:α)(y:β)(z:γ)(h:p x y z)
inductive ϓ{α:Sort a}{β:Sort b}{γ:Sort c}{φ:Sort d}{χ:Sort e}{ψ:Sort f}(p:α->β->γ->φ->χ->ψ->Prop):Prop|mk(x:α)(y:β)(z:γ)(u:φ)(v:χ)(w:ψ)(h:p x y z u v w)
inductive Ϙ(a b c d:Prop):Prop|mk(x:a)(y:b)(z:c)(w:d)
inductive ϙ(a b c d e f g:Prop):Prop|mk(x:a)(y:b)(z:c)(w:d)(p:e)(q:f)(r:g)
end
open Lean in
def ϕ(t:Term):Nat->MacroM Term
 | n+1=>match t with
  | `($a/\$b/\$c/\$d/\$e/\$f/\$g)=>do `(ϙ $a $b $c $d $e $f $(<-ϕ g n))
  | `($a/\$b/\$c/\$d)=>`(Ϙ $a $b $c $d)
  | _=>return t
 | _=>return t
open Lean in
def ϔ(b:Term):List (Syntax×Option Syntax)->MacroM Term
 | x::y::z::u::v::w::l=>do `(ϓ $(<-F [x,y,z,u,v,w] (<-ϔ b l)))
 | x::y::z::l=>do `(ϒ $(<-F [x,y,z] (<-ϔ b l)))
 | x::y::l=>do `(Ϝ $(<-F [x,y] (<-ϔ b l)))
 | x::l=>do `(Exists $(<-F [x] (<-ϔ b l)))
 | _=>ϕ b 9
where F(l:List (Syntax×Option Syntax))(b:Term):MacroM Term:=l.foldrM (fun x b=>do
 let i:Term:=⟨x.1[0]⟩
 match x.2 with
 | some t=>`(fun ($i :$(⟨t⟩))=>$b)
 | _=>`(fun $i=>$b)) b
local macro_rules | `(∃$xs,$b)=>do
 let c:=xs.raw[0]
 let l:=if c.isOfKind `Lean.unbracketedExplicitBinders then c[0].getArgs.toList.map (·,if c[1].isNone then none else some c[1][1]) else c.getArgs.toList.flatMap fun y=>y[1].getArgs.toList.map (·,some y[3])
 if let [_]:=l then
  let `($_/\$_/\$_/\$_):=b | Lean.Macro.throwUnsupported
 ϔ b l
namespace L2
open PySem PySem.Spec PyProof.Rows
mutual
variable{C a:qa}{op:CmpOp}{tg:qh}{fd:FuncData}{h':qg}{pins:Θ}{kw:qj (Str×qc)}{fp:Φ}{es:qj qh}{body:qj qd}{us:Ξ}{M:Model}{i t':Nat}{P:qi}{s':qb}{x:Str}{mA:Ε}{u:qc}{E Q:Δ}
abbrev Key:=Sum Int Str
noncomputable def yio:Key->qc->Bool
 | .inl k,v=>Value.isInt k v
 | .inr x,v=>Value.isStrOf x v
noncomputable def vkh(w:qe):Key->Int
 | .inl k=>hashInt k
 | .inr x=>hashStr w x
theorem xh:∀{k:Key}{v:qc},yio k v=true->(∃i t,k=Sum.inl i/\v=Value.int i t)\/(∃x t,k=Sum.inr x/\v=Value.str x t)
 | .inl i,v,h=>by
  let#[t,e]:=Value.isInt_shape (k:=i) (v:=v) h;erw[.inl #[i,t,J,e]]
 | .inr x,v,h=>by
  let#[t,e]:=Value.isStrOf_shape (x:=x) (v:=v) h;erw[.inr #[x,t,J,e]]
def yi8(i:Int)(t:Tok):yio (.inl i) (.int i t)=true:=by simp[yio,Value.isInt]
def yj8(x:Str)(t:Tok):yio (.inr x) (.str x t)=true:=by simp[yio,Value.isStrOf]
def vbv(a b:Int):decide ((Sum.inl a:Key)=Sum.inl b)=(a == b):=by
 by_cases e:a=b
 .subst e;simp
 .have h:¬(Sum.inl a:Key)=Sum.inl b:=λq=>e (Sum.inl.inj q);rwa[bD h,(c9.mpr e).symm]
def vb2(a b:Str):decide ((Sum.inr a:Key)=Sum.inr b)=decide (a=b):=by
 by_cases e:a=b
 .subst e;simp
 .have h:¬(Sum.inr a:Key)=Sum.inr b:=λq=>e (Sum.inr.inj q);rw[bD h,bD e]
def yyj(a:Int)(b:Str):decide ((Sum.inl a:Key)=Sum.inr b)=false:=bD (λq=>nomatch q)
def yy1(a:Str)(b:Int):decide ((Sum.inr a:Key)=Sum.inl b)=false:=bD (λq=>nomatch q)
def xa(prog:qi)(w:qe):PySem.KeyKind prog w Key where
 is:=yio
 hash:=vkh w
 inj:=λv a b ha hb=>by
  rcases xh ha with⟨i,t,rfl,rfl⟩|⟨x,t,rfl,rfl⟩
  .rcases xh hb with⟨j,u,rfl,e⟩|⟨y,u,rfl,e⟩
   .injection e with e1 _;rw[e1]
   .erw[nomatch e]
  .rcases xh hb with⟨j,u,rfl,e⟩|⟨y,u,rfl,e⟩
   .erw[nomatch e]
   .injection e with e1 _;rw[e1]
 byValue:=λk v h=>by
  rcases xh h with⟨i,t,rfl,rfl⟩|⟨x,t,rfl,rfl⟩<;>rfl
 pyHash:=λhv h=>by
  rcases xh hv with⟨i,t,rfl,rfl⟩|⟨x,t,rfl,rfl⟩
  .erw[wpAny_pyHash_int h]
  .erw[wpAny_pyHash_str h]
 eqBool:=λhu hv h=>by
  rcases xh hu with⟨i,t,rfl,rfl⟩|⟨x,t,rfl,rfl⟩
  .rcases xh hv with⟨j,u,rfl,rfl⟩|⟨y,u,rfl,rfl⟩
   .rw[vbv]at h;erw[wpAny_eqBool_int h]
   .rw[yyj]at h;erw[SeqAt.EqAt.int_str i t y u _ _ _ _ h]
  .rcases xh hv with⟨j,u,rfl,rfl⟩|⟨y,u,rfl,rfl⟩
   .rw[yy1]at h;erw[SeqAt.EqAt.str_int x t j u _ _ _ _ h]
   .rw[vb2]at h;erw[wpAny_eqBool_str h]
 «strs»:=λk x t v h=>by
  rcases xh h with⟨i,u,rfl,e⟩|⟨y,u,rfl,e⟩
  .erw[nomatch e]
  .injection e with e1 _;subst e1;cases v<;>rfl
def ydo(prog:qi)(w:qe)(i:Int)(t:Tok):(xa prog w).is (.inl i) (.int i t)=true:=yi8 i t
def ydw(prog:qi)(w:qe)(x:Str)(t:Tok):(xa prog w).is (.inr x) (.str x t)=true:=yj8 x t
inductive V where
 |non|bl (b:Bool)|int (i:Int)|str (x:Str)|byt (b:Array UInt8)|flt (b:UInt64)|ref (a:qa)|ty (n:String)
 deriving DecidableEq
abbrev _root_.Ι:=qj (Str×V)
abbrev _root_.Τ:=qj V
variable{vs xs ys:Τ}{v y:V}
def ub:V->qc->Prop
 | .non,u=>u=Value.none
 | .bl b,u=>u=Value.bool b
 | .int i,u=>∃t,u=Value.int i t
 | .str x,u=>∃t,u=Value.str x t
 | .byt b,u=>∃t,u=Value.bytes b t
 | .flt b,u=>∃t,u=Value.float b t
 | .ref a,u=>u=Value.ref a
 | .ty n,u=>u=Value.type n
abbrev xc:qj V->qj qc->Prop:=Paired ub
theorem xc.length(r:xc xs us):xs.length=us.length:=Paired.length r
theorem xc.get:∀{xs:Τ}{us:Ξ}{i:Nat}{x:V},xc xs us->xs[i]?=some x->∃u,us[i]?=some u/\ub x u
 |_,_,_,_,.nil,e=>by simp at e
 |_,_,0,_,.cons r _,e=>by simp at e;subst e;exists _,J,r
 |_,_,i+1,x,.cons _ t,e=>by
  let#[u,a,b]:=xc.get (i:=i) (x:=x) t (by simpa using e);erw[u,by simpa using a,b]
def xc.append{ws:Ξ}(h:xc xs us)(s:xc ys ws):xc (xs++ys) (us++ws):=by
 induction h with
 |nil=>erw[s]
 |cons r t ih=>erw[.cons r ih]
theorem xc.take:∀{xs:Τ}{us:Ξ}(n:Nat),xc xs us->xc (xs.take n) (us.take n)
 |_,_,0,_=>.nil
 |_,_,_+1,.nil=>.nil
 |_,_,n+1,.cons r t=>.cons r (xc.take n t)
theorem xc.drop:∀{xs:Τ}{us:Ξ}(n:Nat),xc xs us->xc (xs.drop n) (us.drop n)
 |_,_,0,r=>r
 |_,_,_+1,.nil=>.nil
 |_,_,n+1,.cons _ t=>xc.drop n t
def ydi:ql V->ql qc->Prop
 |some v,some u=>ub v u
 |none,none=>True
 |_,_=>False
def KV{κ:Type}:qj (κ×V)->qj (κ×qc)->Prop:=Paired λ(p:κ×V)(q:κ×qc)=>p.1=q.1/\ub p.2 q.2
noncomputable def kV:Key->V
 | .inl i=>.int i
 | .inr x=>.str x
inductive HO where
 |lst (xs:Τ)
 |tup (xs:Τ)
 |dK (kvs:qj (Key×V))|dT (kvs:qj (qj Key×V))
 |set (S:Int->Bool) (n:Nat)
 |ins (C dx:qa) (fs:Ι)
 |own (x:qa)
 |xd (fs:Ι)
 |met (f x:qa)
 |rng (lo hi:Int)
 |frz (o:Obj) (u:HO)
 |tbl (ps:Array qc)
 |ext (φ:qg->Prop)
abbrev Hp:=qa->ql HO
variable{H H':Hp}
noncomputable def upd(H:Hp)(a:qa)(o:HO):Hp:=λb=>if b=a then some o else H b
def ya{o:HO}:upd H a o a=some o:=by unfold upd;rw[if_pos J]
def yn{b:qa}{o:HO}(h:b≠a):upd H a o b=H b:=by unfold upd;rw[if_neg h]
def uc{b:qa}{o u:HO}(h:H a=some o)(h':H b=some u)(d:o≠u):a≠b:=by intro e;subst e;rw[h]at h';erw[d (bL h')]
def yb{b:qa}{o:HO}(h:H a=some o)(h':H b=none):a≠b:=by intro e;subst e;rw[h]at h';cases h'
end
section
mutual
variable(P:qi)(w:qe)
def xn(H:Hp)(h:qg)(a:qa):HO->Prop
 | .lst xs=>xs.length<=sizeLine/\∃(its:Ξ)(n:Nat),xc xs its/\h.get? a=some { cls:=.type "list",data:=.seq its.toArray n}
 | .tup xs=>xs.length<=sizeLine/\∃its:Ξ,xc xs its/\IsTup h a its.toArray
 | .dK kvs=>kvs.length<=sizeLine/\(a == sysModules)=false/\∃vs,KV kvs vs/\h.DictOf (xa P w) a vs
 | .dT kvs=>kvs.length<=sizeLine/\(a == sysModules)=false/\∃xs:qj (qj Key×qa×qc),
   Paired (λ(p:qj Key×V)(q:qj Key×qa×qc)=>p.1=q.1/\H q.2.1∪(p.1.map kV)/\ub p.2 q.2.2) kvs xs/\
   ∃o es ep,h.get? a=some o/\o.ExactDict/\o.data=.dict es ep/\es.toList=xs.map (entryOfKey (tupleKind (xa P w)))/\(xs.map (·.1)).Nodup
 | .set S n=>h.SetOf (intKind P w) a S n
 | .ins C dx fs=>H dx=some (.own a)/\fs.length<=1000/\dx≠a/\h.get? a=some (W.instObj C dx)/\
   ∃mA,h.Ns1 dx mA/\(∀f,ydi (fs.lookup f) (mA f))/\PySem.Within mA (fs.map (·.1))
 | .own _=>∃o,h.get? a=some o
 | .xd fs=>∃mA,h.Ns1 a mA/\∀f,ydi (fs.lookup f) (mA f)
 | .rng lo hi=>∃t u v,h.get? a=some { cls:=.type "range",data:=.fields (List.toArray [.int lo t,.int hi u,.int 1 v])}
 | .frz o u=>h.get? a=some o/\xn H h a u
 | .tbl ps=>h.get? a=some { cls:=.none,data:=.fields ps}
 | .met f x=>h.get? a=some (W.methodObj (.ref f) (.ref x))
 | .ext φ=>φ h/\(∃o,h.get? a=some o)/\∀h1 h2:qg,φ h1->(∀o,h1.get? a=some o->h2.get? a=some o)->φ h2
def HOk(H:Hp)(h:qg):Prop:=∀a o,H a=some o->xn P w H h a o
end
end
section
mutual
variable{w:qe}{h:qg}{o:HO}
theorem xn.lt(x:xn P w H h a o):a<h.objs.size:=by
 cases o with
 |lst xs=>let⟨_,_,_,_,e⟩:=x;erw[bE e]
 |tup xs=>let⟨_,_,_,p⟩:=x;erw[p.lt]
 |dK kvs=>let⟨_,_,_,_,o,_,_,e,_⟩:=x;erw[bE e]
 |dT kvs=>let⟨_,_,_,_,o,_,_,e,_⟩:=x;erw[bE e]
 |set S n=>let⟨o,_,_,_,e,_⟩:=x;erw[bE e]
 |ins C dx fs=>let⟨_,_,_,e,_⟩:=x;erw[bE e]
 |own y=>let⟨_,e⟩:=x;erw[bE e]
 |xd fs=>let⟨_,⟨_,_,_,e,_⟩,_⟩:=x;erw[bE e]
 |rng lo hi=>let⟨_,_,_,e⟩:=x;erw[bE e]
 |frz ob u=>let⟨e,_⟩:=x;erw[bE e]
 |tbl ps=>erw[bE (show h.get? a=some _ from x)]
 |met f y=>erw[bE (show h.get? a=some _ from x)]
 |ext φ=>let⟨_,⟨_,e⟩,_⟩:=x;erw[bE e]
def Paired.mapP{α β:Type}{F G:α->β->Prop}{l₁:qj α}{l₂:qj β}(h:Paired F l₁ l₂)(f:∀a b,F a b->G a b):Paired G l₁ l₂:=by
 induction h with
 |nil=>erw[.nil]
 |cons r t ih=>erw[.cons (f _ _ r) ih]
def xn.stay(x:xn P w H h a o)(k:∀b u,(b=a\/H b=some (.own a))->h.get? b=some u->h'.get? b=some u)
  (ho:∀b,H b=some (.own a)->H' b=some (.own a)) (ht:∀b xs,H b∪xs->H' b∪xs):xn P w H' h' a o:=by
 induction o with
 |lst xs=>let⟨z,j,n,r,e⟩:=x;erw[z,j,n,r,k _ _ (.inl J) e]
 |tup xs=>let⟨z,j,r,ob,e,c⟩:=x;erw[z,j,r,ob,k _ _ (.inl J) e,c]
 |dK kvs=>let⟨z,y,A,r,ob,i,g,e,c⟩:=x;erw[z,y,A,r,ob,i,g,k _ _ (.inl J) e,c]
 |dT kvs =>
  let#[z,y,xs,r,ob,i,g,e,c,c1,c2,c3]:=x;erw[z,y,xs,Paired.mapP r λp q z=>#[z.1,ht _ _ z.2.1,z.2.2],ob,i,g,k _ _ (.inl J) e,c,c1,c2,c3]
 |set S n=>let⟨ob,i,g,t,e,c⟩:=x;erw[ob,i,g,t,k _ _ (.inl J) e,c]
 |ins C dx fs =>
  let#[d,z,B,e,m,#[l,i,g,D,c],r]:=x;erw[ho _ d,z,B,k _ _ (.inl J) e,m,#[l,i,g,k _ _ (.inr d) D,c],r]
 |own y=>let⟨ob,e⟩:=x;erw[ob,k _ _ (.inl J) e]
 |xd fs=>let⟨m,⟨l,i,g,e,c⟩,r⟩:=x;erw[m,#[l,i,g,k _ _ (.inl J) e,c],r]
 |rng lo hi=>let⟨t,u,v,e⟩:=x;erw[t,u,v,k _ _ (.inl J) e]
 |frz ob u ih=>let⟨e,q⟩:=x;erw[k _ _ (.inl J) e,ih q]
 |tbl ps =>
  have e:h.get? a=some { cls:=.none,data:=.fields ps}:=x;show h'.get? a=some { cls:=.none,data:=.fields ps};erw[k a _ (.inl J) e]
 |met f y =>
  have e:h.get? a=some (W.methodObj (.ref f) (.ref y)):=x;show h'.get? a=some (W.methodObj (.ref f) (.ref y));erw[k a _ (.inl J) e]
 |ext φ=>let⟨p,⟨o,e⟩,s⟩:=x;erw[s _ _ p λo q=>k _ _ (.inl J) q,#[o,k _ _ (.inl J) e],s]
theorem HOk.lt(x:HOk P w H h)(e:H a=some o):a<h.objs.size:=(x a o e).lt
def HOk.fresh(x:HOk P w H h)(e:h.objs.size<=a):H a=none:=by
 cases q:H a with
 |none=>rfl
 |some u=>erw[absurd (bZ (x.lt q) e) (cU _)]
def HOk.kept(x:HOk P w H h)(k:∀b u,h.get? b=some u->h'.get? b=some u):HOk P w H h':=λa o e =>
 (x a o e).stay (λb u Z q=>k b u q) (λZ q=>q) λZ Z q=>q
def HOk.laid(x:HOk P w H h)(k:∀b u,h.get? b=some u->h'.get? b=some u)(hp:h.objs.size<=a)(new:xn P w (upd H a o) h' a o):HOk P w (upd H a o) h':=λb u e=>by
 let d:=x.fresh hp;by_cases hb:b=a
 .subst hb;rw[ya]at e;cases e;erw[new]
 .rw[yn hb]at e;erw[(x b u e).stay (λc v Z q=>k c v q) (λc q=>by rwa[yn (yb q d),q]) λc f q=>by rwa[yn (yb q d),q]]
end
end
mutual
def Rd(H:Hp)(a:qa)(u:HO):Prop:=H a=some u\/∃o,H a=some (.frz o u)
def Rd.of{u:HO}(h:H a=some u):Rd H a u:=.inl h
def Rd.ok{w:qe}{h:qg}{u:HO}(r:Rd H a u)(x:HOk P w H h):xn P w H h a u:=by
 rcases r with r|⟨o,r⟩
 .erw[x a u r]
 .let#[_,q]:=x a _ r;erw[q]
def Mut:ql HO->Prop
 |some (.lst _)=>True
 |some (.dK _)=>True
 |some (.dT _)=>True
 |some (.set _ _)=>True
 |some (.ins _ _ _)=>True
 |some (.ext _)=>True
 |_=>False
end
section
variable{w:qe}{h:qg}{x e:qa}{o':HO}
def HOk.write(ok:HOk P w H h)(mu:Mut (H x))(he:e=x\/H e=some (.own x))(k:∀b u,b≠e->h.get? b=some u->h'.get? b=some u)(heo:∃u,h'.get? e=some u)
  (new:xn P w (upd H x o') h' x o'):HOk P w (upd H x o') h':=λb u q=>by
 have a:∀c y,H c=some (.own y)->c≠x:=λc y r z=>by subst z;rw[r]at mu;erw[mu]
 have d:∀c f,H c∪f->c≠x:=λc f r z=>by subst z;rw[r]at mu;erw[mu]
 by_cases hb:b=x
 .subst hb;rw[ya]at q;cases q;erw[new]
 .rw[yn hb]at q;by_cases hbe:b=e
  .have i:H b=some (.own x):=by
    rcases he with z|z
    .erw[absurd (hbe.trans z) hb]
    .rw[hbe];erw[z]
   rw[q]at i;cases i;let#[v,j]:=heo;erw[v,by rwa[hbe,j]]
  .refine(ok b u q).stay (λc v g r=>k c v ?_ r) (λc r=>by rwa[yn (a c b r),r]) λc f r=>by rw[yn (d c f r)];exact r
   rcases g with rfl|g
   .erw[hbe]
   .rintro rfl;rcases he with z|z
    .erw[a c b g z]
    .rw[g]at z;cases z;erw[hb J]
end
mutual
structure Un(fs ex:Φ)(H H':Hp)(h h':qg):Prop where
 keep:∀b o,h.get? b=some o->H b=none->b∉fs->b∉ex->h'.get? b=some o
 slot:∀b o,h.get? b=some o->H b=none->b∈fs->b∉ex->∃sl,h'.get? b=some {o with slots:=sl}
 free:∀b o,h.get? b=some o->H b=none->b∉ex->H' b=none
 there:∀b o,h.get? b=some o->b∉ex->∃o',h'.get? b=some o'
 tups:∀b xs,H b∪xs->H' b∪xs
 frzs:∀b o u,H b=some (.frz o u)->H' b=some (.frz o u)
 tbls:∀b ps,H b=some (.tbl ps)->∃more,H' b=some (.tbl (ps++more))
end
section
mutual
variable{fs fs' ex ex':Φ}{H1 H2:Hp}{h h1 h2:qg}{x e:qa}{o:HO}
def Un.any(u:Un fs ex H H1 h h1){b:qa}{ob:Obj}(q:h.get? b=some ob)(n:H b=none)(hx:b∉ex):∃sl,h1.get? b=some {ob with slots:=sl}:=by
 by_cases hb:b∈fs
 .erw[u.slot b ob q n hb hx]
 .erw[ob.slots,u.keep b ob q n hb hx]
def Un.kept(k:∀b u,h.get? b=some u->h'.get? b=some u):Un fs ex H H h h' :=
 #[λb a q Z Z Z=>k b a q,λb a q Z Z Z=>#[a.slots,k b a q],λZ Z Z n Z=>n,λb a q Z=>#[a,k b a q],λZ Z q=>q,λZ Z Z q=>q,λZ c q=>#[#[],by rw[q];simp]]
def Un.refl:Un fs ex H H h h:=Un.kept λZ Z q=>q
def Un.laid(k:∀b u,h.get? b=some u->h'.get? b=some u)(hp:h.objs.size<=a)(hn:H a=none):Un fs ex H (upd H a o) h h' where
 keep:=λb u q Z Z Z=>k b u q
 slot:=λb u q Z Z Z=>#[u.slots,k b u q]
 free:=λb u q n Z=>by rwa[yn (bY (bZ (bE q) hp)),n]
 there:=λb u q Z=>#[u,k b u q]
 tups:=λb c q=>by rwa[yn (yb q hn),q]
 frzs:=λb u c q=>by rwa[yn (yb q hn),q]
 tbls:=λb d q=>#[#[],by rw[yn (yb q hn),q];simp]
def Un.write(mu:Mut (H x))(he:e=x\/H e=some (.own x))(k:∀b u,b≠e->h.get? b=some u->h'.get? b=some u)(heo:∃u,h'.get? e=some u):Un fs ex H (upd H x o) h h':=by
 have d:∀b,H b=none->b≠x:=λb n z=>by subst z;rw[n]at mu;erw[mu]
 have c:∀b,H b=none->b≠e:=λb n z=>by
  subst z;rcases he with r|r
  .erw[d b n r]
  .rw[n]at r;cases r
 have a:∀b u,H b=some u->¬Mut (some u)->b≠x:=λb u q f z=>by subst z;rw[q]at mu;erw[f mu]
 erw[λb u q n Z Z=>k b u (c b n) q,λb u q n Z Z=>#[u.slots,k b u (c b n) q],λb u q n Z=>by rwa[yn (d b n),n],λb u q Z=>?_,
  λb g q=>by rwa[yn (a b _ q λz=>z),q],λb u g q=>by rwa[yn (a b _ q λz=>z),q],λb i q=>#[#[],by rw[yn (a b _ q λz=>z),q];simp]]
 by_cases hbe:b=e
 .subst hbe;erw[heo]
 .erw[u,k b u hbe q]
end
end
mutual
noncomputable def trk(h:qg)(H:Hp):Φ:=(List.range h.objs.size).filter λa=>(H a).isSome
def ypo(h:qg)(H:Hp):qg:=W.hideAll h (trk h H)
def yi1(h:qg)(H:Hp):(ypo h H).objs.size=h.objs.size:=W.hideAll_size _ _
def yog{h:qg}{b:qa}{o:Obj}(e:h.get? b=some o)(n:H b=none):(ypo h H).get? b=some o :=
 W.hideAll_get _ e λa=>by
  have q:(H b).isSome=true:=(cR.mp a).2;rw[n]at q;simp at q
def ywl{h:qg}{b:qa}{o:Obj}(e:(ypo h H).get? b=some o):h.get? b=some o/\H b=none:=by
 have a:h.get? b=some o:=W.of_hideAll (trk h H) e;erw[a,?_]
 cases q:H b with
 |none=>rfl
 |some x =>
  have c:b∈trk h H:=cR.mpr #[cG.mpr (bE a),by simp[q]];have z:(ypo h H).get? b=none:=W.hideAll_none (trk h H) c;rw[z]at e;cases e
noncomputable def yvj(g h:qg)(L:qa):Θ:=(List.range h.objs.size).filterMap λa=>if a=L\/(g.get? a).isSome=true then none else (h.get? a).map λo=>(a,o)
def w8(g h:qg)(L d:qa):Θ:=(yvj g h L).filter λp=>decide (p.1≠d)
structure Mod(K:xy)(mg:Ε)(base:qg):Prop where
 kin:K.In base
 glob:base.Ns mainGlobals mg
 blt:∃mb,base.Ns builtinsNs mb/\∀x:Str,x≠"__name__"->mb x=bootBuiltins x
 nolimit:base.NoLimit
structure Cx where
 prog:qi
 w:qe
 K:xy
 mg:Ε
 base:qg
 A:qf
 N:Ρ
 s₀:qb
 H₀:Hp
 env:Env
 outer:qj Env
 stack:qj Env
 ex:Φ
 fn:Str->Bool
 calm:Bool
 pn:Θ
 xe:Δ
variable{X:Cx}
noncomputable def frs(l:qj Env):Φ:=l.filterMap (·.frame)
abbrev Cx.fs(X:Cx):Φ:=frs X.outer
def Vis(sc:Scope)(x:Str):Prop:=sc.names.lookup x=some .local\/sc.names.lookup x=some .cell\/sc.names.lookup x=some .free
def Loc(sc:Scope)(x:Str):Prop:=sc.names.lookup x=some .local\/sc.names.lookup x=some .cell
def vj3(env:Env)(h:qg)(m:Ε)(x:Str)(u:qc):Prop :=
 (env.kindOf x=some .local/\m x=some u)\/((env.kindOf x=some .cell\/env.kindOf x=some .free)/\∃c,env.cells.lookup x=some c/\h.IsCell c (some u))
structure Cx.Ok(X:Cx):Prop where
 mod:Mod X.K X.mg X.base
 kind:X.env.scope.kind=.function
 glob:X.env.globals=mainGlobals
 blt:X.env.builtins=builtinsNs
 above:X.s₀.heap.objs.size<=X.env.locals
 inj:∀x y c,X.env.cells.lookup x=some c->X.env.cells.lookup y=some c->x=y
 has:∀x,(X.env.kindOf x=some .cell\/X.env.kindOf x=some .free)->∃c,X.env.cells.lookup x=some c
 cab:∀x c,X.fn x=true->X.env.cells.lookup x=some c->X.s₀.heap.objs.size<=c
 hd:X.calm=true->X.A.handled=none
 frames:X.A.frames=some X.stack
 stk:X.stack=X.outer\/(X.stack=X.env::X.outer/\X.env.frame=some X.env.locals)
 exf:∀b∈X.ex,b≠X.env.locals/\∀x c,X.env.cells.lookup x=some c->c≠b
 bs:∀b o,X.base.get? b=some o->X.s₀.heap.get? b=some o/\X.H₀ b=none
 bsz:X.base.objs.size<=X.s₀.heap.objs.size
 noex:∀b o,X.base.get? b=some o->b∉X.ex
 exfs:∀b∈X.ex,b∉X.fs
 funs:X.s₀.heap.FunFrames X.base X.outer
 frf:∀b∈X.fs,X.H₀ b=none
structure Inv(X:Cx)(pins:Θ)(σ:qj (ql V))(H:Hp)(s:qb):Prop where
 ok:X.Ok
 os:s.os=X.s₀.os
 bare:AllBare s.gens
 base:Un X.fs X.ex X.H₀ H X.s₀.heap s.heap
 loc:∃m,s.heap.Ns X.env.locals m/\∀(i:Nat)(x:Str)(v:V),X.N[i]?=some x->σ[i]?=some (some v)->Vis X.env.scope x->∃u,ub v u/\vj3 X.env s.heap m x u
 cell:∀x c,X.env.cells.lookup x=some c->∃v,s.heap.IsCell c v
 free:H X.env.locals=none
 freeC:∀x c,X.env.cells.lookup x=some c->H c=none
 pin:∀p∈X.pn++pins,s.heap.get? p.1=some p.2/\H p.1=none/\p.1≠X.env.locals/\p.1∉X.fs/\∀v,p.2.data≠.cell v
 hok:HOk X.prog X.w H s.heap
 len:σ.length=X.N.length
end
section
mutual
variable{σ:qj (ql V)}{s:qb}
def Cx.Ok.nofr(ok:X.Ok){b:qa}{o:Obj}(e:X.base.get? b=some o):b∉X.fs:=λa=>by
 have:=(ok.funs.mem a).1;rw[e]at this;cases this
theorem Inv.bs(I:'i' s):∀b o,X.base.get? b=some o->s.heap.get? b=some o/\H b=none:=λb o e =>
 #[I.base.keep b o (I.ok.bs b o e).1 (I.ok.bs b o e).2 (I.ok.nofr e) (I.ok.noex b o e),I.base.free b o (I.ok.bs b o e).1 (I.ok.bs b o e).2 (I.ok.noex b o e)]
def Inv.bk(I:'i' s):∀b o,X.base.get? b=some o->s.heap.get? b=some o:=λb o e=>(I.bs b o e).1
theorem Inv.mod(I:'i' s):Mod X.K X.mg X.base:=I.ok.mod
def Inv.kIn(I:'i' s):X.K.In s.heap:=I.ok.mod.kin.keeps I.bk
theorem Inv.lt(I:'i' s):X.env.locals<'n':=let ⟨_,hn,_⟩:=I.loc;hn.lt
def Inv.sz(I:'i' s):X.s₀.heap.objs.size<='n':=ck I.ok.above (Nat.le_of_lt I.lt)
def Inv.nofs(I:'i' s)(h:'n'<=a):a∉X.fs:=λc=>by
 let#[_,o,b,_]:=I.ok.funs.mem c;erw[absurd (bZ (bE b) (ck I.sz h)) (cU _)]
def Inv.cne(I:'i' s):∀x c,X.env.cells.lookup x=some c->c≠X.env.locals:=λx c e z=>by
 let#[v,o,f,d]:=I.cell x c e;let#[m,#[i,h,g,b,a,_],_]:=I.loc;rw[z,b]at f;cases f;rw[a]at d;cases d
theorem Inv.funs(I:'i' s):s.heap.FunFrames X.base X.outer:=by
 have c:∀(l:qj Env),(∀b∈frs l,b∈X.fs)->X.s₀.heap.FunFrames X.base l->s.heap.FunFrames X.base l:=by
  intro l
  induction l with
  |nil=>intro _ _;trivial
  |cons env r ih =>
   intro g k;let#[i,#[L,o,a,n,j,h],m]:=k;have f:L∈X.fs:=g L (by unfold frs;rwa[List.filterMap_cons,a,cj]);let#[p,e]:=I.base.slot L o j (I.ok.frf L f) f λz=>I.ok.exfs L z f;erw[i,#[L,_,a,n,e,h],ih (λb d=>g b (by unfold frs;rwa[List.filterMap_cons,a,cg _ d])) m]
 erw[c X.outer (λZ d=>d) I.ok.funs]
theorem Inv.stack(I:'i' s):s.heap.FunFrames X.base X.stack:=by
 rcases I.ok.stk with e|⟨e,a⟩
 .rw[e];erw[I.funs]
 .rw[e];let#[m,b,_]:=I.loc;erw[.cons (by rw[I.ok.kind];decide) a b ?_ I.funs,<-Heap.get?_none_of_le (ck I.ok.bsz I.ok.above)]
def Inv.stkSub(I:'i' s):∀b∈frs X.stack,b∈X.env.locals::X.fs:=λb a=>by
 rcases I.ok.stk with e|⟨e,c⟩
 .rw[e]at a;erw[cg _ a]
 .rw[e]at a;unfold frs at a;rw[List.filterMap_cons,c]at a;erw[a]
def Inv.stkFree(I:'i' s):∀b∈frs X.stack,H b=none:=λb a=>by
 rcases bH.mp (I.stkSub b a)with e|a
 .rw[e];erw[I.free]
 .let#[_,o,c,_]:=I.ok.funs.mem a;erw[I.base.free b o c (I.ok.frf b a) λz=>I.ok.exfs b z a]
def Inv.step{g':Array GenState}{d':Drawn}{ch:Φ}(I:'i' s)
  (hch:∀b∈ch,(b∈X.ex\/X.s₀.heap.objs.size<=b)/\b≠X.env.locals/\(∀x c,X.env.cells.lookup x=some c->c≠b)/\∀p∈X.pn++pins,p.1≠b)
  (keep:∀b o,b≠X.env.locals->b∉X.fs->b∉ch->s.heap.get? b=some o->H b=none->h'.get? b=some o)
  (slot:∀b o,b≠X.env.locals->b∈X.fs->b∉ch->s.heap.get? b=some o->H b=none->∃sl,h'.get? b=some {o with slots:=sl}) (free:∀b o,b∉ch->s.heap.get? b=some o->H b=none->H' b=none)
  (there:∀b o,b∉ch->s.heap.get? b=some o->∃o',h'.get? b=some o')
  (tups:∀b xs,H b∪xs->H' b∪xs) (frzs:∀b o u,H b=some (.frz o u)->H' b=some (.frz o u)) (tbls:∀b ps,H b=some (.tbl ps)->∃more,H' b=some (.tbl (ps++more)))
  (ns:∀m,s.heap.Ns X.env.locals m->h'.Ns X.env.locals m) (hok:HOk X.prog X.w H' h') (hg:AllBare g'):
  Inv X pins σ H' {s with heap:=h',gens:=g',drawn:=d',toks:=t'}:=by
 have A:∀b o,X.s₀.heap.get? b=some o->b≠X.env.locals:=λb o e=>bY (bZ (bE e) I.ok.above)
 have j:∀b o,X.s₀.heap.get? b=some o->b∉X.ex->b∉ch:=λb o e a t=>by
  rcases (hch b t).1 with z|z
  .erw[a z]
  .erw[absurd (bZ (bE e) z) (cU _)]
 have f:∀x c,X.env.cells.lookup x=some c->∀v,s.heap.IsCell c v->h'.IsCell c v:=λx c e v ⟨o,y,C⟩=>by
  have g:c∉ch:=λz=>(hch c z).2.2.1 x c e J;by_cases hc:c∈X.fs
  .let#[sl,q]:=slot c o (I.cne x c e) hc g y (I.freeC x c e);exists _,q,C
  .erw[o,keep c o (I.cne x c e) hc g y (I.freeC x c e),C]
 erw[I.ok,I.os,hg,#[λb o e n t a=>?_,λb o e n t a=>?_,λb o e n a=>?_,λb o e a=>?_,λb xs e=>tups b xs (I.base.tups b xs e),λb o xs e=>frzs b o xs (I.base.frzs b o xs e),λb ps e=>?_],?_,λx c e=>?_,?_,λx c e=>?_,λp F=>?_,hok,I.len]
 .erw[keep b o (A b o e) t (j b o e a) (I.base.keep b o e n t a) (I.base.free b o e n a)]
 .let#[sl,h]:=I.base.slot b o e n t a;let#[D,B]:=slot b _ (A b o e) t (j b o e a) h (I.base.free b o e n a);erw[D,B]
 .let#[o',h]:=I.base.there b o e a;erw[free b o' (j b o e a) h (I.base.free b o e n a)]
 .let#[o',h]:=I.base.there b o e a;erw[there b o' (j b o e a) h]
 .let#[L,h]:=I.base.tbls b ps e;let#[ς,B]:=tbls b _ h;erw[L++ς,by rw[B,Array.append_assoc]]
 .let#[m,M,K]:=I.loc;erw[m,ns m M,λi x v h B N=>?_];let#[u,r,l]:=K i x v h B N;erw[u,r,?_];rcases l with l|⟨k,c,e,z⟩
  .erw[.inl l]
  .erw[.inr #[k,c,e,f x c e _ z]]
 .let#[v,z]:=I.cell x c e;erw[v,f x c e v z]
 .let#[m,#[o,_,_,y,_],_]:=I.loc;erw[free _ o (λz=>(hch _ z).2.1 rfl) y I.free]
 .let#[v,o,y,C]:=I.cell x c e;erw[free c o (λz=>(hch c z).2.2.1 x c e J) y (I.freeC x c e)]
 .let#[e,n,E,G,d]:=I.pin p F;have g:p.1∉ch:=λz=>(hch p.1 z).2.2.2 p F J;erw[keep p.1 p.2 E G g e n,free p.1 p.2 g e n,E,G,d]
def Inv.un(I:'i' s)(u:Un X.fs [] H H' s.heap h')(hok:HOk X.prog X.w H' h'):Inv X pins σ H' {s with heap:=h',toks:=t'}:=by
 let#[m,#[o,p,k,g,r],_]:=id I.loc;let#[l,j]:=u.any g I.free 's'
 erw[I.step (g':=s.gens) (d':=s.drawn) (ch:=[]) (λZ z=>nomatch z) (λb o Z d Z e n=>u.keep b o e n d 's') (λb o Z d Z e n=>u.slot b o e n d 's') (λb o Z e n=>u.free b o e n 's') (λb o Z e=>u.there b o e 's') u.tups u.frzs u.tbls (λt h=>by
  let#[q,f,c,a,i]:=h;rw[g]at a;cases a;erw[_,f,c,j,i]) hok I.bare]
def Inv.call{g':Array GenState}{d':Drawn}{ch:Φ}(I:'i' s)(u:Un (frs X.stack) ch H H' s.heap h')(hok:HOk X.prog X.w H' h')(hg:AllBare g')
  (hch:∀b∈ch,(b∈X.ex\/X.s₀.heap.objs.size<=b)/\b≠X.env.locals/\(∀x c,X.env.cells.lookup x=some c->c≠b)/\∀p∈X.pn++pins,p.1≠b):
  Inv X pins σ H' {s with heap:=h',gens:=g',drawn:=d',toks:=t'}:=by
 let#[m,#[o,v,q,i,r],_]:=id I.loc;let#[t,g]:=u.any i I.free λz=>(hch _ z).2.1 rfl
 erw[I.step (ch:=ch) hch (λb o g l a e n=>u.keep b o e n (λz=>(bH.mp (I.stkSub b z)).elim g l) a) (λb o Z Z a e n=>u.any e n a) (λb o a e n=>u.free b o e n a) (λb o a e=>u.there b o e a) u.tups u.frzs u.tbls (λA j=>by
  let#[y,h,f,d,k]:=j;rw[i]at d;cases d;erw[_,h,f,g,k]) hok hg]
def Inv.turned{it:qa}(I:'i' s)(k:∀b o,b≠it->s.heap.get? b=some o->h'.get? b=some o)(hn:H it=none)(hL:it≠X.env.locals)
  (h1:it∈X.ex\/X.s₀.heap.objs.size<=it) (h2:∀x c,X.env.cells.lookup x=some c->c≠it) (h3:∀p∈X.pn++pins,p.1≠it):'i' {s with heap:=h',toks:=t'}:=by
 have d:∀b u,H b=some u->b≠it:=λb u e z=>by rw[z,hn]at e;cases e
 refine I.step (g':=s.gens) (d':=s.drawn) (ch:=[it]) (λb j=>?_) (λb o Z Z a e Z=>k b o (λz=>a (by simp[z])) e) (λb o Z Z a e Z=>#[o.slots,k b o (λz=>a (by simp[z])) e]) (λZ Z Z Z n=>n)
  (λb o a e=>#[o,k b o (λz=>a (by simp[z])) e]) (λZ Z e=>e) (λZ Z Z e=>e) (λb l e=>#[#[],by rw[e];simp]) (λm f=>?_) (λb u e=>?_) I.bare
 .have e:b=it:=by simpa using j
  subst e;erw[h1,hL,h2,h3]
 .let#[o,i,g,h,r]:=f;erw[o,i,g,k _ o (Ne.symm hL) h,r]
 .erw[(I.hok b u e).stay (λc v a q=>k c v ?_ q) (λZ q=>q) λZ Z q=>q];rcases a with z|z
  .rw[z];erw[d b u e]
  .erw[d c _ z]
def Inv.tok(I:'i' s)(t:Nat):'i' {s with toks:=t}:=I.un (h':=s.heap) (t':=t) Un.refl I.hok
theorem Inv.kept(I:'i' s)(k:∀b u,s.heap.get? b=some u->h'.get? b=some u):'i' {s with heap:=h',toks:=t'}:=I.un (Un.kept k) (I.hok.kept k)
theorem Inv.laid{o:HO}(I:'i' s)(k:∀b u,s.heap.get? b=some u->h'.get? b=some u)(hp:'n'<=a)(new:xn X.prog X.w (upd H a o) h' a o):
  Inv X pins σ (upd H a o) {s with heap:=h',toks:=t'}:=I.un (Un.laid k hp (I.hok.fresh hp)) (I.hok.laid k hp new)
theorem Inv.write{x e:qa}{o:HO}(I:'i' s)(mu:Mut (H x))(he:e=x\/H e=some (.own x))(k:∀b u,b≠e->s.heap.get? b=some u->h'.get? b=some u)(heo:∃u,h'.get? e=some u)
  (new:xn X.prog X.w (upd H x o) h' x o):Inv X pins σ (upd H x o) {s with heap:=h',toks:=t'}:=I.un (Un.write mu he k heo) (I.hok.write mu he k heo new)
def Inv.pins_of{pins':Θ}(I:'i' s)(h:∀p∈pins',s.heap.get? p.1=some p.2/\H p.1=none/\p.1≠X.env.locals/\p.1∉X.fs/\∀v,p.2.data≠.cell v):Inv X pins' σ H s :=
 #[I.ok,I.os,I.bare,I.base,I.loc,I.cell,I.free,I.freeC,λp a=>(bQ.mp a).elim (λz=>I.pin p (cN _ z)) (h p),I.hok,I.len]
def yay{N:Ρ}(hN:N.Nodup){j:Nat}(a:N[i]?=some x)(b:N[j]?=some x):i=j:=by let#[e,d]:=bJ.mp a;let#[f,c]:=bJ.mp b;erw[(List.getElem_inj hN).mp (d.trans c.symm)]
def ê{A:qf}{Q:Unit->qb->Prop}(I:'i' s)(hN:X.N.Nodup)(hi:X.N[i]?=some x)(hx:Loc X.env.scope x)(r:ub v u)
  (h:∀s',Inv X pins (σ.set i (some v)) H s'->(∃a,Heap.SameBut a s.heap s'.heap/\(a=X.env.locals\/X.env.cells.lookup x=some a))->Q ⟨⟩ s') (hf:autoParam (X.fn x=true\/X.env.scope.names.lookup x=some .local) aF._auto_1):wpAny M A (storeName X.env x u) Q E s:=by
 let#[m,hn,hl]:=id I.loc;have R:(X.env.scope.kind == .class || (X.env.scope.kind == .module && X.env.locals != X.env.globals))=false:=by rw[I.ok.kind];rfl
 have hiσ:i<σ.length:=by rwa[I.len,(bJ.mp hi).1]
 let G:=I.cne
 have g:∀{a:qa}{K:qg},(∃o,s.heap.get? a=some o/\H a=none)->Heap.SameBut a s.heap K->HOk X.prog X.w H K:=λ{a K}ha f b ob e=>by
  let#[_,_,B]:=ha;erw[(I.hok b ob e).stay (λc S t q=>(f.2 c ?_).trans q) (λN q=>q) λN N q=>q];rintro rfl;rcases t with rfl|t
  .rw[B]at e;cases e
  .rw[B]at t;cases t
 rcases hx with D|D
 .erw[wpAny_storeName_local D hn (λK a0 f=>?_) R];let#[oL,_,_,a1,_]:=id hn;refine h _ #[I.ok,I.os,I.bare,#[λb o e n F hx=>?_,λb o e n F hx=>?_,I.base.free,λb o e hx=>?_,I.base.tups,I.base.frzs,I.base.tbls],#[_,a0,λj y Y l C e3=>?_],λy c e=>?_,I.free,I.freeC,λp hp=>?_,g #[oL,a1,I.free] f,by simpa using I.len] #[_,f,.inl J]
  .erw[(f.2 b (bY (bZ (bE e) I.ok.above))).trans (I.base.keep b o e n F hx)]
  .let#[Z,l]:=I.base.slot b o e n F hx;erw[Z,(f.2 b (bY (bZ (bE e) I.ok.above))).trans l]
  .let#[o',l]:=I.base.there b o e hx;erw[o',(f.2 b (bY (bZ (bE e) I.ok.above))).trans l]
  .by_cases hj:j=i
   .subst hj;rw[hi]at l;cases l;rw[List.getElem?_set_self hiσ]at C;cases C;erw[u,r,.inl #[D,'s']]
   .rw[List.getElem?_set_ne (Ne.symm hj)]at C;let#[u',W,q]:=hl j y Y l C e3;erw[u',W,?_];rcases q with⟨k,e⟩|⟨k,c,e,z⟩
    .erw[.inl #[k,?_]];have:y≠x:=λe=>hj (yay hN l (e ▸ hi));simp[this,e]
    .erw[.inr #[k,c,e,z.sameBut f (G y c e)]]
  .let#[S,z]:=I.cell y c e;erw[S,z.sameBut f (G y c e)]
  .let#[e,n,U,nf,d]:=I.pin p hp;erw[(f.2 p.1 U).trans e,n,U,nf,d]
 .have ς:X.fn x=true:=by
   rcases hf with z|z
   .erw[z]
   .rw[z]at D;cases D
  let#[c,t]:=I.ok.has x (.inl D);let#[S,z]:=I.cell x c t;erw[wpAny_storeName_cell I.ok.kind D t z (λK P f=>?_)];let#[oc,L,O]:=id z;erw[h {s with heap:=K} #[I.ok,I.os,I.bare,#[λb o e n F hx=>?_,λb o e n F hx=>?_,I.base.free,λb o e hx=>?_,I.base.tups,I.base.frzs,I.base.tbls],#[m,hn.sameBut f (Ne.symm (G x c t)),λj y Y l C e3=>?_],λy T e=>?_,I.free,I.freeC,λp hp=>?_,g #[oc,L,I.freeC x c t] f,by simpa using I.len] #[c,f,.inr t]]
  .erw[(f.2 b (bY (bZ (bE e) (I.ok.cab x c ς t)))).trans (I.base.keep b o e n F hx)]
  .let#[Z,l]:=I.base.slot b o e n F hx;erw[Z,(f.2 b (bY (bZ (bE e) (I.ok.cab x c ς t)))).trans l]
  .let#[o',l]:=I.base.there b o e hx;erw[o',(f.2 b (bY (bZ (bE e) (I.ok.cab x c ς t)))).trans l]
  .by_cases hj:j=i
   .subst hj;rw[hi]at l;cases l;rw[List.getElem?_set_self hiσ]at C;cases C;erw[u,r,.inr #[.inl D,c,t,P]]
   .rw[List.getElem?_set_ne (Ne.symm hj)]at C;let#[u',W,q]:=hl j y Y l C e3;erw[u',W,?_];rcases q with q|⟨k,T,e,z'⟩
    .erw[.inl q]
    .erw[.inr #[k,T,e,z'.sameBut f ?_]];rintro rfl;erw[hj (yay hN l (I.ok.inj _ _ _ e t ▸ hi))]
  .by_cases hcc:T=c
   .subst hcc;erw[_,P]
   .let#[w2,z2]:=I.cell y T e;erw[w2,z2.sameBut f hcc]
  .let#[e,n,U,nf,d]:=I.pin p hp;erw[(f.2 p.1 ?_).trans e,n,U,nf,d];intro q;rw[q,L]at e;have q':oc=p.2:=bL e;erw[d S (by rwa[<- q',O])]
def Ģ{A:qf}{Q:Unit->qb->Prop}(I:'i' s)(hN:X.N.Nodup)(hi:X.N[i]?=some x)(hx:Loc X.env.scope x)(r:ub v u)
  (h:∀s',Inv X pins (σ.set i (some v)) H s'->Q ⟨⟩ s') (hf:autoParam (X.fn x=true\/X.env.scope.names.lookup x=some .local) aF._auto_1):wpAny M A (storeName X.env x u) Q E s :=
 ê I hN hi hx r (λs' a Z=>h s' a) hf
def Inv.call'{ch:Φ}(I:'i' s)(ho:s'.os=s.os)(u:Un (frs X.stack) ch H H' s.heap s'.heap)(hok:HOk X.prog X.w H' s'.heap)(hg:AllBare s'.gens)
  (hch:∀b∈ch,(b∈X.ex\/X.s₀.heap.objs.size<=b)/\b≠X.env.locals/\(∀x c,X.env.cells.lookup x=some c->c≠b)/\∀p∈X.pn++pins,p.1≠b):Inv X pins σ H' s':=by let#[d,g',d',t',a]:=s';have e:a=s.os:=ho;subst e;erw[I.call (g':=g') (t':=t') (d':=d') u hok hg hch]
end
end
mutual
abbrev XK:=qc->ql qa->Hp->Prop
abbrev St:=qj (ql V)
abbrev _root_.Ζ:=St->Hp->Prop
variable{σ:St}
abbrev VK:=V->Hp->Prop
abbrev TE:=St->Hp->VK->Prop
variable{ta te:TE}
abbrev TT:=St->Hp->(Bool->Hp->Prop)->Prop
abbrev TA:=St->Hp->(qj V->Hp->Prop)->Prop
structure ã where
 nx:Ζ
 rt:VK
 bk:Ζ:=λZ Z=>False
 ct:Ζ:=λZ Z=>False
abbrev TS:=ã->St->Hp->Prop
def EP(X:Cx)(pins:Θ)(σ:St)(Q:VK)(u:qc)(s':qb):Prop:=∃v H',Inv X pins σ H' s'/\ub v u/\Q v H'
def TP(X:Cx)(pins:Θ)(σ:St)(Q:Bool->Hp->Prop)(b:Bool)(s':qb):Prop:=∃H',Inv X pins σ H' s'/\Q b H'
def AP(X:Cx)(pins:Θ)(σ:St)(Q:qj V->Hp->Prop)(us:Ξ)(s':qb):Prop:=∃vs H',Inv X pins σ H' s'/\xc vs us/\Q vs H'
def SP(X:Cx)(pins:Θ)(D:ã)(f:Flow)(s':qb):Prop :=
 match f with
 | .next=>∃σ' H',Inv X pins σ' H' s'/\D.nx σ' H'
 | .brk=>∃σ' H',Inv X pins σ' H' s'/\D.bk σ' H'
 | .cont=>∃σ' H',Inv X pins σ' H' s'/\D.ct σ' H'
 | .ret u=>∃v σ' H',Inv X pins σ' H' s'/\ub v u/\D.rt v H'
structure PE(X:Cx)(e:qh)(t:TE):Prop where
 go:∀(pins:Θ)(s:qb)(σ:St)(H:Hp)(Q:VK),'i' s->t σ H Q->'w' (eval e X.env) (EP X pins σ Q) X.xe s
instance {X:Cx}{e:qh}{t:TE}:CoeFun (PE X e t) (λZ=>∀(pins:Θ)(s:qb)(σ:St)(H:Hp)(Q:VK),'i' s->t σ H Q->'w' (eval e X.env) (EP X pins σ Q) X.xe s):=⟨PE.go⟩
structure PT(X:Cx)(e:qh)(t:TT):Prop where
 go:∀(pins:Θ)(s:qb)(σ:St)(H:Hp)(Q:Bool->Hp->Prop),'i' s->t σ H Q->'w' (isTrue e X.env (eval e X.env)) (TP X pins σ Q) X.xe s
instance {X:Cx}{e:qh}{t:TT}:CoeFun (PT X e t) (λZ=>∀(pins:Θ)(s:qb)(σ:St)(H:Hp)(Q:Bool->Hp->Prop),'i' s->t σ H Q->'w' (isTrue e X.env (eval e X.env)) (TP X pins σ Q) X.xe s):=⟨PT.go⟩
def PW(X:Cx)(e:qh)(t:TT):Prop :=
 ∀(whole:Sem qc)(pins:Θ)(s:qb)(σ:St)(H:Hp)(Q:Bool->Hp->Prop),'i' s->t σ H Q->'w' (isTrue e X.env whole) (TP X pins σ Q) X.xe s
def PW.pt{e:qh}{t:TT}(h:PW X e t):PT X e t:=⟨h _⟩
structure PA(X:Cx)(es:qj qh)(t:TA):Prop where
 go:∀(pos:Pos)(pins:Θ)(s:qb)(σ:St)(H:Hp)(Q:qj V->Hp->Prop),'i' s->t σ H Q->'w' (spliced (backTo pos (starEach es X.env))) (AP X pins σ Q) X.xe s
instance {X:Cx}{es:qj qh}{t:TA}:CoeFun (PA X es t) (λZ=>∀(pos:Pos)(pins:Θ)(s:qb)(σ:St)(H:Hp)(Q:qj V->Hp->Prop),'i' s->t σ H Q->'w' (spliced (backTo pos (starEach es X.env))) (AP X pins σ Q) X.xe s):=⟨PA.go⟩
structure PS(X:Cx)(st:qd)(t:TS):Prop where
 go:∀(pins:Θ)(s:qb)(σ:St)(H:Hp)(D:ã),'i' s->t D σ H->'w' (exec st X.env) (SP X pins D) X.xe s
instance {X:Cx}{st:qd}{t:TS}:CoeFun (PS X st t) (λZ=>∀(pins:Θ)(s:qb)(σ:St)(H:Hp)(D:ã),'i' s->t D σ H->'w' (exec st X.env) (SP X pins D) X.xe s):=⟨PS.go⟩
structure PSs(X:Cx)(st:qj qd)(t:TS):Prop where
 go:∀(pins:Θ)(s:qb)(σ:St)(H:Hp)(D:ã),'i' s->t D σ H->'w' (execs st X.env) (SP X pins D) X.xe s
instance {X:Cx}{st:qj qd}{t:TS}:CoeFun (PSs X st t) (λZ=>∀(pins:Θ)(s:qb)(σ:St)(H:Hp)(D:ã),'i' s->t D σ H->'w' (execs st X.env) (SP X pins D) X.xe s):=⟨PSs.go⟩
def thn{α:Type}{t:Sem α}{Q Q':α->qb->Prop}{A:qf}{s:qb}(h:wpAny M A t Q E s)(hQ:∀a s,Q a s->Q' a s):wpAny M A t Q' E s:=cr h hQ λZ Z x=>x
end
section
mutual
def yxc(i:Nat):TE:=λσ H Q=>∃v,σ[i]?=some (some v)/\Q v H
def tC(v:V):TE:=λZ H Q=>Q v H
def yme{pos:Pos}(hN:X.N[i]?=some x)(hv:Vis X.env.scope x)(hd:⇑'d')(hcd:⇑((x == ("__classdict__":Str))=false)):PE X (.Name x pos) (yxc i):=by
 erw[.mk λf s σ H Q I h=>?_];let#[v,e,h]:=h;let#[m,n,k]:=I.loc;let#[u,r,l]:=k i x v hN e hv;have d:EP X f σ Q u s:=#[v,H,I,r,h];rcases l with⟨b,j⟩|⟨b,c,g,a⟩
 .erw[wpAny_Name (wpAny_loadName_local I.ok.kind b n j d) hd]
 .rcases b with b|b
  .erw[wpAny_Name (wpAny_loadName_cell I.ok.kind b g a d) hd]
  .erw[wpAny_Name (wpAny_loadName_free I.ok.kind b g a d hcd) hd]
def yd{i j pos}:PE X (.Constant (.int i) j pos) (tC (.int i)):=.mk λZ Z Z H Z I h=>wpAny_Constant_int #[.int i,H,I.tok _,#[_,J],h]
def χ{b j pos}:PE X (.Constant (.bool b) j pos) (tC (.bl b)):=.mk λZ Z Z H Z I h=>Constant_bool #[.bl b,H,I,J,h]
def uq{j pos}:PE X (.Constant .none j pos) (tC .non):=.mk λZ Z Z H Z I h=>Constant_none #[.non,H,I,J,h]
def yr{x j pos}:PE X (.Constant (.str x) j pos) (tC (.str x)):=.mk λZ Z Z H Z I h=>Calls.Constant_str #[.str x,H,I.tok _,#[_,J],h]
def Gl(X:Cx)(x:Str):Prop:=X.env.kindOf x=some .globalImplicit
def jx{s:qb}{pos:Pos}(I:'i' s)(hg:Gl X x)(hm:X.mg x=some u)(h:Q u s)
  (hd:⇑'d'):'w' (eval (.Name x pos) X.env) Q E s :=
 Calls.Name_function_global I.ok.kind hg (Calls.loadGlobal_global (by rwa[I.ok.glob,I.mod.glob.keeps I.bk]) hm h) hd
def Ŋ{s:qb}{pos:Pos}(I:'i' s)(hg:Gl X x)(hm:X.mg x=none)(hv:bootBuiltins x=some u)(h:Q u s)
  (hn:⇑(x≠"__name__")) (hd:⇑'d'):'w' (eval (.Name x pos) X.env) Q E s:=by let#[c,a,b]:=I.mod.blt;erw[Calls.Name_function_global I.ok.kind hg (Calls.loadGlobal_builtin (by rwa[I.ok.glob,I.mod.glob.keeps I.bk]) hm (by rwa[I.ok.blt,a.keeps I.bk]) ((b x hn).trans hv) h) hd]
def yfa{pos:Pos}(hg:Gl X x)(hm:X.mg x=some u)(r:ub v u)(hd:⇑'d'):PE X (.Name x pos) (tC v):=.mk
 λZ Z Z H Z I h=>jx I hg hm #[v,H,I,r,h] hd
def yuw{pos:Pos}(hg:Gl X x)(hm:X.mg x=none)(hv:bootBuiltins x=some u)(r:ub v u)(hn:⇑(x≠"__name__"))(hd:⇑'d'):PE X (.Name x pos) (tC v):=.mk
 λZ Z Z H Z I h=>Ŋ I hg hm hv #[v,H,I,r,h] hn hd
variable{a b:qh}{tb:TE}{pos:Pos}
def PC(X:Cx)(op:CmpOp)(a b:qh)(t:TE):Prop :=
 ∀(pins:Θ)(s:qb)(σ:St)(H:Hp)(Q:VK),'i' s->t σ H Q ->
  wpAny (model X.prog X.w) X.A (eval a X.env) (λv s₁=>'w' (eval b X.env) (λu s₂=>'w' (compareOp op v u) (EP X pins σ Q) X.xe s₂) X.xe s₁) X.xe s
def tB(t:TE):TT:=λσ H Q=>t σ H λx H1=>∃c,x=.bl c/\Q c H1
def ymo{t:TE}(h:PC X op a b t)(h1:behindInMarks op b=false:=by first|erw[nobehind _ ∅ ∅]|rfl):PT X (.Compare a [op] [b] pos) (tB t):=by refine .mk λe s σ H Q I f=>?_;erw[wpAny_isTrue_Compare1 (thn (h e s σ H _ I f) λv o h1=>thn h1 λu n i=>thn i λc m h'=>?_) h1];let#[x,g,l,j,k]:=h';let#[d,J,q]:=k;cases j;erw[cI #[g,l,q]]
def xm{e:qh}{t:TE}(h:PE X e t)(he:autoParam (∀whole,isTrue e X.env whole=(do let v <- whole;standAt e.pos;holding [v] (truthy v))) aD._auto_1):PT X e (tB t):=by refine .mk λa s σ H Q I b=>?_;erw[isTrue_plain (thn (h a s σ H _ I b) λv j h'=>?_) (he _)];let#[x,c,i,f,g]:=h';let#[d,J,q]:=g;cases f;erw[cI #[c,i,q]]
variable{tA tB':TT}{w8:qj qh}
def vix(t u:TT):TT:=λσ H Q=>t σ H λc H1=>if c=true then u σ H1 Q else Q false H1
def tOr(t u:TT):TT:=λσ H Q=>t σ H λc H1=>if c=true then Q true H1 else u σ H1 Q
def vjl(t:TT):TT:=λσ H Q=>t σ H λc H1=>Q (!c) H1
def Ĉ(ha:PT X a tA):PW X (.BoolOp .And [a] pos) tA:=by
 intro f b s σ H Q I h;erw[isTrue_and (thn (ha b s σ H Q I h) λc d e=>?_)]
 cases c with
 |true=>erw[isTrue_and_nil e]
 |false=>erw[e]
def Đ(ha:PT X a tA):PW X (.BoolOp .Or [a] pos) tA:=by
 intro f b s σ H Q I h;erw[isTrue_or (thn (ha b s σ H Q I h) λc d e=>?_)]
 cases c with
 |false=>erw[isTrue_or_nil e]
 |true=>erw[e]
def Ų(ha:PT X a tA)(hb:PW X (.BoolOp .And (b::w8) pos) tB'):PW X (.BoolOp .And (a::b::w8) pos) (vix tA tB'):=by
 intro i d s σ H Q I h;erw[isTrue_and (thn (ha d s σ H _ I h) λc j ⟨e,g,f⟩=>?_)]
 cases c with
 |true=>erw[hb i d j σ e Q g f]
 |false=>erw[e,g,f]
def Ę(ha:PT X a tA)(hb:PW X (.BoolOp .Or (b::w8) pos) tB'):PW X (.BoolOp .Or (a::b::w8) pos) (tOr tA tB'):=by
 intro i d s σ H Q I h;erw[isTrue_or (thn (ha d s σ H _ I h) λc j ⟨e,g,f⟩=>?_)]
 cases c with
 |true=>erw[e,g,f]
 |false=>erw[hb i d j σ e Q g f]
def ue(ha:PT X a tA):PT X (.UnaryOp .Not a pos) (vjl tA):=by refine .mk λb s σ H Q I h=>?_;erw[isTrue_not (ha b s σ H (λc d=>Q (!c) d) I h)]
def vdi(ta tb:TE):TE:=λσ H Q=>ta σ H λx H1=>∃c,x=.bl c/\if c=true then tb σ H1 Q else Q (.bl false) H1
def veh(ta:TE):TE:=λσ H Q=>ta σ H λx H1=>∃c,x=.bl c/\Q (.bl (!c)) H1
def Õ{op}{t:TE}(h:PE X a t):PE X (.BoolOp op [a] pos) t:=.mk λb s σ H Q I c=>BoolOp_one (h b s σ H Q I c)
def jr(ha:PE X a ta)(hb:PE X (.BoolOp .And (b::w8) pos) tb):PE X (.BoolOp .And (a::b::w8) pos) (vdi ta tb):=by
 erw[.mk λd s σ H Q I h=>?_,<-BoolOp_and (thn (ha d s σ H _ I h) λv j h'=>?_)];let#[x,f,g,i,e]:=h';let#[c,J,e]:=e;cases i;erw[cI ?_]
 cases c with
 |true=>erw[hb d j σ f Q g e]
 |false=>erw[.bl false,f,g,J,e]
def vbj(ha:PE X a ta):PE X (.UnaryOp .Not a pos) (veh ta):=by refine .mk λb s σ H Q I h=>?_;erw[UnaryOp_ (thn (ha b s σ H _ I h) λv i h'=>?_)];let#[x,e,g,f,d]:=h';let#[c,J,d]:=d;cases f;erw[not_of (cI #[.bl (!c),e,g,J,d])]
def tIf(t:TT)(ta tb:TE):TE:=λσ H Q=>t σ H λc H1=>if c=true then ta σ H1 Q else tb σ H1 Q
def Í{c:qh}(hc:PT X c tA)(ha:PE X a ta)(hb:PE X b tb):PE X (.IfExp c a b pos) (tIf tA ta tb):=by
 erw[.mk λe s σ H Q I h=>?_,<-wpAny_IfExp (thn (hc e s σ H _ I h) λd i ⟨f,j,g⟩=>?_)]
 cases d with
 |true=>erw[ha e i σ f Q j g]
 |false=>erw[hb e i σ f Q j g]
end
end
mutual
def SqL(K:xy)(H:Hp)(a:qa)(xs:Τ):Prop :=
 Rd H a (.lst xs) \/
  ∃(o:Obj)(its:Array qc)(n:Nat),K.lookup a=some o/\o.cls=.type "list"/\o.dict=none/\o.data=.seq its n/\its.size<=sizeLine/\xc xs its.toList
def SqT(K:xy)(H:Hp)(a:qa)(xs:Τ):Prop :=
 Rd H a (.tup xs) \/
  ∃(o:Obj)(its:Array qc)(n:Nat),K.lookup a=some o/\o.cls=.type "tuple"/\o.data=.seq its n/\its.size<=sizeLine/\xc xs its.toList
noncomputable def vkl:qc->ql V
 | .none=>some .non
 | .bool b=>some (.bl b)
 | .int i _=>some (.int i)
 | .str x _=>some (.str x)
 | .bytes b _=>some (.byt b)
 | .float b _=>some (.flt b)
 | .ref a=>some (.ref a)
 | .type n=>some (.ty n)
 |_=>none
def ub.abs{x:V}(r:ub x u):vkl u=some x:=by
 cases x with
 |non=>cases r;rfl
 |bl _=>cases r;rfl
 |int _=>let⟨t,rfl⟩:=r;rfl
 |str _=>let⟨t,rfl⟩:=r;rfl
 |byt _=>let⟨t,rfl⟩:=r;rfl
 |flt _=>let⟨t,rfl⟩:=r;rfl
 |ref _=>cases r;rfl
 |ty _=>cases r;rfl
def ub.inj{x:V}(r:ub x u)(q:ub y u):x=y:=bL (r.abs.symm.trans q.abs)
theorem xc.inj(h:xc xs us)(k:xc ys us):xs=ys:=by
 induction h generalizing ys with
 |nil=>cases k;rfl
 |cons r t ih =>
  cases k with
  |cons r' t'=>rw[r.inj r',ih t']
end
section
mutual
variable{s:qb}
def SqL.of{K:xy}(h:H a\xs):SqL K H a xs:=.inl (.inl h)
def SqT.of{K:xy}(h:H a∪xs):SqT K H a xs:=.inl (.inl h)
def Inv.list(I:'i' s)(h:SqL X.K H a xs):∃its:Ξ,xc xs its/\PlainL s.heap a its.toArray/\xs.length<=sizeLine:=by
 rcases h with h|⟨o,its,n,c,f,b,d,g,r⟩
 .let#[z,its,n,r,e]:=h.ok I.hok;erw[its,r,#[_,n,e,J,J,J],z]
 .erw[its.toList,r,#[o,n,I.kIn a o c,f,b,by simpa using d],?_];let e:=r.length;simp only[cJ]at e;omega
def Inv.tuple(I:'i' s)(h:SqT X.K H a xs):∃its:Ξ,xc xs its/\IsTup s.heap a its.toArray/\xs.length<=sizeLine:=by
 rcases h with h|⟨o,its,n,d,c,b,f,r⟩
 .let#[z,its,r,p]:=h.ok I.hok;erw[its,r,p,z]
 .erw[its.toList,r,#[o,I.kIn a o d,c,n,by simpa using b],?_];let e:=r.length;simp only[cJ]at e;omega
def Inv.list_inj(I:'i' s)(h:SqL X.K H a xs)(h':SqL X.K H a ys):xs=ys:=by
 let#[c,r,#[o,n,e,_,_,d],_]:=I.list h;let#[b,i,#[k,j,g,_,_,f],_]:=I.list h';rw[e]at g;cases g;rw[d]at f;injection f with d1 _;have:c=b:=by simpa using congrArg Array.toList d1
 subst this;erw[r.inj i]
def Inv.tuple_inj(I:'i' s)(h:SqT X.K H a xs)(h':SqT X.K H a ys):xs=ys:=by
 let#[c,r,#[o,e,_,n,d],_]:=I.tuple h;let#[b,i,#[k,g,_,j,f],_]:=I.tuple h';rw[e]at g;cases g;rw[d]at f;injection f with d1 _;have:c=b:=by simpa using congrArg Array.toList d1
 subst this;erw[r.inj i]
end
end
mutual
noncomputable abbrev Cx.wish(X:Cx)(E:Δ):Cx:={X with xe:=E}
noncomputable abbrev Cx.nox(X:Cx):Cx:=X.wish λZ Z=>False
theorem Cx.Ok.wish(ok:X.Ok)(E:Δ):(X.wish E).Ok :=
 #[ok.mod,ok.kind,ok.glob,ok.blt,ok.above,ok.inj,ok.has,ok.cab,ok.hd,ok.frames,ok.stk,ok.exf,ok.bs,ok.bsz,ok.noex,ok.exfs,ok.funs,ok.frf]
def Cx.Ok.unwish(ok:(X.wish E).Ok):X.Ok :=
 #[ok.mod,ok.kind,ok.glob,ok.blt,ok.above,ok.inj,ok.has,ok.cab,ok.hd,ok.frames,ok.stk,ok.exf,ok.bs,ok.bsz,ok.noex,ok.exfs,ok.funs,ok.frf]
end
section
mutual
variable{s:qb}
theorem Inv.wish(I:'i' s)(E:Δ):Inv (X.wish E) pins σ H s:=#[I.ok.wish E,I.os,I.bare,I.base,I.loc,I.cell,I.free,I.freeC,I.pin,I.hok,I.len]
theorem Inv.unwish(I:Inv (X.wish E) pins σ H s):'i' s:=#[I.ok.unwish,I.os,I.bare,I.base,I.loc,I.cell,I.free,I.freeC,I.pin,I.hok,I.len]
theorem SP.unwish{D:ã}{f:Flow}(h:SP (X.wish E) pins D f s'):SP X pins D f s':=by
 cases f with
 |next=>let⟨σ',a,I,q⟩:=h;erw[σ',a,I.unwish,q]
 |brk=>let⟨σ',a,I,q⟩:=h;erw[σ',a,I.unwish,q]
 |cont=>let⟨σ',a,I,q⟩:=h;erw[σ',a,I.unwish,q]
 |ret u=>let⟨v,σ',a,I,r,q⟩:=h;erw[v,σ',a,I.unwish,r,q]
theorem PSs.nox{st:qj qd}{t:TS}(h:PSs X.nox st t):PSs X st t:=.mk λa s σ H D I b =>
 cr (h a s σ H D (I.wish _) b) (λZ Z q=>q.unwish) λZ Z z=>False.elim z
end
end
section
mutual
variable{st:qd}{w8:qj qd}{t u:TS}{e:qh}{pos:Pos}
def vd2:TS:=λD σ H=>D.nx σ H
def vga(t u:TS):TS:=λD σ H=>t {D with nx:=u D} σ H
def yy:PSs X [] vd2:=.mk λZ Z σ H Z I h=>wpAny_execs_nil #[σ,H,I,h]
def yh(h1:PS X st t)(h2:PSs X w8 u):PSs X (st::w8) (vga t u):=by
 erw[.mk λa s σ H D I h=>?_,<-wpAny_execs_cons (thn (h1 a s σ H {D with nx:=u D} I h) λf c q=>?_)]
 cases f with
 |next =>
  let#[σ',d,b,q]:=q;erw[h2 a c σ' d D b q]
 |ret v=>erw[q]
 |brk=>erw[q]
 |cont=>erw[q]
def yc(h1:PS X st t):PSs X [st] t:=by
 erw[.mk λa s σ H D I h=>?_,<-wpAny_execs_cons (thn (h1 a s σ H D I h) λf b q=>?_)]
 cases f with
 |next=>erw[wpAny_execs_nil q]
 |ret v=>erw[q]
 |brk=>erw[q]
 |cont=>erw[q]
def Inv.quiet{s:qb}(I:'i' s):interactive X.env=false:=by simp[interactive,I.ok.kind]
def ven(te:TE):TS:=λD σ H=>te σ H λZ H1=>D.nx σ H1
def yw(he:PE X e te)(hs:↑(swapsWith e none pos.line X.env=pure false)):PS X (.Expr e pos) (ven te):=by refine .mk λa s σ H D I h=>?_;erw[wpAny_Expr_any (thn (he a s σ H _ I h) λv g ⟨x,b,d,f,c⟩=>#[σ,b,d,c]) I.quiet hs]
def vja(te:TE):TS:=λD σ H=>te σ H D.rt
def yp(he:PE X e te):PS X (.Return (some e) pos) (vja te):=by refine .mk λa s σ H D I h=>?_;erw[wpAny_Return_some (thn (he a s σ H _ I h) λv g ⟨x,b,f,c,d⟩=>#[x,σ,b,f,c,d])]
def vjo(c:TT)(t u:TS):TS:=λD σ H=>c σ H λb H1=>if b=true then t D σ H1 else u D σ H1
def vq{c:qh}{a b:qj qd}{tc:TT}(hc:PT X c tc)(ha:PSs X a t)(hb:PSs X b u):PS X (.If c a b pos) (vjo tc t u):=by
 erw[.mk λe s σ H D I h=>?_,<-wpAny_If (thn (hc e s σ H _ I h) λd i ⟨f,j,g⟩=>?_)]
 cases d with
 |true=>erw[ha e i σ f D j g]
 |false=>erw[hb e i σ f D j g]
def yx0:TS:=λZ Z Z=>False
def yax:PS X st yx0:=.mk λZ Z Z Z Z Z h=>h.elim
end
end
mutual
abbrev TG:=V->St->Hp->(Ζ)->Prop
abbrev TGs:=qj V->St->Hp->(Ζ)->Prop
def PG(X:Cx)(target:qh)(t:TG):Prop :=
 ∀(pins:Θ)(s:qb)(σ:St)(H:Hp)(v:V)(u:qc)(Q:Ζ),'i' s->ub v u->t v σ H Q ->
  wpAny (model X.prog X.w) X.A (assign target X.env u) (λZ s'=>∃σ' H',Inv X pins σ' H' s'/\Q σ' H') X.xe s
def PGs(X:Cx)(ts:qj qh)(t:TGs):Prop :=
 ∀(pins:Θ)(s:qb)(σ:St)(H:Hp)(vs:Τ)(us:Ξ)(Q:Ζ),'i' s->xc vs us->t vs σ H Q ->
  wpAny (model X.prog X.w) X.A (assignInOrder ((assignEach ts X.env).map (·.2)) us) (λZ s'=>∃σ' H',Inv X pins σ' H' s'/\Q σ' H') X.xe s
end
section
mutual
variable{pos:Pos}
def xw(i:Nat):TG:=λv σ H Q=>Q (σ.set i (some v)) H
def xb(hN:X.N.Nodup)(hi:X.N[i]?=some x)(hx:Loc X.env.scope x)(hf:autoParam (X.fn x=true\/X.env.scope.names.lookup x=some .local) aF._auto_1):PG X (.Name x pos) (xw i):=by intro a s σ H v u Q I r h;erw[wpAny_assign_Name (Ģ I hN hi hx r (λc b=>#[_,H,b,h]) hf)]
def ypn:TGs:=λvs σ H Q=>vs=[]/\Q σ H
def Ò(t:TG)(u:TGs):TGs:=λvs σ H Q=>∃v r,vs=v::r/\t v σ H λσ' H'=>u r σ' H' Q
def ybn:PGs X [] ypn:=by intro a s σ H c b Q I r h;let#[e,h]:=h;subst e;cases r;erw[assignInOrder_nil #[σ,H,I,h]]
def jq{e:qh}{t:TG}{u:TGs}(h1:PG X e t)(h2:PGs X es u)
  (hs:↑((assignEach (e::es) X.env).map (·.2)=assign e X.env::(assignEach es X.env).map (·.2))):PGs X (e::es) (Ò t u):=by
 intro a s σ H j i Q I r h;let#[v,k,b,h]:=h;subst b
 cases r with
 |cons r rr =>
  rwa[hs,assignInOrder_cons (thn (h1 a s σ H _ _ _ I r h) λZ f ⟨σ1,c,g,d⟩=>?_)];erw[h2 a f σ1 c _ _ Q g rr d]
def yw9(K:xy)(n:Nat)(t:TGs):TG:=λv σ H Q=>∃a xs,v=.ref a/\SqT K H a xs/\xs.length=n/\t xs σ H Q
def yhb{k:Nat}{t:TGs}{n:Nat}(hc:X.calm=true)(h:PGs X es t)
  (hn:↑((assignEach es X.env).length=n)) (hst:↑((assignEach es X.env).findIdx? (·.1)=none)):PG X (.Tuple es k pos) (yw9 X.K n t):=by intro c s σ H v u Q I r d;let#[a,p,j,i,l,d]:=d;subst j;cases r;let#[m,f,q,y]:=I.tuple i;erw[assign_Tuple_tuple (I.ok.hd hc) q (by simp[hn,<- l,f.length]) hst λg x=>?_];have w:Inv X c σ H {s with heap:=g}:=I.kept (t':=s.toks) λb o e=>x b o (bY (bE e)) e;erw[h c _ σ H p _ Q w (by simpa using f) d]
def ywz(te:TE)(g:TG):TS:=λD σ H=>te σ H λx H1=>g x σ H1 D.nx
def ö{e:qh}{pos':Pos}(hN:X.N.Nodup)(hi:X.N[i]?=some x)(hx:Loc X.env.scope x)(he:PE X e te)(hs:↑(swapsWith e (some (.Name x pos')) pos.line X.env=pure false))(hf:autoParam (X.fn x=true\/X.env.scope.names.lookup x=some .local) aF._auto_1):
  PS X (.Assign [.Name x pos'] e pos) (ywz te (xw i)):=by refine .mk λa s σ H D I h=>?_;erw[wpAny_Assign_Name (thn (he a s σ H _ I h) λv k h'=>?_) hs];let#[y,b,f,c,d]:=h';erw[Ģ f hN hi hx c (λj g=>#[_,b,g,d]) hf]
end
end
section
mutual
variable{pos:Pos}
def yyv(c:TT)(tb:TS):TS:=λD σ H=>∃W:Nat->St->Hp->Prop,(∃m,W m σ H)/\∀m σ H,W m σ H ->
 c σ H λb H1=>if b=true then ∃N:Ζ,(∀σ' H',N σ' H'->∃m',m'<m/\W m' σ' H')/\tb {D with nx:=N,ct:=N,bk:=D.nx} σ H1 else D.nx σ H1
def Ï{c:qh}{tc:TT}{tb:TS}(hp:PassesOwn (model X.prog X.w) X.A X.env X.xe)(hc:PT X c tc)(hb:PSs X body tb):PS X (.While c body [] pos) (yyv tc tb):=by
 erw[.mk λa s σ H D I h=>?_];let#[W,#[B,C],e]:=h;erw[wpAny_While (codeAny_whileLoop (λn u=>∃σ' H',Inv X a σ' H' u/\W n σ' H') ?_ B #[σ,H,I,C])];rintro n E ⟨σ1,q,y,x⟩;erw[wpAny_passesOwn hp (thn (hc a E σ1 q _ y (e n σ1 q x)) λb z ⟨r,p,i⟩=>?_)]
 cases b with
 |true =>
  let#[N,t,i]:=i;rwa[if_pos J,wpAny_passesOwn hp (thn (hb a z σ1 r _ p i) λf F g=>?_)]
  cases f with
  |next =>
   let#[σ3,d,l,k]:=g;let#[m,o,j]:=t σ3 d k;erw[m,o,σ3,d,l,j]
  |cont =>
   let#[σ3,d,l,k]:=g;let#[m,o,j]:=t σ3 d k;erw[m,o,σ3,d,l,j]
  |brk=>erw[g]
  |ret v=>erw[g]
 |false =>
  rwa[if_neg bK,wpAny_execs_nil #[σ1,r,p,i]]
end
end
mutual
structure It where
 go:Nat->Hp->Prop
 yld:Nat->Hp->V->Hp->Prop
 stop:Nat->Hp->Prop
def ydn(X:Cx)(pins:Θ)(H:Hp)(b:qa):Prop :=
 H b=none/\b≠X.env.locals/\b∉X.fs/\(b∈X.ex\/X.s₀.heap.objs.size<=b)/\(∀x c,X.env.cells.lookup x=some c->c≠b)/\∀p∈X.pn++pins,p.1≠b
def Inv.fpOk{s:qb}{b:qa}(I:'i' s)(hb:'n'<=b)(hn:H' b=none):ydn X pins H' b:=by
 erw[hn,Nat.ne_of_gt (bZ I.lt hb),I.nofs hb,.inr (ck I.sz hb),λx c e z=>?_,λp a z=>?_]
 .let#[v,q]:=I.cell x c e;erw[absurd (bZ q.lt (by rwa[z,hb])) (cU _)]
 .erw[absurd (bZ (bE (I.pin p a).1) (by rwa[z,hb])) (cU _)]
structure yhi(P:qi)(w:qe)(K:xy)(tg:qh)(ς:It)(fp:Φ)(it:qa)(tn:Nat->qg->Prop):Prop where
 mem:it∈fp
 obj:∀i h,tn i h->∀b∈fp,∃o,h.get? b=some o/\∀v,o.data≠.cell v
 keep:∀i h h',tn i h->(∀b∈fp,∀o,h.get? b=some o->h'.get? b=some o)->tn i h'
 item:∀(X:Cx),X.prog=P->X.w=w->X.K=K->X.calm=true->∀(i:Nat)(pins:Θ)(s:qb)(σ:St)(H:Hp)(E:Δ),'i' s->(∀b∈fp,ydn X pins H b)->tn i s.heap->ς.go i H ->
  wpAny (model P w) X.A (pyNext (.ref it)) (λr s1=>∃u,r=some u/\
   wpAny (model P w) X.A (letOwnedTupleGo tg (.ref it) u) (λZ s2=>∃x H',Inv X pins σ H' s2/\ub x u/\ς.yld i H x H'/\tn (i+1) s2.heap/\∀b∈fp,H' b=none) E s1) E s
 done:∀(X:Cx),X.prog=P->X.w=w->X.K=K->X.calm=true->∀(i:Nat)(pins:Θ)(s:qb)(σ:St)(H:Hp)(E:Δ),'i' s->(∀b∈fp,ydn X pins H b)->tn i s.heap->ς.stop i H ->
  wpAny (model P w) X.A (pyNext (.ref it)) (λr s1=>r=none/\Inv X pins σ H s1) E s
 self:∀(A:qf)(i:Nat)(s:qb)(Q:Δ)(E:Δ),tn i s.heap->Q (.ref it) s->wpAny (model P w) A (pyIter (.ref it)) Q E s
abbrev TI:=St->Hp->(It->Hp->Prop)->Prop
def PIE(X:Cx)(pins:Θ)(σ:St)(tg:qh)(R:It->Hp->Prop)(itv:qc)(s2:qb):Prop :=
 ∃(it:qa)(fp:Φ)(tn:Nat->qg->Prop)(ς:It)(H':Hp),itv=.ref it/\Inv X pins σ H' s2/\yhi X.prog X.w X.K tg ς fp it tn/\tn 0 s2.heap/\(∀b∈fp,ydn X pins H' b)/\R ς H'
def PI(X:Cx)(tg iter:qh)(wi:TI):Prop :=
 ∀(pins:Θ)(s:qb)(σ:St)(H:Hp)(R:It->Hp->Prop),'i' s->wi σ H R ->
  wpAny (model X.prog X.w) X.A (eval iter X.env) (λv s1=>'w' (pyIter v) (PIE X pins σ tg R) X.xe s1) X.xe s
def ymy{A:qf}{s:qb}{it:qa}{o:Obj}{n:String}{vs:Array qc}{Q:Unit->qb->Prop}(ho:s.heap.get? it=some o)(hc:o.cls=.type n)(hd:o.data=.fields vs)
  (hn:["enumerate","zip","dict_itemiterator","dict_reverseitemiterator","odict_iterator","itertools.zip_longest","itertools.pairwise"].contains n=false) (hQ:Q ⟨⟩ s):wpAny M A (letOwnedTupleGo tg (.ref it) u) Q E s:=by
 unfold letOwnedTupleGo
 cases tg<;>first
  |erw[bv hQ]
  | (cases u<;>first
    |erw[bv hQ]
    | (refine bj (wpAny_load ho ?_)
       rw[hc,hd];show wpAny M A (if (["enumerate","zip","dict_itemiterator","dict_reverseitemiterator","odict_iterator","itertools.zip_longest","itertools.pairwise"].contains n && vs[0]? == some (rawInt _))=true then _ else _) Q E s;rwa[if_neg (by intro h;rw[hn,Bool.false_and]at h;cases h),bv hQ]))
noncomputable def Itl(K:xy)(a:qa):It :=
 #[λi H=>∃xs x,SqL K H a xs/\xs[i]?=some x,λi H x H'=>H'=H/\∀xs,SqL K H a xs->xs[i]?=some x,λi H=>∃xs,SqL K H a xs/\xs.length<=i]
noncomputable def Itt(K:xy)(a:qa):It :=
 #[λi H=>∃xs x,SqT K H a xs/\xs[i]?=some x,λi H x H'=>H'=H/\∀xs,SqT K H a xs->xs[i]?=some x,λi H=>∃xs,SqT K H a xs/\xs.length<=i]
def Itr(lo:Int)(n:Nat):It:=#[λi Z=>i<n,λi H x H'=>H'=H/\x=.int (lo+i),λi Z=>n<=i]
def yjz{w:qe}{K:xy}(a it:qa):yhi P w K tg (Itl K a) [it] it (λi h=>h.IsListIter it a i) where
 mem:='s'
 obj:=λi h f b j=>by
  have e:b=it:=by simpa using j
  subst e;let#[o,e,c,d]:=f;erw[o,e,λv z=>by rw[d]at z;cases z]
 keep:=λi h m f k=>f.at λo e=>k it 's' o e
 item:=by
  intro X L D B N i g s σ H E I q f r;subst L D B;let#[T,x,n,G]:=r;let#[A,C,p,R]:=I.list n;let#[u,U,Z]:=C.get G;let#[t,y,Y,M,ς,F]:=q it 's';erw[wpAny_pyNext_list_item f p.isList (x:=u) (by simpa using U) λm l sb=>?_];have O:Inv X g σ H {s with heap:=m}:=I.turned (t':=s.toks) (λb o j e=>(sb.2 b j).trans e) t y M ς F;let#[o,e,c,d]:=id l;erw[u,J,ymy (s:={s with heap:=m}) e c d ∅ #[x,H,O,Z,#[J,λys S=>by rwa[I.list_inj S n,G]],l,λb j=>(q b j).1]]
 done:=by
  intro X L D B N i g s σ H E I q f r;subst L D B;let#[T,n,G]:=r;let#[A,C,p,R]:=I.list n;let#[t,y,Y,M,ς,F]:=q it 's';let hl:=C.length;erw[wpAny_pyNext_list_end (I.ok.hd N) f p.isList (by simp;omega) λm Q=>#[J,I.turned (t':=s.toks) (λb o j e=>Q b o j e) t y M ς F]]
 self:=λW W W W W f h=>wpAny_pyIter_listiter f h
def yig{w:qe}{K:xy}(a it:qa):yhi P w K tg (Itt K a) [it] it (λi h=>h.IsTupleIter it a i) where
 mem:='s'
 obj:=λi h f b j=>by
  have e:b=it:=by simpa using j
  subst e;let#[o,e,c,d]:=f;erw[o,e,λv z=>by rw[d]at z;cases z]
 keep:=λi h n f k=>f.at λo e=>k it 's' o e
 item:=by
  intro X L D B N i g s σ H E I r f t;subst L D B;let#[T,x,q,G]:=t;let#[l,C,p,R]:=I.tuple q;let#[u,U,Z]:=C.get G;let#[y,A,Y,M,ς,F]:=r it 's';erw[wpAny_pyNext_tuple_item f (show s.heap.IsTuple a l.toArray from p) (x:=u) (by simpa using U) λn m sb=>?_];have O:Inv X g σ H {s with heap:=n}:=I.turned (t':=s.toks) (λb o j e=>(sb.2 b j).trans e) y A M ς F;let#[o,e,c,d]:=id m;erw[u,J,ymy (s:={s with heap:=n}) e c d ∅ #[x,H,O,Z,#[J,λys S=>by rwa[I.tuple_inj S q,G]],m,λb j=>(r b j).1]]
 done:=by
  intro X L D B N i g s σ H E I r f t;subst L D B;let#[T,q,G]:=t;let#[l,C,p,R]:=I.tuple q;let#[y,A,Y,M,ς,F]:=r it 's';let hl:=C.length;erw[wpAny_pyNext_tuple_end (I.ok.hd N) f (show s.heap.IsTuple a l.toArray from p) (by simp;omega) λn Q=>#[J,I.turned (t':=s.toks) (λb o j e=>Q b o j e) y A M ς F]]
 self:=λW W W W W f h=>wpAny_pyIter_tupleiter f h
def yh3{w:qe}{K:xy}(it:qa)(lo:Int)(n:Nat):yhi P w K tg (Itr lo n) [it] it (λi h=>IsRangeIter h it (lo+(i:Nat)*1) ((n:Int)-(i:Nat)) 1) where
 mem:='s'
 obj:=λi h a b d=>by
  have e:b=it:=by simpa using d
  subst e
  erw[_,a,λv z=>by
   have D:Data.fields _=Data.cell v:=z;cases D]
 keep:=λi h g a k=>k it 's' _ a
 item:=by
  intro X y r q B i c s σ H E I j a l;subst y r q;let#[m,p,L,A,x,u]:=j it 's';let W:=Walks.range (prog:=X.prog) (w:=X.w) (I.ok.hd B) it lo 1 n;erw[W.item i s _ _ l a λv g C M f G=>?_];let#[t,J]:=M;have F:Inv X c σ H {s with heap:=g,toks:=C}:=I.turned (λb o d e=>G b o (by simpa using d) e) m p A x u;erw[_,J,ymy (s:={s with heap:=g,toks:=C}) (n:="range_iterator") f J J ∅ #[.int (lo+i),H,F,#[t,?_],#[J,J],f,λb d=>(j b d).1]];rw[Int.mul_one]
 done:=by
  intro X y r q B i c s σ H E I j a l;subst y r q;let#[m,p,L,A,x,u]:=j it 's';erw[wpAny_pyNext_range_end (I.ok.hd B) a (by have:n<=i:=l;omega) λg ς=>#[J,I.turned (t':=s.toks) (λb o d e=>ς b o d e) m p A x u]]
 self:=λZ Z Z Z Z a h=>wpAny_pyIter_rangeiter a h
def vef(K:xy)(tl:TE):TI:=λσ H R=>tl σ H λx H1=>∃a,x=.ref a/\(∃xs,SqL K H1 a xs)/\R (Itl K a) H1
def vjs(K:xy)(tl:TE):TI:=λσ H R=>tl σ H λx H1=>∃a,x=.ref a/\(∃xs,SqT K H1 a xs)/\R (Itt K a) H1
def xr{l:qh}{tl:TE}(hl:PE X l tl):PI X tg l (vef X.K tl):=by
 intro c s σ H R I h;erw[thn (hl c s σ H _ I h) λv d h'=>?_];let#[x,i,f,k,m]:=h';let#[a,e,#[r,g],q]:=m;subst e;cases k;let#[j,t,p,u]:=f.list g;erw[wpAny_pyIter_list p.isList ?_,<-d.heap.objs.size,[d.heap.objs.size],_,_,i,J,f.kept (t':=d.toks) λb o e=>br _ e,yjz a _,#[_,bC _ J,J,J],λb n=>?_,q];have e:b=d.heap.objs.size:=by simpa using n
 subst e;erw[f.fpOk (bx _) (f.hok.fresh (bx _))]
def ygu{l:qh}{tl:TE}(hl:PE X l tl):PI X tg l (vjs X.K tl):=by
 intro c s σ H R I h;erw[thn (hl c s σ H _ I h) λv d h'=>?_];let#[x,j,f,k,m]:=h';let#[a,e,#[r,i],q]:=m;subst e;cases k;let#[g,t,p,u]:=f.tuple i;erw[wpAny_pyIter_tuple (show d.heap.IsTuple a g.toArray from p) ?_,<-d.heap.objs.size,[d.heap.objs.size],_,_,j,J,f.kept (t':=d.toks) λb o e=>br _ e,yig a _,#[_,bC _ J,J,J],λb n=>?_,q];have e:b=d.heap.objs.size:=by simpa using n
 subst e;erw[f.fpOk (bx _) (f.hok.fresh (bx _))]
def yfo{s:qb}{R:It->Hp->Prop}{lo hi:Int}{t u v:Tok}{tk:Nat}(I:'i' s)(h1:-(2^62)<=lo)(h2:lo<2^62)(h3:-(2^62)<=hi)(h4:hi<2^62)
  (q:R (Itr lo (hi-lo).toNat) H):'w' (pyIter (.ref 'n')) (PIE X pins σ tg R) E {s with heap:=s.heap.push { cls:=.type "range",data:=.fields (List.toArray [.int lo t,.int hi u,.int 1 v])},toks:=tk}:=by
 erw[wpAny_pyIter_range (IsRange.new ..) (small_one h1 h2 h3 h4) ?_];have a:'i' {s with heap:=s.heap.push { cls:=.type "range",data:=.fields (List.toArray [.int lo t,.int hi u,.int 1 v])},toks:=tk}:=I.kept λb o e=>br _ e
 erw[(s.heap.push { cls:=.type "range",data:=.fields (List.toArray [.int lo t,.int hi u,.int 1 v])}).objs.size,[(s.heap.push { cls:=.type "range",data:=.fields (List.toArray [.int lo t,.int hi u,.int 1 v])}).objs.size],_,_,H,J,
  a.kept (t':=tk) λb o e=>br _ e,yh3 _ lo (hi-lo).toNat,?_,λb d=>?_,q]
 .have f:lo+((0:Nat):Int)*1=lo:='s'
  have c:(((hi-lo).toNat:Nat):Int)-((0:Nat):Int)=Builtin.Range.rangeSize lo hi 1:=by rw[rangeSize_one];split<;>omega
  show IsRangeIter _ _ (lo+((0:Nat):Int)*1) ((((hi-lo).toNat:Nat):Int)-((0:Nat):Int)) 1;rwa[f,c,bC _ J]
 .have e:b=(s.heap.push { cls:=.type "range",data:=.fields (List.toArray [.int lo t,.int hi u,.int 1 v])}).objs.size:=by simpa using d
  subst e;erw[a.fpOk (bx _) (a.hok.fresh (bx _))]
def vcv(ta:TA):TI:=λσ H R=>ta σ H λvs H1=>∃j:Int,vs=[.int j]/\-(2^62)<=j/\j<2^62/\R (Itr 0 j.toNat) H1
def vd8(ta:TA):TI:=λσ H R=>ta σ H λvs H1=>∃i j:Int,vs=[.int i,.int j]/\(-(2^62)<=i/\i<2^62/\-(2^62)<=j/\j<2^62)/\R (Itr i (j-i).toNat) H1
def zl{a:qh}{ta:TA}{p pos:Pos}(hg:Gl X "range")(hm:X.mg "range"=none)(ha:PA X [a] ta)(hs:↑(starEach [a] X.env=[(false,eval a X.env)])):PI X tg (.Call (.Name "range" p) [a] [] pos) (vcv ta):=by
 intro b s σ H R I h;erw[Call_ (Ŋ I hg hm boot_range (PyProof.Rows.callWith_type1 (thn (ha pos b s σ H _ I h) λi m h'=>?_) hs J))];let#[k,l,f,d,c]:=h';let#[j,e,c,g,q]:=c;subst e
 cases d with
 |cons r rr =>
  cases rr;let#[t,J]:=r;erw[call_range_1 (yfo f () () c g (by simpa using q))]
def yck{a b:qh}{ta:TA}{p pos:Pos}(hg:Gl X "range")(hm:X.mg "range"=none)(ha:PA X [a,b] ta)(hs:↑(starEach [a,b] X.env=[(false,eval a X.env),(false,eval b X.env)]))(hs2:↑(starEach [b] X.env=[(false,eval b X.env)])):
  PI X tg (.Call (.Name "range" p) [a,b] [] pos) (vd8 ta):=by
 intro c s σ H R I h;erw[Call_ (Ŋ I hg hm boot_range (PyProof.Rows.callWith_type1 (thn (ha pos c s σ H _ I h) λn w h'=>?_) (by rw[hs,hs2]) (by rw[hs2];rfl)))];let#[o,u,l,g,d]:=h';let#[i,j,e,#[d,m,k,f],q]:=d;subst e
 cases g with
 |cons r rr =>
  cases rr with
  |cons r' rr =>
   cases rr;let#[t,J]:=r;let#[v,J]:=r';erw[call_range_2 (yfo l d m k f q)]
def vjj(wi:TI)(g:TG)(tb:TS):TS:=λD σ H=>wi σ H λς H1=>∃W:Nat->Nat->St->Hp->Prop,(∃m,W 0 m σ H1)/\∀i m σ H,W i m σ H ->
 (ς.stop i H/\D.nx σ H)\/(ς.go i H/\∃N:Ζ,(∀σ' H',N σ' H'->∃m',m'<m/\W (i+1) m' σ' H')/\∀x H',ς.yld i H x H'->g x σ H' λσ2 H2=>tb {D with nx:=N,ct:=N,bk:=D.nx} σ2 H2)
noncomputable def yhc(fp:Φ)(h:qg):Θ:=fp.filterMap λb=>(h.get? b).map λo=>(b,o)
def zw{h:qg}{b:qa}{o:Obj}(hb:b∈fp)(e:h.get? b=some o):(b,o)∈yhc fp h:=List.mem_filterMap.mpr #[b,hb,by rw[e];rfl]
def yjr{h:qg}{p:qa×Obj}(hp:p∈yhc fp h):p.1∈fp/\h.get? p.1=some p.2:=by
 let#[b,c,e]:=List.mem_filterMap.mp hp
 cases q:h.get? b with
 |none=>rw[q]at e;cases e
 |some o =>
  rw[q]at e;have a:(b,o)=p:=bL e;subst a;erw[c,q]
def Inv.pinned{s:qb}(I:'i' s)(hf:∀b∈fp,ydn X pins H b)(ho:∀b∈fp,∃o,s.heap.get? b=some o/\∀v,o.data≠.cell v):Inv X (pins++yhc fp s.heap) σ H s :=
 I.pins_of λp g=>(bQ.mp g).elim (λz=>I.pin p (bP _ z)) λz=>by
  let#[c,e]:=yjr z;let#[i,h,f,_]:=hf p.1 c;let#[o,a,d]:=ho p.1 c;rw[e]at a;cases a;erw[e,i,h,f,d]
def Inv.unpinned{pl:Θ}{s:qb}(I:Inv X (pins++pl) σ H s):'i' s:=I.pins_of λp a=>I.pin p (bP _ (cN _ a))
def jt{iter:qh}{wi:TI}{g:TG}{tb:TS}{pos:Pos}(hp:PassesOwn (model X.prog X.w) X.A X.env X.xe)(hc:X.calm=true)(hi:PI X tg iter wi)(hg:PG X tg g)(hb:PSs X body tb)
  (hs:autoParam (∀x,foldedSetIterable iter X.env x=pure x) aD._auto_1):PS X (.For tg iter body [] pos) (vjj wi g tb):=by
 erw[.mk λa s σ H D I h=>?_,<-wpAny_For (thn (hi a s σ H _ I h) λv s1 h1=>thn h1 λa0 s2 h2=>?_) hs];let#[it,z,Y,ς,H2,e,I2,T,K,U,W,#[m0,w0],F]:=h2;subst e;have l:∀{H':Hp},(∀b∈z,H' b=none)->∀b∈z,ydn X a H' b:=λhn b hb=>#[hn b hb,(U b hb).2];erw[codeAny_forLoop_any (λn Q=>∃i σ' H',Inv X a σ' H' Q/\Y i Q.heap/\(∀b∈z,H' b=none)/\W i n σ' H') ?_ m0 #[0,σ,H2,I2,K,λb hb=>(U b hb).1,w0]];rintro n Z ⟨i,σ3,G,S,C,t,w3⟩;rcases F i n σ3 G w3 with⟨y,qn⟩|⟨go,N,hN,B⟩
 .erw[wpAny_passesOwn hp (thn (T.done X J J J hc i a Z σ3 G X.xe S (l t) C y) λr s4 ⟨M,I4⟩=>?_)];subst M;erw[wpAny_execs_nil #[σ3,G,I4,qn]]
 .erw[wpAny_passesOwn hp (thn (T.item X J J J hc i a Z σ3 G X.xe S (l t) C go) λr s4 ⟨u,M,h4⟩=>?_)];subst M;erw[wpAny_passesOwn hp (thn h4 λw s5 h'=>?_)];let#[x,R,I5,r5,y5,q,O]:=h';let P:=I5.pinned (l O) (T.obj _ _ q);erw[wpAny_passesOwn hp (thn (hg _ s5 σ3 R x u _ P r5 (B x R y5)) λw s6 ⟨σ6,H6,I6,q6⟩=>?_)];refine wpAny_passesOwn hp (thn (hb _ s6 σ6 H6 _ I6 q6) λf L p=>?_)
  have c:∀{σ7:St}{j:Hp},Inv X (a++yhc z s5.heap) σ7 j L->N σ7 j->∃m,m<n/\∃i σ' H',Inv X a σ' H' L/\Y i L.heap/\(∀b∈z,H' b=none)/\W i m σ' H':=λ{σ7 j}k E=>by
   let#[m',hm,w7]:=hN σ7 j E;erw[m',hm,i+1,σ7,j,k.unpinned,T.keep _ _ _ q λb hb o e=>(k.pin (b,o) (bP _ (bP _ (zw hb e)))).1,λb hb=>?_,w7];let#[o,e,d]:=T.obj _ _ q b hb;erw[(k.pin (b,o) (bP _ (bP _ (zw hb e)))).2.1]
  cases f with
  |next=>let⟨σ7,j,k,E⟩:=p;erw[c k E]
  |cont=>let⟨σ7,j,k,E⟩:=p;erw[c k E]
  |brk=>let⟨σ7,j,k,p⟩:=p;erw[σ7,j,k.unpinned,p]
  |ret v=>let⟨x7,σ7,j,k,r7,p⟩:=p;erw[x7,σ7,j,k.unpinned,r7,p]
def jp{K:xy}{g:TG}{tb:TS}{D:ã}(Pv:Nat->St->Hp->Prop)(h0:Pv 0 σ H)(hl:∀i σ H,i<=xs.length->Pv i σ H->SqL K H a xs)
  (hs:∀i x σ H,xs[i]?=some x->Pv i σ H->g x σ H λσ2 H2=>tb {D with nx:=Pv (i+1),ct:=Pv (i+1),bk:=D.nx} σ2 H2) (hd:∀σ H,Pv xs.length σ H->D.nx σ H):
  ∃W:Nat->Nat->St->Hp->Prop,(∃m,W 0 m σ H)/\∀i m σ H,W i m σ H ->
   ((Itl K a).stop i H/\D.nx σ H)\/((Itl K a).go i H/\∃N:Ζ,(∀σ' H',N σ' H'->∃m',m'<m/\W (i+1) m' σ' H')/\∀x H',(Itl K a).yld i H x H'->g x σ H' λσ2 H2=>tb {D with nx:=N,ct:=N,bk:=D.nx} σ2 H2):=by
 erw[λi m σ H=>m=xs.length-i/\i<=xs.length/\Pv i σ H,#[xs.length,'s',bR _,h0],?_];rintro i m σ H ⟨rfl,b,p⟩;let q:=hl i σ H b p;by_cases hlt:i<xs.length
 .erw[.inr #[#[xs,xs[i],q,by simp[hlt]],Pv (i+1),λσ' H' c=>#[xs.length-(i+1),(),J,hlt,c],λx H' y=>?_]];let#[e,y]:=y;subst e;erw[hs i x σ _ (y xs q) p]
 .have e:i=xs.length:=()
  subst e;erw[.inl #[#[xs,q,bx _],hd σ H p]]
def À{lo:Int}{n:Nat}{g:TG}{tb:TS}{D:ã}(Pv:Nat->St->Hp->Prop)(h0:Pv 0 σ H)
  (hs:∀i σ H,i<n->Pv i σ H->g (.int (lo+i)) σ H λσ2 H2=>tb {D with nx:=Pv (i+1),ct:=Pv (i+1),bk:=D.nx} σ2 H2) (hd:∀σ H,Pv n σ H->D.nx σ H):
  ∃W:Nat->Nat->St->Hp->Prop,(∃m,W 0 m σ H)/\∀i m σ H,W i m σ H ->
   ((Itr lo n).stop i H/\D.nx σ H)\/((Itr lo n).go i H/\∃N:Ζ,(∀σ' H',N σ' H'->∃m',m'<m/\W (i+1) m' σ' H')/\∀x H',(Itr lo n).yld i H x H'->g x σ H' λσ2 H2=>tb {D with nx:=N,ct:=N,bk:=D.nx} σ2 H2):=by
 erw[λi m σ H=>m=n-i/\i<=n/\Pv i σ H,#[n,'s',bR _,h0],?_];rintro i m σ H ⟨rfl,b,p⟩;by_cases hlt:i<n
 .erw[.inr #[hlt,Pv (i+1),λσ' H' a=>#[n-(i+1),(),J,hlt,a],λx H' y=>?_]];let#[e,y]:=y;subst e y;erw[hs i σ _ hlt p]
 .have e:i=n:=()
  subst e;erw[.inl #[bx _,hd σ H p]]
abbrev R2:=V->V->Hp->VK->Prop
def OpR(X:Cx)(f:qc->qc->Sem qc)(r:R2):Prop :=
 ∀(pins:Θ)(s:qb)(σ:St)(H:Hp)(x y:V)(v u:qc)(Q:VK),'i' s->ub x v->ub y u->r x y H Q ->
  wpAny (model X.prog X.w) X.A (f v u) (EP X pins σ Q) X.xe s
def UnR(X:Cx)(f:qc->Sem qc)(r:V->Hp->VK->Prop):Prop :=
 ∀(pins:Θ)(s:qb)(σ:St)(H:Hp)(x:V)(v:qc)(Q:VK),'i' s->ub x v->r x H Q ->
  wpAny (model X.prog X.w) X.A (f v) (EP X pins σ Q) X.xe s
def θ(X:Cx)(f:qc)(r:qj V->Hp->VK->Prop):Prop :=
 ∀(pins:Θ)(s:qb)(σ:St)(H:Hp)(xs:Τ)(us:Ξ)(Q:VK),'i' s->xc xs us->r xs H Q ->
  wpAny (model X.prog X.w) X.A (call f us) (EP X pins σ Q) X.xe s
def tOp(r:R2)(ta tb:TE):TE:=λσ H Q=>ta σ H λx H1=>tb σ H1 λy H2=>r x y H2 Q
def tUn(r:V->Hp->VK->Prop)(ta:TE):TE:=λσ H Q=>ta σ H λx H1=>r x H1 Q
def rI(C:Int->Int->Prop)(g:Int->Int->V):R2:=λx y H Q=>∃i j,x=.int i/\y=.int j/\C i j/\Q (g i j) H
def rI0(g:Int->Int->V):R2:=λx y H Q=>∃i j,x=.int i/\y=.int j/\Q (g i j) H
def rU(g:Int->V):V->Hp->VK->Prop:=λx H Q=>∃i,x=.int i/\Q (g i) H
end
section
mutual
variable{a b c:qh}{tb tc:TE}{pos:Pos}
def vgn(ha:PE X a ta)(hb:PE X b tb){s:qb}{R:V->V->Hp->Prop}(I:'i' s)
  (h:ta σ H λx H1=>tb σ H1 λy H2=>R x y H2) {Q:Δ} {f:qc->qc->Sem qc}
  (hf:∀v u s2 x y H2,Inv X pins σ H2 s2->ub x v->ub y u->R x y H2->'w' (f v u) Q X.xe s2):
  wpAny (model X.prog X.w) X.A (eval a X.env) (λv s₁=>'w' (eval b X.env) (λu s₂=>'w' (f v u) Q X.xe s₂) X.xe s₁) X.xe s:=by refine thn (ha pins s σ H _ I h) λv i h'=>?_;let#[x,H1,g,d,e]:=h';erw[thn (hb pins i σ H1 _ g e) λu s2 h'=>?_];let#[y,H2,j,c,k]:=h';erw[hf v u s2 x y H2 j d c k]
def yo{op:Operator}{r:R2}(ho:OpR X (binaryOp op) r)(ha:PE X a ta)(hb:PE X b tb):PE X (.BinOp a op b pos) (tOp r ta tb):=by refine .mk λc s σ H Q I h=>?_;erw[wpAny_BinOp (vgn ha hb I h λv u e x y d f g i q=>ho c e σ d x y v u Q f g i q)]
def ym2{op:UnaryOp}{r:V->Hp->VK->Prop}(ho:UnR X (unaryOp op) r)(ha:PE X a ta):PE X (.UnaryOp op a pos) (tUn r ta):=by refine .mk λb s σ H Q I h=>?_;erw[UnaryOp_ (thn (ha b s σ H _ I h) λv f ⟨x,c,g,d,e⟩=>ho b f σ c x v Q g d e)]
def opI{f:qc->qc->Sem qc}{C:Int->Int->Prop}{g:Int->Int->Int}
  (rule:∀(i j:Int)(t u:Tok)(s:qb)(Q:Δ)(E:Δ),C i j->Q (.int (g i j) s.toks) {s with toks:=s.toks+1}->'w' (f (.int i t) (.int j u)) Q E s):
  OpR X f (rI C λi j=>.int (g i j)):=by intro a s σ H x y v u Q I c d h;let#[i,j,J,J,e,q]:=h;let#[t,J]:=c;let#[b,J]:=d;erw[rule i j t b s _ _ e #[.int (g i j),H,I.tok _,#[_,J],q]]
def vin{f:qc->qc->Sem qc}{g:Int->Int->Int}
  (rule:∀(i j:Int)(t u:Tok)(s:qb)(Q:Δ)(E:Δ),Q (.int (g i j) s.toks) {s with toks:=s.toks+1}->'w' (f (.int i t) (.int j u)) Q E s):
  OpR X f (rI0 λi j=>.int (g i j)):=by intro a s σ H x y v u Q I d c h;let#[i,j,J,J,q]:=h;let#[t,J]:=d;let#[b,J]:=c;erw[rule i j t b s _ _ #[.int (g i j),H,I.tok _,#[_,J],q]]
def vgo{f:qc->qc->Sem qc}{g:Int->Int->Bool}
  (rule:∀(i j:Int)(t u:Tok)(s:qb)(Q:Δ)(E:Δ),Q (.bool (g i j)) s->'w' (f (.int i t) (.int j u)) Q E s):
  OpR X f (rI0 λi j=>.bl (g i j)):=by intro a s σ H x y v u Q I d c h;let#[i,j,J,J,q]:=h;let#[t,J]:=d;let#[b,J]:=c;erw[rule i j t b s _ _ #[.bl (g i j),H,I,J,q]]
def vik(i j:Int):Prop:=0<=j/\j<=1000000/\i.natAbs<2^64
def viq(i j:Int):Prop:=(-(2^64)<i/\i<2^64)\/(-(2^64)<j/\j<2^64)
def viq.ok{i j:Int}(h:viq i j):IntMulOk i j:=by
 rcases h with⟨a,b⟩|⟨a,b⟩
 .erw[.of_left (intBits_le_64 a b)]
 .erw[.of_right (intBits_le_64 a b)]
def yhs(k:Nat):(0:Int)<=2^k:=by rwa[two_pow_cast,Int.natCast_nonneg _]
def wl:OpR X (binaryOp .Add) (rI0 λi j=>.int (i+j)):=vin λZ Z Z Z Z Z Z q=>add_int q
def jg:OpR X (binaryOp .Sub) (rI0 λi j=>.int (i-j)):=vin λZ Z Z Z Z Z Z q=>sub_int q
def xk:OpR X (binaryOp .Mult) (rI viq λi j=>.int (i*j)):=opI λZ Z Z Z Z Z Z a q=>mul_int q a.ok
def wo:OpR X (binaryOp .Mod) (rI (λZ j=>0<j) λi j=>.int (i%j)):=opI λi j Z Z Z Z Z a q=>by
 have b:(0:Int)<j:=a;erw[mod_int' () (by rwa[Int.fmod_eq_emod_of_nonneg i (),q])]
def vbg:OpR X (binaryOp .Pow) (rI vik λi j=>.int (i^j.toNat)):=opI λZ Z Z Z Z Z Z a q=>pow_int_small a.1 a.2.1 a.2.2 q
def yqp:OpR X (binaryOp .RShift) (rI (λZ j=>0<=j) λi j=>.int (i/2^j.toNat)):=opI λi j Z Z Z Z Z a q =>
 rshift_int a (by rwa[Int.fdiv_eq_ediv_of_nonneg i (yhs _),q])
def yqc:OpR X (binaryOp .BitAnd) (rI0 λi j=>.int (Builtin.bitAnd i j)):=vin λZ Z Z Z Z Z Z q=>and_int q
def unI{f:qc->Sem qc}{g:Int->Int}
  (rule:∀(i:Int)(t:Tok)(s:qb)(Q:Δ)(E:Δ),Q (.int (g i) s.toks) {s with toks:=s.toks+1}->'w' (f (.int i t)) Q E s):
  UnR X f (rU λi=>.int (g i)):=by intro a s σ H x v Q I b h;let#[i,J,q]:=h;let#[t,J]:=b;erw[rule i t s _ _ #[.int (g i),H,I.tok _,#[_,J],q]]
def yc3:UnR X (unaryOp .USub) (rU λi=>.int (-i)):=unI λZ Z Z Z Z q=>neg_int q
end
end
mutual
noncomputable def vip:V->V->Bool
 | .non,.non=>true| .non,.int _=>true| .int _,.non=>true| .non,.bl _=>true| .bl _,.non=>true| .non,.str _=>true| .str _,.non=>true
 | .int _,.int _=>true| .bl _,.bl _=>true| .str _,.str _=>true| .byt _,.byt _=>true
 | .int _,.str _=>true| .str _,.int _=>true| .bl _,.str _=>true| .str _,.bl _=>true
 |_,_=>false
def rEq:R2:=λx y H Q=>vip x y=true/\Q (.bl (decide (x=y))) H
def rNe:R2:=λx y H Q=>vip x y=true/\Q (.bl (!decide (x=y))) H
def ylf{i j:Int}:decide (V.int i=V.int j)=(i == j):=by rw[Bool.eq_iff_iff];simp
def yqy{i j:Bool}:decide (V.bl i=V.bl j)=(i == j):=by rw[Bool.eq_iff_iff];simp
def yk3{i j:Str}:decide (V.str i=V.str j)=(i == j):=by rw[Bool.eq_iff_iff];simp
def ylw{i j:Array UInt8}:decide (V.byt i=V.byt j)=(i.toList == j.toList):=by rw[Bool.eq_iff_iff];cases i;cases j;simp
end
section
mutual
variable{a b c:qh}{tb tc:TE}{pos:Pos}
def wv{s:qb}{Q:VK}{k k':Bool}(I:'i' s)(q:Q (.bl k) H)(e:k=k'):EP X pins σ Q (.bool k') s:=by subst e;erw[.bl k,H,I,J,q]
def xj:OpR X (compareOp .Eq) rEq:=by
 intro e s σ H x y v u Q I d a h;let#[c,q]:=h
 cases x with
 |non =>
  cases d
  cases y with
  |non=>cases a;erw[PySem.EqNone.eq_none_none (wv I q 's')]
  |bl j=>cases a;erw[PySem.EqNone.eq_none_bool (wv I q 's')]
  |int j=>let⟨b,rfl⟩:=a;erw[PySem.EqNone.eq_none_int (wv I q 's')]
  |str j=>let⟨b,rfl⟩:=a;erw[PySem.EqNone.eq_none_str (wv I q 's')]
  |_=>erw[absurd (show false=true from c) bK]
 |bl i =>
  cases d
  cases y with
  |non=>cases a;erw[PySem.EqNone.eq_bool_none (wv I q 's')]
  |bl j=>cases a;erw[eq_bool (wv I q yqy)]
  |str j=>let⟨b,rfl⟩:=a;erw[PySem.EqMixed.eq_bool_str (wv I q 's')]
  |_=>erw[absurd (show false=true from c) bK]
 |int i =>
  let#[t,J]:=d
  cases y with
  |non=>cases a;erw[PySem.EqNone.eq_int_none (wv I q 's')]
  |int j=>let⟨b,rfl⟩:=a;erw[eq_int (wv I q ylf)]
  |str j=>let⟨b,rfl⟩:=a;erw[PySem.EqMixed.eq_int_str (wv I q 's')]
  |_=>erw[absurd (show false=true from c) bK]
 |str i =>
  let#[t,J]:=d
  cases y with
  |non=>cases a;erw[PySem.EqNone.eq_str_none (wv I q 's')]
  |bl j=>cases a;erw[PySem.EqMixed.eq_str_bool (wv I q 's')]
  |int j=>let⟨b,rfl⟩:=a;erw[PySem.EqMixed.eq_str_int (wv I q 's')]
  |str j=>let⟨b,rfl⟩:=a;erw[eq_str (wv I q yk3)]
  |_=>erw[absurd (show false=true from c) bK]
 |byt i =>
  let#[t,J]:=d
  cases y with
  |byt j=>let⟨b,rfl⟩:=a;erw[W.eq_bytes (wv I q ylw)]
  |_=>erw[absurd (show false=true from c) bK]
 |_=>cases y<;>erw[absurd (show false=true from c) bK]
def yiu:OpR X (compareOp .NotEq) rNe:=by
 intro e s σ H x y v u Q I d a h;let#[c,q]:=h
 cases x with
 |non =>
  cases d
  cases y with
  |non=>cases a;erw[PySem.EqNone.ne_none_none (wv I q 's')]
  |bl j=>cases a;erw[PySem.EqNone.ne_none_bool (wv I q 's')]
  |int j=>let⟨b,rfl⟩:=a;erw[PySem.EqNone.ne_none_int (wv I q 's')]
  |str j=>let⟨b,rfl⟩:=a;erw[PySem.EqNone.ne_none_str (wv I q 's')]
  |_=>erw[absurd (show false=true from c) bK]
 |bl i =>
  cases d
  cases y with
  |non=>cases a;erw[PySem.EqNone.ne_bool_none (wv I q 's')]
  |bl j=>cases a;erw[ne_bool (wv I q (congrArg not yqy))]
  |str j=>let⟨b,rfl⟩:=a;erw[PySem.EqMixed.ne_bool_str (wv I q 's')]
  |_=>erw[absurd (show false=true from c) bK]
 |int i =>
  let#[t,J]:=d
  cases y with
  |non=>cases a;erw[PySem.EqNone.ne_int_none (wv I q 's')]
  |int j=>let⟨b,rfl⟩:=a;erw[ne_int (wv I q (congrArg not ylf))]
  |str j=>let⟨b,rfl⟩:=a;erw[PySem.EqMixed.ne_int_str (wv I q 's')]
  |_=>erw[absurd (show false=true from c) bK]
 |str i =>
  let#[t,J]:=d
  cases y with
  |non=>cases a;erw[PySem.EqNone.ne_str_none (wv I q 's')]
  |bl j=>cases a;erw[PySem.EqMixed.ne_str_bool (wv I q 's')]
  |int j=>let⟨b,rfl⟩:=a;erw[PySem.EqMixed.ne_str_int (wv I q 's')]
  |str j=>let⟨b,rfl⟩:=a;erw[ne_str (wv I q (congrArg not yk3))]
  |_=>erw[absurd (show false=true from c) bK]
 |byt i =>
  let#[t,J]:=d
  cases y with
  |byt j=>let⟨b,rfl⟩:=a;erw[W.ne_bytes (wv I q (congrArg not ylw))]
  |_=>erw[absurd (show false=true from c) bK]
 |_=>cases y<;>erw[absurd (show false=true from c) bK]
def ybu:OpR X (compareOp .Lt) (rI0 λi j=>.bl (decide (i<j))):=vgo λZ Z Z Z Z Z Z q=>lt_int q
def ι:OpR X (compareOp .LtE) (rI0 λi j=>.bl (decide (i<=j))):=vgo λZ Z Z Z Z Z Z q=>le_int q
def yfi:OpR X (compareOp .Gt) (rI0 λi j=>.bl (decide (j<i))):=vgo λZ Z Z Z Z Z Z q=>gt_int q
def veg:OpR X (compareOp .GtE) (rI0 λi j=>.bl (decide (j<=i))):=vgo λZ Z Z Z Z Z Z q=>ge_int q
def yje:OpR X (compareOp .In) (λx y H Q=>∃i j,x=.str i/\y=.str j/\Q (.bl (!(Builtin.Str.occurrences j i 0 j.length 1).isEmpty)) H):=by intro a s σ H x y v u Q I c b h;let#[i,j,J,J,q]:=h;let#[t,J]:=c;let#[d,J]:=b;erw[in_str (wv I q J)]
def yxg:OpR X (compareOp .Is) (λx y H Q=>y=.non/\Q (.bl (decide (x=.non))) H):=by
 intro a s σ H x y v u Q I b c h;let#[J,q]:=h;cases c;erw[is_none_gen (wv I q ?_)]
 cases x<;>first
  |(cases b;rfl)
  |(let⟨t,rfl⟩:=b;rfl)
def Ą:OpR X (compareOp .IsNot) (λx y H Q=>y=.non/\Q (.bl (!decide (x=.non))) H):=by
 intro a s σ H x y v u Q I b c h;let#[J,q]:=h;cases c;erw[isnot_none_gen (wv I q ?_)]
 cases x<;>first
  |(cases b;rfl)
  |(let⟨t,rfl⟩:=b;rfl)
def ve(b:qh)(h:⇑(op≠.In))(h2:⇑(op≠.NotIn)):behindInMarks op b=false:=by
 have c:(op == CmpOp.In)=false:=by cases op<;>first|rfl|erw[absurd J h]
 have a:(op == CmpOp.NotIn)=false:=by cases op<;>first|rfl|erw[absurd J h2]
 delta behindInMarks
 rw[c,a]
 cases b<;>first|rfl|(show (_ && (false || false) && _)=false;rw[Bool.false_or,Bool.and_false,Bool.false_and])
def ud{r:R2}(ho:OpR X (compareOp op) r)(ha:PE X a ta)(hb:PE X b tb)(hm:behindInMarks op b=false):PE X (.Compare a [op] [b] pos) (tOp r ta tb):=by refine .mk λc s σ H Q I h=>?_;erw[wpAny_Compare1 (vgn ha hb I h λv u e x y d f g i q=>ho c e σ d x y v u Q f g i q) hm]
def ywq(t:TE):TT:=λσ H Q=>t σ H λx H'=>∃k,x=.bl k/\Q k H'
def yt{r:R2}(ho:OpR X (compareOp op) r)(ha:PE X a ta)(hb:PE X b tb)(hm:behindInMarks op b=false):PT X (.Compare a [op] [b] pos) (ywq (tOp r ta tb)):=by
 erw[.mk λd s σ H Q I h=>?_]
 erw[wpAny_isTrue_Compare1 (thn (ha d s σ H _ I h) λv q ⟨x,l,w,o,p⟩=>thn (hb d q σ l _ w p) λu m ⟨y,i,n,f,A⟩ =>
  thn (ho d m σ i x y v u _ n o f A) λc C ⟨z,B,g,j,k,e,t⟩=>?_) hm]
 subst e;cases j;erw[cI #[B,g,t]]
def yl5(r r':R2)(ta tb tc:TE):TE:=λσ H Q=>ta σ H λx H1=>tb σ H1 λy H2=>r x y H2 λz H3=>∃k,z=.bl k/\
 (if k=true then tc σ H3 λw' H4=>r' y w' H4 Q else Q (.bl false) H3)
def ð{op':CmpOp}{r r':R2}(ho:OpR X (compareOp op) r)(ho':OpR X (compareOp op') r')(ha:PE X a ta)(hb:PE X b tb)(hc:PE X c tc)
  (hm:lastMarks [op,op'] [b,c]=false:=by with_unfolding_all rfl):PE X (.Compare a [op,op'] [b,c] pos) (yl5 r r' ta tb tc):=by
 erw[.mk λf s σ H Q I h=>?_]
 erw[Compare_chain (thn (ha f s σ H _ I h) λv ς ⟨x,G,w,p,D⟩=>chain_link (thn (hb f ς σ G _ w D) λu C ⟨y,K,E,l,M⟩ =>
  thn (ho f C σ K x y v u _ E p l M) λd L ⟨z,g,i,m,k,e,j⟩=>?_)) hm]
 subst e;cases m;erw[cI ?_]
 cases k with
 |false=>erw[ite_ff #[.bl false,g,i,J,j]]
 |true=>erw[ite_tt (chain_last (thn (hc f L σ g _ i j) λo n ⟨t,B,q,A,F⟩=>ho' f n σ B y t u o Q q l A F))]
def ya4{op':CmpOp}{r r':R2}(ho:OpR X (compareOp op) r)(ho':OpR X (compareOp op') r')(ha:PE X a ta)(hb:PE X b tb)(hc:PE X c tc)
  (hm:lastMarks [op,op'] [b,c]=false:=by with_unfolding_all rfl):PT X (.Compare a [op,op'] [b,c] pos) (ywq (yl5 r r' ta tb tc)):=by
 erw[.mk λf s σ H Q I h=>?_]
 erw[isTrue_chain (thn (ha f s σ H _ I h) λv P ⟨x,O,w,p,F⟩=>test_link (thn (hb f P σ O _ w F) λu D ⟨y,R,ς,l,U⟩ =>
  thn (ho f D σ R x y v u _ ς p l U) λd S ⟨z,g,i,m,k,e,j⟩=>?_)) hm]
 subst e;cases m;erw[cI ?_]
 cases k with
 |false =>
  let#[Y,G,T]:=j;cases G;erw[ite_ff #[g,i,T]]
 |true =>
  erw[ite_tt (test_last (thn (hc f S σ g _ i j) λo n ⟨t,C,q,B,N⟩=>thn (ho' f n σ C y t u o _ q l B N) λZ s5 h'=>?_))];let#[W,A,E,L,k2,K,M]:=h';subst K;cases L;erw[cI #[A,E,M]]
def yc5:(sizeLine:Nat)<2^63:=by rw[sizeLine_eq];decide
def uo:OpR X (binaryOp .Add) (λx y H Q=>∃i j,x=.str i/\y=.str j/\i.length+j.length<=sizeLine/\Q (.str (i++j)) H):=by intro a s σ H x y v u Q I c d h;let#[i,j,J,J,e,q]:=h;let#[t,J]:=c;let#[b,J]:=d;erw[add_str (λb f=>#[.str (i++j),H,I.tok _,#[_,J],q]) e]
def ynp(b:qh):Prop:=∀o i,subscripted b false o i=operate [o,i] (getItem o i)
def zz(ha:PE X a ta)(hb:PE X b tb)(hs:ynp b):
  PE X (.Subscript a b pos) (tOp (λx y H Q=>∃z i c,x=.str z/\y=.int i/\0<=i/\i<2^63/\i<z.length/\z.cps[i.toNat]?=some c/\Q (.str ⟨#[c]⟩) H) ta tb):=by
 erw[.mk λd s σ H Q I h=>?_,<-Subscript_ (vgn ha hb I h λv u j x y f o m n q=>?_)];let#[z,i,c,J,J,l,w,k,p,q]:=q;let#[t,J]:=m;let#[A,J]:=n;have e:seqIndex? i z.length=some i.toNat:=PySem.StrLaws.seqIndex_nonneg l k
 erw[tail_any (typeIs_str j z t) slot_str_getitem.lookup (getItem_str (c:=c) (by
  have g:decide (i< -(2^63:Int))=false:=bD ();have r:decide (i ≥ 2^63)=false:=bD ();rw[g,r]<;>rfl) (by rwa[e,p]) #[.str ⟨#[c]⟩,f,o.tok _,#[_,J],q]) (hs _ _)]
def Ő{x:V}(r:xc [x] us):∃u,us=[u]/\ub x u:=by
 cases r with
 |cons r1 r2=>cases r2;exists _,J,r1
def ym0{x:V}(r:xc [x,y] us):∃u w',us=[u,w']/\ub x u/\ub y w':=by
 cases r with
 |cons r1 r2 =>
  cases r2 with
  |cons r3 r4=>cases r4;erw[_,_,J,r1,r3]
def ľ(hc:X.calm=true):θ X (.builtin "max") (λxs H Q=>∃i j,xs=[.int i,.int j]/\Q (.int (if j > i then j else i)) H):=by
 intro a s σ H xs d Q I r h;let#[i,j,J,q]:=h;let#[u,e,J,#[t,J],#[f,J]]:=ym0 r;erw[max_two_ints (I.ok.hd hc) λb c k=>#[_,H,I.kept k,?_,q]];by_cases hj:j > i
 .rw[if_pos hj,if_pos hj];erw[_,rfl]
 .rw[if_neg hj,if_neg hj];erw[_,rfl]
def ĸ(hc:X.calm=true):θ X (.builtin "min") (λxs H Q=>∃i j,xs=[.int i,.int j]/\Q (.int (if j<i then j else i)) H):=by
 intro a s σ H xs d Q I r h;let#[i,j,J,q]:=h;let#[u,e,J,#[t,J],#[f,J]]:=ym0 r;erw[min_two_ints (I.ok.hd hc) λb c k=>#[_,H,I.kept k,?_,q]];by_cases hj:j<i
 .rw[if_pos hj,if_pos hj];erw[_,rfl]
 .rw[if_neg hj,if_neg hj];erw[_,rfl]
def Ŀ:θ X (.type "int") (λxs H Q=>(∃i,xs=[.int i]/\Q (.int i) H)\/∃k,xs=[.bl k]/\Q (.int (if k then 1 else 0)) H):=by
 intro a s σ H xs c Q I r h;rcases h with⟨i,rfl,q⟩|⟨k,rfl,q⟩
 .let#[u,J,t,J]:=Ő r;erw[call_int_int #[.int i,H,I,#[_,J],q]]
 .let#[u,J,b]:=Ő r;cases b;erw[call_int_bool #[.int (if k then 1 else 0),H,I.tok _,#[_,J],q]]
end
end
mutual
structure yw4(h:qg)(x dx C:qa)(mA:Ε):Prop where
 obj:h.get? x=some (W.instObj C dx)
 ns:h.Ns1 dx mA
 ne:dx≠x
end
set_option tactic.hygienic true in
def ykb{h:qg}{dx:qa}(n:h.Ns1 dx mA):∃od,h.get? dx=some od/\∀name,W.lookIn name od=some (mA name):=by
 let#[o,c,l,i,d,g,_,f]:=n;erw[o,i,λname=>?_];let e:=f name;unfold nsFind findBy at e;rw[<- Array.find?_toList]at e;unfold W.lookIn;rw[d];dsimp only
 split
 .rename_i y q
  rw[q]at e;erw[congrArg some e]
 .rename_i q
  rw[q]at e
  have a:c.toList.any (·.refKey)=false:=by
   rw[List.any_eq_false];intro y j;let#[z,t,b]:=g y (Array.mem_toList_iff.mp j);simp[DictEntry.refKey,b]
  have k:¬c.toList.any (·.refKey)=true:=by rwa[a,bK]
  rwa[if_neg k,congrArg some e]
def yw4.look{h:qg}{x dx:qa}(I:yw4 h x dx C mA):∃od,W.InstAt h x (W.instObj C dx) C (some od)/\∀name,W.lookIn name od=some (mA name) :=
 let #[od,ho,hl]:=ykb I.ns
 #[od,#[I.obj,J,J,ho],hl]
section
mutual
variable{prog:qi}{w:qe}{A:qf}{s:qb}{K:xy}{x dx f:qa}{name:Str}{v:qc}
def ytz{expr:Bool}(X:K.In s.heap)(I:yw4 s.heap x dx C mA)(hg:W.plainGet K C name=true)(hh:W.hasDictIn K C=true)
  (ha:W.findIn K (.ref C) name=some none) (hv:mA name=some v) (hv':W.handedIn v=true) (h:Q v {s with toks:=s.toks+1}):
  wpAny (model prog w) A (getAttr (.ref x) name expr) Q E s:=by let#[b,ς,a]:=I.look;erw[W.get_value X ς (W.plainGet_of hg).1 (W.findObj_own hh ha J (by rw[a,hv])) hv' h]
def yn4{pl:Sem Bool}{Q:qc×qj qc->qb->Prop}(X:K.In s.heap)(I:yw4 s.heap x dx C mA)(hg:W.plainGet K C name=true)
  (hf:W.findIn K (.ref C) name=some (some (.ref f))) (ht:W.isFn K (.ref f)=true) (hv:mA name=none) (h:Q (.ref f,[.ref x]) s):
  wpAny (model prog w) A (getMethod (.ref x) name pl) Q E s:=by let#[a,ς,b]:=I.look;erw[W.method_fn X ς (W.plainGet_of hg).1 (W.plainGet_of hg).2 hf (beq_iff_eq.mp ht) (by show (W.lookIn name a).map (·.isSome)=some false;rw[b,hv];rfl) h]
def yvg{ns:Ρ}{Q:Unit->qb->Prop}(X:K.In s.heap)(I:yw4 s.heap x dx C mA)
  (hs:W.findIn K (.ref C) "__setattr__"=some (some (.builtin "object.__setattr__"))) (hp:W.plainOver K C=true) (ht:W.takerIn K C name=some none) (hh:W.hasDictIn K C=true)
  (hw:PySem.Within mA ns) (hsz:ns.length<=sizeLine)
  (h:∀h',yw4 h' x dx C (λy=>if y=name then some v else mA y)->Heap.SameBut dx s.heap h'->Q ⟨⟩ {s with heap:=h',toks:=s.toks+2}):
  wpAny (model prog w) A (setAttr (.ref x) name v) Q E s:=by let#[p,ς,q]:=I.look;erw[W.set_plain X ς hs (W.osa_open (s:={s with toks:=s.toks+1}) (r:=none) X ς hp ht λb=>?_)];let#[o,k,f]:=W.any_some hh;have m:s.heap.get? x=some #[.ref C,some dx,.plain,#[]]:=I.obj;erw[bj (bv (bj (bj (wpAny_loadPart m (bj (W.Looks.here (s:={s with toks:=s.toks+1}) (W.looks_clsIn X k) ?_))))))];rwa[f,bv (a:=some dx) (bj (bv (bj ?_)))];erw[wpAny_nsSet1 (s:={s with toks:=s.toks+1}) I.ns λh' d c=>?_];let#[n,l,j,e,g,i]:=d.count (PySem.Within.cons name v hw);erw[bj (wpAny_lookBehind e (by rwa[g,pastItsLine_dict (ck i (by rw[bN];omega))]) ?_),<-bv (h _ #[(c.2 _ (Ne.symm I.ne)).trans I.obj,d,I.ne] c)]
def ygj{R:Result->qb->Prop}{vs:Ξ}(X:K.In s.heap)(hm:W.makesIn K C=true)
  (hi:W.findIn K (.ref C) "__init__"=some (some (.ref f))) (hf:W.typeIn K (.ref f)=some (.type "function"))
  (h:codeAny (model prog w) (A.under (.builtin "type.__call__" #[.ref C::vs,kw])) (.call (.ref f) #[.ref ('n'+1)::vs,kw]) (W.InitBack ('n'+1) R)
   {s with heap:=(s.heap.push W.emptyDict).push (W.instObj C 'n')}):
  codeAny (model prog w) A (.call (.ref C) #[vs,kw]) R s:=by let#[c,g,d,t,b]:=s;erw[W.make_core (W.makes_of X hm) (W.looks_findIn X hi) (λa=>W.bind_fn X a hf) (.inl J) h]
end
end
mutual
noncomputable def Ñ(f:Str)(v:V):qj (Str×V)->qj (Str×V)
 |[]=>[(f,v)]
 |(g,x)::r=>if g=f then (g,v)::r else (g,x)::Ñ f v r
theorem ĭ(f g:Str)(v:V):∀fs:Ι,(Ñ f v fs).lookup g=if g=f then some v else fs.lookup g
 |[]=>by
  show List.lookup g [(f,v)]=_;by_cases h:g=f
  .have a:(g == f)=true:=beq_iff_eq.mpr h;simp only[List.lookup,a,if_pos h]
  .have a:(g == f)=false:=c9.mpr h;simp only[List.lookup,a,if_neg h]
 |(k,x)::r=>by
  let b:=ĭ f g v r;rw[show Ñ f v ((k,x)::r)=(if k=f then (k,v)::r else (k,x)::Ñ f v r)from rfl];by_cases hk:k=f
  .rw[if_pos hk];by_cases h:g=k
   .have a:(g == k)=true:=beq_iff_eq.mpr h;simp only[List.lookup,a,if_pos (h.trans hk)]
   .have a:(g == k)=false:=c9.mpr h;simp only[List.lookup,a,if_neg (λe:g=f=>h (e.trans hk.symm))]
  .rw[if_neg hk];by_cases h:g=k
   .have a:(g == k)=true:=beq_iff_eq.mpr h;simp only[List.lookup,a,if_neg (λe:g=f=>hk (h.symm.trans e))]
   .have a:(g == k)=false:=c9.mpr h;simp only[List.lookup,a];erw[b]
theorem Ĺ(f:Str)(v:V):∀fs:Ι,f∈(Ñ f v fs).map (·.1)/\∀g,g∈fs.map (·.1)->g∈(Ñ f v fs).map (·.1)
 |[]=>#[by simp[Ñ],λg h=>by simp at h]
 |(k,x)::r=>by
  let#[a,b]:=Ĺ f v r;rw[show Ñ f v ((k,x)::r)=(if k=f then (k,v)::r else (k,x)::Ñ f v r)from rfl];by_cases hk:k=f
  .rw[if_pos hk];subst hk;exists 's',λg h=>by simpa using h
  .rw[if_neg hk];exists ?_,λg h=>?_
   .rw[cb];erw[cg _ a]
   .rw[cb]at h⊢;rcases bH.mp h with e|e
    .erw[bH.mpr (.inl e)]
    .erw[cg _ (b g e)]
theorem ĵ(f:Str)(v:V):∀fs:Ι,(Ñ f v fs).length<=fs.length+1
 |[]=>by simp[Ñ]
 |(k,x)::r=>by
  let a:=ĵ f v r;rw[show Ñ f v ((k,x)::r)=(if k=f then (k,v)::r else (k,x)::Ñ f v r)from rfl];by_cases hk:k=f
  .rw[if_pos hk,bN,bN];omega
  .rw[if_neg hk,bN,bN];omega
def ydi.some_of{o:ql qc}(r:ydi (some v) o):∃u,o=some u/\ub v u:=by
 cases o with
 |none=>erw[(show False from r).elim]
 |some u=>erw[u,J,r]
def ydi.none_of{o:ql qc}(r:ydi none o):o=none:=by
 cases o with
 |none=>rfl
 |some u=>erw[(show False from r).elim]
def ykq(r:ub v u):W.handedIn u=true:=by
 cases v with
 |non=>cases (show u=Value.none from r);rfl
 |bl b=>cases (show u=Value.bool b from r);rfl
 |int i=>let⟨t,e⟩:=(show ∃t,u=Value.int i t from r);cases e;rfl
 |str x=>let⟨t,e⟩:=(show ∃t,u=Value.str x t from r);cases e;rfl
 |byt b=>let⟨t,e⟩:=(show ∃t,u=Value.bytes b t from r);cases e;rfl
 |flt b=>let⟨t,e⟩:=(show ∃t,u=Value.float b t from r);cases e;rfl
 |ref a=>cases (show u=Value.ref a from r);rfl
 |ty n=>cases (show u=Value.type n from r);rfl
end
section
variable{w:qe}{h:qg}{dx:qa}{fs fs':Ι}
def ybl(hok:HOk P w H h)(e:H a∩C dx fs):∃mA,yw4 h a dx C mA/\(∀f,ydi (fs.lookup f) (mA f))/\PySem.Within mA (fs.map (·.1))/\fs.length<=1000/\H dx=some (.own a):=by let#[d,z,c,b,mA,n,r,q]:=(show xn P w H h a (.ins C dx fs)from hok a _ e);erw[mA,#[b,n,c],r,q,z,d]
end
mutual
structure Cls(K:xy)(C:qa):Prop where
 pg:W.plainGet K C Str.empty=true
 hd:W.hasDictIn K C=true
 po:W.plainOver K C=true
 sa:W.findIn K (.ref C) "__setattr__"=some (some (.builtin "object.__setattr__"))
def Cls.get{K:xy}(c:Cls K C)(f:Str):W.plainGet K C f=true:=c.pg
def NoAttr(K:xy)(C:qa)(f:Str):Prop:=W.findIn K (.ref C) f=some none
def NoAttr.taker{K:xy}{f:Str}(n:NoAttr K C f):W.takerIn K C f=some none:=by unfold W.takerIn;rw[show W.findIn K (.ref C) f=some none from n];rfl
structure Con(K:xy)(C:qa)(f:Str)(v:V)(u:qc):Prop where
 at_:W.findIn K (.ref C) f=some (some u)
 rel:ub v u
 get:W.specialIn K u "__get__"=some none
 cp:W.copiedNames.contains f=false
structure Meth(K:xy)(C:qa)(m:Str)(f:qa):Prop where
 at_:W.findIn K (.ref C) m=some (some (.ref f))
 fn:W.isFn K (.ref f)=true
 kp:W.keepIn K (.ref f)=true
end
section
mutual
variable{s:qb}{dx:qa}{fs:Ι}{f:Str}{A:qf}
def yif{b:Bool}(I:'i' s)(e:H a∩C dx fs)(c:Cls X.K C)(n:NoAttr X.K C f)(l:fs.lookup f=some v)
  (h:∀u s','i' s'->ub v u->Q u s'):wpAny (model X.prog X.w) A (getAttr (.ref a) f b) Q E s:=by let#[i,O,r,_,_,_]:=ybl I.hok e;let#[u,g,d]:=ydi.some_of (v:=v) (o:=i f) (by rwa[<- l,r f]);erw[ytz I.kIn O (c.get f) c.hd n g (ykq d) (h u _ (I.tok _) d)]
def Ç{m:Str}{g:qa}{pl:Sem Bool}{Q:qc×qj qc->qb->Prop}(I:'i' s)(e:H a∩C dx fs)(c:Cls X.K C)(k:Meth X.K C m g)(l:fs.lookup m=none)
  (h:Q (.ref g,[.ref a]) s):wpAny (model X.prog X.w) A (getMethod (.ref a) m pl) Q E s:=by let#[d,O,r,_,_,_]:=ybl I.hok e;have b:d m=none:=ydi.none_of (by rwa[<- l,r m]);erw[yn4 I.kIn O (c.get m) k.at_ k.fn b h]
def yic{Q:Unit->qb->Prop}(I:'i' s)(e:H a∩C dx fs)(c:Cls X.K C)(n:NoAttr X.K C f)(hl:fs.length<1000)(ry:ub y u)
  (h:∀s',Inv X pins σ (upd H a (.ins C dx (Ñ f y fs))) s'->Q ⟨⟩ s'):wpAny (model X.prog X.w) A (setAttr (.ref a) f u) Q E s:=by
 let#[i,O,r,j,_,k]:=ybl I.hok e;have B:(fs.map (·.1)).length<=sizeLine:=by rw[bo,sizeLine_eq];omega
 erw[yvg I.kIn O c.sa c.po n.taker c.hd j B λm d p=>h _ ?_];have l:∃o,m.get? dx=some o:=let ⟨o,_,_,e',_⟩:=d.ns;#[o,e'];erw[I.write (x:=a) (e:=dx) (by rwa[e,True.intro]) (.inr k) (λb q t z=>(p.2 b t).trans z) l ?_];exists by rwa[yn O.ne,k],?_,O.ne,d.obj,_,d.ns,λg=>?_,λg v=>?_
 .have:=ĵ f y fs;omega
 .show ydi ((Ñ f y fs).lookup g) (if g=f then some u else i g);rw[ĭ];by_cases q:g=f
  .rw[if_pos q,if_pos q];erw[ry]
  .rw[if_neg q,if_neg q];erw[r g]
 .by_cases q:g=f
  .rw[q];erw[(Ĺ f y fs).1]
  .erw[(Ĺ f y fs).2 g (j g λz=>v ?_)];show (if g=f then some u else i g)=none;rwa[if_neg q,z]
def Inv.made(I:'i' s):Inv X pins σ (upd (upd H 'n' (.own ('n'+1))) ('n'+1) (.ins C 'n' []))
  {s with heap:=(s.heap.push W.emptyDict).push (W.instObj C 'n')}:=by
 have c:(s.heap.push W.emptyDict).get? 'n'=some W.emptyDict:=bC s.heap J
 have j:((s.heap.push W.emptyDict).push (W.instObj C 'n')).get? ('n'+1)=some (W.instObj C 'n'):=by
  have:=bC (s.heap.push W.emptyDict) (o:=W.instObj C 'n') J
  rwa[Heap.size_push]at this
 have f:(s.heap.push W.emptyDict).Ns 'n' (λZ=>none):=#[W.emptyDict,#[],_,c,J,(λe g=>absurd g 's'),λZ=>rfl];let i:=I.laid (a:='n') (o:=.own ('n'+1)) (h':=s.heap.push W.emptyDict) (t':=s.toks) (λb u q=>br _ q) (bx _) #[_,c];erw[i.laid (a:='n'+1) (o:=.ins C 'n' []) (t':=s.toks) (λb u q=>br _ q) (Nat.le_of_eq (Heap.size_push _ _)) ?_];have d:'n'≠s.heap.objs.size+1:=bY (Nat.lt_succ_self _);exists by rw[yn d,ya],bR _,d,j,λZ=>none,(Heap.Ns1.of_empty f).at λo q=>br _ q,λZ=>True.intro,λy h=>absurd J h
def yv2{prog:qi}{w:qe}{env:Env}{e:qh}{pos:Pos}(hb:attributeBase e f env (eval e env)=eval e env)
  (h:wpAny (model prog w) A (eval e env) (λo s₁=>wpAny (model prog w) A (getAttr o f true) Q E s₁) E s):wpAny (model prog w) A (eval (.Attribute e f pos) env) Q E s :=
 Attribute_any_ h (by rw[arm_eval_Attribute,hb])
end
end
def vgi(K:xy)(ta:TE)(f:Str):TE:=λσ H Q=>ta σ H λx H1=>∃a C dx fs v,x=.ref a/\H1 a∩C dx fs/\Cls K C/\NoAttr K C f/\fs.lookup f=some v/\Q v H1
def vi3(K:xy)(ta tv:TE)(f:Str):TS:=λD σ H=>tv σ H λy H1=>ta σ H1 λx H2=>∃a C dx fs,x=.ref a/\H2 a∩C dx fs/\Cls K C/\NoAttr K C f/\fs.length<1000/\
 D.nx σ (upd H2 a (.ins C dx (Ñ f y fs)))
section
mutual
variable{o e value:qh}{f:Str}{pos pos' tpos:Pos}{tv:TE}
def jj(he:PE X e ta)(hb:attributeBase e f X.env (eval e X.env)=eval e X.env):PE X (.Attribute e f pos) (vgi X.K ta f):=by refine .mk λb s σ H Q I h=>?_;erw[yv2 hb (thn (he b s σ H _ I h) λu r h'=>?_)];let#[x,g,o,m,a,C,w,t,v,d,k,c,n,l,q]:=h';subst d;obtain rfl:u=Value.ref a:=m;erw[yif o k c n l λy p i j=>#[v,g,i,j,q]]
def vj(ha:PE X o ta)(hv:PE X value tv)(hs:swapsWith value (some (.Attribute o f pos')) pos.line X.env=pure false):PS X (.Assign [.Attribute o f pos'] value pos) (vi3 X.K ta tv f):=by refine .mk λb s σ H D I h=>?_;erw[plainObj_wpAny_Assign_Attribute (thn (hv b s σ H _ I h) λu k ⟨y,g,t,r,q⟩=>thn (ha b k σ g _ t q) λp A h'=>?_) hs];let#[x,w,i,m,a,C,E,B,d,j,c,n,l,v]:=h';subst d;obtain rfl:p=Value.ref a:=m;erw[yic i j c n l r λz e=>#[σ,_,e,v]]
end
end
section
mutual
variable{s:qb}{A:qf}{c:qc}{b:Bool}
inductive xf(K:xy)(H:Hp):V->qc->Prop where
 |non:xf K H .non (.type "NoneType")
 |bl (x:Bool):xf K H (.bl x) (.type "bool")
 |int (i:Int):xf K H (.int i) (.type "int")
 |str (x:Str):xf K H (.str x) (.type "str")
 |flt (x:UInt64):xf K H (.flt x) (.type "float")
 |lst {a:qa} {xs:Τ} (e:H a\xs):xf K H (.ref a) (.type "list")
 |frz {a:qa} {o:Obj} {xs:Τ} (e:H a=some (.frz o (.lst xs))):xf K H (.ref a) (.type "list")
 |tup {a:qa} {xs:Τ} (e:H a∪xs):xf K H (.ref a) (.type "tuple")
 |dK {a:qa} {kvs:qj (Key×V)} (e:H a=some (.dK kvs)):xf K H (.ref a) (.type "dict")
 |dT {a:qa} {kvs:qj (qj Key×V)} (e:H a=some (.dT kvs)):xf K H (.ref a) (.type "dict")
 |ins {a C dx:qa} {fs:Ι} (e:H a∩C dx fs) (cl:Cls K C) (ha:W.findIn K (.ref C) "__class__"=some (some (.builtin "object.__class__")))
   (hn:W.specialIn K (.builtin "object.__class__") "__get__"=some (some (.builtin "getset_descriptor.__get__"))) (htk:W.takesIn K (.builtin "object.__class__")=some true)
   (hm:W.mroIn K C (.type "object")=some true):xf K H (.ref a) (.ref C)
def yjp{x:V}{t:qc}(I:'i' s)(rx:ub x u)(ty:xf X.K H x t)(e:W.kitOne X.K t c=some b)(h:∀tk,Q (.bool b) {s with toks:=tk}):
  wpAny (model X.prog X.w) A (call (.builtin "isinstance") [u,c]) Q E s:=by
 cases ty with
 |non=>cases (show u=Value.none from rx);erw[W.kia_one W.kitx_none I.kIn True.intro e (λz=>nomatch z) h]
 |bl y=>cases (show u=Value.bool y from rx);erw[W.kia_one W.kitx_bool I.kIn True.intro e (λz=>nomatch z) h]
 |int i=>let⟨t,q⟩:=(show ∃t,u=Value.int i t from rx);cases q;erw[W.kia_one W.kitx_int I.kIn True.intro e (λz=>nomatch z) h]
 |str y=>let⟨t,q⟩:=(show ∃t,u=Value.str y t from rx);cases q;erw[W.kia_one W.kitx_str I.kIn True.intro e (λz=>nomatch z) h]
 |flt y=>let⟨t,q⟩:=(show ∃t,u=Value.float y t from rx);cases q;erw[W.kia_one W.kitx_float I.kIn True.intro e (λz=>nomatch z) h]
 | @lst a xs ea =>
  cases (show u=Value.ref a from rx);let#[_,_,n,_,d]:=(show xn X.prog X.w H s.heap a (.lst xs)from I.hok a _ ea)
  erw[W.kia_one W.kitx_list I.kIn #[_,d,J] e (λz=>nomatch z) h]
 | @frz a ob xs ea =>
  cases (show u=Value.ref a from rx);let#[_,_,_,n,_,d]:=(show xn X.prog X.w H s.heap a (.frz ob (.lst xs))from I.hok a _ ea)
  erw[W.kia_one W.kitx_list I.kIn #[_,d,J] e (λz=>nomatch z) h]
 | @tup a xs ea =>
  cases (show u=Value.ref a from rx);let#[_,_,_,p]:=(show xn X.prog X.w H s.heap a (.tup xs)from I.hok a _ ea);let#[o,d,f,_]:=p
  erw[W.kia_one W.kitx_tuple I.kIn #[o,d,f] e (λz=>nomatch z) h]
 | @dK a kvs ea =>
  cases (show u=Value.ref a from rx);let#[_,_,k,_,p]:=(show xn X.prog X.w H s.heap a (.dK kvs)from I.hok a _ ea);let#[o,j,g,d,f,_]:=p
  erw[W.kia_one W.kitx_dict I.kIn #[o,d,f.1] e (λz=>nomatch z) h]
 | @dT a kvs ea =>
  cases (show u=Value.ref a from rx);let#[_,_,xs,_,o,j,g,d,f,_]:=(show xn X.prog X.w H s.heap a (.dT kvs)from I.hok a _ ea)
  erw[W.kia_one W.kitx_dict I.kIn #[o,d,f.1] e (λz=>nomatch z) h]
 | @ins a C dx fs ea cl ha hn htk hm =>
  cases (show u=Value.ref a from rx);let#[m,O,_]:=ybl I.hok ea;let#[l,ς,_]:=O.look
  erw[W.kia_one (W.kitx_own (cl.get _) cl.hd ha hn htk hm) I.kIn ς e (λz=>nomatch z) h]
end
end
mutual
structure ο(k:Nat)(A:qf):Prop where
 hd:A.handled=none
 dp:A.depth+3*k+5<recursionLimit
 un:A.units+16*k+200<cLine
def ο.mono{j k:Nat}{A:qf}(r:ο k A)(h:j<=k):ο j A:=#[r.hd,by have:=r.dp;omega,by have:=r.un;omega]
theorem ο.deeper{k:Nat}{A:qf}(r:ο (k+1) A)(env:Env):ο k (A.deeper env) :=
 #[r.hd,by have:=r.dp;show A.depth+1+3*k+5<_;omega,by have:=r.un;show A.units+3+16*k+200<_;omega]
def yil{A:qf}:(A.under (.builtin "type.__call__" #[.ref C::us,kw])).depth=A.depth+1:=by first|rfl|simp[Around.under,Code.weight,Code.isCreation,Code.isGuard,Code.isCaller,Code.frames,Code.isFrame,guardIds]
def yii{A:qf}:(A.under (.builtin "type.__call__" #[.ref C::us,kw])).units=A.units+1:=by first|rfl|simp[Around.under,Code.cUnits,Code.frames,Code.isFrame]
def ο.make{k:Nat}{A:qf}(r:ο (k+1) A)(C:qa)(us:Ξ)(kw:qj (Str×qc)):ο k (A.under (.builtin "type.__call__" #[.ref C::us,kw])) :=
 #[r.hd,by have:=r.dp;rw[yil];omega,by have:=r.un;rw[yii];omega]
theorem ο.depth{k:Nat}{A:qf}(r:ο k A):A.depth<recursionLimit:=by have:=r.dp;omega
theorem ο.units{k:Nat}{A:qf}(r:ο k A):A.units+64<cLine:=by have:=r.un;omega
def yhh:TA:=λZ H Q=>Q [] H
def yin(ta:TE)(tr:TA):TA:=λσ H Q=>ta σ H λx H1=>tr σ H1 λxs H2=>Q (x::xs) H2
end
section
mutual
variable{e:qh}{t:TA}{pos:Pos}
def xo:PA X [] yhh:=.mk λZ Z Z Z H Q I h=>Calls.spliced_nil #[[],H,I,.nil,h]
def x9(ha:PE X e te)(hr:PA X es t)(hs:↑'a'):PA X (e::es) (yin te t):=by refine .mk λb a s σ H Q I h=>?_;rw[hs];show wpAny _ _ (spliced ((false,eval e X.env)::backTo b (starEach es X.env))) _ _ s;erw[Calls.spliced_cons (thn (ha a s σ H _ I h) λu l h'=>?_)];let#[x,f,m,i,j]:=h';erw[thn (hr b a l σ f _ m j) λo p ⟨k,d,g,c,n⟩=>#[x::k,d,g,.cons i c,n]]
def vjb(t:TA):TE:=λσ H Q=>t σ H λxs H1=>xs.length<=sizeLine/\∀p,H1 p=none->Q (.ref p) (upd H1 p (.tup xs))
def vif(t:TA):TE:=λσ H Q=>t σ H λxs H1=>xs.length<=sizeLine/\∀p,H1 p=none->Q (.ref p) (upd H1 p (.lst xs))
def we{x1}(h:PA X es t):PE X (.Tuple es x1 pos) (vjb t):=by refine .mk λa s σ H Q I j=>?_;erw[wpAny_Tuple_spliced (thn (h pos a s σ H _ I j) λi c ⟨k,d,f,r,z,q⟩=>#[by rwa[<- r.length,z],?_])];have g:d c.heap.objs.size=none:=f.hok.fresh (bx _);erw[.ref c.heap.objs.size,upd d c.heap.objs.size (.tup k),f.laid (t':=c.toks) (λb u e=>br _ e) (bx _) ?_,J,q _ g,<-z,i,r,#[_,bC _ J,J,_,J]]
def vn(h:PA X es t):PE X (.List es pos) (vif t):=by refine .mk λa s σ H Q I j=>?_;erw[wpAny_List_spliced (thn (h pos a s σ H _ I j) λi c ⟨k,d,f,r,z,q⟩=>#[by rwa[<- r.length,z],?_])];have g:d c.heap.objs.size=none:=f.hok.fresh (bx _);erw[.ref c.heap.objs.size,upd d c.heap.objs.size (.lst k),f.laid (t':=c.toks) (λb u e=>br _ e) (bx _) ?_,J,q _ g,<-z,i,0,r,bC _ J]
end
end
mutual
abbrev Sp:=qj V->Hp->VK->XK->Prop
abbrev CXT:=qj Env->Hp->qb->XK->qc->qb->Prop
variable{CX:CXT}
structure yw1(P:qi)(w:qe)(K:xy)(mg:Ε)(base:qg)(A:qf)(outer:qj Env)(s:qb)(H:Hp):Prop where
 frames:A.frames=some outer
 mod:Mod K mg base
 bs:∀b o,base.get? b=some o->s.heap.get? b=some o/\H b=none
 bsz:base.objs.size<='n'
 funs:s.heap.FunFrames base outer
 frf:∀b∈frs outer,H b=none
 hok:HOk P w H s.heap
 bare:AllBare s.gens
def CE(outer:qj Env)(P:qi)(w:qe)(H:Hp)(s:qb)(Q:VK)(u:qc)(s':qb):Prop :=
 ∃v H',s'.os=s.os/\AllBare s'.gens/\Un (frs outer) [] H H' s.heap s'.heap/\HOk P w H' s'.heap/\ub v u/\Q v H'
def CR(CX:CXT)(outer:qj Env)(P:qi)(w:qe)(H:Hp)(s:qb)(Q:VK)(E:XK)(r:Result)(s':qb):Prop :=
 match r with
 | .ok (.ret u)=>CE outer P w H s Q u s'
 | .ok _=>False
 | .error e=>CX outer H s E e s'
structure vx(P:qi)(w:qe)(K:xy)(mg:Ε)(base:qg)(CX:CXT)(k:Nat)(f:qa)(fd:FuncData)(ps:Ρ)(sp:Sp):Prop where
 len:∀vs H Q E,sp vs H Q E->vs.length=ps.length
 run:∀(A:qf)(outer:qj Env)(s:qb)(H:Hp)(args:Args)(us:Ξ)(vs:Τ)(Q:VK)(E:XK),ο k A->yw1 P w K mg base A outer s H->BindsTo s fd args (ps.zip us)->xc vs us->sp vs H Q E ->
  codeAny (model P w) A (.call (.ref f) args) (CR CX outer P w H s Q E) s
def yw1.make{w:qe}{K:xy}{mg:Ε}{base:qg}{A:qf}{outer:qj Env}{s:qb}(e:yw1 P w K mg base A outer s H)(C:qa)(us:Ξ)(kw:qj (Str×qc)):
  yw1 P w K mg base (A.under (.builtin "type.__call__" #[.ref C::us,kw])) outer s H:=#[by first|erw[e.frames]|(simpa[Around.under,Code.envs,Code.isFrame,pushEnvs]using e.frames),e.mod,e.bs,e.bsz,e.funs,e.frf,e.hok,e.bare]
end
section
mutual
variable{s:qb}
def Inv.env0(I:'i' s):yw1 X.prog X.w X.K X.mg X.base X.A X.stack s H :=
 #[I.ok.frames,I.ok.mod,I.bs,ck I.ok.bsz I.sz,I.stack,I.stkFree,I.hok,I.bare]
def Inv.after{Q:VK}(I:'i' s)(h:CE X.stack X.prog X.w H s Q u s'):EP X pins σ Q u s':=by let#[v,k,f,a,i,c,r,q]:=h;let#[j,g,d,t,e]:=s';obtain rfl:e=s.os:=f;erw[v,k,I.call (h':=j) (g':=g) (d':=d) (t':=t) (ch:=[]) i c a (λb z=>absurd z 's'),r,q]
end
end
mutual
def ywp(sp:Sp)(dvs:Τ)(E:XK)(t:TA):TE:=λσ H Q=>t σ H λvs H1=>sp (vs++dvs) H1 Q E
def ş(C:qa)(m:Str)(sp:Sp)(dvs:Τ)(E:XK)(ta:TE)(t:TA):TE:=λσ H Q=>ta σ H λx H1=>∃a dx fs,x=.ref a/\H1 a∩C dx fs/\fs.lookup m=none/\
 t σ H1 λvs H2=>sp (x::(vs++dvs)) H2 Q E
def ywt(C:qa)(sp:Sp)(dvs:Τ)(E:XK)(t:TA):TE:=λσ H Q=>t σ H λvs H1=>∀x dx,H1 x=none->H1 dx=none->dx≠x ->
 sp (.ref x::(vs++dvs)) (upd (upd H1 dx (.own x)) x (.ins C dx [])) (λv H2=>v=.non/\Q (.ref x) H2) E
def jl(K:xy)(fd:FuncData)(ps:Ρ)(ds:Ξ):Prop :=
 ∀(s:qb)(us:Ξ),K.In s.heap->(us++ds).length=ps.length->BindsTo s fd #[us,[]] (ps.zip (us++ds))
def jl.all{K:xy}{ps:Ρ}(h:∀us:Ξ,us.length=ps.length->bindArgs fd #[us,[]]=pure (ps.zip us)):jl K fd ps []:=λs us Z a=>by
 rw[cT]at a⊢;erw[.of_eq (h us a)]
def Ē(CX:CXT)(X:Cx)(E:XK):Prop:=∀(pins:Θ)(σ:St)(H:Hp)(s:qb)(e:qc)(s':qb),'i' s->CX X.stack H s E e s'->X.xe e s'
end
section
mutual
variable{k:Nat}{f:qa}{ps:Ρ}{sp:Sp}{dvs:Τ}{ds:Ξ}{E:XK}{m:Str}{p pos apos:Pos}{e o:qh}{t:TA}
def ymx{s:qb}{Q:VK}(F:vx X.prog X.w X.K X.mg X.base CX k f fd ps sp)(hr:ο k X.A)(hb:jl X.K fd ps ds)(hd:xc dvs ds)(hx:Ē CX X E)
  (I:'i' s) (r:xc vs us) (h:sp (vs++dvs) H Q E):'w' (call (.ref f) us) (EP X pins σ Q) X.xe s:=by
 have b:xc (vs++dvs) (us++ds):=r.append hd;have c:(us++ds).length=ps.length:=by rwa[<- b.length,F.len _ _ _ _ h]
 erw[wpAny_call (codeAny_mono (F.run X.A X.stack s H #[us,[]] (us++ds) (vs++dvs) Q E hr I.env0 (hb s us I.kIn c) b h) λr d a=>?_)]
 cases r with
 |error e=>erw[hx pins σ H s e d I a]
 |ok fl =>
  cases fl with
  |ret u=>erw[I.after a]
  |next=>erw[False.elim a]
  |brk=>erw[False.elim a]
  |cont=>erw[False.elim a]
def yt8(F:vx X.prog X.w X.K X.mg X.base CX k f fd ps sp)(hr:ο k X.A)(hg:Gl X x)(hm:X.mg x∣f)(hk:W.keepIn X.K (.ref f)=true)(hb:jl X.K fd ps ds)(hd:xc dvs ds)(hx:Ē CX X E)
  (ha:PA X (e::es) t) (hdb:⇑'d') (he:↑'a') (hpl:↑'b'):
  PE X (.Call (.Name x p) (e::es) [] pos) (ywp sp dvs E t):=by refine .mk λa s σ H Q I h=>?_;erw[wpAny_Call_Name_kw (jx I hg hm ?_ hdb),<-W.callWith_K (h₀:=X.base) I.ok.mod.kin hk (thn (ha pos a s σ H _ I h) λc i ⟨d,g,b,r,q⟩=>#[b.kIn,?_]) he hpl,<-ymx F hr hb hd hx b r q]
def xl{pl:Sem Bool}(he:PE X o ta)(c:Cls X.K C)(hm:Meth X.K C m f)(F:vx X.prog X.w X.K X.mg X.base CX k f fd ps sp)(hr:ο k X.A)(hb:jl X.K fd ps ds)(hd:xc dvs ds)(hx:Ē CX X E)(ha:PA X (e::es) t)
  (hst:↑'a') (hpl:↑'b')
  (ht:eval (.Call (.Attribute o m apos) (e::es) [] pos) X.env=(do
   let ov <- eval o X.env
   standAt apos.atName
   let (f,first) <- holding [ov] (getMethod ov m pl)
   callWith pos f first (backTo pos (starEach (e::es) X.env)) (backToKw pos (keywordEach [] X.env))):=by rfl):
  PE X (.Call (.Attribute o m apos) (e::es) [] pos) (ş C m sp dvs E ta t):=by
 erw[.mk λb s σ H Q I h=>?_,<-W.methodCall_KW (pl:=pl) (thn (he b s σ H _ I h) λu p h'=>?_) ht];let#[x,j,g,v,a,G,D,i,n,l,q]:=h';subst i;obtain rfl:u=Value.ref a:=v;erw[Ç g n c hm l ?_]
 erw[W.callWith_K (first:=[.ref a]) (h₀:=X.base) I.ok.mod.kin hm.kp (thn (ha pos b p σ j _ g q) λus B ⟨vs,z,d,r,y⟩=>#[d.kIn,?_]) hst hpl]
 erw[ymx (us:=.ref a::us) (vs:=.ref a::vs) F hr hb hd hx d (.cons J r) y]
def vg{pl:Sem Bool}(he:PE X o ta)(c:Cls X.K C)(hm:Meth X.K C m f)(F:vx X.prog X.w X.K X.mg X.base CX k f fd ps sp)(hr:ο k X.A)(hb:jl X.K fd ps ds)(hd:xc dvs ds)(hx:Ē CX X E)
  (ht:eval (.Call (.Attribute o m apos) [] [] pos) X.env=(do
   let ov <- eval o X.env
   standAt apos.atName
   let (f,first) <- holding [ov] (getMethod ov m pl)
   callWith pos f first (backTo pos (starEach [] X.env)) (backToKw pos (keywordEach [] X.env))):=by rfl):
  PE X (.Call (.Attribute o m apos) [] [] pos) (ş C m sp dvs E ta yhh):=by
 erw[.mk λb s σ H Q I h=>?_,<-W.methodCall_KW (pl:=pl) (thn (he b s σ H _ I h) λu n h'=>?_) ht];let#[x,j,d,i,a,r,p,e,g,l,q]:=h';subst e;obtain rfl:u=Value.ref a:=i;erw[Ç d g c hm l ?_]
 erw[W.callWith_K0 (first:=[.ref a]) d.kIn hm.kp (ymx (us:=[.ref a]) (vs:=[.ref a]) F hr hb hd hx d (.cons J .nil) q)]
structure Mk(K:xy)(C f:qa):Prop where
 makes:W.makesIn K C=true
 init:W.findIn K (.ref C) "__init__"=some (some (.ref f))
 fn:W.isFn K (.ref f)=true
 kp:W.keepIn K (.ref C)=true
def yfr{s:qb}{Q:VK}(M:Mk X.K C f)(F:vx X.prog X.w X.K X.mg X.base CX k f fd ps sp)(hr:ο (k+1) X.A)(hb:jl X.K fd ps ds)(hd:xc dvs ds)
  (hx:Ē CX X E) (I:'i' s) (r:xc vs us)
  (h:∀x dx,H x=none->H dx=none->dx≠x->sp (.ref x::(vs++dvs)) (upd (upd H dx (.own x)) x (.ins C dx [])) (λv H2=>v=.non/\Q (.ref x) H2) E):
  wpAny (model X.prog X.w) X.A (call (.ref C) us) (EP X pins σ Q) X.xe s:=by
 let d:=h ('n'+1) 'n' (I.hok.fresh (Nat.le_succ _)) (I.hok.fresh (bx _)) (bY (Nat.lt_succ_self _));let b:=Inv.made (C:=C) I;have c:xc (V.ref ('n'+1)::(vs++dvs)) (Value.ref ('n'+1)::(us++ds)):=.cons J (r.append hd)
 have l:(Value.ref ('n'+1)::us++ds).length=ps.length:=by
  let e:=c.length;rw[F.len _ _ _ _ d]at e;erw[e.symm]
 erw[wpAny_call (ygj (f:=f) I.kIn M.makes M.init (beq_iff_eq.mp M.fn) (codeAny_mono (F.run _ X.stack _ _ #[Value.ref ('n'+1)::us,[]] (Value.ref ('n'+1)::(us++ds)) _ _ E (hr.make C us [])
  (b.env0.make C us []) (hb _ (Value.ref ('n'+1)::us) b.kIn l) c d) λr i a=>?_))]
 cases r with
 |error e=>erw[hx pins σ _ _ e i b a]
 |ok fl =>
  cases fl with
  |ret u =>
   let#[v,m,j,o,g,n]:=b.after a;subst g;erw[o,#[V.ref ('n'+1),m,j,J,n]]
  |next=>erw[False.elim a]
  |brk=>erw[False.elim a]
  |cont=>erw[False.elim a]
def à(M:Mk X.K C f)(F:vx X.prog X.w X.K X.mg X.base CX k f fd ps sp)(hr:ο (k+1) X.A)(hg:Gl X x)(hm:X.mg x∣C)(hb:jl X.K fd ps ds)(hd:xc dvs ds)(hx:Ē CX X E)
  (ha:PA X (e::es) t) (hdb:⇑'d') (he:↑'a') (hpl:↑'b'):
  PE X (.Call (.Name x p) (e::es) [] pos) (ywt C sp dvs E t):=by refine .mk λa s σ H Q I h=>?_;erw[wpAny_Call_Name_kw (jx I hg hm ?_ hdb),<-W.callWith_K (h₀:=X.base) I.ok.mod.kin M.kp (thn (ha pos a s σ H _ I h) λc i ⟨d,g,b,r,q⟩=>#[b.kIn,?_]) he hpl,<-yfr M F hr hb hd hx b r q]
def jo(M:Mk X.K C f)(F:vx X.prog X.w X.K X.mg X.base CX k f fd ps sp)(hr:ο (k+1) X.A)(hg:Gl X x)(hm:X.mg x∣C)(hb:jl X.K fd ps ds)(hd:xc dvs ds)(hx:Ē CX X E)
  (hdb:⇑'d'):PE X (.Call (.Name x p) [] [] pos) (ywt C sp dvs E yhh):=by refine .mk λa s σ H Q I h=>?_;erw[wpAny_Call_Name_kw (jx I hg hm ?_ hdb),<-W.callWith_K0 I.kIn M.kp (yfr (us:=[]) M F hr hb hd hx I .nil h)]
end
end
section
mutual
variable{k:Nat}{f:qa}{ps ks:Ρ}{sp:Sp}{E:XK}{m:Str}{p pos apos kpos:Pos}{e o:qh}{kws:qj Keyword}{t tk:TA}{nm:Υ}
structure viv(K:xy)(fd:FuncData)(ps ks:Ρ)(g:qj qc->qj qc->qj qc)(gV:qj V->qj V->qj V):Prop where
 to:∀(s:qb)(us ws:Ξ),K.In s.heap->(g us ws).length=ps.length->BindsTo s fd #[us,ks.zip ws] (ps.zip (g us ws))
 rel:∀{vs:Τ}{us:Ξ}{zs:Τ}{ws:Ξ},xc vs us->xc zs ws->xc (gV vs zs) (g us ws)
variable{g:qj qc->qj qc->qj qc}{gV:qj V->qj V->qj V}
end
end
mutual
structure yk(N P:Ρ)(sc:Scope):Prop where
 kind:sc.kind=.function
 co:sc.isCoroutine=false
 gen:sc.isGenerator=false
 nd:N.Nodup
 pre:N.take P.length=P
 par:∀x∈P,sc.names.lookup x=some .local\/sc.names.lookup x=some .cell
 nofree:∀y∈sc.names,y.2≠.free
theorem ycn{kindOf:Str->ql NameKind}:∀{binds:qj (Str×qc)}{m:Ε},(∀v,(x,v)∉binds)->bindL kindOf binds m x=m x
 |[],_,_=>rfl
 |(n,v)::r,m,h=>by
  unfold bindL;rw[ycn λw a=>h w (cg _ a)]
  split
  .have:x≠n:=by rintro rfl;exact h v cj
   simp[this]
  .rfl
theorem ycy{kindOf:Str->ql NameKind}:∀{binds:qj (Str×qc)}{m:Ε},(∀v,(x,v)∉binds)->bindC kindOf binds m x=m x
 |[],_,_=>rfl
 |(n,v)::r,m,h=>by
  unfold bindC;rw[ycy λw a=>h w (cg _ a)]
  split
  .rfl
  .have:x≠n:=by rintro rfl;exact h v cj
   simp[this]
theorem yci{kindOf:Str->ql NameKind}{v:qc}:∀{P:Ρ}{vs:Ξ}{i:Nat}{m:Ε},P.Nodup->P[i]?=some x->vs[i]?=some v->kindOf x=some .local ->
  bindL kindOf (P.zip vs) m x=some v
 |[],_,_,_,_,h,_,_=>by simp at h
 |_::_,[],_,_,_,_,h,_=>by simp at h
 |p::P,w::vs,0,m,nd,h1,h2,hk=>by
  simp at h1 h2;subst h1;subst h2;show bindL kindOf ((p,w)::P.zip vs) m p=_;unfold bindL;rw[ycn λv a=>(cP.mp nd).1 (List.of_mem_zip a).1,if_pos hk];simp
 |p::P,w::vs,i+1,m,nd,h1,h2,hk=>by
  show bindL kindOf ((p,w)::P.zip vs) m x=_;unfold bindL;erw[yci (i:=i) (cP.mp nd).2 (by simpa using h1) (by simpa using h2) hk]
theorem ycx{kindOf:Str->ql NameKind}{v:qc}:∀{P:Ρ}{vs:Ξ}{i:Nat}{m:Ε},P.Nodup->P[i]?=some x->vs[i]?=some v->kindOf x≠some .local ->
  bindC kindOf (P.zip vs) m x=some v
 |[],_,_,_,_,h,_,_=>by simp at h
 |_::_,[],_,_,_,_,h,_=>by simp at h
 |p::P,w::vs,0,m,nd,h1,h2,hk=>by
  simp at h1 h2;subst h1;subst h2;show bindC kindOf ((p,w)::P.zip vs) m p=_;unfold bindC;rw[ycy λv a=>(cP.mp nd).1 (List.of_mem_zip a).1,if_neg hk];simp
 |p::P,w::vs,i+1,m,nd,h1,h2,hk=>by
  show bindC kindOf ((p,w)::P.zip vs) m x=_;unfold bindC;erw[ycx (i:=i) (cP.mp nd).2 (by simpa using h1) (by simpa using h2) hk]
noncomputable def ė(N:Ρ)(vs:Τ):St:=vs.map some++List.replicate (N.length-vs.length) none
noncomputable def vy(CX:CXT)(P:qi)(w:qe)(K:xy)(mg:Ε)(base:qg)(N:Ρ)(qual:Str)(scope:Scope)(f:qa)(cd:qc)(A:qf)(outer:qj Env)(s:qb)(H:Hp)(E:XK):Cx where
 prog:=P
 w:=w
 K:=K
 mg:=mg
 base:=base
 A:=A.deeper (envOfC qual scope 'n' f cd)
 N:=N
 s₀:=s
 H₀:=H
 env:=envOfC qual scope 'n' f cd
 outer:=outer
 stack:=envOfC qual scope 'n' f cd::outer
 ex:=[]
 calm:=true
 fn:=λZ=>true
 pn:=[]
 xe:=λe s'=>wpAny (model P w) (A.deeper (envOfC qual scope 'n' f cd)) (leaving (envOfC qual scope 'n' f cd) e) (λZ s''=>CX outer H s E e s'') (λe' s''=>CX outer H s E e' s'') s'
def yfy{sc:Scope}{n:Nat}(h:sc.names.lookup x=some .cell):∃c,(cellsFrom n sc.names []).lookup x=some c:=by have q:=W.cellsFrom_some sc.names n [] (.inl h);erw[Option.isSome_iff_exists.mp q]
def yju{w:qe}{K:xy}{mg:Ε}{base:qg}{N ps:Ρ}{qual:Str}{scope:Scope}{f:qa}{cd:qc}{A:qf}{outer:qj Env}{s s1:qb}{E:XK} 
  (S:yk N ps scope) (hd:A.handled=none) (e0:yw1 P w K mg base A outer s H) (hl:vs.length=ps.length) (r:xc vs us)
  (x:InCallC s 'n' (bindL (envOfC qual scope 'n' f cd).kindOf (ps.zip us) λZ=>none) (cellsFrom ('n'+1) scope.names []) (bindC (envOfC qual scope 'n' f cd).kindOf (ps.zip us) λZ=>none) s1):
  Inv (vy CX P w K mg base N qual scope f cd A outer s H E) [] (ė N vs) H s1:=by
 have F:ps.length<=N.length:=by have:=congrArg List.length S.pre;rw[bT]at this;omega
 let#[o,I,J,B]:=x.done;have j:∀b:qa,b∉(vy CX P w K mg base N qual scope f cd A outer s H E).ex:=λb z=>absurd (show b∈([]:Φ)from z) 's'
 erw[#[e0.mod,S.kind,J,J,bx _,λy z c o d=>?_,λy g=>?_,λy c Z h=>?_,λZ=>hd,Around.frames_deeper e0.frames,.inr #[J,J],λb z=>absurd z (j b),e0.bs,e0.bsz,λb Z Z=>j b,λb z=>absurd z (j b),e0.funs,e0.frf],
  rfl,e0.bare,Un.kept B,#[_,x.toInCall.ns,λi y v o d ς=>?_],λy c h=>#[_,x.cell y c h],e0.hok.fresh (bx _),λy c h=>?_,λp l=>absurd (show p∈([]:Θ)from l) 's',e0.hok.kept B,?_]
 .erw[name_of_addr x.apart (PySem.mem_of_lookup o) (PySem.mem_of_lookup d)]
 .have g:scope.names.lookup y=some .cell\/scope.names.lookup y=some .free:=g;rcases g with g|g
  .erw[yfy g]
  .erw[absurd J (S.nofree _ (PySem.mem_of_lookup g))]
 .erw[Nat.le_of_lt (x.above y c (PySem.mem_of_lookup h))]
 .have t:i<vs.length:=by
   unfold ė at d;by_cases t:i<vs.length
   .erw[t]
   .rw[cB (by simpa using t)]at d;rw[List.getElem?_replicate]at d
    split at d<;>cases d
  have D:vs[i]?=some v:=by
   unfold ė at d;rw[c8 (by simpa using t),bB]at d
   cases e:vs[i]? with
   |none=>rw[e]at d;cases d
   |some a=>rw[e]at d;cases d;rfl
  let#[u,C,G]:=r.get D
  have l:ps[i]?=some y:=by
   rwa[<- S.pre,List.getElem?_take_of_lt (),o]
  have m:ps.Nodup:=by rwa[<- S.pre,S.nd.sublist (List.take_sublist _ _)]
  erw[u,G,?_];rcases S.par y (bM l)with k|k
  .erw[.inl #[k,yci m l C k]]
  .let#[c,e]:=yfy (n:='n'+1) k;erw[.inr #[.inl k,c,e,?_]];let q:=x.cell y c e;rw[ycx m l C (by show scope.names.lookup y≠_;rw[k];decide)]at q;erw[q]
 .erw[e0.hok.fresh (Nat.le_of_lt (x.above y c (PySem.mem_of_lookup h)))]
 .unfold ė;show _=N.length;rw[bq,bo,cV];omega
def ywm{w:qe}{K:xy}{mg:Ε}{base:qg}{k:Nat}{f:qa}{name qual:Str}{params:Arguments}{scope:Scope}{dV kV doc pm cdv ct oc:qc}{an od:ql qa}
  {osl:Array (ql qc)} {N ps:Ρ} {sp:Sp} (lk:K.lookup f=some #[oc,od,.func (W.fnOf name qual params body scope dV kV doc pm an cdv ct),osl]) (hcd:W.codeIn K cdv qual=true) (S:yk N ps scope)
  (len:∀vs H Q E,sp vs H Q E->vs.length=ps.length)
  (hbody:∀(A:qf)(outer:qj Env)(s:qb)(H:Hp)(vs:Τ)(Q:VK)(E:XK),ο k (A.deeper (envOfC qual scope 'n' f cdv))->sp vs H Q E ->
   ∃t,PSs (vy CX P w K mg base N qual scope f cdv A outer s H E) body t/\t { nx:=λZ H'=>Q .non H',rt:=Q} (ė N vs) H):
  vx P w K mg base CX (k+1) f (W.fnOf name qual params body scope dV kV doc pm an cdv ct) ps sp:=by
 erw[len,λA outer s H p R vs Q E m d D r h=>?_];let L:=len _ _ _ _ h;have z:K.In s.heap:=d.mod.kin.keeps λb o e=>(d.bs b o e).1;have j:s.heap.NoLimit:=d.mod.nolimit.keeps λb o e=>(d.bs b o e).1
 have a:∀y∈ps.zip R,scope.names.lookup y.1=some .local\/(scope.names.lookup y.1=some .cell/\((cellsFrom ('n'+1) scope.names []).lookup y.1).isSome=true):=λ⟨n,v⟩ M=>by
  rcases S.par n (List.of_mem_zip M).1 with q|q
  .erw[.inl q]
  .erw[.inr #[q,W.cellsFrom_some _ _ _ (.inl q)]]
 erw[codeAny_call_function m.depth (z _ _ lk) J S.co S.gen J (W.codeRec_of z hcd) (D _ _ _ _ ?_),<-wpAny_newFunctionEnv_cells S.kind a λG T B x=>?_];subst T;erw[j.keeps x.toInCall.keep,codeAny_func ?_];let#[t,C,F]:=hbody A outer s H vs Q E (m.deeper _) h;have I:Inv (vy CX P w K mg base N qual scope f cdv A outer s H E) [] (ė N vs) H B:=yju S m.hd d L r x;erw[cr (C [] B (ė N vs) H _ I F) (λO i c=>?_) λe i c=>c]
 have g:∀{σ':St}{H':Hp}{v:V}{u:qc},Inv (vy CX P w K mg base N qual scope f cdv A outer s H E) [] σ' H' i->ub v u->Q v H'->CE outer P w H s Q u i :=
  λ{σ' H' v u}ς l q=>#[v,H',ς.os,ς.bare,ς.base,ς.hok,l,q]
 cases O with
 |ret u =>
  let#[v,σ',H',ς,l,q]:=c;erw[g ς l q]
 |next =>
  let#[σ',H',ς,q]:=c;erw[g (v:=V.non) (u:=Value.none) ς J q]
 |brk =>
  let#[_,_,_,q]:=c;erw[False.elim q]
 |cont =>
  let#[_,_,_,q]:=c;erw[False.elim q]
end
section
mutual
variable{p pos:Pos}{e:qh}{t:TA}{id T:String}{r:qj V->Hp->VK->Prop}
def tCB(r:qj V->Hp->VK->Prop)(t:TA):TE:=λσ H Q=>t σ H λvs H1=>r vs H1 Q
def yo9(hc:θ X (.builtin id) r)(hg:Gl X x)(hm:X.mg x=none)(hv:bootBuiltins x=some (.builtin id))(ha:PA X (e::es) t)(hn:⇑(x≠"__name__"))(hdb:⇑'d')
  (he:↑'a') (hpl:↑'b'):PE X (.Call (.Name x p) (e::es) [] pos) (tCB r t):=by refine .mk λa s σ H Q I h=>?_;erw[wpAny_Call_Name_kw (Ŋ I hg hm hv ?_ hn hdb),<-PyProof.Rows.callWith_builtin1 (thn (ha pos a s σ H _ I h) λb i ⟨c,d,j,f,g⟩=>hc a i σ d c b Q j f g) he hpl]
def ykd(hc:θ X (.type T) r)(hg:Gl X x)(hm:X.mg x=none)(hv:bootBuiltins x=some (.type T))(ha:PA X (e::es) t)(hn:⇑(x≠"__name__"))(hdb:⇑'d')
  (he:↑'a') (hpl:↑'b'):PE X (.Call (.Name x p) (e::es) [] pos) (tCB r t):=by refine .mk λa s σ H Q I h=>?_;erw[wpAny_Call_Name_kw (Ŋ I hg hm hv ?_ hn hdb),<-PyProof.Rows.callWith_type1 (thn (ha pos a s σ H _ I h) λb i ⟨c,d,j,f,g⟩=>hc a i σ d c b Q j f g) he hpl]
end
end
end L2
namespace HT
open PySem PyProof.Rows
section
open PySem.SeqAt
open PySem.AutoSeq1 (wpAny_loadPart')
open PySem.MeetsSeq PySem.MeetsSeq2 PySem.MeetsSeq3
end
section
mutual
variable{prog:qi}{w:qe}{A:qf}{E:Δ}{s:qb}
noncomputable def sIx(n d:Nat):ql Int->Nat
 |none=>d
 |some v=>if v<0 then (v+(n:Int)).toNat else min v.toNat n
def sIx_none(n d:Nat):sIx n d none=d:=rfl
def sIx_nat(n d k:Nat):sIx n d (some (k:Int))=min k n:=by show (if (k:Int)<0 then ((k:Int)+(n:Int)).toNat else min (k:Int).toNat n)=min k n;rw[if_neg (),Int.toNat_natCast]
def yz1(n d:Nat)(hd:d<=n)(o:ql Int):sIx n d o<=n:=by
 cases o with
 |none=>erw[hd]
 |some v =>
  show (if v<0 then (v+(n:Int)).toNat else min v.toNat n)<=n;by_cases hv:v<0
  .rw[if_pos hv];omega
  .rw[if_neg hv];erw[Nat.min_le_right _ _]
def yky(v:Int)(n d:Nat):(if v<0 then max (v+(n:Int)) 0 else min v (n:Int))=((sIx n d (some v):Nat):Int):=by
 show (if v<0 then max (v+(n:Int)) 0 else min v (n:Int))=(((if v<0 then (v+(n:Int)).toNat else min v.toNat n):Nat):Int);by_cases hv:v<0
 .simp only[if_pos hv];omega
 .simp only[if_neg hv];omega
def yhx(lo hi:ql Int)(n:Nat):Builtin.Slice.sliceAdjust lo hi 1 (n:Int)=(((sIx n 0 lo:Nat):Int),((sIx n n hi:Nat):Int)):=by
 have a:¬((1:Int)<0):=()
 unfold Builtin.Slice.sliceAdjust;simp only[a,if_false];erw[Prod.ext ?_ ?_]
 .cases lo with
  |none=>rfl
  |some v=>erw[yky v n 0]
 .cases hi with
  |none=>rfl
  |some v=>erw[yky v n n]
def yia(i j:Nat):Builtin.Slice.slicePlaces (i:Int) (j:Int) 1=j-i:=by
 unfold Builtin.Slice.slicePlaces;have a:(1:Int) > 0:=()
 simp only[a,if_true,Int.ediv_one]
 split<;>omega
def Ŭ{v:qc}{o:ql Int}{Q:ql Int->qb->Prop}(p:IsPart v o)(h:Q o s):wpAny (model prog w) A (Builtin.Slice.slicePartIndex v) Q E s:=by
 cases p with
 |none=>erw[slicePart_none h]
 |int i t=>erw[slicePart_int h]
def ρ{sl:qa}{vl vu:qc}{lo hi:ql Int}{n:Nat}{Q:Int×Int×Nat->qb->Prop}(hs:s.heap.IsSliceOf sl vl vu .none)(pl:IsPart vl lo)(pu:IsPart vu hi)
  (h:Q (((sIx n 0 lo:Nat):Int),1,sIx n n hi-sIx n 0 lo) s):wpAny (model prog w) A (Builtin.Slice.sliceApplied (.ref sl) (pure (n:Int))) Q E s:=by
 let#[d,a,c,b]:=id hs;unfold Builtin.Slice.sliceApplied Builtin.Slice.sliceFields;erw[bj (bj (ce a b (x:=vl) J (bj (ce a b (x:=vu) J (bj (ce a b (x:=.none) J (bv ?_))))))),<-bj (slicePart_none ?_)];show wpAny _ _ (if ((1:Int) == 0)=true then _ else _) _ _ s;rwa[if_neg ∅,bj (Ŭ pl (bj (Ŭ pu (bj (bv ?_)))))]
 show wpAny _ _ (match Builtin.Slice.sliceAdjust lo hi 1 (n:Int)with|(lo,hi)=>pure (lo,(1:Int),Builtin.Slice.slicePlaces lo hi 1)) _ _ s
 rw[yhx lo hi n];show wpAny _ _ (pure (((sIx n 0 lo:Nat):Int),(1:Int),Builtin.Slice.slicePlaces ((sIx n 0 lo:Nat):Int) ((sIx n n hi:Nat):Int) 1)) _ _ s;rwa[yia,bv h]
def yop(xs:Array qc)(i k:Nat):((List.range k).filterMap λ(m:Nat)=>xs[((i:Int)+(m:Int)*1).toNat]?).toArray=((xs.toList.drop i).take k).toArray:=by
 have e:(λ(m:Nat)=>xs[((i:Int)+(m:Int)*1).toNat]?)=λm=>xs[i+m]?:=by
  funext m
  have:((i:Int)+(m:Int)*1).toNat=i+m:=()
  rw[this]
 rw[e];have:=pick_run xs i k;rw[List.filterMap_map]at this;have a:((λx=>xs[x]?) ∘ λx=>i+x)=λm=>xs[i+m]?:=rfl;rw[a]at this;rw[this]
def getItem_tuple_cut{t sl:qa}{items:Array qc}{vl vu:qc}{lo hi:ql Int}{Q:Δ}(ht:IsTup s.heap t items)(hs:s.heap.IsSliceOf sl vl vu .none)(pl:IsPart vl lo)(pu:IsPart vu hi)
  (hw:¬(sIx items.size 0 lo=0/\sIx items.size items.size hi=items.size))
  (h:Q (.ref 'n') {s with heap:=s.heap.push { cls:=.type "tuple",data:=.seq ((items.toList.drop (sIx items.size 0 lo)).take (sIx items.size items.size hi-sIx items.size 0 lo)).toArray} })
  (hsz:items.size<=sizeLine):wpAny (model prog w) A (getItem (.ref t) (.ref sl)) Q E s:=by
 have a:sizeOk (.seq ((items.toList.drop (sIx items.size 0 lo)).take (sIx items.size items.size hi-sIx items.size 0 lo)).toArray):=by
  show ((items.toList.drop (sIx items.size 0 lo)).take (sIx items.size items.size hi-sIx items.size 0 lo)).toArray.size<=sizeLine;rw[bF,bT,cZ,cJ];omega
 have i:sIx items.size items.size hi<=items.size:=yz1 _ _ (bx _) hi;let#[f,d,e,g]:=id hs;have c:s.TypeIs (.ref sl) "slice":=#[f,d,e];unfold getItem
 try with_reducible refine wpAny_holding ?_
 first|erw[bj (bv ?_)]|skip
 erw[bj (wpAny_sequenceKey ht.typeIs ∅ ?_),<-bj (wpAny_callSpecial?_slot (name:=Str.ofString "__getitem__") ht.typeIs PyProof.Rows.slot_tuple_getitem
  (wpAny_call_entry PyProof.Rows.slot_tuple_getitem ht.typeIs entry_tuple_getitem ?_ (args_tuple_getitem _ _)))]
 show wpAny _ _ (Builtin.Tuple.tupleItemsOf (.ref t) >>=_) _ _ s;erw[bj (tupleItemsOf_ ht ?_),<-bj (wpAny_typeOf c ?_)];rwa[if_pos ∅,bj (ρ hs pl pu ?_)]
 have b:¬((((sIx items.size 0 lo:Nat):Int) == 0 && (1:Int) == 1 && (sIx items.size items.size hi-sIx items.size 0 lo) == items.size)=true):=by
  intro q;rw[bU,bU]at q;have j:((sIx items.size 0 lo:Nat):Int)=0:=eq_of_beq q.1.1;have k:sIx items.size items.size hi-sIx items.size 0 lo=items.size:=eq_of_beq q.2;erw[hw #[(),()]]
 show wpAny _ _ (if (((sIx items.size 0 lo:Nat):Int) == 0 && (1:Int) == 1 && (sIx items.size items.size hi-sIx items.size 0 lo) == items.size)=true then _ else _) _ _ s;rw[if_neg b,yop]
 first
  |erw[bj (m:=Builtin.Tuple.tupleExact _) (wpAny_newObj_type (bv #[_,J,bv h]) a)]
  |erw[bj (m:=Builtin.Tuple.tupleExact _) (wpAny_newObj_type (bj (bv (bv #[_,J,bv h]))) a)]
  |erw[bj (bj (m:=Builtin.Tuple.tupleExact _) (wpAny_newObj_type (bv (bv #[_,J,bv h])) a))]
  |erw[bj (bj (m:=Builtin.Tuple.tupleExact _) (wpAny_newObj_type (bv #[_,J,bv h]) a))]
end
end
end HT
namespace L2
open PySem PySem.Spec PyProof.Rows
mutual
variable{us:Ξ}{v:qc}
abbrev TO:=St->Hp->(ql Int->Hp->Prop)->Prop
def PO(X:Cx)(e:ql qh)(t:TO):Prop :=
 ∀(pins:Θ)(s:qb)(σ:St)(H:Hp)(Q:ql Int->Hp->Prop),'i' s->t σ H Q ->
  wpAny (model X.prog X.w) X.A (evalPart e X.env) (λu s'=>∃o H',Inv X pins σ H' s'/\IsPart u o/\Q o H') X.xe s
def ylt:TO:=λZ H Q=>Q none H
def vdq(t:TE):TO:=λσ H Q=>t σ H λx H1=>∃i,x=.int i/\Q (some i) H1
end
section
mutual
variable{X:Cx}{e:qh}{te:TE}{lo hi:ql qh}{tl th:TO}{pos p2:Pos}
def zf:PO X none ylt:=by intro a s σ H Q I h;rwa[evalPart_none,bv #[none,H,I,.none,h]]
def ux(h:PE X e te):PO X (some e) (vdq te):=by intro a s σ H Q I b;rwa[evalPart_some,thn (h a s σ H _ I b) λu j h'=>?_];let#[x,c,g,d,f]:=h';let#[i,J,q]:=f;let#[t,J]:=d;erw[some i,c,g,.int i t,q]
def SlR(X:Cx)(r:V->ql Int->ql Int->Hp->VK->Prop):Prop :=
 ∀(pins:Θ)(s:qb)(σ:St)(H:Hp)(x:V)(v vl vu:qc)(lo hi:ql Int)(sl:qa)(Q:VK),'i' s->ub x v->s.heap.IsSliceOf sl vl vu .none->IsPart vl lo->IsPart vu hi->r x lo hi H Q ->
  ∃T id,typeLookup (.type T) "__getitem__"=pure (some (.builtin id))/\s.TypeIs v T/\wpAny (model X.prog X.w) X.A (getItem v (.ref sl)) (EP X pins σ Q) X.xe s
def SlR.or{r r':V->ql Int->ql Int->Hp->VK->Prop}(h:SlR X r)(h':SlR X r'):SlR X (λx lo hi H Q=>r x lo hi H Q\/r' x lo hi H Q):=by
 intro a s σ H x v e c lo hi b Q I g i d f q;rcases q with q|q
 .erw[h a s σ H x v e c lo hi b Q I g i d f q]
 .erw[h' a s σ H x v e c lo hi b Q I g i d f q]
def tSl(r:V->ql Int->ql Int->Hp->VK->Prop)(te:TE)(tl th:TO):TE:=λσ H Q=>te σ H λx H1=>tl σ H1 λl H2=>th σ H2 λu H3=>r x l u H3 Q
def uh{r:V->ql Int->ql Int->Hp->VK->Prop}(hr:SlR X r)(he:PE X e te)(hl:PO X lo tl)(hu:PO X hi th):PE X (.Subscript e (.Slice lo hi none p2) pos) (tSl r te tl th):=by refine .mk λa s σ H Q I h=>?_;erw[Subscript_ (thn (he a s σ H _ I h) λv F h'=>?_)];let#[x,C,n,i,y]:=h';erw[wpAny_Slice (thn (hl a F σ C _ n y) λf p ⟨l,G,B,D,ς⟩=>thn (hu a p σ G _ B ς) λd c h'=>?_)];let#[u,g,o,E,z]:=h';rwa[evalPart_none,bv ?_];have j:Inv X a σ g {c with heap:=c.heap.push { cls:=.type "slice",data:=.fields (List.toArray [f,d,.none])} }:=o.kept (t':=c.toks) λb K q=>br _ q;let#[T,id,t,k,m]:=hr a {c with heap:=c.heap.push { cls:=.type "slice",data:=.fields (List.toArray [f,d,.none])} } σ g x v f d l u c.heap.objs.size Q j i (Heap.IsSliceOf.new ..) D E z;show 'w' (subscriptTail e (.Slice lo hi none p2) v (.ref c.heap.objs.size)) (EP X a σ Q) X.xe {c with heap:=c.heap.push { cls:=.type "slice",data:=.fields (List.toArray [f,d,.none])} };erw[tail_any (ops:=[.ref c.heap.objs.size,v]) k t m (by with_unfolding_all rfl)]
def ydg(xs:Τ)(lo hi:ql Int):Τ:=(xs.drop (HT.sIx xs.length 0 lo)).take (HT.sIx xs.length xs.length hi-HT.sIx xs.length 0 lo)
def Į(xs:Τ)(lo hi:ql Int):(ydg xs lo hi).length<=xs.length:=by unfold ydg;rw[bT,cZ];omega
def vka(K:xy):V->ql Int->ql Int->Hp->VK->Prop:=λx lo hi H Q=>∃a xs,x=.ref a/\SqT K H a xs/\
 ¬(HT.sIx xs.length 0 lo=0/\HT.sIx xs.length xs.length hi=xs.length)/\∀p,H p=none->Q (.ref p) (upd H p (.tup (ydg xs lo hi)))
def yzi:SlR X (vka X.K):=by
 intro i s σ H x v z w lo f u Q I n p l m h;let#[a,d,J,t,k,q]:=h;cases n;let#[e,r,g,j]:=I.tuple t;have c:e.toArray.size=d.length:=by rwa[bF,r.length.symm]
 erw["tuple",_,PyProof.Rows.slot_tuple_getitem.lookup,g.typeIs,?_,<-HT.getItem_tuple_cut g p l m (by rwa[c,k]) ?_ (by rwa[c,j])];rwa[c,#[.ref 'n',_,I.laid (t':=s.toks) (o:=.tup (ydg d lo f)) (λb y q=>br _ q) (bx _) ?_,J,q _ (I.hok.fresh (bx _))]];erw[ck (Į d lo f) j,_,(r.drop (HT.sIx d.length 0 lo)).take (HT.sIx d.length d.length f-HT.sIx d.length 0 lo),IsTup.new _ _]
end
end
mutual
noncomputable def ixN(n:Nat)(i:Int):ql Nat:=if 0<=i then (if i<n then some i.toNat else none)else if -(n:Int)<=i then some (i+n).toNat else none
def atI{α:Type}(xs:qj α)(i:Int):ql α:=(ixN xs.length i).bind λj=>xs[j]?
def yt9{n:Nat}{i:Int}{j:Nat}(h:ixN n i=some j):seqIndex? i n=some j/\j<n/\-(n:Int)<=i/\i<n:=by
 unfold ixN at h;by_cases h0:0<=i
 .rw[if_pos h0]at h;by_cases h1:i<n
  .rw[if_pos h1]at h;have e:i.toNat=j:=bL h;exists by rw[seqIndex_of h0 h1,e],(),(),h1
  .rw[if_neg h1]at h;cases h
 .rw[if_neg h0]at h;by_cases h1:-(n:Int)<=i
  .rw[if_pos h1]at h;have e:(i+n).toNat=j:=bL h;exists by rw[seqIndex_neg () h1,e],(),h1,()
  .rw[if_neg h1]at h;cases h
def ykz{α:Type}{xs:qj α}{i:Int}{v:α}(h:atI xs i=some v):∃j,seqIndex? i xs.length=some j/\xs[j]?=some v/\j<xs.length/\-(xs.length:Int)<=i/\i<xs.length:=by
 unfold atI at h
 cases e:ixN xs.length i with
 |none=>rw[e]at h;cases h
 |some j =>
  rw[e]at h;let#[a,b,d,c]:=yt9 e;erw[j,a,h,b,d,c]
def wt{α:Type}{xs:qj α}{j:Nat}{v:α}(h:xs[j]?=some v):atI xs (j:Int)=some v:=by
 have a:j<xs.length:=(bJ.mp h).1
 have e:ixN xs.length (j:Int)=some j:=by
  unfold ixN;rw[if_pos (),if_pos ()];simp
 unfold atI;rwa[e,h]
def yfv{α:Type}(xs:qj α)(v:α):atI (xs++[v]) (-1)=some v:=by
 have a:(xs++[v]).length=xs.length+1:='s'
 have e:ixN (xs++[v]).length (-1)=some xs.length:=by
  unfold ixN;rw[a,if_neg ∅,if_pos ()]
  congr 1
  omega
 unfold atI;rw[e];show (xs++[v])[xs.length]?=some v;simp
def ylj(b:qh):Prop:=∀o i,subscripted b false o i=operate [o,i] (getItem o i)
def IxR(X:Cx)(r:R2):Prop :=
 ∀(value slice:qh)(pins:Θ)(s:qb)(σ:St)(H:Hp)(x y:V)(v u:qc)(Q:VK),'i' s->ub x v->ub y u->r x y H Q ->
  subscripted slice false v u=operate [v,u] (getItem v u)->'w' (subscriptTail value slice v u) (EP X pins σ Q) X.xe s
def MtR(X:Cx)(id:String)(r:V->qj V->Hp->VK->Prop):Prop :=
 ∀(pins:Θ)(s:qb)(σ:St)(H:Hp)(x:V)(xs:Τ)(v:qc)(us:Ξ)(Q:VK),'i' s->ub x v->xc xs us->r x xs H Q ->
  wpAny (model X.prog X.w) X.A (call (.builtin id) (v::us)) (EP X pins σ Q) X.xe s
end
section
mutual
variable{X:Cx}{a b:qh}{ta tb:TE}{pos:Pos}
def vhd{r:R2}(hr:IxR X r)(ha:PE X a ta)(hb:PE X b tb)(hs:ylj b):PE X (.Subscript a b pos) (tOp r ta tb):=by refine .mk λc s σ H Q I h=>?_;erw[Subscript_ (vgn ha hb I h λv u e x y d f g i q=>hr a b c e σ d x y v u Q f g i q (hs _ _))]
def vio(K:xy):R2:=λx y H Q=>∃p xs i v,x=.ref p/\y=.int i/\SqL K H p xs/\atI xs i=some v/\Q v H
def viy(K:xy):R2:=λx y H Q=>∃p xs i v,x=.ref p/\y=.int i/\SqT K H p xs/\atI xs i=some v/\Q v H
def wq:IxR X (vio X.K):=by
 intro e d a s σ H x y v u Q I F G h n;let#[p,M,i,z,J,J,B,ς,q]:=h;cases F;let#[t,J]:=G;let#[g,r,k,L]:=I.list B;let#[j,c,A,N,C,D]:=ykz ς;let#[w,m,f]:=r.get A;let E:=r.length;let O:=yc5;have b:EP X a σ Q w s:=#[z,H,I,f,q];by_cases h0:0<=i
 .have l:i.toNat=j:=by
   rw[seqIndex_of h0 D]at c;erw[bL c]
  erw[item_listR k.isList h0 () (by rw[l];simpa using m) b n]
 .have l:(i+(g.toArray.size:Int)).toNat=j:=by
   rw[seqIndex_neg () C]at c;rwa[bF,<- E,bL c]
  exact subscriptTail_builtinR (x:=w) k.isList.typeIs slot_list_getitem.lookup
   (wpAny_getItem_list_neg (Q:=λr o=>r=w/\EP X a σ Q r o) k.isList () (by rw[bF]<;>omega) () (by rw[l];simpa using m) #[J,b]) n
def Å:IxR X (viy X.K):=by
 intro d b a s σ H x y v u Q I B D h C;let#[p,L,i,z,J,J,l,E,q]:=h;cases B;let#[t,J]:=D;let#[m,r,f,ς]:=I.tuple l;let#[j,n,k,M,F,G]:=ykz E;let#[w,o,e]:=r.get k;let A:=r.length;let N:=yc5;have c:EP X a σ Q w s:=#[z,H,I,e,q];exact subscriptTail_builtinR (x:=w) f.typeIs slot_tuple_getitem.lookup
  (getItem_tuple (j:=j) (Q:=λr g=>r=w/\EP X a σ Q r g) f () () (by rwa[bF,<- A,n]) (by simpa using o) #[J,c]) C
def yb5(lo hi:ql Int)(n:Nat):(sliceBounds lo hi none n).1=((HT.sIx n 0 lo:Nat):Int)/\(sliceBounds lo hi none n).2.1=((HT.sIx n n hi:Nat):Int)/\(sliceBounds lo hi none n).2.2=1:=by
 erw[?_,?_,rfl]
 .cases lo with
  |none=>simp[sliceBounds,HT.sIx]
  |some i =>
   simp only[sliceBounds,HT.sIx,Option.getD_none,show (1:Int) > 0 by decide,if_true];by_cases h:i<0
   .simp only[h,if_true]<;>omega
   .simp only[h,if_false]<;>omega
 .cases hi with
  |none=>simp[sliceBounds,HT.sIx]
  |some i =>
   simp only[sliceBounds,HT.sIx,Option.getD_none,show (1:Int) > 0 by decide,if_true];by_cases h:i<0
   .simp only[h,if_true]<;>omega
   .simp only[h,if_false]<;>omega
def yaa(its:Ξ)(lo hi:ql Int):slicePick its.toArray lo hi none=((its.drop (HT.sIx its.length 0 lo)).take (HT.sIx its.length its.length hi-HT.sIx its.length 0 lo)).toArray:=by let#[a,b,c]:=yb5 lo hi its.toArray.size;unfold slicePick;rw[a,b,c];simp only[sliceRange_one,pick_run,bF]<;>rfl
def vgk(K:xy):V->ql Int->ql Int->Hp->VK->Prop:=λx lo hi H Q=>∃a xs,x=.ref a/\SqL K H a xs/\∀p,H p=none->Q (.ref p) (upd H p (.lst (ydg xs lo hi)))
def jb:SlR X (vgk X.K):=by intro g s σ H x v y u lo e t Q I l m j k h;let#[a,c,J,n,q]:=h;cases l;let#[i,r,f,p]:=I.list n;let d:=r.length;erw["list",_,slot_list_getitem.lookup,f.isList.typeIs,?_,<-wpAny_getItem_list_slice f.isList m j k .none 's' ?_ (by rw[bF]<;>omega)];rwa[yaa,<- d,#[.ref 'n',_,I.laid (t':=s.toks) (o:=.lst (ydg c lo e)) (λb w q=>br _ q) (bx _) ?_,J,q _ (I.hok.fresh (bx _))]];erw[ck (Į c lo e) p,_,0,(r.drop (HT.sIx c.length 0 lo)).take (HT.sIx c.length c.length e-HT.sIx c.length 0 lo),bC _ J]
noncomputable def ybt:V->Bool
 | .non=>true
 | .bl _=>true
 | .int _=>true
 | .str _=>true
 |_=>false
noncomputable def eqV:V->V->Bool
 | .non,.non=>true
 | .bl a,.bl b=>a == b
 | .bl a,.int b=>(if a then 1 else 0) == b
 | .int a,.bl b=>a == (if b then 1 else 0)
 | .int a,.int b=>a == b
 | .str a,.str b=>a == b
 |_,_=>false
def yzw{A:qf}{s:qb}{y x:V}{u:qc}(ry:ub y u)(rx:ub x v)(fy:ybt y=true)(fx:ybt x=true):SeqAt.EqAt A s u v (eqV y x):=by
 cases y with
 |non =>
  cases ry
  cases x with
  |non=>cases rx;erw[SeqAt.EqAt.same _]
  |bl b=>cases rx;erw[SeqAt.EqAt.none_bool b]
  |int b=>let⟨t,rfl⟩:=rx;erw[SeqAt.EqAt.none_int b t]
  |str b=>let⟨t,rfl⟩:=rx;erw[SeqAt.EqAt.none_str b t]
  |_=>erw[absurd (show false=true from fx) bK]
 |bl a =>
  cases ry
  cases x with
  |non=>cases rx;erw[SeqAt.EqAt.bool_none a]
  |bl b=>cases rx;erw[SeqAt.EqAt.bool_bool a b]
  |int b=>let⟨t,rfl⟩:=rx;erw[SeqAt.EqAt.bool_int a b t]
  |str b=>let⟨t,rfl⟩:=rx;erw[SeqAt.EqAt.bool_str a b t]
  |_=>erw[absurd (show false=true from fx) bK]
 |int a =>
  let#[c,J]:=ry
  cases x with
  |non=>cases rx;erw[SeqAt.EqAt.int_none a c]
  |bl b=>cases rx;erw[SeqAt.EqAt.int_bool a c b]
  |int b=>let⟨t,rfl⟩:=rx;erw[SeqAt.EqAt.int_int a c b t]
  |str b=>let⟨t,rfl⟩:=rx;erw[SeqAt.EqAt.int_str a c b t]
  |_=>erw[absurd (show false=true from fx) bK]
 |str a =>
  let#[c,J]:=ry
  cases x with
  |non=>cases rx;erw[SeqAt.EqAt.str_none a c]
  |bl b=>cases rx;erw[SeqAt.EqAt.str_bool a c b]
  |int b=>let⟨t,rfl⟩:=rx;erw[SeqAt.EqAt.str_int a c b t]
  |str b=>let⟨t,rfl⟩:=rx;erw[SeqAt.EqAt.str_str a c b t]
  |_=>erw[absurd (show false=true from fx) bK]
 |_=>erw[absurd (show false=true from fy) bK]
def eqU(x:V)(u:qc):Bool:=match u with
 | .none=>eqV .non x
 | .bool b=>eqV (.bl b) x
 | .int i _=>eqV (.int i) x
 | .str z _=>eqV (.str z) x
 |_=>false
def yqi{x y:V}{u:qc}(r:ub y u)(f:ybt y=true):eqU x u=eqV y x:=by
 cases y with
 |non=>cases r;rfl
 |bl b=>cases r;rfl
 |int i=>let⟨t,rfl⟩:=r;rfl
 |str z=>let⟨t,rfl⟩:=r;rfl
 |_=>erw[absurd (show false=true from f) bK]
theorem Ņ{x:V}:∀{xs:Τ}{us:Ξ},xc xs us->xs.all ybt=true->us.any (eqU x)=xs.any λy=>eqV y x
 |_,_,.nil,_=>rfl
 |y::xs,u::us,.cons r t,f=>by
  rw[List.all_cons,bU]at f;rw[List.any_cons,List.any_cons,yqi r f.1,Ņ t f.2]
theorem ë{A:qf}{s:qb}{x:V}(rx:ub x v)(fx:ybt x=true):∀{xs:Τ}{us:Ξ},xc xs us->xs.all ybt=true->∀u∈us,SeqAt.EqAt A s u v (eqU x u)
 |_,_,.nil,_=>λu a=>by cases a
 |y::xs,u::us,.cons r t,f=>λb a=>by
  rw[List.all_cons,bU]at f;rcases bH.mp a with rfl|a
  .rw[yqi r f.1];erw[yzw r rx f.1 fx]
  .erw[ë rx fx t f.2 b a]
def inV(x:V)(xs:Τ):Bool:=xs.any λy=>eqV y x
def rIn(K:xy)(neg:Bool):R2:=λx y H Q=>∃p xs,y=.ref p/\(SqL K H p xs\/SqT K H p xs)/\ybt x=true/\xs.all ybt=true/\Q (.bl (if neg then !inV x xs else inV x xs)) H
def ycu:OpR X (compareOp .In) (rIn X.K false):=by
 intro g s σ H x y v u Q I i j h;let#[p,l,J,b,f,c,q]:=h;cases j;rcases b with b|b
 .let#[a,r,e,k]:=I.list b;erw[SeqAt.in_listAt (eqU x) e.isList (λw d=>ë i f r c w (by simpa using d)) #[.bl _,H,I,J,?_]];rw[show a.toArray.any (eqU x)=a.any (eqU x) by simp,Ņ r c];erw[q]
 .let#[a,r,e,k]:=I.tuple b;erw[SeqAt.in_tupleAt (eqU x) e (λw d=>ë i f r c w (by simpa using d)) #[.bl _,H,I,J,?_]];rw[show a.toArray.any (eqU x)=a.any (eqU x) by simp,Ņ r c];erw[q]
def yby:OpR X (compareOp .NotIn) (rIn X.K true):=by
 intro g s σ H x y v u Q I i j h;let#[p,l,J,b,f,c,q]:=h;cases j;rcases b with b|b
 .let#[a,r,e,k]:=I.list b;erw[SeqAt.notIn_listAt (eqU x) e.isList (λw d=>ë i f r c w (by simpa using d)) #[.bl _,H,I,J,?_]];rw[show a.toArray.any (eqU x)=a.any (eqU x) by simp,Ņ r c];erw[q]
 .let#[a,r,e,k]:=I.tuple b;erw[SeqAt.notIn_tupleAt (eqU x) e (λw d=>ë i f r c w (by simpa using d)) #[.bl _,H,I,J,?_]];rw[show a.toArray.any (eqU x)=a.any (eqU x) by simp,Ņ r c];erw[q]
def yq:θ X (.builtin "len") (λxs H Q=>∃p ys,xs=[.ref p]/\(SqL X.K H p ys\/SqT X.K H p ys)/\Q (.int ys.length) H):=by
 intro f s σ H xs j Q I r h;let#[p,ys,J,b,q]:=h;let#[u,J,g]:=Ő r;cases g;let k:=yc5;rcases b with b|b
 .let#[d,c,e,i]:=I.list b;let a:=c.length;erw[Calls.call_len_list e.isList (by simp only[bF]<;>omega) #[.int ys.length,H,I.tok _,#[s.toks+1,by rw[bF,a]],q]]
 .let#[d,c,e,i]:=I.tuple b;let a:=c.length;erw[len_tuple e (by simp only[bF]<;>omega) #[.int ys.length,H,I.tok _,#[s.toks+1,by rw[bF,a]],q]]
def ω:θ X (.builtin "len") (λxs H Q=>∃z,xs=[.str z]/\z.length<=sizeLine/\Q (.int z.length) H):=by intro a s σ H xs c Q I r h;let#[z,J,d,q]:=h;let#[u,J,t,J]:=Ő r;let b:=yc5;erw[len_str () #[.int z.length,H,I.tok _,#[_,J],q]]
def wk:θ X (.type "list") (λxs H Q=>∃p ys,xs=[.ref p]/\(SqL X.K H p ys\/SqT X.K H p ys)/\∀l,H l=none->Q (.ref l) (upd H l (.lst ys))):=by
 intro j s σ H xs B Q I r h;let#[p,ys,J,i,q]:=h;let#[u,J,A]:=Ő r;cases A;have k:∀(a:Ξ),xc ys a->ys.length<=sizeLine->∀(c:qg)(f:Nat),(∀b o',s.heap.get? b=some o'->c.get? b=some o') ->
   c.get? 'n'=some { cls:=.type "list",dict:=none,data:=.seq a.toArray f,slots:=#[]}->EP X j σ Q (.ref 'n') {s with heap:=c}:=λa d t c f g e =>
  #[.ref 'n',_,I.laid (t':=s.toks) g (bx _) (show xn X.prog X.w _ c _ (.lst ys)from #[t,a,f,d,e]),J,q _ (I.hok.fresh (bx _))]
 rcases i with i|i
 .let#[a,d,y,t]:=I.list i;let m:=d.length;let#[o,x,z,n,v]:=y.isList;erw[call_list_seq p (.inl J) x z v (λc f g e=>k a d t c f g e) (by simp only[bF]<;>omega)]
 .let#[a,d,y,t]:=I.tuple i;let m:=d.length;let#[o,x,z,n,v]:=y;erw[call_list_seq p (.inr J) x z v (λc f g e=>k a d t c f g e) (by simp only[bF]<;>omega)]
def δ:θ X (.type "tuple") (λxs H Q=>∃p ys,xs=[.ref p]/\((SqL X.K H p ys/\∀l,H l=none->Q (.ref l) (upd H l (.tup ys)))\/(SqT X.K H p ys/\Q (.ref p) H))):=by
 intro a s σ H xs x Q I r h;let#[p,ys,J,h]:=h;let#[u,J,v]:=Ő r;cases v;rcases h with⟨f,q⟩|⟨f,q⟩
 .let#[c,g,i,m]:=I.list f;let k:=g.length;erw[call_tuple_list i.isList (λd n=>?_) (by simp only[bF]<;>omega)];have j:Inv X a σ H {s with heap:=d}:=I.kept (t':=s.toks) n
  have t:Inv X a σ (upd H d.objs.size (.tup ys)) {s with heap:=d.push { cls:=.type "tuple",data:=.seq c.toArray} } :=
   j.laid (t':=s.toks) (λb o e=>br _ e) (bx _) (show xn X.prog X.w _ _ _ (.tup ys)from #[m,c,g,IsTup.new _ _])
  erw[.ref d.objs.size,_,t,J,q _ (j.hok.fresh (bx _))]
 .let#[c,g,i,m]:=I.tuple f;erw[call_tuple_same i #[.ref p,H,I,J,q]]
def tyV(K:xy)(T:String)(x:V)(H:Hp):Prop:=match x with
 | .str _=>T="str"
 | .int _=>T="int"
 | .ref p=>(T="list"/\∃xs,SqL K H p xs)\/(T="tuple"/\∃o,K.lookup p=some o/\o.cls=.type "tuple"/\o.dict=none) \/
   (T="dict"/\((∃kvs,H p=some (.dK kvs))\/∃kvs,H p=some (.dT kvs)))\/(T="set"/\∃S n,H p=some (.set S n))
 |_=>False
def yqm{pins:Θ}{σ:St}{H:Hp}{s:qb}{T:String}{x:V}(I:'i' s)(r:ub x v)(ty:tyV X.K T x H):
  s.TypeIs v T/\∀a,v=.ref a->∃ob,s.heap.get? a=some ob/\ob.dict=none:=by
 cases x with
 |str z =>
  let#[t,J]:=r;cases (show T="str" from ty)
  erw[typeIs_str s z t,λZ e=>nomatch e]
 |int i =>
  let#[t,J]:=r;cases (show T="int" from ty)
  erw[typeIs_int s i t,λZ e=>nomatch e]
 |ref p =>
  cases r;rcases ty with⟨rfl,q,k⟩|⟨rfl,o,b,m,f⟩|⟨rfl,b⟩|⟨rfl,S,n,b⟩
  .let#[l,_,j,_]:=I.list k;erw[j.isList.typeIs,λa e=>?_];cases e;let#[o,n,e,c,f,_]:=j;erw[o,e,f]
  .erw[#[o,I.kIn p o b,m],λa e=>?_];cases e;erw[o,I.kIn _ o b,f]
  .have z:∃o,s.heap.get? p=some o/\o.ExactDict:=by
    rcases b with⟨g,b⟩|⟨g,b⟩
    .let#[_,_,_,_,o,_,_,e,d,_]:=I.hok p _ b;erw[o,e,d]
    .let#[_,_,_,_,o,_,_,e,d,_]:=I.hok p _ b;erw[o,e,d]
   let#[o,e,d]:=z;erw[#[o,e,d.1],λa h=>?_];cases h;erw[o,e,d.2.1]
  .let#[o,_,_,_,e,d,_]:=I.hok p _ b;erw[#[o,e,d.1],λa h=>?_];cases h;erw[o,e,d.2.1]
 |_=>erw[False.elim ty]
def vjh(K:xy)(T:String)(r:V->qj V->Hp->VK->Prop)(to:TE):TE:=λσ H Q=>to σ H λx H1=>tyV K T x H1/\r x [] H1 Q
def tBM(K:xy)(T:String)(r:V->qj V->Hp->VK->Prop)(to:TE)(t:TA):TE:=λσ H Q=>to σ H λx H1=>tyV K T x H1/\t σ H1 λxs H2=>r x xs H2 Q
variable{o e:qh}{es:qj qh}{to:TE}{t:TA}{name:Str}{apos cpos:Pos}{T id:String}{r:V->qj V->Hp->VK->Prop}
def yl8(pa:PlainAttrs T)(slot:Slot T name id)(hty:typeOf (.builtin id)=pure (.type "method_descriptor"))(hm:MtR X id r)(ho:PE X o to)
  (hbase:↑(attributeBase o name X.env (eval o X.env)=eval o X.env)) (hline:↑((apos.endLine == cpos.line)=true)):PE X (.Call (.Attribute o name apos) [] [] cpos) (vjh X.K T r to):=by refine .mk λa s σ H Q I h=>?_;erw[wpAny_Call_method0_late hbase hline (thn (ho a s σ H _ I h) λv i h'=>?_)];let#[x,d,c,b,j,f]:=h';let#[g,e]:=yqm c b j;erw[T,id,pa,slot,hty,g,e,Calls.callWith_builtin J (PySem.evalArgs_none (hm a i σ d x [] v [] Q c b .nil f))]
def ξ(pa:PlainAttrs T)(slot:Slot T name id)(hty:typeOf (.builtin id)=pure (.type "method_descriptor"))(hm:MtR X id r)(ho:PE X o to)(ha:PA X (e::es) t)
  (hbase:↑(attributeBase o name X.env (eval o X.env)=eval o X.env))
  (hfew:((backTo cpos (starEach (e::es) X.env)).all (λx=>!x.1) && (backToKw cpos (keywordEach [] X.env)).all (λx=>x.1.isSome)
   && decide ((e::es).length+([]:qj Keyword).length+(if ([]:qj Keyword).isEmpty then 0 else 1)<30))=true:=by rfl)
  (hline:↑((apos.endLine == cpos.line)=true)) (hs:↑'a') (hplain:↑((backTo cpos (starEach es X.env)).any (·.1)=false)):
  PE X (.Call (.Attribute o name apos) (e::es) [] cpos) (tBM X.K T r to t):=by refine .mk λa s σ H Q I h=>?_;erw[wpAny_Call_method_late hbase hfew hline J (thn (ho a s σ H _ I h) λv u h'=>?_)];let#[x,k,c,b,w,p]:=h';let#[q,m]:=yqm c b w;erw[T,id,pa,slot,hty,q,m,?_];let d:=ha cpos a u σ k _ c p;rw[hs]at d⊢;erw[Calls.callWith_builtin (by show (false || (backTo cpos (starEach es X.env)).any (·.1))=false;rw[hplain]<;>rfl) (Calls.evalArgs_plain ?_),<-thn d λi l ⟨j,g,n,f,y⟩=>hm a l σ g x j v i Q n b f y]
end
end
mutual
def MtM(X:Cx)(id:String)(r:V->qj V->Hp->VK->Prop):Prop :=
 ∀(pins:Θ)(s:qb)(σ:St)(H:Hp)(x:V)(xs:Τ)(v:qc)(us:Ξ)(Q:VK),'i' s->ub x v->xc xs us->r x xs H Q ->
  wpAny (model X.prog X.w) X.A (call (.builtin id) (v::us)) (EP X pins σ Q) X.xe s
def xc.one{x:V}(h:xc [x] us):∃u,us=[u]/\ub x u:=by
 cases h with
 |cons r t=>cases t;exists _,J,r
theorem xc.zero:∀{us:Ξ},xc [] us->us=[]
 |_,.nil=>rfl
theorem xc.reverse{xs:Τ}(h:xc xs us):xc xs.reverse us.reverse:=by
 induction h with
 |nil=>erw[.nil]
 |cons r t ih=>rwa[List.reverse_cons,List.reverse_cons,xc.append ih (.cons r .nil)]
theorem xc.rep{xs:Τ}(h:xc xs us):∀k:Nat,xc (List.replicate k xs).flatten (List.replicate k us).flatten
 |0=>.nil
 |k+1=>by
  rwa[cu,cu,List.flatten_cons,List.flatten_cons,xc.append h (xc.rep h k)]
theorem ycp(its:Ξ):∀(k:Nat)(acc:Ξ),
  List.foldl (λx1 x2=>x1++x2) acc.toArray (List.replicate k its.toArray)=(acc++(List.replicate k its).flatten).toArray
 |0,acc=>by simp
 |k+1,acc=>by
  have e:acc.toArray++its.toArray=(acc++its).toArray:='s'
  have a:(acc++its)++(List.replicate k its).flatten=acc++(List.replicate (k+1) its).flatten:=by
   rw[cu,List.flatten_cons,bX]
  rw[<- a,<- ycp its k (acc++its),<- e,cu,List.foldl_cons]
end
section
mutual
variable{X:Cx}{pins:Θ}{σ:St}{H:Hp}{s:qb}{l b:qa}{xs ys zs:Τ}
def Inv.lset{its its':Ξ}{n:Nat}{f:Array qc->Array qc}{t':Nat}(I:'i' s)(hH:H l\xs)
  (e:s.heap.get? l=some { cls:=.type "list",data:=.seq its.toArray n}) (hf:f its.toArray=its'.toArray) (hv:xc ys its') (hz:ys.length<=sizeLine):
  Inv X pins σ (upd H l (.lst ys)) {s with heap:=s.heap.update l (Obj.mapSeq f),toks:=t'}:=by have q:=PySem.IsL.update e f;rw[hf]at q;erw[I.write (x:=l) (e:=l) (by rwa[hH,trivial]) (.inl J) (λc u b a=>(Heap.get?_update_other s.heap (Obj.mapSeq f) (Ne.symm b)).trans a) #[_,q] ?_,<-hz,its',_,hv,q]
def Inv.lnew{its:Ξ}{t':Nat}(I:'i' s)(hv:xc ys its)(hz:ys.length<=sizeLine):
  Inv X pins σ (upd H 'n' (.lst ys)) {s with heap:=s.heap.push { cls:=.type "list",data:=.seq its.toArray},toks:=t'} :=
 I.laid (λZ Z q=>br _ q) (bx _) #[hz,its,0,hv,bC _ J]
theorem Inv.fresh(I:'i' s):H 'n'=none:=I.hok.fresh (bx _)
def Inv.lstM(I:'i' s)(hH:H l\xs):xs.length<=sizeLine/\∃(its:Ξ)(n:Nat),xc xs its/\xs.length=its.length/\s.heap.get? l=some { cls:=.type "list",data:=.seq its.toArray n}:=by let#[z,its,n,r,e]:=I.hok l _ hH;erw[z,its,n,r,r.length,e]
def ygd{n:Nat}(h:n<=sizeLine):Builtin.List.listTooLong n=false:=by unfold Builtin.List.listTooLong;erw[bD ()]
end
end
section
mutual
variable{X:Cx}
def ylh:V->qj V->Hp->VK->Prop:=λx vs H Q=>∃l xs y,x=.ref l/\vs=[y]/\H l\xs/\xs.length<sizeLine/\Q .non (upd H l (.lst (xs++[y])))
def xt:MtM X "list.append" ylh:=by intro c s σ H x j v i Q I f g h;let#[l,m,y,J,J,b,o,q]:=h;cases f;let#[u,J,d]:=g.one;let#[z,a,n,r,k,e]:=I.lstM b;erw[call_meets F.slot_list_append #[_,e,J] F.entry_list_append (F.args_list_append_2 _ _) (PySem.list_append l a.toArray n u (by rw[bF];omega)) #[e,?_],<-.non,_,I.lset (its':=a++[u]) b e 's' (r.append (.cons d .nil)) ?_,J,q];rw[bq,cz];omega
def ywj:V->qj V->Hp->VK->Prop:=λx vs H Q=>∃l b xs zs,x=.ref l/\vs=[.ref b]/\H l\xs/\H b\zs/\xs.length+zs.length<=sizeLine/\Q .non (upd H l (.lst (xs++zs)))
def ç:MtM X "list.extend" ywj:=by
 intro i s σ H x C v ς Q I o m h;let#[l,b,G,A,J,J,g,w,D,q]:=h;cases o;let#[u,J,t]:=m.one;cases t;let#[z,c,n,r,E,e]:=I.lstM g;let#[B,a,y,p,j,k]:=I.lstM w;have f:c.toArray.size+a.toArray.size<=sizeLine:=by rw[bF,bF];omega
 have d:¬(!c.toArray.isEmpty && Builtin.List.listTooLong (c.toArray.size+a.toArray.size))=true:=by
  rwa[ygd f,Bool.and_false,bK]
 refine call_meets F.slot_list_extend #[_,e,J] F.entry_list_extend (F.args_list_extend_2 _ _)
  (AutoSeq1.list_extend_list_list_0 l c.toArray n b a.toArray y d (by rw[bF];omega) ()) #[e,k,?_]
 erw[.non,_,I.lset (its':=c++a) g e 's' (r.append p) ?_,J,q];rw[bq];omega
def ygo:V->qj V->Hp->VK->Prop:=λx vs H Q=>∃l xs,x=.ref l/\vs=[]/\H l\xs/\Q .non (upd H l (.lst xs.reverse))
def ŧ:MtM X "list.reverse" ygo:=by intro d s σ H x j v i Q I f g h;let#[l,m,J,J,c,q]:=h;cases f;let b:=g.zero;subst b;let#[z,a,n,r,k,e]:=I.lstM c;erw[call_meets F.slot_list_reverse #[_,e,J] F.entry_list_reverse (F.args_list_reverse_1 _) (AutoSeq1.list_reverse_list_0 l a.toArray n (by rw[bF];omega)) #[e,?_],<-.non,_,I.lset (its':=a.reverse) c e 's' r.reverse ?_,J,q];rw[List.length_reverse];omega
def vir:R2:=λx y H Q=>∃l b xs zs,x=.ref l/\y=.ref b/\H l\xs/\H b\zs/\xs.length+zs.length<=sizeLine/\∀p,H p=none->Q (.ref p) (upd H p (.lst (xs++zs)))
def zt:OpR X (binaryOp .Add) vir:=by
 intro d s σ H x y v u Q I m o h;let#[l,b,A,B,J,J,i,k,D,q]:=h;cases m;cases o;let#[z,c,n,r,w,e]:=I.lstM i;let#[t,a,C,f,g,p]:=I.lstM k;erw[PySem.P.add_list e p ?_ (by rw[bF,bF];omega)];have j:c.toArray++a.toArray=(c++a).toArray:='s'
 rwa[j,#[.ref _,_,I.lnew (t':=s.toks) (r.append f) (by rw[bq];omega),J,q _ I.fresh]]
def vj0:R2:=λx y H Q=>∃l k xs,x=.ref l/\y=.int k/\H l\xs/\-(2^63)<=k/\k<2^63/\xs.length*k.toNat<=sizeLine/\
 ∀p,H p=none->Q (.ref p) (upd H p (.lst (List.replicate k.toNat xs).flatten))
def yu4{α:Type}(xs:qj α)(k:Nat):(List.replicate k xs).flatten.length=k*xs.length:=by
 induction k with
 |zero=>simp
 |succ k ih=>rw[cu,List.flatten_cons,bq,ih,Nat.succ_mul,Nat.add_comm]
def ygs:OpR X (binaryOp .Mult) vj0:=by
 intro w s σ H x y v u Q I ς K h;let#[l,k,L,J,J,G,D,B,p,q]:=h;cases ς;let#[t,J]:=K;let#[z,b,n,r,E,e]:=I.lstM G;have f:b.toArray.size*k.toNat<=sizeLine:=by rwa[bF,<- E,p]
 have d:¬b.toArray.size*k.toNat > (2^63-1)/8:=by
  have:(sizeLine:Nat)<=(2^63-1)/8:=∅
  omega
 have i:¬(!Builtin.List.listFitsIndex k)=true:=by
  rwa[fitsIndex_both D B,bK]
 have c:¬Builtin.List.listTooLong (b.toArray.size*k.toNat)=true:=by
  rwa[ygd f,bK]
 have g:List.foldl (λo j=>o++j) #[] (List.replicate (if b.toArray.isEmpty=true then 0 else k.toNat) b.toArray)=(List.replicate k.toNat b).flatten.toArray:=by
  have C:∀m:Nat,List.foldl (λo j=>o++j) #[] (List.replicate m b.toArray)=(List.replicate m b).flatten.toArray:=λm=>by
   have:=ycp b m [];rw[List.nil_append]at this;erw[this]
  rw[C]
  cases b with
  |nil=>simp
  |cons a r'=>rw[if_neg 's']
 refine wpAny_binaryOp_repeat_ref (T:="list") (U:="int") ∅ #[_,e,J] (λA=>typeIs_int A k t) noFill_list_mul F.fills_int_mul F.slot_int_rmul repeat_list F.slot_int_index.lookup
  (call_meets F.slot_int_rmul (typeIs_int s k t) F.entry_int_rmul (F.args_int_rmul_2 _ _) (int___rmul___int_list k t l b.toArray n)
   #[e,J,#[_,e,J],call_meets F.slot_list_mul #[_,e,J] F.entry_list_mul (F.args_list_mul_2 _ _) (AutoListH.list___mul___list_int_3 l b.toArray n k t i d c) #[e,?_]])
 rwa[g,#[.ref _,_,I.lnew (t':=s.toks) (r.rep k.toNat) (by rwa[yu4,Nat.mul_comm,p]),J,q _ I.fresh]]
end
end
end L2
namespace Att
open PySem PySem.W PySem.Calls PyProof.Rows
mutual
def ĩ{P:Params}{h:qg}:∀(ns:Ο)(vs:Ξ),WellAll P h vs (ns.map WData.int)->IntsAre vs ns:=by
 intro ns
 induction ns with
 |nil =>
  intro vs w;rw[List.map_nil]at w;cases w;erw[.nil]
 |cons n ns ih =>
  intro vs w;rw[cb]at w
  cases w with
  |cons a b =>
   cases a;erw[.cons _ _ (ih _ b)]
def ykr{l:OpenLaw}{n:Nat}(hn:l.most=some n){P:Params}{h:qg}{args:qj WData}{vals:Ξ}
  (hpre:l.row.toRowW.claim.pre args=true) (hwl:WellAll P h vals args):
  ∃a vs ns,vals=[Value.ref a]/\args=[WData.list (ns.map WData.int)]/\h.get? a=some { cls:=.type "list",data:=.seq vs.toArray}/\IntsAre vs ns/\ns.length<=n:=by
 have f:WShape.hasAll [] args [.list .int]=true:=(pre_splitW hpre).1;have g:l.pre.holds [] { args:=args}=true:=(pre_splitW hpre).2;let#[d,r,J,j,i]:=hasAllW_cons f;obtain rfl:=hasAllW_nil i;let#[o,J,k]:=hasW_list j;let#[ns,J]:=items_int k
 have b:ns.length<=n:=by
  unfold OpenLaw.pre at g
  have c:(WTm.not (.lt (.lit (.int (n:Int))) (.len (.arg 0)))).holds [] { args:=[.list (ns.map .int)]}=true:=by
   let c:=(holds_andW g).1;rw[hn]at c;erw[c]
  let e:=condW_of c (w_not (w_lt w_lit (w_len_list (w_arg J))));rw[bo]at e;erw[Nat.le_of_not_lt λq=>?_];have m:(n:Int)<((ns.length:Nat):Int):=()
  first
   |(rw[bz m]at e;erw[absurd e ∅])
   |(simp at e;omega)
 cases hwl with
 |cons w1 w2 =>
  cases w2
  cases w1 with
  |list ho hall=>erw[_,_,ns,J,J,ho,ĩ ns _ hall,b]
def yj1(l:OpenLaw)(args:qj WData):l.row.toRowW.claim.post args (.bool true) args=true :=
 postW_of (r:=l.row.toRowW) (X:=(true == true))
  (show WShape.has [] (.bool true) .bool=true by first|rfl|decide|simp[WShape.has,WShape.arms,WShape.armsAll])
  (show (WTm.eq .res (.lit (.bool true))).value [] { args:=args,res:=some (.bool true),after:=args}=some (.bool (true == true))from w_eq_bool (w_res J) w_lit) J
def attach_call{l:OpenLaw}{n:Nat}{q:qi}{loose:Ρ}{XP:(Ε)->qg->Prop}{YP:qe->qg->Prop}{d:DefRec}
  (hn:l.most=some n) (hdf:d.params.defaults=[])
  (call:∀(w:qe)(s₀ s₁:qb)(mg mb:Ε)(fa:qa)(o:Obj)(pm cd doc:qc)(a:qa)(vs:Ξ)(ns:Ο),
   Ground q loose [] XP w s₀ mg mb s₁.heap->YP w s₁.heap ->
   s₁.heap.get? fa=some o->o.data=.func (docDef d.name d.params d.body d.scope pm cd doc)->s₁.heap.CodeRec cd d.name->mg d.name∣fa ->
   s₁.heap.get? a=some { cls:=.type "list",data:=.seq vs.toArray}->IntsAre vs ns->ns.length<=n->s₁.gens=#[] ->
   codeAny (model l.prog w) callerA (.call (.ref fa) #[[.ref a],[]]) (λr s'=>r=.ok (.ret (.bool true))/\OldK s₁.heap s'.heap/\s'.os=s₁.os/\AllBare s'.gens) s₁):
  WalkO q loose XP YP l.row.toRowW d [] (λf vs=>PySem.call f vs):=by
 intro w s₀ s₁ mg mb G Y fa o pm cd doc F kV A u j p i x k m H g t B h E;obtain rfl:F=.none:=Dflts.none p hdf;obtain rfl:kV=.none:=Dflts.noKw p;let#[a,vs,ns,J,J,c,b,e]:=ykr hn g h;erw[enter_call (codeAny_mono (call w s₀ s₁ mg mb fa o pm cd doc a vs ns G Y A (fd_plain u) j i c b e x) λr s' y=>?_)];let#[J,v,C,z]:=y
 erw[.inl #[.bool true,.bool true,[],J,λZ=>rfl,.bool true,yj1 l _,λZ=>#[List.Pairwise.nil,λZ D=>(nomatch D)]],v,C,z]
end
section
variable{prog:qi}{w:qe}{A:qf}{E:Δ}{s:qb}{K:Frag}
noncomputable def viu(h:qg)(L d:qa):Θ:=(List.range h.objs.size).filterMap λa=>if a=L\/a=d then none else (h.get? a).map λo=>(a,o)
end
end Att
namespace L2
open PySem PySem.Spec PyProof.Rows
mutual
variable{C a:qa}{fd:FuncData}{st:qd}{qual x:Str}{T:String}
theorem yca:∀{vs:Ξ}{ns:Ο},IntsAre vs ns->xc (ns.map V.int) vs
 |_,_,.nil=>.nil
 |_,_,.cons n t h=>.cons #[t,J] (yca h)
def vis(H:Hp):Prop:=∀b,H b=none\/∃o xs,H b=some (.frz o (.lst xs))
def yon{P:qi}{w:qe}{K:xy}{mg mb:Ε}{CX:CXT}{k:Nat}{fa:qa}{sp:Sp}{s₁:qb}{vs:Ξ}{ns:Ο}
  (KX:K.In s₁.heap) (hns:s₁.heap.Ns mainGlobals mg) (hb:s₁.heap.Ns builtinsNs mb) (hbb:∀x:Str,x≠"__name__"->mb x=bootBuiltins x) (hlim:s₁.heap.NoLimit) (hg:s₁.gens=#[])
  (ha:s₁.heap.get? a=some { cls:=.type "list",data:=.seq vs.toArray}) (hi:IntsAre vs ns) (hl:ns.length<=sizeLine) (hr:ο k callerA)
  (F:∀base:qg,K.In base->base.Ns mainGlobals mg->vx P w K mg base CX k fa fd [x] sp) (hbind:∀(s:qb)(u:qc),BindsTo s fd #[[u],[]] [(x,u)])
  (hsp:∀H:Hp,vis H->SqL K H a (ns.map V.int)->sp [.ref a] H (λv W=>v=.bl true) λW W W=>False)
  (hCX:∀H e s',CX [] H s₁ (λW W W=>False) e s'->False):
  codeAny (model P w) callerA (.call (.ref fa) #[[.ref a],[]]) (λr s'=>r=.ok (.ret (.bool true))/\OldK s₁.heap s'.heap/\s'.os=s₁.os/\AllBare s'.gens) s₁:=by
 let I:=yca hi;let t:=hi.length;have g:∀H:Hp,vis H->SqL K H a (ns.map V.int)->HOk P w H s₁.heap->(∀b,H b≠none->b=a)->(H a≠none->K.lookup a=none) ->
   codeAny (model P w) callerA (.call (.ref fa) #[[.ref a],[]]) (λr s'=>r=.ok (.ret (.bool true))/\OldK s₁.heap s'.heap/\s'.os=s₁.os/\AllBare s'.gens) s₁:=by
  intro H E X y G R;have c:∀{b:qa}{o:Obj},s₁.heap.get? b=some o->H b=none->(ypo s₁.heap H).get? b=some o:=λe n=>yog e n
  have D:∀{b:qa}{o:Obj}{p:Array DictEntry}{A:Nat},s₁.heap.get? b=some o->o.data=.dict p A->H b=none:=λ{b o p A}e d=>by
   cases q:H b with
   |none=>rfl
   |some u =>
    have C:b=a:=G b (by rw[q];simp);subst C;rw[ha]at e;cases e;have U:Data.seq vs.toArray _=Data.dict p A:=d;cases U
  have f:∀{b:qa}{m:Ε},s₁.heap.Ns b m->(ypo s₁.heap H).Ns b m:=λ{b m} ⟨o,p,A,e,d,r⟩=>#[o,p,A,c e (D e d),d,r]
  have B:K.In (ypo s₁.heap H):=λb o e=>c (KX b o e) (by
   cases q:H b with
   |none=>rfl
   |some u =>
    have C:b=a:=G b (by rw[q];simp);subst C;rw[R (by rw[q];simp)]at e;cases e)
  have O:Mod K mg (ypo s₁.heap H):=#[B,f hns,#[mb,f hb,hbb],let ⟨mc,h1,h2⟩:=hlim;#[mc,f h1,h2]];have M:yw1 P w K mg (ypo s₁.heap H) callerA [] s₁ H:=#[J,O,λb o e=>ywl e,Nat.le_of_eq (yi1 _ _),trivial,λb hb=>absurd (show b∈([]:Φ)from hb) 's',y,.of_eq hg];erw[codeAny_mono ((F _ B (f hns)).run callerA [] s₁ H #[[.ref a],[]] [.ref a] [.ref a] _ _ hr M (hbind s₁ (.ref a)) (.cons J .nil) (hsp H E X)) λr s' h=>?_]
  cases r with
  |error e=>erw[(hCX H e s' h).elim]
  |ok fl =>
   cases fl with
   |next=>erw[False.elim h]
   |brk=>erw[False.elim h]
   |cont=>erw[False.elim h]
   |ret u =>
    let#[v,H',os,j,ς,l,N,q]:=h;have Y:v=.bl true:=q;subst Y;obtain rfl:u=Value.bool true:=N;erw[J,OldK.of_keep λb o e=>?_,os,j]
    cases q:H b with
    |none=>erw[ς.keep b o e q (by intro z;erw[absurd (show b∈([]:Φ)from z) 's']) 's']
    |some u =>
     rcases E b with z|⟨S,Z,z⟩
     .rw[q]at z;cases z
     .let Q:=ς.frzs b S _ z;let#[L,_]:=y b _ z;let#[T,_]:=l b _ Q;rw[e]at L;cases L;erw[T]
 cases hk:K.lookup a with
 |some o =>
  let e:=KX a o hk;rw[ha]at e;cases e;erw[g (λW=>none) (λW=>.inl J) (.inr #[_,vs.toArray,_,hk,J,J,J,by rwa[bF,t,hl],by simpa using I]) (λb u z=>by have i:(none:ql HO)=some u:=z;cases i) (λb z=>absurd J z) λz=>absurd J z]
 |none =>
  erw[g (λb=>if b=a then some (.frz { cls:=.type "list",data:=.seq vs.toArray} (.lst (ns.map V.int)))else none) (λb=>?_) (.inl (.inr #[{ cls:=.type "list",data:=.seq vs.toArray},if_pos J])) (λb u z=>?_) (λb z=>?_) λW=>hk]
  .by_cases hb:b=a
   .erw[.inr #[_,_,if_pos hb]]
   .erw[.inl (if_neg hb)]
  .by_cases hb:b=a
   .let i:=(if_pos hb).symm.trans z;cases i;subst hb;erw[ha,by rwa[bo,hl],vs,_,I,ha]
   .let i:=(if_neg hb).symm.trans z;cases i
  .by_cases hb:b=a
   .erw[hb]
   .erw[absurd (if_neg hb) z]
def walk_of{l:W.OpenLaw}{n k:Nat}{q:qi}{loose:Ρ}{XP:(Ε)->qg->Prop}{YP:qe->qg->Prop}{d:DefRec}{K:Params->xy}{CX:qe->CXT}{sp:qe->Sp} 
  (hn:l.most=some n) (hn2:n<=sizeLine) (hdf:d.params.defaults=[]) (hr:ο k callerA)
  (hY:∀(w:qe)(h:qg),YP w h->(K w.params).In h)
  (F:∀(w:qe)(mg:Ε)(fa:qa)(h:qg),(K w.params).In h->h.Ns mainGlobals mg->mg d.name∣fa ->
   ∃fd:FuncData,(∀(s:qb)(u:qc),BindsTo s fd #[[u],[]] [(x,u)])/\
    ∀base:qg,(K w.params).In base->base.Ns mainGlobals mg->vx l.prog w (K w.params) mg base (CX w) k fa fd [x] (sp w))
  (hsp:∀(w:qe)(H:Hp)(a:qa)(ns:Ο),ns.length<=n->vis H->SqL (K w.params) H a (ns.map V.int)->sp w [.ref a] H (λv Z=>v=.bl true) λZ Z Z=>False)
  (hCX:∀(w:qe)(H:Hp)(s:qb)(e:qc)(s':qb),CX w [] H s (λZ Z Z=>False) e s'->False):
  W.WalkO q loose XP YP l.row.toRowW d [] (λf vs=>PySem.call f vs):=by refine Att.attach_call hn hdf λw s₀ s₁ mg L fa o E ς A a vs ns G Y I D t m j i c z=>?_;let p:=hY w _ Y;let#[fd,B,C]:=F w mg fa _ p G.T.g m;erw[yon p G.T.g G.T.b G.T.builtins G.T.nolimit z j i (ck c hn2) hr C B (λH y r=>hsp w H a ns c y r) λH e s'=>hCX w H s₁ e s']
noncomputable def yx(s:qd)(j:Nat):qd:=match s with
 | .ClassDef _ _ _ body _ _ _ _ _ _ _=>body.getD j (.Pass #[0,0,0,0])
 |_=>.Pass #[0,0,0,0]
noncomputable def xz(s:qd):Arguments:=match s with
 | .FunctionDef _ a _ _ _ _ _ _ _ _=>a
 |_=>{ posonlyargs:=[],args:=[],vararg:=none,kwonlyargs:=[],kw_defaults:=[],kwarg:=none,defaults:=[]}
noncomputable def xi(s:qd):qj qd:=match s with
 | .FunctionDef _ _ b _ _ _ _ _ _ _=>b
 |_=>[]
noncomputable def ye(s:qd):Scope:=match s with
 | .FunctionDef _ _ _ _ _ _ sc _ _ _=>sc
 |_=>{ kind:=.function,names:=[],isGenerator:=false,isCoroutine:=false}
abbrev CX0:CXT:=λZ Z Z Z Z Z=>False
abbrev E0:XK:=λZ Z Z=>False
def vo{X:Cx}:Ē CX0 X E0:=λZ Z Z Z Z Z Z h=>h.elim
structure Fun(K:xy)(x qual:Str)(st:qd)(f:qa)(fd:FuncData):Prop where
 ex:∃(oc:qc)(od:ql qa)(kV doc pm:qc)(an:ql qa)(cdv ct:qc)(osl:Array (ql qc)),
  fd=W.fnOf x qual (xz st) (xi st) (ye st) .none kV doc pm an cdv ct/\K.lookup f=some #[oc,od,.func fd,osl]/\W.codeIn K cdv qual=true
 kp:W.keepIn K (.ref f)=true
end
section
mutual
variable{P:qi}{w:qe}{K:xy}{mg:Ε}{base:qg}
def Fun.ok{f:qa}{N ps:Ρ}{k:Nat}{sp:Sp}(F:Fun K x qual st f fd)(S:yk N ps (ye st))(len:∀vs H Q E,sp vs H Q E->vs.length=ps.length)
  (hbody:∀(cdv:qc)(A:qf)(outer:qj Env)(s:qb)(H:Hp)(vs:Τ)(Q:VK)(E:XK),ο k (A.deeper (envOfC qual (ye st) 'n' f cdv))->sp vs H Q E ->
   ∃t,PSs (vy CX0 P w K mg base N qual (ye st) f cdv A outer s H E).nox (xi st) t/\t { nx:=λZ H'=>Q .non H',rt:=Q} (ė N vs) H):vx P w K mg base CX0 (k+1) f fd ps sp:=by let#[m,l,kV,e,j,i,cdv,n,g,J,c,b]:=F.ex;erw[ywm c b S len λA outer s H vs Q E d a=>?_];let#[t,h,q]:=hbody cdv A outer s H vs Q E d a;erw[t,h.nox,q]
def Fun.binds{f:qa}{ps:Ρ}(F:Fun K x qual st f fd)
  (h:∀(kV doc pm:qc)(an:ql qa)(cdv ct:qc)(us:Ξ),us.length=ps.length->bindArgs (W.fnOf x qual (xz st) (xi st) (ye st) .none kV doc pm an cdv ct) #[us,[]]=pure (ps.zip us)):jl K fd ps []:=by let#[e,c,kV,doc,pm,an,cdv,ct,b,J,d,a]:=F.ex;erw[.all (h kV doc pm an cdv ct)]
def ysa{f:qa}{oc:qc}{od an:ql qa}{osl:Array (ql qc)}{kV doc pm cdv ct:qc}(l:K.lookup f=some #[oc,od,.func (W.fnOf x qual (xz st) (xi st) (ye st) .none kV doc pm an cdv ct),osl])
  (c:W.codeIn K cdv qual=true) (k:W.keepIn K (.ref f)=true):Fun K x qual st f (W.fnOf x qual (xz st) (xi st) (ye st) .none kV doc pm an cdv ct):=#[#[oc,od,kV,doc,pm,an,cdv,ct,osl,J,l,c],k]
end
end
def ő{A:qf}{k:Nat}(hr:ο k A):A.units+1<cLine:=Nat.lt_of_le_of_lt (Nat.add_le_add_left (by decide:1<=64) _) hr.units
section
variable{X:Cx}
def pv(i:Nat){pos:Pos}(hN:↑(X.N[i]?=some x))(hv:autoParam (Vis X.env.scope x) aH._auto_1)(hd:⇑'d')
  (hcd:⇑((x == ("__classdict__":Str))=false)):PE X (.Name x pos) (yxc i):=yme hN hv hd hcd
end
mutual
def j9{A B:Prop}(h:B):if false=true then A else B:=by rwa[if_neg bK,h]
def Ĥ{A B:Prop}(h:A):if true=true then A else B:=by rwa[if_pos J,h]
def yu(H H':Hp):Prop:=∀b o,H b=some o->H' b=some o
def yu.refl(H:Hp):yu H H:=λZ Z h=>h
def yu.trans{H H1 H2:Hp}(a:yu H H1)(b:yu H1 H2):yu H H2:=λc o h=>b c o (a c o h)
def yu.free{H H':Hp}(e:yu H H'){l:qa}(h:H' l=Option.none):H l=Option.none:=by
 cases q:H l with
 |none=>rfl
 |some o =>
  rw[e l o q]at h;cases h
def yu.seq{K:xy}{H H':Hp}{xs:Τ}(e:yu H H')(h:SqL K H a xs):SqL K H' a xs:=by
 rcases h with(h|⟨o,h⟩)|h
 .erw[.inl (.inl (e _ _ h))]
 .erw[.inl (.inr #[o,e _ _ h])]
 .erw[.inr h]
end
section
mutual
variable{X:Cx}
def xq:θ X (.builtin "isinstance") (λxs H Q=>∃x cv t c k,xs=[x,cv]/\ub cv c/\(∀u,ub cv u->u=c)/\xf X.K H x t/\W.kitOne X.K t c=some k/\Q (.bl k) H):=by intro a s σ H xs l Q I r h;let#[x,cv,t,c,k,J,_,i,f,e,q]:=h;let#[u,j,J,d,g]:=ym0 r;obtain rfl:=i j g;erw[yjp I d f e λb=>#[.bl k,H,I.tok b,J,q]]
def Ó{pos:Pos}(hg:Gl X x)(hm:X.mg x=none)(hv:bootBuiltins x=some (.type T))(hn:⇑(x≠"__name__"))(hd:⇑'d'):PE X (.Name x pos) (tC (.ty T)):=yuw hg hm hv J hn hd
def vw{i:Int}{t:Tok}{pos:Pos}(hg:Gl X x)(hm:X.mg x=some (.int i t))(hd:⇑'d'):PE X (.Name x pos) (tC (.int i)):=yfa hg hm #[t,J] hd
def vt{pos:Pos}(hg:Gl X x)(hm:X.mg x∣C)(hd:⇑'d'):PE X (.Name x pos) (tC (.ref C)):=yfa hg hm J hd
end
mutual
inductive RdV(K:xy)(H:Hp):V->PyData->Prop
 |non:RdV K H .non .none
 |bl (b:_):RdV K H (.bl b) (.bool b)
 |int (i:_):RdV K H (.int i) (.int i)
 |str (x:_):RdV K H (.str x) (.str x)
 |lst {a xs ds:_}:SqL K H a xs->ys8 K H xs ds->RdV K H (.ref a) (.list ds)
 |tup {a xs ds:_}:SqT K H a xs->ys8 K H xs ds->RdV K H (.ref a) (.tuple ds)
inductive ys8(K:xy)(H:Hp):qj V->qj PyData->Prop
 |nil:ys8 K H [] []
 |cons {x xs d ds:_}:RdV K H x d->ys8 K H xs ds->ys8 K H (x::xs) (d::ds)
end
mutual
def RdV.reads{pins:Θ}{σ:St}{H:Hp}{s:qb}(I:'i' s){x:V}{d:PyData}{u:qc}(h:RdV X.K H x d):ub x u->∃as,Reads s.heap u d as:=by
 erw[RdV.rec (motive_1:=λx d Z=>∀u,ub x u->∃as,Reads s.heap u d as) (motive_2:=λf g Z=>∀e,xc f e->∃as,ReadsAll s.heap e g as) ?_ ?_ ?_ ?_ ?_ ?_ ?_ ?_ h u]
 .intro u r;cases r;erw[_,.none]
 .intro b u r;cases r;erw[_,.bool _]
 .intro i u r;let#[t,J]:=r;erw[_,.int _ _]
 .intro i u r;let#[t,J]:=r;erw[_,.str _ _]
 .intro a f g j w k u r;cases r;let#[m,v,#[o,n,q,l,C,p],B]:=I.list j;let#[as,c]:=k _ v;erw[_,.list q l p (by simpa using c)]
 .intro a f g j w k u r;cases r;let#[m,v,#[o,q,l,n,p],B]:=I.tuple j;let#[as,c]:=k _ v;erw[_,.tuple q l p (by simpa using c)]
 .intro e r;cases r;erw[_,.nil]
 .intro x f d g h w y A e r
  cases r with
  |cons r rs =>
   let#[as,c]:=y _ r;let#[D,z]:=A _ rs;erw[_,.cons c z]
def vgm(K:xy)(g:Bool->Bool):R2:=λx y H Q=>∃d e,RdV K H x d/\RdV K H y e/\SeqAt.shaped d=true/\SeqAt.shaped e=true/\Q (.bl (g (PyData.eqv d e))) H
def va7(hu:X.A.units+64<cLine):OpR X (compareOp .Eq) (vgm X.K λb=>b):=by intro a s σ H x y v u Q I l m h;let#[d,e,j,f,k,c,q]:=h;let#[n,i]:=j.reads I l;let#[o,g]:=f.reads I m;erw[eq_dataH i g k c hu #[.bl _,H,I,J,q]]
def Ō(hu:X.A.units+64<cLine):OpR X (compareOp .NotEq) (vgm X.K λb=>!b):=by intro a s σ H x y v u Q I l m h;let#[d,e,j,f,k,c,q]:=h;let#[n,i]:=j.reads I l;let#[o,g]:=f.reads I m;erw[ne_dataH i g k c hu #[.bl _,H,I,J,q]]
theorem Ľ{K:xy}{H:Hp}:∀ns:Ο,ys8 K H (ns.map V.int) (ns.map PyData.int)
 |[]=>.nil
 |n::r=>.cons (.int n) (Ľ r)
theorem Ķ:∀ns:Ο,PyData.canLayAll0 (ns.map PyData.int)=true
 |[]=>rfl
 |_::r=>by simp[PyData.canLayAll0,PyData.canLay0,Ķ r]
theorem Ť:∀ns:Ο,PyData.depthAll (ns.map PyData.int)=0
 |[]=>rfl
 |_::r=>by simp[PyData.depthAll,PyData.depth,Ť r]
def Ũ(ns:Ο):SeqAt.shaped (.list (ns.map PyData.int))=true:=by simp[SeqAt.shaped,PyData.canLay0,PyData.depth,Ķ,Ť]
theorem ĳ:∀ns ms:Ο,PyData.eqvAll (ns.map PyData.int) (ms.map PyData.int)=decide (ns=ms)
 |[],[]=>by simp[PyData.eqvAll]
 |[],_::_=>by simp[PyData.eqvAll]
 |_::_,[]=>by simp[PyData.eqvAll]
 |a::r,b::t=>by
  simp only[cb,PyData.eqvAll,PyData.eqv,ĳ r t];by_cases h:a=b<;>by_cases h':r=t<;>simp[h,h']
def ywr{K:xy}{g:Bool->Bool}{H:Hp}{Q:VK}{b:qa}(ns ms:Ο)(ha:SqL K H a (ns.map V.int))(hb:SqL K H b (ms.map V.int))(h:Q (.bl (g (decide (ns=ms)))) H):vgm K g (.ref a) (.ref b) H Q :=
 #[_,_,.lst ha (Ľ ns),.lst hb (Ľ ms),Ũ ns,Ũ ms,by rwa[PyData.eqv,ĳ,h]]
def vgr(_ j:Int):Prop:=0<j/\j<2^200
def vk:OpR X (binaryOp .FloorDiv) (rI vgr λi j=>.int (i/j)):=opI λi j Z Z Z Z Z a q=>by
 let#[c,d]:=a;erw[floordiv_int () ?_ (.inl (PyProof.noPylong_of_log2 ?_))]
 .rw[Int.fdiv_eq_ediv_of_nonneg _ ()];erw[q]
 .have e:j.natAbs<2^200:=()
  have b:j.natAbs≠0:=()
  have:=(Nat.log2_lt b).mpr e;omega
def vf7(k:Int):R2:=λx y H Q=>∃i j,x=.int i/\y=.int j/\vik i j/\i^j.toNat=k/\Q (.int k) H
def yvx(k:Int):OpR X (binaryOp .Pow) (vf7 k):=by intro a s σ H x y v u Q I d b h;let#[i,j,J,J,c,e,q]:=h;erw[vbg a s σ H (.int i) (.int j) v u Q I d b #[i,j,J,J,c,by show Q (.int (i^j.toNat)) H;rwa[e,q]]]
def vjc(t:TS):TS:=λD σ H=>∃M:Ζ,t {D with nx:=M} σ H/\∀σ' H',M σ' H'->D.nx σ' H'
def zn{t:TS}(h:PS X st t):PS X st (vjc t):=by
 erw[.mk λa s σ H D I ⟨M,d,c⟩=>?_,<-thn (h a s σ H {D with nx:=M} I d) λf g q=>?_]
 cases f with
 |next =>
  let#[σ',b,e,q]:=q;erw[σ',b,e,c σ' b q]
 |ret v=>erw[q]
 |brk=>erw[q]
 |cont=>erw[q]
end
end
def wu(nx:Ζ)(σ:St)(H:Hp):Prop:=nx σ H
section
mutual
variable{K:xy}{σ:St}{H:Hp}{Q:VK}{QB:Bool->Hp->Prop}{QL:qj V->Hp->Prop}{v x y:V}{i j:Int}{b:Bool}{ta tb tc te:TE}{t u:TS}{tA tB':TT}{tr:TA}{D:ã}
 {nx bk ct:Ζ} {rt:VK} {A B:Prop}
def ym{N:Ρ}{vs:Τ}{σ':St}(e:ė N vs=σ')(h:t D σ' H):t D (ė N vs) H:=by rwa[e,h]
def ywy{k:Nat}(e:σ[k]?=some (some v))(h:Q v H):yxc k σ H Q:=#[v,e,h]
def i_c(h:Q v H):tC v σ H Q:=h
def vkc{r:R2}(h:ta σ H λx H1=>tb σ H1 λy H2=>r x y H2 Q):tOp r ta tb σ H Q:=h
def vju{r:V->Hp->VK->Prop}(h:ta σ H λx H1=>r x H1 Q):tUn r ta σ H Q:=h
def vjw{g:Int->Int->V}(h:Q (g i j) H):rI0 g (.int i) (.int j) H Q:=#[i,j,J,J,h]
def i_I{C:Int->Int->Prop}{g:Int->Int->V}(hc:C i j)(h:Q (g i j) H):rI C g (.int i) (.int j) H Q:=#[i,j,J,J,hc,h]
def i_U{g:Int->V}(h:Q (g i) H):rU g (.int i) H Q:=#[i,J,h]
def vhg(h:Q (.bl (decide (i=j))) H):rEq (.int i) (.int j) H Q:=#[J,by
 have e:decide (V.int i=V.int j)=decide (i=j):='s'
 rwa[e,h]]
def yxh(h:ta σ H λx H'=>∃k,x=.bl k/\QB k H'):ywq ta σ H QB:=h
def vj7(h:ta σ H λx H'=>∃k,x=.bl k/\QB k H'):tB ta σ H QB:=h
def vj9{P:Bool->Prop}(h:P b):∃k,V.bl b=V.bl k/\P k:=#[b,J,h]
def yv1{r r':R2}(h:ta σ H λx H1=>tb σ H1 λy H2=>r x y H2 λz H3=>∃k,z=.bl k/\(if k=true then tc σ H3 λw' H4=>r' y w' H4 Q else Q (.bl false) H3)):yl5 r r' ta tb tc σ H Q:=h
def vbc(h:ta σ H λx H1=>∃c,x=.bl c/\if c=true then tb σ H1 Q else Q (.bl false) H1):vdi ta tb σ H Q:=h
def yxv(h:ta σ H λx H1=>∃c,x=.bl c/\Q (.bl (!c)) H1):veh ta σ H Q:=h
def vgp{t1 t2:TT}(h:t1 σ H λc H1=>if c=true then t2 σ H1 QB else QB false H1):vix t1 t2 σ H QB:=h
def vjv{t1 t2:TT}(h:t1 σ H λc H1=>if c=true then QB true H1 else t2 σ H1 QB):tOr t1 t2 σ H QB:=h
def vg9{t1:TT}(h:t1 σ H λc H1=>QB (!c) H1):vjl t1 σ H QB:=h
def vg4(h:tA σ H λc H1=>if c=true then ta σ H1 Q else tb σ H1 Q):tIf tA ta tb σ H Q:=h
structure Nx(u nx:Ζ):Prop where
 go:∀σ H,u σ H->nx σ H
def yyt(h:∀nx bk ct:Ζ,Nx (u D) nx->Nx D.bk bk->Nx D.ct ct->t #[nx,D.rt,bk,ct] σ H):vga t u D σ H:=h (u D) D.bk D.ct ⟨λZ Z z=>z⟩ ⟨λZ Z z=>z⟩ ⟨λZ Z z=>z⟩
def vi2{u nx:Ζ}(h:Nx u nx)(q:u σ H):nx σ H:=h.go _ _ q
def yzg(h:nx σ H):vd2 #[nx,rt,bk,ct] σ H:=h
def vhk(h:te σ H rt):vja te #[nx,rt,bk,ct] σ H:=h
def vb3(h:te σ H λZ H1=>nx σ H1):ven te #[nx,rt,bk,ct] σ H:=h
def vke(h:tA σ H λc H1=>if c=true then t D σ H1 else u D σ H1):vjo tA t u D σ H:=h
def ø(M:Ζ)(h1:t #[M,rt,bk,ct] σ H)(h2:∀σ' H',M σ' H'->nx σ' H'):vjc t #[nx,rt,bk,ct] σ H:=#[M,h1,h2]
def vh9{g:TG}(h:te σ H λx H1=>g x σ H1 nx):ywz te g #[nx,rt,bk,ct] σ H:=h
def vbl{sp:Sp}{dvs:Τ}{E:XK}(h:tr σ H λvs H1=>sp (vs++dvs) H1 Q E):ywp sp dvs E tr σ H Q:=h
def vap(h:ta σ H λx H1=>tr σ H1 λxs H2=>QL (x::xs) H2):yin ta tr σ H QL:=h
def vh7(h:QL [] H):yhh σ H QL:=h
def vkj{r:qj V->Hp->VK->Prop}(h:tr σ H λvs H1=>r vs H1 Q):tCB r tr σ H Q:=h
def vh4(h:tr σ H λxs H1=>xs.length<=sizeLine/\∀p,H1 p=none->Q (.ref p) (upd H1 p (.tup xs))):vjb tr σ H Q:=h
def vgq(h:tr σ H λxs H1=>xs.length<=sizeLine/\∀p,H1 p=none->Q (.ref p) (upd H1 p (.lst xs))):vif tr σ H Q:=h
def ŉ{m:Str}{sp:Sp}{dvs:Τ}{E:XK}(h:ta σ H λx H1=>∃a dx fs,x=.ref a/\H1 a∩C dx fs/\fs.lookup m=none/\tr σ H1 λvs H2=>sp (x::(vs++dvs)) H2 Q E):ş C m sp dvs E ta tr σ H Q:=h
def vg5{f:Str}(h:ta σ H λx H1=>∃a C dx fs v,x=.ref a/\H1 a∩C dx fs/\Cls K C/\NoAttr K C f/\fs.lookup f=some v/\Q v H1):vgi K ta f σ H Q:=h
def yzn{f:Str}(h:tb σ H λy H1=>ta σ H1 λx H2=>∃a C dx fs,x=.ref a/\H2 a∩C dx fs/\Cls K C/\NoAttr K C f/\fs.length<1000/\wu nx σ (upd H2 a (.ins C dx (Ñ f y fs)))):vi3 K ta tb f #[nx,rt,bk,ct] σ H:=h
def vkk{r:V->ql Int->ql Int->Hp->VK->Prop}{tl th:TO}(h:te σ H λx H1=>tl σ H1 λl H2=>th σ H2 λu H3=>r x l u H3 Q):tSl r te tl th σ H Q:=h
def yof{QO:ql Int->Hp->Prop}(h:QO none H):ylt σ H QO:=h
def vcg{QO:ql Int->Hp->Prop}(h:ta σ H λx H1=>∃i,x=.int i/\QO (some i) H1):vdq ta σ H QO:=h
def vib{P:Int->Prop}(h:P i):∃k,V.int i=V.int k/\P k:=#[i,J,h]
def vax(h:A):V.non=V.non/\A:=#[J,h]
def g0{a0:ql V}{r:St}{N:Ζ}(h:N (some v::r) H):xw 0 v (a0::r) H N:=h
def g1{a0 a1:ql V}{r:St}{N:Ζ}(h:N (a0::some v::r) H):xw 1 v (a0::a1::r) H N:=h
def g2{a0 a1 a2:ql V}{r:St}{N:Ζ}(h:N (a0::a1::some v::r) H):xw 2 v (a0::a1::a2::r) H N:=h
def g3{a0 a1 a2 a3:ql V}{r:St}{N:Ζ}(h:N (a0::a1::a2::some v::r) H):xw 3 v (a0::a1::a2::a3::r) H N:=h
def g4{a0 a1 a2 a3 a4:ql V}{r:St}{N:Ζ}(h:N (a0::a1::a2::a3::some v::r) H):xw 4 v (a0::a1::a2::a3::a4::r) H N:=h
def g5{a0 a1 a2 a3 a4 a5:ql V}{r:St}{N:Ζ}(h:N (a0::a1::a2::a3::a4::some v::r) H):xw 5 v (a0::a1::a2::a3::a4::a5::r) H N:=h
def g6{a0 a1 a2 a3 a4 a5 a6:ql V}{r:St}{N:Ζ}(h:N (a0::a1::a2::a3::a4::a5::some v::r) H):xw 6 v (a0::a1::a2::a3::a4::a5::a6::r) H N:=h
def g7{a0 a1 a2 a3 a4 a5 a6 a7:ql V}{r:St}{N:Ζ}(h:N (a0::a1::a2::a3::a4::a5::a6::some v::r) H):xw 7 v (a0::a1::a2::a3::a4::a5::a6::a7::r) H N:=h
def g8{a0 a1 a2 a3 a4 a5 a6 a7 a8:ql V}{r:St}{N:Ζ}(h:N (a0::a1::a2::a3::a4::a5::a6::a7::some v::r) H):xw 8 v (a0::a1::a2::a3::a4::a5::a6::a7::a8::r) H N:=h
def g9{a0 a1 a2 a3 a4 a5 a6 a7 a8 a9:ql V}{r:St}{N:Ζ}(h:N (a0::a1::a2::a3::a4::a5::a6::a7::a8::some v::r) H):xw 9 v (a0::a1::a2::a3::a4::a5::a6::a7::a8::a9::r) H N:=h
def yhe{n:Nat}{tg:TGs}{xs:Τ}{N:Ζ}(hq:SqT K H a xs)(hl:xs.length=n)(h:tg xs σ H N):yw9 K n tg (.ref a) σ H N:=#[a,xs,J,hq,hl,h]
def yvh{tg:TG}{us:TGs}{r:Τ}{N:Ζ}(h:tg v σ H λσ' H'=>us r σ' H' N):Ò tg us (v::r) σ H N:=#[v,r,J,h]
def yx6{N:Ζ}(h:N σ H):ypn [] σ H N:=#[J,h]
def za{p:Prop}[Decidable p](h1:p->A)(h2:¬p->B):if decide p=true then A else B:=by
 by_cases h:p
 .rw[if_pos (bz h)];erw[h1 h]
 .rw[if_neg (by simp[h])];erw[h2 h]
def ydf{p:Prop}[Decidable p](hp:p)(h:A):if decide p=true then A else B:=by rwa[if_pos (bz hp),h]
def yir{p:Prop}[Decidable p](hp:¬p)(h:B):if decide p=true then A else B:=by rwa[if_neg (by simp[hp]),h]
def ywx{p:Prop}[Decidable p](hp:p)(h:B):if (!decide p)=true then A else B:=by rwa[if_neg (by simp[hp]),h]
def yww{p:Prop}[Decidable p](hp:¬p)(h:A):if (!decide p)=true then A else B:=by rwa[if_pos (by simp[hp]),h]
def yxa{p:Prop}[Decidable p](h1:p->B)(h2:¬p->A):if (!decide p)=true then A else B:=by
 by_cases h:p
 .erw[ywx h (h1 h)]
 .erw[yww h (h2 h)]
def vgv(h:B):if (!true)=true then A else B:=j9 h
def vhr(h:A):if (!false)=true then A else B:=Ĥ h
def uf{f:Str}{r:Ι}:List.lookup f ((f,v)::r)=some v:=by simp[List.lookup]
def wn{f g:Str}{r:Ι}{o:ql V}(h:¬f=g)(e:List.lookup f r=o):List.lookup f ((g,v)::r)=o:=by
 have a:(f == g)=false:=by simp[h]
 simp[List.lookup,a,e]
def Ø{f:Str}:List.lookup f ([]:Ι)=none:=rfl
def μ{f:Str}{r:Ι}:Ñ f v ((f,x)::r)=(f,v)::r:=by simp[Ñ]
def vz{f g:Str}{r r':Ι}(h:¬g=f)(e:Ñ f v r=r'):Ñ f v ((g,x)::r)=(g,x)::r':=by simp[Ñ,h,e]
def wz{f:Str}:Ñ f v []=[(f,v)]:=rfl
def zr{c:qa}{o o':HO}(hn:H a=none)(h:H c=some o):upd H a o' c=some o:=by rwa[yn (yb h hn),h]
def yg{c:qa}{o o':HO}(hn:c≠a)(h:H c=some o):upd H a o' c=some o:=by rwa[yn hn,h]
def yz{o:HO}(hn:H a=none):yu H (upd H a o):=λZ Z h=>zr hn h
def yu.tup{H':Hp}{xs:Τ}(e:yu H H')(h:SqT K H a xs):SqT K H' a xs:=by
 rcases h with(h|⟨o,h⟩)|h
 .erw[.inl (.inl (e _ _ h))]
 .erw[.inl (.inr #[o,e _ _ h])]
 .erw[.inr h]
def yc7{tb:TS}{W:Nat->St->Hp->Prop}{m:Nat}(h:tb #[λσ' H'=>∃m',m'<m/\W m' σ' H',rt,nx,λσ' H'=>∃m',m'<m/\W m' σ' H'] σ H):
  ∃N:Ζ,(∀σ' H',N σ' H'->∃m',m'<m/\W m' σ' H')/\tb #[N,rt,nx,N] σ H:=#[_,λZ Z q=>q,h]
def yz0{sp:Sp}{dvs:Τ}{E:XK}(h:tr σ H λvs H1=>∀x dx,H1 x=none->H1 dx=none->dx≠x->sp (.ref x::(vs++dvs)) (upd (upd H1 dx (.own x)) x (.ins C dx [])) (λv H2=>v=.non/\Q (.ref x) H2) E):ywt C sp dvs E tr σ H Q:=h
def vjt{r:V->qj V->Hp->VK->Prop}(h:ta σ H λx H1=>tyV K T x H1/\tr σ H1 λxs H2=>r x xs H2 Q):tBM K T r ta tr σ H Q:=h
def vhi{r:V->qj V->Hp->VK->Prop}(h:ta σ H λx H1=>tyV K T x H1/\r x [] H1 Q):vjh K T r ta σ H Q:=h
def υ{p:qa}{xs:Τ}(h:H p\xs)(k:A):tyV K "list" (.ref p) H/\A:=#[.inl #[J,_,SqL.of h],k]
def uw{l:qa}{xs:Τ}(h:H l\xs)(hz:xs.length<sizeLine)(k:Q .non (upd H l (.lst (xs++[y])))):ylh (.ref l) [y] H Q:=#[l,xs,y,J,J,h,hz,k]
def ycg{l:qa}{xs:Τ}(h:H l\xs)(k:Q .non (upd H l (.lst xs.reverse))):ygo (.ref l) [] H Q:=#[l,xs,J,J,h,k]
def ur{p:qa}{ys:Τ}{P:qj V->Prop}(h:SqL K H p ys)(k:P ys):∃p' ys',[V.ref p]=[V.ref p']/\(SqL K H p' ys'\/SqT K H p' ys')/\P ys':=#[p,ys,J,.inl h,k]
def yrr{p:qa}{ys:Τ}{P:qj V->Prop}(h:SqT K H p ys)(k:P ys):∃p' ys',[V.ref p]=[V.ref p']/\(SqL K H p' ys'\/SqT K H p' ys')/\P ys':=#[p,ys,J,.inr h,k]
def ya0{p:qa}{ys:Τ}{P:qj V->Prop}(h:SqL K H p ys)(k:P ys):∃p' ys',[V.ref p]=[V.ref p']/\(SqL K H p' ys'\/SqT K H p' ys')/\P ys':=#[p,ys,J,.inl h,k]
def zq{p:qa}{xs:Τ}(h:SqL K H p xs)(e:atI xs i=some v)(k:Q v H):vio K (.ref p) (.int i) H Q:=#[p,xs,i,v,J,J,h,e,k]
def ybs{p:qa}{xs:Τ}(h:SqT K H p xs)(e:atI xs i=some v)(k:Q v H):viy K (.ref p) (.int i) H Q:=#[p,xs,i,v,J,J,h,e,k]
def Ŏ{p:qa}{xs:Τ}{lo hi:ql Int}(h:SqL K H p xs)(k:∀q,H q=none->Q (.ref q) (upd H q (.lst (ydg xs lo hi)))):vgk K (.ref p) lo hi H Q:=#[p,xs,J,h,k]
def jm{xs:Τ}(n:Nat):ydg xs none (some (n:Int))=xs.take n:=by
 unfold ydg;rw[HT.sIx_none,HT.sIx_nat,List.drop_zero,Nat.sub_zero];rcases Nat.le_total n xs.length with h|h
 .rw[Nat.min_eq_left h]
 .rw[Nat.min_eq_right h,cE (bx _),cE h]
def vh1{wi:TI}{g:TG}{tb:TS}(h:wi σ H λς H1=>∃W:Nat->Nat->St->Hp->Prop,(∃m,W 0 m σ H1)/\∀i m σ H,W i m σ H ->
  (ς.stop i H/\D.nx σ H)\/(ς.go i H/\∃N:Ζ,(∀σ' H',N σ' H'->∃m',m'<m/\W (i+1) m' σ' H')/\∀x H',ς.yld i H x H'->g x σ H' λσ2 H2=>tb {D with nx:=N,ct:=N,bk:=D.nx} σ2 H2)):vjj wi g tb D σ H:=h
def ytr{R:It->Hp->Prop}(h:ta σ H λx H1=>∃a,x=.ref a/\(∃xs,SqL K H1 a xs)/\R (Itl K a) H1):vef K ta σ H R:=h
def yzk{R:It->Hp->Prop}(h:ta σ H λx H1=>∃a,x=.ref a/\(∃xs,SqT K H1 a xs)/\R (Itt K a) H1):vjs K ta σ H R:=h
def yu3{R:It->Hp->Prop}(h:tr σ H λvs H1=>∃j:Int,vs=[.int j]/\-(2^62)<=j/\j<2^62/\R (Itr 0 j.toNat) H1):vcv tr σ H R:=h
def ŏ{n m:String}{k:Bool}{P:Bool->Prop}(ty:xf K H x (.type n))(e:W.kitOne K (.type n) (.type m)=some k)(h:P k):
  ∃x' cv t c k',[x,V.ty m]=[x',cv]/\ub cv c/\(∀u,ub cv u->u=c)/\xf K H x' t/\W.kitOne K t c=some k'/\P k':=#[x,.ty m,.type n,.type m,k,J,J,λZ r=>r,ty,e,h]
def yzz{k:Int}(hc:vik i j)(e:i^j.toNat=k)(h:Q (.int k) H):vf7 k (.int i) (.int j) H Q:=#[i,j,J,J,hc,e,h]
def yva(h:nx σ H):wu nx σ H:=h
end
end
mutual
noncomputable def yp8:V->Bool
 | .int _=>true
 | .bl _=>true
 |_=>false
noncomputable def yla:V->Bool
 | .bl _=>true
 |_=>false
noncomputable def Ù:V->Bool
 | .int _=>true
 |_=>false
def ywc{K:xy}{H:Hp}{x:V}{n:String}(ty:xf K H x (.type n)):W.kitOne K (.type n) (.type "int")=some (yp8 x):=by cases ty<;>rfl
def ypd{K:xy}{H:Hp}{x:V}{n:String}(ty:xf K H x (.type n)):W.kitOne K (.type n) (.type "bool")=some (yla x):=by cases ty<;>rfl
end
end L2
namespace SpanMath
mutual
def Ch(c:Int):Prop:=32768<=c/\c<=16744448
noncomputable def ren(l w s:Int):Int×Int×Int :=
 if w<4294967296 then (if w*256<4294967296 then (l*65536,w*65536,s+2)else (l*256,w*256,s+1))else (l,w,s)
noncomputable def cut(w c:Int):Int:=w*c/16777216
def nar(x:Int×Int×Int)(c b:Int):Int×Int×Int :=
 if b=1 then ren x.1 (cut x.2.1 c) x.2.2 else ren (x.1+cut x.2.1 c) (x.2.1-cut x.2.1 c) x.2.2
noncomputable def s0:Int×Int×Int:=(0,1099511627776,5)
def yng{l w s:Int}(h:w<4294967296)(h2:8388608<=w):ren (l*256) (w*256) (s+1)=ren l w s:=by
 unfold ren;rw[if_pos h];by_cases h3:w*256<4294967296
 .rw[if_pos h3,if_pos h3,if_neg ()];refine Prod.ext ?_ (Prod.ext ?_ ?_)
  .show l*256*256=l*65536;omega
  .show w*256*256=w*65536;omega
  .show s+1+1=s+2;omega
 .rw[if_neg h3,if_neg h3]
def yux{l w s:Int}(h:¬w<4294967296):ren l w s=(l,w,s):=by unfold ren;rw[if_neg h]
def ydd{w c:Int}(hw:4294967296<=w)(hw2:w<=1099511627776)(hc:Ch c):8388608<=cut w c/\8388608<=w-cut w c/\cut w c<1099511627776:=by let#[a,d]:=hc;have b:w*32768<=w*c:=cM a ();have e:w*c<=w*16744448:=cM d ();unfold cut;generalize w*c=p at b e⊢;omega
structure Ok(x:Int×Int×Int):Prop where
 l0:0<=x.1
 w0:4294967296<=x.2.1
 w1:x.2.1<=1099511627776
 z:5<=x.2.2
def ok0:Ok s0:=#[∅,∅,∅,∅]
def yst{l w s:Int}(h0:0<=l)(h1:8388608<=w)(h2:w<=1099511627776)(h3:5<=s):Ok (ren l w s):=by
 unfold ren
 split
 .split
  .exists by show 0<=l*65536;omega,by show _<=w*65536;omega,by show w*65536<=_;omega,by show 5<=s+2;omega
  .exists by show 0<=l*256;omega,by show _<=w*256;omega,by show w*256<=_;omega,by show 5<=s+1;omega
 .erw[h0,by show _<=w;omega,h2,h3]
def yyb{x:Int×Int×Int}{c b:Int}(h:Ok x)(hc:Ch c):Ok (nar x c b):=by
 let#[d,a,e]:=ydd h.w0 h.w1 hc;have:=h.l0;have:=h.w0;have:=h.w1;have:=h.z;unfold nar
 split
 .erw[yst () () () ()]
 .erw[yst () () () ()]
noncomputable def pw:Nat->Int
 |0=>1
 |k+1=>pw k*256
theorem jv:∀k,0<pw k
 |0=>by decide
 |k+1=>by have:=jv k;show 0<pw k*256;omega
theorem ygp(a:Nat):∀b,pw (a+b)=pw a*pw b
 |0=>by simp[pw]
 |b+1=>by
  show pw (a+b)*256=pw a*(pw b*256);rw[ygp a b,Int.mul_assoc]
def yln{a b:Nat}(h:a<=b):pw a<=pw b:=by
 let#[c,J]:=Nat.exists_eq_add_of_le h;rw[ygp];let d:=jv a;let e:=jv c
 calc pw a=pw a*1:=()
  _<=pw a*pw c:=cM () ()
def vdp{a b:Nat}(h:pw a<pw b):a<b:=by apply Nat.lt_of_not_le;intro q;have:=yln q;omega
noncomputable def lo:Nat->Int->qj Int
 |0,_=>[]
 |k+1,n=>n%256::lo k (n/256)
def wr(k:Nat)(n:Int):Ο:=(lo k n).reverse
theorem ysi:∀k n,(lo k n).length=k
 |0,_=>rfl
 |k+1,n=>by simp[lo,ysi k]
def yy9(k:Nat)(n:Int):(wr k n).length=k:=by simp[wr,ysi]
theorem ylx:∀k n,∀x∈lo k n,0<=x/\x<=255
 |0,_,x,h=>by simp[lo]at h
 |k+1,n,x,h=>by
  simp only[lo,bH]at h;rcases h with rfl|h
  .omega
  .erw[ylx k _ x h]
def ywi(k:Nat)(n:Int):∀x∈wr k n,0<=x/\x<=255:=λx h=>ylx k n x (by simpa[wr]using h)
def yvw(k:Nat)(n:Int):wr (k+1) n=wr k (n/256)++[n%256]:=by simp[wr,lo]
noncomputable def val(xs:Ο):Int:=xs.foldl (λa b=>a*256+b) 0
def yfs(xs:Ο)(b:Int):val (xs++[b])=val xs*256+b:=by simp[val,List.foldl_append]
theorem yrm:∀(k:Nat)(n:Int),0<=n->n<pw k->val (wr k n)=n
 |0,n,h0,h1=>by
  have:n<1:=h1;have:n=0:=()
  subst this;rfl
 |k+1,n,h0,h1=>by
  have a:n<pw k*256:=h1;rw[yvw,yfs,yrm k (n/256) () ()];omega
noncomputable def vkd:Nat->Int->Int->Nat
 |0,_,_=>0
 |n+1,a,b=>if a=b then 0 else vkd n (a/256) (b/256)+1
abbrev Sn:=Int×Int×Int
noncomputable def sz(x:Sn):Nat:=x.2.2.toNat
structure OkS(x:Sn):Prop where
 ok:Ok x
 top:x.1+x.2.1<=pw (sz x)
theorem OkS.sz{x:Sn}(h:OkS x):((sz x:Nat):Int)=x.2.2:=by have:=h.ok.z;unfold SpanMath.sz;omega
def OkS.sz5{x:Sn}(h:OkS x):5<=SpanMath.sz x:=by have:=h.ok.z;unfold SpanMath.sz;omega
def vii:OkS s0:=#[ok0,∅]
structure Sub(x y:Sn)(r:Nat):Prop where
 z:sz y=sz x+r
 l:x.1*pw r<=y.1
 h:y.1+y.2.1<=(x.1+x.2.1)*pw r
def ylb{l w s:Int}(hs:0<=s):∃r,Sub (l,w,s) (ren l w s) r/\(ren l w s).2.1=w*pw r/\(ren l w s).1=l*pw r:=by
 unfold ren
 split
 .split
  .refine#[2,#[?_,?_,?_],?_,?_]
   .show (s+2).toNat=s.toNat+2;omega
   .show l*(1*256*256)<=l*65536;omega
   .show l*65536+w*65536<=(l+w)*(1*256*256);omega
   .show w*65536=w*(1*256*256);omega
   .show l*65536=l*(1*256*256);omega
  .refine#[1,#[?_,?_,?_],?_,?_]
   .show (s+1).toNat=s.toNat+1;omega
   .show l*(1*256)<=l*256;omega
   .show l*256+w*256<=(l+w)*(1*256);omega
   .show w*256=w*(1*256);omega
   .show l*256=l*(1*256);omega
 .refine#[0,#[?_,?_,?_],?_,?_]
  .rfl
  .show l*1<=l;omega
  .show l+w<=(l+w)*1;omega
  .show w=w*1;omega
  .show l=l*1;omega
def yvz{x:Sn}{c b:Int}(h:Ok x)(hc:Ch c):∃r,Sub x (nar x c b) r:=by
 let#[f,g,j]:=ydd h.w0 h.w1 hc;let i:=h.l0;let k:=h.z;unfold nar
 split
 .let#[r,#[a,e,d],_]:=ylb (l:=x.1) (w:=cut x.2.1 c) (s:=x.2.2) ();erw[r,a,e,Int.le_trans d (cD ?_ (Int.le_of_lt (jv r)))];show x.1+cut x.2.1 c<=x.1+x.2.1;omega
 .let#[r,#[a,e,d],_]:=ylb (l:=x.1+cut x.2.1 c) (w:=x.2.1-cut x.2.1 c) (s:=x.2.2) ();exists r,a,Int.le_trans (cD ?_ (Int.le_of_lt (jv r))) e,Int.le_trans d (cD ?_ (Int.le_of_lt (jv r)))
  .show x.1<=x.1+cut x.2.1 c;omega
  .show x.1+cut x.2.1 c+(x.2.1-cut x.2.1 c)<=x.1+x.2.1;omega
def yek{x:Sn}{c b:Int}(h:OkS x)(hc:Ch c):OkS (nar x c b):=by exists yyb h.ok hc,?_;let#[r,q]:=yvz (b:=b) h.ok hc;rwa[q.z,ygp,Int.le_trans q.h (cD h.top (Int.le_of_lt (jv r)))]
noncomputable def blk(l e:Int):Int:=(l+e-1)/e
def yiw(l w:Int)(k:Nat):Prop:=(blk l (pw k)+1)*pw k<=l+w
instance (l w:Int)(k:Nat):Decidable (yiw l w k):=inferInstanceAs (Decidable ((blk l (pw k)+1)*pw k<=l+w))
def yr9(l:Int){e:Int}(h:0<e):l<=blk l e*e/\blk l e*e<l+e:=by unfold blk;let a:=Int.emod_add_mul_ediv (l+e-1) e;let b:=cK (l+e-1) (show e≠0 by omega);let c:=cA (l+e-1) h;rw[Int.mul_comm]at a;generalize (l+e-1)/e*e=q at a⊢;omega
def ylo{l w:Int}{k:Nat}(h:yiw l w k):pw k<=w:=by have a:=yr9 l (jv k);unfold yiw at h;rw[Int.add_mul]at h;omega
noncomputable def tel(l w:Int):Nat->Nat->Nat
 |0,k=>k
 |f+1,k=>if yiw l w (k+1)then tel l w f (k+1)else k
def ym9{l w:Int}{f k:Nat}(h:yiw l w (k+1)):tel l w f (k+1)=tel l w (f+1) k:=by rw[tel,if_pos h]
def yui{l w:Int}{f k:Nat}(h:¬yiw l w (k+1)):tel l w f k=k:=by
 cases f with
 |zero=>rfl
 |succ f=>rw[tel,if_neg h]
end
set_option tactic.hygienic true in
mutual
theorem ygc{l w:Int}:∀{f k:Nat},yiw l w k->yiw l w (tel l w f k)
 |0,_,h=>h
 |f+1,k,h=>by
  unfold tel
  split
  .rename_i q;erw[ygc q]
  .erw[h]
def pw5:pw 5=1099511627776:=∅
def yqh{l w:Int}{k:Nat}(hw:w<=1099511627776)(h:yiw l w k):k<=5:=by have a:=ylo h;rw[<- pw5]at hw;have b:pw k<pw 6:=Int.lt_of_le_of_lt (Int.le_trans a hw) ∅;have:=vdp b;omega
def tK(x:Sn):Nat:=tel x.1 x.2.1 5 0
def tCn(x:Sn):Int:=blk x.1 (pw (tK x))
def tL(x:Sn):Ο:=wr (sz x-tK x) (tCn x)
def vg7{x:Sn}(h:Ok x):yiw x.1 x.2.1 0:=by have:=h.w0;show ((x.1+1-1)/1+1)*1<=x.1+x.2.1;omega
def ybp{x:Sn}(h:Ok x):yiw x.1 x.2.1 (tK x):=ygc (vg7 h)
def ywu{x:Sn}(h:OkS x):tK x<=5/\tK x<=sz x:=by have a:=yqh h.ok.w1 (ybp h.ok);let b:=h.sz5;omega
def ymb(x:Sn):(tL x).length=sz x-tK x:=yy9 _ _
def yyi{x:Sn}(h:Ok x):0<=tCn x:=by have:=h.l0;have:=jv (tK x);erw[Int.ediv_nonneg () ()]
def yx1{x:Sn}(h:OkS x):tCn x<pw (sz x-tK x):=by have b:(tCn x+1)*pw (tK x)<=x.1+x.2.1:=ybp h.ok;let a:=h.top;have e:sz x-tK x+tK x=sz x:=Nat.sub_add_cancel (ywu h).2;rw[<- e,ygp]at a;let c:=Int.le_of_mul_le_mul_right (Int.le_trans b a) (jv (tK x));omega
def yyh{x:Sn}(h:OkS x):val (tL x)=tCn x:=yrm _ _ (yyi h.ok) (yx1 h)
end
end SpanMath
section
open PySem PySem.Spec PyProof.Rows
namespace L2
def yhd(ς:It)(te:TE)(D:qa)(R:Hp->Prop)(H1:Hp):Prop:=∃W:Nat->Nat->Hp->Prop,(∃m,W 0 m (upd H1 D (.lst [])))/\
 ∀i m H2,W i m H2->(ς.stop i H2/\R H2)\/(ς.go i H2/\∀x H3,ς.yld i H2 x H3->te [some x] H3 λy H4=>∃ys,H4 D\ys/\ys.length<sizeLine/\∃m',m'<m/\W (i+1) m' (upd H4 D (.lst (ys++[y]))))
section
mutual
variable{X:Cx}{iter elt:qh}{x:Str}{px pos:Pos}{scope:Scope}{te:TE}{wi:TI}{pins:Θ}{σ:St}
def vgl{α:Type}{t:Sem α}{Q Q':α->qb->Prop}{M:Model}{A:qf}{E:Δ}{s:qb}(h:wpAny M A t Q (λZ Z=>False) s)(hQ:∀a s,Q a s->Q' a s):wpAny M A t Q' E s:=cr h hQ λZ Z z=>z.elim
def cW(n:Nat)(Pv:Nat->Hp->Prop)(i m:Nat)(H:Hp):Prop:=m=n-i/\i<=n/\Pv i H
def j4{K:xy}{a D:qa}{xs:Τ}{R:Hp->Prop}{H1:Hp}(Pv:Nat->Hp->Prop)(h0:Pv 0 (upd H1 D (.lst [])))(hl:∀i H,i<=xs.length->Pv i H->SqL K H a xs)
  (hs:∀i x H,xs[i]?=some x->i<xs.length->Pv i H->te [some x] H λy H4=>∃ys,H4 D\ys/\ys.length<sizeLine/\∃m',m'<xs.length-i/\cW xs.length Pv (i+1) m' (upd H4 D (.lst (ys++[y]))))
  (hd:∀H,Pv xs.length H->R H):yhd (Itl K a) te D R H1:=by
 erw[cW xs.length Pv,#[xs.length,'s',bR _,h0],?_];rintro i m H ⟨rfl,b,p⟩;let q:=hl i H b p;by_cases hlt:i<xs.length
 .erw[.inr #[#[xs,xs[i],q,by simp[hlt]],λx c y=>?_]];let#[e,y]:=y;subst e;erw[hs i x _ (y xs q) hlt p]
 .have e:i=xs.length:=()
  subst e;erw[.inl #[#[xs,q,bx _],hd H p]]
def xu{n i:Nat}{Pv:Nat->Hp->Prop}{D:qa}{ys:Τ}{y:V}{H4:Hp}(hD:H4 D\ys)(hl:ys.length<sizeLine)(hi:i<n)(p:Pv (i+1) (upd H4 D (.lst (ys++[y])))):
  ∃ys,H4 D\ys/\ys.length<sizeLine/\∃m',m'<n-i/\cW n Pv (i+1) m' (upd H4 D (.lst (ys++[y]))):=#[ys,hD,hl,n-(i+1),(),J,hi,p]
end
end
end L2
namespace L2
open PySem
noncomputable def ybh:qh->Bool
 | .Starred _ _=>false
 |_=>true
def xx{e:qh}{es:qj qh}{env:Env}(h:ybh e=true):starEach (e::es) env=(false,eval e env)::starEach es env:=by cases e<;>first|rfl|cases h
end L2
namespace L2
mutual
variable{C D a x:qa}{vs:Array qc}{h':qg}{pins:Θ}{M:Model}{oe:Obj}{d:ql qa}{P:qi}{scope:Scope}{st:qd}{qual:Str}{a0 cd u:qc}{E Q:Δ}
structure XCls(K:xy)(C:qa):Prop where
 hd:W.hasDictIn K C=true
 ga:W.findIn K (.ref C) "__getattribute__"=some (some (.builtin "BaseException.__getattribute__"))
 gt:W.findIn K (.ref C) "__getattr__"=some none
 ca:W.findIn K (.ref C) "__class__"=some (some (.builtin "object.__class__"))
 gg:W.specialIn K (.builtin "object.__class__") "__get__"=some (some (.builtin "getset_descriptor.__get__"))
 tk:W.takesIn K (.builtin "object.__class__")=some true
 mo:W.mroIn K C (.type "object")=some true
 mb:W.mroIn K C (.type "BaseException")=some true
def XCls.cl{K:xy}(c:XCls K C):(W.clsIn K C).isSome=true:=by let#[a,h,_]:=W.any_some c.hd;rw[h];rfl
def exm_mk{K:xy}(h0:W.subIn K (.ref D) (.type "BaseException")=some true)(h1:W.hasDictIn K D=true)(h2:W.typeIn K (.ref D)=some (.type "type"))
  (h3:W.subIn K (.ref C) (.ref D)=some true):W.exmOne K (.ref C) (.ref D)=some true:=by let#[a,h,_]:=W.any_some h1;unfold W.exmOne W.kitCls;rw[h0];dsimp only;rw[h,h2,h3];rfl
def Ĝ(x C:qa)(h:qg):Prop:=∃ox,h.get? x=some ox/\ox.cls=.ref C
end
section
mutual
variable{prog:qi}{w:qe}{A:qf}{s:qb}{K:xy}
def Ĝ.type{h:qg}(I:Ĝ x C h):W.Looks M h (typeOf (.ref x)) (.ref C):=by let#[c,b,a]:=I;erw[a ▸ (W.Looks.ld b).andThen .now]
def XCls.finds(c:XCls K C){h:qg}(X:K.In h):W.Looks M h (Builtin.ObjectAttr.find (.ref x) (.ref C) "__class__") (.bind (.builtin "getset_descriptor.__get__") (.builtin "object.__class__")):=by have d:=W.looks_findIn (M:=M) X c.ca;have a:W.Looks M h (Builtin.ObjectAttr.getOf (some (.builtin "object.__class__"))) (some (.builtin "getset_descriptor.__get__")):=W.looks_specialIn X c.gg;have b:W.Looks M h (Builtin.ObjectAttr.dataDescriptor? (some (.builtin "object.__class__")) (some (.builtin "getset_descriptor.__get__"))) (some (.builtin "getset_descriptor.__get__",.builtin "object.__class__")):=(W.looks_takesIn X c.tk).andThen .now;erw[d.andThen (a.andThen (b.andThen (W.Looks.tag .now)))]
def yul{R:Result->qb->Prop}{tp:qc}(c:XCls K C)(X:K.In s.heap)(I:Ĝ x C s.heap)(h:R (.ok (.ret (.ref C))) s):
  codeAny (model prog w) A (.call (.builtin "getset_descriptor.__get__") #[[.builtin "object.__class__",.ref x,tp],[]]) R s:=by
 let#[d,g,e,t,a]:=s;let b:=I.type (M:=model prog w);let f:=W.looks_mroIn (M:=model prog w) X c.mo;erw[codeAny_call_builtin W.KF.slot_gs.plain W.KF.entry_gs (W.KF.slot_gs.check _ _ _ _ _ _ _ _ W.KF.type_class (W.KF.args_gs _ _ _) ?_)];unfold Builtin.«getset_descriptor.__get__» Builtin.Getset_descriptor.descrGet;rwa[W.dga_obj,bj (bv ?_)];unfold Builtin.Getset_descriptor.descrGetter Builtin.Getset_descriptor.descrCheckInstance Builtin.Getset_descriptor.descrNameAndClass isInstance;simp only[W.KF.owner_class]
 repeat lk
 erw[Code.quiet_builtin _ (by decide+kernel),codeAny_builtin W.KF.entry_class ?_];unfold Builtin.«object.__class__» shownTypeOf
 repeat lk
 erw[h]
def ykk(c:XCls K C){Q:ql qc->qb->Prop}(X:K.In s.heap)(I:Ĝ x C s.heap)(h:Q (some (.ref C)) {s with toks:=s.toks+1}):
  wpAny (model prog w) A (getAttr? (.ref x) "__class__") Q E s:=by
 let#[e,g,d,t,m]:=s;let b:=I.type (M:=model prog w);let p:=W.looks_findIn (M:=model prog w) X c.ga;let n:=W.looks_findIn (M:=model prog w) X c.gt;have i:W.Looks (model prog w) e (isInstance (.ref x) (.type "BaseException")) true:=b.andThen (W.looks_mroIn X c.mb);let j:=c.finds (x:=x) (M:=model prog w) X;unfold getAttr? getAttrBy? getAttrBy;erw[bj (wpAny_mkText (bj (wpAny_attempt (wpAny_holding (bj (b.at (bj (p.at ?_))))))))]
 have f:(onTheHeap (Value.ref C) && Value.builtin "BaseException.__getattribute__" == Value.builtin "object.__getattribute__")=false:=by
  have z:(Value.builtin "BaseException.__getattribute__" == Value.builtin "object.__getattribute__")=false:=by decide+kernel
  rw[z];rfl
 dsimp only;rw[f];unfold getAttrByItsOwn hookBefore;rwa[if_neg bK,bj ?_];rwa[if_pos (show onTheHeap (.ref C)=true from rfl),n.at ?_];erw[bj (wpAny_attempt (wpAny_holding ?_))];unfold callGetattribute;rw[if_neg 's'];unfold boundAndCalled;rwa[F.attr_ValueError.ga.bind (.ref x),bj (bv ?_)];erw[wpAny_call (codeAny_call_builtin F.attr_ValueError.ga.plain F.entry_bexc_ga ?_)];have k:builtinKind "BaseException.__getattribute__"=some .slot:=by decide+kernel
 have a:splitId "BaseException.__getattribute__"=some ("BaseException","__getattribute__"):=by decide+kernel
 let o:=F.args_bexc_ga (.ref x) (.str "__class__" t);simp only[checkBuiltinCall,k,a,List.cons_append,List.nil_append];erw[bj (i.at ?_)];rwa[if_neg 's',wpAny_of_eq o ?_];unfold Builtin.«object.__getattribute__»;have l:slotArgs "__getattribute__" 1 #[[Value.ref x,Value.str "__class__" t],[]]=pure (Value.ref x,[Value.str "__class__" t]):=by kernel_rfl
 have q:Builtin.ObjectAttr.attrName (Value.str "__class__" t)=pure "__class__":=by kernel_rfl
 erw[bj (wpAny_of_eq l ?_)];dsimp only;erw[bj (wpAny_of_eq q ?_),<-bj (b.at ?_),<-bj (j.at ?_)];dsimp only;show wpAny _ _ (holding [_] (call _ [_,_,_]) >>=ret) _ _ _;erw[bj (wpAny_holding (wpAny_call (yul (s:=#[e,g,d,t+1,m]) c X I ?_))),<-bv ?_,<-W.handed_on J (bv h)]
end
set_option tactic.hygienic true in
def ylq(c:XCls K C):W.KitX K (.ref x) (.ref C) (Ĝ x C) where
 ty:=λZ Z Z I=>I.type
 it:=λM h X Z=>by
  let#[d,a]:=Option.isSome_iff_exists.mp c.cl;unfold W.clsIn at a
  split at a
  .rename_i there
   intro m g j i k q;unfold isType loadHead;erw[bj (wpAny_loadPart (k _ _ (X _ _ there)) (bv q))]
  .cases a
 ne:=λh f o e n l X b=>by
  let#[d,a]:=Option.isSome_iff_exists.mp c.cl;erw[Bool.eq_false_iff.mpr λq=>?_];obtain rfl:C=f:=Value.ref.inj (beq_iff_eq.mp q);unfold W.clsIn at a
  split at a
  .rename_i there
   cases (X _ _ there).symm.trans b
  .cases a
 ca:=λX I k=>ykk c X I k
end
section
mutual
variable{X:Cx}
def yls{σ:St}{H:Hp}{s:qb}(I:'i' s)(e:H x=some (.ext (Ĝ x C))):Ĝ x C s.heap:=(show xn X.prog X.w H s.heap x (.ext (Ĝ x C))from I.hok x _ e).1
def yw3(K:xy):qj V->Hp->VK->Prop:=λxs H Q=>∃x cv C c k,xs=[.ref x,cv]/\ub cv c/\(∀u,ub cv u->u=c)/\H x=some (.ext (Ĝ x C))/\XCls K C/\W.kitOne K (.ref C) c=some k/\Q (.bl k) H
def yaw:θ X (.builtin "isinstance") (yw3 X.K):=by
 intro a s σ H n m Q I r h;let#[x,o,C,c,k,J,_,j,b,d,e,q]:=h;let#[u,l,J,g,i]:=ym0 r;obtain rfl:=j l i;obtain rfl:u=Value.ref x:=g
 erw[W.kia_one (ylq d) I.kIn (yls I b) e (λz=>nomatch z) λf=>#[.bl k,H,I.tok f,J,q]]
theorem é:∀{Cs:Φ}{us:Ξ},xc (Cs.map V.ref) us->us=Cs.map Value.ref
 |[],_,.nil=>rfl
 |C::r,_,.cons a t=>by rw[show _=Value.ref C from a,é t];rfl
def yim(K:xy):qj V->Hp->VK->Prop:=λxs H Q=>∃x tp C Cs k,xs=[.ref x,.ref tp]/\H tp∪(List.map V.ref Cs)/\H x=some (.ext (Ĝ x C))/\XCls K C/\W.kitAny K (.ref C) (Cs.map Value.ref)=some k/\Q (.bl k) H
def è:θ X (.builtin "isinstance") (yim X.K):=by
 intro d s σ H G ς Q I r h;let#[x,a,C,B,k,J,v,g,A,e,q]:=h;let#[u,t,J,y,D]:=ym0 r;obtain rfl:u=Value.ref x:=y;obtain rfl:t=Value.ref a:=D;let#[_,m,j,p]:=(show xn X.prog X.w H s.heap a (.tup (B.map V.ref))from I.hok a _ v);let#[o,c,b,n,f]:=p;let#[F,L,l,E]:=o;dsimp only at b f;subst b f;rw[é j]at c
 erw[W.kia_tup (ylq A) I.kIn (yls I g) c e (λz=>nomatch z) λi=>#[.bl k,H,I.tok i,J,q]]
end
end
def TrA(base h:qg)(e:qa)(cls a0 cx:qc):Prop:=∃fl,h.TracedAtW base e cls a0 fl/\∃oe vs,h.get? e=some oe/\oe.data=.fields vs/\vs[2]?=some cx
section
mutual
variable{A:qf}{s:qb}{base:qg}{env:Env}{outer:qj Env}{L e:qa}{cls cx:qc}{Q:Unit->qb->Prop}
def yqb{head:qc}{hadNext:Bool}(hfr:A.frames=some (env::outer))(hl:s.heap.FunFrames base (env::outer))(hf:env.frame=some L)(he:s.heap.get? e=some oe)(hkb:base.StaysIn s.heap)(hen:base.get? e=none)
  (hd:oe.data=.fields vs) (hsz:1<vs.size) (h0:vs[0]?=some a0) (h2:vs[2]?=some cx)
  (h:∀h',base.StaysIn h'->h'.FunFrames base (env::outer)->TrA base h' e oe.cls a0 cx->(∀b o,s.heap.get? b=some o->(∀vs,o.data≠.fields vs)->∃sl,h'.get? b=some {o with slots:=sl})->Q ⟨⟩ {s with heap:=h'}):
  wpAny M A (do let a <- frameOf env;let pl <- entryPlaceOf L hadNext;let b <- EntryCells.newEntry head a .none (rawInt L) .none pl;setField (.ref e) 1 b) Q E s:=by
 have m:e∉(env::outer).filterMap (·.frame):=λt=>by
  let#[_,o,w,c]:=hl.mem t;rw[he]at w;cases w;erw[c vs hd]
 erw[bj (wpAny_frameOf_fun hfr hl hf λg1 k=>?_),<-bj (wpAny_entryPlaceOf λpl B=>?_)];unfold EntryCells.newEntry newFields;erw[bj (wpAny_newObj_type ?_ (B.sizeOk5 _ _ _ _ _))];have g:g1.get? e=some oe:=(k.2.1 e m).trans he;have y:base.StaysIn g1:=λb o q=>(k.2.1 b λt=>by rw[(hl.mem t).1]at q;cases q).trans (hkb b o q);erw[wpAny_setField (br _ g) hd hsz ?_];let f:=Obj.data_mapFields hd (·.setIfInBounds 1 (Value.ref g1.objs.size));have v:g1.objs.size≠e:=Nat.ne_of_gt (bE g)
 have p:∀O:Obj,O.cls=.type "traceback"->(∃j,O.data=.fields j/\j[3]?=some (rawInt L))->Q ⟨⟩ {s with heap:=(g1.push O).update e (Obj.mapFields (·.setIfInBounds 1 (Value.ref g1.objs.size)))}:=by
  rintro O C ⟨j,x,l⟩;let i:=Heap.get?_update_self (Obj.mapFields (·.setIfInBounds 1 (Value.ref g1.objs.size))) (br O g) (Obj.isFreed_of_fields f);have u:∀b o,b≠e->g1.get? b=some o->((g1.push O).update e (Obj.mapFields (·.setIfInBounds 1 (Value.ref g1.objs.size)))).get? b=some o:=λb o n q=>(Heap.get?_update_other _ _ (Ne.symm n)).trans (br O q);have r:∀{b o},s.heap.get? b=some o->(∀vs,o.data≠.fields vs)->b≠e:=λ{b o}q c z=>by rw[z,he]at q;cases q;erw[c vs hd]
  have d:∀{b o},s.heap.get? b=some o->(∀vs,o.data≠.fields vs)->∃sl,((g1.push O).update e (Obj.mapFields (·.setIfInBounds 1 (Value.ref g1.objs.size)))).get? b=some {o with slots:=sl}:=λ{b o}q c=>by
   let#[sl,z]:=k.2.2 b o q;erw[sl,u b _ (r q c) z]
  erw[h _ (λb o q=>u b o (λz=>by rw[z,hen]at q;cases q) (y b o q)) (hl.of_keeps λb o q c=>?_) #[_,#[_,_,g1.objs.size,O,j,i,#[Obj.cls_mapFields _ _,?_],f,by simp[hsz],y.fresh,v,(Heap.get?_update_other _ _ (Ne.symm v)).trans (bC g1 ?_),x,l],_,_,i,f,?_] λb o q c=>d q c]
  .let#[sl,z]:=d q c;exists _,z,rfl
  .rw[Array.getElem?_setIfInBounds_ne ∅];erw[h0]
  .erw[Obj.isFreed_of_fields x]
  .rw[Array.getElem?_setIfInBounds_ne ∅];erw[h2]
 erw[p _ J #[_,J,'s']]
def vh6(hfr:A.frames=some (env::outer))(hl:s.heap.FunFrames base (env::outer))(hf:env.frame=some L)(he:s.heap.get? e=some oe)(hkb:base.StaysIn s.heap)(hen:base.get? e=none)
  (hd:oe.data=.fields vs) (h1:vs[1]?=some .none) (h0:vs[0]?=some a0) (h2:vs[2]?=some cx)
  (h:∀h',base.StaysIn h'->h'.FunFrames base (env::outer)->TrA base h' e oe.cls a0 cx->(∀b o,s.heap.get? b=some o->(∀vs,o.data≠.fields vs)->∃sl,h'.get? b=some {o with slots:=sl})->Q ⟨⟩ {s with heap:=h'}):
  wpAny M A (noteFrame (.ref e) env) Q E s:=by unfold noteFrame;simp only[hf];erw[bj (ce he hd h1 ?_)];rwa[if_neg ∅,yqb hfr hl hf he hkb hen hd (Array.getElem?_eq_some_iff.mp h1).1 h0 h2 h]
def vho(hfr:A.frames=some (env::outer))(hl:s.heap.FunFrames base (env::outer))(hf:env.frame=some L)(ht:TrA base s.heap e cls a0 cx)(hkb:base.StaysIn s.heap)(hen:base.get? e=none)
  (h:∀h',base.StaysIn h'->h'.FunFrames base (env::outer)->TrA base h' e cls a0 cx->(∀b o,s.heap.get? b=some o->(∀vs,o.data≠.fields vs)->∃sl,h'.get? b=some {o with slots:=sl})->Q ⟨⟩ {s with heap:=h'}):
  wpAny M A (noteFrame (.ref e) env) Q E s:=by
 let#[D,#[C,vs,T,I,G,m,#[J,w],f,r,x,B,j,a,t],i,l,k,p,v]:=id ht;obtain rfl:C=i:=bL (m.symm.trans k);obtain rfl:vs=l:=Data.fields.inj (f.symm.trans p);unfold noteFrame;simp only[hf];erw[bj (ce m f r ?_)];rwa[if_pos 's',bj (ce j a t ?_)];by_cases z:(D == rawInt L)=true
 .rw[if_pos z];erw[bv (h s.heap hkb hl ht λb o q Z=>#[o.slots,q])]
 rwa[if_neg z,bj (wpAny_setField j a (Array.getElem?_eq_some_iff.mp t).1 ?_)];have d:∀b,b≠T->(s.heap.update T (Obj.mapFields (·.setIfInBounds 3 Value.none))).get? b=s.heap.get? b:=λb n=>Heap.get?_update_other _ _ (Ne.symm n);generalize s.heap.update T (Obj.mapFields (·.setIfInBounds 3 Value.none))=g at d⊢;have nT:∀{b o},s.heap.get? b=some o->(∀vs,o.data≠.fields vs)->g.get? b=some o:=λ{b o}q c=>(d b λz=>by rw[z,j]at q;cases q;erw[c G a]).trans q;exact yqb (s:={s with heap:=g}) hfr (hl.of_keeps λb o q c=>#[o,nT q c,J]) hf ((d e B.symm).trans m) (λb o q=>(d b λz=>by rw[z,x]at q;cases q).trans (hkb b o q)) hen f (Array.getElem?_eq_some_iff.mp r).1 w v
  λh' u F y H=>h h' u F y λb o q c=>H b o (nT q c) c
def ytx{fm:ql qa}(hkb:base.StaysIn s.heap)(hl:s.heap.FunFrames base outer)(ht:TrA base s.heap e cls a0 cx)
  (h:∀h',base.StaysIn h'->h'.FunFrames base outer->TrA base h' e cls a0 cx->(∀b o,s.heap.get? b=some o->(∀vs,o.data≠.fields vs)->h'.get? b=some o)->Q ⟨⟩ {s with heap:=h'}):
  wpAny M A (setFlight (.ref e) fm) Q E s:=by
 let#[_,#[B,vs,T,F,w,x,D,r,u,t,j,k,a,C],i,m,l,p,y]:=ht;have v:3<w.size:=(Array.getElem?_eq_some_iff.mp C).1;unfold setFlight;erw[bj (ce x r u ?_)];rwa[if_pos 's',wpAny_setField k a v ?_];have d:∀b,b≠T->(s.heap.update T (Obj.mapFields (·.setIfInBounds 3 (fm.elim Value.none λf=>rawInt f)))).get? b=s.heap.get? b:=λb n=>Heap.get?_update_other _ _ (Ne.symm n);have nT:∀{b o},s.heap.get? b=some o->(∀vs,o.data≠.fields vs)->b≠T:=λ{b o}q g z=>by rw[z,k]at q;cases q;erw[g w a]
 let c:=Obj.data_mapFields a (·.setIfInBounds 3 (fm.elim Value.none λf=>rawInt f));erw[h _ (λb o q=>(d b λz=>by rw[z,t]at q;cases q).trans (hkb b o q)) (hl.of_keeps λb o q g=>#[o,(d b (nT q g)).trans q,J]) #[_,#[B,vs,T,_,_,(d e j.symm).trans x,D,r,u,t,j,Heap.get?_update_self _ k (Obj.isFreed_of_fields c),c,by simp[v];rfl],i,m,(d e j.symm).trans l,p,y] λb o q g=>(d b (nT q g)).trans q]
end
end
mutual
def xn.there{w:qe}{H:Hp}{h:qg}{o:HO}(x:xn P w H h a o):∃ob,h.get? a=some ob:=by
 cases o with
 |lst xs=>let⟨_,_,_,_,e⟩:=x;erw[_,e]
 |tup xs=>let⟨_,_,_,ob,e,_⟩:=x;erw[_,e]
 |dK kvs=>let⟨_,_,_,_,ob,_,_,e,_⟩:=x;erw[_,e]
 |dT kvs=>let⟨_,_,_,_,ob,_,_,e,_⟩:=x;erw[_,e]
 |set S n=>let⟨ob,_,_,_,e,_⟩:=x;erw[_,e]
 |ins C dx fs=>let⟨_,_,_,e,_⟩:=x;erw[_,e]
 |own y=>erw[x]
 |xd fs=>let⟨_,⟨_,_,_,e,_⟩,_⟩:=x;erw[_,e]
 |rng lo hi=>let⟨_,_,_,e⟩:=x;erw[_,e]
 |frz ob u=>let⟨e,_⟩:=x;erw[_,e]
 |tbl ps=>erw[_,(show h.get? a=some _ from x)]
 |met f y=>erw[_,(show h.get? a=some _ from x)]
 |ext φ=>let⟨_,e,_⟩:=x;erw[e]
def HOk.none_of{w:qe}{H:Hp}{h:qg}(x:HOk P w H h)(e:h.get? a=none):H a=none:=by
 cases q:H a with
 |none=>rfl
 |some u =>
  let#[b,z]:=(x a u q).there;rw[e]at z;cases z
def Fy(X:Cx)(pins:Θ)(H:Hp)(b:qa):Prop :=
 H b=none/\b≠X.env.locals/\b∉X.fs/\(b∈X.ex\/X.s₀.heap.get? b=none)/\(∀y c,X.env.cells.lookup y=some c->c≠b)/\∀p∈X.pn++pins,p.1≠b
end
section
mutual
variable{X:Cx}{σ:St}{H H':Hp}{s:qb}{b T:qa}
def ų(I:'i' s)(hb:s.heap.get? b=none)(hn:H' b=none):Fy X pins H' b:=by
 erw[hn,?_,?_,?_,?_,?_]
 .rintro rfl;let#[_,#[_,_,_,e,_],_]:=I.loc;rw[hb]at e;cases e
 .intro z;let#[_,o,e,_]:=I.funs.mem z;rw[hb]at e;cases e
 .by_cases hx:b∈X.ex
  .erw[.inl hx]
  .refine .inr ?_
   cases q:X.s₀.heap.get? b with
   |none=>rfl
   |some o =>
    let#[_,e]:=I.base.there b o q hx;rw[hb]at e;cases e
 .rintro y c e rfl;let#[_,_,q,_]:=I.cell y c e;rw[hb]at q;cases q
 .intro p a z;let q:=(I.pin p a).1;rw[z,hb]at q;cases q
def Inv.fly(I:'i' s)(hx:Fy X pins H x)(hT:Fy X pins H T)
  (keep:∀b o,b≠x->b≠T->b∉frs X.stack->s.heap.get? b=some o->h'.get? b=some o)
  (slot:∀b o,b∈frs X.stack->s.heap.get? b=some o->∃sl,h'.get? b=some {o with slots:=sl}):'i' {s with heap:=h'}:=by
 have a:∀{y b o},Fy X pins H y->X.s₀.heap.get? b=some o->b∉X.ex->b≠y:=λ{y b o}P e f z=>by
  subst z;rcases P.2.2.2.1 with q|q
  .erw[f q]
  .rw[e]at q;cases q
 have h:∀b o,b≠x->b≠T->s.heap.get? b=some o->∃sl,h'.get? b=some {o with slots:=sl}:=λb o N K e=>by
  by_cases z:b∈frs X.stack
  .erw[slot b o z e]
  .erw[o.slots,keep b o N K z e]
 have g:∀y c,X.env.cells.lookup y=some c->∀v,s.heap.IsCell c v->h'.IsCell c v:=λy c e v ⟨o,C,ς⟩=>by
  let#[sl,q]:=h c o (hx.2.2.2.2.1 y c e) (hT.2.2.2.2.1 y c e) C;exists _,q,ς
 erw[I.ok,I.os,I.bare,#[λb o e n A f=>?_,λb o e n A f=>?_,I.base.free,λb o e f=>?_,I.base.tups,I.base.frzs,I.base.tbls],?_,λy c e=>?_,I.free,I.freeC,λp B=>?_,λb u e=>?_,I.len]
 .erw[keep b o (a hx e f) (a hT e f) (λz=>?_) (I.base.keep b o e n A f)];rcases bH.mp (I.stkSub b z)with q|q
  .erw[absurd q (bY (bZ (bE e) I.ok.above))]
  .erw[A q]
 .let#[sl,t]:=I.base.slot b o e n A f;let#[w,j]:=h b _ (a hx e f) (a hT e f) t;erw[w,j]
 .let#[Y,t]:=I.base.there b o e f;let#[w,j]:=h b _ (a hx e f) (a hT e f) t;erw[_,j]
 .let#[m,S,O]:=I.loc;exists m,?_,λi y v t j W=>?_
  .let#[o,Q,U,C,r]:=S;let#[sl,q]:=h _ o (Ne.symm hx.2.1) (Ne.symm hT.2.1) C;erw[_,Q,U,q,r]
  .let#[u,r,l]:=O i y v t j W;erw[u,r,?_];rcases l with l|⟨k,c,e,z⟩
   .erw[.inl l]
   .erw[.inr #[k,c,e,g y c e _ z]]
 .let#[v,z]:=I.cell y c e;erw[v,g y c e v z]
 .let#[e,n,E,G,d]:=I.pin p B;erw[keep p.1 p.2 (hx.2.2.2.2.2 p B) (hT.2.2.2.2.2 p B) (λz=>?_) e,n,E,G,d];rcases bH.mp (I.stkSub _ z)with q|q
  .erw[E q]
  .erw[G q]
 .have F:∀c v,H c=some v->c≠x/\c≠T/\c∉frs X.stack:=λc v q =>
   #[λz=>(by rw[z,hx.1]at q;cases q),λz=>(by rw[z,hT.1]at q;cases q),λz=>(by rw[I.stkFree c z]at q;cases q)]
  erw[(I.hok b u e).stay (λc v D q=>?_) (λZ q=>q) λZ Z q=>q]
  obtain⟨M,L,R⟩:c≠x/\c≠T/\c∉frs X.stack:=by
   rcases D with rfl|D
   .erw[F _ _ e]
   .erw[F _ _ D]
  erw[keep c v M L R q]
def Trd(h:qg)(x T:qa)(C:qc)(d:ql qa):Prop :=
 ∃oe vs oT ts a0,h.get? x=some oe/\(oe.cls=C/\vs[0]?=some a0/\vs[2]?=some (d.elim Value.none Value.ref))/\oe.data=.fields vs/\vs[1]?=some (.ref T)/\T≠x/\h.get? T=some oT/\oT.data=.fields ts/\∃fl,ts[3]?=some fl
def hid(s:qb)(X:Cx)(x T:qa):qg:=W.hideAll s.heap (x::T::frs X.stack)
def yl4:(hid s X x T).StaysIn s.heap:=λZ Z e=>W.of_hideAll _ e
def vey:(hid s X x T).get? x=none:=W.hideAll_none _ (.head _)
def vh0:(hid s X x T).get? T=none:=W.hideAll_none _ (.tail _ (.head _))
def ymm(I:'i' s):s.heap.FunFrames (hid s X x T) X.stack :=
 W.funFrames_hide I.stack λb c a d=>.tail _ (.tail _ (List.mem_filterMap.mpr #[b,c,d]))
def yr8{C:qc}(t:Trd s.heap x T C d):∃a0,TrA (hid s X x T) s.heap x C a0 (d.elim Value.none Value.ref):=by let#[e,b,l,i,a0,c,a,f,j,m,g,k,n,h]:=t;erw[a0,n,#[e,b,T,l,i,c,#[a.1,a.2.1],f,j,vh0,m,g,k,h],e,b,c,f,a.2.2]
def ļ{C:qc}(I:'i' s)(hx:Fy X pins H x)(hT:Fy X pins H T)(k1:(hid s X x T).StaysIn h')(k2:h'.FunFrames (hid s X x T) X.stack)(k3:TrA (hid s X x T) h' x C a0 (d.elim Value.none Value.ref))
  (k4:∀b o,s.heap.get? b=some o->(∀vs,o.data≠.fields vs)->∃sl,h'.get? b=some {o with slots:=sl}):
  Inv X pins σ H {s with heap:=h'}/\∃T',Fy X pins H T'/\Trd h' x T' C d:=by
 erw[I.fly hx hT (λb o G ς w e=>k1 b o (W.hideAll_get _ e λz=>?_)) λb o v e=>?_,?_]
 .rcases bH.mp z with z|z
  .erw[G z]
  .rcases bH.mp z with z|z
   .erw[ς z]
   .erw[w z]
 .let#[_,D,a,i]:=I.stack.mem v;rw[e]at a;cases a;erw[k4 b o e i]
 .let#[B,#[n,vs,T',u,F,k,j,r,y,A,t,l,p,E],c,h,f,g,K]:=k3;obtain rfl:n=c:=bL (k.symm.trans f);obtain rfl:vs=h:=Data.fields.inj (r.symm.trans g);erw[T',?_,n,vs,u,F,a0,k,#[j.1,j.2,K],r,y,t,l,p,B,E];by_cases q:T'=T
  .rw[q];erw[hT]
  .cases e:s.heap.get? T' with
   |none=>erw[ų I e (I.hok.none_of e)]
   |some o =>
    have z:T'∈frs X.stack:=Classical.byContradiction λz=>by
     have:=W.hideAll_get (x::T::frs X.stack) e (λm=>by
      rcases bH.mp m with m|m
      .erw[t m]
      .rcases bH.mp m with m|m
       .erw[q m]
       .erw[z m])
     rw[show (W.hideAll s.heap (x::T::frs X.stack)).get? T'=none from A]at this;cases this
    let#[_,D,a,i]:=k2.mem z;rw[l]at a;cases a;erw[absurd p (i _)]
end
section
mutual
variable{A:qf}{Q:Unit->qb->Prop}{env:Env}{outer:qj Env}{L:qa}{C:qc}
def zj{fm:ql qa}(I:'i' s)(hx:Fy X pins H x)(hT:Fy X pins H T)(tr:Trd s.heap x T C d)(k:∀s' T','i' s'->Fy X pins H T'->Trd s'.heap x T' C d->Q ⟨⟩ s'):wpAny M A (setFlight (.ref x) fm) Q E s:=by let#[m,i]:=yr8 (X:=X) tr;erw[ytx (base:=hid s X x T) yl4 (ymm I) i λn c f g j=>?_];let#[ς,T',a,h]:=ļ I hx hT c f g λb o e l=>#[o.slots,j b o e l];erw[k _ T' ς a h]
def yeq(fr:A.frames=some X.stack)(hst:X.stack=env::outer)(hf:env.frame=some L)(I:'i' s)(hx:Fy X pins H x)(hT:Fy X pins H T)(tr:Trd s.heap x T C d)(k:∀s' T','i' s'->Fy X pins H T'->Trd s'.heap x T' C d->Q ⟨⟩ s'):wpAny M A (noteFrame (.ref x) env) Q E s:=by let#[j,h]:=yr8 (X:=X) tr;let c:=ymm (x:=x) (T:=T) I;rw[hst]at fr c;erw[vho (base:=hid s X x T) fr c hf h yl4 vey λl e b f i=>?_];rw[<- hst]at b;let#[ς,T',a,g]:=ļ I hx hT e b f i;erw[k _ T' ς a g]
def ygb(fr:A.frames=some X.stack)(hst:X.stack=env::outer)(hf:env.frame=some L)(I:'i' s)(hx:Fy X pins H x)(he:s.heap.get? x=some oe)(hd:oe.data=.fields vs)(h1:vs[1]?=some .none)(h0:vs[0]?=some a0)(h2:vs[2]?=some (d.elim Value.none Value.ref))
  (k:∀s' T','i' s'->Fy X pins H T'->Trd s'.heap x T' oe.cls d->Q ⟨⟩ s'):wpAny M A (noteFrame (.ref x) env) Q E s:=by have c:=ymm (x:=x) (T:=x) I;rw[hst]at fr c;erw[vh6 (base:=hid s X x x) fr c hf he yl4 vey hd h1 h0 h2 λi e b f h=>?_];rw[<- hst]at b;let#[ς,T',a,g]:=ļ I hx hx e b f h;erw[k _ T' ς a g]
end
end
end
mutual
def CXe(P:qi)(w:qe):CXT:=λouter H s E e s'=>∃x T C d H',e=.ref x/\s'.os=s.os/\AllBare s'.gens/\Un (frs outer) [] H H' s.heap s'.heap/\HOk P w H' s'.heap/\
 (H' x=none/\s.heap.get? x=none)/\(H' T=none/\s.heap.get? T=none)/\Trd s'.heap x T C d/\E C d H'
def Č(X:Cx)(Ex:St->XK):Prop:=∀(pins:Θ)(σ:St)(H:Hp)(s':qb)(x T:qa)(C:qc)(d:ql qa),'i' s'->Fy X pins H x->Fy X pins H T->Trd s'.heap x T C d->Ex σ C d H->X.xe (.ref x) s'
def vd{w:qe}{K:xy}{mg:Ε}{base:qg}{N:Ρ}{f:qa}{A:qf}{outer:qj Env}{s:qb}{H:Hp}{E:XK}:
  Č ('y' E) (λZ=>E):=by intro c σ g t x T C d I j o l q;show wpAny _ _ (leaving _ _) _ _ _;unfold leaving;erw[bj (yeq (L:='n') I.ok.frames J J I j o l λv y r i m=>zj r j i m λu n e h p=>?_)];have a:∀{b},Fy ('y' E) c g b->g b=none/\s.heap.get? b=none:=λk=>#[k.1,k.2.2.2.1.resolve_left 'z'];erw[x,n,C,d,g,J,e.os,e.bare,e.base,e.hok,a j,a h,p,q]
def yn9{w:qe}{K:xy}{mg:Ε}{base:qg}{N:Ρ}{f:qa}{A:qf}{outer:qj Env}{s:qb}{H:Hp}{E:XK}
  {pins:Θ} {σ:St} {H1:Hp} {s1:qb} {h':qg} {x:qa} {C:qc} {vs:Ξ} (I:Inv ('y' E) pins σ H1 s1) (m:Heap.MadeExcOf s1.heap h' x C vs) (q:E C none H1):
  ('y' E).xe (.ref x) {s1 with heap:=h'}:=by let#[t,l,_,_]:=m.there;have i:Fy ('y' E) pins H1 x:=ų I m.new (I.hok.none_of m.new);have e:Inv ('y' E) pins σ H1 {s1 with heap:=h'}:=I.kept (t':=s1.toks) m.keeps;show wpAny _ _ (leaving _ _) _ _ _;unfold leaving;erw[bj (ygb (L:='n') (d:=none) e.ok.frames J J e i l J J J J λp r e h k=>zj e i h k λo n c g t'=>?_)];have a:∀{b},Fy ('y' E) pins H1 b->H1 b=none/\s.heap.get? b=none:=λj=>#[j.1,j.2.2.2.1.resolve_left 'z'];erw[x,n,C,none,H1,J,c.os,c.bare,c.base,c.hok,a i,a g,t',q]
def yl0(sp:Sp)(dvs:Τ)(Ex:St->XK)(t:TA):TE:=λσ H Q=>t σ H λvs H1=>sp (vs++dvs) H1 Q (Ex σ)
def Ű(C:qa)(m:Str)(sp:Sp)(dvs:Τ)(Ex:St->XK)(ta:TE)(t:TA):TE:=λσ H Q=>ta σ H λx H1=>∃a dx fs,x=.ref a/\H1 a∩C dx fs/\fs.lookup m=none/\
 t σ H1 λvs H2=>sp (x::(vs++dvs)) H2 Q (Ex σ)
def yrv(C:qa)(sp:Sp)(dvs:Τ)(Ex:St->XK)(t:TA):TE:=λσ H Q=>t σ H λvs H1=>∀x dx,H1 x=none->H1 dx=none->dx≠x ->
 sp (.ref x::(vs++dvs)) (upd (upd H1 dx (.own x)) x (.ins C dx [])) (λv H2=>v=.non/\Q (.ref x) H2) (Ex σ)
end
section
mutual
variable{X:Cx}{k:Nat}{f:qa}{fd:FuncData}{ps:Ρ}{sp:Sp}{dvs:Τ}{ds:Ξ}{Ex:St->XK}{x m:Str}{p pos apos:Pos}{e o:qh}{es:qj qh}{ta:TE}{t:TA}
def Inv.came{σ:St}{H:Hp}{s s':qb}{v:qc}(I:'i' s)(hc:Č X Ex)(h:CXe X.prog X.w X.stack H s (Ex σ) v s'):X.xe v s':=by let#[y,T,D,d,k,J,i,a,j,c,e,f,g,q]:=h;erw[hc pins σ k s' y T D d (I.call' i j c a λb z=>absurd z 's') (ų I e.2 e.1) (ų I f.2 f.1) g q]
def yff{σ:St}{H:Hp}{s:qb}{Q:VK}{us:Ξ}{vs:Τ}(F:vx X.prog X.w X.K X.mg X.base (CXe X.prog X.w) k f fd ps sp)(hr:ο k X.A)(hb:jl X.K fd ps ds)(hd:xc dvs ds)(hc:Č X Ex)
  (I:'i' s) (r:xc vs us) (h:sp (vs++dvs) H Q (Ex σ)):'w' (call (.ref f) us) (EP X pins σ Q) X.xe s:=by
 have b:xc (vs++dvs) (us++ds):=r.append hd;have c:(us++ds).length=ps.length:=by rwa[<- b.length,F.len _ _ _ _ h]
 erw[wpAny_call (codeAny_mono (F.run X.A X.stack s H #[us,[]] (us++ds) (vs++dvs) Q (Ex σ) hr I.env0 (hb s us I.kIn c) b h) λr d a=>?_)]
 cases r with
 |error e=>erw[I.came hc a]
 |ok fl =>
  cases fl with
  |ret u=>erw[I.after a]
  |next=>erw[False.elim a]
  |brk=>erw[False.elim a]
  |cont=>erw[False.elim a]
def yoa(F:vx X.prog X.w X.K X.mg X.base (CXe X.prog X.w) k f fd ps sp)(hr:ο k X.A)(hg:Gl X x)(hm:X.mg x∣f)(hk:W.keepIn X.K (.ref f)=true)(hb:jl X.K fd ps ds)(hd:xc dvs ds)(hc:Č X Ex)
  (ha:PA X (e::es) t) (hdb:⇑'d') (he:↑'a') (hpl:↑'b'):
  PE X (.Call (.Name x p) (e::es) [] pos) (yl0 sp dvs Ex t):=by refine .mk λa s σ H Q I h=>?_;erw[wpAny_Call_Name_kw (jx I hg hm ?_ hdb),<-W.callWith_K (h₀:=X.base) I.ok.mod.kin hk (thn (ha pos a s σ H _ I h) λc i ⟨d,g,b,r,q⟩=>#[b.kIn,?_]) he hpl,<-yff F hr hb hd hc b r q]
def vi{pl:Sem Bool}(he:PE X o ta)(c:Cls X.K C)(hm:Meth X.K C m f)(F:vx X.prog X.w X.K X.mg X.base (CXe X.prog X.w) k f fd ps sp)(hr:ο k X.A)(hb:jl X.K fd ps ds)(hd:xc dvs ds)(hc:Č X Ex)(ha:PA X (e::es) t)
  (hst:↑'a') (hpl:↑'b')
  (ht:eval (.Call (.Attribute o m apos) (e::es) [] pos) X.env=(do
   let ov <- eval o X.env
   standAt apos.atName
   let (f,first) <- holding [ov] (getMethod ov m pl)
   callWith pos f first (backTo pos (starEach (e::es) X.env)) (backToKw pos (keywordEach [] X.env))):=by rfl):
  PE X (.Call (.Attribute o m apos) (e::es) [] pos) (Ű C m sp dvs Ex ta t):=by
 erw[.mk λb s σ H Q I h=>?_,<-W.methodCall_KW (pl:=pl) (thn (he b s σ H _ I h) λu p h'=>?_) ht];let#[x,j,g,v,a,E,D,i,n,l,q]:=h';subst i;obtain rfl:u=Value.ref a:=v;erw[Ç g n c hm l ?_]
 erw[W.callWith_K (first:=[.ref a]) (h₀:=X.base) I.ok.mod.kin hm.kp (thn (ha pos b p σ j _ g q) λus B ⟨vs,z,d,r,y⟩=>#[d.kIn,?_]) hst hpl]
 erw[yff (us:=.ref a::us) (vs:=.ref a::vs) F hr hb hd hc d (.cons J r) y]
def ykj{pl:Sem Bool}(he:PE X o ta)(c:Cls X.K C)(hm:Meth X.K C m f)(F:vx X.prog X.w X.K X.mg X.base (CXe X.prog X.w) k f fd ps sp)(hr:ο k X.A)(hb:jl X.K fd ps ds)(hd:xc dvs ds)(hc:Č X Ex)
  (ht:eval (.Call (.Attribute o m apos) [] [] pos) X.env=(do
   let ov <- eval o X.env
   standAt apos.atName
   let (f,first) <- holding [ov] (getMethod ov m pl)
   callWith pos f first (backTo pos (starEach [] X.env)) (backToKw pos (keywordEach [] X.env))):=by rfl):
  PE X (.Call (.Attribute o m apos) [] [] pos) (Ű C m sp dvs Ex ta yhh):=by
 erw[.mk λb s σ H Q I h=>?_,<-W.methodCall_KW (pl:=pl) (thn (he b s σ H _ I h) λu n h'=>?_) ht];let#[x,j,d,i,a,r,p,e,g,l,q]:=h';subst e;obtain rfl:u=Value.ref a:=i;erw[Ç d g c hm l ?_]
 erw[W.callWith_K0 (first:=[.ref a]) d.kIn hm.kp (yff (us:=[.ref a]) (vs:=[.ref a]) F hr hb hd hc d (.cons J .nil) q)]
def ykg{σ:St}{H:Hp}{s:qb}{Q:VK}{us:Ξ}{vs:Τ}(M:Mk X.K C f)(F:vx X.prog X.w X.K X.mg X.base (CXe X.prog X.w) k f fd ps sp)(hr:ο (k+1) X.A)(hb:jl X.K fd ps ds)(hd:xc dvs ds)
  (hc:Č X Ex) (I:'i' s) (r:xc vs us)
  (h:∀x dx,H x=none->H dx=none->dx≠x->sp (.ref x::(vs++dvs)) (upd (upd H dx (.own x)) x (.ins C dx [])) (λv H2=>v=.non/\Q (.ref x) H2) (Ex σ)):
  wpAny (model X.prog X.w) X.A (call (.ref C) us) (EP X pins σ Q) X.xe s:=by
 let d:=h ('n'+1) 'n' (I.hok.fresh (Nat.le_succ _)) (I.hok.fresh (bx _)) (bY (Nat.lt_succ_self _));let b:=Inv.made (C:=C) I;have c:xc (V.ref ('n'+1)::(vs++dvs)) (Value.ref ('n'+1)::(us++ds)):=.cons J (r.append hd)
 have j:(Value.ref ('n'+1)::us++ds).length=ps.length:=by
  let e:=c.length;rw[F.len _ _ _ _ d]at e;erw[e.symm]
 erw[wpAny_call (ygj (f:=f) I.kIn M.makes M.init (beq_iff_eq.mp M.fn) (codeAny_mono (F.run _ X.stack _ _ #[Value.ref ('n'+1)::us,[]] (Value.ref ('n'+1)::(us++ds)) _ _ (Ex σ) (hr.make C us [])
  (b.env0.make C us []) (hb _ (Value.ref ('n'+1)::us) b.kIn j) c d) λr o a=>?_))]
 cases r with
 |error e=>erw[b.came hc a]
 |ok fl =>
  cases fl with
  |ret u =>
   let#[v,l,i,n,g,m]:=b.after a;subst g;erw[n,#[V.ref ('n'+1),l,i,J,m]]
  |next=>erw[False.elim a]
  |brk=>erw[False.elim a]
  |cont=>erw[False.elim a]
def uu(M:Mk X.K C f)(F:vx X.prog X.w X.K X.mg X.base (CXe X.prog X.w) k f fd ps sp)(hr:ο (k+1) X.A)(hg:Gl X x)(hm:X.mg x∣C)(hb:jl X.K fd ps ds)(hd:xc dvs ds)(hc:Č X Ex)
  (ha:PA X (e::es) t) (hdb:⇑'d') (he:↑'a') (hpl:↑'b'):
  PE X (.Call (.Name x p) (e::es) [] pos) (yrv C sp dvs Ex t):=by refine .mk λa s σ H Q I h=>?_;erw[wpAny_Call_Name_kw (jx I hg hm ?_ hdb),<-W.callWith_K (h₀:=X.base) I.ok.mod.kin M.kp (thn (ha pos a s σ H _ I h) λc i ⟨d,g,b,r,q⟩=>#[b.kIn,?_]) he hpl,<-ykg M F hr hb hd hc b r q]
end
end
theorem PS.nox{X:Cx}{t:TS}(h:PS X.nox st t):PS X st t:=.mk λa s σ H D I b =>
 cr (h a s σ H D (I.wish _) b) (λZ Z q=>q.unwish) λZ Z z=>False.elim z
section
mutual
variable{w:qe}{K:xy}{mg:Ε}{base:qg}
def wa{X:Cx}:Č X (λZ Z Z Z=>False):=λZ Z Z Z Z Z Z Z Z Z Z Z q=>q.elim
def Fun.okE{x:Str}{f:qa}{fd:FuncData}{N ps:Ρ}{k:Nat}{sp:Sp}(F:Fun K x qual st f fd)(S:yk N ps (ye st))(len:∀vs H Q E,sp vs H Q E->vs.length=ps.length)
  (hbody:∀(cdv:qc)(A:qf)(outer:qj Env)(s:qb)(H:Hp)(vs:Τ)(Q:VK)(E:XK),ο k (A.deeper (envOfC qual (ye st) 'n' f cdv))->sp vs H Q E ->
   ∃t,PSs (vy (CXe P w) P w K mg base N qual (ye st) f cdv A outer s H E) (xi st) t/\t { nx:=λZ H'=>Q .non H',rt:=Q} (ė N vs) H):vx P w K mg base (CXe P w) (k+1) f fd ps sp:=by let#[l,j,kV,e,i,h,cdv,m,g,J,c,b]:=F.ex;erw[ywm c b S len λA outer s H vs Q E d a=>hbody cdv A outer s H vs Q E d a]
end
end
abbrev bmV:Ξ:=[.type "ValueError",.type "Exception",.type "BaseException",.type "object"]
abbrev XMk(K:xy)(C:qa):Prop:=W.excIn K C bmV "ValueError.__new__"=true
set_option tactic.hygienic true in
mutual
def yel{K:xy}{h:qg}{bmB:Ξ}{newId:String}(X:K.In h)(q:W.excIn K C bmB newId=true):
  ∃bm N nm qn bs hdct sn sub ab col dd k0 k1 k2 k3 k5 mN,h.get? C=some (excClassObj nm qn C N bs bm hdct sn sub ab col dd k0 k1 k2 k3 k5 newId)/\h.Ns N mN/\mN "__init__"=none/\OwnTail h bmB bm:=by
 unfold W.excIn at q
 split at q
 .rename_i dd cd sl ho
  split at q
  .rename_i C' bm k0 k1 k2 k3 n k5 hm d
   simp only[bU,beq_iff_eq,Bool.not_eq_true']at q;let#[#[#[#[#[J,J],a],j],b],c]:=q;let#[nm,bs,f,i,qn,e,sn,sub,ab,col,g]:=cd;dsimp only at hm a b c;subst hm a;let⟨l⟩:=sl;have d:l=[k0,k1,k2,k3,some (.builtin n),k5]:=d;subst d;erw[bm,i,nm,qn,bs,e,sn,sub,ab,col,dd,k0,k1,k2,k3,k5,_,X _ _ ho,.of_isNs (W.isNs_of_in X b),W.nsMap_none_of_in X b c,W.tail_of_in X j]
  .cases q
 .cases q
def yr2(E:XK)(C:qa)(t:TA):TS:=λZ σ H=>t σ H λvs H1=>vs.length<=sizeLine/\E (.ref C) none H1
def xg{w:qe}{K:xy}{mg:Ε}{base:qg}{N:Ρ}{f:qa}{A:qf}{outer:qj Env}{s:qb}{H:Hp}{E:XK}
  {C:qa} {x:Str} {np cpos pos:Pos} {e₀:qh} {w8:qj qh} {t:TA} (hg:Gl ('y' E) x) (hm:mg x∣C) (hC:XMk K C)
  (ha:PA ('y' E) (e₀::w8) t)
  (he:↑(starEach (e₀::w8) (envOfC qual scope 'n' f cd)=(false,eval e₀ (envOfC qual scope 'n' f cd))::starEach w8 (envOfC qual scope 'n' f cd)))
  (hplain:↑((backTo cpos (starEach w8 (envOfC qual scope 'n' f cd))).any (·.1)=false)) (hdb:⇑'d'):
  PS ('y' E) (.Raise (some (.Call (.Name x np) (e₀::w8) [] cpos)) none pos) (yr2 E C t):=by
 erw[.mk λa p σ l D I h=>?_];let#[k,n,nm,q,bs,hdct,sn,sub,ab,col,dd,k0,k1,k2,k3,k5,mN,c,j,g,T]:=yel I.mod.kin hC;refine wpAny_Raise_call_subT (C:=C) (nm:=nm) (q:=q) (N:=n) (bs:=bs) (bm:=k) (hdct:=hdct) (sn:=sn) (sub:=sub) (ab:=ab) (col:=col) (dd:=dd) (k0:=k0) (k1:=k1) (k2:=k2) (k3:=k3) (k5:=k5)
  F.excBase_ValueError (mN:=mN) (T.hasType F.excBase_ValueError.hasBase) (I.ok.hd J) (by
   show (backTo cpos (starEach (e₀::w8) (envOfC qual scope 'n' f cd))).any (·.1)=false;rw[he];show (false || (backTo cpos (starEach w8 (envOfC qual scope 'n' f cd))).any (·.1))=false;rw[hplain];rfl) g (jx I hg hm #[J,?_] hdb)
 let i:=ha cpos a p σ l _ I h;have d:starEach (e₀::w8) ('y' E).env=(false,eval e₀ ('y' E).env)::starEach w8 ('y' E).env:=he;rw[d]at i⊢;erw[Calls.evalArgs_plain (cr i (by rintro B s₂ ⟨G,v,b,r,o,u⟩;erw[J,by rwa[<- r.length,o],b.bk _ _ c,j.keeps b.bk,T.keeps b.bk,λz y m=>yn9 b m u]) λZ Z y=>y)]
end
section
mutual
variable{X:Cx}{σ:St}{H:Hp}{s:qb}{T:qa}
noncomputable abbrev Cx.pnd(X:Cx)(pn:Θ):Cx:={X with pn:=pn}
theorem Cx.Ok.pnd(ok:X.Ok)(pn:Θ):(X.pnd pn).Ok :=
 #[ok.mod,ok.kind,ok.glob,ok.blt,ok.above,ok.inj,ok.has,ok.cab,ok.hd,ok.frames,ok.stk,ok.exf,ok.bs,ok.bsz,ok.noex,ok.exfs,ok.funs,ok.frf]
def Cx.Ok.unpnd{pn:Θ}(ok:(X.pnd pn).Ok):X.Ok :=
 #[ok.mod,ok.kind,ok.glob,ok.blt,ok.above,ok.inj,ok.has,ok.cab,ok.hd,ok.frames,ok.stk,ok.exf,ok.bs,ok.bsz,ok.noex,ok.exfs,ok.funs,ok.frf]
theorem Inv.pnd(I:'i' s):Inv (X.pnd (X.pn++pins)) [] σ H s :=
 #[I.ok.pnd _,I.os,I.bare,I.base,I.loc,I.cell,I.free,I.freeC,λp a=>I.pin p (by simpa using a),I.hok,I.len]
theorem Inv.unpnd{ps:Θ}(I:Inv (X.pnd (X.pn++pins)) ps σ H s):'i' s :=
 #[I.ok.unpnd,I.os,I.bare,I.base,I.loc,I.cell,I.free,I.freeC,λp a=>I.pin p (cN _ a),I.hok,I.len]
def XT(Y:Cx)(Ex:St->XK)(e:qc)(s':qb):Prop:=∃pins σ H x T C d,e=.ref x/\Inv Y pins σ H s'/\Fy Y pins H x/\Fy Y pins H T/\Trd s'.heap x T C d/\Ex σ C d H
noncomputable abbrev Cx.tr(X:Cx)(pn:Θ)(Ex:St->XK):Cx:=(X.pnd pn).wish (XT (X.pnd pn) Ex)
def zi{pn:Θ}{Ex:St->XK}:Č (X.tr pn Ex) Ex:=λa σ H Z x T C d I b c tr q=>#[a,σ,H,x,T,C,d,J,I.unwish,b,c,tr,q]
noncomputable abbrev Cx.su(X:Cx)(pn:Θ)(x:qa):Cx:={X with A:=X.A.mark (some (.ref x)),calm:=false,pn:=pn,xe:=λZ Z=>False}
theorem Inv.su(I:'i' s)(x:qa):Inv (X.su (X.pn++pins) x) [] σ H s :=
 #[#[I.ok.mod,I.ok.kind,I.ok.glob,I.ok.blt,I.ok.above,I.ok.inj,I.ok.has,I.ok.cab,λz=>(by cases z),I.ok.frames,I.ok.stk,I.ok.exf,I.ok.bs,I.ok.bsz,I.ok.noex,I.ok.exfs,I.ok.funs,I.ok.frf],
  I.os,I.bare,I.base,I.loc,I.cell,I.free,I.freeC,λp a=>I.pin p (by simpa using a),I.hok,I.len]
def Inv.unsu(I:Inv (X.su (X.pn++pins) x) [] σ H s)(ok:X.Ok):'i' s :=
 #[ok,I.os,I.bare,I.base,I.loc,I.cell,I.free,I.freeC,λp a=>I.pin p (cN _ a),I.hok,I.len]
def Inv.track{o:HO}(I:'i' s)(hx:Fy X pins H x)(ob:xn X.prog X.w (upd H x o) s.heap x o):Inv X pins σ (upd H x o) s:=by
 have d:∀{b u},H b=some u->b≠x:=λ{b u}e z=>by rw[z,hx.1]at e;cases e
 erw[I.ok,I.os,I.bare,#[I.base.keep,I.base.slot,λb ob e n g=>?_,I.base.there,λb h e=>?_,λb ob u e=>?_,λb i e=>?_],I.loc,I.cell,?_,λy c e=>?_,λp f=>?_,λb u e=>?_,I.len]
 .rw[yn ?_]
  .erw[I.base.free b ob e n g]
  .rintro rfl;rcases hx.2.2.2.1 with z|z
   .erw[g z]
   .rw[e]at z;cases z
 .let q:=I.base.tups b h e;rwa[yn (d q),q]
 .let q:=I.base.frzs b ob u e;rwa[yn (d q),q]
 .let#[a,q]:=I.base.tbls b i e;erw[a,by rwa[yn (d q),q]]
 .rw[yn (Ne.symm hx.2.1)];erw[I.free]
 .rw[yn (hx.2.2.2.2.1 y c e)];erw[I.freeC y c e]
 .let#[e,n,q]:=I.pin p f;erw[e,by rwa[yn (hx.2.2.2.2.2 p f),n],q]
 .by_cases hb:b=x
  .subst hb;rw[ya]at e;cases e;erw[ob]
  .rw[yn hb]at e;erw[(I.hok b u e).stay (λZ Z Z q=>q) (λc q=>by rwa[yn (d q),q]) λc h q=>by rwa[yn (d q),q]]
def Inv.unbind{A:qf}{i:Nat}{n:Str}{pos:Pos}{Q:Unit->qb->Prop}(I:'i' s)(hN:X.N.Nodup)(hi:X.N[i]?=some n)(hl:X.env.scope.names.lookup n=some .local)
  (h:∀s',Inv X pins (σ.set i none) H s'->Q ⟨⟩ s'):wpAny M A (do bindName X.env n .none;unbindBehindTheSuite X.env n pos) Q E s:=by
 let#[m,F,B]:=id I.loc;let#[Y,_,_,T,_]:=id F;have a:∀b o,X.s₀.heap.get? b=some o->b≠X.env.locals:=λb o e=>bY (bZ (bE e) I.ok.above);erw[wpAny_nameGoes_keeps hl F (by rw[I.ok.kind];rfl) λW v x f=>h _ #[I.ok,I.os,I.bare,#[λb o e n w l=>?_,λb o e n w l=>?_,I.base.free,λb o e l=>?_,I.base.tups,I.base.frzs,I.base.tbls],#[_,x,λj y ς g r S=>?_],λy c e=>?_,I.free,I.freeC,λp P=>?_,λb u e=>?_,by simpa using I.len]]
 .erw[(f.2 b (a b o e)).trans (I.base.keep b o e n w l)]
 .let#[K,g]:=I.base.slot b o e n w l;erw[K,(f.2 b (a b o e)).trans g]
 .let#[R,g]:=I.base.there b o e l;erw[R,(f.2 b (a b o e)).trans g]
 .by_cases hj:j=i
  .subst hj;have:j<σ.length:=by rw[I.len];exact(bJ.mp hi).1
   rw[List.getElem?_set_self this]at r;cases r
  .rw[List.getElem?_set_ne (Ne.symm hj)]at r;let#[O,G,q]:=B j y ς g r S;erw[O,G,?_];rcases q with⟨k,e⟩|⟨k,c,e,z⟩
   .have:y≠n:=λz=>hj (yay hN g (z ▸ hi));erw[.inl #[k,by simp[this,e]]]
   .erw[.inr #[k,c,e,z.sameBut f (I.cne y c e)]]
 .let#[C,z]:=I.cell y c e;erw[C,z.sameBut f (I.cne y c e)]
 .let#[e,L,D,U,d]:=I.pin p P;erw[(f.2 p.1 D).trans e,L,D,U,d]
 .erw[(I.hok b u e).stay (λc C t q=>(f.2 c ?_).trans q) (λZ q=>q) λZ Z q=>q];rintro rfl;rcases t with rfl|t
  .rw[I.free]at e;cases e
  .rw[I.free]at t;cases t
end
end
variable{X:Cx}
noncomputable def ã.un(D:ã)(i:Nat):ã:=#[λσ H=>D.nx (σ.set i none) H,D.rt,λσ H=>D.bk (σ.set i none) H,λσ H=>D.ct (σ.set i none) H]
section
mutual
variable{σ:St}{H:Hp}{Q:VK}{tr:TA}{ta:TE}{nx:Ζ}{rt:VK}{bk ct:Ζ}{ts:TS}
def yuy{sp:Sp}{dvs:Τ}{Ex:St->XK}(h:tr σ H λvs H1=>sp (vs++dvs) H1 Q (Ex σ)):yl0 sp dvs Ex tr σ H Q:=h
def ybr{m:Str}{sp:Sp}{dvs:Τ}{Ex:St->XK}(h:ta σ H λx H1=>∃a dx fs,x=.ref a/\H1 a∩C dx fs/\fs.lookup m=none/\tr σ H1 λvs H2=>sp (x::(vs++dvs)) H2 Q (Ex σ)):Ű C m sp dvs Ex ta tr σ H Q:=h
def yt2{sp:Sp}{dvs:Τ}{Ex:St->XK}(h:tr σ H λvs H1=>∀x dx,H1 x=none->H1 dx=none->dx≠x->sp (.ref x::(vs++dvs)) (upd (upd H1 dx (.own x)) x (.ins C dx [])) (λv H2=>v=.non/\Q (.ref x) H2) (Ex σ)):yrv C sp dvs Ex tr σ H Q:=h
def ytu{E:XK}{D:ã}(h:tr σ H λvs H1=>vs.length<=sizeLine/\E (.ref C) none H1):yr2 E C tr D σ H:=h
def vfz{K:xy}{cv:V}{c:qc}{k:Bool}(hx:H x=some (.ext (Ĝ x C)))(cl:XCls K C)(r:ub cv c)(u:∀u,ub cv u->u=c)(e:W.kitOne K (.ref C) c=some k)(h:Q (.bl k) H):yw3 K [.ref x,cv] H Q:=#[x,cv,C,c,k,J,r,u,hx,cl,e,h]
def yqs{K:xy}{k:Bool}(hx:H x=some (.ext (Ĝ x C)))(cl:XCls K C)(e:W.kitOne K (.ref C) (.ref D)=some k)(h:Q (.bl k) H):yw3 K [.ref x,.ref D] H Q:=vfz hx cl J (λZ z=>z) e h
def vby{K:xy}{n:String}{k:Bool}(hx:H x=some (.ext (Ĝ x C)))(cl:XCls K C)(e:W.kitOne K (.ref C) (.type n)=some k)(h:Q (.bl k) H):yw3 K [.ref x,.ty n] H Q:=vfz hx cl J (λZ z=>z) e h
def ygv{K:xy}{tp:qa}{Cs:Φ}{k:Bool}(ht:H tp∪(List.map V.ref Cs))(hx:H x=some (.ext (Ĝ x C)))(cl:XCls K C)(e:W.kitAny K (.ref C) (Cs.map Value.ref)=some k)(h:Q (.bl k) H):yim K [.ref x,.ref tp] H Q :=
 #[x,tp,C,Cs,k,J,ht,hx,cl,e,h]
end
end
section
mutual
variable{κ:Type}[DecidableEq κ]
noncomputable def π(kvs:qj (κ×V))(k:κ):ql V:=(kvs.find? λkv=>decide (kv.1=k)).map (·.2)
noncomputable def Ź(kvs:qj (κ×V))(k:κ)(v:V):qj (κ×V) :=
 if (kvs.any λkv=>decide (kv.1=k))=true then kvs.map (λkv=>if kv.1=k then (kv.1,v)else kv)else kvs++[(k,v)]
noncomputable def Ė(kvs:qj (κ×V))(k:κ):qj (κ×V):=kvs.filter λkv=>decide (kv.1≠k)
def uj{p:κ×V}{r:qj (κ×V)}{k:κ}(e:p.1=k):π (p::r) k=some p.2:=by simp[π,List.find?_cons,e]
def ug{p:κ×V}{r:qj (κ×V)}{k:κ}(e:¬p.1=k):π (p::r) k=π r k:=by simp[π,List.find?_cons,e]
theorem η(k:κ):∀kvs:qj (κ×V),(kvs.any λkv=>decide (kv.1=k))=(π kvs k).isSome
 |[]=>rfl
 |p::r=>by
  rw[List.any_cons];by_cases e:p.1=k
  .simp only[uj e,bz e,Bool.true_or,Option.isSome_some]
  .rw[ug e,bD e,Bool.false_or];erw[η k r]
theorem yf3(k j:κ)(y:V):∀kvs:qj (κ×V),π (kvs.map λkv=>if kv.1=k then (kv.1,y)else kv) j=(π kvs j).map λx=>if j=k then y else x
 |[]=>rfl
 |p::r=>by
  let a:=yf3 k j y r;rw[cb];by_cases h:p.1=k
  .rw[if_pos h];by_cases e:p.1=j
   .rw[uj (p:=(p.1,y)) e,uj e,cS,if_pos (e.symm.trans h)]
   .rw[ug (p:=(p.1,y)) e,ug e,a]
  .rw[if_neg h];by_cases e:p.1=j
   .rw[uj (p:=p) e,uj e,cS,if_neg (λz=>h (e.trans z))]
   .rw[ug (p:=p) e,ug e,a]
theorem ycq(k j:κ)(y:V):∀kvs:qj (κ×V),π kvs k=none->π (kvs++[(k,y)]) j=if j=k then some y else π kvs j
 |[],_=>by
  by_cases e:k=j
  .rw[if_pos e.symm];erw[uj (p:=(k,y)) e]
  .rw[if_neg (λz=>e z.symm)];erw[ug (p:=(k,y)) e]
 |p::r,hn=>by
  rw[List.cons_append];have a:¬p.1=k:=λz=>by rw[uj z]at hn;cases hn
  rw[ug a]at hn;let b:=ycq k j y r hn;by_cases e:p.1=j
  .rw[uj e,uj e,if_neg (λz=>a (e.trans z))]
  .rw[ug e,ug e,b]
def É(kvs:qj (κ×V))(k j:κ)(y:V):π (Ź kvs k y) j=if j=k then some y else π kvs j:=by
 unfold Ź;by_cases a:(kvs.any λb=>decide (b.1=k))=true
 .rw[if_pos a,yf3];rw[η]at a;by_cases e:j=k
  .let#[x,c]:=Option.isSome_iff_exists.mp a;rw[if_pos e,e,c,cS,if_pos J]
  .rw[if_neg e]
   cases π kvs j with
   |none=>rfl
   |some x=>rw[cS,if_neg e]
 .rw[if_neg a];erw[ycq k j y kvs ?_];rw[η]at a
  cases q:π kvs k with
  |none=>rfl
  |some x=>rw[q]at a;erw[(a J).elim]
def ķ(kvs:qj (κ×V))(k:κ)(v:V):(Ź kvs k v).length<=kvs.length+1:=by
 unfold Ź
 split
 .rw[bo];omega
 .rw[bq,bN,List.length_nil];omega
def ì{kvs:qj (κ×V)}{k:κ}(v:V)(h:π kvs k=none):Ź kvs k v=kvs++[(k,v)]:=by unfold Ź;rwa[η,h,if_neg ∅]
def ydi.isSome_eq{o:ql V}{u:ql qc}(r:ydi o u):o.isSome=u.isSome:=by
 cases o with
 |none=>cases u with
  |none=>rfl
  |some _=>erw[(show False from r).elim]
 |some _=>cases u with
  |none=>erw[(show False from r).elim]
  |some _=>rfl
def KV.val{kvs:qj (κ×V)}{vs:qj (κ×qc)}(r:KV kvs vs)(k:κ):ydi (π kvs k) (valueAt vs k):=by
 unfold KV at r
 induction r with
 |nil=>erw[True.intro]
 | @cons p q ps qs h t ih =>
  let#[c,d]:=h;by_cases e:p.1=k
  .have a:q.1=k:=c.symm.trans e;have b:valueAt (q::qs) k=some q.2:=by simp[valueAt,List.find?_cons,a]
   rwa[uj e,b,d]
  .have a:¬q.1=k:=λz=>e (c.trans z);have b:valueAt (q::qs) k=valueAt qs k:=by simp[valueAt,List.find?_cons,a]
   rwa[ug e,b,ih]
theorem KV.any{kvs:qj (κ×V)}{vs:qj (κ×qc)}(r:KV kvs vs)(k:κ):(kvs.any λkv=>decide (kv.1=k))=vs.any λkv=>decide (kv.1=k):=by
 unfold KV at r
 induction r with
 |nil=>rfl
 |cons h t ih=>rw[List.any_cons,List.any_cons,ih,h.1]
def KV.repl{kvs:qj (κ×V)}{vs:qj (κ×qc)}(r:KV kvs vs)(k:κ){y:V}(ry:ub y u):
  KV (kvs.map λkv=>if kv.1=k then (kv.1,y)else kv) (vs.map λkv=>if kv.1=k then (kv.1,u)else kv):=by
 unfold KV at r⊢
 induction r with
 |nil=>erw[.nil]
 | @cons p q ps qs h t ih =>
  rwa[cb,cb,.cons ?_ ih];let#[a,b]:=h;by_cases e:p.1=k
  .rw[if_pos e,if_pos (a.symm.trans e)];erw[a,ry]
  .rw[if_neg e,if_neg (λz=>e (a.trans z))];erw[a,b]
def KV.put{kvs:qj (κ×V)}{vs:qj (κ×qc)}(r:KV kvs vs)(k:κ){y:V}(ry:ub y u):KV (Ź kvs k y) (stored vs k u):=by
 unfold Ź stored;rw[r.any k];by_cases e:(vs.any λa=>decide (a.1=k))=true
 .rw[if_pos e,if_pos e];erw[r.repl k ry]
 .rw[if_neg e,if_neg e];erw[Paired.snoc r #[J,ry]]
def KV.drop{kvs:qj (κ×V)}{vs:qj (κ×qc)}(r:KV kvs vs)(k:κ):KV (Ė kvs k) (without vs k):=by
 unfold KV at r⊢;unfold Ė without
 induction r with
 |nil=>erw[.nil]
 | @cons p q ps qs h t ih =>
  let#[c,d]:=h;rw[List.filter_cons,List.filter_cons];by_cases e:p.1=k
  .have a:¬decide (p.1≠k)=true:=by simp[e]
   have b:¬decide (q.1≠k)=true:=by simp[c.symm.trans e]
   rwa[if_neg a,if_neg b,ih]
  .have f:¬q.1=k:=λz=>e (c.trans z);have a:decide (p.1≠k)=true:=by simp[e]
   have b:decide (q.1≠k)=true:=by simp[f]
   rwa[if_pos a,if_pos b,.cons #[c,d] ih]
theorem KV.length{kvs:qj (κ×V)}{vs:qj (κ×qc)}(r:KV kvs vs):kvs.length=vs.length:=Paired.length r
def yow(kvs:qj (κ×V))(k:κ):(Ė kvs k).length<=kvs.length:=List.length_filter_le _ _
end
end
mutual
def yiv{w:qe}{k:Key}(r:ub (kV k) u):(xa P w).is k u=true:=by
 cases k with
 |inl i=>let⟨t,e⟩:=(show ∃t,u=Value.int i t from r);subst e;erw[ydo P w i t]
 |inr x=>let⟨t,e⟩:=(show ∃t,u=Value.str x t from r);subst e;erw[ydw P w x t]
theorem ych{w:qe}:∀{ks:qj Key}{us:Ξ},xc (ks.map kV) us->ItemsAre (xa P w) ks us
 |[],_,r=>by rw[List.map_nil]at r;cases r;erw[.nil]
 |k::ks,_,r=>by
  rw[cb]at r
  cases r with
  |cons h t=>erw[.cons (yiv h) (ych t)]
abbrev KT(H:Hp):qj (qj Key×V)->qj (qj Key×qa×qc)->Prop:=Paired λp q=>p.1=q.1/\H q.2.1∪(p.1.map kV)/\ub p.2 q.2.2
def KT.val{H:Hp}{kvs:qj (qj Key×V)}{xs:qj (qj Key×qa×qc)}(r:KT H kvs xs)(k:qj Key):ydi (π kvs k) ((atKey xs k).map (·.2)):=by
 induction r with
 |nil=>erw[True.intro]
 | @cons p q ps qs h t ih =>
  let#[c,_,d]:=h;by_cases e:p.1=k
  .have a:q.1=k:=c.symm.trans e;have b:atKey (q::qs) k=some q.2:=by simp[atKey,List.find?_cons,a]
   rwa[uj e,b,d]
  .have a:¬q.1=k:=λz=>e (c.trans z);have b:atKey (q::qs) k=atKey qs k:=by simp[atKey,List.find?_cons,a]
   rwa[ug e,b,ih]
def KT.repl{H:Hp}{kvs:qj (qj Key×V)}{xs:qj (qj Key×qa×qc)}(r:KT H kvs xs)(k:qj Key){y:V}(ry:ub y u):
  KT H (kvs.map λkv=>if kv.1=k then (kv.1,y)else kv) (xs.map (putAt k u)):=by
 induction r with
 |nil=>erw[.nil]
 | @cons p q ps qs h t ih =>
  rwa[cb,cb,.cons ?_ ih];let#[a,b,c]:=h;unfold putAt;by_cases e:p.1=k
  .rw[if_pos e,if_pos (a.symm.trans e)];erw[a,b,ry]
  .rw[if_neg e,if_neg (λz=>e (a.trans z))];erw[a,b,c]
def KT.put{H:Hp}{kvs:qj (qj Key×V)}{xs:qj (qj Key×qa×qc)}(r:KT H kvs xs)(k:qj Key){b:qa}{y:V}(hb:H b∪(k.map kV))(ry:ub y u):
  KT H (Ź kvs k y) (storedH xs k b u):=by
 have e:(kvs.any λa=>decide (a.1=k))=(atKey xs k).isSome:=by
  rw[η,(r.val k).isSome_eq,Option.isSome_map]
 unfold Ź storedH;rw[e];by_cases q:(atKey xs k).isSome=true
 .rw[if_pos q,if_pos q];erw[r.repl k ry]
 .rw[if_neg q,if_neg q];erw[Paired.snoc r #[J,hb,ry]]
def KT.keeps{H H':Hp}{kvs:qj (qj Key×V)}{xs:qj (qj Key×qa×qc)}(r:KT H kvs xs)(ht:∀b ys,H b∪ys->H' b∪ys):KT H' kvs xs :=
 Paired.mapP r λZ Z z=>#[z.1,ht _ _ z.2.1,z.2.2]
end
section
mutual
variable{w:qe}{H:Hp}{h:qg}
def vff{u:HO}(ok:HOk P w H h)(e:Rd H a u):xn P w H h a u:=e.ok ok
def yfk{kvs:qj (Key×V)}(ok:HOk P w H h)(e:Rd H a (.dK kvs)):kvs.length<=sizeLine/\(a == sysModules)=false/\∃vs,KV kvs vs/\h.DictOf (xa P w) a vs :=
 show xn P w H h a (.dK kvs)from vff ok e
def vez{kvs:qj (Key×V)}(ok:HOk P w H h)(e:H a=some (.dK kvs)):kvs.length<=sizeLine/\(a == sysModules)=false/\∃vs,KV kvs vs/\h.DictOf (xa P w) a vs:=yfk ok (.inl e)
def yc9{ks:qj Key}(ok:HOk P w H h)(e:H a∪(ks.map kV)):(tupleKind (xa P w)).is h ks a:=by let#[_,b,r,o,f,c,n,d]:=(show xn P w H h a (.tup (ks.map kV))from ok a _ e);erw[o,b.toArray,n,f,c,d,by simpa using ych r]
def yis{kvs:qj (qj Key×V)}(ok:HOk P w H h)(e:Rd H a (.dT kvs)):kvs.length<=sizeLine/\(a == sysModules)=false/\
  ∃xs,KT H kvs xs/\h.DictOfH (tupleKind (xa P w)) a xs:=by
 let#[z,y,xs,r,o,j,d,i,f,n,g,k]:=(show xn P w H h a (.dT kvs)from vff ok e);erw[z,y,xs,r,o,j,d,i,f,n,g,λx b=>?_,k]
 have c:∀{l:qj (qj Key×V)}{m:qj (qj Key×qa×qc)},KT H l m->∀x∈m,(tupleKind (xa P w)).is h x.1 x.2.1:=by
  intro l m q
  induction q with
  |nil=>intro x b;erw[nomatch b]
  | @cons p q ps qs hq t ih =>
   intro x b;rcases bH.mp b with e|b
   .subst e;erw[yc9 ok (by rwa[<- hq.1,hq.2.1])]
   .erw[ih x b]
 erw[c r x b]
def vgt{kvs:qj (qj Key×V)}(ok:HOk P w H h)(e:H a=some (.dT kvs)):kvs.length<=sizeLine/\(a == sysModules)=false/\
  ∃xs,KT H kvs xs/\h.DictOfH (tupleKind (xa P w)) a xs:=yis ok (.inl e)
end
end
mutual
def Ÿ(H:Hp)(a:qa)(y:V)(r:ql V):Prop :=
 (∃kvs k,Rd H a (.dK kvs)/\y=kV k/\r=π kvs k)\/∃kvs k b,Rd H a (.dT kvs)/\y=.ref b/\H b∪(k.map kV)/\r=π kvs k
def ym4(H:Hp)(a:qa)(y v:V)(H':Hp):Prop :=
 (∃kvs k,H a=some (.dK kvs)/\y=kV k/\kvs.length<sizeLine/\H'=upd H a (.dK (Ź kvs k v))) \/
 ∃kvs k b,H a=some (.dT kvs)/\y=.ref b/\H b∪(k.map kV)/\kvs.length<sizeLine/\H'=upd H a (.dT (Ź kvs k v))
theorem Ÿ.k{H:Hp}{kvs:qj (Key×V)}{k:Key}(e:H a=some (.dK kvs)):Ÿ H a (kV k) (π kvs k):=.inl #[kvs,k,.inl e,J,J]
def Ÿ.t{H:Hp}{b:qa}{kvs:qj (qj Key×V)}{k:qj Key}(e:H a=some (.dT kvs))(eb:H b∪(k.map kV)):Ÿ H a (.ref b) (π kvs k):=.inr #[kvs,k,b,.inl e,J,eb,J]
theorem ym4.k{H:Hp}{kvs:qj (Key×V)}{k:Key}{v:V}(e:H a=some (.dK kvs))(hl:kvs.length<sizeLine):ym4 H a (kV k) v (upd H a (.dK (Ź kvs k v))):=.inl #[kvs,k,e,J,hl,J]
def ym4.t{H:Hp}{b:qa}{kvs:qj (qj Key×V)}{k:qj Key}{v:V}(e:H a=some (.dT kvs))(eb:H b∪(k.map kV))(hl:kvs.length<sizeLine):
  ym4 H a (.ref b) v (upd H a (.dT (Ź kvs k v))):=.inr #[kvs,k,b,e,J,eb,hl,J]
end
section
mutual
variable{σ:St}{H:Hp}{s:qb}{y v:V}{r:qc}{o:ql V}{A:qf}
def Inv.big(I:'i' s):sysModules<'n':=by have h:mainGlobals<'n':=(I.mod.glob.keeps I.bk).lt;erw[Nat.lt_trans ∅ h]
def yjv(hu:A.units+1<cLine)(I:'i' s)(g:Ÿ H a y (some v))(ry:ub y u)(h:∀w' s','i' s'->ub v w'->Q w' s'):
  wpAny (model X.prog X.w) A (getItem (.ref a) u) Q E s:=by
 rcases g with⟨i,k,e,j,l⟩|⟨i,k,b,e,j,B,l⟩
 .subst j;let#[z,q,t,d,n]:=yfk I.hok e;let#[w',f,c]:=ydi.some_of (v:=v) (o:=valueAt t k) (by rwa[l,d.val k]);erw[wpAny_getItem_of (yiv ry) n.mapOf f (h w' _ (I.tok _) c)]
 .subst j;cases (show u=Value.ref b from ry);let#[z,q,x,d,n]:=yis I.hok e;let#[w',f,c]:=ydi.some_of (v:=v) (o:=(atKey x k).map (·.2)) (by rwa[l,d.val k]);let#[p,r,m]:=Option.map_eq_some_iff.mp f;erw[wpAny_getItem_heap (tupleKind_room_in1 hu) (yc9 I.hok B) n r ?_];rwa[m,h w' _ (I.tok _) c]
def vkg(hu:A.units+1<cLine)(I:'i' s)(g:Ÿ H a y o)(ry:ub y u)(h:∀s','i' s'->Q (.bool o.isSome) s'):
  wpAny (model X.prog X.w) A (compareOp .In u (.ref a)) Q E s:=by
 rcases g with⟨f,k,e,i,l⟩|⟨f,k,b,e,i,m,l⟩
 .subst i;let#[z,d,n,c,j]:=yfk I.hok e;erw[wpAny_in_of (yiv ry) d j.mapOf ?_];rwa[<- (c.val k).isSome_eq,<- l,h _ (I.tok _)]
 .subst i;cases (show u=Value.ref b from ry);let#[z,d,p,c,j]:=yis I.hok e;erw[wpAny_in_heap (tupleKind_room_in1 hu) (yc9 I.hok m) d j ?_];let q:=(c.val k).isSome_eq;rw[Option.isSome_map]at q;rwa[<- q,<- l,h _ (I.tok _)]
def yvv(hu:A.units+1<cLine)(I:'i' s)(g:Ÿ H a y o)(ry:ub y u)(h:∀s','i' s'->Q (.bool (!o.isSome)) s'):
  wpAny (model X.prog X.w) A (compareOp .NotIn u (.ref a)) Q E s:=by
 rcases g with⟨f,k,e,i,l⟩|⟨f,k,b,e,i,m,l⟩
 .subst i;let#[z,d,n,c,j]:=yfk I.hok e;erw[wpAny_notIn_of (yiv ry) d j.mapOf ?_];rwa[<- (c.val k).isSome_eq,<- l,h _ (I.tok _)]
 .subst i;cases (show u=Value.ref b from ry);let#[z,d,p,c,j]:=yis I.hok e;erw[wpAny_notIn_heap (tupleKind_room_in1 hu) (yc9 I.hok m) d j ?_];let q:=(c.val k).isSome_eq;rw[Option.isSome_map]at q;rwa[<- q,<- l,h _ (I.tok _)]
def yeo{t':Nat}{ob:HO}(I:'i' s)(mu:Mut (H a))(hs:Heap.SameBut a s.heap h')(he:∃q,h'.get? a=some q)(new:xn X.prog X.w (upd H a ob) h' a ob):
  Inv X pins σ (upd H a ob) {s with heap:=h',toks:=t'} :=
 I.write (x:=a) (e:=a) mu (.inl J) (λb q c z=>(hs.2 b c).trans z) he new
def yp5{w:qe}{H':Hp}{kvs:qj (Key×V)}{vs:qj (Key×qc)}(z:kvs.length<=sizeLine)(hd:(a == sysModules)=false)(rel:KV kvs vs)(dd:h'.DictOf (xa P w) a vs):
  xn P w H' h' a (.dK kvs):=#[z,hd,vs,rel,dd]
def yjl{H':Hp}{Q:Unit->qb->Prop}(hu:A.units+1<cLine)(I:'i' s)(g:ym4 H a y v H')(ry:ub y u)(rv:ub v r)(h:∀s',Inv X pins σ H' s'->Q ⟨⟩ s'):
  wpAny (model X.prog X.w) A (setItem (.ref a) u r) Q E s:=by
 rcases g with⟨d,k,e,B,l,n⟩|⟨d,k,b,e,B,F,l,n⟩
 .subst B n;let#[z,m,ς,f,x]:=vez I.hok e;have o:ς.length<=sizeLine:=by rw[<- f.length];exact z
  have p:(Ź d k v).length<=sizeLine:=by have:=ķ d k v;omega
  erw[wpAny_setItem_pairs (hsz:=o) (yiv ry) x λD i t=>h _ ?_];have R:∃q,D.get? a=some q:=let ⟨q,_,_,j,_⟩:=i;#[q,j];erw[yeo I (by rwa[e,True.intro]) t R (yp5 p m (f.put k rv) i)]
 .subst B n;cases (show u=Value.ref b from ry);let#[z,m,M,f,x]:=vgt I.hok e;have o:M.length<=sizeLine:=by rw[<- Paired.length f];exact z
  have p:(Ź d k v).length<=sizeLine:=by have:=ķ d k v;omega
  erw[wpAny_setItem_heap (hsz:=o) (tupleKind_room_in1 hu) (yc9 I.hok F) x λD i t=>h _ ?_];let#[q,N,P,j,G,O,K,_,L]:=i;erw[yeo I (by rwa[e,True.intro]) t #[q,j] #[p,m,_,(f.put k F rv).keeps λc S C=>?_,q,N,P,j,G,O,K,L]]
  rw[yn (uc C e (λz=>nomatch z))]
  erw[C]
end
end
section
mutual
variable{σ:St}{H:Hp}{s:qb}{kvs:qj (Key×V)}{k:Key}{A:qf}
def vgs{v:V}{more:Ξ}(I:'i' s)(e:H a=some (.dK kvs))(ry:ub (kV k) u)(l:π kvs k=some v)(hm:more=[]\/∃x,more=[x])
  (h:∀w' s',Inv X pins σ (upd H a (.dK (Ė kvs k))) s'->ub v w'->Q w' s'):wpAny (model X.prog X.w) A (call (.builtin "dict.pop") (.ref a::u::more)) Q E s:=by
 let#[z,j,f,b,g]:=vez I.hok e;let#[w',m,d]:=ydi.some_of (v:=v) (o:=valueAt f k) (by rwa[<- l,b.val k])
 have n:(keyPart u).isSome=true:=by
  cases k with
  |inl i=>let⟨t,q⟩:=(show ∃t,u=Value.int i t from ry);subst q;rfl
  |inr x=>let⟨t,q⟩:=(show ∃t,u=Value.str x t from ry);subst q;rfl
 have r:argsOk "dict.pop" #[.ref a::u::more,[]]:=by
  rcases hm with q|⟨x,q⟩
  .subst q;erw[PySem.F.args_dict_pop_2 _ _]
  .subst q;erw[PySem.F.args_dict_pop_3 _ _ _]
 refine call_meetsIn PySem.F.slot_dict_pop g.typeIs PySem.F.entry_dict_pop r (meets_dict_pop_there (xa X.prog X.w) a (yiv ry) more hm n)
  #[f,w',g,by rwa[<- b.length,z],m,λp c B=>h w' _ ?_ d]
 have y:∃q,p.get? a=some q:=let ⟨q,_,_,hq,_⟩:=c;#[q,hq];erw[yeo I (by rwa[e,True.intro]) B y (yp5 (ck (yow kvs k) z) j (b.drop k) c)]
def vh2(I:'i' s)(e:Rd H a (.dK kvs))(h:∀t s','i' s'->Q (.int kvs.length t) s'):wpAny (model X.prog X.w) A (call (.builtin "len") [.ref a]) Q E s:=by let#[z,c,f,b,d]:=yfk I.hok e;erw[call_len_dict c d (by rw[<- b.length];rw[sizeLine_eq]at z;omega) ?_];rwa[<- b.length,h _ _ (I.tok _)]
end
end
mutual
def vjd(i:qh):Prop:=∀ov iv,subscripted i false ov iv=operate [ov,iv] (getItem ov iv)
def yv9{prog:qi}{w:qe}{A:qf}{s:qb}{env:Env}{value slice:qh}{pos:Pos}{T id:String} 
  (hl:typeLookup (.type T) "__getitem__"=pure (some (.builtin id))) (hs:vjd slice)
  (h:wpAny (model prog w) A (eval value env) (λo s₁=>wpAny (model prog w) A (eval slice env) (λi s₂=>s₂.TypeIs o T/\wpAny (model prog w) A (getItem o i) Q E s₂) E s₁) E s):
  wpAny (model prog w) A (eval (.Subscript value slice pos) env) Q E s:=by
 erw[Subscript_ (cr h (λo s₁ h₁=>cr h₁ (λi s₂ h₂=>?_) λZ Z x=>x) λZ Z x=>x)];let#[b,h₂]:=h₂;unfold subscriptTail;erw[bj ?_];rwa[getitemInPython_of_ne b.not_modules,bj (wpAny_specialOf b hl ?_)]
 have a:wpAny (model prog w) A (subscripted slice false o i) (λr s₃=>wpAny (model prog w) A (letTemporaryGo value o r >>=λZ=>pure r) Q E s₃) E s₂:=by
  rwa[hs o i,wpAny_operating (cr h₂ (λr s₃ h₃=>bj (wpAny_letTemporaryGo (bv h₃))) λZ Z x=>x)]
 first
  |erw[bv (bj a)]
  |erw[bj (bv (bj a))]
  |erw[bj a]
def yd1{σ:St}{H:Hp}{s:qb}{y:V}{o:ql V}(I:'i' s)(g:Ÿ H a y o):s.TypeIs (.ref a) "dict":=by
 rcases g with⟨d,k,e,_,_⟩|⟨d,k,b,e,_,_,_⟩
 .let#[_,_,h,_,c]:=yfk I.hok e;erw[c.typeIs]
 .let#[_,_,f,_,c]:=yis I.hok e;erw[c.typeIs]
def vdo(td ty:TE):TE:=λσ H Q=>td σ H λx H1=>ty σ H1 λy H2=>∃a v,x=.ref a/\Ÿ H2 a y (some v)/\Q v H2
def vjm(ty td:TE):TE:=λσ H Q=>ty σ H λy H1=>td σ H1 λx H2=>∃a o,x=.ref a/\Ÿ H2 a y o/\Q (.bl o.isSome) H2
def yk1(ty td:TE):TE:=λσ H Q=>ty σ H λy H1=>td σ H1 λx H2=>∃a o,x=.ref a/\Ÿ H2 a y o/\Q (.bl (!o.isSome)) H2
def vdk(td ty tv:TE):TS:=λD σ H=>tv σ H λv H1=>td σ H1 λx H2=>ty σ H2 λy H3=>∃a H4,x=.ref a/\ym4 H3 a y v H4/\D.nx σ H4
end
section
mutual
variable{o i e value:qh}{pos pos' tpos:Pos}{td ty tv:TE}
def yba(hu:X.A.units+1<cLine)(ho:PE X o td)(hi:PE X i ty)(hs:vjd i):PE X (.Subscript o i pos) (vdo td ty):=by refine .mk λb s σ H Q I h=>?_;erw[yv9 PySem.F.slot_dict_getitem.lookup hs (thn (ho b s σ H _ I h) λu m ⟨x,k,q,n,l⟩=>thn (hi b m σ k _ q l) λB z h'=>?_)];let#[y,j,d,p,a,v,e,g,r]:=h';subst e;obtain rfl:u=Value.ref a:=n;erw[yd1 d g,yjv hu d g p λw t f c=>#[v,j,f,c,r]]
def vab(hu:X.A.units+1<cLine)(hi:PE X i ty)(ho:PE X o td):PC X .In i o (vjm ty td):=by intro b s σ H Q I h;erw[thn (hi b s σ H _ I h) λw l ⟨y,f,q,p,k⟩=>thn (ho b l σ f _ q k) λu v h'=>?_];let#[x,e,j,m,a,n,c,g,r]:=h';subst c;obtain rfl:u=Value.ref a:=m;erw[vkg hu j g p λt d=>#[.bl n.isSome,e,d,J,r]]
def ycs(hu:X.A.units+1<cLine)(hi:PE X i ty)(ho:PE X o td):PC X .NotIn i o (yk1 ty td):=by intro b s σ H Q I h;erw[thn (hi b s σ H _ I h) λw l ⟨y,f,q,p,k⟩=>thn (ho b l σ f _ q k) λu v h'=>?_];let#[x,e,j,m,a,n,c,g,r]:=h';subst c;obtain rfl:u=Value.ref a:=m;erw[yvv hu j g p λt d=>#[.bl (!n.isSome),e,d,J,r]]
def ybe(hu:X.A.units+1<cLine)(ho:PE X o td)(hi:PE X i ty)(hv:PE X value tv)(hs:swapsWith value (some (.Subscript o i pos')) pos.line X.env=pure false):
  PS X (.Assign [.Subscript o i pos'] value pos) (vdk td ty tv):=by refine .mk λb s σ H D I h=>?_;erw[wpAny_Assign_Subscript (thn (hv b s σ H _ I h) λr t ⟨v,q,e,p,l⟩=>thn (ho b t σ q _ e l) λu k ⟨x,B,n,w,C⟩=>thn (hi b k σ B _ n C) λς G h'=>?_) hs];let#[y,F,f,z,a,j,c,g,m]:=h';subst c;obtain rfl:u=Value.ref a:=w;erw[yjl hu f g z p λE d=>#[σ,j,d,m]]
end
end
mutual
def yn3{w:qe}{H:Hp}(h:qg)(hb:sysModules<h.objs.size):xn P w H (h.push { cls:=.type "dict",data:=.dict #[]}) h.objs.size (.dK []) :=
 #[bR _,c9.mpr (Ne.symm (bY hb)),[],.nil,Heap.DictOf.new h]
def yom{w:qe}{H:Hp}(h:qg)(hb:sysModules<h.objs.size):xn P w H (h.push { cls:=.type "dict",data:=.dict #[]}) h.objs.size (.dT []) :=
 #[bR _,c9.mpr (Ne.symm (bY hb)),[],.nil,_,#[],0,bC _ J,#[J,J,J],J,J,List.nodup_nil]
def yrx:TE:=λZ H Q=>∀p,H p=none->Q (.ref p) (upd H p (.dK []))
def yqw:TE:=λZ H Q=>∀p,H p=none->Q (.ref p) (upd H p (.dT []))
end
section
mutual
variable{pos:Pos}
def ynw:PE X (.Dict [] [] pos) yrx:=.mk λb s σ H Q I h =>
 wpAny_Dict_empty #[.ref 'n',_,I.laid (a:='n') (o:=.dK []) (t':=s.toks) (λZ Z q=>br _ q) (bx _) (yn3 s.heap I.big),J,h _ (I.hok.fresh (bx _))]
def ya6:PE X (.Dict [] [] pos) yqw:=.mk λb s σ H Q I h =>
 wpAny_Dict_empty #[.ref 'n',_,I.laid (a:='n') (o:=.dT []) (t':=s.toks) (λZ Z q=>br _ q) (bx _) (yom s.heap I.big),J,h _ (I.hok.fresh (bx _))]
end
end
mutual
structure M1(X:Cx)(o:qh)(m:Str)(apos:Pos)(e:qh)(cpos:Pos):Prop where
 base:attributeBase o m X.env (eval o X.env)=eval o X.env
 few:((backTo cpos (starEach [e] X.env)).all (λx=>!x.1) && (backToKw cpos (keywordEach [] X.env)).all (λx=>x.1.isSome)
  && decide (([e]:qj qh).length+([]:qj Keyword).length+(if ([]:qj Keyword).isEmpty then 0 else 1)<30))=true
 line:(apos.endLine == cpos.line)=true
 trees:backTo cpos (starEach [e] X.env)=[(false,eval e X.env)]
structure M2(X:Cx)(o:qh)(m:Str)(apos:Pos)(e f:qh)(cpos:Pos):Prop where
 base:attributeBase o m X.env (eval o X.env)=eval o X.env
 few:((backTo cpos (starEach [e,f] X.env)).all (λx=>!x.1) && (backToKw cpos (keywordEach [] X.env)).all (λx=>x.1.isSome)
  && decide (([e,f]:qj qh).length+([]:qj Keyword).length+(if ([]:qj Keyword).isEmpty then 0 else 1)<30))=true
 line:(apos.endLine == cpos.line)=true
 trees:backTo cpos (starEach [e,f] X.env)=[(false,eval e X.env),(false,eval f X.env)]
def IsD(H:Hp)(a:qa):Prop:=(∃kvs,Rd H a (.dK kvs))\/∃kvs,Rd H a (.dT kvs)
def vav{σ:St}{H:Hp}{s:qb}(I:'i' s)(d:IsD H a):
  s.TypeIs (.ref a) "dict"/\(∀b,Value.ref a=.ref b->∃ob,s.heap.get? b=some ob/\ob.dict=none)/\(a == sysModules)=false:=by
 rcases d with⟨g,e⟩|⟨g,e⟩
 .let#[_,f,j,_,c]:=yfk I.hok e;erw[c.typeIs,λb q=>?_,f];cases q;let#[ob,_,_,i,h,_]:=c;erw[ob,i,h.2.1]
 .let#[_,f,k,_,c]:=yis I.hok e;erw[c.typeIs,λb q=>?_,f];cases q;let#[ob,_,_,i,h,_]:=c;erw[ob,i,h.2.1]
def ysb(td ty:TE):TE:=λσ H Q=>td σ H λx H1=>∃a,x=.ref a/\IsD H1 a/\ty σ H1 λy H2=>∃kvs k v,H2 a=some (.dK kvs)/\y=kV k/\π kvs k=some v/\Q v (upd H2 a (.dK (Ė kvs k)))
end
section
variable{o e f:qh}{apos cpos:Pos}{td ty tx:TE}
def ync(ho:PE X o td)(he:PE X e ty)(m:M1 X o "pop" apos e cpos):PE X (.Call (.Attribute o "pop" apos) [e] [] cpos) (ysb td ty):=by refine .mk λb s σ H Q I h=>?_;erw[wpAny_Call_method m.base m.few m.line PySem.F.plainAttrs_dict PySem.F.slot_dict_pop PySem.F.type_dict_pop (thn (ho b s σ H _ I h) λu w h'=>?_)];let#[x,t,f,z,a,i,d,p]:=h';subst i;obtain rfl:u=Value.ref a:=z;let#[r,j,_]:=vav f d;erw[r,j,?_];rwa[m.trees,Calls.callWith_builtin J (Calls.evalArgs_plain (Calls.spliced_cons (thn (he b w σ t _ f p) λL G ⟨y,ς,q,A,g,k,v,C,B,l,D⟩=>Calls.spliced_nil ?_)))];subst B;erw[vgs q C A l (.inl J) λE K n c=>#[v,_,n,c,D]]
end
mutual
@[irreducible] def QA(X:Cx)(es:qj qh)(t:TA):Prop:=PA X es t
@[irreducible] def QE(X:Cx)(e:qh)(t:TE):Prop:=PE X e t
@[irreducible] def QSs(X:Cx)(st:qj qd)(t:TS):Prop:=PSs X st t
end
section
mutual
variable{e:qh}{es:qj qh}{te:TE}{t:TA}{pos:Pos}{ts us:TS}{w8:qj qd}
def wc(h:PE X e te):QE X e te:=by unfold QE;erw[h]
def ō:QA X [] yhh:=by unfold QA;erw[xo]
def vh(ha:QE X e te)(hr:QA X es t)(h:ybh e=true):QA X (e::es) (yin te t):=by unfold QA at hr⊢;unfold QE at ha;erw[x9 ha hr (xx h)]
def ň(h:QA X es t):QE X (.List es pos) (vif t):=by unfold QA at h;erw[wc (vn h)]
def vj8(h:QE X e te):PE X e te:=by unfold QE at h;erw[h]
end
end
@[irreducible] def QS(X:Cx)(st:qd)(t:TS):Prop:=PS X st t
section
mutual
variable{e:qh}{te:TE}{pos:Pos}{ts us:TS}{w8:qj qd}
def vhq(h:PS X st ts):QS X st ts:=by unfold QS;erw[h]
def ykp(h1:QS X st ts)(h2:PSs X w8 us):PSs X (st::w8) (vga ts us):=by unfold QS at h1;erw[yh h1 h2]
def yi{R:TS->Prop}(h1:PS X st ts)(h2:∃us,PSs X w8 us/\R (vga ts us)):∃t,PSs X (st::w8) t/\R t:=let ⟨_,a,b⟩:=h2;#[_,yh h1 a,b]
def j3{R:TS->Prop}(h1:QS X st ts)(h2:∃us,PSs X w8 us/\R (vga ts us)):∃t,PSs X (st::w8) t/\R t:=let ⟨_,a,b⟩:=h2;#[_,ykp h1 a,b]
def Ŵ{i:Nat}{y:Str}{p:Pos}(hN:X.N.Nodup)(hi:X.N[i]?=some y)(hx:Loc X.env.scope y)(he:QE X e te)(hf:X.fn y=true\/X.env.scope.names.lookup y=some .local)(hs:swapsWith e (some (.Name y p)) pos.line X.env=pure false):QS X (.Assign [.Name y p] e pos) (ywz te (xw i)):=by unfold QE at he;erw[vhq (ö hN hi hx he hs hf)]
end
end
mutual
theorem ya3:∀{bs:qj Bool}{us:Ξ},xc (bs.map V.bl) us->us=bs.map Value.bool
 |[],_,.nil=>rfl
 |b::r,_,.cons a t=>by rw[show _=Value.bool b from a,ya3 t];rfl
def ykn(bs:qj Bool):((List.range bs.length).all λi=>(bs[i]?).getD true)=bs.all id:=by
 rw[Bool.eq_iff_iff,List.all_eq_true,List.all_eq_true]
 constructor
 .intro h b c;let#[i,a,J]:=List.getElem_of_mem c;have:=h i (cG.mpr a);rw[bp a]at this;erw[this]
 .intro h i a;let a:=cG.mp a;rwa[bp a,h _ (bW a)]
def ζ(hc:X.calm=true):θ X (.builtin "all") (λxs H Q=>∃p bs,xs=[.ref p]/\SqL X.K H p (List.map V.bl bs)/\Q (.bl (bs.all id)) H):=by
 intro g s σ H xs E Q I r h;let#[p,bs,J,l,q]:=h;let#[u,J,t]:=Ő r;cases t;let#[n,j,o,C]:=I.list l;obtain rfl:=ya3 j;let f:=o.isList;have c:p<'n':=by let#[_,e,_]:=f;erw[bE e]
 erw[call_all_walk (wpAny_pyIter_list f ?_)]
 erw['n',['n',p],['n'],(bs.map Value.bool).toArray.size,_,_,λi=>(bs[i]?).getD true,J,Walks.list (A:=X.A.in1) (show X.A.handled=none from I.ok.hd hc) _ p (bY c) (bs.map Value.bool).toArray,
  #[#[_,bC _ J,J,J],f.push _],λi v y D z a d=>?_,λB m k=>?_]
 .have a:(bs.map Value.bool)[i]?=some v:=by simpa using a
  rw[bB]at a
  cases e:bs[i]? with
  |none=>rw[e]at a;cases a
  |some b =>
   dsimp only at d;rw[e]at a d;cases a;erw[cI d]
 .have e:((List.range (bs.map Value.bool).toArray.size).all λi=>(bs[i]?).getD true)=bs.all id:=by
   rwa[bF,bo,ykn bs]
  rwa[e,#[.bl (bs.all id),H,I.kept (t':=m) λb x e=>k b x (λw=>?_) (br _ e),J,q]];rw[bO.mp w]at e;erw[cU _ (bE e)]
end
set_option tactic.hygienic true in
mutual
theorem jw{env:Env}:∀{names:qj (Str×NameKind)}{x:Str}{k:NameKind},
  (names.map λ(n,k)=>if (k == NameKind.free && env.scope.kind == .function && env.kindOf n == some .cell)then (n,NameKind.cell)else (n,k)).lookup x=some k->∃k0,(x,k0)∈names/\(k=k0\/k0=.free)
 |[],_,_,h=>by simp at h
 |(n,k1)::r,x,k,h=>by
  rw[cb]at h;by_cases hx:x=n
  .subst hx;erw[k1,.head _,?_];dsimp only at h
   split at h
   .rename_i hc
    simp only[bU,beq_iff_eq]at hc;erw[.inr hc.1.1]
   .simp[List.lookup]at h;erw[.inl h.symm]
  .have:(x == n)=false:=by simpa using hx
   have a:(r.map λ(n,k)=>if (k == NameKind.free && env.scope.kind == .function && env.kindOf n == some .cell)then (n,NameKind.cell)else (n,k)).lookup x=some k:=by
    dsimp only at h
    split at h<;>simpa[List.lookup,this]using h
   let#[k0,m,q]:=jw a;erw[k0,.tail _ m,q]
noncomputable def ę(ys:Ρ)(env:Env):qj (Str×qa):=ys.map λy=>(y,(env.cells.lookup y).getD 0)
theorem yf8{env:Env}:∀{ys:Ρ}{y:Str}{c:qa},(ę ys env).lookup y=some c->y∈ys/\c=(env.cells.lookup y).getD 0
 |[],_,_,h=>by simp[ę]at h
 |z::r,y,c,h=>by
  by_cases hy:y=z
  .subst hy;simp[ę,List.lookup]at h;erw[.head _,h.symm]
  .have b:(y == z)=false:=by simpa using hy
   have a:(ę r env).lookup y=some c:=by simpa[ę,List.lookup,b]using h
   let#[m,e]:=yf8 a;erw[.tail _ m,e]
theorem yav{env:Env}:∀{ys:Ρ}{y:Str},y∈ys->(ę ys env).lookup y=some ((env.cells.lookup y).getD 0)
 |z::r,y,h=>by
  by_cases hy:y=z
  .subst hy;simp[ę,List.lookup]
  .have b:(y == z)=false:=by simpa using hy
   have a:y∈r:=by
    rcases bH.mp h with q|q
    .erw[absurd q hy]
    .erw[q]
   have:=yav (env:=env) a;simpa[ę,List.lookup,b]using this
abbrev Cx.compF(X:Cx)(scope:Scope)(ys:Ρ)(C:qa)(x:Str)(s2:qb)(H2:Hp)(fp:Φ):Cx :=
 {X with N:=x::ys,s₀:=s2,H₀:=H2,env:=compEnvC scope (ę ys X.env) C X.env,outer:=X.stack,ex:=fp,fn:=λZ=>false,pn:=[],xe:=λZ Z=>False}
def jc(ς:It)(te:TE)(fr:St)(D:qa)(R:Hp->Prop)(H1:Hp):Prop:=∃W:Nat->Nat->Hp->Prop,(∃m,W 0 m (upd H1 D (.lst [])))/\
 ∀i m H2,W i m H2->(ς.stop i H2/\R H2)\/(ς.go i H2/\∀x H3,ς.yld i H2 x H3->te (some x::fr) H3 λy H4=>∃ys,H4 D\ys/\ys.length<sizeLine/\∃m',m'<m/\W (i+1) m' (upd H4 D (.lst (ys++[y]))))
noncomputable def uy(js:qj Nat)(σ:St):St:=js.map λj=>(σ[j]?).getD none
def yl7(wi:TI)(te:TE)(js:qj Nat):TE:=λσ H Q=>wi σ H λς H1=>∀D,H1 D=none->jc ς te (uy js σ) D (λH2=>Q (.ref D) H2) H1
end
section
mutual
variable{iter elt:qh}{x:Str}{px pos:Pos}{te:TE}{wi:TI}{σ:St}{ys:Ρ}{js:qj Nat}
def ytq{H:Hp}{Q:VK}(h:wi σ H λς H1=>∀D,H1 D=none->jc ς te (uy js σ) D (λH2=>Q (.ref D) H2) H1):yl7 wi te js σ H Q:=h
def š{K:xy}{xs:Τ}{fr:St}{R:Hp->Prop}{H1:Hp}(Pv:Nat->Hp->Prop)(h0:Pv 0 (upd H1 D (.lst [])))(hl:∀i H,i<=xs.length->Pv i H->SqL K H a xs)
  (hs:∀i x H,xs[i]?=some x->i<xs.length->Pv i H->te (some x::fr) H λy H4=>∃ys,H4 D\ys/\ys.length<sizeLine/\∃m',m'<xs.length-i/\cW xs.length Pv (i+1) m' (upd H4 D (.lst (ys++[y]))))
  (hd:∀H,Pv xs.length H->R H):jc (Itl K a) te fr D R H1:=by
 erw[cW xs.length Pv,#[xs.length,'s',bR _,h0],?_];rintro i m H ⟨rfl,b,p⟩;let q:=hl i H b p;by_cases hlt:i<xs.length
 .erw[.inr #[#[xs,xs[i],q,by simp[hlt]],λx c y=>?_]];let#[e,y]:=y;subst e;erw[hs i x _ (y xs q) hlt p]
 .have e:i=xs.length:=()
  subst e;erw[.inl #[#[xs,q,bx _],hd H p]]
def ε{lo:Int}{n:Nat}{fr:St}{R:Hp->Prop}{H1:Hp}(Pv:Nat->Hp->Prop)(h0:Pv 0 (upd H1 D (.lst [])))
  (hs:∀i H,i<n->Pv i H->te (some (.int (lo+i))::fr) H λy H4=>∃ys,H4 D\ys/\ys.length<sizeLine/\∃m',m'<n-i/\cW n Pv (i+1) m' (upd H4 D (.lst (ys++[y]))))
  (hd:∀H,Pv n H->R H):jc (Itr lo n) te fr D R H1:=by
 erw[cW n Pv,#[n,'s',bR _,h0],?_];rintro i m H ⟨rfl,a,p⟩;by_cases hlt:i<n
 .erw[.inr #[hlt,λx b y=>?_]];let#[e,y]:=y;subst e y;erw[hs i _ hlt p]
 .have e:i=n:=()
  subst e;erw[.inl #[bx _,hd H p]]
end
end
end L2
namespace L2
def yv{α:Type}{P:α->Prop}:∀y∈([]:qj α),P y:=λZ h=>nomatch h
def all_cons{α:Type}{P:α->Prop}{y:α}{r:qj α}(h:P y)(t:∀z∈r,P z):∀z∈y::r,P z:=λz a=>by
 rcases bH.mp a with e|a
 .erw[e ▸ h]
 .erw[t z a]
open PySem PySem.Spec PyProof.Rows
section
mutual
variable{X:Cx}
theorem ygh:∀{ns:Ο}{us:Ξ},xc (ns.map V.int) us->∃xs:Array (Int×Tok),us.toArray=intItems xs/\xs.toList.map (·.1)=ns
 |[],_,.nil=>#[#[],by simp[intItems],J]
 |n::r,_,.cons (l₂:=us) a t=>by
  let#[c,J]:=a;let#[xs,d,b]:=ygh t;erw[((n,c)::xs.toList).toArray,?_,by simp[b]]
  have:us=(intItems xs).toList:=by rw[<- d]
  rw[this];simp[intItems]
def ñ(hc:X.calm=true):θ X (.builtin "sum") (λvs H Q=>∃p ns,vs=[.ref p]/\SqL X.K H p (List.map V.int ns)/\Q (.int ns.sum) H):=by intro a s σ H t o Q I r h;let#[p,ns,J,d,q]:=h;let#[u,J,l]:=Ő r;cases l;let#[g,e,k,v]:=I.list d;let#[i,j,m]:=ygh e;have f:s.heap.IsList p (intItems i):=j ▸ k.isList;erw[sum_intListG (I.ok.hd hc) f λn c t' b=>?_];rwa[preSum_eq,cE 's',m,#[.int ns.sum,H,I.kept (t':=c) b,#[_,J],q]]
end
end
variable{it:qa}{fp:Φ}{i:Nat}{tn:Nat->qg->Prop}{s2:qb}
section
mutual
variable{X:Cx}{e:qh}{t1 t2:TE}
def ypl(t1 t2:TE):TE:=λσ H Q=>t1 σ H Q\/t2 σ H Q
def ò(h1:PE X e t1)(h2:PE X e t2):PE X e (ypl t1 t2):=by
 erw[.mk λa s σ H Q I h=>?_];rcases h with h|h
 .erw[h1 a s σ H Q I h]
 .erw[h2 a s σ H Q I h]
def Ô{σ:St}{H:Hp}{Q:VK}(h:t1 σ H Q):ypl t1 t2 σ H Q:=.inl h
def j7{σ:St}{H:Hp}{Q:VK}(h:t2 σ H Q):ypl t1 t2 σ H Q:=.inr h
end
end
def yj{H:Hp}{p:qa}{o:HO}{A:Hp->Prop}(hp:H p=none)(h:∀H',yu H H'->H' p=some o->A H'):A (upd H p o):=h _ (yz hp) ya
def yf{α:Type}{H:Hp}{p:qa}{o:HO}{A:Hp->α->Prop}{Q:α}(hp:H p=none)(h:∀H',yu H H'->H' p=some o->A H' Q):A (upd H p o) Q:=h _ (yz hp) ya
section
mutual
variable{K:xy}{a D:qa}{xs:Τ}{te:TE}{fr:St}{R:Hp->Prop}{H1:Hp}
def ycv(Pv:Nat->Hp->Prop)(h0:Pv 0 (upd H1 D (.lst [])))(hl:∀i H,i<=xs.length->Pv i H->SqT K H a xs)
  (hs:∀i x H,xs[i]?=some x->i<xs.length->Pv i H->te (some x::fr) H λy H4=>∃ys,H4 D\ys/\ys.length<sizeLine/\∃m',m'<xs.length-i/\cW xs.length Pv (i+1) m' (upd H4 D (.lst (ys++[y]))))
  (hd:∀H,Pv xs.length H->R H):jc (Itt K a) te fr D R H1:=by
 erw[cW xs.length Pv,#[xs.length,'s',bR _,h0],?_];rintro i m H ⟨rfl,b,p⟩;let q:=hl i H b p;by_cases hlt:i<xs.length
 .erw[.inr #[#[xs,xs[i],q,by simp[hlt]],λx c y=>?_]];let#[e,y]:=y;subst e;erw[hs i x _ (y xs q) hlt p]
 .have e:i=xs.length:=()
  subst e;erw[.inl #[#[xs,q,bx _],hd H p]]
def ypi(Pv:Nat->Hp->Prop)(h0:Pv 0 (upd H1 D (.lst [])))(hl:∀i H,i<=xs.length->Pv i H->SqT K H a xs)
  (hs:∀i x H,xs[i]?=some x->i<xs.length->Pv i H->te [some x] H λy H4=>∃ys,H4 D\ys/\ys.length<sizeLine/\∃m',m'<xs.length-i/\cW xs.length Pv (i+1) m' (upd H4 D (.lst (ys++[y]))))
  (hd:∀H,Pv xs.length H->R H):yhd (Itt K a) te D R H1:=by
 erw[cW xs.length Pv,#[xs.length,'s',bR _,h0],?_];rintro i m H ⟨rfl,b,p⟩;let q:=hl i H b p;by_cases hlt:i<xs.length
 .erw[.inr #[#[xs,xs[i],q,by simp[hlt]],λx c y=>?_]];let#[e,y]:=y;subst e;erw[hs i x _ (y xs q) hlt p]
 .have e:i=xs.length:=()
  subst e;erw[.inl #[#[xs,q,bx _],hd H p]]
def Mp(H1:Hp)(D:qa)(f:Nat->V)(i:Nat)(H:Hp):Prop:=yu H1 H/\H D\((List.range i).map f)
def Mp.zero{f:Nat->V}(hD:H1 D=none):Mp H1 D f 0 (upd H1 D (.lst [])):=#[yz hD,ya]
def Mp.step{f:Nat->V}{n:Nat}{H4:Hp}{y:V}(hD:H1 D=none)(hn:n<sizeLine)(hi:i<n)(S:yu H1 H4)(h4:H4 D\((List.range i).map f))(e:y=f i):
  ∃ys,H4 D\ys/\ys.length<sizeLine/\∃m',m'<n-i/\cW n (Mp H1 D f) (i+1) m' (upd H4 D (.lst (ys++[y]))):=by
 erw[xu (n:=n) h4 (by rw[bo,b9];omega) hi #[?_,?_]]
 .intro b o a;rwa[yn (yb a hD),S b o a]
 .rw[ya,List.range_succ,bA,e];rfl
def ŀ{f:Nat->V}{g:V->V}(h:∀i x,xs[i]?=some x->f i=g x):(List.range xs.length).map f=xs.map g:=by
 erw[List.ext_getElem? λi=>?_];rw[bB,bB];by_cases hi:i<xs.length
 .rw[cQ hi,bp hi];show some (f i)=some (g xs[i]);rw[h i _ (bp hi)]
 .rw[ci (by rw[b9];omega),ci ()];rfl
noncomputable def ofG(g:V->V)(xs:Τ)(i:Nat):V:=((xs[i]?).map g).getD .non
def ygy{g:V->V}{x:V}(h:xs[i]?=some x):ofG g xs i=g x:=by unfold ofG;rw[h];rfl
def MpK(H1:Hp)(D:qa)(f:Nat->V)(n i:Nat):VK:=λy H4=>∃ys,H4 D\ys/\ys.length<sizeLine/\∃m',m'<n-i/\cW n (Mp H1 D f) (i+1) m' (upd H4 D (.lst (ys++[y])))
def Mp.done{g:V->V}{x y:V}{H4:Hp}(hD:H1 D=none)(hn:xs.length<sizeLine)(hx:xs[i]?=some x)(S:yu H1 H4)(h4:H4 D\((List.range i).map (ofG g xs)))(e:y=g x):MpK H1 D (ofG g xs) xs.length i y H4:=by
 have a:i<xs.length:=by
  rcases Nat.lt_or_ge i xs.length with q|q
  .erw[q]
  .rw[ci q]at hx;cases hx
 erw[Mp.step hD hn a S h4 (e.trans (ygy hx).symm)]
def Mp.doneR{f:Nat->V}{n:Nat}{y:V}{H4:Hp}(hD:H1 D=none)(hn:n<sizeLine)(hi:i<n)(S:yu H1 H4)(h4:H4 D\((List.range i).map f))(e:y=f i):MpK H1 D f n i y H4:=Mp.step hD hn hi S h4 e
def İ(g:V->V)(hq:SqL K H1 a xs)(hD:H1 D=none)
  (hs:∀i x H,xs[i]?=some x->yu H1 H->H D\((List.range i).map (ofG g xs))->te (some x::fr) H (MpK H1 D (ofG g xs) xs.length i))
  (hd:∀H,yu H1 H->H D\(xs.map g)->R H):jc (Itl K a) te fr D R H1 :=
 š (Mp H1 D (ofG g xs)) (Mp.zero hD) (λZ Z Z p=>p.1.seq hq) (λi x H b c p=>hs i x H b p.1 p.2)
  λH p=>hd H p.1 (by rwa[<- ŀ (f:=ofG g xs) λi x=>ygy,p.2])
def ũ(g:V->V)(hq:SqT K H1 a xs)(hD:H1 D=none)
  (hs:∀i x H,xs[i]?=some x->yu H1 H->H D\((List.range i).map (ofG g xs))->te (some x::fr) H (MpK H1 D (ofG g xs) xs.length i))
  (hd:∀H,yu H1 H->H D\(xs.map g)->R H):jc (Itt K a) te fr D R H1 :=
 ycv (Mp H1 D (ofG g xs)) (Mp.zero hD) (λZ Z Z p=>p.1.tup hq) (λi x H b c p=>hs i x H b p.1 p.2)
  λH p=>hd H p.1 (by rwa[<- ŀ (f:=ofG g xs) λi x=>ygy,p.2])
def yko(g:V->V)(hq:SqT K H1 a xs)(hD:H1 D=none)
  (hs:∀i x H,xs[i]?=some x->yu H1 H->H D\((List.range i).map (ofG g xs))->te [some x] H (MpK H1 D (ofG g xs) xs.length i))
  (hd:∀H,yu H1 H->H D\(xs.map g)->R H):yhd (Itt K a) te D R H1 :=
 ypi (Mp H1 D (ofG g xs)) (Mp.zero hD) (λZ Z Z p=>p.1.tup hq) (λi x H b c p=>hs i x H b p.1 p.2)
  λH p=>hd H p.1 (by rwa[<- ŀ (f:=ofG g xs) λi x=>ygy,p.2])
def yb6{lo:Int}{n:Nat}(f:Nat->V)(hD:H1 D=none)
  (hs:∀i H,i<n->yu H1 H->H D\((List.range i).map f)->te (some (.int (lo+i))::fr) H (MpK H1 D f n i))
  (hd:∀H,yu H1 H->H D\((List.range n).map f)->R H):jc (Itr lo n) te fr D R H1 :=
 ε (Mp H1 D f) (Mp.zero hD) (λi H a p=>hs i H a p.1 p.2) λH p=>hd H p.1 p.2
def ytn{tr:TA}{σ:St}{H:Hp}{R:It->Hp->Prop}(h:tr σ H λvs H1=>∃i j:Int,vs=[.int i,.int j]/\(-(2^62)<=i/\i<2^62/\-(2^62)<=j/\j<2^62)/\R (Itr i (j-i).toNat) H1):vd8 tr σ H R:=h
end
end
mutual
structure Mk0(K:xy)(C:qa):Prop where
 makes:W.makesIn K C=true
 init:W.findIn K (.ref C) "__init__"=some (some (.builtin "object.__init__"))
 kp:W.keepIn K (.ref C)=true
abbrev Cx.compT(X:Cx)(scope:Scope)(ys:Ρ)(C:qa)(xs:Ρ)(s2:qb)(H2:Hp)(fp:Φ):Cx :=
 {X with N:=xs++ys,s₀:=s2,H₀:=H2,env:=compEnvC scope (ę ys X.env) C X.env,outer:=X.stack,ex:=fp,fn:=λZ=>false,pn:=[],xe:=λZ Z=>False}
variable{X:Cx}
def ß(ς:It)(g:TG)(te:TE)(n:Nat)(fr:St)(D:qa)(R:Hp->Prop)(H1:Hp):Prop:=∃W:Nat->Nat->Hp->Prop,(∃m,W 0 m (upd H1 D (.lst [])))/\
 ∀i m H2,W i m H2->(ς.stop i H2/\R H2)\/(ς.go i H2/\∀x H3 pre,ς.yld i H2 x H3->List.length pre=n->g x (pre++fr) H3 λσ' H'=>(∃pre',List.length pre'=n/\σ'=pre'++fr)/\te σ' H' λy H4=>∃ys,H4 D\ys/\ys.length<sizeLine/\∃m',m'<m/\W (i+1) m' (upd H4 D (.lst (ys++[y]))))
def yly(wi:TI)(g:TG)(te:TE)(n:Nat)(js:qj Nat):TE:=λσ H Q=>wi σ H λς H1=>∀D,H1 D=none->ß ς g te n (uy js σ) D (λH2=>Q (.ref D) H2) H1
def PTs(X:Cx)(ifs:qj qh)(t:TT):Prop:=∀(pins:Θ)(s:qb)(σ:St)(H:Hp)(Q:Bool->Hp->Prop),'i' s->t σ H Q ->
 wpAny (model X.prog X.w) X.A (forIn ifs true λc r=>if r=true then do let ok <- isTrue c X.env (eval c X.env);pure (ForInStep.yield ok)else pure (ForInStep.yield r)) (TP X pins σ Q) X.xe s
def vi4:TT:=λZ H Q=>Q true H
def yun:PTs X [] vi4:=λZ Z σ H Z I h=>bv #[H,I,h]
def yti{c:qh}{t:TT}(h:PT X c t):PTs X [c] t:=λa s σ H Q I q=>wpAny_tests_one (h a s σ H Q I q)
def yk5(ς:It)(g:TG)(tt:TT)(te:TE)(n:Nat)(fr:St)(D:qa)(R:Hp->Prop)(H1:Hp):Prop:=∃W:Nat->Nat->Hp->Prop,(∃m,W 0 m (upd H1 D (.lst [])))/\
 ∀i m H2,W i m H2->(ς.stop i H2/\R H2)\/(ς.go i H2/\∀x H3 pre,ς.yld i H2 x H3->List.length pre=n->g x (pre++fr) H3 λσ' H'=>(∃pre',List.length pre'=n/\σ'=pre'++fr)/\tt σ' H' λb H4=>if b=true then te σ' H4 (λy H5=>∃ys,H5 D\ys/\ys.length<sizeLine/\∃m',m'<m/\W (i+1) m' (upd H5 D (.lst (ys++[y]))))else ∃m',m'<m/\W (i+1) m' H4)
end
section
mutual
variable{iter elt tg:qh}{xs:Ρ}{g:TG}{pos:Pos}{scope:Scope}{te:TE}{wi:TI}{ifs:qj qh}{tt:TT}{pins:Θ}{σ:St}{ys:Ρ}{js:qj Nat}
def Ū{H2:Hp}{ς:It}(hc:X.calm=true)
  (ht:∀(C:qa)(s2:qb)(H2:Hp)(fp:Φ),PTs (X.compT scope ys C xs s2 H2 fp) ifs tt) (he:∀(C:qa)(s2:qb)(H2:Hp)(fp:Φ),PE (X.compT scope ys C xs s2 H2 fp) elt te)
  (hgt:∀(C:qa)(s2:qb)(H2:Hp)(fp:Φ),PG (X.compT scope ys C xs s2 H2 fp) tg g)
  (hcell:∀y∈scope.names,y.2≠.cell) (hkind:scope.kind=.function)
  (hfr:∀y∈scope.names,y.2=.free->y.1∈ys) (hyc:∀y∈ys,X.env.kindOf y=some .cell) (hrel:∀y∈ys,(relabel scope X.env).names.lookup y=some .cell) (hjs:js.map (λj=>X.N[j]?)=ys.map some)
  (I2:Inv X pins σ H2 s2) (T:yhi X.prog X.w X.K tg ς fp it tn) (st2:tn 0 s2.heap) (f2:∀b∈fp,ydn X pins H2 b)
  {R:qa->Hp->Prop} (h:∀D,H2 D=none->yk5 ς g tt te xs.length (uy js σ) D (R D) H2) {RR:qc->qa->Result->qb->Prop} {E:Δ}
  (hR:∀(D C:qa)(H':Hp)(s':qb)(m:Ε),ydn X pins H' C->s'.heap.Ns C m->Inv X pins σ H' s'->R D H'->RR (.ref D) C (.ok .next) s'):
  wpAny (model X.prog X.w) X.A (newList []) (λacc s₃=>'w' (newFunctionEnv scope X.env.globals (ę ys X.env) [] X.env.qual none .none (some X.env)) (λcenv s₄ =>
   codeAny (model X.prog X.w) X.A (.compStart (.ListComp elt [#[tg,iter,ifs,0]] scope pos) 0 (.ref it) acc {cenv with scope:=relabel scope X.env}) (RR acc cenv.locals) s₄) E s₃) E s2:=by
 have k:∀y c,(ę ys X.env).lookup y=some c->X.env.cells.lookup y=some c:=λy c e=>by
  let#[m,J]:=yf8 e;let#[c',q]:=I2.ok.has y (.inl (hyc y m));rw[q];rfl
 erw[wpAny_newObj_type (wpAny_newFunctionEnv hcell (by intro y hy;simp at hy) (λh₁ hns₁ hsb₁=>?_) hkind)];dsimp only at hns₁ hsb₁⊢;generalize U:s2.heap.push { cls:=.type "list",dict:=none,data:=.seq ([]:Ξ).toArray}=G at hns₁ hsb₁⊢;have hC:G.objs.size=s2.heap.objs.size+1:=by rw[<- U,Heap.size_push]
 have a6:s2.heap.objs.size≠G.objs.size:=by rwa[hC,bY (Nat.lt_succ_self _)]
 have L:s2.heap.objs.size<=G.objs.size:=by rwa[hC,Nat.le_succ _]
 have f:∀b,b<s2.heap.objs.size->b≠G.objs.size/\b≠s2.heap.objs.size:=λb a=>#[by rwa[hC,bY (Nat.lt_succ_of_lt a)],bY a];have F:∀b o,s2.heap.get? b=some o->h₁.get? b=some o:=λb o e=>hsb₁.extBut b o (f b (bE e)).1 (br _ (U ▸ br _ e));have a3:h₁.get? s2.heap.objs.size=some { cls:=.type "list",data:=.seq ([]:Ξ).toArray}:=hsb₁.extBut _ _ a6 (br _ (U ▸ bC _ J));have Z:∀b∈fp,b<s2.heap.objs.size:=λb a=>let ⟨_,e,_⟩:=T.obj 0 _ st2 b a;bE e;have a5:∀b∈fp,b∉frs X.stack:=λb a z=>(bH.mp (I2.stkSub b z)).elim (f2 b a).2.1 (f2 b a).2.2.1;have nC:H2 G.objs.size=none:=I2.hok.fresh L;have nD:H2 s2.heap.objs.size=none:=I2.hok.fresh (bx _)
 have B:∀y c,(ę ys X.env).lookup y=some c->∃v o,s2.heap.get? c=some o/\o.data=.cell v:=λy c e=>by
  let#[v,o,q1,q2]:=I2.cell y c (k y c e);erw[v,o,q1,q2]
 have aa:(X.compT scope ys G.objs.size xs s2 H2 fp).Ok:=by
  erw[I2.ok.mod,hkind,I2.ok.glob,I2.ok.blt,L,λy z c e Y=>I2.ok.inj y z c (k y c e) (k z c Y),λy e=>?_,λy c z e=>(by cases z),I2.ok.hd,I2.ok.frames,.inl J,λb a=>#[(f b (Z b a)).1,λy c e=>(f2 b a).2.2.2.2.1 y c (k y c e)],I2.bs,?_,λb o e a=>?_,λb a=>a5 b a,I2.stack,I2.stkFree]
  .have Y:(relabel scope X.env).names.lookup y=some .cell\/(relabel scope X.env).names.lookup y=some .free:=e
   have ab:y∈ys:=by
    rcases Y with Y|Y
    .let#[k0,m,q]:=jw Y;rcases q with q|q
     .erw[absurd q.symm (hcell _ m)]
     .erw[hfr _ m q]
    .let#[k0,m,q]:=jw Y;rcases q with q|q
     .erw[hfr _ m q.symm]
     .erw[hfr _ m q]
   erw[_,yav ab]
  .erw[ck I2.ok.bsz I2.sz]
  .rcases (f2 b a).2.2.2.1 with z|z
   .erw[I2.ok.noex b o e z]
   .erw[absurd (bZ (bE (I2.ok.bs b o e).1) z) (cU _)]
 have a1:(uy js σ).length=ys.length:=by
  have:=congrArg List.length hjs;simpa[uy]using this
 have I3:∀tk,Inv (X.compT scope ys G.objs.size xs s2 H2 fp) [] (List.replicate xs.length none++uy js σ) (upd H2 s2.heap.objs.size (.lst [])) {s2 with heap:=h₁,toks:=tk}:=λtk =>
  #[aa,J,I2.bare,Un.laid F (bx _) nD,#[_,hns₁,λi y v e1 P e3=>by
    by_cases hi0:i<xs.length
    .rw[c8 (by simpa using hi0),List.getElem?_replicate,if_pos hi0]at P;cases P
    .obtain⟨i,rfl⟩:∃i',i=xs.length+i':=#[i-xs.length,()];have e1:ys[i]?=some y:=by rw[cB ()]at e1;simpa using e1
     have P:(uy js σ)[i]?=some (some v):=by rw[cB 's']at P;simpa using P
     have hy:y∈ys:=bM e1;let S:=congrArg (λl=>l[i]?) hjs;simp only[bB,e1,cS]at S
     cases q:js[i]? with
     |none=>rw[q]at S;cases S
     |some j =>
      rw[q]at S;have S:X.N[j]?=some y:=by simpa using S
      have es:σ[j]?=some (some v):=by
       simp only[uy,bB,q,cS,Option.some.injEq]at P
       cases r:σ[j]? with
       |none=>rw[r]at P;cases P
       |some w'=>rw[r]at P;rw[show w'=some v from P]
      let#[m0,_,a8]:=I2.loc;let#[u,ru,lk]:=a8 j y v S es (.inr (.inl (hyc y hy)));erw[u,ru,.inr #[.inl (hrel y hy),?_]];rcases lk with⟨k1,_⟩|⟨_,c,ec,o,ho,hd⟩
      .rw[hyc y hy]at k1;cases k1
      .erw[c,?_,o,F c o ho,hd];show (ę ys X.env).lookup y=some c;rw[yav hy,ec]
       rfl],λy c e=>(by
    let#[v,o,q1,q2]:=B y c e
    erw[v,o,F c o q1,q2]),(by show upd H2 s2.heap.objs.size _ G.objs.size=none;rwa[yn a6.symm,nC]),λy c e=>(by
    let#[v,o,q1,q2]:=B y c e;show upd H2 s2.heap.objs.size _ c=none;rw[yn (f c (bE q1)).2]
    erw[I2.freeC y c (k y c e)]),λp hp=>(by simp at hp),
   I2.hok.laid F (bx _) #[bR _,[],_,.nil,a3],by show (List.replicate xs.length none++uy js σ).length=(xs++ys).length;simp[a1]]
 have M:∀{H':Hp},(∀b∈fp,H' b=none)->∀b∈fp,ydn (X.compT scope ys G.objs.size xs s2 H2 fp) [] H' b:=λhn b a=>#[hn b a,(f b (Z b a)).1,a5 b a,.inl a,λy c e=>(f2 b a).2.2.2.2.1 y c (k y c e),λp hp=>(by simp at hp)]
 have Q:∀tk,codeAny (model X.prog X.w) X.A (.compLoop (.ListComp elt [#[tg,iter,ifs,0]] scope pos) 0 (.ref it) (.ref s2.heap.objs.size) (compEnvC scope (ę ys X.env) G.objs.size X.env)) (RR (.ref s2.heap.objs.size) G.objs.size) {s2 with heap:=h₁,toks:=tk}:=by
  intro tk;let#[W,#[m0,w0],a7]:=h s2.heap.objs.size nD;refine codeAny_loop J (λn s'=>∃i v H',List.length v=xs.length/\Inv (X.compT scope ys G.objs.size xs s2 H2 fp) [] (v++uy js σ) H' s'/\tn i s'.heap/\(∀b∈fp,H' b=none)/\W i n H') (λn s' hI=>?_) m0
   #[0,List.replicate xs.length none,_,'s',I3 tk,T.keep 0 _ _ st2 (λb a o e=>F b o e),λb a=>(by rwa[yn (f b (Z b a)).2,(f2 b a).1]),w0]
  let#[i,v,H',hv,I,st,fr,w]:=hI;show wpAny _ _ ((compTurn (.ListComp elt [#[tg,iter,ifs,0]] scope pos) 0 (.ref it) (.ref s2.heap.objs.size) (compEnvC scope (ę ys X.env) G.objs.size X.env)).onRaise (λx=>do noteFrame x (compEnvC scope (ę ys X.env) G.objs.size X.env);theTreesLotGoes x)) _ _ s';erw[wpAny_noted ?_];rwa[compTurn_list,bj (wpAny_standAt (bj ?_))];rcases a7 i n H' w with⟨a4,q⟩|⟨go,a2⟩
  .erw[thn (T.done (X.compT scope ys G.objs.size xs s2 H2 fp) J J J hc i [] s' (v++uy js σ) H' _ I (M fr) st a4) λr s4 ⟨hr,I4⟩=>?_];subst hr;erw[bv ?_];let#[m,hn,_]:=I4.loc;erw[hR _ _ H' s4 m (I2.fpOk L I4.free) hn (I2.call' (ch:=fp) I4.os I4.base I4.hok I4.bare λb a=>#[(f2 b a).2.2.2.1,(f2 b a).2.1,(f2 b a).2.2.2.2.1,(f2 b a).2.2.2.2.2]) q]
  .erw[thn (T.item (X.compT scope ys G.objs.size xs s2 H2 fp) J J J hc i [] s' (v++uy js σ) H' _ I (M fr) st go) λr s4 ⟨u,hr,h4⟩=>?_];subst hr;erw[bj (thn h4 λN s5 ⟨y,H5,I5,r5,y5,H,a9⟩=>bj ?_)];let ac:=I5.pinned (M a9) (T.obj _ _ H);erw[vgl (hgt _ _ _ _ _ s5 (v++uy js σ) H5 y u _ ac r5 (a2 y H5 v y5 hv)) λN s6 ⟨σ',H6,I6,⟨t,a0,ep⟩,q6⟩=>?_];subst ep;refine bj (vgl (ht _ _ _ _ _ s6 (t++uy js σ) H6 _ I6 q6) λb s7 ⟨H7,I7,q7⟩=>?_)
   cases b with
   |false =>
    let#[m',hm,w']:=q7
    have O:∀b∈fp,∀o,s5.heap.get? b=some o->s7.heap.get? b=some o/\H7 b=none:=λb a o e =>
     #[(I7.pin (b,o) (bP _ (bP _ (zw a e)))).1,(I7.pin (b,o) (bP _ (bP _ (zw a e)))).2.1]
    erw[bv #[J,m',hm,i+1,t,_,a0,I7.unpinned,T.keep _ _ _ H λb a o e=>(O b a o e).1,λb a=>?_,w']];let#[o,e,d]:=T.obj _ _ H b a;erw[(O b a o e).2]
   |true =>
    erw[bj (bj (vgl (he _ _ _ _ _ s7 (t++uy js σ) H7 _ I7 q7) λu2 s7 ⟨y2,H7,I7,r7,zs,hD,hl,m',hm,w'⟩=>bj ?_)),<-vgl (xt _ s7 (t++uy js σ) H7 (.ref s2.heap.objs.size) [y2] (.ref s2.heap.objs.size) [u2] (λN H8=>H8=upd H7 s2.heap.objs.size (.lst (zs++[y2]))) I7 J (.cons r7 .nil) #[_,zs,y2,J,J,hD,hl,J]) λN s8 h'=>?_];let#[_,H8,I8,_,e8]:=h';subst e8
    have O:∀b∈fp,∀o,s5.heap.get? b=some o->s8.heap.get? b=some o/\upd H7 s2.heap.objs.size (HO.lst (zs++[y2])) b=none:=λb a o e =>
     #[(I8.pin (b,o) (bP _ (bP _ (zw a e)))).1,(I8.pin (b,o) (bP _ (bP _ (zw a e)))).2.1]
    erw[bv (bv #[J,m',hm,i+1,t,_,a0,I8.unpinned,T.keep _ _ _ H λb a o e=>(O b a o e).1,λb a=>?_,w'])];let#[o,e,d]:=T.obj _ _ H b a;erw[(O b a o e).2]
 erw[codeAny_compStart_list (Q _) (T.self X.A 0 _ _ _ (T.keep 0 _ _ st2 (λb a o e=>F b o e)) (Q _))]
def ÿ{H2:Hp}{ς:It}(hc:X.calm=true)
  (he:∀(C:qa)(s2:qb)(H2:Hp)(fp:Φ),PE (X.compT scope ys C xs s2 H2 fp) elt te)
  (hgt:∀(C:qa)(s2:qb)(H2:Hp)(fp:Φ),PG (X.compT scope ys C xs s2 H2 fp) tg g)
  (hcell:∀y∈scope.names,y.2≠.cell) (hkind:scope.kind=.function)
  (hfr:∀y∈scope.names,y.2=.free->y.1∈ys) (hyc:∀y∈ys,X.env.kindOf y=some .cell) (hrel:∀y∈ys,(relabel scope X.env).names.lookup y=some .cell) (hjs:js.map (λj=>X.N[j]?)=ys.map some)
  (I2:Inv X pins σ H2 s2) (T:yhi X.prog X.w X.K tg ς fp it tn) (st2:tn 0 s2.heap) (f2:∀b∈fp,ydn X pins H2 b)
  {R:qa->Hp->Prop} (h:∀D,H2 D=none->ß ς g te xs.length (uy js σ) D (R D) H2) {RR:qc->qa->Result->qb->Prop} {E:Δ}
  (hR:∀(D C:qa)(H':Hp)(s':qb)(m:Ε),ydn X pins H' C->s'.heap.Ns C m->Inv X pins σ H' s'->R D H'->RR (.ref D) C (.ok .next) s'):
  wpAny (model X.prog X.w) X.A (newList []) (λacc s₃=>'w' (newFunctionEnv scope X.env.globals (ę ys X.env) [] X.env.qual none .none (some X.env)) (λcenv s₄ =>
   codeAny (model X.prog X.w) X.A (.compStart (.ListComp elt [#[tg,iter,[],0]] scope pos) 0 (.ref it) acc {cenv with scope:=relabel scope X.env}) (RR acc cenv.locals) s₄) E s₃) E s2 :=
 Ū (tt:=vi4) hc (λZ Z Z Z=>yun) he hgt hcell hkind hfr hyc hrel hjs I2 T st2 f2 (λD l=>by
  let#[W,k,c]:=h D l;erw[W,k,λi m H w=>(c i m H w).imp id λ⟨f,a⟩=>#[f,λx n d y e=>?_],<-a x n d y e]) hR
def yfq(hc:X.calm=true)(hi:PI X tg iter wi)(he:∀(C:qa)(s2:qb)(H2:Hp)(fp:Φ),PE (X.compT scope ys C xs s2 H2 fp) elt te)(hjs:js.map (λj=>X.N[j]?)=ys.map some)
  (hgt:∀(C:qa)(s2:qb)(H2:Hp)(fp:Φ),PG (X.compT scope ys C xs s2 H2 fp) tg g)
  (hclos:closureFor scope X.env=pure (ę ys X.env)) (hyc:∀y∈ys,X.env.kindOf y=some .cell) (hrel:∀y∈ys,(relabel scope X.env).names.lookup y=some .cell)
  (hfr:↥(∀y∈scope.names,y.2=.free->y.1∈ys)) (hcell:↥(∀y∈scope.names,y.2≠.cell)) (hkind:↑(scope.kind=.function))
  (hnames:↥(∀y∈scope.names,y.2=.local->scope.names.lookup y.1=some .local)) (hs:autoParam (∀x,foldedSetIterable iter X.env x=pure x) aD._auto_1):
  PE X (.ListComp elt [#[tg,iter,[],0]] scope pos) (yly wi g te xs.length js):=by refine .mk λa s σ H Q I h=>?_;rwa[eval_ListComp,wpAny_comprehension_free (use:=none) J hs hclos hkind hnames (thn (hi a s σ H _ I h) λv K p=>thn p λk s2 n=>?_)];let#[F,fp,G,ς,H2,e,B,T,d,i,h]:=n;subst e;erw[ÿ (R:=λD c=>Q (.ref D) c) (RR:=compPost (model X.prog X.w) X.A X.xe none (EP X a σ Q)) hc he hgt hcell hkind hfr hyc hrel hjs B T d i h ?_];intro D C c l m f t r q;erw[m,t,λE z=>#[.ref D,c,?_,J,q],<-r.turned (t':=l.toks) (λb o u e=>z.extBut b o u e) f.1 f.2.1 f.2.2.2.1 f.2.2.2.2.1 f.2.2.2.2.2]
def yvt{H:Hp}{Q:VK}{n:Nat}(h:wi σ H λς H1=>∀D,H1 D=none->ß ς g te n (uy js σ) D (λH2=>Q (.ref D) H2) H1):yly wi g te n js σ H Q:=h
end
end
section
mutual
variable{iter elt:qh}{x:Str}{px pos:Pos}{scope:Scope}{te:TE}{wi:TI}{pins:Θ}{σ:St}{ys:Ρ}{js:qj Nat}
def ĝ{pre:qj (ql V)}{n:Nat}(h:List.length pre=n+1):∃v t,pre=v::t/\List.length t=n:=by
 cases pre with
 |nil=>cases h
 |cons v t=>erw[v,t,J,Nat.succ.inj h]
def yzh{ς:It}{fr:St}{D:qa}{R:Hp->Prop}{H1:Hp}(h:jc ς te fr D R H1):ß ς (xw 0) te 1 fr D R H1:=by let#[W,f,j]:=h;erw[W,f,λi m b w=>(j i m b w).imp id λ⟨e,y⟩=>#[e,λx k c d a=>?_]];let#[z,t,J,g]:=ĝ a;obtain rfl:=List.length_eq_zero_iff.mp g;erw[#[[some x],J,J],y x k d]
def Ŧ{H2:Hp}{ς:It}(hc:X.calm=true)
  (he:∀(C:qa)(s2:qb)(H2:Hp)(fp:Φ),PE (X.compF scope ys C x s2 H2 fp) elt te)
  (hcell:∀y∈scope.names,y.2≠.cell) (hkind:scope.kind=.function) (hx:scope.names.lookup x=some .local) (hnd:(x::ys).Nodup)
  (hfr:∀y∈scope.names,y.2=.free->y.1∈ys) (hyc:∀y∈ys,X.env.kindOf y=some .cell) (hrel:∀y∈ys,(relabel scope X.env).names.lookup y=some .cell) (hjs:js.map (λj=>X.N[j]?)=ys.map some)
  (I2:Inv X pins σ H2 s2) (T:yhi X.prog X.w X.K (.Name x px) ς fp it tn) (st2:tn 0 s2.heap) (f2:∀b∈fp,ydn X pins H2 b)
  {R:qa->Hp->Prop} (h:∀D,H2 D=none->jc ς te (uy js σ) D (R D) H2) {RR:qc->qa->Result->qb->Prop} {E:Δ}
  (hR:∀(D C:qa)(H':Hp)(s':qb)(m:Ε),ydn X pins H' C->s'.heap.Ns C m->Inv X pins σ H' s'->R D H'->RR (.ref D) C (.ok .next) s'):
  wpAny (model X.prog X.w) X.A (newList []) (λacc s₃=>'w' (newFunctionEnv scope X.env.globals (ę ys X.env) [] X.env.qual none .none (some X.env)) (λcenv s₄ =>
   codeAny (model X.prog X.w) X.A (.compStart (.ListComp elt [#[.Name x px,iter,[],0]] scope pos) 0 (.ref it) acc {cenv with scope:=relabel scope X.env}) (RR acc cenv.locals) s₄) E s₃) E s2 :=
 ÿ (tg:=.Name x px) (xs:=[x]) (g:=xw 0) hc he (λC s2 H2 fp=>xb (i:=0) hnd J (Or.inl (lookup_relabel_local hx)) (Or.inr (lookup_relabel_local hx))) hcell hkind hfr hyc hrel hjs I2 T st2 f2 (λD a=>yzh (h D a)) hR
def wx(hc:X.calm=true)(hi:PI X (.Name x px) iter wi)(he:∀(C:qa)(s2:qb)(H2:Hp)(fp:Φ),PE (X.compF scope ys C x s2 H2 fp) elt te)(hjs:js.map (λj=>X.N[j]?)=ys.map some)
  (hclos:closureFor scope X.env=pure (ę ys X.env)) (hnd:⇑((x::ys).Nodup)) (hyc:∀y∈ys,X.env.kindOf y=some .cell) (hrel:∀y∈ys,(relabel scope X.env).names.lookup y=some .cell)
  (hfr:↥(∀y∈scope.names,y.2=.free->y.1∈ys)) (hcell:↥(∀y∈scope.names,y.2≠.cell)) (hkind:↑(scope.kind=.function))
  (hnames:↥(∀y∈scope.names,y.2=.local->scope.names.lookup y.1=some .local)) (hx:↑(scope.names.lookup x=some .local)) (hs:autoParam (∀x,foldedSetIterable iter X.env x=pure x) aD._auto_1):
  PE X (.ListComp elt [#[.Name x px,iter,[],0]] scope pos) (yl7 wi te js):=by refine .mk λa s σ H Q I h=>?_;rwa[eval_ListComp,wpAny_comprehension_free (use:=none) J hs hclos hkind hnames (thn (hi a s σ H _ I h) λv G n=>thn n λi s2 l=>?_)];let#[E,fp,F,ς,H2,e,z,T,d,g,h]:=l;subst e;erw[Ŧ (R:=λD c=>Q (.ref D) c) (RR:=compPost (model X.prog X.w) X.A X.xe none (EP X a σ Q)) hc he hcell hkind hx hnd hfr hyc hrel hjs z T d g h ?_];intro D C c k m f r p q;erw[m,r,λB u=>#[.ref D,c,?_,J,q],<-p.turned (t':=k.toks) (λb o t e=>u.extBut b o t e) f.1 f.2.1 f.2.2.2.1 f.2.2.2.2.1 f.2.2.2.2.2]
def ygk{y:Str}{py spos:Pos}(hN:X.N.Nodup)(hy:X.N[i]?=some y)(hl:X.env.scope.names.lookup y=some .local)(hc:X.calm=true)(hi:PI X (.Name x px) iter wi)
  (he:∀(C:qa)(s2:qb)(H2:Hp)(fp:Φ),PE (X.compF scope ys C x s2 H2 fp) elt te) (hjs:js.map (λj=>X.N[j]?)=ys.map some)
  (hclos:closureFor scope X.env=pure (ę ys X.env)) (hyc:∀y∈ys,X.env.kindOf y=some .cell) (hrel:∀y∈ys,(relabel scope X.env).names.lookup y=some .cell)
  (hsw:↑(swapsWith (.ListComp elt [#[.Name x px,iter,[],0]] scope pos) (some (.Name y py)) spos.line X.env=pure true)) (hnd:⇑((x::ys).Nodup))
  (hfr:↥(∀y∈scope.names,y.2=.free->y.1∈ys)) (hcell:↥(∀y∈scope.names,y.2≠.cell)) (hkind:↑(scope.kind=.function))
  (hnames:↥(∀y∈scope.names,y.2=.local->scope.names.lookup y.1=some .local)) (hx:↑(scope.names.lookup x=some .local)) (hs:autoParam (∀x,foldedSetIterable iter X.env x=pure x) aD._auto_1):
  PS X (.Assign [.Name y py] (.ListComp elt [#[.Name x px,iter,[],0]] scope pos) spos) (ywz (yl7 wi te js) (xw i)):=by
 erw[.mk λa s σ H p I h=>?_];rwa[exec_Assign_Name_used _ _ _ _ hsw,bj (wpAny_standAt (bj ?_))];show wpAny _ X.A (do let _ <- comprehension (.ListComp elt [#[.Name x px,iter,[],0]] scope pos) scope X.env _ (newList []) false (eval iter X.env) (some (assign (.Name y py) X.env))) _ _ s;erw[bj (cr (wpAny_comprehension_free (use:=some (assign (.Name y py) X.env)) (Q:=λZ d=>SP X a p .next d) J hs hclos hkind hnames (thn (hi a s σ H _ I h) λv P F=>thn F λu s2 B=>?_)) (λZ d E=>bv (bv E)) λZ Z e=>e)];let#[S,fp,U,ς,H2,e,K,T,g,M,h]:=B;subst e;erw[Ŧ (R:=λD r=>xw i (.ref D) σ r p.nx) (RR:=compPost (model X.prog X.w) X.A X.xe (some (assign (.Name y py) X.env)) (λZ d=>SP X a p .next d)) hc he hcell hkind hx hnd hfr hyc hrel hjs K T g M h ?_];intro D C r d m f L G q;erw[wpAny_assign_Name (ê (v:=V.ref D) G hN hy (Or.inl hl) J (λl n k=>?_) (Or.inr hl)),<-m,?_,λO t=>#[_,r,?_,q]]
 .let#[b,t,c]:=k;erw[L.sameBut t λz=>?_];rcases c with c|c
  .erw[f.2.1 (z.trans c)]
  .erw[f.2.2.2.2.1 y b c z.symm]
 .erw[n.turned (t':=l.toks) (λb o c e=>t.extBut b o c e) f.1 f.2.1 f.2.2.2.1 f.2.2.2.2.1 f.2.2.2.2.2]
end
end
end L2
namespace L2
section
mutual
variable{prog:qi}{w:qe}{A:qf}{E:Δ}{s:qb}
def Ý{it l:qa}{i:Nat}{items}{x:qc}{Q:Δ}(hit:s.heap.IsTupleIter it l i)(hl:s.heap.IsTuple l items)(hx:items[i]?=some x)
  (hQ:∀h',h'.IsTupleIter it l (i+1)->Heap.SameBut it s.heap h'->Q x {s with heap:=h'}):wpAny (model prog w) A (Builtin.SmallTypes.nextOf (.ref it)) Q E s:=by let#[g,b,c,a]:=id hit;let#[h,d,_,f,e]:=hl;unfold Builtin.SmallTypes.nextOf;erw[bj (wpAny_callSpecial?_slot (name:=Str.ofString "__next__") hit.typeIs slot_tupleiter_next (wpAny_call_entry slot_tupleiter_next hit.typeIs entry_tupleiter_next ?_ (args_tupleiter_next _)))];show wpAny _ _ (field (.ref it) 0 >>=_) _ _ s;erw[bj (ce b a (x:=.ref l) J ?_)];show wpAny _ _ (if (Value.ref l == Value.none)=true then _ else _) _ _ s;rw[if_neg (show ¬((Value.ref l == Value.none)=true)from bK)];show wpAny _ _ (field (.ref it) 1 >>=_) _ _ s;erw[bj (ce b a (x:=.int i 0) J ?_)];show wpAny _ _ (seqItems? (.ref l) >>=_) _ _ s;erw[bj (wpAny_seqItems d e ?_)];simp only[Int.toNat_natCast,hx];erw[bj (wpAny_setField b a 's' (bv #[x,J,bv (hQ _ #[_,Heap.get?_update_self _ b (Obj.isFreed_of_fields (Obj.data_mapFields a _)),(Obj.cls_mapFields ..).trans c,?_] (Heap.SameBut.update ..))]))];rw[Obj.data_mapFields a];simp[rawInt]
def Ĵ{it l:qa}{i:Nat}{items}{Q:Δ}(hh:A.handled=none)(hit:s.heap.IsTupleIter it l i)(hl:s.heap.IsTuple l items)(hx:items[i]?=none)
  (hE:∀h' e,Heap.ExtBut it s.heap h'->(∃o,h'.get? e=some o/\o.cls=.type "StopIteration")->E (.ref e) {s with heap:=h'}):wpAny (model prog w) A (Builtin.SmallTypes.nextOf (.ref it)) Q E s:=by
 let#[j,c,g,b]:=id hit;let#[k,d,_,h,f]:=hl;unfold Builtin.SmallTypes.nextOf;erw[bj (wpAny_callSpecial?_slot (name:=Str.ofString "__next__") hit.typeIs slot_tupleiter_next (wpAny_call_entry slot_tupleiter_next hit.typeIs entry_tupleiter_next ?_ (args_tupleiter_next _)))]
 (show wpAny _ _ (field (.ref it) 0 >>=_) _ _ s);erw[bj (ce c b (x:=.ref l) J ?_)]
 (show wpAny _ _ (if (Value.ref l == Value.none)=true then _ else _) _ _ s);rw[if_neg (show ¬((Value.ref l == Value.none)=true)from bK)]
 (show wpAny _ _ (field (.ref it) 1 >>=_) _ _ s);erw[bj (ce c b (x:=.int i 0) J ?_)]
 (show wpAny _ _ (seqItems? (.ref l) >>=_) _ _ s);erw[bj (wpAny_seqItems d f ?_)]
 simp only[Int.toNat_natCast,hx];erw[bj (wpAny_rule (bj (wpAny_setField c b 's' ?_)))]
 (show wpAny _ _ (newExc (.type "StopIteration") [] >>=_) _ _ _);erw[bj ?_]
 simp only[newExc,newTuple];erw[bj (wpAny_newObj_type ?_ (by size_fits))]
 erw[bj (m:=firstArgMember _ _) (wpAny_of_eq (a:=Value.none) (by first|rfl|(simp only[firstArgMember];rfl)) (wpAny_newObj_type ?_ (by size_fits)))]
 simp only[raiseNew];erw[bj (wpAny_handled ?_)]
 (first|rw[show A.in1.handled=none from hh]|rw[hh]);erw[bj (bv (wpAny_throw ?_))]
 erw[hE _ _ (((Heap.SameBut.update _ ..).extBut.push _).push _) #[_,bC _ J,J]]
end
end
section
open AutoSeq1 (wpAny_loadPart')
set_option maxRecDepth 100000
end
end L2
namespace L2
section
mutual
variable{σ:St}{H:Hp}{Q:VK}{td ty tx tv:TE}
def vci(h:td σ H λx H1=>ty σ H1 λy H2=>∃a v,x=.ref a/\Ÿ H2 a y (some v)/\Q v H2):vdo td ty σ H Q:=h
def vg0(h:ty σ H λy H1=>td σ H1 λx H2=>∃a o,x=.ref a/\Ÿ H2 a y o/\Q (.bl o.isSome) H2):vjm ty td σ H Q:=h
def yo7(h:ty σ H λy H1=>td σ H1 λx H2=>∃a o,x=.ref a/\Ÿ H2 a y o/\Q (.bl (!o.isSome)) H2):yk1 ty td σ H Q:=h
def vb6{nx bk ct:Ζ}{rt:VK}(h:tv σ H λv H1=>td σ H1 λx H2=>ty σ H2 λy H3=>∃a H4,x=.ref a/\ym4 H3 a y v H4/\nx σ H4):vdk td ty tv #[nx,rt,bk,ct] σ H:=h
def ywd(h:∀p,H p=none->Q (.ref p) (upd H p (.dT []))):yqw σ H Q:=h
end
end
open PySem PySem.Spec PyProof.Rows
mutual
variable{i1 i2 l1 l2:qa}{xs ys:Array qc}{elts:qj qh}{i k1 k2:Nat}{tpos:Pos}{P:qi}{a:qc}
def vit(Sq:Hp->qa->qj V->Prop)(a b:qa):It :=
 #[λi H=>∃xs ys x y,Sq H a xs/\Sq H b ys/\xs[i]?=some x/\ys[i]?=some y,
  λi H v H'=>∃t x y,v=.ref t/\H t=none/\H'=upd H t (.tup [x,y])/\(∀xs,Sq H a xs->xs[i]?=some x)/\(∀ys,Sq H b ys->ys[i]?=some y),
  λi H=>∃xs ys,Sq H a xs/\Sq H b ys/\(xs.length<=i\/ys.length<=i)]
abbrev Itz(K:xy)(a b:qa):It:=vit (SqL K) a b
structure Zap(z TI TO i1 i2:qa):Prop where
 a1:TI≠z
 a2:TO≠z
 a3:i1≠z
 a4:i2≠z
 a5:TI≠TO
 a6:TI≠i1
 a7:TI≠i2
 a8:TO≠i1
 a9:TO≠i2
 b1:i1≠i2
def vgg(Ii:qg->qa->qa->Nat->Prop)(z TI TO i1 i2 l1 l2:qa)(i:Nat)(h:qg):Prop:=IsZip h z TI TO .none/\IsPair h TI (.ref i1) (.ref i2)/\(∃a b,IsPair h TO a b)/\Ii h i1 l1 i/\Ii h i2 l2 i
abbrev Zst:=vgg Heap.IsListIter
def ju{h:qg}{a b:qa}{o o':Obj}(e:h.get? a=some o)(e':h.get? b=some o')(n:o.cls≠o'.cls):a≠b:=by rintro rfl;rw[e]at e';cases e';erw[n J]
def yp9(z:Nat):Zap (z+4) (z+2) (z+3) z (z+1):=by constructor<;>(show (_:Nat)≠(_:Nat);omega)
def nT{a b:String}(h:Value.type a≠Value.type b):Value.type a≠Value.type b:=h
def Zap.apart{X:Cx}{pins:Θ}{σ:St}{H:Hp}{s:qb}{z TI TO:qa}{xs ys:Ξ}(d:Zap z TI TO i1 i2)(st:Zst z TI TO i1 i2 l1 l2 i s.heap)(p:PlainL s.heap l1 xs.toArray)(q:PlainL s.heap l2 ys.toArray)(_:'i' s):ZipApart z TI TO i1 i2 l1 l2:=by
 let#[l,o,#[a,b,c],#[v,k,n,_],#[t,m,j,_]]:=st;let#[u,h,f,_]:=p.isList;let#[r,e,g,_]:=q.isList
 erw[d.a1,d.a2,d.a3,d.a4,d.a5,d.a6,d.a7,d.a8,d.a9,d.b1,
  ju h l (by rwa[f,nT ∅]),ju h c (by rwa[f,nT ∅]),ju h k (by rw[f,n];decide),ju h m (by rw[f,j];decide),
  ju e l (by rwa[g,nT ∅]),ju e c (by rwa[g,nT ∅]),ju e k (by rw[g,n];decide),ju e m (by rw[g,j];decide)]
structure ZK(K:xy)(Sq:Hp->qa->qj V->Prop)(Ii:qg->qa->qa->Nat->Prop)(z TI TO i1 i2 l1 l2:qa):Prop where
 ob:∀{h:qg}{i l:qa}{k:Nat},Ii h i l k->∃o,h.get? i=some o/\∃fs,o.data=.fields fs
 kp:∀{h h':qg}{i l:qa}{k:Nat},Ii h i l k->(∀o,h.get? i=some o->h'.get? i=some o)->Ii h' i l k
 inj:∀{X:Cx}{pins:Θ}{σ:St}{H:Hp}{s:qb}{l:qa}{xs ys:Τ},X.K=K->'i' s->Sq H l xs->Sq H l ys->xs=ys
 nx:∀{X:Cx}{pins:Θ}{σ:St}{H:Hp}{s:qb}{E:Δ}{i:Nat}{xs ys:Τ}{x y:V},X.K=K->'i' s->H TO=none->vgg Ii z TI TO i1 i2 l1 l2 i s.heap->Sq H l1 xs->Sq H l2 ys->xs[i]?=some x->ys[i]?=some y ->
  ∃u u',ub x u/\ub y u'/\ZipApart z TI TO i1 i2 l1 l2/\∀Q:ql qc->qb->Prop,(∀h',IsZip h' z TI TO (rawInt 'n')->IsPair h' TO u u'->Ii h' i1 l1 (i+1)->Ii h' i2 l2 (i+1)->IsPair h' 'n' u u'->h'.objs.size='n'+1->(∀c o,c≠z->c≠TO->c≠i1->c≠i2->s.heap.get? c=some o->h'.get? c=some o)->Q (some (.ref 'n')) {s with heap:=h'})->'w' (pyNext (.ref z)) Q E s
 sp:∀{X:Cx}{pins:Θ}{σ:St}{H:Hp}{s:qb}{E:Δ}{i:Nat}{xs ys:Τ},X.K=K->X.calm=true->'i' s->H TO=none->vgg Ii z TI TO i1 i2 l1 l2 i s.heap->Sq H l1 xs->Sq H l2 ys->(xs.length<=i\/ys.length<=i) ->
  ∀Q:ql qc->qb->Prop,(∀h',(∀c o,c≠z->c≠TO->c≠i1->c≠i2->s.heap.get? c=some o->h'.get? c=some o)->Q none {s with heap:=h'})->'w' (pyNext (.ref z)) Q E s
def ycm{w:qe}{K:xy}{x1}{Sq:Hp->qa->qj V->Prop}{Ii:qg->qa->qa->Nat->Prop}{z TI TO:qa}(zk:ZK K Sq Ii z TI TO i1 i2 l1 l2):
  yhi P w K (.Tuple elts x1 tpos) (vit Sq l1 l2) [z,TI,TO,i1,i2] z (vgg Ii z TI TO i1 i2 l1 l2) where
 mem:='s'
 obj:=λi h B b d=>by
  let#[S,r,#[_,_,A],h1,h2]:=B;let#[o1,e1,_,d1]:=zk.ob h1;let#[o2,e2,_,d2]:=zk.ob h2;simp only[bH,List.not_mem_nil,or_false]at d;rcases d with rfl|rfl|rfl|rfl|rfl
  .erw[_,S,λv z=>by cases z]
  .erw[_,r,λv z=>by cases z]
  .erw[_,A,λv z=>by cases z]
  .erw[o1,e1,λv z=>by rw[d1]at z;cases z]
  .erw[o2,e2,λv z=>by rw[d2]at z;cases z]
 keep:=λi h L B k=>by
  let#[S,r,#[a,b,A],h1,h2]:=B;erw[k z 's' _ S,k TI 's' _ r,#[a,b,k TO 's' _ A],zk.kp h1 λo e=>k i1 's' o e,zk.kp h2 λo e=>k i2 's' o e]
 item:=by
  intro X hP hw hK hc i F s σ H E I p B hg;subst hP hw hK;let#[xs,Y,x,y,M,C,j,hy]:=hg;let#[u,u',ru,a8,D,nx]:=zk.nx (E:=E) J I (p TO 's').1 B M C j hy;let#[S,r,#[va,vb,A],a0,a7]:=B;erw[nx _ λL a1 a2 a3 a4 a5 a6 hk=>?_,<-_,J,wpAny_letOwnedTupleGo_zip a1 λl T g=>?_];have t:H 'n'=none:=I.hok.fresh (bx _);have lz:z<'n':=bE S;have lo:TO<'n':=bE A;have lI:TI<'n':=bE r;have a9:i1<'n':=by let#[o,e,_]:=zk.ob a0;erw[bE e]
  have aa:i2<'n':=by let#[o,e,_]:=zk.ob a7;erw[bE e]
  have keep:∀b o,b≠z->b≠TO->b≠i1->b≠i2->s.heap.get? b=some o->l.get? b=some o:=λb o N Z O Q e=>(g.2 b N).trans (hk b o N Z O Q e);have R:l.get? 'n'=some { cls:=.type "tuple",data:=.seq (List.toArray [u,u'])}:=(g.2 _ (Nat.ne_of_gt lz)).trans a5;have U:∀{b v},H b=some v->b≠z/\b≠TO/\b≠i1/\b≠i2:=λ{b v}e=>#[yb e (p z 's').1,yb e (p TO 's').1,yb e (p i1 's').1,yb e (p i2 's').1]
  have ς:HOk X.prog X.w (upd H 'n' (.tup [x,y])) l:=λb o e=>by
   by_cases d:b='n'
   .subst d;rw[ya]at e;cases e;exists by show 2<=sizeLine;decide,[u,u'],.cons ru (.cons a8 .nil),#[_,R,J,_,J]
   .rw[yn d]at e;refine(I.hok b o e).stay (λc v m q=>?_) (λc q=>by rwa[yn (yb q t),q]) λc Y q=>by rw[yn (yb q t)];exact q
    obtain⟨N,Z,O,Q⟩:c≠z/\c≠TO/\c≠i1/\c≠i2:=by
     rcases m with rfl|m
     .erw[U e]
     .erw[U m]
    erw[keep c v N Z O Q q]
  have un:Un (frs X.stack) [z,TI,TO,i1,i2] H (upd H 'n' (.tup [x,y])) s.heap l:=by
   have G:∀{b o},b∉[z,TI,TO,i1,i2]->s.heap.get? b=some o->l.get? b=some o:=λ{b o}d e=>keep b o (λq=>d (by simp[q])) (λq=>d (by simp[q])) (λq=>d (by simp[q])) (λq=>d (by simp[q])) e
   erw[λb o e n W j=>G j e,λb o e n W j=>#[o.slots,G j e],λb o e n W=>by rwa[yn (bY (bE e)),n],λb o e j=>#[o,G j e],
    λb Y e=>by rwa[yn (yb e t),e],λb o v e=>by rwa[yn (yb e t),e],λb ps e=>#[#[],by rw[yn (yb e t),e];simp]]
  have I1:Inv X F σ (upd H 'n' (.tup [x,y])) {s with heap:=l}:=I.call' (s':={s with heap:=l}) J un ς I.bare λb d=>by
   let f:=p b d;erw[f.2.2.2.1,f.2.1,f.2.2.2.2.1,f.2.2.2.2.2]
  erw[.ref 'n',_,I1,J,#[_,x,y,J,t,J,λzs h=>by rwa[zk.inj J I h M,j],λzs h=>by rwa[zk.inj J I h C,hy]],?_,λb d=>?_]
  .erw[T,keep _ _ D.TIz D.TITO D.TIi1 D.TIi2 r,#[u,u',(g.2 _ D.TOz).trans a2],zk.kp a3 λo e=>(g.2 _ D.i1z).trans e,zk.kp a4 λo e=>(g.2 _ D.i2z).trans e]
  .rw[yn (λq=>?_)]
   .erw[(p b d).1]
   .have M:b<'n':=by
     simp only[bH,List.not_mem_nil,or_false]at d;rcases d with rfl|rfl|rfl|rfl|rfl<;>assumption
    erw[absurd q (bY M)]
 done:=by
  intro X hP hw hK hc i F s σ H E I p B hg;subst hP hw hK;let#[xs,Y,M,C,j]:=hg;erw[zk.sp J hc I (p TO 's').1 B M C j _ λL hk=>#[J,?_]];have U:∀{b v},H b=some v->b≠z/\b≠TO/\b≠i1/\b≠i2:=λ{b v}e=>#[yb e (p z 's').1,yb e (p TO 's').1,yb e (p i1 's').1,yb e (p i2 's').1]
  have ς:HOk X.prog X.w H L:=λb o e=>by
   erw[(I.hok b o e).stay (λc v m q=>?_) (λc q=>q) λc Y q=>q]
   obtain⟨N,Z,O,Q⟩:c≠z/\c≠TO/\c≠i1/\c≠i2:=by
    rcases m with rfl|m
    .erw[U e]
    .erw[U m]
   erw[hk c v N Z O Q q]
  have un:Un (frs X.stack) [z,TI,TO,i1,i2] H H s.heap L:=by
   have G:∀{b o},b∉[z,TI,TO,i1,i2]->s.heap.get? b=some o->L.get? b=some o:=λ{b o}d e=>hk b o (λq=>d (by simp[q])) (λq=>d (by simp[q])) (λq=>d (by simp[q])) (λq=>d (by simp[q])) e;erw[λb o e n W j=>G j e,λb o e n W j=>#[o.slots,G j e],λb o e n W=>n,λb o e j=>#[o,G j e],λb Y e=>e,λb o v e=>e,λb ps e=>#[#[],by rw[e];simp]]
  exact I.call' (s':={s with heap:=L}) J un ς I.bare λb d=>by
   let f:=p b d;erw[f.2.2.2.1,f.2.1,f.2.2.2.2.1,f.2.2.2.2.2]
 self:=λW W W W W B h=>wpAny_pyIter_zip B.1 h
def you{w:qe}{K:xy}{x1}(l1 l2 z TI TO i1 i2:qa)(d:Zap z TI TO i1 i2):
  yhi P w K (.Tuple elts x1 tpos) (Itz K l1 l2) [z,TI,TO,i1,i2] z (Zst z TI TO i1 i2 l1 l2):=ycm #[λ⟨o,e,_,d⟩=>#[o,e,_,d],λh f=>h.at f,λ{X a σ H s l R T}r I h g=>by subst r;erw[I.list_inj h g],λ{X a σ H s E i R T x y}r I W B G q S Z=>by
  subst r;let#[ς,M,p,F]:=I.list G;let#[t,m,C,v]:=I.list q;let#[u,hu,ru]:=M.get S;let#[Y,L,O]:=m.get Z;let D:=d.apart B p C I;let#[N,c,#[va,U,n],b,j]:=B
  erw[u,Y,ru,O,D,λQ k=>wpAny_pyNext_zip_item D N c n b j p.isList C.isList (by simpa using hu) (by simpa using L) k],λ{X a σ H s E i R T}r hc I W B G q S Q k=>by
  subst r;let#[ς,M,p,F]:=I.list G;let#[t,m,C,v]:=I.list q;let D:=d.apart B p C I;let#[N,c,#[va,U,n],b,j]:=B;let hl:=M.length;let a0:=m.length;erw[wpAny_pyNext_zip_end (show X.A.handled=none from I.ok.hd hc) D N c n b j p.isList C.isList (by simp;omega) k]]
end
section
mutual
variable{X:Cx}
def viz(K:xy)(ta:TA):TI:=λσ H R=>ta σ H λvs H1=>∃a b,vs=[.ref a,.ref b]/\(∃xs ys,SqL K H1 a xs/\SqL K H1 b ys)/\R (Itz K a b) H1
def yss{x1}{l m:qh}{ta:TA}{p pos:Pos}(hg:Gl X "zip")(hm:X.mg "zip"=none)(ha:PA X [l,m] ta)(hs:↑(starEach [l,m] X.env=[(false,eval l X.env),(false,eval m X.env)]))(hs2:↑(starEach [m] X.env=[(false,eval m X.env)])):
  PI X (.Tuple elts x1 tpos) (.Call (.Name "zip" p) [l,m] [] pos) (viz X.K ta):=by
 intro g s σ H R I h;erw[Call_ (Ŋ I hg hm (show bootBuiltins "zip"=some (.type "zip") by decide+kernel) (PyProof.Rows.callWith_type1 (thn (ha pos g s σ H _ I h) λO c h'=>?_) (by rw[hs,hs2]) (by rw[hs2];rfl)))];let#[L,E,f,w,A]:=h';let#[a,b,e,#[N,P,y,o],q]:=A;subst e
 cases w with
 |cons r rr =>
  cases rr with
  |cons r' rr =>
   cases rr;cases r;cases r';let#[z,M,F,j]:=f.list y;let#[u,C,t,G]:=f.list o;erw[call_zip_2 F.isList t.isList λς j i k B v D x=>?_,<-wpAny_pyIter_zip j ?_];have n:Zap (c.heap.objs.size+4) (c.heap.objs.size+2) (c.heap.objs.size+3) c.heap.objs.size (c.heap.objs.size+1):=yp9 _;erw[c.heap.objs.size+4,[c.heap.objs.size+4,c.heap.objs.size+2,c.heap.objs.size+3,c.heap.objs.size,c.heap.objs.size+1],_,_,E,J,f.kept (t':=c.toks) x,you a b _ _ _ _ _ n,#[j,i,#[_,_,k],B,v],λb d=>?_,q]
   have d:c.heap.objs.size<=b:=by
    simp only[bH,List.not_mem_nil,or_false]at d;rcases d with rfl|rfl|rfl|rfl|rfl<;>omega
   erw[f.fpOk d (f.hok.fresh d)]
def vbf{K:xy}{ta:TA}{σ:St}{H:Hp}{R:It->Hp->Prop}(h:ta σ H λvs H1=>∃a b,vs=[.ref a,.ref b]/\(∃xs ys,SqL K H1 a xs/\SqL K H1 b ys)/\R (Itz K a b) H1):viz K ta σ H R:=h
end
end
def ū{K:xy}{a b D:qa}{xs ys:Τ}{g:TG}{te:TE}{n:Nat}{fr:St}{R:Hp->Prop}{H1:Hp}(f:Nat->V)(hq:SqL K H1 a xs)(hq':SqL K H1 b ys)(hl:ys.length=xs.length)(hD:H1 D=none)
  (hs:∀i x y H t pre,xs[i]?=some x->ys[i]?=some y->yu H1 H->H D\((List.range i).map f)->H t=none->List.length pre=n->g (.ref t) (pre++fr) (upd H t (.tup [x,y])) λσ' H'=>(∃pre',List.length pre'=n/\σ'=pre'++fr)/\te σ' H' (MpK H1 D f xs.length i))
  (hd:∀H,yu H1 H->H D\((List.range xs.length).map f)->R H):ß (Itz K a b) g te n fr D R H1:=by
 erw[cW xs.length (Mp H1 D f),#[xs.length,'s',bR _,Mp.zero hD],?_];rintro i m H ⟨rfl,o,p⟩;let q:=p.1.seq hq;let c:=p.1.seq hq';by_cases hlt:i<xs.length
 .erw[.inr #[#[xs,ys,xs[i],ys[i]'(),q,c,by simp[hlt],by simp[hl,hlt]],λy H' pre h d=>?_]];let#[t,x,y,J,k,J,l,j]:=h;erw[hs i x y H t pre (l xs q) (j ys c) p.1 p.2 k d]
 .have e:i=xs.length:=()
  subst e;erw[.inl #[#[xs,ys,q,c,.inl (bx _)],hd H p.1 p.2]]
section
variable{X:Cx}{iter elt tg:qh}{xs:Ρ}{g:TG}{pos:Pos}{scope:Scope}{te:TE}{wi:TI}{ys:Ρ}{js:qj Nat}
def ynr{y:Str}{py spos:Pos}(hN:X.N.Nodup)(hy:X.N[i]?=some y)(hl:X.env.scope.names.lookup y=some .local)(hc:X.calm=true)(hi:PI X tg iter wi)
  (he:∀(C:qa)(s2:qb)(H2:Hp)(fp:Φ),PE (X.compT scope ys C xs s2 H2 fp) elt te) (hjs:js.map (λj=>X.N[j]?)=ys.map some)
  (hgt:∀(C:qa)(s2:qb)(H2:Hp)(fp:Φ),PG (X.compT scope ys C xs s2 H2 fp) tg g)
  (hclos:closureFor scope X.env=pure (ę ys X.env)) (hyc:∀y∈ys,X.env.kindOf y=some .cell) (hrel:∀y∈ys,(relabel scope X.env).names.lookup y=some .cell)
  (hsw:↑(swapsWith (.ListComp elt [#[tg,iter,[],0]] scope pos) (some (.Name y py)) spos.line X.env=pure true))
  (hfr:↥(∀y∈scope.names,y.2=.free->y.1∈ys)) (hcell:↥(∀y∈scope.names,y.2≠.cell)) (hkind:↑(scope.kind=.function))
  (hnames:↥(∀y∈scope.names,y.2=.local->scope.names.lookup y.1=some .local)) (hs:autoParam (∀x,foldedSetIterable iter X.env x=pure x) aD._auto_1):
  PS X (.Assign [.Name y py] (.ListComp elt [#[tg,iter,[],0]] scope pos) spos) (ywz (yly wi g te xs.length js) (xw i)):=by
 erw[.mk λa s σ H r I h=>?_];rwa[exec_Assign_Name_used _ _ _ _ hsw,bj (wpAny_standAt (bj ?_))];show wpAny _ X.A (do let _ <- comprehension (.ListComp elt [#[tg,iter,[],0]] scope pos) scope X.env _ (newList []) false (eval iter X.env) (some (assign (.Name y py) X.env))) _ _ s;erw[bj (cr (wpAny_comprehension_free (use:=some (assign (.Name y py) X.env)) (Q:=λZ d=>SP X a r .next d) J hs hclos hkind hnames (thn (hi a s σ H _ I h) λv S G=>thn G λB s2 E=>?_)) (λZ d F=>bv (bv F)) λZ Z e=>e)];let#[U,fp,W,ς,H2,e,L,T,k,O,h]:=E;subst e;erw[ÿ (R:=λD t=>xw i (.ref D) σ t r.nx) (RR:=compPost (model X.prog X.w) X.A X.xe (some (assign (.Name y py) X.env)) (λZ d=>SP X a r .next d)) hc he hgt hcell hkind hfr hyc hrel hjs L T k O h ?_];intro D C t d m f M K q;erw[wpAny_assign_Name (ê (v:=V.ref D) K hN hy (Or.inl hl) J (λn p l=>?_) (Or.inr hl)),<-m,?_,λP u=>#[_,t,?_,q]]
 .let#[b,u,c]:=l;erw[M.sameBut u λz=>?_];rcases c with c|c
  .erw[f.2.1 (z.trans c)]
  .erw[f.2.2.2.2.1 y b c z.symm]
 .erw[p.turned (t':=n.toks) (λb o c e=>u.extBut b o c e) f.1 f.2.1 f.2.2.2.1 f.2.2.2.2.1 f.2.2.2.2.2]
end
section
mutual
variable{X:Cx}
noncomputable def onI(f:Int->Int):V->V
 | .int i=>.int (f i)
 |v=>v
def yk8(f:Int->Int)(ns:Ο):(ns.map V.int).map (onI f)=(ns.map f).map V.int:=by rw[cn,cn];rfl
def ymh{pre:qj (ql V)}(h:List.length pre=2):∃v1 v2,pre=[v1,v2]:=by let#[v1,t,J,a]:=ĝ h;let#[v2,t,J,b]:=ĝ a;erw[v1,v2,by rw[List.length_eq_zero_iff.mp b]]
end
end
section
mutual
variable{X:Cx}
def vep:V->qj V->Hp->VK->Prop:=λx vs H Q=>∃i:Int,x=.int i/\vs=[]/\Q (.int (Builtin.Int.intBits i:Nat)) H
def yu6:MtR X "int.bit_length" vep:=by intro b s σ H x f v e Q I c d h;let#[i,J,J,q]:=h;let#[t,J]:=c;let a:=d.zero;subst a;erw[PyProof.Rows.call_int_bit_length #[.int _,H,I.tok _,#[_,J],q]]
def vak{K:xy}{i:Int}{H:Hp}{Q:VK}(h:Q (.int (Builtin.Int.intBits i:Nat)) H):tyV K "int" (.int i) H/\vep (.int i) [] H Q:=#[J,i,J,J,h]
end
end
section
mutual
variable{prog:qi}{w:qe}{A:qf}{E:Δ}{s:qb}
def yo1{z TI TO:qa}{x y b:qc}{Q:Δ}(D:ZipApart z TI TO i1 i2 l1 l2)(hz:IsZip s.heap z TI TO .none)(hTI:IsPair s.heap TI (.ref i1) (.ref i2))(hTO:IsPair s.heap TO a b)
  (h1:s.heap.IsTupleIter i1 l1 k1) (h2:s.heap.IsTupleIter i2 l2 k2) (hl1:s.heap.IsTuple l1 xs) (hl2:s.heap.IsTuple l2 ys) (hx:xs[k1]?=some x) (hy:ys[k2]?=some y)
  (hQ:∀h',IsZip h' z TI TO (rawInt 'n')->IsPair h' TO x y->h'.IsTupleIter i1 l1 (k1+1)->h'.IsTupleIter i2 l2 (k2+1)->IsPair h' 'n' x y->h'.objs.size='n'+1->(∀c o,c≠z->c≠TO->c≠i1->c≠i2->s.heap.get? c=some o->h'.get? c=some o)->Q (.ref 'n') {s with heap:=h'}):
  wpAny (model prog w) A (Builtin.«zip.__next__» #[[.ref z],[]]) (λfin s'=>∃v,fin=.done (.ret v)/\Q v s') E s:=by
 (show wpAny _ _ (field (.ref z) 2 >>=_) _ _ _);erw[bj (ce hz J (x:=.bool false) J ?_)]
 (show wpAny _ _ (field (.ref z) 3 >>=_) _ _ _);erw[bj (ce hz J (x:=.ref TI) J ?_),<-bj (wpAny_seqItems hTI J ?_)]
 (show wpAny _ _ (Builtin.SmallTypes.ownedTupleIsFree (.ref z) >>=_) _ _ _);erw[bj ?_];unfold Builtin.SmallTypes.ownedTupleIsFree
 erw[bj (ce hz J (x:=.none) J (bv ?_))];simp only[if_true];erw[bj (wpAny_rule ?_),<-bj (ce hz J (x:=.ref TO) J ?_),<-bj (wpAny_setField_rec hz 's' λh₁ hz₁ hs₁=>?_)]
 replace hz₁:IsZip h₁ z TI TO .ellipsis:=hz₁;erw[bj ?_];simp only[List.zipIdx_cons,List.zipIdx_nil,List.forIn_cons,List.forIn_nil]
 erw[bj (bj (wpAny_onRaise ?_))];(show wpAny _ _ (Builtin.SmallTypes.nextOf (.ref i1) >>=_) _ _ _);erw[bj (Ý (h1.at λo e=>hs₁.extBut _ _ D.i1z e) (hl1.extBut hs₁.extBut D.l1z) hx λh₂ h1₂ hs₂=>bv ?_)];have hTO₂:IsPair h₂ TO a b:=hs₂.extBut _ _ D.TOi1 (hs₁.extBut _ _ D.TOz hTO);erw[bj (wpAny_seqItems hTO₂ J ?_),<-bj (wpAny_updateSeq_pair hTO₂ λh₃ hTO₃ hs₃=>?_)];replace hTO₃:IsPair h₃ TO x b:=hTO₃;erw[bj (wpAny_letGo (bv ?_)),<-bj (bj (wpAny_onRaise ?_))];(show wpAny _ _ (Builtin.SmallTypes.nextOf (.ref i2) >>=_) _ _ _);erw[bj (Ý (h2.at λo e=>hs₃.extBut _ _ D.TOi2.symm (hs₂.extBut _ _ D.i12.symm (hs₁.extBut _ _ D.i2z e))) (((hl2.extBut hs₁.extBut D.l2z).extBut hs₂.extBut D.l2i1).extBut hs₃.extBut D.l2TO) hy λh₄ h2₄ hs₄=>bv ?_)];have hTO₄:IsPair h₄ TO x b:=hs₄.extBut _ _ D.TOi2 hTO₃;erw[bj (wpAny_seqItems hTO₄ J ?_),<-bj (wpAny_updateSeq_pair hTO₄ λh₅ hTO₅ hs₅=>?_)];replace hTO₅:IsPair h₅ TO x y:=hTO₅;erw[bj (wpAny_letGo (bv (bv ?_))),<-bj (wpAny_seqItems hTO₅ J ?_),<-bj (wpAny_newTuple ?_)];have i:h₅.objs.size='n':=by(rw[hs₅.1,hs₄.1,hs₃.1,hs₂.1,hs₁.1])
 have hz₅:IsZip h₅ z TI TO .ellipsis:=(hs₅.extBut _ _ D.TOz.symm (hs₄.extBut _ _ D.i2z.symm (hs₃.extBut _ _ D.TOz.symm (hs₂.extBut _ _ D.i1z.symm hz₁))));have hk₅:∀c o,c≠z->c≠TO->c≠i1->c≠i2->s.heap.get? c=some o->h₅.get? c=some o:=λc o f j l m e=>hs₅.extBut _ _ j (hs₄.extBut _ _ m (hs₃.extBut _ _ j (hs₂.extBut _ _ l (hs₁.extBut _ _ f e))));have h1₅:h₅.IsTupleIter i1 l1 (k1+1):=h1₂.at λo e=>hs₅.extBut _ _ D.TOi1.symm (hs₄.extBut _ _ D.i12 (hs₃.extBut _ _ D.TOi1.symm e));have h2₅:h₅.IsTupleIter i2 l2 (k2+1):=h2₄.at λo e=>hs₅.extBut _ _ D.TOi2.symm e;have d:z<h₅.objs.size:=(bE hz₅)
 (show wpAny _ _ (Builtin.SmallTypes.ownedTupleHandOut (.ref z) (.ref h₅.objs.size) >>=_) _ _ _);erw[bj ?_];unfold Builtin.SmallTypes.ownedTupleHandOut
 have hz₆:IsZip (h₅.push { cls:=.type "tuple",data:=.seq (List.toArray [x,y])}) z TI TO .ellipsis:=(br _ hz₅);erw[bj (wpAny_setField_rec hz₆ 's' λh₇ hz₇ hs₇=>?_)];replace hz₇:IsZip h₇ z TI TO (rawInt h₅.objs.size):=hz₇;erw[wpAny_setField_rec hz₇ 's' λh₈ hz₈ hs₈=>?_];replace hz₈:IsZip h₈ z TI TO (rawInt h₅.objs.size):=hz₈;have k:∀c o,c≠z->h₅.get? c=some o->h₈.get? c=some o:=(λc o f e=>hs₈.extBut _ _ f (hs₇.extBut _ _ f (br _ e)));have hT₈:IsPair h₈ h₅.objs.size x y:=(hs₈.extBut _ _ (Nat.ne_of_gt d) (hs₇.extBut _ _ (Nat.ne_of_gt d) (bC _ J)));have g:h₈.objs.size=h₅.objs.size+1:=by(rw[hs₈.1,hs₇.1,Heap.size_push])
 (rw[i]at hz₈ hT₈ g);erw[bv #[_,J,?_]];show Q (.ref h₅.objs.size) _;rw[i]
 erw[hQ h₈ hz₈ (k _ _ D.TOz hTO₅) (h1₅.at λo e=>k _ o D.i1z e) (h2₅.at λo e=>k _ o D.i2z e) hT₈ g (λc o f j l m e=>k c o f (hk₅ c o f j l m e))]
def yut{z TI TO:qa}{b:qc}{Q:Fin->qb->Prop}(hh:A.handled=none)(D:ZipApart z TI TO i1 i2 l1 l2)(hz:IsZip s.heap z TI TO .none)(hTI:IsPair s.heap TI (.ref i1) (.ref i2))(hTO:IsPair s.heap TO a b)
  (h1:s.heap.IsTupleIter i1 l1 k1) (h2:s.heap.IsTupleIter i2 l2 k2) (hl1:s.heap.IsTuple l1 xs) (hl2:s.heap.IsTuple l2 ys) (hend:xs[k1]?=none\/ys[k2]?=none)
  (hE:∀h' e,(∀c o,c≠z->c≠TO->c≠i1->c≠i2->s.heap.get? c=some o->h'.get? c=some o)->(∃o,h'.get? e=some o/\o.cls=.type "StopIteration")->E (.ref e) {s with heap:=h'}):wpAny (model prog w) A (Builtin.«zip.__next__» #[[.ref z],[]]) Q E s:=by
 (show wpAny _ _ (field (.ref z) 2 >>=_) _ _ _);erw[bj (ce hz J (x:=.bool false) J ?_)]
 (show wpAny _ _ (field (.ref z) 3 >>=_) _ _ _);erw[bj (ce hz J (x:=.ref TI) J ?_),<-bj (wpAny_seqItems hTI J ?_)]
 (show wpAny _ _ (Builtin.SmallTypes.ownedTupleIsFree (.ref z) >>=_) _ _ _);erw[bj ?_];unfold Builtin.SmallTypes.ownedTupleIsFree
 erw[bj (ce hz J (x:=.none) J (bv ?_))];simp only[if_true];erw[bj (wpAny_rule ?_),<-bj (ce hz J (x:=.ref TO) J ?_),<-bj (wpAny_setField_rec hz 's' λh₁ hz₁ hs₁=>?_)]
 replace hz₁:IsZip h₁ z TI TO .ellipsis:=hz₁;erw[bj ?_];simp only[List.zipIdx_cons,List.zipIdx_nil,List.forIn_cons,List.forIn_nil]
 erw[bj (bj (wpAny_onRaise ?_))];(show wpAny _ _ (Builtin.SmallTypes.nextOf (.ref i1) >>=_) _ _ _)
 cases hx:xs[k1]? with
 |none =>
  erw[bj (Ĵ hh (h1.at λo e=>hs₁.extBut _ _ D.i1z e) (hl1.extBut hs₁.extBut D.l1z) hx λh₂ e hs₂ j=>?_)];let#[l,d,f]:=j;have hz₂:IsZip h₂ z TI TO .ellipsis:=hs₂ _ _ D.i1z.symm hz₁;have g:e≠z:=(λx=>by(subst x;rw[hz₂]at d;cases d;simp at f));erw[wpAny_setField_rec hz₂ 's' λh₃ Z hs₃=>hE h₃ e (λc o i Z k Z x=>hs₃.extBut _ _ i (hs₂ _ _ k (hs₁.extBut _ _ i x))) #[l,hs₃.extBut _ _ g d,f]]
 |some x =>
  have n:ys[k2]?=none:=by(rcases hend with h|h;(rw[hx]at h;cases h);erw[h])
  erw[bj (Ý (h1.at λo e=>hs₁.extBut _ _ D.i1z e) (hl1.extBut hs₁.extBut D.l1z) hx λh₂ h1₂ hs₂=>bv ?_)];have hTO₂:IsPair h₂ TO a b:=(hs₂.extBut _ _ D.TOi1 (hs₁.extBut _ _ D.TOz hTO));erw[bj (wpAny_seqItems hTO₂ J ?_),<-bj (wpAny_updateSeq_pair hTO₂ λh₃ hTO₃ hs₃=>?_),<-bj (wpAny_letGo (bv ?_)),<-bj (bj (wpAny_onRaise ?_))];(show wpAny _ _ (Builtin.SmallTypes.nextOf (.ref i2) >>=_) _ _ _);erw[bj (Ĵ hh (h2.at λo e=>hs₃.extBut _ _ D.TOi2.symm (hs₂.extBut _ _ D.i12.symm (hs₁.extBut _ _ D.i2z e))) (((hl2.extBut hs₁.extBut D.l2z).extBut hs₂.extBut D.l2i1).extBut hs₃.extBut D.l2TO) n λh₄ e hs₄ j=>?_)];let#[l,d,f]:=j;have hz₄:IsZip h₄ z TI TO .ellipsis:=hs₄ _ _ D.i2z.symm (hs₃.extBut _ _ D.TOz.symm (hs₂.extBut _ _ D.i1z.symm hz₁));have g:e≠z:=(λx=>by(subst x;rw[hz₄]at d;cases d;simp at f));erw[wpAny_setField_rec hz₄ 's' λh₅ Z hs₅=>hE h₅ e (λc o i m k p x=>hs₅.extBut _ _ i (hs₄ _ _ p (hs₃.extBut _ _ m (hs₂.extBut _ _ k (hs₁.extBut _ _ i x))))) #[l,hs₅.extBut _ _ g d,f]]
def yo3{z TI TO:qa}{x y b:qc}{Q:ql qc->qb->Prop}(D:ZipApart z TI TO i1 i2 l1 l2)(hz:IsZip s.heap z TI TO .none)(hTI:IsPair s.heap TI (.ref i1) (.ref i2))(hTO:IsPair s.heap TO a b)
  (h1:s.heap.IsTupleIter i1 l1 k1) (h2:s.heap.IsTupleIter i2 l2 k2) (hl1:s.heap.IsTuple l1 xs) (hl2:s.heap.IsTuple l2 ys) (hx:xs[k1]?=some x) (hy:ys[k2]?=some y)
  (hQ:∀h',IsZip h' z TI TO (rawInt 'n')->IsPair h' TO x y->h'.IsTupleIter i1 l1 (k1+1)->h'.IsTupleIter i2 l2 (k2+1)->IsPair h' 'n' x y->h'.objs.size='n'+1->(∀c o,c≠z->c≠TO->c≠i1->c≠i2->s.heap.get? c=some o->h'.get? c=some o)->Q (some (.ref 'n')) {s with heap:=h'}):
  wpAny (model prog w) A (pyNext (.ref z)) Q E s:=by
 have d:s.TypeIs (.ref z) "zip":=(#[_,hz,J]);unfold pyNext;erw[bj (wpAny_attempt (wpAny_callSpecial?_slot (name:=Str.ofString "__next__") d F.slot_zip_next (wpAny_call_entry F.slot_zip_next d F.entry_zip_next
   (yo1 D hz hTI hTO h1 h2 hl1 hl2 hx hy λh' f g i e j k h=>bv (hQ h' f g i e j k h)) (F.args_zip_next_1 _))))]
def ynm{z TI TO:qa}{b:qc}{Q:ql qc->qb->Prop}(hh:A.handled=none)(D:ZipApart z TI TO i1 i2 l1 l2)(hz:IsZip s.heap z TI TO .none)(hTI:IsPair s.heap TI (.ref i1) (.ref i2))(hTO:IsPair s.heap TO a b)
  (h1:s.heap.IsTupleIter i1 l1 k1) (h2:s.heap.IsTupleIter i2 l2 k2) (hl1:s.heap.IsTuple l1 xs) (hl2:s.heap.IsTuple l2 ys) (hend:xs[k1]?=none\/ys[k2]?=none)
  (hQ:∀h',(∀c o,c≠z->c≠TO->c≠i1->c≠i2->s.heap.get? c=some o->h'.get? c=some o)->Q none {s with heap:=h'}):wpAny (model prog w) A (pyNext (.ref z)) Q E s:=by
 have d:s.TypeIs (.ref z) "zip":=(#[_,hz,J]);unfold pyNext;erw[bj (wpAny_attempt (wpAny_callSpecial?_slot (name:=Str.ofString "__next__") d F.slot_zip_next (wpAny_call_entry F.slot_zip_next d F.entry_zip_next
  (yut hh D hz hTI hTO h1 h2 hl1 hl2 hend λh' e f h=>?_) (F.args_zip_next_1 _))))]
 let#[o,g,i]:=h;erw[bj (wpAny_isInstance (T:="StopIteration") (b:=true) #[o,g,i] isSubtype_stop ?_),<-bv (hQ _ f)]
end
end
mutual
noncomputable abbrev zT1(h:qg)(l1:qa):qg:=h.push { cls:=.type "tuple_iterator",data:=.fields (List.toArray [.ref l1,.int 0 0])}
abbrev zT2(h:qg)(l1 l2:qa):qg:=(zT1 h l1).push { cls:=.type "tuple_iterator",data:=.fields (List.toArray [.ref l2,.int 0 0])}
abbrev zT3(h:qg)(l1 l2:qa):qg:=(zT2 h l1 l2).push { cls:=.type "tuple",data:=.seq (List.toArray [.ref h.objs.size,.ref (zT1 h l1).objs.size])}
abbrev zT4(h:qg)(l1 l2:qa):qg:=(zT3 h l1 l2).push { cls:=.type "tuple",data:=.seq (List.toArray [.none,.none])}
abbrev zT5(h:qg)(l1 l2:qa):qg:=(zT4 h l1 l2).push { cls:=.type "zip",data:=.fields (List.toArray [.none,.bool false,.bool false,.ref (zT2 h l1 l2).objs.size,.ref (zT3 h l1 l2).objs.size])}
def ytj(l1 l2:qa)(xs ys:Array qc):Meets (Builtin.«zip.__new__» #[[.type "zip",.ref l1,.ref l2],[]]) (λZ R s=>s.heap.IsTuple l1 xs/\s.heap.IsTuple l2 ys/\R (.ok (.ret (.ref (zT4 s.heap l1 l2).objs.size))) {s with heap:=zT5 s.heap l1 l2}) :=
 .of_wp λl w A R s h=>by
  let#[f,g,d,i,j]:=s;let#[b,a,h]:=h;let k:=sub_zip;have c:Heap.IsTuple (Shared.heap #[f,g,d,i,j]) l1 xs:=b;have e:Heap.IsTuple (Shared.heap #[f.push { cls:=.type "tuple_iterator",data:=.fields (List.toArray [.ref l1,.int 0 0])},g,d,i,j]) l2 ys:=Heap.IsTuple.push a _
  wp_walk using wpAny_pyIter_tuple c,wpAny_pyIter_tuple e
  exists _,J,h
end
section
variable{prog:qi}{w:qe}{A:qf}{E:Δ}{s:qb}
def ypg{Q:Δ}(hl1:s.heap.IsTuple l1 xs)(hl2:s.heap.IsTuple l2 ys)
  (h:∀h',IsZip h' ('n'+4) ('n'+2) ('n'+3) .none->IsPair h' ('n'+2) (.ref 'n') (.ref ('n'+1))->IsPair h' ('n'+3) .none .none->h'.IsTupleIter 'n' l1 0->h'.IsTupleIter ('n'+1) l2 0 ->
   (∀c o,s.heap.get? c=some o->h'.get? c=some o)->Q (.ref ('n'+4)) {s with heap:=h'}):wpAny (model prog w) A (call (.type "zip") [.ref l1,.ref l2]) Q E s:=by
 erw[callType_new F.called_zip ∅ (F.typeCall_zip_2 _ _) (F.newCall_zip_2 _ _) (λd=>F.args_object_init_3 d _ _) F.entry_zip_new (ytj l1 l2 xs ys) #[hl1,hl2,?_]];have b:(zT1 s.heap l1).objs.size='n'+1:=Heap.size_push ..;have a:(zT2 s.heap l1 l2).objs.size='n'+2:=by rw[Heap.size_push,b]
 have e:(zT3 s.heap l1 l2).objs.size='n'+3:=by rw[Heap.size_push,a]
 have f:(zT4 s.heap l1 l2).objs.size='n'+4:=by rw[Heap.size_push,e]
 have g5:(zT5 s.heap l1 l2).get? (zT4 s.heap l1 l2).objs.size=some _:=bC _ J;have g4:(zT5 s.heap l1 l2).get? (zT3 s.heap l1 l2).objs.size=some _:=br _ (bC _ J);have g3:(zT5 s.heap l1 l2).get? (zT2 s.heap l1 l2).objs.size=some _:=br _ (br _ (bC _ J));have g2:(zT5 s.heap l1 l2).get? (zT1 s.heap l1).objs.size=some _:=br _ (br _ (br _ (bC _ J)));have g1:(zT5 s.heap l1 l2).get? 'n'=some _:=(br _ (br _ (br _ (br _ (bC _ J)))));show _/\_;rw[a,e,f]at g5;rw[b,a]at g3;rw[e]at g4;rw[b]at g2;rwa[f,#[#[_,g5,J],h _ g5 g3 g4 #[_,g1,J,J] #[_,g2,J,J] λc o x=>(br _ (br _ (br _ (br _ (br _ x)))))]]
end
mutual
abbrev vgc(K:xy)(a b:qa):It:=vit (SqT K) a b
abbrev vi5:=vgg Heap.IsTupleIter
def Zap.apartT{X:Cx}{H:Hp}{s:qb}{z TI TO:qa}{xs ys:Ξ}{us vs:Τ}(d:Zap z TI TO i1 i2)(st:vi5 z TI TO i1 i2 l1 l2 i s.heap)(p:s.heap.IsTuple l1 xs.toArray)(q:s.heap.IsTuple l2 ys.toArray)(hn:H TO=none)(hK:X.K.lookup TO=none)
  (hq:SqT X.K H l1 us) (hq':SqT X.K H l2 vs):ZipApart z TI TO i1 i2 l1 l2:=by
 let#[n,v,#[a,b,w],#[B,m,u,_],#[y,t,k,_]]:=st;let#[A,j,f,_]:=p;let#[x,e,g,_]:=q
 have c:∀{l:qa}{r:Τ},SqT X.K H l r->l≠TO:=λ{l r}h=>by
  rintro rfl;rcases h with(h|⟨o,h⟩)|⟨_,_,_,h,_⟩
  .rw[hn]at h;cases h
  .rw[hn]at h;cases h
  .rw[hK]at h;cases h
 erw[d.a1,d.a2,d.a3,d.a4,d.a5,d.a6,d.a7,d.a8,d.a9,d.b1,
  ju j n (by rwa[f,nT ∅]),c hq,ju j m (by rw[f,u];decide),ju j t (by rw[f,k];decide),
  ju e n (by rwa[g,nT ∅]),c hq',ju e m (by rw[g,u];decide),ju e t (by rw[g,k];decide)]
def yi5{w:qe}{K:xy}{x1}(l1 l2 z TI TO i1 i2:qa)(d:Zap z TI TO i1 i2)(hKT:K.lookup TO=none):
  yhi P w K (.Tuple elts x1 tpos) (vgc K l1 l2) [z,TI,TO,i1,i2] z (vi5 z TI TO i1 i2 l1 l2):=ycm #[λ⟨o,e,_,d⟩=>#[o,e,_,d],λh f=>h.at f,λ{X j σ H s l xs ys}B I h g=>by subst B;erw[I.tuple_inj h g],λ{X j σ H s E i xs ys x y}B I O F v c S Y=>by
  subst B;let#[b,M,p,ς]:=I.tuple v;let#[a,r,G,C]:=I.tuple c;let#[u,hu,ru]:=M.get S;let#[U,L,R]:=r.get Y;let D:=d.apartT (xs:=b) (ys:=a) F p G O hKT v c;let#[N,n,#[Z,T,t],m,q]:=F
  erw[u,U,ru,R,D,λQ k=>yo3 (xs:=b.toArray) (ys:=a.toArray) D N n t m q p G (by simpa using hu) (by simpa using L) k],λ{X j σ H s E i xs ys}B hc I O F v c S Q k=>by
  subst B;let#[b,M,p,ς]:=I.tuple v;let#[a,r,G,C]:=I.tuple c;let D:=d.apartT (xs:=b) (ys:=a) F p G O hKT v c;let#[N,n,#[Z,T,t],m,q]:=F;let hl:=M.length;let a0:=r.length;erw[ynm (xs:=b.toArray) (ys:=a.toArray) (show X.A.handled=none from I.ok.hd hc) D N n t m q p G (by simp;omega) k]]
end
section
mutual
variable{X:Cx}
def ve5(K:xy)(ta:TA):TI:=λσ H R=>ta σ H λvs H1=>∃a b,vs=[.ref a,.ref b]/\(∃xs ys,SqT K H1 a xs/\SqT K H1 b ys)/\R (vgc K a b) H1
def ywe{x1}{l m:qh}{ta:TA}{p pos:Pos}(hg:Gl X "zip")(hm:X.mg "zip"=none)(ha:PA X [l,m] ta)(hs:↑(starEach [l,m] X.env=[(false,eval l X.env),(false,eval m X.env)]))(hs2:↑(starEach [m] X.env=[(false,eval m X.env)])):
  PI X (.Tuple elts x1 tpos) (.Call (.Name "zip" p) [l,m] [] pos) (ve5 X.K ta):=by
 intro i s σ H R I h;erw[Call_ (Ŋ I hg hm (show bootBuiltins "zip"=some (.type "zip") by decide+kernel) (PyProof.Rows.callWith_type1 (thn (ha pos i s σ H _ I h) λP c h'=>?_) (by rw[hs,hs2]) (by rw[hs2];rfl)))];let#[M,F,d,z,C]:=h';let#[a,b,e,#[O,Q,B,v],q]:=C;subst e
 cases z with
 |cons r rr =>
  cases rr with
  |cons r' rr =>
   cases rr;cases r;cases r';let#[k,N,G,n]:=d.tuple B;let#[g,E,w,ς]:=d.tuple v;erw[ypg (show c.heap.IsTuple a k.toArray from G) (show c.heap.IsTuple b g.toArray from w) λL n j t D y A=>?_,<-wpAny_pyIter_zip n ?_]
   have x:X.K.lookup (c.heap.objs.size+3)=none:=by
    cases hl:X.K.lookup (c.heap.objs.size+3)with
    |none=>rfl
    |some o=>erw[absurd (bE (d.kIn _ o hl)) (Nat.not_lt.mpr (Nat.le_add_right _ _))]
   have u:Zap (c.heap.objs.size+4) (c.heap.objs.size+2) (c.heap.objs.size+3) c.heap.objs.size (c.heap.objs.size+1):=yp9 _;erw[c.heap.objs.size+4,[c.heap.objs.size+4,c.heap.objs.size+2,c.heap.objs.size+3,c.heap.objs.size,c.heap.objs.size+1],_,_,F,J,d.kept (t':=c.toks) A,yi5 a b _ _ _ _ _ u x,#[n,j,#[_,_,t],D,y],λb f=>?_,q]
   have f:c.heap.objs.size<=b:=by
    simp only[bH,List.not_mem_nil,or_false]at f;rcases f with rfl|rfl|rfl|rfl|rfl<;>omega
   erw[d.fpOk f (d.hok.fresh f)]
def yv3{K:xy}{ta:TA}{σ:St}{H:Hp}{R:It->Hp->Prop}(h:ta σ H λvs H1=>∃a b,vs=[.ref a,.ref b]/\(∃xs ys,SqT K H1 a xs/\SqT K H1 b ys)/\R (vgc K a b) H1):ve5 K ta σ H R:=h
end
end
def ydy{K:xy}{a b D:qa}{xs ys:Τ}{g:TG}{te:TE}{n m:Nat}{fr:St}{R:Hp->Prop}{H1:Hp}(f:Nat->V)(hq:SqT K H1 a xs)(hq':SqT K H1 b ys)(h1:m<=xs.length)(h2:m<=ys.length)(h3:xs.length<=m\/ys.length<=m)(hD:H1 D=none)
  (hs:∀i x y H t pre,i<m->xs[i]?=some x->ys[i]?=some y->yu H1 H->H D\((List.range i).map f)->H t=none->List.length pre=n->g (.ref t) (pre++fr) (upd H t (.tup [x,y])) λσ' H'=>(∃pre',List.length pre'=n/\σ'=pre'++fr)/\te σ' H' (MpK H1 D f m i))
  (hd:∀H,yu H1 H->H D\((List.range m).map f)->R H):ß (vgc K a b) g te n fr D R H1:=by
 erw[cW m (Mp H1 D f),#[m,'s',bR _,Mp.zero hD],?_];rintro i j H ⟨rfl,r,p⟩;let q:=p.1.tup hq;let c:=p.1.tup hq';by_cases hlt:i<m
 .erw[.inr #[#[xs,ys,xs[i]'(),ys[i]'(),q,c,bp _,bp _],λy H' pre h d=>?_]];let#[t,x,y,J,l,J,o,k]:=h;erw[hs i x y H t pre hlt (o xs q) (k ys c) p.1 p.2 l d]
 .have e:i=m:=()
  subst e;erw[.inl #[#[xs,ys,q,c,h3],hd H p.1 p.2]]
end L2
namespace L2
open HT
section
variable{prog:qi}{w:qe}{A:qf}{E:Δ}{s:qb}
def yd9{t sl:qa}{items:Array qc}{vl vu:qc}{lo hi:ql Int}{Q:Δ}(ht:IsTup s.heap t items)(hs:s.heap.IsSliceOf sl vl vu .none)(pl:IsPart vl lo)(pu:IsPart vu hi)
  (hw:sIx items.size 0 lo=0/\sIx items.size items.size hi=items.size) (h:Q (.ref t) s):wpAny (model prog w) A (getItem (.ref t) (.ref sl)) Q E s:=by
 let#[e,c,d,f]:=id hs;have b:s.TypeIs (.ref sl) "slice":=#[e,c,d];unfold getItem
 try with_reducible refine wpAny_holding ?_
 first|erw[bj (bv ?_)]|skip
 erw[bj (wpAny_sequenceKey ht.typeIs ∅ ?_),<-bj (wpAny_callSpecial?_slot (name:=Str.ofString "__getitem__") ht.typeIs PyProof.Rows.slot_tuple_getitem
  (wpAny_call_entry PyProof.Rows.slot_tuple_getitem ht.typeIs entry_tuple_getitem ?_ (args_tuple_getitem _ _)))]
 show wpAny _ _ (Builtin.Tuple.tupleItemsOf (.ref t) >>=_) _ _ s;erw[bj (tupleItemsOf_ ht ?_),<-bj (wpAny_typeOf b ?_)];rwa[if_pos ∅,bj (ρ hs pl pu ?_)]
 have a:(((sIx items.size 0 lo:Nat):Int) == 0 && (1:Int) == 1 && (sIx items.size items.size hi-sIx items.size 0 lo) == items.size)=true:=by
  rw[hw.1,hw.2];simp
 show wpAny _ _ (if (((sIx items.size 0 lo:Nat):Int) == 0 && (1:Int) == 1 && (sIx items.size items.size hi-sIx items.size 0 lo) == items.size)=true then _ else _) _ _ s;rwa[if_pos a,bj (m:=Builtin.Tuple.tupleIsExact _) ?_];unfold Builtin.Tuple.tupleIsExact;erw[bj (wpAny_typeOf ht.typeIs (bv ?_))];show wpAny _ _ (if (Value.type "tuple" == Value.type "tuple")=true then _ else _) _ _ s;rw[if_pos ∅]
 first
  |erw[bj (wpAny_rule (bv #[_,J,bv h]))]
  |erw[bj (wpAny_rule (bj (bv (bv #[_,J,bv h]))))]
  |erw[bj (bj (wpAny_rule (bv (bv #[_,J,bv h]))))]
end
section
mutual
variable{X:Cx}
def vhm(K:xy):V->ql Int->ql Int->Hp->VK->Prop:=λx lo hi H Q=>∃a xs,x=.ref a/\SqT K H a xs/\(HT.sIx xs.length 0 lo=0/\HT.sIx xs.length xs.length hi=xs.length)/\Q (.ref a) H
def yv7:SlR X (vhm X.K):=by
 intro d s σ H x v p o lo t n Q I k l g i h;let#[a,j,J,m,f,q]:=h;cases k;let#[c,r,e,u]:=I.tuple m;have b:c.toArray.size=j.length:=by rwa[bF,r.length.symm]
 erw["tuple",_,PyProof.Rows.slot_tuple_getitem.lookup,e.typeIs,yd9 e l g i (by rwa[b,f]) #[.ref a,H,I,J,q]]
end
end
end L2
namespace L2
section
variable{X:Cx}{a b:qh}{ta tb:TE}{pos:Pos}{ts:TS}{st:qd}
def ywo{op:Operator}{r:R2}(ho:OpR X (binaryOp op) r)(ha:QE X a ta)(hb:QE X b tb):QE X (.BinOp a op b pos) (tOp r ta tb):=by unfold QE at ha hb⊢;erw[yo ho ha hb]
end
mutual
variable{C Ca D:qa}{pins:Θ}{i:Nat}{d:ql qa}{hpos:Pos}{st:qd}{qual x:Str}
def yfc{X:Cx}{K:xy}{e:qh}{f:Str}{pos:Pos}{ta:TE}(hK:X.K=K)(he:PE X e ta)(hb:attributeBase e f X.env (eval e X.env)=eval e X.env):PE X (.Attribute e f pos) (vgi K ta f):=hK ▸ jj he hb
def ă(ς:It)(tc:TT)(te:TE)(fr:St)(D:qa)(R:Hp->Prop)(H1:Hp):Prop:=∃W:Nat->Nat->Hp->Prop,(∃m,W 0 m (upd H1 D (.lst [])))/\
 ∀i m H2,W i m H2->(ς.stop i H2/\R H2)\/(ς.go i H2/\∀x H3,ς.yld i H2 x H3->tc (some x::fr) H3 λb H4=>if b=true then te (some x::fr) H4 (λy H5=>∃ys,H5 D\ys/\ys.length<sizeLine/\∃m',m'<m/\W (i+1) m' (upd H5 D (.lst (ys++[y]))))else ∃m',m'<m/\W (i+1) m' H4)
def ysg(wi:TI)(tc:TT)(te:TE)(js:qj Nat):TE:=λσ H Q=>wi σ H λς H1=>∀D,H1 D=none->ă ς tc te (uy js σ) D (λH2=>Q (.ref D) H2) H1
end
section
mutual
variable{X:Cx}{iter elt cnd:qh}{tc:TT}{px pos:Pos}{scope:Scope}{te:TE}{wi:TI}{σ:St}{ys:Ρ}{js:qj Nat}
def yzc{ς:It}{fr:St}{R:Hp->Prop}{H1:Hp}(h:ă ς tc te fr D R H1):yk5 ς (xw 0) tc te 1 fr D R H1:=by let#[W,f,j]:=h;erw[W,f,λi m b w=>(j i m b w).imp id λ⟨e,y⟩=>#[e,λx k c d a=>?_]];let#[z,t,J,g]:=ĝ a;obtain rfl:=List.length_eq_zero_iff.mp g;erw[#[[some x],J,J],y x k d]
def yhm{s2:qb}{H2:Hp}{it:qa}{fp:Φ}{tn:Nat->qg->Prop}{ς:It}(hc:X.calm=true)
  (ht:∀(C:qa)(s2:qb)(H2:Hp)(fp:Φ),PT (X.compF scope ys C x s2 H2 fp) cnd tc) (he:∀(C:qa)(s2:qb)(H2:Hp)(fp:Φ),PE (X.compF scope ys C x s2 H2 fp) elt te)
  (hcell:∀y∈scope.names,y.2≠.cell) (hkind:scope.kind=.function) (hx:scope.names.lookup x=some .local) (hnd:(x::ys).Nodup)
  (hfr:∀y∈scope.names,y.2=.free->y.1∈ys) (hyc:∀y∈ys,X.env.kindOf y=some .cell) (hrel:∀y∈ys,(relabel scope X.env).names.lookup y=some .cell) (hjs:js.map (λj=>X.N[j]?)=ys.map some)
  (I2:Inv X pins σ H2 s2) (T:yhi X.prog X.w X.K (.Name x px) ς fp it tn) (st2:tn 0 s2.heap) (f2:∀b∈fp,ydn X pins H2 b)
  {R:qa->Hp->Prop} (h:∀D,H2 D=none->ă ς tc te (uy js σ) D (R D) H2) {RR:qc->qa->Result->qb->Prop} {E:Δ}
  (hR:∀(D C:qa)(H':Hp)(s':qb)(m:Ε),ydn X pins H' C->s'.heap.Ns C m->Inv X pins σ H' s'->R D H'->RR (.ref D) C (.ok .next) s'):
  wpAny (model X.prog X.w) X.A (newList []) (λacc s₃=>'w' (newFunctionEnv scope X.env.globals (ę ys X.env) [] X.env.qual none .none (some X.env)) (λcenv s₄ =>
   codeAny (model X.prog X.w) X.A (.compStart (.ListComp elt [#[.Name x px,iter,[cnd],0]] scope pos) 0 (.ref it) acc {cenv with scope:=relabel scope X.env}) (RR acc cenv.locals) s₄) E s₃) E s2 :=
 Ū (tg:=.Name x px) (xs:=[x]) (g:=xw 0) hc (λC s2 H2 fp=>yti (ht C s2 H2 fp)) he (λC s2 H2 fp=>xb (i:=0) hnd J (Or.inl (lookup_relabel_local hx)) (Or.inr (lookup_relabel_local hx))) hcell hkind hfr hyc hrel hjs I2 T st2 f2 (λD a=>yzc (h D a)) hR
def yfx{y:Str}{py spos:Pos}(hN:X.N.Nodup)(hy:X.N[i]?=some y)(hl:X.env.scope.names.lookup y=some .local)(hc:X.calm=true)(hi:PI X (.Name x px) iter wi)
  (ht:∀(C:qa)(s2:qb)(H2:Hp)(fp:Φ),PT (X.compF scope ys C x s2 H2 fp) cnd tc) (he:∀(C:qa)(s2:qb)(H2:Hp)(fp:Φ),PE (X.compF scope ys C x s2 H2 fp) elt te) (hjs:js.map (λj=>X.N[j]?)=ys.map some)
  (hclos:closureFor scope X.env=pure (ę ys X.env)) (hyc:∀y∈ys,X.env.kindOf y=some .cell) (hrel:∀y∈ys,(relabel scope X.env).names.lookup y=some .cell)
  (hsw:↑(swapsWith (.ListComp elt [#[.Name x px,iter,[cnd],0]] scope pos) (some (.Name y py)) spos.line X.env=pure true)) (hnd:⇑((x::ys).Nodup))
  (hfr:↥(∀y∈scope.names,y.2=.free->y.1∈ys)) (hcell:↥(∀y∈scope.names,y.2≠.cell)) (hkind:↑(scope.kind=.function))
  (hnames:↥(∀y∈scope.names,y.2=.local->scope.names.lookup y.1=some .local)) (hx:↑(scope.names.lookup x=some .local)) (hs:autoParam (∀x,foldedSetIterable iter X.env x=pure x) aD._auto_1):
  PS X (.Assign [.Name y py] (.ListComp elt [#[.Name x px,iter,[cnd],0]] scope pos) spos) (ywz (ysg wi tc te js) (xw i)):=by
 erw[.mk λa s σ H p I h=>?_];rwa[exec_Assign_Name_used _ _ _ _ hsw,bj (wpAny_standAt (bj ?_))];show wpAny _ X.A (do let _ <- comprehension (.ListComp elt [#[.Name x px,iter,[cnd],0]] scope pos) scope X.env _ (newList []) false (eval iter X.env) (some (assign (.Name y py) X.env))) _ _ s;erw[bj (cr (wpAny_comprehension_free (use:=some (assign (.Name y py) X.env)) (Q:=λZ d=>SP X a p .next d) J hs hclos hkind hnames (thn (hi a s σ H _ I h) λv P F=>thn F λu s2 B=>?_)) (λZ d E=>bv (bv E)) λZ Z e=>e)];let#[S,fp,U,ς,H2,e,K,T,g,M,h]:=B;subst e;erw[yhm (R:=λD r=>xw i (.ref D) σ r p.nx) (RR:=compPost (model X.prog X.w) X.A X.xe (some (assign (.Name y py) X.env)) (λZ d=>SP X a p .next d)) hc ht he hcell hkind hx hnd hfr hyc hrel hjs K T g M h ?_];intro D C r d m f L G q;erw[wpAny_assign_Name (ê (v:=V.ref D) G hN hy (Or.inl hl) J (λl n k=>?_) (Or.inr hl)),<-m,?_,λO t=>#[_,r,?_,q]]
 .let#[b,t,c]:=k;erw[L.sameBut t λz=>?_];rcases c with c|c
  .erw[f.2.1 (z.trans c)]
  .erw[f.2.2.2.2.1 y b c z.symm]
 .erw[n.turned (t':=l.toks) (λb o c e=>t.extBut b o c e) f.1 f.2.1 f.2.2.2.1 f.2.2.2.2.1 f.2.2.2.2.2]
def ytm{H:Hp}{Q:VK}(h:wi σ H λς H1=>∀D,H1 D=none->ă ς tc te (uy js σ) D (λH2=>Q (.ref D) H2) H1):ysg wi tc te js σ H Q:=h
def yed{lo:Int}{n:Nat}{fr:St}{R:Hp->Prop}{H1:Hp}(Pv:Nat->Hp->Prop)(h0:Pv 0 (upd H1 D (.lst [])))
  (hs:∀i H,i<n->Pv i H->tc (some (.int (lo+i))::fr) H λb H4=>if b=true then te (some (.int (lo+i))::fr) H4 (λy H5=>∃ys,H5 D\ys/\ys.length<sizeLine/\∃m',m'<n-i/\cW n Pv (i+1) m' (upd H5 D (.lst (ys++[y]))))else ∃m',m'<n-i/\cW n Pv (i+1) m' H4)
  (hd:∀H,Pv n H->R H):ă (Itr lo n) tc te fr D R H1:=by
 erw[cW n Pv,#[n,'s',bR _,h0],?_];rintro i m H ⟨rfl,a,p⟩;by_cases hlt:i<n
 .erw[.inr #[hlt,λx c y=>?_]];let#[e,y]:=y;subst e y;erw[hs i _ hlt p]
 .have e:i=n:=()
  subst e;erw[.inl #[bx _,hd H p]]
def ycd{n:Nat}{Pv:Nat->Hp->Prop}{H4:Hp}(hi:i<n)(p:Pv (i+1) H4):∃m',m'<n-i/\cW n Pv (i+1) m' H4:=#[n-(i+1),(),J,hi,p]
end
end
mutual
structure vgh(K:xy)(x qual:Str)(st:qd)(D:qa)(f:qa)(fd:FuncData):Prop where
 ex:∃(oc:qc)(od:ql qa)(kV doc pm:qc)(an:ql qa)(cdv ct:qc)(osl:Array (ql qc)),
  fd=W.fnOf x qual (xz st) (xi st) (ye st) (.ref D) kV doc pm an cdv ct/\K.lookup f=some #[oc,od,.func fd,osl]/\W.codeIn K cdv qual=true
 kp:W.keepIn K (.ref f)=true
end
section
mutual
variable{P:qi}{w:qe}{K:xy}{mg:Ε}{base:qg}
def vgh.okE{f:qa}{fd:FuncData}{N ps:Ρ}{k:Nat}{sp:Sp}(F:vgh K x qual st D f fd)(S:yk N ps (ye st))(len:∀vs H Q E,sp vs H Q E->vs.length=ps.length)
  (hbody:∀(cdv:qc)(A:qf)(outer:qj Env)(s:qb)(H:Hp)(vs:Τ)(Q:VK)(E:XK),ο k (A.deeper (envOfC qual (ye st) 'n' f cdv))->sp vs H Q E ->
   ∃t,PSs (vy (CXe P w) P w K mg base N qual (ye st) f cdv A outer s H E) (xi st) t/\t { nx:=λZ H'=>Q .non H',rt:=Q} (ė N vs) H):vx P w K mg base (CXe P w) (k+1) f fd ps sp:=by let#[l,j,kV,e,i,h,cdv,m,g,J,c,b]:=F.ex;erw[ywm c b S len λA outer s H vs Q E d a=>hbody cdv A outer s H vs Q E d a]
def vij:Nat->(qj qc->Prop)->Prop
 |0,C=>C []
 |n+1,C=>∀a,vij n λt=>C (a::t)
def yub:∀{n:Nat}{C:qj qc->Prop}{us:Ξ},vij n C->us.length=n->C us:=by
 intro n C us
 induction us generalizing n C with
 |nil=>intro h e;subst e;erw[h]
 |cons a t ih=>intro h e;subst e;erw[ih (h a) J]
def bindsR{ps:Ρ}{ds:Ξ}{c:qc}{od an:ql qa}{sl:Array (ql qc)}{its:Array qc}{n j:Nat}{kV doc pm cdv ct:qc}(hj:j+ds.length=ps.length)
  (h:∀(kV doc pm:qc)(an:ql qa)(cdv ct:qc),vij j λus =>
   ∃k:ql (Array qc)->Sem (qj (Str×qc)),bindArgs (W.fnOf x qual (xz st) (xi st) (ye st) (.ref D) kV doc pm an cdv ct) #[us,[]]=(seqItems? (.ref D) >>=k)/\k (some its)=pure (ps.zip (us++ds))) (hD:K.lookup D=some #[c,od,.seq its n,sl]):jl K (W.fnOf x qual (xz st) (xi st) (ye st) (.ref D) kV doc pm an cdv ct) ps ds:=by intro s us a b;let#[k,e,d]:=yub (us:=us) (h kV doc pm an cdv ct) (by rw[bq]at b;omega);erw[BindsTo.of_defaults J (a _ _ hD) J e d]
def funD_mk{f:qa}{oc:qc}{od an:ql qa}{osl:Array (ql qc)}{kV doc pm cdv ct:qc}(l:K.lookup f=some #[oc,od,.func (W.fnOf x qual (xz st) (xi st) (ye st) (.ref D) kV doc pm an cdv ct),osl])
  (c:W.codeIn K cdv qual=true) (k:W.keepIn K (.ref f)=true):vgh K x qual st D f (W.fnOf x qual (xz st) (xi st) (ye st) (.ref D) kV doc pm an cdv ct):=#[#[oc,od,kV,doc,pm,an,cdv,ct,osl,J,l,c],k]
end
end
def yll(K:xy):qj V->Hp->VK->Prop:=λxs H Q=>∃p ys,xs=[.ref p]/\(SqL K H p ys\/SqT K H p ys)/\∀l,H l=none->Q (.ref l) (upd H l (.lst ys))
section
mutual
variable{X:Cx}{body suite:qj qd}{b₀:qd}{tx n:Str}{np pos:Pos}{tb:(St->XK)->TS}{ts:TS}
abbrev THs:=ã->St->qa->qa->ql qa->Hp->Prop
def PHs(X:Cx)(hs:qj ExceptHandler)(th:THs):Prop:=∀(pins:Θ)(s:qb)(σ:St)(H:Hp)(x T Ca:qa)(d:ql qa)(En:ã),'i' s->Fy X pins H x->Fy X pins H T->Trd s.heap x T (.ref Ca) d->th En σ Ca x d H ->
 wpAny (model X.prog X.w) X.A (handleBy (.ref x) X.env hs) (SP X pins En) X.xe s
def vg8:THs:=λZ Z Z Z Z Z=>False
def thC(K:xy)(D:qa)(ts:TS)(tr:THs):THs:=λEn σ Ca x d H=>(W.exmOne K (.ref Ca) (.ref D)=some true/\ts En σ H)\/(W.exmOne K (.ref Ca) (.ref D)=some false/\tr En σ Ca x d H)
def ydb{hs:qj ExceptHandler}:PHs X hs vg8:=λZ Z Z Z Z Z Z Z Z Z Z Z Z h=>h.elim
def â{w8:qj ExceptHandler}{tr:THs}(hg:Gl X tx)(hm:X.mg tx∣D)(hs:∀pn x,PSs (X.su pn x) (b₀::suite) ts)(hr:PHs X w8 tr)(hdb:⇑((tx == ("__debug__":Str))=false)):
  PHs X (.ExceptHandler (some (.Name tx np)) none (b₀::suite) hpos::w8) (thC X.K D ts tr):=by
 intro c s σ H x T n d m ς o l a q;erw[wpAny_handleBy_cons (codeAny_handlers_test (jx (ς.su x) hg hm ?_ hdb)) 'z']
 have j:Ĝ x n s.heap:=by
  let#[t,_,_,_,_,p,y,_]:=id a;erw[t,p,y.1]
 rcases q with⟨i,q⟩|⟨i,q⟩
 .erw[W.exm_one (M:=model X.prog X.w) (h:=s.heap) ς.kIn j.type i _ _ _ _ (λZ Z z=>z) ?_];dsimp only[if_true];erw[codeAny_handlers_suite ?_];let k:=ς.ok;erw[zj ς o l a λB C ς l a=>?_];refine cr (hs (X.pn++c) x [] _ _ _ m (ς.su x) q) (λf A q=>?_) λZ Z z=>False.elim z
  cases f with
  |next=>let⟨σ6,e,g,q⟩:=q;erw[σ6,e,g.unsu k,q]
  |brk=>let⟨σ6,e,g,q⟩:=q;erw[σ6,e,g.unsu k,q]
  |cont=>let⟨σ6,e,g,q⟩:=q;erw[σ6,e,g.unsu k,q]
  |ret u=>let⟨v,σ6,e,g,r,q⟩:=q;erw[v,σ6,e,g.unsu k,r,q]
 .erw[W.exm_one (M:=model X.prog X.w) (h:=s.heap) ς.kIn j.type i _ _ _ _ (λZ Z z=>z) ?_];erw[hr c _ σ H x T n d m ς o l a q]
def exm_mkB{K:xy}{b:Bool}(h0:W.subIn K (.ref D) (.type "BaseException")=some true)(h1:W.hasDictIn K D=true)(h2:W.typeIn K (.ref D)=some (.type "type"))
  (h3:W.subIn K (.ref C) (.ref D)=some b):W.exmOne K (.ref C) (.ref D)=some b:=by let#[a,h,_]:=W.any_some h1;unfold W.exmOne W.kitCls;rw[h0];dsimp only;rw[h,h2,h3];cases b<;>rfl
def exH(th:THs)(En:ã):St->XK:=λσ' C d H'=>∀x,H' x=none->∃Ca,C=.ref Ca/\th En σ' Ca x d H'
def vfk(tb:(St->XK)->TS)(th:THs):TS:=λEn σ H=>tb (exH th En) En σ H
def ć{h₀:ExceptHandler}{hs:qj ExceptHandler}{th:THs}(hb:∀pn Ex,PSs (X.tr pn Ex) body (tb Ex))(hst:X.stack=X.env::X.outer/\X.env.frame=some X.env.locals)(hh:PHs X (h₀::hs) th):
  PS X (.Try body (h₀::hs) [] [] pos) (vfk tb th):=by
 erw[.mk λa s σ H i I h=>?_]
 have l:∀{f k},SP (X.tr (X.pn++a) (exH th i)) [] i f k->SP X a i f k:=λ{f k}q=>by
  cases f with
  |next=>let⟨σ',c,ς,q⟩:=q;erw[σ',c,ς.unwish.unpnd,q]
  |brk=>let⟨σ',c,ς,q⟩:=q;erw[σ',c,ς.unwish.unpnd,q]
  |cont=>let⟨σ',c,ς,q⟩:=q;erw[σ',c,ς.unwish.unpnd,q]
  |ret u=>let⟨v,σ',c,ς,r,q⟩:=q;erw[v,σ',c,ς.unwish.unpnd,r,q]
 erw[wpAny_Try_except (cr (hb (X.pn++a) (exH th i) [] s σ H i (I.pnd.wish _) h) (λf m q=>?_) λe m q=>?_)]
 .let q:=l q
  cases f with
  |next=>erw[wpAny_execs_nil q]
  |brk=>erw[q]
  |cont=>erw[q]
  |ret u=>erw[q]
 .let#[w,σ',c,x,T,C,d,J,ς,g,b,tr,q]:=q;have ς:Inv X a σ' c m:=ς.unpnd;have g:Fy X a c x:=#[g.1,g.2.1,g.2.2.1,g.2.2.2.1,g.2.2.2.2.1,λp j=>g.2.2.2.2.2 p (cN _ j)];have b:Fy X a c T:=#[b.1,b.2.1,b.2.2.1,b.2.2.2.1,b.2.2.2.2.1,λp j=>b.2.2.2.2.2 p (cN _ j)];let#[o,J,t]:=q x g.1;erw[yeq ς.ok.frames hst.1 hst.2 ς g b tr λz A ς b tr=>zj ς g b tr λy n ς b tr=>?_,<-hh a _ σ' c x n o d i ς g b tr t]
end
end
section
mutual
variable{σ:St}{H:Hp}{nx:Ζ}{rt:VK}{bk ct:Ζ}{ts:TS}
def ŵ{th:THs}{tb:(St->XK)->TS}(h:tb (exH th #[nx,rt,bk,ct]) #[nx,rt,bk,ct] σ H):vfk tb th #[nx,rt,bk,ct] σ H:=h
def ymk{K:xy}{tr:THs}{En:ã}(hex:W.exmOne K (.ref Ca) (.ref D)=some false)(h:exH tr En σ (.ref Ca) d H):exH (thC K D ts tr) En σ (.ref Ca) d H:=λx a=>by
 let#[b,e,q]:=h x a;cases e;erw[Ca,J,.inr #[hex,q]]
def yip{K:xy}{tr:THs}{En:ã}(hex:W.exmOne K (.ref Ca) (.ref D)=some true)(h:ts En σ H):exH (thC K D ts tr) En σ (.ref Ca) d H:=λZ Z=>#[Ca,J,.inl #[hex,h]]
end
end
section
variable{X:Cx}{σ:St}{H:Hp}{s:qb}{x T:qa}{C:qc}{M:Model}{A:qf}{E:Δ}
def ylp{what:String}{α:Type}{env:Env}{Q:α->qb->Prop}(ς:'i' s)(hx:Fy X pins H x)(hT:Fy X pins H T)(tr:Trd s.heap x T C d)
  (k:∀s' T','i' s'->Fy X pins H T'->Trd s'.heap x T' C d->E (.ref x) s'):wpAny M A (passOn what (.ref x) env:Sem α) Q E s:=by let#[n,h,o,p,j,e,q,g,c,r,i,l,m]:=id tr;unfold PySem.passOn;erw[bj (ce e g c ?_)];rwa[if_neg (show ¬((Value.ref T == Value.none)=true) by simp),bj (zj ς hx hT tr λs' T' b a f=>wpAny_throw (k s' T' b a f))]
end
section
mutual
variable{M:Model}{h:qg}{K:xy}
def yga{β:Type}{g:qc->β->Sem (ForInStep β)}{b0 b1:β}{f:qc->Bool}{cs:Ξ}(hg:∀c∈cs,W.Looks M h (g c b0) (if f c then .done b1 else .yield b0)):W.Looks M h (forIn cs b0 g) (if cs.any f then b1 else b0):=by
 induction cs with
 |nil =>
  intro A Q E s k q;rwa[List.forIn_nil,bv q]
 |cons c r ih =>
  intro A Q E s k q;rw[List.forIn_cons];let z:=hg c 's';rw[List.any_cons]at q
  cases e:f c with
  |false =>
   rw[e]at z q;erw[bj (z A _ E s k (ih (λd a=>hg d (by simp[a])) A Q E s k q))]
  |true =>
   rw[e]at z q;erw[bj (z A _ E s k (bv q))]
def ys4{cs:Ξ}{cls:qc}{tp e:qa}{m:Nat}{ob:Obj}{f:qc->Bool}(X:K.In h)(LT:W.Looks M h (typeOf (.ref e)) cls){h2:qg}(hk:∀b o,h.get? b=some o->h2.get? b=some o)(hp:h2.get? tp=some ob)(hc:ob.cls=.type "tuple")(hd:ob.data=.seq cs.toArray m)(hx:∀c∈cs,W.exmOne K cls c=some (f c)):W.Looks M h2 (excMatches (.ref e) (.ref tp)) (cs.any f):=by
 have g:W.Looks M h2 (isInstance (.ref tp) (.type "tuple")) true:=by
  have e:W.Looks M h2 (typeOf (.ref tp)) ob.cls:=(W.Looks.ld hp).andThen .now;rw[hc]at e;erw[e.andThen (W.Looks.of_pure isSubtype_tuple_tuple)]
 intro A Q E s k q;have d:∀b o,h.get? b=some o->s.heap.get? b=some o:=λb o z=>k b o (hk b o z);unfold excMatches;erw[bj (g A _ E s k ?_)];dsimp only;rwa[if_pos J,bj (wpAny_seqItems (k _ _ hp) hd ?_)];dsimp only[Option.getD_some,Option.getD];erw[bj (bv ?_),<-bj (yga (M:=M) (h:=h) (f:=λZ=>false) (b1:=PUnit.unit) (cs:=cs) (λc hc=>?_) A _ E s d ?_)]
 .intro A Q E s k q;let#[a,_]:=W.exm_cls (M:=M) X (hx c hc);erw[bj (a A _ E s k ?_)];rwa[if_neg ∅,bv q]
 .erw[bj (LT A _ E s d ?_)];refine bj (yga (M:=M) (h:=h) (b0:=((none:ql Bool),Unit.unit)) (b1:=(some true,Unit.unit)) (f:=f) (cs:=cs) (λc hc=>?_) A _ E s d ?_)
  .intro A Q E s k q;let#[_,a]:=W.exm_cls (M:=M) X (hx c hc);refine bj (a A _ E s k ?_)
   cases e:f c with
   |false =>
    rw[e]at q;erw[bv q]
   |true =>
    rw[e]at q;erw[bv q]
  .cases e:cs.any f with
   |false =>
    rw[e]at q;erw[bv q]
   |true =>
    rw[e]at q;erw[bv q]
end
end
section
mutual
variable{X:Cx}{suite:qj qd}{b₀:qd}{tx n:Str}{np pos:Pos}{ts:TS}
def thN(K:xy)(D:qa)(i:Nat)(ts:TS)(tr:THs):THs:=λEn σ Ca x d H=>(W.exmOne K (.ref Ca) (.ref D)=some true/\ts (En.un i) (σ.set i (some (.ref x))) (upd H x (.ext (Ĝ x Ca))))\/(W.exmOne K (.ref Ca) (.ref D)=some false/\tr En σ Ca x d H)
def Î{w8:qj ExceptHandler}{tr:THs}(hg:Gl X tx)(hm:X.mg tx∣D)(hs:∀pn x,PSs (X.su pn x) (b₀::suite) ts)(hN:X.N.Nodup)(hi:X.N[i]?=some n)(hl:X.env.scope.names.lookup n=some .local)(hr:PHs X w8 tr)(hdb:⇑((tx == ("__debug__":Str))=false)):
  PHs X (.ExceptHandler (some (.Name tx np)) (some n) (b₀::suite) hpos::w8) (thN X.K D i ts tr):=by
 intro a s σ H x T t d L ς G B c q;erw[wpAny_handleBy_cons (codeAny_handlers_test (jx (ς.su x) hg hm ?_ hdb)) 'z']
 have m:Ĝ x t s.heap:=by
  let#[C,_,_,_,_,I,E,_]:=id c;erw[C,I,E.1]
 let y:=ς.ok;rcases q with⟨l,q⟩|⟨l,q⟩
 .erw[W.exm_one (M:=model X.prog X.w) (h:=s.heap) ς.kIn m.type l _ _ _ _ (λZ Z z=>z) ?_];dsimp only[if_true];erw[codeAny_handlers_suite_as ?_];refine zj ς G B c λO T4 ς B c=>?_
  have p:Ĝ x t O.heap:=by
   let#[C,_,_,_,_,I,E,_]:=id c;erw[C,I,E.1]
  let ς:=ς.track (o:=.ext (Ĝ x t)) G #[p,let ⟨F,z,_⟩:=p;#[F,z],λZ Y ⟨F,Q,P⟩ k=>#[F,k _ Q,P]];erw[Ģ (X:=X.su (X.pn++a) x) (i:=i) (v:=V.ref x) (ς.su x) hN hi (Or.inl hl) J (λR S=>?_) (Or.inr hl),<-cr (hs (X.pn++a) x [] R _ _ (L.un i) S q) (λf U q=>?_) λZ Z z=>False.elim z]
  cases f with
  |next=>let⟨σ6,e,g,q⟩:=q;erw[(g.unsu y).unbind hN hi hl λA j=>#[_,e,j,q]]
  |brk=>let⟨σ6,e,g,q⟩:=q;erw[(g.unsu y).unbind hN hi hl λA j=>#[_,e,j,q]]
  |cont=>let⟨σ6,e,g,q⟩:=q;erw[(g.unsu y).unbind hN hi hl λA j=>#[_,e,j,q]]
  |ret u=>let⟨v,σ6,e,g,r,q⟩:=q;erw[(g.unsu y).unbind hN hi hl λA j=>#[v,_,e,j,r,q]]
 .erw[W.exm_one (M:=model X.prog X.w) (h:=s.heap) ς.kIn m.type l _ _ _ _ (λZ Z z=>z) ?_];erw[hr a _ σ H x T t d L ς G B c q]
def vad(Ex:St->XK):THs:=λZ σ Ca Z d H=>Ex σ (.ref Ca) d H
def ytc{Ex:St->XK}(hca:Č X Ex):PHs X [] (vad Ex):=λa Z σ H x Z Z d Z ς c i e q =>
 wpAny_handleBy_nil (ylp (X:=X) ς c i e λh j f b g=>hca a σ H h x j _ d f c b g q)
def thT(K:xy)(cs:Φ)(tr:THs):THs:=λEn σ Ca x d H=>(∀D∈cs,W.exmOne K (.ref Ca) (.ref D)=some false)/\∀p,H p=none->p≠x->tr En σ Ca x d (upd H p (.tup (cs.map V.ref)))
def yy5{nm:Υ}{es:qj qh}{px2:Pos}{ctx:Nat}{cs:Φ}{t:TE}{w8:qj ExceptHandler}{tr:THs}(ht:∀pn x,PE (X.su pn x) (.Tuple es ctx px2) t)(hte:∀σ H(Q:VK),(∀p,H p=none->Q (.ref p) (upd H p (.tup (cs.map V.ref))))->t σ H Q)(hr:PHs X w8 tr):
  PHs X (.ExceptHandler (some (.Tuple es ctx px2)) nm (b₀::suite) hpos::w8) (thT X.K cs tr):=by
 intro a s σ H x T n d En ς u l E q;let#[F,q]:=q;let#[i,us,r,ws,a1,O,I,P,q4,q5,Z,L,q8]:=id E;let ok:=ς.ok
 have J2:Inv X (a++[(x,i),(T,r)]) σ H s:=ς.pins_of λp j=>by
  rcases bQ.mp j with z|z
  .erw[ς.pin p (bP _ z)]
  .simp only[bH,List.not_mem_nil,or_false]at z;rcases z with rfl|rfl
   .erw[O,u.1,u.2.1,u.2.2.1,λv e=>by rw[P]at e;cases e]
   .erw[Z,l.1,l.2.1,l.2.2.1,λv e=>by rw[L]at e;cases e]
 have U:Ĝ x n s.heap:=#[i,O,I.1];erw[wpAny_handleBy_cons (codeAny_handlers_test ?_) 'z',<-cr (ht (X.pn++(a++[(x,i),(T,r)])) x [] s σ H (λv R=>∃p,v=.ref p/\H p=none/\R=upd H p (.tup (cs.map V.ref))) (J2.su x) (hte σ H _ λp j=>#[p,J,j,J])) (λc o G=>?_) λ_ _ z=>False.elim z];let#[v,R,g,S,p,J,j,J]:=G;obtain rfl:c=.ref p:=S;let g:=g.unsu ok;let k:=g.pin (x,i) 's';let N:=g.pin (T,r) 's';have B:Fy X a (upd H p (.tup (cs.map V.ref))) x:=#[k.2.1,u.2];have A:Fy X a (upd H p (.tup (cs.map V.ref))) T:=#[N.2.1,l.2];have C:Trd o.heap x T (.ref n) d:=#[i,us,r,ws,a1,k.1,I,P,q4,q5,N.1,L,q8];have g:Inv X a σ (upd H p (.tup (cs.map V.ref))) o:=Inv.unpinned g;have y:Ĝ x n o.heap:=#[i,k.1,I.1];let#[_,a0,hv,ho]:=g.hok p (.tup (cs.map V.ref)) ya;let Y:=é hv;subst Y;let nx:=q p j λz=>by have e:=k.2.1;rw[z]at e;erw[absurd (ya.symm.trans e) (by intro w;cases w)]
 let#[ob,o1,o2,m,o3]:=ho;erw[ys4 (M:=model X.prog X.w) (h:=o.heap) (f:=λ_=>false) g.kIn y.type (λ_ _ z=>z) o1 o2 o3 (λc G=>?_) _ _ _ _ (λ_ _ z=>z) ?_]
 .let#[D,W,J]:=bw.mp G;erw[F D W]
 .rw[show (cs.map Value.ref).any (λ_=>false)=false by simp];erw[hr a _ σ _ x T n d En g B A C nx]
end
end
section
mutual
variable{σ:St}{H:Hp}{ts:TS}{K:xy}{tr:THs}{En:ã}{cs:Φ}
def yit(hex:W.exmOne K (.ref Ca) (.ref D)=some true)(h:∀x,H x=none->ts (En.un i) (σ.set i (some (.ref x))) (upd H x (.ext (Ĝ x Ca)))):exH (thN K D i ts tr) En σ (.ref Ca) d H:=λx a=>#[Ca,J,.inl #[hex,h x a]]
def jk(hex:W.exmOne K (.ref Ca) (.ref D)=some false)(h:exH tr En σ (.ref Ca) d H):exH (thN K D i ts tr) En σ (.ref Ca) d H:=λx a=>by
 let#[b,e,q]:=h x a;cases e;erw[Ca,J,.inr #[hex,q]]
def ű(hex:∀D∈cs,W.exmOne K (.ref Ca) (.ref D)=some false)(h:∀p,H p=none->exH tr En σ (.ref Ca) d (upd H p (.tup (cs.map V.ref)))):exH (thT K cs tr) En σ (.ref Ca) d H:=λx c=>by
 erw[Ca,J,hex,λp b a=>?_];let#[f,e,q]:=h p b x (by rwa[yn a.symm,c]);cases e;erw[q]
end
end
def yai:entryFor table "proto.unchain"=some Builtin.«proto.unchain»:=entryFor_of_tree (by kernel_rfl)
section
mutual
variable{prog:qi}{w:qe}{A:qf}{E:Δ}{s:qb}{x y:qa}{ox oy:Obj}{vs us:Array qc}
def ydr{α:Type}{Q:α->qb->Prop}(hh:A.handled∣y)(ne:y≠x)(hy:s.heap.get? y=some oy)(dy:oy.data=.fields us)(cy:us[2]?=some .none)
  (hx:s.heap.get? x=some ox) (dx:ox.data=.fields vs) (lx:2<vs.size) (h:E (.ref x) {s with heap:=s.heap.update x (Obj.mapFields (·.setIfInBounds 2 (.ref y)))}):
  wpAny (model prog w) A (raiseNew (.ref x):Sem α) Q E s:=by unfold raiseNew;erw[bj (wpAny_handled ?_)];rw[hh];dsimp only;rwa[if_pos (show (Value.ref y != Value.ref x)=true by simp[ne]),bj (wpAny_holding (wpAny_runValue (codeAny_builtin yai ?_)))];unfold Builtin.«proto.unchain»;dsimp only;erw[bj (ce hy dy cy ?_)];rwa[if_pos ∅,bj (bv ?_)];erw[bv ?_];show wpAny _ _ (setField (.ref x) 2 (.ref y) >>=λZ=>throw _) _ _ _;erw[bj (wpAny_setField hx dx lx (wpAny_throw h))]
def yfu{K:xy}{msg:String}{Q:Δ}(X:K.In s.heap)(c:XCls K C)(hx:s.heap.get? x=some ox)(hc:ox.cls=.ref C)(dx:ox.data=.fields vs)(h:Q (.ref x) s):
  wpAny (model prog w) A (excFromValue (.ref x) msg) Q E s:=by have I:Ĝ x C s.heap:=#[ox,hx,hc];let e:=I.type (M:=model prog w);have a:W.Looks (model prog w) s.heap (isInstance (.ref x) (.type "BaseException")) true:=e.andThen (W.looks_mroIn X c.mb);let#[g,f,b,d]:=ox;dsimp only at hc dx;subst hc dx;unfold excFromValue isExcClass isType loadHead;erw[bj (bj (bj (wpAny_loadPart hx ?_))),<-bv ?_];dsimp only;rwa[if_neg ∅,bv ?_];rwa[if_neg ∅,bj (a.at ?_)];rwa[if_pos J,bv h]
def ydt{env:Env}{cx cc:Sem qc}{K:xy}{Cy:qa}{Q:Flow->qb->Prop}(hh:A.handled∣y)(hC:XMk K C)(cC:XCls K C)(cY:XCls K Cy)
  (h:wpAny (model prog w) A cx (λv s₁=>∃e t,v=.ref e/\wpAny (model prog w) A cc (λu s₂=>u=.ref y/\y≠e/\s₂.heap.get? e=some { cls:=.ref C,data:=.fields (List.toArray [.ref t,.none,.none,.none,.bool false,.none])}/\
   (∃oy us,s₂.heap.get? y=some oy/\oy.cls=.ref Cy/\oy.data=.fields us/\us[2]?=some .none)/\(∀h',(∀b,b≠e->h'.get? b=s₂.heap.get? b)->K.In h')/\
   ∀h',(∀b,b≠e->h'.get? b=s₂.heap.get? b)->h'.get? e=some { cls:=.ref C,data:=.fields (List.toArray [.ref t,.none,.ref y,.ref y,.bool true,.none])}->E (.ref e) {s₂ with heap:=h'}) E s₁) E s):
  wpAny (model prog w) A (raiseStmt env (some cx) (some cc)) Q E s:=by
 unfold raiseStmt;erw[bj (cr h (λv s₁ h₁=>?_) λZ Z z=>z)];let#[e,t,J,h₁]:=h₁;erw[bj (wpAny_holding (cr h₁ (λu s₂ h₂=>?_) λZ Z z=>z))];let#[J,o,i,#[oy,us,m,B,j,p],f,k]:=h₂;erw[bj (bv ?_),<-bj (wpAny_holding (yfu (f _ λZ Z=>rfl) cC i J J ?_))];dsimp only;rwa[if_neg 's',bj (wpAny_holding (yfu (f _ λZ Z=>rfl) cY m B j ?_))];erw[bj (wpAny_setField i J (show 3<6 by decide) ?_)];let g:=Heap.get?_update_self (Obj.mapFields (·.setIfInBounds 3 (Value.ref y))) i J;have l:∀b,b≠e->(s₂.heap.update e (Obj.mapFields (·.setIfInBounds 3 (Value.ref y)))).get? b=s₂.heap.get? b:=λb n=>Heap.get?_update_other _ _ (Ne.symm n);generalize s₂.heap.update e (Obj.mapFields (·.setIfInBounds 3 (Value.ref y)))=g3 at g l⊢;erw[bj (wpAny_setField (s:={s₂ with heap:=g3}) g J (show 4<6 by decide) ?_)];let a:=Heap.get?_update_self (Obj.mapFields (·.setIfInBounds 4 (Value.bool true))) g J;have c:∀b,b≠e->(g3.update e (Obj.mapFields (·.setIfInBounds 4 (Value.bool true)))).get? b=s₂.heap.get? b:=λb n=>(Heap.get?_update_other _ _ (Ne.symm n)).trans (l b n);dsimp only;generalize g3.update e (Obj.mapFields (·.setIfInBounds 4 (Value.bool true)))=g4 at a c⊢;let D:=f g4 c
 have x:∀{Q:Bool->qb->Prop}{E:Δ},Q false {s₂ with heap:=g4}->wpAny (model prog w) A (isType (.ref e)) Q E {s₂ with heap:=g4}:=λq=>by
  unfold isType loadHead;erw[bj (wpAny_loadPart a (bv q))]
 erw[bj (x ?_)];rwa[if_neg ∅,bj ?_];unfold raisedInstance;have r:Ĝ e C g4:=#[_,a,J];erw[bj (r.type.at ?_)];let#[_,_,_,_,_,_,_,_,_,_,_,_,_,_,_,_,_,d,_]:=yel D hC;have tC:W.Looks (model prog w) g4 (typeOf (.ref C)) (.type "type"):=(W.Looks.ld d).andThen .now;erw[bj (tC.at ?_)];rwa[if_pos 's',bv ?_];unfold setFlight;erw[bj (bj (ce a J (show _=some Value.none from rfl) ?_))];rwa[if_neg ∅,bv ?_];erw[ydr (s:={s₂ with heap:=g4}) hh o ((c y o).trans m) j p a J (show 2<6 by decide) ?_,<-k _ (λb n=>(Heap.get?_update_other _ _ (Ne.symm n)).trans (c b n)) (Heap.get?_update_self (Obj.mapFields (·.setIfInBounds 2 (Value.ref y))) a J)]
end
end
section
variable{Y:Cx}{σ:St}{H1:Hp}{s1:qb}{np cpos pos:Pos}{e₀:qh}{w8:qj qh}{t:TA}
def yot{R:Hp->Prop}{Q:Δ}(hg:Gl Y x)(hm:Y.mg x∣C)(hC:XMk Y.K C)(ha:PA Y (e₀::w8) t)(he:starEach (e₀::w8) Y.env=(false,eval e₀ Y.env)::starEach w8 Y.env)
  (hplain:(backTo cpos (starEach w8 Y.env)).any (·.1)=false) (I:Inv Y pins σ H1 s1) (h:t σ H1 λvs H2=>vs.length<=sizeLine/\R H2)
  (k:∀s₂ h' e vs H2,Inv Y pins σ H2 s₂->Heap.MadeExcOf s₂.heap h' e (.ref C) vs->R H2->Q (.ref e) {s₂ with heap:=h'}) (hdb:⇑'d'):
  wpAny (model Y.prog Y.w) Y.A (eval (.Call (.Name x np) (e₀::w8) [] cpos) Y.env) Q Y.xe s1:=by
 let#[H,NN,ς,q,L,p,Z,B,U,E,dd,P,G,k2,N,S,W,b,m,l,T]:=yel I.mod.kin hC
 have j:(backTo cpos (starEach (e₀::w8) Y.env)).any (·.1)=false:=by
  rw[he];show (false || (backTo cpos (starEach w8 Y.env)).any (·.1))=false;rw[hplain];rfl
 erw[wpAny_Call_ofName (jx I hg hm ?_ hdb)];unfold callWith;let u:=ha cpos pins s1 σ H1 _ I h
 have z:wpAny (model Y.prog Y.w) Y.A (evalArgs (.ref C) true (backTo cpos (starEach (e₀::w8) Y.env)) []) (λa s₂=>a.kw=[]/\a.pos.length<=sizeLine/\∃H2,Inv Y pins σ H2 s₂/\R H2) Y.xe s1:=by
  rw[he]at u⊢;erw[Calls.evalArgs_plain (cr u (by rintro vs s₂ ⟨xs,H2,c,r,D,o⟩;erw[J,by rwa[<- r.length,D],H2,c,o]) λw w y=>y)]
 erw[bj (wpAny_holding (cr z (λa s₂ h₂=>bj (wpAny_standAt ?_)) λw w x=>x))];let#[v,n]:=a;let#[i,f,H2,c,o]:=h₂;obtain rfl:n=[]:=i;let b:=c.bk _ _ b;let m:=m.keeps c.bk;let T:=T.keeps c.bk;let#[X,g,d,M,O]:=s₂;simp only[j];erw[bj (wpAny_keeperOf_exc b ?_),<-bj (wpAny_call_exc_subT (hrest:=f) F.excBase_ValueError T b m l λh' e hm=>bj (wpAny_holding (wpAny_point (bv ?_)))),<-k _ h' e _ H2 c hm o]
end
section
mutual
variable{X:Cx}{σ:St}{H:Hp}{s:qb}{x:qa}{oe:Obj}{us:Array qc}
def Inv.pinE(I:'i' s)(hx:Fy X pins H x)(q1:s.heap.get? x=some oe)(q3:oe.data=.fields us):Inv X (pins++[(x,oe)]) σ H s:=I.pins_of λp a=>by
 rcases bQ.mp a with z|z
 .erw[I.pin p (bP _ z)]
 .obtain rfl:=bO.mp z;erw[q1,hx.1,hx.2.1,hx.2.2.1,λv e=>by rw[q3]at e;cases e]
def Fy.pinned{T:qa}(hT:Fy X pins H T)(ne:T≠x):Fy X (pins++[(x,oe)]) H T:=#[hT.1,hT.2.1,hT.2.2.1,hT.2.2.2.1,hT.2.2.2.2.1,λp a=>by
 rcases bQ.mp a with z|z
 .erw[hT.2.2.2.2.2 p (cN _ z)]
 .rcases bQ.mp z with z|z
  .erw[hT.2.2.2.2.2 p (bP _ z)]
  .obtain rfl:=bO.mp z;erw[ne.symm]]
end
end
section
mutual
variable{X:Cx}{tx n xC:Str}{np np2 cpos pos:Pos}{L:qa}{e₀:qh}{w8:qj qh}{ta:TA}{Ex:XK}
noncomputable def vcr(f:qa->Bool):qc->Bool
 | .ref D=>f D
 |_=>false
def thF(K:xy)(cs:Φ)(C:qa)(i:Nat)(ta:TA)(Ex:XK)(tr:THs):THs:=λEn σ Ca x d H=>∃f:qa->Bool,(∀D∈cs,W.exmOne K (.ref Ca) (.ref D)=some (f D))/\∀p,H p=none->p≠x ->
 if cs.any f then d=none/\XCls K Ca/\ta (σ.set i (some (.ref x))) (upd H p (.tup (cs.map V.ref))) (λvs H2=>vs.length<=sizeLine/\Ex (.ref C) (some x) H2)else tr En σ Ca x d (upd H p (.tup (cs.map V.ref)))
def ytk{es:qj qh}{px2:Pos}{ctx:Nat}{cs:Φ}{t:TE}{rest':qj ExceptHandler}{tr:THs}(ht:∀pn x,PE (X.su pn x) (.Tuple es ctx px2) t)(hte:∀σ H(Q:VK),(∀p,H p=none->Q (.ref p) (upd H p (.tup (cs.map V.ref))))->t σ H Q)
  (hst:X.stack=X.env::X.outer/\X.env.frame=some L) (hN:X.N.Nodup) (hi:X.N[i]?=some n) (hl:X.env.scope.names.lookup n=some .local) (hv:∀pn x,PE (X.su pn x) (.Name n np2) (yxc i))
  (hg:Gl X xC) (hm:X.mg xC∣C) (hC:XMk X.K C) (cC:XCls X.K C) (ha:∀pn x,PA (X.su pn x) (e₀::w8) ta) (hca:Č X λN=>Ex) (hr:PHs X rest' tr)
  (he:↑(starEach (e₀::w8) X.env=(false,eval e₀ X.env)::starEach w8 X.env)) (hpl:↑((backTo cpos (starEach w8 X.env)).any (·.1)=false)) (hdb:⇑((xC == ("__debug__":Str))=false)):
  PHs X (.ExceptHandler (some (.Tuple es ctx px2)) (some n) [.Raise (some (.Call (.Name xC np) (e₀::w8) [] cpos)) (some (.Name n np2)) pos] hpos::rest') (thF X.K cs C i ta Ex tr):=by
 intro pins s σ H x T Ca d En ς hx hT aw q;let#[f,ax,q]:=q;let#[oe,us,oU,ws,a1,q1,q2,q3,q4,q5,q6,q7,q8]:=id aw;let ok:=ς.ok;let J2:=(ς.pinE hx q1 q3).pinE (hT.pinned q5) q6 q7;erw[wpAny_handleBy_cons (codeAny_handlers_test ?_) 'z',<-cr (ht (X.pn++(pins++[(x,oe)]++[(T,oU)])) x [] s σ H (λv H1=>∃p,v=.ref p/\H p=none/\H1=upd H p (.tup (cs.map V.ref))) (J2.su x) (hte σ H _ λp hp=>#[p,J,hp,J])) (λc s1 hc=>?_) λN N z=>False.elim z];let#[v,H1,l,r1,p,J,hp,J]:=hc;obtain rfl:c=.ref p:=r1;let l:=l.unsu ok;let px:=l.pin (x,oe) 's';let pT:=l.pin (T,oU) 's';have F:Fy X pins (upd H p (.tup (cs.map V.ref))) x:=#[px.2.1,hx.2];have a3:Fy X pins (upd H p (.tup (cs.map V.ref))) T:=#[pT.2.1,hT.2];have P:Trd s1.heap x T (.ref Ca) d:=#[oe,us,oU,ws,a1,px.1,q2,q3,q4,q5,pT.1,q7,q8];have l:Inv X pins σ (upd H p (.tup (cs.map V.ref))) s1:=Inv.unpinned (Inv.unpinned l);have ao:Ĝ x Ca s1.heap:=#[oe,px.1,q2.1];let#[_,aH,ad,ho]:=l.hok p (.tup (cs.map V.ref)) ya;let ev:=é ad;subst ev;let nx:=q p hp λz=>by have e:=px.2.1;rw[z]at e;erw[absurd (ya.symm.trans e) (by intro w;cases w)]
 let#[ob,o1,o2,m,o3]:=ho;have ea:(cs.map Value.ref).any (vcr f)=cs.any f:=by rw[List.any_map];rfl
 erw[ys4 (M:=model X.prog X.w) (h:=s1.heap) (f:=vcr f) l.kIn ao.type (λN N z=>z) o1 o2 o3 (λc hc=>?_) _ _ _ _ (λN N z=>z) ?_]
 .let#[D,hD,J]:=bw.mp hc;erw[ax D hD]
 rw[ea]
 cases e:cs.any f with
 |false =>
  rw[e]at nx;erw[hr pins _ σ _ x T Ca d En l F a3 P nx]
 |true =>
  rw[e]at nx;let#[J,cY,q]:=nx;dsimp only[if_true];erw[codeAny_handlers_suite_as ?_,<-zj l F a3 P λs4 T4 J4 aI af=>?_];let#[a,ak,aF,aB,a4,p1,p2,p3,p4,p5,p6,p7,p8]:=id af;let J5:=J4.pinE F p1 p3;erw[Ģ (X:=X.su (X.pn++(pins++[(x,a)])) x) (i:=i) (v:=V.ref x) (J5.su x) hN hi (Or.inl hl) J (λs5 J6=>?_) (Or.inr hl),<-wpAny_execs_cons ?_];rwa[arm_exec_Raise,bj (wpAny_standAt ?_)];erw[ydt (K:=X.K) (C:=C) (Cy:=Ca) (y:=x) J hC cC cY ?_,<-bj (cr (yot (Y:=X.su (X.pn++(pins++[(x,a)])) x) (R:=λj=>Ex (.ref C) (some x) j) (Q:=λv s'=>∃s₂ E e vs j,v=.ref e/\s'={s₂ with heap:=E}/\Inv (X.su (X.pn++(pins++[(x,a)])) x) [] (σ.set i (some (.ref x))) j s₂/\Heap.MadeExcOf s₂.heap E e (.ref C) vs/\Ex (.ref C) (some x) j)
   hg hm hC (ha _ x) he hpl J6 q (λs₂ E e vs j A m r=>#[s₂,E,e,vs,j,J,J,A,m,r]) hdb) (λv s' z=>?_) λN N z=>False.elim z)]
  let#[s₂,E,e,vs,j,J,J,A,m,r]:=z;let#[t,aa,ay,_]:=m.there;erw[bj (wpAny_standAt (bv #[e,t,J,?_]))];have B:Inv X (pins++[(x,a)]) (σ.set i (some (.ref x))) j s₂:=A.unsu ok;have g:Fy X pins j e:=ų (Inv.unpinned B) m.new (A.hok.none_of m.new);have I3:Inv (X.su (X.pn++(pins++[(x,a)])) x) [] (σ.set i (some (.ref x))) j {s₂ with heap:=E}:=A.kept (t':=s₂.toks) m.keeps;have ne:x≠e:=λz=>by have w:=(B.pin (x,a) 's').1;rw[z,m.new]at w;cases w
  let aj:=I3.pinE (ų A m.new (A.hok.none_of m.new)) aa J;have av:i<σ.length:=by rwa[ς.len,(bJ.mp hi).1]
  erw[bj (cr (hv _ x _ _ _ _ (λv H'=>v=.ref x/\j=H') aj #[.ref x,List.getElem?_set_self av,J,J]) (λu s3 z=>?_) λN N z=>False.elim z)];let#[v,H3,I4,rv,J,J]:=z;obtain rfl:u=.ref x:=rv;let pe:=(I4.pin (e,{ cls:=.ref C,data:=.fields (List.toArray [.ref t,.none,.none,.none,.bool false,.none])}) 's').1;have I:Inv X (pins++[(x,a)]) (σ.set i (some (.ref x))) j s3:=Inv.unsu (Inv.unpinned (pins:=[]) I4) ok;let ar:=(I.pin (x,a) 's').1;have ag:Inv X pins (σ.set i (some (.ref x))) j s3:=Inv.unpinned I;have nl:∀b o,s₂.heap.get? b=some o->b≠e:=λb o w z=>by rw[z,m.new]at w;cases w
  erw[bj (wpAny_standAt (bv #[J,ne,pe,#[a,ak,ar,p2.1,p3,p2.2.2],λE o b ob k=>(o b (nl b ob (A.kIn _ _ k))).trans (I4.kIn _ _ k),λh6 o6 e6=>?_]))]
  have an:∀b∈frs X.stack,b≠e:=λb hb=>by
   let#[_,o,w,_]:=B.stack.mem hb;erw[nl b o w]
  have I6:Inv X pins (σ.set i (some (.ref x))) j {s3 with heap:=h6}:=ag.fly g g (λb o n1 N N z=>(o6 b n1).trans z) λb o hb z=>#[o.slots,(o6 b (an b hb)).trans z];erw[ygb (X:=X) (s:={s3 with heap:=h6}) (d:=some x) I6.ok.frames hst.1 hst.2 I6 g e6 J J J J λs7 T7 I7 U aq=>?_];let#[W,au,a2,ae,a7,r1,r2,r3,r4,r5,r6,r7,r8]:=id aq;let I8:=(I7.pinE g r1 r3).pinE (U.pinned r5) r6 r7;erw[I8.unbind hN hi hl λs9 Z=>?_];let ab:=(Z.pin (e,W) 's').1;let al:=(Z.pin (T7,a2) 's').1;have ac:Trd s9.heap e T7 (.ref C) (some x):=#[W,au,a2,ae,a7,ab,r2,r3,r4,r5,al,r7,r8];have Z:Inv X pins _ j s9:=Inv.unpinned (Inv.unpinned Z);erw[ylp (X:=X) Z g U ac λaz aJ a0 S ah=>?_,<-yeq a0.ok.frames hst.1 hst.2 a0 g S ah λaA as ap a5 O=>?_];show wpAny _ _ _ _ _ _;let#[aD,aG,aC,aE,a8,z1,z2,z3,z4,z5,z6,z7,z8]:=id O;erw[bj (ce z1 z3 z4 ?_)];rwa[if_neg (show ¬((Value.ref as == Value.none)=true) by simp),zj ap g a5 O λai a6 a9 G am=>hca pins _ j ai e a6 _ (some x) a9 g G am r]
end
end
end L2
namespace L2
open PySem
section
variable{σ:St}{H:Hp}{K:xy}{Ca C:qa}{tr:THs}{En:ã}{i:Nat}{cs:Φ}{ta:TA}{Ex:XK}{d:ql qa}
def vhl(h1:∀D∈cs,∃b,W.exmOne K (.ref Ca) (.ref D)=some b)(h2:∃D∈cs,W.exmOne K (.ref Ca) (.ref D)=some true)(cY:XCls K Ca)
  (h:∀x p,H x=none->H p=none->p≠x->ta (σ.set i (some (.ref x))) (upd H p (.tup (cs.map V.ref))) λvs H2=>vs.length<=sizeLine/\Ex (.ref C) (some x) H2):exH (thF K cs C i ta Ex tr) En σ (.ref Ca) none H:=λx d=>by
 erw[Ca,J,λD=>(W.exmOne K (.ref Ca) (.ref D)).getD false,λD a=>?_,λp c f=>?_]
 .let#[b,e]:=h1 D a;simp only[e,Option.getD_some]
 .rw[if_pos]
  .erw[J,cY,h x p d c f]
  .let#[D,a,e]:=h2;erw[c7.mpr #[D,a,by rw[e];rfl]]
end
end L2
namespace L2
mutual
variable{D d it:qa}{tg:qh}{pins:Θ}{ep i:Nat}{apos cpos:Pos}{P:qi}{p0 p1 p2 x:Str}{ov:qc}{Q:Δ}
def pG{p:Prop}(h:p):p:=h
structure Dg(K:xy)(x q:Str)(st:qd)(f:qa)(fd:FuncData)(M:Prop):Prop where
 F:Fun K x q st f fd
 m:M
structure Df(K:xy)(x q:Str)(st:qd)(ps:Ρ)(f:qa)(fd:FuncData)(M:Prop):Prop where
 F:Fun K x q st f fd
 B:jl K fd ps []
 m:M
def ydm{α:Type}{n:Nat}{a:qj α}(h:a.length=n+1):∃x r,a=x::r/\r.length=n:=by
 cases a with
 |nil=>cases h
 |cons x r=>erw[x,r,J,Nat.succ.inj h]
abbrev Dgf(K:xy)(mg:Ε)(x:Str)(st:qd)(f:qa)(fd:FuncData):Prop:=Dg K x x st f fd (mg x∣f)
abbrev Dgm(K:xy)(C:qa)(x q:Str)(st:qd)(f:qa)(fd:FuncData):Prop:=Dg K x q st f fd (Meth K C x f)
abbrev Dff(K:xy)(mg:Ε)(x:Str)(st:qd)(ps:Ρ)(f:qa)(fd:FuncData):Prop:=Df K x x st ps f fd (mg x∣f)
abbrev Dfm(K:xy)(C:qa)(x q:Str)(st:qd)(ps:Ρ)(f:qa)(fd:FuncData):Prop:=Df K x q st ps f fd (Meth K C x f)
end
section
mutual
variable{K:xy}{mg:Ε}{h:qg}{q:Str}{st:qd}{f C:qa}{fd:FuncData}{M:Prop}{oc kV doc pm cdv ct:qc}{od an:ql qa}{osl:Array (ql qc)}
def dgf_mk(X:K.In h)(G:h.Ns mainGlobals mg)(a:W.nsIn K mainGlobals x=some (some (.ref f)))(l:K.lookup f=some #[oc,od,.func (W.fnOf x x (xz st) (xi st) (ye st) .none kV doc pm an cdv ct),osl])
  (c:W.codeIn K cdv x=true) (k:W.keepIn K (.ref f)=true):Dgf K mg x st f (W.fnOf x x (xz st) (xi st) (ye st) .none kV doc pm an cdv ct):=#[ysa l c k,W.mg_of X G a]
def dgm_mk(a:W.findIn K (.ref C) x=some (some (.ref f)))(i:W.isFn K (.ref f)=true)(l:K.lookup f=some #[oc,od,.func (W.fnOf x q (xz st) (xi st) (ye st) .none kV doc pm an cdv ct),osl])
  (c:W.codeIn K cdv q=true) (k:W.keepIn K (.ref f)=true):Dgm K C x q st f (W.fnOf x q (xz st) (xi st) (ye st) .none kV doc pm an cdv ct):=#[ysa l c k,a,i,k]
def Dg.d1(D:Dg K x q st f fd M)(h:autoParam (∀(kV doc pm:qc)(an:ql qa)(cdv ct:qc)(u0:qc),bindArgs (W.fnOf x q (xz st) (xi st) (ye st) .none kV doc pm an cdv ct) #[[u0],[]]=pure [(p0,u0)]) aG._auto_1):Df K x q st [p0] f fd M :=
 #[D.F,D.F.binds λkV doc pm an cdv ct c a=>(by
  let#[u0,d,J,b]:=ydm a;obtain rfl:=cO b;erw[h kV doc pm an cdv ct u0]),D.m]
def Dg.d2(D:Dg K x q st f fd M)(h:autoParam (∀(kV doc pm:qc)(an:ql qa)(cdv ct:qc)(u0 u1:qc),bindArgs (W.fnOf x q (xz st) (xi st) (ye st) .none kV doc pm an cdv ct) #[[u0,u1],[]]=pure [(p0,u0),(p1,u1)]) aG._auto_1):Df K x q st [p0,p1] f fd M :=
 #[D.F,D.F.binds λkV doc pm an cdv ct d b=>(by
  let#[u0,e,J,c]:=ydm b;let#[u1,g,J,a]:=ydm c;obtain rfl:=cO a;erw[h kV doc pm an cdv ct u0 u1]),D.m]
def Dg.d3(D:Dg K x q st f fd M)(h:autoParam (∀(kV doc pm:qc)(an:ql qa)(cdv ct:qc)(u0 u1 u2:qc),bindArgs (W.fnOf x q (xz st) (xi st) (ye st) .none kV doc pm an cdv ct) #[[u0,u1,u2],[]]=pure [(p0,u0),(p1,u1),(p2,u2)]) aG._auto_1):Df K x q st [p0,p1,p2] f fd M :=
 #[D.F,D.F.binds λkV doc pm an cdv ct g c=>(by
  let#[u0,i,J,d]:=ydm c;let#[u1,j,J,a]:=ydm d;let#[u2,e,J,b]:=ydm a;obtain rfl:=cO b;erw[h kV doc pm an cdv ct u0 u1 u2]),D.m]
def Dg.d4{p3:Str}(D:Dg K x q st f fd M)(h:autoParam (∀(kV doc pm:qc)(an:ql qa)(cdv ct:qc)(u0 u1 u2 u3:qc),bindArgs (W.fnOf x q (xz st) (xi st) (ye st) .none kV doc pm an cdv ct) #[[u0,u1,u2,u3],[]]=pure [(p0,u0),(p1,u1),(p2,u2),(p3,u3)]) aG._auto_1):Df K x q st [p0,p1,p2,p3] f fd M :=
 #[D.F,D.F.binds λkV doc pm an cdv ct j d=>(by
  let#[u0,l,J,e]:=ydm d;let#[u1,k,J,a]:=ydm e;let#[u2,g,J,b]:=ydm a;let#[u3,i,J,c]:=ydm b;obtain rfl:=cO c;erw[h kV doc pm an cdv ct u0 u1 u2 u3]),D.m]
def Dg.d6{p3 p4 p5:Str}(D:Dg K x q st f fd M)(h:autoParam (∀(kV doc pm:qc)(an:ql qa)(cdv ct:qc)(u0 u1 u2 u3 u4 u5:qc),bindArgs (W.fnOf x q (xz st) (xi st) (ye st) .none kV doc pm an cdv ct) #[[u0,u1,u2,u3,u4,u5],[]]=pure [(p0,u0),(p1,u1),(p2,u2),(p3,u3),(p4,u4),(p5,u5)]) aG._auto_1):Df K x q st [p0,p1,p2,p3,p4,p5] f fd M :=
 #[D.F,D.F.binds λkV doc pm an cdv ct n d=>(by
  let#[u0,p,J,e]:=ydm d;let#[u1,o,J,a]:=ydm e;let#[u2,k,J,b]:=ydm a;let#[u3,l,J,c]:=ydm b;let#[u4,j,J,i]:=ydm c;let#[u5,r,J,g]:=ydm i;obtain rfl:=cO g;erw[h kV doc pm an cdv ct u0 u1 u2 u3 u4 u5]),D.m]
end
end
def ysc{K:xy}{W:qa}{od:ql qa}{its:Array qc}{n:Nat}{sl:Array (ql qc)}{xs:Τ}(l:K.lookup W=some #[.type "tuple",od,.seq its n,sl])(hz:its.size<=sizeLine)(hv:xc xs its.toList):∀H,SqT K H W xs:=λZ=>.inr #[_,_,_,l,J,J,hz,hv]
structure KC(K:xy)(C:qa):Prop where
 pg:W.plainGet K C Str.empty=true
 hd:W.hasDictIn K C=true
 po:W.plainOver K C=true
 sa:W.findIn K (.ref C) "__setattr__"=some (some (.builtin "object.__setattr__"))
 mk':W.makesIn K C=true
 kc:W.keepIn K (.ref C)=true
section
mutual
variable{K:xy}{H:Hp}{p C dx:qa}{fs fs':Ι}{v:V}{nm:Str}{P:V->Prop}{nx:Ζ}{σ:St}
abbrev RdX(K:xy)(H:Hp)(p:qa)(nm:Str)(P:V->Prop):Prop:=∃a' C dx fs v,V.ref p=.ref a'/\H a'∩C dx fs/\Cls K C/\NoAttr K C nm/\fs.lookup nm=some v/\P v
abbrev StX(K:xy)(H:Hp)(p:qa)(nm:Str)(v:V)(nx:Ζ)(σ:St):Prop:=∃a' C dx fs,V.ref p=.ref a'/\H a'∩C dx fs/\Cls K C/\NoAttr K C nm/\fs.length<1000/\wu nx σ (upd H a' (.ins C dx (Ñ nm v fs)))
abbrev MtX(H:Hp)(p C:qa)(nm:Str)(R:Prop):Prop:=∃a dx fs,V.ref p=.ref a/\H a∩C dx fs/\fs.lookup nm=none/\R
def rdX(hp:H p∩C dx fs)(c:Cls K C)(n:NoAttr K C nm)(l:fs.lookup nm=some v)(h:P v):RdX K H p nm P:=#[p,C,dx,fs,v,J,hp,c,n,l,h]
def stX(hp:H p∩C dx fs)(c:Cls K C)(n:NoAttr K C nm)(l:fs.length<1000)(e:Ñ nm v fs=fs')(h:wu nx σ (upd H p (.ins C dx fs'))):StX K H p nm v nx σ:=#[p,C,dx,fs,J,hp,c,n,l,by rwa[e,h]]
def gRd(h:RdX K H p nm P):RdX K H p nm P:=h
def gSt(h:StX K H p nm v nx σ):StX K H p nm v nx σ:=h
def gMt{R:Prop}(h:MtX H p C nm R):MtX H p C nm R:=h
def lt0:([]:Ι).length<1000:=by show 0<1000;decide
def lt1{a:Str×V}:[a].length<1000:=by show 1<1000;decide
def lt2{a b:Str×V}:[a,b].length<1000:=by show 2<1000;decide
def lt3{a b c:Str×V}:[a,b,c].length<1000:=by show 3<1000;decide
def lt4{a b c d:Str×V}:[a,b,c,d].length<1000:=by show 4<1000;decide
def lt5{a b c d e:Str×V}:[a,b,c,d,e].length<1000:=by show 5<1000;decide
def lt6{a b c d e f:Str×V}:[a,b,c,d,e,f].length<1000:=by show 6<1000;decide
theorem vf4:∀{fs:Ι},nm∉fs.map (·.1)->fs.lookup nm=none
 |[],_=>rfl
 |(g,v)::r,h=>wn (λe=>h (by rwa[e,cj])) (vf4 λm=>h (cg _ m))
def mtX{R:Prop}{N:Ρ}(hp:H p∩C dx fs)(k:fs.map (·.1)=N)(n:nm∉N)(h:R):MtX H p C nm R:=#[p,dx,fs,J,hp,vf4 (by rwa[k,n]),h]
def wg{N P:Ρ}{sc:Scope}(h:(sc.kind=.function/\sc.isCoroutine=false/\sc.isGenerator=false)/\N.Nodup/\N.take P.length=P/\(∀x∈P,sc.names.lookup x=some .local\/sc.names.lookup x=some .cell)/\∀y∈sc.names,y.2≠.free):yk N P sc:=#[h.1.1,h.1.2.1,h.1.2.2,h.2.1,h.2.2.1,h.2.2.2.1,h.2.2.2.2]
end
end
section
mutual
variable{prog:qi}{w:qe}{A:qf}{E:Δ}{s:qb}{od:Obj}{es:Array DictEntry}
def yid(hne:(d == sysModules)=false)(h0:s.heap.get? d=some od)(hx:od.ExactDict)
  (k:Q (.ref 'n') {s with heap:=s.heap.push { cls:=.type "dict_items",data:=.fields #[.ref d]} }):wpAny (model prog w) A (call (.builtin "dict.items") [.ref d]) Q E s:=by have a:s.TypeIs (.ref d) "dict":=#[od,h0,hx.1];erw[wpAny_call_entry F.slot_dict_items a F.entry_dict_items ?_ (F.args_dict_items_1 _)];unfold Builtin.«dict.items» Builtin.Dict.noArgs;erw[bj (bj (wpAny_notOrdered_dict a ?_))];show wpAny _ _ (pure d) _ _ s;erw[bv ?_];show wpAny _ _ (Builtin.Dict.showsAll d >>=_) _ _ s;unfold Builtin.Dict.showsAll;rwa[if_neg (by rw[hne];decide),bj (bv (bj (wpAny_newObj_type (bv #[_,J,k]))))]
def yib{v:qa}(hv:s.heap.IsItemsView v d)(h0:s.heap.get? d=some od)(hd:od.data=.dict es ep)
  (k:Q (.ref 'n') {s with heap:=s.heap.push { cls:=.type "dict_itemiterator",data:=.fields (List.toArray [.none,.bool false,.ref d,.int 0 0,.int es.size 0,.int ep 0,.none,.none])} }):wpAny (model prog w) A (pyIter (.ref v)) Q E s:=by let#[c,b,e,a]:=id hv;erw[wpAny_pyIter_slot hv.typeIs F.slot_dict_items_iter (wpAny_call_entry F.slot_dict_items_iter hv.typeIs F.entry_dict_items_iter ?_ (F.args_dict_items_iter_1 _))];unfold Builtin.«dict_items.__iter__» Builtin.Dict_items.dictOf Builtin.Dict_items.newIterator;erw[bj (bv (bj (bj (ce b a (x:=.ref d) J (bv (bj (bj (wpAny_dictEntries h0 hd (bj (wpAny_dictEpoch h0 hd ?_))))))))))];simp only[show Builtin.Dict_items.ownsTuple "dict_itemiterator"=true by decide,if_true];erw[wpAny_newObj_type (bv #[_,J,"dict_itemiterator",_,#[_,bC _ J,J],F.slot_dict_itemiterator_next.lookup,?_]) (by simp only[sizeOk,Builtin.Dict_items.ownedTupleFields,bF,bq,bN,List.length_nil,sizeLine_eq];omega)];simpa[rawInt,Builtin.Dict_items.ownedTupleFields]using k
def yhw{ok:qc}{Q:ql qc->qb->Prop}(hi:IsItemIter s.heap it d i es.size ep ok ov)(h0:s.heap.get? d=some od)(hd:od.data=.dict es ep)(hlt:i<es.size)
  (k:∀h',IsItemIterOut h' it d (i+1) es.size ep es[i].key es[i].val 'n'->h'.get? 'n'=some { cls:=.type "tuple",data:=.seq (List.toArray [es[i].key,es[i].val])}->(∀b o,b≠it->s.heap.get? b=some o->h'.get? b=some o)->Q (some (.ref 'n')) {s with heap:=h'}):
  wpAny (model prog w) A (pyNext (.ref it)) Q E s:=by
 let#[a,g,m,h,j]:=s;have c:Shared.TypeIs #[a,g,m,h,j] (.ref it) "dict_itemiterator":=#[_,hi,J];have K:it<a.objs.size:=bE hi;have M:a.objs.size≠it:=Nat.ne_of_gt K;unfold pyNext;erw[bj (wpAny_attempt (wpAny_callSpecial?_slot (name:=Str.ofString "__next__") c F.slot_dict_itemiterator_next (wpAny_call_entry F.slot_dict_itemiterator_next c F.entry_dict_itemiterator_next ?_ (F.args_dict_itemiterator_next_1 _)))),<-bj (bv (bj (bj ?_)))]
 first|erw[bj (wpAny_typeNameOfWhole_itemiter c (bv ?_))]|erw[bj (wpAny_typeNameOf_itemiter c (bv ?_))]
 erw[bj (wpAny_fieldsOf hi J ?_)];show wpAny _ _ (if (Value.ref d == Value.none)=true then _ else _) _ _ _;rwa[if_neg (show ¬(Value.ref d == Value.none)=true from bK),bj (bv (bj (wpAny_dictEntries h0 hd ?_)))];rwa[if_neg 's',bj (bv (bj (wpAny_dictEpoch h0 hd ?_)))];rwa[if_neg 's',bv ?_];simp only[show ¬((i:Int)<0) by omega,if_false,Int.toNat_natCast,Array.getElem?_eq_getElem hlt];erw[bj ?_]
 first|erw[bj (wpAny_typeNameOfWhole_itemiter c (bv ?_))]|erw[bj (wpAny_typeNameOf_itemiter c (bv ?_))]
 erw[bj (wpAny_isOneOf_itemiter c ?_)];show wpAny _ _ (setField (.ref it) 3 (rawInt ((i:Int)+1)) >>=_) _ _ #[a,g,m,h,j];erw[bj (wpAny_setField_rec hi 's' λg1 f l=>?_)]
 replace l:Heap.SameBut it a g1:=l
 replace f:IsItemIter g1 it d (i+1) es.size ep ok ov:=by unfold IsItemIter;rw[show ((i+1:Nat):Int)=(i:Int)+1 by omega];simpa[rawInt]using f
 have r:Shared.TypeIs #[g1,g,m,h,j] (.ref it) "dict_itemiterator":=#[_,f,J];erw[bj (wpAny_holding (bj (wpAny_isOneOf_itemiter r (bj (wpAny_isOneOf_itemiter r ?_)))))];show wpAny _ _ (Builtin.Dict_items.pairFromOwner (.ref it) 6 es[i].key es[i].val) _ _ #[g1,g,m,h,j];unfold Builtin.Dict_items.pairFromOwner;erw[bj (wpAny_newTuple ?_)];have p:IsItemIter (g1.push { cls:=.type "tuple",data:=.seq (List.toArray [es[i].key,es[i].val])}) it d (i+1) es.size ep ok ov:=br _ f;generalize y:g1.push { cls:=.type "tuple",data:=.seq (List.toArray [es[i].key,es[i].val])}=g2 at p;have v:g1.objs.size=a.objs.size:=l.1;have I:g2.get? a.objs.size=some { cls:=.type "tuple",data:=.seq (List.toArray [es[i].key,es[i].val])}:=by rwa[<- y,<- v,bC _ J]
 have L:∀b o,b≠it->a.get? b=some o->g2.get? b=some o:=λb o ς e=>by rwa[<- y,br _ (l.extBut b o ς e)]
 show wpAny _ _ (Builtin.Dict_items.ownedTupleIsFree (.ref it) >>=_) _ _ #[g2,g,m,h,j];rw[v];clear y f l r v g1;unfold Builtin.Dict_items.ownedTupleIsFree;erw[bj (bj (ce p J (x:=.none) J (bv ?_)))];simp only[if_true];erw[bj (ce p J (x:=ok) J (bj (ce p J (x:=ov) J ?_))),<-bj (wpAny_setField_rec p 's' λg3 q B=>?_)]
 replace B:Heap.SameBut it g2 g3:=B
 replace q:IsItemIter g3 it d (i+1) es.size ep es[i].key ov:=q
 erw[bj (wpAny_setField_rec q 's' λg4 u G=>?_)]
 replace G:Heap.SameBut it g3 g4:=G
 replace u:IsItemIter g4 it d (i+1) es.size ep es[i].key es[i].val:=u
 erw[bj (wpAny_setField_rec u 's' λg5 z C=>?_)]
 replace C:Heap.SameBut it g4 g5:=C
 replace z:IsItemIterOut g5 it d (i+1) es.size ep es[i].key es[i].val a.objs.size:=z
 erw[bj (wpAny_setField_rec z 's' λg6 t D=>?_)]
 replace D:Heap.SameBut it g5 g6:=D
 replace t:IsItemIterOut g6 it d (i+1) es.size ep es[i].key es[i].val a.objs.size:=t
 have H:∀b o,b≠it->g2.get? b=some o->g6.get? b=some o:=λb o n e=>D.extBut b o n (C.extBut b o n (G.extBut b o n (B.extBut b o n e)));erw[bj (wpAny_letGo (bv (bv #[_,J,bv (k g6 t (H _ _ M I) λb o n e=>H b o n (L b o n e))])))]
def yjj{ok:qc}{Q:ql qc->qb->Prop}(hh:A.handled=none)(hi:IsItemIter s.heap it d i es.size ep ok ov)(h0:s.heap.get? d=some od)(hd:od.data=.dict es ep)(hge:es.size<=i)
  (k:∀h',Heap.ExtBut it s.heap h'->Q none {s with heap:=h'}):wpAny (model prog w) A (pyNext (.ref it)) Q E s:=by
 have c:s.TypeIs (.ref it) "dict_itemiterator":=#[_,hi,J];unfold pyNext;erw[bj (wpAny_attempt (wpAny_callSpecial?_slot (name:=Str.ofString "__next__") c F.slot_dict_itemiterator_next (wpAny_call_entry F.slot_dict_itemiterator_next c F.entry_dict_itemiterator_next ?_ (F.args_dict_itemiterator_next_1 _)))),<-bj (bv (bj (bj ?_)))]
 first|erw[bj (wpAny_typeNameOfWhole_itemiter c (bv ?_))]|erw[bj (wpAny_typeNameOf_itemiter c (bv ?_))]
 erw[bj (wpAny_fieldsOf hi J ?_)];simp only[show Builtin.Dict_items.ownsTuple "dict_itemiterator"=true by decide,if_true];show wpAny _ _ (if (Value.ref d == Value.none)=true then _ else _) _ _ s;rwa[if_neg (show ¬(Value.ref d == Value.none)=true from bK),bj (bv (bj (wpAny_dictEntries h0 hd ?_)))];rwa[if_neg 's',bj (bv (bj (wpAny_dictEpoch h0 hd ?_)))];rwa[if_neg 's',bv ?_];simp only[show ¬((i:Int)<0) by omega,if_false,Int.toNat_natCast,Array.getElem?_eq_none hge];erw[bj ?_]
 first|erw[bj (wpAny_typeNameOfWhole_itemiter c (bv ?_))]|erw[bj (wpAny_typeNameOf_itemiter c (bv ?_))]
 show wpAny _ _ (setField (.ref it) 2 .none >>=_) _ _ s;erw[bj (wpAny_setField hi J 's' ?_)];show wpAny _ _ (newExc (.type "StopIteration") [] >>=_) _ _ _;erw[bj ?_];simp only[newExc,newTuple];erw[bj (wpAny_newObj_type ?_ (by size_fits))]
 erw[bj (m:=firstArgMember _ _) (wpAny_of_eq (a:=Value.none) (by first|rfl|(simp only[firstArgMember];rfl)) (wpAny_newObj_type ?_ (by size_fits)))]
 simp only[raiseNew];erw[bj (wpAny_handled ?_)];rwa[show A.in1.handled=none from hh,bj (bv (wpAny_throw ?_))];erw[bj (wpAny_isInstance (T:="StopIteration") (b:=true) #[_,bC _ J,J] isSubtype_stop (bv (k _ (((Heap.SameBut.update ..).extBut.push _).push _))))]
def yih{n:Nat}{ok:qc}(hi:IsItemIter s.heap it d i n ep ok ov)(k:Q (.ref it) s):wpAny (model prog w) A (pyIter (.ref it)) Q E s:=by have a:s.TypeIs (.ref it) "dict_itemiterator":=#[_,hi,J];erw[wpAny_pyIter_slot a F.slot_dict_itemiterator_iter (wpAny_call_entry F.slot_dict_itemiterator_iter a (show entryFor table "dict_itemiterator.__iter__"=some Builtin.«dict_keyiterator.__iter__» from entryFor_alias (id':="dict_keyiterator.__iter__") (by kernel_rfl) J (by decide+kernel) (by kernel_rfl)) ?_ (F.args_dict_itemiterator_iter_1 _))];show wpAny _ _ (ret (.ref it)) _ _ s;erw[bv #[_,J,"dict_itemiterator",_,a,F.slot_dict_itemiterator_next.lookup,k]]
end
end
mutual
def Inv.freeze{X:Cx}{σ:St}{H:Hp}{s:qb}{u:HO}{o:Obj}(I:'i' s)(hd:H d=some u)(mu:Mut (some u))(ho:s.heap.get? d=some o):Inv X pins σ (upd H d (.frz o u)) s:=by
 have h:∀{b},H b=none->b≠d:=λn z=>by rw[z,hd]at n;cases n
 have f:∀{b v},H b=some v->¬Mut (some v)->b≠d:=λe n z=>by rw[z,hd]at e;cases e;erw[n mu]
 erw[I.ok,I.os,I.bare,#[I.base.keep,I.base.slot,λb i e n A=>?_,I.base.there,λb t e=>?_,λb i v e=>?_,λb l e=>?_],I.loc,I.cell,?_,λx c e=>?_,λp k=>?_,λb v e=>?_,I.len]
 .let z:=I.base.free b i e n A;rwa[yn (h z),z]
 .let z:=I.base.tups b t e;rwa[yn (f z id),z]
 .let z:=I.base.frzs b i v e;rwa[yn (f z id),z]
 .let#[m,z]:=I.base.tbls b l e;erw[m,by rwa[yn (f z id),z]]
 .rw[yn (h I.free)];erw[I.free]
 .rw[yn (h (I.freeC x c e))];erw[I.freeC x c e]
 .let#[r,j,w]:=I.pin p k;erw[r,by rwa[yn (h j),j],w]
 .have g:∀{c y},H c=some (.own y)->upd H d (.frz o u) c=some (.own y):=λq=>by rw[yn (f q id)];exact q
  have a:∀{c y},H c∪y->upd H d (.frz o u) c∪y:=λq=>by rwa[yn (f q id),q]
  by_cases hb:b=d
  .subst hb;rw[ya]at e;cases e;erw[ho,(I.hok b _ hd).stay (λZ Z Z q=>q) (λZ q=>g q) λZ Z q=>a q]
  .rw[yn hb]at e;erw[(I.hok b v e).stay (λZ Z Z q=>q) (λZ q=>g q) λZ Z q=>a q]
def Inv.thaw{X:Cx}{σ:St}{H:Hp}{s:qb}{u:HO}{o:Obj}(I:'i' s)(h0:∀o u,X.H₀ d≠some (.frz o u))(hd:H d=some (.frz o u)):Inv X pins σ (upd H d u) s:=by
 have g:∀{b},H b=none->b≠d:=λn z=>by rw[z,hd]at n;cases n
 erw[I.ok,I.os,I.bare,#[I.base.keep,I.base.slot,λb h e n A=>?_,I.base.there,λb r e=>?_,λb h u e=>?_,λb k e=>?_],I.loc,I.cell,?_,λx c e=>?_,λp j=>?_,λb v e=>?_,I.len]
 .let z:=I.base.free b h e n A;rwa[yn (g z),z]
 .let z:=I.base.tups b r e;rwa[yn (uc z hd (by intro w;cases w)),z]
 .rw[yn (λz=>h0 h u (by rwa[<- z,e]))];erw[I.base.frzs b h u e]
 .let#[m,z]:=I.base.tbls b k e;erw[m,by rwa[yn (uc z hd (by intro w;cases w)),z]]
 .rw[yn (g I.free)];erw[I.free]
 .rw[yn (g (I.freeC x c e))];erw[I.freeC x c e]
 .let#[l,i,t]:=I.pin p j;erw[l,by rwa[yn (g i),i],t]
 .have f:∀{c y},H c=some (.own y)->upd H d u c=some (.own y):=λq=>by rw[yn (uc q hd (by intro w;cases w))];exact q
  have a:∀{c y},H c∪y->upd H d u c∪y:=λq=>by rwa[yn (uc q hd (by intro w;cases w)),q]
  by_cases hb:b=d
  .subst hb;rw[ya]at e;cases e;erw[(I.hok b _ hd).2.stay (λZ Z Z q=>q) (λZ q=>f q) λZ Z q=>a q]
  .rw[yn hb]at e;erw[(I.hok b v e).stay (λZ Z Z q=>q) (λZ q=>f q) λZ Z q=>a q]
def Iti(o:Obj)(d:qa)(kvs:qj (qj Key×V)):It :=
 #[λi H=>H d=some (.frz o (.dT kvs))/\i<kvs.length,
  λi H x H'=>∃t kt key v,x=.ref t/\H t=none/\H'=upd H t (.tup [.ref kt,v])/\kvs[i]?=some (key,v)/\H kt∪(key.map kV),
  λi H=>H d=some (.frz o (.dT kvs))/\kvs.length<=i]
theorem ul{α β:Type}{F:α->β->Prop}:∀{l₁:qj α}{l₂:qj β},Paired F l₁ l₂->l₁.length=l₂.length
 |_,_,.nil=>rfl
 |_,_,.cons _ t=>congrArg (·+1) (ul t)
def ycj{α β:Type}{F:α->β->Prop}{l₁:qj α}{l₂:qj β}(h:Paired F l₁ l₂):∀{i:Nat}{y:β},l₂[i]?=some y->∃x,l₁[i]?=some x/\F x y:=by
 induction h with
 |nil=>intro i y e;cases e
 |cons r t ih =>
  intro i y e
  cases i with
  |zero=>cases e;exists _,J,r
  |succ j=>erw[ih e]
def yh0{w:qe}{K:xy}{elts:qj qh}{x1}{tpos:Pos}{o:Obj}{es:Array DictEntry}{kvs:qj (qj Key×V)}(d it:qa)(ho:o.data=.dict es ep)(hs:es.size=kvs.length):
  yhi P w K (.Tuple elts x1 tpos) (Iti o d kvs) [it] it (λi h=>∃ok ov,IsItemIter h it d i es.size ep ok ov) where
 mem:='s'
 obj:=λi h l b g=>by
  have e:b=it:=by simpa using g
  subst e;let#[_,_,e]:=l;erw[_,e,λv z=>by cases z]
 keep:=λi h h' ⟨ok,ov,l⟩ k=>#[ok,ov,k it 's' _ l]
 item:=by
  intro X hP S R hc i p s σ H E I D #[ok,ov,l] #[O,a];subst hP S R;let#[L,f1,f2,f3,f4,f5]:=D it 's';let#[M,_,_,N,x,o',a4,a3,ς,_,G,Z,_]:=(show xn X.prog X.w H s.heap d (.frz o (.dT kvs))from I.hok d _ O);rw[M]at ς;cases ς;rw[ho]at G;cases G;have hl:i<es.size:=()
  have he:es[i]=entryOfKey (tupleKind (xa X.prog X.w)) (N[i]'(by rwa[<- (ul x),a])):=by
   have e1:es.toList[i]?=some es[i]:=by simp[hl]
   rw[Z,bB,bp (by rwa[<- (ul x),a])]at e1;erw[(bL e1).symm]
  let#[#[C,v],T,k1,Y,k3]:=ycj x (bp (by rwa[<- (ul x),a]));have m:es[i].key=.ref (N[i]'(by rwa[<- (ul x),a])).2.1:=by rw[he];rfl
  have B:es[i].val=(N[i]'(by rwa[<- (ul x),a])).2.2:=by rw[he];rfl
  rw[<- B]at k3;generalize (N[i]'(by rwa[<- (ul x),a])).2.1=y at m Y;erw[yhw l M ho hl λh' a1 a2 hk=>#[_,J,wpAny_letOwnedTupleGo_items a1 λr b1 b2=>?_]];rw[m]at a2;have j:H 'n'=none:=I.hok.fresh (bx _);have lI:it<'n':=bE l;have keep:∀b o,b≠it->s.heap.get? b=some o->r.get? b=some o:=λb o n e=>(b2.2 b n).trans (hk b o n e);have A:r.get? 'n'=some { cls:=.type "tuple",data:=.seq (List.toArray [.ref y,es[i].val])}:=(b2.2 _ (Nat.ne_of_gt lI)).trans a2
  have U:HOk X.prog X.w (upd H 'n' (.tup [.ref y,v])) r:=λb u e=>by
   by_cases g:b='n'
   .subst g;rw[ya]at e;cases e;exists by show 2<=sizeLine;decide,[.ref y,es[i].val],.cons J (.cons k3 .nil),#[_,A,J,_,J]
   .rw[yn g]at e;refine(I.hok b u e).stay (λc z t q=>keep c z ?_ q) (λc q=>by rwa[yn (yb q j),q]) λc ys q=>by rw[yn (yb q j)];exact q
    rcases t with rfl|t
    .erw[yb e L]
    .erw[yb t L]
  have un:Un (frs X.stack) [it] H (upd H 'n' (.tup [.ref y,v])) s.heap r:=by
   have Q:∀{b z},b∉[it]->s.heap.get? b=some z->r.get? b=some z:=λ{b z}g e=>keep b z (λq=>g (by simp[q])) e;erw[λb z e n W F=>Q F e,λb z e n W F=>#[z.slots,Q F e],λb z e n W=>by rwa[yn (bY (bE e)),n],λb z e F=>#[z,Q F e],λb ys e=>by rwa[yn (yb e j),e],λb z u e=>by rwa[yn (yb e j),e],λb ps e=>#[#[],by rw[yn (yb e j),e];simp]]
  have I1:Inv X p σ (upd H 'n' (.tup [.ref y,v])) {s with heap:=r}:=I.call' (s':={s with heap:=r}) J un U I.bare λb g=>by
   let f:=D b g;erw[f.2.2.2.1,f.2.1,f.2.2.2.2.1,f.2.2.2.2.2]
  erw[.ref 'n',_,I1,J,#[_,y,C,v,J,j,J,T,by rw[show C=_ from k1]at Y⊢;erw[Y]],#[_,_,b1],λb g=>?_];rw[yn (λq=>?_)]
  .erw[(D b g).1]
  .have e:b=it:=by simpa using g
   rw[e]at q;erw[absurd q (bY lI)]
 done:=by
  intro X hP S R hc i p s σ H E I D #[ok,ov,l] #[O,a0];subst hP S R;let#[L,f1,f2,f3,f4,f5]:=D it 's';let#[M,_]:=(show xn X.prog X.w H s.heap d (.frz o (.dT kvs))from I.hok d _ O);erw[yjj (I.ok.hd hc) l M ho () λh' eb=>#[J,I.turned (t':=s.toks) (λb o g e=>eb b o g e) L f1 f3 f4 f5]]
 self:=λW W W W W ⟨_,_,l⟩ h=>yih l h
end
section
mutual
variable{X:Cx}
def yp0(to:TE):TI:=λσ H R=>to σ H λx H1=>∃d kvs,x=.ref d/\H1 d=some (.dT kvs)/\∀o,R (Iti o d kvs) (upd H1 d (.frz o (.dT kvs)))
def yn6{elts:qj qh}{x1}{tpos:Pos}{o:qh}{to:TE}(ho:PE X o to)(hbase:↑(attributeBase o "items" X.env (eval o X.env)=eval o X.env))(hline:↑((apos.endLine == cpos.line)=true)):
  PI X (.Tuple elts x1 tpos) (.Call (.Attribute o "items" apos) [] [] cpos) (yp0 to):=by
 intro g s σ H R I h;erw[wpAny_Call_method0_late hbase hline (thn (ho g s σ H _ I h) λv j h'=>?_)];let#[x,D,t,y,A]:=h';let#[d,f,J,r,q]:=A;cases y;let#[_,l,ς,C,p,E,K,c,k,u,B,_]:=(show xn X.prog X.w D j.heap d (.dT f)from t.hok d _ r);erw["dict","dict.items",F.plainAttrs_dict,F.slot_dict_items,F.type_dict_items,#[p,c,k.1],λa G=>by cases G;erw[p,c,k.2.1],Calls.callWith_builtin J (PySem.evalArgs_none (yid l c k ?_))];erw[yib #[_,bC _ J,J,J] (br _ c) u ?_];let m:=t.freeze r trivial c;have n:E.size=f.length:=by rw[(ul C),<- cJ,B,bo]
 erw[_,[_],_,_,_,J,m.kept (t':=j.toks) λb o e=>br _ (br _ e),yh0 d _ u n,#[_,_,bC _ J],λb z=>?_,q p];have e:b=(j.heap.push { cls:=.type "dict_items",data:=.fields #[.ref d]}).objs.size:=by simpa using z
 have i:j.heap.objs.size<=b:=by rw[e,Heap.size_push];omega
 erw[m.fpOk i (m.hok.fresh i)]
def yns{to:TE}{σ:St}{H:Hp}{R:It->Hp->Prop}(h:to σ H λx H1=>∃d kvs,x=.ref d/\H1 d=some (.dT kvs)/\∀o,R (Iti o d kvs) (upd H1 d (.frz o (.dT kvs)))):yp0 to σ H R:=h
def vf3(H:Hp)(D:ã):ã:={D with nx:=λσ' H'=>∃d o u,(∀o u,H d≠some (.frz o u))/\H' d=some (.frz o u)/\D.nx σ' (upd H' d u)}
def vea(t:TS):TS:=λD σ H=>t (vf3 H D) σ H
def yth{st:qd}{t:TS}(h:PS X st t):PS X st (vea t):=by
 erw[.mk λa s σ H D I q=>?_,<-thn (h a s σ H _ I q) λf i z=>?_]
 cases f with
 |next =>
  let#[σ',j,ς,d,o,c,g,b,k]:=z;erw[σ',_,ς.thaw (λo u e=>g o u (I.base.frzs d o u e)) b,k]
 |brk=>erw[z]
 |cont=>erw[z]
 |ret u=>erw[z]
def vba{t:TS}{D:ã}{σ:St}{H:Hp}(h:t (vf3 H D) σ H):vea t D σ H:=h
end
end
mutual
def yji{o:Obj}{kvs:qj (qj Key×V)}{g:TG}{tb:TS}{D:ã}{σ:St}{H:Hp}(Pv:Nat->St->Hp->Prop)(h0:Pv 0 σ H)(hl:∀i σ H,i<=kvs.length->Pv i σ H->H d=some (.frz o (.dT kvs)))
  (hs:∀i key v σ H t kt,kvs[i]?=some (key,v)->Pv i σ H->H t=none->H kt∪(key.map kV)->g (.ref t) σ (upd H t (.tup [.ref kt,v])) λσ2 H2=>tb {D with nx:=Pv (i+1),ct:=Pv (i+1),bk:=D.nx} σ2 H2) (hd:∀σ H,Pv kvs.length σ H->D.nx σ H):
  ∃W:Nat->Nat->St->Hp->Prop,(∃m,W 0 m σ H)/\∀i m σ H,W i m σ H ->
   ((Iti o d kvs).stop i H/\D.nx σ H)\/((Iti o d kvs).go i H/\∃N:Ζ,(∀σ' H',N σ' H'->∃m',m'<m/\W (i+1) m' σ' H')/\∀x H',(Iti o d kvs).yld i H x H'->g x σ H' λσ2 H2=>tb {D with nx:=N,ct:=N,bk:=D.nx} σ2 H2):=by
 erw[λi m σ H=>m=kvs.length-i/\i<=kvs.length/\Pv i σ H,#[kvs.length,'s',bR _,h0],?_];rintro i m σ H ⟨rfl,h,p⟩;let q:=hl i σ H h p;by_cases hlt:i<kvs.length
 .erw[.inr #[#[q,hlt],Pv (i+1),λσ' H' c=>#[kvs.length-(i+1),(),J,hlt,c],λx H' y=>?_]];let#[t,kt,key,v,J,f,J,a,b]:=y;erw[hs i key v σ H t kt a p f b]
 .have e:i=kvs.length:=()
  subst e;erw[.inl #[#[q,bx _],hd σ H p]]
noncomputable def Its(x:Str):It:=#[λi Z=>i<x.cps.size,λi H v H'=>H'=H/\∃c,x.cps[i]?=some c/\v=.str ⟨#[c]⟩,λi Z=>i=x.cps.size]
def yft{w:qe}{K:xy}{ty:String}(x:Str)(t:Tok)(it:qa)(hn:["enumerate","zip","dict_itemiterator","dict_reverseitemiterator","odict_iterator","itertools.zip_longest","itertools.pairwise"].contains ty=false)
  (W:∀A:qf,A.handled=none->Walks P w A it [it] [it] x.cps.size (SignAt x) (λi h=>h.IsStrIter it ty x t i)) (hs:∀(A:qf)(i:Nat)(s:qb)(Q E:Δ),s.heap.IsStrIter it ty x t i->Q (.ref it) s->wpAny (model P w) A (pyIter (.ref it)) Q E s):yhi P w K tg (Its x) [it] it (λi h=>h.IsStrIter it ty x t i) where
 mem:='s'
 obj:=λi h a b g=>by
  have e:b=it:=by simpa using g
  subst e;let#[o,e,_,d]:=a;erw[o,e,λv z=>by rw[d]at z;cases z]
 keep:=λi h m a k=>let ⟨o,e,r⟩:=a;#[o,k it 's' o e,r]
 item:=by
  intro X ς D C M i f s σ H E I n a j;subst ς D C;let#[p,B,T,L,G,F]:=n it 's';erw[(W X.A (I.ok.hd M)).item i s _ _ j a λv m q U l y=>?_];let#[c,u,S,J]:=U;have N:Inv X f σ H {s with heap:=m,toks:=q}:=I.turned (λb o g e=>y b o (by simpa using g) e) p B L G F;let#[o,e,R,O]:=id l;erw[_,J,ymy (s:={s with heap:=m,toks:=q}) e R O hn #[.str ⟨#[c]⟩,H,N,#[u,J],#[J,c,S,J],l,λb g=>(n b g).1]]
 done:=by
  intro X ς D C M i f s σ H E I n a j;subst ς D C;have j:i=x.cps.size:=j;subst j;let#[p,B,T,L,G,F]:=n it 's';erw[(W X.A (I.ok.hd M)).done s _ _ a λm q y=>#[J,I.turned (λb o g e=>y b o (by simpa using g) e) p B L G F]]
 self:=λA i s Q E a h=>hs A i s Q E a h
end
section
mutual
variable{X:Cx}
def vji(tl:TE):TI:=λσ H R=>tl σ H λv H1=>∃x,v=.str x/\R (Its x) H1
def ysj{l:qh}{tl:TE}(hl:PE X l tl):PI X tg l (vji tl):=by
 intro a s σ H R I h;erw[thn (hl a s σ H _ I h) λv c h'=>?_];let#[y,g,f,k,x,e,q]:=h';subst e;let#[t,J]:=k
 have d:∀{ob:Obj},∀b∈[c.heap.objs.size],ydn X a g b:=λ{_}b m=>by
  have e:b=c.heap.objs.size:=by simpa using m
  subst e;erw[f.fpOk (bx _) (f.hok.fresh (bx _))]
 cases ha:x.cps.all (· <128)
 .erw[wpAny_pyIter_wide ha ?_];erw[c.heap.objs.size,[c.heap.objs.size],_,_,g,J,f.kept (t':=c.toks) λb o e=>br _ e,yft x t _ ∅ (λA i=>Walks.strWide i _ x t) (λZ Z Z Z Z j h=>wpAny_pyIter_striter_wide j h),#[_,bC _ J,J,J],d (ob:=default),q]
 .erw[wpAny_pyIter_ascii ha ?_];erw[c.heap.objs.size,[c.heap.objs.size],_,_,g,J,f.kept (t':=c.toks) λb o e=>br _ e,yft x t _ ∅ (λA i=>Walks.strAscii i _ x t) (λZ Z Z Z Z j h=>wpAny_pyIter_striter_ascii j h),#[_,bC _ J,J,J],d (ob:=default),q]
def vam{tl:TE}{σ:St}{H:Hp}{R:It->Hp->Prop}(h:tl σ H λv H1=>∃x,v=.str x/\R (Its x) H1):vji tl σ H R:=h
def yeu{k:Str}{t:Tok}{pos:Pos}(hg:Gl X x)(hm:X.mg x=some (.str k t))(hd:⇑'d'):PE X (.Name x pos) (tC (.str k)):=yfa hg hm #[t,J] hd
end
end
mutual
def ycc{te:TE}{R:Hp->Prop}{H1:Hp}(f:Nat->V)(hD:H1 D=none)
  (hs:∀i c H,x.cps[i]?=some c->i<x.cps.size->yu H1 H->H D\((List.range i).map f)->te [some (.str ⟨#[c]⟩)] H (MpK H1 D f x.cps.size i)) (hd:∀H,yu H1 H->H D\((List.range x.cps.size).map f)->R H):yhd (Its x) te D R H1:=by
 erw[cW x.cps.size (Mp H1 D f),#[x.cps.size,'s',bR _,Mp.zero hD],?_];rintro i m H ⟨rfl,d,p⟩;by_cases hlt:i<x.cps.size
 .erw[.inr #[hlt,λv b y=>?_]];let#[J,c,a,J]:=y;erw[hs i c _ a hlt p.1 p.2]
 .have e:i=x.cps.size:=()
  subst e;erw[.inl #[J,hd H p.1 p.2]]
noncomputable def Itv(o:Obj)(d:qa)(kvs:qj (Key×V)):It :=
 #[λi H=>H d=some (.frz o (.dK kvs))/\i<kvs.length,λi H x H'=>H'=H/\∃k,kvs[i]?=some (k,x),λi H=>H d=some (.frz o (.dK kvs))/\kvs.length<=i]
def vgu{w:qe}{k:Key}{u:qc}(r:(xa P w).is k u=true):ub (kV k) u:=by rcases xh r with⟨i,t,rfl,rfl⟩|⟨x,t,rfl,rfl⟩<;>erw[t,J]
def KV.get{kvs:qj (Key×V)}{vs:qj (Key×qc)}(r:KV kvs vs){k:Key}{u:qc}(h:vs[i]?=some (k,u)):∃v,kvs[i]?=some (k,v)/\ub v u:=by let#[#[b,v],e,a,c]:=ycj r h;have a:b=k:=a;erw[v,by rw[e,a],c]
def ywf{xs:Τ}{us:Ξ}(hl:xs.length=us.length)(h:∀(i:Nat)u,us[i]?=some u->∃x,xs[i]?=some x/\ub x u):xc xs us:=by
 induction xs generalizing us with
 |nil =>
  cases us with
  |nil=>erw[.nil]
  |cons u us=>cases hl
 |cons x xs ih =>
  cases us with
  |nil=>cases hl
  |cons u us =>
   let#[y,e,r]:=h 0 u J;cases e;erw[.cons r (ih (Nat.succ.inj hl) λi u a=>h (i+1) u a)]
def ysr{X:Cx}{σ:St}{H:Hp}{s:qb}{kvs:qj (Key×V)}{o:Obj}{es:Array DictEntry}(I:'i' s)(hd:H d=some (.frz o (.dK kvs)))(ho:o.data=.dict es ep):∃vs,KV kvs vs/\s.heap.DictAt (xa X.prog X.w) d vs ep:=by let#[a,_,_,vs,r,i,h,f,b,g,c,e]:=(show xn X.prog X.w H s.heap d (.frz o (.dK kvs))from I.hok d _ hd);rw[a]at b;cases b;rw[ho]at c;cases c;erw[vs,r,o,es,a,g,ho,e]
def yj9{w:qe}{K:xy}{o:Obj}{es:Array DictEntry}{kvs:qj (Key×V)}(d it:qa)(hne:d≠it)(ho:o.data=.dict es ep):yhi P w K tg (Itv o d kvs) [it] it (λi h=>h.IsValIter it d i kvs.length ep) where
 mem:='s'
 obj:=λi h a b f=>by
  have e:b=it:=by simpa using f
  subst e;let#[o,e,_,d]:=a;erw[o,e,λv z=>by rw[d]at z;cases z]
 keep:=λi h j a k=>a.at λo e=>k it 's' o e
 item:=by
  intro X C u t G i c s σ H E I l a #[n,N];subst C u t;let#[p,q,f2,D,B,x]:=l it 's';let#[L,r,F]:=ysr I n ho;let m:=r.length;let W:=Walks.dictValues (knd:=xa X.prog X.w) (prog:=X.prog) (w:=X.w) (A:=X.A) (I.ok.hd G) it d hne L ep;erw[W.item i s _ _ () #[by rwa[<- m,a],F] λv j ς hv g R=>?_];let#[k,hx]:=hv;let#[y,U,Z]:=r.get hx;have Q:Inv X c σ H {s with heap:=j,toks:=ς}:=I.turned (λb o f e=>R b o (by simpa using f) e) p q D B x;let#[o',S,O,Y]:=id g.1;erw[_,J,ymy (s:={s with heap:=j,toks:=ς}) S O Y ∅ #[y,H,Q,Z,#[J,k,U],by rwa[m,g.1],λb f=>(l b f).1]]
 done:=by
  intro X C u t G i c s σ H E I l a #[n,M];subst C u t;let#[p,q,f2,D,B,x]:=l it 's';let#[L,r,F]:=ysr I n ho;let m:=r.length;erw[wpAny_pyNext_values_end (I.ok.hd G) (by rwa[<- m,a]) F (by rw[List.getElem?_eq_none_iff];omega) λj T=>#[J,I.turned (t':=s.toks) (λb o f e=>T b o f e) p q D B x]]
 self:=λv v v v v a h=>wpAny_pyIter_valiter a h
end
section
mutual
variable{X:Cx}
def vfi(to:TE):TI:=λσ H R=>to σ H λx H1=>∃d kvs,x=.ref d/\H1 d=some (.dK kvs)/\∀o,R (Itv o d kvs) (upd H1 d (.frz o (.dK kvs)))
def yvy{l:qh}{to:TE}(hl:PE X l to)(hbase:↑(attributeBase l "values" X.env (eval l X.env)=eval l X.env))(hline:↑((apos.endLine == cpos.line)=true)):PI X tg (.Call (.Attribute l "values" apos) [] [] cpos) (vfi to):=by
 intro i s σ H R I h;erw[wpAny_Call_method0_late hbase hline (thn (hl i s σ H _ I h) λv c h'=>?_)];let#[x,E,A,C,d,kvs,e,z,q]:=h';subst e;cases C;let#[_,n,p,r,k,G,ep,f,u,B,ς]:=(show xn X.prog X.w E c.heap d (.dK kvs)from A.hok d _ z);have y:c.heap.DictAt (xa X.prog X.w) d p ep:=#[k,G,f,u,B,ς];erw["dict","dict.values",F.plainAttrs_dict,F.slot_dict_values,F.type_dict_values,#[k,f,u.1],λa K=>by cases K;erw[k,f,u.2.1],Calls.callWith_builtin J (PySem.evalArgs_none (call_meetsIn F.slot_dict_values y.dictOf.typeIs F.entry_dict_values (F.args_dict_values_1 _) (meets_dict_values (xa X.prog X.w) d n) #[#[p,y.dictOf],?_]))];erw[wpAny_pyIter_values (knd:=xa X.prog X.w) (d:=d) (kvs:=p) (ep:=ep) #[_,bC _ J,J,J] (y.push _) ?_];let t:=A.freeze z trivial f;have g:(c.heap.push { cls:=.type "dict_values",data:=.fields #[.ref d]}).objs.size=c.heap.objs.size+1:=Heap.size_push ..;have m:d<c.heap.objs.size:=bE f;erw[_,[_],_,_,_,J,t.kept (t':=c.toks) λb o e=>br _ (br _ e),yj9 d _ (show d≠(c.heap.push _).objs.size by rwa[g,bY (Nat.lt_succ_of_lt m)]) B,#[_,bC _ J,J,by rw[r.length];rfl],λb D=>?_,q k];have e:b=(c.heap.push { cls:=.type "dict_values",data:=.fields #[.ref d]}).objs.size:=by simpa using D
 have j:c.heap.objs.size<=b:=by rw[e,g];omega
 erw[t.fpOk j (t.hok.fresh j)]
def yuc{to:TE}{σ:St}{H:Hp}{R:It->Hp->Prop}(h:to σ H λx H1=>∃d kvs,x=.ref d/\H1 d=some (.dK kvs)/\∀o,R (Itv o d kvs) (upd H1 d (.frz o (.dK kvs)))):vfi to σ H R:=h
def yrw(t:TE):TE:=λσ H Q=>t σ H λv H'=>∃d o u,(∀o u,H d≠some (.frz o u))/\H' d=some (.frz o u)/\Q v (upd H' d u)
def yt5{e:qh}{t:TE}(h:PE X e t):PE X e (yrw t):=.mk λa s σ H Q I q=>thn (h a s σ H _ I q) λv f z=>by
 let#[x,g,ς,r,d,o,u,c,b,k]:=z;erw[x,_,ς.thaw (λo u e=>c o u (I.base.frzs d o u e)) b,r,k]
def yue{t:TE}{σ:St}{H:Hp}{Q:VK}(h:t σ H λv H'=>∃d o u,(∀o u,H d≠some (.frz o u))/\H' d=some (.frz o u)/\Q v (upd H' d u)):yrw t σ H Q:=h
def yxo:qj V->Hp->VK->Prop:=λxs H Q=>∃d kvs,xs=[.ref d]/\H d=some (.dK kvs)/\∀l,H l=none->Q (.ref l) (upd H l (.lst (kvs.map λp=>kV p.1)))
def yik(hc:X.calm=true):θ X (.type "list") yxo:=by
 intro j s σ H R T Q I r h;let#[d,kvs,J,l,q]:=h;let#[u,J,E]:=Ő r;cases E;let#[g,c,f,r,L,D,ep,m,ς,B,K]:=(show xn X.prog X.w H s.heap d (.dK kvs)from I.hok d _ l);have M:s.heap.DictAt (xa X.prog X.w) d f ep:=#[L,D,m,ς,B,K];erw[W.kdl_call (W.kdl_dict (knd:=xa X.prog X.w) (kvs:=f) (ep:=ep) c) (I.ok.hd hc) M (by rwa[<- r.length,g]) λz A a o n e b=>?_]
 have N:xc (kvs.map λp=>kV p.1) a.toList:=ywf (by have P:=b.1;let O:=r.length;have S:a.toList.length=a.size:=cJ;rw[bo];omega) λi v F=>by
  let#[k,x,G,t]:=b.2 i v (by rwa[<- Array.getElem?_toList,F]);let#[y,C,_]:=r.get G;erw[kV k,by rw[bB,C];rfl,vgu t]
 erw[.ref 'n',_,I.laid (t':=A) n (bx _) (show xn X.prog X.w _ z _ (.lst _)from #[by rwa[bo,g],a.toList,o,N,by rwa[Array.toArray_toList,e]]),J,q _ (I.hok.fresh (bx _))]
end
end
mutual
def yh1{o:Obj}{kvs:qj (Key×V)}{te:TE}{fr:St}{R:Hp->Prop}{H1:Hp}(Pv:Nat->Hp->Prop)(h0:Pv 0 (upd H1 D (.lst [])))(hl:∀i H,i<=kvs.length->Pv i H->H d=some (.frz o (.dK kvs)))
  (hs:∀i k v H,kvs[i]?=some (k,v)->i<kvs.length->Pv i H->te (some v::fr) H λy H4=>∃ys,H4 D\ys/\ys.length<sizeLine/\∃m',m'<kvs.length-i/\cW kvs.length Pv (i+1) m' (upd H4 D (.lst (ys++[y])))) (hd:∀H,Pv kvs.length H->R H):jc (Itv o d kvs) te fr D R H1:=by
 erw[cW kvs.length Pv,#[kvs.length,'s',bR _,h0],?_];rintro i m H ⟨rfl,b,p⟩;let q:=hl i H b p;by_cases hlt:i<kvs.length
 .erw[.inr #[#[q,hlt],λx c y=>?_]];let#[J,k,a]:=y;erw[hs i k x _ a hlt p]
 .have e:i=kvs.length:=()
  subst e;erw[.inl #[#[q,bx _],hd H p]]
noncomputable def isN:V->Bool
 | .non=>true
 |_=>false
noncomputable def vgb:qc->Bool
 | .none=>true
 |_=>false
def vkb(K:xy):R2:=λx y H Q=>∃p xs,x=.non/\y=.ref p/\SqL K H p xs/\(∀z∈xs,z=.non\/∃q ys,z=.ref q/\SqL K H q ys)/\Q (.bl (xs.any isN)) H
theorem ylu:∀{xs:Τ}{us:Ξ},xc xs us->(∀z∈xs,z=.non\/∃q,z=.ref q)->us.any vgb=xs.any isN
 |_,_,.nil,_=>rfl
 |y::xs,u::us,.cons r t,f=>by
  rw[List.any_cons,List.any_cons,ylu t λz a=>f z (cg _ a)]
  congr 1
  rcases f y cj with rfl|⟨q,rfl⟩
  .cases r;rfl
  .cases r;rfl
def yx8{X:Cx}(hu:X.A.units+64<cLine):OpR X (compareOp .In) (vkb X.K):=by
 intro n s σ H x y v u Q I F G h;let#[p,d,J,J,B,c,q]:=h;cases F;cases G;let#[b,r,E,D]:=I.list B
 have g:∀{d:Τ}{j:Ξ},xc d j->(∀z∈d,z=.non\/∃q o,z=.ref q/\SqL X.K H q o)->∀w∈j,SeqAt.EqAt X.A.in1 s w .none (vgb w):=by
  intro d j C
  induction C with
  |nil=>intro _ w a;cases a
  |cons r1 t ih =>
   intro f w a;rcases bH.mp a with rfl|a
   .rcases f _ cj with rfl|⟨ς,o,rfl,i⟩
    .cases r1;erw[SeqAt.EqAt.same _]
    .cases r1;let#[m,_,k,_]:=I.list i;erw[SeqAt.EqAt.list_none k.isList (by show X.A.units+1<cLine;omega)]
   .erw[ih (λz c=>f z (cg _ c)) w a]
 erw[SeqAt.in_listAt vgb E.isList (λw a=>g r c w (by simpa using a)) #[.bl _,H,I,J,?_]];rw[show b.toArray.any vgb=b.any vgb by simp,ylu r λz l=>(c z l).imp id λ⟨q,_,e,_⟩=>#[q,e]];erw[q]
def yjd{X:Cx}:θ X (.builtin "len") (λxs H Q=>∃a kvs,xs=[V.ref a]/\H a=some (.dK kvs)/\Q (.int kvs.length) H):=by intro b s σ H xs g Q I r h;let#[a,kvs,J,e,q]:=h;let#[u,J,d]:=Ő r;cases d;erw[vh2 I (.of e) λt f c=>#[.int kvs.length,H,c,#[t,J],q]]
def yu5{σ:St}{H:Hp}{Q:VK}(h:∀p,H p=none->Q (.ref p) (upd H p (.dK []))):yrx σ H Q:=h
def yu8{td ty:TE}{σ:St}{H:Hp}{Q:VK}(h:td σ H λx H1=>∃a,x=.ref a/\IsD H1 a/\ty σ H1 λy H2=>∃kvs k v,H2 a=some (.dK kvs)/\y=kV k/\π kvs k=some v/\Q v (upd H2 a (.dK (Ė kvs k)))):ysb td ty σ H Q:=h
def yka(bs:qj Bool):((List.range bs.length).any λi=>(bs[i]?).getD false)=bs.any id:=by
 rw[Bool.eq_iff_iff,c7,c7]
 constructor
 .rintro ⟨i,a,h⟩;let a:=cG.mp a;rw[bp a]at h;erw[_,bW a,h]
 .rintro ⟨b,c,h⟩;let#[i,a,J]:=List.getElem_of_mem c;erw[i,cG.mpr a,by rwa[bp a,h]]
def ynb{X:Cx}(hc:X.calm=true):θ X (.builtin "any") (λxs H Q=>∃p bs,xs=[.ref p]/\SqL X.K H p (List.map V.bl bs)/\Q (.bl (bs.any id)) H):=by
 intro g s σ H xs E Q I r h;let#[p,bs,J,l,q]:=h;let#[u,J,t]:=Ő r;cases t;let#[n,j,o,C]:=I.list l;obtain rfl:=ya3 j;let f:=o.isList;have c:p<'n':=by let#[_,e,_]:=f;erw[bE e]
 erw[call_any_walk (wpAny_pyIter_list f ?_)]
 erw['n',['n',p],['n'],(bs.map Value.bool).toArray.size,_,_,λi=>(bs[i]?).getD false,J,Walks.list (A:=X.A.in1) (show X.A.handled=none from I.ok.hd hc) _ p (bY c) (bs.map Value.bool).toArray,
  #[#[_,bC _ J,J,J],f.push _],λi v y D z a d=>?_,λB m k=>?_]
 .have a:(bs.map Value.bool)[i]?=some v:=by simpa using a
  rw[bB]at a
  cases e:bs[i]? with
  |none=>rw[e]at a;cases a
  |some b =>
   dsimp only at d;rw[e]at a d;cases a;erw[cI d]
 .have e:((List.range (bs.map Value.bool).toArray.size).any λi=>(bs[i]?).getD false)=bs.any id:=by rw[bF,bo];exact yka bs
  rwa[e,#[.bl (bs.any id),H,I.kept (t':=m) λb x e=>k b x (λw=>?_) (br _ e),J,q]];rw[bO.mp w]at e;erw[cU _ (bE e)]
end
section
mutual
variable{X:Cx}
def vie:R2:=λx y H Q=>∃(z:Str)(k:Int),x=.str z/\y=.int k/\0<=k/\k<=2000/\z.length<=1000/\∀z':Str,z'.cps.toList=(List.replicate k.toNat z.cps.toList).flatten->Q (.str z') H
theorem yk6(a:Array Nat):∀(k:Nat)(b:Array Nat),((List.replicate k a).foldl (·++·) b).toList=b.toList++(List.replicate k a.toList).flatten
 |0,b=>by simp
 |k+1,b=>by
  rw[cu,List.foldl_cons,yk6 a k,Array.toList_append,cu,List.flatten_cons,bX]
theorem yh9:OpR X (binaryOp .Mult) vie:=by
 intro a s σ H x y v u Q I f g h;let#[z,k,J,J,l,n,j,q]:=h;let#[t,J]:=f;let#[o,J]:=g;by_cases k0:k<1
 .erw[P.mul_str_none k0 () #[.str Str.empty,H,I.tok _,#[_,J],q _ (by rw[show k.toNat=0 by omega];rfl)]]
 have m:z.length*k.toNat<=1000*2000:=Nat.mul_le_mul j ();erw[P.mul_str (by rw[bD (),bD ()];rfl) (λZ Z=>?_) (λZ Z=>?_) ?_]
 .have c:(z.length:Int)*k=((z.length*k.toNat:Nat):Int):=by rw[Int.natCast_mul,Int.toNat_of_nonneg ()]
  have d:(z.length:Int)*k<=(2^63-1:Int):=by rw[c];omega
  erw[Int.not_lt.mpr (Int.le_ediv_of_mul_le () d)]
 .have:=sizeLine_eq;unfold Builtin.Str.tooLong;erw[bD ()]
 .rw[if_neg ()];by_cases h1:(k == 1 || z.length == 0)=true
  .rw[if_pos h1];erw[.str z,H,I,#[_,J],q z ?_];rcases Bool.or_eq_true_iff.mp h1 with e|e
   .rw[beq_iff_eq.mp e];simp
   .have i:z.cps.toList=[]:=cO (by have:=beq_iff_eq.mp e;simpa[Str.length]using this);rw[i];simp
  .rw[if_neg h1];let b:=yk6 z.cps k.toNat #[];exists ?_,#[.str _,H,I.tok _,#[_,J],q _ b]
   have e:Str.length ⟨(List.replicate k.toNat z.cps).foldl (·++·) #[]⟩=k.toNat*z.cps.toList.length:=by
    show ((List.replicate k.toNat z.cps).foldl (·++·) #[]).size=_;rw[<- cJ,b];simp[List.sum_replicate_nat]
   rw[e,sizeLine_eq,Nat.mul_comm];have:z.cps.toList.length=z.length:=by simp[Str.length]
   rw[this];omega
end
end
section
variable{prog:qi}{w:qe}
noncomputable def vht(k:Int×qj Int):Int:=reduceHash (Builtin.Tuple.tupleHashOf [hashInt k.1,reduceHash (Builtin.Tuple.tupleHashOf (k.2.map hashInt))])
variable{A:qf}{E:Δ}{s:qb}
end
mutual
abbrev NX:=(Int×qj Int)×qa×qa
def vj5(x:NX):DictEntry:=#[vht x.1,.ref x.2.1,.ref x.2.2]
def ND(a:qa)(xs:qj NX):HO:=.ext λh=>(a == sysModules)=false/\∃o es ep,h.get? a=some o/\o.ExactDict/\o.data=.dict es ep/\es.toList=xs.map vj5
def NKy(H:Hp)(p:qa)(k:Int×qj Int):Prop:=∃b,H p∪[.int k.1,.ref b]/\H b∪(k.2.map V.int)
structure NDt(H:Hp)(a:qa)(xs:qj NX):Prop where
 o:H a=some (ND a xs)
 k:∀x∈xs,NKy H x.2.1 x.1
 n:(xs.map (·.1)).Nodup
 l:xs.length<sizeLine
def yza{X:Cx}{K:xy}{o e:qh}{es:qj qh}{to:TE}{t:TA}{name:Str}{T id:String}{r:V->qj V->Hp->VK->Prop}(hK:X.K=K)(pa:PlainAttrs T)(slot:Slot T name id)(hty:typeOf (.builtin id)=pure (.type "method_descriptor"))(hm:MtR X id r)(ho:PE X o to)(ha:PA X (e::es) t)
  (hbase:↑(attributeBase o name X.env (eval o X.env)=eval o X.env))
  (hfew:((backTo cpos (starEach (e::es) X.env)).all (λx=>!x.1) && (backToKw cpos (keywordEach [] X.env)).all (λx=>x.1.isSome)
   && decide ((e::es).length+([]:qj Keyword).length+(if ([]:qj Keyword).isEmpty then 0 else 1)<30))=true:=by rfl)
  (hline:↑((apos.endLine == cpos.line)=true)) (hs:↑'a') (hplain:↑((backTo cpos (starEach es X.env)).any (·.1)=false)):
  PE X (.Call (.Attribute o name apos) (e::es) [] cpos) (tBM K T r to t):=hK ▸ ξ pa slot hty hm ho ha hbase hfew hline hs hplain
def yh8{K:xy}{a:qa}{xs:Τ}{tc:TT}{te:TE}{fr:St}{R:Hp->Prop}{H1:Hp}(Pv:Nat->Hp->Prop)(h0:Pv 0 (upd H1 D (.lst [])))(hl:∀i H,i<=xs.length->Pv i H->SqL K H a xs)
  (hs:∀i x H,xs[i]?=some x->i<xs.length->Pv i H->tc (some x::fr) H λb H4=>if b=true then te (some x::fr) H4 (λy H5=>∃ys,H5 D\ys/\ys.length<sizeLine/\∃m',m'<xs.length-i/\cW xs.length Pv (i+1) m' (upd H5 D (.lst (ys++[y]))))else ∃m',m'<xs.length-i/\cW xs.length Pv (i+1) m' H4)
  (hd:∀H,Pv xs.length H->R H):ă (Itl K a) tc te fr D R H1:=by
 erw[cW xs.length Pv,#[xs.length,'s',bR _,h0],?_];rintro i m H ⟨rfl,c,p⟩;let q:=hl i H c p;by_cases hlt:i<xs.length
 .erw[.inr #[#[xs,xs[i],q,by simp[hlt]],λx d y=>?_]];let#[e,y]:=y;subst e;erw[hs i x _ (y xs q) hlt p]
 .have e:i=xs.length:=()
  subst e;erw[.inl #[#[xs,q,bx _],hd H p]]
def yf2(b:Str)(ns:Ρ):inV (.str b) (ns.map V.str)=decide (b∈ns):=by
 unfold inV;rw[Bool.eq_iff_iff,c7,decide_eq_true_iff]
 constructor
 .rintro ⟨v,a,e⟩;let#[x,c,J]:=bw.mp a;have d:x=b:=eq_of_beq (show (x == b)=true from e);rwa[<- d,c]
 .intro h;erw[_,bw.mpr #[b,h,J],show (b == b)=true from beq_self_eq_true b]
def ycb(ns:Ρ):(ns.map V.str).all ybt=true:=by rw[List.all_eq_true];intro v a;let#[x,_,J]:=bw.mp a;rfl
end
end L2
namespace L2
open PySem.SeqAt PySem.Builtin PySem.Builtin.Str
mutual
noncomputable def isS(b:Str):qc->Bool
 | .str x _=>decide (x=b)
 |_=>false
def vi6(ns:Ρ)(b:Str)(j:Nat):Prop:=ns[j]?=some b/\∀m,m<j->ns[m]?≠some b
theorem yl2(b:Str):∀{ns:Ρ}{vs:Ξ},xc (ns.map V.str) vs->∀(j:Nat)(h:j<vs.length),isS b vs[j]=decide (ns[j]?=some b)
 |[],_,.nil,j,h=>absurd h (bS j)
 |x::ns,_,.cons r rs,j,h=>by
  let#[t,J]:=r
  cases j with
  |zero =>
   show decide (x=b)=decide (some x=some b);simp
  |succ j=>erw[yl2 b rs j (Nat.lt_of_succ_lt_succ h)]
theorem yqg(b:Str)(u:Tok):∀{ns:Ρ}{vs:Ξ},xc (ns.map V.str) vs->∀y,y∈vs->MeetsSeq.EqGives y (.str b u) (isS b y)
 |[],_,.nil,y,h=>nomatch h
 |x::ns,_,.cons r rs,y,h=>by
  let#[t,J]:=r;rcases bH.mp h with rfl|h
  .erw[λZ Z Z Z Z Z h=>wpAny_eqBool_str h]
  .erw[yqg b u rs y h]
end
section
mutual
variable{X:Cx}
def yve(K:xy):V->qj V->Hp->VK->Prop:=λx vs H Q=>∃l ns b j,x=.ref l/\vs=[.str b]/\SqL K H l (List.map V.str ns)/\vi6 ns b j/\Q (.int (j:Nat)) H
def yjh:MtR X "list.index" (yve X.K):=by
 intro w s σ H x S v U Q I N E h;let#[l,g,b,j,J,J,ς,#[z,e],q]:=h;cases N;let#[u,J,P]:=E.one;let#[t,J]:=P;let#[a,r,M,o]:=I.list ς;let#[#[B,T,i,C],n,p,A,d,c]:=M;simp only at A d c;subst A d c;have k:g.length=a.length:=by rw[<- r.length,bo]
 have D:j<g.length:=(bJ.mp z).1;let G:=yc5;have R:g.length<=sizeLine:=by rw[bo]at o;erw[o]
 refine call_meets PySem.F.slot_list_index #[_,p,J] PySem.F.entry_list_index (PySem.F.args_list_index_2 _ _)
  (list_indexAt l a.toArray n none C (.str b t) (isS b) j (by rw[bF];omega) () ?_ ?_) #[p,λy L=>(yqg b t r y (by simpa using L)).at _ _,.int j,H,I.tok _,#[_,J],q]
 .show isS b a[j]=true;rwa[yl2 b r j (),bz z]
 .intro m O f;show isS b a[m]=false;rwa[yl2 b r m (by simpa using O),bD (e m f)]
def ykt:V->qj V->Hp->VK->Prop:=λx vs H Q=>∃y b,∃i:Nat,∃w8,x=.str y/\vs=[.str b]/\occurrences y b 0 y.length 1=i::w8/\Q (.int i) H
def yj5:MtR X "str.index" ykt:=by intro a s σ H x j v k Q I e f h;let#[y,b,i,w8,J,J,c,q]:=h;let#[t,J]:=e;let#[u,J,d]:=f.one;let#[g,J]:=d;erw[SC.index c #[.int i,H,I.tok _,#[_,J],q]]
end
end
mutual
def via(t:qa)(o:Obj)(n:Nat)(x y z b:Str)(tx ty tz u:Tok)(hc:o.cls=.type "tuple")(hd:o.data=.seq (List.toArray [.str x tx,.str y ty,.str z tz]) n)(k:Nat)(hk:(x=b/\k=0)\/(x≠b/\y=b/\k=1)\/(x≠b/\y≠b/\z=b/\k=2)):
  Meets (Builtin.«tuple.index» #[[.ref t,.str b u],[]]) (λZ R s=>s.heap.get? t=some o/\R (.ok (.ret (.int (k:Nat) s.toks))) {s with toks:=s.toks+1}) :=
 .of_wp λa w A R s h=>by
  let#[F,g,K,H,ς]:=s;let#[m,h]:=h;let#[c,d,G,I]:=o;simp only at hc hd;subst hc hd;unfold Builtin.«tuple.index»;simp only[Std.Legacy.Range.forIn_eq_forIn_range',Std.Legacy.Range.size,Nat.sub_zero,Nat.add_sub_cancel,Nat.div_one]
  have f:∀{c:Bool}{q r:Str}{v B:Tok},decide (q=r)=c->∀{Q:Bool->qb->Prop}{E:Δ}{A:qf}{s:qb},Q c s->wpAny (model a w) A (eqBool (.str q v) (.str r B)) Q E s:=by
   intro c q r v B e Q E A s h;erw[wpAny_eqBool_str (by rwa[e,h])]
  rcases hk with⟨j,rfl⟩|⟨j,p,rfl⟩|⟨j,p,C,rfl⟩
  .have i:∀{Q:Bool->qb->Prop}{E:Δ}{A:qf}{s:qb},Q true s->wpAny (model a w) A (eqBool ((List.toArray [Value.str x tx,Value.str y ty,Value.str z tz])[0]) (Value.str b u)) Q E s:=λh=>f (bz j) h
   wp_walk using AutoSeq1.wpAny_loadPart' m,i
   exists _,J,h
  .have i:∀{Q:Bool->qb->Prop}{E:Δ}{A:qf}{s:qb},Q false s->wpAny (model a w) A (eqBool ((List.toArray [Value.str x tx,Value.str y ty,Value.str z tz])[0]) (Value.str b u)) Q E s:=λh=>f (bD j) h;have l:∀{Q:Bool->qb->Prop}{E:Δ}{A:qf}{s:qb},Q true s->wpAny (model a w) A (eqBool ((List.toArray [Value.str x tx,Value.str y ty,Value.str z tz])[1]) (Value.str b u)) Q E s:=λh=>f (bz p) h
   wp_walk using AutoSeq1.wpAny_loadPart' m,i,l
   exists _,J,h
  .have i:∀{Q:Bool->qb->Prop}{E:Δ}{A:qf}{s:qb},Q false s->wpAny (model a w) A (eqBool ((List.toArray [Value.str x tx,Value.str y ty,Value.str z tz])[0]) (Value.str b u)) Q E s:=λh=>f (bD j) h;have l:∀{Q:Bool->qb->Prop}{E:Δ}{A:qf}{s:qb},Q false s->wpAny (model a w) A (eqBool ((List.toArray [Value.str x tx,Value.str y ty,Value.str z tz])[1]) (Value.str b u)) Q E s:=λh=>f (bD p) h;have D:∀{Q:Bool->qb->Prop}{E:Δ}{A:qf}{s:qb},Q true s->wpAny (model a w) A (eqBool ((List.toArray [Value.str x tx,Value.str y ty,Value.str z tz])[2]) (Value.str b u)) Q E s:=λh=>f (bz C) h
   wp_walk using AutoSeq1.wpAny_loadPart' m,i,l,D
   exists _,J,h
end
section
mutual
variable{X:Cx}
def ywa(K:xy):V->qj V->Hp->VK->Prop:=λx vs H Q=>∃y0 y1 y2 b t,∃k:Nat,x=.ref t/\vs=[.str b]/\SqT K H t [.str y0,.str y1,.str y2]/\((y0=b/\k=0)\/(y0≠b/\y1=b/\k=1)\/(y0≠b/\y1≠b/\y2=b/\k=2))/\Q (.int (k:Nat)) H
def ykf:MtR X "tuple.index" (ywa X.K):=by
 intro c s σ H x E v ς Q I A p h;let#[B,j,D,b,t,k,J,J,i,l,q]:=h;cases A;let#[u,J,C]:=p.one;let#[f,J]:=C;let#[m,r,z,G]:=I.tuple i;let#[o,a,d,n,e]:=z
 cases r with
 |cons r0 r=>cases r with
  |cons r1 r=>cases r with
   |cons r2 r =>
    cases r;let#[w,J]:=r0;let#[y,J]:=r1;let#[g,J]:=r2;erw[call_meets PySem.F.slot_tuple_index #[_,a,d] PySem.F.entry_tuple_index (PySem.F.args_tuple_index_2 _ _) (via t o n B j D b w y g f d e k l) #[a,.int k,H,I.tok _,#[_,J],q]]
end
end
end L2
namespace L2
mutual
def ο.m{j k:Nat}{A:qf}(r:ο k A)(h:⇑(j<=k)):ο j A:=r.mono h
end
section
mutual
variable{X:Cx}{e:qh}{es:qj qh}{te:TE}{t:TA}
def pa1(ha:PE X e te)(h:autoParam (ybh e=true) aE._auto_1):PA X [e] (yin te yhh):=x9 ha xo (xx h)
def pac(ha:PE X e te)(hr:PA X es t)(h:autoParam (ybh e=true) aE._auto_1):PA X (e::es) (yin te t):=x9 ha hr (xx h)
end
end
section
mutual
variable{X:Cx}{k:Nat}{f:qa}{fd:FuncData}{ps:Ρ}{sp:Sp}{Ex:St->XK}{x:Str}{p pos:Pos}{e:qh}{es:qj qh}{t:TA}{st:qd}{id:String}{r:qj V->Hp->VK->Prop}{T:String}
def ut(F:vx X.prog X.w X.K X.mg X.base CX0 k f fd ps sp)(hr:ο k X.A)(D:Dff X.K X.mg x st ps f fd)(ha:PA X (e::es) t)(hg:autoParam (Gl X x) aE._auto_1)(hdb:⇑'d')
  (he:↑'a') (hpl:↑'b'):PE X (.Call (.Name x p) (e::es) [] pos) (ywp sp [] E0 t):=yt8 F hr hg D.m D.F.kp D.B .nil vo ha hdb he hpl
def uz(F:vx X.prog X.w X.K X.mg X.base (CXe X.prog X.w) k f fd ps sp)(hr:ο k X.A)(D:Dff X.K X.mg x st ps f fd)(hc:Č X Ex)(ha:PA X (e::es) t)(hg:autoParam (Gl X x) aE._auto_1)(hdb:⇑'d')
  (he:↑'a') (hpl:↑'b'):PE X (.Call (.Name x p) (e::es) [] pos) (yl0 sp [] Ex t):=yoa F hr hg D.m D.F.kp D.B .nil hc ha hdb he hpl
def pcB(hc:θ X (.builtin id) r)(hm:X.mg x=none)(ha:PA X (e::es) t)(hg:autoParam (Gl X x) aE._auto_1)(hv:↥(bootBuiltins x=some (.builtin id)))(hn:⇑(x≠"__name__"))(hdb:⇑'d')
  (he:↑'a') (hpl:↑'b'):PE X (.Call (.Name x p) (e::es) [] pos) (tCB r t):=yo9 hc hg hm hv ha hn hdb he hpl
def pcT(hc:θ X (.type T) r)(hm:X.mg x=none)(ha:PA X (e::es) t)(hg:autoParam (Gl X x) aE._auto_1)(hv:↥(bootBuiltins x=some (.type T)))(hn:⇑(x≠"__name__"))(hdb:⇑'d')
  (he:↑'a') (hpl:↑'b'):PE X (.Call (.Name x p) (e::es) [] pos) (tCB r t):=ykd hc hg hm hv ha hn hdb he hpl
end
end
section
mutual
variable{X:Cx}{x f:Str}{p pos pos':Pos}{a b e:qh}{ta tb te:TE}{r:R2}
def pfs(hN:↑(X.N[0]?=some x))(hv:autoParam (Vis X.env.scope x) aH._auto_1)(hd:⇑'d')(hcd:⇑((x == ("__classdict__":Str))=false))(hb:↑(attributeBase (.Name x p) f X.env (eval (.Name x p) X.env)=eval (.Name x p) X.env)):PE X (.Attribute (.Name x p) f pos) (vgi X.K (yxc 0) f):=jj (yme hN hv hd hcd) hb
def pav(i:Nat)(hN:↑(X.N[i]?=some x))(hv:autoParam (Vis X.env.scope x) aH._auto_1)(hd:⇑'d')(hcd:⇑((x == ("__classdict__":Str))=false)):PA X [.Name x p] (yin (yxc i) yhh):=pa1 (yme hN hv hd hcd)
def pst(i:Nat)(hN:X.N.Nodup)(he:PE X e te)(hi:↑(X.N[i]?=some x))(hx:Loc X.env.scope x:=by exact Or.inl J)(hs:↑(swapsWith e (some (.Name x pos')) pos.line X.env=pure false))(hf:autoParam (X.fn x=true\/X.env.scope.names.lookup x=some .local) aF._auto_1):
  PS X (.Assign [.Name x pos'] e pos) (ywz te (xw i)):=ö hN hi hx he hs hf
def pix(hr:IxR X r)(ha:PE X a ta)(hb:PE X b tb)(hs:ylj b:=by exact λZ Z=>rfl):PE X (.Subscript a b pos) (tOp r ta tb):=vhd hr ha hb hs
end
end
mutual
noncomputable def stV(xs:Τ)(l u k:ql Int):Τ:=(sliceRange (sliceBounds l u k xs.length).1 (sliceBounds l u k xs.length).2.1 (sliceBounds l u k xs.length).2.2).filterMap (xs[·]?)
def ylc(K:xy)(l u k:ql Int):V->Hp->VK->Prop:=λx H Q=>∃a xs,x=.ref a/\SqL K H a xs/\∀p,H p=none->(∀y∈stV xs l u k,y∈xs)->(stV xs l u k).length<=xs.length->Q (.ref p) (upd H p (.lst (stV xs l u k)))
def vjp(K:xy)(te:TE)(tl th ts:TO):TE:=λσ H Q=>te σ H λx H1=>tl σ H1 λl H2=>th σ H2 λu H3=>ts σ H3 λk H4=>k≠some 0/\ylc K l u k x H4 Q
theorem Ł{xs:Τ}{us:Ξ}(r:xc xs us):∀idx:qj Nat,xc (idx.filterMap (xs[·]?)) (idx.filterMap (us[·]?))
 |[]=>.nil
 |i::idx=>by
  let b:=r.length;rcases Nat.lt_or_ge i xs.length with a|a
  .let#[u,e,q]:=r.get (bp a);rwa[List.filterMap_cons,List.filterMap_cons,e,bp a,.cons q (Ł r idx)]
  .rw[List.filterMap_cons,List.filterMap_cons,ci a,ci ()];erw[Ł r idx]
end
section
mutual
variable{X:Cx}{e st:qh}{te:TE}{lo hi:ql qh}{tl th ts:TO}{pos p2:Pos}
def yj6(he:PE X e te)(hl:PO X lo tl)(hu:PO X hi th)(hs:PO X (some st) ts):PE X (.Subscript e (.Slice lo hi (some st) p2) pos) (vjp X.K te tl th ts):=by
 erw[.mk λc s σ H Q I h=>?_,<-Subscript_ (thn (he c s σ H _ I h) λv s1 h'=>?_)];let#[x,U,E,C,O]:=h';erw[wpAny_Slice (thn (hl c s1 σ U _ E O) λZ M ⟨l,H2,S,Y,q2⟩=>thn (hu c M σ H2 _ S q2) λB s3 ⟨u,F,G,pu,R⟩=>thn (hs c s3 σ F _ G R) λL j h'=>?_)];let#[k,ς,D,pk,N,T]:=h';have n:Inv X c σ ς {j with heap:=j.heap.push { cls:=.type "slice",data:=.fields (List.toArray [Z,B,L])} }:=D.kept (t':=j.toks) λb P q=>br _ q;let#[a,p,J,hx,q]:=T;cases C;let#[f,r,z,hz]:=n.list hx;let d:=r.length;let g:=slicePick_size_le f.toArray l u k;rw[bF]at g;let t:=Ł r (sliceRange (sliceBounds l u k f.toArray.size).1 (sliceBounds l u k f.toArray.size).2.1 (sliceBounds l u k f.toArray.size).2.2);rw[bF,<- d]at t
 have m:(stV p l u k).length<=p.length:=by
  unfold stV;rw[t.length,d];unfold slicePick at g;rw[bF]at g;simpa using g
 show 'w' (subscriptTail e (.Slice lo hi (some st) p2) (.ref a) (.ref j.heap.objs.size)) (EP X c σ Q) X.xe _;erw[tail_any (ops:=[.ref a,.ref j.heap.objs.size]) z.isList.typeIs slot_list_getitem.lookup ?_ (by with_unfolding_all rfl),<-wpAny_getItem_list_slice z.isList (Heap.IsSliceOf.new ..) Y pu pk N ?_ (by rw[bF]<;>omega),<-.ref _,_,n.laid (t':=j.toks) (o:=.lst (stV p l u k)) (λb P q=>br _ q) (bx _) ?_,J,q _ (n.hok.fresh (bx _)) (λy W=>?_) m]
 .exists by omega,_,0,t,?_
  rw[bC _ J];unfold slicePick;simp[d]
 .let#[i,_,e]:=List.mem_filterMap.mp W;erw[bM e]
def vhb{K:xy}{σ:St}{H:Hp}{Q:VK}(h:te σ H λx H1=>tl σ H1 λl H2=>th σ H2 λu H3=>ts σ H3 λk H4=>k≠some 0/\ylc K l u k x H4 Q):vjp K te tl th ts σ H Q:=h
end
end
section
mutual
variable{X:Cx}
def vbd(K:xy):V->qj V->Hp->VK->Prop:=λx vs H Q=>∃(l:qa)(cs:qj Nat),x=.str ""/\vs=[.ref l]/\SqL K H l (cs.map λc=>V.str ⟨#[c]⟩)/\cs.length<=100000/\Q (.str ⟨cs.toArray⟩) H
def vhf{cs:qj Nat}{vs:Ξ}(h:xc (cs.map λc=>V.str ⟨#[c]⟩) vs):StrsAre vs (cs.map λc=>(⟨#[c]⟩:Str)):=by
 induction cs generalizing vs with
 |nil=>cases h;erw[.nil]
 |cons c cs ih =>
  cases h with
  |cons r t =>
   let#[u,J]:=r;erw[.cons _ _ (ih t)]
def vjz(cs:qj Nat):(cs.map ((λx:Str=>x.length) ∘ λc=>(⟨#[c]⟩:Str))).sum=cs.length:=by
 induction cs with
 |nil=>rfl
 |cons c cs ih=>rw[cb,List.sum_cons,ih,bN];show 1+cs.length=_;omega
def yor:MtR X "str.join" (vbd X.K):=by
 intro d s σ H x z v y Q I p w h;let#[l,a,J,J,e,B,q]:=h;let#[t,J]:=p;let#[u,J,j]:=w.one;cases j;let#[i,r,#[o,n,m,f,A,g],_]:=I.list e;erw[join_list (ys:=a.map λc=>(⟨#[c]⟩:Str)) #[o,m,f,n,g] (vhf r) ?_ λb k=>#[.str ⟨a.toArray⟩,H,I.tok _,#[b,?_],q]]
 .rw[cn,vjz,bo];show a.length+a.length*0<=_;omega
 .show Value.str (Builtin.Str.glued _ _) b=_;rw[StrLaws.glued_eq_join,show (Str.ofString "")=⟨#[]⟩from rfl,join_ones]
end
end
end L2
end
namespace MixI
mutual
noncomputable def giv(c b:Int):Int:=if b=1 then c else 16777216-c
noncomputable def ypj(x:Int):Nat:=if x == 0 then 0 else x.natAbs.log2+1
def shL(ws cs:Ο)(b:Int):Ο:=List.zipWith (λw c=>w*giv c b) ws cs
noncomputable def grL(sh:Ο):Ο:=sh.map λs=>31*(sh.length:Int)*s+sh.sum
def tOf(s:Int):Nat:=ypj s-48
def lrn(ws cs:Ο)(b:Int):Ο:=(grL (shL ws cs b)).map λv=>v/2^tOf (grL (shL ws cs b)).sum
noncomputable def vjq(ws cs:Ο):Int:=(List.zipWith (λw c=>w*c) ws cs).sum
def ym7(ws cs:Ο):Int:=vjq ws cs/ws.sum
structure WOk(k:Nat)(ws:Ο):Prop where
 len:ws.length=k
 one:∀w∈ws,1<=w
 top:∀w∈ws,w<281474976710656
structure COk(k:Nat)(cs:Ο):Prop where
 len:cs.length=k
 lo:∀c∈cs,32768<=c
 hi:∀c∈cs,c<=16744448
def vah{c b:Int}(h1:32768<=c)(h2:c<=16744448):32768<=giv c b:=by unfold giv;split<;>omega
def yey{ws cs:Ο}{b:Int}(h:ws.length=cs.length):(shL ws cs b).length=ws.length:=by unfold shL;rw[List.length_zipWith,<- h];omega
def ylr{sh:Ο}:(grL sh).length=sh.length:=by unfold grL;rw[bo]
def yvq{k:Nat}{ws cs:Ο}{b:Int}(hw:WOk k ws)(hc:COk k cs):(lrn ws cs b).length=k:=by unfold lrn;rw[bo,ylr,yey (by rw[hw.len,hc.len]),hw.len]
theorem Ţ(m d:Int):∀sh:Ο,(sh.map λs=>m*s+d).sum=m*sh.sum+sh.length*d
 |[]=>by simp
 |s::r=>by
  simp only[cb,List.sum_cons,Ţ m d r,bN,Int.natCast_add,Int.natCast_one,Int.mul_add,Int.add_mul];omega
def yvp(sh:Ο):(grL sh).sum=32*(sh.length:Int)*sh.sum:=by unfold grL;rw[Ţ,Int.mul_assoc,Int.mul_assoc];generalize (sh.length:Int)*sh.sum=x;omega
theorem ymu:∀{l:Ο},(∀x∈l,0<=x)->0<=l.sum
 |[],_=>by simp
 |a::r,h=>by
  let c:=h a 's';let d:=ymu (l:=r) λx b=>h x (by simp[b]);rw[List.sum_cons];omega
theorem ypz:∀{l:Ο}{y:Int},(∀x∈l,0<=x)->y∈l->y<=l.sum
 |a::r,y,h,hy=>by
  let d:=h a 's';have b:∀x∈r,0<=x:=λx c=>h x (by simp[c]);let f:=ymu b;rw[List.sum_cons];rcases bH.mp hy with e|hy
  .omega
  .have:=ypz b hy;omega
theorem yma{c:Int}:∀{l:Ο},(∀x∈l,c<=x)->c*l.length<=l.sum
 |[],_=>by simp
 |a::r,h=>by
  let d:=h a 's';let e:=yma (l:=r) λx b=>h x (by simp[b]);rw[List.sum_cons,bN,Int.natCast_add,Int.natCast_one,Int.mul_add];omega
theorem yrg{c:Int}:∀{l:Ο},(∀x∈l,x<=c)->l.sum<=c*l.length
 |[],_=>by simp
 |a::r,h=>by
  let d:=h a 's';let e:=yrg (l:=r) λx b=>h x (by simp[b]);rw[List.sum_cons,bN,Int.natCast_add,Int.natCast_one,Int.mul_add];omega
theorem yq9{f:Int->Int}{m:Int}:∀{ws cs:Ο},ws.length=cs.length->(∀w∈ws,0<=w)->(∀c∈cs,m<=f c)->m*ws.sum<=(List.zipWith (λw c=>w*f c) ws cs).sum
 |[],[],_,_,_=>by simp
 |w::r,c::t,h,h1,h2=>by
  let i:=yq9 (f:=f) (m:=m) (ws:=r) (cs:=t) (by simpa using h) (λx b=>h1 x (by simp[b])) λx b=>h2 x (by simp[b]);let a:=cM (h2 c 's') (h1 w 's');rw[List.zipWith_cons_cons,List.sum_cons,List.sum_cons,Int.mul_add,Int.mul_comm m w];omega
theorem ysx{f:Int->Int}{m:Int}:∀{ws cs:Ο},ws.length=cs.length->(∀w∈ws,0<=w)->(∀c∈cs,f c<=m)->(List.zipWith (λw c=>w*f c) ws cs).sum<=m*ws.sum
 |[],[],_,_,_=>by simp
 |w::r,c::t,h,h1,h2=>by
  let i:=ysx (f:=f) (m:=m) (ws:=r) (cs:=t) (by simpa using h) (λx b=>h1 x (by simp[b])) λx b=>h2 x (by simp[b]);let a:=cM (h2 c 's') (h1 w 's');rw[List.zipWith_cons_cons,List.sum_cons,List.sum_cons,Int.mul_add,Int.mul_comm m w];omega
def WOk.pos{k:Nat}{ws:Ο}(h:WOk k ws)(hk:1<=k):1<=ws.sum:=by have:=yma (c:=1) h.one;rw[h.len]at this;omega
def WOk.small{k:Nat}{ws:Ο}(h:WOk k ws)(hk:k<=6):ws.sum<=1688849860263936:=by have:=yrg (c:=281474976710656) λx a=>Int.le_of_lt (h.top x a);rw[h.len]at this;omega
def ymj{k:Nat}{ws cs:Ο}(hk:1<=k)(hw:WOk k ws)(hc:COk k cs):32768<=ym7 ws cs/\ym7 ws cs<=16744448:=by
 have e:ws.length=cs.length:=by rw[hw.len,hc.len]
 have d:∀w∈ws,0<=w:=λw h=>by have:=hw.one w h;omega
 let p:=hw.pos hk;let a:=yq9 (f:=λc=>c) e d hc.lo;let b:=ysx (f:=λc=>c) e d hc.hi;unfold ym7 vjq;erw[(Int.le_ediv_iff_mul_le ()).mpr a,Int.le_of_lt_add_one ((Int.ediv_lt_iff_lt_mul ()).mpr (by rw[Int.add_mul];omega))]
def yfm(t:Nat):(2:Int)^t=((2^t:Nat):Int):=by rw[Int.natCast_pow];rfl
def yuo(t:Nat):(0:Int)<2^t:=by rwa[yfm,Int.natCast_pos.mpr (Nat.pow_pos ∅)]
def vbi{s:Int}(h:1<=s):s<281474976710656*2^tOf s/\(tOf s=0\/140737488355328*2^tOf s<=s):=by
 have f:s.natAbs≠0:=()
 have e:(s.natAbs:Int)=s:=()
 let a:=Nat.log2_self_le f;let b:=@Nat.lt_log2_self s.natAbs;unfold tOf ypj;rw[if_neg (by simp;omega)];generalize s.natAbs.log2=L at a b⊢;rcases Nat.lt_or_ge L 48 with q|q
 .have z:L+1-48=0:=()
  rwa[z,#[?_,.inl J]];have:2^(L+1)<=2^48:=Nat.pow_le_pow_right ∅ ();have c:(2:Nat)^48=281474976710656:=∅
  rw[c]at this;rw[<- e,Int.pow_zero,Int.mul_one];omega
 .obtain⟨t,rfl⟩:∃t,L=47+t:=#[L-47,()];have z:47+t+1-48=t:=()
  rw[z,yfm];have d:(2:Nat)^(47+t)=140737488355328*2^t:=by rw[Nat.pow_add]
  have c:(2:Nat)^(47+t+1)=281474976710656*2^t:=by rw[show 47+t+1=48+t by omega,Nat.pow_add]
  rw[d]at a;rw[c]at b;generalize 2^t=T at a b⊢;exists by omega,.inr ()
end
section
mutual
variable{k:Nat}{ws cs:Ο}{b:Int}
def yty(hw:WOk k ws)(hc:COk k cs):∀s∈shL ws cs b,1<=s:=by intro s a;unfold shL at a;rw[List.mem_iff_getElem]at a;let#[i,d,J]:=a;rw[List.length_zipWith]at d;rw[List.getElem_zipWith];let c:=hw.one ws[i] (bW _);let e:=vah (b:=b) (hc.lo cs[i] (bW _)) (hc.hi cs[i] (bW _));have:=Int.mul_le_mul c e ∅ ();omega
def yxy{sh:Ο}(h:∀s∈sh,1<=s):∀v∈grL sh,sh.sum<=v/\v<=(grL sh).sum/\0<=v:=by
 let e:=ymu (l:=sh) λx d=>by have:=h x d;omega
 have a:∀v∈grL sh,sh.sum<=v:=λv a=>by
  unfold grL at a;let#[s,b,J]:=bw.mp a;have:=h s b;have:0<=31*(sh.length:Int)*s:=Int.mul_nonneg (Int.mul_nonneg ∅ (Int.natCast_nonneg _)) ();omega
 erw[λv c=>#[a v c,ypz (λx d=>by have:=a x d;omega) c,by have:=a v c;omega]]
def yq2(hk:1<=k)(hk6:k<=6)(hw:WOk k ws)(hc:COk k cs):WOk k (lrn ws cs b):=by
 have g:(shL ws cs b).length=k:=by rw[yey (by rw[hw.len,hc.len]),hw.len]
 let f:=yty (b:=b) hw hc
 have l:1<=(shL ws cs b).sum:=by
  have:=yma (c:=1) f;rw[g]at this;omega
 let j:=yxy f;let e:=yvp (shL ws cs b);rw[g]at e
 have n:1<=(grL (shL ws cs b)).sum:=by
  rw[e];have:32*(k:Int)*1<=32*(k:Int)*(shL ws cs b).sum:=cM l ();omega
 have q:(grL (shL ws cs b)).sum<=192*(shL ws cs b).sum:=by
  rwa[e,cD () ()]
 let#[r,a]:=vbi n;let i:=yuo (tOf (grL (shL ws cs b)).sum);erw[yvq hw hc,λw h=>?_,λw h=>?_]
 .let#[v,d,J]:=bw.mp h;let#[p,o,m]:=j v d;erw[(Int.le_ediv_iff_mul_le i).mpr ?_];rcases a with a|a
  .rw[a,Int.pow_zero];omega
  .generalize (2:Int)^tOf (grL (shL ws cs b)).sum=T at*;omega
 .let#[v,d,J]:=bw.mp h;let#[p,o,m]:=j v d;erw[(Int.ediv_lt_iff_lt_mul i).mpr ()]
def yj4{g:Int->Int->Int}{ws cs:Ο}(h:cs.length=ws.length):(List.range ws.length).map (λi=>g ((ws[i]?).getD 0) ((cs[i]?).getD 0))=List.zipWith g ws cs:=by
 apply List.ext_getElem
 .rw[bo,b9,List.length_zipWith];omega
 .intro i a b;rw[bo,b9]at a;rw[cL,List.getElem_range,List.getElem_zipWith,bp a,bp ()];rfl
end
end
end MixI
namespace SpanMath
mutual
noncomputable def rn(d:Ο):Nat->Int
 |0=>0
 |k+1=>rn d k*256+(d[k]?).getD 0
def Byt(d:Ο):Prop:=∀x∈d,0<=x/\x<=255
def van{d:Ο}(h:Byt d)(k:Nat):0<=(d[k]?).getD 0/\(d[k]?).getD 0<=255:=by
 cases e:d[k]? with
 |none=>exists by decide,∅
 |some x=>erw[h x (bM e)]
theorem ymc{d:Ο}(h:Byt d)(k:Nat):∀r,∃q,rn d (k+r)=rn d k*pw r+q/\0<=q/\q<pw r
 |0=>#[0,by show rn d k=rn d k*1+0;omega,∅,∅]
 |r+1=>by
  let#[q,e,a,b]:=ymc h k r;let#[f,c]:=van h (k+r);erw[q*256+(d[k+r]?).getD 0,?_,(),?_]
  .show rn d (k+r)*256+(d[k+r]?).getD 0=rn d k*(pw r*256)+_;rw[e,<- Int.mul_assoc,Int.add_mul,Int.add_assoc]
  .show _<pw r*256;omega
def yoi{d:Ο}(h:Byt d)(k r:Nat)(l w':Int):(l*pw r<=rn d (k+r)/\rn d (k+r)<l*pw r+w'*pw r)↔(l<=rn d k/\rn d k<l+w'):=by
 let#[q,e,g,f]:=ymc h k r;let c:=jv r;rw[e,<- Int.add_mul];generalize rn d k=v;generalize pw r=p at c g f⊢
 constructor
 .rintro ⟨a,b⟩
  constructor
  .erw[Int.le_of_lt_add_one (Int.lt_of_mul_lt_mul_right (a:=p) ?_ (Int.le_of_lt c))];rw[Int.add_mul,Int.one_mul];omega
  .erw[Int.lt_of_mul_lt_mul_right (a:=p) ?_ (Int.le_of_lt c)];omega
 .rintro ⟨a,b⟩;let j:=cD a (Int.le_of_lt c);let i:=cD (show v+1<=l+w' by omega) (Int.le_of_lt c);rw[Int.add_mul v 1 p,Int.one_mul]at i;omega
structure InS(d:Ο)(x:Sn):Prop where
 lo:x.1<=rn d (sz x)
 hi:rn d (sz x)<x.1+x.2.1
def ved(l w' s':Int):∃r:Nat,ren l w' s'=(l*pw r,w'*pw r,s'+r):=by
 unfold ren
 split
 .split
  .erw[2,J]
  .erw[1,J]
 .erw[0,?_];show (l,w',s')=(l*1,w'*1,s'+0);rw[Int.mul_one,Int.mul_one,Int.add_zero]
def ypx{d:Ο}(h:Byt d){l w' s':Int}(hs:0<=s'):InS d (ren l w' s')↔(l<=rn d s'.toNat/\rn d s'.toNat<l+w'):=by
 let#[r,e]:=ved l w' s';rw[e]
 have c:sz (l*pw r,w'*pw r,s'+r)=s'.toNat+r:=by
  show (s'+(r:Int)).toNat=s'.toNat+r;omega
 rw[<- yoi h s'.toNat r l w']
 constructor
 .rintro ⟨a,b⟩;rw[c]at a b;erw[a,b]
 .rintro ⟨a,b⟩;exists by rwa[c,a],by rwa[c,b]
def Ě(d:Ο)(x:Sn)(c:Int):Int:=if rn d (sz x)<x.1+cut x.2.1 c then 1 else 0
def ya7(d:Ο)(x:Sn)(c:Int):Ě d x c=0\/Ě d x c=1:=by
 unfold Ě
 split
 .erw[.inr J]
 .erw[.inl J]
def yua{d:Ο}(hd:Byt d){x:Sn}{c b:Int}(h:OkS x)(hc:Ch c)(hb:b=0\/b=1)(i:InS d (nar x c b)):InS d x/\b=Ě d x c:=by
 let k:=h.ok.z;let#[f,g,j]:=ydd h.ok.w0 h.ok.w1 hc;unfold nar at i;rcases hb with rfl|rfl
 .rw[if_neg ∅]at i;let#[e,a]:=(ypx hd ()).mp i;have e:x.1+cut x.2.1 c<=rn d (sz x):=e;have a:rn d (sz x)<x.1+cut x.2.1 c+(x.2.1-cut x.2.1 c):=a;erw[#[(),()],?_];unfold Ě;rw[if_neg ()]
 .rw[if_pos J]at i;let#[e,a]:=(ypx hd ()).mp i;have e:x.1<=rn d (sz x):=e;have a:rn d (sz x)<x.1+cut x.2.1 c:=a;erw[#[(),()],?_];unfold Ě;rw[if_pos a]
theorem yqz:∀(k:Nat)(d:Ο),k<=d.length->rn d k=val (d.take k)
 |0,_,_=>rfl
 |k+1,d,h=>by
  have a:k<d.length:=()
  have e:d.take (k+1)=d.take k++[d[k]]:=by rw[List.take_succ,bp a];rfl
  rw[e,yfs,<- yqz k d ()];show rn d k*256+_=_;rw[bp a];rfl
def ykw{d:Ο}(hd:Byt d){x:Sn}(h:OkS x)(hl:(tL x).length<=d.length)(hp:d.take (tL x).length=tL x):InS d x:=by
 let g:=ywu h
 have e:rn d (sz x-tK x)=tCn x:=by
  rw[<- ymb x,yqz _ _ hl,hp,yyh h]
 let#[q,b,i,j]:=ymc hd (sz x-tK x) (tK x);have f:sz x-tK x+tK x=sz x:=()
 rw[f,e]at b;let a:=ybp h.ok;let c:=(yr9 x.1 (jv (tK x))).1;unfold yiw at a;have a:(tCn x+1)*pw (tK x)<=x.1+x.2.1:=a;have c:x.1<=tCn x*pw (tK x):=c;rw[Int.add_mul,Int.one_mul]at a;exists by rw[b];omega,by rw[b];omega
end
end SpanMath
namespace Law
local macro_rules | `(tactic| ext)=>`(tactic| walk_at "rd")
local macro_rules | `(tactic| right)=>`(tactic| decide +kernel)
open PySem L2
set_option genInjectivity false
set_option genSizeOf false
local macro_rules | `(tactic| walk_at "rd1")=>`(tactic| fail)
open Lean in
set_option hygiene true in
local macro_rules | `(tactic| fail $s:str)=>do
 let n::_::x::l:=s.getString.splitOn " "|Macro.throwUnsupported
 if n.isNat then `(tactic| fail $(Syntax.mkStrLit (" ".intercalate (n::x::l)))) else Macro.throwUnsupported
open Lean in
set_option hygiene true in
local macro_rules | `(tactic| fail $s:str)=>do
 let n::x::_:=s.getString.splitOn " "|Macro.throwUnsupported
 let some n:=n.toNat?|Macro.throwUnsupported
 let x:=mkIdent ((if n<4 then `_root_.Law else `_root_.L2)++x.toName)
 if n%4=0 then return <-`(tactic| refine $x ?_)
 let y:Term<-if n%4=1 then `($x (by assumption) ?q ?_) else if n%4=2 then `($x ?q ?_) else `($x ?q ?n ?_)
 let z<-if n%4=3 then `(tactic| case n=>with_unfolding_all decide +kernel) else `(tactic| skip)
 `(tactic| (with_reducible refine' $y; (case q=>first | assumption | exact ya); $z:tactic))
local macro_rules | `(tactic| exists $n:num,$m:num)=>do
 let xs:=Array.replicate n.getNat (<-`(some _))++Array.replicate m.getNat (<-`(none))
 `(tactic| (try dsimp only [vy]; refine ym (σ':=[$xs,*]) rfl ?_))
local macro_rules | `(tactic| exists $h:ident,$a:ident,$b:ident,$c:ident)=>`(tactic| with_reducible first | refine yf $h fun $a $b $c=>?_ | refine yj $h fun $a $b $c=>?_)
local macro_rules | `(tactic| exists $n:num,$m:num,$t)=>`(tactic| (refine ⟨_,$t,?_⟩;exists $n,$m;ext))
local macro_rules | `(tactic| left)=>`(tactic| first | (cases h; subst_vars; rfl) | repeat first | (obtain ⟨e,_⟩:=h; subst e; rfl) | obtain ⟨_,h⟩:=h)
local macro_rules | `(tactic| exists $a:ident,$b:ident,$c:ident)=>`(tactic| (refine $a $b (fun ϟ H Q E h=>?_) (fun ϟ A ϟ s H ϟ Q E $c h=>?_); left))
local macro_rules | `(tactic| walk_at "side")=>`(tactic| first | exact ⟨∅,∅⟩ | (show (0:Int) < _; first | decide | omega) | exact Or.inl ⟨(),()⟩ | exact Or.inr ⟨(),()⟩ | exact ⟨(),()⟩ | exact ⟨∅,∅,∅⟩)
local macro_rules | `(tactic| walk_at "len")=>`(tactic| first | decide | (simp only [bN,List.length_nil]; decide))
local macro_rules | `(tactic| walk_at "rd1")=>`(tactic| with_reducible first
 | fail "4 vj9 vib vak vax"
 | ((fail_if_success constructor); walk_at "rd2"))
local macro_rules | `(tactic| walk_at "o")=>`(tactic| refine yyt fun ϟ ϟ ϟ ϟ ϟ ϟ=>?_)
set_option hygiene true in
local macro_rules | `(tactic| walk_at "rd2")=>`(tactic| with_reducible first
 | walk_at "o"
 | refine vi2 (by assumption) ?_
 | (refine' ywy ?rdv ?_; (case rdv=>with_unfolding_all rfl))
 | fail "4 i_c vkc vjw yxh vj7 vke vh9 vhk yzg vb3 vbl yuy ybr yt2 ytu vap vh7 vkj vhg yv1 vbc yxv vgp vjv vg9 vg4 vh4 vgq ŉ yz0 vjt vhi vg5 yzn vkk vhb yof vcg vju i_U g0 g1 g2 g3 g4 g5 g6 g7 g8 g9 yvh yx6 Ĥ j9 vgv vhr vh1 ytr yzk ytq yu3 ytn vbf yv3 vba yue vam yuc yu5 yu8 yns yvt ytm vci vg0 yo7 vb6 ywd yva"
 | (refine' i_shlC ?rdp ?rdq ?_; (case rdp=>with_unfolding_all exact ⟨∅,∅,∅⟩); (case rdq=>with_unfolding_all decide))
 | (refine' yzz ?rdp ?rdq ?_; (case rdp=>with_unfolding_all exact ⟨∅,∅,∅⟩); (case rdq=>with_unfolding_all decide))
 | (refine i_I ?rdc ?_; (case rdc=>with_unfolding_all walk_at "side")))
local macro_rules | `(tactic| walk_at "rd")=>`(tactic| repeat walk_at "rd1")
mutual
variable{D c' cc cl' ct' dc dq ds q st tl y:qa}{U U' W':Μ}{L M:Η}{d ts xs:Ο}{i j m':Nat}{tp:Λ}{O O' O2:Β}{bt:Nat->Int}{x:Υ}{R:Prop}{nt:String}
noncomputable def top(i:Nat):qd:=PySem.Challenge.pw_foretell_k44_store_refused.main.body.getD i (.Pass #[0,0,0,0])
abbrev vi8:qd:=top 23
abbrev vi1:qd:=top 24
abbrev vjf:qd:=top 25
abbrev vi0:qd:=top 26
abbrev vjr:qd:=top 27
abbrev vi7:qd:=top 28
abbrev vjn:qd:=top 29
abbrev vje:qd:=top 30
abbrev vi9:qd:=top 31
abbrev veo:qd:=top 32
abbrev vd3:qd:=top 33
abbrev veb:qd:=yx (top 38) 0
abbrev ve0:qd:=yx (top 38) 1
abbrev vcp:qd:=yx (top 38) 2
abbrev vfc:qd:=yx (top 38) 3
abbrev vfu:qd:=yx (top 39) 0
abbrev vdj:qd:=yx (top 39) 1
abbrev ver:qd:=yx (top 39) 2
abbrev vdz:qd:=yx (top 39) 3
abbrev ve1:qd:=yx (top 40) 0
abbrev vcx:qd:=yx (top 40) 1
abbrev ve7:qd:=yx (top 40) 2
abbrev vcm:qd:=yx (top 40) 3
abbrev vf8:qd:=top 41
abbrev vfx:qd:=top 47
abbrev vdd:qd:=top 48
abbrev vdh:qd:=top 49
abbrev ve8:qd:=top 50
abbrev vdb:qd:=top 51
abbrev ve6:qd:=top 52
abbrev vfo:qd:=top 53
abbrev vf2:qd:=yx (top 54) 0
abbrev vfd:qd:=yx (top 54) 2
abbrev vdm:qd:=yx (top 54) 4
abbrev vd4:qd:=yx (top 59) 0
abbrev vee:qd:=yx (top 59) 2
abbrev vcq:qd:=yx (top 59) 3
abbrev vf6:qd:=yx (top 59) 4
abbrev vd0:qd:=yx (top 62) 0
abbrev vde:qd:=yx (top 62) 1
abbrev vcz:qd:=yx (top 62) 2
abbrev vfb:qd:=yx (top 62) 3
abbrev vec:qd:=yx (top 62) 7
abbrev vd7:qd:=yx (top 62) 8
abbrev vfn:qd:=yx (top 62) 9
abbrev vek:qd:=yx (top 62) 10
abbrev vdv:qd:=top 65
abbrev vd6:qd:=top 66
abbrev vct:qd:=top 71
abbrev vd9:qd:=top 72
abbrev vcy:qd:=yx (top 73) 0
abbrev vcs:qd:=yx (top 73) 2
abbrev vdr:qd:=yx (top 73) 3
abbrev vfl:qd:=yx (top 73) 5
abbrev vc0:qd:=yx (top 73) 6
abbrev vfm:qd:=yx (top 75) 0
abbrev vft:qd:=yx (top 75) 1
abbrev ve4:qd:=yx (top 75) 2
abbrev vev:qd:=yx (top 75) 3
abbrev vfr:qd:=yx (top 75) 5
abbrev vf0:qd:=top 77
abbrev veq:qd:=top 78
abbrev vew:qd:=top 79
abbrev ves:qd:=top 80
abbrev vdy:qd:=top 81
abbrev ve2:qd:=yx (top 83) 0
abbrev vfj:qd:=yx (top 83) 1
abbrev vfy:qd:=yx (top 83) 2
abbrev vdl:qd:=yx (top 83) 3
abbrev vfe:qd:=yx (top 83) 4
abbrev vdt:qd:=top 88
abbrev vfa:qd:=top 89
abbrev vf1:qd:=top 90
abbrev vfq:qd:=yx (top 91) 0
abbrev vfp:qd:=yx (top 92) 0
abbrev vel:qd:=yx (top 92) 1
abbrev vdx:qd:=yx (top 92) 2
abbrev vds:qd:=yx (top 92) 3
abbrev vex:qd:=yx (top 92) 4
abbrev vc7:qd:=yx (top 92) 5
abbrev vet:qd:=yx (top 92) 6
abbrev vc5:qd:=yx (top 92) 7
abbrev vd5:qd:=yx (top 92) 8
abbrev vcw:qd:=yx (top 92) 9
abbrev vei:qd:=yx (top 92) 10
abbrev vc1:qd:=yx (top 92) 11
abbrev vf5:qd:=yx (top 92) 12
abbrev ve3:qd:=yx (top 92) 13
abbrev vdc:qd:=yx (top 92) 14
abbrev vem:qd:=yx (top 92) 15
abbrev vfh:qd:=yx (top 92) 16
abbrev vdf:qd:=yx (top 92) 17
abbrev vcu:qd:=top 95
abbrev vda:qd:=top 96
abbrev vco:qd:=top 97
abbrev vfg:qd:=top 98
abbrev vdg:qd:=yx (top 99) 0
abbrev ve9:qd:=yx (top 99) 1
abbrev vdu:qd:=yx (top 99) 2
abbrev yp7:qd:=yx (top 99) 3
abbrev ysl:qd:=yx (top 99) 4
abbrev ysv:qd:=yx (top 99) 5
abbrev yqr:qd:=yx (top 99) 6
abbrev yrt:qd:=yx (top 99) 7
abbrev yrb:qd:=top 100
abbrev yp4:qd:=top 102
abbrev ysq:qd:=top 103
abbrev yr0:qd:=top 104
abbrev yr3:qd:=top 105
abbrev ysf:qd:=top 106
abbrev yqf:qd:=top 107
abbrev yrc:qd:=top 108
abbrev yrz:qd:=top 109
abbrev yqx:qd:=top 110
abbrev yq1:qd:=top 111
abbrev yql:qd:=top 112
abbrev yru:qd:=top 113
abbrev ysk:qd:=top 114
abbrev yso:qd:=top 115
abbrev vcn:qd:=top 116
set_option genInjectivity false in
set_option genSizeOfSpec false in
structure Ads where
 {Ut Uu Uv Uw Ux Uy Uz V0 V1 Ob Oc Jt Od Oe Of Ju Og Oh Oi Jv Oj Ol Om On Oo Op Oq Os Ot Ou Ov Jw Ow Ox Jx Oy Oz P1 Jy P3 P4 P5 P6 P7 P8 P9 Pa Pb Pe Pf Jz Pg Ph Pi Pj K1 Pk Pl Pm Pn Po Pp Pq Pr Ps K3 Pt Pu Pv Pw Px Py Pz K4 K5 V2 Q1 Q3 Q4 K6 V3 Q5 Q6 Q7 Q8 Q9 Qa Qb Qc Qd Qe Qf Qg Qh Qi Qj Qk Ql K7 Qm Qn K8 K9 Ka Kb Kc Kd Ke Kg Kh Ki Kj Kk Kl Km Kn Ko Kp Kq Kr Ks Qo Aj Ah Aq Am Cg A6 Ad As A4 Ag A0 A8 Ar Bf Ac Bg Au Az Bm A2 A5 A9 Ae A3 Al Ab Ai Bz Bn C0:qa}
 {V4 V5 V6 V7 V8 V9 Va Vb Vc Qp Qq Qr Qt Qu Qv Qw Qx Qy Qz R0 R1 R3 R4 R5 R6 R7 R8 R9 Ra Rb Rc Re Rf Rg Rh Ri Rj Rk Rl Rm Rn Ro Rp Rq Rr Rs Rt Ru Rv Rw Rx Ry Rz Sa Sb Sc Se Sf Sg Sh Si Sj Sk Sl Sm So Sq Sr Ss Su Sv Sw Sy Sz Iw T0 T8 T9 Ix Ta Tb Tc Td Te Tf Tg Th Ti Tj Tk Tl Tm Tn Tp Tq Tr Ts Tt Tu Kt Ku Kv Kw Kx Ky Kz L1 L6 L7 L8 L9 La Lb Lc Ld Le Lf Lg Lh Li:FuncData}
 {Lj O0 Vd Fr Fs Ea I6 Es Ft Ja Eb Gq Ec Gr Et Fu Eu Ed Jb Ev Fv I7 I8 I9 Gs Gt Gu Gv Gw Gy Gz Ha:Tok}
 {Jc:ql qa}
 {Lk Jd:Nat}
 {Ll Je:Array (ql qc)}
variable{a:Ads}
structure Txt(K:xy)(mg:Ε)(a:Ads):Prop where
 Jf:Dff K mg "is_whole" vi8 ["thing"] a.Ut a.V4
 Ve:Dff K mg "is_bit" vi1 ["thing"] a.Uu a.V5
 Vf:Dff K mg "is_chance" vjf ["thing"] a.Uv a.V6
 Vg:Dff K mg "is_sign" vi0 ["thing"] a.Uw a.V7
 O4:Dff K mg "is_list_of_signs" vjr ["thing","most"] a.Ux a.V8
 O5:Dff K mg "checked_text" vi7 ["thing"] a.Uy a.V9
 Vh:Dff K mg "checked_bytes" vjn ["thing"] a.Uz a.Va
 Vi:Dff K mg "check_most" vje ["thing"] a.V0 a.Vb
 O6:Dff K mg "check_chance" vi9 ["thing"] a.V1 a.Vc
 Du:Dff K mg "check_bit" veo ["thing"] a.Ob a.Qp
 Tv:Dff K mg "gives" vd3 ["chance","bit"] a.Oc a.Qq
 Lm:Dfm K a.Aj "__init__" "Even.__init__" veb ["self"] a.Jt a.Qr
 Ln:Dfm K a.Aj "chance" "Even.chance" ve0 ["self"] a.Od a.Qt
 Lo:Dfm K a.Aj "seen" "Even.seen" vcp ["self","bit"] a.Oe a.Qu
 Lp:Dfm K a.Aj "twin" "Even.twin" vfc ["self"] a.Of a.Qv
 Lq:Dfm K a.Ah "__init__" "Quick.__init__" vfu ["self"] a.Ju a.Qw
 Lr:Dfm K a.Ah "chance" "Quick.chance" vdj ["self"] a.Og a.Qx
 Ls:Dfm K a.Ah "seen" "Quick.seen" ver ["self","bit"] a.Oh a.Qy
 Lt:Dfm K a.Ah "twin" "Quick.twin" vdz ["self"] a.Oi a.Qz
 Lu:Dfm K a.Aq "__init__" "Run.__init__" ve1 ["self"] a.Jv a.R0
 Lv:Dfm K a.Aq "chance" "Run.chance" vcx ["self"] a.Oj a.R1
 Lx:Dfm K a.Aq "seen" "Run.seen" ve7 ["self","bit"] a.Ol a.R3
 Ly:Dfm K a.Aq "twin" "Run.twin" vcm ["self"] a.Om a.R4
 Tw:Dff K mg "slot_of" vf8 ["kind"] a.On a.R5
 Tx:Dff K mg "is_kind" vfx ["thing"] a.Oo a.R6
 Ty:Dff K mg "is_place" vdd ["thing"] a.Op a.R7
 Tz:Dff K mg "are_places" vdh ["thing"] a.Oq a.R8
 Lz:Dff K mg "is_look" ve8 ["thing"] a.Os a.R9
 M0:Dff K mg "checked_looks" vdb ["thing"] a.Ot a.Ra
 U0:Dff K mg "sign_back" ve6 ["signs","place"] a.Ou a.Rb
 U8:Dff K mg "context_of" vfo ["look","signs","node"] a.Ov a.Rc
 M4:Dfm K a.Am "__init__" "Book.__init__" vf2 ["self","look"] a.Jw a.Re
 M5:Dfm K a.Am "slot_at" "Book.slot_at" vfd ["self","signs","node"] a.Ow a.Rf
 M6:Dfm K a.Am "twin" "Book.twin" vdm ["self"] a.Ox a.Rg
 M7:Dfm K a.Cg "__init__" "Mixer.__init__" vd4 ["self","many"] a.Jx a.Rh
 M8:Dfm K a.Cg "mixed" "Mixer.mixed" vee ["self","chances"] a.Oy a.Ri
 M9:Dfm K a.Cg "learn" "Mixer.learn" vcq ["self","chances","bit"] a.Oz a.Rj
 Ma:Dfm K a.Cg "twin" "Mixer.twin" vf6 ["self"] a.P1 a.Rk
 Mb:Dfm K a.A6 "__init__" "Foreteller.__init__" vd0 ["self","looks"] a.Jy a.Rl
 Ee:Dfm K a.A6 "arrive" "Foreteller.arrive" vde ["self"] a.P3 a.Rm
 Hb:Dfm K a.A6 "chances" "Foreteller.chances" vcz ["self"] a.P4 a.Rn
 Hc:Dfm K a.A6 "chance" "Foreteller.chance" vfb ["self"] a.P5 a.Ro
 Hd:Dfm K a.A6 "see" "Foreteller.see" vec ["self","bit"] a.P6 a.Rp
 Mc:Dfm K a.A6 "step" "Foreteller.step" vd7 ["self","bit"] a.P7 a.Rq
 Md:Dfm K a.A6 "step_in_sign" "Foreteller.step_in_sign" vfn ["self","bit"] a.P8 a.Rr
 Me:Dfm K a.A6 "fork" "Foreteller.fork" vek ["self"] a.P9 a.Rs
 U9:Dff K mg "bits_of" vdv ["sign"] a.Pa a.Rt
 Ua:Dff K mg "decisions_of" vd6 ["text"] a.Pb a.Ru
 Mf:Dff K mg "written" vct ["number","size"] a.Pe a.Rv
 Mg:Dff K mg "first_block" vd9 ["low","unit"] a.Pf a.Rw
 Mh:Dfm K a.Ad "__init__" "Span.__init__" vcy ["self"] a.Jz a.Rx
 He:Dfm K a.Ad "cut" "Span.cut" vcs ["self","chance"] a.Pg a.Ry
 Hf:Dfm K a.Ad "narrow" "Span.narrow" vdr ["self","chance","bit"] a.Ph a.Rz
 Mi:Dfm K a.Ad "holds_block" "Span.holds_block" vfl ["self","unit"] a.Pi a.Sa
 Hg:Dfm K a.Ad "told" "Span.told" vc0 ["self"] a.Pj a.Sb
 Ub:Dfm K a.As "__init__" "Seeker.__init__" vfm ["self","data"] a.K1 a.Sc
 Hh:Dfm K a.As "follow" "Seeker.follow" vft ["self"] a.Pk a.Se
 Mj:Dfm K a.As "byte_at" "Seeker.byte_at" ve4 ["self","place"] a.Pl a.Sf
 Ml:Dfm K a.As "bit" "Seeker.bit" vev ["self","chance"] a.Pm a.Sg
 Mm:Dfm K a.As "told" "Seeker.told" vfr ["self"] a.Pn a.Sh
 Mn:Dff K mg "press_by" vf0 ["foreteller","text"] a.Po a.Si
 Mo:Dff K mg "bit_by" veq ["foreteller","seeker"] a.Pp a.Sj
 Uc:Dff K mg "sign_by" vew ["foreteller","seeker"] a.Pq a.Sk
 Ud:Dff K mg "text_by" ves ["foreteller","seeker","most"] a.Pr a.Sl
 Ue:Dff K mg "read_by" vdy ["foreteller","data","most"] a.Ps a.Sm
 Fm:Dfm K a.A4 "__init__" "Chain.__init__" ve2 ["self","looks"] a.K3 a.So
 Hi:Dfm K a.A4 "grow" "Chain.grow" vfj ["self","name","text"] a.Pt a.Sq
 Mq:Dfm K a.A4 "press" "Chain.press" vfy ["self","name","text"] a.Pu a.Sr
 Hj:Dfm K a.A4 "read" "Chain.read" vdl ["self","name","data","most"] a.Pv a.Ss
 Hk:Dfm K a.A4 "size_with" "Chain.size_with" vfe ["self","text"] a.Pw a.Su
 Uf:Dff K mg "is_name" vdt ["thing"] a.Px a.Sv
 Fn:Dff K mg "checked_name" vfa ["thing"] a.Py a.Sw
 Ug:Dff K mg "check_base" vf1 ["thing"] a.Pz a.Sy
 Mr:Dfm K a.Ag "__init__" "Piece.__init__" vfq ["self","base","data"] a.K4 a.Sz
 Vj:vgh K "__init__" "Store.__init__" vfp a.V2 a.K5 a.Iw
 Vz:jl K a.Iw ["self","looks","most"] [.int 1000 a.Lj]
 Ms:jl K a.Iw ["self","looks","most"] []
 Mt:Dfm K a.A0 "told_looks" "Store.told_looks" vel ["self"] a.Q1 a.T0
 Mu:Dfm K a.A0 "most_signs" "Store.most_signs" vdx ["self"] a.Q3 a.T8
 Ao:Dfm K a.A0 "names" "Store.names" vds ["self"] a.Q4 a.T9
 Vk:vgh K "put" "Store.put" vex a.V3 a.K6 a.Ix
 Uq:jl K a.Ix ["self","name","text","base"] [.none]
 Uh:jl K a.Ix ["self","name","text","base"] []
 Mv:Meth K a.A0 "put" a.K6
 Mw:Dfm K a.A0 "put_first" "Store.put_first" vc7 ["self","name","data","base"] a.Q5 a.Ta
 Hl:Dfm K a.A0 "check_length" "Store.check_length" vet ["self","text"] a.Q6 a.Tb
 Hm:Dfm K a.A0 "check_room" "Store.check_room" vc5 ["self","name","base"] a.Q7 a.Tc
 Bh:Dfm K a.A0 "piece_at" "Store.piece_at" vd5 ["self","name"] a.Q8 a.Td
 Hn:Dfm K a.A0 "links_to" "Store.links_to" vcw ["self","name"] a.Q9 a.Te
 C1:Dfm K a.A0 "chain_to" "Store.chain_to" vei ["self","name"] a.Qa a.Tf
 Ho:Dfm K a.A0 "texts_to" "Store.texts_to" vc1 ["self","name"] a.Qb a.Tg
 Hq:Dfm K a.A0 "text_of" "Store.text_of" vf5 ["self","name"] a.Qc a.Th
 Ef:Dfm K a.A0 "bytes_of" "Store.bytes_of" ve3 ["self","name"] a.Qd a.Ti
 Cw:Dfm K a.A0 "base_of" "Store.base_of" vdc ["self","name"] a.Qe a.Tj
 Mx:Dfm K a.A0 "learned_of" "Store.learned_of" vem ["self","name"] a.Qf a.Tk
 Hr:Dfm K a.A0 "drop" "Store.drop" vfh ["self","name"] a.Qg a.Tl
 Hs:Dfm K a.A0 "best_base" "Store.best_base" vdf ["self","text"] a.Qh a.Tm
 Ui:Dff K mg "look_bytes" vcu ["look"] a.Qi a.Tn
 Uj:Dff K mg "name_bytes" vda ["name"] a.Qj a.Tp
 Uk:Dff K mg "base_bytes" vco ["store","name"] a.Qk a.Tq
 My:Dff K mg "shelf_of" vfg ["store"] a.Ql a.Tr
 Ul:Dfm K a.A8 "__init__" "Reader.__init__" vdg ["self","data"] a.K7 a.Ts
 Ay:Dfm K a.A8 "next_byte" "Reader.next_byte" ve9 ["self"] a.Qm a.Tt
 Eg:Dfm K a.A8 "next_part" "Reader.next_part" vdu ["self","parts"] a.Qn a.Tu
 Ia:Dfm K a.A8 "next_look" "Reader.next_look" yp7 ["self"] a.K8 a.Kt
 Ib:Dfm K a.A8 "next_store" "Reader.next_store" ysl ["self"] a.K9 a.Ku
 Ic:Dfm K a.A8 "next_name" "Reader.next_name" ysv ["self"] a.Ka a.Kv
 Ie:Dfm K a.A8 "put_next" "Reader.put_next" yqr ["self","store"] a.Kb a.Kw
 If:Dfm K a.A8 "whole_store" "Reader.whole_store" yrt ["self"] a.Kc a.Kx
 Ig:Dff K mg "opened" yrb ["data"] a.Kd a.Ky
 Di:Dff K mg "_law_mixed" yp4 ["_law_script","_law_k"] a.Ke a.Kz
 Mz:Dff K mg "_law_looks" ysq ["_law_cell","_law_most"] a.Kg a.L1
 N2:Dff K mg "_law_odd_looks" yr0 ["_law_cell"] a.Kh a.L6
 Ih:Dff K mg "_law_odd_text" yr3 ["_law_cell"] a.Ki a.L7
 Fw:Dff K mg "_law_odd_name" ysf ["_law_cell"] a.Kj a.L8
 Ii:Dff K mg "_law_word" yqf ["_law_store","_law_name","_law_text","_law_base"] a.Kk a.L9
 Ij:Dff K mg "_law_best_refused" yrc ["_law_store","_law_text"] a.Kl a.La
 Ik:Dff K mg "_law_asked" yrz ["_law_store","_law_kind","_law_name"] a.Km a.Lb
 Il:Dff K mg "_law_made" yqx ["_law_looks_here","_law_most"] a.Kn a.Lc
 N3:Dff K mg "_law_due" yq1 ["_law_store","_law_name","_law_text","_law_base","_law_flaws","_law_most"] a.Ko a.Ld
 N4:Dff K mg "_law_tried" yql ["_law_store","_law_cell","_law_most"] a.Kp a.Le
 N5:Dff K mg "_law_no_shelf" yru ["_law_data"] a.Kq a.Lf
 N6:Dff K mg "_law_again" ysk ["_law_store","_law_known","_law_number"] a.Kr a.Lg
 N7:Dff K mg "_law_sixty" yso ["_law_store","_law_places"] a.Ks a.Lh
 N8:Dff K mg "law" vcn ["_law_script"] a.Qo a.Li
 B0:Cls K a.Aj
 N9:mg "Even"∣a.Aj
 Na:Mk K a.Aj a.Jt
 B8:NoAttr K a.Aj "noughts"
 C3:NoAttr K a.Aj "ones"
 Bi:Cls K a.Ah
 Iy:mg "Quick"∣a.Ah
 Iz:Mk K a.Ah a.Ju
 Bo:NoAttr K a.Ah "held"
 Bp:Cls K a.Aq
 Um:mg "Run"∣a.Aq
 Uo:Mk K a.Aq a.Jv
 Ci:NoAttr K a.Aq "last"
 Bq:NoAttr K a.Aq "length"
 Br:Cls K a.Am
 Nd:mg "Book"∣a.Am
 Nf:Mk K a.Am a.Jw
 Dv:NoAttr K a.Am "look"
 Bt:NoAttr K a.Am "slots"
 Fo:Cls K a.Cg
 Vl:mg "Mixer"∣a.Cg
 Vm:Mk K a.Cg a.Jx
 Dj:NoAttr K a.Cg "kept"
 Ak:Cls K a.A6
 Vn:mg "Foreteller"∣a.A6
 Vo:Mk K a.A6 a.Jy
 Bu:NoAttr K a.A6 "looks"
 Cj:NoAttr K a.A6 "books"
 Ck:NoAttr K a.A6 "mixer"
 Cl:NoAttr K a.A6 "ended"
 Cm:NoAttr K a.A6 "place"
 Bv:NoAttr K a.A6 "present"
 An:Cls K a.Ad
 Ng:mg "Span"∣a.Ad
 Nh:Mk K a.Ad a.Jz
 Cn:NoAttr K a.Ad "low"
 Bw:NoAttr K a.Ad "width"
 C4:NoAttr K a.Ad "size"
 B9:Cls K a.As
 W0:mg "Seeker"∣a.As
 W3:Mk K a.As a.K1
 Fp:NoAttr K a.As "data"
 Fq:NoAttr K a.As "span"
 C5:NoAttr K a.As "number"
 Bx:NoAttr K a.As "reached"
 Ap:Cls K a.A4
 Cy:mg "Chain"∣a.A4
 Cz:Mk K a.A4 a.K3
 Ba:NoAttr K a.A4 "foreteller"
 Cb:NoAttr K a.A4 "links"
 Cc:NoAttr K a.A4 "texts"
 D0:Cls K a.Ag
 J0:mg "Piece"∣a.Ag
 J7:Mk K a.Ag a.K4
 D1:NoAttr K a.Ag "base"
 D2:NoAttr K a.Ag "data"
 A1:Cls K a.A0
 Fx:mg "Store"∣a.A0
 Fz:Mk K a.A0 a.K5
 Bd:NoAttr K a.A0 "looks"
 D3:NoAttr K a.A0 "most"
 C6:NoAttr K a.A0 "pieces"
 Be:NoAttr K a.A0 "chain"
 Aa:Cls K a.A8
 Ni:mg "Reader"∣a.A8
 Nj:Mk K a.A8 a.K7
 Cd:NoAttr K a.A8 "data"
 Aw:NoAttr K a.A8 "reached"
 Im:mg "NoText"∣a.Ar
 Vp:mg "NoBytes"∣a.Bf
 D4:mg "NoMost"∣a.Ac
 Vq:mg "NoChance"∣a.Bg
 Vr:mg "NoBit"∣a.Au
 Nk:mg "NoLooks"∣a.Az
 O7:mg "NoPress"∣a.Bm
 Av:mg "NoName"∣a.A2
 B6:mg "TooLong"∣a.A5
 D5:mg "Taken"∣a.A9
 Io:mg "Full"∣a.Ae
 Ca:mg "NoPiece"∣a.A3
 J8:mg "InUse"∣a.Al
 Bj:mg "NoShelf"∣a.Ab
 Jg:mg "NoWords"∣a.Ai
 Dx:mg "ForetellError"∣a.Bz
 W4:XCls K a.Ar
 W5:XMk K a.Ar
 W9:XCls K a.Bf
 W6:XMk K a.Bf
 Vs:XCls K a.Ac
 Nl:XMk K a.Ac
 Wa:XCls K a.Bg
 W7:XMk K a.Bg
 Wb:XCls K a.Au
 W8:XMk K a.Au
 Wc:XCls K a.Az
 Vt:XMk K a.Az
 Wd:XCls K a.Bm
 Vu:XMk K a.Bm
 Ht:XCls K a.A2
 Nm:XMk K a.A2
 Jh:XCls K a.A5
 Ji:XMk K a.A5
 O8:XCls K a.A9
 O9:XMk K a.A9
 Nn:XCls K a.Ae
 Ur:XMk K a.Ae
 Jj:XCls K a.A3
 Jk:XMk K a.A3
 Vw:XCls K a.Al
 Oa:XMk K a.Al
 Jl:XCls K a.Ab
 Dk:XMk K a.Ab
 G0:W.kitOne K (.ref a.Ar) (.ref a.A2)=some false
 Jm:W.kitOne K (.ref a.Ar) (.type "ValueError")=some true
 Vx:W.kitAny K (.ref a.Ar) [.ref a.A2,.ref a.Ar]=some true
 Ip:W.exmOne K (.ref a.Ar) (.ref a.Ae)=some false
 Hu:W.exmOne K (.ref a.Ar) (.ref a.Al)=some false
 No:W.exmOne K (.ref a.Ar) (.ref a.Au)=some false
 Nq:W.exmOne K (.ref a.Ar) (.ref a.Bf)=some false
 Nr:W.exmOne K (.ref a.Ar) (.ref a.Bg)=some false
 Nt:W.exmOne K (.ref a.Ar) (.ref a.Az)=some false
 Ga:W.exmOne K (.ref a.Ar) (.ref a.Ac)=some false
 Ew:W.exmOne K (.ref a.Ar) (.ref a.A3)=some false
 Nu:W.exmOne K (.ref a.Ar) (.ref a.Bm)=some false
 Ey:W.exmOne K (.ref a.Ar) (.ref a.Ab)=some false
 Hv:W.exmOne K (.ref a.Ar) (.ref a.Ar)=some true
 Ez:W.exmOne K (.ref a.Ar) (.ref a.Ai)=some false
 Hw:W.exmOne K (.ref a.Ar) (.ref a.A9)=some false
 Ce:W.exmOne K (.ref a.Ar) (.ref a.A5)=some false
 Jn:W.kitOne K (.ref a.Bf) (.type "ValueError")=some true
 Vy:W.kitAny K (.ref a.Bf) [.ref a.A2,.ref a.Ar]=some false
 Gb:W.exmOne K (.ref a.Ac) (.ref a.Az)=some false
 Dl:W.exmOne K (.ref a.Ac) (.ref a.Ac)=some true
 Jo:W.kitOne K (.ref a.Au) (.type "ValueError")=some true
 Jp:W.kitOne K (.ref a.Az) (.type "ValueError")=some true
 Nv:W.exmOne K (.ref a.Az) (.ref a.Az)=some true
 C7:W.kitOne K (.ref a.A2) (.type "ValueError")=some true
 Bk:W.kitOne K (.ref a.A2) (.ref a.Bz)=some true
 Eh:W.exmOne K (.ref a.A2) (.ref a.Ae)=some false
 Dy:W.exmOne K (.ref a.A2) (.ref a.Al)=some false
 Gc:W.exmOne K (.ref a.A2) (.ref a.Au)=some false
 Gd:W.exmOne K (.ref a.A2) (.ref a.Bf)=some false
 Ge:W.exmOne K (.ref a.A2) (.ref a.Bg)=some false
 Gf:W.exmOne K (.ref a.A2) (.ref a.Az)=some false
 Dm:W.exmOne K (.ref a.A2) (.ref a.Ac)=some false
 Bl:W.exmOne K (.ref a.A2) (.ref a.A2)=some true
 Bc:W.exmOne K (.ref a.A2) (.ref a.A3)=some false
 Gg:W.exmOne K (.ref a.A2) (.ref a.Bm)=some false
 D6:W.exmOne K (.ref a.A2) (.ref a.Ab)=some false
 Gh:W.exmOne K (.ref a.A2) (.ref a.Ar)=some false
 D7:W.exmOne K (.ref a.A2) (.ref a.Ai)=some false
 Dz:W.exmOne K (.ref a.A2) (.ref a.A9)=some false
 D8:W.exmOne K (.ref a.A2) (.ref a.A5)=some false
 Gi:W.kitAny K (.ref a.A5) [.ref a.A2,.ref a.Ar]=some false
 E4:W.exmOne K (.ref a.A5) (.ref a.Ae)=some false
 Dn:W.exmOne K (.ref a.A5) (.ref a.Al)=some false
 F0:W.exmOne K (.ref a.A5) (.ref a.Au)=some false
 F6:W.exmOne K (.ref a.A5) (.ref a.Bf)=some false
 F7:W.exmOne K (.ref a.A5) (.ref a.Bg)=some false
 F8:W.exmOne K (.ref a.A5) (.ref a.Az)=some false
 D9:W.exmOne K (.ref a.A5) (.ref a.Ac)=some false
 Co:W.exmOne K (.ref a.A5) (.ref a.A3)=some false
 F9:W.exmOne K (.ref a.A5) (.ref a.Bm)=some false
 Cp:W.exmOne K (.ref a.A5) (.ref a.Ab)=some false
 Cq:W.exmOne K (.ref a.A5) (.ref a.Ai)=some false
 Do:W.exmOne K (.ref a.A5) (.ref a.A9)=some false
 Cr:W.exmOne K (.ref a.A5) (.ref a.A5)=some true
 Iq:W.kitAny K (.ref a.A9) [.ref a.A2,.ref a.Ar,.ref a.A5]=some false
 Fa:W.exmOne K (.ref a.A9) (.ref a.Ae)=some false
 Ei:W.exmOne K (.ref a.A9) (.ref a.Al)=some false
 Hx:W.exmOne K (.ref a.A9) (.ref a.Au)=some false
 Hy:W.exmOne K (.ref a.A9) (.ref a.Bf)=some false
 Hz:W.exmOne K (.ref a.A9) (.ref a.Bg)=some false
 I0:W.exmOne K (.ref a.A9) (.ref a.Az)=some false
 E5:W.exmOne K (.ref a.A9) (.ref a.Ac)=some false
 Dp:W.exmOne K (.ref a.A9) (.ref a.A3)=some false
 I1:W.exmOne K (.ref a.A9) (.ref a.Bm)=some false
 Dq:W.exmOne K (.ref a.A9) (.ref a.Ab)=some false
 Dr:W.exmOne K (.ref a.A9) (.ref a.Ai)=some false
 Ej:W.exmOne K (.ref a.A9) (.ref a.A9)=some true
 Jq:W.kitAny K (.ref a.Ae) [.ref a.A2,.ref a.Ar,.ref a.A5,.ref a.A9,.ref a.A3]=some false
 By:W.exmOne K (.ref a.Ae) (.ref a.Ae)=some true
 Fb:W.exmOne K (.ref a.Ae) (.ref a.Al)=some false
 Ir:W.exmOne K (.ref a.Ae) (.ref a.Au)=some false
 Is:W.exmOne K (.ref a.Ae) (.ref a.Bf)=some false
 Iu:W.exmOne K (.ref a.Ae) (.ref a.Bg)=some false
 Ek:W.exmOne K (.ref a.Ae) (.ref a.Az)=some false
 C8:W.exmOne K (.ref a.Ae) (.ref a.Ac)=some false
 El:W.exmOne K (.ref a.Ae) (.ref a.A2)=some false
 Em:W.exmOne K (.ref a.Ae) (.ref a.Bm)=some false
 E6:W.exmOne K (.ref a.Ae) (.ref a.Ab)=some false
 E7:W.exmOne K (.ref a.Ae) (.ref a.Ai)=some false
 Fc:W.exmOne K (.ref a.Ae) (.ref a.A9)=some false
 Gj:W.kitAny K (.ref a.A3) [.ref a.A2,.ref a.Ar,.ref a.A5,.ref a.A9]=some false
 E8:W.exmOne K (.ref a.A3) (.ref a.Ae)=some false
 Ds:W.exmOne K (.ref a.A3) (.ref a.Al)=some false
 Fd:W.exmOne K (.ref a.A3) (.ref a.Au)=some false
 Fe:W.exmOne K (.ref a.A3) (.ref a.Bf)=some false
 Ff:W.exmOne K (.ref a.A3) (.ref a.Bg)=some false
 Fg:W.exmOne K (.ref a.A3) (.ref a.Az)=some false
 Da:W.exmOne K (.ref a.A3) (.ref a.Ac)=some false
 Bb:W.exmOne K (.ref a.A3) (.ref a.A3)=some true
 Fh:W.exmOne K (.ref a.A3) (.ref a.Bm)=some false
 Ct:W.exmOne K (.ref a.A3) (.ref a.Ab)=some false
 Cu:W.exmOne K (.ref a.A3) (.ref a.Ai)=some false
 Cv:W.exmOne K (.ref a.Ab) (.ref a.Ab)=some true
 A7:mg "isinstance"=none
 J9:mg "int"=none
 Us:mg "bool"=none
 At:mg "list"=none
 En:mg "all"=none
 Af:mg "len"=none
 Nw:mg "min"=none
 Ny:mg "max"=none
 Up:mg "str"=none
 Db:mg "tuple"=none
 Nz:mg "zip"=none
 I2:mg "sum"=none
 Vv:mg "any"=none
 Ax:mg "range"=none
 Gk:mg "ValueError"=none
 E9:mg "LEAST"=some (.int 32768 a.O0)
 Dc:mg "ONE"=some (.int 16777216 a.Vd)
 Dd:mg "MOST_SIGNS"=some (.int 1000 a.Fr)
 De:mg "MOST_BYTES"=some (.int 12000 a.Fs)
 C9:mg "MOST_COUNTED"=some (.int 255 a.Ea)
 Iv:mg "FARTHEST"=some (.int 8 a.I6)
 Fi:mg "MOST_PLACES"=some (.int 4 a.Es)
 Dh:mg "MOST_LOOKS"=some (.int 6 a.Ft)
 Jr:mg "NO_SIGN"=some (.int 256 a.Ja)
 Eo:mg "FIRST_WEIGHT"=some (.int 1099511627776 a.Eb)
 I3:mg "OWN_PARTS"=some (.int 31 a.Gq)
 Ep:mg "MOST_FIGURES"=some (.int 48 a.Ec)
 Dw:mg "NODES_END"=some (.int 256 a.Gr)
 Fj:mg "FIRST_WIDTH"=some (.int 1099511627776 a.Et)
 Gm:mg "FIRST_SIZE"=some (.int 5 a.Fu)
 Fk:mg "LEAST_WIDTH"=some (.int 4294967296 a.Eu)
 Er:mg "MOST_LETTERS"=some (.int 8 a.Ed)
 Dt:mg "LETTERS"=some (.str "abcdefghijklmnopqrstuvwxyz" a.Jb)
 Fl:mg "MOST_PIECES"=some (.int 60 a.Ev)
 Gn:mg "MOST_SHELF"=some (.int 1000000 a.Fv)
 Gp:mg "KINDS"∣a.Bn
 I4:K.lookup a.Bn=some #[.type "tuple",none,.seq (List.toArray [.str "even" a.I7,.str "quick" a.I8,.str "run" a.I9]) a.Lk,a.Ll]
 I5:mg "WORTHS"∣a.C0
 Js:K.lookup a.C0=some #[.type "tuple",a.Jc,.seq (List.toArray [.int 128 a.Gs,.int 64 a.Gt,.int 32 a.Gu,.int 16 a.Gv,.int 8 a.Gw,.int 4 a.Gy,.int 2 a.Gz,.int 1 a.Ha]) a.Jd,a.Je]
def Txt.w_KINDS{K:xy}{mg:Ε}(T:Txt K mg a):∀H,SqT K H a.Bn [V.str "even",V.str "quick",V.str "run"]:=ysc T.I4 (by show 3<=sizeLine;decide) (.cons #[_,J] (.cons #[_,J] (.cons #[_,J] .nil)))
def Txt.wy_KINDS{K:xy}{mg:Ε}(T:Txt K mg a):∃o,K.lookup a.Bn=some o/\o.cls=.type "tuple"/\o.dict=none:=#[_,T.I4,J,J]
def Txt.w_WORTHS{K:xy}{mg:Ε}(T:Txt K mg a):∀H,SqT K H a.C0 [V.int 128,V.int 64,V.int 32,V.int 16,V.int 8,V.int 4,V.int 2,V.int 1]:=ysc T.Js (by show 8<=sizeLine;decide) (.cons #[_,J] (.cons #[_,J] (.cons #[_,J] (.cons #[_,J] (.cons #[_,J] (.cons #[_,J] (.cons #[_,J] (.cons #[_,J] .nil))))))))
end
section
variable{P:qi}{w:qe}{K:xy}{mg:Ε}{Γ:qg}
section
open Lean
mutual
def fld0 (w z:Term):Nat->MacroM Term
 | 0=>return z
 | i+1=>do `($w 'r' $(<-fld0 w z i))
def fld1 (x c l h r k q:Term)(e:List Term):MacroM Syntax:=`(theorem $(⟨x⟩):ident (T:Txt K mg a)(hp:H p=some (.ins $c dx $l))(h : $h) : $r := $k hp $q $(e.toArray)* h)
def fld2 (F:Term)(n:Nat)(w:Array (Term×Term)):MacroM Term:=if w.size<n then do `([$(<-w.mapM fun x=>`(($(x.1),$(x.2)))),*]) else `($F $(w.map (·.2))*)
def fld3 (x g s:Term):MacroM Syntax:=`(theorem $(⟨x⟩):ident {C:qa}{nm:Str}(hp:H p=some (.ins C dx $g))(n:nm∉($s :Ρ))(h:R):MtX H p C nm R:=mtX hp J n h)
def fld4 (x g s e:Term):MacroM Syntax:=`(theorem $(⟨x⟩):ident :List.lookup ($s :Str) $g=none:=$e)
def fld5 (x:Term)(v:Array Ident)(l:Term):MacroM Syntax:=`(def $(⟨x⟩):ident ($v*:V):Ι:= $l)
def fld6 (b:Bool)(x:MacroM Syntax):MacroM (Array Syntax):=if b then return #[<-x] else return #[]
def fld7 (c m:Term):MacroM Term:=`(wu nx σ (upd H p (.ins $c dx $m)))
def fld8 (F c q:Term)(w:Array (Term×Term))(g:Term)(i:Nat)(y:Array Term):MacroM (Array Syntax):=do
 let k:=w.size
 let s:=y[0]!
 let n:=y[1]!
 let r<-`(StX K H p $s v nx σ)
 let V:=(s,<-`(v))
 let z:=w.extract 0 i
 let t (j k l m e):=fld6 y[j]!.raw.isIdent do fld1 y[j]! c (<-fld2 F w.size l) (<-fld7 c (<-fld2 F w.size m)) r (<-`(stX)) q [n,mkIdent (.mkSimple s!"lt{k}"),<-fld0 (<-`(vz)) e i]
 return (<-fld6 y[2]!.raw.isIdent do fld1 y[2]! c g (<-`(P $(w[i]!.2))) (<-`(RdX K H p $s P)) (<-`(rdX)) q [n,<-fld0 (<-`(wn)) (<-`(uf)) i])++(<-t 3 k w (w.set! i V) (<-`(μ)))++(<-t 4 i z (z.push V) (<-`(wz)))
end
local macro_rules | `(#synth[$F,$C,$q,$xs,*])=>do
 let r:=xs.getElems.map fun x=>x.raw[1].getSepArgs.map fun x=>(⟨x⟩:Term)
 let f:=r.filter (·.size==5)
 let v:Array Ident:=f.mapIdx fun i _=>mkIdent (.mkSimple s!"v{i}")
 let w:=f.mapIdx fun i y=>(y[0]!,(⟨v[i]!⟩:Term))
 let g<-fld2 F 0 w
 let mut o:=(List.cons (<-fld5 F v (<-fld2 F 99 w)) []).toArray
 for y in r do
  o:=o++(<-fld6 (y.size==1) (do fld3 y[0]! g (<-`([$(w.map (·.1)),*]))))++(<-fld6 (y.size==2) (do fld4 y[1]! g y[0]! (<-fld0 (<-`(wn)) (<-`(Ø)) v.size)))
 for i in [0:f.size] do o:=o++(<-fld8 F C q w g i f[i]!)
 return mkNullNode o
mutual
variable{H:Hp}{p dx:qa}{v0 v1 v2 v3 v4 v5 v:V}{P:V->Prop}{nx:Ζ}{σ:St}
#synth[j8,a.Aj,T.B0,["noughts",T.B8,Ħ,ĥ,ī],["ones",T.C3,yb2,yb0,ybv],["chance",Ş],["seen",yb3],["twin",yb7]]
#synth[jf,a.Ah,T.Bi,["held",T.Bo,yad,yaj,yal],["chance",ħ],["seen",yaf],["twin",Ż]]
#synth[Ď,a.Aq,T.Bp,["last",T.Ci,yeh,yef,yeb],["length",T.Bq,yau,yat,yab],["chance",yao],["seen",yd6],["twin",yeg]]
#synth[ydc,a.Am,T.Br,["look",T.Dv,ybz,_,ybx],["slots",T.Bt,yah,ſ,yas],[yuh]]
#synth[vf9,a.Cg,T.Fo,["kept",T.Dj,yht,yh5,yh2],[vhc]]
#synth[jy,a.A6,T.Ak,["looks",T.Bu,ydp,_,yd0],["books",T.Cj,yee,yea,ydz],["mixer",T.Ck,yd7,yds,ydv],["ended",T.Cl,yec,yd4,ydx],["place",T.Cm,yd2,ydq,yd5],["present",T.Bv,yap,yaq,yar],[vic]]
#synth[ym3,a.As,T.B9,["data",T.Fp,yh4,_,yh7],["span",T.Fq,yhl,_,yij],["number",T.C5,yb9,yb1,yb4],["reached",T.Bx,yag,ź,Ž],[vg2]]
#synth[Ä,a.A4,T.Ap,["foreteller",T.Ba,Û,_,Ü],["links",T.Cb,Ř,_,ř],["texts",T.Cc,ŕ,_,Ŝ],[yob]]
#synth[Ň,a.Ag,T.D0,["base",T.D1,yae,_,yan],["data",T.D2,ż,_,yak]]
#synth[wj,a.A0,T.A1,["looks",T.Bd,ś,_,Ś],["most",T.D3,yac,_,yam],["pieces",T.C6,Ī,_,Ĩ],["chain",T.Be,Œ,ŝ,Ŗ],[yoo]]
#synth[jn,a.A8,T.Aa,["data",T.Cd,œ,_,ŗ],["reached",T.Aw,ü,ý,þ],[yjg]]
end
end
local macro_rules | `(tactic| walk_at "f1")=>`(tactic| first
 | fail "1 Ħ yb2 yad yeh yau ybz yah yht ydp yee yd7 yec yd2 yap yh4 yhl yb9 yag Û Ř ŕ yae ż ś yac Ī Œ œ ü")
local macro_rules | `(tactic| walk_at "f2")=>`(tactic| first
 | fail "1 ĥ ī yb0 ybv yaj yal yef yeb yat yab ybx ſ yas yh5 yh2 yd0 yea ydz yds ydv yd4 ydx ydq yd5 yaq yar yh7 yij yb1 yb4 ź Ž Ü ř Ŝ yan yak Ś yam Ĩ ŝ Ŗ ŗ ý þ")
local macro_rules | `(tactic| walk_at "f3")=>`(tactic| first
 | fail "3 yuh vhc vic vg2 yob yoo yjg")
local macro_rules | `(tactic| walk_at "rd1")=>`(tactic| first | ((with_reducible refine gRd ?_); walk_at "f1") | ((with_reducible refine gSt ?_); walk_at "f2") | ((with_reducible refine gMt ?_); walk_at "f3"))
open SpanMath
mutual
def But(p:qa)(H H':Hp):Prop:=∀b o,H b=some o->b≠p->H' b=some o
def But.refl{p:qa}{H:Hp}:But p H H:=λZ Z h Z=>h
def But.of{p:qa}{H H':Hp}(s:yu H H'):But p H H':=λb o h Z=>s b o h
def But.trans{p:qa}{H H1 H2:Hp}(x:But p H H1)(y:But p H1 H2):But p H H2:=λb o h n=>y b o (x b o h n) n
theorem But.upd{p:qa}{H:Hp}{o:HO}:But p H (L2.upd H p o):=λb u h n=>by rwa[yn n,h]
theorem But.lst{p l C dx:qa}{fs:Ι}{H H':Hp}{xs:Τ}(e:But p H H')(hp:H p∩C dx fs)(h:H l\xs):H' l\xs:=e _ _ h (uc h hp 'z')
def jz{x:V}(h:Ù x=true):∃i,x=.int i:=by
 cases x with
 |int i=>erw[i,rfl]
 |_=>cases h
noncomputable def ě:V->Bool
 | .int i=>decide (0<=i) && decide (i<=1)
 |_=>false
noncomputable def chV:V->Bool
 | .int i=>decide (32768<=i) && decide (i<=16744448)
 |_=>false
end
local macro_rules | `(#synth ∀$bs:bracketedBinder*,∀$cs:bracketedBinder*,$n:ident)=>`(inductive $n:ident $bs* (vs:Τ)(H:Hp)(Q:VK)(E:XK):Prop | mk $cs*)
local macro_rules | `(#synth ∀$cs:bracketedBinder*,$n:ident)=>`(inductive $n:ident (vs:Τ)(H:Hp)(Q:VK)(E:XK):Prop | mk $cs*)
mutual
#synth ∀(K:xy),∀(x n:_)(_:vs=[x])(_:xf K H x (.type n))(_:Q (.bl (Ù x)) H),yxe
noncomputable def Æ(x:Sn):Ι:=[("low",.int x.1),("width",.int x.2.1),("size",.int x.2.2)]
def nWL:¬(("width":Str)="low"):='r'
def nLW:¬(("low":Str)="width"):='r'
def nSL:¬(("size":Str)="low"):='r'
def nLS:¬(("low":Str)="size"):='r'
def nSW:¬(("size":Str)="width"):='r'
def nWS:¬(("width":Str)="size"):='r'
def lkL(x:Sn):(Æ x).lookup ("low":Str)=some (.int x.1):=uf
def lkW(x:Sn):(Æ x).lookup ("width":Str)=some (.int x.2.1):=wn nWL uf
def lkS(x:Sn):(Æ x).lookup ("size":Str)=some (.int x.2.2):=wn nSL (wn nSW uf)
def lkN(x:Sn){m:Str}(h1:¬m="low")(h2:¬m="width")(h3:¬m="size"):(Æ x).lookup m=none:=wn h1 (wn h2 (wn h3 Ø))
def pfL(x:Sn)(v:Int):Ñ "low" (.int v) (Æ x)=Æ (v,x.2.1,x.2.2):=μ
def pfW(x:Sn)(v:Int):Ñ "width" (.int v) (Æ x)=Æ (x.1,v,x.2.2):=vz nLW μ
def pfS(x:Sn)(v:Int):Ñ "size" (.int v) (Æ x)=Æ (x.1,x.2.1,v):=vz nLS (vz nWS μ)
end
section
mutual
variable{H:Hp}{p dx:qa}{x:Sn}{P:V->Prop}{nx:Ζ}{σ:St}{v:Int}
def rdL(T:Txt K mg a)(hp:H p∩a.Ad dx (Æ x))(h:P (.int x.1)):
  ∃a' C dx fs v,V.ref p=.ref a'/\H a'∩C dx fs/\Cls K C/\NoAttr K C "low"/\fs.lookup ("low":Str)=some v/\P v:=#[p,_,dx,_,_,J,hp,T.An,T.Cn,lkL x,h]
def rdW(T:Txt K mg a)(hp:H p∩a.Ad dx (Æ x))(h:P (.int x.2.1)):
  ∃a' C dx fs v,V.ref p=.ref a'/\H a'∩C dx fs/\Cls K C/\NoAttr K C "width"/\fs.lookup ("width":Str)=some v/\P v:=#[p,_,dx,_,_,J,hp,T.An,T.Bw,lkW x,h]
def rdS(T:Txt K mg a)(hp:H p∩a.Ad dx (Æ x))(h:P (.int x.2.2)):
  ∃a' C dx fs v,V.ref p=.ref a'/\H a'∩C dx fs/\Cls K C/\NoAttr K C "size"/\fs.lookup ("size":Str)=some v/\P v:=#[p,_,dx,_,_,J,hp,T.An,T.C4,lkS x,h]
def vj1(T:Txt K mg a)(hp:H p∩a.Ad dx (Æ x))(h:wu nx σ (upd H p (.ins a.Ad dx (Æ (v,x.2.1,x.2.2))))):
  ∃a' C dx fs,V.ref p=.ref a'/\H a'∩C dx fs/\Cls K C/\NoAttr K C "low"/\fs.length<1000/\wu nx σ (upd H a' (.ins C dx (Ñ "low" (.int v) fs))):=#[p,_,dx,Æ x,J,hp,T.An,T.Cn,by show 3<1000;decide,by rwa[pfL,h]]
def vj4(T:Txt K mg a)(hp:H p∩a.Ad dx (Æ x))(h:wu nx σ (upd H p (.ins a.Ad dx (Æ (x.1,v,x.2.2))))):
  ∃a' C dx fs,V.ref p=.ref a'/\H a'∩C dx fs/\Cls K C/\NoAttr K C "width"/\fs.length<1000/\wu nx σ (upd H a' (.ins C dx (Ñ "width" (.int v) fs))):=#[p,_,dx,Æ x,J,hp,T.An,T.Bw,by show 3<1000;decide,by rwa[pfW,h]]
def vkf(T:Txt K mg a)(hp:H p∩a.Ad dx (Æ x))(h:wu nx σ (upd H p (.ins a.Ad dx (Æ (x.1,x.2.1,v))))):
  ∃a' C dx fs,V.ref p=.ref a'/\H a'∩C dx fs/\Cls K C/\NoAttr K C "size"/\fs.length<1000/\wu nx σ (upd H a' (.ins C dx (Ñ "size" (.int v) fs))):=#[p,_,dx,Æ x,J,hp,T.An,T.C4,by show 3<1000;decide,by rwa[pfS,h]]
end
end
set_option hygiene true in
local macro_rules | `(tactic| walk_at "rd1")=>`(tactic| first
 | fail "1 rdL rdW rdS vj1 vj4"
 | (with_reducible refine' vkf (by assumption) ?rdh ?_; (case rdh=>first | assumption | exact ya)))
mutual
inductive Slt where
 |ev (n o:Int)
 |qk (h:Int)
 |rn (l n:Int)
abbrev _root_.Α:=Nat->qj Int->ql Slt
def Slt.ok:Slt->Prop
 | .ev n o=>0<=n/\0<=o/\n+o<=255
 | .qk h=>32768<=h/\h<=16744448
 | .rn l n=>0<=l/\l<=1/\0<=n/\n<=255
noncomputable def ē(n:Int):Int:=(2*n+1)*16777216/(2*n+2)
def Slt.due:Slt->Int
 | .ev n o=>(2*o+1)*16777216/(2*(n+o)+2)
 | .qk h=>h
 | .rn l n=>if l=1 then ē n else 16777216-ē n
noncomputable def yfh(n o:Int):Slt:=if 255<n+o then .ev ((n+1)/2) ((o+1)/2)else .ev n o
noncomputable def yha(m:Int):Int:=if 16744448<(if 32768 > m then 32768 else m)then 16744448 else (if 32768 > m then 32768 else m)
def Slt.see:Slt->Int->Slt
 | .ev n o,b=>if b=1 then yfh n (o+1)else yfh (n+1) o
 | .qk h,b=>.qk (yha (if b=1 then h+(16777216-h)/16 else h-h/16))
 | .rn l n,b=>if b=l then .rn l (if 255<n+1 then 255 else n+1)else .rn b 1
noncomputable def oS(a:Ads)(dx:qa):Slt->HO
 | .ev n o=>.ins a.Aj dx (j8 (.int n) (.int o))
 | .qk h=>.ins a.Ah dx (jf (.int h))
 | .rn l n=>.ins a.Aq dx (Ď (.int l) (.int n))
def yf9{n o:Int}(h1:0<=n)(h2:0<=o)(h3:n+o<=256):(yfh n o).ok:=by
 unfold yfh
 split
 .exists by omega,(),()
 .erw[h1,h2,()]
def yks(m:Int):32768<=yha m/\yha m<=16744448:=by
 unfold yha
 split<;>split<;>omega
def Slt.see_ok{s:Slt}{b:Int}(h:s.ok)(b0:0<=b)(b1:b<=1):(s.see b).ok:=by
 cases s with
 |ev n o =>
  let#[a,c,d]:=h;unfold Slt.see;dsimp only
  split
  .erw[yf9 a () ()]
  .erw[yf9 () c ()]
 |qk h0=>erw[yks _]
 |rn l n =>
  let#[a,c,d,e]:=h;unfold Slt.see;dsimp only
  split
  .erw[a,c,?_,?_]<;>split<;>omega
  .erw[b0,b1,∅,∅]
noncomputable def kdS:Fin 3->Str
 |0=>"even"
 |1=>"quick"
 |2=>"run"
def kd0:Fin 3->Slt
 |0=>.ev 0 0
 |1=>.qk 8388608
 |2=>.rn 1 0
def yrk(k:Fin 3):(kd0 k).ok:=by
 match k with
 |0=>exists by decide,∅,∅
 |1=>exists by decide,∅
 |2=>exists by decide,∅,∅,∅
def vbk{b:Int}(b0:0<=b)(b1:b<=1):ě (.int b)=true:=by simp only[ě,bU,decide_eq_true_eq];omega
def yhg{x:V}(h:ě x=true):∃b:Int,x=.int b/\0<=b/\b<=1:=by
 cases x with
 |int i =>
  simp only[ě,bU,decide_eq_true_eq]at h;erw[i,J,h.1,h.2]
 |_=>cases h
#synth ∀(C:qa)(F:Ι),∀(p dx:qa)(_:vs=[.ref p])(_:H p∩C dx [])(_:∀H',H' p∩C dx F->But p H H'->Q .non H'),ya8
#synth ∀(o:qa->Slt->HO)(g:Slt->Prop),∀(p dx:qa)(s:Slt)(_:vs=[.ref p])(_:g s)(_:s.ok)(_:H p=some (o dx s))(_:Q (.int s.due) H),zv
#synth ∀(K:xy)(o:qa->Slt->HO)(g:Slt->Prop)(C:qa),∀(p dx:qa)(s:Slt)(x:V)(n:String)(_:vs=[.ref p,x])(_:g s)(_:s.ok)(_:H p=some (o dx s))(_:xf K H x (.type n))(_:(∀b:Int,x=.int b->0<=b->b<=1->∀H',H' p=some (o dx (s.see b))->But p H H'->Q .non H'))(_:(ě x=false->E (.ref C) none H)),Ì
def yw7:Slt->Prop
 | .ev _ _=>True
 |_=>False
def yxb:Slt->Prop
 | .qk _=>True
 |_=>False
def yw6:Slt->Prop
 | .rn _ _=>True
 |_=>False
def ydl(bs:Ο):Prop:=∀b∈bs,0<=b/\b<=1
def w9{n:Nat}(h:n<=16000000):n<=sizeLine:=ck h ∅
def vv{n:Nat}(h:n<=16000000):n<sizeLine:=Nat.lt_of_le_of_lt h ∅
def õ{ns:Ο}{x:V}(h:(ns.map V.int)[i]?=some x):∃n,x=.int n/\n∈ns/\ns[i]?=some n/\i<ns.length:=by
 rw[bB]at h
 cases e:ns[i]? with
 |none=>rw[e]at h;cases h
 |some n =>
  rw[e]at h
  have a:i<ns.length:=by
   rcases Nat.lt_or_ge i ns.length with q|q
   .erw[q]
   .rw[ci q]at e;cases e
  erw[n,(bL h).symm,bM e,J,a]
def ā{l:Ο}{q:Int}(h:l[i]?=some q):l.take (i+1)=l.take i++[q]:=by rw[List.take_add_one,h];rfl
def yo2{ys:Ο}(h1:ydl xs)(h2:ydl ys):ydl (xs++ys):=λb a=>by
 rcases bQ.mp a with h|h
 .erw[h1 b h]
 .erw[h2 b h]
def yki(c:Int)(n:Nat):(List.replicate n [V.int c]).flatten=(List.replicate n c).map V.int:=by
 induction n with
 |zero=>rfl
 |succ n ih=>rw[cu,List.flatten_cons,ih,cu];rfl
def ys6(sg:Ο)(p:Int):Int:=if p<=sg.length then (atI sg (-p)).getD 256 else 256
def yuz{α β:Type}(f:α->β)(xs:qj α)(i:Int):atI (xs.map f) i=(atI xs i).map f:=by
 unfold atI;rw[bo]
 cases ixN xs.length i with
 |none=>rfl
 |some j =>
  show (xs.map f)[j]?=(xs[j]?).map f;rw[bB]
def ypc{sg:Ο}{p:Int}(h1:1<=p)(h2:p<=sg.length):∃c,atI sg (-p)=some c/\c∈sg:=by
 unfold atI ixN;rw[if_neg ()];by_cases h:-(sg.length:Int)<= -p
 .rw[if_pos ()];have a:((-p+(sg.length:Int)).toNat)<sg.length:=()
  erw[_,bp a,bW a]
 .omega
def Slt.kind:Slt->Fin 3
 | .ev _ _=>0
 | .qk _=>1
 | .rn _ _=>2
def ynq(s:Slt)(b:Int):(s.see b).kind=s.kind:=by
 cases s with
 |ev n o =>
  unfold Slt.see yfh;dsimp only
  split<;>split<;>rfl
 |qk h=>rfl
 |rn l n =>
  unfold Slt.see;dsimp only
  split<;>rfl
def yn1(k:Fin 3):(kd0 k).kind=k:=by
 match k with
 |0=>rfl
 |1=>rfl
 |2=>rfl
def ó(a:Ads)(dx:qa)(s:Slt):∃C fs,oS a dx s=.ins C dx fs:=by cases s<;>erw[_,_,J]
def yg0{s:Slt}(h:s.ok):32768<=s.due/\s.due<=16744448:=by
 cases s with
 |ev n o =>
  let#[c,b,d]:=h;unfold Slt.due;dsimp only;have a:(0:Int)<2*(n+o)+2:=()
  constructor
  .rw[Int.le_ediv_iff_mul_le a];omega
  .have:(2*o+1)*16777216/(2*(n+o)+2)<16744449:=by
    rw[Int.ediv_lt_iff_lt_mul a];omega
   omega
 |qk h0=>erw[h]
 |rn l n =>
  let#[c,b,d,e]:=h;have a:(0:Int)<2*n+2:=()
  have g1:8388608<=ē n:=by
   unfold ē;rw[Int.le_ediv_iff_mul_le a];omega
  have g2:ē n<16744449:=by
   unfold ē;rw[Int.ediv_lt_iff_lt_mul a];omega
  unfold Slt.due;dsimp only
  split<;>omega
def yi7{p dx:qa}{s:Slt}{ta:TE}{σ:St}{H:Hp}{Q:VK}{E1 E2 E3:XK}(hta:∀Q':VK,Q' (.ref p) H->ta σ H Q')(hp:H p=some (oS a dx s))(ok:s.ok)(h:Q (.int s.due) H):
  ypl (ş a.Aj "chance" (zv (oS a) yw7) [] E1 ta yhh) (ypl (ş a.Ah "chance" (zv (oS a) yxb) [] E2 ta yhh) (ş a.Aq "chance" (zv (oS a) yw6) [] E3 ta yhh)) σ H Q:=by
 cases s with
 |ev n o=>erw[Ô (ŉ (hta _ #[p,dx,_,J,hp,Ş,p,dx,.ev n o,J,trivial,ok,hp,h]))]
 |qk h0=>erw[j7 (Ô (ŉ (hta _ #[p,dx,_,J,hp,ħ,p,dx,.qk h0,J,trivial,ok,hp,h])))]
 |rn l n=>erw[j7 (j7 (ŉ (hta _ #[p,dx,_,J,hp,yao,p,dx,.rn l n,J,trivial,ok,hp,h])))]
def yt4{p dx:qa}{s:Slt}{ta:TE}{t:TA}{σ:St}{H:Hp}{Q:VK}{E1 E2 E3:St->XK}{x:V}{n:String}(hta:∀Q':VK,Q' (.ref p) H->ta σ H Q')(ht:∀Q':qj V->Hp->Prop,Q' [x] H->t σ H Q')(hp:H p=some (oS a dx s))(ok:s.ok)(ty:xf K H x (.type n))
  (h:∀b:Int,x=.int b->0<=b->b<=1->∀H',H' p=some (oS a dx (s.see b))->But p H H'->Q .non H') (h1:ě x=false->E1 σ (.ref a.Au) none H) (h2:ě x=false->E2 σ (.ref a.Au) none H) (h3:ě x=false->E3 σ (.ref a.Au) none H):
  ypl (Ű a.Aj "seen" (Ì K (oS a) yw7 a.Au) [] E1 ta t) (ypl (Ű a.Ah "seen" (Ì K (oS a) yxb a.Au) [] E2 ta t) (Ű a.Aq "seen" (Ì K (oS a) yw6 a.Au) [] E3 ta t)) σ H Q:=by
 cases s with
 |ev n o=>erw[Ô (ybr (hta _ #[p,dx,_,J,hp,yb3,ht _ #[p,dx,.ev n o,x,_,J,trivial,ok,hp,ty,h,h1]]))]
 |qk h0=>erw[j7 (Ô (ybr (hta _ #[p,dx,_,J,hp,yaf,ht _ #[p,dx,.qk h0,x,_,J,trivial,ok,hp,ty,h,h2]])))]
 |rn l n=>erw[j7 (j7 (ybr (hta _ #[p,dx,_,J,hp,yd6,ht _ #[p,dx,.rn l n,x,_,J,trivial,ok,hp,ty,h,h3]])))]
def va1{x:Sn}{c b:Int}(h:Ok x):(nar x c b).2.2<=x.2.2+2:=by
 unfold nar ren;have:=h.z
 (repeat' split)<;>(dsimp only;omega)
noncomputable abbrev tMx:Nat:=100000
def yfn{k:Nat}(h:k<=6):pw k<=281474976710656:=Int.le_trans (yln h) ∅
def yny(xs:Ο)(y:Int):xs.map V.int++[V.int y]=(xs++[y]).map V.int:='s'
def yta(xs:Ο):(xs.map V.int).reverse=xs.reverse.map V.int:='s'
noncomputable def gvv(c b:Int):Int:=if b=1 then c else 16777216-c
def yen{x:V}(h:chV x=true):∃c,x=.int c/\32768<=c/\c<=16744448:=by
 cases x with
 |int i =>
  simp only[chV,bU,decide_eq_true_eq]at h;erw[i,J,h.1,h.2]
 |_=>cases h
def yfz{x:V}(h:ě x=true):∃b,x=.int b/\0<=b/\b<=1:=by
 cases x with
 |int i =>
  simp only[ě,bU,decide_eq_true_eq]at h;erw[i,J,h.1,h.2]
 |_=>cases h
def ygq{c:Int}(h:Ch c):chV (.int c)=true:=by let#[a,b]:=h;simp only[chV,bU,decide_eq_true_eq];omega
def yei{b:Int}(h1:0<=b)(h2:b<=1):ě (.int b)=true:=by simp only[ě,bU,decide_eq_true_eq];omega
def ybk{xs:Τ}{i:Int}(h0:0<=i)(h1:i<xs.length):∃v,v∈xs/\atI xs i=some v:=by
 obtain⟨j,rfl⟩:∃j:Nat,i=(j:Int):=#[i.toNat,()];have a:j<xs.length:=()
 erw[xs[j],bW a,wt (bp a)]
def jh{H H':Hp}{v:V}{n:String}(S:yu H H')(t:xf K H v (.type n)):xf K H' v (.type n):=by
 cases t with
 |non=>erw[.non]
 |bl b=>erw[.bl b]
 |int i=>erw[.int i]
 |str x=>erw[.str x]
 |flt x=>erw[.flt x]
 |lst e=>erw[.lst (S _ _ e)]
 |frz e=>erw[.frz (S _ _ e)]
 |tup e=>erw[.tup (S _ _ e)]
 |dK e=>erw[.dK (S _ _ e)]
 |dT e=>erw[.dT (S _ _ e)]
noncomputable def sgV:V->Bool
 | .int i=>decide (0<=i) && decide (i<=255)
 |_=>false
def Typed(K:xy)(H:Hp)(xs:Τ):Prop:=∀y∈xs,∃k:String,xf K H y (.type k)
def Typed.same{H H':Hp}{xs:Τ}(t:Law.Typed K H xs)(S:yu H H'):Law.Typed K H' xs:=λy a=>let ⟨k,z⟩:=t y a;#[k,jh S z]
def zu{H:Hp}(ns:Ο):Typed K H (ns.map V.int):=λy a=>by
 let#[i,_,J]:=bw.mp a;erw[_,.int i]
def Bad(K:xy)(H:Hp)(x:V)(n:String)(m:Int):Prop:=n≠"list"\/∃p xs,x=.ref p/\H p\xs/\Typed K H xs/\xs.length<=100000/\(decide ((xs.length:Int)<=m) && xs.all sgV)=false
def vgf(K:xy)(H:Hp)(x:V)(xs:Τ)(m:Int):Prop:=∃p,x=.ref p/\H p\xs/\Typed K H xs/\xs.length<=100000/\(decide ((xs.length:Int)<=m) && xs.all sgV)=true
theorem Bad.same{H H':Hp}{x:V}{n:String}{m:Int}(h:Law.Bad K H x n m)(S:yu H H'):Law.Bad K H' x n m:=by
 rcases h with h|⟨p,b,e,a,t,r⟩
 .erw[.inl h]
 .erw[.inr #[p,b,e,S _ _ a,t.same S,r]]
def yvs{H:Hp}{x:V}{n:String}(ty:xf K H x (.type n)):W.kitOne K (.type n) (.type "list")=some (decide (n="list")):=by cases ty<;>rfl
def yoz{n:Nat}(h:n<=100000):n<sizeLine:=Nat.lt_of_le_of_lt h ∅
def ygg{xs:Τ}(n:Nat):ydg xs (some (n:Int)) none=xs.drop n:=by
 unfold ydg;rw[HT.sIx_nat,HT.sIx_none];by_cases h:n<=xs.length
 .rw[Nat.min_eq_left h,cE (by rwa[cZ,bx _])]
 .rw[Nat.min_eq_right (),Nat.sub_self,List.take_zero,List.drop_of_length_le ()]
def yep{ns:Ο}(h:∀i∈ns,0<=i/\i<=255):(ns.map V.int).all sgV=true:=by rw[List.all_map,List.all_eq_true];intro i b;let#[a,c]:=h i b;simp[sgV,a,c]
#synth ∀(K:xy)(C:qa)(m:Int),∀(x n:_)(_:vs=[x])(_:xf K H x (.type n))(_:((Bad K H x n m/\∀H',yu H H'->E (.ref C) none H')\/∃xs,vgf K H x xs m/\∀r H',H r=none->H' r\xs->yu H H'->Q (.ref r) H')),Š
def ym5(p q:qa)(H H':Hp):Prop:=∀b o,H b=some o->b≠p->b≠q->H' b=some o
def But.two{p:qa}{H H':Hp}(h:But p H H'):ym5 p q H H':=λb o e n Z=>h b o e n
def But.two'{p:qa}{H H':Hp}(h:But q H H'):ym5 p q H H':=λb o e Z n=>h b o e n
def ym5.trans{p:qa}{H H1 H2:Hp}(x:ym5 p q H H1)(y:ym5 p q H1 H2):ym5 p q H H2:=λb o h n m=>y b o (x b o h n m) n m
structure yi0(a:Ads)(H:Hp)(p dx pd ps ds:qa)(d:Ο)(x:Sn):Prop where
 me:H p∩a.As dx (ym3 (.ref pd) (.ref ps) (.int (rn d (sz x))) (.int x.2.2))
 dt:H pd\(d.map V.int)
 sp:H ps∩a.Ad ds (Æ x)
 ne:p≠ps
def yi0.same{H H':Hp}{p dx pd ps:qa}{x:Sn}(h:yi0 a H p dx pd ps ds d x)(S:yu H H'):yi0 a H' p dx pd ps ds d x:=#[S _ _ h.me,S _ _ h.dt,S _ _ h.sp,h.ne]
end
section
mutual
variable{H H':Hp}{p dx pd ps:qa}{x:Sn}
theorem yi0.lst(h:yi0 a H p dx pd ps ds d x)(B:ym5 p ps H H'){l:qa}{xs:Τ}(e:H l\xs):H' l\xs:=B _ _ e (uc e h.me 'z') (uc e h.sp 'z')
theorem yi0.tup(h:yi0 a H p dx pd ps ds d x)(B:ym5 p ps H H'){l:qa}{xs:Τ}(e:H l∪xs):H' l∪xs:=B _ _ e (uc e h.me 'z') (uc e h.sp 'z')
end
end
mutual
def yno{H:Hp}{p:qa}(h:H p\(d.map V.int))(hb:Byt d)(hz:d.length<=12000):vgf K H (.ref p) (d.map V.int) 12000 :=
 #[p,J,h,zu d,by rw[bo];omega,by rw[yep hb,bo,bz ()];rfl]
def Sgs(ns:Ο):Prop:=∀i∈ns,0<=i/\i<=255
noncomputable def wth:Ο:=[128,64,32,16,8,4,2,1]
def b8(s:Int):Ο:=wth.map (λw=>s/w%2)
def dec:qj Int->qj Int
 |[]=>[0]
 |s::r=>(1::b8 s)++dec r
noncomputable def nds:Int->qj Int->qj Int
 |_,[]=>[]
 |n,b::r=>n::nds (2*n+b) r
def ydk:qj Int->qj Int
 |[]=>[]
 |s::r=>(1::b8 s)++ydk r
theorem ypk:∀ns,dec ns=ydk ns++[0]
 |[]=>rfl
 |s::r=>by simp[dec,ydk,ypk r]
theorem ycf(s:Int):∀ns,ydk (ns++[s])=ydk ns++(1::b8 s)
 |[]=>by simp[ydk]
 |t::r=>by simp[ydk,ycf s r]
def ysd(s:Int):(b8 s).length=8:=rfl
theorem Ë:∀ns:Ο,(ydk ns).length=9*ns.length
 |[]=>rfl
 |s::r=>by
  show ((1::b8 s)++ydk r).length=9*(r.length+1);rw[bq,Ë r];show 9+_=_;omega
def yvm(s:Int):ydl (b8 s):=λb c=>by
 let#[w,_,J]:=bw.mp c;have a:0<=s/w%2:=cK _ ∅;have d:s/w%2<2:=cA _ ∅;erw[a,()]
theorem î:∀ns,ydl (dec ns)
 |[]=>λb a=>by rw[bO.mp a];decide
 |s::r=>by
  erw[yo2 (λb a=>?_) (î r)];rcases bH.mp a with rfl|a
  .decide
  .erw[yvm s b a]
def vgz{s:Int}(h0:0<=s)(h1:s<=255):128*(s/128%2)+(64*(s/64%2)+(32*(s/32%2)+(16*(s/16%2)+(8*(s/8%2)+(4*(s/4%2)+(2*(s/2%2)+(1*(s/1%2)+0)))))))=s:=by
 have h:∀n:Nat,n<256->128*((n:Int)/128%2)+(64*((n:Int)/64%2)+(32*((n:Int)/32%2)+(16*((n:Int)/16%2)+(8*((n:Int)/8%2)+(4*((n:Int)/4%2)+(2*((n:Int)/2%2)+(1*((n:Int)/1%2)+0)))))))=(n:Int):='r'
 let#[n,J]:=Int.eq_ofNat_of_zero_le h0;erw[h n ()]
noncomputable def wV(s:Int):V->V
 | .int w=>.int (s/w%2)
 |_=>.non
def ya9{H:Hp}{p:qa}(h:H p\(d.map V.int))(hb:Sgs d)(hz:d.length<=1000):vgf K H (.ref p) (d.map V.int) 1000 :=
 #[p,J,h,zu d,by rw[bo];omega,by rw[yep hb,bo,bz ()];rfl]
def yoc(xs ys:Ο):xs.map V.int++ys.map V.int=(xs++ys).map V.int:='s'
def jd(ns:Ο):(dec ns).length=9*ns.length+1:=by rw[ypk,bq,Ë];rfl
noncomputable def ģ(f:qj Int->ql Slt)(k:Ο)(s:Slt):qj Int->ql Slt:=λj=>if j=k then some s else f j
noncomputable def yw8:HO->Bool
 | .ins _ _ _=>true
 | .dT _=>true
 |_=>false
noncomputable def kI(k:Ο):qj Key:=k.map Sum.inl
def yz4(k:Ο):(kI k).map kV=k.map V.int:=by unfold kI;rw[cn];rfl
def yc8{j k:Ο}(h:kI j=kI k):j=k:=by
 unfold kI at h
 induction j generalizing k with
 |nil =>
  cases k with
  |nil=>rfl
  |cons _ _=>cases h
 |cons x r ih =>
  cases k with
  |nil=>cases h
  |cons y s =>
   injection h with h1 h2;injection h1 with h1;rw[h1,ih h2]
def ypm(H:Hp)(d:qa):Prop:=∀kvs,H d=some (.dT kvs)->(kvs.map (·.1)).Nodup/\∀q∈kvs,∃k,q.1=kI k
def ypm.mv{H H':Hp}{d:qa}{kvs:qj (qj Key×V)}(h:ypm H d)(h1:H d=some (.dT kvs))(h2:H' d=some (.dT kvs)):ypm H' d:=λa e=>by
 rw[h2]at e;cases e;erw[h kvs h1]
def yn7{kvs:qj (qj Key×V)}{k:qj Key}(h:π kvs k=none):k∉kvs.map (·.1):=λm=>by
 let#[p,b,e]:=bw.mp m;let a:=η k kvs;rw[h]at a;erw[List.any_eq_false.mp a p b (bz e)]
def ypm.snoc{H':Hp}{d:qa}{kvs:qj (qj Key×V)}{k:Ο}{v:V}(h:(kvs.map (·.1)).Nodup/\∀q∈kvs,∃k,q.1=kI k)(hn:π kvs (kI k)=none)(h2:H' d=some (.dT (Ź kvs (kI k) v))):ypm H' d:=λa e=>by
 rw[h2,ì _ hn]at e;cases e;rwa[bA,#[List.nodup_append.mpr #[h.1,cP.mpr #[List.not_mem_nil,List.nodup_nil],λx b y c z=>?_],λq f=>?_]]
 .rw[z,bO.mp c]at b;erw[yn7 hn b]
 .rcases bQ.mp f with w|w
  .erw[h.2 q w]
  .rw[bO.mp w];erw[k,rfl]
structure û(a:Ads)(H:Hp)(p dx lk d:qa)(kd:Fin 3)(f:qj Int->ql Slt)(O:Μ)(m:Nat):Prop where
 me:H p∩a.Am dx (ydc (.ref lk) (.ref d))
 own:∀b,O b->∃o,H b=some o/\yw8 o=true
 np:¬O p
 dO:O d
 ky:ypm H d
 tb:∃(kvs:qj (qj Key×V))(loc:qj Int->qa×qa),H d=some (.dT kvs)/\kvs.length<=m/\(∀k,f k=none->π kvs (kI k)=none)/\
  (∀k s,f k=some s->π kvs (kI k)∣(loc k).1/\H (loc k).1=some (oS a (loc k).2 s)/\s.ok/\s.kind=kd/\O (loc k).1)/\(∀k j s t,f k=some s->f j=some t->(loc k).1=(loc j).1->k=j)
def ypr(O:Μ)(H H':Hp):Prop:=∀b o,H b=some o->¬O b->H' b=some o
end
section
mutual
variable{H H':Hp}{p dx lk d:qa}{kd:Fin 3}{f:qj Int->ql Slt}{O:Μ}{m:Nat}
def û.frame(h:û a H p dx lk d kd f O m){O2:Μ}(B:ypr O2 H H')(dj:∀b,O b->¬O2 b)(hp:¬O2 p):û a H' p dx lk d kd f O m:=by
 let#[c,g,e,r,w,t,v]:=h.tb;erw[B _ _ h.me hp,λb i=>?_,h.np,h.dO,h.ky.mv e (B _ _ e (dj _ h.dO)),c,g,B _ _ e (dj _ h.dO),r,w,λk s l=>?_,v]
 .let#[o,n,z]:=h.own b i;erw[o,B _ _ n (dj b i),z]
 .let#[u,y,x,q,j]:=t k s l;erw[u,B _ _ y (dj _ j),x,q,j]
def û.same(h:û a H p dx lk d kd f O m)(S:yu H H'):û a H' p dx lk d kd f O m:=h.frame (O2:=λZ=>False) (λb o e Z=>S b o e) (λZ Z z=>z) (λz=>z)
end
end
mutual
#synth ∀(o:qa->Slt->HO)(g:Slt->Prop),∀(p dx:qa)(s:Slt)(_:vs=[.ref p])(_:g s)(_:H p=some (o dx s))(_:∀q dq H',H q=none->H' q=some (o dq s)->yu H H'->Q (.ref q) H'),Ê
def ytv{p dx:qa}{s:Slt}{ta:TE}{σ:St}{H:Hp}{Q:VK}{E1 E2 E3:XK}(hta:∀Q':VK,Q' (.ref p) H->ta σ H Q')(hp:H p=some (oS a dx s))(h:∀q dq H',H q=none->H' q=some (oS a dq s)->yu H H'->Q (.ref q) H'):
  ypl (ş a.Aj "twin" (Ê (oS a) yw7) [] E1 ta yhh) (ypl (ş a.Ah "twin" (Ê (oS a) yxb) [] E2 ta yhh) (ş a.Aq "twin" (Ê (oS a) yw6) [] E3 ta yhh)) σ H Q:=by
 cases s with
 |ev n o=>erw[Ô (ŉ (hta _ #[p,dx,_,J,hp,yb7,p,dx,.ev n o,J,trivial,hp,h]))]
 |qk h0=>erw[j7 (Ô (ŉ (hta _ #[p,dx,_,J,hp,Ż,p,dx,.qk h0,J,trivial,hp,h])))]
 |rn l n=>erw[j7 (j7 (ŉ (hta _ #[p,dx,_,J,hp,yeg,p,dx,.rn l n,J,trivial,hp,h])))]
def ċ{H H1:Hp}{o o':HO}(nq:H q=none)(nd:H dq=none)(B:But q (upd (upd H dq o) q o') H1):yu H H1:=λb u e=>B b u (by rwa[yn (yb e nq),yn (yb e nd),e]) (yb e nq)
end
open MixI
mutual
structure yiz(a:Ads)(p dx l:qa)(ws:Ο)(H:Hp):Prop where
 o:H p∩a.Cg dx (vf9 (.ref l))
 l:H l\(ws.map V.int)
def yiz.same{p dx l:qa}{ws:Ο}{H H':Hp}(m:yiz a p dx l ws H)(S:yu H H'):yiz a p dx l ws H':=#[S _ _ m.o,S _ _ m.l]
def vbu{k:Nat}{cs:Ο}(h:COk k cs){c:Int}(hm:c∈cs):Ch c:=#[h.lo c hm,h.hi c hm]
def yrs{g:Int->Int->Int}{ws cs:Ο}(h:cs.length=ws.length):(List.range (ws.map V.int).length).map (λi=>V.int (g ((ws[i]?).getD 0) ((cs[i]?).getD 0)))=(List.zipWith g ws cs).map V.int:=by rw[bo,<- yj4 h,cn];rfl
def yf4{H:Hp}{xs ys:Τ}(h:H D\xs)(e:xs=ys):H D\ys:=e ▸ h
#synth ∀(K:xy)(a:Ads),∀(p dx l c:qa)(ws cs:Ο)(k:Nat)(_:vs=[.ref p,.ref c])(_:1<=k)(_:k<=6)(_:WOk k ws)(_:COk k cs)(_:yiz a p dx l ws H)(_:SqL K H c (cs.map V.int))(_:∀H',yu H H'->Q (.int (ym7 ws cs)) H'),yjt
#synth ∀(K:xy)(a:Ads)(C:qa),∀(p dx l c:qa)(ws cs:Ο)(k:Nat)(x:V)(n:String)(_:vs=[.ref p,.ref c,x])(_:1<=k)(_:k<=6)(_:WOk k ws)(_:COk k cs)(_:yiz a p dx l ws H)(_:SqL K H c (cs.map V.int))(_:xf K H x (.type n))(_:(∀b:Int,x=.int b->0<=b->b<=1->∀l' H',H l'=none->yiz a p dx l' (lrn ws cs b) H'->But p H H'->Q .non H'))(_:(ě x=false->E (.ref C) none H)),yjb
#synth ∀(a:Ads),∀(p dx l:qa)(ws:Ο)(_:vs=[.ref p])(_:yiz a p dx l ws H)(_:∀r H',H r=none->H' r\(ws.map V.int)->yu H H'->Q (.ref r) H'),ys9
#synth ∀(a:Ads),∀(p dx:qa)(k:Nat)(_:vs=[.ref p,.int k])(_:1<=k)(_:k<=6)(_:H p∩a.Cg dx [])(_:∀l H',H l=none->yiz a p dx l (List.replicate k 1099511627776) H'->But p H H'->Q .non H'),yol
def yfj:V->Bool
 | .str s=>inV (.str s) [V.str "even",V.str "quick",V.str "run"]
 |_=>false
noncomputable def plV:V->Bool
 | .int i=>decide (1<=i) && decide (i<=8)
 |_=>false
noncomputable def ltV:V->V->Bool
 | .int i,.int j=>decide (i<j)
 |_,_=>false
def vih(xs:Τ):Bool:=(List.zipWith ltV xs xs.tail).all id
def zg(xs:Τ):Bool:=decide (xs.length<=4) && xs.all plV && vih xs
def PlB(K:xy)(H:Hp)(x:V)(b:Bool):Prop:=(∃n,xf K H x (.type n)/\n≠"tuple"/\b=false)\/∃t xs,x=.ref t/\H t∪xs/\xs.length<=1000/\(∀y∈xs,∃n:String,xf K H y (.type n))/\b=zg xs
def LkB(K:xy)(H:Hp)(x:V)(b:Bool):Prop:=(∃n,xf K H x (.type n)/\n≠"tuple"/\b=false) \/
 ∃t xs,x=.ref t/\H t∪xs/\((xs.length≠2/\b=false)\/∃y z n,xs=[y,z]/\xf K H y (.type n)/\((yfj y=false/\b=false)\/(yfj y=true/\PlB K H z b)))
def PlB.same{H H':Hp}{x:V}{b:Bool}(h:PlB K H x b)(S:yu H H'):PlB K H' x b:=by
 rcases h with⟨n,t,j,e⟩|⟨t,f,e,g,c,d,i⟩
 .erw[.inl #[n,jh S t,j,e]]
 .erw[.inr #[t,f,e,S _ _ g,c,λy a=>let ⟨n,z⟩:=d y a;#[n,jh S z],i]]
theorem LkB.same{H H':Hp}{x:V}{b:Bool}(h:LkB K H x b)(S:yu H H'):LkB K H' x b:=by
 rcases h with⟨n,t,j,e⟩|⟨t,d,e,f,h⟩
 .erw[.inl #[n,jh S t,j,e]]
 .erw[.inr #[t,d,e,S _ _ f,?_]];rcases h with h|⟨y,z,n,i,g,h⟩
  .erw[.inl h]
  .erw[.inr #[y,z,n,i,jh S g,?_]];rcases h with h|⟨c,a⟩
   .erw[.inl h]
   .erw[.inr #[c,a.same S]]
def ġ{H:Hp}{x:V}{n:String}(ty:xf K H x (.type n)):W.kitOne K (.type n) (.type "tuple")=some (decide (n="tuple")):=by cases ty<;>rfl
def yf7{H:Hp}{x:V}{n:String}(ty:xf K H x (.type n)):W.kitOne K (.type n) (.type "str")=some (decide (n="str")):=by cases ty<;>rfl
def ygl{H:Hp}{x:V}{n:String}(ty:xf K H x (.type n)):W.kitOne K (.type n) (.type "list")=some (decide (n="list")):=by cases ty<;>rfl
def yuv{xs:Τ}{y:V}(h:xs.tail[i]?=some y):xs[i+1]?=some y:=by
 cases xs with
 |nil=>simp at h
 |cons x r=>simpa using h
def yjy(xs:Τ):(List.range xs.tail.length).map (λi=>V.bl (ltV ((xs[i]?).getD .non) ((xs.tail[i]?).getD .non)))=(List.zipWith ltV xs xs.tail).map V.bl:=by
 apply List.ext_getElem
 .rw[bo,b9,bo,List.length_zipWith,List.length_tail];omega
 .intro i a c;rw[bo,b9]at a;have b:i<xs.length:=by rw[List.length_tail]at a;omega
  rw[cL,List.getElem_range,cL,List.getElem_zipWith,bp a,bp b];rfl
def yk7{t u:qa}{xs:Τ}{te:TE}{fr:St}{R:Hp->Prop}{H1:Hp}(hint:∀y∈xs,∃i:Int,y=.int i)(hl:xs.length<=1000)(ht:SqT K H1 t xs)(hu:SqT K H1 u xs.tail)(hD:H1 D=none)
  (hte:∀(i j:Int)(σ':St)(H':Hp)(Q':VK),Q' (.bl (decide (i<j))) H'->te (some (.int i)::some (.int j)::σ') H' Q') (hR:∀H,yu H1 H->H D\((List.zipWith ltV xs xs.tail).map V.bl)->R H):
  ß (vgc K t u) (yw9 K 2 (Ò (xw 0) (Ò (xw 1) ypn))) te 2 fr D R H1:=by
 erw[ydy (m:=xs.tail.length) (λi=>V.bl (ltV ((xs[i]?).getD .non) ((xs.tail[i]?).getD .non))) ht hu (by rw[List.length_tail];omega) (bx _) (.inr (bx _)) hD (λi x y h l s z q p k a g f=>?_) (λh k a=>?_)]
 .let#[w,v,J]:=ymh f;let#[c,J]:=hint x (bM q);let#[d,J]:=hint y (bM (yuv p));let n:=k.trans (yz (o:=HO.tup [V.int c,V.int d]) g);let e:=zr (o':=HO.tup [V.int c,V.int d]) g a;have b:upd h l (HO.tup [V.int c,V.int d]) l∪[V.int c,V.int d]:=ya;generalize upd h l (HO.tup [V.int c,V.int d])=r at n e b;erw[yhe (SqT.of b) J ?_];show Ò (xw 0) (Ò (xw 1) ypn) [V.int c,V.int d] (w::v::fr) r _;ext;erw[#[[some (.int c),some (.int d)],J,J],?_,<-hte c d fr r _ ?_,<-Mp.doneR hD (vv (by rw[List.length_tail];omega)) z n e ?_];rw[q,p];rfl
 .erw[hR h k (by rwa[<- yjy,a])]
def ytf(xs:Τ):ydg xs (some 1) none=xs.tail:=by
 unfold ydg
 have e:HT.sIx xs.length 0 (some 1)=min 1 xs.length:=by
  have:=HT.sIx_nat xs.length 0 1;simpa using this
 rw[HT.sIx_none,e]
 cases xs with
 |nil=>rfl
 |cons x r=>simp
def yos{n:Nat}(bs:qj Bool)(h:n=bs.length):(List.range n).map (λi=>V.bl ((bs[i]?).getD false))=bs.map V.bl:=by
 subst h;apply List.ext_getElem
 .rw[bo,b9,bo]
 .intro i a b;rw[bo,b9]at a;rw[cL,List.getElem_range,cL,bp a];rfl
def ydj(K:xy)(H:Hp)(xs:Τ)(bs:qj Bool):Prop:=xs.length=bs.length/\∀(i:Nat)(y:V)(b:Bool),xs[i]?=some y->bs[i]?=some b->LkB K H y b
theorem ydj.same{H H':Hp}{xs:Τ}{bs:qj Bool}(h:ydj K H xs bs)(S:yu H H'):ydj K H' xs bs:=#[h.1,λi y b a c=>(h.2 i y b a c).same S]
def LkG(H:Hp)(v:V)(kd:Fin 3)(tp:qa)(ps:Ο):Prop:=∃lk,v=.ref lk/\H lk∪[.str (kdS kd),.ref tp]/\H tp∪(ps.map V.int)/\zg (ps.map V.int)=true
def LkG.same{H H':Hp}{v:V}{kd:Fin 3}{tp:qa}{ps:Ο}(h:LkG H v kd tp ps)(S:yu H H'):LkG H' v kd tp ps:=by let#[b,e,a,c,d]:=h;erw[b,e,S _ _ a,S _ _ c,d]
def zx{xs:Τ}(h:zg xs=true):xs.length<=4:=by unfold zg at h;rw[bU,bU]at h;erw[of_decide_eq_true h.1.1]
theorem yqu:∀{ps:Ο},ps.Pairwise (· < ·)->vih (ps.map V.int)=true
 |[],_=>rfl
 |[_],_=>rfl
 |p::q::r,h=>by
  have b:p<q:=(List.pairwise_cons.mp h).1 q 's';let a:=yqu (List.pairwise_cons.mp h).2;unfold vih at a⊢;simp only[cb,List.tail_cons,List.zipWith_cons_cons,List.all_cons]at a⊢;rw[show ltV (V.int p) (V.int q)=true from bz b];simpa using a
def ykm{ps:Ο}(h1:ps.length<=4)(h2:∀p∈ps,1<=p/\p<=8)(h3:ps.Pairwise (· < ·)):zg (ps.map V.int)=true:=by unfold zg;rw[bo,bz h1,yqu h3,Bool.true_and,Bool.and_true,List.all_eq_true];intro y b;let#[i,a,J]:=bw.mp b;have:=h2 i a;show (decide (1<=i) && decide (i<=8))=true;rw[bz this.1,bz this.2];rfl
def Lks(H:Hp)(xs:Τ):Prop:=∀y∈xs,∃kd tp ps,LkG H y kd tp ps
theorem LkG.upd{H:Hp}{v:V}{kd:Fin 3}{tp l:qa}{ps:Ο}{xs ys:Τ}(h:LkG H v kd tp ps)(hl:H l\xs):LkG (L2.upd H l (.lst ys)) v kd tp ps:=by let#[c,e,a,b,d]:=h;erw[c,e,yg (uc a hl 'z') a,yg (uc b hl 'z') b,d]
def ywg(kd:Fin 3):yfj (.str (kdS kd))=true:=by
 match kd with
 |0=>rfl
 |1=>rfl
 |2=>rfl
def LkG.tells{H:Hp}{v:V}{kd:Fin 3}{tp:qa}{ps:Ο}(h:LkG H v kd tp ps):LkB K H v true:=by let#[b,e,f,c,a]:=h;have:=zx a;erw[.inr #[b,_,e,f,.inr #[_,_,"str",J,.str _,.inr #[ywg kd,.inr #[tp,_,J,c,(),λy d=>?_,a.symm]]]]];let#[i,_,J]:=bw.mp d;erw[_,.int i]
def Lks.bs{H:Hp}{xs:Τ}(h:Lks H xs):ydj K H xs (List.replicate xs.length true):=by
 exists by rw[cV],λi y b c a=>?_
 have d:b=true:=List.eq_of_mem_replicate (bM a);let#[g,f,e,z]:=h y (bM c);rwa[d,z.tells]
def ybf(n:Nat):(List.replicate n true).all id=true:='s'
def ys5(K:xy)(H:Hp)(x:V):Prop:=(∃n,xf K H x (.type n)/\n≠"list")\/∃l xs bs,x=.ref l/\H l\xs/\xs.length<=1000/\ydj K H xs bs/\¬(1<=xs.length/\xs.length<=6/\bs.all id=true)
theorem ys5.same{H H':Hp}{x:V}(h:ys5 K H x)(S:yu H H'):ys5 K H' x:=by
 rcases h with⟨n,g,i⟩|⟨l,c,f,e,a,j,d,b⟩
 .erw[.inl #[n,jh S g,i]]
 .erw[.inr #[l,c,f,e,S _ _ a,j,d.same S,b]]
def ydj.append{H:Hp}{xs ys:Τ}{bs cs:qj Bool}(h1:ydj K H xs bs)(h2:ydj K H ys cs):ydj K H (xs++ys) (bs++cs):=by
 exists by rw[bq,bq,h1.1,h2.1],λi y b c a=>?_
 rcases Nat.lt_or_ge i xs.length with q|q
 .rw[c8 q]at c;rw[c8 (by rwa[<- h1.1,q])]at a;erw[h1.2 i y b c a]
 .rw[cB q]at c;rw[cB (by rwa[<- h1.1,q]),<- h1.1]at a;erw[h2.2 _ y b c a]
def ydj.one{H:Hp}{v:V}{b:Bool}(h:LkB K H v b):ydj K H [v] [b]:=by
 erw[J,λi y d a c=>?_]
 cases i with
 |zero =>
  cases a;cases c;erw[h]
 |succ j=>simp at a
noncomputable def upN{α:Type}(g:Nat->α)(n:Nat)(x:α):Nat->α:=λj=>if j=n then x else g j
def xv{α:Type}{g:Nat->α}{n:Nat}{x:α}:upN g n x n=x:=if_pos J
def xp{α:Type}{g:Nat->α}{n:Nat}{x:α}(h:j<n):upN g n x j=g j:=if_neg ()
def yt1(c:Int):∃kk:Fin 3,atI [V.str "even",V.str "quick",V.str "run"] (c%3)=some (V.str (kdS kk)):=by
 have b:0<=c%3:=cK _ ∅;have a:c%3<3:=cA _ ∅;generalize c%3=z at b a;obtain rfl|rfl|rfl:z=0\/z=1\/z=2:=()
 .erw[0,J]
 .erw[1,J]
 .erw[2,J]
def uk(H:Hp)(n:Nat)(lk:Λ)(kd:Ν)(tp:Λ)(ps:Κ):Prop:=∀i,i<n->LkG H (.ref (lk i)) (kd i) (tp i) (ps i)
theorem uk.same{H H':Hp}{n:Nat}{lk:Λ}{kd:Ν}{ps:Κ}(h:uk H n lk kd tp ps)(S:yu H H'):uk H' n lk kd tp ps:=λi a=>(h i a).same S
structure Sd(K:xy)(H:Hp)(v:V)(d:PyData)(k:Nat):Prop where
 rd:RdV K H v d
 lay:d.canLay0=true
 dep:d.depth<=k
 eq:PyData.eqv d d=true
structure Sds(K:xy)(H:Hp)(xs:Τ)(ds:qj PyData)(k:Nat):Prop where
 rd:ys8 K H xs ds
 lay:PyData.canLayAll0 ds=true
 dep:PyData.depthAll ds<=k
 eq:PyData.eqvAll ds ds=true
end
local macro_rules | `(#synth $n:ident $a $b)=>`(theorem $n : yk $a $a (ye $b):=wg (by decide +kernel)) | `(#synth $n:ident $a $b $c)=>`(theorem $n : yk $a $b (ye $c):=wg (by decide +kernel))
mutual
#synth vid ["thing"] vi8
#synth ∀(K:xy),∀(x n:_)(_:vs=[x])(_:xf K H x (.type n))(_:Q (.bl (Ù x)) H),yd3
variable(T:Txt K mg a)
def ymz:'v' 1 a.Ut a.V4 ["thing"] (yd3 K):=by
 exists T.Jf.F.ok,vid,g;let#[x,n,J,b,k]:=h;exists 1,0,yc (yp (jr (pcB xq T.A7 (pac (pv 0) (pa1 (Ó (T:="int") J T.J9 'r')))) (Õ (vbj (pcB xq T.A7 (pac (pv 0) (pa1 (Ó (T:="bool") J T.Us 'r'))))))));erw[ŏ b (ywc b) ?_];ext
 cases hx:yp8 x with
 |false =>
  have e:Ù x=false:=by
   cases x<;>first|rfl|cases hx
  rw[e]at k;erw[j9 k]
 |true =>
  have e:Ù x=!yla x:=by
   cases x<;>first|rfl|cases hx
  rw[e]at k;erw[Ĥ ?_,←ŏ b (ypd b) ?_,←k]
#synth vg6 ["thing"] vi1
#synth ∀(K:xy),∀(x n:_)(_:vs=[x])(_:xf K H x (.type n))(_:Q (.bl (ě x)) H),yjc
def vgx:'v' 2 a.Uu a.V5 ["thing"] (yjc K):=by
 exists T.Ve.F.ok,vg6,g;let#[x,n,J,j,k]:=h;exists 1,0,yc (yp (jr (ut (ymz T) g.m T.Jf (pav 0)) (Õ (ð ι ι yd (pv 0) yd))));erw[x,n,J,j,?_];ext
 cases hx:Ù x with
 |false =>
  have e:ě x=false:=by
   cases x<;>first|rfl|cases hx
  rw[e]at k;erw[j9 k]
 |true =>
  let#[i,J]:=jz hx;erw[Ĥ ?_,←za (λc=>?_) (λc=>?_)]
  .ext;have e:ě (.int i)=decide (i<=1):=by simp[ě,c]
   rw[e]at k;erw[k]
  .have e:ě (.int i)=false:=by simp[ě,c]
   rw[e]at k;erw[k]
#synth vhx ["thing"] vjf
#synth ∀(K:xy),∀(x n:_)(_:vs=[x])(_:xf K H x (.type n))(_:Q (.bl (chV x)) H),ybw
def vhw:'v' 2 a.Uv a.V6 ["thing"] (ybw K):=by
 exists T.Vf.F.ok,vhx,g;let#[x,n,J,j,k]:=h;exists 1,0,yc (yp (jr (ut (ymz T) g.m T.Jf (pav 0)) (Õ (ð ι ι (vw J T.E9) (pv 0) (yo jg (vw J T.Dc) (vw J T.E9))))));erw[x,n,J,j,?_];ext
 cases hx:Ù x with
 |false =>
  have e:chV x=false:=by
   cases x<;>first|rfl|cases hx
  rw[e]at k;erw[j9 k]
 |true =>
  let#[i,J]:=jz hx;erw[Ĥ ?_,←za (λc=>?_) (λc=>?_)]
  .ext;have e:chV (.int i)=decide (i<=16777216-32768):=by simp[chV,c]
   rw[e]at k;erw[k]
  .have e:chV (.int i)=false:=by simp[chV,c]
   rw[e]at k;erw[k]
#synth vhy ["thing"] vi0
#synth ∀(K:xy),∀(x n:_)(_:vs=[x])(_:xf K H x (.type n))(_:Q (.bl (sgV x)) H),yhp
def vha:'v' 2 a.Uw a.V7 ["thing"] (yhp K):=by
 exists T.Vg.F.ok,vhy,g;let#[x,n,J,j,k]:=h;exists 1,0,yc (yp (jr (ut (ymz T) g.m T.Jf (pav 0)) (Õ (ð ι ι yd (pv 0) yd))));erw[x,n,J,j,?_];ext
 cases hx:Ù x with
 |false =>
  have e:sgV x=false:=by
   cases x<;>first|rfl|cases hx
  rw[e]at k;erw[j9 k]
 |true =>
  let#[i,J]:=jz hx;erw[Ĥ ?_,←za (λc=>?_) (λc=>?_)]
  .ext;have e:sgV (.int i)=decide (i<=255):=by simp[sgV,c]
   rw[e]at k;erw[k]
  .have e:sgV (.int i)=false:=by simp[sgV,c]
   rw[e]at k;erw[k]
#synth vhn ["thing","most"] vjr
#synth ∀(K:xy),∀(x n m:_)(_:vs=[x,.int m])(_:xf K H x (.type n))(_:((Bad K H x n m/\∀H',yu H H'->Q (.bl false) H')\/∃xs,vgf K H x xs m/\∀H',yu H H'->Q (.bl true) H')),yym
def ywn:'v' 3 a.Ux a.V8 ["thing","most"] (yym K):=by
 exists T.O4.F.ok,vhn,W;let#[x,n,m,J,I,h]:=h
 have G:(n≠"list"/\∀d,yu H d->Q (.bl false) d)\/∃p xs,x=.ref p/\H p\xs/\Typed K H xs/\xs.length<=100000/\∀d,yu H d->Q (.bl (decide ((xs.length:Int)<=m) && xs.all sgV)) d:=by
  rcases h with⟨h|⟨p,xs,e,c,t,l,u⟩,k⟩|⟨xs,⟨p,e,c,t,l,u⟩,k⟩
  .erw[.inl #[h,k]]
  .erw[.inr #[p,xs,e,c,t,l,λd S=>by rwa[u,k d S]]]
  .erw[.inr #[p,xs,e,c,t,l,λd S=>by rwa[u,k d S]]]
 exists 2,0,yc (yp (jr (pcB xq T.A7 (pac (pv 0) (pa1 (Ó (T:="list") J T.At 'r')))) (jr (ud ι (pcB yq T.Af (pav 0)) (pv 1) (ve _)) (Õ (pcB (ζ J) T.En (pa1 (wx (js:=[]) (ys:=[]) J (xr (pv 0)) (λC Z H2 Y=>(ut (vha T) W.m T.Vg (pav 0))) J J (hyc:=yv) (hrel:=yv))))))));erw[ŏ I (yvs I) ?_];ext;rcases G with⟨ς,k⟩|⟨p,xs,rfl,c,X,l,k⟩
 .erw[yir ς ?_];ext;erw[k _ (yu.refl _)]
 .have ς:n="list":=by
   cases I with
   |lst e=>rfl
   |frz e=>rfl
   |tup e=>rw[c]at e;cases e
   |dK e=>rw[c]at e;cases e
   |dT e=>rw[c]at e;cases e
  erw[ydf ς ?_,←ur (SqL.of c) ?_,←za (λL=>?_) (λL=>?_)]
  .rw[bz L,Bool.true_and]at k;ext;erw[p,J,#[_,SqL.of c],λD v=>?_];have nD:p≠D:=yb c v;refine j4 (K:=K) (a:=p) (xs:=xs) (λi g=>g D\(((xs.take i).map sgV).map V.bl)/\yu H g)
    #[ya,yz v] (λi g F q=>SqL.of (q.2 _ _ c)) ?_ ?_
   .rintro i y g N r ⟨f,j⟩;ext;let#[O,M]:=X y (bM N);erw[y,O,J,jh j M,?_];refine xu f (by rwa[bo,bo,bT,yoz ()]) r #[ya.trans ?_,λb o e=>yg (λz=>?_) (j _ _ e)]
    .rw[List.take_succ,N];simp
    .subst z;rw[v]at e;cases e
   .rintro g ⟨f,j⟩;ext;erw[D,_,J,SqL.of f,?_];rwa[cE (bx _),List.all_map,k _ j]
  .rw[bD L,Bool.false_and]at k;ext;erw[k _ (yu.refl _)]
#synth vh3 ["thing"] vi7
def yws:'e' 4 a.Uy a.V9 ["thing"] (Š K a.Ar 1000):=by
 exists T.O5.F.okE,vh3,o;let#[x,n,J,t,h]:=h;exists 1,0,yh (vq (ue (xm (ut (ywn T) o.m T.O4 (pac (pv 0) (pa1 (vw J T.Dd)))))) (yc (xg J T.Im T.W5 (pa1 yr))) yy) (yc (yp (pcT wk T.At (pav 0))));erw[x,n,_,J,t,?_];rcases h with⟨q,k⟩|⟨e,f,k⟩
 .erw[.inl #[q,λl c=>?_]];ext;exists 'l',k _ c
 .erw[.inr #[e,f,λl c=>?_]];let#[p,J,i,_]:=f;ext;erw[p,e,J,.inl (SqL.of (c _ _ i)),λr b=>?_,<-k r _ (c.free b) ya (c.trans (yz b))]
#synth vgy ["thing"] vjn
def vgw:'e' 4 a.Uz a.Va ["thing"] (Š K a.Bf 12000):=by
 exists T.Vh.F.okE,vgy,o;let#[x,n,J,t,h]:=h;exists 1,0,yh (vq (ue (xm (ut (ywn T) o.m T.O4 (pac (pv 0) (pa1 (vw J T.De)))))) (yc (xg J T.Vp T.W6 (pa1 yr))) yy) (yc (yp (pcT wk T.At (pav 0))));erw[x,n,_,J,t,?_];rcases h with⟨q,k⟩|⟨e,f,k⟩
 .erw[.inl #[q,λl c=>?_]];ext;exists 'l',k _ c
 .erw[.inr #[e,f,λl c=>?_]];let#[p,J,i,_]:=f;ext;erw[p,e,J,.inl (SqL.of (c _ _ i)),λr b=>?_,<-k r _ (c.free b) ya (c.trans (yz b))]
#synth vhh ["thing"] vje
noncomputable def ym8:V->Bool
 | .int i=>decide (0<=i) && decide (i<=1000)
 |_=>false
def yxq{m:Nat}(h:m<=1000):ym8 (.int m)=true:=by show (decide ((0:Int)<=m) && decide ((m:Int)<=1000))=true;rw[bz (),bz ()];rfl
#synth ∀(K:xy)(C:qa),∀(x n:_)(_:vs=[x])(_:xf K H x (.type n))(_:(ym8 x=true->Q .non H))(_:(ym8 x=false->E (.ref C) none H)),yn8
def vg1:'e' 2 a.V0 a.Vb ["thing"] (yn8 K a.Ac):=by
 exists T.Vi.F.okE,vhh,l;let#[x,n,J,o,g,b]:=h;exists 1,0,yc (vq (PW.pt (Ę (ue (xm (ut (ymz T) l.m T.Jf (pav 0)))) (Đ (ue (ya4 ι ι yd (pv 0) (vw J T.Dd)))))) (yc (xg J T.D4 T.Nl (pa1 yr))) yy);erw[x,n,J,o,?_];ext
 cases hx:Ù x with
 |false =>
  have e:ym8 x=false:=by
   cases x<;>first|rfl|cases hx
  ext;exists 'l',b e
 |true =>
  let#[i,J]:=jz hx;ext;erw[za (λf=>?_) (λf=>?_)]
  .ext;refine yxa (λc=>?_) (λc=>?_)
   .ext;erw[g (by simp[ym8,f,c])]
   .ext;exists 'l',b (by simp[ym8,c])
  .ext;exists 'l',b (by simp[ym8,f])
#synth vg3 ["thing"] vi9
#synth ∀(K:xy)(C:qa),∀(x n:_)(_:vs=[x])(_:xf K H x (.type n))(_:(chV x=true->Q .non H))(_:(chV x=false->E (.ref C) none H)),Ĭ
def ywv:'e' 3 a.V1 a.Vc ["thing"] (Ĭ K a.Bg):=by
 exists T.O6.F.okE,vg3,g;let#[x,n,J,i,c,e]:=h;exists 1,0,yc (vq (ue (xm (ut (vhw T) g.m T.Vf (pav 0)))) (yc (xg J T.Vq T.W7 (pa1 yr))) yy);erw[x,n,J,i,?_];ext
 cases hx:chV x with
 |false =>
  ext;exists 'l',e hx
 |true =>
  ext;erw[c hx]
#synth yy4 ["thing"] veo
#synth ∀(K:xy)(C:qa),∀(x n:_)(_:vs=[x])(_:xf K H x (.type n))(_:(ě x=true->Q .non H))(_:(ě x=false->E (.ref C) none H)),yb8
def ŋ:'e' 3 a.Ob a.Qp ["thing"] (yb8 K a.Au):=by
 exists T.Du.F.okE,yy4,g;let#[x,n,J,i,c,e]:=h;exists 1,0,yc (vq (ue (xm (ut (vgx T) g.m T.Ve (pav 0)))) (yc (xg J T.Vr T.W8 (pa1 yr))) yy);erw[x,n,J,i,?_];ext
 cases hx:ě x with
 |false =>
  ext;exists 'l',e hx
 |true =>
  ext;erw[c hx]
#synth yxi ["chance","bit"] vd3
#synth ∀(K:xy)(C D:qa),∀(x n y m:_)(_:vs=[x,y])(_:xf K H x (.type n))(_:xf K H y (.type m))(_:(chV x=false->E (.ref C) none H))(_:(chV x=true->ě y=false->E (.ref D) none H))(_:(∀c b,x=.int c->y=.int b->chV x=true->ě y=true->Q (.int (gvv c b)) H)),ynf
def yy8:'e' 4 a.Oc a.Qq ["chance","bit"] (ynf K a.Bg a.Au):=by
 exists T.Tv.F.okE,yxi,i;let#[x,n,y,m,J,r,t,j,o,q]:=h;exists 2,0,yh (yw (uz (ywv T) i.m T.O6 vd (pav 0))) (yh (yw (uz (ŋ T) i.m T.Du vd (pav 1))) (yc (yp (Í (yt xj (pv 1) yd (ve _)) (pv 0) (yo jg (vw J T.Dc) (pv 0))))));erw[x,n,J,r,λf=>?_,j,←y,m,J,t,λg=>?_,o f];let#[c,J,B,u]:=yen f;let#[b,J,v,z]:=yfz g;ext;let k:=q c b J J f g;unfold gvv at k;erw[za (λe=>?_) (λe=>?_)]
 .rw[if_pos e]at k;ext;erw[k]
 .rw[if_neg e]at k;ext;erw[k]
#synth vce ["self"] veb
def yps:'v' 1 a.Jt a.Qr ["self"] (ya8 a.Aj (j8 (.int 0) (.int 0))):=by exists T.Lm.F.ok,vce,g;let#[p,e,J,f,k]:=h;exists 1,0,yh (vj (pv 0) yd J) (yc (vj (pv 0) yd J));erw[k _ ya (But.upd.trans But.upd)]
#synth vaf ["self"] ve0
def yze:'v' 1 a.Od a.Qt ["self"] (zv (oS a) yw7):=by
 exists T.Ln.F.ok,vaf,m;let#[p,d,g,J,e,j,c,k]:=h
 cases g with
 |ev n o =>
  let#[q,l,r]:=j;have c:H p∩a.Aj d (j8 (.int n) (.int o)):=c;exists 1,0,yc (yp (yo vk (yo xk (yo wl (yo xk yd pfs) yd) (vw J T.Dc)) (yo wl (yo xk yd (yo wl pfs pfs)) yd)));erw[k]
 |qk _=>erw[e.elim]
 |rn _ _=>erw[e.elim]
#synth vbw ["self","bit"] vcp
def yzr:'e' 4 a.Oe a.Qu ["self","bit"] (Ì K (oS a) yw7 a.Au):=by
 exists T.Lo.F.okE,vbw,y;let#[p,i,l,x,r,J,f,B,g,z,j,D]:=h
 cases l with
 |ev n o =>
  let#[I,G,ς]:=B;have g:H p∩a.Aj i (j8 (.int n) (.int o)):=g;exists 2,0,yh (yw (uz (ŋ T) y.m T.Du vd (pav 1))) (yh (vq (yt xj (pv 1) yd (ve _)) (yc (vj (pv 0) (yo wl pfs yd) J)) (yc (vj (pv 0) (yo wl pfs yd) J))) (yc (vq (yt yfi (yo wl pfs pfs) (vw J T.C9) (ve _)) (yh (vj (pv 0) (yo vk (yo wl pfs yd) yd) J) (yc (vj (pv 0) (yo vk (yo wl pfs yd) yd) J))) yy)));erw[x,r,J,z,λC=>?_,D];let#[b,J,u,q]:=yhg C;let k:=j b J u q;unfold Slt.see at k;dsimp only at k;ext;erw[za (λd=>?_) (λd=>?_)]
  .rw[if_pos d]at k;unfold yfh at k;ext;refine za (λc=>?_) (λc=>?_)
   .rw[if_pos c]at k;ext;erw[k _ ya ((But.upd.trans But.upd).trans But.upd)]
   .rw[if_neg c]at k;ext;erw[k _ ya But.upd]
  .rw[if_neg d]at k;unfold yfh at k;ext;refine za (λc=>?_) (λc=>?_)
   .rw[if_pos c]at k;ext;erw[k _ ya ((But.upd.trans But.upd).trans But.upd)]
   .rw[if_neg c]at k;ext;erw[k _ ya But.upd]
 |qk _=>erw[f.elim]
 |rn _ _=>erw[f.elim]
#synth yp2 ["self","made"] ["self"] vfc
def yy0:'v' 3 a.Of a.Qv ["self"] (Ê (oS a) yw7):=by
 exists T.Lp.F.ok,yp2,C;let#[p,t,s,J,v,d,k]:=h
 cases s with
 |qk _=>erw[v.elim]
 |rn _ _=>erw[v.elim]
 |ev n o =>
 have d:H p∩a.Aj t (j8 (.int n) (.int o)):=d;exists 1,1,yh (pst 1 yp2.nd (jo T.Na (yps T) C.m J T.N9 T.Lm.B .nil vo)) (yh (vj (pv 1) pfs J) (yh (vj (pv 1) pfs J) (yc (yp (pv 1)))));intro q j c i ς;erw[q,j,J,ya,λI y D=>#[J,?_]];let r:=ċ c i D;let f:=r _ _ d;have l:p≠q:=yb d c;ext;let G:=yg (o':=HO.ins a.Aj j (j8 (.int n) (.int 0))) l f;ext;erw[k q j _ c ya λb u e=>yg (yb e c) (yg (yb e c) (r _ _ e))]
#synth yxu ["self"] vfu
def yqj:'v' 1 a.Ju a.Qw ["self"] (ya8 a.Ah (jf (.int 8388608))):=by exists T.Lq.F.ok,yxu,g;let#[p,e,J,f,k]:=h;exists 1,0,yc (vj (pv 0) (yo vk (vw J T.Dc) yd) J);erw[k _ ya But.upd]
#synth vaw ["self"] vdj
def yyq:'v' 1 a.Og a.Qx ["self"] (zv (oS a) yxb):=by
 exists T.Lr.F.ok,vaw,j;let#[p,d,g,J,e,l,c,k]:=h
 cases g with
 |qk h0 =>
  have c:H p∩a.Ah d (jf (.int h0)):=c;exists 1,0,yc (yp pfs);erw[k]
 |ev _ _=>erw[e.elim]
 |rn _ _=>erw[e.elim]
#synth ymi ["self","bit","moved"] ["self","bit"] ver
def vbm:'e' 4 a.Oh a.Qy ["self","bit"] (Ì K (oS a) yxb a.Au):=by
 exists T.Ls.F.okE,ymi,u;let#[p,g,j,x,o,J,e,y,f,v,i,B]:=h
 cases j with
 |qk h0 =>
  let#[D,C]:=y;have f:H p∩a.Ah g (jf (.int h0)):=f;exists 2,1,yh (yw (uz (ŋ T) u.m T.Du vd (pav 1))) (yh (vq (yt xj (pv 1) yd (ve _)) (yc (pst 2 ymi.nd (yo wl pfs (yo vk (yo jg (vw J T.Dc) pfs) yd)))) (yc (pst 2 ymi.nd (yo jg pfs (yo vk pfs yd))))) (yc (vj (pv 0) (pcB (ĸ J) T.Nw (pac (pcB (ľ J) T.Ny (pac (pv 2) (pa1 (vw J T.E9)))) (pa1 (yo jg (vw J T.Dc) (vw J T.E9))))) J)));erw[x,o,J,v,λz=>?_,B];let#[b,J,r,l]:=yhg z;let k:=i b J r l;unfold Slt.see at k;dsimp only at k;ext;erw[za (λc=>?_) (λc=>?_)]
  .rw[if_pos c]at k;ext;erw[_,_,J,?_,←_,_,J,?_,←k _ ya But.upd]
  .rw[if_neg c]at k;ext;erw[_,_,J,?_,←_,_,J,?_,←k _ ya But.upd]
 |ev _ _=>erw[e.elim]
 |rn _ _=>erw[e.elim]
#synth yr6 ["self","made"] ["self"] vdz
def yzt:'v' 3 a.Oi a.Qz ["self"] (Ê (oS a) yxb):=by
 exists T.Lt.F.ok,yr6,x;let#[p,j,s,J,l,c,k]:=h
 cases s with
 |ev _ _=>erw[l.elim]
 |rn _ _=>erw[l.elim]
 |qk h0 =>
 have c:H p∩a.Ah j (jf (.int h0)):=c;exists 1,1,yh (pst 1 yr6.nd (jo T.Iz (yqj T) x.m J T.Iy T.Lq.B .nil vo)) (yh (vj (pv 1) pfs J) (yc (yp (pv 1))));intro q n f g C;erw[q,n,J,ya,λz r y=>#[J,?_]];let i:=ċ f g y;let t:=i _ _ c;ext;erw[k q n _ f ya λb u e=>yg (yb e f) (i _ _ e)]
#synth yyz ["self"] ve1
def yr1:'v' 1 a.Jv a.R0 ["self"] (ya8 a.Aq (Ď (.int 1) (.int 0))):=by exists T.Lu.F.ok,yyz,g;let#[p,e,J,f,k]:=h;exists 1,0,yh (vj (pv 0) yd J) (yc (vj (pv 0) yd J));erw[k _ ya (But.upd.trans But.upd)]
#synth ypy ["self","given"] ["self"] vcx
def vb7:'v' 1 a.Oj a.R1 ["self"] (zv (oS a) yw6):=by
 exists T.Lv.F.ok,ypy,r;let#[p,e,i,J,f,m,d,k]:=h
 cases i with
 |rn l n =>
  let#[t,o,u,q]:=m;have d:H p∩a.Aq e (Ď (.int l) (.int n)):=d;exists 1,1,yh (pst 1 ypy.nd (yo vk (yo xk (yo wl (yo xk yd pfs) yd) (vw J T.Dc)) (yo wl (yo xk yd pfs) yd))) (yc (yp (Í (yt xj pfs yd (ve _)) (pv 1) (yo jg (vw J T.Dc) (pv 1)))));have k:Q (.int (if l=1 then ē n else 16777216-ē n)) H:=k;erw[za (λc=>?_) (λc=>?_)]
  .rw[if_pos c]at k;ext;erw[k]
  .rw[if_neg c]at k;ext;erw[k]
 |ev _ _=>erw[f.elim]
 |qk _=>erw[f.elim]
#synth yxt ["self","bit"] ve7
def yx7:'e' 4 a.Ol a.R3 ["self","bit"] (Ì K (oS a) yw6 a.Au):=by
 exists T.Lx.F.okE,yxt,v;let#[p,g,j,x,q,J,e,z,f,y,i,C]:=h
 cases j with
 |rn l n =>
  let#[I,D,ς,G]:=z;have f:H p∩a.Aq g (Ď (.int l) (.int n)):=f;exists 2,0,yh (yw (uz (ŋ T) v.m T.Du vd (pav 1))) (yc (vq (yt xj (pv 1) pfs (ve _)) (yc (vj (pv 0) (pcB (ĸ J) T.Nw (pac (yo wl pfs yd) (pa1 (vw J T.C9)))) J)) (yh (vj (pv 0) (pv 1) J) (yc (vj (pv 0) yd J)))));erw[x,q,J,y,λB=>?_,C];let#[b,J,t,o]:=yhg B;let k:=i b J t o;unfold Slt.see at k;dsimp only at k;ext;erw[za (λc=>?_) (λc=>?_)]
  .rw[if_pos c]at k;ext;erw[_,_,J,?_,←k _ ya But.upd]
  .rw[if_neg c]at k;ext;erw[k _ ya (But.upd.trans But.upd)]
 |ev _ _=>erw[e.elim]
 |qk _=>erw[e.elim]
#synth yq6 ["self","made"] ["self"] vcm
def yys:'v' 3 a.Om a.R4 ["self"] (Ê (oS a) yw6):=by
 exists T.Ly.F.ok,yq6,C;let#[p,t,s,J,v,d,k]:=h
 cases s with
 |ev _ _=>erw[v.elim]
 |qk _=>erw[v.elim]
 |rn l n =>
 have d:H p∩a.Aq t (Ď (.int l) (.int n)):=d;exists 1,1,yh (pst 1 yq6.nd (jo T.Uo (yr1 T) C.m J T.Um T.Lu.B .nil vo)) (yh (vj (pv 1) pfs J) (yh (vj (pv 1) pfs J) (yc (yp (pv 1)))));intro q j c i ς;erw[q,j,J,ya,λI y D=>#[J,?_]];let r:=ċ c i D;let f:=r _ _ d;have o:p≠q:=yb d c;ext;let G:=yg (o':=HO.ins a.Aq j (Ď (.int l) (.int 0))) o f;ext;erw[k q j _ c ya λb u e=>yg (yb e c) (yg (yb e c) (r _ _ e))]
#synth vb9 ["kind"] vf8
#synth ∀(a:Ads),∀(k:Fin 3)(_:vs=[.str (kdS k)])(_:∀p dx H',H p=none->H' p=some (oS a dx (kd0 k))->yu H H'->Q (.ref p) H'),yhr
def va9:'v' 3 a.On a.R5 ["kind"] (yhr a):=by
 exists T.Tw.F.ok,vb9,l;let#[t,J,k]:=h;exists 1,0,yh (vq (yt xj (pv 0) yr (ve _)) (yc (yp (jo T.Na (yps T) l.m J T.N9 T.Lm.B .nil vo))) yy) (yh (vq (yt xj (pv 0) yr (ve _)) (yc (yp (jo T.Iz (yqj T) l.m J T.Iy T.Lq.B .nil vo))) yy) (yh (vq (yt xj (pv 0) yr (ve _)) (yc (yp (jo T.Uo (yr1 T) l.m J T.Um T.Lu.B .nil vo))) yy) (yc yax)));erw[J,?_]
 match t with
 |0 =>
  erw[_,J,ydf J ?_];ext;intro p g f d q;erw[p,g,J,ya,λi c j=>#[J,?_],<-k p g i f c λb o e=>j b o (by rwa[yn (yb e f),yn (yb e d),e]) (yb e f)]
 |1 =>
  erw[_,J,yir (by intro z;injection z with z;revert z;decide+kernel) ?_,←J,?_,<-_,J,ydf J ?_];ext;intro p g f d q;erw[p,g,J,ya,λi c j=>#[J,?_],<-k p g i f c λb o e=>j b o (by rwa[yn (yb e f),yn (yb e d),e]) (yb e f)]
 |2 =>
  erw[_,J,yir (by intro z;injection z with z;revert z;decide+kernel) ?_,←J,?_,<-_,J,yir (by intro z;injection z with z;revert z;decide+kernel) ?_,←J,?_,<-_,J,ydf J ?_];ext;intro p g f d q;erw[p,g,J,ya,λi c j=>#[J,?_],<-k p g i f c λb o e=>j b o (by rwa[yn (yb e f),yn (yb e d),e]) (yb e f)]
#synth vae ["thing"] vfx
#synth ∀(K:xy),∀(x n:_)(_:vs=[x])(_:xf K H x (.type n))(_:Q (.bl (yfj x)) H),yhq
def va3:'v' 1 a.Oo a.R6 ["thing"] (yhq K):=by
 exists T.Tx.F.ok,vae,g;let#[x,n,J,b,k]:=h;exists 1,0,yc (yp (jr (pcB xq T.A7 (pac (pv 0) (pa1 (Ó (T:="str") J T.Up 'r')))) (Õ (ud ycu (pv 0) (vt J T.Gp) (by with_unfolding_all rfl)))));erw[ŏ b (yf7 b) ?_];ext;by_cases hn:n="str"
 .obtain⟨s',rfl⟩:∃s',x=.str s':=by
   cases b with
   |str s'=>erw[s',rfl]
   |_=>erw[absurd hn ∅]
  rwa[bz hn,Ĥ ?_];ext;erw[a.Bn,_,J,.inr (T.w_KINDS H),J,J,k]
 .have e:yfj x=false:=by
   cases b with
   |str s'=>erw[absurd J hn]
   |_=>rfl
  rw[bD hn];rw[e]at k;erw[j9 k]
#synth vac ["thing"] vdd
#synth ∀(K:xy),∀(x n:_)(_:vs=[x])(_:xf K H x (.type n))(_:Q (.bl (plV x)) H),ydu
def yxk:'v' 2 a.Op a.R7 ["thing"] (ydu K):=by
 exists T.Ty.F.ok,vac,g;let#[x,n,J,j,k]:=h;exists 1,0,yc (yp (jr (ut (ymz T) g.m T.Jf (pav 0)) (Õ (ð ι ι yd (pv 0) (vw J T.Iv)))));erw[x,n,J,j,?_];ext
 cases hx:Ù x with
 |false =>
  have e:plV x=false:=by
   cases x<;>first|rfl|cases hx
  rw[e]at k;erw[j9 k]
 |true =>
  let#[i,J]:=jz hx;erw[Ĥ ?_,←za (λc=>?_) (λc=>?_)]
  .ext;have e:plV (.int i)=decide (i<=8):=by simp[plV,c]
   rw[e]at k;erw[k]
  .have e:plV (.int i)=false:=by simp[plV,c]
   rw[e]at k;erw[k]
#synth yxx ["thing"] vdh
#synth ∀(K:xy),∀(x b:_)(_:vs=[x])(_:PlB K H x b)(_:∀H',yu H H'->Q (.bl b) H'),ž
def yyn:'v' 3 a.Oq a.R8 ["thing"] (ž K):=by
 exists T.Tz.F.ok,yxx,hr;let#[x,b,J,Y,k]:=h;erw[_,(yh (vq (PW.pt (Ę (ue (xm (pcB xq T.A7 (pac (pv 0) (pa1 (Ó (T:="tuple") J T.Db 'r')))))) (Ę (yt yfi (pcB yq T.Af (pav 0)) (vw J T.Fi) (ve _)) (Đ (ue (xm (pcB (ζ J) T.En (pa1 (wx (js:=[]) (ys:=[]) J (ygu (pv 0)) (λC W I S=>(ut (yxk T) hr.m T.Ty (pav 0))) J J (hyc:=yv) (hrel:=yv)))))))))) (yc (yp χ)) yy) (yc (yp (pcB (ζ J) T.En (pa1 (yfq (js:=[]) (ys:=[]) (xs:=["near","far"]) (g:=yw9 K 2 (Ò (xw 0) (Ò (xw 1) ypn))) J (ywe J T.Nz (pac (pv 0) (pa1 (uh (yzi.or yv7) (pv 0) (ux yd) zf)))) (λC W I S=>(ud ybu (pv 0) (pv 1) (ve _))) J (λC W I S=>yhb J (jq (xb (i:=0) (show List.Nodup ((["near","far"]:Ρ)++([]:Ρ)) by right) J (Or.inl J)) (jq (xb (i:=1) (show List.Nodup ((["near","far"]:Ρ)++([]:Ρ)) by right) J (Or.inl J)) ybn))) J (hyc:=yv) (hrel:=yv))))))),?_];exists 1,0;rcases Y with⟨n,X,hn,rfl⟩|⟨t,xs,rfl,G,hl,hy,rfl⟩
 .ext;erw[ŏ X (ġ X) ?_,←yww hn ?_,←k _ (yu.refl _)]
 .ext;erw[ŏ (.tup G) (ġ (.tup G)) ?_,←ywx J ?_,←yrr (SqT.of G) ?_];ext;unfold zg at k;refine za (λh4=>?_) (λh4=>?_)
  .rw[bD (),Bool.false_and,Bool.false_and]at k;ext;erw[k _ (yu.refl _)]
  .rw[bz (),Bool.true_and]at k;ext;erw[t,J,#[_,SqT.of G],λD U=>?_];refine yko (xs:=xs) (λv=>.bl (plV v)) (SqT.of G) U (λi y I ς q f=>?_) (λI q f=>?_)
   .let#[n,R]:=hy y (bM ς);ext;erw[y,n,J,jh q R,?_,<-Mp.done U (vv ()) ς q f J]
   have e:xs.map (λv=>V.bl (plV v))=(xs.map plV).map V.bl:=by rw[cn];rfl
   rw[e]at f;ext;erw[D,_,J,SqL.of f,?_];rw[List.all_map];have ea:xs.all (id ∘ plV)=xs.all plV:=rfl;rw[ea];let c:=q _ _ G
   cases hp:xs.all plV with
   |false =>
    rw[hp,Bool.false_and]at k;ext;erw[k _ q]
   |true =>
    rw[hp,Bool.true_and]at k
    have l:∀y∈xs,∃i:Int,y=.int i:=λy hm=>by
     have:=List.all_eq_true.mp hp y hm
     cases y with
     |int i=>erw[i,rfl]
     |_=>cases this
    ext;by_cases hx0:xs=[]
    .refine .inr #[t,xs,J,SqT.of c,?_,?_]
     .subst hx0;erw[J,rfl]
     .erw[t,t,J,#[_,_,SqT.of c,SqT.of c],λN d=>?_];refine yk7 (xs:=xs) l () (SqT.of c) (by subst hx0;erw[SqT.of c]) d (λi j σ' H' Q' h=>?_) (λZ O B=>?_)
      .ext;erw[h]
      .ext;erw[N,_,J,SqL.of B,k _ (q.trans O)]
    .refine .inl #[t,xs,J,SqT.of c,?_,λu hu=>?_]
     .rintro ⟨z,_⟩
      have e1:HT.sIx xs.length 0 (some 1)=min 1 xs.length:=by
       have:=HT.sIx_nat xs.length 0 1;simpa using this
      rw[e1]at z
      cases xs with
      |nil=>erw[hx0 J]
      |cons x r=>simp at z
     .rw[ytf];let L:=yz (o:=(HO.tup xs.tail)) hu;have p:upd I u (HO.tup xs.tail) u=some (HO.tup xs.tail):=ya;generalize upd I u (HO.tup xs.tail)=H3 at L p⊢;erw[t,u,J,#[_,_,SqT.of (L _ _ c),SqT.of p],λN d=>?_];refine yk7 (xs:=xs) l () (SqT.of (L _ _ c)) (SqT.of p) d (λi j σ' H' Q' h=>?_) (λZ O B=>?_)
      .ext;erw[h]
      .ext;erw[N,_,J,SqL.of B,k _ (q.trans (L.trans O))]
#synth var ["thing"] ve8
#synth ∀(K:xy),∀(x b:_)(_:vs=[x])(_:LkB K H x b)(_:∀H',yu H H'->Q (.bl b) H'),yhj
def ypv:'v' 4 a.Os a.R9 ["thing"] (yhj K):=by
 exists T.Lz.F.ok,var,i;let#[x,b,J,d,k]:=h;erw[_,(yc (yp (jr (pcB xq T.A7 (pac (pv 0) (pa1 (Ó (T:="tuple") J T.Db 'r')))) (jr (ud xj (pcB yq T.Af (pav 0)) yd (ve _)) (jr (ut (va3 T) i.m T.Tx (pa1 (pix Å (pv 0) yd))) (Õ (ut (yyn T) i.m T.Tz (pa1 (pix Å (pv 0) yd))))))))),?_];exists 1,0;rcases d with⟨n,e,r,rfl⟩|⟨t,q,rfl,c,d⟩
 .ext;erw[ŏ e (ġ e) ?_];ext;rwa[bD r,j9 (k _ (yu.refl _))]
 .ext;erw[ŏ (.tup c) (ġ (.tup c)) ?_,←ydf J ?_,←yrr (SqT.of c) ?_];ext;rcases d with⟨u,rfl⟩|⟨y,z,n,rfl,e,d⟩
  .rw[bD (show ¬((q.length:Int)=2) by omega)];erw[j9 (k _ (yu.refl _))]
  .erw[ydf J ?_];ext;erw[ybs (SqT.of c) (wt (j:=0) J) ?_,←y,n,J,e,?_];rcases d with⟨f,rfl⟩|⟨f,o⟩
   .rw[f];ext;erw[k _ (yu.refl _)]
   .rw[f];ext;erw[ybs (SqT.of c) (wt (j:=1) J) ?_,←z,b,J,o,k]
#synth vao ["thing"] vdb
def Ń(K:xy)(C:qa):Sp:=λvs H Q E=>(∃x n,vs=[x]/\xf K H x (.type n)/\n≠"list"/\E (.ref C) none H) \/
 ∃(l:qa)(xs:Τ)(bs:qj Bool),vs=[.ref l]/\H l\xs/\xs.length<=1000/\ydj K H xs bs/\
  ((1<=xs.length/\xs.length<=6/\bs.all id=true)->∀r H',H r=none->H' r\xs->yu H H'->Q (.ref r) H')/\
  (¬(1<=xs.length/\xs.length<=6/\bs.all id=true)->∀H',yu H H'->E (.ref C) none H')
def yqe:'e' 5 a.Ot a.Ra ["thing"] (Ń K a.Az):=by
 erw[T.M0.F.okE vao (λR H Q E h=>?_) (λW A t s H R Q E I h=>?_)]
 .rcases h with⟨x,n,rfl,_⟩|⟨l,xs,f,rfl,_⟩
  .rfl
  .rfl
 .rcases h with⟨x,n,rfl,ς,X,k⟩|⟨l,xs,e,rfl,d,hz,u,N,B⟩
  .erw[_,(yh (vq (PW.pt (Ę (ue (xm (pcB xq T.A7 (pac (pv 0) (pa1 (Ó (T:="list") J T.At 'r')))))) (Ę (ue (ya4 ι ι yd (pcB yq T.Af (pav 0)) (vw J T.Dh))) (Đ (ue (xm (pcB (ζ J) T.En (pa1 (wx (js:=[]) (ys:=[]) J (xr (pv 0)) (λC S v O=>(ut (ypv T) I.m T.Lz (pav 0))) J J (hyc:=yv) (hrel:=yv)))))))))) (yc (xg J T.Nk T.Vt (pa1 yr))) yy) (yc (yp (pcT wk T.At (pav 0))))),?_];erw[ym (σ':=[some _]) J ?_,←ŏ ς (ygl ς) ?_,←yww X ?_];ext;exists 'l',k
  .erw[_,(yh (vq (PW.pt (Ę (ue (xm (pcB xq T.A7 (pac (pv 0) (pa1 (Ó (T:="list") J T.At 'r')))))) (Ę (ue (ya4 ι ι yd (pcB yq T.Af (pav 0)) (vw J T.Dh))) (Đ (ue (xm (pcB (ζ J) T.En (pa1 (wx (js:=[]) (ys:=[]) J (xr (pv 0)) (λC S v O=>(ut (ypv T) I.m T.Lz (pav 0))) J J (hyc:=yv) (hrel:=yv)))))))))) (yc (xg J T.Nk T.Vt (pa1 yr))) yy) (yc (yp (pcT wk T.At (pav 0))))),?_];erw[ym (σ':=[some _]) J ?_,←ŏ (.lst d) (ygl (.lst d)) ?_,←ywx J ?_,←ur (SqL.of d) ?_];ext;refine za (λU=>?_) (λU=>?_)
   .ext;refine yxa (λY=>?_) (λY=>?_)
    .ext;erw[l,J,#[_,SqL.of d],λD G=>?_];refine j4 (K:=K) (xs:=xs) (Mp H D (λi=>V.bl ((e[i]?).getD false))) (Mp.zero G) (λZ Z Z p=>p.1.seq (SqL.of d)) (λi y v o L p=>?_) (λv p=>?_)
     .let#[c,b]:=p;have g:i<e.length:=by rw[<- u.1];exact L
      ext;erw[y,e[i],J,(u.2 i y _ o (bp g)).same c,λZ M=>?_,<-Mp.doneR G (vv ()) L (c.trans M) (M _ _ b) ?_];rw[bp g];rfl
     let#[c,b]:=p;rw[yos e u.1]at b;ext;erw[D,_,J,SqL.of b,?_];let q:=c _ _ d
     cases hp:e.all id with
     |false =>
      ext;exists 'l',B (by rw[hp];rintro ⟨_,_,z⟩;cases z) _ c
     |true =>
      ext;erw[ya0 (SqL.of q) λr j=>?_,<-N #[(),(),hp] r _ (c.free j) ya (c.trans (yz j))]
    .ext;exists 'l',B () _ (yu.refl _)
   .ext;exists 'l',B () _ (yu.refl _)
def vhu{C l:qa}{xs:Τ}{H:Hp}{Q:VK}{E:XK}(hl:H l\xs)(h1:1<=xs.length)(h6:xs.length<=6)(h:Lks H xs)(k:∀r H',H r=none->H' r\xs->yu H H'->Q (.ref r) H'):Ń K C [.ref l] H Q E :=
 .inr #[l,xs,List.replicate xs.length true,J,hl,(),h.bs,λZ=>k,λa=>absurd #[h1,h6,ybf _] a]
def vcc{C:qa}{x:V}{H:Hp}{Q:VK}{E:XK}(h:ys5 K H x)(k:∀H',yu H H'->E (.ref C) none H'):Ń K C [x] H Q E:=by
 rcases h with⟨b,g,i⟩|⟨l,e,f,rfl,c,j,a,d⟩
 .erw[.inl #[x,b,J,g,i,k _ (yu.refl _)]]
 .erw[.inr #[l,e,f,J,c,j,a,λz=>absurd z d,λZ H' S=>k _ S]]
#synth va4 ["signs","place"] ve6
#synth ∀(K:xy),∀(l:qa)(sg:Ο)(p:Int)(_:vs=[.ref l,.int p])(_:SqL K H l (sg.map V.int))(_:1<=p)(_:Q (.int (ys6 sg p)) H),ype
def va2:'v' 1 a.Ou a.Rb ["signs","place"] (ype K):=by
 exists T.U0.F.ok,va4,n;let#[l,m,p,J,e,i,k]:=h;exists 2,0,yc (yp (Í (yt ι (pv 1) (pcB yq T.Af (pav 0)) (ve _)) (pix wq (pv 0) (ym2 yc3 (pv 1))) (vw J T.Jr)));erw[ur e ?_];rw[bo];ext;unfold ys6 at k;erw[za (λb=>?_) (λb=>?_)]
 .rw[if_pos b]at k;let#[c,f,_]:=ypc i b;rw[f]at k;ext;erw[zq e (by rw[yuz,f];rfl) k]
 .rw[if_neg b]at k;ext;erw[k]
#synth vau ["look","signs","node"] vfo
def j5(K:xy)(H:Hp)(k:qa)(x:V)(ps:Ο):Prop:=∃t,SqT K H k [x,.ref t]/\SqT K H t (ps.map V.int)/\(∀p∈ps,1<=p/\p<=8)/\ps.length<=4
def j5.same{H H':Hp}{k:qa}{x:V}{ps:Ο}(S:yu H H')(h:j5 K H k x ps):j5 K H' k x ps:=by let#[t,a,b,d,c]:=h;erw[t,S.tup a,S.tup b,d,c]
def ctx(ps sg:Ο)(nd:Int):Ο:=ps.map (ys6 sg)++[nd]
def bkV(sg:Ο):V->V
 | .int p=>.int (ys6 sg p)
 |_=>.non
def yv0(sg ps:Ο):(ps.map V.int).map (bkV sg)=(ps.map (ys6 sg)).map V.int:=by rw[cn,cn];rfl
#synth ∀(K:xy),∀(k l:qa)(x:V)(ps sg:Ο)(nd:Int)(_:vs=[.ref k,.ref l,.int nd])(_:j5 K H k x ps)(_:SqL K H l (sg.map V.int))(_:∀r H',H r=none->H' r∪((ctx ps sg nd).map V.int)->yu H H'->Q (.ref r) H'),yhk
def vcf:'v' 2 a.Ov a.Rc ["look","signs","node"] (yhk K):=by
 exists T.U8.F.ok,vau,U;let#[W,l,x,g,q,L,J,#[t,M,z,v,ς],R,k]:=h;exists 3,0,yc (yp (pcT δ T.Db (pa1 (yo zt (wx (js:=[1]) (ys:=["signs"]) J (ygu (pix Å (pv 0) yd)) (λC Y I X=>(ut (va2 T) U.m T.U0 (pac (pv 1) (pav 0)))) J J (hyc:=(all_cons J yv)) (hrel:=(all_cons J yv))) (vn (pav 2))))));erw[ybs M (wt (j:=1) J) ?_,<-t,J,#[_,z],λD B=>?_];have f:(g.map V.int).length<sizeLine:=vv (by rw[bo];omega);erw[ũ (xs:=g.map V.int) (bkV q) z B (λi y I G e b=>?_) (λI e b=>?_)]
 .let#[p,J,u,_,_]:=õ G;ext;erw[l,q,p,J,e.seq R,(v p u).1,?_,<-Mp.done B f G e b J]
 .rw[yv0]at b;ext;exists 'l',λn hn=>?_
  exists hn,H3,S3,hn3;erw[D,n,_,_,J,J,S3 _ _ b,hn3,w9 (by rw[bo,bo];show _+1<=_;omega),λc hc=>?_];exists hc,H4,S4,hc4;erw[c,_,J,.inl #[SqL.of hc4,λr d=>?_]];let S:=e.trans (S3.trans S4);erw[k r _ (S.free d) (ya.trans ?_) (S.trans (yz d))];unfold ctx;rw[bA];rfl
#synth yzd ["self","look"] vf2
#synth ∀(a:Ads),∀(p dx lk:qa)(kd:Fin 3)(_:vs=[.ref p,.ref lk])(_:H p∩a.Am dx [])(_:∀d H',H d=none->û a H' p dx lk d kd (λZ=>none) (λb=>b=d) 0->But p H H'->Q .non H'),yi3
def yqv:'v' 1 a.Jw a.Re ["self","look"] (yi3 a):=by
 exists T.M4.F.ok,yzd,D;let#[p,j,i,B,J,v,k]:=h;exists 2,0,yh (vj (pv 0) (pv 1) J) (yc (vj (pv 0) ya6 J));intro d l
 have g:H d=none:=by
  cases e:H d with
  |none=>rfl
  |some o =>
   by_cases z:d=p
   .rw[z,ya]at l;cases l
   .rw[yn z,e]at l;cases l
 have f:d≠p:=λz=>by rw[z,v]at g;cases g
 let q:=zr (o':=HO.dT []) l (show upd H p (HO.ins a.Am j ([("look",V.ref i)]:Ι)) p=some (HO.ins a.Am j ([("look",V.ref i)]:Ι))from ya);have c:upd (upd H p (HO.ins a.Am j ([("look",V.ref i)]:Ι))) d (.dT []) d=some (.dT []):=ya;have r:But p H (upd (upd H p (HO.ins a.Am j ([("look",V.ref i)]:Ι))) d (.dT [])):=λb o e n=>by rwa[yn (yb e g),yn n,e]
 generalize upd (upd H p (HO.ins a.Am j ([("look",V.ref i)]:Ι))) d (.dT [])=C at q c r⊢;ext
 erw[k d _ g #[ya,λb y=>#[HO.dT [],by cases y;erw[yg f c],J],λz=>f z.symm,J,λu e=>(by cases (yg f c).symm.trans e;erw[List.nodup_nil,λZ z=>(nomatch z)]),[],λZ=>(0,0),yg f c,bx _,λZ Z=>rfl,λZ Z z=>(nomatch z),λZ Z Z Z z=>(nomatch z)] (r.trans But.upd)]
#synth ysn ["self","signs","node","context"] ["self","signs","node"] vfd
#synth ∀(K:xy)(a:Ads),∀(p dx lk d sl:qa)(kd:Fin 3)(f:qj Int->ql Slt)(O:Μ)(m:Nat)(ps sg:Ο)(nd:Int)(_:vs=[.ref p,.ref sl,.int nd])(_:û a H p dx lk d kd f O m)(_:m<1000000)(_:j5 K H lk (.str (kdS kd)) ps)(_:SqL K H sl (sg.map V.int))(_:∀(q:qa)(O':Μ)(H':Hp),û a H' p dx lk d kd (ģ f (ctx ps sg nd) ((f (ctx ps sg nd)).getD (kd0 kd))) O' (m+1)->(∀kvs,H' d=some (.dT kvs)->π kvs (kI (ctx ps sg nd))∣q)->(∀c,O' c->O c\/H c=none)->(∀c,O c->O' c)->ypr O H H'->Q (.ref q) H'),yi2
end
set_option tactic.hygienic true in
mutual
def yyc:'v' 4 a.Ow a.Rf ["self","signs","node"] (yi2 K a):=by
 exists T.M5.F.ok,ysn,Z;let#[p,dx,lk,d,sl,B,f,O,m,ps,sg,W,J,hb,hm,hl,hs,k]:=h;let ab:=hb.me;exists 3,1,yh (pst 3 ysn.nd (ut (vcf T) Z.m T.U8 (pac pfs (pac (pv 1) (pav 2))))) (yh (zn (vq (ymo (ycs (ő Z) (pv 3) pfs)) (yc (ybe (ő Z) pfs (pv 3) (ut (va9 T) Z.m T.Tw (pa1 (pix Å pfs yd))) J)) yy)) (yc (yp (yba (ő Z) pfs (pv 3) (λF F=>rfl)))));erw[lk,sl,_,ps,sg,W,J,hl,hs,λr H1 ac a8 S1=>?_];have i:H1 r∪((kI (ctx ps sg W)).map kV):=by rwa[yz4,a8]
 generalize ctx ps sg W=b at i k;let g:=hb.same S1;let x:=g.me;ext;erw[ø (λσ' H'=>σ'=[some (.ref p),some (.ref sl),some (.int W),some (.ref r)]/\∃X,û a H' p dx lk d B (ģ f b ((f b).getD (kd0 B))) X (m+1)/\(∀c,X c->O c\/H c=none)/\(∀c,O c->X c)/\ypr O H H'/\H' r∪((kI b).map kV)) ?_ ?_]
 .let#[G,l,D,h2,S,M,h5]:=g.tb;ext;exists d,_,J,Ÿ.t D i,?_
  cases hf:f b with
  |none =>
   rw[S b hf];ext;erw[Ĥ ?_];ext;let#[t,a7,ad,_,_]:=hl;erw[ybs (S1.tup a7) (wt (j:=0) J) ?_,←B,J,λq dq H2 n a0 I=>?_];ext;let L:=I _ _ x;ext;erw[d,_,J,ym4.t (I _ _ D) (I _ _ i) (vv ()),?_];let a3:=S1.trans I;have U:q≠d:=λz=>by rw[z,D]at n;cases n
   have a2:p≠d:=λz=>g.np (z ▸ g.dO);ext;erw[J,λc=>O c\/c=q,#[yg a2 L,λc u=>?_,λz=>?_,.inl g.dO,ypm.snoc (g.ky G D) (S b hf) ya,Ź G (kI b) (.ref q),λj=>if j=b then (q,dq)else l j,ya,?_,λj ς=>?_,λj s' ς=>?_,λj1 j2 s1 s2 e1 Y v=>?_],λc u=>?_,λc u=>.inl u,λc o e no=>?_,yg (uc (I _ _ i) (I _ _ D) 'z') (I _ _ i)]
   .rcases u with u|rfl
    .let#[o,ho,hi]:=g.own c u;by_cases z:c=d
     .rw[z];exists _,ya,rfl
     .erw[o,yg z (I _ _ ho),hi]
    .let#[C,fs,eo]:=ó a dq (kd0 B);erw[_,yg U a0,by rw[eo];rfl]
   .rcases z with z|z
    .erw[g.np z]
    .rw[z]at x;rw[x]at n;cases n
   .rw[ì _ (S b hf),bq];show _+1<=m+1;omega
   .unfold ģ at ς
    split at ς
    .cases ς
    .rename_i hne
     rwa[É,if_neg λz=>hne (yc8 z),S j ς]
   .unfold ģ at ς
    split at ς
    .rename_i he
     subst he;cases ς;dsimp only;rwa[if_pos J,É,if_pos J,#[J,yg U a0,yrk B,yn1 B,.inr J]]
    .rename_i hne
     let#[R,y,q3,q4,q5]:=M j s' ς;dsimp only;rw[if_neg hne,É,if_neg λz=>hne (yc8 z)]
     have a6:(l j).1≠d:=by
      let#[C,fs,eo]:=ó a (l j).2 s';rw[eo]at y;erw[uc y D 'z']
     erw[R,yg a6 (I _ _ y),q3,q4,.inl q5]
   .unfold ģ at e1 Y;dsimp only at v;by_cases z1:j1=b
    .by_cases z2:j2=b
     .rw[z1,z2]
     .rw[if_neg z2]at Y;rw[if_pos z1,if_neg z2]at v;let#[_,y,_]:=M j2 s2 Y;have v:q=(l j2).1:=v;rw[<- v,n]at y;cases y
    .rw[if_neg z1]at e1;by_cases z2:j2=b
     .rw[if_neg z1,if_pos z2]at v;let#[_,y,_]:=M j1 s1 e1;have v:(l j1).1=q:=v;rw[v,n]at y;cases y
     .rw[if_neg z2]at Y;rw[if_neg z1,if_neg z2]at v;erw[h5 j1 j2 s1 s2 e1 Y v]
   .rcases u with u|rfl
    .erw[.inl u]
    .erw[.inr (S1.free n)]
   .erw[yg (λz=>no (z ▸ g.dO)) (a3 _ _ e)]
  |some s' =>
   let#[R,y,q3,q4,q5]:=M b s' hf;rw[R];ext;erw[J,O,?_,λc u=>.inl u,λc u=>u,λc o e F=>S1 _ _ e,i]
   have ef:ģ f b ((some s').getD (kd0 B))=f:=by
    funext j
    unfold ģ
    split
    .rename_i z
     rw[z,hf];rfl
    .rfl
   rwa[ef,#[g.me,g.own,g.np,g.dO,g.ky,G,l,D,Nat.le_succ_of_le h2,S,M,h5]]
 .rintro σ' H2 ⟨rfl,X,N,hO,hM,B2,a1⟩;let L:=N.me;let#[G,l,D,h2,S,M,h5]:=id N.tb;have a4:ģ f b ((f b).getD (kd0 B)) b=some ((f b).getD (kd0 B)):=by unfold ģ;rw[if_pos J]
  let#[R,y,q3,q4,q5]:=M b _ a4;ext;erw[d,_,J,by rwa[<- R,Ÿ.t D a1],?_]
  erw[k (l b).1 X H2 N (λa9 e=>by rw[D]at e;cases e;erw[R]) hO hM B2]
structure ys7(a:Ads)(H:Hp)(d:qa)(kd:Fin 3)(f:qj Int->ql Slt)(O:Μ)(m:Nat):Prop where
 own:∀b,O b->∃o,H b=some o/\yw8 o=true
 dO:O d
 ky:ypm H d
 tb:∃(kvs:qj (qj Key×V))(loc:qj Int->qa×qa),H d=some (.dT kvs)/\kvs.length<=m/\(∀k,f k=none->π kvs (kI k)=none)/\
  (∀k s,f k=some s->π kvs (kI k)∣(loc k).1/\H (loc k).1=some (oS a (loc k).2 s)/\s.ok/\s.kind=kd/\O (loc k).1)/\(∀k j s t,f k=some s->f j=some t->(loc k).1=(loc j).1->k=j)
def ys7.same{H H':Hp}{d:qa}{kd:Fin 3}{f:qj Int->ql Slt}{O:Μ}{m:Nat}(h:ys7 a H d kd f O m)(S:yu H H'):ys7 a H' d kd f O m:=by
 let#[c,g,e,l,r,n,q]:=h.tb;erw[λb t=>?_,h.dO,h.ky.mv e (S _ _ e),c,g,S _ _ e,l,r,λk s i=>?_,q]
 .let#[o,j,w]:=h.own b t;erw[o,S _ _ j,w]
 .let#[p,v,u]:=n k s i;erw[p,S _ _ v,u]
end
set_option tactic.hygienic true in
mutual
def ys7.put{H H2:Hp}{d:qa}{kd:Fin 3}{f:qj Int->ql Slt}{O:Μ}{m:Nat}{key:Ο}{s:Slt}(h:ys7 a H d kd f O m)(S:yu H H2)(nq:H q=none)(hq:H2 q=some (oS a dq s))(ok:s.ok)(hk:s.kind=kd)(hf:f key=none){kvs:qj (qj Key×V)}(hd:H2 d=some (.dT kvs)):
  ys7 a (upd H2 d (.dT (Ź kvs (kI key) (.ref q)))) d kd (ģ f key s) (λc=>O c\/c=q) (m+1):=by
 let#[F,g,t,R,A,w,ς]:=h.tb;let e:=S _ _ t;rw[hd]at e;cases e;have l:q≠d:=λz=>by rw[z,t]at nq;cases nq
 let v:=h.ky kvs t;erw[λc B=>?_,.inl h.dO,ypm.snoc v (A key hf) ya,Ź kvs (kI key) (.ref q),λj=>if j=key then (q,dq)else g j,ya,?_,λj i=>?_,λj D i=>?_,λr p G E u n b=>?_]
 .rcases B with B|rfl
  .let#[o,M,Q]:=h.own c B;by_cases z:c=d
   .rw[z];exists _,ya,rfl
   .erw[o,yg z (S _ _ M),Q]
  .let#[C,P,y]:=ó a dq s;erw[_,yg l hq,by rw[y];rfl]
 .rw[ì _ (A key hf),bq];show _+1<=m+1;omega
 .unfold ģ at i
  split at i
  .cases i
  .rename_i hne
   rwa[É,if_neg λz=>hne (yc8 z),A j i]
 .unfold ģ at i
  split at i
  .rename_i he
   subst he;cases i;dsimp only;rwa[if_pos J,É,if_pos J,#[J,yg l hq,ok,hk,.inr J]]
  .rename_i hne
   let#[I,k,K,N,L]:=w j D i;dsimp only;rw[if_neg hne,É,if_neg λz=>hne (yc8 z)]
   have x:(g j).1≠d:=by
    let#[C,P,y]:=ó a (g j).2 D;rw[y]at k;erw[uc k t 'z']
   erw[I,yg x (S _ _ k),K,N,.inl L]
 .unfold ģ at u n;dsimp only at b;by_cases z1:r=key
  .by_cases z2:p=key
   .rw[z1,z2]
   .rw[if_neg z2]at n;rw[if_pos z1,if_neg z2]at b;let#[_,k,_]:=w p E n;have b:q=(g p).1:=b;rw[<- b,nq]at k;cases k
  .rw[if_neg z1]at u;by_cases z2:p=key
   .rw[if_neg z1,if_pos z2]at b;let#[_,k,_]:=w r G u;have b:(g r).1=q:=b;rw[b,nq]at k;cases k
   .rw[if_neg z2]at n;rw[if_neg z1,if_neg z2]at b;erw[ς r p G E u n b]
def yne{kvs:qj (qj Key×V)}{k:qj Key}{v:V}(h:(kvs.map (·.1)).Nodup)(hm:(k,v)∈kvs):π kvs k=some v:=by
 induction kvs with
 |nil=>cases hm
 |cons p r ih =>
  rw[cb,cP]at h;rcases bH.mp hm with e|hm
  .subst e;erw[uj (p:=(k,v)) J]
  .have a:¬p.1=k:=λz=>h.1 (by rwa[z,bw.mpr #[_,hm,J]]);rwa[ug a,ih h.2 hm]
def ya1{kvs:qj (qj Key×V)}{k j:qj Key}{v:V}(h:kvs[i]?=some (k,v)):j∈(kvs.take (i+1)).map (·.1)↔(j=k\/j∈(kvs.take i).map (·.1)):=by rw[List.take_add_one,h,bA,bQ];show _\/j∈[k]↔_;rw[bO,or_comm]
def yvl{kvs:qj (qj Key×V)}{k:qj Key}{v:V}(hn:(kvs.map (·.1)).Nodup)(h:kvs[i]?=some (k,v)):k∉(kvs.take i).map (·.1):=λm=>by
 have a:i<kvs.length:=(bJ.mp h).1;rw[<- da i kvs,bA,List.nodup_append]at hn;erw[hn.2.2 _ m k ?_ J];rwa[cF a,cb,(bJ.mp h).2,cj]
#synth ycz ["self","slots","context","slot","made"] ["self"] vdm
#synth ∀(a:Ads),∀(p dx lk d:qa)(kd:Fin 3)(f:qj Int->ql Slt)(O:Μ)(m:Nat)(_:vs=[.ref p])(_:û a H p dx lk d kd f O m)(_:m<1000000)(_:∀q dq d' O' H',H q=none->û a H' q dq lk d' kd f O' m->(∀c,O' c->H c=none)->yu H H'->Q (.ref q) H'),yi9
def vcj:'v' 4 a.Ox a.Rg ["self"] (yi9 a):=by
 exists T.M6.F.ok,ycz,hr;let#[p,dx,lk,d,kd,f,O,m,J,hb,hm,k]:=h;let a5:=hb.me;let#[g,L,h1,h2,h3,h4,h5]:=hb.tb;let#[ab,ai]:=hb.ky g h1;erw[yi (pst 1 ycz.nd ya6) ?_,<-yi (yth (jt PassesOwn.never J (yn6 pfs) (yhb J (jq (xb (i:=2) ycz.nd J (Or.inl J)) (jq (xb (i:=3) ycz.nd J (Or.inl J)) ybn))) (yc (ybe (ő hr) (pv 1) (pv 2) (ò (vg (pv 3) T.B0 T.Lp.m (yy0 T) hr.m T.Lp.B .nil vo) (ò (vg (pv 3) T.Bi T.Lt.m (yzt T) hr.m T.Lt.B .nil vo) (vg (pv 3) T.Bp T.Ly.m (yys T) hr.m T.Ly.B .nil vo))) J)))) ?_,<-yi (pst 4 ycz.nd (à T.Nf (yqv T) hr.m J T.Nd T.M4.B .nil vo (pa1 pfs))) ?_,<-yi (vj (pv 4) (pv 1) J) ?_];exists 1,4,yc (yp (pv 4));intro e ge;let S1:=yz (o:=(HO.dT [])) ge;have X:upd H e (HO.dT []) e=some (HO.dT []):=ya;generalize upd H e (HO.dT [])=H1 at S1 X⊢;let an:=S1 _ _ a5;let aa:=S1 _ _ h1;have aq:p≠d:=λz=>hb.np (z ▸ hb.dO);have M:e≠d:=λz=>by rw[z,h1]at ge;cases ge
 ext;erw[d,g,J,aa,λob=>?_];have a6:upd H1 d (.frz ob (.dT g)) d=some (.frz ob (.dT g)):=ya;have BF:But d H1 (upd H1 d (.frz ob (.dT g))):=But.upd;generalize upd H1 d (.frz ob (.dT g))=HF at a6 BF⊢;refine yji (λi σ2 G=>∃(v2 v3:ql V)(Z:qj Int->ql Slt)(Y:Μ),σ2=[some (.ref p),some (.ref e),v2,v3,none]/\ys7 a G e kd Z Y i/\(∀j,(kI j∈(g.take i).map (·.1)->Z j=f j)/\(kI j∉(g.take i).map (·.1)->Z j=none))/\(∀c,Y c->H c=none)/\G d=some (.frz ob (.dT g))/\But d H G)
  #[none,none,λF=>none,λc=>c=e,J,#[λb x=>#[.dT [],by cases x;erw[BF _ _ X M],J],J,λl n=>(by cases (BF _ _ X M).symm.trans n;erw[List.nodup_nil,λF z=>(nomatch z)]),[],λF=>(0,0),BF _ _ X M,bR _,λF F=>rfl,λF F z=>(nomatch z),λF F F F z=>(nomatch z)],λj=>#[λz=>(by rw[List.take_zero]at z;cases z),λF=>rfl],λc z=>by cases z;erw[ge],a6,λb o n ne=>BF _ _ (S1 _ _ n) ne]
  (by rintro i σ2 G _ ⟨_,_,_,_,_,_,_,_,w,_⟩;erw[w]) ?_ ?_
 .rintro i ak v σ2 G t kt r ⟨v2,v3,Z,Y,rfl,gT,gf,gO,gd,gB⟩ gt ah;let#[I,a4]:=ai _ (bM r);have a4:ak=kI I:=a4;subst a4;let R:=yne ab (bM r)
  obtain⟨s',a8⟩:∃s',f I=some s':=by
   cases z:f I with
   |none=>rw[h3 I z]at R;cases R
   |some s'=>erw[s',rfl]
  let#[U,q2,q3,q4,q5]:=h4 I s' a8;rw[R]at U;injection U with U;subst U
  have af:(L I).1≠d:=by
   let#[C,fs,eo]:=ó a (L I).2 s';rw[eo]at q2;erw[uc q2 h1 'z']
  let T1:=yz (o:=(HO.tup [V.ref kt,V.ref (L I).1])) gt;have a9:upd G t (HO.tup [V.ref kt,V.ref (L I).1]) t=some (HO.tup [V.ref kt,V.ref (L I).1]):=ya;generalize upd G t (HO.tup [V.ref kt,V.ref (L I).1])=G1 at T1 a9⊢;erw[yhe (SqT.of a9) J ?_,←ytv (λQ' h=>ywy J h) (T1 _ _ (gB _ _ q2 af)) λq dq G2 ς a7 T2=>?_];let S2:=T1.trans T2;let#[l,D,S,w2,w3,w4,w5]:=id gT.tb;have a2:Z I=none:=(gf I).2 (yvl ab r);let ac:=S2 _ _ gd;ext;erw[e,_,J,ym4.t (S2 _ _ S) (S2 _ _ ah) (vv (by have:=(bJ.mp r).1;omega)),?_,←_,_,_,_,J,gT.put S2 (T1.free ς) a7 q3 q4 a2 (S2 _ _ S),λj=>?_,λc hc=>?_,yg M.symm ac,λb o n ne=>yg (yb n ge) (S2 _ _ (gB _ _ n ne))]
  .unfold ģ;by_cases z:j=I
   .rw[if_pos z,z];erw[λF=>a8.symm,λw=>absurd ((ya1 r).mpr (.inl J)) w]
   .rw[if_neg z];erw[λw=>(gf j).1 (((ya1 r).mp w).resolve_left λy=>z (yc8 y)),λw=>(gf j).2 λy=>w ((ya1 r).mpr (.inr y))]
  .rcases hc with hc|rfl
   .erw[gO c hc]
   .cases z:H c with
    |none=>rfl
    |some o =>
     by_cases y:c=d
     .rw[y]at ς;rw[T1 _ _ gd]at ς;cases ς
     .rw[T1 _ _ (gB _ _ z y)]at ς;cases ς
 .rintro σ2 G ⟨v2,v3,Z,Y,rfl,gT,gf,gO,gd,gB⟩
  have ae:Z=f:=by
   funext j
   let gj:=gf j;rw[cq]at gj;by_cases w:kI j∈g.map (·.1)
   .erw[gj.1 w]
   .rw[gj.2 w]
    cases z:f j with
    |none=>rfl
    |some s' =>
     let U:=(h4 j s' z).1;let a1:=η (kI j) g;rw[U]at a1;let#[pr,ag,n]:=c7.mp a1;erw[absurd (bw.mpr #[pr,ag,of_decide_eq_true n]) w]
  subst ae;erw[d,ob,.dT g,λo u z=>(by rw[aa]at z;cases z),gd,?_]
  have ST:yu H (upd G d (.dT g)):=λb o n=>by
   by_cases y:b=d
   .rw[y,ya];rw[y,h1]at n;erw[n]
   .rw[yn y];erw[gB _ _ n y]
  have a3:ys7 a (upd G d (.dT g)) e kd Z Y g.length:=by
   let#[l,D,S,w2,w3,w4,w5]:=gT.tb
   have nO:∀c,Y c->c≠d:=λc hc z=>by
    have:=gO c hc;rw[z,h1]at this;cases this
   erw[λb x=>?_,gT.dO,gT.ky.mv S (yg M S),l,D,yg M S,w2,w3,λk s hk=>?_,w5]
   .let#[o,ho,hi]:=gT.own b x;erw[o,yg (nO b x) ho,hi]
   .let#[U,q2,q3,q4,q5]:=w4 k s hk;erw[U,yg (nO _ q5) q2,q3,q4,q5]
  generalize upd G d (.dT g)=GT at ST a3⊢;let am:=ST _ _ a5;ext;intro q dq nq al ar;erw[q,dq,lk,kd,J,ya,λd2 G2 ao ad B2=>#[J,?_]];let S3:=ċ nq al B2;let a7:=ad.me;let N:=a3.same S3;ext
  have W:¬Y q:=λw=>by
   let#[o,ho,_]:=a3.own q w;rw[nq]at ho;cases ho
  let#[l,D,S,w2,w3,w4,w5]:=N.tb;have a0:e≠q:=λz=>W (z ▸ N.dO);erw[k q dq e Y _ (ST.free nq) #[ya,λb x=>?_,W,N.dO,N.ky.mv S (yg a0 S),l,D,yg a0 S,(),w3,λk s hk=>?_,w5] gO (λb o n=>yg (λz=>by rw[z]at n;rw[ST _ _ n]at nq;cases nq) (S3 _ _ (ST _ _ n)))]
  .let#[o,ho,hi]:=N.own b x;erw[o,yg (λz=>W (z ▸ x)) ho,hi]
  .let#[U,q2,q3,q4,q5]:=w4 k s hk;erw[U,yg (λz=>W (z ▸ q5)) q2,q3,q4,q5]
#synth yzj ["self","many"] vd4
def yse:'v' 1 a.Jx a.Rh ["self","many"] (yol a):=by
 exists T.M7.F.ok,yzj,q;let#[p,i,n,J,o,m,e,k]:=h;exists 2,0,yc (vj (pv 0) (yo ygs (vn (pa1 (vw J T.Eo))) (pv 1)) J);exists 'l',λr hr0=>?_
 exists hr0,H1,S1,e1;ext;erw[r,n,_,J,J,e1,(),(),w9 (by show 1*(n:Int).toNat<=16000000;omega),λl hl=>?_]
 rw[yki];exists hl,H2,S2,e2;let b:=S1.trans S2;let j:=b _ _ e;ext;have c:l≠p:=λz=>by rw[z,S1 _ _ e]at hl;cases hl
 erw[k l _ (S1.free hl) #[ya,yg c e2] ((But.of b).trans But.upd)]
#synth yz2 ["self","chances"] vee
def yzq:'v' 1 a.Oy a.Ri ["self","chances"] (yjt K a):=by
 exists T.M8.F.ok,yz2,hr;let#[p,dx,l,c,G,z,n,J,n1,n6,e,hc,#[hp,I],M,k]:=h;erw[_,(yc (yp (yo vk (pcB (ñ J) T.I2 (pa1 (yfq (js:=[]) (ys:=[]) (xs:=["weight","chance"]) (g:=yw9 K 2 (Ò (xw 0) (Ò (xw 1) ypn))) J (yss J T.Nz (pac pfs (pav 1))) (λC Y r U=>(yo xk (pv 0) (pv 1))) J (λC Y r U=>yhb J (jq (xb (i:=0) (show List.Nodup ((["weight","chance"]:Ρ)++([]:Ρ)) by right) J (Or.inl J)) (jq (xb (i:=1) (show List.Nodup ((["weight","chance"]:Ρ)++([]:Ρ)) by right) J (Or.inl J)) ybn))) J (hyc:=yv) (hrel:=yv)))) (pcB (ñ J) T.I2 (pa1 pfs))))),?_];exists 2,0;have d:z.length=G.length:=by rw[e.len,hc.len]
 ext;erw[l,c,J,#[_,_,SqL.of I,M],λD L=>?_,<-ū (λi=>V.int ((G[i]?).getD 0*(z[i]?).getD 0)) (SqL.of I) M (by rw[bo,bo,d]) L (λi x y r ς Z hx hy f b q m=>?_) (λr f b=>?_)]
 .let#[v1,v2,J]:=ymh m;let#[w,J,N,S,R]:=õ hx;let#[u,J,um,ui,_]:=õ hy;let w1:=e.one w N;let w2:=e.top w N;let O:=f.trans (yz (o:=HO.tup [V.int w,V.int u]) q);let j:=zr (o':=HO.tup [V.int w,V.int u]) q b;have t:upd r ς (HO.tup [V.int w,V.int u]) ς∪[V.int w,V.int u]:=ya;generalize upd r ς (HO.tup [V.int w,V.int u])=W at O j t;erw[yhe (SqT.of t) J ?_];show Ò (xw 0) (Ò (xw 1) ypn) [V.int w,V.int u] (v1::v2::uy [] [some (V.ref p),some (V.ref c)]) W _;ext;erw[#[[some (.int w),some (.int u)],J,J],?_,←Mp.doneR L (vv (by rw[bo,e.len];omega)) (by rwa[bo,R]) O j ?_];rw[S,ui];rfl
 .let b:=yf4 b (yrs (g:=λw c=>w*c) d);let a0:=f _ _ hp;let v:=f _ _ I;let p1:=e.pos n1;let p2:=e.small n6;ext;erw[D,_,J,SqL.of b,?_,←l,_,J,SqL.of v,?_,←k _ f]
#synth Ŷ ["self","chances","bit","shares","whole","own","grown","dropped"] ["self","chances","bit"] vcq
def vb5:'e' 5 a.Oz a.Rj ["self","chances","bit"] (yjb K a a.Au):=by
 exists T.M9.F.okE,Ŷ,hr;let#[p,dx,l,c,B,r,n,x,m,J,n1,n6,W,hc,#[hp,hl],hq,ty,k1,k2]:=h;erw[yi (yw (uz (ŋ T) hr.m T.Du vd (pav 2))) ?_,<-yi (ynr (i:=3) (js:=[2]) (ys:=["bit"]) (xs:=["weight","chance"]) (g:=yw9 K 2 (Ò (xw 0) (Ò (xw 1) ypn))) Ŷ.nd J J J (yss J T.Nz (pac pfs (pav 1))) (λC s2 M fp=>(yo xk (pv 0) (uz (yy8 T) hr.m T.Tv wa (pac (pv 1) (pav 2))))) J (λC s2 M fp=>yhb J (jq (xb (i:=0) (show List.Nodup ((["weight","chance"]:Ρ)++(["bit"]:Ρ)) by right) J (Or.inl J)) (jq (xb (i:=1) (show List.Nodup ((["weight","chance"]:Ρ)++(["bit"]:Ρ)) by right) J (Or.inl J)) ybn))) J (hyc:=(all_cons J yv)) (hrel:=(all_cons J yv))) ?_,<-yi (ö (i:=4) Ŷ.nd J (Or.inr J) (pcB (ñ J) T.I2 (pav 3))) ?_,<-yi (ö (i:=5) Ŷ.nd J (Or.inr J) (yo xk (vw J T.I3) (pcB yq T.Af (pav 3)))) ?_,<-yi (ygk (i:=6) (js:=[4,5]) (ys:=["whole","own"]) Ŷ.nd J J J (xr (pv 3)) (λC s2 M fp=>(yo wl (yo xk (pv 2) (pv 0)) (pv 1))) J J (hyc:=(all_cons J (all_cons J yv))) (hrel:=(all_cons J (all_cons J yv)))) ?_,<-yi (ö (i:=7) Ŷ.nd J (Or.inr J) (pcB (ľ J) T.Ny (pac (yo jg (yl8 PySem.F.plainAttrs_int PySem.F.slot_int_bit_length PySem.F.type_int_bit_length yu6 (pcB (ñ J) T.I2 (pav 6))) (vw J T.Ep)) (pa1 yd)))) ?_,<-_,(yc (vj (pv 0) (wx (js:=[7]) (ys:=["dropped"]) J (xr (pv 6)) (λC s2 M fp=>(yo yqp (pv 0) (pv 1))) J J (hyc:=(all_cons J yv)) (hrel:=(all_cons J yv))) J)),?_];exists 3,5;have j:r.length=B.length:=by rw[W.len,hc.len]
 ext;erw[x,m,J,ty,λhx=>?_,k2];let#[b,J,b0,b1]:=yhg hx;let k:=k1 b J b0 b1;ext;erw[l,c,J,#[_,_,SqL.of hl,hq],λD hD=>?_,<-ū (λi=>V.int ((B[i]?).getD 0*giv ((r[i]?).getD 0) b)) (SqL.of hl) hq (by rw[bo,bo,j]) hD (λi x y M tt a7 hx N U d a0 Y=>?_) (λM U d=>?_)]
 .let#[v1,v2,J]:=ymh Y;let#[w,J,wm,wi,il]:=õ hx;let#[u,J,um,ui,_]:=õ N;let w1:=W.one w wm;let w2:=W.top w wm;let a6:=ygq (vbu hc um);let a2:=yei b0 b1;let L:=U.trans (yz (o:=HO.tup [V.int w,V.int u]) a0);let X:=zr (o':=HO.tup [V.int w,V.int u]) a0 d;have a1:upd M tt (HO.tup [V.int w,V.int u]) tt∪[V.int w,V.int u]:=ya;generalize upd M tt (HO.tup [V.int w,V.int u])=H3 at L X a1;erw[yhe (SqT.of a1) J ?_];show Ò (xw 0) (Ò (xw 1) ypn) [V.int w,V.int u] (v1::v2::uy [2] [some (V.ref p),some (V.ref c),some (V.int b),none,none,none,none,none]) H3 _;ext;erw[#[[some (.int w),some (.int u)],J,J],?_,←.int u,_,.int b,_,J,.int u,.int b,λz=>(by rw[a6]at z;cases z),λF z=>(by rw[a2]at z;cases z),λc' b' ec eb F F=>?_];cases ec;cases eb;ext;erw[Mp.doneR hD (vv (by rw[bo,W.len];omega)) (by rwa[bo,il]) L X ?_];rw[wi,ui];rfl
 .have d:M D\((shL B r b).map V.int):=yf4 d (yrs (g:=λw c=>w*giv c b) j);have q:(shL B r b).length=n:=by rw[yey j.symm,W.len]
  let a5:=U _ _ hp;have ek:lrn B r b=(grL (shL B r b)).map λv=>v/2^tOf (grL (shL B r b)).sum:=rfl;rw[ek]at k;generalize shL B r b=ς at d q k;have eg:grL ς=ς.map λs=>31*(n:Int)*s+ς.sum:=by rw[<- q];rfl
  ext;erw[D,_,J,SqL.of d,?_,←ur (SqL.of d) ?_];rw[bo,q];ext;erw[D,J,#[_,SqL.of d],λG hG=>?_,<-İ (onI λs=>31*(n:Int)*s+ς.sum) (SqL.of d) hG (λi y H3 N L f=>?_) (λH3 L f=>?_)]
  .let#[s',J,_,_,il]:=õ N;show tOp _ _ _ (some (V.int s')::uy [4,5] [some (V.ref p),some (V.ref c),some (V.int b),some (V.ref D),some (V.int ς.sum),some (V.int (31*(n:Int))),none,none]) H3 _;ext;erw[Mp.done hG (vv (by rw[bo,q];omega)) N L f J]
  .rw[yk8,<- eg]at f;have R:(grL ς).length=n:=by rw[ylr,q]
   generalize grL ς=O at f k R;let S:=L _ _ a5;ext;erw[G,_,J,SqL.of f,?_,←_,_,J,?_]
   have et:(if (0:Int) > ((Builtin.Int.intBits O.sum:Nat):Int)-48 then (0:Int)else ((Builtin.Int.intBits O.sum:Nat):Int)-48)=((tOf O.sum:Nat):Int):=by
    show _=(((ypj O.sum)-48:Nat):Int);have e:Builtin.Int.intBits O.sum=ypj O.sum:=rfl;rw[e]
    split<;>omega
   rw[et];generalize tOf O.sum=t at k;ext;erw[G,J,#[_,SqL.of f],λZ hZ=>?_,<-İ (onI λv=>v/2^t) (SqL.of f) hZ (λi y H4 N S4 I=>?_) (λH4 S4 I=>?_)]
   .let#[s',J,_,_,il]:=õ N;show tOp _ _ _ (some (V.int s')::uy [7] [some (V.ref p),some (V.ref c),some (V.int b),some (V.ref D),some (V.int ς.sum),some (V.int (31*(n:Int))),some (V.ref G),some (V.int (t:Int))]) H4 _;ext;erw[i_I (Int.natCast_nonneg t) ?_,<-Mp.done hZ (vv (by rw[bo,R];omega)) N S4 I J]
   .rw[yk8]at I;let a9:=S4 _ _ S;ext;have nz:Z≠p:=λz=>by rw[z,S]at hZ;cases hZ
    let a3:=U.trans (L.trans S4);erw[k Z _ ((U.trans L).free hZ) #[ya,yg nz I] ((But.of a3).trans But.upd)]
#synth ypw ["self","made"] ["self"] vf6
#synth ∀(a:Ads),∀(p dx l:qa)(ws:Ο)(_:vs=[.ref p])(_:yiz a p dx l ws H)(_:1<=ws.length)(_:ws.length<=6)(_:∀q dq l' H',H q=none->H l'=none->yiz a q dq l' ws H'->yu H H'->Q (.ref q) H'),ynx
def yy2:'v' 3 a.P1 a.Rk ["self"] (ynx a):=by
 exists T.Ma.F.ok,ypw,I;let#[p,N,l,u,J,#[D,v],M,G,k]:=h;exists 1,1,yh (pst 1 ypw.nd (à T.Vm (yse T) I.m J T.Vl T.M7.B .nil vo (pa1 (pcB yq T.Af (pa1 pfs))))) (yh (vj (pv 1) (pcT wk T.At (pa1 pfs)) J) (yc (yp (pv 1))));erw[ur (SqL.of v) ?_];rw[bo];ext;intro q n i j ς;erw[q,n,u.length,J,M,G,ya,λS R t M1 L=>#[J,?_]];let d:=ċ i j L;let c:=M1.o;let x:=d _ _ D;ext;erw[ya0 (SqL.of (d _ _ v)) λr hr0=>?_];exists hr0,H2,S2,er;let O:=S2 _ _ c;ext;have f:r≠q:=λz=>by rw[z,c]at hr0;cases hr0
 erw[k q n r _ i (d.free hr0) #[ya,yg f er] λb o e=>yg (yb e i) (S2 _ _ (d _ _ e))]
#synth vb1 ["self"] vde
def û.sqt{H H':Hp}{p dx lk d:qa}{kd:Fin 3}{f:qj Int->ql Slt}{O:Μ}{m:Nat}(h:û a H p dx lk d kd f O m)(B:ypr O H H'){t:qa}{xs:Τ}(e:SqT K H t xs):SqT K H' t xs:=by
 have i:∀o:HO,H t=some o->yw8 o=false->H' t=some o:=λo g j=>B _ _ g λz=>by
  let#[k,c,b]:=h.own t z;rw[g]at c;cases c;rw[j]at b;cases b
 rcases e with(e|⟨o,e⟩)|e
 .erw[.inl (.inl (i _ e J))]
 .erw[.inl (.inr #[o,i _ e J])]
 .erw[.inr e]
def û.up{H:Hp}{p dx lk d:qa}{kd:Fin 3}{f:qj Int->ql Slt}{O:Μ}{m:Nat}(h:û a H p dx lk d kd f O m)(hm:m<=m'):û a H p dx lk d kd f O m':=by let#[b,c,i,e,j,g]:=h.tb;erw[h.me,h.own,h.np,h.dO,h.ky,b,c,i,ck e hm,j,g]
def j5.mvT{H H':Hp}{k:qa}{x:V}{ps:Ο}(h:j5 K H k x ps)(h1:∀t xs,SqT K H t xs->SqT K H' t xs):j5 K H' k x ps:=by let#[t,a,b,c,d]:=h;erw[t,h1 _ _ a,h1 _ _ b,c,d]
noncomputable def refs(g:Λ)(n:Nat):Τ:=(List.range n).map λi=>V.ref (g i)
def wb(g:Λ)(n:Nat):(refs g n).length=n:=by unfold refs;rw[bo,b9]
def È{g:Λ}{n:Nat}{x:V}(h:(refs g n)[i]?=some x):x=.ref (g i)/\i<n:=by
 have a:i<n:=by
  have:=(bJ.mp h).1;rw[wb]at this;erw[this]
 unfold refs at h;rw[bB,cQ a]at h;erw[(bL h).symm,a]
def ja(g:Λ)(n:Nat):refs g (n+1)=refs g n++[.ref (g n)]:=by unfold refs;rw[List.range_succ,bA];rfl
def zy{g h:Λ}{n:Nat}(e:∀i,i<n->g i=h i):refs g n=refs h n:=by unfold refs;erw[List.map_congr_left λi a=>by rw[e i (cG.mp a)]]
structure Bks(K:xy)(a:Ads)(H:Hp)(n:Nat)(bk dx lk dd:Λ)(kd:Ν)(ps:Κ)(f:Α)(O:Β)(m:Nat):Prop where
 look:∀i,i<n->j5 K H (lk i) (.str (kdS (kd i))) (ps i)
 b:∀i,i<n->û a H (bk i) (dx i) (lk i) (dd i) (kd i) (f i) (O i) m
 dj:∀i j c,i<n->j<n->i≠j->O i c->¬O j c
 nb:∀i j,i<n->j<n->¬O i (bk j)
def AtS(H:Hp)(d:qa)(k:Ο)(q:qa):Prop:=∀kvs,H d=some (.dT kvs)->π kvs (kI k)∣q
def û.slot{H:Hp}{p dx lk d:qa}{kd:Fin 3}{f:qj Int->ql Slt}{O:Μ}{m:Nat}{k:Ο}{s:Slt}(h:û a H p dx lk d kd f O m)(hf:f k=some s)(hq:AtS H d k q):∃dq,H q=some (oS a dq s)/\s.ok/\s.kind=kd/\O q:=by let#[b,r,j,t,v,g,u]:=h.tb;let#[i,n,l,c,o]:=g k s hf;let e:=hq b j;rw[i]at e;injection e with e;injection e with e;subst e;erw[_,n,l,c,o]
def û.told{H H':Hp}{p dx lk d:qa}{kd:Fin 3}{f:qj Int->ql Slt}{O:Μ}{m:Nat}{k:Ο}{s:Slt}{b:Int}(h:û a H p dx lk d kd f O m)(hf:f k=some s)(hq:AtS H d k q)(b0:0<=b)(b1:b<=1)
  (h3:H' q=some (oS a dq (s.see b))) (B:But q H H'):û a H' p dx lk d kd (ģ f k (s.see b)) O m:=by
 let y:=h.me;let#[r,l,v,R,E,G,ς]:=id h.tb;let#[I,L,X,q4,K]:=G k s hf;let e:=hq r v;rw[I]at e;injection e with e;injection e with e;have D:p≠q:=λz=>h.np (by rwa[z,<- e,K])
 have u:d≠q:=λz=>by
  let#[C,fs,A]:=ó a (l k).2 s;rw[e,<- z,v,A]at L;cases L
 erw[B _ _ y D,λc hc=>?_,h.np,h.dO,h.ky.mv v (B _ _ v u),r,λj=>if j=k then (q,dq)else l j,B _ _ v u,R,λj i=>?_,λj n i=>?_,λx F s1 U e1 Y W=>?_]
 .let#[o,ho,hi]:=h.own c hc;by_cases z:c=q
  .rw[z];let#[C,fs,A]:=ó a dq (s.see b);erw[_,h3,by rw[A];rfl]
  .erw[o,B _ _ ho z,hi]
 .erw[E j ?_];unfold ģ at i
  split at i
  .cases i
  .erw[i]
 .unfold ģ at i;by_cases z:j=k
  .rw[if_pos z]at i;cases i;subst z;dsimp only;rw[if_pos J];exists by rw[I,e],h3,Slt.see_ok X b0 b1,(ynq s b).trans q4,e ▸ K
  .rw[if_neg z]at i;let#[Z,S,M,P,N]:=G j n i;dsimp only;rwa[if_neg z,#[Z,B _ _ S (λw=>z (ς j k n s i hf (w.trans e.symm))),M,P,N]]
 .have g:∀j n,ģ f k (s.see b) j=some n->∃t,f j=some t:=λj n h=>by
   unfold ģ at h;by_cases z:j=k
   .erw[s,by rwa[z,hf]]
   .rw[if_neg z]at h;erw[n,h]
  let#[t1,T]:=g x s1 e1;let#[Q,f2]:=g F U Y;erw[ς x F t1 Q T f2 ?_]
  have ys6:∀j,(if j=k then ((q,dq):qa×qa)else l j).1=(l j).1:=λj=>by
   by_cases z:j=k
   .rw[if_pos z,z];erw[e.symm]
   .rw[if_neg z]
  rwa[<- ys6 x,<- ys6 F,W]
def AtS.told{H H':Hp}{p dx lk d:qa}{kd:Fin 3}{f:qj Int->ql Slt}{O:Μ}{m:Nat}{k:Ο}(h:û a H p dx lk d kd f O m){r:qa}(hd:d≠r)(B:But r H H')(hq:AtS H d k q):AtS H' d k q:=λg e=>by
 let#[c,i,b,_]:=h.tb;rw[B _ _ b hd]at e;cases e;erw[hq _ b]
end
section
mutual
variable{H H':Hp}{n m:Nat}{bk dx lk dd:Λ}{kd:Ν}{ps:Κ}{f:Α}
theorem Bks.frame(h:Bks K a H n bk dx lk dd kd ps f O m){O2:Μ}(B:ypr O2 H H')(dj:∀i b,i<n->O i b->¬O2 b)(hp:∀i,i<n->¬O2 (bk i))(ht:∀t xs,SqT K H t xs->SqT K H' t xs):Bks K a H' n bk dx lk dd kd ps f O m :=
 #[λi c=>(h.look i c).mvT ht,λi c=>(h.b i c).frame B (λb d=>dj i b c d) (hp i c),h.dj,h.nb]
def Bks.same(h:Bks K a H n bk dx lk dd kd ps f O m)(S:yu H H'):Bks K a H' n bk dx lk dd kd ps f O m :=
 h.frame (O2:=λZ=>False) (λb o e Z=>S b o e) (λZ Z Z Z z=>z) (λZ Z z=>z) λZ Z e=>S.tup e
def Bks.move(h:Bks K a H n bk dx lk dd kd ps f O m)(hj:j<n){f':qj Int->ql Slt}{O':Μ}(hm:m<=m')(hb:û a H' (bk j) (dx j) (lk j) (dd j) (kd j) f' O' m')(hO:∀c,O' c->O j c\/H c=none)(B:ypr (O j) H H'):
  Bks K a H' n bk dx lk dd kd ps (λi=>if i=j then f' else f i) (λi=>if i=j then O' else O i) m':=by
 let A:=h.b j hj
 have g:∀q c,q<n->q≠j->O q c->¬O' c:=λq c C x w E=>by
  rcases hO c E with v|v
  .erw[h.dj q j c C hj x w v]
  .let#[o,D,_]:=(h.b q C).own c w;rw[v]at D;cases D
 erw[λi d=>(h.look i d).mvT λt F e=>A.sqt B e,λi d=>?_,λi l c d p u r k=>?_,λi l d p e=>?_]
 .try dsimp only
  by_cases z:i=j
  .subst z;rwa[if_pos J,if_pos J,hb]
  .rw[if_neg z,if_neg z];erw[((h.b i d).frame B (λb y=>h.dj i j b d hj z y) (h.nb j i hj d)).up hm]
 .try dsimp only at r k
  by_cases z1:i=j
  .rw[if_pos z1]at r;have s:l≠j:=λw=>u (z1.trans w.symm);rw[if_neg s]at k;erw[g l c p s k r]
  .rw[if_neg z1]at r;by_cases s:l=j
   .rw[if_pos s]at k;erw[g i c d z1 r k]
   .rw[if_neg s]at k;erw[h.dj i l c d p u r k]
 .try dsimp only at e
  by_cases z:i=j
  .rw[if_pos z]at e;rcases hO _ e with v|v
   .erw[h.nb j l hj p v]
   .rw[(h.b l p).me]at v;cases v
  .rw[if_neg z]at e;erw[h.nb i l d p e]
def AtS.move(h:Bks K a H n bk dx lk dd kd ps f O m)(hi:i<n)(hj:j<n)(hij:i≠j)(B:ypr (O j) H H'){k:Ο}(hq:AtS H (dd i) k q):AtS H' (dd i) k q:=λg e=>by
 let#[d,l,c,_]:=(h.b i hi).tb;rw[B _ _ c (h.dj i j _ hi hj hij (h.b i hi).dO)]at e;cases e;erw[hq _ c]
def Bks.nlst(h:Bks K a H n bk dx lk dd kd ps f O m){l:qa}{xs:Τ}(hl:H l\xs):∀i,i<n->¬O i l:=λi e z=>by
 let#[o,d,c]:=(h.b i e).own l z;rw[hl]at d;cases d;cases c
end
end
mutual
def ym6(n:Nat)(kd:Ν)(f:Α)(g:Nat->qj Int->Slt):Prop:=∀i,i<n->∀k,(f i k).getD (kd0 (kd i))=g i k
def ym6.put{n:Nat}{kd:Ν}{f:Α}{g:Nat->qj Int->Slt}(h:ym6 n kd f g)(j:Nat)(hj:j<n)(k:Ο):ym6 n kd (λi=>if i=j then ģ (f j) k ((f j k).getD (kd0 (kd j)))else f i) g:=λi b a=>by
 dsimp only;by_cases z:i=j
 .subst z;rw[if_pos J];unfold ģ;by_cases w:a=k
  .rw[if_pos w,w];erw[h i b k]
  .rw[if_neg w];erw[h i b a]
 .rw[if_neg z];erw[h i b a]
inductive yhv(K:xy)(a:Ads)(vs:Τ)(H:Hp)(Q:VK)(E':XK):Prop
 | mk(p dp ll bl mp el pl0:qa)(nd:Int)(sg:Ο)(n m:Nat)(bk dx lk dd:Λ)(kd:Ν)(ps:Κ)(f:Α)(O:Β)(g:Nat->qj Int->Slt)(_:vs=[.ref p])(_:H p∩a.A6 dp (jy (.ref ll) (.ref bl) (.ref mp) (.ref el) (.int nd) (.ref pl0)))(_:H bl\(refs bk n))(_:H el\(sg.map V.int))(_:Bks K a H n bk dx lk dd kd ps f O m)(_:ym6 n kd f g)(_:n<=6)(_:m+10<1000000)(_:(∀i,i<n->¬O i p))(_:∀(pl:qa)(sl:Λ)(f':Α)(O':Β)(H':Hp),H' p∩a.A6 dp (jy (.ref ll) (.ref bl) (.ref mp) (.ref el) (.int nd) (.ref pl))->H' pl\(refs sl n)->H pl=none ->
  Bks K a H' n bk dx lk dd kd ps f' O' (m+n)->ym6 n kd f' g->(∀j,j<n->(∃s,f' j (ctx (ps j) sg nd)=some s)/\AtS H' (dd j) (ctx (ps j) sg nd) (sl j))->(∀j c,j<n->O' j c->O j c\/H c=none) ->
  (∀c o,H c=some o->c≠p->(∀j,j<n->¬O j c)->H' c=some o)->(∀c o,H c=some o->∃o',H' c=some o')->Q .non H')
def ymv:'v' 5 a.P3 a.Rm ["self"] (yhv K a):=by
 exists T.Ee.F.ok,vb1,hr;let#[p,dp,ll,bl,mp,el,ae,N,X,n,m,Z,dx,lk,dd,kd,M,f,O,g,J,hp,U,a6,hB,hA,n6,hm,np,k]:=h;exists 1,0,yc (vj (pv 0) (wx (js:=[0]) (ys:=["self"]) J (xr pfs) (λC s2 H2 fp=>(xl (pv 0) T.Br T.M5.m (yyc T) hr.m T.M5.B .nil vo (pac (yfc (K:=K) J (pv 1) J) (pa1 (yfc (K:=K) J (pv 1) J))))) J J (hyc:=(all_cons J yv)) (hrel:=(all_cons J yv))) J);erw[bl,J,#[_,SqL.of U],λD L=>?_];let a8:=hB.nlst U;let aa:=hB.nlst a6;refine š (K:=K) (xs:=refs Z n) (λi G=>∃(y:Λ)(R:Α)(ς:Β),G D\(refs y i)/\Bks K a G n Z dx lk dd kd M R ς (m+i)/\ym6 n kd R g/\(∀j,j<i->(∃s,R j (ctx (M j) X N)=some s)/\AtS G (dd j) (ctx (M j) X N) (y j))/\
  (∀j c,j<n->ς j c->O j c\/H c=none)/\(∀c o,H c=some o->(∀j,j<n->¬O j c)->G c=some o)/\(∀c o,H c=some o->∃o',G c=some o'))
  #[λF=>0,f,O,ya,hB.same (yz L),hA,λj d=>absurd d (bS j),λj c F z=>.inl z,λc o e F=>zr L e,λc o e=>#[o,zr L e]] (λi G F z=>?_) (λi x G hx hi z=>?_) (λG z=>?_)
 .let#[_,_,_,_,_,_,_,_,w,_]:=z;erw[SqL.of (w _ _ U a8)]
 .let#[y,R,ς,gD,r,gA,gS,Y,gF,gL]:=z;let#[J,l]:=È hx;let I:=gF _ _ hp np;let a5:=gF _ _ a6 aa;let ah:=(r.b i l).me;show ş _ _ _ _ _ _ _ (some (V.ref (Z i))::uy [0] [some (V.ref p)]) G _;ext;exists Z i,dx i,lk i,dd i,el,kd i,R i,ς i,m+i,M i,X,N,J,r.b i l,(),r.look i l,SqL.of a5,λq O2 G2 a4 hv a2 ag B2=>?_
  let nD:=r.nlst gD;have u:G2 D\(refs y i):=B2 _ _ gD (nD i l);erw[xu (n:=(refs Z n).length) u (vv (by rw[wb];omega)) hi ?_];let M2:=r.move l (Nat.le_succ (m+i)) a4 a2 B2;let a7:=M2.nlst u;have S:∀c o,G2 c=some o->c≠D->upd G2 D (.lst (refs y i++[V.ref q])) c=some o:=λc o e W=>yg W e
  let M3:=M2.frame (O2:=λc=>c=D) (λc o e W=>S c o e W) (λj c d w z=>a7 j d (z ▸ w)) (λj d z=>by
   have:=(M2.b j d).me;rw[z,u]at this
   cases this) (λt xs e=>by
   rcases e with(e|⟨o,e⟩)|e
   .erw[.inl (.inl (S _ _ e (λz=>by rw[z,u]at e;cases e)))]
   .erw[.inl (.inr #[o,S _ _ e (λz=>by rw[z,u]at e;cases e)])]
   .erw[.inr e])
  have up:∀j,j<n->AtS G2 (dd j) (ctx (M j) X N) (if j=i then q else y j)->AtS (upd G2 D (.lst (refs y i++[V.ref q]))) (dd j) (ctx (M j) X N) (if j=i then q else y j):=λj d h =>
   h.told (M2.b j d) (λz=>a7 j d (by rwa[<- z,(M2.b j d).dO])) (λc o e W=>S c o e W)
  erw[λj=>if j=i then q else y j,_,_,?_,M3,gA.put i l _,λj d=>?_,λj c d w=>?_,λc o e no=>?_,λc o e=>?_]
  .rw[ya,ja,if_pos J]
   congr 3
   erw[zy λj d=>(if_neg ()).symm]
  .by_cases z:j=i
   .subst z;exists#[(R j (ctx (M j) X N)).getD (kd0 (kd j)),?_],up j l ?_
    .try dsimp only
     rw[if_pos J];unfold ģ;rw[if_pos J]
    .rw[if_pos J];erw[hv]
   .have a1:j<n:=()
    let#[#[s',ab],ad]:=gS j ();erw[#[s',?_],up j a1 ?_]
    .try dsimp only
     rwa[if_neg z,ab]
    .rw[if_neg z];erw[ad.move r a1 l z B2]
  .try dsimp only at w
   by_cases z:j=i
   .subst z;rw[if_pos J]at w;rcases a2 c w with v|v
    .erw[Y j c d v]
    .refine .inr ?_
     cases e:H c with
     |none=>rfl
     |some o =>
      let#[o',w']:=gL c o e;rw[w']at v;cases v
   .rw[if_neg z]at w;erw[Y j c d w]
  .let hG:=gF c o e no
   have nc:¬ς i c:=λw=>by
    rcases Y i c l w with v|v
    .erw[no i l v]
    .rw[e]at v;cases v
   erw[S _ _ (B2 _ _ hG nc) (λz=>?_)];rw[z,L]at e;cases e
  .let#[o1,w1]:=gL c o e;have a3:c≠D:=λz=>by rw[z,L]at e;cases e
   by_cases w2:ς i c
   .let#[o2,a9,_]:=a4.own c (ag c w2);erw[o2,S _ _ a9 a3]
   .erw[o1,S _ _ (B2 _ _ w1 w2) a3]
 .let#[y,R,ς,gD,r,gA,gS,Y,gF,gL]:=z;rw[wb]at gD r gS;let I:=gF _ _ hp np;ext;have ac:D≠p:=λz=>by rw[z,hp]at L;cases L
  have BP:But p G (upd G p (.ins a.A6 dp (jy (.ref ll) (.ref bl) (.ref mp) (.ref el) (.int N) (.ref D)))):=But.upd
  have a0:∀i,i<n->¬ς i p:=λi hi w=>by
   rcases Y i p hi w with v|v
   .erw[np i hi v]
   .rw[hp]at v;cases v
  let M3:=r.frame (O2:=λc=>c=p) (λc o e W=>BP c o e W) (λj c d w z=>a0 j d (z ▸ w)) (λj d z=>by
   have:=(r.b j d).me;rw[z,I]at this;injection this with this;injection this with _ _ e
   erw[absurd (congrArg List.length e) (show ¬(6=2) by decide)]) (λt xs e=>by
   rcases e with(e|⟨o,e⟩)|e
   .erw[.inl (.inl (BP _ _ e (λz=>by rw[z,I]at e;cases e)))]
   .erw[.inl (.inr #[o,BP _ _ e (λz=>by rw[z,I]at e;cases e)])]
   .erw[.inr e])
  erw[k D y R ς _ ya (yg ac gD) L M3 gA (λj d=>#[(gS j d).1,(gS j d).2.told (r.b j d) (λz=>a0 j d (by rwa[<- z,(r.b j d).dO])) BP]) Y (λc o e nc no=>BP _ _ (gF c o e no) nc) λc o e=>?_];by_cases zc:c=p
  .rw[zc];erw[_,ya]
  .let#[o1,w1]:=gL c o e;erw[o1,BP _ _ w1 zc]
structure FA where
 dp:qa
 ll:qa
 bl:qa
 mp:qa
 mx:qa
 ml:qa
 el:qa
 pl:qa
 n:Nat
 bk:Λ
 dx:Λ
 lk:Λ
 dd:Λ
 sl:Λ
 kd:Ν
 ps:Κ
structure FX where
 g:Nat->qj Int->Slt
 ws:Ο
 sg:Ο
 nd:Int
def FX.key(X:FX)(A:FA)(i:Nat):Ο:=ctx (A.ps i) X.sg X.nd
noncomputable def FX.cs(X:FX)(A:FA):Ο:=(List.range A.n).map λi=>(X.g i (X.key A i)).due
noncomputable def ndN(nd b:Int):Int:=if 0<nd then (if 256<=2*nd+b then 0 else 2*nd+b)else if b=1 then 1 else nd
noncomputable def sgN(sg:Ο)(nd b:Int):Ο:=if 0<nd then (if 256<=2*nd+b then sg++[2*nd+b-256]else sg)else if b=1 then sg else []
def FX.see(X:FX)(A:FA)(b:Int):FX:={ g:=λi k=>if k=X.key A i then (X.g i k).see b else X.g i k,ws:=lrn X.ws (X.cs A) b,sg:=sgN X.sg X.nd b,nd:=ndN X.nd b}
structure γ(K:xy)(a:Ads)(H:Hp)(p:qa)(A:FA)(X:FX)(f:Α)(O:Β)(m:Nat):Prop where
 me:H p∩a.A6 A.dp (jy (.ref A.ll) (.ref A.bl) (.ref A.mp) (.ref A.el) (.int X.nd) (.ref A.pl))
 bl:H A.bl\(refs A.bk A.n)
 el:H A.el\(X.sg.map V.int)
 mx:yiz a A.mp A.mx A.ml X.ws H
 wok:WOk A.n X.ws
 pl:H A.pl\(refs A.sl A.n)
 B:Bks K a H A.n A.bk A.dx A.lk A.dd A.kd A.ps f O m
 ag:ym6 A.n A.kd f X.g
 at':∀j,j<A.n->(∃s,f j (X.key A j)=some s)/\AtS H (A.dd j) (X.key A j) (A.sl j)
 np:∀i,i<A.n->¬O i p
 nm:∀i,i<A.n->¬O i A.mp
 n1:1<=A.n
 n6:A.n<=6
theorem γ.same{H H':Hp}{p:qa}{A:FA}{X:FX}{f:Α}{m:Nat}(h:γ K a H p A X f O m)(S:yu H H'):γ K a H' p A X f O m :=
 #[S _ _ h.me,S _ _ h.bl,S _ _ h.el,h.mx.same S,h.wok,S _ _ h.pl,h.B.same S,h.ag,λj c=>#[(h.at' j c).1,λi e=>by
  let#[g,k,d,_]:=(h.B.b j c).tb;rw[S _ _ d]at e;cases e;erw[(h.at' j c).2 _ d]],h.np,h.nm,h.n1,h.n6]
theorem γ.slot{H:Hp}{p:qa}{A:FA}{X:FX}{f:Α}{m:Nat}(h:γ K a H p A X f O m)(hj:j<A.n):
  f j (X.key A j)=some (X.g j (X.key A j))/\(∃dq,H (A.sl j)=some (oS a dq (X.g j (X.key A j))))/\(X.g j (X.key A j)).ok/\O j (A.sl j):=by let#[#[s,c],d]:=h.at' j hj;let e:=h.ag j hj (X.key A j);rw[c]at e;have e:s=X.g j (X.key A j):=e;rw[<- e];let#[dq,l,i,o,k]:=(h.B.b j hj).slot c d;erw[c,#[dq,l],i,k]
def γ.cok{H:Hp}{p:qa}{A:FA}{X:FX}{f:Α}{m:Nat}(h:γ K a H p A X f O m):COk A.n (X.cs A):=by
 exists by unfold FX.cs;rw[bo,b9],λc d=>?_,λc d=>?_
 .let#[j,b,J]:=bw.mp d;erw[(yg0 (h.slot (cG.mp b)).2.2.1).1]
 .let#[j,b,J]:=bw.mp d;erw[(yg0 (h.slot (cG.mp b)).2.2.1).2]
def LkG.at'{H:Hp}{lk tp:qa}{kd:Fin 3}{ps:Ο}(h:LkG H (.ref lk) kd tp ps):j5 K H lk (.str (kdS kd)) ps:=by
 let#[c,e,f,d,a]:=h;cases e;let a:=a;unfold zg at a;rw[bU,bU,List.all_eq_true]at a;erw[tp,SqT.of f,SqT.of d,λp b=>?_,by have:=of_decide_eq_true a.1.1;rw[bo]at this;erw[this]]
 let w:=a.1.2 (.int p) (bw.mpr #[p,b,J]);have w:(decide (1<=p) && decide (p<=8))=true:=w;rw[bU]at w;erw[of_decide_eq_true w.1,of_decide_eq_true w.2]
def Bks.snoc{H:Hp}{n m:Nat}{bk dx lk dd:Λ}{kd:Ν}{ps:Κ}{f:Α}(h:Bks K a H n bk dx lk dd kd ps f O m)
  (hl:j5 K H (lk n) (.str (kdS (kd n))) (ps n)) {q dq d:qa} {f':qj Int->ql Slt} {O':Μ} (hb:û a H q dq (lk n) d (kd n) f' O' m) (dj:∀j c,j<n->O j c->¬O' c) (n1:∀j,j<n->¬O j q) (n2:∀j,j<n->¬O' (bk j)):
  Bks K a H (n+1) (upN bk n q) (upN dx n dq) lk (upN dd n d) kd ps (upN f n f') (upN O n O') m:=by
 erw[λi p=>?_,λi p=>?_,λi j c p s r o l=>?_,λi j p s e=>?_]
 .by_cases z:i=n
  .rw[z];erw[hl]
  .erw[h.look i ()]
 .by_cases z:i=n
  .subst z;rwa[xv,xv,xv,xv,xv,hb]
  .have g:i<n:=()
   rwa[xp g,xp g,xp g,xp g,xp g,h.b i g]
 .by_cases z:i=n
  .subst z;have k:j<i:=()
   rw[xv]at o;rw[xp k]at l;erw[dj j c k l o]
  .have g:i<n:=()
   rw[xp g]at o;by_cases w:j=n
   .subst w;rw[xv]at l;erw[dj i c g o l]
   .have k:j<n:=()
    rw[xp k]at l;erw[h.dj i j c g k r o l]
 .by_cases z:i=n
  .subst z;rw[xv]at e;by_cases w:j=i
   .subst w;rw[xv]at e;erw[hb.np e]
   .have k:j<i:=()
    rw[xp k]at e;erw[n2 j k e]
  .have g:i<n:=()
   rw[xp g]at e;by_cases w:j=n
   .subst w;rw[xv]at e;erw[n1 i g e]
   .have k:j<n:=()
    rw[xp k]at e;erw[h.nb i j g k e]
def ypq(K:xy)(a:Ads)(H G:Hp)(n:Nat)(bk dx lk dd:Λ)(kd:Ν)(ps:Κ)(f:Α)(O:Β):Prop :=
 Bks K a G n bk dx lk dd kd ps f O 0/\(∀j k,j<n->f j k=none)/\(∀j c,j<n->O j c->H c=none)/\(∀j,j<n->H (bk j)=none)
def ypq.zero{H G:Hp}{bk dx lk dd:Λ}{kd:Ν}{ps:Κ}{f:Α}:ypq K a H G 0 bk dx lk dd kd ps f O :=
 #[#[λi b=>absurd b (bS i),λi b=>absurd b (bS i),λi Z Z b=>absurd b (bS i),λi Z b=>absurd b (bS i)],λi Z b=>absurd b (bS i),λi Z b=>absurd b (bS i),λi b=>absurd b (bS i)]
def ypq.next{H G G2:Hp}{n:Nat}{bk dx lk dd:Λ}{kd:Ν}{ps:Κ}{f:Α}(h:ypq K a H G n bk dx lk dd kd ps f O)(hl:j5 K G (lk n) (.str (kdS (kd n))) (ps n))
  (S:yu H G) {q dq d D:qa} {xs ys:Τ} (hq:G q=none) (hd:G d=none) (S2:yu G G2) (hb:û a G2 q dq (lk n) d (kd n) (λZ=>none) (λb=>b=d) 0) (hD:G D\xs):
  ypq K a H (upd G2 D (.lst ys)) (n+1) (upN bk n q) (upN dx n dq) lk (upN dd n d) kd ps (upN f n λZ=>none) (upN O n λb=>b=d):=by
 let#[s,v,u,x]:=h;have l:∀j c,j<n->O j c->∃o,G c=some o:=λj c g w=>let ⟨o,m,_⟩:=(s.b j g).own c w;#[o,m]
 let M:=(s.same S2).snoc (hl.same S2) hb (λj c g w z=>by
  let#[o,m]:=l j c g w;rw[show c=d from z,hd]at m
  cases m) (λj g w=>by
  let#[o,m]:=l j q g w;rw[hq]at m
  cases m) (λj g z=>by
  let e:=(s.b j g).me;rw[show bk j=d from z,hd]at e;cases e)
 let i:=S2 _ _ hD;let y:=M.nlst i;have p:∀c o,G2 c=some o->c≠D->upd G2 D (.lst ys) c=some o:=λc o e r=>yg r e;erw[M.frame (O2:=λc=>c=D) (λc o e r=>p c o e r) (λj c g w z=>y j g (z ▸ w)) (λj g z=>?_) (λt xs e=>?_),λj k g=>?_,λj c g w=>?_,λj g=>?_]
 .let e:=(M.b j g).me;rw[z,i]at e;cases e
 .rcases e with(e|⟨o,e⟩)|e
  .erw[.inl (.inl (p _ _ e (λz=>by rw[z,i]at e;cases e)))]
  .erw[.inl (.inr #[o,p _ _ e (λz=>by rw[z,i]at e;cases e)])]
  .erw[.inr e]
 .by_cases z:j=n
  .rw[z,xv]
  .rw[xp ()];erw[v j k ()]
 .by_cases z:j=n
  .rw[z,xv]at w;rwa[show c=d from w,S.free hd]
  .rw[xp ()]at w;erw[u j c () w]
 .by_cases z:j=n
  .rw[z,xv];erw[S.free hq]
  .rw[xp ()];erw[x j ()]
def ypq.ag{H G:Hp}{n:Nat}{bk dx lk dd:Λ}{kd:Ν}{ps:Κ}{f:Α}(h:ypq K a H G n bk dx lk dd kd ps f O):ym6 n kd f (λi Z=>kd0 (kd i)):=λi b k=>by
 rw[h.2.1 i k b];rfl
def FX0(n:Nat)(kd:Ν):FX:={ g:=λi Z=>kd0 (kd i),ws:=List.replicate n 1099511627776,sg:=[],nd:=0}
def ynv{g:Λ}{n:Nat}{x:V}(h:x∈refs g n):∃i,i<n/\x=.ref (g i):=by unfold refs at h;let#[i,a,e]:=bw.mp h;erw[i,cG.mp a,e.symm]
def uk.lks{H:Hp}{n:Nat}{lk:Λ}{kd:Ν}{ps:Κ}(h:uk H n lk kd tp ps):Lks H (refs lk n):=λy b=>by
 let#[i,a,J]:=ynv b;erw[_,_,_,h i a]
theorem γ.frame{H H':Hp}{p:qa}{A:FA}{X:FX}{f:Α}{m:Nat}(h:γ K a H p A X f O m){O2:Μ}(B:ypr O2 H H')(hp:¬O2 p)(hm:¬O2 A.mp)(hb:∀i,i<A.n->¬O2 (A.bk i))
  (dj:∀i c,i<A.n->O i c->¬O2 c) (hl:∀l xs,(l=A.bl\/l=A.el\/l=A.ml\/l=A.pl)->H l\xs->H' l\xs) (ht:∀t xs,SqT K H t xs->SqT K H' t xs):γ K a H' p A X f O m :=
 #[B _ _ h.me hp,hl _ _ (.inl J) h.bl,hl _ _ (.inr (.inl J)) h.el,#[B _ _ h.mx.o hm,hl _ _ (.inr (.inr (.inl J))) h.mx.l],h.wok,hl _ _ (.inr (.inr (.inr J))) h.pl,h.B.frame B (λi c r w=>dj i c r w) hb ht,h.ag,λj d=>#[(h.at' j d).1,λq e=>by
  let#[k,s,g,_]:=(h.B.b j d).tb;rw[B _ _ g (dj j _ d (h.B.b j d).dO)]at e;cases e;erw[(h.at' j d).2 _ g]],h.np,h.nm,h.n1,h.n6]
def yvi{G:Hp}{t c:qa}{xs ys zs:Τ}(hc:G c\ys)(e:SqT K G t xs):SqT K (upd G c (.lst zs)) t xs:=by
 rcases e with(e|⟨o,e⟩)|e
 .erw[.inl (.inl (yg (uc e hc 'z') e))]
 .erw[.inl (.inr #[o,yg (uc e hc 'z') e])]
 .erw[.inr e]
def γ.app{H:Hp}{p R:qa}{A:FA}{X:FX}{f:Α}{m:Nat}{xs ys:Τ}(h:γ K a H p A X f O m)(hR:H R\xs)(hq:∀q,(q=A.bl\/q=A.el\/q=A.ml\/q=A.pl)->q≠R):γ K a (upd H R (.lst ys)) p A X f O m:=by
 erw[h.frame (O2:=λc=>c=R) (λc o e g=>yg g e) (λz=>?_) (λz=>?_) (λi d z=>?_) (λi c d w z=>h.B.nlst hR i d (z ▸ w)) (λl xs w e=>yg (hq l w) e) (λt xs e=>yvi hR e)]
 .let e:=h.me;rw[z,hR]at e;cases e
 .let e:=h.mx.o;rw[z,hR]at e;cases e
 .let e:=(h.B.b i d).me;rw[z,hR]at e;cases e
def veu(n:Nat)(n1:1<=n)(n6:n<=6):WOk n (List.replicate n 1099511627776):=by refine#[cV,λw h=>?_,λw h=>?_]<;>(rw[List.eq_of_mem_replicate h];decide)
#synth yyw ["self","looks"] vd0
structure vki(K:xy)(a:Ads)(H H':Hp)(p:qa)(n:Nat)(lk:Λ)(kd:Ν)(ps:Κ)(A:FA)(f:Α)(O:Β):Prop where
 ft:γ K a H' p A (FX0 n kd) f O 6
 en:A.n=n
 elk:A.lk=lk
 ekd:A.kd=kd
 eps:A.ps=ps
 oO:∀j c,j<n->O j c->H c=none
 oB:∀j,j<n->H (A.bk j)=none
 oM:H A.mp=none
 oL:∀l,(l=A.bl\/l=A.el\/l=A.ml\/l=A.pl)->H l=none
 lo:H' A.ll\(refs lk n)/\A.ll≠A.el/\H A.ll=none
inductive yf0(K:xy)(a:Ads)(vs:Τ)(H:Hp)(Q:VK)(E:XK):Prop
 | mk(p dp:qa)(x:V)(_:vs=[.ref p,x])(_:H p∩a.A6 dp [])(_:((ys5 K H x/\∀H',yu H H'->E (.ref a.Az) none H')\/∃(l:qa)(n:Nat)(lk:Λ)(kd:Ν)(tp:Λ)(ps:Κ),x=.ref l/\H l\(refs lk n)/\1<=n/\n<=6/\uk H n lk kd tp ps/\
  ∀A f O H',vki K a H H' p n lk kd ps A f O->But p H H'->Q .non H'))
def ypu:'e' 6 a.Jy a.Rl ["self","looks"] (yf0 K a):=by
 exists T.Mb.F.okE,yyw,hr;let#[p,f,x,J,hp,h]:=h;erw[yi (vj (pv 0) (uz (yqe T) hr.m T.M0 vd (pav 1)) J) ?_,<-yi (vj (pv 0) (wx (js:=[]) (ys:=[]) J (xr pfs) (λC s2 H2 fp=>(à T.Nf (yqv T) hr.m J T.Nd T.M4.B .nil vo (pav 0))) J J (hyc:=yv) (hrel:=yv)) J) ?_,<-yi (vj (pv 0) (à T.Vm (yse T) hr.m J T.Vl T.M7.B .nil vo (pa1 (pcB yq T.Af (pa1 pfs)))) J) ?_,<-yi (vj (pv 0) (vn xo) J) ?_,<-yi (vj (pv 0) yd J) ?_,<-yi (vj (pv 0) (vn xo) J) ?_];exists 2,0,yc (yw (vg (pv 0) T.Ak T.Ee.m (ymv T) hr.m T.Ee.B .nil vo));rcases h with⟨hb,k⟩|⟨l,n,lk,kd,tp,ps,rfl,hl,n1,n6,am,k⟩
 .erw[vcc hb k]
 .erw[vhu hl (by rwa[wb,n1]) (by rwa[wb,n6]) am.lks λg H1 ak aF S1=>?_];let aX:=S1 _ _ hp;let aU:=am.same S1;ext;have U:upd H1 p (HO.ins a.A6 f ([("looks",V.ref g)]:Ι)) p=some (HO.ins a.A6 f ([("looks",V.ref g)]:Ι)):=ya;have BA:But p H1 (upd H1 p (HO.ins a.A6 f ([("looks",V.ref g)]:Ι))):=But.upd;have a2:g≠p:=(yb hp ak).symm;have I:upd H1 p (HO.ins a.A6 f ([("looks",V.ref g)]:Ι)) g\(refs lk n):=yg a2 aF;generalize upd H1 p (HO.ins a.A6 f ([("looks",V.ref g)]:Ι))=HA at U BA I⊢;have a4:But p H HA:=(But.of S1).trans BA
  have aM:uk HA n lk kd tp ps:=λi hi=>by
   let#[q,e,h1,h2,h3]:=am i hi;erw[q,e,a4 _ _ h1 (uc h1 hp 'z'),a4 _ _ h2 (uc h2 hp 'z'),h3]
  erw[p,_,f,_,_,J,U,T.Ak,T.Bu,J,?_,<-g,J,#[_,SqL.of I],λu Y=>?_];refine j4 (K:=K) (xs:=refs lk n) (λi G=>∃(bk dx dd:Λ)(f2:Α)(O2:Β),G u\(refs bk i)/\ypq K a HA G i bk dx lk dd kd ps f2 O2/\yu HA G)
   #[λF=>0,λF=>0,λF=>0,λF F=>none,λF F=>False,ya,ypq.zero,yz Y] (λi G F z=>?_) (λi y G hy hi z=>?_) (λG z=>?_)
  .let#[_,_,_,_,_,_,_,SG]:=z;erw[SqL.of (SG _ _ I)]
  .let#[bk,dx,dd,f2,O2,aa,gN,SG]:=z;let#[J,aS]:=È hy;ext;intro q dq nq aT aY;have SQ:yu G (upd (upd G dq (.own q)) q (.ins a.Am dq [])):=λb o e=>by rw[yn (yb e nq),yn (yb e aT)];exact e
   erw[q,dq,lk i,kd i,J,ya,λd G2 aQ aL B2=>#[J,?_]];have aq:yu G G2:=λb o e=>B2 b o (SQ b o e) (yb e nq);erw[xu (n:=(refs lk n).length) (aq _ _ aa) (vv (by rw[wb];omega)) hi ?_,<-_,_,_,_,_,?_,gN.next ((aM i aS).same SG).at' SG nq (SQ.free aQ) aq aL aa,λb o e=>yg (yb e Y) (aq _ _ (SG b o e))];rw[ya,ja,xv]
   congr 3
   erw[zy λj r=>(xp r).symm]
  let#[bk,dx,dd,f2,O2,aa,gN,SG]:=z;rw[wb]at aa gN;let au:=SG _ _ U;ext;have ax:∀c o,HA c=some o->c≠p->upd G p (HO.ins a.A6 f ([("looks",V.ref g),("books",V.ref u)]:Ι)) c=some o:=λc o e ς=>yg ς (SG _ _ e);have a5:upd G p (HO.ins a.A6 f ([("looks",V.ref g),("books",V.ref u)]:Ι)) p=some (HO.ins a.A6 f ([("looks",V.ref g),("books",V.ref u)]:Ι)):=ya;have ae:u≠p:=(yb U Y).symm;have ai:upd G p (HO.ins a.A6 f ([("looks",V.ref g),("books",V.ref u)]:Ι)) u\(refs bk n):=yg ae aa;have BP:∀{fs:Ι},But p G (upd G p (HO.ins a.A6 f fs)):=But.upd
  have ab:∀j,j<n->¬O2 j p:=λj r w=>by
   let e:=gN.2.2.1 j p r w;rw[U]at e;cases e
  have aC:∀{G':Hp},But p G G'->Bks K a G' n bk dx lk dd kd ps f2 O2 0:=λ{G'}B=>gN.1.frame (O2:=λc=>c=p) (λc o e ς=>B c o e ς) (λj c r w z=>ab j r (z ▸ w)) (λj r z=>by
   let e:=gN.2.2.2 j r;rw[z,U]at e
   cases e) (λt xs e=>by
   rcases e with(e|⟨o,e⟩)|e
   .erw[.inl (.inl (B _ _ e (λz=>by rw[z,au]at e;cases e)))]
   .erw[.inl (.inr #[o,B _ _ e (λz=>by rw[z,au]at e;cases e)])]
   .erw[.inr e])
  have BB:But p G (upd G p (HO.ins a.A6 f ([("looks",V.ref g),("books",V.ref u)]:Ι))):=But.upd;generalize upd G p (HO.ins a.A6 f ([("looks",V.ref g),("books",V.ref u)]:Ι))=HB at ax a5 ai BB⊢;erw[p,_,f,_,_,J,a5,T.Ak,T.Bu,J,?_,<-ur (SqL.of (ax _ _ I a2)) ?_];rw[wb];ext;intro D mx a8 aG aZ;have SM:yu HB (upd (upd HB mx (.own D)) D (.ins a.Cg mx [])):=λb o e=>by rwa[yn (yb e a8),yn (yb e aG),e]
  erw[D,mx,n,J,n1,n6,ya,λml HC aE MC BC=>#[J,?_]];have SC:yu HB HC:=λb o e=>BC b o (SM b o e) (yb e a8);let aV:=SC _ _ a5;let aB:=SC _ _ ai;have a6:HB ml=none:=SM.free aE;have O:D≠p:=(yb a5 a8).symm;have a0:ml≠p:=(yb a5 a6).symm;ext;exists 'l',λM Z=>?_
  have W:M≠p:=λz=>by rw[z,ya]at Z;cases Z
  have S:HC M=none:=by rw[yn W]at Z;erw[Z]
  have aN:upd (upd HC p (HO.ins a.A6 f ([("looks",V.ref g),("books",V.ref u),("mixer",V.ref D)]:Ι))) M (.lst []) p=some (HO.ins a.A6 f ([("looks",V.ref g),("books",V.ref u),("mixer",V.ref D)]:Ι)):=yg W.symm ya;have ah:upd (upd HC p (HO.ins a.A6 f ([("looks",V.ref g),("books",V.ref u),("mixer",V.ref D)]:Ι))) M (.lst []) M\[]:=ya;have BD:But p HC (upd (upd HC p (HO.ins a.A6 f ([("looks",V.ref g),("books",V.ref u),("mixer",V.ref D)]:Ι))) M (.lst [])):=λb o e ς=>yg (yb e S) (yg ς e);generalize upd (upd HC p (HO.ins a.A6 f ([("looks",V.ref g),("books",V.ref u),("mixer",V.ref D)]:Ι))) M (.lst [])=HD at aN ah BD⊢;ext;exists 'l',λL X=>?_
  have ar:L≠p:=λz=>by rw[z,ya]at X;cases X
  have al:HD L=none:=by rw[yn ar,yn ar]at X;erw[X]
  have aP:upd (upd (upd HD p (HO.ins a.A6 f ([("looks",V.ref g),("books",V.ref u),("mixer",V.ref D),("ended",V.ref M)]:Ι))) p (HO.ins a.A6 f ([("looks",V.ref g),("books",V.ref u),("mixer",V.ref D),("ended",V.ref M),("place",V.int 0)]:Ι))) L (.lst []) p=some (HO.ins a.A6 f ([("looks",V.ref g),("books",V.ref u),("mixer",V.ref D),("ended",V.ref M),("place",V.int 0)]:Ι)):=yg ar.symm ya;have BE:But p HD (upd (upd (upd HD p (HO.ins a.A6 f ([("looks",V.ref g),("books",V.ref u),("mixer",V.ref D),("ended",V.ref M)]:Ι))) p (HO.ins a.A6 f ([("looks",V.ref g),("books",V.ref u),("mixer",V.ref D),("ended",V.ref M),("place",V.int 0)]:Ι))) L (.lst [])):=λb o e ς=>yg (yb e al) (yg ς (yg ς e));generalize upd (upd (upd HD p (HO.ins a.A6 f ([("looks",V.ref g),("books",V.ref u),("mixer",V.ref D),("ended",V.ref M)]:Ι))) p (HO.ins a.A6 f ([("looks",V.ref g),("books",V.ref u),("mixer",V.ref D),("ended",V.ref M),("place",V.int 0)]:Ι))) L (.lst [])=HE at aP BE⊢;ext;have BF:But p HE (upd HE p (.ins a.A6 f (jy (.ref g) (.ref u) (.ref D) (.ref M) (.int 0) (.ref L)))):=But.upd;have a9:upd HE p (.ins a.A6 f (jy (.ref g) (.ref u) (.ref D) (.ref M) (.int 0) (.ref L))) p∩a.A6 f (jy (.ref g) (.ref u) (.ref D) (.ref M) (.int 0) (.ref L)):=ya;generalize upd HE p (.ins a.A6 f (jy (.ref g) (.ref u) (.ref D) (.ref M) (.int 0) (.ref L)))=HF at a9 BF⊢;have ac:But p HC HF:=(BD.trans BE).trans BF;have a1:But p G HF:=λb o e ς=>ac b o (SC _ _ (BB b o e ς)) ς;let aD:=ac _ _ MC.o O;let aA:=ac _ _ MC.l a0;let as:=ac _ _ aB ae;let ap:=BF _ _ (BE _ _ ah W) W;erw[p,f,g,u,D,M,L,0,[],n,0,bk,dx,lk,dd,kd,ps,f2,O2,λi F=>kd0 (kd i),J,a9,as,ap,aC a1,gN.ag,n6,(),ab,λpl sl f' O' H' aI aH aj B' aK aJ ad F' L'=>?_]
  have a3:∀{c:qa},c≠p->HF c=none->G c=none:=λ{c}ς h=>by
   cases e:G c with
   |none=>rfl
   |some o=>rw[a1 _ _ e ς]at h;cases h
  have ao:∀j c,j<n->O2 j c->∃o,G c=some o:=λj c r w=>let ⟨o,ho,_⟩:=(gN.1.b j r).own c w;#[o,ho]
  have nO:∀{c:qa}{o:HO},HF c=some o->yw8 o=false->∀j,j<n->¬O2 j c:=λ{c o}e hi j r w=>by
   let#[o',az,av]:=((aC a1).b j r).own c w;rw[e]at az;cases az;rw[hi]at av;cases av
  have ay:∀j,j<n->¬O2 j D:=λj r w=>by
   let#[o,ho]:=ao j D r w;let e:=BB _ _ ho O;rw[a8]at e;cases e
  have N:∀{c:qa},c≠p->HA c=none->H c=none:=λ{c}ς h=>by
   cases e:H c with
   |none=>rfl
   |some o=>rw[a4 _ _ e ς]at h;cases h
  have R:∀{c:qa},G c=none->HA c=none:=λ{c}h=>SG.free h
  have a7:∀{c:qa},c≠p->HB c=none->G c=none:=λ{c}ς h=>by
   cases e:G c with
   |none=>rfl
   |some o=>rw[BB _ _ e ς]at h;cases h
  have aw:∀{c:qa},HC c=none->HB c=none:=λ{c}h=>SC.free h;erw[k #[f,g,u,D,mx,ml,M,pl,n,bk,dx,lk,dd,sl,kd,ps] f' O' H' #[#[aI,F' _ _ as ae (nO as J),F' _ _ ap W (nO ap J),#[F' _ _ aD O ay,F' _ _ aA a0 (nO aA J)],?_,aH,#[B'.look,λi hi=>(B'.b i hi).up (),B'.dj,B'.nb],aK,aJ,λj r w=>?_,λj r w=>?_,n1,n6],J,J,J,J,λj c r w=>?_,λj r=>?_,?_,λc hc=>?_,F' _ _ (a1 _ _ (SG _ _ I) a2) a2 (nO (a1 _ _ (SG _ _ I) a2) J),yb (SC _ _ (BB _ _ (SG _ _ I) a2)) S,ak] ?_]
  .erw[veu n n1 n6]
  .rcases ad j p r w with v|v
   .erw[ab j r v]
   .rw[a9]at v;cases v
  .rcases ad j D r w with v|v
   .erw[ay j r v]
   .rw[aD]at v;cases v
  .have an:c≠p:=λz=>by
    rw[z]at w;rcases ad j p r w with v|v
    .erw[ab j r v]
    .rw[a9]at v;cases v
   rcases ad j c r w with v|v
   .erw[N an (gN.2.2.1 j c r v)]
   .erw[N an (R (a3 an v))]
  .have aO:bk j≠p:=λz=>by
    let e:=gN.2.2.2 j r;rw[z,U]at e;cases e
   erw[N aO (gN.2.2.2 j r)]
  .erw[N O (R (a7 O a8))]
  .rcases hc with z|z|z|z
   .rw[z];erw[N ae Y]
   .rw[z];erw[N W (R (a7 W (aw S)))]
   .rw[z];erw[N a0 (R (a7 a0 a6))]
   .rw[z];have af:pl≠p:=(yb a9 aj).symm;erw[N af (R (a3 af aj))]
  .intro c o e ς;erw[F' c o (a1 _ _ (SG _ _ (a4 c o e ς)) ς) ς λj r w=>?_];let e2:=gN.2.2.1 j c r w;rw[a4 c o e ς]at e2;cases e2
theorem yev:∀(ts:Ο)(q j:Nat)(s:Int),ts[q]?=some s->j<=8->(dec ts)[9*q+j]?=(1::b8 s)[j]?
 |[],_,_,_,h,_=>by simp at h
 |t::r,0,j,s,h,hj=>by
  have e:t=s:=by simpa using h
  subst e;show ((1::b8 t)++dec r)[9*0+j]?=_;rw[Nat.mul_zero,Nat.zero_add,c8 (by rw[bN,ysd];omega)]
 |t::r,q+1,j,s,h,hj=>by
  have b:r[q]?=some s:=by simpa using h
  show ((1::b8 t)++dec r)[9*(q+1)+j]?=_;have a:(1::b8 t).length=9:=rfl;rw[cB (by rw[a];omega),a,show 9*(q+1)+j-9=9*q+j by omega];erw[yev r q j s b hj]
def yus(ts:Ο):(dec ts)[9*ts.length]?=some 0:=by rw[ypk,cB (by rwa[Ë,bx _]),Ë,Nat.sub_self];rfl
def yfl(ts:Ο)(k:Nat)(sg:Ο)(nd:Int):Prop:=∃q j:Nat,k=9*q+j/\j<=8/\sg=ts.take q/\((j=0/\nd=0/\q<=ts.length)\/(1<=j/\∃s,ts[q]?=some s/\nd=(256+s)/2^(9-j)))
def vh8{s P c:Int}(h:0<=s/\s<=255)(hP:2<=P)(hc:P*(2*c)=256)(c1:1<=c/\c<=64):0<(256+s)/(2*P)/\2*((256+s)/(2*P))+s/P%2<256/\2*((256+s)/(2*P))+s/P%2=(256+s)/P:=by
 have a:(256+s)/P=s/P+2*c:=by rw[<- hc,Int.add_comm,Int.add_mul_ediv_left _ _ ()]
 have b:(256+s)/(2*P)=(s/P+2*c)/2:=by rw[<- a,Int.ediv_ediv_of_nonneg (show 0<=P by omega),Int.mul_comm]
 let e:=Int.ediv_nonneg h.1 (show 0<=P by omega);let d:=Int.ediv_lt_of_lt_mul (show 0<P by omega) (show s<128*P by omega);rw[a,b];generalize s/P=y at e d;clear hc a b hP h;omega
def nd9{s:Int}(h:0<=s/\s<=255)(h1:1<=j)(hj:j<=8):0<(256+s)/2^(9-j)/\(256+s)/2^(9-j)<256:=by
 have a:∀j,j<9->1<=j->(2:Int)<=2^(9-j)/\(2:Int)^(9-j)<=256:=∅
 let#[b,c]:=a j (Nat.lt_succ_of_le hj) h1;generalize (2:Int)^(9-j)=K at b c;erw[Int.le_ediv_of_mul_le () (),Int.ediv_lt_of_lt_mul () ()]
def yfl.zero(ts:Ο):yfl ts 0 [] 0:=#[0,0,J,(),'s',.inl #[J,J,bR _]]
theorem yfl.nd{k:Nat}{sg:Ο}{nd:Int}(h:yfl ts k sg nd)(hs:Sgs ts):0<=nd/\nd<256:=by
 let#[q,j,_,e,_,h]:=h;rcases h with⟨_,h,_⟩|⟨d,s,c,h⟩
 .omega
 .let#[a,b]:=nd9 (hs s (bM c)) d e;rwa[h,#[Int.le_of_lt a,b]]
def yfl.len{k:Nat}{sg:Ο}{nd:Int}(h:yfl ts k sg nd):sg.length<=ts.length:=by let#[q,j,_,_,a,_]:=h;rw[a,bT];omega
def yfl.next{k:Nat}{sg:Ο}{nd b:Int}(h:yfl ts k sg nd)(hs:Sgs ts)(hb:(dec ts)[k]?=some b):
  (k<9*ts.length/\yfl ts (k+1) (sgN sg nd b) (ndN nd b))\/(k=9*ts.length/\sgN sg nd b=[]/\ndN nd b=0):=by
 let#[q,j,p,v,g,h]:=h;rcases h with⟨w,d,A⟩|⟨D,s,a,d⟩
 .subst w;rcases Nat.lt_or_ge q ts.length with m|m
  .erw[.inl #[(),?_]];let e:=yev ts q 0 ts[q] (bp m) ();rw[<- p,hb]at e;have e:b=1:=by simpa using e
   have:=hs ts[q] (bW m);unfold sgN ndN;rwa[if_neg (),if_pos e,if_neg (),if_pos e,#[q,1,(),(),g,.inr #[(),ts[q],bp m,?_]]]
   simp only[Nat.reduceSub,Int.reducePow];omega
  .have r:q=ts.length:=()
   let e:=yus ts;rw[<- r,show 9*q=k by omega,hb]at e;have e:b=0:=by simpa using e
   erw[.inr #[(),?_,?_]]
   .unfold sgN;rw[if_neg (),if_neg ()]
   .unfold ndN;rwa[if_neg (),if_neg (),d]
 .let n:=hs s (bM a);have m:q<ts.length:=(bJ.mp a).1;let e:=yev ts q j s a v;rw[<- p,hb]at e
  have l:some b=(b8 s)[j-1]?:=by
   obtain⟨i,rfl⟩:∃i,j=i+1:=#[j-1,()];simpa using e
  erw[.inl #[(),?_]];by_cases h8:j=8
  .subst h8;have l:b=s/1%2:=bL l;simp only[Nat.reduceSub,Int.reducePow]at d;have B:2*nd+b=256+s:=()
   unfold sgN ndN;rwa[if_pos (),if_pos (),if_pos (),if_pos (),#[q+1,0,(),(),?_,.inl #[J,J,()]]]
   rw[g,show 2*nd+b-256=s by omega,ā a]
  .have o:0<nd/\2*nd+b<256/\2*nd+b=(256+s)/2^(9-(j+1)):=by
    have k:∀P c:Int,2<=P->P*(2*c)=256->1<=c/\c<=64->nd=(256+s)/(2*P)->b=s/P%2->0<nd/\2*nd+b<256/\2*nd+b=(256+s)/P:=λP c x y z e f=>by
     rwa[e,f,vh8 n x y z]
    clear p hb e g m hs;obtain rfl|rfl|rfl|rfl|rfl|rfl|rfl:j=1\/j=2\/j=3\/j=4\/j=5\/j=6\/j=7:=()
    .erw[k 128 1 ∅ J ∅ d (bL l)]
    .erw[k 64 2 ∅ J ∅ d (bL l)]
    .erw[k 32 4 ∅ J ∅ d (bL l)]
    .erw[k 16 8 ∅ J ∅ d (bL l)]
    .erw[k 8 16 ∅ J ∅ d (bL l)]
    .erw[k 4 32 ∅ J ∅ d (bL l)]
    .erw[k 2 64 ∅ J ∅ d (bL l)]
   let#[t,C,u]:=o;unfold sgN ndN;rwa[if_pos t,if_neg (),if_pos t,if_neg (),#[q,j+1,(),(),g,.inr #[(),s,a,u]]]
theorem γ.up{H:Hp}{p:qa}{A:FA}{X:FX}{f:Α}{m:Nat}(h:γ K a H p A X f O m)(hm:m<=m'):γ K a H p A X f O m' :=
 #[h.me,h.bl,h.el,h.mx,h.wok,h.pl,#[h.B.look,λi c=>(h.B.b i c).up hm,h.B.dj,h.B.nb],h.ag,h.at',h.np,h.nm,h.n1,h.n6]
structure Lw(K:xy)(a:Ads)(H:Hp)(p:qa)(A:FA)(X:FX)(f:Α)(O:Β)(m:Nat)(bk dx dd:Λ)(f2:Α)(O2:Β)(mp mx ml:qa)(ws:Ο):Prop where
 ft:γ K a H p A X f O m
 bs:Bks K a H A.n bk dx A.lk dd A.kd A.ps f2 O2 m
 mx:yiz a mp mx ml ws H
 dj:∀i j c,i<A.n->j<A.n->O i c->¬O2 j c
 n1:∀i j,i<A.n->j<A.n->¬O i (bk j)
 n2:∀i j,i<A.n->j<A.n->¬O2 i (A.bk j)
 n3:∀i,i<A.n->¬O2 i p/\¬O2 i A.mp/\¬O2 i mp/\¬O i mp
 n4:mp≠A.mp
 n5:ml≠A.el
end
section
variable{H H':Hp}{p:qa}{A:FA}{X:FX}{f:Α}{m:Nat}{bk dx dd:Λ}{f2:Α}{mp mx ml:qa}{ws:Ο}
def ji{C d e:qa}{fs gs:Ι}(hp:H p∩C d fs)(hq:H q∩D e gs)(hl:fs.length≠gs.length):p≠q:=λz=>by
 rw[z,hq]at hp;injection hp with hp;injection hp with _ _ e;erw[hl (congrArg List.length e).symm]
end
mutual
def KpA(B G:Hp)(e0 e:qa):Prop:=∀c o,B c=some o->yw8 o=false->c≠e0->c≠e/\G c=some o
theorem KpA.lst{B G:Hp}{e0 e c:qa}{xs:Τ}(h:KpA B G e0 e)(hc:B c\xs)(ne:c≠e0):G c\xs:=(h c _ hc J ne).2
def TxE(ts:Ο)(k:Nat)(sg:Ο)(nd:Int):Prop:=(k<=9*ts.length/\yfl ts k sg nd)\/(k=9*ts.length+1/\sg=[]/\nd=0)
theorem TxE.next{k:Nat}{sg:Ο}{nd b:Int}(h:TxE ts k sg nd)(hs:Sgs ts)(hb:(dec ts)[k]?=some b):yfl ts k sg nd/\TxE ts (k+1) (sgN sg nd b) (ndN nd b):=by
 rcases h with⟨c,h⟩|⟨c,_⟩
 .erw[h,?_];rcases h.next hs hb with⟨e,a⟩|⟨e,a,d⟩
  .erw[.inl #[(),a]]
  .erw[.inr #[(),a,d]]
 .rw[c,ci (by rwa[jd,bx _])]at hb;cases hb
#synth yzb ["self"] vcz
#synth ∀(K:xy)(a:Ads),∀(p:qa)(A:FA)(X:FX)(f:Α)(O:Β)(m:Nat)(_:vs=[.ref p])(_:γ K a H p A X f O m)(_:∀r H',H r=none->H' r\((X.cs A).map V.int)->yu H H'->Q (.ref r) H'),yd8
def yqk:'v' 2 a.P4 a.Rn ["self"] (yd8 K a):=by
 exists T.Hb.F.ok,yzb,o;let#[p,c,X,f,O,m,J,h,k]:=h;let L:=h.me;let M:=h.n6;exists 1,0,yc (yp (wx (js:=[]) (ys:=[]) J (xr pfs) (λC ς r I=>(ò (vg (pv 0) T.B0 T.Ln.m (yze T) o.m T.Ln.B .nil vo) (ò (vg (pv 0) T.Bi T.Lr.m (yyq T) o.m T.Lr.B .nil vo) (vg (pv 0) T.Bp T.Lv.m (vb7 T) o.m T.Lv.B .nil vo)))) J J (hyc:=yv) (hrel:=yv)));erw[c.pl,J,#[_,SqL.of h.pl],λD e=>?_,<-j4 (K:=K) (xs:=refs c.sl c.n) (Mp H D (λi=>V.int (X.g i (X.key c i)).due)) (Mp.zero e) (λZ Z Z q=>q.1.seq (SqL.of h.pl)) (λi y r x G q=>?_) (λr q=>?_)]
 .let#[d,b]:=q;let#[J,l]:=È x;let#[_,#[R,z],v,_]:=h.slot l;erw[yi7 (λN h=>ywy J h) (d _ _ z) v ?_,<-Mp.doneR e (vv (by rw[wb];omega)) G d b J]
 .let#[d,b]:=q;rw[wb]at b;erw[k D _ e ?_ d];rw[b];unfold FX.cs;rw[cn];rfl
#synth yy7 ["self"] vfb
#synth ∀(K:xy)(a:Ads),∀(p:qa)(A:FA)(X:FX)(f:Α)(O:Β)(m:Nat)(_:vs=[.ref p])(_:γ K a H p A X f O m)(_:∀H',yu H H'->Q (.int (ym7 X.ws (X.cs A))) H'),yhn
def ys0:'v' 3 a.P5 a.Ro ["self"] (yhn K a):=by exists T.Hc.F.ok,yy7,g;let#[p,b,X,f,O,m,J,h,k]:=h;let u:=h.me;let t:=h.mx.o;exists 1,0,yc (yp (xl pfs T.Fo T.M8.m (yzq T) g.m T.M8.B .nil vo (pa1 (vg (pv 0) T.Ak T.Hb.m (yqk T) g.m T.Hb.B .nil vo))));erw[p,b,X,f,O,m,J,h,λr x q c e=>?_,←b.mp,b.mx,b.ml,r,X.ws,X.cs b,b.n,J,h.n1,h.n6,h.wok,h.cok,h.mx.same e,SqL.of c,λv i=>k _ (e.trans i)]
#synth vb0 ["self","bit"] vfn
#synth ∀(a:Ads),∀(p dp ll bl mp el pl:qa)(nd b:Int)(sg:Ο)(_:vs=[.ref p,.int b])(_:H p∩a.A6 dp (jy (.ref ll) (.ref bl) (.ref mp) (.ref el) (.int nd) (.ref pl)))(_:H el\(sg.map V.int))(_:sg.length<=100000)(_:0<nd)(_:∀H',H' p∩a.A6 dp (jy (.ref ll) (.ref bl) (.ref mp) (.ref el) (.int (ndN nd b)) (.ref pl))->H' el\((sgN sg nd b).map V.int)->(∀c o,H c=some o->c≠p->c≠el->H' c=some o)->Q .non H'),yuu
def yzy:'v' 1 a.P8 a.Rr ["self","bit"] (yuu a):=by
 exists T.Md.F.ok,vb0,O;let#[p,m,q,l,r,i,n,g,b,B,J,L,C,M,y,k]:=h;erw[_,(yh (vj (pv 0) (yo wl (yo xk yd pfs) (pv 1)) J) (yc (vq (yt veg pfs (vw J T.Dw) (ve _)) (yh (yw ('u' pfs (pa1 (yo jg pfs (vw J T.Dw))))) (yc (vj (pv 0) yd J))) yy))),?_];exists 2,0;unfold ndN sgN at k;rw[if_pos y,if_pos y]at k;have j:i≠p:=uc C L 'z';ext;have f:upd H p (.ins a.A6 m (jy (.ref q) (.ref l) (.ref r) (.ref i) (.int (2*g+b)) (.ref n))) p∩a.A6 m (jy (.ref q) (.ref l) (.ref r) (.ref i) (.int (2*g+b)) (.ref n)):=ya;let d:=yg (o':=HO.ins a.A6 m (jy (.ref q) (.ref l) (.ref r) (.ref i) (.int (2*g+b)) (.ref n))) j C;have x:But p H (upd H p (.ins a.A6 m (jy (.ref q) (.ref l) (.ref r) (.ref i) (.int (2*g+b)) (.ref n)))):=But.upd;generalize upd H p (.ins a.A6 m (jy (.ref q) (.ref l) (.ref r) (.ref i) (.int (2*g+b)) (.ref n)))=N at f d x⊢;ext;erw[za (λt=>?_) (λt=>?_)]
 .rw[if_pos t,if_pos t]at k;ext;erw[υ d ?_,←uw d (vv (by rw[bo];omega)) ?_];let I:=yg (o':=HO.lst (List.map V.int B++[V.int (2*g+b-256)])) (Ne.symm j) f;ext;erw[k _ ya ?_ λc o e u D=>yg u (yg D (x _ _ e u))];rw[yn j,ya,bA];rfl
 .rw[if_neg t,if_neg t]at k;ext;erw[k _ f d λc o e u D=>x _ _ e u]
#synth vbo ["self","bit"] vd7
#synth ∀(a:Ads),∀(p dp ll bl mp el pl:qa)(nd b:Int)(sg:Ο)(_:vs=[.ref p,.int b])(_:H p∩a.A6 dp (jy (.ref ll) (.ref bl) (.ref mp) (.ref el) (.int nd) (.ref pl)))(_:H el\(sg.map V.int))(_:sg.length<=100000)(_:0<=nd)(_:∀(el':qa)H',(el'=el\/H el'=none)->H' p∩a.A6 dp (jy (.ref ll) (.ref bl) (.ref mp) (.ref el') (.int (ndN nd b)) (.ref pl))->H' el'\((sgN sg nd b).map V.int)->(∀c o,H c=some o->c≠p->c≠el->H' c=some o)->(∃o,H' el=some o)->Q .non H'),ypb
def vaq:'v' 2 a.P7 a.Rq ["self","bit"] (ypb a):=by
 exists T.Mc.F.ok,vbo,R;let#[p,y,G,v,I,g,D,x,b,C,J,j,i,N,W,k]:=h;erw[_,(yc (vq (yt yfi pfs yd (ve _)) (yc (yw (xl (pv 0) T.Ak T.Md.m (yzy T) R.m T.Md.B .nil vo (pav 1)))) (yc (vq (yt xj (pv 1) yd (ve _)) (yc (vj (pv 0) yd J)) (yc (vj (pv 0) (vn xo) J)))))),?_];exists 2,0;have d:g≠p:=uc i j 'z';ext;erw[za (λl=>?_) (λl=>?_)]
 .ext;erw[p,y,G,v,I,g,D,x,b,C,J,j,i,N,l,λU M u S=>k g U (.inl J) M u S #[_,u]]
 .unfold ndN sgN at k;rw[if_neg l,if_neg l]at k;ext;refine za (λf=>?_) (λf=>?_)
  .rw[if_pos f,if_pos f]at k;ext;erw[k g _ (.inl J) ya (yg d i) (λc o e t Z=>yg t e) #[_,yg d i]]
  .rw[if_neg f,if_neg f]at k;ext;exists 'l',λr hr0=>?_
   exists hr0,H1,S1,e1;let ς:=S1 _ _ j;ext;have n:r≠p:=λz=>by rw[z,j]at hr0;cases hr0
   erw[k r _ (.inr hr0) ya (yg n e1) (λc o e t Z=>yg t (S1 _ _ e)) #[_,yg d (S1 _ _ i)]]
noncomputable abbrev FA.re(A:FA)(ml el pl:qa)(sl:Λ):FA:={A with ml:=ml,el:=el,pl:=pl,sl:=sl}
noncomputable def FX.run(A:FA)(X:FX):qj Int->FX
 |[]=>X
 |b::r=>FX.run A (X.see A b) r
theorem Ċ(A:FA):∀(bs cs:Ο)(X:FX),X.run A (bs++cs)=(X.run A bs).run A cs
 |[],_,_=>rfl
 |b::r,cs,X=>Ċ A r cs (X.see A b)
def yov(A:FA)(bs:Ο)(b:Int)(X:FX):X.run A (bs++[b])=(X.run A bs).see A b:=Ċ A bs [b] X
noncomputable def fa0(n:Nat)(ps:Κ):FA:={ dp:=0,ll:=0,bl:=0,mp:=0,mx:=0,ml:=0,el:=0,pl:=0,n:=n,bk:=λZ=>0,dx:=λZ=>0,lk:=λZ=>0,dd:=λZ=>0,sl:=λZ=>0,kd:=λZ=>0,ps:=ps}
theorem yex(A:FA):∀(bs:Ο)(X:FX),X.run A bs=X.run (fa0 A.n A.ps) bs
 |[],_=>rfl
 |b::r,X=>yex A r (X.see A b)
def yw2(H:Hp)(A:FA):Prop:=H A.ll=some (.lst (refs A.lk A.n))/\A.ll≠A.el/\∃tp,uk H A.n A.lk A.kd tp A.ps
theorem yw2.same{H H':Hp}{A:FA}(h:yw2 H A)(S:yu H H'):yw2 H' A:=#[S _ _ h.1,h.2.1,let ⟨tp,r⟩:=h.2.2;#[tp,r.same S]]
structure Go(W:Μ)(H H':Hp)(W':Μ):Prop where
 fr:∀c o,H c=some o->¬W c->H' c=some o
 nw:∀c,W' c->W c\/H c=none
 lv:∀c o,H c=some o->∃o',H' c=some o'
def Go.free{W:Μ}{H H':Hp}(h:Go W H H' W'){c:qa}(e:H' c=none):H c=none:=by
 cases z:H c with
 |none=>rfl
 |some o =>
  let#[a,w]:=h.lv c o z;rw[e]at w;cases w
def Go.refl{W:Μ}{H:Hp}:Go W H H W:=#[λZ Z e Z=>e,λZ w=>.inl w,λZ o e=>#[o,e]]
def Go.trans{W W1 W2:Μ}{H H1 H2:Hp}(h:Go W H H1 W1)(k:Go W1 H1 H2 W2):Go W H H2 W2:=by
 erw[λc o e a=>k.fr c o (h.fr c o e a) λw=>?_,λc w=>?_,λc o e=>?_]
 .rcases h.nw c w with v|v
  .erw[a v]
  .rw[e]at v;cases v
 .rcases k.nw c w with v|v
  .erw[h.nw c v]
  .erw[.inr (h.free v)]
 .let#[d,b]:=h.lv c o e;erw[k.lv c d b]
def Go.same{W:Μ}{H H1 H2:Hp}(h:Go W H H1 W')(S:yu H1 H2):Go W H H2 W':=#[λc o e a=>S _ _ (h.fr c o e a),h.nw,λc o e=>let ⟨o',w⟩:=h.lv c o e;#[o',S _ _ w]]
def Go.ahead{W:Μ}{H H1 H2:Hp}(S:yu H H1)(h:Go W H1 H2 W'):Go W H H2 W':=#[λc o e=>h.fr c o (S _ _ e),λc w=>(h.nw c w).imp id S.free,λc o e=>h.lv c o (S _ _ e)]
def Go.apart{W:Μ}{H H':Hp}(h:Go W H H' W')(hU:∀c,U c->∃o,H c=some o)(dj:∀c,U c->¬W c):∀c,U c->¬W' c:=λc u w=>by
 rcases h.nw c w with v|v
 .erw[dj c u v]
 .let#[o,e]:=hU c u;rw[v]at e;cases e
end
section
variable{H H':Hp}{p:qa}{n:Nat}{kd:Ν}{ps:Κ}{X:FX}{M:Nat}{W:Μ}
def yuq{g:Λ}(h:1<=n):(refs g n)[0]?=some (.ref (g 0)):=by unfold refs;rw[bB,cQ h];rfl
end
mutual
#synth ys1 ["self","bit","slot"] ["self","bit"] vec
inductive yvc(K:xy)(a:Ads)(vs:Τ)(H:Hp)(Q:VK)(E':XK):Prop
 | mk(p:qa)(A:FA)(X:FX)(f:Α)(O:Β)(m:Nat)(b:Int)(_:vs=[.ref p,.int b])(_:γ K a H p A X f O m)(_:0<=b)(_:b<=1)(_:m+20<1000000)(_:0<=X.nd)(_:X.sg.length<=100000)(_:∀(ml el pl:qa)(sl:Λ)(f':Α)(O':Β)(H':Hp),(el=A.el\/H el=none)->γ K a H' p {A with ml:=ml,el:=el,pl:=pl,sl:=sl} (X.see A b) f' O' (m+A.n)->(∀j c,j<A.n->O' j c->O j c\/H c=none) ->
  (∀c o,H c=some o->c≠p->c≠A.mp->c≠A.el->(∀j,j<A.n->¬O j c)->H' c=some o)->(∀c o,H c=some o->∃o',H' c=some o')->H ml=none->Q .non H')
def yry:'v' 6 a.P6 a.Rp ["self","bit"] (yvc K a):=by
 exists T.Hd.F.ok,ys1,hr;let#[p,d,X,f,O,m,b,J,h,b0,b1,hm,aD,au,k]:=h;let hp:=h.me;let ac:=h.mx.o;let n6:=h.n6;let I:=vbk b0 b1;erw[yi (yw (uz (ŋ T) hr.m T.Du wa (pav 1))) ?_,<-yi (yw (vi pfs T.Fo T.M9.m (vb5 T) hr.m T.M9.B .nil wa (pac (vg (pv 0) T.Ak T.Hb.m (yqk T) hr.m T.Hb.B .nil vo) (pav 1)))) ?_,<-yi (jt PassesOwn.never J (xr pfs) (xb (i:=2) ys1.nd J (Or.inl J)) (yc (yw (ò (vi (pv 2) T.B0 T.Lo.m (yzr T) hr.m T.Lo.B .nil wa (pav 1)) (ò (vi (pv 2) T.Bi T.Ls.m (vbm T) hr.m T.Ls.B .nil wa (pav 1)) (vi (pv 2) T.Bp T.Lx.m (yx7 T) hr.m T.Lx.B .nil wa (pav 1))))))) ?_,<-yi (yw (xl (pv 0) T.Ak T.Mc.m (vaq T) hr.m T.Mc.B .nil vo (pav 1))) ?_];exists 2,1,yc (yw (vg (pv 0) T.Ak T.Ee.m (ymv T) hr.m T.Ee.B .nil vo));erw[.int b,_,J,.int b,λF=>?_,λz=>(by rw[I]at z;cases z),←p,d,X,f,O,m,J,h,λr H1 aK aq S1=>?_];let L:=S1 _ _ ac;ext;erw[d.mp,d.mx,d.ml,r,X.ws,X.cs d,d.n,.int b,_,J,h.n1,n6,h.wok,h.cok,h.mx.same S1,SqL.of aq,.int b,λb' e F F ml H2 a7 M2 Z=>?_,λz=>(by rw[I]at z;cases z)];cases e;let N:=h.same S1
 have a9:p≠d.mp:=λz=>by
  have:=h.me;rw[z,ac]at this;injection this with this;injection this with _ _ e;erw[absurd (congrArg List.length e) (show ¬(1=6) by decide)]
 let ay:=Z _ _ N.me a9;have af:∀{l:qa}{xs:Τ},H1 l\xs->l≠d.mp:=λ{l xs}e z=>by rw[z,L]at e;cases e
 let a8:=Z _ _ N.bl (af N.bl);let a6:=Z _ _ N.el (af N.el);let a0:=Z _ _ N.pl (af N.pl)
 let U:=N.B.frame (O2:=λc=>c=d.mp) (λc o e ne=>Z c o e ne) (λj c q w z=>h.nm j q (z ▸ w)) (λj q z=>by
  have:=(N.B.b j q).me;rw[z,L]at this;injection this with this;injection this with _ _ e
  erw[absurd (congrArg List.length e) (show ¬(1=2) by decide)]) (λt xs e=>by
  rcases e with(e|⟨o,e⟩)|e
  .erw[.inl (.inl (Z _ _ e (λz=>by rw[z,L]at e;cases e)))]
  .erw[.inl (.inr #[o,Z _ _ e (λz=>by rw[z,L]at e;cases e)])]
  .erw[.inr e])
 have as:∀j,j<d.n->(∃s,f j (X.key d j)=some s)/\AtS H2 (d.dd j) (X.key d j) (d.sl j):=λj q=>#[(N.at' j q).1,(N.at' j q).2.told (N.B.b j q) (λz=>h.nm j q (by rwa[<- z,(N.B.b j q).dO])) Z];ext;erw[d.pl,J,#[_,SqL.of a0],jp (K:=K) (a:=d.pl) (xs:=refs d.sl d.n) (λi σ2 G=>∃(v:ql V)(f':Α),σ2=[some (.ref p),some (.int b),v]/\Bks K a G d.n d.bk d.dx d.lk d.dd d.kd d.ps f' O m/\
   (∀j,j<d.n->∀k,(f' j k).getD (kd0 (d.kd j))=if j<i/\k=X.key d j then (X.g j k).see b else X.g j k)/\(∀j,j<d.n->(∃s,f' j (X.key d j)=some s)/\AtS G (d.dd j) (X.key d j) (d.sl j))/\(∀c o,H2 c=some o->(∀j,j<d.n->¬O j c)->G c=some o))
  #[_,f,J,U,λj q M=>by rwa[if_neg (λz=>absurd z.1 (bS j)),h.ag j q M],as,λc o e F=>e] (by rintro i σ2 G _ ⟨_,_,_,_,_,_,w⟩;erw[SqL.of (w _ _ a0 (U.nlst a0))]) ?_ ?_]
 .rintro i y σ2 G hy ⟨v,f',rfl,S,gA,gS,gF⟩;let#[J,D]:=È hy;let#[#[s',ad],ae]:=gS i D
  have es:s'=X.g i (X.key d i):=by
   have:=gA i D (X.key d i);rw[ad,if_neg (λz=>absurd z.1 (cU i))]at this;erw[this]
  let#[dq,hq,ok,aI,ax]:=(S.b i D).slot ad ae;ext;erw[yt4 (x:=.int b) (λQ' h=>?_) (λQ' h=>?_) hq ok (.int b) (λb' e F F G3 h3 B3=>?_) (λz=>by rw[I]at z;cases z) (λz=>by rw[I]at z;cases z) (λz=>by rw[I]at z;cases z)]
  .ext;erw[h]
  .ext;erw[h]
  cases e;let av:=(S.b i D).told ad ae b0 b1 h3 B3;have BO:ypr (O i) G G3:=λc o e no=>B3 _ _ e λz=>no (by rwa[z,ax]);let M3:=S.move D (bx m) av (λc w=>.inl w) BO
  have eO:(λj=>if j=i then O i else O j)=O:=by
   funext j
   by_cases z:j=i
   .rw[if_pos z,z]
   .rw[if_neg z]
  rw[eO]at M3
  have aE:d.dd i≠d.sl i:=λz=>by
   let#[aL,aH,w1,_]:=(S.b i D).tb;let#[C,fs,eo]:=ó a dq s';rw[z,hq,eo]at w1;cases w1
  ext;erw[_,_,J,M3,λj q M=>?_,λj q=>?_,λc o e no=>?_]
  .try dsimp only
   by_cases z:j=i
   .subst z;rw[if_pos J];unfold ģ;by_cases w:M=X.key d j
    .rw[if_pos w,if_pos #[Nat.lt_succ_self j,w],w,<- es];rfl
    .rw[if_neg w,if_neg (λz=>w z.2)];have:=gA j q M;rw[if_neg (λz=>w z.2)]at this;erw[this]
   .rw[if_neg z,gA j q M];have:(j<i/\M=X.key d j)↔(j<i+1/\M=X.key d j):=by constructor<;>(rintro ⟨u,v⟩;erw[(),v])
    by_cases w:j<i/\M=X.key d j
    .rw[if_pos w,if_pos (this.mp w)]
    .rw[if_neg w,if_neg (λz=>w (this.mpr z))]
  .try dsimp only
   by_cases z:j=i
   .subst z;rwa[if_pos J,#[#[s'.see b,?_],ae.told (S.b j D) aE B3]];unfold ģ;rw[if_pos J]
   .rw[if_neg z];erw[(gS j q).1,(gS j q).2.move S q D z BO]
  .erw[BO _ _ (gF c o e no) (no i D)]
 .rintro σ2 G ⟨v,f',rfl,S,gA,gS,gF⟩;rw[wb]at gA;let gp:=gF _ _ ay h.np;let R:=gF _ _ a6 (U.nlst a6);let al:=gF _ _ a8 (U.nlst a8);let Y:=gF _ _ M2.o h.nm;let ak:=gF _ _ M2.l (U.nlst M2.l);ext;erw[p,d.dp,d.ll,d.bl,d.mp,d.el,d.pl,X.nd,b,X.sg,J,gp,R,au,aD,λel H4 ai ab a5 F4 L4=>?_];have aj:∀{l:qa}{xs:Τ},G l\xs->l≠p:=λ{l xs}e z=>by rw[z,gp]at e;cases e
  have ao:∀j,j<d.n->¬O j p:=h.np;let ah:=S.nlst R
  let a3:=S.frame (O2:=λc=>c=p\/c=d.el) (λc o e ne=>F4 c o e (λz=>ne (.inl z)) (λz=>ne (.inr z))) (λj c q w z=>by
   rcases z with z|z
   .erw[ao j q (z ▸ w)]
   .erw[ah j q (z ▸ w)]) (λj q z=>by
   have:=(S.b j q).me;rcases z with z|z
   .rw[z,gp]at this;injection this with this;injection this with _ _ e;erw[absurd (congrArg List.length e) (show ¬(6=2) by decide)]
   .rw[z,R]at this
    cases this) (λt xs e=>by
   rcases e with(e|⟨o,e⟩)|e
   .erw[.inl (.inl (F4 _ _ e (λz=>by rw[z,gp]at e;cases e) (λz=>by rw[z,R]at e;cases e)))]
   .erw[.inl (.inr #[o,F4 _ _ e (λz=>by rw[z,gp]at e;cases e) (λz=>by rw[z,R]at e;cases e)])]
   .erw[.inr e])
  have an:d.bl≠d.el:=λz=>by
   let e:=h.bl;rw[z,h.el]at e;injection e with e;injection e with e;let e0:=congrArg (λl:Τ=>l[0]?) e
   have r0:(refs d.bk d.n)[0]?=some (.ref (d.bk 0)):=by
    unfold refs;rw[bB,cQ h.n1];rfl
   try dsimp only at e0
   rw[r0,bB]at e0
   cases hs:X.sg[0]? with
   |none=>rw[hs]at e0;cases e0
   |some c=>rw[hs]at e0;cases e0
  have aF:ml≠d.el:=(yb N.el a7).symm;let a4:=F4 _ _ al (aj al) an;let ap:=F4 _ _ Y (Ne.symm a9) (λz=>by rw[z,R]at Y;cases Y);let aa:=F4 _ _ ak (aj ak) aF
  have a1:∀c o,H c=some o->∃W,H4 c=some W:=λc o e=>by
   by_cases zp:c=p
   .erw[_,zp ▸ ab]
   by_cases ze:c=d.el
   .rw[ze];erw[L4]
   have gc:∃W,G c=some W:=by
    by_cases zm:c=d.mp
    .erw[_,zm ▸ Y]
    by_cases zo:∀j,j<d.n->¬O j c
    .erw[o,gF _ _ (Z _ _ (S1 _ _ e) zm) zo]
    .have:∃j,j<d.n/\O j c:=Classical.byContradiction λw=>zo λj q w'=>w #[j,q,w'];let#[j,q,w]:=this;let#[W,ς,_]:=(S.b j q).own c w;erw[W,ς]
   let#[W,ς]:=gc;erw[W,F4 _ _ ς zp ze]
  have aC:ym6 d.n d.kd f' (X.see d b).g:=λj q M=>by
   rw[gA j q M];show _=if M=X.key d j then (X.g j M).see b else X.g j M;by_cases w:M=X.key d j
   .rw[if_pos #[q,w],if_pos w]
   .rw[if_neg (λz=>w z.2),if_neg w]
  ext;erw[p,d.dp,d.ll,d.bl,d.mp,el,d.pl,ndN X.nd b,sgN X.sg X.nd b,d.n,m,d.bk,d.dx,d.lk,d.dd,d.kd,d.ps,f',O,(X.see d b).g,J,ab,a4,a5,a3,aC,n6,(),h.np,λpl sl f2 O2 H5 ar aw aG B5 az aA am F5 L5=>?_]
  have a2:∀{l:qa}{xs:Τ},H4 l\xs->l≠p:=λ{l xs}e z=>by rw[z,ab]at e;cases e
  have n2:∀j c,j<d.n->O2 j c->O j c\/H c=none:=λj c q w=>by
   rcases am j c q w with v|v
   .erw[.inl v]
   .refine .inr ?_
    cases e:H c with
    |none=>rfl
    |some o =>
     let#[W,ς]:=a1 c o e;rw[ς]at v;cases v
  erw[k ml el pl sl f2 O2 H5 ?_ #[ar,F5 _ _ a4 (a2 a4) (a3.nlst a4),F5 _ _ a5 (a2 a5) (a3.nlst a5),#[F5 _ _ ap (Ne.symm a9) h.nm,F5 _ _ aa (a2 aa) (a3.nlst aa)],yq2 h.n1 n6 h.wok h.cok,aw,B5,az,aA,λj q w=>?_,λj q w=>?_,h.n1,n6] n2 (λc o e c1 c2 c3 no=>F5 _ _ (F4 _ _ (gF _ _ (Z _ _ (S1 _ _ e) c2) no) c1 c3) c1 no) (λc o e=>let ⟨W,w⟩:=a1 c o e;L5 c W w) (S1.free a7)]
  .rcases ai with z|z
   .erw[.inl z]
   .refine .inr ?_
    cases e:H el with
    |none=>rfl
    |some o =>
     exfalso;by_cases zp:el=p
     .rw[zp,gp]at z;cases z
     by_cases zm:el=d.mp
     .rw[zm,Y]at z;cases z
     by_cases zo:∀j,j<d.n->¬O j el
     .rw[gF _ _ (Z _ _ (S1 _ _ e) zm) zo]at z;cases z
     .have:∃j,j<d.n/\O j el:=Classical.byContradiction λw=>zo λj q w'=>w #[j,q,w'];let#[j,q,w]:=this;let#[W,ς,_]:=(S.b j q).own el w;rw[ς]at z;cases z
  .rcases n2 j p q w with v|v
   .erw[h.np j q v]
   .rw[hp]at v;cases v
  .rcases n2 j d.mp q w with v|v
   .erw[h.nm j q v]
   .rw[ac]at v;cases v
def Ġ{A:FA}{X:FX}{bs:Ο}{k:Nat}{b:Int}(h:bs[k]?=some b):X.run A (bs.take (k+1))=(X.run A (bs.take k)).see A b:=by rw[ā h,yov]
structure FGo(p:qa)(A:FA)(O:Β)(H H':Hp)(el:qa)(O':Β):Prop where
 he:el=A.el\/H el=none
 hO:∀j c,j<A.n->O' j c->O j c\/H c=none
 fr:∀c o,H c=some o->c≠p->c≠A.mp->c≠A.el->(∀j,j<A.n->¬O j c)->H' c=some o
 live:∀c o,H c=some o->∃o',H' c=some o'
def FGo.free{p:qa}{A:FA}{H H':Hp}{el c:qa}(h:FGo p A O H H' el O')(hc:H' c=none):H c=none:=by
 cases e:H c with
 |none=>rfl
 |some o =>
  let#[a,w]:=h.live c o e;rw[hc]at w;cases w
def FGo.refl{p:qa}{A:FA}{H:Hp}:FGo p A O H H A.el O:=#[.inl J,λZ Z Z w=>.inl w,λZ Z e Z Z Z Z=>e,λZ o e=>#[o,e]]
theorem FGo.trans{p:qa}{A:FA}{O1:Β}{H H1 H2:Hp}{ml el pl el2:qa}{sl:Λ}(h:FGo p A O H H1 el O1)(k:FGo p (A.re ml el pl sl) O1 H1 H2 el2 O2):FGo p A O H H2 el2 O2:=by
 erw[?_,λj c a w=>?_,λc o e g b f d=>?_,λc o e=>?_]
 .rcases k.he with z|z
  .rcases h.he with y|y
   .erw[.inl (z.trans y)]
   .erw[.inr (by rwa[show el2=el from z,y])]
  .erw[.inr (h.free z)]
 .rcases k.hO j c a w with v|v
  .erw[h.hO j c a v]
  .erw[.inr (h.free v)]
 .refine k.fr c o (h.fr c o e g b f d) g b (λz=>?_) (λj a w=>?_)
  .rcases h.he with y|y
   .erw[f (z.trans y)]
   .rw[show c=el from z,y]at e;cases e
  .rcases h.hO j c a w with v|v
   .erw[d j a v]
   .rw[e]at v;cases v
 .let#[l,i]:=h.live c o e;erw[k.live c l i]
def FGo.same{p:qa}{A:FA}{H H1 H2:Hp}{el:qa}(h:FGo p A O H H1 el O')(S:yu H1 H2):FGo p A O H H2 el O' :=
 #[h.he,h.hO,λc o e b a f d=>S _ _ (h.fr c o e b a f d),λc o e=>let ⟨o',w⟩:=h.live c o e;#[o',S _ _ w]]
def FGo.kpa{p:qa}{A:FA}{X:FX}{f:Α}{m:Nat}{H H':Hp}{el:qa}(hf:γ K a H p A X f O m)(h:FGo p A O H H' el O'):KpA H H' A.el el:=λc o e i k=>by
 erw[?_,h.fr c o e (λz=>by rw[z,hf.me]at e;cases e;cases i) (λz=>by rw[z,hf.mx.o]at e;cases e;cases i) k λj l w=>?_]
 .rcases h.he with z|z
  .rw[z];erw[k]
  .erw[yb e z]
 .let#[n,g,d]:=(hf.B.b j l).own c w;rw[e]at g;cases g;rw[i]at d;cases d
def yy3{g:Λ}{n:Nat}(h:1<=n):(refs g n)[0]?=some (.ref (g 0)):=by unfold refs;rw[bB,cQ h];rfl
structure ν(H:Hp)(t:qa)(ts:Ο)(w:Nat):Prop where
 l:H t\(ts.map V.int)
 s:Sgs ts
 z:ts.length<=w
def ν.same{H H':Hp}{t:qa}{w:Nat}(h:ν H t ts w)(S:yu H H'):ν H' t ts w:=#[S _ _ h.l,h.s,h.z]
def fX(n:Nat)(kd:Ν)(ps:Κ)(pre:Ο)(ts:Ο)(k:Nat):FX:=((FX0 n kd).run (fa0 n ps) pre).run (fa0 n ps) ((dec ts).take k)
def Ú(n:Nat)(kd:Ν)(ps:Κ)(pre:Ο)(ts:Ο)(k:Nat):Int:=ym7 (fX n kd ps pre ts k).ws ((fX n kd ps pre ts k).cs (fa0 n ps))
def ww(ts:Ο)(k:Nat):Int:=((dec ts)[k]?).getD 0
def ynl(ts:Ο)(k:Nat)(h:k<(dec ts).length):0<=ww ts k/\ww ts k<=1:=by unfold ww;rwa[bp h,î ts _ (bW h)]
def vjk(H:Hp)(lx:V)(N w:Nat)(lt:Λ)(tt:Κ):Prop:=((lx=.non/\N=0)\/∃ll,lx=.ref ll/\H ll\(refs lt N))/\∀i,i<N->ν H (lt i) (tt i) w
structure vkn(H:Hp)(L tx:qa)(lx:V)(n:Nat)(lk:Λ)(kd:Ν)(tp:Λ)(ps:Κ)(ts:Ο)(N w:Nat)(lt:Λ)(tt:Κ):Prop where
 l:H L\(refs lk n)
 n1:1<=n
 n6:n<=6
 r:uk H n lk kd tp ps
 t:ν H tx ts 1000
 lr:vjk H lx N w lt tt
 w1:w<=1000
 N1:N<=1000
 b:6+6*(N*(9*w+1))+6*(9*ts.length+1)+20<1000000
structure XOk(n:Nat)(X:FX):Prop where
 w:WOk n X.ws
 s:∀i k,(X.g i k).ok
theorem XOk.cs{n:Nat}{X:FX}(h:XOk n X)(ps:Κ):COk n (X.cs (fa0 n ps)):=by
 exists by unfold FX.cs;rw[bo,b9];rfl,λc a=>?_,λc a=>?_
 .let#[j,_,J]:=bw.mp a;erw[(yg0 (h.s _ _)).1]
 .let#[j,_,J]:=bw.mp a;erw[(yg0 (h.s _ _)).2]
theorem XOk.see{n:Nat}{X:FX}(h:XOk n X)(n1:1<=n)(n6:n<=6)(ps:Κ){b:Int}(b0:0<=b)(b1:b<=1):XOk n (X.see (fa0 n ps) b):=by
 erw[yq2 n1 n6 h.w (h.cs ps),λi k=>?_];show (if k=X.key (fa0 n ps) i then (X.g i k).see b else X.g i k).ok
 split
 .erw[Slt.see_ok (h.s i k) b0 b1]
 .erw[h.s i k]
theorem XOk.run{n:Nat}(n1:1<=n)(n6:n<=6)(ps:Κ):∀(bs:Ο){X:FX},XOk n X->ydl bs->XOk n (X.run (fa0 n ps) bs)
 |[],_,h,_=>h
 |b::r,_,h,hb=>XOk.run n1 n6 ps r (h.see n1 n6 ps (hb b 's').1 (hb b 's').2) λc a=>hb c (by simp[a])
def XOk.zero{n:Nat}(n1:1<=n)(n6:n<=6)(kd:Ν):XOk n (FX0 n kd):=#[veu n n1 n6,λi Z=>yrk (kd i)]
def yjn{bs:Ο}(h:ydl bs)(k:Nat):ydl (bs.take k):=λb a=>h b (cH a)
def vfw{n:Nat}(n1:1<=n)(n6:n<=6){kd:Ν}{ps:Κ}{pre:Ο}(hp:ydl pre)(k:Nat):XOk n (fX n kd ps pre ts k):=by unfold fX;erw[((XOk.zero n1 n6 kd).run n1 n6 ps pre hp).run n1 n6 ps _ (yjn (î ts) k)]
def ybo{n:Nat}(n1:1<=n)(n6:n<=6){kd:Ν}{ps:Κ}{pre:Ο}(hp:ydl pre)(k:Nat):Ch (Ú n kd ps pre ts k):=ymj n1 (vfw (kd:=kd) (ps:=ps) (ts:=ts) n1 n6 hp k).w ((vfw (kd:=kd) (ps:=ps) (ts:=ts) n1 n6 hp k).cs ps)
structure TwB(K:xy)(a:Ads)(H G:Hp)(n:Nat)(bk dx lk dd:Λ)(kd:Ν)(ps:Κ)(f:Α)(O:Β)(m:Nat):Prop where
 B:Bks K a G n bk dx lk dd kd ps f O m
 oO:∀j c,j<n->O j c->H c=none
 oB:∀j,j<n->H (bk j)=none
def TwB.zero{H G:Hp}{bk dx lk dd:Λ}{kd:Ν}{ps:Κ}{f:Α}{m:Nat}:TwB K a H G 0 bk dx lk dd kd ps f O m :=
 #[#[λi b=>absurd b (bS i),λi b=>absurd b (bS i),λi Z Z b=>absurd b (bS i),λi Z b=>absurd b (bS i)],λi Z b=>absurd b (bS i),λi b=>absurd b (bS i)]
def TwB.next{H G G2:Hp}{n m:Nat}{bk dx lk dd:Λ}{kd:Ν}{ps:Κ}{f:Α}(h:TwB K a H G n bk dx lk dd kd ps f O m)(hl:j5 K G (lk n) (.str (kdS (kd n))) (ps n))
  (S:yu H G) {q dq d D:qa} {xs ys:Τ} {f':qj Int->ql Slt} {O':Μ} (hq:G q=none) (hO:∀c,O' c->G c=none) (S2:yu G G2) (hb:û a G2 q dq (lk n) d (kd n) f' O' m) (hD:G D\xs):
  TwB K a H (upd G2 D (.lst ys)) (n+1) (upN bk n q) (upN dx n dq) lk (upN dd n d) kd ps (upN f n f') (upN O n O') m:=by
 let#[s,u,v]:=h;have k:∀j c,j<n->O j c->∃o,G c=some o:=λj c g w=>let ⟨o,l,_⟩:=(s.b j g).own c w;#[o,l]
 let M:=(s.same S2).snoc (hl.same S2) hb (λj c g w z=>by
  let#[o,l]:=k j c g w;rw[hO c z]at l
  cases l) (λj g w=>by
  let#[o,l]:=k j q g w;rw[hq]at l
  cases l) (λj g z=>by
  let e:=(s.b j g).me;rw[hO _ z]at e;cases e)
 let i:=S2 _ _ hD;let x:=M.nlst i;have p:∀c o,G2 c=some o->c≠D->upd G2 D (.lst ys) c=some o:=λc o e r=>yg r e;erw[M.frame (O2:=λc=>c=D) (λc o e r=>p c o e r) (λj c g w z=>x j g (z ▸ w)) (λj g z=>?_) (λt xs e=>?_),λj c g w=>?_,λj g=>?_]
 .let e:=(M.b j g).me;rw[z,i]at e;cases e
 .rcases e with(e|⟨o,e⟩)|e
  .erw[.inl (.inl (p _ _ e (λz=>by rw[z,i]at e;cases e)))]
  .erw[.inl (.inr #[o,p _ _ e (λz=>by rw[z,i]at e;cases e)])]
  .erw[.inr e]
 .by_cases z:j=n
  .rw[z,xv]at w;erw[S.free (hO c w)]
  .rw[xp ()]at w;erw[u j c () w]
 .by_cases z:j=n
  .rw[z,xv];erw[S.free hq]
  .rw[xp ()];erw[v j ()]
#synth ysy ["self","made"] ["self"] vek
#synth ∀(K:xy)(a:Ads),∀(p:qa)(A:FA)(X:FX)(f:Α)(O:Β)(m:Nat)(_:vs=[.ref p])(_:γ K a H p A X f O m)(_:yw2 H A)(_:m+20<1000000)(_:∀(q:qa)(A':FA)(f':Α)(O':Β)(H':Hp),H q=none->γ K a H' q A' X f' O' (m+A.n)->yw2 H' A'->A'.n=A.n->A'.kd=A.kd->A'.ps=A.ps->A'.lk=A.lk->(∀j c,j<A.n->O' j c->H c=none)->(∀j,j<A.n->H (A'.bk j)=none)->H A'.mp=none->(∀l,(l=A'.bl\/l=A'.el\/l=A'.ml\/l=A'.pl\/l=A'.ll)->H l=none)->yu H H'->Q (.ref q) H'),yf1
def yx3:'v' 8 a.P9 a.Rs ["self"] (yf1 K a):=by
 exists T.Me.F.ok,ysy,hr;let#[p,u,X,f,O,m,J,h,#[aD,aM,tp,a0],hm,k]:=h;let hp:=h.me;let n1:=h.n1;let n6:=h.n6;erw[yi (pst 1 ysy.nd (uu T.Vo (ypu T) hr.m J T.Vn T.Mb.B .nil wa (pa1 pfs))) ?_,<-yi (vj (pv 1) (wx (js:=[]) (ys:=[]) J (xr pfs) (λC s2 H2 fp=>(vg (pv 0) T.Br T.M6.m (vcj T) hr.m T.M6.B .nil vo)) J J (hyc:=yv) (hrel:=yv)) J) ?_,<-yi (vj (pv 1) (vg pfs T.Fo T.Ma.m (yy2 T) hr.m T.Ma.B .nil vo) J) ?_,<-yi (vj (pv 1) (pcT wk T.At (pa1 pfs)) J) ?_,<-yi (vj (pv 1) pfs J) ?_,<-yi (yw (vg (pv 1) T.Ak T.Ee.m (ymv T) hr.m T.Ee.B .nil vo)) ?_];exists 1,1,yc (yp (pv 1));intro q dq Y ao aW;have S0:yu H (upd (upd H dq (.own q)) q (.ins a.A6 dq [])):=λb o e=>by rwa[yn (yb e Y),yn (yb e ao),e]
 erw[q,dq,.ref u.ll,J,ya,.inr #[u.ll,u.n,u.lk,u.kd,tp,u.ps,J,S0 _ _ aD,n1,n6,a0.same S0,λd f1 O1 H1 N1 B1=>#[J,?_]]];let#[al,e1,e2,e3,e4,aL,aO,aT,aV,U,aJ,ar]:=N1;have S1:yu H H1:=ċ Y ao B1;let h1:=h.same S1;have R:H1 q∩a.A6 d.dp (jy (.ref d.ll) (.ref d.bl) (.ref d.mp) (.ref d.el) (.int 0) (.ref d.pl)):=al.me;let aC:=h1.me;have aU:p≠q:=yb hp Y;ext;erw[u.bl,J,#[_,SqL.of h1.bl],λD hD=>?_];refine j4 (K:=K) (xs:=refs u.bk u.n) (λi G=>∃(bk dx dd:Λ)(f2:Α)(O2:Β),G D\(refs bk i)/\TwB K a H1 G i bk dx u.lk dd u.kd u.ps f2 O2 m/\(∀j,j<i->f2 j=f j)/\yu H1 G)
  #[λF=>0,λF=>0,λF=>0,λF F=>none,λF F=>False,ya,TwB.zero,λj x=>absurd x (bS j),yz hD] (λi G F z=>?_) (λi y G hy hi z=>?_) (λG z=>?_)
 .let#[_,_,_,_,_,_,_,_,N]:=z;erw[SqL.of (N _ _ h1.bl)]
 .let#[bk,dx,dd,f2,O2,gD,S,gf,N]:=z;let#[J,an]:=È hy;let ad:=(h1.B.b i an).same N;let aF:=ad.me;ext;exists u.bk i,u.dx i,u.lk i,u.dd i,u.kd i,f i,O i,m,J,ad,(),λq2 aH d2 O3 G2 aj ax aA S2=>?_
  erw[xu (n:=(refs u.bk u.n).length) (S2 _ _ gD) (vv (by rw[wb];omega)) hi ?_,<-_,_,_,_,_,?_,S.next ((h1.B.look i an).same N) N aj aA S2 ax gD,λj x=>?_,λb o e=>yg (yb e hD) (S2 _ _ (N b o e))]
  .rw[ya,ja,xv]
   congr 3
   erw[zy λj x=>(xp x).symm]
  .by_cases z:j=i
   .rw[z,xv]
   .rw[xp ()];erw[gf j ()]
 let#[bk,dx,dd,f2,O2,gD,S,gf,N]:=z;rw[wb]at gD S gf;let am:=N _ _ R;let aI:=N _ _ aC;ext;have ak:D≠q:=λz=>by rw[z,R]at hD;cases hD
 have BA:But q G (upd G q (.ins a.A6 d.dp (jy (.ref d.ll) (.ref D) (.ref d.mp) (.ref d.el) (.int 0) (.ref d.pl)))):=But.upd;have W:upd G q (.ins a.A6 d.dp (jy (.ref d.ll) (.ref D) (.ref d.mp) (.ref d.el) (.int 0) (.ref d.pl))) q∩a.A6 d.dp (jy (.ref d.ll) (.ref D) (.ref d.mp) (.ref d.el) (.int 0) (.ref d.pl)):=ya;generalize upd G q (.ins a.A6 d.dp (jy (.ref d.ll) (.ref D) (.ref d.mp) (.ref d.el) (.int 0) (.ref d.pl)))=HA at BA W⊢;have SA:yu H HA:=λb o e=>BA _ _ (N _ _ (S1 _ _ e)) (yb e Y);let hA:=h.same SA;let aK:=hA.me;let aG:=hA.mx.o;ext;erw[u.mp,u.mx,u.ml,X.ws,J,hA.mx,by rwa[h.wok.len,n1],by rwa[h.wok.len,n6],λI aB l3 HB ς a1 MB SB=>?_]
 let aP:=SB _ _ W;ext;have a5:I≠q:=(yb W ς).symm;have ap:l3≠q:=(yb W a1).symm;have BC:But q HB (upd HB q (.ins a.A6 d.dp (jy (.ref d.ll) (.ref D) (.ref I) (.ref d.el) (.int 0) (.ref d.pl)))):=But.upd;have a7:upd HB q (.ins a.A6 d.dp (jy (.ref d.ll) (.ref D) (.ref I) (.ref d.el) (.int 0) (.ref d.pl))) q∩a.A6 d.dp (jy (.ref d.ll) (.ref D) (.ref I) (.ref d.el) (.int 0) (.ref d.pl)):=ya;generalize upd HB q (.ins a.A6 d.dp (jy (.ref d.ll) (.ref D) (.ref I) (.ref d.el) (.int 0) (.ref d.pl)))=HC at BC a7⊢;have SC:yu H HC:=λb o e=>BC _ _ (SB _ _ (SA _ _ e)) (yb e Y);let aN:=SC _ _ hp;ext;erw[ya0 (SqL.of (SC _ _ h.el)) λr hr0=>?_];exists hr0,HD,SD,er;let aS:=SD _ _ a7;ext;have ac:r≠q:=(yb a7 hr0).symm;have BE:But q HD (upd HD q (.ins a.A6 d.dp (jy (.ref d.ll) (.ref D) (.ref I) (.ref r) (.int 0) (.ref d.pl)))):=But.upd;have az:upd HD q (.ins a.A6 d.dp (jy (.ref d.ll) (.ref D) (.ref I) (.ref r) (.int 0) (.ref d.pl))) q∩a.A6 d.dp (jy (.ref d.ll) (.ref D) (.ref I) (.ref r) (.int 0) (.ref d.pl)):=ya;generalize upd HD q (.ins a.A6 d.dp (jy (.ref d.ll) (.ref D) (.ref I) (.ref r) (.int 0) (.ref d.pl)))=HE at BE az⊢;have SE:yu H HE:=λb o e=>BE _ _ (SD _ _ (SC _ _ e)) (yb e Y);let aQ:=SE _ _ hp;ext;have BF:But q HE (upd HE q (.ins a.A6 d.dp (jy (.ref d.ll) (.ref D) (.ref I) (.ref r) (.int X.nd) (.ref d.pl)))):=But.upd;have a8:upd HE q (.ins a.A6 d.dp (jy (.ref d.ll) (.ref D) (.ref I) (.ref r) (.int X.nd) (.ref d.pl))) q∩a.A6 d.dp (jy (.ref d.ll) (.ref D) (.ref I) (.ref r) (.int X.nd) (.ref d.pl)):=ya;generalize upd HE q (.ins a.A6 d.dp (jy (.ref d.ll) (.ref D) (.ref I) (.ref r) (.int X.nd) (.ref d.pl)))=HF at BF a8⊢;have ah:But q HD HF:=BE.trans BF;have a4:But q HB HF:=(BC.trans (But.of SD)).trans ah;have M:But q G HF:=(BA.trans (But.of SB)).trans a4;have SF:yu H HF:=λb o e=>M _ _ (N _ _ (S1 _ _ e)) (yb e Y);let a9:=M _ _ gD ak;let a6:=ah _ _ er ac;let aq:=a4 _ _ MB.o a5;let af:=a4 _ _ MB.l ap
 have a3:∀j,j<u.n->¬O2 j q:=λj x w=>by
  let e:=S.oO j q x w;rw[R]at e;cases e
 have ae:Bks K a HF u.n bk dx u.lk dd u.kd u.ps f2 O2 m:=S.B.frame (O2:=λc=>c=q) (λc o e ne=>M c o e ne) (λj c x w z=>a3 j x (z ▸ w)) (λj x z=>by
  let e:=S.oB j x;rw[z,R]at e
  cases e) (λt xs e=>by
  rcases e with(e|⟨o,e⟩)|e
  .erw[.inl (.inl (M _ _ e (λz=>by rw[z,am]at e;cases e)))]
  .erw[.inl (.inr #[o,M _ _ e (λz=>by rw[z,am]at e;cases e)])]
  .erw[.inr e])
 have ay:ym6 u.n u.kd f2 X.g:=λi hi k=>by
  rwa[gf i hi,h.ag i hi k]
 ext;erw[q,d.dp,d.ll,D,I,r,d.pl,X.nd,X.sg,u.n,m,bk,dx,u.lk,dd,u.kd,u.ps,f2,O2,X.g,J,a8,a9,a6,ae,ay,n6,(),a3,λpl sl f' O' H' au as ai B' aw av aa F' L'=>?_]
 have a2:∀j c,j<u.n->O2 j c->∃o,G c=some o:=λj c x w=>let ⟨o,ho,_⟩:=(S.B.b j x).own c w;#[o,ho]
 have ab:∀j,j<u.n->¬O2 j I:=λj x w=>by
  let#[o,ho]:=a2 j I x w;rw[BA _ _ ho a5]at ς;cases ς
 let nl:=λ{l:qa}{xs:Τ}(e:HF l\xs)=>ae.nlst e;have L:d.ll≠q:=λz=>by rw[z,R]at U;cases U
 let Z:=M _ _ (N _ _ U) L
 have SH:yu H H':=λc o e=>F' c o (SF c o e) (yb e Y) λj x w=>by
  let e2:=S.oO j c x w;rw[S1 _ _ e]at e2;cases e2
 ext;erw[k q #[d.dp,d.ll,D,I,aB,l3,r,pl,u.n,bk,dx,u.lk,dd,sl,u.kd,u.ps] f' O' H' Y #[au,F' _ _ a9 ak (nl a9),F' _ _ a6 ac (nl a6),#[F' _ _ aq a5 ab,F' _ _ af ap (nl af)],h.wok,as,B',aw,av,λj x w=>?_,λj x w=>?_,n1,n6] #[F' _ _ Z L (nl Z),λz=>?_,tp,a0.same SH] J J J J (λj c x w=>?_) (λj x=>S1.free (S.oB j x)) (SA.free ς) (λl hl=>?_) SH]
 .rcases aa j q x w with v|v
  .erw[a3 j x v]
  .rw[a8]at v;cases v
 .rcases aa j I x w with v|v
  .erw[ab j x v]
  .rw[aq]at v;cases v
 .let e:=BC _ _ (SB _ _ (BA _ _ (N _ _ U) L)) L;rw[show d.ll=r from z,hr0]at e;cases e
 .rcases aa j c x w with v|v
  .erw[S1.free (S.oO j c x v)]
  .erw[SF.free v]
 .rcases hl with z|z|z|z|z
  .rw[z];erw[S1.free hD]
  .rw[z];erw[SC.free hr0]
  .rw[z];erw[SA.free a1]
  .rw[z];erw[SF.free ai]
  .rw[z];erw[S0.free ar]
#synth vcb ["sign"] vdv
#synth ∀(K:xy),∀(s:Int)(_:vs=[.int s])(_:∀r H',H r=none->H' r\((b8 s).map V.int)->yu H H'->Q (.ref r) H'),yhy
def yzl:'v' 1 a.Pa a.Rt ["sign"] (yhy K):=by
 exists T.U9.F.ok,vcb,t;let#[n,J,k]:=h;exists 1,0,yc (yp (wx (js:=[0]) (ys:=["sign"]) J (ygu (vt J T.I5)) (λC r e u=>(yo wo (yo vk (pv 1) (pv 0)) yd)) J J (hyc:=(all_cons J yv)) (hrel:=(all_cons J yv))));erw[a.C0,J,#[_,T.w_WORTHS H],λD g=>?_,<-ũ (wV n) (T.w_WORTHS H) g (λi y e l d b=>?_) (λe d b=>?_)]
 .obtain⟨c,o,rfl,q⟩:∃c,0<c/\y=V.int c/\c<=128:=by
   let j:=bM l;simp only[bH,List.not_mem_nil,or_false]at j;rcases j with rfl|rfl|rfl|rfl|rfl|rfl|rfl|rfl<;>erw[_,∅,J,∅]
  ext;erw[Mp.done g (by show 8<sizeLine;decide) l d b J]
 .erw[k D e g b d]
#synth ymn ["text","bits","sign"] ["text"] vd6
#synth ∀(K:xy),∀(t:qa)(ns:Ο)(_:vs=[.ref t])(_:H t\(ns.map V.int))(_:Sgs ns)(_:ns.length<=1000)(_:∀r H',H r=none->H' r\((dec ns).map V.int)->yu H H'->Q (.ref r) H'),yzv
def vbb:'v' 5 a.Pb a.Ru ["text"] (yzv K):=by
 exists T.Ua.F.ok,ymn,S;let#[t,f,J,O,hs,Y,k]:=h;exists 1,2,yh (pst 1 ymn.nd (vn xo)) (yh (jt PassesOwn.never J (xr (uz (yws T) S.m T.O5 wa (pav 0))) (xb (i:=2) ymn.nd J (Or.inl J)) (yh (yw ('u' (pv 1) (pa1 yd))) (yc (yw (ξ PySem.F.plainAttrs_list PySem.F.slot_list_extend PySem.F.type_list_extend ç (pv 1) (pa1 (ut (yzl T) S.m T.U9 (pav 2)))))))) (yh (yw ('u' (pv 1) (pa1 yd))) (yc (yp (pv 1)))));exists 'l',λr hr0=>?_
 exists hr0,H1,S1,hr1;ext;erw[.ref t,_,J,.lst (S1 _ _ O),.inr #[f.map V.int,ya9 (S1 _ _ O) hs Y,λc H2 j n R=>?_]];let D:=S1.trans R;erw[c,J,#[_,SqL.of n],jp (K:=K) (a:=c) (xs:=f.map V.int) (λi σ2 G=>∃v,σ2=[some (.ref t),some (.ref r),v]/\G r\((ydk (f.take i)).map V.int)/\G c\(f.map V.int)/\yu H G)
  #[_,J,R _ _ hr1,n,D] (by rintro i σ2 G _ ⟨_,_,_,z,_⟩;erw[SqL.of z]) ?_ ?_]
 .rintro i y σ2 G hi ⟨v,rfl,d,x,M⟩;let#[z,J,U,ς,a0]:=õ hi;have u:c≠r:=λe=>by rw[e,hr1]at j;cases j
  have l:(List.map V.int (ydk (f.take i))).length<=9000:=by rw[bo,Ë,bT];omega
  ext;erw[υ d ?_,←uw d (vv ()) ?_];have p:yu H (upd G r (.lst (List.map V.int (ydk (f.take i))++[V.int 1]))):=λb o e=>yg (yb e hr0) (M b o e);have B:upd G r (.lst (List.map V.int (ydk (f.take i))++[V.int 1])) c\(f.map V.int):=yg u x;have g:upd G r (.lst (List.map V.int (ydk (f.take i))++[V.int 1])) r\(List.map V.int (ydk (f.take i)++[1])):=by rw[ya,bA];rfl
  generalize upd G r (.lst (List.map V.int (ydk (f.take i))++[V.int 1]))=G1 at p B g⊢;ext;erw[υ g ?_,←z,J,λq G2 X L N=>?_];ext;let C:=N _ _ g;erw[r,q,_,_,J,J,C,L,w9 (by rw[bo,bo,bq,ysd];rw[bo]at l;show _+1+8<=_;omega),?_,←_,J,?_,?_,λb o e=>yg (yb e hr0) (N _ _ (p b o e))]
  .rw[ya,ā ς,ycf,yoc,bX];rfl
  .erw[yg u (N _ _ B)]
 .rintro σ2 G ⟨v,rfl,d,x,M⟩;rw[bo,cq]at d;ext;erw[υ d ?_,←uw d (vv (by rw[bo,Ë];omega)) ?_,←k r _ hr0 ?_ λb o e=>yg (yb e hr0) (M b o e)];rw[ya,ypk,bA];rfl
#synth yml ["number","size","places"] ["number","size"] vct
#synth ∀(n:Int)(k:Nat)(_:vs=[.int n,.int k])(_:k<=100000)(_:∀t H',H t=none->H' t\((wr k n).map V.int)->yu H H'->Q (.ref t) H'),yie
def yre:'v' 1 a.Pe a.Rv ["number","size"] yie:=by
 exists T.Mf.F.ok,yml,D;let#[n,d,J,z,k]:=h;exists 2,1,yh (pst 2 yml.nd (vn xo)) (yh (Ï PassesOwn.never (yt ybu (pcB yq T.Af (pav 2)) (pv 1) (ve _)) (yh (yw ('u' (pv 2) (pa1 (yo wo (pv 0) yd)))) (yc (pst 0 yml.nd (yo vk (pv 0) yd))))) (yh (yw (yl8 PySem.F.plainAttrs_list PySem.F.slot_list_reverse PySem.F.type_list_reverse ŧ (pv 2))) (yc (yp (pv 2)))));exists 'l',λt i=>?_
 ext;erw[λm σ' r=>∃(f:Int)(c:Ο),σ'=[some (.int f),some (.int d),some (.ref t)]/\r t\(c.map V.int)/\yu H r/\c++lo (d-c.length) f=lo d n/\c.length<=d/\m=d-c.length,#[_,n,[],J,ya,yz i,J,bR _,J],?_];rintro m σ2 B ⟨f,c,rfl,g,q,j,C,rfl⟩;ext;erw[ur (SqL.of g) ?_];rw[bo];ext;erw[za (λy=>?_) (λy=>?_)]
 .erw[yc7 ?_];ext;erw[υ g ?_,←uw g (by rwa[bo,vv ()]) ?_];ext;exists _,?_,f/256,c++[f%256],J,(ya.trans (by rw[yny])),λb o e=>?_,?_,?_,rfl
  .rw[bq];show d-(c.length+1)<d-c.length;omega
  .rw[yn (yb e i)];erw[q b o e]
  .have l:d-c.length=d-(c++[f%256]).length+1:=by
    rw[bq];show d-c.length=d-(c.length+1)+1;omega
   rw[l]at j;rw[<- j,bX];rfl
  .rw[bq];show c.length+1<=d;omega
 .ext;have l:d-c.length=0:=()
  rw[l]at j;have x:c=lo d n:=by rw[<- j];simp[lo]
  erw[υ g ?_,<-ycg g ?_,←k t _ i ?_ λb o e=>?_]
  .rw[ya,yta,x];rfl
  .rw[yn (yb e i)];erw[q b o e]
#synth vbp ["low","unit"] vd9
#synth ∀(l e:Int)(_:vs=[.int l,.int e])(_:0<e)(_:e<2^63)(_:Q (.int (blk l e)) H),Ŕ
def yq0:'v' 1 a.Pf a.Rw ["low","unit"] Ŕ:=by exists T.Mg.F.ok,vbp,g;let#[l,e,J,i,f,k]:=h;exists 2,0,yc (yp (yo vk (yo jg (yo wl (pv 0) (pv 1)) yd) (pv 1)));erw[k]
#synth vcl ["self"] vcy
#synth ∀(C:qa),∀(p dx:qa)(_:vs=[.ref p])(_:H p∩C dx [])(_:∀H',H' p∩C dx (Æ s0)->But p H H'->Q .non H'),yuj
def yri:'v' 1 a.Jz a.Rx ["self"] (yuj a.Ad):=by
 exists T.Mh.F.ok,vcl,j;let#[p,c,J,g,k]:=h;exists 1,0,yh (vj (pv 0) yd J) (yh (vj (pv 0) (vw J T.Fj) J) (yc (vj (pv 0) (vw J T.Gm) J)));erw[p,_,c,_,J,g,T.An,T.Cn,by show 0<1000;decide,?_]
 ext;erw[p,_,c,_,J,ya,T.An,T.Bw,by show 1<1000;decide,?_]
 ext;erw[p,_,c,_,J,ya,T.An,T.C4,by show 2<1000;decide,?_]
 have e:Ñ "size" (.int 5) (Ñ "width" (.int 1099511627776) (Ñ "low" (.int 0) []))=Æ s0:=by
  rw[wz,vz nLW wz,vz nLS (vz nWS wz)];rfl
 erw[k _ (ya.trans (congrArg (λl=>some (HO.ins a.Ad c l)) e)) λb o h n=>?_];rwa[yn n,yn n,yn n,h]
#synth yyu ["self","chance"] vcs
#synth ∀(C:qa),∀(p dx:qa)(x:Sn)(c:Int)(_:vs=[.ref p,.int c])(_:H p∩C dx (Æ x))(_:Ch c)(_:Q (.int (cut x.2.1 c)) H),vas
def yq5:'v' 1 a.Pg a.Ry ["self","chance"] (vas a.Ad):=by exists T.He.F.ok,yyu,j;let#[p,f,x,c,J,g,#[l,i],k]:=h;exists 2,0,yc (yp (yo vk (yo xk pfs (pv 1)) (vw J T.Dc)));erw[k]
#synth yq3 ["self","chance","bit","cut"] ["self","chance","bit"] vdr
#synth ∀(K:xy)(C Nc Nb:qa),∀(p dx:qa)(x:Sn)(vc vb:V)(n m:String)(_:vs=[.ref p,vc,vb])(_:H p∩C dx (Æ x))(_:Ok x)(_:xf K H vc (.type n))(_:xf K H vb (.type m))(_:(chV vc=false->E (.ref Nc) none H))(_:(chV vc=true->ě vb=false->E (.ref Nb) none H))(_:∀c b:Int,vc=.int c->vb=.int b->Ch c->0<=b->b<=1->∀H',H' p∩C dx (Æ (nar x c b))->But p H H'->Q .non H'),ykh
def ysm:'e' 4 a.Ph a.Rz ["self","chance","bit"] (ykh K a.Ad a.Bg a.Au):=by
 exists T.Hf.F.okE,yq3,o;let#[p,g,x,I,v,n,m,J,D,G,N,Z,ς,k2,k]:=h;erw[_,(yh (yw (uz (ywv T) o.m T.O6 vd (pav 1))) (yh (yw (uz (ŋ T) o.m T.Du vd (pav 2))) (yh (pst 3 yq3.nd (xl (pv 0) T.An T.He.m (yq5 T) o.m T.He.B .nil vo (pav 1))) (yh (zn (vq (yt xj (pv 2) yd (ve _)) (yc (vj (pv 0) (pv 3) J)) (yh (vj (pv 0) (yo wl pfs (pv 3)) J) (yc (vj (pv 0) (yo jg pfs (pv 3)) J))))) (yc (PS.nox (Ï PassesOwn.never (yt ybu pfs (vw J T.Fk) (ve _)) (yh (vj (pv 0) (yo xk pfs yd) J) (yh (vj (pv 0) (yo xk pfs yd) J) (yc (vj (pv 0) (yo wl pfs yd) J))))))))))),?_];exists 3,1;let t:=G.w0;let q:=G.w1;ext;erw[I,n,J,N,λf=>?_,ς,←v,m,J,Z,λi=>?_,k2 f];let#[c,J,X,c2]:=yen f;let#[b,J,R,L]:=yfz i;have u:Ch c:=#[X,c2];let k:=k c b J J u R L;ext;erw[p,g,_,J,D,lkN _ 'r' 'r' 'r',?_,←p,g,x,c,J,D,u,?_];ext;let#[a1,a2,W]:=ydd t q u;erw[ø (λσ' e=>∃y:Sn,σ'=[some (.ref p),some (.int c),some (.int b),some (.int (cut x.2.1 c))]/\e p∩a.Ad g (Æ y)/\8388608<=y.2.1/\y.2.1<=1099511627776/\ren y.1 y.2.1 y.2.2=nar x c b/\But p H e) ?_ ?_]
 .ext;refine za (λd=>?_) (λd=>?_)
  .ext;erw[_,J,ya,a1,Int.le_of_lt W,?_,But.upd];unfold nar
   (rw[if_pos d])<;>rfl
  .ext;exists _,J,ya,a2,?_,?_,But.upd.trans But.upd
   .show x.2.1-cut x.2.1 c<=_;omega
   .unfold nar
    (rw[if_neg d])<;>rfl
 .rintro σ' e ⟨y,rfl,j,M,y2,S,y4⟩;ext;erw[λm σ' e=>∃y:Sn,σ'=[some (.ref p),some (.int c),some (.int b),some (.int (cut x.2.1 c))]/\e p∩a.Ad g (Æ y)/\8388608<=y.2.1/\y.2.1<=1099511627776/\ren y.1 y.2.1 y.2.2=nar x c b/\But p H e/\m=(4294967296-y.2.1).toNat,#[_,y,J,j,M,y2,S,y4,J],?_];rintro m σ2 H2 ⟨z,rfl,Y,U,z2,r,C,rfl⟩;ext;refine za (λd=>?_) (λd=>?_)
  .erw[yc7 ?_];ext;exists _,?_,(z.1*256,z.2.1*256,z.2.2+1),J,ya,?_,?_,(yng d U).trans r,((C.trans But.upd).trans But.upd).trans But.upd,rfl
   .show (4294967296-z.2.1*256).toNat<(4294967296-z.2.1).toNat;omega
   .show 8388608<=z.2.1*256;omega
   .show z.2.1*256<=1099511627776;omega
  .rw[yux d]at r;erw[k _ ?_ C];rwa[<- r,Y]
#synth vbt ["self","unit"] vfl
#synth ∀(C:qa),∀(p dx:qa)(x:Sn)(j:Nat)(_:vs=[.ref p,.int (pw j)])(_:H p∩C dx (Æ x))(_:j<=6)(_:Q (.bl (decide (yiw x.1 x.2.1 j))) H),ynk
def vbq:'v' 2 a.Pi a.Sa ["self","unit"] (ynk a.Ad):=by
 exists T.Mi.F.ok,vbt,f;let#[p,g,x,j,J,l,e,k]:=h;erw[_,(yc (yp (ud ι (yo xk (yo wl (ut (yq0 T) f.m T.Mg (pac pfs (pav 1))) yd) (pv 1)) (yo wl pfs pfs) (ve _)))),?_];exists 2,0;let n:=yfn e;let i:=jv j;ext;erw[_,_,J,i,(),?_]
 ext;erw[k]
#synth yc6 ["self","unit","size"] ["self"] vc0
#synth ∀(C:qa),∀(p dx:qa)(x:Sn)(_:vs=[.ref p])(_:H p∩C dx (Æ x))(_:OkS x)(_:sz x<=100000)(_:∀t H',H t=none->H' t\((tL x).map V.int)->yu H H'->Q (.ref t) H'),yvd
def ysw:'v' 3 a.Pj a.Sb ["self"] (yvd a.Ad):=by
 exists T.Hg.F.ok,yc6,e;let#[p,i,x,J,l,f,z,k]:=h;exists 1,2,yh (pst 1 yc6.nd yd) (yh (pst 2 yc6.nd pfs) (yh (Ï PassesOwn.never (xm (xl (pv 0) T.An T.Mi.m (vbq T) e.m T.Mi.B .nil vo (pa1 (yo xk (pv 1) yd)))) (yh (pst 1 yc6.nd (yo xk (pv 1) yd)) (yc (pst 2 yc6.nd (yo jg (pv 2) yd))))) (yc (yp (ut (yre T) e.m T.Mf (pac (ut (yq0 T) e.m T.Mg (pac pfs (pav 1))) (pav 2)))))));erw[λm σ' t=>t=H/\∃j:Nat,σ'=[some (.ref p),some (.int (pw j)),some (.int (x.2.2-j))]/\j<=5/\tel x.1 x.2.1 (5-j) j=tK x/\m=6-j,#[_,J,0,by simp[pw],∅,J,J],?_];rintro m σ2 D ⟨rfl,j,rfl,G,n,rfl⟩;let y:=yfn (show j<=6 by omega);let u:=jv j;ext;erw[p,i,_,J,l,lkN _ 'r' 'r' 'r',?_,←p,i,x,j+1,J,l,(),?_]
 ext;erw[za (λb=>?_) (λb=>?_)]
 .erw[yc7 ?_];ext;let q:=yqh f.ok.w1 b;exists _,?_,J,j+1,?_,q,?_,rfl
  .show 6-(j+1)<6-j;omega
  .have g:x.2.2-(j:Int)-1=x.2.2-((j+1:Nat):Int):=()
   rw[g];rfl
  .rw[ym9 b,<- n]
   congr 1
   omega
 .have d:j=tK x:=by rw[<- n,yui b]
  subst d;ext;erw[_,_,J,u,(),?_]
  ext;let C:=f.sz;let v:=(ywu f).2;have g:x.2.2-(tK x:Int)=((sz x-tK x:Nat):Int):=()
  rwa[g,#[_,_,J,(),k]]
#synth yx2 ["self","place"] ve4
#synth ∀(C:qa),∀(p dx pd:qa)(v1 v2 v3:V)(d:Ο)(k:Nat)(_:vs=[.ref p,.int k])(_:H p∩C dx (ym3 (.ref pd) v1 v2 v3))(_:H pd\(d.map V.int))(_:Q (.int ((d[k]?).getD 0)) H),yho
def vbe:'v' 1 a.Pl a.Sf ["self","place"] (yho a.As):=by
 exists T.Mj.F.ok,yx2,t;let#[p,m,q,l,j,i,d,o,J,r,c,k]:=h;exists 2,0,yc (yp (Í (yt ybu (pv 1) (pcB yq T.Af (pa1 pfs)) (ve _)) (pix wq pfs (pv 1)) yd));erw[ur (SqL.of c) ?_];rw[bo];ext;erw[za (λn=>?_) (λn=>?_)]
 .have e:o<d.length:=()
  rw[bp e]at k;ext;erw[zq (SqL.of c) (wt (by rw[bB,bp e];rfl)) k]
 .rw[ci ()]at k;ext;erw[k]
#synth yxs ["self"] vft
#synth ∀(C D:qa),∀(p dx pd ps ds:qa)(d:Ο)(x:Sn)(r:Nat)(_:vs=[.ref p])(_:H p∩C dx (ym3 (.ref pd) (.ref ps) (.int (rn d r)) (.int r)))(_:H pd\(d.map V.int))(_:H ps∩D ds (Æ x))(_:p≠ps)(_:OkS x)(_:r<=sz x)(_:∀H',H' p∩C dx (ym3 (.ref pd) (.ref ps) (.int (rn d (sz x))) (.int x.2.2))->But p H H'->Q .non H'),yjf
def yr4:'v' 2 a.Pk a.Se ["self"] (yjf a.As a.Ad):=by
 exists T.Hh.F.ok,yxs,I;let#[p,n,l,g,o,d,x,r,J,q,u,L,i,M,f,k]:=h;erw[_,(yc (Ï PassesOwn.never (yt ybu pfs (jj pfs J) (ve _)) (yh (vj (pv 0) (yo wl (yo xk pfs yd) (xl (pv 0) T.B9 T.Mj.m (vbe T) I.m T.Mj.B .nil vo (pa1 pfs))) J) (yc (vj (pv 0) (yo wl pfs yd) J))))),?_];exists 1,0;let D:=M.sz;erw[λm σ' t=>∃r:Nat,σ'=[some (.ref p)]/\t p∩a.As n (ym3 (.ref l) (.ref g) (.int (rn d r)) (.int r))/\r<=sz x/\But p H t/\m=sz x-r,#[_,r,J,q,f,But.refl,J],?_];rintro m σ2 N ⟨r,rfl,b,v,c,rfl⟩;have ς:N g∩a.Ad o (Æ x):=c _ _ L i.symm;let e:=c.lst q u;ext;erw[za (λz=>?_) (λz=>?_)]
 .erw[yc7 ?_];ext;erw[p,n,l,_,_,_,d,r,J,b,e,?_];ext;exists _,?_,r+1,J,?_,(),(c.trans But.upd).trans But.upd,rfl
  .omega
  .rw[ya];rfl
 .have y:r=sz x:=()
  subst y;ext;erw[k _ ?_ c];rwa[<- D,b]
#synth yzf ["self","data"] vfm
#synth ∀(K:xy)(a:Ads),∀(p dx:qa)(v:V)(n:String)(_:vs=[.ref p,v])(_:H p∩a.As dx [])(_:xf K H v (.type n))(_:((Bad K H v n 12000/\∀H',yu H H'->E (.ref a.Bf) none H')\/∃d:Ο,vgf K H v (d.map V.int) 12000/\∀pd ps ds H',H pd=none->H ps=none->yi0 a H' p dx pd ps ds d s0->But p H H'->Q .non H')),yi4
def yzu:'e' 5 a.K1 a.Sc ["self","data"] (yi4 K a):=by
 exists T.Ub.F.okE,yzf,L;let#[p,r,v,n,J,U,ty,h]:=h;exists 2,0,yh (vj (pv 0) (uz (vgw T) L.m T.Vh vd (pav 1)) J) (yh (vj (pv 0) (jo T.Nh (yri T) L.m J T.Ng T.Mh.B .nil vo) J) (yh (vj (pv 0) yd J) (yh (vj (pv 0) yd J) (yc (yw (vg (pv 0) T.B9 T.Hh.m (yr4 T) L.m T.Hh.B .nil vo))))));erw[v,n,J,ty,?_];rcases h with⟨Y,k⟩|⟨d,Z,k⟩
 .erw[.inl #[Y,k]]
 .erw[.inr #[d.map V.int,Z,λi C q ς W=>?_]];let X:=W _ _ U;have f:i≠p:=λz=>by rw[z,U]at q;cases q
  ext;have O:But p H (upd C p (.ins a.As r ([("data",V.ref i)]:Ι))):=(But.of W).trans But.upd;have l:upd C p (.ins a.As r ([("data",V.ref i)]:Ι)) p∩a.As r ([("data",V.ref i)]:Ι):=ya;have u:upd C p (.ins a.As r ([("data",V.ref i)]:Ι)) i\(d.map V.int):=yg f ς;generalize upd C p (.ins a.As r ([("data",V.ref i)]:Ι))=H2 at O l u⊢;intro t I g nds ne;erw[t,I,J,ya,λR x B3=>#[J,?_]];have N:yu H2 R:=λb o e=>B3 b o (by rwa[yn (yb e g),yn (yb e nds),e]) (yb e g);let a0:=N _ _ l;let y:=N _ _ u;have c:p≠t:=yb l g
  have D:H t=none:=by
   cases e:H t with
   |none=>rfl
   |some o=>erw[absurd (O _ _ e c.symm) (by rwa[g,λz=>nomatch z])]
  ext;erw[p,r,i,t,I,d,s0,0,J,ya,?_,?_,c,vii,bR _,λS M B4=>?_]
  .erw[yg f (yg f (yg f y))]
  .erw[yg c.symm (yg c.symm (yg c.symm x))]
  .ext;have j:But p R S:=((But.upd.trans But.upd).trans But.upd).trans B4;erw[k i t I S q D #[M,j _ _ y f,j _ _ x c.symm,c] ((O.trans (But.of N)).trans j)]
#synth ysz ["self","chance","bit"] ["self","chance"] vev
#synth ∀(K:xy)(a:Ads),∀(p dx pd ps ds:qa)(d:Ο)(x:Sn)(v:V)(n:String)(_:vs=[.ref p,v])(_:yi0 a H p dx pd ps ds d x)(_:OkS x)(_:xf K H v (.type n))(_:(chV v=false->E (.ref a.Bg) none H))(_:∀c:Int,v=.int c->Ch c->∀H',yi0 a H' p dx pd ps ds d (nar x c (Ě d x c))->ym5 p ps H H'->Q (.int (Ě d x c)) H'),yph
def yyr{x:Sn}{c b:Int}(h:Ok x)(hc:Ch c):sz x<=sz (nar x c b):=by
 let#[r,e]:=ved (if b=1 then x.1 else x.1+cut x.2.1 c) (if b=1 then cut x.2.1 c else x.2.1-cut x.2.1 c) x.2.2
 have a:nar x c b=ren (if b=1 then x.1 else x.1+cut x.2.1 c) (if b=1 then cut x.2.1 c else x.2.1-cut x.2.1 c) x.2.2:=by
  unfold nar
  split<;>rfl
 rw[a,e];unfold sz;dsimp only;omega
def vbn:'e' 5 a.Pm a.Sg ["self","chance"] (yph K a):=by
 exists T.Ml.F.okE,ysz,u;let#[p,M,L,j,o,d,x,v,n,J,i,y,ty,R,k]:=h;exists 2,1,yh (yw (uz (ywv T) u.m T.O6 vd (pav 1))) (yh (zn (pst 2 ysz.nd (Í (yt ybu pfs (yo wl (jj pfs J) (xl pfs T.An T.He.m (yq5 T) u.m T.He.B .nil vo (pav 1))) (ve _)) yd yd))) (yh (yw (vi pfs T.An T.Hf.m (ysm T) u.m T.Hf.B .nil vd (pac (pv 1) (pav 2)))) (yh (yw (vg (pv 0) T.B9 T.Hh.m (yr4 T) u.m T.Hh.B .nil vo)) (yc (yp (pv 2))))));erw[v,n,J,ty,λhv=>?_,R];let#[c,J,Z,c2]:=yen hv;have r:Ch c:=#[Z,c2];let k:=k c J r;let G:=i.me;let e:=i.sp;ext;erw[ø (λσ' O=>σ'=[some (.ref p),some (.int c),some (.int (Ě d x c))]/\H=O) ?_ ?_]
 .ext;erw[j,o,_,J,e,lkN _ 'r' 'r' 'r',?_,←j,o,x,c,J,e,r,?_];ext;unfold Ě;refine za (λt=>?_) (λt=>?_)
  .rw[if_pos t];ext;erw[J,rfl]
  .rw[if_neg t];ext;erw[J,rfl]
 .rintro σ' O ⟨rfl,rfl⟩;let ς:=ya7 d x c;generalize t:Ě d x c=b at ς k⊢;ext;erw[j,o,_,J,e,lkN _ 'r' 'r' 'r',?_,←j,o,x,.int c,.int b,_,_,J,e,y.ok,.int c,.int b,(λz=>by rw[ygq r]at z;cases z),(λF z=>by rw[yei () ()]at z;cases z),λS W U Y F F F H1 q I=>?_];obtain rfl:c=S:=V.int.inj U;obtain rfl:b=W:=V.int.inj Y;let f:=I _ _ G i.ne;let g:=I.lst e i.dt;ext;have l:H1 p∩a.As M (ym3 (.ref L) (.ref j) (.int (rn d (sz x))) (.int ((sz x:Nat):Int))):=by rw[y.sz];exact f
  erw[p,M,L,j,o,d,nar x c b,sz x,J,l,g,q,i.ne,yek y r,yyr y.ok r,λH2 D N=>?_,←k H2 #[D,N.lst f g,N _ _ q i.ne.symm,i.ne] (I.two'.trans N.two)]
#synth yxj ["self"] vfr
#synth ∀(a:Ads),∀(p dx pd ps ds:qa)(d:Ο)(x:Sn)(_:vs=[.ref p])(_:yi0 a H p dx pd ps ds d x)(_:OkS x)(_:sz x<=tMx)(_:∀t H',H t=none->H' t\((tL x).map V.int)->yu H H'->Q (.ref t) H'),yjx
def vat:'v' 4 a.Pn a.Sh ["self"] (yjx a):=by exists T.Mm.F.ok,yxj,n;let#[p,o,q,c,f,d,x,J,g,r,t,k]:=h;let l:=g.me;let b:=g.sp;exists 1,0,yc (yp (vg pfs T.An T.Hg.m (ysw T) n.m T.Hg.B .nil vo));erw[c,f,_,J,b,lkN _ 'r' 'r' 'r',?_,←c,f,x,J,b,r,t,k]
def snK(mx bt:Nat->Int):Nat->Sn
 |0=>s0
 |k+1=>nar (snK mx bt k) (mx k) (bt k)
theorem ô{mx:Nat->Int}:∀m,(∀j,j<m->Ch (mx j))->OkS (snK mx bt m)/\(snK mx bt m).2.2<=5+2*(m:Int)
 |0,_=>#[vii,by show (5:Int)<=5+2*((0:Nat):Int);decide]
 |m+1,h=>by
  let#[a,e]:=ô m λj d=>h j ();erw[yek a (h m ()),?_];have:=va1 (c:=mx m) (b:=bt m) a.ok;show (nar (snK mx bt m) (mx m) (bt m)).2.2<=_;omega
theorem yce{mx my bu:Nat->Int}:∀m,(∀j,j<m->mx j=my j/\bt j=bu j)->snK mx bt m=snK my bu m
 |0,_=>rfl
 |m+1,h=>by
  show nar (snK mx bt m) (mx m) (bt m)=nar (snK my bu m) (my m) (bu m);rw[yce m λj a=>h j (),(h m ()).1,(h m ()).2]
def FGo.but{p:qa}{A:FA}{H H1 H2:Hp}{el:qa}{o':HO}(h:FGo p A O H H1 el O')(hq:H q=none)(B:But q H1 H2)(hq2:H2 q=some o'):FGo p A O H H2 el O' :=
 #[h.he,h.hO,λc o e b a f d=>B _ _ (h.fr c o e b a f d) (yb e hq),λc o e=>let ⟨o1,w⟩:=h.live c o e;#[o1,B _ _ w (yb e hq)]]
def γ.but{H H':Hp}{p C:qa}{A:FA}{X:FX}{f:Α}{m:Nat}{fs:Ι}(h:γ K a H p A X f O m)(hq:H q∩C dq fs)(hl:fs.length=3)(nO:∀i,i<A.n->¬O i q)(B:But q H H'):γ K a H' p A X f O m:=by
 erw[h.frame (O2:=λc=>c=q) (λc o e j=>B c o e j) (λz=>ji h.me hq (by rw[hl];show ¬(6=3);decide) z) (λz=>ji h.mx.o hq (by rw[hl];show ¬(1=3);decide) z) (λi d z=>ji (h.B.b i d).me hq (by rw[hl];show ¬(2=3);decide) z) (λi c d w z=>nO i d (z ▸ w)) (λl g Z e=>B.lst hq e) (λt g e=>?_)];rcases e with(e|⟨o,e⟩)|e
 .erw[.inl (.inl (B _ _ e (λz=>by rw[z,hq]at e;cases e)))]
 .erw[.inl (.inr #[o,B _ _ e (λz=>by rw[z,hq]at e;cases e)])]
 .erw[.inr e]
def yiy(A:FA)(X:FX)(ts:Ο)(k:Nat):Int:=ym7 (X.run A ((dec ts).take k)).ws ((X.run A ((dec ts).take k)).cs A)
#synth ymt ["foreteller","text","span","bit"] ["foreteller","text"] vf0
#synth ∀(K:xy)(a:Ads),∀(p:qa)(A:FA)(X:FX)(f:Α)(O:Β)(m:Nat)(tx:qa)(ts:Ο)(_:vs=[.ref p,.ref tx])(_:γ K a H p A X f O m)(_:X.sg=[])(_:X.nd=0)(_:ν H tx ts 1000)(_:tx≠A.el)(_:m+6*(dec ts).length+20<1000000)(_:∀(r ml el pl:qa)(sl:Λ)(f':Α)(O':Β)(m':Nat)(H':Hp),H r=none->H' r\((tL (snK (yiy A X ts) (ww ts) (dec ts).length)).map V.int)->γ K a H' p (A.re ml el pl sl) (X.run A (dec ts)) f' O' m'->m'<=m+6*(dec ts).length->FGo p A O H H' el O'->Q (.ref r) H'),yge
def yrq:'v' 7 a.Po a.Si ["foreteller","text"] (yge K a):=by
 exists T.Mn.F.ok,ymt,hr;let#[p,c,X,f,O,m,tx,d,J,hF,ah,ay,Y,aH,hm,k]:=h;let aE:=jd d;let hz:=Y.z;let a0:=Y.s;erw[yi (pst 2 ymt.nd (jo T.Nh (yri T) hr.m J T.Ng T.Mh.B .nil vo)) ?_,<-yi (jt PassesOwn.never J (xr (ut (vbb T) hr.m T.Ua (pav 1))) (xb (i:=3) ymt.nd J (Or.inl J)) (yh (yw (vi (pv 2) T.An T.Hf.m (ysm T) hr.m T.Hf.B .nil wa (pac (vg (pv 0) T.Ak T.Hc.m (ys0 T) hr.m T.Hc.B .nil vo) (pav 3)))) (yc (yw (xl (pv 0) T.Ak T.Hd.m (yry T) hr.m T.Hd.B .nil vo (pav 3)))))) ?_];exists 2,2,yc (yp (vg (pv 2) T.An T.Hg.m (ysw T) hr.m T.Hg.B .nil vo));intro q W nq az aI;have SQ:yu H (upd (upd H W (.own q)) q (.ins a.Ad W [])):=λb o e=>by rwa[yn (yb e nq),yn (yb e az),e]
 erw[q,W,J,ya,λH1 ar B1=>#[J,?_]];have S1:yu H H1:=λb o e=>B1 b o (SQ b o e) (yb e nq);ext;erw[tx,d,J,S1 _ _ Y.l,a0,(),λbt H2 ac U S2=>?_]
 let aa:=S1.trans S2;let aA:=hF.same aa;have ak:bt≠c.el:=(yb (hF.same S1).el ac).symm
 have ae:∀i,i<c.n->¬O i q:=λi Z w=>by
  let#[o,ho,_]:=(hF.B.b i Z).own q w;rw[nq]at ho;cases ho
 erw[bt,J,#[_,SqL.of U],jp (K:=K) (a:=bt) (xs:=(dec d).map V.int) (λj σ2 G=>∃(v:ql V)(ml el pl:qa)(sl:Λ)(f':Α)(O':Β),σ2=[some (.ref p),some (.ref tx),some (.ref q),v]/\γ K a G p (c.re ml el pl sl) (X.run c ((dec d).take j)) f' O' (m+6*j)/\FGo p c O H G el O'/\TxE d j (X.run c ((dec d).take j)).sg (X.run c ((dec d).take j)).nd/\G q∩a.Ad W (Æ (snK (yiy c X d) (ww d) j))/\(∀i,i<c.n->¬O' i q)/\(G bt\((dec d).map V.int)/\bt≠el)/\(∀i,i<j->Ch (yiy c X d i)))
  #[_,c.ml,c.el,c.pl,c.sl,f,O,J,aA,FGo.refl.same aa,.inl #[bR _,by show yfl _ _ X.sg X.nd;rwa[ah,ay,yfl.zero _]],S2 _ _ ar,ae,#[U,ak],λi Z=>absurd Z (bS i)] (by rintro j σ2 G _ ⟨_,_,_,_,_,_,_,_,_,_,_,_,_,z,_⟩;erw[SqL.of z.1]) ?_ ?_]
 .rintro j y σ2 G hy ⟨v,D,C,ς,I,f1,O1,rfl,g,go,hT,u,N,⟨a2,S⟩,L⟩;let#[b,J,au,hb,hj]:=õ hy;let#[b0,b1]:=î _ b au;let#[a9,av]:=hT.next a0 hb;let#[aj,aC]:=a9.nd a0;let aD:=a9.len;have a4:ww d j=b:=by unfold ww;rw[hb];rfl
  let aB:=g.me;have a6:Ch (yiy c X d j):=ymj g.n1 g.wok g.cok;let ap:=ygq a6;let as:=yei b0 b1;let#[a1,aq]:=ô (mx:=yiy c X d) (bt:=ww d) j L;ext;erw[q,W,_,J,u,lkN _ 'r' 'r' 'r',?_,←p,c.re D C ς I,_,f1,O1,_,J,g,λG1 R=>?_,←q,W,_,.int (yiy c X d j),.int b,_,_,J,R _ _ u,a1.ok,.int _,.int _,λz=>(by rw[ap]at z;cases z),λF z=>(by rw[as]at z;cases z),λc' b' ec eb F F F G2 x B2=>?_];cases ec;cases eb;let t:=(g.same R).but (R _ _ u) J N B2;have ao:FGo p c O H G2 C O1:=(go.same R).but nq B2 x;have M:G2 bt\((dec d).map V.int):=B2.lst (R _ _ u) (R _ _ a2);let aF:=t.me;let n6:=g.n6;ext;erw[p,c.re D C ς I,_,f1,O1,m+6*j,b,J,t,b0,b1,(),aj,(),λal a7 ax ad f3 O3 G3 ag am a8 a5 ai F=>?_]
  have ab:FGo p (c.re D C ς I) O1 G2 G3 a7 O3:=#[ag,a8,a5,ai];let a3:=ab.kpa t;ext;erw[_,al,a7,ax,ad,f3,O3,J,?_,ao.trans ab,?_,?_,λi Z w=>?_,#[(a3 _ _ M J S).2,(a3 _ _ M J S).1],λi Z=>?_]
  .rw[Ġ hb];erw[am.up (by show m+6*j+c.n<=_;have:c.n<=6:=n6;omega)]
  .rw[Ġ hb];erw[av]
  .have e:snK (yiy c X d) (ww d) (j+1)=nar (snK (yiy c X d) (ww d) j) (yiy c X d j) b:=by show nar _ _ (ww d j)=_;rw[a4]
   rwa[e,a5 _ _ x (ji x t.me (show ¬(3=6) by decide)) (ji x t.mx.o (show ¬(3=1) by decide)) (λz=>by have e:=t.el;rw[<- z,x]at e;cases e) N]
  .rcases a8 i q Z w with v|v
   .erw[N i Z v]
   .rw[x]at v;cases v
  .by_cases z:i=j
   .rw[z];erw[a6]
   .erw[L i ()]
 .rintro σ2 G ⟨v,D,C,ς,I,f1,O1,rfl,g,go,hT,u,N,_,L⟩;rw[bo]at g u L;rw[cq]at g;let#[a1,aq]:=ô (mx:=yiy c X d) (bt:=ww d) (dec d).length L;ext;erw[q,W,_,J,u,lkN _ 'r' 'r' 'r',?_];ext;exists q,W,_,J,u,a1,by show Int.toNat _<=100000;omega,λr G1 an af R=>?_
  erw[k r D C ς I f1 O1 _ G1 (go.free an) af (g.same R) (bx _) (go.same R)]
structure RGo(p q s:qa)(A:FA)(O:Β)(H H':Hp)(ml el:qa)(O':Β):Prop where
 hm:ml=A.ml\/H ml=none
 he:el=A.el\/H el=none
 hO:∀j c,j<A.n->O' j c->O j c\/H c=none
 fr:∀c o,H c=some o->c≠p->c≠A.mp->c≠A.el->c≠q->c≠s->(∀j,j<A.n->¬O j c)->H' c=some o
 live:∀c o,H c=some o->∃o',H' c=some o'
def RGo.free{p s:qa}{A:FA}{H H':Hp}{ml el c:qa}(h:RGo p q s A O H H' ml el O')(hc:H' c=none):H c=none:=by
 cases e:H c with
 |none=>rfl
 |some o =>
  let#[a,w]:=h.live c o e;rw[hc]at w;cases w
def RGo.refl{p s:qa}{A:FA}{H:Hp}:RGo p q s A O H H A.ml A.el O:=#[.inl J,.inl J,λZ Z Z w=>.inl w,λZ Z e Z Z Z Z Z Z=>e,λZ o e=>#[o,e]]
theorem RGo.trans{p s:qa}{A:FA}{O1:Β}{H H1 H2:Hp}{ml el pl ml2 el2:qa}{sl:Λ}(h:RGo p q s A O H H1 ml el O1)(k:RGo p q s (A.re ml el pl sl) O1 H1 H2 ml2 el2 O2):RGo p q s A O H H2 ml2 el2 O2:=by
 erw[?_,?_,λj c a w=>?_,λc o e l b f i g d=>?_,λc o e=>?_]
 .rcases k.hm with z|z
  .rcases h.hm with y|y
   .erw[.inl (z.trans y)]
   .erw[.inr (by rwa[show ml2=ml from z,y])]
  .erw[.inr (h.free z)]
 .rcases k.he with z|z
  .rcases h.he with y|y
   .erw[.inl (z.trans y)]
   .erw[.inr (by rwa[show el2=el from z,y])]
  .erw[.inr (h.free z)]
 .rcases k.hO j c a w with v|v
  .erw[h.hO j c a v]
  .erw[.inr (h.free v)]
 .refine k.fr c o (h.fr c o e l b f i g d) l b (λz=>?_) i g (λj a w=>?_)
  .rcases h.he with y|y
   .erw[f (z.trans y)]
   .rw[show c=el from z,y]at e;cases e
  .rcases h.hO j c a w with v|v
   .erw[d j a v]
   .rw[e]at v;cases v
 .let#[n,m]:=h.live c o e;erw[k.live c n m]
def RGo.same{p s:qa}{A:FA}{H H1 H2:Hp}{ml el:qa}(h:RGo p q s A O H H1 ml el O')(S:yu H1 H2):RGo p q s A O H H2 ml el O' :=
 #[h.hm,h.he,h.hO,λc o e i a d g f b=>S _ _ (h.fr c o e i a d g f b),λc o e=>let ⟨o',w⟩:=h.live c o e;#[o',S _ _ w]]
structure ä(K:xy)(a:Ads)(H:Hp)(p:qa)(A:FA)(X:FX)(f:Α)(O:Β)(m:Nat)(q dx pd s ds:qa)(d:Ο)(x:Sn):Prop where
 ft:γ K a H p A X f O m
 sk:yi0 a H q dx pd s ds d x
 ok:OkS x
 nO:∀i,i<A.n->¬O i q/\¬O i s
 nd:pd≠A.el
theorem ä.same{H H':Hp}{p:qa}{A:FA}{X:FX}{f:Α}{m:Nat}{dx pd s:qa}{x:Sn}(h:ä K a H p A X f O m q dx pd s ds d x)(S:yu H H'):ä K a H' p A X f O m q dx pd s ds d x:=#[h.ft.same S,h.sk.same S,h.ok,h.nO,h.nd]
def chX(A:FA)(X:FX):Int:=ym7 X.ws (X.cs A)
def γ.but2{H H':Hp}{p:qa}{A:FA}{X:FX}{f:Α}{m:Nat}{dx pd s:qa}{x:Sn}(h:ä K a H p A X f O m q dx pd s ds d x)(B:ym5 q s H H'):γ K a H' p A X f O m:=by
 let j:=h.sk.me;let k:=h.sk.sp;erw[h.ft.frame (O2:=λc=>c=q\/c=s) (λc o e n=>B c o e (λz=>n (.inl z)) (λz=>n (.inr z))) (λz=>?_) (λz=>?_) (λi g z=>?_) (λi c g w z=>?_) (λl r Z e=>h.sk.lst B e) (λt r e=>?_)]
 .rcases z with z|z
  .erw[ji h.ft.me j (show ¬(6=4) by decide) z]
  .erw[ji h.ft.me k (show ¬(6=3) by decide) z]
 .rcases z with z|z
  .erw[ji h.ft.mx.o j (show ¬(1=4) by decide) z]
  .erw[ji h.ft.mx.o k (show ¬(1=3) by decide) z]
 .rcases z with z|z
  .erw[ji (h.ft.B.b i g).me j (show ¬(2=4) by decide) z]
  .erw[ji (h.ft.B.b i g).me k (show ¬(2=3) by decide) z]
 .rcases z with z|z
  .erw[(h.nO i g).1 (z ▸ w)]
  .erw[(h.nO i g).2 (z ▸ w)]
 .rcases e with(e|⟨o,e⟩)|e
  .erw[.inl (.inl (h.sk.tup B e))]
  .erw[.inl (.inr #[o,B _ _ e (uc e j 'z') (uc e k 'z')])]
  .erw[.inr e]
#synth yrn ["foreteller","seeker","bit"] ["foreteller","seeker"] veq
#synth ∀(K:xy)(a:Ads),∀(p:qa)(A:FA)(X:FX)(f:Α)(O:Β)(m:Nat)(q dx pd s ds:qa)(d:Ο)(x:Sn)(_:vs=[.ref p,.ref q])(_:ä K a H p A X f O m q dx pd s ds d x)(_:m+20<1000000)(_:0<=X.nd)(_:X.sg.length<=100000)(_:∀(ml el pl:qa)(sl:Λ)(f':Α)(O':Β)(H':Hp),ä K a H' p (A.re ml el pl sl) (X.see A (Ě d x (chX A X))) f' O' (m+A.n) q dx pd s ds d (nar x (chX A X) (Ě d x (chX A X)))->RGo p q s A O H H' ml el O'->Q (.int (Ě d x (chX A X))) H'),ygi
def ys2:'v' 7 a.Pp a.Sj ["foreteller","seeker"] (ygi K a):=by
 exists T.Mo.F.ok,yrn,hr;let#[p,r,X,f,O,m,q,dx,pd,u,ds,d,x,J,n,hm,a6,a4,k]:=h;let hp:=n.ft.me;let hq:=n.sk.me;have ς:Ch (chX r X):=ymj n.ft.n1 n.ft.wok n.ft.cok;let a5:=ygq ς;exists 2,1,yh (pst 2 yrn.nd (vi (pv 1) T.B9 T.Ml.m (vbn T) hr.m T.Ml.B .nil wa (pa1 (vg (pv 0) T.Ak T.Hc.m (ys0 T) hr.m T.Hc.B .nil vo)))) (yh (yw (xl (pv 0) T.Ak T.Hd.m (yry T) hr.m T.Hd.B .nil vo (pav 2))) (yc (yp (pv 2))));erw[p,r,X,f,O,m,J,n.ft,λH1 D=>?_];let S:=n.same D;ext;erw[q,dx,pd,u,ds,d,x,.int (chX r X),_,J,S.sk,n.ok,.int _,λz=>(by rw[a5]at z;cases z),λc' ec F H2 g G=>?_];cases ec;let l:=γ.but2 S G;let a7:=l.me
 obtain⟨b0,b1⟩:0<=Ě d x (chX r X)/\Ě d x (chX r X)<=1:=by
  rcases ya7 d x (chX r X)with e|e<;>(rw[e];decide)
 generalize hb:Ě d x (chX r X)=b at b0 b1 g k;ext;erw[p,r,X,f,O,m,b,J,l,b0,b1,hm,a6,a4,λL M pl sl f' O' H3 he Z hO U lv t=>?_];have a2:q≠p:=ji g.me l.me (show ¬(4=6) by decide);have a3:q≠r.mp:=ji g.me l.mx.o (show ¬(4=1) by decide);have W:u≠p:=ji g.sp l.me (show ¬(3=6) by decide);have a0:u≠r.mp:=ji g.sp l.mx.o (show ¬(3=1) by decide)
 have R:∀{c C dc:qa}{fs:Ι},H2 c∩C dc fs->c≠r.el:=λe z=>by
  let e2:=l.el;rw[<- z,e]at e2;cases e2
 let N:=U _ _ g.me a2 a3 (R g.me) λi y=>(n.nO i y).1;let I:=U _ _ g.sp W a0 (R g.sp) λi y=>(n.nO i y).2;have Y:H3 pd\(d.map V.int):=U _ _ g.dt (λz=>by have e:=g.dt;rw[z,l.me]at e;cases e) (λz=>by have e:=g.dt;rw[z,l.mx.o]at e;cases e) n.nd (l.B.nlst g.dt);ext;erw[k L M pl sl f' O' H3 #[Z,#[N,Y,I,g.ne],yek n.ok ς,λi y=>#[λw=>?_,λw=>?_],?_] #[.inr ?_,?_,λj c hj w=>?_,λc o e c1 c2 c3 c4 c5 no=>?_,λc o e=>?_]]
 .rcases hO i q y w with v|v
  .erw[(n.nO i y).1 v]
  .rw[g.me]at v;cases v
 .rcases hO i u y w with v|v
  .erw[(n.nO i y).2 v]
  .rw[g.sp]at v;cases v
 .rcases he with z|z
  .rw[show (r.re L M pl sl).el=r.el from z];erw[n.nd]
  .erw[yb g.dt z]
 .cases e:H L with
  |none=>rfl
  |some o =>
   by_cases z1:L=q
   .rw[z1,g.me]at t;cases t
   by_cases z2:L=u
   .rw[z2,g.sp]at t;cases t
   rw[G _ _ (D _ _ e) z1 z2]at t;cases t
 .rcases he with z|z
  .erw[.inl z]
  .refine .inr ?_
   cases e:H M with
   |none=>rfl
   |some o =>
    by_cases z1:M=q
    .rw[z1,g.me]at z;cases z
    by_cases z2:M=u
    .rw[z2,g.sp]at z;cases z
    rw[G _ _ (D _ _ e) z1 z2]at z;cases z
 .rcases hO j c hj w with v|v
  .erw[.inl v]
  .refine .inr ?_
   cases e:H c with
   |none=>rfl
   |some o =>
    by_cases z1:c=q
    .rw[z1,g.me]at v;cases v
    by_cases z2:c=u
    .rw[z2,g.sp]at v;cases v
    rw[G _ _ (D _ _ e) z1 z2]at v;cases v
 .erw[U c o (G _ _ (D _ _ e) c4 c5) c1 c2 c3 no]
 .by_cases z1:c=q
  .erw[_,z1 ▸ N]
  by_cases z2:c=u
  .erw[_,z2 ▸ I]
  erw[lv c o (G _ _ (D _ _ e) z1 z2)]
def rnx(A:FA)(d:Ο)(S:FX×Sn):FX×Sn:=(S.1.see A (Ě d S.2 (chX A S.1)),nar S.2 (chX A S.1) (Ě d S.2 (chX A S.1)))
def rst(A:FA)(d:Ο)(S:FX×Sn):Nat->FX×Sn
 |0=>S
 |n+1=>rnx A d (rst A d S n)
def ú(A:FA)(d:Ο)(S:FX×Sn)(n:Nat):Int:=Ě d (rst A d S n).2 (chX A (rst A d S n).1)
def yrh(A:FA)(d:Ο)(S:FX×Sn)(n:Nat):ú A d S n=0\/ú A d S n=1:=ya7 _ _ _
theorem yfd(A:FA)(d:Ο)(S:FX×Sn)(k:Nat):∀n,rst A d (rst A d S k) n=rst A d S (k+n)
 |0=>rfl
 |n+1=>congrArg (rnx A d) (yfd A d S k n)
theorem yl9(A:FA)(d:Ο)(S:FX×Sn)(ml el pl:qa)(sl:Λ):∀n,rst (A.re ml el pl sl) d S n=rst A d S n
 |0=>rfl
 |n+1=>by
  show rnx (A.re ml el pl sl) d (rst (A.re ml el pl sl) d S n)=_;rw[yl9 A d S ml el pl sl n];rfl
def yxp(A:FA)(X:FX)(b:Int)(h:0<=X.nd)(hb:0<=b):0<=(X.see A b).nd:=by
 show 0<=ndN X.nd b;unfold ndN
 split
 .split<;>omega
 .split<;>omega
def vai(A:FA)(X:FX)(b:Int):(X.see A b).sg.length<=X.sg.length+1:=by
 show (sgN X.sg X.nd b).length<=_;unfold sgN
 split
 .split
  .rw[bq];erw[bx _]
  .omega
 .split
  .omega
  .erw[bR _]
theorem ygz(A:FA)(d:Ο)(S:FX×Sn)(h:0<=S.1.nd):∀n,0<=(rst A d S n).1.nd
 |0=>h
 |n+1=>yxp A _ _ (ygz A d S h n) (by rcases yrh A d S n with e|e<;>(unfold ú at e;rw[e];decide))
theorem yhf(A:FA)(d:Ο)(S:FX×Sn):∀n,(rst A d S n).1.sg.length<=S.1.sg.length+n
 |0=>bx _
 |n+1=>ck (vai A _ _) (Nat.succ_le_succ (yhf A d S n))
theorem ä.app{H:Hp}{p R:qa}{A:FA}{X:FX}{f:Α}{m:Nat}{dx pd s:qa}{x:Sn}{xs ys:Τ}(h:ä K a H p A X f O m q dx pd s ds d x)(hR:H R\xs)(hq:∀q,(q=A.bl\/q=A.el\/q=A.ml\/q=A.pl)->q≠R)(np:pd≠R):ä K a (upd H R (.lst ys)) p A X f O m q dx pd s ds d x:=by
 erw[h.ft.app hR hq,#[yg (λz=>?_) h.sk.me,yg np h.sk.dt,yg (λz=>?_) h.sk.sp,h.sk.ne],h.ok,h.nO,h.nd]
 .let e:=h.sk.me;rw[z,hR]at e;cases e
 .let e:=h.sk.sp;rw[z,hR]at e;cases e
def ä.notN{H:Hp}{p R:qa}{A:FA}{X:FX}{f:Α}{m:Nat}{dx pd s:qa}{x:Sn}(h:ä K a H p A X f O m q dx pd s ds d x)(hR:H R\(xs.map V.int))(nm:R≠A.ml)(ne:R≠A.el):∀q,(q=A.bl\/q=A.el\/q=A.ml\/q=A.pl)->q≠R:=λq j z=>by
 let i:=h.ft.n1
 have b:∀(g:Λ),xs.map V.int=refs g A.n->False:=λg e=>by
  have c:(refs g A.n)[0]?=some (V.ref (g 0)):=yy3 i;rw[<- e,bB]at c
  cases w:xs[0]? with
  |none=>rw[w]at c;cases c
  |some y=>rw[w]at c;cases c
 rcases j with y|y|y|y
 .let e:=h.ft.bl;rw[<- y,z,hR]at e;erw[b _ (HO.lst.inj (bL e))]
 .erw[ne (z.symm.trans y)]
 .erw[nm (z.symm.trans y)]
 .let e:=h.ft.pl;rw[<- y,z,hR]at e;erw[b _ (HO.lst.inj (bL e))]
def RGo.app{p s R:qa}{A:FA}{H H1:Hp}{ml el:qa}{o':HO}(h:RGo p q s A O H H1 ml el O')(hR:H R=none):RGo p q s A O H (upd H1 R o') ml el O' :=
 #[h.hm,h.he,h.hO,λc o e i a d g f b=>yg (yb e hR) (h.fr c o e i a d g f b),λc o e=>let ⟨o1,w⟩:=h.live c o e;#[o1,yg (yb e hR) w]]
noncomputable def wB(i:Nat):Int:=([128,64,32,16,8,4,2,1]:Ο)[i]?.getD 0
def vhj(i:Nat):0<=wB i/\wB i<=128:=by
 rcases i with _|_|_|_|_|_|_|_|i
 .exists by decide,∅
 .exists by decide,∅
 .exists by decide,∅
 .exists by decide,∅
 .exists by decide,∅
 .exists by decide,∅
 .exists by decide,∅
 .exists by decide,∅
 .exists by show (0:Int)<=0;decide,by show (0:Int)<=128;decide
def sgB(A:FA)(d:Ο)(S:FX×Sn)(i:Nat):Ο:=(List.range i).map λj=>wB j*ú A d S j
def yo8(A:FA)(d:Ο)(S:FX×Sn)(i:Nat):sgB A d S (i+1)=sgB A d S i++[wB i*ú A d S i]:=by unfold sgB;rw[List.range_succ,bA];rfl
#synth va0 ["foreteller","seeker"] vew
#synth ∀(K:xy)(a:Ads),∀(p:qa)(A:FA)(S:FX×Sn)(f:Α)(O:Β)(m:Nat)(q dx pd s ds:qa)(d:Ο)(_:vs=[.ref p,.ref q])(_:ä K a H p A S.1 f O m q dx pd s ds d S.2)(_:m+80<1000000)(_:0<=S.1.nd)(_:S.1.sg.length<=90000)(_:∀(ml el pl:qa)(sl:Λ)(f':Α)(O':Β)(H':Hp),ä K a H' p (A.re ml el pl sl) (rst A d S 8).1 f' O' (m+8*A.n) q dx pd s ds d (rst A d S 8).2->RGo p q s A O H H' ml el O'->Q (.int (sgB A d S 8).sum) H'),ycw
def yzs:'v' 8 a.Pq a.Sk ["foreteller","seeker"] (ycw K a):=by
 exists T.Uc.F.ok,va0,hr;let#[p,b,S,f,O,m,q,dx,pd,Z,ds,d,J,X,hm,a5,aa,k]:=h;let n6:=X.ft.n6;exists 2,0,yc (yp (pcB (ñ J) T.I2 (pa1 (wx (js:=[1,0]) (ys:=["seeker","foreteller"]) J (ygu (vt J T.I5)) (λC s2 H2 fp=>(yo xk (pv 0) (ut (ys2 T) hr.m T.Mo (pac (pv 2) (pav 1))))) J J (hyc:=(all_cons J (all_cons J yv))) (hrel:=(all_cons J (all_cons J yv)))))));erw[a.C0,J,#[_,T.w_WORTHS H],λD ς=>?_,<-ycv (xs:=[.int 128,.int 64,.int 32,.int 16,.int 8,.int 4,.int 2,.int 1]) (λi G=>∃(t u U:qa)(M:Λ)(f':Α)(O':Β),ä K a G p (b.re t u U M) (rst b d S i).1 f' O' (m+i*b.n) q dx pd Z ds d (rst b d S i).2/\RGo p q Z b O H G t u O'/\G D\((sgB b d S i).map V.int)/\D≠t/\D≠u) ?_ (λi G F F=>T.w_WORTHS G) ?_ ?_]
 .have S1:yu H (upd H D (.lst [])):=yz ς;erw[b.ml,b.el,b.pl,b.sl,f,O,?_,RGo.refl.same S1,ya,(yb X.ft.mx.l ς).symm,(yb X.ft.el ς).symm];rwa[Nat.zero_mul,X.same S1]
 .rintro i y G j a3 ⟨t,u,U,M,f1,O1,e,r,c,I,x⟩;have hi:i<8:=a3
  obtain rfl:y=V.int (wB i):=by
   rcases i with _|_|_|_|_|_|_|_|i
   .erw[(bL j).symm]
   .erw[(bL j).symm]
   .erw[(bL j).symm]
   .erw[(bL j).symm]
   .erw[(bL j).symm]
   .erw[(bL j).symm]
   .erw[(bL j).symm]
   .erw[(bL j).symm]
   .omega
  have a9:i*b.n<=8*b.n:=Nat.mul_le_mul_right _ ();let#[a8,ab]:=vhj i;let a1:=ygz b d S a5 i;let a6:=yhf b d S i;ext;erw[p,b.re t u U M,(rst b d S i).1,f1,O1,m+i*b.n,q,dx,pd,Z,ds,d,(rst b d S i).2,J,e,(),a1,(),λL R a0 a4 f2 O2 G2 Y g=>?_]
  have v:G2 D\((sgB b d S i).map V.int):=g.fr _ _ c (uc c e.ft.me 'z') (uc c e.ft.mx.o 'z') x (uc c e.sk.me 'z') (uc c e.sk.sp 'z') (e.ft.B.nlst c)
  have N:D≠L:=by
   rcases g.hm with z|z
   .rw[z];erw[I]
   .erw[yb c z]
  have W:D≠R:=by
   rcases g.he with z|z
   .rw[z];erw[x]
   .erw[yb c z]
  erw[wB i,_,J,J,.inl #[(),()],?_,<-_,v,?_,8-(i+1),by show 8-(i+1)<8-i;omega,J,hi,L,R,a0,a4,f2,O2,?_,?_,?_,N,W]
  .unfold sgB;rwa[bo,bo,b9,Nat.lt_trans hi ∅]
  .rw[show m+(i+1)*b.n=m+i*b.n+b.n by rw[Nat.succ_mul,Nat.add_assoc]];erw[ä.app Y v (Y.notN v N W) (yb X.sk.dt ς)]
  .erw[(r.trans g).app ς]
  .rw[yo8,bA];erw[ya]
 .rintro G ⟨t,u,U,M,f1,O1,e,r,c,I,x⟩;ext;erw[D,sgB b d S 8,J,SqL.of c,?_,←k t u U M f1 O1 G e r]
theorem ä.up{H:Hp}{p:qa}{A:FA}{X:FX}{f:Α}{m:Nat}{dx pd s:qa}{x:Sn}(h:ä K a H p A X f O m q dx pd s ds d x)(hm:m<=m'):ä K a H p A X f O m' q dx pd s ds d x:=#[h.ft.up hm,h.sk,h.ok,h.nO,h.nd]
def ytw(A:FA)(d:Ο)(S:FX×Sn)(ml el pl:qa)(sl:Λ)(n:Nat):ú (A.re ml el pl sl) d S n=ú A d S n:=by unfold ú;rw[yl9];rfl
def vbx(A:FA)(d:Ο)(S:FX×Sn)(ml el pl:qa)(sl:Λ)(n:Nat):sgB (A.re ml el pl sl) d S n=sgB A d S n:=by unfold sgB;erw[List.map_congr_left λj Z=>by rw[ytw]]
def rsg(A:FA)(d:Ο)(S:FX×Sn)(k:Nat):Int:=(sgB A d (rst A d S (9*k+1)) 8).sum
def rtx(A:FA)(d:Ο)(S:FX×Sn)(k:Nat):Ο:=(List.range k).map (rsg A d S)
def yoh(A:FA)(d:Ο)(S:FX×Sn)(k:Nat):rtx A d S (k+1)=rtx A d S k++[rsg A d S k]:=by unfold rtx;rw[List.range_succ,bA];rfl
def yk0(A:FA)(d:Ο)(S:FX×Sn)(k:Nat):(rtx A d S k).length=k:=by unfold rtx;rw[bo,b9]
end
section
mutual
variable{G:Hp}{p:qa}{A:FA}{S:FX×Sn}{f:Α}{m n:Nat}{dx pd s ml el pl:qa}{sl:Λ}{Q:VK}{E:XK}
def yyp(hR:ä K a G p (A.re ml el pl sl) (rst A d S n).1 f O m q dx pd s ds d (rst A d S n).2)(hm:m+20<1000000)(nd0:0<=S.1.nd)(hsg:S.1.sg.length+n<=100000)
  (k:∀(ml2 el2 pl2:qa)(sl2:Λ)(f':Α)(O':Β)(H':Hp),ä K a H' p (A.re ml2 el2 pl2 sl2) (rst A d S (n+1)).1 f' O' (m+6) q dx pd s ds d (rst A d S (n+1)).2->RGo p q s (A.re ml el pl sl) O G H' ml2 el2 O'->Q (.int (ú A d S n)) H'):ygi K a [.ref p,.ref q] G Q E :=
 #[p,A.re ml el pl sl,(rst A d S n).1,f,O,m,q,dx,pd,s,ds,d,(rst A d S n).2,J,hR,hm,ygz A d S nd0 n,ck (yhf A d S n) hsg,λml2 el2 pl2 sl2 f' O' H' b c=>k ml2 el2 pl2 sl2 f' O' H' (ä.up b (Nat.add_le_add_left hR.ft.n6 m)) c]
def yu1(hR:ä K a G p (A.re ml el pl sl) (rst A d S n).1 f O m q dx pd s ds d (rst A d S n).2)(hm:m+80<1000000)(nd0:0<=S.1.nd)(hsg:S.1.sg.length+n<=90000)
  (k:∀(ml2 el2 pl2:qa)(sl2:Λ)(f':Α)(O':Β)(H':Hp),ä K a H' p (A.re ml2 el2 pl2 sl2) (rst A d S (n+8)).1 f' O' (m+48) q dx pd s ds d (rst A d S (n+8)).2->RGo p q s (A.re ml el pl sl) O G H' ml2 el2 O'->Q (.int (sgB A d (rst A d S n) 8).sum) H'):ycw K a [.ref p,.ref q] G Q E:=by exists p,A.re ml el pl sl,rst A d S n,f,O,m,q,dx,pd,s,ds,d,J,hR,hm,ygz A d S nd0 n,ck (yhf A d S n) hsg,λml2 el2 pl2 sl2 f' O' H' b c=>?_;have e:A.n<=6:=hR.ft.n6;let b:=ä.up b (show m+8*A.n<=m+48 by omega);rw[yl9,yfd]at b;rwa[vbx,k ml2 el2 pl2 sl2 f' O' H' b c]
end
end
mutual
#synth yro ["foreteller","seeker","most","text"] ["foreteller","seeker","most"] ves
#synth ∀(K:xy)(a:Ads),∀(p:qa)(A:FA)(S:FX×Sn)(f:Α)(O:Β)(m:Nat)(q dx pd s ds:qa)(d:Ο)(mo:Nat)(_:vs=[.ref p,.ref q,.int mo])(_:ä K a H p A S.1 f O m q dx pd s ds d S.2)(_:mo<=1000)(_:m+54*mo+200<1000000)(_:0<=S.1.nd)(_:S.1.sg.length<=10000)(_:(∀(N:Nat)(r ml el pl:qa)(sl:Λ)(f':Α)(O':Β)(H':Hp),N<=mo->(∀j,j<N->ú A d S (9*j)=1)->ú A d S (9*N)=0->H r=none->H' r\((rtx A d S N).map V.int)->r≠el->ä K a H' p (A.re ml el pl sl) (rst A d S (9*N+1)).1 f' O' (m+54*N+6) q dx pd s ds d (rst A d S (9*N+1)).2->RGo p q s A O H H' ml el O'->Q (.ref r) H'))(_:((∀j,j<=mo->ú A d S (9*j)=1)->∀(ml el:qa)(O':Β)(H':Hp),RGo p q s A O H H' ml el O'->E (.ref a.Bm) none H')),yjq
def yya:'e' 9 a.Pr a.Sl ["foreteller","seeker","most"] (yjq K a):=by
 exists T.Ud.F.okE,yro,hr;let#[p,g,S,f,O,m,q,dx,pd,M,ds,d,R,J,hR,an,hm,a6,am,kQ,kE]:=h;exists 3,1,yh (pst 3 yro.nd (vn xo)) (yh (Ï PassesOwn.leaving (yt xj (ut (ys2 T) hr.m T.Mo (pac (pv 0) (pav 1))) yd (ve _)) (yh (vq (yt xj (pcB yq T.Af (pav 3)) (pv 2) (ve _)) (yc (xg J T.O7 T.Vu (pa1 yr))) yy) (yc (yw ('u' (pv 3) (pa1 (ut (yzs T) hr.m T.Uc (pac (pv 0) (pav 1))))))))) (yc (yp (pv 3))));exists 'l',λr hr0=>?_
 exists hr0,H1,S1,hr1;have ae:pd≠r:=yb hR.sk.dt hr0;ext
 erw[λw σ' G=>∃(N:Nat)(C D pl:qa)(Z:Λ)(f':Α)(O':Β),σ'=[some (.ref p),some (.ref q),some (.int R),some (.ref r)]/\N<=R/\(∀j,j<N->ú g d S (9*j)=1)/\ä K a G p (g.re C D pl Z) (rst g d S (9*N)).1 f' O' (m+54*N) q dx pd M ds d (rst g d S (9*N)).2/\RGo p q M g O H G C D O'/\G r\((rtx g d S N).map V.int)/\r≠C/\r≠D/\w=R-N,
  #[_,0,g.ml,g.el,g.pl,g.sl,f,O,J,bR _,λj hj=>absurd hj (bS j),hR.same S1,RGo.refl.same S1,hr1,(yb hR.ft.mx.l hr0).symm,(yb hR.ft.el hr0).symm,J],?_]
 rintro w σ2 G ⟨N,C,D,pl,Z,f1,O1,rfl,hN,a5,e,aa,ah,I,y,rfl⟩;ext;erw[yyp e () a6 () λn u a7 aj f2 O2 G2 L i=>?_]
 have t:∀{G G2:Hp}{C D pl n u:qa}{Z:Λ}{X:FX}{f1:Α}{O1 O2:Β}{m x}{xs:Τ},ä K a G p (g.re C D pl Z) X f1 O1 m q dx pd M ds d x->RGo p q M (g.re C D pl Z) O1 G G2 n u O2->G r\xs->r≠C->r≠D->G2 r\xs/\r≠n/\r≠u:=λe i c I y=>by
  erw[i.fr _ _ c (uc c e.ft.me 'z') (uc c e.ft.mx.o 'z') y (uc c e.sk.me 'z') (uc c e.sk.sp 'z') (e.ft.B.nlst c),?_,?_]
  .rcases i.hm with z|z
   .rw[z];erw[I]
   .erw[yb c z]
  .rcases i.he with z|z
   .rw[z];erw[y]
   .erw[yb c z]
 let#[v,ad,a3]:=t e i ah I y;let k:=aa.trans i;let a0:=yrh g d S (9*N);generalize ab:ú g d S (9*N)=b at a0;ext;erw[za (λhb=>?_) (λhb=>?_)]
 .subst hb
  have a2:∀j,j<N+1->ú g d S (9*j)=1:=λj hj=>by
   by_cases z:j=N
   .rw[z];erw[ab]
   .erw[a5 j ()]
  erw[yc7 ?_,←ur (SqL.of v) ?_];rw[bo,yk0];ext;erw[za (λhc=>?_) (λhc=>?_)]
  .have ak:N=R:=()
   ext;exists 'l',kE (λj hj=>a2 j ()) n u O2 G2 k
  .ext;erw[υ v ?_,←yu1 L () a6 () λa8 ac ag a9 f3 O3 G3 Y a4=>?_];let#[ς,U,a1]:=t L a4 v ad a3;let W:=k.trans a4;ext;erw[uw ς (vv (by rw[bo,yk0];omega)) ?_];ext;exists _,?_,N+1,a8,ac,ag,a9,f3,O3,J,(),a2,?_,W.app hr0,?_,U,a1,rfl
   .omega
   .erw[ä.app Y ς (Y.notN ς U a1) ae]
   .rw[ya,yoh,bA];rfl
 .have ai:ú g d S (9*N)=0:=()
  ext;erw[kQ N r n u a7 aj f2 O2 G2 hN a5 ai hr0 v a3 L k]
def yv6(x:Sn)(c b:Int):(nar x c b).2.2<=x.2.2+2:=by
 unfold nar ren
 (repeat' split)<;>(dsimp only;omega)
theorem yp1(A:FA)(d:Ο)(S:FX×Sn):∀n:Nat,(rst A d S n).2.2.2<=S.2.2.2+2*(n:Int)
 |0=>by show S.2.2.2<=S.2.2.2+2*((0:Nat):Int);omega
 |n+1=>by
  let a:=yp1 A d S n;let b:=yv6 (rst A d S n).2 (chX A (rst A d S n).1) (Ě d (rst A d S n).2 (chX A (rst A d S n).1));show (nar (rst A d S n).2 (chX A (rst A d S n).1) (Ě d (rst A d S n).2 (chX A (rst A d S n).1))).2.2<=_;omega
structure ROk(A:FA)(d:Ο)(S:FX×Sn)(N:Nat):Prop where
 b1:∀j,j<N->ú A d S (9*j)=1
 b0:ú A d S (9*N)=0
 tk:d.take (tL (rst A d S (9*N+1)).2).length=tL (rst A d S (9*N+1)).2
def ROk.uniq{A:FA}{S:FX×Sn}{N M:Nat}(h:ROk A d S N)(b1:∀j,j<M->ú A d S (9*j)=1)(b0:ú A d S (9*M)=0):M=N:=by
 rcases Nat.lt_trichotomy M N with z|z|z
 .let e:=h.b1 M z;rw[b0]at e;cases e
 .erw[z]
 .let e:=b1 N z;rw[h.b0]at e;cases e
def rTL(A:FA)(d:Ο)(S:FX×Sn)(N:Nat):Nat:=(tL (rst A d S (9*N+1)).2).length
def RGo.fgo{p s:qa}{A:FA}{H0 H H':Hp}{ml el:qa}(S:yu H0 H)(hq:H0 q=none)(hs:H0 s=none)(h:RGo p q s A O H H' ml el O'):FGo p A O H0 H' el O' :=
 #[h.he.imp id S.free,λj c b w=>(h.hO j c b w).imp id S.free,λc o e g a f d=>h.fr c o (S _ _ e) g a f (yb e hq) (yb e hs) d,λc o e=>h.live c o (S _ _ e)]
#synth ygw ["foreteller","data","most","seeker","text","own"] ["foreteller","data","most"] vdy
#synth ∀(K:xy)(a:Ads),∀(p:qa)(A:FA)(X:FX)(f:Α)(O:Β)(m:Nat)(dt:qa)(d:Ο)(mo:Nat)(_:vs=[.ref p,.ref dt,.int mo])(_:γ K a H p A X f O m)(_:H dt\(d.map V.int))(_:dt≠A.el)(_:Byt d)(_:d.length<=12000)(_:mo<=1000)(_:m+54*mo+200<1000000)(_:0<=X.nd)(_:X.sg.length<=10000)(_:(∀(N:Nat)(t r el:qa)(O':Β)(H':Hp),N<=mo->ROk A d (X,s0) N->H t=none->H r=none->H' t∪[.ref r,.int (rTL A d (X,s0) N)]->H' r\((rtx A d (X,s0) N).map V.int)->FGo p A O H H' el O'->(r≠el/\∃ml pl sl f',γ K a H' p (A.re ml el pl sl) (rst A d (X,s0) (9*N+1)).1 f' O' (m+54*N+6))->Q (.ref t) H'))(_:((∀N,N<=mo->¬ROk A d (X,s0) N)->∀(el:qa)(O':Β)(H':Hp),FGo p A O H H' el O'->E (.ref a.Bm) none H')),ycl
def vbh:'e' 10 a.Ps a.Sm ["foreteller","data","most"] (ycl K a):=by
 exists T.Ue.F.okE,ygw,hr;let#[p,l,X,f,O,m,dt,d,mo,J,hF,v,a1,a6,ab,ad,hm,ae,a7,kQ,kE]:=h;erw[yi (pst 3 ygw.nd (uu T.W3 (yzu T) hr.m J T.W0 T.Ub.B .nil vd (pav 1))) ?_,<-yi (pst 4 ygw.nd (uz (yya T) hr.m T.Ud vd (pac (pv 0) (pac (pv 3) (pav 2))))) ?_,<-yi (pst 5 ygw.nd (vg (pv 3) T.B9 T.Mm.m (vat T) hr.m T.Mm.B .nil vo)) ?_,<-yi (vq (yt (Ō hr.units) (uh jb (pv 1) zf (ux (pcB yq T.Af (pav 5)))) (pv 5) (ve _)) (yc (xg J T.O7 T.Vu (pa1 yr))) yy) ?_];exists 3,3,yc (yp (we (pac (pv 4) (pa1 (pcB yq T.Af (pav 5))))));intro q D L aa ag;have R:yu H (upd (upd H D (.own q)) q (.ins a.As D [])):=λb o e=>by rwa[yn (yb e L),yn (yb e aa),e]
 erw[q,D,.ref dt,_,J,ya,.lst (R _ _ v),.inr #[d,yno (R _ _ v) a6 ab,λpd Z ds H1 W I a0 B1=>#[J,?_]]];have S1:yu H H1:=λb o e=>B1 b o (R b o e) (yb e L);have z:H Z=none:=R.free I;have ac:H pd=none:=R.free W
 have nO:∀{c:qa},H c=none->∀i,i<l.n->¬O i c:=λG i hi w=>by
  let#[o,ho,_]:=(hF.B.b i hi).own _ w;rw[G]at ho;cases ho
 have hR:ä K a H1 p l X f O m q D pd Z ds d s0:=#[hF.same S1,a0,vii,λi hi=>#[nO L i hi,nO z i hi],(yb hF.el ac).symm];ext;erw[p,l,(X,s0),f,O,m,q,D,pd,Z,ds,d,mo,J,hR,ad,hm,ae,a7,λN r ml el pl sl f2 O2 H2 hN Y S a8 a2 a9 k y=>?_,λU ml el O2 H2 y=>?_]
 .let a5:=yp1 l d (X,s0) (9*N+1);have a3:((X,s0):FX×Sn).2.2.2=5:=rfl;rw[a3]at a5;let go:=y.fgo S1 L z;let ai:=k.sk.me;have ς:H2 dt\(d.map V.int):=(go.kpa hF).lst v a1;ext;exists q,D,pd,Z,ds,d,_,J,k.sk,k.ok,by show Int.toNat _<=100000;omega,λw H3 ah x S3=>?_
  ext;erw[ur (SqL.of x) ?_];rw[bo];ext;erw[Ŏ (SqL.of (S3 _ _ ς)) λu hu=>?_];have ec:ydg (d.map V.int) none (some (((tL (rst l d (X,s0) (9*N+1)).2).length:Nat):Int))=(d.take (tL (rst l d (X,s0) (9*N+1)).2).length).map V.int:=by rwa[List.map_take,jm _]
  rw[ec];exists hu,H4,S4,hu4;let C:=go.same (S3.trans S4);ext;erw[ywr _ _ (SqL.of hu4) (SqL.of (S4 _ _ x)) ?_];by_cases G:d.take (tL (rst l d (X,s0) (9*N+1)).2).length=tL (rst l d (X,s0) (9*N+1)).2
  .rw[bz G];ext;erw[ur (SqL.of (S4 _ _ x)) ?_];rw[bo];ext;exists 'l',λt j=>?_
   erw[kQ N t r el O2 _ hN #[Y,S,G] (C.free j) (S1.free a8) ya (zr j ((S3.trans S4) _ _ a2)) (C.same (yz j)) #[a9,ml,pl,sl,f2,((k.ft.same (S3.trans S4)).same (yz j))]]
  .rw[bD G];ext;exists 'l',kE (λM hM g=>G (by rwa[g.uniq Y S,g.tk])) el O2 _ C
 .erw[kE (λM hM g=>by have e:=U M hM;rw[g.b0]at e;cases e) el O2 H2 (y.fgo S1 L z)]
structure vkm(H:Hp)(L dt:qa)(lx:V)(n:Nat)(lk:Λ)(kd:Ν)(tp:Λ)(ps:Κ)(d:Ο)(mo N w:Nat)(lt:Λ)(tt:Κ):Prop where
 l:H L\(refs lk n)
 n1:1<=n
 n6:n<=6
 r:uk H n lk kd tp ps
 dat:H dt\(d.map V.int)
 by':Byt d
 dl:d.length<=12000
 mo1:mo<=1000
 lr:vjk H lx N w lt tt
 w1:w<=1000
 N1:N<=1000
 b:6+6*(N*(9*w+1))+54*mo+200<1000000
def rS(n:Nat)(kd:Ν)(ps:Κ)(pre:Ο):FX×Sn:=((FX0 n kd).run (fa0 n ps) pre,s0)
theorem Þ(A:FA)(d:Ο)(S:FX×Sn):∀k,rst A d S k=rst (fa0 A.n A.ps) d S k
 |0=>rfl
 |k+1=>by
  show rnx A d (rst A d S k)=rnx (fa0 A.n A.ps) d (rst (fa0 A.n A.ps) d S k);rw[Þ A d S k];rfl
def ï(A:FA)(d:Ο)(S:FX×Sn)(k:Nat):ú A d S k=ú (fa0 A.n A.ps) d S k:=by unfold ú;rw[Þ];rfl
def yum(A:FA)(d:Ο)(S:FX×Sn)(k:Nat):rsg A d S k=rsg (fa0 A.n A.ps) d S k:=by unfold rsg sgB;rwa[Þ,congrArg List.sum (List.map_congr_left λj Z=>by rw[ï])]
def yt3(A:FA)(d:Ο)(S:FX×Sn)(k:Nat):rtx A d S k=rtx (fa0 A.n A.ps) d S k:=by unfold rtx;erw[List.map_congr_left λj Z=>yum A d S j]
def yvf(A:FA)(d:Ο)(S:FX×Sn)(k:Nat):rTL A d S k=rTL (fa0 A.n A.ps) d S k:=by unfold rTL;rw[Þ]
theorem ROk.fa0{A:FA}{S:FX×Sn}{N:Nat}:ROk A d S N↔ROk (fa0 A.n A.ps) d S N:=by
 constructor
 .intro h;exists λj a=>by rwa[<- ï,h.b1 j a],by rwa[<- ï,h.b0],by rwa[<- Þ,h.tk]
 .intro h;exists λj a=>by rwa[ï,h.b1 j a],by rwa[ï,h.b0],by rwa[Þ,h.tk]
def yqo{mx:Nat->Int}(hd:Byt d){m:Nat}(hc:∀j,j<m->Ch (mx j))(hb:∀j,j<m->bt j=0\/bt j=1)(i:InS d (snK mx bt m)):∀k,k<m->bt k=Ě d (snK mx bt k) (mx k)/\InS d (snK mx bt k):=by
 induction m with
 |zero=>erw[λk b=>absurd b (bS k)]
 |succ m ih =>
  let f:=(ô (mx:=mx) (bt:=bt) m λj c=>hc j ()).1;let#[a,e]:=yua hd f (hc m ()) (hb m ()) i;intro k b;by_cases z:k=m
  .rw[z];erw[e,a]
  .erw[ih (λj c=>hc j ()) (λj c=>hb j ()) a k ()]
def vdn{k:Nat}(h:k<(dec ts).length):ww ts k=0\/ww ts k=1:=by let#[b,a]:=ynl ts k h;omega
def ymw(x:Sn):Byt (tL x):=λb a=>ywi _ _ b a
theorem Ğ{n:Nat}{kd:Ν}{ps:Κ}{pre:Ο}(hd:Byt d)(hc:∀j,j<(dec ts).length->Ch (Ú n kd ps pre ts j))(hi:InS d ('k' (dec ts).length)):∀k,k<=(dec ts).length->rst (fa0 n ps) d (rS n kd ps pre) k=(fX n kd ps pre ts k,'k' k)
 |0,_=>rfl
 |k+1,hk=>by
  let c:=(yqo hd hc (λj b=>vdn b) hi k ()).1;have e:(dec ts)[k]?=some (ww ts k):=by unfold ww;rw[bp ()];rfl
  show rnx (fa0 n ps) d (rst (fa0 n ps) d (rS n kd ps pre) k)=_;rw[Ğ hd hc hi k ()];show ((fX n kd ps pre ts k).see (fa0 n ps) (Ě d ('k' k) (Ú n kd ps pre ts k)),nar ('k' k) (Ú n kd ps pre ts k) (Ě d ('k' k) (Ú n kd ps pre ts k)))=(fX n kd ps pre ts (k+1),nar ('k' k) (Ú n kd ps pre ts k) (ww ts k));rw[<- c]
  have a:fX n kd ps pre ts (k+1)=(fX n kd ps pre ts k).see (fa0 n ps) (ww ts k):=by
   unfold fX;rw[Ġ e]
  rw[a]
def yke{n:Nat}{kd:Ν}{ps:Κ}{pre:Ο}(hd:Byt d)(hc:∀j,j<(dec ts).length->Ch (Ú n kd ps pre ts j))(hi:InS d ('k' (dec ts).length))(k:Nat)(hk:k<(dec ts).length):ú (fa0 n ps) d (rS n kd ps pre) k=ww ts k:=by have b:=(yqo hd hc (λj a=>vdn a) hi k hk).1;unfold ú;rwa[Ğ hd hc hi k (),b.symm]
def Ā(t:Int)(r:Ο)(k:Nat):ww (t::r) (k+9)=ww r k:=rfl
def yhz(t:Int)(r:Ο):∀i,i<8->ww (t::r) (1+i)=t/wB i%2:=λi a=>by
 rcases i with _|_|_|_|_|_|_|_|i
 .rfl
 .rfl
 .rfl
 .rfl
 .rfl
 .rfl
 .rfl
 .rfl
 .omega
theorem ĺ:∀(ts:Ο)(j:Nat)(hj:j<ts.length),ww ts (9*j)=1/\∀i,i<8->ww ts (9*j+1+i)=ts[j]/wB i%2
 |[],j,hj=>absurd hj (bS j)
 |t::r,0,_=>#[J,λi a=>by rw[show 9*0+1+i=1+i by omega];erw[yhz t r i a]]
 |t::r,j+1,hj=>by
  let#[b,c]:=ĺ r j (by simpa using hj);erw[?_,λi a=>?_]
  .rw[show 9*(j+1)=9*j+9 by omega,Ā];erw[b]
  .rw[show 9*(j+1)+1+i=9*j+1+i+9 by omega,Ā];erw[c i a]
theorem yfp:∀ts:Ο,ww ts (9*ts.length)=0
 |[]=>rfl
 |t::r=>by
  rw[show 9*(t::r).length=9*r.length+9 by rw[bN];omega,Ā];erw[yfp r]
def yox(A:FA)(d:Ο)(S:FX×Sn)(c i:Nat):ú A d (rst A d S c) i=ú A d S (c+i):=by unfold ú;rw[yfd]
def yjw{n:Nat}{kd:Ν}{ps:Κ}{pre:Ο}(hts:Sgs ts)(hd:Byt d)(hc:∀j,j<(dec ts).length->Ch (Ú n kd ps pre ts j))(hl:(tL ('k' (dec ts).length)).length<=d.length)(h:d.take (tL ('k' (dec ts).length)).length=tL ('k' (dec ts).length)):
  ROk (fa0 n ps) d (rS n kd ps pre) ts.length/\rtx (fa0 n ps) d (rS n kd ps pre) ts.length=ts/\rTL (fa0 n ps) d (rS n kd ps pre) ts.length=(tL ('k' (dec ts).length)).length:=by
 let p:=(ô (bt:=ww ts) _ hc).1;let a:=ykw hd p hl h;let c:=jd ts
 have f:rst (fa0 n ps) d (rS n kd ps pre) (9*ts.length+1)=(fX n kd ps pre ts (dec ts).length,'k' (dec ts).length):=by
  rwa[<- c,Ğ hd hc a _ (bx _)]
 let b:=yke hd hc a;erw[#[λj l=>?_,?_,?_],?_,?_]
 .rw[b _ ()];erw[(ĺ ts j l).1]
 .rw[b _ ()];erw[yfp ts]
 .rw[f];erw[h]
 .show (List.range ts.length).map (rsg (fa0 n ps) d (rS n kd ps pre))=ts;erw[List.ext_getElem (by rw[bo,b9]) λj q g=>?_];rw[cL,List.getElem_range];let k:=hts ts[j] (bW g);let m:=(ĺ ts j g).2
  have e:∀i,i<8->wB i*ú (fa0 n ps) d (rst (fa0 n ps) d (rS n kd ps pre) (9*j+1)) i=wB i*(ts[j]/wB i%2):=λi a=>by
   rw[yox,b _ (),m i a]
  have o:sgB (fa0 n ps) d (rst (fa0 n ps) d (rS n kd ps pre) (9*j+1)) 8=(List.range 8).map λi=>wB i*(ts[j]/wB i%2):=by
   unfold sgB;erw[List.map_congr_left λi a=>e i (cG.mp a)]
  unfold rsg;rwa[o,vgz k.1 k.2]
 .unfold rTL;rw[f]
def yaz{ys:Ο}(h1:Byt xs)(h2:Byt ys):Byt (xs++ys):=λb a=>by
 rcases bQ.mp a with h|h
 .erw[h1 b h]
 .erw[h2 b h]
def Ð(n:Nat)(kd:Ν)(ps:Κ)(pre ts:Ο):Ο:=tL ('k' (dec ts).length)
def ya2{n:Nat}{kd:Ν}{ps:Κ}{pre:Ο}(n1:1<=n)(n6:n<=6)(hp:ydl pre)(hz:ts.length<=300):(Ð n kd ps pre ts).length<=5500:=by
 let b:=jd ts;let#[c,a]:=ô (mx:=Ú n kd ps pre ts) (bt:=ww ts) (dec ts).length λj Z=>ybo n1 n6 hp j;unfold Ð;rw[ymb];have:sz ('k' (dec ts).length)<=5500:=by show Int.toNat _<=5500;omega
 omega
def yo5{n:Nat}{kd:Ν}{ps:Κ}{pre bs:Ο}(n1:1<=n)(n6:n<=6)(hp:ydl pre)(hts:Sgs ts)(hb:Byt bs):
  ROk (fa0 n ps) (Ð n kd ps pre ts++bs) (rS n kd ps pre) ts.length/\rtx (fa0 n ps) (Ð n kd ps pre ts++bs) (rS n kd ps pre) ts.length=ts/\rTL (fa0 n ps) (Ð n kd ps pre ts++bs) (rS n kd ps pre) ts.length=(Ð n kd ps pre ts).length :=
 yjw hts (yaz (ymw _) hb) (λj Z=>ybo n1 n6 hp j) (by rwa[bq,Nat.le_add_right _ _]) List.take_left
def yvr{n:Nat}{kd:Ν}{ps:Κ}{pre bs:Ο}(n1:1<=n)(n6:n<=6)(hp:ydl pre)(hb:Byt bs):(rst (fa0 n ps) (Ð n kd ps pre ts++bs) (rS n kd ps pre) (9*ts.length+1)).1=((FX0 n kd).run (fa0 n ps) pre).run (fa0 n ps) (dec ts):=by have b:∀j,j<(dec ts).length->Ch (Ú n kd ps pre ts j):=λj Z=>ybo n1 n6 hp j;have a:Byt (Ð n kd ps pre ts++bs):=yaz (ymw _) hb;let c:=ykw a (ô (bt:=ww ts) _ b).1 (by rwa[bq,Nat.le_add_right _ _]) List.take_left;rw[<- jd ts,Ğ a b c _ (bx _)];unfold fX;rw[cq]
def vh5{x:Sn}{c b:Int}(h:Ok x)(hc:Ch c):(nar x c b).2.1<1099511627776:=by
 let#[d,e,f]:=ydd h.w0 h.w1 hc;let a:=h.w1;unfold nar ren
 (repeat' split)<;>(dsimp only at*;omega)
def ya5{n:Nat}{kd:Ν}{ps:Κ}{pre:Ο}(n1:1<=n)(n6:n<=6)(hp:ydl pre):1<=(Ð n kd ps pre ts).length:=by
 let f:=jd ts;obtain⟨m,d⟩:∃m,(dec ts).length=m+1:=#[9*ts.length,()];unfold Ð;rw[ymb,d];have a:∀j,j<m+1->Ch (Ú n kd ps pre ts j):=λj Z=>ybo n1 n6 hp j;let g:=(ô (bt:=ww ts) m λj k=>a j ()).1;let c:=(ô (bt:=ww ts) (m+1) a).1;have h:('k' (m+1)).2.1<1099511627776:=vh5 (x:='k' m) (b:=ww ts m) g.ok (a m ());let i:=ylo (ybp c.ok);let l:=c.sz5;have e:pw (tK ('k' (m+1)))<pw 5:=by rw[pw5];omega
 have:=vdp e;omega
def ù(L:qj (Ο)):Ο:=(L.map dec).flatten
def yco(L:qj (Ο))(t:Ο):ù (L++[t])=ù L++dec t:=by unfold ù;rw[bA,List.flatten_append];simp
def z0(L:qj (Ο)):ydl (ù L):=λb a=>by
 unfold ù at a;let#[l,c,a]:=List.mem_flatten.mp a;let#[t,_,J]:=bw.mp c;erw[î t b a]
def ypa{A:FA}{X:FX}(hts:Sgs ts)(h1:X.sg=[])(h2:X.nd=0):(X.run A (dec ts)).sg=[]/\(X.run A (dec ts)).nd=0:=by
 have a:∀k,k<=(dec ts).length->TxE ts k (X.run A ((dec ts).take k)).sg (X.run A ((dec ts).take k)).nd:=by
  intro k
  induction k with
  |zero =>
   intro _;erw[.inl #[bR _,by show yfl _ _ X.sg X.nd;rwa[h1,h2,yfl.zero _]]]
  |succ k ih =>
   intro d;have b:(dec ts)[k]?=some ((dec ts)[k]'()):=bp _;rwa[Ġ b,((ih ()).next hts b).2]
 let e:=a _ (bx _);rw[cq]at e;let c:=jd ts;rcases e with⟨h,_⟩|⟨_,h⟩
 .omega
 .erw[h]
def yw0(p:qa)(A:FA)(O:Β):Μ:=λc=>c=p\/c=A.mp\/(∃j,j<A.n/\c=A.bk j)\/(∃j,j<A.n/\O j c)\/c=A.el
def FZ(K:xy)(a:Ads)(H:Hp)(p:qa)(n:Nat)(kd:Ν)(ps:Κ)(pre:Ο)(M:Nat)(W:Μ):Prop :=
 ∃A f O m,γ K a H p A ((FX0 n kd).run (fa0 n ps) pre) f O m/\m<=M/\yw2 H A/\A.n=n/\A.kd=kd/\A.ps=ps/\((FX0 n kd).run (fa0 n ps) pre).sg=[]/\((FX0 n kd).run (fa0 n ps) pre).nd=0/\∀c,W c↔yw0 p A O c
noncomputable def vgj:HO->Bool
 | .ins _ _ _=>true
 | .dT _=>true
 | .dK _=>true
 | .frz _ (.dK _)=>true
 |_=>false
def vim(o:ql HO):Prop:=(∃ys,o\ys)\/∃ys,o∪ys/\(ys.length≠2\/∃i,ys[0]?=some (.int i))
noncomputable def vjg:V->Bool
 | .non=>true
 | .bl _=>true
 |_=>false
def WSh(H:Hp)(W:Μ):Prop:=∀c,W c->∃o,H c=some o/\(vgj o=true\/∃xs,o=.lst xs/\∀x∈xs,(∃s,x=V.str s)\/vjg x=true\/∃q,x=V.ref q/\vim (H q))
def yur{o:HO}(h:yw8 o=true):vgj o=true:=by cases o<;>first|rfl|cases h
end
section
mutual
variable{H H':Hp}{p:qa}{n:Nat}{kd:Ν}{ps:Κ}{pre:Ο}{M:Nat}{W:Μ}
def FZ.sh(h:FZ K a H p n kd ps pre M W):WSh H W:=λc w=>by
 let#[A,f,O,m,d,_,_,_,_,_,l,_,e]:=h;rcases (e c).mp w with z|z|⟨j,g,z⟩|⟨j,g,z⟩|z
 .erw[_,by rwa[z,d.me],.inl J]
 .erw[_,by rwa[z,d.mx.o],.inl J]
 .erw[_,by rwa[z,(d.B.b j g).me],.inl J]
 .let#[o,k,q]:=(d.B.b j g).own c z;erw[o,k,.inl (yur q)]
 .let i:=d.el;rw[l]at i;erw[_,by rwa[z,i],.inr #[_,J,λx r=>by cases r]]
def FZ.live(h:FZ K a H p n kd ps pre M W):∀c,W c->∃o,H c=some o:=λc w=>let ⟨o,e,_⟩:=h.sh c w;#[o,e]
theorem FZ.same(h:FZ K a H p n kd ps pre M W)(S:yu H H'):FZ K a H' p n kd ps pre M W:=by let#[A,f,O,m,i,c,e,g,b,d,r]:=h;erw[A,f,O,m,i.same S,c,e.same S,g,b,d,r]
def FZ.up(h:FZ K a H p n kd ps pre M W){M':Nat}(hM:M<=M'):FZ K a H p n kd ps pre M' W:=by let#[A,f,O,m,i,c,g,e,b,d,r]:=h;erw[A,f,O,m,i,ck c hM,g,e,b,d,r]
theorem WSh.tup(h:WSh H W){c:qa}{xs:Τ}(e:H c∪xs):¬W c:=λw=>by
 obtain⟨o,a,z|⟨b,z,_⟩⟩:=h c w
 .rw[e]at a;cases a;cases z
 .rw[e,z]at a;cases a
def WSh.ints(h:WSh H W){c:qa}{ns:Ο}(e:H c\(ns.map V.int))(hn:1<=ns.length):¬W c:=λw=>by
 obtain⟨o,a,z|⟨b,z,q⟩⟩:=h c w
 .rw[e]at a;cases a;cases z
 .rw[e,z]at a;cases a
  cases ns with
  |nil=>cases hn
  |cons x r=>rcases q (.int x) cj with⟨_,z⟩|z|⟨_,z,_⟩<;>cases z
theorem WSh.refs(h:WSh H W){c:qa}{g:Λ}{k:Nat}(e:H c\(Law.refs g k))(hk:1<=k)(hg:¬vim (H (g 0))):¬W c:=λw=>by
 obtain⟨o,a,z|⟨f,z,q⟩⟩:=h c w
 .rw[e]at a;cases a;cases z
 .rw[e,z]at a;cases a;rcases q (.ref (g 0)) (bM (yuq hk))with⟨_,z⟩|z|⟨d,z,b⟩
  .cases z
  .cases z
  .cases z;erw[hg b]
theorem FZ.frame{W2:Μ}(h:FZ K a H p n kd ps pre M W)(sh:WSh H W2)(dj:∀c,W c->¬W2 c)(fr:∀c o,H c=some o->¬W2 c->H' c=some o):FZ K a H' p n kd ps pre M W:=by
 let#[A,f,O,m,d,X,x,Y,N,Z,e4,L,q]:=h;let k:=d.n1;let#[S,j]:=x.2.2
 have y:¬W2 A.ll:=sh.refs x.1 k λz=>by
  let#[I,e,u,_]:=j 0 k;cases e;rw[u]at z;rcases z with⟨_,z⟩|⟨_,z,r⟩
  .cases z
  .cases z;erw[r.elim (λr=>r J) λ⟨_,r⟩=>nomatch r]
 have D:¬W2 A.bl:=sh.refs d.bl k λz=>by rw[(d.B.b 0 k).me]at z;rcases z with⟨_,z⟩|⟨_,z,_⟩<;>cases z
 have E:¬W2 A.pl:=sh.refs d.pl k λz=>by
  let#[_,#[dq,U],_,_]:=d.slot k;let#[C,fs,P]:=ó a dq (((FX0 n kd).run (fa0 n ps) pre).g 0 (((FX0 n kd).run (fa0 n ps) pre).key A 0));rw[U,P]at z;rcases z with⟨_,z⟩|⟨_,z,_⟩<;>cases z
 have G:¬W2 A.ml:=sh.ints d.mx.l (by rwa[d.wok.len,k]);erw[A,f,O,m,d.frame (O2:=W2) (λc o e Q=>fr c o e Q) (dj _ ((q _).mpr (.inl J))) (dj _ ((q _).mpr (.inr (.inl J)))) (λi s=>dj _ ((q _).mpr (.inr (.inr (.inl #[i,s,J]))))) (λi c s w=>dj _ ((q _).mpr (.inr (.inr (.inr (.inl #[i,s,w])))))) (λl R F e=>fr _ _ e ?_) (λt R e=>?_),X,#[fr _ _ x.1 y,x.2.1,S,λi s=>?_],Y,N,Z,e4,L,q]
 .rcases F with z|z|z|z
  .rw[z];erw[D]
  .rw[z];erw[dj _ ((q _).mpr (.inr (.inr (.inr (.inr J)))))]
  .rw[z];erw[G]
  .rw[z];erw[E]
 .rcases e with(e|⟨o,e⟩)|e
  .erw[.inl (.inl (fr _ _ e (sh.tup e)))]
  .erw[.inl (.inr #[o,fr _ _ e λw=>?_])];obtain⟨o',v,z|⟨ys,z,_⟩⟩:=sh t w
   .rw[e]at v;cases v;cases z
   .rw[e,z]at v;cases v
  .erw[.inr e]
 .let#[I,z,u,ς,T]:=j i s;erw[I,z,fr _ _ u (sh.tup u),fr _ _ ς (sh.tup ς),T]
def FZ.went{A:FA}{f f':Α}{m:Nat}{X:FX}{ml el pl:qa}{sl:Λ}(hF:γ K a H p A ((FX0 A.n A.kd).run (fa0 A.n A.ps) pre) f O m)(hl:yw2 H A)(hX:X=(FX0 A.n A.kd).run (fa0 A.n A.ps) (pre++dec ts))(hts:Sgs ts)(h4:((FX0 A.n A.kd).run (fa0 A.n A.ps) pre).sg=[])(h5:((FX0 A.n A.kd).run (fa0 A.n A.ps) pre).nd=0)
  (hF':γ K a H' p (A.re ml el pl sl) X f' O' m') (go:FGo p A O H H' el O') (e6:∀c,W c↔yw0 p A O c):FZ K a H' p A.n A.kd A.ps (pre++dec ts) m' (yw0 p (A.re ml el pl sl) O')/\Go W H H' (yw0 p (A.re ml el pl sl) O'):=by
 subst hX;let h:=go.kpa hF;let d:=ypa (A:=fa0 A.n A.ps) hts h4 h5;erw[#[_,f',O',m',hF',bx _,#[(h _ _ hl.1 J hl.2.1).2,(h _ _ hl.1 J hl.2.1).1,?_],J,J,J,by rwa[Ċ,d.1],by rwa[Ċ,d.2],λc=>Iff.rfl],#[λc o e t=>?_,λc w=>?_,go.live]]
 .let#[u,r]:=hl.2.2;erw[u,λi B=>?_];let#[s,z,q,k,x]:=r i B;have l:∀{c:qa}{xs:Τ},H c∪xs->c≠A.el:=λe z=>by rw[z,hF.el]at e;cases e
  erw[s,z,(h _ _ q J (l q)).2,(h _ _ k J (l k)).2,x]
 .have b:¬yw0 p A O c:=λw=>t ((e6 c).mpr w);erw[go.fr c o e (λz=>b (.inl z)) (λz=>b (.inr (.inl z))) (λz=>b (.inr (.inr (.inr (.inr z))))) λj g w=>b (.inr (.inr (.inr (.inl #[j,g,w]))))]
 .rcases w with z|z|⟨j,g,z⟩|⟨j,g,z⟩|z
  .erw[.inl ((e6 c).mpr (.inl z))]
  .erw[.inl ((e6 c).mpr (.inr (.inl z)))]
  .erw[.inl ((e6 c).mpr (.inr (.inr (.inl #[j,g,z]))))]
  .rcases go.hO j c g z with v|v
   .erw[.inl ((e6 c).mpr (.inr (.inr (.inr (.inl #[j,g,v])))))]
   .erw[.inr v]
  .rcases go.he with y|y
   .erw[.inl ((e6 c).mpr (.inr (.inr (.inr (.inr (show c=A.el from Eq.trans z y))))))]
   .erw[.inr (by rwa[show c=el from z,y])]
def FZ.read{Q:VK}{E:XK}{dt:qa}{bs:Ο}{mo:Nat}(h:FZ K a H p n kd ps pre M W)(hb:ydl pre)(hts:Sgs ts)(hdt:H dt\((Ð n kd ps pre ts++bs).map V.int))(ndt:¬W dt)(hbs:Byt bs)(hdl:(Ð n kd ps pre ts++bs).length<=12000)(hz:ts.length<=mo)(hmo:mo<=1000)(hM:M+54*mo+200<1000000)
  (k:∀t r W' H',H t=none->H r=none->H' t∪[.ref r,.int ((Ð n kd ps pre ts).length:Nat)]->H' r\(ts.map V.int)->FZ K a H' p n kd ps (pre++dec ts) (M+6*(dec ts).length) W'->Go W H H' W'->¬W' r->Q (.ref t) H'):ycl K a [.ref p,.ref dt,.int mo] H Q E:=by
 let#[A,f,O,m,l,hm,hl,J,J,J,Y,L,S]:=h;let#[q,x,C]:=yo5 (kd:=A.kd) (ps:=A.ps) (pre:=pre) (bs:=bs) l.n1 l.n6 hb hts hbs;have D:Byt (Ð A.n A.kd A.ps pre ts++bs):=yaz (ymw _) hbs;erw[p,A,_,f,O,m,dt,_,mo,J,l,hdt,λz=>ndt ((S _).mpr (.inr (.inr (.inr (.inr z))))),D,hdl,hmo,(),by rw[L];decide,by rwa[Y,bR _],λN t r v Z H' hN i ς F s d X c=>?_,λu v Z H' X=>?_]
 .rw[ROk.fa0]at i;obtain rfl:N=ts.length:=q.uniq i.b1 i.b0;rw[yvf]at s;rw[yt3]at d;have s:H' t∪[.ref r,.int (rTL (fa0 A.n A.ps) (Ð A.n A.kd A.ps pre ts++bs) (rS A.n A.kd A.ps pre) ts.length)]:=s;have d:H' r\((rtx (fa0 A.n A.ps) (Ð A.n A.kd A.ps pre ts++bs) (rS A.n A.kd A.ps pre) ts.length).map V.int):=d;rw[C]at s;rw[x]at d;let#[G,P,U,R,f',c]:=c;let y:=jd ts
  have eX:(rst A (Ð A.n A.kd A.ps pre ts++bs) ((FX0 A.n A.kd).run (fa0 A.n A.ps) pre,s0) (9*ts.length+1)).1=(FX0 A.n A.kd).run (fa0 A.n A.ps) (pre++dec ts):=by
   rwa[Þ,Ċ,yvr l.n1 l.n6 hb hbs]
  let#[z,g]:=FZ.went l hl eX hts Y L c X S;erw[k t r _ H' ς F s d (z.up ()) g λw=>?_];rcases w with w|w|⟨j,I,w⟩|⟨j,I,w⟩|w
  .let e:=c.me;rw[<- w,d]at e;cases e
  .let e:=c.mx.o;rw[show r=(A.re P v U R).mp from w]at d;rw[d]at e;cases e
  .let e:=(c.B.b j I).me;rw[show r=(A.re P v U R).bk j from w]at d;rw[d]at e;cases e
  .let#[o,T,hi]:=(c.B.b j I).own _ w;rw[d]at T;cases T;cases hi
  .erw[G w]
 .erw[(u ts.length hz (by rwa[ROk.fa0,q])).elim]
def FZ.press{Q:VK}{E:XK}{tx:qa}(h:FZ K a H p n kd ps pre M W)(htx:ν H tx ts 1000)(ntx:¬W tx)(hM:M+6*(dec ts).length+20<1000000)
  (k:∀r W' H',H r=none->H' r\((Ð n kd ps pre ts).map V.int)->FZ K a H' p n kd ps (pre++dec ts) (M+6*(dec ts).length) W'->Go W H H' W'->Q (.ref r) H'):yge K a [.ref p,.ref tx] H Q E:=by
 let#[A,f,O,m,l,I,t,J,J,J,o,d,i]:=h;erw[p,A,_,f,O,m,tx,ts,J,l,o,d,htx,λz=>ntx ((i _).mpr (.inr (.inr (.inr (.inr z))))),(),λr x B D y F C G H' c u b q w=>?_]
 have v:((FX0 A.n A.kd).run (fa0 A.n A.ps) pre).run A (dec ts)=(FX0 A.n A.kd).run (fa0 A.n A.ps) (pre++dec ts):=by rwa[Ċ,yex A _ _]
 let#[z,g]:=FZ.went l t v htx.s o d b w i;erw[k r _ H' c ?_ (z.up ()) g];rw[u];have e:snK (yiy A ((FX0 A.n A.kd).run (fa0 A.n A.ps) pre) ts) (ww ts) (dec ts).length=snK (Ú A.n A.kd A.ps pre ts) (ww ts) (dec ts).length:=yce _ λj Z=>#[by unfold Ú yiy fX;rw[yex A];rfl,J];rw[e];rfl
end
end
mutual
noncomputable def nmL(L:Η):Τ:=L.map λx=>V.str x.1
def ydh(H:Hp)(U:Μ):qj (Str×qj Int)->qj V->Prop
 |[],ks=>ks=[]
 |x::r,ks=>∃k ks',ks=k::ks'/\(k=.non\/∃q,k=.ref q/\H q\(x.2.map V.int)/\¬U q)/\ydh H U r ks'
theorem ydh.len{H:Hp}:∀{L:Η}{ks:Τ},ydh H U L ks->ks.length=L.length
 |[],_,h=>by rw[show _=_ from h];rfl
 |_::r,_,⟨_,_,e,_,h⟩=>by rw[e,bN,bN,h.len]
theorem ydh.mono{H H':Hp}(f:∀q xs,H q\xs->¬U q->H' q\xs/\¬U' q):∀{L:Η}{ks:Τ},ydh H U L ks->ydh H' U' L ks
 |[],_,h=>h
 |_::_,_,⟨k,ks',e,z,h⟩=>#[k,ks',e,z.imp id λ⟨q,e,b,a⟩=>#[q,e,f q _ b a],h.mono f]
theorem ydh.snoc{H:Hp}{nm:Str}{t:Ο}{k:V}(hk:k=.non\/∃q,k=.ref q/\H q\(t.map V.int)/\¬U q):∀{L:Η}{ks:Τ},ydh H U L ks->ydh H U (L++[(nm,t)]) (ks++[k])
 |[],_,h=>by rwa[show _=_ from h,#[k,[],J,hk,rfl]]
 |_::_,_,⟨k',ks',e,z,h⟩=>#[k',ks'++[k],by rw[e];rfl,z,h.snoc hk]
theorem ydh.mem{H:Hp}:∀{L:Η}{ks:Τ},ydh H U L ks->∀x∈ks,x=.non\/∃q ys,x=.ref q/\H q\ys/\¬U q
 |[],_,h,x,hx=>by rw[show _=_ from h]at hx;cases hx
 |_::_,_,⟨k,ks',e,z,h⟩,x,hx=>by
  rw[e]at hx;rcases bH.mp hx with y|y
  .rw[y];erw[z.imp id λ⟨q,e,b,a⟩=>#[q,_,e,b,a]]
  .erw[h.mem x y]
def ChW(ll tl:qa)(W:Μ):Μ:=λc=>c=ll\/c=tl\/W c
structure å(K:xy)(a:Ads)(H:Hp)(c dc p ll tl:qa)(n:Nat)(kd:Ν)(ps:Κ)(L:Η)(ks:Τ)(M:Nat)(W:Μ):Prop where
 me:H c∩a.A4 dc (Ä (.ref p) (.ref ll) (.ref tl))
 fz:FZ K a H p n kd ps (ù (L.map (·.2))) M W
 hl:H ll\(nmL L)
 ht:H tl\ks
 tx:ydh H (ChW ll tl W) L ks
 nc:¬W c
 nll:¬W ll
 ntl:¬W tl
 ne:ll≠tl
def FZ.new{H:Hp}{p dp l:qa}{n:Nat}{lk:Λ}{kd:Ν}{ps:Κ}{Q:VK}{E:XK}(np:H p=none)(ndp:H dp=none)(hl:H l\(refs lk n))(n1:1<=n)(n6:n<=6)(r:uk H n lk kd tp ps)
  (k:∀W H',FZ K a H' p n kd ps [] 6 W->(∀c,W c->H c=none)->yu H H'->(∀y xs H'',H y\xs->But y H' H''->FZ K a H'' p n kd ps [] 6 W)->Q .non H'):yf0 K a [.ref p,.ref l] (upd (upd H dp (.own p)) p (.ins a.A6 dp [])) Q E:=by
 have d:yu H (upd (upd H dp (.own p)) p (.ins a.A6 dp [])):=λb o e=>by rwa[yn (yb e np),yn (yb e ndp),e]
 erw[p,dp,.ref l,J,ya,.inr #[l,n,lk,kd,tp,ps,J,d _ _ hl,n1,n6,r.same d,λA f O F U Y=>?_]];have B:yu H F:=λb o e=>Y b o (d b o e) (yb e np);let#[s,J,J,J,J,P,T,M,S,m,u,C]:=U;erw[k (yw0 p A O) F #[A,f,O,6,s,bx _,#[m,u,tp,r.same B],J,J,J,J,J,λc=>Iff.rfl] (λc w=>?_) B (λy xs H2 R b=>?_)]
 .rcases w with z|z|⟨j,ς,z⟩|⟨j,ς,z⟩|z
  .rw[z];erw[np]
  .rw[z];erw[d.free M]
  .rw[z];erw[d.free (T j ς)]
  .erw[d.free (P j c ς z)]
  .erw[d.free (S c (.inr (.inl z)))]
 .have g:∀{x:qa},H x=none->x≠y:=λ{x}e z=>by rw[z,R]at e;cases e
  let h:=B _ _ R;have I:∀{x:qa}{v:Τ},F x∪v->x≠y:=λ{x v}e z=>by rw[z,h]at e;cases e
  erw[A,f,O,6,s.frame (O2:=λc=>c=y) (λc o e X=>b c o e X) (g np) (g (d.free M)) (λi q=>g (d.free (T i q))) (λi c q w=>g (d.free (P i c q w))) (λl v G e=>b _ _ e (g (d.free (S l G)))) (λt v e=>?_),bx _,#[b _ _ m (g (d.free C)),u,tp,λi q=>?_],J,J,J,J,J,λc=>Iff.rfl]
  .rcases e with(e|⟨o,e⟩)|e
   .erw[.inl (.inl (b _ _ e (I e)))]
   .erw[.inl (.inr #[o,b _ _ e (λz=>by rw[z,h]at e;cases e)])]
   .erw[.inr e]
  .let#[D,e,N,L,Z]:=r.same B i q;erw[D,e,b _ _ N (I N),b _ _ L (I L),Z]
@[irreducible] def yix(c:Nat):Bool:=!(Builtin.Str.occurrences "abcdefghijklmnopqrstuvwxyz" ⟨#[c]⟩ 0 (Str.length "abcdefghijklmnopqrstuvwxyz") 1).isEmpty
noncomputable def nmS(x:Str):Bool:=decide (1<=(x.length:Int)) && (decide ((x.length:Int)<=8) && x.cps.toList.all yix)
def nmV:V->Bool
 | .str x=>nmS x
 |_=>false
def ytd(x:Str):(List.range x.cps.size).map (λi=>V.bl (yix (x.cps.toList.getD i 0)))=(x.cps.toList.map yix).map V.bl:=by
 rwa[cn,List.ext_getElem? λi=>?_];rw[bB,bB];by_cases hi:i<x.cps.size
 .rw[cQ hi,bp (by rwa[cJ,hi]),cS,cS,cX,bp (by rwa[cJ,hi]),Option.getD_some,Function.comp_apply]
 .rw[ci (by rw[b9];omega),ci (by rw[cJ];omega),Option.map_none,Option.map_none]
def yz8{x:Str}(h1:(1:Int)<=(x.length:Int))(h8:(x.length:Int)<=8):nmV (.str x)=(x.cps.toList.map yix).all id:=by
 have e:nmV (.str x)=nmS x:=by unfold nmV;rfl
 rw[e];unfold nmS;rw[bz h1,bz h8,List.all_map,Function.id_comp,Bool.true_and,Bool.true_and]
def yzx{x:Str}(h8:¬(x.length:Int)<=8):nmV (.str x)=false:=by
 have e:nmV (.str x)=nmS x:=by unfold nmV;rfl
 rw[e];unfold nmS;rw[bD h8,Bool.false_and,Bool.and_false]
def yyd{x:Str}(h1:¬(1:Int)<=(x.length:Int)):nmV (.str x)=false:=by
 have e:nmV (.str x)=nmS x:=by unfold nmV;rfl
 rw[e];unfold nmS;rw[bD h1,Bool.false_and]
def yq4{x:V}(h:nmV x=true):∃b,x=.str b/\nmS b=true:=by
 cases x with
 |str b=>erw[b,J,h]
 |_=>cases h
def zh{x:Str}(h:nmS x=true):x.length<=8:=by unfold nmS at h;simp only[bU,decide_eq_true_eq]at h;have:=h.2.1;omega
noncomputable def smS:Str:=Str.ofString "abcdefghijklmnopqrstuvwxyz"
def yde:smS.length=26:='r'
def yc4:∀i,i<26->smS.cps[i]?=some (97+i):='r'
def vhp{i:Int}(h0:0<=i)(h1:i<26):smS.cps[i.toNat]?=some (97+i.toNat):=yc4 _ ()
def yxl:∀i,i<26->yix (97+i)=true:='r'
def viw(l:qj Nat):Prop:=∀c,c∈l->97<=c/\c<123
def vd1{x:Str}(h:viw x.cps.toList)(h1:1<=x.cps.toList.length)(h8:x.cps.toList.length<=8):nmS x=true/\PyData.strOk x=true:=by
 have e:x.length=x.cps.toList.length:=by simp[Str.length]
 erw[?_,?_]
 .unfold nmS;rw[bz (),bz (),Bool.true_and,Bool.true_and,List.all_eq_true];intro c a;let#[b,d]:=h c a;have:=yxl (c-97) ()
  rwa[show 97+(c-97)=c by omega]at this
 .unfold PyData.strOk;rw[<- Array.all_toList,List.all_eq_true];intro c a;let#[b,d]:=h c a;erw[bz ()]
def zb(x y:Str):(x++y).cps.toList=x.cps.toList++y.cps.toList:=by rw[PySem.Str.cps_append,Array.toList_append]
def Ã(x:Str):x.length=x.cps.toList.length:=by simp[Str.length]
theorem Ļ{H:Hp}:∀ns:Ρ,ys8 K H (ns.map V.str) (ns.map PyData.str)
 |[]=>.nil
 |n::r=>.cons (.str n) (Ļ r)
theorem į:∀ns:Ρ,(∀x,x∈ns->PyData.strOk x=true)->PyData.canLayAll0 (ns.map PyData.str)=true
 |[],_=>rfl
 |x::r,h=>by simp[PyData.canLayAll0,PyData.canLay0,h x cj,į r λy a=>h y (cg _ a)]
theorem ť:∀ns:Ρ,PyData.depthAll (ns.map PyData.str)=0
 |[]=>rfl
 |_::r=>by simp[PyData.depthAll,PyData.depth,ť r]
def Ĳ(ns:Ρ)(h:∀x,x∈ns->PyData.strOk x=true):SeqAt.shaped (.list (ns.map PyData.str))=true:=by simp[SeqAt.shaped,PyData.canLay0,PyData.depth,į ns h,ť]
theorem ı:∀ns ms:Ρ,PyData.eqvAll (ns.map PyData.str) (ms.map PyData.str)=decide (ns=ms)
 |[],[]=>by simp[PyData.eqvAll]
 |[],_::_=>by simp[PyData.eqvAll]
 |_::_,[]=>by simp[PyData.eqvAll]
 |a::r,b::t=>by
  simp only[cb,PyData.eqvAll,PyData.eqv,ı r t];by_cases h:a=b<;>by_cases h':r=t<;>simp[h,h']
def ŭ{g:Bool->Bool}{H:Hp}{Q:VK}{a b:qa}(ns ms:Ρ)(hn:∀x,x∈ns->PyData.strOk x=true)(hm:∀x,x∈ms->PyData.strOk x=true)(ha:SqL K H a (ns.map V.str))(hb:SqL K H b (ms.map V.str))(h:Q (.bl (g (decide (ns=ms)))) H):vgm K g (.ref a) (.ref b) H Q :=
 #[_,_,.lst ha (Ļ ns),.lst hb (Ļ ms),Ĳ ns hn,Ĳ ms hm,by rwa[PyData.eqv,ı,h]]
structure Pc where
 nm:Str
 bs:Υ
 path:Η
 tx:Ο
 ob:qa
 od:qa
 dl:qa
noncomputable def baV:ql Str->V
 |none=>.non
 |some b=>.str b
def Pc.by(n:Nat)(kd:Ν)(ps:Κ)(q:Pc):Ο:=Ð n kd ps (ù (q.path.map (·.2))) q.tx
noncomputable def pcs(P:qj Pc):qj (Key×V):=P.map λq=>(.inr q.nm,.ref q.ob)
def To(P:qj Pc):ql Str->qj (Str×qj Int)->Prop
 |none,L=>L=[]
 |some b,L=>∃r,r∈P/\r.nm=b/\L=r.path++[(b,r.tx)]
structure ŷ(a:Ads)(H:Hp)(d:qa)(n:Nat)(kd:Ν)(ps:Κ)(w:Nat)(P:qj Pc):Prop where
 dk:H d=some (.dK (pcs P))
 ob:∀q,q∈P->H q.ob∩a.Ag q.od (Ň (baV q.bs) (.ref q.dl))/\H q.dl\((q.by n kd ps).map V.int)
 nd:(P.map (·.nm)).Nodup
 wf:∀q,q∈P->To P q.bs q.path
 sz:∀q,q∈P->Sgs q.tx/\q.tx.length<=w/\q.path.length<=60/\(∀x,x∈q.path->Sgs x.2/\x.2.length<=w)
 z:P.length<=60
 nm:∀q,q∈P->nmS q.nm=true/\PyData.strOk q.nm=true
theorem ymd:∀{P:qj Pc}{r:Pc},(P.map (·.nm)).Nodup->r∈P->π (pcs P) (.inr r.nm)∣r.ob
 |q::P,r,hn,hr=>by
  let a:=cP.mp hn;by_cases e:q.nm=r.nm
  .rcases bH.mp hr with z|z
   .subst z;unfold π pcs;rw[cb,List.find?_cons_of_pos 's'];rfl
   .erw[absurd (bw.mpr #[r,z,e.symm]) a.1]
  .rcases bH.mp hr with z|z
   .erw[absurd (by rw[z]) e]
   .unfold π pcs;rwa[cb,List.find?_cons_of_neg (by simpa using e),ymd a.2 z]
def ymr{P:qj Pc}{x:Str}(h:∀q,q∈P->q.nm≠x):π (pcs P) (.inr x)=none:=by
 unfold π pcs;rw[List.find?_eq_none.mpr λy a=>?_]
 .rfl
 .let#[q,b,e]:=bw.mp a;rw[<- e];simpa using h q b
def ŷ.same{H H':Hp}{d:qa}{n:Nat}{kd:Ν}{ps:Κ}{w:Nat}{P:qj Pc}(h:ŷ a H d n kd ps w P)(S:yu H H'):ŷ a H' d n kd ps w P :=
 #[S _ _ h.dk,λq b=>#[S _ _ (h.ob q b).1,S _ _ (h.ob q b).2],h.nd,h.wf,h.sz,h.z,h.nm]
def yt7(x:Str)(t:Ο)(S:Η):(nmL ((x,t)::S)).reverse=(nmL S).reverse++[.str x]:=by unfold nmL;rw[cb,List.reverse_cons]
def To.len{H:Hp}{d:qa}{n:Nat}{kd:Ν}{ps:Κ}{w:Nat}{P:qj Pc}(h:ŷ a H d n kd ps w P)(t:To P x L):L.length<=61:=by
 cases x with
 |none=>rwa[show L=[]from t,bR _]
 |some b =>
  let#[r,c,_,e]:=t;have:=(h.sz r c).2.2.1;rw[e,bq,cz];omega
def ŷ.get{H:Hp}{d:qa}{n:Nat}{kd:Ν}{ps:Κ}{w:Nat}{P:qj Pc}{r:Pc}(h:ŷ a H d n kd ps w P)(hr:r∈P):Ÿ H d (.str r.nm) (some (.ref r.ob)):=by rwa[<- ymd h.nd hr,Ÿ.k (k:=.inr r.nm) h.dk]
def vfs{α:Type}{f:α->Str}{P:qj α}{q r:α}(hn:(P.map f).Nodup)(hq:q∈P)(hr:r∈P)(e:f q=f r):q=r:=by
 induction P with
 |nil=>cases hq
 |cons x P ih =>
  let a:=cP.mp hn;rcases bH.mp hq with z|z<;>rcases bH.mp hr with y|y
  .rw[z,y]
  .erw[absurd (bw.mpr #[r,y,by rw[<- e,z]]) a.1]
  .erw[absurd (bw.mpr #[q,z,by rw[e,y]]) a.1]
  .erw[ih a.2 z y]
def vhe{P:qj Pc}{q r:Pc}(hn:(P.map (·.nm)).Nodup)(hq:q∈P)(hr:r∈P)(e:q.nm=r.nm):q=r:=vfs hn hq hr e
def To.uniq{P:qj Pc}(hn:(P.map (·.nm)).Nodup)(h:To P x L)(g:To P x M):L=M:=by
 cases x with
 |none=>rw[show L=[]from h,show M=[]from g]
 |some b =>
  let#[r,e,d,i]:=h;let#[q,c,f,a]:=g;obtain rfl:=vhe hn e c (d.trans f.symm);rw[i,a]
theorem To.pre{P:qj Pc}(wf:∀q,q∈P->To P q.bs q.path){b:Str}{t:Ο}{A:Η}:∀(m:Nat){x:Υ}{B:Η},B.length<=m->To P x (A++[(b,t)]++B)->To P (some b) (A++[(b,t)])
 |m,none,B,_,h=>by
  let e:=congrArg List.length (show A++[(b,t)]++B=[]from h);rw[bq,bq]at e;simp at e
 |m,some c,B,hm,⟨r,hr,e1,e2⟩=>by
  rcases List.eq_nil_or_concat B with z|⟨i,y,z⟩
  .subst z;rw[cT]at e2;let a:=List.append_inj' e2 J;let#[g,f]:=a;cases f;erw[r,hr,e1,by rw[g]]
  .subst z;rw[List.concat_eq_append]at e2 hm;rw[<- bX]at e2;let a:=(List.append_inj' e2 J).1
   cases m with
   |zero=>rw[bq]at hm;simp at hm
   |succ m =>
    let d:=wf r hr;rw[<- a]at d;erw[To.pre wf m (by rw[bq,cz]at hm;omega) d]
def To.ahead{P:qj Pc}(hn:(P.map (·.nm)).Nodup)(wf:∀q,q∈P->To P q.bs q.path){y:Υ}(h:To P x L)(g:To P y M)(e:nmL L=(nmL M).take L.length):L=M.take L.length:=by
 cases x with
 |none=>rw[show L=[]from h];rfl
 |some b =>
  let#[r,o,m,f]:=id h;have n:L.length=r.path.length+1:=by rw[f,bq,cz]
  let c:=congrArg List.length e;unfold nmL at c;rw[bT,bo,bo]at c;have a:r.path.length<M.length:=()
  have k:M=M.take r.path.length++[M[r.path.length]]++M.drop (r.path.length+1):=by
   rw[bX,List.singleton_append,<- cF a,da]
  have j:(M[r.path.length]).1=b:=by
   let z:=congrArg (λl=>l[r.path.length]?) e;unfold nmL at z;simp only[bB,List.getElem?_take]at z;rw[if_pos (),f,cB (bx _),Nat.sub_self,bp a]at z;simp at z;erw[z.symm]
  let g2:=g;rw[k]at g2;have d:M[r.path.length]=(b,(M[r.path.length]).2):=by rw[<- j]
  rw[d]at g2;let g3:=To.pre wf _ (bx _) g2;let i:=To.uniq hn h g3;rw[i,<- d,<- bV a]
  congr 1
  rw[bT];omega
def ŷ.getNo{H:Hp}{d:qa}{n:Nat}{kd:Ν}{ps:Κ}{w:Nat}{P:qj Pc}{x:Str}(h:ŷ a H d n kd ps w P)(hx:∀q,q∈P->q.nm≠x):Ÿ H d (.str x) none:=by rwa[<- ymr hx,Ÿ.k (k:=.inr x) h.dk]
def vc8(P:qj Pc)(b:Str):(∃r,r∈P/\r.nm=b)\/∀q,q∈P->q.nm≠b:=by
 by_cases h:∃r,r∈P/\r.nm=b
 .erw[.inl h]
 .erw[.inr λq a e=>h #[q,a,e]]
theorem To.sz{H:Hp}{d:qa}{n:Nat}{kd:Ν}{ps:Κ}{w:Nat}{P:qj Pc}(h:ŷ a H d n kd ps w P)(t:To P x L):∀y,y∈L->Sgs y.2/\y.2.length<=w:=by
 cases x with
 |none=>intro y c;rw[show L=[]from t]at c;cases c
 |some b =>
  let#[r,i,_,e]:=t;let#[j,f,_,g]:=h.sz r i;intro y c;rw[e]at c;rcases bQ.mp c with z|z
  .erw[g y z]
  .rw[bO.mp z];erw[j,f]
def To.at'{P:qj Pc}(wf:∀q,q∈P->To P q.bs q.path)(t:To P x L)(hj:j<L.length):∃r,r∈P/\L[j]=(r.nm,r.tx)/\r.path=L.take j/\To P (some r.nm) (L.take (j+1)):=by
 have g:L=L.take j++[(L[j].1,L[j].2)]++L.drop (j+1):=by
  rw[bX,List.singleton_append,<- cF hj,da]
 rw[g]at t;let a:=To.pre wf _ (bx _) t;let#[r,f,b,h]:=id a;let#[c,d]:=List.append_inj' h J
 cases r with|mk nm bs path tx ob od dl =>
 simp only at b c d;subst b;have e:L[j].2=tx:=by cases d;rfl
 erw[_,f,?_,c.symm,?_]
 .show L[j]=(L[j].1,tx);rw[<- e]
 .rw[bV hj];erw[a]
def To.nms{P:qj Pc}(wf:∀q,q∈P->To P q.bs q.path)(t:To P x L){y:Str×qj Int}(hy:y∈L):∃r,r∈P/\r.nm=y.1:=by let#[j,a,e]:=List.mem_iff_getElem.mp hy;let#[r,c,b,_]:=t.at' wf a;erw[r,c,by rw[<- e,b]]
def To.ok{H:Hp}{d:qa}{n:Nat}{kd:Ν}{ps:Κ}{w:Nat}{P:qj Pc}(h:ŷ a H d n kd ps w P)(t:To P x L):∀y,y∈L.map (·.1)->PyData.strOk y=true:=λy c=>by
 let#[u,b,J]:=bw.mp c;let#[r,f,e]:=t.nms h.wf b;rwa[<- e,(h.nm r f).2]
def Ć(L:Η):nmL L=(L.map (·.1)).map V.str:=by unfold nmL;rw[cn];rfl
def ğ(L:Η)(k:Nat):(nmL L).take k=nmL (L.take k):=by unfold nmL;rw[List.map_take]
def á(L:Η):(nmL L).length=L.length:=bo _
def yp3(h:L.map (·.1)=M.map (·.1)):nmL L=nmL M:=by rw[Ć,Ć,h]
theorem ygf{w:Nat}:∀L:qj (Ο),(∀x,x∈L->x.length<=w)->(ù L).length<=L.length*(9*w+1)
 |[],_=>bR _
 |t::L,h=>by
  have e:ù (t::L)=dec t++ù L:=rfl;let b:=h t cj;let c:=ygf L λx a=>h x (cg _ a);let d:=jd t;rw[e,bq,bN,Nat.succ_mul];omega
noncomputable def txi(L:Η)(i:Nat):Ο:=(L.map (·.2)).getD i []
def mOf(L:Η):Nat:=6+6*(ù (L.map (·.2))).length
def NK(H:Hp)(ks ks':Τ):Prop:=∀q,V.ref q∈ks'->V.ref q∈ks\/H q=none
def NK.refl{H:Hp}{ks:Τ}:NK H ks ks:=λZ h=>.inl h
def NK.nil{H:Hp}{ks:Τ}:NK H ks []:=λZ h=>nomatch h
def NK.trans{H H1:Hp}{k1 k2 k3:Τ}(h:NK H k1 k2)(g:NK H1 k2 k3)(f:∀q,H1 q=none->H q=none):NK H k1 k3:=λq a=>(g q a).elim (h q) λz=>.inr (f q z)
def NK.app{H:Hp}{ks ks':Τ}{v:V}(h:NK H ks ks')(g:∀q,v=.ref q->H q=none):NK H ks (ks'++[v]):=λq a=>(bQ.mp a).elim (h q) λz=>.inr (g q (bO.mp z).symm)
def StW(c cl ct:qa)(U:Μ):Μ:=λx=>x=c\/ChW cl ct U x
structure ψ(K:xy)(a:Ads)(H:Hp)(st ds ll d c dc p cl ct:qa)(lk tp:Λ)(n:Nat)(kd:Ν)(ps:Κ)(mo w:Nat)(P:qj Pc)(L:Η)(ks:Τ)(U:Μ):Prop where
 me:H st∩a.A0 ds (wj (.ref ll) (.int mo) (.ref d) (.ref c))
 n1:1<=n
 n6:n<=6
 lo:H ll\(refs lk n)
 row:uk H n lk kd tp ps
 pz:ŷ a H d n kd ps w P
 ch:å K a H c dc p cl ct n kd ps L ks (mOf L) U
 nw:∀x,(x=st\/x=ll\/x=d\/∃q,q∈P/\(x=q.ob\/x=q.dl))->¬StW c cl ct U x
 mo1:mo<=1000
 wm:w<=mo/\w<=200
 way:∃x,To P x L
def å.but{H H':Hp}{c p ll:qa}{n:Nat}{kd:Ν}{ps:Κ}{ks:Τ}{M:Nat}{W:Μ}(h:å K a H c dc p ll tl n kd ps L ks M W){C:qa}{fs:Ι}(hq:H q∩C dq fs)(nq:¬StW c ll tl W q)(B:But q H H'):å K a H' c dc p ll tl n kd ps L ks M W:=by
 have b:∀{x:qa}{d:Τ},H x\d->x≠q:=λ{x d}e z=>by rw[z,hq]at e;cases e
 erw[B _ _ h.me λz=>nq (.inl z.symm),h.fz.frame (W2:=λx=>x=q) (λx z=>#[.ins C dq fs,by rwa[show x=q from z,hq],.inl J]) (λx w z=>nq (.inr (.inr (.inr (by rwa[<- show x=q from z,w]))))) (λx o e f=>B x o e f),B _ _ h.hl (b h.hl),B _ _ h.ht (b h.ht),h.tx.mono λx d e g=>#[B _ _ e (b e),g],h.nc,h.nll,h.ntl,h.ne]
def yfw(L:Η)(x:Str)(t:Ο):mOf (L++[(x,t)])=mOf L+6*(dec t).length:=by unfold mOf;rw[bA,show List.map (λx:Str×qj Int=>x.2) [(x,t)]=[t]from rfl,yco,bq];omega
def ygr{w:Nat}(h:∀y,y∈L->y.2.length<=w)(hw:w<=200)(hl:L.length<=61):mOf L<=660000:=by
 let c:=ygf (w:=w) (L.map (·.2)) λx b=>by
  let#[y,a,J]:=bw.mp b;erw[h y a]
 rw[bo]at c;have d:L.length*(9*w+1)<=61*1801:=Nat.mul_le_mul hl ();unfold mOf;omega
def StO(st c cl ct:qa)(U:Μ):Μ:=λy=>y=st\/StW c cl ct U y
def Go.or{W Y:Μ}{H H':Hp}(g:Go W H H' W'):Go (λx=>Y x\/W x) H H' (λx=>Y x\/W' x) :=
 #[λc o e a=>g.fr c o e λw=>a (.inr w),λc w=>w.elim (λy=>.inl (.inl y)) λw=>(g.nw c w).imp .inr id,g.lv]
def å.noTup{H:Hp}{c p ll:qa}{n:Nat}{kd:Ν}{ps:Κ}{ks:Τ}{M:Nat}{W:Μ}(h:å K a H c dc p ll tl n kd ps L ks M W){x:qa}{xs:Τ}(e:H x∪xs):¬StW c ll tl W x:=λw=>by
 rcases w with z|z|z|z
 .rw[z,h.me]at e;cases e
 .rw[z,h.hl]at e;cases e
 .rw[z,h.ht]at e;cases e
 .erw[h.fz.sh.tup e z]
theorem å.same{H H':Hp}{c p ll:qa}{n:Nat}{kd:Ν}{ps:Κ}{ks:Τ}{M:Nat}{W:Μ}(h:å K a H c dc p ll tl n kd ps L ks M W)(S:yu H H'):å K a H' c dc p ll tl n kd ps L ks M W :=
 #[S _ _ h.me,h.fz.same S,S _ _ h.hl,S _ _ h.ht,h.tx.mono λZ Z e b=>#[S _ _ e,b],h.nc,h.nll,h.ntl,h.ne]
def ŷ.fr{H H':Hp}{d:qa}{n:Nat}{kd:Ν}{ps:Κ}{w:Nat}{P:qj Pc}(h:ŷ a H d n kd ps w P)(f:∀x o,H x=some o->(x=d\/∃q,q∈P/\(x=q.ob\/x=q.dl))->H' x=some o):ŷ a H' d n kd ps w P :=
 #[f _ _ h.dk (.inl J),λq b=>#[f _ _ (h.ob q b).1 (.inr #[q,b,.inl J]),f _ _ (h.ob q b).2 (.inr #[q,b,.inr J])],h.nd,h.wf,h.sz,h.z,h.nm]
def uk.fr{H H':Hp}{n:Nat}{lk:Λ}{kd:Ν}{ps:Κ}(h:uk H n lk kd tp ps)(f:∀x xs,H x∪xs->H' x∪xs):uk H' n lk kd tp ps:=λi b=>by
 let#[q,e,a,c,d]:=h i b;erw[q,e,f _ _ a,f _ _ c,d]
end
section
mutual
variable{H H':Hp}{ll d c p cl ct:qa}{lk:Λ}{n:Nat}{kd:Ν}{ps:Κ}{mo w:Nat}{P:qj Pc}{ks:Τ}
theorem ψ.same(h:ψ K a H st ds ll d c dc p cl ct lk tp n kd ps mo w P L ks U)(S:yu H H'):ψ K a H' st ds ll d c dc p cl ct lk tp n kd ps mo w P L ks U :=
 #[S _ _ h.me,h.n1,h.n6,S _ _ h.lo,h.row.same S,h.pz.same S,h.ch.same S,h.nw,h.mo1,h.wm,h.way]
def ψ.lv(h:ψ K a H st ds ll d c dc p cl ct lk tp n kd ps mo w P L ks U):∀x,(x=st\/x=ll\/x=d\/∃q,q∈P/\(x=q.ob\/x=q.dl))->∃o,H x=some o:=λx e=>by
 rcases e with z|z|z|⟨q,b,z|z⟩
 .erw[_,by rwa[z,h.me]]
 .erw[_,by rwa[z,h.lo]]
 .erw[_,by rwa[z,h.pz.dk]]
 .erw[_,by rwa[z,(h.pz.ob q b).1]]
 .erw[_,by rwa[z,(h.pz.ob q b).2]]
def ψ.lvO(h:ψ K a H st ds ll d c dc p cl ct lk tp n kd ps mo w P L ks U):∀x,StO st c cl ct U x->∃o,H x=some o:=λx b=>by
 rcases b with z|z|z|z|z
 .erw[_,by rwa[z,h.me]]
 .erw[_,by rwa[z,h.ch.me]]
 .erw[_,by rwa[z,h.ch.hl]]
 .erw[_,by rwa[z,h.ch.ht]]
 .erw[h.ch.fz.live x z]
def ψ.go(h:ψ K a H st ds ll d c dc p cl ct lk tp n kd ps mo w P L ks U){ks':Τ}(hc:å K a H' c dc p cl ct n kd ps M ks' (mOf M) U')(g:Go (ChW cl ct U) H H' (ChW cl ct U'))(way:∃x,To P x M):ψ K a H' st ds ll d c dc p cl ct lk tp n kd ps mo w P M ks' U'/\Go (StO st c cl ct U) H H' (StO st c cl ct U'):=by have g1:Go (StW c cl ct U) H H' (StW c cl ct U'):=g.or (Y:=λx=>x=c);have f:∀x o,H x=some o->(x=st\/x=ll\/x=d\/∃q,q∈P/\(x=q.ob\/x=q.dl))->H' x=some o:=λx o e b=>g1.fr x o e (h.nw x b);erw[#[f _ _ h.me (.inl J),h.n1,h.n6,f _ _ h.lo (.inr (.inl J)),h.row.fr λx i e=>g1.fr _ _ e (h.ch.noTup e),h.pz.fr λx o e z=>f x o e (.inr (.inr z)),hc,g1.apart (λx b=>h.lv x b) h.nw,h.mo1,h.wm,way],g1.or (Y:=λx=>x=st)]
structure StB(a:Ads)(H:Hp)(st ds ll d:qa)(vc:V)(lk tp:Λ)(n:Nat)(kd:Ν)(ps:Κ)(mo w:Nat)(P:qj Pc):Prop where
 me:H st∩a.A0 ds (wj (.ref ll) (.int mo) (.ref d) vc)
 n1:1<=n
 n6:n<=6
 lo:H ll\(refs lk n)
 row:uk H n lk kd tp ps
 pz:ŷ a H d n kd ps w P
 mo1:mo<=1000
 wm:w<=mo/\w<=200
def ψ.b(h:ψ K a H st ds ll d c dc p cl ct lk tp n kd ps mo w P L ks U):StB a H st ds ll d (.ref c) lk tp n kd ps mo w P:=#[h.me,h.n1,h.n6,h.lo,h.row,h.pz,h.mo1,h.wm]
def StB.lv{vc:V}(h:StB a H st ds ll d vc lk tp n kd ps mo w P):∀x,(x=st\/x=ll\/x=d\/∃q,q∈P/\(x=q.ob\/x=q.dl))->∃o,H x=some o:=λx c=>by
 rcases c with z|z|z|⟨q,b,z|z⟩
 .erw[_,by rwa[z,h.me]]
 .erw[_,by rwa[z,h.lo]]
 .erw[_,by rwa[z,h.pz.dk]]
 .erw[_,by rwa[z,(h.pz.ob q b).1]]
 .erw[_,by rwa[z,(h.pz.ob q b).2]]
def Go.wide{W W2:Μ}(g:Go W H H' W')(f:∀x,W x->W2 x):Go W2 H H' W':=#[λc o e a=>g.fr c o e λw=>a (f c w),λc w=>(g.nw c w).imp (f c) id,g.lv]
def StB.re{vc:V}(h:StB a H st ds ll d vc lk tp n kd ps mo w P){dc' p':qa}{HE:Hp}(nc:H c'=none)(ndc:H dc'=none)(hch:å K a HE c' dc' p' cl' ct' n kd ps [] [] 6 U')(hnew:∀x,ChW cl' ct' U' x->(upd (upd H dc' (.own c')) c' (.ins a.A4 dc' [])) x=none)(BE:But c' (upd (upd H dc' (.own c')) c' (.ins a.A4 dc' [])) HE):
  ψ K a (upd HE st (.ins a.A0 ds (wj (.ref ll) (.int mo) (.ref d) (.ref c')))) st ds ll d c' dc' p' cl' ct' lk tp n kd ps mo w P [] [] U'/\Go (λy=>y=st) H (upd HE st (.ins a.A0 ds (wj (.ref ll) (.int mo) (.ref d) (.ref c')))) (StO st c' cl' ct' U')/\yu H HE/\∀x,StW c' cl' ct' U' x->H x=none:=by
 have m:yu H (upd (upd H dc' (.own c')) c' (.ins a.A4 dc' [])):=λb o e=>by rwa[yn (yb e nc),yn (yb e ndc),e]
 have f:yu H HE:=λb o e=>BE _ _ (m _ _ e) (yb e nc)
 have k:∀x,StW c' cl' ct' U' x->H x=none:=λx w=>by
  rcases w with z|z
  .rw[z];erw[nc]
  .erw[m.free (hnew x z)]
 have g:∀{x:qa}{o:HO},H x=some o->¬StW c' cl' ct' U' x:=λ{x o}e w=>by rw[k x w]at e;cases e
 let c:=h.me;have l:∀{x:qa}{j:Τ},H x\j->x≠st:=λ{x j}e z=>by rw[z,c]at e;cases e
 erw[#[ya,h.n1,h.n6,yg (l h.lo) (f _ _ h.lo),h.row.fr λx j e=>yg (λz=>by rw[z,c]at e;cases e) (f _ _ e),#[yg (λz=>?_) (f _ _ h.pz.dk),λq i=>#[yg (λz=>?_) (f _ _ (h.pz.ob q i).1),yg (l (h.pz.ob q i).2) (f _ _ (h.pz.ob q i).2)],h.pz.nd,h.pz.wf,h.pz.sz,h.pz.z,h.pz.nm],hch.but (f _ _ c) (g c) But.upd,λx s=>?_,h.mo1,h.wm,#[none,J]],#[λx o e p=>yg p (f _ _ e),λx w=>?_,λx o e=>?_],f,k]
 .let e:=h.pz.dk;rw[z,c]at e;cases e
 .let e:=(h.pz.ob q i).1;rw[z,c]at e;injection e with e;injection e with _ _ e;let r:=congrArg List.length e;erw[absurd (show (4:Nat)=2 from r) ∅]
 .let#[o,e]:=h.lv x s;erw[g e]
 .rcases w with z|z
  .erw[.inl z]
  .erw[.inr (k x z)]
 .by_cases z:x=st
  .erw[_,by rwa[z,ya]]
  .erw[o,yg z (f _ _ e)]
theorem ψ.re(h:ψ K a H st ds ll d c dc p cl ct lk tp n kd ps mo w P L ks U){dc' p':qa}{HE:Hp}(nc:H c'=none)(ndc:H dc'=none)(hch:å K a HE c' dc' p' cl' ct' n kd ps [] [] 6 U')(hnew:∀x,ChW cl' ct' U' x->(upd (upd H dc' (.own c')) c' (.ins a.A4 dc' [])) x=none)(BE:But c' (upd (upd H dc' (.own c')) c' (.ins a.A4 dc' [])) HE):
  ψ K a (upd HE st (.ins a.A0 ds (wj (.ref ll) (.int mo) (.ref d) (.ref c')))) st ds ll d c' dc' p' cl' ct' lk tp n kd ps mo w P [] [] U'/\Go (StO st c cl ct U) H (upd HE st (.ins a.A0 ds (wj (.ref ll) (.int mo) (.ref d) (.ref c')))) (StO st c' cl' ct' U')/\yu H HE/\∀x,StW c' cl' ct' U' x->H x=none:=by let#[e,f,g]:=h.b.re nc ndc hch hnew BE;erw[e,f.wide λZ z=>.inl z,g]
def To.less{b:Str}(h:To P x M)(hx:x≠some b):To (P.filter λq=>decide (q.nm≠b)) x M:=by
 cases x with
 |none=>erw[h]
 |some y =>
  let#[r,c,a,d]:=h;erw[r,cR.mpr #[c,bz λz=>hx ?_],a,d];rw[<- a,z]
def ynz(b:Str):∀P:qj Pc,Ė (pcs P) (.inr b)=pcs (P.filter λq=>decide (q.nm≠b)):=λP=>by
 unfold Ė pcs;rw[List.filter_map]
 congr 1
 erw[List.filter_congr λq Z=>?_];by_cases e:q.nm=b
 .simp[e]
 .simp[e]
def StB.drop{vc:V}(h:StB a H st ds ll d vc lk tp n kd ps mo w P){b:Str}(hb:∀q,q∈P->q.bs≠some b):StB a (upd H d (.dK (Ė (pcs P) (.inr b)))) st ds ll d vc lk tp n kd ps mo w (P.filter λq=>decide (q.nm≠b)):=by
 let i:=h.pz.dk;have f:∀{x:qa}{o:HO},H x=some o->o≠.dK (pcs P)->(upd H d (.dK (Ė (pcs P) (.inr b)))) x=some o:=λ{x o}e j=>yg (λz=>by rw[z,i]at e;cases e;erw[j J]) e;have g:∀{q:Pc},q∈(P.filter λq=>decide (q.nm≠b))->q∈P:=λc=>(cR.mp c).1
 erw[f h.me (λz=>nomatch z),h.n1,h.n6,f h.lo (λz=>nomatch z),h.row.fr λx k e=>f e (λz=>nomatch z),#[by rwa[<- ynz,ya],λq c=>#[f (h.pz.ob q (g c)).1 (λz=>nomatch z),f (h.pz.ob q (g c)).2 (λz=>nomatch z)],h.pz.nd.sublist (List.filter_sublist.map _),λq c=>(h.pz.wf q (g c)).less (hb q (g c)),λq c=>h.pz.sz q (g c),ck (List.length_filter_le _ _) h.pz.z,λq c=>h.pz.nm q (g c)],h.mo1,h.wm]
end
end
mutual
structure Pd where
 nm:Str
 bs:Υ
 path:Η
 tx:Ο
noncomputable def Pc.pd(q:Pc):Pd:=#[q.nm,q.bs,q.path,q.tx]
structure Cf where
 n:Nat
 kd:Ν
 ps:Κ
 mo:Nat
 w:Nat
def Pd.by(C:Cf)(q:Pd):Ο:=Ð C.n C.kd C.ps (ù (q.path.map (·.2))) q.tx
def ToD(P:qj Pd):ql Str->qj (Str×qj Int)->Prop
 |none,L=>L=[]
 |some b,L=>∃r,r∈P/\r.nm=b/\L=r.path++[(b,r.tx)]
def Á{Q:qj Pc}:ToD (Q.map Pc.pd) x L↔To Q x L:=by
 cases x with
 |none=>erw[Iff.rfl]
 |some b =>
  erw[λ⟨r,a,e⟩=>?_,λ⟨r,a,e⟩=>#[_,bw.mpr #[r,a,J],e]];let#[q,c,J]:=bw.mp a;erw[q,c,e]
def okN(x:Str):Prop:=nmS x=true/\PyData.strOk x=true
def WD(d st c cl ct:qa)(U:Μ):Μ:=λy=>y=d\/StO st c cl ct U y
structure Sx where
 w:Μ
 f:Μ
noncomputable def vgd(d st c cl ct:qa)(U:Μ)(ll:qa)(Q:qj Pc)(ks:Τ):Sx :=
 #[WD d st c cl ct U,λy=>WD d st c cl ct U y\/y=ll\/(∃q,q∈Q/\(y=q.ob\/y=q.dl))\/V.ref y∈ks]
inductive Sto(K:xy)(a:Ads)(H:Hp)(st:qa)(C:Cf)(P:qj Pd)(X:Sx):Prop
 |mk(ds ll d c dc p cl ct:qa)(lk tp:Λ)(Q:qj Pc)(L:Η)(ks:Τ)(U:Μ)(s:ψ K a H st ds ll d c dc p cl ct lk tp C.n C.kd C.ps C.mo C.w Q L ks U)(e:Q.map Pc.pd=P)(x:X=vgd d st c cl ct U ll Q ks)
structure Gx(X:Sx)(H H':Hp)(Y:Sx):Prop where
 g:Go X.w H H' Y.w
 f:∀y,Y.f y->X.f y\/H y=none
theorem Gx.same{X Y:Sx}{H H1 H2:Hp}(h:Gx X H H1 Y)(S:yu H1 H2):Gx X H H2 Y:=#[h.g.same S,h.f]
theorem Gx.ahead{X Y:Sx}{H H1 H2:Hp}(S:yu H H1)(h:Gx X H1 H2 Y):Gx X H H2 Y:=#[h.g.ahead S,λy w=>(h.f y w).imp id S.free]
theorem Gx.refl{X:Sx}{H:Hp}:Gx X H H X:=#[.refl,λZ w=>.inl w]
theorem Gx.trans{X Y Z:Sx}{H H1 H2:Hp}(h:Gx X H H1 Y)(k:Gx Y H1 H2 Z):Gx X H H2 Z:=#[h.g.trans k.g,λy w=>(k.f y w).elim (h.f y) λe=>.inr (h.g.free e)]
def Kf(H:Hp)(X:Sx)(x:qa)(o:HO):Prop:=H x=some o/\¬X.f x
end
section
mutual
variable{B H H':Hp}{C:Cf}{P:qj Pd}{X Y:Sx}
theorem Sto.same(h:Sto K a H st C P X)(S:yu H H'):Sto K a H' st C P X:=by let#[m,g,d,c,i,p,b,k,f,j,Q,L,l,U,s,e,x]:=h;erw[m,g,d,c,i,p,b,k,f,j,Q,L,l,U,s.same S,e,x]
def Sto.live(h:Sto K a H st C P X):∀y,X.f y->∃o,H y=some o:=λy g=>by
 let#[u,l,d,c,m,p,i,r,k,n,Q,L,t,U,s,J,J]:=h;rcases g with(z|z)|z|⟨q,b,z⟩|z
 .erw[_,by rwa[z,s.pz.dk]]
 .erw[s.lvO y z]
 .erw[_,by rwa[z,s.lo]]
 .erw[s.lv y (.inr (.inr (.inr #[q,b,z])))]
 .rcases s.ch.tx.mem _ z with e|⟨q,j,e,b,_⟩
  .cases e
  .cases e;erw[_,b]
def Sto.wf(h:Sto K a H st C P X):∀y,X.w y->X.f y:=λy b=>by
 let#[n,i,d,c,j,p,e,l,g,k,Q,L,m,U,s,J,J]:=h;erw[.inl b]
theorem Sto.ins(h:Sto K a H st C P X):∃ds vl vm vp vc,H st∩a.A0 ds (wj vl vm vp vc):=by let#[ds,f,d,c,g,p,b,j,e,i,Q,L,k,U,s,J,J]:=h;erw[_,_,_,_,_,s.me]
def Sto.me(h:Sto K a H st C P X):X.f st:=by let#[m,g,d,c,i,p,b,k,e,j,Q,L,l,U,s,J,J]:=h;erw[.inl (.inr (.inl J))]
def vhv(Q:qj Pc):(Q.map Pc.pd).map (·.nm)=Q.map (·.nm):=by rw[cn];rfl
theorem Sto.nd(h:Sto K a H st C P X):(P.map (·.nm)).Nodup:=by let#[l,f,d,c,g,p,b,j,e,i,Q,L,k,U,s,J,J]:=h;rwa[vhv,s.pz.nd]
theorem Sto.z(h:Sto K a H st C P X):P.length<=60:=by let#[l,f,d,c,g,p,b,j,e,i,Q,L,k,U,s,J,J]:=h;rwa[bo,s.pz.z]
theorem Sto.nm(h:Sto K a H st C P X):∀q,q∈P->okN q.nm:=λq b=>by
 let#[n,i,d,c,j,p,f,l,g,k,Q,L,m,U,s,J,J]:=h;let#[r,e,J]:=bw.mp b;erw[s.pz.nm r e]
def Sto.to(h:Sto K a H st C P X):∀q,q∈P->ToD P q.bs q.path:=λq b=>by
 let#[n,i,d,c,j,p,f,l,g,k,Q,L,m,U,s,J,J]:=h;let#[r,e,J]:=bw.mp b;erw[Á.mpr (s.pz.wf r e)]
theorem Sto.sz(h:Sto K a H st C P X):∀q,q∈P->Sgs q.tx/\q.tx.length<=C.w/\q.path.length<=60/\(∀x,x∈q.path->Sgs x.2/\x.2.length<=C.w):=λq b=>by
 let#[n,i,d,c,j,p,f,l,g,k,Q,L,m,U,s,J,J]:=h;let#[r,e,J]:=bw.mp b;erw[s.pz.sz r e]
def Sto.cf(h:Sto K a H st C P X):1<=C.n/\C.n<=6/\C.mo<=1000/\C.w<=C.mo/\C.w<=200:=by let#[l,f,d,c,g,p,b,j,e,i,Q,L,k,U,s,J,J]:=h;erw[s.n1,s.n6,s.mo1,s.wm.1,s.wm.2]
theorem Sto.sh(h:Sto K a H st C P X):WSh H X.w:=λy i=>by
 let#[t,l,d,c,m,p,j,o,k,n,Q,L,r,U,s,J,J]:=h;rcases i with z|z|z|z|z|z
 .erw[_,by rwa[z,s.pz.dk],.inl J]
 .erw[_,by rwa[z,s.me],.inl J]
 .erw[_,by rwa[z,s.ch.me],.inl J]
 .exists _,by rwa[z,s.ch.hl],.inr #[_,J,λv b=>?_]
  let#[u,_,e]:=bw.mp b;erw[.inl #[u.1,e.symm]]
 .exists _,by rwa[z,s.ch.ht],.inr #[_,J,λv b=>.inr ?_]
  erw[(s.ch.tx.mem v b).imp (λe=>by rw[e];rfl) λ⟨q,g,e,f,_⟩=>#[q,e,.inl #[g,f]]]
 .erw[s.ch.fz.sh y z]
theorem Sto.frame{W2:Μ}(h:Sto K a H st C P X)(sh:WSh H W2)(dj:∀y,X.f y->¬W2 y)(fr:∀y o,H y=some o->¬W2 y->H' y=some o):Sto K a H' st C P X:=by
 let#[F,n,d,c,B,p,g,i,A,D,Q,L,l,U,s,J,J]:=h;have f:∀{y:qa}{o:HO},H y=some o->(vgd d st c g i U n Q l).f y->H' y=some o:=λ{y o}e w=>fr y o e (dj y w);erw[F,n,d,c,B,p,g,i,A,D,Q,L,l,U,#[f s.me (.inl (.inr (.inl J))),s.n1,s.n6,f s.lo (.inr (.inl J)),s.row.fr λy G e=>fr _ _ e (sh.tup e),s.pz.fr λy o e z=>f e (z.elim (λz=>.inl (.inl z)) λz=>.inr (.inr (.inl z))),#[f s.ch.me (.inl (.inr (.inr (.inl J)))),s.ch.fz.frame sh (λy w=>dj y (.inl (.inr (.inr (.inr (.inr (.inr w))))))) fr,f s.ch.hl (.inl (.inr (.inr (.inr (.inl J))))),f s.ch.ht (.inl (.inr (.inr (.inr (.inr (.inl J)))))),?_,s.ch.nc,s.ch.nll,s.ch.ntl,s.ch.ne],s.nw,s.mo1,s.wm,s.way],J,rfl]
 have j:∀{L:Η}{b:Τ},(∀v,v∈b->v∈l)->ydh H (ChW g i U) L b->ydh H' (ChW g i U) L b:=by
  intro L
  induction L with
  |nil=>intro b _ h;erw[h]
  |cons y r ih =>
   rintro b m ⟨k,t,rfl,z,h⟩;erw[k,t,J,z.imp id λ⟨q,e,u,E⟩=>#[q,e,f u (.inr (.inr (.inr ?_))),E],ih (λv x=>m v (cg _ x)) h];rwa[<- e,m _ cj]
 erw[j (λZ h=>h) s.ch.tx]
def Sto.but(h:Sto K a H st C P X)(sh:WSh H λz=>z=y)(ny:¬X.f y)(b:But y H H'):Sto K a H' st C P X :=
 h.frame sh (λz w e=>ny (by rwa[<- e,w])) λz o e c=>b z o e c
def WSh.mu{o:HO}(e:H y=some o)(ho:vgj o=true):WSh H λz=>z=y:=λz w=>#[o,by rwa[w,e],.inl ho]
def WSh.ls{xs:Τ}(e:H y\xs)(hx:∀x∈xs,(∃s,x=V.str s)\/vjg x=true\/∃q,x=V.ref q/\vim (H q)):WSh H λz=>z=y:=λz w=>#[_,by rwa[w,e],.inr #[xs,J,hx]]
def Kf.go{x:qa}{o:HO}(h:Kf H X x o)(s:Sto K a H st C P X)(g:Gx X H H' Y):Kf H' Y x o :=
 #[g.g.fr _ _ h.1 λw=>h.2 (s.wf _ w),λw=>(g.f x w).elim h.2 λe=>by rw[h.1]at e;cases e]
def Kf.same{x:qa}{o:HO}(h:Kf H X x o)(S:yu H H'):Kf H' X x o:=#[S _ _ h.1,h.2]
def Kf.new{x:qa}{o:HO}(s:Sto K a H st C P X)(hx:H x=none)(e:H' x=some o):Kf H' X x o:=#[e,λw=>by
 let#[c,b]:=s.live x w;rw[hx]at b;cases b]
def Gx.bs(s:Sto K a H st C P X)(g:Gx X H H' Y)(S:yu B H)(nb:∀y,X.f y->B y=none):yu B H'/\∀y,Y.f y->B y=none :=
 #[λy o e=>g.g.fr _ _ (S _ _ e) (λw=>by rw[nb y (s.wf y w)]at e;cases e),λy w=>(g.f y w).elim (nb y) S.free]
def Sep(X Y:Sx):Prop:=∀y,X.f y->¬Y.f y
def Sep.symm(h:Sep X Y):Sep Y X:=λy w v=>h y v w
def Sto.oth{st2:qa}{C2:Cf}{P2:qj Pd}{X2 Y2:Sx}(h:Sto K a H st C P X)(h2:Sto K a H st2 C2 P2 X2)(sp:Sep X X2)(g:Gx X2 H H' Y2):Sto K a H' st C P X/\Sep X Y2 :=
 #[h.frame h2.sh (λy w v=>sp y w (h2.wf y v)) g.g.fr,λy w v=>(g.f y v).elim (sp y w) λe=>by
  let#[o,b]:=h.live y w;rw[e]at b;cases b]
def Gx.of{d c cl ct ll:qa}{Q Q':qj Pc}{ks ks':Τ}(g:Go (WD d st c cl ct U) H H' (WD d st c' cl' ct' U'))(nk:NK H ks ks')(hq:∀q,q∈Q'->q∈Q\/(H q.ob=none/\H q.dl=none)):Gx (vgd d st c cl ct U ll Q ks) H H' (vgd d st c' cl' ct' U' ll Q' ks'):=by
 erw[g,λy w=>?_];rcases w with z|z|⟨q,h,z⟩|z
 .erw[(g.nw y z).imp .inl id]
 .erw[.inl (.inr (.inl z))]
 .rcases hq q h with e|⟨a,b⟩
  .erw[.inl (.inr (.inr (.inl #[q,e,z])))]
  .rcases z with z|z
   .rw[z];erw[.inr a]
   .rw[z];erw[.inr b]
 .erw[(nk y z).imp (λz=>.inr (.inr (.inr z))) id]
end
end
mutual
def Ö{P:qj Pd}{q r:Pd}(hn:(P.map (·.nm)).Nodup)(hq:q∈P)(hr:r∈P)(e:q.nm=r.nm):q=r:=vfs hn hq hr e
def ToD.uniq{P:qj Pd}(hn:(P.map (·.nm)).Nodup)(h:ToD P x L)(g:ToD P x M):L=M:=by
 cases x with
 |none=>rw[show L=[]from h,show M=[]from g]
 |some b =>
  let#[r,e,d,i]:=h;let#[q,c,f,a]:=g;obtain rfl:=Ö hn e c (d.trans f.symm);rw[i,a]
theorem ye0{α:Type}[DecidableEq α]:∀{l m:qj α},l.Nodup->(∀x,x∈l->x∈m)->l.length<=m.length
 |[],_,_,_=>bR _
 |x::l,m,hn,h=>by
  let a:=cP.mp hn;let c:=h x cj;have d:l.length<=(m.erase x).length:=ye0 a.2 λy b=>(List.mem_erase_of_ne (λe=>a.1 (by rwa[<- e,b]))).mpr (h y (cg _ b));rw[List.length_erase_of_mem c]at d;have:=List.length_pos_of_mem c;rw[bN];omega
noncomputable def Pd.pc(q:Pd):Pc:=#[q.nm,q.bs,q.path,q.tx,0,0,0]
def vej(P:qj Pd):(P.map Pd.pc).map Pc.pd=P:=by rwa[cn,List.map_id _]
structure PdW(P:qj Pd):Prop where
 nd:(P.map (·.nm)).Nodup
 wf:∀q,q∈P->ToD P q.bs q.path
theorem ToD.pc{P:qj Pd}(h:ToD P x L):To (P.map Pd.pc) x L:=Á.mp (by rwa[vej,h])
theorem ToD.at{P:qj Pd}(w:PdW P)(t:ToD P x L)(hj:j<L.length):∃r,r∈P/\L[j]=(r.nm,r.tx)/\r.path=L.take j/\ToD P (some r.nm) (L.take (j+1)):=by
 let#[r,d,e,c,f]:=To.at' (λq b=>by
  let#[u,a,J]:=bw.mp b;erw[(w.wf u a).pc]) t.pc hj
 let#[u,a,J]:=bw.mp d;erw[u,a,e,c,?_];have:=Á.mpr f;rw[vej]at this;erw[this]
def ToD.len{P:qj Pd}(w:PdW P)(t:ToD P x L):L.length<=P.length:=by
 let h:=ye0 (l:=L.map (·.1)) (m:=P.map (·.nm)) ?_ ?_
 .rw[bo,bo]at h;erw[h]
 .erw[List.pairwise_iff_getElem.mpr λi j f a g e=>?_];rw[bo]at f a;rw[cL,cL]at e;let#[r,b,c,d,_]:=t.at w f;let#[u,n,g1,g2,_]:=t.at w a;rw[c,g1]at e;have:=Ö w.nd b n e;rw[this,g2]at d;let o:=congrArg List.length d;rw[bT,bT]at o;omega
 .intro y k;let#[z,p,J]:=bw.mp k;let#[j,a,J]:=List.mem_iff_getElem.mp p;let#[r,b,c,_]:=t.at w a;rwa[c,bw.mpr #[r,b,J]]
def Sto.pw{H:Hp}{C:Cf}{P:qj Pd}{X:Sx}(h:Sto K a H st C P X):PdW P:=#[h.nd,h.to]
structure Bs(B H:Hp)(X:Sx):Prop where
 s:yu B H
 n:∀y,X.f y->B y=none
inductive Np(a:Ads)(P:qj Pd):V->qa->Prop
 |name {v:V} (h:nmV v=false):Np a P v a.A2
 |piece {b:Str} (h:nmS b=true) (no:∀q,q∈P->q.nm≠b):Np a P (.str b) a.A3
theorem Np.e{Qs:qj Pc}{v:V}{H:Hp}{E:XK}(np:Np a (Qs.map Pc.pd) v cc)(ok:∀q,q∈Qs->nmS q.nm=true)(k:∀H',yu H H'->E (.ref cc) none H'):(nmV v=false->∀H',yu H H'->E (.ref a.A2) none H')/\(∀b',v=.str b'->nmS b'=true->(∀q,q∈Qs->q.nm≠b')->∀H',yu H H'->E (.ref a.A3) none H')/\∀r,r∈Qs->v=.str r.nm->False:=by
 cases np with
 |name h=>erw[λZ=>k,(λb' e c=>by rw[e,show nmV (.str b')=nmS b' from rfl,c]at h;cases h),λr b e=>by rw[e,show nmV (.str r.nm)=nmS r.nm from rfl,ok r b]at h;cases h]
 |piece h no=>erw[(λz=>by rw[show nmV (.str _)=nmS _ from rfl,h]at z;cases z),(λb' e Z Z=>k),λr b e=>by cases e;erw[no _ (bw.mpr #[r,b,J]) J]]
#synth yz7 ["self","looks"] ve2
#synth ∀(K:xy)(a:Ads),∀(c dc l:qa)(n:Nat)(lk tp:Λ)(kd:Ν)(ps:Κ)(_:vs=[.ref c,.ref l])(_:H c∩a.A4 dc [])(_:H l\(refs lk n))(_:1<=n)(_:n<=6)(_:uk H n lk kd tp ps)(_:∀(p ll tl:qa)(W:Μ)(H':Hp),å K a H' c dc p ll tl n kd ps [] [] 6 W->(∀x,ChW ll tl W x->H x=none)->But c H H'->(∀y xs H'',H y\xs->But y H' H''->å K a H'' c dc p ll tl n kd ps [] [] 6 W)->Q .non H'),ykl
def yc2:'e' 8 a.K3 a.So ["self","looks"] (ykl K a):=by
 exists T.Fm.F.okE,yz7,hr;let#[c,f,l,n,lk,tp,kd,ps,J,hc,hl,n1,n6,a0,k]:=h;erw[yi (vj (pv 0) (uu T.Vo (ypu T) hr.m J T.Vn T.Mb.B .nil vd (pav 1)) J) ?_,<-yi (vj (pv 0) (vn xo) J) ?_];exists 2,0,yc (vj (pv 0) (vn xo) J);intro p dp np U a5;erw[FZ.new np U hl n1 n6 a0 λW D hf nW S1 X=>#[J,?_]];let R:=S1 _ _ hc;ext;have r:upd D c (HO.ins a.A4 f ([("foreteller",V.ref p)]:Ι)) c=some (HO.ins a.A4 f ([("foreteller",V.ref p)]:Ι)):=ya;have G:But c D (upd D c (HO.ins a.A4 f ([("foreteller",V.ref p)]:Ι))):=But.upd;generalize upd D c (HO.ins a.A4 f ([("foreteller",V.ref p)]:Ι))=Z at r G⊢;exists 'l',λj hll=>?_
 exists hll,HB,SB,eB;let a6:=SB _ _ r;ext;have t:upd HB c (HO.ins a.A4 f ([("foreteller",V.ref p),("links",V.ref j)]:Ι)) c=some (HO.ins a.A4 f ([("foreteller",V.ref p),("links",V.ref j)]:Ι)):=ya;have M:But c HB (upd HB c (HO.ins a.A4 f ([("foreteller",V.ref p),("links",V.ref j)]:Ι))):=But.upd;generalize upd HB c (HO.ins a.A4 f ([("foreteller",V.ref p),("links",V.ref j)]:Ι))=HC at t M⊢;exists 'l',λC htl=>?_
 exists htl,HD,SD,eD;let a4:=SD _ _ t;ext;have i:j≠c:=(yb r hll).symm;have g:C≠c:=(yb t htl).symm;have S:HC j\[]:=M _ _ eB i
 have O:∀{x:qa},x≠c->Z x=none->H x=none:=λ{x}d e=>by
  cases z:H x with
  |none=>rfl
  |some o=>rw[G _ _ (S1 _ _ z) d]at e;cases e
 have a1:∀{x:qa},x≠c->HC x=none->Z x=none:=λ{x}d e=>by
  cases z:Z x with
  |none=>rfl
  |some o=>rw[M _ _ (SB _ _ z) d]at e;cases e
 have v:But c D (upd HD c (HO.ins a.A4 f (Ä (.ref p) (.ref j) (.ref C)))):=λx o e d=>yg d (SD _ _ (M _ _ (SB _ _ (G _ _ e d)) d))
 have q:∀x,W x->x≠c:=λx w z=>by
  let e:=nW x w;rw[z,hc]at e;cases e
 have I:H j=none:=O i hll;have N:H C=none:=O g (a1 g htl)
 have ς:¬W j:=λw=>by
  let#[o,e]:=hf.live _ w;rw[G _ _ e i]at hll;cases hll
 have L:¬W C:=λw=>by
  let#[o,e]:=hf.live _ w;rw[M _ _ (SB _ _ (G _ _ e g)) g]at htl;cases htl
 erw[k p j C W (upd HD c (HO.ins a.A4 f (Ä (.ref p) (.ref j) (.ref C)))) #[ya,?_,?_,?_,J,λw=>q c w J,ς,L,yb S htl] (λx w=>?_) (λx o e d=>v x o (S1 _ _ e) d) (λy xs H2 u b=>?_)]
 .erw[hf.frame (W2:=λx=>x=c) (λx z=>#[.ins a.A4 f [],by rwa[show x=c from z,R],.inl J]) (λx w z=>q x w z) (λx o e d=>v x o e d)]
 .erw[yg i (SD _ _ S)]
 .erw[yg g eD]
 .rcases w with z|z|z
  .rw[z];erw[I]
  .rw[z];erw[N]
  .erw[nW x z]
 .have a2:c≠y:=λz=>by rw[<- z,hc]at u;cases u
  have bG:But y D (upd H2 c (.ins a.A4 f [])):=λx o e d=>by
   by_cases z:x=c
   .rw[z,ya];rw[z,R]at e;erw[e]
   .erw[yg z (b _ _ (v x o e z) d)]
  erw[b _ _ ya a2,(X y xs _ u bG).frame (W2:=λx=>x=c) (λx z=>#[.ins a.A4 f [],by rwa[show x=c from z,ya],.inl J]) (λx w z=>q x w z) (λx o e d=>by rw[yn d]at e;erw[e]),b _ _ (yg i (SD _ _ S)) (λz=>by rw[<- z,I]at u;cases u),b _ _ (yg g eD) (λz=>by rw[<- z,N]at u;cases u),J,λw=>q c w J,ς,L,yb S htl]
#synth vaj ["self","name","text"] vfj
#synth ∀(a:Ads),∀(c dc:qa)(vf:V)(ll tl:qa)(x y:V)(xs ys:Τ)(_:vs=[.ref c,x,y])(_:H c∩a.A4 dc (Ä vf (.ref ll) (.ref tl)))(_:H ll\xs)(_:H tl\ys)(_:ll≠tl)(_:xs.length<=10000)(_:ys.length<=10000)(_:Q .non (upd (upd H ll (.lst (xs++[x]))) tl (.lst (ys++[y])))),yo0
def yqd:'v' 1 a.Pt a.Sq ["self","name","text"] (yo0 a):=by
 exists T.Hi.F.ok,vaj,B;let#[c,n,l,d,e,x,y,i,m,J,j,f,r,q,v,u,k]:=h;exists 3,0,yh (yw ('u' pfs (pav 1))) (yc (yw ('u' pfs (pav 2))));erw[υ f ?_,←uw f (vv ()) ?_];have t:(upd H d (.lst (i++[x]))) c∩a.A4 n (Ä l (.ref d) (.ref e)):=by rwa[yn (λz=>by rw[z,f]at j;cases j),j]
 ext;have b:(upd H d (.lst (i++[x]))) e\m:=by rwa[yn q.symm,r]
 erw[υ b ?_,←uw b (vv ()) ?_,←k]
def å.grow{H H1:Hp}{c p ll:qa}{n:Nat}{kd:Ν}{ps:Κ}{ks:Τ}{M M':Nat}{W:Μ}(h:å K a H c dc p ll tl n kd ps L ks M W){nm:Str}{t:Ο}{k:V}(hf:FZ K a H1 p n kd ps (ù (L.map (·.2))++dec t) M' W')(g:Go W H H1 W')(hk:k=.non\/∃q,k=.ref q/\H1 q\(t.map V.int)/\¬ChW ll tl W' q):
  å K a (upd (upd H1 ll (.lst (nmL L++[V.str nm]))) tl (.lst (ks++[k]))) c dc p ll tl n kd ps (L++[(nm,t)]) (ks++[k]) M' W'/\Go (ChW ll tl W) H (upd (upd H1 ll (.lst (nmL L++[V.str nm]))) tl (.lst (ks++[k]))) (ChW ll tl W'):=by
 let r:=g.fr _ _ h.hl h.nll;let l:=g.fr _ _ h.ht h.ntl;let A:=g.fr _ _ h.me h.nc;have i:∀{x:qa}{o:HO},H x=some o->¬W x->¬W' x:=λ{x o}e d w=>(g.nw x w).elim d λz=>by rw[e]at z;cases z
 let B:=i h.hl h.nll;let D:=i h.ht h.ntl
 have f:∀x o,H1 x=some o->¬(x=ll\/x=tl)->(upd (upd H1 ll (.lst (nmL L++[V.str nm]))) tl (.lst (ks++[k]))) x=some o:=λx o e d=>by
  rwa[yn (λz=>d (.inr z)),yn (λz=>d (.inl z)),e]
 have v:c≠ll:=λz=>by have e:=h.me;rw[z,h.hl]at e;cases e
 have s:c≠tl:=λz=>by have e:=h.me;rw[z,h.ht]at e;cases e
 erw[#[f _ _ A λz=>z.elim v s,?_,?_,ya,?_,i h.me h.nc,B,D,h.ne],#[λx o e d=>?_,λx w=>?_,λx o e=>?_]]
 .have G:ù ((L++[(nm,t)]).map (·.2))=ù (L.map (·.2))++dec t:=by rw[bA];exact yco _ _
  rwa[G,hf.frame (W2:=λx=>x=ll\/x=tl) (λx w=>?_) (λx w z=>?_) λx o e d=>f x o e d]
  .rcases w with z|z
   .exists _,by rwa[show x=ll from z,r],.inr #[_,J,λy m=>?_]
    let#[u,_,e]:=bw.mp m;erw[.inl #[u.1,e.symm]]
   .exists _,by rwa[show x=tl from z,l],.inr #[_,J,λy m=>.inr ?_]
    erw[(h.tx.mem y m).imp (λe=>by rw[e];rfl) λ⟨q,E,e,j,b⟩=>#[q,e,.inl #[E,g.fr q _ j λw=>b (.inr (.inr w))]]]
  .rcases z with z|z
   .rw[z]at w;erw[B w]
   .rw[z]at w;erw[D w]
 .rw[yn h.ne,ya];unfold nmL;rw[bA];rfl
 .refine ydh.snoc ?_ (h.tx.mono λq I e b=>#[f q _ (g.fr q _ e λw=>b (.inr (.inr w))) λz=>b (z.imp id .inl),λw=>?_])
  .erw[hk.imp id λ⟨q,e,j,b⟩=>#[q,e,f q _ j λz=>b (z.imp id .inl),b]]
  .rcases w with w|w|w
   .erw[b (.inl w)]
   .erw[b (.inr (.inl w))]
   .erw[i e (λw=>b (.inr (.inr w))) w]
 .erw[f x o (g.fr x o e λw=>d (.inr (.inr w))) λz=>d (z.imp id .inl)]
 .rcases w with w|w|w
  .erw[.inl (.inl w)]
  .erw[.inl (.inr (.inl w))]
  .erw[(g.nw x w).imp (λw=>.inr (.inr w)) id]
 .let#[C,F]:=g.lv x o e;by_cases z2:x=tl
  .erw[_,by rwa[z2,ya]]
  .by_cases z1:x=ll
   .erw[_,by rwa[z1,yn h.ne,ya]]
   .erw[C,f x C F λz=>z.elim z1 z2]
#synth yra ["self","name","text","data"] ["self","name","text"] vfy
#synth ∀(K:xy)(a:Ads),∀(c dc p ll tl:qa)(n:Nat)(kd:Ν)(ps:Κ)(L:Η)(ks:Τ)(M:Nat)(W:Μ)(tx:qa)(nm:Str)(ts:Ο)(_:vs=[.ref c,.str nm,.ref tx])(_:å K a H c dc p ll tl n kd ps L ks M W)(_:L.length<=1000)(_:ν H tx ts 1000)(_:¬W tx)(_:M+6*(dec ts).length+20<1000000)(_:∀(r:qa)(W':Μ)(H':Hp),H r=none->H' r\((Ð n kd ps (ù (L.map (·.2))) ts).map V.int)->å K a H' c dc p ll tl n kd ps (L++[(nm,ts)]) (ks++[.non]) (M+6*(dec ts).length) W'->Go (ChW ll tl W) H H' (ChW ll tl W')->Q (.ref r) H'),yh6
def yx5:'v' 8 a.Pu a.Sr ["self","name","text"] (yh6 K a):=by
 exists T.Mq.F.ok,yra,v;let#[c,u,p,x,t,n,G,I,L,D,M,W,U,nm,S,J,b,Y,e,l,C,k]:=h;let R:=b.me;let y:=b.tx.len;exists 3,1,yh (pst 3 yra.nd (ut (yrq T) v.m T.Mn (pac pfs (pav 2)))) (yh (yw (xl (pv 0) T.Ap T.Hi.m (yqd T) v.m T.Hi.B .nil vo (pac (pv 1) (pa1 uq)))) (yc (yp (pv 3))));erw[b.fz.press e l C λr X Z d j O g=>?_];let o:=g.fr _ _ b.hl b.nll;let i:=g.fr _ _ b.ht b.ntl;let q:=g.fr _ _ b.me b.nc;ext;erw[c,u,_,x,t,_,_,_,_,J,q,o,i,b.ne,by unfold nmL;rw[bo];omega,(),?_]
 let#[z,g2]:=b.grow (nm:=nm) O g (.inl J);ext;erw[k r X _ d ?_ z g2];rwa[yn (yb b.ht d).symm,yn (yb b.hl d).symm,j]
#synth yq7 ["self","name","data","most","first"] ["self","name","data","most"] vdl
#synth ∀(K:xy)(a:Ads),∀(c dc p ll tl:qa)(n:Nat)(kd:Ν)(ps:Κ)(L:Η)(ks:Τ)(M:Nat)(W:Μ)(dt:qa)(nm:Str)(ts bs:Ο)(mo:Nat)(_:vs=[.ref c,.str nm,.ref dt,.int mo])(_:å K a H c dc p ll tl n kd ps L ks M W)(_:L.length<=1000)(_:Sgs ts)(_:H dt\((Ð n kd ps (ù (L.map (·.2))) ts++bs).map V.int))(_:¬W dt)(_:Byt bs)(_:(Ð n kd ps (ù (L.map (·.2))) ts++bs).length<=12000)(_:ts.length<=mo)(_:mo<=1000)(_:M+54*mo+200<1000000)(_:∀(q:qa)(W':Μ)(H':Hp),H q=none->å K a H' c dc p ll tl n kd ps (L++[(nm,ts)]) (ks++[.ref q]) (M+6*(dec ts).length) W'->Go (ChW ll tl W) H H' (ChW ll tl W')->Q (.int ((Ð n kd ps (ù (L.map (·.2))) ts).length:Nat)) H'),yja
def yqt:'e' 11 a.Pv a.Ss ["self","name","data","most"] (yja K a):=by
 exists T.Hj.F.okE,yq7,X;let#[c,N,p,i,f,n,S,U,L,R,M,W,dt,nm,Y,bs,mo,J,b,hz,G,j,o,l,D,v,x,hM,k]:=h;let a2:=b.me;let a0:=b.tx.len;exists 4,1,yh (pst 4 yq7.nd (uz (vbh T) X.m T.Ue vd (pac pfs (pac (pv 2) (pav 3))))) (yh (yw (xl (pv 0) T.Ap T.Hi.m (yqd T) X.m T.Hi.B .nil vo (pac (pv 1) (pa1 (pix Å (pv 4) yd))))) (yc (yp (pix Å (pv 4) yd))));erw[b.fz.read (z0 _) G j o l D v x hM λt q Z H1 e d O hq hf g nq=>?_];let I:=g.fr _ _ b.hl b.nll;let y:=g.fr _ _ b.ht b.ntl;let ς:=g.fr _ _ b.me b.nc;ext;erw[t,_,0,_,J,J,SqT.of O,J,?_,←c,N,_,i,f,_,_,_,_,J,ς,I,y,b.ne,by unfold nmL;rw[bo];omega,(),?_]
 have r:¬ChW i f Z q:=λw=>by
  rcases w with w|w|w
  .erw[yb b.hl d w.symm]
  .erw[yb b.ht d w.symm]
  .erw[nq w]
 let#[z,g2]:=b.grow (nm:=nm) hf g (.inr #[q,J,hq,r])
 have C:(upd (upd H1 i (.lst (nmL L++[V.str nm]))) f (.lst (R++[V.ref q]))) t∪[.ref q,.int ((Ð n S U (ù (L.map (·.2))) Y).length:Nat)]:=by
  rwa[yn (yb b.ht e).symm,yn (yb b.hl e).symm,O]
 ext;erw[t,_,1,_,J,J,SqT.of C,J,?_,<-k q Z _ d z g2]
def FZ.fork{H:Hp}{p:qa}{n:Nat}{kd:Ν}{ps:Κ}{pre:Ο}{M:Nat}{W:Μ}{Q:VK}{E:XK}(h:FZ K a H p n kd ps pre M W)(hM:M+20<1000000)
  (k:∀q W' H',FZ K a H' q n kd ps pre (M+6) W'->(∀c,W' c->H c=none)->yu H H'->Q (.ref q) H'):yf1 K a [.ref p] H Q E:=by
 let#[A,f,O,m,o,L,x,J,J,J,D,r,G]:=h;let ς:=o.n6;erw[p,A,_,f,O,m,J,o,x,(),λq l y i H' s b d e t C I v F u B S=>k q (yw0 q l i) H' #[l,y,i,m+A.n,b,(),d,e,t,C,D,r,λc=>Iff.rfl] (λc w=>?_) S]
 rcases w with z|z|⟨j,g,z⟩|⟨j,g,z⟩|z
 .rw[z];erw[s]
 .rw[z];erw[u]
 .rw[z];erw[F j (by rwa[<- e,g])]
 .erw[v j c (by rwa[<- e,g]) z]
 .erw[B c (.inr (.inl z))]
#synth yyf ["self","text"] vfe
#synth ∀(K:xy)(a:Ads),∀(c dc p ll tl:qa)(n:Nat)(kd:Ν)(ps:Κ)(L:Η)(ks:Τ)(M:Nat)(W:Μ)(tx:qa)(ts:Ο)(_:vs=[.ref c,.ref tx])(_:å K a H c dc p ll tl n kd ps L ks M W)(_:ν H tx ts 1000)(_:M+60000<1000000)(_:∀H',yu H H'->Q (.int ((Ð n kd ps (ù (L.map (·.2))) ts).length:Nat)) H'),ykc
def yq8:'v' 9 a.Pw a.Su ["self","text"] (ykc K a):=by
 exists T.Hk.F.ok,yyf,C;let#[c,S,p,ll,R,n,X,Y,L,U,M,W,tx,I,J,d,b,hM,k]:=h;let a1:=d.me;let a3:=jd I;let hz:=b.z
 obtain⟨v,y,D,j,G,N,t,hp⟩:∃v y D j G N t,H p∩a.A6 v (jy y D j G N t):=by
  let#[A,f,O,m,hF,_]:=d.fz;erw[_,_,_,_,_,_,_,hF.me]
 exists 2,0,yc (yp (pcB yq T.Af (pa1 (ut (yrq T) C.m T.Mn (pac (vg pfs T.Ak T.Me.m (yx3 T) C.m T.Me.B .nil vo) (pav 1))))));erw[d.fz.fork () λq W' H1 hf u ς=>?_,←hf.press (b.same ς) (λw=>by have e:=u _ w;rw[b.l]at e;cases e) () λr W2 H2 a2 g Z g2=>?_,←ur (SqL.of g) ?_];rwa[bo,k H2 λx o e=>g2.fr _ _ (ς _ _ e) λw=>by rw[u _ w]at e;cases e]
#synth yxw ["thing"] vdt
#synth ∀(K:xy),∀(x n:_)(_:vs=[x])(_:xf K H x (.type n))(_:(∀s,x=.str s->s.length<=100000))(_:∀H',yu H H'->Q (.bl (nmV x)) H'),yj7
def yz6:'v' 1 a.Px a.Sv ["thing"] (yj7 K):=by
 exists T.Uf.F.ok,yxw,u;let#[x,n,J,b,d,k]:=h;exists 1,0,yc (yp (jr (pcB xq T.A7 (pac (pv 0) (pa1 (Ó (T:="str") J T.Up 'r')))) (jr (ð ι ι yd (pcB ω T.Af (pav 0)) (vw J T.Er)) (Õ (pcB (ζ J) T.En (pa1 (wx (js:=[]) (ys:=[]) J (ysj (pv 0)) (λC t r v=>(ud yje (pv 0) (yeu J T.Dt) (by with_unfolding_all rfl))) J J (hyc:=yv) (hrel:=yv))))))));erw[ŏ b (yf7 b) ?_];ext;by_cases hn:n="str"
 .obtain⟨s',rfl⟩:∃s',x=.str s':=by
   cases b with
   |str s'=>erw[s',rfl]
   |_=>erw[absurd hn ∅]
  let d:=d s' J;rwa[bz hn,Ĥ ?_];ext;erw[s',J,ck d ∅,?_,<-1,(s'.length:Int),J,J,_,J,?_];by_cases h1:(1:Int)<=(s'.length:Int)
  .erw[ydf h1 ?_];erw[(s'.length:Int),8,J,J,_,J,?_];by_cases h8:(s'.length:Int)<=8
   .erw[ydf h8 ?_];ext;erw[s',J,λD j=>?_];refine ycc (λi=>.bl (yix (s'.cps.toList.getD i 0))) j (λi c G p q S g=>?_) (λG S g=>?_)
    .ext;erw[_,_,J,J,?_];refine Mp.doneR j (Nat.lt_of_le_of_lt (show s'.cps.size<=100000 from d) ∅) q S g ?_
     have o:s'.cps.toList.getD i 0=c:=by
      rw[cX,Array.getElem?_toList,p];rfl
     rw[o];unfold yix;rfl
    .ext;exists D,s'.cps.toList.map yix,J,?_,?_
     .erw[SqL.of (g.trans ?_)];rw[ytd]
     .let e:=yz8 h1 h8;rwa[<- e,k _ S]
   .let e:=yzx h8;rw[e]at k;erw[yir h8 (k _ (yu.refl _))]
  .let e:=yyd h1;rw[e]at k;erw[yir h1 ?_,<-_,J,j9 (k _ (yu.refl _))]
 .have e:nmV x=false:=by
   cases b with
   |str s'=>erw[absurd J hn]
   |_=>rfl
  rw[bD hn];rw[e]at k;erw[j9 (k _ (yu.refl _))]
#synth yyy ["thing"] vfa
#synth ∀(K:xy)(C:qa),∀(x n:_)(_:vs=[x])(_:xf K H x (.type n))(_:(∀s,x=.str s->s.length<=100000))(_:(nmV x=true->∀H',yu H H'->Q x H'))(_:(nmV x=false->∀H',yu H H'->E (.ref C) none H')),ynu
def yc0:'e' 2 a.Py a.Sw ["thing"] (ynu K a.A2):=by
 exists T.Fn.F.okE,yyy,i;let#[x,n,J,j,k,d,f]:=h;exists 1,0,yh (vq (ue (xm (ut (yz6 T) i.m T.Uf (pav 0)))) (yc (xg J T.Av T.Nm (pa1 yr))) yy) (yc (yp (pv 0)));erw[x,n,J,j,k,λl c=>?_];ext
 cases hx:nmV x with
 |false =>
  ext;exists 'l',f hx _ c
 |true =>
  ext;erw[d hx _ c]
#synth yyx ["thing"] vf1
#synth ∀(K:xy)(C:qa),∀(x n:_)(_:vs=[x])(_:xf K H x (.type n))(_:(∀s,x=.str s->s.length<=100000))(_:((x=.non\/nmV x=true)->∀H',yu H H'->Q .non H'))(_:(x≠.non->nmV x=false->∀H',yu H H'->E (.ref C) none H')),yok
def yzp:'e' 3 a.Pz a.Sy ["thing"] (yok K a.A2):=by
 exists T.Ug.F.okE,yyx,k;let#[x,n,J,l,o,e,i]:=h;exists 1,0,yc (vq (yt Ą (pv 0) uq (ve _)) (yc (yw (uz (yc0 T) k.m T.Fn vd (pav 0)))) yy);by_cases hx:x=.non
 .subst hx;ext;erw[e (.inl J) _ (yu.refl _)]
 .ext;rwa[bD hx,Ĥ ?_];ext;erw[x,n,J,l,o,λc f b=>?_,λc f b=>i hx c f b,←e (.inr c) _ b]
#synth yxm ["self","base","data"] vfq
#synth ∀(a:Ads),∀(p dp:qa)(x y:V)(_:vs=[.ref p,x,y])(_:H p∩a.Ag dp [])(_:∀H',H' p∩a.Ag dp (Ň x y)->But p H H'->Q .non H'),yni
def yqn:'v' 1 a.K4 a.Sz ["self","base","data"] (yni a):=by exists T.Mr.F.ok,yxm,j;let#[p,b,x,y,J,i,k]:=h;exists 3,0,yh (vj (pv 0) (pv 1) J) (yc (vj (pv 0) (pv 2) J));have d:upd H p (HO.ins a.Ag b ([("base",x)]:Ι)) p=some (HO.ins a.Ag b ([("base",x)]:Ι)):=ya;have e:But p H (upd H p (HO.ins a.Ag b ([("base",x)]:Ι))):=But.upd;generalize upd H p (HO.ins a.Ag b ([("base",x)]:Ι))=l at d e⊢;ext;erw[k _ ya (e.trans But.upd)]
def vge(K:xy)(H:Hp)(x:V):Prop:=(∃n,xf K H x (.type n)/\n≠"list")\/∃(l:qa)(xs:Τ)(bs:qj Bool),x=.ref l/\H l\xs/\xs.length<=1000/\ydj K H xs bs/\¬(1<=xs.length/\xs.length<=6/\bs.all id=true)
theorem vge.same{H H':Hp}{x:V}(h:vge K H x)(S:yu H H'):vge K H' x:=by
 rcases h with⟨n,g,i⟩|⟨l,c,f,e,a,j,d,b⟩
 .erw[.inl #[n,jh S g,i]]
 .erw[.inr #[l,c,f,e,S _ _ a,j,d.same S,b]]
inductive StI(K:xy)(a:Ads)(H:Hp)(p ds:qa)(Q:VK)(E:XK):V->V->Prop
 |good (l:qa) (mo w n:Nat) (lk tp:Λ) (kd:Ν) (ps:Κ) (hl:H l\(refs lk n)) (n1:1<=n) (n6:n<=6) (hlk:uk H n lk kd tp ps) (hmo:mo<=1000) (hw1:w<=mo) (hw2:w<=200)
  (k:∀(ll d c dc q cl ct:qa)(U:Μ)(H':Hp),ψ K a H' p ds ll d c dc q cl ct lk tp n kd ps mo w [] [] [] U->(∀x,StW c cl ct U x->H x=none)->H ll=none->H d=none->But p H H'->Q .non H'):StI K a H p ds Q E (.ref l) (.int mo)
 |looks (x m:V) (h:vge K H x) (k:∀H',yu H H'->E (.ref a.Az) none H'):StI K a H p ds Q E x m
 |most (l:qa) (n:Nat) (lk tp:Λ) (kd:Ν) (ps:Κ) (m:V) (nt:String) (hl:H l\(refs lk n)) (n1:1<=n) (n6:n<=6) (hlk:uk H n lk kd tp ps) (ty:∀H',But p H H'->xf K H' m (.type nt)) (hm:ym8 m=false) (k:∀H',But p H H'->E (.ref a.Ac) none H'):StI K a H p ds Q E (.ref l) m
#synth yyg ["self","looks","most"] vfp
#synth ∀(K:xy)(a:Ads),∀(p ds:qa)(x m:V)(_:vs=[.ref p,x,m])(_:H p∩a.A0 ds [])(_:StI K a H p ds Q E x m),ycr
def yms:'e' 10 a.K5 a.Iw ["self","looks","most"] (ycr K a):=by
 exists T.Vj.okE,yyg,hr;let#[p,g,x,m,J,I,h]:=h;erw[yi (vj (pv 0) (uz (yqe T) hr.m T.M0 vd (pav 1)) J) ?_,<-yi (yw (uz (vg1 T) hr.m T.Vi vd (pav 2))) ?_,<-yi (vj (pv 0) (pv 2) J) ?_,<-yi (vj (pv 0) ynw J) ?_];exists 3,0,yc (vj (pv 0) (uu T.Cz (yc2 T) hr.m J T.Cy T.Fm.B .nil vd (pa1 pfs)) J)
 cases h with
 |looks x m h k =>
  rcases h with⟨n,ty,hn⟩|⟨l,xs,bs,rfl,hl,hz,hb,Z⟩
  .erw[.inl #[x,n,J,ty,hn,k H (yu.refl _)]]
  .erw[.inr #[l,xs,bs,J,hl,hz,hb,λz=>absurd z Z,λB H' S=>k H' S]]
 |most l n lk tp kd ps m nt hl n1 n6 hlk ty hm k =>
  erw[.inr #[l,refs lk n,List.replicate (refs lk n).length true,J,hl,by rw[wb];omega,hlk.lks.bs,λB f ς j C t=>?_,λZ=>absurd #[by rwa[wb,n1],by rwa[wb,n6],ybf _] Z]];let a2:=t _ _ I;ext;have N:But p H (upd ς p (HO.ins a.A0 g ([("looks",V.ref f)]:Ι))):=λb o e u=>yg u (t _ _ e);erw[m,nt,J,ty _ N,(λz=>by rw[hm]at z;cases z),λB=>k _ N]
 |good l mo w n lk tp kd ps hl n1 n6 hlk hmo hw1 hw2 k =>
  erw[.inr #[l,refs lk n,List.replicate (refs lk n).length true,J,hl,by rw[wb];omega,hlk.lks.bs,λB f ς j C t=>?_,λZ=>absurd #[by rwa[wb,n1],by rwa[wb,n6],ybf _] Z]];let a2:=t _ _ I;ext;have a9:upd ς p (HO.ins a.A0 g ([("looks",V.ref f)]:Ι)) p=some (HO.ins a.A0 g ([("looks",V.ref f)]:Ι)):=ya;have N:But p ς (upd ς p (HO.ins a.A0 g ([("looks",V.ref f)]:Ι))):=But.upd;generalize upd ς p (HO.ins a.A0 g ([("looks",V.ref f)]:Ι))=HA at a9 N⊢;erw[.int mo,"int",J,.int _,λB=>?_,λz=>by rw[yxq hmo]at z;cases z]
  ext;have L:upd HA p (HO.ins a.A0 g ([("looks",V.ref f),("most",V.int mo)]:Ι)) p=some (HO.ins a.A0 g ([("looks",V.ref f),("most",V.int mo)]:Ι)):=ya;have BB:But p HA (upd HA p (HO.ins a.A0 g ([("looks",V.ref f),("most",V.int mo)]:Ι))):=But.upd;generalize upd HA p (HO.ins a.A0 g ([("looks",V.ref f),("most",V.int mo)]:Ι))=HB at L BB⊢;intro d hd0;exists hd0,HC,SC,eC;let aa:=SC _ _ L;ext;have r:upd HC p (HO.ins a.A0 g ([("looks",V.ref f),("most",V.int mo),("pieces",V.ref d)]:Ι)) p=some (HO.ins a.A0 g ([("looks",V.ref f),("most",V.int mo),("pieces",V.ref d)]:Ι)):=ya;have BD:But p HC (upd HC p (HO.ins a.A0 g ([("looks",V.ref f),("most",V.int mo),("pieces",V.ref d)]:Ι))):=But.upd;generalize upd HC p (HO.ins a.A0 g ([("looks",V.ref f),("most",V.int mo),("pieces",V.ref d)]:Ι))=D at r BD⊢;have M:∀x o,ς x=some o->x≠p->D x=some o:=λx o e u=>BD _ _ (SC _ _ (BB _ _ (N _ _ e u) u)) u
  have K0:∀x,x≠p->D x=none->H x=none:=λx u e=>by
   cases z:H x with
   |none=>rfl
   |some o=>rw[M _ _ (t _ _ z) u]at e;cases e
  have a1:f≠p:=(yb I j).symm;have v:d≠p:=(yb L hd0).symm;let F:=M _ _ C a1;have W:D d=some (.dK []):=BD _ _ eC v
  have a7:uk D n lk kd tp ps:=λi hi=>by
   let#[q,e,X,R,h3]:=hlk i hi;erw[q,e,M _ _ (t _ _ X) (uc X I 'z'),M _ _ (t _ _ R) (uc R I 'z'),h3]
  erw[p,_,g,_,_,J,r,T.A1,T.Bd,J,?_];ext;intro c dc nc a3 ab;have SQ:yu D (upd (upd D dc (.own c)) c (.ins a.A4 dc [])):=λb o e=>by rwa[yn (yb e nc),yn (yb e a3),e]
  erw[c,dc,f,n,lk,tp,kd,ps,J,ya,SQ _ _ F,n1,n6,a7.same SQ,λq cl ct U HE a8 Y BE B=>#[J,?_]];have O:yu D HE:=λb o e=>BE _ _ (SQ _ _ e) (yb e nc);let a6:=O _ _ r
  have G:∀x,StW c cl ct U x->D x=none:=λx w=>by
   rcases w with z|z
   .rw[z];erw[nc]
   .erw[SQ.free (Y x z)]
  have a0:¬StW c cl ct U p:=λw=>by have e:=G _ w;rw[r]at e;cases e
  have a5:H d=none:=by
   cases z:H d with
   |none=>rfl
   |some o=>rw[BB _ _ (N _ _ (t _ _ z) v) v]at hd0;cases hd0
  ext;erw[k f d c dc q cl ct U _ #[ya,n1,n6,yg a1 (O _ _ F),λi hi=>?_,#[yg v (O _ _ W),λq y=>(by cases y),List.nodup_nil,λq y=>(by cases y),λq y=>(by cases y),bR _,λq y=>(by cases y)],a8.but a6 a0 But.upd,λx hx w=>?_,hmo,#[hw1,hw2],#[none,J]] (λx w=>?_) j ?_ (λx o e u=>yg u (O _ _ (M _ _ (t _ _ e) u)))]
  .let#[q,e,X,R,h3]:=hlk i hi;let n1:=uc X I 'z';let n2:=uc R I 'z';erw[q,e,yg n1 (O _ _ (M _ _ (t _ _ X) n1)),yg n2 (O _ _ (M _ _ (t _ _ R) n2)),h3]
  .let e:=G _ w;rcases hx with z|z|z|⟨q,y,_⟩
   .rw[z,r]at e;cases e
   .rw[z,F]at e;cases e
   .rw[z,W]at e;cases e
   .cases y
  .erw[K0 x (λz=>a0 (z ▸ w)) (G x w)]
  .erw[a5]
def Sto.new{H:Hp}{l:qa}{mo w n:Nat}{lk:Λ}{kd:Ν}{ps:Κ}{Q:VK}{E:XK}(hst0:H st=none)(hds0:H ds=none)(hlo:H l\(refs lk n))(n1:1<=n)(n6:n<=6)(hR:uk H n lk kd tp ps)(m1:mo<=1000)(wm:w<=mo)(w2:w<=200)
  (k:∀X H',Sto K a H' st #[n,kd,ps,mo,w] [] X->yu H H'->(∀y,X.f y->H y=none)->Q .non H'):ycr K a [.ref st,.ref l,.int mo] (upd (upd H ds (.own st)) st (.ins a.A0 ds [])) Q E:=by
 have g:yu H (upd (upd H ds (.own st)) st (.ins a.A0 ds [])):=λb o e=>by rwa[yn (yb e hst0),yn (yb e hds0),e]
 erw[st,ds,.ref l,.int mo,J,ya,.good l mo w n lk tp kd ps (g _ _ hlo) n1 n6 (hR.same g) m1 wm w2 λu d c v p r A U s i m h j x=>k _ s #[ds,u,d,c,v,p,r,A,lk,tp,[],[],[],U,i,J,J] (λy o e=>x _ _ (g _ _ e) (yb e hst0)) λy t=>?_];rcases t with(z|z|z)|z|⟨q,hq,_⟩|z
 .rw[z];erw[g.free j]
 .rw[z];erw[hst0]
 .erw[g.free (m y z)]
 .rw[z];erw[g.free h]
 .cases hq
 .cases z
#synth vcd ["self"] vel
#synth ∀(a:Ads),∀(st ds ll:qa)(vm vp vc:V)(xs:Τ)(_:vs=[.ref st])(_:H st∩a.A0 ds (wj (.ref ll) vm vp vc))(_:H ll\xs)(_:∀l H',H l=none->H' l\xs->yu H H'->Q (.ref l) H'),yct
def va8:'v' 1 a.Q1 a.T0 ["self"] (yct a):=by exists T.Mt.F.ok,vcd,r;let#[q,p,e,o,m,i,n,J,f,c,k]:=h;exists 1,0,yc (yp (pcT wk T.At (pa1 pfs)));erw[e,_,J,.inl (SqL.of c),λl b=>?_,<-k l _ b ya (yz b)]
def Sto.tlooks{H:Hp}{C:Cf}{P:qj Pd}{X:Sx}{Q:VK}{E:XK}(h:Sto K a H st C P X)(k:∀l lk tp H',H l=none->H' l\(refs lk C.n)->uk H' C.n lk C.kd tp C.ps->yu H H'->Q (.ref l) H'):yct a [.ref st] H Q E:=by let#[g,b,d,c,j,p,i,o,lk,tp,m,L,q,U,s,J,J]:=h;erw[st,g,b,_,_,_,_,J,s.me,s.lo,λl H' f e S=>k l lk tp H' f e (s.row.same S) S]
#synth vbs ["self"] vdx
#synth ∀(a:Ads),∀(st ds:qa)(vl vm vp vc:V)(_:vs=[.ref st])(_:H st∩a.A0 ds (wj vl vm vp vc))(_:Q vm H),ygn
def yyl:'v' 1 a.Q3 a.T8 ["self"] (ygn a):=by exists T.Mu.F.ok,vbs,n;let#[m,l,i,j,g,e,J,c,k]:=h;exists 1,0,yc (yp pfs);erw[k]
def Sto.tmost{H:Hp}{C:Cf}{P:qj Pd}{X:Sx}{Q:VK}{E:XK}(h:Sto K a H st C P X)(k:Q (.int C.mo) H):ygn a [.ref st] H Q E:=by let#[b,g,d,c,i,p,e,m,f,l,j,L,n,U,s,J,J]:=h;erw[st,b,_,_,_,_,J,s.me,k]
#synth yxr ["self"] vds
#synth ∀(a:Ads),∀(st ds d:qa)(vl vm vc:V)(P:qj Pc)(_:vs=[.ref st])(_:H st∩a.A0 ds (wj vl vm (.ref d) vc))(_:H d=some (.dK (pcs P)))(_:P.length<=60)(_:∀l H',H l=none->H' l\(P.map λq=>V.str q.nm)->yu H H'->Q (.ref l) H'),ygm
def j6:'v' 1 a.Q4 a.T9 ["self"] (ygm a):=by
 exists T.Ao.F.ok,yxr,u;let#[t,r,d,n,o,j,P,J,g,f,v,k]:=h;exists 1,0,yc (yp (pcT (yik J) T.At (pa1 pfs)));erw[d,_,J,f,λl b=>?_];have e:(pcs P).map (λp=>kV p.1)=P.map λq=>V.str q.nm:=by unfold pcs;rw[cn];rfl
 rwa[e,k l _ b ya (yz b)]
def Sto.names{H:Hp}{C:Cf}{P:qj Pd}{X:Sx}{Q:VK}{E:XK}(h:Sto K a H st C P X)(k:∀l H',H l=none->H' l\(P.map λq=>V.str q.nm)->yu H H'->Q (.ref l) H'):ygm a [.ref st] H Q E:=by let#[g,m,d,c,n,p,i,r,j,o,e,L,t,U,s,J,J]:=h;erw[st,g,d,_,_,_,e,J,s.me,s.pz.dk,s.pz.z,λl H' f b S=>k l H' f ?_ S];rwa[cn,b]
#synth yy6 ["self","text"] vet
#synth ∀(a:Ads),∀(st ds tx:qa)(vl vp vc:V)(mo:Int)(xs:Τ)(_:vs=[.ref st,.ref tx])(_:H st∩a.A0 ds (wj vl (.int mo) vp vc))(_:H tx\xs)(_:((xs.length:Int)<=mo->Q .non H))(_:(¬(xs.length:Int)<=mo->E (.ref a.A5) none H)),yug
def yrp:'e' 1 a.Q6 a.Tb ["self","text"] (yug a):=by
 exists T.Hl.F.okE,yy6,t;let#[l,q,p,n,m,g,k,o,J,e,c,d,i]:=h;exists 2,0,yc (vq (yt yfi (pcB yq T.Af (pav 1)) pfs (ve _)) (yc (xg J T.B6 T.Ji (pa1 yr))) yy);erw[ur (SqL.of c) ?_,←za (λr=>?_) (λr=>?_)]
 .ext;exists 'l',i ()
 .erw[d ()]
#synth vb4 ["self","name"] vd5
#synth ∀(K:xy)(a:Ads),∀(st ds d:qa)(vl vm vc:V)(n:Nat)(kd:Ν)(ps:Κ)(w:Nat)(P:qj Pc)(x:V)(nt:String)(_:vs=[.ref st,x])(_:H st∩a.A0 ds (wj vl vm (.ref d) vc))(_:ŷ a H d n kd ps w P)(_:xf K H x (.type nt))(_:(∀s,x=.str s->s.length<=100000))(_:(nmV x=false->∀H',yu H H'->E (.ref a.A2) none H'))(_:(∀b,x=.str b->nmS b=true->(∀q,q∈P->q.nm≠b)->∀H',yu H H'->E (.ref a.A3) none H'))(_:(∀r,r∈P->x=.str r.nm->nmS r.nm=true->∀H',yu H H'->Q (.ref r.ob) H')),vay
def Ů:'e' 3 a.Q8 a.Td ["self","name"] (vay K a):=by
 exists T.Bh.F.okE,vb4,k;let#[L,C,d,I,R,M,n,v,y,w,P,x,t,J,g,O,ς,D,u,N,B]:=h;exists 2,0,yh (vq (ymo (ycs (ő k) (uz (yc0 T) k.m T.Fn vd (pav 1)) pfs)) (yc (xg J T.Ca T.Jk (pa1 yr))) yy) (yc (yp (yba (ő k) pfs (pv 1) (λZ Z=>rfl))));erw[x,t,J,ς,D,λi p f=>?_,λi p f=>u i p f];let#[b,J,l]:=yq4 i;let o:=f _ _ g;let c:=O.same f;ext;rcases vc8 P b with⟨r,e,rfl⟩|q
 .erw[d,_,J,c.get e,?_];erw[false,J,j9 ?_,←d,_,J,c.get e,?_,<-B r e J l _ f]
 .erw[d,_,J,c.getNo q,?_];erw[true,J,Ĥ ?_];ext;exists 'l',N b J l q _ f
#synth vch ["self","name","base"] vc5
#synth ∀(K:xy)(a:Ads),∀(st ds d:qa)(vl vm vc:V)(n:Nat)(kd:Ν)(ps:Κ)(w:Nat)(P:qj Pc)(b:Str)(x:Υ)(_:vs=[.ref st,.str b,baV x])(_:H st∩a.A0 ds (wj vl vm (.ref d) vc))(_:ŷ a H d n kd ps w P)(_:(∀y,x=some y->nmS y=true/\y.length<=100000))(_:((∃r,r∈P/\r.nm=b)->E (.ref a.A9) none H))(_:((∀q,q∈P->q.nm≠b)->(∀y,x=some y->(∀q,q∈P->q.nm≠y)->∀H',yu H H'->E (.ref a.A3) none H')/\(∀L,To P x L->(P.length=60->∀H',yu H H'->E (.ref a.Ae) none H')/\(P.length≠60->∀H',yu H H'->Q .non H')))),ytt
def yqq:'e' 4 a.Q7 a.Tc ["self","name","base"] (ytt K a):=by
 exists T.Hm.F.okE,vch,I;let#[L,C,d,ς,N,M,n,u,v,w,P,b,x,J,f,g,Z,R,k2]:=h;exists 3,0,yh (vq (ymo (vab (ő I) (pv 1) pfs)) (yc (xg J T.D5 T.O9 (pa1 yr))) yy) (yh (vq (yt Ą (pv 2) uq (ve _)) (yc (yw (vi (pv 0) T.A1 T.Bh.m (Ů T) I.m T.Bh.B .nil vd (pav 2)))) yy) (yc (vq (yt xj (pcB yjd T.Af (pa1 pfs)) (vw J T.Fl) (ve _)) (yc (xg J T.Io T.Ur (pa1 yr))) yy)));rcases vc8 P b with⟨r,c,rfl⟩|G
 .erw[d,_,J,g.get c,?_];erw[true,J,Ĥ ?_];ext;exists 'l',R #[r,c,J]
 .erw[d,_,J,g.getNo G,?_];erw[false,J,j9 ?_];let#[X,O]:=k2 G;have U:(pcs P).length=P.length:=bo _;ext
  cases x with
  |none =>
   erw[yxa (λY=>?_) (λz=>absurd J z)];let#[p,q]:=O [] J;ext;erw[d,_,J,g.dk,?_,←za (λt=>?_) (λt=>?_)]
   .ext;exists 'l',p () _ (yu.refl _)
   .ext;erw[q () _ (yu.refl _)]
  |some y =>
   erw[yxa (λz=>nomatch z) (λY=>?_)]
   let#[j,k]:=Z y J;ext;erw[L,C,d,ς,N,M,n,u,v,w,P,.str y,"str",J,f,g,.str y,(λs e=>by cases e;erw[k]),(λz=>by rw[show nmV (.str y)=nmS y from rfl,j]at z;cases z),(λb e Y o H' S=>by cases e;erw[X y J o H' S]),λr c e Y H1 i=>?_];obtain rfl:y=r.nm:=by cases e;rfl
   let#[p,q]:=O _ #[r,c,J,J];let D:=i _ _ f;ext;erw[d,_,J,i _ _ g.dk,?_,←za (λt=>?_) (λt=>?_)]
   .ext;exists 'l',p () _ i
   .ext;erw[q () _ i]
#synth ymq ["self","name","links"] ["self","name"] vcw
#synth ∀(a:Ads),∀(st ds d:qa)(vl vm vc:V)(n:Nat)(kd:Ν)(ps:Κ)(w:Nat)(P:qj Pc)(x:Υ)(L:Η)(_:vs=[.ref st,baV x])(_:H st∩a.A0 ds (wj vl vm (.ref d) vc))(_:ŷ a H d n kd ps w P)(_:To P x L)(_:∀(l:qa)(H':Hp),H l=none->H' l\(nmL L)->yu H H'->Q (.ref l) H'),yo4
def ysh:'v' 1 a.Q9 a.Te ["self","name"] (yo4 a):=by
 exists T.Hn.F.ok,ymq,hr;let#[ς,ds,d,vl,vm,vc,n,U,W,w,P,x,L,J,p,v,I,k]:=h;exists 2,1,yh (pst 2 ymq.nd (vn xo)) (yh (Ï PassesOwn.never (yt Ą (pv 1) uq (ve _)) (yh (yw ('u' (pv 2) (pav 1))) (yc (pst 1 ymq.nd (jj (yba (ő hr) pfs (pv 1) (λF F=>rfl)) J))))) (yh (yw (yl8 PySem.F.plainAttrs_list PySem.F.slot_list_reverse PySem.F.type_list_reverse ŧ (pv 2))) (yc (yp (pv 2)))));exists 'l',λl c=>?_
 ext
 erw[λm σ' G=>∃(y:Υ)(R S:Η),σ'=[some (.ref ς),some (baV y),some (.ref l)]/\To P y R/\R++S=L/\G l\(nmL S).reverse/\yu H G/\m=R.length,
  #[_,x,L,[],J,I,cT L,ya,yz c,J],?_]
 rintro m σ2 G ⟨y,R,S,rfl,N,i,f,B,rfl⟩;let O:=B _ _ p;let a0:=v.same B;let C:=To.len v I;have Y:S.length<=61:=by rw[<- i,bq]at C;omega
 ext
 cases y with
 |none =>
  erw[yxa (λF=>?_) (λz=>absurd J z)];have e:S=L:=by rw[show R=[]from N]at i;erw[i]
  ext;erw[υ f ?_,←ycg f ?_];rw[List.reverse_reverse,e];ext;erw[k l _ c ya λb o z=>yg (yb z c) (B _ _ z)]
 |some b =>
  erw[yxa (λz=>nomatch z) (λF=>?_)]
  let#[r,j,J,t]:=N;erw[_,λσ' H' z=>z,?_,←υ f ?_,←uw f (vv (by unfold nmL;rw[List.length_reverse,bo];omega)) ?_];have g:yu H (upd G l (HO.lst ((nmL S).reverse++[baV (some r.nm)]))):=λb o e=>yg (yb e c) (B _ _ e);have u:upd G l (HO.lst ((nmL S).reverse++[baV (some r.nm)])) l=some (HO.lst ((nmL S).reverse++[baV (some r.nm)])):=ya;generalize upd G l (HO.lst ((nmL S).reverse++[baV (some r.nm)]))=G' at g u⊢;let M:=g _ _ p;let q:=v.same g;let Z:=(q.ob r j).1;ext;erw[d,_,J,q.get j,?_,←r.path.length,?_,r.bs,r.path,(r.nm,r.tx)::S,J,v.wf r j,?_,?_,g,rfl]
  .rw[t,bq,cz];omega
  .rw[<- i,t,bX];rfl
  .rw[yt7];erw[u]
#synth ymf ["self","name","links","link"] ["self","name"] vei
#synth ∀(K:xy)(a:Ads),∀(st ds ll d c dc p cl ct:qa)(lk tp:Λ)(n:Nat)(kd:Ν)(ps:Κ)(mo w:Nat)(P:qj Pc)(L:Η)(ks:Τ)(U:Μ)(x:Υ)(L':Η)(_:vs=[.ref st,baV x])(_:ψ K a H st ds ll d c dc p cl ct lk tp n kd ps mo w P L ks U)(_:To P x L')(_:∀(c' dc' p' cl' ct':qa)(ks':Τ)(U':Μ)(H':Hp),ψ K a H' st ds ll d c' dc' p' cl' ct' lk tp n kd ps mo w P L' ks' U'->Go (StO st c cl ct U) H H' (StO st c' cl' ct' U')->NK H ks ks'->(V.non∈ks'->V.non∈ks.take L'.length)->Q (.ref c') H'),ţ
def yda:'e' 12 a.Qa a.Tf ["self","name"] (ţ K a):=by
 exists T.C1.F.okE,ymf,hr;let#[R,ds,ll,d,c,dc,p,cl,ct,lk,tp,n,kd,ps,mo,w,P,L,ks,U,x,t,J,N,hL,k]:=h;let a7:=N.me;erw[yi (pst 2 ymf.nd (xl (pv 0) T.A1 T.Hn.m (ysh T) hr.m T.Hn.B .nil vo (pav 1))) ?_,<-yi (zn (vq (yt (Ō hr.units) (jj pfs J) (uh jb (pv 2) zf (ux (pcB yq T.Af (pa1 (jj pfs J))))) (ve _)) (yc (vj (pv 0) (uu T.Cz (yc2 T) hr.m J T.Cy T.Fm.B .nil vd (pa1 pfs)) J)) yy)) ?_,<-yi (PS.nox (jt PassesOwn.never J (xr (uh jb (pv 2) (ux (pcB yq T.Af (pa1 (jj pfs J)))) zf)) (xb (i:=3) ymf.nd J (Or.inl J)) (yc (yw (vi pfs T.Ap T.Hj.m (yqt T) hr.m T.Hj.B .nil wa (pac (pv 3) (pac (jj (yba (ő hr) pfs (pv 3) (λB B=>rfl)) J) (pa1 pfs)))))))) ?_];exists 2,2,yc (yp pfs);erw[R,ds,d,_,_,_,n,kd,ps,w,P,x,t,J,a7,N.pz,hL,λl H1 ay a6 S1=>?_];let ar:=S1 _ _ a7;let ae:=N.same S1;let aE:=ae.ch.me;let aa:=ae.ch.hl;let#[y,hy]:=N.way;let as:=To.len N.pz hL;let ax:=To.len N.pz hy;ext;erw[λσ2 G=>∃(S O p2 f j:qa)(I:Τ)(U2:Μ)(C:Η),σ2=[some (.ref R),some (baV x),some (.ref l),none]/\ψ K a G R ds ll d S O p2 f j lk tp n kd ps mo w P C I U2/\Go (StO R c cl ct U) H G (StO R S f j U2)/\C=t.take C.length/\C.length<=t.length/\G l\(nmL t)/\NK H ks I/\(V.non∈I->V.non∈ks.take t.length),?_,?_]
 .ext;erw[ur (SqL.of aa) ?_,←Ŏ (SqL.of a6) λq hq0=>?_];rw[á,jm,ğ];exists hq0,H2,S2,e2;let a5:=S1.trans S2;let M:=N.same a5;let a4:=M.me;let Z:=S2 _ _ a6;rw[Ć]at e2;let a3:=M.ch.hl;rw[Ć]at a3;erw[ŭ _ _ (hy.ok N.pz) (λz hz=>hL.ok N.pz z (by let#[u,hu,J]:=bw.mp hz;erw[bw.mpr #[u,cH hu,J]])) (SqL.of a3) (SqL.of e2) ?_];by_cases he:L.map (·.1)=(t.take L.length).map (·.1)
  .rw[bz he];erw[false,J,j9 ?_];let e3:=To.ahead N.pz.nd N.pz.wf hy hL (by rwa[ğ,yp3 he]);let e4:=congrArg List.length e3;rw[bT]at e4;erw[c,dc,p,cl,ct,ks,U,L,J,M,Go.refl.same a5,e3,(),Z,.refl,λz=>by rwa[cE (by rw[N.ch.tx.len];omega),z]]
  .rw[bD he];erw[true,J,Ĥ ?_];ext;intro c' X nc a8 aA;have SQ:yu H2 (upd (upd H2 X (.own c')) c' (.ins a.A4 X [])):=λb o e=>by rw[yn (yb e nc),yn (yb e a8)];exact e
   erw[c',X,ll,n,lk,tp,kd,ps,J,ya,SQ _ _ M.lo,M.n1,M.n6,M.row.same SQ,λp' ap af U' HE a2 ad BE B=>#[J,?_]];let#[hR,gR,SE,hN]:=M.re nc a8 a2 ad BE;let au:=SE _ _ a4;ext
   erw[c',X,p',ap,af,[],U',[],J,hR,gR.ahead a5,J,bR _,yg (λz=>by rw[z,a4]at Z;cases Z) (SE _ _ Z),.nil,λz=>nomatch z]
 .rintro σ2 G ⟨S,O,p2,f,j,I,U2,C,rfl,hG,go,al,ak,ai,ao,ah⟩;let aw:=hG.me;let aD:=hG.ch.me;let ac:=hG.ch.hl;ext;erw[ur (SqL.of ac) ?_,←Ŏ (SqL.of ai) λq hq0=>?_];rw[á,ygg];let S1:=yz (o:=(HO.lst ((nmL t).drop C.length))) hq0;have e1:upd G q (HO.lst ((nmL t).drop C.length)) q=some (HO.lst ((nmL t).drop C.length)):=ya;generalize upd G q (HO.lst ((nmL t).drop C.length))=G1 at S1 e1⊢
  have am:∀W F,Go (StO R S f j U2) G1 F (StO R S f j W)->ψ K a G R ds ll d S O p2 f j lk tp n kd ps mo w P C I U2->F q=some (HO.lst ((nmL t).drop C.length)):=λW F g hG=>g.fr _ _ e1 λw=>by
   let#[o,e]:=hG.lvO q w;rw[hq0]at e;cases e
  erw[q,J,#[_,SqL.of e1],jp (K:=K) (a:=q) (xs:=(nmL t).drop C.length) (λi σ2 F=>∃(v:ql V)(D:Τ)(W:Μ),σ2=[some (.ref R),some (baV x),some (.ref l),v]/\ψ K a F R ds ll d S O p2 f j lk tp n kd ps mo w P (t.take (C.length+i)) D W/\Go (StO R S f j U2) G1 F (StO R S f j W)/\NK G1 I D/\(V.non∈D->V.non∈I)) ?_ ?_ ?_ ?_]
  .rw[Nat.add_zero,<- al];erw[none,I,U2,J,hG.same S1,Go.refl,.refl,id]
  .rintro i σ2 F _ ⟨v,D,W,rfl,ς,g,a1,Y⟩;erw[SqL.of (am W F g hG)]
  .rintro i z σ2 F hz ⟨v,D,W,rfl,ς,g,a1,Y⟩
   have hj:C.length+i<t.length:=by
    rcases Nat.lt_or_ge (C.length+i) t.length with z|z
    .erw[z]
    .rw[ci (by rw[cZ,á];omega)]at hz;cases hz
   let#[r,a0,e3,e4,e5]:=hL.at' N.pz.wf hj
   obtain rfl:z=.str r.nm:=by
    rw[List.getElem?_drop,Ć,cn,bB,bp hj,e3]at hz;cases hz;rfl
   let a9:=ς.me;let aB:=ς.ch.me;let#[av,ab]:=ς.pz.ob r a0;ext;erw[d,_,J,ς.pz.get a0,?_];ext;let an:=ς.pz.sz r a0;let hb:=ς.wm;let hm:=ygr (L:=t.take (C.length+i)) (w:=w) (λy hy=>(hL.sz N.pz y (cH hy)).2) hb.2 (by rw[bT];omega);let aj:=ς.mo1;let az:=ya2 (n:=n) (kd:=kd) (ps:=ps) (pre:=ù ((t.take (C.length+i)).map (·.2))) (ts:=r.tx) ς.n1 ς.n6 (z0 _) ();erw[S,O,p2,f,j,n,kd,ps,t.take (C.length+i),D,mOf (t.take (C.length+i)),W,r.dl,r.nm,r.tx,[],mo,J,ς.ch,by rw[bT];omega,an.1,?_,λw=>ς.nw r.dl (.inr (.inr (.inr #[r,a0,.inr J]))) (.inr (.inr (.inr w))),(λb hb=>by cases hb),by rw[cT];omega,(),aj,(),λq3 U4 F2 ag a2 g2=>?_]
   .rw[cT,<- e4];erw[ab]
   rw[<- yfw,<- e3,<- bV hj]at a2;let#[h4,g4]:=ς.go a2 g2 #[_,e5];ext;erw[_,_,U4,J,h4,g.trans g4,a1.app (λq e=>by cases e;erw[g.free ag]),λz=>Y ((bQ.mp z).elim id λy=>by cases bO.mp y)]
  .rintro σ2 F ⟨v,D,W,rfl,ς,g,a1,Y⟩;rw[cZ,á,Nat.add_sub_cancel' ak,cq]at ς;let a9:=ς.me;ext;erw[k S O p2 f j D W F ς (go.trans (g.ahead S1)) (ao.trans a1 λq e=>go.free (S1.free e)) λz=>ah (Y z)]
def å.lvW{H:Hp}{c p ll:qa}{n:Nat}{kd:Ν}{ps:Κ}{ks:Τ}{M:Nat}{W:Μ}(h:å K a H c dc p ll tl n kd ps L ks M W):∀x,StW c ll tl W x->∃o,H x=some o:=λx b=>by
 rcases b with z|z|z|z
 .erw[_,by rwa[z,h.me]]
 .erw[_,by rwa[z,h.hl]]
 .erw[_,by rwa[z,h.ht]]
 .erw[h.fz.live x z]
def å.butM{H H':Hp}{c p ll:qa}{n:Nat}{kd:Ν}{ps:Κ}{ks:Τ}{M:Nat}{W:Μ}(h:å K a H c dc p ll tl n kd ps L ks M W){o:HO}(hq:H q=some o)(ho:vgj o=true)(nq:¬StW c ll tl W q)(B:But q H H'):å K a H' c dc p ll tl n kd ps L ks M W:=by
 have b:∀{x:qa}{d:Τ},H x\d->x≠q:=λ{x d}e z=>by rw[z,hq]at e;cases e;cases ho
 erw[B _ _ h.me λz=>nq (.inl z.symm),h.fz.frame (W2:=λx=>x=q) (λx z=>#[o,by rwa[show x=q from z,hq],.inl ho]) (λx w z=>nq (.inr (.inr (.inr (by rwa[<- show x=q from z,w]))))) (λx o e f=>B x o e f),B _ _ h.hl (b h.hl),B _ _ h.ht (b h.ht),h.tx.mono λx d e g=>#[B _ _ e (b e),g],h.nc,h.nll,h.ntl,h.ne]
def To.more{P:qj Pc}{q:Pc}(h:To P x L):To (P++[q]) x L:=by
 cases x with
 |none=>erw[h]
 |some b =>
  let#[r,a,e]:=h;erw[r,cN _ a,e]
end
section
variable{H H1 H2 H3:Hp}{ll d c p cl ct:qa}{lk:Λ}{n:Nat}{kd:Ν}{ps:Κ}{mo w:Nat}{P:qj Pc}{ks ks':Τ}
def ψ.put(h:ψ K a H st ds ll d c dc p cl ct lk tp n kd ps mo w P L ks U){b:Str}{r ob od:qa}(hc:å K a H1 c dc p cl ct n kd ps (L++[(b,ts)]) ks' (mOf L+6*(dec ts).length) U')(g:Go (ChW cl ct U) H H1 (ChW cl ct U'))(hr0:H r=none)(hr:H1 r\((Ð n kd ps (ù (L.map (·.2))) ts).map V.int))(hob0:H1 ob=none)(S:yu H1 H2)(hob:H2 ob∩a.Ag od (Ň (baV x) (.ref r)))
  (hL:To P x L) (hL6:L.length<=60) (hts:Sgs ts) (htz:ts.length<=w) (hb1:nmS b=true) (hb2:PyData.strOk b=true) (hno:∀q,q∈P->q.nm≠b) (hP:P.length<60):
  ψ K a (upd H2 d (.dK (pcs (P++[#[b,x,L,ts,ob,od,r]])))) st ds ll d c dc p cl ct lk tp n kd ps mo w (P++[#[b,x,L,ts,ob,od,r]]) (L++[(b,ts)]) ks' U'/\Go (λy=>y=d\/StO st c cl ct U y) H (upd H2 d (.dK (pcs (P++[#[b,x,L,ts,ob,od,r]])))) (λy=>y=d\/StO st c cl ct U' y):=by
 have g1:Go (StW c cl ct U) H H1 (StW c cl ct U'):=g.or (Y:=λx=>x=c);have f:∀x o,H x=some o->(x=st\/x=ll\/x=d\/∃q,q∈P/\(x=q.ob\/x=q.dl))->H2 x=some o:=λx o e C=>S _ _ (g1.fr x o e (h.nw x C));let k:=f _ _ h.me (.inl J);let m:=f _ _ h.lo (.inr (.inl J));let j:=f _ _ h.pz.dk (.inr (.inr (.inl J)));let u:=g1.apart (λx C=>h.lv x C) h.nw;have t:uk H2 n lk kd tp ps:=h.row.fr λx ς e=>S _ _ (g1.fr _ _ e (h.ch.noTup e));have v:å K a H2 c dc p cl ct n kd ps (L++[(b,ts)]) ks' (mOf (L++[(b,ts)])) U':=by rwa[yfw,hc.same S]
 have B:¬StW c cl ct U' ob:=λz=>by
  let#[o,e]:=hc.lvW ob z;rw[hob0]at e;cases e
 have I:¬StW c cl ct U' r:=λz=>by
  rcases z with z|z|z|z
  .rw[z,h.ch.me]at hr0;cases hr0
  .rw[z,h.ch.hl]at hr0;cases hr0
  .rw[z,h.ch.ht]at hr0;cases hr0
  .erw[hc.fz.sh.ints hr (ya5 h.n1 h.n6 (z0 _)) z]
 erw[#[yg (λz=>by rw[z,j]at k;cases k) k,h.n1,h.n6,yg (λz=>by rw[z,j]at m;cases m) m,t.fr λx ς e=>yg (λz=>by rw[z,j]at e;cases e) e,#[ya,λq i=>?_,?_,λq i=>?_,λq i=>?_,?_,λq i=>?_],v.butM j J (u d (.inr (.inr (.inl J)))) But.upd,λy s=>?_,h.mo1,h.wm,#[some b,_,bP _ (bO.mpr J),J,J]],#[λy o e F=>?_,λy z=>?_,λy o e=>?_]]
 .rcases bQ.mp i with z|z
  .let D:=f _ _ (h.pz.ob q z).1 (.inr (.inr (.inr #[q,z,.inl J])));let l:=f _ _ (h.pz.ob q z).2 (.inr (.inr (.inr #[q,z,.inr J])));erw[yg (λz=>by rw[z,j]at D;cases D) D,yg (λz=>by rw[z,j]at l;cases l) l]
  .obtain rfl:=bO.mp z;let l:=S _ _ hr;erw[yg (λz=>by rw[show ob=d from z,j]at hob;cases hob) hob,yg (λz=>by rw[show r=d from z,j]at l;cases l) l]
 .rw[bA];erw[List.nodup_append.mpr #[h.pz.nd,'s',λy s z E e=>?_]];let#[q,i,J]:=bw.mp s;rw[List.map_singleton,bO]at E;erw[hno q i (e.trans E)]
 .rcases bQ.mp i with z|z
  .erw[(h.pz.wf q z).more]
  .obtain rfl:=bO.mp z;erw[hL.more]
 .rcases bQ.mp i with z|z
  .erw[h.pz.sz q z]
  .obtain rfl:=bO.mp z;erw[hts,htz,hL6,λy s=>hL.sz h.pz y s]
 .rw[bq,cz];omega
 .rcases bQ.mp i with z|z
  .erw[h.pz.nm q z]
  .obtain rfl:=bO.mp z;erw[hb1,hb2]
 .rcases s with z|z|z|⟨q,i,z⟩
  .erw[u y (.inl z)]
  .erw[u y (.inr (.inl z))]
  .erw[u y (.inr (.inr (.inl z)))]
  .rcases bQ.mp i with A|A
   .erw[u y (.inr (.inr (.inr #[q,A,z])))]
   .obtain rfl:=bO.mp A;rcases z with z|z
    .rw[z];erw[B]
    .rw[z];erw[I]
 .erw[yg (λz=>F (.inl z)) (S _ _ (g1.fr y o e λz=>F (.inr (.inr z))))]
 .rcases z with z|z|z
  .erw[.inl (.inl z)]
  .erw[.inl (.inr (.inl z))]
  .erw[(g1.nw y z).imp (λz=>.inr (.inr z)) id]
 .let#[M,G]:=g1.lv y o e;by_cases z:y=d
  .erw[_,by rwa[z,ya]]
  .erw[M,yg z (S _ _ G)]
end
mutual
#synth ymg ["self","name","text","base","signs","data"] ["self","name","text","base"] vex
inductive ylz(K:xy)(a:Ads)(vs:Τ)(H:Hp)(Q:VK)(E:XK):Prop
 | mk(st:qa)(C:Cf)(P:qj Pd)(X:Sx)(v t b:V)(nt:String)(_:vs=[.ref st,v,t,b])(_:Sto K a H st C P X)(_:xf K H v (.type nt))(_:(∀s,v=.str s->s.length<=100000))(_:(nmV v=false->∀H',yu H H'->E (.ref a.A2) none H'))(_:(∀n,v=.str n->nmS n=true->PyData.strOk n=true/\((∃tn,xf K H t (.type tn)/\Bad K H t tn 1000/\∀H',yu H H'->E (.ref a.Ar) none H')\/∃tx ts,t=.ref tx/\ν H tx ts 1000/\((∃bn,xf K H b (.type bn)/\(∀s,b=.str s->s.length<=100000)/\b≠.non/\nmV b=false/\∀H',yu H H'->E (.ref a.A2) none H')\/∃x,b=baV x/\(∀y,x=some y->nmS y=true)/\
 (C.mo<ts.length->∀H',yu H H'->E (.ref a.A5) none H')/\(ts.length<=C.mo->(∃r,r∈P/\r.nm=n)->∀H',yu H H'->E (.ref a.A9) none H')/\(ts.length<=C.mo->(∀q,q∈P->q.nm≠n)->∀y,x=some y->(∀q,q∈P->q.nm≠y)->∀H',yu H H'->E (.ref a.A3) none H')/\(ts.length<=C.mo->(∀q,q∈P->q.nm≠n)->∀L,ToD P x L->(P.length=60->∀H',yu H H'->E (.ref a.Ae) none H')/\(P.length<60->ts.length<=C.w/\∀Y H',Sto K a H' st C (P++[#[n,x,L,ts]]) Y->Gx X H H' Y->Q .non H'))))))
def ymp:'e' 13 a.K6 a.Ix ["self","name","text","base"] (ylz K a):=by
 exists T.Vk.okE,ymg,G;let#[st,C,P,X,v,t,b,nt,J,aj,ty,aA,kB,kV]:=h;let au:=aj.pw;let#[ds,ll,d,c,dc,p,cl,ct,lk,tp,Z,L,ks,U,S,J,J]:=aj;let aK:=S.me;erw[yi (yw (uz (yc0 T) G.m T.Fn vd (pav 1))) ?_,<-yi (pst 4 ymg.nd (uz (yws T) G.m T.O5 vd (pav 2))) ?_,<-yi (yw (uz (yzp T) G.m T.Ug vd (pav 3))) ?_,<-yi (yw (vi (pv 0) T.A1 T.Hl.m (yrp T) G.m T.Hl.B .nil vd (pav 4))) ?_,<-yi (yw (vi (pv 0) T.A1 T.Hm.m (yqq T) G.m T.Hm.B .nil vd (pac (pv 1) (pav 3)))) ?_,<-yi (pst 5 ymg.nd (xl (vi (pv 0) T.A1 T.C1.m (yda T) G.m T.C1.B .nil vd (pav 3)) T.Ap T.Mq.m (yx5 T) G.m T.Mq.B .nil vo (pac (pv 1) (pav 4)))) ?_,<-_,(yc (ybe (ő G) pfs (pv 1) (à T.J7 (yqn T) G.m J T.J0 T.Mr.B .nil vo (pac (pv 3) (pav 5))) J)),?_];exists 4,2;let av:=S.wm;let aF:=S.mo1;ext;erw[v,nt,J,ty,aA,λao H1 I=>?_,λz H1 I=>kB z H1 I];let#[n,J,a5]:=yq4 ao;let#[aC,hT]:=kV n J a5;ext;rcases hT with⟨tn,aE,ae,kX⟩|⟨tx,ts,rfl,a0,hB⟩
 .erw[t,tn,J,jh I aE,.inl #[ae.same I,λH2 S2=>kX H2 (I.trans S2)]]
 let ς:=I _ _ a0.l;let a3:=a0.s;let aI:=a0.z;erw[.ref tx,_,J,.lst ς,.inr #[ts.map V.int,ya9 ς a3 (),λsg H2 ac aa S2=>?_]];ext;rcases hB with⟨bn,am,as,hb0,hb1,kY⟩|⟨x,rfl,D,kL,kT,kN,kG⟩
 .erw[b,bn,J,jh (I.trans S2) am,as,(λz=>by rcases z with z|z;erw[absurd z hb0];rw[hb1]at z;cases z),λB B H3 S3=>kY H3 (I.trans (S2.trans S3))]
 have a1:∃nt,xf K H2 (baV x) (.type nt):=by
  cases x with
  |none=>erw[_,.non]
  |some y=>erw[_,.str y]
 let#[aw,a1]:=a1;have a4:∀y,x=some y->nmS y=true/\y.length<=8:=λy e=>#[D y e,zh (D y e)];erw[baV x,aw,J,a1,(λs e=>?_),λaL H3 S3=>?_,λz1 z2 H3 S3=>?_]
 .cases x with
  |none=>cases e
  |some y=>cases e;have:=(a4 _ J).2;omega
 rotate_left
 .cases x with
  |none=>erw[absurd J z1]
  |some y=>rw[show nmV (baV (some y))=nmS y from rfl,D y J]at z2;cases z2
 have up:∀{z:Str},(∀q,q∈Z->q.nm≠z)->∀q,q∈Z.map Pc.pd->q.nm≠z:=λ{z}hz q hq=>by
  let#[u,hu,J]:=bw.mp hq;erw[hz u hu]
 let i:=I.trans (S2.trans S3);let a8:=S.same i;let M:=a8.me;let R:=S3 _ _ aa;ext;erw[st,ds,sg,_,_,_,C.mo,_,J,M,R,λg=>?_,λz=>kL (by rw[bo]at z;omega) _ i];have g:ts.length<=C.mo:=by rw[bo]at g;omega
 ext;erw[st,ds,d,_,_,_,C.n,C.kd,C.ps,C.w,Z,n,x,J,M,a8.pz,(λy e=>#[(a4 y e).1,by have:=(a4 y e).2;omega]),(λ⟨r,G,e⟩=>kT g #[r.pd,bw.mpr #[r,G,J],e] _ i),λj=>#[λy e aq H4 S4=>kN g (up j) y e (up aq) _ (i.trans S4),λN hL=>#[λz H4 S4=>(kG g (up j) N (Á.mpr hL)).1 (by rwa[bo,z]) _ (i.trans S4),λz H4 S4=>?_]]];let aN:=S.pz.z;have ab:Z.length<60:=()
 let#[az,k]:=(kG g (up j) N (Á.mpr hL)).2 (by rwa[bo,ab])
 have ak:N.length<=60:=by
  have:=(Á.mpr hL).len au;rw[bo]at this;omega
 let F:=i.trans S4;let ag:=S.same F;let aH:=ag.me;let O:=S4 _ _ R;ext;erw[st,ds,ll,d,c,dc,p,cl,ct,lk,tp,C.n,C.kd,C.ps,C.mo,C.w,Z,L,ks,U,x,N,J,ag,hL,λc' a9 p' a2 W ay U' H5 h5 g5 aD B=>?_];let aP:=h5.ch.me
 have a7:¬StO st c cl ct U sg:=λz=>by
  let#[o,e]:=S.lvO sg z;rw[I.free ac]at e;cases e
 let ah:=g5.fr _ _ O a7;have af:¬StO st c' a2 W U' sg:=λz=>(g5.nw sg z).elim a7 λe=>by rw[O]at e;cases e
 let hm:=ygr (L:=N) (w:=C.w) (λy hy=>(hL.sz S.pz y hy).2) av.2 ();let aM:=jd ts;ext;erw[c',a9,p',a2,W,C.n,C.kd,C.ps,N,ay,mOf N,U',sg,n,ts,J,h5.ch,(),#[ah,a3,()],λz=>af (.inr (.inr (.inr (.inr z)))),(),λr U6 H6 ad ap ax g6=>?_]
 let ar:=g6.fr _ _ h5.me λz=>h5.nw st (.inl J) (.inr z);let al:=g6.fr _ _ h5.pz.dk λz=>h5.nw d (.inr (.inr (.inl J))) (.inr z);ext;intro ob od f ai aJ;have SQ:yu H6 (upd (upd H6 od (.own ob)) ob (.ins a.Ag od [])):=λb o e=>by rwa[yn (yb e f),yn (yb e ai),e]
 erw[ob,od,baV x,.ref r,J,ya,λH7 a6 B7=>#[J,?_]];have S7:yu H6 H7:=λy o e=>B7 _ _ (SQ _ _ e) (yb e f);let aG:=S7 _ _ ar;ext;erw[d,_,J,ym4.k (k:=.inr n) (S7 _ _ al) (vv (by unfold pcs;rw[bo];omega)),?_];rw[ì _ (ymr j)];let#[z1,z2]:=h5.put (x:=x) ax g6 ad ap f S7 a6 hL ak a3 az a5 aC j ab;have e8:pcs (Z++[#[n,x,N,ts,ob,od,r]])=pcs Z++[(.inr n,.ref ob)]:=by unfold pcs;rw[bA];rfl
 rw[e8]at z1 z2;have an:∀{y:qa},H6 y=none->H y=none:=λ{y}e=>F.free (g5.free (g6.free e))
 erw[k _ _ #[ds,ll,d,c',a9,p',a2,W,lk,tp,_,_,_,U6,z1,by rw[bA];rfl,J] (Gx.of (((g5.ahead F).or (Y:=λy=>y=d)).trans z2) ((NK.refl.trans aD λB e=>F.free e).app λq e=>nomatch e) λq hq=>?_)]
 rcases bQ.mp hq with z|z
 .erw[.inl z]
 .rw[bO.mp z];erw[.inr #[an f,F.free (g5.free ad)]]
inductive PuN(K:xy)(a:Ads)(H:Hp)(C:Cf)(P:qj Pd):V->V->V->qa->Prop
 |name {v t b:V} {nt:String} (ty:xf K H v (.type nt)) (hl:∀s,v=.str s->s.length<=100000) (h:nmV v=false):PuN K a H C P v t b a.A2
 |text {n:Str} {t b:V} {tn:String} (hn:okN n) (ty:xf K H t (.type tn)) (h:Bad K H t tn 1000):PuN K a H C P (.str n) t b a.Ar
 |bas {n:Str} {tx:qa} {ts:Ο} {b:V} {bn:String} (hn:okN n) (ht:ν H tx ts 1000) (ty:xf K H b (.type bn)) (hl:∀s,b=.str s->s.length<=100000) (h0:b≠.non) (h:nmV b=false):PuN K a H C P (.str n) (.ref tx) b a.A2
 |long {n:Str} {tx:qa} {ts:Ο} {x:Υ} (hn:okN n) (ht:ν H tx ts 1000) (hx:∀y,x=some y->nmS y=true) (h:C.mo<ts.length):PuN K a H C P (.str n) (.ref tx) (baV x) a.A5
 |taken {n:Str} {tx:qa} {ts:Ο} {x:Υ} {r:Pd} (hn:okN n) (ht:ν H tx ts 1000) (hx:∀y,x=some y->nmS y=true) (h:ts.length<=C.mo) (hr:r∈P) (e:r.nm=n):PuN K a H C P (.str n) (.ref tx) (baV x) a.A9
 |piece {n:Str} {tx:qa} {ts:Ο} {y:Str} (hn:okN n) (ht:ν H tx ts 1000) (hx:nmS y=true) (h:ts.length<=C.mo) (no:∀q,q∈P->q.nm≠n) (ny:∀q,q∈P->q.nm≠y):PuN K a H C P (.str n) (.ref tx) (.str y) a.A3
 |full {n:Str} {tx:qa} {ts:Ο} {x:Υ} {L:Η} (hn:okN n) (ht:ν H tx ts 1000) (h:ts.length<=C.mo) (no:∀q,q∈P->q.nm≠n) (hL:ToD P x L) (hP:P.length=60):PuN K a H C P (.str n) (.ref tx) (baV x) a.Ae
end
section
mutual
variable{H:Hp}{C:Cf}{P:qj Pd}{X:Sx}{Q:VK}{E:XK}
def Sto.bnm(h:Sto K a H st C P X)(hL:ToD P x L):∀y,x=some y->∃r,r∈P/\r.nm=y/\nmS y=true:=λy e=>by
 subst e;let#[r,b,e,_]:=hL;erw[r,b,e,by rwa[<- e,(h.nm r b).1]]
def okN.tyl{n:Str}(hn:okN n):xf K H (.str n) (.type "str")/\(∀s,V.str n=.str s->s.length<=100000)/\¬nmV (.str n)=false:=#[.str n,λs e=>by cases e;have:=zh hn.1;omega,λz=>by rw[show nmV (.str n)=nmS n from rfl,hn.1]at z;cases z]
def Sto.putN(h:Sto K a H st C P X){v t b:V}(np:PuN K a H C P v t b cc)(k:∀H',yu H H'->E (.ref cc) none H'):ylz K a [.ref st,v,t,b] H Q E:=by
 cases np with
 |name ty hl hv=>erw[st,C,P,X,v,t,b,_,J,h,ty,hl,λZ=>k,λn e hn=>by subst e;rw[show nmV (.str n)=nmS n from rfl,hn]at hv;cases hv]
 |text hn ty hb =>
  let#[f,c,d]:=hn.tyl (K:=K) (H:=H);erw[st,C,P,X,_,t,b,_,J,h,f,c,(λz=>absurd z d),λn e Z=>by cases e;erw[hn.2,.inl #[_,ty,hb,k]]]
 |bas hn ht ty hl h0 hb =>
  let#[f,c,d]:=hn.tyl (K:=K) (H:=H);erw[st,C,P,X,_,_,b,_,J,h,f,c,(λz=>absurd z d),λn e Z=>by cases e;erw[hn.2,.inr #[_,_,J,ht,.inl #[_,ty,hl,h0,hb,k]]]]
 |long hn ht hx hz =>
  let#[f,c,d]:=hn.tyl (K:=K) (H:=H);erw[st,C,P,X,_,_,_,_,J,h,f,c,(λz=>absurd z d),λn e Z=>by cases e;erw[hn.2,.inr #[_,_,J,ht,.inr #[_,J,hx,λZ=>k,(λz=>absurd z ()),(λz=>absurd z ()),λz=>absurd z ()]]]]
 |taken hn ht hx hz hr er =>
  let#[f,c,d]:=hn.tyl (K:=K) (H:=H);erw[st,C,P,X,_,_,_,_,J,h,f,c,(λz=>absurd z d),λn e Z=>by cases e;erw[hn.2,.inr #[_,_,J,ht,.inr #[_,J,hx,(λz=>absurd z ()),(λZ Z=>k),(λZ no=>absurd er (no _ hr)),λZ no=>absurd er (no _ hr)]]]]
 |piece hn ht hx hz no ny =>
  let#[f,c,d]:=hn.tyl (K:=K) (H:=H);erw[st,C,P,X,_,_,_,_,J,h,f,c,(λz=>absurd z d),λn e Z=>by cases e;erw[hn.2,.inr #[_,_,J,ht,.inr #[some _,J,(λy e=>by cases e;erw[hx]),(λz=>absurd z ()),(λZ ⟨r,hr,e⟩=>absurd e (no r hr)),(λZ Z y e Z=>k),λZ Z L ⟨r,hr,e,_⟩=>absurd e (ny r hr)]]]]
 |full hn ht hz no hL hP =>
  let#[f,c,d]:=hn.tyl (K:=K) (H:=H);let hb:=h.bnm hL;erw[st,C,P,X,_,_,_,_,J,h,f,c,(λz=>absurd z d),λn e Z=>by cases e;erw[hn.2,.inr #[_,_,J,ht,.inr #[_,J,(λy e=>(hb y e).choose_spec.2.2),(λz=>absurd z ()),(λZ ⟨r,hr,e⟩=>absurd e (no r hr)),(λZ Z y e ny=>let ⟨r,hr,er,_⟩:=hb y e;absurd er (ny r hr)),λZ Z L Z=>#[λZ=>k,λz=>absurd z ()]]]]]
def Sto.put(h:Sto K a H st C P X){b:Str}{tx:qa}(hb:okN b)(htx:ν H tx ts C.w)(hL:ToD P x L)(hno:∀q,q∈P->q.nm≠b)(hP:P.length<60)
  (k:∀Y H',Sto K a H' st C (P++[#[b,x,L,ts]]) Y->Gx X H H' Y->Q .non H'):ylz K a [.ref st,.str b,.ref tx,baV x] H Q E:=by have t:=h.cf;let o:=htx.z;let#[j,g,i]:=hb.tyl (K:=K) (H:=H);let f:=h.bnm hL;erw[st,C,P,X,_,_,_,_,J,h,j,g,(λz=>absurd z i),λn e Z=>?_];cases e;erw[hb.2,.inr #[_,_,J,#[htx.l,htx.s,()],.inr #[_,J,(λy e=>(f y e).choose_spec.2.2),(λz=>absurd z ()),(λZ ⟨r,c,e⟩=>absurd e (hno r c)),(λZ Z y e m=>let ⟨r,c,er,_⟩:=f y e;absurd er (m r c)),λZ Z p d=>#[λz=>absurd z (),λZ=>#[o,?_]]]]];rwa[ToD.uniq h.nd d hL,k]
end
end
mutual
#synth yl1 ["self","name","data","base","chain","own"] ["self","name","data","base"] vc7
#synth ∀(K:xy)(a:Ads),∀(st dt:qa)(C:Cf)(P:qj Pd)(X:Sx)(b:Str)(x:Υ)(L:Η)(ts bs:Ο)(_:vs=[.ref st,.str b,.ref dt,baV x])(_:Sto K a H st C P X)(_:okN b)(_:H dt\((Ð C.n C.kd C.ps (ù (L.map (·.2))) ts++bs).map V.int))(_:¬X.f dt)(_:Byt bs)(_:(Ð C.n C.kd C.ps (ù (L.map (·.2))) ts++bs).length<=12000)(_:Sgs ts)(_:ts.length<=C.w)(_:(∀q,q∈P->q.nm≠b))(_:ToD P x L)(_:(P.length<60->∀Y H',Sto K a H' st C (P++[#[b,x,L,ts]]) Y->Gx X H H' Y->Q (.int ((Ð C.n C.kd C.ps (ù (L.map (·.2))) ts).length:Nat)) H'))(_:(P.length=60->∀H',yu H H'->E (.ref a.Ae) none H')),ytg
def yzm:'e' 13 a.Q5 a.Ta ["self","name","data","base"] (ytg K a):=by
 exists T.Mw.F.okE,yl1,G;let#[g,dt,C,P,X,b,x,L',ts,bs,J,a3,a2,aq,ah,ay,aw,ae,aN,ac,a1,kQ,kE]:=h;let aE:=zh a2.1
 have ao:∀y,x=some y->nmS y=true/\y.length<=100000:=λy e=>by
  subst e;let#[r,G,e,_]:=a1;let h1:=(a3.nm r G).1;rw[e]at h1;have:=zh h1;erw[h1,()]
 let aL:=a1.len a3.pw;let#[ς,I,d,c,dc,p,cl,ct,lk,tp,Z,L,ks,U,hS,J,J]:=id a3;let hL:=Á.mp a1;have aD:(Z.map Pc.pd).length=Z.length:=bo _;let aC:=hS.pz.z;let aG:=hS.me;let ar:=hS.wm;let a5:=hS.mo1;erw[yi (yw (uz (yc0 T) G.m T.Fn vd (pav 1))) ?_,<-yi (yw (vi (pv 0) T.A1 T.Hm.m (yqq T) G.m T.Hm.B .nil vd (pac (pv 1) (pav 3)))) ?_,<-yi (pst 4 yl1.nd (vi (pv 0) T.A1 T.C1.m (yda T) G.m T.C1.B .nil vd (pav 3))) ?_,<-yi (vj (pv 0) (uu T.Cz (yc2 T) G.m J T.Cy T.Fm.B .nil vd (pa1 pfs)) J) ?_,<-yi (pst 5 yl1.nd (vi (pv 4) T.Ap T.Hj.m (yqt T) G.m T.Hj.B .nil vd (pac (pv 1) (pac (pv 2) (pa1 pfs))))) ?_,<-yi (vj (pv 0) (pv 4) J) ?_,<-yi (ybe (ő G) pfs (pv 1) (à T.J7 (yqn T) G.m J T.J0 T.Mr.B .nil vo (pac (pv 3) (pa1 (uh jb (pv 2) zf (ux (pv 5)))))) J) ?_];exists 4,2,yc (yp (pv 5));erw[.str b,"str",J,.str b,(λs e=>by cases e;omega),λaz H1 S1=>?_,λz=>by rw[show nmV (.str b)=nmS b from rfl,a2.1]at z;cases z]
 let aj:=hS.same S1;let a9:=aj.me;ext;erw[g,ς,d,_,_,_,C.n,C.kd,C.ps,C.w,Z,b,x,J,a9,aj.pz,ao,(λ⟨r,G,e⟩=>absurd e (ac _ (bw.mpr #[r,G,J]))),λa8=>#[λy e no=>?_,λL2 aK=>#[λz H2 S2=>kE () _ (S1.trans S2),λz H2 S2=>?_]]]
 .subst e;let#[r,G,e,_]:=hL;erw[absurd e (no r G)]
 let a4:=S1.trans S2;let ad:=hS.same a4;let aB:=ad.me;ext;erw[g,ς,I,d,c,dc,p,cl,ct,lk,tp,C.n,C.kd,C.ps,C.mo,C.w,Z,L,ks,U,x,L',J,ad,hL,λS a7 p' D v au U' H5 M g5 ax F=>?_];let u:=g5.ahead a4;let W:=M.me;let t:=M.nw g (.inl J);ext;intro c2 a0 nc an aH;have SQ:yu H5 (upd (upd H5 a0 (.own c2)) c2 (.ins a.A4 a0 [])):=λb o e=>by rwa[yn (yb e nc),yn (yb e an),e]
 erw[c2,a0,I,C.n,lk,tp,C.kd,C.ps,J,ya,SQ _ _ M.lo,M.n1,M.n6,M.row.same SQ,λp2 aI aO U2 HE F F BE F=>#[J,?_]];have SE:yu H5 HE:=λb o e=>BE _ _ (SQ _ _ e) (yb e nc);let af:=SE _ _ W;ext;have b6:But g HE (upd HE g (.ins a.A0 ς (wj (.ref I) (.int C.mo) (.ref d) (.ref c2)))):=But.upd;have i:upd HE g (.ins a.A0 ς (wj (.ref I) (.int C.mo) (.ref d) (.ref c2))) g∩a.A0 ς (wj (.ref I) (.int C.mo) (.ref d) (.ref c2)):=ya;generalize upd HE g (.ins a.A0 ς (wj (.ref I) (.int C.mo) (.ref d) (.ref c2)))=H6 at b6 i⊢;let aa:=(M.ch.same SE).but af t b6;let aJ:=aa.me
 have nW:∀{y:qa}{o:HO},H y=some o->¬(vgd d g c cl ct U I Z ks).f y->H6 y=some o/\¬StW S D v U' y:=λ{y o}e nf=>by
  let h1:=u.fr y o e λw=>nf (.inl (.inr w));erw[b6 _ _ (SE _ _ h1) λz=>nf (.inl (.inr (.inl z))),λw=>?_];rcases u.nw y (.inr w)with z|z
  .erw[nf (.inl (.inr z))]
  .rw[e]at z;cases z
 let#[O,R]:=nW aq ah;let hm:=ygr (L:=L') (w:=C.w) (λy hy=>(hL.sz hS.pz y hy).2) ar.2 ();ext;erw[S,a7,p',D,v,C.n,C.kd,C.ps,L',au,mOf L',U',dt,b,ts,bs,C.mo,J,aa,(),ae,O,λw=>R (.inr (.inr (.inr w))),ay,aw,(),a5,(),λq U7 H7 N as g7=>?_]
 have ak:¬StW S D v U7 g:=λw=>by
  rcases w with z|z
  .erw[t (.inl z)]
  .rcases g7.nw g z with z|z
   .erw[t (.inr z)]
   .rw[i]at z;cases z
 let a6:=g7.fr _ _ i λz=>t (.inr z);ext;have b8:But g H7 (upd H7 g (.ins a.A0 ς (wj (.ref I) (.int C.mo) (.ref d) (.ref S)))):=But.upd;have l:upd H7 g (.ins a.A0 ς (wj (.ref I) (.int C.mo) (.ref d) (.ref S))) g∩a.A0 ς (wj (.ref I) (.int C.mo) (.ref d) (.ref S)):=ya;generalize upd H7 g (.ins a.A0 ς (wj (.ref I) (.int C.mo) (.ref d) (.ref S)))=H8 at b8 l⊢;let al:=as.but a6 ak b8
 have g8:Go (ChW D v U') H5 H8 (ChW D v U7):=by
  erw[λy o e nw=>?_,λy w=>(g7.nw y w).imp id λe=>?_,λy o e=>?_]
  .by_cases z:y=g
   .rw[z]at e⊢;rw[W]at e;rw[l,<- e]
   .erw[b8 _ _ (g7.fr y o (b6 _ _ (SE _ _ e) z) nw) z]
  .cases e5:H5 y with
   |none=>rfl
   |some o =>
    by_cases z:y=g
    .rw[z,i]at e;cases e
    .rw[b6 _ _ (SE _ _ e5) z]at e;cases e
  .by_cases z:y=g
   .erw[_,by rwa[z,l]]
   .let#[o',e']:=g7.lv y o (b6 _ _ (SE _ _ e) z);erw[o',b8 _ _ e' z]
 let ap:=g8.fr _ _ M.pz.dk λz=>M.nw d (.inr (.inr (.inl J))) (.inr z);let ag:=b8 _ _ (g7.fr _ _ O λz=>R (.inr z)) (λz=>ah (by rwa[z,.inl (.inr (.inl J))]));ext;erw[Ŏ (SqL.of ag) λr hr0=>?_];rw[jm,<- List.map_take,List.take_left];exists hr0,H9,S9,hr9;ext;intro ob od j ai aF;have am:yu H9 (upd (upd H9 od (.own ob)) ob (.ins a.Ag od [])):=λb o e=>by rwa[yn (yb e j),yn (yb e ai),e]
 erw[ob,od,baV x,.ref r,J,ya,λHA ab BA=>#[J,?_]];have SA:yu H9 HA:=λy o e=>BA _ _ (am _ _ e) (yb e j);let aA:=SA _ _ (S9 _ _ l);ext;erw[d,_,J,ym4.k (k:=.inr b) (SA _ _ (S9 _ _ ap)) (vv (by unfold pcs;rw[bo];omega)),?_];rw[ì _ (ymr a8)];let g9:=g8.same S9;let#[z1,z2]:=M.put (x:=x) (al.same S9) g9 (g8.free hr0) hr9 j SA ab hL () ae () az a2.2 a8 ();have e8:pcs (Z++[#[b,x,L',ts,ob,od,r]])=pcs Z++[(.inr b,.ref ob)]:=by unfold pcs;rw[bA];rfl
 rw[e8]at z1 z2;ext;erw[kQ () _ _ #[ς,I,d,S,a7,p',D,v,lk,tp,_,_,_,U7,z1,by rw[bA];rfl,J] (Gx.of ((u.or (Y:=λy=>y=d)).trans z2) ((NK.refl.trans ax λF e=>a4.free e).app λq e=>?_) λq hq=>?_)]
 .cases e;refine u.free ?_
  cases e5:H5 q with
  |none=>rfl
  |some o =>
   by_cases z:q=g
   .rw[z,i]at N;cases N
   .rw[b6 _ _ (SE _ _ e5) z]at N;cases N
 .rcases bQ.mp hq with z|z
  .erw[.inl z]
  .rw[bO.mp z];erw[.inr #[u.free (g9.free j),u.free (g8.free hr0)]]
theorem ydh.get{H:Hp}:∀{L:Η}{ks:Τ},ydh H U L ks->∀{j:Nat}(hj:j<L.length),∃k,ks[j]?=some k/\(k=.non\/∃q,k=.ref q/\H q\(L[j].2.map V.int)/\¬U q)
 |[],_,_,j,hj=>absurd hj (bS j)
 |x::r,_,⟨k,ks',e,z,h⟩,0,hj=>#[k,by rw[e];rfl,z]
 |x::r,_,⟨k,ks',e,z,h⟩,j+1,hj=>by
  let#[b,c,a]:=h.get (Nat.lt_of_succ_lt_succ hj);erw[b,by rwa[e,List.getElem?_cons_succ,c],a]
#synth yrf ["self","name","links"] ["self","name"] vc1
#synth ∀(K:xy)(a:Ads),∀(st ds ll d c dc p cl ct:qa)(lk tp:Λ)(n:Nat)(kd:Ν)(ps:Κ)(mo w:Nat)(P:qj Pc)(L:Η)(ks:Τ)(U:Μ)(x:Υ)(L':Η)(_:vs=[.ref st,baV x])(_:ψ K a H st ds ll d c dc p cl ct lk tp n kd ps mo w P L ks U)(_:To P x L')(_:∀(c' dc' p' cl' ct':qa)(L2:Η)(ks':Τ)(U':Μ)(r:qa)(cx:Λ)(H1 H':Hp),ψ K a H1 st ds ll d c' dc' p' cl' ct' lk tp n kd ps mo w P L2 ks' U'->Go (StO st c cl ct U) H H1 (StO st c' cl' ct' U')->NK H ks ks'->yu H1 H'->H1 r=none->H' r\(refs cx L'.length)->(∀i,i<L'.length->H1 (cx i)=none/\cx i≠r/\H' (cx i)\((txi L' i).map V.int))->Q (.ref r) H'),yhu
def yrj:'e' 13 a.Qb a.Tg ["self","name"] (yhu K a):=by
 exists T.Ho.F.okE,yrf,hr;let#[N,ds,ll,d,c,dc,p,cl,ct,lk,tp,n,kd,ps,mo,w,P,L,ks,U,x,g,J,W,hL,k]:=h;let af:=W.me;erw[yi (pst 2 yrf.nd (xl (pv 0) T.A1 T.Hn.m (ysh T) hr.m T.Hn.B .nil vo (pav 1))) ?_,<-yi (zn (vq (yt (yx8 hr.units) uq (uh jb (jj pfs J) zf (ux (pcB yq T.Af (pav 2)))) (by with_unfolding_all rfl)) (yc (vj (pv 0) (uu T.Cz (yc2 T) hr.m J T.Cy T.Fm.B .nil vd (pa1 pfs)) J)) yy)) ?_,<-yi (zn (vq (yt (Ō hr.units) (uh jb (jj pfs J) zf (ux (pcB yq T.Af (pav 2)))) (pv 2) (ve _)) (yc (yw (vi (pv 0) T.A1 T.C1.m (yda T) hr.m T.C1.B .nil vd (pav 1)))) yy)) ?_];exists 2,1,yc (yp (wx (js:=[]) (ys:=[]) J (xr (uh jb (jj pfs J) zf (ux (pcB yq T.Af (pav 2))))) (λC s2 H2 fp=>(pcT (r:=yll K) wk T.At (pav 0))) J J (hyc:=yv) (hrel:=yv)));erw[N,ds,d,_,_,_,n,kd,ps,w,P,x,g,J,af,W.pz,hL,λl H1 ap ac S1=>?_];let aA:=S1 _ _ af;let a8:=W.same S1;let aL:=a8.ch.me;let aB:=a8.ch.hl;let ab:=a8.ch.ht;let aC:=To.len W.pz hL;ext;erw[λσ2 G=>∃(c2 X p2 M O:qa)(I:Τ)(U2:Μ)(L2:Η),σ2=[some (.ref N),some (baV x),some (.ref l)]/\ψ K a G N ds ll d c2 X p2 M O lk tp n kd ps mo w P L2 I U2/\Go (StO N c cl ct U) H G (StO N c2 M O U2)/\NK H ks I/\V.non∉I.take g.length/\G l\(nmL g)/\¬StO N c2 M O U2 l,?_,?_]
 .ext;erw[ur (SqL.of ac) ?_,←Ŏ (SqL.of ab) λq hq0=>?_];rw[á,jm];exists hq0,H2,S2,e2;let a0:=S1.trans S2;let v:=W.same a0;let R:=v.me;let t:=S2 _ _ ac;erw[q,_,J,J,SqL.of e2,λz hz=>(W.ch.tx.mem z (cH hz)).imp id λ⟨q,ys,e,hq,_⟩=>#[q,ys,e,SqL.of (a0 _ _ hq)],?_];by_cases he:(ks.take g.length).any isN=true
  .rw[he];erw[true,J,Ĥ ?_];ext;intro c' ς nc ag aF;have SQ:yu H2 (upd (upd H2 ς (.own c')) c' (.ins a.A4 ς [])):=λb o e=>by rw[yn (yb e nc),yn (yb e ag)];exact e
   erw[c',ς,ll,n,lk,tp,kd,ps,J,ya,SQ _ _ v.lo,v.n1,v.n6,v.row.same SQ,λp' a7 a4 U' HE av am BE B=>#[J,?_]];let#[hR,gR,SE,hN]:=v.re nc ag av am BE;let aD:=SE _ _ R;have a9:l≠N:=λz=>by rw[z,R]at t;cases t
   ext;erw[c',ς,p',a7,a4,[],U',[],J,hR,gR.ahead a0,.nil,'s',yg a9 (SE _ _ t),λz=>?_]
   rcases z with z|z
   .erw[a9 z]
   .rw[hN l z]at t;cases t
  .rw[Bool.eq_false_iff.mpr he];erw[false,J,j9 ?_,<-c,dc,p,cl,ct,ks,U,L,J,v,Go.refl.same a0,.refl,λz=>he (c7.mpr #[_,z,J]),t,λz=>?_];let#[o,e]:=W.lvO l z;rw[ap]at e;cases e
 .rintro σ2 G ⟨c2,X,p2,M,O,I,U2,L2,rfl,hG,go,ak,ad,ae,as⟩;let aE:=hG.me;let aJ:=hG.ch.me;let al:=hG.ch.hl;ext;exists λσ2 F=>∃(c3 a5 p3 Y a1:qa)(f:Τ)(U3:Μ)(L3:Η),σ2=[some (.ref N),some (baV x),some (.ref l)]/\ψ K a F N ds ll d c3 a5 p3 Y a1 lk tp n kd ps mo w P L3 f U3/\Go (StO N c cl ct U) H F (StO N c3 Y a1 U3)/\NK H ks f/\V.non∉f.take g.length/\g=L3.take g.length/\F l\(nmL g),?_,?_
  .ext;erw[ur (SqL.of ae) ?_,←Ŏ (SqL.of al) λq hq0=>?_];rw[á,jm,ğ];exists hq0,G2,S2,e2;let a6:=hG.same S2;let R:=a6.me;let t:=S2 _ _ ae;let#[y,hy]:=hG.way;let a3:=t;rw[Ć]at e2 a3;ext;erw[ŭ _ _ (λz hz=>hy.ok W.pz z (by let#[u,hu,J]:=bw.mp hz;erw[bw.mpr #[u,cH hu,J]])) (hL.ok W.pz) (SqL.of e2) (SqL.of a3) ?_];by_cases he:(L2.take g.length).map (·.1)=g.map (·.1)
   .rw[bz he];erw[false,J,j9 ?_,<-c2,X,p2,M,O,I,U2,L2,J,a6,go.same S2,ak,ad,To.ahead W.pz.nd W.pz.wf hL hy (by rwa[ğ,(yp3 he).symm]),t]
   .rw[bD he];erw[true,J,Ĥ ?_,←N,ds,ll,d,c2,X,p2,M,O,lk,tp,n,kd,ps,mo,w,P,L2,I,U2,x,g,J,a6,hL,λc' ς p' a7 a4 aw U' F hC Z aq hn=>?_,←c',ς,p',a7,a4,aw,U',g,J,hC,(go.same S2).trans Z,ak.trans aq (λq e=>go.free (S2.free e)),λz=>ad (hn (cH z)),(cq).symm,Z.fr _ _ t as]
  .rintro σ2 F ⟨c3,a5,p3,Y,a1,f,U3,L3,rfl,hF,ay,au,ao,aa,ar⟩;let az:=hF.me;let aH:=hF.ch.me;let an:=hF.ch.ht
   have aG:g.length<=L3.length:=by
    let e:=congrArg List.length aa;rw[bT]at e;omega
   ext;erw[ur (SqL.of ar) ?_,←Ŏ (SqL.of an) λq hq0=>?_];rw[á,jm];let S1:=yz (o:=(HO.lst (f.take g.length))) hq0;have e1:upd F q (HO.lst (f.take g.length)) q=some (HO.lst (f.take g.length)):=ya;generalize upd F q (HO.lst (f.take g.length))=F1 at S1 e1⊢;let aK:=hF.ch.tx.len;have a2:(f.take g.length).length=g.length:=by rw[bT];omega
   let aj:=hF.same S1;erw[q,J,#[_,SqL.of e1],λD hD=>?_];refine j4 (K:=K) (xs:=f.take g.length) (λi G=>∃cx:Λ,G D\(refs cx i)/\(∀j,j<i->F1 (cx j)=none/\G (cx j)\((txi g j).map V.int)/\cx j≠D)/\yu F1 G)
    #[λB=>0,ya,λj hj=>absurd hj (bS j),yz hD] (λi G B ⟨_,_,_,S⟩=>SqL.of (S _ _ e1)) (λi y G hy hi z=>?_) (λG z=>?_)
   .let#[cx,gD,Z,S]:=z;rw[a2]at hi;let#[k',ek,hk]:=aj.ch.tx.get (j:=i) ();rw[List.getElem?_take,if_pos hi,ek]at hy;obtain rfl:k'=y:=by cases hy;rfl
    rcases hk with z|⟨q2,rfl,ah,_⟩
    .erw[absurd ?_ ao];rwa[<- z,bM (i:=i) (by rwa[List.getElem?_take,if_pos hi,ek])]
    have et:L3[i].2=txi g i:=by
     let e:=congrArg (λl=>l[i]?) aa;simp only[List.getElem?_take]at e;rw[if_pos hi]at e;unfold txi;rw[cX,bB,e,bp ()];rfl
    rw[et]at ah;ext;erw[q2,_,J,.inl (SqL.of (S _ _ ah)),λc hc0=>?_];have nc:c≠D:=(yb gD hc0).symm;exists hc0,G2,S2,hc2;erw[xu (n:=(f.take g.length).length) (S2 _ _ gD) (vv (by rw[wb];omega)) () ?_,<-upN cx i c,?_,λj hj=>?_,λb o e=>yg (yb e hD) (S2 _ _ (S b o e))]
    .rw[ya,ja,xv]
     congr 3
     erw[zy λj hj=>(xp hj).symm]
    .by_cases z:j=i
     .rw[z,xv];erw[S.free hc0,yg nc hc2,nc]
     .have ai:j<i:=()
      rw[xp ai];let#[g1,g2,g3]:=Z j ai;erw[g1,yg g3 (S2 _ _ g2),g3]
   .let#[cx,gD,Z,S]:=z;rw[a2]at gD Z;erw[k c3 a5 p3 Y a1 L3 f U3 D cx F1 G aj (ay.same S1) au S hD gD λi hi=>#[(Z i hi).1,(Z i hi).2.2,(Z i hi).2.1]]
#synth va5 ["self","name"] vf5
inductive æ(K:xy)(a:Ads)(vs:Τ)(H:Hp)(Q:VK)(E:XK):Prop
 | mk(st ds ll d c dc p cl ct:qa)(lk tp:Λ)(n:Nat)(kd:Ν)(ps:Κ)(mo w:Nat)(P:qj Pc)(L:Η)(ks:Τ)(U:Μ)(x:V)(nt:String)(_:vs=[.ref st,x])(_:ψ K a H st ds ll d c dc p cl ct lk tp n kd ps mo w P L ks U)(_:xf K H x (.type nt))(_:(∀s,x=.str s->s.length<=100000))(_:(nmV x=false->∀H',yu H H'->E (.ref a.A2) none H'))(_:(∀b,x=.str b->nmS b=true->(∀q,q∈P->q.nm≠b)->∀H',yu H H'->E (.ref a.A3) none H'))(_:(∀r,r∈P->x=.str r.nm ->
 ∀(c' dc' p' cl' ct':qa)(L2:Η)(ks':Τ)(U':Μ)(q:qa)(H1 H':Hp),ψ K a H1 st ds ll d c' dc' p' cl' ct' lk tp n kd ps mo w P L2 ks' U'->Go (StO st c cl ct U) H H1 (StO st c' cl' ct' U')->NK H ks ks'->yu H1 H'->H1 q=none->H' q\(r.tx.map V.int)->Q (.ref q) H'))
def yrl:'e' 14 a.Qc a.Th ["self","name"] (æ K a):=by
 exists T.Hq.F.okE,va5,S;let#[C,y,Z,d,c,N,p,Y,ct,M,W,n,k,q,ς,w,P,L,O,U,x,X,J,D,ty,hz,k1,k2,k3]:=h;let o:=D.me;exists 2,0,yh (yw (vi (pv 0) T.A1 T.Bh.m (Ů T) S.m T.Bh.B .nil vd (pav 1))) (yc (yp (pix wq (vi (pv 0) T.A1 T.Ho.m (yrj T) S.m T.Ho.B .nil vd (pav 1)) (ym2 yc3 yd))));erw[C,y,d,_,_,_,n,k,q,w,P,x,X,J,o,D.pz,ty,hz,k1,k2,λr b e hb H1 G=>?_];subst e;let f:=D.same G;let R:=f.me;ext;erw[C,y,Z,d,c,N,p,Y,ct,M,W,n,k,q,ς,w,P,L,O,U,some r.nm,r.path++[(r.nm,r.tx)],J,f,#[r,b,J,J],λc' I p' z g L2 i U' l cx HB H2 h2 g2 nk SB a0 t j=>?_];ext;let#[f1,f2,f3]:=j r.path.length (by rw[bq,cz];omega);erw[zq (v:=.ref (cx r.path.length)) (SqL.of t) ?_ ?_]
 .rw[bq,cz,ja];erw[yfv _ _]
 .ext;erw[k3 r b J c' I p' z g L2 i U' _ HB H2 h2 (g2.ahead G) (NK.refl.trans nk λF e=>G.free e) SB f1 ?_];rw[f3];unfold txi;simp
def Sto.textof1{H:Hp}{C:Cf}{P:qj Pd}{X:Sx}{Q:VK}{E:XK}(h:Sto K a H st C P X){b:Str}(hb:nmS b=true)(k1:(∀q,q∈P->q.nm≠b)->∀H',yu H H'->E (.ref a.A3) none H')
  (k2:∀r,r∈P->r.nm=b->∀Y q H1 H',Sto K a H1 st C P Y->Gx X H H1 Y->yu H1 H'->H1 q=none->H' q\(r.tx.map V.int)->Q (.ref q) H'):æ K a [.ref st,.str b] H Q E:=by
 let#[v,B,d,c,G,p,T,ct,t,A,I,R,ς,U,s,J,J]:=h;let Z:=zh hb;erw[st,v,B,d,c,G,p,T,ct,t,A,C.n,C.kd,C.ps,C.mo,C.w,I,R,ς,U,.str b,"str",J,s,.str _,(λx e=>by cases e;omega),(λz=>by rw[show nmV (.str b)=nmS b from rfl,hb]at z;cases z),(λb' e W k=>?_),λr M e F o p' m i L2 j L q H1 H' D g O S l f=>?_]
 .cases e;erw[k1 λq f=>?_];let#[u,N,J]:=bw.mp f;erw[k u N]
 .cases e;erw[k2 r.pd (bw.mpr #[r,M,J]) J _ q H1 H' #[v,B,d,F,o,p',m,i,t,A,_,_,j,L,D,J,J] (Gx.of (g.or (Y:=λy=>y=d)) O λq f=>.inl f) S l f]
def Sto.textof{H:Hp}{C:Cf}{P:qj Pd}{X:Sx}{Q:VK}{E:XK}(h:Sto K a H st C P X){b:Str}(hb:nmS b=true)(k1:(∀q,q∈P->q.nm≠b)->∀H',yu H H'->E (.ref a.A3) none H')
  (k2:∀r,r∈P->r.nm=b->∀Y q H',Sto K a H' st C P Y->Gx X H H' Y->H q=none->Kf H' Y q (.lst (r.tx.map V.int))->Q (.ref q) H'):æ K a [.ref st,.str b] H Q E :=
 h.textof1 hb k1 λr i e Y q j H' d g1 S c f=>k2 r i e Y q H' (d.same S) (g1.same S) (g1.g.free c) (Kf.new d c f)
def Sto.textE{H:Hp}{C:Cf}{P:qj Pd}{X:Sx}{Q:VK}{E:XK}(h:Sto K a H st C P X){v:V}(ty:xf K H v (.type nt))(hl:∀s,v=.str s->s.length<=100000)(np:Np a P v cc)(k:∀H',yu H H'->E (.ref cc) none H'):æ K a [.ref st,v] H Q E:=by let#[z,l,d,c,o,p,b,x,j,u,t,B,y,U,s,J,J]:=h;let#[g,A,i]:=np.e (λq f=>(s.pz.nm q f).1) k;erw[st,z,l,d,c,o,p,b,x,j,u,C.n,C.kd,C.ps,C.mo,C.w,t,B,y,U,v,nt,J,s,ty,hl,g,A,λr m e=>(i r m e).elim]
#synth yz9 ["self","name"] ve3
#synth ∀(K:xy)(a:Ads),∀(st ds d:qa)(vl vm vc:V)(n:Nat)(kd:Ν)(ps:Κ)(w:Nat)(P:qj Pc)(x:V)(nt:String)(_:vs=[.ref st,x])(_:H st∩a.A0 ds (wj vl vm (.ref d) vc))(_:ŷ a H d n kd ps w P)(_:xf K H x (.type nt))(_:(∀s,x=.str s->s.length<=100000))(_:(nmV x=false->∀H',yu H H'->E (.ref a.A2) none H'))(_:(∀b,x=.str b->nmS b=true->(∀q,q∈P->q.nm≠b)->∀H',yu H H'->E (.ref a.A3) none H'))(_:(∀r,r∈P->x=.str r.nm->nmS r.nm=true->∀l H',H l=none->H' l\((r.by n kd ps).map V.int)->yu H H'->Q (.ref l) H')),Ă
def yl6:'e' 4 a.Qd a.Ti ["self","name"] (Ă K a):=by exists T.Ef.F.okE,yz9,N;let#[u,p,d,q,z,v,n,k,o,w,P,x,t,J,f,y,O,L,C,R,I]:=h;exists 2,0,yc (yp (pcT wk T.At (pa1 (jj (vi (pv 0) T.A1 T.Bh.m (Ů T) N.m T.Bh.B .nil vd (pav 1)) J))));erw[u,p,d,q,z,v,n,k,o,w,P,x,t,J,f,y,O,L,C,R,λr c e D S j=>?_];let#[ς,i]:=(y.same j).ob r c;ext;erw[r.dl,_,J,.inl (SqL.of i),λl b=>?_,<-I r c e D l _ (j.free b) ya (j.trans (yz b))]
def Sto.bytesof{H:Hp}{C:Cf}{P:qj Pd}{X:Sx}{Q:VK}{E:XK}(h:Sto K a H st C P X){b:Str}(hb:nmS b=true)(k1:(∀q,q∈P->q.nm≠b)->∀H',yu H H'->E (.ref a.A3) none H')
  (k2:∀r,r∈P->r.nm=b->∀l H',H l=none->H' l\((r.by C).map V.int)->yu H H'->Q (.ref l) H'):Ă K a [.ref st,.str b] H Q E:=by
 let#[v,B,d,c,D,p,y,ς,A,I,m,L,G,U,s,J,J]:=h;let g:=zh hb;erw[st,v,d,_,_,_,C.n,C.kd,C.ps,C.w,m,.str b,"str",J,s.me,s.pz,.str _,(λx e=>by cases e;omega),(λz=>by rw[show nmV (.str b)=nmS b from rfl,hb]at z;cases z),(λF e Z f=>?_),λr j e Z l H' o k S=>?_]
 .cases e;erw[k1 λq i=>?_];let#[u,t,J]:=bw.mp i;erw[f u t]
 .cases e;erw[k2 r.pd (bw.mpr #[r,j,J]) J l H' o k S]
def Sto.bytesE{H:Hp}{C:Cf}{P:qj Pd}{X:Sx}{Q:VK}{E:XK}(h:Sto K a H st C P X){v:V}(ty:xf K H v (.type nt))(hl:∀s,v=.str s->s.length<=100000)(np:Np a P v cc)(k:∀H',yu H H'->E (.ref cc) none H'):Ă K a [.ref st,v] H Q E:=by let#[l,u,d,c,x,p,o,z,t,y,j,B,A,U,s,J,J]:=h;let#[f,m,g]:=np.e (λq b=>(s.pz.nm q b).1) k;erw[st,l,d,_,_,_,C.n,C.kd,C.ps,C.w,j,v,nt,J,s.me,s.pz,ty,hl,f,m,λr i e=>(g r i e).elim]
#synth yz3 ["self","name"] vdc
#synth ∀(K:xy)(a:Ads),∀(st ds d:qa)(vl vm vc:V)(n:Nat)(kd:Ν)(ps:Κ)(w:Nat)(P:qj Pc)(x:V)(nt:String)(_:vs=[.ref st,x])(_:H st∩a.A0 ds (wj vl vm (.ref d) vc))(_:ŷ a H d n kd ps w P)(_:xf K H x (.type nt))(_:(∀s,x=.str s->s.length<=100000))(_:(nmV x=false->∀H',yu H H'->E (.ref a.A2) none H'))(_:(∀b,x=.str b->nmS b=true->(∀q,q∈P->q.nm≠b)->∀H',yu H H'->E (.ref a.A3) none H'))(_:(∀r,r∈P->x=.str r.nm->nmS r.nm=true->∀H',yu H H'->Q (baV r.bs) H')),ł
def ygt:'e' 4 a.Qe a.Tj ["self","name"] (ł K a):=by exists T.Cw.F.okE,yz3,ς;let#[o,j,d,k,u,p,n,g,i,w,P,x,l,J,c,q,L,G,v,M,C]:=h;exists 2,0,yc (yp (jj (vi (pv 0) T.A1 T.Bh.m (Ů T) ς.m T.Bh.B .nil vd (pav 1)) J));erw[o,j,d,k,u,p,n,g,i,w,P,x,l,J,c,q,L,G,v,M,λr b e y N t=>?_];let D:=((q.same t).ob r b).1;ext;erw[C r b e y _ t]
def Sto.baseof{H:Hp}{C:Cf}{P:qj Pd}{X:Sx}{Q:VK}{E:XK}(h:Sto K a H st C P X){b:Str}(hb:nmS b=true)(k1:(∀q,q∈P->q.nm≠b)->∀H',yu H H'->E (.ref a.A3) none H')
  (k2:∀r,r∈P->r.nm=b->∀H',yu H H'->Q (baV r.bs) H'):ł K a [.ref st,.str b] H Q E:=by
 let#[m,v,d,c,y,p,o,F,t,A,k,G,D,U,s,J,J]:=h;let g:=zh hb;erw[st,m,d,_,_,_,C.n,C.kd,C.ps,C.w,k,.str b,"str",J,s.me,s.pz,.str _,(λx e=>by cases e;omega),(λz=>by rw[show nmV (.str b)=nmS b from rfl,hb]at z;cases z),(λB e Z f=>?_),λr j e Z H' S=>?_]
 .cases e;erw[k1 λq i=>?_];let#[u,l,J]:=bw.mp i;erw[f u l]
 .cases e;erw[k2 r.pd (bw.mpr #[r,j,J]) J H' S]
def Sto.baseE{H:Hp}{C:Cf}{P:qj Pd}{X:Sx}{Q:VK}{E:XK}(h:Sto K a H st C P X){v:V}(ty:xf K H v (.type nt))(hl:∀s,v=.str s->s.length<=100000)(np:Np a P v cc)(k:∀H',yu H H'->E (.ref cc) none H'):ł K a [.ref st,v] H Q E:=by let#[l,u,d,c,x,p,o,z,t,y,j,B,A,U,s,J,J]:=h;let#[f,m,g]:=np.e (λq b=>(s.pz.nm q b).1) k;erw[st,l,d,_,_,_,C.n,C.kd,C.ps,C.w,j,v,nt,J,s.me,s.pz,ty,hl,f,m,λr i e=>(g r i e).elim]
#synth vaz ["self","name"] vem
inductive ď(K:xy)(a:Ads)(vs:Τ)(H:Hp)(Q:VK)(E:XK):Prop
 | mk(st ds ll d c dc p cl ct:qa)(lk tp:Λ)(n:Nat)(kd:Ν)(ps:Κ)(mo w:Nat)(P:qj Pc)(L:Η)(ks:Τ)(U:Μ)(x:V)(nt:String)(_:vs=[.ref st,x])(_:ψ K a H st ds ll d c dc p cl ct lk tp n kd ps mo w P L ks U)(_:xf K H x (.type nt))(_:(∀s,x=.str s->s.length<=100000))(_:(nmV x=false->∀H',yu H H'->E (.ref a.A2) none H'))(_:(∀b,x=.str b->nmS b=true->(∀q,q∈P->q.nm≠b)->∀H',yu H H'->E (.ref a.A3) none H'))(_:(∀r,r∈P->x=.str r.nm ->
 ∀(c' dc' p' cl' ct':qa)(L2:Η)(ks':Τ)(U':Μ)(q:qa)(cx:Λ)(H1 H':Hp),ψ K a H1 st ds ll d c' dc' p' cl' ct' lk tp n kd ps mo w P L2 ks' U'->Go (StO st c cl ct U) H H1 (StO st c' cl' ct' U')->NK H ks ks'->yu H1 H'->H1 q=none->H' q\(refs cx r.path.length)->(∀i,i<r.path.length->H1 (cx i)=none/\cx i≠q/\H' (cx i)\((txi r.path i).map V.int))->Q (.ref q) H'))
def yx4:'e' 14 a.Qf a.Tk ["self","name"] (ď K a):=by exists T.Mx.F.okE,vaz,W;let#[C,y,ll,d,c,N,p,Z,ct,M,X,n,o,t,ς,w,P,L,O,U,x,Y,J,D,ty,hz,k1,k2,k3]:=h;let q:=D.me;exists 2,0,yc (yp (vi (pv 0) T.A1 T.Ho.m (yrj T) W.m T.Ho.B .nil vd (pa1 (jj (vi (pv 0) T.A1 T.Bh.m (Ů T) W.m T.Bh.B .nil vd (pav 1)) J))));erw[C,y,d,_,_,_,n,o,t,w,P,x,Y,J,q,D.pz,ty,hz,k1,k2,λr f e hb H1 G=>?_];subst e;let b:=D.same G;let S:=b.me;let R:=(b.pz.ob r f).1;ext;erw[C,y,ll,d,c,N,p,Z,ct,M,X,n,o,t,ς,w,P,L,O,U,r.bs,r.path,J,b,b.pz.wf r f,λc' I p' z g L2 i U' l cx HB H2 h2 g2 nk SB j u k=>?_,<-k3 r f J c' I p' z g L2 i U' l cx HB H2 h2 (g2.ahead G) (NK.refl.trans nk λF e=>G.free e) SB j u k]
def Sto.learnE{H:Hp}{C:Cf}{P:qj Pd}{X:Sx}{Q:VK}{E:XK}(h:Sto K a H st C P X){v:V}(ty:xf K H v (.type nt))(hl:∀s,v=.str s->s.length<=100000)(np:Np a P v cc)(k:∀H',yu H H'->E (.ref cc) none H'):ď K a [.ref st,v] H Q E:=by let#[z,l,d,c,o,p,b,x,j,u,t,B,y,U,s,J,J]:=h;let#[g,A,i]:=np.e (λq f=>(s.pz.nm q f).1) k;erw[st,z,l,d,c,o,p,b,x,j,u,C.n,C.kd,C.ps,C.mo,C.w,t,B,y,U,v,nt,J,s,ty,hl,g,A,λr m e=>(i r m e).elim]
def va6(x:Υ)(b:Str):vip (baV x) (.str b)=true/\decide (baV x=.str b)=decide (x=some b):=by
 cases x with
 |none=>erw[J,by rw[bD (λz=>nomatch z),bD (λz=>nomatch z)]]
 |some y =>
  erw[J,?_];by_cases e:y=b
  .rw[bz (by rw[e];rfl),bz (by rw[e])]
  .rw[bD (λz=>e (by cases z;rfl)),bD (λz=>e (by cases z;rfl))]
#synth yzo ["self","name"] vfh
inductive yet(K:xy)(a:Ads)(vs:Τ)(H:Hp)(Q:VK)(E:XK):Prop
 | mk(st ds ll d c dc p cl ct:qa)(lk tp:Λ)(n:Nat)(kd:Ν)(ps:Κ)(mo w:Nat)(P:qj Pc)(L:Η)(ks:Τ)(U:Μ)(x:V)(nt:String)(_:vs=[.ref st,x])(_:ψ K a H st ds ll d c dc p cl ct lk tp n kd ps mo w P L ks U)(_:xf K H x (.type nt))(_:(∀s,x=.str s->s.length<=100000))(_:(nmV x=false->∀H',yu H H'->E (.ref a.A2) none H'))(_:(∀b,x=.str b->nmS b=true->(∀q,q∈P->q.nm≠b)->∀H',yu H H'->E (.ref a.A3) none H'))(_:(∀r,r∈P->x=.str r.nm->(∃q,q∈P/\q.bs=some r.nm)->∀H',yu H H'->E (.ref a.Al) none H'))(_:(∀r,r∈P->x=.str r.nm->(∀q,q∈P->q.bs≠some r.nm) ->
 ∀(c' dc' p' cl' ct':qa)(U':Μ)(H':Hp),ψ K a H' st ds ll d c' dc' p' cl' ct' lk tp n kd ps mo w (P.filter λq=>decide (q.nm≠r.nm)) [] [] U'->Go (λy=>y=d\/StO st c cl ct U y) H H' (λy=>y=d\/StO st c' cl' ct' U' y)->Q .non H'))
def yp6:'e' 10 a.Qg a.Tl ["self","name"] (yet K a):=by
 exists T.Hr.F.okE,yzo,hr;let#[st,ds,ll,d,c,dc,p,cl,ct,lk,tp,n,kd,ps,mo,w,P,L,ks,U,x,nt,J,hS,ty,hz,k1,k2,k3,k4]:=h;let a2:=hS.me;exists 2,0,yh (yw (vi (pv 0) T.A1 T.Bh.m (Ů T) hr.m T.Bh.B .nil vd (pav 1))) (yh (vq (xm (pcB (ynb J) T.Vv (pa1 (yt5 (wx (js:=[1]) (ys:=["name"]) J (yvy pfs) (λC s2 H2 fp=>(ud xj (yfc (K:=K) J (pv 0) J) (pv 1) (ve _))) J J (hyc:=(all_cons J yv)) (hrel:=(all_cons J yv))))))) (yc (xg J T.J8 T.Oa (pa1 yr))) yy) (yh (yw (ync pfs (pv 1) #[J,J,J,J])) (yc (vj (pv 0) (uu T.Cz (yc2 T) hr.m J T.Cy T.Fm.B .nil vd (pa1 pfs)) J))));erw[st,ds,d,_,_,_,n,kd,ps,w,P,x,nt,J,a2,hS.pz,ty,hz,k1,k2,λr M e hb H1 S1=>?_];subst e;let g:=hS.same S1;let a7:=g.me;ext;let j:=g.pz.dk;erw[d,pcs P,J,j,λo D hD=>?_];have W:(pcs P).length=P.length:=bo _;let ab:=g.pz.z;have a1:D≠d:=λz=>by rw[z,ya]at hD;cases hD
 erw[yh1 (λi G=>G D\((P.take i).map λq=>V.bl (decide (q.bs=some r.nm)))/\yu (upd H1 d (.frz o (.dK (pcs P)))) G) #[ya,yz hD] (λi G F z=>z.2 _ _ ya) (λi kk v G I hi z=>?_) (λG z=>?_)]
 .let#[gD,S]:=z;rw[W]at hi;have N:P[i]?=some P[i]:=bp hi;unfold pcs at I;rw[bB,N]at I;obtain rfl:v=.ref (P[i]).ob:=by cases I;rfl
  let l:=(g.pz.ob _ (bW hi)).1;let a9:=S _ _ (yg (λz=>by rw[z,j]at l;cases l) l);ext;let#[b1,b2]:=va6 (P[i]).bs r.nm;erw[b1,?_];rwa[b2,xu (n:=(pcs P).length) gD (vv (by rw[bo,bT];omega)) () #[?_,λy o e=>yg (yb e hD) (S _ _ e)]];rw[ya,bV hi,bA];rfl
 .let#[gD,S]:=z;rw[W,cq]at gD;exists d,o,.dK (pcs P),(λo u e=>by rw[j]at e;cases e),S _ _ ya,?_
  have S3:yu H1 (upd G d (.dK (pcs P))):=λy o' e=>by
   by_cases z:y=d
   .rw[z,ya];rw[z,j]at e;erw[e]
   .erw[yg z (S _ _ (yg z e))]
  have R:(upd G d (.dK (pcs P))) D\((P.map λq=>decide (q.bs=some r.nm)).map V.bl):=yg a1 (by rw[gD,cn];rfl);generalize upd G d (.dK (pcs P))=H3 at S3 R⊢;let f:=g.same S3;let a6:=f.me;ext;erw[D,_,J,SqL.of R,?_];by_cases hu:∃q,q∈P/\q.bs=some r.nm
  .have e:(P.map λq=>decide (q.bs=some r.nm)).any id=true:=by
    let#[q,N,e]:=hu;erw[c7.mpr #[true,bw.mpr #[q,N,bz e],J]]
   rwa[e,#[true,J,Ĥ ?_]];ext;exists 'l',k3 r M J hu _ (S1.trans S3)
  .have t:∀q,q∈P->q.bs≠some r.nm:=λq N e=>hu #[q,N,e]
   have e:(P.map λq=>decide (q.bs=some r.nm)).any id=false:=by
    rw[List.any_map,List.any_eq_false];intro q N;simpa using t q N
   rwa[e,#[false,J,j9 ?_]];ext;erw[d,J,.inl #[_,.of f.pz.dk],?_,←pcs P,.inr r.nm,_,f.pz.dk,J,ymd f.pz.nd M,?_];let ς:=f.b.drop t
   have gA:Go (λy=>y=d\/StO st c cl ct U y) H3 (upd H3 d (.dK (Ė (pcs P) (.inr r.nm)))) (λy=>y=d\/StO st c cl ct U y):=#[λy o e no=>yg (λz=>no (.inl z)) e,λy z=>.inl z,λy o e=>by
    by_cases z:y=d
    .erw[_,by rwa[z,ya]]
    .erw[o,yg z e]]
   generalize upd H3 d (.dK (Ė (pcs P) (.inr r.nm)))=H4 at ς gA⊢;let X:=ς.me;ext;intro c' k nc O aa;have SQ:yu H4 (upd (upd H4 k (.own c')) c' (.ins a.A4 k [])):=λb o e=>by rwa[yn (yb e nc),yn (yb e O),e]
   erw[c',k,ll,n,lk,tp,kd,ps,J,ya,SQ _ _ ς.lo,ς.n1,ς.n6,ς.row.same SQ,λp' a3 a0 U' HE a4 Z BE F=>#[J,?_]];let#[hR,gR,SE,hN]:=ς.re nc O a4 Z BE;let a8:=SE _ _ X;ext;erw[k4 r M J t c' k p' a3 a0 U' _ hR ((gA.ahead (S1.trans S3)).trans ((gR.or (Y:=λy=>y=d)).wide λy z=>z.imp id .inl))]
def yjs(Q:qj Pc)(b:Str):(Q.filter λq=>decide (q.nm≠b)).map Pc.pd=(Q.map Pc.pd).filter λq=>decide (q.nm≠b):=by rw[List.filter_map];rfl
def Sto.drop{H:Hp}{C:Cf}{P:qj Pd}{X:Sx}{Q:VK}{E:XK}(h:Sto K a H st C P X){b:Str}(hb:nmS b=true)(k1:(∀q,q∈P->q.nm≠b)->∀H',yu H H'->E (.ref a.A3) none H')(k2:∀r,r∈P->r.nm=b->(∃q,q∈P/\q.bs=some b)->∀H',yu H H'->E (.ref a.Al) none H')
  (k3:∀r,r∈P->r.nm=b->(∀q,q∈P->q.bs≠some b)->∀Y H',Sto K a H' st C (P.filter λq=>decide (q.nm≠b)) Y->Gx X H H' Y->Q .non H'):yet K a [.ref st,.str b] H Q E:=by
 let#[y,B,d,c,G,p,N,S,v,A,I,M,ς,U,s,J,J]:=h;let O:=zh hb;erw[st,y,B,d,c,G,p,N,S,v,A,C.n,C.kd,C.ps,C.mo,C.w,I,M,ς,U,.str b,"str",J,s,.str _,(λx e=>by cases e;omega),(λz=>by rw[show nmV (.str b)=nmS b from rfl,hb]at z;cases z),(λT e Z k=>?_),(λr m e i=>?_),λr m e i F t R o j L H' D g=>?_]
 .cases e;erw[k1 λq f=>?_];let#[u,i,J]:=bw.mp f;erw[k u i]
 .cases e;let#[q,f,e]:=i;erw[k2 r.pd (bw.mpr #[r,m,J]) J #[q.pd,bw.mpr #[q,f,J],e]]
 .cases e;erw[k3 r.pd (bw.mpr #[r,m,J]) J (λq f=>?_) _ H' #[y,B,d,F,t,R,o,j,v,A,_,_,[],L,D,yjs _ _,J] (Gx.of g NK.nil λq f=>.inl (cR.mp f).1)];let#[u,l,J]:=bw.mp f;erw[i u l]
def Sto.dropE{H:Hp}{C:Cf}{P:qj Pd}{X:Sx}{Q:VK}{E:XK}(h:Sto K a H st C P X){v:V}(ty:xf K H v (.type nt))(hl:∀s,v=.str s->s.length<=100000)(np:Np a P v cc)(k:∀H',yu H H'->E (.ref cc) none H'):yet K a [.ref st,v] H Q E:=by let#[z,m,d,c,o,p,g,x,l,u,t,B,y,U,s,J,J]:=h;let#[j,A,f]:=np.e (λq i=>(s.pz.nm q i).1) k;erw[st,z,m,d,c,o,p,g,x,l,u,C.n,C.kd,C.ps,C.mo,C.w,t,B,y,U,v,nt,J,s,ty,hl,j,A,(λr b e=>(f r b e).elim),λr b e=>(f r b e).elim]
def Sto.chainto{H:Hp}{C:Cf}{P:qj Pd}{X:Sx}{Q:VK}{E:XK}(h:Sto K a H st C P X)(hL:ToD P x L)
  (k:∀c dc p cl ct ks M W Y H',Sto K a H' st C P Y->Gx X H H' Y->å K a H' c dc p cl ct C.n C.kd C.ps L ks M W->M<=660000->Q (.ref c) H'):ţ K a [.ref st,baV x] H Q E:=by let#[z,o,d,c,dc,p,cl,ct,m,v,D,G,ks,U,s,J,J]:=h;let t:=Á.mp hL;erw[st,z,o,d,c,dc,p,cl,ct,m,v,C.n,C.kd,C.ps,C.mo,C.w,D,G,ks,U,x,L,J,s,t,λu b r i e f j H' l g F Z=>k u b r i e f _ j _ H' #[z,o,d,u,b,r,i,e,m,v,_,_,f,j,l,J,J] (Gx.of (g.or (Y:=λy=>y=d)) F λq A=>.inl A) l.ch ?_,<-ygr (w:=C.w) (λy B=>(t.sz s.pz y B).2) s.wm.2 (To.len s.pz t)]
def szD(C:Cf)(ts:Ο)(q:Pd):Nat:=(Ð C.n C.kd C.ps (ù ((q.path++[(q.nm,q.tx)]).map (·.2))) ts).length
noncomputable def bsF(f:Pd->Nat):qj Pd->ql Str->Nat->ql Str
 |[],b,_=>b
 |q::P,b,m=>if f q<m then bsF f P (some q.nm) (f q)else bsF f P b m
def ym1(C:Cf)(P:qj Pd)(ts:Ο):Υ:=bsF (szD C ts) P none (Ð C.n C.kd C.ps [] ts).length
#synth ĕ ["self","text","signs","best","fewest","name","size"] ["self","text"] vdf
#synth ∀(K:xy)(a:Ads),∀(st:qa)(C:Cf)(P:qj Pd)(X:Sx)(t:V)(_:vs=[.ref st,t])(_:Sto K a H st C P X)(_:((∃tn,xf K H t (.type tn)/\Bad K H t tn 1000/\∀H',yu H H'->E (.ref a.Ar) none H')\/∃(tx:qa)(ts:Ο),t=.ref tx/\ν H tx ts 1000/\ts.length<=C.mo/\∀Y H',Sto K a H' st C P Y->Gx X H H' Y->Q (baV (ym1 C P ts)) H')),yuk
def ypt:'e' 13 a.Qh a.Tm ["self","text"] (yuk K a):=by
 exists T.Hs.F.okE,ĕ,N;let#[st,C,P,X,t,J,hS,hT]:=h;let ah:=hS.cf;let al:=hS.z;erw[yi (pst 2 ĕ.nd (uz (yws T) N.m T.O5 vd (pav 1))) ?_,<-yi (yw (vi (pv 0) T.A1 T.Hl.m (yrp T) N.m T.Hl.B .nil vd (pav 2))) ?_,<-yi (pst 3 ĕ.nd uq) ?_,<-yi (pst 4 ĕ.nd (xl (vi (pv 0) T.A1 T.C1.m (yda T) N.m T.C1.B .nil vd (pa1 uq)) T.Ap T.Hk.m (yq8 T) N.m T.Hk.B .nil vo (pav 2))) ?_,<-yi (PS.nox (jt PassesOwn.never J (xr (vg (pv 0) T.A1 T.Ao.m (j6 T) N.m T.Ao.B .nil vo)) (xb (i:=5) ĕ.nd J (Or.inl J)) (yh (pst 6 ĕ.nd (xl (vi (pv 0) T.A1 T.C1.m (yda T) N.m T.C1.B .nil wa (pav 5)) T.Ap T.Hk.m (yq8 T) N.m T.Hk.B .nil vo (pav 2))) (yc (vq (yt ybu (pv 6) (pv 4) (ve _)) (yh (pst 3 ĕ.nd (pv 5)) (yc (pst 4 ĕ.nd (pv 6)))) yy))))) ?_];exists 2,5,yc (yp (pv 3));rcases hT with⟨tn,ab,a4,kX⟩|⟨tx,f,rfl,n,aj,k⟩
 .erw[t,tn,J,ab,.inl #[a4,kX]]
 erw[.ref tx,_,J,.lst n.l,.inr #[f.map V.int,ya9 n.l n.s (by have:=n.z;omega),λO H1 a1 y S1=>?_]];let ς:=hS.same S1
 obtain⟨ds,vl,vp,vc,S⟩:∃ds vl vp vc,H1 st∩a.A0 ds (wj vl (.int C.mo) vp vc):=by
  let#[ds,ll,d,c,dc,p,cl,ct,lk,tp,Qs,L0,ks,U,s,_,_]:=ς;erw[_,_,_,_,s.me]
 have R:Kf H1 X O (.lst (f.map V.int)):=Kf.new hS a1 y;ext;erw[st,ds,O,_,_,_,C.mo,_,J,S,y,λB=>?_,λz=>absurd z (by rw[bo];omega),←ς.chainto (x:=none) (L:=[]) J λc dc p cl ct ks M W Y H2 G g2 r hM=>?_];let e:=R.go ς g2;let a9:=r.me;ext;erw[c,dc,p,cl,ct,_,_,_,_,ks,M,W,O,f,J,r,#[e.1,n.s,()],(),λH3 u=>?_]
 let j:=G.same u;let a3:=e.same u;let g3:=(g2.same u).ahead S1;let#[ai,aq,an,ap,af,ac]:=j.ins;ext;erw[j.names λl H4 a5 a2 S4=>?_];have a7:Kf H4 Y l (.lst (P.map λq=>V.str q.nm)):=Kf.new j a5 a2;erw[l,J,#[_,SqL.of a2],jp (K:=K) (a:=l) (xs:=P.map λq=>V.str q.nm) (λi σ2 F=>∃(b:Υ)(m:Nat)(v5 v6:ql V)(Z:Sx),σ2=[some (.ref st),some (.ref tx),some (.ref O),some (baV b),some (.int (m:Nat)),v5,v6]/\Sto K a F st C P Z/\Gx X H F Z/\Kf F Z O (.lst (f.map V.int))/\Kf F Z l (.lst (P.map λq=>V.str q.nm))/\bsF (szD C f) (P.drop i) b m=ym1 C P f) ?_ ?_ ?_ ?_]
 .erw[none,_,none,none,Y,J,j.same S4,g3.same S4,a3.same S4,a7,rfl]
 .rintro i σ2 F _ ⟨b,m,v5,v6,Z,rfl,D,g,I,v,o⟩;erw[SqL.of v.1]
 .rintro i z σ2 F hz ⟨b,m,v5,v6,Z,rfl,D,g,I,v,o⟩;rw[bB]at hz;let#[q,hq,J]:=Option.map_eq_some_iff.mp hz;have aa:i<P.length:=(bJ.mp hq).1;let a6:=bM hq;rw[cF aa,(bJ.mp hq).2]at o;let#[ag,ar,ae,ak,ao,ad]:=D.ins;ext;erw[D.chainto (x:=some q.nm) (L:=q.path++[(q.nm,q.tx)]) #[q,a6,J,J] λc dc p cl ct ks M W Y2 F2 G g2 r hM=>?_];let e:=I.go D g2;let a0:=v.go D g2;let a9:=r.me;ext;exists c,dc,p,cl,ct,_,_,_,_,ks,M,W,O,f,J,r,#[e.1,n.s,()],(),λF3 u=>?_
  let j:=G.same u;let g3:=(g.trans g2).same u;ext;have o:(if szD C f q<m then bsF (szD C f) (P.drop (i+1)) (some q.nm) (szD C f q)else bsF (szD C f) (P.drop (i+1)) b m)=ym1 C P f:=o;by_cases hlt:szD C f q<m
  .rw[if_pos hlt]at o;erw[za (λB=>?_) (λz=>absurd (show ((szD C f q:Nat):Int)<(m:Int) by omega) z),←some q.nm,szD C f q,_,_,Y2,J,j,g3,e.same u,a0.same u,o]
  .rw[if_neg hlt]at o;erw[za (λz=>absurd (show ((szD C f q:Nat):Int)<(m:Int)from z) ()) (λB=>?_),<-b,m,_,_,Y2,J,j,g3,e.same u,a0.same u,o]
 .rintro σ2 F ⟨b,m,v5,v6,Z,rfl,D,g,I,v,o⟩;rw[bo,List.drop_length]at o;ext;rwa[show b=ym1 C P f from o,k Z F D g]
def lkB(k:Fin 3)(p:Ο):Ο:=((k.val:Nat):Int)::((p.length:Nat):Int)::p
def yx9(k:Fin 3):(kdS 0=kdS k/\k.val=0)\/(kdS 0≠kdS k/\kdS 1=kdS k/\k.val=1)\/(kdS 0≠kdS k/\kdS 1≠kdS k/\kdS 2=kdS k/\k.val=2):=by revert k;decide
#synth vag ["look"] vcu
#synth ∀(v:V)(kd:Fin 3)(tp:qa)(ps:Ο)(_:vs=[v])(_:LkG H v kd tp ps)(_:∀l H',H l=none->H' l\((lkB kd ps).map V.int)->yu H H'->Q (.ref l) H'),ypf
def yyo:'v' 1 a.Qi a.Tn ["look"] ypf:=by
 exists T.Ui.F.ok,vag,r;let#[v,d,g,i,J,#[q,J,e,l,p],k]:=h;let o:=zx p;rw[bo]at o;exists 1,0,yc (yp (yo zt (vn (pac (ξ PySem.F.plainAttrs_tuple PySem.F.slot_tuple_index PySem.F.type_tuple_index ykf (vt J T.Gp) (pa1 (pix Å (pv 0) yd))) (pa1 (pcB yq T.Af (pa1 (pix Å (pv 0) yd)))))) (pcT wk T.At (pa1 (pix Å (pv 0) yd)))));erw[.inr (.inl #[J,T.wy_KINDS]),?_,←ybs (SqT.of e) (wt (j:=0) J) ?_,←kdS 0,kdS 1,kdS 2,kdS d,a.Bn,d.val,J,J,T.w_KINDS H,yx9 d,?_,←ybs (SqT.of e) (wt (j:=1) J) ?_,←g,_,J,.inr (SqT.of l),?_];rw[bo];ext;exists 'l',λu hu0=>?_
 exists hu0,H1,S1,hu1;ext;erw[ybs (SqT.of (S1 _ _ e)) (wt (j:=1) J) ?_,←g,_,J,.inr (SqT.of (S1 _ _ l)),λw hw0=>?_];exists hw0,H2,S2,hw2;ext;erw[u,w,_,_,J,J,S2 _ _ hu1,hw2,w9 (by rw[bo];show 2+i.length<=_;omega),λc b=>?_,<-k c _ (S1.free (S2.free b)) ya (S1.trans (S2.trans (yz b)))]
def lix(c:Nat):Nat:=(PySem.Builtin.Str.occurrences smS ⟨#[c]⟩ 0 26 1).headD 0
def yvn:∀i:Fin 26,PySem.Builtin.Str.occurrences smS ⟨#[97+i.val]⟩ 0 26 1=[i.val]:='r'
def ys3{c:Nat}(h1:97<=c)(h2:c<=122):lix c=c-97:=by have e:=yvn #[c-97,()];unfold lix;rw[show 97+(#[c-97,()]:Fin 26).val=c by show 97+(c-97)=c;omega]at e;rw[e];rfl
def yt6{x:Str}(h:nmS x=true){c:Nat}(hc:x.cps[i]?=some c):∃w8,PySem.Builtin.Str.occurrences smS ⟨#[c]⟩ 0 smS.length 1=lix c::w8:=by
 unfold nmS at h;simp only[bU,List.all_eq_true]at h;let a:=h.2.2 c (bM (by rwa[Array.getElem?_toList,hc]));unfold yix at a;have a:(!(PySem.Builtin.Str.occurrences smS ⟨#[c]⟩ 0 26 1).isEmpty)=true:=a;show ∃w8,PySem.Builtin.Str.occurrences smS ⟨#[c]⟩ 0 26 1=_;unfold lix
 cases e:PySem.Builtin.Str.occurrences smS ⟨#[c]⟩ 0 26 1 with
 |nil=>rw[e]at a;cases a
 |cons i r=>erw[r,rfl]
def nmB(x:Str):Ο:=((x.length:Nat):Int)::x.cps.toList.map λc=>((lix c:Nat):Int)
def ytp(x:Str):(List.range x.cps.size).map (λi=>V.int ((lix (x.cps.toList.getD i 0):Nat):Int))=(x.cps.toList.map λc=>((lix c:Nat):Int)).map V.int:=by
 erw[List.ext_getElem? λi=>?_];rw[bB,bB,bB];rcases Nat.lt_or_ge i x.cps.size with z|z
 .rw[cQ z,bp (by simpa using z)];show some (V.int ((lix (x.cps.toList.getD i 0):Nat):Int))=_;rw[cX,bp (by simpa using z)];rfl
 .rw[ci (by rwa[b9,z]),ci (by simpa using z)];rfl
#synth yxf ["name"] vda
#synth ∀(x:Str)(_:vs=[.str x])(_:nmS x=true)(_:∀l H',H l=none->H' l\((nmB x).map V.int)->yu H H'->Q (.ref l) H'),yo6
def vca:'v' 1 a.Qj a.Tp ["name"] yo6:=by
 exists T.Uj.F.ok,yxf,z;let#[x,J,l,k]:=h;let p:=zh l;have t:x.cps.size=x.length:=rfl;exists 1,0,yc (yp (yo zt (vn (pa1 (pcB ω T.Af (pav 0)))) (wx (js:=[]) (ys:=[]) J (ysj (pv 0)) (λC y v B=>(yza (K:=K) (r:=(ykt)) J PySem.F.plainAttrs_str PySem.F.slot_str_index PySem.F.type_str_index yj5 (yeu J T.Dt) (pav 0))) J J (hyc:=yv) (hrel:=yv))));erw[x,J,ck p ∅,?_];ext;exists 'l',λu hu0=>?_
 exists hu0,H1,S1,hu1;ext;erw[x,J,λD g=>?_,<-ycc (λi=>.int ((lix (x.cps.toList.getD i 0):Nat):Int)) g (λi c G j q S e=>?_) (λG S e=>?_)]
 .let#[w8,n]:=yt6 l j;ext;erw[J,?_,←smS,_,lix c,w8,J,J,n,?_,<-Mp.doneR g (vv ()) q S e ?_];show V.int _=V.int _;rw[cX,Array.getElem?_toList,j];rfl
 .ext;let b:=S1.trans S;rw[ytp]at e;erw[u,D,_,_,J,J,S _ _ hu1,e,w9 (by rw[bo,bo];show 1+x.cps.size<=_;omega),λc d=>?_,<-k c _ (b.free d) ya (b.trans (yz d))]
noncomputable def bsN(P:qj Pd):ql Str->Int
 |none=>0
 |some b=>(((P.map (·.nm)).idxOf b:Nat):Int)+1
def ylm{ns:Ρ}{b:Str}(h:b∈ns):vi6 ns b (ns.idxOf b):=by
 have a:ns.idxOf b<ns.length:=List.idxOf_lt_length_iff.mpr h;erw[?_,λm c e=>?_]
 .rw[bp a,List.getElem_idxOf a]
 .let#[f,d]:=bJ.mp e;have:=List.not_of_lt_findIdx (p:=(· == b)) (xs:=ns) (i:=m) c;rw[d]at this;simp at this
#synth yqa ["store","name","base"] ["store","name"] vco
#synth ∀(K:xy)(a:Ads),∀(st:qa)(C:Cf)(P:qj Pd)(X:Sx)(q:Pd)(_:vs=[.ref st,.str q.nm])(_:Sto K a H st C P X)(_:q∈P)(_:∀l H',H l=none->H' l\[V.int (bsN P q.bs)]->yu H H'->Q (.ref l) H'),ynn
def vaa:'v' 5 a.Qk a.Tq ["store","name"] (ynn K a):=by
 exists T.Uk.F.ok,yqa,n;let#[R,C,P,X,q,J,g,v,k]:=h;let#[W,Z,vm,vp,vc,t]:=g.ins;let p:=g.nm q v;exists 2,1,yh (pst 2 yqa.nd (vi (pv 0) T.A1 T.Cw.m (ygt T) n.m T.Cw.B .nil wa (pav 1))) (yc (yp (vn (pa1 (Í (yt yxg (pv 2) uq (ve _)) yd (yo wl (ξ PySem.F.plainAttrs_list PySem.F.slot_list_index PySem.F.type_list_index yjh (vg (pv 0) T.A1 T.Ao.m (j6 T) n.m T.Ao.B .nil vo) (pav 2)) yd))))));erw[g.baseof p.1 (λN=>absurd J (N q v)) λr n e Y o=>?_];obtain rfl:=Ö g.nd n v e;let y:=g.same o;let I:=o _ _ t
 cases hb:r.bs with
 |none =>
  ext;erw[za (λF=>?_) (λz=>absurd J z)];ext;exists 'l',λl c=>?_
  erw[k l _ (o.free c) ?_ (o.trans (yz c))];rwa[hb,ya]
 |some b =>
  let i:=g.to r n;rw[hb]at i;let#[u,O,U,_]:=i;ext
  erw[za (λz=>nomatch z) (λF=>?_)]
  ext;erw[y.names λD S G d L=>?_];have f:S D\((P.map (·.nm)).map V.str):=by rw[d,cn];rfl
  erw[υ d ?_,←D,_,b,_,J,J,SqL.of f,ylm (bw.mpr #[u,O,U]),?_];ext;exists 'l',λl c=>?_
  let j:=o.trans L;erw[k l _ (j.free c) ?_ (j.trans (yz c))];rwa[hb,ya]
def pdB(C:Cf)(P:qj Pd)(q:Pd):Ο:=nmB q.nm++[bsN P q.bs]++q.by C
def lkF(C:Cf)(i:Nat):Ο:=((List.range i).map λj=>lkB (C.kd j) (C.ps j)).flatten
def í(C:Cf)(i:Nat):lkF C (i+1)=lkF C i++lkB (C.kd i) (C.ps i):=by unfold lkF;rw[List.range_succ,bA,List.flatten_append,List.map_singleton,List.flatten_singleton]
def hdB(C:Cf):Ο:=((C.n:Nat):Int)::lkF C C.n++[((C.mo:Nat):Int)/256,((C.mo:Nat):Int)%256]
def shB(C:Cf)(P:qj Pd):Ο:=hdB C++((P.length:Nat):Int)::(P.map (pdB C P)).flatten
theorem uk.lkl{H:Hp}{C:Cf}{lk:Λ}(h:uk H C.n lk C.kd tp C.ps):∀i,i<=C.n->(lkF C i).length<=i*6
 |0,_=>bx _
 |i+1,hi=>by
  let#[_,_,_,_,b]:=h i ();let a:=zx b;rw[bo]at a;rw[í,bq];have:=h.lkl i ();show (lkF C i).length+((C.ps i).length+1+1)<=_;omega
end
section
mutual
variable{H:Hp}{C:Cf}{P:qj Pd}{X:Sx}
def Sto.pdl(h:Sto K a H st C P X){q:Pd}(hq:q∈P):(pdB C P q).length<=5520:=by have d:=zh (h.nm q hq).1;let e:=h.sz q hq;let b:=h.cf;let c:=ya2 (n:=C.n) (kd:=C.kd) (ps:=C.ps) (pre:=ù (q.path.map (·.2))) (ts:=q.tx) b.1 b.2.1 (z0 _) ();have c:(q.by C).length<=5500:=c;have b:q.nm.cps.toList.length=q.nm.length:=rfl;unfold pdB nmB;rw[bq,bq,bN,bo,b];show _+1+1+_<=_;omega
theorem Sto.pls(h:Sto K a H st C P X):∀i,i<=P.length->(((P.take i).map (pdB C P)).flatten).length<=i*5520
 |0,_=>bx _
 |i+1,hi=>by
  have b:i<P.length:=()
  rw[bV b,bA,List.flatten_append,bq];let d:=h.pls i ();let c:=h.pdl (bW b);rw[List.map_singleton,List.flatten_singleton];omega
end
end
mutual
def yf6(C:Cf){P:qj Pd}{q:Pd}(h:P[i]?=some q):((P.take (i+1)).map (pdB C P)).flatten=((P.take i).map (pdB C P)).flatten++pdB C P q:=by rw[bV (bJ.mp h).1,(bJ.mp h).2,bA,List.flatten_append,List.map_singleton,List.flatten_singleton]
def wr2{m:Nat}(h:m<=1000):wr 2 (m:Int)=[(m:Int)/256,(m:Int)%256]:=by show [(m:Int)/256%256,(m:Int)%256]=_;rw[Int.emod_eq_of_lt (a:=(m:Int)/256) () ()]
#synth ů ["store","looks","names","shelf","look","name"] ["store"] vfg
#synth ∀(K:xy)(a:Ads),∀(st:qa)(C:Cf)(P:qj Pd)(X:Sx)(_:vs=[.ref st])(_:Sto K a H st C P X)(_:∀l H',H l=none->H' l\((shB C P).map V.int)->yu H H'->Q (.ref l) H'),yoj
def yrd:'v' 6 a.Ql a.Tr ["store"] (yoj K a):=by
 exists T.My.F.ok,ů,x;let#[st,C,P,X,J,R,k]:=h;let#[ds,vl,vm,vp,vc,ad]:=R.ins;let#[c1,c6,cm,cw,c2]:=R.cf;let ax:=R.z;erw[yi (pst 1 ů.nd (vg (pv 0) T.A1 T.Mt.m (va8 T) x.m T.Mt.B .nil vo)) ?_,<-yi (pst 2 ů.nd (vg (pv 0) T.A1 T.Ao.m (j6 T) x.m T.Ao.B .nil vo)) ?_,<-yi (pst 3 ů.nd (vn (pa1 (pcB yq T.Af (pav 1))))) ?_,<-yi (jt PassesOwn.never J (xr (pv 1)) (xb (i:=4) ů.nd J (Or.inl J)) (yc (yw (ξ PySem.F.plainAttrs_list PySem.F.slot_list_extend PySem.F.type_list_extend ç (pv 3) (pa1 (ut (yyo T) x.m T.Ui (pav 4))))))) ?_,<-yi (yw (ξ PySem.F.plainAttrs_list PySem.F.slot_list_extend PySem.F.type_list_extend ç (pv 3) (pa1 (ut (yre T) x.m T.Mf (pac (vg (pv 0) T.A1 T.Mu.m (yyl T) x.m T.Mu.B .nil vo) (pa1 yd)))))) ?_,<-yi (yw ('u' (pv 3) (pa1 (pcB yq T.Af (pav 2))))) ?_,<-yi (jt PassesOwn.never J (xr (pv 2)) (xb (i:=5) ů.nd J (Or.inl J)) (yc (yw (ξ PySem.F.plainAttrs_list PySem.F.slot_list_extend PySem.F.type_list_extend ç (pv 3) (pa1 (yo zt (yo zt (ut (vca T) x.m T.Uj (pav 5)) (ut (vaa T) x.m T.Uk (pac (pv 0) (pav 5)))) (vi (pv 0) T.A1 T.Ef.m (yl6 T) x.m T.Ef.B .nil wa (pav 5)))))))) ?_];exists 1,5,yc (yp (pv 3));erw[R.tlooks λlo lk tp H1 an L hR S=>?_];let a0:=S _ _ ad;ext;erw[(R.same S).names λnm H2 W g N=>?_];let j:=N _ _ L;ext;erw[ur (SqL.of j) ?_];rw[wb];ext;exists 'l',λd hsh0=>?_
 exists hsh0,H3,S3,hsh3;let aB:=S.trans (N.trans S3);have a1:H d=none:=S.free (N.free hsh0);let a5:=S3 _ _ j;let aa:=S3 _ _ g;let ac:=(hR.same N).same S3;have a7:H3 d\((((C.n:Nat):Int)::lkF C 0).map V.int):=hsh3;let O:=hR.same N;let v:=R.same (S.trans N);clear hR hsh3 aa a5 ac L W a0;let a9:=O.lkl;ext;erw[lo,J,#[_,SqL.of (S3 _ _ j)],jp (K:=K) (a:=lo) (xs:=refs lk C.n) (λi σ2 G=>∃v4:ql V,σ2=[some (.ref st),some (.ref lo),some (.ref nm),some (.ref d),v4,none]/\yu H2 G/\G d\((((C.n:Nat):Int)::lkF C i).map V.int))
  #[none,J,S3,a7] (λi σ2 G F ⟨_,_,f,_⟩=>SqL.of (f _ _ j)) ?_ ?_]
 .rintro i y σ2 G hy ⟨v4,rfl,f,c⟩;let#[J,hi]:=È hy;let ah:=a9 i ();let#[_,_,_,_,h3]:=O i hi;let h4:=zx h3;rw[bo]at h4;ext;erw[υ c ?_,←.ref (lk i),C.kd i,tp i,C.ps i,J,(O i hi).same f,λl G2 ap ae I=>?_,<-d,l,_,_,J,J,I _ _ c,ae,w9 (by rw[bo,bo];show (lkF C i).length+1+((C.ps i).length+1+1)<=_;omega),?_,←_,J,λb o e=>yg (yb e hsh0) (I _ _ (f _ _ e)),?_];rw[ya,í,<- bA];rfl
 rintro σ2 G ⟨v4,rfl,f,c⟩;rw[wb]at c;let ah:=a9 C.n (bx _);let t:=v.same f;let#[as,aD,ar,av,ay,a6]:=t.ins;clear a7;ext;erw[υ c ?_,←t.tmost ?_,←_,2,J,∅,λw G2 ag M I=>?_]
 rw[wr2 cm]at M;erw[d,w,_,_,J,J,I _ _ c,M,w9 (by rw[bo];show (lkF C C.n).length+1+2<=_;omega),?_];rw[<- bA];have S4:yu H2 (upd G2 d (.lst ((((C.n:Nat):Int)::lkF C C.n++[((C.mo:Nat):Int)/256,((C.mo:Nat):Int)%256]).map V.int))):=λb o e=>yg (yb e hsh0) (I _ _ (f _ _ e));have p:upd G2 d (.lst ((((C.n:Nat):Int)::lkF C C.n++[((C.mo:Nat):Int)/256,((C.mo:Nat):Int)%256]).map V.int)) d\((hdB C).map V.int):=ya;generalize upd G2 d (.lst ((((C.n:Nat):Int)::lkF C C.n++[((C.mo:Nat):Int)/256,((C.mo:Nat):Int)%256]).map V.int))=H4 at S4 p⊢;clear c t a6 ag M I f;have ao:(hdB C).length<=40:=by unfold hdB;rw[bq,bN];show _+1+2<=40;omega
 ext;erw[υ p ?_,←ur (SqL.of (S4 _ _ g)) ?_];rw[bo];ext;erw[uw p (vv (by rw[bo];omega)) ?_];have S5:yu H2 (upd H4 d (.lst ((hdB C).map V.int++[V.int ((P.length:Nat):Int)]))):=λb o e=>yg (yb e hsh0) (S4 _ _ e)
 have ς:upd H4 d (.lst ((hdB C).map V.int++[V.int ((P.length:Nat):Int)])) d\((hdB C++((P.length:Nat):Int)::((P.take 0).map (pdB C P)).flatten).map V.int):=by
  rw[ya,bA];rfl
 generalize upd H4 d (.lst ((hdB C).map V.int++[V.int ((P.length:Nat):Int)]))=H5 at S5 ς⊢;clear p S4;have af:∀q,q∈P->(pdB C P q).length<=5520:=λq=>v.pdl;let ab:=v.pls;ext;erw[nm,J,#[_,SqL.of (S5 _ _ g)],jp (K:=K) (a:=nm) (xs:=P.map λq=>V.str q.nm) (λi σ2 G=>∃v5:ql V,σ2=[some (.ref st),some (.ref lo),some (.ref nm),some (.ref d),v4,v5]/\yu H2 G/\G d\((hdB C++((P.length:Nat):Int)::((P.take i).map (pdB C P)).flatten).map V.int))
  #[none,J,S5,ς] (λi σ2 G F ⟨_,_,f,_⟩=>SqL.of (f _ _ g)) ?_ ?_]
 .rintro i y σ2 G hy ⟨v5,rfl,f,c⟩;rw[bB]at hy;let#[q,hq,J]:=Option.map_eq_some_iff.mp hy;have aF:i<P.length:=(bJ.mp hq).1;have aE:P[i]=q:=(bJ.mp hq).2;let u:=bM hq;let a8:=v.nm q u;let aw:=ab i ();let D:=af q u;let t:=v.same f;ext;erw[υ c ?_,←q.nm,J,a8.1,λb1 G1 am U T1=>?_,←st,C,P,X,q,J,t.same T1,u,λb2 G2 ak a2 I=>?_,←b1,b2,_,_,J,J,I _ _ U,a2,w9 (by rw[bo];unfold pdB at D;rw[bq,bq]at D;show _+1<=_;omega),λb3 hb30=>?_];exists hb30,G3,T3,hb33;let Z:=T1.trans (I.trans T3);let Y:=t.same Z;let#[au,aG,aA,aC,aq,al]:=Y.ins;ext;erw[Y.bytesof a8.1 (λno=>absurd J (no q u)) λr x er b4 G4 aj a4 T4=>?_];obtain rfl:=Ö R.nd x u er;ext;erw[b3,b4,_,_,J,J,T4 _ _ hb33,a4,w9 (by rw[bq,bo,bo];unfold pdB at D;rw[bq,bq]at D;show _+1+_<=_;omega),λb5 hb50=>?_];exists hb50,G5,T5,hb55;let a3:=Z.trans (T4.trans T5)
  have hb55:G5 b5\((pdB C P r).map V.int):=by
   rw[hb55];unfold pdB;rw[bA,bA];rfl
  erw[d,b5,_,_,J,J,a3 _ _ c,hb55,w9 (by rw[bo,bo,bq,bN];omega),?_,←_,J,λb o e=>yg (yb e hsh0) (a3 _ _ (f _ _ e)),?_];rw[ya,yf6 C hq,<- bA,bX];rfl
 .rintro σ2 G ⟨v5,rfl,f,c⟩;rw[bo,cq]at c;ext;erw[k d G a1 c (S.trans (N.trans f))]
structure RdR(a:Ads)(H:Hp)(r dr dl:qa)(d:Ο)(j:Nat):Prop where
 me:H r∩a.A8 dr (jn (.ref dl) (.int ((j:Nat):Int)))
 dl:H dl\(d.map V.int)
def RdR.same{H H':Hp}{r dr dl:qa}(h:RdR a H r dr dl d j)(S:yu H H'):RdR a H' r dr dl d j:=#[S _ _ h.me,S _ _ h.dl]
#synth yxz ["self","data"] vdg
#synth ∀(a:Ads),∀(r dr dl:qa)(d:Ο)(_:vs=[.ref r,.ref dl])(_:H r∩a.A8 dr [])(_:H dl\(d.map V.int))(_:∀H',RdR a H' r dr dl d 0->But r H H'->Q .non H'),yjo
def vb8:'v' 1 a.K7 a.Ts ["self","data"] (yjo a):=by
 exists T.Ul.F.ok,yxz,m;let#[r,f,b,d,J,j,c,k]:=h;have g:b≠r:=λz=>by rw[z,j]at c;cases c
 exists 2,0,yh (vj (pv 0) (pv 1) J) (yc (vj (pv 0) yd J));have n:upd H r (.ins a.A8 f [("data",.ref b)]) r∩a.A8 f [("data",.ref b)]:=ya;ext;erw[k _ #[ya,yg g (yg g c)] (But.upd.trans But.upd)]
def But.non{r t:qa}{H H':Hp}{o:HO}(b:But r H H')(hr:H' r=some o)(h:H' t=none):H t=none:=by
 cases e:H t with
 |none=>rfl
 |some o' =>
  by_cases z:t=r
  .rw[z,hr]at h;cases h
  .rw[b t o' e z]at h;cases h
#synth vbz ["self"] ve9
#synth ∀(a:Ads),∀(r dr dl:qa)(d:Ο)(j:Nat)(x:Int)(w8:Ο)(_:vs=[.ref r])(_:RdR a H r dr dl d j)(_:d.drop j=x::w8)(_:∀H',RdR a H' r dr dl d (j+1)->But r H H'->Q (.int x) H'),yoe
def đ:'v' 1 a.Qm a.Tt ["self"] (yoe a):=by
 exists T.Ay.F.ok,vbz,B;let#[r,c,b,d,j,x,w8,J,h,g,k]:=h;let l:=h.me;have t:b≠r:=λz=>by have e:=h.dl;rw[z,l]at e;cases e
 have o:j<d.length:=by
  rcases Nat.lt_or_ge j d.length with z|z
  .erw[z]
  .rw[List.drop_eq_nil_of_le z]at g;cases g
 have i:d[j]?=some x:=by
  rw[cF o]at g;rw[bp o];cases g;rfl
 exists 1,0,yh (vq (yt xj pfs (pcB yq T.Af (pa1 pfs)) (ve _)) (yc yax) yy) (yh (vj (pv 0) (yo wl pfs yd) J) (yc (yp (pix wq pfs (yo jg pfs yd)))));erw[ur (SqL.of h.dl) ?_];rw[bo];ext;erw[za (λz=>absurd z ()) (λZ=>?_)];ext;have f:RdR a (upd H r (.ins a.A8 c (jn (.ref b) (.int ((j:Nat)+1))))) r c b d (j+1):=#[ya,yg t h.dl];have n:But r H (upd H r (.ins a.A8 c (jn (.ref b) (.int ((j:Nat)+1))))):=But.upd;generalize upd H r (.ins a.A8 c (jn (.ref b) (.int ((j:Nat)+1))))=y at f n⊢;let p:=f.me;ext;erw[zq (v:=.int x) (SqL.of f.dl) (by rw[show ((j:Nat):Int)+1-1=((j:Nat):Int) by omega];erw[wt (by rw[bB,i];rfl)]) ?_,<-k _ f n]
def vj6(K:xy)(H:Hp)(pt:V)(x:Nat)(v:V):Prop :=
 (∃p xs,pt=.ref p/\H p\xs/\xs[x]?=some v)\/(∃p xs,pt=.ref p/\(∀H,SqT K H p xs)/\xs[x]?=some v)\/∃(z:Str)(c:Nat),pt=.str z/\z.length<=1000/\z.cps[x]?=some c/\v=.str ⟨#[c]⟩
#synth yr7 ["self","parts","number"] ["self","parts"] vdu
#synth ∀(K:xy)(a:Ads),∀(r dr dl:qa)(d:Ο)(j x:Nat)(w8:Ο)(pt v:V)(_:vs=[.ref r,pt])(_:RdR a H r dr dl d j)(_:d.drop j=((x:Nat):Int)::w8)(_:vj6 K H pt x v)(_:∀H',RdR a H' r dr dl d (j+1)->But r H H'->Q v H'),yn2
def yl3:'v' 2 a.Qn a.Tu ["self","parts"] (yn2 K a):=by
 exists T.Eg.F.ok,yr7,ς;let#[r,y,t,d,j,x,w8,D,v,J,h,L,b,k]:=h;let o:=h.me;exists 2,1,yh (pst 2 yr7.nd (vg (pv 0) T.Aa T.Ay.m (đ T) ς.m T.Ay.B .nil vo)) (yh (vq (yt veg (pv 2) (ò (pcB yq T.Af (pav 1)) (pcB ω T.Af (pav 1))) (ve _)) (yc yax) yy) (yc (yp (ò (pix wq (pv 1) (pv 2)) (ò (pix Å (pv 1) (pv 2)) (zz (pv 1) (pv 2) (λZ Z=>rfl)))))));erw[r,y,t,d,j,_,w8,J,h,L,λN l i=>?_];rcases b with⟨p,q,rfl,b,g⟩|⟨p,q,rfl,b,g⟩|⟨z,c,rfl,M,C,rfl⟩
 .let f:=i _ _ b λz=>by rw[z,o]at b;cases b
  have u:x<q.length:=(bJ.mp g).1;ext;erw[Ô ?_,←ur (SqL.of f) ?_,←za (λz=>absurd z ()) (λZ=>?_),←Ô ?_,←zq (SqL.of f) (wt g) ?_,<-k _ l i]
 .have u:x<q.length:=(bJ.mp g).1;ext;erw[Ô ?_,←p,_,J,.inr (b _),?_,←za (λz=>absurd z ()) (λZ=>?_),←j7 (Ô ?_),←ybs (b _) (wt g) ?_,<-k _ l i]
 .have u:x<z.length:=by
   let e:=(Array.getElem?_eq_some_iff.mp C).1;erw[e]
  ext;erw[j7 ?_,←z,J,w9 (),?_,←za (λz=>absurd z ()) (λZ=>?_),←j7 (j7 ?_),←z,((x:Nat):Int),c,J,J,(),(),(),by rwa[Int.toNat_natCast,C],?_]
  erw[k _ l i]
def vhz(kd:Fin 3):([.str "even",.str "quick",.str "run"]:Τ)[kd.val]?=some (.str (kdS kd)):=by
 match kd with
 |0=>rfl
 |1=>rfl
 |2=>rfl
#synth yez ["self","kind","many"] ["self"] yp7
#synth ∀(K:xy)(a:Ads),∀(r dr dl:qa)(d:Ο)(j:Nat)(kd:Fin 3)(ps w8:Ο)(_:vs=[.ref r])(_:RdR a H r dr dl d j)(_:d.drop j=lkB kd ps++w8)(_:ps.length<=255)(_:∀t tp H',H t=none->H tp=none->H' t∪[.str (kdS kd),.ref tp]->H' tp∪(ps.map V.int)->RdR a H' r dr dl d (j+(2+ps.length))->But r H H'->Q (.ref t) H'),ynt
def yvk:'v' 3 a.K8 a.Kt ["self"] (ynt K a):=by
 exists T.Ia.F.ok,yez,W;let#[r,I,q,d,j,R,c,w8,J,h,hx,a1,k]:=h;let a3:=h.me
 have v:d.drop (j+1)=((c.length:Nat):Int)::(c++w8):=by
  rw[<- List.drop_drop,hx];rfl
 have S:d.drop (j+1+1)=c++w8:=by
  rw[<- List.drop_drop,v];rfl
 exists 1,2,yh (pst 1 yez.nd (xl (pv 0) T.Aa T.Eg.m (yl3 T) W.m T.Eg.B .nil vo (pa1 (vt J T.Gp)))) (yh (pst 2 yez.nd (vg (pv 0) T.Aa T.Ay.m (đ T) W.m T.Ay.B .nil vo)) (yc (yp (we (pac (pv 1) (pa1 (pcT δ T.Db (pa1 (wx (js:=[0]) (ys:=["self"]) J (zl J T.Ax (pav 2)) (λC s2 H2 fp=>(vg (pv 1) T.Aa T.Ay.m (đ T) W.m T.Ay.B .nil vo)) J J (hyc:=(all_cons J yv)) (hrel:=(all_cons J yv)))))))))));erw[r,I,q,d,j,R.val,_,_,.str (kdS R),J,h,hx,.inr (.inl #[a.Bn,_,J,T.w_KINDS,vhz R]),λH1 Y b1=>?_];let a0:=Y.me;ext;erw[r,I,q,d,j+1,_,_,J,Y,v,λH2 N b2=>?_];let f:=N.me;let y:=b1.trans b2;ext;erw[_,J,(),(),λD l=>?_]
 have ς:D≠r:=λz=>by rw[z,f]at l;cases l
 erw[ε (n:=c.length) (λi G=>RdR a G r I q d (j+1+1+i)/\G D\((c.take i).map V.int)/\But r H2 G) #[#[yg (yb f l) f,yg (yb N.dl l) N.dl],ya,λb o e F=>yg (yb e l) e] (λi G X z=>?_) (λG z=>?_)]
 .let#[p,g,O]:=z;let Z:=p.me;ext;exists r,I,q,d,j+1+1+i,c[i],c.drop (i+1)++w8,J,p,?_,λG1 L x=>?_
  .rw[<- List.drop_drop,S,List.drop_append_of_le_length (),cF X];rfl
  .let u:=x _ _ g ς;ext;erw[xu (n:=c.length) u (vv (by rw[bo,bT];omega)) X #[#[yg ς.symm L.me,yg (yb N.dl l) L.dl],by rw[ya,bV X,bA];rfl,λb o e n=>yg (yb e l) (x _ _ (O b o e n) n)]]
 let#[p,g,O]:=z;rw[cq]at g;ext;erw[D,_,J,.inl #[SqL.of g,λtp htp=>?_]];exists htp,G1,S1,e1;ext;exists by show 2<=sizeLine;decide,λt ht=>?_
 exists ht,G2,S2,e2;have M:But r H G1:=λb o e n=>S1 _ _ (O _ _ (y _ _ e n) n);erw[k t tp G2 (M.non (S1 _ _ p.me) ht) ((y.trans O).non p.me htp) e2 (S2 _ _ e1) (by rw[show j+(2+c.length)=j+1+1+c.length by omega];erw[p.same (S1.trans S2)]) λb o e n=>S2 _ _ (M b o e n)]
structure CfG(C:Cf):Prop where
 n:1<=C.n/\C.n<=6
 m:C.mo<=1000/\C.w<=C.mo/\C.w<=200
 p:∀i,i<C.n->zg ((C.ps i).map V.int)=true
theorem ysu(C:Cf):∀{n:Nat},i<n->∃m,lkF C n=lkF C i++(lkB (C.kd i) (C.ps i)++m)
 |n+1,h=>by
  rw[í];rcases Nat.lt_or_ge i n with z|z
  .let#[m,e]:=ysu C z;erw[m++lkB (C.kd n) (C.ps n),by rw[e,bX,bX]]
  .obtain rfl:i=n:=()
   erw[[],by rw[cT]]
def uv{A B:Ο}{k:Nat}(h:d.drop k=A++B):d.drop (k+A.length)=B:=by rw[<- List.drop_drop,h,List.drop_left]
def yu0(tt:Λ)(i:Nat)(t:qa):refs (λj=>if j=i then t else tt j) (i+1)=refs tt i++[V.ref t]:=by rw[ja,if_pos J,zy λj a=>if_neg (bY a)]
#synth ybb ["self","many","looks","upper"] ["self"] ysl
#synth ∀(K:xy)(a:Ads),∀(r dr dl:qa)(d:Ο)(j:Nat)(C:Cf)(w8:Ο)(_:vs=[.ref r])(_:RdR a H r dr dl d j)(_:d.drop j=hdB C++w8)(_:CfG C)(_:∀st X H',Sto K a H' st C [] X->RdR a H' r dr dl d (j+(hdB C).length)->But r H H'->(∀y,X.f y->H y=none)->Q (.ref st) H'),yj0
def yuf:'v' 12 a.K9 a.Ku ["self"] (yj0 K a):=by
 exists T.Ib.F.ok,ybb,hr;let#[r,N,L,d,j,C,w8,J,h,hx,hC,k]:=h;let ac:=h.me;let#[#[n1,n6],#[m1,wm,w2],U]:=hC
 have a0:d.drop j=((C.n:Nat):Int)::(lkF C C.n++([((C.mo:Nat):Int)/256,((C.mo:Nat):Int)%256]++w8)):=by
  rw[hx];unfold hdB;rw[bX];rfl
 have Y:d.drop (j+1)=lkF C C.n++([((C.mo:Nat):Int)/256,((C.mo:Nat):Int)%256]++w8):=uv (A:=[_]) a0;let R:=uv Y;let a3:=uv (A:=[_]) R;exists 1,3,yh (pst 1 ybb.nd (vg (pv 0) T.Aa T.Ay.m (đ T) hr.m T.Ay.B .nil vo)) (yh (ygk (i:=2) (js:=[0]) (ys:=["self"]) ybb.nd J J J (zl J T.Ax (pav 1)) (λC s2 H2 fp=>(vg (pv 1) T.Aa T.Ia.m (yvk T) hr.m T.Ia.B .nil vo)) J J (hyc:=(all_cons J yv)) (hrel:=(all_cons J yv))) (yh (pst 3 ybb.nd (vg (pv 0) T.Aa T.Ay.m (đ T) hr.m T.Ay.B .nil vo)) (yc (yp (uu T.Fz (yms T) hr.m J T.Fx T.Ms .nil wa (pac (pv 2) (pa1 (yo wl (yo xk yd (pv 3)) (vg (pv 0) T.Aa T.Ay.m (đ T) hr.m T.Ay.B .nil vo)))))))));erw[r,N,L,d,j,_,_,J,h,a0,λH1 h1 b1=>?_];let f:=h1.me;ext;erw[_,J,(),(),λD u=>?_]
 have ς:D≠r:=λz=>by rw[z,f]at u;cases u
 erw[ε (n:=C.n) (λi G=>∃p M,RdR a G r N L d (j+1+(lkF C i).length)/\G D\(refs p i)/\uk G i p C.kd M C.ps/\But r H1 G) #[λF=>0,λF=>0,#[yg (yb f u) f,yg (yb h1.dl u) h1.dl],ya,λi O=>absurd O (bS _),λb o e F=>yg (yb e u) e] (λi G O z=>?_) (λG z=>?_)]
 .let#[p,M,hG,v,hR,bG]:=z;let c:=hG.me;let#[m,em]:=ysu C O;let a7:=zx (U i O);rw[bo]at a7;ext;exists r,N,L,d,_,C.kd i,C.ps i,m++([((C.mo:Nat):Int)/256,((C.mo:Nat):Int)%256]++w8),J,hG,uv (by rw[Y,em,bX,bX]),(),λt tq G1 ad aa ht a8 a1 g=>?_
  let q:=g _ _ v ς;erw[xu q (vv (by rw[wb];omega)) O #[λk=>if k=i then t else p k,λk=>if k=i then tq else M k,#[by rw[í,bq,show (lkB (C.kd i) (C.ps i)).length=2+(C.ps i).length by show _+1+1=_;omega,<- Nat.add_assoc];erw[yg ς.symm a1.me],yg (yb h1.dl u) a1.dl],by rw[ya,yu0],λk hk=>?_,λb o e n=>yg (yb e u) (g _ _ (bG b o e n) n)]];have up:∀{x:qa}{I:Τ},G1 x∪I->upd G1 D (.lst (refs p i++[.ref t])) x∪I:=λ{x I}e=>yg (λz=>by rw[z,q]at e;cases e) e;show LkG _ (.ref (if k=i then t else p k)) (C.kd k) (if k=i then tq else M k) (C.ps k);by_cases z:k=i
  .rw[if_pos z,if_pos z,z];erw[t,J,up ht,up a8,U i O]
  .rw[if_neg z,if_neg z];let#[l,e,e1,e2,e3]:=hR k ();have nr:∀{x:qa}{I:Τ},G x∪I->x≠r:=λ{x I}e z=>by rw[z,c]at e;cases e
   erw[l,e,up (g _ _ e1 (nr e1)),up (g _ _ e2 (nr e2)),e3]
 let#[p,M,hG,v,hR,bG]:=z;let c:=hG.me;ext;erw[r,N,L,d,_,_,_,J,hG,R,λH3 h3 b3=>?_];let a9:=h3.me;ext;erw[r,N,L,d,_,_,_,J,h3,a3,λH4 h4 b4=>?_];ext;intro st ds Z W ae;let a2:=(bG.trans b3).trans b4;let S:=b1.trans a2;let a6:=(b3.trans b4) _ _ v ς;have a5:uk H4 C.n p C.kd M C.ps:=hR.fr λx I e=>(b3.trans b4) _ _ e λz=>by rw[z,c]at e;cases e
 rw[show 256*(((C.mo:Nat):Int)/256)+((C.mo:Nat):Int)%256=((C.mo:Nat):Int) by omega];erw[Sto.new (mo:=C.mo) (w:=C.w) Z W a6 n1 n6 a5 m1 wm w2 λX H5 hS S5 hn=>#[J,?_],<-k st X H5 hS ?_ (λb o e n=>S5 _ _ (S b o e n)) λy hy=>S.non h4.me (hn y hy)];rw[show j+(hdB C).length=j+1+(lkF C C.n).length+1+1 by unfold hdB;rw[bq,bN];show _+(_+1+2)=_;omega];erw[h4.same S5]
def yem{x:Str}(h:nmS x=true){c:Nat}(hc:c∈x.cps.toList):yix c=true:=by unfold nmS at h;simp only[bU,List.all_eq_true]at h;erw[h.2.2 c hc]
def yew{c:Nat}(h:yix c=true):97<=c/\c<=122:=by
 unfold yix at h;have h:(!(Builtin.Str.occurrences smS ⟨#[c]⟩ 0 smS.length 1).isEmpty)=true:=h;rw[PySem.StrLaws.found_one]at h;let#[i,d,e]:=List.mem_iff_getElem.mp (of_decide_eq_true h)
 have a:i<26:=by
  have:=yde;have e:smS.cps.toList.length=smS.length:=rfl;omega
 let b:=yc4 i a;rw[<- Array.getElem?_toList,bp d,e]at b;have:=bL b;omega
#synth ylg ["self","many"] ["self"] ysv
#synth ∀(K:xy)(a:Ads),∀(r dr dl:qa)(d:Ο)(j:Nat)(x:Str)(w8:Ο)(_:vs=[.ref r])(_:RdR a H r dr dl d j)(_:d.drop j=nmB x++w8)(_:nmS x=true)(_:∀H',RdR a H' r dr dl d (j+(nmB x).length)->But r H H'->Q (.str x) H'),yna
def yud:'v' 3 a.Ka a.Kv ["self"] (yna K a):=by
 exists T.Ic.F.ok,ylg,W;let#[r,L,I,d,j,x,w8,J,h,X,Y,k]:=h;let a1:=h.me;let h8:=zh Y;have R:d.drop (j+1)=(x.cps.toList.map λc=>((lix c:Nat):Int))++w8:=uv (A:=[_]) X;exists 1,1,yh (pst 1 ylg.nd (vg (pv 0) T.Aa T.Ay.m (đ T) W.m T.Ay.B .nil vo)) (yc (yp (ξ PySem.F.plainAttrs_str PySem.F.slot_str_join PySem.F.type_str_join yor yr (pa1 (wx (js:=[0]) (ys:=["self"]) J (zl J T.Ax (pav 1)) (λC s2 H2 fp=>(xl (pv 1) T.Aa T.Eg.m (yl3 T) W.m T.Eg.B .nil vo (pa1 (yeu J T.Dt)))) J J (hyc:=(all_cons J yv)) (hrel:=(all_cons J yv)))))));erw[r,L,I,d,j,_,_,J,h,X,λH1 ς Z=>?_];let f:=ς.me;ext;erw[J,?_,←_,J,(),(),λD p=>?_]
 have v:D≠r:=λz=>by rw[z,f]at p;cases p
 have l:x.cps.toList.length=x.length:=rfl;erw[ε (n:=x.length) (λi G=>RdR a G r L I d (j+1+i)/\G D\((x.cps.toList.take i).map λc=>V.str ⟨#[c]⟩)/\But r H1 G) #[#[yg (yb f p) f,yg (yb ς.dl p) ς.dl],ya,λb o e F=>yg (yb e p) e] (λi G u z=>?_) (λG z=>?_)]
 .let#[M,g,N]:=z;let S:=M.me;rw[<- l]at u;let U:=yew (yem Y (bW u));ext;exists r,L,I,d,j+1+i,lix x.cps.toList[i],(x.cps.toList.drop (i+1)).map (λc=>((lix c:Nat):Int))++w8,_,.str ⟨#[x.cps.toList[i]]⟩,J,M,?_,.inr (.inr #[smS,x.cps.toList[i],J,by rw[yde];decide,?_,J]),λG1 y t=>?_
  .rw[<- List.drop_drop,R,List.drop_append_of_le_length (by rw[bo];omega),<- List.map_drop,cF u];rfl
  .rw[ys3 U.1 U.2,yc4 _ ()]
   congr 1
   omega
  .let q:=t _ _ g v;erw[xu q (vv (by rw[bo,bT];omega)) (by rwa[<- l,u]) #[#[yg v.symm y.me,yg (yb ς.dl p) y.dl],by rw[ya,bV u,bA];rfl,λb o e n=>yg (yb e p) (t _ _ (N b o e n) n)]]
 let#[M,g,N]:=z;rw[<- l,cq]at g;ext;erw[D,x.cps.toList,J,J,SqL.of g,(),?_]
 rw[show (⟨x.cps.toList.toArray⟩:Str)=x by rw[Array.toArray_toList]];erw[k _ (by rw[show j+(nmB x).length=j+1+x.length by unfold nmB;rw[bN,bo];omega];erw[M]) (Z.trans N)]
structure PdN(C:Cf)(P:qj Pd)(q:Pd):Prop where
 nm:okN q.nm
 no:∀u,u∈P->u.nm≠q.nm
 z:P.length<60
 s:Sgs q.tx
 l:q.tx.length<=C.w
 to:ToD P q.bs q.path
noncomputable def bsX(P:qj Pd):ql Str->Nat
 |none=>0
 |some b=>(P.map (·.nm)).idxOf b+1
def vbr(P:qj Pd)(x:Υ):bsN P x=((bsX P x:Nat):Int):=by
 cases x with
 |none=>rfl
 |some b=>show (((P.map (·.nm)).idxOf b:Nat):Int)+1=(((P.map (·.nm)).idxOf b+1:Nat):Int);omega
def yz5{P:qj Pd}(h:ToD P x L):([V.non]++P.map λq=>V.str q.nm)[bsX P x]?=some (baV x):=by
 cases x with
 |none=>rfl
 |some b =>
  let#[r,a,e,_]:=h;have:=(ylm (ns:=P.map (·.nm)) (b:=b) (bw.mpr #[r,a,e])).1;show (P.map λq=>V.str q.nm)[(P.map (·.nm)).idxOf b]?=_;rw[show (P.map λq=>V.str q.nm)=(P.map (·.nm)).map V.str by rw[cn];rfl,bB,this];rfl
def yu2{xs:Τ}{p m:Nat}(h:p<=xs.length):ydg xs (some (p:Int)) (some ((p:Int)+(m:Int)))=(xs.drop p).take m:=by
 unfold ydg;rw[show (p:Int)+(m:Int)=((p+m:Nat):Int) by omega,HT.sIx_nat,HT.sIx_nat,Nat.min_eq_left h];rcases Nat.le_total (p+m) xs.length with z|z
 .rw[Nat.min_eq_left z,Nat.add_sub_cancel_left]
 .rw[Nat.min_eq_right z,cE (by rw[cZ];omega),cE (by rw[cZ];omega)]
structure PdM(C:Cf)(P:qj Pd)(q:Pd):Prop where
 nm:okN q.nm
 no:∀u,u∈P->u.nm≠q.nm
 s:Sgs q.tx
 l:q.tx.length<=C.w
 to:ToD P q.bs q.path
#synth ybq ["self","store","name","base","ahead"] ["self","store"] yqr
#synth ∀(K:xy)(a:Ads),∀(r dr dl:qa)(d:Ο)(j:Nat)(st:qa)(C:Cf)(P:qj Pd)(X:Sx)(q:Pd)(w8:Ο)(_:vs=[.ref r,.ref st])(_:RdR a H r dr dl d j)(_:Sto K a H st C P X)(_:¬X.f r)(_:¬X.f dl)(_:Byt d)(_:d.drop j=pdB C P q++w8)(_:PdM C P q)(_:(P.length<60->∀Y H',Sto K a H' st C (P++[q]) Y->RdR a H' r dr dl d (j+(pdB C P q).length)->(∀b o,H b=some o->¬X.f b->b≠r->H' b=some o)->(∀y,Y.f y->X.f y\/H y=none)->Q .non H'))(_:(P.length=60->∀H',But r H H'->E (.ref a.Ae) none H')),yod
def yu7:'e' 14 a.Kb a.Kw ["self","store"] (yod K a):=by
 exists T.Ie.F.okE,ybq,hr;let#[r,dr,Z,d,j,st,C,P,X,q,w8,J,h,hS,O,nd,hd,hx,D,k,kE]:=h;let af:=hS.z;let a7:=h.me;let G:=hS.cf;let ai:=zh D.nm.1
 have U:d.drop j=nmB q.nm++(bsN P q.bs::(q.by C++w8)):=by
  rw[hx];unfold pdB;rw[bX,bX];rfl
 let M:=uv U;have t:d.drop (j+(nmB q.nm).length+1)=q.by C++w8:=uv (A:=[_]) M;rw[vbr]at M;let ho:=ya2 (n:=C.n) (kd:=C.kd) (ps:=C.ps) (pre:=ù (q.path.map (·.2))) (ts:=q.tx) G.1 G.2.1 (z0 _) (by have:=D.l;omega);have ho:(q.by C).length<=5500:=ho;exists 2,3,yh (pst 2 ybq.nd (vg (pv 0) T.Aa T.Ic.m (yud T) hr.m T.Ic.B .nil vo)) (yh (pst 3 ybq.nd (xl (pv 0) T.Aa T.Eg.m (yl3 T) hr.m T.Eg.B .nil vo (pa1 (yo zt (vn (pa1 uq)) (vg (pv 1) T.A1 T.Ao.m (j6 T) hr.m T.Ao.B .nil vo))))) (yh (pst 4 ybq.nd (uh jb pfs (ux pfs) (ux (yo wl pfs (vw J T.De))))) (yc (vj (pv 0) (yo wl pfs (vi (pv 1) T.A1 T.Mw.m (yzm T) hr.m T.Mw.B .nil vd (pac (pv 2) (pac (pv 4) (pav 3))))) J))));erw[r,dr,Z,d,j,q.nm,_,J,h,U,D.nm.1,λH1 h1 b1=>?_];let ac:=h1.me;let N:=hS.but (WSh.mu a7 J) O b1;let#[ds,vl,vm,vp,vc,I]:=N.ins;ext;exists 'l',λu hu0=>?_
 exists hu0,H2,S2,hu2;let ad:=S2 _ _ I;ext;erw[(N.same S2).names λl H3 ae a9 S3=>?_,←u,l,_,_,J,J,S3 _ _ hu2,a9,w9 (by rw[bo];show 1+_<=_;omega),λc hc0=>?_];exists hc0,H4,S4,hc4;let x:=S2.trans (S3.trans S4);let a0:=N.same x;let h4:=h1.same x;ext;erw[r,dr,Z,d,_,_,_,_,_,J,h4,M,.inl #[c,_,J,hc4,yz5 D.to],λH5 h5 b5=>?_];let aa:=h5.me;let S:=a0.but (WSh.mu h4.me J) O b5;let W:=b5 _ _ (x _ _ I) λz=>O (by rwa[<- z,hS.me]);ext;erw[Ŏ (SqL.of h5.dl) λah hah0=>?_]
 have a4:j+(nmB q.nm).length+1<=(d.map V.int).length:=by
  rw[bo];rcases Nat.le_total (j+(nmB q.nm).length+1) d.length with z|z
  .erw[z]
  .rw[List.drop_eq_nil_of_le z]at t;have:=congrArg List.length t;have o1:1<=(q.by C).length:=ya5 G.1 G.2.1 (z0 _);rw[bq,List.length_nil]at this;omega
 rw[show ((j+(nmB q.nm).length+1:Nat):Int)+12000=((j+(nmB q.nm).length+1:Nat):Int)+((12000:Nat):Int)from rfl,yu2 a4,<- List.map_drop,<- List.map_take,t,List.take_append,cE ()];exists hah0,H6,S6,hah6;let h6:=h5.same S6;let i:=h6.me;let v:=S.same S6;let ab:=S6 _ _ W
 have a5:¬X.f ah:=λw=>by
  let#[o,e]:=S.live _ w;rw[hah0]at e;cases e
 have a8:Byt (w8.take (12000-(q.by C).length)):=λb hb=>hd b (by
  have:b∈q.by C++w8:=bP _ (cH hb);rw[<- t]at this;erw[List.mem_of_mem_drop this])
 have lv:∀{b:qa}{o:HO},H b=some o->b≠r->H6 b=some o:=λ{b o}e n=>S6 _ _ (b5 _ _ (x _ _ (b1 _ _ e n)) n);ext;erw[st,ah,C,P,X,q.nm,q.bs,q.path,q.tx,_,J,v,D.nm,hah6,a5,a8,by rw[bq,bT];show (q.by C).length+_<=_;omega,D.s,D.l,D.no,D.to,λL Y H7 a2 R=>?_,λL H7 S7=>kE L H7 λb o e n=>S7 _ _ (lv e n)]
 let ς:=R.g.fr _ _ i λw=>O (v.wf _ w);let p:=R.g.fr _ _ h6.dl λw=>nd (v.wf _ w);have a3:¬Y.f r:=λw=>(R.f r w).elim O λe=>by rw[i]at e;cases e
 have a1:Z≠r:=λz=>by rw[z,ς]at p;cases p
 ext;erw[k L Y _ (a2.but (WSh.mu ς J) a3 But.upd) #[?_,yg a1 p] (λb o e nf n=>yg n (R.g.fr _ _ (lv e n) λw=>nf (v.wf _ w))) λy hy=>(R.f y hy).imp id λe=>?_]
 .rw[ya,show j+(pdB C P q).length=j+(nmB q.nm).length+1+(q.by C).length by unfold pdB;rw[bq,bq,cz];omega];rfl
 .cases e0:H y with
  |none=>rfl
  |some o =>
   by_cases z:y=r
   .rw[z,i]at e;cases e
   .rw[lv e0 z]at e;cases e
def Stk(P:qj Pd):Prop:=∀(i:Nat)(r:Pd)(b:Str),P[i]?=some r->r.bs=some b->∃j s,j<i/\P[j]?=some s/\s.nm=b
structure yxd(C:Cf)(P:qj Pd):Prop where
 c:CfG C
 w:PdW P
 z:P.length<=60
 nm:∀q,q∈P->okN q.nm
 s:∀q,q∈P->Sgs q.tx/\q.tx.length<=C.w
 k:Stk P
def Sto.shok{H:Hp}{C:Cf}{P:qj Pd}{X:Sx}(h:Sto K a H st C P X)(k:Stk P):yxd C P:=by have b:=h.cf;erw[#[#[b.1,b.2.1],#[b.2.2.1,b.2.2.2.1,b.2.2.2.2],λi g=>?_],h.pw,h.z,h.nm,λq e=>#[(h.sz q e).1,(h.sz q e).2.1],k];let#[v,m,d,c,n,p,j,u,l,r,o,L,t,U,s,J,J]:=h;let#[_,_,_,_,f]:=s.row i g;erw[f]
def yxd.nx{C:Cf}{P:qj Pd}(h:yxd C P)(hi:i<P.length):PdN C (P.take i) P[i]/\pdB C (P.take i) P[i]=pdB C P P[i]:=by
 let c:=bW hi;let a:=h.w.wf _ c
 have d:∀b,P[i].bs=some b->∃s,s∈P.take i/\s.nm=b:=λb e=>by
  let#[j,s,l,p,n]:=h.k i P[i] b (bp hi) e;erw[s,bM (i:=j) (by rwa[List.getElem?_take_of_lt l,p]),n]
 erw[#[h.nm _ c,λu t e=>?_,by rw[bT];have:=h.z;omega,(h.s _ c).1,(h.s _ c).2,?_],?_]
 .let#[j,l,J]:=List.mem_iff_getElem.mp t;rw[bT]at l;rw[List.getElem_take]at e;have:=Ö (q:=P[j]) (r:=P[i]) h.w.nd (bW _) c e;have:=List.pairwise_iff_getElem.mp h.w.nd j i (by rw[bo];omega) (by rwa[bo,hi]) ();rw[cL,cL]at this;erw[this e]
 .cases eb:P[i].bs with
  |none=>rw[eb]at a;erw[a]
  |some b =>
   rw[eb]at a;let#[r,o,m,v]:=a;let#[s,f,g]:=d b eb;obtain rfl:=Ö h.w.nd o (cH f) (m.trans g.symm);erw[r,f,m,v]
 .unfold pdB
  congr 3
  cases eb:P[i].bs with
  |none=>rfl
  |some b =>
   let#[s,f,g]:=d b eb;show (((((P.take i).map (·.nm)).idxOf b:Nat):Int)+1)=(((P.map (·.nm)).idxOf b:Nat):Int)+1
   have e:(P.map (·.nm)).idxOf b=((P.take i).map (·.nm)).idxOf b:=by
    conv=>lhs;rw[<- da i P]
    rw[bA,List.idxOf_append,if_pos (bw.mpr #[s,f,g])]
   rw[e]
def vhs{P:qj Pd}(hi:i<P.length)(f:Pd->qj Int):(P.map f).flatten=((P.take i).map f).flatten++(f P[i]++((P.drop (i+1)).map f).flatten):=by
 conv=>lhs;rw[<- da i P,cF hi]
 rw[bA,List.flatten_append,cb,List.flatten_cons]
def shX(C:Cf)(P:qj Pd)(o:ql Pd):Ο:=hdB C++(((P.length+o.toList.length:Nat):Int)::((P.map (pdB C P)).flatten++(o.toList.map (pdB C P)).flatten))
def ybg(C:Cf)(P:qj Pd):shX C P none=shB C P:=by unfold shX shB;rw[show ((none:ql Pd).toList.map (pdB C P)).flatten=[]from rfl,cT];rfl
def Mor(C:Cf)(P:qj Pd)(o:ql Pd):Prop:=∀q,o=some q->P.length=60/\PdM C P q
#synth yer ["self","store","place"] ["self"] yrt
#synth ∀(K:xy)(a:Ads),∀(r dr dl:qa)(C:Cf)(P:qj Pd)(o:ql Pd)(_:vs=[.ref r])(_:RdR a H r dr dl (shX C P o) 0)(_:Byt (shX C P o))(_:yxd C P)(_:Mor C P o)(_:(o=none->∀st X H',Sto K a H' st C P X->But r H H'->(∀y,X.f y->H y=none)->Q (.ref st) H'))(_:(o≠none->∀H',But r H H'->E (.ref a.Ae) none H')),yj2
def yvu:'e' 15 a.Kc a.Kx ["self"] (yj2 K a):=by
 exists T.If.F.okE,yer,hr;let#[r,D,j,C,P,o,J,h,O,x,hM,k,kE]:=h;let d:=h.me;have hx:(shX C P o).drop 0=hdB C++(((P.length+o.toList.length:Nat):Int)::((P.map (pdB C P)).flatten++(o.toList.map (pdB C P)).flatten)):=rfl;let N:=uv hx;have L:(shX C P o).drop (0+(hdB C).length+1)=(P.map (pdB C P)).flatten++(o.toList.map (pdB C P)).flatten:=uv (A:=[_]) N;let hz:=x.z
 have a7:o.toList.length<=1:=by
  cases o with
  |none=>decide
  |some q=>erw[bx 1]
 erw[yi (pst 1 yer.nd (vg (pv 0) T.Aa T.Ib.m (yuf T) hr.m T.Ib.B .nil vo)) ?_,<-yi (jt PassesOwn.leaving J (zl J T.Ax (pa1 (vg (pv 0) T.Aa T.Ay.m (đ T) hr.m T.Ay.B .nil vo))) (xb (i:=2) yer.nd J (Or.inl J)) (yc (yw (vi (pv 0) T.Aa T.Ie.m (yu7 T) hr.m T.Ie.B .nil vd (pav 1))))) ?_,<-yi (vq (yt ybu pfs (pcB yq T.Af (pa1 pfs)) (ve _)) (yc (xg J T.Bj T.Dk (pa1 yr))) yy) ?_];exists 1,2,yc (yp (pv 1));erw[r,D,j,_,0,C,_,J,h,hx,x.c,λS X H1 a2 h1 b1 n1=>?_];let R:=h1.me;ext;erw[r,D,j,_,_,_,_,J,h1,N,λH2 h2 W=>?_];have nr:¬X.f r:=λw=>by rw[n1 r w]at d;cases d
 let u:=a2.but (WSh.mu R J) nr W;ext;erw[_,J,(),(),À (n:=((P.length+o.toList.length:Nat):Int).toNat) (λi σ2 G=>∃X v2,σ2=[some (.ref r),some (.ref S),v2]/\i<=P.length/\Sto K a G S C (P.take i) X/\RdR a G r D j (shX C P o) (0+(hdB C).length+1+(((P.take i).map (pdB C P)).flatten).length)/\But r H G/\∀y,X.f y->H y=none) #[X,_,J,bR _,u,h2,b1.trans W,n1] ?_ ?_]
 .rintro i σ2 G v ⟨X,v2,rfl,a3,I,p,M,t⟩;let g:=p.me;rcases Nat.lt_or_ge i P.length with v|a4
  .let#[ς,eN]:=x.nx v;ext;erw[r,D,j,_,_,S,C,P.take i,X,P[i],_,J,p,I,(λw=>by rw[t r w]at d;cases d),(λw=>by have e:=h.dl;rw[t j w]at e;cases e),O,uv (by rw[L,eN,vhs v,bX,bX]),#[ς.nm,ς.no,ς.s,ς.l,ς.to],λF Y G2 u U fr nY=>?_,λz=>absurd ς.z ()];ext;exists Y,_,J,v,by rwa[bV v,u],?_,λb o e n=>fr b o (M b o e n) (λw=>by rw[t b w]at e;cases e) n,λy hy=>(nY y hy).elim (t y) λe=>M.non g e
   rw[eN,Nat.add_assoc]at U;rwa[yf6 C (bp v),bq,U]
  .obtain rfl:i=P.length:=()
   rw[cq]at I p
   cases o with
   |none=>erw[absurd v (by show ¬_<Int.toNat ((P.length+0:Nat):Int);omega)]
   |some q =>
    let#[a5,hq]:=hM q J;ext
    erw[r,D,j,_,_,S,C,P,X,q,_,J,p,I,(λw=>by rw[t r w]at d;cases d),(λw=>by have e:=h.dl;rw[t j w]at e;cases e),O,uv (A:=(P.map (pdB C P)).flatten) (by rw[L];rfl),hq,(λz=>absurd z ()),λF G2 W=>kE (λz=>nomatch z) G2 (M.trans W)]
 rintro σ2 G ⟨X,v2,rfl,a3,I,p,M,t⟩;have Z:o.toList.length=0:=()
 have a0:o=none:=by
  cases o with
  |none=>rfl
  |some q=>cases Z
 subst a0;rw[show (((P.length+(none:ql Pd).toList.length:Nat):Int)).toNat=P.length from rfl,cq]at I p;let g:=p.me
 have hl:0+(hdB C).length+1+((P.map (pdB C P)).flatten).length=(shX C P none).length:=by
  rw[ybg];unfold shB;rw[bq,bN];omega
 rw[hl]at g;ext;erw[ur (SqL.of p.dl) ?_];rw[bo];ext;erw[za (λz=>absurd z ()) (λF=>?_),←k J S X G I M t]
#synth yle ["data","e"] ["data"] yrb
#synth ∀(K:xy)(a:Ads),∀(l:qa)(C:Cf)(P:qj Pd)(o:ql Pd)(_:vs=[.ref l])(_:H l\((shX C P o).map V.int))(_:Byt (shX C P o))(_:(shX C P o).length<=100000)(_:yxd C P)(_:Mor C P o)(_:(o=none->∀st X H',Sto K a H' st C P X->yu H H'->(∀y,X.f y->H y=none)->Q (.ref st) H'))(_:(o≠none->∀dd H',yu H H'->E (.ref a.Ab) dd H')),yjk
def yku:'e' 16 a.Kd a.Ky ["data"] (yjk K a):=by
 exists T.Ig.F.okE,yle,ς;let#[l,C,P,o,J,I,q,hz,L,Z,k,kE]:=h;exists 1,1,yh (vq (ue (xm (ut (ywn T) ς.m T.O4 (pac (pv 0) (pa1 (vw J T.Gn)))))) (yc (xg J T.Bj T.Dk (pa1 yr))) yy) (yc (ć (λG Ex=>(yc (yp (ykj (à T.Nj (vb8 T) ς.m J T.Ni T.Ul.B .nil vo (pa1 (pcT (r:=yll K) wk T.At (pav 0)))) T.Aa T.If.m (yvu T) ς.m T.If.B .nil zi)))) #[J,J] (ytk (i:=1) (cs:=[a.Az,a.Ac,a.A2,a.A9,a.Ae,a.Bm]) (λG x=>we (x9 (vt J T.Nk) (x9 (vt J T.D4) (x9 (vt J T.Av) (x9 (vt J T.D5) (x9 (vt J T.Io) (x9 (vt J T.O7) xo (xx J)) (xx J)) (xx J)) (xx J)) (xx J)) (xx J))) (λσ H Q h=>#[by show 6<=sizeLine;decide,h]) #[J,J] yle.nd J J (λG x=>(pv 1)) J T.Bj T.Dk T.Jl (λG x=>(pa1 yr)) vd (ytc vd))));erw[.ref l,"list",1000000,J,.lst I,.inr #[_,#[l,J,I,zu _,by rwa[bo,hz],?_],λH1 Y=>?_]]
 .rw[yep q,Bool.and_true,bo,bz ()]
 ext;erw[ŵ ?_,←l,_,J,.inl (SqL.of (Y _ _ I)),λM hdl0=>?_];exists hdl0,H2,S2,hdl2;ext;intro r u c n a1;have R:yu H2 (upd (upd H2 u (.own r)) r (.ins a.A8 u [])):=λb o e=>by rwa[yn (yb e c),yn (yb e n),e]
 erw[r,u,M,shX C P o,J,ya,R _ _ hdl2,λO U b3=>#[J,?_]];let S:=U.me;let d:=Y.trans S2;have S3:yu H2 O:=λb o e=>b3 _ _ (R _ _ e) (yb e c);let f:=d.trans S3;have j:∀{g:Hp},But r O g->yu H g:=λt b o e=>t _ _ (f _ _ e) (yb (d _ _ e) c);ext;erw[r,u,M,C,P,o,J,U,q,L,Z,λz st X g hS t n4=>k z st X g hS (j t) λy hy=>f.free (n4 y hy),λz g t=>?_];let W:=j t;erw[vhl (λD N=>?_) #[a.Ae,'s',T.By] T.Nn λx p hx hp ne=>?_]
 .simp only[bH,List.not_mem_nil,or_false]at N;rcases N with rfl|rfl|rfl|rfl|rfl|rfl
  .erw[_,T.Ek]
  .erw[_,T.C8]
  .erw[_,T.El]
  .erw[_,T.Fc]
  .erw[_,T.By]
  .erw[_,T.Em]
 ext;exists 'l',kE z _ _ λb o e=>yg (yb (W _ _ e) hp) (W _ _ e)
#synth yej ["_law_script","_law_k","_law_cell"] ["_law_script","_law_k"] yp4
#synth ∀(K:xy),∀(l:qa)(ns:Ο)(j:Nat)(_:vs=[.ref l,.int j])(_:SqL K H l (ns.map V.int))(_:j<=1000)(_:∀n:Int,0<=n->n<2147483647->Q (.int n) H),yye
def ņ:'v' 1 a.Ke a.Kz ["_law_script","_law_k"] (yye K):=by
 exists T.Di.F.ok,yej,q;let#[l,e,j,J,f,n,k]:=h;exists 2,1,yh (pst 2 yej.nd yd) (yh (zn (vq (yt ybu (pv 1) (pcB yq T.Af (pav 0)) (ve _)) (yc (pst 2 yej.nd (yo wo (pix wq (pv 0) (pv 1)) yd))) yy)) (yc (yp (yo wo (yo xk (yo wl (yo wl (yo wl (yo xk (pv 2) (pv 2)) (yo xk yd (pv 2))) (yo xk (yo xk yd (pv 1)) (pv 1))) yd) yd) yd))));erw[ø (λσ' G=>H=G/\∃c:Int,σ'=[some (.ref l),some (.int j),some (.int c)]/\0<=c/\c<2147483629) ?_ ?_]
 .ext;erw[ur f ?_];rw[bo];ext;refine za (λm=>?_) (λm=>?_)
  .have b:j<e.length:=()
   ext;erw[zq (v:=V.int e[j]) f (wt (by rw[bB,bp b];rfl)) ?_,←J,_,J,cK _ ∅,cA _ ∅]
  .ext;erw[J,0,J,∅,∅]
 .rintro σ' G ⟨rfl,c,rfl,p,t⟩;have o:(0:Int)<=(j:Int)/\(j:Int)<=1000:=()
  have r:(0:Int)<=5*(j:Int)/\5*(j:Int)<=5000:=()
  ext;erw[k _ (cK _ ∅) (cA _ ∅)]
#synth Â ["_law_cell","_law_most","_law_many","_law_looks_here","_law_k","_law_marks","_law_places"] ["_law_cell","_law_most"] ysq
#synth ∀(c:Int)(m:Nat)(_:vs=[.int c,.int m])(_:0<=c)(_:c<2147483647)(_:1<=m)(_:m<=6)(_:∀r(n:Nat)(lk:Λ)(kd:Ν)(tp:Λ)(ps:Κ)H',H r=none->H' r\(refs lk n)->1<=n->n<=m->uk H' n lk kd tp ps->yu H H'->Q (.ref r) H'),yn5
def yu9:'v' 1 a.Kg a.L1 ["_law_cell","_law_most"] yn5:=by
 exists T.Mz.F.ok,Â,hr;let#[c,m,J,X,Y,m1,m6,k]:=h;have mp:(0:Int)<(m:Int):=()
 erw[yi (pst 2 Â.nd (yo wl yd (yo wo (pv 0) (pv 1)))) ?_,<-yi (pst 3 Â.nd (vn xo)) ?_,<-yi (jt PassesOwn.never J (zl J T.Ax (pav 2)) (xb (i:=4) Â.nd J (Or.inl J)) (yh (pst 0 Â.nd (yo wo (yo wl (yo wl (yo xk (pv 0) yd) (yo xk yd (pv 4))) yd) yd)) (yh (ö (i:=5) Â.nd J (Or.inr J) (yo yqc (yo wo (yo vk (pv 0) yd) yd) (yo wo (yo vk (pv 0) yd) yd))) (yh (zn (vq (yt xj (yo wo (yo vk (pv 0) yd) yd) yd (ve _)) (yc (ö (i:=5) Â.nd J (Or.inr J) (yo wo (yo vk (pv 0) yd) yd))) yy)) (yh (yfx (i:=6) (js:=[5]) (ys:=["_law_marks"]) Â.nd J J J (yck J T.Ax (pac yd (pa1 yd))) (λC s2 H2 fp=>(yt xj (yo yqc (yo yqp (pv 1) (yo jg (pv 0) yd)) yd) yd (ve _))) (λC s2 H2 fp=>(pv 0)) J J (hyc:=(all_cons J yv)) (hrel:=(all_cons J yv))) (yc (yw ('u' (pv 3) (pa1 (we (pac (pix wq (vn (pac yr (pac yr (pa1 yr)))) (yo wo (pv 0) yd)) (pa1 (pcT δ T.Db (pa1 (uh jb (pv 6) zf (ux yd)))))))))))))))) ?_];exists 2,5,yc (yp (pv 3))
 obtain⟨n,hn,n1,n6⟩:∃n:Nat,1+c%(m:Int)=(n:Int)/\1<=n/\n<=m:=by
  let h0:=cK c (show (m:Int)≠0 by omega);let h1:=cA c mp;erw[(1+c%(m:Int)).toNat,(),(),()]
 rw[hn];exists 'l',λL hL0=>?_
 exists hL0,H1,S1,hL1;ext;erw[_,J,(),(),À (n:=n) (λi σ2 G=>∃(c:Int)(v1 v2 W:ql V)(r:Λ)(I:Ν)(R:Λ)(M:Κ),σ2=[some (.int c),some (.int m),some (.int n),some (.ref L),v1,v2,W]/\0<=c/\c<2147483647/\G L\(refs r i)/\uk G i r I R M/\yu H G)
  #[c,_,_,_,λF=>0,λF=>0,λF=>0,λF=>[],J,X,Y,hL1,λj q=>absurd q (bS j),S1] ?_ ?_]
 .clear hn X Y c;rintro i σ2 G hi ⟨c,v1,v2,W,r,I,R,M,rfl,X,Y,gL,gR,SG⟩;ext;have d0:0<=(c*48271+11*(0+(i:Int))+7)%2147483647:=cK _ ∅;have d1:(c*48271+11*(0+(i:Int))+7)%2147483647<2147483647:=cA _ ∅;generalize (c*48271+11*(0+(i:Int))+7)%2147483647=d at d0 d1⊢;refine ø (λσ' v=>G=v/\∃mk:Int,σ'=[some (.int d),some (.int m),some (.int n),some (.ref L),some (.int (0+(i:Int))),some (.int mk),W]) ?_ ?_
  .ext;refine za (λhb=>?_) (λhb=>?_)
   .ext;exists J,_,rfl
   .ext;exists J,_,rfl
  rintro σ' v ⟨rfl,mk,rfl⟩;ext;erw[1,9,J,#[∅,∅,∅,∅],λD hD=>?_]
  erw[yed (lo:=1) (n:=8) (λj v=>∃f:Ο,v D\(f.map V.int)/\(∀p∈f,1<=p/\p<=(j:Int))/\f.Pairwise (· < ·)/\f.length<=j/\yu G v) #[[],ya,λF z=>(nomatch z),List.Pairwise.nil,bx _,yz hD] (λj v q z=>?_) (λG3 z=>?_)]
  .let#[f,h1,Z,h3,h4,S]:=z;ext;erw[i_I () ?_];ext;refine za (λhb=>?_) (λhb=>?_)
   .ext;erw[xu (n:=8) h1 (vv (by rw[bo];omega)) q ?_];exists f++[1+(j:Int)],by rw[ya,bA];rfl,λp O=>?_,?_,by rw[bq];show _+1<=_;omega,λb o e=>yg (yb e hD) (S b o e)
    .rcases bQ.mp O with h|h
     .have:=Z p h;omega
     .rw[bO.mp h];omega
    .erw[List.pairwise_append.mpr #[h3,List.pairwise_singleton _ _,λx hx y hy=>?_]];rw[bO.mp hy];have:=Z x hx;omega
   .erw[ycd (n:=8) q #[f,h1,λp O=>by have:=Z p O;omega,h3,(),S]]
  let#[f,a1,O,hw,_,S3]:=z;let U:=S3 _ _ gL;ext;erw[υ U ?_];ext;exists 'l',λq2 hq2=>?_
  exists hq2,G4,T4,hq4;ext;let#[kk,hk]:=yt1 d;erw[zq (SqL.of hq4) hk ?_,←Ŏ (SqL.of (T4 _ _ a1)) λu hu=>?_];have ec:ydg (f.map V.int) none (some 4)=(f.take 4).map V.int:=by rwa[List.map_take,jm 4]
  rw[ec];exists hu,G5,T5,hu5;erw[u,_,J,.inl #[SqL.of hu5,λB htp=>?_]];exists htp,G6,T6,htp6;ext;exists 'l',λt ht=>?_
  exists ht,G7,T7,ht7;let N:=T4.trans (T5.trans (T6.trans T7));let l:=N _ _ U;let ς:=S3.trans N;ext;erw[uw l (vv (by rw[wb];omega)) ?_];have g7:LkG G7 (.ref t) kk B (f.take 4):=#[t,J,ht7,T7 _ _ htp6,ykm (by rw[bT];omega) (λp h=>O p (cH h)) hw.take];ext;erw[d,_,_,_,upN r i t,upN I i kk,upN R i B,upN M i (f.take 4),J,d0,d1,?_,λj q=>?_,λb o e=>yg (yb e hL0) (ς _ _ (SG b o e))]
  .rw[ya,ja,xv]
   congr 3
   erw[zy λj q=>(xp q).symm]
  .by_cases z:j=i
   .subst z;rwa[xv,xv,xv,xv,g7.upd l]
   .have g:j<i:=()
    rwa[xp g,xp g,xp g,xp g,((gR j g).same ς).upd l]
 .rintro σ2 G ⟨c,v1,v2,W,r,I,R,M,rfl,X,Y,gL,gR,SG⟩;ext;erw[k L n r I R M G hL0 gL n1 n6 gR SG]
def č{G:Hp}{l:qa}{v:V}(h:G l\[v])(b:LkB K G v false):ys5 K G (.ref l):=.inr #[l,[v],[false],J,h,by show 1<=1000;decide,ydj.one b,'s']
def vdw{G:Hp}{t:qa}{y z:V}{n:String}(h:G t∪[y,z])(ty:xf K G y (.type n))(hk:yfj y=false):LkB K G (.ref t) false:=.inr #[t,_,J,h,.inr #[y,z,n,J,ty,.inl #[hk,J]]]
def yiq{G:Hp}{t:qa}{x:Str}{xs:Τ}(h:G t∪[.str x,.ref q])(hk:yfj (.str x)=true)(hq:G q∪xs)(hl:xs.length<=100)(ht:∀y∈xs,∃n,xf K G y (.type n))(hp:zg xs=false):LkB K G (.ref t) false:=.inr #[t,_,J,h,.inr #[_,_,"str",J,.str _,.inr #[hk,.inr #[q,xs,J,hq,ck hl ∅,ht,hp.symm]]]]
theorem yf5{G:Hp}{v:V}(b:LkB K G v true):∀n,ydj K G (List.replicate n v) (List.replicate n true)
 |0=>#[J,λi y b h=>by simp at h]
 |n+1=>by
  let h:=(ydj.one b).append (yf5 b n);erw[h]
#synth ybd ["_law_cell","_law_some"] ["_law_cell"] yr0
#synth ∀(K:xy),∀(c:Int)(_:vs=[.int c])(_:0<=c)(_:∀v H',ys5 K H' v->yu H H'->Q v H'),yv5
def yto:'v' 1 a.Kh a.L6 ["_law_cell"] (yv5 K):=by
 exists T.N2.F.ok,ybd,hr;let#[c,J,c0,k]:=h;erw[j3 (Ŵ (i:=1) ybd.nd J (Or.inl J) (ň (vh (wc (vn xo)) (vh (wc (we (pa1 yr))) (vh (wc (yo ygs (vn (pa1 (we (pac yr (pa1 (we xo)))))) yd)) (vh (wc (vn (pa1 (we (pac yr (pa1 (we xo))))))) (vh (wc (vn (pa1 (we (pac yr (pa1 (we (pa1 yd)))))))) (vh (wc (vn (pa1 (we (pac yr (pa1 (we (pa1 yd)))))))) (vh (wc (vn (pa1 (we (pac yr (pa1 (we (pac yd (pa1 yd))))))))) ō J) J) J) J) J) J) J)) (Or.inl J) J) ?_,<-j3 (Ŵ (i:=1) ybd.nd J (Or.inl J) (ywo zt (wc (pv 1)) (ň (vh (wc (vn (pa1 (we (pac yr (pa1 (we (pac yd (pa1 yd))))))))) (vh (wc (vn (pa1 (we (pac yr (pa1 (vn (pa1 yd)))))))) (vh (wc (vn (pa1 (vn (pac yr (pa1 (we (pa1 yd)))))))) (vh (wc (vn (pa1 (we (pac yr (pa1 (we (pac yd (pac yd (pac yd (pac yd (pa1 yd)))))))))))) (vh (wc (vn (pa1 (we (pa1 yr))))) (vh (wc uq) ō J) J) J) J) J) J))) (Or.inl J) J) ?_,<-j3 (Ŵ (i:=1) ybd.nd J (Or.inl J) (ywo zt (wc (pv 1)) (ň (vh (wc yr) (vh (wc (we (pa1 (we (pac yr (pa1 (we xo))))))) (vh (wc (vn (pa1 (we (pac yr (pa1 (we (pa1 χ)))))))) (vh (wc (vn (pa1 (we (pac yd (pa1 (we xo))))))) (vh (wc yd) (vh (wc (vn (pa1 (we (pac yr (pac (we xo) (pa1 yd))))))) (vh (wc (vn (pa1 uq))) ō J) J) J) J) J) J) J))) (Or.inl J) J) ?_];exists 1,1,yc (yp (pix wq (pv 1) (yo wo (pv 0) yd)));exists 'l',λx1 xg1=>?_
 exists xg1,xH1,xS1,xe1;ext;exists 'l',λx2 xg2=>?_
 exists xg2,xH2,xS2,xe2;ext;exists 'l',λx3 xg3=>?_
 exists xg3,xH3,xS3,xe3;ext;exists 'l',λx4 xg4=>?_
 exists xg4,xH4,xS4,xe4;ext;exists 'l',λx5 xg5=>?_
 exists xg5,xH5,xS5,xe5;let a2:=xS5;let xe4:=a2 _ _ xe4;let I:=xS4.trans a2;let xe3:=I _ _ xe3;let G:=xS3.trans I;let xe2:=G _ _ xe2;let D:=xS2.trans G;let xe1:=D _ _ xe1;let ai:=xS1.trans D;ext;erw[x5,7,_,J,J,xe5,∅,∅,w9 (by show 1*7<=16000000;decide),λr gr=>?_]
 have er:(List.replicate (7:Int).toNat [V.ref x4]).flatten=List.replicate 7 (V.ref x4):=rfl;rw[er];exists gr,J1,JS,je;ext;exists 'l',λy1 yg1=>?_
 exists yg1,yH1,yS1,ye1;ext;exists 'l',λy2 yg2=>?_
 exists yg2,yH2,yS2,ye2;ext;exists 'l',λy3 yg3=>?_
 exists yg3,yH3,yS3,ye3;ext;exists 'l',λy4 yg4=>?_
 exists yg4,yH4,yS4,ye4;ext;exists 'l',λy5 yg5=>?_
 exists yg5,yH5,yS5,ye5;ext;exists 'l',λy6 yg6=>?_
 exists yg6,yH6,yS6,ye6;ext;exists 'l',λy7 yg7=>?_
 exists yg7,yH7,yS7,ye7;ext;exists 'l',λy8 yg8=>?_
 exists yg8,yH8,yS8,ye8;ext;exists 'l',λy9 yg9=>?_
 exists yg9,yH9,yS9,ye9;ext;exists 'l',λau yg10=>?_
 exists yg10,yH10,yS10,ye10;ext;exists 'l',λav yg11=>?_
 exists yg11,yH11,yS11,ye11;ext;exists 'l',λag yg12=>?_
 exists yg12,yH12,yS12,ye12;ext;exists 'l',λap yg13=>?_
 exists yg13,yH13,yS13,ye13;let e:=yS13;let ye12:=e _ _ ye12;let p:=yS12.trans e;let ye11:=p _ _ ye11;let o:=yS11.trans p;let ye10:=o _ _ ye10;let a3:=yS10.trans o;let ye9:=a3 _ _ ye9;let ab:=yS9.trans a3;let ye8:=ab _ _ ye8;let a6:=yS8.trans ab;let ye7:=a6 _ _ ye7;let W:=yS7.trans a6;let ye6:=W _ _ ye6;let a8:=yS6.trans W;let ye5:=a8 _ _ ye5;let O:=yS5.trans a8;let ye4:=O _ _ ye4;let M:=yS4.trans O;let ye3:=M _ _ ye3;let ς:=yS3.trans M;let ye2:=ς _ _ ye2;let a5:=yS2.trans ς;let ye1:=a5 _ _ ye1;let x:=yS1.trans a5;ext;ext;exists 'l',λz1 zg1=>?_
 exists zg1,zH1,zS1,ze1;ext;exists 'l',λz2 zg2=>?_
 exists zg2,zH2,zS2,ze2;ext;exists 'l',λz3 zg3=>?_
 exists zg3,zH3,zS3,ze3;ext;exists 'l',λz4 zg4=>?_
 exists zg4,zH4,zS4,ze4;ext;exists 'l',λz5 zg5=>?_
 exists zg5,zH5,zS5,ze5;ext;exists 'l',λz6 zg6=>?_
 exists zg6,zH6,zS6,ze6;ext;exists 'l',λz7 zg7=>?_
 exists zg7,zH7,zS7,ze7;ext;exists 'l',λz8 zg8=>?_
 exists zg8,zH8,zS8,ze8;ext;exists 'l',λz9 zg9=>?_
 exists zg9,zH9,zS9,ze9;ext;exists 'l',λas zg10=>?_
 exists zg10,zH10,zS10,ze10;ext;exists 'l',λay zg11=>?_
 exists zg11,zH11,zS11,ze11;ext;exists 'l',λar zg12=>?_
 exists zg12,zH12,zS12,ze12;ext;exists 'l',λaf zg13=>?_
 exists zg13,zH13,zS13,ze13;ext;exists 'l',λaj zg14=>?_
 exists zg14,zH14,zS14,ze14;ext;exists 'l',λal zg15=>?_
 exists zg15,zH15,zS15,ze15;let n:=zS15;let ze14:=n _ _ ze14;let g:=zS14.trans n;let ze13:=g _ _ ze13;let d:=zS13.trans g;let ze12:=d _ _ ze12;let f:=zS12.trans d;let ze11:=f _ _ ze11;let l:=zS11.trans f;let ze10:=l _ _ ze10;let B:=zS10.trans l;let ze9:=B _ _ ze9;let N:=zS9.trans B;let ze8:=N _ _ ze8;let C:=zS8.trans N;let ze7:=C _ _ ze7;let ae:=zS7.trans C;let ze6:=ae _ _ ze6;let zT5:=zS6.trans ae;let ze5:=zT5 _ _ ze5;let zT4:=zS5.trans zT5;let ze4:=zT4 _ _ ze4;let zT3:=zS4.trans zT4;let ze3:=zT3 _ _ ze3;let zT2:=zS3.trans zT3;let ze2:=zT2 _ _ ze2;let zT1:=zS2.trans zT2;let ze1:=zT1 _ _ ze1;let a0:=zS1.trans zT1;ext;erw[ap,al,_,_,J,J,a0 _ _ ye13,ze15,w9 (by show 13<=16000000;decide),λr2 gr2=>?_];exists gr2,J2,JS2,je2;ext;exists 'l',λu1 ug1=>?_
 exists ug1,uH1,uS1,ue1;ext;exists 'l',λu2 ug2=>?_
 exists ug2,uH2,uS2,ue2;ext;exists 'l',λu3 ug3=>?_
 exists ug3,uH3,uS3,ue3;ext;exists 'l',λu4 ug4=>?_
 exists ug4,uH4,uS4,ue4;ext;exists 'l',λu5 ug5=>?_
 exists ug5,uH5,uS5,ue5;ext;exists 'l',λu6 ug6=>?_
 exists ug6,uH6,uS6,ue6;ext;exists 'l',λu7 ug7=>?_
 exists ug7,uH7,uS7,ue7;ext;exists 'l',λu8 ug8=>?_
 exists ug8,uH8,uS8,ue8;ext;exists 'l',λu9 ug9=>?_
 exists ug9,uH9,uS9,ue9;ext;exists 'l',λaw ug10=>?_
 exists ug10,uH10,uS10,ue10;ext;exists 'l',λan ug11=>?_
 exists ug11,uH11,uS11,ue11;ext;exists 'l',λah ug12=>?_
 exists ug12,uH12,uS12,ue12;ext;exists 'l',λak ug13=>?_
 exists ug13,uH13,uS13,ue13;ext;exists 'l',λam ug14=>?_
 exists ug14,uH14,uS14,ue14;let j:=uS14;let ue13:=j _ _ ue13;let t:=uS13.trans j;let ue12:=t _ _ ue12;let q:=uS12.trans t;let ue11:=q _ _ ue11;let m:=uS11.trans q;let ue10:=m _ _ ue10;let a4:=uS10.trans m;let ue9:=a4 _ _ ue9;let ad:=uS9.trans a4;let ue8:=ad _ _ ue8;let u:=uS8.trans ad;let ue7:=u _ _ ue7;let ac:=uS7.trans u;let ue6:=ac _ _ ue6;let a9:=uS6.trans ac;let ue5:=a9 _ _ ue5;let aa:=uS5.trans a9;let ue4:=aa _ _ ue4;let a7:=uS4.trans aa;let ue3:=a7 _ _ ue3;let R:=uS3.trans a7;let ue2:=R _ _ ue2;let L:=uS2.trans R;let ue1:=L _ _ ue1;let a1:=uS1.trans L;ext;erw[r2,am,_,_,J,J,a1 _ _ je2,ue14,w9 (by show 20<=16000000;decide),λr3 gr3=>?_];exists gr3,J3,JS3,je3;ext;let U:=JS3;let Z:=JS2.trans (a1.trans U);let Y:=a0.trans Z;let X:=JS.trans (x.trans Y);let S:=ai.trans X;let#[v,hv,ao]:=ybk (xs:=[V.ref x1,V.ref x2,V.ref r,V.ref y3,V.ref y6,V.ref y9,V.ref ag]++[V.ref z3,V.ref z6,V.ref z9,V.ref ar,V.ref aj,V.non]++[V.str "even",V.ref u3,V.ref u6,V.ref u9,V.int 3,V.ref ah,V.ref ak]) (i:=c%20) (cK _ ∅) (by show _<(20:Int);erw[cA _ ∅]);erw[zq (SqL.of je3) ao ?_,<-k v _ ?_ S];simp only[List.cons_append,List.nil_append,bH,List.not_mem_nil,or_false]at hv;rcases hv with rfl|rfl|rfl|rfl|rfl|rfl|rfl|rfl|rfl|rfl|rfl|rfl|rfl|rfl|rfl|rfl|rfl|rfl|rfl|rfl
 .erw[.inr #[x1,[],[],J,X _ _ xe1,∅,#[J,λi y b h=>by simp at h],'s']]
 .erw[.inl #[_,.tup (X _ _ xe2),∅]]
 .refine .inr #[r,_,List.replicate 7 true,J,Y _ _ (x _ _ je),by show 7<=1000;decide,yf5 ?_ 7,λz=>absurd z.2.1 (by show ¬7<=6;decide)]
  erw[.inr #[x4,_,J,X _ _ xe4,.inr #[_,_,"str",J,.str _,.inr #[∅,.inr #[x3,[],J,X _ _ xe3,∅,λF z=>(nomatch z),J]]]]]
 .erw[č (Y _ _ ye3) (vdw (Y _ _ ye2) (.str _) ∅)]
 .erw[č (Y _ _ ye6) (yiq (Y _ _ ye5) ∅ (Y _ _ ye4) ∅ (all_cons #[_,.int _] yv) ∅)]
 .erw[č (Y _ _ ye9) (yiq (Y _ _ ye8) ∅ (Y _ _ ye7) ∅ (all_cons #[_,.int _] yv) ∅)]
 .erw[č (Y _ _ ye12) (yiq (Y _ _ ye11) ∅ (Y _ _ ye10) ∅ (all_cons #[_,.int _] (all_cons #[_,.int _] yv)) ∅)]
 .erw[č (Z _ _ ze3) (yiq (Z _ _ ze2) ∅ (Z _ _ ze1) ∅ (all_cons #[_,.int _] (all_cons #[_,.int _] yv)) ∅)]
 .erw[č (Z _ _ ze6) (.inr #[z5,_,J,Z _ _ ze5,.inr #[_,_,"str",J,.str _,.inr #[∅,.inl #[_,.lst (Z _ _ ze4),∅,J]]]])]
 .erw[č (Z _ _ ze9) (.inl #[_,.lst (Z _ _ ze8),∅,J])]
 .erw[č (Z _ _ ze12) (yiq (Z _ _ ze11) ∅ (Z _ _ ze10) ∅ (all_cons #[_,.int _] (all_cons #[_,.int _] (all_cons #[_,.int _] (all_cons #[_,.int _] (all_cons #[_,.int _] yv))))) ∅)]
 .erw[č (Z _ _ ze14) (.inr #[af,_,J,Z _ _ ze13,.inl #['s',J]])]
 .erw[.inl #[_,.non,∅]]
 .erw[.inl #[_,.str _,∅]]
 .erw[.inl #[_,.tup (U _ _ ue3),∅]]
 .erw[č (U _ _ ue6) (yiq (U _ _ ue5) ∅ (U _ _ ue4) ∅ (all_cons #[_,.bl _] yv) ∅)]
 .erw[č (U _ _ ue9) (vdw (U _ _ ue8) (.int _) ∅)]
 .erw[.inl #[_,.int _,∅]]
 .erw[č (U _ _ ue12) (.inr #[an,_,J,U _ _ ue11,.inl #['s',J]])]
 .erw[č (U _ _ ue13) (.inl #[_,.non,∅,J])]
#synth ybj ["_law_cell","_law_far","_law_some"] ["_law_cell"] yr3
#synth ∀(K:xy),∀(c:Int)(_:vs=[.int c])(_:0<=c)(_:∀v n H',xf K H' v (.type n)->Bad K H' v n 1000->Bad K H' v n 12000->yu H H'->Q v H'),yvo
def yli:'v' 1 a.Ki a.L7 ["_law_cell"] (yvo K):=by
 exists T.Ih.F.ok,ybj,hr;let#[c,J,c0,k]:=h;erw[yi (pst 1 ybj.nd (yo wo (yo vk (pv 0) yd) (yo (yvx 1000000000) yd yd))) ?_,<-j3 (Ŵ (i:=2) ybj.nd J (Or.inl J) (ň (vh (wc uq) (vh (wc (we (pac yd (pa1 yd)))) (vh (wc (vn (pa1 (yo wl yd (pv 1))))) (vh (wc (vn (pa1 (yo jg (yo jg yd yd) (pv 1))))) (vh (wc (vn (pa1 χ))) (vh (wc yr) (vh (wc (vn (pa1 yr))) (vh (wc (vn (pa1 (vn (pa1 yd))))) ō J) J) J) J) J) J) J) J)) (Or.inl J) J) ?_,<-j3 (Ŵ (i:=2) ybj.nd J (Or.inl J) (ywo zt (wc (pv 2)) (ň (vh (wc ya6) (vh (wc (pv 1)) (vh (wc (vn (pac yd (pa1 uq)))) (vh (wc (we xo)) (vh (wc χ) (vh (wc (vn (pac yd (pa1 yr)))) (vh (wc (vn (pac yd (pa1 χ)))) (vh (wc (vn (pa1 (we (pa1 yd))))) ō J) J) J) J) J) J) J) J))) (Or.inl J) J) ?_];exists 1,2,yc (yp (pix wq (pv 2) (yo wo (pv 0) yd)));have f0:0<=c/16%1000000000:=()
 generalize c/16%1000000000=G at f0;ext;exists 'l',λx1 xg1=>?_
 exists xg1,xH1,xS1,xe1;ext;exists 'l',λx2 xg2=>?_
 exists xg2,xH2,xS2,xe2;ext;exists 'l',λx3 xg3=>?_
 exists xg3,xH3,xS3,xe3;ext;exists 'l',λx4 xg4=>?_
 exists xg4,xH4,xS4,xe4;ext;exists 'l',λx5 xg5=>?_
 exists xg5,xH5,xS5,xe5;ext;exists 'l',λx6 xg6=>?_
 exists xg6,xH6,xS6,xe6;ext;exists 'l',λx7 xg7=>?_
 exists xg7,xH7,xS7,xe7;ext;exists 'l',λx8 xg8=>?_
 exists xg8,xH8,xS8,xe8;let j:=xS8;let xe7:=j _ _ xe7;let L:=xS7.trans j;let xe6:=L _ _ xe6;let M:=xS6.trans L;let xe5:=M _ _ xe5;let r:=xS5.trans M;let xe4:=r _ _ xe4;let C:=xS4.trans r;let xe3:=C _ _ xe3;let z:=xS3.trans C;let xe2:=z _ _ xe2;let y:=xS2.trans z;let xe1:=y _ _ xe1;let U:=xS1.trans y;ext;intro d gd;exists gd,J1,JS,je;ext;exists 'l',λy1 yg1=>?_
 exists yg1,yH1,yS1,ye1;ext;exists 'l',λy2 yg2=>?_
 exists yg2,yH2,yS2,ye2;ext;exists 'l',λy3 yg3=>?_
 exists yg3,yH3,yS3,ye3;ext;exists 'l',λy4 yg4=>?_
 exists yg4,yH4,yS4,ye4;ext;exists 'l',λy5 yg5=>?_
 exists yg5,yH5,yS5,ye5;ext;exists 'l',λy6 yg6=>?_
 exists yg6,yH6,yS6,ye6;ext;exists 'l',λZ yg7=>?_
 exists yg7,yH7,yS7,ye7;let B:=yS7;let ye6:=B _ _ ye6;let ς:=yS6.trans B;let ye5:=ς _ _ ye5;let u:=yS5.trans ς;let ye4:=u _ _ ye4;let o:=yS4.trans u;let ye3:=o _ _ ye3;let I:=yS3.trans o;let ye2:=I _ _ ye2;let x:=yS2.trans I;let ye1:=x _ _ ye1;let q:=yS1.trans x;ext;erw[x8,Z,_,_,J,J,q _ _ (JS _ _ xe8),ye7,w9 (by show 16<=16000000;decide),λr2 gr2=>?_];exists gr2,J2,JS2,je2;ext;let Y:=JS2;let D:=q.trans Y;let X:=JS.trans D;let S:=U.trans X;let#[v,W,N]:=ybk (xs:=[V.non,V.ref x1,V.ref x2,V.ref x3,V.ref x4,V.str "ab",V.ref x5,V.ref x7]++[V.ref d,V.int G,V.ref y1,V.ref y2,V.bl true,V.ref y3,V.ref y4,V.ref y6]) (i:=c%16) (cK _ ∅) (by show _<(16:Int);erw[cA _ ∅]);erw[zq (SqL.of je2) N ?_];have O:∀{p:qa}{xs:Τ}{m:Int},J2 p\xs->Typed K J2 xs->xs.length<=100->xs.all sgV=false->Bad K J2 (.ref p) "list" m:=λh t l e=>.inr #[_,_,J,h,t,(),by rw[e,Bool.and_false]];have g:∀{v:V}{n:String},xf K J2 v (.type n)->(∀m,Bad K J2 v n m)->Q v J2:=λt b=>k _ _ _ t (b _) (b _) S;have f:∀{p:qa}{xs:Τ},J2 p\xs->Typed K J2 xs->xs.length<=100->xs.all sgV=false->Q (.ref p) J2:=λh t l e=>g (.lst h) λm=>O h t l e;simp only[List.cons_append,List.nil_append,bH,List.not_mem_nil,or_false]at W;rcases W with rfl|rfl|rfl|rfl|rfl|rfl|rfl|rfl|rfl|rfl|rfl|rfl|rfl|rfl|rfl|rfl
 .erw[g .non λm=>.inl ∅]
 .erw[g (.tup (X _ _ xe1)) λm=>.inl ∅]
 .erw[f (X _ _ xe2) (zu [256+G]) (by show 1<=100;decide) (by show ((decide _ && decide _) && true)=false;rw[bD (p:=256+G<=255) (),Bool.and_false];rfl)]
 .erw[f (X _ _ xe3) (zu [0-1-G]) (by show 1<=100;decide) (by show ((decide _ && decide _) && true)=false;rw[bD (p:=0<=0-1-G) ()];rfl)]
 .erw[f (X _ _ xe4) (all_cons #[_,.bl _] yv) (by show 1<=100;decide) J]
 .erw[g (.str _) λm=>.inl ∅]
 .erw[f (X _ _ xe5) (all_cons #[_,.str _] yv) (by show 1<=100;decide) J]
 .erw[f (X _ _ xe7) (all_cons #[_,.lst (X _ _ xe6)] yv) (by show 1<=100;decide) J]
 .erw[g (.dT (D _ _ je)) λm=>.inl ∅]
 .erw[g (.int _) λm=>.inl ∅]
 .erw[f (Y _ _ ye1) (all_cons #[_,.int _] (all_cons #[_,.non] yv)) (by show 2<=100;decide) (Bool.and_false _)]
 .erw[g (.tup (Y _ _ ye2)) λm=>.inl ∅]
 .erw[g (.bl _) λm=>.inl ∅]
 .erw[f (Y _ _ ye3) (all_cons #[_,.int _] (all_cons #[_,.str _] yv)) (by show 2<=100;decide) (Bool.and_false _)]
 .erw[f (Y _ _ ye4) (all_cons #[_,.int _] (all_cons #[_,.bl _] yv)) (by show 2<=100;decide) (Bool.and_false _)]
 .erw[f (Y _ _ ye6) (all_cons #[_,.tup (Y _ _ ye5)] yv) (by show 1<=100;decide) J]
def yc1{x:Str}{c:Nat}(hc:c∈x.cps.toList)(h:c<97\/122<c):nmS x=false:=by
 cases e:nmS x with
 |false=>rfl
 |true =>
  have:=yew (yem e hc);omega
def ywb{x:Str}(h:8<x.length):nmS x=false:=by
 cases e:nmS x with
 |false=>rfl
 |true =>
  have:=zh e;omega
#synth yes ["_law_cell","_law_letter","_law_some"] ["_law_cell"] ysf
#synth ∀(K:xy),∀(c:Int)(_:vs=[.int c])(_:0<=c)(_:∀v n H',xf K H' v (.type n)->(∀s,v=.str s->s.length<=100)->nmV v=false->(c%12≠5->v≠.non)->yu H H'->Q v H'),yup
def yfb:'v' 1 a.Kj a.L8 ["_law_cell"] (yup K):=by
 exists T.Fw.F.ok,yes,Y;let#[c,J,c0,k]:=h;erw[yi (pst 1 yes.nd (zz yr (yo wo (yo vk (pv 0) yd) yd) (λZ Z=>rfl))) ?_,<-j3 (Ŵ (i:=2) yes.nd J (Or.inl J) (ň (vh (wc yr) (vh (wc (yo yh9 (pv 1) yd)) (vh (wc (yo uo yr (pv 1))) (vh (wc (yo uo (pv 1) yr)) (vh (wc (yo uo (pv 1) yr)) (vh (wc uq) (vh (wc (vn (pav 1))) (vh (wc yd) (vh (wc yr) (vh (wc (yo uo (yo uo (pv 1) yr) (pv 1))) ō J) J) J) J) J) J) J) J) J) J)) (Or.inl J) J) ?_];exists 1,2,yc (yp (pix wq (yo zt (pv 2) (vn (pac (we (pav 1)) (pa1 χ)))) (yo wo (pv 0) yd)));have m:0<=c/12%26:=()
 have o:c/12%26<26:=()
 generalize c/12%26=q at m o⊢;erw[smS,q,97+q.toNat,J,J,m,(),by rwa[yde,o],vhp m o,?_]
 ext;obtain⟨e,U⟩:∃e,e=97+q.toNat:=#[_,J];rwa[<- U,#[_,9,J,J,∅,∅,by show 1<=_;decide,λt f=>?_]]
 have f:t.cps.toList=(List.replicate 9 [e]).flatten:=f;have R:t.length=9:=by rw[Ã,f];rfl
 ext;erw[_,_,J,J,by show 1+1<=_;decide,?_]
 ext;erw[_,_,J,J,by show 1+1<=_;decide,?_]
 ext;erw[_,_,J,J,by show 1+1<=_;decide,?_]
 ext;exists 'l',λX g1=>?_
 exists g1,H1,S1,e1;ext;erw[_,_,J,J,by show 1+1<=_;decide,?_]
 ext;erw[_,_,J,J,by show 2+1<=_;decide,?_]
 ext;exists 'l',λO g2=>?_
 exists g2,H2,S2,e2;ext;exists 'l',λI g3=>?_
 exists g3,H3,S3,e3;ext;exists 'l',λD g4=>?_
 exists g4,H4,S4,e4;erw[O,D,_,_,J,J,S4 _ _ (S3 _ _ e2),e4,w9 (by show 10+2<=16000000;decide),λZ g5=>?_];exists g5,H5,S5,e5;ext;let l:=S4.trans S5;let g:=S2.trans (S3.trans l);let S:=S1.trans g;have u:(⟨#[e]⟩:Str).cps.toList=[e]:=rfl
 have r:∀i v,([V.str !"",.str t,.str (Str.ofString "A"++⟨#[e]⟩),.str (⟨#[e]⟩++Str.ofString "1"),.str (⟨#[e]⟩++Str.ofString " "),.non,.ref X,.int 7,.str !"-",.str (⟨#[e]⟩++Str.ofString "_"++⟨#[e]⟩)]++[.ref I,.bl true])[i]?=some v->∃n,xf K H5 v (.type n)/\(∀s,v=.str s->s.length<=100)/\nmV v=false/\(i≠5->v≠.non):=λi v hv=>by
  have d:∀{x:Str},x.length<=100->nmS x=false->∃n,xf K H5 (.str x) (.type n)/\(∀s,V.str x=.str s->s.length<=100)/\nmV (.str x)=false/\(i≠5->V.str x≠.non):=λL C=>#[_,.str _,(λs e=>by cases e;erw[L]),C,λZ z=>nomatch z]
  match i,hv with
  |0,hv=>cases hv;erw[d ∅ ∅]
  |1,hv=>cases hv;erw[d () (ywb ())]
  |2,hv=>cases hv;erw[d (by rw[Ã,zb];show 2<=100;decide) (yc1 (c:=65) (by rwa[zb,.head _]) ∅)]
  |3,hv=>cases hv;erw[d (by rw[Ã,zb];show 2<=100;decide) (yc1 (c:=49) (by rwa[zb,.tail _ (.head _)]) ∅)]
  |4,hv=>cases hv;erw[d (by rw[Ã,zb];show 2<=100;decide) (yc1 (c:=32) (by rwa[zb,.tail _ (.head _)]) ∅)]
  |5,hv=>cases hv;erw[_,.non,(λs e=>nomatch e),J,λz=>absurd J z]
  |6,hv=>cases hv;erw[_,.lst (g _ _ e1),(λs e=>nomatch e),J,λZ z=>nomatch z]
  |7,hv=>cases hv;erw[_,.int _,(λs e=>nomatch e),J,λZ z=>nomatch z]
  |8,hv=>cases hv;erw[d ∅ (yc1 (c:=45) (.head _) ∅)]
  |9,hv=>cases hv;erw[d (by rw[Ã,zb,zb];show 3<=100;decide) (yc1 (c:=95) (by rwa[zb,zb,.tail _ (.head _)]) ∅)]
  |10,hv=>cases hv;erw[_,.tup (l _ _ e3),(λs e=>nomatch e),J,λZ z=>nomatch z]
  |11,hv=>cases hv;erw[_,.bl _,(λs e=>nomatch e),J,λZ z=>nomatch z]
  |i+12,hv=>cases hv
 obtain⟨j,W,b⟩:∃j:Nat,c%12=(j:Int)/\j<12:=#[(c%12).toNat,(),()];rwa[W,zq (SqL.of e5) (wt (bp (by show j<12;erw[b]))) ?_];let#[n,N,y,B,G]:=r j _ (bp (by show j<12;erw[b]));erw[k _ n H5 N y B (λz=>G λe=>z ()) S]
def wdP(a:Ads)(C:qa)(wd:Str):Prop:=(C=a.Ae/\wd=Str.ofString "full")\/(C=a.A3/\wd=Str.ofString "piece")\/(C=a.A9/\wd=Str.ofString "taken")\/(C=a.A5/\wd=Str.ofString "long")\/(C=a.Ar/\wd=Str.ofString "text")\/(C=a.A2/\wd=Str.ofString "name")
#synth ua ["_law_store","_law_name","_law_text","_law_base","_law_word_here","e"] ["_law_store","_law_name","_law_text","_law_base"] yqf
#synth ∀(K:xy)(a:Ads),∀(st:qa)(C:Cf)(P:qj Pd)(X:Sx)(v t b:V)(_:vs=[.ref st,v,t,b])(_:Sto K a H st C P X)(_:((∃cc w,PuN K a H C P v t b cc/\wdP a cc w/\∀H',yu H H'->Q (.str w) H')\/∃(n:Str)(tx:qa)(ts:Ο)(x:Υ)(L:Η),v=.str n/\t=.ref tx/\b=baV x/\okN n/\ν H tx ts C.w/\ToD P x L/\(∀q,q∈P->q.nm≠n)/\P.length<60/\∀Y H',Sto K a H' st C (P++[#[n,x,L,ts]]) Y->Gx X H H' Y->Q (.str !"") H')),yn0
def ykx:'v' 14 a.Kk a.L9 ["_law_store","_law_name","_law_text","_law_base"] (yn0 K a):=by
 exists T.Ii.F.ok,ua,M;let#[N,C,P,X,v,t,b,J,y,h]:=h;let#[W,vl,vm,vp,vc,B]:=y.ins;exists 4,2,yh (pst 4 ua.nd yr) (yh (ć (λe Z=>(yc (yw (vi (pv 0) T.A1 T.Mv (ymp T) M.m T.Uh .nil zi (pac (pv 1) (pac (pv 2) (pav 3))))))) #[J,J] (yy5 (cs:=[a.Al,a.Au,a.Bf,a.Bg,a.Az,a.Ac,a.Bm,a.Ab,a.Ai]) (λe x=>we (x9 (vt J T.J8) (x9 (vt J T.Vr) (x9 (vt J T.Vp) (x9 (vt J T.Vq) (x9 (vt J T.Nk) (x9 (vt J T.D4) (x9 (vt J T.O7) (x9 (vt J T.Bj) (x9 (vt J T.Jg) xo (xx J)) (xx J)) (xx J)) (xx J)) (xx J)) (xx J)) (xx J)) (xx J)) (xx J))) (λσ H Q h=>#[by show 9<=sizeLine;decide,h]) (Î (i:=5) J T.Io (λe x=>(yh (pst 4 ua.nd yr) (yc (vq (xm (pcB (id:="isinstance") (r:=yim K) è T.A7 (pac (pv 5) (pa1 (we (pac (vt J T.Av) (pac (vt J T.Im) (pac (vt J T.B6) (pac (vt J T.D5) (pa1 (vt J T.Ca))))))))))) (yc (pst 4 ua.nd yr)) yy)))) ua.nd J J (Î (i:=5) J T.Ca (λe x=>(yh (pst 4 ua.nd yr) (yc (vq (xm (pcB (id:="isinstance") (r:=yim K) è T.A7 (pac (pv 5) (pa1 (we (pac (vt J T.Av) (pac (vt J T.Im) (pac (vt J T.B6) (pa1 (vt J T.D5)))))))))) (yc (pst 4 ua.nd yr)) yy)))) ua.nd J J (Î (i:=5) J T.D5 (λe x=>(yh (pst 4 ua.nd yr) (yc (vq (xm (pcB (id:="isinstance") (r:=yim K) è T.A7 (pac (pv 5) (pa1 (we (pac (vt J T.Av) (pac (vt J T.Im) (pa1 (vt J T.B6))))))))) (yc (pst 4 ua.nd yr)) yy)))) ua.nd J J (Î (i:=5) J T.B6 (λe x=>(yh (pst 4 ua.nd yr) (yc (vq (xm (pcB (id:="isinstance") (r:=yim K) è T.A7 (pac (pv 5) (pa1 (we (pac (vt J T.Av) (pa1 (vt J T.Im)))))))) (yc (pst 4 ua.nd yr)) yy)))) ua.nd J J (Î (i:=5) J T.Im (λe x=>(yh (pst 4 ua.nd yr) (yc (vq (xm (pcB (id:="isinstance") (r:=yw3 K) yaw T.A7 (pac (pv 5) (pa1 (vt J T.Av))))) (yc (pst 4 ua.nd yr)) yy)))) ua.nd J J (â J T.Av (λe x=>(yc (pst 4 ua.nd yr))) ydb)))))))) (yc (yp (pv 4))));erw[ŵ ?_];ext;rcases h with⟨U,w,S,ς,k⟩|⟨n,tx,ts,x,L,rfl,rfl,rfl,O,l,G,j,R,k⟩;rotate_left
 .erw[y.put O l G j R λY z q g1=>?_];ext;erw[k Y z q g1]
 erw[y.putN S λz f=>?_];rcases ς with⟨rfl,rfl⟩|⟨rfl,rfl⟩|⟨rfl,rfl⟩|⟨rfl,rfl⟩|⟨rfl,rfl⟩|⟨rfl,rfl⟩
 .erw[ű (all_cons T.Fb (all_cons T.Ir (all_cons T.Is (all_cons T.Iu (all_cons T.Ek (all_cons T.C8 (all_cons T.Em (all_cons T.E6 (all_cons T.E7 yv))))))))) λg g1=>?_];let d:=f.trans (yz (o:=HO.tup ([a.Al,a.Au,a.Bf,a.Bg,a.Az,a.Ac,a.Bm,a.Ab,a.Ai].map V.ref)) g1);erw[yit T.By λx hx=>?_];dsimp only[List.set];exists hx,H2,S3,e2;ext;exists 'l',λu c=>?_
  ext;erw[ygv (Cs:=[a.A2,a.Ar,a.A5,a.A9,a.A3]) ya (zr c e2) T.Nn T.Jq ?_];ext;dsimp only[ã.un,List.set];ext;erw[k _ (d.trans (S3.trans (yz c)))]
 .erw[ű (all_cons T.Ds (all_cons T.Fd (all_cons T.Fe (all_cons T.Ff (all_cons T.Fg (all_cons T.Da (all_cons T.Fh (all_cons T.Ct (all_cons T.Cu yv))))))))) λg g1=>?_];let d:=f.trans (yz (o:=HO.tup ([a.Al,a.Au,a.Bf,a.Bg,a.Az,a.Ac,a.Bm,a.Ab,a.Ai].map V.ref)) g1);erw[jk T.E8 (yit T.Bb λx hx=>?_)];dsimp only[List.set];exists hx,H2,S3,e2;ext;exists 'l',λu c=>?_
  ext;erw[ygv (Cs:=[a.A2,a.Ar,a.A5,a.A9]) ya (zr c e2) T.Jj T.Gj ?_];ext;dsimp only[ã.un,List.set];ext;erw[k _ (d.trans (S3.trans (yz c)))]
 .erw[ű (all_cons T.Ei (all_cons T.Hx (all_cons T.Hy (all_cons T.Hz (all_cons T.I0 (all_cons T.E5 (all_cons T.I1 (all_cons T.Dq (all_cons T.Dr yv))))))))) λg g1=>?_];let d:=f.trans (yz (o:=HO.tup ([a.Al,a.Au,a.Bf,a.Bg,a.Az,a.Ac,a.Bm,a.Ab,a.Ai].map V.ref)) g1);erw[jk T.Fa (jk T.Dp (yit T.Ej λx hx=>?_))];dsimp only[List.set];exists hx,H2,S3,e2;ext;exists 'l',λu c=>?_
  ext;erw[ygv (Cs:=[a.A2,a.Ar,a.A5]) ya (zr c e2) T.O8 T.Iq ?_];ext;dsimp only[ã.un,List.set];ext;erw[k _ (d.trans (S3.trans (yz c)))]
 .erw[ű (all_cons T.Dn (all_cons T.F0 (all_cons T.F6 (all_cons T.F7 (all_cons T.F8 (all_cons T.D9 (all_cons T.F9 (all_cons T.Cp (all_cons T.Cq yv))))))))) λg g1=>?_];let d:=f.trans (yz (o:=HO.tup ([a.Al,a.Au,a.Bf,a.Bg,a.Az,a.Ac,a.Bm,a.Ab,a.Ai].map V.ref)) g1);erw[jk T.E4 (jk T.Co (jk T.Do (yit T.Cr λx hx=>?_)))];dsimp only[List.set];exists hx,H2,S3,e2;ext;exists 'l',λu c=>?_
  ext;erw[ygv (Cs:=[a.A2,a.Ar]) ya (zr c e2) T.Jh T.Gi ?_];ext;dsimp only[ã.un,List.set];ext;erw[k _ (d.trans (S3.trans (yz c)))]
 .erw[ű (all_cons T.Hu (all_cons T.No (all_cons T.Nq (all_cons T.Nr (all_cons T.Nt (all_cons T.Ga (all_cons T.Nu (all_cons T.Ey (all_cons T.Ez yv))))))))) λg g1=>?_];let d:=f.trans (yz (o:=HO.tup ([a.Al,a.Au,a.Bf,a.Bg,a.Az,a.Ac,a.Bm,a.Ab,a.Ai].map V.ref)) g1);erw[jk T.Ip (jk T.Ew (jk T.Hw (jk T.Ce (yit T.Hv λx hx=>?_))))];dsimp only[List.set];exists hx,H2,S3,e2;ext;erw[yqs e2 T.W4 T.G0 ?_];ext;dsimp only[ã.un,List.set];ext;erw[k _ (d.trans S3)]
 .erw[ű (all_cons T.Dy (all_cons T.Gc (all_cons T.Gd (all_cons T.Ge (all_cons T.Gf (all_cons T.Dm (all_cons T.Gg (all_cons T.D6 (all_cons T.D7 yv))))))))) λg g1=>?_];let d:=f.trans (yz (o:=HO.tup ([a.Al,a.Au,a.Bf,a.Bg,a.Az,a.Ac,a.Bm,a.Ab,a.Ai].map V.ref)) g1);erw[jk T.Eh (jk T.Bc (jk T.Dz (jk T.D8 (jk T.Gh (yip T.Bl ?_))))),←k _ d]
#synth ybi ["_law_store","_law_text","_law_word_here"] ["_law_store","_law_text"] yrc
#synth ∀(K:xy)(a:Ads),∀(st:qa)(C:Cf)(P:qj Pd)(X:Sx)(t:V)(tn:String)(_:vs=[.ref st,t])(_:Sto K a H st C P X)(_:xf K H t (.type tn))(_:Bad K H t tn 1000)(_:∀H',yu H H'->Q (.bl true) H'),yoq
def yk2:'v' 14 a.Kl a.La ["_law_store","_law_text"] (yoq K a):=by exists T.Ij.F.ok,ybi,n;let#[d,C,P,X,t,e,J,f,o,g,k]:=h;let#[q,v,D,z,y,i]:=f.ins;exists 2,1,yh (pst 2 ybi.nd yr) (yh (ć (λc u=>(yc (yw (vi (pv 0) T.A1 T.Hs.m (ypt T) n.m T.Hs.B .nil zi (pav 1))))) #[J,J] (â J T.B6 (λc x=>(yc (pst 2 ybi.nd yr))) (â J T.Im (λc x=>(yc (pst 2 ybi.nd yr))) ydb))) (yc (yp (ud xj (pv 2) yr (ve _)))));erw[ŵ ?_,←d,C,P,X,t,J,f,.inl #[e,o,g,λr p=>?_],<-ymk T.Ce (yip T.Hv ?_),←J,?_];rwa[bz J,k _ p]
#synth ń ["_law_store","_law_kind","_law_name","_law_word_here","e"] ["_law_store","_law_kind","_law_name"] yrz
#synth ∀(K:xy)(a:Ads),∀(st:qa)(C:Cf)(P:qj Pd)(X:Sx)(i:Nat)(v:V)(nt:String)(_:vs=[.ref st,.int i,v])(_:Sto K a H st C P X)(_:xf K H v (.type nt))(_:(∀s,v=.str s->s.length<=100000))(_:((nmV v=false/\∀H',yu H H'->Q (.str !"name") H')\/∃b,v=.str b/\nmS b=true/\(∀q,q∈P->q.nm≠b)/\∀H',yu H H'->Q (.str !"piece") H')),ywh
def yk9:'v' 15 a.Km a.Lb ["_law_store","_law_kind","_law_name"] (ywh K a):=by
 exists T.Ik.F.ok,ń,g;let#[u,C,P,X,i,v,ς,J,c,j,f,h]:=h;let#[N,R,W,U,S,z]:=c.ins;exists 3,2,yh (pst 3 ń.nd yr) (yh (ć (λt O=>(yc (vq (yt xj (pv 1) yd (ve _)) (yc (yw (vi (pv 0) T.A1 T.Hq.m (yrl T) g.m T.Hq.B .nil zi (pav 2)))) (yc (vq (yt xj (pv 1) yd (ve _)) (yc (yw (vi (pv 0) T.A1 T.Ef.m (yl6 T) g.m T.Ef.B .nil zi (pav 2)))) (yc (vq (yt xj (pv 1) yd (ve _)) (yc (yw (vi (pv 0) T.A1 T.Cw.m (ygt T) g.m T.Cw.B .nil zi (pav 2)))) (yc (vq (yt xj (pv 1) yd (ve _)) (yc (yw (vi (pv 0) T.A1 T.Mx.m (yx4 T) g.m T.Mx.B .nil zi (pav 2)))) (yc (yw (vi (pv 0) T.A1 T.Hr.m (yp6 T) g.m T.Hr.B .nil zi (pav 2))))))))))))) #[J,J] (â J T.Ca (λt x=>(yc (pst 3 ń.nd yr))) (Î (i:=4) J T.Av (λt x=>(yc (vq (PW.pt (Ų (xm (pcB (id:="isinstance") (r:=yw3 K) yaw T.A7 (pac (pv 4) (pa1 (vt J T.Dx))))) (Ĉ (xm (pcB (id:="isinstance") (r:=yw3 K) yaw T.A7 (pac (pv 4) (pa1 (Ó (T:="ValueError") J T.Gk 'r')))))))) (yc (pst 3 ń.nd yr)) yy))) ń.nd J J ydb))) (yc (yp (pv 3))));erw[ŵ ?_];ext;generalize q:exH (thC K a.A3 _ _) _=L
 obtain⟨n,d,e⟩:∃n,Np a P v n/\∀l,yu H l->L [some (.ref u),some (.int i),some v,some (.str !""),none] (.ref n) none l:=by
  subst q;rcases h with⟨M,k⟩|⟨b,rfl,y,I,k⟩
  .erw[_,.name M,λl p=>?_];erw[ymk T.Bc (yit T.Bl λx hx=>?_)];dsimp only[List.set];exists hx,H2,S2,e2;ext;erw[yqs e2 T.Ht T.Bk ?_,<-true,J,?_,←vby e2 T.Ht T.C7 ?_,<-true,J,?_];ext;dsimp only[ã.un,List.set];ext;erw[k _ (p.trans S2)]
  .erw[_,.piece y I,λl p=>?_];erw[yip T.Bb ?_,←k _ p]
 clear q h;erw[za (λZ=>?_) (λZ=>?_)]
 .ext;erw[c.textE j f d e]
 ext;erw[za (λZ=>?_) (λZ=>?_)]
 .ext;erw[c.bytesE j f d e]
 ext;erw[za (λZ=>?_) (λZ=>?_)]
 .ext;erw[c.baseE j f d e]
 ext;erw[za (λZ=>?_) (λZ=>?_)]
 .ext;erw[c.learnE j f d e]
 .ext;erw[c.dropE j f d e]
#synth ybm ["_law_looks_here","_law_most","_law_word_here"] ["_law_looks_here","_law_most"] yqx
#synth ∀(K:xy),∀(x m:V)(_:vs=[x,m])(_:((vge K H x/\∀H',yu H H'->Q (.str !"looks") H')\/∃(l:qa)(n:Nat)(lk tp:Λ)(kd:Ν)(ps:Κ)(nt:String),x=.ref l/\H l\(refs lk n)/\1<=n/\n<=6/\uk H n lk kd tp ps/\xf K H m (.type nt)/\ym8 m=false/\∀H',yu H H'->Q (.str !"most") H')),yoy
def ylk:'v' 12 a.Kn a.Lc ["_law_looks_here","_law_most"] (yoy K):=by
 exists T.Il.F.ok,ybm,I;let#[x,m,J,h]:=h;exists 2,1,yh (pst 2 ybm.nd yr) (yh (ć (λt W=>(yc (yw (uu T.Fz (yms T) I.m J T.Fx T.Ms .nil zi (pac (pv 0) (pav 1)))))) #[J,J] (â J T.Nk (λt x=>(yc (pst 2 ybm.nd yr))) (â J T.D4 (λt x=>(yc (pst 2 ybm.nd yr))) ydb))) (yc (yp (pv 2))));erw[ŵ ?_];ext;intro d f c i U;have j:yu H (upd (upd H f (.own d)) d (.ins a.A0 f [])):=λb o e=>by rwa[yn (yb e c),yn (yb e i),e]
 rcases h with⟨N,k⟩|⟨l,n,u,ς,v,z,L,rfl,G,R,D,S,M,O,k⟩
 .erw[d,f,x,m,J,ya,.looks x m (N.same j) λp q=>?_];erw[yip T.Nv ?_,←k _ (j.trans q)]
 .have q:∀{p:Hp},But d (upd (upd H f (.own d)) d (.ins a.A0 f [])) p->yu H p:=λg y o e=>g _ _ (j _ _ e) (yb e c);erw[d,f,.ref l,m,J,ya,.most l n u ς v z m L (j _ _ G) R D (S.same j) (λp g=>jh (q g) M) O λp g=>?_,<-ymk T.Gb (yip T.Dl ?_),←k _ (q g)]
inductive ypp(C:Cf)(P:qj Pd)(n:Str)(ts:Ο)(x:Υ)(f0 f1 f2:Bool):Str->Prop
 |name (h0:f0=true):ypp C P n ts x f0 f1 f2 (Str.ofString "name")
 |text (h0:f0=false) (h1:f1=true):ypp C P n ts x f0 f1 f2 (Str.ofString "text")
 |bas (h0:f0=false) (h1:f1=false) (h2:f2=true):ypp C P n ts x f0 f1 f2 (Str.ofString "name")
 |long (h0:f0=false) (h1:f1=false) (h2:f2=false) (h:C.mo<ts.length):ypp C P n ts x f0 f1 f2 (Str.ofString "long")
 |taken (h0:f0=false) (h1:f1=false) (h2:f2=false) (hz:ts.length<=C.mo) (r:Pd) (hr:r∈P) (e:r.nm=n):ypp C P n ts x f0 f1 f2 (Str.ofString "taken")
 |piece (h0:f0=false) (h1:f1=false) (h2:f2=false) (hz:ts.length<=C.mo) (no:∀q,q∈P->q.nm≠n) (y:Str) (e:x=some y) (ny:∀q,q∈P->q.nm≠y):ypp C P n ts x f0 f1 f2 (Str.ofString "piece")
 |full (h0:f0=false) (h1:f1=false) (h2:f2=false) (hz:ts.length<=C.mo) (no:∀q,q∈P->q.nm≠n) (L:Η) (hL:ToD P x L) (h:P.length=60):ypp C P n ts x f0 f1 f2 (Str.ofString "full")
 |ok (h0:f0=false) (h1:f1=false) (h2:f2=false) (hz:ts.length<=C.mo) (no:∀q,q∈P->q.nm≠n) (L:Η) (hL:ToD P x L) (h:P.length≠60):ypp C P n ts x f0 f1 f2 (Str.ofString "")
noncomputable def bI(b:Bool):V:=.int (if b=true then 1 else 0)
def yw5{b:Bool}{H:Hp}{Q:VK}(h:Q (.bl b) H):rEq (bI b) (.int 1) H Q:=by
 cases b with
 |true=>erw[J,h]
 |false=>erw[J,h]
def Ĕ(P:qj Pd):(P.map λq=>V.str q.nm)=(P.map (·.nm)).map V.str:=by rw[cn];rfl
def ysp{P:qj Pd}{n:Str}(h:n∉P.map (·.nm)):∀q,q∈P->q.nm≠n:=λq a e=>h (bw.mpr #[q,a,e])
#synth yte ["_law_store","_law_name","_law_text","_law_base","_law_flaws","_law_most"] yq1
#synth ∀(K:xy)(a:Ads),∀(st:qa)(C:Cf)(P:qj Pd)(X:Sx)(n:Str)(tx:qa)(ts:Ο)(x:Υ)(fl:qa)(f0 f1 f2:Bool)(_:vs=[.ref st,.str n,.ref tx,baV x,.ref fl,.int C.mo])(_:Sto K a H st C P X)(_:H tx\(ts.map V.int))(_:H fl\[bI f0,bI f1,bI f2])(_:∀w H',ypp C P n ts x f0 f1 f2 w->yu H H'->Q (.str w) H'),yt0
def ytb:'v' 2 a.Ko a.Ld ["_law_store","_law_name","_law_text","_law_base","_law_flaws","_law_most"] (yt0 K a):=by
 exists T.N3.F.ok,yte,c;let#[Z,C,P,X,n,tx,ts,x,Y,I,ς,f2,J,p,t,b,k]:=h;let#[ds,vl,vm,vp,vc,f]:=p.ins;erw[yi (vq (yt xj (pix wq (pv 4) yd) yd (ve _)) (yc (yp yr)) yy) ?_,<-yi (vq (yt xj (pix wq (pv 4) yd) yd (ve _)) (yc (yp yr)) yy) ?_,<-yi (vq (yt xj (pix wq (pv 4) yd) yd (ve _)) (yc (yp yr)) yy) ?_,<-yi (vq (yt yfi (pcB yq T.Af (pav 2)) (pv 5) (ve _)) (yc (yp yr)) yy) ?_,<-yi (vq (yt ycu (pv 1) (vg (pv 0) T.A1 T.Ao.m (j6 T) c.m T.Ao.B .nil vo) (by with_unfolding_all rfl)) (yc (yp yr)) yy) ?_,<-yi (zn (vq (PW.pt (Ų (yt Ą (pv 3) uq (ve _)) (Ĉ (yt yby (pv 3) (vg (pv 0) T.A1 T.Ao.m (j6 T) c.m T.Ao.B .nil vo) (by with_unfolding_all rfl))))) (yc (yp yr)) yy)) ?_,<-yi (vq (yt xj (pcB yq T.Af (pa1 (vg (pv 0) T.A1 T.Ao.m (j6 T) c.m T.Ao.B .nil vo))) yd (ve _)) (yc (yp yr)) yy) ?_];exists 6,0,yc (yp yr);erw[zq (SqL.of b) (wt (j:=0) J) ?_,←yw5 ?_];ext
 cases I with
 |true =>
  ext;erw[k _ _ (.name J) (yu.refl _)]
 |false =>
 ext;erw[zq (SqL.of b) (wt (j:=1) J) ?_,←yw5 ?_];ext
 cases ς with
 |true =>
  ext;erw[k _ _ (.text J J) (yu.refl _)]
 |false =>
 ext;erw[zq (SqL.of b) (wt (j:=2) J) ?_,←yw5 ?_];ext
 cases f2 with
 |true =>
  ext;erw[k _ _ (.bas J J J) (yu.refl _)]
 |false =>
 ext;erw[ur (SqL.of t) ?_];rw[bo];ext;erw[za (λz=>?_) (λz=>?_)]
 .ext;erw[k _ _ (.long J J J ()) (yu.refl _)]
 have o:ts.length<=C.mo:=()
 ext;erw[p.names λl1 H1 M i d=>?_];rw[Ĕ]at i;erw[l1,_,J,.inl (SqL.of i),J,ycb _,?_];rw[yf2];by_cases hin:n∈P.map (·.nm)
 .rw[bz hin];erw[true,J,Ĥ ?_];ext;let#[r,c,e]:=bw.mp hin;erw[k _ _ (.taken J J J o r c e) d]
 rwa[bD hin,#[false,J,j9 ?_]];let D:=ysp hin;let v:=p.same d;let R:=d _ _ f;erw[vi2 (by assumption) ?_,<-ø (λσ2 F=>σ2=[some (V.ref Z),some (V.str n),some (V.ref tx),some (baV x),some (V.ref Y),some (V.int C.mo)]/\yu H F/\∃L,ToD P x L) ?_ ?_]
 .ext
  cases x with
  |none =>
   rwa[bz (show baV none=V.non from rfl),j9 (j9 ?_)];ext;erw[J,d,[],rfl]
  |some y =>
   rw[bD (show ¬baV (some y)=V.non from λz=>nomatch z)]
   erw[Ĥ ?_,←v.names λl2 H2 W g S=>?_];rw[Ĕ]at g;erw[l2,_,J,.inl (SqL.of g),J,ycb _,?_];rw[show baV (some y)=V.str y from rfl,yf2];by_cases hin2:y∈P.map (·.nm)
   .rw[bz hin2];erw[false,J,j9 ?_];ext;let#[r,c,e]:=bw.mp hin2;erw[J,d.trans S,_,r,c,e,rfl]
   .rw[bD hin2];erw[true,J,Ĥ ?_,←k _ _ (.piece J J J o D y J (ysp hin2)) (d.trans S)]
 rintro σ2 F ⟨rfl,l,L,O⟩;let q:=p.same l;let N:=l _ _ f;ext;erw[q.names λl3 H3 U G S3=>?_,<-ur (SqL.of G) ?_];rw[bo];ext;erw[za (λz=>?_) (λz=>?_)]
 .ext;erw[k _ _ (.full J J J o D L O ()) (l.trans S3)]
 .ext;erw[k _ _ (.ok J J J o D L O ()) (l.trans S3)]
def vck:∀i,i<8->(Str.ofString "abcdefgh").cps[i]?=some (97+i):='r'
def yv4:(Str.ofString "abcdefgh").length=8:='r'
noncomputable def nwS(q:Nat):Str:=Str.ofString "new"++⟨#[97+q]⟩
def ybc(q:Nat):(nwS q).cps.toList=[110,101,119,97+q]:=by unfold nwS;rw[zb];rfl
def yxn{q:Nat}(h:q<8):okN (nwS q)/\(nwS q).length=4:=by
 erw[vd1 ?_ (by rw[ybc];show 1<=4;decide) (by rw[ybc];show 4<=8;decide),by rw[Ã,ybc];rfl]
 rw[ybc];intro c a;simp only[bH,List.not_mem_nil,or_false]at a;omega
def ykv(m:Nat)(b:Int):(List.replicate m [V.int b]).flatten=(List.replicate m b).map V.int:=by
 induction m with
 |zero=>rfl
 |succ m ih=>rw[cu,List.flatten_cons,cu,cb,ih];rfl
theorem Gx.nw{X Y:Sx}{H G:Hp}(g:Gx X H G Y){l:qa}{o:HO}(hl:H l=none):Gx X H (upd G l o) Y :=
 #[#[λc o e n=>yg (yb e hl) (g.g.fr c o e n),g.g.nw,λc o e=>let ⟨o',z⟩:=g.g.lv c o e;#[o',yg (yb e hl) z]],g.f]
def wdP.ne{w:Str}(h:wdP a cc w):w≠Str.ofString "":=by rcases h with⟨_,rfl⟩|⟨_,rfl⟩|⟨_,rfl⟩|⟨_,rfl⟩|⟨_,rfl⟩|⟨_,rfl⟩<;>decide
#synth zd ["_law_store","_law_cell","_law_most","_law_flaws","_law_known","_law_name","_law_text","_law_base","_law_due_here","_law_found"] ["_law_store","_law_cell","_law_most"] yql
#synth ∀(K:xy)(a:Ads),∀(st:qa)(C:Cf)(P:qj Pd)(X:Sx)(c:Int)(_:vs=[.ref st,.int c,.int C.mo])(_:Sto K a H st C P X)(_:0<=c)(_:C.w=C.mo)(_:C.mo<=2)(_:∀P' Y H',Sto K a H' st C P' Y->Gx X H H' Y->(P.length=60->P'=P)->(∀q,q∈P'->q∈P\/q.nm.length=4)->Q (.bl true) H'),yjm
def yts:'v' 15 a.Kp a.Le ["_law_store","_law_cell","_law_most"] (yjm K a):=by
 exists T.N4.F.ok,zd,hr;let#[st,C,P,X,c,J,hS,c0,hw,hm,k]:=h;let#[ds,vl,vm,vp,vc,aj]:=hS.ins;let aI:=hS.z;erw[yi (pst 3 zd.nd (vn (pac (pcT Ŀ T.J9 (pa1 (ud xj (yo wo (pv 1) yd) yd (ve _)))) (pac (pcT Ŀ T.J9 (pa1 (ud xj (yo wo (yo vk (pv 1) yd) yd) yd (ve _)))) (pa1 (pcT Ŀ T.J9 (pa1 (ud xj (yo wo (yo vk (pv 1) yd) yd) yd (ve _))))))))) ?_,<-yi (pst 4 zd.nd (vg (pv 0) T.A1 T.Ao.m (j6 T) hr.m T.Ao.B .nil vo)) ?_,<-yi (pst 5 zd.nd (yo uo yr (zz yr (yo wo (yo vk (pv 1) yd) yd) (λB B=>rfl)))) ?_,<-yi (zn (vq (PW.pt (Ų (yt xj (yo wo (yo vk (pv 1) yd) yd) yd (ve _)) (Ĉ (yt yfi (pcB yq T.Af (pav 4)) yd (ve _))))) (yc (pst 5 zd.nd (pix wq (pv 4) (yo wo (yo vk (pv 1) yd) (pcB yq T.Af (pav 4)))))) yy)) ?_,<-yi (pst 6 zd.nd (yo ygs (vn (pa1 (yo wo (yo vk (pv 1) yd) yd))) (yo wo (yo vk (pv 1) yd) (yo wl (pv 2) yd)))) ?_,<-yi (pst 7 zd.nd (pix wq (vn (pac uq (pac yr (pa1 yr)))) (yo wo (yo vk (pv 1) yd) yd))) ?_,<-yi (zn (vq (PW.pt (Ų (yt xj (yo wo (yo vk (pv 1) yd) yd) yd (ve _)) (Ĉ (yt yfi (pcB yq T.Af (pav 4)) yd (ve _))))) (yc (pst 7 zd.nd (pix wq (pv 4) (ym2 yc3 yd)))) yy)) ?_,<-yi (pst 8 zd.nd (ut (ytb T) hr.m T.N3 (pac (pv 0) (pac (pv 5) (pac (pv 6) (pac (pv 7) (pac (pv 3) (pav 2)))))))) ?_,<-yi (zn (vq (yt xj (pix wq (pv 3) yd) yd (ve _)) (yc (pst 5 zd.nd (ut (yfb T) hr.m T.Fw (pa1 (yo vk (pv 1) yd))))) yy)) ?_,<-yi (zn (vq (yt xj (pix wq (pv 3) yd) yd (ve _)) (yc (pst 6 zd.nd (ut (yli T) hr.m T.Ih (pa1 (yo vk (pv 1) yd))))) yy)) ?_,<-yi (zn (vq (yt xj (pix wq (pv 3) yd) yd (ve _)) (yc (pst 7 zd.nd (ut (yfb T) hr.m T.Fw (pa1 (yo wl (yo xk yd (yo wo (yo vk (pv 1) yd) yd)) (pix wq (vj8 (ň (vh (wc yd) (vh (wc yd) (vh (wc yd) (vh (wc yd) (vh (wc yd) (vh (wc yd) (vh (wc yd) (vh (wc yd) (vh (wc yd) (vh (wc yd) (vh (wc yd) ō J) J) J) J) J) J) J) J) J) J) J))) (yo wo (yo vk (pv 1) yd) yd))))))) yy)) ?_,<-yi (pst 9 zd.nd (ut (ykx T) hr.m T.Ii (pac (pv 0) (pac (pv 5) (pac (pv 6) (pav 7)))))) ?_,<-yi (vq (yt xj (pv 8) yr (ve _)) (yc (yw ('u' (pv 4) (pav 5)))) yy) ?_];exists 3,7,yc (yp (jr (ud xj (pv 9) (pv 8) (ve _)) (Õ (ud (va7 hr.units) (vg (pv 0) T.A1 T.Ao.m (j6 T) hr.m T.Ao.B .nil vo) (pv 4) (ve _)))));generalize decide (c%5=1)=f0;erw[.inr #[_,J,?_]];ext;generalize decide (c/5%5=1)=f1;erw[.inr #[_,J,?_]];ext;generalize decide (c/25%5=1)=f2;erw[.inr #[_,J,?_]];ext;exists 'l',λfl hfl0=>?_
 exists hfl0,H1,S1,hfl1;have hfl1:H1 fl\[bI f0,bI f1,bI f2]:=hfl1;let ak:=S1 _ _ aj;ext;erw[(hS.same S1).names λO H2 ao f S2=>?_];let ay:=S1.trans S2;let a8:=S2 _ _ hfl1;ext;obtain⟨q,hq,q8⟩:∃q:Nat,c/125%8=(q:Int)/\q<8:=#[(c/125%8).toNat,(),()];rwa[hq,#[Str.ofString "abcdefgh",(q:Int),97+q,J,J,(),(),by rw[yv4];omega,vck q q8,?_]]
 erw[_,_,J,J,by show 3+1<=_;decide,?_]
 ext;erw[ø (λσ2 F=>H2=F/\∃n,σ2=[some (V.ref st),some (.int c),some (.int C.mo),some (.ref fl),some (.ref O),some (.str n),none,none,none,none]/\okN n/\(n.length=4\/∃r,r∈P/\r.nm=n)) ?_ ?_]
 .let a2:=yxn q8;ext;refine za (λB=>?_) (λB=>?_)
  .ext;erw[ur (SqL.of f) ?_];rw[bo];ext;refine za (λhP=>?_) (λB=>?_)
   .ext;erw[ur (SqL.of f) ?_];rw[bo];refine i_I () ?_
    obtain⟨j,hj,ac⟩:∃j:Nat,c/3000%((P.length:Nat):Int)=(j:Int)/\j<P.length:=by
     let h0:=cK (c/3000) (show ((P.length:Nat):Int)≠0 by omega);let h1:=cA (c/3000) (show 0<((P.length:Nat):Int) by omega);erw[(c/3000%((P.length:Nat):Int)).toNat,(),()]
    rwa[hj,zq (v:=.str P[j].nm) (SqL.of f) (wt (by rw[bB,bp ac];rfl)) ?_];ext;erw[J,_,J,hS.nm _ (bW ac),.inr #[_,bW ac,J]]
   .ext;erw[J,_,J,a2.1,.inl a2.2]
  .erw[j9 ?_];ext;erw[J,_,J,a2.1,.inl a2.2]
 rintro σ2 F ⟨rfl,n,rfl,hn,ax⟩;clear hq q8 q;obtain⟨b,hb,al⟩:∃b:Int,c/3000%256=b/\0<=b/\b<=255:=#[_,J,(),()]
 obtain⟨m,an,ar⟩:∃m:Nat,c/768000%((C.mo:Int)+2)=(m:Int)/\m<=3:=by
  let h0:=cK (c/768000) (show (C.mo:Int)+2≠0 by omega);let h1:=cA (c/768000) (show 0<(C.mo:Int)+2 by omega);erw[(c/768000%((C.mo:Int)+2)).toNat,(),()]
 ext;rw[hb];exists 'l',λu hu0=>?_
 exists hu0,H3,S3,hu3;ext;rwa[an,#[u,_,_,J,J,hu3,(),(),w9 (by show 1*m<=_;omega),λtx htx0=>?_]]
 rw[show ((m:Int)).toNat=m from rfl,ykv];exists htx0,H4,S4,htx4;obtain⟨ts,a3⟩:∃ts,ts=List.replicate m b:=#[_,J];have aC:ts.length<=3:=by rwa[a3,cV,ar]
 have aw:Sgs ts:=λx hx=>by
  rw[a3]at hx;rwa[List.eq_of_mem_replicate hx,al]
 rw[<- a3]at htx4;clear a3 an ar hb al;ext;exists 'l',λw3 hw30=>?_
 exists hw30,H5,S5,hw35;ext
 obtain⟨x0,ah,Z⟩:∃x0:Υ,atI [V.non,.str !"nobody",.str !"newz"] (c/50%3)=some (baV x0)/\∀y,x0=some y->nmS y=true:=by
  rcases (show c/50%3=0\/c/50%3=1\/c/50%3=2 by omega)with e|e|e<;>rw[e]
  .erw[none,J,λy e=>nomatch e]
  .erw[some !"nobody",J,λy e=>by cases e;decide+kernel]
  .erw[some !"newz",J,λy e=>by cases e;decide+kernel]
 erw[zq (SqL.of hw35) ah ?_];let af:=S3.trans (S4.trans S5);let d:=af _ _ f;let U:=af _ _ a8;let R:=S5 _ _ htx4;let aq:=ay.trans af;have a9:H O=none:=S1.free ao;clear hw35 hw30 hu3 hu0 f a8 hfl1 hfl0 ak ah htx4 htx0;ext;erw[ø (λσ2 F=>H5=F/\∃x:Υ,σ2=[some (V.ref st),some (.int c),some (.int C.mo),some (.ref fl),some (.ref O),some (.str n),some (.ref tx),some (baV x),none,none]/\∀y,x=some y->nmS y=true) ?_ ?_]
 .ext;refine za (λB=>?_) (λB=>?_)
  .ext;erw[ur (SqL.of d) ?_];rw[bo];ext;refine za (λhP=>?_) (λB=>?_)
   .ext;obtain⟨P0,r,rfl⟩:∃P0 r,P=P0++[r]:=#[P.dropLast,P.getLast (λz=>by rw[z]at hP;erw[absurd hP ∅]),(List.dropLast_concat_getLast _).symm];rw[bA]at d;erw[zq (v:=.str r.nm) (SqL.of d) (yfv _ _) ?_,←J,some r.nm,J,λy e=>by cases e;erw[(hS.nm r (bP _ cj)).1]]
   .ext;exists J,_,J,Z
  .erw[j9 ?_];ext;exists J,_,J,Z
 rintro σ2 F ⟨rfl,x,rfl,ad⟩;clear Z x0;ext;erw[st,C,P,X,n,tx,ts,x,fl,f0,f1,f2,J,hS.same aq,R,U,λw H6 hD S6=>?_];let I:=S6 _ _ U;ext;erw[ø (λσ2 F=>yu H6 F/\∃v nt,σ2=[some (V.ref st),some (.int c),some (.int C.mo),some (.ref fl),some (.ref O),some v,some (.ref tx),some (baV x),some (.str w),none]/\(f0=true->xf K F v (.type nt)/\(∀s,v=.str s->s.length<=100000)/\nmV v=false)/\(f0=false->v=.str n)) ?_ ?_]
 .ext;erw[zq (SqL.of I) (wt (j:=0) J) ?_,←yw5 ?_];ext
  cases f0 with
  |true =>
   ext;erw[c/7,J,(),λv nt G ty hl hv B SG=>?_]
   ext
   erw[SG,v,nt,J,λB=>#[ty,λs e=>by have:=hl s e;omega,hv],λz=>nomatch z]
  |false =>
   ext
   erw[yu.refl _,_,"str",J,(λz=>nomatch z),λB=>rfl]
 rintro σ2 H7 ⟨S7,v,nt,rfl,ai,i⟩;let N:=S7 _ _ I;ext;erw[ø (λσ2 F=>yu H7 F/\∃t tn,σ2=[some (V.ref st),some (.int c),some (.int C.mo),some (.ref fl),some (.ref O),some v,some t,some (baV x),some (.str w),none]/\(f1=true->xf K F t (.type tn)/\Bad K F t tn 1000)/\(f1=false->t=.ref tx)) ?_ ?_]
 .ext;erw[zq (SqL.of N) (wt (j:=1) J) ?_,←yw5 ?_];ext
  cases f1 with
  |true =>
   ext;erw[c/11,J,(),λt tn G ty hb B SG=>?_]
   ext
   erw[SG,t,tn,J,λB=>#[ty,hb],λz=>nomatch z]
  |false =>
   ext
   erw[yu.refl _,_,"list",J,(λz=>nomatch z),λB=>rfl]
 rintro σ2 H8 ⟨S8,t,tn,rfl,ap,p⟩;let ab:=S8 _ _ N;ext;erw[ø (λσ2 F=>yu H8 F/\∃b bn,σ2=[some (V.ref st),some (.int c),some (.int C.mo),some (.ref fl),some (.ref O),some v,some t,some b,some (.str w),none]/\(f2=true->xf K F b (.type bn)/\(∀s,b=.str s->s.length<=100000)/\b≠.non/\nmV b=false)/\(f2=false->b=baV x)) ?_ ?_]
 .ext;erw[zq (SqL.of ab) (wt (j:=2) J) ?_,←yw5 ?_];ext
  cases f2 with
  |true =>
   ext;exists 'l',λz av=>?_
   let T1:=yz (o:=(HO.lst [V.int 0,V.int 1,V.int 2,V.int 3,V.int 4,V.int 6,V.int 7,V.int 8,V.int 9,V.int 10,V.int 11])) av;have a4:upd H8 z (HO.lst [V.int 0,V.int 1,V.int 2,V.int 3,V.int 4,V.int 6,V.int 7,V.int 8,V.int 9,V.int 10,V.int 11]) z=some (HO.lst [V.int 0,V.int 1,V.int 2,V.int 3,V.int 4,V.int 6,V.int 7,V.int 8,V.int 9,V.int 10,V.int 11]):=ya;generalize upd H8 z (HO.lst [V.int 0,V.int 1,V.int 2,V.int 3,V.int 4,V.int 6,V.int 7,V.int 8,V.int 9,V.int 10,V.int 11])=G1 at T1 a4⊢;have a4:G1 z\(([0,1,2,3,4,6,7,8,9,10,11]:Ο).map V.int):=a4;ext;obtain⟨j,hj,a6⟩:∃j:Nat,c/17%11=(j:Int)/\j<([0,1,2,3,4,6,7,8,9,10,11]:Ο).length:=#[(c/17%11).toNat,(),by show _<11;omega];let h5:=(by decide:∀e∈([0,1,2,3,4,6,7,8,9,10,11]:Ο),0<=e/\e<=11/\e≠5) _ (bW a6);rwa[hj,zq (SqL.of a4) (wt (by rw[bB,bp a6];rfl)) ?_];generalize ([0,1,2,3,4,6,7,8,9,10,11]:Ο)[j]=e at h5⊢;ext;erw[_,J,(),λb bn G ty hl hb nn SG=>?_]
   ext
   erw[T1.trans SG,b,bn,J,λB=>#[ty,λs e=>by have:=hl s e;omega,nn (),hb],λz=>nomatch z]
  |false =>
   ext
   erw[yu.refl _,_,"str",J,(λz=>nomatch z),λB=>rfl]
 rintro σ2 H9 ⟨S9,b,bn,rfl,as,D⟩;let ae:=S6.trans (S7.trans (S8.trans S9));let a5:=aq.trans ae;let a1:=hS.same a5;let a7:=ae _ _ d;have hT:ν H9 tx ts 1000:=#[ae _ _ R,aw,()]
 have hN:(∃cc,PuN K a H9 C P v t b cc/\wdP a cc w)\/∃L,v=.str n/\t=.ref tx/\b=baV x/\ts.length<=C.mo/\ToD P x L/\(∀q,q∈P->q.nm≠n)/\P.length≠60/\w=Str.ofString "":=by
  cases hD with
  |name h0 =>
   let#[z1,z2,z3]:=ai h0;erw[.inl #[_,.name (jh (S8.trans S9) z1) z2 z3,.inr (.inr (.inr (.inr (.inr #[J,J]))))]]
  |text h0 h1 =>
   let#[z1,z2]:=ap h1;rwa[i h0,.inl #[_,.text hn (jh S9 z1) (z2.same S9),.inr (.inr (.inr (.inr (.inl #[J,J]))))]]
  |bas h0 h1 h2 =>
   let#[z1,z2,z3,z4]:=as h2;rwa[i h0,p h1,.inl #[_,.bas hn hT z1 z2 z3 z4,.inr (.inr (.inr (.inr (.inr #[J,J]))))]]
  |long h0 h1 h2 h =>
   rwa[i h0,p h1,D h2,.inl #[_,.long hn hT ad h,.inr (.inr (.inr (.inl #[J,J])))]]
  |taken h0 h1 h2 hz r hr e =>
   rwa[i h0,p h1,D h2,.inl #[_,.taken hn hT ad hz hr e,.inr (.inr (.inl #[J,J]))]]
  |piece h0 h1 h2 hz no y e ny =>
   rwa[i h0,p h1,D h2,e,.inl #[_,.piece hn hT (ad y e) hz no ny,.inr (.inl #[J,J])]]
  |full h0 h1 h2 hz no L hL h =>
   rwa[i h0,p h1,D h2,.inl #[_,.full hn hT hz no hL h,.inl #[J,J]]]
  |ok h0 h1 h2 hz no L hL h=>erw[.inr #[L,i h0,p h1,D h2,hz,hL,no,h,J]]
 clear hD ai i ap p as D U I N ab d R
 have ag:∀z,z∈P.map (·.nm)->PyData.strOk z=true:=λz hz=>by
  let#[q,hq,J]:=bw.mp hz;erw[(hS.nm q hq).2]
 ext;rcases hN with⟨cc,hN,hW⟩|⟨L,rfl,rfl,rfl,hz,hL,no,au,rfl⟩
 .erw[st,C,P,X,v,t,b,J,a1,.inl #[cc,w,hN,hW,λG SG=>?_]];let a0:=a1.same SG;let aA:=(a5.trans SG) _ _ aj;ext;erw[J,?_];rwa[bD (λz=>hW.ne (by cases z;rfl)),#[_,J,j9 ?_]];ext;erw[J,?_];rwa[bz J,#[true,J,Ĥ ?_]];ext;erw[a0.names λl2 G2 am S S2=>?_];ext;let ς:=S2 _ _ (SG _ _ a7);rw[Ĕ]at S ς;erw[ŭ _ _ ag ag (SqL.of S) (SqL.of ς) ?_];rwa[bz J,k P X G2 (a0.same S2) (Gx.refl.same (a5.trans (SG.trans S2))) (λB=>rfl) λq hq=>.inl hq]
 .erw[st,C,P,X,_,_,_,J,a1,.inr #[n,tx,ts,x,L,J,J,J,hn,#[hT.l,hT.s,()],hL,no,(),λY G a0 g=>?_]];have M:Kf G Y O _:=(Kf.new hS a9 a7).go a1 g;rw[Ĕ]at M;ext;erw[J,?_];rwa[bz J,#[_,J,Ĥ ?_]];ext;erw[υ M.1 ?_];ext;refine uw M.1 (vv (by rw[bo,bo];omega)) ?_
  let W:=a0.but (WSh.ls M.1 λz hz=>by
   let#[u,_,J]:=bw.mp hz;erw[.inl #[u,J]]) M.2 (But.upd (o:=.lst ((P.map (·.nm)).map V.str++[.str n])))
  let g2:=(g.ahead a5).nw (l:=O) (o:=.lst ((P.map (·.nm)).map V.str++[.str n])) a9;have ς:upd G O (.lst ((P.map (·.nm)).map V.str++[.str n])) O\(((P++[(#[n,x,L,ts]:Pd)]).map (·.nm)).map V.str):=by rw[ya,bA,bA];rfl
  generalize upd G O (.lst ((P.map (·.nm)).map V.str++[.str n]))=G2 at W g2 ς⊢;let#[aE,aD,aH,aG,aF,aB]:=W.ins;ext;erw[J,?_];rwa[bz J,#[true,J,Ĥ ?_]];ext;erw[W.names λl2 G3 am S S3=>?_];ext;rw[Ĕ]at S
  have aa:∀z,z∈(P++[(#[n,x,L,ts]:Pd)]).map (·.nm)->PyData.strOk z=true:=λz hz=>by
   let#[q,hq,J]:=bw.mp hz;erw[(W.nm q hq).2]
  erw[ŭ _ _ aa aa (SqL.of S) (SqL.of (S3 _ _ ς)) ?_];rwa[bz J,k _ Y G3 (W.same S3) (g2.same S3) (λz=>absurd z au) λq hq=>?_];rcases bQ.mp hq with z|z
  .erw[.inl z]
  .rw[bO.mp z];erw[.inr (ax.resolve_right λ⟨r,hr,e⟩=>no r hr e)]
#synth yfg ["_law_data","_law_word_here"] ["_law_data"] yru
#synth ∀(K:xy),∀(l:qa)(C:Cf)(P:qj Pd)(q:Pd)(_:vs=[.ref l])(_:H l\((shX C P (some q)).map V.int))(_:Byt (shX C P (some q)))(_:(shX C P (some q)).length<=100000)(_:yxd C P)(_:P.length=60)(_:PdM C P q)(_:∀H',yu H H'->Q (.bl true) H'),ynj
def ywk:'v' 17 a.Kq a.Lf ["_law_data"] (ynj K):=by
 exists T.N5.F.ok,yfg,p;let#[l,C,P,q,J,n,r,t,c,b,g,k]:=h;exists 1,1,yh (pst 1 yfg.nd yr) (yh (ć (λj y=>(yc (yw (uz (yku T) p.m T.Ig zi (pav 0))))) #[J,J] (â J T.Bj (λj x=>(yc (pst 1 yfg.nd yr))) ydb)) (yc (yp (ud xj (pv 1) yr (ve _)))));erw[ŵ ?_];ext
 erw[l,C,P,some q,J,n,r,t,c,(λz e=>by cases e;erw[b,g]),(λe=>nomatch e),λZ v u o=>?_]
 erw[yip T.Cv ?_,←J,?_];rwa[bz J,k _ o]
def ytl{P:qj Pd}{b:Str}(hn:(P.map (·.nm)).Nodup){r:Pd}(hr:r∈P)(e:r.nm=b):(P.filter λq=>decide (q.nm≠b)).length+1=P.length:=by
 let f:=List.length_filter_lt_length_iff_exists (p:=λq:Pd=>decide (q.nm≠b)) (l:=P) |>.mpr #[r,hr,by simp[e]]
 let a:=ye0 (l:=P.map (·.nm)) (m:=b::(P.filter λq=>decide (q.nm≠b)).map (·.nm)) hn λx c=>by
  let#[q,d,J]:=bw.mp c;by_cases z:q.nm=b
  .rw[z];erw[cj]
  .erw[cg _ (bw.mpr #[q,cR.mpr #[d,bz z],J])]
 rw[bN,bo,bo]at a;omega
def vfv:okN (Str.ofString "again"):=#['r','r']
#synth yfe ["_law_store","_law_known","_law_number","_law_gone","_law_left"] ["_law_store","_law_known","_law_number"] ysk
#synth ∀(K:xy)(a:Ads),∀(st kn:qa)(C:Cf)(P:qj Pd)(X:Sx)(c:Int)(_:vs=[.ref st,.ref kn,.int c])(_:Sto K a H st C P X)(_:Kf H X kn (.lst (P.map λq=>V.str q.nm)))(_:0<=c)(_:P.length=60)(_:(∀q,q∈P->q.bs=none/\q.nm≠Str.ofString "again"))(_:∀P' Y H',Sto K a H' st C P' Y->Gx X H H' Y->(∀q,q∈P'->q∈P\/q.nm=Str.ofString "again")->Q (.bl true) H'),yi6
def yvb:'v' 15 a.Kr a.Lg ["_law_store","_law_known","_law_number"] (yi6 K a):=by
 exists T.N6.F.ok,yfe,p;let#[st,kn,C,P,X,c,J,hS,a0,c0,av,hP,k]:=h;let#[ds,vl,vm,vp,vc,aC]:=hS.ins;erw[yi (ö (i:=3) yfe.nd J (Or.inr J) (pix wq (pv 1) (yo wo (pv 2) yd))) ?_,<-yi (yw (vi (pv 0) T.A1 T.Hr.m (yp6 T) p.m T.Hr.B .nil wa (pav 3))) ?_,<-yi (yfx (i:=4) (js:=[3]) (ys:=["_law_gone"]) yfe.nd J J J (xr (pv 1)) (λC s2 H2 fp=>(yt yiu (pv 0) (pv 1) (ve _))) (λC s2 H2 fp=>(pv 0)) J J (hyc:=(all_cons J yv)) (hrel:=(all_cons J yv))) ?_,<-yi (yw (vi (pv 0) T.A1 T.Mv (ymp T) p.m T.Uh .nil wa (pac yr (pac (vn xo) (pa1 (pix wq (pv 4) (yo wo (yo vk (pv 2) yd) yd))))))) ?_,<-yi (vq (PW.pt (Ę (yt (Ō p.units) (vg (pv 0) T.A1 T.Ao.m (j6 T) p.m T.Ao.B .nil vo) (yo zt (pv 4) (vn (pa1 yr))) (ve _)) (Đ (yt yiu (ut (ykx T) p.m T.Ii (pac (pv 0) (pac (pv 3) (pac (vn xo) (pa1 uq))))) yr (ve _))))) (yc (yp χ)) yy) ?_];exists 3,2,yc (yp (ud xj (vi (pv 0) T.A1 T.Cw.m (ygt T) p.m T.Cw.B .nil wa (pa1 yr)) (pix wq (pv 4) (yo wo (yo vk (pv 2) yd) yd)) (ve _)));obtain⟨j,hj,a3⟩:∃j:Nat,c%60=(j:Int)/\j<P.length:=#[(c%60).toNat,(),()];rw[hj];let I:=bW a3;erw[zq (v:=.str P[j].nm) (SqL.of a0.1) (wt (by rw[bB,bp a3];rfl)) ?_];obtain⟨b,hb⟩:∃b,b=P[j].nm:=#[_,J];rw[<- hb];let N:=hS.nm _ I;rw[<- hb]at N;let a8:=ytl hS.nd I hb.symm;have ai:b≠Str.ofString "again":=by rwa[hb,(hP _ I).2]
 ext;erw[hS.drop N.1 (λno=>absurd hb.symm (no _ I)) (λr F F ⟨q,l,e⟩=>by rw[(hP q l).1]at e;cases e) λr F F F Y H1 R g1=>?_];let a7:=a0.go hS g1;ext;erw[kn,J,#[_,SqL.of a7.1],λD hD=>?_,<-yh8 (xs:=P.map λq=>V.str q.nm) (λi G=>G D\(((P.take i).filter λq=>decide (q.nm≠b)).map λq=>V.str q.nm)/\yu H1 G) #[ya,yz hD] (λi G F z=>SqL.of (z.2 _ _ a7.1)) (λi x G W hi z=>?_) (λH2 z=>?_)]
 .let#[gD,SG]:=z;have U:i<P.length:=by rw[bo]at hi;exact hi
  rw[bB,bp U]at W;obtain rfl:=bL W;ext;erw[J,?_];by_cases e:P[i].nm=b
  .rw[bz (show V.str P[i].nm=V.str b by rw[e])];erw[_,J,j9 ?_,<-ycd hi #[?_,SG]];rw[gD,bV U,List.filter_append,List.filter_cons_of_neg (by simpa using e)];simp
  .rw[bD (show ¬V.str P[i].nm=V.str b from λz=>e (V.str.inj z))];erw[_,J,Ĥ ?_];ext;let ae:=List.length_filter_le (λq:Pd=>decide (q.nm≠b)) (P.take i);rw[bT]at ae;erw[xu gD (vv (by rw[bo];omega)) hi #[?_,λy o e=>yg (yb e hD) (SG _ _ e)]];rw[ya,bV U,List.filter_append,List.filter_cons_of_pos (by simpa using e),bA];rfl
 let#[M,S2]:=z;rw[bo,cq]at M;have f:∀q,q∈(P.filter λq=>decide (q.nm≠b))->q∈P/\q.nm≠b:=λq l=>#[(cR.mp l).1,of_decide_eq_true (cR.mp l).2];generalize (P.filter λq=>decide (q.nm≠b))=d at R M a8 f;let O:=R.same S2;have af:Kf H2 Y D _:=Kf.new R hD M;let#[as,ar,aE,az,ax,ab]:=O.ins;ext;exists 'l',λu hu0=>?_
 exists hu0,H3,S3,hu3;let am:=S3 _ _ ab;let aa:=af.same S3;ext;obtain⟨m,hm,a9⟩:∃m:Nat,c/60%59=(m:Int)/\m<d.length:=#[(c/60%59).toNat,(),()];let ag:=bW a9
 have a1:∀{G:Hp}{Q2:VK},G D\(d.map λq=>V.str q.nm)->Q2 (.str d[m].nm) G->vio K (.ref D) (.int (c/60%59)) G Q2:=λ{G Q2}e q=>by
  rwa[hm,zq (SqL.of e) (wt (by rw[bB,bp a9];rfl)) q]
 erw[a1 aa.1 ?_]
 erw[(O.same S3).put (b:=Str.ofString "again") (x:=some d[m].nm) (ts:=[]) vfv #[hu3,(λx W=>nomatch W),bR _] #[d[m],ag,J,J] (λq l=>(hP q (f q l).1).2) () λZ H4 g g4=>?_]
 obtain⟨r,p⟩:∃r:Pd,r=#[Str.ofString "again",some d[m].nm,d[m].path++[(d[m].nm,d[m].tx)],[]]:=#[_,J];rw[<- p]at g;have n:r.nm=Str.ofString "again":=by rw[p]
 have al:r.bs=some d[m].nm:=by rw[p]
 have a5:r∈d++[r]:=bP _ cj;clear p;let a4:=aa.go (O.same S3) g4;have ad:Gx X H H4 Z:=(g1.same S2).trans (g4.ahead S3);let#[aI,aG,au,aA,aH,ap]:=g.ins
 have a2:∀z,z∈(d++[r]).map (·.nm)->PyData.strOk z=true:=λz hz=>by
  let#[q,l,J]:=bw.mp hz;erw[(g.nm q l).2]
 ext;erw[g.names λl5 H5 ao aj S5=>?_];ext;exists 'l',λw6 hw0=>?_
 exists hw0,H6,S6,hw6;erw[D,w6,_,_,J,J,S6 _ _ (S5 _ _ a4.1),hw6,w9 (by rw[bo];show _+1<=_;omega),λl7 hl70=>?_];exists hl70,H7,S7,hl7;let a6:=S5.trans (S6.trans S7);let ς:=(S6.trans S7) _ _ aj;rw[Ĕ]at ς;have hl7:H7 l7\(((d++[r]).map (·.nm)).map V.str):=by rw[hl7,bA,bA,Ĕ,List.map_singleton,n];rfl
 erw[ŭ _ _ a2 a2 (SqL.of ς) (SqL.of hl7) ?_];rwa[bz J,#[false,J,j9 ?_]];let ah:=g.same a6;ext;exists 'l',λu8 hu80=>?_
 exists hu80,H8,S8,hu8;ext
 erw[st,C,d++[r],Z,.str b,.ref u8,.non,J,ah.same S8,.inl #[_,_,.full (x:=none) (L:=[]) (ts:=[]) N #[hu8,(λx W=>nomatch W),bR _] (bR _) (λq l=>?_) J (by rw[bq,cz];omega),.inl #[J,J],λH9 S9=>?_]]
 .rcases bQ.mp l with z|z
  .erw[(f q z).2]
  .rw[bO.mp z,n];erw[ai.symm]
 let S:=a6.trans (S8.trans S9);let t:=g.same S;let#[aD,aw,ay,aB,aq,an]:=t.ins;ext;erw[J,?_];rwa[bz J,#[false,J,j9 ?_]];ext;erw[t.baseof vfv.1 (λno=>absurd n (no r a5)) λr2 ac e2 HA SA=>?_];obtain rfl:=Ö t.nd ac a5 (e2.trans n.symm);rw[al];ext;erw[a1 ((S.trans SA) _ _ a4.1) ?_,<-J,?_];rwa[bz (show baV (some d[m].nm)=V.str d[m].nm from rfl),k _ Z HA (t.same SA) (ad.same (S.trans SA)) λq l=>?_];rcases bQ.mp l with z|z
 .erw[.inl (f q z).1]
 .rw[bO.mp z];erw[.inr n]
def ynh{ps:Ο}(h:zg (ps.map V.int)=true):∀p,p∈ps->1<=p/\p<=8:=λp b=>by
 unfold zg at h;rw[bU,bU]at h;have:=(List.all_eq_true.mp h.1.2) _ (bw.mpr #[p,b,J]);have a:(decide (1<=p) && decide (p<=8))=true:=this;rw[bU]at a;erw[of_decide_eq_true a.1,of_decide_eq_true a.2]
def vig(kd:Ν)(ps:Κ):Ð 1 kd ps [] []=[128]:=by
 have e:Ú 1 kd ps [] [] 0=8388608:=by
  show ym7 [1099511627776] [(kd0 (kd 0)).due]=8388608;erw[(by right:∀k:Fin 3,ym7 [1099511627776] [(kd0 k).due]=8388608) (kd 0)]
 show tL (nar s0 (Ú 1 kd ps [] [] 0) 0)=[128];rw[e];decide+kernel
def ynd{x:Str}(h:nmS x=true):viw x.cps.toList:=λc a=>by have:=yew (yem h a);omega
structure Six(C:Cf)(P:qj Pd):Prop where
 n:C.n=1
 c:zg ((C.ps 0).map V.int)=true
 m:C.mo<=2
 z:P.length=60
 p:∀q,q∈P->q.bs=none/\q.path=[]/\q.tx=[]/\q.nm.length=3
 no:∀q,q∈P->q.nm≠Str.ofString "pic"
theorem Six.by{C:Cf}{P:qj Pd}(h:Six C P){q:Pd}(hq:q∈P):q.by C=[128]:=by
 let#[_,a,b,_]:=h.p q hq
 unfold Pd.by
 rwa[a,b,h.n,vig _ _]
def Six.pd{C:Cf}{P:qj Pd}(h:Six C P){q:Pd}(hq:q∈P):pdB C P q=nmB q.nm++[0,128]:=by unfold pdB;rw[h.by hq,(h.p q hq).1,bX];rfl
def Six.hd{C:Cf}{P:qj Pd}(h:Six C P):(hdB C).length=5+(C.ps 0).length/\(C.ps 0).length<=4/\Byt (hdB C):=by
 let d:=h.c;let f:=zx d;rw[bo]at f
 have e:hdB C=(1:Int)::(((C.kd 0).val:Nat):Int)::(((C.ps 0).length:Nat):Int)::(C.ps 0++[((C.mo:Nat):Int)/256,((C.mo:Nat):Int)%256]):=by
  unfold hdB;rw[h.n,í];rfl
 let g:=h.m;let i:=(C.kd 0).isLt;rwa[e,#[?_,f,λb a=>?_]]
 .rw[bN,bN,bN,bq];show _+2+1+1+1=_;omega
 .simp only[bH,bQ,List.not_mem_nil,or_false]at a;rcases a with rfl|rfl|rfl|a|rfl|rfl
  .decide
  .omega
  .omega
  .have:=ynh d b a;omega
  .omega
  .omega
theorem Six.fl{C:Cf}{P:qj Pd}(h:Six C P)(hn:∀q,q∈P->okN q.nm):∀R:qj Pd,(∀q,q∈R->q∈P)->Byt ((R.map (pdB C P)).flatten)/\((R.map (pdB C P)).flatten).length=6*R.length
 |[],_=>#[(λb a=>nomatch a),J]
 |q::R,hR=>by
  let#[j,g]:=h.fl hn R λr i=>hR r (.tail _ i);let d:=hR q (.head _);let m:=(h.p q d).2.2.2;let f:=ynd (hn q d).1;rwa[cb,List.flatten_cons,h.pd d,#[λb a=>?_,?_]]
  .rcases bQ.mp a with a|a
   .rcases bQ.mp a with a|a
    .unfold nmB at a;rcases bH.mp a with rfl|a
     .omega
     .let#[c,e,J]:=bw.mp a;let#[k,l]:=f c e;rw[ys3 k ()];omega
    .simp only[bH,List.not_mem_nil,or_false]at a;omega
   .erw[j b a]
  .let e:=Ã q.nm;unfold nmB;simp only[bq,bN,bo,List.length_nil,g];omega
def Six.sh{C:Cf}{P:qj Pd}(h:Six C P)(hn:∀q,q∈P->okN q.nm):Byt (shB C P)/\(shB C P).length<=500:=by
 let#[c,e]:=h.fl hn P λZ z=>z;let#[g,f,d]:=h.hd;let i:=h.z;unfold shB;erw[λb a=>?_,by rw[bq,bN];omega]
 rcases bQ.mp a with a|a
 .erw[d b a]
 .rcases bH.mp a with rfl|a
  .omega
  .erw[c b a]
theorem ylv{f:Pd->Nat}{m:Nat}:∀{P:qj Pd},(∀q,q∈P->m<=f q)->bsF f P none m=none
 |[],_=>rfl
 |q::P,h=>by
  show (if f q<m then _ else _)=_;rwa[if_neg (Nat.not_lt.mpr (h q (.head _))),ylv λr a=>h r (.tail _ a)]
def Six.best{C:Cf}{P:qj Pd}(h:Six C P):ym1 C P []=none:=by refine ylv λq a=>?_;rwa[h.n,vig,ya5 (by rw[h.n];decide) (by rw[h.n];decide) (z0 _)]
structure W2(K:xy)(a:Ads)(H0 H:Hp)(X:Sx)(C:Cf)(P:qj Pd)(st:qa)(Y:Sx)(su:qa)(Z:Sx):Prop where
 s:Sto K a H st C P Y
 o:Sto K a H su C P Z
 p:Sep Y Z
 g:Gx X H0 H Y
 n:∀y,Z.f y->H0 y=none
def K2(H:Hp)(Y Z:Sx)(x:qa)(o:HO):Prop:=H x=some o/\¬Y.f x/\¬Z.f x
end
section
mutual
variable{H0 H H':Hp}{X Y Z Y' Z':Sx}{C:Cf}{P:qj Pd}{su x:qa}{o:HO}
theorem W2.same(h:W2 K a H0 H X C P st Y su Z)(S:yu H H'):W2 K a H0 H' X C P st Y su Z:=#[h.s.same S,h.o.same S,h.p,h.g.same S,h.n]
def W2.gs(h:W2 K a H0 H X C P st Y su Z)(s:Sto K a H' st C P Y')(g:Gx Y H H' Y'):W2 K a H0 H' X C P st Y' su Z:=by let#[b,c]:=h.o.oth h.s h.p.symm g;erw[s,b,c.symm,h.g.trans g,h.n]
def W2.go(h:W2 K a H0 H X C P st Y su Z)(s:Sto K a H' su C P Z')(g:Gx Z H H' Z'):W2 K a H0 H' X C P st Y su Z':=by let#[b,d]:=h.s.oth h.o h.p g;erw[b,s,d,#[#[λc o e n=>g.g.fr _ _ (h.g.g.fr c o e n) (λw=>?_),h.g.g.nw,λc o e=>let ⟨o',z⟩:=h.g.g.lv c o e;g.g.lv _ _ z],h.g.f],λy w=>(g.f y w).elim (h.n y) λe=>h.g.g.free e];rw[h.n c (h.o.wf c w)]at e;cases e
def K2.same(h:K2 H Y Z x o)(S:yu H H'):K2 H' Y Z x o:=#[S _ _ h.1,h.2]
def K2.gs(h:K2 H Y Z x o)(s:Sto K a H st C P Y)(g:Gx Y H H' Y'):K2 H' Y' Z x o:=let ⟨h1,h2⟩:=Kf.go #[h.1,h.2.1] s g;#[h1,h2,h.2.2]
theorem K2.go(h:K2 H Y Z x o)(s:Sto K a H su C P Z)(g:Gx Z H H' Z'):K2 H' Y Z' x o:=let ⟨h1,h2⟩:=Kf.go #[h.1,h.2.2] s g;#[h1,h.2.1,h2]
theorem K2.new(s:Sto K a H st C P Y)(o':Sto K a H su C P Z)(hx:H x=none)(e:H' x=some o):K2 H' Y Z x o:=#[e,(Kf.new s hx e).2,(Kf.new o' hx e).2]
end
end
section
mutual
variable{H:Hp}{Q:VK}{p:qa}{x y:Ο}{n:Nat}{i:Int}
def IL(H:Hp)(p:qa)(x:Ο):Prop:=H p=some (.lst (x.map V.int))
def IL.same{H':Hp}(h:IL H p x)(S:yu H H'):IL H' p x:=S _ _ h
def vj2(h:IL H p x)(e:i=n)(ey:x.take n=y)(k:∀q H',H q=none->IL H' q y->yu H H'->Q (.ref q) H'):vgk K (.ref p) none (some i) H Q:=Ŏ (SqL.of h) λr a=>k r _ a (by unfold IL;rw[ya,e,jm,<- List.map_take,ey]) (yz a)
def vjy(h:IL H p x)(e:i=n)(ey:x.drop n=y)(k:∀q H',H q=none->IL H' q y->yu H H'->Q (.ref q) H'):vgk K (.ref p) (some i) none H Q:=Ŏ (SqL.of h) λr a=>k r _ a (by unfold IL;rw[ya,e,ygg,<- List.map_drop,ey]) (yz a)
def vjx{xs ys:Τ}(h1:H p\xs)(h2:H q\ys)(hz:xs.length+ys.length<=200000)(k:∀r H',H r=none->H' r\(xs++ys)->yu H H'->Q (.ref r) H'):vir (.ref p) (.ref q) H Q:=#[p,q,_,_,J,J,h1,h2,w9 (),λr a=>k r _ a ya (yz a)]
def vil(h1:IL H p x)(h2:IL H q y)(hz:x.length+y.length<=200000)(k:∀r H',H r=none->IL H' r (x++y)->yu H H'->Q (.ref r) H'):vir (.ref p) (.ref q) H Q:=vjx h1 h2 (by rw[bo,bo];omega) λr H' a h1=>k r H' a (by unfold IL;rw[h1,bA])
end
end
mutual
def Byt.app{x y:Ο}(h:Byt x)(g:Byt y):Byt (x++y):=λb a=>(bQ.mp a).elim (h b) (g b)
#synth ą ["_law_store","_law_places","_law_known","_law_data","_law_other","_law_name","_law_more"] ["_law_store","_law_places"] yso
#synth ∀(K:xy)(a:Ads),∀(st:qa)(C:Cf)(P:qj Pd)(X:Sx)(_:vs=[.ref st,.int ((C.ps 0).length:Nat)])(_:Sto K a H st C P X)(_:Six C P)(_:∀Y H',Sto K a H' st C P Y->Gx X H H' Y->Q (.bl true) H'),yj3
def yv8:'v' 18 a.Ks a.Lh ["_law_store","_law_places"] (yj3 K a):=by
 exists T.N7.F.ok,ą,c;let#[st,C,P,X,J,D,O,k]:=h;let#[ds,vl,vm,vp,vc,b2]:=D.ins;let ay:=O.sh D.nm;let ag:=D.shok λi r b e1 e2=>by rw[(O.p r (bM e1)).1]at e2;cases e2
 let hz:=O.z;erw[yi (pst 2 ą.nd (vg (pv 0) T.A1 T.Ao.m (j6 T) c.m T.Ao.B .nil vo)) ?_,<-yi (pst 3 ą.nd (ut (yrd T) c.m T.My (pav 0))) ?_,<-yi (pst 4 ą.nd (uz (yku T) c.m T.Ig wa (pa1 (pcT wk T.At (pav 3))))) ?_,<-yi (vq (PW.pt (Ę (yt Ą (vi (pv 0) T.A1 T.Hs.m (ypt T) c.m T.Hs.B .nil wa (pa1 (vn xo))) uq (ve _)) (Ę (yt (Ō c.units) (vg (pv 4) T.A1 T.Ao.m (j6 T) c.m T.Ao.B .nil vo) (pv 2) (ve _)) (Đ (yt (Ō c.units) (ut (yrd T) c.m T.My (pav 4)) (pv 3) (ve _)))))) (yc (yp χ)) yy) ?_,<-yi (jt PassesOwn.never J (xr (yj6 (pv 2) zf zf (ux yd))) (xb (i:=5) ą.nd J (Or.inl J)) (yc (vq (PW.pt (Ę (yt (Ō c.units) (vi (pv 4) T.A1 T.Hq.m (yrl T) c.m T.Hq.B .nil wa (pav 5)) (vn xo) (ve _)) (Đ (yt Ą (vi (pv 4) T.A1 T.Cw.m (ygt T) c.m T.Cw.B .nil wa (pav 5)) uq (ve _))))) (yc (yp χ)) yy))) ?_,<-yi (pst 6 ą.nd (yo zt (vn (pac yd (pac yd (pac yd (pac yd (pa1 yd)))))) (vi (pv 0) T.A1 T.Ef.m (yl6 T) c.m T.Ef.B .nil wa (pa1 (pix wq (pv 2) yd))))) ?_];exists 2,5,yc (yp (ut (ywk T) c.m T.N5 (pa1 (yo zt (yo zt (yo zt (uh jb (pv 3) zf (ux (yo wl yd (pv 1)))) (vn (pa1 yd))) (uh jb (pv 3) (ux (yo wl yd (pv 1))) zf)) (pv 6)))));erw[D.names λkn H1 a2 M S1=>?_,←st,C,P,X,J,D.same S1,λdt H2 a0 d S2=>?_,←dt,_,J,.inl (SqL.of d),λl3 hl30=>?_];exists hl30,H3,S3,hl3;let U:=S1.trans (S2.trans S3);let t:=(S2.trans S3) _ _ M;let l:=S3 _ _ d;ext
 erw[l3,C,P,none,J,by rwa[ybg,hl3],by rwa[ybg,ay.1],by rw[ybg];have:=ay.2;omega,ag,(λq e=>nomatch e),λB su Z H4 hU S4 n4=>?_,λz=>absurd J z]
 let a8:=U.trans S4
 have h4:W2 K a H H4 X C P st X su Z:=#[D.same a8,hU,(λy w z=>by
  let#[o,e]:=(D.same U).live y w;rw[n4 y z]at e;cases e),Gx.refl.same a8,λy w=>U.free (n4 y w)]
 have al:K2 H4 X Z kn _:=#[S4 _ _ t,(Kf.new D a2 M).2,λw=>by rw[n4 _ w]at t;cases t];have aA:K2 H4 X Z dt _:=#[S4 _ _ l,(Kf.new (D.same S1) a0 d).2,λw=>by rw[n4 _ w]at l;cases l];clear t l a2 M a0 d hl30 hl3 U a8 S1 S2 S3 S4 n4 hU;let#[bi,bb,aY,b1,bg,au]:=h4.s.ins;ext;exists 'l',λu5 hu50=>?_
 exists hu50,H5,S5,hu5;let h5:=h4.same S5;ext
 erw[st,C,P,X,.ref u5,J,h5.s,.inr #[u5,[],J,#[hu5,(λx hx=>nomatch hx),bR _],bR _,λY H6 av g6=>?_]]
 rw[O.best];let ai:=(al.same S5).gs h5.s g6;let af:=(aA.same S5).gs h5.s g6;let W:=h5.gs av g6;clear h4 h5 al aA au hu50 hu5 S5 av g6;let#[b6,b4,b5,aX,be,am]:=W.o.ins
 have a1:∀z,z∈P.map (·.nm)->PyData.strOk z=true:=λz hz=>by
  let#[q,N,J]:=bw.mp hz;erw[(D.nm q N).2]
 ext;rwa[bz (show baV none=V.non from rfl),j9 ?_];ext;erw[W.o.names λl7 H7 ak a7 S7=>?_];ext;let a3:=ai.same S7;let I:=a3.1;rw[Ĕ]at a7 I;erw[ŭ _ _ a1 a1 (SqL.of a7) (SqL.of I) ?_];rwa[bz J,#[false,J,j9 ?_]];let h7:=W.same S7;let a9:=af.same S7;ext;erw[su,C,P,Z,J,h7.o,λl8 H8 as ab S8=>?_,←ywr _ _ (SqL.of ab) (SqL.of (a9.same S8).1) ?_];rwa[bz J,#[false,J,j9 ?_]];let h8:=h7.same S8;let a6:=a3.same S8;let aj:=a9.same S8;clear W h7 ai a3 I af a9 a7 ak ab as S7 S8 am;ext;exists by decide,kn,_,J,SqL.of a6.1,λsl L ς ae=>?_
 generalize stV (P.map λq=>V.str q.nm) none none (some 7)=ss at ς ae⊢;let S9:=yz (o:=(HO.lst ss)) L;have f:upd H8 sl (HO.lst ss) sl=some (HO.lst ss):=ya;generalize upd H8 sl (HO.lst ss)=H9 at S9 f⊢;erw[sl,J,#[_,SqL.of f],jp (K:=K) (a:=sl) (xs:=ss) (λi σ2 F=>∃Z v5,σ2=[some (V.ref st),some (.int ((C.ps 0).length:Nat)),some (.ref kn),some (.ref dt),some (.ref su),v5,none]/\W2 K a H F X C P st Y su Z/\K2 F Y Z kn (.lst (P.map λq=>V.str q.nm))/\K2 F Y Z dt (.lst ((shB C P).map V.int))/\K2 F Y Z sl (.lst ss)) ?_ ?_ ?_ ?_]
 .erw[Z,none,J,h8.same S9,a6.same S9,aj.same S9,K2.new h8.s h8.o L f]
 .rintro i σ2 F _ ⟨Z,v5,rfl,_,_,_,h⟩;erw[SqL.of h.1]
 .rintro i y σ2 F hy ⟨Z,v5,rfl,h,hk,hd,hl⟩;let#[q,N,J]:=bw.mp (ς y (bM hy));let ar:=(D.nm q N).1;let#[q1,_,q3,_]:=O.p q N;let#[aF,aQ,aD,aJ,aN,aU]:=h.o.ins;ext;erw[h.o.textof ar (λno=>absurd J (no q N)) λr c e Z2 w F2 aM g2 bc aq=>?_];obtain rfl:=Ö h.o.nd c N e;let h2:=h.go aM g2;let aG:=hk.go h.o g2;let aK:=hd.go h.o g2;let aL:=hl.go h.o g2;rw[q3]at aq;ext;exists 'l',λw3 hw30=>?_
  exists hw30,F3,S3,hw3;erw[ywr [] [] (SqL.of (S3 _ _ aq.1)) (SqL.of hw3) ?_];rwa[bz J,#[false,J,j9 ?_]];let h3:=h2.same S3;let#[aZ,bh,ba,bf,aW,aS]:=h3.o.ins;ext;erw[h3.o.baseof ar (λno=>absurd J (no r N)) λr2 aB e2 F4 S4=>?_];obtain rfl:=Ö h3.o.nd aB N e2;rw[q1];ext;rwa[bz (show baV none=V.non from rfl),j9 ?_];let a4:=S3.trans S4;ext;erw[Z2,_,J,h3.same S4,aG.same a4,aK.same a4,aL.same a4]
 rintro σ2 F ⟨Z,v5,rfl,h,hk,hd,_⟩;clear h8 a6 aj L f S9 ς ae;have h0:0<P.length:=()
 let R:=bW h0;let#[aF,aQ,aD,aJ,aN,ah]:=h.s.ins;ext;exists 'l',λu1 hu10=>?_
 exists hu10,G1,S1,hu1;let aR:=S1 _ _ ah;ext;erw[zq (v:=.str P[0].nm) (SqL.of (S1 _ _ hk.1)) (wt (j:=0) (by rw[bB,bp h0];rfl)) ?_,<-(h.s.same S1).bytesof (D.nm _ R).1 (λno=>absurd J (no _ R)) λr c e u2 G2 aT ac S2=>?_];obtain rfl:=Ö h.s.nd c R e;rw[O.by R]at ac;erw[u1,u2,_,_,J,J,S2 _ _ hu1,ac,w9 (by show 5+1<=_;decide),λu3 ao=>?_];let S3:=yz (o:=(HO.lst ([V.int 3,V.int 15,V.int 8,V.int 2,V.int 0]++[128].map V.int))) ao;have S:upd G2 u3 (HO.lst ([V.int 3,V.int 15,V.int 8,V.int 2,V.int 0]++[128].map V.int)) u3=some (HO.lst ([V.int 3,V.int 15,V.int 8,V.int 2,V.int 0]++[128].map V.int)):=ya;generalize upd G2 u3 (HO.lst ([V.int 3,V.int 15,V.int 8,V.int 2,V.int 0]++[128].map V.int))=G3 at S3 S⊢;let an:=S1.trans (S2.trans S3);have S:IL G3 u3 [3,15,8,2,0,128]:=S;have ad:IL G3 dt (shB C P):=an _ _ hd.1;let#[e1,e2,e3]:=O.hd;let#[f1,f2]:=O.fl D.nm P λB z=>z;obtain⟨fl,a5⟩:∃fl,fl=(P.map (pdB C P)).flatten:=#[_,J];rw[<- a5]at f1 f2;have ax:shB C P=hdB C++((P.length:Nat):Int)::fl:=by rw[a5];rfl
 have aP:(shB C P).take (5+(C.ps 0).length)=hdB C:=by rwa[ax,List.take_left' e1]
 have aH:(shB C P).drop (6+(C.ps 0).length)=fl:=by rw[ax,show 6+(C.ps 0).length=(hdB C).length+1 by omega,List.drop_length_add_append];rfl
 ext;erw[vj2 (n:=5+(C.ps 0).length) ad () aP λw1 J1 bd aE U1=>?_];ext;exists 'l',λw2 w20=>?_
 exists w20,J2,U2,hw2;have hw2:IL J2 w2 [61]:=hw2;erw[vil (aE.same U2) hw2 (by rw[e1];show _+1<=_;omega) λw3 J3 b7 hw3 U3=>?_];let aw:=U1.trans (U2.trans U3);ext;erw[vjy (n:=6+(C.ps 0).length) (ad.same aw) () aH λw4 J4 b3 aC U4=>?_,<-vil (hw3.same U4) aC (by rw[bq,e1,f2];show _+1+_<=_;omega) λw5 J5 b0 aI U5=>?_];let ap:=aw.trans (U4.trans U5);ext;erw[vil aI (S.same ap) (by rw[bq,bq,e1,f2];show _+1+_+6<=_;omega) λw6 J6 aV aa U6=>?_];obtain⟨q,N⟩:∃q:Pd,q=#[Str.ofString "pic",none,[],[]]:=#[_,J]
 have ed:hdB C++[61]++fl++[3,15,8,2,0,128]=shX C P (some q):=by
  unfold shX
  rw[hz,<- a5,show ((some q).toList.map (pdB C P)).flatten=pdB C P q++[]from rfl,cT,show pdB C P q=[3,15,8,2,0,128] by
   rw[N]
   unfold pdB Pd.by
   rw[O.n];show nmB (Str.ofString "pic")++[0]++Ð 1 C.kd C.ps [] []=_;rw[vig];decide+kernel]
  simp
 rw[ed]at aa;let az:=an.trans (ap.trans U6);ext;erw[w6,C,P,q,J,aa,?_,?_,ag,hz,?_,λG SG=>k Y G (h.s.same (az.trans SG)) (h.g.same (az.trans SG))]
 .rw[<- ed];erw[Byt.app (Byt.app (Byt.app e3 (by unfold Byt;decide)) f1) (by unfold Byt;decide)]
 .rw[<- ed,bq,bq,bq,e1,f2];show _+1+_+6<=_;omega
 .rw[N]
  erw[#['r','r'],λu hu e=>O.no u hu e,(λx hx=>nomatch hx),bR _,rfl]
noncomputable def pnS(k:Nat):Str:=Str.ofString "p"++⟨#[97+k%26]⟩++⟨#[97+k/26]⟩
def ĉ(k:Nat):(pnS k).cps.toList=[112,97+k%26,97+k/26]:=by unfold pnS;rw[zb,zb];rfl
def yr5{k:Nat}(h:k<60):okN (pnS k)/\(pnS k).length=3:=by
 erw[vd1 ?_ (by rw[ĉ];show 1<=3;decide) (by rw[ĉ];show 3<=8;decide),by rw[Ã,ĉ];rfl]
 rw[ĉ];intro c a;simp only[bH,List.not_mem_nil,or_false]at a;omega
def yk4(e:pnS i=pnS j):i=j:=by
 have:(pnS i).cps.toList=(pnS j).cps.toList:=by rw[e]
 rw[ĉ,ĉ]at this;injection this with _ this;injection this with h1 this;injection this with h2 _;omega
def pnP(k:Nat):qj Pd:=(List.range k).map λi=>#[pnS i,none,[],[]]
#synth τ ["_law_script","_law_way","_law_looks_here","_law_most","_law_store","_law_letters","_law_many","_law_k","_law_odd","_law_kind"] ["_law_script"] vcn
#synth ∀(K:xy),∀(l:qa)(ns:Ο)(_:vs=[.ref l])(_:SqL K H l (ns.map V.int))(_:ns.length<=63)(_:∀H',Q (.bl true) H'),ygx
def yyk:'v' 19 a.Qo a.Li ["_law_script"] (ygx K):=by
 exists T.N8.F.ok,τ,p;let#[l,R,J,hl,aQ,k]:=h;erw[yi (pst 1 τ.nd (ut (ņ T) p.m T.Di (pac (pv 0) (pa1 yd)))) ?_,<-yi (pst 2 τ.nd (ut (yu9 T) p.m T.Mz (pac (ut (ņ T) p.m T.Di (pac (pv 0) (pa1 yd))) (pa1 yd)))) ?_,<-yi (pst 3 τ.nd (yo wo (pv 1) yd)) ?_,<-yi (ö (i:=4) τ.nd J (Or.inr J) (uu T.Fz (yms T) p.m J T.Fx T.Ms .nil wa (pac (pv 2) (pav 3)))) ?_,<-yi (pst 5 τ.nd yr) ?_,<-yi (pst 6 τ.nd (yo wo (yo vk (pv 1) yd) yd)) ?_,<-yi (zn (vq (yt xj (yo wo (yo vk (pv 1) yd) yd) yd (ve _)) (yc (pst 6 τ.nd yd)) yy)) ?_,<-yi (jt PassesOwn.never J (zl J T.Ax (pav 6)) (xb (i:=7) τ.nd J (Or.inl J)) (yc (yw (vi (pv 4) T.A1 T.Mv (ymp T) p.m T.Uq (show xc [V.non] _ from (.cons J .nil)) wa (pac (yo uo (yo uo yr (zz (pv 5) (yo wo (pv 7) yd) (λB B=>rfl))) (zz (pv 5) (yo vk (pv 7) yd) (λB B=>rfl))) (pa1 (vn xo))))))) ?_,<-yi (jt PassesOwn.never J (yck J T.Ax (pac yd (pa1 (pcB (ľ J) T.Ny (pac yd (pa1 (pcB (ĸ J) T.Nw (pac yd (pa1 (pcB yq T.Af (pav 0))))))))))) (xb (i:=7) τ.nd J (Or.inl J)) (yc (vq (ue (xm (ut (yts T) p.m T.N4 (pac (pv 4) (pac (ut (ņ T) p.m T.Di (pac (pv 0) (pav 7))) (pav 3)))))) (yc (yp χ)) yy))) ?_,<-yi (zn (vq (PW.pt (Ų (yt xj (pv 6) yd (ve _)) (Ĉ (ue (xm (ut (yv8 T) p.m T.N7 (pac (pv 4) (pa1 (pcB yq T.Af (pa1 (pix Å (pix wq (pv 2) yd) yd))))))))))) (yc (yp χ)) yy)) ?_,<-yi (zn (vq (PW.pt (Ų (yt xj (pv 6) yd (ve _)) (Ĉ (ue (xm (ut (yvb T) p.m T.N6 (pac (pv 4) (pac (vg (pv 4) T.A1 T.Ao.m (j6 T) p.m T.Ao.B .nil vo) (pa1 (yo vk (pv 1) yd)))))))))) (yc (yp χ)) yy)) ?_,<-yi (vq (ue (xm (pcB (ζ J) T.En (pa1 (wx (js:=[4]) (ys:=["_law_store"]) J (zl J T.Ax (pa1 yd)) (λC s2 H2 fp=>(ut (yk2 T) p.m T.Ij (pac (pv 1) (pa1 (ut (yli T) p.m T.Ih (pav 0)))))) J J (hyc:=(all_cons J yv)) (hrel:=(all_cons J yv))))))) (yc (yp χ)) yy) ?_,<-yi (vq (ue (xm (ut (yk2 T) p.m T.Ij (pac (pv 4) (pa1 (yo zt (yo ygs (vn (pa1 yd)) (pv 3)) (vn (pa1 yd)))))))) (yc (yp χ)) yy) ?_,<-yi (pst 8 τ.nd (ut (yfb T) p.m T.Fw (pa1 (ut (ņ T) p.m T.Di (pac (pv 0) (pa1 yd)))))) ?_,<-yi (jt PassesOwn.never J (zl J T.Ax (pa1 yd)) (xb (i:=9) τ.nd J (Or.inl J)) (yc (vq (PW.pt (Ę (yt yiu (ut (yk9 T) p.m T.Ik (pac (pv 4) (pac (pv 9) (pav 8)))) yr (ve _)) (Đ (yt yiu (ut (yk9 T) p.m T.Ik (pac (pv 4) (pac (pv 9) (pa1 yr)))) yr (ve _))))) (yc (yp χ)) yy))) ?_,<-yi (vq (yt yiu (ut (ylk T) p.m T.Il (pac (ut (yto T) p.m T.N2 (pa1 (ut (ņ T) p.m T.Di (pac (pv 0) (pa1 yd))))) (pa1 (pix wq (vn (pac (pv 3) (pa1 (ym2 yc3 yd)))) (yo wo (yo vk (pv 1) yd) yd))))) yr (ve _)) (yc (yp χ)) yy) ?_,<-yi (vq (yt yiu (ut (ylk T) p.m T.Il (pac (pv 2) (pa1 (pix wq (vn (pac (ym2 yc3 yd) (pac yd (pac uq (pac χ (pa1 yr)))))) (yo wo (yo vk (pv 1) yd) yd))))) yr (ve _)) (yc (yp χ)) yy) ?_];exists 1,9,yc (yp (ud xj (uz (yc0 T) p.m T.Fn wa (pa1 yr)) yr (ve _)));erw[l,R,0,J,hl,∅,λN w0 w1=>?_]
 ext;erw[l,R,1,J,hl,∅,λc c0 c1=>?_]
 ext;erw[c,1,J,c0,c1,∅,∅,λlo n lk kd tp ps H1 aM a5 n1 av hR S1=>?_]
 obtain rfl:n=1:=()
 clear n1 av c0 c1 c;obtain⟨mo,aB,aL⟩:∃mo:Nat,N%3=(mo:Int)/\mo<=2:=#[(N%3).toNat,(),()];ext;rw[aB];ext;intro ς ds ad ai aP;obtain⟨C,af,ag,aH,ac,ak⟩:∃C:Cf,C.n=1/\C.mo=mo/\C.w=mo/\uk H1 1 lk C.kd tp C.ps/\C=#[1,C.kd,C.ps,mo,mo]:=#[#[1,kd,ps,mo,mo],J,J,J,hR,J];erw[Sto.new (mo:=mo) (w:=mo) (kd:=C.kd) (ps:=C.ps) ad ai a5 ∅ ∅ ac () (bx _) () λX H2 Z S2 nX=>#[J,?_]];rw[<- ak]at Z;let ay:=S1.seq hl;ext;erw[ø (λσ2 F=>H2=F/\∃m:Nat,σ2=[some (V.ref l),some (.int N),some (.ref lo),some (.int mo),some (.ref ς),some (.str smS),some (.int m),none,none,none]/\m<=60) ?_ ?_]
 .ext;refine za (λB=>?_) (λB=>?_)
  .ext;erw[J,60,J,bx _]
  .ext;erw[J,(N/3%3).toNat,by rw[show (((N/3%3).toNat:Nat):Int)=N/3%3 by omega];rfl,()]
 rintro σ2 F ⟨rfl,m,rfl,an⟩;ext;erw[_,J,(),(),À (lo:=0) (n:=m) (λi σ2 F=>∃Y v7,σ2=[some (V.ref l),some (.int N),some (.ref lo),some (.int mo),some (.ref ς),some (.str smS),some (.int m),v7,none,none]/\Sto K a F ς C (pnP i) Y/\yu H1 F/\∀y,Y.f y->H1 y=none) ?_ ?_ ?_]
 .erw[X,none,J,Z,S2,nX]
 .rintro i σ2 F hi ⟨Y,v7,rfl,o,r,M⟩;let#[ds,vl,vm,vp,vc,az]:=o.ins;ext;have e1:(0+(i:Int))%26=((i%26:Nat):Int):=()
  have e2:(0+(i:Int))/26=((i/26:Nat):Int):=()
  rwa[e1,#[smS,_,97+i%26,J,J,(),(),by rw[yde];omega,yc4 _ (),?_]]
  erw[_,_,J,J,by show 1+1<=_;decide,?_]
  ext;rwa[e2,#[smS,_,97+i/26,J,J,(),(),by rw[yde];omega,yc4 _ (),?_]]
  erw[_,_,J,J,by show 2+1<=_;decide,?_]
  ext;exists 'l',λu hu0=>?_
  exists hu0,F2,T2,hu2;let O:=o.same T2;have hz:(pnP i).length=i:=by unfold pnP;rw[bo,b9]
  ext
  erw[O.put (b:=pnS i) (x:=none) (L:=[]) (ts:=[]) (yr5 ()).1 #[hu2,(λx hx=>nomatch hx),bR _] J (λq I e=>?_) () λY' F3 as g3=>?_]
  .let#[j,hj,J]:=bw.mp I;have:=cG.mp hj;let e:=yk4 e;omega
  let#[aw,aK]:=g3.bs O (r.trans T2) M;ext;erw[Y',_,J,?_,aw,aK];have:pnP (i+1)=pnP i++[#[pnS i,none,[],[]]]:=by unfold pnP;rw[List.range_succ,bA];rfl
  rwa[this,as]
 rintro σ2 F ⟨Y,v7,rfl,o,r,M⟩;have a1:∀{F:Hp},yu H1 F->SqL K F l (R.map V.int):=λS=>S.seq ay;have a0:(pnP m).length=m:=by unfold pnP;rw[bo,b9]
 have a2:∀q,q∈pnP m->q.bs=none/\q.path=[]/\q.tx=[]/\q.nm.length=3:=λq I=>by
  let#[j,hj,J]:=bw.mp I;have:=cG.mp hj;erw[J,J,J,(yr5 ()).2]
 have aq:∀q,q∈pnP m->q.nm≠Str.ofString "pic":=λq I e=>by
  let#[j,hj,J]:=bw.mp I;have:=cG.mp hj;let e:=yk4 (j:=60) (e.trans 'r');omega
 clear Z nX S2;ext;erw[ur (a1 r) ?_];rw[bo];ext;erw[_,_,J,?_,←_,_,J,?_];ext
 have eb:∀x:Int,5<=(if (if x<8 then x else 8) > 5 then if x<8 then x else 8 else 5)/\(if (if x<8 then x else 8) > 5 then if x<8 then x else 8 else 5)<=8:=λx=>by
  (repeat' split)<;>omega
 let eb:=eb (R.length:Int);generalize (if (if (R.length:Int)<8 then (R.length:Int)else 8) > 5 then if (R.length:Int)<8 then (R.length:Int)else 8 else 5)=e at eb;erw[4,e,J,#[∅,∅,(),()],À (lo:=4) (n:=(e-4).toNat) (λi σ2 F=>∃P Y v7,σ2=[some (V.ref l),some (.int N),some (.ref lo),some (.int mo),some (.ref ς),some (.str smS),some (.int m),v7,none,none]/\Sto K a F ς C P Y/\yu H1 F/\(∀y,Y.f y->H1 y=none)/\(m=60->P=pnP m)/\∀q,q∈P->q.nm.length<=4) ?_ ?_ ?_]
 .erw[pnP m,Y,_,J,o,r,M,λB=>rfl,λq I=>by rw[(a2 q I).2.2.2];decide]
 .rintro i σ2 F hi ⟨P,Y,v7,rfl,o,r,M,d,W⟩;ext;exists l,R,4+i,by rw[show ((4+i:Nat):Int)=4+(i:Int) by omega];rfl,a1 r,(),λc c0 c1=>?_
  ext;erw[ς,C,P,Y,c,by rw[ag];rfl,o,c0,by rw[aH,ag],(),λP' Y' F' O g' g au=>?_]
  let#[a7,a6]:=g'.bs o r M;ext;erw[P',Y',_,J,O,a7,a6,λz=>?_,λq I=>(au q I).elim (W q) λz=>by omega]
  have:=d z;rw[g (by rw[this,a0,z]),this]
 rintro σ2 F ⟨P,Y,v8,rfl,o,r,M,d,W⟩;clear eb e v7;ext;erw[ø (λσ2 F=>σ2=[some (V.ref l),some (.int N),some (.ref lo),some (.int mo),some (.ref ς),some (.str smS),some (.int m),v8,none,none]/\∃Y,Sto K a F ς C P Y/\yu H1 F/\∀y,Y.f y->H1 y=none) ?_ ?_]
 .ext;refine za (λg=>?_) (λB=>?_)
  .have g:m=60:=()
   let#[_,e0,r1,r2,r3]:=ac 0 ∅;have h6:Six C P:=#[af,r3,(),by rw[d g,a0,g],by rwa[d g,a2],by rwa[d g,aq]];cases e0;ext;erw[zq (v:=.ref (lk 0)) (SqL.of (r _ _ a5)) (wt (j:=0) J) ?_,←ybs (SqT.of (r _ _ r1)) (wt (j:=1) J) ?_,←tp 0,_,J,.inr (SqT.of (r _ _ r2)),?_];rw[bo];ext;erw[ς,C,P,Y,J,o,h6,λY' F' O g'=>?_];let#[a7,a6]:=g'.bs o r M;ext;erw[J,Y',O,a7,a6]
  .erw[j9 ?_];ext;erw[J,Y,o,r,M]
 clear o r M Y;rintro σ2 F ⟨rfl,Y,o,r,M⟩;ext;erw[ø (λσ2 F=>σ2=[some (V.ref l),some (.int N),some (.ref lo),some (.int mo),some (.ref ς),some (.str smS),some (.int m),v8,none,none]/\∃P Y,Sto K a F ς C P Y/\yu H1 F/\(∀y,Y.f y->H1 y=none)/\∀q,q∈P->q.nm.length<=5) ?_ ?_]
 .ext;refine za (λg=>?_) (λB=>?_)
  .have g:m=60:=()
   let#[ds,vl,vm,vp,vc,az]:=o.ins;ext;erw[o.names λkn F1 aj am S1=>?_,←ς,kn,C,P,Y,_,J,o.same S1,Kf.new o aj am,(),by rw[d g,a0,g],λq I=>?_,λP' Y' F2 Z g2 aC=>?_]
   .rw[d g]at I;let#[h1,_,_,h4]:=a2 q I;erw[h1,λe=>by rw[e]at h4;erw[absurd h4 'r']]
   let#[aD,aE]:=g2.bs (o.same S1) (r.trans S1) M;ext;erw[J,P',Y',Z,aD,aE,λq I=>(aC q I).elim (λz=>by have:=W q z;omega) λz=>by rw[z];decide+kernel]
  .erw[j9 ?_];ext;erw[J,P,Y,o,r,M,λq I=>by have:=W q I;omega]
 clear o r M d W a2 aq a0 Y P an af;rintro σ2 F ⟨rfl,P,Y,o,r,M,ae⟩;ext;erw[_,J,∅,∅,λD hD=>?_]
 erw[yb6 (lo:=0) (n:=16) (λB=>.bl true) hD (λi G hi U hG=>?_) (λG U hG=>?_)]
 .ext;exists _,J,(),λt tn G2 ty hb B S2=>?_
  ext;erw[ς,C,P,Y,t,tn,J,o.same (U.trans S2),ty,hb,λG3 S3=>?_,<-Mp.doneR hD (vv ∅) hi (U.trans (S2.trans S3)) ((S2.trans S3) _ _ hG) J]
 have hG:G D\((List.replicate 16 true).map V.bl):=hG;ext;erw[D,_,J,SqL.of hG,?_];rwa[ybf,#[true,J,j9 ?_]];clear hG hD;ext;exists 'l',λu1 hu10=>?_
 exists hu10,G1,S1,hu1;ext;erw[u1,_,_,J,J,hu1,(),(),w9 (by show 1*mo<=_;omega),λu2 hu20=>?_]
 rw[show ((mo:Int)).toNat=mo from rfl,ykv];exists hu20,G2,S2,hu2;ext;exists 'l',λu3 hu30=>?_
 exists hu30,G3,S3,hu3;erw[u2,u3,_,_,J,J,S3 _ _ hu2,hu3,w9 (by rw[bo,cV];show mo+1<=_;omega),λu4 hu40=>?_];have a3:(List.replicate mo (0:Int)).map V.int++[V.int 256]=(List.replicate mo (0:Int)++[256]).map V.int:=by rw[bA];rfl
 rw[a3];exists hu40,G4,S4,hu4;let a9:=U.trans (S1.trans (S2.trans (S3.trans S4)));ext;erw[ς,C,P,Y,.ref u4,_,J,o.same a9,.lst hu4,.inr #[u4,_,J,hu4,zu _,by rw[bo,bq,cV];show mo+1<=_;omega,?_],λG5 S5=>?_]
 .rw[bA,List.all_append,show ([256]:Ο).map V.int=[V.int 256]from rfl,show ([V.int 256].all sgV)=false from rfl,Bool.and_false,Bool.and_false]
 let aa:=a9.trans S5;clear hu10 hu1 hu20 hu2 hu30 hu3 hu40 hu4 S1 S2 S3 S4 S5 U a3 a9;let ab:=r.trans aa;let a4:=o.same aa;ext;erw[l,R,2,J,a1 ab,∅,λc c0 c1=>?_]
 ext;erw[c,J,c0,λv nt G6 ty ao hv B S6=>?_,←_,J,∅,∅,À (lo:=0) (n:=5) (λi σ2 G=>∃v9,σ2=[some (V.ref l),some (.int N),some (.ref lo),some (.int mo),some (.ref ς),some (.str smS),some (.int m),v8,some v,v9]/\yu G6 G) ?_ ?_ ?_]
 .erw[none,J,yu.refl _]
 .rintro i σ2 G hi ⟨v9,rfl,U⟩;let al:=S6.trans U;ext;exists ς,C,P,Y,i,v,nt,by rw[Int.zero_add];rfl,a4.same al,jh U ty,(λs e=>by have:=ao s e;omega),.inl #[hv,λG2 S2=>?_]
  ext;erw[J,?_];rwa[bz J,#[false,J,j9 ?_]];ext;erw[ς,C,P,Y,i,.str !"nobody","str",by rw[Int.zero_add];rfl,a4.same (al.trans S2),.str _,(λs e=>by cases e;decide+kernel),.inr #[_,J,'r',(λq I e=>by have:=ae q I;rw[e]at this;erw[absurd this 'r']),λG3 S3=>?_]]
  ext;erw[J,?_];rwa[bz J,#[false,J,j9 ?_]];ext;erw[_,J,U.trans (S2.trans S3)]
 rintro σ2 G ⟨v9,rfl,U⟩;let a8:=ab.trans (S6.trans U);clear ty ao hv S6 U a4 ab aa o ae M r;ext;erw[l,R,3,J,a1 a8,∅,λc3 ar aN=>?_]
 ext;erw[c3,J,ar,λy G7 hy S7=>?_];ext;exists 'l',λu8 hu80=>?_
 exists hu80,G8,S8,hu8;ext;let#[z,_,hz]:=ybk (xs:=[V.int mo,V.int (-1)]) (i:=N/72%2) () (by show _<(2:Int);omega);erw[zq (SqL.of hu8) hz ?_,←y,z,J,.inl #[ys5.same hy S8,λG9 S9=>?_],←J,?_];rwa[bz J,#[false,J,j9 ?_]];let ax:=a8.trans (S7.trans (S8.trans S9));clear hz hu8 hu80 hy S7 S8 S9 a8;ext;exists 'l',λuA huA0=>?_
 exists huA0,GA,SA,huA;ext;let#[z,ah,hz]:=ybk (xs:=[V.int (-1),V.int 1001,.non,.bl true,.str !"3"]) (i:=N/72%5) () (by show _<(5:Int);omega);erw[zq (SqL.of huA) hz ?_]
 have aF:∃nt,xf K GA z (.type nt)/\ym8 z=false:=by
  simp only[bH,List.not_mem_nil,or_false]at ah;rcases ah with rfl|rfl|rfl|rfl|rfl
  .erw[_,.int _,rfl]
  .erw[_,.int _,rfl]
  .erw[_,.non,rfl]
  .erw[_,.bl _,rfl]
  .erw[_,.str _,rfl]
 let#[aI,aG,aA]:=aF;let ap:=ax.trans SA;ext;erw[.ref lo,z,J,.inr #[lo,1,lk,tp,_,_,aI,J,ap _ _ a5,∅,∅,ac.same ap,aG,aA,λGB B=>?_],←J,?_];rwa[bz J,#[false,J,j9 ?_]];ext;erw[.str !"nobody","str",J,.str _,(λs e=>by cases e;decide+kernel),(λB GC B=>?_),λz=>absurd z 'r',←J,?_];rwa[bz J,k GC]
end
end
mutual
variable{C:Cf}{P:qj Pd}{X Y:Sx}
def all_mk{l:W.OpenLaw}{w:qe}{K:xy}{mg:Ε}{fa:qa}(hfa:mg "law"∣fa)(T:Txt K mg a)
 :∃fd:FuncData,(∀(s:qb)(v:qc),BindsTo s fd #[[v],[]] [("_law_script",v)])/\∀Γ:qg,K.In Γ->Γ.Ns mainGlobals mg->vx l.prog w K mg Γ CX0 19 fa fd ["_law_script"] (ygx K):=by have e:=hfa.symm.trans T.N8.m;obtain rfl:=Value.ref.inj (bL e);erw[a.Li,λs v=>?_,λΓ Z Z=>yyk T];let#[_,_,_,_,_,_,_,_,_,e,_,_]:=T.N8.F.ex;rwa[e,.of_eq J]
def walk{l:W.OpenLaw}{q:qi}{loose:Ρ}{XP:(Ε)->qg->Prop}{YP:qe->qg->Prop}{d:DefRec}{K:Params->xy}(hn:l.most=some 63)(hdf:d.params.defaults=[])
  (hY:∀(w:qe)(h:qg),YP w h->(K w.params).In h)
  (F:∀(w:qe)(mg:Ε)(fa:qa)(h:qg),(K w.params).In h->h.Ns mainGlobals mg->mg d.name∣fa ->
   ∃fd:FuncData,(∀(s:qb)(u:qc),BindsTo s fd #[[u],[]] [("_law_script",u)])/\∀Γ:qg,(K w.params).In Γ->Γ.Ns mainGlobals mg->vx l.prog w (K w.params) mg Γ CX0 19 fa fd ["_law_script"] (ygx (K w.params))):
  W.WalkO q loose XP YP l.row.toRowW d [] (λf vs=>PySem.call f vs) :=
 L2.walk_of (n:=63) (k:=19) (x:="_law_script") (CX:=λZ=>CX0) (sp:=λw=>ygx (K w.params)) hn ∅ hdf #[J,∅,∅] hY F (λZ Z a c b Z e=>#[a,c,J,e,b,λZ=>rfl]) λZ Z Z Z Z z=>z
end
end Law
end
open PySem PySem.W PyProof.Rows
set_option maxRecDepth 100000 in
set_option maxHeartbeats 0 in
theorem PySem.Challenge.cw_foretell_k44_store_refused_holds : PySem.Challenge.rw_foretell_k44_store_refused.Holds := by
 refine H0.2 ?_
 unfold H0
 dsimp only []
 k_fill
 refine Law.walk (l := PySem.Challenge.rw_foretell_k44_store_refused) rfl rfl (fun w h Y => PySem.W.kIn_of Y) ?F
 case F =>
  intro w mg fa h KX G hmg
  refine' Law.all_mk hmg (Law.Txt.mk (a := Law.Ads.mk) ..)
  any_goals (refine L2.pG ?_; try dsimp only)
  any_goals (refine L2.pG ?_; first | (refine' PySem.W.mg_of KX G ?_; k_is; done) | (refine' PySem.W.mg_none_of KX G ?_; k_is; done))
  any_goals (refine L2.pG ?_; first | (refine' L2.Dg.d1 (L2.dgf_mk KX G ?_ ?_ ?_ ?_); any_goals k_is; done) | (refine' L2.Dg.d2 (L2.dgf_mk KX G ?_ ?_ ?_ ?_); any_goals k_is; done) | (refine' L2.Dg.d3 (L2.dgf_mk KX G ?_ ?_ ?_ ?_); any_goals k_is; done) | (refine' L2.Dg.d4 (L2.dgf_mk KX G ?_ ?_ ?_ ?_); any_goals k_is; done) | (refine' L2.Dg.d6 (L2.dgf_mk KX G ?_ ?_ ?_ ?_); any_goals k_is; done) | (refine' L2.Dg.d1 (L2.dgm_mk ?_ ?_ ?_ ?_ ?_); any_goals k_is; done) | (refine' L2.Dg.d2 (L2.dgm_mk ?_ ?_ ?_ ?_ ?_); any_goals k_is; done) | (refine' L2.Dg.d3 (L2.dgm_mk ?_ ?_ ?_ ?_ ?_); any_goals k_is; done) | (refine' L2.Dg.d4 (L2.dgm_mk ?_ ?_ ?_ ?_ ?_); any_goals k_is; done) | (refine' L2.funD_mk ?_ ?_ ?_; any_goals k_is; done) | (refine' L2.bindsR (j := 2) ?hj ?hh ?hd; (case hd=>k_is); (case hj => rfl); (case hh => exact fun _ _ _ _ _ _ _ _ => Exists.intro _ ⟨rfl, rfl⟩); done) | (refine' L2.bindsR (j := 3) ?hj ?hh ?hd; (case hd=>k_is); (case hj => rfl); (case hh => exact fun _ _ _ _ _ _ _ _ _ => Exists.intro _ ⟨rfl, rfl⟩); done) | (refine' L2.bindsR (j := 4) ?hj ?hh ?hd; (case hd=>k_is); (case hj => rfl); (case hh => exact fun _ _ _ _ _ _ _ _ _ _ => Exists.intro _ ⟨rfl, rfl⟩); done) | (refine' L2.XCls.mk ?_ ?_ ?_ ?_ ?_ ?_ ?_ ?_ <;> k_is) | (refine' L2.Cls.mk ?_ ?_ ?_ ?_ <;> k_is) | (refine' L2.Mk.mk ?_ ?_ ?_ ?_; any_goals k_is; done) | (refine' L2.Meth.mk ?_ ?_ ?_; any_goals k_is; done) | ((first | refine' L2.exm_mk ?_ ?_ ?_ ?_ | refine' L2.exm_mkB ?_ ?_ ?_ ?_); any_goals (first | k_is | k_exc); done) | (unfold L2.NoAttr; k_is) | k_is | kit_is | k_exc | (with_reducible show _ = _; first | k_is | k_exc))
  any_goals (refine L2.pG ?_; first | (refine' L2.funD_mk ?_ ?_ ?_; any_goals k_is; done) | (refine' L2.bindsR (j := 2) ?hj ?hh ?hd; (case hd=>k_is); (case hj => rfl); (case hh => exact fun _ _ _ _ _ _ _ _ => Exists.intro _ ⟨rfl, rfl⟩); done) | (refine' L2.bindsR (j := 3) ?hj ?hh ?hd; (case hd=>k_is); (case hj => rfl); (case hh => exact fun _ _ _ _ _ _ _ _ _ => Exists.intro _ ⟨rfl, rfl⟩); done) | (refine' L2.bindsR (j := 4) ?hj ?hh ?hd; (case hd=>k_is); (case hj => rfl); (case hh => exact fun _ _ _ _ _ _ _ _ _ _ => Exists.intro _ ⟨rfl, rfl⟩); done))
#print axioms PySem.Challenge.cw_foretell_k44_store_refused_holds
