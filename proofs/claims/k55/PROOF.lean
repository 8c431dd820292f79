import PyProof.Rows.All
import Wide.All
import OpenK.KLine
import OpenK.KWalk
import OpenK.KOwn
import KE.RegKIsAll
import KE.KxText
import KE.KIntText
import KE.KDictList
import KE.KTryMore
import Wide.FinOn
import PyProof.EqAt
import PyProof.EqKinds
import PyProof.TupleCall
import Lean
import PySem.Challenge.RW_foretell_k55_desk_open
set_option Elab.async false
set_option linter.all false
set_option hygiene false
set_option bootstrap.genMatcherCode false
set_option compiler.extract_closed false
noncomputable section
set_option maxRecDepth 100000
set_option maxHeartbeats 0
theorem aA(_:True:=by rfl):True:=⟨⟩
theorem aB(_:True:=by decide):True:=⟨⟩
theorem aC(_:True:=by decide+kernel):True:=⟨⟩
theorem aD(_:True:=by assumption):True:=⟨⟩
theorem aE(_:True:=by intro _;rfl):True:=⟨⟩
theorem aF(_:True:=by exact rfl):True:=⟨⟩
theorem aG(_:True:=by first|erw[.inl rfl]|erw[.inr rfl]|assumption):True:=⟨⟩
theorem aH(_:True:=by intros;rfl):True:=⟨⟩
theorem aI(_:True:=by first|erw[Or.inl rfl]|erw[Or.inr (Or.inl J)]|erw[Or.inr (Or.inr J)]):True:=⟨⟩
local macro_rules | `(¬¬$p)=>`(autoParam $p aA._auto_1)
local macro_rules | `(~~~$p)=>`(autoParam $p aB._auto_1)
local macro_rules | `(tactic| exists $ts,*)=>`(tactic| refine ⟨$ts,*⟩)
theorem ϱ1{a b:Nat}(h:autoParam (a<b) aD._auto_1):a<=b:=Nat.le_of_lt h
theorem ϱ2{a b:Nat}(h:autoParam (a<b) aD._auto_1):b-(a+1)<b-a:=Nat.sub_succ_lt_self _ _ h
theorem ϱ3{a b:Nat}(h:autoParam (a+1<=b) aD._auto_1):a<b:=h
theorem ϱ4{a b c:Nat}(h:autoParam (a<b) aD._auto_1)(i:autoParam (b<=c) aD._auto_1):a<c:=Nat.lt_of_lt_of_le h i
theorem ϱ5{a b c:Nat}(h:autoParam (a<=b) aD._auto_1)(i:autoParam (b<=c) aD._auto_1):a<=c:=Nat.le_trans h i
theorem ϱ6{a b:Int}(h:autoParam (a<b) aD._auto_1):a<=b:=Int.le_of_lt h
theorem ϱ7{a b c:Nat}:min (a-b) (c-b)<=c:=Nat.le_trans (Nat.min_le_right _ _) (Nat.sub_le _ _)
theorem ϱ8{a b c d:Nat}(h:autoParam (c<=d) aD._auto_1):min (a-b) (c-b)<=d:=Nat.le_trans ϱ7 h
local macro_rules | `(tactic| omega)=>`(tactic| first | with_reducible first | assumption | exact ϱ1 | exact ϱ2 | exact ϱ3 | exact Nat.min_le_right _ _ | exact Nat.min_le_left _ _ | exact ϱ7 | exact ϱ8 | exact ϱ4 | exact ϱ5 | exact ϱ6 | lia | omega (config:={}))
open Lean.Parser.Tactic in
local macro_rules | `(tactic| let $p:term := $e)=>do
 let s<-p.raw.rewriteBottomUpM fun x=>do
  if x.isOfKind `Lean.Parser.Term.anonymousCtor||x.isOfKind `«term#[_,]» then
   let ps<-x[1].getSepArgs.mapM fun y=>`(rcasesPatLo| $(⟨y⟩):rcasesPat)
   return (<-`(rcasesPat| ⟨$[$ps:rcasesPatLo],*⟩)).raw
  else if x.isIdent then return (<-if x.getId==`J then `(rcasesPat| rfl) else `(rcasesPat| $(⟨x⟩):ident)).raw
  else if x.isOfKind `Lean.Parser.Term.hole then return (<-`(rcasesPat| _)).raw
  else return x
 `(tactic| obtain $(⟨s⟩):rcasesPat:=$e)
namespace PySem.W.Fast
local macro_rules
 | `(#synth $k:ident $ns*)=>Lean.MonadRef.withRef .missing do return Lean.mkNullNode ((<-(ns.foldl (fun c n=>match n.raw.isNatLit?,c.back? with | some n,b=>c.push (n+b.getD 0) | _,b=>(Array.range' c[0]! (b.getD 0-c[0]!+1))) #[]).mapM fun n=>`(theorem $(Lean.mkIdent (.mkSimple s!"tw{(k.getId.getPrefix.str s!"{k.getId.getString!}_{n}").hash}")) : True:=⟨⟩)).map (·.raw))
 | `(#synth $k:ident)=>`(theorem $(Lean.mkIdent (.mkSimple s!"tw{k.getId.hash}")) : True:=⟨⟩)
#synth PySem.Challenge.pw_foretell_k55_desk_open
#synth H0.heap 39 7 1518
#synth H0.tree 47 23 15 15 15 15 15 15 15 15 15 15 15 15 15 15 48 45 37 43 43 50 16 65 45 51 47 85 15 58 68 51 42 140 86 31 66 26 59 66
#synth H0.view 39
#synth H0.o 43 1520 _
#synth H0.sts 49 22 15 15 15 15 15 15 15 15 15 15 15 15 15 15 48 45 37 43 43 50 16 65 45 51 47 85 15 58 68 51 42 229 28 66 26 59
#synth H0.env 41
end PySem.W.Fast
section
open PySem PySem.W PyProof.Rows
def Q0:Program:={PySem.Challenge.pw_foretell_k55_desk_open with main:={PySem.Challenge.pw_foretell_k55_desk_open.main with body:=PySem.Challenge.pw_foretell_k55_desk_open.main.body.drop 126}}
def Z0:List Str:=PySem.Challenge.pw_foretell_k55_desk_open.boundNames.filter (·!="law")
theorem H1{K:Params->Frag}{as:List Addr}(n:Nat)(e:∀P,as=(K P).map (·.1))(w:World)(s:Shared)(x:((as.take n).map s.heap.get?,(as.drop n).map s.heap.get?)=(((K w.params).take n).map (fun p=>some p.2),((K w.params).drop n).map fun p=>some p.2)):InK K w s.heap:=InK.of e w s (by
 have h:=Prod.mk.inj x
 rw [<-List.take_append_drop n as,List.map_append,h.1,h.2,<-List.map_append,List.take_append_drop])
local macro_rules | `(tactic| refine $f:ident $as*)=>do
 unless f.getId==`PySem.W.holds_open do Lean.Macro.throwUnsupported
 let h:=as[6]!.raw[3][1][0][1][1]
 let k:Lean.Term:=⟨h[0]⟩
 let a:Lean.Term:=⟨h[1]⟩
 let e:Lean.Term:=⟨h[2]⟩
 let r:=as.extract 10 as.size
 `(tactic| (refine ($f (q:=Q0) (loose:=Z0) $(as[2]!) $(as[3]!) (Yf:=fun s=>((List.take 400 $a).map s.heap.get?,(List.drop 400 $a).map s.heap.get?)) (Ya:=fun w=>((List.take 400 ($k w.params)).map (fun p=>some p.2),(List.drop 400 ($k w.params)).map fun p=>some p.2)) $(as[6]!) $(as[7]!) $(as[8]!) (H1 400 $e) $r*); case $(Lean.mkIdent `hc):ident=>exact $(Lean.mkIdent `hP)))
set_option maxRecDepth 100000 in
set_option maxHeartbeats 0 in
def H0:PSigma fun P:Prop=>P->PySem.Challenge.rw_foretell_k55_desk_open.Holds:=by
 refine' ⟨_,fun hP=>?_⟩
 rotate_left
 w_on; o_law; k_head
 w_witness2
end
section
open PySem PySem.Spec PyProof.Rows
local macro_rules | `(#synth '@' $n*)=>do return Lean.mkNullNode (<-(Array.range (n.size/2)).mapM fun i=>let y:Lean.Ident:=⟨n[2*i+1]!⟩;let x:Lean.Ident:=⟨n[2*i]!⟩;`(def $x : type_of% @$y:ident:=@$y:ident))
#synth '@' bv wpAny_bind bL List.length_map bP List.getElem?_eq_getElem bQ List.length_append bR Heap.get?_push_of_some bS wpAny_pure bT Nat.le_refl bU List.getElem?_map bV decide_eq_true bW List.mem_map bX List.mem_singleton bY List.getElem?_eq_some_iff bZ List.mem_cons cb Heap.get?_push_size ce List.map_append cg Heap.lt_size ci Bool.false_ne_true cj decide_eq_false ck List.mem_of_getElem? cn List.length_cons cq List.append_assoc cr Option.some.inj cu List.size_toArray cz List.length_take cA List.mem_append cB Bool.and_eq_true cD Nat.not_lt_zero cE List.getElem_mem cF List.mem_cons_of_mem cG List.mem_cons_self cH List.take_succ_eq_append_getElem cI List.mem_append_right cJ List.length_singleton cK Nat.zero_le cL List.getD_eq_getElem?_getD cM List.map_map cN Nat.le_trans cO List.map_cons cP Nat.lt_of_lt_of_le cQ List.getElem?_eq_none cR Nat.ne_of_lt cS List.length_range cT wpAny_field cU List.take_of_length_le cV List.mem_of_mem_take cX List.take_length cZ List.mem_append_left c7 wpAny_mono c8 List.mem_range c9 List.replicate_succ db Int.mul_le_mul_of_nonneg_right df List.drop_eq_getElem_cons dg Array.length_toList dh List.getElem?_range di Int.mul_le_mul_of_nonneg_left dm wpAny_truthy_bool dn Int.emod_lt_of_pos du List.length_drop dv Nat.lt_irrefl dw List.append_nil dz List.getElem?_append_right dA List.getElem?_append_left dB Int.emod_nonneg dC List.nodup_cons dD List.getElem_map dE List.eq_nil_of_length_eq_zero dF Option.map_some dG List.take_append_drop dH beq_eq_false_iff_ne dI Option.map_eq_some_iff
end
abbrev Β:=Nat->PySem.Addr->Prop
abbrev Δ:=PySem.Value->PySem.Shared->Prop
abbrev Ε:=PySem.Str->Option PySem.Value
abbrev Η:=List (PySem.Str×List Int)
abbrev Θ:=List (PySem.Addr×PySem.Obj)
abbrev Κ:=Nat->List Int
abbrev Λ:=Nat->PySem.Addr
abbrev Μ:=PySem.Addr->Prop
abbrev Ν:=Nat->Fin 3
abbrev Ξ:=List PySem.Value
abbrev Ο:=List Int
abbrev Ρ:=List PySem.Str
abbrev Υ:=Option PySem.Str
abbrev Φ:=List PySem.Addr
abbrev xy:=PySem.W.Frag
abbrev qa:=PySem.Addr
abbrev qb:=PySem.Shared
abbrev qc:=PySem.Value
abbrev qd:=PySem.Stmt
abbrev qe:=PySem.World
abbrev qf:=PySem.Around
abbrev qg:=PySem.Heap
abbrev qh:=PySem.Expr
abbrev qi:=PySem.Program
abbrev qj:=List
abbrev ql:=Option
section
set_option tactic.hygienic false
local macro_rules | `(#[$xs,*])=>do
 if xs.getElems.size<2 then Lean.Macro.throwUnsupported
 `(⟨$xs,*⟩)
local macro_rules | `(tactic| let $x:ident := $e)=>`(tactic| have $x:ident := $e)
local macro_rules | `(())=>`(by omega)
local macro_rules | `(∅)=>`(by decide)
local macro_rules | `(tactic| rwa [$rs,*])=>`(tactic| (rw [$(rs.getElems.pop),*];refine $(⟨rs.getElems.back!.raw[1]⟩)))
local macro_rules | `(tactic| erw [$rs,*])=>do
 let F (c:Array Lean.Term):=if c.size<2 then `(tactic| refine $(c[0]!)) else `(tactic| refine ⟨$c,*⟩)
 let mut o:Array (Lean.TSyntax `tactic):=.empty
 let mut c:Array Lean.Term:=.empty
 for r in rs.getElems do
  let m:=r.raw[0]
  if !m.isNone then
   o:=o.push (<-F c)
   c:=.empty
   if (m.find? (·.isToken "←")).isSome then o:=o.push (<-`(tactic| ext))
  c:=c.push ⟨r.raw[1]⟩
 o:=o.push (<-F c)
 if o.size<2 then return o[0]! else `(tactic| ($[$o];*))
local macro_rules | `(mutual $cs* end)=>if cs.size==2 then Lean.Macro.throwUnsupported else return Lean.mkNullNode (cs.map (·.raw.rewriteBottomUp (·.setInfo .none)))
theorem _root_.J{α:Sort u}{a:α}:a=a:=rfl
local macro_rules | `($a\$b)=>`($a=some (.lst $b))
local macro_rules | `($a∩$f $as*)=>`($a=some (.ins $f $as*))
local macro_rules | `($a∪$b)=>`($a=some (.tup $b))
local macro_rules | `($a∣$b)=>`($a=some (.ref $b))
local macro_rules | `(↑$x)=>`(($x).length)
local macro_rules | `(↥$x)=>`(($x).map V.int)
local macro_rules | `(⇑$x)=>`(.ref $x)
local macro_rules | `(($(x) :))=>`(.int $x)
local macro_rules | `($x⁻¹)=>`(($x).objs.size)
local macro_rules | `(!$s:str)=>`(Str.ofString $s)
mutual
inductive Ϝ{α:Sort a}{β:Sort b}(p:α->β->Prop):Prop|mk(x:α)(y:β)(h:p x y)
inductive ϒ{α:Sort a}{β:Sort b}{γ:Sort c}(p:α->β->γ->Prop):Prop|mk(x:α)(y:β)(z:γ)(h:p x y z)
inductive ϓ{α:Sort a}{β:Sort b}{γ:Sort c}{φ:Sort d}{χ:Sort e}{ψ:Sort f}(p:α->β->γ->φ->χ->ψ->Prop):Prop|mk(x:α)(y:β)(z:γ)(u:φ)(v:χ)(w:ψ)(h:p x y z u v w)
inductive Ϙ(a b c d:Prop):Prop|mk(x:a)(y:b)(z:c)(w:d)
inductive ϙ(a b c d e f g:Prop):Prop|mk(x:a)(y:b)(z:c)(w:d)(p:e)(q:f)(r:g)
end
open Lean in
def ϕ(t:Term):Nat->MacroM Term
 | n+1=>match t with
  | `($a/\$b/\$c/\$d/\$e/\$f/\$g)=>do `(ϙ $a $b $c $d $e $f $(<-ϕ g n))
  | `($a/\$b/\$c/\$d)=>`(Ϙ $a $b $c $d)
  | _=>return t
 | _=>return t
open Lean in
def ϔ(b:Term):List (Syntax×Option Syntax)->MacroM Term
 | x::y::z::u::v::w::l=>do `(ϓ $(<-F [x,y,z,u,v,w] (<-ϔ b l)))
 | x::y::z::l=>do `(ϒ $(<-F [x,y,z] (<-ϔ b l)))
 | x::y::l=>do `(Ϝ $(<-F [x,y] (<-ϔ b l)))
 | x::l=>do `(Exists $(<-F [x] (<-ϔ b l)))
 | _=>ϕ b 9
where F(l:List (Syntax×Option Syntax))(b:Term):MacroM Term:=l.foldrM (fun x b=>do
 let i:Term:=⟨x.1[0]⟩
 match x.2 with
 | some t=>`(fun ($i :$(⟨t⟩))=>$b)
 | _=>`(fun $i=>$b)) b
local macro_rules | `(∃$xs,$b)=>do
 let c:=xs.raw[0]
 let l:=if c.isOfKind `Lean.unbracketedExplicitBinders then c[0].getArgs.toList.map (·,if c[1].isNone then none else some c[1][1]) else c.getArgs.toList.flatMap fun y=>y[1].getArgs.toList.map (·,some y[3])
 if let [_]:=l then
  let `($_/\$_/\$_/\$_):=b | Lean.Macro.throwUnsupported
 ϔ b l
namespace L2
open PySem PySem.Spec PyProof.Rows
mutual
variable{C a:qa}{op:CmpOp}{e tg:qh}{fd:FuncData}{h':qg}{pins:Θ}{kw:qj (Str×qc)}{fp:Φ}{es:qj qh}{body:qj qd}{us:Ξ}{M:Model}{t':Nat}{P:qi}{s':qb}{mA:Ε}{u:qc}{E Q:Δ}
abbrev Key:=Sum Int Str
noncomputable def yib:Key->qc->Bool
 | .inl k,v=>Value.isInt k v
 | .inr x,v=>Value.isStrOf x v
noncomputable def vlz(w:qe):Key->Int
 | .inl k=>hashInt k
 | .inr x=>hashStr w x
theorem xg:∀{k:Key}{v:qc},yib k v=true->(∃i t,k=Sum.inl i/\v=Value.int i t)\/(∃x t,k=Sum.inr x/\v=Value.str x t)
 | .inl i,v,h=>by
  let#[t,e]:=Value.isInt_shape (k:=i) (v:=v) h;erw[.inl #[i,t,J,e]]
 | .inr x,v,h=>by
  let#[t,e]:=Value.isStrOf_shape (x:=x) (v:=v) h;erw[.inr #[x,t,J,e]]
def yip(i:Int)(t:Tok):yib (.inl i) (.int i t)=true:=by simp[yib,Value.isInt]
def yjq(x:Str)(t:Tok):yib (.inr x) (.str x t)=true:=by simp[yib,Value.isStrOf]
def vc9(a b:Int):decide ((Sum.inl a:Key)=Sum.inl b)=(a == b):=by
 by_cases e:a=b
 .subst e;simp
 .have h:¬(Sum.inl a:Key)=Sum.inl b:=λq=>e (Sum.inl.inj q);rwa[cj h,(dH.mpr e).symm]
def vdg(a b:Str):decide ((Sum.inr a:Key)=Sum.inr b)=decide (a=b):=by
 by_cases e:a=b
 .subst e;simp
 .have h:¬(Sum.inr a:Key)=Sum.inr b:=λq=>e (Sum.inr.inj q);rw[cj h,cj e]
def yzu(a:Int)(b:Str):decide ((Sum.inl a:Key)=Sum.inr b)=false:=cj (λq=>nomatch q)
def yz9(a:Str)(b:Int):decide ((Sum.inr a:Key)=Sum.inl b)=false:=cj (λq=>nomatch q)
def w8(prog:qi)(w:qe):PySem.KeyKind prog w Key where
 is:=yib
 hash:=vlz w
 inj:=λv a b ha hb=>by
  rcases xg ha with⟨i,t,rfl,rfl⟩|⟨x,t,rfl,rfl⟩
  .rcases xg hb with⟨j,u,rfl,e⟩|⟨y,u,rfl,e⟩
   .injection e with e1 _;rw[e1]
   .erw[nomatch e]
  .rcases xg hb with⟨j,u,rfl,e⟩|⟨y,u,rfl,e⟩
   .erw[nomatch e]
   .injection e with e1 _;rw[e1]
 byValue:=λk v h=>by
  rcases xg h with⟨i,t,rfl,rfl⟩|⟨x,t,rfl,rfl⟩<;>rfl
 pyHash:=λhv h=>by
  rcases xg hv with⟨i,t,rfl,rfl⟩|⟨x,t,rfl,rfl⟩
  .erw[wpAny_pyHash_int h]
  .erw[wpAny_pyHash_str h]
 eqBool:=λhu hv h=>by
  rcases xg hu with⟨i,t,rfl,rfl⟩|⟨x,t,rfl,rfl⟩
  .rcases xg hv with⟨j,u,rfl,rfl⟩|⟨y,u,rfl,rfl⟩
   .rw[vc9]at h;erw[wpAny_eqBool_int h]
   .rw[yzu]at h;erw[SeqAt.EqAt.int_str i t y u _ _ _ _ h]
  .rcases xg hv with⟨j,u,rfl,rfl⟩|⟨y,u,rfl,rfl⟩
   .rw[yz9]at h;erw[SeqAt.EqAt.str_int x t j u _ _ _ _ h]
   .rw[vdg]at h;erw[wpAny_eqBool_str h]
 «strs»:=λk x t v h=>by
  rcases xg h with⟨i,u,rfl,e⟩|⟨y,u,rfl,e⟩
  .erw[nomatch e]
  .injection e with e1 _;subst e1;cases v<;>rfl
def ydh(prog:qi)(w:qe)(i:Int)(t:Tok):(w8 prog w).is (.inl i) (.int i t)=true:=yip i t
def ydq(prog:qi)(w:qe)(x:Str)(t:Tok):(w8 prog w).is (.inr x) (.str x t)=true:=yjq x t
inductive V where
 |non|bl (b:Bool)|int (i:Int)|str (x:Str)|byt (b:Array UInt8)|flt (b:UInt64)|ref (a:qa)|ty (n:String)
 deriving DecidableEq
abbrev _root_.Ι:=qj (Str×V)
abbrev _root_.Τ:=qj V
abbrev _root_.Χ:=ql V
variable{vs xs ys:Τ}{v y:V}
def xq:V->qc->Prop
 | .non,u=>u=Value.none
 | .bl b,u=>u=Value.bool b
 | .int i,u=>∃t,u=Value.int i t
 | .str x,u=>∃t,u=Value.str x t
 | .byt b,u=>∃t,u=Value.bytes b t
 | .flt b,u=>∃t,u=Value.float b t
 | .ref a,u=>u=Value.ref a
 | .ty n,u=>u=Value.type n
abbrev w9:qj V->qj qc->Prop:=Paired xq
theorem w9.length(r:w9 xs us):↑xs=↑us:=Paired.length r
theorem w9.get:∀{xs:Τ}{us:Ξ}{i:Nat}{x:V},w9 xs us->xs[i]?=some x->∃u,us[i]?=some u/\xq x u
 |_,_,_,_,.nil,e=>by simp at e
 |_,_,0,_,.cons r _,e=>by simp at e;subst e;exists _,J,r
 |_,_,i+1,x,.cons _ t,e=>by
  let#[u,a,b]:=w9.get (i:=i) (x:=x) t (by simpa using e);erw[u,by simpa using a,b]
def w9.append{ws:Ξ}(h:w9 xs us)(s:w9 ys ws):w9 (xs++ys) (us++ws):=by
 induction h with
 |nil=>erw[s]
 |cons r t ih=>erw[.cons r ih]
theorem w9.take:∀{xs:Τ}{us:Ξ}(n:Nat),w9 xs us->w9 (xs.take n) (us.take n)
 |_,_,0,_=>.nil
 |_,_,_+1,.nil=>.nil
 |_,_,n+1,.cons r t=>.cons r (w9.take n t)
theorem w9.drop:∀{xs:Τ}{us:Ξ}(n:Nat),w9 xs us->w9 (xs.drop n) (us.drop n)
 |_,_,0,r=>r
 |_,_,_+1,.nil=>.nil
 |_,_,n+1,.cons _ t=>w9.drop n t
def ydc:ql V->ql qc->Prop
 |some v,some u=>xq v u
 |none,none=>True
 |_,_=>False
def KV{κ:Type}:qj (κ×V)->qj (κ×qc)->Prop:=Paired λ(p:κ×V)(q:κ×qc)=>p.1=q.1/\xq p.2 q.2
noncomputable def kV:Key->V
 | .inl i=>.int i
 | .inr x=>.str x
inductive HO where
 |lst (xs:Τ)
 |tup (xs:Τ)
 |dK (kvs:qj (Key×V))|dT (kvs:qj (qj Key×V))
 |set (S:Int->Bool) (n:Nat)
 |ins (C dx:qa) (fs:Ι)
 |own (x:qa)
 |xd (fs:Ι)
 |met (f x:qa)
 |rng (lo hi:Int)
 |frz (o:Obj) (u:HO)
 |tbl (ps:Array qc)
 |ext (φ:qg->Prop)
abbrev Hp:=qa->ql HO
variable{H H':Hp}
noncomputable def upd(H:Hp)(a:qa)(o:HO):Hp:=λb=>if b=a then some o else H b
def ya{o:HO}:upd H a o a=some o:=by unfold upd;rw[if_pos J]
def yk{b:qa}{o:HO}(h:b≠a):upd H a o b=H b:=by unfold upd;rw[if_neg h]
def xf{b:qa}{o u:HO}(h:H a=some o)(h':H b=some u)(d:o≠u):a≠b:=by intro e;subst e;rw[h]at h';erw[d (cr h')]
def yb{b:qa}{o:HO}(h:H a=some o)(h':H b=none):a≠b:=by intro e;subst e;rw[h]at h';cases h'
end
section
variable(P:qi)(w:qe)
def xn(H:Hp)(h:qg)(a:qa):HO->Prop
 | .lst xs=>↑xs<=sizeLine/\∃(its:Ξ)(n:Nat),w9 xs its/\h.get? a=some { cls:=.type "list",data:=.seq its.toArray n}
 | .tup xs=>↑xs<=sizeLine/\∃its:Ξ,w9 xs its/\IsTup h a its.toArray
 | .dK kvs=>↑kvs<=sizeLine/\(a == sysModules)=false/\∃vs,KV kvs vs/\h.DictOf (w8 P w) a vs
 | .dT kvs=>↑kvs<=sizeLine/\(a == sysModules)=false/\∃xs:qj (qj Key×qa×qc),
   Paired (λ(p:qj Key×V)(q:qj Key×qa×qc)=>p.1=q.1/\H q.2.1∪(p.1.map kV)/\xq p.2 q.2.2) kvs xs/\
   ∃o es ep,h.get? a=some o/\o.ExactDict/\o.data=.dict es ep/\es.toList=xs.map (entryOfKey (tupleKind (w8 P w)))/\(xs.map (·.1)).Nodup
 | .set S n=>h.SetOf (intKind P w) a S n
 | .ins C dx fs=>H dx=some (.own a)/\↑fs<=1000/\dx≠a/\h.get? a=some (W.instObj C dx)/\
   ∃mA,h.Ns1 dx mA/\(∀f,ydc (fs.lookup f) (mA f))/\PySem.Within mA (fs.map (·.1))
 | .own _=>∃o,h.get? a=some o
 | .xd fs=>∃mA,h.Ns1 a mA/\∀f,ydc (fs.lookup f) (mA f)
 | .rng lo hi=>∃t u v,h.get? a=some { cls:=.type "range",data:=.fields (List.toArray [.int lo t,.int hi u,.int 1 v])}
 | .frz o u=>h.get? a=some o/\xn H h a u
 | .tbl ps=>h.get? a=some { cls:=.none,data:=.fields ps}
 | .met f x=>h.get? a=some (W.methodObj ⇑f ⇑x)
 | .ext φ=>φ h/\(∃o,h.get? a=some o)/\∀h1 h2:qg,φ h1->(∀o,h1.get? a=some o->h2.get? a=some o)->φ h2
def HOk(H:Hp)(h:qg):Prop:=∀a o,H a=some o->xn P w H h a o
end
section
mutual
variable{w:qe}{h:qg}{o:HO}
theorem xn.lt(x:xn P w H h a o):a<h⁻¹:=by
 cases o with
 |lst xs=>let⟨_,_,_,_,e⟩:=x;erw[cg e]
 |tup xs=>let⟨_,_,_,p⟩:=x;erw[p.lt]
 |dK kvs=>let⟨_,_,_,_,o,_,_,e,_⟩:=x;erw[cg e]
 |dT kvs=>let⟨_,_,_,_,o,_,_,e,_⟩:=x;erw[cg e]
 |set S n=>let⟨o,_,_,_,e,_⟩:=x;erw[cg e]
 |ins C dx fs=>let⟨_,_,_,e,_⟩:=x;erw[cg e]
 |own y=>let⟨_,e⟩:=x;erw[cg e]
 |xd fs=>let⟨_,⟨_,_,_,e,_⟩,_⟩:=x;erw[cg e]
 |rng lo hi=>let⟨_,_,_,e⟩:=x;erw[cg e]
 |frz ob u=>let⟨e,_⟩:=x;erw[cg e]
 |tbl ps=>erw[cg (show h.get? a=some _ from x)]
 |met f y=>erw[cg (show h.get? a=some _ from x)]
 |ext φ=>let⟨_,⟨_,e⟩,_⟩:=x;erw[cg e]
def Paired.mapP{α β:Type}{F G:α->β->Prop}{l₁:qj α}{l₂:qj β}(h:Paired F l₁ l₂)(f:∀a b,F a b->G a b):Paired G l₁ l₂:=by
 induction h with
 |nil=>erw[.nil]
 |cons r t ih=>erw[.cons (f _ _ r) ih]
def xn.stay(x:xn P w H h a o)(k:∀b u,(b=a\/H b=some (.own a))->h.get? b=some u->h'.get? b=some u)
  (ho:∀b,H b=some (.own a)->H' b=some (.own a)) (ht:∀b xs,H b∪xs->H' b∪xs):xn P w H' h' a o:=by
 induction o with
 |lst xs=>let⟨z,j,n,r,e⟩:=x;erw[z,j,n,r,k _ _ (.inl J) e]
 |tup xs=>let⟨z,j,r,ob,e,c⟩:=x;erw[z,j,r,ob,k _ _ (.inl J) e,c]
 |dK kvs=>let⟨z,y,A,r,ob,i,g,e,c⟩:=x;erw[z,y,A,r,ob,i,g,k _ _ (.inl J) e,c]
 |dT kvs =>
  let#[z,y,xs,r,ob,i,g,e,c,c1,c2,c3]:=x;erw[z,y,xs,Paired.mapP r λp q z=>#[z.1,ht _ _ z.2.1,z.2.2],ob,i,g,k _ _ (.inl J) e,c,c1,c2,c3]
 |set S n=>let⟨ob,i,g,t,e,c⟩:=x;erw[ob,i,g,t,k _ _ (.inl J) e,c]
 |ins C dx fs =>
  let#[d,z,B,e,m,#[l,i,g,D,c],r]:=x;erw[ho _ d,z,B,k _ _ (.inl J) e,m,#[l,i,g,k _ _ (.inr d) D,c],r]
 |own y=>let⟨ob,e⟩:=x;erw[ob,k _ _ (.inl J) e]
 |xd fs=>let⟨m,⟨l,i,g,e,c⟩,r⟩:=x;erw[m,#[l,i,g,k _ _ (.inl J) e,c],r]
 |rng lo hi=>let⟨t,u,v,e⟩:=x;erw[t,u,v,k _ _ (.inl J) e]
 |frz ob u ih=>let⟨e,q⟩:=x;erw[k _ _ (.inl J) e,ih q]
 |tbl ps =>
  have e:h.get? a=some { cls:=.none,data:=.fields ps}:=x;show h'.get? a=some { cls:=.none,data:=.fields ps};erw[k a _ (.inl J) e]
 |met f y =>
  have e:h.get? a=some (W.methodObj ⇑f ⇑y):=x;show h'.get? a=some (W.methodObj ⇑f ⇑y);erw[k a _ (.inl J) e]
 |ext φ=>let⟨p,⟨o,e⟩,s⟩:=x;erw[s _ _ p λo q=>k _ _ (.inl J) q,#[o,k _ _ (.inl J) e],s]
theorem HOk.lt(x:HOk P w H h)(e:H a=some o):a<h⁻¹:=(x a o e).lt
def HOk.fresh(x:HOk P w H h)(e:h⁻¹<=a):H a=none:=by
 cases q:H a with
 |none=>rfl
 |some u=>erw[absurd (cP (x.lt q) e) (dv _)]
def HOk.kept(x:HOk P w H h)(k:∀b u,h.get? b=some u->h'.get? b=some u):HOk P w H h':=λa o e =>
 (x a o e).stay (λb u Z q=>k b u q) (λZ q=>q) λZ Z q=>q
def HOk.laid(x:HOk P w H h)(k:∀b u,h.get? b=some u->h'.get? b=some u)(hp:h⁻¹<=a)(new:xn P w (upd H a o) h' a o):HOk P w (upd H a o) h':=λb u e=>by
 let d:=x.fresh hp;by_cases hb:b=a
 .subst hb;rw[ya]at e;cases e;erw[new]
 .rw[yk hb]at e;erw[(x b u e).stay (λc v Z q=>k c v q) (λc q=>by rwa[yk (yb q d),q]) λc f q=>by rwa[yk (yb q d),q]]
end
end
mutual
def Rd(H:Hp)(a:qa)(u:HO):Prop:=H a=some u\/∃o,H a=some (.frz o u)
def Rd.of{u:HO}(h:H a=some u):Rd H a u:=.inl h
def Rd.ok{w:qe}{h:qg}{u:HO}(r:Rd H a u)(x:HOk P w H h):xn P w H h a u:=by
 rcases r with r|⟨o,r⟩
 .erw[x a u r]
 .let#[_,q]:=x a _ r;erw[q]
def Mut:ql HO->Prop
 |some (.lst _)=>True
 |some (.dK _)=>True
 |some (.dT _)=>True
 |some (.set _ _)=>True
 |some (.ins _ _ _)=>True
 |some (.ext _)=>True
 |_=>False
end
section
variable{w:qe}{h:qg}{x e:qa}{o':HO}
def HOk.write(ok:HOk P w H h)(mu:Mut (H x))(he:e=x\/H e=some (.own x))(k:∀b u,b≠e->h.get? b=some u->h'.get? b=some u)(heo:∃u,h'.get? e=some u)
  (new:xn P w (upd H x o') h' x o'):HOk P w (upd H x o') h':=λb u q=>by
 have a:∀c y,H c=some (.own y)->c≠x:=λc y r z=>by subst z;rw[r]at mu;erw[mu]
 have d:∀c f,H c∪f->c≠x:=λc f r z=>by subst z;rw[r]at mu;erw[mu]
 by_cases hb:b=x
 .subst hb;rw[ya]at q;cases q;erw[new]
 .rw[yk hb]at q;by_cases hbe:b=e
  .have i:H b=some (.own x):=by
    rcases he with z|z
    .erw[absurd (hbe.trans z) hb]
    .rw[hbe];erw[z]
   rw[q]at i;cases i;let#[v,j]:=heo;erw[v,by rwa[hbe,j]]
  .refine(ok b u q).stay (λc v g r=>k c v ?_ r) (λc r=>by rwa[yk (a c b r),r]) λc f r=>by rw[yk (d c f r)];exact r
   rcases g with rfl|g
   .erw[hbe]
   .rintro rfl;rcases he with z|z
    .erw[a c b g z]
    .rw[g]at z;cases z;erw[hb J]
end
mutual
structure Un(fs ex:Φ)(H H':Hp)(h h':qg):Prop where
 keep:∀b o,h.get? b=some o->H b=none->b∉fs->b∉ex->h'.get? b=some o
 slot:∀b o,h.get? b=some o->H b=none->b∈fs->b∉ex->∃sl,h'.get? b=some {o with slots:=sl}
 free:∀b o,h.get? b=some o->H b=none->b∉ex->H' b=none
 there:∀b o,h.get? b=some o->b∉ex->∃o',h'.get? b=some o'
 tups:∀b xs,H b∪xs->H' b∪xs
 frzs:∀b o u,H b=some (.frz o u)->H' b=some (.frz o u)
 tbls:∀b ps,H b=some (.tbl ps)->∃more,H' b=some (.tbl (ps++more))
end
section
mutual
variable{fs fs' ex ex':Φ}{H1 H2:Hp}{h h1 h2:qg}{x e:qa}{o:HO}
def Un.any(u:Un fs ex H H1 h h1){b:qa}{ob:Obj}(q:h.get? b=some ob)(n:H b=none)(hx:b∉ex):∃sl,h1.get? b=some {ob with slots:=sl}:=by
 by_cases hb:b∈fs
 .erw[u.slot b ob q n hb hx]
 .erw[ob.slots,u.keep b ob q n hb hx]
def Un.kept(k:∀b u,h.get? b=some u->h'.get? b=some u):Un fs ex H H h h' :=
 #[λb a q Z Z Z=>k b a q,λb a q Z Z Z=>#[a.slots,k b a q],λZ Z Z n Z=>n,λb a q Z=>#[a,k b a q],λZ Z q=>q,λZ Z Z q=>q,λZ c q=>#[#[],by rw[q];simp]]
def Un.refl:Un fs ex H H h h:=Un.kept λZ Z q=>q
def Un.laid(k:∀b u,h.get? b=some u->h'.get? b=some u)(hp:h⁻¹<=a)(hn:H a=none):Un fs ex H (upd H a o) h h' where
 keep:=λb u q Z Z Z=>k b u q
 slot:=λb u q Z Z Z=>#[u.slots,k b u q]
 free:=λb u q n Z=>by rwa[yk (cR (cP (cg q) hp)),n]
 there:=λb u q Z=>#[u,k b u q]
 tups:=λb c q=>by rwa[yk (yb q hn),q]
 frzs:=λb u c q=>by rwa[yk (yb q hn),q]
 tbls:=λb d q=>#[#[],by rw[yk (yb q hn),q];simp]
def Un.write(mu:Mut (H x))(he:e=x\/H e=some (.own x))(k:∀b u,b≠e->h.get? b=some u->h'.get? b=some u)(heo:∃u,h'.get? e=some u):Un fs ex H (upd H x o) h h':=by
 have d:∀b,H b=none->b≠x:=λb n z=>by subst z;rw[n]at mu;erw[mu]
 have c:∀b,H b=none->b≠e:=λb n z=>by
  subst z;rcases he with r|r
  .erw[d b n r]
  .rw[n]at r;cases r
 have a:∀b u,H b=some u->¬Mut (some u)->b≠x:=λb u q f z=>by subst z;rw[q]at mu;erw[f mu]
 erw[λb u q n Z Z=>k b u (c b n) q,λb u q n Z Z=>#[u.slots,k b u (c b n) q],λb u q n Z=>by rwa[yk (d b n),n],λb u q Z=>?_,
  λb g q=>by rwa[yk (a b _ q λz=>z),q],λb u g q=>by rwa[yk (a b _ q λz=>z),q],λb i q=>#[#[],by rw[yk (a b _ q λz=>z),q];simp]]
 by_cases hbe:b=e
 .subst hbe;erw[heo]
 .erw[u,k b u hbe q]
end
end
mutual
noncomputable def trk(h:qg)(H:Hp):Φ:=(List.range h⁻¹).filter λa=>(H a).isSome
def ypz(h:qg)(H:Hp):qg:=W.hideAll h (trk h H)
def yij(h:qg)(H:Hp):(ypz h H)⁻¹=h⁻¹:=W.hideAll_size _ _
def yol{h:qg}{b:qa}{o:Obj}(e:h.get? b=some o)(n:H b=none):(ypz h H).get? b=some o :=
 W.hideAll_get _ e λa=>by
  have q:(H b).isSome=true:=(List.mem_filter.mp a).2;rw[n]at q;simp at q
def yxw{h:qg}{b:qa}{o:Obj}(e:(ypz h H).get? b=some o):h.get? b=some o/\H b=none:=by
 have a:h.get? b=some o:=W.of_hideAll (trk h H) e;erw[a,?_]
 cases q:H b with
 |none=>rfl
 |some x =>
  have c:b∈trk h H:=List.mem_filter.mpr #[c8.mpr (cg a),by simp[q]];have z:(ypz h H).get? b=none:=W.hideAll_none (trk h H) c;rw[z]at e;cases e
noncomputable def ywn(g h:qg)(L:qa):Θ:=(List.range h⁻¹).filterMap λa=>if a=L\/(g.get? a).isSome=true then none else (h.get? a).map λo=>(a,o)
def xj(g h:qg)(L d:qa):Θ:=(ywn g h L).filter λp=>decide (p.1≠d)
structure Mod(K:xy)(mg:Ε)(base:qg):Prop where
 kin:K.In base
 glob:base.Ns mainGlobals mg
 blt:∃mb,base.Ns builtinsNs mb/\∀x:Str,x≠"__name__"->mb x=bootBuiltins x
 nolimit:base.NoLimit
structure Cx where
 prog:qi
 w:qe
 K:xy
 mg:Ε
 base:qg
 A:qf
 N:Ρ
 s₀:qb
 H₀:Hp
 env:Env
 outer:qj Env
 stack:qj Env
 ex:Φ
 fn:Str->Bool
 calm:Bool
 pn:Θ
 xe:Δ
variable{X:Cx}
noncomputable def frs(l:qj Env):Φ:=l.filterMap (·.frame)
abbrev Cx.fs(X:Cx):Φ:=frs X.outer
def Vis(sc:Scope)(x:Str):Prop:=sc.names.lookup x=some .local\/sc.names.lookup x=some .cell\/sc.names.lookup x=some .free
def Loc(sc:Scope)(x:Str):Prop:=sc.names.lookup x=some .local\/sc.names.lookup x=some .cell
def vlm(env:Env)(h:qg)(m:Ε)(x:Str)(u:qc):Prop :=
 (env.kindOf x=some .local/\m x=some u)\/((env.kindOf x=some .cell\/env.kindOf x=some .free)/\∃c,env.cells.lookup x=some c/\h.IsCell c (some u))
structure Cx.Ok(X:Cx):Prop where
 mod:Mod X.K X.mg X.base
 kind:X.env.scope.kind=.function
 glob:X.env.globals=mainGlobals
 blt:X.env.builtins=builtinsNs
 above:X.s₀.heap⁻¹<=X.env.locals
 inj:∀x y c,X.env.cells.lookup x=some c->X.env.cells.lookup y=some c->x=y
 has:∀x,(X.env.kindOf x=some .cell\/X.env.kindOf x=some .free)->∃c,X.env.cells.lookup x=some c
 cab:∀x c,X.fn x=true->X.env.cells.lookup x=some c->X.s₀.heap⁻¹<=c
 hd:X.calm=true->X.A.handled=none
 frames:X.A.frames=some X.stack
 stk:X.stack=X.outer\/(X.stack=X.env::X.outer/\X.env.frame=some X.env.locals)
 exf:∀b∈X.ex,b≠X.env.locals/\∀x c,X.env.cells.lookup x=some c->c≠b
 bs:∀b o,X.base.get? b=some o->X.s₀.heap.get? b=some o/\X.H₀ b=none
 bsz:X.base⁻¹<=X.s₀.heap⁻¹
 noex:∀b o,X.base.get? b=some o->b∉X.ex
 exfs:∀b∈X.ex,b∉X.fs
 funs:X.s₀.heap.FunFrames X.base X.outer
 frf:∀b∈X.fs,X.H₀ b=none
structure Inv(X:Cx)(pins:Θ)(σ:qj (Χ))(H:Hp)(s:qb):Prop where
 ok:X.Ok
 os:s.os=X.s₀.os
 bare:AllBare s.gens
 base:Un X.fs X.ex X.H₀ H X.s₀.heap s.heap
 loc:∃m,s.heap.Ns X.env.locals m/\∀(i:Nat)(x:Str)(v:V),X.N[i]?=some x->σ[i]?=some (some v)->Vis X.env.scope x->∃u,xq v u/\vlm X.env s.heap m x u
 cell:∀x c,X.env.cells.lookup x=some c->∃v,s.heap.IsCell c v
 free:H X.env.locals=none
 freeC:∀x c,X.env.cells.lookup x=some c->H c=none
 pin:∀p∈X.pn++pins,s.heap.get? p.1=some p.2/\H p.1=none/\p.1≠X.env.locals/\p.1∉X.fs/\∀v,p.2.data≠.cell v
 hok:HOk X.prog X.w H s.heap
 len:↑σ=↑X.N
end
section
mutual
variable{σ:qj (Χ)}{s:qb}
def Cx.Ok.nofr(ok:X.Ok){b:qa}{o:Obj}(e:X.base.get? b=some o):b∉X.fs:=λa=>by
 have:=(ok.funs.mem a).1;rw[e]at this;cases this
theorem Inv.bs(I:(Inv X pins σ H) s):∀b o,X.base.get? b=some o->s.heap.get? b=some o/\H b=none:=λb o e =>
 #[I.base.keep b o (I.ok.bs b o e).1 (I.ok.bs b o e).2 (I.ok.nofr e) (I.ok.noex b o e),I.base.free b o (I.ok.bs b o e).1 (I.ok.bs b o e).2 (I.ok.noex b o e)]
def Inv.bk(I:(Inv X pins σ H) s):∀b o,X.base.get? b=some o->s.heap.get? b=some o:=λb o e=>(I.bs b o e).1
theorem Inv.mod(I:(Inv X pins σ H) s):Mod X.K X.mg X.base:=I.ok.mod
def Inv.kIn(I:(Inv X pins σ H) s):X.K.In s.heap:=I.ok.mod.kin.keeps I.bk
theorem Inv.lt(I:(Inv X pins σ H) s):X.env.locals<s.heap⁻¹:=let ⟨_,hn,_⟩:=I.loc;hn.lt
def Inv.sz(I:(Inv X pins σ H) s):X.s₀.heap⁻¹<=s.heap⁻¹:=cN I.ok.above (Nat.le_of_lt I.lt)
def Inv.nofs(I:(Inv X pins σ H) s)(h:s.heap⁻¹<=a):a∉X.fs:=λc=>by
 let#[_,o,b,_]:=I.ok.funs.mem c;erw[absurd (cP (cg b) (cN I.sz h)) (dv _)]
def Inv.cne(I:(Inv X pins σ H) s):∀x c,X.env.cells.lookup x=some c->c≠X.env.locals:=λx c e z=>by
 let#[v,o,f,d]:=I.cell x c e;let#[m,#[i,h,g,b,a,_],_]:=I.loc;rw[z,b]at f;cases f;rw[a]at d;cases d
theorem Inv.funs(I:(Inv X pins σ H) s):s.heap.FunFrames X.base X.outer:=by
 have c:∀(l:qj Env),(∀b∈frs l,b∈X.fs)->X.s₀.heap.FunFrames X.base l->s.heap.FunFrames X.base l:=by
  intro l
  induction l with
  |nil=>intro _ _;trivial
  |cons env r ih =>
   intro g k;let#[i,#[L,o,a,n,j,h],m]:=k;have f:L∈X.fs:=g L (by unfold frs;rwa[List.filterMap_cons,a,cG]);let#[p,e]:=I.base.slot L o j (I.ok.frf L f) f λz=>I.ok.exfs L z f;erw[i,#[L,_,a,n,e,h],ih (λb d=>g b (by unfold frs;rwa[List.filterMap_cons,a,cF _ d])) m]
 erw[c X.outer (λZ d=>d) I.ok.funs]
theorem Inv.stack(I:(Inv X pins σ H) s):s.heap.FunFrames X.base X.stack:=by
 rcases I.ok.stk with e|⟨e,a⟩
 .rw[e];erw[I.funs]
 .rw[e];let#[m,b,_]:=I.loc;erw[.cons (by rw[I.ok.kind];decide) a b ?_ I.funs,<-Heap.get?_none_of_le (cN I.ok.bsz I.ok.above)]
def Inv.stkSub(I:(Inv X pins σ H) s):∀b∈frs X.stack,b∈X.env.locals::X.fs:=λb a=>by
 rcases I.ok.stk with e|⟨e,c⟩
 .rw[e]at a;erw[cF _ a]
 .rw[e]at a;unfold frs at a;rw[List.filterMap_cons,c]at a;erw[a]
def Inv.stkFree(I:(Inv X pins σ H) s):∀b∈frs X.stack,H b=none:=λb a=>by
 rcases bZ.mp (I.stkSub b a)with e|a
 .rw[e];erw[I.free]
 .let#[_,o,c,_]:=I.ok.funs.mem a;erw[I.base.free b o c (I.ok.frf b a) λz=>I.ok.exfs b z a]
def Inv.step{g':Array GenState}{d':Drawn}{ch:Φ}(I:(Inv X pins σ H) s)
  (hch:∀b∈ch,(b∈X.ex\/X.s₀.heap⁻¹<=b)/\b≠X.env.locals/\(∀x c,X.env.cells.lookup x=some c->c≠b)/\∀p∈X.pn++pins,p.1≠b)
  (keep:∀b o,b≠X.env.locals->b∉X.fs->b∉ch->s.heap.get? b=some o->H b=none->h'.get? b=some o)
  (slot:∀b o,b≠X.env.locals->b∈X.fs->b∉ch->s.heap.get? b=some o->H b=none->∃sl,h'.get? b=some {o with slots:=sl}) (free:∀b o,b∉ch->s.heap.get? b=some o->H b=none->H' b=none)
  (there:∀b o,b∉ch->s.heap.get? b=some o->∃o',h'.get? b=some o')
  (tups:∀b xs,H b∪xs->H' b∪xs) (frzs:∀b o u,H b=some (.frz o u)->H' b=some (.frz o u)) (tbls:∀b ps,H b=some (.tbl ps)->∃more,H' b=some (.tbl (ps++more)))
  (ns:∀m,s.heap.Ns X.env.locals m->h'.Ns X.env.locals m) (hok:HOk X.prog X.w H' h') (hg:AllBare g'):
  Inv X pins σ H' {s with heap:=h',gens:=g',drawn:=d',toks:=t'}:=by
 have A:∀b o,X.s₀.heap.get? b=some o->b≠X.env.locals:=λb o e=>cR (cP (cg e) I.ok.above)
 have j:∀b o,X.s₀.heap.get? b=some o->b∉X.ex->b∉ch:=λb o e a t=>by
  rcases (hch b t).1 with z|z
  .erw[a z]
  .erw[absurd (cP (cg e) z) (dv _)]
 have f:∀x c,X.env.cells.lookup x=some c->∀v,s.heap.IsCell c v->h'.IsCell c v:=λx c e v ⟨o,y,C⟩=>by
  have g:c∉ch:=λz=>(hch c z).2.2.1 x c e J;by_cases hc:c∈X.fs
  .let#[sl,q]:=slot c o (I.cne x c e) hc g y (I.freeC x c e);exists _,q,C
  .erw[o,keep c o (I.cne x c e) hc g y (I.freeC x c e),C]
 erw[I.ok,I.os,hg,#[λb o e n t a=>?_,λb o e n t a=>?_,λb o e n a=>?_,λb o e a=>?_,λb xs e=>tups b xs (I.base.tups b xs e),λb o xs e=>frzs b o xs (I.base.frzs b o xs e),λb ps e=>?_],?_,λx c e=>?_,?_,λx c e=>?_,λp F=>?_,hok,I.len]
 .erw[keep b o (A b o e) t (j b o e a) (I.base.keep b o e n t a) (I.base.free b o e n a)]
 .let#[sl,h]:=I.base.slot b o e n t a;let#[D,B]:=slot b _ (A b o e) t (j b o e a) h (I.base.free b o e n a);erw[D,B]
 .let#[o',h]:=I.base.there b o e a;erw[free b o' (j b o e a) h (I.base.free b o e n a)]
 .let#[o',h]:=I.base.there b o e a;erw[there b o' (j b o e a) h]
 .let#[L,h]:=I.base.tbls b ps e;let#[ς,B]:=tbls b _ h;erw[L++ς,by rw[B,Array.append_assoc]]
 .let#[m,M,K]:=I.loc;erw[m,ns m M,λi x v h B N=>?_];let#[u,r,l]:=K i x v h B N;erw[u,r,?_];rcases l with l|⟨k,c,e,z⟩
  .erw[.inl l]
  .erw[.inr #[k,c,e,f x c e _ z]]
 .let#[v,z]:=I.cell x c e;erw[v,f x c e v z]
 .let#[m,#[o,_,_,y,_],_]:=I.loc;erw[free _ o (λz=>(hch _ z).2.1 rfl) y I.free]
 .let#[v,o,y,C]:=I.cell x c e;erw[free c o (λz=>(hch c z).2.2.1 x c e J) y (I.freeC x c e)]
 .let#[e,n,E,G,d]:=I.pin p F;have g:p.1∉ch:=λz=>(hch p.1 z).2.2.2 p F J;erw[keep p.1 p.2 E G g e n,free p.1 p.2 g e n,E,G,d]
def Inv.un(I:(Inv X pins σ H) s)(u:Un X.fs [] H H' s.heap h')(hok:HOk X.prog X.w H' h'):Inv X pins σ H' {s with heap:=h',toks:=t'}:=by
 let#[m,#[o,p,k,g,r],_]:=id I.loc;let#[l,j]:=u.any g I.free (by simp)
 erw[I.step (g':=s.gens) (d':=s.drawn) (ch:=[]) (λZ z=>nomatch z) (λb o Z d Z e n=>u.keep b o e n d (by simp)) (λb o Z d Z e n=>u.slot b o e n d (by simp)) (λb o Z e n=>u.free b o e n (by simp)) (λb o Z e=>u.there b o e (by simp)) u.tups u.frzs u.tbls (λt h=>by
  let#[q,f,c,a,i]:=h;rw[g]at a;cases a;erw[_,f,c,j,i]) hok I.bare]
def Inv.call{g':Array GenState}{d':Drawn}{ch:Φ}(I:(Inv X pins σ H) s)(u:Un (frs X.stack) ch H H' s.heap h')(hok:HOk X.prog X.w H' h')(hg:AllBare g')
  (hch:∀b∈ch,(b∈X.ex\/X.s₀.heap⁻¹<=b)/\b≠X.env.locals/\(∀x c,X.env.cells.lookup x=some c->c≠b)/\∀p∈X.pn++pins,p.1≠b):
  Inv X pins σ H' {s with heap:=h',gens:=g',drawn:=d',toks:=t'}:=by
 let#[m,#[o,v,q,i,r],_]:=id I.loc;let#[t,g]:=u.any i I.free λz=>(hch _ z).2.1 rfl
 erw[I.step (ch:=ch) hch (λb o g l a e n=>u.keep b o e n (λz=>(bZ.mp (I.stkSub b z)).elim g l) a) (λb o Z Z a e n=>u.any e n a) (λb o a e n=>u.free b o e n a) (λb o a e=>u.there b o e a) u.tups u.frzs u.tbls (λA j=>by
  let#[y,h,f,d,k]:=j;rw[i]at d;cases d;erw[_,h,f,g,k]) hok hg]
def Inv.turned{it:qa}(I:(Inv X pins σ H) s)(k:∀b o,b≠it->s.heap.get? b=some o->h'.get? b=some o)(hn:H it=none)(hL:it≠X.env.locals)
  (h1:it∈X.ex\/X.s₀.heap⁻¹<=it) (h2:∀x c,X.env.cells.lookup x=some c->c≠it) (h3:∀p∈X.pn++pins,p.1≠it):(Inv X pins σ H) {s with heap:=h',toks:=t'}:=by
 have d:∀b u,H b=some u->b≠it:=λb u e z=>by rw[z,hn]at e;cases e
 refine I.step (g':=s.gens) (d':=s.drawn) (ch:=[it]) (λb j=>?_) (λb o Z Z a e Z=>k b o (λz=>a (by simp[z])) e) (λb o Z Z a e Z=>#[o.slots,k b o (λz=>a (by simp[z])) e]) (λZ Z Z Z n=>n)
  (λb o a e=>#[o,k b o (λz=>a (by simp[z])) e]) (λZ Z e=>e) (λZ Z Z e=>e) (λb l e=>#[#[],by rw[e];simp]) (λm f=>?_) (λb u e=>?_) I.bare
 .have e:b=it:=by simpa using j
  subst e;erw[h1,hL,h2,h3]
 .let#[o,i,g,h,r]:=f;erw[o,i,g,k _ o (Ne.symm hL) h,r]
 .erw[(I.hok b u e).stay (λc v a q=>k c v ?_ q) (λZ q=>q) λZ Z q=>q];rcases a with z|z
  .rw[z];erw[d b u e]
  .erw[d c _ z]
def Inv.tok(I:(Inv X pins σ H) s)(t:Nat):(Inv X pins σ H) {s with toks:=t}:=I.un (h':=s.heap) (t':=t) Un.refl I.hok
theorem Inv.kept(I:(Inv X pins σ H) s)(k:∀b u,s.heap.get? b=some u->h'.get? b=some u):(Inv X pins σ H) {s with heap:=h',toks:=t'}:=I.un (Un.kept k) (I.hok.kept k)
theorem Inv.laid{o:HO}(I:(Inv X pins σ H) s)(k:∀b u,s.heap.get? b=some u->h'.get? b=some u)(hp:s.heap⁻¹<=a)(new:xn X.prog X.w (upd H a o) h' a o):
  Inv X pins σ (upd H a o) {s with heap:=h',toks:=t'}:=I.un (Un.laid k hp (I.hok.fresh hp)) (I.hok.laid k hp new)
theorem Inv.write{x e:qa}{o:HO}(I:(Inv X pins σ H) s)(mu:Mut (H x))(he:e=x\/H e=some (.own x))(k:∀b u,b≠e->s.heap.get? b=some u->h'.get? b=some u)(heo:∃u,h'.get? e=some u)
  (new:xn X.prog X.w (upd H x o) h' x o):Inv X pins σ (upd H x o) {s with heap:=h',toks:=t'}:=I.un (Un.write mu he k heo) (I.hok.write mu he k heo new)
def Inv.pins_of{pins':Θ}(I:(Inv X pins σ H) s)(h:∀p∈pins',s.heap.get? p.1=some p.2/\H p.1=none/\p.1≠X.env.locals/\p.1∉X.fs/\∀v,p.2.data≠.cell v):Inv X pins' σ H s :=
 #[I.ok,I.os,I.bare,I.base,I.loc,I.cell,I.free,I.freeC,λp a=>(cA.mp a).elim (λz=>I.pin p (cZ _ z)) (h p),I.hok,I.len]
def yaq{N:Ρ}(hN:N.Nodup){i j:Nat}{x:Str}(a:N[i]?=some x)(b:N[j]?=some x):i=j:=by let#[e,d]:=bY.mp a;let#[f,c]:=bY.mp b;erw[(List.getElem_inj hN).mp (d.trans c.symm)]
def Ĵ{A:qf}{i:Nat}{x:Str}{Q:Unit->qb->Prop}(I:(Inv X pins σ H) s)(hN:X.N.Nodup)(hi:X.N[i]?=some x)(hx:Loc X.env.scope x)(r:xq v u)
  (h:∀s',Inv X pins (σ.set i (some v)) H s'->(∃a,Heap.SameBut a s.heap s'.heap/\(a=X.env.locals\/X.env.cells.lookup x=some a))->Q ⟨⟩ s') (hf:autoParam (X.fn x=true\/X.env.scope.names.lookup x=some .local) aG._auto_1):wpAny M A (storeName X.env x u) Q E s:=by
 let#[m,hn,hl]:=id I.loc;have R:(X.env.scope.kind == .class || (X.env.scope.kind == .module && X.env.locals != X.env.globals))=false:=by rw[I.ok.kind];rfl
 have hiσ:i<↑σ:=by rwa[I.len,(bY.mp hi).1]
 let G:=I.cne
 have g:∀{a:qa}{K:qg},(∃o,s.heap.get? a=some o/\H a=none)->Heap.SameBut a s.heap K->HOk X.prog X.w H K:=λ{a K}ha f b ob e=>by
  let#[_,_,B]:=ha;erw[(I.hok b ob e).stay (λc S t q=>(f.2 c ?_).trans q) (λN q=>q) λN N q=>q];rintro rfl;rcases t with rfl|t
  .rw[B]at e;cases e
  .rw[B]at t;cases t
 rcases hx with D|D
 .erw[wpAny_storeName_local D hn (λK a0 f=>?_) R];let#[oL,_,_,a1,_]:=id hn;refine h _ #[I.ok,I.os,I.bare,#[λb o e n F hx=>?_,λb o e n F hx=>?_,I.base.free,λb o e hx=>?_,I.base.tups,I.base.frzs,I.base.tbls],#[_,a0,λj y Y l C e3=>?_],λy c e=>?_,I.free,I.freeC,λp hp=>?_,g #[oL,a1,I.free] f,by simpa using I.len] #[_,f,.inl J]
  .erw[(f.2 b (cR (cP (cg e) I.ok.above))).trans (I.base.keep b o e n F hx)]
  .let#[Z,l]:=I.base.slot b o e n F hx;erw[Z,(f.2 b (cR (cP (cg e) I.ok.above))).trans l]
  .let#[o',l]:=I.base.there b o e hx;erw[o',(f.2 b (cR (cP (cg e) I.ok.above))).trans l]
  .by_cases hj:j=i
   .subst hj;rw[hi]at l;cases l;rw[List.getElem?_set_self hiσ]at C;cases C;erw[u,r,.inl #[D,(by simp)]]
   .rw[List.getElem?_set_ne (Ne.symm hj)]at C;let#[u',W,q]:=hl j y Y l C e3;erw[u',W,?_];rcases q with⟨k,e⟩|⟨k,c,e,z⟩
    .erw[.inl #[k,?_]];have:y≠x:=λe=>hj (yaq hN l (e ▸ hi));simp[this,e]
    .erw[.inr #[k,c,e,z.sameBut f (G y c e)]]
  .let#[S,z]:=I.cell y c e;erw[S,z.sameBut f (G y c e)]
  .let#[e,n,U,nf,d]:=I.pin p hp;erw[(f.2 p.1 U).trans e,n,U,nf,d]
 .have ς:X.fn x=true:=by
   rcases hf with z|z
   .erw[z]
   .rw[z]at D;cases D
  let#[c,t]:=I.ok.has x (.inl D);let#[S,z]:=I.cell x c t;erw[wpAny_storeName_cell I.ok.kind D t z (λK P f=>?_)];let#[oc,L,O]:=id z;erw[h {s with heap:=K} #[I.ok,I.os,I.bare,#[λb o e n F hx=>?_,λb o e n F hx=>?_,I.base.free,λb o e hx=>?_,I.base.tups,I.base.frzs,I.base.tbls],#[m,hn.sameBut f (Ne.symm (G x c t)),λj y Y l C e3=>?_],λy T e=>?_,I.free,I.freeC,λp hp=>?_,g #[oc,L,I.freeC x c t] f,by simpa using I.len] #[c,f,.inr t]]
  .erw[(f.2 b (cR (cP (cg e) (I.ok.cab x c ς t)))).trans (I.base.keep b o e n F hx)]
  .let#[Z,l]:=I.base.slot b o e n F hx;erw[Z,(f.2 b (cR (cP (cg e) (I.ok.cab x c ς t)))).trans l]
  .let#[o',l]:=I.base.there b o e hx;erw[o',(f.2 b (cR (cP (cg e) (I.ok.cab x c ς t)))).trans l]
  .by_cases hj:j=i
   .subst hj;rw[hi]at l;cases l;rw[List.getElem?_set_self hiσ]at C;cases C;erw[u,r,.inr #[.inl D,c,t,P]]
   .rw[List.getElem?_set_ne (Ne.symm hj)]at C;let#[u',W,q]:=hl j y Y l C e3;erw[u',W,?_];rcases q with q|⟨k,T,e,z'⟩
    .erw[.inl q]
    .erw[.inr #[k,T,e,z'.sameBut f ?_]];rintro rfl;erw[hj (yaq hN l (I.ok.inj _ _ _ e t ▸ hi))]
  .by_cases hcc:T=c
   .subst hcc;erw[_,P]
   .let#[w2,z2]:=I.cell y T e;erw[w2,z2.sameBut f hcc]
  .let#[e,n,U,nf,d]:=I.pin p hp;erw[(f.2 p.1 ?_).trans e,n,U,nf,d];intro q;rw[q,L]at e;have q':oc=p.2:=cr e;erw[d S (by rwa[<- q',O])]
def ė{A:qf}{i:Nat}{x:Str}{Q:Unit->qb->Prop}(I:(Inv X pins σ H) s)(hN:X.N.Nodup)(hi:X.N[i]?=some x)(hx:Loc X.env.scope x)(r:xq v u)
  (h:∀s',Inv X pins (σ.set i (some v)) H s'->Q ⟨⟩ s') (hf:autoParam (X.fn x=true\/X.env.scope.names.lookup x=some .local) aG._auto_1):wpAny M A (storeName X.env x u) Q E s :=
 Ĵ I hN hi hx r (λs' a Z=>h s' a) hf
def Inv.call'{ch:Φ}(I:(Inv X pins σ H) s)(ho:s'.os=s.os)(u:Un (frs X.stack) ch H H' s.heap s'.heap)(hok:HOk X.prog X.w H' s'.heap)(hg:AllBare s'.gens)
  (hch:∀b∈ch,(b∈X.ex\/X.s₀.heap⁻¹<=b)/\b≠X.env.locals/\(∀x c,X.env.cells.lookup x=some c->c≠b)/\∀p∈X.pn++pins,p.1≠b):Inv X pins σ H' s':=by let#[d,g',d',t',a]:=s';have e:a=s.os:=ho;subst e;erw[I.call (g':=g') (t':=t') (d':=d') u hok hg hch]
end
end
mutual
abbrev XK:=qc->ql qa->Hp->Prop
abbrev St:=qj (Χ)
abbrev _root_.Ζ:=St->Hp->Prop
variable{σ:St}
abbrev VK:=V->Hp->Prop
abbrev TE:=St->Hp->VK->Prop
variable{ta te:TE}
abbrev TT:=St->Hp->(Bool->Hp->Prop)->Prop
abbrev TA:=St->Hp->(qj V->Hp->Prop)->Prop
structure ď where
 nx:Ζ
 rt:VK
 bk:Ζ:=λZ Z=>False
 ct:Ζ:=λZ Z=>False
abbrev TS:=ď->St->Hp->Prop
def EP(X:Cx)(pins:Θ)(σ:St)(Q:VK)(u:qc)(s':qb):Prop:=∃v H',Inv X pins σ H' s'/\xq v u/\Q v H'
def TP(X:Cx)(pins:Θ)(σ:St)(Q:Bool->Hp->Prop)(b:Bool)(s':qb):Prop:=∃H',Inv X pins σ H' s'/\Q b H'
def AP(X:Cx)(pins:Θ)(σ:St)(Q:qj V->Hp->Prop)(us:Ξ)(s':qb):Prop:=∃vs H',Inv X pins σ H' s'/\w9 vs us/\Q vs H'
def SP(X:Cx)(pins:Θ)(D:ď)(f:Flow)(s':qb):Prop :=
 match f with
 | .next=>∃σ' H',Inv X pins σ' H' s'/\D.nx σ' H'
 | .brk=>∃σ' H',Inv X pins σ' H' s'/\D.bk σ' H'
 | .cont=>∃σ' H',Inv X pins σ' H' s'/\D.ct σ' H'
 | .ret u=>∃v σ' H',Inv X pins σ' H' s'/\xq v u/\D.rt v H'
structure PE(X:Cx)(e:qh)(t:TE):Prop where
 go:∀(pins:Θ)(s:qb)(σ:St)(H:Hp)(Q:VK),(Inv X pins σ H) s->t σ H Q->(wpAny (model X.prog X.w) X.A) (eval e X.env) (EP X pins σ Q) X.xe s
instance {X:Cx}{e:qh}{t:TE}:CoeFun (PE X e t) (λZ=>∀(pins:Θ)(s:qb)(σ:St)(H:Hp)(Q:VK),(Inv X pins σ H) s->t σ H Q->(wpAny (model X.prog X.w) X.A) (eval e X.env) (EP X pins σ Q) X.xe s):=⟨PE.go⟩
structure PT(X:Cx)(e:qh)(t:TT):Prop where
 go:∀(pins:Θ)(s:qb)(σ:St)(H:Hp)(Q:Bool->Hp->Prop),(Inv X pins σ H) s->t σ H Q->(wpAny (model X.prog X.w) X.A) (isTrue e X.env (eval e X.env)) (TP X pins σ Q) X.xe s
instance {X:Cx}{e:qh}{t:TT}:CoeFun (PT X e t) (λZ=>∀(pins:Θ)(s:qb)(σ:St)(H:Hp)(Q:Bool->Hp->Prop),(Inv X pins σ H) s->t σ H Q->(wpAny (model X.prog X.w) X.A) (isTrue e X.env (eval e X.env)) (TP X pins σ Q) X.xe s):=⟨PT.go⟩
def PW(X:Cx)(e:qh)(t:TT):Prop :=
 ∀(whole:Sem qc)(pins:Θ)(s:qb)(σ:St)(H:Hp)(Q:Bool->Hp->Prop),(Inv X pins σ H) s->t σ H Q->(wpAny (model X.prog X.w) X.A) (isTrue e X.env whole) (TP X pins σ Q) X.xe s
def PW.pt{t:TT}(h:PW X e t):PT X e t:=⟨h _⟩
structure PA(X:Cx)(es:qj qh)(t:TA):Prop where
 go:∀(pos:Pos)(pins:Θ)(s:qb)(σ:St)(H:Hp)(Q:qj V->Hp->Prop),(Inv X pins σ H) s->t σ H Q->(wpAny (model X.prog X.w) X.A) (spliced (backTo pos (starEach es X.env))) (AP X pins σ Q) X.xe s
instance {X:Cx}{es:qj qh}{t:TA}:CoeFun (PA X es t) (λZ=>∀(pos:Pos)(pins:Θ)(s:qb)(σ:St)(H:Hp)(Q:qj V->Hp->Prop),(Inv X pins σ H) s->t σ H Q->(wpAny (model X.prog X.w) X.A) (spliced (backTo pos (starEach es X.env))) (AP X pins σ Q) X.xe s):=⟨PA.go⟩
structure PS(X:Cx)(st:qd)(t:TS):Prop where
 go:∀(pins:Θ)(s:qb)(σ:St)(H:Hp)(D:ď),(Inv X pins σ H) s->t D σ H->(wpAny (model X.prog X.w) X.A) (exec st X.env) (SP X pins D) X.xe s
instance {X:Cx}{st:qd}{t:TS}:CoeFun (PS X st t) (λZ=>∀(pins:Θ)(s:qb)(σ:St)(H:Hp)(D:ď),(Inv X pins σ H) s->t D σ H->(wpAny (model X.prog X.w) X.A) (exec st X.env) (SP X pins D) X.xe s):=⟨PS.go⟩
structure PSs(X:Cx)(st:qj qd)(t:TS):Prop where
 go:∀(pins:Θ)(s:qb)(σ:St)(H:Hp)(D:ď),(Inv X pins σ H) s->t D σ H->(wpAny (model X.prog X.w) X.A) (execs st X.env) (SP X pins D) X.xe s
instance {X:Cx}{st:qj qd}{t:TS}:CoeFun (PSs X st t) (λZ=>∀(pins:Θ)(s:qb)(σ:St)(H:Hp)(D:ď),(Inv X pins σ H) s->t D σ H->(wpAny (model X.prog X.w) X.A) (execs st X.env) (SP X pins D) X.xe s):=⟨PSs.go⟩
def thn{α:Type}{t:Sem α}{Q Q':α->qb->Prop}{A:qf}{s:qb}(h:wpAny M A t Q E s)(hQ:∀a s,Q a s->Q' a s):wpAny M A t Q' E s:=c7 h hQ λZ Z x=>x
end
section
mutual
def yyj(i:Nat):TE:=λσ H Q=>∃v,σ[i]?=some (some v)/\Q v H
def tC(v:V):TE:=λZ H Q=>Q v H
def yl6{i:Nat}{x:Str}{pos:Pos}(hN:X.N[i]?=some x)(hv:Vis X.env.scope x)(hd: ~~~(((x == ("__debug__":Str))=false)))(hcd: ~~~((x == ("__classdict__":Str))=false)):PE X (.Name x pos) (yyj i):=by
 erw[.mk λf s σ H Q I h=>?_];let#[v,e,h]:=h;let#[m,n,k]:=I.loc;let#[u,r,l]:=k i x v hN e hv;have d:EP X f σ Q u s:=#[v,H,I,r,h];rcases l with⟨b,j⟩|⟨b,c,g,a⟩
 .erw[wpAny_Name (wpAny_loadName_local I.ok.kind b n j d) hd]
 .rcases b with b|b
  .erw[wpAny_Name (wpAny_loadName_cell I.ok.kind b g a d) hd]
  .erw[wpAny_Name (wpAny_loadName_free I.ok.kind b g a d hcd) hd]
def yg{i j pos}:PE X (.Constant (i:) j pos) (tC (i:)):=.mk λZ Z Z H Z I h=>wpAny_Constant_int #[.int i,H,I.tok _,#[_,J],h]
def Ď{b j pos}:PE X (.Constant (.bool b) j pos) (tC (.bl b)):=.mk λZ Z Z H Z I h=>Constant_bool #[.bl b,H,I,J,h]
def u9{j pos}:PE X (.Constant .none j pos) (tC .non):=.mk λZ Z Z H Z I h=>Constant_none #[.non,H,I,J,h]
def yz{x j pos}:PE X (.Constant (.str x) j pos) (tC (.str x)):=.mk λZ Z Z H Z I h=>Calls.Constant_str #[.str x,H,I.tok _,#[_,J],h]
def Gl(X:Cx)(x:Str):Prop:=X.env.kindOf x=some .globalImplicit
def jm{s:qb}{x:Str}{pos:Pos}(I:(Inv X pins σ H) s)(hg:Gl X x)(hm:X.mg x=some u)(h:Q u s)
  (hd: ~~~(((x == ("__debug__":Str))=false))):(wpAny (model X.prog X.w) X.A) (eval (.Name x pos) X.env) Q E s :=
 Calls.Name_function_global I.ok.kind hg (Calls.loadGlobal_global (by rwa[I.ok.glob,I.mod.glob.keeps I.bk]) hm h) hd
def Ļ{s:qb}{x:Str}{pos:Pos}(I:(Inv X pins σ H) s)(hg:Gl X x)(hm:X.mg x=none)(hv:bootBuiltins x=some u)(h:Q u s)
  (hn: ~~~(x≠"__name__")) (hd: ~~~(((x == ("__debug__":Str))=false))):(wpAny (model X.prog X.w) X.A) (eval (.Name x pos) X.env) Q E s:=by let#[c,a,b]:=I.mod.blt;erw[Calls.Name_function_global I.ok.kind hg (Calls.loadGlobal_builtin (by rwa[I.ok.glob,I.mod.glob.keeps I.bk]) hm (by rwa[I.ok.blt,a.keeps I.bk]) ((b x hn).trans hv) h) hd]
def yex{x:Str}{pos:Pos}(hg:Gl X x)(hm:X.mg x=some u)(r:xq v u)(hd: ~~~(((x == ("__debug__":Str))=false))):PE X (.Name x pos) (tC v):=.mk
 λZ Z Z H Z I h=>jm I hg hm #[v,H,I,r,h] hd
def yvv{x:Str}{pos:Pos}(hg:Gl X x)(hm:X.mg x=none)(hv:bootBuiltins x=some u)(r:xq v u)(hn: ~~~(x≠"__name__"))(hd: ~~~(((x == ("__debug__":Str))=false))):PE X (.Name x pos) (tC v):=.mk
 λZ Z Z H Z I h=>Ļ I hg hm hv #[v,H,I,r,h] hn hd
variable{a b:qh}{tb:TE}{pos:Pos}
def PC(X:Cx)(op:CmpOp)(a b:qh)(t:TE):Prop :=
 ∀(pins:Θ)(s:qb)(σ:St)(H:Hp)(Q:VK),(Inv X pins σ H) s->t σ H Q ->
  wpAny (model X.prog X.w) X.A (eval a X.env) (λv s₁=>(wpAny (model X.prog X.w) X.A) (eval b X.env) (λu s₂=>(wpAny (model X.prog X.w) X.A) (compareOp op v u) (EP X pins σ Q) X.xe s₂) X.xe s₁) X.xe s
def tB(t:TE):TT:=λσ H Q=>t σ H λx H1=>∃c,x=.bl c/\Q c H1
def ymm{t:TE}(h:PC X op a b t)(h1:behindInMarks op b=false:=by first|erw[nobehind _ ∅ ∅]|rfl):PT X (.Compare a [op] [b] pos) (tB t):=by refine .mk λe s σ H Q I f=>?_;erw[wpAny_isTrue_Compare1 (thn (h e s σ H _ I f) λv o h1=>thn h1 λu n i=>thn i λc m h'=>?_) h1];let#[x,g,l,j,k]:=h';let#[d,J,q]:=k;cases j;erw[dm #[g,l,q]]
def u6{t:TE}(h:PE X e t)(he:autoParam (∀whole,isTrue e X.env whole=(do let v <- whole;standAt e.pos;holding [v] (truthy v))) aE._auto_1):PT X e (tB t):=by refine .mk λa s σ H Q I b=>?_;erw[isTrue_plain (thn (h a s σ H _ I b) λv j h'=>?_) (he _)];let#[x,c,i,f,g]:=h';let#[d,J,q]:=g;cases f;erw[dm #[c,i,q]]
variable{tA tB':TT}{xj:qj qh}
def vke(t u:TT):TT:=λσ H Q=>t σ H λc H1=>if c=true then u σ H1 Q else Q false H1
def tOr(t u:TT):TT:=λσ H Q=>t σ H λc H1=>if c=true then Q true H1 else u σ H1 Q
def vk5(t:TT):TT:=λσ H Q=>t σ H λc H1=>Q (!c) H1
def ybd(ha:PT X a tA):PW X (.BoolOp .And [a] pos) tA:=by
 intro f b s σ H Q I h;erw[isTrue_and (thn (ha b s σ H Q I h) λc d e=>?_)]
 cases c with
 |true=>erw[isTrue_and_nil e]
 |false=>erw[e]
def é(ha:PT X a tA):PW X (.BoolOp .Or [a] pos) tA:=by
 intro f b s σ H Q I h;erw[isTrue_or (thn (ha b s σ H Q I h) λc d e=>?_)]
 cases c with
 |false=>erw[isTrue_or_nil e]
 |true=>erw[e]
def ycw(ha:PT X a tA)(hb:PW X (.BoolOp .And (b::xj) pos) tB'):PW X (.BoolOp .And (a::b::xj) pos) (vke tA tB'):=by
 intro i d s σ H Q I h;erw[isTrue_and (thn (ha d s σ H _ I h) λc j ⟨e,g,f⟩=>?_)]
 cases c with
 |true=>erw[hb i d j σ e Q g f]
 |false=>erw[e,g,f]
def Ŀ(ha:PT X a tA)(hb:PW X (.BoolOp .Or (b::xj) pos) tB'):PW X (.BoolOp .Or (a::b::xj) pos) (tOr tA tB'):=by
 intro i d s σ H Q I h;erw[isTrue_or (thn (ha d s σ H _ I h) λc j ⟨e,g,f⟩=>?_)]
 cases c with
 |true=>erw[e,g,f]
 |false=>erw[hb i d j σ e Q g f]
def u5(ha:PT X a tA):PT X (.UnaryOp .Not a pos) (vk5 tA):=by refine .mk λb s σ H Q I h=>?_;erw[isTrue_not (ha b s σ H (λc d=>Q (!c) d) I h)]
def vew(ta tb:TE):TE:=λσ H Q=>ta σ H λx H1=>∃c,x=.bl c/\if c=true then tb σ H1 Q else Q (.bl false) H1
def vft(ta:TE):TE:=λσ H Q=>ta σ H λx H1=>∃c,x=.bl c/\Q (.bl (!c)) H1
def Í{op}{t:TE}(h:PE X a t):PE X (.BoolOp op [a] pos) t:=.mk λb s σ H Q I c=>BoolOp_one (h b s σ H Q I c)
def jh(ha:PE X a ta)(hb:PE X (.BoolOp .And (b::xj) pos) tb):PE X (.BoolOp .And (a::b::xj) pos) (vew ta tb):=by
 erw[.mk λd s σ H Q I h=>?_,<-BoolOp_and (thn (ha d s σ H _ I h) λv j h'=>?_)];let#[x,f,g,i,e]:=h';let#[c,J,e]:=e;cases i;erw[dm ?_]
 cases c with
 |true=>erw[hb d j σ f Q g e]
 |false=>erw[.bl false,f,g,J,e]
def vcv(ha:PE X a ta):PE X (.UnaryOp .Not a pos) (vft ta):=by refine .mk λb s σ H Q I h=>?_;erw[UnaryOp_ (thn (ha b s σ H _ I h) λv i h'=>?_)];let#[x,e,g,f,d]:=h';let#[c,J,d]:=d;cases f;erw[not_of (dm #[.bl (!c),e,g,J,d])]
def tIf(t:TT)(ta tb:TE):TE:=λσ H Q=>t σ H λc H1=>if c=true then ta σ H1 Q else tb σ H1 Q
def j4{c:qh}(hc:PT X c tA)(ha:PE X a ta)(hb:PE X b tb):PE X (.IfExp c a b pos) (tIf tA ta tb):=by
 erw[.mk λe s σ H Q I h=>?_,<-wpAny_IfExp (thn (hc e s σ H _ I h) λd i ⟨f,j,g⟩=>?_)]
 cases d with
 |true=>erw[ha e i σ f Q j g]
 |false=>erw[hb e i σ f Q j g]
end
end
mutual
def SqL(K:xy)(H:Hp)(a:qa)(xs:Τ):Prop :=
 Rd H a (.lst xs) \/
  ∃(o:Obj)(its:Array qc)(n:Nat),K.lookup a=some o/\o.cls=.type "list"/\o.dict=none/\o.data=.seq its n/\its.size<=sizeLine/\w9 xs its.toList
def SqT(K:xy)(H:Hp)(a:qa)(xs:Τ):Prop :=
 Rd H a (.tup xs) \/
  ∃(o:Obj)(its:Array qc)(n:Nat),K.lookup a=some o/\o.cls=.type "tuple"/\o.data=.seq its n/\its.size<=sizeLine/\w9 xs its.toList
noncomputable def vl7:qc->ql V
 | .none=>some .non
 | .bool b=>some (.bl b)
 | .int i _=>some (i:)
 | .str x _=>some (.str x)
 | .bytes b _=>some (.byt b)
 | .float b _=>some (.flt b)
 | .ref a=>some ⇑a
 | .type n=>some (.ty n)
 |_=>none
def xq.abs{x:V}(r:xq x u):vl7 u=some x:=by
 cases x with
 |non=>cases r;rfl
 |bl _=>cases r;rfl
 |int _=>let⟨t,rfl⟩:=r;rfl
 |str _=>let⟨t,rfl⟩:=r;rfl
 |byt _=>let⟨t,rfl⟩:=r;rfl
 |flt _=>let⟨t,rfl⟩:=r;rfl
 |ref _=>cases r;rfl
 |ty _=>cases r;rfl
def xq.inj{x:V}(r:xq x u)(q:xq y u):x=y:=cr (r.abs.symm.trans q.abs)
theorem w9.inj(h:w9 xs us)(k:w9 ys us):xs=ys:=by
 induction h generalizing ys with
 |nil=>cases k;rfl
 |cons r t ih =>
  cases k with
  |cons r' t'=>rw[r.inj r',ih t']
end
section
mutual
variable{s:qb}
def SqL.of{K:xy}(h:H a\xs):SqL K H a xs:=.inl (.inl h)
def SqT.of{K:xy}(h:H a∪xs):SqT K H a xs:=.inl (.inl h)
def Inv.list(I:(Inv X pins σ H) s)(h:SqL X.K H a xs):∃its:Ξ,w9 xs its/\PlainL s.heap a its.toArray/\↑xs<=sizeLine:=by
 rcases h with h|⟨o,its,n,c,f,b,d,g,r⟩
 .let#[z,its,n,r,e]:=h.ok I.hok;erw[its,r,#[_,n,e,J,J,J],z]
 .erw[its.toList,r,#[o,n,I.kIn a o c,f,b,by simpa using d],?_];let e:=↑r;simp only[dg]at e;omega
def Inv.tuple(I:(Inv X pins σ H) s)(h:SqT X.K H a xs):∃its:Ξ,w9 xs its/\IsTup s.heap a its.toArray/\↑xs<=sizeLine:=by
 rcases h with h|⟨o,its,n,d,c,b,f,r⟩
 .let#[z,its,r,p]:=h.ok I.hok;erw[its,r,p,z]
 .erw[its.toList,r,#[o,I.kIn a o d,c,n,by simpa using b],?_];let e:=↑r;simp only[dg]at e;omega
def Inv.list_inj(I:(Inv X pins σ H) s)(h:SqL X.K H a xs)(h':SqL X.K H a ys):xs=ys:=by
 let#[c,r,#[o,n,e,_,_,d],_]:=I.list h;let#[b,i,#[k,j,g,_,_,f],_]:=I.list h';rw[e]at g;cases g;rw[d]at f;injection f with d1 _;have:c=b:=by simpa using congrArg Array.toList d1
 subst this;erw[r.inj i]
def Inv.tuple_inj(I:(Inv X pins σ H) s)(h:SqT X.K H a xs)(h':SqT X.K H a ys):xs=ys:=by
 let#[c,r,#[o,e,_,n,d],_]:=I.tuple h;let#[b,i,#[k,g,_,j,f],_]:=I.tuple h';rw[e]at g;cases g;rw[d]at f;injection f with d1 _;have:c=b:=by simpa using congrArg Array.toList d1
 subst this;erw[r.inj i]
end
end
mutual
noncomputable abbrev Cx.wish(X:Cx)(E:Δ):Cx:={X with xe:=E}
noncomputable abbrev Cx.nox(X:Cx):Cx:=X.wish λZ Z=>False
theorem Cx.Ok.wish(ok:X.Ok)(E:Δ):(X.wish E).Ok :=
 #[ok.mod,ok.kind,ok.glob,ok.blt,ok.above,ok.inj,ok.has,ok.cab,ok.hd,ok.frames,ok.stk,ok.exf,ok.bs,ok.bsz,ok.noex,ok.exfs,ok.funs,ok.frf]
def Cx.Ok.unwish(ok:(X.wish E).Ok):X.Ok :=
 #[ok.mod,ok.kind,ok.glob,ok.blt,ok.above,ok.inj,ok.has,ok.cab,ok.hd,ok.frames,ok.stk,ok.exf,ok.bs,ok.bsz,ok.noex,ok.exfs,ok.funs,ok.frf]
end
section
mutual
variable{s:qb}
theorem Inv.wish(I:(Inv X pins σ H) s)(E:Δ):Inv (X.wish E) pins σ H s:=#[I.ok.wish E,I.os,I.bare,I.base,I.loc,I.cell,I.free,I.freeC,I.pin,I.hok,I.len]
theorem Inv.unwish(I:Inv (X.wish E) pins σ H s):(Inv X pins σ H) s:=#[I.ok.unwish,I.os,I.bare,I.base,I.loc,I.cell,I.free,I.freeC,I.pin,I.hok,I.len]
theorem SP.unwish{D:ď}{f:Flow}(h:SP (X.wish E) pins D f s'):SP X pins D f s':=by
 cases f with
 |next=>let⟨σ',a,I,q⟩:=h;erw[σ',a,I.unwish,q]
 |brk=>let⟨σ',a,I,q⟩:=h;erw[σ',a,I.unwish,q]
 |cont=>let⟨σ',a,I,q⟩:=h;erw[σ',a,I.unwish,q]
 |ret u=>let⟨v,σ',a,I,r,q⟩:=h;erw[v,σ',a,I.unwish,r,q]
theorem PSs.nox{st:qj qd}{t:TS}(h:PSs X.nox st t):PSs X st t:=.mk λa s σ H D I b =>
 c7 (h a s σ H D (I.wish _) b) (λZ Z q=>q.unwish) λZ Z z=>False.elim z
end
end
section
mutual
variable{st:qd}{xj:qj qd}{t u:TS}{pos:Pos}
def vff:TS:=λD σ H=>D.nx σ H
def vj3(t u:TS):TS:=λD σ H=>t {D with nx:=u D} σ H
def yx:PSs X [] vff:=.mk λZ Z σ H Z I h=>wpAny_execs_nil #[σ,H,I,h]
def yf(h1:PS X st t)(h2:PSs X xj u):PSs X (st::xj) (vj3 t u):=by
 erw[.mk λa s σ H D I h=>?_,<-wpAny_execs_cons (thn (h1 a s σ H {D with nx:=u D} I h) λf c q=>?_)]
 cases f with
 |next =>
  let#[σ',d,b,q]:=q;erw[h2 a c σ' d D b q]
 |ret v=>erw[q]
 |brk=>erw[q]
 |cont=>erw[q]
def yc(h1:PS X st t):PSs X [st] t:=by
 erw[.mk λa s σ H D I h=>?_,<-wpAny_execs_cons (thn (h1 a s σ H D I h) λf b q=>?_)]
 cases f with
 |next=>erw[wpAny_execs_nil q]
 |ret v=>erw[q]
 |brk=>erw[q]
 |cont=>erw[q]
def Inv.quiet{s:qb}(I:(Inv X pins σ H) s):interactive X.env=false:=by simp[interactive,I.ok.kind]
def vf1(te:TE):TS:=λD σ H=>te σ H λZ H1=>D.nx σ H1
def yv(he:PE X e te)(hs:¬¬(swapsWith e none pos.line X.env=pure false)):PS X (.Expr e pos) (vf1 te):=by refine .mk λa s σ H D I h=>?_;erw[wpAny_Expr_any (thn (he a s σ H _ I h) λv g ⟨x,b,d,f,c⟩=>#[σ,b,d,c]) I.quiet hs]
def vku(te:TE):TS:=λD σ H=>te σ H D.rt
def yn(he:PE X e te):PS X (.Return (some e) pos) (vku te):=by refine .mk λa s σ H D I h=>?_;erw[wpAny_Return_some (thn (he a s σ H _ I h) λv g ⟨x,b,f,c,d⟩=>#[x,σ,b,f,c,d])]
def vk8(c:TT)(t u:TS):TS:=λD σ H=>c σ H λb H1=>if b=true then t D σ H1 else u D σ H1
def vz{c:qh}{a b:qj qd}{tc:TT}(hc:PT X c tc)(ha:PSs X a t)(hb:PSs X b u):PS X (.If c a b pos) (vk8 tc t u):=by
 erw[.mk λe s σ H D I h=>?_,<-wpAny_If (thn (hc e s σ H _ I h) λd i ⟨f,j,g⟩=>?_)]
 cases d with
 |true=>erw[ha e i σ f D j g]
 |false=>erw[hb e i σ f D j g]
def yza:TS:=λZ Z Z=>False
def Á:PS X st yza:=.mk λZ Z Z Z Z Z h=>h.elim
end
end
mutual
abbrev TG:=V->St->Hp->(Ζ)->Prop
abbrev TGs:=qj V->St->Hp->(Ζ)->Prop
def PG(X:Cx)(target:qh)(t:TG):Prop :=
 ∀(pins:Θ)(s:qb)(σ:St)(H:Hp)(v:V)(u:qc)(Q:Ζ),(Inv X pins σ H) s->xq v u->t v σ H Q ->
  wpAny (model X.prog X.w) X.A (assign target X.env u) (λZ s'=>∃σ' H',Inv X pins σ' H' s'/\Q σ' H') X.xe s
def PGs(X:Cx)(ts:qj qh)(t:TGs):Prop :=
 ∀(pins:Θ)(s:qb)(σ:St)(H:Hp)(vs:Τ)(us:Ξ)(Q:Ζ),(Inv X pins σ H) s->w9 vs us->t vs σ H Q ->
  wpAny (model X.prog X.w) X.A (assignInOrder ((assignEach ts X.env).map (·.2)) us) (λZ s'=>∃σ' H',Inv X pins σ' H' s'/\Q σ' H') X.xe s
end
section
mutual
variable{pos:Pos}
def xm(i:Nat):TG:=λv σ H Q=>Q (σ.set i (some v)) H
def wd{i:Nat}{x:Str}(hN:X.N.Nodup)(hi:X.N[i]?=some x)(hx:Loc X.env.scope x)(hf:autoParam (X.fn x=true\/X.env.scope.names.lookup x=some .local) aG._auto_1):PG X (.Name x pos) (xm i):=by intro a s σ H v u Q I r h;erw[wpAny_assign_Name (ė I hN hi hx r (λc b=>#[_,H,b,h]) hf)]
def ymy:TGs:=λvs σ H Q=>vs=[]/\Q σ H
def ja(t:TG)(u:TGs):TGs:=λvs σ H Q=>∃v r,vs=v::r/\t v σ H λσ' H'=>u r σ' H' Q
def û:PGs X [] ymy:=by intro a s σ H c b Q I r h;let#[e,h]:=h;subst e;cases r;erw[assignInOrder_nil #[σ,H,I,h]]
def xx{t:TG}{u:TGs}(h1:PG X e t)(h2:PGs X es u)
  (hs:¬¬((assignEach (e::es) X.env).map (·.2)=assign e X.env::(assignEach es X.env).map (·.2))):PGs X (e::es) (ja t u):=by
 intro a s σ H j i Q I r h;let#[v,k,b,h]:=h;subst b
 cases r with
 |cons r rr =>
  rwa[hs,assignInOrder_cons (thn (h1 a s σ H _ _ _ I r h) λZ f ⟨σ1,c,g,d⟩=>?_)];erw[h2 a f σ1 c _ _ Q g rr d]
def yyc(K:xy)(n:Nat)(t:TGs):TG:=λv σ H Q=>∃a xs,v=.ref a/\SqT K H a xs/\↑xs=n/\t xs σ H Q
def Ũ{k:Nat}{t:TGs}{n:Nat}(hc:X.calm=true)(h:PGs X es t)
  (hn:¬¬(↑(assignEach es X.env)=n)) (hst:¬¬((assignEach es X.env).findIdx? (·.1)=none)):PG X (.Tuple es k pos) (yyc X.K n t):=by intro c s σ H v u Q I r d;let#[a,p,j,i,l,d]:=d;subst j;cases r;let#[m,f,q,y]:=I.tuple i;erw[assign_Tuple_tuple (I.ok.hd hc) q (by simp[hn,<- l,f.length]) hst λg x=>?_];have w:Inv X c σ H {s with heap:=g}:=I.kept (t':=s.toks) λb o e=>x b o (cR (cg e)) e;erw[h c _ σ H p _ Q w (by simpa using f) d]
def vhq(te:TE)(g:TG):TS:=λD σ H=>te σ H λx H1=>g x σ H1 D.nx
def π{i:Nat}{x:Str}{pos':Pos}(hN:X.N.Nodup)(hi:X.N[i]?=some x)(hx:Loc X.env.scope x)(he:PE X e te)(hs:¬¬(swapsWith e (some (.Name x pos')) pos.line X.env=pure false))(hf:autoParam (X.fn x=true\/X.env.scope.names.lookup x=some .local) aG._auto_1):
  PS X (.Assign [.Name x pos'] e pos) (vhq te (xm i)):=by refine .mk λa s σ H D I h=>?_;erw[wpAny_Assign_Name (thn (he a s σ H _ I h) λv k h'=>?_) hs];let#[y,b,f,c,d]:=h';erw[ė f hN hi hx c (λj g=>#[_,b,g,d]) hf]
end
end
section
variable{pos:Pos}
def yz4(c:TT)(tb:TS):TS:=λD σ H=>∃W:Nat->St->Hp->Prop,(∃m,W m σ H)/\∀m σ H,W m σ H ->
 c σ H λb H1=>if b=true then ∃N:Ζ,(∀σ' H',N σ' H'->∃m',m'<m/\W m' σ' H')/\tb {D with nx:=N,ct:=N,bk:=D.nx} σ H1 else D.nx σ H1
def È{c:qh}{tc:TT}{tb:TS}(hp:PassesOwn (model X.prog X.w) X.A X.env X.xe)(hc:PT X c tc)(hb:PSs X body tb):PS X (.While c body [] pos) (yz4 tc tb):=by
 erw[.mk λa s σ H D I h=>?_];let#[W,#[B,C],e]:=h;erw[wpAny_While (codeAny_whileLoop (λn u=>∃σ' H',Inv X a σ' H' u/\W n σ' H') ?_ B #[σ,H,I,C])];rintro n E ⟨σ1,q,y,x⟩;erw[wpAny_passesOwn hp (thn (hc a E σ1 q _ y (e n σ1 q x)) λb z ⟨r,p,i⟩=>?_)]
 cases b with
 |true =>
  let#[N,t,i]:=i;rwa[if_pos J,wpAny_passesOwn hp (thn (hb a z σ1 r _ p i) λf F g=>?_)]
  cases f with
  |next =>
   let#[σ3,d,l,k]:=g;let#[m,o,j]:=t σ3 d k;erw[m,o,σ3,d,l,j]
  |cont =>
   let#[σ3,d,l,k]:=g;let#[m,o,j]:=t σ3 d k;erw[m,o,σ3,d,l,j]
  |brk=>erw[g]
  |ret v=>erw[g]
 |false =>
  rwa[if_neg ci,wpAny_execs_nil #[σ1,r,p,i]]
end
mutual
structure It where
 go:Nat->Hp->Prop
 yld:Nat->Hp->V->Hp->Prop
 stop:Nat->Hp->Prop
def yg0(X:Cx)(pins:Θ)(H:Hp)(b:qa):Prop :=
 H b=none/\b≠X.env.locals/\b∉X.fs/\(b∈X.ex\/X.s₀.heap⁻¹<=b)/\(∀x c,X.env.cells.lookup x=some c->c≠b)/\∀p∈X.pn++pins,p.1≠b
def Inv.fpOk{s:qb}{b:qa}(I:(Inv X pins σ H) s)(hb:s.heap⁻¹<=b)(hn:H' b=none):yg0 X pins H' b:=by
 erw[hn,Nat.ne_of_gt (cP I.lt hb),I.nofs hb,.inr (cN I.sz hb),λx c e z=>?_,λp a z=>?_]
 .let#[v,q]:=I.cell x c e;erw[absurd (cP q.lt (by rwa[z,hb])) (dv _)]
 .erw[absurd (cP (cg (I.pin p a).1) (by rwa[z,hb])) (dv _)]
structure ygz(P:qi)(w:qe)(K:xy)(tg:qh)(ς:It)(fp:Φ)(it:qa)(tn:Nat->qg->Prop):Prop where
 mem:it∈fp
 obj:∀i h,tn i h->∀b∈fp,∃o,h.get? b=some o/\∀v,o.data≠.cell v
 keep:∀i h h',tn i h->(∀b∈fp,∀o,h.get? b=some o->h'.get? b=some o)->tn i h'
 item:∀(X:Cx),X.prog=P->X.w=w->X.K=K->X.calm=true->∀(i:Nat)(pins:Θ)(s:qb)(σ:St)(H:Hp)(E:Δ),(Inv X pins σ H) s->(∀b∈fp,yg0 X pins H b)->tn i s.heap->ς.go i H ->
  wpAny (model P w) X.A (pyNext ⇑it) (λr s1=>∃u,r=some u/\
   wpAny (model P w) X.A (letOwnedTupleGo tg ⇑it u) (λZ s2=>∃x H',Inv X pins σ H' s2/\xq x u/\ς.yld i H x H'/\tn (i+1) s2.heap/\∀b∈fp,H' b=none) E s1) E s
 done:∀(X:Cx),X.prog=P->X.w=w->X.K=K->X.calm=true->∀(i:Nat)(pins:Θ)(s:qb)(σ:St)(H:Hp)(E:Δ),(Inv X pins σ H) s->(∀b∈fp,yg0 X pins H b)->tn i s.heap->ς.stop i H ->
  wpAny (model P w) X.A (pyNext ⇑it) (λr s1=>r=none/\Inv X pins σ H s1) E s
 self:∀(A:qf)(i:Nat)(s:qb)(Q:Δ)(E:Δ),tn i s.heap->Q ⇑it s->wpAny (model P w) A (pyIter ⇑it) Q E s
abbrev TI:=St->Hp->(It->Hp->Prop)->Prop
def PIE(X:Cx)(pins:Θ)(σ:St)(tg:qh)(R:It->Hp->Prop)(itv:qc)(s2:qb):Prop :=
 ∃(it:qa)(fp:Φ)(tn:Nat->qg->Prop)(ς:It)(H':Hp),itv=.ref it/\Inv X pins σ H' s2/\ygz X.prog X.w X.K tg ς fp it tn/\tn 0 s2.heap/\(∀b∈fp,yg0 X pins H' b)/\R ς H'
def PI(X:Cx)(tg iter:qh)(wi:TI):Prop :=
 ∀(pins:Θ)(s:qb)(σ:St)(H:Hp)(R:It->Hp->Prop),(Inv X pins σ H) s->wi σ H R ->
  wpAny (model X.prog X.w) X.A (eval iter X.env) (λv s1=>(wpAny (model X.prog X.w) X.A) (pyIter v) (PIE X pins σ tg R) X.xe s1) X.xe s
def yh8{A:qf}{s:qb}{it:qa}{o:Obj}{n:String}{vs:Array qc}{Q:Unit->qb->Prop}(ho:s.heap.get? it=some o)(hc:o.cls=.type n)(hd:o.data=.fields vs)
  (hn:["enumerate","zip","dict_itemiterator","dict_reverseitemiterator","odict_iterator","itertools.zip_longest","itertools.pairwise"].contains n=false) (hQ:Q ⟨⟩ s):wpAny M A (letOwnedTupleGo tg ⇑it u) Q E s:=by
 unfold letOwnedTupleGo
 cases tg<;>first
  |erw[bS hQ]
  | (cases u<;>first
    |erw[bS hQ]
    | (refine bv (wpAny_load ho ?_)
       rw[hc,hd];show wpAny M A (if (["enumerate","zip","dict_itemiterator","dict_reverseitemiterator","odict_iterator","itertools.zip_longest","itertools.pairwise"].contains n && vs[0]? == some (rawInt _))=true then _ else _) Q E s;rwa[if_neg (by intro h;rw[hn,Bool.false_and]at h;cases h),bS hQ]))
noncomputable def Itl(K:xy)(a:qa):It :=
 #[λi H=>∃xs x,SqL K H a xs/\xs[i]?=some x,λi H x H'=>H'=H/\∀xs,SqL K H a xs->xs[i]?=some x,λi H=>∃xs,SqL K H a xs/\↑xs<=i]
noncomputable def Itt(K:xy)(a:qa):It :=
 #[λi H=>∃xs x,SqT K H a xs/\xs[i]?=some x,λi H x H'=>H'=H/\∀xs,SqT K H a xs->xs[i]?=some x,λi H=>∃xs,SqT K H a xs/\↑xs<=i]
def Itr(lo:Int)(n:Nat):It:=#[λi Z=>i<n,λi H x H'=>H'=H/\x=.int (lo+i),λi Z=>n<=i]
def yjg{w:qe}{K:xy}(a it:qa):ygz P w K tg (Itl K a) [it] it (λi h=>h.IsListIter it a i) where
 mem:=(by simp)
 obj:=λi h f b j=>by
  have e:b=it:=by simpa using j
  subst e;let#[o,e,c,d]:=f;erw[o,e,λv z=>by rw[d]at z;cases z]
 keep:=λi h m f k=>f.at λo e=>k it (by simp) o e
 item:=by
  intro X L D B N i g s σ H E I q f r;subst L D B;let#[T,x,n,G]:=r;let#[A,C,p,R]:=I.list n;let#[u,U,Z]:=C.get G;let#[t,y,Y,M,ς,F]:=q it (by simp);erw[wpAny_pyNext_list_item f p.isList (x:=u) (by simpa using U) λm l sb=>?_];have O:Inv X g σ H {s with heap:=m}:=I.turned (t':=s.toks) (λb o j e=>(sb.2 b j).trans e) t y M ς F;let#[o,e,c,d]:=id l;erw[u,J,yh8 (s:={s with heap:=m}) e c d ∅ #[x,H,O,Z,#[J,λys S=>by rwa[I.list_inj S n,G]],l,λb j=>(q b j).1]]
 done:=by
  intro X L D B N i g s σ H E I q f r;subst L D B;let#[T,n,G]:=r;let#[A,C,p,R]:=I.list n;let#[t,y,Y,M,ς,F]:=q it (by simp);let hl:=↑C;erw[wpAny_pyNext_list_end (I.ok.hd N) f p.isList (by simp;omega) λm Q=>#[J,I.turned (t':=s.toks) (λb o j e=>Q b o j e) t y M ς F]]
 self:=λW W W W W f h=>wpAny_pyIter_listiter f h
def yh0{w:qe}{K:xy}(a it:qa):ygz P w K tg (Itt K a) [it] it (λi h=>h.IsTupleIter it a i) where
 mem:=(by simp)
 obj:=λi h f b j=>by
  have e:b=it:=by simpa using j
  subst e;let#[o,e,c,d]:=f;erw[o,e,λv z=>by rw[d]at z;cases z]
 keep:=λi h n f k=>f.at λo e=>k it (by simp) o e
 item:=by
  intro X L D B N i g s σ H E I r f t;subst L D B;let#[T,x,q,G]:=t;let#[l,C,p,R]:=I.tuple q;let#[u,U,Z]:=C.get G;let#[y,A,Y,M,ς,F]:=r it (by simp);erw[wpAny_pyNext_tuple_item f (show s.heap.IsTuple a l.toArray from p) (x:=u) (by simpa using U) λn m sb=>?_];have O:Inv X g σ H {s with heap:=n}:=I.turned (t':=s.toks) (λb o j e=>(sb.2 b j).trans e) y A M ς F;let#[o,e,c,d]:=id m;erw[u,J,yh8 (s:={s with heap:=n}) e c d ∅ #[x,H,O,Z,#[J,λys S=>by rwa[I.tuple_inj S q,G]],m,λb j=>(r b j).1]]
 done:=by
  intro X L D B N i g s σ H E I r f t;subst L D B;let#[T,q,G]:=t;let#[l,C,p,R]:=I.tuple q;let#[y,A,Y,M,ς,F]:=r it (by simp);let hl:=↑C;erw[wpAny_pyNext_tuple_end (I.ok.hd N) f (show s.heap.IsTuple a l.toArray from p) (by simp;omega) λn Q=>#[J,I.turned (t':=s.toks) (λb o j e=>Q b o j e) y A M ς F]]
 self:=λW W W W W f h=>wpAny_pyIter_tupleiter f h
def yhm{w:qe}{K:xy}(it:qa)(lo:Int)(n:Nat):ygz P w K tg (Itr lo n) [it] it (λi h=>IsRangeIter h it (lo+(i:Nat)*1) ((n:Int)-(i:Nat)) 1) where
 mem:=(by simp)
 obj:=λi h a b d=>by
  have e:b=it:=by simpa using d
  subst e
  erw[_,a,λv z=>by
   have D:Data.fields _=Data.cell v:=z;cases D]
 keep:=λi h g a k=>k it (by simp) _ a
 item:=by
  intro X y r q B i c s σ H E I j a l;subst y r q;let#[m,p,L,A,x,u]:=j it (by simp);let W:=Walks.range (prog:=X.prog) (w:=X.w) (I.ok.hd B) it lo 1 n;erw[W.item i s _ _ l a λv g C M f G=>?_];let#[t,J]:=M;have F:Inv X c σ H {s with heap:=g,toks:=C}:=I.turned (λb o d e=>G b o (by simpa using d) e) m p A x u;erw[_,J,yh8 (s:={s with heap:=g,toks:=C}) (n:="range_iterator") f J J ∅ #[.int (lo+i),H,F,#[t,?_],#[J,J],f,λb d=>(j b d).1]];rw[Int.mul_one]
 done:=by
  intro X y r q B i c s σ H E I j a l;subst y r q;let#[m,p,L,A,x,u]:=j it (by simp);erw[wpAny_pyNext_range_end (I.ok.hd B) a (by have:n<=i:=l;omega) λg ς=>#[J,I.turned (t':=s.toks) (λb o d e=>ς b o d e) m p A x u]]
 self:=λZ Z Z Z Z a h=>wpAny_pyIter_rangeiter a h
def vfr(K:xy)(tl:TE):TI:=λσ H R=>tl σ H λx H1=>∃a,x=.ref a/\(∃xs,SqL K H1 a xs)/\R (Itl K a) H1
def vlb(K:xy)(tl:TE):TI:=λσ H R=>tl σ H λx H1=>∃a,x=.ref a/\(∃xs,SqT K H1 a xs)/\R (Itt K a) H1
def we{l:qh}{tl:TE}(hl:PE X l tl):PI X tg l (vfr X.K tl):=by
 intro c s σ H R I h;erw[thn (hl c s σ H _ I h) λv d h'=>?_];let#[x,i,f,k,m]:=h';let#[a,e,#[r,g],q]:=m;subst e;cases k;let#[j,t,p,u]:=f.list g;erw[wpAny_pyIter_list p.isList ?_,<-d.heap⁻¹,[d.heap⁻¹],_,_,i,J,f.kept (t':=d.toks) λb o e=>bR _ e,yjg a _,#[_,cb _ J,J,J],λb n=>?_,q];have e:b=d.heap⁻¹:=by simpa using n
 subst e;erw[f.fpOk (bT _) (f.hok.fresh (bT _))]
def ygn{l:qh}{tl:TE}(hl:PE X l tl):PI X tg l (vlb X.K tl):=by
 intro c s σ H R I h;erw[thn (hl c s σ H _ I h) λv d h'=>?_];let#[x,j,f,k,m]:=h';let#[a,e,#[r,i],q]:=m;subst e;cases k;let#[g,t,p,u]:=f.tuple i;erw[wpAny_pyIter_tuple (show d.heap.IsTuple a g.toArray from p) ?_,<-d.heap⁻¹,[d.heap⁻¹],_,_,j,J,f.kept (t':=d.toks) λb o e=>bR _ e,yh0 a _,#[_,cb _ J,J,J],λb n=>?_,q];have e:b=d.heap⁻¹:=by simpa using n
 subst e;erw[f.fpOk (bT _) (f.hok.fresh (bT _))]
def ync{s:qb}{R:It->Hp->Prop}{lo hi:Int}{t u v:Tok}{tk:Nat}(I:(Inv X pins σ H) s)(h1:-(2^62)<=lo)(h2:lo<2^62)(h3:-(2^62)<=hi)(h4:hi<2^62)
  (q:R (Itr lo (hi-lo).toNat) H):(wpAny (model X.prog X.w) X.A) (pyIter ⇑s.heap⁻¹) (PIE X pins σ tg R) E {s with heap:=s.heap.push { cls:=.type "range",data:=.fields (List.toArray [.int lo t,.int hi u,.int 1 v])},toks:=tk}:=by
 erw[wpAny_pyIter_range (IsRange.new ..) (small_one h1 h2 h3 h4) ?_];have a:(Inv X pins σ H) {s with heap:=s.heap.push { cls:=.type "range",data:=.fields (List.toArray [.int lo t,.int hi u,.int 1 v])},toks:=tk}:=I.kept λb o e=>bR _ e
 erw[(s.heap.push { cls:=.type "range",data:=.fields (List.toArray [.int lo t,.int hi u,.int 1 v])})⁻¹,[(s.heap.push { cls:=.type "range",data:=.fields (List.toArray [.int lo t,.int hi u,.int 1 v])})⁻¹],_,_,H,J,
  a.kept (t':=tk) λb o e=>bR _ e,yhm _ lo (hi-lo).toNat,?_,λb d=>?_,q]
 .have f:lo+((0:Nat):Int)*1=lo:=(by simp)
  have c:(((hi-lo).toNat:Nat):Int)-((0:Nat):Int)=Builtin.Range.rangeSize lo hi 1:=by rw[rangeSize_one];split<;>omega
  show IsRangeIter _ _ (lo+((0:Nat):Int)*1) ((((hi-lo).toNat:Nat):Int)-((0:Nat):Int)) 1;rwa[f,c,cb _ J]
 .have e:b=(s.heap.push { cls:=.type "range",data:=.fields (List.toArray [.int lo t,.int hi u,.int 1 v])})⁻¹:=by simpa using d
  subst e;erw[a.fpOk (bT _) (a.hok.fresh (bT _))]
def vef(ta:TA):TI:=λσ H R=>ta σ H λvs H1=>∃j:Int,vs=[.int j]/\-(2^62)<=j/\j<2^62/\R (Itr 0 j.toNat) H1
def ua{a:qh}{ta:TA}{p pos:Pos}(hg:Gl X "range")(hm:X.mg "range"=none)(ha:PA X [a] ta)(hs:¬¬(starEach [a] X.env=[(false,eval a X.env)])):PI X tg (.Call (.Name "range" p) [a] [] pos) (vef ta):=by
 intro b s σ H R I h;erw[Call_ (Ļ I hg hm boot_range (PyProof.Rows.callWith_type1 (thn (ha pos b s σ H _ I h) λi m h'=>?_) hs J))];let#[k,l,f,d,c]:=h';let#[j,e,c,g,q]:=c;subst e
 cases d with
 |cons r rr =>
  cases rr;let#[t,J]:=r;erw[call_range_1 (ync f () () c g (by simpa using q))]
def vk4(wi:TI)(g:TG)(tb:TS):TS:=λD σ H=>wi σ H λς H1=>∃W:Nat->Nat->St->Hp->Prop,(∃m,W 0 m σ H1)/\∀i m σ H,W i m σ H ->
 (ς.stop i H/\D.nx σ H)\/(ς.go i H/\∃N:Ζ,(∀σ' H',N σ' H'->∃m',m'<m/\W (i+1) m' σ' H')/\∀x H',ς.yld i H x H'->g x σ H' λσ2 H2=>tb {D with nx:=N,ct:=N,bk:=D.nx} σ2 H2)
noncomputable def ygu(fp:Φ)(h:qg):Θ:=fp.filterMap λb=>(h.get? b).map λo=>(b,o)
def zq{h:qg}{b:qa}{o:Obj}(hb:b∈fp)(e:h.get? b=some o):(b,o)∈ygu fp h:=List.mem_filterMap.mpr #[b,hb,by rw[e];rfl]
def yi8{h:qg}{p:qa×Obj}(hp:p∈ygu fp h):p.1∈fp/\h.get? p.1=some p.2:=by
 let#[b,c,e]:=List.mem_filterMap.mp hp
 cases q:h.get? b with
 |none=>rw[q]at e;cases e
 |some o =>
  rw[q]at e;have a:(b,o)=p:=cr e;subst a;erw[c,q]
def Inv.pinned{s:qb}(I:(Inv X pins σ H) s)(hf:∀b∈fp,yg0 X pins H b)(ho:∀b∈fp,∃o,s.heap.get? b=some o/\∀v,o.data≠.cell v):Inv X (pins++ygu fp s.heap) σ H s :=
 I.pins_of λp g=>(cA.mp g).elim (λz=>I.pin p (cI _ z)) λz=>by
  let#[c,e]:=yi8 z;let#[i,h,f,_]:=hf p.1 c;let#[o,a,d]:=ho p.1 c;rw[e]at a;cases a;erw[e,i,h,f,d]
def Inv.unpinned{pl:Θ}{s:qb}(I:Inv X (pins++pl) σ H s):(Inv X pins σ H) s:=I.pins_of λp a=>I.pin p (cI _ (cZ _ a))
def uy{iter:qh}{wi:TI}{g:TG}{tb:TS}{pos:Pos}(hp:PassesOwn (model X.prog X.w) X.A X.env X.xe)(hc:X.calm=true)(hi:PI X tg iter wi)(hg:PG X tg g)(hb:PSs X body tb)
  (hs:autoParam (∀x,foldedSetIterable iter X.env x=pure x) aE._auto_1):PS X (.For tg iter body [] pos) (vk4 wi g tb):=by
 erw[.mk λa s σ H D I h=>?_,<-wpAny_For (thn (hi a s σ H _ I h) λv s1 h1=>thn h1 λa0 s2 h2=>?_) hs];let#[it,z,Y,ς,H2,e,I2,T,K,U,W,#[m0,w0],F]:=h2;subst e;have l:∀{H':Hp},(∀b∈z,H' b=none)->∀b∈z,yg0 X a H' b:=λhn b hb=>#[hn b hb,(U b hb).2];erw[codeAny_forLoop_any (λn Q=>∃i σ' H',Inv X a σ' H' Q/\Y i Q.heap/\(∀b∈z,H' b=none)/\W i n σ' H') ?_ m0 #[0,σ,H2,I2,K,λb hb=>(U b hb).1,w0]];rintro n Z ⟨i,σ3,G,S,C,t,w3⟩;rcases F i n σ3 G w3 with⟨y,qn⟩|⟨go,N,hN,B⟩
 .erw[wpAny_passesOwn hp (thn (T.done X J J J hc i a Z σ3 G X.xe S (l t) C y) λr s4 ⟨M,I4⟩=>?_)];subst M;erw[wpAny_execs_nil #[σ3,G,I4,qn]]
 .erw[wpAny_passesOwn hp (thn (T.item X J J J hc i a Z σ3 G X.xe S (l t) C go) λr s4 ⟨u,M,h4⟩=>?_)];subst M;erw[wpAny_passesOwn hp (thn h4 λw s5 h'=>?_)];let#[x,R,I5,r5,y5,q,O]:=h';let P:=I5.pinned (l O) (T.obj _ _ q);erw[wpAny_passesOwn hp (thn (hg _ s5 σ3 R x u _ P r5 (B x R y5)) λw s6 ⟨σ6,H6,I6,q6⟩=>?_)];refine wpAny_passesOwn hp (thn (hb _ s6 σ6 H6 _ I6 q6) λf L p=>?_)
  have c:∀{σ7:St}{j:Hp},Inv X (a++ygu z s5.heap) σ7 j L->N σ7 j->∃m,m<n/\∃i σ' H',Inv X a σ' H' L/\Y i L.heap/\(∀b∈z,H' b=none)/\W i m σ' H':=λ{σ7 j}k E=>by
   let#[m',hm,w7]:=hN σ7 j E;erw[m',hm,i+1,σ7,j,k.unpinned,T.keep _ _ _ q λb hb o e=>(k.pin (b,o) (cI _ (cI _ (zq hb e)))).1,λb hb=>?_,w7];let#[o,e,d]:=T.obj _ _ q b hb;erw[(k.pin (b,o) (cI _ (cI _ (zq hb e)))).2.1]
  cases f with
  |next=>let⟨σ7,j,k,E⟩:=p;erw[c k E]
  |cont=>let⟨σ7,j,k,E⟩:=p;erw[c k E]
  |brk=>let⟨σ7,j,k,p⟩:=p;erw[σ7,j,k.unpinned,p]
  |ret v=>let⟨x7,σ7,j,k,r7,p⟩:=p;erw[x7,σ7,j,k.unpinned,r7,p]
def xw{K:xy}{g:TG}{tb:TS}{D:ď}(Pv:Nat->St->Hp->Prop)(h0:Pv 0 σ H)(hl:∀i σ H,i<=↑xs->Pv i σ H->SqL K H a xs)
  (hs:∀i x σ H,xs[i]?=some x->Pv i σ H->g x σ H λσ2 H2=>tb {D with nx:=Pv (i+1),ct:=Pv (i+1),bk:=D.nx} σ2 H2) (hd:∀σ H,Pv ↑xs σ H->D.nx σ H):
  ∃W:Nat->Nat->St->Hp->Prop,(∃m,W 0 m σ H)/\∀i m σ H,W i m σ H ->
   ((Itl K a).stop i H/\D.nx σ H)\/((Itl K a).go i H/\∃N:Ζ,(∀σ' H',N σ' H'->∃m',m'<m/\W (i+1) m' σ' H')/\∀x H',(Itl K a).yld i H x H'->g x σ H' λσ2 H2=>tb {D with nx:=N,ct:=N,bk:=D.nx} σ2 H2):=by
 erw[λi m σ H=>m=↑xs-i/\i<=↑xs/\Pv i σ H,#[xs.length,(by simp),cK _,h0],?_];rintro i m σ H ⟨rfl,b,p⟩;let q:=hl i σ H b p;by_cases hlt:i<↑xs
 .erw[.inr #[#[xs,xs[i],q,by simp[hlt]],Pv (i+1),λσ' H' c=>#[↑xs-(i+1),(),J,hlt,c],λx H' y=>?_]];let#[e,y]:=y;subst e;erw[hs i x σ _ (y xs q) p]
 .have e:i=↑xs:=()
  subst e;erw[.inl #[#[xs,q,bT _],hd σ H p]]
def ζ{lo:Int}{n:Nat}{g:TG}{tb:TS}{D:ď}(Pv:Nat->St->Hp->Prop)(h0:Pv 0 σ H)
  (hs:∀i σ H,i<n->Pv i σ H->g ((lo+i):) σ H λσ2 H2=>tb {D with nx:=Pv (i+1),ct:=Pv (i+1),bk:=D.nx} σ2 H2) (hd:∀σ H,Pv n σ H->D.nx σ H):
  ∃W:Nat->Nat->St->Hp->Prop,(∃m,W 0 m σ H)/\∀i m σ H,W i m σ H ->
   ((Itr lo n).stop i H/\D.nx σ H)\/((Itr lo n).go i H/\∃N:Ζ,(∀σ' H',N σ' H'->∃m',m'<m/\W (i+1) m' σ' H')/\∀x H',(Itr lo n).yld i H x H'->g x σ H' λσ2 H2=>tb {D with nx:=N,ct:=N,bk:=D.nx} σ2 H2):=by
 erw[λi m σ H=>m=n-i/\i<=n/\Pv i σ H,#[n,(by simp),cK _,h0],?_];rintro i m σ H ⟨rfl,b,p⟩;by_cases hlt:i<n
 .erw[.inr #[hlt,Pv (i+1),λσ' H' a=>#[n-(i+1),(),J,hlt,a],λx H' y=>?_]];let#[e,y]:=y;subst e y;erw[hs i σ _ hlt p]
 .have e:i=n:=()
  subst e;erw[.inl #[bT _,hd σ H p]]
abbrev R2:=V->V->Hp->VK->Prop
def OpR(X:Cx)(f:qc->qc->Sem qc)(r:R2):Prop :=
 ∀(pins:Θ)(s:qb)(σ:St)(H:Hp)(x y:V)(v u:qc)(Q:VK),(Inv X pins σ H) s->xq x v->xq y u->r x y H Q ->
  wpAny (model X.prog X.w) X.A (f v u) (EP X pins σ Q) X.xe s
def UnR(X:Cx)(f:qc->Sem qc)(r:V->Hp->VK->Prop):Prop :=
 ∀(pins:Θ)(s:qb)(σ:St)(H:Hp)(x:V)(v:qc)(Q:VK),(Inv X pins σ H) s->xq x v->r x H Q ->
  wpAny (model X.prog X.w) X.A (f v) (EP X pins σ Q) X.xe s
def j6(X:Cx)(f:qc)(r:qj V->Hp->VK->Prop):Prop :=
 ∀(pins:Θ)(s:qb)(σ:St)(H:Hp)(xs:Τ)(us:Ξ)(Q:VK),(Inv X pins σ H) s->w9 xs us->r xs H Q ->
  wpAny (model X.prog X.w) X.A (call f us) (EP X pins σ Q) X.xe s
def tOp(r:R2)(ta tb:TE):TE:=λσ H Q=>ta σ H λx H1=>tb σ H1 λy H2=>r x y H2 Q
def tUn(r:V->Hp->VK->Prop)(ta:TE):TE:=λσ H Q=>ta σ H λx H1=>r x H1 Q
def rI(C:Int->Int->Prop)(g:Int->Int->V):R2:=λx y H Q=>∃i j,x=.int i/\y=.int j/\C i j/\Q (g i j) H
def rI0(g:Int->Int->V):R2:=λx y H Q=>∃i j,x=.int i/\y=.int j/\Q (g i j) H
def rU(g:Int->V):V->Hp->VK->Prop:=λx H Q=>∃i,x=.int i/\Q (g i) H
end
section
mutual
variable{a b c:qh}{tb tc:TE}{pos:Pos}
def vh2(ha:PE X a ta)(hb:PE X b tb){s:qb}{R:V->V->Hp->Prop}(I:(Inv X pins σ H) s)
  (h:ta σ H λx H1=>tb σ H1 λy H2=>R x y H2) {Q:Δ} {f:qc->qc->Sem qc}
  (hf:∀v u s2 x y H2,Inv X pins σ H2 s2->xq x v->xq y u->R x y H2->(wpAny (model X.prog X.w) X.A) (f v u) Q X.xe s2):
  wpAny (model X.prog X.w) X.A (eval a X.env) (λv s₁=>(wpAny (model X.prog X.w) X.A) (eval b X.env) (λu s₂=>(wpAny (model X.prog X.w) X.A) (f v u) Q X.xe s₂) X.xe s₁) X.xe s:=by refine thn (ha pins s σ H _ I h) λv i h'=>?_;let#[x,H1,g,d,e]:=h';erw[thn (hb pins i σ H1 _ g e) λu s2 h'=>?_];let#[y,H2,j,c,k]:=h';erw[hf v u s2 x y H2 j d c k]
def ym{op:Operator}{r:R2}(ho:OpR X (binaryOp op) r)(ha:PE X a ta)(hb:PE X b tb):PE X (.BinOp a op b pos) (tOp r ta tb):=by refine .mk λc s σ H Q I h=>?_;erw[wpAny_BinOp (vh2 ha hb I h λv u e x y d f g i q=>ho c e σ d x y v u Q f g i q)]
def yx3{op:UnaryOp}{r:V->Hp->VK->Prop}(ho:UnR X (unaryOp op) r)(ha:PE X a ta):PE X (.UnaryOp op a pos) (tUn r ta):=by refine .mk λb s σ H Q I h=>?_;erw[UnaryOp_ (thn (ha b s σ H _ I h) λv f ⟨x,c,g,d,e⟩=>ho b f σ c x v Q g d e)]
def opI{f:qc->qc->Sem qc}{C:Int->Int->Prop}{g:Int->Int->Int}
  (rule:∀(i j:Int)(t u:Tok)(s:qb)(Q:Δ)(E:Δ),C i j->Q (.int (g i j) s.toks) {s with toks:=s.toks+1}->(wpAny (model X.prog X.w) X.A) (f (.int i t) (.int j u)) Q E s):
  OpR X f (rI C λi j=>.int (g i j)):=by intro a s σ H x y v u Q I c d h;let#[i,j,J,J,e,q]:=h;let#[t,J]:=c;let#[b,J]:=d;erw[rule i j t b s _ _ e #[.int (g i j),H,I.tok _,#[_,J],q]]
def vkw{f:qc->qc->Sem qc}{g:Int->Int->Int}
  (rule:∀(i j:Int)(t u:Tok)(s:qb)(Q:Δ)(E:Δ),Q (.int (g i j) s.toks) {s with toks:=s.toks+1}->(wpAny (model X.prog X.w) X.A) (f (.int i t) (.int j u)) Q E s):
  OpR X f (rI0 λi j=>.int (g i j)):=by intro a s σ H x y v u Q I d c h;let#[i,j,J,J,q]:=h;let#[t,J]:=d;let#[b,J]:=c;erw[rule i j t b s _ _ #[.int (g i j),H,I.tok _,#[_,J],q]]
def vh3{f:qc->qc->Sem qc}{g:Int->Int->Bool}
  (rule:∀(i j:Int)(t u:Tok)(s:qb)(Q:Δ)(E:Δ),Q (.bool (g i j)) s->(wpAny (model X.prog X.w) X.A) (f (.int i t) (.int j u)) Q E s):
  OpR X f (rI0 λi j=>.bl (g i j)):=by intro a s σ H x y v u Q I d c h;let#[i,j,J,J,q]:=h;let#[t,J]:=d;let#[b,J]:=c;erw[rule i j t b s _ _ #[.bl (g i j),H,I,J,q]]
def vj9(i j:Int):Prop:=(-(2^64)<i/\i<2^64)\/(-(2^64)<j/\j<2^64)
def vj9.ok{i j:Int}(h:vj9 i j):IntMulOk i j:=by
 rcases h with⟨a,b⟩|⟨a,b⟩
 .erw[.of_left (intBits_le_64 a b)]
 .erw[.of_right (intBits_le_64 a b)]
def yha(k:Nat):(0:Int)<=2^k:=by rwa[two_pow_cast,Int.natCast_nonneg _]
def v9:OpR X (binaryOp .Add) (rI0 λi j=>.int (i+j)):=vkw λZ Z Z Z Z Z Z q=>add_int q
def zi:OpR X (binaryOp .Sub) (rI0 λi j=>.int (i-j)):=vkw λZ Z Z Z Z Z Z q=>sub_int q
def xa:OpR X (binaryOp .Mult) (rI vj9 λi j=>.int (i*j)):=opI λZ Z Z Z Z Z Z a q=>mul_int q a.ok
def xb:OpR X (binaryOp .Mod) (rI (λZ j=>0<j) λi j=>.int (i%j)):=opI λi j Z Z Z Z Z a q=>by
 have b:(0:Int)<j:=a;erw[mod_int' () (by rwa[Int.fmod_eq_emod_of_nonneg i (),q])]
def vae:OpR X (binaryOp .RShift) (rI (λZ j=>0<=j) λi j=>.int (i/2^j.toNat)):=opI λi j Z Z Z Z Z a q =>
 rshift_int a (by rwa[Int.fdiv_eq_ediv_of_nonneg i (yha _),q])
def unI{f:qc->Sem qc}{g:Int->Int}
  (rule:∀(i:Int)(t:Tok)(s:qb)(Q:Δ)(E:Δ),Q (.int (g i) s.toks) {s with toks:=s.toks+1}->(wpAny (model X.prog X.w) X.A) (f (.int i t)) Q E s):
  UnR X f (rU λi=>.int (g i)):=by intro a s σ H x v Q I b h;let#[i,J,q]:=h;let#[t,J]:=b;erw[rule i t s _ _ #[.int (g i),H,I.tok _,#[_,J],q]]
def yl0:UnR X (unaryOp .USub) (rU λi=>.int (-i)):=unI λZ Z Z Z Z q=>neg_int q
end
end
mutual
noncomputable def vj8:V->V->Bool
 | .non,.non=>true| .non,.int _=>true| .int _,.non=>true| .non,.bl _=>true| .bl _,.non=>true| .non,.str _=>true| .str _,.non=>true
 | .int _,.int _=>true| .bl _,.bl _=>true| .str _,.str _=>true| .byt _,.byt _=>true
 | .int _,.str _=>true| .str _,.int _=>true| .bl _,.str _=>true| .str _,.bl _=>true
 |_,_=>false
def rEq:R2:=λx y H Q=>vj8 x y=true/\Q (.bl (decide (x=y))) H
def rNe:R2:=λx y H Q=>vj8 x y=true/\Q (.bl (!decide (x=y))) H
def yk0{i j:Int}:decide (V.int i=V.int j)=(i == j):=by rw[Bool.eq_iff_iff];simp
def yrn{i j:Bool}:decide (V.bl i=V.bl j)=(i == j):=by rw[Bool.eq_iff_iff];simp
def ykm{i j:Str}:decide (V.str i=V.str j)=(i == j):=by rw[Bool.eq_iff_iff];simp
def yli{i j:Array UInt8}:decide (V.byt i=V.byt j)=(i.toList == j.toList):=by rw[Bool.eq_iff_iff];cases i;cases j;simp
end
section
mutual
variable{a b c:qh}{tb tc:TE}{pos:Pos}
def wq{s:qb}{Q:VK}{k k':Bool}(I:(Inv X pins σ H) s)(q:Q (.bl k) H)(e:k=k'):EP X pins σ Q (.bool k') s:=by subst e;erw[.bl k,H,I,J,q]
def xo:OpR X (compareOp .Eq) rEq:=by
 intro e s σ H x y v u Q I d a h;let#[c,q]:=h
 cases x with
 |non =>
  cases d
  cases y with
  |non=>cases a;erw[PySem.EqNone.eq_none_none (wq I q (by simp))]
  |bl j=>cases a;erw[PySem.EqNone.eq_none_bool (wq I q (by simp))]
  |int j=>let⟨b,rfl⟩:=a;erw[PySem.EqNone.eq_none_int (wq I q (by simp))]
  |str j=>let⟨b,rfl⟩:=a;erw[PySem.EqNone.eq_none_str (wq I q (by simp))]
  |_=>erw[absurd (show false=true from c) ci]
 |bl i =>
  cases d
  cases y with
  |non=>cases a;erw[PySem.EqNone.eq_bool_none (wq I q (by simp))]
  |bl j=>cases a;erw[eq_bool (wq I q yrn)]
  |str j=>let⟨b,rfl⟩:=a;erw[PySem.EqMixed.eq_bool_str (wq I q (by simp))]
  |_=>erw[absurd (show false=true from c) ci]
 |int i =>
  let#[t,J]:=d
  cases y with
  |non=>cases a;erw[PySem.EqNone.eq_int_none (wq I q (by simp))]
  |int j=>let⟨b,rfl⟩:=a;erw[eq_int (wq I q yk0)]
  |str j=>let⟨b,rfl⟩:=a;erw[PySem.EqMixed.eq_int_str (wq I q (by simp))]
  |_=>erw[absurd (show false=true from c) ci]
 |str i =>
  let#[t,J]:=d
  cases y with
  |non=>cases a;erw[PySem.EqNone.eq_str_none (wq I q (by simp))]
  |bl j=>cases a;erw[PySem.EqMixed.eq_str_bool (wq I q (by simp))]
  |int j=>let⟨b,rfl⟩:=a;erw[PySem.EqMixed.eq_str_int (wq I q (by simp))]
  |str j=>let⟨b,rfl⟩:=a;erw[eq_str (wq I q ykm)]
  |_=>erw[absurd (show false=true from c) ci]
 |byt i =>
  let#[t,J]:=d
  cases y with
  |byt j=>let⟨b,rfl⟩:=a;erw[W.eq_bytes (wq I q yli)]
  |_=>erw[absurd (show false=true from c) ci]
 |_=>cases y<;>erw[absurd (show false=true from c) ci]
def yda:OpR X (compareOp .NotEq) rNe:=by
 intro e s σ H x y v u Q I d a h;let#[c,q]:=h
 cases x with
 |non =>
  cases d
  cases y with
  |non=>cases a;erw[PySem.EqNone.ne_none_none (wq I q (by simp))]
  |bl j=>cases a;erw[PySem.EqNone.ne_none_bool (wq I q (by simp))]
  |int j=>let⟨b,rfl⟩:=a;erw[PySem.EqNone.ne_none_int (wq I q (by simp))]
  |str j=>let⟨b,rfl⟩:=a;erw[PySem.EqNone.ne_none_str (wq I q (by simp))]
  |_=>erw[absurd (show false=true from c) ci]
 |bl i =>
  cases d
  cases y with
  |non=>cases a;erw[PySem.EqNone.ne_bool_none (wq I q (by simp))]
  |bl j=>cases a;erw[ne_bool (wq I q (congrArg not yrn))]
  |str j=>let⟨b,rfl⟩:=a;erw[PySem.EqMixed.ne_bool_str (wq I q (by simp))]
  |_=>erw[absurd (show false=true from c) ci]
 |int i =>
  let#[t,J]:=d
  cases y with
  |non=>cases a;erw[PySem.EqNone.ne_int_none (wq I q (by simp))]
  |int j=>let⟨b,rfl⟩:=a;erw[ne_int (wq I q (congrArg not yk0))]
  |str j=>let⟨b,rfl⟩:=a;erw[PySem.EqMixed.ne_int_str (wq I q (by simp))]
  |_=>erw[absurd (show false=true from c) ci]
 |str i =>
  let#[t,J]:=d
  cases y with
  |non=>cases a;erw[PySem.EqNone.ne_str_none (wq I q (by simp))]
  |bl j=>cases a;erw[PySem.EqMixed.ne_str_bool (wq I q (by simp))]
  |int j=>let⟨b,rfl⟩:=a;erw[PySem.EqMixed.ne_str_int (wq I q (by simp))]
  |str j=>let⟨b,rfl⟩:=a;erw[ne_str (wq I q (congrArg not ykm))]
  |_=>erw[absurd (show false=true from c) ci]
 |byt i =>
  let#[t,J]:=d
  cases y with
  |byt j=>let⟨b,rfl⟩:=a;erw[W.ne_bytes (wq I q (congrArg not yli))]
  |_=>erw[absurd (show false=true from c) ci]
 |_=>cases y<;>erw[absurd (show false=true from c) ci]
def ybh:OpR X (compareOp .Lt) (rI0 λi j=>.bl (decide (i<j))):=vh3 λZ Z Z Z Z Z Z q=>lt_int q
def ρ:OpR X (compareOp .LtE) (rI0 λi j=>.bl (decide (i<=j))):=vh3 λZ Z Z Z Z Z Z q=>le_int q
def yh9:OpR X (compareOp .Gt) (rI0 λi j=>.bl (decide (j<i))):=vh3 λZ Z Z Z Z Z Z q=>gt_int q
def vfs:OpR X (compareOp .GtE) (rI0 λi j=>.bl (decide (j<=i))):=vh3 λZ Z Z Z Z Z Z q=>ge_int q
def yb6:OpR X (compareOp .In) (λx y H Q=>∃i j,x=.str i/\y=.str j/\Q (.bl (!(Builtin.Str.occurrences j i 0 ↑j 1).isEmpty)) H):=by intro a s σ H x y v u Q I c b h;let#[i,j,J,J,q]:=h;let#[t,J]:=c;let#[d,J]:=b;erw[in_str (wq I q J)]
def ycq:OpR X (compareOp .Is) (λx y H Q=>y=.non/\Q (.bl (decide (x=.non))) H):=by
 intro a s σ H x y v u Q I b c h;let#[J,q]:=h;cases c;erw[is_none_gen (wq I q ?_)]
 cases x<;>first
  |(cases b;rfl)
  |(let⟨t,rfl⟩:=b;rfl)
def yep:OpR X (compareOp .IsNot) (λx y H Q=>y=.non/\Q (.bl (!decide (x=.non))) H):=by
 intro a s σ H x y v u Q I b c h;let#[J,q]:=h;cases c;erw[isnot_none_gen (wq I q ?_)]
 cases x<;>first
  |(cases b;rfl)
  |(let⟨t,rfl⟩:=b;rfl)
def yy(b:qh)(h: ~~~(op≠.In))(h2: ~~~(op≠.NotIn)):behindInMarks op b=false:=by
 have c:(op == CmpOp.In)=false:=by cases op<;>first|rfl|erw[absurd J h]
 have a:(op == CmpOp.NotIn)=false:=by cases op<;>first|rfl|erw[absurd J h2]
 delta behindInMarks
 rw[c,a]
 cases b<;>first|rfl|(show (_ && (false || false) && _)=false;rw[Bool.false_or,Bool.and_false,Bool.false_and])
def zg{r:R2}(ho:OpR X (compareOp op) r)(ha:PE X a ta)(hb:PE X b tb)(hm:behindInMarks op b=false):PE X (.Compare a [op] [b] pos) (tOp r ta tb):=by refine .mk λc s σ H Q I h=>?_;erw[wpAny_Compare1 (vh2 ha hb I h λv u e x y d f g i q=>ho c e σ d x y v u Q f g i q) hm]
def yxz(t:TE):TT:=λσ H Q=>t σ H λx H'=>∃k,x=.bl k/\Q k H'
def yq{r:R2}(ho:OpR X (compareOp op) r)(ha:PE X a ta)(hb:PE X b tb)(hm:behindInMarks op b=false):PT X (.Compare a [op] [b] pos) (yxz (tOp r ta tb)):=by
 erw[.mk λd s σ H Q I h=>?_]
 erw[wpAny_isTrue_Compare1 (thn (ha d s σ H _ I h) λv q ⟨x,l,w,o,p⟩=>thn (hb d q σ l _ w p) λu m ⟨y,i,n,f,A⟩ =>
  thn (ho d m σ i x y v u _ n o f A) λc C ⟨z,B,g,j,k,e,t⟩=>?_) hm]
 subst e;cases j;erw[dm #[B,g,t]]
def yls(r r':R2)(ta tb tc:TE):TE:=λσ H Q=>ta σ H λx H1=>tb σ H1 λy H2=>r x y H2 λz H3=>∃k,z=.bl k/\
 (if k=true then tc σ H3 λw' H4=>r' y w' H4 Q else Q (.bl false) H3)
def æ{op':CmpOp}{r r':R2}(ho:OpR X (compareOp op) r)(ho':OpR X (compareOp op') r')(ha:PE X a ta)(hb:PE X b tb)(hc:PE X c tc)
  (hm:lastMarks [op,op'] [b,c]=false:=by with_unfolding_all rfl):PE X (.Compare a [op,op'] [b,c] pos) (yls r r' ta tb tc):=by
 erw[.mk λf s σ H Q I h=>?_]
 erw[Compare_chain (thn (ha f s σ H _ I h) λv ς ⟨x,G,w,p,D⟩=>chain_link (thn (hb f ς σ G _ w D) λu C ⟨y,K,E,l,M⟩ =>
  thn (ho f C σ K x y v u _ E p l M) λd L ⟨z,g,i,m,k,e,j⟩=>?_)) hm]
 subst e;cases m;erw[dm ?_]
 cases k with
 |false=>erw[ite_ff #[.bl false,g,i,J,j]]
 |true=>erw[ite_tt (chain_last (thn (hc f L σ g _ i j) λo n ⟨t,B,q,A,F⟩=>ho' f n σ B y t u o Q q l A F))]
def yfu{op':CmpOp}{r r':R2}(ho:OpR X (compareOp op) r)(ho':OpR X (compareOp op') r')(ha:PE X a ta)(hb:PE X b tb)(hc:PE X c tc)
  (hm:lastMarks [op,op'] [b,c]=false:=by with_unfolding_all rfl):PT X (.Compare a [op,op'] [b,c] pos) (yxz (yls r r' ta tb tc)):=by
 erw[.mk λf s σ H Q I h=>?_]
 erw[isTrue_chain (thn (ha f s σ H _ I h) λv P ⟨x,O,w,p,F⟩=>test_link (thn (hb f P σ O _ w F) λu D ⟨y,R,ς,l,U⟩ =>
  thn (ho f D σ R x y v u _ ς p l U) λd S ⟨z,g,i,m,k,e,j⟩=>?_)) hm]
 subst e;cases m;erw[dm ?_]
 cases k with
 |false =>
  let#[Y,G,T]:=j;cases G;erw[ite_ff #[g,i,T]]
 |true =>
  erw[ite_tt (test_last (thn (hc f S σ g _ i j) λo n ⟨t,C,q,B,N⟩=>thn (ho' f n σ C y t u o _ q l B N) λZ s5 h'=>?_))];let#[W,A,E,L,k2,K,M]:=h';subst K;cases L;erw[dm #[A,E,M]]
def ycv:(sizeLine:Nat)<2^63:=by rw[sizeLine_eq];decide
def vg:OpR X (binaryOp .Add) (λx y H Q=>∃i j,x=.str i/\y=.str j/\↑i+↑j<=sizeLine/\Q (.str (i++j)) H):=by intro a s σ H x y v u Q I c d h;let#[i,j,J,J,e,q]:=h;let#[t,J]:=c;let#[b,J]:=d;erw[add_str (λb f=>#[.str (i++j),H,I.tok _,#[_,J],q]) e]
def ynt(b:qh):Prop:=∀o i,subscripted b false o i=operate [o,i] (getItem o i)
def xh(ha:PE X a ta)(hb:PE X b tb)(hs:ynt b):
  PE X (.Subscript a b pos) (tOp (λx y H Q=>∃z i c,x=.str z/\y=.int i/\0<=i/\i<2^63/\i<↑z/\z.cps[i.toNat]?=some c/\Q (.str ⟨#[c]⟩) H) ta tb):=by
 erw[.mk λd s σ H Q I h=>?_,<-Subscript_ (vh2 ha hb I h λv u j x y f o m n q=>?_)];let#[z,i,c,J,J,l,w,k,p,q]:=q;let#[t,J]:=m;let#[A,J]:=n;have e:seqIndex? i ↑z=some i.toNat:=PySem.StrLaws.seqIndex_nonneg l k
 erw[tail_any (typeIs_str j z t) slot_str_getitem.lookup (getItem_str (c:=c) (by
  have g:decide (i< -(2^63:Int))=false:=cj ();have r:decide (i ≥ 2^63)=false:=cj ();rw[g,r]<;>rfl) (by rwa[e,p]) #[.str ⟨#[c]⟩,f,o.tok _,#[_,J],q]) (hs _ _)]
def č{x:V}(r:w9 [x] us):∃u,us=[u]/\xq x u:=by
 cases r with
 |cons r1 r2=>cases r2;exists _,J,r1
def ypt{x:V}(r:w9 [x,y] us):∃u w',us=[u,w']/\xq x u/\xq y w':=by
 cases r with
 |cons r1 r2 =>
  cases r2 with
  |cons r3 r4=>cases r4;erw[_,_,J,r1,r3]
def Ĳ(hc:X.calm=true):j6 X (.builtin "max") (λxs H Q=>∃i j,xs=[.int i,.int j]/\Q ((if j > i then j else i):) H):=by
 intro a s σ H xs d Q I r h;let#[i,j,J,q]:=h;let#[u,e,J,#[t,J],#[f,J]]:=ypt r;erw[max_two_ints (I.ok.hd hc) λb c k=>#[_,H,I.kept k,?_,q]];by_cases hj:j > i
 .rw[if_pos hj,if_pos hj];erw[_,rfl]
 .rw[if_neg hj,if_neg hj];erw[_,rfl]
def Ĭ(hc:X.calm=true):j6 X (.builtin "min") (λxs H Q=>∃i j,xs=[.int i,.int j]/\Q ((if j<i then j else i):) H):=by
 intro a s σ H xs d Q I r h;let#[i,j,J,q]:=h;let#[u,e,J,#[t,J],#[f,J]]:=ypt r;erw[min_two_ints (I.ok.hd hc) λb c k=>#[_,H,I.kept k,?_,q]];by_cases hj:j<i
 .rw[if_pos hj,if_pos hj];erw[_,rfl]
 .rw[if_neg hj,if_neg hj];erw[_,rfl]
def yjl:j6 X (.type "int") (λxs H Q=>(∃i,xs=[.int i]/\Q (i:) H)\/∃k,xs=[.bl k]/\Q ((if k then 1 else 0):) H):=by
 intro a s σ H xs c Q I r h;rcases h with⟨i,rfl,q⟩|⟨k,rfl,q⟩
 .let#[u,J,t,J]:=č r;erw[call_int_int #[.int i,H,I,#[_,J],q]]
 .let#[u,J,b]:=č r;cases b;erw[call_int_bool #[.int (if k then 1 else 0),H,I.tok _,#[_,J],q]]
def ybv:j6 X (.type "str") (λxs H Q=>∃i,xs=[.int i]/\i.natAbs.log2<1920/\Q (.str (toString i)) H):=by intro a s σ H xs c Q I r h;let#[i,J,b,q]:=h;let#[u,J,t,J]:=č r;erw[PySem.P.str_of_int b #[.str _,H,I.tok _,#[_,J],q]]
end
end
mutual
structure yyd(h:qg)(x dx C:qa)(mA:Ε):Prop where
 obj:h.get? x=some (W.instObj C dx)
 ns:h.Ns1 dx mA
 ne:dx≠x
end
set_option tactic.hygienic true in
def yjt{h:qg}{dx:qa}(n:h.Ns1 dx mA):∃od,h.get? dx=some od/\∀name,W.lookIn name od=some (mA name):=by
 let#[o,c,l,i,d,g,_,f]:=n;erw[o,i,λname=>?_];let e:=f name;unfold nsFind findBy at e;rw[<- Array.find?_toList]at e;unfold W.lookIn;rw[d];dsimp only
 split
 .rename_i y q
  rw[q]at e;erw[congrArg some e]
 .rename_i q
  rw[q]at e
  have a:c.toList.any (·.refKey)=false:=by
   rw[List.any_eq_false];intro y j;let#[z,t,b]:=g y (Array.mem_toList_iff.mp j);simp[DictEntry.refKey,b]
  have k:¬c.toList.any (·.refKey)=true:=by rwa[a,ci]
  rwa[if_neg k,congrArg some e]
def yyd.look{h:qg}{x dx:qa}(I:yyd h x dx C mA):∃od,W.InstAt h x (W.instObj C dx) C (some od)/\∀name,W.lookIn name od=some (mA name) :=
 let #[od,ho,hl]:=yjt I.ns
 #[od,#[I.obj,J,J,ho],hl]
section
mutual
variable{prog:qi}{w:qe}{A:qf}{s:qb}{K:xy}{x dx f:qa}{name:Str}{v:qc}
def yur{expr:Bool}(X:K.In s.heap)(I:yyd s.heap x dx C mA)(hg:W.plainGet K C name=true)(hh:W.hasDictIn K C=true)
  (ha:W.findIn K ⇑C name=some none) (hv:mA name=some v) (hv':W.handedIn v=true) (h:Q v {s with toks:=s.toks+1}):
  wpAny (model prog w) A (getAttr ⇑x name expr) Q E s:=by let#[b,ς,a]:=I.look;erw[W.get_value X ς (W.plainGet_of hg).1 (W.findObj_own hh ha J (by rw[a,hv])) hv' h]
def yn9{pl:Sem Bool}{Q:qc×qj qc->qb->Prop}(X:K.In s.heap)(I:yyd s.heap x dx C mA)(hg:W.plainGet K C name=true)
  (hf:W.findIn K ⇑C name=some (some ⇑f)) (ht:W.isFn K ⇑f=true) (hv:mA name=none) (h:Q (.ref f,[.ref x]) s):
  wpAny (model prog w) A (getMethod ⇑x name pl) Q E s:=by let#[a,ς,b]:=I.look;erw[W.method_fn X ς (W.plainGet_of hg).1 (W.plainGet_of hg).2 hf (beq_iff_eq.mp ht) (by show (W.lookIn name a).map (·.isSome)=some false;rw[b,hv];rfl) h]
def ywg{ns:Ρ}{Q:Unit->qb->Prop}(X:K.In s.heap)(I:yyd s.heap x dx C mA)
  (hs:W.findIn K ⇑C "__setattr__"=some (some (.builtin "object.__setattr__"))) (hp:W.plainOver K C=true) (ht:W.takerIn K C name=some none) (hh:W.hasDictIn K C=true)
  (hw:PySem.Within mA ns) (hsz:↑ns<=sizeLine)
  (h:∀h',yyd h' x dx C (λy=>if y=name then some v else mA y)->Heap.SameBut dx s.heap h'->Q ⟨⟩ {s with heap:=h',toks:=s.toks+2}):
  wpAny (model prog w) A (setAttr ⇑x name v) Q E s:=by let#[p,ς,q]:=I.look;erw[W.set_plain X ς hs (W.osa_open (s:={s with toks:=s.toks+1}) (r:=none) X ς hp ht λb=>?_)];let#[o,k,f]:=W.any_some hh;have m:s.heap.get? x=some #[.ref C,some dx,.plain,#[]]:=I.obj;erw[bv (bS (bv (bv (wpAny_loadPart m (bv (W.Looks.here (s:={s with toks:=s.toks+1}) (W.looks_clsIn X k) ?_))))))];rwa[f,bS (a:=some dx) (bv (bS (bv ?_)))];erw[wpAny_nsSet1 (s:={s with toks:=s.toks+1}) I.ns λh' d c=>?_];let#[n,l,j,e,g,i]:=d.count (PySem.Within.cons name v hw);erw[bv (wpAny_lookBehind e (by rwa[g,pastItsLine_dict (cN i (by rw[cn];omega))]) ?_),<-bS (h _ #[(c.2 _ (Ne.symm I.ne)).trans I.obj,d,I.ne] c)]
def yf6{R:Result->qb->Prop}{vs:Ξ}(X:K.In s.heap)(hm:W.makesIn K C=true)
  (hi:W.findIn K ⇑C "__init__"=some (some ⇑f)) (hf:W.typeIn K ⇑f=some (.type "function"))
  (h:codeAny (model prog w) (A.under (.builtin "type.__call__" #[.ref C::vs,kw])) (.call ⇑f #[.ref (s.heap⁻¹+1)::vs,kw]) (W.InitBack (s.heap⁻¹+1) R)
   {s with heap:=(s.heap.push W.emptyDict).push (W.instObj C s.heap⁻¹)}):
  codeAny (model prog w) A (.call ⇑C #[vs,kw]) R s:=by let#[c,g,d,t,b]:=s;erw[W.make_core (W.makes_of X hm) (W.looks_findIn X hi) (λa=>W.bind_fn X a hf) (.inl J) h]
end
end
mutual
noncomputable def É(f:Str)(v:V):qj (Str×V)->qj (Str×V)
 |[]=>[(f,v)]
 |(g,x)::r=>if g=f then (g,v)::r else (g,x)::É f v r
theorem Ģ(f g:Str)(v:V):∀fs:Ι,(É f v fs).lookup g=if g=f then some v else fs.lookup g
 |[]=>by
  show List.lookup g [(f,v)]=_;by_cases h:g=f
  .have a:(g == f)=true:=beq_iff_eq.mpr h;simp only[List.lookup,a,if_pos h]
  .have a:(g == f)=false:=dH.mpr h;simp only[List.lookup,a,if_neg h]
 |(k,x)::r=>by
  let b:=Ģ f g v r;rw[show É f v ((k,x)::r)=(if k=f then (k,v)::r else (k,x)::É f v r)from rfl];by_cases hk:k=f
  .rw[if_pos hk];by_cases h:g=k
   .have a:(g == k)=true:=beq_iff_eq.mpr h;simp only[List.lookup,a,if_pos (h.trans hk)]
   .have a:(g == k)=false:=dH.mpr h;simp only[List.lookup,a,if_neg (λe:g=f=>h (e.trans hk.symm))]
  .rw[if_neg hk];by_cases h:g=k
   .have a:(g == k)=true:=beq_iff_eq.mpr h;simp only[List.lookup,a,if_neg (λe:g=f=>hk (h.symm.trans e))]
   .have a:(g == k)=false:=dH.mpr h;simp only[List.lookup,a];erw[b]
theorem ĭ(f:Str)(v:V):∀fs:Ι,f∈(É f v fs).map (·.1)/\∀g,g∈fs.map (·.1)->g∈(É f v fs).map (·.1)
 |[]=>#[by simp[É],λg h=>by simp at h]
 |(k,x)::r=>by
  let#[a,b]:=ĭ f v r;rw[show É f v ((k,x)::r)=(if k=f then (k,v)::r else (k,x)::É f v r)from rfl];by_cases hk:k=f
  .rw[if_pos hk];subst hk;exists (by simp),λg h=>by simpa using h
  .rw[if_neg hk];exists ?_,λg h=>?_
   .rw[cO];erw[cF _ a]
   .rw[cO]at h⊢;rcases bZ.mp h with e|e
    .erw[bZ.mpr (.inl e)]
    .erw[cF _ (b g e)]
theorem ĩ(f:Str)(v:V):∀fs:Ι,↑(É f v fs)<=↑fs+1
 |[]=>by simp[É]
 |(k,x)::r=>by
  let a:=ĩ f v r;rw[show É f v ((k,x)::r)=(if k=f then (k,v)::r else (k,x)::É f v r)from rfl];by_cases hk:k=f
  .rw[if_pos hk,cn,cn];omega
  .rw[if_neg hk,cn,cn];omega
def ydc.some_of{o:ql qc}(r:ydc (some v) o):∃u,o=some u/\xq v u:=by
 cases o with
 |none=>erw[(show False from r).elim]
 |some u=>erw[u,J,r]
def ydc.none_of{o:ql qc}(r:ydc none o):o=none:=by
 cases o with
 |none=>rfl
 |some u=>erw[(show False from r).elim]
def yka(r:xq v u):W.handedIn u=true:=by
 cases v with
 |non=>cases (show u=Value.none from r);rfl
 |bl b=>cases (show u=Value.bool b from r);rfl
 |int i=>let⟨t,e⟩:=(show ∃t,u=Value.int i t from r);cases e;rfl
 |str x=>let⟨t,e⟩:=(show ∃t,u=Value.str x t from r);cases e;rfl
 |byt b=>let⟨t,e⟩:=(show ∃t,u=Value.bytes b t from r);cases e;rfl
 |flt b=>let⟨t,e⟩:=(show ∃t,u=Value.float b t from r);cases e;rfl
 |ref a=>cases (show u=Value.ref a from r);rfl
 |ty n=>cases (show u=Value.type n from r);rfl
end
section
variable{w:qe}{h:qg}{dx:qa}{fs fs':Ι}
def ybc(hok:HOk P w H h)(e:H a∩C dx fs):∃mA,yyd h a dx C mA/\(∀f,ydc (fs.lookup f) (mA f))/\PySem.Within mA (fs.map (·.1))/\↑fs<=1000/\H dx=some (.own a):=by let#[d,z,c,b,mA,n,r,q]:=(show xn P w H h a (.ins C dx fs)from hok a _ e);erw[mA,#[b,n,c],r,q,z,d]
end
mutual
structure Cls(K:xy)(C:qa):Prop where
 pg:W.plainGet K C Str.empty=true
 hd:W.hasDictIn K C=true
 po:W.plainOver K C=true
 sa:W.findIn K ⇑C "__setattr__"=some (some (.builtin "object.__setattr__"))
def Cls.get{K:xy}(c:Cls K C)(f:Str):W.plainGet K C f=true:=c.pg
def NoAttr(K:xy)(C:qa)(f:Str):Prop:=W.findIn K ⇑C f=some none
def NoAttr.taker{K:xy}{f:Str}(n:NoAttr K C f):W.takerIn K C f=some none:=by unfold W.takerIn;rw[show W.findIn K ⇑C f=some none from n];rfl
structure Con(K:xy)(C:qa)(f:Str)(v:V)(u:qc):Prop where
 at_:W.findIn K ⇑C f=some (some u)
 rel:xq v u
 get:W.specialIn K u "__get__"=some none
 cp:W.copiedNames.contains f=false
structure Meth(K:xy)(C:qa)(m:Str)(f:qa):Prop where
 at_:W.findIn K ⇑C m=some (some ⇑f)
 fn:W.isFn K ⇑f=true
 kp:W.keepIn K ⇑f=true
end
section
mutual
variable{s:qb}{dx:qa}{fs:Ι}{f:Str}{A:qf}
def yhz{b:Bool}(I:(Inv X pins σ H) s)(e:H a∩C dx fs)(c:Cls X.K C)(n:NoAttr X.K C f)(l:fs.lookup f=some v)
  (h:∀u s',(Inv X pins σ H) s'->xq v u->Q u s'):wpAny (model X.prog X.w) A (getAttr ⇑a f b) Q E s:=by let#[i,O,r,_,_,_]:=ybc I.hok e;let#[u,g,d]:=ydc.some_of (v:=v) (o:=i f) (by rwa[<- l,r f]);erw[yur I.kIn O (c.get f) c.hd n g (yka d) (h u _ (I.tok _) d)]
def χ{m:Str}{g:qa}{pl:Sem Bool}{Q:qc×qj qc->qb->Prop}(I:(Inv X pins σ H) s)(e:H a∩C dx fs)(c:Cls X.K C)(k:Meth X.K C m g)(l:fs.lookup m=none)
  (h:Q (.ref g,[.ref a]) s):wpAny (model X.prog X.w) A (getMethod ⇑a m pl) Q E s:=by let#[d,O,r,_,_,_]:=ybc I.hok e;have b:d m=none:=ydc.none_of (by rwa[<- l,r m]);erw[yn9 I.kIn O (c.get m) k.at_ k.fn b h]
def yhv{Q:Unit->qb->Prop}(I:(Inv X pins σ H) s)(e:H a∩C dx fs)(c:Cls X.K C)(n:NoAttr X.K C f)(hl:↑fs<1000)(ry:xq y u)
  (h:∀s',Inv X pins σ (upd H a (.ins C dx (É f y fs))) s'->Q ⟨⟩ s'):wpAny (model X.prog X.w) A (setAttr ⇑a f u) Q E s:=by
 let#[i,O,r,j,_,k]:=ybc I.hok e;have B:↑(fs.map (·.1))<=sizeLine:=by rw[bL,sizeLine_eq];omega
 erw[ywg I.kIn O c.sa c.po n.taker c.hd j B λm d p=>h _ ?_];have l:∃o,m.get? dx=some o:=let ⟨o,_,_,e',_⟩:=d.ns;#[o,e'];erw[I.write (x:=a) (e:=dx) (by rwa[e,True.intro]) (.inr k) (λb q t z=>(p.2 b t).trans z) l ?_];exists by rwa[yk O.ne,k],?_,O.ne,d.obj,_,d.ns,λg=>?_,λg v=>?_
 .have:=ĩ f y fs;omega
 .show ydc ((É f y fs).lookup g) (if g=f then some u else i g);rw[Ģ];by_cases q:g=f
  .rw[if_pos q,if_pos q];erw[ry]
  .rw[if_neg q,if_neg q];erw[r g]
 .by_cases q:g=f
  .rw[q];erw[(ĭ f y fs).1]
  .erw[(ĭ f y fs).2 g (j g λz=>v ?_)];show (if g=f then some u else i g)=none;rwa[if_neg q,z]
def Inv.made(I:(Inv X pins σ H) s):Inv X pins σ (upd (upd H s.heap⁻¹ (.own (s.heap⁻¹+1))) (s.heap⁻¹+1) (.ins C s.heap⁻¹ []))
  {s with heap:=(s.heap.push W.emptyDict).push (W.instObj C s.heap⁻¹)}:=by
 have c:(s.heap.push W.emptyDict).get? s.heap⁻¹=some W.emptyDict:=cb s.heap J
 have j:((s.heap.push W.emptyDict).push (W.instObj C s.heap⁻¹)).get? (s.heap⁻¹+1)=some (W.instObj C s.heap⁻¹):=by
  have:=cb (s.heap.push W.emptyDict) (o:=W.instObj C s.heap⁻¹) J
  rwa[Heap.size_push]at this
 have f:(s.heap.push W.emptyDict).Ns s.heap⁻¹ (λZ=>none):=#[W.emptyDict,#[],_,c,J,(λe g=>absurd g (by simp)),λZ=>rfl];let i:=I.laid (a:=s.heap⁻¹) (o:=.own (s.heap⁻¹+1)) (h':=s.heap.push W.emptyDict) (t':=s.toks) (λb u q=>bR _ q) (bT _) #[_,c];erw[i.laid (a:=s.heap⁻¹+1) (o:=.ins C s.heap⁻¹ []) (t':=s.toks) (λb u q=>bR _ q) (Nat.le_of_eq (Heap.size_push _ _)) ?_];have d:s.heap⁻¹≠s.heap⁻¹+1:=cR (Nat.lt_succ_self _);exists by rw[yk d,ya],cK _,d,j,λZ=>none,(Heap.Ns1.of_empty f).at λo q=>bR _ q,λZ=>True.intro,λy h=>absurd J h
def yxc{prog:qi}{w:qe}{env:Env}{pos:Pos}(hb:attributeBase e f env (eval e env)=eval e env)
  (h:wpAny (model prog w) A (eval e env) (λo s₁=>wpAny (model prog w) A (getAttr o f true) Q E s₁) E s):wpAny (model prog w) A (eval (.Attribute e f pos) env) Q E s :=
 Attribute_any_ h (by rw[arm_eval_Attribute,hb])
end
end
def vhw(K:xy)(ta:TE)(f:Str):TE:=λσ H Q=>ta σ H λx H1=>∃a C dx fs v,x=.ref a/\H1 a∩C dx fs/\Cls K C/\NoAttr K C f/\fs.lookup f=some v/\Q v H1
def vkl(K:xy)(ta tv:TE)(f:Str):TS:=λD σ H=>tv σ H λy H1=>ta σ H1 λx H2=>∃a C dx fs,x=.ref a/\H2 a∩C dx fs/\Cls K C/\NoAttr K C f/\↑fs<1000/\
 D.nx σ (upd H2 a (.ins C dx (É f y fs)))
section
variable{o value:qh}{f:Str}{pos pos' tpos:Pos}{tv:TE}
def z0(he:PE X e ta)(hb:attributeBase e f X.env (eval e X.env)=eval e X.env):PE X (.Attribute e f pos) (vhw X.K ta f):=by refine .mk λb s σ H Q I h=>?_;erw[yxc hb (thn (he b s σ H _ I h) λu r h'=>?_)];let#[x,g,o,m,a,C,w,t,v,d,k,c,n,l,q]:=h';subst d;obtain rfl:u=Value.ref a:=m;erw[yhz o k c n l λy p i j=>#[v,g,i,j,q]]
def y8(ha:PE X o ta)(hv:PE X value tv)(hs:swapsWith value (some (.Attribute o f pos')) pos.line X.env=pure false):PS X (.Assign [.Attribute o f pos'] value pos) (vkl X.K ta tv f):=by refine .mk λb s σ H D I h=>?_;erw[plainObj_wpAny_Assign_Attribute (thn (hv b s σ H _ I h) λu k ⟨y,g,t,r,q⟩=>thn (ha b k σ g _ t q) λp A h'=>?_) hs];let#[x,w,i,m,a,C,E,B,d,j,c,n,l,v]:=h';subst d;obtain rfl:p=Value.ref a:=m;erw[yhv i j c n l r λz e=>#[σ,_,e,v]]
end
section
variable{s:qb}{A:qf}{c:qc}{b:Bool}
inductive jc(K:xy)(H:Hp):V->qc->Prop where
 |non:jc K H .non (.type "NoneType")
 |bl (x:Bool):jc K H (.bl x) (.type "bool")
 |int (i:Int):jc K H (.int i) (.type "int")
 |str (x:Str):jc K H (.str x) (.type "str")
 |flt (x:UInt64):jc K H (.flt x) (.type "float")
 |lst {a:qa} {xs:Τ} (e:H a\xs):jc K H (.ref a) (.type "list")
 |frz {a:qa} {o:Obj} {xs:Τ} (e:H a=some (.frz o (.lst xs))):jc K H (.ref a) (.type "list")
 |tup {a:qa} {xs:Τ} (e:H a∪xs):jc K H (.ref a) (.type "tuple")
 |dK {a:qa} {kvs:qj (Key×V)} (e:H a=some (.dK kvs)):jc K H (.ref a) (.type "dict")
 |dT {a:qa} {kvs:qj (qj Key×V)} (e:H a=some (.dT kvs)):jc K H (.ref a) (.type "dict")
 |ins {a C dx:qa} {fs:Ι} (e:H a∩C dx fs) (cl:Cls K C) (ha:W.findIn K (.ref C) "__class__"=some (some (.builtin "object.__class__")))
   (hn:W.specialIn K (.builtin "object.__class__") "__get__"=some (some (.builtin "getset_descriptor.__get__"))) (htk:W.takesIn K (.builtin "object.__class__")=some true)
   (hm:W.mroIn K C (.type "object")=some true):jc K H ⇑a ⇑C
def yi5{x:V}{t:qc}(I:(Inv X pins σ H) s)(rx:xq x u)(ty:jc X.K H x t)(e:W.kitOne X.K t c=some b)(h:∀tk,Q (.bool b) {s with toks:=tk}):
  wpAny (model X.prog X.w) A (call (.builtin "isinstance") [u,c]) Q E s:=by
 cases ty with
 |non=>cases (show u=Value.none from rx);erw[W.kia_one W.kitx_none I.kIn True.intro e (λz=>nomatch z) h]
 |bl y=>cases (show u=Value.bool y from rx);erw[W.kia_one W.kitx_bool I.kIn True.intro e (λz=>nomatch z) h]
 |int i=>let⟨t,q⟩:=(show ∃t,u=Value.int i t from rx);cases q;erw[W.kia_one W.kitx_int I.kIn True.intro e (λz=>nomatch z) h]
 |str y=>let⟨t,q⟩:=(show ∃t,u=Value.str y t from rx);cases q;erw[W.kia_one W.kitx_str I.kIn True.intro e (λz=>nomatch z) h]
 |flt y=>let⟨t,q⟩:=(show ∃t,u=Value.float y t from rx);cases q;erw[W.kia_one W.kitx_float I.kIn True.intro e (λz=>nomatch z) h]
 | @lst a xs ea =>
  cases (show u=Value.ref a from rx);let#[_,_,n,_,d]:=(show xn X.prog X.w H s.heap a (.lst xs)from I.hok a _ ea)
  erw[W.kia_one W.kitx_list I.kIn #[_,d,J] e (λz=>nomatch z) h]
 | @frz a ob xs ea =>
  cases (show u=Value.ref a from rx);let#[_,_,_,n,_,d]:=(show xn X.prog X.w H s.heap a (.frz ob (.lst xs))from I.hok a _ ea)
  erw[W.kia_one W.kitx_list I.kIn #[_,d,J] e (λz=>nomatch z) h]
 | @tup a xs ea =>
  cases (show u=Value.ref a from rx);let#[_,_,_,p]:=(show xn X.prog X.w H s.heap a (.tup xs)from I.hok a _ ea);let#[o,d,f,_]:=p
  erw[W.kia_one W.kitx_tuple I.kIn #[o,d,f] e (λz=>nomatch z) h]
 | @dK a kvs ea =>
  cases (show u=Value.ref a from rx);let#[_,_,k,_,p]:=(show xn X.prog X.w H s.heap a (.dK kvs)from I.hok a _ ea);let#[o,j,g,d,f,_]:=p
  erw[W.kia_one W.kitx_dict I.kIn #[o,d,f.1] e (λz=>nomatch z) h]
 | @dT a kvs ea =>
  cases (show u=Value.ref a from rx);let#[_,_,xs,_,o,j,g,d,f,_]:=(show xn X.prog X.w H s.heap a (.dT kvs)from I.hok a _ ea)
  erw[W.kia_one W.kitx_dict I.kIn #[o,d,f.1] e (λz=>nomatch z) h]
 | @ins a C dx fs ea cl ha hn htk hm =>
  cases (show u=Value.ref a from rx);let#[m,O,_]:=ybc I.hok ea;let#[l,ς,_]:=O.look
  erw[W.kia_one (W.kitx_own (cl.get _) cl.hd ha hn htk hm) I.kIn ς e (λz=>nomatch z) h]
end
mutual
structure jx(k:Nat)(A:qf):Prop where
 hd:A.handled=none
 dp:A.depth+3*k+5<recursionLimit
 un:A.units+16*k+200<cLine
def jx.mono{j k:Nat}{A:qf}(r:jx k A)(h:j<=k):jx j A:=#[r.hd,by have:=r.dp;omega,by have:=r.un;omega]
theorem jx.deeper{k:Nat}{A:qf}(r:jx (k+1) A)(env:Env):jx k (A.deeper env) :=
 #[r.hd,by have:=r.dp;show A.depth+1+3*k+5<_;omega,by have:=r.un;show A.units+3+16*k+200<_;omega]
def yh6{A:qf}:(A.under (.builtin "type.__call__" #[.ref C::us,kw])).depth=A.depth+1:=by first|rfl|simp[Around.under,Code.weight,Code.isCreation,Code.isGuard,Code.isCaller,Code.frames,Code.isFrame,guardIds]
def yh3{A:qf}:(A.under (.builtin "type.__call__" #[.ref C::us,kw])).units=A.units+1:=by first|rfl|simp[Around.under,Code.cUnits,Code.frames,Code.isFrame]
def jx.make{k:Nat}{A:qf}(r:jx (k+1) A)(C:qa)(us:Ξ)(kw:qj (Str×qc)):jx k (A.under (.builtin "type.__call__" #[.ref C::us,kw])) :=
 #[r.hd,by have:=r.dp;rw[yh6];omega,by have:=r.un;rw[yh3];omega]
theorem jx.depth{k:Nat}{A:qf}(r:jx k A):A.depth<recursionLimit:=by have:=r.dp;omega
theorem jx.units{k:Nat}{A:qf}(r:jx k A):A.units+64<cLine:=by have:=r.un;omega
def yie:TA:=λZ H Q=>Q [] H
def ymv(ta:TE)(tr:TA):TA:=λσ H Q=>ta σ H λx H1=>tr σ H1 λxs H2=>Q (x::xs) H2
end
section
mutual
variable{t:TA}{pos:Pos}
def ub:PA X [] yie:=.mk λZ Z Z Z H Q I h=>Calls.spliced_nil #[[],H,I,.nil,h]
def μ(ha:PE X e te)(hr:PA X es t)(hs:¬¬((starEach (e::es) X.env=(false,eval e X.env)::starEach es X.env))):PA X (e::es) (ymv te t):=by refine .mk λb a s σ H Q I h=>?_;rw[hs];show wpAny _ _ (spliced ((false,eval e X.env)::backTo b (starEach es X.env))) _ _ s;erw[Calls.spliced_cons (thn (ha a s σ H _ I h) λu l h'=>?_)];let#[x,f,m,i,j]:=h';erw[thn (hr b a l σ f _ m j) λo p ⟨k,d,g,c,n⟩=>#[x::k,d,g,.cons i c,n]]
def vkv(t:TA):TE:=λσ H Q=>t σ H λxs H1=>↑xs<=sizeLine/\∀p,H1 p=none->Q ⇑p (upd H1 p (.tup xs))
def vkj(t:TA):TE:=λσ H Q=>t σ H λxs H1=>↑xs<=sizeLine/\∀p,H1 p=none->Q ⇑p (upd H1 p (.lst xs))
def zj{x1}(h:PA X es t):PE X (.Tuple es x1 pos) (vkv t):=by refine .mk λa s σ H Q I j=>?_;erw[wpAny_Tuple_spliced (thn (h pos a s σ H _ I j) λi c ⟨k,d,f,r,z,q⟩=>#[by rwa[<- ↑r,z],?_])];have g:d c.heap⁻¹=none:=f.hok.fresh (bT _);erw[.ref c.heap⁻¹,upd d c.heap⁻¹ (.tup k),f.laid (t':=c.toks) (λb u e=>bR _ e) (bT _) ?_,J,q _ g,<-z,i,r,#[_,cb _ J,J,_,J]]
def wk(h:PA X es t):PE X (.List es pos) (vkj t):=by refine .mk λa s σ H Q I j=>?_;erw[wpAny_List_spliced (thn (h pos a s σ H _ I j) λi c ⟨k,d,f,r,z,q⟩=>#[by rwa[<- ↑r,z],?_])];have g:d c.heap⁻¹=none:=f.hok.fresh (bT _);erw[.ref c.heap⁻¹,upd d c.heap⁻¹ (.lst k),f.laid (t':=c.toks) (λb u e=>bR _ e) (bT _) ?_,J,q _ g,<-z,i,0,r,cb _ J]
end
end
mutual
abbrev Sp:=qj V->Hp->VK->XK->Prop
abbrev CXT:=qj Env->Hp->qb->XK->qc->qb->Prop
variable{CX:CXT}
structure yx8(P:qi)(w:qe)(K:xy)(mg:Ε)(base:qg)(A:qf)(outer:qj Env)(s:qb)(H:Hp):Prop where
 frames:A.frames=some outer
 mod:Mod K mg base
 bs:∀b o,base.get? b=some o->s.heap.get? b=some o/\H b=none
 bsz:base⁻¹<=s.heap⁻¹
 funs:s.heap.FunFrames base outer
 frf:∀b∈frs outer,H b=none
 hok:HOk P w H s.heap
 bare:AllBare s.gens
def CE(outer:qj Env)(P:qi)(w:qe)(H:Hp)(s:qb)(Q:VK)(u:qc)(s':qb):Prop :=
 ∃v H',s'.os=s.os/\AllBare s'.gens/\Un (frs outer) [] H H' s.heap s'.heap/\HOk P w H' s'.heap/\xq v u/\Q v H'
def CR(CX:CXT)(outer:qj Env)(P:qi)(w:qe)(H:Hp)(s:qb)(Q:VK)(E:XK)(r:Result)(s':qb):Prop :=
 match r with
 | .ok (.ret u)=>CE outer P w H s Q u s'
 | .ok _=>False
 | .error e=>CX outer H s E e s'
structure vq(P:qi)(w:qe)(K:xy)(mg:Ε)(base:qg)(CX:CXT)(k:Nat)(f:qa)(fd:FuncData)(ps:Ρ)(sp:Sp):Prop where
 len:∀vs H Q E,sp vs H Q E->↑vs=↑ps
 run:∀(A:qf)(outer:qj Env)(s:qb)(H:Hp)(args:Args)(us:Ξ)(vs:Τ)(Q:VK)(E:XK),jx k A->yx8 P w K mg base A outer s H->BindsTo s fd args (ps.zip us)->w9 vs us->sp vs H Q E ->
  codeAny (model P w) A (.call ⇑f args) (CR CX outer P w H s Q E) s
def vq.imp{w:qe}{K:xy}{mg:Ε}{base:qg}{k:Nat}{f:qa}{ps:Ρ}{sp sp':Sp}(F:vq P w K mg base CX k f fd ps sp)
  (h:∀vs H Q E,sp' vs H Q E->sp vs H Q E):vq P w K mg base CX k f fd ps sp' :=
 #[λvs H Q E q=>F.len vs H Q E (h _ _ _ _ q),λA a s H b c vs Q E g d i e j=>F.run A a s H b c vs Q E g d i e (h _ _ _ _ j)]
def yx8.make{w:qe}{K:xy}{mg:Ε}{base:qg}{A:qf}{outer:qj Env}{s:qb}(e:yx8 P w K mg base A outer s H)(C:qa)(us:Ξ)(kw:qj (Str×qc)):
  yx8 P w K mg base (A.under (.builtin "type.__call__" #[.ref C::us,kw])) outer s H:=#[by first|erw[e.frames]|(simpa[Around.under,Code.envs,Code.isFrame,pushEnvs]using e.frames),e.mod,e.bs,e.bsz,e.funs,e.frf,e.hok,e.bare]
end
section
variable{s:qb}
def Inv.env0(I:(Inv X pins σ H) s):yx8 X.prog X.w X.K X.mg X.base X.A X.stack s H :=
 #[I.ok.frames,I.ok.mod,I.bs,cN I.ok.bsz I.sz,I.stack,I.stkFree,I.hok,I.bare]
def Inv.after{Q:VK}(I:(Inv X pins σ H) s)(h:CE X.stack X.prog X.w H s Q u s'):EP X pins σ Q u s':=by let#[v,k,f,a,i,c,r,q]:=h;let#[j,g,d,t,e]:=s';obtain rfl:e=s.os:=f;erw[v,k,I.call (h':=j) (g':=g) (d':=d) (t':=t) (ch:=[]) i c a (λb z=>absurd z (by simp)),r,q]
end
mutual
def yxy(sp:Sp)(dvs:Τ)(E:XK)(t:TA):TE:=λσ H Q=>t σ H λvs H1=>sp (vs++dvs) H1 Q E
def Ŏ(C:qa)(m:Str)(sp:Sp)(dvs:Τ)(E:XK)(ta:TE)(t:TA):TE:=λσ H Q=>ta σ H λx H1=>∃a dx fs,x=.ref a/\H1 a∩C dx fs/\fs.lookup m=none/\
 t σ H1 λvs H2=>sp (x::(vs++dvs)) H2 Q E
def yx0(C:qa)(sp:Sp)(dvs:Τ)(E:XK)(t:TA):TE:=λσ H Q=>t σ H λvs H1=>∀x dx,H1 x=none->H1 dx=none->dx≠x ->
 sp (.ref x::(vs++dvs)) (upd (upd H1 dx (.own x)) x (.ins C dx [])) (λv H2=>v=.non/\Q ⇑x H2) E
def u4(K:xy)(fd:FuncData)(ps:Ρ)(ds:Ξ):Prop :=
 ∀(s:qb)(us:Ξ),K.In s.heap->↑(us++ds)=↑ps->BindsTo s fd #[us,[]] (ps.zip (us++ds))
def u4.all{K:xy}{ps:Ρ}(h:∀us:Ξ,↑us=↑ps->bindArgs fd #[us,[]]=pure (ps.zip us)):u4 K fd ps []:=λs us Z a=>by
 rw[dw]at a⊢;erw[.of_eq (h us a)]
def Ĉ(CX:CXT)(X:Cx)(E:XK):Prop:=∀(pins:Θ)(σ:St)(H:Hp)(s:qb)(e:qc)(s':qb),(Inv X pins σ H) s->CX X.stack H s E e s'->X.xe e s'
end
section
mutual
variable{k:Nat}{f:qa}{ps:Ρ}{sp:Sp}{dvs:Τ}{ds:Ξ}{E:XK}{x m:Str}{p pos apos:Pos}{o:qh}{t:TA}
def yms{s:qb}{Q:VK}(F:vq X.prog X.w X.K X.mg X.base CX k f fd ps sp)(hr:jx k X.A)(hb:u4 X.K fd ps ds)(hd:w9 dvs ds)(hx:Ĉ CX X E)
  (I:(Inv X pins σ H) s) (r:w9 vs us) (h:sp (vs++dvs) H Q E):(wpAny (model X.prog X.w) X.A) (call ⇑f us) (EP X pins σ Q) X.xe s:=by
 have b:w9 (vs++dvs) (us++ds):=r.append hd;have c:↑(us++ds)=↑ps:=by rwa[<- ↑b,F.len _ _ _ _ h]
 erw[wpAny_call (codeAny_mono (F.run X.A X.stack s H #[us,[]] (us++ds) (vs++dvs) Q E hr I.env0 (hb s us I.kIn c) b h) λr d a=>?_)]
 cases r with
 |error e=>erw[hx pins σ H s e d I a]
 |ok fl =>
  cases fl with
  |ret u=>erw[I.after a]
  |next=>erw[False.elim a]
  |brk=>erw[False.elim a]
  |cont=>erw[False.elim a]
def yel(F:vq X.prog X.w X.K X.mg X.base CX k f fd ps sp)(hr:jx k X.A)(hg:Gl X x)(hm:X.mg x∣f)(hk:W.keepIn X.K ⇑f=true)(hb:u4 X.K fd ps ds)(hd:w9 dvs ds)(hx:Ĉ CX X E)
  (ha:PA X (e::es) t) (hdb: ~~~(((x == ("__debug__":Str))=false))) (he:¬¬((starEach (e::es) X.env=(false,eval e X.env)::starEach es X.env))) (hpl:¬¬(((backTo pos (starEach es X.env)).any (·.1)=false))):
  PE X (.Call (.Name x p) (e::es) [] pos) (yxy sp dvs E t):=by refine .mk λa s σ H Q I h=>?_;erw[wpAny_Call_Name_kw (jm I hg hm ?_ hdb),<-W.callWith_K (h₀:=X.base) I.ok.mod.kin hk (thn (ha pos a s σ H _ I h) λc i ⟨d,g,b,r,q⟩=>#[b.kIn,?_]) he hpl,<-yms F hr hb hd hx b r q]
def wv{pl:Sem Bool}(he:PE X o ta)(c:Cls X.K C)(hm:Meth X.K C m f)(F:vq X.prog X.w X.K X.mg X.base CX k f fd ps sp)(hr:jx k X.A)(hb:u4 X.K fd ps ds)(hd:w9 dvs ds)(hx:Ĉ CX X E)(ha:PA X (e::es) t)
  (hst:¬¬((starEach (e::es) X.env=(false,eval e X.env)::starEach es X.env))) (hpl:¬¬(((backTo pos (starEach es X.env)).any (·.1)=false)))
  (ht:eval (.Call (.Attribute o m apos) (e::es) [] pos) X.env=(do
   let ov <- eval o X.env
   standAt apos.atName
   let (f,first) <- holding [ov] (getMethod ov m pl)
   callWith pos f first (backTo pos (starEach (e::es) X.env)) (backToKw pos (keywordEach [] X.env))):=by rfl):
  PE X (.Call (.Attribute o m apos) (e::es) [] pos) (Ŏ C m sp dvs E ta t):=by
 erw[.mk λb s σ H Q I h=>?_,<-W.methodCall_KW (pl:=pl) (thn (he b s σ H _ I h) λu p h'=>?_) ht];let#[x,j,g,v,a,G,D,i,n,l,q]:=h';subst i;obtain rfl:u=Value.ref a:=v;erw[χ g n c hm l ?_]
 erw[W.callWith_K (first:=[.ref a]) (h₀:=X.base) I.ok.mod.kin hm.kp (thn (ha pos b p σ j _ g q) λus B ⟨vs,z,d,r,y⟩=>#[d.kIn,?_]) hst hpl]
 erw[yms (us:=.ref a::us) (vs:=.ref a::vs) F hr hb hd hx d (.cons J r) y]
def vj{pl:Sem Bool}(he:PE X o ta)(c:Cls X.K C)(hm:Meth X.K C m f)(F:vq X.prog X.w X.K X.mg X.base CX k f fd ps sp)(hr:jx k X.A)(hb:u4 X.K fd ps ds)(hd:w9 dvs ds)(hx:Ĉ CX X E)
  (ht:eval (.Call (.Attribute o m apos) [] [] pos) X.env=(do
   let ov <- eval o X.env
   standAt apos.atName
   let (f,first) <- holding [ov] (getMethod ov m pl)
   callWith pos f first (backTo pos (starEach [] X.env)) (backToKw pos (keywordEach [] X.env))):=by rfl):
  PE X (.Call (.Attribute o m apos) [] [] pos) (Ŏ C m sp dvs E ta yie):=by
 erw[.mk λb s σ H Q I h=>?_,<-W.methodCall_KW (pl:=pl) (thn (he b s σ H _ I h) λu n h'=>?_) ht];let#[x,j,d,i,a,r,p,e,g,l,q]:=h';subst e;obtain rfl:u=Value.ref a:=i;erw[χ d g c hm l ?_]
 erw[W.callWith_K0 (first:=[.ref a]) d.kIn hm.kp (yms (us:=[.ref a]) (vs:=[.ref a]) F hr hb hd hx d (.cons J .nil) q)]
structure Mk(K:xy)(C f:qa):Prop where
 makes:W.makesIn K C=true
 init:W.findIn K ⇑C "__init__"=some (some ⇑f)
 fn:W.isFn K ⇑f=true
 kp:W.keepIn K ⇑C=true
def yfa{s:qb}{Q:VK}(M:Mk X.K C f)(F:vq X.prog X.w X.K X.mg X.base CX k f fd ps sp)(hr:jx (k+1) X.A)(hb:u4 X.K fd ps ds)(hd:w9 dvs ds)
  (hx:Ĉ CX X E) (I:(Inv X pins σ H) s) (r:w9 vs us)
  (h:∀x dx,H x=none->H dx=none->dx≠x->sp (.ref x::(vs++dvs)) (upd (upd H dx (.own x)) x (.ins C dx [])) (λv H2=>v=.non/\Q ⇑x H2) E):
  wpAny (model X.prog X.w) X.A (call ⇑C us) (EP X pins σ Q) X.xe s:=by
 let d:=h (s.heap⁻¹+1) s.heap⁻¹ (I.hok.fresh (Nat.le_succ _)) (I.hok.fresh (bT _)) (cR (Nat.lt_succ_self _));let b:=Inv.made (C:=C) I;have c:w9 (V.ref (s.heap⁻¹+1)::(vs++dvs)) (Value.ref (s.heap⁻¹+1)::(us++ds)):=.cons J (r.append hd)
 have l:↑(Value.ref (s.heap⁻¹+1)::us++ds)=↑ps:=by
  let e:=↑c;rw[F.len _ _ _ _ d]at e;erw[e.symm]
 erw[wpAny_call (yf6 (f:=f) I.kIn M.makes M.init (beq_iff_eq.mp M.fn) (codeAny_mono (F.run _ X.stack _ _ #[Value.ref (s.heap⁻¹+1)::us,[]] (Value.ref (s.heap⁻¹+1)::(us++ds)) _ _ E (hr.make C us [])
  (b.env0.make C us []) (hb _ (Value.ref (s.heap⁻¹+1)::us) b.kIn l) c d) λr i a=>?_))]
 cases r with
 |error e=>erw[hx pins σ _ _ e i b a]
 |ok fl =>
  cases fl with
  |ret u =>
   let#[v,m,j,o,g,n]:=b.after a;subst g;erw[o,#[V.ref (s.heap⁻¹+1),m,j,J,n]]
  |next=>erw[False.elim a]
  |brk=>erw[False.elim a]
  |cont=>erw[False.elim a]
def jl(M:Mk X.K C f)(F:vq X.prog X.w X.K X.mg X.base CX k f fd ps sp)(hr:jx (k+1) X.A)(hg:Gl X x)(hm:X.mg x∣C)(hb:u4 X.K fd ps ds)(hd:w9 dvs ds)(hx:Ĉ CX X E)
  (ha:PA X (e::es) t) (hdb: ~~~(((x == ("__debug__":Str))=false))) (he:¬¬((starEach (e::es) X.env=(false,eval e X.env)::starEach es X.env))) (hpl:¬¬(((backTo pos (starEach es X.env)).any (·.1)=false))):
  PE X (.Call (.Name x p) (e::es) [] pos) (yx0 C sp dvs E t):=by refine .mk λa s σ H Q I h=>?_;erw[wpAny_Call_Name_kw (jm I hg hm ?_ hdb),<-W.callWith_K (h₀:=X.base) I.ok.mod.kin M.kp (thn (ha pos a s σ H _ I h) λc i ⟨d,g,b,r,q⟩=>#[b.kIn,?_]) he hpl,<-yfa M F hr hb hd hx b r q]
def je(M:Mk X.K C f)(F:vq X.prog X.w X.K X.mg X.base CX k f fd ps sp)(hr:jx (k+1) X.A)(hg:Gl X x)(hm:X.mg x∣C)(hb:u4 X.K fd ps ds)(hd:w9 dvs ds)(hx:Ĉ CX X E)
  (hdb: ~~~(((x == ("__debug__":Str))=false))):PE X (.Call (.Name x p) [] [] pos) (yx0 C sp dvs E yie):=by refine .mk λa s σ H Q I h=>?_;erw[wpAny_Call_Name_kw (jm I hg hm ?_ hdb),<-W.callWith_K0 I.kIn M.kp (yfa (us:=[]) M F hr hb hd hx I .nil h)]
end
end
section
variable{k:Nat}{f:qa}{ps ks:Ρ}{sp:Sp}{E:XK}{x m:Str}{p pos apos kpos:Pos}{o:qh}{kws:qj Keyword}{t tk:TA}{nm:Υ}
structure vkd(K:xy)(fd:FuncData)(ps ks:Ρ)(g:qj qc->qj qc->qj qc)(gV:qj V->qj V->qj V):Prop where
 to:∀(s:qb)(us ws:Ξ),K.In s.heap->↑(g us ws)=↑ps->BindsTo s fd #[us,ks.zip ws] (ps.zip (g us ws))
 rel:∀{vs:Τ}{us:Ξ}{zs:Τ}{ws:Ξ},w9 vs us->w9 zs ws->w9 (gV vs zs) (g us ws)
variable{g:qj qc->qj qc->qj qc}{gV:qj V->qj V->qj V}
end
mutual
structure yi(N P:Ρ)(sc:Scope):Prop where
 kind:sc.kind=.function
 co:sc.isCoroutine=false
 gen:sc.isGenerator=false
 nd:N.Nodup
 pre:N.take ↑P=P
 par:∀x∈P,sc.names.lookup x=some .local\/sc.names.lookup x=some .cell
 nofree:∀y∈sc.names,y.2≠.free
theorem yce{kindOf:Str->ql NameKind}{x:Str}:∀{binds:qj (Str×qc)}{m:Ε},(∀v,(x,v)∉binds)->bindL kindOf binds m x=m x
 |[],_,_=>rfl
 |(n,v)::r,m,h=>by
  unfold bindL;rw[yce λw a=>h w (cF _ a)]
  split
  .have:x≠n:=by rintro rfl;exact h v cG
   simp[this]
  .rfl
theorem ycp{kindOf:Str->ql NameKind}{x:Str}:∀{binds:qj (Str×qc)}{m:Ε},(∀v,(x,v)∉binds)->bindC kindOf binds m x=m x
 |[],_,_=>rfl
 |(n,v)::r,m,h=>by
  unfold bindC;rw[ycp λw a=>h w (cF _ a)]
  split
  .rfl
  .have:x≠n:=by rintro rfl;exact h v cG
   simp[this]
theorem yb9{kindOf:Str->ql NameKind}{x:Str}{v:qc}:∀{P:Ρ}{vs:Ξ}{i:Nat}{m:Ε},P.Nodup->P[i]?=some x->vs[i]?=some v->kindOf x=some .local ->
  bindL kindOf (P.zip vs) m x=some v
 |[],_,_,_,_,h,_,_=>by simp at h
 |_::_,[],_,_,_,_,h,_=>by simp at h
 |p::P,w::vs,0,m,nd,h1,h2,hk=>by
  simp at h1 h2;subst h1;subst h2;show bindL kindOf ((p,w)::P.zip vs) m p=_;unfold bindL;rw[yce λv a=>(dC.mp nd).1 (List.of_mem_zip a).1,if_pos hk];simp
 |p::P,w::vs,i+1,m,nd,h1,h2,hk=>by
  show bindL kindOf ((p,w)::P.zip vs) m x=_;unfold bindL;erw[yb9 (i:=i) (dC.mp nd).2 (by simpa using h1) (by simpa using h2) hk]
theorem yco{kindOf:Str->ql NameKind}{x:Str}{v:qc}:∀{P:Ρ}{vs:Ξ}{i:Nat}{m:Ε},P.Nodup->P[i]?=some x->vs[i]?=some v->kindOf x≠some .local ->
  bindC kindOf (P.zip vs) m x=some v
 |[],_,_,_,_,h,_,_=>by simp at h
 |_::_,[],_,_,_,_,h,_=>by simp at h
 |p::P,w::vs,0,m,nd,h1,h2,hk=>by
  simp at h1 h2;subst h1;subst h2;show bindC kindOf ((p,w)::P.zip vs) m p=_;unfold bindC;rw[ycp λv a=>(dC.mp nd).1 (List.of_mem_zip a).1,if_neg hk];simp
 |p::P,w::vs,i+1,m,nd,h1,h2,hk=>by
  show bindC kindOf ((p,w)::P.zip vs) m x=_;unfold bindC;erw[yco (i:=i) (dC.mp nd).2 (by simpa using h1) (by simpa using h2) hk]
noncomputable def Ā(N:Ρ)(vs:Τ):St:=vs.map some++List.replicate (↑N-↑vs) none
noncomputable def vt(CX:CXT)(P:qi)(w:qe)(K:xy)(mg:Ε)(base:qg)(N:Ρ)(qual:Str)(scope:Scope)(f:qa)(cd:qc)(A:qf)(outer:qj Env)(s:qb)(H:Hp)(E:XK):Cx where
 prog:=P
 w:=w
 K:=K
 mg:=mg
 base:=base
 A:=A.deeper (envOfC qual scope s.heap⁻¹ f cd)
 N:=N
 s₀:=s
 H₀:=H
 env:=envOfC qual scope s.heap⁻¹ f cd
 outer:=outer
 stack:=envOfC qual scope s.heap⁻¹ f cd::outer
 ex:=[]
 calm:=true
 fn:=λZ=>true
 pn:=[]
 xe:=λe s'=>wpAny (model P w) (A.deeper (envOfC qual scope s.heap⁻¹ f cd)) (leaving (envOfC qual scope s.heap⁻¹ f cd) e) (λZ s''=>CX outer H s E e s'') (λe' s''=>CX outer H s E e' s'') s'
def yfg{sc:Scope}{n:Nat}{x:Str}(h:sc.names.lookup x=some .cell):∃c,(cellsFrom n sc.names []).lookup x=some c:=by have q:=W.cellsFrom_some sc.names n [] (.inl h);erw[Option.isSome_iff_exists.mp q]
def yjb{w:qe}{K:xy}{mg:Ε}{base:qg}{N ps:Ρ}{qual:Str}{scope:Scope}{f:qa}{cd:qc}{A:qf}{outer:qj Env}{s s1:qb}{E:XK} 
  (S:yi N ps scope) (hd:A.handled=none) (e0:yx8 P w K mg base A outer s H) (hl:↑vs=↑ps) (r:w9 vs us)
  (x:InCallC s s.heap⁻¹ (bindL (envOfC qual scope s.heap⁻¹ f cd).kindOf (ps.zip us) λZ=>none) (cellsFrom (s.heap⁻¹+1) scope.names []) (bindC (envOfC qual scope s.heap⁻¹ f cd).kindOf (ps.zip us) λZ=>none) s1):
  Inv (vt CX P w K mg base N qual scope f cd A outer s H E) [] (Ā N vs) H s1:=by
 have F:↑ps<=↑N:=by have:=congrArg List.length S.pre;rw[cz]at this;omega
 let#[o,I,J,B]:=x.done;have j:∀b:qa,b∉(vt CX P w K mg base N qual scope f cd A outer s H E).ex:=λb z=>absurd (show b∈([]:Φ)from z) (by simp)
 erw[#[e0.mod,S.kind,J,J,bT _,λy z c o d=>?_,λy g=>?_,λy c Z h=>?_,λZ=>hd,Around.frames_deeper e0.frames,.inr #[J,J],λb z=>absurd z (j b),e0.bs,e0.bsz,λb Z Z=>j b,λb z=>absurd z (j b),e0.funs,e0.frf],
  rfl,e0.bare,Un.kept B,#[_,x.toInCall.ns,λi y v o d ς=>?_],λy c h=>#[_,x.cell y c h],e0.hok.fresh (bT _),λy c h=>?_,λp l=>absurd (show p∈([]:Θ)from l) (by simp),e0.hok.kept B,?_]
 .erw[name_of_addr x.apart (PySem.mem_of_lookup o) (PySem.mem_of_lookup d)]
 .have g:scope.names.lookup y=some .cell\/scope.names.lookup y=some .free:=g;rcases g with g|g
  .erw[yfg g]
  .erw[absurd J (S.nofree _ (PySem.mem_of_lookup g))]
 .erw[Nat.le_of_lt (x.above y c (PySem.mem_of_lookup h))]
 .have t:i<↑vs:=by
   unfold Ā at d;by_cases t:i<↑vs
   .erw[t]
   .rw[dz (by simpa using t)]at d;rw[List.getElem?_replicate]at d
    split at d<;>cases d
  have D:vs[i]?=some v:=by
   unfold Ā at d;rw[dA (by simpa using t),bU]at d
   cases e:vs[i]? with
   |none=>rw[e]at d;cases d
   |some a=>rw[e]at d;cases d;rfl
  let#[u,C,G]:=r.get D
  have l:ps[i]?=some y:=by
   rwa[<- S.pre,List.getElem?_take_of_lt (),o]
  have m:ps.Nodup:=by rwa[<- S.pre,S.nd.sublist (List.take_sublist _ _)]
  erw[u,G,?_];rcases S.par y (ck l)with k|k
  .erw[.inl #[k,yb9 m l C k]]
  .let#[c,e]:=yfg (n:=s.heap⁻¹+1) k;erw[.inr #[.inl k,c,e,?_]];let q:=x.cell y c e;rw[yco m l C (by show scope.names.lookup y≠_;rw[k];decide)]at q;erw[q]
 .erw[e0.hok.fresh (Nat.le_of_lt (x.above y c (PySem.mem_of_lookup h)))]
 .unfold Ā;show _=↑N;rw[bQ,bL,List.length_replicate];omega
def ypq{w:qe}{K:xy}{mg:Ε}{base:qg}{k:Nat}{f:qa}{name qual:Str}{params:Arguments}{scope:Scope}{dV kV doc pm cdv ct oc:qc}{an od:ql qa}
  {osl:Array (ql qc)} {N ps:Ρ} {sp:Sp} (lk:K.lookup f=some #[oc,od,.func (W.fnOf name qual params body scope dV kV doc pm an cdv ct),osl]) (hcd:W.codeIn K cdv qual=true) (S:yi N ps scope)
  (len:∀vs H Q E,sp vs H Q E->↑vs=↑ps)
  (hbody:∀(A:qf)(outer:qj Env)(s:qb)(H:Hp)(vs:Τ)(Q:VK)(E:XK),jx k (A.deeper (envOfC qual scope s.heap⁻¹ f cdv))->sp vs H Q E ->
   ∃t,PSs (vt CX P w K mg base N qual scope f cdv A outer s H E) body t/\t { nx:=λZ H'=>Q .non H',rt:=Q} (Ā N vs) H):
  vq P w K mg base CX (k+1) f (W.fnOf name qual params body scope dV kV doc pm an cdv ct) ps sp:=by
 erw[len,λA outer s H p R vs Q E m d D r h=>?_];let L:=len _ _ _ _ h;have z:K.In s.heap:=d.mod.kin.keeps λb o e=>(d.bs b o e).1;have j:s.heap.NoLimit:=d.mod.nolimit.keeps λb o e=>(d.bs b o e).1
 have a:∀y∈ps.zip R,scope.names.lookup y.1=some .local\/(scope.names.lookup y.1=some .cell/\((cellsFrom (s.heap⁻¹+1) scope.names []).lookup y.1).isSome=true):=λ⟨n,v⟩ M=>by
  rcases S.par n (List.of_mem_zip M).1 with q|q
  .erw[.inl q]
  .erw[.inr #[q,W.cellsFrom_some _ _ _ (.inl q)]]
 erw[codeAny_call_function m.depth (z _ _ lk) J S.co S.gen J (W.codeRec_of z hcd) (D _ _ _ _ ?_),<-wpAny_newFunctionEnv_cells S.kind a λG T B x=>?_];subst T;erw[j.keeps x.toInCall.keep,codeAny_func ?_];let#[t,C,F]:=hbody A outer s H vs Q E (m.deeper _) h;have I:Inv (vt CX P w K mg base N qual scope f cdv A outer s H E) [] (Ā N vs) H B:=yjb S m.hd d L r x;erw[c7 (C [] B (Ā N vs) H _ I F) (λO i c=>?_) λe i c=>c]
 have g:∀{σ':St}{H':Hp}{v:V}{u:qc},Inv (vt CX P w K mg base N qual scope f cdv A outer s H E) [] σ' H' i->xq v u->Q v H'->CE outer P w H s Q u i :=
  λ{σ' H' v u}ς l q=>#[v,H',ς.os,ς.bare,ς.base,ς.hok,l,q]
 cases O with
 |ret u =>
  let#[v,σ',H',ς,l,q]:=c;erw[g ς l q]
 |next =>
  let#[σ',H',ς,q]:=c;erw[g (v:=V.non) (u:=Value.none) ς J q]
 |brk =>
  let#[_,_,_,q]:=c;erw[False.elim q]
 |cont =>
  let#[_,_,_,q]:=c;erw[False.elim q]
end
section
variable{x:Str}{p pos:Pos}{t:TA}{id T:String}{r:qj V->Hp->VK->Prop}
def tCB(r:qj V->Hp->VK->Prop)(t:TA):TE:=λσ H Q=>t σ H λvs H1=>r vs H1 Q
def ypg(hc:j6 X (.builtin id) r)(hg:Gl X x)(hm:X.mg x=none)(hv:bootBuiltins x=some (.builtin id))(ha:PA X (e::es) t)(hn: ~~~(x≠"__name__"))(hdb: ~~~(((x == ("__debug__":Str))=false)))
  (he:¬¬((starEach (e::es) X.env=(false,eval e X.env)::starEach es X.env))) (hpl:¬¬(((backTo pos (starEach es X.env)).any (·.1)=false))):PE X (.Call (.Name x p) (e::es) [] pos) (tCB r t):=by refine .mk λa s σ H Q I h=>?_;erw[wpAny_Call_Name_kw (Ļ I hg hm hv ?_ hn hdb),<-PyProof.Rows.callWith_builtin1 (thn (ha pos a s σ H _ I h) λb i ⟨c,d,j,f,g⟩=>hc a i σ d c b Q j f g) he hpl]
def yjv(hc:j6 X (.type T) r)(hg:Gl X x)(hm:X.mg x=none)(hv:bootBuiltins x=some (.type T))(ha:PA X (e::es) t)(hn: ~~~(x≠"__name__"))(hdb: ~~~(((x == ("__debug__":Str))=false)))
  (he:¬¬((starEach (e::es) X.env=(false,eval e X.env)::starEach es X.env))) (hpl:¬¬(((backTo pos (starEach es X.env)).any (·.1)=false))):PE X (.Call (.Name x p) (e::es) [] pos) (tCB r t):=by refine .mk λa s σ H Q I h=>?_;erw[wpAny_Call_Name_kw (Ļ I hg hm hv ?_ hn hdb),<-PyProof.Rows.callWith_type1 (thn (ha pos a s σ H _ I h) λb i ⟨c,d,j,f,g⟩=>hc a i σ d c b Q j f g) he hpl]
end
end L2
namespace HT
open PySem PyProof.Rows
section
open PySem.SeqAt
open PySem.AutoSeq1 (wpAny_loadPart')
open PySem.MeetsSeq PySem.MeetsSeq2 PySem.MeetsSeq3
end
section
mutual
variable{prog:qi}{w:qe}{A:qf}{E:Δ}{s:qb}
noncomputable def sIx(n d:Nat):ql Int->Nat
 |none=>d
 |some v=>if v<0 then (v+(n:Int)).toNat else min v.toNat n
def sIx_none(n d:Nat):sIx n d none=d:=rfl
def sIx_nat(n d k:Nat):sIx n d (some (k:Int))=min k n:=by show (if (k:Int)<0 then ((k:Int)+(n:Int)).toNat else min (k:Int).toNat n)=min k n;rw[if_neg (),Int.toNat_natCast]
def va9(n d:Nat)(hd:d<=n)(o:ql Int):sIx n d o<=n:=by
 cases o with
 |none=>erw[hd]
 |some v =>
  show (if v<0 then (v+(n:Int)).toNat else min v.toNat n)<=n;by_cases hv:v<0
  .rw[if_pos hv];omega
  .rw[if_neg hv];erw[Nat.min_le_right _ _]
def clip_eq(v:Int)(n d:Nat):(if v<0 then max (v+(n:Int)) 0 else min v (n:Int))=((sIx n d (some v):Nat):Int):=by
 show (if v<0 then max (v+(n:Int)) 0 else min v (n:Int))=(((if v<0 then (v+(n:Int)).toNat else min v.toNat n):Nat):Int);by_cases hv:v<0
 .simp only[if_pos hv];erw[(Int.ofNat_toNat _).symm]
 .simp only[if_neg hv];omega
def yhg(lo hi:ql Int)(n:Nat):Builtin.Slice.sliceAdjust lo hi 1 (n:Int)=(((sIx n 0 lo:Nat):Int),((sIx n n hi:Nat):Int)):=by
 have a:¬((1:Int)<0):=()
 unfold Builtin.Slice.sliceAdjust;simp only[a,if_false];erw[Prod.ext ?_ ?_]
 .cases lo with
  |none=>rfl
  |some v=>erw[clip_eq v n 0]
 .cases hi with
  |none=>rfl
  |some v=>erw[clip_eq v n n]
def yht(i j:Nat):Builtin.Slice.slicePlaces (i:Int) (j:Int) 1=j-i:=by
 unfold Builtin.Slice.slicePlaces;have a:(1:Int) > 0:=()
 simp only[a,if_true,Int.ediv_one]
 split<;>omega
def š{v:qc}{o:ql Int}{Q:ql Int->qb->Prop}(p:IsPart v o)(h:Q o s):wpAny (model prog w) A (Builtin.Slice.slicePartIndex v) Q E s:=by
 cases p with
 |none=>erw[slicePart_none h]
 |int i t=>erw[slicePart_int h]
def j8{sl:qa}{vl vu:qc}{lo hi:ql Int}{n:Nat}{Q:Int×Int×Nat->qb->Prop}(hs:s.heap.IsSliceOf sl vl vu .none)(pl:IsPart vl lo)(pu:IsPart vu hi)
  (h:Q (((sIx n 0 lo:Nat):Int),1,sIx n n hi-sIx n 0 lo) s):wpAny (model prog w) A (Builtin.Slice.sliceApplied ⇑sl (pure (n:Int))) Q E s:=by
 let#[d,a,c,b]:=id hs;unfold Builtin.Slice.sliceApplied Builtin.Slice.sliceFields;erw[bv (bv (cT a b (x:=vl) J (bv (cT a b (x:=vu) J (bv (cT a b (x:=.none) J (bS ?_))))))),<-bv (slicePart_none ?_)];show wpAny _ _ (if ((1:Int) == 0)=true then _ else _) _ _ s;rwa[if_neg ∅,bv (š pl (bv (š pu (bv (bS ?_)))))]
 show wpAny _ _ (match Builtin.Slice.sliceAdjust lo hi 1 (n:Int)with|(lo,hi)=>pure (lo,(1:Int),Builtin.Slice.slicePlaces lo hi 1)) _ _ s
 rw[yhg lo hi n];show wpAny _ _ (pure (((sIx n 0 lo:Nat):Int),(1:Int),Builtin.Slice.slicePlaces ((sIx n 0 lo:Nat):Int) ((sIx n n hi:Nat):Int) 1)) _ _ s;rwa[yht,bS h]
def yow(xs:Array qc)(i k:Nat):((List.range k).filterMap λ(m:Nat)=>xs[((i:Int)+(m:Int)*1).toNat]?).toArray=((xs.toList.drop i).take k).toArray:=by
 have e:(λ(m:Nat)=>xs[((i:Int)+(m:Int)*1).toNat]?)=λm=>xs[i+m]?:=by
  funext m
  have:((i:Int)+(m:Int)*1).toNat=i+m:=()
  rw[this]
 rw[e];have:=pick_run xs i k;rw[List.filterMap_map]at this;have a:((λx=>xs[x]?) ∘ λx=>i+x)=λm=>xs[i+m]?:=rfl;rw[a]at this;rw[this]
def getItem_tuple_cut{t sl:qa}{items:Array qc}{vl vu:qc}{lo hi:ql Int}{Q:Δ}(ht:IsTup s.heap t items)(hs:s.heap.IsSliceOf sl vl vu .none)(pl:IsPart vl lo)(pu:IsPart vu hi)
  (hw:¬(sIx items.size 0 lo=0/\sIx items.size items.size hi=items.size))
  (h:Q ⇑s.heap⁻¹ {s with heap:=s.heap.push { cls:=.type "tuple",data:=.seq ((items.toList.drop (sIx items.size 0 lo)).take (sIx items.size items.size hi-sIx items.size 0 lo)).toArray} })
  (hsz:items.size<=sizeLine):wpAny (model prog w) A (getItem ⇑t ⇑sl) Q E s:=by
 have a:sizeOk (.seq ((items.toList.drop (sIx items.size 0 lo)).take (sIx items.size items.size hi-sIx items.size 0 lo)).toArray):=by
  show ((items.toList.drop (sIx items.size 0 lo)).take (sIx items.size items.size hi-sIx items.size 0 lo)).toArray.size<=sizeLine;rw[cu,cz,du,dg];omega
 have i:sIx items.size items.size hi<=items.size:=va9 _ _ (bT _) hi;let#[f,d,e,g]:=id hs;have c:s.TypeIs ⇑sl "slice":=#[f,d,e];unfold getItem
 try with_reducible refine wpAny_holding ?_
 first|erw[bv (bS ?_)]|skip
 erw[bv (wpAny_sequenceKey ht.typeIs ∅ ?_),<-bv (wpAny_callSpecial?_slot (name:=Str.ofString "__getitem__") ht.typeIs PyProof.Rows.slot_tuple_getitem
  (wpAny_call_entry PyProof.Rows.slot_tuple_getitem ht.typeIs entry_tuple_getitem ?_ (args_tuple_getitem _ _)))]
 show wpAny _ _ (Builtin.Tuple.tupleItemsOf ⇑t >>=_) _ _ s;erw[bv (tupleItemsOf_ ht ?_),<-bv (wpAny_typeOf c ?_)];rwa[if_pos ∅,bv (j8 hs pl pu ?_)]
 have b:¬((((sIx items.size 0 lo:Nat):Int) == 0 && (1:Int) == 1 && (sIx items.size items.size hi-sIx items.size 0 lo) == items.size)=true):=by
  intro q;rw[cB,cB]at q;have j:((sIx items.size 0 lo:Nat):Int)=0:=eq_of_beq q.1.1;have k:sIx items.size items.size hi-sIx items.size 0 lo=items.size:=eq_of_beq q.2;erw[hw #[(),()]]
 show wpAny _ _ (if (((sIx items.size 0 lo:Nat):Int) == 0 && (1:Int) == 1 && (sIx items.size items.size hi-sIx items.size 0 lo) == items.size)=true then _ else _) _ _ s;rw[if_neg b,yow]
 first
  |erw[bv (m:=Builtin.Tuple.tupleExact _) (wpAny_newObj_type (bS #[_,J,bS h]) a)]
  |erw[bv (m:=Builtin.Tuple.tupleExact _) (wpAny_newObj_type (bv (bS (bS #[_,J,bS h]))) a)]
  |erw[bv (bv (m:=Builtin.Tuple.tupleExact _) (wpAny_newObj_type (bS (bS #[_,J,bS h])) a))]
  |erw[bv (bv (m:=Builtin.Tuple.tupleExact _) (wpAny_newObj_type (bS #[_,J,bS h]) a))]
end
end
end HT
namespace L2
open PySem PySem.Spec PyProof.Rows
mutual
variable{us:Ξ}{v:qc}
abbrev TO:=St->Hp->(ql Int->Hp->Prop)->Prop
def PO(X:Cx)(e:ql qh)(t:TO):Prop :=
 ∀(pins:Θ)(s:qb)(σ:St)(H:Hp)(Q:ql Int->Hp->Prop),(Inv X pins σ H) s->t σ H Q ->
  wpAny (model X.prog X.w) X.A (evalPart e X.env) (λu s'=>∃o H',Inv X pins σ H' s'/\IsPart u o/\Q o H') X.xe s
def yle:TO:=λZ H Q=>Q none H
def ve3(t:TE):TO:=λσ H Q=>t σ H λx H1=>∃i,x=.int i/\Q (some i) H1
end
section
mutual
variable{X:Cx}{e:qh}{te:TE}{lo hi:ql qh}{tl th:TO}{pos p2:Pos}
def zf:PO X none yle:=by intro a s σ H Q I h;rwa[evalPart_none,bS #[none,H,I,.none,h]]
def uw(h:PE X e te):PO X (some e) (ve3 te):=by intro a s σ H Q I b;rwa[evalPart_some,thn (h a s σ H _ I b) λu j h'=>?_];let#[x,c,g,d,f]:=h';let#[i,J,q]:=f;let#[t,J]:=d;erw[some i,c,g,.int i t,q]
def SlR(X:Cx)(r:V->ql Int->ql Int->Hp->VK->Prop):Prop :=
 ∀(pins:Θ)(s:qb)(σ:St)(H:Hp)(x:V)(v vl vu:qc)(lo hi:ql Int)(sl:qa)(Q:VK),(Inv X pins σ H) s->xq x v->s.heap.IsSliceOf sl vl vu .none->IsPart vl lo->IsPart vu hi->r x lo hi H Q ->
  ∃T id,typeLookup (.type T) "__getitem__"=pure (some (.builtin id))/\s.TypeIs v T/\wpAny (model X.prog X.w) X.A (getItem v ⇑sl) (EP X pins σ Q) X.xe s
def SlR.or{r r':V->ql Int->ql Int->Hp->VK->Prop}(h:SlR X r)(h':SlR X r'):SlR X (λx lo hi H Q=>r x lo hi H Q\/r' x lo hi H Q):=by
 intro a s σ H x v e c lo hi b Q I g i d f q;rcases q with q|q
 .erw[h a s σ H x v e c lo hi b Q I g i d f q]
 .erw[h' a s σ H x v e c lo hi b Q I g i d f q]
def tSl(r:V->ql Int->ql Int->Hp->VK->Prop)(te:TE)(tl th:TO):TE:=λσ H Q=>te σ H λx H1=>tl σ H1 λl H2=>th σ H2 λu H3=>r x l u H3 Q
def xv{r:V->ql Int->ql Int->Hp->VK->Prop}(hr:SlR X r)(he:PE X e te)(hl:PO X lo tl)(hu:PO X hi th):PE X (.Subscript e (.Slice lo hi none p2) pos) (tSl r te tl th):=by refine .mk λa s σ H Q I h=>?_;erw[Subscript_ (thn (he a s σ H _ I h) λv F h'=>?_)];let#[x,C,n,i,y]:=h';erw[wpAny_Slice (thn (hl a F σ C _ n y) λf p ⟨l,G,B,D,ς⟩=>thn (hu a p σ G _ B ς) λd c h'=>?_)];let#[u,g,o,E,z]:=h';rwa[evalPart_none,bS ?_];have j:Inv X a σ g {c with heap:=c.heap.push { cls:=.type "slice",data:=.fields (List.toArray [f,d,.none])} }:=o.kept (t':=c.toks) λb K q=>bR _ q;let#[T,id,t,k,m]:=hr a {c with heap:=c.heap.push { cls:=.type "slice",data:=.fields (List.toArray [f,d,.none])} } σ g x v f d l u c.heap⁻¹ Q j i (Heap.IsSliceOf.new ..) D E z;show (wpAny (model X.prog X.w) X.A) (subscriptTail e (.Slice lo hi none p2) v ⇑c.heap⁻¹) (EP X a σ Q) X.xe {c with heap:=c.heap.push { cls:=.type "slice",data:=.fields (List.toArray [f,d,.none])} };erw[tail_any (ops:=[.ref c.heap⁻¹,v]) k t m (by with_unfolding_all rfl)]
def ydf(xs:Τ)(lo hi:ql Int):Τ:=(xs.drop (HT.sIx ↑xs 0 lo)).take (HT.sIx ↑xs ↑xs hi-HT.sIx ↑xs 0 lo)
def ģ(xs:Τ)(lo hi:ql Int):↑(ydf xs lo hi)<=↑xs:=by unfold ydf;rw[cz,du];omega
def vk1(K:xy):V->ql Int->ql Int->Hp->VK->Prop:=λx lo hi H Q=>∃a xs,x=.ref a/\SqT K H a xs/\
 ¬(HT.sIx ↑xs 0 lo=0/\HT.sIx ↑xs ↑xs hi=↑xs)/\∀p,H p=none->Q ⇑p (upd H p (.tup (ydf xs lo hi)))
def vas:SlR X (vk1 X.K):=by
 intro i s σ H x v z w lo f u Q I n p l m h;let#[a,d,J,t,k,q]:=h;cases n;let#[e,r,g,j]:=I.tuple t;have c:e.toArray.size=↑d:=by rwa[cu,r.length.symm]
 erw["tuple",_,PyProof.Rows.slot_tuple_getitem.lookup,g.typeIs,?_,<-HT.getItem_tuple_cut g p l m (by rwa[c,k]) ?_ (by rwa[c,j])];rwa[c,#[.ref s.heap⁻¹,_,I.laid (t':=s.toks) (o:=.tup (ydf d lo f)) (λb y q=>bR _ q) (bT _) ?_,J,q _ (I.hok.fresh (bT _))]];erw[cN (ģ d lo f) j,_,(r.drop (HT.sIx d.length 0 lo)).take (HT.sIx d.length d.length f-HT.sIx d.length 0 lo),IsTup.new _ _]
end
end
mutual
noncomputable def ixN(n:Nat)(i:Int):ql Nat:=if 0<=i then (if i<n then some i.toNat else none)else if -(n:Int)<=i then some (i+n).toNat else none
def atI{α:Type}(xs:qj α)(i:Int):ql α:=(ixN ↑xs i).bind λj=>xs[j]?
def yu3{n:Nat}{i:Int}{j:Nat}(h:ixN n i=some j):seqIndex? i n=some j/\j<n/\-(n:Int)<=i/\i<n:=by
 unfold ixN at h;by_cases h0:0<=i
 .rw[if_pos h0]at h;by_cases h1:i<n
  .rw[if_pos h1]at h;have e:i.toNat=j:=cr h;exists by rw[seqIndex_of h0 h1,e],(),(),h1
  .rw[if_neg h1]at h;cases h
 .rw[if_neg h0]at h;by_cases h1:-(n:Int)<=i
  .rw[if_pos h1]at h;have e:(i+n).toNat=j:=cr h;exists by rw[seqIndex_neg () h1,e],(),h1,()
  .rw[if_neg h1]at h;cases h
def ykh{α:Type}{xs:qj α}{i:Int}{v:α}(h:atI xs i=some v):∃j,seqIndex? i ↑xs=some j/\xs[j]?=some v/\j<↑xs/\-(↑xs:Int)<=i/\i<↑xs:=by
 unfold atI at h
 cases e:ixN ↑xs i with
 |none=>rw[e]at h;cases h
 |some j =>
  rw[e]at h;let#[a,b,d,c]:=yu3 e;erw[j,a,h,b,d,c]
def wb{α:Type}{xs:qj α}{j:Nat}{v:α}(h:xs[j]?=some v):atI xs (j:Int)=some v:=by
 have a:j<↑xs:=(bY.mp h).1
 have e:ixN ↑xs (j:Int)=some j:=by
  unfold ixN;rw[if_pos (),if_pos ()];simp
 unfold atI;rwa[e,h]
def yno{α:Type}(xs:qj α)(v:α):atI (xs++[v]) (-1)=some v:=by
 have a:↑(xs++[v])=↑xs+1:=(by simp)
 have e:ixN ↑(xs++[v]) (-1)=some ↑xs:=by
  unfold ixN;rw[a,if_neg ∅,if_pos ()]
  congr 1
  omega
 unfold atI;rw[e];show (xs++[v])[xs.length]?=some v;simp
def yk4(b:qh):Prop:=∀o i,subscripted b false o i=operate [o,i] (getItem o i)
def IxR(X:Cx)(r:R2):Prop :=
 ∀(value slice:qh)(pins:Θ)(s:qb)(σ:St)(H:Hp)(x y:V)(v u:qc)(Q:VK),(Inv X pins σ H) s->xq x v->xq y u->r x y H Q ->
  subscripted slice false v u=operate [v,u] (getItem v u)->(wpAny (model X.prog X.w) X.A) (subscriptTail value slice v u) (EP X pins σ Q) X.xe s
def MtR(X:Cx)(id:String)(r:V->qj V->Hp->VK->Prop):Prop :=
 ∀(pins:Θ)(s:qb)(σ:St)(H:Hp)(x:V)(xs:Τ)(v:qc)(us:Ξ)(Q:VK),(Inv X pins σ H) s->xq x v->w9 xs us->r x xs H Q ->
  wpAny (model X.prog X.w) X.A (call (.builtin id) (v::us)) (EP X pins σ Q) X.xe s
end
section
mutual
variable{X:Cx}{a b:qh}{ta tb:TE}{pos:Pos}
def viy{r:R2}(hr:IxR X r)(ha:PE X a ta)(hb:PE X b tb)(hs:yk4 b):PE X (.Subscript a b pos) (tOp r ta tb):=by refine .mk λc s σ H Q I h=>?_;erw[Subscript_ (vh2 ha hb I h λv u e x y d f g i q=>hr a b c e σ d x y v u Q f g i q (hs _ _))]
def yty(K:xy):R2:=λx y H Q=>∃p xs i v,x=.ref p/\y=.int i/\SqL K H p xs/\atI xs i=some v/\Q v H
def vkf(K:xy):R2:=λx y H Q=>∃p xs i v,x=.ref p/\y=.int i/\SqT K H p xs/\atI xs i=some v/\Q v H
def vn:IxR X (yty X.K):=by
 intro e d a s σ H x y v u Q I F G h n;let#[p,M,i,z,J,J,B,ς,q]:=h;cases F;let#[t,J]:=G;let#[g,r,k,L]:=I.list B;let#[j,c,A,N,C,D]:=ykh ς;let#[w,m,f]:=r.get A;let E:=↑r;let O:=ycv;have b:EP X a σ Q w s:=#[z,H,I,f,q];by_cases h0:0<=i
 .have l:i.toNat=j:=by
   rw[seqIndex_of h0 D]at c;erw[cr c]
  erw[item_listR k.isList h0 () (by rw[l];simpa using m) b n]
 .have l:(i+(g.toArray.size:Int)).toNat=j:=by
   rw[seqIndex_neg () C]at c;rwa[cu,<- E,cr c]
  exact subscriptTail_builtinR (x:=w) k.isList.typeIs slot_list_getitem.lookup
   (wpAny_getItem_list_neg (Q:=λr o=>r=w/\EP X a σ Q r o) k.isList () (by rw[cu]<;>omega) () (by rw[l];simpa using m) #[J,b]) n
def γ:IxR X (vkf X.K):=by
 intro d b a s σ H x y v u Q I B D h C;let#[p,L,i,z,J,J,l,E,q]:=h;cases B;let#[t,J]:=D;let#[m,r,f,ς]:=I.tuple l;let#[j,n,k,M,F,G]:=ykh E;let#[w,o,e]:=r.get k;let A:=↑r;let N:=ycv;have c:EP X a σ Q w s:=#[z,H,I,e,q];exact subscriptTail_builtinR (x:=w) f.typeIs slot_tuple_getitem.lookup
  (getItem_tuple (j:=j) (Q:=λr g=>r=w/\EP X a σ Q r g) f () () (by rwa[cu,<- A,n]) (by simpa using o) #[J,c]) C
def ytm(i:Int)(n d:Nat):max 0 (min (if i<0 then i+(n:Int)else i) n)=((HT.sIx n d (some i):Nat):Int):=by
 rw[<- HT.clip_eq];by_cases h:i<0
 .rw[if_pos h,if_pos h,Int.min_eq_left (),Int.max_comm]
 .rw[if_neg h,if_neg h,Int.max_eq_right (Int.le_min.2 #[(),()])]
def ybt(lo hi:ql Int)(n:Nat):(sliceBounds lo hi none n).1=((HT.sIx n 0 lo:Nat):Int)/\(sliceBounds lo hi none n).2.1=((HT.sIx n n hi:Nat):Int)/\(sliceBounds lo hi none n).2.2=1:=by
 erw[?_,?_,rfl]
 .cases lo with
  |none=>simp[sliceBounds,HT.sIx]
  |some i=>erw[ytm i n _]
 .cases hi with
  |none=>simp[sliceBounds,HT.sIx]
  |some i=>erw[ytm i n _]
def Ŵ(its:Ξ)(lo hi:ql Int):slicePick its.toArray lo hi none=((its.drop (HT.sIx ↑its 0 lo)).take (HT.sIx ↑its ↑its hi-HT.sIx ↑its 0 lo)).toArray:=by let#[a,b,c]:=ybt lo hi its.toArray.size;unfold slicePick;rw[a,b,c];simp only[sliceRange_one,pick_run,cu]<;>rfl
def vkq(K:xy):V->ql Int->ql Int->Hp->VK->Prop:=λx lo hi H Q=>∃a xs,x=.ref a/\SqL K H a xs/\∀p,H p=none->Q ⇑p (upd H p (.lst (ydf xs lo hi)))
def j5:SlR X (vkq X.K):=by intro g s σ H x v y u lo e t Q I l m j k h;let#[a,c,J,n,q]:=h;cases l;let#[i,r,f,p]:=I.list n;let d:=↑r;erw["list",_,slot_list_getitem.lookup,f.isList.typeIs,?_,<-wpAny_getItem_list_slice f.isList m j k .none (by simp) ?_ (by rw[cu]<;>omega)];rwa[Ŵ,<- d,#[.ref s.heap⁻¹,_,I.laid (t':=s.toks) (o:=.lst (ydf c lo e)) (λb w q=>bR _ q) (bT _) ?_,J,q _ (I.hok.fresh (bT _))]];erw[cN (ģ c lo e) p,_,0,(r.drop (HT.sIx ↑c 0 lo)).take (HT.sIx ↑c ↑c e-HT.sIx ↑c 0 lo),cb _ J]
noncomputable def yc8:V->Bool
 | .non=>true
 | .bl _=>true
 | .int _=>true
 | .str _=>true
 |_=>false
noncomputable def eqV:V->V->Bool
 | .non,.non=>true
 | .bl a,.bl b=>a == b
 | .bl a,.int b=>(if a then 1 else 0) == b
 | .int a,.bl b=>a == (if b then 1 else 0)
 | .int a,.int b=>a == b
 | .str a,.str b=>a == b
 |_,_=>false
def va5{A:qf}{s:qb}{y x:V}{u:qc}(ry:xq y u)(rx:xq x v)(fy:yc8 y=true)(fx:yc8 x=true):SeqAt.EqAt A s u v (eqV y x):=by
 cases y with
 |non =>
  cases ry
  cases x with
  |non=>cases rx;erw[SeqAt.EqAt.same _]
  |bl b=>cases rx;erw[SeqAt.EqAt.none_bool b]
  |int b=>let⟨t,rfl⟩:=rx;erw[SeqAt.EqAt.none_int b t]
  |str b=>let⟨t,rfl⟩:=rx;erw[SeqAt.EqAt.none_str b t]
  |_=>erw[absurd (show false=true from fx) ci]
 |bl a =>
  cases ry
  cases x with
  |non=>cases rx;erw[SeqAt.EqAt.bool_none a]
  |bl b=>cases rx;erw[SeqAt.EqAt.bool_bool a b]
  |int b=>let⟨t,rfl⟩:=rx;erw[SeqAt.EqAt.bool_int a b t]
  |str b=>let⟨t,rfl⟩:=rx;erw[SeqAt.EqAt.bool_str a b t]
  |_=>erw[absurd (show false=true from fx) ci]
 |int a =>
  let#[c,J]:=ry
  cases x with
  |non=>cases rx;erw[SeqAt.EqAt.int_none a c]
  |bl b=>cases rx;erw[SeqAt.EqAt.int_bool a c b]
  |int b=>let⟨t,rfl⟩:=rx;erw[SeqAt.EqAt.int_int a c b t]
  |str b=>let⟨t,rfl⟩:=rx;erw[SeqAt.EqAt.int_str a c b t]
  |_=>erw[absurd (show false=true from fx) ci]
 |str a =>
  let#[c,J]:=ry
  cases x with
  |non=>cases rx;erw[SeqAt.EqAt.str_none a c]
  |bl b=>cases rx;erw[SeqAt.EqAt.str_bool a c b]
  |int b=>let⟨t,rfl⟩:=rx;erw[SeqAt.EqAt.str_int a c b t]
  |str b=>let⟨t,rfl⟩:=rx;erw[SeqAt.EqAt.str_str a c b t]
  |_=>erw[absurd (show false=true from fx) ci]
 |_=>erw[absurd (show false=true from fy) ci]
def eqU(x:V)(u:qc):Bool:=match u with
 | .none=>eqV .non x
 | .bool b=>eqV (.bl b) x
 | .int i _=>eqV (i:) x
 | .str z _=>eqV (.str z) x
 |_=>false
def yq2{x y:V}{u:qc}(r:xq y u)(f:yc8 y=true):eqU x u=eqV y x:=by
 cases y with
 |non=>cases r;rfl
 |bl b=>cases r;rfl
 |int i=>let⟨t,rfl⟩:=r;rfl
 |str z=>let⟨t,rfl⟩:=r;rfl
 |_=>erw[absurd (show false=true from f) ci]
theorem yes{x:V}:∀{xs:Τ}{us:Ξ},w9 xs us->xs.all yc8=true->us.any (eqU x)=xs.any λy=>eqV y x
 |_,_,.nil,_=>rfl
 |y::xs,u::us,.cons r t,f=>by
  rw[List.all_cons,cB]at f;rw[List.any_cons,List.any_cons,yq2 r f.1,yes t f.2]
theorem yar{A:qf}{s:qb}{x:V}(rx:xq x v)(fx:yc8 x=true):∀{xs:Τ}{us:Ξ},w9 xs us->xs.all yc8=true->∀u∈us,SeqAt.EqAt A s u v (eqU x u)
 |_,_,.nil,_=>λu a=>by cases a
 |y::xs,u::us,.cons r t,f=>λb a=>by
  rw[List.all_cons,cB]at f;rcases bZ.mp a with rfl|a
  .rw[yq2 r f.1];erw[va5 r rx f.1 fx]
  .erw[yar rx fx t f.2 b a]
def inV(x:V)(xs:Τ):Bool:=xs.any λy=>eqV y x
def rIn(K:xy)(neg:Bool):R2:=λx y H Q=>∃p xs,y=.ref p/\(SqL K H p xs\/SqT K H p xs)/\yc8 x=true/\xs.all yc8=true/\Q (.bl (if neg then !inV x xs else inV x xs)) H
def yj2:OpR X (compareOp .In) (rIn X.K false):=by
 intro g s σ H x y v u Q I i j h;let#[p,l,J,b,f,c,q]:=h;cases j;rcases b with b|b
 .let#[a,r,e,k]:=I.list b;erw[SeqAt.in_listAt (eqU x) e.isList (λw d=>yar i f r c w (by simpa using d)) #[.bl _,H,I,J,?_]];rw[show a.toArray.any (eqU x)=a.any (eqU x) by simp,yes r c];erw[q]
 .let#[a,r,e,k]:=I.tuple b;erw[SeqAt.in_tupleAt (eqU x) e (λw d=>yar i f r c w (by simpa using d)) #[.bl _,H,I,J,?_]];rw[show a.toArray.any (eqU x)=a.any (eqU x) by simp,yes r c];erw[q]
def yp:j6 X (.builtin "len") (λxs H Q=>∃p ys,xs=[.ref p]/\(SqL X.K H p ys\/SqT X.K H p ys)/\Q (↑ys:) H):=by
 intro f s σ H xs j Q I r h;let#[p,ys,J,b,q]:=h;let#[u,J,g]:=č r;cases g;let k:=ycv;rcases b with b|b
 .let#[d,c,e,i]:=I.list b;let a:=↑c;erw[Calls.call_len_list e.isList (by simp only[cu]<;>omega) #[.int ↑ys,H,I.tok _,#[s.toks+1,by rw[cu,a]],q]]
 .let#[d,c,e,i]:=I.tuple b;let a:=↑c;erw[len_tuple e (by simp only[cu]<;>omega) #[.int ↑ys,H,I.tok _,#[s.toks+1,by rw[cu,a]],q]]
def u8:j6 X (.builtin "len") (λxs H Q=>∃z,xs=[.str z]/\↑z<=sizeLine/\Q (↑z:) H):=by intro a s σ H xs c Q I r h;let#[z,J,d,q]:=h;let#[u,J,t,J]:=č r;let b:=ycv;erw[len_str () #[.int ↑z,H,I.tok _,#[_,J],q]]
def ww:j6 X (.type "list") (λxs H Q=>∃p ys,xs=[.ref p]/\(SqL X.K H p ys\/SqT X.K H p ys)/\∀l,H l=none->Q ⇑l (upd H l (.lst ys))):=by
 intro j s σ H xs B Q I r h;let#[p,ys,J,i,q]:=h;let#[u,J,A]:=č r;cases A;have k:∀(a:Ξ),w9 ys a->↑ys<=sizeLine->∀(c:qg)(f:Nat),(∀b o',s.heap.get? b=some o'->c.get? b=some o') ->
   c.get? s.heap⁻¹=some { cls:=.type "list",dict:=none,data:=.seq a.toArray f,slots:=#[]}->EP X j σ Q ⇑s.heap⁻¹ {s with heap:=c}:=λa d t c f g e =>
  #[.ref s.heap⁻¹,_,I.laid (t':=s.toks) g (bT _) (show xn X.prog X.w _ c _ (.lst ys)from #[t,a,f,d,e]),J,q _ (I.hok.fresh (bT _))]
 rcases i with i|i
 .let#[a,d,y,t]:=I.list i;let m:=↑d;let#[o,x,z,n,v]:=y.isList;erw[call_list_seq p (.inl J) x z v (λc f g e=>k a d t c f g e) (by simp only[cu]<;>omega)]
 .let#[a,d,y,t]:=I.tuple i;let m:=↑d;let#[o,x,z,n,v]:=y;erw[call_list_seq p (.inr J) x z v (λc f g e=>k a d t c f g e) (by simp only[cu]<;>omega)]
def Þ:j6 X (.type "tuple") (λxs H Q=>∃p ys,xs=[.ref p]/\((SqL X.K H p ys/\∀l,H l=none->Q ⇑l (upd H l (.tup ys)))\/(SqT X.K H p ys/\Q ⇑p H))):=by
 intro a s σ H xs x Q I r h;let#[p,ys,J,h]:=h;let#[u,J,v]:=č r;cases v;rcases h with⟨f,q⟩|⟨f,q⟩
 .let#[c,g,i,m]:=I.list f;let k:=↑g;erw[call_tuple_list i.isList (λd n=>?_) (by simp only[cu]<;>omega)];have j:Inv X a σ H {s with heap:=d}:=I.kept (t':=s.toks) n
  have t:Inv X a σ (upd H d⁻¹ (.tup ys)) {s with heap:=d.push { cls:=.type "tuple",data:=.seq c.toArray} } :=
   j.laid (t':=s.toks) (λb o e=>bR _ e) (bT _) (show xn X.prog X.w _ _ _ (.tup ys)from #[m,c,g,IsTup.new _ _])
  erw[.ref d⁻¹,_,t,J,q _ (j.hok.fresh (bT _))]
 .let#[c,g,i,m]:=I.tuple f;erw[call_tuple_same i #[.ref p,H,I,J,q]]
def tyV(K:xy)(T:String)(x:V)(H:Hp):Prop:=match x with
 | .str _=>T="str"
 | .int _=>T="int"
 | .ref p=>(T="list"/\∃xs,SqL K H p xs)\/(T="tuple"/\∃o,K.lookup p=some o/\o.cls=.type "tuple"/\o.dict=none) \/
   (T="dict"/\((∃kvs,H p=some (.dK kvs))\/∃kvs,H p=some (.dT kvs)))\/(T="set"/\∃S n,H p=some (.set S n))
 |_=>False
def yq9{pins:Θ}{σ:St}{H:Hp}{s:qb}{T:String}{x:V}(I:(Inv X pins σ H) s)(r:xq x v)(ty:tyV X.K T x H):
  s.TypeIs v T/\∀a,v=.ref a->∃ob,s.heap.get? a=some ob/\ob.dict=none:=by
 cases x with
 |str z =>
  let#[t,J]:=r;cases (show T="str" from ty)
  erw[typeIs_str s z t,λZ e=>nomatch e]
 |int i =>
  let#[t,J]:=r;cases (show T="int" from ty)
  erw[typeIs_int s i t,λZ e=>nomatch e]
 |ref p =>
  cases r;rcases ty with⟨rfl,q,k⟩|⟨rfl,o,b,m,f⟩|⟨rfl,b⟩|⟨rfl,S,n,b⟩
  .let#[l,_,j,_]:=I.list k;erw[j.isList.typeIs,λa e=>?_];cases e;let#[o,n,e,c,f,_]:=j;erw[o,e,f]
  .erw[#[o,I.kIn p o b,m],λa e=>?_];cases e;erw[o,I.kIn _ o b,f]
  .have z:∃o,s.heap.get? p=some o/\o.ExactDict:=by
    rcases b with⟨g,b⟩|⟨g,b⟩
    .let#[_,_,_,_,o,_,_,e,d,_]:=I.hok p _ b;erw[o,e,d]
    .let#[_,_,_,_,o,_,_,e,d,_]:=I.hok p _ b;erw[o,e,d]
   let#[o,e,d]:=z;erw[#[o,e,d.1],λa h=>?_];cases h;erw[o,e,d.2.1]
  .let#[o,_,_,_,e,d,_]:=I.hok p _ b;erw[#[o,e,d.1],λa h=>?_];cases h;erw[o,e,d.2.1]
 |_=>erw[False.elim ty]
def vk2(K:xy)(T:String)(r:V->qj V->Hp->VK->Prop)(to:TE):TE:=λσ H Q=>to σ H λx H1=>tyV K T x H1/\r x [] H1 Q
def tBM(K:xy)(T:String)(r:V->qj V->Hp->VK->Prop)(to:TE)(t:TA):TE:=λσ H Q=>to σ H λx H1=>tyV K T x H1/\t σ H1 λxs H2=>r x xs H2 Q
variable{o e:qh}{es:qj qh}{to:TE}{t:TA}{name:Str}{apos cpos:Pos}{T id:String}{r:V->qj V->Hp->VK->Prop}
def ygj(pa:PlainAttrs T)(slot:Slot T name id)(hty:typeOf (.builtin id)=pure (.type "method_descriptor"))(hm:MtR X id r)(ho:PE X o to)
  (hbase:¬¬(attributeBase o name X.env (eval o X.env)=eval o X.env)) (hline:¬¬((apos.endLine == cpos.line)=true)):PE X (.Call (.Attribute o name apos) [] [] cpos) (vk2 X.K T r to):=by refine .mk λa s σ H Q I h=>?_;erw[wpAny_Call_method0_late hbase hline (thn (ho a s σ H _ I h) λv i h'=>?_)];let#[x,d,c,b,j,f]:=h';let#[g,e]:=yq9 c b j;erw[T,id,pa,slot,hty,g,e,Calls.callWith_builtin J (PySem.evalArgs_none (hm a i σ d x [] v [] Q c b .nil f))]
def zb(pa:PlainAttrs T)(slot:Slot T name id)(hty:typeOf (.builtin id)=pure (.type "method_descriptor"))(hm:MtR X id r)(ho:PE X o to)(ha:PA X (e::es) t)
  (hbase:¬¬(attributeBase o name X.env (eval o X.env)=eval o X.env))
  (hfew:((backTo cpos (starEach (e::es) X.env)).all (λx=>!x.1) && (backToKw cpos (keywordEach [] X.env)).all (λx=>x.1.isSome)
   && decide (↑(e::es)+↑([]:qj Keyword)+(if ([]:qj Keyword).isEmpty then 0 else 1)<30))=true:=by rfl)
  (hline:¬¬((apos.endLine == cpos.line)=true)) (hs:¬¬((starEach (e::es) X.env=(false,eval e X.env)::starEach es X.env))) (hplain:¬¬((backTo cpos (starEach es X.env)).any (·.1)=false)):
  PE X (.Call (.Attribute o name apos) (e::es) [] cpos) (tBM X.K T r to t):=by refine .mk λa s σ H Q I h=>?_;erw[wpAny_Call_method_late hbase hfew hline J (thn (ho a s σ H _ I h) λv u h'=>?_)];let#[x,k,c,b,w,p]:=h';let#[q,m]:=yq9 c b w;erw[T,id,pa,slot,hty,q,m,?_];let d:=ha cpos a u σ k _ c p;rw[hs]at d⊢;erw[Calls.callWith_builtin (by show (false || (backTo cpos (starEach es X.env)).any (·.1))=false;rw[hplain]<;>rfl) (Calls.evalArgs_plain ?_),<-thn d λi l ⟨j,g,n,f,y⟩=>hm a l σ g x j v i Q n b f y]
end
end
mutual
def MtM(X:Cx)(id:String)(r:V->qj V->Hp->VK->Prop):Prop :=
 ∀(pins:Θ)(s:qb)(σ:St)(H:Hp)(x:V)(xs:Τ)(v:qc)(us:Ξ)(Q:VK),(Inv X pins σ H) s->xq x v->w9 xs us->r x xs H Q ->
  wpAny (model X.prog X.w) X.A (call (.builtin id) (v::us)) (EP X pins σ Q) X.xe s
def w9.one{x:V}(h:w9 [x] us):∃u,us=[u]/\xq x u:=by
 cases h with
 |cons r t=>cases t;exists _,J,r
theorem w9.zero:∀{us:Ξ},w9 [] us->us=[]
 |_,.nil=>rfl
theorem w9.reverse{xs:Τ}(h:w9 xs us):w9 xs.reverse us.reverse:=by
 induction h with
 |nil=>erw[.nil]
 |cons r t ih=>rwa[List.reverse_cons,List.reverse_cons,w9.append ih (.cons r .nil)]
theorem w9.rep{xs:Τ}(h:w9 xs us):∀k:Nat,w9 (List.replicate k xs).flatten (List.replicate k us).flatten
 |0=>.nil
 |k+1=>by
  rwa[c9,c9,List.flatten_cons,List.flatten_cons,w9.append h (w9.rep h k)]
theorem ycf(its:Ξ):∀(k:Nat)(acc:Ξ),
  List.foldl (λx1 x2=>x1++x2) acc.toArray (List.replicate k its.toArray)=(acc++(List.replicate k its).flatten).toArray
 |0,acc=>by simp
 |k+1,acc=>by
  have e:acc.toArray++its.toArray=(acc++its).toArray:=(by simp)
  have a:(acc++its)++(List.replicate k its).flatten=acc++(List.replicate (k+1) its).flatten:=by
   rw[c9,List.flatten_cons,cq]
  rw[<- a,<- ycf its k (acc++its),<- e,c9,List.foldl_cons]
end
section
mutual
variable{X:Cx}{pins:Θ}{σ:St}{H:Hp}{s:qb}{l b:qa}{xs ys zs:Τ}
def Inv.lset{its its':Ξ}{n:Nat}{f:Array qc->Array qc}{t':Nat}(I:(Inv X pins σ H) s)(hH:H l\xs)
  (e:s.heap.get? l=some { cls:=.type "list",data:=.seq its.toArray n}) (hf:f its.toArray=its'.toArray) (hv:w9 ys its') (hz:↑ys<=sizeLine):
  Inv X pins σ (upd H l (.lst ys)) {s with heap:=s.heap.update l (Obj.mapSeq f),toks:=t'}:=by have q:=PySem.IsL.update e f;rw[hf]at q;erw[I.write (x:=l) (e:=l) (by rwa[hH,trivial]) (.inl J) (λc u b a=>(Heap.get?_update_other s.heap (Obj.mapSeq f) (Ne.symm b)).trans a) #[_,q] ?_,<-hz,its',_,hv,q]
def Inv.lnew{its:Ξ}{t':Nat}(I:(Inv X pins σ H) s)(hv:w9 ys its)(hz:↑ys<=sizeLine):
  Inv X pins σ (upd H s.heap⁻¹ (.lst ys)) {s with heap:=s.heap.push { cls:=.type "list",data:=.seq its.toArray},toks:=t'} :=
 I.laid (λZ Z q=>bR _ q) (bT _) #[hz,its,0,hv,cb _ J]
theorem Inv.fresh(I:(Inv X pins σ H) s):H s.heap⁻¹=none:=I.hok.fresh (bT _)
def Inv.lstM(I:(Inv X pins σ H) s)(hH:H l\xs):↑xs<=sizeLine/\∃(its:Ξ)(n:Nat),w9 xs its/\↑xs=↑its/\s.heap.get? l=some { cls:=.type "list",data:=.seq its.toArray n}:=by let#[z,its,n,r,e]:=I.hok l _ hH;erw[z,its,n,r,r.length,e]
def yf0{n:Nat}(h:n<=sizeLine):Builtin.List.listTooLong n=false:=by unfold Builtin.List.listTooLong;erw[cj ()]
end
end
section
mutual
variable{X:Cx}
def yk2:V->qj V->Hp->VK->Prop:=λx vs H Q=>∃l xs y,x=.ref l/\vs=[y]/\H l\xs/\↑xs<sizeLine/\Q .non (upd H l (.lst (xs++[y])))
def wz:MtM X "list.append" yk2:=by intro c s σ H x j v i Q I f g h;let#[l,m,y,J,J,b,o,q]:=h;cases f;let#[u,J,d]:=g.one;let#[z,a,n,r,k,e]:=I.lstM b;erw[call_meets F.slot_list_append #[_,e,J] F.entry_list_append (F.args_list_append_2 _ _) (PySem.list_append l a.toArray n u (by rw[cu];omega)) #[e,?_],<-.non,_,I.lset (its':=a++[u]) b e (by simp) (r.append (.cons d .nil)) ?_,J,q];rw[bQ,cJ];omega
def yxt:V->qj V->Hp->VK->Prop:=λx vs H Q=>∃l b xs zs,x=.ref l/\vs=[.ref b]/\H l\xs/\H b\zs/\↑xs+↑zs<=sizeLine/\Q .non (upd H l (.lst (xs++zs)))
def á:MtM X "list.extend" yxt:=by
 intro i s σ H x C v ς Q I o m h;let#[l,b,G,A,J,J,g,w,D,q]:=h;cases o;let#[u,J,t]:=m.one;cases t;let#[z,c,n,r,E,e]:=I.lstM g;let#[B,a,y,p,j,k]:=I.lstM w;have f:c.toArray.size+a.toArray.size<=sizeLine:=by rw[cu,cu];omega
 have d:¬(!c.toArray.isEmpty && Builtin.List.listTooLong (c.toArray.size+a.toArray.size))=true:=by
  rwa[yf0 f,Bool.and_false,ci]
 refine call_meets F.slot_list_extend #[_,e,J] F.entry_list_extend (F.args_list_extend_2 _ _)
  (AutoSeq1.list_extend_list_list_0 l c.toArray n b a.toArray y d (by rw[cu];omega) ()) #[e,k,?_]
 erw[.non,_,I.lset (its':=c++a) g e (by simp) (r.append p) ?_,J,q];rw[bQ];omega
def ygc:V->qj V->Hp->VK->Prop:=λx vs H Q=>∃l xs,x=.ref l/\vs=[]/\H l\xs/\Q .non (upd H l (.lst xs.reverse))
def ś:MtM X "list.reverse" ygc:=by intro d s σ H x j v i Q I f g h;let#[l,m,J,J,c,q]:=h;cases f;let b:=g.zero;subst b;let#[z,a,n,r,k,e]:=I.lstM c;erw[call_meets F.slot_list_reverse #[_,e,J] F.entry_list_reverse (F.args_list_reverse_1 _) (AutoSeq1.list_reverse_list_0 l a.toArray n (by rw[cu];omega)) #[e,?_],<-.non,_,I.lset (its':=a.reverse) c e (by simp) r.reverse ?_,J,q];rw[List.length_reverse];omega
def vls:R2:=λx y H Q=>∃l b xs zs,x=.ref l/\y=.ref b/\H l\xs/\H b\zs/\↑xs+↑zs<=sizeLine/\∀p,H p=none->Q ⇑p (upd H p (.lst (xs++zs)))
def ŧ:OpR X (binaryOp .Add) vls:=by
 intro d s σ H x y v u Q I m o h;let#[l,b,A,B,J,J,i,k,D,q]:=h;cases m;cases o;let#[z,c,n,r,w,e]:=I.lstM i;let#[t,a,C,f,g,p]:=I.lstM k;erw[PySem.P.add_list e p ?_ (by rw[cu,cu];omega)];have j:c.toArray++a.toArray=(c++a).toArray:=(by simp)
 rwa[j,#[.ref _,_,I.lnew (t':=s.toks) (r.append f) (by rw[bQ];omega),J,q _ I.fresh]]
def vli:R2:=λx y H Q=>∃l k xs,x=.ref l/\y=.int k/\H l\xs/\-(2^63)<=k/\k<2^63/\↑xs*k.toNat<=sizeLine/\
 ∀p,H p=none->Q ⇑p (upd H p (.lst (List.replicate k.toNat xs).flatten))
def yv2{α:Type}(xs:qj α)(k:Nat):(List.replicate k xs).flatten.length=k*↑xs:=by
 induction k with
 |zero=>simp
 |succ k ih=>rw[c9,List.flatten_cons,bQ,ih,Nat.succ_mul,Nat.add_comm]
def yzs:OpR X (binaryOp .Mult) vli:=by
 intro w s σ H x y v u Q I ς K h;let#[l,k,L,J,J,G,D,B,p,q]:=h;cases ς;let#[t,J]:=K;let#[z,b,n,r,E,e]:=I.lstM G;have f:b.toArray.size*k.toNat<=sizeLine:=by rwa[cu,<- E,p]
 have d:¬b.toArray.size*k.toNat > (2^63-1)/8:=by
  have:(sizeLine:Nat)<=(2^63-1)/8:=∅
  omega
 have i:¬(!Builtin.List.listFitsIndex k)=true:=by
  rwa[fitsIndex_both D B,ci]
 have c:¬Builtin.List.listTooLong (b.toArray.size*k.toNat)=true:=by
  rwa[yf0 f,ci]
 have g:List.foldl (λo j=>o++j) #[] (List.replicate (if b.toArray.isEmpty=true then 0 else k.toNat) b.toArray)=(List.replicate k.toNat b).flatten.toArray:=by
  have C:∀m:Nat,List.foldl (λo j=>o++j) #[] (List.replicate m b.toArray)=(List.replicate m b).flatten.toArray:=λm=>by
   have:=ycf b m [];rw[List.nil_append]at this;erw[this]
  rw[C]
  cases b with
  |nil=>simp
  |cons a r'=>rw[if_neg (by simp)]
 refine wpAny_binaryOp_repeat_ref (T:="list") (U:="int") ∅ #[_,e,J] (λA=>typeIs_int A k t) noFill_list_mul F.fills_int_mul F.slot_int_rmul repeat_list F.slot_int_index.lookup
  (call_meets F.slot_int_rmul (typeIs_int s k t) F.entry_int_rmul (F.args_int_rmul_2 _ _) (int___rmul___int_list k t l b.toArray n)
   #[e,J,#[_,e,J],call_meets F.slot_list_mul #[_,e,J] F.entry_list_mul (F.args_list_mul_2 _ _) (AutoListH.list___mul___list_int_3 l b.toArray n k t i d c) #[e,?_]])
 rwa[g,#[.ref _,_,I.lnew (t':=s.toks) (r.rep k.toNat) (by rwa[yv2,Nat.mul_comm,p]),J,q _ I.fresh]]
end
end
end L2
namespace Att
open PySem PySem.W PySem.Calls PyProof.Rows
mutual
def Ğ{P:Params}{h:qg}:∀(ns:Ο)(vs:Ξ),WellAll P h vs (ns.map WData.int)->IntsAre vs ns:=by
 intro ns
 induction ns with
 |nil =>
  intro vs w;rw[List.map_nil]at w;cases w;erw[.nil]
 |cons n ns ih =>
  intro vs w;rw[cO]at w
  cases w with
  |cons a b =>
   cases a;erw[.cons _ _ (ih _ b)]
def ykc{l:OpenLaw}{n:Nat}(hn:l.most=some n){P:Params}{h:qg}{args:qj WData}{vals:Ξ}
  (hpre:l.row.toRowW.claim.pre args=true) (hwl:WellAll P h vals args):
  ∃a vs ns,vals=[Value.ref a]/\args=[WData.list (ns.map WData.int)]/\h.get? a=some { cls:=.type "list",data:=.seq vs.toArray}/\IntsAre vs ns/\↑ns<=n:=by
 have f:WShape.hasAll [] args [.list .int]=true:=(pre_splitW hpre).1;have g:l.pre.holds [] { args:=args}=true:=(pre_splitW hpre).2;let#[d,r,J,j,i]:=hasAllW_cons f;obtain rfl:=hasAllW_nil i;let#[o,J,k]:=hasW_list j;let#[ns,J]:=items_int k
 have b:↑ns<=n:=by
  unfold OpenLaw.pre at g
  have c:(WTm.not (.lt (.lit ((n:Int):)) (.len (.arg 0)))).holds [] { args:=[.list (ns.map .int)]}=true:=by
   let c:=(holds_andW g).1;rw[hn]at c;erw[c]
  let e:=condW_of c (w_not (w_lt w_lit (w_len_list (w_arg J))));rw[bL]at e;erw[Nat.le_of_not_lt λq=>?_];have m:(n:Int)<((↑ns:Nat):Int):=()
  first
   |(rw[bV m]at e;erw[absurd e ∅])
   |(simp at e;omega)
 cases hwl with
 |cons w1 w2 =>
  cases w2
  cases w1 with
  |list ho hall=>erw[_,_,ns,J,J,ho,Ğ ns _ hall,b]
def yji(l:OpenLaw)(args:qj WData):l.row.toRowW.claim.post args (.bool true) args=true :=
 postW_of (r:=l.row.toRowW) (X:=(true == true))
  (show WShape.has [] (.bool true) .bool=true by first|rfl|decide|simp[WShape.has,WShape.arms,WShape.armsAll])
  (show (WTm.eq .res (.lit (.bool true))).value [] { args:=args,res:=some (.bool true),after:=args}=some (.bool (true == true))from w_eq_bool (w_res J) w_lit) J
def attach_call{l:OpenLaw}{n:Nat}{q:qi}{loose:Ρ}{XP:(Ε)->qg->Prop}{YP:qe->qg->Prop}{d:DefRec}
  (hn:l.most=some n) (hdf:d.params.defaults=[])
  (call:∀(w:qe)(s₀ s₁:qb)(mg mb:Ε)(fa:qa)(o:Obj)(pm cd doc:qc)(a:qa)(vs:Ξ)(ns:Ο),
   Ground q loose [] XP w s₀ mg mb s₁.heap->YP w s₁.heap ->
   s₁.heap.get? fa=some o->o.data=.func (docDef d.name d.params d.body d.scope pm cd doc)->s₁.heap.CodeRec cd d.name->mg d.name∣fa ->
   s₁.heap.get? a=some { cls:=.type "list",data:=.seq vs.toArray}->IntsAre vs ns->↑ns<=n->s₁.gens=#[] ->
   codeAny (model l.prog w) callerA (.call ⇑fa #[[.ref a],[]]) (λr s'=>r=.ok (.ret (.bool true))/\OldK s₁.heap s'.heap/\s'.os=s₁.os/\AllBare s'.gens) s₁):
  WalkO q loose XP YP l.row.toRowW d [] (λf vs=>PySem.call f vs):=by
 intro w s₀ s₁ mg mb G Y fa o pm cd doc F kV A u j p i x k m H g t B h E;obtain rfl:F=.none:=Dflts.none p hdf;obtain rfl:kV=.none:=Dflts.noKw p;let#[a,vs,ns,J,J,c,b,e]:=ykc hn g h;erw[enter_call (codeAny_mono (call w s₀ s₁ mg mb fa o pm cd doc a vs ns G Y A (fd_plain u) j i c b e x) λr s' y=>?_)];let#[J,v,C,z]:=y
 erw[.inl #[.bool true,.bool true,[],J,λZ=>rfl,.bool true,yji l _,λZ=>#[List.Pairwise.nil,λZ D=>(nomatch D)]],v,C,z]
end
section
variable{prog:qi}{w:qe}{A:qf}{E:Δ}{s:qb}{K:Frag}
noncomputable def vkc(h:qg)(L d:qa):Θ:=(List.range h⁻¹).filterMap λa=>if a=L\/a=d then none else (h.get? a).map λo=>(a,o)
end
end Att
namespace L2
open PySem PySem.Spec PyProof.Rows
mutual
variable{C a:qa}{fd:FuncData}{st:qd}{qual:Str}{T:String}
theorem yb0:∀{vs:Ξ}{ns:Ο},IntsAre vs ns->w9 ↥ns vs
 |_,_,.nil=>.nil
 |_,_,.cons n t h=>.cons #[t,J] (yb0 h)
def vka(H:Hp):Prop:=∀b,H b=none\/∃o xs,H b=some (.frz o (.lst xs))
def you{P:qi}{w:qe}{K:xy}{mg mb:Ε}{CX:CXT}{k:Nat}{fa:qa}{x:Str}{sp:Sp}{s₁:qb}{vs:Ξ}{ns:Ο}
  (KX:K.In s₁.heap) (hns:s₁.heap.Ns mainGlobals mg) (hb:s₁.heap.Ns builtinsNs mb) (hbb:∀x:Str,x≠"__name__"->mb x=bootBuiltins x) (hlim:s₁.heap.NoLimit) (hg:s₁.gens=#[])
  (ha:s₁.heap.get? a=some { cls:=.type "list",data:=.seq vs.toArray}) (hi:IntsAre vs ns) (hl:↑ns<=sizeLine) (hr:jx k callerA)
  (F:∀base:qg,K.In base->base.Ns mainGlobals mg->vq P w K mg base CX k fa fd [x] sp) (hbind:∀(s:qb)(u:qc),BindsTo s fd #[[u],[]] [(x,u)])
  (hsp:∀H:Hp,vka H->SqL K H a ↥ns->sp [.ref a] H (λv W=>v=.bl true) λW W W=>False)
  (hCX:∀H e s',CX [] H s₁ (λW W W=>False) e s'->False):
  codeAny (model P w) callerA (.call ⇑fa #[[.ref a],[]]) (λr s'=>r=.ok (.ret (.bool true))/\OldK s₁.heap s'.heap/\s'.os=s₁.os/\AllBare s'.gens) s₁:=by
 let I:=yb0 hi;let t:=↑hi;have g:∀H:Hp,vka H->SqL K H a ↥ns->HOk P w H s₁.heap->(∀b,H b≠none->b=a)->(H a≠none->K.lookup a=none) ->
   codeAny (model P w) callerA (.call ⇑fa #[[.ref a],[]]) (λr s'=>r=.ok (.ret (.bool true))/\OldK s₁.heap s'.heap/\s'.os=s₁.os/\AllBare s'.gens) s₁:=by
  intro H E X y G R;have c:∀{b:qa}{o:Obj},s₁.heap.get? b=some o->H b=none->(ypz s₁.heap H).get? b=some o:=λe n=>yol e n
  have D:∀{b:qa}{o:Obj}{p:Array DictEntry}{A:Nat},s₁.heap.get? b=some o->o.data=.dict p A->H b=none:=λ{b o p A}e d=>by
   cases q:H b with
   |none=>rfl
   |some u =>
    have C:b=a:=G b (by rw[q];simp);subst C;rw[ha]at e;cases e;have U:Data.seq vs.toArray _=Data.dict p A:=d;cases U
  have f:∀{b:qa}{m:Ε},s₁.heap.Ns b m->(ypz s₁.heap H).Ns b m:=λ{b m} ⟨o,p,A,e,d,r⟩=>#[o,p,A,c e (D e d),d,r]
  have B:K.In (ypz s₁.heap H):=λb o e=>c (KX b o e) (by
   cases q:H b with
   |none=>rfl
   |some u =>
    have C:b=a:=G b (by rw[q];simp);subst C;rw[R (by rw[q];simp)]at e;cases e)
  have O:Mod K mg (ypz s₁.heap H):=#[B,f hns,#[mb,f hb,hbb],let ⟨mc,h1,h2⟩:=hlim;#[mc,f h1,h2]];have M:yx8 P w K mg (ypz s₁.heap H) callerA [] s₁ H:=#[J,O,λb o e=>yxw e,Nat.le_of_eq (yij _ _),trivial,λb hb=>absurd (show b∈([]:Φ)from hb) (by simp),y,.of_eq hg];erw[codeAny_mono ((F _ B (f hns)).run callerA [] s₁ H #[[.ref a],[]] [.ref a] [.ref a] _ _ hr M (hbind s₁ ⇑a) (.cons J .nil) (hsp H E X)) λr s' h=>?_]
  cases r with
  |error e=>erw[(hCX H e s' h).elim]
  |ok fl =>
   cases fl with
   |next=>erw[False.elim h]
   |brk=>erw[False.elim h]
   |cont=>erw[False.elim h]
   |ret u =>
    let#[v,H',os,j,ς,l,N,q]:=h;have Y:v=.bl true:=q;subst Y;obtain rfl:u=Value.bool true:=N;erw[J,OldK.of_keep λb o e=>?_,os,j]
    cases q:H b with
    |none=>erw[ς.keep b o e q (by intro z;erw[absurd (show b∈([]:Φ)from z) (by simp)]) (by simp)]
    |some u =>
     rcases E b with z|⟨S,Z,z⟩
     .rw[q]at z;cases z
     .let Q:=ς.frzs b S _ z;let#[L,_]:=y b _ z;let#[T,_]:=l b _ Q;rw[e]at L;cases L;erw[T]
 cases hk:K.lookup a with
 |some o =>
  let e:=KX a o hk;rw[ha]at e;cases e;erw[g (λW=>none) (λW=>.inl J) (.inr #[_,vs.toArray,_,hk,J,J,J,by rwa[cu,t,hl],by simpa using I]) (λb u z=>by have i:(none:ql HO)=some u:=z;cases i) (λb z=>absurd J z) λz=>absurd J z]
 |none =>
  erw[g (λb=>if b=a then some (.frz { cls:=.type "list",data:=.seq vs.toArray} (.lst ↥ns))else none) (λb=>?_) (.inl (.inr #[{ cls:=.type "list",data:=.seq vs.toArray},if_pos J])) (λb u z=>?_) (λb z=>?_) λW=>hk]
  .by_cases hb:b=a
   .erw[.inr #[_,_,if_pos hb]]
   .erw[.inl (if_neg hb)]
  .by_cases hb:b=a
   .let i:=(if_pos hb).symm.trans z;cases i;subst hb;erw[ha,by rwa[bL,hl],vs,_,I,ha]
   .let i:=(if_neg hb).symm.trans z;cases i
  .by_cases hb:b=a
   .erw[hb]
   .erw[absurd (if_neg hb) z]
def walk_of{l:W.OpenLaw}{n k:Nat}{q:qi}{loose:Ρ}{XP:(Ε)->qg->Prop}{YP:qe->qg->Prop}{d:DefRec}{K:Params->xy}{CX:qe->CXT}{sp:qe->Sp}{x:Str}
  (hn:l.most=some n) (hn2:n<=sizeLine) (hdf:d.params.defaults=[]) (hr:jx k callerA)
  (hY:∀(w:qe)(h:qg),YP w h->(K w.params).In h)
  (F:∀(w:qe)(mg:Ε)(fa:qa)(h:qg),(K w.params).In h->h.Ns mainGlobals mg->mg d.name∣fa ->
   ∃fd:FuncData,(∀(s:qb)(u:qc),BindsTo s fd #[[u],[]] [(x,u)])/\
    ∀base:qg,(K w.params).In base->base.Ns mainGlobals mg->vq l.prog w (K w.params) mg base (CX w) k fa fd [x] (sp w))
  (hsp:∀(w:qe)(H:Hp)(a:qa)(ns:Ο),↑ns<=n->vka H->SqL (K w.params) H a ↥ns->sp w [.ref a] H (λv Z=>v=.bl true) λZ Z Z=>False)
  (hCX:∀(w:qe)(H:Hp)(s:qb)(e:qc)(s':qb),CX w [] H s (λZ Z Z=>False) e s'->False):
  W.WalkO q loose XP YP l.row.toRowW d [] (λf vs=>PySem.call f vs):=by refine Att.attach_call hn hdf λw s₀ s₁ mg L fa o E ς A a vs ns G Y I D t m j i c z=>?_;let p:=hY w _ Y;let#[fd,B,C]:=F w mg fa _ p G.T.g m;erw[you p G.T.g G.T.b G.T.builtins G.T.nolimit z j i (cN c hn2) hr C B (λH y r=>hsp w H a ns c y r) λH e s'=>hCX w H s₁ e s']
noncomputable def yt(s:qd)(j:Nat):qd:=match s with
 | .ClassDef _ _ _ body _ _ _ _ _ _ _=>body.getD j (.Pass #[0,0,0,0])
 |_=>.Pass #[0,0,0,0]
noncomputable def xt(s:qd):Arguments:=match s with
 | .FunctionDef _ a _ _ _ _ _ _ _ _=>a
 |_=>{ posonlyargs:=[],args:=[],vararg:=none,kwonlyargs:=[],kw_defaults:=[],kwarg:=none,defaults:=[]}
noncomputable def xi(s:qd):qj qd:=match s with
 | .FunctionDef _ _ b _ _ _ _ _ _ _=>b
 |_=>[]
noncomputable def yd(s:qd):Scope:=match s with
 | .FunctionDef _ _ _ _ _ _ sc _ _ _=>sc
 |_=>{ kind:=.function,names:=[],isGenerator:=false,isCoroutine:=false}
abbrev CX0:CXT:=λZ Z Z Z Z Z=>False
abbrev E0:XK:=λZ Z Z=>False
def vo{X:Cx}:Ĉ CX0 X E0:=λZ Z Z Z Z Z Z h=>h.elim
structure Fun(K:xy)(x qual:Str)(st:qd)(f:qa)(fd:FuncData):Prop where
 ex:∃(oc:qc)(od:ql qa)(kV doc pm:qc)(an:ql qa)(cdv ct:qc)(osl:Array (ql qc)),
  fd=W.fnOf x qual (xt st) (xi st) (yd st) .none kV doc pm an cdv ct/\K.lookup f=some #[oc,od,.func fd,osl]/\W.codeIn K cdv qual=true
 kp:W.keepIn K ⇑f=true
end
section
variable{P:qi}{w:qe}{K:xy}{mg:Ε}{base:qg}
def Fun.ok{x:Str}{f:qa}{N ps:Ρ}{k:Nat}{sp:Sp}(F:Fun K x qual st f fd)(S:yi N ps (yd st))(len:∀vs H Q E,sp vs H Q E->↑vs=↑ps)
  (hbody:N.Nodup->∀(cdv:qc)(A:qf)(outer:qj Env)(s:qb)(H:Hp)(vs:Τ)(Q:VK)(E:XK),jx k (A.deeper (envOfC qual (yd st) s.heap⁻¹ f cdv))->sp vs H Q E ->
   ∃t,PSs (vt CX0 P w K mg base N qual (yd st) f cdv A outer s H E).nox (xi st) t/\t { nx:=λZ H'=>Q .non H',rt:=Q} (Ā N vs) H):vq P w K mg base CX0 (k+1) f fd ps sp:=by let#[m,l,kV,e,j,i,cdv,n,g,J,c,b]:=F.ex;erw[ypq c b S len λA outer s H vs Q E d a=>?_];let#[t,h,q]:=hbody S.nd cdv A outer s H vs Q E d a;erw[t,h.nox,q]
def Fun.binds{x:Str}{f:qa}{ps:Ρ}(F:Fun K x qual st f fd)
  (h:∀(kV doc pm:qc)(an:ql qa)(cdv ct:qc)(us:Ξ),↑us=↑ps->bindArgs (W.fnOf x qual (xt st) (xi st) (yd st) .none kV doc pm an cdv ct) #[us,[]]=pure (ps.zip us)):u4 K fd ps []:=by let#[e,c,kV,doc,pm,an,cdv,ct,b,J,d,a]:=F.ex;erw[.all (h kV doc pm an cdv ct)]
def ysw{x:Str}{f:qa}{oc:qc}{od an:ql qa}{osl:Array (ql qc)}{kV doc pm cdv ct:qc}(l:K.lookup f=some #[oc,od,.func (W.fnOf x qual (xt st) (xi st) (yd st) .none kV doc pm an cdv ct),osl])
  (c:W.codeIn K cdv qual=true) (k:W.keepIn K ⇑f=true):Fun K x qual st f (W.fnOf x qual (xt st) (xi st) (yd st) .none kV doc pm an cdv ct):=#[#[oc,od,kV,doc,pm,an,cdv,ct,osl,J,l,c],k]
end
def ľ{A:qf}{k:Nat}(hr:jx k A):A.units+1<cLine:=Nat.lt_of_le_of_lt (Nat.add_le_add_left (by decide:1<=64) _) hr.units
section
variable{X:Cx}
def pv(i:Nat){x:Str}{pos:Pos}(hN:¬¬(X.N[i]?=some x))(hv:autoParam (Vis X.env.scope x) aI._auto_1)(hd: ~~~(((x == ("__debug__":Str))=false)))
  (hcd: ~~~((x == ("__classdict__":Str))=false)):PE X (.Name x pos) (yyj i):=yl6 hN hv hd hcd
end
mutual
def υ{A B:Prop}(h:B):if false=true then A else B:=by rwa[if_neg ci,h]
def í{A B:Prop}(h:A):if true=true then A else B:=by rwa[if_pos J,h]
def y7(H H':Hp):Prop:=∀b o,H b=some o->H' b=some o
def y7.refl(H:Hp):y7 H H:=λZ Z h=>h
def y7.trans{H H1 H2:Hp}(a:y7 H H1)(b:y7 H1 H2):y7 H H2:=λc o h=>b c o (a c o h)
def y7.free{H H':Hp}(e:y7 H H'){l:qa}(h:H' l=Option.none):H l=Option.none:=by
 cases q:H l with
 |none=>rfl
 |some o =>
  rw[e l o q]at h;cases h
def y7.seq{K:xy}{H H':Hp}{xs:Τ}(e:y7 H H')(h:SqL K H a xs):SqL K H' a xs:=by
 rcases h with(h|⟨o,h⟩)|h
 .erw[.inl (.inl (e _ _ h))]
 .erw[.inl (.inr #[o,e _ _ h])]
 .erw[.inr h]
end
section
mutual
variable{X:Cx}
def wy:j6 X (.builtin "isinstance") (λxs H Q=>∃x cv t c k,xs=[x,cv]/\xq cv c/\(∀u,xq cv u->u=c)/\jc X.K H x t/\W.kitOne X.K t c=some k/\Q (.bl k) H):=by intro a s σ H xs l Q I r h;let#[x,cv,t,c,k,J,_,i,f,e,q]:=h;let#[u,j,J,d,g]:=ypt r;obtain rfl:=i j g;erw[yi5 I d f e λb=>#[.bl k,H,I.tok b,J,q]]
def j9{x:Str}{pos:Pos}(hg:Gl X x)(hm:X.mg x=none)(hv:bootBuiltins x=some (.type T))(hn: ~~~(x≠"__name__"))(hd: ~~~(((x == ("__debug__":Str))=false))):PE X (.Name x pos) (tC (.ty T)):=yvv hg hm hv J hn hd
def vy{x:Str}{i:Int}{t:Tok}{pos:Pos}(hg:Gl X x)(hm:X.mg x=some (.int i t))(hd: ~~~(((x == ("__debug__":Str))=false))):PE X (.Name x pos) (tC (i:)):=yex hg hm #[t,J] hd
def uv{x:Str}{pos:Pos}(hg:Gl X x)(hm:X.mg x∣C)(hd: ~~~(((x == ("__debug__":Str))=false))):PE X (.Name x pos) (tC ⇑C):=yex hg hm J hd
end
mutual
inductive RdV(K:xy)(H:Hp):V->PyData->Prop
 |non:RdV K H .non .none
 |bl (b:_):RdV K H (.bl b) (.bool b)
 |int (i:_):RdV K H (.int i) (.int i)
 |str (x:_):RdV K H (.str x) (.str x)
 |lst {a xs ds:_}:SqL K H a xs->yp5 K H xs ds->RdV K H (.ref a) (.list ds)
 |tup {a xs ds:_}:SqT K H a xs->yp5 K H xs ds->RdV K H (.ref a) (.tuple ds)
inductive yp5(K:xy)(H:Hp):qj V->qj PyData->Prop
 |nil:yp5 K H [] []
 |cons {x xs d ds:_}:RdV K H x d->yp5 K H xs ds->yp5 K H (x::xs) (d::ds)
end
mutual
def RdV.reads{pins:Θ}{σ:St}{H:Hp}{s:qb}(I:(Inv X pins σ H) s){x:V}{d:PyData}{u:qc}(h:RdV X.K H x d):xq x u->∃as,Reads s.heap u d as:=by
 erw[RdV.rec (motive_1:=λx d Z=>∀u,xq x u->∃as,Reads s.heap u d as) (motive_2:=λf g Z=>∀e,w9 f e->∃as,ReadsAll s.heap e g as) ?_ ?_ ?_ ?_ ?_ ?_ ?_ ?_ h u]
 .intro u r;cases r;erw[_,.none]
 .intro b u r;cases r;erw[_,.bool _]
 .intro i u r;let#[t,J]:=r;erw[_,.int _ _]
 .intro i u r;let#[t,J]:=r;erw[_,.str _ _]
 .intro a f g j w k u r;cases r;let#[m,v,#[o,n,q,l,C,p],B]:=I.list j;let#[as,c]:=k _ v;erw[_,.list q l p (by simpa using c)]
 .intro a f g j w k u r;cases r;let#[m,v,#[o,q,l,n,p],B]:=I.tuple j;let#[as,c]:=k _ v;erw[_,.tuple q l p (by simpa using c)]
 .intro e r;cases r;erw[_,.nil]
 .intro x f d g h w y A e r
  cases r with
  |cons r rs =>
   let#[as,c]:=y _ r;let#[D,z]:=A _ rs;erw[_,.cons c z]
def yya(K:xy)(g:Bool->Bool):R2:=λx y H Q=>∃d e,RdV K H x d/\RdV K H y e/\SeqAt.shaped d=true/\SeqAt.shaped e=true/\Q (.bl (g (PyData.eqv d e))) H
def ysr(hu:X.A.units+64<cLine):OpR X (compareOp .Eq) (yya X.K λb=>b):=by intro a s σ H x y v u Q I l m h;let#[d,e,j,f,k,c,q]:=h;let#[n,i]:=j.reads I l;let#[o,g]:=f.reads I m;erw[eq_dataH i g k c hu #[.bl _,H,I,J,q]]
def ċ(hu:X.A.units+64<cLine):OpR X (compareOp .NotEq) (yya X.K λb=>!b):=by intro a s σ H x y v u Q I l m h;let#[d,e,j,f,k,c,q]:=h;let#[n,i]:=j.reads I l;let#[o,g]:=f.reads I m;erw[ne_dataH i g k c hu #[.bl _,H,I,J,q]]
theorem ı{K:xy}{H:Hp}:∀ns:Ο,yp5 K H ↥ns (ns.map PyData.int)
 |[]=>.nil
 |n::r=>.cons (n:) (ı r)
theorem Ī:∀ns:Ο,PyData.canLayAll0 (ns.map PyData.int)=true
 |[]=>rfl
 |_::r=>by simp[PyData.canLayAll0,PyData.canLay0,Ī r]
theorem Ř:∀ns:Ο,PyData.depthAll (ns.map PyData.int)=0
 |[]=>rfl
 |_::r=>by simp[PyData.depthAll,PyData.depth,Ř r]
def Ŝ(ns:Ο):SeqAt.shaped (.list (ns.map PyData.int))=true:=by simp[SeqAt.shaped,PyData.canLay0,PyData.depth,Ī,Ř]
theorem ħ:∀ns ms:Ο,PyData.eqvAll (ns.map PyData.int) (ms.map PyData.int)=decide (ns=ms)
 |[],[]=>by simp[PyData.eqvAll]
 |[],_::_=>by simp[PyData.eqvAll]
 |_::_,[]=>by simp[PyData.eqvAll]
 |a::r,b::t=>by
  simp only[cO,PyData.eqvAll,PyData.eqv,ħ r t];by_cases h:a=b<;>by_cases h':r=t<;>simp[h,h']
def vi3{K:xy}{g:Bool->Bool}{H:Hp}{Q:VK}{b:qa}(ns ms:Ο)(ha:SqL K H a ↥ns)(hb:SqL K H b ↥ms)(h:Q (.bl (g (decide (ns=ms)))) H):yya K g ⇑a ⇑b H Q :=
 #[_,_,.lst ha (ı ns),.lst hb (ı ms),Ŝ ns,Ŝ ms,by rwa[PyData.eqv,ħ,h]]
def vh6(_ j:Int):Prop:=0<j/\j<2^200
def vk:OpR X (binaryOp .FloorDiv) (rI vh6 λi j=>.int (i/j)):=opI λi j Z Z Z Z Z a q=>by
 let#[c,d]:=a;erw[floordiv_int () ?_ (.inl (PyProof.noPylong_of_log2 ?_))]
 .rw[Int.fdiv_eq_ediv_of_nonneg _ ()];erw[q]
 .have e:j.natAbs<2^200:=()
  have b:j.natAbs≠0:=()
  have:=(Nat.log2_lt b).mpr e;omega
def vkx(t:TS):TS:=λD σ H=>∃M:Ζ,t {D with nx:=M} σ H/\∀σ' H',M σ' H'->D.nx σ' H'
def Î{t:TS}(h:PS X st t):PS X st (vkx t):=by
 erw[.mk λa s σ H D I ⟨M,d,c⟩=>?_,<-thn (h a s σ H {D with nx:=M} I d) λf g q=>?_]
 cases f with
 |next =>
  let#[σ',b,e,q]:=q;erw[σ',b,e,c σ' b q]
 |ret v=>erw[q]
 |brk=>erw[q]
 |cont=>erw[q]
end
end
def wj(nx:Ζ)(σ:St)(H:Hp):Prop:=nx σ H
section
mutual
variable{K:xy}{σ:St}{H:Hp}{Q:VK}{QB:Bool->Hp->Prop}{QL:qj V->Hp->Prop}{v x y:V}{i j:Int}{b:Bool}{ta tb tc te:TE}{t u:TS}{tA tB':TT}{tr:TA}{D:ď}
 {nx bk ct:Ζ} {rt:VK} {A B:Prop}
def yj{N:Ρ}{vs:Τ}{σ':St}(e:Ā N vs=σ')(h:t D σ' H):t D (Ā N vs) H:=by rwa[e,h]
def yx5{k:Nat}(e:σ[k]?=some (some v))(h:Q v H):yyj k σ H Q:=#[v,e,h]
def i_c(h:Q v H):tC v σ H Q:=h
def vlu{r:R2}(h:ta σ H λx H1=>tb σ H1 λy H2=>r x y H2 Q):tOp r ta tb σ H Q:=h
def vld{r:V->Hp->VK->Prop}(h:ta σ H λx H1=>r x H1 Q):tUn r ta σ H Q:=h
def vlf{g:Int->Int->V}(h:Q (g i j) H):rI0 g (i:) (j:) H Q:=#[i,j,J,J,h]
def i_I{C:Int->Int->Prop}{g:Int->Int->V}(hc:C i j)(h:Q (g i j) H):rI C g (i:) (j:) H Q:=#[i,j,J,J,hc,h]
def i_U{g:Int->V}(h:Q (g i) H):rU g (i:) H Q:=#[i,J,h]
def vi0(h:Q (.bl (decide (i=j))) H):rEq (i:) (j:) H Q:=#[J,by
 have e:decide (V.int i=V.int j)=decide (i=j):=(by simp)
 rwa[e,h]]
def yym(h:ta σ H λx H'=>∃k,x=.bl k/\QB k H'):yxz ta σ H QB:=h
def vlq(h:ta σ H λx H'=>∃k,x=.bl k/\QB k H'):tB ta σ H QB:=h
def vlr{P:Bool->Prop}(h:P b):∃k,V.bl b=V.bl k/\P k:=#[b,J,h]
def yxa{r r':R2}(h:ta σ H λx H1=>tb σ H1 λy H2=>r x y H2 λz H3=>∃k,z=.bl k/\(if k=true then tc σ H3 λw' H4=>r' y w' H4 Q else Q (.bl false) H3)):yls r r' ta tb tc σ H Q:=h
def vcj(h:ta σ H λx H1=>∃c,x=.bl c/\if c=true then tb σ H1 Q else Q (.bl false) H1):vew ta tb σ H Q:=h
def yy3(h:ta σ H λx H1=>∃c,x=.bl c/\Q (.bl (!c)) H1):vft ta σ H Q:=h
def vh4{t1 t2:TT}(h:t1 σ H λc H1=>if c=true then t2 σ H1 QB else QB false H1):vke t1 t2 σ H QB:=h
def vle{t1 t2:TT}(h:t1 σ H λc H1=>if c=true then QB true H1 else t2 σ H1 QB):tOr t1 t2 σ H QB:=h
def viv{t1:TT}(h:t1 σ H λc H1=>QB (!c) H1):vk5 t1 σ H QB:=h
def vim(h:tA σ H λc H1=>if c=true then ta σ H1 Q else tb σ H1 Q):tIf tA ta tb σ H Q:=h
structure Nx(u nx:Ζ):Prop where
 go:∀σ H,u σ H->nx σ H
def yz2(h:∀nx bk ct:Ζ,Nx (u D) nx->Nx D.bk bk->Nx D.ct ct->t #[nx,D.rt,bk,ct] σ H):vj3 t u D σ H:=h (u D) D.bk D.ct ⟨λZ Z z=>z⟩ ⟨λZ Z z=>z⟩ ⟨λZ Z z=>z⟩
def yx7{u nx:Ζ}(h:Nx u nx)(q:u σ H):nx σ H:=h.go _ _ q
def vap(h:nx σ H):vff #[nx,rt,bk,ct] σ H:=h
def vi6(h:te σ H rt):vku te #[nx,rt,bk,ct] σ H:=h
def vdk(h:te σ H λZ H1=>nx σ H1):vf1 te #[nx,rt,bk,ct] σ H:=h
def vlw(h:tA σ H λc H1=>if c=true then t D σ H1 else u D σ H1):vk8 tA t u D σ H:=h
def ye5(M:Ζ)(h1:t #[M,rt,bk,ct] σ H)(h2:∀σ' H',M σ' H'->nx σ' H'):vkx t #[nx,rt,bk,ct] σ H:=#[M,h1,h2]
def vjt{g:TG}(h:te σ H λx H1=>g x σ H1 nx):vhq te g #[nx,rt,bk,ct] σ H:=h
def vcx{sp:Sp}{dvs:Τ}{E:XK}(h:tr σ H λvs H1=>sp (vs++dvs) H1 Q E):yxy sp dvs E tr σ H Q:=h
def vbv(h:ta σ H λx H1=>tr σ H1 λxs H2=>QL (x::xs) H2):ymv ta tr σ H QL:=h
def vjr(h:QL [] H):yie σ H QL:=h
def vl1{r:qj V->Hp->VK->Prop}(h:tr σ H λvs H1=>r vs H1 Q):tCB r tr σ H Q:=h
def vjo(h:tr σ H λxs H1=>↑xs<=sizeLine/\∀p,H1 p=none->Q ⇑p (upd H1 p (.tup xs))):vkv tr σ H Q:=h
def vh5(h:tr σ H λxs H1=>↑xs<=sizeLine/\∀p,H1 p=none->Q ⇑p (upd H1 p (.lst xs))):vkj tr σ H Q:=h
def ĺ{m:Str}{sp:Sp}{dvs:Τ}{E:XK}(h:ta σ H λx H1=>∃a dx fs,x=.ref a/\H1 a∩C dx fs/\fs.lookup m=none/\tr σ H1 λvs H2=>sp (x::(vs++dvs)) H2 Q E):Ŏ C m sp dvs E ta tr σ H Q:=h
def vin{f:Str}(h:ta σ H λx H1=>∃a C dx fs v,x=.ref a/\H1 a∩C dx fs/\Cls K C/\NoAttr K C f/\fs.lookup f=some v/\Q v H1):vhw K ta f σ H Q:=h
def vav{f:Str}(h:tb σ H λy H1=>ta σ H1 λx H2=>∃a C dx fs,x=.ref a/\H2 a∩C dx fs/\Cls K C/\NoAttr K C f/\↑fs<1000/\wj nx σ (upd H2 a (.ins C dx (É f y fs)))):vkl K ta tb f #[nx,rt,bk,ct] σ H:=h
def vl6{r:V->ql Int->ql Int->Hp->VK->Prop}{tl th:TO}(h:te σ H λx H1=>tl σ H1 λl H2=>th σ H2 λu H3=>r x l u H3 Q):tSl r te tl th σ H Q:=h
def yok{QO:ql Int->Hp->Prop}(h:QO none H):yle σ H QO:=h
def vdx{QO:ql Int->Hp->Prop}(h:ta σ H λx H1=>∃i,x=.int i/\QO (some i) H1):ve3 ta σ H QO:=h
def vjx{P:Int->Prop}(h:P i):∃k,V.int i=V.int k/\P k:=#[i,J,h]
def vb4(h:A):V.non=V.non/\A:=#[J,h]
def g0{a0:Χ}{r:St}{N:Ζ}(h:N (some v::r) H):xm 0 v (a0::r) H N:=h
def g1{a0 a1:Χ}{r:St}{N:Ζ}(h:N (a0::some v::r) H):xm 1 v (a0::a1::r) H N:=h
def g2{a0 a1 a2:Χ}{r:St}{N:Ζ}(h:N (a0::a1::some v::r) H):xm 2 v (a0::a1::a2::r) H N:=h
def g3{a0 a1 a2 a3:Χ}{r:St}{N:Ζ}(h:N (a0::a1::a2::some v::r) H):xm 3 v (a0::a1::a2::a3::r) H N:=h
def g4{a0 a1 a2 a3 a4:Χ}{r:St}{N:Ζ}(h:N (a0::a1::a2::a3::some v::r) H):xm 4 v (a0::a1::a2::a3::a4::r) H N:=h
def g5{a0 a1 a2 a3 a4 a5:Χ}{r:St}{N:Ζ}(h:N (a0::a1::a2::a3::a4::some v::r) H):xm 5 v (a0::a1::a2::a3::a4::a5::r) H N:=h
def g6{a0 a1 a2 a3 a4 a5 a6:Χ}{r:St}{N:Ζ}(h:N (a0::a1::a2::a3::a4::a5::some v::r) H):xm 6 v (a0::a1::a2::a3::a4::a5::a6::r) H N:=h
def g7{a0 a1 a2 a3 a4 a5 a6 a7:Χ}{r:St}{N:Ζ}(h:N (a0::a1::a2::a3::a4::a5::a6::some v::r) H):xm 7 v (a0::a1::a2::a3::a4::a5::a6::a7::r) H N:=h
def g8{a0 a1 a2 a3 a4 a5 a6 a7 a8:Χ}{r:St}{N:Ζ}(h:N (a0::a1::a2::a3::a4::a5::a6::a7::some v::r) H):xm 8 v (a0::a1::a2::a3::a4::a5::a6::a7::a8::r) H N:=h
def g9{a0 a1 a2 a3 a4 a5 a6 a7 a8 a9:Χ}{r:St}{N:Ζ}(h:N (a0::a1::a2::a3::a4::a5::a6::a7::a8::some v::r) H):xm 9 v (a0::a1::a2::a3::a4::a5::a6::a7::a8::a9::r) H N:=h
def g10{a0 a1 a2 a3 a4 a5 a6 a7 a8 a9 a10:Χ}{r:St}{N:Ζ}(h:N (a0::a1::a2::a3::a4::a5::a6::a7::a8::a9::some v::r) H):xm 10 v (a0::a1::a2::a3::a4::a5::a6::a7::a8::a9::a10::r) H N:=h
def ũ{n:Nat}{tg:TGs}{xs:Τ}{N:Ζ}(hq:SqT K H a xs)(hl:↑xs=n)(h:tg xs σ H N):yyc K n tg ⇑a σ H N:=#[a,xs,J,hq,hl,h]
def ywj{tg:TG}{us:TGs}{r:Τ}{N:Ζ}(h:tg v σ H λσ' H'=>us r σ' H' N):ja tg us (v::r) σ H N:=#[v,r,J,h]
def yzf{N:Ζ}(h:N σ H):ymy [] σ H N:=#[J,h]
def z9{p:Prop}[Decidable p](h1:p->A)(h2:¬p->B):if decide p=true then A else B:=by
 by_cases h:p
 .rw[if_pos (bV h)];erw[h1 h]
 .rw[if_neg (by simp[h])];erw[h2 h]
def Ő{p:Prop}[Decidable p](hp:p)(h:A):if decide p=true then A else B:=by rwa[if_pos (bV hp),h]
def yc9{p:Prop}[Decidable p](hp:¬p)(h:B):if decide p=true then A else B:=by rwa[if_neg (by simp[hp]),h]
def vhh{p:Prop}[Decidable p](hp:p)(h:B):if (!decide p)=true then A else B:=by rwa[if_neg (by simp[hp]),h]
def vju{p:Prop}[Decidable p](hp:¬p)(h:A):if (!decide p)=true then A else B:=by rwa[if_pos (by simp[hp]),h]
def vht{p:Prop}[Decidable p](h1:p->B)(h2:¬p->A):if (!decide p)=true then A else B:=by
 by_cases h:p
 .erw[vhh h (h1 h)]
 .erw[vju h (h2 h)]
def vib(h:B):if (!true)=true then A else B:=υ h
def vja(h:A):if (!false)=true then A else B:=í h
def vi5{α:Type}{z:α}[Decidable (z=z)](h:A):if decide (z=z)=true then A else B:=Ő J h
def x8{f:Str}{r:Ι}:List.lookup f ((f,v)::r)=some v:=by simp[List.lookup]
def wg{f g:Str}{r:Ι}{o:Χ}(h:¬f=g)(e:List.lookup f r=o):List.lookup f ((g,v)::r)=o:=by
 have a:(f == g)=false:=by simp[h]
 simp[List.lookup,a,e]
def Ï{f:Str}:List.lookup f ([]:Ι)=none:=rfl
def jw{f:Str}{r:Ι}:É f v ((f,x)::r)=(f,v)::r:=by simp[É]
def wa{f g:Str}{r r':Ι}(h:¬g=f)(e:É f v r=r'):É f v ((g,x)::r)=(g,x)::r':=by simp[É,h,e]
def wt{f:Str}:É f v []=[(f,v)]:=rfl
def zx{c:qa}{o o':HO}(hn:H a=none)(h:H c=some o):upd H a o' c=some o:=by rwa[yk (yb h hn),h]
def ye{c:qa}{o o':HO}(hn:c≠a)(h:H c=some o):upd H a o' c=some o:=by rwa[yk hn,h]
def y9{o:HO}(hn:H a=none):y7 H (upd H a o):=λZ Z h=>zx hn h
def y7.tup{H':Hp}{xs:Τ}(e:y7 H H')(h:SqT K H a xs):SqT K H' a xs:=by
 rcases h with(h|⟨o,h⟩)|h
 .erw[.inl (.inl (e _ _ h))]
 .erw[.inl (.inr #[o,e _ _ h])]
 .erw[.inr h]
def ycz{tb:TS}{W:Nat->St->Hp->Prop}{m:Nat}(h:tb #[λσ' H'=>∃m',m'<m/\W m' σ' H',rt,nx,λσ' H'=>∃m',m'<m/\W m' σ' H'] σ H):
  ∃N:Ζ,(∀σ' H',N σ' H'->∃m',m'<m/\W m' σ' H')/\tb #[N,rt,nx,N] σ H:=#[_,λZ Z q=>q,h]
def va8{sp:Sp}{dvs:Τ}{E:XK}(h:tr σ H λvs H1=>∀x dx,H1 x=none->H1 dx=none->dx≠x->sp (.ref x::(vs++dvs)) (upd (upd H1 dx (.own x)) x (.ins C dx [])) (λv H2=>v=.non/\Q ⇑x H2) E):yx0 C sp dvs E tr σ H Q:=h
def vlc{r:V->qj V->Hp->VK->Prop}(h:ta σ H λx H1=>tyV K T x H1/\tr σ H1 λxs H2=>r x xs H2 Q):tBM K T r ta tr σ H Q:=h
def vi2{r:V->qj V->Hp->VK->Prop}(h:ta σ H λx H1=>tyV K T x H1/\r x [] H1 Q):vk2 K T r ta σ H Q:=h
def jn{p:qa}{xs:Τ}(h:H p\xs)(k:A):tyV K "list" ⇑p H/\A:=#[.inl #[J,_,SqL.of h],k]
def xr{l:qa}{xs:Τ}(h:H l\xs)(hz:↑xs<sizeLine)(k:Q .non (upd H l (.lst (xs++[y])))):yk2 ⇑l [y] H Q:=#[l,xs,y,J,J,h,hz,k]
def yb7{l:qa}{xs:Τ}(h:H l\xs)(k:Q .non (upd H l (.lst xs.reverse))):ygc ⇑l [] H Q:=#[l,xs,J,J,h,k]
def uz{p:qa}{ys:Τ}{P:qj V->Prop}(h:SqL K H p ys)(k:P ys):∃p' ys',[V.ref p]=[V.ref p']/\(SqL K H p' ys'\/SqT K H p' ys')/\P ys':=#[p,ys,J,.inl h,k]
def ysb{p:qa}{ys:Τ}{P:qj V->Prop}(h:SqT K H p ys)(k:P ys):∃p' ys',[V.ref p]=[V.ref p']/\(SqL K H p' ys'\/SqT K H p' ys')/\P ys':=#[p,ys,J,.inr h,k]
def yau{p:qa}{ys:Τ}{P:qj V->Prop}(h:SqL K H p ys)(k:P ys):∃p' ys',[V.ref p]=[V.ref p']/\(SqL K H p' ys'\/SqT K H p' ys')/\P ys':=#[p,ys,J,.inl h,k]
def ul{p:qa}{xs:Τ}(h:SqL K H p xs)(e:atI xs i=some v)(k:Q v H):yty K ⇑p (i:) H Q:=#[p,xs,i,v,J,J,h,e,k]
def yc7{p:qa}{xs:Τ}(h:SqT K H p xs)(e:atI xs i=some v)(k:Q v H):vkf K ⇑p (i:) H Q:=#[p,xs,i,v,J,J,h,e,k]
def ybg{p:qa}{xs:Τ}{lo hi:ql Int}(h:SqL K H p xs)(k:∀q,H q=none->Q ⇑q (upd H q (.lst (ydf xs lo hi)))):vkq K ⇑p lo hi H Q:=#[p,xs,J,h,k]
def jz{xs:Τ}(n:Nat):ydf xs none (some (n:Int))=xs.take n:=by
 unfold ydf;rw[HT.sIx_none,HT.sIx_nat,List.drop_zero,Nat.sub_zero];rcases Nat.le_total n ↑xs with h|h
 .rw[Nat.min_eq_left h]
 .rw[Nat.min_eq_right h,cU (bT _),cU h]
def vjl{wi:TI}{g:TG}{tb:TS}(h:wi σ H λς H1=>∃W:Nat->Nat->St->Hp->Prop,(∃m,W 0 m σ H1)/\∀i m σ H,W i m σ H ->
  (ς.stop i H/\D.nx σ H)\/(ς.go i H/\∃N:Ζ,(∀σ' H',N σ' H'->∃m',m'<m/\W (i+1) m' σ' H')/\∀x H',ς.yld i H x H'->g x σ H' λσ2 H2=>tb {D with nx:=N,ct:=N,bk:=D.nx} σ2 H2)):vk4 wi g tb D σ H:=h
def yuh{R:It->Hp->Prop}(h:ta σ H λx H1=>∃a,x=.ref a/\(∃xs,SqL K H1 a xs)/\R (Itl K a) H1):vfr K ta σ H R:=h
def vau{R:It->Hp->Prop}(h:ta σ H λx H1=>∃a,x=.ref a/\(∃xs,SqT K H1 a xs)/\R (Itt K a) H1):vlb K ta σ H R:=h
def yv1{R:It->Hp->Prop}(h:tr σ H λvs H1=>∃j:Int,vs=[.int j]/\-(2^62)<=j/\j<2^62/\R (Itr 0 j.toNat) H1):vef tr σ H R:=h
def ŏ{n m:String}{k:Bool}{P:Bool->Prop}(ty:jc K H x (.type n))(e:W.kitOne K (.type n) (.type m)=some k)(h:P k):
  ∃x' cv t c k',[x,V.ty m]=[x',cv]/\xq cv c/\(∀u,xq cv u->u=c)/\jc K H x' t/\W.kitOne K t c=some k'/\P k':=#[x,.ty m,.type n,.type m,k,J,J,λZ r=>r,ty,e,h]
def yv7(h:nx σ H):wj nx σ H:=h
end
end
mutual
noncomputable def yqm:V->Bool
 | .int _=>true
 | .bl _=>true
 |_=>false
noncomputable def yku:V->Bool
 | .bl _=>true
 |_=>false
noncomputable def ê:V->Bool
 | .int _=>true
 |_=>false
def yfk(K:xy)(n:String):W.kitOne K (.type n) (.type n)=some true:=by unfold W.kitOne;rw[if_pos (by simp)]
def yxk{K:xy}{H:Hp}{x:V}{n:String}(ty:jc K H x (.type n)):W.kitOne K (.type n) (.type "int")=some (yqm x):=by cases ty<;>rfl
def ypk{K:xy}{H:Hp}{x:V}{n:String}(ty:jc K H x (.type n)):W.kitOne K (.type n) (.type "bool")=some (yku x):=by cases ty<;>rfl
end
end L2
namespace SpanMath
mutual
def Ch(c:Int):Prop:=32768<=c/\c<=16744448
noncomputable def ren(l w s:Int):Int×Int×Int :=
 if w<4294967296 then (if w*256<4294967296 then (l*65536,w*65536,s+2)else (l*256,w*256,s+1))else (l,w,s)
noncomputable def cut(w c:Int):Int:=w*c/16777216
def nar(x:Int×Int×Int)(c b:Int):Int×Int×Int :=
 if b=1 then ren x.1 (cut x.2.1 c) x.2.2 else ren (x.1+cut x.2.1 c) (x.2.1-cut x.2.1 c) x.2.2
noncomputable def s0:Int×Int×Int:=(0,1099511627776,5)
def ynj{l w s:Int}(h:w<4294967296)(h2:8388608<=w):ren (l*256) (w*256) (s+1)=ren l w s:=by
 unfold ren;rw[if_pos h];by_cases h3:w*256<4294967296
 .rw[if_pos h3,if_pos h3,if_neg ()];refine Prod.ext ?_ (Prod.ext ?_ ?_)
  .show l*256*256=l*65536;omega
  .show w*256*256=w*65536;omega
  .show s+1+1=s+2;omega
 .rw[if_neg h3,if_neg h3]
def yvw{l w s:Int}(h:¬w<4294967296):ren l w s=(l,w,s):=by unfold ren;rw[if_neg h]
def yc6{w c:Int}(hw:4294967296<=w)(hw2:w<=1099511627776)(hc:Ch c):8388608<=cut w c/\8388608<=w-cut w c/\cut w c<1099511627776:=by let#[a,d]:=hc;have b:w*32768<=w*c:=di a ();have e:w*c<=w*16744448:=di d ();unfold cut;generalize w*c=p at b e⊢;omega
structure Ok(x:Int×Int×Int):Prop where
 l0:0<=x.1
 w0:4294967296<=x.2.1
 w1:x.2.1<=1099511627776
 z:5<=x.2.2
def ok0:Ok s0:=#[∅,∅,∅,∅]
def ytc{l w s:Int}(h0:0<=l)(h1:8388608<=w)(h2:w<=1099511627776)(h3:5<=s):Ok (ren l w s):=by
 unfold ren
 split
 .split
  .exists by show 0<=l*65536;omega,by show _<=w*65536;omega,by show w*65536<=_;omega,by show 5<=s+2;omega
  .exists by show 0<=l*256;omega,by show _<=w*256;omega,by show w*256<=_;omega,by show 5<=s+1;omega
 .erw[h0,by show _<=w;omega,h2,h3]
def yzm{x:Int×Int×Int}{c b:Int}(h:Ok x)(hc:Ch c):Ok (nar x c b):=by
 let#[d,a,e]:=yc6 h.w0 h.w1 hc;have:=h.l0;have:=h.w0;have:=h.w1;have:=h.z;unfold nar
 split
 .erw[ytc () () () ()]
 .erw[ytc () () () ()]
noncomputable def pw:Nat->Int
 |0=>1
 |k+1=>pw k*256
theorem jj:∀k,0<pw k
 |0=>by decide
 |k+1=>by have:=jj k;show 0<pw k*256;omega
theorem yge(a:Nat):∀b,pw (a+b)=pw a*pw b
 |0=>by simp[pw]
 |b+1=>by
  show pw (a+b)*256=pw a*(pw b*256);rw[yge a b,Int.mul_assoc]
def yk7{a b:Nat}(h:a<=b):pw a<=pw b:=by
 let#[c,J]:=Nat.exists_eq_add_of_le h;rw[yge];let d:=jj a;let e:=jj c
 calc pw a=pw a*1:=()
  _<=pw a*pw c:=di () ()
def ve2{a b:Nat}(h:pw a<pw b):a<b:=by apply Nat.lt_of_not_le;intro q;have:=yk7 q;omega
noncomputable def lo:Nat->Int->qj Int
 |0,_=>[]
 |k+1,n=>n%256::lo k (n/256)
def wr(k:Nat)(n:Int):Ο:=(lo k n).reverse
theorem ys2:∀k n,↑(lo k n)=k
 |0,_=>rfl
 |k+1,n=>by simp[lo,ys2 k]
def vaj(k:Nat)(n:Int):↑(wr k n)=k:=by simp[wr,ys2]
theorem ylj:∀k n,∀x∈lo k n,0<=x/\x<=255
 |0,_,x,h=>by simp[lo]at h
 |k+1,n,x,h=>by
  simp only[lo,bZ]at h;rcases h with rfl|h
  .omega
  .erw[ylj k _ x h]
def yxs(k:Nat)(n:Int):∀x∈wr k n,0<=x/\x<=255:=λx h=>ylj k n x (by simpa[wr]using h)
def yw2(k:Nat)(n:Int):wr (k+1) n=wr k (n/256)++[n%256]:=by simp[wr,lo]
noncomputable def val(xs:Ο):Int:=xs.foldl (λa b=>a*256+b) 0
def yfb(xs:Ο)(b:Int):val (xs++[b])=val xs*256+b:=by simp[val,List.foldl_append]
theorem yr9:∀(k:Nat)(n:Int),0<=n->n<pw k->val (wr k n)=n
 |0,n,h0,h1=>by
  have:n<1:=h1;have:n=0:=()
  subst this;rfl
 |k+1,n,h0,h1=>by
  have a:n<pw k*256:=h1;rw[yw2,yfb,yr9 k (n/256) () ()];omega
noncomputable def vlv:Nat->Int->Int->Nat
 |0,_,_=>0
 |n+1,a,b=>if a=b then 0 else vlv n (a/256) (b/256)+1
abbrev Sn:=Int×Int×Int
noncomputable def sz(x:Sn):Nat:=x.2.2.toNat
structure OkS(x:Sn):Prop where
 ok:Ok x
 top:x.1+x.2.1<=pw (sz x)
theorem OkS.sz{x:Sn}(h:OkS x):((sz x:Nat):Int)=x.2.2:=by have:=h.ok.z;unfold SpanMath.sz;omega
def OkS.sz5{x:Sn}(h:OkS x):5<=SpanMath.sz x:=by have:=h.ok.z;unfold SpanMath.sz;omega
def vj4:OkS s0:=#[ok0,∅]
structure Sub(x y:Sn)(r:Nat):Prop where
 z:sz y=sz x+r
 l:x.1*pw r<=y.1
 h:y.1+y.2.1<=(x.1+x.2.1)*pw r
def yky{l w s:Int}(hs:0<=s):∃r,Sub (l,w,s) (ren l w s) r/\(ren l w s).2.1=w*pw r/\(ren l w s).1=l*pw r:=by
 unfold ren
 split
 .split
  .refine#[2,#[?_,?_,?_],?_,?_]
   .show (s+2).toNat=s.toNat+2;omega
   .show l*(1*256*256)<=l*65536;omega
   .show l*65536+w*65536<=(l+w)*(1*256*256);omega
   .show w*65536=w*(1*256*256);omega
   .show l*65536=l*(1*256*256);omega
  .refine#[1,#[?_,?_,?_],?_,?_]
   .show (s+1).toNat=s.toNat+1;omega
   .show l*(1*256)<=l*256;omega
   .show l*256+w*256<=(l+w)*(1*256);omega
   .show w*256=w*(1*256);omega
   .show l*256=l*(1*256);omega
 .refine#[0,#[?_,?_,?_],?_,?_]
  .rfl
  .show l*1<=l;omega
  .show l+w<=(l+w)*1;omega
  .show w=w*1;omega
  .show l=l*1;omega
def yw8{x:Sn}{c b:Int}(h:Ok x)(hc:Ch c):∃r,Sub x (nar x c b) r:=by
 let#[f,g,j]:=yc6 h.w0 h.w1 hc;let i:=h.l0;let k:=h.z;unfold nar
 split
 .let#[r,#[a,e,d],_]:=yky (l:=x.1) (w:=cut x.2.1 c) (s:=x.2.2) ();erw[r,a,e,Int.le_trans d (db ?_ (Int.le_of_lt (jj r)))];show x.1+cut x.2.1 c<=x.1+x.2.1;omega
 .let#[r,#[a,e,d],_]:=yky (l:=x.1+cut x.2.1 c) (w:=x.2.1-cut x.2.1 c) (s:=x.2.2) ();exists r,a,Int.le_trans (db ?_ (Int.le_of_lt (jj r))) e,Int.le_trans d (db ?_ (Int.le_of_lt (jj r)))
  .show x.1<=x.1+cut x.2.1 c;omega
  .show x.1+cut x.2.1 c+(x.2.1-cut x.2.1 c)<=x.1+x.2.1;omega
def yec{x:Sn}{c b:Int}(h:OkS x)(hc:Ch c):OkS (nar x c b):=by exists yzm h.ok hc,?_;let#[r,q]:=yw8 (b:=b) h.ok hc;rwa[q.z,yge,Int.le_trans q.h (db h.top (Int.le_of_lt (jj r)))]
noncomputable def blk(l e:Int):Int:=(l+e-1)/e
def ydg(l w:Int)(k:Nat):Prop:=(blk l (pw k)+1)*pw k<=l+w
instance (l w:Int)(k:Nat):Decidable (ydg l w k):=inferInstanceAs (Decidable ((blk l (pw k)+1)*pw k<=l+w))
def ysv(l:Int){e:Int}(h:0<e):l<=blk l e*e/\blk l e*e<l+e:=by unfold blk;let a:=Int.emod_add_mul_ediv (l+e-1) e;let b:=dB (l+e-1) (show e≠0 by omega);let c:=dn (l+e-1) h;rw[Int.mul_comm]at a;generalize (l+e-1)/e*e=q at a⊢;omega
def yk8{l w:Int}{k:Nat}(h:ydg l w k):pw k<=w:=by have a:=ysv l (jj k);unfold ydg at h;rw[Int.add_mul]at h;omega
noncomputable def tel(l w:Int):Nat->Nat->Nat
 |0,k=>k
 |f+1,k=>if ydg l w (k+1)then tel l w f (k+1)else k
def ym9{l w:Int}{f k:Nat}(h:ydg l w (k+1)):tel l w f (k+1)=tel l w (f+1) k:=by rw[tel,if_pos h]
def yvg{l w:Int}{f k:Nat}(h:¬ydg l w (k+1)):tel l w f k=k:=by
 cases f with
 |zero=>rfl
 |succ f=>rw[tel,if_neg h]
end
set_option tactic.hygienic true in
theorem yfz{l w:Int}:∀{f k:Nat},ydg l w k->ydg l w (tel l w f k)
 |0,_,h=>h
 |f+1,k,h=>by
  unfold tel
  split
  .rename_i q;erw[yfz q]
  .erw[h]
mutual
def pw5:pw 5=1099511627776:=∅
def yq0{l w:Int}{k:Nat}(hw:w<=1099511627776)(h:ydg l w k):k<=5:=by have a:=yk8 h;rw[<- pw5]at hw;have b:pw k<pw 6:=Int.lt_of_le_of_lt (Int.le_trans a hw) ∅;have:=ve2 b;omega
def tK(x:Sn):Nat:=tel x.1 x.2.1 5 0
def tCn(x:Sn):Int:=blk x.1 (pw (tK x))
def tL(x:Sn):Ο:=wr (sz x-tK x) (tCn x)
def vir{x:Sn}(h:Ok x):ydg x.1 x.2.1 0:=by have:=h.w0;show ((x.1+1-1)/1+1)*1<=x.1+x.2.1;omega
def ybe{x:Sn}(h:Ok x):ydg x.1 x.2.1 (tK x):=yfz (vir h)
def yx1{x:Sn}(h:OkS x):tK x<=5/\tK x<=sz x:=by have a:=yq0 h.ok.w1 (ybe h.ok);let b:=h.sz5;omega
def yly(x:Sn):↑(tL x)=sz x-tK x:=vaj _ _
def yzt{x:Sn}(h:Ok x):0<=tCn x:=by have:=h.l0;have:=jj (tK x);erw[Int.ediv_nonneg () ()]
def yzb{x:Sn}(h:OkS x):tCn x<pw (sz x-tK x):=by have b:(tCn x+1)*pw (tK x)<=x.1+x.2.1:=ybe h.ok;let a:=h.top;have e:sz x-tK x+tK x=sz x:=Nat.sub_add_cancel (yx1 h).2;rw[<- e,yge]at a;let c:=Int.le_of_mul_le_mul_right (Int.le_trans b a) (jj (tK x));omega
def yzr{x:Sn}(h:OkS x):val (tL x)=tCn x:=yr9 _ _ (yzt h.ok) (yzb h)
end
end SpanMath
section
open PySem PySem.Spec PyProof.Rows
namespace L2
def yc4(ς:It)(te:TE)(D:qa)(R:Hp->Prop)(H1:Hp):Prop:=∃W:Nat->Nat->Hp->Prop,(∃m,W 0 m (upd H1 D (.lst [])))/\
 ∀i m H2,W i m H2->(ς.stop i H2/\R H2)\/(ς.go i H2/\∀x H3,ς.yld i H2 x H3->te [some x] H3 λy H4=>∃ys,H4 D\ys/\↑ys<sizeLine/\∃m',m'<m/\W (i+1) m' (upd H4 D (.lst (ys++[y]))))
section
mutual
variable{X:Cx}{iter elt:qh}{x:Str}{px pos:Pos}{scope:Scope}{te:TE}{wi:TI}{pins:Θ}{σ:St}
def vhy{α:Type}{t:Sem α}{Q Q':α->qb->Prop}{M:Model}{A:qf}{E:Δ}{s:qb}(h:wpAny M A t Q (λZ Z=>False) s)(hQ:∀a s,Q a s->Q' a s):wpAny M A t Q' E s:=c7 h hQ λZ Z z=>z.elim
def cW(n:Nat)(Pv:Nat->Hp->Prop)(i m:Nat)(H:Hp):Prop:=m=n-i/\i<=n/\Pv i H
def zu{K:xy}{a D:qa}{xs:Τ}{R:Hp->Prop}{H1:Hp}(Pv:Nat->Hp->Prop)(h0:Pv 0 (upd H1 D (.lst [])))(hl:∀i H,i<=↑xs->Pv i H->SqL K H a xs)
  (hs:∀i x H,xs[i]?=some x->i<↑xs->Pv i H->te [some x] H λy H4=>∃ys,H4 D\ys/\↑ys<sizeLine/\∃m',m'<↑xs-i/\cW ↑xs Pv (i+1) m' (upd H4 D (.lst (ys++[y]))))
  (hd:∀H,Pv ↑xs H->R H):yc4 (Itl K a) te D R H1:=by
 erw[cW ↑xs Pv,#[xs.length,(by simp),cK _,h0],?_];rintro i m H ⟨rfl,b,p⟩;let q:=hl i H b p;by_cases hlt:i<↑xs
 .erw[.inr #[#[xs,xs[i],q,by simp[hlt]],λx c y=>?_]];let#[e,y]:=y;subst e;erw[hs i x _ (y xs q) hlt p]
 .have e:i=↑xs:=()
  subst e;erw[.inl #[#[xs,q,bT _],hd H p]]
def xk{n i:Nat}{Pv:Nat->Hp->Prop}{D:qa}{ys:Τ}{y:V}{H4:Hp}(hD:H4 D\ys)(hl:↑ys<sizeLine)(hi:i<n)(p:Pv (i+1) (upd H4 D (.lst (ys++[y])))):
  ∃ys,H4 D\ys/\↑ys<sizeLine/\∃m',m'<n-i/\cW n Pv (i+1) m' (upd H4 D (.lst (ys++[y]))):=#[ys,hD,hl,n-(i+1),(),J,hi,p]
end
end
end L2
namespace L2
open PySem
noncomputable def yeo:qh->Bool
 | .Starred _ _=>false
 |_=>true
def η{e:qh}{es:qj qh}{env:Env}(h:yeo e=true):starEach (e::es) env=(false,eval e env)::starEach es env:=by cases e<;>first|rfl|cases h
end L2
namespace L2
mutual
variable{C D a:qa}{vs:Array qc}{e:qh}{h':qg}{pins:Θ}{M:Model}{oe:Obj}{P:qi}{scope:Scope}{st:qd}{qual:Str}{a0 cd u:qc}{E Q:Δ}
structure XCls(K:xy)(C:qa):Prop where
 hd:W.hasDictIn K C=true
 ga:W.findIn K ⇑C "__getattribute__"=some (some (.builtin "BaseException.__getattribute__"))
 gt:W.findIn K ⇑C "__getattr__"=some none
 ca:W.findIn K ⇑C "__class__"=some (some (.builtin "object.__class__"))
 gg:W.specialIn K (.builtin "object.__class__") "__get__"=some (some (.builtin "getset_descriptor.__get__"))
 tk:W.takesIn K (.builtin "object.__class__")=some true
 mo:W.mroIn K C (.type "object")=some true
 mb:W.mroIn K C (.type "BaseException")=some true
def XCls.cl{K:xy}(c:XCls K C):(W.clsIn K C).isSome=true:=by let#[a,h,_]:=W.any_some c.hd;rw[h];rfl
def exm_mk{K:xy}(h0:W.subIn K ⇑D (.type "BaseException")=some true)(h1:W.hasDictIn K D=true)(h2:W.typeIn K ⇑D=some (.type "type"))
  (h3:W.subIn K ⇑C ⇑D=some true):W.exmOne K ⇑C ⇑D=some true:=by let#[a,h,_]:=W.any_some h1;unfold W.exmOne W.kitCls;rw[h0];dsimp only;rw[h,h2,h3];rfl
def Œ(x C:qa)(h:qg):Prop:=∃ox,h.get? x=some ox/\ox.cls=.ref C
end
section
mutual
variable{prog:qi}{w:qe}{A:qf}{s:qb}{K:xy}{x:qa}
def Œ.type{h:qg}(I:Œ x C h):W.Looks M h (typeOf ⇑x) ⇑C:=by let#[c,b,a]:=I;erw[a ▸ (W.Looks.ld b).andThen .now]
def XCls.finds(c:XCls K C){h:qg}(X:K.In h):W.Looks M h (Builtin.ObjectAttr.find ⇑x ⇑C "__class__") (.bind (.builtin "getset_descriptor.__get__") (.builtin "object.__class__")):=by have d:=W.looks_findIn (M:=M) X c.ca;have a:W.Looks M h (Builtin.ObjectAttr.getOf (some (.builtin "object.__class__"))) (some (.builtin "getset_descriptor.__get__")):=W.looks_specialIn X c.gg;have b:W.Looks M h (Builtin.ObjectAttr.dataDescriptor? (some (.builtin "object.__class__")) (some (.builtin "getset_descriptor.__get__"))) (some (.builtin "getset_descriptor.__get__",.builtin "object.__class__")):=(W.looks_takesIn X c.tk).andThen .now;erw[d.andThen (a.andThen (b.andThen (W.Looks.tag .now)))]
def yvk{R:Result->qb->Prop}{tp:qc}(c:XCls K C)(X:K.In s.heap)(I:Œ x C s.heap)(h:R (.ok (.ret ⇑C)) s):
  codeAny (model prog w) A (.call (.builtin "getset_descriptor.__get__") #[[.builtin "object.__class__",.ref x,tp],[]]) R s:=by
 let#[d,g,e,t,a]:=s;let b:=I.type (M:=model prog w);let f:=W.looks_mroIn (M:=model prog w) X c.mo;erw[codeAny_call_builtin W.KF.slot_gs.plain W.KF.entry_gs (W.KF.slot_gs.check _ _ _ _ _ _ _ _ W.KF.type_class (W.KF.args_gs _ _ _) ?_)];unfold Builtin.«getset_descriptor.__get__» Builtin.Getset_descriptor.descrGet;rwa[W.dga_obj,bv (bS ?_)];unfold Builtin.Getset_descriptor.descrGetter Builtin.Getset_descriptor.descrCheckInstance Builtin.Getset_descriptor.descrNameAndClass isInstance;simp only[W.KF.owner_class]
 repeat lk
 erw[Code.quiet_builtin _ (by decide+kernel),codeAny_builtin W.KF.entry_class ?_];unfold Builtin.«object.__class__» shownTypeOf
 repeat lk
 erw[h]
def yj3(c:XCls K C){Q:ql qc->qb->Prop}(X:K.In s.heap)(I:Œ x C s.heap)(h:Q (some ⇑C) {s with toks:=s.toks+1}):
  wpAny (model prog w) A (getAttr? ⇑x "__class__") Q E s:=by
 let#[e,g,d,t,m]:=s;let b:=I.type (M:=model prog w);let p:=W.looks_findIn (M:=model prog w) X c.ga;let n:=W.looks_findIn (M:=model prog w) X c.gt;have i:W.Looks (model prog w) e (isInstance ⇑x (.type "BaseException")) true:=b.andThen (W.looks_mroIn X c.mb);let j:=c.finds (x:=x) (M:=model prog w) X;unfold getAttr? getAttrBy? getAttrBy;erw[bv (wpAny_mkText (bv (wpAny_attempt (wpAny_holding (bv (b.at (bv (p.at ?_))))))))]
 have f:(onTheHeap (Value.ref C) && Value.builtin "BaseException.__getattribute__" == Value.builtin "object.__getattribute__")=false:=by
  have z:(Value.builtin "BaseException.__getattribute__" == Value.builtin "object.__getattribute__")=false:=by decide+kernel
  rw[z];rfl
 dsimp only;rw[f];unfold getAttrByItsOwn hookBefore;rwa[if_neg ci,bv ?_];rwa[if_pos (show onTheHeap ⇑C=true from rfl),n.at ?_];erw[bv (wpAny_attempt (wpAny_holding ?_))];unfold callGetattribute;rw[if_neg (by simp)];unfold boundAndCalled;rwa[F.attr_ValueError.ga.bind ⇑x,bv (bS ?_)];erw[wpAny_call (codeAny_call_builtin F.attr_ValueError.ga.plain F.entry_bexc_ga ?_)];have k:builtinKind "BaseException.__getattribute__"=some .slot:=by decide+kernel
 have a:splitId "BaseException.__getattribute__"=some ("BaseException","__getattribute__"):=by decide+kernel
 let o:=F.args_bexc_ga ⇑x (.str "__class__" t);simp only[checkBuiltinCall,k,a,List.cons_append,List.nil_append];erw[bv (i.at ?_)];rwa[if_neg (by simp),wpAny_of_eq o ?_];unfold Builtin.«object.__getattribute__»;have l:slotArgs "__getattribute__" 1 #[[Value.ref x,Value.str "__class__" t],[]]=pure (Value.ref x,[Value.str "__class__" t]):=by kernel_rfl
 have q:Builtin.ObjectAttr.attrName (Value.str "__class__" t)=pure "__class__":=by kernel_rfl
 erw[bv (wpAny_of_eq l ?_)];dsimp only;erw[bv (wpAny_of_eq q ?_),<-bv (b.at ?_),<-bv (j.at ?_)];dsimp only;show wpAny _ _ (holding [_] (call _ [_,_,_]) >>=ret) _ _ _;erw[bv (wpAny_holding (wpAny_call (yvk (s:=#[e,g,d,t+1,m]) c X I ?_))),<-bS ?_,<-W.handed_on J (bS h)]
end
set_option tactic.hygienic true in
def yws(c:XCls K C):W.KitX K ⇑x ⇑C (Œ x C) where
 ty:=λZ Z Z I=>I.type
 it:=λM h X Z=>by
  let#[d,a]:=Option.isSome_iff_exists.mp c.cl;unfold W.clsIn at a
  split at a
  .rename_i there
   intro m g j i k q;unfold isType loadHead;erw[bv (wpAny_loadPart (k _ _ (X _ _ there)) (bS q))]
  .cases a
 ne:=λh f o e n l X b=>by
  let#[d,a]:=Option.isSome_iff_exists.mp c.cl;erw[Bool.eq_false_iff.mpr λq=>?_];obtain rfl:C=f:=Value.ref.inj (beq_iff_eq.mp q);unfold W.clsIn at a
  split at a
  .rename_i there
   cases (X _ _ there).symm.trans b
  .cases a
 ca:=λX I k=>yj3 c X I k
end
section
mutual
variable{X:Cx}
def yw5{σ:St}{H:Hp}{s:qb}{x:qa}(I:(Inv X pins σ H) s)(e:H x=some (.ext (Œ x C))):Œ x C s.heap:=(show xn X.prog X.w H s.heap x (.ext (Œ x C))from I.hok x _ e).1
def ytz(K:xy):qj V->Hp->VK->Prop:=λxs H Q=>∃x cv C c k,xs=[.ref x,cv]/\xq cv c/\(∀u,xq cv u->u=c)/\H x=some (.ext (Œ x C))/\XCls K C/\W.kitOne K ⇑C c=some k/\Q (.bl k) H
def đ:j6 X (.builtin "isinstance") (ytz X.K):=by
 intro a s σ H n m Q I r h;let#[x,o,C,c,k,J,_,j,b,d,e,q]:=h;let#[u,l,J,g,i]:=ypt r;obtain rfl:=j l i;obtain rfl:u=Value.ref x:=g
 erw[W.kia_one (yws d) I.kIn (yw5 I b) e (λz=>nomatch z) λf=>#[.bl k,H,I.tok f,J,q]]
theorem ycd:∀{Cs:Φ}{us:Ξ},w9 (Cs.map V.ref) us->us=Cs.map Value.ref
 |[],_,.nil=>rfl
 |C::r,_,.cons a t=>by rw[show _=Value.ref C from a,ycd t];rfl
end
end
def TrA(base h:qg)(e:qa)(cls a0 cx:qc):Prop:=∃fl,h.TracedAtW base e cls a0 fl/\∃oe vs,h.get? e=some oe/\oe.data=.fields vs/\vs[2]?=some cx
section
mutual
variable{A:qf}{s:qb}{base:qg}{env:Env}{outer:qj Env}{L e:qa}{cls cx:qc}{Q:Unit->qb->Prop}
def yqp{head:qc}{hadNext:Bool}(hfr:A.frames=some (env::outer))(hl:s.heap.FunFrames base (env::outer))(hf:env.frame=some L)(he:s.heap.get? e=some oe)(hkb:base.StaysIn s.heap)(hen:base.get? e=none)
  (hd:oe.data=.fields vs) (hsz:1<vs.size) (h0:vs[0]?=some a0) (h2:vs[2]?=some cx)
  (h:∀h',base.StaysIn h'->h'.FunFrames base (env::outer)->TrA base h' e oe.cls a0 cx->(∀b o,s.heap.get? b=some o->(∀vs,o.data≠.fields vs)->∃sl,h'.get? b=some {o with slots:=sl})->Q ⟨⟩ {s with heap:=h'}):
  wpAny M A (do let a <- frameOf env;let pl <- entryPlaceOf L hadNext;let b <- EntryCells.newEntry head a .none (rawInt L) .none pl;setField ⇑e 1 b) Q E s:=by
 have p:e∉(env::outer).filterMap (·.frame):=λl=>by
  let#[_,o,u,c]:=hl.mem l;rw[he]at u;cases u;erw[c vs hd]
 erw[bv (wpAny_frameOf_fun hfr hl hf λg1 j=>?_),<-bv (wpAny_entryPlaceOf λpl y=>?_)];unfold EntryCells.newEntry newFields;erw[bv (wpAny_newObj_type ?_ (y.sizeOk5 _ _ _ _ _))];have f:g1.get? e=some oe:=(j.2.1 e p).trans he;have x:base.StaysIn g1:=λb o q=>(j.2.1 b λl=>by rw[(hl.mem l).1]at q;cases q).trans (hkb b o q);erw[wpAny_setField (bR _ f) hd hsz ?_];let hd3:=Obj.data_mapFields hd (·.setIfInBounds 1 (Value.ref g1⁻¹));have w:g1⁻¹≠e:=Nat.ne_of_gt (cg f)
 have k:∀O:Obj,O.cls=.type "traceback"->(∃i,O.data=.fields i/\i[3]?=some (rawInt L))->Q ⟨⟩ {s with heap:=(g1.push O).update e (Obj.mapFields (·.setIfInBounds 1 (Value.ref g1⁻¹)))}:=by
  rintro O B ⟨i,v,m⟩;let g:=Heap.get?_update_self (Obj.mapFields (·.setIfInBounds 1 (Value.ref g1⁻¹))) (bR O f) (Obj.isFreed_of_fields hd3);have t:∀b o,b≠e->g1.get? b=some o->((g1.push O).update e (Obj.mapFields (·.setIfInBounds 1 (Value.ref g1⁻¹)))).get? b=some o:=λb o n q=>(Heap.get?_update_other _ _ (Ne.symm n)).trans (bR O q);have r:∀{b o},s.heap.get? b=some o->(∀vs,o.data≠.fields vs)->b≠e:=λ{b o}q c z=>by rw[z,he]at q;cases q;erw[c vs hd]
  have d:∀{b o},s.heap.get? b=some o->(∀vs,o.data≠.fields vs)->∃sl,((g1.push O).update e (Obj.mapFields (·.setIfInBounds 1 (Value.ref g1⁻¹)))).get? b=some {o with slots:=sl}:=λ{b o}q c=>by
   let#[sl,z]:=j.2.2 b o q;erw[sl,t b _ (r q c) z]
  erw[h _ (λb o q=>t b o (λz=>by rw[z,hen]at q;cases q) (x b o q)) (hl.of_keeps λb o q c=>?_) #[_,#[_,_,g1⁻¹,O,i,g,#[Obj.cls_mapFields _ _,?_],hd3,by simp[hsz],x.fresh,w,(Heap.get?_update_other _ _ (Ne.symm w)).trans (cb g1 ?_),v,m],_,_,g,hd3,?_] λb o q c=>d q c]
  .let#[sl,z]:=d q c;exists _,z,rfl
  .rw[Array.getElem?_setIfInBounds_ne ∅];erw[h0]
  .erw[Obj.isFreed_of_fields v]
  .rw[Array.getElem?_setIfInBounds_ne ∅];erw[h2]
 erw[k _ J #[_,J,(by simp)]]
def vjq(hfr:A.frames=some (env::outer))(hl:s.heap.FunFrames base (env::outer))(hf:env.frame=some L)(he:s.heap.get? e=some oe)(hkb:base.StaysIn s.heap)(hen:base.get? e=none)
  (hd:oe.data=.fields vs) (h1:vs[1]?=some .none) (h0:vs[0]?=some a0) (h2:vs[2]?=some cx)
  (h:∀h',base.StaysIn h'->h'.FunFrames base (env::outer)->TrA base h' e oe.cls a0 cx->(∀b o,s.heap.get? b=some o->(∀vs,o.data≠.fields vs)->∃sl,h'.get? b=some {o with slots:=sl})->Q ⟨⟩ {s with heap:=h'}):
  wpAny M A (noteFrame ⇑e env) Q E s:=by unfold noteFrame;simp only[hf];erw[bv (cT he hd h1 ?_)];rwa[if_neg ∅,yqp hfr hl hf he hkb hen hd (Array.getElem?_eq_some_iff.mp h1).1 h0 h2 h]
def vi9(hfr:A.frames=some (env::outer))(hl:s.heap.FunFrames base (env::outer))(hf:env.frame=some L)(ht:TrA base s.heap e cls a0 cx)(hkb:base.StaysIn s.heap)(hen:base.get? e=none)
  (h:∀h',base.StaysIn h'->h'.FunFrames base (env::outer)->TrA base h' e cls a0 cx->(∀b o,s.heap.get? b=some o->(∀vs,o.data≠.fields vs)->∃sl,h'.get? b=some {o with slots:=sl})->Q ⟨⟩ {s with heap:=h'}):
  wpAny M A (noteFrame ⇑e env) Q E s:=by
 let#[D,#[C,vs,T,I,G,m,#[J,w],f,r,x,B,j,a,t],i,l,k,p,v]:=id ht;obtain rfl:C=i:=cr (m.symm.trans k);obtain rfl:vs=l:=Data.fields.inj (f.symm.trans p);unfold noteFrame;simp only[hf];erw[bv (cT m f r ?_)];rwa[if_pos (by simp),bv (cT j a t ?_)];by_cases z:(D == rawInt L)=true
 .rw[if_pos z];erw[bS (h s.heap hkb hl ht λb o q Z=>#[o.slots,q])]
 rwa[if_neg z,bv (wpAny_setField j a (Array.getElem?_eq_some_iff.mp t).1 ?_)];have d:∀b,b≠T->(s.heap.update T (Obj.mapFields (·.setIfInBounds 3 Value.none))).get? b=s.heap.get? b:=λb n=>Heap.get?_update_other _ _ (Ne.symm n);generalize s.heap.update T (Obj.mapFields (·.setIfInBounds 3 Value.none))=g at d⊢;have nT:∀{b o},s.heap.get? b=some o->(∀vs,o.data≠.fields vs)->g.get? b=some o:=λ{b o}q c=>(d b λz=>by rw[z,j]at q;cases q;erw[c G a]).trans q;exact yqp (s:={s with heap:=g}) hfr (hl.of_keeps λb o q c=>#[o,nT q c,J]) hf ((d e B.symm).trans m) (λb o q=>(d b λz=>by rw[z,x]at q;cases q).trans (hkb b o q)) hen f (Array.getElem?_eq_some_iff.mp r).1 w v
  λh' u F y H=>h h' u F y λb o q c=>H b o (nT q c) c
def yuo{fm:ql qa}(hkb:base.StaysIn s.heap)(hl:s.heap.FunFrames base outer)(ht:TrA base s.heap e cls a0 cx)
  (h:∀h',base.StaysIn h'->h'.FunFrames base outer->TrA base h' e cls a0 cx->(∀b o,s.heap.get? b=some o->(∀vs,o.data≠.fields vs)->h'.get? b=some o)->Q ⟨⟩ {s with heap:=h'}):
  wpAny M A (setFlight ⇑e fm) Q E s:=by
 let#[_,#[y,vs,T,D,v,w,C,p,t,r,i,j,a,B],g,l,k,m,x]:=ht;have u:3<v.size:=(Array.getElem?_eq_some_iff.mp B).1;unfold setFlight;erw[bv (cT w p t ?_)];rwa[if_pos (by simp),wpAny_setField j a u ?_];have c:∀b,b≠T->(s.heap.update T (Obj.mapFields (·.setIfInBounds 3 (fm.elim Value.none λf=>rawInt f)))).get? b=s.heap.get? b:=λb n=>Heap.get?_update_other _ _ (Ne.symm n);have nT:∀{b o},s.heap.get? b=some o->(∀vs,o.data≠.fields vs)->b≠T:=λ{b o}q d z=>by rw[z,j]at q;cases q;erw[d v a]
 let hd3:=Obj.data_mapFields a (·.setIfInBounds 3 (fm.elim Value.none λf=>rawInt f));erw[h _ (λb o q=>(c b λz=>by rw[z,r]at q;cases q).trans (hkb b o q)) (hl.of_keeps λb o q d=>#[o,(c b (nT q d)).trans q,J]) #[_,#[y,vs,T,_,_,(c e i.symm).trans w,C,p,t,r,i,Heap.get?_update_self _ j (Obj.isFreed_of_fields hd3),hd3,by simp[u];rfl],g,l,(c e i.symm).trans k,m,x] λb o q d=>(c b (nT q d)).trans q]
end
end
def xn.there{w:qe}{H:Hp}{h:qg}{o:HO}(x:xn P w H h a o):∃ob,h.get? a=some ob:=by
 cases o with
 |lst xs=>let⟨_,_,_,_,e⟩:=x;erw[_,e]
 |tup xs=>let⟨_,_,_,ob,e,_⟩:=x;erw[_,e]
 |dK kvs=>let⟨_,_,_,_,ob,_,_,e,_⟩:=x;erw[_,e]
 |dT kvs=>let⟨_,_,_,_,ob,_,_,e,_⟩:=x;erw[_,e]
 |set S n=>let⟨ob,_,_,_,e,_⟩:=x;erw[_,e]
 |ins C dx fs=>let⟨_,_,_,e,_⟩:=x;erw[_,e]
 |own y=>erw[x]
 |xd fs=>let⟨_,⟨_,_,_,e,_⟩,_⟩:=x;erw[_,e]
 |rng lo hi=>let⟨_,_,_,e⟩:=x;erw[_,e]
 |frz ob u=>let⟨e,_⟩:=x;erw[_,e]
 |tbl ps=>erw[_,(show h.get? a=some _ from x)]
 |met f y=>erw[_,(show h.get? a=some _ from x)]
 |ext φ=>let⟨_,e,_⟩:=x;erw[e]
def HOk.none_of{w:qe}{H:Hp}{h:qg}(x:HOk P w H h)(e:h.get? a=none):H a=none:=by
 cases q:H a with
 |none=>rfl
 |some u =>
  let#[b,z]:=(x a u q).there;rw[e]at z;cases z
def Fy(X:Cx)(pins:Θ)(H:Hp)(b:qa):Prop :=
 H b=none/\b≠X.env.locals/\b∉X.fs/\(b∈X.ex\/X.s₀.heap.get? b=none)/\(∀y c,X.env.cells.lookup y=some c->c≠b)/\∀p∈X.pn++pins,p.1≠b
section
mutual
variable{X:Cx}{σ:St}{H H':Hp}{s:qb}{b x T:qa}
def Ŧ(I:(Inv X pins σ H) s)(hb:s.heap.get? b=none)(hn:H' b=none):Fy X pins H' b:=by
 erw[hn,?_,?_,?_,?_,?_]
 .rintro rfl;let#[_,#[_,_,_,e,_],_]:=I.loc;rw[hb]at e;cases e
 .intro z;let#[_,o,e,_]:=I.funs.mem z;rw[hb]at e;cases e
 .by_cases hx:b∈X.ex
  .erw[.inl hx]
  .refine .inr ?_
   cases q:X.s₀.heap.get? b with
   |none=>rfl
   |some o =>
    let#[_,e]:=I.base.there b o q hx;rw[hb]at e;cases e
 .rintro y c e rfl;let#[_,_,q,_]:=I.cell y c e;rw[hb]at q;cases q
 .intro p a z;let q:=(I.pin p a).1;rw[z,hb]at q;cases q
def Inv.fly(I:(Inv X pins σ H) s)(hx:Fy X pins H x)(hT:Fy X pins H T)
  (keep:∀b o,b≠x->b≠T->b∉frs X.stack->s.heap.get? b=some o->h'.get? b=some o)
  (slot:∀b o,b∈frs X.stack->s.heap.get? b=some o->∃sl,h'.get? b=some {o with slots:=sl}):(Inv X pins σ H) {s with heap:=h'}:=by
 have a:∀{y b o},Fy X pins H y->X.s₀.heap.get? b=some o->b∉X.ex->b≠y:=λ{y b o}P e f z=>by
  subst z;rcases P.2.2.2.1 with q|q
  .erw[f q]
  .rw[e]at q;cases q
 have h:∀b o,b≠x->b≠T->s.heap.get? b=some o->∃sl,h'.get? b=some {o with slots:=sl}:=λb o N K e=>by
  by_cases z:b∈frs X.stack
  .erw[slot b o z e]
  .erw[o.slots,keep b o N K z e]
 have g:∀y c,X.env.cells.lookup y=some c->∀v,s.heap.IsCell c v->h'.IsCell c v:=λy c e v ⟨o,C,ς⟩=>by
  let#[sl,q]:=h c o (hx.2.2.2.2.1 y c e) (hT.2.2.2.2.1 y c e) C;exists _,q,ς
 erw[I.ok,I.os,I.bare,#[λb o e n A f=>?_,λb o e n A f=>?_,I.base.free,λb o e f=>?_,I.base.tups,I.base.frzs,I.base.tbls],?_,λy c e=>?_,I.free,I.freeC,λp B=>?_,λb u e=>?_,I.len]
 .erw[keep b o (a hx e f) (a hT e f) (λz=>?_) (I.base.keep b o e n A f)];rcases bZ.mp (I.stkSub b z)with q|q
  .erw[absurd q (cR (cP (cg e) I.ok.above))]
  .erw[A q]
 .let#[sl,t]:=I.base.slot b o e n A f;let#[w,j]:=h b _ (a hx e f) (a hT e f) t;erw[w,j]
 .let#[Y,t]:=I.base.there b o e f;let#[w,j]:=h b _ (a hx e f) (a hT e f) t;erw[_,j]
 .let#[m,S,O]:=I.loc;exists m,?_,λi y v t j W=>?_
  .let#[o,Q,U,C,r]:=S;let#[sl,q]:=h _ o (Ne.symm hx.2.1) (Ne.symm hT.2.1) C;erw[_,Q,U,q,r]
  .let#[u,r,l]:=O i y v t j W;erw[u,r,?_];rcases l with l|⟨k,c,e,z⟩
   .erw[.inl l]
   .erw[.inr #[k,c,e,g y c e _ z]]
 .let#[v,z]:=I.cell y c e;erw[v,g y c e v z]
 .let#[e,n,E,G,d]:=I.pin p B;erw[keep p.1 p.2 (hx.2.2.2.2.2 p B) (hT.2.2.2.2.2 p B) (λz=>?_) e,n,E,G,d];rcases bZ.mp (I.stkSub _ z)with q|q
  .erw[E q]
  .erw[G q]
 .have F:∀c v,H c=some v->c≠x/\c≠T/\c∉frs X.stack:=λc v q =>
   #[λz=>(by rw[z,hx.1]at q;cases q),λz=>(by rw[z,hT.1]at q;cases q),λz=>(by rw[I.stkFree c z]at q;cases q)]
  erw[(I.hok b u e).stay (λc v D q=>?_) (λZ q=>q) λZ Z q=>q]
  obtain⟨M,L,R⟩:c≠x/\c≠T/\c∉frs X.stack:=by
   rcases D with rfl|D
   .erw[F _ _ e]
   .erw[F _ _ D]
  erw[keep c v M L R q]
def Trd(h:qg)(x T:qa)(C:qc)(d:ql qa):Prop :=
 ∃oe vs oT ts a0,h.get? x=some oe/\(oe.cls=C/\vs[0]?=some a0/\vs[2]?=some (d.elim Value.none Value.ref))/\oe.data=.fields vs/\vs[1]?=some ⇑T/\T≠x/\h.get? T=some oT/\oT.data=.fields ts/\∃fl,ts[3]?=some fl
def hid(s:qb)(X:Cx)(x T:qa):qg:=W.hideAll s.heap (x::T::frs X.stack)
def ylr:(hid s X x T).StaysIn s.heap:=λZ Z e=>W.of_hideAll _ e
def vgc:(hid s X x T).get? x=none:=W.hideAll_none _ (.head _)
def vjk:(hid s X x T).get? T=none:=W.hideAll_none _ (.tail _ (.head _))
def ymk(I:(Inv X pins σ H) s):s.heap.FunFrames (hid s X x T) X.stack :=
 W.funFrames_hide I.stack λb c a d=>.tail _ (.tail _ (List.mem_filterMap.mpr #[b,c,d]))
def ysu{C:qc}{d:ql qa}(t:Trd s.heap x T C d):∃a0,TrA (hid s X x T) s.heap x C a0 (d.elim Value.none Value.ref):=by let#[e,b,l,i,a0,c,a,f,j,m,g,k,n,h]:=t;erw[a0,n,#[e,b,T,l,i,c,#[a.1,a.2.1],f,j,vjk,m,g,k,h],e,b,c,f,a.2.2]
def į{C:qc}{d:ql qa}(I:(Inv X pins σ H) s)(hx:Fy X pins H x)(hT:Fy X pins H T)(k1:(hid s X x T).StaysIn h')(k2:h'.FunFrames (hid s X x T) X.stack)(k3:TrA (hid s X x T) h' x C a0 (d.elim Value.none Value.ref))
  (k4:∀b o,s.heap.get? b=some o->(∀vs,o.data≠.fields vs)->∃sl,h'.get? b=some {o with slots:=sl}):
  Inv X pins σ H {s with heap:=h'}/\∃T',Fy X pins H T'/\Trd h' x T' C d:=by
 erw[I.fly hx hT (λb o G ς w e=>k1 b o (W.hideAll_get _ e λz=>?_)) λb o v e=>?_,?_]
 .rcases bZ.mp z with z|z
  .erw[G z]
  .rcases bZ.mp z with z|z
   .erw[ς z]
   .erw[w z]
 .let#[_,D,a,i]:=I.stack.mem v;rw[e]at a;cases a;erw[k4 b o e i]
 .let#[B,#[n,vs,T',u,F,k,j,r,y,A,t,l,p,E],c,h,f,g,K]:=k3;obtain rfl:n=c:=cr (k.symm.trans f);obtain rfl:vs=h:=Data.fields.inj (r.symm.trans g);erw[T',?_,n,vs,u,F,a0,k,#[j.1,j.2,K],r,y,t,l,p,B,E];by_cases q:T'=T
  .rw[q];erw[hT]
  .cases e:s.heap.get? T' with
   |none=>erw[Ŧ I e (I.hok.none_of e)]
   |some o =>
    have z:T'∈frs X.stack:=Classical.byContradiction λz=>by
     have:=W.hideAll_get (x::T::frs X.stack) e (λm=>by
      rcases bZ.mp m with m|m
      .erw[t m]
      .rcases bZ.mp m with m|m
       .erw[q m]
       .erw[z m])
     rw[show (W.hideAll s.heap (x::T::frs X.stack)).get? T'=none from A]at this;cases this
    let#[_,D,a,i]:=k2.mem z;rw[l]at a;cases a;erw[absurd p (i _)]
end
section
variable{A:qf}{Q:Unit->qb->Prop}{env:Env}{outer:qj Env}{L:qa}{C:qc}{d:ql qa}
def ur{fm:ql qa}(I:(Inv X pins σ H) s)(hx:Fy X pins H x)(hT:Fy X pins H T)(tr:Trd s.heap x T C d)(k:∀s' T',(Inv X pins σ H) s'->Fy X pins H T'->Trd s'.heap x T' C d->Q ⟨⟩ s'):wpAny M A (setFlight ⇑x fm) Q E s:=by let#[m,i]:=ysu (X:=X) tr;erw[yuo (base:=hid s X x T) ylr (ymk I) i λn c f g j=>?_];let#[ς,T',a,h]:=į I hx hT c f g λb o e l=>#[o.slots,j b o e l];erw[k _ T' ς a h]
def yba(fr:A.frames=some X.stack)(hst:X.stack=env::outer)(hf:env.frame=some L)(I:(Inv X pins σ H) s)(hx:Fy X pins H x)(hT:Fy X pins H T)(tr:Trd s.heap x T C d)(k:∀s' T',(Inv X pins σ H) s'->Fy X pins H T'->Trd s'.heap x T' C d->Q ⟨⟩ s'):wpAny M A (noteFrame ⇑x env) Q E s:=by let#[j,h]:=ysu (X:=X) tr;let c:=ymk (x:=x) (T:=T) I;rw[hst]at fr c;erw[vi9 (base:=hid s X x T) fr c hf h ylr vgc λl e b f i=>?_];rw[<- hst]at b;let#[ς,T',a,g]:=į I hx hT e b f i;erw[k _ T' ς a g]
def yfy(fr:A.frames=some X.stack)(hst:X.stack=env::outer)(hf:env.frame=some L)(I:(Inv X pins σ H) s)(hx:Fy X pins H x)(he:s.heap.get? x=some oe)(hd:oe.data=.fields vs)(h1:vs[1]?=some .none)(h0:vs[0]?=some a0)(h2:vs[2]?=some (d.elim Value.none Value.ref))
  (k:∀s' T',(Inv X pins σ H) s'->Fy X pins H T'->Trd s'.heap x T' oe.cls d->Q ⟨⟩ s'):wpAny M A (noteFrame ⇑x env) Q E s:=by have c:=ymk (x:=x) (T:=x) I;rw[hst]at fr c;erw[vjq (base:=hid s X x x) fr c hf he ylr vgc hd h1 h0 h2 λi e b f h=>?_];rw[<- hst]at b;let#[ς,T',a,g]:=į I hx hx e b f h;erw[k _ T' ς a g]
end
end
mutual
def CXe(P:qi)(w:qe):CXT:=λouter H s E e s'=>∃x T C d H',e=.ref x/\s'.os=s.os/\AllBare s'.gens/\Un (frs outer) [] H H' s.heap s'.heap/\HOk P w H' s'.heap/\
 (H' x=none/\s.heap.get? x=none)/\(H' T=none/\s.heap.get? T=none)/\Trd s'.heap x T C d/\E C d H'
def ÿ(X:Cx)(Ex:St->XK):Prop:=∀(pins:Θ)(σ:St)(H:Hp)(s':qb)(x T:qa)(C:qc)(d:ql qa),(Inv X pins σ H) s'->Fy X pins H x->Fy X pins H T->Trd s'.heap x T C d->Ex σ C d H->X.xe ⇑x s'
def yo{w:qe}{K:xy}{mg:Ε}{base:qg}{N:Ρ}{f:qa}{A:qf}{outer:qj Env}{s:qb}{H:Hp}{E:XK}:
  ÿ ((vt (CXe P w) P w K mg base N qual scope f cd A outer s H) E) (λZ=>E):=by intro c σ g t x T C d I j o l q;show wpAny _ _ (leaving _ _) _ _ _;unfold leaving;erw[bv (yba (L:=s.heap⁻¹) I.ok.frames J J I j o l λv y r i m=>ur r j i m λu n e h p=>?_)];have a:∀{b},Fy ((vt (CXe P w) P w K mg base N qual scope f cd A outer s H) E) c g b->g b=none/\s.heap.get? b=none:=λk=>#[k.1,k.2.2.2.1.resolve_left (by intro z;cases z)];erw[x,n,C,d,g,J,e.os,e.bare,e.base,e.hok,a j,a h,p,q]
def yoe{w:qe}{K:xy}{mg:Ε}{base:qg}{N:Ρ}{f:qa}{A:qf}{outer:qj Env}{s:qb}{H:Hp}{E:XK}
  {pins:Θ} {σ:St} {H1:Hp} {s1:qb} {h':qg} {x:qa} {C:qc} {vs:Ξ} (I:Inv ((vt (CXe P w) P w K mg base N qual scope f cd A outer s H) E) pins σ H1 s1) (m:Heap.MadeExcOf s1.heap h' x C vs) (q:E C none H1):
  ((vt (CXe P w) P w K mg base N qual scope f cd A outer s H) E).xe ⇑x {s1 with heap:=h'}:=by let#[t,l,_,_]:=m.there;have i:Fy ((vt (CXe P w) P w K mg base N qual scope f cd A outer s H) E) pins H1 x:=Ŧ I m.new (I.hok.none_of m.new);have e:Inv ((vt (CXe P w) P w K mg base N qual scope f cd A outer s H) E) pins σ H1 {s1 with heap:=h'}:=I.kept (t':=s1.toks) m.keeps;show wpAny _ _ (leaving _ _) _ _ _;unfold leaving;erw[bv (yfy (L:=s.heap⁻¹) (d:=none) e.ok.frames J J e i l J J J J λp r e h k=>ur e i h k λo n c g t'=>?_)];have a:∀{b},Fy ((vt (CXe P w) P w K mg base N qual scope f cd A outer s H) E) pins H1 b->H1 b=none/\s.heap.get? b=none:=λj=>#[j.1,j.2.2.2.1.resolve_left (by intro z;cases z)];erw[x,n,C,none,H1,J,c.os,c.bare,c.base,c.hok,a i,a g,t',q]
def yln(sp:Sp)(dvs:Τ)(Ex:St->XK)(t:TA):TE:=λσ H Q=>t σ H λvs H1=>sp (vs++dvs) H1 Q (Ex σ)
def Ť(C:qa)(m:Str)(sp:Sp)(dvs:Τ)(Ex:St->XK)(ta:TE)(t:TA):TE:=λσ H Q=>ta σ H λx H1=>∃a dx fs,x=.ref a/\H1 a∩C dx fs/\fs.lookup m=none/\
 t σ H1 λvs H2=>sp (x::(vs++dvs)) H2 Q (Ex σ)
def ysh(C:qa)(sp:Sp)(dvs:Τ)(Ex:St->XK)(t:TA):TE:=λσ H Q=>t σ H λvs H1=>∀x dx,H1 x=none->H1 dx=none->dx≠x ->
 sp (.ref x::(vs++dvs)) (upd (upd H1 dx (.own x)) x (.ins C dx [])) (λv H2=>v=.non/\Q ⇑x H2) (Ex σ)
end
section
mutual
variable{X:Cx}{k:Nat}{f:qa}{fd:FuncData}{ps:Ρ}{sp:Sp}{dvs:Τ}{ds:Ξ}{Ex:St->XK}{x m:Str}{p pos apos:Pos}{o:qh}{es:qj qh}{ta:TE}{t:TA}
def Inv.came{σ:St}{H:Hp}{s s':qb}{v:qc}(I:(Inv X pins σ H) s)(hc:ÿ X Ex)(h:CXe X.prog X.w X.stack H s (Ex σ) v s'):X.xe v s':=by let#[y,T,D,d,k,J,i,a,j,c,e,f,g,q]:=h;erw[hc pins σ k s' y T D d (I.call' i j c a λb z=>absurd z (by simp)) (Ŧ I e.2 e.1) (Ŧ I f.2 f.1) g q]
def ye1{σ:St}{H:Hp}{s:qb}{Q:VK}{us:Ξ}{vs:Τ}(F:vq X.prog X.w X.K X.mg X.base (CXe X.prog X.w) k f fd ps sp)(hr:jx k X.A)(hb:u4 X.K fd ps ds)(hd:w9 dvs ds)(hc:ÿ X Ex)
  (I:(Inv X pins σ H) s) (r:w9 vs us) (h:sp (vs++dvs) H Q (Ex σ)):(wpAny (model X.prog X.w) X.A) (call ⇑f us) (EP X pins σ Q) X.xe s:=by
 have b:w9 (vs++dvs) (us++ds):=r.append hd;have c:↑(us++ds)=↑ps:=by rwa[<- ↑b,F.len _ _ _ _ h]
 erw[wpAny_call (codeAny_mono (F.run X.A X.stack s H #[us,[]] (us++ds) (vs++dvs) Q (Ex σ) hr I.env0 (hb s us I.kIn c) b h) λr d a=>?_)]
 cases r with
 |error e=>erw[I.came hc a]
 |ok fl =>
  cases fl with
  |ret u=>erw[I.after a]
  |next=>erw[False.elim a]
  |brk=>erw[False.elim a]
  |cont=>erw[False.elim a]
def yof(F:vq X.prog X.w X.K X.mg X.base (CXe X.prog X.w) k f fd ps sp)(hr:jx k X.A)(hg:Gl X x)(hm:X.mg x∣f)(hk:W.keepIn X.K ⇑f=true)(hb:u4 X.K fd ps ds)(hd:w9 dvs ds)(hc:ÿ X Ex)
  (ha:PA X (e::es) t) (hdb: ~~~(((x == ("__debug__":Str))=false))) (he:¬¬((starEach (e::es) X.env=(false,eval e X.env)::starEach es X.env))) (hpl:¬¬(((backTo pos (starEach es X.env)).any (·.1)=false))):
  PE X (.Call (.Name x p) (e::es) [] pos) (yln sp dvs Ex t):=by refine .mk λa s σ H Q I h=>?_;erw[wpAny_Call_Name_kw (jm I hg hm ?_ hdb),<-W.callWith_K (h₀:=X.base) I.ok.mod.kin hk (thn (ha pos a s σ H _ I h) λc i ⟨d,g,b,r,q⟩=>#[b.kIn,?_]) he hpl,<-ye1 F hr hb hd hc b r q]
def yu{pl:Sem Bool}(he:PE X o ta)(c:Cls X.K C)(hm:Meth X.K C m f)(F:vq X.prog X.w X.K X.mg X.base (CXe X.prog X.w) k f fd ps sp)(hr:jx k X.A)(hb:u4 X.K fd ps ds)(hd:w9 dvs ds)(hc:ÿ X Ex)(ha:PA X (e::es) t)
  (hst:¬¬((starEach (e::es) X.env=(false,eval e X.env)::starEach es X.env))) (hpl:¬¬(((backTo pos (starEach es X.env)).any (·.1)=false)))
  (ht:eval (.Call (.Attribute o m apos) (e::es) [] pos) X.env=(do
   let ov <- eval o X.env
   standAt apos.atName
   let (f,first) <- holding [ov] (getMethod ov m pl)
   callWith pos f first (backTo pos (starEach (e::es) X.env)) (backToKw pos (keywordEach [] X.env))):=by rfl):
  PE X (.Call (.Attribute o m apos) (e::es) [] pos) (Ť C m sp dvs Ex ta t):=by
 erw[.mk λb s σ H Q I h=>?_,<-W.methodCall_KW (pl:=pl) (thn (he b s σ H _ I h) λu p h'=>?_) ht];let#[x,j,g,v,a,E,D,i,n,l,q]:=h';subst i;obtain rfl:u=Value.ref a:=v;erw[χ g n c hm l ?_]
 erw[W.callWith_K (first:=[.ref a]) (h₀:=X.base) I.ok.mod.kin hm.kp (thn (ha pos b p σ j _ g q) λus B ⟨vs,z,d,r,y⟩=>#[d.kIn,?_]) hst hpl]
 erw[ye1 (us:=.ref a::us) (vs:=.ref a::vs) F hr hb hd hc d (.cons J r) y]
def ut{pl:Sem Bool}(he:PE X o ta)(c:Cls X.K C)(hm:Meth X.K C m f)(F:vq X.prog X.w X.K X.mg X.base (CXe X.prog X.w) k f fd ps sp)(hr:jx k X.A)(hb:u4 X.K fd ps ds)(hd:w9 dvs ds)(hc:ÿ X Ex)
  (ht:eval (.Call (.Attribute o m apos) [] [] pos) X.env=(do
   let ov <- eval o X.env
   standAt apos.atName
   let (f,first) <- holding [ov] (getMethod ov m pl)
   callWith pos f first (backTo pos (starEach [] X.env)) (backToKw pos (keywordEach [] X.env))):=by rfl):
  PE X (.Call (.Attribute o m apos) [] [] pos) (Ť C m sp dvs Ex ta yie):=by
 erw[.mk λb s σ H Q I h=>?_,<-W.methodCall_KW (pl:=pl) (thn (he b s σ H _ I h) λu n h'=>?_) ht];let#[x,j,d,i,a,r,p,e,g,l,q]:=h';subst e;obtain rfl:u=Value.ref a:=i;erw[χ d g c hm l ?_]
 erw[W.callWith_K0 (first:=[.ref a]) d.kIn hm.kp (ye1 (us:=[.ref a]) (vs:=[.ref a]) F hr hb hd hc d (.cons J .nil) q)]
def yjy{σ:St}{H:Hp}{s:qb}{Q:VK}{us:Ξ}{vs:Τ}(M:Mk X.K C f)(F:vq X.prog X.w X.K X.mg X.base (CXe X.prog X.w) k f fd ps sp)(hr:jx (k+1) X.A)(hb:u4 X.K fd ps ds)(hd:w9 dvs ds)
  (hc:ÿ X Ex) (I:(Inv X pins σ H) s) (r:w9 vs us)
  (h:∀x dx,H x=none->H dx=none->dx≠x->sp (.ref x::(vs++dvs)) (upd (upd H dx (.own x)) x (.ins C dx [])) (λv H2=>v=.non/\Q ⇑x H2) (Ex σ)):
  wpAny (model X.prog X.w) X.A (call ⇑C us) (EP X pins σ Q) X.xe s:=by
 let d:=h (s.heap⁻¹+1) s.heap⁻¹ (I.hok.fresh (Nat.le_succ _)) (I.hok.fresh (bT _)) (cR (Nat.lt_succ_self _));let b:=Inv.made (C:=C) I;have c:w9 (V.ref (s.heap⁻¹+1)::(vs++dvs)) (Value.ref (s.heap⁻¹+1)::(us++ds)):=.cons J (r.append hd)
 have j:↑(Value.ref (s.heap⁻¹+1)::us++ds)=↑ps:=by
  let e:=↑c;rw[F.len _ _ _ _ d]at e;erw[e.symm]
 erw[wpAny_call (yf6 (f:=f) I.kIn M.makes M.init (beq_iff_eq.mp M.fn) (codeAny_mono (F.run _ X.stack _ _ #[Value.ref (s.heap⁻¹+1)::us,[]] (Value.ref (s.heap⁻¹+1)::(us++ds)) _ _ (Ex σ) (hr.make C us [])
  (b.env0.make C us []) (hb _ (Value.ref (s.heap⁻¹+1)::us) b.kIn j) c d) λr o a=>?_))]
 cases r with
 |error e=>erw[b.came hc a]
 |ok fl =>
  cases fl with
  |ret u =>
   let#[v,l,i,n,g,m]:=b.after a;subst g;erw[n,#[V.ref (s.heap⁻¹+1),l,i,J,m]]
  |next=>erw[False.elim a]
  |brk=>erw[False.elim a]
  |cont=>erw[False.elim a]
def uu(M:Mk X.K C f)(F:vq X.prog X.w X.K X.mg X.base (CXe X.prog X.w) k f fd ps sp)(hr:jx (k+1) X.A)(hg:Gl X x)(hm:X.mg x∣C)(hb:u4 X.K fd ps ds)(hd:w9 dvs ds)(hc:ÿ X Ex)
  (ha:PA X (e::es) t) (hdb: ~~~(((x == ("__debug__":Str))=false))) (he:¬¬((starEach (e::es) X.env=(false,eval e X.env)::starEach es X.env))) (hpl:¬¬(((backTo pos (starEach es X.env)).any (·.1)=false))):
  PE X (.Call (.Name x p) (e::es) [] pos) (ysh C sp dvs Ex t):=by refine .mk λa s σ H Q I h=>?_;erw[wpAny_Call_Name_kw (jm I hg hm ?_ hdb),<-W.callWith_K (h₀:=X.base) I.ok.mod.kin M.kp (thn (ha pos a s σ H _ I h) λc i ⟨d,g,b,r,q⟩=>#[b.kIn,?_]) he hpl,<-yjy M F hr hb hd hc b r q]
end
end
theorem PS.nox{X:Cx}{t:TS}(h:PS X.nox st t):PS X st t:=.mk λa s σ H D I b =>
 c7 (h a s σ H D (I.wish _) b) (λZ Z q=>q.unwish) λZ Z z=>False.elim z
section
variable{w:qe}{K:xy}{mg:Ε}{base:qg}
def ve{X:Cx}:ÿ X (λZ Z Z Z=>False):=λZ Z Z Z Z Z Z Z Z Z Z Z q=>q.elim
def Fun.okE{x:Str}{f:qa}{fd:FuncData}{N ps:Ρ}{k:Nat}{sp:Sp}(F:Fun K x qual st f fd)(S:yi N ps (yd st))(len:∀vs H Q E,sp vs H Q E->↑vs=↑ps)
  (hbody:N.Nodup->∀(cdv:qc)(A:qf)(outer:qj Env)(s:qb)(H:Hp)(vs:Τ)(Q:VK)(E:XK),jx k (A.deeper (envOfC qual (yd st) s.heap⁻¹ f cdv))->sp vs H Q E ->
   ∃t,PSs (vt (CXe P w) P w K mg base N qual (yd st) f cdv A outer s H E) (xi st) t/\t { nx:=λZ H'=>Q .non H',rt:=Q} (Ā N vs) H):vq P w K mg base (CXe P w) (k+1) f fd ps sp:=by let#[l,j,kV,e,i,h,cdv,m,g,J,c,b]:=F.ex;erw[ypq c b S len λA outer s H vs Q E d a=>hbody S.nd cdv A outer s H vs Q E d a]
end
abbrev bmV:Ξ:=[.type "ValueError",.type "Exception",.type "BaseException",.type "object"]
abbrev XMk(K:xy)(C:qa):Prop:=W.excIn K C bmV "ValueError.__new__"=true
set_option tactic.hygienic true in
def yed{K:xy}{h:qg}{bmB:Ξ}{newId:String}(X:K.In h)(q:W.excIn K C bmB newId=true):
  ∃bm N nm qn bs hdct sn sub ab col dd k0 k1 k2 k3 k5 mN,h.get? C=some (excClassObj nm qn C N bs bm hdct sn sub ab col dd k0 k1 k2 k3 k5 newId)/\h.Ns N mN/\mN "__init__"=none/\OwnTail h bmB bm:=by
 unfold W.excIn at q
 split at q
 .rename_i dd cd sl ho
  split at q
  .rename_i C' bm k0 k1 k2 k3 n k5 hm d
   simp only[cB,beq_iff_eq,Bool.not_eq_true']at q;let#[#[#[#[#[J,J],a],j],b],c]:=q;let#[nm,bs,f,i,qn,e,sn,sub,ab,col,g]:=cd;dsimp only at hm a b c;subst hm a;let⟨l⟩:=sl;have d:l=[k0,k1,k2,k3,some (.builtin n),k5]:=d;subst d;erw[bm,i,nm,qn,bs,e,sn,sub,ab,col,dd,k0,k1,k2,k3,k5,_,X _ _ ho,.of_isNs (W.isNs_of_in X b),W.nsMap_none_of_in X b c,W.tail_of_in X j]
  .cases q
 .cases q
def ysp(E:XK)(C:qa)(t:TA):TS:=λZ σ H=>t σ H λvs H1=>↑vs<=sizeLine/\E ⇑C none H1
def wn{w:qe}{K:xy}{mg:Ε}{base:qg}{N:Ρ}{f:qa}{A:qf}{outer:qj Env}{s:qb}{H:Hp}{E:XK}
  {C:qa} {x:Str} {np cpos pos:Pos} {e₀:qh} {xj:qj qh} {t:TA} (hg:Gl ((vt (CXe P w) P w K mg base N qual scope f cd A outer s H) E) x) (hm:mg x∣C) (hC:XMk K C)
  (ha:PA ((vt (CXe P w) P w K mg base N qual scope f cd A outer s H) E) (e₀::xj) t)
  (he:¬¬(starEach (e₀::xj) (envOfC qual scope s.heap⁻¹ f cd)=(false,eval e₀ (envOfC qual scope s.heap⁻¹ f cd))::starEach xj (envOfC qual scope s.heap⁻¹ f cd)))
  (hplain:¬¬((backTo cpos (starEach xj (envOfC qual scope s.heap⁻¹ f cd))).any (·.1)=false)) (hdb: ~~~(((x == ("__debug__":Str))=false))):
  PS ((vt (CXe P w) P w K mg base N qual scope f cd A outer s H) E) (.Raise (some (.Call (.Name x np) (e₀::xj) [] cpos)) none pos) (ysp E C t):=by
 erw[.mk λa p σ l D I h=>?_];let#[k,n,nm,q,bs,hdct,sn,sub,ab,col,dd,k0,k1,k2,k3,k5,mN,c,j,g,T]:=yed I.mod.kin hC;refine wpAny_Raise_call_subT (C:=C) (nm:=nm) (q:=q) (N:=n) (bs:=bs) (bm:=k) (hdct:=hdct) (sn:=sn) (sub:=sub) (ab:=ab) (col:=col) (dd:=dd) (k0:=k0) (k1:=k1) (k2:=k2) (k3:=k3) (k5:=k5)
  F.excBase_ValueError (mN:=mN) (T.hasType F.excBase_ValueError.hasBase) (I.ok.hd J) (by
   show (backTo cpos (starEach (e₀::xj) (envOfC qual scope s.heap⁻¹ f cd))).any (·.1)=false;rw[he];show (false || (backTo cpos (starEach xj (envOfC qual scope s.heap⁻¹ f cd))).any (·.1))=false;rw[hplain];rfl) g (jm I hg hm #[J,?_] hdb)
 let i:=ha cpos a p σ l _ I h;have d:starEach (e₀::xj) ((vt (CXe P w) P w K mg base N qual scope f cd A outer s H) E).env=(false,eval e₀ ((vt (CXe P w) P w K mg base N qual scope f cd A outer s H) E).env)::starEach xj ((vt (CXe P w) P w K mg base N qual scope f cd A outer s H) E).env:=he;rw[d]at i⊢;erw[Calls.evalArgs_plain (c7 i (by rintro B s₂ ⟨G,v,b,r,o,u⟩;erw[J,by rwa[<- ↑r,o],b.bk _ _ c,j.keeps b.bk,T.keeps b.bk,λz y m=>yoe b m u]) λZ Z y=>y)]
section
mutual
variable{X:Cx}{σ:St}{H:Hp}{s:qb}{x T:qa}
noncomputable abbrev Cx.pnd(X:Cx)(pn:Θ):Cx:={X with pn:=pn}
theorem Cx.Ok.pnd(ok:X.Ok)(pn:Θ):(X.pnd pn).Ok :=
 #[ok.mod,ok.kind,ok.glob,ok.blt,ok.above,ok.inj,ok.has,ok.cab,ok.hd,ok.frames,ok.stk,ok.exf,ok.bs,ok.bsz,ok.noex,ok.exfs,ok.funs,ok.frf]
def Cx.Ok.unpnd{pn:Θ}(ok:(X.pnd pn).Ok):X.Ok :=
 #[ok.mod,ok.kind,ok.glob,ok.blt,ok.above,ok.inj,ok.has,ok.cab,ok.hd,ok.frames,ok.stk,ok.exf,ok.bs,ok.bsz,ok.noex,ok.exfs,ok.funs,ok.frf]
theorem Inv.pnd(I:(Inv X pins σ H) s):Inv (X.pnd (X.pn++pins)) [] σ H s :=
 #[I.ok.pnd _,I.os,I.bare,I.base,I.loc,I.cell,I.free,I.freeC,λp a=>I.pin p (by simpa using a),I.hok,I.len]
theorem Inv.unpnd{ps:Θ}(I:Inv (X.pnd (X.pn++pins)) ps σ H s):(Inv X pins σ H) s :=
 #[I.ok.unpnd,I.os,I.bare,I.base,I.loc,I.cell,I.free,I.freeC,λp a=>I.pin p (cZ _ a),I.hok,I.len]
def XT(Y:Cx)(Ex:St->XK)(e:qc)(s':qb):Prop:=∃pins σ H x T C d,e=.ref x/\Inv Y pins σ H s'/\Fy Y pins H x/\Fy Y pins H T/\Trd s'.heap x T C d/\Ex σ C d H
noncomputable abbrev Cx.tr(X:Cx)(pn:Θ)(Ex:St->XK):Cx:=(X.pnd pn).wish (XT (X.pnd pn) Ex)
def yaz{pn:Θ}{Ex:St->XK}:ÿ (X.tr pn Ex) Ex:=λa σ H Z x T C d I b c tr q=>#[a,σ,H,x,T,C,d,J,I.unwish,b,c,tr,q]
noncomputable abbrev Cx.su(X:Cx)(pn:Θ)(x:qa):Cx:={X with A:=X.A.mark (some ⇑x),calm:=false,pn:=pn,xe:=λZ Z=>False}
theorem Inv.su(I:(Inv X pins σ H) s)(x:qa):Inv (X.su (X.pn++pins) x) [] σ H s :=
 #[#[I.ok.mod,I.ok.kind,I.ok.glob,I.ok.blt,I.ok.above,I.ok.inj,I.ok.has,I.ok.cab,λz=>(by cases z),I.ok.frames,I.ok.stk,I.ok.exf,I.ok.bs,I.ok.bsz,I.ok.noex,I.ok.exfs,I.ok.funs,I.ok.frf],
  I.os,I.bare,I.base,I.loc,I.cell,I.free,I.freeC,λp a=>I.pin p (by simpa using a),I.hok,I.len]
def Inv.unsu(I:Inv (X.su (X.pn++pins) x) [] σ H s)(ok:X.Ok):(Inv X pins σ H) s :=
 #[ok,I.os,I.bare,I.base,I.loc,I.cell,I.free,I.freeC,λp a=>I.pin p (cZ _ a),I.hok,I.len]
def Inv.track{o:HO}(I:(Inv X pins σ H) s)(hx:Fy X pins H x)(ob:xn X.prog X.w (upd H x o) s.heap x o):Inv X pins σ (upd H x o) s:=by
 have d:∀{b u},H b=some u->b≠x:=λ{b u}e z=>by rw[z,hx.1]at e;cases e
 erw[I.ok,I.os,I.bare,#[I.base.keep,I.base.slot,λb ob e n g=>?_,I.base.there,λb h e=>?_,λb ob u e=>?_,λb i e=>?_],I.loc,I.cell,?_,λy c e=>?_,λp f=>?_,λb u e=>?_,I.len]
 .rw[yk ?_]
  .erw[I.base.free b ob e n g]
  .rintro rfl;rcases hx.2.2.2.1 with z|z
   .erw[g z]
   .rw[e]at z;cases z
 .let q:=I.base.tups b h e;rwa[yk (d q),q]
 .let q:=I.base.frzs b ob u e;rwa[yk (d q),q]
 .let#[a,q]:=I.base.tbls b i e;erw[a,by rwa[yk (d q),q]]
 .rw[yk (Ne.symm hx.2.1)];erw[I.free]
 .rw[yk (hx.2.2.2.2.1 y c e)];erw[I.freeC y c e]
 .let#[e,n,q]:=I.pin p f;erw[e,by rwa[yk (hx.2.2.2.2.2 p f),n],q]
 .by_cases hb:b=x
  .subst hb;rw[ya]at e;cases e;erw[ob]
  .rw[yk hb]at e;erw[(I.hok b u e).stay (λZ Z Z q=>q) (λc q=>by rwa[yk (d q),q]) λc h q=>by rwa[yk (d q),q]]
def Inv.unbind{A:qf}{i:Nat}{n:Str}{pos:Pos}{Q:Unit->qb->Prop}(I:(Inv X pins σ H) s)(hN:X.N.Nodup)(hi:X.N[i]?=some n)(hl:X.env.scope.names.lookup n=some .local)
  (h:∀s',Inv X pins (σ.set i none) H s'->Q ⟨⟩ s'):wpAny M A (do bindName X.env n .none;unbindBehindTheSuite X.env n pos) Q E s:=by
 let#[m,F,B]:=id I.loc;let#[Y,_,_,T,_]:=id F;have a:∀b o,X.s₀.heap.get? b=some o->b≠X.env.locals:=λb o e=>cR (cP (cg e) I.ok.above);erw[wpAny_nameGoes_keeps hl F (by rw[I.ok.kind];rfl) λW v x f=>h _ #[I.ok,I.os,I.bare,#[λb o e n w l=>?_,λb o e n w l=>?_,I.base.free,λb o e l=>?_,I.base.tups,I.base.frzs,I.base.tbls],#[_,x,λj y ς g r S=>?_],λy c e=>?_,I.free,I.freeC,λp P=>?_,λb u e=>?_,by simpa using I.len]]
 .erw[(f.2 b (a b o e)).trans (I.base.keep b o e n w l)]
 .let#[K,g]:=I.base.slot b o e n w l;erw[K,(f.2 b (a b o e)).trans g]
 .let#[R,g]:=I.base.there b o e l;erw[R,(f.2 b (a b o e)).trans g]
 .by_cases hj:j=i
  .subst hj;have:j<↑σ:=by rw[I.len];exact(bY.mp hi).1
   rw[List.getElem?_set_self this]at r;cases r
  .rw[List.getElem?_set_ne (Ne.symm hj)]at r;let#[O,G,q]:=B j y ς g r S;erw[O,G,?_];rcases q with⟨k,e⟩|⟨k,c,e,z⟩
   .have:y≠n:=λz=>hj (yaq hN g (z ▸ hi));erw[.inl #[k,by simp[this,e]]]
   .erw[.inr #[k,c,e,z.sameBut f (I.cne y c e)]]
 .let#[C,z]:=I.cell y c e;erw[C,z.sameBut f (I.cne y c e)]
 .let#[e,L,D,U,d]:=I.pin p P;erw[(f.2 p.1 D).trans e,L,D,U,d]
 .erw[(I.hok b u e).stay (λc C t q=>(f.2 c ?_).trans q) (λZ q=>q) λZ Z q=>q];rintro rfl;rcases t with rfl|t
  .rw[I.free]at e;cases e
  .rw[I.free]at t;cases t
end
end
variable{X:Cx}
noncomputable def ď.un(D:ď)(i:Nat):ď:=#[λσ H=>D.nx (σ.set i none) H,D.rt,λσ H=>D.bk (σ.set i none) H,λσ H=>D.ct (σ.set i none) H]
def exT(K:xy)(D:qa)(i:Nat)(ts:TS)(En:ď):St->XK:=λσ' C Z H'=>∀x,H' x=none->∃Ca,C=.ref Ca/\W.exmOne K ⇑Ca ⇑D=some true/\ts (En.un i) (σ'.set i (some ⇑x)) (upd H' x (.ext (Œ x Ca)))
def vkk(K:xy)(D:qa)(i:Nat)(tb:(St->XK)->TS)(ts:TS):TS:=λEn σ H=>tb (exT K D i ts En) En σ H
section
variable{body suite:qj qd}{b₀:qd}{tx n:Str}{np hpos pos:Pos}{i:Nat}{tb:(St->XK)->TS}{ts:TS}
def vbo(hb:∀pn Ex,PSs (X.tr pn Ex) body (tb Ex))(hst:X.stack=X.env::X.outer/\X.env.frame=some X.env.locals)(hg:Gl X tx)(hm:X.mg tx∣D)
  (hs:∀pn x,PSs (X.su pn x) (b₀::suite) ts) (hN:X.N.Nodup) (hi:X.N[i]?=some n) (hl:X.env.scope.names.lookup n=some .local) (hdb: ~~~((tx == ("__debug__":Str))=false)):
  PS X (.Try body [.ExceptHandler (some (.Name tx np)) (some n) (b₀::suite) hpos] [] [] pos) (vkk X.K D i tb ts):=by
 erw[.mk λa s σ H y I h=>?_]
 have G:∀{f B},SP (X.tr (X.pn++a) (exT X.K D i ts y)) [] y f B->SP X a y f B:=λ{f B}q=>by
  cases f with
  |next=>let⟨σ',j,ς,q⟩:=q;erw[σ',j,ς.unwish.unpnd,q]
  |brk=>let⟨σ',j,ς,q⟩:=q;erw[σ',j,ς.unwish.unpnd,q]
  |cont=>let⟨σ',j,ς,q⟩:=q;erw[σ',j,ς.unwish.unpnd,q]
  |ret u=>let⟨v,σ',j,ς,r,q⟩:=q;erw[v,σ',j,ς.unwish.unpnd,r,q]
 erw[wpAny_Try_except (c7 (hb (X.pn++a) (exT X.K D i ts y) [] s σ H y (I.pnd.wish _) h) (λf Y q=>?_) λe Y q=>?_)]
 .let q:=G q
  cases f with
  |next=>erw[wpAny_execs_nil q]
  |brk=>erw[q]
  |cont=>erw[q]
  |ret u=>erw[q]
 .let#[ps,σ',j,x,T,C,d,J,ς,g,c,tr,q]:=q;have ς:Inv X a σ' j Y:=ς.unpnd;have g:Fy X a j x:=#[g.1,g.2.1,g.2.2.1,g.2.2.2.1,g.2.2.2.2.1,λp Q=>g.2.2.2.2.2 p (cZ _ Q)];have c:Fy X a j T:=#[c.1,c.2.1,c.2.2.1,c.2.2.2.1,c.2.2.2.2.1,λp Q=>c.2.2.2.2.2 p (cZ _ Q)];let#[O,J,S,q]:=q x g.1;erw[yba ς.ok.frames hst.1 hst.2 ς g c tr λs2 T2 ς c tr=>ur ς g c tr λZ T3 ς c tr=>?_];refine wpAny_handleBy_cons (codeAny_handlers_test (jm (ς.su x) hg hm ?_ hdb)) (by intro z;cases z)
  have E:Œ x O Z.heap:=by
   let#[L,_,_,_,_,U,P,_]:=id tr;erw[L,U,P.1]
  erw[W.exm_one (M:=model X.prog X.w) (h:=Z.heap) ς.kIn E.type S _ _ _ _ (λF F z=>z) ?_];dsimp only[if_true];erw[codeAny_handlers_suite_as ?_,<-ur ς g c tr λs4 T4 ς c tr=>?_]
  have A:Œ x O s4.heap:=by
   let#[L,_,_,_,_,U,P,_]:=id tr;erw[L,U,P.1]
  let ς:=ς.track (o:=.ext (Œ x O)) g #[A,let ⟨R,z,_⟩:=A;#[R,z],λh1 h2 ⟨R,z1,z2⟩ k=>#[R,k _ z1,z2]];erw[ė (X:=X.su (X.pn++a) x) (i:=i) (v:=V.ref x) (ς.su x) hN hi (Or.inl hl) J (λs5 J5=>?_) (Or.inr hl),<-c7 (hs (X.pn++a) x [] s5 _ _ (y.un i) J5 q) (λf s6 q=>?_) λF F z=>False.elim z]
  cases f with
  |next=>let⟨σ6,l,m,q⟩:=q;erw[(m.unsu I.ok).unbind hN hi hl λF t=>#[_,l,t,q]]
  |brk=>let⟨σ6,l,m,q⟩:=q;erw[(m.unsu I.ok).unbind hN hi hl λF t=>#[_,l,t,q]]
  |cont=>let⟨σ6,l,m,q⟩:=q;erw[(m.unsu I.ok).unbind hN hi hl λF t=>#[_,l,t,q]]
  |ret u=>let⟨v,σ6,l,m,r,q⟩:=q;erw[(m.unsu I.ok).unbind hN hi hl λF t=>#[v,_,l,t,r,q]]
end
section
mutual
variable{σ:St}{H:Hp}{Q:VK}{tr:TA}{ta:TE}{nx:Ζ}{rt:VK}{bk ct:Ζ}{ts:TS}
def yvx{sp:Sp}{dvs:Τ}{Ex:St->XK}(h:tr σ H λvs H1=>sp (vs++dvs) H1 Q (Ex σ)):yln sp dvs Ex tr σ H Q:=h
def ybf{m:Str}{sp:Sp}{dvs:Τ}{Ex:St->XK}(h:ta σ H λx H1=>∃a dx fs,x=.ref a/\H1 a∩C dx fs/\fs.lookup m=none/\tr σ H1 λvs H2=>sp (x::(vs++dvs)) H2 Q (Ex σ)):Ť C m sp dvs Ex ta tr σ H Q:=h
def yuv{sp:Sp}{dvs:Τ}{Ex:St->XK}(h:tr σ H λvs H1=>∀x dx,H1 x=none->H1 dx=none->dx≠x->sp (.ref x::(vs++dvs)) (upd (upd H1 dx (.own x)) x (.ins C dx [])) (λv H2=>v=.non/\Q ⇑x H2) (Ex σ)):ysh C sp dvs Ex tr σ H Q:=h
def yuk{E:XK}{D:ď}(h:tr σ H λvs H1=>↑vs<=sizeLine/\E ⇑C none H1):ysp E C tr D σ H:=h
def vh9{K:xy}{i:Nat}{tb:(St->XK)->TS}(h:tb (exT K D i ts #[nx,rt,bk,ct]) #[nx,rt,bk,ct] σ H):vkk K D i tb ts #[nx,rt,bk,ct] σ H:=h
def vjf{K:xy}{i:Nat}{d:ql qa}(he:W.exmOne K ⇑C ⇑D=some true)(h:∀x,H x=none->ts #[λσ H=>nx (σ.set i none) H,rt,λσ H=>bk (σ.set i none) H,λσ H=>ct (σ.set i none) H] (σ.set i (some ⇑x)) (upd H x (.ext (Œ x C)))):
  exT K D i ts #[nx,rt,bk,ct] σ ⇑C d H:=λx a=>#[C,J,he,h x a]
def vhd{K:xy}{x:qa}{cv:V}{c:qc}{k:Bool}(hx:H x=some (.ext (Œ x C)))(cl:XCls K C)(r:xq cv c)(u:∀u,xq cv u->u=c)(e:W.kitOne K ⇑C c=some k)(h:Q (.bl k) H):ytz K [.ref x,cv] H Q:=#[x,cv,C,c,k,J,r,u,hx,cl,e,h]
def yl1{K:xy}{x:qa}{k:Bool}(hx:H x=some (.ext (Œ x C)))(cl:XCls K C)(e:W.kitOne K ⇑C ⇑D=some k)(h:Q (.bl k) H):ytz K [.ref x,.ref D] H Q:=vhd hx cl J (λZ z=>z) e h
def vdd{K:xy}{x:qa}{n:String}{k:Bool}(hx:H x=some (.ext (Œ x C)))(cl:XCls K C)(e:W.kitOne K ⇑C (.type n)=some k)(h:Q (.bl k) H):ytz K [.ref x,.ty n] H Q:=vhd hx cl J (λZ z=>z) e h
end
end
section
mutual
variable{κ:Type}[DecidableEq κ]
noncomputable def j7(kvs:qj (κ×V))(k:κ):Χ:=(kvs.find? λkv=>decide (kv.1=k)).map (·.2)
noncomputable def ŭ(kvs:qj (κ×V))(k:κ)(v:V):qj (κ×V) :=
 if (kvs.any λkv=>decide (kv.1=k))=true then kvs.map (λkv=>if kv.1=k then (kv.1,v)else kv)else kvs++[(k,v)]
noncomputable def Č(kvs:qj (κ×V))(k:κ):qj (κ×V):=kvs.filter λkv=>decide (kv.1≠k)
def ue{p:κ×V}{r:qj (κ×V)}{k:κ}(e:p.1=k):j7 (p::r) k=some p.2:=by simp[j7,List.find?_cons,e]
def uc{p:κ×V}{r:qj (κ×V)}{k:κ}(e:¬p.1=k):j7 (p::r) k=j7 r k:=by simp[j7,List.find?_cons,e]
theorem j3(k:κ):∀kvs:qj (κ×V),(kvs.any λkv=>decide (kv.1=k))=(j7 kvs k).isSome
 |[]=>rfl
 |p::r=>by
  rw[List.any_cons];by_cases e:p.1=k
  .simp only[ue e,bV e,Bool.true_or,Option.isSome_some]
  .rw[uc e,cj e,Bool.false_or];erw[j3 k r]
theorem yfn(k j:κ)(y:V):∀kvs:qj (κ×V),j7 (kvs.map λkv=>if kv.1=k then (kv.1,y)else kv) j=(j7 kvs j).map λx=>if j=k then y else x
 |[]=>rfl
 |p::r=>by
  let a:=yfn k j y r;rw[cO];by_cases h:p.1=k
  .rw[if_pos h];by_cases e:p.1=j
   .rw[ue (p:=(p.1,y)) e,ue e,dF,if_pos (e.symm.trans h)]
   .rw[uc (p:=(p.1,y)) e,uc e,a]
  .rw[if_neg h];by_cases e:p.1=j
   .rw[ue (p:=p) e,ue e,dF,if_neg (λz=>h (e.trans z))]
   .rw[uc (p:=p) e,uc e,a]
theorem ycg(k j:κ)(y:V):∀kvs:qj (κ×V),j7 kvs k=none->j7 (kvs++[(k,y)]) j=if j=k then some y else j7 kvs j
 |[],_=>by
  by_cases e:k=j
  .rw[if_pos e.symm];erw[ue (p:=(k,y)) e]
  .rw[if_neg (λz=>e z.symm)];erw[uc (p:=(k,y)) e]
 |p::r,hn=>by
  rw[List.cons_append];have a:¬p.1=k:=λz=>by rw[ue z]at hn;cases hn
  rw[uc a]at hn;let b:=ycg k j y r hn;by_cases e:p.1=j
  .rw[ue e,ue e,if_neg (λz=>a (e.trans z))]
  .rw[uc e,uc e,b]
def Ã(kvs:qj (κ×V))(k j:κ)(y:V):j7 (ŭ kvs k y) j=if j=k then some y else j7 kvs j:=by
 unfold ŭ;by_cases a:(kvs.any λb=>decide (b.1=k))=true
 .rw[if_pos a,yfn];rw[j3]at a;by_cases e:j=k
  .let#[x,c]:=Option.isSome_iff_exists.mp a;rw[if_pos e,e,c,dF,if_pos J]
  .rw[if_neg e]
   cases j7 kvs j with
   |none=>rfl
   |some x=>rw[dF,if_neg e]
 .rw[if_neg a];erw[ycg k j y kvs ?_];rw[j3]at a
  cases q:j7 kvs k with
  |none=>rfl
  |some x=>rw[q]at a;erw[(a J).elim]
def ī(kvs:qj (κ×V))(k:κ)(v:V):↑(ŭ kvs k v)<=↑kvs+1:=by
 unfold ŭ
 split
 .rw[bL];omega
 .rw[bQ,cn,List.length_nil];omega
def ã{kvs:qj (κ×V)}{k:κ}(v:V)(h:j7 kvs k=none):ŭ kvs k v=kvs++[(k,v)]:=by unfold ŭ;rwa[j3,h,if_neg ∅]
def ydc.isSome_eq{o:Χ}{u:ql qc}(r:ydc o u):o.isSome=u.isSome:=by
 cases o with
 |none=>cases u with
  |none=>rfl
  |some _=>erw[(show False from r).elim]
 |some _=>cases u with
  |none=>erw[(show False from r).elim]
  |some _=>rfl
def KV.val{kvs:qj (κ×V)}{vs:qj (κ×qc)}(r:KV kvs vs)(k:κ):ydc (j7 kvs k) (valueAt vs k):=by
 unfold KV at r
 induction r with
 |nil=>erw[True.intro]
 | @cons p q ps qs h t ih =>
  let#[c,d]:=h;by_cases e:p.1=k
  .have a:q.1=k:=c.symm.trans e;have b:valueAt (q::qs) k=some q.2:=by simp[valueAt,List.find?_cons,a]
   rwa[ue e,b,d]
  .have a:¬q.1=k:=λz=>e (c.trans z);have b:valueAt (q::qs) k=valueAt qs k:=by simp[valueAt,List.find?_cons,a]
   rwa[uc e,b,ih]
theorem KV.any{kvs:qj (κ×V)}{vs:qj (κ×qc)}(r:KV kvs vs)(k:κ):(kvs.any λkv=>decide (kv.1=k))=vs.any λkv=>decide (kv.1=k):=by
 unfold KV at r
 induction r with
 |nil=>rfl
 |cons h t ih=>rw[List.any_cons,List.any_cons,ih,h.1]
def KV.repl{kvs:qj (κ×V)}{vs:qj (κ×qc)}(r:KV kvs vs)(k:κ){y:V}(ry:xq y u):
  KV (kvs.map λkv=>if kv.1=k then (kv.1,y)else kv) (vs.map λkv=>if kv.1=k then (kv.1,u)else kv):=by
 unfold KV at r⊢
 induction r with
 |nil=>erw[.nil]
 | @cons p q ps qs h t ih =>
  rwa[cO,cO,.cons ?_ ih];let#[a,b]:=h;by_cases e:p.1=k
  .rw[if_pos e,if_pos (a.symm.trans e)];erw[a,ry]
  .rw[if_neg e,if_neg (λz=>e (a.trans z))];erw[a,b]
def KV.put{kvs:qj (κ×V)}{vs:qj (κ×qc)}(r:KV kvs vs)(k:κ){y:V}(ry:xq y u):KV (ŭ kvs k y) (stored vs k u):=by
 unfold ŭ stored;rw[r.any k];by_cases e:(vs.any λa=>decide (a.1=k))=true
 .rw[if_pos e,if_pos e];erw[r.repl k ry]
 .rw[if_neg e,if_neg e];erw[Paired.snoc r #[J,ry]]
def KV.drop{kvs:qj (κ×V)}{vs:qj (κ×qc)}(r:KV kvs vs)(k:κ):KV (Č kvs k) (without vs k):=by
 unfold KV at r⊢;unfold Č without
 induction r with
 |nil=>erw[.nil]
 | @cons p q ps qs h t ih =>
  let#[c,d]:=h;rw[List.filter_cons,List.filter_cons];by_cases e:p.1=k
  .have a:¬decide (p.1≠k)=true:=by simp[e]
   have b:¬decide (q.1≠k)=true:=by simp[c.symm.trans e]
   rwa[if_neg a,if_neg b,ih]
  .have f:¬q.1=k:=λz=>e (c.trans z);have a:decide (p.1≠k)=true:=by simp[e]
   have b:decide (q.1≠k)=true:=by simp[f]
   rwa[if_pos a,if_pos b,.cons #[c,d] ih]
theorem KV.length{kvs:qj (κ×V)}{vs:qj (κ×qc)}(r:KV kvs vs):↑kvs=↑vs:=Paired.length r
def yo1(kvs:qj (κ×V))(k:κ):↑(Č kvs k)<=↑kvs:=List.length_filter_le _ _
end
end
mutual
def yid{w:qe}{k:Key}(r:xq (kV k) u):(w8 P w).is k u=true:=by
 cases k with
 |inl i=>let⟨t,e⟩:=(show ∃t,u=Value.int i t from r);subst e;erw[ydh P w i t]
 |inr x=>let⟨t,e⟩:=(show ∃t,u=Value.str x t from r);subst e;erw[ydq P w x t]
theorem yb8{w:qe}:∀{ks:qj Key}{us:Ξ},w9 (ks.map kV) us->ItemsAre (w8 P w) ks us
 |[],_,r=>by rw[List.map_nil]at r;cases r;erw[.nil]
 |k::ks,_,r=>by
  rw[cO]at r
  cases r with
  |cons h t=>erw[.cons (yid h) (yb8 t)]
abbrev KT(H:Hp):qj (qj Key×V)->qj (qj Key×qa×qc)->Prop:=Paired λp q=>p.1=q.1/\H q.2.1∪(p.1.map kV)/\xq p.2 q.2.2
def KT.val{H:Hp}{kvs:qj (qj Key×V)}{xs:qj (qj Key×qa×qc)}(r:KT H kvs xs)(k:qj Key):ydc (j7 kvs k) ((atKey xs k).map (·.2)):=by
 induction r with
 |nil=>erw[True.intro]
 | @cons p q ps qs h t ih =>
  let#[c,_,d]:=h;by_cases e:p.1=k
  .have a:q.1=k:=c.symm.trans e;have b:atKey (q::qs) k=some q.2:=by simp[atKey,List.find?_cons,a]
   rwa[ue e,b,d]
  .have a:¬q.1=k:=λz=>e (c.trans z);have b:atKey (q::qs) k=atKey qs k:=by simp[atKey,List.find?_cons,a]
   rwa[uc e,b,ih]
def KT.repl{H:Hp}{kvs:qj (qj Key×V)}{xs:qj (qj Key×qa×qc)}(r:KT H kvs xs)(k:qj Key){y:V}(ry:xq y u):
  KT H (kvs.map λkv=>if kv.1=k then (kv.1,y)else kv) (xs.map (putAt k u)):=by
 induction r with
 |nil=>erw[.nil]
 | @cons p q ps qs h t ih =>
  rwa[cO,cO,.cons ?_ ih];let#[a,b,c]:=h;unfold putAt;by_cases e:p.1=k
  .rw[if_pos e,if_pos (a.symm.trans e)];erw[a,b,ry]
  .rw[if_neg e,if_neg (λz=>e (a.trans z))];erw[a,b,c]
def KT.put{H:Hp}{kvs:qj (qj Key×V)}{xs:qj (qj Key×qa×qc)}(r:KT H kvs xs)(k:qj Key){b:qa}{y:V}(hb:H b∪(k.map kV))(ry:xq y u):
  KT H (ŭ kvs k y) (storedH xs k b u):=by
 have e:(kvs.any λa=>decide (a.1=k))=(atKey xs k).isSome:=by
  rw[j3,(r.val k).isSome_eq,Option.isSome_map]
 unfold ŭ storedH;rw[e];by_cases q:(atKey xs k).isSome=true
 .rw[if_pos q,if_pos q];erw[r.repl k ry]
 .rw[if_neg q,if_neg q];erw[Paired.snoc r #[J,hb,ry]]
def KT.keeps{H H':Hp}{kvs:qj (qj Key×V)}{xs:qj (qj Key×qa×qc)}(r:KT H kvs xs)(ht:∀b ys,H b∪ys->H' b∪ys):KT H' kvs xs :=
 Paired.mapP r λZ Z z=>#[z.1,ht _ _ z.2.1,z.2.2]
end
section
mutual
variable{w:qe}{H:Hp}{h:qg}
def vgu{u:HO}(ok:HOk P w H h)(e:Rd H a u):xn P w H h a u:=e.ok ok
def ye6{kvs:qj (Key×V)}(ok:HOk P w H h)(e:Rd H a (.dK kvs)):↑kvs<=sizeLine/\(a == sysModules)=false/\∃vs,KV kvs vs/\h.DictOf (w8 P w) a vs :=
 show xn P w H h a (.dK kvs)from vgu ok e
def vgd{kvs:qj (Key×V)}(ok:HOk P w H h)(e:H a=some (.dK kvs)):↑kvs<=sizeLine/\(a == sysModules)=false/\∃vs,KV kvs vs/\h.DictOf (w8 P w) a vs:=ye6 ok (.inl e)
def yc3{ks:qj Key}(ok:HOk P w H h)(e:H a∪(ks.map kV)):(tupleKind (w8 P w)).is h ks a:=by let#[_,b,r,o,f,c,n,d]:=(show xn P w H h a (.tup (ks.map kV))from ok a _ e);erw[o,b.toArray,n,f,c,d,by simpa using yb8 r]
def yic{kvs:qj (qj Key×V)}(ok:HOk P w H h)(e:Rd H a (.dT kvs)):↑kvs<=sizeLine/\(a == sysModules)=false/\
  ∃xs,KT H kvs xs/\h.DictOfH (tupleKind (w8 P w)) a xs:=by
 let#[z,y,xs,r,o,j,d,i,f,n,g,k]:=(show xn P w H h a (.dT kvs)from vgu ok e);erw[z,y,xs,r,o,j,d,i,f,n,g,λx b=>?_,k]
 have c:∀{l:qj (qj Key×V)}{m:qj (qj Key×qa×qc)},KT H l m->∀x∈m,(tupleKind (w8 P w)).is h x.1 x.2.1:=by
  intro l m q
  induction q with
  |nil=>intro x b;erw[nomatch b]
  | @cons p q ps qs hq t ih =>
   intro x b;rcases bZ.mp b with e|b
   .subst e;erw[yc3 ok (by rwa[<- hq.1,hq.2.1])]
   .erw[ih x b]
 erw[c r x b]
def vh8{kvs:qj (qj Key×V)}(ok:HOk P w H h)(e:H a=some (.dT kvs)):↑kvs<=sizeLine/\(a == sysModules)=false/\
  ∃xs,KT H kvs xs/\h.DictOfH (tupleKind (w8 P w)) a xs:=yic ok (.inl e)
end
end
mutual
def Ŭ(H:Hp)(a:qa)(y:V)(r:Χ):Prop :=
 (∃kvs k,Rd H a (.dK kvs)/\y=kV k/\r=j7 kvs k)\/∃kvs k b,Rd H a (.dT kvs)/\y=.ref b/\H b∪(k.map kV)/\r=j7 kvs k
def ym1(H:Hp)(a:qa)(y v:V)(H':Hp):Prop :=
 (∃kvs k,H a=some (.dK kvs)/\y=kV k/\↑kvs<sizeLine/\H'=upd H a (.dK (ŭ kvs k v))) \/
 ∃kvs k b,H a=some (.dT kvs)/\y=.ref b/\H b∪(k.map kV)/\↑kvs<sizeLine/\H'=upd H a (.dT (ŭ kvs k v))
theorem Ŭ.k{H:Hp}{kvs:qj (Key×V)}{k:Key}(e:H a=some (.dK kvs)):Ŭ H a (kV k) (j7 kvs k):=.inl #[kvs,k,.inl e,J,J]
def Ŭ.t{H:Hp}{b:qa}{kvs:qj (qj Key×V)}{k:qj Key}(e:H a=some (.dT kvs))(eb:H b∪(k.map kV)):Ŭ H a ⇑b (j7 kvs k):=.inr #[kvs,k,b,.inl e,J,eb,J]
theorem ym1.k{H:Hp}{kvs:qj (Key×V)}{k:Key}{v:V}(e:H a=some (.dK kvs))(hl:↑kvs<sizeLine):ym1 H a (kV k) v (upd H a (.dK (ŭ kvs k v))):=.inl #[kvs,k,e,J,hl,J]
def ym1.t{H:Hp}{b:qa}{kvs:qj (qj Key×V)}{k:qj Key}{v:V}(e:H a=some (.dT kvs))(eb:H b∪(k.map kV))(hl:↑kvs<sizeLine):
  ym1 H a ⇑b v (upd H a (.dT (ŭ kvs k v))):=.inr #[kvs,k,b,e,J,eb,hl,J]
end
section
mutual
variable{σ:St}{H:Hp}{s:qb}{y v:V}{r:qc}{o:Χ}{A:qf}
def Inv.big(I:(Inv X pins σ H) s):sysModules<s.heap⁻¹:=by have h:mainGlobals<s.heap⁻¹:=(I.mod.glob.keeps I.bk).lt;erw[Nat.lt_trans ∅ h]
def yjc(hu:A.units+1<cLine)(I:(Inv X pins σ H) s)(g:Ŭ H a y (some v))(ry:xq y u)(h:∀w' s',(Inv X pins σ H) s'->xq v w'->Q w' s'):
  wpAny (model X.prog X.w) A (getItem ⇑a u) Q E s:=by
 rcases g with⟨i,k,e,j,l⟩|⟨i,k,b,e,j,B,l⟩
 .subst j;let#[z,q,t,d,n]:=ye6 I.hok e;let#[w',f,c]:=ydc.some_of (v:=v) (o:=valueAt t k) (by rwa[l,d.val k]);erw[wpAny_getItem_of (yid ry) n.mapOf f (h w' _ (I.tok _) c)]
 .subst j;cases (show u=Value.ref b from ry);let#[z,q,x,d,n]:=yic I.hok e;let#[w',f,c]:=ydc.some_of (v:=v) (o:=(atKey x k).map (·.2)) (by rwa[l,d.val k]);let#[p,r,m]:=dI.mp f;erw[wpAny_getItem_heap (tupleKind_room_in1 hu) (yc3 I.hok B) n r ?_];rwa[m,h w' _ (I.tok _) c]
def vly(hu:A.units+1<cLine)(I:(Inv X pins σ H) s)(g:Ŭ H a y o)(ry:xq y u)(h:∀s',(Inv X pins σ H) s'->Q (.bool o.isSome) s'):
  wpAny (model X.prog X.w) A (compareOp .In u ⇑a) Q E s:=by
 rcases g with⟨f,k,e,i,l⟩|⟨f,k,b,e,i,m,l⟩
 .subst i;let#[z,d,n,c,j]:=ye6 I.hok e;erw[wpAny_in_of (yid ry) d j.mapOf ?_];rwa[<- (c.val k).isSome_eq,<- l,h _ (I.tok _)]
 .subst i;cases (show u=Value.ref b from ry);let#[z,d,p,c,j]:=yic I.hok e;erw[wpAny_in_heap (tupleKind_room_in1 hu) (yc3 I.hok m) d j ?_];let q:=(c.val k).isSome_eq;rw[Option.isSome_map]at q;rwa[<- q,<- l,h _ (I.tok _)]
def yw1(hu:A.units+1<cLine)(I:(Inv X pins σ H) s)(g:Ŭ H a y o)(ry:xq y u)(h:∀s',(Inv X pins σ H) s'->Q (.bool (!o.isSome)) s'):
  wpAny (model X.prog X.w) A (compareOp .NotIn u ⇑a) Q E s:=by
 rcases g with⟨f,k,e,i,l⟩|⟨f,k,b,e,i,m,l⟩
 .subst i;let#[z,d,n,c,j]:=ye6 I.hok e;erw[wpAny_notIn_of (yid ry) d j.mapOf ?_];rwa[<- (c.val k).isSome_eq,<- l,h _ (I.tok _)]
 .subst i;cases (show u=Value.ref b from ry);let#[z,d,p,c,j]:=yic I.hok e;erw[wpAny_notIn_heap (tupleKind_room_in1 hu) (yc3 I.hok m) d j ?_];let q:=(c.val k).isSome_eq;rw[Option.isSome_map]at q;rwa[<- q,<- l,h _ (I.tok _)]
def yeh{t':Nat}{ob:HO}(I:(Inv X pins σ H) s)(mu:Mut (H a))(hs:Heap.SameBut a s.heap h')(he:∃q,h'.get? a=some q)(new:xn X.prog X.w (upd H a ob) h' a ob):
  Inv X pins σ (upd H a ob) {s with heap:=h',toks:=t'} :=
 I.write (x:=a) (e:=a) mu (.inl J) (λb q c z=>(hs.2 b c).trans z) he new
def yqj{w:qe}{H':Hp}{kvs:qj (Key×V)}{vs:qj (Key×qc)}(z:↑kvs<=sizeLine)(hd:(a == sysModules)=false)(rel:KV kvs vs)(dd:h'.DictOf (w8 P w) a vs):
  xn P w H' h' a (.dK kvs):=#[z,hd,vs,rel,dd]
def yi2{H':Hp}{Q:Unit->qb->Prop}(hu:A.units+1<cLine)(I:(Inv X pins σ H) s)(g:ym1 H a y v H')(ry:xq y u)(rv:xq v r)(h:∀s',Inv X pins σ H' s'->Q ⟨⟩ s'):
  wpAny (model X.prog X.w) A (setItem ⇑a u r) Q E s:=by
 rcases g with⟨d,k,e,B,l,n⟩|⟨d,k,b,e,B,F,l,n⟩
 .subst B n;let#[z,m,ς,f,x]:=vgd I.hok e;have o:↑ς<=sizeLine:=by rw[<- ↑f];exact z
  have p:↑(ŭ d k v)<=sizeLine:=by have:=ī d k v;omega
  erw[wpAny_setItem_pairs (hsz:=o) (yid ry) x λD i t=>h _ ?_];have R:∃q,D.get? a=some q:=let ⟨q,_,_,j,_⟩:=i;#[q,j];erw[yeh I (by rwa[e,True.intro]) t R (yqj p m (f.put k rv) i)]
 .subst B n;cases (show u=Value.ref b from ry);let#[z,m,M,f,x]:=vh8 I.hok e;have o:↑M<=sizeLine:=by rw[<- Paired.length f];exact z
  have p:↑(ŭ d k v)<=sizeLine:=by have:=ī d k v;omega
  erw[wpAny_setItem_heap (hsz:=o) (tupleKind_room_in1 hu) (yc3 I.hok F) x λD i t=>h _ ?_];let#[q,N,P,j,G,O,K,_,L]:=i;erw[yeh I (by rwa[e,True.intro]) t #[q,j] #[p,m,_,(f.put k F rv).keeps λc S C=>?_,q,N,P,j,G,O,K,L]]
  rw[yk (xf C e (λz=>nomatch z))]
  erw[C]
end
end
section
variable{σ:St}{H:Hp}{s:qb}{kvs:qj (Key×V)}{k:Key}{A:qf}
def vh7{v:V}{more:Ξ}(I:(Inv X pins σ H) s)(e:H a=some (.dK kvs))(ry:xq (kV k) u)(l:j7 kvs k=some v)(hm:more=[]\/∃x,more=[x])
  (h:∀w' s',Inv X pins σ (upd H a (.dK (Č kvs k))) s'->xq v w'->Q w' s'):wpAny (model X.prog X.w) A (call (.builtin "dict.pop") (.ref a::u::more)) Q E s:=by
 let#[z,j,f,b,g]:=vgd I.hok e;let#[w',m,d]:=ydc.some_of (v:=v) (o:=valueAt f k) (by rwa[<- l,b.val k])
 have n:(keyPart u).isSome=true:=by
  cases k with
  |inl i=>let⟨t,q⟩:=(show ∃t,u=Value.int i t from ry);subst q;rfl
  |inr x=>let⟨t,q⟩:=(show ∃t,u=Value.str x t from ry);subst q;rfl
 have r:argsOk "dict.pop" #[.ref a::u::more,[]]:=by
  rcases hm with q|⟨x,q⟩
  .subst q;erw[PySem.F.args_dict_pop_2 _ _]
  .subst q;erw[PySem.F.args_dict_pop_3 _ _ _]
 refine call_meetsIn PySem.F.slot_dict_pop g.typeIs PySem.F.entry_dict_pop r (meets_dict_pop_there (w8 X.prog X.w) a (yid ry) more hm n)
  #[f,w',g,by rwa[<- ↑b,z],m,λp c B=>h w' _ ?_ d]
 have y:∃q,p.get? a=some q:=let ⟨q,_,_,hq,_⟩:=c;#[q,hq];erw[yeh I (by rwa[e,True.intro]) B y (yqj (cN (yo1 kvs k) z) j (b.drop k) c)]
def vjm(I:(Inv X pins σ H) s)(e:Rd H a (.dK kvs))(h:∀t s',(Inv X pins σ H) s'->Q (.int ↑kvs t) s'):wpAny (model X.prog X.w) A (call (.builtin "len") [.ref a]) Q E s:=by let#[z,c,f,b,d]:=ye6 I.hok e;erw[call_len_dict c d (by rw[<- ↑b];rw[sizeLine_eq]at z;omega) ?_];rwa[<- ↑b,h _ _ (I.tok _)]
end
mutual
def vky(i:qh):Prop:=∀ov iv,subscripted i false ov iv=operate [ov,iv] (getItem ov iv)
def yxi{prog:qi}{w:qe}{A:qf}{s:qb}{env:Env}{value slice:qh}{pos:Pos}{T id:String} 
  (hl:typeLookup (.type T) "__getitem__"=pure (some (.builtin id))) (hs:vky slice)
  (h:wpAny (model prog w) A (eval value env) (λo s₁=>wpAny (model prog w) A (eval slice env) (λi s₂=>s₂.TypeIs o T/\wpAny (model prog w) A (getItem o i) Q E s₂) E s₁) E s):
  wpAny (model prog w) A (eval (.Subscript value slice pos) env) Q E s:=by
 erw[Subscript_ (c7 h (λo s₁ h₁=>c7 h₁ (λi s₂ h₂=>?_) λZ Z x=>x) λZ Z x=>x)];let#[b,h₂]:=h₂;unfold subscriptTail;erw[bv ?_];rwa[getitemInPython_of_ne b.not_modules,bv (wpAny_specialOf b hl ?_)]
 have a:wpAny (model prog w) A (subscripted slice false o i) (λr s₃=>wpAny (model prog w) A (letTemporaryGo value o r >>=λZ=>pure r) Q E s₃) E s₂:=by
  rwa[hs o i,wpAny_operating (c7 h₂ (λr s₃ h₃=>bv (wpAny_letTemporaryGo (bS h₃))) λZ Z x=>x)]
 first
  |erw[bS (bv a)]
  |erw[bv (bS (bv a))]
  |erw[bv a]
def ydv{σ:St}{H:Hp}{s:qb}{y:V}{o:Χ}(I:(Inv X pins σ H) s)(g:Ŭ H a y o):s.TypeIs ⇑a "dict":=by
 rcases g with⟨d,k,e,_,_⟩|⟨d,k,b,e,_,_,_⟩
 .let#[_,_,h,_,c]:=ye6 I.hok e;erw[c.typeIs]
 .let#[_,_,f,_,c]:=yic I.hok e;erw[c.typeIs]
def ve1(td ty:TE):TE:=λσ H Q=>td σ H λx H1=>ty σ H1 λy H2=>∃a v,x=.ref a/\Ŭ H2 a y (some v)/\Q v H2
def vk6(ty td:TE):TE:=λσ H Q=>ty σ H λy H1=>td σ H1 λx H2=>∃a o,x=.ref a/\Ŭ H2 a y o/\Q (.bl o.isSome) H2
def ykk(ty td:TE):TE:=λσ H Q=>ty σ H λy H1=>td σ H1 λx H2=>∃a o,x=.ref a/\Ŭ H2 a y o/\Q (.bl (!o.isSome)) H2
def vey(td ty tv:TE):TS:=λD σ H=>tv σ H λv H1=>td σ H1 λx H2=>ty σ H2 λy H3=>∃a H4,x=.ref a/\ym1 H3 a y v H4/\D.nx σ H4
end
section
mutual
variable{o i value:qh}{pos pos' tpos:Pos}{td ty tv:TE}
def ya3(hu:X.A.units+1<cLine)(ho:PE X o td)(hi:PE X i ty)(hs:vky i):PE X (.Subscript o i pos) (ve1 td ty):=by refine .mk λb s σ H Q I h=>?_;erw[yxi PySem.F.slot_dict_getitem.lookup hs (thn (ho b s σ H _ I h) λu m ⟨x,k,q,n,l⟩=>thn (hi b m σ k _ q l) λB z h'=>?_)];let#[y,j,d,p,a,v,e,g,r]:=h';subst e;obtain rfl:u=Value.ref a:=n;erw[ydv d g,yjc hu d g p λw t f c=>#[v,j,f,c,r]]
def vbi(hu:X.A.units+1<cLine)(hi:PE X i ty)(ho:PE X o td):PC X .In i o (vk6 ty td):=by intro b s σ H Q I h;erw[thn (hi b s σ H _ I h) λw l ⟨y,f,q,p,k⟩=>thn (ho b l σ f _ q k) λu v h'=>?_];let#[x,e,j,m,a,n,c,g,r]:=h';subst c;obtain rfl:u=Value.ref a:=m;erw[vly hu j g p λt d=>#[.bl n.isSome,e,d,J,r]]
def ycj(hu:X.A.units+1<cLine)(hi:PE X i ty)(ho:PE X o td):PC X .NotIn i o (ykk ty td):=by intro b s σ H Q I h;erw[thn (hi b s σ H _ I h) λw l ⟨y,f,q,p,k⟩=>thn (ho b l σ f _ q k) λu v h'=>?_];let#[x,e,j,m,a,n,c,g,r]:=h';subst c;obtain rfl:u=Value.ref a:=m;erw[yw1 hu j g p λt d=>#[.bl (!n.isSome),e,d,J,r]]
def ya8(hu:X.A.units+1<cLine)(ho:PE X o td)(hi:PE X i ty)(hv:PE X value tv)(hs:swapsWith value (some (.Subscript o i pos')) pos.line X.env=pure false):
  PS X (.Assign [.Subscript o i pos'] value pos) (vey td ty tv):=by refine .mk λb s σ H D I h=>?_;erw[wpAny_Assign_Subscript (thn (hv b s σ H _ I h) λr t ⟨v,q,e,p,l⟩=>thn (ho b t σ q _ e l) λu k ⟨x,B,n,w,C⟩=>thn (hi b k σ B _ n C) λς G h'=>?_) hs];let#[y,F,f,z,a,j,c,g,m]:=h';subst c;obtain rfl:u=Value.ref a:=w;erw[yi2 hu f g z p λE d=>#[σ,j,d,m]]
end
end
mutual
def yn8{w:qe}{H:Hp}(h:qg)(hb:sysModules<h⁻¹):xn P w H (h.push { cls:=.type "dict",data:=.dict #[]}) h⁻¹ (.dK []) :=
 #[cK _,dH.mpr (Ne.symm (cR hb)),[],.nil,Heap.DictOf.new h]
def yos{w:qe}{H:Hp}(h:qg)(hb:sysModules<h⁻¹):xn P w H (h.push { cls:=.type "dict",data:=.dict #[]}) h⁻¹ (.dT []) :=
 #[cK _,dH.mpr (Ne.symm (cR hb)),[],.nil,_,#[],0,cb _ J,#[J,J,J],J,J,List.nodup_nil]
def ysj:TE:=λZ H Q=>∀p,H p=none->Q ⇑p (upd H p (.dK []))
def yrl:TE:=λZ H Q=>∀p,H p=none->Q ⇑p (upd H p (.dT []))
end
section
variable{pos:Pos}
def yn2:PE X (.Dict [] [] pos) ysj:=.mk λb s σ H Q I h =>
 wpAny_Dict_empty #[.ref s.heap⁻¹,_,I.laid (a:=s.heap⁻¹) (o:=.dK []) (t':=s.toks) (λZ Z q=>bR _ q) (bT _) (yn8 s.heap I.big),J,h _ (I.hok.fresh (bT _))]
def yf7:PE X (.Dict [] [] pos) yrl:=.mk λb s σ H Q I h =>
 wpAny_Dict_empty #[.ref s.heap⁻¹,_,I.laid (a:=s.heap⁻¹) (o:=.dT []) (t':=s.toks) (λZ Z q=>bR _ q) (bT _) (yos s.heap I.big),J,h _ (I.hok.fresh (bT _))]
end
mutual
structure M1(X:Cx)(o:qh)(m:Str)(apos:Pos)(e:qh)(cpos:Pos):Prop where
 base:attributeBase o m X.env (eval o X.env)=eval o X.env
 few:((backTo cpos (starEach [e] X.env)).all (λx=>!x.1) && (backToKw cpos (keywordEach [] X.env)).all (λx=>x.1.isSome)
  && decide (↑([e]:qj qh)+↑([]:qj Keyword)+(if ([]:qj Keyword).isEmpty then 0 else 1)<30))=true
 line:(apos.endLine == cpos.line)=true
 trees:backTo cpos (starEach [e] X.env)=[(false,eval e X.env)]
structure M2(X:Cx)(o:qh)(m:Str)(apos:Pos)(e f:qh)(cpos:Pos):Prop where
 base:attributeBase o m X.env (eval o X.env)=eval o X.env
 few:((backTo cpos (starEach [e,f] X.env)).all (λx=>!x.1) && (backToKw cpos (keywordEach [] X.env)).all (λx=>x.1.isSome)
  && decide (↑([e,f]:qj qh)+↑([]:qj Keyword)+(if ([]:qj Keyword).isEmpty then 0 else 1)<30))=true
 line:(apos.endLine == cpos.line)=true
 trees:backTo cpos (starEach [e,f] X.env)=[(false,eval e X.env),(false,eval f X.env)]
def IsD(H:Hp)(a:qa):Prop:=(∃kvs,Rd H a (.dK kvs))\/∃kvs,Rd H a (.dT kvs)
def vb2{σ:St}{H:Hp}{s:qb}(I:(Inv X pins σ H) s)(d:IsD H a):
  s.TypeIs ⇑a "dict"/\(∀b,Value.ref a=.ref b->∃ob,s.heap.get? b=some ob/\ob.dict=none)/\(a == sysModules)=false:=by
 rcases d with⟨g,e⟩|⟨g,e⟩
 .let#[_,f,j,_,c]:=ye6 I.hok e;erw[c.typeIs,λb q=>?_,f];cases q;let#[ob,_,_,i,h,_]:=c;erw[ob,i,h.2.1]
 .let#[_,f,k,_,c]:=yic I.hok e;erw[c.typeIs,λb q=>?_,f];cases q;let#[ob,_,_,i,h,_]:=c;erw[ob,i,h.2.1]
def ysx(td ty:TE):TE:=λσ H Q=>td σ H λx H1=>∃a,x=.ref a/\IsD H1 a/\ty σ H1 λy H2=>∃kvs k v,H2 a=some (.dK kvs)/\y=kV k/\j7 kvs k=some v/\Q v (upd H2 a (.dK (Č kvs k)))
end
section
variable{o f:qh}{apos cpos:Pos}{td ty tx:TE}
def yne(ho:PE X o td)(he:PE X e ty)(m:M1 X o "pop" apos e cpos):PE X (.Call (.Attribute o "pop" apos) [e] [] cpos) (ysx td ty):=by refine .mk λb s σ H Q I h=>?_;erw[wpAny_Call_method m.base m.few m.line PySem.F.plainAttrs_dict PySem.F.slot_dict_pop PySem.F.type_dict_pop (thn (ho b s σ H _ I h) λu w h'=>?_)];let#[x,t,f,z,a,i,d,p]:=h';subst i;obtain rfl:u=Value.ref a:=z;let#[r,j,_]:=vb2 f d;erw[r,j,?_];rwa[m.trees,Calls.callWith_builtin J (Calls.evalArgs_plain (Calls.spliced_cons (thn (he b w σ t _ f p) λL G ⟨y,ς,q,A,g,k,v,C,B,l,D⟩=>Calls.spliced_nil ?_)))];subst B;erw[vh7 q C A l (.inl J) λE K n c=>#[v,_,n,c,D]]
end
@[irreducible] def QE(X:Cx)(e:qh)(t:TE):Prop:=PE X e t
@[irreducible] def QSs(X:Cx)(st:qj qd)(t:TS):Prop:=PSs X st t
@[irreducible] def QS(X:Cx)(st:qd)(t:TS):Prop:=PS X st t
section
variable{te:TE}{pos:Pos}{ts us:TS}{xj:qj qd}
def yh{R:TS->Prop}(h1:PS X st ts)(h2:∃us,PSs X xj us/\R (vj3 ts us)):∃t,PSs X (st::xj) t/\R t:=let ⟨_,a,b⟩:=h2;#[_,yf h1 a,b]
end
mutual
theorem yaw:∀{bs:qj Bool}{us:Ξ},w9 (bs.map V.bl) us->us=bs.map Value.bool
 |[],_,.nil=>rfl
 |b::r,_,.cons a t=>by rw[show _=Value.bool b from a,yaw t];rfl
def yj6(bs:qj Bool):((List.range ↑bs).all λi=>(bs[i]?).getD true)=bs.all id:=by
 rw[Bool.eq_iff_iff,List.all_eq_true,List.all_eq_true]
 constructor
 .intro h b c;let#[i,a,J]:=List.getElem_of_mem c;have:=h i (c8.mpr a);rw[bP a]at this;erw[this]
 .intro h i a;let a:=c8.mp a;rwa[bP a,h _ (cE a)]
def À(hc:X.calm=true):j6 X (.builtin "all") (λxs H Q=>∃p bs,xs=[.ref p]/\SqL X.K H p (List.map V.bl bs)/\Q (.bl (bs.all id)) H):=by
 intro g s σ H xs E Q I r h;let#[p,bs,J,l,q]:=h;let#[u,J,t]:=č r;cases t;let#[n,j,o,C]:=I.list l;obtain rfl:=yaw j;let f:=o.isList;have c:p<s.heap⁻¹:=by let#[_,e,_]:=f;erw[cg e]
 erw[call_all_walk (wpAny_pyIter_list f ?_)]
 erw[s.heap⁻¹,[s.heap⁻¹,p],[s.heap⁻¹],(bs.map Value.bool).toArray.size,_,_,λi=>(bs[i]?).getD true,J,Walks.list (A:=X.A.in1) (show X.A.handled=none from I.ok.hd hc) _ p (cR c) (bs.map Value.bool).toArray,
  #[#[_,cb _ J,J,J],f.push _],λi v y D z a d=>?_,λB m k=>?_]
 .have a:(bs.map Value.bool)[i]?=some v:=by simpa using a
  rw[bU]at a
  cases e:bs[i]? with
  |none=>rw[e]at a;cases a
  |some b =>
   dsimp only at d;rw[e]at a d;cases a;erw[dm d]
 .have e:((List.range (bs.map Value.bool).toArray.size).all λi=>(bs[i]?).getD true)=bs.all id:=by
   rwa[cu,bL,yj6 bs]
  rwa[e,#[.bl (bs.all id),H,I.kept (t':=m) λb x e=>k b x (λw=>?_) (bR _ e),J,q]];rw[bX.mp w]at e;erw[dv _ (cg e)]
end
set_option tactic.hygienic true in
theorem jk{env:Env}:∀{names:qj (Str×NameKind)}{x:Str}{k:NameKind},
  (names.map λ(n,k)=>if (k == NameKind.free && env.scope.kind == .function && env.kindOf n == some .cell)then (n,NameKind.cell)else (n,k)).lookup x=some k->∃k0,(x,k0)∈names/\(k=k0\/k0=.free)
 |[],_,_,h=>by simp at h
 |(n,k1)::r,x,k,h=>by
  rw[cO]at h;by_cases hx:x=n
  .subst hx;erw[k1,.head _,?_];dsimp only at h
   split at h
   .rename_i hc
    simp only[cB,beq_iff_eq]at hc;erw[.inr hc.1.1]
   .simp[List.lookup]at h;erw[.inl h.symm]
  .have:(x == n)=false:=by simpa using hx
   have a:(r.map λ(n,k)=>if (k == NameKind.free && env.scope.kind == .function && env.kindOf n == some .cell)then (n,NameKind.cell)else (n,k)).lookup x=some k:=by
    dsimp only at h
    split at h<;>simpa[List.lookup,this]using h
   let#[k0,m,q]:=jk a;erw[k0,.tail _ m,q]
mutual
noncomputable def ŀ(ys:Ρ)(env:Env):qj (Str×qa):=ys.map λy=>(y,(env.cells.lookup y).getD 0)
theorem yfs{env:Env}:∀{ys:Ρ}{y:Str}{c:qa},(ŀ ys env).lookup y=some c->y∈ys/\c=(env.cells.lookup y).getD 0
 |[],_,_,h=>by simp[ŀ]at h
 |z::r,y,c,h=>by
  by_cases hy:y=z
  .subst hy;simp[ŀ,List.lookup]at h;erw[.head _,h.symm]
  .have b:(y == z)=false:=by simpa using hy
   have a:(ŀ r env).lookup y=some c:=by simpa[ŀ,List.lookup,b]using h
   let#[m,e]:=yfs a;erw[.tail _ m,e]
theorem yao{env:Env}:∀{ys:Ρ}{y:Str},y∈ys->(ŀ ys env).lookup y=some ((env.cells.lookup y).getD 0)
 |z::r,y,h=>by
  by_cases hy:y=z
  .subst hy;simp[ŀ,List.lookup]
  .have b:(y == z)=false:=by simpa using hy
   have a:y∈r:=by
    rcases bZ.mp h with q|q
    .erw[absurd q hy]
    .erw[q]
   have:=yao (env:=env) a;simpa[ŀ,List.lookup,b]using this
abbrev Cx.compF(X:Cx)(scope:Scope)(ys:Ρ)(C:qa)(x:Str)(s2:qb)(H2:Hp)(fp:Φ):Cx :=
 {X with N:=x::ys,s₀:=s2,H₀:=H2,env:=compEnvC scope (ŀ ys X.env) C X.env,outer:=X.stack,ex:=fp,fn:=λZ=>false,pn:=[],xe:=λZ Z=>False}
def zd(ς:It)(te:TE)(fr:St)(D:qa)(R:Hp->Prop)(H1:Hp):Prop:=∃W:Nat->Nat->Hp->Prop,(∃m,W 0 m (upd H1 D (.lst [])))/\
 ∀i m H2,W i m H2->(ς.stop i H2/\R H2)\/(ς.go i H2/\∀x H3,ς.yld i H2 x H3->te (some x::fr) H3 λy H4=>∃ys,H4 D\ys/\↑ys<sizeLine/\∃m',m'<m/\W (i+1) m' (upd H4 D (.lst (ys++[y]))))
noncomputable def za(js:qj Nat)(σ:St):St:=js.map λj=>(σ[j]?).getD none
def ylu(wi:TI)(te:TE)(js:qj Nat):TE:=λσ H Q=>wi σ H λς H1=>∀D,H1 D=none->zd ς te (za js σ) D (λH2=>Q ⇑D H2) H1
end
section
mutual
variable{iter elt:qh}{x:Str}{px pos:Pos}{te:TE}{wi:TI}{σ:St}{ys:Ρ}{js:qj Nat}
def yug{H:Hp}{Q:VK}(h:wi σ H λς H1=>∀D,H1 D=none->zd ς te (za js σ) D (λH2=>Q ⇑D H2) H1):ylu wi te js σ H Q:=h
def ò{K:xy}{xs:Τ}{fr:St}{R:Hp->Prop}{H1:Hp}(Pv:Nat->Hp->Prop)(h0:Pv 0 (upd H1 D (.lst [])))(hl:∀i H,i<=↑xs->Pv i H->SqL K H a xs)
  (hs:∀i x H,xs[i]?=some x->i<↑xs->Pv i H->te (some x::fr) H λy H4=>∃ys,H4 D\ys/\↑ys<sizeLine/\∃m',m'<↑xs-i/\cW ↑xs Pv (i+1) m' (upd H4 D (.lst (ys++[y]))))
  (hd:∀H,Pv ↑xs H->R H):zd (Itl K a) te fr D R H1:=by
 erw[cW ↑xs Pv,#[xs.length,(by simp),cK _,h0],?_];rintro i m H ⟨rfl,b,p⟩;let q:=hl i H b p;by_cases hlt:i<↑xs
 .erw[.inr #[#[xs,xs[i],q,by simp[hlt]],λx c y=>?_]];let#[e,y]:=y;subst e;erw[hs i x _ (y xs q) hlt p]
 .have e:i=↑xs:=()
  subst e;erw[.inl #[#[xs,q,bT _],hd H p]]
def jy{lo:Int}{n:Nat}{fr:St}{R:Hp->Prop}{H1:Hp}(Pv:Nat->Hp->Prop)(h0:Pv 0 (upd H1 D (.lst [])))
  (hs:∀i H,i<n->Pv i H->te (some ((lo+i):)::fr) H λy H4=>∃ys,H4 D\ys/\↑ys<sizeLine/\∃m',m'<n-i/\cW n Pv (i+1) m' (upd H4 D (.lst (ys++[y]))))
  (hd:∀H,Pv n H->R H):zd (Itr lo n) te fr D R H1:=by
 erw[cW n Pv,#[n,(by simp),cK _,h0],?_];rintro i m H ⟨rfl,a,p⟩;by_cases hlt:i<n
 .erw[.inr #[hlt,λx b y=>?_]];let#[e,y]:=y;subst e y;erw[hs i _ hlt p]
 .have e:i=n:=()
  subst e;erw[.inl #[bT _,hd H p]]
end
end
end L2
namespace L2
def yw{α:Type}{P:α->Prop}:∀y∈([]:qj α),P y:=λZ h=>nomatch h
def all_cons{α:Type}{P:α->Prop}{y:α}{r:qj α}(h:P y)(t:∀z∈r,P z):∀z∈y::r,P z:=λz a=>by
 rcases bZ.mp a with e|a
 .erw[e ▸ h]
 .erw[t z a]
open PySem PySem.Spec PyProof.Rows
section
variable{X:Cx}
theorem yf4:∀{ns:Ο}{us:Ξ},w9 ↥ns us->∃xs:Array (Int×Tok),us.toArray=intItems xs/\xs.toList.map (·.1)=ns
 |[],_,.nil=>#[#[],by simp[intItems],J]
 |n::r,_,.cons (l₂:=us) a t=>by
  let#[c,J]:=a;let#[xs,d,b]:=yf4 t;erw[((n,c)::xs.toList).toArray,?_,by simp[b]]
  have:us=(intItems xs).toList:=by rw[<- d]
  rw[this];simp[intItems]
def ç(hc:X.calm=true):j6 X (.builtin "sum") (λvs H Q=>∃p ns,vs=[.ref p]/\SqL X.K H p (List.map V.int ns)/\Q (ns.sum:) H):=by intro a s σ H t o Q I r h;let#[p,ns,J,d,q]:=h;let#[u,J,l]:=č r;cases l;let#[g,e,k,v]:=I.list d;let#[i,j,m]:=yf4 e;have f:s.heap.IsList p (intItems i):=j ▸ k.isList;erw[sum_intListG (I.ok.hd hc) f λn c t' b=>?_];rwa[preSum_eq,cU (by simp),m,#[.int ns.sum,H,I.kept (t':=c) b,#[_,J],q]]
end
variable{it:qa}{fp:Φ}{tn:Nat->qg->Prop}
section
mutual
variable{X:Cx}{e:qh}{t1 t2:TE}
def ypx(t1 t2:TE):TE:=λσ H Q=>t1 σ H Q\/t2 σ H Q
def è(h1:PE X e t1)(h2:PE X e t2):PE X e (ypx t1 t2):=by
 erw[.mk λa s σ H Q I h=>?_];rcases h with h|h
 .erw[h1 a s σ H Q I h]
 .erw[h2 a s σ H Q I h]
def Ì{σ:St}{H:Hp}{Q:VK}(h:t1 σ H Q):ypx t1 t2 σ H Q:=.inl h
def jt{σ:St}{H:Hp}{Q:VK}(h:t2 σ H Q):ypx t1 t2 σ H Q:=.inr h
end
end
mutual
def vhm(i j:Int):Prop:=∃k:Nat,i.natAbs<2^k/\j.natAbs<2^k/\k<=2^20
def yw6{X:Cx}:OpR X (binaryOp .Mult) (rI vhm λi j=>.int (i*j)):=opI λZ Z Z Z Z Z Z c q=>mul_int q (by
 let#[k,b,d,a]:=c;erw[IntMulOk.of_bits (cN (PyProof.Rows.intBits_le b) a) (cN (PyProof.Rows.intBits_le d) a)])
def va2{i j:Int}{H:Hp}{Q:VK}(k:Nat)(h1:i.natAbs<2^k)(h2:j.natAbs<2^k)(h3:k<=2^20)(h:Q ((i*j):) H):rI vhm (λi j=>.int (i*j)) (i:) (j:) H Q:=#[i,j,J,J,#[k,h1,h2,h3],h]
def y6{H:Hp}{p:qa}{o:HO}{A:Hp->Prop}(hp:H p=none)(h:∀H',y7 H H'->H' p=some o->A H'):A (upd H p o):=h _ (y9 hp) ya
def yr{α:Type}{H:Hp}{p:qa}{o:HO}{A:Hp->α->Prop}{Q:α}(hp:H p=none)(h:∀H',y7 H H'->H' p=some o->A H' Q):A (upd H p o) Q:=h _ (y9 hp) ya
end
section
mutual
variable{K:xy}{a D:qa}{xs:Τ}{te:TE}{fr:St}{R:Hp->Prop}{H1:Hp}
def ycm(Pv:Nat->Hp->Prop)(h0:Pv 0 (upd H1 D (.lst [])))(hl:∀i H,i<=↑xs->Pv i H->SqT K H a xs)
  (hs:∀i x H,xs[i]?=some x->i<↑xs->Pv i H->te (some x::fr) H λy H4=>∃ys,H4 D\ys/\↑ys<sizeLine/\∃m',m'<↑xs-i/\cW ↑xs Pv (i+1) m' (upd H4 D (.lst (ys++[y]))))
  (hd:∀H,Pv ↑xs H->R H):zd (Itt K a) te fr D R H1:=by
 erw[cW ↑xs Pv,#[xs.length,(by simp),cK _,h0],?_];rintro i m H ⟨rfl,b,p⟩;let q:=hl i H b p;by_cases hlt:i<↑xs
 .erw[.inr #[#[xs,xs[i],q,by simp[hlt]],λx c y=>?_]];let#[e,y]:=y;subst e;erw[hs i x _ (y xs q) hlt p]
 .have e:i=↑xs:=()
  subst e;erw[.inl #[#[xs,q,bT _],hd H p]]
def ypp(Pv:Nat->Hp->Prop)(h0:Pv 0 (upd H1 D (.lst [])))(hl:∀i H,i<=↑xs->Pv i H->SqT K H a xs)
  (hs:∀i x H,xs[i]?=some x->i<↑xs->Pv i H->te [some x] H λy H4=>∃ys,H4 D\ys/\↑ys<sizeLine/\∃m',m'<↑xs-i/\cW ↑xs Pv (i+1) m' (upd H4 D (.lst (ys++[y]))))
  (hd:∀H,Pv ↑xs H->R H):yc4 (Itt K a) te D R H1:=by
 erw[cW ↑xs Pv,#[xs.length,(by simp),cK _,h0],?_];rintro i m H ⟨rfl,b,p⟩;let q:=hl i H b p;by_cases hlt:i<↑xs
 .erw[.inr #[#[xs,xs[i],q,by simp[hlt]],λx c y=>?_]];let#[e,y]:=y;subst e;erw[hs i x _ (y xs q) hlt p]
 .have e:i=↑xs:=()
  subst e;erw[.inl #[#[xs,q,bT _],hd H p]]
def Mp(H1:Hp)(D:qa)(f:Nat->V)(i:Nat)(H:Hp):Prop:=y7 H1 H/\H D\((List.range i).map f)
def Mp.zero{f:Nat->V}(hD:H1 D=none):Mp H1 D f 0 (upd H1 D (.lst [])):=#[y9 hD,ya]
def Mp.step{f:Nat->V}{n i:Nat}{H4:Hp}{y:V}(hD:H1 D=none)(hn:n<sizeLine)(hi:i<n)(S:y7 H1 H4)(h4:H4 D\((List.range i).map f))(e:y=f i):
  ∃ys,H4 D\ys/\↑ys<sizeLine/\∃m',m'<n-i/\cW n (Mp H1 D f) (i+1) m' (upd H4 D (.lst (ys++[y]))):=by
 erw[xk (n:=n) h4 (by rw[bL,cS];omega) hi #[?_,?_]]
 .intro b o a;rwa[yk (yb a hD),S b o a]
 .rw[ya,List.range_succ,ce,e];rfl
def â{f:Nat->V}{g:V->V}(h:∀i x,xs[i]?=some x->f i=g x):(List.range ↑xs).map f=xs.map g:=by
 erw[List.ext_getElem? λi=>?_];rw[bU,bU];by_cases hi:i<↑xs
 .rw[dh hi,bP hi];show some (f i)=some (g xs[i]);rw[h i _ (bP hi)]
 .rw[cQ (by rw[cS];omega),cQ ()];rfl
noncomputable def ofG(g:V->V)(xs:Τ)(i:Nat):V:=((xs[i]?).map g).getD .non
def ycy{g:V->V}{i:Nat}{x:V}(h:xs[i]?=some x):ofG g xs i=g x:=by unfold ofG;rw[h];rfl
def MpK(H1:Hp)(D:qa)(f:Nat->V)(n i:Nat):VK:=λy H4=>∃ys,H4 D\ys/\↑ys<sizeLine/\∃m',m'<n-i/\cW n (Mp H1 D f) (i+1) m' (upd H4 D (.lst (ys++[y])))
def Mp.done{g:V->V}{i:Nat}{x y:V}{H4:Hp}(hD:H1 D=none)(hn:↑xs<sizeLine)(hx:xs[i]?=some x)(S:y7 H1 H4)(h4:H4 D\((List.range i).map (ofG g xs)))(e:y=g x):MpK H1 D (ofG g xs) ↑xs i y H4:=by
 have a:i<↑xs:=by
  rcases Nat.lt_or_ge i ↑xs with q|q
  .erw[q]
  .rw[cQ q]at hx;cases hx
 erw[Mp.step hD hn a S h4 (e.trans (ycy hx).symm)]
def Mp.doneR{f:Nat->V}{n i:Nat}{y:V}{H4:Hp}(hD:H1 D=none)(hn:n<sizeLine)(hi:i<n)(S:y7 H1 H4)(h4:H4 D\((List.range i).map f))(e:y=f i):MpK H1 D f n i y H4:=Mp.step hD hn hi S h4 e
def zt(g:V->V)(hq:SqL K H1 a xs)(hD:H1 D=none)
  (hs:∀i x H,xs[i]?=some x->y7 H1 H->H D\((List.range i).map (ofG g xs))->te (some x::fr) H (MpK H1 D (ofG g xs) ↑xs i))
  (hd:∀H,y7 H1 H->H D\(xs.map g)->R H):zd (Itl K a) te fr D R H1 :=
 ò (Mp H1 D (ofG g xs)) (Mp.zero hD) (λZ Z Z p=>p.1.seq hq) (λi x H b c p=>hs i x H b p.1 p.2)
  λH p=>hd H p.1 (by rwa[<- â (f:=ofG g xs) λi x=>ycy,p.2])
def yhs(g:V->V)(hq:SqL K H1 a xs)(hD:H1 D=none)
  (hs:∀i x H,xs[i]?=some x->y7 H1 H->H D\((List.range i).map (ofG g xs))->te [some x] H (MpK H1 D (ofG g xs) ↑xs i))
  (hd:∀H,y7 H1 H->H D\(xs.map g)->R H):yc4 (Itl K a) te D R H1 :=
 zu (Mp H1 D (ofG g xs)) (Mp.zero hD) (λZ Z Z p=>p.1.seq hq) (λi x H b c p=>hs i x H b p.1 p.2)
  λH p=>hd H p.1 (by rwa[<- â (f:=ofG g xs) λi x=>ycy,p.2])
def ŝ(g:V->V)(hq:SqT K H1 a xs)(hD:H1 D=none)
  (hs:∀i x H,xs[i]?=some x->y7 H1 H->H D\((List.range i).map (ofG g xs))->te (some x::fr) H (MpK H1 D (ofG g xs) ↑xs i))
  (hd:∀H,y7 H1 H->H D\(xs.map g)->R H):zd (Itt K a) te fr D R H1 :=
 ycm (Mp H1 D (ofG g xs)) (Mp.zero hD) (λZ Z Z p=>p.1.tup hq) (λi x H b c p=>hs i x H b p.1 p.2)
  λH p=>hd H p.1 (by rwa[<- â (f:=ofG g xs) λi x=>ycy,p.2])
def yj8(g:V->V)(hq:SqT K H1 a xs)(hD:H1 D=none)
  (hs:∀i x H,xs[i]?=some x->y7 H1 H->H D\((List.range i).map (ofG g xs))->te [some x] H (MpK H1 D (ofG g xs) ↑xs i))
  (hd:∀H,y7 H1 H->H D\(xs.map g)->R H):yc4 (Itt K a) te D R H1 :=
 ypp (Mp H1 D (ofG g xs)) (Mp.zero hD) (λZ Z Z p=>p.1.tup hq) (λi x H b c p=>hs i x H b p.1 p.2)
  λH p=>hd H p.1 (by rwa[<- â (f:=ofG g xs) λi x=>ycy,p.2])
def ą{lo:Int}{n:Nat}(f:Nat->V)(hD:H1 D=none)
  (hs:∀i H,i<n->y7 H1 H->H D\((List.range i).map f)->te (some ((lo+i):)::fr) H (MpK H1 D f n i))
  (hd:∀H,y7 H1 H->H D\((List.range n).map f)->R H):zd (Itr lo n) te fr D R H1 :=
 jy (Mp H1 D f) (Mp.zero hD) (λi H a p=>hs i H a p.1 p.2) λH p=>hd H p.1 p.2
end
end
mutual
structure Mk0(K:xy)(C:qa):Prop where
 makes:W.makesIn K C=true
 init:W.findIn K ⇑C "__init__"=some (some (.builtin "object.__init__"))
 kp:W.keepIn K ⇑C=true
abbrev Cx.compT(X:Cx)(scope:Scope)(ys:Ρ)(C:qa)(xs:Ρ)(s2:qb)(H2:Hp)(fp:Φ):Cx :=
 {X with N:=xs++ys,s₀:=s2,H₀:=H2,env:=compEnvC scope (ŀ ys X.env) C X.env,outer:=X.stack,ex:=fp,fn:=λZ=>false,pn:=[],xe:=λZ Z=>False}
variable{X:Cx}
def θ(ς:It)(g:TG)(te:TE)(n:Nat)(fr:St)(D:qa)(R:Hp->Prop)(H1:Hp):Prop:=∃W:Nat->Nat->Hp->Prop,(∃m,W 0 m (upd H1 D (.lst [])))/\
 ∀i m H2,W i m H2->(ς.stop i H2/\R H2)\/(ς.go i H2/\∀x H3 pre,ς.yld i H2 x H3->List.length pre=n->g x (pre++fr) H3 λσ' H'=>(∃pre',List.length pre'=n/\σ'=pre'++fr)/\te σ' H' λy H4=>∃ys,H4 D\ys/\↑ys<sizeLine/\∃m',m'<m/\W (i+1) m' (upd H4 D (.lst (ys++[y]))))
def ylk(wi:TI)(g:TG)(te:TE)(n:Nat)(js:qj Nat):TE:=λσ H Q=>wi σ H λς H1=>∀D,H1 D=none->θ ς g te n (za js σ) D (λH2=>Q ⇑D H2) H1
def PTs(X:Cx)(ifs:qj qh)(t:TT):Prop:=∀(pins:Θ)(s:qb)(σ:St)(H:Hp)(Q:Bool->Hp->Prop),(Inv X pins σ H) s->t σ H Q ->
 wpAny (model X.prog X.w) X.A (forIn ifs true λc r=>if r=true then do let ok <- isTrue c X.env (eval c X.env);pure (ForInStep.yield ok)else pure (ForInStep.yield r)) (TP X pins σ Q) X.xe s
def vkn:TT:=λZ H Q=>Q true H
def yvm:PTs X [] vkn:=λZ Z σ H Z I h=>bS #[H,I,h]
def yvd(ς:It)(g:TG)(tt:TT)(te:TE)(n:Nat)(fr:St)(D:qa)(R:Hp->Prop)(H1:Hp):Prop:=∃W:Nat->Nat->Hp->Prop,(∃m,W 0 m (upd H1 D (.lst [])))/\
 ∀i m H2,W i m H2->(ς.stop i H2/\R H2)\/(ς.go i H2/\∀x H3 pre,ς.yld i H2 x H3->List.length pre=n->g x (pre++fr) H3 λσ' H'=>(∃pre',List.length pre'=n/\σ'=pre'++fr)/\tt σ' H' λb H4=>if b=true then te σ' H4 (λy H5=>∃ys,H5 D\ys/\↑ys<sizeLine/\∃m',m'<m/\W (i+1) m' (upd H5 D (.lst (ys++[y]))))else ∃m',m'<m/\W (i+1) m' H4)
end
section
mutual
variable{iter elt tg:qh}{xs:Ρ}{g:TG}{pos:Pos}{scope:Scope}{te:TE}{wi:TI}{ifs:qj qh}{tt:TT}{pins:Θ}{σ:St}{ys:Ρ}{js:qj Nat}
def yhw{s2:qb}{H2:Hp}{ς:It}(hc:X.calm=true)
  (ht:∀(C:qa)(s2:qb)(H2:Hp)(fp:Φ),PTs (X.compT scope ys C xs s2 H2 fp) ifs tt) (he:∀(C:qa)(s2:qb)(H2:Hp)(fp:Φ),PE (X.compT scope ys C xs s2 H2 fp) elt te)
  (hgt:∀(C:qa)(s2:qb)(H2:Hp)(fp:Φ),PG (X.compT scope ys C xs s2 H2 fp) tg g)
  (hcell:∀y∈scope.names,y.2≠.cell) (hkind:scope.kind=.function)
  (hfr:∀y∈scope.names,y.2=.free->y.1∈ys) (hyc:∀y∈ys,X.env.kindOf y=some .cell) (hrel:∀y∈ys,(relabel scope X.env).names.lookup y=some .cell) (hjs:js.map (λj=>X.N[j]?)=ys.map some)
  (I2:Inv X pins σ H2 s2) (T:ygz X.prog X.w X.K tg ς fp it tn) (st2:tn 0 s2.heap) (f2:∀b∈fp,yg0 X pins H2 b)
  {R:qa->Hp->Prop} (h:∀D,H2 D=none->yvd ς g tt te ↑xs (za js σ) D (R D) H2) {RR:qc->qa->Result->qb->Prop} {E:Δ}
  (hR:∀(D C:qa)(H':Hp)(s':qb)(m:Ε),yg0 X pins H' C->s'.heap.Ns C m->Inv X pins σ H' s'->R D H'->RR ⇑D C (.ok .next) s'):
  wpAny (model X.prog X.w) X.A (newList []) (λacc s₃=>(wpAny (model X.prog X.w) X.A) (newFunctionEnv scope X.env.globals (ŀ ys X.env) [] X.env.qual none .none (some X.env)) (λcenv s₄ =>
   codeAny (model X.prog X.w) X.A (.compStart (.ListComp elt [#[tg,iter,ifs,0]] scope pos) 0 ⇑it acc {cenv with scope:=relabel scope X.env}) (RR acc cenv.locals) s₄) E s₃) E s2:=by
 have k:∀y c,(ŀ ys X.env).lookup y=some c->X.env.cells.lookup y=some c:=λy c e=>by
  let#[m,J]:=yfs e;let#[c',q]:=I2.ok.has y (.inl (hyc y m));rw[q];rfl
 erw[wpAny_newObj_type (wpAny_newFunctionEnv hcell (by intro y hy;simp at hy) (λh₁ hns₁ hsb₁=>?_) hkind)];dsimp only at hns₁ hsb₁⊢;generalize U:s2.heap.push { cls:=.type "list",dict:=none,data:=.seq ([]:Ξ).toArray}=G at hns₁ hsb₁⊢;have hC:G⁻¹=s2.heap⁻¹+1:=by rw[<- U,Heap.size_push]
 have a6:s2.heap⁻¹≠G⁻¹:=by rwa[hC,cR (Nat.lt_succ_self _)]
 have L:s2.heap⁻¹<=G⁻¹:=by rwa[hC,Nat.le_succ _]
 have f:∀b,b<s2.heap⁻¹->b≠G⁻¹/\b≠s2.heap⁻¹:=λb a=>#[by rwa[hC,cR (Nat.lt_succ_of_lt a)],cR a];have F:∀b o,s2.heap.get? b=some o->h₁.get? b=some o:=λb o e=>hsb₁.extBut b o (f b (cg e)).1 (bR _ (U ▸ bR _ e));have a3:h₁.get? s2.heap⁻¹=some { cls:=.type "list",data:=.seq ([]:Ξ).toArray}:=hsb₁.extBut _ _ a6 (bR _ (U ▸ cb _ J));have Z:∀b∈fp,b<s2.heap⁻¹:=λb a=>let ⟨_,e,_⟩:=T.obj 0 _ st2 b a;cg e;have a5:∀b∈fp,b∉frs X.stack:=λb a z=>(bZ.mp (I2.stkSub b z)).elim (f2 b a).2.1 (f2 b a).2.2.1;have nC:H2 G⁻¹=none:=I2.hok.fresh L;have nD:H2 s2.heap⁻¹=none:=I2.hok.fresh (bT _)
 have B:∀y c,(ŀ ys X.env).lookup y=some c->∃v o,s2.heap.get? c=some o/\o.data=.cell v:=λy c e=>by
  let#[v,o,q1,q2]:=I2.cell y c (k y c e);erw[v,o,q1,q2]
 have aa:(X.compT scope ys G⁻¹ xs s2 H2 fp).Ok:=by
  erw[I2.ok.mod,hkind,I2.ok.glob,I2.ok.blt,L,λy z c e Y=>I2.ok.inj y z c (k y c e) (k z c Y),λy e=>?_,λy c z e=>(by cases z),I2.ok.hd,I2.ok.frames,.inl J,λb a=>#[(f b (Z b a)).1,λy c e=>(f2 b a).2.2.2.2.1 y c (k y c e)],I2.bs,?_,λb o e a=>?_,λb a=>a5 b a,I2.stack,I2.stkFree]
  .have Y:(relabel scope X.env).names.lookup y=some .cell\/(relabel scope X.env).names.lookup y=some .free:=e
   have ab:y∈ys:=by
    rcases Y with Y|Y
    .let#[k0,m,q]:=jk Y;rcases q with q|q
     .erw[absurd q.symm (hcell _ m)]
     .erw[hfr _ m q]
    .let#[k0,m,q]:=jk Y;rcases q with q|q
     .erw[hfr _ m q.symm]
     .erw[hfr _ m q]
   erw[_,yao ab]
  .erw[cN I2.ok.bsz I2.sz]
  .rcases (f2 b a).2.2.2.1 with z|z
   .erw[I2.ok.noex b o e z]
   .erw[absurd (cP (cg (I2.ok.bs b o e).1) z) (dv _)]
 have a1:↑(za js σ)=↑ys:=by
  have:=congrArg List.length hjs;simpa[za]using this
 have I3:∀tk,Inv (X.compT scope ys G⁻¹ xs s2 H2 fp) [] (List.replicate ↑xs none++za js σ) (upd H2 s2.heap⁻¹ (.lst [])) {s2 with heap:=h₁,toks:=tk}:=λtk =>
  #[aa,J,I2.bare,Un.laid F (bT _) nD,#[_,hns₁,λi y v e1 P e3=>by
    by_cases hi0:i<↑xs
    .rw[dA (by simpa using hi0),List.getElem?_replicate,if_pos hi0]at P;cases P
    .obtain⟨i,rfl⟩:∃i',i=↑xs+i':=#[i-xs.length,()];have e1:ys[i]?=some y:=by rw[dz ()]at e1;simpa using e1
     have P:(za js σ)[i]?=some (some v):=by rw[dz (by simp)]at P;simpa using P
     have hy:y∈ys:=ck e1;let S:=congrArg (λl=>l[i]?) hjs;simp only[bU,e1,dF]at S
     cases q:js[i]? with
     |none=>rw[q]at S;cases S
     |some j =>
      rw[q]at S;have S:X.N[j]?=some y:=by simpa using S
      have es:σ[j]?=some (some v):=by
       simp only[za,bU,q,dF,Option.some.injEq]at P
       cases r:σ[j]? with
       |none=>rw[r]at P;cases P
       |some w'=>rw[r]at P;rw[show w'=some v from P]
      let#[m0,_,a8]:=I2.loc;let#[u,ru,lk]:=a8 j y v S es (.inr (.inl (hyc y hy)));erw[u,ru,.inr #[.inl (hrel y hy),?_]];rcases lk with⟨k1,_⟩|⟨_,c,ec,o,ho,hd⟩
      .rw[hyc y hy]at k1;cases k1
      .erw[c,?_,o,F c o ho,hd];show (ŀ ys X.env).lookup y=some c;rw[yao hy,ec]
       rfl],λy c e=>(by
    let#[v,o,q1,q2]:=B y c e
    erw[v,o,F c o q1,q2]),(by show upd H2 s2.heap⁻¹ _ G⁻¹=none;rwa[yk a6.symm,nC]),λy c e=>(by
    let#[v,o,q1,q2]:=B y c e;show upd H2 s2.heap⁻¹ _ c=none;rw[yk (f c (cg q1)).2]
    erw[I2.freeC y c (k y c e)]),λp hp=>(by simp at hp),
   I2.hok.laid F (bT _) #[cK _,[],_,.nil,a3],by show ↑(List.replicate ↑xs none++za js σ)=↑(xs++ys);simp[a1]]
 have M:∀{H':Hp},(∀b∈fp,H' b=none)->∀b∈fp,yg0 (X.compT scope ys G⁻¹ xs s2 H2 fp) [] H' b:=λhn b a=>#[hn b a,(f b (Z b a)).1,a5 b a,.inl a,λy c e=>(f2 b a).2.2.2.2.1 y c (k y c e),λp hp=>(by simp at hp)]
 have Q:∀tk,codeAny (model X.prog X.w) X.A (.compLoop (.ListComp elt [#[tg,iter,ifs,0]] scope pos) 0 ⇑it ⇑s2.heap⁻¹ (compEnvC scope (ŀ ys X.env) G⁻¹ X.env)) (RR ⇑s2.heap⁻¹ G⁻¹) {s2 with heap:=h₁,toks:=tk}:=by
  intro tk;let#[W,#[m0,w0],a7]:=h s2.heap⁻¹ nD;refine codeAny_loop J (λn s'=>∃i v H',List.length v=↑xs/\Inv (X.compT scope ys G⁻¹ xs s2 H2 fp) [] (v++za js σ) H' s'/\tn i s'.heap/\(∀b∈fp,H' b=none)/\W i n H') (λn s' hI=>?_) m0
   #[0,List.replicate ↑xs none,_,(by simp),I3 tk,T.keep 0 _ _ st2 (λb a o e=>F b o e),λb a=>(by rwa[yk (f b (Z b a)).2,(f2 b a).1]),w0]
  let#[i,v,H',hv,I,st,fr,w]:=hI;show wpAny _ _ ((compTurn (.ListComp elt [#[tg,iter,ifs,0]] scope pos) 0 ⇑it ⇑s2.heap⁻¹ (compEnvC scope (ŀ ys X.env) G⁻¹ X.env)).onRaise (λx=>do noteFrame x (compEnvC scope (ŀ ys X.env) G⁻¹ X.env);theTreesLotGoes x)) _ _ s';erw[wpAny_noted ?_];rwa[compTurn_list,bv (wpAny_standAt (bv ?_))];rcases a7 i n H' w with⟨a4,q⟩|⟨go,a2⟩
  .erw[thn (T.done (X.compT scope ys G⁻¹ xs s2 H2 fp) J J J hc i [] s' (v++za js σ) H' _ I (M fr) st a4) λr s4 ⟨hr,I4⟩=>?_];subst hr;erw[bS ?_];let#[m,hn,_]:=I4.loc;erw[hR _ _ H' s4 m (I2.fpOk L I4.free) hn (I2.call' (ch:=fp) I4.os I4.base I4.hok I4.bare λb a=>#[(f2 b a).2.2.2.1,(f2 b a).2.1,(f2 b a).2.2.2.2.1,(f2 b a).2.2.2.2.2]) q]
  .erw[thn (T.item (X.compT scope ys G⁻¹ xs s2 H2 fp) J J J hc i [] s' (v++za js σ) H' _ I (M fr) st go) λr s4 ⟨u,hr,h4⟩=>?_];subst hr;erw[bv (thn h4 λN s5 ⟨y,H5,I5,r5,y5,H,a9⟩=>bv ?_)];let ac:=I5.pinned (M a9) (T.obj _ _ H);erw[vhy (hgt _ _ _ _ _ s5 (v++za js σ) H5 y u _ ac r5 (a2 y H5 v y5 hv)) λN s6 ⟨σ',H6,I6,⟨t,a0,ep⟩,q6⟩=>?_];subst ep;refine bv (vhy (ht _ _ _ _ _ s6 (t++za js σ) H6 _ I6 q6) λb s7 ⟨H7,I7,q7⟩=>?_)
   cases b with
   |false =>
    let#[m',hm,w']:=q7
    have O:∀b∈fp,∀o,s5.heap.get? b=some o->s7.heap.get? b=some o/\H7 b=none:=λb a o e =>
     #[(I7.pin (b,o) (cI _ (cI _ (zq a e)))).1,(I7.pin (b,o) (cI _ (cI _ (zq a e)))).2.1]
    erw[bS #[J,m',hm,i+1,t,_,a0,I7.unpinned,T.keep _ _ _ H λb a o e=>(O b a o e).1,λb a=>?_,w']];let#[o,e,d]:=T.obj _ _ H b a;erw[(O b a o e).2]
   |true =>
    erw[bv (bv (vhy (he _ _ _ _ _ s7 (t++za js σ) H7 _ I7 q7) λu2 s7 ⟨y2,H7,I7,r7,zs,hD,hl,m',hm,w'⟩=>bv ?_)),<-vhy (wz _ s7 (t++za js σ) H7 ⇑s2.heap⁻¹ [y2] ⇑s2.heap⁻¹ [u2] (λN H8=>H8=upd H7 s2.heap⁻¹ (.lst (zs++[y2]))) I7 J (.cons r7 .nil) #[_,zs,y2,J,J,hD,hl,J]) λN s8 h'=>?_];let#[_,H8,I8,_,e8]:=h';subst e8
    have O:∀b∈fp,∀o,s5.heap.get? b=some o->s8.heap.get? b=some o/\upd H7 s2.heap⁻¹ (HO.lst (zs++[y2])) b=none:=λb a o e =>
     #[(I8.pin (b,o) (cI _ (cI _ (zq a e)))).1,(I8.pin (b,o) (cI _ (cI _ (zq a e)))).2.1]
    erw[bS (bS #[J,m',hm,i+1,t,_,a0,I8.unpinned,T.keep _ _ _ H λb a o e=>(O b a o e).1,λb a=>?_,w'])];let#[o,e,d]:=T.obj _ _ H b a;erw[(O b a o e).2]
 erw[codeAny_compStart_list (Q _) (T.self X.A 0 _ _ _ (T.keep 0 _ _ st2 (λb a o e=>F b o e)) (Q _))]
def ñ{s2:qb}{H2:Hp}{ς:It}(hc:X.calm=true)
  (he:∀(C:qa)(s2:qb)(H2:Hp)(fp:Φ),PE (X.compT scope ys C xs s2 H2 fp) elt te)
  (hgt:∀(C:qa)(s2:qb)(H2:Hp)(fp:Φ),PG (X.compT scope ys C xs s2 H2 fp) tg g)
  (hcell:∀y∈scope.names,y.2≠.cell) (hkind:scope.kind=.function)
  (hfr:∀y∈scope.names,y.2=.free->y.1∈ys) (hyc:∀y∈ys,X.env.kindOf y=some .cell) (hrel:∀y∈ys,(relabel scope X.env).names.lookup y=some .cell) (hjs:js.map (λj=>X.N[j]?)=ys.map some)
  (I2:Inv X pins σ H2 s2) (T:ygz X.prog X.w X.K tg ς fp it tn) (st2:tn 0 s2.heap) (f2:∀b∈fp,yg0 X pins H2 b)
  {R:qa->Hp->Prop} (h:∀D,H2 D=none->θ ς g te ↑xs (za js σ) D (R D) H2) {RR:qc->qa->Result->qb->Prop} {E:Δ}
  (hR:∀(D C:qa)(H':Hp)(s':qb)(m:Ε),yg0 X pins H' C->s'.heap.Ns C m->Inv X pins σ H' s'->R D H'->RR ⇑D C (.ok .next) s'):
  wpAny (model X.prog X.w) X.A (newList []) (λacc s₃=>(wpAny (model X.prog X.w) X.A) (newFunctionEnv scope X.env.globals (ŀ ys X.env) [] X.env.qual none .none (some X.env)) (λcenv s₄ =>
   codeAny (model X.prog X.w) X.A (.compStart (.ListComp elt [#[tg,iter,[],0]] scope pos) 0 ⇑it acc {cenv with scope:=relabel scope X.env}) (RR acc cenv.locals) s₄) E s₃) E s2 :=
 yhw (tt:=vkn) hc (λZ Z Z Z=>yvm) he hgt hcell hkind hfr hyc hrel hjs I2 T st2 f2 (λD l=>by
  let#[W,k,c]:=h D l;erw[W,k,λi m H w=>(c i m H w).imp id λ⟨f,a⟩=>#[f,λx n d y e=>?_],<-a x n d y e]) hR
def yap(hc:X.calm=true)(hi:PI X tg iter wi)(he:∀(C:qa)(s2:qb)(H2:Hp)(fp:Φ),PE (X.compT scope ys C xs s2 H2 fp) elt te)(hjs:js.map (λj=>X.N[j]?)=ys.map some)
  (hgt:∀(C:qa)(s2:qb)(H2:Hp)(fp:Φ),PG (X.compT scope ys C xs s2 H2 fp) tg g)
  (hclos:closureFor scope X.env=pure (ŀ ys X.env)) (hyc:∀y∈ys,X.env.kindOf y=some .cell) (hrel:∀y∈ys,(relabel scope X.env).names.lookup y=some .cell)
  (hfr:autoParam (∀y∈scope.names,y.2=.free->y.1∈ys) aC._auto_1) (hcell:autoParam (∀y∈scope.names,y.2≠.cell) aC._auto_1) (hkind:¬¬(scope.kind=.function))
  (hnames:autoParam (∀y∈scope.names,y.2=.local->scope.names.lookup y.1=some .local) aC._auto_1) (hs:autoParam (∀x,foldedSetIterable iter X.env x=pure x) aE._auto_1):
  PE X (.ListComp elt [#[tg,iter,[],0]] scope pos) (ylk wi g te ↑xs js):=by refine .mk λa s σ H Q I h=>?_;rwa[eval_ListComp,wpAny_comprehension_free (use:=none) J hs hclos hkind hnames (thn (hi a s σ H _ I h) λv K p=>thn p λk s2 n=>?_)];let#[F,fp,G,ς,H2,e,B,T,d,i,h]:=n;subst e;erw[ñ (R:=λD c=>Q ⇑D c) (RR:=compPost (model X.prog X.w) X.A X.xe none (EP X a σ Q)) hc he hgt hcell hkind hfr hyc hrel hjs B T d i h ?_];intro D C c l m f t r q;erw[m,t,λE z=>#[.ref D,c,?_,J,q],<-r.turned (t':=l.toks) (λb o u e=>z.extBut b o u e) f.1 f.2.1 f.2.2.2.1 f.2.2.2.2.1 f.2.2.2.2.2]
def yw0{H:Hp}{Q:VK}{n:Nat}(h:wi σ H λς H1=>∀D,H1 D=none->θ ς g te n (za js σ) D (λH2=>Q ⇑D H2) H1):ylk wi g te n js σ H Q:=h
end
end
section
mutual
variable{iter elt:qh}{x:Str}{px pos:Pos}{scope:Scope}{te:TE}{wi:TI}{pins:Θ}{σ:St}{ys:Ρ}{js:qj Nat}
def ω{pre:qj (Χ)}{n:Nat}(h:List.length pre=n+1):∃v t,pre=v::t/\List.length t=n:=by
 cases pre with
 |nil=>cases h
 |cons v t=>erw[v,t,J,Nat.succ.inj h]
def vaq{ς:It}{fr:St}{D:qa}{R:Hp->Prop}{H1:Hp}(h:zd ς te fr D R H1):θ ς (xm 0) te 1 fr D R H1:=by let#[W,f,j]:=h;erw[W,f,λi m b w=>(j i m b w).imp id λ⟨e,y⟩=>#[e,λx k c d a=>?_]];let#[z,t,J,g]:=ω a;obtain rfl:=List.length_eq_zero_iff.mp g;erw[#[[some x],J,J],y x k d]
def Ś{s2:qb}{H2:Hp}{ς:It}(hc:X.calm=true)
  (he:∀(C:qa)(s2:qb)(H2:Hp)(fp:Φ),PE (X.compF scope ys C x s2 H2 fp) elt te)
  (hcell:∀y∈scope.names,y.2≠.cell) (hkind:scope.kind=.function) (hx:scope.names.lookup x=some .local) (hnd:(x::ys).Nodup)
  (hfr:∀y∈scope.names,y.2=.free->y.1∈ys) (hyc:∀y∈ys,X.env.kindOf y=some .cell) (hrel:∀y∈ys,(relabel scope X.env).names.lookup y=some .cell) (hjs:js.map (λj=>X.N[j]?)=ys.map some)
  (I2:Inv X pins σ H2 s2) (T:ygz X.prog X.w X.K (.Name x px) ς fp it tn) (st2:tn 0 s2.heap) (f2:∀b∈fp,yg0 X pins H2 b)
  {R:qa->Hp->Prop} (h:∀D,H2 D=none->zd ς te (za js σ) D (R D) H2) {RR:qc->qa->Result->qb->Prop} {E:Δ}
  (hR:∀(D C:qa)(H':Hp)(s':qb)(m:Ε),yg0 X pins H' C->s'.heap.Ns C m->Inv X pins σ H' s'->R D H'->RR ⇑D C (.ok .next) s'):
  wpAny (model X.prog X.w) X.A (newList []) (λacc s₃=>(wpAny (model X.prog X.w) X.A) (newFunctionEnv scope X.env.globals (ŀ ys X.env) [] X.env.qual none .none (some X.env)) (λcenv s₄ =>
   codeAny (model X.prog X.w) X.A (.compStart (.ListComp elt [#[.Name x px,iter,[],0]] scope pos) 0 ⇑it acc {cenv with scope:=relabel scope X.env}) (RR acc cenv.locals) s₄) E s₃) E s2 :=
 ñ (tg:=.Name x px) (xs:=[x]) (g:=xm 0) hc he (λC s2 H2 fp=>wd (i:=0) hnd J (Or.inl (lookup_relabel_local hx)) (Or.inr (lookup_relabel_local hx))) hcell hkind hfr hyc hrel hjs I2 T st2 f2 (λD a=>vaq (h D a)) hR
def vx(hc:X.calm=true)(hi:PI X (.Name x px) iter wi)(he:∀(C:qa)(s2:qb)(H2:Hp)(fp:Φ),PE (X.compF scope ys C x s2 H2 fp) elt te)(hjs:js.map (λj=>X.N[j]?)=ys.map some)
  (hclos:closureFor scope X.env=pure (ŀ ys X.env)) (hnd: ~~~((x::ys).Nodup)) (hyc:∀y∈ys,X.env.kindOf y=some .cell) (hrel:∀y∈ys,(relabel scope X.env).names.lookup y=some .cell)
  (hfr:autoParam (∀y∈scope.names,y.2=.free->y.1∈ys) aC._auto_1) (hcell:autoParam (∀y∈scope.names,y.2≠.cell) aC._auto_1) (hkind:¬¬(scope.kind=.function))
  (hnames:autoParam (∀y∈scope.names,y.2=.local->scope.names.lookup y.1=some .local) aC._auto_1) (hx:¬¬(scope.names.lookup x=some .local)) (hs:autoParam (∀x,foldedSetIterable iter X.env x=pure x) aE._auto_1):
  PE X (.ListComp elt [#[.Name x px,iter,[],0]] scope pos) (ylu wi te js):=by refine .mk λa s σ H Q I h=>?_;rwa[eval_ListComp,wpAny_comprehension_free (use:=none) J hs hclos hkind hnames (thn (hi a s σ H _ I h) λv G n=>thn n λi s2 l=>?_)];let#[E,fp,F,ς,H2,e,z,T,d,g,h]:=l;subst e;erw[Ś (R:=λD c=>Q ⇑D c) (RR:=compPost (model X.prog X.w) X.A X.xe none (EP X a σ Q)) hc he hcell hkind hx hnd hfr hyc hrel hjs z T d g h ?_];intro D C c k m f r p q;erw[m,r,λB u=>#[.ref D,c,?_,J,q],<-p.turned (t':=k.toks) (λb o t e=>u.extBut b o t e) f.1 f.2.1 f.2.2.2.1 f.2.2.2.2.1 f.2.2.2.2.2]
def yf8{i:Nat}{y:Str}{py spos:Pos}(hN:X.N.Nodup)(hy:X.N[i]?=some y)(hl:X.env.scope.names.lookup y=some .local)(hc:X.calm=true)(hi:PI X (.Name x px) iter wi)
  (he:∀(C:qa)(s2:qb)(H2:Hp)(fp:Φ),PE (X.compF scope ys C x s2 H2 fp) elt te) (hjs:js.map (λj=>X.N[j]?)=ys.map some)
  (hclos:closureFor scope X.env=pure (ŀ ys X.env)) (hyc:∀y∈ys,X.env.kindOf y=some .cell) (hrel:∀y∈ys,(relabel scope X.env).names.lookup y=some .cell)
  (hsw:¬¬(swapsWith (.ListComp elt [#[.Name x px,iter,[],0]] scope pos) (some (.Name y py)) spos.line X.env=pure true)) (hnd: ~~~((x::ys).Nodup))
  (hfr:autoParam (∀y∈scope.names,y.2=.free->y.1∈ys) aC._auto_1) (hcell:autoParam (∀y∈scope.names,y.2≠.cell) aC._auto_1) (hkind:¬¬(scope.kind=.function))
  (hnames:autoParam (∀y∈scope.names,y.2=.local->scope.names.lookup y.1=some .local) aC._auto_1) (hx:¬¬(scope.names.lookup x=some .local)) (hs:autoParam (∀x,foldedSetIterable iter X.env x=pure x) aE._auto_1):
  PS X (.Assign [.Name y py] (.ListComp elt [#[.Name x px,iter,[],0]] scope pos) spos) (vhq (ylu wi te js) (xm i)):=by
 erw[.mk λa s σ H p I h=>?_];rwa[exec_Assign_Name_used _ _ _ _ hsw,bv (wpAny_standAt (bv ?_))];show wpAny _ X.A (do let _ <- comprehension (.ListComp elt [#[.Name x px,iter,[],0]] scope pos) scope X.env _ (newList []) false (eval iter X.env) (some (assign (.Name y py) X.env))) _ _ s;erw[bv (c7 (wpAny_comprehension_free (use:=some (assign (.Name y py) X.env)) (Q:=λZ d=>SP X a p .next d) J hs hclos hkind hnames (thn (hi a s σ H _ I h) λv P F=>thn F λu s2 B=>?_)) (λZ d E=>bS (bS E)) λZ Z e=>e)];let#[S,fp,U,ς,H2,e,K,T,g,M,h]:=B;subst e;erw[Ś (R:=λD r=>xm i ⇑D σ r p.nx) (RR:=compPost (model X.prog X.w) X.A X.xe (some (assign (.Name y py) X.env)) (λZ d=>SP X a p .next d)) hc he hcell hkind hx hnd hfr hyc hrel hjs K T g M h ?_];intro D C r d m f L G q;erw[wpAny_assign_Name (Ĵ (v:=V.ref D) G hN hy (Or.inl hl) J (λl n k=>?_) (Or.inr hl)),<-m,?_,λO t=>#[_,r,?_,q]]
 .let#[b,t,c]:=k;erw[L.sameBut t λz=>?_];rcases c with c|c
  .erw[f.2.1 (z.trans c)]
  .erw[f.2.2.2.2.1 y b c z.symm]
 .erw[n.turned (t':=l.toks) (λb o c e=>t.extBut b o c e) f.1 f.2.1 f.2.2.2.1 f.2.2.2.2.1 f.2.2.2.2.2]
end
end
end L2
namespace L2
mutual
variable{st:Int}
def vhz(lo st:Int)(n:Nat):It:=#[λi Z=>i<n,λi H x H'=>H'=H/\x=.int (lo+i*st),λi Z=>n<=i]
def ydk{P:qi}{w:qe}{K:xy}{tg:qh}(it:qa)(lo st:Int)(n:Nat):ygz P w K tg (vhz lo st n) [it] it (λi h=>IsRangeIter h it (lo+(i:Nat)*st) ((n:Int)-(i:Nat)) st) where
 mem:=(by simp)
 obj:=λi h st b c=>by
  have e:b=it:=by simpa using c
  subst e
  erw[_,st,λv z=>by
   have D:Data.fields _=Data.cell v:=z;cases D]
 keep:=λi h g st k=>k it (by simp) _ st
 item:=by
  intro X y r q B i a s σ H E I j d l;subst y r q;let#[m,p,L,A,x,u]:=j it (by simp);let W:=Walks.range (prog:=X.prog) (w:=X.w) (I.ok.hd B) it lo st n;erw[W.item i s _ _ l d λv g C M f G=>?_];let#[t,J]:=M;have F:Inv X a σ H {s with heap:=g,toks:=C}:=I.turned (λb o c e=>G b o (by simpa using c) e) m p A x u;erw[_,J,yh8 (s:={s with heap:=g,toks:=C}) (n:="range_iterator") f J J ∅ #[.int (lo+i*st),H,F,#[t,J],#[J,J],f,λb c=>(j b c).1]]
 done:=by
  intro X y r q B i a s σ H E I j d l;subst y r q;let#[m,p,L,A,x,u]:=j it (by simp);erw[wpAny_pyNext_range_end (I.ok.hd B) d (by have:n<=i:=l;omega) λg ς=>#[J,I.turned (t':=s.toks) (λb o c e=>ς b o c e) m p A x u]]
 self:=λZ Z Z Z Z st h=>wpAny_pyIter_rangeiter st h
def rgN(lo hi st:Int):Nat:=if lo<hi then ((hi-lo-1)/st+1).toNat else 0
def yr4{lo hi:Int}(hs:0<st):((rgN lo hi st:Nat):Int)=Builtin.Range.rangeSize lo hi st:=by
 unfold rgN Builtin.Range.rangeSize;rw[if_pos (show st > 0 from hs)]
 split
 .have:0<=(hi-lo-1)/st:=Int.ediv_nonneg () ();omega
 .rfl
def ykb{lo hi:Int}(hs:0<st)(hs2:st<1000000)(h1:0<=lo)(h2:lo<100000000)(h3:0<=hi)(h4:hi<100000000):Builtin.Range.small lo hi st=true:=by
 let e:=yr4 (lo:=lo) (hi:=hi) hs
 have f:(hi-lo-1)/st<=100000000:=Int.le_trans (Int.ediv_le_ediv hs (show hi-lo-1<=100000000*st by
  have:100000000*1<=100000000*st:=di hs ∅;omega)) (by rwa[Int.mul_ediv_cancel _ (),Int.le_refl _])
 have d:((rgN lo hi st:Nat):Int)<=100000001:=by
  unfold rgN
  split
  .have:0<=(hi-lo-1)/st:=Int.ediv_nonneg () ();omega
  .decide
 have c:0<=((rgN lo hi st:Nat):Int):=Int.natCast_nonneg _;unfold Builtin.Range.small;rw[<- e];generalize ((rgN lo hi st:Nat):Int)=m at d c;simp only[Builtin.Range.rangeFitsLong,cB,Bool.or_eq_true,decide_eq_true_eq,beq_iff_eq,show st > 0 from hs,if_true];have k:∀{x:Int},0<=x->x<200000000->-2^63<=x/\x<2^63:=λa b=>#[Int.le_trans ∅ a,Int.lt_trans b ∅];erw[#[#[#[k h1 (Int.lt_trans h2 ∅),k h3 (Int.lt_trans h4 ∅)],k (Int.le_of_lt hs) (Int.lt_trans hs2 ∅)],k c (Int.lt_of_le_of_lt d ∅)],.inr (k () ())]
end
section
mutual
variable{X:Cx}{tg:qh}
def vfy(ta:TA):TI:=λσ H R=>ta σ H λvs H1=>∃i j st:Int,vs=[.int i,.int j,.int st]/\(0<=i/\i<100000000/\0<=j/\j<100000000/\0<st/\st<1000000)/\R (vhz i st (rgN i j st)) H1
def yjo{a b c:qh}{ta:TA}{p pos:Pos}(hg:Gl X "range")(hm:X.mg "range"=none)(ha:PA X [a,b,c] ta)(hs:¬¬(starEach [a,b,c] X.env=[(false,eval a X.env),(false,eval b X.env),(false,eval c X.env)]))(hs2:¬¬(starEach [b,c] X.env=[(false,eval b X.env),(false,eval c X.env)])):
  PI X tg (.Call (.Name "range" p) [a,b,c] [] pos) (vfy ta):=by
 intro g s σ H R I h;erw[Call_ (Ļ I hg hm boot_range (PyProof.Rows.callWith_type1 (thn (ha pos g s σ H _ I h) λF k h'=>?_) (by rw[hs,hs2]) (by rw[hs2];rfl)))];let#[E,u,x,v,l]:=h';let#[i,j,d,e,#[l,D,z,B,n,y],q]:=l;subst e
 cases v with
 |cons r rr =>
  cases rr with
  |cons r' rr =>
   cases rr with
   |cons r'' rr =>
    cases rr;let#[t,J]:=r;let#[t',J]:=r';let#[f,J]:=r'';erw[call_range_3 () (wpAny_pyIter_range (IsRange.new ..) (ykb n y l D z B) ?_) (.inl (PyProof.noPylong_small ()))];have m:Inv X g σ u {k with heap:=k.heap.push { cls:=.type "range",data:=.fields (List.toArray [.int i t,.int j t',.int d f])},toks:=k.toks}:=x.kept λb o e=>bR _ e
    erw[(k.heap.push { cls:=.type "range",data:=.fields (List.toArray [.int i t,.int j t',.int d f])})⁻¹,[(k.heap.push { cls:=.type "range",data:=.fields (List.toArray [.int i t,.int j t',.int d f])})⁻¹],_,_,u,J,
     m.kept (t':=k.toks) λb o e=>bR _ e,ydk _ i d (rgN i j d),?_,λb w=>?_,q]
    .have C:i+((0:Nat):Int)*d=i:=(by simp)
     have A:((rgN i j d:Nat):Int)-((0:Nat):Int)=Builtin.Range.rangeSize i j d:=by rw[<- yr4 n];omega
     show IsRangeIter _ _ (i+((0:Nat):Int)*d) (((rgN i j d:Nat):Int)-((0:Nat):Int)) d;rwa[C,A,cb _ J]
    .have e:b=(k.heap.push { cls:=.type "range",data:=.fields (List.toArray [.int i t,.int j t',.int d f])})⁻¹:=by simpa using w
     subst e;erw[m.fpOk (bT _) (m.hok.fresh (bT _))]
def ywi{tr:TA}{σ:St}{H:Hp}{R:It->Hp->Prop}(h:tr σ H λvs H1=>∃i j st:Int,vs=[.int i,.int j,.int st]/\(0<=i/\i<100000000/\0<=j/\j<100000000/\0<st/\st<1000000)/\R (vhz i st (rgN i j st)) H1):vfy tr σ H R:=h
def yaf{lo:Int}{n:Nat}{D:qa}{te:TE}{fr:St}{R:Hp->Prop}{H1:Hp}(f:Nat->V)(hD:H1 D=none)
  (hs:∀i H,i<n->y7 H1 H->H D\((List.range i).map f)->te (some ((lo+i*st):)::fr) H (MpK H1 D f n i))
  (hd:∀H,y7 H1 H->H D\((List.range n).map f)->R H):zd (vhz lo st n) te fr D R H1:=by
 erw[cW n (Mp H1 D f),#[n,(by simp),cK _,Mp.zero hD],?_];rintro i m H ⟨rfl,a,p⟩;by_cases hlt:i<n
 .erw[.inr #[hlt,λx b y=>?_]];let#[e,y]:=y;subst e y;erw[hs i _ hlt p.1 p.2]
 .have e:i=n:=()
  subst e;erw[.inl #[bT _,hd H p.1 p.2]]
end
end
section
variable{prog:qi}{w:qe}{A:qf}{E:Δ}{s:qb}
def Ó{it l:qa}{i:Nat}{items}{x:qc}{Q:Δ}(hit:s.heap.IsTupleIter it l i)(hl:s.heap.IsTuple l items)(hx:items[i]?=some x)
  (hQ:∀h',h'.IsTupleIter it l (i+1)->Heap.SameBut it s.heap h'->Q x {s with heap:=h'}):wpAny (model prog w) A (Builtin.SmallTypes.nextOf ⇑it) Q E s:=by let#[g,b,c,a]:=id hit;let#[h,d,_,f,e]:=hl;unfold Builtin.SmallTypes.nextOf;erw[bv (wpAny_callSpecial?_slot (name:=Str.ofString "__next__") hit.typeIs slot_tupleiter_next (wpAny_call_entry slot_tupleiter_next hit.typeIs entry_tupleiter_next ?_ (args_tupleiter_next _)))];show wpAny _ _ (field ⇑it 0 >>=_) _ _ s;erw[bv (cT b a (x:=.ref l) J ?_)];show wpAny _ _ (if (Value.ref l == Value.none)=true then _ else _) _ _ s;rw[if_neg (show ¬((Value.ref l == Value.none)=true)from ci)];show wpAny _ _ (field ⇑it 1 >>=_) _ _ s;erw[bv (cT b a (x:=.int i 0) J ?_)];show wpAny _ _ (seqItems? ⇑l >>=_) _ _ s;erw[bv (wpAny_seqItems d e ?_)];simp only[Int.toNat_natCast,hx];erw[bv (wpAny_setField b a (by simp) (bS #[x,J,bS (hQ _ #[_,Heap.get?_update_self _ b (Obj.isFreed_of_fields (Obj.data_mapFields a _)),(Obj.cls_mapFields ..).trans c,?_] (Heap.SameBut.update ..))]))];rw[Obj.data_mapFields a];simp[rawInt]
def Ĩ{it l:qa}{i:Nat}{items}{Q:Δ}(hh:A.handled=none)(hit:s.heap.IsTupleIter it l i)(hl:s.heap.IsTuple l items)(hx:items[i]?=none)
  (hE:∀h' e,Heap.ExtBut it s.heap h'->(∃o,h'.get? e=some o/\o.cls=.type "StopIteration")->E ⇑e {s with heap:=h'}):wpAny (model prog w) A (Builtin.SmallTypes.nextOf ⇑it) Q E s:=by
 let#[j,c,g,b]:=id hit;let#[k,d,_,h,f]:=hl;unfold Builtin.SmallTypes.nextOf;erw[bv (wpAny_callSpecial?_slot (name:=Str.ofString "__next__") hit.typeIs slot_tupleiter_next (wpAny_call_entry slot_tupleiter_next hit.typeIs entry_tupleiter_next ?_ (args_tupleiter_next _)))]
 (show wpAny _ _ (field ⇑it 0 >>=_) _ _ s);erw[bv (cT c b (x:=.ref l) J ?_)]
 (show wpAny _ _ (if (Value.ref l == Value.none)=true then _ else _) _ _ s);rw[if_neg (show ¬((Value.ref l == Value.none)=true)from ci)]
 (show wpAny _ _ (field ⇑it 1 >>=_) _ _ s);erw[bv (cT c b (x:=.int i 0) J ?_)]
 (show wpAny _ _ (seqItems? ⇑l >>=_) _ _ s);erw[bv (wpAny_seqItems d f ?_)]
 simp only[Int.toNat_natCast,hx];erw[bv (wpAny_rule (bv (wpAny_setField c b (by simp) ?_)))]
 (show wpAny _ _ (newExc (.type "StopIteration") [] >>=_) _ _ _);erw[bv ?_]
 simp only[newExc,newTuple];erw[bv (wpAny_newObj_type ?_ (by size_fits))]
 erw[bv (m:=firstArgMember _ _) (wpAny_of_eq (a:=Value.none) (by first|rfl|(simp only[firstArgMember];rfl)) (wpAny_newObj_type ?_ (by size_fits)))]
 simp only[raiseNew];erw[bv (wpAny_handled ?_)]
 (first|rw[show A.in1.handled=none from hh]|rw[hh]);erw[bv (bS (wpAny_throw ?_))]
 erw[hE _ _ (((Heap.SameBut.update _ ..).extBut.push _).push _) #[_,cb _ J,J]]
end
section
open AutoSeq1 (wpAny_loadPart')
set_option maxRecDepth 100000
end
end L2
namespace L2
section
mutual
variable{σ:St}{H:Hp}{Q:VK}{td ty tx tv:TE}
def vd0(h:td σ H λx H1=>ty σ H1 λy H2=>∃a v,x=.ref a/\Ŭ H2 a y (some v)/\Q v H2):ve1 td ty σ H Q:=h
def vii(h:ty σ H λy H1=>td σ H1 λx H2=>∃a o,x=.ref a/\Ŭ H2 a y o/\Q (.bl o.isSome) H2):vk6 ty td σ H Q:=h
def ypc(h:ty σ H λy H1=>td σ H1 λx H2=>∃a o,x=.ref a/\Ŭ H2 a y o/\Q (.bl (!o.isSome)) H2):ykk ty td σ H Q:=h
def vdo{nx bk ct:Ζ}{rt:VK}(h:tv σ H λv H1=>td σ H1 λx H2=>ty σ H2 λy H3=>∃a H4,x=.ref a/\ym1 H3 a y v H4/\nx σ H4):vey td ty tv #[nx,rt,bk,ct] σ H:=h
def yxm(h:∀p,H p=none->Q ⇑p (upd H p (.dT []))):yrl σ H Q:=h
end
end
open PySem PySem.Spec PyProof.Rows
mutual
variable{i1 i2 l1 l2:qa}{xs ys:Array qc}{elts:qj qh}{k1 k2:Nat}{tpos:Pos}{P:qi}{a:qc}
def vkb(Sq:Hp->qa->qj V->Prop)(a b:qa):It :=
 #[λi H=>∃xs ys x y,Sq H a xs/\Sq H b ys/\xs[i]?=some x/\ys[i]?=some y,
  λi H v H'=>∃t x y,v=.ref t/\H t=none/\H'=upd H t (.tup [x,y])/\(∀xs,Sq H a xs->xs[i]?=some x)/\(∀ys,Sq H b ys->ys[i]?=some y),
  λi H=>∃xs ys,Sq H a xs/\Sq H b ys/\(↑xs<=i\/↑ys<=i)]
abbrev Itz(K:xy)(a b:qa):It:=vkb (SqL K) a b
structure Zap(z TI TO i1 i2:qa):Prop where
 a1:TI≠z
 a2:TO≠z
 a3:i1≠z
 a4:i2≠z
 a5:TI≠TO
 a6:TI≠i1
 a7:TI≠i2
 a8:TO≠i1
 a9:TO≠i2
 b1:i1≠i2
def vhv(Ii:qg->qa->qa->Nat->Prop)(z TI TO i1 i2 l1 l2:qa)(i:Nat)(h:qg):Prop:=IsZip h z TI TO .none/\IsPair h TI ⇑i1 ⇑i2/\(∃a b,IsPair h TO a b)/\Ii h i1 l1 i/\Ii h i2 l2 i
abbrev Zst:=vhv Heap.IsListIter
def ji{h:qg}{a b:qa}{o o':Obj}(e:h.get? a=some o)(e':h.get? b=some o')(n:o.cls≠o'.cls):a≠b:=by rintro rfl;rw[e]at e';cases e';erw[n J]
def yqn(z:Nat):Zap (z+4) (z+2) (z+3) z (z+1):=by constructor<;>(show (_:Nat)≠(_:Nat);omega)
def nT{a b:String}(h:Value.type a≠Value.type b):Value.type a≠Value.type b:=h
def Zap.apart{X:Cx}{pins:Θ}{σ:St}{H:Hp}{s:qb}{z TI TO:qa}{i:Nat}{xs ys:Ξ}(d:Zap z TI TO i1 i2)(st:Zst z TI TO i1 i2 l1 l2 i s.heap)(p:PlainL s.heap l1 xs.toArray)(q:PlainL s.heap l2 ys.toArray)(_:(Inv X pins σ H) s):ZipApart z TI TO i1 i2 l1 l2:=by
 let#[l,o,#[a,b,c],#[v,k,n,_],#[t,m,j,_]]:=st;let#[u,h,f,_]:=p.isList;let#[r,e,g,_]:=q.isList
 erw[d.a1,d.a2,d.a3,d.a4,d.a5,d.a6,d.a7,d.a8,d.a9,d.b1,
  ji h l (by rwa[f,nT ∅]),ji h c (by rwa[f,nT ∅]),ji h k (by rw[f,n];decide),ji h m (by rw[f,j];decide),
  ji e l (by rwa[g,nT ∅]),ji e c (by rwa[g,nT ∅]),ji e k (by rw[g,n];decide),ji e m (by rw[g,j];decide)]
structure ZK(K:xy)(Sq:Hp->qa->qj V->Prop)(Ii:qg->qa->qa->Nat->Prop)(z TI TO i1 i2 l1 l2:qa):Prop where
 ob:∀{h:qg}{i l:qa}{k:Nat},Ii h i l k->∃o,h.get? i=some o/\∃fs,o.data=.fields fs
 kp:∀{h h':qg}{i l:qa}{k:Nat},Ii h i l k->(∀o,h.get? i=some o->h'.get? i=some o)->Ii h' i l k
 inj:∀{X:Cx}{pins:Θ}{σ:St}{H:Hp}{s:qb}{l:qa}{xs ys:Τ},X.K=K->(Inv X pins σ H) s->Sq H l xs->Sq H l ys->xs=ys
 nx:∀{X:Cx}{pins:Θ}{σ:St}{H:Hp}{s:qb}{E:Δ}{i:Nat}{xs ys:Τ}{x y:V},X.K=K->(Inv X pins σ H) s->H TO=none->vhv Ii z TI TO i1 i2 l1 l2 i s.heap->Sq H l1 xs->Sq H l2 ys->xs[i]?=some x->ys[i]?=some y ->
  ∃u u',xq x u/\xq y u'/\ZipApart z TI TO i1 i2 l1 l2/\∀Q:ql qc->qb->Prop,(∀h',IsZip h' z TI TO (rawInt s.heap⁻¹)->IsPair h' TO u u'->Ii h' i1 l1 (i+1)->Ii h' i2 l2 (i+1)->IsPair h' s.heap⁻¹ u u'->h'⁻¹=s.heap⁻¹+1->(∀c o,c≠z->c≠TO->c≠i1->c≠i2->s.heap.get? c=some o->h'.get? c=some o)->Q (some ⇑s.heap⁻¹) {s with heap:=h'})->(wpAny (model X.prog X.w) X.A) (pyNext ⇑z) Q E s
 sp:∀{X:Cx}{pins:Θ}{σ:St}{H:Hp}{s:qb}{E:Δ}{i:Nat}{xs ys:Τ},X.K=K->X.calm=true->(Inv X pins σ H) s->H TO=none->vhv Ii z TI TO i1 i2 l1 l2 i s.heap->Sq H l1 xs->Sq H l2 ys->(↑xs<=i\/↑ys<=i) ->
  ∀Q:ql qc->qb->Prop,(∀h',(∀c o,c≠z->c≠TO->c≠i1->c≠i2->s.heap.get? c=some o->h'.get? c=some o)->Q none {s with heap:=h'})->(wpAny (model X.prog X.w) X.A) (pyNext ⇑z) Q E s
def ycc{w:qe}{K:xy}{x1}{Sq:Hp->qa->qj V->Prop}{Ii:qg->qa->qa->Nat->Prop}{z TI TO:qa}(zk:ZK K Sq Ii z TI TO i1 i2 l1 l2):
  ygz P w K (.Tuple elts x1 tpos) (vkb Sq l1 l2) [z,TI,TO,i1,i2] z (vhv Ii z TI TO i1 i2 l1 l2) where
 mem:=(by simp)
 obj:=λi h B b d=>by
  let#[S,r,#[_,_,A],h1,h2]:=B;let#[o1,e1,_,d1]:=zk.ob h1;let#[o2,e2,_,d2]:=zk.ob h2;simp only[bZ,List.not_mem_nil,or_false]at d;rcases d with rfl|rfl|rfl|rfl|rfl
  .erw[_,S,λv z=>by cases z]
  .erw[_,r,λv z=>by cases z]
  .erw[_,A,λv z=>by cases z]
  .erw[o1,e1,λv z=>by rw[d1]at z;cases z]
  .erw[o2,e2,λv z=>by rw[d2]at z;cases z]
 keep:=λi h L B k=>by
  let#[S,r,#[a,b,A],h1,h2]:=B;erw[k z (by simp) _ S,k TI (by simp) _ r,#[a,b,k TO (by simp) _ A],zk.kp h1 λo e=>k i1 (by simp) o e,zk.kp h2 λo e=>k i2 (by simp) o e]
 item:=by
  intro X hP hw hK hc i F s σ H E I p B hg;subst hP hw hK;let#[xs,Y,x,y,M,C,j,hy]:=hg;let#[u,u',ru,a8,D,nx]:=zk.nx (E:=E) J I (p TO (by simp)).1 B M C j hy;let#[S,r,#[va,vb,A],a0,a7]:=B;erw[nx _ λL a1 a2 a3 a4 a5 a6 hk=>?_,<-_,J,wpAny_letOwnedTupleGo_zip a1 λl T g=>?_];have t:H s.heap⁻¹=none:=I.hok.fresh (bT _);have lz:z<s.heap⁻¹:=cg S;have lo:TO<s.heap⁻¹:=cg A;have lI:TI<s.heap⁻¹:=cg r;have a9:i1<s.heap⁻¹:=by let#[o,e,_]:=zk.ob a0;erw[cg e]
  have aa:i2<s.heap⁻¹:=by let#[o,e,_]:=zk.ob a7;erw[cg e]
  have keep:∀b o,b≠z->b≠TO->b≠i1->b≠i2->s.heap.get? b=some o->l.get? b=some o:=λb o N Z O Q e=>(g.2 b N).trans (hk b o N Z O Q e);have R:l.get? s.heap⁻¹=some { cls:=.type "tuple",data:=.seq (List.toArray [u,u'])}:=(g.2 _ (Nat.ne_of_gt lz)).trans a5;have U:∀{b v},H b=some v->b≠z/\b≠TO/\b≠i1/\b≠i2:=λ{b v}e=>#[yb e (p z (by simp)).1,yb e (p TO (by simp)).1,yb e (p i1 (by simp)).1,yb e (p i2 (by simp)).1]
  have ς:HOk X.prog X.w (upd H s.heap⁻¹ (.tup [x,y])) l:=λb o e=>by
   by_cases d:b=s.heap⁻¹
   .subst d;rw[ya]at e;cases e;exists by show 2<=sizeLine;decide,[u,u'],.cons ru (.cons a8 .nil),#[_,R,J,_,J]
   .rw[yk d]at e;refine(I.hok b o e).stay (λc v m q=>?_) (λc q=>by rwa[yk (yb q t),q]) λc Y q=>by rw[yk (yb q t)];exact q
    obtain⟨N,Z,O,Q⟩:c≠z/\c≠TO/\c≠i1/\c≠i2:=by
     rcases m with rfl|m
     .erw[U e]
     .erw[U m]
    erw[keep c v N Z O Q q]
  have un:Un (frs X.stack) [z,TI,TO,i1,i2] H (upd H s.heap⁻¹ (.tup [x,y])) s.heap l:=by
   have G:∀{b o},b∉[z,TI,TO,i1,i2]->s.heap.get? b=some o->l.get? b=some o:=λ{b o}d e=>keep b o (λq=>d (by simp[q])) (λq=>d (by simp[q])) (λq=>d (by simp[q])) (λq=>d (by simp[q])) e
   erw[λb o e n W j=>G j e,λb o e n W j=>#[o.slots,G j e],λb o e n W=>by rwa[yk (cR (cg e)),n],λb o e j=>#[o,G j e],
    λb Y e=>by rwa[yk (yb e t),e],λb o v e=>by rwa[yk (yb e t),e],λb ps e=>#[#[],by rw[yk (yb e t),e];simp]]
  have I1:Inv X F σ (upd H s.heap⁻¹ (.tup [x,y])) {s with heap:=l}:=I.call' (s':={s with heap:=l}) J un ς I.bare λb d=>by
   let f:=p b d;erw[f.2.2.2.1,f.2.1,f.2.2.2.2.1,f.2.2.2.2.2]
  erw[.ref s.heap⁻¹,_,I1,J,#[_,x,y,J,t,J,λzs h=>by rwa[zk.inj J I h M,j],λzs h=>by rwa[zk.inj J I h C,hy]],?_,λb d=>?_]
  .erw[T,keep _ _ D.TIz D.TITO D.TIi1 D.TIi2 r,#[u,u',(g.2 _ D.TOz).trans a2],zk.kp a3 λo e=>(g.2 _ D.i1z).trans e,zk.kp a4 λo e=>(g.2 _ D.i2z).trans e]
  .rw[yk (λq=>?_)]
   .erw[(p b d).1]
   .have M:b<s.heap⁻¹:=by
     simp only[bZ,List.not_mem_nil,or_false]at d;rcases d with rfl|rfl|rfl|rfl|rfl<;>assumption
    erw[absurd q (cR M)]
 done:=by
  intro X hP hw hK hc i F s σ H E I p B hg;subst hP hw hK;let#[xs,Y,M,C,j]:=hg;erw[zk.sp J hc I (p TO (by simp)).1 B M C j _ λL hk=>#[J,?_]];have U:∀{b v},H b=some v->b≠z/\b≠TO/\b≠i1/\b≠i2:=λ{b v}e=>#[yb e (p z (by simp)).1,yb e (p TO (by simp)).1,yb e (p i1 (by simp)).1,yb e (p i2 (by simp)).1]
  have ς:HOk X.prog X.w H L:=λb o e=>by
   erw[(I.hok b o e).stay (λc v m q=>?_) (λc q=>q) λc Y q=>q]
   obtain⟨N,Z,O,Q⟩:c≠z/\c≠TO/\c≠i1/\c≠i2:=by
    rcases m with rfl|m
    .erw[U e]
    .erw[U m]
   erw[hk c v N Z O Q q]
  have un:Un (frs X.stack) [z,TI,TO,i1,i2] H H s.heap L:=by
   have G:∀{b o},b∉[z,TI,TO,i1,i2]->s.heap.get? b=some o->L.get? b=some o:=λ{b o}d e=>hk b o (λq=>d (by simp[q])) (λq=>d (by simp[q])) (λq=>d (by simp[q])) (λq=>d (by simp[q])) e;erw[λb o e n W j=>G j e,λb o e n W j=>#[o.slots,G j e],λb o e n W=>n,λb o e j=>#[o,G j e],λb Y e=>e,λb o v e=>e,λb ps e=>#[#[],by rw[e];simp]]
  exact I.call' (s':={s with heap:=L}) J un ς I.bare λb d=>by
   let f:=p b d;erw[f.2.2.2.1,f.2.1,f.2.2.2.2.1,f.2.2.2.2.2]
 self:=λW W W W W B h=>wpAny_pyIter_zip B.1 h
def yoz{w:qe}{K:xy}{x1}(l1 l2 z TI TO i1 i2:qa)(d:Zap z TI TO i1 i2):
  ygz P w K (.Tuple elts x1 tpos) (Itz K l1 l2) [z,TI,TO,i1,i2] z (Zst z TI TO i1 i2 l1 l2):=ycc #[λ⟨o,e,_,d⟩=>#[o,e,_,d],λh f=>h.at f,λ{X a σ H s l R T}r I h g=>by subst r;erw[I.list_inj h g],λ{X a σ H s E i R T x y}r I W B G q S Z=>by
  subst r;let#[ς,M,p,F]:=I.list G;let#[t,m,C,v]:=I.list q;let#[u,hu,ru]:=M.get S;let#[Y,L,O]:=m.get Z;let D:=d.apart B p C I;let#[N,c,#[va,U,n],b,j]:=B
  erw[u,Y,ru,O,D,λQ k=>wpAny_pyNext_zip_item D N c n b j p.isList C.isList (by simpa using hu) (by simpa using L) k],λ{X a σ H s E i R T}r hc I W B G q S Q k=>by
  subst r;let#[ς,M,p,F]:=I.list G;let#[t,m,C,v]:=I.list q;let D:=d.apart B p C I;let#[N,c,#[va,U,n],b,j]:=B;let hl:=↑M;let a0:=↑m;erw[wpAny_pyNext_zip_end (show X.A.handled=none from I.ok.hd hc) D N c n b j p.isList C.isList (by simp;omega) k]]
end
section
mutual
variable{X:Cx}
def vkg(K:xy)(ta:TA):TI:=λσ H R=>ta σ H λvs H1=>∃a b,vs=[.ref a,.ref b]/\(∃xs ys,SqL K H1 a xs/\SqL K H1 b ys)/\R (Itz K a b) H1
def ytb{x1}{l m:qh}{ta:TA}{p pos:Pos}(hg:Gl X "zip")(hm:X.mg "zip"=none)(ha:PA X [l,m] ta)(hs:¬¬(starEach [l,m] X.env=[(false,eval l X.env),(false,eval m X.env)]))(hs2:¬¬(starEach [m] X.env=[(false,eval m X.env)])):
  PI X (.Tuple elts x1 tpos) (.Call (.Name "zip" p) [l,m] [] pos) (vkg X.K ta):=by
 intro g s σ H R I h;erw[Call_ (Ļ I hg hm (show bootBuiltins "zip"=some (.type "zip") by decide+kernel) (PyProof.Rows.callWith_type1 (thn (ha pos g s σ H _ I h) λO c h'=>?_) (by rw[hs,hs2]) (by rw[hs2];rfl)))];let#[L,E,f,w,A]:=h';let#[a,b,e,#[N,P,y,o],q]:=A;subst e
 cases w with
 |cons r rr =>
  cases rr with
  |cons r' rr =>
   cases rr;cases r;cases r';let#[z,M,F,j]:=f.list y;let#[u,C,t,G]:=f.list o;erw[call_zip_2 F.isList t.isList λς j i k B v D x=>?_,<-wpAny_pyIter_zip j ?_];have n:Zap (c.heap⁻¹+4) (c.heap⁻¹+2) (c.heap⁻¹+3) c.heap⁻¹ (c.heap⁻¹+1):=yqn _;erw[c.heap⁻¹+4,[c.heap⁻¹+4,c.heap⁻¹+2,c.heap⁻¹+3,c.heap⁻¹,c.heap⁻¹+1],_,_,E,J,f.kept (t':=c.toks) x,yoz a b _ _ _ _ _ n,#[j,i,#[_,_,k],B,v],λb d=>?_,q]
   have d:c.heap⁻¹<=b:=by
    simp only[bZ,List.not_mem_nil,or_false]at d;rcases d with rfl|rfl|rfl|rfl|rfl<;>omega
   erw[f.fpOk d (f.hok.fresh d)]
def vcn{K:xy}{ta:TA}{σ:St}{H:Hp}{R:It->Hp->Prop}(h:ta σ H λvs H1=>∃a b,vs=[.ref a,.ref b]/\(∃xs ys,SqL K H1 a xs/\SqL K H1 b ys)/\R (Itz K a b) H1):vkg K ta σ H R:=h
end
end
def Š{K:xy}{a b D:qa}{xs ys:Τ}{g:TG}{te:TE}{n:Nat}{fr:St}{R:Hp->Prop}{H1:Hp}(f:Nat->V)(hq:SqL K H1 a xs)(hq':SqL K H1 b ys)(hl:↑ys=↑xs)(hD:H1 D=none)
  (hs:∀i x y H t pre,xs[i]?=some x->ys[i]?=some y->y7 H1 H->H D\((List.range i).map f)->H t=none->List.length pre=n->g ⇑t (pre++fr) (upd H t (.tup [x,y])) λσ' H'=>(∃pre',List.length pre'=n/\σ'=pre'++fr)/\te σ' H' (MpK H1 D f ↑xs i))
  (hd:∀H,y7 H1 H->H D\((List.range ↑xs).map f)->R H):θ (Itz K a b) g te n fr D R H1:=by
 erw[cW ↑xs (Mp H1 D f),#[xs.length,(by simp),cK _,Mp.zero hD],?_];rintro i m H ⟨rfl,o,p⟩;let q:=p.1.seq hq;let c:=p.1.seq hq';by_cases hlt:i<↑xs
 .erw[.inr #[#[xs,ys,xs[i],ys[i]'(),q,c,by simp[hlt],by simp[hl,hlt]],λy H' pre h d=>?_]];let#[t,x,y,J,k,J,l,j]:=h;erw[hs i x y H t pre (l xs q) (j ys c) p.1 p.2 k d]
 .have e:i=↑xs:=()
  subst e;erw[.inl #[#[xs,ys,q,c,.inl (bT _)],hd H p.1 p.2]]
section
variable{X:Cx}{iter elt tg:qh}{xs:Ρ}{g:TG}{pos:Pos}{scope:Scope}{te:TE}{wi:TI}{ys:Ρ}{js:qj Nat}
def ynw{i:Nat}{y:Str}{py spos:Pos}(hN:X.N.Nodup)(hy:X.N[i]?=some y)(hl:X.env.scope.names.lookup y=some .local)(hc:X.calm=true)(hi:PI X tg iter wi)
  (he:∀(C:qa)(s2:qb)(H2:Hp)(fp:Φ),PE (X.compT scope ys C xs s2 H2 fp) elt te) (hjs:js.map (λj=>X.N[j]?)=ys.map some)
  (hgt:∀(C:qa)(s2:qb)(H2:Hp)(fp:Φ),PG (X.compT scope ys C xs s2 H2 fp) tg g)
  (hclos:closureFor scope X.env=pure (ŀ ys X.env)) (hyc:∀y∈ys,X.env.kindOf y=some .cell) (hrel:∀y∈ys,(relabel scope X.env).names.lookup y=some .cell)
  (hsw:¬¬(swapsWith (.ListComp elt [#[tg,iter,[],0]] scope pos) (some (.Name y py)) spos.line X.env=pure true))
  (hfr:autoParam (∀y∈scope.names,y.2=.free->y.1∈ys) aC._auto_1) (hcell:autoParam (∀y∈scope.names,y.2≠.cell) aC._auto_1) (hkind:¬¬(scope.kind=.function))
  (hnames:autoParam (∀y∈scope.names,y.2=.local->scope.names.lookup y.1=some .local) aC._auto_1) (hs:autoParam (∀x,foldedSetIterable iter X.env x=pure x) aE._auto_1):
  PS X (.Assign [.Name y py] (.ListComp elt [#[tg,iter,[],0]] scope pos) spos) (vhq (ylk wi g te ↑xs js) (xm i)):=by
 erw[.mk λa s σ H r I h=>?_];rwa[exec_Assign_Name_used _ _ _ _ hsw,bv (wpAny_standAt (bv ?_))];show wpAny _ X.A (do let _ <- comprehension (.ListComp elt [#[tg,iter,[],0]] scope pos) scope X.env _ (newList []) false (eval iter X.env) (some (assign (.Name y py) X.env))) _ _ s;erw[bv (c7 (wpAny_comprehension_free (use:=some (assign (.Name y py) X.env)) (Q:=λZ d=>SP X a r .next d) J hs hclos hkind hnames (thn (hi a s σ H _ I h) λv S G=>thn G λB s2 E=>?_)) (λZ d F=>bS (bS F)) λZ Z e=>e)];let#[U,fp,W,ς,H2,e,L,T,k,O,h]:=E;subst e;erw[ñ (R:=λD t=>xm i ⇑D σ t r.nx) (RR:=compPost (model X.prog X.w) X.A X.xe (some (assign (.Name y py) X.env)) (λZ d=>SP X a r .next d)) hc he hgt hcell hkind hfr hyc hrel hjs L T k O h ?_];intro D C t d m f M K q;erw[wpAny_assign_Name (Ĵ (v:=V.ref D) K hN hy (Or.inl hl) J (λn p l=>?_) (Or.inr hl)),<-m,?_,λP u=>#[_,t,?_,q]]
 .let#[b,u,c]:=l;erw[M.sameBut u λz=>?_];rcases c with c|c
  .erw[f.2.1 (z.trans c)]
  .erw[f.2.2.2.2.1 y b c z.symm]
 .erw[p.turned (t':=n.toks) (λb o c e=>u.extBut b o c e) f.1 f.2.1 f.2.2.2.1 f.2.2.2.2.1 f.2.2.2.2.2]
end
section
mutual
variable{X:Cx}
noncomputable def onI(f:Int->Int):V->V
 | .int i=>.int (f i)
 |v=>v
def ykr(f:Int->Int)(ns:Ο):(↥ns).map (onI f)=↥(ns.map f):=by rw[cM,cM];rfl
def ymd{pre:qj (Χ)}(h:List.length pre=2):∃v1 v2,pre=[v1,v2]:=by let#[v1,t,J,a]:=ω h;let#[v2,t,J,b]:=ω a;erw[v1,v2,by rw[List.length_eq_zero_iff.mp b]]
end
end
section
mutual
variable{X:Cx}
def vf3:V->qj V->Hp->VK->Prop:=λx vs H Q=>∃i:Int,x=.int i/\vs=[]/\Q ((Builtin.Int.intBits i:Nat):) H
def ykz:MtR X "int.bit_length" vf3:=by intro b s σ H x f v e Q I c d h;let#[i,J,J,q]:=h;let#[t,J]:=c;let a:=d.zero;subst a;erw[PyProof.Rows.call_int_bit_length #[.int _,H,I.tok _,#[_,J],q]]
def vbr{K:xy}{i:Int}{H:Hp}{Q:VK}(h:Q ((Builtin.Int.intBits i:Nat):) H):tyV K "int" (i:) H/\vf3 (i:) [] H Q:=#[J,i,J,J,h]
end
end
section
mutual
variable{prog:qi}{w:qe}{A:qf}{E:Δ}{s:qb}
def yo6{z TI TO:qa}{x y b:qc}{Q:Δ}(D:ZipApart z TI TO i1 i2 l1 l2)(hz:IsZip s.heap z TI TO .none)(hTI:IsPair s.heap TI ⇑i1 ⇑i2)(hTO:IsPair s.heap TO a b)
  (h1:s.heap.IsTupleIter i1 l1 k1) (h2:s.heap.IsTupleIter i2 l2 k2) (hl1:s.heap.IsTuple l1 xs) (hl2:s.heap.IsTuple l2 ys) (hx:xs[k1]?=some x) (hy:ys[k2]?=some y)
  (hQ:∀h',IsZip h' z TI TO (rawInt s.heap⁻¹)->IsPair h' TO x y->h'.IsTupleIter i1 l1 (k1+1)->h'.IsTupleIter i2 l2 (k2+1)->IsPair h' s.heap⁻¹ x y->h'⁻¹=s.heap⁻¹+1->(∀c o,c≠z->c≠TO->c≠i1->c≠i2->s.heap.get? c=some o->h'.get? c=some o)->Q ⇑s.heap⁻¹ {s with heap:=h'}):
  wpAny (model prog w) A (Builtin.«zip.__next__» #[[.ref z],[]]) (λfin s'=>∃v,fin=.done (.ret v)/\Q v s') E s:=by
 (show wpAny _ _ (field ⇑z 2 >>=_) _ _ _);erw[bv (cT hz J (x:=.bool false) J ?_)]
 (show wpAny _ _ (field ⇑z 3 >>=_) _ _ _);erw[bv (cT hz J (x:=.ref TI) J ?_),<-bv (wpAny_seqItems hTI J ?_)]
 (show wpAny _ _ (Builtin.SmallTypes.ownedTupleIsFree ⇑z >>=_) _ _ _);erw[bv ?_];unfold Builtin.SmallTypes.ownedTupleIsFree
 erw[bv (cT hz J (x:=.none) J (bS ?_))];simp only[if_true];erw[bv (wpAny_rule ?_),<-bv (cT hz J (x:=.ref TO) J ?_),<-bv (wpAny_setField_rec hz (by simp) λh₁ hz₁ hs₁=>?_)]
 replace hz₁:IsZip h₁ z TI TO .ellipsis:=hz₁;erw[bv ?_];simp only[List.zipIdx_cons,List.zipIdx_nil,List.forIn_cons,List.forIn_nil]
 erw[bv (bv (wpAny_onRaise ?_))];(show wpAny _ _ (Builtin.SmallTypes.nextOf ⇑i1 >>=_) _ _ _);erw[bv (Ó (h1.at λo e=>hs₁.extBut _ _ D.i1z e) (hl1.extBut hs₁.extBut D.l1z) hx λh₂ h1₂ hs₂=>bS ?_)];have hTO₂:IsPair h₂ TO a b:=hs₂.extBut _ _ D.TOi1 (hs₁.extBut _ _ D.TOz hTO);erw[bv (wpAny_seqItems hTO₂ J ?_),<-bv (wpAny_updateSeq_pair hTO₂ λh₃ hTO₃ hs₃=>?_)];replace hTO₃:IsPair h₃ TO x b:=hTO₃;erw[bv (wpAny_letGo (bS ?_)),<-bv (bv (wpAny_onRaise ?_))];(show wpAny _ _ (Builtin.SmallTypes.nextOf ⇑i2 >>=_) _ _ _);erw[bv (Ó (h2.at λo e=>hs₃.extBut _ _ D.TOi2.symm (hs₂.extBut _ _ D.i12.symm (hs₁.extBut _ _ D.i2z e))) (((hl2.extBut hs₁.extBut D.l2z).extBut hs₂.extBut D.l2i1).extBut hs₃.extBut D.l2TO) hy λh₄ h2₄ hs₄=>bS ?_)];have hTO₄:IsPair h₄ TO x b:=hs₄.extBut _ _ D.TOi2 hTO₃;erw[bv (wpAny_seqItems hTO₄ J ?_),<-bv (wpAny_updateSeq_pair hTO₄ λh₅ hTO₅ hs₅=>?_)];replace hTO₅:IsPair h₅ TO x y:=hTO₅;erw[bv (wpAny_letGo (bS (bS ?_))),<-bv (wpAny_seqItems hTO₅ J ?_),<-bv (wpAny_newTuple ?_)];have i:h₅⁻¹=s.heap⁻¹:=by(rw[hs₅.1,hs₄.1,hs₃.1,hs₂.1,hs₁.1])
 have hz₅:IsZip h₅ z TI TO .ellipsis:=(hs₅.extBut _ _ D.TOz.symm (hs₄.extBut _ _ D.i2z.symm (hs₃.extBut _ _ D.TOz.symm (hs₂.extBut _ _ D.i1z.symm hz₁))));have hk₅:∀c o,c≠z->c≠TO->c≠i1->c≠i2->s.heap.get? c=some o->h₅.get? c=some o:=λc o f j l m e=>hs₅.extBut _ _ j (hs₄.extBut _ _ m (hs₃.extBut _ _ j (hs₂.extBut _ _ l (hs₁.extBut _ _ f e))));have h1₅:h₅.IsTupleIter i1 l1 (k1+1):=h1₂.at λo e=>hs₅.extBut _ _ D.TOi1.symm (hs₄.extBut _ _ D.i12 (hs₃.extBut _ _ D.TOi1.symm e));have h2₅:h₅.IsTupleIter i2 l2 (k2+1):=h2₄.at λo e=>hs₅.extBut _ _ D.TOi2.symm e;have d:z<h₅⁻¹:=(cg hz₅)
 (show wpAny _ _ (Builtin.SmallTypes.ownedTupleHandOut ⇑z ⇑h₅⁻¹ >>=_) _ _ _);erw[bv ?_];unfold Builtin.SmallTypes.ownedTupleHandOut
 have hz₆:IsZip (h₅.push { cls:=.type "tuple",data:=.seq (List.toArray [x,y])}) z TI TO .ellipsis:=(bR _ hz₅);erw[bv (wpAny_setField_rec hz₆ (by simp) λh₇ hz₇ hs₇=>?_)];replace hz₇:IsZip h₇ z TI TO (rawInt h₅⁻¹):=hz₇;erw[wpAny_setField_rec hz₇ (by simp) λh₈ hz₈ hs₈=>?_];replace hz₈:IsZip h₈ z TI TO (rawInt h₅⁻¹):=hz₈;have k:∀c o,c≠z->h₅.get? c=some o->h₈.get? c=some o:=(λc o f e=>hs₈.extBut _ _ f (hs₇.extBut _ _ f (bR _ e)));have hT₈:IsPair h₈ h₅⁻¹ x y:=(hs₈.extBut _ _ (Nat.ne_of_gt d) (hs₇.extBut _ _ (Nat.ne_of_gt d) (cb _ J)));have g:h₈⁻¹=h₅⁻¹+1:=by(rw[hs₈.1,hs₇.1,Heap.size_push])
 (rw[i]at hz₈ hT₈ g);erw[bS #[_,J,?_]];show Q ⇑h₅⁻¹ _;rw[i]
 erw[hQ h₈ hz₈ (k _ _ D.TOz hTO₅) (h1₅.at λo e=>k _ o D.i1z e) (h2₅.at λo e=>k _ o D.i2z e) hT₈ g (λc o f j l m e=>k c o f (hk₅ c o f j l m e))]
def yvs{z TI TO:qa}{b:qc}{Q:Fin->qb->Prop}(hh:A.handled=none)(D:ZipApart z TI TO i1 i2 l1 l2)(hz:IsZip s.heap z TI TO .none)(hTI:IsPair s.heap TI ⇑i1 ⇑i2)(hTO:IsPair s.heap TO a b)
  (h1:s.heap.IsTupleIter i1 l1 k1) (h2:s.heap.IsTupleIter i2 l2 k2) (hl1:s.heap.IsTuple l1 xs) (hl2:s.heap.IsTuple l2 ys) (hend:xs[k1]?=none\/ys[k2]?=none)
  (hE:∀h' e,(∀c o,c≠z->c≠TO->c≠i1->c≠i2->s.heap.get? c=some o->h'.get? c=some o)->(∃o,h'.get? e=some o/\o.cls=.type "StopIteration")->E ⇑e {s with heap:=h'}):wpAny (model prog w) A (Builtin.«zip.__next__» #[[.ref z],[]]) Q E s:=by
 (show wpAny _ _ (field ⇑z 2 >>=_) _ _ _);erw[bv (cT hz J (x:=.bool false) J ?_)]
 (show wpAny _ _ (field ⇑z 3 >>=_) _ _ _);erw[bv (cT hz J (x:=.ref TI) J ?_),<-bv (wpAny_seqItems hTI J ?_)]
 (show wpAny _ _ (Builtin.SmallTypes.ownedTupleIsFree ⇑z >>=_) _ _ _);erw[bv ?_];unfold Builtin.SmallTypes.ownedTupleIsFree
 erw[bv (cT hz J (x:=.none) J (bS ?_))];simp only[if_true];erw[bv (wpAny_rule ?_),<-bv (cT hz J (x:=.ref TO) J ?_),<-bv (wpAny_setField_rec hz (by simp) λh₁ hz₁ hs₁=>?_)]
 replace hz₁:IsZip h₁ z TI TO .ellipsis:=hz₁;erw[bv ?_];simp only[List.zipIdx_cons,List.zipIdx_nil,List.forIn_cons,List.forIn_nil]
 erw[bv (bv (wpAny_onRaise ?_))];(show wpAny _ _ (Builtin.SmallTypes.nextOf ⇑i1 >>=_) _ _ _)
 cases hx:xs[k1]? with
 |none =>
  erw[bv (Ĩ hh (h1.at λo e=>hs₁.extBut _ _ D.i1z e) (hl1.extBut hs₁.extBut D.l1z) hx λh₂ e hs₂ j=>?_)];let#[l,d,f]:=j;have hz₂:IsZip h₂ z TI TO .ellipsis:=hs₂ _ _ D.i1z.symm hz₁;have g:e≠z:=(λx=>by(subst x;rw[hz₂]at d;cases d;simp at f));erw[wpAny_setField_rec hz₂ (by simp) λh₃ Z hs₃=>hE h₃ e (λc o i Z k Z x=>hs₃.extBut _ _ i (hs₂ _ _ k (hs₁.extBut _ _ i x))) #[l,hs₃.extBut _ _ g d,f]]
 |some x =>
  have n:ys[k2]?=none:=by(rcases hend with h|h;(rw[hx]at h;cases h);erw[h])
  erw[bv (Ó (h1.at λo e=>hs₁.extBut _ _ D.i1z e) (hl1.extBut hs₁.extBut D.l1z) hx λh₂ h1₂ hs₂=>bS ?_)];have hTO₂:IsPair h₂ TO a b:=(hs₂.extBut _ _ D.TOi1 (hs₁.extBut _ _ D.TOz hTO));erw[bv (wpAny_seqItems hTO₂ J ?_),<-bv (wpAny_updateSeq_pair hTO₂ λh₃ hTO₃ hs₃=>?_),<-bv (wpAny_letGo (bS ?_)),<-bv (bv (wpAny_onRaise ?_))];(show wpAny _ _ (Builtin.SmallTypes.nextOf ⇑i2 >>=_) _ _ _);erw[bv (Ĩ hh (h2.at λo e=>hs₃.extBut _ _ D.TOi2.symm (hs₂.extBut _ _ D.i12.symm (hs₁.extBut _ _ D.i2z e))) (((hl2.extBut hs₁.extBut D.l2z).extBut hs₂.extBut D.l2i1).extBut hs₃.extBut D.l2TO) n λh₄ e hs₄ j=>?_)];let#[l,d,f]:=j;have hz₄:IsZip h₄ z TI TO .ellipsis:=hs₄ _ _ D.i2z.symm (hs₃.extBut _ _ D.TOz.symm (hs₂.extBut _ _ D.i1z.symm hz₁));have g:e≠z:=(λx=>by(subst x;rw[hz₄]at d;cases d;simp at f));erw[wpAny_setField_rec hz₄ (by simp) λh₅ Z hs₅=>hE h₅ e (λc o i m k p x=>hs₅.extBut _ _ i (hs₄ _ _ p (hs₃.extBut _ _ m (hs₂.extBut _ _ k (hs₁.extBut _ _ i x))))) #[l,hs₅.extBut _ _ g d,f]]
def yo7{z TI TO:qa}{x y b:qc}{Q:ql qc->qb->Prop}(D:ZipApart z TI TO i1 i2 l1 l2)(hz:IsZip s.heap z TI TO .none)(hTI:IsPair s.heap TI ⇑i1 ⇑i2)(hTO:IsPair s.heap TO a b)
  (h1:s.heap.IsTupleIter i1 l1 k1) (h2:s.heap.IsTupleIter i2 l2 k2) (hl1:s.heap.IsTuple l1 xs) (hl2:s.heap.IsTuple l2 ys) (hx:xs[k1]?=some x) (hy:ys[k2]?=some y)
  (hQ:∀h',IsZip h' z TI TO (rawInt s.heap⁻¹)->IsPair h' TO x y->h'.IsTupleIter i1 l1 (k1+1)->h'.IsTupleIter i2 l2 (k2+1)->IsPair h' s.heap⁻¹ x y->h'⁻¹=s.heap⁻¹+1->(∀c o,c≠z->c≠TO->c≠i1->c≠i2->s.heap.get? c=some o->h'.get? c=some o)->Q (some ⇑s.heap⁻¹) {s with heap:=h'}):
  wpAny (model prog w) A (pyNext ⇑z) Q E s:=by
 have d:s.TypeIs ⇑z "zip":=(#[_,hz,J]);unfold pyNext;erw[bv (wpAny_attempt (wpAny_callSpecial?_slot (name:=Str.ofString "__next__") d F.slot_zip_next (wpAny_call_entry F.slot_zip_next d F.entry_zip_next
   (yo6 D hz hTI hTO h1 h2 hl1 hl2 hx hy λh' f g i e j k h=>bS (hQ h' f g i e j k h)) (F.args_zip_next_1 _))))]
def ynp{z TI TO:qa}{b:qc}{Q:ql qc->qb->Prop}(hh:A.handled=none)(D:ZipApart z TI TO i1 i2 l1 l2)(hz:IsZip s.heap z TI TO .none)(hTI:IsPair s.heap TI ⇑i1 ⇑i2)(hTO:IsPair s.heap TO a b)
  (h1:s.heap.IsTupleIter i1 l1 k1) (h2:s.heap.IsTupleIter i2 l2 k2) (hl1:s.heap.IsTuple l1 xs) (hl2:s.heap.IsTuple l2 ys) (hend:xs[k1]?=none\/ys[k2]?=none)
  (hQ:∀h',(∀c o,c≠z->c≠TO->c≠i1->c≠i2->s.heap.get? c=some o->h'.get? c=some o)->Q none {s with heap:=h'}):wpAny (model prog w) A (pyNext ⇑z) Q E s:=by
 have d:s.TypeIs ⇑z "zip":=(#[_,hz,J]);unfold pyNext;erw[bv (wpAny_attempt (wpAny_callSpecial?_slot (name:=Str.ofString "__next__") d F.slot_zip_next (wpAny_call_entry F.slot_zip_next d F.entry_zip_next
  (yvs hh D hz hTI hTO h1 h2 hl1 hl2 hend λh' e f h=>?_) (F.args_zip_next_1 _))))]
 let#[o,g,i]:=h;erw[bv (wpAny_isInstance (T:="StopIteration") (b:=true) #[o,g,i] isSubtype_stop ?_),<-bS (hQ _ f)]
end
end
mutual
noncomputable abbrev zT1(h:qg)(l1:qa):qg:=h.push { cls:=.type "tuple_iterator",data:=.fields (List.toArray [.ref l1,.int 0 0])}
abbrev zT2(h:qg)(l1 l2:qa):qg:=(zT1 h l1).push { cls:=.type "tuple_iterator",data:=.fields (List.toArray [.ref l2,.int 0 0])}
abbrev zT3(h:qg)(l1 l2:qa):qg:=(zT2 h l1 l2).push { cls:=.type "tuple",data:=.seq (List.toArray [.ref h⁻¹,.ref (zT1 h l1)⁻¹])}
abbrev zT4(h:qg)(l1 l2:qa):qg:=(zT3 h l1 l2).push { cls:=.type "tuple",data:=.seq (List.toArray [.none,.none])}
abbrev zT5(h:qg)(l1 l2:qa):qg:=(zT4 h l1 l2).push { cls:=.type "zip",data:=.fields (List.toArray [.none,.bool false,.bool false,.ref (zT2 h l1 l2)⁻¹,.ref (zT3 h l1 l2)⁻¹])}
def yt9(l1 l2:qa)(xs ys:Array qc):Meets (Builtin.«zip.__new__» #[[.type "zip",.ref l1,.ref l2],[]]) (λZ R s=>s.heap.IsTuple l1 xs/\s.heap.IsTuple l2 ys/\R (.ok (.ret (.ref (zT4 s.heap l1 l2)⁻¹))) {s with heap:=zT5 s.heap l1 l2}) :=
 .of_wp λl w A R s h=>by
  let#[f,g,d,i,j]:=s;let#[b,a,h]:=h;let k:=sub_zip;have c:Heap.IsTuple (Shared.heap #[f,g,d,i,j]) l1 xs:=b;have e:Heap.IsTuple (Shared.heap #[f.push { cls:=.type "tuple_iterator",data:=.fields (List.toArray [.ref l1,.int 0 0])},g,d,i,j]) l2 ys:=Heap.IsTuple.push a _
  wp_walk using wpAny_pyIter_tuple c,wpAny_pyIter_tuple e
  exists _,J,h
end
section
variable{prog:qi}{w:qe}{A:qf}{E:Δ}{s:qb}
def ypn{Q:Δ}(hl1:s.heap.IsTuple l1 xs)(hl2:s.heap.IsTuple l2 ys)
  (h:∀h',IsZip h' (s.heap⁻¹+4) (s.heap⁻¹+2) (s.heap⁻¹+3) .none->IsPair h' (s.heap⁻¹+2) ⇑s.heap⁻¹ ⇑(s.heap⁻¹+1)->IsPair h' (s.heap⁻¹+3) .none .none->h'.IsTupleIter s.heap⁻¹ l1 0->h'.IsTupleIter (s.heap⁻¹+1) l2 0 ->
   (∀c o,s.heap.get? c=some o->h'.get? c=some o)->Q ⇑(s.heap⁻¹+4) {s with heap:=h'}):wpAny (model prog w) A (call (.type "zip") [.ref l1,.ref l2]) Q E s:=by
 erw[callType_new F.called_zip ∅ (F.typeCall_zip_2 _ _) (F.newCall_zip_2 _ _) (λd=>F.args_object_init_3 d _ _) F.entry_zip_new (yt9 l1 l2 xs ys) #[hl1,hl2,?_]];have b:(zT1 s.heap l1)⁻¹=s.heap⁻¹+1:=Heap.size_push ..;have a:(zT2 s.heap l1 l2)⁻¹=s.heap⁻¹+2:=by rw[Heap.size_push,b]
 have e:(zT3 s.heap l1 l2)⁻¹=s.heap⁻¹+3:=by rw[Heap.size_push,a]
 have f:(zT4 s.heap l1 l2)⁻¹=s.heap⁻¹+4:=by rw[Heap.size_push,e]
 have g5:(zT5 s.heap l1 l2).get? (zT4 s.heap l1 l2)⁻¹=some _:=cb _ J;have g4:(zT5 s.heap l1 l2).get? (zT3 s.heap l1 l2)⁻¹=some _:=bR _ (cb _ J);have g3:(zT5 s.heap l1 l2).get? (zT2 s.heap l1 l2)⁻¹=some _:=bR _ (bR _ (cb _ J));have g2:(zT5 s.heap l1 l2).get? (zT1 s.heap l1)⁻¹=some _:=bR _ (bR _ (bR _ (cb _ J)));have g1:(zT5 s.heap l1 l2).get? s.heap⁻¹=some _:=(bR _ (bR _ (bR _ (bR _ (cb _ J)))));show _/\_;rw[a,e,f]at g5;rw[b,a]at g3;rw[e]at g4;rw[b]at g2;rwa[f,#[#[_,g5,J],h _ g5 g3 g4 #[_,g1,J,J] #[_,g2,J,J] λc o x=>(bR _ (bR _ (bR _ (bR _ (bR _ x)))))]]
end
mutual
abbrev vhs(K:xy)(a b:qa):It:=vkb (SqT K) a b
abbrev vko:=vhv Heap.IsTupleIter
def Zap.apartT{X:Cx}{H:Hp}{s:qb}{z TI TO:qa}{i:Nat}{xs ys:Ξ}{us vs:Τ}(d:Zap z TI TO i1 i2)(st:vko z TI TO i1 i2 l1 l2 i s.heap)(p:s.heap.IsTuple l1 xs.toArray)(q:s.heap.IsTuple l2 ys.toArray)(hn:H TO=none)(hK:X.K.lookup TO=none)
  (hq:SqT X.K H l1 us) (hq':SqT X.K H l2 vs):ZipApart z TI TO i1 i2 l1 l2:=by
 let#[n,v,#[a,b,w],#[B,m,u,_],#[y,t,k,_]]:=st;let#[A,j,f,_]:=p;let#[x,e,g,_]:=q
 have c:∀{l:qa}{r:Τ},SqT X.K H l r->l≠TO:=λ{l r}h=>by
  rintro rfl;rcases h with(h|⟨o,h⟩)|⟨_,_,_,h,_⟩
  .rw[hn]at h;cases h
  .rw[hn]at h;cases h
  .rw[hK]at h;cases h
 erw[d.a1,d.a2,d.a3,d.a4,d.a5,d.a6,d.a7,d.a8,d.a9,d.b1,
  ji j n (by rwa[f,nT ∅]),c hq,ji j m (by rw[f,u];decide),ji j t (by rw[f,k];decide),
  ji e n (by rwa[g,nT ∅]),c hq',ji e m (by rw[g,u];decide),ji e t (by rw[g,k];decide)]
def yin{w:qe}{K:xy}{x1}(l1 l2 z TI TO i1 i2:qa)(d:Zap z TI TO i1 i2)(hKT:K.lookup TO=none):
  ygz P w K (.Tuple elts x1 tpos) (vhs K l1 l2) [z,TI,TO,i1,i2] z (vko z TI TO i1 i2 l1 l2):=ycc #[λ⟨o,e,_,d⟩=>#[o,e,_,d],λh f=>h.at f,λ{X j σ H s l xs ys}B I h g=>by subst B;erw[I.tuple_inj h g],λ{X j σ H s E i xs ys x y}B I O F v c S Y=>by
  subst B;let#[b,M,p,ς]:=I.tuple v;let#[a,r,G,C]:=I.tuple c;let#[u,hu,ru]:=M.get S;let#[U,L,R]:=r.get Y;let D:=d.apartT (xs:=b) (ys:=a) F p G O hKT v c;let#[N,n,#[Z,T,t],m,q]:=F
  erw[u,U,ru,R,D,λQ k=>yo7 (xs:=b.toArray) (ys:=a.toArray) D N n t m q p G (by simpa using hu) (by simpa using L) k],λ{X j σ H s E i xs ys}B hc I O F v c S Q k=>by
  subst B;let#[b,M,p,ς]:=I.tuple v;let#[a,r,G,C]:=I.tuple c;let D:=d.apartT (xs:=b) (ys:=a) F p G O hKT v c;let#[N,n,#[Z,T,t],m,q]:=F;let hl:=↑M;let a0:=↑r;erw[ynp (xs:=b.toArray) (ys:=a.toArray) (show X.A.handled=none from I.ok.hd hc) D N n t m q p G (by simp;omega) k]]
end
section
mutual
variable{X:Cx}
def vgj(K:xy)(ta:TA):TI:=λσ H R=>ta σ H λvs H1=>∃a b,vs=[.ref a,.ref b]/\(∃xs ys,SqT K H1 a xs/\SqT K H1 b ys)/\R (vhs K a b) H1
def yxo{x1}{l m:qh}{ta:TA}{p pos:Pos}(hg:Gl X "zip")(hm:X.mg "zip"=none)(ha:PA X [l,m] ta)(hs:¬¬(starEach [l,m] X.env=[(false,eval l X.env),(false,eval m X.env)]))(hs2:¬¬(starEach [m] X.env=[(false,eval m X.env)])):
  PI X (.Tuple elts x1 tpos) (.Call (.Name "zip" p) [l,m] [] pos) (vgj X.K ta):=by
 intro i s σ H R I h;erw[Call_ (Ļ I hg hm (show bootBuiltins "zip"=some (.type "zip") by decide+kernel) (PyProof.Rows.callWith_type1 (thn (ha pos i s σ H _ I h) λP c h'=>?_) (by rw[hs,hs2]) (by rw[hs2];rfl)))];let#[M,F,d,z,C]:=h';let#[a,b,e,#[O,Q,B,v],q]:=C;subst e
 cases z with
 |cons r rr =>
  cases rr with
  |cons r' rr =>
   cases rr;cases r;cases r';let#[k,N,G,n]:=d.tuple B;let#[g,E,w,ς]:=d.tuple v;erw[ypn (show c.heap.IsTuple a k.toArray from G) (show c.heap.IsTuple b g.toArray from w) λL n j t D y A=>?_,<-wpAny_pyIter_zip n ?_]
   have x:X.K.lookup (c.heap⁻¹+3)=none:=by
    cases hl:X.K.lookup (c.heap⁻¹+3)with
    |none=>rfl
    |some o=>erw[absurd (cg (d.kIn _ o hl)) (Nat.not_lt.mpr (Nat.le_add_right _ _))]
   have u:Zap (c.heap⁻¹+4) (c.heap⁻¹+2) (c.heap⁻¹+3) c.heap⁻¹ (c.heap⁻¹+1):=yqn _;erw[c.heap⁻¹+4,[c.heap⁻¹+4,c.heap⁻¹+2,c.heap⁻¹+3,c.heap⁻¹,c.heap⁻¹+1],_,_,F,J,d.kept (t':=c.toks) A,yin a b _ _ _ _ _ u x,#[n,j,#[_,_,t],D,y],λb f=>?_,q]
   have f:c.heap⁻¹<=b:=by
    simp only[bZ,List.not_mem_nil,or_false]at f;rcases f with rfl|rfl|rfl|rfl|rfl<;>omega
   erw[d.fpOk f (d.hok.fresh f)]
def yxd{K:xy}{ta:TA}{σ:St}{H:Hp}{R:It->Hp->Prop}(h:ta σ H λvs H1=>∃a b,vs=[.ref a,.ref b]/\(∃xs ys,SqT K H1 a xs/\SqT K H1 b ys)/\R (vhs K a b) H1):vgj K ta σ H R:=h
end
end
def yds{K:xy}{a b D:qa}{xs ys:Τ}{g:TG}{te:TE}{n m:Nat}{fr:St}{R:Hp->Prop}{H1:Hp}(f:Nat->V)(hq:SqT K H1 a xs)(hq':SqT K H1 b ys)(h1:m<=↑xs)(h2:m<=↑ys)(h3:↑xs<=m\/↑ys<=m)(hD:H1 D=none)
  (hs:∀i x y H t pre,i<m->xs[i]?=some x->ys[i]?=some y->y7 H1 H->H D\((List.range i).map f)->H t=none->List.length pre=n->g ⇑t (pre++fr) (upd H t (.tup [x,y])) λσ' H'=>(∃pre',List.length pre'=n/\σ'=pre'++fr)/\te σ' H' (MpK H1 D f m i))
  (hd:∀H,y7 H1 H->H D\((List.range m).map f)->R H):θ (vhs K a b) g te n fr D R H1:=by
 erw[cW m (Mp H1 D f),#[m,(by simp),cK _,Mp.zero hD],?_];rintro i j H ⟨rfl,r,p⟩;let q:=p.1.tup hq;let c:=p.1.tup hq';by_cases hlt:i<m
 .erw[.inr #[#[xs,ys,xs[i]'(),ys[i]'(),q,c,bP _,bP _],λy H' pre h d=>?_]];let#[t,x,y,J,l,J,o,k]:=h;erw[hs i x y H t pre hlt (o xs q) (k ys c) p.1 p.2 l d]
 .have e:i=m:=()
  subst e;erw[.inl #[#[xs,ys,q,c,h3],hd H p.1 p.2]]
end L2
namespace L2
open HT
section
variable{prog:qi}{w:qe}{A:qf}{E:Δ}{s:qb}
def yd3{t sl:qa}{items:Array qc}{vl vu:qc}{lo hi:ql Int}{Q:Δ}(ht:IsTup s.heap t items)(hs:s.heap.IsSliceOf sl vl vu .none)(pl:IsPart vl lo)(pu:IsPart vu hi)
  (hw:sIx items.size 0 lo=0/\sIx items.size items.size hi=items.size) (h:Q ⇑t s):wpAny (model prog w) A (getItem ⇑t ⇑sl) Q E s:=by
 let#[e,c,d,f]:=id hs;have b:s.TypeIs ⇑sl "slice":=#[e,c,d];unfold getItem
 try with_reducible refine wpAny_holding ?_
 first|erw[bv (bS ?_)]|skip
 erw[bv (wpAny_sequenceKey ht.typeIs ∅ ?_),<-bv (wpAny_callSpecial?_slot (name:=Str.ofString "__getitem__") ht.typeIs PyProof.Rows.slot_tuple_getitem
  (wpAny_call_entry PyProof.Rows.slot_tuple_getitem ht.typeIs entry_tuple_getitem ?_ (args_tuple_getitem _ _)))]
 show wpAny _ _ (Builtin.Tuple.tupleItemsOf ⇑t >>=_) _ _ s;erw[bv (tupleItemsOf_ ht ?_),<-bv (wpAny_typeOf b ?_)];rwa[if_pos ∅,bv (j8 hs pl pu ?_)]
 have a:(((sIx items.size 0 lo:Nat):Int) == 0 && (1:Int) == 1 && (sIx items.size items.size hi-sIx items.size 0 lo) == items.size)=true:=by
  rw[hw.1,hw.2];simp
 show wpAny _ _ (if (((sIx items.size 0 lo:Nat):Int) == 0 && (1:Int) == 1 && (sIx items.size items.size hi-sIx items.size 0 lo) == items.size)=true then _ else _) _ _ s;rwa[if_pos a,bv (m:=Builtin.Tuple.tupleIsExact _) ?_];unfold Builtin.Tuple.tupleIsExact;erw[bv (wpAny_typeOf ht.typeIs (bS ?_))];show wpAny _ _ (if (Value.type "tuple" == Value.type "tuple")=true then _ else _) _ _ s;rw[if_pos ∅]
 first
  |erw[bv (wpAny_rule (bS #[_,J,bS h]))]
  |erw[bv (wpAny_rule (bv (bS (bS #[_,J,bS h]))))]
  |erw[bv (bv (wpAny_rule (bS (bS #[_,J,bS h]))))]
end
section
variable{X:Cx}
def vfu(K:xy):V->ql Int->ql Int->Hp->VK->Prop:=λx lo hi H Q=>∃a xs,x=.ref a/\SqT K H a xs/\(HT.sIx ↑xs 0 lo=0/\HT.sIx ↑xs ↑xs hi=↑xs)/\Q ⇑a H
def yxg:SlR X (vfu X.K):=by
 intro d s σ H x v p o lo t n Q I k l g i h;let#[a,j,J,m,f,q]:=h;cases k;let#[c,r,e,u]:=I.tuple m;have b:c.toArray.size=↑j:=by rwa[cu,r.length.symm]
 erw["tuple",_,PyProof.Rows.slot_tuple_getitem.lookup,e.typeIs,yd3 e l g i (by rwa[b,f]) #[.ref a,H,I,J,q]]
end
end L2
namespace L2
mutual
variable{C D:qa}{pins:Θ}{hpos:Pos}{st:qd}{qual:Str}
def yez{X:Cx}{K:xy}{e:qh}{f:Str}{pos:Pos}{ta:TE}(hK:X.K=K)(he:PE X e ta)(hb:attributeBase e f X.env (eval e X.env)=eval e X.env):PE X (.Attribute e f pos) (vhw K ta f):=hK ▸ z0 he hb
structure ym5(K:xy)(x qual:Str)(st:qd)(D:qa)(f:qa)(fd:FuncData):Prop where
 ex:∃(oc:qc)(od:ql qa)(kV doc pm:qc)(an:ql qa)(cdv ct:qc)(osl:Array (ql qc)),
  fd=W.fnOf x qual (xt st) (xi st) (yd st) ⇑D kV doc pm an cdv ct/\K.lookup f=some #[oc,od,.func fd,osl]/\W.codeIn K cdv qual=true
 kp:W.keepIn K ⇑f=true
end
section
mutual
variable{P:qi}{w:qe}{K:xy}{mg:Ε}{base:qg}
def ym5.ok{x:Str}{f:qa}{fd:FuncData}{N ps:Ρ}{k:Nat}{sp:Sp}(F:ym5 K x qual st D f fd)(S:yi N ps (yd st))(len:∀vs H Q E,sp vs H Q E->↑vs=↑ps)
  (hbody:∀(cdv:qc)(A:qf)(outer:qj Env)(s:qb)(H:Hp)(vs:Τ)(Q:VK)(E:XK),jx k (A.deeper (envOfC qual (yd st) s.heap⁻¹ f cdv))->sp vs H Q E ->
   ∃t,PSs (vt CX0 P w K mg base N qual (yd st) f cdv A outer s H E).nox (xi st) t/\t { nx:=λZ H'=>Q .non H',rt:=Q} (Ā N vs) H):vq P w K mg base CX0 (k+1) f fd ps sp:=by let#[m,l,kV,e,j,i,cdv,n,g,J,c,b]:=F.ex;erw[ypq c b S len λA outer s H vs Q E d a=>?_];let#[t,h,q]:=hbody cdv A outer s H vs Q E d a;erw[t,h.nox,q]
def ym5.okE{x:Str}{f:qa}{fd:FuncData}{N ps:Ρ}{k:Nat}{sp:Sp}(F:ym5 K x qual st D f fd)(S:yi N ps (yd st))(len:∀vs H Q E,sp vs H Q E->↑vs=↑ps)
  (hbody:∀(cdv:qc)(A:qf)(outer:qj Env)(s:qb)(H:Hp)(vs:Τ)(Q:VK)(E:XK),jx k (A.deeper (envOfC qual (yd st) s.heap⁻¹ f cdv))->sp vs H Q E ->
   ∃t,PSs (vt (CXe P w) P w K mg base N qual (yd st) f cdv A outer s H E) (xi st) t/\t { nx:=λZ H'=>Q .non H',rt:=Q} (Ā N vs) H):vq P w K mg base (CXe P w) (k+1) f fd ps sp:=by let#[l,j,kV,e,i,h,cdv,m,g,J,c,b]:=F.ex;erw[ypq c b S len λA outer s H vs Q E d a=>hbody cdv A outer s H vs Q E d a]
def vj5:Nat->(qj qc->Prop)->Prop
 |0,C=>C []
 |n+1,C=>∀a,vj5 n λt=>C (a::t)
def yu6:∀{n:Nat}{C:qj qc->Prop}{us:Ξ},vj5 n C->↑us=n->C us:=by
 intro n C us
 induction us generalizing n C with
 |nil=>intro h e;subst e;erw[h]
 |cons a t ih=>intro h e;subst e;erw[ih (h a) J]
def bindsR{x:Str}{ps:Ρ}{ds:Ξ}{c:qc}{od an:ql qa}{sl:Array (ql qc)}{its:Array qc}{n j:Nat}{kV doc pm cdv ct:qc}(hj:j+↑ds=↑ps)
  (h:∀(kV doc pm:qc)(an:ql qa)(cdv ct:qc),vj5 j λus =>
   ∃k:ql (Array qc)->Sem (qj (Str×qc)),bindArgs (W.fnOf x qual (xt st) (xi st) (yd st) ⇑D kV doc pm an cdv ct) #[us,[]]=(seqItems? ⇑D >>=k)/\k (some its)=pure (ps.zip (us++ds))) (hD:K.lookup D=some #[c,od,.seq its n,sl]):u4 K (W.fnOf x qual (xt st) (xi st) (yd st) ⇑D kV doc pm an cdv ct) ps ds:=by intro s us a b;let#[k,e,d]:=yu6 (us:=us) (h kV doc pm an cdv ct) (by rw[bQ]at b;omega);erw[BindsTo.of_defaults J (a _ _ hD) J e d]
def funD_mk{x:Str}{f:qa}{oc:qc}{od an:ql qa}{osl:Array (ql qc)}{kV doc pm cdv ct:qc}(l:K.lookup f=some #[oc,od,.func (W.fnOf x qual (xt st) (xi st) (yd st) ⇑D kV doc pm an cdv ct),osl])
  (c:W.codeIn K cdv qual=true) (k:W.keepIn K ⇑f=true):ym5 K x qual st D f (W.fnOf x qual (xt st) (xi st) (yd st) ⇑D kV doc pm an cdv ct):=#[#[oc,od,kV,doc,pm,an,cdv,ct,osl,J,l,c],k]
end
end
mutual
def yh1{K:xy}{a:qa}{xs:Τ}{g:TG}{te:TE}{n:Nat}{fr:St}{R:Hp->Prop}{H1:Hp}(Pv:Nat->Hp->Prop)(h0:Pv 0 (upd H1 D (.lst [])))(hl:∀i H,i<=↑xs->Pv i H->SqL K H a xs)
  (hs:∀i x H pre,xs[i]?=some x->i<↑xs->Pv i H->List.length pre=n->g x (pre++fr) H λσ' H'=>(∃pre',List.length pre'=n/\σ'=pre'++fr)/\te σ' H' λy H4=>∃ys,H4 D\ys/\↑ys<sizeLine/\∃m',m'<↑xs-i/\cW ↑xs Pv (i+1) m' (upd H4 D (.lst (ys++[y]))))
  (hd:∀H,Pv ↑xs H->R H):θ (Itl K a) g te n fr D R H1:=by
 erw[cW ↑xs Pv,#[xs.length,(by simp),cK _,h0],?_];rintro i m H ⟨rfl,c,p⟩;let q:=hl i H c p;by_cases hlt:i<↑xs
 .erw[.inr #[#[xs,xs[i],q,by simp[hlt]],λx H' pre y b=>?_]];let#[e,y]:=y;subst e;erw[hs i x _ pre (y xs q) hlt p b]
 .have e:i=↑xs:=()
  subst e;erw[.inl #[#[xs,q,bT _],hd H p]]
def yk5(K:xy):qj V->Hp->VK->Prop:=λxs H Q=>∃p ys,xs=[.ref p]/\(SqL K H p ys\/SqT K H p ys)/\∀l,H l=none->Q ⇑l (upd H l (.lst ys))
def yon{pre:qj (Χ)}(h:List.length pre=3):∃v1 v2 v3,pre=[v1,v2,v3]:=by let#[v1,t,J,a]:=ω h;let#[v2,t,J,b]:=ω a;let#[v3,t,J,c]:=ω b;erw[v1,v2,v3,by rw[List.length_eq_zero_iff.mp c]]
end
section
mutual
variable{X:Cx}{body suite:qj qd}{b₀:qd}{tx n:Str}{np pos:Pos}{i:Nat}{tb:(St->XK)->TS}{ts:TS}
abbrev THs:=ď->St->qa->qa->ql qa->Hp->Prop
def PHs(X:Cx)(hs:qj ExceptHandler)(th:THs):Prop:=∀(pins:Θ)(s:qb)(σ:St)(H:Hp)(x T Ca:qa)(d:ql qa)(En:ď),(Inv X pins σ H) s->Fy X pins H x->Fy X pins H T->Trd s.heap x T ⇑Ca d->th En σ Ca x d H ->
 wpAny (model X.prog X.w) X.A (handleBy ⇑x X.env hs) (SP X pins En) X.xe s
def viu:THs:=λZ Z Z Z Z Z=>False
def thC(K:xy)(D:qa)(ts:TS)(tr:THs):THs:=λEn σ Ca x d H=>(W.exmOne K ⇑Ca ⇑D=some true/\ts En σ H)\/(W.exmOne K ⇑Ca ⇑D=some false/\tr En σ Ca x d H)
def vcs{hs:qj ExceptHandler}:PHs X hs viu:=λZ Z Z Z Z Z Z Z Z Z Z Z Z h=>h.elim
def yxn{xj:qj ExceptHandler}{tr:THs}(hg:Gl X tx)(hm:X.mg tx∣D)(hs:∀pn x,PSs (X.su pn x) (b₀::suite) ts)(hr:PHs X xj tr)(hdb: ~~~((tx == ("__debug__":Str))=false)):
  PHs X (.ExceptHandler (some (.Name tx np)) none (b₀::suite) hpos::xj) (thC X.K D ts tr):=by
 intro c s σ H x T n d m ς o l a q;erw[wpAny_handleBy_cons (codeAny_handlers_test (jm (ς.su x) hg hm ?_ hdb)) (by intro z;cases z)]
 have j:Œ x n s.heap:=by
  let#[t,_,_,_,_,p,y,_]:=id a;erw[t,p,y.1]
 rcases q with⟨i,q⟩|⟨i,q⟩
 .erw[W.exm_one (M:=model X.prog X.w) (h:=s.heap) ς.kIn j.type i _ _ _ _ (λZ Z z=>z) ?_];dsimp only[if_true];erw[codeAny_handlers_suite ?_];let k:=ς.ok;erw[ur ς o l a λB C ς l a=>?_];refine c7 (hs (X.pn++c) x [] _ _ _ m (ς.su x) q) (λf A q=>?_) λZ Z z=>False.elim z
  cases f with
  |next=>let⟨σ6,e,g,q⟩:=q;erw[σ6,e,g.unsu k,q]
  |brk=>let⟨σ6,e,g,q⟩:=q;erw[σ6,e,g.unsu k,q]
  |cont=>let⟨σ6,e,g,q⟩:=q;erw[σ6,e,g.unsu k,q]
  |ret u=>let⟨v,σ6,e,g,r,q⟩:=q;erw[v,σ6,e,g.unsu k,r,q]
 .erw[W.exm_one (M:=model X.prog X.w) (h:=s.heap) ς.kIn j.type i _ _ _ _ (λZ Z z=>z) ?_];erw[hr c _ σ H x T n d m ς o l a q]
def exm_mkB{K:xy}{b:Bool}(h0:W.subIn K ⇑D (.type "BaseException")=some true)(h1:W.hasDictIn K D=true)(h2:W.typeIn K ⇑D=some (.type "type"))
  (h3:W.subIn K ⇑C ⇑D=some b):W.exmOne K ⇑C ⇑D=some b:=by let#[a,h,_]:=W.any_some h1;unfold W.exmOne W.kitCls;rw[h0];dsimp only;rw[h,h2,h3];cases b<;>rfl
def exH(th:THs)(En:ď):St->XK:=λσ' C d H'=>∀x,H' x=none->∃Ca,C=.ref Ca/\th En σ' Ca x d H'
def vgz(tb:(St->XK)->TS)(th:THs):TS:=λEn σ H=>tb (exH th En) En σ H
def yk3{h₀:ExceptHandler}{hs:qj ExceptHandler}{th:THs}(hb:∀pn Ex,PSs (X.tr pn Ex) body (tb Ex))(hst:X.stack=X.env::X.outer/\X.env.frame=some X.env.locals)(hh:PHs X (h₀::hs) th):
  PS X (.Try body (h₀::hs) [] [] pos) (vgz tb th):=by
 erw[.mk λa s σ H i I h=>?_]
 have l:∀{f k},SP (X.tr (X.pn++a) (exH th i)) [] i f k->SP X a i f k:=λ{f k}q=>by
  cases f with
  |next=>let⟨σ',c,ς,q⟩:=q;erw[σ',c,ς.unwish.unpnd,q]
  |brk=>let⟨σ',c,ς,q⟩:=q;erw[σ',c,ς.unwish.unpnd,q]
  |cont=>let⟨σ',c,ς,q⟩:=q;erw[σ',c,ς.unwish.unpnd,q]
  |ret u=>let⟨v,σ',c,ς,r,q⟩:=q;erw[v,σ',c,ς.unwish.unpnd,r,q]
 erw[wpAny_Try_except (c7 (hb (X.pn++a) (exH th i) [] s σ H i (I.pnd.wish _) h) (λf m q=>?_) λe m q=>?_)]
 .let q:=l q
  cases f with
  |next=>erw[wpAny_execs_nil q]
  |brk=>erw[q]
  |cont=>erw[q]
  |ret u=>erw[q]
 .let#[w,σ',c,x,T,C,d,J,ς,g,b,tr,q]:=q;have ς:Inv X a σ' c m:=ς.unpnd;have g:Fy X a c x:=#[g.1,g.2.1,g.2.2.1,g.2.2.2.1,g.2.2.2.2.1,λp j=>g.2.2.2.2.2 p (cZ _ j)];have b:Fy X a c T:=#[b.1,b.2.1,b.2.2.1,b.2.2.2.1,b.2.2.2.2.1,λp j=>b.2.2.2.2.2 p (cZ _ j)];let#[o,J,t]:=q x g.1;erw[yba ς.ok.frames hst.1 hst.2 ς g b tr λz T2 ς b tr=>ur ς g b tr λy n ς b tr=>?_,<-hh a _ σ' c x n o d i ς g b tr t]
end
end
section
variable{σ:St}{H:Hp}{nx:Ζ}{rt:VK}{bk ct:Ζ}{ts:TS}
def ys3{th:THs}{tb:(St->XK)->TS}(h:tb (exH th #[nx,rt,bk,ct]) #[nx,rt,bk,ct] σ H):vgz tb th #[nx,rt,bk,ct] σ H:=h
def vjb{d:ql qa}{K:xy}{Ca:qa}{tr:THs}{En:ď}(hex:W.exmOne K ⇑Ca ⇑D=some true)(h:ts En σ H):exH (thC K D ts tr) En σ ⇑Ca d H:=λZ Z=>#[Ca,J,.inl #[hex,h]]
end
section
variable{X:Cx}{σ:St}{H:Hp}{s:qb}{x T:qa}{C:qc}{M:Model}{A:qf}{E:Δ}
def yk9{what:String}{α:Type}{env:Env}{d:ql qa}{Q:α->qb->Prop}(ς:(Inv X pins σ H) s)(hx:Fy X pins H x)(hT:Fy X pins H T)(tr:Trd s.heap x T C d)
  (k:∀s' T',(Inv X pins σ H) s'->Fy X pins H T'->Trd s'.heap x T' C d->E ⇑x s'):wpAny M A (passOn what ⇑x env:Sem α) Q E s:=by let#[n,h,o,p,j,e,q,g,c,r,i,l,m]:=id tr;unfold PySem.passOn;erw[bv (cT e g c ?_)];rwa[if_neg (show ¬((Value.ref T == Value.none)=true) by simp),bv (ur ς hx hT tr λs' T' b a f=>wpAny_throw (k s' T' b a f))]
end
section
variable{M:Model}{h:qg}{K:xy}
def yfx{β:Type}{g:qc->β->Sem (ForInStep β)}{b0 b1:β}{f:qc->Bool}{cs:Ξ}(hg:∀c∈cs,W.Looks M h (g c b0) (if f c then .done b1 else .yield b0)):W.Looks M h (forIn cs b0 g) (if cs.any f then b1 else b0):=by
 induction cs with
 |nil =>
  intro A Q E s k q;rwa[List.forIn_nil,bS q]
 |cons c r ih =>
  intro A Q E s k q;rw[List.forIn_cons];let z:=hg c (by simp);rw[List.any_cons]at q
  cases e:f c with
  |false =>
   rw[e]at z q;erw[bv (z A _ E s k (ih (λd a=>hg d (by simp[a])) A Q E s k q))]
  |true =>
   rw[e]at z q;erw[bv (z A _ E s k (bS q))]
def vdy{cs:Ξ}{cls:qc}{tp e:qa}{m:Nat}{ob:Obj}{f:qc->Bool}(X:K.In h)(LT:W.Looks M h (typeOf ⇑e) cls){h2:qg}(hk:∀b o,h.get? b=some o->h2.get? b=some o)(hp:h2.get? tp=some ob)(hc:ob.cls=.type "tuple")(hd:ob.data=.seq cs.toArray m)(hx:∀c∈cs,W.exmOne K cls c=some (f c)):W.Looks M h2 (excMatches ⇑e ⇑tp) (cs.any f):=by
 have g:W.Looks M h2 (isInstance ⇑tp (.type "tuple")) true:=by
  have e:W.Looks M h2 (typeOf ⇑tp) ob.cls:=(W.Looks.ld hp).andThen .now;rw[hc]at e;erw[e.andThen (W.Looks.of_pure isSubtype_tuple_tuple)]
 intro A Q E s k q;have d:∀b o,h.get? b=some o->s.heap.get? b=some o:=λb o z=>k b o (hk b o z);unfold excMatches;erw[bv (g A _ E s k ?_)];dsimp only;rwa[if_pos J,bv (wpAny_seqItems (k _ _ hp) hd ?_)];dsimp only[Option.getD_some,Option.getD];erw[bv (bS ?_),<-bv (yfx (M:=M) (h:=h) (f:=λZ=>false) (b1:=PUnit.unit) (cs:=cs) (λc hc=>?_) A _ E s d ?_)]
 .intro A Q E s k q;let#[a,_]:=W.exm_cls (M:=M) X (hx c hc);erw[bv (a A _ E s k ?_)];rwa[if_neg ∅,bS q]
 .erw[bv (LT A _ E s d ?_)];refine bv (yfx (M:=M) (h:=h) (b0:=((none:ql Bool),Unit.unit)) (b1:=(some true,Unit.unit)) (f:=f) (cs:=cs) (λc hc=>?_) A _ E s d ?_)
  .intro A Q E s k q;let#[_,a]:=W.exm_cls (M:=M) X (hx c hc);refine bv (a A _ E s k ?_)
   cases e:f c with
   |false =>
    rw[e]at q;erw[bS q]
   |true =>
    rw[e]at q;erw[bS q]
  .cases e:cs.any f with
   |false =>
    rw[e]at q;erw[bS q]
   |true =>
    rw[e]at q;erw[bS q]
end
section
variable{X:Cx}{suite:qj qd}{b₀:qd}{tx n:Str}{np pos:Pos}{i:Nat}{ts:TS}
def yrw(Ex:St->XK):THs:=λZ σ Ca Z d H=>Ex σ ⇑Ca d H
def yt4{Ex:St->XK}(hca:ÿ X Ex):PHs X [] (yrw Ex):=λa Z σ H x Z Z d Z ς c i e q =>
 wpAny_handleBy_nil (yk9 (X:=X) ς c i e λh j f b g=>hca a σ H h x j _ d f c b g q)
end
section
variable{σ:St}{H:Hp}{ts:TS}{K:xy}{Ca:qa}{d:ql qa}{tr:THs}{En:ď}{i:Nat}{cs:Φ}
def vj0{Ex:St->XK}(h:Ex σ ⇑Ca d H):exH (yrw Ex) En σ ⇑Ca d H:=λZ Z=>#[Ca,J,h]
end
def Ž:entryFor table "proto.unchain"=some Builtin.«proto.unchain»:=entryFor_of_tree (by kernel_rfl)
section
mutual
variable{prog:qi}{w:qe}{A:qf}{E:Δ}{s:qb}{x y:qa}{ox oy:Obj}{vs us:Array qc}
def ydl{α:Type}{Q:α->qb->Prop}(hh:A.handled∣y)(ne:y≠x)(hy:s.heap.get? y=some oy)(dy:oy.data=.fields us)(cy:us[2]?=some .none)
  (hx:s.heap.get? x=some ox) (dx:ox.data=.fields vs) (lx:2<vs.size) (h:E ⇑x {s with heap:=s.heap.update x (Obj.mapFields (·.setIfInBounds 2 ⇑y))}):
  wpAny (model prog w) A (raiseNew ⇑x:Sem α) Q E s:=by unfold raiseNew;erw[bv (wpAny_handled ?_)];rw[hh];dsimp only;rwa[if_pos (show (Value.ref y != Value.ref x)=true by simp[ne]),bv (wpAny_holding (wpAny_runValue (codeAny_builtin Ž ?_)))];unfold Builtin.«proto.unchain»;dsimp only;erw[bv (cT hy dy cy ?_)];rwa[if_pos ∅,bv (bS ?_)];erw[bS ?_];show wpAny _ _ (setField ⇑x 2 ⇑y >>=λZ=>throw _) _ _ _;erw[bv (wpAny_setField hx dx lx (wpAny_throw h))]
def yfd{K:xy}{msg:String}{Q:Δ}(X:K.In s.heap)(c:XCls K C)(hx:s.heap.get? x=some ox)(hc:ox.cls=.ref C)(dx:ox.data=.fields vs)(h:Q ⇑x s):
  wpAny (model prog w) A (excFromValue ⇑x msg) Q E s:=by have I:Œ x C s.heap:=#[ox,hx,hc];let e:=I.type (M:=model prog w);have a:W.Looks (model prog w) s.heap (isInstance ⇑x (.type "BaseException")) true:=e.andThen (W.looks_mroIn X c.mb);let#[g,f,b,d]:=ox;dsimp only at hc dx;subst hc dx;unfold excFromValue isExcClass isType loadHead;erw[bv (bv (bv (wpAny_loadPart hx ?_))),<-bS ?_];dsimp only;rwa[if_neg ∅,bS ?_];rwa[if_neg ∅,bv (a.at ?_)];rwa[if_pos J,bS h]
def ydn{env:Env}{cx cc:Sem qc}{K:xy}{Cy:qa}{Q:Flow->qb->Prop}(hh:A.handled∣y)(hC:XMk K C)(cC:XCls K C)(cY:XCls K Cy)
  (h:wpAny (model prog w) A cx (λv s₁=>∃e t,v=.ref e/\wpAny (model prog w) A cc (λu s₂=>u=.ref y/\y≠e/\s₂.heap.get? e=some { cls:=.ref C,data:=.fields (List.toArray [.ref t,.none,.none,.none,.bool false,.none])}/\
   (∃oy us,s₂.heap.get? y=some oy/\oy.cls=.ref Cy/\oy.data=.fields us/\us[2]?=some .none)/\(∀h',(∀b,b≠e->h'.get? b=s₂.heap.get? b)->K.In h')/\
   ∀h',(∀b,b≠e->h'.get? b=s₂.heap.get? b)->h'.get? e=some { cls:=.ref C,data:=.fields (List.toArray [.ref t,.none,.ref y,.ref y,.bool true,.none])}->E ⇑e {s₂ with heap:=h'}) E s₁) E s):
  wpAny (model prog w) A (raiseStmt env (some cx) (some cc)) Q E s:=by
 unfold raiseStmt;erw[bv (c7 h (λv s₁ h₁=>?_) λZ Z z=>z)];let#[e,t,J,h₁]:=h₁;erw[bv (wpAny_holding (c7 h₁ (λu s₂ h₂=>?_) λZ Z z=>z))];let#[J,o,i,#[oy,us,m,B,j,p],f,k]:=h₂;erw[bv (bS ?_),<-bv (wpAny_holding (yfd (f _ λZ Z=>rfl) cC i J J ?_))];dsimp only;rwa[if_neg (by simp),bv (wpAny_holding (yfd (f _ λZ Z=>rfl) cY m B j ?_))];erw[bv (wpAny_setField i J (show 3<6 by decide) ?_)];let g:=Heap.get?_update_self (Obj.mapFields (·.setIfInBounds 3 (Value.ref y))) i J;have l:∀b,b≠e->(s₂.heap.update e (Obj.mapFields (·.setIfInBounds 3 (Value.ref y)))).get? b=s₂.heap.get? b:=λb n=>Heap.get?_update_other _ _ (Ne.symm n);generalize s₂.heap.update e (Obj.mapFields (·.setIfInBounds 3 (Value.ref y)))=g3 at g l⊢;erw[bv (wpAny_setField (s:={s₂ with heap:=g3}) g J (show 4<6 by decide) ?_)];let a:=Heap.get?_update_self (Obj.mapFields (·.setIfInBounds 4 (Value.bool true))) g J;have c:∀b,b≠e->(g3.update e (Obj.mapFields (·.setIfInBounds 4 (Value.bool true)))).get? b=s₂.heap.get? b:=λb n=>(Heap.get?_update_other _ _ (Ne.symm n)).trans (l b n);dsimp only;generalize g3.update e (Obj.mapFields (·.setIfInBounds 4 (Value.bool true)))=g4 at a c⊢;let D:=f g4 c
 have x:∀{Q:Bool->qb->Prop}{E:Δ},Q false {s₂ with heap:=g4}->wpAny (model prog w) A (isType ⇑e) Q E {s₂ with heap:=g4}:=λq=>by
  unfold isType loadHead;erw[bv (wpAny_loadPart a (bS q))]
 erw[bv (x ?_)];rwa[if_neg ∅,bv ?_];unfold raisedInstance;have r:Œ e C g4:=#[_,a,J];erw[bv (r.type.at ?_)];let#[_,_,_,_,_,_,_,_,_,_,_,_,_,_,_,_,_,d,_]:=yed D hC;have tC:W.Looks (model prog w) g4 (typeOf ⇑C) (.type "type"):=(W.Looks.ld d).andThen .now;erw[bv (tC.at ?_)];rwa[if_pos (by simp),bS ?_];unfold setFlight;erw[bv (bv (cT a J (show _=some Value.none from rfl) ?_))];rwa[if_neg ∅,bS ?_];erw[ydl (s:={s₂ with heap:=g4}) hh o ((c y o).trans m) j p a J (show 2<6 by decide) ?_,<-k _ (λb n=>(Heap.get?_update_other _ _ (Ne.symm n)).trans (c b n)) (Heap.get?_update_self (Obj.mapFields (·.setIfInBounds 2 (Value.ref y))) a J)]
end
end
section
variable{Y:Cx}{σ:St}{H1:Hp}{s1:qb}{x:Str}{np cpos pos:Pos}{e₀:qh}{xj:qj qh}{t:TA}
def yoy{R:Hp->Prop}{Q:Δ}(hg:Gl Y x)(hm:Y.mg x∣C)(hC:XMk Y.K C)(ha:PA Y (e₀::xj) t)(he:starEach (e₀::xj) Y.env=(false,eval e₀ Y.env)::starEach xj Y.env)
  (hplain:(backTo cpos (starEach xj Y.env)).any (·.1)=false) (I:Inv Y pins σ H1 s1) (h:t σ H1 λvs H2=>↑vs<=sizeLine/\R H2)
  (k:∀s₂ h' e vs H2,Inv Y pins σ H2 s₂->Heap.MadeExcOf s₂.heap h' e ⇑C vs->R H2->Q ⇑e {s₂ with heap:=h'}) (hdb: ~~~(((x == ("__debug__":Str))=false))):
  wpAny (model Y.prog Y.w) Y.A (eval (.Call (.Name x np) (e₀::xj) [] cpos) Y.env) Q Y.xe s1:=by
 let#[H,NN,ς,q,L,p,Z,B,U,E,dd,P,G,k2,N,S,W,b,m,l,T]:=yed I.mod.kin hC
 have j:(backTo cpos (starEach (e₀::xj) Y.env)).any (·.1)=false:=by
  rw[he];show (false || (backTo cpos (starEach xj Y.env)).any (·.1))=false;rw[hplain];rfl
 erw[wpAny_Call_ofName (jm I hg hm ?_ hdb)];unfold callWith;let u:=ha cpos pins s1 σ H1 _ I h
 have z:wpAny (model Y.prog Y.w) Y.A (evalArgs ⇑C true (backTo cpos (starEach (e₀::xj) Y.env)) []) (λa s₂=>a.kw=[]/\↑a.pos<=sizeLine/\∃H2,Inv Y pins σ H2 s₂/\R H2) Y.xe s1:=by
  rw[he]at u⊢;erw[Calls.evalArgs_plain (c7 u (by rintro vs s₂ ⟨xs,H2,c,r,D,o⟩;erw[J,by rwa[<- ↑r,D],H2,c,o]) λw w y=>y)]
 erw[bv (wpAny_holding (c7 z (λa s₂ h₂=>bv (wpAny_standAt ?_)) λw w x=>x))];let#[v,n]:=a;let#[i,f,H2,c,o]:=h₂;obtain rfl:n=[]:=i;let b:=c.bk _ _ b;let m:=m.keeps c.bk;let T:=T.keeps c.bk;let#[X,g,d,M,O]:=s₂;rwa[j,bv (wpAny_keeperOf_exc b ?_)];erw[bv (wpAny_call_exc_subT (hrest:=f) F.excBase_ValueError T b m l λh' e hm=>bv (wpAny_holding (wpAny_point (bS ?_)))),<-k _ h' e _ H2 c hm o]
end
section
variable{X:Cx}{σ:St}{H:Hp}{s:qb}{x:qa}{oe:Obj}{us:Array qc}
def Inv.pinE(I:(Inv X pins σ H) s)(hx:Fy X pins H x)(q1:s.heap.get? x=some oe)(q3:oe.data=.fields us):Inv X (pins++[(x,oe)]) σ H s:=I.pins_of λp a=>by
 rcases cA.mp a with z|z
 .erw[I.pin p (cI _ z)]
 .obtain rfl:=bX.mp z;erw[q1,hx.1,hx.2.1,hx.2.2.1,λv e=>by rw[q3]at e;cases e]
def Fy.pinned{T:qa}(hT:Fy X pins H T)(ne:T≠x):Fy X (pins++[(x,oe)]) H T:=#[hT.1,hT.2.1,hT.2.2.1,hT.2.2.2.1,hT.2.2.2.2.1,λp a=>by
 rcases cA.mp a with z|z
 .erw[hT.2.2.2.2.2 p (cZ _ z)]
 .rcases cA.mp z with z|z
  .erw[hT.2.2.2.2.2 p (cI _ z)]
  .obtain rfl:=bX.mp z;erw[ne.symm]]
end
section
mutual
variable{X:Cx}{tx n xC:Str}{np np2 cpos pos:Pos}{L:qa}{i:Nat}{e₀:qh}{xj:qj qh}{ta:TA}{Ex:XK}
noncomputable def veb(f:qa->Bool):qc->Bool
 | .ref D=>f D
 |_=>false
def thF(K:xy)(cs:Φ)(C:qa)(i:Nat)(ta:TA)(Ex:XK)(tr:THs):THs:=λEn σ Ca x d H=>∃f:qa->Bool,(∀D∈cs,W.exmOne K ⇑Ca ⇑D=some (f D))/\∀p,H p=none->p≠x ->
 if cs.any f then d=none/\XCls K Ca/\ta (σ.set i (some ⇑x)) (upd H p (.tup (cs.map V.ref))) (λvs H2=>↑vs<=sizeLine/\Ex ⇑C (some x) H2)else tr En σ Ca x d (upd H p (.tup (cs.map V.ref)))
def yua{es:qj qh}{px2:Pos}{ctx:Nat}{cs:Φ}{t:TE}{rest':qj ExceptHandler}{tr:THs}(ht:∀pn x,PE (X.su pn x) (.Tuple es ctx px2) t)(hte:∀σ H(Q:VK),(∀p,H p=none->Q ⇑p (upd H p (.tup (cs.map V.ref))))->t σ H Q)
  (hst:X.stack=X.env::X.outer/\X.env.frame=some L) (hN:X.N.Nodup) (hi:X.N[i]?=some n) (hl:X.env.scope.names.lookup n=some .local) (hv:∀pn x,PE (X.su pn x) (.Name n np2) (yyj i))
  (hg:Gl X xC) (hm:X.mg xC∣C) (hC:XMk X.K C) (cC:XCls X.K C) (ha:∀pn x,PA (X.su pn x) (e₀::xj) ta) (hca:ÿ X λN=>Ex) (hr:PHs X rest' tr)
  (he:¬¬(starEach (e₀::xj) X.env=(false,eval e₀ X.env)::starEach xj X.env)) (hpl:¬¬((backTo cpos (starEach xj X.env)).any (·.1)=false)) (hdb: ~~~((xC == ("__debug__":Str))=false)):
  PHs X (.ExceptHandler (some (.Tuple es ctx px2)) (some n) [.Raise (some (.Call (.Name xC np) (e₀::xj) [] cpos)) (some (.Name n np2)) pos] hpos::rest') (thF X.K cs C i ta Ex tr):=by
 intro pins s σ H x T Ca d En ς hx hT aw q;let#[f,ax,q]:=q;let#[oe,us,oU,ws,a1,q1,q2,q3,q4,q5,q6,q7,q8]:=id aw;let ok:=ς.ok;let J2:=(ς.pinE hx q1 q3).pinE (hT.pinned q5) q6 q7;erw[wpAny_handleBy_cons (codeAny_handlers_test ?_) (by intro z;cases z),<-c7 (ht (X.pn++(pins++[(x,oe)]++[(T,oU)])) x [] s σ H (λv H1=>∃p,v=.ref p/\H p=none/\H1=upd H p (.tup (cs.map V.ref))) (J2.su x) (hte σ H _ λp hp=>#[p,J,hp,J])) (λc s1 hc=>?_) λN N z=>False.elim z];let#[v,H1,l,r1,p,J,hp,J]:=hc;obtain rfl:c=.ref p:=r1;let l:=l.unsu ok;let px:=l.pin (x,oe) (by simp);let pT:=l.pin (T,oU) (by simp);have F:Fy X pins (upd H p (.tup (cs.map V.ref))) x:=#[px.2.1,hx.2];have a3:Fy X pins (upd H p (.tup (cs.map V.ref))) T:=#[pT.2.1,hT.2];have P:Trd s1.heap x T ⇑Ca d:=#[oe,us,oU,ws,a1,px.1,q2,q3,q4,q5,pT.1,q7,q8];have l:Inv X pins σ (upd H p (.tup (cs.map V.ref))) s1:=Inv.unpinned (Inv.unpinned l);have ao:Œ x Ca s1.heap:=#[oe,px.1,q2.1];let#[_,aH,ad,ho]:=l.hok p (.tup (cs.map V.ref)) ya;let ev:=ycd ad;subst ev;let nx:=q p hp λz=>by have e:=px.2.1;rw[z]at e;erw[absurd (ya.symm.trans e) (by intro w;cases w)]
 let#[ob,o1,o2,m,o3]:=ho;have ea:(cs.map Value.ref).any (veb f)=cs.any f:=by rw[List.any_map];rfl
 erw[vdy (M:=model X.prog X.w) (h:=s1.heap) (f:=veb f) l.kIn ao.type (λN N z=>z) o1 o2 o3 (λc hc=>?_) _ _ _ _ (λN N z=>z) ?_]
 .let#[D,hD,J]:=bW.mp hc;erw[ax D hD]
 rw[ea]
 cases e:cs.any f with
 |false =>
  rw[e]at nx;erw[hr pins _ σ _ x T Ca d En l F a3 P nx]
 |true =>
  rw[e]at nx;let#[J,cY,q]:=nx;dsimp only[if_true];erw[codeAny_handlers_suite_as ?_,<-ur l F a3 P λs4 T4 J4 aI af=>?_];let#[a,ak,aF,aB,a4,p1,p2,p3,p4,p5,p6,p7,p8]:=id af;let J5:=J4.pinE F p1 p3;erw[ė (X:=X.su (X.pn++(pins++[(x,a)])) x) (i:=i) (v:=V.ref x) (J5.su x) hN hi (Or.inl hl) J (λs5 J6=>?_) (Or.inr hl),<-wpAny_execs_cons ?_];rwa[arm_exec_Raise,bv (wpAny_standAt ?_)];erw[ydn (K:=X.K) (C:=C) (Cy:=Ca) (y:=x) J hC cC cY ?_,<-bv (c7 (yoy (Y:=X.su (X.pn++(pins++[(x,a)])) x) (R:=λj=>Ex ⇑C (some x) j) (Q:=λv s'=>∃s₂ E e vs j,v=.ref e/\s'={s₂ with heap:=E}/\Inv (X.su (X.pn++(pins++[(x,a)])) x) [] (σ.set i (some ⇑x)) j s₂/\Heap.MadeExcOf s₂.heap E e ⇑C vs/\Ex ⇑C (some x) j)
   hg hm hC (ha _ x) he hpl J6 q (λs₂ E e vs j A m r=>#[s₂,E,e,vs,j,J,J,A,m,r]) hdb) (λv s' z=>?_) λN N z=>False.elim z)]
  let#[s₂,E,e,vs,j,J,J,A,m,r]:=z;let#[t,aa,ay,_]:=m.there;erw[bv (wpAny_standAt (bS #[e,t,J,?_]))];have B:Inv X (pins++[(x,a)]) (σ.set i (some ⇑x)) j s₂:=A.unsu ok;have g:Fy X pins j e:=Ŧ (Inv.unpinned B) m.new (A.hok.none_of m.new);have I3:Inv (X.su (X.pn++(pins++[(x,a)])) x) [] (σ.set i (some ⇑x)) j {s₂ with heap:=E}:=A.kept (t':=s₂.toks) m.keeps;have ne:x≠e:=λz=>by have w:=(B.pin (x,a) (by simp)).1;rw[z,m.new]at w;cases w
  let aj:=I3.pinE (Ŧ A m.new (A.hok.none_of m.new)) aa J;have av:i<↑σ:=by rwa[ς.len,(bY.mp hi).1]
  erw[bv (c7 (hv _ x _ _ _ _ (λv H'=>v=.ref x/\j=H') aj #[.ref x,List.getElem?_set_self av,J,J]) (λu s3 z=>?_) λN N z=>False.elim z)];let#[v,H3,I4,rv,J,J]:=z;obtain rfl:u=.ref x:=rv;let pe:=(I4.pin (e,{ cls:=.ref C,data:=.fields (List.toArray [.ref t,.none,.none,.none,.bool false,.none])}) (by simp)).1;have I:Inv X (pins++[(x,a)]) (σ.set i (some ⇑x)) j s3:=Inv.unsu (Inv.unpinned (pins:=[]) I4) ok;let ar:=(I.pin (x,a) (by simp)).1;have ag:Inv X pins (σ.set i (some ⇑x)) j s3:=Inv.unpinned I;have nl:∀b o,s₂.heap.get? b=some o->b≠e:=λb o w z=>by rw[z,m.new]at w;cases w
  erw[bv (wpAny_standAt (bS #[J,ne,pe,#[a,ak,ar,p2.1,p3,p2.2.2],λE o b ob k=>(o b (nl b ob (A.kIn _ _ k))).trans (I4.kIn _ _ k),λh6 o6 e6=>?_]))]
  have an:∀b∈frs X.stack,b≠e:=λb hb=>by
   let#[_,o,w,_]:=B.stack.mem hb;erw[nl b o w]
  have I6:Inv X pins (σ.set i (some ⇑x)) j {s3 with heap:=h6}:=ag.fly g g (λb o n1 N N z=>(o6 b n1).trans z) λb o hb z=>#[o.slots,(o6 b (an b hb)).trans z];erw[yfy (X:=X) (s:={s3 with heap:=h6}) (d:=some x) I6.ok.frames hst.1 hst.2 I6 g e6 J J J J λs7 T7 I7 U aq=>?_];let#[W,au,a2,ae,a7,r1,r2,r3,r4,r5,r6,r7,r8]:=id aq;let I8:=(I7.pinE g r1 r3).pinE (U.pinned r5) r6 r7;erw[I8.unbind hN hi hl λs9 Z=>?_];let ab:=(Z.pin (e,W) (by simp)).1;let al:=(Z.pin (T7,a2) (by simp)).1;have ac:Trd s9.heap e T7 ⇑C (some x):=#[W,au,a2,ae,a7,ab,r2,r3,r4,r5,al,r7,r8];have Z:Inv X pins _ j s9:=Inv.unpinned (Inv.unpinned Z);erw[yk9 (X:=X) Z g U ac λaz aJ a0 S ah=>?_,<-yba a0.ok.frames hst.1 hst.2 a0 g S ah λaA as ap a5 O=>?_];show wpAny _ _ _ _ _ _;let#[aD,aG,aC,aE,a8,z1,z2,z3,z4,z5,z6,z7,z8]:=id O;erw[bv (cT z1 z3 z4 ?_)];rwa[if_neg (show ¬((Value.ref as == Value.none)=true) by simp),ur ap g a5 O λai a6 a9 G am=>hca pins _ j ai e a6 _ (some x) a9 g G am r]
end
end
end L2
namespace L2
open PySem
section
variable{σ:St}{H:Hp}{K:xy}{Ca C:qa}{tr:THs}{En:ď}{i:Nat}{cs:Φ}{ta:TA}{Ex:XK}{d:ql qa}
def vi7(h1:∀D∈cs,∃b,W.exmOne K ⇑Ca ⇑D=some b)(h2:∃D∈cs,W.exmOne K ⇑Ca ⇑D=some true)(cY:XCls K Ca)
  (h:∀x p,H x=none->H p=none->p≠x->ta (σ.set i (some ⇑x)) (upd H p (.tup (cs.map V.ref))) λvs H2=>↑vs<=sizeLine/\Ex ⇑C (some x) H2):exH (thF K cs C i ta Ex tr) En σ ⇑Ca none H:=λx d=>by
 erw[Ca,J,λD=>(W.exmOne K ⇑Ca ⇑D).getD false,λD a=>?_,λp c f=>?_]
 .let#[b,e]:=h1 D a;simp only[e,Option.getD_some]
 .rw[if_pos]
  .erw[J,cY,h x p d c f]
  .let#[D,a,e]:=h2;erw[List.any_eq_true.mpr #[D,a,by rw[e];rfl]]
def yy7(h1:∀D∈cs,W.exmOne K ⇑Ca ⇑D=some false)(h:∀p,H p=none->exH tr En σ ⇑Ca d (upd H p (.tup (cs.map V.ref)))):exH (thF K cs C i ta Ex tr) En σ ⇑Ca d H:=λx c=>by
 erw[Ca,J,λD=>false,λD f=>h1 D f,λp a b=>?_];rw[if_neg]
 .let#[g,e,q]:=h p a x (by rwa[yk b.symm,c]);cases e;erw[q]
 .simp
end
end L2
namespace L2
mutual
variable{it:qa}{tg:qh}{pins:Θ}{ep:Nat}{apos cpos:Pos}{P:qi}{p0 p1:Str}{ov:qc}{Q:Δ}
def pG{p:Prop}(h:p):p:=h
structure Dg(K:xy)(x q:Str)(st:qd)(f:qa)(fd:FuncData)(M:Prop):Prop where
 F:Fun K x q st f fd
 m:M
structure Df(K:xy)(x q:Str)(st:qd)(ps:Ρ)(f:qa)(fd:FuncData)(M:Prop):Prop where
 F:Fun K x q st f fd
 B:u4 K fd ps []
 m:M
abbrev Df.v(P:qi)(w:qe)(mg:Ε)(Γ:qg){K:xy}{x q:Str}{st:qd}{ps:Ρ}{f:qa}{fd:FuncData}{M:Prop}(_:Df K x q st ps f fd M)(n:Nat)(sp:Sp):Prop:=vq P w K mg Γ CX0 n f fd ps sp
abbrev Df.e(P:qi)(w:qe)(mg:Ε)(Γ:qg){K:xy}{x q:Str}{st:qd}{ps:Ρ}{f:qa}{fd:FuncData}{M:Prop}(_:Df K x q st ps f fd M)(n:Nat)(sp:Sp):Prop:=vq P w K mg Γ (CXe P w) n f fd ps sp
def ym6{α:Type}{n:Nat}{a:qj α}(h:↑a=n+1):∃x r,a=x::r/\↑r=n:=by
 cases a with
 |nil=>cases h
 |cons x r=>erw[x,r,J,Nat.succ.inj h]
abbrev Dgf(K:xy)(mg:Ε)(x:Str)(st:qd)(f:qa)(fd:FuncData):Prop:=Dg K x x st f fd (mg x∣f)
abbrev Dgm(K:xy)(C:qa)(x q:Str)(st:qd)(f:qa)(fd:FuncData):Prop:=Dg K x q st f fd (Meth K C x f)
abbrev Dff(K:xy)(mg:Ε)(x:Str)(st:qd)(ps:Ρ)(f:qa)(fd:FuncData):Prop:=Df K x x st ps f fd (mg x∣f)
abbrev Dfm(K:xy)(C:qa)(x q:Str)(st:qd)(ps:Ρ)(f:qa)(fd:FuncData):Prop:=Df K x q st ps f fd (Meth K C x f)
end
section
mutual
variable{K:xy}{mg:Ε}{h:qg}{x q:Str}{st:qd}{f C:qa}{fd:FuncData}{M:Prop}{oc kV doc pm cdv ct:qc}{od an:ql qa}{osl:Array (ql qc)}
def dgf_mk(X:K.In h)(G:h.Ns mainGlobals mg)(a:W.nsIn K mainGlobals x=some (some ⇑f))(l:K.lookup f=some #[oc,od,.func (W.fnOf x x (xt st) (xi st) (yd st) .none kV doc pm an cdv ct),osl])
  (c:W.codeIn K cdv x=true) (k:W.keepIn K ⇑f=true):Dgf K mg x st f (W.fnOf x x (xt st) (xi st) (yd st) .none kV doc pm an cdv ct):=#[ysw l c k,W.mg_of X G a]
def dgm_mk(a:W.findIn K ⇑C x=some (some ⇑f))(i:W.isFn K ⇑f=true)(l:K.lookup f=some #[oc,od,.func (W.fnOf x q (xt st) (xi st) (yd st) .none kV doc pm an cdv ct),osl])
  (c:W.codeIn K cdv q=true) (k:W.keepIn K ⇑f=true):Dgm K C x q st f (W.fnOf x q (xt st) (xi st) (yd st) .none kV doc pm an cdv ct):=#[ysw l c k,a,i,k]
def Dg.d1(D:Dg K x q st f fd M)(h:autoParam (∀(kV doc pm:qc)(an:ql qa)(cdv ct:qc)(u0:qc),bindArgs (W.fnOf x q (xt st) (xi st) (yd st) .none kV doc pm an cdv ct) #[[u0],[]]=pure [(p0,u0)]) aH._auto_1):Df K x q st [p0] f fd M :=
 #[D.F,D.F.binds λkV doc pm an cdv ct c a=>(by
  let#[u0,d,J,b]:=ym6 a;obtain rfl:=dE b;erw[h kV doc pm an cdv ct u0]),D.m]
def Dg.d2(D:Dg K x q st f fd M)(h:autoParam (∀(kV doc pm:qc)(an:ql qa)(cdv ct:qc)(u0 u1:qc),bindArgs (W.fnOf x q (xt st) (xi st) (yd st) .none kV doc pm an cdv ct) #[[u0,u1],[]]=pure [(p0,u0),(p1,u1)]) aH._auto_1):Df K x q st [p0,p1] f fd M :=
 #[D.F,D.F.binds λkV doc pm an cdv ct d b=>(by
  let#[u0,e,J,c]:=ym6 b;let#[u1,g,J,a]:=ym6 c;obtain rfl:=dE a;erw[h kV doc pm an cdv ct u0 u1]),D.m]
def Dg.d3{p2:Str}(D:Dg K x q st f fd M)(h:autoParam (∀(kV doc pm:qc)(an:ql qa)(cdv ct:qc)(u0 u1 u2:qc),bindArgs (W.fnOf x q (xt st) (xi st) (yd st) .none kV doc pm an cdv ct) #[[u0,u1,u2],[]]=pure [(p0,u0),(p1,u1),(p2,u2)]) aH._auto_1):Df K x q st [p0,p1,p2] f fd M :=
 #[D.F,D.F.binds λkV doc pm an cdv ct g c=>(by
  let#[u0,i,J,d]:=ym6 c;let#[u1,j,J,a]:=ym6 d;let#[u2,e,J,b]:=ym6 a;obtain rfl:=dE b;erw[h kV doc pm an cdv ct u0 u1 u2]),D.m]
def Dg.d4{p2 p3:Str}(D:Dg K x q st f fd M)(h:autoParam (∀(kV doc pm:qc)(an:ql qa)(cdv ct:qc)(u0 u1 u2 u3:qc),bindArgs (W.fnOf x q (xt st) (xi st) (yd st) .none kV doc pm an cdv ct) #[[u0,u1,u2,u3],[]]=pure [(p0,u0),(p1,u1),(p2,u2),(p3,u3)]) aH._auto_1):Df K x q st [p0,p1,p2,p3] f fd M :=
 #[D.F,D.F.binds λkV doc pm an cdv ct j d=>(by
  let#[u0,l,J,e]:=ym6 d;let#[u1,k,J,a]:=ym6 e;let#[u2,g,J,b]:=ym6 a;let#[u3,i,J,c]:=ym6 b;obtain rfl:=dE c;erw[h kV doc pm an cdv ct u0 u1 u2 u3]),D.m]
end
end
def ysy{K:xy}{W:qa}{od:ql qa}{its:Array qc}{n:Nat}{sl:Array (ql qc)}{xs:Τ}(l:K.lookup W=some #[.type "tuple",od,.seq its n,sl])(hz:its.size<=sizeLine)(hv:w9 xs its.toList):∀H,SqT K H W xs:=λZ=>.inr #[_,_,_,l,J,J,hz,hv]
structure KC(K:xy)(C:qa):Prop where
 pg:W.plainGet K C Str.empty=true
 hd:W.hasDictIn K C=true
 po:W.plainOver K C=true
 sa:W.findIn K ⇑C "__setattr__"=some (some (.builtin "object.__setattr__"))
 mk':W.makesIn K C=true
 kc:W.keepIn K ⇑C=true
section
mutual
variable{K:xy}{H:Hp}{p C dx:qa}{fs fs':Ι}{v:V}{nm:Str}{P:V->Prop}{nx:Ζ}{σ:St}
abbrev RdX(K:xy)(H:Hp)(p:qa)(nm:Str)(P:V->Prop):Prop:=∃a' C dx fs v,V.ref p=.ref a'/\H a'∩C dx fs/\Cls K C/\NoAttr K C nm/\fs.lookup nm=some v/\P v
abbrev StX(K:xy)(H:Hp)(p:qa)(nm:Str)(v:V)(nx:Ζ)(σ:St):Prop:=∃a' C dx fs,V.ref p=.ref a'/\H a'∩C dx fs/\Cls K C/\NoAttr K C nm/\↑fs<1000/\wj nx σ (upd H a' (.ins C dx (É nm v fs)))
abbrev MtX(H:Hp)(p C:qa)(nm:Str)(R:Prop):Prop:=∃a dx fs,V.ref p=.ref a/\H a∩C dx fs/\fs.lookup nm=none/\R
def rdX(hp:H p∩C dx fs)(c:Cls K C)(n:NoAttr K C nm)(l:fs.lookup nm=some v)(h:P v):RdX K H p nm P:=#[p,C,dx,fs,v,J,hp,c,n,l,h]
def stX(hp:H p∩C dx fs)(c:Cls K C)(n:NoAttr K C nm)(l:↑fs<1000)(e:É nm v fs=fs')(h:wj nx σ (upd H p (.ins C dx fs'))):StX K H p nm v nx σ:=#[p,C,dx,fs,J,hp,c,n,l,by rwa[e,h]]
def gRd(h:RdX K H p nm P):RdX K H p nm P:=h
def gSt(h:StX K H p nm v nx σ):StX K H p nm v nx σ:=h
def gMt{R:Prop}(h:MtX H p C nm R):MtX H p C nm R:=h
def lt0:↑([]:Ι)<1000:=by show 0<1000;decide
def lt1{a:Str×V}:[a].length<1000:=by show 1<1000;decide
def lt2{a b:Str×V}:[a,b].length<1000:=by show 2<1000;decide
def lt3{a b c:Str×V}:[a,b,c].length<1000:=by show 3<1000;decide
def lt4{a b c d:Str×V}:[a,b,c,d].length<1000:=by show 4<1000;decide
def lt5{a b c d e:Str×V}:[a,b,c,d,e].length<1000:=by show 5<1000;decide
def lt6{a b c d e f:Str×V}:[a,b,c,d,e,f].length<1000:=by show 6<1000;decide
theorem vhj:∀{fs:Ι},nm∉fs.map (·.1)->fs.lookup nm=none
 |[],_=>rfl
 |(g,v)::r,h=>wg (λe=>h (by rwa[e,cG])) (vhj λm=>h (cF _ m))
def mtX{R:Prop}{N:Ρ}(hp:H p∩C dx fs)(k:fs.map (·.1)=N)(n:nm∉N)(h:R):MtX H p C nm R:=#[p,dx,fs,J,hp,vhj (by rwa[k,n]),h]
def wc{N P:Ρ}{sc:Scope}(h:(sc.kind=.function/\sc.isCoroutine=false/\sc.isGenerator=false)/\N.Nodup/\N.take ↑P=P/\(∀x∈P,sc.names.lookup x=some .local\/sc.names.lookup x=some .cell)/\∀y∈sc.names,y.2≠.free):yi N P sc:=#[h.1.1,h.1.2.1,h.1.2.2,h.2.1,h.2.2.1,h.2.2.2.1,h.2.2.2.2]
end
end
section
mutual
variable{prog:qi}{w:qe}{A:qf}{E:Δ}{s:qb}{d:qa}{od:Obj}{es:Array DictEntry}
def yhx(hne:(d == sysModules)=false)(h0:s.heap.get? d=some od)(hx:od.ExactDict)
  (k:Q ⇑s.heap⁻¹ {s with heap:=s.heap.push { cls:=.type "dict_items",data:=.fields #[.ref d]} }):wpAny (model prog w) A (call (.builtin "dict.items") [.ref d]) Q E s:=by have a:s.TypeIs ⇑d "dict":=#[od,h0,hx.1];erw[wpAny_call_entry F.slot_dict_items a F.entry_dict_items ?_ (F.args_dict_items_1 _)];unfold Builtin.«dict.items» Builtin.Dict.noArgs;erw[bv (bv (wpAny_notOrdered_dict a ?_))];show wpAny _ _ (pure d) _ _ s;erw[bS ?_];show wpAny _ _ (Builtin.Dict.showsAll d >>=_) _ _ s;unfold Builtin.Dict.showsAll;rwa[if_neg (by rw[hne];decide),bv (bS (bv (wpAny_newObj_type (bS #[_,J,k]))))]
def yhu{v:qa}(hv:s.heap.IsItemsView v d)(h0:s.heap.get? d=some od)(hd:od.data=.dict es ep)
  (k:Q ⇑s.heap⁻¹ {s with heap:=s.heap.push { cls:=.type "dict_itemiterator",data:=.fields (List.toArray [.none,.bool false,.ref d,.int 0 0,.int es.size 0,.int ep 0,.none,.none])} }):wpAny (model prog w) A (pyIter ⇑v) Q E s:=by let#[c,b,e,a]:=id hv;erw[wpAny_pyIter_slot hv.typeIs F.slot_dict_items_iter (wpAny_call_entry F.slot_dict_items_iter hv.typeIs F.entry_dict_items_iter ?_ (F.args_dict_items_iter_1 _))];unfold Builtin.«dict_items.__iter__» Builtin.Dict_items.dictOf Builtin.Dict_items.newIterator;erw[bv (bS (bv (bv (cT b a (x:=.ref d) J (bS (bv (bv (wpAny_dictEntries h0 hd (bv (wpAny_dictEpoch h0 hd ?_))))))))))];simp only[show Builtin.Dict_items.ownsTuple "dict_itemiterator"=true by decide,if_true];erw[wpAny_newObj_type (bS #[_,J,"dict_itemiterator",_,#[_,cb _ J,J],F.slot_dict_itemiterator_next.lookup,?_]) (by simp only[sizeOk,Builtin.Dict_items.ownedTupleFields,cu,bQ,cn,List.length_nil,sizeLine_eq];omega)];simpa[rawInt,Builtin.Dict_items.ownedTupleFields]using k
def yhf{i:Nat}{ok:qc}{Q:ql qc->qb->Prop}(hi:IsItemIter s.heap it d i es.size ep ok ov)(h0:s.heap.get? d=some od)(hd:od.data=.dict es ep)(hlt:i<es.size)
  (k:∀h',IsItemIterOut h' it d (i+1) es.size ep es[i].key es[i].val s.heap⁻¹->h'.get? s.heap⁻¹=some { cls:=.type "tuple",data:=.seq (List.toArray [es[i].key,es[i].val])}->(∀b o,b≠it->s.heap.get? b=some o->h'.get? b=some o)->Q (some ⇑s.heap⁻¹) {s with heap:=h'}):
  wpAny (model prog w) A (pyNext ⇑it) Q E s:=by
 let#[a,g,m,h,j]:=s;have c:Shared.TypeIs #[a,g,m,h,j] ⇑it "dict_itemiterator":=#[_,hi,J];have K:it<a⁻¹:=cg hi;have M:a⁻¹≠it:=Nat.ne_of_gt K;unfold pyNext;erw[bv (wpAny_attempt (wpAny_callSpecial?_slot (name:=Str.ofString "__next__") c F.slot_dict_itemiterator_next (wpAny_call_entry F.slot_dict_itemiterator_next c F.entry_dict_itemiterator_next ?_ (F.args_dict_itemiterator_next_1 _)))),<-bv (bS (bv (bv ?_)))]
 first|erw[bv (wpAny_typeNameOfWhole_itemiter c (bS ?_))]|erw[bv (wpAny_typeNameOf_itemiter c (bS ?_))]
 erw[bv (wpAny_fieldsOf hi J ?_)];show wpAny _ _ (if (Value.ref d == Value.none)=true then _ else _) _ _ _;rwa[if_neg (show ¬(Value.ref d == Value.none)=true from ci),bv (bS (bv (wpAny_dictEntries h0 hd ?_)))];rwa[if_neg (by simp),bv (bS (bv (wpAny_dictEpoch h0 hd ?_)))];rwa[if_neg (by simp),bS ?_]
 show wpAny _ _ (match (if (i:Int)<0 then none else es[(i:Int).toNat]?)with
  |some e=>_
  |none=>_) _ _ _
 rwa[if_neg (show ¬((i:Int)<0) by omega),Int.toNat_natCast,Array.getElem?_eq_getElem hlt,bv ?_]
 first|erw[bv (wpAny_typeNameOfWhole_itemiter c (bS ?_))]|erw[bv (wpAny_typeNameOf_itemiter c (bS ?_))]
 erw[bv (wpAny_isOneOf_itemiter c ?_)];show wpAny _ _ (setField ⇑it 3 (rawInt ((i:Int)+1)) >>=_) _ _ #[a,g,m,h,j];erw[bv (wpAny_setField_rec hi (by simp) λg1 f l=>?_)]
 replace l:Heap.SameBut it a g1:=l
 replace f:IsItemIter g1 it d (i+1) es.size ep ok ov:=by unfold IsItemIter;rw[show ((i+1:Nat):Int)=(i:Int)+1 by omega];simpa[rawInt]using f
 have r:Shared.TypeIs #[g1,g,m,h,j] ⇑it "dict_itemiterator":=#[_,f,J];erw[bv (wpAny_holding (bv (wpAny_isOneOf_itemiter r (bv (wpAny_isOneOf_itemiter r ?_)))))];show wpAny _ _ (Builtin.Dict_items.pairFromOwner ⇑it 6 es[i].key es[i].val) _ _ #[g1,g,m,h,j];unfold Builtin.Dict_items.pairFromOwner;erw[bv (wpAny_newTuple ?_)];have p:IsItemIter (g1.push { cls:=.type "tuple",data:=.seq (List.toArray [es[i].key,es[i].val])}) it d (i+1) es.size ep ok ov:=bR _ f;generalize y:g1.push { cls:=.type "tuple",data:=.seq (List.toArray [es[i].key,es[i].val])}=g2 at p;have v:g1⁻¹=a⁻¹:=l.1;have I:g2.get? a⁻¹=some { cls:=.type "tuple",data:=.seq (List.toArray [es[i].key,es[i].val])}:=by rwa[<- y,<- v,cb _ J]
 have L:∀b o,b≠it->a.get? b=some o->g2.get? b=some o:=λb o ς e=>by rwa[<- y,bR _ (l.extBut b o ς e)]
 show wpAny _ _ (Builtin.Dict_items.ownedTupleIsFree ⇑it >>=_) _ _ #[g2,g,m,h,j];rw[v];clear y f l r v g1;unfold Builtin.Dict_items.ownedTupleIsFree;erw[bv (bv (cT p J (x:=.none) J (bS ?_)))];simp only[if_true];erw[bv (cT p J (x:=ok) J (bv (cT p J (x:=ov) J ?_))),<-bv (wpAny_setField_rec p (by simp) λg3 q B=>?_)]
 replace B:Heap.SameBut it g2 g3:=B
 replace q:IsItemIter g3 it d (i+1) es.size ep es[i].key ov:=q
 erw[bv (wpAny_setField_rec q (by simp) λg4 u G=>?_)]
 replace G:Heap.SameBut it g3 g4:=G
 replace u:IsItemIter g4 it d (i+1) es.size ep es[i].key es[i].val:=u
 erw[bv (wpAny_setField_rec u (by simp) λg5 z C=>?_)]
 replace C:Heap.SameBut it g4 g5:=C
 replace z:IsItemIterOut g5 it d (i+1) es.size ep es[i].key es[i].val a⁻¹:=z
 erw[bv (wpAny_setField_rec z (by simp) λg6 t D=>?_)]
 replace D:Heap.SameBut it g5 g6:=D
 replace t:IsItemIterOut g6 it d (i+1) es.size ep es[i].key es[i].val a⁻¹:=t
 have H:∀b o,b≠it->g2.get? b=some o->g6.get? b=some o:=λb o n e=>D.extBut b o n (C.extBut b o n (G.extBut b o n (B.extBut b o n e)));erw[bv (wpAny_letGo (bS (bS #[_,J,bS (k g6 t (H _ _ M I) λb o n e=>H b o n (L b o n e))])))]
def yi0{i:Nat}{ok:qc}{Q:ql qc->qb->Prop}(hh:A.handled=none)(hi:IsItemIter s.heap it d i es.size ep ok ov)(h0:s.heap.get? d=some od)(hd:od.data=.dict es ep)(hge:es.size<=i)
  (k:∀h',Heap.ExtBut it s.heap h'->Q none {s with heap:=h'}):wpAny (model prog w) A (pyNext ⇑it) Q E s:=by
 have c:s.TypeIs ⇑it "dict_itemiterator":=#[_,hi,J];unfold pyNext;erw[bv (wpAny_attempt (wpAny_callSpecial?_slot (name:=Str.ofString "__next__") c F.slot_dict_itemiterator_next (wpAny_call_entry F.slot_dict_itemiterator_next c F.entry_dict_itemiterator_next ?_ (F.args_dict_itemiterator_next_1 _)))),<-bv (bS (bv (bv ?_)))]
 first|erw[bv (wpAny_typeNameOfWhole_itemiter c (bS ?_))]|erw[bv (wpAny_typeNameOf_itemiter c (bS ?_))]
 erw[bv (wpAny_fieldsOf hi J ?_)];show wpAny _ _ (if (Value.ref d == Value.none)=true then _ else _) _ _ s;rwa[if_neg (show ¬(Value.ref d == Value.none)=true from ci),bv (bS (bv (wpAny_dictEntries h0 hd ?_)))];rwa[if_neg (by simp),bv (bS (bv (wpAny_dictEpoch h0 hd ?_)))];rwa[if_neg (by simp),bS ?_]
 show wpAny _ _ (match (if (i:Int)<0 then none else es[(i:Int).toNat]?)with
  |some e=>_
  |none=>_) _ _ _
 rwa[if_neg (show ¬((i:Int)<0) by omega),Int.toNat_natCast,Array.getElem?_eq_none hge,bv ?_]
 first|erw[bv (wpAny_typeNameOfWhole_itemiter c (bS ?_))]|erw[bv (wpAny_typeNameOf_itemiter c (bS ?_))]
 show wpAny _ _ (setField ⇑it 2 .none >>=_) _ _ s;erw[bv (wpAny_setField hi J (by simp) ?_)];show wpAny _ _ (newExc (.type "StopIteration") [] >>=_) _ _ _;erw[bv ?_];simp only[newExc,newTuple];erw[bv (wpAny_newObj_type ?_ (by size_fits))]
 erw[bv (m:=firstArgMember _ _) (wpAny_of_eq (a:=Value.none) (by first|rfl|(simp only[firstArgMember];rfl)) (wpAny_newObj_type ?_ (by size_fits)))]
 unfold raiseNew;erw[bv (wpAny_handled ?_)];rwa[show A.in1.handled=none from hh,bv (bS (wpAny_throw ?_))];erw[bv (wpAny_isInstance (T:="StopIteration") (b:=true) #[_,cb _ J,J] isSubtype_stop (bS (k _ (((Heap.SameBut.update ..).extBut.push _).push _))))]
def yh2{i n:Nat}{ok:qc}(hi:IsItemIter s.heap it d i n ep ok ov)(k:Q ⇑it s):wpAny (model prog w) A (pyIter ⇑it) Q E s:=by have a:s.TypeIs ⇑it "dict_itemiterator":=#[_,hi,J];erw[wpAny_pyIter_slot a F.slot_dict_itemiterator_iter (wpAny_call_entry F.slot_dict_itemiterator_iter a (show entryFor table "dict_itemiterator.__iter__"=some Builtin.«dict_keyiterator.__iter__» from entryFor_alias (id':="dict_keyiterator.__iter__") (by kernel_rfl) J (by decide+kernel) (by kernel_rfl)) ?_ (F.args_dict_itemiterator_iter_1 _))];show wpAny _ _ (ret ⇑it) _ _ s;erw[bS #[_,J,"dict_itemiterator",_,a,F.slot_dict_itemiterator_next.lookup,k]]
end
end
mutual
def Inv.freeze{X:Cx}{σ:St}{H:Hp}{s:qb}{d:qa}{u:HO}{o:Obj}(I:(Inv X pins σ H) s)(hd:H d=some u)(mu:Mut (some u))(ho:s.heap.get? d=some o):Inv X pins σ (upd H d (.frz o u)) s:=by
 have h:∀{b},H b=none->b≠d:=λn z=>by rw[z,hd]at n;cases n
 have f:∀{b v},H b=some v->¬Mut (some v)->b≠d:=λe n z=>by rw[z,hd]at e;cases e;erw[n mu]
 erw[I.ok,I.os,I.bare,#[I.base.keep,I.base.slot,λb i e n A=>?_,I.base.there,λb t e=>?_,λb i v e=>?_,λb l e=>?_],I.loc,I.cell,?_,λx c e=>?_,λp k=>?_,λb v e=>?_,I.len]
 .let z:=I.base.free b i e n A;rwa[yk (h z),z]
 .let z:=I.base.tups b t e;rwa[yk (f z id),z]
 .let z:=I.base.frzs b i v e;rwa[yk (f z id),z]
 .let#[m,z]:=I.base.tbls b l e;erw[m,by rwa[yk (f z id),z]]
 .rw[yk (h I.free)];erw[I.free]
 .rw[yk (h (I.freeC x c e))];erw[I.freeC x c e]
 .let#[r,j,w]:=I.pin p k;erw[r,by rwa[yk (h j),j],w]
 .have g:∀{c y},H c=some (.own y)->upd H d (.frz o u) c=some (.own y):=λq=>by rw[yk (f q id)];exact q
  have a:∀{c y},H c∪y->upd H d (.frz o u) c∪y:=λq=>by rwa[yk (f q id),q]
  by_cases hb:b=d
  .subst hb;rw[ya]at e;cases e;erw[ho,(I.hok b _ hd).stay (λZ Z Z q=>q) (λZ q=>g q) λZ Z q=>a q]
  .rw[yk hb]at e;erw[(I.hok b v e).stay (λZ Z Z q=>q) (λZ q=>g q) λZ Z q=>a q]
def Inv.thaw{X:Cx}{σ:St}{H:Hp}{s:qb}{d:qa}{u:HO}{o:Obj}(I:(Inv X pins σ H) s)(h0:∀o u,X.H₀ d≠some (.frz o u))(hd:H d=some (.frz o u)):Inv X pins σ (upd H d u) s:=by
 have g:∀{b},H b=none->b≠d:=λn z=>by rw[z,hd]at n;cases n
 erw[I.ok,I.os,I.bare,#[I.base.keep,I.base.slot,λb h e n A=>?_,I.base.there,λb r e=>?_,λb h u e=>?_,λb k e=>?_],I.loc,I.cell,?_,λx c e=>?_,λp j=>?_,λb v e=>?_,I.len]
 .let z:=I.base.free b h e n A;rwa[yk (g z),z]
 .let z:=I.base.tups b r e;rwa[yk (xf z hd (by intro w;cases w)),z]
 .rw[yk (λz=>h0 h u (by rwa[<- z,e]))];erw[I.base.frzs b h u e]
 .let#[m,z]:=I.base.tbls b k e;erw[m,by rwa[yk (xf z hd (by intro w;cases w)),z]]
 .rw[yk (g I.free)];erw[I.free]
 .rw[yk (g (I.freeC x c e))];erw[I.freeC x c e]
 .let#[l,i,t]:=I.pin p j;erw[l,by rwa[yk (g i),i],t]
 .have f:∀{c y},H c=some (.own y)->upd H d u c=some (.own y):=λq=>by rw[yk (xf q hd (by intro w;cases w))];exact q
  have a:∀{c y},H c∪y->upd H d u c∪y:=λq=>by rwa[yk (xf q hd (by intro w;cases w)),q]
  by_cases hb:b=d
  .subst hb;rw[ya]at e;cases e;erw[(I.hok b _ hd).2.stay (λZ Z Z q=>q) (λZ q=>f q) λZ Z q=>a q]
  .rw[yk hb]at e;erw[(I.hok b v e).stay (λZ Z Z q=>q) (λZ q=>f q) λZ Z q=>a q]
def Iti(o:Obj)(d:qa)(kvs:qj (qj Key×V)):It :=
 #[λi H=>H d=some (.frz o (.dT kvs))/\i<↑kvs,
  λi H x H'=>∃t kt key v,x=.ref t/\H t=none/\H'=upd H t (.tup [.ref kt,v])/\kvs[i]?=some (key,v)/\H kt∪(key.map kV),
  λi H=>H d=some (.frz o (.dT kvs))/\↑kvs<=i]
theorem uh{α β:Type}{F:α->β->Prop}:∀{l₁:qj α}{l₂:qj β},Paired F l₁ l₂->↑l₁=↑l₂
 |_,_,.nil=>rfl
 |_,_,.cons _ t=>congrArg (·+1) (uh t)
def ycb{α β:Type}{F:α->β->Prop}{l₁:qj α}{l₂:qj β}(h:Paired F l₁ l₂):∀{i:Nat}{y:β},l₂[i]?=some y->∃x,l₁[i]?=some x/\F x y:=by
 induction h with
 |nil=>intro i y e;cases e
 |cons r t ih =>
  intro i y e
  cases i with
  |zero=>cases e;exists _,J,r
  |succ j=>erw[ih e]
def yhj{w:qe}{K:xy}{elts:qj qh}{x1}{tpos:Pos}{o:Obj}{es:Array DictEntry}{kvs:qj (qj Key×V)}(d it:qa)(ho:o.data=.dict es ep)(hs:es.size=↑kvs):
  ygz P w K (.Tuple elts x1 tpos) (Iti o d kvs) [it] it (λi h=>∃ok ov,IsItemIter h it d i es.size ep ok ov) where
 mem:=(by simp)
 obj:=λi h l b g=>by
  have e:b=it:=by simpa using g
  subst e;let#[_,_,e]:=l;erw[_,e,λv z=>by cases z]
 keep:=λi h h' ⟨ok,ov,l⟩ k=>#[ok,ov,k it (by simp) _ l]
 item:=by
  intro X hP S R hc i p s σ H E I D #[ok,ov,l] #[O,a];subst hP S R;let#[L,f1,f2,f3,f4,f5]:=D it (by simp);let#[M,_,_,N,x,o',a4,a3,ς,_,G,Z,_]:=(show xn X.prog X.w H s.heap d (.frz o (.dT kvs))from I.hok d _ O);rw[M]at ς;cases ς;rw[ho]at G;cases G;have hl:i<es.size:=()
  have he:es[i]=entryOfKey (tupleKind (w8 X.prog X.w)) (N[i]'(by rwa[<- (uh x),a])):=by
   have e1:es.toList[i]?=some es[i]:=by simp[hl]
   rw[Z,bU,bP (by rwa[<- (uh x),a])]at e1;erw[(cr e1).symm]
  let#[#[C,v],T,k1,Y,k3]:=ycb x (bP (by rwa[<- (uh x),a]));have m:es[i].key=.ref (N[i]'(by rwa[<- (uh x),a])).2.1:=by rw[he];rfl
  have B:es[i].val=(N[i]'(by rwa[<- (uh x),a])).2.2:=by rw[he];rfl
  rw[<- B]at k3;generalize (N[i]'(by rwa[<- (uh x),a])).2.1=y at m Y;erw[yhf l M ho hl λh' a1 a2 hk=>#[_,J,wpAny_letOwnedTupleGo_items a1 λr b1 b2=>?_]];rw[m]at a2;have j:H s.heap⁻¹=none:=I.hok.fresh (bT _);have lI:it<s.heap⁻¹:=cg l;have keep:∀b o,b≠it->s.heap.get? b=some o->r.get? b=some o:=λb o n e=>(b2.2 b n).trans (hk b o n e);have A:r.get? s.heap⁻¹=some { cls:=.type "tuple",data:=.seq (List.toArray [.ref y,es[i].val])}:=(b2.2 _ (Nat.ne_of_gt lI)).trans a2
  have U:HOk X.prog X.w (upd H s.heap⁻¹ (.tup [.ref y,v])) r:=λb u e=>by
   by_cases g:b=s.heap⁻¹
   .subst g;rw[ya]at e;cases e;exists by show 2<=sizeLine;decide,[.ref y,es[i].val],.cons J (.cons k3 .nil),#[_,A,J,_,J]
   .rw[yk g]at e;refine(I.hok b u e).stay (λc z t q=>keep c z ?_ q) (λc q=>by rwa[yk (yb q j),q]) λc ys q=>by rw[yk (yb q j)];exact q
    rcases t with rfl|t
    .erw[yb e L]
    .erw[yb t L]
  have un:Un (frs X.stack) [it] H (upd H s.heap⁻¹ (.tup [.ref y,v])) s.heap r:=by
   have Q:∀{b z},b∉[it]->s.heap.get? b=some z->r.get? b=some z:=λ{b z}g e=>keep b z (λq=>g (by simp[q])) e;erw[λb z e n W F=>Q F e,λb z e n W F=>#[z.slots,Q F e],λb z e n W=>by rwa[yk (cR (cg e)),n],λb z e F=>#[z,Q F e],λb ys e=>by rwa[yk (yb e j),e],λb z u e=>by rwa[yk (yb e j),e],λb ps e=>#[#[],by rw[yk (yb e j),e];simp]]
  have I1:Inv X p σ (upd H s.heap⁻¹ (.tup [.ref y,v])) {s with heap:=r}:=I.call' (s':={s with heap:=r}) J un U I.bare λb g=>by
   let f:=D b g;erw[f.2.2.2.1,f.2.1,f.2.2.2.2.1,f.2.2.2.2.2]
  erw[.ref s.heap⁻¹,_,I1,J,#[_,y,C,v,J,j,J,T,by rw[show C=_ from k1]at Y⊢;erw[Y]],#[_,_,b1],λb g=>?_];rw[yk (λq=>?_)]
  .erw[(D b g).1]
  .have e:b=it:=by simpa using g
   rw[e]at q;erw[absurd q (cR lI)]
 done:=by
  intro X hP S R hc i p s σ H E I D #[ok,ov,l] #[O,a0];subst hP S R;let#[L,f1,f2,f3,f4,f5]:=D it (by simp);let#[M,_]:=(show xn X.prog X.w H s.heap d (.frz o (.dT kvs))from I.hok d _ O);erw[yi0 (I.ok.hd hc) l M ho () λh' eb=>#[J,I.turned (t':=s.toks) (λb o g e=>eb b o g e) L f1 f3 f4 f5]]
 self:=λW W W W W ⟨_,_,l⟩ h=>yh2 l h
end
section
mutual
variable{X:Cx}
def yqe(to:TE):TI:=λσ H R=>to σ H λx H1=>∃d kvs,x=.ref d/\H1 d=some (.dT kvs)/\∀o,R (Iti o d kvs) (upd H1 d (.frz o (.dT kvs)))
def yob{elts:qj qh}{x1}{tpos:Pos}{o:qh}{to:TE}(ho:PE X o to)(hbase:¬¬(attributeBase o "items" X.env (eval o X.env)=eval o X.env))(hline:¬¬((apos.endLine == cpos.line)=true)):
  PI X (.Tuple elts x1 tpos) (.Call (.Attribute o "items" apos) [] [] cpos) (yqe to):=by
 intro g s σ H R I h;erw[wpAny_Call_method0_late hbase hline (thn (ho g s σ H _ I h) λv j h'=>?_)];let#[x,D,t,y,A]:=h';let#[d,f,J,r,q]:=A;cases y;let#[_,l,ς,C,p,E,K,c,k,u,B,_]:=(show xn X.prog X.w D j.heap d (.dT f)from t.hok d _ r);erw["dict","dict.items",F.plainAttrs_dict,F.slot_dict_items,F.type_dict_items,#[p,c,k.1],λa G=>by cases G;erw[p,c,k.2.1],Calls.callWith_builtin J (PySem.evalArgs_none (yhx l c k ?_))];erw[yhu #[_,cb _ J,J,J] (bR _ c) u ?_];let m:=t.freeze r trivial c;have n:E.size=↑f:=by rw[(uh C),<- dg,B,bL]
 erw[_,[_],_,_,_,J,m.kept (t':=j.toks) λb o e=>bR _ (bR _ e),yhj d _ u n,#[_,_,cb _ J],λb z=>?_,q p];have e:b=(j.heap.push { cls:=.type "dict_items",data:=.fields #[.ref d]})⁻¹:=by simpa using z
 have i:j.heap⁻¹<=b:=by rw[e,Heap.size_push];omega
 erw[m.fpOk i (m.hok.fresh i)]
def ynx{to:TE}{σ:St}{H:Hp}{R:It->Hp->Prop}(h:to σ H λx H1=>∃d kvs,x=.ref d/\H1 d=some (.dT kvs)/\∀o,R (Iti o d kvs) (upd H1 d (.frz o (.dT kvs)))):yqe to σ H R:=h
def vhi(H:Hp)(D:ď):ď:={D with nx:=λσ' H'=>∃d o u,(∀o u,H d≠some (.frz o u))/\H' d=some (.frz o u)/\D.nx σ' (upd H' d u)}
def vfm(t:TS):TS:=λD σ H=>t (vhi H D) σ H
def yt8{st:qd}{t:TS}(h:PS X st t):PS X st (vfm t):=by
 erw[.mk λa s σ H D I q=>?_,<-thn (h a s σ H _ I q) λf i z=>?_]
 cases f with
 |next =>
  let#[σ',j,ς,d,o,c,g,b,k]:=z;erw[σ',_,ς.thaw (λo u e=>g o u (I.base.frzs d o u e)) b,k]
 |brk=>erw[z]
 |cont=>erw[z]
 |ret u=>erw[z]
def vci{t:TS}{D:ď}{σ:St}{H:Hp}(h:t (vhi H D) σ H):vfm t D σ H:=h
end
end
mutual
def yiz{o:Obj}{d:qa}{kvs:qj (qj Key×V)}{g:TG}{tb:TS}{D:ď}{σ:St}{H:Hp}(Pv:Nat->St->Hp->Prop)(h0:Pv 0 σ H)(hl:∀i σ H,i<=↑kvs->Pv i σ H->H d=some (.frz o (.dT kvs)))
  (hs:∀i key v σ H t kt,kvs[i]?=some (key,v)->Pv i σ H->H t=none->H kt∪(key.map kV)->g ⇑t σ (upd H t (.tup [.ref kt,v])) λσ2 H2=>tb {D with nx:=Pv (i+1),ct:=Pv (i+1),bk:=D.nx} σ2 H2) (hd:∀σ H,Pv ↑kvs σ H->D.nx σ H):
  ∃W:Nat->Nat->St->Hp->Prop,(∃m,W 0 m σ H)/\∀i m σ H,W i m σ H ->
   ((Iti o d kvs).stop i H/\D.nx σ H)\/((Iti o d kvs).go i H/\∃N:Ζ,(∀σ' H',N σ' H'->∃m',m'<m/\W (i+1) m' σ' H')/\∀x H',(Iti o d kvs).yld i H x H'->g x σ H' λσ2 H2=>tb {D with nx:=N,ct:=N,bk:=D.nx} σ2 H2):=by
 erw[λi m σ H=>m=↑kvs-i/\i<=↑kvs/\Pv i σ H,#[kvs.length,(by simp),cK _,h0],?_];rintro i m σ H ⟨rfl,h,p⟩;let q:=hl i σ H h p;by_cases hlt:i<↑kvs
 .erw[.inr #[#[q,hlt],Pv (i+1),λσ' H' c=>#[↑kvs-(i+1),(),J,hlt,c],λx H' y=>?_]];let#[t,kt,key,v,J,f,J,a,b]:=y;erw[hs i key v σ H t kt a p f b]
 .have e:i=↑kvs:=()
  subst e;erw[.inl #[#[q,bT _],hd σ H p]]
noncomputable def Its(x:Str):It:=#[λi Z=>i<x.cps.size,λi H v H'=>H'=H/\∃c,x.cps[i]?=some c/\v=.str ⟨#[c]⟩,λi Z=>i=x.cps.size]
def yfc{w:qe}{K:xy}{ty:String}(x:Str)(t:Tok)(it:qa)(hn:["enumerate","zip","dict_itemiterator","dict_reverseitemiterator","odict_iterator","itertools.zip_longest","itertools.pairwise"].contains ty=false)
  (W:∀A:qf,A.handled=none->Walks P w A it [it] [it] x.cps.size (SignAt x) (λi h=>h.IsStrIter it ty x t i)) (hs:∀(A:qf)(i:Nat)(s:qb)(Q E:Δ),s.heap.IsStrIter it ty x t i->Q ⇑it s->wpAny (model P w) A (pyIter ⇑it) Q E s):ygz P w K tg (Its x) [it] it (λi h=>h.IsStrIter it ty x t i) where
 mem:=(by simp)
 obj:=λi h a b g=>by
  have e:b=it:=by simpa using g
  subst e;let#[o,e,_,d]:=a;erw[o,e,λv z=>by rw[d]at z;cases z]
 keep:=λi h m a k=>let ⟨o,e,r⟩:=a;#[o,k it (by simp) o e,r]
 item:=by
  intro X ς D C M i f s σ H E I n a j;subst ς D C;let#[p,B,T,L,G,F]:=n it (by simp);erw[(W X.A (I.ok.hd M)).item i s _ _ j a λv m q U l y=>?_];let#[c,u,S,J]:=U;have N:Inv X f σ H {s with heap:=m,toks:=q}:=I.turned (λb o g e=>y b o (by simpa using g) e) p B L G F;let#[o,e,R,O]:=id l;erw[_,J,yh8 (s:={s with heap:=m,toks:=q}) e R O hn #[.str ⟨#[c]⟩,H,N,#[u,J],#[J,c,S,J],l,λb g=>(n b g).1]]
 done:=by
  intro X ς D C M i f s σ H E I n a j;subst ς D C;have j:i=x.cps.size:=j;subst j;let#[p,B,T,L,G,F]:=n it (by simp);erw[(W X.A (I.ok.hd M)).done s _ _ a λm q y=>#[J,I.turned (λb o g e=>y b o (by simpa using g) e) p B L G F]]
 self:=λA i s Q E a h=>hs A i s Q E a h
end
section
mutual
variable{X:Cx}
def vk3(tl:TE):TI:=λσ H R=>tl σ H λv H1=>∃x,v=.str x/\R (Its x) H1
def ygw{l:qh}{tl:TE}(hl:PE X l tl):PI X tg l (vk3 tl):=by
 intro a s σ H R I h;erw[thn (hl a s σ H _ I h) λv c h'=>?_];let#[y,g,f,k,x,e,q]:=h';subst e;let#[t,J]:=k
 have d:∀{ob:Obj},∀b∈[c.heap⁻¹],yg0 X a g b:=λ{_}b m=>by
  have e:b=c.heap⁻¹:=by simpa using m
  subst e;erw[f.fpOk (bT _) (f.hok.fresh (bT _))]
 cases ha:x.cps.all (· <128)
 .erw[wpAny_pyIter_wide ha ?_];erw[c.heap⁻¹,[c.heap⁻¹],_,_,g,J,f.kept (t':=c.toks) λb o e=>bR _ e,yfc x t _ ∅ (λA i=>Walks.strWide i _ x t) (λZ Z Z Z Z j h=>wpAny_pyIter_striter_wide j h),#[_,cb _ J,J,J],d (ob:=default),q]
 .erw[wpAny_pyIter_ascii ha ?_];erw[c.heap⁻¹,[c.heap⁻¹],_,_,g,J,f.kept (t':=c.toks) λb o e=>bR _ e,yfc x t _ ∅ (λA i=>Walks.strAscii i _ x t) (λZ Z Z Z Z j h=>wpAny_pyIter_striter_ascii j h),#[_,cb _ J,J,J],d (ob:=default),q]
def vbs{tl:TE}{σ:St}{H:Hp}{R:It->Hp->Prop}(h:tl σ H λv H1=>∃x,v=.str x/\R (Its x) H1):vk3 tl σ H R:=h
def zv{x:Str}{k:Str}{t:Tok}{pos:Pos}(hg:Gl X x)(hm:X.mg x=some (.str k t))(hd: ~~~(((x == ("__debug__":Str))=false))):PE X (.Name x pos) (tC (.str k)):=yex hg hm #[t,J] hd
end
end
mutual
def ß{x:Str}{D:qa}{te:TE}{R:Hp->Prop}{H1:Hp}(f:Nat->V)(hD:H1 D=none)
  (hs:∀i c H,x.cps[i]?=some c->i<x.cps.size->y7 H1 H->H D\((List.range i).map f)->te [some (.str ⟨#[c]⟩)] H (MpK H1 D f x.cps.size i)) (hd:∀H,y7 H1 H->H D\((List.range x.cps.size).map f)->R H):yc4 (Its x) te D R H1:=by
 erw[cW x.cps.size (Mp H1 D f),#[x.cps.size,(by simp),cK _,Mp.zero hD],?_];rintro i m H ⟨rfl,d,p⟩;by_cases hlt:i<x.cps.size
 .erw[.inr #[hlt,λv b y=>?_]];let#[J,c,a,J]:=y;erw[hs i c _ a hlt p.1 p.2]
 .have e:i=x.cps.size:=()
  subst e;erw[.inl #[J,hd H p.1 p.2]]
noncomputable def Itv(o:Obj)(d:qa)(kvs:qj (Key×V)):It :=
 #[λi H=>H d=some (.frz o (.dK kvs))/\i<↑kvs,λi H x H'=>H'=H/\∃k,kvs[i]?=some (k,x),λi H=>H d=some (.frz o (.dK kvs))/\↑kvs<=i]
def via{w:qe}{k:Key}{u:qc}(r:(w8 P w).is k u=true):xq (kV k) u:=by rcases xg r with⟨i,t,rfl,rfl⟩|⟨x,t,rfl,rfl⟩<;>erw[t,J]
def KV.get{kvs:qj (Key×V)}{vs:qj (Key×qc)}(r:KV kvs vs){i:Nat}{k:Key}{u:qc}(h:vs[i]?=some (k,u)):∃v,kvs[i]?=some (k,v)/\xq v u:=by let#[#[b,v],e,a,c]:=ycb r h;have a:b=k:=a;erw[v,by rw[e,a],c]
def yxr{xs:Τ}{us:Ξ}(hl:↑xs=↑us)(h:∀(i:Nat)u,us[i]?=some u->∃x,xs[i]?=some x/\xq x u):w9 xs us:=by
 induction xs generalizing us with
 |nil =>
  cases us with
  |nil=>erw[.nil]
  |cons u us=>cases hl
 |cons x xs ih =>
  cases us with
  |nil=>cases hl
  |cons u us =>
   let#[y,e,r]:=h 0 u J;cases e;erw[.cons r (ih (Nat.succ.inj hl) λi u a=>h (i+1) u a)]
def yta{X:Cx}{σ:St}{H:Hp}{s:qb}{d:qa}{kvs:qj (Key×V)}{o:Obj}{es:Array DictEntry}(I:(Inv X pins σ H) s)(hd:H d=some (.frz o (.dK kvs)))(ho:o.data=.dict es ep):∃vs,KV kvs vs/\s.heap.DictAt (w8 X.prog X.w) d vs ep:=by let#[a,_,_,vs,r,i,h,f,b,g,c,e]:=(show xn X.prog X.w H s.heap d (.frz o (.dK kvs))from I.hok d _ hd);rw[a]at b;cases b;rw[ho]at c;cases c;erw[vs,r,o,es,a,g,ho,e]
def yjr{w:qe}{K:xy}{o:Obj}{es:Array DictEntry}{kvs:qj (Key×V)}(d it:qa)(hne:d≠it)(ho:o.data=.dict es ep):ygz P w K tg (Itv o d kvs) [it] it (λi h=>h.IsValIter it d i ↑kvs ep) where
 mem:=(by simp)
 obj:=λi h a b f=>by
  have e:b=it:=by simpa using f
  subst e;let#[o,e,_,d]:=a;erw[o,e,λv z=>by rw[d]at z;cases z]
 keep:=λi h j a k=>a.at λo e=>k it (by simp) o e
 item:=by
  intro X C u t G i c s σ H E I l a #[n,N];subst C u t;let#[p,q,f2,D,B,x]:=l it (by simp);let#[L,r,F]:=yta I n ho;let m:=↑r;let W:=Walks.dictValues (knd:=w8 X.prog X.w) (prog:=X.prog) (w:=X.w) (A:=X.A) (I.ok.hd G) it d hne L ep;erw[W.item i s _ _ () #[by rwa[<- m,a],F] λv j ς hv g R=>?_];let#[k,hx]:=hv;let#[y,U,Z]:=r.get hx;have Q:Inv X c σ H {s with heap:=j,toks:=ς}:=I.turned (λb o f e=>R b o (by simpa using f) e) p q D B x;let#[o',S,O,Y]:=id g.1;erw[_,J,yh8 (s:={s with heap:=j,toks:=ς}) S O Y ∅ #[y,H,Q,Z,#[J,k,U],by rwa[m,g.1],λb f=>(l b f).1]]
 done:=by
  intro X C u t G i c s σ H E I l a #[n,M];subst C u t;let#[p,q,f2,D,B,x]:=l it (by simp);let#[L,r,F]:=yta I n ho;let m:=↑r;erw[wpAny_pyNext_values_end (I.ok.hd G) (by rwa[<- m,a]) F (by rw[List.getElem?_eq_none_iff];omega) λj T=>#[J,I.turned (t':=s.toks) (λb o f e=>T b o f e) p q D B x]]
 self:=λv v v v v a h=>wpAny_pyIter_valiter a h
end
section
mutual
variable{X:Cx}
def vgx(to:TE):TI:=λσ H R=>to σ H λx H1=>∃d kvs,x=.ref d/\H1 d=some (.dK kvs)/\∀o,R (Itv o d kvs) (upd H1 d (.frz o (.dK kvs)))
def yw7{l:qh}{to:TE}(hl:PE X l to)(hbase:¬¬(attributeBase l "values" X.env (eval l X.env)=eval l X.env))(hline:¬¬((apos.endLine == cpos.line)=true)):PI X tg (.Call (.Attribute l "values" apos) [] [] cpos) (vgx to):=by
 intro i s σ H R I h;erw[wpAny_Call_method0_late hbase hline (thn (hl i s σ H _ I h) λv c h'=>?_)];let#[x,E,A,C,d,kvs,e,z,q]:=h';subst e;cases C;let#[_,n,p,r,k,G,ep,f,u,B,ς]:=(show xn X.prog X.w E c.heap d (.dK kvs)from A.hok d _ z);have y:c.heap.DictAt (w8 X.prog X.w) d p ep:=#[k,G,f,u,B,ς];erw["dict","dict.values",F.plainAttrs_dict,F.slot_dict_values,F.type_dict_values,#[k,f,u.1],λa K=>by cases K;erw[k,f,u.2.1],Calls.callWith_builtin J (PySem.evalArgs_none (call_meetsIn F.slot_dict_values y.dictOf.typeIs F.entry_dict_values (F.args_dict_values_1 _) (meets_dict_values (w8 X.prog X.w) d n) #[#[p,y.dictOf],?_]))];erw[wpAny_pyIter_values (knd:=w8 X.prog X.w) (d:=d) (kvs:=p) (ep:=ep) #[_,cb _ J,J,J] (y.push _) ?_];let t:=A.freeze z trivial f;have g:(c.heap.push { cls:=.type "dict_values",data:=.fields #[.ref d]})⁻¹=c.heap⁻¹+1:=Heap.size_push ..;have m:d<c.heap⁻¹:=cg f;erw[_,[_],_,_,_,J,t.kept (t':=c.toks) λb o e=>bR _ (bR _ e),yjr d _ (show d≠(c.heap.push _)⁻¹ by rwa[g,cR (Nat.lt_succ_of_lt m)]) B,#[_,cb _ J,J,by rw[r.length];rfl],λb D=>?_,q k];have e:b=(c.heap.push { cls:=.type "dict_values",data:=.fields #[.ref d]})⁻¹:=by simpa using D
 have j:c.heap⁻¹<=b:=by rw[e,g];omega
 erw[t.fpOk j (t.hok.fresh j)]
def yu7{to:TE}{σ:St}{H:Hp}{R:It->Hp->Prop}(h:to σ H λx H1=>∃d kvs,x=.ref d/\H1 d=some (.dK kvs)/\∀o,R (Itv o d kvs) (upd H1 d (.frz o (.dK kvs)))):vgx to σ H R:=h
def ysi(t:TE):TE:=λσ H Q=>t σ H λv H'=>∃d o u,(∀o u,H d≠some (.frz o u))/\H' d=some (.frz o u)/\Q v (upd H' d u)
def yuy{e:qh}{t:TE}(h:PE X e t):PE X e (ysi t):=.mk λa s σ H Q I q=>thn (h a s σ H _ I q) λv f z=>by
 let#[x,g,ς,r,d,o,u,c,b,k]:=z;erw[x,_,ς.thaw (λo u e=>c o u (I.base.frzs d o u e)) b,r,k]
def yva{t:TE}{σ:St}{H:Hp}{Q:VK}(h:t σ H λv H'=>∃d o u,(∀o u,H d≠some (.frz o u))/\H' d=some (.frz o u)/\Q v (upd H' d u)):ysi t σ H Q:=h
def yyu:qj V->Hp->VK->Prop:=λxs H Q=>∃d kvs,xs=[.ref d]/\H d=some (.dK kvs)/\∀l,H l=none->Q ⇑l (upd H l (.lst (kvs.map λp=>kV p.1)))
def yh5(hc:X.calm=true):j6 X (.type "list") yyu:=by
 intro j s σ H R T Q I r h;let#[d,kvs,J,l,q]:=h;let#[u,J,E]:=č r;cases E;let#[g,c,f,r,L,D,ep,m,ς,B,K]:=(show xn X.prog X.w H s.heap d (.dK kvs)from I.hok d _ l);have M:s.heap.DictAt (w8 X.prog X.w) d f ep:=#[L,D,m,ς,B,K];erw[W.kdl_call (W.kdl_dict (knd:=w8 X.prog X.w) (kvs:=f) (ep:=ep) c) (I.ok.hd hc) M (by rwa[<- ↑r,g]) λz A a o n e b=>?_]
 have N:w9 (kvs.map λp=>kV p.1) a.toList:=yxr (by have P:=b.1;let O:=↑r;have S:↑a.toList=a.size:=dg;rw[bL];omega) λi v F=>by
  let#[k,x,G,t]:=b.2 i v (by rwa[<- Array.getElem?_toList,F]);let#[y,C,_]:=r.get G;erw[kV k,by rw[bU,C];rfl,via t]
 erw[.ref s.heap⁻¹,_,I.laid (t':=A) n (bT _) (show xn X.prog X.w _ z _ (.lst _)from #[by rwa[bL,g],a.toList,o,N,by rwa[Array.toArray_toList,e]]),J,q _ (I.hok.fresh (bT _))]
end
end
mutual
def yhk{o:Obj}{d D:qa}{kvs:qj (Key×V)}{te:TE}{fr:St}{R:Hp->Prop}{H1:Hp}(Pv:Nat->Hp->Prop)(h0:Pv 0 (upd H1 D (.lst [])))(hl:∀i H,i<=↑kvs->Pv i H->H d=some (.frz o (.dK kvs)))
  (hs:∀i k v H,kvs[i]?=some (k,v)->i<↑kvs->Pv i H->te (some v::fr) H λy H4=>∃ys,H4 D\ys/\↑ys<sizeLine/\∃m',m'<↑kvs-i/\cW ↑kvs Pv (i+1) m' (upd H4 D (.lst (ys++[y])))) (hd:∀H,Pv ↑kvs H->R H):zd (Itv o d kvs) te fr D R H1:=by
 erw[cW ↑kvs Pv,#[kvs.length,(by simp),cK _,h0],?_];rintro i m H ⟨rfl,b,p⟩;let q:=hl i H b p;by_cases hlt:i<↑kvs
 .erw[.inr #[#[q,hlt],λx c y=>?_]];let#[J,k,a]:=y;erw[hs i k x _ a hlt p]
 .have e:i=↑kvs:=()
  subst e;erw[.inl #[#[q,bT _],hd H p]]
noncomputable def isN:V->Bool
 | .non=>true
 |_=>false
noncomputable def vhr:qc->Bool
 | .none=>true
 |_=>false
def vlt(K:xy):R2:=λx y H Q=>∃p xs,x=.non/\y=.ref p/\SqL K H p xs/\(∀z∈xs,z=.non\/∃q ys,z=.ref q/\SqL K H q ys)/\Q (.bl (xs.any isN)) H
theorem ylh:∀{xs:Τ}{us:Ξ},w9 xs us->(∀z∈xs,z=.non\/∃q,z=.ref q)->us.any vhr=xs.any isN
 |_,_,.nil,_=>rfl
 |y::xs,u::us,.cons r t,f=>by
  rw[List.any_cons,List.any_cons,ylh t λz a=>f z (cF _ a)]
  congr 1
  rcases f y cG with rfl|⟨q,rfl⟩
  .cases r;rfl
  .cases r;rfl
def yzi{X:Cx}(hu:X.A.units+64<cLine):OpR X (compareOp .In) (vlt X.K):=by
 intro n s σ H x y v u Q I F G h;let#[p,d,J,J,B,c,q]:=h;cases F;cases G;let#[b,r,E,D]:=I.list B
 have g:∀{d:Τ}{j:Ξ},w9 d j->(∀z∈d,z=.non\/∃q o,z=.ref q/\SqL X.K H q o)->∀w∈j,SeqAt.EqAt X.A.in1 s w .none (vhr w):=by
  intro d j C
  induction C with
  |nil=>intro _ w a;cases a
  |cons r1 t ih =>
   intro f w a;rcases bZ.mp a with rfl|a
   .rcases f _ cG with rfl|⟨ς,o,rfl,i⟩
    .cases r1;erw[SeqAt.EqAt.same _]
    .cases r1;let#[m,_,k,_]:=I.list i;erw[SeqAt.EqAt.list_none k.isList (by show X.A.units+1<cLine;omega)]
   .erw[ih (λz c=>f z (cF _ c)) w a]
 erw[SeqAt.in_listAt vhr E.isList (λw a=>g r c w (by simpa using a)) #[.bl _,H,I,J,?_]];rw[show b.toArray.any vhr=b.any vhr by simp,ylh r λz l=>(c z l).imp id λ⟨q,_,e,_⟩=>#[q,e]];erw[q]
def yiv{X:Cx}:j6 X (.builtin "len") (λxs H Q=>∃a kvs,xs=[V.ref a]/\H a=some (.dK kvs)/\Q (↑kvs:) H):=by intro b s σ H xs g Q I r h;let#[a,kvs,J,e,q]:=h;let#[u,J,d]:=č r;cases d;erw[vjm I (.of e) λt f c=>#[.int ↑kvs,H,c,#[t,J],q]]
def yv3{σ:St}{H:Hp}{Q:VK}(h:∀p,H p=none->Q ⇑p (upd H p (.dK []))):ysj σ H Q:=h
def yv5{td ty:TE}{σ:St}{H:Hp}{Q:VK}(h:td σ H λx H1=>∃a,x=.ref a/\IsD H1 a/\ty σ H1 λy H2=>∃kvs k v,H2 a=some (.dK kvs)/\y=kV k/\j7 kvs k=some v/\Q v (upd H2 a (.dK (Č kvs k)))):ysx td ty σ H Q:=h
def yjs(bs:qj Bool):((List.range ↑bs).any λi=>(bs[i]?).getD false)=bs.any id:=by
 rw[Bool.eq_iff_iff,List.any_eq_true,List.any_eq_true]
 constructor
 .rintro ⟨i,a,h⟩;let a:=c8.mp a;rw[bP a]at h;erw[_,cE a,h]
 .rintro ⟨b,c,h⟩;let#[i,a,J]:=List.getElem_of_mem c;erw[i,c8.mpr a,by rwa[bP a,h]]
def ynd{X:Cx}(hc:X.calm=true):j6 X (.builtin "any") (λxs H Q=>∃p bs,xs=[.ref p]/\SqL X.K H p (List.map V.bl bs)/\Q (.bl (bs.any id)) H):=by
 intro g s σ H xs E Q I r h;let#[p,bs,J,l,q]:=h;let#[u,J,t]:=č r;cases t;let#[n,j,o,C]:=I.list l;obtain rfl:=yaw j;let f:=o.isList;have c:p<s.heap⁻¹:=by let#[_,e,_]:=f;erw[cg e]
 erw[call_any_walk (wpAny_pyIter_list f ?_)]
 erw[s.heap⁻¹,[s.heap⁻¹,p],[s.heap⁻¹],(bs.map Value.bool).toArray.size,_,_,λi=>(bs[i]?).getD false,J,Walks.list (A:=X.A.in1) (show X.A.handled=none from I.ok.hd hc) _ p (cR c) (bs.map Value.bool).toArray,
  #[#[_,cb _ J,J,J],f.push _],λi v y D z a d=>?_,λB m k=>?_]
 .have a:(bs.map Value.bool)[i]?=some v:=by simpa using a
  rw[bU]at a
  cases e:bs[i]? with
  |none=>rw[e]at a;cases a
  |some b =>
   dsimp only at d;rw[e]at a d;cases a;erw[dm d]
 .have e:((List.range (bs.map Value.bool).toArray.size).any λi=>(bs[i]?).getD false)=bs.any id:=by rw[cu,bL];exact yjs bs
  rwa[e,#[.bl (bs.any id),H,I.kept (t':=m) λb x e=>k b x (λw=>?_) (bR _ e),J,q]];rw[bX.mp w]at e;erw[dv _ (cg e)]
end
section
mutual
variable{X:Cx}
def vj7:V->ql Int->ql Int->Hp->VK->Prop:=λx lo hi H Q=>∃z:Str,x=.str z/\↑z<=sizeLine/\Q (.str (Txt.slice z lo hi)) H
def yll:SlR X vj7:=by
 intro e s σ H x v o n lo p m Q I g a f d h;let#[z,J,b,q]:=h;let#[t,J]:=g;erw["str",_,F.slot_str_getitem.lookup,typeIs_str _ _ _,?_]
 cases f with
 |none =>
  cases d with
  |none=>erw[wpAny_getItem_str_slice (l:=none) (u:=none) (st:=none) a J (post_val_or_str #[cN (Txt.slice_le z _ _) b,λc k=>#[.str _,H,I.tok _,#[_,J],q]])]
  |int j uj=>erw[wpAny_getItem_str_slice (l:=none) (u:=some (j,uj)) (st:=none) a J (post_val_or_str #[cN (Txt.slice_le z _ _) b,λc k=>#[.str _,H,I.tok _,#[_,J],q]])]
 |int i ui =>
  cases d with
  |none=>erw[wpAny_getItem_str_slice (l:=some (i,ui)) (u:=none) (st:=none) a J (post_val_or_str #[cN (Txt.slice_le z _ _) b,λc k=>#[.str _,H,I.tok _,#[_,J],q]])]
  |int j uj=>erw[wpAny_getItem_str_slice (l:=some (i,ui)) (u:=some (j,uj)) (st:=none) a J (post_val_or_str #[cN (Txt.slice_le z _ _) b,λc k=>#[.str _,H,I.tok _,#[_,J],q]])]
def ynq{x:Str}{j:Nat}(h:j<=↑x):(Txt.slice x none (some (j:Int))).cps.toList=x.cps.toList.take j:=by have e:=slice_closes_toL (x:=x) (j:=(j:Int)) () ();rw[beq_iff_eq.mp e];simp
def yg3{x:Str}{j:Nat}(h:j<=↑x):(Txt.slice x (some (j:Int)) none).cps.toList=x.cps.toList.drop j:=by
 rw[slice_from_eq (b:=(↑x:Int)) () () J];have e:↑x=↑x.cps.toList:=by simp[Str.length]
 simp;rw[cU (by rw[du,e];omega)]
end
end
section
mutual
variable{X:Cx}
def vj1:R2:=λx y H Q=>∃(z:Str)(k:Int),x=.str z/\y=.int k/\0<=k/\k<=2000/\↑z<=1000/\∀z':Str,z'.cps.toList=(List.replicate k.toNat z.cps.toList).flatten->Q (.str z') H
theorem ykp(a:Array Nat):∀(k:Nat)(b:Array Nat),((List.replicate k a).foldl (·++·) b).toList=b.toList++(List.replicate k a.toList).flatten
 |0,b=>by simp
 |k+1,b=>by
  rw[c9,List.foldl_cons,ykp a k,Array.toList_append,c9,List.flatten_cons,cq]
theorem ş:OpR X (binaryOp .Mult) vj1:=by
 intro a s σ H x y v u Q I f g h;let#[z,k,J,J,l,n,j,q]:=h;let#[t,J]:=f;let#[o,J]:=g;by_cases k0:k<1
 .erw[P.mul_str_none k0 () #[.str Str.empty,H,I.tok _,#[_,J],q _ (by rw[show k.toNat=0 by omega];rfl)]]
 have m:↑z*k.toNat<=1000*2000:=Nat.mul_le_mul j ();erw[P.mul_str (by rw[cj (),cj ()];rfl) (λZ Z=>?_) (λZ Z=>?_) ?_]
 .have c:(↑z:Int)*k=((↑z*k.toNat:Nat):Int):=by rw[Int.natCast_mul,Int.toNat_of_nonneg ()]
  have d:(↑z:Int)*k<=(2^63-1:Int):=by rw[c];omega
  erw[Int.not_lt.mpr (Int.le_ediv_of_mul_le () d)]
 .have:=sizeLine_eq;unfold Builtin.Str.tooLong;erw[cj ()]
 .rw[if_neg ()];by_cases h1:(k == 1 || ↑z == 0)=true
  .rw[if_pos h1];erw[.str z,H,I,#[_,J],q z ?_];rcases Bool.or_eq_true_iff.mp h1 with e|e
   .rw[beq_iff_eq.mp e];simp
   .have i:z.cps.toList=[]:=dE (by have:=beq_iff_eq.mp e;simpa[Str.length]using this);rw[i];simp
  .rw[if_neg h1];let b:=ykp z.cps k.toNat #[];exists ?_,#[.str _,H,I.tok _,#[_,J],q _ b]
   have e:Str.length ⟨(List.replicate k.toNat z.cps).foldl (·++·) #[]⟩=k.toNat*↑z.cps.toList:=by
    show ((List.replicate k.toNat z.cps).foldl (·++·) #[]).size=_;rw[<- dg,b];simp[List.sum_replicate_nat]
   rw[e,sizeLine_eq,Nat.mul_comm];have:↑z.cps.toList=↑z:=by simp[Str.length]
   rw[this];omega
end
end
section
variable{prog:qi}{w:qe}
noncomputable def vjd(k:Int×qj Int):Int:=reduceHash (Builtin.Tuple.tupleHashOf [hashInt k.1,reduceHash (Builtin.Tuple.tupleHashOf (k.2.map hashInt))])
variable{A:qf}{E:Δ}{s:qb}
end
mutual
abbrev NX:=(Int×qj Int)×qa×qa
def vlo(x:NX):DictEntry:=#[vjd x.1,.ref x.2.1,.ref x.2.2]
def ND(a:qa)(xs:qj NX):HO:=.ext λh=>(a == sysModules)=false/\∃o es ep,h.get? a=some o/\o.ExactDict/\o.data=.dict es ep/\es.toList=xs.map vlo
def NKy(H:Hp)(p:qa)(k:Int×qj Int):Prop:=∃b,H p∪[.int k.1,.ref b]/\H b∪↥k.2
structure NDt(H:Hp)(a:qa)(xs:qj NX):Prop where
 o:H a=some (ND a xs)
 k:∀x∈xs,NKy H x.2.1 x.1
 n:(xs.map (·.1)).Nodup
 l:↑xs<sizeLine
def yrd{X:Cx}{K:xy}{o e:qh}{es:qj qh}{to:TE}{t:TA}{name:Str}{T id:String}{r:V->qj V->Hp->VK->Prop}(hK:X.K=K)(pa:PlainAttrs T)(slot:Slot T name id)(hty:typeOf (.builtin id)=pure (.type "method_descriptor"))(hm:MtR X id r)(ho:PE X o to)(ha:PA X (e::es) t)
  (hbase:¬¬(attributeBase o name X.env (eval o X.env)=eval o X.env))
  (hfew:((backTo cpos (starEach (e::es) X.env)).all (λx=>!x.1) && (backToKw cpos (keywordEach [] X.env)).all (λx=>x.1.isSome)
   && decide (↑(e::es)+↑([]:qj Keyword)+(if ([]:qj Keyword).isEmpty then 0 else 1)<30))=true:=by rfl)
  (hline:¬¬((apos.endLine == cpos.line)=true)) (hs:¬¬((starEach (e::es) X.env=(false,eval e X.env)::starEach es X.env))) (hplain:¬¬((backTo cpos (starEach es X.env)).any (·.1)=false)):
  PE X (.Call (.Attribute o name apos) (e::es) [] cpos) (tBM K T r to t):=hK ▸ zb pa slot hty hm ho ha hbase hfew hline hs hplain
end
end L2
namespace L2
open PySem.SeqAt PySem.Builtin PySem.Builtin.Str
mutual
noncomputable def isS(b:Str):qc->Bool
 | .str x _=>decide (x=b)
 |_=>false
def vkp(ns:Ρ)(b:Str)(j:Nat):Prop:=ns[j]?=some b/\∀m,m<j->ns[m]?≠some b
theorem ylp(b:Str):∀{ns:Ρ}{vs:Ξ},w9 (ns.map V.str) vs->∀(j:Nat)(h:j<↑vs),isS b vs[j]=decide (ns[j]?=some b)
 |[],_,.nil,j,h=>absurd h (cD j)
 |x::ns,_,.cons r rs,j,h=>by
  let#[t,J]:=r
  cases j with
  |zero =>
   show decide (x=b)=decide (some x=some b);simp
  |succ j=>erw[ylp b rs j (Nat.lt_of_succ_lt_succ h)]
theorem yqx(b:Str)(u:Tok):∀{ns:Ρ}{vs:Ξ},w9 (ns.map V.str) vs->∀y,y∈vs->MeetsSeq.EqGives y (.str b u) (isS b y)
 |[],_,.nil,y,h=>nomatch h
 |x::ns,_,.cons r rs,y,h=>by
  let#[t,J]:=r;rcases bZ.mp h with rfl|h
  .erw[λZ Z Z Z Z Z h=>wpAny_eqBool_str h]
  .erw[yqx b u rs y h]
end
section
mutual
variable{X:Cx}
def ywe(K:xy):V->qj V->Hp->VK->Prop:=λx vs H Q=>∃l ns b j,x=.ref l/\vs=[.str b]/\SqL K H l (List.map V.str ns)/\vkp ns b j/\Q ((j:Nat):) H
def yiy:MtR X "list.index" (ywe X.K):=by
 intro w s σ H x S v U Q I N E h;let#[l,g,b,j,J,J,ς,#[z,e],q]:=h;cases N;let#[u,J,P]:=E.one;let#[t,J]:=P;let#[a,r,M,o]:=I.list ς;let#[#[B,T,i,C],n,p,A,d,c]:=M;simp only at A d c;subst A d c;have k:↑g=↑a:=by rw[<- ↑r,bL]
 have D:j<↑g:=(bY.mp z).1;let G:=ycv;have R:↑g<=sizeLine:=by rw[bL]at o;erw[o]
 refine call_meets PySem.F.slot_list_index #[_,p,J] PySem.F.entry_list_index (PySem.F.args_list_index_2 _ _)
  (list_indexAt l a.toArray n none C (.str b t) (isS b) j (by rw[cu];omega) () ?_ ?_) #[p,λy L=>(yqx b t r y (by simpa using L)).at _ _,.int j,H,I.tok _,#[_,J],q]
 .show isS b a[j]=true;rwa[ylp b r j (),bV z]
 .intro m O f;show isS b a[m]=false;rwa[ylp b r m (by simpa using O),cj (e m f)]
def yeb:V->qj V->Hp->VK->Prop:=λx vs H Q=>∃y b,∃i:Nat,∃xj,x=.str y/\vs=[.str b]/\occurrences y b 0 ↑y 1=i::xj/\Q (i:) H
def ych:MtR X "str.index" yeb:=by intro a s σ H x j v k Q I e f h;let#[y,b,i,xj,J,J,c,q]:=h;let#[t,J]:=e;let#[u,J,d]:=f.one;let#[g,J]:=d;erw[SC.index c #[.int i,H,I.tok _,#[_,J],q]]
end
end
def vjw(t:qa)(o:Obj)(n:Nat)(x y z b:Str)(tx ty tz u:Tok)(hc:o.cls=.type "tuple")(hd:o.data=.seq (List.toArray [.str x tx,.str y ty,.str z tz]) n)(k:Nat)(hk:(x=b/\k=0)\/(x≠b/\y=b/\k=1)\/(x≠b/\y≠b/\z=b/\k=2)):
  Meets (Builtin.«tuple.index» #[[.ref t,.str b u],[]]) (λZ R s=>s.heap.get? t=some o/\R (.ok (.ret (.int (k:Nat) s.toks))) {s with toks:=s.toks+1}) :=
 .of_wp λa w A R s h=>by
  let#[F,g,K,H,ς]:=s;let#[m,h]:=h;let#[c,d,G,I]:=o;simp only at hc hd;subst hc hd;unfold Builtin.«tuple.index»;simp only[Std.Legacy.Range.forIn_eq_forIn_range',Std.Legacy.Range.size,Nat.sub_zero,Nat.add_sub_cancel,Nat.div_one]
  have f:∀{c:Bool}{q r:Str}{v B:Tok},decide (q=r)=c->∀{Q:Bool->qb->Prop}{E:Δ}{A:qf}{s:qb},Q c s->wpAny (model a w) A (eqBool (.str q v) (.str r B)) Q E s:=by
   intro c q r v B e Q E A s h;erw[wpAny_eqBool_str (by rwa[e,h])]
  rcases hk with⟨j,rfl⟩|⟨j,p,rfl⟩|⟨j,p,C,rfl⟩
  .have i:∀{Q:Bool->qb->Prop}{E:Δ}{A:qf}{s:qb},Q true s->wpAny (model a w) A (eqBool ((List.toArray [Value.str x tx,Value.str y ty,Value.str z tz])[0]) (Value.str b u)) Q E s:=λh=>f (bV j) h
   wp_walk using AutoSeq1.wpAny_loadPart' m,i
   exists _,J,h
  .have i:∀{Q:Bool->qb->Prop}{E:Δ}{A:qf}{s:qb},Q false s->wpAny (model a w) A (eqBool ((List.toArray [Value.str x tx,Value.str y ty,Value.str z tz])[0]) (Value.str b u)) Q E s:=λh=>f (cj j) h;have l:∀{Q:Bool->qb->Prop}{E:Δ}{A:qf}{s:qb},Q true s->wpAny (model a w) A (eqBool ((List.toArray [Value.str x tx,Value.str y ty,Value.str z tz])[1]) (Value.str b u)) Q E s:=λh=>f (bV p) h
   wp_walk using AutoSeq1.wpAny_loadPart' m,i,l
   exists _,J,h
  .have i:∀{Q:Bool->qb->Prop}{E:Δ}{A:qf}{s:qb},Q false s->wpAny (model a w) A (eqBool ((List.toArray [Value.str x tx,Value.str y ty,Value.str z tz])[0]) (Value.str b u)) Q E s:=λh=>f (cj j) h;have l:∀{Q:Bool->qb->Prop}{E:Δ}{A:qf}{s:qb},Q false s->wpAny (model a w) A (eqBool ((List.toArray [Value.str x tx,Value.str y ty,Value.str z tz])[1]) (Value.str b u)) Q E s:=λh=>f (cj p) h;have D:∀{Q:Bool->qb->Prop}{E:Δ}{A:qf}{s:qb},Q true s->wpAny (model a w) A (eqBool ((List.toArray [Value.str x tx,Value.str y ty,Value.str z tz])[2]) (Value.str b u)) Q E s:=λh=>f (bV C) h
   wp_walk using AutoSeq1.wpAny_loadPart' m,i,l,D
   exists _,J,h
section
variable{X:Cx}
def yxj(K:xy):V->qj V->Hp->VK->Prop:=λx vs H Q=>∃y0 y1 y2 b t,∃k:Nat,x=.ref t/\vs=[.str b]/\SqT K H t [.str y0,.str y1,.str y2]/\((y0=b/\k=0)\/(y0≠b/\y1=b/\k=1)\/(y0≠b/\y1≠b/\y2=b/\k=2))/\Q ((k:Nat):) H
def yjx:MtR X "tuple.index" (yxj X.K):=by
 intro c s σ H x E v ς Q I A p h;let#[B,j,D,b,t,k,J,J,i,l,q]:=h;cases A;let#[u,J,C]:=p.one;let#[f,J]:=C;let#[m,r,z,G]:=I.tuple i;let#[o,a,d,n,e]:=z
 cases r with
 |cons r0 r=>cases r with
  |cons r1 r=>cases r with
   |cons r2 r =>
    cases r;let#[w,J]:=r0;let#[y,J]:=r1;let#[g,J]:=r2;erw[call_meets PySem.F.slot_tuple_index #[_,a,d] PySem.F.entry_tuple_index (PySem.F.args_tuple_index_2 _ _) (vjw t o n B j D b w y g f d e k l) #[a,.int k,H,I.tok _,#[_,J],q]]
end
end L2
namespace L2
variable{e:qh}
def jx.m{j k:Nat}{A:qf}(r:jx k A)(h: ~~~(j<=k)):jx j A:=r.mono h
section
variable{X:Cx}{es:qj qh}{te:TE}{t:TA}
def pa1(ha:PE X e te)(h:autoParam (yeo e=true) aF._auto_1):PA X [e] (ymv te yie):=μ ha ub (η h)
def pac(ha:PE X e te)(hr:PA X es t)(h:autoParam (yeo e=true) aF._auto_1):PA X (e::es) (ymv te t):=μ ha hr (η h)
end
section
mutual
variable{X:Cx}{k:Nat}{f:qa}{fd:FuncData}{ps:Ρ}{sp:Sp}{Ex:St->XK}{x:Str}{p pos:Pos}{es:qj qh}{t:TA}{st:qd}{id:String}{r:qj V->Hp->VK->Prop}{T:String}
def x0(F:vq X.prog X.w X.K X.mg X.base CX0 k f fd ps sp)(hr:jx k X.A)(D:Dff X.K X.mg x st ps f fd)(ha:PA X (e::es) t)(hg:autoParam (Gl X x) aF._auto_1)(hdb: ~~~(((x == ("__debug__":Str))=false)))
  (he:¬¬((starEach (e::es) X.env=(false,eval e X.env)::starEach es X.env))) (hpl:¬¬(((backTo pos (starEach es X.env)).any (·.1)=false))):PE X (.Call (.Name x p) (e::es) [] pos) (yxy sp [] E0 t):=yel F hr hg D.m D.F.kp D.B .nil vo ha hdb he hpl
def uk(F:vq X.prog X.w X.K X.mg X.base (CXe X.prog X.w) k f fd ps sp)(hr:jx k X.A)(D:Dff X.K X.mg x st ps f fd)(hc:ÿ X Ex)(ha:PA X (e::es) t)(hg:autoParam (Gl X x) aF._auto_1)(hdb: ~~~(((x == ("__debug__":Str))=false)))
  (he:¬¬((starEach (e::es) X.env=(false,eval e X.env)::starEach es X.env))) (hpl:¬¬(((backTo pos (starEach es X.env)).any (·.1)=false))):PE X (.Call (.Name x p) (e::es) [] pos) (yln sp [] Ex t):=yof F hr hg D.m D.F.kp D.B .nil hc ha hdb he hpl
def pcB(hc:j6 X (.builtin id) r)(hm:X.mg x=none)(ha:PA X (e::es) t)(hg:autoParam (Gl X x) aF._auto_1)(hv:autoParam (bootBuiltins x=some (.builtin id)) aC._auto_1)(hn: ~~~(x≠"__name__"))(hdb: ~~~(((x == ("__debug__":Str))=false)))
  (he:¬¬((starEach (e::es) X.env=(false,eval e X.env)::starEach es X.env))) (hpl:¬¬(((backTo pos (starEach es X.env)).any (·.1)=false))):PE X (.Call (.Name x p) (e::es) [] pos) (tCB r t):=ypg hc hg hm hv ha hn hdb he hpl
def pcT(hc:j6 X (.type T) r)(hm:X.mg x=none)(ha:PA X (e::es) t)(hg:autoParam (Gl X x) aF._auto_1)(hv:autoParam (bootBuiltins x=some (.type T)) aC._auto_1)(hn: ~~~(x≠"__name__"))(hdb: ~~~(((x == ("__debug__":Str))=false)))
  (he:¬¬((starEach (e::es) X.env=(false,eval e X.env)::starEach es X.env))) (hpl:¬¬(((backTo pos (starEach es X.env)).any (·.1)=false))):PE X (.Call (.Name x p) (e::es) [] pos) (tCB r t):=yjv hc hg hm hv ha hn hdb he hpl
end
end
section
mutual
variable{X:Cx}{x f:Str}{p pos pos':Pos}{a b:qh}{ta tb te:TE}{r:R2}
def pfs(hN:¬¬(X.N[0]?=some x))(hv:autoParam (Vis X.env.scope x) aI._auto_1)(hd: ~~~(((x == ("__debug__":Str))=false)))(hcd: ~~~((x == ("__classdict__":Str))=false))(hb:¬¬(attributeBase (.Name x p) f X.env (eval (.Name x p) X.env)=eval (.Name x p) X.env)):PE X (.Attribute (.Name x p) f pos) (vhw X.K (yyj 0) f):=z0 (yl6 hN hv hd hcd) hb
def pav(i:Nat)(hN:¬¬(X.N[i]?=some x))(hv:autoParam (Vis X.env.scope x) aI._auto_1)(hd: ~~~(((x == ("__debug__":Str))=false)))(hcd: ~~~((x == ("__classdict__":Str))=false)):PA X [.Name x p] (ymv (yyj i) yie):=pa1 (yl6 hN hv hd hcd)
def pst(i:Nat)(hN:X.N.Nodup)(he:PE X e te)(hi:¬¬(X.N[i]?=some x))(hx:Loc X.env.scope x:=by exact Or.inl J)(hs:¬¬(swapsWith e (some (.Name x pos')) pos.line X.env=pure false))(hf:autoParam (X.fn x=true\/X.env.scope.names.lookup x=some .local) aG._auto_1):
  PS X (.Assign [.Name x pos'] e pos) (vhq te (xm i)):=π hN hi hx he hs hf
def pix(hr:IxR X r)(ha:PE X a ta)(hb:PE X b tb)(hs:yk4 b:=by exact λZ Z=>rfl):PE X (.Subscript a b pos) (tOp r ta tb):=viy hr ha hb hs
end
end
section
variable{X:Cx}
def vlh(cs:qj Nat):(cs.map ((λx:Str=>↑x) ∘ λc=>(⟨#[c]⟩:Str))).sum=↑cs:=by
 induction cs with
 |nil=>rfl
 |cons c cs ih=>rw[cO,List.sum_cons,ih,cn];show 1+↑cs=_;omega
end
end L2
namespace L2
open PySem.Builtin PySem.Builtin.Str in
def yo2{prog:qi}{w:qe}{A:qf}{E:Δ}{s:qb}{x y:Str}{t u:Tok}{Q:Δ}(hy:(↑y == 0)=false)
  (hq:∀l k,l.map (·.1)=Txt.split x y->Q ⇑s.heap⁻¹ {s with heap:=s.heap.push { cls:=.type "list",data:=.seq (strValues l).toArray},toks:=k})
  (hsz:↑x<=sizeLine) (hsz2:↑(partsBetween x (occurrences x y 0 ↑x (↑x+1)) ↑y)<=sizeLine):
  wpAny (model prog w) A (call (.builtin "str.split") [.str x t,.str y u]) Q E s:=by
 cases h1:(decide (↑x<↑y) || decide (strKind x<strKind y))
 .cases hf:(occurrences x y 0 ↑x (↑x+1)).isEmpty
  .erw[call_meets F.slot_str_split (typeIs_str _ _ _) F.entry_str_split (F.args_str_split_2 _ _) (meets_str_split_sep x y t u h1 hy hf hsz hsz2) ?_];show wants Q E _ {s with toks:=_,heap:=s.heap.push { cls:=.type "list",data:=.seq (strsFrom s.toks (partsBetween x (occurrences x y 0 ↑x (↑x+1)) ↑y)).toArray} };rwa[strsFrom_eq,hq (numbered s.toks _) _ ((numbered_texts _ _).trans ((if_neg (ne_true_of_eq_false h1)).trans (if_neg (ne_true_of_eq_false hf))).symm)]
  .exact call_meets F.slot_str_split (typeIs_str _ _ _) F.entry_str_split (F.args_str_split_2 _ _) (meets_str_split_not_found x y t u h1 hy hf)
    (hq [(x,t)] s.toks ((if_neg (ne_true_of_eq_false h1)).trans (if_pos hf)).symm)
 .exact call_meets F.slot_str_split (typeIs_str _ _ _) F.entry_str_split (F.args_str_split_2 _ _) (meets_str_split_cannot_occur x y t u h1)
   (hq [(x,t)] s.toks (if_pos h1).symm)
section
mutual
variable{X:Cx}
def vcl:V->qj V->Hp->VK->Prop:=λx vs H Q=>∃s y:Str,x=.str s/\vs=[.str y]/\(↑y == 0)=false/\↑s<=100000/\∀l,H l=none->Q ⇑l (upd H l (.lst ((Txt.split s y).map V.str)))
theorem ybz:∀l:qj (Str×Tok),w9 ((l.map (·.1)).map V.str) (strValues l)
 |[]=>.nil
 |(x,t)::l=>.cons #[t,J] (ybz l)
def ype:MtR X "str.split" vcl:=by
 intro a s σ H x p v n Q I i j h;let#[z,y,J,J,f,A,q]:=h;let#[t,J]:=i;let#[u,J,g]:=j.one;let#[m,J]:=g;have r:sizeLine ≥ 100002:=∅
 have c:↑(Builtin.Str.partsBetween z (Builtin.Str.occurrences z y 0 ↑z (↑z+1)) ↑y)<=sizeLine:=by
  rw[len_partsBetween];have:=StrLaws.occ_length_le z y 0 ↑z (↑z+1);omega
 erw[yo2 f (λl k e=>?_) () c];let d:=split_le z y;erw[.ref _,_,I.laid (t':=k) (o:=.lst ((Txt.split z y).map V.str)) (λb w q=>bR _ q) (bT _) ?_,J,q _ (I.hok.fresh (bT _))];exists by rw[bL];omega,_,0,by rwa[<- e,ybz l],?_
 rw[cb _ J]
def vbg(K:xy):V->qj V->Hp->VK->Prop:=λx vs H Q=>∃(sp:Str)(l:qa)(ys:Ρ),x=.str sp/\vs=[.ref l]/\SqL K H l (ys.map V.str)/\(ys.map (·.length)).sum+↑ys*↑sp<=1000000/\Q (.str (Str.join sp ys)) H
def vjv{ys:Ρ}{vs:Ξ}(h:w9 (ys.map V.str) vs):StrsAre vs ys:=by
 induction ys generalizing vs with
 |nil=>cases h;erw[.nil]
 |cons c cs ih =>
  cases h with
  |cons r t =>
   let#[u,J]:=r;erw[.cons _ _ (ih t)]
def Ĕ:MtR X "str.join" (vbg X.K):=by
 intro b s σ H x y v w Q I m p h;let#[c,l,ys,J,J,d,A,q]:=h;let#[t,J]:=m;let#[u,J,i]:=p.one;cases i;let#[f,r,#[o,n,j,e,z,g],_]:=I.list d;erw[join_list (ys:=ys) #[o,j,e,n,g] (vjv r) ?_ λa k=>#[.str (Str.join c ys),H,I.tok _,#[a,?_],q]]
 .have:sizeLine ≥ 1000000:=∅
  omega
 .show Value.str (Builtin.Str.glued _ _) a=_;rw[StrLaws.glued_eq_join]
end
end
mutual
noncomputable def jL(c:Nat):qj (qj Nat)->qj Nat
 |[]=>[]
 |[w]=>w
 |w::v::r=>w++c::jL c (v::r)
theorem Â(c:Nat):∀ws:Ρ,(Str.join ⟨#[c]⟩ ws).cps.toList=jL c (ws.map λw=>w.cps.toList)
 |[]=>rfl
 |[w]=>rfl
 |w::v::r=>by
  show (w++⟨#[c]⟩++Str.join ⟨#[c]⟩ (v::r)).cps.toList=w.cps.toList++c::jL c ((v::r).map λw=>w.cps.toList);rw[Str.cps_append,Str.cps_append,Array.toList_append,Array.toList_append,Â c (v::r),cq];rfl
theorem yfr{c:Nat}{x y:qj Nat}:∀{a b:qj Nat},c∉a->c∉b->a++c::x=b++c::y->a=b/\x=y
 |[],[],_,_,e=>#[J,(List.cons.inj e).2]
 |[],d::b,_,hb,e=>absurd (by rwa[(List.cons.inj e).1,cG]) hb
 |d::a,[],ha,_,e=>absurd (by rwa[<- (List.cons.inj e).1,cG]) ha
 |d::a,f::b,ha,hb,e=>by
  let#[j,h]:=List.cons.inj e;let#[g,i]:=yfr (λz=>ha (cF _ z)) (λz=>hb (cF _ z)) h;exists by rw[j,g],i
theorem yrf{c:Nat}:∀{as bs:qj (qj Nat)},as≠[]->bs≠[]->(∀a∈as,c∉a)->(∀b∈bs,c∉b)->jL c as=jL c bs->as=bs
 |[],_,h,_,_,_,_=>absurd J h
 |_,[],_,h,_,_,_=>absurd J h
 |[a],[b],_,_,_,_,e=>by rw[show a=b from e]
 |[a],b::d::r,_,_,ha,_,e=>absurd (by rw[show a=b++c::jL c (d::r)from e];simp) (ha a cG)
 |a::d::r,[b],_,_,_,hb,e=>absurd (by rw[show b=a++c::jL c (d::r)from e.symm];simp) (hb b cG)
 |a::d::r,b::f::q,_,_,ha,hb,e=>by
  let#[j,i]:=yfr (ha a cG) (hb b cG) (show a++c::jL c (d::r)=b++c::jL c (f::q)from e);rw[j,yrf (List.cons_ne_nil _ _) (List.cons_ne_nil _ _) (λx g=>ha x (cF _ g)) (λx g=>hb x (cF _ g)) i]
def ú{x y:Str}(h:x.cps.toList=y.cps.toList):x=y:=by
 cases x with|mk a =>
 cases y with|mk b =>
 congr 1
 erw[Array.toList_inj.mp h]
def yhc{c:Nat}{ws:Ρ}(hne:ws≠[])(h:∀w∈ws,c∉w.cps.toList):Txt.split (Str.join ⟨#[c]⟩ ws) ⟨#[c]⟩=ws:=by
 let e:=congrArg (λz:Str=>z.cps.toList) (StrLaws.join_split (Str.join ⟨#[c]⟩ ws) ⟨#[c]⟩);simp only[Â]at e;let d:=yrf ?_ ?_ ?_ ?_ e
 .have g:∀{l m:Ρ},(l.map λw=>w.cps.toList)=(m.map λw=>w.cps.toList)->l=m:=by
   intro l
   induction l with
   |nil=>intro m e;cases m with
    |nil=>rfl
    |cons _ _=>cases e
   |cons x l ih=>intro m e;cases m with
    |nil=>cases e
    |cons y m =>
     let#[i,o]:=List.cons.inj e;rw[ú i,ih o]
  erw[g d]
 .intro z;have:=split_pos (Str.join ⟨#[c]⟩ ws) ⟨#[c]⟩;let n:=congrArg List.length z;rw[bL,List.length_nil]at n;omega
 .intro z;erw[hne (List.map_eq_nil_iff.mp z)]
 .intro a j;let#[p,f,J]:=bW.mp j;erw[StrLaws.split_free _ c p f]
 .intro b k;let#[p,f,J]:=bW.mp k;erw[h p f]
end
end L2
end
namespace MixI
mutual
noncomputable def giv(c b:Int):Int:=if b=1 then c else 16777216-c
noncomputable def yps(x:Int):Nat:=if x == 0 then 0 else x.natAbs.log2+1
def shL(ws cs:Ο)(b:Int):Ο:=List.zipWith (λw c=>w*giv c b) ws cs
noncomputable def grL(sh:Ο):Ο:=sh.map λs=>31*(↑sh:Int)*s+sh.sum
def tOf(s:Int):Nat:=yps s-48
def lrn(ws cs:Ο)(b:Int):Ο:=(grL (shL ws cs b)).map λv=>v/2^tOf (grL (shL ws cs b)).sum
noncomputable def vk9(ws cs:Ο):Int:=(List.zipWith (λw c=>w*c) ws cs).sum
def ym0(ws cs:Ο):Int:=vk9 ws cs/ws.sum
structure WOk(k:Nat)(ws:Ο):Prop where
 len:↑ws=k
 one:∀w∈ws,1<=w
 top:∀w∈ws,w<281474976710656
structure COk(k:Nat)(cs:Ο):Prop where
 len:↑cs=k
 lo:∀c∈cs,32768<=c
 hi:∀c∈cs,c<=16744448
def ymc{c b:Int}(h1:32768<=c)(h2:c<=16744448):32768<=giv c b:=by unfold giv;split<;>omega
def ysz{c b:Int}(h1:32768<=c)(h2:c<=16744448):giv c b<=16744448:=by unfold giv;split<;>omega
def yeq{ws cs:Ο}{b:Int}(h:↑ws=↑cs):↑(shL ws cs b)=↑ws:=by unfold shL;rw[List.length_zipWith,<- h];omega
def yla{sh:Ο}:↑(grL sh)=↑sh:=by unfold grL;rw[bL]
def ywx{k:Nat}{ws cs:Ο}{b:Int}(hw:WOk k ws)(hc:COk k cs):↑(lrn ws cs b)=k:=by unfold lrn;rw[bL,yla,yeq (by rw[hw.len,hc.len]),hw.len]
theorem ŕ(m d:Int):∀sh:Ο,(sh.map λs=>m*s+d).sum=m*sh.sum+↑sh*d
 |[]=>by simp
 |s::r=>by
  simp only[cO,List.sum_cons,ŕ m d r,cn,Int.natCast_add,Int.natCast_one,Int.mul_add,Int.add_mul];omega
def yww(sh:Ο):(grL sh).sum=32*(↑sh:Int)*sh.sum:=by unfold grL;rw[ŕ,Int.mul_assoc,Int.mul_assoc];generalize (↑sh:Int)*sh.sum=x;omega
theorem ymq:∀{l:Ο},(∀x∈l,0<=x)->0<=l.sum
 |[],_=>by simp
 |a::r,h=>by
  let c:=h a (by simp);let d:=ymq (l:=r) λx b=>h x (by simp[b]);rw[List.sum_cons];omega
theorem yqd:∀{l:Ο}{y:Int},(∀x∈l,0<=x)->y∈l->y<=l.sum
 |a::r,y,h,hy=>by
  let d:=h a (by simp);have b:∀x∈r,0<=x:=λx c=>h x (by simp[c]);let f:=ymq b;rw[List.sum_cons];rcases bZ.mp hy with e|hy
  .omega
  .have:=yqd b hy;omega
theorem ylw{c:Int}:∀{l:Ο},(∀x∈l,c<=x)->c*↑l<=l.sum
 |[],_=>by simp
 |a::r,h=>by
  let d:=h a (by simp);let e:=ylw (l:=r) λx b=>h x (by simp[b]);rw[List.sum_cons,cn,Int.natCast_add,Int.natCast_one,Int.mul_add];omega
theorem yr5{c:Int}:∀{l:Ο},(∀x∈l,x<=c)->l.sum<=c*↑l
 |[],_=>by simp
 |a::r,h=>by
  let d:=h a (by simp);let e:=yr5 (l:=r) λx b=>h x (by simp[b]);rw[List.sum_cons,cn,Int.natCast_add,Int.natCast_one,Int.mul_add];omega
theorem yrx{f:Int->Int}{m:Int}:∀{ws cs:Ο},↑ws=↑cs->(∀w∈ws,0<=w)->(∀c∈cs,m<=f c)->m*ws.sum<=(List.zipWith (λw c=>w*f c) ws cs).sum
 |[],[],_,_,_=>by simp
 |w::r,c::t,h,h1,h2=>by
  let i:=yrx (f:=f) (m:=m) (ws:=r) (cs:=t) (by simpa using h) (λx b=>h1 x (by simp[b])) λx b=>h2 x (by simp[b]);let a:=di (h2 c (by simp)) (h1 w (by simp));rw[List.zipWith_cons_cons,List.sum_cons,List.sum_cons,Int.mul_add,Int.mul_comm m w];omega
theorem ytj{f:Int->Int}{m:Int}:∀{ws cs:Ο},↑ws=↑cs->(∀w∈ws,0<=w)->(∀c∈cs,f c<=m)->(List.zipWith (λw c=>w*f c) ws cs).sum<=m*ws.sum
 |[],[],_,_,_=>by simp
 |w::r,c::t,h,h1,h2=>by
  let i:=ytj (f:=f) (m:=m) (ws:=r) (cs:=t) (by simpa using h) (λx b=>h1 x (by simp[b])) λx b=>h2 x (by simp[b]);let a:=di (h2 c (by simp)) (h1 w (by simp));rw[List.zipWith_cons_cons,List.sum_cons,List.sum_cons,Int.mul_add,Int.mul_comm m w];omega
def WOk.pos{k:Nat}{ws:Ο}(h:WOk k ws)(hk:1<=k):1<=ws.sum:=by have:=ylw (c:=1) h.one;rw[h.len]at this;omega
def WOk.small{k:Nat}{ws:Ο}(h:WOk k ws)(hk:k<=6):ws.sum<=1688849860263936:=by have:=yr5 (c:=281474976710656) λx a=>Int.le_of_lt (h.top x a);rw[h.len]at this;omega
def ymh{k:Nat}{ws cs:Ο}(hk:1<=k)(hw:WOk k ws)(hc:COk k cs):32768<=ym0 ws cs/\ym0 ws cs<=16744448:=by
 have e:↑ws=↑cs:=by rw[hw.len,hc.len]
 have d:∀w∈ws,0<=w:=λw h=>by have:=hw.one w h;omega
 let p:=hw.pos hk;let a:=yrx (f:=λc=>c) e d hc.lo;let b:=ytj (f:=λc=>c) e d hc.hi;unfold ym0 vk9;erw[(Int.le_ediv_iff_mul_le ()).mpr a,Int.le_of_lt_add_one ((Int.ediv_lt_iff_lt_mul ()).mpr (by rw[Int.add_mul];omega))]
def ye8(t:Nat):(2:Int)^t=((2^t:Nat):Int):=by rw[Int.natCast_pow];rfl
def yvn(t:Nat):(0:Int)<2^t:=by rwa[ye8,Int.natCast_pos.mpr (Nat.pow_pos ∅)]
def vcu{s:Int}(h:1<=s):s<281474976710656*2^tOf s/\(tOf s=0\/140737488355328*2^tOf s<=s):=by
 have f:s.natAbs≠0:=()
 have e:(s.natAbs:Int)=s:=()
 let a:=Nat.log2_self_le f;let b:=@Nat.lt_log2_self s.natAbs;unfold tOf yps;rw[if_neg (by simp;omega)];generalize s.natAbs.log2=L at a b⊢;rcases Nat.lt_or_ge L 48 with q|q
 .have z:L+1-48=0:=()
  rwa[z,#[?_,.inl J]];have:2^(L+1)<=2^48:=Nat.pow_le_pow_right ∅ ();have c:(2:Nat)^48=281474976710656:=∅
  rw[c]at this;rw[<- e,Int.pow_zero,Int.mul_one];omega
 .obtain⟨t,rfl⟩:∃t,L=47+t:=#[L-47,()];have z:47+t+1-48=t:=()
  rw[z,ye8];have d:(2:Nat)^(47+t)=140737488355328*2^t:=by rw[Nat.pow_add]
  have c:(2:Nat)^(47+t+1)=281474976710656*2^t:=by rw[show 47+t+1=48+t by omega,Nat.pow_add]
  rw[d]at a;rw[c]at b;generalize 2^t=T at a b⊢;exists by omega,.inr ()
end
section
mutual
variable{k:Nat}{ws cs:Ο}{b:Int}
def yup(hw:WOk k ws)(hc:COk k cs):∀s∈shL ws cs b,1<=s:=by intro s a;unfold shL at a;rw[List.mem_iff_getElem]at a;let#[i,d,J]:=a;rw[List.length_zipWith]at d;rw[List.getElem_zipWith];let c:=hw.one ws[i] (cE _);let e:=ymc (b:=b) (hc.lo cs[i] (cE _)) (hc.hi cs[i] (cE _));have:=Int.mul_le_mul c e ∅ ();omega
def yy8{sh:Ο}(h:∀s∈sh,1<=s):∀v∈grL sh,sh.sum<=v/\v<=(grL sh).sum/\0<=v:=by
 let e:=ymq (l:=sh) λx d=>by have:=h x d;omega
 have a:∀v∈grL sh,sh.sum<=v:=λv a=>by
  unfold grL at a;let#[s,b,J]:=bW.mp a;have:=h s b;have:0<=31*(↑sh:Int)*s:=Int.mul_nonneg (Int.mul_nonneg ∅ (Int.natCast_nonneg _)) ();omega
 erw[λv c=>#[a v c,yqd (λx d=>by have:=a x d;omega) c,by have:=a v c;omega]]
def yrq(hk:1<=k)(hk6:k<=6)(hw:WOk k ws)(hc:COk k cs):WOk k (lrn ws cs b):=by
 have g:↑(shL ws cs b)=k:=by rw[yeq (by rw[hw.len,hc.len]),hw.len]
 let f:=yup (b:=b) hw hc
 have l:1<=(shL ws cs b).sum:=by
  have:=ylw (c:=1) f;rw[g]at this;omega
 let j:=yy8 f;let e:=yww (shL ws cs b);rw[g]at e
 have n:1<=(grL (shL ws cs b)).sum:=by
  rw[e];have:32*(k:Int)*1<=32*(k:Int)*(shL ws cs b).sum:=di l ();omega
 have q:(grL (shL ws cs b)).sum<=192*(shL ws cs b).sum:=by
  rwa[e,db () ()]
 let#[r,a]:=vcu n;let i:=yvn (tOf (grL (shL ws cs b)).sum);erw[ywx hw hc,λw h=>?_,λw h=>?_]
 .let#[v,d,J]:=bW.mp h;let#[p,o,m]:=j v d;erw[(Int.le_ediv_iff_mul_le i).mpr ?_];rcases a with a|a
  .rw[a,Int.pow_zero];omega
  .generalize (2:Int)^tOf (grL (shL ws cs b)).sum=T at*;omega
 .let#[v,d,J]:=bW.mp h;let#[p,o,m]:=j v d;erw[(Int.ediv_lt_iff_lt_mul i).mpr ()]
def yjm{g:Int->Int->Int}{ws cs:Ο}(h:↑cs=↑ws):(List.range ↑ws).map (λi=>g ((ws[i]?).getD 0) ((cs[i]?).getD 0))=List.zipWith g ws cs:=by
 apply List.ext_getElem
 .rw[bL,cS,List.length_zipWith];omega
 .intro i a b;rw[bL,cS]at a;rw[dD,List.getElem_range,List.getElem_zipWith,bP a,bP ()];rfl
end
end
end MixI
namespace SpanMath
mutual
noncomputable def rn(d:Ο):Nat->Int
 |0=>0
 |k+1=>rn d k*256+(d[k]?).getD 0
def Byt(d:Ο):Prop:=∀x∈d,0<=x/\x<=255
def vbt{d:Ο}(h:Byt d)(k:Nat):0<=(d[k]?).getD 0/\(d[k]?).getD 0<=255:=by
 cases e:d[k]? with
 |none=>exists by decide,∅
 |some x=>erw[h x (ck e)]
theorem yl3{d:Ο}(h:Byt d)(k:Nat):∀r,∃q,rn d (k+r)=rn d k*pw r+q/\0<=q/\q<pw r
 |0=>#[0,by show rn d k=rn d k*1+0;omega,∅,∅]
 |r+1=>by
  let#[q,e,a,b]:=yl3 h k r;let#[f,c]:=vbt h (k+r);erw[q*256+(d[k+r]?).getD 0,?_,(),?_]
  .show rn d (k+r)*256+(d[k+r]?).getD 0=rn d k*(pw r*256)+_;rw[e,<- Int.mul_assoc,Int.add_mul,Int.add_assoc]
  .show _<pw r*256;omega
def yoo{d:Ο}(h:Byt d)(k r:Nat)(l w':Int):(l*pw r<=rn d (k+r)/\rn d (k+r)<l*pw r+w'*pw r)↔(l<=rn d k/\rn d k<l+w'):=by
 let#[q,e,g,f]:=yl3 h k r;let c:=jj r;rw[e,<- Int.add_mul];generalize rn d k=v;generalize pw r=p at c g f⊢
 constructor
 .rintro ⟨a,b⟩
  constructor
  .erw[Int.le_of_lt_add_one (Int.lt_of_mul_lt_mul_right (a:=p) ?_ (Int.le_of_lt c))];rw[Int.add_mul,Int.one_mul];omega
  .erw[Int.lt_of_mul_lt_mul_right (a:=p) ?_ (Int.le_of_lt c)];omega
 .rintro ⟨a,b⟩;let j:=db a (Int.le_of_lt c);let i:=db (show v+1<=l+w' by omega) (Int.le_of_lt c);rw[Int.add_mul v 1 p,Int.one_mul]at i;omega
structure InS(d:Ο)(x:Sn):Prop where
 lo:x.1<=rn d (sz x)
 hi:rn d (sz x)<x.1+x.2.1
def vfp(l w' s':Int):∃r:Nat,ren l w' s'=(l*pw r,w'*pw r,s'+r):=by
 unfold ren
 split
 .split
  .erw[2,J]
  .erw[1,J]
 .erw[0,?_];show (l,w',s')=(l*1,w'*1,s'+0);rw[Int.mul_one,Int.mul_one,Int.add_zero]
def yqb{d:Ο}(h:Byt d){l w' s':Int}(hs:0<=s'):InS d (ren l w' s')↔(l<=rn d s'.toNat/\rn d s'.toNat<l+w'):=by
 let#[r,e]:=vfp l w' s';rw[e]
 have c:sz (l*pw r,w'*pw r,s'+r)=s'.toNat+r:=by
  show (s'+(r:Int)).toNat=s'.toNat+r;omega
 rw[<- yoo h s'.toNat r l w']
 constructor
 .rintro ⟨a,b⟩;rw[c]at a b;erw[a,b]
 .rintro ⟨a,b⟩;exists by rwa[c,a],by rwa[c,b]
def ë(d:Ο)(x:Sn)(c:Int):Int:=if rn d (sz x)<x.1+cut x.2.1 c then 1 else 0
def ya0(d:Ο)(x:Sn)(c:Int):ë d x c=0\/ë d x c=1:=by
 unfold ë
 split
 .erw[.inr J]
 .erw[.inl J]
def yu5{d:Ο}(hd:Byt d){x:Sn}{c b:Int}(h:OkS x)(hc:Ch c)(hb:b=0\/b=1)(i:InS d (nar x c b)):InS d x/\b=ë d x c:=by
 let k:=h.ok.z;let#[f,g,j]:=yc6 h.ok.w0 h.ok.w1 hc;unfold nar at i;rcases hb with rfl|rfl
 .rw[if_neg ∅]at i;let#[e,a]:=(yqb hd ()).mp i;have e:x.1+cut x.2.1 c<=rn d (sz x):=e;have a:rn d (sz x)<x.1+cut x.2.1 c+(x.2.1-cut x.2.1 c):=a;erw[#[(),()],?_];unfold ë;rw[if_neg ()]
 .rw[if_pos J]at i;let#[e,a]:=(yqb hd ()).mp i;have e:x.1<=rn d (sz x):=e;have a:rn d (sz x)<x.1+cut x.2.1 c:=a;erw[#[(),()],?_];unfold ë;rw[if_pos a]
theorem yro:∀(k:Nat)(d:Ο),k<=↑d->rn d k=val (d.take k)
 |0,_,_=>rfl
 |k+1,d,h=>by
  have a:k<↑d:=()
  have e:d.take (k+1)=d.take k++[d[k]]:=by rw[List.take_succ,bP a];rfl
  rw[e,yfb,<- yro k d ()];show rn d k*256+_=_;rw[bP a];rfl
def ya7{d:Ο}(hd:Byt d){x:Sn}(h:OkS x)(hl:↑(tL x)<=↑d)(hp:d.take ↑(tL x)=tL x):InS d x:=by
 let g:=yx1 h
 have e:rn d (sz x-tK x)=tCn x:=by
  rw[<- yly x,yro _ _ hl,hp,yzr h]
 let#[q,b,i,j]:=yl3 hd (sz x-tK x) (tK x);have f:sz x-tK x+tK x=sz x:=()
 rw[f,e]at b;let a:=ybe h.ok;let c:=(ysv x.1 (jj (tK x))).1;unfold ydg at a;have a:(tCn x+1)*pw (tK x)<=x.1+x.2.1:=a;have c:x.1<=tCn x*pw (tK x):=c;rw[Int.add_mul,Int.one_mul]at a;exists by rw[b];omega,by rw[b];omega
end
end SpanMath
namespace Law
local macro_rules | `(tactic| ext)=>`(tactic| walk_at "rd")
local macro_rules | `(tactic| right)=>`(tactic| decide +kernel)
open PySem L2
set_option genInjectivity false
set_option genSizeOf false
local macro_rules | `(tactic| walk_at "rd1")=>`(tactic| fail)
open Lean in
set_option hygiene true in
local macro_rules | `(tactic| fail $s:str)=>do
 let n::_::x::l:=s.getString.splitOn " "|Macro.throwUnsupported
 if n.isNat then `(tactic| fail $(Syntax.mkStrLit (" ".intercalate (n::x::l)))) else Macro.throwUnsupported
open Lean in
set_option hygiene true in
local macro_rules | `(tactic| fail $s:str)=>do
 let n::x::_:=s.getString.splitOn " "|Macro.throwUnsupported
 let some n:=n.toNat?|Macro.throwUnsupported
 let x:=mkIdent ((if n<4 then `_root_.Law else `_root_.L2)++x.toName)
 if n%4=0 then return <-`(tactic| refine $x ?_)
 let y:Term<-if n%4=1 then `($x (by assumption) ?q ?_) else if n%4=2 then `($x ?q ?_) else `($x ?q ?n ?_)
 let z<-if n%4=3 then `(tactic| case n=>with_unfolding_all decide +kernel) else `(tactic| skip)
 `(tactic| (with_reducible refine' $y; (case q=>first | assumption | exact ya); $z:tactic))
local macro_rules | `(tactic| exists $n:num,$m:num)=>do
 let xs:=Array.replicate n.getNat (<-`(some _))++Array.replicate m.getNat (<-`(none))
 `(tactic| ((try dsimp only [vt]); refine yj (σ':=[$xs,*]) rfl ?_))
local macro_rules | `(tactic| exists $h:ident,$a:ident,$b:ident,$c:ident)=>`(tactic| with_reducible first | refine yr $h fun $a $b $c=>?_ | refine y6 $h fun $a $b $c=>?_)
local macro_rules | `(tactic| exists $n:num,$m:num,$t)=>`(tactic| (refine ⟨_,$t,?_⟩;exists $n,$m;ext))
local macro_rules | `(tactic| left)=>`(tactic| first | (cases h; subst_vars; rfl) | repeat first | (obtain ⟨e,_⟩:=h; subst e; rfl) | obtain ⟨_,h⟩:=h)
open Lean in
def exq(F:Name)(a c:Ident)(b:Array Term):MacroM (TSyntax `tactic):=`(tactic| (refine $(mkIdent (`T++a.getId++F)) (wc (N:=[$b,*]) (by decide +kernel)) (fun ϟ H Q E h=>?_) (fun ϰ ϟ A ϟ s H ϟ Q E $c h=>?_); left))
local macro_rules
 | `(tactic| exists $a:ident,[$b,*],$c:ident)=>exq `F.ok a c b
 | `(tactic| exists $a:ident,$c:ident,[$b,*])=>exq `F.okE a c b
local macro_rules | `(tactic| walk_at "side")=>`(tactic| first | exact ⟨∅,∅⟩ | (show (0:Int) < _; first | decide | omega) | exact Or.inl ⟨(),()⟩ | exact Or.inr ⟨(),()⟩ | exact ⟨(),()⟩ | exact ⟨∅,∅,∅⟩)
local macro_rules | `(tactic| walk_at "len")=>`(tactic| first | decide | (simp only [cn,List.length_nil]; decide))
local macro_rules | `(tactic| walk_at "rd1")=>`(tactic| with_reducible first
 | fail "4 vlr vjx vbr vb4"
 | ((fail_if_success constructor); walk_at "rd2"))
local macro_rules | `(tactic| walk_at "o")=>`(tactic| refine yz2 fun ϟ ϟ ϟ ϟ ϟ ϟ=>?_)
set_option hygiene true in
local macro_rules | `(tactic| walk_at "rd2")=>`(tactic| with_reducible first
 | walk_at "o"
 | refine yx7 (by assumption) ?_
 | (refine' yx5 ?rdv ?_; (case rdv=>with_unfolding_all rfl))
 | fail "4 i_c vlu vlf yym vlq vlw vjt vi6 vap vdk vcx yvx ybf yuv yuk vh9 vbv vjr vl1 vi0 yxa vcj yy3 vh4 vle viv vim vjo vh5 ĺ va8 vlc vi2 vin vav vl6 yok vdx vld i_U g0 g1 g2 g3 g4 g5 g6 g7 g8 g9 g10 ywj yzf í υ vib vja vjl yuh vau yug yv1 ywi vcn yxd vci yva vbs yu7 yv3 yv5 ynx yw0 vd0 vii ypc vdo yxm yv7"
 | (refine i_I ?rdc ?_; (case rdc=>with_unfolding_all walk_at "side")))
local macro_rules | `(tactic| walk_at "rd")=>`(tactic| repeat walk_at "rd1")
mutual
variable{D c' cl' ct' dc dq ds st tl y:qa}{U U' W' W2:Μ}{L M:Η}{ts us xs:Ο}{j m':Nat}{rs tp:Λ}{O O' O2:Β}{bt:Nat->Int}{R:Prop}
noncomputable def top(i:Nat):qd:=PySem.Challenge.pw_foretell_k55_desk_open.main.body.getD i (.Pass #[0,0,0,0])
set_option genInjectivity false in
set_option genSizeOfSpec false in
structure Ads where
 {Tp Tq Tr Ts Tt Tu Tv Tw Tx Mz N2 Ig N3 N4 N5 Ih N6 N7 N8 Ii N9 Na Nd Nf Ng Nh Ij Ni Nj Nk Nl Nm Nn No Np Nq Nr Nt Ik Nu Nv Il Nw Ny Nz Im O0 O4 O5 O6 O7 O8 O9 Oa Ob Io Oc Od Oe Of Og Oh Oi Ip Ty Iq Tz Oj Ol Om On Oo Ir Op Oq Is Os Ot Ou Ov Iu Iv U0 Ow Ox Oy Iw U1 Oz P4 P5 P6 P7 P8 P9 Pa Pb Pe Pf Pg Ph Pi Pj Ix Iy Gi Gj Iz J0 J1 J2 J3 J4 J5 J6 J7 J8 Gk Te J9 Ja Jb Jc Jd Je Jf Jg Jh Ji Jj Jk Jl Jm Pk Af Ae Ak Ag Ca A3 A8 Al A2 Ac A0 A4 Aj Mr Jn Aw Gm Bp Fa B0 Ar D2 C4 D4 Au Ei A7 C5 As Be Br:qa}
 {U5 U8 U9 Ua Ub Uc Ud Ue Uf Pl Pm Pn Po Pp Pq Pr Ps Pt Pu Pv Pw Px Py Pz Q1 Q3 Q4 Q5 Q6 Q7 Q8 Q9 Qa Qb Qc Qd Qe Qf Qg Qh Qi Qj Qk Ql Qm Qn Qo Qp Qq Qr Qt Qu Qv Qw Qx Qy Qz R0 R1 R3 R4 R5 R6 Hk Hl R7 R8 R9 Ra Rb Rc Re Rf Jo Rg Rh Ri Rj Rk Hm Rl Rm Rn Hn Ro Rp Rq Rr Rs Rt Ru Rv Rw Rx Ry Rz S8 Sa Sb Jp Jq Jr Gn Js Jt Ju Jv Jw Jx Jy Jz K1 K2 Ej K3 K4 K5 K6 K7 K8 K9 Ka Kb Kc Kd Ke Kg Kh Ki:FuncData}
 {Kj Hz Ms Ug Ek El Dj Dx Em Dy Gp Dz En I0 Dl Fb Dm Fc Cn Dn I1 E4 Eo Do I2 Tf Gq Gr Gs Fd Fe Ff Fg Fh Fi Fj Fk:Tok}
 {I3:ql qa}
 {Kk I4:Nat}
 {Kl I5:Array (ql qc)}
variable{a:Ads}
end
open Lean in
local macro_rules | `(#synth 'T' $rs*)=>do
 let A(x:Term):Term:=mkIdent (`a++x.raw.getId)
 let fs:Array (Ident×Term)<-rs.mapM fun r=>do
  let r:=r.raw
  if r.isOfKind `Lean.Parser.Term.typeAscription then return (⟨r[1]⟩,⟨r[3][0]⟩)
  let r:=r[1]
  let e:Array Term:=r[1].getArgs.map fun x=>⟨x⟩
  let x:=A e[0]!
  let y:=A e[1]!
  return (⟨r[0]⟩,<-match e[2]!.raw.isNatLit? with
   | some _=>`(Dff K mg $(e[3]!) (top $(e[2]!)) [$(e.extract 4 e.size),*] $x $y)
   | _=>`(Dfm K $(A e[2]!) $(e[6]!) $(quote (e[5]!.raw.isStrLit?.get!++"."++e[6]!.raw.isStrLit?.get!)) (yt (top $(e[3]!)) $(e[4]!)) ["self",$(e.extract 7 e.size),*] $x $y))
 let (x,t):=fs.unzip
 `(structure Txt(K:xy)(mg:Ε)(a:Ads):Prop where $[$x:ident:$t]*)
mutual
#synth 'T' (I6 Tp U5 23 "is_whole" "thing") (Uh Tq U8 24 "is_bit" "thing") (Ui Tr U9 25 "is_chance" "thing") (Uj Ts Ua 26 "is_sign" "thing") (Mt Tt Ub 27 "is_list_of_signs" "thing" "most") (I7 Tu Uc 28 "checked_text" "thing") (Uk Tv Ud 29 "checked_bytes" "thing") (Ul Tw Ue 30 "check_most" "thing") (Mu Tx Uf 31 "check_chance" "thing") (Da Mz Pl 32 "check_bit" "thing") (Km N2 Pm 33 "gives" "chance" "bit") (Kn Ig Pn Af 38 0 "Even" "__init__") (Ko N3 Po Af 38 1 "Even" "chance") (Kp N4 Pp Af 38 2 "Even" "seen" "bit") (Kq N5 Pq Af 38 3 "Even" "twin") (Kr Ih Pr Ae 39 0 "Quick" "__init__") (Ks N6 Ps Ae 39 1 "Quick" "chance") (Kt N7 Pt Ae 39 2 "Quick" "seen" "bit") (Ku N8 Pu Ae 39 3 "Quick" "twin") (Kv Ii Pv Ak 40 0 "Run" "__init__") (Kw N9 Pw Ak 40 1 "Run" "chance") (Kx Na Px Ak 40 2 "Run" "seen" "bit") (Ky Nd Py Ak 40 3 "Run" "twin") (Sc Nf Pz 41 "slot_of" "kind") (Kz Ng Q1 46 "written" "number" "size") (L1 Nh Q3 47 "first_block" "low" "unit") (L6 Ij Q4 A8 48 0 "Span" "__init__") (Fl Ni Q5 A8 48 2 "Span" "cut" "chance") (Fm Nj Q6 A8 48 3 "Span" "narrow" "chance" "bit") (L7 Nk Q7 A8 48 5 "Span" "holds_block" "unit") (Fn Nl Q8 A8 48 6 "Span" "told") (Se Nm Q9 54 "is_kind" "thing") (Sf Nn Qa 55 "is_place" "thing") (Sg No Qb 56 "are_places" "thing") (Sh Np Qc 57 "is_look" "thing") (L8 Nq Qd 58 "checked_looks" "thing") (Si Nr Qe 59 "sign_back" "signs" "place") (Sj Nt Qf 60 "context_of" "look" "signs" "node") (L9 Ik Qg Ag 61 0 "Book" "__init__" "look") (La Nu Qh Ag 61 2 "Book" "slot_at" "signs" "node") (Lb Nv Qi Ag 61 4 "Book" "twin") (Lc Il Qj Ca 66 0 "Mixer" "__init__" "many") (Ld Nw Qk Ca 66 2 "Mixer" "mixed" "chances") (Le Ny Ql Ca 66 3 "Mixer" "learn" "chances" "bit") (Lf Nz Qm Ca 66 4 "Mixer" "twin") (Ho Im Qn A3 69 0 "Foreteller" "__init__" "looks") (Dp O0 Qo A3 69 1 "Foreteller" "arrive") (Dq O4 Qp A3 69 2 "Foreteller" "chances") (Dr O5 Qq A3 69 3 "Foreteller" "chance") (Co O6 Qr A3 69 7 "Foreteller" "see" "bit") (Lg O7 Qt A3 69 8 "Foreteller" "step" "bit") (Lh O8 Qu A3 69 9 "Foreteller" "step_in_sign" "bit") (Li O9 Qv A3 69 10 "Foreteller" "fork") (Sk Oa Qw 72 "bits_of" "sign") (Hq Ob Qx 73 "decisions_of" "text") (Sl Io Qy Al 75 0 "Seeker" "__init__" "data") (Fo Oc Qz Al 75 1 "Seeker" "follow") (Lj Od R0 Al 75 2 "Seeker" "byte_at" "place") (Lk Oe R1 Al 75 3 "Seeker" "bit" "chance") (Ll Of R3 Al 75 5 "Seeker" "told") (Sm Og R4 78 "checked_learned" "thing") (So Oh R5 79 "teach" "foreteller" "texts") (Sq Oi R6 80 "rows_of" "looks" "text" "learned") (Sr:ym5 K "foretold" "foretold" (top 81) a.Ty a.Ip a.Hk) (V5:u4 K a.Hk ["looks","text","learned"] [.none]) (Um:u4 K a.Hk ["looks","text","learned"] []) (Uo:mg "foretold"∣a.Ip) (Ss:ym5 K "cost" "cost" (top 82) a.Tz a.Iq a.Hl) (V6:u4 K a.Hl ["looks","text","learned"] [.none]) (Up:u4 K a.Hl ["looks","text","learned"] []) (Uq:mg "cost"∣a.Iq) (Lm Oj R7 84 "press_by" "foreteller" "text") (Ln Ol R8 85 "bit_by" "foreteller" "seeker") (Su Om R9 86 "sign_by" "foreteller" "seeker") (Sv On Ra 87 "text_by" "foreteller" "seeker" "most") (Lo Oo Rb 88 "read_by" "foreteller" "data" "most") (Ec Ir Rc A2 90 0 "Chain" "__init__" "looks") (Ds Op Re A2 90 1 "Chain" "grow" "name" "text") (Lp Oq Rf A2 90 2 "Chain" "press" "name" "text") (Fp Is Jo A2 90 3 "Chain" "read" "name" "data" "most") (Fq Os Rg A2 90 4 "Chain" "size_with" "text") (Sw Ot Rh 95 "is_name" "thing") (Fs Ou Ri 96 "checked_name" "thing") (Sy Ov Rj 97 "check_base" "thing") (Lq Iu Rk Ac 98 0 "Piece" "__init__" "base" "data") (Ur:ym5 K "__init__" "Store.__init__" (yt (top 99) 0) a.U0 a.Iv a.Hm) (V7:u4 K a.Hm ["self","looks","most"] [.int 1000 a.Kj]) (Sz:u4 K a.Hm ["self","looks","most"] []) (Ft Ow Rl A0 99 1 "Store" "told_looks") (Lr Ox Rm A0 99 2 "Store" "most_signs") (Bt Oy Rn A0 99 3 "Store" "names") (Us:ym5 K "put" "Store.put" (yt (top 99) 4) a.U1 a.Iw a.Hn) (V8:u4 K a.Hn ["self","name","text","base"] [.none]) (Ut:u4 K a.Hn ["self","name","text","base"] []) (Uu:Meth K a.A0 "put" a.Iw) (Ls Oz Ro A0 99 5 "Store" "put_first" "name" "data" "base") (Fu P4 Rp A0 99 6 "Store" "check_length" "text") (Fv P5 Rq A0 99 7 "Store" "check_room" "name" "base") (Ba P6 Rr A0 99 8 "Store" "piece_at" "name") (Fw P7 Rs A0 99 9 "Store" "links_to" "name") (Bu P8 Rt A0 99 10 "Store" "chain_to" "name") (Fx P9 Ru A0 99 11 "Store" "texts_to" "name") (Fz Pa Rv A0 99 12 "Store" "text_of" "name") (G0 Pb Rw A0 99 13 "Store" "bytes_of" "name") (G6 Pe Rx A0 99 14 "Store" "base_of" "name") (Lt Pf Ry A0 99 15 "Store" "learned_of" "name") (Lu Pg Rz A0 99 16 "Store" "drop" "name") (Lv Ph S8 A0 99 17 "Store" "best_base" "text") (T0 Pi Sa 102 "look_bytes" "look") (Ta Pj Sb 103 "name_bytes" "name") (Lx Ix Jp 104 "base_bytes" "store" "name") (Ly Iy Jq 105 "shelf_of" "store") (Lz Gi Jr A4 106 0 "Reader" "__init__" "data") (Am Gj Gn A4 106 1 "Reader" "next_byte") (Cb Iz Js A4 106 2 "Reader" "next_part" "parts") (Gt J0 Jt A4 106 3 "Reader" "next_look") (Gu J1 Ju A4 106 4 "Reader" "next_store") (Gv J2 Jv A4 106 5 "Reader" "next_name") (Gw J3 Jw A4 106 6 "Reader" "put_next" "store") (Gy J4 Jx A4 106 7 "Reader" "whole_store") (M0 J5 Jy 107 "opened" "data") (Ep J6 Jz 112 "hex_of" "signs") (Er J7 K1 113 "signs_by" "word") (Gz J8 K2 114 "shown" "base") (Tg:ym5 K "__init__" "Desk.__init__" (yt (top 115) 0) a.Te a.Gk a.Ej) (V2:u4 K a.Ej ["self","looks","most"] [.int 1000 a.Hz]) (Ha:u4 K a.Ej ["self","looks","most"] []) (Aa J9 K3 Aj 115 1 "Desk" "say" "row") (Hb Ja K4 Aj 115 2 "Desk" "say_alone" "verb") (Hc Jb K5 Aj 115 3 "Desk" "say_with" "verb" "word") (Dt Jc K6 Aj 115 4 "Desk" "lay" "name" "word" "base") (Hd Jd K7 Aj 115 5 "Desk" "cost_of" "name") (D5 Je K8 117 "_law_mixed" "_law_script" "_law_k") (M4 Jf K9 118 "_law_names" "_law_cell") (M5 Jg Ka 119 "_law_looks" "_law_script") (He Jh Kb 120 "_law_text" "_law_cell" "_law_more") (Es Ji Kc 121 "_law_hex" "_law_signs") (M6 Jj Kd 122 "_law_filled" "_law_desk" "_law_names_here" "_law_script" "_law_more") (M7 Jk Ke 123 "_law_said" "_law_desk" "_law_row") (Bv Jl Kg 124 "_law_told" "_law_desk" "_law_names_here") (M8 Jm Kh 125 "_law_no_shelf" "_law_desk" "_law_row") (M9 Pk Ki 126 "law" "_law_script") (At:Cls K a.Af) (Ma:mg "Even"∣a.Af) (Mb:Mk K a.Af a.Ig) (Ax:NoAttr K a.Af "noughts") (Bw:NoAttr K a.Af "ones") (Bb:Cls K a.Ae) (Hr:mg "Quick"∣a.Ae) (Hs:Mk K a.Ae a.Ih) (Bf:NoAttr K a.Ae "held") (Bg:Cls K a.Ak) (Tb:mg "Run"∣a.Ak) (Tc:Mk K a.Ak a.Ii) (Cc:NoAttr K a.Ak "last") (Bh:NoAttr K a.Ak "length") (Bi:Cls K a.Ag) (Mc:mg "Book"∣a.Ag) (Md:Mk K a.Ag a.Ik) (Db:NoAttr K a.Ag "look") (Bj:NoAttr K a.Ag "slots") (Ed:Cls K a.Ca) (Uv:mg "Mixer"∣a.Ca) (Uw:Mk K a.Ca a.Il) (D6:NoAttr K a.Ca "kept") (Ad:Cls K a.A3) (Th:mg "Foreteller"∣a.A3) (Ti:Mk K a.A3 a.Im) (Bk:NoAttr K a.A3 "looks") (Cd:NoAttr K a.A3 "books") (Ce:NoAttr K a.A3 "mixer") (Cg:NoAttr K a.A3 "ended") (Ci:NoAttr K a.A3 "place") (Bl:NoAttr K a.A3 "present") (Ai:Cls K a.A8) (Me:mg "Span"∣a.A8) (Mf:Mk K a.A8 a.Ij) (Cj:NoAttr K a.A8 "low") (Bm:NoAttr K a.A8 "width") (Bx:NoAttr K a.A8 "size") (Ay:Cls K a.Al) (V9:mg "Seeker"∣a.Al) (Va:Mk K a.Al a.Io) (Ee:NoAttr K a.Al "data") (Ef:NoAttr K a.Al "span") (By:NoAttr K a.Al "number") (Bn:NoAttr K a.Al "reached") (Ah:Cls K a.A2) (Cp:mg "Chain"∣a.A2) (Cq:Mk K a.A2 a.Ir) (Az:NoAttr K a.A2 "foreteller") (C7:NoAttr K a.A2 "links") (C8:NoAttr K a.A2 "texts") (Cr:Cls K a.Ac) (Ht:mg "Piece"∣a.Ac) (Hu:Mk K a.Ac a.Iu) (Cs:NoAttr K a.Ac "base") (Ct:NoAttr K a.Ac "data") (A1:Cls K a.A0) (Hv:mg "Store"∣a.A0) (Hw:Mk K a.A0 a.Iv) (B6:NoAttr K a.A0 "looks") (Cu:NoAttr K a.A0 "most") (Bz:NoAttr K a.A0 "pieces") (B8:NoAttr K a.A0 "chain") (A6:Cls K a.A4) (Mg:mg "Reader"∣a.A4) (Mh:Mk K a.A4 a.Gi) (C9:NoAttr K a.A4 "data") (Aq:NoAttr K a.A4 "reached") (Ab:Cls K a.Aj) (Hf:mg "Desk"∣a.Aj) (Hg:Mk K a.Aj a.Gk) (Bo:NoAttr K a.Aj "store") (Vb:mg "NoText"∣a.Mr) (Vc:mg "NoBytes"∣a.Jn) (G8:mg "NoMost"∣a.Aw) (Vd:mg "NoChance"∣a.Gm) (Ve:mg "NoBit"∣a.Bp) (Ux:mg "NoLooks"∣a.Fa) (Mv:mg "NoPress"∣a.B0) (G9:mg "NoName"∣a.Ar) (I8:mg "TooLong"∣a.D2) (Hx:mg "Taken"∣a.C4) (Mi:mg "Full"∣a.D4) (Eg:mg "NoPiece"∣a.Au) (Mw:mg "InUse"∣a.Ei) (Av:mg "NoShelf"∣a.A7) (C6:mg "NoWords"∣a.C5) (Dd:mg "ForetellError"∣a.As) (Vm:XCls K a.Mr) (Vf:XMk K a.Mr) (Vn:XCls K a.Jn) (Vg:XMk K a.Jn) (Uy:XCls K a.Aw) (Mj:XMk K a.Aw) (Vo:XCls K a.Gm) (Vh:XMk K a.Gm) (Vp:XCls K a.Bp) (Vi:XMk K a.Bp) (Vq:XCls K a.Fa) (Vj:XMk K a.Fa) (Vk:XCls K a.B0) (Uz:XMk K a.B0) (V0:XCls K a.Ar) (Ml:XMk K a.Ar) (Tl:XCls K a.D2) (I9:XMk K a.D2) (V3:XCls K a.C4) (Mx:XMk K a.C4) (Vl:XCls K a.D4) (Tj:XMk K a.D4) (Tm:XCls K a.Au) (Ia:XMk K a.Au) (V4:XCls K a.Ei) (My:XMk K a.Ei) (Bc:XCls K a.A7) (Bd:XMk K a.A7) (Tn:XCls K a.C5) (D7:XMk K a.C5) (Ib:W.kitOne K ⇑a.Bp (.type "ValueError")=some true) (Gh:W.exmOne K ⇑a.Bp ⇑a.As=some true) (Hh:W.exmOne K ⇑a.B0 ⇑a.D4=some false) (Mm:W.exmOne K ⇑a.B0 ⇑a.Fa=some false) (Et:W.exmOne K ⇑a.B0 ⇑a.Aw=some false) (Eu:W.exmOne K ⇑a.B0 ⇑a.Ar=some false) (Ga:W.exmOne K ⇑a.B0 ⇑a.B0=some true) (Gb:W.exmOne K ⇑a.B0 ⇑a.C4=some false) (Ck:W.exmOne K ⇑a.Au ⇑a.Au=some true) (Cl:W.kitOne K ⇑a.A7 ⇑a.C5=some false) (E5:W.kitOne K ⇑a.A7 ⇑a.B0=some false) (Bq:W.kitOne K ⇑a.A7 (.type "ValueError")=some true) (Cm:W.kitOne K ⇑a.A7 ⇑a.A7=some true) (B9:W.exmOne K ⇑a.A7 ⇑a.As=some true) (De:W.exmOne K ⇑a.A7 ⇑a.D4=some false) (E6:W.exmOne K ⇑a.A7 ⇑a.Fa=some false) (Cv:W.exmOne K ⇑a.A7 ⇑a.Aw=some false) (Cw:W.exmOne K ⇑a.A7 ⇑a.Ar=some false) (E7:W.exmOne K ⇑a.A7 ⇑a.B0=some false) (D8:W.exmOne K ⇑a.A7 ⇑a.C4=some false) (A5:mg "isinstance"=none) (Td:mg "int"=none) (Tk:mg "bool"=none) (An:mg "list"=none) (Eh:mg "all"=none) (A9:mg "len"=none) (Mn:mg "min"=none) (Mo:mg "max"=none) (Hy:mg "str"=none) (Dh:mg "tuple"=none) (Mq:mg "zip"=none) (Gc:mg "sum"=none) (V1:mg "any"=none) (Ao:mg "range"=none) (Ev:mg "ValueError"=none) (Di:mg "LEAST"=some (.int 32768 a.Ms)) (Cy:mg "ONE"=some (.int 16777216 a.Ug)) (Cz:mg "MOST_SIGNS"=some (.int 1000 a.Ek)) (D0:mg "MOST_BYTES"=some (.int 12000 a.El)) (C0:mg "MOST_COUNTED"=some (.int 255 a.Dj)) (E8:mg "FIRST_WIDTH"=some (.int 1099511627776 a.Dx)) (Ew:mg "FIRST_SIZE"=some (.int 5 a.Em)) (E9:mg "LEAST_WIDTH"=some (.int 4294967296 a.Dy)) (Hi:mg "FARTHEST"=some (.int 8 a.Gp)) (Ea:mg "MOST_PLACES"=some (.int 4 a.Dz)) (Ey:mg "MOST_LOOKS"=some (.int 6 a.En)) (Ic:mg "NO_SIGN"=some (.int 256 a.I0)) (Du:mg "FIRST_WEIGHT"=some (.int 1099511627776 a.Dl)) (Ge:mg "OWN_PARTS"=some (.int 31 a.Fb)) (Dv:mg "MOST_FIGURES"=some (.int 48 a.Dm)) (Dc:mg "NODES_END"=some (.int 256 a.Fc)) (D1:mg "FIGURES_telling"=some (.int 24 a.Cn)) (Dw:mg "MOST_LETTERS"=some (.int 8 a.Dn)) (D9:mg "LETTERS"=some (.str "abcdefghijklmnopqrstuvwxyz" a.I1)) (Eb:mg "MOST_PIECES"=some (.int 60 a.E4)) (Ez:mg "MOST_SHELF"=some (.int 1000000 a.Eo)) (Ap:mg "FIGURES_desk"=some (.str "0123456789abcdef" a.Do)) (Ie:mg "NO_BASE"=some (.str "-" a.I2)) (Hj:mg "DONE"=some (.str "ok" a.Tf)) (F0:mg "KINDS"∣a.Be) (Gf:K.lookup a.Be=some #[.type "tuple",none,.seq (List.toArray [.str "even" a.Gq,.str "quick" a.Gr,.str "run" a.Gs]) a.Kk,a.Kl]) (Gg:mg "WORTHS"∣a.Br) (If:K.lookup a.Br=some #[.type "tuple",a.I3,.seq (List.toArray [.int 128 a.Fd,.int 64 a.Fe,.int 32 a.Ff,.int 16 a.Fg,.int 8 a.Fh,.int 4 a.Fi,.int 2 a.Fj,.int 1 a.Fk]) a.I4,a.I5])
def Txt.w_KINDS{K:xy}{mg:Ε}(T:Txt K mg a):∀H,SqT K H a.Be [V.str "even",V.str "quick",V.str "run"]:=ysy T.Gf (by show 3<=sizeLine;decide) (.cons #[_,J] (.cons #[_,J] (.cons #[_,J] .nil)))
def Txt.wy_KINDS{K:xy}{mg:Ε}(T:Txt K mg a):∃o,K.lookup a.Be=some o/\o.cls=.type "tuple"/\o.dict=none:=#[_,T.Gf,J,J]
def Txt.w_WORTHS{K:xy}{mg:Ε}(T:Txt K mg a):∀H,SqT K H a.Br [V.int 128,V.int 64,V.int 32,V.int 16,V.int 8,V.int 4,V.int 2,V.int 1]:=ysy T.If (by show 8<=sizeLine;decide) (.cons #[_,J] (.cons #[_,J] (.cons #[_,J] (.cons #[_,J] (.cons #[_,J] (.cons #[_,J] (.cons #[_,J] (.cons #[_,J] .nil))))))))
end
section
variable{P:qi}{w:qe}{K:xy}{mg:Ε}{Γ:qg}
section
open Lean
mutual
def fld0 (w z:Term):Nat->MacroM Term
 | 0=>return z
 | i+1=>do `($w (by right) $(<-fld0 w z i))
def fld1 (x c l h r k q:Term)(e:List Term):MacroM Syntax:=`(theorem $(⟨x⟩):ident (T:Txt K mg a)(hp:H p=some (.ins $c dx $l))(h : $h) : $r := $k hp $q $(e.toArray)* h)
def fld2 (F:Term)(n:Nat)(w:Array (Term×Term)):MacroM Term:=if w.size<n then do `([$(<-w.mapM fun x=>`(($(x.1),$(x.2)))),*]) else `($F $(w.map (·.2))*)
def fld3 (x g s:Term):MacroM Syntax:=`(theorem $(⟨x⟩):ident {C:qa}{nm:Str}(hp:H p=some (.ins C dx $g))(n:nm∉($s :Ρ))(h:R):MtX H p C nm R:=mtX hp J n h)
def fld4 (x g s e:Term):MacroM Syntax:=`(theorem $(⟨x⟩):ident :List.lookup ($s :Str) $g=none:=$e)
def fld5 (x:Term)(v:Array Ident)(l:Term):MacroM Syntax:=`(def $(⟨x⟩):ident ($v*:V):Ι:= $l)
def fld6 (b:Bool)(x:MacroM Syntax):MacroM (Array Syntax):=if b then return #[<-x] else return #[]
def fld7 (c m:Term):MacroM Term:=`(wj nx σ (upd H p (.ins $c dx $m)))
def fld8 (F c q:Term)(w:Array (Term×Term))(g:Term)(i:Nat)(y:Array Term):MacroM (Array Syntax):=do
 let k:=w.size
 let s:=y[0]!
 let n:=y[1]!
 let r<-`(StX K H p $s v nx σ)
 let V:=(s,<-`(v))
 let z:=w.extract 0 i
 let t (j k l m e):=fld6 y[j]!.raw.isIdent do fld1 y[j]! c (<-fld2 F w.size l) (<-fld7 c (<-fld2 F w.size m)) r (<-`(stX)) q [n,mkIdent (.mkSimple s!"lt{k}"),<-fld0 (<-`(wa)) e i]
 return (<-fld6 y[2]!.raw.isIdent do fld1 y[2]! c g (<-`(P $(w[i]!.2))) (<-`(RdX K H p $s P)) (<-`(rdX)) q [n,<-fld0 (<-`(wg)) (<-`(x8)) i])++(<-t 3 k w (w.set! i V) (<-`(jw)))++(<-t 4 i z (z.push V) (<-`(wt)))
end
local macro_rules | `(#synth[$F,$C,$q,$xs,*])=>do
 let r:=xs.getElems.map fun x=>x.raw[1].getSepArgs.map fun x=>(⟨x⟩:Term)
 let f:=r.filter (·.size==5)
 let v:Array Ident:=f.mapIdx fun i _=>mkIdent (.mkSimple s!"v{i}")
 let w:=f.mapIdx fun i y=>(y[0]!,(⟨v[i]!⟩:Term))
 let g<-fld2 F 0 w
 let mut o:=(List.cons (<-fld5 F v (<-fld2 F 99 w)) []).toArray
 for y in r do
  o:=o++(<-fld6 (y.size==1) (do fld3 y[0]! g (<-`([$(w.map (·.1)),*]))))++(<-fld6 (y.size==2) (do fld4 y[1]! g y[0]! (<-fld0 (<-`(wg)) (<-`(Ï)) v.size)))
 for i in [0:f.size] do o:=o++(<-fld8 F C q w g i f[i]!)
 return mkNullNode o
mutual
variable{H:Hp}{p dx:qa}{v0 v1 v2 v3 v4 v5 v:V}{P:V->Prop}{nx:Ζ}{σ:St}
#synth[jv,a.Af,T.At,["noughts",T.Ax,ě,Ě,Ġ],["ones",T.Bw,ybq,ybo,ybk],["chance",ō],["seen",ybr],["twin",ybw]]
#synth[zy,a.Ae,T.Bb,["held",T.Bf,Ÿ,ž,yaa],["chance",Ĝ],["seen",ź],["twin",ů]]
#synth[ā,a.Ak,T.Bg,["last",T.Cc,yea,yd8,yd5],["length",T.Bh,yam,yal,ŵ],["chance",yae],["seen",yd0],["twin",yd9]]
#synth[yc5,a.Ag,T.Bi,["look",T.Db,ybn,_,ybm],["slots",T.Bj,ż,ų,yak],[yve]]
#synth[vhp,a.Ca,T.Ed,["kept",T.D6,yhb,yho,yhl],[vix]]
#synth[jo,a.A3,T.Ad,["looks",T.Bk,ydi,_,ydu],["books",T.Cd,yd7,yd4,ydt],["mixer",T.Ce,yd1,ydm,ydp],["ended",T.Cg,yd6,ydy,ydr],["place",T.Ci,ydw,ydj,ydz],["present",T.Bl,yag,yah,yai],[vjy]]
#synth[ymz,a.Al,T.Ay,["data",T.Ee,yhn,_,yhr],["span",T.Ef,yg4,_,yh4],["number",T.By,yby,ybp,ybs],["reached",T.Bn,Ż,Ů,ű],[vik]]
#synth[ν,a.A2,T.Ah,["foreteller",T.Az,Ñ,_,Ò],["links",T.C7,Ň,_,ň],["texts",T.C8,ń,_,ŋ],[yog]]
#synth[þ,a.Ac,T.Cr,["base",T.Cs,Ź,_,yac],["data",T.Ct,Ű,_,ſ]]
#synth[wo,a.A0,T.A1,["looks",T.B6,Ŋ,_,ŉ],["most",T.Cu,Ŷ,_,yab],["pieces",T.Bz,ğ,_,ĝ],["chain",T.B8,Ł,Ō,Ņ],[yov]]
#synth[jd,a.A4,T.A6,["data",T.C9,ł,_,ņ],["reached",T.Aq,î,ï,ð],[yix]]
#synth[ć,a.Aj,T.Ab,["store",T.Bo,yaj,yad,ŷ],[ywh]]
end
end
local macro_rules | `(tactic| walk_at "f1")=>`(tactic| first
 | fail "1 ě ybq Ÿ yea yam ybn ż yhb ydi yd7 yd1 yd6 ydw yag yhn yg4 yby Ż Ñ Ň ń Ź Ű Ŋ Ŷ ğ Ł ł î yaj")
local macro_rules | `(tactic| walk_at "f2")=>`(tactic| first
 | fail "1 Ě Ġ ybo ybk ž yaa yd8 yd5 yal ŵ ybm ų yak yho yhl ydu yd4 ydt ydm ydp ydy ydr ydj ydz yah yai yhr yh4 ybp ybs Ů ű Ò ň ŋ yac ſ ŉ yab ĝ Ō Ņ ņ ï ð yad ŷ")
local macro_rules | `(tactic| walk_at "f3")=>`(tactic| first
 | fail "3 yve vix vjy vik yog yov yix ywh")
local macro_rules | `(tactic| walk_at "rd1")=>`(tactic| first | ((with_reducible refine gRd ?_); walk_at "f1") | ((with_reducible refine gSt ?_); walk_at "f2") | ((with_reducible refine gMt ?_); walk_at "f3"))
open SpanMath
mutual
def But(p:qa)(H H':Hp):Prop:=∀b o,H b=some o->b≠p->H' b=some o
def But.refl{p:qa}{H:Hp}:But p H H:=λZ Z h Z=>h
def But.of{p:qa}{H H':Hp}(s:y7 H H'):But p H H':=λb o h Z=>s b o h
def But.trans{p:qa}{H H1 H2:Hp}(x:But p H H1)(y:But p H1 H2):But p H H2:=λb o h n=>y b o (x b o h n) n
theorem But.upd{p:qa}{H:Hp}{o:HO}:But p H (L2.upd H p o):=λb u h n=>by rwa[yk n,h]
theorem But.lst{p l C dx:qa}{fs:Ι}{H H':Hp}{xs:Τ}(e:But p H H')(hp:H p∩C dx fs)(h:H l\xs):H' l\xs:=e _ _ h (xf h hp (by intro z;cases z))
def ψ{x:V}(h:ê x=true):∃i,x=.int i:=by
 cases x with
 |int i=>erw[i,rfl]
 |_=>cases h
noncomputable def Đ:V->Bool
 | .int i=>decide (0<=i) && decide (i<=1)
 |_=>false
noncomputable def chV:V->Bool
 | .int i=>decide (32768<=i) && decide (i<=16744448)
 |_=>false
end
local macro_rules | `(#synth ∀$bs:bracketedBinder*,∀$cs:bracketedBinder*,$n:ident)=>`(inductive $n:ident $bs* (vs:Τ)(H:Hp)(Q:VK)(E:XK):Prop | mk $cs*)
local macro_rules | `(#synth ∀$cs:bracketedBinder*,$n:ident)=>`(inductive $n:ident (vs:Τ)(H:Hp)(Q:VK)(E:XK):Prop | mk $cs*)
mutual
#synth ∀(K:xy),∀(x n:_)(_:vs=[x])(_:jc K H x (.type n))(_:Q (.bl (ê x)) H),yyk
noncomputable def τ(x:Sn):Ι:=[("low",.int x.1),("width",.int x.2.1),("size",.int x.2.2)]
def nWL:¬(("width":Str)="low"):=(by right)
def nLW:¬(("low":Str)="width"):=(by right)
def nSL:¬(("size":Str)="low"):=(by right)
def nLS:¬(("low":Str)="size"):=(by right)
def nSW:¬(("size":Str)="width"):=(by right)
def nWS:¬(("width":Str)="size"):=(by right)
def lkL(x:Sn):(τ x).lookup ("low":Str)=some (x.1:):=x8
def lkW(x:Sn):(τ x).lookup ("width":Str)=some (x.2.1:):=wg nWL x8
def lkS(x:Sn):(τ x).lookup ("size":Str)=some (x.2.2:):=wg nSL (wg nSW x8)
def lkN(x:Sn){m:Str}(h1:¬m="low")(h2:¬m="width")(h3:¬m="size"):(τ x).lookup m=none:=wg h1 (wg h2 (wg h3 Ï))
def pfL(x:Sn)(v:Int):É "low" (v:) (τ x)=τ (v,x.2.1,x.2.2):=jw
def pfW(x:Sn)(v:Int):É "width" (v:) (τ x)=τ (x.1,v,x.2.2):=wa nLW jw
def pfS(x:Sn)(v:Int):É "size" (v:) (τ x)=τ (x.1,x.2.1,v):=wa nLS (wa nWS jw)
end
section
mutual
variable{H:Hp}{p dx:qa}{x:Sn}{P:V->Prop}{nx:Ζ}{σ:St}{v:Int}
def rdL(T:Txt K mg a)(hp:H p∩a.A8 dx (τ x))(h:P (x.1:)):
  ∃a' C dx fs v,V.ref p=.ref a'/\H a'∩C dx fs/\Cls K C/\NoAttr K C "low"/\fs.lookup ("low":Str)=some v/\P v:=#[p,_,dx,_,_,J,hp,T.Ai,T.Cj,lkL x,h]
def rdW(T:Txt K mg a)(hp:H p∩a.A8 dx (τ x))(h:P (x.2.1:)):
  ∃a' C dx fs v,V.ref p=.ref a'/\H a'∩C dx fs/\Cls K C/\NoAttr K C "width"/\fs.lookup ("width":Str)=some v/\P v:=#[p,_,dx,_,_,J,hp,T.Ai,T.Bm,lkW x,h]
def rdS(T:Txt K mg a)(hp:H p∩a.A8 dx (τ x))(h:P (x.2.2:)):
  ∃a' C dx fs v,V.ref p=.ref a'/\H a'∩C dx fs/\Cls K C/\NoAttr K C "size"/\fs.lookup ("size":Str)=some v/\P v:=#[p,_,dx,_,_,J,hp,T.Ai,T.Bx,lkS x,h]
def vlj(T:Txt K mg a)(hp:H p∩a.A8 dx (τ x))(h:wj nx σ (upd H p (.ins a.A8 dx (τ (v,x.2.1,x.2.2))))):
  ∃a' C dx fs,V.ref p=.ref a'/\H a'∩C dx fs/\Cls K C/\NoAttr K C "low"/\↑fs<1000/\wj nx σ (upd H a' (.ins C dx (É "low" (v:) fs))):=#[p,_,dx,τ x,J,hp,T.Ai,T.Cj,by show 3<1000;decide,by rwa[pfL,h]]
def vln(T:Txt K mg a)(hp:H p∩a.A8 dx (τ x))(h:wj nx σ (upd H p (.ins a.A8 dx (τ (x.1,v,x.2.2))))):
  ∃a' C dx fs,V.ref p=.ref a'/\H a'∩C dx fs/\Cls K C/\NoAttr K C "width"/\↑fs<1000/\wj nx σ (upd H a' (.ins C dx (É "width" (v:) fs))):=#[p,_,dx,τ x,J,hp,T.Ai,T.Bm,by show 3<1000;decide,by rwa[pfW,h]]
def vlx(T:Txt K mg a)(hp:H p∩a.A8 dx (τ x))(h:wj nx σ (upd H p (.ins a.A8 dx (τ (x.1,x.2.1,v))))):
  ∃a' C dx fs,V.ref p=.ref a'/\H a'∩C dx fs/\Cls K C/\NoAttr K C "size"/\↑fs<1000/\wj nx σ (upd H a' (.ins C dx (É "size" (v:) fs))):=#[p,_,dx,τ x,J,hp,T.Ai,T.Bx,by show 3<1000;decide,by rwa[pfS,h]]
end
end
set_option hygiene true in
local macro_rules | `(tactic| walk_at "rd1")=>`(tactic| first
 | fail "1 rdL rdW rdS vlj vln vlx")
mutual
inductive Slt where
 |ev (n o:Int)
 |qk (h:Int)
 |rn (l n:Int)
abbrev _root_.Α:=Nat->qj Int->ql Slt
def Slt.ok:Slt->Prop
 | .ev n o=>0<=n/\0<=o/\n+o<=255
 | .qk h=>32768<=h/\h<=16744448
 | .rn l n=>0<=l/\l<=1/\0<=n/\n<=255
noncomputable def ĉ(n:Int):Int:=(2*n+1)*16777216/(2*n+2)
def Slt.due:Slt->Int
 | .ev n o=>(2*o+1)*16777216/(2*(n+o)+2)
 | .qk h=>h
 | .rn l n=>if l=1 then ĉ n else 16777216-ĉ n
noncomputable def ye2(n o:Int):Slt:=if 255<n+o then .ev ((n+1)/2) ((o+1)/2)else .ev n o
noncomputable def ygs(m:Int):Int:=if 16744448<(if 32768 > m then 32768 else m)then 16744448 else (if 32768 > m then 32768 else m)
def Slt.see:Slt->Int->Slt
 | .ev n o,b=>if b=1 then ye2 n (o+1)else ye2 (n+1) o
 | .qk h,b=>.qk (ygs (if b=1 then h+(16777216-h)/16 else h-h/16))
 | .rn l n,b=>if b=l then .rn l (if 255<n+1 then 255 else n+1)else .rn b 1
noncomputable def oS(a:Ads)(dx:qa):Slt->HO
 | .ev n o=>.ins a.Af dx (jv (n:) (o:))
 | .qk h=>.ins a.Ae dx (zy (h:))
 | .rn l n=>.ins a.Ak dx (ā (l:) (n:))
def yft{n o:Int}(h1:0<=n)(h2:0<=o)(h3:n+o<=256):(ye2 n o).ok:=by
 unfold ye2
 split
 .exists by omega,(),()
 .erw[h1,h2,()]
def yke(m:Int):32768<=ygs m/\ygs m<=16744448:=by
 unfold ygs
 split<;>split<;>omega
def Slt.see_ok{s:Slt}{b:Int}(h:s.ok)(b0:0<=b)(b1:b<=1):(s.see b).ok:=by
 cases s with
 |ev n o =>
  let#[a,c,d]:=h;unfold Slt.see;dsimp only
  split
  .erw[yft a () ()]
  .erw[yft () c ()]
 |qk h0=>erw[yke _]
 |rn l n =>
  let#[a,c,d,e]:=h;unfold Slt.see;dsimp only
  split
  .erw[a,c,?_,?_]<;>split<;>omega
  .erw[b0,b1,∅,∅]
noncomputable def kdS:Fin 3->Str
 |0=>"even"
 |1=>"quick"
 |2=>"run"
def kd0:Fin 3->Slt
 |0=>.ev 0 0
 |1=>.qk 8388608
 |2=>.rn 1 0
def yr7(k:Fin 3):(kd0 k).ok:=by
 match k with
 |0=>exists by decide,∅,∅
 |1=>exists by decide,∅
 |2=>exists by decide,∅,∅,∅
def vcw{b:Int}(b0:0<=b)(b1:b<=1):Đ (b:)=true:=by simp only[Đ,cB,decide_eq_true_eq];omega
def ygy{x:V}(h:Đ x=true):∃b:Int,x=.int b/\0<=b/\b<=1:=by
 cases x with
 |int i =>
  simp only[Đ,cB,decide_eq_true_eq]at h;erw[i,J,h.1,h.2]
 |_=>cases h
#synth ∀(C:qa)(F:Ι),∀(p dx:qa)(_:vs=[.ref p])(_:H p∩C dx [])(_:∀H',H' p∩C dx F->But p H H'->Q .non H'),ya1
#synth ∀(o:qa->Slt->HO)(g:Slt->Prop),∀(p dx:qa)(s:Slt)(_:vs=[.ref p])(_:g s)(_:s.ok)(_:H p=some (o dx s))(_:Q (s.due:) H),zn
#synth ∀(K:xy)(o:qa->Slt->HO)(g:Slt->Prop)(C:qa),∀(p dx:qa)(s:Slt)(x:V)(n:String)(_:vs=[.ref p,x])(_:g s)(_:s.ok)(_:H p=some (o dx s))(_:jc K H x (.type n))(_:(∀b:Int,x=.int b->0<=b->b<=1->∀H',H' p=some (o dx (s.see b))->But p H H'->Q .non H'))(_:(Đ x=false->E ⇑C none H)),Æ
def yyg:Slt->Prop
 | .ev _ _=>True
 |_=>False
def yyh:Slt->Prop
 | .qk _=>True
 |_=>False
def yyf:Slt->Prop
 | .rn _ _=>True
 |_=>False
def ybj(bs:Ο):Prop:=∀b∈bs,0<=b/\b<=1
def vw{n:Nat}(h:n<=16000000):n<=sizeLine:=cN h ∅
def vi{n:Nat}(h:n<=16000000):n<sizeLine:=Nat.lt_of_le_of_lt h ∅
def ju{ns:Ο}{i:Nat}{x:V}(h:(↥ns)[i]?=some x):∃n,x=.int n/\n∈ns/\ns[i]?=some n/\i<↑ns:=by
 rw[bU]at h
 cases e:ns[i]? with
 |none=>rw[e]at h;cases h
 |some n =>
  rw[e]at h
  have a:i<↑ns:=by
   rcases Nat.lt_or_ge i ↑ns with q|q
   .erw[q]
   .rw[cQ q]at e;cases e
  erw[n,(cr h).symm,ck e,J,a]
def jq{l:Ο}{i:Nat}{q:Int}(h:l[i]?=some q):l.take (i+1)=l.take i++[q]:=by rw[List.take_add_one,h];rfl
def yf3{ys:Ο}(h1:ybj xs)(h2:ybj ys):ybj (xs++ys):=λb a=>by
 rcases cA.mp a with h|h
 .erw[h1 b h]
 .erw[h2 b h]
def yj1(c:Int)(n:Nat):(List.replicate n [V.int c]).flatten=↥(List.replicate n c):=by
 induction n with
 |zero=>rfl
 |succ n ih=>rw[c9,List.flatten_cons,ih,c9];rfl
def ytv(sg:Ο)(p:Int):Int:=if p<=↑sg then (atI sg (-p)).getD 256 else 256
def yvy{α β:Type}(f:α->β)(xs:qj α)(i:Int):atI (xs.map f) i=(atI xs i).map f:=by
 unfold atI;rw[bL]
 cases ixN ↑xs i with
 |none=>rfl
 |some j =>
  show (xs.map f)[j]?=(xs[j]?).map f;rw[bU]
def ypj{sg:Ο}{p:Int}(h1:1<=p)(h2:p<=↑sg):∃c,atI sg (-p)=some c/\c∈sg:=by
 unfold atI ixN;rw[if_neg ()];by_cases h:-(↑sg:Int)<= -p
 .rw[if_pos ()];have a:((-p+(↑sg:Int)).toNat)<↑sg:=()
  erw[_,bP a,cE a]
 .omega
def Slt.kind:Slt->Fin 3
 | .ev _ _=>0
 | .qk _=>1
 | .rn _ _=>2
def ynv(s:Slt)(b:Int):(s.see b).kind=s.kind:=by
 cases s with
 |ev n o =>
  unfold Slt.see ye2;dsimp only
  split<;>split<;>rfl
 |qk h=>rfl
 |rn l n =>
  unfold Slt.see;dsimp only
  split<;>rfl
def yn6(k:Fin 3):(kd0 k).kind=k:=by
 match k with
 |0=>rfl
 |1=>rfl
 |2=>rfl
def Ë(a:Ads)(dx:qa)(s:Slt):∃C fs,oS a dx s=.ins C dx fs:=by cases s<;>erw[_,_,J]
def ygr{s:Slt}(h:s.ok):32768<=s.due/\s.due<=16744448:=by
 cases s with
 |ev n o =>
  let#[c,b,d]:=h;unfold Slt.due;dsimp only;have a:(0:Int)<2*(n+o)+2:=()
  constructor
  .rw[Int.le_ediv_iff_mul_le a];omega
  .have:(2*o+1)*16777216/(2*(n+o)+2)<16744449:=by
    rw[Int.ediv_lt_iff_lt_mul a];omega
   omega
 |qk h0=>erw[h]
 |rn l n =>
  let#[c,b,d,e]:=h;have a:(0:Int)<2*n+2:=()
  have g1:8388608<=ĉ n:=by
   unfold ĉ;rw[Int.le_ediv_iff_mul_le a];omega
  have g2:ĉ n<16744449:=by
   unfold ĉ;rw[Int.ediv_lt_iff_lt_mul a];omega
  unfold Slt.due;dsimp only
  split<;>omega
def yio{p dx:qa}{s:Slt}{ta:TE}{σ:St}{H:Hp}{Q:VK}{E1 E2 E3:XK}(hta:∀Q':VK,Q' ⇑p H->ta σ H Q')(hp:H p=some (oS a dx s))(ok:s.ok)(h:Q (s.due:) H):
  ypx (Ŏ a.Af "chance" (zn (oS a) yyg) [] E1 ta yie) (ypx (Ŏ a.Ae "chance" (zn (oS a) yyh) [] E2 ta yie) (Ŏ a.Ak "chance" (zn (oS a) yyf) [] E3 ta yie)) σ H Q:=by
 cases s with
 |ev n o=>erw[Ì (ĺ (hta _ #[p,dx,_,J,hp,ō,p,dx,.ev n o,J,trivial,ok,hp,h]))]
 |qk h0=>erw[jt (Ì (ĺ (hta _ #[p,dx,_,J,hp,Ĝ,p,dx,.qk h0,J,trivial,ok,hp,h])))]
 |rn l n=>erw[jt (jt (ĺ (hta _ #[p,dx,_,J,hp,yae,p,dx,.rn l n,J,trivial,ok,hp,h])))]
def yux{p dx:qa}{s:Slt}{ta:TE}{t:TA}{σ:St}{H:Hp}{Q:VK}{E1 E2 E3:St->XK}{x:V}{n:String}(hta:∀Q':VK,Q' ⇑p H->ta σ H Q')(ht:∀Q':qj V->Hp->Prop,Q' [x] H->t σ H Q')(hp:H p=some (oS a dx s))(ok:s.ok)(ty:jc K H x (.type n))
  (h:∀b:Int,x=.int b->0<=b->b<=1->∀H',H' p=some (oS a dx (s.see b))->But p H H'->Q .non H') (h1:Đ x=false->E1 σ ⇑a.Bp none H) (h2:Đ x=false->E2 σ ⇑a.Bp none H) (h3:Đ x=false->E3 σ ⇑a.Bp none H):
  ypx (Ť a.Af "seen" (Æ K (oS a) yyg a.Bp) [] E1 ta t) (ypx (Ť a.Ae "seen" (Æ K (oS a) yyh a.Bp) [] E2 ta t) (Ť a.Ak "seen" (Æ K (oS a) yyf a.Bp) [] E3 ta t)) σ H Q:=by
 cases s with
 |ev n o=>erw[Ì (ybf (hta _ #[p,dx,_,J,hp,ybr,ht _ #[p,dx,.ev n o,x,_,J,trivial,ok,hp,ty,h,h1]]))]
 |qk h0=>erw[jt (Ì (ybf (hta _ #[p,dx,_,J,hp,ź,ht _ #[p,dx,.qk h0,x,_,J,trivial,ok,hp,ty,h,h2]])))]
 |rn l n=>erw[jt (jt (ybf (hta _ #[p,dx,_,J,hp,yd0,ht _ #[p,dx,.rn l n,x,_,J,trivial,ok,hp,ty,h,h3]])))]
def vca{x:Sn}{c b:Int}(h:Ok x):(nar x c b).2.2<=x.2.2+2:=by
 unfold nar ren;have:=h.z
 (repeat' split)<;>(dsimp only;omega)
noncomputable abbrev tMx:Nat:=100000
def ye9{k:Nat}(h:k<=6):pw k<=281474976710656:=Int.le_trans (yk7 h) ∅
def yn4(xs:Ο)(y:Int):↥xs++[V.int y]=↥(xs++[y]):=(by simp)
def yt1(xs:Ο):(↥xs).reverse=↥xs.reverse:=(by simp)
noncomputable def gvv(c b:Int):Int:=if b=1 then c else 16777216-c
def yeg{x:V}(h:chV x=true):∃c,x=.int c/\32768<=c/\c<=16744448:=by
 cases x with
 |int i =>
  simp only[chV,cB,decide_eq_true_eq]at h;erw[i,J,h.1,h.2]
 |_=>cases h
def yfh{x:V}(h:Đ x=true):∃b,x=.int b/\0<=b/\b<=1:=by
 cases x with
 |int i =>
  simp only[Đ,cB,decide_eq_true_eq]at h;erw[i,J,h.1,h.2]
 |_=>cases h
def yct{c:Int}(h:Ch c):chV (c:)=true:=by let#[a,b]:=h;simp only[chV,cB,decide_eq_true_eq];omega
def ya4{b:Int}(h1:0<=b)(h2:b<=1):Đ (b:)=true:=by simp only[Đ,cB,decide_eq_true_eq];omega
theorem yax{H:Hp}:∀bs:qj Bool,yp5 K H (bs.map V.bl) (bs.map PyData.bool)
 |[]=>.nil
 |n::r=>.cons (.bl n) (yax r)
theorem Ş:∀ns:qj Bool,PyData.canLayAll0 (ns.map PyData.bool)=true
 |[]=>rfl
 |_::r=>by simp[PyData.canLayAll0,PyData.canLay0,Ş r]
theorem ycl:∀ns:qj Bool,PyData.depthAll (ns.map PyData.bool)=0
 |[]=>rfl
 |_::r=>by simp[PyData.depthAll,PyData.depth,ycl r]
def Ţ(ns:qj Bool):SeqAt.shaped (.list (ns.map PyData.bool))=true:=by simp[SeqAt.shaped,PyData.canLay0,PyData.depth,Ş,ycl]
theorem Ŗ:∀ns ms:qj Bool,PyData.eqvAll (ns.map PyData.bool) (ms.map PyData.bool)=decide (ns=ms)
 |[],[]=>by simp[PyData.eqvAll]
 |[],_::_=>by simp[PyData.eqvAll]
 |_::_,[]=>by simp[PyData.eqvAll]
 |a::r,b::t=>by
  simp only[cO,PyData.eqvAll,PyData.eqv,Ŗ r t];by_cases h:a=b<;>by_cases h':r=t<;>simp[h,h']
def vd5{g:Bool->Bool}{H:Hp}{Q:VK}{a b:qa}(ns ms:qj Bool)(ha:SqL K H a (ns.map V.bl))(hb:SqL K H b (ms.map V.bl))(h:Q (.bl (g (decide (ns=ms)))) H):yya K g ⇑a ⇑b H Q :=
 #[_,_,.lst ha (yax ns),.lst hb (yax ms),Ţ ns,Ţ ms,by rwa[PyData.eqv,Ŗ,h]]
def vaw{H H':Hp}{v:V}{n:String}(S:y7 H H')(t:jc K H v (.type n)):jc K H' v (.type n):=by
 cases t with
 |non=>erw[.non]
 |bl b=>erw[.bl b]
 |int i=>erw[.int i]
 |str x=>erw[.str x]
 |flt x=>erw[.flt x]
 |lst e=>erw[.lst (S _ _ e)]
 |frz e=>erw[.frz (S _ _ e)]
 |tup e=>erw[.tup (S _ _ e)]
 |dK e=>erw[.dK (S _ _ e)]
 |dT e=>erw[.dT (S _ _ e)]
noncomputable def sgV:V->Bool
 | .int i=>decide (0<=i) && decide (i<=255)
 |_=>false
def ypr(K:xy)(H:Hp)(xs:Τ):Prop:=∀y∈xs,∃k:String,jc K H y (.type k)
def ó{H:Hp}(ns:Ο):ypr K H ↥ns:=λy a=>by
 let#[i,_,J]:=bW.mp a;erw[_,.int i]
def Bad(K:xy)(H:Hp)(x:V)(n:String)(m:Int):Prop:=n≠"list"\/∃p xs,x=.ref p/\H p\xs/\ypr K H xs/\↑xs<=100000/\(decide ((↑xs:Int)<=m) && xs.all sgV)=false
def vhu(K:xy)(H:Hp)(x:V)(xs:Τ)(m:Int):Prop:=∃p,x=.ref p/\H p\xs/\ypr K H xs/\↑xs<=100000/\(decide ((↑xs:Int)<=m) && xs.all sgV)=true
def ywz{H:Hp}{x:V}{n:String}(ty:jc K H x (.type n)):W.kitOne K (.type n) (.type "list")=some (decide (n="list")):=by cases ty<;>rfl
def yo4{n:Nat}(h:n<=100000):n<sizeLine:=Nat.lt_of_le_of_lt h ∅
def yo8{xs:Τ}(n:Nat):ydf xs (some (n:Int)) none=xs.drop n:=by
 unfold ydf;rw[HT.sIx_nat,HT.sIx_none];by_cases h:n<=↑xs
 .rw[Nat.min_eq_left h,cU (by rwa[du,bT _])]
 .rw[Nat.min_eq_right (),Nat.sub_self,List.take_zero,List.drop_of_length_le ()]
def yej{ns:Ο}(h:∀i∈ns,0<=i/\i<=255):(↥ns).all sgV=true:=by rw[List.all_map,List.all_eq_true];intro i b;let#[a,c]:=h i b;simp[sgV,a,c]
#synth ∀(K:xy)(C:qa)(m:Int),∀(x n:_)(_:vs=[x])(_:jc K H x (.type n))(_:((Bad K H x n m/\∀H',y7 H H'->E ⇑C none H')\/∃xs,vhu K H x xs m/\∀r H',H r=none->H' r\xs->y7 H H'->Q ⇑r H')),œ
def ym2(p q:qa)(H H':Hp):Prop:=∀b o,H b=some o->b≠p->b≠q->H' b=some o
def But.two{p q:qa}{H H':Hp}(h:But p H H'):ym2 p q H H':=λb o e n Z=>h b o e n
def But.two'{p q:qa}{H H':Hp}(h:But q H H'):ym2 p q H H':=λb o e Z n=>h b o e n
def ym2.trans{p q:qa}{H H1 H2:Hp}(x:ym2 p q H H1)(y:ym2 p q H1 H2):ym2 p q H H2:=λb o h n m=>y b o (x b o h n m) n m
structure yii(a:Ads)(H:Hp)(p dx pd ps ds:qa)(d:Ο)(x:Sn):Prop where
 me:H p∩a.Al dx (ymz ⇑pd ⇑ps ((rn d (sz x)):) (x.2.2:))
 dt:H pd\↥d
 sp:H ps∩a.A8 ds (τ x)
 ne:p≠ps
def yii.same{H H':Hp}{p dx pd ps:qa}{d:Ο}{x:Sn}(h:yii a H p dx pd ps ds d x)(S:y7 H H'):yii a H' p dx pd ps ds d x:=#[S _ _ h.me,S _ _ h.dt,S _ _ h.sp,h.ne]
end
section
variable{H H':Hp}{p dx pd ps:qa}{d:Ο}{x:Sn}
theorem yii.lst(h:yii a H p dx pd ps ds d x)(B:ym2 p ps H H'){l:qa}{xs:Τ}(e:H l\xs):H' l\xs:=B _ _ e (xf e h.me (by intro z;cases z)) (xf e h.sp (by intro z;cases z))
theorem yii.tup(h:yii a H p dx pd ps ds d x)(B:ym2 p ps H H'){l:qa}{xs:Τ}(e:H l∪xs):H' l∪xs:=B _ _ e (xf e h.me (by intro z;cases z)) (xf e h.sp (by intro z;cases z))
end
mutual
def yns{H:Hp}{p:qa}{d:Ο}(h:H p\↥d)(hb:Byt d)(hz:↑d<=12000):vhu K H ⇑p ↥d 12000 :=
 #[p,J,h,ó d,by rw[bL];omega,by rw[yej hb,bL,bV ()];rfl]
def Sgs(ns:Ο):Prop:=∀i∈ns,0<=i/\i<=255
noncomputable def wth:Ο:=[128,64,32,16,8,4,2,1]
def b8(s:Int):Ο:=wth.map (λw=>s/w%2)
def dec:qj Int->qj Int
 |[]=>[0]
 |s::r=>(1::b8 s)++dec r
noncomputable def nds:Int->qj Int->qj Int
 |_,[]=>[]
 |n,b::r=>n::nds (2*n+b) r
def yde:qj Int->qj Int
 |[]=>[]
 |s::r=>(1::b8 s)++yde r
theorem ypw:∀ns,dec ns=yde ns++[0]
 |[]=>rfl
 |s::r=>by simp[dec,yde,ypw r]
theorem yb5(s:Int):∀ns,yde (ns++[s])=yde ns++(1::b8 s)
 |[]=>by simp[yde]
 |t::r=>by simp[yde,yb5 s r]
def ys0(s:Int):↑(b8 s)=8:=rfl
theorem Å:∀ns:Ο,↑(yde ns)=9*↑ns
 |[]=>rfl
 |s::r=>by
  show ↑((1::b8 s)++yde r)=9*(↑r+1);rw[bQ,Å r];show 9+_=_;omega
def ywr(s:Int):ybj (b8 s):=λb c=>by
 let#[w,_,J]:=bW.mp c;have a:0<=s/w%2:=dB _ ∅;have d:s/w%2<2:=dn _ ∅;erw[a,()]
theorem jf:∀ns,ybj (dec ns)
 |[]=>λb a=>by rw[bX.mp a];decide
 |s::r=>by
  erw[yf3 (λb a=>?_) (jf r)];rcases bZ.mp a with rfl|a
  .decide
  .erw[ywr s b a]
def vif{s:Int}(h0:0<=s)(h1:s<=255):128*(s/128%2)+(64*(s/64%2)+(32*(s/32%2)+(16*(s/16%2)+(8*(s/8%2)+(4*(s/4%2)+(2*(s/2%2)+(1*(s/1%2)+0)))))))=s:=by
 have h:∀n:Nat,n<256->128*((n:Int)/128%2)+(64*((n:Int)/64%2)+(32*((n:Int)/32%2)+(16*((n:Int)/16%2)+(8*((n:Int)/8%2)+(4*((n:Int)/4%2)+(2*((n:Int)/2%2)+(1*((n:Int)/1%2)+0)))))))=(n:Int):=(by right)
 let#[n,J]:=Int.eq_ofNat_of_zero_le h0;erw[h n ()]
noncomputable def wV(s:Int):V->V
 | .int w=>.int (s/w%2)
 |_=>.non
def Ę{H:Hp}{p:qa}{d:Ο}(h:H p\↥d)(hb:Sgs d)(hz:↑d<=1000):vhu K H ⇑p ↥d 1000 :=
 #[p,J,h,ó d,by rw[bL];omega,by rw[yej hb,bL,bV ()];rfl]
def yoh(xs ys:Ο):↥xs++↥ys=↥(xs++ys):=(by simp)
def xp(ns:Ο):↑(dec ns)=9*↑ns+1:=by rw[ypw,bQ,Å];rfl
noncomputable def ę(f:qj Int->ql Slt)(k:Ο)(s:Slt):qj Int->ql Slt:=λj=>if j=k then some s else f j
noncomputable def yyb:HO->Bool
 | .ins _ _ _=>true
 | .dT _=>true
 |_=>false
noncomputable def kI(k:Ο):qj Key:=k.map Sum.inl
def vbb(k:Ο):(kI k).map kV=↥k:=by unfold kI;rw[cM];rfl
def yc0{j k:Ο}(h:kI j=kI k):j=k:=by
 unfold kI at h
 induction j generalizing k with
 |nil =>
  cases k with
  |nil=>rfl
  |cons _ _=>cases h
 |cons x r ih =>
  cases k with
  |nil=>cases h
  |cons y s =>
   injection h with h1 h2;injection h1 with h1;rw[h1,ih h2]
def ypy(H:Hp)(d:qa):Prop:=∀kvs,H d=some (.dT kvs)->(kvs.map (·.1)).Nodup/\∀q∈kvs,∃k,q.1=kI k
def ypy.mv{H H':Hp}{d:qa}{kvs:qj (qj Key×V)}(h:ypy H d)(h1:H d=some (.dT kvs))(h2:H' d=some (.dT kvs)):ypy H' d:=λa e=>by
 rw[h2]at e;cases e;erw[h kvs h1]
def yoc{kvs:qj (qj Key×V)}{k:qj Key}(h:j7 kvs k=none):k∉kvs.map (·.1):=λm=>by
 let#[p,b,e]:=bW.mp m;let a:=j3 k kvs;rw[h]at a;erw[List.any_eq_false.mp a p b (bV e)]
def ypy.snoc{H':Hp}{d:qa}{kvs:qj (qj Key×V)}{k:Ο}{v:V}(h:(kvs.map (·.1)).Nodup/\∀q∈kvs,∃k,q.1=kI k)(hn:j7 kvs (kI k)=none)(h2:H' d=some (.dT (ŭ kvs (kI k) v))):ypy H' d:=λa e=>by
 rw[h2,ã _ hn]at e;cases e;rwa[ce,#[List.nodup_append.mpr #[h.1,dC.mpr #[List.not_mem_nil,List.nodup_nil],λx b y c z=>?_],λq f=>?_]]
 .rw[z,bX.mp c]at b;erw[yoc hn b]
 .rcases cA.mp f with w|w
  .erw[h.2 q w]
  .rw[bX.mp w];erw[k,rfl]
structure ì(a:Ads)(H:Hp)(p dx lk d:qa)(kd:Fin 3)(f:qj Int->ql Slt)(O:Μ)(m:Nat):Prop where
 me:H p∩a.Ag dx (yc5 ⇑lk ⇑d)
 own:∀b,O b->∃o,H b=some o/\yyb o=true
 np:¬O p
 dO:O d
 ky:ypy H d
 tb:∃(kvs:qj (qj Key×V))(loc:qj Int->qa×qa),H d=some (.dT kvs)/\↑kvs<=m/\(∀k,f k=none->j7 kvs (kI k)=none)/\
  (∀k s,f k=some s->j7 kvs (kI k)∣(loc k).1/\H (loc k).1=some (oS a (loc k).2 s)/\s.ok/\s.kind=kd/\O (loc k).1)/\(∀k j s t,f k=some s->f j=some t->(loc k).1=(loc j).1->k=j)
def yp3(O:Μ)(H H':Hp):Prop:=∀b o,H b=some o->¬O b->H' b=some o
end
section
variable{H H':Hp}{p dx lk d:qa}{kd:Fin 3}{f:qj Int->ql Slt}{O:Μ}{m:Nat}
def ì.frame(h:ì a H p dx lk d kd f O m){O2:Μ}(B:yp3 O2 H H')(dj:∀b,O b->¬O2 b)(hp:¬O2 p):ì a H' p dx lk d kd f O m:=by
 let#[c,g,e,r,w,t,v]:=h.tb;erw[B _ _ h.me hp,λb i=>?_,h.np,h.dO,h.ky.mv e (B _ _ e (dj _ h.dO)),c,g,B _ _ e (dj _ h.dO),r,w,λk s l=>?_,v]
 .let#[o,n,z]:=h.own b i;erw[o,B _ _ n (dj b i),z]
 .let#[u,y,x,q,j]:=t k s l;erw[u,B _ _ y (dj _ j),x,q,j]
def ì.same(h:ì a H p dx lk d kd f O m)(S:y7 H H'):ì a H' p dx lk d kd f O m:=h.frame (O2:=λZ=>False) (λb o e Z=>S b o e) (λZ Z z=>z) (λz=>z)
end
mutual
#synth ∀(o:qa->Slt->HO)(g:Slt->Prop),∀(p dx:qa)(s:Slt)(_:vs=[.ref p])(_:g s)(_:H p=some (o dx s))(_:∀q dq H',H q=none->H' q=some (o dq s)->y7 H H'->Q ⇑q H'),Ä
def yul{p dx:qa}{s:Slt}{ta:TE}{σ:St}{H:Hp}{Q:VK}{E1 E2 E3:XK}(hta:∀Q':VK,Q' ⇑p H->ta σ H Q')(hp:H p=some (oS a dx s))(h:∀q dq H',H q=none->H' q=some (oS a dq s)->y7 H H'->Q ⇑q H'):
  ypx (Ŏ a.Af "twin" (Ä (oS a) yyg) [] E1 ta yie) (ypx (Ŏ a.Ae "twin" (Ä (oS a) yyh) [] E2 ta yie) (Ŏ a.Ak "twin" (Ä (oS a) yyf) [] E3 ta yie)) σ H Q:=by
 cases s with
 |ev n o=>erw[Ì (ĺ (hta _ #[p,dx,_,J,hp,ybw,p,dx,.ev n o,J,trivial,hp,h]))]
 |qk h0=>erw[jt (Ì (ĺ (hta _ #[p,dx,_,J,hp,ů,p,dx,.qk h0,J,trivial,hp,h])))]
 |rn l n=>erw[jt (jt (ĺ (hta _ #[p,dx,_,J,hp,yd9,p,dx,.rn l n,J,trivial,hp,h])))]
def ü{H H1:Hp}{q:qa}{o o':HO}(nq:H q=none)(nd:H dq=none)(B:But q (upd (upd H dq o) q o') H1):y7 H H1:=λb u e=>B b u (by rwa[yk (yb e nq),yk (yb e nd),e]) (yb e nq)
end
open MixI
mutual
structure yih(a:Ads)(p dx l:qa)(ws:Ο)(H:Hp):Prop where
 o:H p∩a.Ca dx (vhp ⇑l)
 l:H l\↥ws
def yih.same{p dx l:qa}{ws:Ο}{H H':Hp}(m:yih a p dx l ws H)(S:y7 H H'):yih a p dx l ws H':=#[S _ _ m.o,S _ _ m.l]
def vc8{k:Nat}{cs:Ο}(h:COk k cs){c:Int}(hm:c∈cs):Ch c:=#[h.lo c hm,h.hi c hm]
def ysc{g:Int->Int->Int}{ws cs:Ο}(h:↑cs=↑ws):(List.range ↑↥ws).map (λi=>V.int (g ((ws[i]?).getD 0) ((cs[i]?).getD 0)))=↥(List.zipWith g ws cs):=by rw[bL,<- yjm h,cM];rfl
def yfo{H:Hp}{xs ys:Τ}(h:H D\xs)(e:xs=ys):H D\ys:=e ▸ h
#synth ∀(K:xy)(a:Ads),∀(p dx l c:qa)(ws cs:Ο)(k:Nat)(_:vs=[.ref p,.ref c])(_:1<=k)(_:k<=6)(_:WOk k ws)(_:COk k cs)(_:yih a p dx l ws H)(_:SqL K H c ↥cs)(_:∀H',y7 H H'->Q ((ym0 ws cs):) H'),yja
#synth ∀(K:xy)(a:Ads)(C:qa),∀(p dx l c:qa)(ws cs:Ο)(k:Nat)(x:V)(n:String)(_:vs=[.ref p,.ref c,x])(_:1<=k)(_:k<=6)(_:WOk k ws)(_:COk k cs)(_:yih a p dx l ws H)(_:SqL K H c ↥cs)(_:jc K H x (.type n))(_:(∀b:Int,x=.int b->0<=b->b<=1->∀l' H',H l'=none->yih a p dx l' (lrn ws cs b) H'->But p H H'->Q .non H'))(_:(Đ x=false->E ⇑C none H)),yis
#synth ∀(a:Ads),∀(p dx l:qa)(ws:Ο)(_:vs=[.ref p])(_:yih a p dx l ws H)(_:∀r H',H r=none->H' r\↥ws->y7 H H'->Q ⇑r H'),yt0
#synth ∀(a:Ads),∀(p dx:qa)(k:Nat)(_:vs=[.ref p,.int k])(_:1<=k)(_:k<=6)(_:H p∩a.Ca dx [])(_:∀l H',H l=none->yih a p dx l (List.replicate k 1099511627776) H'->But p H H'->Q .non H'),yor
noncomputable def plV:V->Bool
 | .int i=>decide (1<=i) && decide (i<=8)
 |_=>false
noncomputable def ltV:V->V->Bool
 | .int i,.int j=>decide (i<j)
 |_,_=>false
def vj2(xs:Τ):Bool:=(List.zipWith ltV xs xs.tail).all id
def ux(xs:Τ):Bool:=decide (↑xs<=4) && xs.all plV && vj2 xs
def yox{H:Hp}{x:V}{n:String}(ty:jc K H x (.type n)):W.kitOne K (.type n) (.type "str")=some (decide (n="str")):=by cases ty<;>rfl
def ylb{y:V}(h:plV y=true):∃i:Int,y=.int i/\1<=i/\i<=8:=by
 cases y with
 |int i =>
  have h:(decide (1<=i) && decide (i<=8))=true:=h;rw[cB]at h;erw[i,J,of_decide_eq_true h.1,of_decide_eq_true h.2]
 |_=>cases h
def yvu{xs:Τ}{i:Nat}{y:V}(h:xs.tail[i]?=some y):xs[i+1]?=some y:=by
 cases xs with
 |nil=>simp at h
 |cons x r=>simpa using h
def yjf(xs:Τ):(List.range ↑xs.tail).map (λi=>V.bl (ltV ((xs[i]?).getD .non) ((xs.tail[i]?).getD .non)))=(List.zipWith ltV xs xs.tail).map V.bl:=by
 apply List.ext_getElem
 .rw[bL,cS,bL,List.length_zipWith,List.length_tail];omega
 .intro i a c;rw[bL,cS]at a;have b:i<↑xs:=by rw[List.length_tail]at a;omega
  rw[dD,List.getElem_range,dD,List.getElem_zipWith,bP a,bP b];rfl
def yvo{t u:qa}{xs:Τ}{te:TE}{fr:St}{R:Hp->Prop}{H1:Hp}(hint:∀y∈xs,∃i:Int,y=.int i)(hl:↑xs<=1000)(ht:SqT K H1 t xs)(hu:SqT K H1 u xs.tail)(hD:H1 D=none)
  (hte:∀(i j:Int)(σ':St)(H':Hp)(Q':VK),Q' (.bl (decide (i<j))) H'->te (some (i:)::some (j:)::σ') H' Q') (hR:∀H,y7 H1 H->H D\((List.zipWith ltV xs xs.tail).map V.bl)->R H):
  θ (vhs K t u) (yyc K 2 (ja (xm 0) (ja (xm 1) ymy))) te 2 fr D R H1:=by
 erw[yds (m:=↑xs.tail) (λi=>V.bl (ltV ((xs[i]?).getD .non) ((xs.tail[i]?).getD .non))) ht hu (by rw[List.length_tail];omega) (bT _) (.inr (bT _)) hD (λi x y h l s z q p k a g f=>?_) (λh k a=>?_)]
 .let#[w,v,J]:=ymd f;let#[c,J]:=hint x (ck q);let#[d,J]:=hint y (ck (yvu p));let n:=k.trans (y9 (o:=HO.tup [V.int c,V.int d]) g);let e:=zx (o':=HO.tup [V.int c,V.int d]) g a;have b:upd h l (HO.tup [V.int c,V.int d]) l∪[V.int c,V.int d]:=ya;generalize upd h l (HO.tup [V.int c,V.int d])=r at n e b;erw[ũ (SqT.of b) J ?_];show ja (xm 0) (ja (xm 1) ymy) [V.int c,V.int d] (w::v::fr) r _;ext;erw[#[[some (c:),some (d:)],J,J],?_,<-hte c d fr r _ ?_,<-Mp.doneR hD (vi (by rw[List.length_tail];omega)) z n e ?_];rw[q,p];rfl
 .erw[hR h k (by rwa[<- yjf,a])]
def yt6(xs:Τ):ydf xs (some 1) none=xs.tail:=by
 unfold ydf
 have e:HT.sIx ↑xs 0 (some 1)=min 1 ↑xs:=by
  have:=HT.sIx_nat ↑xs 0 1;simpa using this
 rw[HT.sIx_none,e]
 cases xs with
 |nil=>rfl
 |cons x r=>simp
def LkG(H:Hp)(v:V)(kd:Fin 3)(tp:qa)(ps:Ο):Prop:=∃lk,v=.ref lk/\H lk∪[.str (kdS kd),.ref tp]/\H tp∪↥ps/\ux ↥ps=true
def LkG.same{H H':Hp}{v:V}{kd:Fin 3}{tp:qa}{ps:Ο}(h:LkG H v kd tp ps)(S:y7 H H'):LkG H' v kd tp ps:=by let#[b,e,a,c,d]:=h;erw[b,e,S _ _ a,S _ _ c,d]
def jp{xs:Τ}(h:ux xs=true):↑xs<=4:=by unfold ux at h;rw[cB,cB]at h;erw[of_decide_eq_true h.1.1]
theorem yrj:∀{ps:Ο},ps.Pairwise (· < ·)->vj2 ↥ps=true
 |[],_=>rfl
 |[_],_=>rfl
 |p::q::r,h=>by
  have b:p<q:=(List.pairwise_cons.mp h).1 q (by simp);let a:=yrj (List.pairwise_cons.mp h).2;unfold vj2 at a⊢;simp only[cO,List.tail_cons,List.zipWith_cons_cons,List.all_cons]at a⊢;rw[show ltV (V.int p) (V.int q)=true from bV b];simpa using a
def yj5{ps:Ο}(h1:↑ps<=4)(h2:∀p∈ps,1<=p/\p<=8)(h3:ps.Pairwise (· < ·)):ux ↥ps=true:=by unfold ux;rw[bL,bV h1,yrj h3,Bool.true_and,Bool.and_true,List.all_eq_true];intro y b;let#[i,a,J]:=bW.mp b;have:=h2 i a;show (decide (1<=i) && decide (i<=8))=true;rw[bV this.1,bV this.2];rfl
def Lks(H:Hp)(xs:Τ):Prop:=∀y∈xs,∃kd tp ps,LkG H y kd tp ps
theorem LkG.upd{H:Hp}{v:V}{kd:Fin 3}{tp l:qa}{ps:Ο}{xs ys:Τ}(h:LkG H v kd tp ps)(hl:H l\xs):LkG (L2.upd H l (.lst ys)) v kd tp ps:=by let#[c,e,a,b,d]:=h;erw[c,e,ye (xf a hl (by intro z;cases z)) a,ye (xf b hl (by intro z;cases z)) b,d]
def vkm(_:xy)(_:Hp)(_:V):Prop:=False
noncomputable def upN{α:Type}(g:Nat->α)(n:Nat)(x:α):Nat->α:=λj=>if j=n then x else g j
def wx{α:Type}{g:Nat->α}{n:Nat}{x:α}:upN g n x n=x:=if_pos J
def wu{α:Type}{g:Nat->α}{n:Nat}{x:α}(h:j<n):upN g n x j=g j:=if_neg ()
def yus(c:Int):∃kk:Fin 3,atI [V.str "even",V.str "quick",V.str "run"] (c%3)=some (V.str (kdS kk)):=by
 have b:0<=c%3:=dB _ ∅;have a:c%3<3:=dn _ ∅;generalize c%3=z at b a;obtain rfl|rfl|rfl:z=0\/z=1\/z=2:=()
 .erw[0,J]
 .erw[1,J]
 .erw[2,J]
def xz(H:Hp)(n:Nat)(lk:Λ)(kd:Ν)(tp:Λ)(ps:Κ):Prop:=∀i,i<n->LkG H ⇑(lk i) (kd i) (tp i) (ps i)
theorem xz.same{H H':Hp}{n:Nat}{lk:Λ}{kd:Ν}{ps:Κ}(h:xz H n lk kd tp ps)(S:y7 H H'):xz H' n lk kd tp ps:=λi a=>(h i a).same S
structure Sd(K:xy)(H:Hp)(v:V)(d:PyData)(k:Nat):Prop where
 rd:RdV K H v d
 lay:d.canLay0=true
 dep:d.depth<=k
 eq:PyData.eqv d d=true
structure Sds(K:xy)(H:Hp)(xs:Τ)(ds:qj PyData)(k:Nat):Prop where
 rd:yp5 K H xs ds
 lay:PyData.canLayAll0 ds=true
 dep:PyData.depthAll ds<=k
 eq:PyData.eqvAll ds ds=true
theorem Sds.nil{H:Hp}{k:Nat}:Sds K H [] [] k:=#[.nil,J,cK _,by simp[PyData.eqvAll]]
theorem Sds.cons{H:Hp}{v:V}{d:PyData}{xs:Τ}{ds:qj PyData}{k:Nat}(h:Sd K H v d k)(r:Sds K H xs ds k):Sds K H (v::xs) (d::ds) k:=by
 erw[.cons h.rd r.rd,by simp[PyData.canLayAll0,h.lay,r.lay],?_,by simp[PyData.eqvAll,h.eq,r.eq]]
 let a:=h.dep;let b:=r.dep;simp only[PyData.depthAll];omega
theorem Sd.lst{H:Hp}{p:qa}{xs:Τ}{ds:qj PyData}{k:Nat}(h:SqL K H p xs)(r:Sds K H xs ds k):Sd K H ⇑p (.list ds) (k+1):=by
 erw[.lst h r.rd,by simp[PyData.canLay0,r.lay],?_,by simp[PyData.eqv,r.eq]]
 let a:=r.dep;simp only[PyData.depth];omega
def vio{g:Bool->Bool}{H:Hp}{Q:VK}{x y:V}{d:PyData}{k:Nat}(h1:Sd K H x d k)(h2:Sd K H y d k)(hk:k<=60)(h:Q (.bl (g true)) H):yya K g x y H Q:=by
 have a:SeqAt.shaped d=true:=by
  unfold SeqAt.shaped;rwa[cB,#[h1.lay,bV (by have:=h1.dep;omega)]]
 erw[d,d,h1.rd,h2.rd,a,a,by rwa[h1.eq,h]]
#synth ∀(K:xy),∀(x n:_)(_:vs=[x])(_:jc K H x (.type n))(_:Q (.bl (ê x)) H),ydx
variable(T:Txt K mg a)
def ymt:(Df.v P w mg Γ) T.I6 1 (ydx K):=by
 exists I6,["thing"],g;let#[x,n,J,b,k]:=h;exists 1,0,yc (yn (jh (pcB wy T.A5 (pac (pv 0) (pa1 (j9 (T:="int") J T.Td (by right))))) (Í (vcv (pcB wy T.A5 (pac (pv 0) (pa1 (j9 (T:="bool") J T.Tk (by right)))))))));erw[ŏ b (yxk b) ?_];ext
 cases hx:yqm x with
 |false =>
  have e:ê x=false:=by
   cases x<;>first|rfl|cases hx
  rw[e]at k;erw[υ k]
 |true =>
  have e:ê x=!yku x:=by
   cases x<;>first|rfl|cases hx
  rw[e]at k;erw[í ?_,←ŏ b (ypk b) ?_,←k]
#synth ∀(K:xy),∀(x n:_)(_:vs=[x])(_:jc K H x (.type n))(_:Q (.bl (Đ x)) H),yit
def vid:(Df.v P w mg Γ) T.Uh 2 (yit K):=by
 exists Uh,["thing"],g;let#[x,n,J,j,k]:=h;exists 1,0,yc (yn (jh (x0 (ymt T) g.m T.I6 (pav 0)) (Í (æ ρ ρ yg (pv 0) yg))));erw[x,n,J,j,?_];ext
 cases hx:ê x with
 |false =>
  have e:Đ x=false:=by
   cases x<;>first|rfl|cases hx
  rw[e]at k;erw[υ k]
 |true =>
  let#[i,J]:=ψ hx;erw[í ?_,←z9 (λc=>?_) (λc=>?_)]
  .ext;have e:Đ (i:)=decide (i<=1):=by simp[Đ,c]
   rw[e]at k;erw[k]
  .have e:Đ (i:)=false:=by simp[Đ,c]
   rw[e]at k;erw[k]
#synth ∀(K:xy),∀(x n:_)(_:vs=[x])(_:jc K H x (.type n))(_:Q (.bl (chV x)) H),ybl
def vjg:(Df.v P w mg Γ) T.Ui 2 (ybl K):=by
 exists Ui,["thing"],g;let#[x,n,J,j,k]:=h;exists 1,0,yc (yn (jh (x0 (ymt T) g.m T.I6 (pav 0)) (Í (æ ρ ρ (vy J T.Di) (pv 0) (ym zi (vy J T.Cy) (vy J T.Di))))));erw[x,n,J,j,?_];ext
 cases hx:ê x with
 |false =>
  have e:chV x=false:=by
   cases x<;>first|rfl|cases hx
  rw[e]at k;erw[υ k]
 |true =>
  let#[i,J]:=ψ hx;erw[í ?_,←z9 (λc=>?_) (λc=>?_)]
  .ext;have e:chV (i:)=decide (i<=16777216-32768):=by simp[chV,c]
   rw[e]at k;erw[k]
  .have e:chV (i:)=false:=by simp[chV,c]
   rw[e]at k;erw[k]
#synth ∀(K:xy),∀(x n:_)(_:vs=[x])(_:jc K H x (.type n))(_:Q (.bl (sgV x)) H),yg7
def viw:(Df.v P w mg Γ) T.Uj 2 (yg7 K):=by
 exists Uj,["thing"],g;let#[x,n,J,j,k]:=h;exists 1,0,yc (yn (jh (x0 (ymt T) g.m T.I6 (pav 0)) (Í (æ ρ ρ yg (pv 0) yg))));erw[x,n,J,j,?_];ext
 cases hx:ê x with
 |false =>
  have e:sgV x=false:=by
   cases x<;>first|rfl|cases hx
  rw[e]at k;erw[υ k]
 |true =>
  let#[i,J]:=ψ hx;erw[í ?_,←z9 (λc=>?_) (λc=>?_)]
  .ext;have e:sgV (i:)=decide (i<=255):=by simp[sgV,c]
   rw[e]at k;erw[k]
  .have e:sgV (i:)=false:=by simp[sgV,c]
   rw[e]at k;erw[k]
#synth ∀(K:xy),∀(x n m:_)(_:vs=[x,.int m])(_:jc K H x (.type n))(_:((Bad K H x n m/\∀H',y7 H H'->Q (.bl false) H')\/∃xs,vhu K H x xs m/\∀H',y7 H H'->Q (.bl true) H')),yzw
def yxx:(Df.v P w mg Γ) T.Mt 3 (yzw K):=by
 exists Mt,["thing","most"],W;let#[x,n,m,J,I,h]:=h
 have G:(n≠"list"/\∀d,y7 H d->Q (.bl false) d)\/∃p xs,x=.ref p/\H p\xs/\ypr K H xs/\↑xs<=100000/\∀d,y7 H d->Q (.bl (decide ((↑xs:Int)<=m) && xs.all sgV)) d:=by
  rcases h with⟨h|⟨p,xs,e,c,t,l,u⟩,k⟩|⟨xs,⟨p,e,c,t,l,u⟩,k⟩
  .erw[.inl #[h,k]]
  .erw[.inr #[p,xs,e,c,t,l,λd S=>by rwa[u,k d S]]]
  .erw[.inr #[p,xs,e,c,t,l,λd S=>by rwa[u,k d S]]]
 exists 2,0,yc (yn (jh (pcB wy T.A5 (pac (pv 0) (pa1 (j9 (T:="list") J T.An (by right))))) (jh (zg ρ (pcB yp T.A9 (pav 0)) (pv 1) (yy _)) (Í (pcB (À J) T.Eh (pa1 (vx (js:=[]) (ys:=[]) J (we (pv 0)) (λC Z H2 Y=>(x0 (viw T) W.m T.Uj (pav 0))) J J (hyc:=yw) (hrel:=yw))))))));erw[ŏ I (ywz I) ?_];ext;rcases G with⟨ς,k⟩|⟨p,xs,rfl,c,X,l,k⟩
 .erw[yc9 ς ?_];ext;erw[k _ (y7.refl _)]
 .have ς:n="list":=by
   cases I with
   |lst e=>rfl
   |frz e=>rfl
   |tup e=>rw[c]at e;cases e
   |dK e=>rw[c]at e;cases e
   |dT e=>rw[c]at e;cases e
  erw[Ő ς ?_,←uz (SqL.of c) ?_,←z9 (λL=>?_) (λL=>?_)]
  .rw[bV L,Bool.true_and]at k;ext;erw[p,J,#[_,SqL.of c],λD v=>?_];have nD:p≠D:=yb c v;refine zu (K:=K) (a:=p) (xs:=xs) (λi g=>g D\(((xs.take i).map sgV).map V.bl)/\y7 H g)
    #[ya,y9 v] (λi g F q=>SqL.of (q.2 _ _ c)) ?_ ?_
   .rintro i y g N r ⟨f,j⟩;ext;let#[O,M]:=X y (ck N);erw[y,O,J,vaw j M,?_];refine xk f (by rwa[bL,bL,cz,yo4 ()]) r #[ya.trans ?_,λb o e=>ye (λz=>?_) (j _ _ e)]
    .rw[List.take_succ,N];simp
    .subst z;rw[v]at e;cases e
   .rintro g ⟨f,j⟩;ext;erw[D,_,J,SqL.of f,?_];rwa[cU (bT _),List.all_map,k _ j]
  .rw[cj L,Bool.false_and]at k;ext;erw[k _ (y7.refl _)]
def ymx:(Df.e P w mg Γ) T.I7 4 (œ K a.Mr 1000):=by
 exists I7,o,["thing"];let#[x,n,J,t,h]:=h;exists 1,0,yf (vz (u5 (u6 (x0 (yxx T) o.m T.Mt (pac (pv 0) (pa1 (vy J T.Cz)))))) (yc (wn J T.Vb T.Vf (pa1 yz))) yx) (yc (yn (pcT ww T.An (pav 0))));erw[x,n,_,J,t,?_];rcases h with⟨q,k⟩|⟨e,f,k⟩
 .erw[.inl #[q,λl c=>?_]];ext;exists (by walk_at "len"),k _ c
 .erw[.inr #[e,f,λl c=>?_]];let#[p,J,i,_]:=f;ext;erw[p,e,J,.inl (SqL.of (c _ _ i)),λr b=>?_,<-k r _ (c.free b) ya (c.trans (y9 b))]
def vic:(Df.e P w mg Γ) T.Uk 4 (œ K a.Jn 12000):=by
 exists Uk,o,["thing"];let#[x,n,J,t,h]:=h;exists 1,0,yf (vz (u5 (u6 (x0 (yxx T) o.m T.Mt (pac (pv 0) (pa1 (vy J T.D0)))))) (yc (wn J T.Vc T.Vg (pa1 yz))) yx) (yc (yn (pcT ww T.An (pav 0))));erw[x,n,_,J,t,?_];rcases h with⟨q,k⟩|⟨e,f,k⟩
 .erw[.inl #[q,λl c=>?_]];ext;exists (by walk_at "len"),k _ c
 .erw[.inr #[e,f,λl c=>?_]];let#[p,J,i,_]:=f;ext;erw[p,e,J,.inl (SqL.of (c _ _ i)),λr b=>?_,<-k r _ (c.free b) ya (c.trans (y9 b))]
noncomputable def yye:V->Bool
 | .int i=>decide (0<=i) && decide (i<=1000)
 |_=>false
def yyx{m:Nat}(h:m<=1000):yye (m:)=true:=by show (decide ((0:Int)<=m) && decide ((m:Int)<=1000))=true;rw[bV (),bV ()];rfl
#synth ∀(K:xy)(C:qa),∀(x n:_)(_:vs=[x])(_:jc K H x (.type n))(_:(yye x=true->Q .non H))(_:(yye x=false->E ⇑C none H)),yod
def vij:(Df.e P w mg Γ) T.Ul 2 (yod K a.Aw):=by
 exists Ul,l,["thing"];let#[x,n,J,o,g,b]:=h;exists 1,0,yc (vz (PW.pt (Ŀ (u5 (u6 (x0 (ymt T) l.m T.I6 (pav 0)))) (é (u5 (yfu ρ ρ yg (pv 0) (vy J T.Cz)))))) (yc (wn J T.G8 T.Mj (pa1 yz))) yx);erw[x,n,J,o,?_];ext
 cases hx:ê x with
 |false =>
  have e:yye x=false:=by
   cases x<;>first|rfl|cases hx
  ext;exists (by walk_at "len"),b e
 |true =>
  let#[i,J]:=ψ hx;ext;erw[z9 (λf=>?_) (λf=>?_)]
  .ext;refine vht (λc=>?_) (λc=>?_)
   .ext;erw[g (by simp[yye,f,c])]
   .ext;exists (by walk_at "len"),b (by simp[yye,c])
  .ext;exists (by walk_at "len"),b (by simp[yye,f])
#synth ∀(K:xy)(C:qa),∀(x n:_)(_:vs=[x])(_:jc K H x (.type n))(_:(chV x=true->Q .non H))(_:(chV x=false->E ⇑C none H)),ġ
def yx2:(Df.e P w mg Γ) T.Mu 3 (ġ K a.Gm):=by
 exists Mu,g,["thing"];let#[x,n,J,i,c,e]:=h;exists 1,0,yc (vz (u5 (u6 (x0 (vjg T) g.m T.Ui (pav 0)))) (yc (wn J T.Vd T.Vh (pa1 yz))) yx);erw[x,n,J,i,?_];ext
 cases hx:chV x with
 |false =>
  ext;exists (by walk_at "len"),e hx
 |true =>
  ext;erw[c hx]
#synth ∀(K:xy)(C:qa),∀(x n:_)(_:vs=[x])(_:jc K H x (.type n))(_:(Đ x=true->Q .non H))(_:(Đ x=false->E ⇑C none H)),ybx
def ļ:(Df.e P w mg Γ) T.Da 3 (ybx K a.Bp):=by
 exists Da,g,["thing"];let#[x,n,J,i,c,e]:=h;exists 1,0,yc (vz (u5 (u6 (x0 (vid T) g.m T.Uh (pav 0)))) (yc (wn J T.Ve T.Vi (pa1 yz))) yx);erw[x,n,J,i,?_];ext
 cases hx:Đ x with
 |false =>
  ext;exists (by walk_at "len"),e hx
 |true =>
  ext;erw[c hx]
#synth ∀(K:xy)(C D:qa),∀(x n y m:_)(_:vs=[x,y])(_:jc K H x (.type n))(_:jc K H y (.type m))(_:(chV x=false->E ⇑C none H))(_:(chV x=true->Đ y=false->E ⇑D none H))(_:(∀c b,x=.int c->y=.int b->chV x=true->Đ y=true->Q ((gvv c b):) H)),yni
def yrb:(Df.e P w mg Γ) T.Km 4 (yni K a.Gm a.Bp):=by
 exists Km,i,["chance","bit"];let#[x,n,y,m,J,r,t,j,o,q]:=h;exists 2,0,yf (yv (uk (yx2 T) i.m T.Mu yo (pav 0))) (yf (yv (uk (ļ T) i.m T.Da yo (pav 1))) (yc (yn (j4 (yq xo (pv 1) yg (yy _)) (pv 0) (ym zi (vy J T.Cy) (pv 0))))));erw[x,n,J,r,λf=>?_,j,←y,m,J,t,λg=>?_,o f];let#[c,J,B,u]:=yeg f;let#[b,J,v,z]:=yfh g;ext;let k:=q c b J J f g;unfold gvv at k;erw[z9 (λe=>?_) (λe=>?_)]
 .rw[if_pos e]at k;ext;erw[k]
 .rw[if_neg e]at k;ext;erw[k]
def yp6:(Df.v P w mg Γ) T.Kn 1 (ya1 a.Af (jv (0:) (0:))):=by exists Kn,["self"],g;let#[p,e,J,f,k]:=h;exists 1,0,yf (y8 (pv 0) yg J) (yc (y8 (pv 0) yg J));erw[k _ ya (But.upd.trans But.upd)]
def van:(Df.v P w mg Γ) T.Ko 1 (zn (oS a) yyg):=by
 exists Ko,["self"],m;let#[p,d,g,J,e,j,c,k]:=h
 cases g with
 |ev n o =>
  let#[q,l,r]:=j;have c:H p∩a.Af d (jv (n:) (o:)):=c;exists 1,0,yc (yn (ym vk (ym xa (ym v9 (ym xa yg pfs) yg) (vy J T.Cy)) (ym v9 (ym xa yg (ym v9 pfs pfs)) yg)));erw[k]
 |qk _=>erw[e.elim]
 |rn _ _=>erw[e.elim]
def vay:(Df.e P w mg Γ) T.Kp 4 (Æ K (oS a) yyg a.Bp):=by
 exists Kp,y,["self","bit"];let#[p,i,l,x,r,J,f,B,g,z,j,D]:=h
 cases l with
 |ev n o =>
  let#[I,G,ς]:=B;have g:H p∩a.Af i (jv (n:) (o:)):=g;exists 2,0,yf (yv (uk (ļ T) y.m T.Da yo (pav 1))) (yf (vz (yq xo (pv 1) yg (yy _)) (yc (y8 (pv 0) (ym v9 pfs yg) J)) (yc (y8 (pv 0) (ym v9 pfs yg) J))) (yc (vz (yq yh9 (ym v9 pfs pfs) (vy J T.C0) (yy _)) (yf (y8 (pv 0) (ym vk (ym v9 pfs yg) yg) J) (yc (y8 (pv 0) (ym vk (ym v9 pfs yg) yg) J))) yx)));erw[x,r,J,z,λC=>?_,D];let#[b,J,u,q]:=ygy C;let k:=j b J u q;unfold Slt.see at k;dsimp only at k;ext;erw[z9 (λd=>?_) (λd=>?_)]
  .rw[if_pos d]at k;unfold ye2 at k;ext;refine z9 (λc=>?_) (λc=>?_)
   .rw[if_pos c]at k;ext;erw[k _ ya ((But.upd.trans But.upd).trans But.upd)]
   .rw[if_neg c]at k;ext;erw[k _ ya But.upd]
  .rw[if_neg d]at k;unfold ye2 at k;ext;refine z9 (λc=>?_) (λc=>?_)
   .rw[if_pos c]at k;ext;erw[k _ ya ((But.upd.trans But.upd).trans But.upd)]
   .rw[if_neg c]at k;ext;erw[k _ ya But.upd]
 |qk _=>erw[f.elim]
 |rn _ _=>erw[f.elim]
def yz8:(Df.v P w mg Γ) T.Kq 3 (Ä (oS a) yyg):=by
 exists Kq,["self","made"],C;let#[p,t,s,J,v,d,k]:=h
 cases s with
 |qk _=>erw[v.elim]
 |rn _ _=>erw[v.elim]
 |ev n o =>
 have d:H p∩a.Af t (jv (n:) (o:)):=d;exists 1,1,yf (pst 1 ϰ (je T.Mb (yp6 T) C.m J T.Ma T.Kn.B .nil vo)) (yf (y8 (pv 1) pfs J) (yf (y8 (pv 1) pfs J) (yc (yn (pv 1)))));intro q j c i ς;erw[q,j,J,ya,λI y D=>#[J,?_]];let r:=ü c i D;let f:=r _ _ d;have l:p≠q:=yb d c;ext;let G:=ye (o':=HO.ins a.Af j (jv (n:) (0:))) l f;ext;erw[k q j _ c ya λb u e=>ye (yb e c) (ye (yb e c) (r _ _ e))]
def yq5:(Df.v P w mg Γ) T.Kr 1 (ya1 a.Ae (zy (8388608:))):=by exists Kr,["self"],g;let#[p,e,J,f,k]:=h;exists 1,0,yc (y8 (pv 0) (ym vk (vy J T.Cy) yg) J);erw[k _ ya But.upd]
def yzy:(Df.v P w mg Γ) T.Ks 1 (zn (oS a) yyh):=by
 exists Ks,["self"],j;let#[p,d,g,J,e,l,c,k]:=h
 cases g with
 |qk h0 =>
  have c:H p∩a.Ae d (zy (h0:)):=c;exists 1,0,yc (yn pfs);erw[k]
 |ev _ _=>erw[e.elim]
 |rn _ _=>erw[e.elim]
def vcy:(Df.e P w mg Γ) T.Kt 4 (Æ K (oS a) yyh a.Bp):=by
 exists Kt,u,["self","bit","moved"];let#[p,g,j,x,o,J,e,y,f,v,i,B]:=h
 cases j with
 |qk h0 =>
  let#[D,C]:=y;have f:H p∩a.Ae g (zy (h0:)):=f;exists 2,1,yf (yv (uk (ļ T) u.m T.Da yo (pav 1))) (yf (vz (yq xo (pv 1) yg (yy _)) (yc (pst 2 ϰ (ym v9 pfs (ym vk (ym zi (vy J T.Cy) pfs) yg)))) (yc (pst 2 ϰ (ym zi pfs (ym vk pfs yg))))) (yc (y8 (pv 0) (pcB (Ĭ J) T.Mn (pac (pcB (Ĳ J) T.Mo (pac (pv 2) (pa1 (vy J T.Di)))) (pa1 (ym zi (vy J T.Cy) (vy J T.Di))))) J)));erw[x,o,J,v,λz=>?_,B];let#[b,J,r,l]:=ygy z;let k:=i b J r l;unfold Slt.see at k;dsimp only at k;ext;erw[z9 (λc=>?_) (λc=>?_)]
  .rw[if_pos c]at k;ext;erw[_,_,J,?_,←_,_,J,?_,←k _ ya But.upd]
  .rw[if_neg c]at k;ext;erw[_,_,J,?_,←_,_,J,?_,←k _ ya But.upd]
 |ev _ _=>erw[e.elim]
 |rn _ _=>erw[e.elim]
def va1:(Df.v P w mg Γ) T.Ku 3 (Ä (oS a) yyh):=by
 exists Ku,["self","made"],x;let#[p,j,s,J,l,c,k]:=h
 cases s with
 |ev _ _=>erw[l.elim]
 |rn _ _=>erw[l.elim]
 |qk h0 =>
 have c:H p∩a.Ae j (zy (h0:)):=c;exists 1,1,yf (pst 1 ϰ (je T.Hs (yq5 T) x.m J T.Hr T.Kr.B .nil vo)) (yf (y8 (pv 1) pfs J) (yc (yn (pv 1))));intro q n f g C;erw[q,n,J,ya,λz r y=>#[J,?_]];let i:=ü f g y;let t:=i _ _ c;ext;erw[k q n _ f ya λb u e=>ye (yb e f) (i _ _ e)]
def ysn:(Df.v P w mg Γ) T.Kv 1 (ya1 a.Ak (ā (1:) (0:))):=by exists Kv,["self"],g;let#[p,e,J,f,k]:=h;exists 1,0,yf (y8 (pv 0) yg J) (yc (y8 (pv 0) yg J));erw[k _ ya (But.upd.trans But.upd)]
def vdp:(Df.v P w mg Γ) T.Kw 1 (zn (oS a) yyf):=by
 exists Kw,["self","given"],r;let#[p,e,i,J,f,m,d,k]:=h
 cases i with
 |rn l n =>
  let#[t,o,u,q]:=m;have d:H p∩a.Ak e (ā (l:) (n:)):=d;exists 1,1,yf (pst 1 ϰ (ym vk (ym xa (ym v9 (ym xa yg pfs) yg) (vy J T.Cy)) (ym v9 (ym xa yg pfs) yg))) (yc (yn (j4 (yq xo pfs yg (yy _)) (pv 1) (ym zi (vy J T.Cy) (pv 1)))));have k:Q ((if l=1 then ĉ n else 16777216-ĉ n):) H:=k;erw[z9 (λc=>?_) (λc=>?_)]
  .rw[if_pos c]at k;ext;erw[k]
  .rw[if_neg c]at k;ext;erw[k]
 |ev _ _=>erw[f.elim]
 |qk _=>erw[f.elim]
def yzg:(Df.e P w mg Γ) T.Kx 4 (Æ K (oS a) yyf a.Bp):=by
 exists Kx,v,["self","bit"];let#[p,g,j,x,q,J,e,z,f,y,i,C]:=h
 cases j with
 |rn l n =>
  let#[I,D,ς,G]:=z;have f:H p∩a.Ak g (ā (l:) (n:)):=f;exists 2,0,yf (yv (uk (ļ T) v.m T.Da yo (pav 1))) (yc (vz (yq xo (pv 1) pfs (yy _)) (yc (y8 (pv 0) (pcB (Ĭ J) T.Mn (pac (ym v9 pfs yg) (pa1 (vy J T.C0)))) J)) (yf (y8 (pv 0) (pv 1) J) (yc (y8 (pv 0) yg J)))));erw[x,q,J,y,λB=>?_,C];let#[b,J,t,o]:=ygy B;let k:=i b J t o;unfold Slt.see at k;dsimp only at k;ext;erw[z9 (λc=>?_) (λc=>?_)]
  .rw[if_pos c]at k;ext;erw[_,_,J,?_,←k _ ya But.upd]
  .rw[if_neg c]at k;ext;erw[k _ ya (But.upd.trans But.upd)]
 |ev _ _=>erw[e.elim]
 |qk _=>erw[e.elim]
def yz1:(Df.v P w mg Γ) T.Ky 3 (Ä (oS a) yyf):=by
 exists Ky,["self","made"],C;let#[p,t,s,J,v,d,k]:=h
 cases s with
 |ev _ _=>erw[v.elim]
 |qk _=>erw[v.elim]
 |rn l n =>
 have d:H p∩a.Ak t (ā (l:) (n:)):=d;exists 1,1,yf (pst 1 ϰ (je T.Tc (ysn T) C.m J T.Tb T.Kv.B .nil vo)) (yf (y8 (pv 1) pfs J) (yf (y8 (pv 1) pfs J) (yc (yn (pv 1)))));intro q j c i ς;erw[q,j,J,ya,λI y D=>#[J,?_]];let r:=ü c i D;let f:=r _ _ d;have o:p≠q:=yb d c;ext;let G:=ye (o':=HO.ins a.Ak j (ā (l:) (0:))) o f;ext;erw[k q j _ c ya λb u e=>ye (yb e c) (ye (yb e c) (r _ _ e))]
#synth ∀(a:Ads),∀(k:Fin 3)(_:vs=[.str (kdS k)])(_:∀p dx H',H p=none->H' p=some (oS a dx (kd0 k))->y7 H H'->Q ⇑p H'),yg9
def vch:(Df.v P w mg Γ) T.Sc 3 (yg9 a):=by
 exists Sc,["kind"],l;let#[t,J,k]:=h;exists 1,0,yf (vz (yq xo (pv 0) yz (yy _)) (yc (yn (je T.Mb (yp6 T) l.m J T.Ma T.Kn.B .nil vo))) yx) (yf (vz (yq xo (pv 0) yz (yy _)) (yc (yn (je T.Hs (yq5 T) l.m J T.Hr T.Kr.B .nil vo))) yx) (yf (vz (yq xo (pv 0) yz (yy _)) (yc (yn (je T.Tc (ysn T) l.m J T.Tb T.Kv.B .nil vo))) yx) (yc Á)));erw[J,?_]
 match t with
 |0 =>
  erw[_,J,Ő J ?_];ext;intro p g f d q;erw[p,g,J,ya,λi c j=>#[J,?_],<-k p g i f c λb o e=>j b o (by rwa[yk (yb e f),yk (yb e d),e]) (yb e f)]
 |1 =>
  erw[_,J,yc9 (by intro z;injection z with z;revert z;decide+kernel) ?_,←J,?_,<-_,J,Ő J ?_];ext;intro p g f d q;erw[p,g,J,ya,λi c j=>#[J,?_],<-k p g i f c λb o e=>j b o (by rwa[yk (yb e f),yk (yb e d),e]) (yb e f)]
 |2 =>
  erw[_,J,yc9 (by intro z;injection z with z;revert z;decide+kernel) ?_,←J,?_,<-_,J,yc9 (by intro z;injection z with z;revert z;decide+kernel) ?_,←J,?_,<-_,J,Ő J ?_];ext;intro p g f d q;erw[p,g,J,ya,λi c j=>#[J,?_],<-k p g i f c λb o e=>j b o (by rwa[yk (yb e f),yk (yb e d),e]) (yb e f)]
#synth ∀(n:Int)(k:Nat)(_:vs=[.int n,.int k])(_:k<=100000)(_:∀t H',H t=none->H' t\↥(wr k n)->y7 H H'->Q ⇑t H'),yhy
def yso:(Df.v P w mg Γ) T.Kz 1 yhy:=by
 exists Kz,["number","size","places"],D;let#[n,d,J,z,k]:=h;exists 2,1,yf (pst 2 ϰ (wk ub)) (yf (È PassesOwn.never (yq ybh (pcB yp T.A9 (pav 2)) (pv 1) (yy _)) (yf (yv ((zb PySem.F.plainAttrs_list PySem.F.slot_list_append PySem.F.type_list_append wz) (pv 2) (pa1 (ym xb (pv 0) yg)))) (yc (pst 0 ϰ (ym vk (pv 0) yg))))) (yf (yv (ygj PySem.F.plainAttrs_list PySem.F.slot_list_reverse PySem.F.type_list_reverse ś (pv 2))) (yc (yn (pv 2)))));exists (by walk_at "len"),λt i=>?_
 ext;erw[λm σ' r=>∃(f:Int)(c:Ο),σ'=[some (f:),some (d:),some ⇑t]/\r t\↥c/\y7 H r/\c++lo (d-↑c) f=lo d n/\↑c<=d/\m=d-c.length,#[_,n,[],J,ya,y9 i,J,cK _,J],?_];rintro m σ2 B ⟨f,c,rfl,g,q,j,C,rfl⟩;ext;erw[uz (SqL.of g) ?_];rw[bL];ext;erw[z9 (λy=>?_) (λy=>?_)]
 .erw[ycz ?_];ext;erw[jn g ?_,←xr g (by rwa[bL,vi ()]) ?_];ext;exists _,?_,f/256,c++[f%256],J,(ya.trans (by rw[yn4])),λb o e=>?_,?_,?_,rfl
  .rw[bQ];show d-(↑c+1)<d-↑c;omega
  .rw[yk (yb e i)];erw[q b o e]
  .have l:d-↑c=d-↑(c++[f%256])+1:=by
    rw[bQ];show d-↑c=d-(↑c+1)+1;omega
   rw[l]at j;rw[<- j,cq];rfl
  .rw[bQ];show ↑c+1<=d;omega
 .ext;have l:d-↑c=0:=()
  rw[l]at j;have x:c=lo d n:=by rw[<- j];simp[lo]
  erw[jn g ?_,<-yb7 g ?_,←k t _ i ?_ λb o e=>?_]
  .rw[ya,yt1,x];rfl
  .rw[yk (yb e i)];erw[q b o e]
#synth ∀(l e:Int)(_:vs=[.int l,.int e])(_:0<e)(_:e<2^63)(_:Q ((blk l e):) H),Ń
def yqa:(Df.v P w mg Γ) T.L1 1 Ń:=by exists L1,["low","unit"],g;let#[l,e,J,i,f,k]:=h;exists 2,0,yc (yn (ym vk (ym zi (ym v9 (pv 0) (pv 1)) yg) (pv 1)));erw[k]
#synth ∀(C:qa),∀(p dx:qa)(_:vs=[.ref p])(_:H p∩C dx [])(_:∀H',H' p∩C dx (τ s0)->But p H H'->Q .non H'),yvh
def yqy:(Df.v P w mg Γ) T.L6 1 (yvh a.A8):=by
 exists L6,["self"],j;let#[p,c,J,g,k]:=h;exists 1,0,yf (y8 (pv 0) yg J) (yf (y8 (pv 0) (vy J T.E8) J) (yc (y8 (pv 0) (vy J T.Ew) J)));erw[p,_,c,_,J,g,T.Ai,T.Cj,by show 0<1000;decide,?_]
 ext;erw[p,_,c,_,J,ya,T.Ai,T.Bm,by show 1<1000;decide,?_]
 ext;erw[p,_,c,_,J,ya,T.Ai,T.Bx,by show 2<1000;decide,?_]
 have e:É "size" (5:) (É "width" (1099511627776:) (É "low" (0:) []))=τ s0:=by
  rw[wt,wa nLW wt,wa nLS (wa nWS wt)];rfl
 erw[k _ (ya.trans (congrArg (λl=>some (HO.ins a.A8 c l)) e)) λb o h n=>?_];rwa[yk n,yk n,yk n,h]
#synth ∀(C:qa),∀(p dx:qa)(x:Sn)(c:Int)(_:vs=[.ref p,.int c])(_:H p∩C dx (τ x))(_:Ch c)(_:Q ((cut x.2.1 c):) H),vbz
def yp9:(Df.v P w mg Γ) T.Fl 1 (vbz a.A8):=by exists Fl,["self","chance"],j;let#[p,f,x,c,J,g,#[l,i],k]:=h;exists 2,0,yc (yn (ym vk (ym xa pfs (pv 1)) (vy J T.Cy)));erw[k]
#synth ∀(K:xy)(C Nc Nb:qa),∀(p dx:qa)(x:Sn)(vc vb:V)(n m:String)(_:vs=[.ref p,vc,vb])(_:H p∩C dx (τ x))(_:Ok x)(_:jc K H vc (.type n))(_:jc K H vb (.type m))(_:(chV vc=false->E ⇑Nc none H))(_:(chV vc=true->Đ vb=false->E ⇑Nb none H))(_:∀c b:Int,vc=.int c->vb=.int b->Ch c->0<=b->b<=1->∀H',H' p∩C dx (τ (nar x c b))->But p H H'->Q .non H'),yj0
def yqr:(Df.e P w mg Γ) T.Fm 4 (yj0 K a.A8 a.Gm a.Bp):=by
 exists Fm,o,["self","chance","bit","cut"];let#[p,g,x,I,v,n,m,J,D,G,N,Z,ς,k2,k]:=h;erw[_,(yf (yv (uk (yx2 T) o.m T.Mu yo (pav 1))) (yf (yv (uk (ļ T) o.m T.Da yo (pav 2))) (yf (pst 3 ϰ (wv (pv 0) T.Ai T.Fl.m (yp9 T) o.m T.Fl.B .nil vo (pav 1))) (yf (Î (vz (yq xo (pv 2) yg (yy _)) (yc (y8 (pv 0) (pv 3) J)) (yf (y8 (pv 0) (ym v9 pfs (pv 3)) J) (yc (y8 (pv 0) (ym zi pfs (pv 3)) J))))) (yc (PS.nox (È PassesOwn.never (yq ybh pfs (vy J T.E9) (yy _)) (yf (y8 (pv 0) (ym xa pfs yg) J) (yf (y8 (pv 0) (ym xa pfs yg) J) (yc (y8 (pv 0) (ym v9 pfs yg) J))))))))))),?_];exists 3,1;let t:=G.w0;let q:=G.w1;ext;erw[I,n,J,N,λf=>?_,ς,←v,m,J,Z,λi=>?_,k2 f];let#[c,J,X,c2]:=yeg f;let#[b,J,R,L]:=yfh i;have u:Ch c:=#[X,c2];let k:=k c b J J u R L;ext;erw[p,g,_,J,D,lkN _ (by right) (by right) (by right),?_,←p,g,x,c,J,D,u,?_];ext;let#[a1,a2,W]:=yc6 t q u;erw[ye5 (λσ' e=>∃y:Sn,σ'=[some ⇑p,some (c:),some (b:),some ((cut x.2.1 c):)]/\e p∩a.A8 g (τ y)/\8388608<=y.2.1/\y.2.1<=1099511627776/\ren y.1 y.2.1 y.2.2=nar x c b/\But p H e) ?_ ?_]
 .ext;refine z9 (λd=>?_) (λd=>?_)
  .ext;erw[_,J,ya,a1,Int.le_of_lt W,?_,But.upd];unfold nar
   (rw[if_pos d])<;>rfl
  .ext;exists _,J,ya,a2,?_,?_,But.upd.trans But.upd
   .show x.2.1-cut x.2.1 c<=_;omega
   .unfold nar
    (rw[if_neg d])<;>rfl
 .rintro σ' e ⟨y,rfl,j,M,y2,S,y4⟩;ext;erw[λm σ' e=>∃y:Sn,σ'=[some ⇑p,some (c:),some (b:),some ((cut x.2.1 c):)]/\e p∩a.A8 g (τ y)/\8388608<=y.2.1/\y.2.1<=1099511627776/\ren y.1 y.2.1 y.2.2=nar x c b/\But p H e/\m=(4294967296-y.2.1).toNat,#[_,y,J,j,M,y2,S,y4,J],?_];rintro m σ2 H2 ⟨z,rfl,Y,U,z2,r,C,rfl⟩;ext;refine z9 (λd=>?_) (λd=>?_)
  .erw[ycz ?_];ext;exists _,?_,(z.1*256,z.2.1*256,z.2.2+1),J,ya,?_,?_,(ynj d U).trans r,((C.trans But.upd).trans But.upd).trans But.upd,rfl
   .show (4294967296-z.2.1*256).toNat<(4294967296-z.2.1).toNat;omega
   .show 8388608<=z.2.1*256;omega
   .show z.2.1*256<=1099511627776;omega
  .rw[yvw d]at r;erw[k _ ?_ C];rwa[<- r,Y]
#synth ∀(C:qa),∀(p dx:qa)(x:Sn)(j:Nat)(_:vs=[.ref p,.int (pw j)])(_:H p∩C dx (τ x))(_:j<=6)(_:Q (.bl (decide (ydg x.1 x.2.1 j))) H),ynn
def vcc:(Df.v P w mg Γ) T.L7 2 (ynn a.A8):=by
 exists L7,["self","unit"],f;let#[p,g,x,j,J,l,e,k]:=h;erw[_,(yc (yn (zg ρ (ym xa (ym v9 (x0 (yqa T) f.m T.L1 (pac pfs (pav 1))) yg) (pv 1)) (ym v9 pfs pfs) (yy _)))),?_];exists 2,0;let n:=ye9 e;let i:=jj j;ext;erw[_,_,J,i,(),?_]
 ext;erw[k]
#synth ∀(C:qa),∀(p dx:qa)(x:Sn)(_:vs=[.ref p])(_:H p∩C dx (τ x))(_:OkS x)(_:sz x<=100000)(_:∀t H',H t=none->H' t\↥(tL x)->y7 H H'->Q ⇑t H'),ywc
def ytp:(Df.v P w mg Γ) T.Fn 3 (ywc a.A8):=by
 exists Fn,["self","unit","size"],e;let#[p,i,x,J,l,f,z,k]:=h;exists 1,2,yf (pst 1 ϰ yg) (yf (pst 2 ϰ pfs) (yf (È PassesOwn.never (u6 (wv (pv 0) T.Ai T.L7.m (vcc T) e.m T.L7.B .nil vo (pa1 (ym xa (pv 1) yg)))) (yf (pst 1 ϰ (ym xa (pv 1) yg)) (yc (pst 2 ϰ (ym zi (pv 2) yg))))) (yc (yn (x0 (yso T) e.m T.Kz (pac (x0 (yqa T) e.m T.L1 (pac pfs (pav 1))) (pav 2)))))));erw[λm σ' t=>t=H/\∃j:Nat,σ'=[some ⇑p,some ((pw j):),some ((x.2.2-j):)]/\j<=5/\tel x.1 x.2.1 (5-j) j=tK x/\m=6-j,#[_,J,0,by simp[pw],∅,J,J],?_];rintro m σ2 D ⟨rfl,j,rfl,G,n,rfl⟩;let y:=ye9 (show j<=6 by omega);let u:=jj j;ext;erw[p,i,_,J,l,lkN _ (by right) (by right) (by right),?_,←p,i,x,j+1,J,l,(),?_]
 ext;erw[z9 (λb=>?_) (λb=>?_)]
 .erw[ycz ?_];ext;let q:=yq0 f.ok.w1 b;exists _,?_,J,j+1,?_,q,?_,rfl
  .show 6-(j+1)<6-j;omega
  .have g:x.2.2-(j:Int)-1=x.2.2-((j+1:Nat):Int):=()
   rw[g];rfl
  .rw[ym9 b,<- n]
   congr 1
   omega
 .have d:j=tK x:=by rw[<- n,yvg b]
  subst d;ext;erw[_,_,J,u,(),?_]
  ext;let C:=f.sz;let v:=(yx1 f).2;have g:x.2.2-(tK x:Int)=((sz x-tK x:Nat):Int):=()
  rwa[g,#[_,_,J,(),k]]
#synth ∀(kd:_)(_:vs=[.str (kdS kd)])(_:Q (.bl true) H),yg8
def va0:(Df.v P w mg Γ) T.Se 1 yg8:=by
 exists Se,["thing"],f;let#[c,J,k]:=h;exists 1,0,yc (yn (jh (pcB wy T.A5 (pac (pv 0) (pa1 (j9 (T:="str") J T.Hy (by right))))) (Í (zg yj2 (pv 0) (uv J T.F0) (by with_unfolding_all rfl)))));erw[ŏ (.str _) J ?_,←a.Be,_,J,.inr (T.w_KINDS H),J,J,?_]
 match c with
 |0=>erw[k]
 |1=>erw[k]
 |2=>erw[k]
#synth ∀(i:Int)(_:vs=[.int i])(_:1<=i)(_:i<=8)(_:Q (.bl true) H),ydo
def yzn:(Df.v P w mg Γ) T.Sf 2 ydo:=by exists Sf,["thing"],f;let#[i,J,g,e,k]:=h;exists 1,0,yc (yn (jh (x0 (ymt T) f.m T.I6 (pav 0)) (Í (æ ρ ρ yg (pv 0) (vy J T.Hi)))));erw[.int i,"int",J,.int _,?_,←í ?_,←Ő g ?_];ext;rwa[bV e,k]
def vig{H:Hp}{t:qa}{xs:Τ}{Q:VK}(ht:H t∪xs)(k:∀u H3,y7 H H3->H3 u∪xs.tail->Q ⇑u H3):vk1 K ⇑t (some 1) none H Q\/vfu K ⇑t (some 1) none H Q:=by
 cases xs with
 |nil=>erw[.inr #[t,[],J,SqT.of ht,#[J,J],k t H (y7.refl _) ht]]
 |cons x r =>
  erw[.inl #[t,_,J,SqT.of ht,?_,λu b=>?_]]
  .rintro ⟨z,_⟩;let a:=HT.sIx_nat ↑(x::r) 0 1;rw[show ((1:Nat):Int)=1 from rfl]at a;rw[a]at z;simp at z
  .rw[yt6];erw[k u _ (y9 b) ya]
#synth ∀(t xs:_)(_:vs=[.ref t])(_:H t∪xs)(_:ux xs=true)(_:∀H',y7 H H'->Q (.bl true) H'),Ų
def vd3:(Df.v P w mg Γ) T.Sg 3 Ų:=by
 exists Sg,["thing"],W;let#[t,xs,J,l,f,k]:=h;unfold ux at f;rw[cB,cB,List.all_eq_true]at f;let#[#[ς,f],N]:=f;let ς:=of_decide_eq_true ς;have p:∀y∈xs,∃i:Int,y=.int i:=λy X=>let ⟨i,e,_⟩:=ylb (f y X);#[i,e];exists 1,0,yf (vz (PW.pt (Ŀ (u5 (u6 (pcB wy T.A5 (pac (pv 0) (pa1 (j9 (T:="tuple") J T.Dh (by right))))))) (Ŀ (yq yh9 (pcB yp T.A9 (pav 0)) (vy J T.Ea) (yy _)) (é (u5 (u6 (pcB (À J) T.Eh (pa1 (vx (js:=[]) (ys:=[]) J (ygn (pv 0)) (λC I r B=>(x0 (yzn T) W.m T.Sf (pav 0))) J J (hyc:=yw) (hrel:=yw)))))))))) (yc (yn Ď)) yx) (yc (yn (pcB (À J) T.Eh (pa1 (yap (js:=[]) (ys:=[]) (xs:=["near","far"]) (g:=yyc K 2 (ja (xm 0) (ja (xm 1) ymy))) J (yxo J T.Mq (pac (pv 0) (pa1 (xv (vas.or yxg) (pv 0) (uw yg) zf)))) (λC I r B=>(zg ybh (pv 0) (pv 1) (yy _))) J (λC I r B=>Ũ J (xx (wd (i:=0) (show List.Nodup ((["near","far"]:Ρ)++([]:Ρ)) by right) J (Or.inl J)) (xx (wd (i:=1) (show List.Nodup ((["near","far"]:Ρ)++([]:Ρ)) by right) J (Or.inl J)) û))) J (hyc:=yw) (hrel:=yw))))));erw[ŏ (.tup l) J ?_,←ysb (SqT.of l) ?_,←yc9 () ?_,←t,J,#[_,SqT.of l],λD G=>?_,<-yj8 (xs:=xs) (λF=>.bl true) (SqT.of l) G (λi y r o q b=>?_) (λr q b=>?_)]
 .let#[c,J,S,M]:=ylb (f y (ck o));ext;erw[c,J,S,M,?_,<-Mp.done G (vi ()) o q b J]
 have e:xs.map (λF=>V.bl true)=(xs.map λF=>true).map V.bl:=by rw[cM];rfl
 rw[e]at b;ext;erw[D,_,J,SqL.of b,?_];rw[show (xs.map λF=>true).all id=true by simp];let d:=q _ _ l;ext;erw[vig d λu Z z L=>?_,<-t,u,J,#[_,_,SqT.of (z _ _ d),SqT.of L],λR n=>?_,<-yvo (xs:=xs) p () (SqT.of (z _ _ d)) (SqT.of L) n (λi j σ' H' Q' h=>?_) (λH4 Y x=>?_)]
 .ext;erw[h]
 .ext;erw[R,_,J,SqL.of x,?_];rwa[show (List.zipWith ltV xs xs.tail).all id=true from N,k _ (q.trans (z.trans Y))]
#synth ∀(v kd tp ps:_)(_:vs=[v])(_:LkG H v kd tp ps)(_:∀H',y7 H H'->Q (.bl true) H'),yg1
def vcp:(Df.v P w mg Γ) T.Sh 4 yg1:=by exists Sh,["thing"],f;let#[v,i,g,n,J,p,k]:=h;let#[t,J,b,e,c]:=p;exists 1,0,yc (yn (jh (pcB wy T.A5 (pac (pv 0) (pa1 (j9 (T:="tuple") J T.Dh (by right))))) (jh (zg xo (pcB yp T.A9 (pav 0)) yg (yy _)) (jh (x0 (va0 T) f.m T.Se (pa1 (pix γ (pv 0) yg))) (Í (x0 (vd3 T) f.m T.Sg (pa1 (pix γ (pv 0) yg))))))));erw[ŏ (.tup b) J ?_,←ysb (SqT.of b) ?_,←Ő J ?_,←yc7 (SqT.of b) (wb (j:=0) J) ?_,←i,J,?_,←yc7 (SqT.of b) (wb (j:=1) J) ?_,←g,_,J,e,c,k]
#synth ∀(_:xy)(_:qa),∀(l:qa)(xs:Τ)(_:vs=[.ref l])(_:H l\xs)(_:1<=↑xs)(_:↑xs<=6)(_:Lks H xs)(_:∀r H',H r=none->H' r\xs->y7 H H'->Q ⇑r H'),ĵ
def yri:(Df.e P w mg Γ) T.L8 5 (ĵ K a.Fa):=by
 exists L8,x,["thing"];let#[l,xs,J,g,M,N,G,k]:=h;exists 1,0,yf (vz (PW.pt (Ŀ (u5 (u6 (pcB wy T.A5 (pac (pv 0) (pa1 (j9 (T:="list") J T.An (by right))))))) (Ŀ (u5 (yfu ρ ρ yg (pcB yp T.A9 (pav 0)) (vy J T.Ey))) (é (u5 (u6 (pcB (À J) T.Eh (pa1 (vx (js:=[]) (ys:=[]) J (we (pv 0)) (λC L o I=>(x0 (vcp T) x.m T.Sh (pav 0))) J J (hyc:=yw) (hrel:=yw)))))))))) (yc (wn J T.Ux T.Vj (pa1 yz))) yx) (yc (yn (pcT ww T.An (pav 0))));erw[ŏ (.lst g) J ?_,←uz (SqL.of g) ?_,←Ő () ?_,←vhh () ?_,←l,J,#[_,SqL.of g],λD n=>?_,<-yhs (xs:=xs) (λZ=>.bl true) (SqL.of g) n (λi y o d c b=>?_) (λo c b=>?_)]
 .let#[q,B,t,z]:=G y (ck d);ext;erw[y,q,B,t,J,z.same c,λς p=>?_,<-Mp.done n (vi ()) d (c.trans p) (p _ _ b) J]
 have e:xs.map (λZ=>V.bl true)=(xs.map λZ=>true).map V.bl:=by rw[cM];rfl
 rw[e]at b;ext;erw[D,_,J,SqL.of b,?_];rw[show (xs.map λZ=>true).all id=true by simp];ext;erw[yau (SqL.of (c _ _ g)) λr f=>?_,<-k r _ (c.free f) ya (c.trans (y9 f))]
def vgq{C l:qa}{xs:Τ}{H:Hp}{Q:VK}{E:XK}(hl:H l\xs)(h1:1<=↑xs)(h6:↑xs<=6)(h:Lks H xs)(k:∀r H',H r=none->H' r\xs->y7 H H'->Q ⇑r H'):ĵ K C [.ref l] H Q E:=#[l,xs,J,hl,h1,h6,h,k]
def vdu{C:qa}{x:V}{H:Hp}{Q:VK}{E:XK}(h:vkm K H x)(k:∀H',y7 H H'->E ⇑C none H'):ĵ K C [x] H Q E:=h.elim
#synth ∀(K:xy),∀(l:qa)(sg:Ο)(p:Int)(_:vs=[.ref l,.int p])(_:SqL K H l ↥sg)(_:1<=p)(_:Q ((ytv sg p):) H),ypl
def vdm:(Df.v P w mg Γ) T.Si 1 (ypl K):=by
 exists Si,["signs","place"],n;let#[l,m,p,J,e,i,k]:=h;exists 2,0,yc (yn (j4 (yq ρ (pv 1) (pcB yp T.A9 (pav 0)) (yy _)) (pix vn (pv 0) (yx3 yl0 (pv 1))) (vy J T.Ic)));erw[uz e ?_];rw[bL];ext;unfold ytv at k;erw[z9 (λb=>?_) (λb=>?_)]
 .rw[if_pos b]at k;let#[c,f,_]:=ypj i b;rw[f]at k;ext;erw[ul e (by rw[yvy,f];rfl) k]
 .rw[if_neg b]at k;ext;erw[k]
def jr(K:xy)(H:Hp)(k:qa)(x:V)(ps:Ο):Prop:=∃t,SqT K H k [x,.ref t]/\SqT K H t ↥ps/\(∀p∈ps,1<=p/\p<=8)/\↑ps<=4
def jr.same{H H':Hp}{k:qa}{x:V}{ps:Ο}(S:y7 H H')(h:jr K H k x ps):jr K H' k x ps:=by let#[t,a,b,d,c]:=h;erw[t,S.tup a,S.tup b,d,c]
def ctx(ps sg:Ο)(nd:Int):Ο:=ps.map (ytv sg)++[nd]
def bkV(sg:Ο):V->V
 | .int p=>.int (ytv sg p)
 |_=>.non
def yw9(sg ps:Ο):(↥ps).map (bkV sg)=↥(ps.map (ytv sg)):=by rw[cM,cM];rfl
#synth ∀(K:xy),∀(k l:qa)(x:V)(ps sg:Ο)(nd:Int)(_:vs=[.ref k,.ref l,.int nd])(_:jr K H k x ps)(_:SqL K H l ↥sg)(_:∀r H',H r=none->H' r∪↥(ctx ps sg nd)->y7 H H'->Q ⇑r H'),yg2
def vaa:(Df.v P w mg Γ) T.Sj 2 (yg2 K):=by
 exists Sj,["look","signs","node"],U;let#[W,l,x,g,q,L,J,#[t,M,z,v,ς],R,k]:=h;exists 3,0,yc (yn (pcT Þ T.Dh (pa1 (ym ŧ (vx (js:=[1]) (ys:=["signs"]) J (ygn (pix γ (pv 0) yg)) (λC Y I X=>(x0 (vdm T) U.m T.Si (pac (pv 1) (pav 0)))) J J (hyc:=(all_cons J yw)) (hrel:=(all_cons J yw))) (wk (pav 2))))));erw[yc7 M (wb (j:=1) J) ?_,<-t,J,#[_,z],λD B=>?_];have f:↑↥g<sizeLine:=vi (by rw[bL];omega);erw[ŝ (xs:=↥g) (bkV q) z B (λi y I G e b=>?_) (λI e b=>?_)]
 .let#[p,J,u,_,_]:=ju G;ext;erw[l,q,p,J,e.seq R,(v p u).1,?_,<-Mp.done B f G e b J]
 .rw[yw9]at b;ext;exists (by walk_at "len"),λn hn=>?_
  exists hn,H3,S3,hn3;erw[D,n,_,_,J,J,S3 _ _ b,hn3,vw (by rw[bL,bL];show _+1<=_;omega),λc hc=>?_];exists hc,H4,S4,hc4;erw[c,_,J,.inl #[SqL.of hc4,λr d=>?_]];let S:=e.trans (S3.trans S4);erw[k r _ (S.free d) (ya.trans ?_) (S.trans (y9 d))];unfold ctx;rw[ce];rfl
#synth ∀(a:Ads),∀(p dx lk:qa)(kd:Fin 3)(_:vs=[.ref p,.ref lk])(_:H p∩a.Ag dx [])(_:∀d H',H d=none->ì a H' p dx lk d kd (λZ=>none) (λb=>b=d) 0->But p H H'->Q .non H'),yil
def yp8:(Df.v P w mg Γ) T.L9 1 (yil a):=by
 exists L9,["self","look"],D;let#[p,j,i,B,J,v,k]:=h;exists 2,0,yf (y8 (pv 0) (pv 1) J) (yc (y8 (pv 0) yf7 J));intro d l
 have g:H d=none:=by
  cases e:H d with
  |none=>rfl
  |some o =>
   by_cases z:d=p
   .rw[z,ya]at l;cases l
   .rw[yk z,e]at l;cases l
 have f:d≠p:=λz=>by rw[z,v]at g;cases g
 let q:=zx (o':=HO.dT []) l (show upd H p (HO.ins a.Ag j ([("look",V.ref i)]:Ι)) p=some (HO.ins a.Ag j ([("look",V.ref i)]:Ι))from ya);have c:upd (upd H p (HO.ins a.Ag j ([("look",V.ref i)]:Ι))) d (.dT []) d=some (.dT []):=ya;have r:But p H (upd (upd H p (HO.ins a.Ag j ([("look",V.ref i)]:Ι))) d (.dT [])):=λb o e n=>by rwa[yk (yb e g),yk n,e]
 generalize upd (upd H p (HO.ins a.Ag j ([("look",V.ref i)]:Ι))) d (.dT [])=C at q c r⊢;ext
 erw[k d _ g #[ya,λb y=>#[HO.dT [],by cases y;erw[ye f c],J],λz=>f z.symm,J,λu e=>(by cases (ye f c).symm.trans e;erw[List.nodup_nil,λZ z=>(nomatch z)]),[],λZ=>(0,0),ye f c,bT _,λZ Z=>rfl,λZ Z z=>(nomatch z),λZ Z Z Z z=>(nomatch z)] (r.trans But.upd)]
#synth ∀(K:xy)(a:Ads),∀(p dx lk d sl:qa)(kd:Fin 3)(f:qj Int->ql Slt)(O:Μ)(m:Nat)(ps sg:Ο)(nd:Int)(_:vs=[.ref p,.ref sl,.int nd])(_:ì a H p dx lk d kd f O m)(_:m<1000000)(_:jr K H lk (.str (kdS kd)) ps)(_:SqL K H sl ↥sg)(_:∀(q:qa)(O':Μ)(H':Hp),ì a H' p dx lk d kd (ę f (ctx ps sg nd) ((f (ctx ps sg nd)).getD (kd0 kd))) O' (m+1)->(∀kvs,H' d=some (.dT kvs)->j7 kvs (kI (ctx ps sg nd))∣q)->(∀c,O' c->O c\/H c=none)->(∀c,O c->O' c)->yp3 O H H'->Q ⇑q H'),yik
end
set_option tactic.hygienic true in
def vdi:(Df.v P w mg Γ) T.La 4 (yik K a):=by
 exists La,["self","signs","node","context"],Z;let#[p,dx,lk,d,sl,B,f,O,m,ps,sg,W,J,hb,hm,hl,hs,k]:=h;let ab:=hb.me;exists 3,1,yf (pst 3 ϰ (x0 (vaa T) Z.m T.Sj (pac pfs (pac (pv 1) (pav 2))))) (yf (Î (vz (ymm (ycj (ľ Z) (pv 3) pfs)) (yc (ya8 (ľ Z) pfs (pv 3) (x0 (vch T) Z.m T.Sc (pa1 (pix γ pfs yg))) J)) yx)) (yc (yn (ya3 (ľ Z) pfs (pv 3) (λF F=>rfl)))));erw[lk,sl,_,ps,sg,W,J,hl,hs,λr H1 ac a8 S1=>?_];have i:H1 r∪((kI (ctx ps sg W)).map kV):=by rwa[vbb,a8]
 generalize ctx ps sg W=b at i k;let g:=hb.same S1;let x:=g.me;ext;erw[ye5 (λσ' H'=>σ'=[some ⇑p,some ⇑sl,some (W:),some ⇑r]/\∃X,ì a H' p dx lk d B (ę f b ((f b).getD (kd0 B))) X (m+1)/\(∀c,X c->O c\/H c=none)/\(∀c,O c->X c)/\yp3 O H H'/\H' r∪((kI b).map kV)) ?_ ?_]
 .let#[G,l,D,h2,S,M,h5]:=g.tb;ext;exists d,_,J,Ŭ.t D i,?_
  cases hf:f b with
  |none =>
   rw[S b hf];ext;erw[í ?_];ext;let#[t,a7,ad,_,_]:=hl;erw[yc7 (S1.tup a7) (wb (j:=0) J) ?_,←B,J,λq dq H2 n a0 I=>?_];ext;let L:=I _ _ x;ext;erw[d,_,J,ym1.t (I _ _ D) (I _ _ i) (vi ()),?_];let a3:=S1.trans I;have U:q≠d:=λz=>by rw[z,D]at n;cases n
   have a2:p≠d:=λz=>g.np (z ▸ g.dO);ext;erw[J,λc=>O c\/c=q,#[ye a2 L,λc u=>?_,λz=>?_,.inl g.dO,ypy.snoc (g.ky G D) (S b hf) ya,ŭ G (kI b) ⇑q,λj=>if j=b then (q,dq)else l j,ya,?_,λj ς=>?_,λj s' ς=>?_,λj1 j2 s1 s2 e1 Y v=>?_],λc u=>?_,λc u=>.inl u,λc o e no=>?_,ye (xf (I _ _ i) (I _ _ D) (by intro z;cases z)) (I _ _ i)]
   .rcases u with u|rfl
    .let#[o,ho,hi]:=g.own c u;by_cases z:c=d
     .rw[z];exists _,ya,rfl
     .erw[o,ye z (I _ _ ho),hi]
    .let#[C,fs,eo]:=Ë a dq (kd0 B);erw[_,ye U a0,by rw[eo];rfl]
   .rcases z with z|z
    .erw[g.np z]
    .rw[z]at x;rw[x]at n;cases n
   .rw[ã _ (S b hf),bQ];show _+1<=m+1;omega
   .unfold ę at ς
    split at ς
    .cases ς
    .rename_i hne
     rwa[Ã,if_neg λz=>hne (yc0 z),S j ς]
   .unfold ę at ς
    split at ς
    .rename_i he
     subst he;cases ς;dsimp only;rwa[if_pos J,Ã,if_pos J,#[J,ye U a0,yr7 B,yn6 B,.inr J]]
    .rename_i hne
     let#[R,y,q3,q4,q5]:=M j s' ς;dsimp only;rw[if_neg hne,Ã,if_neg λz=>hne (yc0 z)]
     have a6:(l j).1≠d:=by
      let#[C,fs,eo]:=Ë a (l j).2 s';rw[eo]at y;erw[xf y D (by intro z;cases z)]
     erw[R,ye a6 (I _ _ y),q3,q4,.inl q5]
   .unfold ę at e1 Y;dsimp only at v;by_cases z1:j1=b
    .by_cases z2:j2=b
     .rw[z1,z2]
     .rw[if_neg z2]at Y;rw[if_pos z1,if_neg z2]at v;let#[_,y,_]:=M j2 s2 Y;have v:q=(l j2).1:=v;rw[<- v,n]at y;cases y
    .rw[if_neg z1]at e1;by_cases z2:j2=b
     .rw[if_neg z1,if_pos z2]at v;let#[_,y,_]:=M j1 s1 e1;have v:(l j1).1=q:=v;rw[v,n]at y;cases y
     .rw[if_neg z2]at Y;rw[if_neg z1,if_neg z2]at v;erw[h5 j1 j2 s1 s2 e1 Y v]
   .rcases u with u|rfl
    .erw[.inl u]
    .erw[.inr (S1.free n)]
   .erw[ye (λz=>no (z ▸ g.dO)) (a3 _ _ e)]
  |some s' =>
   let#[R,y,q3,q4,q5]:=M b s' hf;rw[R];ext;erw[J,O,?_,λc u=>.inl u,λc u=>u,λc o e F=>S1 _ _ e,i]
   have ef:ę f b ((some s').getD (kd0 B))=f:=by
    funext j
    unfold ę
    split
    .rename_i z
     rw[z,hf];rfl
    .rfl
   rwa[ef,#[g.me,g.own,g.np,g.dO,g.ky,G,l,D,Nat.le_succ_of_le h2,S,M,h5]]
 .rintro σ' H2 ⟨rfl,X,N,hO,hM,B2,a1⟩;let L:=N.me;let#[G,l,D,h2,S,M,h5]:=id N.tb;have a4:ę f b ((f b).getD (kd0 B)) b=some ((f b).getD (kd0 B)):=by unfold ę;rw[if_pos J]
  let#[R,y,q3,q4,q5]:=M b _ a4;ext;erw[d,_,J,by rwa[<- R,Ŭ.t D a1],?_]
  erw[k (l b).1 X H2 N (λa9 e=>by rw[D]at e;cases e;erw[R]) hO hM B2]
structure ytw(a:Ads)(H:Hp)(d:qa)(kd:Fin 3)(f:qj Int->ql Slt)(O:Μ)(m:Nat):Prop where
 own:∀b,O b->∃o,H b=some o/\yyb o=true
 dO:O d
 ky:ypy H d
 tb:∃(kvs:qj (qj Key×V))(loc:qj Int->qa×qa),H d=some (.dT kvs)/\↑kvs<=m/\(∀k,f k=none->j7 kvs (kI k)=none)/\
  (∀k s,f k=some s->j7 kvs (kI k)∣(loc k).1/\H (loc k).1=some (oS a (loc k).2 s)/\s.ok/\s.kind=kd/\O (loc k).1)/\(∀k j s t,f k=some s->f j=some t->(loc k).1=(loc j).1->k=j)
def ytw.same{H H':Hp}{d:qa}{kd:Fin 3}{f:qj Int->ql Slt}{O:Μ}{m:Nat}(h:ytw a H d kd f O m)(S:y7 H H'):ytw a H' d kd f O m:=by
 let#[c,g,e,l,r,n,q]:=h.tb;erw[λb t=>?_,h.dO,h.ky.mv e (S _ _ e),c,g,S _ _ e,l,r,λk s i=>?_,q]
 .let#[o,j,w]:=h.own b t;erw[o,S _ _ j,w]
 .let#[p,v,u]:=n k s i;erw[p,S _ _ v,u]
set_option tactic.hygienic true in
def ytw.put{H H2:Hp}{d q:qa}{kd:Fin 3}{f:qj Int->ql Slt}{O:Μ}{m:Nat}{key:Ο}{s:Slt}(h:ytw a H d kd f O m)(S:y7 H H2)(nq:H q=none)(hq:H2 q=some (oS a dq s))(ok:s.ok)(hk:s.kind=kd)(hf:f key=none){kvs:qj (qj Key×V)}(hd:H2 d=some (.dT kvs)):
  ytw a (upd H2 d (.dT (ŭ kvs (kI key) ⇑q))) d kd (ę f key s) (λc=>O c\/c=q) (m+1):=by
 let#[F,g,t,R,A,w,ς]:=h.tb;let e:=S _ _ t;rw[hd]at e;cases e;have l:q≠d:=λz=>by rw[z,t]at nq;cases nq
 let v:=h.ky kvs t;erw[λc B=>?_,.inl h.dO,ypy.snoc v (A key hf) ya,ŭ kvs (kI key) ⇑q,λj=>if j=key then (q,dq)else g j,ya,?_,λj i=>?_,λj D i=>?_,λr p G E u n b=>?_]
 .rcases B with B|rfl
  .let#[o,M,Q]:=h.own c B;by_cases z:c=d
   .rw[z];exists _,ya,rfl
   .erw[o,ye z (S _ _ M),Q]
  .let#[C,P,y]:=Ë a dq s;erw[_,ye l hq,by rw[y];rfl]
 .rw[ã _ (A key hf),bQ];show _+1<=m+1;omega
 .unfold ę at i
  split at i
  .cases i
  .rename_i hne
   rwa[Ã,if_neg λz=>hne (yc0 z),A j i]
 .unfold ę at i
  split at i
  .rename_i he
   subst he;cases i;dsimp only;rwa[if_pos J,Ã,if_pos J,#[J,ye l hq,ok,hk,.inr J]]
  .rename_i hne
   let#[I,k,K,N,L]:=w j D i;dsimp only;rw[if_neg hne,Ã,if_neg λz=>hne (yc0 z)]
   have x:(g j).1≠d:=by
    let#[C,P,y]:=Ë a (g j).2 D;rw[y]at k;erw[xf k t (by intro z;cases z)]
   erw[I,ye x (S _ _ k),K,N,.inl L]
 .unfold ę at u n;dsimp only at b;by_cases z1:r=key
  .by_cases z2:p=key
   .rw[z1,z2]
   .rw[if_neg z2]at n;rw[if_pos z1,if_neg z2]at b;let#[_,k,_]:=w p E n;have b:q=(g p).1:=b;rw[<- b,nq]at k;cases k
  .rw[if_neg z1]at u;by_cases z2:p=key
   .rw[if_neg z1,if_pos z2]at b;let#[_,k,_]:=w r G u;have b:(g r).1=q:=b;rw[b,nq]at k;cases k
   .rw[if_neg z2]at n;rw[if_neg z1,if_neg z2]at b;erw[ς r p G E u n b]
mutual
def ynh{kvs:qj (qj Key×V)}{k:qj Key}{v:V}(h:(kvs.map (·.1)).Nodup)(hm:(k,v)∈kvs):j7 kvs k=some v:=by
 induction kvs with
 |nil=>cases hm
 |cons p r ih =>
  rw[cO,dC]at h;rcases bZ.mp hm with e|hm
  .subst e;erw[ue (p:=(k,v)) J]
  .have a:¬p.1=k:=λz=>h.1 (by rwa[z,bW.mpr #[_,hm,J]]);rwa[uc a,ih h.2 hm]
def yav{kvs:qj (qj Key×V)}{i:Nat}{k j:qj Key}{v:V}(h:kvs[i]?=some (k,v)):j∈(kvs.take (i+1)).map (·.1)↔(j=k\/j∈(kvs.take i).map (·.1)):=by rw[List.take_add_one,h,ce,cA];show _\/j∈[k]↔_;rw[bX,or_comm]
def ywp{kvs:qj (qj Key×V)}{i:Nat}{k:qj Key}{v:V}(hn:(kvs.map (·.1)).Nodup)(h:kvs[i]?=some (k,v)):k∉(kvs.take i).map (·.1):=λm=>by
 have a:i<↑kvs:=(bY.mp h).1;rw[<- dG i kvs,ce,List.nodup_append]at hn;erw[hn.2.2 _ m k ?_ J];rwa[df a,cO,(bY.mp h).2,cG]
#synth ∀(a:Ads),∀(p dx lk d:qa)(kd:Fin 3)(f:qj Int->ql Slt)(O:Μ)(m:Nat)(_:vs=[.ref p])(_:ì a H p dx lk d kd f O m)(_:m<1000000)(_:∀q dq d' O' H',H q=none->ì a H' q dq lk d' kd f O' m->(∀c,O' c->H c=none)->y7 H H'->Q ⇑q H'),yiq
def vac:(Df.v P w mg Γ) T.Lb 4 (yiq a):=by
 exists Lb,["self","slots","context","slot","made"],hr;let#[p,dx,lk,d,kd,f,O,m,J,hb,hm,k]:=h;let a5:=hb.me;let#[g,L,h1,h2,h3,h4,h5]:=hb.tb;let#[ab,ai]:=hb.ky g h1;erw[yh (pst 1 ϰ yf7) ?_,<-yh (yt8 (uy PassesOwn.never J (yob pfs) (Ũ J (xx (wd (i:=2) ϰ J (Or.inl J)) (xx (wd (i:=3) ϰ J (Or.inl J)) û))) (yc (ya8 (ľ hr) (pv 1) (pv 2) (è (vj (pv 3) T.At T.Kq.m (yz8 T) hr.m T.Kq.B .nil vo) (è (vj (pv 3) T.Bb T.Ku.m (va1 T) hr.m T.Ku.B .nil vo) (vj (pv 3) T.Bg T.Ky.m (yz1 T) hr.m T.Ky.B .nil vo))) J)))) ?_,<-yh (pst 4 ϰ (jl T.Md (yp8 T) hr.m J T.Mc T.L9.B .nil vo (pa1 pfs))) ?_,<-yh (y8 (pv 4) (pv 1) J) ?_];exists 1,4,yc (yn (pv 4));intro e ge;let S1:=y9 (o:=(HO.dT [])) ge;have X:upd H e (HO.dT []) e=some (HO.dT []):=ya;generalize upd H e (HO.dT [])=H1 at S1 X⊢;let an:=S1 _ _ a5;let aa:=S1 _ _ h1;have aq:p≠d:=λz=>hb.np (z ▸ hb.dO);have M:e≠d:=λz=>by rw[z,h1]at ge;cases ge
 ext;erw[d,g,J,aa,λob=>?_];have a6:upd H1 d (.frz ob (.dT g)) d=some (.frz ob (.dT g)):=ya;have BF:But d H1 (upd H1 d (.frz ob (.dT g))):=But.upd;generalize upd H1 d (.frz ob (.dT g))=HF at a6 BF⊢;refine yiz (λi σ2 G=>∃(v2 v3:Χ)(Z:qj Int->ql Slt)(Y:Μ),σ2=[some ⇑p,some ⇑e,v2,v3,none]/\ytw a G e kd Z Y i/\(∀j,(kI j∈(g.take i).map (·.1)->Z j=f j)/\(kI j∉(g.take i).map (·.1)->Z j=none))/\(∀c,Y c->H c=none)/\G d=some (.frz ob (.dT g))/\But d H G)
  #[none,none,λF=>none,λc=>c=e,J,#[λb x=>#[.dT [],by cases x;erw[BF _ _ X M],J],J,λl n=>(by cases (BF _ _ X M).symm.trans n;erw[List.nodup_nil,λF z=>(nomatch z)]),[],λF=>(0,0),BF _ _ X M,cK _,λF F=>rfl,λF F z=>(nomatch z),λF F F F z=>(nomatch z)],λj=>#[λz=>(by rw[List.take_zero]at z;cases z),λF=>rfl],λc z=>by cases z;erw[ge],a6,λb o n ne=>BF _ _ (S1 _ _ n) ne]
  (by rintro i σ2 G _ ⟨_,_,_,_,_,_,_,_,w,_⟩;erw[w]) ?_ ?_
 .rintro i ak v σ2 G t kt r ⟨v2,v3,Z,Y,rfl,gT,gf,gO,gd,gB⟩ gt ah;let#[I,a4]:=ai _ (ck r);have a4:ak=kI I:=a4;subst a4;let R:=ynh ab (ck r)
  obtain⟨s',a8⟩:∃s',f I=some s':=by
   cases z:f I with
   |none=>rw[h3 I z]at R;cases R
   |some s'=>erw[s',rfl]
  let#[U,q2,q3,q4,q5]:=h4 I s' a8;rw[R]at U;injection U with U;subst U
  have af:(L I).1≠d:=by
   let#[C,fs,eo]:=Ë a (L I).2 s';rw[eo]at q2;erw[xf q2 h1 (by intro z;cases z)]
  let T1:=y9 (o:=(HO.tup [V.ref kt,V.ref (L I).1])) gt;have a9:upd G t (HO.tup [V.ref kt,V.ref (L I).1]) t=some (HO.tup [V.ref kt,V.ref (L I).1]):=ya;generalize upd G t (HO.tup [V.ref kt,V.ref (L I).1])=G1 at T1 a9⊢;erw[ũ (SqT.of a9) J ?_,←yul (λQ' h=>yx5 J h) (T1 _ _ (gB _ _ q2 af)) λq dq G2 ς a7 T2=>?_];let S2:=T1.trans T2;let#[l,D,S,w2,w3,w4,w5]:=id gT.tb;have a2:Z I=none:=(gf I).2 (ywp ab r);let ac:=S2 _ _ gd;ext;erw[e,_,J,ym1.t (S2 _ _ S) (S2 _ _ ah) (vi (by have:=(bY.mp r).1;omega)),?_,←_,_,_,_,J,gT.put S2 (T1.free ς) a7 q3 q4 a2 (S2 _ _ S),λj=>?_,λc hc=>?_,ye M.symm ac,λb o n ne=>ye (yb n ge) (S2 _ _ (gB _ _ n ne))]
  .unfold ę;by_cases z:j=I
   .rw[if_pos z,z];erw[λF=>a8.symm,λw=>absurd ((yav r).mpr (.inl J)) w]
   .rw[if_neg z];erw[λw=>(gf j).1 (((yav r).mp w).resolve_left λy=>z (yc0 y)),λw=>(gf j).2 λy=>w ((yav r).mpr (.inr y))]
  .rcases hc with hc|rfl
   .erw[gO c hc]
   .cases z:H c with
    |none=>rfl
    |some o =>
     by_cases y:c=d
     .rw[y]at ς;rw[T1 _ _ gd]at ς;cases ς
     .rw[T1 _ _ (gB _ _ z y)]at ς;cases ς
 .rintro σ2 G ⟨v2,v3,Z,Y,rfl,gT,gf,gO,gd,gB⟩
  have ae:Z=f:=by
   funext j
   let gj:=gf j;rw[cX]at gj;by_cases w:kI j∈g.map (·.1)
   .erw[gj.1 w]
   .rw[gj.2 w]
    cases z:f j with
    |none=>rfl
    |some s' =>
     let U:=(h4 j s' z).1;let a1:=j3 (kI j) g;rw[U]at a1;let#[pr,ag,n]:=List.any_eq_true.mp a1;erw[absurd (bW.mpr #[pr,ag,of_decide_eq_true n]) w]
  subst ae;erw[d,ob,.dT g,λo u z=>(by rw[aa]at z;cases z),gd,?_]
  have ST:y7 H (upd G d (.dT g)):=λb o n=>by
   by_cases y:b=d
   .rw[y,ya];rw[y,h1]at n;erw[n]
   .rw[yk y];erw[gB _ _ n y]
  have a3:ytw a (upd G d (.dT g)) e kd Z Y ↑g:=by
   let#[l,D,S,w2,w3,w4,w5]:=gT.tb
   have nO:∀c,Y c->c≠d:=λc hc z=>by
    have:=gO c hc;rw[z,h1]at this;cases this
   erw[λb x=>?_,gT.dO,gT.ky.mv S (ye M S),l,D,ye M S,w2,w3,λk s hk=>?_,w5]
   .let#[o,ho,hi]:=gT.own b x;erw[o,ye (nO b x) ho,hi]
   .let#[U,q2,q3,q4,q5]:=w4 k s hk;erw[U,ye (nO _ q5) q2,q3,q4,q5]
  generalize upd G d (.dT g)=GT at ST a3⊢;let am:=ST _ _ a5;ext;intro q dq nq al ar;erw[q,dq,lk,kd,J,ya,λd2 G2 ao ad B2=>#[J,?_]];let S3:=ü nq al B2;let a7:=ad.me;let N:=a3.same S3;ext
  have W:¬Y q:=λw=>by
   let#[o,ho,_]:=a3.own q w;rw[nq]at ho;cases ho
  let#[l,D,S,w2,w3,w4,w5]:=N.tb;have a0:e≠q:=λz=>W (z ▸ N.dO);erw[k q dq e Y _ (ST.free nq) #[ya,λb x=>?_,W,N.dO,N.ky.mv S (ye a0 S),l,D,ye a0 S,(),w3,λk s hk=>?_,w5] gO (λb o n=>ye (λz=>by rw[z]at n;rw[ST _ _ n]at nq;cases nq) (S3 _ _ (ST _ _ n)))]
  .let#[o,ho,hi]:=N.own b x;erw[o,ye (λz=>W (z ▸ x)) ho,hi]
  .let#[U,q2,q3,q4,q5]:=w4 k s hk;erw[U,ye (λz=>W (z ▸ q5)) q2,q3,q4,q5]
def ytl:(Df.v P w mg Γ) T.Lc 1 (yor a):=by
 exists Lc,["self","many"],q;let#[p,i,n,J,o,m,e,k]:=h;exists 2,0,yc (y8 (pv 0) (ym yzs (wk (pa1 (vy J T.Du))) (pv 1)) J);exists (by walk_at "len"),λr hr0=>?_
 exists hr0,H1,S1,e1;ext;erw[r,n,_,J,J,e1,(),(),vw (by show 1*(n:Int).toNat<=16000000;omega),λl hl=>?_]
 rw[yj1];exists hl,H2,S2,e2;let b:=S1.trans S2;let j:=b _ _ e;ext;have c:l≠p:=λz=>by rw[z,S1 _ _ e]at hl;cases hl
 erw[k l _ (S1.free hl) #[ya,ye c e2] ((But.of b).trans But.upd)]
def vcb:(Df.v P w mg Γ) T.Ld 1 (yja K a):=by
 exists Ld,["self","chances"],hr;let#[p,dx,l,c,G,z,n,J,n1,n6,e,hc,#[hp,I],M,k]:=h;erw[_,(yc (yn (ym vk (pcB (ç J) T.Gc (pa1 (yap (js:=[]) (ys:=[]) (xs:=["weight","chance"]) (g:=yyc K 2 (ja (xm 0) (ja (xm 1) ymy))) J (ytb J T.Mq (pac pfs (pav 1))) (λC Y r U=>(ym xa (pv 0) (pv 1))) J (λC Y r U=>Ũ J (xx (wd (i:=0) (show List.Nodup ((["weight","chance"]:Ρ)++([]:Ρ)) by right) J (Or.inl J)) (xx (wd (i:=1) (show List.Nodup ((["weight","chance"]:Ρ)++([]:Ρ)) by right) J (Or.inl J)) û))) J (hyc:=yw) (hrel:=yw)))) (pcB (ç J) T.Gc (pa1 pfs))))),?_];exists 2,0;have d:↑z=↑G:=by rw[e.len,hc.len]
 ext;erw[l,c,J,#[_,_,SqL.of I,M],λD L=>?_,<-Š (λi=>V.int ((G[i]?).getD 0*(z[i]?).getD 0)) (SqL.of I) M (by rw[bL,bL,d]) L (λi x y r ς Z hx hy f b q m=>?_) (λr f b=>?_)]
 .let#[v1,v2,J]:=ymd m;let#[w,J,N,S,R]:=ju hx;let#[u,J,um,ui,_]:=ju hy;let w1:=e.one w N;let w2:=e.top w N;let O:=f.trans (y9 (o:=HO.tup [V.int w,V.int u]) q);let j:=zx (o':=HO.tup [V.int w,V.int u]) q b;have t:upd r ς (HO.tup [V.int w,V.int u]) ς∪[V.int w,V.int u]:=ya;generalize upd r ς (HO.tup [V.int w,V.int u])=W at O j t;erw[ũ (SqT.of t) J ?_];show ja (xm 0) (ja (xm 1) ymy) [V.int w,V.int u] (v1::v2::za [] [some (V.ref p),some (V.ref c)]) W _;ext;erw[#[[some (w:),some (u:)],J,J],?_,←Mp.doneR L (vi (by rw[bL,e.len];omega)) (by rwa[bL,R]) O j ?_];rw[S,ui];rfl
 .let b:=yfo b (ysc (g:=λw c=>w*c) d);let a0:=f _ _ hp;let v:=f _ _ I;let p1:=e.pos n1;let p2:=e.small n6;ext;erw[D,_,J,SqL.of b,?_,←l,_,J,SqL.of v,?_,←k _ f]
def vbw:(Df.e P w mg Γ) T.Le 5 (yis K a a.Bp):=by
 exists Le,hr,["self","chances","bit","shares","whole","own","grown","dropped"];let#[p,dx,l,c,B,r,n,x,m,J,n1,n6,W,hc,#[hp,hl],hq,ty,k1,k2]:=h;erw[yh (yv (uk (ļ T) hr.m T.Da yo (pav 2))) ?_,<-yh (ynw (i:=3) (js:=[2]) (ys:=["bit"]) (xs:=["weight","chance"]) (g:=yyc K 2 (ja (xm 0) (ja (xm 1) ymy))) ϰ J J J (ytb J T.Mq (pac pfs (pav 1))) (λC s2 M fp=>(ym xa (pv 0) (uk (yrb T) hr.m T.Km ve (pac (pv 1) (pav 2))))) J (λC s2 M fp=>Ũ J (xx (wd (i:=0) (show List.Nodup ((["weight","chance"]:Ρ)++(["bit"]:Ρ)) by right) J (Or.inl J)) (xx (wd (i:=1) (show List.Nodup ((["weight","chance"]:Ρ)++(["bit"]:Ρ)) by right) J (Or.inl J)) û))) J (hyc:=(all_cons J yw)) (hrel:=(all_cons J yw))) ?_,<-yh (π (i:=4) ϰ J (Or.inr J) (pcB (ç J) T.Gc (pav 3))) ?_,<-yh (π (i:=5) ϰ J (Or.inr J) (ym xa (vy J T.Ge) (pcB yp T.A9 (pav 3)))) ?_,<-yh (yf8 (i:=6) (js:=[4,5]) (ys:=["whole","own"]) ϰ J J J (we (pv 3)) (λC s2 M fp=>(ym v9 (ym xa (pv 2) (pv 0)) (pv 1))) J J (hyc:=(all_cons J (all_cons J yw))) (hrel:=(all_cons J (all_cons J yw)))) ?_,<-yh (π (i:=7) ϰ J (Or.inr J) (pcB (Ĳ J) T.Mo (pac (ym zi (ygj PySem.F.plainAttrs_int PySem.F.slot_int_bit_length PySem.F.type_int_bit_length ykz (pcB (ç J) T.Gc (pav 6))) (vy J T.Dv)) (pa1 yg)))) ?_,<-_,(yc (y8 (pv 0) (vx (js:=[7]) (ys:=["dropped"]) J (we (pv 6)) (λC s2 M fp=>(ym vae (pv 0) (pv 1))) J J (hyc:=(all_cons J yw)) (hrel:=(all_cons J yw))) J)),?_];exists 3,5;have j:↑r=↑B:=by rw[W.len,hc.len]
 ext;erw[x,m,J,ty,λhx=>?_,k2];let#[b,J,b0,b1]:=ygy hx;let k:=k1 b J b0 b1;ext;erw[l,c,J,#[_,_,SqL.of hl,hq],λD hD=>?_,<-Š (λi=>V.int ((B[i]?).getD 0*giv ((r[i]?).getD 0) b)) (SqL.of hl) hq (by rw[bL,bL,j]) hD (λi x y M tt a7 hx N U d a0 Y=>?_) (λM U d=>?_)]
 .let#[v1,v2,J]:=ymd Y;let#[w,J,wm,wi,il]:=ju hx;let#[u,J,um,ui,_]:=ju N;let w1:=W.one w wm;let w2:=W.top w wm;let a6:=yct (vc8 hc um);let a2:=ya4 b0 b1;let L:=U.trans (y9 (o:=HO.tup [V.int w,V.int u]) a0);let X:=zx (o':=HO.tup [V.int w,V.int u]) a0 d;have a1:upd M tt (HO.tup [V.int w,V.int u]) tt∪[V.int w,V.int u]:=ya;generalize upd M tt (HO.tup [V.int w,V.int u])=H3 at L X a1;erw[ũ (SqT.of a1) J ?_];show ja (xm 0) (ja (xm 1) ymy) [V.int w,V.int u] (v1::v2::za [2] [some (V.ref p),some (V.ref c),some (V.int b),none,none,none,none,none]) H3 _;ext;erw[#[[some (w:),some (u:)],J,J],?_,←.int u,_,.int b,_,J,.int u,.int b,λz=>(by rw[a6]at z;cases z),λF z=>(by rw[a2]at z;cases z),λc' b' ec eb F F=>?_];cases ec;cases eb;ext;erw[Mp.doneR hD (vi (by rw[bL,W.len];omega)) (by rwa[bL,il]) L X ?_];rw[wi,ui];rfl
 .have d:M D\↥(shL B r b):=yfo d (ysc (g:=λw c=>w*giv c b) j);have q:↑(shL B r b)=n:=by rw[yeq j.symm,W.len]
  let a5:=U _ _ hp;have ek:lrn B r b=(grL (shL B r b)).map λv=>v/2^tOf (grL (shL B r b)).sum:=rfl;rw[ek]at k;generalize shL B r b=ς at d q k;have eg:grL ς=ς.map λs=>31*(n:Int)*s+ς.sum:=by rw[<- q];rfl
  ext;erw[D,_,J,SqL.of d,?_,←uz (SqL.of d) ?_];rw[bL,q];ext;erw[D,J,#[_,SqL.of d],λG hG=>?_,<-zt (onI λs=>31*(n:Int)*s+ς.sum) (SqL.of d) hG (λi y H3 N L f=>?_) (λH3 L f=>?_)]
  .let#[s',J,_,_,il]:=ju N;show tOp _ _ _ (some (V.int s')::za [4,5] [some (V.ref p),some (V.ref c),some (V.int b),some (V.ref D),some (V.int ς.sum),some (V.int (31*(n:Int))),none,none]) H3 _;ext;erw[Mp.done hG (vi (by rw[bL,q];omega)) N L f J]
  .rw[ykr,<- eg]at f;have R:↑(grL ς)=n:=by rw[yla,q]
   generalize grL ς=O at f k R;let S:=L _ _ a5;ext;erw[G,_,J,SqL.of f,?_,←_,_,J,?_]
   have et:(if (0:Int) > ((Builtin.Int.intBits O.sum:Nat):Int)-48 then (0:Int)else ((Builtin.Int.intBits O.sum:Nat):Int)-48)=((tOf O.sum:Nat):Int):=by
    show _=(((yps O.sum)-48:Nat):Int);have e:Builtin.Int.intBits O.sum=yps O.sum:=rfl;rw[e]
    split<;>omega
   rw[et];generalize tOf O.sum=t at k;ext;erw[G,J,#[_,SqL.of f],λZ hZ=>?_,<-zt (onI λv=>v/2^t) (SqL.of f) hZ (λi y H4 N S4 I=>?_) (λH4 S4 I=>?_)]
   .let#[s',J,_,_,il]:=ju N;show tOp _ _ _ (some (V.int s')::za [7] [some (V.ref p),some (V.ref c),some (V.int b),some (V.ref D),some (V.int ς.sum),some (V.int (31*(n:Int))),some (V.ref G),some (V.int (t:Int))]) H4 _;ext;erw[i_I (Int.natCast_nonneg t) ?_,<-Mp.done hZ (vi (by rw[bL,R];omega)) N S4 I J]
   .rw[ykr]at I;let a9:=S4 _ _ S;ext;have nz:Z≠p:=λz=>by rw[z,S]at hZ;cases hZ
    let a3:=U.trans (L.trans S4);erw[k Z _ ((U.trans L).free hZ) #[ya,ye nz I] ((But.of a3).trans But.upd)]
#synth ∀(a:Ads),∀(p dx l:qa)(ws:Ο)(_:vs=[.ref p])(_:yih a p dx l ws H)(_:1<=↑ws)(_:↑ws<=6)(_:∀q dq l' H',H q=none->H l'=none->yih a q dq l' ws H'->y7 H H'->Q ⇑q H'),yn3
def va7:(Df.v P w mg Γ) T.Lf 3 (yn3 a):=by
 exists Lf,["self","made"],I;let#[p,N,l,u,J,#[D,v],M,G,k]:=h;exists 1,1,yf (pst 1 ϰ (jl T.Uw (ytl T) I.m J T.Uv T.Lc.B .nil vo (pa1 (pcB yp T.A9 (pa1 pfs))))) (yf (y8 (pv 1) (pcT ww T.An (pa1 pfs)) J) (yc (yn (pv 1))));erw[uz (SqL.of v) ?_];rw[bL];ext;intro q n i j ς;erw[q,n,u.length,J,M,G,ya,λS R t M1 L=>#[J,?_]];let d:=ü i j L;let c:=M1.o;let x:=d _ _ D;ext;erw[yau (SqL.of (d _ _ v)) λr hr0=>?_];exists hr0,H2,S2,er;let O:=S2 _ _ c;ext;have f:r≠q:=λz=>by rw[z,c]at hr0;cases hr0
 erw[k q n r _ i (d.free hr0) #[ya,ye f er] λb o e=>ye (yb e i) (S2 _ _ (d _ _ e))]
def ì.sqt{H H':Hp}{p dx lk d:qa}{kd:Fin 3}{f:qj Int->ql Slt}{O:Μ}{m:Nat}(h:ì a H p dx lk d kd f O m)(B:yp3 O H H'){t:qa}{xs:Τ}(e:SqT K H t xs):SqT K H' t xs:=by
 have i:∀o:HO,H t=some o->yyb o=false->H' t=some o:=λo g j=>B _ _ g λz=>by
  let#[k,c,b]:=h.own t z;rw[g]at c;cases c;rw[j]at b;cases b
 rcases e with(e|⟨o,e⟩)|e
 .erw[.inl (.inl (i _ e J))]
 .erw[.inl (.inr #[o,i _ e J])]
 .erw[.inr e]
def ì.up{H:Hp}{p dx lk d:qa}{kd:Fin 3}{f:qj Int->ql Slt}{O:Μ}{m:Nat}(h:ì a H p dx lk d kd f O m)(hm:m<=m'):ì a H p dx lk d kd f O m':=by let#[b,c,i,e,j,g]:=h.tb;erw[h.me,h.own,h.np,h.dO,h.ky,b,c,i,cN e hm,j,g]
def jr.mvT{H H':Hp}{k:qa}{x:V}{ps:Ο}(h:jr K H k x ps)(h1:∀t xs,SqT K H t xs->SqT K H' t xs):jr K H' k x ps:=by let#[t,a,b,c,d]:=h;erw[t,h1 _ _ a,h1 _ _ b,c,d]
noncomputable def refs(g:Λ)(n:Nat):Τ:=(List.range n).map λi=>V.ref (g i)
def vv(g:Λ)(n:Nat):↑(refs g n)=n:=by unfold refs;rw[bL,cS]
def u7{g:Λ}{n i:Nat}{x:V}(h:(refs g n)[i]?=some x):x=.ref (g i)/\i<n:=by
 have a:i<n:=by
  have:=(bY.mp h).1;rw[vv]at this;erw[this]
 unfold refs at h;rw[bU,dh a]at h;erw[(cr h).symm,a]
def x9(g:Λ)(n:Nat):refs g (n+1)=refs g n++[.ref (g n)]:=by unfold refs;rw[List.range_succ,ce];rfl
def xu{g h:Λ}{n:Nat}(e:∀i,i<n->g i=h i):refs g n=refs h n:=by unfold refs;erw[List.map_congr_left λi a=>by rw[e i (c8.mp a)]]
structure Bks(K:xy)(a:Ads)(H:Hp)(n:Nat)(bk dx lk dd:Λ)(kd:Ν)(ps:Κ)(f:Α)(O:Β)(m:Nat):Prop where
 look:∀i,i<n->jr K H (lk i) (.str (kdS (kd i))) (ps i)
 b:∀i,i<n->ì a H (bk i) (dx i) (lk i) (dd i) (kd i) (f i) (O i) m
 dj:∀i j c,i<n->j<n->i≠j->O i c->¬O j c
 nb:∀i j,i<n->j<n->¬O i (bk j)
def AtS(H:Hp)(d:qa)(k:Ο)(q:qa):Prop:=∀kvs,H d=some (.dT kvs)->j7 kvs (kI k)∣q
def ì.slot{H:Hp}{p dx lk d q:qa}{kd:Fin 3}{f:qj Int->ql Slt}{O:Μ}{m:Nat}{k:Ο}{s:Slt}(h:ì a H p dx lk d kd f O m)(hf:f k=some s)(hq:AtS H d k q):∃dq,H q=some (oS a dq s)/\s.ok/\s.kind=kd/\O q:=by let#[b,r,j,t,v,g,u]:=h.tb;let#[i,n,l,c,o]:=g k s hf;let e:=hq b j;rw[i]at e;injection e with e;injection e with e;subst e;erw[_,n,l,c,o]
def ì.told{H H':Hp}{p dx lk d q:qa}{kd:Fin 3}{f:qj Int->ql Slt}{O:Μ}{m:Nat}{k:Ο}{s:Slt}{b:Int}(h:ì a H p dx lk d kd f O m)(hf:f k=some s)(hq:AtS H d k q)(b0:0<=b)(b1:b<=1)
  (h3:H' q=some (oS a dq (s.see b))) (B:But q H H'):ì a H' p dx lk d kd (ę f k (s.see b)) O m:=by
 let y:=h.me;let#[r,l,v,R,E,G,ς]:=id h.tb;let#[I,L,X,q4,K]:=G k s hf;let e:=hq r v;rw[I]at e;injection e with e;injection e with e;have D:p≠q:=λz=>h.np (by rwa[z,<- e,K])
 have u:d≠q:=λz=>by
  let#[C,fs,A]:=Ë a (l k).2 s;rw[e,<- z,v,A]at L;cases L
 erw[B _ _ y D,λc hc=>?_,h.np,h.dO,h.ky.mv v (B _ _ v u),r,λj=>if j=k then (q,dq)else l j,B _ _ v u,R,λj i=>?_,λj n i=>?_,λx F s1 U e1 Y W=>?_]
 .let#[o,ho,hi]:=h.own c hc;by_cases z:c=q
  .rw[z];let#[C,fs,A]:=Ë a dq (s.see b);erw[_,h3,by rw[A];rfl]
  .erw[o,B _ _ ho z,hi]
 .erw[E j ?_];unfold ę at i
  split at i
  .cases i
  .erw[i]
 .unfold ę at i;by_cases z:j=k
  .rw[if_pos z]at i;cases i;subst z;dsimp only;rw[if_pos J];exists by rw[I,e],h3,Slt.see_ok X b0 b1,(ynv s b).trans q4,e ▸ K
  .rw[if_neg z]at i;let#[Z,S,M,P,N]:=G j n i;dsimp only;rwa[if_neg z,#[Z,B _ _ S (λw=>z (ς j k n s i hf (w.trans e.symm))),M,P,N]]
 .have g:∀j n,ę f k (s.see b) j=some n->∃t,f j=some t:=λj n h=>by
   unfold ę at h;by_cases z:j=k
   .erw[s,by rwa[z,hf]]
   .rw[if_neg z]at h;erw[n,h]
  let#[t1,T]:=g x s1 e1;let#[Q,f2]:=g F U Y;erw[ς x F t1 Q T f2 ?_]
  have ytv:∀j,(if j=k then ((q,dq):qa×qa)else l j).1=(l j).1:=λj=>by
   by_cases z:j=k
   .rw[if_pos z,z];erw[e.symm]
   .rw[if_neg z]
  rwa[<- ytv x,<- ytv F,W]
def AtS.told{H H':Hp}{p dx lk d q:qa}{kd:Fin 3}{f:qj Int->ql Slt}{O:Μ}{m:Nat}{k:Ο}(h:ì a H p dx lk d kd f O m){r:qa}(hd:d≠r)(B:But r H H')(hq:AtS H d k q):AtS H' d k q:=λg e=>by
 let#[c,i,b,_]:=h.tb;rw[B _ _ b hd]at e;cases e;erw[hq _ b]
end
section
mutual
variable{H H':Hp}{n m:Nat}{bk dx lk dd:Λ}{kd:Ν}{ps:Κ}{f:Α}
theorem Bks.frame(h:Bks K a H n bk dx lk dd kd ps f O m){O2:Μ}(B:yp3 O2 H H')(dj:∀i b,i<n->O i b->¬O2 b)(hp:∀i,i<n->¬O2 (bk i))(ht:∀t xs,SqT K H t xs->SqT K H' t xs):Bks K a H' n bk dx lk dd kd ps f O m :=
 #[λi c=>(h.look i c).mvT ht,λi c=>(h.b i c).frame B (λb d=>dj i b c d) (hp i c),h.dj,h.nb]
def Bks.same(h:Bks K a H n bk dx lk dd kd ps f O m)(S:y7 H H'):Bks K a H' n bk dx lk dd kd ps f O m :=
 h.frame (O2:=λZ=>False) (λb o e Z=>S b o e) (λZ Z Z Z z=>z) (λZ Z z=>z) λZ Z e=>S.tup e
def Bks.move(h:Bks K a H n bk dx lk dd kd ps f O m)(hj:j<n){f':qj Int->ql Slt}{O':Μ}(hm:m<=m')(hb:ì a H' (bk j) (dx j) (lk j) (dd j) (kd j) f' O' m')(hO:∀c,O' c->O j c\/H c=none)(B:yp3 (O j) H H'):
  Bks K a H' n bk dx lk dd kd ps (λi=>if i=j then f' else f i) (λi=>if i=j then O' else O i) m':=by
 let A:=h.b j hj
 have g:∀q c,q<n->q≠j->O q c->¬O' c:=λq c C x w E=>by
  rcases hO c E with v|v
  .erw[h.dj q j c C hj x w v]
  .let#[o,D,_]:=(h.b q C).own c w;rw[v]at D;cases D
 erw[λi d=>(h.look i d).mvT λt F e=>A.sqt B e,λi d=>?_,λi l c d p u r k=>?_,λi l d p e=>?_]
 .try dsimp only
  by_cases z:i=j
  .subst z;rwa[if_pos J,if_pos J,hb]
  .rw[if_neg z,if_neg z];erw[((h.b i d).frame B (λb y=>h.dj i j b d hj z y) (h.nb j i hj d)).up hm]
 .try dsimp only at r k
  by_cases z1:i=j
  .rw[if_pos z1]at r;have s:l≠j:=λw=>u (z1.trans w.symm);rw[if_neg s]at k;erw[g l c p s k r]
  .rw[if_neg z1]at r;by_cases s:l=j
   .rw[if_pos s]at k;erw[g i c d z1 r k]
   .rw[if_neg s]at k;erw[h.dj i l c d p u r k]
 .try dsimp only at e
  by_cases z:i=j
  .rw[if_pos z]at e;rcases hO _ e with v|v
   .erw[h.nb j l hj p v]
   .rw[(h.b l p).me]at v;cases v
  .rw[if_neg z]at e;erw[h.nb i l d p e]
def AtS.move(h:Bks K a H n bk dx lk dd kd ps f O m){i:Nat}(hi:i<n)(hj:j<n)(hij:i≠j)(B:yp3 (O j) H H'){k:Ο}{q:qa}(hq:AtS H (dd i) k q):AtS H' (dd i) k q:=λg e=>by
 let#[d,l,c,_]:=(h.b i hi).tb;rw[B _ _ c (h.dj i j _ hi hj hij (h.b i hi).dO)]at e;cases e;erw[hq _ c]
def Bks.nlst(h:Bks K a H n bk dx lk dd kd ps f O m){l:qa}{xs:Τ}(hl:H l\xs):∀i,i<n->¬O i l:=λi e z=>by
 let#[o,d,c]:=(h.b i e).own l z;rw[hl]at d;cases d;cases c
end
end
mutual
def ym3(n:Nat)(kd:Ν)(f:Α)(g:Nat->qj Int->Slt):Prop:=∀i,i<n->∀k,(f i k).getD (kd0 (kd i))=g i k
def ym3.put{n:Nat}{kd:Ν}{f:Α}{g:Nat->qj Int->Slt}(h:ym3 n kd f g)(j:Nat)(hj:j<n)(k:Ο):ym3 n kd (λi=>if i=j then ę (f j) k ((f j k).getD (kd0 (kd j)))else f i) g:=λi b a=>by
 dsimp only;by_cases z:i=j
 .subst z;rw[if_pos J];unfold ę;by_cases w:a=k
  .rw[if_pos w,w];erw[h i b k]
  .rw[if_neg w];erw[h i b a]
 .rw[if_neg z];erw[h i b a]
inductive yhe(K:xy)(a:Ads)(vs:Τ)(H:Hp)(Q:VK)(E':XK):Prop
 | mk(p dp ll bl mp el pl0:qa)(nd:Int)(sg:Ο)(n m:Nat)(bk dx lk dd:Λ)(kd:Ν)(ps:Κ)(f:Α)(O:Β)(g:Nat->qj Int->Slt)(_:vs=[.ref p])(_:H p∩a.A3 dp (jo (.ref ll) (.ref bl) (.ref mp) (.ref el) (.int nd) (.ref pl0)))(_:H bl\(refs bk n))(_:H el\(sg.map V.int))(_:Bks K a H n bk dx lk dd kd ps f O m)(_:ym3 n kd f g)(_:n<=6)(_:m+10<1000000)(_:(∀i,i<n->¬O i p))(_:∀(pl:qa)(sl:Λ)(f':Α)(O':Β)(H':Hp),H' p∩a.A3 dp (jo (.ref ll) (.ref bl) (.ref mp) (.ref el) (.int nd) (.ref pl))->H' pl\(refs sl n)->H pl=none ->
  Bks K a H' n bk dx lk dd kd ps f' O' (m+n)->ym3 n kd f' g->(∀j,j<n->(∃s,f' j (ctx (ps j) sg nd)=some s)/\AtS H' (dd j) (ctx (ps j) sg nd) (sl j))->(∀j c,j<n->O' j c->O j c\/H c=none) ->
  (∀c o,H c=some o->c≠p->(∀j,j<n->¬O j c)->H' c=some o)->(∀c o,H c=some o->∃o',H' c=some o')->Q .non H')
def yl2:(Df.v P w mg Γ) T.Dp 5 (yhe K a):=by
 exists Dp,["self"],hr;let#[p,dp,ll,bl,mp,el,ae,N,X,n,m,Z,dx,lk,dd,kd,M,f,O,g,J,hp,U,a6,hB,hA,n6,hm,np,k]:=h;exists 1,0,yc (y8 (pv 0) (vx (js:=[0]) (ys:=["self"]) J (we pfs) (λC s2 H2 fp=>(wv (pv 0) T.Bi T.La.m (vdi T) hr.m T.La.B .nil vo (pac (yez (K:=K) J (pv 1) J) (pa1 (yez (K:=K) J (pv 1) J))))) J J (hyc:=(all_cons J yw)) (hrel:=(all_cons J yw))) J);erw[bl,J,#[_,SqL.of U],λD L=>?_];let a8:=hB.nlst U;let aa:=hB.nlst a6;refine ò (K:=K) (xs:=refs Z n) (λi G=>∃(y:Λ)(R:Α)(ς:Β),G D\(refs y i)/\Bks K a G n Z dx lk dd kd M R ς (m+i)/\ym3 n kd R g/\(∀j,j<i->(∃s,R j (ctx (M j) X N)=some s)/\AtS G (dd j) (ctx (M j) X N) (y j))/\
  (∀j c,j<n->ς j c->O j c\/H c=none)/\(∀c o,H c=some o->(∀j,j<n->¬O j c)->G c=some o)/\(∀c o,H c=some o->∃o',G c=some o'))
  #[λF=>0,f,O,ya,hB.same (y9 L),hA,λj d=>absurd d (cD j),λj c F z=>.inl z,λc o e F=>zx L e,λc o e=>#[o,zx L e]] (λi G F z=>?_) (λi x G hx hi z=>?_) (λG z=>?_)
 .let#[_,_,_,_,_,_,_,_,w,_]:=z;erw[SqL.of (w _ _ U a8)]
 .let#[y,R,ς,gD,r,gA,gS,Y,gF,gL]:=z;let#[J,l]:=u7 hx;let I:=gF _ _ hp np;let a5:=gF _ _ a6 aa;let ah:=(r.b i l).me;show Ŏ _ _ _ _ _ _ _ (some (V.ref (Z i))::za [0] [some (V.ref p)]) G _;ext;exists Z i,dx i,lk i,dd i,el,kd i,R i,ς i,m+i,M i,X,N,J,r.b i l,(),r.look i l,SqL.of a5,λq O2 G2 a4 hv a2 ag B2=>?_
  let nD:=r.nlst gD;have u:G2 D\(refs y i):=B2 _ _ gD (nD i l);erw[xk (n:=↑(refs Z n)) u (vi (by rw[vv];omega)) hi ?_];let M2:=r.move l (Nat.le_succ (m+i)) a4 a2 B2;let a7:=M2.nlst u;have S:∀c o,G2 c=some o->c≠D->upd G2 D (.lst (refs y i++[V.ref q])) c=some o:=λc o e W=>ye W e
  let M3:=M2.frame (O2:=λc=>c=D) (λc o e W=>S c o e W) (λj c d w z=>a7 j d (z ▸ w)) (λj d z=>by
   have:=(M2.b j d).me;rw[z,u]at this
   cases this) (λt xs e=>by
   rcases e with(e|⟨o,e⟩)|e
   .erw[.inl (.inl (S _ _ e (λz=>by rw[z,u]at e;cases e)))]
   .erw[.inl (.inr #[o,S _ _ e (λz=>by rw[z,u]at e;cases e)])]
   .erw[.inr e])
  have up:∀j,j<n->AtS G2 (dd j) (ctx (M j) X N) (if j=i then q else y j)->AtS (upd G2 D (.lst (refs y i++[V.ref q]))) (dd j) (ctx (M j) X N) (if j=i then q else y j):=λj d h =>
   h.told (M2.b j d) (λz=>a7 j d (by rwa[<- z,(M2.b j d).dO])) (λc o e W=>S c o e W)
  erw[λj=>if j=i then q else y j,_,_,?_,M3,gA.put i l _,λj d=>?_,λj c d w=>?_,λc o e no=>?_,λc o e=>?_]
  .rw[ya,x9,if_pos J]
   congr 3
   erw[xu λj d=>(if_neg ()).symm]
  .by_cases z:j=i
   .subst z;exists#[(R j (ctx (M j) X N)).getD (kd0 (kd j)),?_],up j l ?_
    .try dsimp only
     rw[if_pos J];unfold ę;rw[if_pos J]
    .rw[if_pos J];erw[hv]
   .have a1:j<n:=()
    let#[#[s',ab],ad]:=gS j ();erw[#[s',?_],up j a1 ?_]
    .try dsimp only
     rwa[if_neg z,ab]
    .rw[if_neg z];erw[ad.move r a1 l z B2]
  .try dsimp only at w
   by_cases z:j=i
   .subst z;rw[if_pos J]at w;rcases a2 c w with v|v
    .erw[Y j c d v]
    .refine .inr ?_
     cases e:H c with
     |none=>rfl
     |some o =>
      let#[o',w']:=gL c o e;rw[w']at v;cases v
   .rw[if_neg z]at w;erw[Y j c d w]
  .let hG:=gF c o e no
   have nc:¬ς i c:=λw=>by
    rcases Y i c l w with v|v
    .erw[no i l v]
    .rw[e]at v;cases v
   erw[S _ _ (B2 _ _ hG nc) (λz=>?_)];rw[z,L]at e;cases e
  .let#[o1,w1]:=gL c o e;have a3:c≠D:=λz=>by rw[z,L]at e;cases e
   by_cases w2:ς i c
   .let#[o2,a9,_]:=a4.own c (ag c w2);erw[o2,S _ _ a9 a3]
   .erw[o1,S _ _ (B2 _ _ w1 w2) a3]
 .let#[y,R,ς,gD,r,gA,gS,Y,gF,gL]:=z;rw[vv]at gD r gS;let I:=gF _ _ hp np;ext;have ac:D≠p:=λz=>by rw[z,hp]at L;cases L
  have BP:But p G (upd G p (.ins a.A3 dp (jo ⇑ll ⇑bl ⇑mp ⇑el (N:) ⇑D))):=But.upd
  have a0:∀i,i<n->¬ς i p:=λi hi w=>by
   rcases Y i p hi w with v|v
   .erw[np i hi v]
   .rw[hp]at v;cases v
  let M3:=r.frame (O2:=λc=>c=p) (λc o e W=>BP c o e W) (λj c d w z=>a0 j d (z ▸ w)) (λj d z=>by
   have:=(r.b j d).me;rw[z,I]at this;injection this with this;injection this with _ _ e
   erw[absurd (congrArg List.length e) (show ¬(6=2) by decide)]) (λt xs e=>by
   rcases e with(e|⟨o,e⟩)|e
   .erw[.inl (.inl (BP _ _ e (λz=>by rw[z,I]at e;cases e)))]
   .erw[.inl (.inr #[o,BP _ _ e (λz=>by rw[z,I]at e;cases e)])]
   .erw[.inr e])
  erw[k D y R ς _ ya (ye ac gD) L M3 gA (λj d=>#[(gS j d).1,(gS j d).2.told (r.b j d) (λz=>a0 j d (by rwa[<- z,(r.b j d).dO])) BP]) Y (λc o e nc no=>BP _ _ (gF c o e no) nc) λc o e=>?_];by_cases zc:c=p
  .rw[zc];erw[_,ya]
  .let#[o1,w1]:=gL c o e;erw[o1,BP _ _ w1 zc]
structure FA where
 dp:qa
 ll:qa
 bl:qa
 mp:qa
 mx:qa
 ml:qa
 el:qa
 pl:qa
 n:Nat
 bk:Λ
 dx:Λ
 lk:Λ
 dd:Λ
 sl:Λ
 kd:Ν
 ps:Κ
structure FX where
 g:Nat->qj Int->Slt
 ws:Ο
 sg:Ο
 nd:Int
def FX.key(X:FX)(A:FA)(i:Nat):Ο:=ctx (A.ps i) X.sg X.nd
noncomputable def FX.cs(X:FX)(A:FA):Ο:=(List.range A.n).map λi=>(X.g i (X.key A i)).due
noncomputable def ndN(nd b:Int):Int:=if 0<nd then (if 256<=2*nd+b then 0 else 2*nd+b)else if b=1 then 1 else nd
noncomputable def sgN(sg:Ο)(nd b:Int):Ο:=if 0<nd then (if 256<=2*nd+b then sg++[2*nd+b-256]else sg)else if b=1 then sg else []
def FX.see(X:FX)(A:FA)(b:Int):FX:={ g:=λi k=>if k=X.key A i then (X.g i k).see b else X.g i k,ws:=lrn X.ws (X.cs A) b,sg:=sgN X.sg X.nd b,nd:=ndN X.nd b}
structure zr(K:xy)(a:Ads)(H:Hp)(p:qa)(A:FA)(X:FX)(f:Α)(O:Β)(m:Nat):Prop where
 me:H p∩a.A3 A.dp (jo ⇑A.ll ⇑A.bl ⇑A.mp ⇑A.el (X.nd:) ⇑A.pl)
 bl:H A.bl\(refs A.bk A.n)
 el:H A.el\↥X.sg
 mx:yih a A.mp A.mx A.ml X.ws H
 wok:WOk A.n X.ws
 pl:H A.pl\(refs A.sl A.n)
 B:Bks K a H A.n A.bk A.dx A.lk A.dd A.kd A.ps f O m
 ag:ym3 A.n A.kd f X.g
 at':∀j,j<A.n->(∃s,f j (X.key A j)=some s)/\AtS H (A.dd j) (X.key A j) (A.sl j)
 np:∀i,i<A.n->¬O i p
 nm:∀i,i<A.n->¬O i A.mp
 n1:1<=A.n
 n6:A.n<=6
theorem zr.same{H H':Hp}{p:qa}{A:FA}{X:FX}{f:Α}{m:Nat}(h:zr K a H p A X f O m)(S:y7 H H'):zr K a H' p A X f O m :=
 #[S _ _ h.me,S _ _ h.bl,S _ _ h.el,h.mx.same S,h.wok,S _ _ h.pl,h.B.same S,h.ag,λj c=>#[(h.at' j c).1,λi e=>by
  let#[g,k,d,_]:=(h.B.b j c).tb;rw[S _ _ d]at e;cases e;erw[(h.at' j c).2 _ d]],h.np,h.nm,h.n1,h.n6]
theorem zr.slot{H:Hp}{p:qa}{A:FA}{X:FX}{f:Α}{m:Nat}(h:zr K a H p A X f O m)(hj:j<A.n):
  f j (X.key A j)=some (X.g j (X.key A j))/\(∃dq,H (A.sl j)=some (oS a dq (X.g j (X.key A j))))/\(X.g j (X.key A j)).ok/\O j (A.sl j):=by let#[#[s,c],d]:=h.at' j hj;let e:=h.ag j hj (X.key A j);rw[c]at e;have e:s=X.g j (X.key A j):=e;rw[<- e];let#[dq,l,i,o,k]:=(h.B.b j hj).slot c d;erw[c,#[dq,l],i,k]
def zr.cok{H:Hp}{p:qa}{A:FA}{X:FX}{f:Α}{m:Nat}(h:zr K a H p A X f O m):COk A.n (X.cs A):=by
 exists by unfold FX.cs;rw[bL,cS],λc d=>?_,λc d=>?_
 .let#[j,b,J]:=bW.mp d;erw[(ygr (h.slot (c8.mp b)).2.2.1).1]
 .let#[j,b,J]:=bW.mp d;erw[(ygr (h.slot (c8.mp b)).2.2.1).2]
def LkG.at'{H:Hp}{lk tp:qa}{kd:Fin 3}{ps:Ο}(h:LkG H ⇑lk kd tp ps):jr K H lk (.str (kdS kd)) ps:=by
 let#[c,e,f,d,a]:=h;cases e;let a:=a;unfold ux at a;rw[cB,cB,List.all_eq_true]at a;erw[tp,SqT.of f,SqT.of d,λp b=>?_,by have:=of_decide_eq_true a.1.1;rw[bL]at this;erw[this]]
 let w:=a.1.2 (p:) (bW.mpr #[p,b,J]);have w:(decide (1<=p) && decide (p<=8))=true:=w;rw[cB]at w;erw[of_decide_eq_true w.1,of_decide_eq_true w.2]
def Bks.snoc{H:Hp}{n m:Nat}{bk dx lk dd:Λ}{kd:Ν}{ps:Κ}{f:Α}(h:Bks K a H n bk dx lk dd kd ps f O m)
  (hl:jr K H (lk n) (.str (kdS (kd n))) (ps n)) {q dq d:qa} {f':qj Int->ql Slt} {O':Μ} (hb:ì a H q dq (lk n) d (kd n) f' O' m) (dj:∀j c,j<n->O j c->¬O' c) (n1:∀j,j<n->¬O j q) (n2:∀j,j<n->¬O' (bk j)):
  Bks K a H (n+1) (upN bk n q) (upN dx n dq) lk (upN dd n d) kd ps (upN f n f') (upN O n O') m:=by
 erw[λi p=>?_,λi p=>?_,λi j c p s r o l=>?_,λi j p s e=>?_]
 .by_cases z:i=n
  .rw[z];erw[hl]
  .erw[h.look i ()]
 .by_cases z:i=n
  .subst z;rwa[wx,wx,wx,wx,wx,hb]
  .have g:i<n:=()
   rwa[wu g,wu g,wu g,wu g,wu g,h.b i g]
 .by_cases z:i=n
  .subst z;have k:j<i:=()
   rw[wx]at o;rw[wu k]at l;erw[dj j c k l o]
  .have g:i<n:=()
   rw[wu g]at o;by_cases w:j=n
   .subst w;rw[wx]at l;erw[dj i c g o l]
   .have k:j<n:=()
    rw[wu k]at l;erw[h.dj i j c g k r o l]
 .by_cases z:i=n
  .subst z;rw[wx]at e;by_cases w:j=i
   .subst w;rw[wx]at e;erw[hb.np e]
   .have k:j<i:=()
    rw[wu k]at e;erw[n2 j k e]
  .have g:i<n:=()
   rw[wu g]at e;by_cases w:j=n
   .subst w;rw[wx]at e;erw[n1 i g e]
   .have k:j<n:=()
    rw[wu k]at e;erw[h.nb i j g k e]
def yp2(K:xy)(a:Ads)(H G:Hp)(n:Nat)(bk dx lk dd:Λ)(kd:Ν)(ps:Κ)(f:Α)(O:Β):Prop :=
 Bks K a G n bk dx lk dd kd ps f O 0/\(∀j k,j<n->f j k=none)/\(∀j c,j<n->O j c->H c=none)/\(∀j,j<n->H (bk j)=none)
def yp2.zero{H G:Hp}{bk dx lk dd:Λ}{kd:Ν}{ps:Κ}{f:Α}:yp2 K a H G 0 bk dx lk dd kd ps f O :=
 #[#[λi b=>absurd b (cD i),λi b=>absurd b (cD i),λi Z Z b=>absurd b (cD i),λi Z b=>absurd b (cD i)],λi Z b=>absurd b (cD i),λi Z b=>absurd b (cD i),λi b=>absurd b (cD i)]
def yp2.next{H G G2:Hp}{n:Nat}{bk dx lk dd:Λ}{kd:Ν}{ps:Κ}{f:Α}(h:yp2 K a H G n bk dx lk dd kd ps f O)(hl:jr K G (lk n) (.str (kdS (kd n))) (ps n))
  (S:y7 H G) {q dq d D:qa} {xs ys:Τ} (hq:G q=none) (hd:G d=none) (S2:y7 G G2) (hb:ì a G2 q dq (lk n) d (kd n) (λZ=>none) (λb=>b=d) 0) (hD:G D\xs):
  yp2 K a H (upd G2 D (.lst ys)) (n+1) (upN bk n q) (upN dx n dq) lk (upN dd n d) kd ps (upN f n λZ=>none) (upN O n λb=>b=d):=by
 let#[s,v,u,x]:=h;have l:∀j c,j<n->O j c->∃o,G c=some o:=λj c g w=>let ⟨o,m,_⟩:=(s.b j g).own c w;#[o,m]
 let M:=(s.same S2).snoc (hl.same S2) hb (λj c g w z=>by
  let#[o,m]:=l j c g w;rw[show c=d from z,hd]at m
  cases m) (λj g w=>by
  let#[o,m]:=l j q g w;rw[hq]at m
  cases m) (λj g z=>by
  let e:=(s.b j g).me;rw[show bk j=d from z,hd]at e;cases e)
 let i:=S2 _ _ hD;let y:=M.nlst i;have p:∀c o,G2 c=some o->c≠D->upd G2 D (.lst ys) c=some o:=λc o e r=>ye r e;erw[M.frame (O2:=λc=>c=D) (λc o e r=>p c o e r) (λj c g w z=>y j g (z ▸ w)) (λj g z=>?_) (λt xs e=>?_),λj k g=>?_,λj c g w=>?_,λj g=>?_]
 .let e:=(M.b j g).me;rw[z,i]at e;cases e
 .rcases e with(e|⟨o,e⟩)|e
  .erw[.inl (.inl (p _ _ e (λz=>by rw[z,i]at e;cases e)))]
  .erw[.inl (.inr #[o,p _ _ e (λz=>by rw[z,i]at e;cases e)])]
  .erw[.inr e]
 .by_cases z:j=n
  .rw[z,wx]
  .rw[wu ()];erw[v j k ()]
 .by_cases z:j=n
  .rw[z,wx]at w;rwa[show c=d from w,S.free hd]
  .rw[wu ()]at w;erw[u j c () w]
 .by_cases z:j=n
  .rw[z,wx];erw[S.free hq]
  .rw[wu ()];erw[x j ()]
def yp2.ag{H G:Hp}{n:Nat}{bk dx lk dd:Λ}{kd:Ν}{ps:Κ}{f:Α}(h:yp2 K a H G n bk dx lk dd kd ps f O):ym3 n kd f (λi Z=>kd0 (kd i)):=λi b k=>by
 rw[h.2.1 i k b];rfl
def FX0(n:Nat)(kd:Ν):FX:={ g:=λi Z=>kd0 (kd i),ws:=List.replicate n 1099511627776,sg:=[],nd:=0}
def yn1{g:Λ}{n:Nat}{x:V}(h:x∈refs g n):∃i,i<n/\x=.ref (g i):=by unfold refs at h;let#[i,a,e]:=bW.mp h;erw[i,c8.mp a,e.symm]
def xz.lks{H:Hp}{n:Nat}{lk:Λ}{kd:Ν}{ps:Κ}(h:xz H n lk kd tp ps):Lks H (refs lk n):=λy b=>by
 let#[i,a,J]:=yn1 b;erw[_,_,_,h i a]
theorem zr.frame{H H':Hp}{p:qa}{A:FA}{X:FX}{f:Α}{m:Nat}(h:zr K a H p A X f O m){O2:Μ}(B:yp3 O2 H H')(hp:¬O2 p)(hm:¬O2 A.mp)(hb:∀i,i<A.n->¬O2 (A.bk i))
  (dj:∀i c,i<A.n->O i c->¬O2 c) (hl:∀l xs,(l=A.bl\/l=A.el\/l=A.ml\/l=A.pl)->H l\xs->H' l\xs) (ht:∀t xs,SqT K H t xs->SqT K H' t xs):zr K a H' p A X f O m :=
 #[B _ _ h.me hp,hl _ _ (.inl J) h.bl,hl _ _ (.inr (.inl J)) h.el,#[B _ _ h.mx.o hm,hl _ _ (.inr (.inr (.inl J))) h.mx.l],h.wok,hl _ _ (.inr (.inr (.inr J))) h.pl,h.B.frame B (λi c r w=>dj i c r w) hb ht,h.ag,λj d=>#[(h.at' j d).1,λq e=>by
  let#[k,s,g,_]:=(h.B.b j d).tb;rw[B _ _ g (dj j _ d (h.B.b j d).dO)]at e;cases e;erw[(h.at' j d).2 _ g]],h.np,h.nm,h.n1,h.n6]
def ywk{G:Hp}{t c:qa}{xs ys zs:Τ}(hc:G c\ys)(e:SqT K G t xs):SqT K (upd G c (.lst zs)) t xs:=by
 rcases e with(e|⟨o,e⟩)|e
 .erw[.inl (.inl (ye (xf e hc (by intro z;cases z)) e))]
 .erw[.inl (.inr #[o,ye (xf e hc (by intro z;cases z)) e])]
 .erw[.inr e]
def zr.app{H:Hp}{p R:qa}{A:FA}{X:FX}{f:Α}{m:Nat}{xs ys:Τ}(h:zr K a H p A X f O m)(hR:H R\xs)(hq:∀q,(q=A.bl\/q=A.el\/q=A.ml\/q=A.pl)->q≠R):zr K a (upd H R (.lst ys)) p A X f O m:=by
 erw[h.frame (O2:=λc=>c=R) (λc o e g=>ye g e) (λz=>?_) (λz=>?_) (λi d z=>?_) (λi c d w z=>h.B.nlst hR i d (z ▸ w)) (λl xs w e=>ye (hq l w) e) (λt xs e=>ywk hR e)]
 .let e:=h.me;rw[z,hR]at e;cases e
 .let e:=h.mx.o;rw[z,hR]at e;cases e
 .let e:=(h.B.b i d).me;rw[z,hR]at e;cases e
def vf8(n:Nat)(n1:1<=n)(n6:n<=6):WOk n (List.replicate n 1099511627776):=by refine#[List.length_replicate,λw h=>?_,λw h=>?_]<;>(rw[List.eq_of_mem_replicate h];decide)
structure vl0(K:xy)(a:Ads)(H H':Hp)(p:qa)(n:Nat)(lk:Λ)(kd:Ν)(ps:Κ)(A:FA)(f:Α)(O:Β):Prop where
 ft:zr K a H' p A (FX0 n kd) f O 6
 en:A.n=n
 elk:A.lk=lk
 ekd:A.kd=kd
 eps:A.ps=ps
 oO:∀j c,j<n->O j c->H c=none
 oB:∀j,j<n->H (A.bk j)=none
 oM:H A.mp=none
 oL:∀l,(l=A.bl\/l=A.el\/l=A.ml\/l=A.pl)->H l=none
 lo:H' A.ll\(refs lk n)/\A.ll≠A.el/\H A.ll=none
inductive yfi(K:xy)(a:Ads)(vs:Τ)(H:Hp)(Q:VK)(E:XK):Prop
 | mk(p dp:qa)(x:V)(_:vs=[.ref p,x])(_:H p∩a.A3 dp [])(_:((vkm K H x/\∀H',y7 H H'->E (.ref a.Fa) none H')\/∃(l:qa)(n:Nat)(lk:Λ)(kd:Ν)(tp:Λ)(ps:Κ),x=.ref l/\H l\(refs lk n)/\1<=n/\n<=6/\xz H n lk kd tp ps/\
  ∀A f O H',vl0 K a H H' p n lk kd ps A f O->But p H H'->Q .non H'))
def ylq:(Df.e P w mg Γ) T.Ho 6 (yfi K a):=by
 exists Ho,hr,["self","looks"];let#[p,f,x,J,hp,h]:=h;erw[yh (y8 (pv 0) (uk (yri T) hr.m T.L8 yo (pav 1)) J) ?_,<-yh (y8 (pv 0) (vx (js:=[]) (ys:=[]) J (we pfs) (λC s2 H2 fp=>(jl T.Md (yp8 T) hr.m J T.Mc T.L9.B .nil vo (pav 0))) J J (hyc:=yw) (hrel:=yw)) J) ?_,<-yh (y8 (pv 0) (jl T.Uw (ytl T) hr.m J T.Uv T.Lc.B .nil vo (pa1 (pcB yp T.A9 (pa1 pfs)))) J) ?_,<-yh (y8 (pv 0) (wk ub) J) ?_,<-yh (y8 (pv 0) yg J) ?_,<-yh (y8 (pv 0) (wk ub) J) ?_];exists 2,0,yc (yv (vj (pv 0) T.Ad T.Dp.m (yl2 T) hr.m T.Dp.B .nil vo));rcases h with⟨hb,k⟩|⟨l,n,lk,kd,tp,ps,rfl,hl,n1,n6,am,k⟩
 .erw[vdu hb k]
 .erw[vgq hl (by rwa[vv,n1]) (by rwa[vv,n6]) am.lks λg H1 ak aF S1=>?_];let aX:=S1 _ _ hp;let aU:=am.same S1;ext;have U:upd H1 p (HO.ins a.A3 f ([("looks",V.ref g)]:Ι)) p=some (HO.ins a.A3 f ([("looks",V.ref g)]:Ι)):=ya;have BA:But p H1 (upd H1 p (HO.ins a.A3 f ([("looks",V.ref g)]:Ι))):=But.upd;have a2:g≠p:=(yb hp ak).symm;have I:upd H1 p (HO.ins a.A3 f ([("looks",V.ref g)]:Ι)) g\(refs lk n):=ye a2 aF;generalize upd H1 p (HO.ins a.A3 f ([("looks",V.ref g)]:Ι))=HA at U BA I⊢;have a4:But p H HA:=(But.of S1).trans BA
  have aM:xz HA n lk kd tp ps:=λi hi=>by
   let#[q,e,h1,h2,h3]:=am i hi;erw[q,e,a4 _ _ h1 (xf h1 hp (by intro z;cases z)),a4 _ _ h2 (xf h2 hp (by intro z;cases z)),h3]
  erw[p,_,f,_,_,J,U,T.Ad,T.Bk,J,?_,<-g,J,#[_,SqL.of I],λu Y=>?_];refine zu (K:=K) (xs:=refs lk n) (λi G=>∃(bk dx dd:Λ)(f2:Α)(O2:Β),G u\(refs bk i)/\yp2 K a HA G i bk dx lk dd kd ps f2 O2/\y7 HA G)
   #[λF=>0,λF=>0,λF=>0,λF F=>none,λF F=>False,ya,yp2.zero,y9 Y] (λi G F z=>?_) (λi y G hy hi z=>?_) (λG z=>?_)
  .let#[_,_,_,_,_,_,_,SG]:=z;erw[SqL.of (SG _ _ I)]
  .let#[bk,dx,dd,f2,O2,aa,gN,SG]:=z;let#[J,aS]:=u7 hy;ext;intro q dq nq aT aY;have SQ:y7 G (upd (upd G dq (.own q)) q (.ins a.Ag dq [])):=λb o e=>by rw[yk (yb e nq),yk (yb e aT)];exact e
   erw[q,dq,lk i,kd i,J,ya,λd G2 aQ aL B2=>#[J,?_]];have aq:y7 G G2:=λb o e=>B2 b o (SQ b o e) (yb e nq);erw[xk (n:=↑(refs lk n)) (aq _ _ aa) (vi (by rw[vv];omega)) hi ?_,<-_,_,_,_,_,?_,gN.next ((aM i aS).same SG).at' SG nq (SQ.free aQ) aq aL aa,λb o e=>ye (yb e Y) (aq _ _ (SG b o e))];rw[ya,x9,wx]
   congr 3
   erw[xu λj r=>(wu r).symm]
  let#[bk,dx,dd,f2,O2,aa,gN,SG]:=z;rw[vv]at aa gN;let au:=SG _ _ U;ext;have ax:∀c o,HA c=some o->c≠p->upd G p (HO.ins a.A3 f ([("looks",V.ref g),("books",V.ref u)]:Ι)) c=some o:=λc o e ς=>ye ς (SG _ _ e);have a5:upd G p (HO.ins a.A3 f ([("looks",V.ref g),("books",V.ref u)]:Ι)) p=some (HO.ins a.A3 f ([("looks",V.ref g),("books",V.ref u)]:Ι)):=ya;have ae:u≠p:=(yb U Y).symm;have ai:upd G p (HO.ins a.A3 f ([("looks",V.ref g),("books",V.ref u)]:Ι)) u\(refs bk n):=ye ae aa;have BP:∀{fs:Ι},But p G (upd G p (HO.ins a.A3 f fs)):=But.upd
  have ab:∀j,j<n->¬O2 j p:=λj r w=>by
   let e:=gN.2.2.1 j p r w;rw[U]at e;cases e
  have aC:∀{G':Hp},But p G G'->Bks K a G' n bk dx lk dd kd ps f2 O2 0:=λ{G'}B=>gN.1.frame (O2:=λc=>c=p) (λc o e ς=>B c o e ς) (λj c r w z=>ab j r (z ▸ w)) (λj r z=>by
   let e:=gN.2.2.2 j r;rw[z,U]at e
   cases e) (λt xs e=>by
   rcases e with(e|⟨o,e⟩)|e
   .erw[.inl (.inl (B _ _ e (λz=>by rw[z,au]at e;cases e)))]
   .erw[.inl (.inr #[o,B _ _ e (λz=>by rw[z,au]at e;cases e)])]
   .erw[.inr e])
  have BB:But p G (upd G p (HO.ins a.A3 f ([("looks",V.ref g),("books",V.ref u)]:Ι))):=But.upd;generalize upd G p (HO.ins a.A3 f ([("looks",V.ref g),("books",V.ref u)]:Ι))=HB at ax a5 ai BB⊢;erw[p,_,f,_,_,J,a5,T.Ad,T.Bk,J,?_,<-uz (SqL.of (ax _ _ I a2)) ?_];rw[vv];ext;intro D mx a8 aG aZ;have SM:y7 HB (upd (upd HB mx (.own D)) D (.ins a.Ca mx [])):=λb o e=>by rwa[yk (yb e a8),yk (yb e aG),e]
  erw[D,mx,n,J,n1,n6,ya,λml HC aE MC BC=>#[J,?_]];have SC:y7 HB HC:=λb o e=>BC b o (SM b o e) (yb e a8);let aV:=SC _ _ a5;let aB:=SC _ _ ai;have a6:HB ml=none:=SM.free aE;have O:D≠p:=(yb a5 a8).symm;have a0:ml≠p:=(yb a5 a6).symm;ext;exists (by walk_at "len"),λM Z=>?_
  have W:M≠p:=λz=>by rw[z,ya]at Z;cases Z
  have S:HC M=none:=by rw[yk W]at Z;erw[Z]
  have aN:upd (upd HC p (HO.ins a.A3 f ([("looks",V.ref g),("books",V.ref u),("mixer",V.ref D)]:Ι))) M (.lst []) p=some (HO.ins a.A3 f ([("looks",V.ref g),("books",V.ref u),("mixer",V.ref D)]:Ι)):=ye W.symm ya;have ah:upd (upd HC p (HO.ins a.A3 f ([("looks",V.ref g),("books",V.ref u),("mixer",V.ref D)]:Ι))) M (.lst []) M\[]:=ya;have BD:But p HC (upd (upd HC p (HO.ins a.A3 f ([("looks",V.ref g),("books",V.ref u),("mixer",V.ref D)]:Ι))) M (.lst [])):=λb o e ς=>ye (yb e S) (ye ς e);generalize upd (upd HC p (HO.ins a.A3 f ([("looks",V.ref g),("books",V.ref u),("mixer",V.ref D)]:Ι))) M (.lst [])=HD at aN ah BD⊢;ext;exists (by walk_at "len"),λL X=>?_
  have ar:L≠p:=λz=>by rw[z,ya]at X;cases X
  have al:HD L=none:=by rw[yk ar,yk ar]at X;erw[X]
  have aP:upd (upd (upd HD p (HO.ins a.A3 f ([("looks",V.ref g),("books",V.ref u),("mixer",V.ref D),("ended",V.ref M)]:Ι))) p (HO.ins a.A3 f ([("looks",V.ref g),("books",V.ref u),("mixer",V.ref D),("ended",V.ref M),("place",V.int 0)]:Ι))) L (.lst []) p=some (HO.ins a.A3 f ([("looks",V.ref g),("books",V.ref u),("mixer",V.ref D),("ended",V.ref M),("place",V.int 0)]:Ι)):=ye ar.symm ya;have BE:But p HD (upd (upd (upd HD p (HO.ins a.A3 f ([("looks",V.ref g),("books",V.ref u),("mixer",V.ref D),("ended",V.ref M)]:Ι))) p (HO.ins a.A3 f ([("looks",V.ref g),("books",V.ref u),("mixer",V.ref D),("ended",V.ref M),("place",V.int 0)]:Ι))) L (.lst [])):=λb o e ς=>ye (yb e al) (ye ς (ye ς e));generalize upd (upd (upd HD p (HO.ins a.A3 f ([("looks",V.ref g),("books",V.ref u),("mixer",V.ref D),("ended",V.ref M)]:Ι))) p (HO.ins a.A3 f ([("looks",V.ref g),("books",V.ref u),("mixer",V.ref D),("ended",V.ref M),("place",V.int 0)]:Ι))) L (.lst [])=HE at aP BE⊢;ext;have BF:But p HE (upd HE p (.ins a.A3 f (jo ⇑g ⇑u ⇑D ⇑M (0:) ⇑L))):=But.upd;have a9:upd HE p (.ins a.A3 f (jo ⇑g ⇑u ⇑D ⇑M (0:) ⇑L)) p∩a.A3 f (jo ⇑g ⇑u ⇑D ⇑M (0:) ⇑L):=ya;generalize upd HE p (.ins a.A3 f (jo ⇑g ⇑u ⇑D ⇑M (0:) ⇑L))=HF at a9 BF⊢;have ac:But p HC HF:=(BD.trans BE).trans BF;have a1:But p G HF:=λb o e ς=>ac b o (SC _ _ (BB b o e ς)) ς;let aD:=ac _ _ MC.o O;let aA:=ac _ _ MC.l a0;let as:=ac _ _ aB ae;let ap:=BF _ _ (BE _ _ ah W) W;erw[p,f,g,u,D,M,L,0,[],n,0,bk,dx,lk,dd,kd,ps,f2,O2,λi F=>kd0 (kd i),J,a9,as,ap,aC a1,gN.ag,n6,(),ab,λpl sl f' O' H' aI aH aj B' aK aJ ad F' L'=>?_]
  have a3:∀{c:qa},c≠p->HF c=none->G c=none:=λ{c}ς h=>by
   cases e:G c with
   |none=>rfl
   |some o=>rw[a1 _ _ e ς]at h;cases h
  have ao:∀j c,j<n->O2 j c->∃o,G c=some o:=λj c r w=>let ⟨o,ho,_⟩:=(gN.1.b j r).own c w;#[o,ho]
  have nO:∀{c:qa}{o:HO},HF c=some o->yyb o=false->∀j,j<n->¬O2 j c:=λ{c o}e hi j r w=>by
   let#[o',az,av]:=((aC a1).b j r).own c w;rw[e]at az;cases az;rw[hi]at av;cases av
  have ay:∀j,j<n->¬O2 j D:=λj r w=>by
   let#[o,ho]:=ao j D r w;let e:=BB _ _ ho O;rw[a8]at e;cases e
  have N:∀{c:qa},c≠p->HA c=none->H c=none:=λ{c}ς h=>by
   cases e:H c with
   |none=>rfl
   |some o=>rw[a4 _ _ e ς]at h;cases h
  have R:∀{c:qa},G c=none->HA c=none:=λ{c}h=>SG.free h
  have a7:∀{c:qa},c≠p->HB c=none->G c=none:=λ{c}ς h=>by
   cases e:G c with
   |none=>rfl
   |some o=>rw[BB _ _ e ς]at h;cases h
  have aw:∀{c:qa},HC c=none->HB c=none:=λ{c}h=>SC.free h;erw[k #[f,g,u,D,mx,ml,M,pl,n,bk,dx,lk,dd,sl,kd,ps] f' O' H' #[#[aI,F' _ _ as ae (nO as J),F' _ _ ap W (nO ap J),#[F' _ _ aD O ay,F' _ _ aA a0 (nO aA J)],?_,aH,#[B'.look,λi hi=>(B'.b i hi).up (),B'.dj,B'.nb],aK,aJ,λj r w=>?_,λj r w=>?_,n1,n6],J,J,J,J,λj c r w=>?_,λj r=>?_,?_,λc hc=>?_,F' _ _ (a1 _ _ (SG _ _ I) a2) a2 (nO (a1 _ _ (SG _ _ I) a2) J),yb (SC _ _ (BB _ _ (SG _ _ I) a2)) S,ak] ?_]
  .erw[vf8 n n1 n6]
  .rcases ad j p r w with v|v
   .erw[ab j r v]
   .rw[a9]at v;cases v
  .rcases ad j D r w with v|v
   .erw[ay j r v]
   .rw[aD]at v;cases v
  .have an:c≠p:=λz=>by
    rw[z]at w;rcases ad j p r w with v|v
    .erw[ab j r v]
    .rw[a9]at v;cases v
   rcases ad j c r w with v|v
   .erw[N an (gN.2.2.1 j c r v)]
   .erw[N an (R (a3 an v))]
  .have aO:bk j≠p:=λz=>by
    let e:=gN.2.2.2 j r;rw[z,U]at e;cases e
   erw[N aO (gN.2.2.2 j r)]
  .erw[N O (R (a7 O a8))]
  .rcases hc with z|z|z|z
   .rw[z];erw[N ae Y]
   .rw[z];erw[N W (R (a7 W (aw S)))]
   .rw[z];erw[N a0 (R (a7 a0 a6))]
   .rw[z];have af:pl≠p:=(yb a9 aj).symm;erw[N af (R (a3 af aj))]
  .intro c o e ς;erw[F' c o (a1 _ _ (SG _ _ (a4 c o e ς)) ς) ς λj r w=>?_];let e2:=gN.2.2.1 j c r w;rw[a4 c o e ς]at e2;cases e2
theorem yen:∀(ts:Ο)(q j:Nat)(s:Int),ts[q]?=some s->j<=8->(dec ts)[9*q+j]?=(1::b8 s)[j]?
 |[],_,_,_,h,_=>by simp at h
 |t::r,0,j,s,h,hj=>by
  have e:t=s:=by simpa using h
  subst e;show ((1::b8 t)++dec r)[9*0+j]?=_;rw[Nat.mul_zero,Nat.zero_add,dA (by rw[cn,ys0];omega)]
 |t::r,q+1,j,s,h,hj=>by
  have b:r[q]?=some s:=by simpa using h
  show ((1::b8 t)++dec r)[9*(q+1)+j]?=_;have a:↑(1::b8 t)=9:=rfl;rw[dz (by rw[a];omega),a,show 9*(q+1)+j-9=9*q+j by omega];erw[yen r q j s b hj]
def yvr(ts:Ο):(dec ts)[9*↑ts]?=some 0:=by rw[ypw,dz (by rwa[Å,bT _]),Å,Nat.sub_self];rfl
def ybi(ts:Ο)(k:Nat)(sg:Ο)(nd:Int):Prop:=∃q j:Nat,k=9*q+j/\j<=8/\sg=ts.take q/\((j=0/\nd=0/\q<=↑ts)\/(1<=j/\∃s,ts[q]?=some s/\nd=(256+s)/2^(9-j)))
def n8:∀(s:Fin 256)(j:Fin 8),0<(256+(s.val:Int))/2^(8-j.val)/\(256+(s.val:Int))/2^(8-j.val)<256/\((j.val=7/\2*((256+(s.val:Int))/2^(8-j.val))+(b8 s.val).getD j.val 0=256+s.val)\/(j.val<7/\2*((256+(s.val:Int))/2^(8-j.val))+(b8 s.val).getD j.val 0<256/\2*((256+(s.val:Int))/2^(8-j.val))+(b8 s.val).getD j.val 0=(256+(s.val:Int))/2^(7-j.val))):=(by right)
def nd9{s:Int}(h:0<=s/\s<=255)(h1:1<=j)(hj:j<=8):0<(256+s)/2^(9-j)/\(256+s)/2^(9-j)<256:=by let#[n,J]:=Int.eq_ofNat_of_zero_le h.1;let#[i,J]:=Nat.exists_eq_add_of_le' h1;rw[show 9-(i+1)=8-i by omega];let k:=n8 #[n,()] #[i,()];erw[k.1,k.2.1]
def ybi.zero(ts:Ο):ybi ts 0 [] 0:=#[0,0,J,(),(by simp),.inl #[J,J,cK _]]
theorem ybi.nd{k:Nat}{sg:Ο}{nd:Int}(h:ybi ts k sg nd)(hs:Sgs ts):0<=nd/\nd<256:=by
 let#[q,j,_,e,_,h]:=h;rcases h with⟨_,h,_⟩|⟨d,s,c,h⟩
 .omega
 .let#[a,b]:=nd9 (hs s (ck c)) d e;rwa[h,#[Int.le_of_lt a,b]]
def ybi.len{k:Nat}{sg:Ο}{nd:Int}(h:ybi ts k sg nd):↑sg<=↑ts:=by let#[q,j,_,_,a,_]:=h;rw[a,cz];omega
def ybi.next{k:Nat}{sg:Ο}{nd b:Int}(h:ybi ts k sg nd)(hs:Sgs ts)(hb:(dec ts)[k]?=some b):
  (k<9*↑ts/\ybi ts (k+1) (sgN sg nd b) (ndN nd b))\/(k=9*↑ts/\sgN sg nd b=[]/\ndN nd b=0):=by
 let#[q,j,p,u,c,h]:=h;rcases h with⟨w,g,z⟩|⟨v,s,a,g⟩
 .subst w;rcases Nat.lt_or_ge q ↑ts with d|d
  .erw[.inl #[(),?_]];let e:=yen ts q 0 ts[q] (bP d) ();rw[<- p,hb]at e;have e:b=1:=by simpa using e
   have:=hs ts[q] (cE d);unfold sgN ndN;rwa[if_neg (),if_pos e,if_neg (),if_pos e,#[q,1,(),(),c,.inr #[(),ts[q],bP d,?_]]]
   simp only[Nat.reduceSub,Int.reducePow];omega
  .have o:q=↑ts:=()
   let e:=yvr ts;rw[<- o,show 9*q=k by omega,hb]at e;have e:b=0:=by simpa using e
   erw[.inr #[(),?_,?_]]
   .unfold sgN;rw[if_neg (),if_neg ()]
   .unfold ndN;rwa[if_neg (),if_neg (),g]
 .let f:=hs s (ck a);have d:q<↑ts:=(bY.mp a).1;let e:=yen ts q j s a u;rw[<- p,hb]at e;let#[i,J]:=Nat.exists_eq_add_of_le' v;have n:(b8 s)[i]?=some b:=by simpa using e.symm
  have n:(b8 s).getD i 0=b:=by
   rw[cL,n];rfl
  let#[m,J]:=Int.eq_ofNat_of_zero_le f.1;rw[show 9-(i+1)=8-i by omega]at g
  have k:0<nd/\nd<256/\((i=7/\2*nd+b=256+m)\/(i<7/\2*nd+b<256/\2*nd+b=(256+(m:Int))/2^(7-i))):=by
   rwa[g,<- n,n8 #[m,()] #[i,()]]
  clear hb e g n hs;erw[.inl #[(),?_]];unfold sgN ndN;rcases k with⟨l,y,⟨t,r⟩|⟨r,t,x⟩⟩
  .rw[if_pos l,if_pos (),if_pos l,if_pos ()];exists q+1,0,(),(),?_,.inl #[J,J,()]
   rw[c,show 2*nd+b-256=(m:Int) by omega,jq a]
  .rw[if_pos l,if_neg (),if_pos l,if_neg ()];erw[q,i+1+1,(),(),c,.inr #[(),m,a,by rw[show 9-(i+1+1)=7-i by omega];erw[x]]]
theorem zr.up{H:Hp}{p:qa}{A:FA}{X:FX}{f:Α}{m:Nat}(h:zr K a H p A X f O m)(hm:m<=m'):zr K a H p A X f O m' :=
 #[h.me,h.bl,h.el,h.mx,h.wok,h.pl,#[h.B.look,λi c=>(h.B.b i c).up hm,h.B.dj,h.B.nb],h.ag,h.at',h.np,h.nm,h.n1,h.n6]
structure Lw(K:xy)(a:Ads)(H:Hp)(p:qa)(A:FA)(X:FX)(f:Α)(O:Β)(m:Nat)(bk dx dd:Λ)(f2:Α)(O2:Β)(mp mx ml:qa)(ws:Ο):Prop where
 ft:zr K a H p A X f O m
 bs:Bks K a H A.n bk dx A.lk dd A.kd A.ps f2 O2 m
 mx:yih a mp mx ml ws H
 dj:∀i j c,i<A.n->j<A.n->O i c->¬O2 j c
 n1:∀i j,i<A.n->j<A.n->¬O i (bk j)
 n2:∀i j,i<A.n->j<A.n->¬O2 i (A.bk j)
 n3:∀i,i<A.n->¬O2 i p/\¬O2 i A.mp/\¬O2 i mp/\¬O i mp
 n4:mp≠A.mp
 n5:ml≠A.el
end
section
variable{H H':Hp}{p:qa}{A:FA}{X:FX}{f:Α}{m:Nat}{bk dx dd:Λ}{f2:Α}{mp mx ml:qa}{ws:Ο}
def zz{C d e q:qa}{fs gs:Ι}(hp:H p∩C d fs)(hq:H q∩D e gs)(hl:↑fs≠↑gs):p≠q:=λz=>by
 rw[z,hq]at hp;injection hp with hp;injection hp with _ _ e;erw[hl (congrArg List.length e).symm]
end
mutual
def KpA(B G:Hp)(e0 e:qa):Prop:=∀c o,B c=some o->yyb o=false->c≠e0->c≠e/\G c=some o
theorem KpA.lst{B G:Hp}{e0 e c:qa}{xs:Τ}(h:KpA B G e0 e)(hc:B c\xs)(ne:c≠e0):G c\xs:=(h c _ hc J ne).2
def TxE(ts:Ο)(k:Nat)(sg:Ο)(nd:Int):Prop:=(k<=9*↑ts/\ybi ts k sg nd)\/(k=9*↑ts+1/\sg=[]/\nd=0)
theorem TxE.next{k:Nat}{sg:Ο}{nd b:Int}(h:TxE ts k sg nd)(hs:Sgs ts)(hb:(dec ts)[k]?=some b):ybi ts k sg nd/\TxE ts (k+1) (sgN sg nd b) (ndN nd b):=by
 rcases h with⟨c,h⟩|⟨c,_⟩
 .erw[h,?_];rcases h.next hs hb with⟨e,a⟩|⟨e,a,d⟩
  .erw[.inl #[(),a]]
  .erw[.inr #[(),a,d]]
 .rw[c,cQ (by rwa[xp,bT _])]at hb;cases hb
#synth ∀(K:xy)(a:Ads),∀(p:qa)(A:FA)(X:FX)(f:Α)(O:Β)(m:Nat)(_:vs=[.ref p])(_:zr K a H p A X f O m)(_:∀r H',H r=none->H' r\↥(X.cs A)->y7 H H'->Q ⇑r H'),yd2
def yml:(Df.v P w mg Γ) T.Dq 2 (yd2 K a):=by
 exists Dq,["self"],o;let#[p,c,X,f,O,m,J,h,k]:=h;let L:=h.me;let M:=h.n6;exists 1,0,yc (yn (vx (js:=[]) (ys:=[]) J (we pfs) (λC ς r I=>(è (vj (pv 0) T.At T.Ko.m (van T) o.m T.Ko.B .nil vo) (è (vj (pv 0) T.Bb T.Ks.m (yzy T) o.m T.Ks.B .nil vo) (vj (pv 0) T.Bg T.Kw.m (vdp T) o.m T.Kw.B .nil vo)))) J J (hyc:=yw) (hrel:=yw)));erw[c.pl,J,#[_,SqL.of h.pl],λD e=>?_,<-zu (K:=K) (xs:=refs c.sl c.n) (Mp H D (λi=>V.int (X.g i (X.key c i)).due)) (Mp.zero e) (λZ Z Z q=>q.1.seq (SqL.of h.pl)) (λi y r x G q=>?_) (λr q=>?_)]
 .let#[d,b]:=q;let#[J,l]:=u7 x;let#[_,#[R,z],v,_]:=h.slot l;erw[yio (λN h=>yx5 J h) (d _ _ z) v ?_,<-Mp.doneR e (vi (by rw[vv];omega)) G d b J]
 .let#[d,b]:=q;rw[vv]at b;erw[k D _ e ?_ d];rw[b];unfold FX.cs;rw[cM];rfl
#synth ∀(K:xy)(a:Ads),∀(p:qa)(A:FA)(X:FX)(f:Α)(O:Β)(m:Nat)(_:vs=[.ref p])(_:zr K a H p A X f O m)(_:∀H',y7 H H'->Q ((ym0 X.ws (X.cs A)):) H'),yg5
def yme:(Df.v P w mg Γ) T.Dr 3 (yg5 K a):=by exists Dr,["self"],g;let#[p,b,X,f,O,m,J,h,k]:=h;let u:=h.me;let t:=h.mx.o;exists 1,0,yc (yn (wv pfs T.Ed T.Ld.m (vcb T) g.m T.Ld.B .nil vo (pa1 (vj (pv 0) T.Ad T.Dq.m (yml T) g.m T.Dq.B .nil vo))));erw[p,b,X,f,O,m,J,h,λr x q c e=>?_,←b.mp,b.mx,b.ml,r,X.ws,X.cs b,b.n,J,h.n1,h.n6,h.wok,h.cok,h.mx.same e,SqL.of c,λv i=>k _ (e.trans i)]
#synth ∀(a:Ads),∀(p dp ll bl mp el pl:qa)(nd b:Int)(sg:Ο)(_:vs=[.ref p,.int b])(_:H p∩a.A3 dp (jo ⇑ll ⇑bl ⇑mp ⇑el (nd:) ⇑pl))(_:H el\↥sg)(_:↑sg<=100000)(_:0<nd)(_:∀H',H' p∩a.A3 dp (jo ⇑ll ⇑bl ⇑mp ⇑el ((ndN nd b):) ⇑pl)->H' el\↥(sgN sg nd b)->(∀c o,H c=some o->c≠p->c≠el->H' c=some o)->Q .non H'),yvt
def vbf:(Df.v P w mg Γ) T.Lh 1 (yvt a):=by
 exists Lh,["self","bit"],O;let#[p,m,q,l,r,i,n,g,b,B,J,L,C,M,y,k]:=h;erw[_,(yf (y8 (pv 0) (ym v9 (ym xa yg pfs) (pv 1)) J) (yc (vz (yq vfs pfs (vy J T.Dc) (yy _)) (yf (yv ((zb PySem.F.plainAttrs_list PySem.F.slot_list_append PySem.F.type_list_append wz) pfs (pa1 (ym zi pfs (vy J T.Dc))))) (yc (y8 (pv 0) yg J))) yx))),?_];exists 2,0;unfold ndN sgN at k;rw[if_pos y,if_pos y]at k;have j:i≠p:=xf C L (by intro z;cases z);ext;have f:upd H p (.ins a.A3 m (jo ⇑q ⇑l ⇑r ⇑i ((2*g+b):) ⇑n)) p∩a.A3 m (jo ⇑q ⇑l ⇑r ⇑i ((2*g+b):) ⇑n):=ya;let d:=ye (o':=HO.ins a.A3 m (jo ⇑q ⇑l ⇑r ⇑i ((2*g+b):) ⇑n)) j C;have x:But p H (upd H p (.ins a.A3 m (jo ⇑q ⇑l ⇑r ⇑i ((2*g+b):) ⇑n))):=But.upd;generalize upd H p (.ins a.A3 m (jo ⇑q ⇑l ⇑r ⇑i ((2*g+b):) ⇑n))=N at f d x⊢;ext;erw[z9 (λt=>?_) (λt=>?_)]
 .rw[if_pos t,if_pos t]at k;ext;erw[jn d ?_,←xr d (vi (by rw[bL];omega)) ?_];let I:=ye (o':=HO.lst (List.map V.int B++[V.int (2*g+b-256)])) (Ne.symm j) f;ext;erw[k _ ya ?_ λc o e u D=>ye u (ye D (x _ _ e u))];rw[yk j,ya,ce];rfl
 .rw[if_neg t,if_neg t]at k;ext;erw[k _ f d λc o e u D=>x _ _ e u]
#synth ∀(a:Ads),∀(p dp ll bl mp el pl:qa)(nd b:Int)(sg:Ο)(_:vs=[.ref p,.int b])(_:H p∩a.A3 dp (jo ⇑ll ⇑bl ⇑mp ⇑el (nd:) ⇑pl))(_:H el\↥sg)(_:↑sg<=100000)(_:0<=nd)(_:∀(el':qa)H',(el'=el\/H el'=none)->H' p∩a.A3 dp (jo ⇑ll ⇑bl ⇑mp ⇑el' ((ndN nd b):) ⇑pl)->H' el'\↥(sgN sg nd b)->(∀c o,H c=some o->c≠p->c≠el->H' c=some o)->(∃o,H' el=some o)->Q .non H'),ypi
def vb0:(Df.v P w mg Γ) T.Lg 2 (ypi a):=by
 exists Lg,["self","bit"],R;let#[p,y,G,v,I,g,D,x,b,C,J,j,i,N,W,k]:=h;erw[_,(yc (vz (yq yh9 pfs yg (yy _)) (yc (yv (wv (pv 0) T.Ad T.Lh.m (vbf T) R.m T.Lh.B .nil vo (pav 1)))) (yc (vz (yq xo (pv 1) yg (yy _)) (yc (y8 (pv 0) yg J)) (yc (y8 (pv 0) (wk ub) J)))))),?_];exists 2,0;have d:g≠p:=xf i j (by intro z;cases z);ext;erw[z9 (λl=>?_) (λl=>?_)]
 .ext;erw[p,y,G,v,I,g,D,x,b,C,J,j,i,N,l,λU M u S=>k g U (.inl J) M u S #[_,u]]
 .unfold ndN sgN at k;rw[if_neg l,if_neg l]at k;ext;refine z9 (λf=>?_) (λf=>?_)
  .rw[if_pos f,if_pos f]at k;ext;erw[k g _ (.inl J) ya (ye d i) (λc o e t Z=>ye t e) #[_,ye d i]]
  .rw[if_neg f,if_neg f]at k;ext;exists (by walk_at "len"),λr hr0=>?_
   exists hr0,H1,S1,e1;let ς:=S1 _ _ j;ext;have n:r≠p:=λz=>by rw[z,j]at hr0;cases hr0
   erw[k r _ (.inr hr0) ya (ye n e1) (λc o e t Z=>ye t (S1 _ _ e)) #[_,ye d (S1 _ _ i)]]
noncomputable abbrev FA.re(A:FA)(ml el pl:qa)(sl:Λ):FA:={A with ml:=ml,el:=el,pl:=pl,sl:=sl}
noncomputable def FX.run(A:FA)(X:FX):qj Int->FX
 |[]=>X
 |b::r=>FX.run A (X.see A b) r
theorem Ú(A:FA):∀(bs cs:Ο)(X:FX),X.run A (bs++cs)=(X.run A bs).run A cs
 |[],_,_=>rfl
 |b::r,cs,X=>Ú A r cs (X.see A b)
def yo0(A:FA)(bs:Ο)(b:Int)(X:FX):X.run A (bs++[b])=(X.run A bs).see A b:=Ú A bs [b] X
noncomputable def fa0(n:Nat)(ps:Κ):FA:={ dp:=0,ll:=0,bl:=0,mp:=0,mx:=0,ml:=0,el:=0,pl:=0,n:=n,bk:=λZ=>0,dx:=λZ=>0,lk:=λZ=>0,dd:=λZ=>0,sl:=λZ=>0,kd:=λZ=>0,ps:=ps}
theorem ķ(A:FA):∀(bs:Ο)(X:FX),X.run A bs=X.run (fa0 A.n A.ps) bs
 |[],_=>rfl
 |b::r,X=>ķ A r (X.see A b)
def yx9(H:Hp)(A:FA):Prop:=H A.ll=some (.lst (refs A.lk A.n))/\A.ll≠A.el/\∃tp,xz H A.n A.lk A.kd tp A.ps
theorem yx9.same{H H':Hp}{A:FA}(h:yx9 H A)(S:y7 H H'):yx9 H' A:=#[S _ _ h.1,h.2.1,let ⟨tp,r⟩:=h.2.2;#[tp,r.same S]]
structure Go(W:Μ)(H H':Hp)(W':Μ):Prop where
 fr:∀c o,H c=some o->¬W c->H' c=some o
 nw:∀c,W' c->W c\/H c=none
 lv:∀c o,H c=some o->∃o',H' c=some o'
def Go.free{W:Μ}{H H':Hp}(h:Go W H H' W'){c:qa}(e:H' c=none):H c=none:=by
 cases z:H c with
 |none=>rfl
 |some o =>
  let#[a,w]:=h.lv c o z;rw[e]at w;cases w
def Go.refl{W:Μ}{H:Hp}:Go W H H W:=#[λZ Z e Z=>e,λZ w=>.inl w,λZ o e=>#[o,e]]
def Go.trans{W W1:Μ}{H H1 H2:Hp}(h:Go W H H1 W1)(k:Go W1 H1 H2 W2):Go W H H2 W2:=by
 erw[λc o e a=>k.fr c o (h.fr c o e a) λw=>?_,λc w=>?_,λc o e=>?_]
 .rcases h.nw c w with v|v
  .erw[a v]
  .rw[e]at v;cases v
 .rcases k.nw c w with v|v
  .erw[h.nw c v]
  .erw[.inr (h.free v)]
 .let#[d,b]:=h.lv c o e;erw[k.lv c d b]
def Go.same{W:Μ}{H H1 H2:Hp}(h:Go W H H1 W')(S:y7 H1 H2):Go W H H2 W':=#[λc o e a=>S _ _ (h.fr c o e a),h.nw,λc o e=>let ⟨o',w⟩:=h.lv c o e;#[o',S _ _ w]]
def Go.ahead{W:Μ}{H H1 H2:Hp}(S:y7 H H1)(h:Go W H1 H2 W'):Go W H H2 W':=#[λc o e=>h.fr c o (S _ _ e),λc w=>(h.nw c w).imp id S.free,λc o e=>h.lv c o (S _ _ e)]
def Go.apart{W:Μ}{H H':Hp}(h:Go W H H' W')(hU:∀c,U c->∃o,H c=some o)(dj:∀c,U c->¬W c):∀c,U c->¬W' c:=λc u w=>by
 rcases h.nw c w with v|v
 .erw[dj c u v]
 .let#[o,e]:=hU c u;rw[v]at e;cases e
end
section
variable{H H':Hp}{p:qa}{n:Nat}{kd:Ν}{ps:Κ}{X:FX}{M:Nat}{W:Μ}
def yvp{g:Λ}(h:1<=n):(refs g n)[0]?=some ⇑(g 0):=by unfold refs;rw[bU,dh h];rfl
end
mutual
inductive yv9(K:xy)(a:Ads)(vs:Τ)(H:Hp)(Q:VK)(E':XK):Prop
 | mk(p:qa)(A:FA)(X:FX)(f:Α)(O:Β)(m:Nat)(b:Int)(_:vs=[.ref p,.int b])(_:zr K a H p A X f O m)(_:0<=b)(_:b<=1)(_:m+20<1000000)(_:0<=X.nd)(_:X.sg.length<=100000)(_:∀(ml el pl:qa)(sl:Λ)(f':Α)(O':Β)(H':Hp),(el=A.el\/H el=none)->zr K a H' p {A with ml:=ml,el:=el,pl:=pl,sl:=sl} (X.see A b) f' O' (m+A.n)->(∀j c,j<A.n->O' j c->O j c\/H c=none) ->
  (∀c o,H c=some o->c≠p->c≠A.mp->c≠A.el->(∀j,j<A.n->¬O j c)->H' c=some o)->(∀c o,H c=some o->∃o',H' c=some o')->H ml=none->Q .non H')
def ygo:(Df.v P w mg Γ) T.Co 6 (yv9 K a):=by
 exists Co,["self","bit","slot"],hr;let#[p,d,X,f,O,m,b,J,h,b0,b1,hm,aD,au,k]:=h;let hp:=h.me;let ac:=h.mx.o;let n6:=h.n6;let I:=vcw b0 b1;erw[yh (yv (uk (ļ T) hr.m T.Da ve (pav 1))) ?_,<-yh (yv (yu pfs T.Ed T.Le.m (vbw T) hr.m T.Le.B .nil ve (pac (vj (pv 0) T.Ad T.Dq.m (yml T) hr.m T.Dq.B .nil vo) (pav 1)))) ?_,<-yh (uy PassesOwn.never J (we pfs) (wd (i:=2) ϰ J (Or.inl J)) (yc (yv (è (yu (pv 2) T.At T.Kp.m (vay T) hr.m T.Kp.B .nil ve (pav 1)) (è (yu (pv 2) T.Bb T.Kt.m (vcy T) hr.m T.Kt.B .nil ve (pav 1)) (yu (pv 2) T.Bg T.Kx.m (yzg T) hr.m T.Kx.B .nil ve (pav 1))))))) ?_,<-yh (yv (wv (pv 0) T.Ad T.Lg.m (vb0 T) hr.m T.Lg.B .nil vo (pav 1))) ?_];exists 2,1,yc (yv (vj (pv 0) T.Ad T.Dp.m (yl2 T) hr.m T.Dp.B .nil vo));erw[.int b,_,J,.int b,λF=>?_,λz=>(by rw[I]at z;cases z),←p,d,X,f,O,m,J,h,λr H1 aK aq S1=>?_];let L:=S1 _ _ ac;ext;erw[d.mp,d.mx,d.ml,r,X.ws,X.cs d,d.n,.int b,_,J,h.n1,n6,h.wok,h.cok,h.mx.same S1,SqL.of aq,.int b,λb' e F F ml H2 a7 M2 Z=>?_,λz=>(by rw[I]at z;cases z)];cases e;let N:=h.same S1
 have a9:p≠d.mp:=λz=>by
  have:=h.me;rw[z,ac]at this;injection this with this;injection this with _ _ e;erw[absurd (congrArg List.length e) (show ¬(1=6) by decide)]
 let ay:=Z _ _ N.me a9;have af:∀{l:qa}{xs:Τ},H1 l\xs->l≠d.mp:=λ{l xs}e z=>by rw[z,L]at e;cases e
 let a8:=Z _ _ N.bl (af N.bl);let a6:=Z _ _ N.el (af N.el);let a0:=Z _ _ N.pl (af N.pl)
 let U:=N.B.frame (O2:=λc=>c=d.mp) (λc o e ne=>Z c o e ne) (λj c q w z=>h.nm j q (z ▸ w)) (λj q z=>by
  have:=(N.B.b j q).me;rw[z,L]at this;injection this with this;injection this with _ _ e
  erw[absurd (congrArg List.length e) (show ¬(1=2) by decide)]) (λt xs e=>by
  rcases e with(e|⟨o,e⟩)|e
  .erw[.inl (.inl (Z _ _ e (λz=>by rw[z,L]at e;cases e)))]
  .erw[.inl (.inr #[o,Z _ _ e (λz=>by rw[z,L]at e;cases e)])]
  .erw[.inr e])
 have as:∀j,j<d.n->(∃s,f j (X.key d j)=some s)/\AtS H2 (d.dd j) (X.key d j) (d.sl j):=λj q=>#[(N.at' j q).1,(N.at' j q).2.told (N.B.b j q) (λz=>h.nm j q (by rwa[<- z,(N.B.b j q).dO])) Z];ext;erw[d.pl,J,#[_,SqL.of a0],xw (K:=K) (a:=d.pl) (xs:=refs d.sl d.n) (λi σ2 G=>∃(v:Χ)(f':Α),σ2=[some ⇑p,some (b:),v]/\Bks K a G d.n d.bk d.dx d.lk d.dd d.kd d.ps f' O m/\
   (∀j,j<d.n->∀k,(f' j k).getD (kd0 (d.kd j))=if j<i/\k=X.key d j then (X.g j k).see b else X.g j k)/\(∀j,j<d.n->(∃s,f' j (X.key d j)=some s)/\AtS G (d.dd j) (X.key d j) (d.sl j))/\(∀c o,H2 c=some o->(∀j,j<d.n->¬O j c)->G c=some o))
  #[_,f,J,U,λj q M=>by rwa[if_neg (λz=>absurd z.1 (cD j)),h.ag j q M],as,λc o e F=>e] (by rintro i σ2 G _ ⟨_,_,_,_,_,_,w⟩;erw[SqL.of (w _ _ a0 (U.nlst a0))]) ?_ ?_]
 .rintro i y σ2 G hy ⟨v,f',rfl,S,gA,gS,gF⟩;let#[J,D]:=u7 hy;let#[#[s',ad],ae]:=gS i D
  have es:s'=X.g i (X.key d i):=by
   have:=gA i D (X.key d i);rw[ad,if_neg (λz=>absurd z.1 (dv i))]at this;erw[this]
  let#[dq,hq,ok,aI,ax]:=(S.b i D).slot ad ae;ext;erw[yux (x:=.int b) (λQ' h=>?_) (λQ' h=>?_) hq ok (b:) (λb' e F F G3 h3 B3=>?_) (λz=>by rw[I]at z;cases z) (λz=>by rw[I]at z;cases z) (λz=>by rw[I]at z;cases z)]
  .ext;erw[h]
  .ext;erw[h]
  cases e;let av:=(S.b i D).told ad ae b0 b1 h3 B3;have BO:yp3 (O i) G G3:=λc o e no=>B3 _ _ e λz=>no (by rwa[z,ax]);let M3:=S.move D (bT m) av (λc w=>.inl w) BO
  have eO:(λj=>if j=i then O i else O j)=O:=by
   funext j
   by_cases z:j=i
   .rw[if_pos z,z]
   .rw[if_neg z]
  rw[eO]at M3
  have aE:d.dd i≠d.sl i:=λz=>by
   let#[aL,aH,w1,_]:=(S.b i D).tb;let#[C,fs,eo]:=Ë a dq s';rw[z,hq,eo]at w1;cases w1
  ext;erw[_,_,J,M3,λj q M=>?_,λj q=>?_,λc o e no=>?_]
  .try dsimp only
   by_cases z:j=i
   .subst z;rw[if_pos J];unfold ę;by_cases w:M=X.key d j
    .rw[if_pos w,if_pos #[Nat.lt_succ_self j,w],w,<- es];rfl
    .rw[if_neg w,if_neg (λz=>w z.2)];have:=gA j q M;rw[if_neg (λz=>w z.2)]at this;erw[this]
   .rw[if_neg z,gA j q M];have:(j<i/\M=X.key d j)↔(j<i+1/\M=X.key d j):=by constructor<;>(rintro ⟨u,v⟩;erw[(),v])
    by_cases w:j<i/\M=X.key d j
    .rw[if_pos w,if_pos (this.mp w)]
    .rw[if_neg w,if_neg (λz=>w (this.mpr z))]
  .try dsimp only
   by_cases z:j=i
   .subst z;rwa[if_pos J,#[#[s'.see b,?_],ae.told (S.b j D) aE B3]];unfold ę;rw[if_pos J]
   .rw[if_neg z];erw[(gS j q).1,(gS j q).2.move S q D z BO]
  .erw[BO _ _ (gF c o e no) (no i D)]
 .rintro σ2 G ⟨v,f',rfl,S,gA,gS,gF⟩;rw[vv]at gA;let gp:=gF _ _ ay h.np;let R:=gF _ _ a6 (U.nlst a6);let al:=gF _ _ a8 (U.nlst a8);let Y:=gF _ _ M2.o h.nm;let ak:=gF _ _ M2.l (U.nlst M2.l);ext;erw[p,d.dp,d.ll,d.bl,d.mp,d.el,d.pl,X.nd,b,X.sg,J,gp,R,au,aD,λel H4 ai ab a5 F4 L4=>?_];have aj:∀{l:qa}{xs:Τ},G l\xs->l≠p:=λ{l xs}e z=>by rw[z,gp]at e;cases e
  have ao:∀j,j<d.n->¬O j p:=h.np;let ah:=S.nlst R
  let a3:=S.frame (O2:=λc=>c=p\/c=d.el) (λc o e ne=>F4 c o e (λz=>ne (.inl z)) (λz=>ne (.inr z))) (λj c q w z=>by
   rcases z with z|z
   .erw[ao j q (z ▸ w)]
   .erw[ah j q (z ▸ w)]) (λj q z=>by
   have:=(S.b j q).me;rcases z with z|z
   .rw[z,gp]at this;injection this with this;injection this with _ _ e;erw[absurd (congrArg List.length e) (show ¬(6=2) by decide)]
   .rw[z,R]at this
    cases this) (λt xs e=>by
   rcases e with(e|⟨o,e⟩)|e
   .erw[.inl (.inl (F4 _ _ e (λz=>by rw[z,gp]at e;cases e) (λz=>by rw[z,R]at e;cases e)))]
   .erw[.inl (.inr #[o,F4 _ _ e (λz=>by rw[z,gp]at e;cases e) (λz=>by rw[z,R]at e;cases e)])]
   .erw[.inr e])
  have an:d.bl≠d.el:=λz=>by
   let e:=h.bl;rw[z,h.el]at e;injection e with e;injection e with e;let e0:=congrArg (λl:Τ=>l[0]?) e
   have r0:(refs d.bk d.n)[0]?=some ⇑(d.bk 0):=by
    unfold refs;rw[bU,dh h.n1];rfl
   try dsimp only at e0
   rw[r0,bU]at e0
   cases hs:X.sg[0]? with
   |none=>rw[hs]at e0;cases e0
   |some c=>rw[hs]at e0;cases e0
  have aF:ml≠d.el:=(yb N.el a7).symm;let a4:=F4 _ _ al (aj al) an;let ap:=F4 _ _ Y (Ne.symm a9) (λz=>by rw[z,R]at Y;cases Y);let aa:=F4 _ _ ak (aj ak) aF
  have a1:∀c o,H c=some o->∃W,H4 c=some W:=λc o e=>by
   by_cases zp:c=p
   .erw[_,zp ▸ ab]
   by_cases ze:c=d.el
   .rw[ze];erw[L4]
   have gc:∃W,G c=some W:=by
    by_cases zm:c=d.mp
    .erw[_,zm ▸ Y]
    by_cases zo:∀j,j<d.n->¬O j c
    .erw[o,gF _ _ (Z _ _ (S1 _ _ e) zm) zo]
    .have:∃j,j<d.n/\O j c:=Classical.byContradiction λw=>zo λj q w'=>w #[j,q,w'];let#[j,q,w]:=this;let#[W,ς,_]:=(S.b j q).own c w;erw[W,ς]
   let#[W,ς]:=gc;erw[W,F4 _ _ ς zp ze]
  have aC:ym3 d.n d.kd f' (X.see d b).g:=λj q M=>by
   rw[gA j q M];show _=if M=X.key d j then (X.g j M).see b else X.g j M;by_cases w:M=X.key d j
   .rw[if_pos #[q,w],if_pos w]
   .rw[if_neg (λz=>w z.2),if_neg w]
  ext;erw[p,d.dp,d.ll,d.bl,d.mp,el,d.pl,ndN X.nd b,sgN X.sg X.nd b,d.n,m,d.bk,d.dx,d.lk,d.dd,d.kd,d.ps,f',O,(X.see d b).g,J,ab,a4,a5,a3,aC,n6,(),h.np,λpl sl f2 O2 H5 ar aw aG B5 az aA am F5 L5=>?_]
  have a2:∀{l:qa}{xs:Τ},H4 l\xs->l≠p:=λ{l xs}e z=>by rw[z,ab]at e;cases e
  have n2:∀j c,j<d.n->O2 j c->O j c\/H c=none:=λj c q w=>by
   rcases am j c q w with v|v
   .erw[.inl v]
   .refine .inr ?_
    cases e:H c with
    |none=>rfl
    |some o =>
     let#[W,ς]:=a1 c o e;rw[ς]at v;cases v
  erw[k ml el pl sl f2 O2 H5 ?_ #[ar,F5 _ _ a4 (a2 a4) (a3.nlst a4),F5 _ _ a5 (a2 a5) (a3.nlst a5),#[F5 _ _ ap (Ne.symm a9) h.nm,F5 _ _ aa (a2 aa) (a3.nlst aa)],yrq h.n1 n6 h.wok h.cok,aw,B5,az,aA,λj q w=>?_,λj q w=>?_,h.n1,n6] n2 (λc o e c1 c2 c3 no=>F5 _ _ (F4 _ _ (gF _ _ (Z _ _ (S1 _ _ e) c2) no) c1 c3) c1 no) (λc o e=>let ⟨W,w⟩:=a1 c o e;L5 c W w) (S1.free a7)]
  .rcases ai with z|z
   .erw[.inl z]
   .refine .inr ?_
    cases e:H el with
    |none=>rfl
    |some o =>
     exfalso;by_cases zp:el=p
     .rw[zp,gp]at z;cases z
     by_cases zm:el=d.mp
     .rw[zm,Y]at z;cases z
     by_cases zo:∀j,j<d.n->¬O j el
     .rw[gF _ _ (Z _ _ (S1 _ _ e) zm) zo]at z;cases z
     .have:∃j,j<d.n/\O j el:=Classical.byContradiction λw=>zo λj q w'=>w #[j,q,w'];let#[j,q,w]:=this;let#[W,ς,_]:=(S.b j q).own el w;rw[ς]at z;cases z
  .rcases n2 j p q w with v|v
   .erw[h.np j q v]
   .rw[hp]at v;cases v
  .rcases n2 j d.mp q w with v|v
   .erw[h.nm j q v]
   .rw[ac]at v;cases v
def zl{A:FA}{X:FX}{bs:Ο}{k:Nat}{b:Int}(h:bs[k]?=some b):X.run A (bs.take (k+1))=(X.run A (bs.take k)).see A b:=by rw[jq h,yo0]
structure FGo(p:qa)(A:FA)(O:Β)(H H':Hp)(el:qa)(O':Β):Prop where
 he:el=A.el\/H el=none
 hO:∀j c,j<A.n->O' j c->O j c\/H c=none
 fr:∀c o,H c=some o->c≠p->c≠A.mp->c≠A.el->(∀j,j<A.n->¬O j c)->H' c=some o
 live:∀c o,H c=some o->∃o',H' c=some o'
def FGo.free{p:qa}{A:FA}{H H':Hp}{el c:qa}(h:FGo p A O H H' el O')(hc:H' c=none):H c=none:=by
 cases e:H c with
 |none=>rfl
 |some o =>
  let#[a,w]:=h.live c o e;rw[hc]at w;cases w
def FGo.refl{p:qa}{A:FA}{H:Hp}:FGo p A O H H A.el O:=#[.inl J,λZ Z Z w=>.inl w,λZ Z e Z Z Z Z=>e,λZ o e=>#[o,e]]
theorem FGo.trans{p:qa}{A:FA}{O1:Β}{H H1 H2:Hp}{ml el pl el2:qa}{sl:Λ}(h:FGo p A O H H1 el O1)(k:FGo p (A.re ml el pl sl) O1 H1 H2 el2 O2):FGo p A O H H2 el2 O2:=by
 erw[?_,λj c a w=>?_,λc o e g b f d=>?_,λc o e=>?_]
 .rcases k.he with z|z
  .rcases h.he with y|y
   .erw[.inl (z.trans y)]
   .erw[.inr (by rwa[show el2=el from z,y])]
  .erw[.inr (h.free z)]
 .rcases k.hO j c a w with v|v
  .erw[h.hO j c a v]
  .erw[.inr (h.free v)]
 .refine k.fr c o (h.fr c o e g b f d) g b (λz=>?_) (λj a w=>?_)
  .rcases h.he with y|y
   .erw[f (z.trans y)]
   .rw[show c=el from z,y]at e;cases e
  .rcases h.hO j c a w with v|v
   .erw[d j a v]
   .rw[e]at v;cases v
 .let#[l,i]:=h.live c o e;erw[k.live c l i]
def FGo.same{p:qa}{A:FA}{H H1 H2:Hp}{el:qa}(h:FGo p A O H H1 el O')(S:y7 H1 H2):FGo p A O H H2 el O' :=
 #[h.he,h.hO,λc o e b a f d=>S _ _ (h.fr c o e b a f d),λc o e=>let ⟨o',w⟩:=h.live c o e;#[o',S _ _ w]]
def FGo.ahead{p:qa}{A:FA}{H H1 H2:Hp}{el:qa}(S:y7 H H1)(h:FGo p A O H1 H2 el O'):FGo p A O H H2 el O' :=
 #[h.he.imp id S.free,λj c a w=>(h.hO j c a w).imp id S.free,λc o e=>h.fr c o (S _ _ e),λc o e=>h.live c o (S _ _ e)]
def FGo.kpa{p:qa}{A:FA}{X:FX}{f:Α}{m:Nat}{H H':Hp}{el:qa}(hf:zr K a H p A X f O m)(h:FGo p A O H H' el O'):KpA H H' A.el el:=λc o e i k=>by
 erw[?_,h.fr c o e (λz=>by rw[z,hf.me]at e;cases e;cases i) (λz=>by rw[z,hf.mx.o]at e;cases e;cases i) k λj l w=>?_]
 .rcases h.he with z|z
  .rw[z];erw[k]
  .erw[yb e z]
 .let#[n,g,d]:=(hf.B.b j l).own c w;rw[e]at g;cases g;rw[i]at d;cases d
def FGo.app{p R:qa}{A:FA}{H H1:Hp}{el:qa}{o':HO}(h:FGo p A O H H1 el O')(hR:H R=none):FGo p A O H (upd H1 R o') el O' :=
 #[h.he,h.hO,λc o e b a f d=>ye (yb e hR) (h.fr c o e b a f d),λc o e=>let ⟨o',w⟩:=h.live c o e;#[o',ye (yb e hR) w]]
def ygk{g:Λ}{n:Nat}(h:1<=n):(refs g n)[0]?=some ⇑(g 0):=by unfold refs;rw[bU,dh h];rfl
def zr.notR{G:Hp}{p R:qa}{A:FA}{X:FX}{f:Α}{m:Nat}{tu:Λ}(h:zr K a G p A X f O m)(hR:G R\(refs tu j))(htu:∀i,i<j->∃o,G (tu i)=some o/\yyb o=false)(nR:R≠A.el):∀q,(q=A.bl\/q=A.el\/q=A.ml\/q=A.pl)->q≠R:=λq t z=>by
 let d:=h.n1
 have c:∀(l:Τ)(x:V),l[0]?=some x->refs tu j=l->1<=j/\x=.ref (tu 0):=λl x n e=>by
  rcases Nat.eq_zero_or_pos j with w|w
  .rw[<- e,w]at n;cases n
  .rw[<- e,ygk w]at n;erw[w,(cr n).symm]
 rcases t with y|y|y|y
 .let e:=h.bl;rw[<- y,z,hR]at e;let#[w,e]:=c _ _ (ygk d) (HO.lst.inj (cr e));let#[o,k,r]:=htu 0 w;rw[<- V.ref.inj e,(h.B.b 0 d).me]at k;cases k;cases r
 .erw[nR (z.symm.trans y)]
 .let e:=h.mx.l;rw[<- y,z,hR]at e;have u:0<↑X.ws:=by rw[h.wok.len];exact d
  let#[w,e]:=c _ (X.ws[0]:) (by rw[bU,bP u];rfl) (HO.lst.inj (cr e));cases e
 .let e:=h.pl;rw[<- y,z,hR]at e;let#[w,e]:=c _ _ (ygk d) (HO.lst.inj (cr e));let#[o,k,r]:=htu 0 w;let#[_,#[s,D],_,_]:=h.slot d;let#[C,E,v]:=Ë a s (X.g 0 (X.key A 0));rw[<- V.ref.inj e,D,v]at k;cases k;cases r
structure ă(H:Hp)(t:qa)(ts:Ο)(w:Nat):Prop where
 l:H t\↥ts
 s:Sgs ts
 z:↑ts<=w
def ă.same{H H':Hp}{t:qa}{w:Nat}(h:ă H t ts w)(S:y7 H H'):ă H' t ts w:=#[S _ _ h.l,h.s,h.z]
def Ą(tt:Κ):Κ
 |0=>[]
 |i+1=>Ą tt i++dec (tt i)
def fX(n:Nat)(kd:Ν)(ps:Κ)(pre:Ο)(ts:Ο)(k:Nat):FX:=((FX0 n kd).run (fa0 n ps) pre).run (fa0 n ps) ((dec ts).take k)
def uf(n:Nat)(kd:Ν)(ps:Κ)(pre:Ο)(ts:Ο)(k:Nat):Int:=ym0 (fX n kd ps pre ts k).ws ((fX n kd ps pre ts k).cs (fa0 n ps))
def vh(ts:Ο)(k:Nat):Int:=((dec ts)[k]?).getD 0
def yff(ts:Ο)(k:Nat)(h:k<↑(dec ts)):0<=vh ts k/\vh ts k<=1:=by unfold vh;rwa[bP h,jf ts _ (cE h)]
def yyi(H:Hp)(lx:V)(N w:Nat)(lt:Λ)(tt:Κ):Prop:=((lx=.non/\N=0)\/∃ll,lx=.ref ll/\H ll\(refs lt N))/\∀i,i<N->ă H (lt i) (tt i) w
theorem yyi.same{H H':Hp}{lx:V}{N w:Nat}{lt:Λ}{tt:Κ}(h:yyi H lx N w lt tt)(S:y7 H H'):yyi H' lx N w lt tt :=
 #[h.1.imp id λ⟨b,e,z⟩=>#[b,e,S _ _ z],λi a=>(h.2 i a).same S]
structure vj6(H:Hp)(L tx:qa)(lx:V)(n:Nat)(lk:Λ)(kd:Ν)(tp:Λ)(ps:Κ)(ts:Ο)(N w:Nat)(lt:Λ)(tt:Κ):Prop where
 l:H L\(refs lk n)
 n1:1<=n
 n6:n<=6
 r:xz H n lk kd tp ps
 t:ă H tx ts 1000
 lr:yyi H lx N w lt tt
 w1:w<=1000
 N1:N<=1000
 b:6+6*(N*(9*w+1))+6*(9*↑ts+1)+20<1000000
theorem Sds.refs{H:Hp}{k:Nat}{g:Λ}{d:Nat->PyData}:∀(n:Nat),(∀i,i<n->Sd K H ⇑(g i) (d i) k)->Sds K H (refs g n) ((List.range n).map d) k:=λn h=>by
 unfold Law.refs
 have a:∀l:qj Nat,(∀i∈l,i<n)->Sds K H (l.map λi=>V.ref (g i)) (l.map d) k:=by
  intro l
  induction l with
  |nil=>erw[λZ=>.nil]
  |cons i r ih=>erw[λb=>.cons (h i (b i (by simp))) (ih λj c=>b j (by simp[c]))]
 erw[a (List.range n) λi e=>c8.mp e]
structure XOk(n:Nat)(X:FX):Prop where
 w:WOk n X.ws
 s:∀i k,(X.g i k).ok
theorem XOk.cs{n:Nat}{X:FX}(h:XOk n X)(ps:Κ):COk n (X.cs (fa0 n ps)):=by
 exists by unfold FX.cs;rw[bL,cS];rfl,λc a=>?_,λc a=>?_
 .let#[j,_,J]:=bW.mp a;erw[(ygr (h.s _ _)).1]
 .let#[j,_,J]:=bW.mp a;erw[(ygr (h.s _ _)).2]
theorem XOk.see{n:Nat}{X:FX}(h:XOk n X)(n1:1<=n)(n6:n<=6)(ps:Κ){b:Int}(b0:0<=b)(b1:b<=1):XOk n (X.see (fa0 n ps) b):=by
 erw[yrq n1 n6 h.w (h.cs ps),λi k=>?_];show (if k=X.key (fa0 n ps) i then (X.g i k).see b else X.g i k).ok
 split
 .erw[Slt.see_ok (h.s i k) b0 b1]
 .erw[h.s i k]
theorem XOk.run{n:Nat}(n1:1<=n)(n6:n<=6)(ps:Κ):∀(bs:Ο){X:FX},XOk n X->ybj bs->XOk n (X.run (fa0 n ps) bs)
 |[],_,h,_=>h
 |b::r,_,h,hb=>XOk.run n1 n6 ps r (h.see n1 n6 ps (hb b (by simp)).1 (hb b (by simp)).2) λc a=>hb c (by simp[a])
def XOk.zero{n:Nat}(n1:1<=n)(n6:n<=6)(kd:Ν):XOk n (FX0 n kd):=#[vf8 n n1 n6,λi Z=>yr7 (kd i)]
theorem yb1(tt:Κ):∀N,ybj (Ą tt N)
 |0=>λZ z=>nomatch z
 |N+1=>yf3 (yb1 tt N) (jf _)
def yi3{bs:Ο}(h:ybj bs)(k:Nat):ybj (bs.take k):=λb a=>h b (cV a)
def vha{n:Nat}(n1:1<=n)(n6:n<=6){kd:Ν}{ps:Κ}{pre:Ο}(hp:ybj pre)(k:Nat):XOk n (fX n kd ps pre ts k):=by unfold fX;erw[((XOk.zero n1 n6 kd).run n1 n6 ps pre hp).run n1 n6 ps _ (yi3 (jf ts) k)]
def Û{n:Nat}(n1:1<=n)(n6:n<=6){kd:Ν}{ps:Κ}{pre:Ο}(hp:ybj pre)(k:Nat):Ch (uf n kd ps pre ts k):=ymh n1 (vha (kd:=kd) (ps:=ps) (ts:=ts) n1 n6 hp k).w ((vha (kd:=kd) (ps:=ps) (ts:=ts) n1 n6 hp k).cs ps)
structure TwB(K:xy)(a:Ads)(H G:Hp)(n:Nat)(bk dx lk dd:Λ)(kd:Ν)(ps:Κ)(f:Α)(O:Β)(m:Nat):Prop where
 B:Bks K a G n bk dx lk dd kd ps f O m
 oO:∀j c,j<n->O j c->H c=none
 oB:∀j,j<n->H (bk j)=none
def TwB.zero{H G:Hp}{bk dx lk dd:Λ}{kd:Ν}{ps:Κ}{f:Α}{m:Nat}:TwB K a H G 0 bk dx lk dd kd ps f O m :=
 #[#[λi b=>absurd b (cD i),λi b=>absurd b (cD i),λi Z Z b=>absurd b (cD i),λi Z b=>absurd b (cD i)],λi Z b=>absurd b (cD i),λi b=>absurd b (cD i)]
def TwB.next{H G G2:Hp}{n m:Nat}{bk dx lk dd:Λ}{kd:Ν}{ps:Κ}{f:Α}(h:TwB K a H G n bk dx lk dd kd ps f O m)(hl:jr K G (lk n) (.str (kdS (kd n))) (ps n))
  (S:y7 H G) {q dq d D:qa} {xs ys:Τ} {f':qj Int->ql Slt} {O':Μ} (hq:G q=none) (hO:∀c,O' c->G c=none) (S2:y7 G G2) (hb:ì a G2 q dq (lk n) d (kd n) f' O' m) (hD:G D\xs):
  TwB K a H (upd G2 D (.lst ys)) (n+1) (upN bk n q) (upN dx n dq) lk (upN dd n d) kd ps (upN f n f') (upN O n O') m:=by
 let#[s,u,v]:=h;have k:∀j c,j<n->O j c->∃o,G c=some o:=λj c g w=>let ⟨o,l,_⟩:=(s.b j g).own c w;#[o,l]
 let M:=(s.same S2).snoc (hl.same S2) hb (λj c g w z=>by
  let#[o,l]:=k j c g w;rw[hO c z]at l
  cases l) (λj g w=>by
  let#[o,l]:=k j q g w;rw[hq]at l
  cases l) (λj g z=>by
  let e:=(s.b j g).me;rw[hO _ z]at e;cases e)
 let i:=S2 _ _ hD;let x:=M.nlst i;have p:∀c o,G2 c=some o->c≠D->upd G2 D (.lst ys) c=some o:=λc o e r=>ye r e;erw[M.frame (O2:=λc=>c=D) (λc o e r=>p c o e r) (λj c g w z=>x j g (z ▸ w)) (λj g z=>?_) (λt xs e=>?_),λj c g w=>?_,λj g=>?_]
 .let e:=(M.b j g).me;rw[z,i]at e;cases e
 .rcases e with(e|⟨o,e⟩)|e
  .erw[.inl (.inl (p _ _ e (λz=>by rw[z,i]at e;cases e)))]
  .erw[.inl (.inr #[o,p _ _ e (λz=>by rw[z,i]at e;cases e)])]
  .erw[.inr e]
 .by_cases z:j=n
  .rw[z,wx]at w;erw[S.free (hO c w)]
  .rw[wu ()]at w;erw[u j c () w]
 .by_cases z:j=n
  .rw[z,wx];erw[S.free hq]
  .rw[wu ()];erw[v j ()]
#synth ∀(K:xy)(a:Ads),∀(p:qa)(A:FA)(X:FX)(f:Α)(O:Β)(m:Nat)(_:vs=[.ref p])(_:zr K a H p A X f O m)(_:yx9 H A)(_:m+20<1000000)(_:∀(q:qa)(A':FA)(f':Α)(O':Β)(H':Hp),H q=none->zr K a H' q A' X f' O' (m+A.n)->yx9 H' A'->A'.n=A.n->A'.kd=A.kd->A'.ps=A.ps->A'.lk=A.lk->(∀j c,j<A.n->O' j c->H c=none)->(∀j,j<A.n->H (A'.bk j)=none)->H A'.mp=none->(∀l,(l=A'.bl\/l=A'.el\/l=A'.ml\/l=A'.pl\/l=A'.ll)->H l=none)->y7 H H'->Q ⇑q H'),yfj
def vc0:(Df.v P w mg Γ) T.Li 8 (yfj K a):=by
 exists Li,["self","made"],hr;let#[p,u,X,f,O,m,J,h,#[aD,aM,tp,a0],hm,k]:=h;let hp:=h.me;let n1:=h.n1;let n6:=h.n6;erw[yh (pst 1 ϰ (uu T.Ti (ylq T) hr.m J T.Th T.Ho.B .nil ve (pa1 pfs))) ?_,<-yh (y8 (pv 1) (vx (js:=[]) (ys:=[]) J (we pfs) (λC s2 H2 fp=>(vj (pv 0) T.Bi T.Lb.m (vac T) hr.m T.Lb.B .nil vo)) J J (hyc:=yw) (hrel:=yw)) J) ?_,<-yh (y8 (pv 1) (vj pfs T.Ed T.Lf.m (va7 T) hr.m T.Lf.B .nil vo) J) ?_,<-yh (y8 (pv 1) (pcT ww T.An (pa1 pfs)) J) ?_,<-yh (y8 (pv 1) pfs J) ?_,<-yh (yv (vj (pv 1) T.Ad T.Dp.m (yl2 T) hr.m T.Dp.B .nil vo)) ?_];exists 1,1,yc (yn (pv 1));intro q dq Y ao aW;have S0:y7 H (upd (upd H dq (.own q)) q (.ins a.A3 dq [])):=λb o e=>by rwa[yk (yb e Y),yk (yb e ao),e]
 erw[q,dq,.ref u.ll,J,ya,.inr #[u.ll,u.n,u.lk,u.kd,tp,u.ps,J,S0 _ _ aD,n1,n6,a0.same S0,λd f1 O1 H1 N1 B1=>#[J,?_]]];let#[al,e1,e2,e3,e4,aL,aO,aT,aV,U,aJ,ar]:=N1;have S1:y7 H H1:=ü Y ao B1;let h1:=h.same S1;have R:H1 q∩a.A3 d.dp (jo ⇑d.ll ⇑d.bl ⇑d.mp ⇑d.el (0:) ⇑d.pl):=al.me;let aC:=h1.me;have aU:p≠q:=yb hp Y;ext;erw[u.bl,J,#[_,SqL.of h1.bl],λD hD=>?_];refine zu (K:=K) (xs:=refs u.bk u.n) (λi G=>∃(bk dx dd:Λ)(f2:Α)(O2:Β),G D\(refs bk i)/\TwB K a H1 G i bk dx u.lk dd u.kd u.ps f2 O2 m/\(∀j,j<i->f2 j=f j)/\y7 H1 G)
  #[λF=>0,λF=>0,λF=>0,λF F=>none,λF F=>False,ya,TwB.zero,λj x=>absurd x (cD j),y9 hD] (λi G F z=>?_) (λi y G hy hi z=>?_) (λG z=>?_)
 .let#[_,_,_,_,_,_,_,_,N]:=z;erw[SqL.of (N _ _ h1.bl)]
 .let#[bk,dx,dd,f2,O2,gD,S,gf,N]:=z;let#[J,an]:=u7 hy;let ad:=(h1.B.b i an).same N;let aF:=ad.me;ext;exists u.bk i,u.dx i,u.lk i,u.dd i,u.kd i,f i,O i,m,J,ad,(),λq2 aH d2 O3 G2 aj ax aA S2=>?_
  erw[xk (n:=↑(refs u.bk u.n)) (S2 _ _ gD) (vi (by rw[vv];omega)) hi ?_,<-_,_,_,_,_,?_,S.next ((h1.B.look i an).same N) N aj aA S2 ax gD,λj x=>?_,λb o e=>ye (yb e hD) (S2 _ _ (N b o e))]
  .rw[ya,x9,wx]
   congr 3
   erw[xu λj x=>(wu x).symm]
  .by_cases z:j=i
   .rw[z,wx]
   .rw[wu ()];erw[gf j ()]
 let#[bk,dx,dd,f2,O2,gD,S,gf,N]:=z;rw[vv]at gD S gf;let am:=N _ _ R;let aI:=N _ _ aC;ext;have ak:D≠q:=λz=>by rw[z,R]at hD;cases hD
 have BA:But q G (upd G q (.ins a.A3 d.dp (jo ⇑d.ll ⇑D ⇑d.mp ⇑d.el (0:) ⇑d.pl))):=But.upd;have W:upd G q (.ins a.A3 d.dp (jo ⇑d.ll ⇑D ⇑d.mp ⇑d.el (0:) ⇑d.pl)) q∩a.A3 d.dp (jo ⇑d.ll ⇑D ⇑d.mp ⇑d.el (0:) ⇑d.pl):=ya;generalize upd G q (.ins a.A3 d.dp (jo ⇑d.ll ⇑D ⇑d.mp ⇑d.el (0:) ⇑d.pl))=HA at BA W⊢;have SA:y7 H HA:=λb o e=>BA _ _ (N _ _ (S1 _ _ e)) (yb e Y);let hA:=h.same SA;let aK:=hA.me;let aG:=hA.mx.o;ext;erw[u.mp,u.mx,u.ml,X.ws,J,hA.mx,by rwa[h.wok.len,n1],by rwa[h.wok.len,n6],λI aB l3 HB ς a1 MB SB=>?_]
 let aP:=SB _ _ W;ext;have a5:I≠q:=(yb W ς).symm;have ap:l3≠q:=(yb W a1).symm;have BC:But q HB (upd HB q (.ins a.A3 d.dp (jo ⇑d.ll ⇑D ⇑I ⇑d.el (0:) ⇑d.pl))):=But.upd;have a7:upd HB q (.ins a.A3 d.dp (jo ⇑d.ll ⇑D ⇑I ⇑d.el (0:) ⇑d.pl)) q∩a.A3 d.dp (jo ⇑d.ll ⇑D ⇑I ⇑d.el (0:) ⇑d.pl):=ya;generalize upd HB q (.ins a.A3 d.dp (jo ⇑d.ll ⇑D ⇑I ⇑d.el (0:) ⇑d.pl))=HC at BC a7⊢;have SC:y7 H HC:=λb o e=>BC _ _ (SB _ _ (SA _ _ e)) (yb e Y);let aN:=SC _ _ hp;ext;erw[yau (SqL.of (SC _ _ h.el)) λr hr0=>?_];exists hr0,HD,SD,er;let aS:=SD _ _ a7;ext;have ac:r≠q:=(yb a7 hr0).symm;have BE:But q HD (upd HD q (.ins a.A3 d.dp (jo ⇑d.ll ⇑D ⇑I ⇑r (0:) ⇑d.pl))):=But.upd;have az:upd HD q (.ins a.A3 d.dp (jo ⇑d.ll ⇑D ⇑I ⇑r (0:) ⇑d.pl)) q∩a.A3 d.dp (jo ⇑d.ll ⇑D ⇑I ⇑r (0:) ⇑d.pl):=ya;generalize upd HD q (.ins a.A3 d.dp (jo ⇑d.ll ⇑D ⇑I ⇑r (0:) ⇑d.pl))=HE at BE az⊢;have SE:y7 H HE:=λb o e=>BE _ _ (SD _ _ (SC _ _ e)) (yb e Y);let aQ:=SE _ _ hp;ext;have BF:But q HE (upd HE q (.ins a.A3 d.dp (jo ⇑d.ll ⇑D ⇑I ⇑r (X.nd:) ⇑d.pl))):=But.upd;have a8:upd HE q (.ins a.A3 d.dp (jo ⇑d.ll ⇑D ⇑I ⇑r (X.nd:) ⇑d.pl)) q∩a.A3 d.dp (jo ⇑d.ll ⇑D ⇑I ⇑r (X.nd:) ⇑d.pl):=ya;generalize upd HE q (.ins a.A3 d.dp (jo ⇑d.ll ⇑D ⇑I ⇑r (X.nd:) ⇑d.pl))=HF at BF a8⊢;have ah:But q HD HF:=BE.trans BF;have a4:But q HB HF:=(BC.trans (But.of SD)).trans ah;have M:But q G HF:=(BA.trans (But.of SB)).trans a4;have SF:y7 H HF:=λb o e=>M _ _ (N _ _ (S1 _ _ e)) (yb e Y);let a9:=M _ _ gD ak;let a6:=ah _ _ er ac;let aq:=a4 _ _ MB.o a5;let af:=a4 _ _ MB.l ap
 have a3:∀j,j<u.n->¬O2 j q:=λj x w=>by
  let e:=S.oO j q x w;rw[R]at e;cases e
 have ae:Bks K a HF u.n bk dx u.lk dd u.kd u.ps f2 O2 m:=S.B.frame (O2:=λc=>c=q) (λc o e ne=>M c o e ne) (λj c x w z=>a3 j x (z ▸ w)) (λj x z=>by
  let e:=S.oB j x;rw[z,R]at e
  cases e) (λt xs e=>by
  rcases e with(e|⟨o,e⟩)|e
  .erw[.inl (.inl (M _ _ e (λz=>by rw[z,am]at e;cases e)))]
  .erw[.inl (.inr #[o,M _ _ e (λz=>by rw[z,am]at e;cases e)])]
  .erw[.inr e])
 have ay:ym3 u.n u.kd f2 X.g:=λi hi k=>by
  rwa[gf i hi,h.ag i hi k]
 ext;erw[q,d.dp,d.ll,D,I,r,d.pl,X.nd,X.sg,u.n,m,bk,dx,u.lk,dd,u.kd,u.ps,f2,O2,X.g,J,a8,a9,a6,ae,ay,n6,(),a3,λpl sl f' O' H' au as ai B' aw av aa F' L'=>?_]
 have a2:∀j c,j<u.n->O2 j c->∃o,G c=some o:=λj c x w=>let ⟨o,ho,_⟩:=(S.B.b j x).own c w;#[o,ho]
 have ab:∀j,j<u.n->¬O2 j I:=λj x w=>by
  let#[o,ho]:=a2 j I x w;rw[BA _ _ ho a5]at ς;cases ς
 let nl:=λ{l:qa}{xs:Τ}(e:HF l\xs)=>ae.nlst e;have L:d.ll≠q:=λz=>by rw[z,R]at U;cases U
 let Z:=M _ _ (N _ _ U) L
 have SH:y7 H H':=λc o e=>F' c o (SF c o e) (yb e Y) λj x w=>by
  let e2:=S.oO j c x w;rw[S1 _ _ e]at e2;cases e2
 ext;erw[k q #[d.dp,d.ll,D,I,aB,l3,r,pl,u.n,bk,dx,u.lk,dd,sl,u.kd,u.ps] f' O' H' Y #[au,F' _ _ a9 ak (nl a9),F' _ _ a6 ac (nl a6),#[F' _ _ aq a5 ab,F' _ _ af ap (nl af)],h.wok,as,B',aw,av,λj x w=>?_,λj x w=>?_,n1,n6] #[F' _ _ Z L (nl Z),λz=>?_,tp,a0.same SH] J J J J (λj c x w=>?_) (λj x=>S1.free (S.oB j x)) (SA.free ς) (λl hl=>?_) SH]
 .rcases aa j q x w with v|v
  .erw[a3 j x v]
  .rw[a8]at v;cases v
 .rcases aa j I x w with v|v
  .erw[ab j x v]
  .rw[aq]at v;cases v
 .let e:=BC _ _ (SB _ _ (BA _ _ (N _ _ U) L)) L;rw[show d.ll=r from z,hr0]at e;cases e
 .rcases aa j c x w with v|v
  .erw[S1.free (S.oO j c x v)]
  .erw[SF.free v]
 .rcases hl with z|z|z|z|z
  .rw[z];erw[S1.free hD]
  .rw[z];erw[SC.free hr0]
  .rw[z];erw[SA.free a1]
  .rw[z];erw[SF.free ai]
  .rw[z];erw[S0.free ar]
#synth ∀(K:xy),∀(s:Int)(_:vs=[.int s])(_:∀r H',H r=none->H' r\↥(b8 s)->y7 H H'->Q ⇑r H'),yhh
def vc1:(Df.v P w mg Γ) T.Sk 1 (yhh K):=by
 exists Sk,["sign"],t;let#[n,J,k]:=h;exists 1,0,yc (yn (vx (js:=[0]) (ys:=["sign"]) J (ygn (uv J T.Gg)) (λC r e u=>(ym xb (ym vk (pv 1) (pv 0)) yg)) J J (hyc:=(all_cons J yw)) (hrel:=(all_cons J yw))));erw[a.Br,J,#[_,T.w_WORTHS H],λD g=>?_,<-ŝ (wV n) (T.w_WORTHS H) g (λi y e l d b=>?_) (λe d b=>?_)]
 .obtain⟨c,o,rfl,q⟩:∃c,0<c/\y=V.int c/\c<=128:=by
   let j:=ck l;simp only[bZ,List.not_mem_nil,or_false]at j;rcases j with rfl|rfl|rfl|rfl|rfl|rfl|rfl|rfl<;>erw[_,∅,J,∅]
  ext;erw[Mp.done g (by show 8<sizeLine;decide) l d b J]
 .erw[k D e g b d]
#synth ∀(K:xy),∀(t:qa)(ns:Ο)(_:vs=[.ref t])(_:H t\↥ns)(_:Sgs ns)(_:↑ns<=1000)(_:∀r H',H r=none->H' r\↥(dec ns)->y7 H H'->Q ⇑r H'),va4
def ymp:(Df.v P w mg Γ) T.Hq 5 (va4 K):=by
 exists Hq,["text","bits","sign"],R;let#[t,f,J,N,Z,X,k]:=h;exists 1,2,yf (pst 1 ϰ (wk ub)) (yf (uy PassesOwn.never J (we (uk (ymx T) R.m T.I7 ve (pav 0))) (wd (i:=2) ϰ J (Or.inl J)) (yf (yv ((zb PySem.F.plainAttrs_list PySem.F.slot_list_append PySem.F.type_list_append wz) (pv 1) (pa1 yg))) (yc (yv (zb PySem.F.plainAttrs_list PySem.F.slot_list_extend PySem.F.type_list_extend á (pv 1) (pa1 (x0 (vc1 T) R.m T.Sk (pav 2)))))))) (yf (yv ((zb PySem.F.plainAttrs_list PySem.F.slot_list_append PySem.F.type_list_append wz) (pv 1) (pa1 yg))) (yc (yn (pv 1)))));exists (by walk_at "len"),λr hr0=>?_
 exists hr0,H1,S1,hr1;ext;erw[.ref t,_,J,.lst (S1 _ _ N),.inr #[↥f,Ę (S1 _ _ N) Z X,λc H2 j n O=>?_]];let D:=S1.trans O;erw[c,J,#[_,SqL.of n],xw (K:=K) (a:=c) (xs:=↥f) (λi σ2 G=>∃v,σ2=[some ⇑t,some ⇑r,v]/\G r\↥(yde (f.take i))/\G c\↥f/\y7 H G)
  #[_,J,O _ _ hr1,n,D] (by rintro i σ2 G _ ⟨_,_,_,z,_⟩;erw[SqL.of z]) ?_ ?_]
 .rintro i y σ2 G hi ⟨v,rfl,d,x,M⟩;let#[z,J,S,ς,a0]:=ju hi;have u:c≠r:=λe=>by rw[e,hr1]at j;cases j
  have l:↑(List.map V.int (yde (f.take i)))<=9000:=by rw[bL,Å,cz];omega
  ext;erw[jn d ?_,←xr d (vi ()) ?_];have p:y7 H (upd G r (.lst (List.map V.int (yde (f.take i))++[V.int 1]))):=λb o e=>ye (yb e hr0) (M b o e);have B:upd G r (.lst (List.map V.int (yde (f.take i))++[V.int 1])) c\↥f:=ye u x;have g:upd G r (.lst (List.map V.int (yde (f.take i))++[V.int 1])) r\(List.map V.int (yde (f.take i)++[1])):=by rw[ya,ce];rfl
  generalize upd G r (.lst (List.map V.int (yde (f.take i))++[V.int 1]))=G1 at p B g⊢;ext;erw[jn g ?_,←z,J,λq G2 W L T2=>?_];ext;let C:=T2 _ _ g;erw[r,q,_,_,J,J,C,L,vw (by rw[bL,bL,bQ,ys0];rw[bL]at l;show _+1+8<=_;omega),?_,←_,J,?_,?_,λb o e=>ye (yb e hr0) (T2 _ _ (p b o e))]
  .rw[ya,jq ς,yb5,yoh,cq];rfl
  .erw[ye u (T2 _ _ B)]
 .rintro σ2 G ⟨v,rfl,d,x,M⟩;rw[bL,cX]at d;ext;erw[jn d ?_,←xr d (vi (by rw[bL,Å];omega)) ?_,←k r _ hr0 ?_ λb o e=>ye (yb e hr0) (M b o e)];rw[ya,ypw,ce];rfl
#synth ∀(C:qa),∀(p dx pd:qa)(v1 v2 v3:V)(d:Ο)(k:Nat)(_:vs=[.ref p,.int k])(_:H p∩C dx (ymz ⇑pd v1 v2 v3))(_:H pd\↥d)(_:Q (.int ((d[k]?).getD 0)) H),yg6
def vcm:(Df.v P w mg Γ) T.Lj 1 (yg6 a.Al):=by
 exists Lj,["self","place"],t;let#[p,m,q,l,j,i,d,o,J,r,c,k]:=h;exists 2,0,yc (yn (j4 (yq ybh (pv 1) (pcB yp T.A9 (pa1 pfs)) (yy _)) (pix vn pfs (pv 1)) yg));erw[uz (SqL.of c) ?_];rw[bL];ext;erw[z9 (λn=>?_) (λn=>?_)]
 .have e:o<↑d:=()
  rw[bP e]at k;ext;erw[ul (SqL.of c) (wb (by rw[bU,bP e];rfl)) k]
 .rw[cQ ()]at k;ext;erw[k]
#synth ∀(C D:qa),∀(p dx pd ps ds:qa)(d:Ο)(x:Sn)(r:Nat)(_:vs=[.ref p])(_:H p∩C dx (ymz ⇑pd ⇑ps ((rn d r):) (r:)))(_:H pd\↥d)(_:H ps∩D ds (τ x))(_:p≠ps)(_:OkS x)(_:r<=sz x)(_:∀H',H' p∩C dx (ymz ⇑pd ⇑ps ((rn d (sz x)):) (x.2.2:))->But p H H'->Q .non H'),yiw
def yss:(Df.v P w mg Γ) T.Fo 2 (yiw a.Al a.A8):=by
 exists Fo,["self"],I;let#[p,n,l,g,o,d,x,r,J,q,u,L,i,M,f,k]:=h;erw[_,(yc (È PassesOwn.never (yq ybh pfs (z0 pfs J) (yy _)) (yf (y8 (pv 0) (ym v9 (ym xa pfs yg) (wv (pv 0) T.Ay T.Lj.m (vcm T) I.m T.Lj.B .nil vo (pa1 pfs))) J) (yc (y8 (pv 0) (ym v9 pfs yg) J))))),?_];exists 1,0;let D:=M.sz;erw[λm σ' t=>∃r:Nat,σ'=[some ⇑p]/\t p∩a.Al n (ymz ⇑l ⇑g ((rn d r):) (r:))/\r<=sz x/\But p H t/\m=sz x-r,#[_,r,J,q,f,But.refl,J],?_];rintro m σ2 N ⟨r,rfl,b,v,c,rfl⟩;have ς:N g∩a.A8 o (τ x):=c _ _ L i.symm;let e:=c.lst q u;ext;erw[z9 (λz=>?_) (λz=>?_)]
 .erw[ycz ?_];ext;erw[p,n,l,_,_,_,d,r,J,b,e,?_];ext;exists _,?_,r+1,J,?_,(),(c.trans But.upd).trans But.upd,rfl
  .omega
  .rw[ya];rfl
 .have y:r=sz x:=()
  subst y;ext;erw[k _ ?_ c];rwa[<- D,b]
#synth ∀(K:xy)(a:Ads),∀(p dx:qa)(v:V)(n:String)(_:vs=[.ref p,v])(_:H p∩a.Al dx [])(_:jc K H v (.type n))(_:((Bad K H v n 12000/\∀H',y7 H H'->E ⇑a.Jn none H')\/∃d:Ο,vhu K H v ↥d 12000/\∀pd ps ds H',H pd=none->H ps=none->yii a H' p dx pd ps ds d s0->But p H H'->Q .non H')),yim
def va3:(Df.e P w mg Γ) T.Sl 5 (yim K a):=by
 exists Sl,ς,["self","data"];let#[p,r,v,n,J,S,ty,h]:=h;exists 2,0,yf (y8 (pv 0) (uk (vic T) ς.m T.Uk yo (pav 1)) J) (yf (y8 (pv 0) (je T.Mf (yqy T) ς.m J T.Me T.L6.B .nil vo) J) (yf (y8 (pv 0) yg J) (yf (y8 (pv 0) yg J) (yc (yv (vj (pv 0) T.Ay T.Fo.m (yss T) ς.m T.Fo.B .nil vo))))));erw[v,n,J,ty,?_];rcases h with⟨X,k⟩|⟨d,Y,k⟩
 .erw[.inl #[X,k]]
 .erw[.inr #[↥d,Y,λi y q I U=>?_]];let W:=U _ _ S;have f:i≠p:=λz=>by rw[z,S]at q;cases q
  ext;have N:But p H (upd y p (.ins a.Al r ([("data",V.ref i)]:Ι))):=(But.of U).trans But.upd;have l:upd y p (.ins a.Al r ([("data",V.ref i)]:Ι)) p∩a.Al r ([("data",V.ref i)]:Ι):=ya;have u:upd y p (.ins a.Al r ([("data",V.ref i)]:Ι)) i\↥d:=ye f I;generalize upd y p (.ins a.Al r ([("data",V.ref i)]:Ι))=H2 at N l u⊢;intro t G g nds ne;erw[t,G,J,ya,λO x B3=>#[J,?_]];have M:y7 H2 O:=λb o e=>B3 b o (by rwa[yk (yb e g),yk (yb e nds),e]) (yb e g);let a0:=M _ _ l;let hd3:=M _ _ u;have c:p≠t:=yb l g
  have C:H t=none:=by
   cases e:H t with
   |none=>rfl
   |some o=>erw[absurd (N _ _ e c.symm) (by rwa[g,λz=>nomatch z])]
  ext;erw[p,r,i,t,G,d,s0,0,J,ya,?_,?_,c,vj4,cK _,λR L B4=>?_]
  .erw[ye f (ye f (ye f hd3))]
  .erw[ye c.symm (ye c.symm (ye c.symm x))]
  .ext;have j:But p O R:=((But.upd.trans But.upd).trans But.upd).trans B4;erw[k i t G R q C #[L,j _ _ hd3 f,j _ _ x c.symm,c] ((N.trans (But.of M)).trans j)]
#synth ∀(K:xy)(a:Ads),∀(p dx pd ps ds:qa)(d:Ο)(x:Sn)(v:V)(n:String)(_:vs=[.ref p,v])(_:yii a H p dx pd ps ds d x)(_:OkS x)(_:jc K H v (.type n))(_:(chV v=false->E ⇑a.Gm none H))(_:∀c:Int,v=.int c->Ch c->∀H',yii a H' p dx pd ps ds d (nar x c (ë d x c))->ym2 p ps H H'->Q ((ë d x c):) H'),ypo
def yzz{x:Sn}{c b:Int}(h:Ok x)(hc:Ch c):sz x<=sz (nar x c b):=by
 let#[r,e]:=vfp (if b=1 then x.1 else x.1+cut x.2.1 c) (if b=1 then cut x.2.1 c else x.2.1-cut x.2.1 c) x.2.2
 have a:nar x c b=ren (if b=1 then x.1 else x.1+cut x.2.1 c) (if b=1 then cut x.2.1 c else x.2.1-cut x.2.1 c) x.2.2:=by
  unfold nar
  split<;>rfl
 rw[a,e];unfold sz;dsimp only;omega
def vcz:(Df.e P w mg Γ) T.Lk 5 (ypo K a):=by
 exists Lk,u,["self","chance","bit"];let#[p,M,L,j,o,d,x,v,n,J,i,y,ty,R,k]:=h;exists 2,1,yf (yv (uk (yx2 T) u.m T.Mu yo (pav 1))) (yf (Î (pst 2 ϰ (j4 (yq ybh pfs (ym v9 (z0 pfs J) (wv pfs T.Ai T.Fl.m (yp9 T) u.m T.Fl.B .nil vo (pav 1))) (yy _)) yg yg))) (yf (yv (yu pfs T.Ai T.Fm.m (yqr T) u.m T.Fm.B .nil yo (pac (pv 1) (pav 2)))) (yf (yv (vj (pv 0) T.Ay T.Fo.m (yss T) u.m T.Fo.B .nil vo)) (yc (yn (pv 2))))));erw[v,n,J,ty,λhv=>?_,R];let#[c,J,Z,c2]:=yeg hv;have r:Ch c:=#[Z,c2];let k:=k c J r;let G:=i.me;let e:=i.sp;ext;erw[ye5 (λσ' O=>σ'=[some ⇑p,some (c:),some ((ë d x c):)]/\H=O) ?_ ?_]
 .ext;erw[j,o,_,J,e,lkN _ (by right) (by right) (by right),?_,←j,o,x,c,J,e,r,?_];ext;unfold ë;refine z9 (λt=>?_) (λt=>?_)
  .rw[if_pos t];ext;erw[J,rfl]
  .rw[if_neg t];ext;erw[J,rfl]
 .rintro σ' O ⟨rfl,rfl⟩;let ς:=ya0 d x c;generalize t:ë d x c=b at ς k⊢;ext;erw[j,o,_,J,e,lkN _ (by right) (by right) (by right),?_,←j,o,x,.int c,.int b,_,_,J,e,y.ok,.int c,.int b,(λz=>by rw[yct r]at z;cases z),(λF z=>by rw[ya4 () ()]at z;cases z),λS W U Y F F F H1 q I=>?_];obtain rfl:c=S:=V.int.inj U;obtain rfl:b=W:=V.int.inj Y;let f:=I _ _ G i.ne;let g:=I.lst e i.dt;ext;have l:H1 p∩a.Al M (ymz ⇑L ⇑j ((rn d (sz x)):) (((sz x:Nat):Int):)):=by rw[y.sz];exact f
  erw[p,M,L,j,o,d,nar x c b,sz x,J,l,g,q,i.ne,yec y r,yzz y.ok r,λH2 D N=>?_,←k H2 #[D,N.lst f g,N _ _ q i.ne.symm,i.ne] (I.two'.trans N.two)]
#synth ∀(a:Ads),∀(p dx pd ps ds:qa)(d:Ο)(x:Sn)(_:vs=[.ref p])(_:yii a H p dx pd ps ds d x)(_:OkS x)(_:sz x<=tMx)(_:∀t H',H t=none->H' t\↥(tL x)->y7 H H'->Q ⇑t H'),yje
def vb1:(Df.v P w mg Γ) T.Ll 4 (yje a):=by exists Ll,["self"],n;let#[p,o,q,c,f,d,x,J,g,r,t,k]:=h;let l:=g.me;let b:=g.sp;exists 1,0,yc (yn (vj pfs T.Ai T.Fn.m (ytp T) n.m T.Fn.B .nil vo));erw[c,f,_,J,b,lkN _ (by right) (by right) (by right),?_,←c,f,x,J,b,r,t,k]
theorem vdh : yi ["thing"] ["thing"] (yd (top 78)):=wc (by decide +kernel)
def yca(K:xy):Sp:=λvs H Q Z=>(vs=[.non]/\∀r H',H r=none->H' r\[]->y7 H H'->Q ⇑r H')\/∃(l:qa)(n:Nat)(tx:Λ)(tt:Κ),vs=[.ref l]/\H l\(refs tx n)/\n<=1000/\(∀i,i<n->ă H (tx i) (tt i) 1000)/\
 ∀r(cx:Λ)H',H r=none->H' r\(refs cx n)->(∀i,i<n->H (cx i)=none/\H' (cx i)\↥(tt i))->y7 H H'->Q ⇑r H'
def vb8:(Df.v P w mg Γ) T.Sm 5 (yca K):=by
 erw[T.Sm.F.ok vdh (λZ H Q E h=>?_) (λϰ a0 A ς s H Z Q E U h=>?_)]
 .rcases h with⟨rfl,_⟩|⟨l,n,B,R,rfl,_⟩<;>rfl
 .rcases h with⟨rfl,k⟩|⟨l,n,B,R,rfl,N,hn,Y,k⟩
  .erw[_,(yf (vz (yq ycq (pv 0) u9 (yy _)) (yc (yn (wk ub))) yx) (yf (vz (u5 (u6 (pcB wy T.A5 (pac (pv 0) (pa1 (j9 (T:="list") J T.An (by right))))))) (yc Á) yx) (yc (yn (vx (js:=[]) (ys:=[]) J (we (pv 0)) (λC s2 H2 X=>(uk (ymx T) U.m T.I7 ve (pav 0))) J J (hyc:=yw) (hrel:=yw)))))),?_];erw[yj (σ':=[some _]) J ?_,←vi5 ?_];ext;exists (by walk_at "len"),λr u=>?_
   erw[k r _ u ya (y9 u)]
  .erw[_,(yf (vz (yq ycq (pv 0) u9 (yy _)) (yc (yn (wk ub))) yx) (yf (vz (u5 (u6 (pcB wy T.A5 (pac (pv 0) (pa1 (j9 (T:="list") J T.An (by right))))))) (yc Á) yx) (yc (yn (vx (js:=[]) (ys:=[]) J (we (pv 0)) (λC s2 H2 X=>(uk (ymx T) U.m T.I7 ve (pav 0))) J J (hyc:=yw) (hrel:=yw)))))),?_];erw[yj (σ':=[some _]) J ?_];ext
   erw[yc9 (λz=>nomatch z) ?_]
   ext;erw[ŏ (.lst N) (yfk _ _) ?_,←l,J,#[_,SqL.of N],λD I=>?_];refine zu (K:=K) (xs:=refs B n) (λi G=>∃f:Λ,G D\(refs f i)/\(∀j,j<i->H (f j)=none/\G (f j)\↥(R j)/\f j≠D)/\y7 H G)
    #[λF=>0,ya,λj x=>absurd x (cD j),y9 I] (λi G F ⟨_,_,_,S⟩=>SqL.of (S _ _ N)) (λi y G hy v z=>?_) (λG z=>?_)
   .let#[f,t,p,S]:=z;let#[J,M]:=u7 hy;let d:=(Y i M).same S;ext;erw[.ref (B i),_,J,.lst d.l,.inr #[↥(R i),Ę d.l d.s d.z,λc G2 g O L=>?_]];have W:c≠D:=(yb t g).symm;erw[xk (n:=↑(refs B n)) (L _ _ t) (vi (by rw[vv];omega)) v ?_];exists upN f i c,?_,λj x=>?_,λb o e=>ye (yb e I) (L _ _ (S b o e))
    .rw[ya,x9,wx]
     congr 3
     erw[xu λj x=>(wu x).symm]
    .by_cases z:j=i
     .rw[z,wx];erw[S.free g,ye W O,W]
     .have q:j<i:=()
      rw[wu q];let#[g1,g2,g3]:=p j q;erw[g1,ye g3 (L _ _ g2),g3]
   .let#[f,t,p,S]:=z;rw[vv]at t p;erw[k D f G I t (λi v=>#[(p i v).1,(p i v).2.1]) S]
def yj7{H:Hp}{lx:V}{N w:Nat}{lt:Λ}{tt:Κ}{Q:VK}{E:XK}(h:yyi H lx N w lt tt)(hw:w<=1000)(hN:N<=1000)
  (k:∀r(cx:Λ)H',H r=none->H' r\(refs cx N)->(∀i,i<N->H (cx i)=none/\H' (cx i)\↥(tt i))->y7 H H'->Q ⇑r H'):yca K [lx] H Q E:=by
 obtain⟨⟨rfl,rfl⟩|⟨d,rfl,c⟩,b⟩:=h
 .erw[.inl #[J,λr H' f e S=>k r (λZ=>0) H' f e (λi a=>absurd a (cD i)) S]]
 .erw[.inr #[d,N,lt,tt,J,c,hN,λi a=>#[(b i a).l,(b i a).s,cN (b i a).z hw],k]]
structure vl8(H H':Hp)(r:qa)(m:Nat)(tu cl:Λ)(mx:Nat->Int)(cs:Κ)(bt:Nat->Int):Prop where
 r0:H r=none
 r:H' r\(refs tu m)
 t:∀j,j<m->H' (tu j)∪[.int (mx j),.ref (cl j),.int (bt j)]
 c:∀j,j<m->H (cl j)=none/\H' (cl j)\↥(cs j)
#synth ∀(K:xy)(a:Ads),∀(p:qa)(A:FA)(X:FX)(f:Α)(O:Β)(m:Nat)(tl:qa)(n w:Nat)(tx:Λ)(tt:Κ)(_:vs=[.ref p,.ref tl])(_:zr K a H p A X f O m)(_:X.sg=[])(_:X.nd=0)(_:H tl\(refs tx n))(_:tl≠A.el)(_:(∀i,i<n->ă H (tx i) (tt i) w/\tx i≠A.el))(_:w<=1000)(_:m+6*(n*(9*w+1))+20<1000000)(_:∀(ml el pl:qa)(sl:Λ)(f':Α)(O':Β)(m':Nat)(H':Hp),zr K a H' p (A.re ml el pl sl) (X.run A (Ą tt n)) f' O' m'->m'<=m+6*(n*(9*w+1))->FGo p A O H H' el O'->(X.run A (Ą tt n)).sg=[]->(X.run A (Ą tt n)).nd=0->Q .non H'),yoj
def vds:(Df.v P w mg Γ) T.So 7 (yoj K a):=by
 exists So,["foreteller","texts","text","bit"],hr;let#[p,c,X,f,O,m,tl,n,w,tx,d,J,hF,ab,ao,a2,a8,a7,hw,hm,k]:=h;exists 2,2,yc (uy PassesOwn.never J (we (pv 1)) (wd (i:=2) ϰ J (Or.inl J)) (yc (uy PassesOwn.never J (we (x0 (ymp T) hr.m T.Hq (pav 2))) (wd (i:=3) ϰ J (Or.inl J)) (yc (yv (wv (pv 0) T.Ad T.Co.m (ygo T) hr.m T.Co.B .nil vo (pav 3)))))));erw[tl,J,#[_,SqL.of a2],xw (K:=K) (a:=tl) (xs:=refs tx n) (λi σ2 G=>∃(v1 ς:Χ)(W t U:qa)(Z:Λ)(f':Α)(O':Β)(m':Nat),σ2=[some ⇑p,some ⇑tl,v1,ς]/\zr K a G p (c.re W t U Z) (X.run c (Ą d i)) f' O' m'/\m'<=m+6*(i*(9*w+1))/\FGo p c O H G t O'/\(X.run c (Ą d i)).sg=[]/\(X.run c (Ą d i)).nd=0)
  #[_,_,c.ml,c.el,c.pl,c.sl,f,O,m,J,hF,Nat.le_add_right _ _,FGo.refl,ab,ao] (by rintro i σ2 G _ ⟨_,_,_,_,_,_,_,_,_,_,_,_,go,_,_⟩;erw[SqL.of ((go.kpa hF).lst a2 a8)]) ?_ ?_]
 .rintro i y σ2 G hy ⟨v1,ς,W,t,U,Z,f1,O1,m1,rfl,q,N,r,g,o⟩;let#[J,a3]:=u7 hy;let#[R,a9]:=a7 i a3;let a1:=(r.kpa hF).lst R.l a9;let M:=R.s;let hz:=R.z
  have a5:i*(9*w+1)+(9*w+1)<=n*(9*w+1):=by
   have:(i+1)*(9*w+1)<=n*(9*w+1):=Nat.mul_le_mul_right _ a3;rw[Nat.add_mul,Nat.one_mul]at this;erw[this]
  let ar:=xp (d i);ext;erw[tx i,d i,J,a1,M,(),λbt G1 a4 x S1=>?_]
  let v:=q.same S1;have ae:bt≠t:=(yb q.el a4).symm;erw[bt,J,#[_,SqL.of x],xw (K:=K) (a:=bt) (xs:=↥(dec (d i))) (λj σ2 G'=>∃(ς:Χ)(ml' el' pl':qa)(sl':Λ)(f':Α)(O':Β),σ2=[some ⇑p,some ⇑tl,some ⇑(tx i),ς]/\zr K a G' p (c.re ml' el' pl' sl') ((X.run c (Ą d i)).run c ((dec (d i)).take j)) f' O' (m1+6*j)/\FGo p (c.re W t U Z) O1 G1 G' el' O'/\TxE (d i) j ((X.run c (Ą d i)).run c ((dec (d i)).take j)).sg ((X.run c (Ą d i)).run c ((dec (d i)).take j)).nd)
   #[_,W,t,U,Z,f1,O1,J,v,FGo.refl,.inl #[cK _,by show ybi _ _ (X.run c (Ą d i)).sg (X.run c (Ą d i)).nd;rwa[g,o,ybi.zero _]]] (by rintro j σ2 G' _ ⟨_,_,_,_,_,_,_,_,_,go,_⟩;erw[SqL.of ((go.kpa v).lst x ae)]) ?_ ?_]
  .rintro j y σ3 G' hy ⟨ς,D,I,C,S,f2,O2,rfl,e,L,Y⟩;let#[b,J,ak,hb,hj]:=ju hy;let#[b0,b1]:=jf _ b ak;let#[a0,al]:=Y.next M hb;let#[ad,ap]:=a0.nd M;let aq:=a0.len;let as:=e.me;ext;exists p,c.re D I C S,_,f2,O2,m1+6*j,b,J,e,b0,b1,(),ad,(),λag ai an a6 f3 O3 G3 aa ah aj af ac F=>?_
   ext;let n6:=e.n6;erw[_,ag,ai,an,a6,f3,O3,J,?_,L.trans #[aa,aj,af,ac],?_]
   .rw[zl hb];erw[ah.up (by show m1+6*j+c.n<=_;have:c.n<=6:=n6;omega)]
   .rw[zl hb];erw[al]
  .rintro σ3 G' ⟨ς,D,I,C,S,f2,O2,rfl,e,L,Y⟩;rw[bL]at e Y;rw[cX]at e Y;have er:X.run c (Ą d (i+1))=(X.run c (Ą d i)).run c (dec (d i)):=Ú c _ _ X;rw[<- er]at e Y
   have u:(X.run c (Ą d (i+1))).sg=[]/\(X.run c (Ą d (i+1))).nd=0:=by
    rcases Y with⟨h,_⟩|⟨_,h⟩
    .omega
    .erw[h]
   ext;erw[_,_,D,I,C,S,f2,O2,_,J,e,by rw[Nat.add_mul,Nat.one_mul];omega,r.trans (FGo.ahead S1 L),u.1,u.2]
 .rintro σ2 G ⟨v1,ς,W,t,U,Z,f1,O1,m1,rfl,q,N,r,g,o⟩;rw[vv]at q N g o;ext;erw[k W t U Z f1 O1 m1 G q N r g o]
#synth ∀(K:xy)(a:Ads),∀(L tx:qa)(lx:V)(n:Nat)(lk:Λ)(kd:Ν)(tp:Λ)(ps:Κ)(ts:Ο)(N w:Nat)(lt:Λ)(tt:Κ)(_:vs=[.ref L,.ref tx,lx])(_:vj6 H L tx lx n lk kd tp ps ts N w lt tt)(_:∀r(tu cl:Λ)H',H r=none->H' r\(refs tu ↑(dec ts))->(∀j,j<↑(dec ts)->H' (tu j)∪[.int (uf n kd ps (Ą tt N) ts j),.ref (cl j),.int (vh ts j)])->y7 H H'->Q ⇑r H'),yuq
def vaz:(Df.v P w mg Γ) T.Sq 8 (yuq K a):=by
 exists Sq,["looks","text","learned","foreteller","bits","rows","bit"],hr;let#[L,tx,lx,n,lk,kd,tp,ps,g,N,w,lt,tt,J,d,k]:=h;let aF:=d.b;let n1:=d.n1;let n6:=d.n6;erw[yh (pst 3 ϰ (uu T.Ti (ylq T) hr.m J T.Th T.Ho.B .nil ve (pav 0))) ?_,<-yh (pst 4 ϰ (x0 (ymp T) hr.m T.Hq (pav 1))) ?_,<-yh (yv (x0 (vds T) hr.m T.So (pac (pv 3) (pa1 (x0 (vb8 T) hr.m T.Sm (pav 2)))))) ?_,<-yh (pst 5 ϰ (wk ub)) ?_,<-yh (uy PassesOwn.never J (we (pv 4)) (wd (i:=6) ϰ J (Or.inl J)) (yf (yv ((zb PySem.F.plainAttrs_list PySem.F.slot_list_append PySem.F.type_list_append wz) (pv 5) (pa1 (zj (pac (vj (pv 3) T.Ad T.Dr.m (yme T) hr.m T.Dr.B .nil vo) (pac (vj (pv 3) T.Ad T.Dq.m (yml T) hr.m T.Dq.B .nil vo) (pav 6))))))) (yc (yv (wv (pv 3) T.Ad T.Co.m (ygo T) hr.m T.Co.B .nil vo (pav 6)))))) ?_];exists 3,4,yc (yn (pv 5));intro p dp np ay aP;have S0:y7 H (upd (upd H dp (.own p)) p (.ins a.A3 dp [])):=λb o e=>by rwa[yk (yb e np),yk (yb e ay),e]
 erw[p,dp,.ref L,J,ya,.inr #[L,n,lk,kd,tp,ps,J,S0 _ _ d.l,n1,n6,d.r.same S0,λA f O H1 N1 B1=>#[J,?_]]];let#[am,J,J,J,J,oO,oB,oM,oL]:=N1;have S1:y7 H H1:=λb o e=>B1 b o (S0 b o e) (yb e np);have I:∀{c:qa},upd (upd H dp (.own p)) p (.ins a.A3 dp []) c=none->H c=none:=λh=>S0.free h;have ak:H A.el=none:=I (oL A.el (.inr (.inl J)));ext;erw[tx,g,J,S1 _ _ d.t.l,d.t.s,d.t.z,λbt H2 al a4 S2=>?_];let a7:=S1.trans S2;let x:=am.same S2;have ac:bt≠A.el:=(yb am.el al).symm;ext;erw[yj7 (d.lr.same a7) d.w1 d.N1 λaE cx H3 h0 h3 hx S3=>?_,←p,A,FX0 A.n A.kd,f,O,6,aE,N,w,cx,tt,J,x.same S3,J,J,h3,(yb x.el h0).symm,λi u=>#[#[(hx i u).2,(d.lr.2 i u).s,(d.lr.2 i u).z],(yb x.el (hx i u).1).symm],d.w1,(),λml el pl sl f1 O1 m1 H4 U as a0 aj ab=>?_]
 let a0:=FGo.ahead S3 a0;let U:=U.up as;let ai:=(a0.kpa x).lst a4 ac;let aM:=xp g;let aH:=d.t.z;let ah:=d.t.s;generalize hX:(FX0 A.n A.kd).run A (Ą tt N)=W at U aj ab;generalize hM:6+6*(N*(9*w+1))=M at U aF;ext;exists (by walk_at "len"),λR hR0=>?_
 exists hR0,H5,S5,hR5;have ad:H2 R=none:=a0.free hR0;ext;erw[bt,J,#[_,SqL.of (S5 _ _ ai)],xw (K:=K) (a:=bt) (xs:=↥(dec g)) (λj σ2 G=>∃(v:Χ)(ml el pl:qa)(sl:Λ)(f':Α)(O':Β)(S cl:Λ),σ2=[some ⇑L,some ⇑tx,some lx,some ⇑p,some ⇑bt,some ⇑R,v]/\
   zr K a G p (A.re ml el pl sl) (W.run A ((dec g).take j)) f' O' (M+6*j)/\FGo p A O H2 G el O'/\TxE g j (W.run A ((dec g).take j)).sg (W.run A ((dec g).take j)).nd/\(G R\(refs S j)/\R≠el)/\
   (∀i,i<j->G (S i)∪[.int (ym0 (W.run A ((dec g).take i)).ws ((W.run A ((dec g).take i)).cs A)),.ref (cl i),.int (vh g i)]))
  #[_,ml,el,pl,sl,f1,O1,λF=>0,λF=>0,J,U.same S5,a0.same S5,.inl #[cK _,by show ybi _ _ W.sg W.nd;rwa[aj,ab,ybi.zero _]],#[hR5,(yb U.el hR0).symm],λi u=>absurd u (cD i)]
  (by rintro j σ2 G _ ⟨_,_,_,_,_,_,_,_,_,_,_,go,_⟩;erw[SqL.of ((go.kpa x).lst a4 ac)]) ?_ ?_]
 .rintro j y σ2 G hy ⟨v,X,ς,Z,Y,f2,O2,S,cl,rfl,hF,go,hT,⟨hR,nR⟩,q⟩;let#[b,J,az,hb,hj]:=ju hy;let#[b0,b1]:=jf _ b az;let#[ag,aA]:=hT.next ah hb;let#[av,aJ]:=ag.nd ah;let aK:=ag.len;have ar:vh g j=b:=by unfold vh;rw[hb];rfl
  let aq:=hF.me;ext;erw[jn hR ?_,←p,A.re X ς Z Y,_,f2,O2,_,J,hF,λG1 T1=>?_];let aG:=T1 _ _ aq;ext;erw[p,A.re X ς Z Y,_,f2,O2,_,J,hF.same T1,λc G2 aN aL T2=>?_];ext;exists (by walk_at "len"),λt ht0=>?_
  exists ht0,G3,T3,ht3;let D:=T1.trans (T2.trans T3);ext;erw[xr (D _ _ hR) (vi (by rw[vv];omega)) ?_];let ae:=hF.same D;let a1:=D _ _ hR;have C:zr K a (upd G3 R (.lst (refs S j++[V.ref t]))) p (A.re X ς Z Y) (W.run A ((dec g).take j)) f2 O2 (M+6*j):=ae.app a1 (ae.notR a1 (λi u=>#[_,D _ _ (q i u),J]) nR);have a3:FGo p A O H2 (upd G3 R (.lst (refs S j++[V.ref t]))) ς O2:=(go.same D).app ad;have a9:upd G3 R (.lst (refs S j++[V.ref t])) t∪[.int (ym0 (W.run A ((dec g).take j)).ws ((W.run A ((dec g).take j)).cs A)),.ref c,.int b]:=ye (xf ht3 a1 (by intro z;cases z)) ht3
  have a8:upd G3 R (.lst (refs S j++[V.ref t])) R\(refs (upN S j t) (j+1)):=by
   rw[ya,x9,wx]
   congr 3
   erw[xu λi u=>(wu u).symm]
  have ydg:∀i,i<j->upd G3 R (.lst (refs S j++[V.ref t])) (S i)∪[.int (ym0 (W.run A ((dec g).take i)).ws ((W.run A ((dec g).take i)).cs A)),.ref (cl i),.int (vh g i)]:=λi u=>ye (xf (D _ _ (q i u)) a1 (by intro z;cases z)) (D _ _ (q i u));generalize upd G3 R (.lst (refs S j++[V.ref t]))=G4 at C a3 a9 a8 ydg⊢;let aI:=C.me;ext;let aQ:=hF.n6;erw[p,A.re X ς Z Y,_,f2,O2,M+6*j,b,J,C,b0,b1,(),av,(),λax af aD ao f3 O3 G5 aB an ap au aw F=>?_]
  have aa:FGo p (A.re X ς Z Y) O2 G4 G5 af O3:=#[aB,ap,au,aw];let a2:=aa.kpa C;let a5:=C.el;ext;erw[_,ax,af,aD,ao,f3,O3,upN S j t,upN cl j c,J,?_,a3.trans aa,?_,#[(a2 _ _ a8 J nR).2,(a2 _ _ a8 J nR).1],λi u=>?_]
  .rw[zl hb];erw[an.up (by show M+6*j+A.n<=_;omega)]
  .rw[zl hb];erw[aA]
  .by_cases z:i=j
   .rw[z,wx,wx,ar];erw[(a2 _ _ a9 J (xf a9 a5 (by intro z;cases z))).2]
   .have a6:i<j:=()
    rw[wu a6,wu a6];let o1:=ydg i a6;erw[(a2 _ _ o1 J (xf o1 a5 (by intro z;cases z))).2]
 .rintro σ2 G ⟨v,X,ς,Z,Y,f2,O2,S,cl,rfl,hF,go,hT,⟨hR,nR⟩,q⟩;rw[bL]at q;rw[bL]at hR
  have eX:∀i,fX A.n A.kd A.ps (Ą tt N) g i=W.run A ((dec g).take i):=λi=>by
   unfold fX;rw[<- ķ,<- ķ,hX]
  ext;erw[k R S cl G (a7.free ad) hR (λi u=>?_) ?_]
  .rw[q i u];unfold uf;rw[eX];rfl
  .intro c o e;refine go.fr c o (a7 _ _ e) (λz=>?_) (λz=>?_) (λz=>?_) (λi u w'=>?_)
   .rw[z,np]at e;cases e
   .rw[z,I oM]at e;cases e
   .rw[z,ak]at e;cases e
   .rw[I (oO i c u w')]at e;cases e
theorem vb7 : yi ["looks","text","learned"] ["looks","text","learned"] (yd (top 81)):=wc (by decide +kernel)
structure vl5(H H':Hp)(r:qa)(m:Nat)(tu:Λ)(mx bt:Nat->Int):Prop where
 r0:H r=none
 r:H' r\(refs tu m)
 t:∀j,j<m->H' (tu j)∪[.int (mx j),.int (bt j)]
#synth ∀(K:xy),∀(L tx:qa)(lx:V)(n:Nat)(lk:Λ)(kd:Ν)(tp:Λ)(ps:Κ)(ts:Ο)(N w:Nat)(lt:Λ)(tt:Κ)(_:vs=[.ref L,.ref tx,lx])(_:vj6 H L tx lx n lk kd tp ps ts N w lt tt)(_:∀r(tu:Λ)H',vl5 H H' r ↑(dec ts) tu (uf n kd ps (Ą tt N) ts) (vh ts)->y7 H H'->Q ⇑r H'),ynb
def yzk:vq P w K mg Γ CX0 9 a.Ip a.Hk ["looks","text","learned"] (ynb K):=by
 refine T.Sr.ok vb7 (fun ϟ H Q E h=>?_) (fun ϟ A ϟ s H ϟ Q E hr h=>?_); left;let#[L,tx,R,n,lk,ς,tp,O,c,N,w,lt,Y,J,q,k]:=h;let hz:=q.t.z;let a2:=xp c;exists 3,0,yc (yn (yap (js:=[]) (ys:=[]) (xs:=["chance","chances","bit"]) (g:=yyc K 3 (ja (xm 0) (ja (xm 1) (ja (xm 2) ymy)))) J (we (x0 (vaz T) hr.m T.Sq (pac (pv 0) (pac (pv 1) (pav 2))))) (λC s2 H2 fp=>(zj (pac (pv 0) (pav 2)))) J (λC s2 H2 fp=>Ũ J (xx (wd (i:=0) (show List.Nodup ((["chance","chances","bit"]:Ρ)++([]:Ρ)) by right) J (Or.inl J)) (xx (wd (i:=1) (show List.Nodup ((["chance","chances","bit"]:Ρ)++([]:Ρ)) by right) J (Or.inl J)) (xx (wd (i:=2) (show List.Nodup ((["chance","chances","bit"]:Ρ)++([]:Ρ)) by right) J (Or.inl J)) û)))) J (hyc:=yw) (hrel:=yw)));erw[L,tx,R,n,lk,ς,tp,O,c,N,w,lt,Y,J,q,λr0 r cl H1 W y B S1=>?_];generalize uf n ς O (Ą Y N) c=F at B k;erw[r0,J,#[_,SqL.of y],λD M=>?_,<-yh1 (K:=K) (xs:=refs r ↑(dec c)) (λi G=>∃l:Λ,G D\(refs l i)/\(∀j,j<i->G (l j)∪[.int (F j),.int (vh c j)])/\y7 H1 G) #[λW=>0,ya,λj I=>absurd I (cD j),y9 M] (λi G W ⟨_,_,_,S⟩=>SqL.of (S _ _ y)) (λi x G a0 hx hi z v=>?_) (λG z=>?_)]
 .let#[l,p,u,S]:=z;let#[J,X]:=u7 hx;let#[v1,v2,v3,J]:=yon v;erw[ũ (SqT.of (S _ _ (B i X))) J ?_];show ja (xm 0) (ja (xm 1) (ja (xm 2) ymy)) [V.int (F i),V.ref (cl i),V.int (vh c i)] (v1::v2::v3::za [] [some (V.ref L),some (V.ref tx),some R]) G _;ext;erw[#[[some ((F i):),some ⇑(cl i),some ((vh c i):)],J,J],?_];ext;exists (by walk_at "len"),λt d=>?_
  have Z:t≠D:=(yb p d).symm;let U:=zx (o':=HO.tup [V.int (F i),V.int (vh c i)]) d p;erw[xk (n:=↑(refs r ↑(dec c))) U (vi (by rw[vv];omega)) hi ?_,<-upN l i t,?_,λj I=>?_,λb o e=>ye (yb e M) (zx d (S b o e))]
  .rw[ya,x9,wx]
   congr 3
   erw[xu λj I=>(wu I).symm]
  .by_cases z:j=i
   .rw[z,wx];erw[ye Z ya]
   .have f:j<i:=()
    rwa[wu f,ye (xf (u j f) p (by intro z;cases z)) (zx d (u j f))]
 .let#[l,p,u,S]:=z;rw[vv]at p u;erw[k D l G #[S1.free M,p,u] (S1.trans S)]
theorem ť : yi ["looks","text","learned","steps","given","chance","bit"] ["looks","text","learned"] (yd (top 82)):=wc (by decide +kernel)
def Ă(mx bt:Nat->Int):Nat->Int
 |0=>1
 |j+1=>Ă mx bt j*giv (mx j) (bt j)
theorem yas{mx:Nat->Int}:∀(m:Nat),(∀j,j<m->Ch (mx j))->1<=Ă mx bt m/\Ă mx bt m<=16777216^m
 |0,_=>#[Int.le_refl 1,by rwa[Int.pow_zero,Int.le_refl 1]]
 |m+1,h=>by
  obtain⟨e,c⟩:1<=Ă mx bt m/\Ă mx bt m<=16777216^m:=yas m λj f=>h j ();let#[d,a]:=h m ();let g1:=ymc (b:=bt m) d a;let g2:=ysz (b:=bt m) d a;show 1<=Ă mx bt m*giv (mx m) (bt m)/\Ă mx bt m*giv (mx m) (bt m)<=16777216^(m+1);erw[?_,?_]
  .have:=Int.mul_le_mul e (show 1<=giv (mx m) (bt m) by omega) () ();simpa using this
  .rw[Int.pow_succ];erw[Int.mul_le_mul c () () (Int.le_trans () c)]
def Ŕ{x:Int}{m:Nat}(h1:1<=x)(h2:x<=16777216^m):x.natAbs<2^(24*m+1):=by
 have e:(16777216:Int)^m=((2^(24*m):Nat):Int):=by
  rw[Nat.pow_mul];simp
 rw[e]at h2;have:x.natAbs<=2^(24*m):=()
 erw[Nat.lt_of_le_of_lt this (Nat.pow_lt_pow_right ∅ ())]
noncomputable def yx4(m:Nat)(G:Int):Int:=24*(m:Int)+1-(Builtin.Int.intBits G:Nat)
#synth ∀(K:xy),∀(L tx:qa)(lx:V)(n:Nat)(lk:Λ)(kd:Ν)(tp:Λ)(ps:Κ)(ts:Ο)(N w:Nat)(lt:Λ)(tt:Κ)(_:vs=[.ref L,.ref tx,lx])(_:vj6 H L tx lx n lk kd tp ps ts N w lt tt)(_:∀H',y7 H H'->Q ((yx4 ↑(dec ts) (Ă (uf n kd ps (Ą tt N) ts) (vh ts) ↑(dec ts))):) H'),yv8
def vcq:vq P w K mg Γ CX0 10 a.Iq a.Hl ["looks","text","learned"] (yv8 K):=by
 refine T.Ss.ok ť (fun ϟ H Q E h=>?_) (fun ϟ A ϟ s H ϟ Q E R h=>?_); left;let#[L,ς,x,n,M,p,S,q,c,N,w,O,u,J,d,k]:=h;let hz:=d.t.z;let a1:=xp c;erw[yh (pst 3 ť.nd (yel (yzk T) R.m J T.Uo T.Sr.kp T.Um .nil vo (pac (pv 0) (pac (pv 1) (pav 2))))) ?_,<-yh (pst 4 ť.nd yg) ?_,<-yh (uy PassesOwn.never J (we (pv 3)) (Ũ J (xx (wd (i:=5) ť.nd J (Or.inl J)) (xx (wd (i:=6) ť.nd J (Or.inl J)) û))) (yc (pst 4 ť.nd (ym yw6 (pv 4) (uk (yrb T) R.m T.Km ve (pac (pv 5) (pav 6))))))) ?_];exists 3,4,yc (yn (ym zi (ym v9 (ym xa (vy J T.D1) (pcB yp T.A9 (pav 3))) yg) (ygj PySem.F.plainAttrs_int PySem.F.slot_int_bit_length PySem.F.type_int_bit_length ykz (pv 4))));erw[L,ς,x,n,M,p,S,q,c,N,w,O,u,J,d,λr Y H1 l S1=>?_];have f:∀i,Ch (uf n p q (Ą u N) c i):=λi=>Û d.n1 d.n6 (yb1 _ _) i;generalize uf n p q (Ą u N) c=mx at l f k;ext;erw[r,J,#[_,SqL.of l.r],xw (K:=K) (a:=r) (xs:=refs Y ↑(dec c)) (λi σ2 G=>H1=G/\∃C D:Χ,σ2=[some ⇑L,some ⇑ς,some x,some ⇑r,some ((Ă mx (vh c) i):),C,D]) #[J,_,_,J] (λi σ2 G Z ⟨e,_⟩=>e ▸ SqL.of l.r) ?_ ?_]
 .rintro i y σ2 G hy ⟨rfl,C,D,rfl⟩;let#[J,g]:=u7 hy;let o:=f i;let#[b0,U]:=yff c i g;let I:=yct o;let v:=ya4 b0 U;let#[p1,W]:=yas (mx:=mx) (bt:=vh c) i λj Z=>f j;erw[ũ (SqT.of (l.t i g)) J ?_,←.int (mx i),_,.int (vh c i),_,J,.int _,.int _,λz=>(by rw[I]at z;cases z),λZ z=>(by rw[v]at z;cases z),λc' b' X eb Z Z=>?_];cases X;cases eb;let g1:=ymc (b:=vh c i) o.1 o.2;let g2:=ysz (b:=vh c i) o.1 o.2;ext;refine va2 (24*i+25) ?_ ?_ ?_ ?_
  .erw[cP (Ŕ p1 W) (Nat.pow_le_pow_right ∅ ())]
  .have:(giv (mx i) (vh c i)).natAbs<2^25:=()
   erw[cP this (Nat.pow_le_pow_right ∅ ())]
  .omega
  ext;exists J,_,_,rfl
 .rintro σ2 G ⟨rfl,C,D,rfl⟩;rw[vv];ext;erw[uz (SqL.of l.r) ?_];rw[vv];ext;erw[k _ S1]
def snK(mx bt:Nat->Int):Nat->Sn
 |0=>s0
 |k+1=>nar (snK mx bt k) (mx k) (bt k)
theorem ο{mx:Nat->Int}:∀m,(∀j,j<m->Ch (mx j))->OkS (snK mx bt m)/\(snK mx bt m).2.2<=5+2*(m:Int)
 |0,_=>#[vj4,by show (5:Int)<=5+2*((0:Nat):Int);decide]
 |m+1,h=>by
  let#[a,e]:=ο m λj d=>h j ();erw[yec a (h m ()),?_];have:=vca (c:=mx m) (b:=bt m) a.ok;show (nar (snK mx bt m) (mx m) (bt m)).2.2<=_;omega
theorem yb3{mx my bu:Nat->Int}:∀m,(∀j,j<m->mx j=my j/\bt j=bu j)->snK mx bt m=snK my bu m
 |0,_=>rfl
 |m+1,h=>by
  show nar (snK mx bt m) (mx m) (bt m)=nar (snK my bu m) (my m) (bu m);rw[yb3 m λj a=>h j (),(h m ()).1,(h m ()).2]
def FGo.but{p q:qa}{A:FA}{H H1 H2:Hp}{el:qa}{o':HO}(h:FGo p A O H H1 el O')(hq:H q=none)(B:But q H1 H2)(hq2:H2 q=some o'):FGo p A O H H2 el O' :=
 #[h.he,h.hO,λc o e b a f d=>B _ _ (h.fr c o e b a f d) (yb e hq),λc o e=>let ⟨o1,w⟩:=h.live c o e;#[o1,B _ _ w (yb e hq)]]
def zr.but{H H':Hp}{p q C:qa}{A:FA}{X:FX}{f:Α}{m:Nat}{fs:Ι}(h:zr K a H p A X f O m)(hq:H q∩C dq fs)(hl:↑fs=3)(nO:∀i,i<A.n->¬O i q)(B:But q H H'):zr K a H' p A X f O m:=by
 erw[h.frame (O2:=λc=>c=q) (λc o e j=>B c o e j) (λz=>zz h.me hq (by rw[hl];show ¬(6=3);decide) z) (λz=>zz h.mx.o hq (by rw[hl];show ¬(1=3);decide) z) (λi d z=>zz (h.B.b i d).me hq (by rw[hl];show ¬(2=3);decide) z) (λi c d w z=>nO i d (z ▸ w)) (λl g Z e=>B.lst hq e) (λt g e=>?_)];rcases e with(e|⟨o,e⟩)|e
 .erw[.inl (.inl (B _ _ e (λz=>by rw[z,hq]at e;cases e)))]
 .erw[.inl (.inr #[o,B _ _ e (λz=>by rw[z,hq]at e;cases e)])]
 .erw[.inr e]
def yig(A:FA)(X:FX)(ts:Ο)(k:Nat):Int:=ym0 (X.run A ((dec ts).take k)).ws ((X.run A ((dec ts).take k)).cs A)
#synth ∀(K:xy)(a:Ads),∀(p:qa)(A:FA)(X:FX)(f:Α)(O:Β)(m:Nat)(tx:qa)(ts:Ο)(_:vs=[.ref p,.ref tx])(_:zr K a H p A X f O m)(_:X.sg=[])(_:X.nd=0)(_:ă H tx ts 1000)(_:tx≠A.el)(_:m+6*↑(dec ts)+20<1000000)(_:∀(r ml el pl:qa)(sl:Λ)(f':Α)(O':Β)(m':Nat)(H':Hp),H r=none->H' r\↥(tL (snK (yig A X ts) (vh ts) ↑(dec ts)))->zr K a H' p (A.re ml el pl sl) (X.run A (dec ts)) f' O' m'->m'<=m+6*↑(dec ts)->FGo p A O H H' el O'->Q ⇑r H'),yf1
def yq1:(Df.v P w mg Γ) T.Lm 7 (yf1 K a):=by
 exists Lm,["foreteller","text","span","bit"],hr;let#[p,c,X,f,O,m,tx,d,J,hF,ah,ay,Y,aH,hm,k]:=h;let aE:=xp d;let hz:=Y.z;let a0:=Y.s;erw[yh (pst 2 ϰ (je T.Mf (yqy T) hr.m J T.Me T.L6.B .nil vo)) ?_,<-yh (uy PassesOwn.never J (we (x0 (ymp T) hr.m T.Hq (pav 1))) (wd (i:=3) ϰ J (Or.inl J)) (yf (yv (yu (pv 2) T.Ai T.Fm.m (yqr T) hr.m T.Fm.B .nil ve (pac (vj (pv 0) T.Ad T.Dr.m (yme T) hr.m T.Dr.B .nil vo) (pav 3)))) (yc (yv (wv (pv 0) T.Ad T.Co.m (ygo T) hr.m T.Co.B .nil vo (pav 3)))))) ?_];exists 2,2,yc (yn (vj (pv 2) T.Ai T.Fn.m (ytp T) hr.m T.Fn.B .nil vo));intro q W nq az aI;have SQ:y7 H (upd (upd H W (.own q)) q (.ins a.A8 W [])):=λb o e=>by rwa[yk (yb e nq),yk (yb e az),e]
 erw[q,W,J,ya,λH1 ar B1=>#[J,?_]];have S1:y7 H H1:=λb o e=>B1 b o (SQ b o e) (yb e nq);ext;erw[tx,d,J,S1 _ _ Y.l,a0,(),λbt H2 ac U S2=>?_]
 let aa:=S1.trans S2;let aA:=hF.same aa;have ak:bt≠c.el:=(yb (hF.same S1).el ac).symm
 have ae:∀i,i<c.n->¬O i q:=λi Z w=>by
  let#[o,ho,_]:=(hF.B.b i Z).own q w;rw[nq]at ho;cases ho
 erw[bt,J,#[_,SqL.of U],xw (K:=K) (a:=bt) (xs:=↥(dec d)) (λj σ2 G=>∃(v:Χ)(ml el pl:qa)(sl:Λ)(f':Α)(O':Β),σ2=[some ⇑p,some ⇑tx,some ⇑q,v]/\zr K a G p (c.re ml el pl sl) (X.run c ((dec d).take j)) f' O' (m+6*j)/\FGo p c O H G el O'/\TxE d j (X.run c ((dec d).take j)).sg (X.run c ((dec d).take j)).nd/\G q∩a.A8 W (τ (snK (yig c X d) (vh d) j))/\(∀i,i<c.n->¬O' i q)/\(G bt\↥(dec d)/\bt≠el)/\(∀i,i<j->Ch (yig c X d i)))
  #[_,c.ml,c.el,c.pl,c.sl,f,O,J,aA,FGo.refl.same aa,.inl #[cK _,by show ybi _ _ X.sg X.nd;rwa[ah,ay,ybi.zero _]],S2 _ _ ar,ae,#[U,ak],λi Z=>absurd Z (cD i)] (by rintro j σ2 G _ ⟨_,_,_,_,_,_,_,_,_,_,_,_,_,z,_⟩;erw[SqL.of z.1]) ?_ ?_]
 .rintro j y σ2 G hy ⟨v,D,C,ς,I,f1,O1,rfl,g,go,hT,u,N,⟨a2,S⟩,L⟩;let#[b,J,au,hb,hj]:=ju hy;let#[b0,b1]:=jf _ b au;let#[a9,av]:=hT.next a0 hb;let#[aj,aC]:=a9.nd a0;let aD:=a9.len;have a4:vh d j=b:=by unfold vh;rw[hb];rfl
  let aB:=g.me;have a6:Ch (yig c X d j):=ymh g.n1 g.wok g.cok;let ap:=yct a6;let as:=ya4 b0 b1;let#[a1,aq]:=ο (mx:=yig c X d) (bt:=vh d) j L;ext;erw[q,W,_,J,u,lkN _ (by right) (by right) (by right),?_,←p,c.re D C ς I,_,f1,O1,_,J,g,λG1 R=>?_,←q,W,_,.int (yig c X d j),.int b,_,_,J,R _ _ u,a1.ok,.int _,.int _,λz=>(by rw[ap]at z;cases z),λF z=>(by rw[as]at z;cases z),λc' b' ec eb F F F G2 x B2=>?_];cases ec;cases eb;let t:=(g.same R).but (R _ _ u) J N B2;have ao:FGo p c O H G2 C O1:=(go.same R).but nq B2 x;have M:G2 bt\↥(dec d):=B2.lst (R _ _ u) (R _ _ a2);let aF:=t.me;let n6:=g.n6;ext;erw[p,c.re D C ς I,_,f1,O1,m+6*j,b,J,t,b0,b1,(),aj,(),λal a7 ax ad f3 O3 G3 ag am a8 a5 ai F=>?_]
  have ab:FGo p (c.re D C ς I) O1 G2 G3 a7 O3:=#[ag,a8,a5,ai];let a3:=ab.kpa t;ext;erw[_,al,a7,ax,ad,f3,O3,J,?_,ao.trans ab,?_,?_,λi Z w=>?_,#[(a3 _ _ M J S).2,(a3 _ _ M J S).1],λi Z=>?_]
  .rw[zl hb];erw[am.up (by show m+6*j+c.n<=_;have:c.n<=6:=n6;omega)]
  .rw[zl hb];erw[av]
  .have e:snK (yig c X d) (vh d) (j+1)=nar (snK (yig c X d) (vh d) j) (yig c X d j) b:=by show nar _ _ (vh d j)=_;rw[a4]
   rwa[e,a5 _ _ x (zz x t.me (show ¬(3=6) by decide)) (zz x t.mx.o (show ¬(3=1) by decide)) (λz=>by have e:=t.el;rw[<- z,x]at e;cases e) N]
  .rcases a8 i q Z w with v|v
   .erw[N i Z v]
   .rw[x]at v;cases v
  .by_cases z:i=j
   .rw[z];erw[a6]
   .erw[L i ()]
 .rintro σ2 G ⟨v,D,C,ς,I,f1,O1,rfl,g,go,hT,u,N,_,L⟩;rw[bL]at g u L;rw[cX]at g;let#[a1,aq]:=ο (mx:=yig c X d) (bt:=vh d) ↑(dec d) L;ext;erw[q,W,_,J,u,lkN _ (by right) (by right) (by right),?_];ext;exists q,W,_,J,u,a1,by show Int.toNat _<=100000;omega,λr G1 an af R=>?_
  erw[k r D C ς I f1 O1 _ G1 (go.free an) af (g.same R) (bT _) (go.same R)]
structure RGo(p q s:qa)(A:FA)(O:Β)(H H':Hp)(ml el:qa)(O':Β):Prop where
 hm:ml=A.ml\/H ml=none
 he:el=A.el\/H el=none
 hO:∀j c,j<A.n->O' j c->O j c\/H c=none
 fr:∀c o,H c=some o->c≠p->c≠A.mp->c≠A.el->c≠q->c≠s->(∀j,j<A.n->¬O j c)->H' c=some o
 live:∀c o,H c=some o->∃o',H' c=some o'
def RGo.free{p q s:qa}{A:FA}{H H':Hp}{ml el c:qa}(h:RGo p q s A O H H' ml el O')(hc:H' c=none):H c=none:=by
 cases e:H c with
 |none=>rfl
 |some o =>
  let#[a,w]:=h.live c o e;rw[hc]at w;cases w
def RGo.refl{p q s:qa}{A:FA}{H:Hp}:RGo p q s A O H H A.ml A.el O:=#[.inl J,.inl J,λZ Z Z w=>.inl w,λZ Z e Z Z Z Z Z Z=>e,λZ o e=>#[o,e]]
theorem RGo.trans{p q s:qa}{A:FA}{O1:Β}{H H1 H2:Hp}{ml el pl ml2 el2:qa}{sl:Λ}(h:RGo p q s A O H H1 ml el O1)(k:RGo p q s (A.re ml el pl sl) O1 H1 H2 ml2 el2 O2):RGo p q s A O H H2 ml2 el2 O2:=by
 erw[?_,?_,λj c a w=>?_,λc o e l b f i g d=>?_,λc o e=>?_]
 .rcases k.hm with z|z
  .rcases h.hm with y|y
   .erw[.inl (z.trans y)]
   .erw[.inr (by rwa[show ml2=ml from z,y])]
  .erw[.inr (h.free z)]
 .rcases k.he with z|z
  .rcases h.he with y|y
   .erw[.inl (z.trans y)]
   .erw[.inr (by rwa[show el2=el from z,y])]
  .erw[.inr (h.free z)]
 .rcases k.hO j c a w with v|v
  .erw[h.hO j c a v]
  .erw[.inr (h.free v)]
 .refine k.fr c o (h.fr c o e l b f i g d) l b (λz=>?_) i g (λj a w=>?_)
  .rcases h.he with y|y
   .erw[f (z.trans y)]
   .rw[show c=el from z,y]at e;cases e
  .rcases h.hO j c a w with v|v
   .erw[d j a v]
   .rw[e]at v;cases v
 .let#[n,m]:=h.live c o e;erw[k.live c n m]
def RGo.same{p q s:qa}{A:FA}{H H1 H2:Hp}{ml el:qa}(h:RGo p q s A O H H1 ml el O')(S:y7 H1 H2):RGo p q s A O H H2 ml el O' :=
 #[h.hm,h.he,h.hO,λc o e i a d g f b=>S _ _ (h.fr c o e i a d g f b),λc o e=>let ⟨o',w⟩:=h.live c o e;#[o',S _ _ w]]
structure Ý(K:xy)(a:Ads)(H:Hp)(p:qa)(A:FA)(X:FX)(f:Α)(O:Β)(m:Nat)(q dx pd s ds:qa)(d:Ο)(x:Sn):Prop where
 ft:zr K a H p A X f O m
 sk:yii a H q dx pd s ds d x
 ok:OkS x
 nO:∀i,i<A.n->¬O i q/\¬O i s
 nd:pd≠A.el
theorem Ý.same{H H':Hp}{p:qa}{A:FA}{X:FX}{f:Α}{m:Nat}{q dx pd s:qa}{d:Ο}{x:Sn}(h:Ý K a H p A X f O m q dx pd s ds d x)(S:y7 H H'):Ý K a H' p A X f O m q dx pd s ds d x:=#[h.ft.same S,h.sk.same S,h.ok,h.nO,h.nd]
def chX(A:FA)(X:FX):Int:=ym0 X.ws (X.cs A)
def zr.but2{H H':Hp}{p:qa}{A:FA}{X:FX}{f:Α}{m:Nat}{q dx pd s:qa}{d:Ο}{x:Sn}(h:Ý K a H p A X f O m q dx pd s ds d x)(B:ym2 q s H H'):zr K a H' p A X f O m:=by
 let j:=h.sk.me;let k:=h.sk.sp;erw[h.ft.frame (O2:=λc=>c=q\/c=s) (λc o e n=>B c o e (λz=>n (.inl z)) (λz=>n (.inr z))) (λz=>?_) (λz=>?_) (λi g z=>?_) (λi c g w z=>?_) (λl r Z e=>h.sk.lst B e) (λt r e=>?_)]
 .rcases z with z|z
  .erw[zz h.ft.me j (show ¬(6=4) by decide) z]
  .erw[zz h.ft.me k (show ¬(6=3) by decide) z]
 .rcases z with z|z
  .erw[zz h.ft.mx.o j (show ¬(1=4) by decide) z]
  .erw[zz h.ft.mx.o k (show ¬(1=3) by decide) z]
 .rcases z with z|z
  .erw[zz (h.ft.B.b i g).me j (show ¬(2=4) by decide) z]
  .erw[zz (h.ft.B.b i g).me k (show ¬(2=3) by decide) z]
 .rcases z with z|z
  .erw[(h.nO i g).1 (z ▸ w)]
  .erw[(h.nO i g).2 (z ▸ w)]
 .rcases e with(e|⟨o,e⟩)|e
  .erw[.inl (.inl (h.sk.tup B e))]
  .erw[.inl (.inr #[o,B _ _ e (xf e j (by intro z;cases z)) (xf e k (by intro z;cases z))])]
  .erw[.inr e]
#synth ∀(K:xy)(a:Ads),∀(p:qa)(A:FA)(X:FX)(f:Α)(O:Β)(m:Nat)(q dx pd s ds:qa)(d:Ο)(x:Sn)(_:vs=[.ref p,.ref q])(_:Ý K a H p A X f O m q dx pd s ds d x)(_:m+20<1000000)(_:0<=X.nd)(_:↑X.sg<=100000)(_:∀(ml el pl:qa)(sl:Λ)(f':Α)(O':Β)(H':Hp),Ý K a H' p (A.re ml el pl sl) (X.see A (ë d x (chX A X))) f' O' (m+A.n) q dx pd s ds d (nar x (chX A X) (ë d x (chX A X)))->RGo p q s A O H H' ml el O'->Q ((ë d x (chX A X)):) H'),yf5
def yqq:(Df.v P w mg Γ) T.Ln 7 (yf5 K a):=by
 exists Ln,["foreteller","seeker","bit"],hr;let#[p,r,X,f,O,m,q,dx,pd,u,ds,d,x,J,n,hm,a5,a3,k]:=h;let hp:=n.ft.me;let hq:=n.sk.me;have ς:Ch (chX r X):=ymh n.ft.n1 n.ft.wok n.ft.cok;let a4:=yct ς;exists 2,1,yf (pst 2 ϰ (yu (pv 1) T.Ay T.Lk.m (vcz T) hr.m T.Lk.B .nil ve (pa1 (vj (pv 0) T.Ad T.Dr.m (yme T) hr.m T.Dr.B .nil vo)))) (yf (yv (wv (pv 0) T.Ad T.Co.m (ygo T) hr.m T.Co.B .nil vo (pav 2))) (yc (yn (pv 2))));erw[p,r,X,f,O,m,J,n.ft,λH1 D=>?_];let S:=n.same D;ext;erw[q,dx,pd,u,ds,d,x,.int (chX r X),_,J,S.sk,n.ok,.int _,λz=>(by rw[a4]at z;cases z),λc' ec F H2 g G=>?_];cases ec;let l:=zr.but2 S G;let a6:=l.me
 obtain⟨b0,b1⟩:0<=ë d x (chX r X)/\ë d x (chX r X)<=1:=by
  rcases ya0 d x (chX r X)with e|e<;>(rw[e];decide)
 generalize hb:ë d x (chX r X)=b at b0 b1 g k;ext;erw[p,r,X,f,O,m,b,J,l,b0,b1,hm,a5,a3,λL M pl sl f' O' H3 he Y hO U lv t=>?_];have a1:q≠p:=zz g.me l.me (show ¬(4=6) by decide);have a2:q≠r.mp:=zz g.me l.mx.o (show ¬(4=1) by decide);have W:u≠p:=zz g.sp l.me (show ¬(3=6) by decide);have Z:u≠r.mp:=zz g.sp l.mx.o (show ¬(3=1) by decide)
 have R:∀{c C dc:qa}{fs:Ι},H2 c∩C dc fs->c≠r.el:=λe z=>by
  let e2:=l.el;rw[<- z,e]at e2;cases e2
 let N:=U _ _ g.me a1 a2 (R g.me) λi y=>(n.nO i y).1;let I:=U _ _ g.sp W Z (R g.sp) λi y=>(n.nO i y).2;have hd3:H3 pd\↥d:=U _ _ g.dt (λz=>by have e:=g.dt;rw[z,l.me]at e;cases e) (λz=>by have e:=g.dt;rw[z,l.mx.o]at e;cases e) n.nd (l.B.nlst g.dt);ext;erw[k L M pl sl f' O' H3 #[Y,#[N,hd3,I,g.ne],yec n.ok ς,λi y=>#[λw=>?_,λw=>?_],?_] #[.inr ?_,?_,λj c hj w=>?_,λc o e c1 c2 c3 c4 c5 no=>?_,λc o e=>?_]]
 .rcases hO i q y w with v|v
  .erw[(n.nO i y).1 v]
  .rw[g.me]at v;cases v
 .rcases hO i u y w with v|v
  .erw[(n.nO i y).2 v]
  .rw[g.sp]at v;cases v
 .rcases he with z|z
  .rw[show (r.re L M pl sl).el=r.el from z];erw[n.nd]
  .erw[yb g.dt z]
 .cases e:H L with
  |none=>rfl
  |some o =>
   by_cases z1:L=q
   .rw[z1,g.me]at t;cases t
   by_cases z2:L=u
   .rw[z2,g.sp]at t;cases t
   rw[G _ _ (D _ _ e) z1 z2]at t;cases t
 .rcases he with z|z
  .erw[.inl z]
  .refine .inr ?_
   cases e:H M with
   |none=>rfl
   |some o =>
    by_cases z1:M=q
    .rw[z1,g.me]at z;cases z
    by_cases z2:M=u
    .rw[z2,g.sp]at z;cases z
    rw[G _ _ (D _ _ e) z1 z2]at z;cases z
 .rcases hO j c hj w with v|v
  .erw[.inl v]
  .refine .inr ?_
   cases e:H c with
   |none=>rfl
   |some o =>
    by_cases z1:c=q
    .rw[z1,g.me]at v;cases v
    by_cases z2:c=u
    .rw[z2,g.sp]at v;cases v
    rw[G _ _ (D _ _ e) z1 z2]at v;cases v
 .erw[U c o (G _ _ (D _ _ e) c4 c5) c1 c2 c3 no]
 .by_cases z1:c=q
  .erw[_,z1 ▸ N]
  by_cases z2:c=u
  .erw[_,z2 ▸ I]
  erw[lv c o (G _ _ (D _ _ e) z1 z2)]
def rnx(A:FA)(d:Ο)(S:FX×Sn):FX×Sn:=(S.1.see A (ë d S.2 (chX A S.1)),nar S.2 (chX A S.1) (ë d S.2 (chX A S.1)))
def rst(A:FA)(d:Ο)(S:FX×Sn):Nat->FX×Sn
 |0=>S
 |n+1=>rnx A d (rst A d S n)
def ε(A:FA)(d:Ο)(S:FX×Sn)(n:Nat):Int:=ë d (rst A d S n).2 (chX A (rst A d S n).1)
def ymg(A:FA)(d:Ο)(S:FX×Sn)(n:Nat):ε A d S n=0\/ε A d S n=1:=ya0 _ _ _
theorem ye0(A:FA)(d:Ο)(S:FX×Sn)(k:Nat):∀n,rst A d (rst A d S k) n=rst A d S (k+n)
 |0=>rfl
 |n+1=>congrArg (rnx A d) (ye0 A d S k n)
theorem ylv(A:FA)(d:Ο)(S:FX×Sn)(ml el pl:qa)(sl:Λ):∀n,rst (A.re ml el pl sl) d S n=rst A d S n
 |0=>rfl
 |n+1=>by
  show rnx (A.re ml el pl sl) d (rst (A.re ml el pl sl) d S n)=_;rw[ylv A d S ml el pl sl n];rfl
def yyw(A:FA)(X:FX)(b:Int)(h:0<=X.nd)(hb:0<=b):0<=(X.see A b).nd:=by
 show 0<=ndN X.nd b;unfold ndN
 split
 .split<;>omega
 .split<;>omega
def vbp(A:FA)(X:FX)(b:Int):(X.see A b).sg.length<=↑X.sg+1:=by
 show ↑(sgN X.sg X.nd b)<=_;unfold sgN
 split
 .split
  .rw[bQ];erw[bT _]
  .omega
 .split
  .omega
  .erw[cK _]
theorem ygq(A:FA)(d:Ο)(S:FX×Sn)(h:0<=S.1.nd):∀n,0<=(rst A d S n).1.nd
 |0=>h
 |n+1=>yyw A _ _ (ygq A d S h n) (by rcases ymg A d S n with e|e<;>(unfold ε at e;rw[e];decide))
theorem ygx(A:FA)(d:Ο)(S:FX×Sn):∀n,(rst A d S n).1.sg.length<=↑S.1.sg+n
 |0=>bT _
 |n+1=>cN (vbp A _ _) (Nat.succ_le_succ (ygx A d S n))
theorem Ý.app{H:Hp}{p R:qa}{A:FA}{X:FX}{f:Α}{m:Nat}{q dx pd s:qa}{d:Ο}{x:Sn}{xs ys:Τ}(h:Ý K a H p A X f O m q dx pd s ds d x)(hR:H R\xs)(hq:∀q,(q=A.bl\/q=A.el\/q=A.ml\/q=A.pl)->q≠R)(np:pd≠R):Ý K a (upd H R (.lst ys)) p A X f O m q dx pd s ds d x:=by
 erw[h.ft.app hR hq,#[ye (λz=>?_) h.sk.me,ye np h.sk.dt,ye (λz=>?_) h.sk.sp,h.sk.ne],h.ok,h.nO,h.nd]
 .let e:=h.sk.me;rw[z,hR]at e;cases e
 .let e:=h.sk.sp;rw[z,hR]at e;cases e
def Ý.notN{H:Hp}{p R:qa}{A:FA}{X:FX}{f:Α}{m:Nat}{q dx pd s:qa}{d:Ο}{x:Sn}(h:Ý K a H p A X f O m q dx pd s ds d x)(hR:H R\↥xs)(nm:R≠A.ml)(ne:R≠A.el):∀q,(q=A.bl\/q=A.el\/q=A.ml\/q=A.pl)->q≠R:=λq j z=>by
 let i:=h.ft.n1
 have b:∀(g:Λ),↥xs=refs g A.n->False:=λg e=>by
  have c:(refs g A.n)[0]?=some (V.ref (g 0)):=ygk i;rw[<- e,bU]at c
  cases w:xs[0]? with
  |none=>rw[w]at c;cases c
  |some y=>rw[w]at c;cases c
 rcases j with y|y|y|y
 .let e:=h.ft.bl;rw[<- y,z,hR]at e;erw[b _ (HO.lst.inj (cr e))]
 .erw[ne (z.symm.trans y)]
 .erw[nm (z.symm.trans y)]
 .let e:=h.ft.pl;rw[<- y,z,hR]at e;erw[b _ (HO.lst.inj (cr e))]
def RGo.app{p q s R:qa}{A:FA}{H H1:Hp}{ml el:qa}{o':HO}(h:RGo p q s A O H H1 ml el O')(hR:H R=none):RGo p q s A O H (upd H1 R o') ml el O' :=
 #[h.hm,h.he,h.hO,λc o e i a d g f b=>ye (yb e hR) (h.fr c o e i a d g f b),λc o e=>let ⟨o1,w⟩:=h.live c o e;#[o1,ye (yb e hR) w]]
noncomputable def wB(i:Nat):Int:=([128,64,32,16,8,4,2,1]:Ο)[i]?.getD 0
def vi4(i:Nat):0<=wB i/\wB i<=128:=by
 rcases i with _|_|_|_|_|_|_|_|i
 .exists by decide,∅
 .exists by decide,∅
 .exists by decide,∅
 .exists by decide,∅
 .exists by decide,∅
 .exists by decide,∅
 .exists by decide,∅
 .exists by decide,∅
 .exists by show (0:Int)<=0;decide,by show (0:Int)<=128;decide
def sgB(A:FA)(d:Ο)(S:FX×Sn)(i:Nat):Ο:=(List.range i).map λj=>wB j*ε A d S j
def ypf(A:FA)(d:Ο)(S:FX×Sn)(i:Nat):sgB A d S (i+1)=sgB A d S i++[wB i*ε A d S i]:=by unfold sgB;rw[List.range_succ,ce];rfl
#synth ∀(K:xy)(a:Ads),∀(p:qa)(A:FA)(S:FX×Sn)(f:Α)(O:Β)(m:Nat)(q dx pd s ds:qa)(d:Ο)(_:vs=[.ref p,.ref q])(_:Ý K a H p A S.1 f O m q dx pd s ds d S.2)(_:m+80<1000000)(_:0<=S.1.nd)(_:↑S.1.sg<=90000)(_:∀(ml el pl:qa)(sl:Λ)(f':Α)(O':Β)(H':Hp),Ý K a H' p (A.re ml el pl sl) (rst A d S 8).1 f' O' (m+8*A.n) q dx pd s ds d (rst A d S 8).2->RGo p q s A O H H' ml el O'->Q ((sgB A d S 8).sum:) H'),ycn
def yze:(Df.v P w mg Γ) T.Su 8 (ycn K a):=by
 exists Su,["foreteller","seeker"],hr;let#[p,b,S,f,O,m,q,dx,pd,Z,ds,d,J,X,hm,a5,aa,k]:=h;let n6:=X.ft.n6;exists 2,0,yc (yn (pcB (ç J) T.Gc (pa1 (vx (js:=[1,0]) (ys:=["seeker","foreteller"]) J (ygn (uv J T.Gg)) (λC s2 H2 fp=>(ym xa (pv 0) (x0 (yqq T) hr.m T.Ln (pac (pv 2) (pav 1))))) J J (hyc:=(all_cons J (all_cons J yw))) (hrel:=(all_cons J (all_cons J yw)))))));erw[a.Br,J,#[_,T.w_WORTHS H],λD ς=>?_,<-ycm (xs:=[.int 128,.int 64,.int 32,.int 16,.int 8,.int 4,.int 2,.int 1]) (λi G=>∃(t u U:qa)(M:Λ)(f':Α)(O':Β),Ý K a G p (b.re t u U M) (rst b d S i).1 f' O' (m+i*b.n) q dx pd Z ds d (rst b d S i).2/\RGo p q Z b O H G t u O'/\G D\↥(sgB b d S i)/\D≠t/\D≠u) ?_ (λi G F F=>T.w_WORTHS G) ?_ ?_]
 .have S1:y7 H (upd H D (.lst [])):=y9 ς;erw[b.ml,b.el,b.pl,b.sl,f,O,?_,RGo.refl.same S1,ya,(yb X.ft.mx.l ς).symm,(yb X.ft.el ς).symm];rwa[Nat.zero_mul,X.same S1]
 .rintro i y G j a3 ⟨t,u,U,M,f1,O1,e,r,c,I,x⟩;have hi:i<8:=a3
  obtain rfl:y=V.int (wB i):=by
   rcases i with _|_|_|_|_|_|_|_|i
   .erw[(cr j).symm]
   .erw[(cr j).symm]
   .erw[(cr j).symm]
   .erw[(cr j).symm]
   .erw[(cr j).symm]
   .erw[(cr j).symm]
   .erw[(cr j).symm]
   .erw[(cr j).symm]
   .omega
  have a9:i*b.n<=8*b.n:=Nat.mul_le_mul_right _ ();let#[a8,ab]:=vi4 i;let a1:=ygq b d S a5 i;let a6:=ygx b d S i;ext;erw[p,b.re t u U M,(rst b d S i).1,f1,O1,m+i*b.n,q,dx,pd,Z,ds,d,(rst b d S i).2,J,e,(),a1,(),λL R a0 a4 f2 O2 G2 Y g=>?_]
  have v:G2 D\↥(sgB b d S i):=g.fr _ _ c (xf c e.ft.me (by intro z;cases z)) (xf c e.ft.mx.o (by intro z;cases z)) x (xf c e.sk.me (by intro z;cases z)) (xf c e.sk.sp (by intro z;cases z)) (e.ft.B.nlst c)
  have N:D≠L:=by
   rcases g.hm with z|z
   .rw[z];erw[I]
   .erw[yb c z]
  have W:D≠R:=by
   rcases g.he with z|z
   .rw[z];erw[x]
   .erw[yb c z]
  erw[wB i,_,J,J,.inl #[(),()],?_,<-_,v,?_,8-(i+1),by show 8-(i+1)<8-i;omega,J,hi,L,R,a0,a4,f2,O2,?_,?_,?_,N,W]
  .unfold sgB;rwa[bL,bL,cS,Nat.lt_trans hi ∅]
  .rw[show m+(i+1)*b.n=m+i*b.n+b.n by rw[Nat.succ_mul,Nat.add_assoc]];erw[Ý.app Y v (Y.notN v N W) (yb X.sk.dt ς)]
  .erw[(r.trans g).app ς]
  .rw[ypf,ce];erw[ya]
 .rintro G ⟨t,u,U,M,f1,O1,e,r,c,I,x⟩;ext;erw[D,sgB b d S 8,J,SqL.of c,?_,←k t u U M f1 O1 G e r]
theorem Ý.up{H:Hp}{p:qa}{A:FA}{X:FX}{f:Α}{m:Nat}{q dx pd s:qa}{d:Ο}{x:Sn}(h:Ý K a H p A X f O m q dx pd s ds d x)(hm:m<=m'):Ý K a H p A X f O m' q dx pd s ds d x:=#[h.ft.up hm,h.sk,h.ok,h.nO,h.nd]
def yum(A:FA)(d:Ο)(S:FX×Sn)(ml el pl:qa)(sl:Λ)(n:Nat):ε (A.re ml el pl sl) d S n=ε A d S n:=by unfold ε;rw[ylv];rfl
def vdc(A:FA)(d:Ο)(S:FX×Sn)(ml el pl:qa)(sl:Λ)(n:Nat):sgB (A.re ml el pl sl) d S n=sgB A d S n:=by unfold sgB;erw[List.map_congr_left λj Z=>by rw[yum]]
def rsg(A:FA)(d:Ο)(S:FX×Sn)(k:Nat):Int:=(sgB A d (rst A d S (9*k+1)) 8).sum
def rtx(A:FA)(d:Ο)(S:FX×Sn)(k:Nat):Ο:=(List.range k).map (rsg A d S)
def yom(A:FA)(d:Ο)(S:FX×Sn)(k:Nat):rtx A d S (k+1)=rtx A d S k++[rsg A d S k]:=by unfold rtx;rw[List.range_succ,ce];rfl
def ø(A:FA)(d:Ο)(S:FX×Sn)(k:Nat):↑(rtx A d S k)=k:=by unfold rtx;rw[bL,cS]
end
section
variable{G:Hp}{p:qa}{A:FA}{S:FX×Sn}{f:Α}{m n:Nat}{q dx pd s ml el pl:qa}{sl:Λ}{d:Ο}{Q:VK}{E:XK}
def yzx(hR:Ý K a G p (A.re ml el pl sl) (rst A d S n).1 f O m q dx pd s ds d (rst A d S n).2)(hm:m+20<1000000)(nd0:0<=S.1.nd)(hsg:↑S.1.sg+n<=100000)
  (k:∀(ml2 el2 pl2:qa)(sl2:Λ)(f':Α)(O':Β)(H':Hp),Ý K a H' p (A.re ml2 el2 pl2 sl2) (rst A d S (n+1)).1 f' O' (m+6) q dx pd s ds d (rst A d S (n+1)).2->RGo p q s (A.re ml el pl sl) O G H' ml2 el2 O'->Q ((ε A d S n):) H'):yf5 K a [.ref p,.ref q] G Q E :=
 #[p,A.re ml el pl sl,(rst A d S n).1,f,O,m,q,dx,pd,s,ds,d,(rst A d S n).2,J,hR,hm,ygq A d S nd0 n,cN (ygx A d S n) hsg,λml2 el2 pl2 sl2 f' O' H' b c=>k ml2 el2 pl2 sl2 f' O' H' (Ý.up b (Nat.add_le_add_left hR.ft.n6 m)) c]
def yvz(hR:Ý K a G p (A.re ml el pl sl) (rst A d S n).1 f O m q dx pd s ds d (rst A d S n).2)(hm:m+80<1000000)(nd0:0<=S.1.nd)(hsg:↑S.1.sg+n<=90000)
  (k:∀(ml2 el2 pl2:qa)(sl2:Λ)(f':Α)(O':Β)(H':Hp),Ý K a H' p (A.re ml2 el2 pl2 sl2) (rst A d S (n+8)).1 f' O' (m+48) q dx pd s ds d (rst A d S (n+8)).2->RGo p q s (A.re ml el pl sl) O G H' ml2 el2 O'->Q ((sgB A d (rst A d S n) 8).sum:) H'):ycn K a [.ref p,.ref q] G Q E:=by exists p,A.re ml el pl sl,rst A d S n,f,O,m,q,dx,pd,s,ds,d,J,hR,hm,ygq A d S nd0 n,cN (ygx A d S n) hsg,λml2 el2 pl2 sl2 f' O' H' b c=>?_;have e:A.n<=6:=hR.ft.n6;let b:=Ý.up b (show m+8*A.n<=m+48 by omega);rw[ylv,ye0]at b;rwa[vdc,k ml2 el2 pl2 sl2 f' O' H' b c]
end
mutual
#synth ∀(K:xy)(a:Ads),∀(p:qa)(A:FA)(S:FX×Sn)(f:Α)(O:Β)(m:Nat)(q dx pd s ds:qa)(d:Ο)(mo:Nat)(_:vs=[.ref p,.ref q,.int mo])(_:Ý K a H p A S.1 f O m q dx pd s ds d S.2)(_:mo<=1000)(_:m+54*mo+200<1000000)(_:0<=S.1.nd)(_:↑S.1.sg<=10000)(_:(∀(N:Nat)(r ml el pl:qa)(sl:Λ)(f':Α)(O':Β)(H':Hp),N<=mo->(∀j,j<N->ε A d S (9*j)=1)->ε A d S (9*N)=0->H r=none->H' r\↥(rtx A d S N)->r≠el->Ý K a H' p (A.re ml el pl sl) (rst A d S (9*N+1)).1 f' O' (m+54*N+6) q dx pd s ds d (rst A d S (9*N+1)).2->RGo p q s A O H H' ml el O'->Q ⇑r H'))(_:((∀j,j<=mo->ε A d S (9*j)=1)->∀(ml el:qa)(O':Β)(H':Hp),RGo p q s A O H H' ml el O'->E ⇑a.B0 none H')),yi6
def var:(Df.e P w mg Γ) T.Sv 9 (yi6 K a):=by
 exists Sv,hr,["foreteller","seeker","most","text"];let#[p,g,S,f,O,m,q,dx,pd,M,ds,d,R,J,hR,an,hm,a6,am,kQ,kE]:=h;exists 3,1,yf (pst 3 ϰ (wk ub)) (yf (È PassesOwn.leaving (yq xo (x0 (yqq T) hr.m T.Ln (pac (pv 0) (pav 1))) yg (yy _)) (yf (vz (yq xo (pcB yp T.A9 (pav 3)) (pv 2) (yy _)) (yc (wn J T.Mv T.Uz (pa1 yz))) yx) (yc (yv ((zb PySem.F.plainAttrs_list PySem.F.slot_list_append PySem.F.type_list_append wz) (pv 3) (pa1 (x0 (yze T) hr.m T.Su (pac (pv 0) (pav 1))))))))) (yc (yn (pv 3))));exists (by walk_at "len"),λr hr0=>?_
 exists hr0,H1,S1,hr1;have ae:pd≠r:=yb hR.sk.dt hr0;ext
 erw[λw σ' G=>∃(N:Nat)(C D pl:qa)(Z:Λ)(f':Α)(O':Β),σ'=[some ⇑p,some ⇑q,some (R:),some ⇑r]/\N<=R/\(∀j,j<N->ε g d S (9*j)=1)/\Ý K a G p (g.re C D pl Z) (rst g d S (9*N)).1 f' O' (m+54*N) q dx pd M ds d (rst g d S (9*N)).2/\RGo p q M g O H G C D O'/\G r\↥(rtx g d S N)/\r≠C/\r≠D/\w=R-N,
  #[_,0,g.ml,g.el,g.pl,g.sl,f,O,J,cK _,λj hj=>absurd hj (cD j),hR.same S1,RGo.refl.same S1,hr1,(yb hR.ft.mx.l hr0).symm,(yb hR.ft.el hr0).symm,J],?_]
 rintro w σ2 G ⟨N,C,D,pl,Z,f1,O1,rfl,hN,a5,e,aa,ah,I,y,rfl⟩;ext;erw[yzx e () a6 () λn u a7 aj f2 O2 G2 L i=>?_]
 have t:∀{G G2:Hp}{C D pl n u:qa}{Z:Λ}{X:FX}{f1:Α}{O1 O2:Β}{m x}{xs:Τ},Ý K a G p (g.re C D pl Z) X f1 O1 m q dx pd M ds d x->RGo p q M (g.re C D pl Z) O1 G G2 n u O2->G r\xs->r≠C->r≠D->G2 r\xs/\r≠n/\r≠u:=λe i c I y=>by
  erw[i.fr _ _ c (xf c e.ft.me (by intro z;cases z)) (xf c e.ft.mx.o (by intro z;cases z)) y (xf c e.sk.me (by intro z;cases z)) (xf c e.sk.sp (by intro z;cases z)) (e.ft.B.nlst c),?_,?_]
  .rcases i.hm with z|z
   .rw[z];erw[I]
   .erw[yb c z]
  .rcases i.he with z|z
   .rw[z];erw[y]
   .erw[yb c z]
 let#[v,ad,a3]:=t e i ah I y;let k:=aa.trans i;let a0:=ymg g d S (9*N);generalize ab:ε g d S (9*N)=b at a0;ext;erw[z9 (λhb=>?_) (λhb=>?_)]
 .subst hb
  have a2:∀j,j<N+1->ε g d S (9*j)=1:=λj hj=>by
   by_cases z:j=N
   .rw[z];erw[ab]
   .erw[a5 j ()]
  erw[ycz ?_,←uz (SqL.of v) ?_];rw[bL,ø];ext;erw[z9 (λhc=>?_) (λhc=>?_)]
  .have ak:N=R:=()
   ext;exists (by walk_at "len"),kE (λj hj=>a2 j ()) n u O2 G2 k
  .ext;erw[jn v ?_,←yvz L () a6 () λa8 ac ag a9 f3 O3 G3 Y a4=>?_];let#[ς,U,a1]:=t L a4 v ad a3;let W:=k.trans a4;ext;erw[xr ς (vi (by rw[bL,ø];omega)) ?_];ext;exists _,?_,N+1,a8,ac,ag,a9,f3,O3,J,(),a2,?_,W.app hr0,?_,U,a1,rfl
   .omega
   .erw[Ý.app Y ς (Y.notN ς U a1) ae]
   .rw[ya,yom,ce];rfl
 .have ai:ε g d S (9*N)=0:=()
  ext;erw[kQ N r n u a7 aj f2 O2 G2 hN a5 ai hr0 v a3 L k]
def yxf(x:Sn)(c b:Int):(nar x c b).2.2<=x.2.2+2:=by
 unfold nar ren
 (repeat' split)<;>(dsimp only;omega)
theorem yqf(A:FA)(d:Ο)(S:FX×Sn):∀n:Nat,(rst A d S n).2.2.2<=S.2.2.2+2*(n:Int)
 |0=>by show S.2.2.2<=S.2.2.2+2*((0:Nat):Int);omega
 |n+1=>by
  let a:=yqf A d S n;let b:=yxf (rst A d S n).2 (chX A (rst A d S n).1) (ë d (rst A d S n).2 (chX A (rst A d S n).1));show (nar (rst A d S n).2 (chX A (rst A d S n).1) (ë d (rst A d S n).2 (chX A (rst A d S n).1))).2.2<=_;omega
structure ROk(A:FA)(d:Ο)(S:FX×Sn)(N:Nat):Prop where
 b1:∀j,j<N->ε A d S (9*j)=1
 b0:ε A d S (9*N)=0
 tk:d.take ↑(tL (rst A d S (9*N+1)).2)=tL (rst A d S (9*N+1)).2
def ROk.uniq{A:FA}{d:Ο}{S:FX×Sn}{N M:Nat}(h:ROk A d S N)(b1:∀j,j<M->ε A d S (9*j)=1)(b0:ε A d S (9*M)=0):M=N:=by
 rcases Nat.lt_trichotomy M N with z|z|z
 .let e:=h.b1 M z;rw[b0]at e;cases e
 .erw[z]
 .let e:=b1 N z;rw[h.b0]at e;cases e
def rTL(A:FA)(d:Ο)(S:FX×Sn)(N:Nat):Nat:=↑(tL (rst A d S (9*N+1)).2)
def RGo.fgo{p q s:qa}{A:FA}{H0 H H':Hp}{ml el:qa}(S:y7 H0 H)(hq:H0 q=none)(hs:H0 s=none)(h:RGo p q s A O H H' ml el O'):FGo p A O H0 H' el O' :=
 #[h.he.imp id S.free,λj c b w=>(h.hO j c b w).imp id S.free,λc o e g a f d=>h.fr c o (S _ _ e) g a f (yb e hq) (yb e hs) d,λc o e=>h.live c o (S _ _ e)]
#synth ∀(K:xy)(a:Ads),∀(p:qa)(A:FA)(X:FX)(f:Α)(O:Β)(m:Nat)(dt:qa)(d:Ο)(mo:Nat)(_:vs=[.ref p,.ref dt,.int mo])(_:zr K a H p A X f O m)(_:H dt\↥d)(_:dt≠A.el)(_:Byt d)(_:↑d<=12000)(_:mo<=1000)(_:m+54*mo+200<1000000)(_:0<=X.nd)(_:↑X.sg<=10000)(_:(∀(N:Nat)(t r el:qa)(O':Β)(H':Hp),N<=mo->ROk A d (X,s0) N->H t=none->H r=none->H' t∪[.ref r,.int (rTL A d (X,s0) N)]->H' r\↥(rtx A d (X,s0) N)->FGo p A O H H' el O'->(r≠el/\∃ml pl sl f',zr K a H' p (A.re ml el pl sl) (rst A d (X,s0) (9*N+1)).1 f' O' (m+54*N+6))->Q ⇑t H'))(_:((∀N,N<=mo->¬ROk A d (X,s0) N)->∀(el:qa)(O':Β)(H':Hp),FGo p A O H H' el O'->E ⇑a.B0 none H')),İ
def yrv:(Df.e P w mg Γ) T.Lo 10 (İ K a):=by
 exists Lo,hr,["foreteller","data","most","seeker","text","own"];let#[p,l,X,f,O,m,dt,d,mo,J,hF,v,a1,a6,ab,ad,hm,ae,a7,kQ,kE]:=h;erw[yh (pst 3 ϰ (uu T.Va (va3 T) hr.m J T.V9 T.Sl.B .nil yo (pav 1))) ?_,<-yh (pst 4 ϰ (uk (var T) hr.m T.Sv yo (pac (pv 0) (pac (pv 3) (pav 2))))) ?_,<-yh (pst 5 ϰ (vj (pv 3) T.Ay T.Ll.m (vb1 T) hr.m T.Ll.B .nil vo)) ?_,<-yh (vz (yq (ċ hr.units) (xv j5 (pv 1) zf (uw (pcB yp T.A9 (pav 5)))) (pv 5) (yy _)) (yc (wn J T.Mv T.Uz (pa1 yz))) yx) ?_];exists 3,3,yc (yn (zj (pac (pv 4) (pa1 (pcB yp T.A9 (pav 5))))));intro q D L aa ag;have R:y7 H (upd (upd H D (.own q)) q (.ins a.Al D [])):=λb o e=>by rwa[yk (yb e L),yk (yb e aa),e]
 erw[q,D,.ref dt,_,J,ya,.lst (R _ _ v),.inr #[d,yns (R _ _ v) a6 ab,λpd Z ds H1 W I a0 B1=>#[J,?_]]];have S1:y7 H H1:=λb o e=>B1 b o (R b o e) (yb e L);have z:H Z=none:=R.free I;have ac:H pd=none:=R.free W
 have nO:∀{c:qa},H c=none->∀i,i<l.n->¬O i c:=λG i hi w=>by
  let#[o,ho,_]:=(hF.B.b i hi).own _ w;rw[G]at ho;cases ho
 have hR:Ý K a H1 p l X f O m q D pd Z ds d s0:=#[hF.same S1,a0,vj4,λi hi=>#[nO L i hi,nO z i hi],(yb hF.el ac).symm];ext;erw[p,l,(X,s0),f,O,m,q,D,pd,Z,ds,d,mo,J,hR,ad,hm,ae,a7,λN r ml el pl sl f2 O2 H2 hN Y S a8 a2 a9 k y=>?_,λU ml el O2 H2 y=>?_]
 .let a5:=yqf l d (X,s0) (9*N+1);have a3:((X,s0):FX×Sn).2.2.2=5:=rfl;rw[a3]at a5;let go:=y.fgo S1 L z;let ai:=k.sk.me;have ς:H2 dt\↥d:=(go.kpa hF).lst v a1;ext;exists q,D,pd,Z,ds,d,_,J,k.sk,k.ok,by show Int.toNat _<=100000;omega,λw H3 ah x S3=>?_
  ext;erw[uz (SqL.of x) ?_];rw[bL];ext;erw[ybg (SqL.of (S3 _ _ ς)) λu hu=>?_];have ec:ydf ↥d none (some ((↑(tL (rst l d (X,s0) (9*N+1)).2):Nat):Int))=↥(d.take ↑(tL (rst l d (X,s0) (9*N+1)).2)):=by rwa[List.map_take,jz _]
  rw[ec];exists hu,H4,S4,hu4;let C:=go.same (S3.trans S4);ext;erw[vi3 _ _ (SqL.of hu4) (SqL.of (S4 _ _ x)) ?_];by_cases G:d.take ↑(tL (rst l d (X,s0) (9*N+1)).2)=tL (rst l d (X,s0) (9*N+1)).2
  .rw[bV G];ext;erw[uz (SqL.of (S4 _ _ x)) ?_];rw[bL];ext;exists (by walk_at "len"),λt j=>?_
   erw[kQ N t r el O2 _ hN #[Y,S,G] (C.free j) (S1.free a8) ya (zx j ((S3.trans S4) _ _ a2)) (C.same (y9 j)) #[a9,ml,pl,sl,f2,((k.ft.same (S3.trans S4)).same (y9 j))]]
  .rw[cj G];ext;exists (by walk_at "len"),kE (λM hM g=>G (by rwa[g.uniq Y S,g.tk])) el O2 _ C
 .erw[kE (λM hM g=>by have e:=U M hM;rw[g.b0]at e;cases e) el O2 H2 (y.fgo S1 L z)]
structure vl9(H:Hp)(L dt:qa)(lx:V)(n:Nat)(lk:Λ)(kd:Ν)(tp:Λ)(ps:Κ)(d:Ο)(mo N w:Nat)(lt:Λ)(tt:Κ):Prop where
 l:H L\(refs lk n)
 n1:1<=n
 n6:n<=6
 r:xz H n lk kd tp ps
 dat:H dt\↥d
 by':Byt d
 dl:↑d<=12000
 mo1:mo<=1000
 lr:yyi H lx N w lt tt
 w1:w<=1000
 N1:N<=1000
 b:6+6*(N*(9*w+1))+54*mo+200<1000000
def rS(n:Nat)(kd:Ν)(ps:Κ)(pre:Ο):FX×Sn:=((FX0 n kd).run (fa0 n ps) pre,s0)
theorem Õ(A:FA)(d:Ο)(S:FX×Sn):∀k,rst A d S k=rst (fa0 A.n A.ps) d S k
 |0=>rfl
 |k+1=>by
  show rnx A d (rst A d S k)=rnx (fa0 A.n A.ps) d (rst (fa0 A.n A.ps) d S k);rw[Õ A d S k];rfl
def å(A:FA)(d:Ο)(S:FX×Sn)(k:Nat):ε A d S k=ε (fa0 A.n A.ps) d S k:=by unfold ε;rw[Õ];rfl
def yvl(A:FA)(d:Ο)(S:FX×Sn)(k:Nat):rsg A d S k=rsg (fa0 A.n A.ps) d S k:=by unfold rsg sgB;rwa[Õ,congrArg List.sum (List.map_congr_left λj Z=>by rw[å])]
def yuw(A:FA)(d:Ο)(S:FX×Sn)(k:Nat):rtx A d S k=rtx (fa0 A.n A.ps) d S k:=by unfold rtx;erw[List.map_congr_left λj Z=>yvl A d S j]
def ywf(A:FA)(d:Ο)(S:FX×Sn)(k:Nat):rTL A d S k=rTL (fa0 A.n A.ps) d S k:=by unfold rTL;rw[Õ]
theorem ROk.fa0{A:FA}{d:Ο}{S:FX×Sn}{N:Nat}:ROk A d S N↔ROk (fa0 A.n A.ps) d S N:=by
 constructor
 .intro h;exists λj a=>by rwa[<- å,h.b1 j a],by rwa[<- å,h.b0],by rwa[<- Õ,h.tk]
 .intro h;exists λj a=>by rwa[å,h.b1 j a],by rwa[å,h.b0],by rwa[Õ,h.tk]
def yyv{s t:Int}(hs:0<=s/\s<=255)(ht:0<=t/\t<=255)(h:b8 s=b8 t):s=t:=by
 have k:∀z:Int,0<=z/\z<=255->(b8 z).foldl (λa b=>2*a+b) 0=z:=λz c=>by
  let#[n,J]:=Int.eq_ofNat_of_zero_le c.1;erw[(by right:∀x:Fin 256,(b8 x.val).foldl (λa b=>2*a+b) 0=(x.val:Int)) #[n,()]]
 rw[<- k s hs,h,k t ht]
def ygl{mx:Nat->Int}{d:Ο}(hd:Byt d){m:Nat}(hc:∀j,j<m->Ch (mx j))(hb:∀j,j<m->bt j=0\/bt j=1)(i:InS d (snK mx bt m)):∀k,k<m->bt k=ë d (snK mx bt k) (mx k)/\InS d (snK mx bt k):=by
 induction m with
 |zero=>erw[λk b=>absurd b (cD k)]
 |succ m ih =>
  let f:=(ο (mx:=mx) (bt:=bt) m λj c=>hc j ()).1;let#[a,e]:=yu5 hd f (hc m ()) (hb m ()) i;intro k b;by_cases z:k=m
  .rw[z];erw[e,a]
  .erw[ih (λj c=>hc j ()) (λj c=>hb j ()) a k ()]
def ypu{k:Nat}(h:k<↑(dec ts)):vh ts k=0\/vh ts k=1:=by let#[b,a]:=yff ts k h;omega
def ū(x:Sn):Byt (tL x):=λb a=>yxs _ _ b a
theorem Ē{n:Nat}{kd:Ν}{ps:Κ}{pre d:Ο}(hd:Byt d)(hc:∀j,j<↑(dec ts)->Ch (uf n kd ps pre ts j))(hi:InS d ((snK (uf n kd ps pre ts) (vh ts)) ↑(dec ts))):∀k,k<=↑(dec ts)->rst (fa0 n ps) d (rS n kd ps pre) k=(fX n kd ps pre ts k,(snK (uf n kd ps pre ts) (vh ts)) k)
 |0,_=>rfl
 |k+1,hk=>by
  let c:=(ygl hd hc (λj b=>ypu b) hi k ()).1;have e:(dec ts)[k]?=some (vh ts k):=by unfold vh;rw[bP ()];rfl
  show rnx (fa0 n ps) d (rst (fa0 n ps) d (rS n kd ps pre) k)=_;rw[Ē hd hc hi k ()];show ((fX n kd ps pre ts k).see (fa0 n ps) (ë d ((snK (uf n kd ps pre ts) (vh ts)) k) (uf n kd ps pre ts k)),nar ((snK (uf n kd ps pre ts) (vh ts)) k) (uf n kd ps pre ts k) (ë d ((snK (uf n kd ps pre ts) (vh ts)) k) (uf n kd ps pre ts k)))=(fX n kd ps pre ts (k+1),nar ((snK (uf n kd ps pre ts) (vh ts)) k) (uf n kd ps pre ts k) (vh ts k));rw[<- c]
  have a:fX n kd ps pre ts (k+1)=(fX n kd ps pre ts k).see (fa0 n ps) (vh ts k):=by
   unfold fX;rw[zl e]
  rw[a]
def yjw{n:Nat}{kd:Ν}{ps:Κ}{pre d:Ο}(hd:Byt d)(hc:∀j,j<↑(dec ts)->Ch (uf n kd ps pre ts j))(hi:InS d ((snK (uf n kd ps pre ts) (vh ts)) ↑(dec ts)))(k:Nat)(hk:k<↑(dec ts)):ε (fa0 n ps) d (rS n kd ps pre) k=vh ts k:=by have b:=(ygl hd hc (λj a=>ypu a) hi k hk).1;unfold ε;rwa[Ē hd hc hi k (),b.symm]
def ô(t:Int)(r:Ο)(k:Nat):vh (t::r) (k+9)=vh r k:=rfl
def yhi(t:Int)(r:Ο):∀i,i<8->vh (t::r) (1+i)=t/wB i%2:=λi a=>by
 rcases i with _|_|_|_|_|_|_|_|i
 .rfl
 .rfl
 .rfl
 .rfl
 .rfl
 .rfl
 .rfl
 .rfl
 .omega
theorem à:∀(ts:Ο)(j:Nat)(hj:j<↑ts),vh ts (9*j)=1/\∀i,i<8->vh ts (9*j+1+i)=ts[j]/wB i%2
 |[],j,hj=>absurd hj (cD j)
 |t::r,0,_=>#[J,λi a=>by rw[show 9*0+1+i=1+i by omega];erw[yhi t r i a]]
 |t::r,j+1,hj=>by
  let#[b,c]:=à r j (by simpa using hj);erw[?_,λi a=>?_]
  .rw[show 9*(j+1)=9*j+9 by omega,ô];erw[b]
  .rw[show 9*(j+1)+1+i=9*j+1+i+9 by omega,ô];erw[c i a]
theorem yan:∀ts:Ο,vh ts (9*↑ts)=0
 |[]=>rfl
 |t::r=>by
  rw[show 9*↑(t::r)=9*↑r+9 by rw[cn];omega,ô];erw[yan r]
def yfw(A:FA)(d:Ο)(S:FX×Sn)(c i:Nat):ε A d (rst A d S c) i=ε A d S (c+i):=by unfold ε;rw[ye0]
def yjd{n:Nat}{kd:Ν}{ps:Κ}{pre d:Ο}(hts:Sgs ts)(hd:Byt d)(hc:∀j,j<↑(dec ts)->Ch (uf n kd ps pre ts j))(hl:↑(tL ((snK (uf n kd ps pre ts) (vh ts)) ↑(dec ts)))<=↑d)(h:d.take ↑(tL ((snK (uf n kd ps pre ts) (vh ts)) ↑(dec ts)))=tL ((snK (uf n kd ps pre ts) (vh ts)) ↑(dec ts))):
  ROk (fa0 n ps) d (rS n kd ps pre) ↑ts/\rtx (fa0 n ps) d (rS n kd ps pre) ↑ts=ts/\rTL (fa0 n ps) d (rS n kd ps pre) ↑ts=↑(tL ((snK (uf n kd ps pre ts) (vh ts)) ↑(dec ts))):=by
 let p:=(ο (bt:=vh ts) _ hc).1;let a:=ya7 hd p hl h;let c:=xp ts
 have f:rst (fa0 n ps) d (rS n kd ps pre) (9*↑ts+1)=(fX n kd ps pre ts ↑(dec ts),(snK (uf n kd ps pre ts) (vh ts)) ↑(dec ts)):=by
  rwa[<- c,Ē hd hc a _ (bT _)]
 let b:=yjw hd hc a;erw[#[λj l=>?_,?_,?_],?_,?_]
 .rw[b _ ()];erw[(à ts j l).1]
 .rw[b _ ()];erw[yan ts]
 .rw[f];erw[h]
 .show (List.range ↑ts).map (rsg (fa0 n ps) d (rS n kd ps pre))=ts;erw[List.ext_getElem (by rw[bL,cS]) λj q g=>?_];rw[dD,List.getElem_range];let k:=hts ts[j] (cE g);let m:=(à ts j g).2
  have e:∀i,i<8->wB i*ε (fa0 n ps) d (rst (fa0 n ps) d (rS n kd ps pre) (9*j+1)) i=wB i*(ts[j]/wB i%2):=λi a=>by
   rw[yfw,b _ (),m i a]
  have o:sgB (fa0 n ps) d (rst (fa0 n ps) d (rS n kd ps pre) (9*j+1)) 8=(List.range 8).map λi=>wB i*(ts[j]/wB i%2):=by
   unfold sgB;erw[List.map_congr_left λi a=>e i (c8.mp a)]
  unfold rsg;rwa[o,vif k.1 k.2]
 .unfold rTL;rw[f]
theorem ylt:∀{ts us:Ο},Sgs ts->Sgs us->dec ts=(dec us).take ↑(dec ts)->ts=us
 |[],[],_,_,_=>rfl
 |[],u::r,_,_,h=>by
  have h:[(0:Int)]=[1]:=h;simp at h
 |t::r,[],_,_,h=>by
  have e:↑(dec (t::r))=9*(↑r+1)+1:=xp (t::r);let f:=congrArg List.length h;rw[cz,e]at f;have j:↑(dec ([]:Ο))=1:=rfl;omega
 |t::r,u::r',ht,hu,h=>by
  have a:∀s:Int,↑(1::b8 s)=9:=λZ=>rfl;have h:(1::b8 t)++dec r=((1::b8 u)++dec r').take ↑((1::b8 t)++dec r):=h;rw[bQ,a,List.take_append,a,Nat.add_sub_cancel_left,cU (by rw[a];omega)]at h;let#[g,d]:=List.append_inj h (by rw[a,a]);let c:=yyv (ht t (by simp)) (hu u (by simp)) (List.cons.inj g).2;let i:=ylt (λx b=>ht x (by simp[b])) (λx b=>hu x (by simp[b])) d;rw[c,i]
def ykj{n:Nat}{kd:Ν}{ps:Κ}{pre:Ο}(hts:Sgs ts)(hus:Sgs us)(c1:∀j,j<↑(dec ts)->Ch (uf n kd ps pre ts j))(c2:∀j,j<↑(dec us)->Ch (uf n kd ps pre us j))
  (h:(tL ((snK (uf n kd ps pre ts) (vh ts)) ↑(dec ts))).take ↑(tL (snK (uf n kd ps pre us) (vh us) ↑(dec us)))=tL (snK (uf n kd ps pre us) (vh us) ↑(dec us))):ts=us:=by
 let v:=(ο (bt:=vh ts) _ c1).1;let u:=(ο (bt:=vh us) _ c2).1;let a:=ū ((snK (uf n kd ps pre ts) (vh ts)) ↑(dec ts));let g:=ya7 a v (bT _) (cX);let m:=ya7 a u (by have:=congrArg List.length h;rw[cz]at this;omega) h;generalize tL ((snK (uf n kd ps pre ts) (vh ts)) ↑(dec ts))=d at a g m;let q:=ygl a c1 (λj c=>ypu c) g;let s:=ygl a c2 (λj c=>ypu c) m
 have b:∀k,k<=↑(dec ts)->k<=↑(dec us)->(dec ts).take k=(dec us).take k/\snK (uf n kd ps pre ts) (vh ts) k=snK (uf n kd ps pre us) (vh us) k:=by
  intro k
  induction k with
  |zero=>erw[λZ Z=>#[J,J]]
  |succ k ih =>
   intro x w;let#[l,o]:=ih () ()
   have i:uf n kd ps pre ts k=uf n kd ps pre us k:=by
    unfold uf fX;rw[l]
   have p:vh ts k=vh us k:=by rw[(q k ()).1,(s k ()).1,o,i]
   erw[?_,?_]
   .have r:(dec ts)[k]?=some (vh ts k):=by unfold vh;rw[bP ()];rfl
    have t:(dec us)[k]?=some (vh us k):=by unfold vh;rw[bP ()];rfl
    rw[jq r,jq t,l,p]
   .show nar _ _ _=nar _ _ _;rw[o,i,p]
 rcases Nat.le_total ↑(dec ts) ↑(dec us) with f|f
 .let#[e,_]:=b _ (bT _) f;rw[cX]at e;erw[ylt hts hus e]
 .let#[e,_]:=b _ f (bT _);rw[cX]at e;erw[(ylt hus hts e.symm).symm]
def yat{ys:Ο}(h1:Byt xs)(h2:Byt ys):Byt (xs++ys):=λb a=>by
 rcases cA.mp a with h|h
 .erw[h1 b h]
 .erw[h2 b h]
def jb(n:Nat)(kd:Ν)(ps:Κ)(pre ts:Ο):Ο:=tL ((snK (uf n kd ps pre ts) (vh ts)) ↑(dec ts))
def Ė{n:Nat}{kd:Ν}{ps:Κ}{pre:Ο}(n1:1<=n)(n6:n<=6)(hp:ybj pre)(hz:↑ts<=300):↑(jb n kd ps pre ts)<=5500:=by
 let b:=xp ts;let#[c,a]:=ο (mx:=uf n kd ps pre ts) (bt:=vh ts) ↑(dec ts) λj Z=>Û n1 n6 hp j;unfold jb;rw[yly];have:sz ((snK (uf n kd ps pre ts) (vh ts)) ↑(dec ts))<=5500:=by show Int.toNat _<=5500;omega
 omega
def ypa{n:Nat}{kd:Ν}{ps:Κ}{pre bs:Ο}(n1:1<=n)(n6:n<=6)(hp:ybj pre)(hts:Sgs ts)(hb:Byt bs):
  ROk (fa0 n ps) (jb n kd ps pre ts++bs) (rS n kd ps pre) ↑ts/\rtx (fa0 n ps) (jb n kd ps pre ts++bs) (rS n kd ps pre) ↑ts=ts/\rTL (fa0 n ps) (jb n kd ps pre ts++bs) (rS n kd ps pre) ↑ts=↑(jb n kd ps pre ts) :=
 yjd hts (yat (ū _) hb) (λj Z=>Û n1 n6 hp j) (by rwa[bQ,Nat.le_add_right _ _]) List.take_left
def ywy{n:Nat}{kd:Ν}{ps:Κ}{pre bs:Ο}(n1:1<=n)(n6:n<=6)(hp:ybj pre)(hb:Byt bs):(rst (fa0 n ps) (jb n kd ps pre ts++bs) (rS n kd ps pre) (9*↑ts+1)).1=((FX0 n kd).run (fa0 n ps) pre).run (fa0 n ps) (dec ts):=by have b:∀j,j<↑(dec ts)->Ch (uf n kd ps pre ts j):=λj Z=>Û n1 n6 hp j;have a:Byt (jb n kd ps pre ts++bs):=yat (ū _) hb;let c:=ya7 a (ο (bt:=vh ts) _ b).1 (by rwa[bQ,Nat.le_add_right _ _]) List.take_left;rw[<- xp ts,Ē a b c _ (bT _)];unfold fX;rw[cX]
noncomputable def ym4(a b c d e f g h:Int):Int:=128*a+(64*b+(32*c+(16*d+(8*e+(4*f+(2*g+(1*h+0)))))))
noncomputable def yp4:Ο:=[0,1]
def vlg:∀a∈yp4,∀b∈yp4,∀c∈yp4,∀d∈yp4,∀e∈yp4,∀f∈yp4,∀g∈yp4,∀h∈yp4,(0<=ym4 a b c d e f g h/\ym4 a b c d e f g h<=255)/\ym4 a b c d e f g h/128%2=a/\ym4 a b c d e f g h/64%2=b/\ym4 a b c d e f g h/32%2=c/\ym4 a b c d e f g h/16%2=d/\ym4 a b c d e f g h/8%2=e/\ym4 a b c d e f g h/4%2=f/\ym4 a b c d e f g h/2%2=g/\ym4 a b c d e f g h/1%2=h:=(by right)
def yga(A:FA)(d:Ο)(S:FX×Sn)(j:Nat):(0<=rsg A d S j/\rsg A d S j<=255)/\∀i,i<8->rsg A d S j/wB i%2=ε A d S (9*j+1+i):=by
 have m:∀i,ε A d (rst A d S (9*j+1)) i∈yp4:=λi=>by
  rcases ymg A d (rst A d S (9*j+1)) i with z|z<;>(rw[z];decide)
 have r:∀i,ε A d S (9*j+1+i)=ε A d (rst A d S (9*j+1)) i:=λi=>(yfw A d S (9*j+1) i).symm;let#[q,c,f,h,g,b,k,a,e]:=vlg _ (m 0) _ (m 1) _ (m 2) _ (m 3) _ (m 4) _ (m 5) _ (m 6) _ (m 7);erw[q,λi l=>?_];rw[r i];rcases i with _|_|_|_|_|_|_|_|i
 .erw[c]
 .erw[f]
 .erw[h]
 .erw[g]
 .erw[b]
 .erw[k]
 .erw[a]
 .erw[e]
 .omega
def yyt{A:FA}{d:Ο}{S:FX×Sn}{M:Nat}(h:j<↑(rtx A d S M)):(rtx A d S M)[j]=rsg A d S j:=by
 have e:(rtx A d S M)[j]?=some (rsg A d S j):=by
  unfold rtx;rw[bU,dh (by rw[ø]at h;erw[h])];rfl
 rw[bP h]at e;erw[cr e]
def yoa{A:FA}{d:Ο}{S:FX×Sn}{M:Nat}(b1:∀j,j<M->ε A d S (9*j)=1)(b0:ε A d S (9*M)=0)(k:Nat)(hk:k<9*M+1):vh (rtx A d S M) k=ε A d S k:=by
 let c:=ø A d S M;by_cases z:k=9*M
 .rw[z,b0];let e:=yan (rtx A d S M);rw[c]at e;erw[e]
 .have b:k/9<M:=()
  have a:k/9<↑(rtx A d S M):=by rwa[c,b]
  let#[l,h]:=à (rtx A d S M) (k/9) a;by_cases y:k%9=0
  .have e:k=9*(k/9):=()
   rw[e,l,b1 _ b]
  .obtain⟨i,g,m⟩:∃i,i<8/\k=9*(k/9)+1+i:=#[k%9-1,(),()];let f:=h i g;rw[yyt a,(yga A d S (k/9)).2 i g,<- m]at f;erw[f]
def yt3(A:FA)(d:Ο)(S:FX×Sn)(M:Nat):Sgs (rtx A d S M):=λx a=>by
 let#[j,_,J]:=bW.mp a;erw[(yga A d S j).1]
theorem ykq{n:Nat}{kd:Ν}{ps:Κ}{pre d:Ο}(hb:∀k,k<↑(dec us)->vh us k=ε (fa0 n ps) d (rS n kd ps pre) k):∀k,k<=↑(dec us)->rst (fa0 n ps) d (rS n kd ps pre) k=(fX n kd ps pre us k,snK (uf n kd ps pre us) (vh us) k)
 |0,_=>rfl
 |k+1,hk=>by
  let b:=ykq hb k ()
  have e:vh us k=ë d (snK (uf n kd ps pre us) (vh us) k) (uf n kd ps pre us k):=by
   rw[hb k ()];show ë d (rst (fa0 n ps) d (rS n kd ps pre) k).2 (chX (fa0 n ps) (rst (fa0 n ps) d (rS n kd ps pre) k).1)=_;rw[b];rfl
  have a:(dec us)[k]?=some (vh us k):=by unfold vh;rw[bP ()];rfl
  show rnx (fa0 n ps) d (rst (fa0 n ps) d (rS n kd ps pre) k)=_;rw[b];show ((fX n kd ps pre us k).see (fa0 n ps) (ë d (snK (uf n kd ps pre us) (vh us) k) (uf n kd ps pre us k)),nar (snK (uf n kd ps pre us) (vh us) k) (uf n kd ps pre us k) (ë d (snK (uf n kd ps pre us) (vh us) k) (uf n kd ps pre us k)))=(fX n kd ps pre us (k+1),nar (snK (uf n kd ps pre us) (vh us) k) (uf n kd ps pre us k) (vh us k));rw[<- e]
  have c:fX n kd ps pre us (k+1)=(fX n kd ps pre us k).see (fa0 n ps) (vh us k):=by
   unfold fX;rw[zl a]
  rw[c]
def yi7{n:Nat}{kd:Ν}{ps:Κ}{pre d:Ο}{M:Nat}(h:ROk (fa0 n ps) d (rS n kd ps pre) M):
  jb n kd ps pre (rtx (fa0 n ps) d (rS n kd ps pre) M)=d.take (rTL (fa0 n ps) d (rS n kd ps pre) M)/\↑(jb n kd ps pre (rtx (fa0 n ps) d (rS n kd ps pre) M))=rTL (fa0 n ps) d (rS n kd ps pre) M:=by
 let a:=xp (rtx (fa0 n ps) d (rS n kd ps pre) M);rw[ø]at a;let e:=ykq (n:=n) (kd:=kd) (ps:=ps) (pre:=pre) (us:=rtx (fa0 n ps) d (rS n kd ps pre) M) (d:=d) (λk c=>yoa h.b1 h.b0 k ()) _ (bT _)
 have b:jb n kd ps pre (rtx (fa0 n ps) d (rS n kd ps pre) M)=tL (rst (fa0 n ps) d (rS n kd ps pre) (9*M+1)).2:=by
  rw[<- a,e];rfl
 rwa[b,#[h.tk.symm,rfl]]
def vjp{x:Sn}{c b:Int}(h:Ok x)(hc:Ch c):(nar x c b).2.1<1099511627776:=by
 let#[d,e,f]:=yc6 h.w0 h.w1 hc;let a:=h.w1;unfold nar ren
 (repeat' split)<;>(dsimp only at*;omega)
def yfv{n:Nat}{kd:Ν}{ps:Κ}{pre:Ο}(n1:1<=n)(n6:n<=6)(hp:ybj pre):1<=↑(jb n kd ps pre ts):=by
 let f:=xp ts;obtain⟨m,d⟩:∃m,↑(dec ts)=m+1:=#[9*↑ts,()];unfold jb;rw[yly,d];have a:∀j,j<m+1->Ch (uf n kd ps pre ts j):=λj Z=>Û n1 n6 hp j;let g:=(ο (bt:=vh ts) m λj k=>a j ()).1;let c:=(ο (bt:=vh ts) (m+1) a).1;have h:((snK (uf n kd ps pre ts) (vh ts)) (m+1)).2.1<1099511627776:=vjp (x:=(snK (uf n kd ps pre ts) (vh ts)) m) (b:=vh ts m) g.ok (a m ());let i:=yk8 (ybe c.ok);let l:=c.sz5;have e:pw (tK ((snK (uf n kd ps pre ts) (vh ts)) (m+1)))<pw 5:=by rw[pw5];omega
 have:=ve2 e;omega
def δ(L:qj (Ο)):Ο:=(L.map dec).flatten
def ĳ(L:qj (Ο))(t:Ο):δ (L++[t])=δ L++dec t:=by unfold δ;rw[ce,List.flatten_append];simp
def uq(L:qj (Ο)):ybj (δ L):=λb a=>by
 unfold δ at a;let#[l,c,a]:=List.mem_flatten.mp a;let#[t,_,J]:=bW.mp c;erw[jf t b a]
def yph{A:FA}{X:FX}(hts:Sgs ts)(h1:X.sg=[])(h2:X.nd=0):(X.run A (dec ts)).sg=[]/\(X.run A (dec ts)).nd=0:=by
 have a:∀k,k<=↑(dec ts)->TxE ts k (X.run A ((dec ts).take k)).sg (X.run A ((dec ts).take k)).nd:=by
  intro k
  induction k with
  |zero =>
   intro _;erw[.inl #[cK _,by show ybi _ _ X.sg X.nd;rwa[h1,h2,ybi.zero _]]]
  |succ k ih =>
   intro d;have b:(dec ts)[k]?=some ((dec ts)[k]'()):=bP _;rwa[zl b,((ih ()).next hts b).2]
 let e:=a _ (bT _);rw[cX]at e;let c:=xp ts;rcases e with⟨h,_⟩|⟨_,h⟩
 .omega
 .erw[h]
def ytu(p:qa)(A:FA)(O:Β):Μ:=λc=>c=p\/c=A.mp\/(∃j,j<A.n/\c=A.bk j)\/(∃j,j<A.n/\O j c)\/c=A.el
def FZ(K:xy)(a:Ads)(H:Hp)(p:qa)(n:Nat)(kd:Ν)(ps:Κ)(pre:Ο)(M:Nat)(W:Μ):Prop :=
 ∃A f O m,zr K a H p A ((FX0 n kd).run (fa0 n ps) pre) f O m/\m<=M/\yx9 H A/\A.n=n/\A.kd=kd/\A.ps=ps/\((FX0 n kd).run (fa0 n ps) pre).sg=[]/\((FX0 n kd).run (fa0 n ps) pre).nd=0/\∀c,W c↔ytu p A O c
noncomputable def vhx:HO->Bool
 | .ins _ _ _=>true
 | .dT _=>true
 | .dK _=>true
 | .frz _ (.dK _)=>true
 |_=>false
def vh0(o:ql HO):Prop:=(∃ys,o\ys)\/∃ys,o∪ys/\(↑ys≠2\/∃i,ys[0]?=some (i:))
noncomputable def vh1:V->Bool
 | .non=>true
 | .bl _=>true
 |_=>false
def WSh(H:Hp)(W:Μ):Prop:=∀c,W c->∃o,H c=some o/\(vhx o=true\/∃xs,o=.lst xs/\∀x∈xs,(∃s,x=V.str s)\/vh1 x=true\/∃q,x=V.ref q/\vh0 (H q))
def yvq{o:HO}(h:yyb o=true):vhx o=true:=by cases o<;>first|rfl|cases h
end
section
mutual
variable{H H':Hp}{p:qa}{n:Nat}{kd:Ν}{ps:Κ}{pre:Ο}{M:Nat}{W:Μ}
def FZ.sh(h:FZ K a H p n kd ps pre M W):WSh H W:=λc w=>by
 let#[A,f,O,m,d,_,_,_,_,_,l,_,e]:=h;rcases (e c).mp w with z|z|⟨j,g,z⟩|⟨j,g,z⟩|z
 .erw[_,by rwa[z,d.me],.inl J]
 .erw[_,by rwa[z,d.mx.o],.inl J]
 .erw[_,by rwa[z,(d.B.b j g).me],.inl J]
 .let#[o,k,q]:=(d.B.b j g).own c z;erw[o,k,.inl (yvq q)]
 .let i:=d.el;rw[l]at i;erw[_,by rwa[z,i],.inr #[_,J,λx r=>by cases r]]
def FZ.live(h:FZ K a H p n kd ps pre M W):∀c,W c->∃o,H c=some o:=λc w=>let ⟨o,e,_⟩:=h.sh c w;#[o,e]
theorem FZ.same(h:FZ K a H p n kd ps pre M W)(S:y7 H H'):FZ K a H' p n kd ps pre M W:=by let#[A,f,O,m,i,c,e,g,b,d,r]:=h;erw[A,f,O,m,i.same S,c,e.same S,g,b,d,r]
def FZ.up(h:FZ K a H p n kd ps pre M W){M':Nat}(hM:M<=M'):FZ K a H p n kd ps pre M' W:=by let#[A,f,O,m,i,c,g,e,b,d,r]:=h;erw[A,f,O,m,i,cN c hM,g,e,b,d,r]
theorem WSh.tup(h:WSh H W){c:qa}{xs:Τ}(e:H c∪xs):¬W c:=λw=>by
 obtain⟨o,a,z|⟨b,z,_⟩⟩:=h c w
 .rw[e]at a;cases a;cases z
 .rw[e,z]at a;cases a
def WSh.ints(h:WSh H W){c:qa}{ns:Ο}(e:H c\↥ns)(hn:1<=↑ns):¬W c:=λw=>by
 obtain⟨o,a,z|⟨b,z,q⟩⟩:=h c w
 .rw[e]at a;cases a;cases z
 .rw[e,z]at a;cases a
  cases ns with
  |nil=>cases hn
  |cons x r=>rcases q (x:) cG with⟨_,z⟩|z|⟨_,z,_⟩<;>cases z
theorem WSh.refs(h:WSh H W){c:qa}{g:Λ}{k:Nat}(e:H c\(Law.refs g k))(hk:1<=k)(hg:¬vh0 (H (g 0))):¬W c:=λw=>by
 obtain⟨o,a,z|⟨f,z,q⟩⟩:=h c w
 .rw[e]at a;cases a;cases z
 .rw[e,z]at a;cases a;rcases q ⇑(g 0) (ck (yvp hk))with⟨_,z⟩|z|⟨d,z,b⟩
  .cases z
  .cases z
  .cases z;erw[hg b]
theorem FZ.frame(h:FZ K a H p n kd ps pre M W)(sh:WSh H W2)(dj:∀c,W c->¬W2 c)(fr:∀c o,H c=some o->¬W2 c->H' c=some o):FZ K a H' p n kd ps pre M W:=by
 let#[A,f,O,m,d,X,x,Y,N,Z,e4,L,q]:=h;let k:=d.n1;let#[S,j]:=x.2.2
 have y:¬W2 A.ll:=sh.refs x.1 k λz=>by
  let#[I,e,u,_]:=j 0 k;cases e;rw[u]at z;rcases z with⟨_,z⟩|⟨_,z,r⟩
  .cases z
  .cases z;erw[r.elim (λr=>r J) λ⟨_,r⟩=>nomatch r]
 have D:¬W2 A.bl:=sh.refs d.bl k λz=>by rw[(d.B.b 0 k).me]at z;rcases z with⟨_,z⟩|⟨_,z,_⟩<;>cases z
 have E:¬W2 A.pl:=sh.refs d.pl k λz=>by
  let#[_,#[dq,U],_,_]:=d.slot k;let#[C,fs,P]:=Ë a dq (((FX0 n kd).run (fa0 n ps) pre).g 0 (((FX0 n kd).run (fa0 n ps) pre).key A 0));rw[U,P]at z;rcases z with⟨_,z⟩|⟨_,z,_⟩<;>cases z
 have G:¬W2 A.ml:=sh.ints d.mx.l (by rwa[d.wok.len,k]);erw[A,f,O,m,d.frame (O2:=W2) (λc o e Q=>fr c o e Q) (dj _ ((q _).mpr (.inl J))) (dj _ ((q _).mpr (.inr (.inl J)))) (λi s=>dj _ ((q _).mpr (.inr (.inr (.inl #[i,s,J]))))) (λi c s w=>dj _ ((q _).mpr (.inr (.inr (.inr (.inl #[i,s,w])))))) (λl R F e=>fr _ _ e ?_) (λt R e=>?_),X,#[fr _ _ x.1 y,x.2.1,S,λi s=>?_],Y,N,Z,e4,L,q]
 .rcases F with z|z|z|z
  .rw[z];erw[D]
  .rw[z];erw[dj _ ((q _).mpr (.inr (.inr (.inr (.inr J)))))]
  .rw[z];erw[G]
  .rw[z];erw[E]
 .rcases e with(e|⟨o,e⟩)|e
  .erw[.inl (.inl (fr _ _ e (sh.tup e)))]
  .erw[.inl (.inr #[o,fr _ _ e λw=>?_])];obtain⟨o',v,z|⟨ys,z,_⟩⟩:=sh t w
   .rw[e]at v;cases v;cases z
   .rw[e,z]at v;cases v
  .erw[.inr e]
 .let#[I,z,u,ς,T]:=j i s;erw[I,z,fr _ _ u (sh.tup u),fr _ _ ς (sh.tup ς),T]
def FZ.went{A:FA}{f f':Α}{m:Nat}{X:FX}{ml el pl:qa}{sl:Λ}(hF:zr K a H p A ((FX0 A.n A.kd).run (fa0 A.n A.ps) pre) f O m)(hl:yx9 H A)(hX:X=(FX0 A.n A.kd).run (fa0 A.n A.ps) (pre++dec ts))(hts:Sgs ts)(h4:((FX0 A.n A.kd).run (fa0 A.n A.ps) pre).sg=[])(h5:((FX0 A.n A.kd).run (fa0 A.n A.ps) pre).nd=0)
  (hF':zr K a H' p (A.re ml el pl sl) X f' O' m') (go:FGo p A O H H' el O') (e6:∀c,W c↔ytu p A O c):FZ K a H' p A.n A.kd A.ps (pre++dec ts) m' (ytu p (A.re ml el pl sl) O')/\Go W H H' (ytu p (A.re ml el pl sl) O'):=by
 subst hX;let h:=go.kpa hF;let d:=yph (A:=fa0 A.n A.ps) hts h4 h5;erw[#[_,f',O',m',hF',bT _,#[(h _ _ hl.1 J hl.2.1).2,(h _ _ hl.1 J hl.2.1).1,?_],J,J,J,by rwa[Ú,d.1],by rwa[Ú,d.2],λc=>Iff.rfl],#[λc o e t=>?_,λc w=>?_,go.live]]
 .let#[u,r]:=hl.2.2;erw[u,λi B=>?_];let#[s,z,q,k,x]:=r i B;have l:∀{c:qa}{xs:Τ},H c∪xs->c≠A.el:=λe z=>by rw[z,hF.el]at e;cases e
  erw[s,z,(h _ _ q J (l q)).2,(h _ _ k J (l k)).2,x]
 .have b:¬ytu p A O c:=λw=>t ((e6 c).mpr w);erw[go.fr c o e (λz=>b (.inl z)) (λz=>b (.inr (.inl z))) (λz=>b (.inr (.inr (.inr (.inr z))))) λj g w=>b (.inr (.inr (.inr (.inl #[j,g,w]))))]
 .rcases w with z|z|⟨j,g,z⟩|⟨j,g,z⟩|z
  .erw[.inl ((e6 c).mpr (.inl z))]
  .erw[.inl ((e6 c).mpr (.inr (.inl z)))]
  .erw[.inl ((e6 c).mpr (.inr (.inr (.inl #[j,g,z]))))]
  .rcases go.hO j c g z with v|v
   .erw[.inl ((e6 c).mpr (.inr (.inr (.inr (.inl #[j,g,v])))))]
   .erw[.inr v]
  .rcases go.he with y|y
   .erw[.inl ((e6 c).mpr (.inr (.inr (.inr (.inr (show c=A.el from Eq.trans z y))))))]
   .erw[.inr (by rwa[show c=el from z,y])]
def FZ.read{Q:VK}{E:XK}{dt:qa}{bs:Ο}{mo:Nat}(h:FZ K a H p n kd ps pre M W)(hb:ybj pre)(hts:Sgs ts)(hdt:H dt\↥(jb n kd ps pre ts++bs))(ndt:¬W dt)(hbs:Byt bs)(hdl:↑(jb n kd ps pre ts++bs)<=12000)(hz:↑ts<=mo)(hmo:mo<=1000)(hM:M+54*mo+200<1000000)
  (k:∀t r W' H',H t=none->H r=none->H' t∪[.ref r,.int (↑(jb n kd ps pre ts):Nat)]->H' r\↥ts->FZ K a H' p n kd ps (pre++dec ts) (M+6*↑(dec ts)) W'->Go W H H' W'->¬W' r->Q ⇑t H'):İ K a [.ref p,.ref dt,.int mo] H Q E:=by
 let#[A,f,O,m,l,hm,hl,J,J,J,Y,L,S]:=h;let#[q,x,C]:=ypa (kd:=A.kd) (ps:=A.ps) (pre:=pre) (bs:=bs) l.n1 l.n6 hb hts hbs;have D:Byt (jb A.n A.kd A.ps pre ts++bs):=yat (ū _) hbs;erw[p,A,_,f,O,m,dt,_,mo,J,l,hdt,λz=>ndt ((S _).mpr (.inr (.inr (.inr (.inr z))))),D,hdl,hmo,(),by rw[L];decide,by rwa[Y,cK _],λN t r v Z H' hN i ς F s d X c=>?_,λu v Z H' X=>?_]
 .rw[ROk.fa0]at i;obtain rfl:N=↑ts:=q.uniq i.b1 i.b0;rw[ywf]at s;rw[yuw]at d;have s:H' t∪[.ref r,.int (rTL (fa0 A.n A.ps) (jb A.n A.kd A.ps pre ts++bs) (rS A.n A.kd A.ps pre) ↑ts)]:=s;have d:H' r\↥(rtx (fa0 A.n A.ps) (jb A.n A.kd A.ps pre ts++bs) (rS A.n A.kd A.ps pre) ↑ts):=d;rw[C]at s;rw[x]at d;let#[G,P,U,R,f',c]:=c;let y:=xp ts
  have eX:(rst A (jb A.n A.kd A.ps pre ts++bs) ((FX0 A.n A.kd).run (fa0 A.n A.ps) pre,s0) (9*↑ts+1)).1=(FX0 A.n A.kd).run (fa0 A.n A.ps) (pre++dec ts):=by
   rwa[Õ,Ú,ywy l.n1 l.n6 hb hbs]
  let#[z,g]:=FZ.went l hl eX hts Y L c X S;erw[k t r _ H' ς F s d (z.up ()) g λw=>?_];rcases w with w|w|⟨j,I,w⟩|⟨j,I,w⟩|w
  .let e:=c.me;rw[<- w,d]at e;cases e
  .let e:=c.mx.o;rw[show r=(A.re P v U R).mp from w]at d;rw[d]at e;cases e
  .let e:=(c.B.b j I).me;rw[show r=(A.re P v U R).bk j from w]at d;rw[d]at e;cases e
  .let#[o,T,hi]:=(c.B.b j I).own _ w;rw[d]at T;cases T;cases hi
  .erw[G w]
 .erw[(u ↑ts hz (by rwa[ROk.fa0,q])).elim]
def FZ.press{Q:VK}{E:XK}{tx:qa}(h:FZ K a H p n kd ps pre M W)(htx:ă H tx ts 1000)(ntx:¬W tx)(hM:M+6*↑(dec ts)+20<1000000)
  (k:∀r W' H',H r=none->H' r\↥(jb n kd ps pre ts)->FZ K a H' p n kd ps (pre++dec ts) (M+6*↑(dec ts)) W'->Go W H H' W'->Q ⇑r H'):yf1 K a [.ref p,.ref tx] H Q E:=by
 let#[A,f,O,m,l,I,t,J,J,J,o,d,i]:=h;erw[p,A,_,f,O,m,tx,ts,J,l,o,d,htx,λz=>ntx ((i _).mpr (.inr (.inr (.inr (.inr z))))),(),λr x B D y F C G H' c u b q w=>?_]
 have v:((FX0 A.n A.kd).run (fa0 A.n A.ps) pre).run A (dec ts)=(FX0 A.n A.kd).run (fa0 A.n A.ps) (pre++dec ts):=by rwa[Ú,ķ A _ _]
 let#[z,g]:=FZ.went l t v htx.s o d b w i;erw[k r _ H' c ?_ (z.up ()) g];rw[u];have e:snK (yig A ((FX0 A.n A.kd).run (fa0 A.n A.ps) pre) ts) (vh ts) ↑(dec ts)=snK (uf A.n A.kd A.ps pre ts) (vh ts) ↑(dec ts):=yb3 _ λj Z=>#[by unfold uf yig fX;rw[ķ A];rfl,J];rw[e];rfl
end
end
mutual
noncomputable def nmL(L:Η):Τ:=L.map λx=>V.str x.1
def ydb(H:Hp)(U:Μ):qj (Str×qj Int)->qj V->Prop
 |[],ks=>ks=[]
 |x::r,ks=>∃k ks',ks=k::ks'/\(k=.non\/∃q,k=.ref q/\H q\↥x.2/\¬U q)/\ydb H U r ks'
theorem ydb.len{H:Hp}:∀{L:Η}{ks:Τ},ydb H U L ks->↑ks=↑L
 |[],_,h=>by rw[show _=_ from h];rfl
 |_::r,_,⟨_,_,e,_,h⟩=>by rw[e,cn,cn,h.len]
theorem ydb.mono{H H':Hp}(f:∀q xs,H q\xs->¬U q->H' q\xs/\¬U' q):∀{L:Η}{ks:Τ},ydb H U L ks->ydb H' U' L ks
 |[],_,h=>h
 |_::_,_,⟨k,ks',e,z,h⟩=>#[k,ks',e,z.imp id λ⟨q,e,b,a⟩=>#[q,e,f q _ b a],h.mono f]
theorem ydb.snoc{H:Hp}{nm:Str}{t:Ο}{k:V}(hk:k=.non\/∃q,k=.ref q/\H q\↥t/\¬U q):∀{L:Η}{ks:Τ},ydb H U L ks->ydb H U (L++[(nm,t)]) (ks++[k])
 |[],_,h=>by rwa[show _=_ from h,#[k,[],J,hk,rfl]]
 |_::_,_,⟨k',ks',e,z,h⟩=>#[k',ks'++[k],by rw[e];rfl,z,h.snoc hk]
theorem ydb.mem{H:Hp}:∀{L:Η}{ks:Τ},ydb H U L ks->∀x∈ks,x=.non\/∃q ys,x=.ref q/\H q\ys/\¬U q
 |[],_,h,x,hx=>by rw[show _=_ from h]at hx;cases hx
 |_::_,_,⟨k,ks',e,z,h⟩,x,hx=>by
  rw[e]at hx;rcases bZ.mp hx with y|y
  .rw[y];erw[z.imp id λ⟨q,e,b,a⟩=>#[q,_,e,b,a]]
  .erw[h.mem x y]
def ChW(ll tl:qa)(W:Μ):Μ:=λc=>c=ll\/c=tl\/W c
structure Ü(K:xy)(a:Ads)(H:Hp)(c dc p ll tl:qa)(n:Nat)(kd:Ν)(ps:Κ)(L:Η)(ks:Τ)(M:Nat)(W:Μ):Prop where
 me:H c∩a.A2 dc (ν ⇑p ⇑ll ⇑tl)
 fz:FZ K a H p n kd ps (δ (L.map (·.2))) M W
 hl:H ll\(nmL L)
 ht:H tl\ks
 tx:ydb H (ChW ll tl W) L ks
 nc:¬W c
 nll:¬W ll
 ntl:¬W tl
 ne:ll≠tl
def FZ.new{H:Hp}{p dp l:qa}{n:Nat}{lk:Λ}{kd:Ν}{ps:Κ}{Q:VK}{E:XK}(np:H p=none)(ndp:H dp=none)(hl:H l\(refs lk n))(n1:1<=n)(n6:n<=6)(r:xz H n lk kd tp ps)
  (k:∀W H',FZ K a H' p n kd ps [] 6 W->(∀c,W c->H c=none)->y7 H H'->(∀y xs H'',H y\xs->But y H' H''->FZ K a H'' p n kd ps [] 6 W)->Q .non H'):yfi K a [.ref p,.ref l] (upd (upd H dp (.own p)) p (.ins a.A3 dp [])) Q E:=by
 have d:y7 H (upd (upd H dp (.own p)) p (.ins a.A3 dp [])):=λb o e=>by rwa[yk (yb e np),yk (yb e ndp),e]
 erw[p,dp,.ref l,J,ya,.inr #[l,n,lk,kd,tp,ps,J,d _ _ hl,n1,n6,r.same d,λA f O F U Y=>?_]];have B:y7 H F:=λb o e=>Y b o (d b o e) (yb e np);let#[s,J,J,J,J,P,T,M,S,m,u,C]:=U;erw[k (ytu p A O) F #[A,f,O,6,s,bT _,#[m,u,tp,r.same B],J,J,J,J,J,λc=>Iff.rfl] (λc w=>?_) B (λy xs H2 R b=>?_)]
 .rcases w with z|z|⟨j,ς,z⟩|⟨j,ς,z⟩|z
  .rw[z];erw[np]
  .rw[z];erw[d.free M]
  .rw[z];erw[d.free (T j ς)]
  .erw[d.free (P j c ς z)]
  .erw[d.free (S c (.inr (.inl z)))]
 .have g:∀{x:qa},H x=none->x≠y:=λ{x}e z=>by rw[z,R]at e;cases e
  let h:=B _ _ R;have I:∀{x:qa}{v:Τ},F x∪v->x≠y:=λ{x v}e z=>by rw[z,h]at e;cases e
  erw[A,f,O,6,s.frame (O2:=λc=>c=y) (λc o e X=>b c o e X) (g np) (g (d.free M)) (λi q=>g (d.free (T i q))) (λi c q w=>g (d.free (P i c q w))) (λl v G e=>b _ _ e (g (d.free (S l G)))) (λt v e=>?_),bT _,#[b _ _ m (g (d.free C)),u,tp,λi q=>?_],J,J,J,J,J,λc=>Iff.rfl]
  .rcases e with(e|⟨o,e⟩)|e
   .erw[.inl (.inl (b _ _ e (I e)))]
   .erw[.inl (.inr #[o,b _ _ e (λz=>by rw[z,h]at e;cases e)])]
   .erw[.inr e]
  .let#[D,e,N,L,Z]:=r.same B i q;erw[D,e,b _ _ N (I N),b _ _ L (I L),Z]
@[irreducible] def yif(c:Nat):Bool:=!(Builtin.Str.occurrences "abcdefghijklmnopqrstuvwxyz" ⟨#[c]⟩ 0 (Str.length "abcdefghijklmnopqrstuvwxyz") 1).isEmpty
noncomputable def nmS(x:Str):Bool:=decide (1<=(↑x:Int)) && (decide ((↑x:Int)<=8) && x.cps.toList.all yif)
def nmV:V->Bool
 | .str x=>nmS x
 |_=>false
def yt5(x:Str):(List.range x.cps.size).map (λi=>V.bl (yif (x.cps.toList.getD i 0)))=(x.cps.toList.map yif).map V.bl:=by
 rwa[cM,List.ext_getElem? λi=>?_];rw[bU,bU];by_cases hi:i<x.cps.size
 .rw[dh hi,bP (by rwa[dg,hi]),dF,dF,cL,bP (by rwa[dg,hi]),Option.getD_some,Function.comp_apply]
 .rw[cQ (by rw[cS];omega),cQ (by rw[dg];omega),Option.map_none,Option.map_none]
def vbd{x:Str}(h1:(1:Int)<=(↑x:Int))(h8:(↑x:Int)<=8):nmV (.str x)=(x.cps.toList.map yif).all id:=by
 have e:nmV (.str x)=nmS x:=by unfold nmV;rfl
 rw[e];unfold nmS;rw[bV h1,bV h8,List.all_map,Function.id_comp,Bool.true_and,Bool.true_and]
def va6{x:Str}(h8:¬(↑x:Int)<=8):nmV (.str x)=false:=by
 have e:nmV (.str x)=nmS x:=by unfold nmV;rfl
 rw[e];unfold nmS;rw[cj h8,Bool.false_and,Bool.and_false]
def yzo{x:Str}(h1:¬(1:Int)<=(↑x:Int)):nmV (.str x)=false:=by
 have e:nmV (.str x)=nmS x:=by unfold nmV;rfl
 rw[e];unfold nmS;rw[cj h1,Bool.false_and]
def xl{x:Str}(h:nmS x=true):↑x<=8:=by unfold nmS at h;simp only[cB,decide_eq_true_eq]at h;have:=h.2.1;omega
noncomputable def smS:Str:=Str.ofString "abcdefghijklmnopqrstuvwxyz"
def ymr:↑smS=26:=(by right)
def yl5:∀i,i<26->smS.cps[i]?=some (97+i):=(by right)
def vho{e:Int}{o:Nat}(he:e=(o:Int))(h:o<26):0<=e/\e<2^63/\e<↑smS/\smS.cps[e.toNat]?=some (97+o):=by subst he;exists by omega,(),by rw[ymr];omega,yl5 o h
def yyr:∀i,i<26->yif (97+i)=true:=(by right)
def ő(l:qj Nat):Prop:=∀c,c∈l->97<=c/\c<123
def ő.app{l m:qj Nat}(h:ő l)(g:ő m):ő (l++m):=λc a=>(cA.mp a).elim (h c) (g c)
def ő.one{c:Nat}(h:97<=c/\c<123):ő [c]:=λd a=>by rwa[bX.mp a,h]
theorem ő.take{l:qj Nat}(h:ő l)(k:Nat):ő (l.take k):=λc a=>h c (cV a)
theorem ő.drop{l:qj Nat}(h:ő l)(k:Nat):ő (l.drop k):=λc a=>h c (List.mem_of_mem_drop a)
def vfe{x:Str}(h:ő x.cps.toList)(h1:1<=↑x.cps.toList)(h8:↑x.cps.toList<=8):nmS x=true/\PyData.strOk x=true:=by
 have e:↑x=↑x.cps.toList:=by simp[Str.length]
 erw[?_,?_]
 .unfold nmS;rw[bV (),bV (),Bool.true_and,Bool.true_and,List.all_eq_true];intro c a;let#[b,d]:=h c a;have:=yyr (c-97) ()
  rwa[show 97+(c-97)=c by omega]at this
 .unfold PyData.strOk;rw[<- Array.all_toList,List.all_eq_true];intro c a;let#[b,d]:=h c a;erw[bV ()]
def xc(x y:Str):(x++y).cps.toList=x.cps.toList++y.cps.toList:=by rw[PySem.Str.cps_append,Array.toList_append]
def zw(x:Str):↑x=↑x.cps.toList:=by simp[Str.length]
noncomputable def yp1(z:Str)(j:Nat)(c:Nat):Str:=Txt.slice z none (some (j:Int))++⟨#[c]⟩++Txt.slice z (some (j:Int)) none
def ä{z:Str}{c:Nat}(hj:j<=↑z):(yp1 z j c).cps.toList=z.cps.toList.take j++[c]++z.cps.toList.drop j:=by unfold yp1;rw[xc,xc,ynq hj,yg3 hj]
def yu1{z:Str}{c:Nat}(hj:j<=↑z)(hz:ő z.cps.toList)(hc:97<=c/\c<123)(h7:↑z<=7):nmS (yp1 z j c)=true/\PyData.strOk (yp1 z j c)=true:=by
 let e:=zw z;erw[vfe ?_ ?_ ?_]
 .rw[ä hj];erw[((hz.take j).app (.one hc)).app (hz.drop j)]
 .rw[ä hj];simp;omega
 .rw[ä hj,bQ,bQ,cz,du,cJ];omega
def ym8{z:Str}{c d:Nat}(hj:j<=↑z)(e:yp1 z j c=yp1 z j d):c=d:=by have h:=congrArg (λx:Str=>x.cps.toList) e;simp only[ä hj]at h;rw[cq,cq]at h;let a:=List.append_cancel_left h;simp at a;erw[a]
def yjj{z:Str}(hj:j<=↑z)(o m:Nat):((List.range m).map λi=>yp1 z j (97+o+i)).Nodup :=
 List.Pairwise.map (R:=λa b=>a≠b) _ (λa b h e=>h (by have:=ym8 hj e;omega)) List.nodup_range
theorem Į{H:Hp}:∀ns:Ρ,yp5 K H (ns.map V.str) (ns.map PyData.str)
 |[]=>.nil
 |n::r=>.cons (.str n) (Į r)
theorem Ĥ:∀ns:Ρ,(∀x,x∈ns->PyData.strOk x=true)->PyData.canLayAll0 (ns.map PyData.str)=true
 |[],_=>rfl
 |x::r,h=>by simp[PyData.canLayAll0,PyData.canLay0,h x cG,Ĥ r λy a=>h y (cF _ a)]
theorem ř:∀ns:Ρ,PyData.depthAll (ns.map PyData.str)=0
 |[]=>rfl
 |_::r=>by simp[PyData.depthAll,PyData.depth,ř r]
def Ħ(ns:Ρ)(h:∀x,x∈ns->PyData.strOk x=true):SeqAt.shaped (.list (ns.map PyData.str))=true:=by simp[SeqAt.shaped,PyData.canLay0,PyData.depth,Ĥ ns h,ř]
theorem ĥ:∀ns ms:Ρ,PyData.eqvAll (ns.map PyData.str) (ms.map PyData.str)=decide (ns=ms)
 |[],[]=>by simp[PyData.eqvAll]
 |[],_::_=>by simp[PyData.eqvAll]
 |_::_,[]=>by simp[PyData.eqvAll]
 |a::r,b::t=>by
  simp only[cO,PyData.eqvAll,PyData.eqv,ĥ r t];by_cases h:a=b<;>by_cases h':r=t<;>simp[h,h']
def ygd{g:Bool->Bool}{H:Hp}{Q:VK}{a b:qa}(ns ms:Ρ)(hn:∀x,x∈ns->PyData.strOk x=true)(hm:∀x,x∈ms->PyData.strOk x=true)(ha:SqL K H a (ns.map V.str))(hb:SqL K H b (ms.map V.str))(h:Q (.bl (g (decide (ns=ms)))) H):yya K g ⇑a ⇑b H Q :=
 #[_,_,.lst ha (Į ns),.lst hb (Į ms),Ħ ns hn,Ħ ms hm,by rwa[PyData.eqv,ĥ,h]]
structure Pc where
 nm:Str
 bs:Υ
 path:Η
 tx:Ο
 ob:qa
 od:qa
 dl:qa
noncomputable def baV:ql Str->V
 |none=>.non
 |some b=>.str b
def Pc.by(n:Nat)(kd:Ν)(ps:Κ)(q:Pc):Ο:=jb n kd ps (δ (q.path.map (·.2))) q.tx
noncomputable def pcs(P:qj Pc):qj (Key×V):=P.map λq=>(.inr q.nm,.ref q.ob)
def To(P:qj Pc):ql Str->qj (Str×qj Int)->Prop
 |none,L=>L=[]
 |some b,L=>∃r,r∈P/\r.nm=b/\L=r.path++[(b,r.tx)]
structure ydd(a:Ads)(H:Hp)(d:qa)(n:Nat)(kd:Ν)(ps:Κ)(w:Nat)(P:qj Pc):Prop where
 dk:H d=some (.dK (pcs P))
 ob:∀q,q∈P->H q.ob∩a.Ac q.od (þ (baV q.bs) ⇑q.dl)/\H q.dl\↥(q.by n kd ps)
 nd:(P.map (·.nm)).Nodup
 wf:∀q,q∈P->To P q.bs q.path
 sz:∀q,q∈P->Sgs q.tx/\↑q.tx<=w/\↑q.path<=60/\(∀x,x∈q.path->Sgs x.2/\↑x.2<=w)
 z:↑P<=60
 nm:∀q,q∈P->nmS q.nm=true/\PyData.strOk q.nm=true
theorem yl4:∀{P:qj Pc}{r:Pc},(P.map (·.nm)).Nodup->r∈P->j7 (pcs P) (.inr r.nm)∣r.ob
 |q::P,r,hn,hr=>by
  let a:=dC.mp hn;by_cases e:q.nm=r.nm
  .rcases bZ.mp hr with z|z
   .subst z;unfold j7 pcs;rw[cO,List.find?_cons_of_pos (by simp)];rfl
   .erw[absurd (bW.mpr #[r,z,e.symm]) a.1]
  .rcases bZ.mp hr with z|z
   .erw[absurd (by rw[z]) e]
   .unfold j7 pcs;rwa[cO,List.find?_cons_of_neg (by simpa using e),yl4 a.2 z]
def ymo{P:qj Pc}{x:Str}(h:∀q,q∈P->q.nm≠x):j7 (pcs P) (.inr x)=none:=by
 unfold j7 pcs;rw[List.find?_eq_none.mpr λy a=>?_]
 .rfl
 .let#[q,b,e]:=bW.mp a;rw[<- e];simpa using h q b
def ydd.same{H H':Hp}{d:qa}{n:Nat}{kd:Ν}{ps:Κ}{w:Nat}{P:qj Pc}(h:ydd a H d n kd ps w P)(S:y7 H H'):ydd a H' d n kd ps w P :=
 #[S _ _ h.dk,λq b=>#[S _ _ (h.ob q b).1,S _ _ (h.ob q b).2],h.nd,h.wf,h.sz,h.z,h.nm]
def yu0(x:Str)(t:Ο)(S:Η):(nmL ((x,t)::S)).reverse=(nmL S).reverse++[.str x]:=by unfold nmL;rw[cO,List.reverse_cons]
def To.len{H:Hp}{d:qa}{n:Nat}{kd:Ν}{ps:Κ}{w:Nat}{P:qj Pc}{x:Υ}(h:ydd a H d n kd ps w P)(t:To P x L):↑L<=61:=by
 cases x with
 |none=>rwa[show L=[]from t,cK _]
 |some b =>
  let#[r,c,_,e]:=t;have:=(h.sz r c).2.2.1;rw[e,bQ,cJ];omega
def ydd.get{H:Hp}{d:qa}{n:Nat}{kd:Ν}{ps:Κ}{w:Nat}{P:qj Pc}{r:Pc}(h:ydd a H d n kd ps w P)(hr:r∈P):Ŭ H d (.str r.nm) (some ⇑r.ob):=by rwa[<- yl4 h.nd hr,Ŭ.k (k:=.inr r.nm) h.dk]
def vg7{α:Type}{f:α->Str}{P:qj α}{q r:α}(hn:(P.map f).Nodup)(hq:q∈P)(hr:r∈P)(e:f q=f r):q=r:=by
 induction P with
 |nil=>cases hq
 |cons x P ih =>
  let a:=dC.mp hn;rcases bZ.mp hq with z|z<;>rcases bZ.mp hr with y|y
  .rw[z,y]
  .erw[absurd (bW.mpr #[r,y,by rw[<- e,z]]) a.1]
  .erw[absurd (bW.mpr #[q,z,by rw[e,y]]) a.1]
  .erw[ih a.2 z y]
def viz{P:qj Pc}{q r:Pc}(hn:(P.map (·.nm)).Nodup)(hq:q∈P)(hr:r∈P)(e:q.nm=r.nm):q=r:=vg7 hn hq hr e
def To.uniq{P:qj Pc}{x:Υ}(hn:(P.map (·.nm)).Nodup)(h:To P x L)(g:To P x M):L=M:=by
 cases x with
 |none=>rw[show L=[]from h,show M=[]from g]
 |some b =>
  let#[r,e,d,i]:=h;let#[q,c,f,a]:=g;obtain rfl:=viz hn e c (d.trans f.symm);rw[i,a]
theorem To.pre{P:qj Pc}(wf:∀q,q∈P->To P q.bs q.path){b:Str}{t:Ο}{A:Η}:∀(m:Nat){x:Υ}{B:Η},↑B<=m->To P x (A++[(b,t)]++B)->To P (some b) (A++[(b,t)])
 |m,none,B,_,h=>by
  let e:=congrArg List.length (show A++[(b,t)]++B=[]from h);rw[bQ,bQ]at e;simp at e
 |m,some c,B,hm,⟨r,hr,e1,e2⟩=>by
  rcases List.eq_nil_or_concat B with z|⟨i,y,z⟩
  .subst z;rw[dw]at e2;let a:=List.append_inj' e2 J;let#[g,f]:=a;cases f;erw[r,hr,e1,by rw[g]]
  .subst z;rw[List.concat_eq_append]at e2 hm;rw[<- cq]at e2;let a:=(List.append_inj' e2 J).1
   cases m with
   |zero=>rw[bQ]at hm;simp at hm
   |succ m =>
    let d:=wf r hr;rw[<- a]at d;erw[To.pre wf m (by rw[bQ,cJ]at hm;omega) d]
def To.ahead{P:qj Pc}(hn:(P.map (·.nm)).Nodup)(wf:∀q,q∈P->To P q.bs q.path){x y:Υ}(h:To P x L)(g:To P y M)(e:nmL L=(nmL M).take ↑L):L=M.take ↑L:=by
 cases x with
 |none=>rw[show L=[]from h];rfl
 |some b =>
  let#[r,o,m,f]:=id h;have n:↑L=↑r.path+1:=by rw[f,bQ,cJ]
  let c:=congrArg List.length e;unfold nmL at c;rw[cz,bL,bL]at c;have a:↑r.path<↑M:=()
  have k:M=M.take ↑r.path++[M[r.path.length]]++M.drop (↑r.path+1):=by
   rw[cq,List.singleton_append,<- df a,dG]
  have j:(M[r.path.length]).1=b:=by
   let z:=congrArg (λl=>l[r.path.length]?) e;unfold nmL at z;simp only[bU,List.getElem?_take]at z;rw[if_pos (),f,dz (bT _),Nat.sub_self,bP a]at z;simp at z;erw[z.symm]
  let g2:=g;rw[k]at g2;have d:M[r.path.length]=(b,(M[r.path.length]).2):=by rw[<- j]
  rw[d]at g2;let g3:=To.pre wf _ (bT _) g2;let i:=To.uniq hn h g3;rw[i,<- d,<- cH a]
  congr 1
  rw[cz];omega
def ydd.getNo{H:Hp}{d:qa}{n:Nat}{kd:Ν}{ps:Κ}{w:Nat}{P:qj Pc}{x:Str}(h:ydd a H d n kd ps w P)(hx:∀q,q∈P->q.nm≠x):Ŭ H d (.str x) none:=by rwa[<- ymo hx,Ŭ.k (k:=.inr x) h.dk]
def vih(P:qj Pc)(b:Str):(∃r,r∈P/\r.nm=b)\/∀q,q∈P->q.nm≠b:=by
 by_cases h:∃r,r∈P/\r.nm=b
 .erw[.inl h]
 .erw[.inr λq a e=>h #[q,a,e]]
theorem To.sz{H:Hp}{d:qa}{n:Nat}{kd:Ν}{ps:Κ}{w:Nat}{P:qj Pc}{x:Υ}(h:ydd a H d n kd ps w P)(t:To P x L):∀y,y∈L->Sgs y.2/\↑y.2<=w:=by
 cases x with
 |none=>intro y c;rw[show L=[]from t]at c;cases c
 |some b =>
  let#[r,i,_,e]:=t;let#[j,f,_,g]:=h.sz r i;intro y c;rw[e]at c;rcases cA.mp c with z|z
  .erw[g y z]
  .rw[bX.mp z];erw[j,f]
def To.at'{P:qj Pc}(wf:∀q,q∈P->To P q.bs q.path){x:Υ}(t:To P x L)(hj:j<↑L):∃r,r∈P/\L[j]=(r.nm,r.tx)/\r.path=L.take j/\To P (some r.nm) (L.take (j+1)):=by
 have g:L=L.take j++[(L[j].1,L[j].2)]++L.drop (j+1):=by
  rw[cq,List.singleton_append,<- df hj,dG]
 rw[g]at t;let a:=To.pre wf _ (bT _) t;let#[r,f,b,h]:=id a;let#[c,d]:=List.append_inj' h J
 cases r with|mk nm bs path tx ob od dl =>
 simp only at b c d;subst b;have e:L[j].2=tx:=by cases d;rfl
 erw[_,f,?_,c.symm,?_]
 .show L[j]=(L[j].1,tx);rw[<- e]
 .rw[cH hj];erw[a]
def To.nms{P:qj Pc}(wf:∀q,q∈P->To P q.bs q.path){x:Υ}(t:To P x L){y:Str×qj Int}(hy:y∈L):∃r,r∈P/\r.nm=y.1:=by let#[j,a,e]:=List.mem_iff_getElem.mp hy;let#[r,c,b,_]:=t.at' wf a;erw[r,c,by rw[<- e,b]]
def To.ok{H:Hp}{d:qa}{n:Nat}{kd:Ν}{ps:Κ}{w:Nat}{P:qj Pc}{x:Υ}(h:ydd a H d n kd ps w P)(t:To P x L):∀y,y∈L.map (·.1)->PyData.strOk y=true:=λy c=>by
 let#[u,b,J]:=bW.mp c;let#[r,f,e]:=t.nms h.wf b;rwa[<- e,(h.nm r f).2]
def ù(L:Η):nmL L=(L.map (·.1)).map V.str:=by unfold nmL;rw[cM];rfl
def ē(L:Η)(k:Nat):(nmL L).take k=nmL (L.take k):=by unfold nmL;rw[List.map_take]
def Ø(L:Η):↑(nmL L)=↑L:=bL _
def yqh(h:L.map (·.1)=M.map (·.1)):nmL L=nmL M:=by rw[ù,ù,h]
theorem yf2{w:Nat}:∀L:qj (Ο),(∀x,x∈L->↑x<=w)->↑(δ L)<=↑L*(9*w+1)
 |[],_=>cK _
 |t::L,h=>by
  have e:δ (t::L)=dec t++δ L:=rfl;let b:=h t cG;let c:=yf2 L λx a=>h x (cF _ a);let d:=xp t;rw[e,bQ,cn,Nat.succ_mul];omega
noncomputable def txi(L:Η)(i:Nat):Ο:=(L.map (·.2)).getD i []
def mOf(L:Η):Nat:=6+6*↑(δ (L.map (·.2)))
def NK(H:Hp)(ks ks':Τ):Prop:=∀q,V.ref q∈ks'->V.ref q∈ks\/H q=none
def NK.refl{H:Hp}{ks:Τ}:NK H ks ks:=λZ h=>.inl h
def NK.nil{H:Hp}{ks:Τ}:NK H ks []:=λZ h=>nomatch h
def NK.trans{H H1:Hp}{k1 k2 k3:Τ}(h:NK H k1 k2)(g:NK H1 k2 k3)(f:∀q,H1 q=none->H q=none):NK H k1 k3:=λq a=>(g q a).elim (h q) λz=>.inr (f q z)
def NK.app{H:Hp}{ks ks':Τ}{v:V}(h:NK H ks ks')(g:∀q,v=.ref q->H q=none):NK H ks (ks'++[v]):=λq a=>(cA.mp a).elim (h q) λz=>.inr (g q (bX.mp z).symm)
def StW(c cl ct:qa)(U:Μ):Μ:=λx=>x=c\/ChW cl ct U x
structure Ð(K:xy)(a:Ads)(H:Hp)(st ds ll d c dc p cl ct:qa)(lk tp:Λ)(n:Nat)(kd:Ν)(ps:Κ)(mo w:Nat)(P:qj Pc)(L:Η)(ks:Τ)(U:Μ):Prop where
 me:H st∩a.A0 ds (wo ⇑ll (mo:) ⇑d ⇑c)
 n1:1<=n
 n6:n<=6
 lo:H ll\(refs lk n)
 row:xz H n lk kd tp ps
 pz:ydd a H d n kd ps w P
 ch:Ü K a H c dc p cl ct n kd ps L ks (mOf L) U
 nw:∀x,(x=st\/x=ll\/x=d\/∃q,q∈P/\(x=q.ob\/x=q.dl))->¬StW c cl ct U x
 mo1:mo<=1000
 wm:w<=mo/\w<=200
 way:∃x,To P x L
def Ü.but{H H':Hp}{c p ll:qa}{n:Nat}{kd:Ν}{ps:Κ}{ks:Τ}{M:Nat}{W:Μ}(h:Ü K a H c dc p ll tl n kd ps L ks M W){q C:qa}{fs:Ι}(hq:H q∩C dq fs)(nq:¬StW c ll tl W q)(B:But q H H'):Ü K a H' c dc p ll tl n kd ps L ks M W:=by
 have b:∀{x:qa}{d:Τ},H x\d->x≠q:=λ{x d}e z=>by rw[z,hq]at e;cases e
 erw[B _ _ h.me λz=>nq (.inl z.symm),h.fz.frame (W2:=λx=>x=q) (λx z=>#[.ins C dq fs,by rwa[show x=q from z,hq],.inl J]) (λx w z=>nq (.inr (.inr (.inr (by rwa[<- show x=q from z,w]))))) (λx o e f=>B x o e f),B _ _ h.hl (b h.hl),B _ _ h.ht (b h.ht),h.tx.mono λx d e g=>#[B _ _ e (b e),g],h.nc,h.nll,h.ntl,h.ne]
def yfe(L:Η)(x:Str)(t:Ο):mOf (L++[(x,t)])=mOf L+6*↑(dec t):=by unfold mOf;rw[ce,show List.map (λx:Str×qj Int=>x.2) [(x,t)]=[t]from rfl,ĳ,bQ];omega
def ygh{w:Nat}(h:∀y,y∈L->↑y.2<=w)(hw:w<=200)(hl:↑L<=61):mOf L<=660000:=by
 let c:=yf2 (w:=w) (L.map (·.2)) λx b=>by
  let#[y,a,J]:=bW.mp b;erw[h y a]
 rw[bL]at c;have d:↑L*(9*w+1)<=61*1801:=Nat.mul_le_mul hl ();unfold mOf;omega
def StO(st c cl ct:qa)(U:Μ):Μ:=λy=>y=st\/StW c cl ct U y
def Go.or{W Y:Μ}{H H':Hp}(g:Go W H H' W'):Go (λx=>Y x\/W x) H H' (λx=>Y x\/W' x) :=
 #[λc o e a=>g.fr c o e λw=>a (.inr w),λc w=>w.elim (λy=>.inl (.inl y)) λw=>(g.nw c w).imp .inr id,g.lv]
def Ü.noTup{H:Hp}{c p ll:qa}{n:Nat}{kd:Ν}{ps:Κ}{ks:Τ}{M:Nat}{W:Μ}(h:Ü K a H c dc p ll tl n kd ps L ks M W){x:qa}{xs:Τ}(e:H x∪xs):¬StW c ll tl W x:=λw=>by
 rcases w with z|z|z|z
 .rw[z,h.me]at e;cases e
 .rw[z,h.hl]at e;cases e
 .rw[z,h.ht]at e;cases e
 .erw[h.fz.sh.tup e z]
theorem Ü.same{H H':Hp}{c p ll:qa}{n:Nat}{kd:Ν}{ps:Κ}{ks:Τ}{M:Nat}{W:Μ}(h:Ü K a H c dc p ll tl n kd ps L ks M W)(S:y7 H H'):Ü K a H' c dc p ll tl n kd ps L ks M W :=
 #[S _ _ h.me,h.fz.same S,S _ _ h.hl,S _ _ h.ht,h.tx.mono λZ Z e b=>#[S _ _ e,b],h.nc,h.nll,h.ntl,h.ne]
def ydd.fr{H H':Hp}{d:qa}{n:Nat}{kd:Ν}{ps:Κ}{w:Nat}{P:qj Pc}(h:ydd a H d n kd ps w P)(f:∀x o,H x=some o->(x=d\/∃q,q∈P/\(x=q.ob\/x=q.dl))->H' x=some o):ydd a H' d n kd ps w P :=
 #[f _ _ h.dk (.inl J),λq b=>#[f _ _ (h.ob q b).1 (.inr #[q,b,.inl J]),f _ _ (h.ob q b).2 (.inr #[q,b,.inr J])],h.nd,h.wf,h.sz,h.z,h.nm]
def xz.fr{H H':Hp}{n:Nat}{lk:Λ}{kd:Ν}{ps:Κ}(h:xz H n lk kd tp ps)(f:∀x xs,H x∪xs->H' x∪xs):xz H' n lk kd tp ps:=λi b=>by
 let#[q,e,a,c,d]:=h i b;erw[q,e,f _ _ a,f _ _ c,d]
end
section
mutual
variable{H H':Hp}{ll d c p cl ct:qa}{lk:Λ}{n:Nat}{kd:Ν}{ps:Κ}{mo w:Nat}{P:qj Pc}{ks:Τ}
theorem Ð.same(h:Ð K a H st ds ll d c dc p cl ct lk tp n kd ps mo w P L ks U)(S:y7 H H'):Ð K a H' st ds ll d c dc p cl ct lk tp n kd ps mo w P L ks U :=
 #[S _ _ h.me,h.n1,h.n6,S _ _ h.lo,h.row.same S,h.pz.same S,h.ch.same S,h.nw,h.mo1,h.wm,h.way]
def Ð.lv(h:Ð K a H st ds ll d c dc p cl ct lk tp n kd ps mo w P L ks U):∀x,(x=st\/x=ll\/x=d\/∃q,q∈P/\(x=q.ob\/x=q.dl))->∃o,H x=some o:=λx e=>by
 rcases e with z|z|z|⟨q,b,z|z⟩
 .erw[_,by rwa[z,h.me]]
 .erw[_,by rwa[z,h.lo]]
 .erw[_,by rwa[z,h.pz.dk]]
 .erw[_,by rwa[z,(h.pz.ob q b).1]]
 .erw[_,by rwa[z,(h.pz.ob q b).2]]
def Ð.lvO(h:Ð K a H st ds ll d c dc p cl ct lk tp n kd ps mo w P L ks U):∀x,StO st c cl ct U x->∃o,H x=some o:=λx b=>by
 rcases b with z|z|z|z|z
 .erw[_,by rwa[z,h.me]]
 .erw[_,by rwa[z,h.ch.me]]
 .erw[_,by rwa[z,h.ch.hl]]
 .erw[_,by rwa[z,h.ch.ht]]
 .erw[h.ch.fz.live x z]
def Ð.go(h:Ð K a H st ds ll d c dc p cl ct lk tp n kd ps mo w P L ks U){ks':Τ}(hc:Ü K a H' c dc p cl ct n kd ps M ks' (mOf M) U')(g:Go (ChW cl ct U) H H' (ChW cl ct U'))(way:∃x,To P x M):Ð K a H' st ds ll d c dc p cl ct lk tp n kd ps mo w P M ks' U'/\Go (StO st c cl ct U) H H' (StO st c cl ct U'):=by have g1:Go (StW c cl ct U) H H' (StW c cl ct U'):=g.or (Y:=λx=>x=c);have f:∀x o,H x=some o->(x=st\/x=ll\/x=d\/∃q,q∈P/\(x=q.ob\/x=q.dl))->H' x=some o:=λx o e b=>g1.fr x o e (h.nw x b);erw[#[f _ _ h.me (.inl J),h.n1,h.n6,f _ _ h.lo (.inr (.inl J)),h.row.fr λx i e=>g1.fr _ _ e (h.ch.noTup e),h.pz.fr λx o e z=>f x o e (.inr (.inr z)),hc,g1.apart (λx b=>h.lv x b) h.nw,h.mo1,h.wm,way],g1.or (Y:=λx=>x=st)]
structure StB(a:Ads)(H:Hp)(st ds ll d:qa)(vc:V)(lk tp:Λ)(n:Nat)(kd:Ν)(ps:Κ)(mo w:Nat)(P:qj Pc):Prop where
 me:H st∩a.A0 ds (wo ⇑ll (mo:) ⇑d vc)
 n1:1<=n
 n6:n<=6
 lo:H ll\(refs lk n)
 row:xz H n lk kd tp ps
 pz:ydd a H d n kd ps w P
 mo1:mo<=1000
 wm:w<=mo/\w<=200
def Ð.b(h:Ð K a H st ds ll d c dc p cl ct lk tp n kd ps mo w P L ks U):StB a H st ds ll d ⇑c lk tp n kd ps mo w P:=#[h.me,h.n1,h.n6,h.lo,h.row,h.pz,h.mo1,h.wm]
def StB.lv{vc:V}(h:StB a H st ds ll d vc lk tp n kd ps mo w P):∀x,(x=st\/x=ll\/x=d\/∃q,q∈P/\(x=q.ob\/x=q.dl))->∃o,H x=some o:=λx c=>by
 rcases c with z|z|z|⟨q,b,z|z⟩
 .erw[_,by rwa[z,h.me]]
 .erw[_,by rwa[z,h.lo]]
 .erw[_,by rwa[z,h.pz.dk]]
 .erw[_,by rwa[z,(h.pz.ob q b).1]]
 .erw[_,by rwa[z,(h.pz.ob q b).2]]
def Go.wide{W:Μ}(g:Go W H H' W')(f:∀x,W x->W2 x):Go W2 H H' W':=#[λc o e a=>g.fr c o e λw=>a (f c w),λc w=>(g.nw c w).imp (f c) id,g.lv]
def StB.re{vc:V}(h:StB a H st ds ll d vc lk tp n kd ps mo w P){dc' p':qa}{HE:Hp}(nc:H c'=none)(ndc:H dc'=none)(hch:Ü K a HE c' dc' p' cl' ct' n kd ps [] [] 6 U')(hnew:∀x,ChW cl' ct' U' x->(upd (upd H dc' (.own c')) c' (.ins a.A2 dc' [])) x=none)(BE:But c' (upd (upd H dc' (.own c')) c' (.ins a.A2 dc' [])) HE):
  Ð K a (upd HE st (.ins a.A0 ds (wo ⇑ll (mo:) ⇑d ⇑c'))) st ds ll d c' dc' p' cl' ct' lk tp n kd ps mo w P [] [] U'/\Go (λy=>y=st) H (upd HE st (.ins a.A0 ds (wo ⇑ll (mo:) ⇑d ⇑c'))) (StO st c' cl' ct' U')/\y7 H HE/\∀x,StW c' cl' ct' U' x->H x=none:=by
 have m:y7 H (upd (upd H dc' (.own c')) c' (.ins a.A2 dc' [])):=λb o e=>by rwa[yk (yb e nc),yk (yb e ndc),e]
 have f:y7 H HE:=λb o e=>BE _ _ (m _ _ e) (yb e nc)
 have k:∀x,StW c' cl' ct' U' x->H x=none:=λx w=>by
  rcases w with z|z
  .rw[z];erw[nc]
  .erw[m.free (hnew x z)]
 have g:∀{x:qa}{o:HO},H x=some o->¬StW c' cl' ct' U' x:=λ{x o}e w=>by rw[k x w]at e;cases e
 let c:=h.me;have l:∀{x:qa}{j:Τ},H x\j->x≠st:=λ{x j}e z=>by rw[z,c]at e;cases e
 erw[#[ya,h.n1,h.n6,ye (l h.lo) (f _ _ h.lo),h.row.fr λx j e=>ye (λz=>by rw[z,c]at e;cases e) (f _ _ e),#[ye (λz=>?_) (f _ _ h.pz.dk),λq i=>#[ye (λz=>?_) (f _ _ (h.pz.ob q i).1),ye (l (h.pz.ob q i).2) (f _ _ (h.pz.ob q i).2)],h.pz.nd,h.pz.wf,h.pz.sz,h.pz.z,h.pz.nm],hch.but (f _ _ c) (g c) But.upd,λx s=>?_,h.mo1,h.wm,#[none,J]],#[λx o e p=>ye p (f _ _ e),λx w=>?_,λx o e=>?_],f,k]
 .let e:=h.pz.dk;rw[z,c]at e;cases e
 .let e:=(h.pz.ob q i).1;rw[z,c]at e;injection e with e;injection e with _ _ e;let r:=congrArg List.length e;erw[absurd (show (4:Nat)=2 from r) ∅]
 .let#[o,e]:=h.lv x s;erw[g e]
 .rcases w with z|z
  .erw[.inl z]
  .erw[.inr (k x z)]
 .by_cases z:x=st
  .erw[_,by rwa[z,ya]]
  .erw[o,ye z (f _ _ e)]
theorem Ð.re(h:Ð K a H st ds ll d c dc p cl ct lk tp n kd ps mo w P L ks U){dc' p':qa}{HE:Hp}(nc:H c'=none)(ndc:H dc'=none)(hch:Ü K a HE c' dc' p' cl' ct' n kd ps [] [] 6 U')(hnew:∀x,ChW cl' ct' U' x->(upd (upd H dc' (.own c')) c' (.ins a.A2 dc' [])) x=none)(BE:But c' (upd (upd H dc' (.own c')) c' (.ins a.A2 dc' [])) HE):
  Ð K a (upd HE st (.ins a.A0 ds (wo ⇑ll (mo:) ⇑d ⇑c'))) st ds ll d c' dc' p' cl' ct' lk tp n kd ps mo w P [] [] U'/\Go (StO st c cl ct U) H (upd HE st (.ins a.A0 ds (wo ⇑ll (mo:) ⇑d ⇑c'))) (StO st c' cl' ct' U')/\y7 H HE/\∀x,StW c' cl' ct' U' x->H x=none:=by let#[e,f,g]:=h.b.re nc ndc hch hnew BE;erw[e,f.wide λZ z=>.inl z,g]
def To.less{b:Str}{x:Υ}(h:To P x M)(hx:x≠some b):To (P.filter λq=>decide (q.nm≠b)) x M:=by
 cases x with
 |none=>erw[h]
 |some y =>
  let#[r,c,a,d]:=h;erw[r,List.mem_filter.mpr #[c,bV λz=>hx ?_],a,d];rw[<- a,z]
def yn5(b:Str):∀P:qj Pc,Č (pcs P) (.inr b)=pcs (P.filter λq=>decide (q.nm≠b)):=λP=>by
 unfold Č pcs;rw[List.filter_map]
 congr 1
 erw[List.filter_congr λq Z=>?_];by_cases e:q.nm=b
 .simp[e]
 .simp[e]
def StB.drop{vc:V}(h:StB a H st ds ll d vc lk tp n kd ps mo w P){b:Str}(hb:∀q,q∈P->q.bs≠some b):StB a (upd H d (.dK (Č (pcs P) (.inr b)))) st ds ll d vc lk tp n kd ps mo w (P.filter λq=>decide (q.nm≠b)):=by
 let i:=h.pz.dk;have f:∀{x:qa}{o:HO},H x=some o->o≠.dK (pcs P)->(upd H d (.dK (Č (pcs P) (.inr b)))) x=some o:=λ{x o}e j=>ye (λz=>by rw[z,i]at e;cases e;erw[j J]) e;have g:∀{q:Pc},q∈(P.filter λq=>decide (q.nm≠b))->q∈P:=λc=>(List.mem_filter.mp c).1
 erw[f h.me (λz=>nomatch z),h.n1,h.n6,f h.lo (λz=>nomatch z),h.row.fr λx k e=>f e (λz=>nomatch z),#[by rwa[<- yn5,ya],λq c=>#[f (h.pz.ob q (g c)).1 (λz=>nomatch z),f (h.pz.ob q (g c)).2 (λz=>nomatch z)],h.pz.nd.sublist (List.filter_sublist.map _),λq c=>(h.pz.wf q (g c)).less (hb q (g c)),λq c=>h.pz.sz q (g c),cN (List.length_filter_le _ _) h.pz.z,λq c=>h.pz.nm q (g c)],h.mo1,h.wm]
end
end
mutual
structure Pd where
 nm:Str
 bs:Υ
 path:Η
 tx:Ο
noncomputable def Pc.pd(q:Pc):Pd:=#[q.nm,q.bs,q.path,q.tx]
structure Cf where
 n:Nat
 kd:Ν
 ps:Κ
 mo:Nat
 w:Nat
def Pd.by(C:Cf)(q:Pd):Ο:=jb C.n C.kd C.ps (δ (q.path.map (·.2))) q.tx
def ToD(P:qj Pd):ql Str->qj (Str×qj Int)->Prop
 |none,L=>L=[]
 |some b,L=>∃r,r∈P/\r.nm=b/\L=r.path++[(b,r.tx)]
def Ô{Q:qj Pc}{x:Υ}:ToD (Q.map Pc.pd) x L↔To Q x L:=by
 cases x with
 |none=>erw[Iff.rfl]
 |some b =>
  erw[λ⟨r,a,e⟩=>?_,λ⟨r,a,e⟩=>#[_,bW.mpr #[r,a,J],e]];let#[q,c,J]:=bW.mp a;erw[q,c,e]
def okN(x:Str):Prop:=nmS x=true/\PyData.strOk x=true
def WD(d st c cl ct:qa)(U:Μ):Μ:=λy=>y=d\/StO st c cl ct U y
structure Sx where
 w:Μ
 f:Μ
noncomputable def ytx(d st c cl ct:qa)(U:Μ)(ll:qa)(Q:qj Pc)(ks:Τ):Sx :=
 #[WD d st c cl ct U,λy=>WD d st c cl ct U y\/y=ll\/(∃q,q∈Q/\(y=q.ob\/y=q.dl))\/V.ref y∈ks]
inductive Sto(K:xy)(a:Ads)(H:Hp)(st:qa)(C:Cf)(P:qj Pd)(X:Sx):Prop
 |mk(ds ll d c dc p cl ct:qa)(lk tp:Λ)(Q:qj Pc)(L:Η)(ks:Τ)(U:Μ)(s:Ð K a H st ds ll d c dc p cl ct lk tp C.n C.kd C.ps C.mo C.w Q L ks U)(e:Q.map Pc.pd=P)(x:X=ytx d st c cl ct U ll Q ks)
structure Gx(X:Sx)(H H':Hp)(Y:Sx):Prop where
 g:Go X.w H H' Y.w
 f:∀y,Y.f y->X.f y\/H y=none
theorem Gx.same{X Y:Sx}{H H1 H2:Hp}(h:Gx X H H1 Y)(S:y7 H1 H2):Gx X H H2 Y:=#[h.g.same S,h.f]
theorem Gx.ahead{X Y:Sx}{H H1 H2:Hp}(S:y7 H H1)(h:Gx X H1 H2 Y):Gx X H H2 Y:=#[h.g.ahead S,λy w=>(h.f y w).imp id S.free]
theorem Gx.refl{X:Sx}{H:Hp}:Gx X H H X:=#[.refl,λZ w=>.inl w]
theorem Gx.trans{X Y Z:Sx}{H H1 H2:Hp}(h:Gx X H H1 Y)(k:Gx Y H1 H2 Z):Gx X H H2 Z:=#[h.g.trans k.g,λy w=>(k.f y w).elim (h.f y) λe=>.inr (h.g.free e)]
def Kf(H:Hp)(X:Sx)(x:qa)(o:HO):Prop:=H x=some o/\¬X.f x
end
section
mutual
variable{B H H':Hp}{C:Cf}{P:qj Pd}{X Y:Sx}
theorem Sto.same(h:Sto K a H st C P X)(S:y7 H H'):Sto K a H' st C P X:=by let#[m,g,d,c,i,p,b,k,f,j,Q,L,l,U,s,e,x]:=h;erw[m,g,d,c,i,p,b,k,f,j,Q,L,l,U,s.same S,e,x]
def Sto.live(h:Sto K a H st C P X):∀y,X.f y->∃o,H y=some o:=λy g=>by
 let#[u,l,d,c,m,p,i,r,k,n,Q,L,t,U,s,J,J]:=h;rcases g with(z|z)|z|⟨q,b,z⟩|z
 .erw[_,by rwa[z,s.pz.dk]]
 .erw[s.lvO y z]
 .erw[_,by rwa[z,s.lo]]
 .erw[s.lv y (.inr (.inr (.inr #[q,b,z])))]
 .rcases s.ch.tx.mem _ z with e|⟨q,j,e,b,_⟩
  .cases e
  .cases e;erw[_,b]
def Sto.wf(h:Sto K a H st C P X):∀y,X.w y->X.f y:=λy b=>by
 let#[n,i,d,c,j,p,e,l,g,k,Q,L,m,U,s,J,J]:=h;erw[.inl b]
theorem Sto.ins(h:Sto K a H st C P X):∃ds vl vm vp vc,H st∩a.A0 ds (wo vl vm vp vc):=by let#[ds,f,d,c,g,p,b,j,e,i,Q,L,k,U,s,J,J]:=h;erw[_,_,_,_,_,s.me]
def Sto.me(h:Sto K a H st C P X):X.f st:=by let#[m,g,d,c,i,p,b,k,e,j,Q,L,l,U,s,J,J]:=h;erw[.inl (.inr (.inl J))]
def vje(Q:qj Pc):(Q.map Pc.pd).map (·.nm)=Q.map (·.nm):=by rw[cM];rfl
theorem Sto.nd(h:Sto K a H st C P X):(P.map (·.nm)).Nodup:=by let#[l,f,d,c,g,p,b,j,e,i,Q,L,k,U,s,J,J]:=h;rwa[vje,s.pz.nd]
theorem Sto.z(h:Sto K a H st C P X):↑P<=60:=by let#[l,f,d,c,g,p,b,j,e,i,Q,L,k,U,s,J,J]:=h;rwa[bL,s.pz.z]
theorem Sto.nm(h:Sto K a H st C P X):∀q,q∈P->okN q.nm:=λq b=>by
 let#[n,i,d,c,j,p,f,l,g,k,Q,L,m,U,s,J,J]:=h;let#[r,e,J]:=bW.mp b;erw[s.pz.nm r e]
def Sto.to(h:Sto K a H st C P X):∀q,q∈P->ToD P q.bs q.path:=λq b=>by
 let#[n,i,d,c,j,p,f,l,g,k,Q,L,m,U,s,J,J]:=h;let#[r,e,J]:=bW.mp b;erw[Ô.mpr (s.pz.wf r e)]
theorem Sto.sz(h:Sto K a H st C P X):∀q,q∈P->Sgs q.tx/\↑q.tx<=C.w/\↑q.path<=60/\(∀x,x∈q.path->Sgs x.2/\↑x.2<=C.w):=λq b=>by
 let#[n,i,d,c,j,p,f,l,g,k,Q,L,m,U,s,J,J]:=h;let#[r,e,J]:=bW.mp b;erw[s.pz.sz r e]
def Sto.cf(h:Sto K a H st C P X):1<=C.n/\C.n<=6/\C.mo<=1000/\C.w<=C.mo/\C.w<=200:=by let#[l,f,d,c,g,p,b,j,e,i,Q,L,k,U,s,J,J]:=h;erw[s.n1,s.n6,s.mo1,s.wm.1,s.wm.2]
theorem Sto.sh(h:Sto K a H st C P X):WSh H X.w:=λy i=>by
 let#[t,l,d,c,m,p,j,o,k,n,Q,L,r,U,s,J,J]:=h;rcases i with z|z|z|z|z|z
 .erw[_,by rwa[z,s.pz.dk],.inl J]
 .erw[_,by rwa[z,s.me],.inl J]
 .erw[_,by rwa[z,s.ch.me],.inl J]
 .exists _,by rwa[z,s.ch.hl],.inr #[_,J,λv b=>?_]
  let#[u,_,e]:=bW.mp b;erw[.inl #[u.1,e.symm]]
 .exists _,by rwa[z,s.ch.ht],.inr #[_,J,λv b=>.inr ?_]
  erw[(s.ch.tx.mem v b).imp (λe=>by rw[e];rfl) λ⟨q,g,e,f,_⟩=>#[q,e,.inl #[g,f]]]
 .erw[s.ch.fz.sh y z]
theorem Sto.frame(h:Sto K a H st C P X)(sh:WSh H W2)(dj:∀y,X.f y->¬W2 y)(fr:∀y o,H y=some o->¬W2 y->H' y=some o):Sto K a H' st C P X:=by
 let#[F,n,d,c,B,p,g,i,A,D,Q,L,l,U,s,J,J]:=h;have f:∀{y:qa}{o:HO},H y=some o->(ytx d st c g i U n Q l).f y->H' y=some o:=λ{y o}e w=>fr y o e (dj y w);erw[F,n,d,c,B,p,g,i,A,D,Q,L,l,U,#[f s.me (.inl (.inr (.inl J))),s.n1,s.n6,f s.lo (.inr (.inl J)),s.row.fr λy G e=>fr _ _ e (sh.tup e),s.pz.fr λy o e z=>f e (z.elim (λz=>.inl (.inl z)) λz=>.inr (.inr (.inl z))),#[f s.ch.me (.inl (.inr (.inr (.inl J)))),s.ch.fz.frame sh (λy w=>dj y (.inl (.inr (.inr (.inr (.inr (.inr w))))))) fr,f s.ch.hl (.inl (.inr (.inr (.inr (.inl J))))),f s.ch.ht (.inl (.inr (.inr (.inr (.inr (.inl J)))))),?_,s.ch.nc,s.ch.nll,s.ch.ntl,s.ch.ne],s.nw,s.mo1,s.wm,s.way],J,rfl]
 have j:∀{L:Η}{b:Τ},(∀v,v∈b->v∈l)->ydb H (ChW g i U) L b->ydb H' (ChW g i U) L b:=by
  intro L
  induction L with
  |nil=>intro b _ h;erw[h]
  |cons y r ih =>
   rintro b m ⟨k,t,rfl,z,h⟩;erw[k,t,J,z.imp id λ⟨q,e,u,E⟩=>#[q,e,f u (.inr (.inr (.inr ?_))),E],ih (λv x=>m v (cF _ x)) h];rwa[<- e,m _ cG]
 erw[j (λZ h=>h) s.ch.tx]
def Sto.but(h:Sto K a H st C P X)(sh:WSh H λz=>z=y)(ny:¬X.f y)(b:But y H H'):Sto K a H' st C P X :=
 h.frame sh (λz w e=>ny (by rwa[<- e,w])) λz o e c=>b z o e c
def WSh.mu{o:HO}(e:H y=some o)(ho:vhx o=true):WSh H λz=>z=y:=λz w=>#[o,by rwa[w,e],.inl ho]
def WSh.ls{xs:Τ}(e:H y\xs)(hx:∀x∈xs,(∃s,x=V.str s)\/vh1 x=true\/∃q,x=V.ref q/\vh0 (H q)):WSh H λz=>z=y:=λz w=>#[_,by rwa[w,e],.inr #[xs,J,hx]]
def Kf.go{x:qa}{o:HO}(h:Kf H X x o)(s:Sto K a H st C P X)(g:Gx X H H' Y):Kf H' Y x o :=
 #[g.g.fr _ _ h.1 λw=>h.2 (s.wf _ w),λw=>(g.f x w).elim h.2 λe=>by rw[h.1]at e;cases e]
def Kf.same{x:qa}{o:HO}(h:Kf H X x o)(S:y7 H H'):Kf H' X x o:=#[S _ _ h.1,h.2]
def Kf.new{x:qa}{o:HO}(s:Sto K a H st C P X)(hx:H x=none)(e:H' x=some o):Kf H' X x o:=#[e,λw=>by
 let#[c,b]:=s.live x w;rw[hx]at b;cases b]
def Sep(X Y:Sx):Prop:=∀y,X.f y->¬Y.f y
def Sep.symm(h:Sep X Y):Sep Y X:=λy w v=>h y v w
def Gx.of{d c cl ct ll:qa}{Q Q':qj Pc}{ks ks':Τ}(g:Go (WD d st c cl ct U) H H' (WD d st c' cl' ct' U'))(nk:NK H ks ks')(hq:∀q,q∈Q'->q∈Q\/(H q.ob=none/\H q.dl=none)):Gx (ytx d st c cl ct U ll Q ks) H H' (ytx d st c' cl' ct' U' ll Q' ks'):=by
 erw[g,λy w=>?_];rcases w with z|z|⟨q,h,z⟩|z
 .erw[(g.nw y z).imp .inl id]
 .erw[.inl (.inr (.inl z))]
 .rcases hq q h with e|⟨a,b⟩
  .erw[.inl (.inr (.inr (.inl #[q,e,z])))]
  .rcases z with z|z
   .rw[z];erw[.inr a]
   .rw[z];erw[.inr b]
 .erw[(nk y z).imp (λz=>.inr (.inr (.inr z))) id]
end
end
mutual
def Ċ{P:qj Pd}{q r:Pd}(hn:(P.map (·.nm)).Nodup)(hq:q∈P)(hr:r∈P)(e:q.nm=r.nm):q=r:=vg7 hn hq hr e
theorem yev{α:Type}[DecidableEq α]:∀{l m:qj α},l.Nodup->(∀x,x∈l->x∈m)->↑l<=↑m
 |[],_,_,_=>cK _
 |x::l,m,hn,h=>by
  let a:=dC.mp hn;let c:=h x cG;have d:↑l<=↑(m.erase x):=yev a.2 λy b=>(List.mem_erase_of_ne (λe=>a.1 (by rwa[<- e,b]))).mpr (h y (cF _ b));rw[List.length_erase_of_mem c]at d;have:=List.length_pos_of_mem c;rw[cn];omega
noncomputable def Pd.pc(q:Pd):Pc:=#[q.nm,q.bs,q.path,q.tx,0,0,0]
def vfw(P:qj Pd):(P.map Pd.pc).map Pc.pd=P:=by rwa[cM,List.map_id _]
structure PdW(P:qj Pd):Prop where
 nd:(P.map (·.nm)).Nodup
 wf:∀q,q∈P->ToD P q.bs q.path
theorem ToD.pc{P:qj Pd}{x:Υ}(h:ToD P x L):To (P.map Pd.pc) x L:=Ô.mp (by rwa[vfw,h])
theorem ToD.at{P:qj Pd}(w:PdW P){x:Υ}(t:ToD P x L)(hj:j<↑L):∃r,r∈P/\L[j]=(r.nm,r.tx)/\r.path=L.take j/\ToD P (some r.nm) (L.take (j+1)):=by
 let#[r,d,e,c,f]:=To.at' (λq b=>by
  let#[u,a,J]:=bW.mp b;erw[(w.wf u a).pc]) t.pc hj
 let#[u,a,J]:=bW.mp d;erw[u,a,e,c,?_];have:=Ô.mpr f;rw[vfw]at this;erw[this]
def ToD.len{P:qj Pd}(w:PdW P){x:Υ}(t:ToD P x L):↑L<=↑P:=by
 let h:=yev (l:=L.map (·.1)) (m:=P.map (·.nm)) ?_ ?_
 .rw[bL,bL]at h;erw[h]
 .erw[List.pairwise_iff_getElem.mpr λi j f a g e=>?_];rw[bL]at f a;rw[dD,dD]at e;let#[r,b,c,d,_]:=t.at w f;let#[u,n,g1,g2,_]:=t.at w a;rw[c,g1]at e;have:=Ċ w.nd b n e;rw[this,g2]at d;let o:=congrArg List.length d;rw[cz,cz]at o;omega
 .intro y k;let#[z,p,J]:=bW.mp k;let#[j,a,J]:=List.mem_iff_getElem.mp p;let#[r,b,c,_]:=t.at w a;rwa[c,bW.mpr #[r,b,J]]
def Sto.pw{H:Hp}{C:Cf}{P:qj Pd}{X:Sx}(h:Sto K a H st C P X):PdW P:=#[h.nd,h.to]
structure Bs(B H:Hp)(X:Sx):Prop where
 s:y7 B H
 n:∀y,X.f y->B y=none
def Bs.same{B H H':Hp}{X:Sx}(h:Bs B H X)(S:y7 H H'):Bs B H' X:=#[h.s.trans S,h.n]
theorem Sd.str{H:Hp}{x:Str}(h:PyData.strOk x=true){k:Nat}:Sd K H (.str x) (.str x) k:=#[.str x,by simp[PyData.canLay0,h],by simp[PyData.depth],by simp[PyData.eqv]]
theorem Sd.non{H:Hp}{k:Nat}:Sd K H .non .none k:=#[.non,by simp[PyData.canLay0],by simp[PyData.depth],by simp[PyData.eqv]]
def Sto.ntup{H:Hp}{C:Cf}{P:qj Pd}{X:Sx}(h:Sto K a H st C P X){x:qa}{xs:Τ}(e:H x∪xs):¬X.f x:=λw=>by
 let i:=h.sh;let#[u,m,d,c,n,p,j,r,l,o,Q,L,t,U,s,J,J]:=h;rcases w with z|z|⟨q,b,z|z⟩|z
 .erw[i.tup e z]
 .rw[z,s.lo]at e;cases e
 .rw[z,(s.pz.ob q b).1]at e;cases e
 .rw[z,(s.pz.ob q b).2]at e;cases e
 .rcases s.ch.tx.mem _ z with g|⟨q,k,g,b,_⟩
  .cases g
  .cases g;rw[b]at e;cases e
noncomputable def mdK(tu:Str->qa)(P:qj Pd):qj (Key×V):=P.map λq=>(.inr q.nm,.ref (tu q.nm))
def DkF(H:Hp)(md:qa)(kvs:qj (Key×V)):Prop:=H md=some (.dK kvs)\/∃o,H md=some (.frz o (.dK kvs))
structure Mdl(H:Hp)(X:Sx)(md:qa)(P:qj Pd)(tu tx:Str->qa):Prop where
 d:DkF H md (mdK tu P)
 n:¬X.f md
 t:∀q,q∈P->Kf H X (tu q.nm) (.tup [.ref (tx q.nm),baV q.bs])
 x:∀q,q∈P->Kf H X (tx q.nm) (.lst ↥q.tx)
theorem yfm(L:Η):∀i,i<=↑L->Ą (txi L) i=δ ((L.map (·.2)).take i)
 |0,_=>rfl
 |i+1,h=>by
  have a:i<↑(L.map (·.2)):=by rw[bL];omega
  rw[cH a,ĳ,<- yfm L i ()];show _++dec (txi L i)=_;unfold txi;rw[cL,bP a];rfl
def yjz(L:Η):Ą (txi L) ↑L=δ (L.map (·.2)):=by rw[yfm L _ (bT _),cU (by rwa[bL,bT _])]
def FZ.readN{H:Hp}{p:qa}{n:Nat}{kd:Ν}{ps:Κ}{pre:Ο}{M:Nat}{W:Μ}{Q:VK}{E:XK}{dt:qa}{d:Ο}{mo:Nat}(h:FZ K a H p n kd ps pre M W)(hdt:H dt\↥d)(ndt:¬W dt)(hd:Byt d)(hdl:↑d<=12000)(hmo:mo<=1000)(hM:M+54*mo+200<1000000)
  (no:∀ts bs,Sgs ts->↑ts<=mo->d≠jb n kd ps pre ts++bs) (k:∀H',(∀c o,H c=some o->¬W c->H' c=some o)->E ⇑a.B0 none H'):İ K a [.ref p,.ref dt,.int mo] H Q E:=by
 let#[A,f,O,m,C,D,F,J,J,J,y,l,i]:=h;erw[p,A,_,f,O,m,dt,d,mo,J,C,hdt,λz=>ndt ((i _).mpr (.inr (.inr (.inr (.inr z))))),hd,hdl,hmo,(),by rw[l];decide,by rwa[y,cK _],λN t r q s H' B g Z Z Z Z Z Z=>?_,λZ q s H' x=>k H' λc o e u=>?_]
 .rw[ROk.fa0]at g;let e:=(yi7 (kd:=A.kd) g).1;erw[absurd ?_ (no (rtx (fa0 A.n A.ps) d (rS A.n A.kd A.ps pre) N) (d.drop (rTL (fa0 A.n A.ps) d (rS A.n A.kd A.ps pre) N)) (yt3 _ _ _ _) (by rwa[ø,B]))];rw[e,dG]
 .have b:¬ytu p A O c:=λw=>u ((i c).mpr w);erw[x.fr c o e (λz=>b (.inl z)) (λz=>b (.inr (.inl z))) (λz=>b (.inr (.inr (.inr (.inr z))))) λj v w=>b (.inr (.inr (.inr (.inl #[j,v,w]))))]
#synth ∀(K:xy)(a:Ads),∀(c dc l:qa)(n:Nat)(lk tp:Λ)(kd:Ν)(ps:Κ)(_:vs=[.ref c,.ref l])(_:H c∩a.A2 dc [])(_:H l\(refs lk n))(_:1<=n)(_:n<=6)(_:xz H n lk kd tp ps)(_:∀(p ll tl:qa)(W:Μ)(H':Hp),Ü K a H' c dc p ll tl n kd ps [] [] 6 W->(∀x,ChW ll tl W x->H x=none)->But c H H'->(∀y xs H'',H y\xs->But y H' H''->Ü K a H'' c dc p ll tl n kd ps [] [] 6 W)->Q .non H'),yj4
def ycx:(Df.e P w mg Γ) T.Ec 8 (yj4 K a):=by
 exists Ec,hr,["self","looks"];let#[c,f,l,n,lk,tp,kd,ps,J,hc,hl,n1,n6,a0,k]:=h;erw[yh (y8 (pv 0) (uu T.Ti (ylq T) hr.m J T.Th T.Ho.B .nil yo (pav 1)) J) ?_,<-yh (y8 (pv 0) (wk ub) J) ?_];exists 2,0,yc (y8 (pv 0) (wk ub) J);intro p dp np U a5;erw[FZ.new np U hl n1 n6 a0 λW D hf nW S1 X=>#[J,?_]];let R:=S1 _ _ hc;ext;have r:upd D c (HO.ins a.A2 f ([("foreteller",V.ref p)]:Ι)) c=some (HO.ins a.A2 f ([("foreteller",V.ref p)]:Ι)):=ya;have G:But c D (upd D c (HO.ins a.A2 f ([("foreteller",V.ref p)]:Ι))):=But.upd;generalize upd D c (HO.ins a.A2 f ([("foreteller",V.ref p)]:Ι))=Z at r G⊢;exists (by walk_at "len"),λj hll=>?_
 exists hll,HB,SB,eB;let a6:=SB _ _ r;ext;have t:upd HB c (HO.ins a.A2 f ([("foreteller",V.ref p),("links",V.ref j)]:Ι)) c=some (HO.ins a.A2 f ([("foreteller",V.ref p),("links",V.ref j)]:Ι)):=ya;have M:But c HB (upd HB c (HO.ins a.A2 f ([("foreteller",V.ref p),("links",V.ref j)]:Ι))):=But.upd;generalize upd HB c (HO.ins a.A2 f ([("foreteller",V.ref p),("links",V.ref j)]:Ι))=HC at t M⊢;exists (by walk_at "len"),λC htl=>?_
 exists htl,HD,SD,eD;let a4:=SD _ _ t;ext;have i:j≠c:=(yb r hll).symm;have g:C≠c:=(yb t htl).symm;have S:HC j\[]:=M _ _ eB i
 have O:∀{x:qa},x≠c->Z x=none->H x=none:=λ{x}d e=>by
  cases z:H x with
  |none=>rfl
  |some o=>rw[G _ _ (S1 _ _ z) d]at e;cases e
 have a1:∀{x:qa},x≠c->HC x=none->Z x=none:=λ{x}d e=>by
  cases z:Z x with
  |none=>rfl
  |some o=>rw[M _ _ (SB _ _ z) d]at e;cases e
 have v:But c D (upd HD c (HO.ins a.A2 f (ν ⇑p ⇑j ⇑C))):=λx o e d=>ye d (SD _ _ (M _ _ (SB _ _ (G _ _ e d)) d))
 have q:∀x,W x->x≠c:=λx w z=>by
  let e:=nW x w;rw[z,hc]at e;cases e
 have I:H j=none:=O i hll;have N:H C=none:=O g (a1 g htl)
 have ς:¬W j:=λw=>by
  let#[o,e]:=hf.live _ w;rw[G _ _ e i]at hll;cases hll
 have L:¬W C:=λw=>by
  let#[o,e]:=hf.live _ w;rw[M _ _ (SB _ _ (G _ _ e g)) g]at htl;cases htl
 erw[k p j C W (upd HD c (HO.ins a.A2 f (ν ⇑p ⇑j ⇑C))) #[ya,?_,?_,?_,J,λw=>q c w J,ς,L,yb S htl] (λx w=>?_) (λx o e d=>v x o (S1 _ _ e) d) (λy xs H2 u b=>?_)]
 .erw[hf.frame (W2:=λx=>x=c) (λx z=>#[.ins a.A2 f [],by rwa[show x=c from z,R],.inl J]) (λx w z=>q x w z) (λx o e d=>v x o e d)]
 .erw[ye i (SD _ _ S)]
 .erw[ye g eD]
 .rcases w with z|z|z
  .rw[z];erw[I]
  .rw[z];erw[N]
  .erw[nW x z]
 .have a2:c≠y:=λz=>by rw[<- z,hc]at u;cases u
  have bG:But y D (upd H2 c (.ins a.A2 f [])):=λx o e d=>by
   by_cases z:x=c
   .rw[z,ya];rw[z,R]at e;erw[e]
   .erw[ye z (b _ _ (v x o e z) d)]
  erw[b _ _ ya a2,(X y xs _ u bG).frame (W2:=λx=>x=c) (λx z=>#[.ins a.A2 f [],by rwa[show x=c from z,ya],.inl J]) (λx w z=>q x w z) (λx o e d=>by rw[yk d]at e;erw[e]),b _ _ (ye i (SD _ _ S)) (λz=>by rw[<- z,I]at u;cases u),b _ _ (ye g eD) (λz=>by rw[<- z,N]at u;cases u),J,λw=>q c w J,ς,L,yb S htl]
#synth ∀(a:Ads),∀(c dc:qa)(vf:V)(ll tl:qa)(x y:V)(xs ys:Τ)(_:vs=[.ref c,x,y])(_:H c∩a.A2 dc (ν vf ⇑ll ⇑tl))(_:H ll\xs)(_:H tl\ys)(_:ll≠tl)(_:↑xs<=10000)(_:↑ys<=10000)(_:Q .non (upd (upd H ll (.lst (xs++[x]))) tl (.lst (ys++[y])))),yo5
def ylo:(Df.v P w mg Γ) T.Ds 1 (yo5 a):=by
 exists Ds,["self","name","text"],B;let#[c,n,l,d,e,x,y,i,m,J,j,f,r,q,v,u,k]:=h;exists 3,0,yf (yv ((zb PySem.F.plainAttrs_list PySem.F.slot_list_append PySem.F.type_list_append wz) pfs (pav 1))) (yc (yv ((zb PySem.F.plainAttrs_list PySem.F.slot_list_append PySem.F.type_list_append wz) pfs (pav 2))));erw[jn f ?_,←xr f (vi ()) ?_];have t:(upd H d (.lst (i++[x]))) c∩a.A2 n (ν l ⇑d ⇑e):=by rwa[yk (λz=>by rw[z,f]at j;cases j),j]
 ext;have b:(upd H d (.lst (i++[x]))) e\m:=by rwa[yk q.symm,r]
 erw[jn b ?_,←xr b (vi ()) ?_,←k]
def Ü.grow{H H1:Hp}{c p ll:qa}{n:Nat}{kd:Ν}{ps:Κ}{ks:Τ}{M M':Nat}{W:Μ}(h:Ü K a H c dc p ll tl n kd ps L ks M W){nm:Str}{t:Ο}{k:V}(hf:FZ K a H1 p n kd ps (δ (L.map (·.2))++dec t) M' W')(g:Go W H H1 W')(hk:k=.non\/∃q,k=.ref q/\H1 q\↥t/\¬ChW ll tl W' q):
  Ü K a (upd (upd H1 ll (.lst (nmL L++[V.str nm]))) tl (.lst (ks++[k]))) c dc p ll tl n kd ps (L++[(nm,t)]) (ks++[k]) M' W'/\Go (ChW ll tl W) H (upd (upd H1 ll (.lst (nmL L++[V.str nm]))) tl (.lst (ks++[k]))) (ChW ll tl W'):=by
 let r:=g.fr _ _ h.hl h.nll;let l:=g.fr _ _ h.ht h.ntl;let A:=g.fr _ _ h.me h.nc;have i:∀{x:qa}{o:HO},H x=some o->¬W x->¬W' x:=λ{x o}e d w=>(g.nw x w).elim d λz=>by rw[e]at z;cases z
 let B:=i h.hl h.nll;let D:=i h.ht h.ntl
 have f:∀x o,H1 x=some o->¬(x=ll\/x=tl)->(upd (upd H1 ll (.lst (nmL L++[V.str nm]))) tl (.lst (ks++[k]))) x=some o:=λx o e d=>by
  rwa[yk (λz=>d (.inr z)),yk (λz=>d (.inl z)),e]
 have v:c≠ll:=λz=>by have e:=h.me;rw[z,h.hl]at e;cases e
 have s:c≠tl:=λz=>by have e:=h.me;rw[z,h.ht]at e;cases e
 erw[#[f _ _ A λz=>z.elim v s,?_,?_,ya,?_,i h.me h.nc,B,D,h.ne],#[λx o e d=>?_,λx w=>?_,λx o e=>?_]]
 .have G:δ ((L++[(nm,t)]).map (·.2))=δ (L.map (·.2))++dec t:=by rw[ce];exact ĳ _ _
  rwa[G,hf.frame (W2:=λx=>x=ll\/x=tl) (λx w=>?_) (λx w z=>?_) λx o e d=>f x o e d]
  .rcases w with z|z
   .exists _,by rwa[show x=ll from z,r],.inr #[_,J,λy m=>?_]
    let#[u,_,e]:=bW.mp m;erw[.inl #[u.1,e.symm]]
   .exists _,by rwa[show x=tl from z,l],.inr #[_,J,λy m=>.inr ?_]
    erw[(h.tx.mem y m).imp (λe=>by rw[e];rfl) λ⟨q,E,e,j,b⟩=>#[q,e,.inl #[E,g.fr q _ j λw=>b (.inr (.inr w))]]]
  .rcases z with z|z
   .rw[z]at w;erw[B w]
   .rw[z]at w;erw[D w]
 .rw[yk h.ne,ya];unfold nmL;rw[ce];rfl
 .refine ydb.snoc ?_ (h.tx.mono λq I e b=>#[f q _ (g.fr q _ e λw=>b (.inr (.inr w))) λz=>b (z.imp id .inl),λw=>?_])
  .erw[hk.imp id λ⟨q,e,j,b⟩=>#[q,e,f q _ j λz=>b (z.imp id .inl),b]]
  .rcases w with w|w|w
   .erw[b (.inl w)]
   .erw[b (.inr (.inl w))]
   .erw[i e (λw=>b (.inr (.inr w))) w]
 .erw[f x o (g.fr x o e λw=>d (.inr (.inr w))) λz=>d (z.imp id .inl)]
 .rcases w with w|w|w
  .erw[.inl (.inl w)]
  .erw[.inl (.inr (.inl w))]
  .erw[(g.nw x w).imp (λw=>.inr (.inr w)) id]
 .let#[C,F]:=g.lv x o e;by_cases z2:x=tl
  .erw[_,by rwa[z2,ya]]
  .by_cases z1:x=ll
   .erw[_,by rwa[z1,yk h.ne,ya]]
   .erw[C,f x C F λz=>z.elim z1 z2]
#synth ∀(K:xy)(a:Ads),∀(c dc p ll tl:qa)(n:Nat)(kd:Ν)(ps:Κ)(L:Η)(ks:Τ)(M:Nat)(W:Μ)(tx:qa)(nm:Str)(ts:Ο)(_:vs=[.ref c,.str nm,.ref tx])(_:Ü K a H c dc p ll tl n kd ps L ks M W)(_:↑L<=1000)(_:ă H tx ts 1000)(_:¬W tx)(_:M+6*↑(dec ts)+20<1000000)(_:∀(r:qa)(W':Μ)(H':Hp),H r=none->H' r\↥(jb n kd ps (δ (L.map (·.2))) ts)->Ü K a H' c dc p ll tl n kd ps (L++[(nm,ts)]) (ks++[.non]) (M+6*↑(dec ts)) W'->Go (ChW ll tl W) H H' (ChW ll tl W')->Q ⇑r H'),yhq
def vax:(Df.v P w mg Γ) T.Lp 8 (yhq K a):=by
 exists Lp,["self","name","text","data"],v;let#[c,u,p,x,t,n,G,I,L,D,M,W,U,nm,S,J,b,Y,e,l,C,k]:=h;let R:=b.me;let y:=b.tx.len;exists 3,1,yf (pst 3 ϰ (x0 (yq1 T) v.m T.Lm (pac pfs (pav 2)))) (yf (yv (wv (pv 0) T.Ah T.Ds.m (ylo T) v.m T.Ds.B .nil vo (pac (pv 1) (pa1 u9)))) (yc (yn (pv 3))));erw[b.fz.press e l C λr X Z d j O g=>?_];let o:=g.fr _ _ b.hl b.nll;let i:=g.fr _ _ b.ht b.ntl;let q:=g.fr _ _ b.me b.nc;ext;erw[c,u,_,x,t,_,_,_,_,J,q,o,i,b.ne,by unfold nmL;rw[bL];omega,(),?_]
 let#[z,g2]:=b.grow (nm:=nm) O g (.inl J);ext;erw[k r X _ d ?_ z g2];rwa[yk (yb b.ht d).symm,yk (yb b.hl d).symm,j]
theorem ylm : yi ["self","name","data","most","first"] ["self","name","data","most"] (yd (yt (top 90) 3)):=wc (by decide +kernel)
#synth ∀(K:xy)(a:Ads),∀(c dc p ll tl:qa)(n:Nat)(kd:Ν)(ps:Κ)(L:Η)(ks:Τ)(M:Nat)(W:Μ)(dt:qa)(nm:Str)(ts bs:Ο)(mo:Nat)(_:vs=[.ref c,.str nm,.ref dt,.int mo])(_:Ü K a H c dc p ll tl n kd ps L ks M W)(_:↑L<=1000)(_:Sgs ts)(_:H dt\↥(jb n kd ps (δ (L.map (·.2))) ts++bs))(_:¬W dt)(_:Byt bs)(_:↑(jb n kd ps (δ (L.map (·.2))) ts++bs)<=12000)(_:↑ts<=mo)(_:mo<=1000)(_:M+54*mo+200<1000000)(_:∀(q:qa)(W':Μ)(H':Hp),H q=none->Ü K a H' c dc p ll tl n kd ps (L++[(nm,ts)]) (ks++[.ref q]) (M+6*↑(dec ts)) W'->Go (ChW ll tl W) H H' (ChW ll tl W')->Q ((↑(jb n kd ps (δ (L.map (·.2))) ts):Nat):) H'),yb2
inductive yhp(K:xy)(a:Ads)(vs:Τ)(H:Hp)(E':VK)(E:XK):Prop
 |mk(c dc p ll tl:qa)(n:Nat)(kd:Ν)(ps:Κ)(L:Η)(ks:Τ)(M:Nat)(W:Μ)(dt:qa)(nm:Str)(d:Ο)(mo:Nat)(_:vs=[.ref c,.str nm,.ref dt,.int mo])(_:Ü K a H c dc p ll tl n kd ps L ks M W)(_:H dt\↥d)(_:¬W dt)(_:Byt d)(_:↑d<=12000)(_:mo<=1000)(_:M+54*mo+200<1000000)(_:(∀ts bs,Sgs ts->↑ts<=mo->d≠jb n kd ps (δ (L.map (·.2))) ts++bs))(_:∀H',(∀x o,H x=some o->¬W x->H' x=some o)->E ⇑a.B0 none H')
def vll(K:xy)(a:Ads):Sp:=λvs H Q E=>yb2 K a vs H Q E\/yhp K a vs H Q E
def Ê:(Df.e P w mg Γ) T.Fp 11 (vll K a):=by
 erw[T.Fp.F.okE ylm (λvs H Q E h=>?_) (λϰ a3 A O s H vs Q E D h=>?_)]
 .rcases h with⟨c,v,p,r,o,n,y,C,L,x,M,W,S,nm,ts,bs,G,rfl,_⟩|⟨c,v,p,r,o,n,y,C,L,x,M,W,S,nm,d,G,rfl,_⟩
  .rfl
  .rfl
 .rcases h with⟨c,v,p,r,o,n,y,C,L,x,M,W,S,nm,ts,bs,G,rfl,b,hz,Z,e,f,I,l,R,j,ς,k⟩|⟨c,v,p,r,o,n,y,C,L,x,M,W,S,nm,d,G,rfl,b,e,f,hd,l,j,ς,no,k⟩
  .let U:=b.me;let a2:=b.tx.len;exists 4,1,yf (pst 4 ylm.nd (uk (yrv T) D.m T.Lo yo (pac pfs (pac (pv 2) (pav 3))))) (yf (yv (wv (pv 0) T.Ah T.Ds.m (ylo T) D.m T.Ds.B .nil vo (pac (pv 1) (pa1 (pix γ (pv 4) yg))))) (yc (yn (pix γ (pv 4) yg))));erw[b.fz.read (uq _) Z e f I l R j ς λt q W' H1 u i ht hq hf g nq=>?_];let a0:=g.fr _ _ b.hl b.nll;let X:=g.fr _ _ b.ht b.ntl;let a1:=g.fr _ _ b.me b.nc;ext;erw[t,_,0,_,J,J,SqT.of ht,J,?_];ext;exists c,v,_,r,o,_,_,_,_,J,a1,a0,X,b.ne,by unfold nmL;rw[bL];omega,(),?_
   have N:¬ChW r o W' q:=λw=>by
    rcases w with w|w|w
    .erw[yb b.hl i w.symm]
    .erw[yb b.ht i w.symm]
    .erw[nq w]
   let#[z,g2]:=b.grow (nm:=nm) hf g (.inr #[q,J,hq,N])
   have Y:(upd (upd H1 r (.lst (nmL L++[V.str nm]))) o (.lst (x++[V.ref q]))) t∪[.ref q,.int (↑(jb n y C (δ (L.map (·.2))) ts):Nat)]:=by
    rwa[yk (yb b.ht u).symm,yk (yb b.hl u).symm,ht]
   ext;erw[t,_,1,_,J,J,SqT.of Y,J,?_,<-k q W' _ i z g2]
  .let U:=b.me;exists 4,1,yf (pst 4 ylm.nd (uk (yrv T) D.m T.Lo yo (pac pfs (pac (pv 2) (pav 3))))) (yf (yv (wv (pv 0) T.Ah T.Ds.m (ylo T) D.m T.Ds.B .nil vo (pac (pv 1) (pa1 (pix γ (pv 4) yg))))) (yc (yn (pix γ (pv 4) yg))));erw[b.fz.readN e f hd l j ς no k]
def vad:(Df.e P w mg Γ) T.Fp 11 (yb2 K a):=(Ê T).imp λZ Z Z Z h=>.inl h
def FZ.fork{H:Hp}{p:qa}{n:Nat}{kd:Ν}{ps:Κ}{pre:Ο}{M:Nat}{W:Μ}{Q:VK}{E:XK}(h:FZ K a H p n kd ps pre M W)(hM:M+20<1000000)
  (k:∀q W' H',FZ K a H' q n kd ps pre (M+6) W'->(∀c,W' c->H c=none)->y7 H H'->Q ⇑q H'):yfj K a [.ref p] H Q E:=by
 let#[A,f,O,m,o,L,x,J,J,J,D,r,G]:=h;let ς:=o.n6;erw[p,A,_,f,O,m,J,o,x,(),λq l y i H' s b d e t C I v F u B S=>k q (ytu q l i) H' #[l,y,i,m+A.n,b,(),d,e,t,C,D,r,λc=>Iff.rfl] (λc w=>?_) S]
 rcases w with z|z|⟨j,g,z⟩|⟨j,g,z⟩|z
 .rw[z];erw[s]
 .rw[z];erw[u]
 .rw[z];erw[F j (by rwa[<- e,g])]
 .erw[v j c (by rwa[<- e,g]) z]
 .erw[B c (.inr (.inl z))]
#synth ∀(K:xy)(a:Ads),∀(c dc p ll tl:qa)(n:Nat)(kd:Ν)(ps:Κ)(L:Η)(ks:Τ)(M:Nat)(W:Μ)(tx:qa)(ts:Ο)(_:vs=[.ref c,.ref tx])(_:Ü K a H c dc p ll tl n kd ps L ks M W)(_:ă H tx ts 1000)(_:M+60000<1000000)(_:∀H',y7 H H'->Q ((↑(jb n kd ps (δ (L.map (·.2))) ts):Nat):) H'),yju
def yti:(Df.v P w mg Γ) T.Fq 9 (yju K a):=by
 exists Fq,["self","text"],C;let#[c,S,p,ll,R,n,X,Y,L,U,M,W,tx,I,J,d,b,hM,k]:=h;let a1:=d.me;let a3:=xp I;let hz:=b.z
 obtain⟨v,y,D,j,G,N,t,hp⟩:∃v y D j G N t,H p∩a.A3 v (jo y D j G N t):=by
  let#[A,f,O,m,hF,_]:=d.fz;erw[_,_,_,_,_,_,_,hF.me]
 exists 2,0,yc (yn (pcB yp T.A9 (pa1 (x0 (yq1 T) C.m T.Lm (pac (vj pfs T.Ad T.Li.m (vc0 T) C.m T.Li.B .nil vo) (pav 1))))));erw[d.fz.fork () λq W' H1 hf u ς=>?_,←hf.press (b.same ς) (λw=>by have e:=u _ w;rw[b.l]at e;cases e) () λr W2 H2 a2 g Z g2=>?_,←uz (SqL.of g) ?_];rwa[bL,k H2 λx o e=>g2.fr _ _ (ς _ _ e) λw=>by rw[u _ w]at e;cases e]
#synth ∀(K:xy),∀(x n:_)(_:vs=[x])(_:jc K H x (.type n))(_:(∀s,x=.str s->↑s<=100000))(_:∀H',y7 H H'->Q (.bl (nmV x)) H'),yjp
def vcg:(Df.v P w mg Γ) T.Sw 1 (yjp K):=by
 exists Sw,["thing"],u;let#[x,n,J,b,d,k]:=h;exists 1,0,yc (yn (jh (pcB wy T.A5 (pac (pv 0) (pa1 (j9 (T:="str") J T.Hy (by right))))) (jh (æ ρ ρ yg (pcB u8 T.A9 (pav 0)) (vy J T.Dw)) (Í (pcB (À J) T.Eh (pa1 (vx (js:=[]) (ys:=[]) J (ygw (pv 0)) (λC t r v=>(zg yb6 (pv 0) (zv J T.D9) (by with_unfolding_all rfl))) J J (hyc:=yw) (hrel:=yw))))))));erw[ŏ b (yox b) ?_];ext;by_cases hn:n="str"
 .obtain⟨s',rfl⟩:∃s',x=.str s':=by
   cases b with
   |str s'=>erw[s',rfl]
   |_=>erw[absurd hn ∅]
  let d:=d s' J;rwa[bV hn,í ?_];ext;erw[s',J,cN d ∅,?_,<-1,(↑s':Int),J,J,_,J,?_];by_cases h1:(1:Int)<=(↑s':Int)
  .erw[Ő h1 ?_];erw[(↑s':Int),8,J,J,_,J,?_];by_cases h8:(↑s':Int)<=8
   .erw[Ő h8 ?_];ext;erw[s',J,λD j=>?_];refine ß (λi=>.bl (yif (s'.cps.toList.getD i 0))) j (λi c G p q S g=>?_) (λG S g=>?_)
    .ext;erw[_,_,J,J,?_];refine Mp.doneR j (Nat.lt_of_le_of_lt (show s'.cps.size<=100000 from d) ∅) q S g ?_
     have o:s'.cps.toList.getD i 0=c:=by
      rw[cL,Array.getElem?_toList,p];rfl
     rw[o];unfold yif;rfl
    .ext;exists D,s'.cps.toList.map yif,J,?_,?_
     .erw[SqL.of (g.trans ?_)];rw[yt5]
     .let e:=vbd h1 h8;rwa[<- e,k _ S]
   .let e:=va6 h8;rw[e]at k;erw[yc9 h8 (k _ (y7.refl _))]
  .let e:=yzo h1;rw[e]at k;erw[yc9 h1 ?_,<-_,J,υ (k _ (y7.refl _))]
 .have e:nmV x=false:=by
   cases b with
   |str s'=>erw[absurd J hn]
   |_=>rfl
  rw[cj hn];rw[e]at k;erw[υ (k _ (y7.refl _))]
#synth ∀(K:xy)(C:qa),∀(x n:_)(_:vs=[x])(_:jc K H x (.type n))(_:(∀s,x=.str s->↑s<=100000))(_:(nmV x=true->∀H',y7 H H'->Q x H'))(_:(nmV x=false->∀H',y7 H H'->E ⇑C none H')),yn0
def ygi:(Df.e P w mg Γ) T.Fs 2 (yn0 K a.Ar):=by
 exists Fs,i,["thing"];let#[x,n,J,j,k,d,f]:=h;exists 1,0,yf (vz (u5 (u6 (x0 (vcg T) i.m T.Sw (pav 0)))) (yc (wn J T.G9 T.Ml (pa1 yz))) yx) (yc (yn (pv 0)));erw[x,n,J,j,k,λl c=>?_];ext
 cases hx:nmV x with
 |false =>
  ext;exists (by walk_at "len"),f hx _ c
 |true =>
  ext;erw[d hx _ c]
#synth ∀(K:xy)(C:qa),∀(x n:_)(_:vs=[x])(_:jc K H x (.type n))(_:(∀s,x=.str s->↑s<=100000))(_:((x=.non\/nmV x=true)->∀H',y7 H H'->Q .non H'))(_:(x≠.non->nmV x=false->∀H',y7 H H'->E ⇑C none H')),yoq
def yy6:(Df.e P w mg Γ) T.Sy 3 (yoq K a.Ar):=by
 exists Sy,k,["thing"];let#[x,n,J,l,o,e,i]:=h;exists 1,0,yc (vz (yq yep (pv 0) u9 (yy _)) (yc (yv (uk (ygi T) k.m T.Fs yo (pav 0)))) yx);by_cases hx:x=.non
 .subst hx;ext;erw[e (.inl J) _ (y7.refl _)]
 .ext;rwa[cj hx,í ?_];ext;erw[x,n,J,l,o,λc f b=>?_,λc f b=>i hx c f b,←e (.inr c) _ b]
#synth ∀(a:Ads),∀(p dp:qa)(x y:V)(_:vs=[.ref p,x,y])(_:H p∩a.Ac dp [])(_:∀H',H' p∩a.Ac dp (þ x y)->But p H H'->Q .non H'),ynl
def ys4:(Df.v P w mg Γ) T.Lq 1 (ynl a):=by exists Lq,["self","base","data"],j;let#[p,b,x,y,J,i,k]:=h;exists 3,0,yf (y8 (pv 0) (pv 1) J) (yc (y8 (pv 0) (pv 2) J));have d:upd H p (HO.ins a.Ac b ([("base",x)]:Ι)) p=some (HO.ins a.Ac b ([("base",x)]:Ι)):=ya;have e:But p H (upd H p (HO.ins a.Ac b ([("base",x)]:Ι))):=But.upd;generalize upd H p (HO.ins a.Ac b ([("base",x)]:Ι))=l at d e⊢;ext;erw[k _ ya (e.trans But.upd)]
theorem yyz : yi ["self","looks","most"] ["self","looks","most"] (yd (yt (top 99) 0)):=wc (by decide +kernel)
#synth ∀(K:xy)(a:Ads),∀(p ds l:qa)(mo w:Nat)(n:Nat)(lk tp:Λ)(kd:Ν)(ps:Κ)(_:vs=[.ref p,.ref l,.int mo])(_:H p∩a.A0 ds [])(_:H l\(refs lk n))(_:1<=n)(_:n<=6)(_:xz H n lk kd tp ps)(_:mo<=1000)(_:w<=mo)(_:w<=200)(_:∀(ll d c dc q cl ct:qa)(U:Μ)(H':Hp),Ð K a H' p ds ll d c dc q cl ct lk tp n kd ps mo w [] [] [] U->(∀x,StW c cl ct U x->H x=none)->H ll=none->H d=none->But p H H'->(∀y xs H'',H y\xs->But y H' H''->Ð K a H'' p ds ll d c dc q cl ct lk tp n kd ps mo w [] [] [] U)->Q .non H'),yci
def yrg:vq P w K mg Γ (CXe P w) 10 a.Iv a.Hm ["self","looks","most"] (yci K a):=by
 refine T.Ur.okE yyz (fun ϟ H Q E h=>?_) (fun ϟ A ϟ s H ϟ Q E hr h=>?_); left;let#[p,j,l,v,w,n,lk,tp,kd,ps,J,S,hl,ς,n6,W,Z,a6,a2,k]:=h;erw[yh (y8 (pv 0) (uk (yri T) hr.m T.L8 yo (pav 1)) J) ?_,<-yh (yv (uk (vij T) hr.m T.Ul yo (pav 2))) ?_,<-yh (y8 (pv 0) (pv 2) J) ?_,<-yh (y8 (pv 0) yn2 J) ?_];exists 3,0,yc (y8 (pv 0) (uu T.Cq (ycx T) hr.m J T.Cp T.Ec.B .nil yo (pa1 pfs)) J);erw[vgq hl (by rwa[vv,ς]) (by rwa[vv,n6]) W.lks λg H1 F a8 u=>?_];let ah:=u _ _ S;ext;have ag:upd H1 p (HO.ins a.A0 j ([("looks",V.ref g)]:Ι)) p=some (HO.ins a.A0 j ([("looks",V.ref g)]:Ι)):=ya;have BA:But p H1 (upd H1 p (HO.ins a.A0 j ([("looks",V.ref g)]:Ι))):=But.upd;generalize upd H1 p (HO.ins a.A0 j ([("looks",V.ref g)]:Ι))=HA at ag BA⊢;erw[.int v,"int",J,.int _,λB=>?_,λz=>by rw[yyx Z]at z;cases z]
 ext;have Y:upd HA p (HO.ins a.A0 j ([("looks",V.ref g),("most",V.int v)]:Ι)) p=some (HO.ins a.A0 j ([("looks",V.ref g),("most",V.int v)]:Ι)):=ya;have BB:But p HA (upd HA p (HO.ins a.A0 j ([("looks",V.ref g),("most",V.int v)]:Ι))):=But.upd;generalize upd HA p (HO.ins a.A0 j ([("looks",V.ref g),("most",V.int v)]:Ι))=HB at Y BB⊢;intro d hd0;exists hd0,HC,SC,eC;let aj:=SC _ _ Y;ext;have r:upd HC p (HO.ins a.A0 j ([("looks",V.ref g),("most",V.int v),("pieces",V.ref d)]:Ι)) p=some (HO.ins a.A0 j ([("looks",V.ref g),("most",V.int v),("pieces",V.ref d)]:Ι)):=ya;have BD:But p HC (upd HC p (HO.ins a.A0 j ([("looks",V.ref g),("most",V.int v),("pieces",V.ref d)]:Ι))):=But.upd;generalize upd HC p (HO.ins a.A0 j ([("looks",V.ref g),("most",V.int v),("pieces",V.ref d)]:Ι))=X at r BD⊢;have L:∀x o,H1 x=some o->x≠p->X x=some o:=λx o e t=>BD _ _ (SC _ _ (BB _ _ (BA _ _ e t) t)) t
 have K0:∀x,x≠p->X x=none->H x=none:=λx t e=>by
  cases z:H x with
  |none=>rfl
  |some o=>rw[L _ _ (u _ _ z) t]at e;cases e
 have a1:g≠p:=(yb S F).symm;have D:d≠p:=(yb Y hd0).symm;let C:=L _ _ a8 a1;have O:X d=some (.dK []):=BD _ _ eC D
 have ac:xz X n lk kd tp ps:=λi hi=>by
  let#[q,e,R,M,h3]:=W i hi;erw[q,e,L _ _ (u _ _ R) (xf R S (by intro z;cases z)),L _ _ (u _ _ M) (xf M S (by intro z;cases z)),h3]
 erw[p,_,j,_,_,J,r,T.A1,T.B6,J,?_];ext;intro c dc nc aa ak;have SQ:y7 X (upd (upd X dc (.own c)) c (.ins a.A2 dc [])):=λb o e=>by rwa[yk (yb e nc),yk (yb e aa),e]
 erw[c,dc,g,n,lk,tp,kd,ps,J,ya,SQ _ _ C,ς,n6,ac.same SQ,λq cl ct U HE af a5 BE a9=>#[J,?_]];have I:y7 X HE:=λb o e=>BE _ _ (SQ _ _ e) (yb e nc);let a4:=I _ _ r
 have N:∀x,StW c cl ct U x->X x=none:=λx w=>by
  rcases w with z|z
  .rw[z];erw[nc]
  .erw[SQ.free (a5 x z)]
 have a0:¬StW c cl ct U p:=λw=>by have e:=N _ w;rw[r]at e;cases e
 have a3:H d=none:=by
  cases z:H d with
  |none=>rfl
  |some o=>rw[BB _ _ (BA _ _ (u _ _ z) D) D]at hd0;cases hd0
 ext;erw[k g d c dc q cl ct U _ #[ya,ς,n6,ye a1 (I _ _ C),λi hi=>?_,#[ye D (I _ _ O),λq f=>(by cases f),List.nodup_nil,λq f=>(by cases f),λq f=>(by cases f),cK _,λq f=>(by cases f)],af.but a4 a0 But.upd,λx hx w=>?_,Z,#[a6,a2],#[none,J]] (λx w=>?_) F ?_ (λx o e t=>ye t (I _ _ (L _ _ (u _ _ e) t))) (λy xs H2 G b=>?_)]
 .let#[q,e,R,M,h3]:=W i hi;let ς:=xf R S (by intro z;cases z);let n2:=xf M S (by intro z;cases z);erw[q,e,ye ς (I _ _ (L _ _ (u _ _ R) ς)),ye n2 (I _ _ (L _ _ (u _ _ M) n2)),h3]
 .let e:=N _ w;rcases hx with z|z|z|⟨q,f,_⟩
  .rw[z,r]at e;cases e
  .rw[z,C]at e;cases e
  .rw[z,O]at e;cases e
  .cases f
 .erw[K0 x (λz=>a0 (z ▸ w)) (N x w)]
 .erw[a3]
 .have a7:p≠y:=λz=>by rw[<- z,S]at G;cases G
  let ae:=SQ _ _ (L _ _ (u _ _ G) a7.symm)
  have bG:But y HE (upd H2 p (HO.ins a.A0 j ([("looks",V.ref g),("most",V.int v),("pieces",V.ref d)]:Ι))):=λx o e t=>by
   by_cases z:x=p
   .rw[z,ya];rw[z,a4]at e;erw[e]
   .erw[ye z (b _ _ (ye z e) t)]
  let ad:=a9 y xs _ ae bG;let ai:=u _ _ G;erw[b _ _ ya a7,ς,n6,b _ _ (ye a1 (I _ _ C)) (λz=>by rw[<- z,F]at G;cases G),λi hi=>?_,#[b _ _ (ye D (I _ _ O)) (λz=>by rw[<- z,a3]at G;cases G),λq f=>(by cases f),List.nodup_nil,λq f=>(by cases f),λq f=>(by cases f),cK _,λq f=>(by cases f)],ad.but ya a0 (λx o e t=>by rw[yk t]at e;erw[e]),λx hx w=>?_,Z,#[a6,a2],#[none,J]]
  .let#[q,e,R,M,h3]:=W i hi;let ς:=xf R S (by intro z;cases z);let n2:=xf M S (by intro z;cases z);erw[q,e,b _ _ (ye ς (I _ _ (L _ _ (u _ _ R) ς))) (xf R G (by intro z;cases z)),b _ _ (ye n2 (I _ _ (L _ _ (u _ _ M) n2))) (xf M G (by intro z;cases z)),h3]
  .let e:=N _ w;rcases hx with z|z|z|⟨q,f,_⟩
   .rw[z,r]at e;cases e
   .rw[z,C]at e;cases e
   .rw[z,O]at e;cases e
   .cases f
def Sto.new{H:Hp}{l:qa}{mo w n:Nat}{lk:Λ}{kd:Ν}{ps:Κ}{Q:VK}{E:XK}(hst0:H st=none)(hds0:H ds=none)(hlo:H l\(refs lk n))(n1:1<=n)(n6:n<=6)(hR:xz H n lk kd tp ps)(m1:mo<=1000)(wm:w<=mo)(w2:w<=200)
  (k:∀X H',Sto K a H' st #[n,kd,ps,mo,w] [] X->y7 H H'->(∀y,X.f y->H y=none)->(∀y xs H'',H y\xs->But y H' H''->Sto K a H'' st #[n,kd,ps,mo,w] [] X)->Q .non H'):yci K a [.ref st,.ref l,.int mo] (upd (upd H ds (.own st)) st (.ins a.A0 ds [])) Q E:=by
 have g:y7 H (upd (upd H ds (.own st)) st (.ins a.A0 ds [])):=λb o e=>by rwa[yk (yb e hst0),yk (yb e hds0),e]
 erw[st,ds,l,mo,w,n,lk,tp,kd,ps,J,ya,g _ _ hlo,n1,n6,hR.same g,m1,wm,w2,λu d c v p t x U B j s h m C r=>k _ B #[ds,u,d,c,v,p,t,x,lk,tp,[],[],[],U,j,J,J] (λy o e=>C _ _ (g _ _ e) (yb e hst0)) (λy i=>?_) λy xs A i b=>#[ds,u,d,c,v,p,t,x,lk,tp,[],[],[],U,r y xs A (g _ _ i) b,J,J]];rcases i with(z|z|z)|z|⟨q,hq,_⟩|z
 .rw[z];erw[g.free m]
 .rw[z];erw[hst0]
 .erw[g.free (s y z)]
 .rw[z];erw[g.free h]
 .cases hq
 .cases z
#synth ∀(a:Ads),∀(st ds ll:qa)(vm vp vc:V)(xs:Τ)(_:vs=[.ref st])(_:H st∩a.A0 ds (wo ⇑ll vm vp vc))(_:H ll\xs)(_:∀l H',H l=none->H' l\xs->y7 H H'->Q ⇑l H'),yck
def ysa:(Df.v P w mg Γ) T.Ft 1 (yck a):=by exists Ft,["self"],r;let#[q,p,e,o,m,i,n,J,f,c,k]:=h;exists 1,0,yc (yn (pcT ww T.An (pa1 pfs)));erw[e,_,J,.inl (SqL.of c),λl b=>?_,<-k l _ b ya (y9 b)]
def Sto.tlooks{H:Hp}{C:Cf}{P:qj Pd}{X:Sx}{Q:VK}{E:XK}(h:Sto K a H st C P X)(k:∀l lk tp H',H l=none->H' l\(refs lk C.n)->xz H' C.n lk C.kd tp C.ps->y7 H H'->Q ⇑l H'):yck a [.ref st] H Q E:=by let#[g,b,d,c,j,p,i,o,lk,tp,m,L,q,U,s,J,J]:=h;erw[st,g,b,_,_,_,_,J,s.me,s.lo,λl H' f e S=>k l lk tp H' f e (s.row.same S) S]
#synth ∀(a:Ads),∀(st ds:qa)(vl vm vp vc:V)(_:vs=[.ref st])(_:H st∩a.A0 ds (wo vl vm vp vc))(_:Q vm H),ygb
def vai:(Df.v P w mg Γ) T.Lr 1 (ygb a):=by exists Lr,["self"],n;let#[m,l,i,j,g,e,J,c,k]:=h;exists 1,0,yc (yn pfs);erw[k]
def Sto.tmost{H:Hp}{C:Cf}{P:qj Pd}{X:Sx}{Q:VK}{E:XK}(h:Sto K a H st C P X)(k:Q (C.mo:) H):ygb a [.ref st] H Q E:=by let#[b,g,d,c,i,p,e,m,f,l,j,L,n,U,s,J,J]:=h;erw[st,b,_,_,_,_,J,s.me,k]
#synth ∀(a:Ads),∀(st ds d:qa)(vl vm vc:V)(P:qj Pc)(_:vs=[.ref st])(_:H st∩a.A0 ds (wo vl vm ⇑d vc))(_:H d=some (.dK (pcs P)))(_:↑P<=60)(_:∀l H',H l=none->H' l\(P.map λq=>V.str q.nm)->y7 H H'->Q ⇑l H'),yf9
def ycs:(Df.v P w mg Γ) T.Bt 1 (yf9 a):=by
 exists Bt,["self"],u;let#[t,r,d,n,o,j,P,J,g,f,v,k]:=h;exists 1,0,yc (yn (pcT (yh5 J) T.An (pa1 pfs)));erw[d,_,J,f,λl b=>?_];have e:(pcs P).map (λp=>kV p.1)=P.map λq=>V.str q.nm:=by unfold pcs;rw[cM];rfl
 rwa[e,k l _ b ya (y9 b)]
def Sto.names{H:Hp}{C:Cf}{P:qj Pd}{X:Sx}{Q:VK}{E:XK}(h:Sto K a H st C P X)(k:∀l H',H l=none->H' l\(P.map λq=>V.str q.nm)->y7 H H'->Q ⇑l H'):yf9 a [.ref st] H Q E:=by let#[g,m,d,c,n,p,i,r,j,o,e,L,t,U,s,J,J]:=h;erw[st,g,d,_,_,_,e,J,s.me,s.pz.dk,s.pz.z,λl H' f b S=>k l H' f ?_ S];rwa[cM,b]
#synth ∀(a:Ads),∀(st ds tx:qa)(vl vp vc:V)(mo:Int)(xs:Τ)(_:vs=[.ref st,.ref tx])(_:H st∩a.A0 ds (wo vl (mo:) vp vc))(_:H tx\xs)(_:(↑xs:Int)<=mo)(_:Q .non H),yvc
def yr6:(Df.e P w mg Γ) T.Fu 1 (yvc a):=by exists Fu,t,["self","text"];let#[j,p,o,m,l,f,i,n,J,d,c,r,k]:=h;exists 2,0,yc (vz (yq yh9 (pcB yp T.A9 (pav 1)) pfs (yy _)) (yc (wn J T.I8 T.I9 (pa1 yz))) yx);erw[uz (SqL.of c) ?_,←z9 (λq=>absurd q ()) (λZ=>k)]
abbrev EN(a:Ads)(P:qj Pd)(b:Str)(H:Hp)(E:XK):Prop:=(∀q,q∈P->q.nm≠b)->∀H',y7 H H'->E ⇑a.Au none H'
def vjs{Q:qj Pc}{z:Str}(h:∀q,q∈Q->q.nm≠z):∀q,q∈Q.map Pc.pd->q.nm≠z:=List.forall_mem_map.mpr h
def ymu{Q:qj Pc}{q:Pc}(h:q∈Q):q.pd∈Q.map Pc.pd:=bW.mpr #[q,h,J]
#synth ∀(K:xy)(a:Ads),∀(st:qa)(C:Cf)(P:qj Pd)(X:Sx)(b:Str)(_:vs=[.ref st,.str b])(_:Sto K a H st C P X)(_:nmS b=true)(_:EN a P b H E)(_:(∀r,r∈P->r.nm=b->∀ob od dl H',y7 H H'->H' ob∩a.Ac od (þ (baV r.bs) ⇑dl)->H' dl\↥(r.by C)->Q ⇑ob H')),vb5
def ţ:(Df.e P w mg Γ) T.Ba 3 (vb5 K a):=by
 exists Ba,g,["self","name"];let#[x,C,P,X,b,J,G,l,q,y]:=h;let#[N,W,d,c,ς,p,S,Y,I,R,t,L,M,U,s,J,J]:=G;let j:=s.me;let D:=s.pz;let B:=xl l;exists 2,0,yf (vz (ymm (ycj (ľ g) (uk (ygi T) g.m T.Fs yo (pav 1)) pfs)) (yc (wn J T.Eg T.Ia (pa1 yz))) yx) (yc (yn (ya3 (ľ g) pfs (pv 1) (λZ Z=>rfl))));erw[.str b,"str",J,.str b,(λs e=>by cases e;omega),λZ O i=>?_,λz=>by rw[show nmV (.str b)=nmS b from rfl,l]at z;cases z]
 let n:=i _ _ j;let f:=D.same i;ext;rcases vih t b with⟨r,g,rfl⟩|o
 .erw[d,_,J,f.get g,?_];erw[false,J,υ ?_,←d,_,J,f.get g,?_,<-y r.pd (ymu g) J _ _ _ _ i (f.ob r g).1 (f.ob r g).2]
 .erw[d,_,J,f.getNo o,?_];erw[true,J,í ?_];ext;exists (by walk_at "len"),q (vjs o) _ i
#synth ∀(K:xy)(a:Ads),∀(st:qa)(C:Cf)(P:qj Pd)(X:Sx)(b:Str)(x:Υ)(L:Η)(_:vs=[.ref st,.str b,baV x])(_:Sto K a H st C P X)(_:(∀q,q∈P->q.nm≠b))(_:ToD P x L)(_:↑P<60)(_:∀H',y7 H H'->Q .non H'),yuj
def yr8:(Df.e P w mg Γ) T.Fv 4 (yuj K a):=by
 exists Fv,e,["self","name","base"];let#[v,C,P,X,b,x,L,J,l,i,ς,M,k]:=h;let#[Z,ll,d,c,R,p,cl,ct,O,tp,t,L0,W,U,s,J,J]:=id l;let f:=s.me;let j:=s.pz;rw[bL]at M;have D:↑(pcs t)=↑t:=bL _;exists 3,0,yf (vz (ymm (vbi (ľ e) (pv 1) pfs)) (yc (wn J T.Hx T.Mx (pa1 yz))) yx) (yf (vz (yq yep (pv 2) u9 (yy _)) (yc (yv (yu (pv 0) T.A1 T.Ba.m (ţ T) e.m T.Ba.B .nil yo (pav 2)))) yx) (yc (vz (yq xo (pcB yiv T.A9 (pa1 pfs)) (vy J T.Eb) (yy _)) (yc (wn J T.Mi T.Tj (pa1 yz))) yx)));erw[d,_,J,j.getNo λq I=>i q.pd (ymu I),?_,<-false,J,υ ?_];ext
 cases x with
 |none =>
  erw[vht (λF=>?_) (λz=>absurd J z),←d,_,J,j.dk,?_,←z9 (λo=>absurd o ()) (λF=>?_),←k _ (y7.refl _)]
 |some y =>
  erw[vht (λz=>nomatch z) (λF=>?_)]
  let#[r,e,J,_]:=ς;ext;erw[v,C,_,_,r.nm,J,l,(l.nm r e).1,(λi=>absurd J (i r e)),λF F F Y od S H1 n F F=>?_];let u:=n _ _ f;ext;erw[d,_,J,n _ _ j.dk,?_,←z9 (λo=>absurd o ()) (λF=>?_),←k _ n]
#synth ∀(a:Ads),∀(st ds d:qa)(vl vm vc:V)(n:Nat)(kd:Ν)(ps:Κ)(w:Nat)(P:qj Pc)(x:Υ)(L:Η)(_:vs=[.ref st,baV x])(_:H st∩a.A0 ds (wo vl vm ⇑d vc))(_:ydd a H d n kd ps w P)(_:To P x L)(_:∀(l:qa)(H':Hp),H l=none->H' l\(nmL L)->y7 H H'->Q ⇑l H'),yo9
def yrc:(Df.v P w mg Γ) T.Fw 1 (yo9 a):=by
 exists Fw,["self","name","links"],hr;let#[ς,ds,d,vl,vm,vc,n,U,W,w,P,x,L,J,p,v,I,k]:=h;exists 2,1,yf (pst 2 ϰ (wk ub)) (yf (È PassesOwn.never (yq yep (pv 1) u9 (yy _)) (yf (yv ((zb PySem.F.plainAttrs_list PySem.F.slot_list_append PySem.F.type_list_append wz) (pv 2) (pav 1))) (yc (pst 1 ϰ (z0 (ya3 (ľ hr) pfs (pv 1) (λF F=>rfl)) J))))) (yf (yv (ygj PySem.F.plainAttrs_list PySem.F.slot_list_reverse PySem.F.type_list_reverse ś (pv 2))) (yc (yn (pv 2)))));exists (by walk_at "len"),λl c=>?_
 ext
 erw[λm σ' G=>∃(y:Υ)(R S:Η),σ'=[some ⇑ς,some (baV y),some ⇑l]/\To P y R/\R++S=L/\G l\(nmL S).reverse/\y7 H G/\m=↑R,
  #[_,x,L,[],J,I,dw L,ya,y9 c,J],?_]
 rintro m σ2 G ⟨y,R,S,rfl,N,i,f,B,rfl⟩;let O:=B _ _ p;let a0:=v.same B;let C:=To.len v I;have Y:↑S<=61:=by rw[<- i,bQ]at C;omega
 ext
 cases y with
 |none =>
  erw[vht (λF=>?_) (λz=>absurd J z)];have e:S=L:=by rw[show R=[]from N]at i;erw[i]
  ext;erw[jn f ?_,←yb7 f ?_];rw[List.reverse_reverse,e];ext;erw[k l _ c ya λb o z=>ye (yb z c) (B _ _ z)]
 |some b =>
  erw[vht (λz=>nomatch z) (λF=>?_)]
  let#[r,j,J,t]:=N;erw[_,λσ' H' z=>z,?_,←jn f ?_,←xr f (vi (by unfold nmL;rw[List.length_reverse,bL];omega)) ?_];have g:y7 H (upd G l (HO.lst ((nmL S).reverse++[baV (some r.nm)]))):=λb o e=>ye (yb e c) (B _ _ e);have u:upd G l (HO.lst ((nmL S).reverse++[baV (some r.nm)])) l=some (HO.lst ((nmL S).reverse++[baV (some r.nm)])):=ya;generalize upd G l (HO.lst ((nmL S).reverse++[baV (some r.nm)]))=G' at g u⊢;let M:=g _ _ p;let q:=v.same g;let Z:=(q.ob r j).1;ext;erw[d,_,J,q.get j,?_,←↑r.path,?_,r.bs,r.path,(r.nm,r.tx)::S,J,v.wf r j,?_,?_,g,rfl]
  .rw[t,bQ,cJ];omega
  .rw[<- i,t,cq];rfl
  .rw[yu0];erw[u]
#synth ∀(K:xy)(a:Ads),∀(st ds ll d c dc p cl ct:qa)(lk tp:Λ)(n:Nat)(kd:Ν)(ps:Κ)(mo w:Nat)(P:qj Pc)(L:Η)(ks:Τ)(U:Μ)(x:Υ)(L':Η)(_:vs=[.ref st,baV x])(_:Ð K a H st ds ll d c dc p cl ct lk tp n kd ps mo w P L ks U)(_:To P x L')(_:∀(c' dc' p' cl' ct':qa)(ks':Τ)(U':Μ)(H':Hp),Ð K a H' st ds ll d c' dc' p' cl' ct' lk tp n kd ps mo w P L' ks' U'->Go (StO st c cl ct U) H H' (StO st c' cl' ct' U')->NK H ks ks'->(V.non∈ks'->V.non∈ks.take ↑L')->Q ⇑c' H'),ŗ
def ycr:(Df.e P w mg Γ) T.Bu 12 (ŗ K a):=by
 exists Bu,hr,["self","name","links","link"];let#[R,ds,ll,d,c,dc,p,cl,ct,lk,tp,n,kd,ps,mo,w,P,L,ks,U,x,t,J,N,hL,k]:=h;let a7:=N.me;erw[yh (pst 2 ϰ (wv (pv 0) T.A1 T.Fw.m (yrc T) hr.m T.Fw.B .nil vo (pav 1))) ?_,<-yh (Î (vz (yq (ċ hr.units) (z0 pfs J) (xv j5 (pv 2) zf (uw (pcB yp T.A9 (pa1 (z0 pfs J))))) (yy _)) (yc (y8 (pv 0) (uu T.Cq (ycx T) hr.m J T.Cp T.Ec.B .nil yo (pa1 pfs)) J)) yx)) ?_,<-yh (PS.nox (uy PassesOwn.never J (we (xv j5 (pv 2) (uw (pcB yp T.A9 (pa1 (z0 pfs J)))) zf)) (wd (i:=3) ϰ J (Or.inl J)) (yc (yv (yu pfs T.Ah T.Fp.m (vad T) hr.m T.Fp.B .nil ve (pac (pv 3) (pac (z0 (ya3 (ľ hr) pfs (pv 3) (λB B=>rfl)) J) (pa1 pfs)))))))) ?_];exists 2,2,yc (yn pfs);erw[R,ds,d,_,_,_,n,kd,ps,w,P,x,t,J,a7,N.pz,hL,λl H1 ay a6 S1=>?_];let ar:=S1 _ _ a7;let ae:=N.same S1;let aE:=ae.ch.me;let aa:=ae.ch.hl;let#[y,hy]:=N.way;let as:=To.len N.pz hL;let ax:=To.len N.pz hy;ext;erw[λσ2 G=>∃(S O p2 f j:qa)(I:Τ)(U2:Μ)(C:Η),σ2=[some ⇑R,some (baV x),some ⇑l,none]/\Ð K a G R ds ll d S O p2 f j lk tp n kd ps mo w P C I U2/\Go (StO R c cl ct U) H G (StO R S f j U2)/\C=t.take ↑C/\↑C<=↑t/\G l\(nmL t)/\NK H ks I/\(V.non∈I->V.non∈ks.take ↑t),?_,?_]
 .ext;erw[uz (SqL.of aa) ?_,←ybg (SqL.of a6) λq hq0=>?_];rw[Ø,jz,ē];exists hq0,H2,S2,e2;let a5:=S1.trans S2;let M:=N.same a5;let a4:=M.me;let Z:=S2 _ _ a6;rw[ù]at e2;let a3:=M.ch.hl;rw[ù]at a3;erw[ygd _ _ (hy.ok N.pz) (λz hz=>hL.ok N.pz z (by let#[u,hu,J]:=bW.mp hz;erw[bW.mpr #[u,cV hu,J]])) (SqL.of a3) (SqL.of e2) ?_];by_cases he:L.map (·.1)=(t.take ↑L).map (·.1)
  .rw[bV he];erw[false,J,υ ?_];let e3:=To.ahead N.pz.nd N.pz.wf hy hL (by rwa[ē,yqh he]);let e4:=congrArg List.length e3;rw[cz]at e4;erw[c,dc,p,cl,ct,ks,U,L,J,M,Go.refl.same a5,e3,(),Z,.refl,λz=>by rwa[cU (by rw[N.ch.tx.len];omega),z]]
  .rw[cj he];erw[true,J,í ?_];ext;intro c' X nc a8 aA;have SQ:y7 H2 (upd (upd H2 X (.own c')) c' (.ins a.A2 X [])):=λb o e=>by rw[yk (yb e nc),yk (yb e a8)];exact e
   erw[c',X,ll,n,lk,tp,kd,ps,J,ya,SQ _ _ M.lo,M.n1,M.n6,M.row.same SQ,λp' ap af U' HE a2 ad BE B=>#[J,?_]];let#[hR,gR,SE,hN]:=M.re nc a8 a2 ad BE;let au:=SE _ _ a4;ext
   erw[c',X,p',ap,af,[],U',[],J,hR,gR.ahead a5,J,cK _,ye (λz=>by rw[z,a4]at Z;cases Z) (SE _ _ Z),.nil,λz=>nomatch z]
 .rintro σ2 G ⟨S,O,p2,f,j,I,U2,C,rfl,hG,go,al,ak,ai,ao,ah⟩;let aw:=hG.me;let aD:=hG.ch.me;let ac:=hG.ch.hl;ext;erw[uz (SqL.of ac) ?_,←ybg (SqL.of ai) λq hq0=>?_];rw[Ø,yo8];let S1:=y9 (o:=(HO.lst ((nmL t).drop ↑C))) hq0;have e1:upd G q (HO.lst ((nmL t).drop ↑C)) q=some (HO.lst ((nmL t).drop ↑C)):=ya;generalize upd G q (HO.lst ((nmL t).drop ↑C))=G1 at S1 e1⊢
  have am:∀W F,Go (StO R S f j U2) G1 F (StO R S f j W)->Ð K a G R ds ll d S O p2 f j lk tp n kd ps mo w P C I U2->F q=some (HO.lst ((nmL t).drop ↑C)):=λW F g hG=>g.fr _ _ e1 λw=>by
   let#[o,e]:=hG.lvO q w;rw[hq0]at e;cases e
  erw[q,J,#[_,SqL.of e1],xw (K:=K) (a:=q) (xs:=(nmL t).drop ↑C) (λi σ2 F=>∃(v:Χ)(D:Τ)(W:Μ),σ2=[some ⇑R,some (baV x),some ⇑l,v]/\Ð K a F R ds ll d S O p2 f j lk tp n kd ps mo w P (t.take (↑C+i)) D W/\Go (StO R S f j U2) G1 F (StO R S f j W)/\NK G1 I D/\(V.non∈D->V.non∈I)) ?_ ?_ ?_ ?_]
  .rw[Nat.add_zero,<- al];erw[none,I,U2,J,hG.same S1,Go.refl,.refl,id]
  .rintro i σ2 F _ ⟨v,D,W,rfl,ς,g,a1,Y⟩;erw[SqL.of (am W F g hG)]
  .rintro i z σ2 F hz ⟨v,D,W,rfl,ς,g,a1,Y⟩
   have hj:↑C+i<↑t:=by
    rcases Nat.lt_or_ge (↑C+i) ↑t with z|z
    .erw[z]
    .rw[cQ (by rw[du,Ø];omega)]at hz;cases hz
   let#[r,a0,e3,e4,e5]:=hL.at' N.pz.wf hj
   obtain rfl:z=.str r.nm:=by
    rw[List.getElem?_drop,ù,cM,bU,bP hj,e3]at hz;cases hz;rfl
   let a9:=ς.me;let aB:=ς.ch.me;let#[av,ab]:=ς.pz.ob r a0;ext;erw[d,_,J,ς.pz.get a0,?_];ext;let an:=ς.pz.sz r a0;let hb:=ς.wm;let hm:=ygh (L:=t.take (↑C+i)) (w:=w) (λy hy=>(hL.sz N.pz y (cV hy)).2) hb.2 (by rw[cz];omega);let aj:=ς.mo1;let az:=Ė (n:=n) (kd:=kd) (ps:=ps) (pre:=δ ((t.take (↑C+i)).map (·.2))) (ts:=r.tx) ς.n1 ς.n6 (uq _) ();erw[S,O,p2,f,j,n,kd,ps,t.take (↑C+i),D,mOf (t.take (↑C+i)),W,r.dl,r.nm,r.tx,[],mo,J,ς.ch,by rw[cz];omega,an.1,?_,λw=>ς.nw r.dl (.inr (.inr (.inr #[r,a0,.inr J]))) (.inr (.inr (.inr w))),(λb hb=>by cases hb),by rw[dw];omega,(),aj,(),λq3 U4 F2 ag a2 g2=>?_]
   .rw[dw,<- e4];erw[ab]
   rw[<- yfe,<- e3,<- cH hj]at a2;let#[h4,g4]:=ς.go a2 g2 #[_,e5];ext;erw[_,_,U4,J,h4,g.trans g4,a1.app (λq e=>by cases e;erw[g.free ag]),λz=>Y ((cA.mp z).elim id λy=>by cases bX.mp y)]
  .rintro σ2 F ⟨v,D,W,rfl,ς,g,a1,Y⟩;rw[du,Ø,Nat.add_sub_cancel' ak,cX]at ς;let a9:=ς.me;ext;erw[k S O p2 f j D W F ς (go.trans (g.ahead S1)) (ao.trans a1 λq e=>go.free (S1.free e)) λz=>ah (Y z)]
def Ü.lvW{H:Hp}{c p ll:qa}{n:Nat}{kd:Ν}{ps:Κ}{ks:Τ}{M:Nat}{W:Μ}(h:Ü K a H c dc p ll tl n kd ps L ks M W):∀x,StW c ll tl W x->∃o,H x=some o:=λx b=>by
 rcases b with z|z|z|z
 .erw[_,by rwa[z,h.me]]
 .erw[_,by rwa[z,h.hl]]
 .erw[_,by rwa[z,h.ht]]
 .erw[h.fz.live x z]
def Ü.butM{H H':Hp}{c p ll:qa}{n:Nat}{kd:Ν}{ps:Κ}{ks:Τ}{M:Nat}{W:Μ}(h:Ü K a H c dc p ll tl n kd ps L ks M W){q:qa}{o:HO}(hq:H q=some o)(ho:vhx o=true)(nq:¬StW c ll tl W q)(B:But q H H'):Ü K a H' c dc p ll tl n kd ps L ks M W:=by
 have b:∀{x:qa}{d:Τ},H x\d->x≠q:=λ{x d}e z=>by rw[z,hq]at e;cases e;cases ho
 erw[B _ _ h.me λz=>nq (.inl z.symm),h.fz.frame (W2:=λx=>x=q) (λx z=>#[o,by rwa[show x=q from z,hq],.inl ho]) (λx w z=>nq (.inr (.inr (.inr (by rwa[<- show x=q from z,w]))))) (λx o e f=>B x o e f),B _ _ h.hl (b h.hl),B _ _ h.ht (b h.ht),h.tx.mono λx d e g=>#[B _ _ e (b e),g],h.nc,h.nll,h.ntl,h.ne]
def To.more{P:qj Pc}{q:Pc}{x:Υ}(h:To P x L):To (P++[q]) x L:=by
 cases x with
 |none=>erw[h]
 |some b =>
  let#[r,a,e]:=h;erw[r,cZ _ a,e]
end
section
variable{H H1 H2 H3:Hp}{ll d c p cl ct:qa}{lk:Λ}{n:Nat}{kd:Ν}{ps:Κ}{mo w:Nat}{P:qj Pc}{ks ks':Τ}
def Ð.put(h:Ð K a H st ds ll d c dc p cl ct lk tp n kd ps mo w P L ks U){b:Str}{x:Υ}{r ob od:qa}(hc:Ü K a H1 c dc p cl ct n kd ps (L++[(b,ts)]) ks' (mOf L+6*↑(dec ts)) U')(g:Go (ChW cl ct U) H H1 (ChW cl ct U'))(hr0:H r=none)(hr:H1 r\↥(jb n kd ps (δ (L.map (·.2))) ts))(hob0:H1 ob=none)(S:y7 H1 H2)(hob:H2 ob∩a.Ac od (þ (baV x) ⇑r))
  (hL:To P x L) (hL6:↑L<=60) (hts:Sgs ts) (htz:↑ts<=w) (hb1:nmS b=true) (hb2:PyData.strOk b=true) (hno:∀q,q∈P->q.nm≠b) (hP:↑P<60):
  Ð K a (upd H2 d (.dK (pcs (P++[#[b,x,L,ts,ob,od,r]])))) st ds ll d c dc p cl ct lk tp n kd ps mo w (P++[#[b,x,L,ts,ob,od,r]]) (L++[(b,ts)]) ks' U'/\Go (λy=>y=d\/StO st c cl ct U y) H (upd H2 d (.dK (pcs (P++[#[b,x,L,ts,ob,od,r]])))) (λy=>y=d\/StO st c cl ct U' y):=by
 have g1:Go (StW c cl ct U) H H1 (StW c cl ct U'):=g.or (Y:=λx=>x=c);have f:∀x o,H x=some o->(x=st\/x=ll\/x=d\/∃q,q∈P/\(x=q.ob\/x=q.dl))->H2 x=some o:=λx o e C=>S _ _ (g1.fr x o e (h.nw x C));let k:=f _ _ h.me (.inl J);let m:=f _ _ h.lo (.inr (.inl J));let j:=f _ _ h.pz.dk (.inr (.inr (.inl J)));let u:=g1.apart (λx C=>h.lv x C) h.nw;have t:xz H2 n lk kd tp ps:=h.row.fr λx ς e=>S _ _ (g1.fr _ _ e (h.ch.noTup e));have v:Ü K a H2 c dc p cl ct n kd ps (L++[(b,ts)]) ks' (mOf (L++[(b,ts)])) U':=by rwa[yfe,hc.same S]
 have B:¬StW c cl ct U' ob:=λz=>by
  let#[o,e]:=hc.lvW ob z;rw[hob0]at e;cases e
 have I:¬StW c cl ct U' r:=λz=>by
  rcases z with z|z|z|z
  .rw[z,h.ch.me]at hr0;cases hr0
  .rw[z,h.ch.hl]at hr0;cases hr0
  .rw[z,h.ch.ht]at hr0;cases hr0
  .erw[hc.fz.sh.ints hr (yfv h.n1 h.n6 (uq _)) z]
 erw[#[ye (λz=>by rw[z,j]at k;cases k) k,h.n1,h.n6,ye (λz=>by rw[z,j]at m;cases m) m,t.fr λx ς e=>ye (λz=>by rw[z,j]at e;cases e) e,#[ya,λq i=>?_,?_,λq i=>?_,λq i=>?_,?_,λq i=>?_],v.butM j J (u d (.inr (.inr (.inl J)))) But.upd,λy s=>?_,h.mo1,h.wm,#[some b,_,cI _ (bX.mpr J),J,J]],#[λy o e F=>?_,λy z=>?_,λy o e=>?_]]
 .rcases cA.mp i with z|z
  .let D:=f _ _ (h.pz.ob q z).1 (.inr (.inr (.inr #[q,z,.inl J])));let l:=f _ _ (h.pz.ob q z).2 (.inr (.inr (.inr #[q,z,.inr J])));erw[ye (λz=>by rw[z,j]at D;cases D) D,ye (λz=>by rw[z,j]at l;cases l) l]
  .obtain rfl:=bX.mp z;let l:=S _ _ hr;erw[ye (λz=>by rw[show ob=d from z,j]at hob;cases hob) hob,ye (λz=>by rw[show r=d from z,j]at l;cases l) l]
 .rw[ce];erw[List.nodup_append.mpr #[h.pz.nd,(by simp),λy s z E e=>?_]];let#[q,i,J]:=bW.mp s;rw[List.map_singleton,bX]at E;erw[hno q i (e.trans E)]
 .rcases cA.mp i with z|z
  .erw[(h.pz.wf q z).more]
  .obtain rfl:=bX.mp z;erw[hL.more]
 .rcases cA.mp i with z|z
  .erw[h.pz.sz q z]
  .obtain rfl:=bX.mp z;erw[hts,htz,hL6,λy s=>hL.sz h.pz y s]
 .rw[bQ,cJ];omega
 .rcases cA.mp i with z|z
  .erw[h.pz.nm q z]
  .obtain rfl:=bX.mp z;erw[hb1,hb2]
 .rcases s with z|z|z|⟨q,i,z⟩
  .erw[u y (.inl z)]
  .erw[u y (.inr (.inl z))]
  .erw[u y (.inr (.inr (.inl z)))]
  .rcases cA.mp i with A|A
   .erw[u y (.inr (.inr (.inr #[q,A,z])))]
   .obtain rfl:=bX.mp A;rcases z with z|z
    .rw[z];erw[B]
    .rw[z];erw[I]
 .erw[ye (λz=>F (.inl z)) (S _ _ (g1.fr y o e λz=>F (.inr (.inr z))))]
 .rcases z with z|z|z
  .erw[.inl (.inl z)]
  .erw[.inl (.inr (.inl z))]
  .erw[(g1.nw y z).imp (λz=>.inr (.inr z)) id]
 .let#[M,G]:=g1.lv y o e;by_cases z:y=d
  .erw[_,by rwa[z,ya]]
  .erw[M,ye z (S _ _ G)]
end
mutual
theorem ymn : yi ["self","name","text","base","signs","data"] ["self","name","text","base"] (yd (yt (top 99) 4)):=wc (by decide +kernel)
#synth ∀(K:xy)(a:Ads),∀(st:qa)(C:Cf)(P:qj Pd)(X:Sx)(b:Str)(x:Υ)(L':Η)(tx:qa)(ts:Ο)(_:vs=[.ref st,.str b,.ref tx,baV x])(_:Sto K a H st C P X)(_:okN b)(_:ă H tx ts C.w)(_:(∀q,q∈P->q.nm≠b))(_:ToD P x L')(_:↑P<60)(_:∀Y H',Sto K a H' st C (P++[#[b,x,L',ts]]) Y->Gx X H H' Y->Q .non H'),yyn
def vcr:vq P w K mg Γ (CXe P w) 13 a.Iw a.Hn ["self","name","text","base"] (yyn K a):=by
 refine T.Us.okE ymn (fun ϟ H Q E h=>?_) (fun ϟ A ϟ s H ϟ Q E t h=>?_); left;let#[I,#[n,kd,ps,mo,w],P0,X,b,x,O,tx,ts,J,v,#[Z,ai],i,D,u,ak,k]:=h;have ao:↑ts<=w:=i.z;let av:=u.len v.pw
 have a8:∀y,x=some y->nmS y=true/\↑y<=8:=λy e=>by
  subst e;let#[r,t,J,_]:=u;let h1:=(v.nm r t).1;erw[h1,xl h1]
 let#[ds,ll,d,c,dc,p,cl,ct,lk,tp,P,L,ks,U,s,J,J]:=id v;have W:Ð K a H I ds ll d c dc p cl ct lk tp n kd ps mo w P L ks U:=s;let hL:=Ô.mp u;have a4:∀q,q∈P->q.nm≠b:=λq hq=>D q.pd (ymu hq);have ax:↑(P.map Pc.pd)=↑P:=bL _;let aA:=W.me;erw[yh (yv (uk (ygi T) t.m T.Fs yo (pav 1))) ?_,<-yh (pst 4 ymn.nd (uk (ymx T) t.m T.I7 yo (pav 2))) ?_,<-yh (yv (uk (yy6 T) t.m T.Sy yo (pav 3))) ?_,<-yh (yv (yu (pv 0) T.A1 T.Fu.m (yr6 T) t.m T.Fu.B .nil yo (pav 4))) ?_,<-yh (yv (yu (pv 0) T.A1 T.Fv.m (yr8 T) t.m T.Fv.B .nil yo (pac (pv 1) (pav 3)))) ?_,<-yh (pst 5 ymn.nd (wv (yu (pv 0) T.A1 T.Bu.m (ycr T) t.m T.Bu.B .nil yo (pav 3)) T.Ah T.Lp.m (vax T) t.m T.Lp.B .nil vo (pac (pv 1) (pav 4)))) ?_,<-_,(yc (ya8 (ľ t) pfs (pv 1) (jl T.Hu (ys4 T) t.m J T.Ht T.Lq.B .nil vo (pac (pv 3) (pav 5))) J)),?_];exists 4,2;let az:=xl Z;let al:=W.wm;let ar:=W.mo1;ext;erw[.str b,"str",J,.str b,(λs e=>by cases e;omega),λB H1 S1=>?_,λz=>by rw[show nmV (.str b)=nmS b from rfl,Z]at z;cases z]
 let g:=i.same S1;ext;erw[.ref tx,_,J,.lst g.l,.inr #[↥ts,Ę g.l g.s (by have:=g.z;omega),λsg H2 a6 a5 S2=>?_]];ext
 have M:∃nt,jc K H2 (baV x) (.type nt):=by
  cases x with
  |none=>erw[_,.non]
  |some y=>erw[_,.str y]
 let#[nt,M]:=M
 have ah:baV x=.non\/nmV (baV x)=true:=by
  cases x with
  |none=>erw[.inl J]
  |some y=>erw[.inr (a8 y J).1]
 erw[baV x,nt,J,M,(λs e=>?_),λB H3 S3=>?_,λz1 z2=>absurd ah λz=>z.elim z1 λz=>by rw[z2]at z;cases z]
 .cases x with
  |none=>cases e
  |some y=>cases e;have:=(a8 _ J).2;omega
 let S:=S1.trans (S2.trans S3);let ae:=W.same S;let a2:=ae.me;let G:=S3 _ _ a5;ext;erw[I,ds,sg,_,_,_,mo,_,J,a2,G,by rw[bL];omega,?_]
 ext;erw[I,_,_,_,b,x,O,J,v.same S,D,u,ak,λH4 S4=>?_];let j:=S.trans S4;let aa:=W.same j;let au:=aa.me;let F:=S4 _ _ G;ext;erw[I,ds,ll,d,c,dc,p,cl,ct,lk,tp,n,kd,ps,mo,w,P,L,ks,U,x,O,J,aa,hL,λc' a3 p' R ς an U' H5 N g5 aq B=>?_];let aD:=N.ch.me
 have a1:¬StO I c cl ct U sg:=λz=>by
  let#[o,e]:=W.lvO sg z;rw[S1.free a6]at e;cases e
 let ab:=g5.fr _ _ F a1;have a9:¬StO I c' R ς U' sg:=λz=>(g5.nw sg z).elim a1 λe=>by rw[F]at e;cases e
 let hm:=ygh (L:=O) (w:=w) (λy hy=>(hL.sz W.pz y hy).2) al.2 ();let aB:=xp ts;let aw:=i.z;ext;erw[c',a3,p',R,ς,n,kd,ps,O,an,mOf O,U',sg,b,ts,J,N.ch,(),#[ab,i.s,()],λz=>a9 (.inr (.inr (.inr (.inr z)))),(),λr U6 H6 a7 ag am g6=>?_]
 let aj:=g6.fr _ _ N.me λz=>N.nw I (.inl J) (.inr z);let ad:=g6.fr _ _ N.pz.dk λz=>N.nw d (.inr (.inr (.inl J))) (.inr z);ext;intro ob od f ac ay;have SQ:y7 H6 (upd (upd H6 od (.own ob)) ob (.ins a.Ac od [])):=λb o e=>by rwa[yk (yb e f),yk (yb e ac),e]
 erw[ob,od,baV x,.ref r,J,ya,λH7 a0 B7=>#[J,?_]];have S7:y7 H6 H7:=λy o e=>B7 _ _ (SQ _ _ e) (yb e f);let as:=S7 _ _ aj;ext;erw[d,_,J,ym1.k (k:=.inr b) (S7 _ _ ad) (vi (by unfold pcs;rw[bL];omega)),?_];rw[ã _ (ymo a4)];let#[z1,z2]:=N.put (x:=x) am g6 a7 ag f S7 a0 hL () i.s ao Z ai a4 ();have e8:pcs (P++[#[b,x,O,ts,ob,od,r]])=pcs P++[(.inr b,.ref ob)]:=by unfold pcs;rw[ce];rfl
 rw[e8]at z1 z2;have af:∀{y:qa},H6 y=none->H y=none:=λ{y}e=>j.free (g5.free (g6.free e))
 erw[k _ _ #[ds,ll,d,c',a3,p',R,ς,lk,tp,_,_,_,U6,z1,by rw[ce];rfl,J] (Gx.of (((g5.ahead j).or (Y:=λy=>y=d)).trans z2) ((NK.refl.trans aq λB e=>j.free e).app λq e=>nomatch e) λq hq=>?_)]
 rcases cA.mp hq with z|z
 .erw[.inl z]
 .rw[bX.mp z];erw[.inr #[af f,j.free (g5.free a7)]]
def Fr(F:Μ)(H H':Hp):Prop:=∀y o,H y=some o->¬F y->H' y=some o
#synth ∀(K:xy)(a:Ads),∀(st dt:qa)(C:Cf)(P:qj Pd)(X:Sx)(b:Str)(x:Υ)(L:Η)(d:Ο)(_:vs=[.ref st,.str b,.ref dt,baV x])(_:Sto K a H st C P X)(_:okN b)(_:H dt\↥d)(_:¬X.f dt)(_:Byt d)(_:↑d<=12000)(_:(∀q,q∈P->q.nm≠b))(_:↑P<60)(_:ToD P x L)(_:((∃ts bs,d=jb C.n C.kd C.ps (δ (L.map (·.2))) ts++bs/\Sgs ts/\↑ts<=C.w/\∀Y H',Sto K a H' st C (P++[#[b,x,L,ts]]) Y->Gx X H H' Y->Q ((↑(jb C.n C.kd C.ps (δ (L.map (·.2))) ts):Nat):) H')\/((∀ts bs,Sgs ts->↑ts<=C.mo->d≠jb C.n C.kd C.ps (δ (L.map (·.2))) ts++bs)/\∀H',Fr X.f H H'->E ⇑a.B0 none H'))),yt7
def vco:(Df.e P w mg Γ) T.Ls 13 (yt7 K a):=by
 exists Ls,hr,["self","name","data","base","chain","own"];let#[g,dt,C,P,X,b,x,W,da,J,a5,a4,aq,ah,ak,aj,Z,ac,a2,hG]:=h;let aD:=xl a4.1;let aJ:=a2.len a5.pw;let#[N,G,d,c,dc,p,cl,ct,lk,tp,Qs,L,ks,U,hS,J,J]:=id a5;let hL:=Ô.mp a2;have aC:↑(Qs.map Pc.pd)=↑Qs:=bL _;let aB:=hS.pz.z;let aF:=hS.me;let ar:=hS.wm;let S:=hS.mo1;erw[yh (yv (uk (ygi T) hr.m T.Fs yo (pav 1))) ?_,<-yh (yv (yu (pv 0) T.A1 T.Fv.m (yr8 T) hr.m T.Fv.B .nil yo (pac (pv 1) (pav 3)))) ?_,<-yh (pst 4 ϰ (yu (pv 0) T.A1 T.Bu.m (ycr T) hr.m T.Bu.B .nil yo (pav 3))) ?_,<-yh (y8 (pv 0) (uu T.Cq (ycx T) hr.m J T.Cp T.Ec.B .nil yo (pa1 pfs)) J) ?_,<-yh (pst 5 ϰ (yu (pv 4) T.Ah T.Fp.m (Ê T) hr.m T.Fp.B .nil yo (pac (pv 1) (pac (pv 2) (pa1 pfs))))) ?_,<-yh (y8 (pv 0) (pv 4) J) ?_,<-yh (ya8 (ľ hr) pfs (pv 1) (jl T.Hu (ys4 T) hr.m J T.Ht T.Lq.B .nil vo (pac (pv 3) (pa1 (xv j5 (pv 2) zf (uw (pv 5)))))) J) ?_];exists 4,2,yc (yn (pv 5));erw[.str b,"str",J,.str b,(λs e=>by cases e;omega),λax H1 S1=>?_,λz=>by rw[show nmV (.str b)=nmS b from rfl,a4.1]at z;cases z]
 let av:=hS.same S1;let ay:=av.me;ext;have a9:∀q,q∈Qs->q.nm≠b:=λq hq=>Z q.pd (ymu hq);erw[g,C,_,_,b,x,W,J,a5.same S1,Z,a2,ac,λH2 S2=>?_];let a7:=S1.trans S2;let ab:=hS.same a7;let aA:=ab.me;ext;erw[g,N,G,d,c,dc,p,cl,ct,lk,tp,C.n,C.kd,C.ps,C.mo,C.w,Qs,L,ks,U,x,W,J,ab,hL,λR a3 p' l j ag U' H5 M g5 aw F=>?_];let D:=g5.ahead a7;let a0:=M.me;let v:=M.nw g (.inl J);ext;intro c2 a1 nc ao aG;have SQ:y7 H5 (upd (upd H5 a1 (.own c2)) c2 (.ins a.A2 a1 [])):=λb o e=>by rwa[yk (yb e nc),yk (yb e ao),e]
 erw[c2,a1,G,C.n,lk,tp,C.kd,C.ps,J,ya,SQ _ _ M.lo,M.n1,M.n6,M.row.same SQ,λp2 aH aM U2 HE F F BE F=>#[J,?_]];have SE:y7 H5 HE:=λb o e=>BE _ _ (SQ _ _ e) (yb e nc);let ae:=SE _ _ a0;ext;have b6:But g HE (upd HE g (.ins a.A0 N (wo ⇑G (C.mo:) ⇑d ⇑c2))):=But.upd;have i:upd HE g (.ins a.A0 N (wo ⇑G (C.mo:) ⇑d ⇑c2)) g∩a.A0 N (wo ⇑G (C.mo:) ⇑d ⇑c2):=ya;generalize upd HE g (.ins a.A0 N (wo ⇑G (C.mo:) ⇑d ⇑c2))=H6 at b6 i⊢;let a6:=(M.ch.same SE).but ae v b6;let aI:=a6.me
 have nW:∀{y:qa}{o:HO},H y=some o->¬(ytx d g c cl ct U G Qs ks).f y->H6 y=some o/\¬StW R l j U' y:=λ{y o}e nf=>by
  let h1:=D.fr y o e λw=>nf (.inl (.inr w));erw[b6 _ _ (SE _ _ h1) λz=>nf (.inl (.inr (.inl z))),λw=>?_];rcases D.nw y (.inr w)with z|z
  .erw[nf (.inl (.inr z))]
  .rw[e]at z;cases z
 let#[I,ς]:=nW aq ah;let hm:=ygh (L:=W) (w:=C.w) (λy hy=>(hL.sz hS.pz y hy).2) ar.2 ();ext;rcases hG with⟨ts,bs,rfl,ad,aL,kQ⟩|⟨hg,kE⟩
 .refine .inl #[R,a3,p',l,j,C.n,C.kd,C.ps,W,ag,mOf W,U',dt,b,ts,bs,C.mo,J,a6,(),ad,I,λw=>ς (.inr (.inr (.inr w))),λy hy=>ak y (cI _ hy),aj,(),S,(),λq U7 H7 O as g7=>?_]
  have al:¬StW R l j U7 g:=λw=>by
   rcases w with z|z
   .erw[v (.inl z)]
   .rcases g7.nw g z with z|z
    .erw[v (.inr z)]
    .rw[i]at z;cases z
  let a8:=g7.fr _ _ i λz=>v (.inr z);ext;have b8:But g H7 (upd H7 g (.ins a.A0 N (wo ⇑G (C.mo:) ⇑d ⇑R))):=But.upd;have u:upd H7 g (.ins a.A0 N (wo ⇑G (C.mo:) ⇑d ⇑R)) g∩a.A0 N (wo ⇑G (C.mo:) ⇑d ⇑R):=ya;generalize upd H7 g (.ins a.A0 N (wo ⇑G (C.mo:) ⇑d ⇑R))=H8 at b8 u⊢;let am:=as.but a8 al b8
  have g8:Go (ChW l j U') H5 H8 (ChW l j U7):=by
   erw[λy o e nw=>?_,λy w=>(g7.nw y w).imp id λe=>?_,λy o e=>?_]
   .by_cases z:y=g
    .rw[z]at e⊢;rw[a0]at e;rw[u,<- e]
    .erw[b8 _ _ (g7.fr y o (b6 _ _ (SE _ _ e) z) nw) z]
   .cases e5:H5 y with
    |none=>rfl
    |some o =>
     by_cases z:y=g
     .rw[z,i]at e;cases e
     .rw[b6 _ _ (SE _ _ e5) z]at e;cases e
   .by_cases z:y=g
    .erw[_,by rwa[z,u]]
    .let#[o',e']:=g7.lv y o (b6 _ _ (SE _ _ e) z);erw[o',b8 _ _ e' z]
  let ap:=g8.fr _ _ M.pz.dk λz=>M.nw d (.inr (.inr (.inl J))) (.inr z);let af:=b8 _ _ (g7.fr _ _ I λz=>ς (.inr z)) (λz=>ah (by rwa[z,.inl (.inr (.inl J))]));ext;erw[ybg (SqL.of af) λr hr0=>?_];rw[jz,<- List.map_take,List.take_left];exists hr0,H9,S9,hr9;ext;intro ob od t ai aE;have an:y7 H9 (upd (upd H9 od (.own ob)) ob (.ins a.Ac od [])):=λb o e=>by rwa[yk (yb e t),yk (yb e ai),e]
  erw[ob,od,baV x,.ref r,J,ya,λHA aa BA=>#[J,?_]];have SA:y7 H9 HA:=λy o e=>BA _ _ (an _ _ e) (yb e t);let az:=SA _ _ (S9 _ _ u);ext;erw[d,_,J,ym1.k (k:=.inr b) (SA _ _ (S9 _ _ ap)) (vi (by unfold pcs;rw[bL];omega)),?_];rw[ã _ (ymo a9)];let g9:=g8.same S9;let#[z1,z2]:=M.put (x:=x) (am.same S9) g9 (g8.free hr0) hr9 t SA aa hL () ad () ax a4.2 a9 ();have e8:pcs (Qs++[#[b,x,W,ts,ob,od,r]])=pcs Qs++[(.inr b,.ref ob)]:=by unfold pcs;rw[ce];rfl
  rw[e8]at z1 z2;ext;erw[kQ _ _ #[N,G,d,R,a3,p',l,j,lk,tp,_,_,_,U7,z1,by rw[ce];rfl,J] (Gx.of ((D.or (Y:=λy=>y=d)).trans z2) ((NK.refl.trans aw λF e=>a7.free e).app λq e=>?_) λq hq=>?_)]
  .cases e;refine D.free ?_
   cases e5:H5 q with
   |none=>rfl
   |some o =>
    by_cases z:q=g
    .rw[z,i]at O;cases O
    .rw[b6 _ _ (SE _ _ e5) z]at O;cases O
  .rcases cA.mp hq with z|z
   .erw[.inl z]
   .rw[bX.mp z];erw[.inr #[D.free (g9.free t),D.free (g8.free hr0)]]
 .erw[.inr #[R,a3,p',l,j,C.n,C.kd,C.ps,W,ag,mOf W,U',dt,b,da,C.mo,J,a6,I,λw=>ς (.inr (.inr (.inr w))),ak,aj,S,(),hg,λH7 fr=>kE _ λy o e nf=>?_]];let#[h1,h2]:=nW e nf;erw[fr y o h1 λw=>h2 (.inr (.inr (.inr w)))]
theorem ydb.get{H:Hp}:∀{L:Η}{ks:Τ},ydb H U L ks->∀{j:Nat}(hj:j<↑L),∃k,ks[j]?=some k/\(k=.non\/∃q,k=.ref q/\H q\(L[j].2.map V.int)/\¬U q)
 |[],_,_,j,hj=>absurd hj (cD j)
 |x::r,_,⟨k,ks',e,z,h⟩,0,hj=>#[k,by rw[e];rfl,z]
 |x::r,_,⟨k,ks',e,z,h⟩,j+1,hj=>by
  let#[b,c,a]:=h.get (Nat.lt_of_succ_lt_succ hj);erw[b,by rwa[e,List.getElem?_cons_succ,c],a]
#synth ∀(K:xy)(a:Ads),∀(st:qa)(C:Cf)(P:qj Pd)(X:Sx)(x:Υ)(L':Η)(_:vs=[.ref st,baV x])(_:Sto K a H st C P X)(_:ToD P x L')(_:∀Y r cx H',Sto K a H' st C P Y->Gx X H H' Y->H r=none->Kf H' Y r (.lst (refs cx ↑L'))->(∀i,i<↑L'->cx i≠r/\H (cx i)=none/\Kf H' Y (cx i) (.lst ↥(txi L' i)))->Q ⇑r H'),yhd
def yqk:(Df.e P w mg Γ) T.Fx 13 (yhd K a):=by
 exists Fx,hr,["self","name","links"];let#[I,#[n,kd,ps,mo,w],P0,X,x,t,J,#[ds,ll,d,c,dc,p,cl,ct,lk,tp,P,L,ks,U,s,J,J],hL,k]:=h;have hS:Ð K a H I ds ll d c dc p cl ct lk tp n kd ps mo w P L ks U:=s;let hL:=Ô.mp hL;let ag:=hS.me;erw[yh (pst 2 ϰ (wv (pv 0) T.A1 T.Fw.m (yrc T) hr.m T.Fw.B .nil vo (pav 1))) ?_,<-yh (Î (vz (yq (yzi hr.units) u9 (xv j5 (z0 pfs J) zf (uw (pcB yp T.A9 (pav 2)))) (by with_unfolding_all rfl)) (yc (y8 (pv 0) (uu T.Cq (ycx T) hr.m J T.Cp T.Ec.B .nil yo (pa1 pfs)) J)) yx)) ?_,<-yh (Î (vz (yq (ċ hr.units) (xv j5 (z0 pfs J) zf (uw (pcB yp T.A9 (pav 2)))) (pv 2) (yy _)) (yc (yv (yu (pv 0) T.A1 T.Bu.m (ycr T) hr.m T.Bu.B .nil yo (pav 1)))) yx)) ?_];exists 2,1,yc (yn (vx (js:=[]) (ys:=[]) J (we (xv j5 (z0 pfs J) zf (uw (pcB yp T.A9 (pav 2))))) (λC s2 H2 fp=>(pcT (r:=yk5 K) ww T.An (pav 0))) J J (hyc:=yw) (hrel:=yw)));erw[I,ds,d,_,_,_,n,kd,ps,w,P,x,t,J,ag,hS.pz,hL,λl H1 aq ad S1=>?_];let aB:=S1 _ _ ag;let a9:=hS.same S1;let aM:=a9.ch.me;let aC:=a9.ch.hl;let ac:=a9.ch.ht;let aD:=To.len hS.pz hL;ext;erw[λσ2 G=>∃(c2 a1 p2 O W:qa)(M:Τ)(U2:Μ)(L2:Η),σ2=[some ⇑I,some (baV x),some ⇑l]/\Ð K a G I ds ll d c2 a1 p2 O W lk tp n kd ps mo w P L2 M U2/\Go (StO I c cl ct U) H G (StO I c2 O W U2)/\NK H ks M/\V.non∉M.take ↑t/\G l\(nmL t)/\¬StO I c2 O W U2 l,?_,?_]
 .ext;erw[uz (SqL.of ad) ?_,←ybg (SqL.of ac) λq hq0=>?_];rw[Ø,jz];exists hq0,H2,S2,e2;let a2:=S1.trans S2;let ς:=hS.same a2;let a0:=ς.me;let v:=S2 _ _ ad;erw[q,_,J,J,SqL.of e2,λz hz=>(hS.ch.tx.mem z (cV hz)).imp id λ⟨q,ys,e,hq,_⟩=>#[q,ys,e,SqL.of (a2 _ _ hq)],?_];by_cases he:(ks.take ↑t).any isN=true
  .rw[he];erw[true,J,í ?_];ext;intro c' N nc ah aG;have SQ:y7 H2 (upd (upd H2 N (.own c')) c' (.ins a.A2 N [])):=λb o e=>by rw[yk (yb e nc),yk (yb e ah)];exact e
   erw[c',N,ll,n,lk,tp,kd,ps,J,ya,SQ _ _ ς.lo,ς.n1,ς.n6,ς.row.same SQ,λp' a8 a5 U' HE aw an BE B=>#[J,?_]];let#[hR,gR,SE,hN]:=ς.re nc ah aw an BE;let aE:=SE _ _ a0;have aa:l≠I:=λz=>by rw[z,a0]at v;cases v
   ext;erw[c',N,p',a8,a5,[],U',[],J,hR,gR.ahead a2,.nil,(by simp),ye aa (SE _ _ v),λz=>?_]
   rcases z with z|z
   .erw[aa z]
   .rw[hN l z]at v;cases v
  .rw[Bool.eq_false_iff.mpr he];erw[false,J,υ ?_,<-c,dc,p,cl,ct,ks,U,L,J,ς,Go.refl.same a2,.refl,λz=>he (List.any_eq_true.mpr #[_,z,J]),v,λz=>?_];let#[o,e]:=hS.lvO l z;rw[aq]at e;cases e
 .rintro σ2 G ⟨c2,a1,p2,O,W,M,U2,L2,rfl,hG,go,al,ae,af,au⟩;let aF:=hG.me;let aK:=hG.ch.me;let am:=hG.ch.hl;ext;exists λσ2 F=>∃(c3 a6 p3 R Z:qa)(f:Τ)(U3:Μ)(L3:Η),σ2=[some ⇑I,some (baV x),some ⇑l]/\Ð K a F I ds ll d c3 a6 p3 R Z lk tp n kd ps mo w P L3 f U3/\Go (StO I c cl ct U) H F (StO I c3 R Z U3)/\NK H ks f/\V.non∉f.take ↑t/\t=L3.take ↑t/\F l\(nmL t),?_,?_
  .ext;erw[uz (SqL.of af) ?_,←ybg (SqL.of am) λq hq0=>?_];rw[Ø,jz,ē];exists hq0,G2,S2,e2;let a7:=hG.same S2;let a0:=a7.me;let v:=S2 _ _ af;let#[y,hy]:=hG.way;let a4:=v;rw[ù]at e2 a4;ext;erw[ygd _ _ (λz hz=>hy.ok hS.pz z (by let#[u,hu,J]:=bW.mp hz;erw[bW.mpr #[u,cV hu,J]])) (hL.ok hS.pz) (SqL.of e2) (SqL.of a4) ?_];by_cases he:(L2.take ↑t).map (·.1)=t.map (·.1)
   .rw[bV he];erw[false,J,υ ?_,<-c2,a1,p2,O,W,M,U2,L2,J,a7,go.same S2,al,ae,To.ahead hS.pz.nd hS.pz.wf hL hy (by rwa[ē,(yqh he).symm]),v]
   .rw[cj he];erw[true,J,í ?_,←I,ds,ll,d,c2,a1,p2,O,W,lk,tp,n,kd,ps,mo,w,P,L2,M,U2,x,t,J,a7,hL,λc' N p' a8 a5 ax U' F hC gC ar hn=>?_,←c',N,p',a8,a5,ax,U',t,J,hC,(go.same S2).trans gC,al.trans ar (λq e=>go.free (S2.free e)),λz=>ae (hn (cV z)),(cX).symm,gC.fr _ _ v au]
  .rintro σ2 F ⟨c3,a6,p3,R,Z,f,U3,L3,rfl,hF,az,av,ap,ab,as⟩;let aA:=hF.me;let aI:=hF.ch.me;let ao:=hF.ch.ht
   have aH:↑t<=↑L3:=by
    let e:=congrArg List.length ab;rw[cz]at e;omega
   ext;erw[uz (SqL.of as) ?_,←ybg (SqL.of ao) λq hq0=>?_];rw[Ø,jz];let S1:=y9 (o:=(HO.lst (f.take ↑t))) hq0;have e1:upd F q (HO.lst (f.take ↑t)) q=some (HO.lst (f.take ↑t)):=ya;generalize upd F q (HO.lst (f.take ↑t))=F1 at S1 e1⊢;let aL:=hF.ch.tx.len;have a3:↑(f.take ↑t)=↑t:=by rw[cz];omega
   let ak:=hF.same S1;erw[q,J,#[_,SqL.of e1],λD hD=>?_];refine zu (K:=K) (xs:=f.take ↑t) (λi G=>∃cx:Λ,G D\(refs cx i)/\(∀j,j<i->F1 (cx j)=none/\G (cx j)\↥(txi t j)/\cx j≠D)/\y7 F1 G)
    #[λB=>0,ya,λj hj=>absurd hj (cD j),y9 hD] (λi G B ⟨_,_,_,S⟩=>SqL.of (S _ _ e1)) (λi y G hy hi z=>?_) (λG z=>?_)
   .let#[cx,gD,gC,S]:=z;rw[a3]at hi;let#[k',ek,hk]:=ak.ch.tx.get (j:=i) ();rw[List.getElem?_take,if_pos hi,ek]at hy;obtain rfl:k'=y:=by cases hy;rfl
    rcases hk with z|⟨q2,rfl,ai,_⟩
    .erw[absurd ?_ ap];rwa[<- z,ck (i:=i) (by rwa[List.getElem?_take,if_pos hi,ek])]
    have et:L3[i].2=txi t i:=by
     let e:=congrArg (λl=>l[i]?) ab;simp only[List.getElem?_take]at e;rw[if_pos hi]at e;unfold txi;rw[cL,bU,e,bP ()];rfl
    rw[et]at ai;ext;erw[q2,_,J,.inl (SqL.of (S _ _ ai)),λc hc0=>?_];have nc:c≠D:=(yb gD hc0).symm;exists hc0,G2,S2,hc2;erw[xk (n:=↑(f.take ↑t)) (S2 _ _ gD) (vi (by rw[vv];omega)) () ?_,<-upN cx i c,?_,λj hj=>?_,λb o e=>ye (yb e hD) (S2 _ _ (S b o e))]
    .rw[ya,x9,wx]
     congr 3
     erw[xu λj hj=>(wu hj).symm]
    .by_cases z:j=i
     .rw[z,wx];erw[S.free hc0,ye nc hc2,nc]
     .have aj:j<i:=()
      rw[wu aj];let#[g1,g2,g3]:=gC j aj;erw[g1,ye g3 (S2 _ _ g2),g3]
   .let#[cx,gD,gC,S]:=z;rw[a3]at gD gC;have s1:Sto K a F1 I #[n,kd,ps,mo,w] (P.map Pc.pd) (ytx d I c3 R Z U3 ll P f):=#[ds,ll,d,c3,a6,p3,R,Z,lk,tp,P,L3,f,U3,ak,J,J];have g1:Gx (ytx d I c cl ct U ll P ks) H F1 (ytx d I c3 R Z U3 ll P f):=Gx.of ((az.same S1).or (Y:=λy=>y=d)) av λq hq=>.inl hq;erw[k _ D cx G (s1.same S) (g1.same S) (g1.g.free hD) (Kf.new s1 hD gD) λi hi=>#[(gC i hi).2.2,g1.g.free (gC i hi).1,Kf.new s1 (gC i hi).1 (gC i hi).2.1]]
#synth ∀(K:xy)(a:Ads),∀(st:qa)(C:Cf)(P:qj Pd)(X:Sx)(b:Str)(_:vs=[.ref st,.str b])(_:Sto K a H st C P X)(_:nmS b=true)(_:EN a P b H E)(_:(∀r,r∈P->r.nm=b->∀Y q H',Sto K a H' st C P Y->Gx X H H' Y->H q=none->Kf H' Y q (.lst ↥r.tx)->Q ⇑q H')),yir
def yp7:(Df.e P w mg Γ) T.Fz 14 (yir K a):=by
 exists Fz,c,["self","name"];let#[k,C,P,X,b,J,n,u,p,L]:=h;let#[U,Z,vm,vp,vc,g]:=n.ins;exists 2,0,yf (yv (yu (pv 0) T.A1 T.Ba.m (ţ T) c.m T.Ba.B .nil yo (pav 1))) (yc (yn (pix vn (yu (pv 0) T.A1 T.Fx.m (yqk T) c.m T.Fx.B .nil yo (pav 1)) (yx3 yl0 yg))));erw[k,C,P,X,b,J,n,u,p,λr c e S od O W d y G=>?_];let o:=d _ _ g;ext;erw[k,C,P,X,some b,r.path++[(b,r.tx)],J,n.same d,#[r,c,e,J],λY l z ς q g2 t i f=>?_];ext;let#[R,I,N,M]:=f ↑r.path (by rw[bQ,cJ];omega);erw[ul (v:=.ref (z ↑r.path)) (SqL.of i.1) ?_ ?_]
 .rw[bQ,cJ,x9];erw[yno _ _]
 .ext;erw[L r c e Y _ ς q (g2.ahead d) (d.free I) #[?_,M]];rw[N];unfold txi;simp
#synth ∀(K:xy)(a:Ads),∀(st:qa)(C:Cf)(P:qj Pd)(X:Sx)(b:Str)(_:vs=[.ref st,.str b])(_:Sto K a H st C P X)(_:nmS b=true)(_:EN a P b H E)(_:(∀r,r∈P->r.nm=b->∀l H',H l=none->H' l\↥(r.by C)->y7 H H'->Q ⇑l H')),yh7
def yqz:(Df.e P w mg Γ) T.G0 4 (yh7 K a):=by exists G0,f,["self","name"];let#[i,C,P,X,b,J,j,p,n,x]:=h;let#[z,G,M,L,I,q]:=j.ins;exists 2,0,yc (yn (pcT ww T.An (pa1 (z0 (yu (pv 0) T.A1 T.Ba.m (ţ T) f.m T.Ba.B .nil yo (pav 1)) J))));erw[i,C,P,X,b,J,j,p,n,λr f e y ς o D k u g=>?_,←o,_,J,.inl (SqL.of g),λl c=>?_,<-x r f e l _ (k.free c) ya (k.trans (y9 c))]
#synth ∀(K:xy)(a:Ads),∀(st:qa)(C:Cf)(P:qj Pd)(X:Sx)(b:Str)(_:vs=[.ref st,.str b])(_:Sto K a H st C P X)(_:nmS b=true)(_:EN a P b H E)(_:(∀r,r∈P->r.nm=b->∀H',y7 H H'->Q (baV r.bs) H')),yj9
def ytn:(Df.e P w mg Γ) T.G6 4 (yj9 K a):=by exists G6,d,["self","name"];let#[f,C,P,X,b,J,g,j,i,t]:=h;let#[y,z,ς,I,D,k]:=g.ins;exists 2,0,yc (yn (z0 (yu (pv 0) T.A1 T.Ba.m (ţ T) d.m T.Ba.B .nil yo (pav 1)) J));erw[f,C,P,X,b,J,g,j,i,λr d e x G v p u n q=>?_,←t r d e p u]
#synth ∀(K:xy)(a:Ads),∀(st:qa)(C:Cf)(P:qj Pd)(X:Sx)(b:Str)(_:vs=[.ref st,.str b])(_:Sto K a H st C P X)(_:nmS b=true)(_:EN a P b H E)(_:(∀r,r∈P->r.nm=b->∀Y q cx H',Sto K a H' st C P Y->Gx X H H' Y->H q=none->Kf H' Y q (.lst (refs cx ↑r.path))->(∀i,i<↑r.path->cx i≠q/\H (cx i)=none/\Kf H' Y (cx i) (.lst ↥(txi r.path i)))->Q ⇑q H')),ybu
def vbh:(Df.e P w mg Γ) T.Lt 14 (ybu K a):=by exists Lt,d,["self","name"];let#[q,C,P,X,b,J,g,x,u,L]:=h;let#[O,S,vm,Z,U,k]:=g.ins;exists 2,0,yc (yn (yu (pv 0) T.A1 T.Fx.m (yqk T) d.m T.Fx.B .nil yo (pa1 (z0 (yu (pv 0) T.A1 T.Ba.m (ţ T) d.m T.Ba.B .nil yo (pav 1)) J))));erw[q,C,P,X,b,J,g,x,u,λr d e N W M R f z I=>?_];let t:=f _ _ k;ext;erw[q,C,P,X,r.bs,r.path,J,g.same f,g.to r d,λY l D ς v g2 j n c=>?_,<-L r d e Y l D ς v (g2.ahead f) (f.free j) n λi p=>#[(c i p).1,f.free (c i p).2.1,(c i p).2.2]]
def vcf(x:Υ)(b:Str):vj8 (baV x) (.str b)=true/\decide (baV x=.str b)=decide (x=some b):=by
 cases x with
 |none=>erw[J,by rw[cj (λz=>nomatch z),cj (λz=>nomatch z)]]
 |some y =>
  erw[J,?_];by_cases e:y=b
  .rw[bV (by rw[e];rfl),bV (by rw[e])]
  .rw[cj (λz=>e (by cases z;rfl)),cj (λz=>e (by cases z;rfl))]
def yi9(Q:qj Pc)(b:Str):(Q.filter λq=>decide (q.nm≠b)).map Pc.pd=(Q.map Pc.pd).filter λq=>decide (q.nm≠b):=by rw[List.filter_map];rfl
#synth ∀(K:xy)(a:Ads),∀(st:qa)(C:Cf)(P:qj Pd)(X:Sx)(b:Str)(_:vs=[.ref st,.str b])(_:Sto K a H st C P X)(_:(∃r,r∈P/\r.nm=b))(_:(∀q,q∈P->q.bs≠some b))(_:∀Y H',Sto K a H' st C (P.filter λq=>decide (q.nm≠b)) Y->Gx X H H' Y->Q .non H'),yu2
def vbu:(Df.e P w mg Γ) T.Lu 10 (yu2 K a):=by
 exists Lu,hr,["self","name"];let#[Z,#[n,kd,ps,mo,w],P0,X,b,J,t,#[r0,W,e0],a4,k4]:=h;let hb:=(t.nm r0 W).1;rw[e0]at hb;let#[ds,ll,d,c,dc,p,cl,ct,lk,tp,P,L,ks,U,s,J,J]:=id t;have hS:Ð K a H Z ds ll d c dc p cl ct lk tp n kd ps mo w P L ks U:=s;let ad:=hS.me;exists 2,0,yf (yv (yu (pv 0) T.A1 T.Ba.m (ţ T) hr.m T.Ba.B .nil yo (pav 1))) (yf (vz (u6 (pcB (ynd J) T.V1 (pa1 (yuy (vx (js:=[1]) (ys:=["name"]) J (yw7 pfs) (λC s2 H2 fp=>(zg xo (yez (K:=K) J (pv 0) J) (pv 1) (yy _))) J J (hyc:=(all_cons J yw)) (hrel:=(all_cons J yw))))))) (yc (wn J T.Mw T.My (pa1 yz))) yx) (yf (yv (yne pfs (pv 1) #[J,J,J,J])) (yc (y8 (pv 0) (uu T.Cq (ycx T) hr.m J T.Cp T.Ec.B .nil yo (pa1 pfs)) J))));erw[Z,_,_,_,b,J,t,hb,(λno=>absurd e0 (no r0 W)),λr hr e F F F H1 S1 F F=>?_];let#[r,a5,J]:=bW.mp hr;obtain rfl:r.nm=b:=e;let g:=hS.same S1;let aa:=g.me;ext;let j:=g.pz.dk;erw[d,pcs P,J,j,λo D hD=>?_];have R:↑(pcs P)=↑P:=bL _;let af:=g.pz.z;have a3:D≠d:=λz=>by rw[z,ya]at hD;cases hD
 erw[yhk (λi G=>G D\((P.take i).map λq=>V.bl (decide (q.bs=some r.nm)))/\y7 (upd H1 d (.frz o (.dK (pcs P)))) G) #[ya,y9 hD] (λi G F z=>z.2 _ _ ya) (λi kk v G x hi z=>?_) (λG z=>?_)]
 .let#[gD,S]:=z;rw[R]at hi;have ς:P[i]?=some P[i]:=bP hi;unfold pcs at x;rw[bU,ς]at x;obtain rfl:v=.ref (P[i]).ob:=by cases x;rfl
  let l:=(g.pz.ob _ (cE hi)).1;let ac:=S _ _ (ye (λz=>by rw[z,j]at l;cases l) l);ext;let#[b1,b2]:=vcf (P[i]).bs r.nm;erw[b1,?_];rwa[b2,xk (n:=↑(pcs P)) gD (vi (by rw[bL,cz];omega)) () #[?_,λy o e=>ye (yb e hD) (S _ _ e)]];rw[ya,cH hi,ce];rfl
 .let#[gD,S]:=z;rw[R,cX]at gD;exists d,o,.dK (pcs P),(λo u e=>by rw[j]at e;cases e),S _ _ ya,?_
  have S3:y7 H1 (upd G d (.dK (pcs P))):=λy o' e=>by
   by_cases z:y=d
   .rw[z,ya];rw[z,j]at e;erw[e]
   .erw[ye z (S _ _ (ye z e))]
  have O:(upd G d (.dK (pcs P))) D\((P.map λq=>decide (q.bs=some r.nm)).map V.bl):=ye a3 (by rw[gD,cM];rfl);generalize upd G d (.dK (pcs P))=H3 at S3 O⊢;let f:=g.same S3;let a9:=f.me;ext;erw[D,_,J,SqL.of O,?_];have N:∀q,q∈P->q.bs≠some r.nm:=λq ς=>a4 q.pd (ymu ς)
  have e:(P.map λq=>decide (q.bs=some r.nm)).any id=false:=by
   rw[List.any_map,List.any_eq_false];intro q ς;simpa using N q ς
  rwa[e,#[false,J,υ ?_]];ext;erw[d,J,.inl #[_,.of f.pz.dk],?_,←pcs P,.inr r.nm,_,f.pz.dk,J,yl4 f.pz.nd a5,?_];let I:=f.b.drop N
  have gA:Go (λy=>y=d\/StO Z c cl ct U y) H3 (upd H3 d (.dK (Č (pcs P) (.inr r.nm)))) (λy=>y=d\/StO Z c cl ct U y):=#[λy o e no=>ye (λz=>no (.inl z)) e,λy z=>.inl z,λy o e=>by
   by_cases z:y=d
   .erw[_,by rwa[z,ya]]
   .erw[o,ye z e]]
  generalize upd H3 d (.dK (Č (pcs P) (.inr r.nm)))=H4 at I gA⊢;let a0:=I.me;ext;intro c' k nc M ae;have SQ:y7 H4 (upd (upd H4 k (.own c')) c' (.ins a.A2 k [])):=λb o e=>by rwa[yk (yb e nc),yk (yb e M),e]
  erw[c',k,ll,n,lk,tp,kd,ps,J,ya,SQ _ _ I.lo,I.n1,I.n6,I.row.same SQ,λp' a6 a2 U' HE a7 a1 BE F=>#[J,?_]];let#[hR,gR,SE,hN]:=I.re nc M a7 a1 BE;let ab:=SE _ _ a0;ext;erw[k4 _ _ #[ds,ll,d,c',k,p',a6,a2,lk,tp,_,_,[],U',hR,yi9 _ _,J] (Gx.of ((gA.ahead (S1.trans S3)).trans ((gR.or (Y:=λy=>y=d)).wide λy z=>z.imp id .inl)) NK.nil λq ς=>.inl (List.mem_filter.mp ς).1)]
def Sto.chainto{H:Hp}{C:Cf}{P:qj Pd}{X:Sx}{Q:VK}{E:XK}(h:Sto K a H st C P X){x:Υ}(hL:ToD P x L)
  (k:∀c dc p cl ct ks M W Y H',Sto K a H' st C P Y->Gx X H H' Y->Ü K a H' c dc p cl ct C.n C.kd C.ps L ks M W->M<=660000->Q ⇑c H'):ŗ K a [.ref st,baV x] H Q E:=by let#[z,o,d,c,dc,p,cl,ct,m,v,D,G,ks,U,s,J,J]:=h;let t:=Ô.mp hL;erw[st,z,o,d,c,dc,p,cl,ct,m,v,C.n,C.kd,C.ps,C.mo,C.w,D,G,ks,U,x,L,J,s,t,λu b r i e f j H' l g F Z=>k u b r i e f _ j _ H' #[z,o,d,u,b,r,i,e,m,v,_,_,f,j,l,J,J] (Gx.of (g.or (Y:=λy=>y=d)) F λq A=>.inl A) l.ch ?_,<-ygh (w:=C.w) (λy B=>(t.sz s.pz y B).2) s.wm.2 (To.len s.pz t)]
def szD(C:Cf)(ts:Ο)(q:Pd):Nat:=↑(jb C.n C.kd C.ps (δ ((q.path++[(q.nm,q.tx)]).map (·.2))) ts)
noncomputable def bsF(f:Pd->Nat):qj Pd->ql Str->Nat->ql Str
 |[],b,_=>b
 |q::P,b,m=>if f q<m then bsF f P (some q.nm) (f q)else bsF f P b m
def ye3(C:Cf)(P:qj Pd)(ts:Ο):Υ:=bsF (szD C ts) P none ↑(jb C.n C.kd C.ps [] ts)
#synth ∀(K:xy)(a:Ads),∀(st:qa)(C:Cf)(P:qj Pd)(X:Sx)(tx:qa)(ts:Ο)(_:vs=[.ref st,.ref tx])(_:Sto K a H st C P X)(_:ă H tx ts C.mo)(_:∀Y H',Sto K a H' st C P Y->Gx X H H' Y->Q (baV (ye3 C P ts)) H'),yvi
def vdq:(Df.e P w mg Γ) T.Lv 13 (yvi K a):=by
 exists Lv,I,["self","text","signs","best","fewest","name","size"];let#[st,C,P,X,tx,f,J,hS,j,k]:=h;let al:=j.z;let an:=hS.cf;let ad:=hS.z;erw[yh (pst 2 ϰ (uk (ymx T) I.m T.I7 yo (pav 1))) ?_,<-yh (yv (yu (pv 0) T.A1 T.Fu.m (yr6 T) I.m T.Fu.B .nil yo (pav 2))) ?_,<-yh (pst 3 ϰ u9) ?_,<-yh (pst 4 ϰ (wv (yu (pv 0) T.A1 T.Bu.m (ycr T) I.m T.Bu.B .nil yo (pa1 u9)) T.Ah T.Fq.m (yti T) I.m T.Fq.B .nil vo (pav 2))) ?_,<-yh (PS.nox (uy PassesOwn.never J (we (vj (pv 0) T.A1 T.Bt.m (ycs T) I.m T.Bt.B .nil vo)) (wd (i:=5) ϰ J (Or.inl J)) (yf (pst 6 ϰ (wv (yu (pv 0) T.A1 T.Bu.m (ycr T) I.m T.Bu.B .nil ve (pav 5)) T.Ah T.Fq.m (yti T) I.m T.Fq.B .nil vo (pav 2))) (yc (vz (yq ybh (pv 6) (pv 4) (yy _)) (yf (pst 3 ϰ (pv 5)) (yc (pst 4 ϰ (pv 6)))) yx))))) ?_];exists 2,5,yc (yn (pv 3));erw[.ref tx,_,J,.lst j.l,.inr #[↥f,Ę j.l j.s (by have:=j.z;omega),λN H1 R v S1=>?_]];let D:=hS.same S1
 obtain⟨ds,vl,vp,vc,S⟩:∃ds vl vp vc,H1 st∩a.A0 ds (wo vl (C.mo:) vp vc):=by
  let#[ds,ll,d,c,dc,p,cl,ct,lk,tp,Qs,L0,ks,U,s,_,_]:=D;erw[_,_,_,_,s.me]
 have a2:Kf H1 X N (.lst ↥f):=Kf.new hS R v;ext;erw[st,ds,N,_,_,_,C.mo,_,J,S,v,by rw[bL];omega,?_]
 ext;erw[D.chainto (x:=none) (L:=[]) J λc dc p cl ct ks M W Y H2 G g2 r hM=>?_];let e:=a2.go D g2;let a7:=r.me;ext;erw[c,dc,p,cl,ct,_,_,_,_,ks,M,W,N,f,J,r,#[e.1,j.s,()],(),λH3 t=>?_]
 let n:=G.same t;let a1:=e.same t;let g3:=(g2.same t).ahead S1;let#[ac,aj,ah,ai,af,aa]:=n.ins;ext;erw[n.names λl H4 a3 a0 S4=>?_];have a6:Kf H4 Y l (.lst (P.map λq=>V.str q.nm)):=Kf.new n a3 a0;erw[l,J,#[_,SqL.of a0],xw (K:=K) (a:=l) (xs:=P.map λq=>V.str q.nm) (λi σ2 F=>∃(b:Υ)(m:Nat)(v5 v6:Χ)(Z:Sx),σ2=[some ⇑st,some ⇑tx,some ⇑N,some (baV b),some ((m:Nat):),v5,v6]/\Sto K a F st C P Z/\Gx X H F Z/\Kf F Z N (.lst ↥f)/\Kf F Z l (.lst (P.map λq=>V.str q.nm))/\bsF (szD C f) (P.drop i) b m=ye3 C P f) ?_ ?_ ?_ ?_]
 .erw[none,_,none,none,Y,J,n.same S4,g3.same S4,a1.same S4,a6,rfl]
 .rintro i σ2 F _ ⟨b,m,v5,v6,Z,rfl,y,g,ς,u,o⟩;erw[SqL.of u.1]
 .rintro i z σ2 F hz ⟨b,m,v5,v6,Z,rfl,y,g,ς,u,o⟩;rw[bU]at hz;let#[q,hq,J]:=dI.mp hz;have a8:i<↑P:=(bY.mp hq).1;let a4:=ck hq;rw[df a8,(bY.mp hq).2]at o;let#[am,ak,ae,ao,ab,a9]:=y.ins;ext;erw[y.chainto (x:=some q.nm) (L:=q.path++[(q.nm,q.tx)]) #[q,a4,J,J] λc dc p cl ct ks M W Y2 F2 G g2 r hM=>?_];let e:=ς.go y g2;let O:=u.go y g2;let a7:=r.me;ext;exists c,dc,p,cl,ct,_,_,_,_,ks,M,W,N,f,J,r,#[e.1,j.s,()],(),λF3 t=>?_
  let n:=G.same t;let g3:=(g.trans g2).same t;ext;have o:(if szD C f q<m then bsF (szD C f) (P.drop (i+1)) (some q.nm) (szD C f q)else bsF (szD C f) (P.drop (i+1)) b m)=ye3 C P f:=o;by_cases hlt:szD C f q<m
  .rw[if_pos hlt]at o;erw[z9 (λB=>?_) (λz=>absurd (show ((szD C f q:Nat):Int)<(m:Int) by omega) z),←some q.nm,szD C f q,_,_,Y2,J,n,g3,e.same t,O.same t,o]
  .rw[if_neg hlt]at o;erw[z9 (λz=>absurd (show ((szD C f q:Nat):Int)<(m:Int)from z) ()) (λB=>?_),<-b,m,_,_,Y2,J,n,g3,e.same t,O.same t,o]
 .rintro σ2 F ⟨b,m,v5,v6,Z,rfl,y,g,ς,u,o⟩;rw[bL,List.drop_length]at o;ext;rwa[show b=ye3 C P f from o,k Z F y g]
def lkB(k:Fin 3)(p:Ο):Ο:=((k.val:Nat):Int)::((↑p:Nat):Int)::p
def yzj(k:Fin 3):(kdS 0=kdS k/\k.val=0)\/(kdS 0≠kdS k/\kdS 1=kdS k/\k.val=1)\/(kdS 0≠kdS k/\kdS 1≠kdS k/\kdS 2=kdS k/\k.val=2):=by revert k;decide
#synth ∀(v:V)(kd:Fin 3)(tp:qa)(ps:Ο)(_:vs=[v])(_:LkG H v kd tp ps)(_:∀l H',H l=none->H' l\↥(lkB kd ps)->y7 H H'->Q ⇑l H'),ypm
def vbj:(Df.v P w mg Γ) T.T0 1 ypm:=by
 exists T0,["look"],r;let#[v,d,g,i,J,#[q,J,e,l,p],k]:=h;let o:=jp p;rw[bL]at o;exists 1,0,yc (yn (ym ŧ (wk (pac (zb PySem.F.plainAttrs_tuple PySem.F.slot_tuple_index PySem.F.type_tuple_index yjx (uv J T.F0) (pa1 (pix γ (pv 0) yg))) (pa1 (pcB yp T.A9 (pa1 (pix γ (pv 0) yg)))))) (pcT ww T.An (pa1 (pix γ (pv 0) yg)))));erw[.inr (.inl #[J,T.wy_KINDS]),?_,←yc7 (SqT.of e) (wb (j:=0) J) ?_,←kdS 0,kdS 1,kdS 2,kdS d,a.Be,d.val,J,J,T.w_KINDS H,yzj d,?_,←yc7 (SqT.of e) (wb (j:=1) J) ?_,←g,_,J,.inr (SqT.of l),?_];rw[bL];ext;exists (by walk_at "len"),λu hu0=>?_
 exists hu0,H1,S1,hu1;ext;erw[yc7 (SqT.of (S1 _ _ e)) (wb (j:=1) J) ?_,←g,_,J,.inr (SqT.of (S1 _ _ l)),λw hw0=>?_];exists hw0,H2,S2,hw2;ext;erw[u,w,_,_,J,J,S2 _ _ hu1,hw2,vw (by rw[bL];show 2+↑i<=_;omega),λc b=>?_,<-k c _ (S1.free (S2.free b)) ya (S1.trans (S2.trans (y9 b)))]
def lix(c:Nat):Nat:=(PySem.Builtin.Str.occurrences smS ⟨#[c]⟩ 0 26 1).headD 0
def ywu:∀i:Fin 26,PySem.Builtin.Str.occurrences smS ⟨#[97+i.val]⟩ 0 26 1=[i.val]:=(by right)
def yto{c:Nat}(h1:97<=c)(h2:c<=122):lix c=c-97:=by have e:=ywu #[c-97,()];unfold lix;rw[show 97+(#[c-97,()]:Fin 26).val=c by show 97+(c-97)=c;omega]at e;rw[e];rfl
def yuz{x:Str}(h:nmS x=true){i c:Nat}(hc:x.cps[i]?=some c):∃xj,PySem.Builtin.Str.occurrences smS ⟨#[c]⟩ 0 ↑smS 1=lix c::xj:=by
 unfold nmS at h;simp only[cB,List.all_eq_true]at h;let a:=h.2.2 c (ck (by rwa[Array.getElem?_toList,hc]));unfold yif at a;have a:(!(PySem.Builtin.Str.occurrences smS ⟨#[c]⟩ 0 26 1).isEmpty)=true:=a;show ∃xj,PySem.Builtin.Str.occurrences smS ⟨#[c]⟩ 0 26 1=_;unfold lix
 cases e:PySem.Builtin.Str.occurrences smS ⟨#[c]⟩ 0 26 1 with
 |nil=>rw[e]at a;cases a
 |cons i r=>erw[r,rfl]
def nmB(x:Str):Ο:=((↑x:Nat):Int)::x.cps.toList.map λc=>((lix c:Nat):Int)
def yuf(x:Str):(List.range x.cps.size).map (λi=>V.int ((lix (x.cps.toList.getD i 0):Nat):Int))=↥(x.cps.toList.map λc=>((lix c:Nat):Int)):=by
 erw[List.ext_getElem? λi=>?_];rw[bU,bU,bU];rcases Nat.lt_or_ge i x.cps.size with z|z
 .rw[dh z,bP (by simpa using z)];show some (V.int ((lix (x.cps.toList.getD i 0):Nat):Int))=_;rw[cL,bP (by simpa using z)];rfl
 .rw[cQ (by rwa[cS,z]),cQ (by simpa using z)];rfl
#synth ∀(x:Str)(_:vs=[.str x])(_:nmS x=true)(_:∀l H',H l=none->H' l\↥(nmB x)->y7 H H'->Q ⇑l H'),ypb
def yzl:(Df.v P w mg Γ) T.Ta 1 ypb:=by
 exists Ta,["name"],z;let#[x,J,l,k]:=h;let p:=xl l;have t:x.cps.size=↑x:=rfl;exists 1,0,yc (yn (ym ŧ (wk (pa1 (pcB u8 T.A9 (pav 0)))) (vx (js:=[]) (ys:=[]) J (ygw (pv 0)) (λC y v B=>(yrd (K:=K) (r:=(yeb)) J PySem.F.plainAttrs_str PySem.F.slot_str_index PySem.F.type_str_index ych (zv J T.D9) (pav 0))) J J (hyc:=yw) (hrel:=yw))));erw[x,J,cN p ∅,?_];ext;exists (by walk_at "len"),λu hu0=>?_
 exists hu0,H1,S1,hu1;ext;erw[x,J,λD g=>?_,<-ß (λi=>.int ((lix (x.cps.toList.getD i 0):Nat):Int)) g (λi c G j q S e=>?_) (λG S e=>?_)]
 .let#[xj,n]:=yuz l j;ext;erw[J,?_,←smS,_,lix c,xj,J,J,n,?_,<-Mp.doneR g (vi ()) q S e ?_];show V.int _=V.int _;rw[cL,Array.getElem?_toList,j];rfl
 .ext;let b:=S1.trans S;rw[yuf]at e;erw[u,D,_,_,J,J,S _ _ hu1,e,vw (by rw[bL,bL];show 1+x.cps.size<=_;omega),λc d=>?_,<-k c _ (b.free d) ya (b.trans (y9 d))]
noncomputable def bsN(P:qj Pd):ql Str->Int
 |none=>0
 |some b=>(((P.map (·.nm)).idxOf b:Nat):Int)+1
def yk6{ns:Ρ}{b:Str}(h:b∈ns):vkp ns b (ns.idxOf b):=by
 have a:ns.idxOf b<↑ns:=List.idxOf_lt_length_iff.mpr h;erw[?_,λm c e=>?_]
 .rw[bP a,List.getElem_idxOf a]
 .let#[f,d]:=bY.mp e;have:=List.not_of_lt_findIdx (p:=(· == b)) (xs:=ns) (i:=m) c;rw[d]at this;simp at this
#synth ∀(K:xy)(a:Ads),∀(st:qa)(C:Cf)(P:qj Pd)(X:Sx)(q:Pd)(_:vs=[.ref st,.str q.nm])(_:Sto K a H st C P X)(_:q∈P)(_:∀l H',H l=none->H' l\[V.int (bsN P q.bs)]->y7 H H'->Q ⇑l H'),ynr
def ywo:(Df.v P w mg Γ) T.Lx 5 (ynr K a):=by
 exists Lx,["store","name","base"],n;let#[ς,C,P,X,q,J,g,v,k]:=h;let#[W,Z,vm,vp,vc,t]:=g.ins;let p:=g.nm q v;exists 2,1,yf (pst 2 ϰ (yu (pv 0) T.A1 T.G6.m (ytn T) n.m T.G6.B .nil ve (pav 1))) (yc (yn (wk (pa1 (j4 (yq ycq (pv 2) u9 (yy _)) yg (ym v9 (zb PySem.F.plainAttrs_list PySem.F.slot_list_index PySem.F.type_list_index yiy (vj (pv 0) T.A1 T.Bt.m (ycs T) n.m T.Bt.B .nil vo) (pav 2)) yg))))));erw[ς,C,P,X,_,J,g,p.1,(λO=>absurd J (O q v)),λr n e Y o=>?_];obtain rfl:=Ċ g.nd n v e;let y:=g.same o;let I:=o _ _ t
 cases hb:r.bs with
 |none =>
  ext;erw[z9 (λF=>?_) (λz=>absurd J z)];ext;exists (by walk_at "len"),λl c=>?_
  erw[k l _ (o.free c) ?_ (o.trans (y9 c))];rwa[hb,ya]
 |some b =>
  let i:=g.to r n;rw[hb]at i;let#[u,R,U,_]:=i;ext
  erw[z9 (λz=>nomatch z) (λF=>?_)]
  ext;erw[y.names λD S G d M=>?_];have f:S D\((P.map (·.nm)).map V.str):=by rw[d,cM];rfl
  erw[jn d ?_,←D,_,b,_,J,J,SqL.of f,yk6 (bW.mpr #[u,R,U]),?_];ext;exists (by walk_at "len"),λl c=>?_
  let j:=o.trans M;erw[k l _ (j.free c) ?_ (j.trans (y9 c))];rwa[hb,ya]
def pdB(C:Cf)(P:qj Pd)(q:Pd):Ο:=nmB q.nm++[bsN P q.bs]++q.by C
def lkF(C:Cf)(i:Nat):Ο:=((List.range i).map λj=>lkB (C.kd j) (C.ps j)).flatten
def ĕ(C:Cf)(i:Nat):lkF C (i+1)=lkF C i++lkB (C.kd i) (C.ps i):=by unfold lkF;rw[List.range_succ,ce,List.flatten_append,List.map_singleton,List.flatten_singleton]
def hdB(C:Cf):Ο:=((C.n:Nat):Int)::lkF C C.n++[((C.mo:Nat):Int)/256,((C.mo:Nat):Int)%256]
def shB(C:Cf)(P:qj Pd):Ο:=hdB C++((↑P:Nat):Int)::(P.map (pdB C P)).flatten
theorem xz.lkl{H:Hp}{C:Cf}{lk:Λ}(h:xz H C.n lk C.kd tp C.ps):∀i,i<=C.n->↑(lkF C i)<=i*6
 |0,_=>bT _
 |i+1,hi=>by
  let#[_,_,_,_,b]:=h i ();let a:=jp b;rw[bL]at a;rw[ĕ,bQ];have:=h.lkl i ();show ↑(lkF C i)+(↑(C.ps i)+1+1)<=_;omega
end
section
variable{H:Hp}{C:Cf}{P:qj Pd}{X:Sx}
def Sto.pdl(h:Sto K a H st C P X){q:Pd}(hq:q∈P):↑(pdB C P q)<=5520:=by have d:=xl (h.nm q hq).1;let e:=h.sz q hq;let b:=h.cf;let c:=Ė (n:=C.n) (kd:=C.kd) (ps:=C.ps) (pre:=δ (q.path.map (·.2))) (ts:=q.tx) b.1 b.2.1 (uq _) ();have c:↑(q.by C)<=5500:=c;have b:↑q.nm.cps.toList=↑q.nm:=rfl;unfold pdB nmB;rw[bQ,bQ,cn,bL,b];show _+1+1+_<=_;omega
theorem Sto.pls(h:Sto K a H st C P X):∀i,i<=↑P->↑(((P.take i).map (pdB C P)).flatten)<=i*5520
 |0,_=>bT _
 |i+1,hi=>by
  have b:i<↑P:=()
  rw[cH b,ce,List.flatten_append,bQ];let d:=h.pls i ();let c:=h.pdl (cE b);rw[List.map_singleton,List.flatten_singleton];omega
end
mutual
def yfq(C:Cf){P:qj Pd}{i:Nat}{q:Pd}(h:P[i]?=some q):((P.take (i+1)).map (pdB C P)).flatten=((P.take i).map (pdB C P)).flatten++pdB C P q:=by rw[cH (bY.mp h).1,(bY.mp h).2,ce,List.flatten_append,List.map_singleton,List.flatten_singleton]
def wr2{m:Nat}(h:m<=1000):wr 2 (m:Int)=[(m:Int)/256,(m:Int)%256]:=by show [(m:Int)/256%256,(m:Int)%256]=_;rw[Int.emod_eq_of_lt (a:=(m:Int)/256) () ()]
#synth ∀(K:xy)(a:Ads),∀(st:qa)(C:Cf)(P:qj Pd)(X:Sx)(_:vs=[.ref st])(_:Sto K a H st C P X)(_:∀l H',H l=none->H' l\↥(shB C P)->y7 H H'->Q ⇑l H'),yop
def yvb:(Df.v P w mg Γ) T.Ly 6 (yop K a):=by
 exists Ly,["store","looks","names","shelf","look","name"],x;let#[st,C,P,X,J,O,k]:=h;let#[ds,vl,vm,vp,vc,ac]:=O.ins;let#[c1,c6,cm,cw,c2]:=O.cf;let aw:=O.z;erw[yh (pst 1 ϰ (vj (pv 0) T.A1 T.Ft.m (ysa T) x.m T.Ft.B .nil vo)) ?_,<-yh (pst 2 ϰ (vj (pv 0) T.A1 T.Bt.m (ycs T) x.m T.Bt.B .nil vo)) ?_,<-yh (pst 3 ϰ (wk (pa1 (pcB yp T.A9 (pav 1))))) ?_,<-yh (uy PassesOwn.never J (we (pv 1)) (wd (i:=4) ϰ J (Or.inl J)) (yc (yv (zb PySem.F.plainAttrs_list PySem.F.slot_list_extend PySem.F.type_list_extend á (pv 3) (pa1 (x0 (vbj T) x.m T.T0 (pav 4))))))) ?_,<-yh (yv (zb PySem.F.plainAttrs_list PySem.F.slot_list_extend PySem.F.type_list_extend á (pv 3) (pa1 (x0 (yso T) x.m T.Kz (pac (vj (pv 0) T.A1 T.Lr.m (vai T) x.m T.Lr.B .nil vo) (pa1 yg)))))) ?_,<-yh (yv ((zb PySem.F.plainAttrs_list PySem.F.slot_list_append PySem.F.type_list_append wz) (pv 3) (pa1 (pcB yp T.A9 (pav 2))))) ?_,<-yh (uy PassesOwn.never J (we (pv 2)) (wd (i:=5) ϰ J (Or.inl J)) (yc (yv (zb PySem.F.plainAttrs_list PySem.F.slot_list_extend PySem.F.type_list_extend á (pv 3) (pa1 (ym ŧ (ym ŧ (x0 (yzl T) x.m T.Ta (pav 5)) (x0 (ywo T) x.m T.Lx (pac (pv 0) (pav 5)))) (yu (pv 0) T.A1 T.G0.m (yqz T) x.m T.G0.B .nil ve (pav 5)))))))) ?_];exists 1,5,yc (yn (pv 3));erw[O.tlooks λlo lk tp H1 am ς hR R=>?_];let Z:=R _ _ ac;ext;erw[(O.same R).names λnm H2 U g M=>?_];let j:=M _ _ ς;ext;erw[uz (SqL.of j) ?_];rw[vv];ext;exists (by walk_at "len"),λd hsh0=>?_
 exists hsh0,H3,S3,hsh3;let aA:=R.trans (M.trans S3);have a0:H d=none:=R.free (M.free hsh0);let a4:=S3 _ _ j;let a9:=S3 _ _ g;let ab:=(hR.same M).same S3;have a6:H3 d\↥(((C.n:Nat):Int)::lkF C 0):=hsh3;let N:=hR.same M;let v:=O.same (R.trans M);clear hR hsh3 a9 a4 ab ς U Z;let a8:=N.lkl;ext;erw[lo,J,#[_,SqL.of (S3 _ _ j)],xw (K:=K) (a:=lo) (xs:=refs lk C.n) (λi σ2 G=>∃v4:Χ,σ2=[some ⇑st,some ⇑lo,some ⇑nm,some ⇑d,v4,none]/\y7 H2 G/\G d\↥(((C.n:Nat):Int)::lkF C i))
  #[none,J,S3,a6] (λi σ2 G F ⟨_,_,f,_⟩=>SqL.of (f _ _ j)) ?_ ?_]
 .rintro i y σ2 G hy ⟨v4,rfl,f,c⟩;let#[J,hi]:=u7 hy;let ag:=a8 i ();let#[_,_,_,_,h3]:=N i hi;let h4:=jp h3;rw[bL]at h4;ext;erw[jn c ?_,←.ref (lk i),C.kd i,tp i,C.ps i,J,(N i hi).same f,λl G2 ao ad T2=>?_,<-d,l,_,_,J,J,T2 _ _ c,ad,vw (by rw[bL,bL];show ↑(lkF C i)+1+(↑(C.ps i)+1+1)<=_;omega),?_,←_,J,λb o e=>ye (yb e hsh0) (T2 _ _ (f _ _ e)),?_];rw[ya,ĕ,<- ce];rfl
 rintro σ2 G ⟨v4,rfl,f,c⟩;rw[vv]at c;let ag:=a8 C.n (bT _);let t:=v.same f;let#[ar,aC,aq,au,ax,a5]:=t.ins;clear a6;ext;erw[jn c ?_,←t.tmost ?_,←_,2,J,∅,λw G2 af L T2=>?_]
 rw[wr2 cm]at L;erw[d,w,_,_,J,J,T2 _ _ c,L,vw (by rw[bL];show ↑(lkF C C.n)+1+2<=_;omega),?_];rw[<- ce];have S4:y7 H2 (upd G2 d (.lst ↥(((C.n:Nat):Int)::lkF C C.n++[((C.mo:Nat):Int)/256,((C.mo:Nat):Int)%256]))):=λb o e=>ye (yb e hsh0) (T2 _ _ (f _ _ e));have p:upd G2 d (.lst ↥(((C.n:Nat):Int)::lkF C C.n++[((C.mo:Nat):Int)/256,((C.mo:Nat):Int)%256])) d\↥(hdB C):=ya;generalize upd G2 d (.lst ↥(((C.n:Nat):Int)::lkF C C.n++[((C.mo:Nat):Int)/256,((C.mo:Nat):Int)%256]))=H4 at S4 p⊢;clear c t a5 af L T2 f;have an:↑(hdB C)<=40:=by unfold hdB;rw[bQ,cn];show _+1+2<=40;omega
 ext;erw[jn p ?_,←uz (SqL.of (S4 _ _ g)) ?_];rw[bL];ext;erw[xr p (vi (by rw[bL];omega)) ?_];have S5:y7 H2 (upd H4 d (.lst (↥(hdB C)++[V.int ((↑P:Nat):Int)]))):=λb o e=>ye (yb e hsh0) (S4 _ _ e)
 have I:upd H4 d (.lst (↥(hdB C)++[V.int ((↑P:Nat):Int)])) d\↥(hdB C++((↑P:Nat):Int)::((P.take 0).map (pdB C P)).flatten):=by
  rw[ya,ce];rfl
 generalize upd H4 d (.lst (↥(hdB C)++[V.int ((↑P:Nat):Int)]))=H5 at S5 I⊢;clear p S4;have ae:∀q,q∈P->↑(pdB C P q)<=5520:=λq=>v.pdl;let aa:=v.pls;ext;erw[nm,J,#[_,SqL.of (S5 _ _ g)],xw (K:=K) (a:=nm) (xs:=P.map λq=>V.str q.nm) (λi σ2 G=>∃v5:Χ,σ2=[some ⇑st,some ⇑lo,some ⇑nm,some ⇑d,v4,v5]/\y7 H2 G/\G d\↥(hdB C++((↑P:Nat):Int)::((P.take i).map (pdB C P)).flatten))
  #[none,J,S5,I] (λi σ2 G F ⟨_,_,f,_⟩=>SqL.of (f _ _ g)) ?_ ?_]
 .rintro i y σ2 G hy ⟨v5,rfl,f,c⟩;rw[bU]at hy;let#[q,hq,J]:=dI.mp hy;have aE:i<↑P:=(bY.mp hq).1;have aD:P[i]=q:=(bY.mp hq).2;let u:=ck hq;let a7:=v.nm q u;let av:=aa i ();let D:=ae q u;let t:=v.same f;ext;erw[jn c ?_,←q.nm,J,a7.1,λb1 G1 al S T1=>?_,←st,C,P,X,q,J,t.same T1,u,λb2 G2 aj a1 T2=>?_,←b1,b2,_,_,J,J,T2 _ _ S,a1,vw (by rw[bL];unfold pdB at D;rw[bQ,bQ]at D;show _+1<=_;omega),λb3 hb30=>?_];exists hb30,G3,T3,hb33;let Y:=T1.trans (T2.trans T3);let W:=t.same Y;let#[as,aF,az,aB,ap,ak]:=W.ins;ext;erw[st,C,P,X,_,J,W,a7.1,(λno=>absurd J (no q u)),λr x er b4 G4 ai a3 T4=>?_];obtain rfl:=Ċ O.nd x u er;ext;erw[b3,b4,_,_,J,J,T4 _ _ hb33,a3,vw (by rw[bQ,bL,bL];unfold pdB at D;rw[bQ,bQ]at D;show _+1+_<=_;omega),λb5 hb50=>?_];exists hb50,G5,T5,hb55;let a2:=Y.trans (T4.trans T5)
  have hb55:G5 b5\↥(pdB C P r):=by
   rw[hb55];unfold pdB;rw[ce,ce];rfl
  erw[d,b5,_,_,J,J,a2 _ _ c,hb55,vw (by rw[bL,bL,bQ,cn];omega),?_,←_,J,λb o e=>ye (yb e hsh0) (a2 _ _ (f _ _ e)),?_];rw[ya,yfq C hq,<- ce,cq];rfl
 .rintro σ2 G ⟨v5,rfl,f,c⟩;rw[bL,cX]at c;ext;erw[k d G a0 c (R.trans (M.trans f))]
structure RdR(a:Ads)(H:Hp)(r dr dl:qa)(d:Ο)(j:Nat):Prop where
 me:H r∩a.A4 dr (jd ⇑dl (((j:Nat):Int):))
 dl:H dl\↥d
def RdR.same{H H':Hp}{r dr dl:qa}{d:Ο}(h:RdR a H r dr dl d j)(S:y7 H H'):RdR a H' r dr dl d j:=#[S _ _ h.me,S _ _ h.dl]
#synth ∀(a:Ads),∀(r dr dl:qa)(d:Ο)(_:vs=[.ref r,.ref dl])(_:H r∩a.A4 dr [])(_:H dl\↥d)(_:∀H',RdR a H' r dr dl d 0->But r H H'->Q .non H'),yi4
def yu8:(Df.v P w mg Γ) T.Lz 1 (yi4 a):=by
 exists Lz,["self","data"],m;let#[r,f,b,d,J,j,c,k]:=h;have g:b≠r:=λz=>by rw[z,j]at c;cases c
 exists 2,0,yf (y8 (pv 0) (pv 1) J) (yc (y8 (pv 0) yg J));have n:upd H r (.ins a.A4 f [("data",.ref b)]) r∩a.A4 f [("data",.ref b)]:=ya;ext;erw[k _ #[ya,ye g (ye g c)] (But.upd.trans But.upd)]
def But.non{r t:qa}{H H':Hp}{o:HO}(b:But r H H')(hr:H' r=some o)(h:H' t=none):H t=none:=by
 cases e:H t with
 |none=>rfl
 |some o' =>
  by_cases z:t=r
  .rw[z,hr]at h;cases h
  .rw[b t o' e z]at h;cases h
theorem yxp : yi ["self"] ["self"] (yd (yt (top 106) 1)):=wc (by decide +kernel)
#synth ∀(a:Ads),∀(r dr dl:qa)(d:Ο)(j:Nat)(x:Int)(xj:Ο)(_:vs=[.ref r])(_:RdR a H r dr dl d j)(_:d.drop j=x::xj)(_:∀H',RdR a H' r dr dl d (j+1)->But r H H'->Q (x:) H'),yfl
inductive yjn(a:Ads)(vs:Τ)(H:Hp)(E':VK)(E:XK):Prop
 |mk(r dr dl:qa)(d:Ο)(_:vs=[.ref r])(_:RdR a H r dr dl d ↑d)(_:E ⇑a.A7 none H)
def vlk(a:Ads):Sp:=λvs H Q E=>yfl a vs H Q E\/yjn a vs H Q E
def zh:(Df.e P w mg Γ) T.Am 1 (vlk a):=by
 erw[T.Am.F.okE yxp (λu H Q E h=>?_) (λϰ q A m s H u Q E B h=>?_)]
 .rcases h with⟨r,c,b,d,j,x,xj,rfl,_⟩|⟨r,c,b,d,rfl,_⟩<;>rfl
 .rcases h with⟨r,c,b,d,j,x,xj,rfl,h,i,k⟩|⟨r,c,b,d,rfl,h,k⟩;rotate_left
  .let f:=h.me;exists 1,0,yf (vz (yq xo pfs (pcB yp T.A9 (pa1 pfs)) (yy _)) (yc (wn J T.Av T.Bd (pa1 yz))) yx) (yf (y8 (pv 0) (ym v9 pfs yg) J) (yc (yn (pix vn pfs (ym zi pfs yg)))));erw[uz (SqL.of h.dl) ?_];rw[bL];ext;erw[z9 (λz=>?_) (λz=>absurd J z)];ext;exists (by walk_at "len"),k
  let f:=h.me;have t:b≠r:=λz=>by have e:=h.dl;rw[z,f]at e;cases e
  have o:j<↑d:=by
   rcases Nat.lt_or_ge j ↑d with z|z
   .erw[z]
   .rw[List.drop_eq_nil_of_le z]at i;cases i
  have l:d[j]?=some x:=by
   rw[df o]at i;rw[bP o];cases i;rfl
  exists 1,0,yf (vz (yq xo pfs (pcB yp T.A9 (pa1 pfs)) (yy _)) (yc (wn J T.Av T.Bd (pa1 yz))) yx) (yf (y8 (pv 0) (ym v9 pfs yg) J) (yc (yn (pix vn pfs (ym zi pfs yg)))));erw[uz (SqL.of h.dl) ?_];rw[bL];ext;erw[z9 (λz=>absurd z ()) (λZ=>?_)];ext;have g:RdR a (upd H r (.ins a.A4 c (jd ⇑b (((j:Nat)+1):)))) r c b d (j+1):=#[ya,ye t h.dl];have n:But r H (upd H r (.ins a.A4 c (jd ⇑b (((j:Nat)+1):)))):=But.upd;generalize upd H r (.ins a.A4 c (jd ⇑b (((j:Nat)+1):)))=y at g n⊢;let p:=g.me;ext;erw[ul (v:=.int x) (SqL.of g.dl) (by rw[show ((j:Nat):Int)+1-1=((j:Nat):Int) by omega];erw[wb (by rw[bU,l];rfl)]) ?_,<-k _ g n]
def Ù:(Df.e P w mg Γ) T.Am 1 (yfl a):=(zh T).imp λZ Z Z Z h=>.inl h
def vlp(K:xy)(H:Hp)(pt:V)(x:Nat)(v:V):Prop :=
 (∃p xs,pt=.ref p/\H p\xs/\xs[x]?=some v)\/(∃p xs,pt=.ref p/\(∀H,SqT K H p xs)/\xs[x]?=some v)\/∃(z:Str)(c:Nat),pt=.str z/\↑z<=1000/\z.cps[x]?=some c/\v=.str ⟨#[c]⟩
#synth ∀(K:xy)(a:Ads),∀(r dr dl:qa)(d:Ο)(j x:Nat)(xj:Ο)(pt v:V)(_:vs=[.ref r,pt])(_:RdR a H r dr dl d j)(_:d.drop j=((x:Nat):Int)::xj)(_:vlp K H pt x v)(_:∀H',RdR a H' r dr dl d (j+1)->But r H H'->Q v H'),yn7
def yey:(Df.v P w mg Γ) T.Cb 2 (yn7 K a):=by
 exists Cb,["self","parts","number"],ς;let#[r,y,t,d,j,x,xj,D,v,J,h,L,b,k]:=h;let o:=h.me;exists 2,1,yf (pst 2 ϰ (ut (pv 0) T.A6 T.Am.m (Ù T) ς.m T.Am.B .nil ve)) (yf (vz (yq vfs (pv 2) (è (pcB yp T.A9 (pav 1)) (pcB u8 T.A9 (pav 1))) (yy _)) (yc Á) yx) (yc (yn (è (pix vn (pv 1) (pv 2)) (è (pix γ (pv 1) (pv 2)) (xh (pv 1) (pv 2) (λZ Z=>rfl)))))));erw[r,y,t,d,j,_,xj,J,h,L,λN l i=>?_];rcases b with⟨p,q,rfl,b,g⟩|⟨p,q,rfl,b,g⟩|⟨z,c,rfl,M,C,rfl⟩
 .let f:=i _ _ b λz=>by rw[z,o]at b;cases b
  have u:x<↑q:=(bY.mp g).1;ext;erw[Ì ?_,←uz (SqL.of f) ?_,←z9 (λz=>absurd z ()) (λZ=>?_),←Ì ?_,←ul (SqL.of f) (wb g) ?_,<-k _ l i]
 .have u:x<↑q:=(bY.mp g).1;ext;erw[Ì ?_,←p,_,J,.inr (b _),?_,←z9 (λz=>absurd z ()) (λZ=>?_),←jt (Ì ?_),←yc7 (b _) (wb g) ?_,<-k _ l i]
 .have u:x<↑z:=by
   let e:=(Array.getElem?_eq_some_iff.mp C).1;erw[e]
  ext;erw[jt ?_,←z,J,vw (),?_,←z9 (λz=>absurd z ()) (λZ=>?_),←jt (jt ?_),←z,((x:Nat):Int),c,J,J,(),(),(),by rwa[Int.toNat_natCast,C],?_]
  erw[k _ l i]
def vjj(kd:Fin 3):([.str "even",.str "quick",.str "run"]:Τ)[kd.val]?=some (.str (kdS kd)):=by
 match kd with
 |0=>rfl
 |1=>rfl
 |2=>rfl
#synth ∀(K:xy)(a:Ads),∀(r dr dl:qa)(d:Ο)(j:Nat)(kd:Fin 3)(ps xj:Ο)(_:vs=[.ref r])(_:RdR a H r dr dl d j)(_:d.drop j=lkB kd ps++xj)(_:↑ps<=255)(_:∀t tp H',H t=none->H tp=none->H' t∪[.str (kdS kd),.ref tp]->H' tp∪↥ps->RdR a H' r dr dl d (j+(2+↑ps))->But r H H'->Q ⇑t H'),yny
def yt2:(Df.v P w mg Γ) T.Gt 3 (yny K a):=by
 exists Gt,["self","kind","many"],U;let#[r,I,q,d,j,R,c,xj,J,h,hx,a0,k]:=h;let a2:=h.me
 have v:d.drop (j+1)=((↑c:Nat):Int)::(c++xj):=by
  rw[<- List.drop_drop,hx];rfl
 have hx2:d.drop (j+1+1)=c++xj:=by
  rw[<- List.drop_drop,v];rfl
 exists 1,2,yf (pst 1 ϰ (wv (pv 0) T.A6 T.Cb.m (yey T) U.m T.Cb.B .nil vo (pa1 (uv J T.F0)))) (yf (pst 2 ϰ (ut (pv 0) T.A6 T.Am.m (Ù T) U.m T.Am.B .nil ve)) (yc (yn (zj (pac (pv 1) (pa1 (pcT Þ T.Dh (pa1 (vx (js:=[0]) (ys:=["self"]) J (ua J T.Ao (pav 2)) (λC s2 H2 fp=>(ut (pv 1) T.A6 T.Am.m (Ù T) U.m T.Am.B .nil ve)) J J (hyc:=(all_cons J yw)) (hrel:=(all_cons J yw)))))))))));erw[r,I,q,d,j,R.val,_,_,.str (kdS R),J,h,hx,.inr (.inl #[a.Be,_,J,T.w_KINDS,vjj R]),λH1 X b1=>?_];let Z:=X.me;ext;erw[r,I,q,d,j+1,_,_,J,X,v,λH2 N b2=>?_];let f:=N.me;let y:=b1.trans b2;ext;erw[_,J,(),(),λD l=>?_]
 have ς:D≠r:=λz=>by rw[z,f]at l;cases l
 erw[jy (n:=↑c) (λi G=>RdR a G r I q d (j+1+1+i)/\G D\↥(c.take i)/\But r H2 G) #[#[ye (yb f l) f,ye (yb N.dl l) N.dl],ya,λb o e F=>ye (yb e l) e] (λi G W z=>?_) (λG z=>?_)]
 .let#[p,g,O]:=z;let Y:=p.me;ext;exists r,I,q,d,j+1+1+i,c[i],c.drop (i+1)++xj,J,p,?_,λG1 L x=>?_
  .rw[<- List.drop_drop,hx2,List.drop_append_of_le_length (),df W];rfl
  .let u:=x _ _ g ς;ext;erw[xk (n:=↑c) u (vi (by rw[bL,cz];omega)) W #[#[ye ς.symm L.me,ye (yb N.dl l) L.dl],by rw[ya,cH W,ce];rfl,λb o e n=>ye (yb e l) (x _ _ (O b o e n) n)]]
 let#[p,g,O]:=z;rw[cX]at g;ext;erw[D,_,J,.inl #[SqL.of g,λtp htp=>?_]];exists htp,G1,S1,e1;ext;exists by show 2<=sizeLine;decide,λt ht=>?_
 exists ht,G2,S2,e2;have M:But r H G1:=λb o e n=>S1 _ _ (O _ _ (y _ _ e n) n);erw[k t tp G2 (M.non (S1 _ _ p.me) ht) ((y.trans O).non p.me htp) e2 (S2 _ _ e1) (by rw[show j+(2+↑c)=j+1+1+↑c by omega];erw[p.same (S1.trans S2)]) λb o e n=>S2 _ _ (M b o e n)]
structure CfG(C:Cf):Prop where
 n:1<=C.n/\C.n<=6
 m:C.mo<=1000/\C.w<=C.mo/\C.w<=200
 p:∀i,i<C.n->ux ↥(C.ps i)=true
theorem ytd(C:Cf){i:Nat}:∀{n:Nat},i<n->∃m,lkF C n=lkF C i++(lkB (C.kd i) (C.ps i)++m)
 |n+1,h=>by
  rw[ĕ];rcases Nat.lt_or_ge i n with z|z
  .let#[m,e]:=ytd C z;erw[m++lkB (C.kd n) (C.ps n),by rw[e,cq,cq]]
  .obtain rfl:i=n:=()
   erw[[],by rw[dw]]
def jg{d A B:Ο}{k:Nat}(h:d.drop k=A++B):d.drop (k+↑A)=B:=by rw[<- List.drop_drop,h,List.drop_left]
def ykv(tt:Λ)(i:Nat)(t:qa):refs (λj=>if j=i then t else tt j) (i+1)=refs tt i++[V.ref t]:=by rw[x9,if_pos J,xu λj a=>if_neg (cR a)]
#synth ∀(K:xy)(a:Ads),∀(r dr dl:qa)(d:Ο)(j:Nat)(C:Cf)(xj:Ο)(_:vs=[.ref r])(_:RdR a H r dr dl d j)(_:d.drop j=hdB C++xj)(_:CfG C)(_:∀st X H',Sto K a H' st C [] X->RdR a H' r dr dl d (j+↑(hdB C))->But r H H'->(∀y,X.f y->H y=none)->Q ⇑st H'),yjh
def yw4:(Df.v P w mg Γ) T.Gu 12 (yjh K a):=by
 exists Gu,["self","many","looks","upper"],Z;let#[r,N,L,d,j,C,xj,J,h,hx,hC,k]:=h;let ac:=h.me;let#[#[n1,n6],#[m1,wm,w2],S]:=hC
 have a0:d.drop j=((C.n:Nat):Int)::(lkF C C.n++([((C.mo:Nat):Int)/256,((C.mo:Nat):Int)%256]++xj)):=by
  rw[hx];unfold hdB;rw[cq];rfl
 have W:d.drop (j+1)=lkF C C.n++([((C.mo:Nat):Int)/256,((C.mo:Nat):Int)%256]++xj):=jg (A:=[_]) a0;let hx2:=jg W;let a3:=jg (A:=[_]) hx2;exists 1,3,yf (pst 1 ϰ (ut (pv 0) T.A6 T.Am.m (Ù T) Z.m T.Am.B .nil ve)) (yf (yf8 (i:=2) (js:=[0]) (ys:=["self"]) ϰ J J J (ua J T.Ao (pav 1)) (λC s2 H2 fp=>(vj (pv 1) T.A6 T.Gt.m (yt2 T) Z.m T.Gt.B .nil vo)) J J (hyc:=(all_cons J yw)) (hrel:=(all_cons J yw))) (yf (pst 3 ϰ (ut (pv 0) T.A6 T.Am.m (Ù T) Z.m T.Am.B .nil ve)) (yc (yn (uu T.Hw (yrg T) Z.m J T.Hv T.Sz .nil ve (pac (pv 2) (pa1 (ym v9 (ym xa yg (pv 3)) (ut (pv 0) T.A6 T.Am.m (Ù T) Z.m T.Am.B .nil ve)))))))));erw[r,N,L,d,j,_,_,J,h,a0,λH1 h1 b1=>?_];let f:=h1.me;ext;erw[_,J,(),(),λD u=>?_]
 have ς:D≠r:=λz=>by rw[z,f]at u;cases u
 erw[jy (n:=C.n) (λi G=>∃p M,RdR a G r N L d (j+1+↑(lkF C i))/\G D\(refs p i)/\xz G i p C.kd M C.ps/\But r H1 G) #[λF=>0,λF=>0,#[ye (yb f u) f,ye (yb h1.dl u) h1.dl],ya,λi O=>absurd O (cD _),λb o e F=>ye (yb e u) e] (λi G O z=>?_) (λG z=>?_)]
 .let#[p,M,hG,v,hR,bG]:=z;let c:=hG.me;let#[m,em]:=ytd C O;let a7:=jp (S i O);rw[bL]at a7;ext;exists r,N,L,d,_,C.kd i,C.ps i,m++([((C.mo:Nat):Int)/256,((C.mo:Nat):Int)%256]++xj),J,hG,jg (by rw[W,em,cq,cq]),(),λt tq G1 ad aa ht a8 a1 g=>?_
  let q:=g _ _ v ς;erw[xk q (vi (by rw[vv];omega)) O #[λk=>if k=i then t else p k,λk=>if k=i then tq else M k,#[by rw[ĕ,bQ,show ↑(lkB (C.kd i) (C.ps i))=2+↑(C.ps i) by show _+1+1=_;omega,<- Nat.add_assoc];erw[ye ς.symm a1.me],ye (yb h1.dl u) a1.dl],by rw[ya,ykv],λk hk=>?_,λb o e n=>ye (yb e u) (g _ _ (bG b o e n) n)]];have up:∀{x:qa}{I:Τ},G1 x∪I->upd G1 D (.lst (refs p i++[.ref t])) x∪I:=λ{x I}e=>ye (λz=>by rw[z,q]at e;cases e) e;show LkG _ ⇑(if k=i then t else p k) (C.kd k) (if k=i then tq else M k) (C.ps k);by_cases z:k=i
  .rw[if_pos z,if_pos z,z];erw[t,J,up ht,up a8,S i O]
  .rw[if_neg z,if_neg z];let#[l,e,e1,e2,e3]:=hR k ();have nr:∀{x:qa}{I:Τ},G x∪I->x≠r:=λ{x I}e z=>by rw[z,c]at e;cases e
   erw[l,e,up (g _ _ e1 (nr e1)),up (g _ _ e2 (nr e2)),e3]
 let#[p,M,hG,v,hR,bG]:=z;let c:=hG.me;ext;erw[r,N,L,d,_,_,_,J,hG,hx2,λH3 h3 b3=>?_];let a9:=h3.me;ext;erw[r,N,L,d,_,_,_,J,h3,a3,λH4 h4 b4=>?_];ext;intro st ds Y U ae;let a2:=(bG.trans b3).trans b4;let R:=b1.trans a2;let a6:=(b3.trans b4) _ _ v ς;have a5:xz H4 C.n p C.kd M C.ps:=hR.fr λx I e=>(b3.trans b4) _ _ e λz=>by rw[z,c]at e;cases e
 rw[show 256*(((C.mo:Nat):Int)/256)+((C.mo:Nat):Int)%256=((C.mo:Nat):Int) by omega];erw[Sto.new (mo:=C.mo) (w:=C.w) Y U a6 n1 n6 a5 m1 wm w2 λX H5 hS S5 hn F=>#[J,?_],<-k st X H5 hS ?_ (λb o e n=>S5 _ _ (R b o e n)) λy hy=>R.non h4.me (hn y hy)];rw[show j+↑(hdB C)=j+1+↑(lkF C C.n)+1+1 by unfold hdB;rw[bQ,cn];show _+(_+1+2)=_;omega];erw[h4.same S5]
def yuc{x:Str}(h:nmS x=true){c:Nat}(hc:c∈x.cps.toList):yif c=true:=by unfold nmS at h;simp only[cB,List.all_eq_true]at h;erw[h.2.2 c hc]
def yu9{c:Nat}(h:yif c=true):97<=c/\c<=122:=by
 unfold yif at h;have h:(!(Builtin.Str.occurrences smS ⟨#[c]⟩ 0 ↑smS 1).isEmpty)=true:=h;rw[PySem.StrLaws.found_one]at h;let#[i,d,e]:=List.mem_iff_getElem.mp (of_decide_eq_true h)
 have a:i<26:=by
  have:=ymr;have e:↑smS.cps.toList=↑smS:=rfl;omega
 let b:=yl5 i a;rw[<- Array.getElem?_toList,bP d,e]at b;have:=cr b;omega
#synth ∀(K:xy)(a:Ads),∀(r dr dl:qa)(d:Ο)(j:Nat)(x:Str)(xj:Ο)(_:vs=[.ref r])(_:RdR a H r dr dl d j)(_:d.drop j=nmB x++xj)(_:nmS x=true)(_:∀H',RdR a H' r dr dl d (j+↑(nmB x))->But r H H'->Q (.str x) H'),yna
def yv6:(Df.v P w mg Γ) T.Gv 3 (yna K a):=by
 exists Gv,["self","many"],W;let#[r,L,I,d,j,x,xj,J,h,X,Y,k]:=h;let a1:=h.me;let h8:=xl Y;have R:d.drop (j+1)=(x.cps.toList.map λc=>((lix c:Nat):Int))++xj:=jg (A:=[_]) X;exists 1,1,yf (pst 1 ϰ (ut (pv 0) T.A6 T.Am.m (Ù T) W.m T.Am.B .nil ve)) (yc (yn (zb PySem.F.plainAttrs_str PySem.F.slot_str_join PySem.F.type_str_join Ĕ yz (pa1 (vx (js:=[0]) (ys:=["self"]) J (ua J T.Ao (pav 1)) (λC s2 H2 fp=>(wv (pv 1) T.A6 T.Cb.m (yey T) W.m T.Cb.B .nil vo (pa1 (zv J T.D9)))) J J (hyc:=(all_cons J yw)) (hrel:=(all_cons J yw)))))));erw[r,L,I,d,j,_,_,J,h,X,λH1 ς Z=>?_];let f:=ς.me;ext;erw[J,?_,←_,J,(),(),λD p=>?_]
 have v:D≠r:=λz=>by rw[z,f]at p;cases p
 have l:↑x.cps.toList=↑x:=rfl;erw[jy (n:=↑x) (λi G=>RdR a G r L I d (j+1+i)/\G D\((x.cps.toList.take i).map λc=>V.str ⟨#[c]⟩)/\But r H1 G) #[#[ye (yb f p) f,ye (yb ς.dl p) ς.dl],ya,λb o e F=>ye (yb e p) e] (λi G u z=>?_) (λG z=>?_)]
 .let#[M,g,N]:=z;let S:=M.me;rw[<- l]at u;let U:=yu9 (yuc Y (cE u));ext;exists r,L,I,d,j+1+i,lix x.cps.toList[i],(x.cps.toList.drop (i+1)).map (λc=>((lix c:Nat):Int))++xj,_,.str ⟨#[x.cps.toList[i]]⟩,J,M,?_,.inr (.inr #[smS,x.cps.toList[i],J,by rw[ymr];decide,?_,J]),λG1 y t=>?_
  .rw[<- List.drop_drop,R,List.drop_append_of_le_length (by rw[bL];omega),<- List.map_drop,df u];rfl
  .rw[yto U.1 U.2,yl5 _ ()]
   congr 1
   omega
  .let q:=t _ _ g v;erw[xk q (vi (by rw[bL,cz];omega)) (by rwa[<- l,u]) #[#[ye v.symm y.me,ye (yb ς.dl p) y.dl],by rw[ya,cH u,ce];rfl,λb o e n=>ye (yb e p) (t _ _ (N b o e n) n)]]
 let#[M,g,N]:=z;rw[<- l,cX]at g;ext;erw[⟨#[]⟩,D,x.cps.toList.map λc=>(⟨#[c]⟩:Str),J,J,SqL.of (by rwa[cM,g]),by rw[cM,vlh,bL];show _+_*0<=_;omega,?_]
 rw[PyProof.Rows.join_ones,show (⟨x.cps.toList.toArray⟩:Str)=x by rw[Array.toArray_toList]];erw[k _ (by rw[show j+↑(nmB x)=j+1+↑x by unfold nmB;rw[cn,bL];omega];erw[M]) (Z.trans N)]
structure PdN(C:Cf)(P:qj Pd)(q:Pd):Prop where
 nm:okN q.nm
 no:∀u,u∈P->u.nm≠q.nm
 z:↑P<60
 s:Sgs q.tx
 l:↑q.tx<=C.w
 to:ToD P q.bs q.path
noncomputable def bsX(P:qj Pd):ql Str->Nat
 |none=>0
 |some b=>(P.map (·.nm)).idxOf b+1
def vc4(P:qj Pd)(x:Υ):bsN P x=((bsX P x:Nat):Int):=by
 cases x with
 |none=>rfl
 |some b=>show (((P.map (·.nm)).idxOf b:Nat):Int)+1=(((P.map (·.nm)).idxOf b+1:Nat):Int);omega
def vbc{P:qj Pd}{x:Υ}(h:ToD P x L):([V.non]++P.map λq=>V.str q.nm)[bsX P x]?=some (baV x):=by
 cases x with
 |none=>rfl
 |some b =>
  let#[r,a,e,_]:=h;have:=(yk6 (ns:=P.map (·.nm)) (b:=b) (bW.mpr #[r,a,e])).1;show (P.map λq=>V.str q.nm)[(P.map (·.nm)).idxOf b]?=_;rw[show (P.map λq=>V.str q.nm)=(P.map (·.nm)).map V.str by rw[cM];rfl,bU,this];rfl
def yv0{xs:Τ}{p m:Nat}(h:p<=↑xs):ydf xs (some (p:Int)) (some ((p:Int)+(m:Int)))=(xs.drop p).take m:=by
 unfold ydf;rw[show (p:Int)+(m:Int)=((p+m:Nat):Int) by omega,HT.sIx_nat,HT.sIx_nat,Nat.min_eq_left h];rcases Nat.le_total (p+m) ↑xs with z|z
 .rw[Nat.min_eq_left z,Nat.add_sub_cancel_left]
 .rw[Nat.min_eq_right z,cU (by rw[du];omega),cU (by rw[du];omega)]
def ywq{n:Nat}{kd:Ν}{ps:Κ}{pre bs cs:Ο}(n1:1<=n)(n6:n<=6)(hp:ybj pre)(hts:Sgs ts)(hus:Sgs us)(e:jb n kd ps pre ts++bs=jb n kd ps pre us++cs):ts=us:=by
 have c:∀(x:Ο)(j:Nat),j<↑(dec x)->Ch (uf n kd ps pre x j):=λx j Z=>Û n1 n6 hp j;rcases Nat.le_total ↑(jb n kd ps pre us) ↑(jb n kd ps pre ts) with h|h
 .erw[ykj hts hus (c ts) (c us) ?_];have:=congrArg (List.take ↑(jb n kd ps pre us)) e;rw[List.take_append_of_le_length h,List.take_left]at this;erw[this]
 .erw[(ykj hus hts (c us) (c ts) ?_).symm];have:=congrArg (List.take ↑(jb n kd ps pre ts)) e.symm;rw[List.take_append_of_le_length h,List.take_left]at this;erw[this]
#synth ∀(K:xy)(a:Ads),∀(r dr dl:qa)(d:Ο)(j:Nat)(st:qa)(C:Cf)(P:qj Pd)(X:Sx)(q:Pd)(z:Ο)(_:vs=[.ref r,.ref st])(_:RdR a H r dr dl d j)(_:Sto K a H st C P X)(_:¬X.f r)(_:¬X.f dl)(_:Byt d)(_:d.drop j=nmB q.nm++(bsN P q.bs::z))(_:PdN C P q)(_:((∃xj,z=q.by C++xj/\∀Y H',Sto K a H' st C (P++[q]) Y->RdR a H' r dr dl d (j+↑(pdB C P q))->(∀b o,H b=some o->¬X.f b->b≠r->H' b=some o)->(∀y,Y.f y->X.f y\/H y=none)->Q .non H')\/((∃b,z++[b]=q.by C)/\∀H',(∀b o,H b=some o->¬X.f b->b≠r->H' b=some o)->E ⇑a.B0 none H'))),yoi
def yue:(Df.e P w mg Γ) T.Gw 14 (yoi K a):=by
 exists Gw,hr,["self","store","name","base","ahead"];let#[r,dr,dl,d,j,st,C,P,X,q,z,J,h,hS,R,nd,hd,Z,i,hG]:=h;let a7:=h.me;let G:=hS.cf;let ag:=xl i.nm.1;let x:=jg Z;have hx2:d.drop (j+↑(nmB q.nm)+1)=z:=jg (A:=[_]) x;rw[vc4]at x;let ho:=Ė (n:=C.n) (kd:=C.kd) (ps:=C.ps) (pre:=δ (q.path.map (·.2))) (ts:=q.tx) G.1 G.2.1 (uq _) (by have:=i.l;omega);have ho:↑(q.by C)<=5500:=ho;exists 2,3,yf (pst 2 ϰ (vj (pv 0) T.A6 T.Gv.m (yv6 T) hr.m T.Gv.B .nil vo)) (yf (pst 3 ϰ (wv (pv 0) T.A6 T.Cb.m (yey T) hr.m T.Cb.B .nil vo (pa1 (ym ŧ (wk (pa1 u9)) (vj (pv 1) T.A1 T.Bt.m (ycs T) hr.m T.Bt.B .nil vo))))) (yf (pst 4 ϰ (xv j5 pfs (uw pfs) (uw (ym v9 pfs (vy J T.D0))))) (yc (y8 (pv 0) (ym v9 pfs (yu (pv 1) T.A1 T.Ls.m (vco T) hr.m T.Ls.B .nil yo (pac (pv 2) (pac (pv 4) (pav 3))))) J))));erw[r,dr,dl,d,j,q.nm,_,J,h,Z,i.nm.1,λH1 h1 b1=>?_];let ac:=h1.me;let L:=hS.but (WSh.mu a7 J) R b1;let#[ds,vl,vm,vp,vc,I]:=L.ins;ext;exists (by walk_at "len"),λu hu0=>?_
 exists hu0,H2,S2,hu2;let ad:=S2 _ _ I;ext;erw[(L.same S2).names λl H3 ae a8 S3=>?_,←u,l,_,_,J,J,S3 _ _ hu2,a8,vw (by rw[bL];have:=i.z;show 1+_<=_;omega),λc hc0=>?_];exists hc0,H4,S4,hc4;let D:=S2.trans (S3.trans S4);let a1:=L.same D;let h4:=h1.same D;ext;erw[r,dr,dl,d,_,_,_,_,_,J,h4,x,.inl #[c,_,J,hc4,vbc i.to],λH5 h5 b5=>?_];let aa:=h5.me;let W:=a1.but (WSh.mu h4.me J) R b5;let a0:=b5 _ _ (D _ _ I) λz=>R (by rwa[<- z,hS.me]);ext;erw[ybg (SqL.of h5.dl) λah hah0=>?_]
 have a5:j+↑(nmB q.nm)+1<=↑↥d:=by
  rw[bL];have:=congrArg List.length x;rw[du,cn]at this;omega
 rw[show ((j+↑(nmB q.nm)+1:Nat):Int)+12000=((j+↑(nmB q.nm)+1:Nat):Int)+((12000:Nat):Int)from rfl,yv0 a5,<- List.map_drop,<- List.map_take,hx2];exists hah0,H6,S6,hah6;let h6:=h5.same S6;let t:=h6.me;let p:=W.same S6;let ab:=S6 _ _ a0
 have M:¬X.f ah:=λw=>by
  let#[o,e]:=W.live _ w;rw[hah0]at e;cases e
 have S:Byt (z.take 12000):=λb hb=>hd b (by
  have:=cV hb;rw[<- hx2]at this;erw[List.mem_of_mem_drop this])
 have lv:∀{b:qa}{o:HO},H b=some o->b≠r->H6 b=some o:=λ{b o}e n=>S6 _ _ (b5 _ _ (D _ _ (b1 _ _ e n)) n);ext;rcases hG with⟨xj,rfl,k⟩|⟨⟨b0,O⟩,kE⟩;rotate_left
 .let N:=congrArg List.length O;rw[bQ,cJ]at N;exists st,ah,C,P,X,q.nm,q.bs,q.path,_,J,p,i.nm,hah6,M,S,by rw[cz];omega,i.no,i.z,i.to,.inr #[λts bs a9 F e=>?_,λH7 fr=>kE H7 λb o e nf n=>fr b o (lv e n) nf]
  rw[cU ()]at e
  have e2:jb C.n C.kd C.ps (δ (q.path.map (·.2))) ts++(bs++[b0])=jb C.n C.kd C.ps (δ (q.path.map (·.2))) q.tx++[]:=by
   rwa[dw,<- cq,<- e,O]
  let e3:=ywq G.1 G.2.1 (uq _) a9 i.s e2;rw[e3]at e;have e4:z=q.by C++bs:=e;rw[e4,bQ]at N;omega
 erw[st,ah,C,P,X,q.nm,q.bs,q.path,_,J,p,i.nm,hah6,M,S,by rw[cz];omega,i.no,i.z,i.to,.inl #[q.tx,xj.take (12000-↑(q.by C)),by rw[List.take_append,cU ()];rfl,i.s,i.l,λY H7 a3 U=>?_]]
 let ς:=U.g.fr _ _ t λw=>R (p.wf _ w);let v:=U.g.fr _ _ h6.dl λw=>nd (p.wf _ w);have a4:¬Y.f r:=λw=>(U.f r w).elim R λe=>by rw[t]at e;cases e
 have a2:dl≠r:=λz=>by rw[z,ς]at v;cases v
 ext;erw[k Y _ (a3.but (WSh.mu ς J) a4 But.upd) #[?_,ye a2 v] (λb o e nf n=>ye n (U.g.fr _ _ (lv e n) λw=>nf (p.wf _ w))) λy hy=>(U.f y hy).imp id λe=>?_]
 .rw[ya,show j+↑(pdB C P q)=j+↑(nmB q.nm)+1+↑(q.by C) by unfold pdB;rw[bQ,bQ,cJ];omega];rfl
 .cases e0:H y with
  |none=>rfl
  |some o =>
   by_cases z:y=r
   .rw[z,t]at e;cases e
   .rw[lv e0 z]at e;cases e
def Stk(P:qj Pd):Prop:=∀(i:Nat)(r:Pd)(b:Str),P[i]?=some r->r.bs=some b->∃j s,j<i/\P[j]?=some s/\s.nm=b
structure ym7(C:Cf)(P:qj Pd):Prop where
 c:CfG C
 w:PdW P
 z:↑P<=60
 nm:∀q,q∈P->okN q.nm
 s:∀q,q∈P->Sgs q.tx/\↑q.tx<=C.w
 k:Stk P
def Sto.shok{H:Hp}{C:Cf}{P:qj Pd}{X:Sx}(h:Sto K a H st C P X)(k:Stk P):ym7 C P:=by have b:=h.cf;erw[#[#[b.1,b.2.1],#[b.2.2.1,b.2.2.2.1,b.2.2.2.2],λi g=>?_],h.pw,h.z,h.nm,λq e=>#[(h.sz q e).1,(h.sz q e).2.1],k];let#[v,m,d,c,n,p,j,u,l,r,o,L,t,U,s,J,J]:=h;let#[_,_,_,_,f]:=s.row i g;erw[f]
def ym7.nx{C:Cf}{P:qj Pd}(h:ym7 C P){i:Nat}(hi:i<↑P):PdN C (P.take i) P[i]/\pdB C (P.take i) P[i]=pdB C P P[i]:=by
 let c:=cE hi;let a:=h.w.wf _ c
 have d:∀b,P[i].bs=some b->∃s,s∈P.take i/\s.nm=b:=λb e=>by
  let#[j,s,l,p,n]:=h.k i P[i] b (bP hi) e;erw[s,ck (i:=j) (by rwa[List.getElem?_take_of_lt l,p]),n]
 erw[#[h.nm _ c,λu t e=>?_,by rw[cz];have:=h.z;omega,(h.s _ c).1,(h.s _ c).2,?_],?_]
 .let#[j,l,J]:=List.mem_iff_getElem.mp t;rw[cz]at l;rw[List.getElem_take]at e;have:=Ċ (q:=P[j]) (r:=P[i]) h.w.nd (cE _) c e;have:=List.pairwise_iff_getElem.mp h.w.nd j i (by rw[bL];omega) (by rwa[bL,hi]) ();rw[dD,dD]at this;erw[this e]
 .cases eb:P[i].bs with
  |none=>rw[eb]at a;erw[a]
  |some b =>
   rw[eb]at a;let#[r,o,m,v]:=a;let#[s,f,g]:=d b eb;obtain rfl:=Ċ h.w.nd o (cV f) (m.trans g.symm);erw[r,f,m,v]
 .unfold pdB
  congr 3
  cases eb:P[i].bs with
  |none=>rfl
  |some b =>
   let#[s,f,g]:=d b eb;show (((((P.take i).map (·.nm)).idxOf b:Nat):Int)+1)=(((P.map (·.nm)).idxOf b:Nat):Int)+1
   have e:(P.map (·.nm)).idxOf b=((P.take i).map (·.nm)).idxOf b:=by
    conv=>lhs;rw[<- dG i P]
    rw[ce,List.idxOf_append,if_pos (bW.mpr #[s,f,g])]
   rw[e]
def vjc{P:qj Pd}{i:Nat}(hi:i<↑P)(f:Pd->qj Int):(P.map f).flatten=((P.take i).map f).flatten++(f P[i]++((P.drop (i+1)).map f).flatten):=by
 conv=>lhs;rw[<- dG i P,df hi]
 rw[ce,List.flatten_append,cO,List.flatten_cons]
def Les(C:Cf)(P:qj Pd)(d:Ο):Prop:=∃b,d++[b]=shB C P
def ShK(C:Cf)(P:qj Pd)(d:Ο):Prop:=d=shB C P\/(∃b,d=shB C P++[b])\/Les C P d
def Les.l{C:Cf}{P:qj Pd}{d:Ο}(h:Les C P d):↑d<↑(shB C P):=by let#[b,e]:=h;rw[<- e,bQ,cJ];omega
def vit(C:Cf)(P:qj Pd)(q:Pd):pdB C P q≠[]:=by unfold pdB nmB;simp
def Ķ{x:Ο}(h:x≠[]):∃y b,x=y++[b]:=#[x.dropLast,x.getLast h,(List.dropLast_concat_getLast h).symm]
theorem ShK.at{C:Cf}{P:qj Pd}{d:Ο}(hC:1<=C.n/\C.n<=6)(h:ShK C P d){i:Nat}(hi:i<↑P):∃z,d.drop (↑(hdB C)+1+↑(((P.take i).map (pdB C P)).flatten))=nmB P[i].nm++(bsN P P[i].bs::z)/\(((∃xj,z=P[i].by C++xj)/\(Les C P d->i+1<↑P))\/((∃b,z++[b]=P[i].by C)/\d≠shB C P)):=by
 have a:shB C P=(hdB C++[((↑P:Nat):Int)]++((P.take i).map (pdB C P)).flatten)++(pdB C P P[i]++((P.drop (i+1)).map (pdB C P)).flatten):=by
  unfold shB;rw[vjc hi];simp
 have m:↑(hdB C++[((↑P:Nat):Int)]++((P.take i).map (pdB C P)).flatten)=↑(hdB C)+1+↑(((P.take i).map (pdB C P)).flatten):=by rw[bQ,bQ,cJ]
 have c:∀z:Ο,pdB C P P[i]++z=nmB P[i].nm++(bsN P P[i].bs::(P[i].by C++z)):=λz=>by unfold pdB;simp
 generalize hdB C++[((↑P:Nat):Int)]++((P.take i).map (pdB C P)).flatten=A at a m;rw[<- m];rcases h with rfl|⟨b,rfl⟩|⟨b,e⟩
 .erw[_,by rw[a,List.drop_left,c],.inl #[#[_,J],λz=>absurd z.l (dv _)]]
 .erw[_,by rw[a,cq,List.drop_left,cq,c],.inl #[#[_,J],λz=>absurd z.l (by rw[bQ];omega)]]
 .have q:d≠shB C P:=λz=>by
   have:=(show Les C P d from #[b,e]).l;rw[z]at this;omega
  rw[a]at e;by_cases hr:(((P.drop (i+1)).map (pdB C P)).flatten)=[]
  .rw[hr,dw,show pdB C P P[i]=pdB C P P[i]++[]from (dw _).symm,c,dw]at e;let#[y,g,f]:=Ķ (x:=P[i].by C) λz=>by have o:1<=↑(P[i].by C):=yfv hC.1 hC.2 (uq _);rw[z]at o;cases o
   rw[f]at e;have j:d++[b]=(A++(nmB P[i].nm++(bsN P P[i].bs::y)))++[g]:=by rw[e];simp
   let#[k,p]:=List.append_inj' j J;erw[y,by rw[k,List.drop_left],.inr #[#[g,f.symm],q]]
  .let#[y,g,f]:=Ķ hr;rw[f]at e;have j:d++[b]=(A++(pdB C P P[i]++y))++[g]:=by rw[e];simp
   let#[k,p]:=List.append_inj' j J;erw[_,by rw[k,List.drop_left,c],.inl #[#[_,J],λZ=>Nat.lt_of_not_le λz=>hr (by rw[List.drop_eq_nil_of_le z];rfl)]]
def RfK(a:Ads)(c:qa):Prop:=c=a.A7\/c=a.B0
#synth ∀(K:xy)(a:Ads),∀(r dr dl:qa)(C:Cf)(P:qj Pd)(d:Ο)(_:vs=[.ref r])(_:RdR a H r dr dl d 0)(_:Byt d)(_:ym7 C P)(_:ShK C P d)(_:(d=shB C P->∀st X H',Sto K a H' st C P X->But r H H'->(∀y,X.f y->H y=none)->Q ⇑st H'))(_:(d≠shB C P->∀c H',RfK a c->But r H H'->E ⇑c none H')),yjk
def ywd:(Df.e P w mg Γ) T.Gy 15 (yjk K a):=by
 exists Gy,hr,["self","store","place"];let#[r,ς,v,C,P,d,J,h,a8,p,hK,k,kE]:=h;let j:=h.me;let hz:=p.z
 obtain⟨y,hy⟩:∃y,d.drop 0=hdB C++y:=by
  rcases hK with rfl|⟨b,rfl⟩|⟨b,e⟩
  .erw[_,rfl]
  .erw[_,by show shB C P++[b]=_;unfold shB;rw[cq]]
  .let#[y,b',ey]:=Ķ (x:=((↑P:Nat):Int)::(P.map (pdB C P)).flatten) (List.cons_ne_nil _ _);have I:d++[b]=(hdB C++y)++[b']:=by rw[e,cq,<- ey];rfl
   erw[y,(List.append_inj' I J).1]
 erw[yh (pst 1 ϰ (vj (pv 0) T.A6 T.Gu.m (yw4 T) hr.m T.Gu.B .nil vo)) ?_,<-yh (uy PassesOwn.leaving J (ua J T.Ao (pa1 (ut (pv 0) T.A6 T.Am.m (zh T) hr.m T.Am.B .nil yo))) (wd (i:=2) ϰ J (Or.inl J)) (yc (yv (yu (pv 0) T.A6 T.Gw.m (yue T) hr.m T.Gw.B .nil yo (pav 1))))) ?_,<-yh (vz (yq ybh pfs (pcB yp T.A9 (pa1 pfs)) (yy _)) (yc (wn J T.Av T.Bd (pa1 yz))) yx) ?_];exists 1,2,yc (yn (pv 1));erw[r,ς,v,_,0,C,y,J,h,hy,p.c,λst X H1 a6 O b1 n1=>?_];let W:=O.me;let a2:=jg hy;rw[Nat.zero_add]at a2 O;ext
 have a4:(∃t,d.drop ↑(hdB C)=((↑P:Nat):Int)::t/\(Les C P d->0<↑P))\/(d=hdB C/\d≠shB C P):=by
  rcases hK with rfl|⟨b,rfl⟩|⟨b,e⟩
  .erw[.inl #[_,by unfold shB;rw[List.drop_left],λz=>absurd z.l (dv _)]]
  .erw[.inl #[_,by unfold shB;rw[cq,List.drop_left];rfl,λz=>absurd z.l (by rw[bQ];omega)]]
  .cases P with
   |nil =>
    have I:d++[b]=hdB C++[((0:Nat):Int)]:=e;let e2:=(List.append_inj' I J).1;erw[.inr #[e2,λz=>?_]];have:=(show Les C [] d from #[b,e]).l;rw[z]at this;omega
   |cons q P =>
    let#[y,b',ey]:=Ķ (x:=((q::P).map (pdB C (q::P))).flatten) (by
     rwa[cO,List.flatten_cons,List.append_ne_nil_of_left_ne_nil (vit _ _ _) _])
    have I:d++[b]=(hdB C++(((↑(q::P):Nat):Int)::y))++[b']:=by rw[e,cq];unfold shB;rw[ey];rfl
    erw[.inl #[y,by rw[(List.append_inj' I J).1,List.drop_left],λF=>Nat.zero_lt_succ _]]
 rcases a4 with⟨t,ht,a1⟩|⟨I,e2⟩;rotate_left
 .erw[.inr #[r,ς,v,d,J,by rw[<- I]at O;erw[O],kE e2 _ _ (.inl J) b1]]
 erw[.inl #[r,ς,v,_,_,_,_,J,O,ht,λH2 h2 b2=>?_]];have nr:¬X.f r:=λw=>by rw[n1 r w]at j;cases j
 let D:=a6.but (WSh.mu W J) nr b2;ext;erw[_,J,(),(),ζ (n:=((↑P:Nat):Int).toNat) (λi σ2 G=>∃X v2,σ2=[some ⇑r,some ⇑st,v2]/\Sto K a G st C (P.take i) X/\RdR a G r ς v d (↑(hdB C)+1+↑(((P.take i).map (pdB C P)).flatten))/\But r H G/\(∀y,X.f y->H y=none)/\(Les C P d->i<↑P)) #[X,_,J,D,h2,b1.trans b2,n1,a1] ?_ ?_]
 .rintro i σ2 G Z ⟨X,v2,rfl,hS,L,N,M,_⟩;have Z:i<↑P:=()
  let g:=L.me;let#[hN,eN]:=p.nx Z;let#[z,ez,a7]:=hK.at p.c.n Z
  have a3:bsN (P.take i) P[i].bs=bsN P P[i].bs:=by
   let e:=eN;unfold pdB at e;rw[cq,cq]at e;have:=List.append_cancel_left e;injection this
  have R:∀{U:Hp},(∀b o,G b=some o->¬X.f b->b≠r->U b=some o)->But r H U:=λS b o e n=>S b o (N b o e n) (λw=>by rw[M b w]at e;cases e) n;ext;erw[r,ς,v,_,_,st,C,P.take i,X,P[i],z,J,L,hS,(λw=>by rw[M r w]at j;cases j),(λw=>by have e:=h.dl;rw[M v w]at e;cases e),a8,by rw[ez,a3],hN,?_]
  rcases a7 with⟨⟨xj,e⟩,u⟩|⟨e,n1⟩
  .erw[.inl #[xj,e,λY U D a0 S nY=>?_]];ext;exists Y,_,J,by rwa[cH Z,D],?_,R S,(λy hy=>(nY y hy).elim (M y) λe=>N.non g e),u
   rw[eN,Nat.add_assoc]at a0;rwa[yfq C (bP Z),bQ,a0]
  .erw[.inr #[e,λU S=>kE n1 _ U (.inr J) (R S)]]
 rintro σ2 G ⟨X,v2,rfl,hS,L,N,M,u⟩;rw[Int.toNat_natCast]at u;rw[Int.toNat_natCast,cX]at hS L;let g:=L.me
 have hl:↑(hdB C)+1+↑((P.map (pdB C P)).flatten)=↑(shB C P):=by
  unfold shB;rw[bQ,cn];omega
 rw[hl]at g;ext;erw[uz (SqL.of L.dl) ?_];rw[bL];ext;erw[z9 (λz=>?_) (λz=>?_)]
 .ext;exists (by walk_at "len"),kE (λe=>by rw[e]at z;omega) _ _ (.inl J) N
 ext;erw[k ?_ st X G hS N M];rcases hK with e|⟨b,rfl⟩|e
 .erw[e]
 .rw[bQ,cJ]at z;erw[absurd z ()]
 .erw[absurd (u e) (dv _)]
#synth ∀(K:xy)(a:Ads),∀(l:qa)(C:Cf)(P:qj Pd)(d:Ο)(_:vs=[.ref l])(_:H l\↥d)(_:Byt d)(_:↑d<=100000)(_:ym7 C P)(_:ShK C P d)(_:(d=shB C P->∀st X H',Sto K a H' st C P X->y7 H H'->(∀y,X.f y->H y=none)->Q ⇑st H'))(_:(d≠shB C P->∀dd H',y7 H H'->E ⇑a.A7 dd H')),yi1
def yxb:(Df.e P w mg Γ) T.M0 16 (yi1 K a):=by
 exists M0,R,["data","e"];let#[l,C,P,d,J,O,I,hz,S,hK,k,Z]:=h;exists 1,1,yf (vz (u5 (u6 (x0 (yxx T) R.m T.Mt (pac (pv 0) (pa1 (vy J T.Ez)))))) (yc (wn J T.Av T.Bd (pa1 yz))) yx) (yc (yk3 (λN Ex=>(yc (yn (ut (jl T.Mh (yu8 T) R.m J T.Mg T.Lz.B .nil vo (pa1 (pcT (r:=yk5 K) ww T.An (pav 0)))) T.A6 T.Gy.m (ywd T) R.m T.Gy.B .nil yaz)))) #[J,J] (yua (i:=1) (cs:=[a.Fa,a.Aw,a.Ar,a.C4,a.D4,a.B0]) (λN x=>zj (μ (uv J T.Ux) (μ (uv J T.G8) (μ (uv J T.G9) (μ (uv J T.Hx) (μ (uv J T.Mi) (μ (uv J T.Mv) ub (η J)) (η J)) (η J)) (η J)) (η J)) (η J))) (λσ H Q h=>#[by show 6<=sizeLine;decide,h]) #[J,J] ϰ J J (λN x=>(pv 1)) J T.Av T.Bd T.Bc (λN x=>(pa1 yz)) yo (yt4 yo))));erw[.ref l,"list",1000000,J,.lst O,.inr #[_,#[l,J,O,ó _,by rwa[bL,hz],?_],λH1 S1=>?_]]
 .rw[yej I,Bool.and_true,bL,bV ()]
 ext;erw[ys3 ?_,←l,_,J,.inl (SqL.of (S1 _ _ O)),λU hdl0=>?_];exists hdl0,H2,S2,hdl2;ext;intro r L g G a2;have Y:y7 H2 (upd (upd H2 L (.own r)) r (.ins a.A4 L [])):=λb o e=>by rwa[yk (yb e g),yk (yb e G),e]
 erw[r,L,U,d,J,ya,Y _ _ hdl2,λW h3 b3=>#[J,?_]];let a0:=h3.me;let n:=S1.trans S2;have S3:y7 H2 W:=λb o e=>b3 _ _ (Y _ _ e) (yb e g);let q:=n.trans S3;have u:∀{f:Hp},But r W f->y7 H f:=λς b o e=>ς _ _ (q _ _ e) (yb (n _ _ e) g);ext;erw[r,L,U,C,P,d,J,h3,I,S,hK,λz st X f hS ς n4=>k z st X f hS (u ς) λy hy=>q.free (n4 y hy),λz c f hc ς=>?_];let S4:=u ς;have j:∀{p:qa}{o:HO},f p=none->y7 H (upd f p o):=λv b o e=>ye (yb (S4 _ _ e) v) (S4 _ _ e);rcases hc with rfl|rfl
 .erw[yy7 (λD t=>?_) λp v=>vj0 (Z z none _ (j v))];simp only[bZ,List.not_mem_nil,or_false]at t;rcases t with rfl|rfl|rfl|rfl|rfl|rfl
  .erw[T.E6]
  .erw[T.Cv]
  .erw[T.Cw]
  .erw[T.D8]
  .erw[T.De]
  .erw[T.E7]
 erw[vi7 (λD t=>?_) #[a.B0,(by simp),T.Ga] T.Vk λx p hx v ne=>?_]
 .simp only[bZ,List.not_mem_nil,or_false]at t;rcases t with rfl|rfl|rfl|rfl|rfl|rfl
  .erw[_,T.Mm]
  .erw[_,T.Et]
  .erw[_,T.Eu]
  .erw[_,T.Gb]
  .erw[_,T.Hh]
  .erw[_,T.Ga]
 ext;exists (by walk_at "len"),Z z _ _ (j v)
noncomputable def hxS:Str:=Str.ofString "0123456789abcdef"
def hxC(i:Nat):Nat:=hxS.cps.toList.getD i 0
def ygm:↑hxS=16:=(by right)
def ypv:∀i:Fin 16,hxS.cps[i.val]?=some (hxC i.val):=(by right)
def hx2(s:Int):Str:=⟨(List.toArray [hxC (s/16).toNat,hxC (s%16).toNat])⟩
def hxV:V->V
 | .int s=>.str (hx2 s)
 |v=>v
def uo(ts:Ο):Str:=Str.join ⟨#[]⟩ (ts.map hx2)
theorem Ç:∀ts:Ο,(uo ts).cps.toList=ts.flatMap λs=>[hxC (s/16).toNat,hxC (s%16).toNat]
 |[]=>rfl
 |[s]=>rfl
 |s::t::r=>by
  show (hx2 s++⟨#[]⟩++uo (t::r)).cps.toList=_;rw[Str.cps_append,Str.cps_append,Array.toList_append,Array.toList_append,Ç (t::r)];rfl
def ud(ts:Ο):↑(uo ts)=2*↑ts:=by
 rw[zw,Ç]
 induction ts with
 |nil=>rfl
 |cons s r ih=>rw[List.flatMap_cons,bQ,ih,cn];show 2+_=2*(↑r+1);omega
def ysg(ts:Ο):((ts.map hx2).map λx:Str=>↑x).sum=2*↑ts:=by
 induction ts with
 |nil=>rfl
 |cons t r ih=>rw[cO,cO,List.sum_cons,ih,cn];show 2+_=2*(↑r+1);omega
#synth ∀(K:xy),∀(l:qa)(ts:Ο)(_:vs=[.ref l])(_:SqL K H l ↥ts)(_:Byt ts)(_:↑ts<=100000)(_:∀H',y7 H H'->Q (.str (uo ts)) H'),ytr
def yef:(Df.v P w mg Γ) T.Ep 1 (ytr K):=by
 exists Ep,["signs"],t;let#[l,d,J,g,p,z,k]:=h;exists 1,0,yc (yn (zb PySem.F.plainAttrs_str PySem.F.slot_str_join PySem.F.type_str_join Ĕ yz (pa1 (vx (js:=[]) (ys:=[]) J (we (pv 0)) (λC r q u=>(ym vg (xh (zv J T.Ap) (ym vk (pv 0) yg) (λZ Z=>rfl)) (xh (zv J T.Ap) (ym xb (pv 0) yg) (λZ Z=>rfl)))) J J (hyc:=yw) (hrel:=yw)))));erw[J,?_,←l,J,#[_,g],λD m=>?_,<-zt hxV g m (λi y G j S b=>?_) (λG S b=>?_)]
 .let#[c,J,e,_,_]:=ju j;let#[x,v]:=p c e;ext;exists hxS,c/16,_,J,J,(),(),by rw[ygm];omega,ypv #[(c/16).toNat,()],?_
  ext;erw[hxS,c%16,_,J,J,(),(),by rw[ygm];omega,ypv #[(c%16).toNat,()],?_]
  erw[_,_,J,J,by show 1+1<=_;decide,?_]
  erw[Mp.done m (vi (by rw[bL];omega)) j S b J]
 .ext;have b:G D\((d.map hx2).map V.str):=by rw[b,cM,cM];rfl
  erw[⟨#[]⟩,D,d.map hx2,J,J,SqL.of b,?_,k G S];rw[ysg];show 2*↑d+_*0<=_;omega
noncomputable def nib(ts:Ο):qj Nat:=ts.flatMap λs=>[(s/16).toNat,(s%16).toNat]
def ylg(ts:Ο):(uo ts).cps.toList=(nib ts).map hxC:=by rw[Ç];unfold nib;rw[List.map_flatMap];rfl
def vak(h:Byt ts):∀k,k∈nib ts->k<16:=λk a=>by
 let#[s,b,a]:=List.mem_flatMap.mp a;let#[d,c]:=h s b;rcases bZ.mp a with rfl|a
 .omega
 .rw[bX.mp a];omega
def yun(ts:Ο):↑(nib ts)=2*↑ts:=by
 induction ts with
 |nil=>rfl
 |cons s r ih =>
  unfold nib at ih⊢;rw[List.flatMap_cons,bQ,ih,cn];show 2+_=2*(↑r+1);omega
theorem yte:∀{ts:Ο}{i:Nat}{s:Int},ts[i]?=some s->(nib ts)[2*i]?=some (s/16).toNat/\(nib ts)[2*i+1]?=some (s%16).toNat
 |t::r,0,s,h=>by
  cases h;erw[J,rfl]
 |t::r,i+1,s,h=>yte (ts:=r) (i:=i) h
def yq3:∀k:Fin 16,Builtin.Str.occurrences hxS ⟨#[hxC k.val]⟩ 0 ↑hxS 1=[k.val]:=(by right)
#synth ∀(ts:Ο)(_:vs=[.str (uo ts)])(_:Byt ts)(_:↑ts<=40000)(_:∀l H',H l=none->H' l\↥ts->y7 H H'->Q ⇑l H'),ynu
def yek:(Df.v P w mg Γ) T.Er 1 ynu:=by
 exists Er,["word","worths"],hr;let#[b,J,N,hz,k]:=h;let W:=ud b;exists 1,1,yf (vz (PW.pt (Ŀ (yq xo (ym xb (pcB u8 T.A9 (pav 0)) yg) yg (yy _)) (é (u5 (u6 (pcB (À J) T.Eh (pa1 (vx (js:=[]) (ys:=[]) J (ygw (pv 0)) (λC R H2 M=>(zg yb6 (pv 0) (zv J T.Ap) (by with_unfolding_all rfl))) J J (hyc:=yw) (hrel:=yw))))))))) (yc Á) yx) (yf (π (i:=1) ϰ J (Or.inr J) (vx (js:=[]) (ys:=[]) J (ygw (pv 0)) (λC R H2 M=>(yrd (K:=K) (r:=(yeb)) J PySem.F.plainAttrs_str PySem.F.slot_str_index PySem.F.type_str_index ych (zv J T.Ap) (pav 0))) J J (hyc:=yw) (hrel:=yw))) (yc (yn (vx (js:=[1]) (ys:=["worths"]) J (yjo J T.Ao (pac yg (pac (pcB yp T.A9 (pav 1)) (pa1 yg)))) (λC R H2 M=>(ym v9 (ym xa yg (pix (r:=yty K) vn (pv 1) (pv 0))) (pix (r:=yty K) vn (pv 1) (ym v9 (pv 0) yg)))) J J (hyc:=(all_cons J yw)) (hrel:=(all_cons J yw))))));erw[_,J,vw (),?_];ext;rwa[cj (show ¬((↑(uo b):Int)%2=1) by omega),υ ?_];ext;let B:=yun b
 have L:(uo b).cps.size=↑(nib b):=by
  let e:=congrArg List.length (ylg b);rw[bL,dg]at e;erw[e]
 have q:∀{i c:Nat},(uo b).cps[i]?=some c->∃k,(nib b)[i]?=some k/\k<16/\c=hxC k:=λ{i c}e=>by
  rw[<- Array.getElem?_toList,ylg,bU]at e;let#[k,n,J]:=dI.mp e;erw[k,n,vak N k (ck n),rfl]
 erw[_,J,λD O=>?_,<-ß (λF=>.bl true) O (λi c G ς l S I=>?_) (λG S I=>?_)]
 .let#[k,n,g,J]:=q ς;ext;erw[_,_,J,J,?_,<-Mp.doneR O (vi ()) l S I ?_];show V.bl (!(Builtin.Str.occurrences hxS ⟨#[hxC k]⟩ 0 ↑hxS 1).isEmpty)=_;rw[yq3 #[k,g]];rfl
 ext;erw[D,(List.range (uo b).cps.size).map λF=>true,J,SqL.of (by rw[I,cM];rfl),?_];rw[show ((List.range (uo b).cps.size).map λF=>true).all id=true by rwa[List.all_eq_true,λx hx=>by let#[_,_,e]:=bW.mp hx;erw[e.symm]]];ext;erw[_,J,λU o=>?_,<-ß (λi=>.int (((nib b).getD i 0:Nat):Int)) o (λi c Z ς l t d=>?_) (λZ t d=>?_)]
 .let#[k,n,g,J]:=q ς;ext;erw[J,?_,←hxS,_,k,[],J,J,yq3 #[k,g],?_,<-Mp.doneR o (vi ()) l t d ?_];rw[cL,n];rfl
 rw[L]at d
 have Y:Z U\((nib b).map λk=>V.int ((k:Nat):Int)):=by
  rw[d]
  congr 2
  erw[List.ext_getElem? λi=>?_];rw[bU,bU];rcases Nat.lt_or_ge i ↑(nib b) with z|z
  .rw[dh z,bP z];show some (V.int (((nib b).getD i 0:Nat):Int))=_;rw[cL,bP z];rfl
  .rw[cQ (by rwa[cS,z]),cQ z];rfl
 ext;erw[U,_,J,.inl (SqL.of Y),?_];rw[bL,B];ext;erw[0,((2*↑b:Nat):Int),2,J,(),λD3 j=>?_];rw[show rgN 0 ((2*↑b:Nat):Int) 2=↑b by unfold rgN;split<;>omega];erw[yaf (λi=>.int (b.getD i 0)) j (λi X l u f=>?_) (λX u f=>?_)]
 .let p:=bP l;let#[n1,n2]:=yte p;let#[b0,b1]:=N _ (cE l);let m:=u _ _ Y;ext;rw[show (0:Int)+(i:Int)*2=((2*i:Nat):Int) by omega];erw[ul (v:=.int ((b[i]/16).toNat:Nat)) (SqL.of m) (wb (by rw[bU,n1];rfl)) ?_];ext;rw[show ((2*i:Nat):Int)+1=((2*i+1:Nat):Int) by omega];erw[ul (v:=.int ((b[i]%16).toNat:Nat)) (SqL.of m) (wb (by rw[bU,n2];rfl)) ?_,←Mp.doneR j (vi ()) l u f ?_];rw[cL,p];show V.int _=V.int b[i]
  congr 1
  omega
 erw[k D3 X (S.free (t.free j)) ?_ (S.trans (t.trans u))];rw[f]
 congr 2
 erw[List.ext_getElem? λi=>?_];rw[bU,bU];rcases Nat.lt_or_ge i ↑b with z|z
 .rw[dh z,bP z];show some (V.int (b.getD i 0))=_;rw[cL,bP z];rfl
 .rw[cQ (by rwa[cS,z]),cQ z];rfl
#synth ∀(x:Υ)(_:vs=[baV x])(_:Q (.str (x.getD !"-")) H),ynf
def yks:(Df.v P w mg Γ) T.Gz 1 ynf:=by
 exists Gz,["base"],f;let#[x,J,k]:=h;exists 1,0,yc (yn (j4 (yq ycq (pv 0) u9 (yy _)) (zv J T.Ie) (pv 0)))
 cases x with
 |none =>
  erw[z9 (λZ=>?_) (λz=>absurd J z),←k]
 |some b =>
  erw[z9 (λz=>nomatch z) (λZ=>?_)]
  ext;erw[k]
noncomputable def DX(Z:Sx)(dk:qa):Sx:=#[λy=>Z.w y\/y=dk,λy=>Z.f y\/y=dk]
inductive Dk(K:xy)(a:Ads)(H:Hp)(dk:qa)(C:Cf)(P:qj Pd)(X:Sx):Prop
 |mk(dd st:qa)(Z:Sx)(me:H dk∩a.Aj dd (ć ⇑st))(s:Sto K a H st C P Z)(n:¬Z.f dk)(x:X=DX Z dk)
end
section
mutual
variable{H H':Hp}{dk:qa}{C:Cf}{P P':qj Pd}{X Y Z Z':Sx}
theorem Dk.same(h:Dk K a H dk C P X)(S:y7 H H'):Dk K a H' dk C P X:=by let#[d,b,Z,c,s,n,J]:=h;erw[d,b,Z,S _ _ c,s.same S,n,rfl]
theorem Dk.live(h:Dk K a H dk C P X):∀y,X.f y->∃o,H y=some o:=by
 let#[d,c,Z,b,s,n,J]:=h;rintro y (w|rfl)
 .erw[s.live y w]
 .erw[_,b]
theorem Dk.wf(h:Dk K a H dk C P X):∀y,X.w y->X.f y:=by
 let#[d,b,Z,c,s,n,J]:=h;rintro y (w|rfl)
 .erw[.inl (s.wf y w)]
 .erw[.inr J]
theorem Dk.sh(h:Dk K a H dk C P X):WSh H X.w:=by
 let#[d,c,Z,b,s,n,J]:=h;rintro y (w|rfl)
 .erw[s.sh y w]
 .erw[_,b,.inl J]
theorem Dk.frame(h:Dk K a H dk C P X)(sh:WSh H W2)(dj:∀y,X.f y->¬W2 y)(fr:∀y o,H y=some o->¬W2 y->H' y=some o):Dk K a H' dk C P X:=by let#[d,b,Z,c,s,n,J]:=h;erw[d,b,Z,fr _ _ c (dj _ (.inr J)),s.frame sh (λy w=>dj y (.inl w)) fr,n,rfl]
theorem Dk.pw(h:Dk K a H dk C P X):PdW P:=by let#[d,b,Z,c,s,n,J]:=h;erw[s.pw]
def DX.gx{o:HO}(g:Gx Z H H' Z')(e:H dk=some o):Gx (DX Z dk) H H' (DX Z' dk):=by exists#[λc o e n=>g.g.fr _ _ e λw=>n (.inl w),λc w=>w.elim (λw=>(g.g.nw c w).imp .inl id) λw=>.inl (.inr w),g.g.lv],λc w=>w.elim (λw=>(g.f c w).imp .inl id) λw=>.inl (.inr w)
def Dk.of{dd:qa}(me:H dk∩a.Aj dd (ć ⇑st))(s:Sto K a H st C P Z)(n:¬Z.f dk)(s':Sto K a H' st C P' Z')(g:Gx Z H H' Z'):Dk K a H' dk C P' (DX Z' dk)/\Gx (DX Z dk) H H' (DX Z' dk) :=
 #[#[dd,st,Z',g.g.fr _ _ me λw=>n (s.wf _ w),s',(λw=>(g.f dk w).elim n λe=>by rw[me]at e;cases e),J],DX.gx g me]
end
end
mutual
theorem ywv : yi ["self","looks","most"] ["self","looks","most"] (yd (yt (top 115) 0)):=wc (by decide +kernel)
#synth ∀(K:xy)(a:Ads),∀(dk dd l:qa)(mo w n:Nat)(lk tp:Λ)(kd:Ν)(ps:Κ)(_:vs=[.ref dk,.ref l,.int mo])(_:H dk∩a.Aj dd [])(_:H l\(refs lk n))(_:1<=n)(_:n<=6)(_:xz H n lk kd tp ps)(_:mo<=1000)(_:w<=mo)(_:w<=200)(_:∀X H',Dk K a H' dk #[n,kd,ps,mo,w] [] X->But dk H H'->(∀y,X.f y->y=dk\/H y=none)->Q .non H'),yb4
def yew:vq P w K mg Γ CX0 12 a.Gk a.Ej ["self","looks","most"] (yb4 K a):=by
 refine T.Tg.ok ywv (fun ϟ H Q E h=>?_) (fun ϟ A ϟ s H ϟ Q E M h=>?_); left;let#[p,t,l,mo,w,n,x,N,B,C,J,c,L,S,ς,U,O,G,W,k]:=h;exists 3,0,yc (y8 (pv 0) (uu T.Hw (yrg T) M.m J T.Hv T.Sz .nil ve (pac (pv 1) (pav 2))) J);intro R Z i g Y;erw[Sto.new (mo:=mo) (w:=w) i g L S ς U O G W λX H1 r u d I=>#[J,?_]];let j:=u _ _ c;have v:¬X.f p:=λz=>by rw[d p z]at c;cases c
 ext;erw[k (DX X p) _ #[t,R,X,ya,r.but (WSh.mu j J) v But.upd,v,J] (λb o e F=>ye F (u _ _ e)) λy w=>w.elim (λw=>.inr (d y w)) .inl]
theorem ylf:∀{P:qj Pd},(∀q,q∈P->↑q.nm<=8)->((P.map (·.nm)).map λx:Str=>↑x).sum<=8*↑P
 |[],_=>bT _
 |q::r,h=>by
  rw[cO,cO,List.sum_cons,cn];have:=ylf (P:=r) λq a=>h q (cF _ a);have:=h q cG;omega
#synth ∀(K:xy)(a:Ads),∀(dk:qa)(C:Cf)(P:qj Pd)(X:Sx)(v:Str)(_:vs=[.ref dk,.str v])(_:Dk K a H dk C P X)(_:((v=Str.ofString "names"/\∀H',y7 H H'->Q (.str (Str.join ⟨#[32]⟩ (P.map (·.nm)))) H')\/(v=Str.ofString "shelf"/\Byt (shB C P)/\↑(shB C P)<=100000/\∀H',y7 H H'->Q (.str (uo (shB C P))) H'))),yay
def yui:(Df.v P w mg Γ) T.Hb 7 (yay K a):=by
 exists Hb,["self","verb"],f;let#[D,C,P,X,v,J,#[N,G,Z,ς,c,n,J],h]:=h;let#[L,M,S,R,O,p]:=c.ins;erw[_,(yf (vz (yq xo (pv 1) yz (yy _)) (yc (yn (zb PySem.F.plainAttrs_str PySem.F.slot_str_join PySem.F.type_str_join Ĕ yz (pa1 (vj pfs T.A1 T.Bt.m (ycs T) f.m T.Bt.B .nil vo))))) yx) (yf (vz (yq xo (pv 1) yz (yy _)) (yc (yn (x0 (yef T) f.m T.Ep (pa1 (x0 (yvb T) f.m T.Ly (pa1 pfs)))))) yx) (yc Á))),?_];exists 2,0;rcases h with⟨rfl,k⟩|⟨rfl,o,j,k⟩
 .ext;erw[J,_,J,?_];rwa[bV J,í ?_];ext;erw[J,?_,←c.names λl y d b g=>?_,<-⟨#[32]⟩,l,P.map (·.nm),J,J,SqL.of (by rw[b,cM];rfl),?_,k _ g];let j:=c.z;let i:=ylf λq t=>xl (c.nm q t).1;rw[bL];show _+↑P*1<=_;omega
 .ext;erw[J,_,J,?_];rwa[cj ∅,υ ?_];ext;erw[J,_,J,?_];rwa[bV J,í ?_];ext;erw[G,C,P,Z,J,c,λl y d b g=>?_,←l,_,J,SqL.of b,o,j,λI u=>k I (g.trans u)]
def yia(C:Cf)(r:Pd):Int:=yx4 ↑(dec r.tx) (Ă (uf C.n C.kd C.ps (δ (r.path.map (·.2))) r.tx) (vh r.tx) ↑(dec r.tx))
def yr3{i:Nat}(h:i<↑L):txi L i=L[i].2:=by unfold txi;rw[cL,bU,bP h];rfl
#synth ∀(K:xy)(a:Ads),∀(dk:qa)(C:Cf)(P:qj Pd)(X:Sx)(b:Str)(_:vs=[.ref dk,.str b])(_:Dk K a H dk C P X)(_:nmS b=true)(_:EN a P b H E)(_:(∀r,r∈P->r.nm=b->∀Y H',Dk K a H' dk C P Y->Gx X H H' Y->Q ((yia C r):) H')),yiu
def yxh:(Df.e P w mg Γ) T.Hd 15 (yiu K a):=by
 exists Hd,I,["self","name"];let#[dk,C,P,X,b,J,#[dd,st,Z,me,p,n,J],hb,k1,k2]:=h;let#[ds,vl,vm,vp,vc,N]:=p.ins;let#[n1,n6,_,_,w2]:=p.cf;exists 2,0,yc (yn (yel (vcq T) I.m J T.Uq T.Ss.kp T.Up .nil vo (pac (vj pfs T.A1 T.Ft.m (ysa T) I.m T.Ft.B .nil vo) (pac (yu pfs T.A1 T.Fz.m (yp7 T) I.m T.Fz.B .nil yo (pav 1)) (pa1 (yu pfs T.A1 T.Lt.m (vbh T) I.m T.Lt.B .nil yo (pav 1)))))));erw[p.tlooks λl lk tp H1 ς a0 a2 D=>?_];let j:=p.same D;let a4:=D _ _ N;let t:=D _ _ me;ext;erw[st,C,P,Z,b,J,j,hb,(λU H2 S2=>k1 U H2 (D.trans S2)),λr d e Z2 q H2 c g2 aa hq=>?_];let S:=g2.g.fr _ _ t λw=>n (j.wf _ w);let#[ad,ac,a7,a9,a8,a5]:=c.ins;let a6:=p.nm r d;ext;erw[st,C,P,Z2,b,J,c,hb,(λU=>absurd e (U r d)),λy L e2 Z3 q3 cx H3 Y g3 a3 a1 M=>?_];obtain rfl:=Ċ p.nd L d (e2.trans e.symm);let k:=p.sz y d
 have u:∀{x:qa}{o:HO},H1 x=some o->¬Z.f x->H2 x=some o/\H3 x=some o:=λ{x o}e nx=>by
  let G:=Kf.go #[e,nx] j g2;erw[G.1,(G.go c g3).1]
 have nl:∀{x:qa},H x=none->¬Z.f x:=λ{x}e w=>by
  let#[o,e']:=p.live x w;rw[e]at e';cases e'
 let W:=(u a0 (nl ς)).2;have O:xz H3 C.n lk C.kd tp C.ps:=a2.fr λx xs e=>(u e (j.ntup e)).2;let z:=(hq.go c g3).1;ext;erw[l,q,.ref q3,C.n,lk,C.kd,tp,C.ps,y.tx,y.path.length,C.w,cx,txi y.path,J,#[W,n1,n6,O,#[z,k.1,()],#[.inr #[q3,J,a1.1],λi v=>#[(M i v).2.2.1,?_,?_]],(),(),?_],λH4 S4=>?_]
 .rw[yr3 v];erw[(k.2.2.2 _ (cE v)).1]
 .rw[yr3 v];erw[(k.2.2.2 _ (cE v)).2]
 .let hm:=Nat.mul_le_mul k.2.2.1 (show 9*C.w+1<=1801 by omega);omega
 .rw[yjz];let#[h1,G]:=Dk.of t j n c g2;let#[h3,h4]:=Dk.of S c (λw=>(g2.f dk w).elim n λe=>by rw[t]at e;cases e) Y g3;erw[k2 y d e _ H4 (h3.same S4) (((G.trans h4).same S4).ahead D)]
noncomputable def wdA(i:Nat):Str:=[Str.ofString "get",Str.ofString "base",Str.ofString "bytes",Str.ofString "cost",Str.ofString "drop",Str.ofString "best",Str.ofString "open"].getD i (Str.ofString "")
def ye4{i:Nat}{A B:Prop}(hi:i<7)(hj:j<7)(h1:i=j->A)(h2:i≠j->B):if decide (V.str (wdA i)=V.str (wdA j))=true then A else B:=by
 by_cases z:i=j
 .rw[z,bV J];erw[í (h1 z)]
 .rw[cj λe=>z (congrArg Fin.val ((by right:∀x y:Fin 7,wdA x.val=wdA y.val->x=y) #[i,hi] #[j,hj] (V.str.inj e)))];erw[υ (h2 z)]
inductive SW(K:xy)(a:Ads)(H:Hp)(dk:qa)(C:Cf)(P:qj Pd)(X:Sx)(Q:VK)(E:XK)(b:Str):Nat->Prop
 |get (hb:nmS b=true) (k1:EN a P b H E) (k2:∀r,r∈P->r.nm=b->∀Y H',Dk K a H' dk C P Y->Gx X H H' Y->Q (.str (uo r.tx)) H'):SW K a H dk C P X Q E b 0
 |bas (hb:nmS b=true) (k1:EN a P b H E) (k2:∀r,r∈P->r.nm=b->∀H',y7 H H'->Q (.str (r.bs.getD !"-")) H'):SW K a H dk C P X Q E b 1
 |bytes (hb:nmS b=true) (k1:EN a P b H E) (k2:∀r,r∈P->r.nm=b->∀H',y7 H H'->Q (.str (uo (r.by C))) H'):SW K a H dk C P X Q E b 2
 |cost (hb:nmS b=true) (k1:EN a P b H E) (k2:∀r,r∈P->r.nm=b->(yia C r).natAbs.log2<1920/\∀Y H',Dk K a H' dk C P Y->Gx X H H' Y->Q (.str (toString (yia C r))) H'):SW K a H dk C P X Q E b 3
 |drop (k1:∃r,r∈P/\r.nm=b) (k2:∀q,q∈P->q.bs≠some b) (k3:∀Y H',Dk K a H' dk C (P.filter λq=>decide (q.nm≠b)) Y->Gx X H H' Y->Q (.str !"ok") H'):SW K a H dk C P X Q E b 4
 |best (ts:Ο) (e:b=uo ts) (hs:Sgs ts) (hl:ts.length<=C.mo) (k:∀Y H',Dk K a H' dk C P Y->Gx X H H' Y->Q (.str ((ye3 C P ts).getD !"-")) H'):SW K a H dk C P X Q E b 5
 |opn (C2:Cf) (P2:qj Pd) (d:Ο) (e:b=uo d) (hb:Byt d) (hz:d.length<=40000) (ok:ym7 C2 P2) (hk:ShK C2 P2 d) (k:d=shB C2 P2->∀Y H',Dk K a H' dk C2 P2 Y->But dk H H'->(∀y,Y.f y->y=dk\/H y=none)->Q (.str !"ok") H') (k':d≠shB C2 P2->∀dd H',y7 H H'->E (.ref a.A7) dd H'):SW K a H dk C P X Q E b 6
def SW.lt{H:Hp}{dk:qa}{C:Cf}{P:qj Pd}{X:Sx}{Q:VK}{E:XK}{b:Str}{i:Nat}(h:SW K a H dk C P X Q E b i):i<7:=by cases h<;>decide
#synth ∀(K:xy)(a:Ads),∀(dk:qa)(C:Cf)(P:qj Pd)(X:Sx)(i:Nat)(b:Str)(_:vs=[.ref dk,.str (wdA i),.str b])(_:Dk K a H dk C P X)(_:SW K a H dk C P X Q E b i),ykw
def yxv:(Df.e P w mg Γ) T.Hc 17 (ykw K a):=by
 exists Hc,p,["self","verb","word"];let#[dk,C,P,X,i,b,J,#[dd,O,Z,N,t,n,J],h]:=h;let#[ds,vl,vm,vp,vc,a4]:=t.ins;let a0:=t.cf;let I:=h.lt;erw[yh (vz (yq xo (pv 1) yz (yy _)) (yc (yn (x0 (yef T) p.m T.Ep (pa1 (yu pfs T.A1 T.Fz.m (yp7 T) p.m T.Fz.B .nil yo (pav 2)))))) yx) ?_,<-yh (vz (yq xo (pv 1) yz (yy _)) (yc (yn (x0 (yef T) p.m T.Ep (pa1 (yu pfs T.A1 T.G0.m (yqz T) p.m T.G0.B .nil yo (pav 2)))))) yx) ?_,<-yh (vz (yq xo (pv 1) yz (yy _)) (yc (yn (x0 (yks T) p.m T.Gz (pa1 (yu pfs T.A1 T.G6.m (ytn T) p.m T.G6.B .nil yo (pav 2)))))) yx) ?_,<-yh (vz (yq xo (pv 1) yz (yy _)) (yc (yn (pcT ybv T.Hy (pa1 (yu (pv 0) T.Ab T.Hd.m (yxh T) p.m T.Hd.B .nil yo (pav 2)))))) yx) ?_,<-yh (vz (yq xo (pv 1) yz (yy _)) (yf (yv (yu pfs T.A1 T.Lu.m (vbu T) p.m T.Lu.B .nil yo (pav 2))) (yc (yn (zv J T.Hj)))) yx) ?_,<-yh (vz (yq xo (pv 1) yz (yy _)) (yc (yn (x0 (yks T) p.m T.Gz (pa1 (yu pfs T.A1 T.Lv.m (vdq T) p.m T.Lv.B .nil yo (pa1 (x0 (yek T) p.m T.Er (pav 2)))))))) yx) ?_,<-yh (vz (yq xo (pv 1) yz (yy _)) (yf (y8 (pv 0) (uk (yxb T) p.m T.M0 yo (pa1 (x0 (yek T) p.m T.Er (pav 2)))) J) (yc (yn (zv J T.Hj)))) yx) ?_];exists 3,0,yc (wn J T.C6 T.D7 (pa1 yz));erw[J,_,J,?_,<-ye4 (j:=0) I ∅ (λz=>?_) (λn0=>?_)]
 .subst z
  cases h with
  |get hb k1 k2 =>
   ext;erw[O,C,P,Z,b,J,t,hb,k1,λr c e Y q G ς g1 a5 hq=>?_];let#[W,R]:=Dk.of N t n ς g1;let hz:=t.sz r c;ext;erw[q,r.tx,J,SqL.of hq.1,hz.1,(),λM D=>k2 r c e _ M (W.same D) (R.same D)]
 ext;erw[J,_,J,?_,<-ye4 (j:=2) I ∅ (λz=>?_) (λn2=>?_)]
 .subst z
  cases h with
  |bytes hb k1 k2 =>
   ext;erw[O,C,P,Z,b,J,t,hb,k1,λr c e l G S v u=>?_];let hz:=t.sz r c;let ho:=Ė (n:=C.n) (kd:=C.kd) (ps:=C.ps) (pre:=δ (r.path.map (·.2))) (ts:=r.tx) a0.1 a0.2.1 (uq _) ();have ho:↑(r.by C)<=5500:=ho;ext;erw[l,r.by C,J,SqL.of v,ū _,(),λM D=>k2 r c e M (u.trans D)]
 ext;erw[J,_,J,?_,<-ye4 (j:=1) I ∅ (λz=>?_) (λn1=>?_)]
 .subst z
  cases h with
  |bas hb k1 k2 =>
   ext;erw[O,C,P,Z,b,J,t,hb,k1,λr c e G u=>?_,←r.bs,J,k2 r c e G u]
 ext;erw[J,_,J,?_,<-ye4 (j:=3) I ∅ (λz=>?_) (λn3=>?_)]
 .subst z
  cases h with
  |cost hb k1 k2 =>
   ext;erw[dk,C,P,_,b,J,#[dd,O,Z,N,t,n,J],hb,k1,λr c e Y G hD g=>?_];let#[z,k2]:=k2 r c e;erw[_,J,z,k2 Y G hD g]
 ext;erw[J,_,J,?_,<-ye4 (j:=4) I ∅ (λz=>?_) (λn4=>?_)]
 .subst z
  cases h with
  |drop k1 k2 k3 =>
   ext;erw[O,C,P,Z,b,J,t,k1,k2,λY G ς g1=>?_];let#[W,R]:=Dk.of N t n ς g1;ext;erw[k3 _ _ W R]
 ext;erw[J,_,J,?_,<-ye4 (j:=5) I ∅ (λz=>?_) (λn5=>?_)]
 .subst z
  cases h with
  |best ts e hs hl k =>
   subst e;ext;erw[ts,J,hs,(),λl G S v u=>?_]
   ext;erw[O,C,P,Z,l,ts,J,t.same u,#[v,hs,hl],λZ2 M L g2=>?_];let#[W,R]:=Dk.of (u _ _ N) (t.same u) n L g2;ext;erw[_,J,k _ _ W (R.ahead u)]
 ext;erw[J,_,J,?_,<-ye4 (j:=6) I ∅ (λz=>?_) (λn6=>?_)]
 .subst z
  cases h with
  |opn C2 P2 d e hb2 hz ok hk k k' =>
   subst e;ext;erw[d,J,hb2,hz,λl G S v u=>?_,←l,C2,P2,d,J,v,hb2,(),ok,hk,λz a1 Z2 M L D n2=>?_,λz dd M D=>k' z dd M (u.trans D)]
   let U:=u.trans D;let a3:=U _ _ N
   have nz:¬Z2.f dk:=λw=>by
    let e:=u _ _ N;rw[n2 dk w]at e;cases e
   ext;erw[k z (DX Z2 dk) _ #[dd,a1,Z2,ya,L.but (WSh.mu a3 J) nz But.upd,nz,J] (λb o e ne=>ye ne (U _ _ e)) λy w=>w.elim (λw=>.inr (u.free (n2 y w))) .inl]
 have z:i=0\/i=2\/i=1\/i=3\/i=4\/i=5\/i=6:=(by right:∀x:Fin 7,x.val=0\/x.val=2\/x.val=1\/x.val=3\/x.val=4\/x.val=5\/x.val=6) #[i,I];rcases z with z|z|z|z|z|z|z<;>contradiction
#synth ∀(K:xy)(a:Ads),∀(dk:qa)(C:Cf)(P:qj Pd)(X:Sx)(b:Str)(ts:Ο)(x:Υ)(L:Η)(_:vs=[.ref dk,.str b,.str (uo ts),baV x])(_:Dk K a H dk C P X)(_:okN b)(_:Sgs ts)(_:↑ts<=C.w)(_:(∀q,q∈P->q.nm≠b))(_:ToD P x L)(_:↑P<60)(_:∀Y H',Dk K a H' dk C (P++[#[b,x,L,ts]]) Y->Gx X H H' Y->Q (.str !"ok") H'),ygf
def yk1:(Df.e P w mg Γ) T.Dt 14 (ygf K a):=by
 exists Dt,q,["self","name","word","base"];let#[I,C,P,X,b,i,x,L,J,#[Y,M,Z,B,o,n,J],u,d,e,ς,D,N,k]:=h;let O:=o.cf;let#[S,W,vm,vp,vc,v]:=o.ins;exists 4,0,yf (yv (yu pfs T.A1 T.Uu (vcr T) q.m T.Ut .nil yo (pac (pv 1) (pac (x0 (yek T) q.m T.Er (pav 2)) (pav 3))))) (yc (yn (zv J T.Hj)));erw[i,J,d,(),λl U t j p=>?_]
 let c:=o.same p;ext;erw[M,C,P,Z,b,x,L,l,i,J,c,u,#[j,d,e],ς,D,N,λR H2 g g2=>?_];ext;let#[z,r]:=Dk.of (p _ _ B) c n g g2;erw[k _ _ z (r.ahead p)]
#synth ∀(K:xy)(a:Ads),∀(dk dd:qa)(vd:V)(ws:Ρ)(_:vs=[.ref dk,.str (Str.join ⟨#[32]⟩ ws)])(_:H dk∩a.Aj dd (ć vd))(_:(∀w,w∈ws->32∉w.cps.toList))(_:↑(Str.join ⟨#[32]⟩ ws)<=100000)(_:((∃v,ws=[v]/\∀H1,y7 H H1->yay K a [.ref dk,.str v] H1 Q E0)\/(∃v b,ws=[v,b]/\∀H1,y7 H H1->ykw K a [.ref dk,.str v,.str b] H1 Q E)\/(∃b t,ws=[Str.ofString "put",b,t]/\∀H1,y7 H H1->ygf K a [.ref dk,.str b,.str t,.non] H1 Q E)\/∃b y t,ws=[Str.ofString "put",b,Str.ofString "on",y,t]/\∀H1,y7 H H1->ygf K a [.ref dk,.str b,.str t,.str y] H1 Q E)),Ľ
def ug:(Df.e P w mg Γ) T.Aa 18 (Ľ K a):=by
 exists Aa,c,["self","row","words"];let#[p,o,r,f,J,q,i,u,h]:=h
 have d:f≠[]:=by
  rcases h with⟨v,rfl,_⟩|⟨v,b,rfl,_⟩|⟨b,t,rfl,_⟩|⟨b,y,t,rfl,_⟩<;>erw[List.cons_ne_nil _ _]
 erw[yh (vz (u5 (u6 (pcB wy T.A5 (pac (pv 1) (pa1 (j9 (T:="str") J T.Hy (by right))))))) (yc (wn J T.C6 T.D7 (pa1 yz))) yx) ?_,<-yh (pst 2 ϰ (zb PySem.F.plainAttrs_str PySem.F.slot_str_split PySem.F.type_str_split ype (pv 1) (pa1 yz))) ?_,<-yh (vz (yq xo (pcB yp T.A9 (pav 2)) yg (yy _)) (yc (yn (wv (pv 0) T.Ab T.Hb.m (yui T) c.m T.Hb.B .nil vo (pav 1)))) yx) ?_,<-yh (vz (yq xo (pcB yp T.A9 (pav 2)) yg (yy _)) (yc (yn (yu (pv 0) T.Ab T.Hc.m (yxv T) c.m T.Hc.B .nil yo (pac (pix vn (pv 2) yg) (pa1 (pix vn (pv 2) yg)))))) yx) ?_,<-yh (vz (PW.pt (ycw (yq xo (pix vn (pv 2) yg) yz (yy _)) (ybd (yq xo (pcB yp T.A9 (pav 2)) yg (yy _))))) (yc (yn (yu (pv 0) T.Ab T.Dt.m (yk1 T) c.m T.Dt.B .nil yo (pac (pix vn (pv 2) yg) (pac (pix vn (pv 2) yg) (pa1 u9)))))) yx) ?_,<-yh (vz (PW.pt (ycw (yq xo (pix vn (pv 2) yg) yz (yy _)) (ycw (yq xo (pcB yp T.A9 (pav 2)) yg (yy _)) (ybd (yq xo (pix vn (pv 2) yg) yz (yy _)))))) (yc (yn (yu (pv 0) T.Ab T.Dt.m (yk1 T) c.m T.Dt.B .nil yo (pac (pix vn (pv 2) yg) (pac (pix vn (pv 2) yg) (pa1 (pix vn (pv 2) yg))))))) yx) ?_];exists 2,1,yc (wn J T.C6 T.D7 (pa1 yz));erw[ŏ (.str _) (yfk _ _) ?_,←J,?_,←_,⟨#[32]⟩,J,J,J,u,λl hl0=>?_];rw[yhc d i];exists hl0,H1,S1,hl1;let k:=S1 _ _ q;rcases h with⟨v,rfl,h⟩|⟨v,b,rfl,h⟩|⟨b,t,rfl,h⟩|⟨b,y,t,rfl,h⟩
 .ext;erw[l,_,J,.inl (SqL.of hl1),?_];ext;rwa[bV (by rfl),í ?_];ext;erw[h H1 S1]
 .ext;erw[l,_,J,.inl (SqL.of hl1),?_,←yx7 (by assumption) ?_,←l,_,J,.inl (SqL.of hl1),?_];ext;rwa[bV (by rfl),í ?_];ext;erw[ul (v:=.str v) (SqL.of hl1) (wb (j:=0) J) ?_,←ul (v:=.str b) (SqL.of hl1) (wb (j:=1) J) ?_,←h H1 S1]
 .ext;erw[l,_,J,.inl (SqL.of hl1),?_,←yx7 (by assumption) ?_,←l,_,J,.inl (SqL.of hl1),?_,←yx7 (by assumption) ?_,←ul (v:=.str !"put") (SqL.of hl1) (wb (j:=0) J) ?_,←J,_,J,?_];rwa[bV J,í ?_];ext;erw[l,_,J,.inl (SqL.of hl1),?_];ext;rwa[bV (by rfl),í ?_];ext;erw[ul (v:=.str b) (SqL.of hl1) (wb (j:=1) J) ?_,←ul (v:=.str t) (SqL.of hl1) (wb (j:=2) J) ?_,←h H1 S1]
 .ext;erw[l,_,J,.inl (SqL.of hl1),?_,←yx7 (by assumption) ?_,←l,_,J,.inl (SqL.of hl1),?_,←yx7 (by assumption) ?_,←ul (v:=.str !"put") (SqL.of hl1) (wb (j:=0) J) ?_,←J,_,J,?_];rwa[bV J,í ?_];ext;erw[l,_,J,.inl (SqL.of hl1),?_,←yx7 (by assumption) ?_,←ul (v:=.str !"put") (SqL.of hl1) (wb (j:=0) J) ?_,←J,_,J,?_];rwa[bV J,í ?_];ext;erw[l,_,J,.inl (SqL.of hl1),?_];ext;rwa[bV (by rfl),í ?_];ext;erw[ul (v:=.str !"on") (SqL.of hl1) (wb (j:=2) J) ?_,←J,_,J,?_];rwa[bV J,í ?_];ext;erw[ul (v:=.str b) (SqL.of hl1) (wb (j:=1) J) ?_,←ul (v:=.str t) (SqL.of hl1) (wb (j:=4) J) ?_,←ul (v:=.str y) (SqL.of hl1) (wb (j:=3) J) ?_,←h H1 S1]
#synth ∀(K:xy),∀(l:qa)(ns:Ο)(j:Nat)(_:vs=[.ref l,.int j])(_:SqL K H l ↥ns)(_:j<=1000)(_:∀n:Int,0<=n->n<2147483647->Q (n:) H),yzp
def Ĺ:(Df.v P w mg Γ) T.D5 1 (yzp K):=by
 exists D5,["_law_script","_law_k","_law_cell"],q;let#[l,e,j,J,f,n,k]:=h;exists 2,1,yf (pst 2 ϰ yg) (yf (Î (vz (yq ybh (pv 1) (pcB yp T.A9 (pav 0)) (yy _)) (yc (pst 2 ϰ (ym xb (pix vn (pv 0) (pv 1)) yg))) yx)) (yc (yn (ym xb (ym xa (ym v9 (ym v9 (ym v9 (ym xa (pv 2) (pv 2)) (pv 2)) (ym xa (ym xa yg (pv 1)) (pv 1))) yg) yg) yg))));erw[ye5 (λσ' G=>H=G/\∃c:Int,σ'=[some ⇑l,some (j:),some (c:)]/\0<=c/\c<2147483629) ?_ ?_]
 .ext;erw[uz f ?_];rw[bL];ext;refine z9 (λm=>?_) (λm=>?_)
  .have b:j<↑e:=()
   ext;erw[ul (v:=V.int e[j]) f (wb (by rw[bU,bP b];rfl)) ?_,←J,_,J,dB _ ∅,dn _ ∅]
  .ext;erw[J,0,J,∅,∅]
 .rintro σ' G ⟨rfl,c,rfl,p,t⟩;have o:(0:Int)<=(j:Int)/\(j:Int)<=1000:=()
  have r:(0:Int)<=5*(j:Int)/\5*(j:Int)<=5000:=()
  ext;erw[k _ (dB _ ∅) (dn _ ∅)]
noncomputable def nmR(c:Nat)(k:Nat):Str:=⟨(List.replicate k c).toArray⟩
def yqt{c k:Nat}{z:Str}(h:z.cps.toList=(List.replicate k (⟨#[c]⟩:Str).cps.toList).flatten):z=nmR c k:=by
 have e:(List.replicate k [c]).flatten=List.replicate k c:=by
  clear h
  induction k with
  |zero=>rfl
  |succ k ih=>rw[c9,List.flatten_cons,c9,List.singleton_append,ih]
 have h:z.cps.toList=(List.replicate k [c]).flatten:=h;rw[e]at h
 cases z with|mk cps =>
 unfold nmR
 congr 1
 erw[Array.toList_inj.mp (by simpa using h)]
def ylc{c k:Nat}(h:97<=c/\c<123):ő (nmR c k).cps.toList:=λd a=>by
 have e:d∈List.replicate k c:=a;rwa[List.eq_of_mem_replicate e,h]
def OkL(x:Str):Prop:=okN x/\ő x.cps.toList
def yqw{x:Str}(h:ő x.cps.toList)(h1:1<=↑x.cps.toList)(h8:↑x.cps.toList<=8):OkL x:=#[vfe h h1 h8,h]
noncomputable def sz6:Ο:=[1,3,5,6,8,7]
noncomputable def gI(f:Int->Str):V->V
 | .int t=>.str (f t)
 |v=>v
def yz0(f:Int->Str)(ts:Ο):(↥ts).map (gI f)=(ts.map f).map V.str:=by rw[cM,cM];rfl
#synth ∀(K:xy),∀(c:Int)(_:vs=[.int c])(_:0<=c)(_:c<2147483647)(_:∀(r:qa)(ns:Ρ)(H':Hp),H r=none->H' r\(ns.map V.str)->y7 H H'->↑ns=6->ns.Nodup->(∀x,x∈ns->OkL x)->Q ⇑r H'),ykd
def yut:(Df.v P w mg Γ) T.M4 1 (ykd K):=by
 exists M4,["_law_cell","_law_small","_law_odd","_law_stem","_law_k","_law_at"],hr;let#[c,J,c0,c1,k]:=h;erw[yh (π (i:=1) ϰ J (Or.inr J) yz) ?_,<-yh (π (i:=2) ϰ J (Or.inr J) (ym xb (pv 0) yg)) ?_,<-yh (pst 0 ϰ (ym vk (pv 0) yg)) ?_,<-yh (vz (yq xo (ym xb (pv 0) yg) yg (yy _)) (yc (yn (vx (js:=[1,2]) (ys:=["_law_small","_law_odd"]) J (we (wk (pac yg (pac yg (pac yg (pac yg (pac yg (pa1 yg)))))))) (λC s2 H2 fp=>(ym ş (xh (pv 1) (pv 2) (λC C=>rfl)) (pv 0))) J J (hyc:=(all_cons J (all_cons J yw))) (hrel:=(all_cons J (all_cons J yw)))))) yx) ?_,<-yh (vz (yq xo (ym xb (pv 0) yg) yg (yy _)) (yc (yn (vx (js:=[1,2]) (ys:=["_law_small","_law_odd"]) J (ua J T.Ao (pa1 yg)) (λC s2 H2 fp=>(ym vg (xh (pv 1) (ym zi (ym v9 (pv 2) yg) (pv 0)) (λC C=>rfl)) (ym ş (xh (pv 1) (pv 2) (λC C=>rfl)) (pv 0)))) J J (hyc:=(all_cons J (all_cons J yw))) (hrel:=(all_cons J (all_cons J yw)))))) yx) ?_,<-yh (π (i:=3) ϰ J (Or.inr J) yz) ?_,<-yh (uy PassesOwn.never J (ua J T.Ao (pa1 (ym xb (ym vk (pv 0) yg) yg))) (wd (i:=4) ϰ J (Or.inl J)) (yc (π (i:=3) ϰ J (Or.inr J) (ym vg (pv 3) (xh (pv 1) (ym xb (ym vk (ym xa (pv 0) (ym v9 (pv 4) yg)) yg) yg) (λC C=>rfl)))))) ?_,<-yh (π (i:=5) ϰ J (Or.inr J) (ym xb (ym vk (pv 0) yg) (ym v9 (pcB u8 T.A9 (pav 3)) yg))) ?_];exists 1,5,yc (yn (vx (js:=[3,1,2,5]) (ys:=["_law_stem","_law_small","_law_odd","_law_at"]) J (ua J T.Ao (pa1 yg)) (λC s2 H2 fp=>(ym vg (ym vg (xv (r:=vj7) yll (pv 1) zf (uw (pv 4))) (xh (pv 2) (ym v9 (pv 3) (pv 0)) (λC C=>rfl))) (xv (r:=vj7) yll (pv 1) (uw (pv 4)) zf))) J J (hyc:=(all_cons J (all_cons J (all_cons J (all_cons J yw))))) (hrel:=(all_cons J (all_cons J (all_cons J (all_cons J yw)))))));obtain⟨o,ho,a1⟩:∃o:Nat,c%21=(o:Int)/\o<=20:=#[(c%21).toNat,(),()];rw[ho];have d0:0<=c/21:=()
 have X:c/21<2147483647:=()
 generalize c/21=p at d0 X⊢;clear c0 c1 ho c;erw[z9 (λC=>?_) (λC=>?_)]
 .clear d0 X;ext;exists (by walk_at "len"),λZ S=>?_
  let N:=y9 (o:=(HO.lst [V.int 1,V.int 3,V.int 5,V.int 6,V.int 8,V.int 7])) S;have M:upd H Z (HO.lst [V.int 1,V.int 3,V.int 5,V.int 6,V.int 8,V.int 7]) Z=some (HO.lst [V.int 1,V.int 3,V.int 5,V.int 6,V.int 8,V.int 7]):=ya;generalize upd H Z (HO.lst [V.int 1,V.int 3,V.int 5,V.int 6,V.int 8,V.int 7])=a4 at N M⊢;erw[Z,J,#[_,SqL.of M],λD f=>?_,<-zt (xs:=↥sz6) (gI λt=>nmR (97+o) t.toNat) (SqL.of M) f (λi y F hy g d=>?_) (λF g d=>?_)]
  .rw[bU]at hy;let#[t,W,J]:=dI.mp hy;have a6:1<=t/\t<=8:=(show ∀t∈sz6,1<=t/\t<=8 by decide) t (ck W);ext;let#[u,I,B,ς]:=vho (e:=o) (o:=o) () ();erw[smS,_,_,J,J,u,I,B,ς,?_];ext;exists _,_,J,J,(),(),by show 1<=_;decide,λz m=>?_
   obtain rfl:=yqt m;erw[Mp.done f (vi ∅) (by rw[bU,W];rfl) g d J]
  .rw[yz0]at d;refine k D _ F (N.free f) d (N.trans g) J ?_ λx R=>?_
   .erw[List.pairwise_map.mpr ((show sz6.Pairwise λa b=>a≠b by decide).imp_of_mem λ{a b}ha hb ne e=>ne ?_)];let h2:=(show ∀t∈sz6,1<=t/\t<=8 by decide) a ha;let h3:=(show ∀t∈sz6,1<=t/\t<=8 by decide) b hb;let Y:=congrArg (λx:Str=>↑x.cps.toList) e;simp[nmR]at Y;omega
   .let#[t,W,J]:=bW.mp R;let h2:=(show ∀t∈sz6,1<=t/\t<=8 by decide) t W;erw[yqw (ylc ()) (by simp[nmR];omega) (by simp[nmR];omega)]
 ext;erw[z9 (λC=>?_) (λC=>?_)]
 .clear d0 X;ext;exists _,J,∅,∅,λD f=>?_
  erw[ą (lo:=0) (n:=6) (λi=>.str (⟨#[97+(o+5-i)]⟩++nmR (97+o) i)) f (λi F L g d=>?_) (λF g d=>?_)]
  .ext;let#[u,I,B,ς]:=vho (e:=(o:Int)+5-(0+(i:Int))) (o:=o+5-i) () ();erw[smS,_,_,J,J,u,I,B,ς,?_];ext;let#[u,I,B,ς]:=vho (e:=o) (o:=o) () ();erw[smS,_,_,J,J,u,I,B,ς,?_];ext;exists _,_,J,J,(),(),by show 1<=_;decide,λz m=>?_
   rw[show (0+(i:Int)).toNat=i by omega]at m;obtain rfl:=yqt m;erw[_,_,J,J,by rw[sizeLine_eq,zw (nmR _ _)];simp[nmR];show 1+i<=_;omega,?_]
   erw[Mp.doneR f (vi ∅) L g d J]
  .have eF:F D\(((List.range 6).map λi=>(⟨#[97+(o+5-i)]⟩++nmR (97+o) i:Str)).map V.str):=by rw[d,cM];rfl
   erw[k D _ F f eF g J ?_ λx R=>?_]
   .erw[List.pairwise_map.mpr (List.nodup_range.imp λ{a b}ne e=>ne ?_)];let Y:=congrArg (λx:Str=>↑x.cps.toList) e;simp[xc,nmR]at Y;erw[Y]
   .let#[i,L,J]:=bW.mp R;let h3:=c8.mp L;refine yqw ?_ ?_ ?_
    .rw[xc];erw[ő.app (.one ()) (ylc ())]
    .rw[xc,bQ];show 1<=1+_;omega
    .rw[xc,bQ];simp[nmR];omega
 .obtain⟨l7,U,hl⟩:∃l:Nat,p/4%8=(l:Int)/\l<=7:=#[(p/4%8).toNat,(),()];ext;rw[U];clear U d0 X;refine#[_,J,(),(),ζ (n:=l7) (λi σ2 F=>∃(z:Str)(v:Χ),σ2=[some (p:),some (.str smS),some (o:),some (.str z),v,none]/\ő z.cps.toList/\↑z=i/\H=F)
   #[_,_,J,(λc hc=>by cases (show c∈[]from hc)),J,J] ?_ ?_]
  .rintro i σ2 F L ⟨z,v,rfl,m,G,rfl⟩;ext;let h0:=dB (p*(0+(i:Int)+3)/7) (show (26:Int)≠0 by decide);let h1:=dn (p*(0+(i:Int)+3)/7) (show (0:Int)<26 by decide);generalize p*(0+(i:Int)+3)/7%26=q at h0 h1⊢;let#[u,I,B,ς]:=vho (e:=q) (o:=q.toNat) () ();erw[smS,_,_,J,J,u,I,B,ς,?_];exists z,_,J,J,?_,?_
   .rw[G,sizeLine_eq];show i+1<=_;omega
   .ext;exists _,_,J,?_,?_,rfl
    .rw[xc];erw[m.app (.one ())]
    .rw[zw,xc,bQ,<- zw,G];rfl
  .rintro σ2 F ⟨z,v,rfl,m,G,rfl⟩;ext;exists z,J,by rw[G,sizeLine_eq];omega,?_
   ext
   obtain⟨j,hj,O⟩:∃j:Nat,p/32%((↑z:Int)+1)=(j:Int)/\j<=↑z:=by
    let h0:=dB (p/32) (show ((↑z:Int)+1)≠0 by omega);let h1:=dn (p/32) (show 0<((↑z:Int)+1) by omega);erw[(p/32%((↑z:Int)+1)).toNat,(),()]
   rw[hj];clear hj;erw[_,J,∅,∅,λD f=>?_]
   erw[ą (lo:=0) (n:=6) (λi=>.str (yp1 z j (97+o+i))) f (λi F L g d=>?_) (λF g d=>?_)]
   .ext;let a5:=Txt.slice_le z none (some (j:Int));let a2:=Txt.slice_le z (some (j:Int)) none;exists z,J,by rw[sizeLine_eq];omega,?_
    ext;let#[u,I,B,ς]:=vho (e:=(o:Int)+(0+(i:Int))) (o:=o+i) () ();erw[smS,_,_,J,J,u,I,B,ς,?_];rwa[<- Nat.add_assoc,#[_,_,J,J,by rw[sizeLine_eq];show _+1<=_;omega,?_]]
    ext;erw[z,J,by rw[sizeLine_eq];omega,?_]
    erw[_,_,J,J,?_,?_]
    .rw[sizeLine_eq,zw,xc,bQ,<- zw];show _+1+_<=_;omega
    .erw[Mp.doneR f (vi ∅) L g d J]
   .have eF:F D\(((List.range 6).map λi=>yp1 z j (97+o+i)).map V.str):=by rw[d,cM];rfl
    erw[k D _ F f eF g J (yjj O o 6) λx R=>?_];let#[i,L,J]:=bW.mp R;let h3:=c8.mp L;erw[yu1 O m () (),?_];rwa[ä O,((m.take j).app (.one ())).app (m.drop j)]
#synth ∀(K:xy),∀(l:qa)(zs:Ο)(_:vs=[.ref l])(_:SqL K H l ↥zs)(_:∀r(n:Nat)(lk:Λ)(kd:Ν)(tp:Λ)(ps:Κ)H',H r=none->H' r\(refs lk n)->1<=n->n<=6->xz H' n lk kd tp ps->y7 H H'->Q ⇑r H'),yot
def ywb:(Df.v P w mg Γ) T.M5 2 (yot K):=by
 exists M5,["_law_script","_law_looks_here","_law_k","_law_cell","_law_places"],hr;let#[l,Z,J,hl,k]:=h;erw[yh (pst 1 ϰ (wk ub)) ?_,<-yh (uy PassesOwn.never J (ua J T.Ao (pa1 (ym v9 yg (ym xb (x0 (Ĺ T) hr.m T.D5 (pac (pv 0) (pa1 yg))) yg)))) (wd (i:=2) ϰ J (Or.inl J)) (yf (pst 3 ϰ (x0 (Ĺ T) hr.m T.D5 (pac (pv 0) (pa1 (ym v9 yg (pv 2)))))) (yf (pst 4 ϰ (pix vn (wk (pac (zj ub) (pac (zj (pa1 yg)) (pac (zj (pa1 yg)) (pac (zj (pac yg (pa1 yg))) (pac (zj (pa1 (ym v9 yg (ym xb (ym vk (pv 3) yg) yg)))) (pa1 (zj (pac yg (pac yg (pac yg (pa1 yg)))))))))))) (ym xb (ym vk (pv 3) yg) yg))) (yc (yv ((zb PySem.F.plainAttrs_list PySem.F.slot_list_append PySem.F.type_list_append wz) (pv 1) (pa1 (zj (pac (pix vn (wk (pac yz (pac yz (pa1 yz)))) (ym xb (pv 3) yg)) (pav 4)))))))))) ?_];exists 1,4,yc (yn (pv 1));exists (by walk_at "len"),λL hL0=>?_
 exists hL0,H1,S1,hL1;ext;erw[l,Z,0,J,S1.seq hl,∅,λc c0 c1=>?_]
 ext;obtain⟨n,hn,n1,n6⟩:∃n:Nat,1+c%3=(n:Int)/\1<=n/\n<=6:=#[(1+c%3).toNat,(),(),()];rwa[hn,#[_,J,(),(),ζ (n:=n) (λi σ2 G=>∃(v2 X v4:Χ)(u:Λ)(v:Ν)(N:Λ)(B:Κ),σ2=[some ⇑l,some ⇑L,v2,X,v4]/\G L\(refs u i)/\xz G i u v N B/\y7 H G)
  #[_,_,_,λF=>0,λF=>0,λF=>0,λF=>[],J,hL1,λj U=>absurd U (cD j),S1] ?_ ?_]]
 .rintro i σ2 G hi ⟨v2,X,v4,u,v,N,B,rfl,gL,gR,W⟩;ext;exists l,Z,1+i,by rw[show ((1+i:Nat):Int)=1+(0+(i:Int)) by omega];rfl,W.seq hl,(),λd d0 d1=>?_
  ext;exists (by walk_at "len"),λx1 xg1=>?_
  exists xg1,xH1,xS1,xe1;ext;exists (by walk_at "len"),λx2 xg2=>?_
  exists xg2,xH2,xS2,xe2;ext;exists (by walk_at "len"),λx3 xg3=>?_
  exists xg3,xH3,xS3,xe3;ext;exists (by walk_at "len"),λx4 xg4=>?_
  exists xg4,xH4,xS4,xe4;ext;exists (by walk_at "len"),λx5 xg5=>?_
  exists xg5,xH5,xS5,xe5;ext;exists (by walk_at "len"),λx6 xg6=>?_
  exists xg6,xH6,xS6,xe6;ext;exists (by walk_at "len"),λx7 xg7=>?_
  exists xg7,xH7,xS7,xe7;let O:=xS7;let xe6:=O _ _ xe6;let R:=xS6.trans O;let xe5:=R _ _ xe5;let y:=xS5.trans R;let xe4:=y _ _ xe4;let I:=xS4.trans y;let xe3:=I _ _ xe3;let D:=xS3.trans I;let xe2:=D _ _ xe2;let C:=xS2.trans D;let xe1:=C _ _ xe1;let ς:=xS1.trans C;ext
  obtain⟨f,M,hv,hq,Y⟩:∃f M,atI [V.ref x1,V.ref x2,V.ref x3,V.ref x4,V.ref x5,V.ref x6] (d/24%6)∣f/\xH7 f∪(List.map V.int M)/\ux ↥M=true:=by
   have h0:d/24%6=0\/d/24%6=1\/d/24%6=2\/d/24%6=3\/d/24%6=4\/d/24%6=5:=()
   rcases h0 with z|z|z|z|z|z<;>rw[z]
   .erw[x1,[],J,xe1,rfl]
   .erw[x2,[1],J,xe2,rfl]
   .erw[x3,[2],J,xe3,rfl]
   .erw[x4,[1,2],J,xe4,rfl]
   .erw[x5,[1+d/3%8],J,xe5,yj5 (by show 1<=4;decide) (λp hp=>?_) (List.pairwise_singleton _ _)];rw[bX.mp hp];omega
   .erw[x6,[1,3,5,8],J,xe6,rfl]
  erw[ul (SqL.of xe7) hv ?_];let S:=ς _ _ gL;ext;erw[jn S ?_];ext;exists (by walk_at "len"),λq2 hq2=>?_
  exists hq2,G4,T4,hq4;ext;let#[kk,hk]:=yus d;erw[ul (SqL.of hq4) hk ?_];ext;exists (by walk_at "len"),λt ht=>?_
  exists ht,G7,T7,ht7;let q:=T4.trans T7;let r:=q _ _ S;let x:=ς.trans q;ext;erw[xr r (vi (by rw[vv];omega)) ?_];have g7:LkG G7 ⇑t kk f M:=#[t,J,ht7,q _ _ hq,Y];ext;erw[_,_,_,upN u i t,upN v i kk,upN N i f,upN B i M,J,?_,λj U=>?_,λb o e=>ye (yb e hL0) (x _ _ (W b o e))]
  .rw[ya,x9,wx]
   congr 3
   erw[xu λj U=>(wu U).symm]
  .by_cases z:j=i
   .subst z;rwa[wx,wx,wx,wx,g7.upd r]
   .have g:j<i:=()
    rwa[wu g,wu g,wu g,wu g,((gR j g).same x).upd r]
 .rintro σ2 G ⟨v2,X,v4,u,v,N,B,rfl,gL,gR,W⟩;ext;erw[k L n u v N B G hL0 gL n1 n6 gR W]
#synth ∀(K:xy),∀(c:Int)(m:Nat)(_:vs=[.int c,.int m])(_:0<=c)(_:c<2147483647)(_:m<=9)(_:∀r(ts:Ο)H',H r=none->H' r\↥ts->Sgs ts->↑ts<=m+3->y7 H H'->Q ⇑r H'),ypd
def ykt:(Df.v P w mg Γ) T.He 1 (ypd K):=by
 exists He,["_law_cell","_law_more","_law_size","_law_text_here","_law_k"],W;let#[c,m,J,Y,U,S,k]:=h;erw[yh (pst 2 ϰ (ym v9 (ym xb (pv 0) yg) (pv 1))) ?_,<-yh (pst 0 ϰ (ym vk (pv 0) yg)) ?_,<-yh (pst 3 ϰ (wk ub)) ?_,<-yh (uy PassesOwn.never J (ua J T.Ao (pav 2)) (wd (i:=4) ϰ J (Or.inl J)) (yf (yv ((zb PySem.F.plainAttrs_list PySem.F.slot_list_append PySem.F.type_list_append wz) (pv 3) (pa1 (ym xb (pv 0) yg)))) (yc (vz (yq yh9 (ym xb (ym vk (pv 0) yg) yg) yg (yy _)) (yc (pst 0 ϰ (ym xb (ym xa (ym vk (pv 0) yg) yg) yg))) yx)))) ?_];exists 2,3,yc (yn (pv 3));obtain⟨z,M,O⟩:∃z:Nat,c%4+(m:Int)=(z:Int)/\z<=m+3:=#[(c%4+(m:Int)).toNat,(),()];rw[M];have u:0<=c/4:=()
 have r:c/4<2147483647:=()
 generalize c/4=d at u r⊢;exists (by walk_at "len"),λt ht0=>?_
 exists ht0,H1,S1,ht1;ext;erw[_,J,(),(),ζ (n:=z) (λi σ2 G=>∃(v:Χ)(d:Int)(f:Ο),σ2=[some (d:),some (m:),some (z:),some ⇑t,v]/\0<=d/\d<2147483647/\G t\↥f/\Sgs f/\↑f=i/\y7 H G)
  #[_,d,[],J,u,r,ht1,(λx D=>by cases D),J,S1] ?_ ?_]
 .clear u r d;rintro i σ2 G X ⟨v,d,f,rfl,u,r,B,p,y,I⟩;ext;erw[jn B ?_];ext;refine xr B (vi (by rw[bL];omega)) ?_
  have g:Sgs (f++[d%256]):=λx D=>by
   rcases cA.mp D with z|z
   .erw[p x z]
   .rw[bX.mp z];omega
  have j:↑(f++[d%256])=i+1:=by rw[bQ,y];rfl
  have q:upd G t (.lst (↥f++[V.int (d%256)])) t\↥(f++[d%256]):=by rw[ya,ce];rfl
  have l:y7 H (upd G t (.lst (↥f++[V.int (d%256)]))):=λb o e=>ye (yb e ht0) (I _ _ e);generalize upd G t (.lst (↥f++[V.int (d%256)]))=R at q l⊢;ext;erw[z9 (λL=>?_) (λL=>?_)]
  .ext;erw[_,_,_,J,dB _ ∅,dn _ ∅,q,g,j,l]
  .erw[_,d,_,J,u,r,q,g,j,l]
 .rintro σ2 G ⟨v,d,f,rfl,u,r,B,p,y,I⟩;ext;erw[k t f G ht0 B p () I]
def yee:(Df.v P w mg Γ) T.Es 1 (ytr K):=by
 exists Es,["_law_signs","_law_figures"],t;let#[l,d,J,g,p,z,k]:=h;exists 1,1,yf (π (i:=1) ϰ J (Or.inr J) yz) (yc (yn (zb PySem.F.plainAttrs_str PySem.F.slot_str_join PySem.F.type_str_join Ĕ yz (pa1 (vx (js:=[1]) (ys:=["_law_figures"]) J (we (pv 0)) (λC r q u=>(ym vg (xh (pv 1) (ym vk (pv 0) yg) (λZ Z=>rfl)) (xh (pv 1) (ym xb (pv 0) yg) (λZ Z=>rfl)))) J J (hyc:=(all_cons J yw)) (hrel:=(all_cons J yw)))))));erw[J,?_,←l,J,#[_,g],λD m=>?_,<-zt hxV g m (λi y G j S b=>?_) (λG S b=>?_)]
 .let#[c,J,e,_,_]:=ju j;let#[x,v]:=p c e;ext;exists hxS,c/16,_,J,J,(),(),by rw[ygm];omega,ypv #[(c/16).toNat,()],?_
  ext;erw[hxS,c%16,_,J,J,(),(),by rw[ygm];omega,ypv #[(c%16).toNat,()],?_]
  erw[_,_,J,J,by show 1+1<=_;decide,?_]
  erw[Mp.done m (vi (by rw[bL];omega)) j S b J]
 .ext;have b:G D\((d.map hx2).map V.str):=by rw[b,cM,cM];rfl
  erw[⟨#[]⟩,D,d.map hx2,J,J,SqL.of b,?_,k G S];rw[ysg];show 2*↑d+_*0<=_;omega
end
section
mutual
variable{B H H':Hp}{dk md:qa}{C:Cf}{P:qj Pd}{X Y:Sx}{tu tx:Str->qa}
def Kf.goW{x:qa}{o:HO}(h:Kf H X x o)(wf:∀y,X.w y->X.f y)(g:Gx X H H' Y):Kf H' Y x o :=
 #[g.g.fr _ _ h.1 λw=>h.2 (wf _ w),λw=>(g.f x w).elim h.2 λe=>by rw[h.1]at e;cases e]
def Bs.goW(h:Bs B H X)(wf:∀y,X.w y->X.f y)(g:Gx X H H' Y):Bs B H' Y :=
 #[λy o e=>g.g.fr _ _ (h.s _ _ e) (λw=>by rw[h.n y (wf y w)]at e;cases e),λy w=>(g.f y w).elim (h.n y) λe=>h.s.free e]
def Dk.new(h:Dk K a H dk C P X){x:qa}(e:H x=none):¬X.f x:=λw=>by
 let#[o,b]:=h.live x w;rw[e]at b;cases b
def Dk.oth{dk2:qa}{C2:Cf}{P2:qj Pd}{X2 Y2:Sx}(h:Dk K a H dk C P X)(h2:Dk K a H dk2 C2 P2 X2)(sp:Sep X X2)(g:Gx X2 H H' Y2):Dk K a H' dk C P X/\Sep X Y2 :=
 #[h.frame h2.sh (λy w v=>sp y w (h2.wf y v)) g.g.fr,λy w v=>(g.f y v).elim (sp y w) λe=>h.new e w]
end
end
mutual
def ytt(v:String)(b:Str)(h:(Str.ofString (v++" ")).cps.toList=(Str.ofString v).cps.toList++[32]):Str.ofString (v++" ")++b=Str.join ⟨#[32]⟩ [Str.ofString v,b]:=ú (by
 rw[xc,Â,h,cq];rfl)
def yet(ws:Ρ):↑(Str.join ⟨#[32]⟩ ws)<=(ws.map λw:Str=>↑w).sum+↑ws:=by rw[<- PySem.StrLaws.glued_eq_join,PySem.size_glued];show _+(↑ws-1)*1<=_;omega
def ye7(x y:Str):↑(x++y)=↑x+↑y:=by rw[zw,xc,bQ,<- zw,<- zw]
def ygt{b:Str}(h:ő b.cps.toList):32∉b.cps.toList:=λz=>by
 have:=h 32 z;omega
def yrr{c:Nat}(hc:c∈(uo ts).cps.toList):c≠32/\c<1114112:=by
 rw[Ç]at hc;let#[s,_,b]:=List.mem_flatMap.mp hc
 have a:∀i:Nat,hxC i≠32/\hxC i<1114112:=λi=>by
  rcases Nat.lt_or_ge i 16 with h|h
  .erw[(by right:∀i:Fin 16,hxC i.val≠32/\hxC i.val<1114112) #[i,h]]
  .unfold hxC;rw[cL,cQ (by rw[show ↑hxS.cps.toList=16 by right];erw[h])];decide
 rcases bZ.mp b with e|e
 .rw[e];erw[a _]
 .rw[bX.mp e];erw[a _]
def ygv(ts:Ο):32∉(uo ts).cps.toList:=λz=>(yrr z).1 rfl
def Dk.two{H:Hp}{dk:qa}{C:Cf}{P:qj Pd}{X:Sx}{i:Nat}{b:Str}{Q:VK}{E:XK}(h:Dk K a H dk C P X)(hb:32∉b.cps.toList)(lb:↑b<=80000)(g:∀H1,y7 H H1->SW K a H1 dk C P X Q E b i):Ľ K a [.ref dk,.str (Str.join ⟨#[32]⟩ [wdA i,b])] H Q E:=by
 let#[j,o,Z,f,k,n,m]:=id h;obtain⟨e,l⟩:32∉(wdA i).cps.toList/\↑(wdA i)<=5:=(by right:∀x:Fin 7,32∉(wdA x.val).cps.toList/\↑(wdA x.val)<=5) #[i,(g H (y7.refl _)).lt];erw[dk,j,_,[wdA i,b],J,f,λw c=>?_,?_,.inr (.inl #[wdA i,b,J,λH1 d=>#[dk,C,P,X,i,b,J,h.same d,g H1 d]])]
 .rcases bZ.mp c with rfl|c
  .erw[e]
  .rw[bX.mp c];erw[hb]
 .erw[cN (yet _) ?_];show (↑(wdA i)+(↑b+0))+2<=_;omega
theorem Dk.ins{H:Hp}{dk:qa}{C:Cf}{P:qj Pd}{X:Sx}(h:Dk K a H dk C P X):∃dd vd,H dk∩a.Aj dd (ć vd):=by let#[dd,c,Z,b,_]:=h;exists dd,_,b
noncomputable def wsP(b:Str):ql Str->Str->qj Str
 |none,t=>[Str.ofString "put",b,t]
 |some y,t=>[Str.ofString "put",b,Str.ofString "on",y,t]
noncomputable def yx6(b:Str):ql Str->Str
 |none=>Str.ofString "put "++b
 |some y=>Str.ofString "put "++b++Str.ofString " on "++y
def yxl(b t:Str)(x:Υ):yx6 b x++Str.ofString " "++t=Str.join ⟨#[32]⟩ (wsP b x t):=ú (by
 cases x with
 |none =>
  rw[yx6,xc,xc,xc,wsP,Â];show ([112,117,116,32]++b.cps.toList++[32])++t.cps.toList=[112,117,116]++32::(b.cps.toList++32::t.cps.toList);simp
 |some y =>
  rw[yx6,xc,xc,xc,xc,xc,wsP,Â];show ([112,117,116,32]++b.cps.toList++[32,111,110,32])++y.cps.toList++[32]++t.cps.toList=[112,117,116]++32::(b.cps.toList++32::([111,110]++32::(y.cps.toList++32::t.cps.toList)));simp)
def yy9{P:qj Pd}{x:Υ}(hx:∀y,x=some y->∃r,r∈P/\r.nm=y):∃L,ToD P x L:=by
 cases x with
 |none=>erw[_,rfl]
 |some y =>
  let#[r,a,e]:=hx y J;erw[_,r,a,e,rfl]
theorem Dk.put{H:Hp}{dk:qa}{C:Cf}{P:qj Pd}{X:Sx}{b:Str}{x:Υ}{Q:VK}{E:XK}(h:Dk K a H dk C P X)(hb:OkL b)(hx:∀y,x=some y->OkL y)(hts:Sgs ts)(htw:↑ts<=C.w)(hP:↑P<60)(hno:∀q,q∈P->q.nm≠b)(hL:ToD P x L)
  (k:∀Y H',Dk K a H' dk C (P++[#[b,x,L,ts]]) Y->Gx X H H' Y->Q (.str !"ok") H'):Ľ K a [.ref dk,.str (yx6 b x++Str.ofString " "++uo ts)] H Q E:=by
 rw[yxl];let#[s,v,Z,r,o,n,u]:=id h;let p:=o.cf;let t:=xl hb.1.1;let l:=ud ts;have d:∀g,y7 H g->ygf K a [.ref dk,.str b,.str (uo ts),baV x] g Q E:=λg i=>#[dk,C,P,X,b,ts,x,L,J,h.same i,hb.1,hts,htw,hno,hL,hP,λY j m g2=>k Y j m (g2.ahead i)];erw[dk,s,_,_,J,r,λw c=>?_,?_,?_]
 .have f:w=Str.ofString "put"\/w=b\/w=Str.ofString "on"\/x=some w\/w=uo ts:=by
   cases x with
   |none =>
    rcases bZ.mp c with z|c
    .erw[.inl z]
    rcases bZ.mp c with z|c
    .erw[.inr (.inl z)]
    .erw[.inr (.inr (.inr (.inr (bX.mp c))))]
   |some y =>
    rcases bZ.mp c with z|c
    .erw[.inl z]
    rcases bZ.mp c with z|c
    .erw[.inr (.inl z)]
    rcases bZ.mp c with z|c
    .erw[.inr (.inr (.inl z))]
    rcases bZ.mp c with z|c
    .erw[.inr (.inr (.inr (.inl (by rw[z]))))]
    .erw[.inr (.inr (.inr (.inr (bX.mp c))))]
  rcases f with rfl|rfl|rfl|e|rfl
  .decide+kernel
  .erw[ygt hb.2]
  .decide+kernel
  .erw[ygt (hx w e).2]
  .erw[ygv ts]
 .refine cN (yet _) ?_
  cases x with
  |none =>
   show 3+(↑b+(↑(uo ts)+0))+3<=_;omega
  |some y =>
   have:=xl (hx y J).1.1;show 3+(↑b+(2+(↑y+(↑(uo ts)+0))))+5<=_;omega
 .cases x with
  |none=>erw[.inr (.inr (.inl #[b,uo ts,J,d]))]
  |some y=>erw[.inr (.inr (.inr #[b,y,uo ts,J,d]))]
structure NsO(ns:Ρ):Prop where
 l:↑ns=6
 o:∀x,x∈ns->OkL x
 d:ns.Nodup
def Stk.snoc{P:qj Pd}{q:Pd}(h:Stk P)(hb:∀b,q.bs=some b->∃r,r∈P/\r.nm=b):Stk (P++[q]):=λi r b c e=>by
 rcases Nat.lt_or_ge i ↑P with z|z
 .rw[dA z]at c;let#[j,s,a,k,f]:=h i r b c e;erw[j,s,a,by rwa[dA (),k],f]
 .have l:i=↑P:=by
   have:=(bY.mp c).1;rw[bQ,cJ]at this;omega
  subst l;rw[List.getElem?_concat_length]at c;cases c;let#[u,g,d]:=hb b e;let#[j,a,J]:=List.mem_iff_getElem.mp g;erw[j,_,a,by rwa[dA a,bP a],d]
def ynk{ps:Ο}(h:ux ↥ps=true):∀p,p∈ps->1<=p/\p<=8:=λp b=>by
 unfold ux at h;rw[cB,cB]at h;have:=(List.all_eq_true.mp h.1.2) _ (bW.mpr #[p,b,J]);have a:(decide (1<=p) && decide (p<=8))=true:=this;rw[cB]at a;erw[of_decide_eq_true a.1,of_decide_eq_true a.2]
def Sto.byt{H:Hp}{C:Cf}{P:qj Pd}{X:Sx}{lk:Λ}(h:Sto K a H st C P X)(hR:xz H C.n lk C.kd tp C.ps)(hP:↑P<=6)(hl:∀q,q∈P->ő q.nm.cps.toList):Byt (shB C P):=by
 let#[A,z,v,_,_]:=h.cf;intro b d;unfold shB hdB at d;rcases cA.mp d with d|d
 .rcases cA.mp d with d|d
  .rcases bZ.mp d with rfl|d
   .omega
   .unfold lkF at d;let#[l,hl,d]:=List.mem_flatten.mp d;let#[i,j,J]:=bW.mp hl;let j:=c8.mp j;let#[_,_,_,_,k]:=hR i j;let o:=jp k;rw[bL]at o;let t:=(C.kd i).isLt;rcases bZ.mp d with rfl|d
    .omega
    .rcases bZ.mp d with rfl|d
     .omega
     .have:=ynk k b d;omega
  .rcases bZ.mp d with rfl|d
   .omega
   .rw[bX.mp d];omega
 .rcases bZ.mp d with rfl|d
  .omega
  .let#[l,f,d]:=List.mem_flatten.mp d;let#[q,g,J]:=bW.mp f;let w:=xl (h.nm q g).1;unfold pdB nmB at d;rcases cA.mp d with d|d
   .rcases cA.mp d with d|d
    .rcases bZ.mp d with rfl|d
     .omega
     .let#[c,s,J]:=bW.mp d;let#[p,y]:=hl q g c s;rw[yto p ()];omega
    .rw[bX.mp d]
     cases hbs:q.bs with
     |none=>erw[(show (0:Int)<=0/\(0:Int)<=255 by decide)]
     |some x =>
      let e:=h.to q g;rw[hbs]at e;let#[u,r,m,_]:=e;have:=List.idxOf_lt_length_iff.mpr (show x∈P.map (·.nm)from bW.mpr #[u,r,m]);rw[bL]at this;show 0<=(((P.map (·.nm)).idxOf x:Nat):Int)+1/\(((P.map (·.nm)).idxOf x:Nat):Int)+1<=255;omega
   .erw[ū _ b d]
theorem Dk.shok{H:Hp}{dk:qa}{C:Cf}{P:qj Pd}{X:Sx}(h:Dk K a H dk C P X)(hP:↑P<=6)(hl:∀q,q∈P->OkL q.nm)(k:Stk P):Byt (shB C P)/\↑(shB C P)<=39000/\ym7 C P:=by let#[y,x,Z,t,b,n,J]:=h;let e:=b.shok k;let#[u,B,d,c,l,p,A,D,i,v,m,L,o,U,s,r,z]:=id b;erw[b.byt s.row hP λq f=>(hl q f).2,?_,e];let g:=b.pls ↑P (bT _);let j:=s.row.lkl C.n (bT _);let w:=b.cf;rw[cX]at g;unfold shB hdB;rw[bQ,bQ,cn,cn];show _+1+2+(_+1)<=_;omega
def Dk.alone{H:Hp}{dk:qa}{C:Cf}{P:qj Pd}{X:Sx}{v:Str}{Q:VK}{E:XK}(h:Dk K a H dk C P X)(hv:32∉v.cps.toList)(lv:↑v<=5)(g:∀H1,y7 H H1->yay K a [.ref dk,.str v] H1 Q E0):Ľ K a [.ref dk,.str v] H Q E:=by let#[d,e,c]:=h.ins;erw[dk,d,_,[v],J,c,λw b=>by rwa[bX.mp b,hv],cN (yet _) (by show ↑v+0+1<=_;omega),.inl #[v,J,g]]
theorem Dk.shelf{H:Hp}{dk:qa}{C:Cf}{P:qj Pd}{X:Sx}{Q:VK}{E:XK}(h:Dk K a H dk C P X)(hb:Byt (shB C P))(hz:↑(shB C P)<=40000)(k:∀H',y7 H H'->Q (.str (uo (shB C P))) H'):Ľ K a [.ref dk,.str !"shelf"] H Q E :=
 h.alone ∅ ∅ λe b=>#[dk,C,P,X,_,J,h.same b,.inr #[J,hb,(),λc d=>k c (b.trans d)]]
def Gx.opn{H H':Hp}{dk:qa}{C C2:Cf}{P P2:qj Pd}{X Y:Sx}(h:Dk K a H dk C P X)(s:Dk K a H' dk C2 P2 Y)(b:But dk H H')(n:∀y,Y.f y->y=dk\/H y=none):Gx X H H' Y:=by
 let#[l,p,Z,m,k,j,J]:=h;let#[i,q,d]:=s.ins;erw[#[λc o e g=>b _ _ e λz=>g (.inr z),λc w=>(n c (s.wf c w)).imp .inr id,λc o e=>?_],λc w=>(n c w).imp .inr id];by_cases z:c=dk
 .rw[z];erw[_,d]
 .erw[o,b _ _ e z]
def ywl{C:Cf}{q:Pd}(n1:1<=C.n)(n6:C.n<=6)(hz:↑q.tx<=12):(yia C q).natAbs.log2<1920:=by
 obtain⟨g1,g2⟩:1<=Ă (uf C.n C.kd C.ps (δ (q.path.map (·.2))) q.tx) (vh q.tx) ↑(dec q.tx)/\Ă (uf C.n C.kd C.ps (δ (q.path.map (·.2))) q.tx) (vh q.tx) ↑(dec q.tx)<=16777216^↑(dec q.tx):=yas _ λj Z=>Û n1 n6 (uq _) j;let c:=xp q.tx;unfold yia yx4;generalize ↑(dec q.tx)=m at*;generalize Ă _ _ m=G at*;let b:=Ŕ g1 g2
 have e:Builtin.Int.intBits G=G.natAbs.log2+1:=by
  show (if G == 0 then 0 else G.natAbs.log2+1)=_;rw[if_neg (by simp;omega)]
 let d:=(Nat.log2_lt (show G.natAbs≠0 by omega)).mpr b;rw[e];generalize f:Int.natAbs _=N
 have a:N<2^12:=by
  show N<4096;omega
 by_cases z:N=0
 .rw[z];decide
 .have:=(Nat.log2_lt z).mpr a;omega
structure Gd(C:Cf)(P:qj Pd)(ns:Ρ):Prop where
 k:Stk P
 i:∀q,q∈P->q.nm∈ns
 t:∀q,q∈P->↑q.tx<=12
 m:1<=C.mo
def Gd.z{H:Hp}{dk:qa}{C:Cf}{P:qj Pd}{X:Sx}{ns:Ρ}(g:Gd C P ns)(h:Dk K a H dk C P X)(o:NsO ns):↑P<=6:=by
 let e:=yev h.pw.nd (m:=ns) λy c=>by
  let#[u,b,J]:=bW.mp c;erw[g.i u b]
 rw[bL,o.l]at e;erw[e]
def Gd.sh{H:Hp}{dk:qa}{C:Cf}{P:qj Pd}{X:Sx}{ns:Ρ}(g:Gd C P ns)(h:Dk K a H dk C P X)(o:NsO ns):Byt (shB C P)/\↑(shB C P)<=39000/\ym7 C P:=h.shok (g.z h o) (λq b=>o.o _ (g.i q b)) g.k
def Gd.one{C:Cf}{b:Str}{ns:Ρ}(hb:b∈ns)(ht:↑ts<=12)(hm:1<=C.mo):Gd C [#[b,none,L,ts]] ns:=by
 erw[λi r y c e=>?_,λq a=>?_,λq a=>?_,hm]
 .cases i with
  |zero=>cases c;cases e
  |succ i=>cases c
 .rw[bX.mp a];erw[hb]
 .rw[bX.mp a];erw[ht]
def yo3{b:Str}{x:Υ}(hb:↑b<=8)(hx:∀y,x=some y->↑y<=8):↑(yx6 b x)<=24:=by
 unfold yx6
 cases x with
 |none =>
  rw[ye7];show 4+_<=_;omega
 |some y =>
  have:=hx y J;rw[ye7,ye7,ye7];show 4+_+4+_<=_;omega
#synth ∀(K:xy)(a:Ads),∀(dk nl l:qa)(C:Cf)(X:Sx)(ns:Ρ)(zs:Ο)(m:Nat)(B:Hp)(_:vs=[.ref dk,.ref nl,.ref l,.int m])(_:Dk K a H dk C [] X)(_:Bs B H X)(_:B nl\(ns.map V.str))(_:SqL K B l ↥zs)(_:NsO ns)(_:(m=0\/m=9))(_:C.w=3+m)(_:1<=C.mo)(_:↑zs<=63)(_:∀t P Y H',Dk K a H' dk C P Y->Gx X H H' Y->Kf H' Y t (.lst (P.map λq=>V.str q.nm))->H t=none->Gd C P ns->(∀q,q∈P->q.nm∈ns.take 5)->Q ⇑t H'),ynz
def yvj:(Df.v P w mg Γ) T.M6 19 (ynz K a):=by
 exists M6,["_law_desk","_law_names_here","_law_script","_law_more","_law_there","_law_k","_law_row","_law_cell"],hr;let#[dk,nl,l,C,X,I,zs,m,B,J,hD,hB,an,hl,hN,N,hw,aj,au,k]:=h;erw[yh (pst 4 ϰ (wk ub)) ?_,<-yh (uy PassesOwn.never J (ua J T.Ao (pa1 (pcB (Ĭ J) T.Mn (pac (pix vn (wk (pac yg (pa1 yg))) (ym vk (pv 3) yg)) (pa1 (pcB (Ĳ J) T.Mo (pac yg (pa1 (ym zi (pcB yp T.A9 (pav 2)) yg))))))))) (wd (i:=5) ϰ J (Or.inl J)) (yf (pst 6 ϰ (ym vg yz (pix vn (pv 1) (pv 5)))) (yf (pst 7 ϰ (x0 (Ĺ T) hr.m T.D5 (pac (pv 2) (pa1 (ym v9 yg (pv 5)))))) (yf (Î (vz (PW.pt (ycw (yq (ċ hr.units) (pv 4) (wk ub) (yy _)) (ybd (yq xo (ym xb (pv 7) yg) yg (yy _))))) (yc (pst 6 ϰ (ym vg (ym vg (pv 6) yz) (pix vn (pv 4) (ym xb (ym vk (pv 7) yg) (pcB yp T.A9 (pav 4))))))) yx)) (yf (yv ((zb PySem.F.plainAttrs_list PySem.F.slot_list_append PySem.F.type_list_append wz) (pv 4) (pa1 (pix vn (pv 1) (pv 5))))) (yc (vz (yq yda (yu (pv 0) T.Ab T.Aa.m (ug T) hr.m T.Aa.B .nil ve (pa1 (ym vg (ym vg (pv 6) yz) (x0 (yee T) hr.m T.Es (pa1 (xv j5 (x0 (ykt T) hr.m T.He (pac (ym vk (pv 7) yg) (pav 3))) zf (uw (ym v9 yg (ym xa yg (ym vk (pv 3) yg)))))))))) yz (yy _)) (yc (yn u9)) yx))))))) ?_];exists 4,4,yc (yn (pv 4));exists (by walk_at "len"),λt ht0=>?_
 exists ht0,H1,S1,ht1;have ao:y7 B H1:=hB.s.trans S1;ext;exists (by walk_at "len"),λu hu0=>?_
 exists hu0,H2,S2,hu2;ext
 obtain⟨Z,az,ac⟩:∃Z:Nat,Z<=5/\atI [V.int 5,V.int 2] ((m:Int)/9)=some (Z:):=by
  rcases N with rfl|rfl
  .erw[5,bT _,J]
  .erw[2,∅,J]
 erw[ul (SqL.of hu2) ac ?_,←uz ((ao.trans S2).seq hl) ?_];rw[bL];ext;erw[_,_,J,?_,←_,_,J,?_];ext
 have eb:∀x y:Int,y<=5->0<=y->0<=(if (if x > 0 then x else 0)<y then if x > 0 then x else 0 else y)/\(if (if x > 0 then x else 0)<y then if x > 0 then x else 0 else y)<=5:=λx y h h0=>by
  (repeat' split)<;>omega
 let eb:=eb ((↑zs:Int)-6) (Z:Int) () ();generalize (if (if (↑zs:Int)-6 > 0 then (↑zs:Int)-6 else 0)<(Z:Int)then if (↑zs:Int)-6 > 0 then (↑zs:Int)-6 else 0 else (Z:Int))=e at eb;let aq:=hN.l;let a4:=S1.trans S2;erw[e,J,(),(),ζ (lo:=0) (n:=e.toNat) (λi σ2 F=>∃P Y Z v6 v7,σ2=[some ⇑dk,some ⇑nl,some ⇑l,some (m:),some ⇑t,Z,v6,v7]/\Dk K a F dk C P Y/\Gx X H F Y/\Bs B F Y/\Kf F Y t (.lst ((P.map (·.nm)).map V.str))/\P.map (·.nm)=I.take i/\Stk P/\∀q,q∈P->↑q.tx<=12) ?_ ?_ ?_]
 .erw[[],X,none,none,none,J,hD.same a4,Gx.refl.same a4,#[hB.s.trans a4,hB.n],#[S2 _ _ ht1,hD.new ht0],J,(λi r b e=>nomatch e),λq O=>nomatch O]
 .rintro i σ2 F hi ⟨P,Y,w5,w6,w7,rfl,S,g,ς,G,D,a0,a5⟩;have M:i<↑I:=()
  let ak:=cE M;let aa:=hN.o _ ak;let ah:=xl aa.1.1
  have av:↑P=i:=by
   have:=congrArg List.length D;rw[bL,cz]at this;omega
  have ai:∀q,q∈P->q.nm≠I[i]:=λq O e=>by
   have N:q.nm∈P.map (·.nm):=bW.mpr #[q,O,J];rw[D,e]at N;let#[j,hj,ej]:=List.mem_iff_getElem.mp N;rw[cz]at hj;rw[List.getElem_take]at ej;erw[List.pairwise_iff_getElem.mp hN.d j i () M () ej]
  have a8:∀{F:Hp}{Q2:VK},y7 B F->Q2 (.str I[i]) F->yty K ⇑nl ((0+(i:Int)):) F Q2:=λ{F Q2}hF q=>by
   rwa[Int.zero_add,ul (SqL.of (hF _ _ an)) (wb (by rw[bU,bP M];rfl)) q]
  ext;erw[a8 ς.s ?_,<-_,_,J,J,vw (by show 4+_<=_;omega),?_,←l,zs,6+i,by rw[show ((6+i:Nat):Int)=6+(0+(i:Int)) by omega];rfl,ς.s.seq hl,(),λc c0 c1=>?_]
  ext;erw[ye5 (λσ2 F2=>y7 F F2/\∃x,σ2=[some ⇑dk,some ⇑nl,some ⇑l,some (m:),some ⇑t,some ((0+(i:Int)):),some (.str (yx6 I[i] x)),some (c:)]/\∀y,x=some y->∃r,r∈P/\r.nm=y) ?_ ?_]
  .ext;exists (by walk_at "len"),λw hw0=>?_
   exists hw0,F2,T2,hw2;let p:=T2 _ _ G.1
   erw[ygd (P.map (·.nm)) [] (λz hz=>by
    let#[q,O,J]:=bW.mp hz;rw[D]at hz
    erw[(hN.o _ (cV hz)).1.2]) (λz hz=>nomatch hz) (SqL.of p) (SqL.of hw2) ?_]
   by_cases h0:P.map (·.nm)=[]
   .rw[bV h0];erw[false,J,υ (υ ?_)];ext
    erw[T2,none,J,λy e=>nomatch e]
   rwa[cj h0,#[true,J,í ?_]]
   have ax:0<↑P:=by
    cases P with
    |nil=>erw[absurd J h0]
    |cons q r=>erw[Nat.zero_lt_succ _]
   ext;erw[z9 (λf=>?_) (λf=>?_)]
   .ext;erw[_,_,J,J,vw (by rw[ye7];show 4+_+4<=_;omega),?_,←uz (SqL.of p) ?_];rw[bL,bL];refine i_I () ?_
    obtain⟨j,hj,a1⟩:∃j:Nat,c/2%((↑P:Nat):Int)=(j:Int)/\j<↑P:=by
     let h0:=dB (c/2) (show ((↑P:Nat):Int)≠0 by omega);let h1:=dn (c/2) (show 0<((↑P:Nat):Int) by omega);erw[(c/2%((↑P:Nat):Int)).toNat,(),()]
    rwa[hj,ul (v:=.str P[j].nm) (SqL.of p) (wb (by rw[bU,bU,bP a1];rfl)) ?_]
    have ag:P[j].nm∈I:=by
     have N:P[j].nm∈P.map (·.nm):=bW.mpr #[_,cE a1,J];rw[D]at N;erw[cV N]
    let as:=xl (hN.o _ ag).1.1;erw[_,_,J,J,vw (by rw[ye7,ye7];show 4+_+4+_<=_;omega),?_,←T2,some P[j].nm,J,λy e=>by cases e;erw[_,cE a1,J]]
   .ext
    erw[T2,none,J,λy e=>nomatch e]
  rintro σ2 F2 ⟨T2,x,rfl,hx⟩
  have ab:∀y,x=some y->OkL y:=λy e=>by
   let#[r,hr,er]:=hx y e;have N:r.nm∈P.map (·.nm):=bW.mpr #[r,hr,J];rw[D,er]at N;erw[hN.o _ (cV N)]
  let ay:=yo3 ah λy e=>xl (ab y e).1.1;let p:=T2 _ _ G.1;have a2:y7 B F2:=ς.s.trans T2;ext;erw[jn p ?_,←a8 a2 ?_,←xr p (vi (by rw[bL,bL];omega)) ?_]
  let a6:=(S.same T2).frame (W2:=λz=>z=t) (H':=upd F2 t (.lst ((P.map (·.nm)).map V.str++[.str I[i]]))) (WSh.ls p λz hz=>by
   let#[u,_,J]:=bW.mp hz;erw[.inl #[u,J]]) (λy w e=>G.2 (by rwa[<- e,w])) λy o e ne=>ye ne e
  have g3:Gx X H (upd F2 t (.lst ((P.map (·.nm)).map V.str++[.str I[i]]))) Y:=#[#[λc o e n=>ye (yb e ht0) ((g.same T2).g.fr c o e n),g.g.nw,λc o e=>let ⟨o',z⟩:=(g.same T2).g.lv c o e;#[o',ye (yb e ht0) z]],g.f];have a9:Bs B (upd F2 t (.lst ((P.map (·.nm)).map V.str++[.str I[i]]))) Y:=#[λy o e=>ye (yb e (hB.s.free ht0)) (a2 _ _ e),ς.n];have ad:Kf (upd F2 t (.lst ((P.map (·.nm)).map V.str++[.str I[i]]))) Y t (.lst ((I.take (i+1)).map V.str)):=#[by rw[ya,D,cH M,ce];rfl,G.2];generalize upd F2 t (.lst ((P.map (·.nm)).map V.str++[.str I[i]]))=F3 at a6 g3 a9 ad⊢;clear S g ς G p a2 T2;let#[dd,vd,me]:=a6.ins;ext;erw[_,_,J,J,vw (by show _+1<=_;omega),?_,←c/8,m,J,(),(),by rcases N with rfl|rfl<;>decide,λr ts F4 hr0 hr4 hts htl T4=>?_]
  ext
  obtain⟨R,ap,ar⟩:∃R:Nat,2+10*((m:Int)/9)=(R:Int)/\R<=3+m/\R<=12:=by
   rcases N with rfl|rfl
   .erw[2,J,∅,∅]
   .erw[12,J,∅,∅]
  rwa[ap,ybg (SqL.of hr4) λy hy0=>?_];rw[jz,<- List.map_take];exists hy0,F5,T5,hy5;have aB:↑(ts.take R)<=R:=by rw[cz];omega
  have W:Sgs (ts.take R):=λx hx=>hts x (cV hx);ext;erw[y,ts.take R,J,SqL.of hy5,W,(),λF6 T6=>?_]
  let aw:=ud (ts.take R);erw[_,_,J,J,vw (by rw[ye7];show _+1+_<=_;omega),?_];let U:=T4.trans (T5.trans T6);let a3:=a6.same U;ext;let#[L,hL]:=yy9 hx;erw[a3.put aa ab W () () ai hL λY7 F7 af g7=>?_];let a7:=(ad.same U).goW a3.wf g7;let am:=(a9.same U).goW a3.wf g7;ext;erw[J,?_];rwa[bV J,#[false,J,υ ?_]];ext;erw[P++[#[I[i],x,L,ts.take R]],Y7,_,_,_,J,af,(g3.same U).trans g7,am,?_,?_,a0.snoc hx,λq O=>?_]
  .rw[ce,D];rw[cH M]at a7;erw[a7]
  .rw[ce,D,cH M];rfl
  .rcases cA.mp O with z|z
   .erw[a5 q z]
   .rw[bX.mp z];show ↑(ts.take R)<=12;omega
 rintro σ2 F ⟨P,Y,w5,w6,w7,rfl,S,g,ς,G,D,a0,a5⟩;have ae:∀q,q∈P->q.nm∈I.take e.toNat:=λq O=>by rwa[<- D,bW.mpr #[q,O,J]]
 ext;erw[k t P Y F S g (by rw[cM]at G;erw[G]) ht0 #[a0,λq O=>cV (ae q O),a5,aj] λq O=>?_,<-(List.take_sublist_take_left ()).mem (ae q O)]
def qS(C:Cf)(r:Pd):Nat->Str
 |0=>uo r.tx
 |1=>r.bs.getD (Str.ofString "-")
 |2=>uo (r.by C)
 |_=>toString (yia C r)
def qV(C:Cf)(P:qj Pd)(i:Nat)(b:Str):V :=
 match P.find? λq=>decide (q.nm=b)with
 |none=>.non
 |some r=>.str (qS C r i)
def viq{C:Cf}{P:qj Pd}{i:Nat}{b:Str}(h:∀q,q∈P->q.nm≠b):qV C P i b=.non:=by unfold qV;rw[List.find?_eq_none.mpr λq a=>by simpa using h q a]
def vis{C:Cf}{P:qj Pd}{i:Nat}{b:Str}{r:Pd}(hn:(P.map (·.nm)).Nodup)(hr:r∈P)(e:r.nm=b):qV C P i b=.str (qS C r i):=by
 unfold qV
 cases h:P.find? λq=>decide (q.nm=b)with
 |none=>erw[absurd e (by simpa using List.find?_eq_none.mp h r hr)]
 |some q =>
  let a:=List.mem_of_find?_eq_some h;have c:q.nm=b:=by simpa using List.find?_some h
  rw[Ċ hn a hr (c.trans e.symm)]
def Dk.cfn{H:Hp}{dk:qa}{C:Cf}{P:qj Pd}{X:Sx}(h:Dk K a H dk C P X):1<=C.n/\C.n<=6:=by let#[e,c,Z,d,b,n,_]:=h;erw[b.cf.1,b.cf.2.1]
def Dk.ask{H:Hp}{dk:qa}{C:Cf}{P:qj Pd}{X:Sx}{b:Str}{i:Nat}{Q:VK}{E:XK}(h:Dk K a H dk C P X)(hb:OkL b)(h12:∀q,q∈P->↑q.tx<=12)(hi:i<4)(k1:EN a P b H E)(k2:∀r,r∈P->r.nm=b->∀Y H',Dk K a H' dk C P Y->Gx X H H' Y->Q (.str (qS C r i)) H'):Ľ K a [.ref dk,.str (Str.join ⟨#[32]⟩ [wdA i,b])] H Q E:=by
 let n:=xl hb.1.1;let m:=h.cfn;have j:∀{l:Hp},y7 H l->EN a P b l E:=λc z d g=>k1 z d (c.trans g);erw[h.two (ygt hb.2) () λl c=>?_];have z:i=0\/i=1\/i=2\/i=3:=()
 rcases z with rfl|rfl|rfl|rfl
 .erw[.get hb.1.1 (j c) λr f e Y d k g2=>k2 r f e Y d k (g2.ahead c)]
 .erw[.bas hb.1.1 (j c) λr f e d g=>k2 r f e X d (h.same (c.trans g)) (Gx.refl.same (c.trans g))]
 .erw[.bytes hb.1.1 (j c) λr f e d g=>k2 r f e X d (h.same (c.trans g)) (Gx.refl.same (c.trans g))]
 .erw[.cost hb.1.1 (j c) λr f e=>#[ywl m.1 m.2 (h12 r f),λY d k g2=>k2 r f e Y d k (g2.ahead c)]]
#synth ∀(K:xy)(a:Ads),∀(dk:qa)(C:Cf)(P:qj Pd)(X:Sx)(i:Nat)(b:Str)(_:vs=[.ref dk,.str (Str.join ⟨#[32]⟩ [wdA i,b])])(_:Dk K a H dk C P X)(_:OkL b)(_:(∀q,q∈P->↑q.tx<=12))(_:i<4)(_:∀Y H',Dk K a H' dk C P Y->Gx X H H' Y->Q (qV C P i b) H'),yng
def yub:(Df.v P w mg Γ) T.M7 19 (yng K a):=by
 exists M7,["_law_desk","_law_row","_law_found"],v;let#[u,C,P,X,i,b,J,c,o,f,z,k]:=h;let#[ς,I,D]:=c.ins;exists 2,1,yf (pst 2 ϰ u9) (yf (yk3 (λt G=>(yc (pst 2 ϰ (yu (pv 0) T.Ab T.Aa.m (ug T) v.m T.Aa.B .nil yaz (pav 1))))) #[J,J] (yxn J T.Eg (λt x=>(yc (pst 2 ϰ u9))) vcs)) (yc (yn (pv 2))));erw[ys3 ?_,←c.ask o f z (λy l n=>?_) (λr d e Y l j g1=>?_)]
 .erw[vjb T.Ck ?_];ext;rwa[<- viq (C:=C) (i:=i) y,k X l (c.same n) (Gx.refl.same n)]
 .ext;rwa[<- vis c.pw.nd d e,k Y l j g1]
def hd3(C:Cf)(P:qj Pd):Ρ:=[Str.join ⟨#[32]⟩ (P.map (·.nm)),uo (shB C P),(ye3 C P [97]).getD !"-"]
def vl4(C:Cf)(P:qj Pd)(b:Str):Τ:=(List.range 4).map λi=>qV C P i b
def vah:Str.ofString "best 61"=Str.join ⟨#[32]⟩ [wdA 5,uo [97]]:=(by right)
def ywm{i:Nat}(hi:i<4)(b:Str):([Str.ofString "get ",Str.ofString "base ",Str.ofString "bytes ",Str.ofString "cost "].getD i !"")++b=Str.join ⟨#[32]⟩ [wdA i,b]:=by
 have z:i=0\/i=1\/i=2\/i=3:=()
 rcases z with rfl|rfl|rfl|rfl
 .erw[ytt "get" b J]
 .erw[ytt "base" b J]
 .erw[ytt "bytes" b J]
 .erw[ytt "cost" b J]
noncomputable def yp0:Ρ:=[Str.ofString "get ",Str.ofString "base ",Str.ofString "bytes ",Str.ofString "cost "]
def vb6(C:Cf)(P:qj Pd)(i:Nat)(b:Str):(∃s,qV C P i b=V.str s)\/vh1 (qV C P i b)=true:=by
 unfold qV
 cases P.find? λq=>decide (q.nm=b)with
 |none=>erw[.inr J]
 |some r=>erw[.inl #[_,J]]
def Dk.butL{H:Hp}{dk:qa}{C:Cf}{P:qj Pd}{X:Sx}(h:Dk K a H dk C P X){l:qa}{xs ys:Τ}(k:Kf H X l (.lst xs))(hx:∀x∈xs,(∃s,x=V.str s)\/vh1 x=true\/∃q,x=V.ref q/\vh0 (H q)):Dk K a (upd H l (.lst ys)) dk C P X/\Kf (upd H l (.lst ys)) X l (.lst ys)/\∀{x:qa}{o:HO},Kf H X x o->x≠l->Kf (upd H l (.lst ys)) X x o :=
 #[h.frame (WSh.ls k.1 hx) (λy w e=>k.2 (by rwa[<- e,w])) λy o e b=>ye b e,#[ya,k.2],λ{x o}z b=>#[ye b z.1,z.2]]
theorem Gx.nw{X Y:Sx}{H G:Hp}(g:Gx X H G Y){l:qa}{o:HO}(hl:H l=none):Gx X H (upd G l o) Y :=
 #[#[λc o e n=>ye (yb e hl) (g.g.fr c o e n),g.g.nw,λc o e=>let ⟨o',z⟩:=g.g.lv c o e;#[o',ye (yb e hl) z]],g.f]
structure Tld(H:Hp)(Y:Sx)(C:Cf)(P:qj Pd)(ns:Ρ)(l:qa)(rs:Λ):Prop where
 l:Kf H Y l (.lst ((hd3 C P).map V.str++refs rs 6))
 r:∀j b,ns[j]?=some b->Kf H Y (rs j) (.lst (vl4 C P b))
#synth ∀(K:xy)(a:Ads),∀(dk nl:qa)(C:Cf)(P:qj Pd)(X:Sx)(ns:Ρ)(_:vs=[.ref dk,.ref nl])(_:Dk K a H dk C P X)(_:Kf H X nl (.lst (ns.map V.str)))(_:NsO ns)(_:Gd C P ns)(_:∀l rs Y H',Dk K a H' dk C P Y->Gx X H H' Y->Tld H' Y C P ns l rs->H l=none->(∀j,j<6->H (rs j)=none)->Q ⇑l H'),yfp
def Ö:(Df.v P w mg Γ) T.Bv 20 (yfp K a):=by
 exists Bv,["_law_desk","_law_names_here","_law_told_here","_law_name"],v;let#[dk,nl,C,P,X,d,J,f,ac,hN,hG,k]:=h;let#[dd,vd,me]:=f.ins;let#[an,ap,_]:=hG.sh f hN;let a6:=hN.l;erw[yh (pst 2 ϰ (wk (pac (yu (pv 0) T.Ab T.Aa.m (ug T) v.m T.Aa.B .nil ve (pa1 yz)) (pac (yu (pv 0) T.Ab T.Aa.m (ug T) v.m T.Aa.B .nil ve (pa1 yz)) (pa1 (yu (pv 0) T.Ab T.Aa.m (ug T) v.m T.Aa.B .nil ve (pa1 yz))))))) ?_,<-yh (uy PassesOwn.never J (we (pv 1)) (wd (i:=3) ϰ J (Or.inr J)) (yc (yv ((zb PySem.F.plainAttrs_list PySem.F.slot_list_append PySem.F.type_list_append wz) (pv 2) (pa1 (vx (js:=[3,0]) (ys:=["_law_name","_law_desk"]) J (we (wk (pac yz (pac yz (pac yz (pa1 yz)))))) (λC s2 H2 fp=>(x0 (yub T) v.m T.M7 (pac (pv 2) (pa1 (ym vg (pv 0) (pv 1)))))) J J (hyc:=(all_cons J (all_cons J yw))) (hrel:=(all_cons J (all_cons J yw))))))))) ?_];exists 2,2,yc (yn (pv 2));erw[f.alone ∅ ∅ λH1 S1=>#[dk,C,P,X,_,J,f.same S1,.inl #[J,λH2 S2=>?_]]];let L:=f.same (S1.trans S2);let af:=(S1.trans S2) _ _ me;ext;erw[L.shelf an () λH3 S3=>?_];let M:=(S1.trans S2).trans S3;let ad:=f.same M;let ag:=M _ _ me;ext;rwa[vah,ad.two (ygv _) (by right) λH4 S4=>.best [97] J (λx N=>by rw[bX.mp N];decide) hG.m λY H5 a2 g5=>?_];let a1:=M.trans S4;let U:=g5.ahead a1;let a0:=(ac.same a1).goW (f.same a1).wf g5;clear S1 S2 S3 S4 M L af ad ag;ext;exists (by walk_at "len"),λl hl0=>?_
 exists hl0,H6,S6,hl6;have p:H l=none:=U.g.free hl0;have hl6:H6 l\((hd3 C P).map V.str++refs (λB=>0) 0):=hl6;ext;erw[nl,J,#[_,SqL.of (a0.same S6).1],xw (K:=K) (a:=nl) (xs:=d.map V.str) (λi σ2 F=>∃Y ς v3,σ2=[some ⇑dk,some ⇑nl,some ⇑l,v3]/\Dk K a F dk C P Y/\Gx X H F Y/\Kf F Y nl (.lst (d.map V.str))/\Kf F Y l (.lst ((hd3 C P).map V.str++refs ς i))/\∀j,j<i->ς j≠l/\H (ς j)=none/\∀b,d[j]?=some b->Kf F Y (ς j) (.lst (vl4 C P b))) ?_ ?_ ?_ ?_]
 .erw[Y,λB=>0,none,J,a2.same S6,U.same S6,a0.same S6,#[hl6,a2.new hl0],λj O=>absurd O (cD j)]
 .rintro i σ2 F _ ⟨Y,ς,v3,rfl,_,_,h,_⟩;erw[SqL.of h.1]
 .clear a2 U g5 a0 hl6 hl0 S6 Y;rintro i y σ2 F hy ⟨Y,ς,v3,rfl,c,g,hn,hk,v⟩;have hi:i<↑d:=by have:=(bY.mp hy).1;rw[bL]at this;exact this
  rw[bU,bP hi]at hy;obtain rfl:=cr hy;let a4:=hN.o _ (cE hi);let ao:=xl a4.1.1;ext;erw[jn hk.1 ?_];ext;exists (by walk_at "len"),λw a9=>?_
  let T1:=y9 (o:=(HO.lst [V.str !"get ",V.str !"base ",V.str !"bytes ",V.str !"cost "])) a9;have n:upd F w (HO.lst [V.str !"get ",V.str !"base ",V.str !"bytes ",V.str !"cost "]) w=some (HO.lst [V.str !"get ",V.str !"base ",V.str !"bytes ",V.str !"cost "]):=ya;generalize upd F w (HO.lst [V.str !"get ",V.str !"base ",V.str !"bytes ",V.str !"cost "])=F1 at T1 n⊢;have n:F1 w\(yp0.map V.str):=n;let R:=c.same T1;have ak:Kf F1 Y w (.lst (yp0.map V.str)):=#[n,c.new a9];erw[w,J,#[_,SqL.of n],λD f=>?_];have aj:D≠w:=λz=>by rw[z,n]at f;cases f
  have a3:l≠D:=λz=>by have:=T1 _ _ hk.1;rw[z,f]at this;cases this
  have SD:y7 F1 (upd F1 D (.lst [])):=y9 f;erw[ò (K:=K) (xs:=yp0.map V.str) (λj G=>∃Z,Dk K a G dk C P Z/\Gx Y F1 G Z/\Kf G Z w (.lst (yp0.map V.str))/\Kf G Z D (.lst ((List.range j).map λu=>qV C P u d[i]))) ?_ ?_ ?_ ?_]
  .erw[Y,R.same SD,Gx.refl.same SD,ak.same SD,#[ya,R.new f]]
  .rintro j G _ ⟨Z,_,_,h,_⟩;erw[SqL.of h.1]
  .rintro j x G N O ⟨Z,r,gZ,ai,q⟩;have ab:j<4:=O;have W:j<↑yp0:=O;rw[bU,bP W]at N;obtain rfl:=cr N;ext;have hl6:↑(yp0[j])<=6:=(by right:∀x∈yp0,↑x<=6) _ (cE W);exists _,_,J,J,vw (),?_
   rw[show yp0[j]++d[i]=Str.join ⟨#[32]⟩ [wdA j,d[i]] by
    rw[<- ywm ab];show _=yp0.getD j _++_;rw[cL,bP W];rfl]
   ext;erw[dk,C,P,Z,j,d[i],J,r,a4,hG.t,ab,λZ2 G2 L g2=>?_];let ae:=ai.goW r.wf g2;let S:=q.goW r.wf g2
   let#[d1,d2,d3]:=L.butL (ys:=((List.range j).map λu=>qV C P u d[i])++[qV C P j d[i]]) S λx N=>by
    let#[u,_,J]:=bW.mp N;erw[(vb6 C P u d[i]).imp id .inl]
   erw[xk S.1 (vi (by rw[bL,cS];omega)) O #[Z2,d1,(gZ.trans g2).nw f,d3 ae aj.symm,?_]];rwa[List.range_succ,ce,d2]
  rintro G ⟨Z,r,gZ,_,q⟩;have q:Kf G Z D (.lst (vl4 C P d[i])):=q;have I:Gx Y F G Z:=gZ.ahead T1;let a5:=hk.goW c.wf I;let ah:=hn.goW c.wf I;have a7:F D=none:=T1.free f;have a8:H D=none:=g.g.free a7;ext;erw[xr a5.1 (vi (by rw[bQ,vv];show 3+i<=_;omega)) ?_]
  let#[d1,d2,d3]:=r.butL (ys:=(hd3 C P).map V.str++refs ς i++[.ref D]) a5 λx N=>by
   rcases cA.mp N with z|z
   .let#[u,_,J]:=bW.mp z;erw[.inl #[u,J]]
   .let#[u,hu,J]:=bW.mp z;let hu:=c8.mp hu;have am:u<↑d:=()
    have:=((v u hu).2.2 d[u] (bP am)).goW c.wf I;erw[.inr (.inr #[_,J,.inl #[_,this.1]])]
  have aa:nl≠l:=λz=>by
   let e:=ac.1;rw[z,p]at e;cases e
  ext;erw[Z,λj=>if j=i then D else ς j,_,J,d1,(g.trans I).nw p,d3 ah aa,?_,λj O=>?_]
  .rw[ykv,<- cq];erw[d2]
  .by_cases z:j=i
   .simp only[if_pos z];erw[a3.symm,a8,λb e=>?_];rw[z,bP hi]at e;rwa[<- cr e,d3 q a3.symm]
   .simp only[if_neg z];let#[r1,r2,r3]:=v j ();erw[r1,r2,λb e=>d3 ((r3 b e).goW c.wf I) r1]
 rintro σ2 F ⟨Y,ς,v3,rfl,c,g,hn,hk,v⟩;rw[bL,a6]at hk v;ext;erw[k l ς Y F c g #[hk,λj b e=>(v j (by have:=(bY.mp e).1;omega)).2.2 b e] p λj O=>(v j O).2.1]
#synth ∀(K:xy)(a:Ads),∀(dk:qa)(C:Cf)(P:qj Pd)(X:Sx)(C2:Cf)(P2:qj Pd)(d:Ο)(_:vs=[.ref dk,.str (Str.ofString "open "++uo d)])(_:Dk K a H dk C P X)(_:Byt d)(_:↑d<=40000)(_:ym7 C2 P2)(_:ShK C2 P2 d)(_:d≠shB C2 P2)(_:∀H',y7 H H'->Q (.bl true) H'),ynm
def yvf:(Df.v P w mg Γ) T.M8 19 (ynm K a):=by
 exists M8,["_law_desk","_law_row","_law_kinds","e"],l;let#[G,C,P,X,f,j,d,J,g,n,u,c,q,p,k]:=h;let#[I,U,t]:=g.ins;exists 2,2,yf (pst 2 ϰ (wk ub)) (yf (vbo (i:=3) (λD S=>(yc (yv (yu (pv 0) T.Ab T.Aa.m (ug T) l.m T.Aa.B .nil yaz (pav 1))))) #[J,J] J T.Dd (λD x=>(yc (pst 2 ϰ (wk (pac (pcB (id:="isinstance") (r:=ytz K) đ T.A5 (pac (pv 3) (pa1 (uv J T.Av)))) (pac (pcB (id:="isinstance") (r:=ytz K) đ T.A5 (pac (pv 3) (pa1 (j9 (T:="ValueError") J T.Ev (by right))))) (pac (pcB (id:="isinstance") (r:=ytz K) đ T.A5 (pac (pv 3) (pa1 (uv J T.Mv)))) (pa1 (pcB (id:="isinstance") (r:=ytz K) đ T.A5 (pac (pv 3) (pa1 (uv J T.C6)))))))))))) ϰ J J) (yc (yn (zg (ysr l.units) (pv 2) (wk (pac Ď (pac Ď (pac Ď (pa1 Ď))))) (yy _)))));exists (by walk_at "len"),λO hl0=>?_
 exists hl0,H1,S1,hl1;let L:=S1 _ _ t;let R:=ud d;ext;rwa[show Str.ofString "open "++uo d=_ from ytt "open" _ J,(g.same S1).two (i:=6) (ygv _) () λW v=>.opn f j d J n u c q (λz=>absurd z p) λZ I N ς=>?_];erw[vjf T.B9 λe he=>?_];dsimp only[List.set];exists he,H4,S4,e4;ext;erw[yl1 e4 T.Bc T.Cm ?_,←vdd e4 T.Bc T.Bq ?_,←yl1 e4 T.Bc T.E5 ?_,←yl1 e4 T.Bc T.Cl ?_];ext;exists (by walk_at "len"),λM hl5=>?_
 exists hl5,H5,S5,e5;ext;exists (by walk_at "len"),λY hl6=>?_
 exists hl6,H6,S6,e6;erw[vd5 [true,true,false,false] [true,true,false,false] (SqL.of (S6 _ _ e5)) (SqL.of e6) ?_];rwa[bV J,k _ (S1.trans (v.trans (ς.trans (S4.trans (S5.trans S6)))))]
def yqo(s:String):PyData.strOk (Str.ofString s)=true:=by
 rw[Str.ofString_eq_byList];unfold PyData.strOk Str.ofStringByList;rw[<- Array.all_toList,List.all_eq_true];intro c a;let#[x,_,J]:=bW.mp a;erw[bV ?_];have:=x.valid;rcases this with h|⟨_,h⟩
 .erw[Nat.lt_trans h ∅]
 .erw[h]
def yq6{x:Str}(h:∀c,c∈x.cps.toList->c<1114112):PyData.strOk x=true:=by unfold PyData.strOk;rwa[<- Array.all_toList,List.all_eq_true,λc a=>bV (h c a)]
def vdb{x:Str}(h:PyData.strOk x=true):∀c,c∈x.cps.toList->c<1114112:=λc a=>by
 unfold PyData.strOk at h;rw[<- Array.all_toList,List.all_eq_true]at h;erw[of_decide_eq_true (h c a)]
def ylx(ts:Ο):PyData.strOk (uo ts)=true:=yq6 λc a=>(yrr a).2
theorem vfa{c:Nat}(hc:c<1114112):∀{ws:qj (qj Nat)},(∀w,w∈ws->∀x,x∈w->x<1114112)->∀x,x∈jL c ws->x<1114112
 |[],_,x,hx=>nomatch hx
 |[w],h,x,hx=>h w cG x hx
 |w::v::r,h,x,hx=>by
  have hx:x∈w++c::jL c (v::r):=hx;rcases cA.mp hx with z|z
  .erw[h w cG x z]
  .rcases bZ.mp z with rfl|z
   .erw[hc]
   .erw[vfa hc (λu a=>h u (cF _ a)) x z]
def yw3{ws:Ρ}(h:∀w,w∈ws->PyData.strOk w=true):PyData.strOk (Str.join ⟨#[32]⟩ ws)=true:=yq6 λc a=>by
 rw[Â]at a;erw[vfa ∅ (λw b=>?_) c a];let#[u,d,J]:=bW.mp b;erw[vdb (h u d)]
theorem ylz{f:Pd->Nat}:∀{P:qj Pd}{b:Υ}{m:Nat}{y:Str},bsF f P b m=some y->b=some y\/∃q,q∈P/\q.nm=y
 |[],b,m,y,e=>.inl e
 |q::P,b,m,y,e=>by
  have e:(if f q<m then bsF f P (some q.nm) (f q)else bsF f P b m)=some y:=e
  split at e
  .rcases ylz e with z|⟨r,c,a⟩
   .cases z;erw[.inr #[q,cG,J]]
   .erw[.inr #[r,cF _ c,a]]
  .rcases ylz e with z|⟨r,c,a⟩
   .erw[.inl z]
   .erw[.inr #[r,cF _ c,a]]
end
section
mutual
variable{C:Cf}{P:qj Pd}{ns:Ρ}
theorem Gd.nm(g:Gd C P ns)(o:NsO ns){q:Pd}(hq:q∈P):PyData.strOk q.nm=true:=(o.o _ (g.i q hq)).1.2
def yqu{x:Υ}(h:∀y,x=some y->PyData.strOk y=true):PyData.strOk (x.getD !"-")=true:=by
 cases x with
 |none=>erw[yqo _]
 |some y=>erw[h y J]
def Gd.hd(g:Gd C P ns)(o:NsO ns):∀s,s∈hd3 C P->PyData.strOk s=true:=λs a=>by
 unfold hd3 at a;simp only[bZ,List.not_mem_nil,or_false]at a;rcases a with rfl|rfl|rfl
 .erw[yw3 λw c=>?_];let#[q,b,J]:=bW.mp c;erw[g.nm o b]
 .erw[ylx _]
 .erw[yqu λy e=>?_];rcases ylz e with z|⟨q,b,rfl⟩
  .cases z
  .erw[g.nm o b]
def Gd.q(g:Gd C P ns)(o:NsO ns){r:Pd}(hr:r∈P)(i:Nat):PyData.strOk (qS C r i)=true:=by
 match i with
 |0=>erw[ylx _]
 |1 =>
  erw[yqu λy e=>?_];let#[j,b]:=List.mem_iff_getElem?.mp hr;let#[c,s,_,a,J]:=g.k j r y b e;erw[g.nm o (ck a)]
 |2=>erw[ylx _]
 |i+3=>erw[yqo _]
def qD(C:Cf)(P:qj Pd)(i:Nat)(b:Str):PyData :=
 match P.find? λq=>decide (q.nm=b)with
 |none=>.none
 |some r=>.str (qS C r i)
end
end
mutual
def Gd.sdq{H:Hp}{C:Cf}{P:qj Pd}{ns:Ρ}(g:Gd C P ns)(o:NsO ns)(i:Nat)(b:Str){k:Nat}:Sd K H (qV C P i b) (qD C P i b) k:=by
 unfold qV qD
 cases e:P.find? λq=>decide (q.nm=b)with
 |none=>erw[Sd.non]
 |some r=>erw[Sd.str (g.q o (List.mem_of_find?_eq_some e) i)]
theorem Sds.map{H:Hp}{k:Nat}{f:Nat->V}{d:Nat->PyData}(h:∀i,Sd K H (f i) (d i) k):∀l:qj Nat,Sds K H (l.map f) (l.map d) k
 |[]=>.nil
 |i::l=>.cons (h i) (Sds.map h l)
structure TlB(B:Hp)(C:Cf)(P:qj Pd)(ns:Ρ)(l:qa)(rs:Λ):Prop where
 l:B l\((hd3 C P).map V.str++refs rs 6)
 r:∀j b,ns[j]?=some b->B (rs j)\(vl4 C P b)
def TlB.same{B B':Hp}{C:Cf}{P:qj Pd}{ns:Ρ}{l:qa}(h:TlB B C P ns l rs)(S:y7 B B'):TlB B' C P ns l rs:=#[S _ _ h.l,λj b e=>S _ _ (h.r j b e)]
def TlB.sd{B:Hp}{C:Cf}{P:qj Pd}{ns:Ρ}{l:qa}(h:TlB B C P ns l rs)(g:Gd C P ns)(o:NsO ns):Sd K B ⇑l (.list (.str (Str.join ⟨#[32]⟩ (P.map (·.nm))):: .str (uo (shB C P)):: .str ((ye3 C P [97]).getD !"-")::(List.range 6).map λj=>.list ((List.range 4).map λi=>qD C P i (ns.getD j !"")))) 2:=by
 let b:=g.hd o;erw[Sd.lst (SqL.of h.l) (.cons (Sd.str (b _ (by simp[hd3]))) (.cons (Sd.str (b _ (by simp[hd3]))) (.cons (Sd.str (b _ (by simp[hd3]))) (Sds.refs 6 λj c=>?_))))];have a:j<↑ns:=by rwa[o.l,c]
 let e:=bP a;rw[show ns.getD j (Str.ofString "")=ns[j] by rw[cL,e];rfl];erw[Sd.lst (SqL.of (h.r j _ e)) (Sds.map (λi=>g.sdq o i _) _)]
def ymw{gg:Bool->Bool}{Q:VK}{F:Hp}{C:Cf}{P:qj Pd}{ns:Ρ}{l l':qa}{rs':Λ}(g:Gd C P ns)(o:NsO ns)(h:TlB F C P ns l rs)(h':TlB F C P ns l' rs')(q:Q (.bl (gg true)) F):yya K gg ⇑l ⇑l' F Q:=vio (h.sd g o) (h'.sd g o) ∅ q
structure T2(K:xy)(a:Ads)(B H:Hp)(d1:qa)(C1:Cf)(P1:qj Pd)(X1:Sx)(d2:qa)(C2:Cf)(P2:qj Pd)(X2:Sx):Prop where
 s1:Dk K a H d1 C1 P1 X1
 s2:Dk K a H d2 C2 P2 X2
 p:Sep X1 X2
 b1:Bs B H X1
 b2:Bs B H X2
end
section
mutual
variable{B H H':Hp}{d1 d2:qa}{C1 C2 C':Cf}{P1 P2 P':qj Pd}{X1 X2 Y:Sx}
theorem T2.same(h:T2 K a B H d1 C1 P1 X1 d2 C2 P2 X2)(S:y7 H H'):T2 K a B H' d1 C1 P1 X1 d2 C2 P2 X2:=#[h.s1.same S,h.s2.same S,h.p,h.b1.same S,h.b2.same S]
def T2.swap(h:T2 K a B H d1 C1 P1 X1 d2 C2 P2 X2):T2 K a B H d2 C2 P2 X2 d1 C1 P1 X1:=#[h.s2,h.s1,h.p.symm,h.b2,h.b1]
def T2.g2(h:T2 K a B H d1 C1 P1 X1 d2 C2 P2 X2)(s:Dk K a H' d2 C' P' Y)(g:Gx X2 H H' Y):T2 K a B H' d1 C1 P1 X1 d2 C' P' Y:=by let#[c,d]:=h.s1.oth h.s2 h.p g;let b:=h.b2.goW h.s2.wf g;erw[c,s,d,#[b.s,h.b1.n],b]
def T2.bk{B':Hp}(h:T2 K a B' H d1 C1 P1 X1 d2 C2 P2 X2)(S:y7 B B'):T2 K a B H d1 C1 P1 X1 d2 C2 P2 X2:=#[h.s1,h.s2,h.p,#[S.trans h.b1.s,λy w=>S.free (h.b1.n y w)],#[S.trans h.b2.s,λy w=>S.free (h.b2.n y w)]]
def T2.bas(h:T2 K a B H d1 C1 P1 X1 d2 C2 P2 X2):∃B':Hp,T2 K a B' H d1 C1 P1 X1 d2 C2 P2 X2/\y7 B B'/\∀x o,H x=some o->¬X1.f x->¬X2.f x->B' x=some o:=by
 classical
 have b:∀y o,(if X1.f y\/X2.f y then none else H y)=some o->H y=some o:=λy o e=>by
  by_cases z:X1.f y\/X2.f y
  .rw[if_pos z]at e;cases e
  .rw[if_neg z]at e;erw[e]
 erw[λx=>if X1.f x\/X2.f x then none else H x,#[h.s1,h.s2,h.p,#[b,λy w=>if_pos (.inl w)],#[b,λy w=>if_pos (.inr w)]],λy o e=>?_,λx o e c d=>?_]
 .show (if X1.f y\/X2.f y then none else H y)=some o;rw[if_neg λz=>z.elim (λw=>by rw[h.b1.n y w]at e;cases e) λw=>by rw[h.b2.n y w]at e;cases e];erw[h.b1.s _ _ e]
 .show (if X1.f x\/X2.f x then none else H x)=some o;rwa[if_neg λz=>z.elim c d,e]
def T2.say{nl:qa}{ns:Ρ}{Q:VK}{E:XK}(h:T2 K a B H d1 C1 P1 X1 d2 C2 P2 X2)(n:B nl\(ns.map V.str))(o:NsO ns)(g:Gd C2 P2 ns)(k:∀l rs B' Y F,T2 K a B' F d1 C1 P1 X1 d2 C2 P2 Y->y7 B B'->TlB B' C2 P2 ns l rs->Q ⇑l F):yfp K a [.ref d2,.ref nl] H Q E :=
 #[d2,nl,C2,P2,X2,ns,J,h.s2,#[h.b2.s _ _ n,λw=>by rw[h.b2.n _ w]at n;cases n],o,g,λl rs Y F s m t f i=>by
  let#[B',d,S,c]:=(h.g2 s m).bas;erw[k l rs B' Y F d S #[c _ _ t.l.1 (h.s1.new f) t.l.2,λj b e=>c _ _ (t.r j b e).1 (h.s1.new (i j (by have:=(bY.mp e).1;rw[o.l]at this;erw[this]))) (t.r j b e).2]]]
theorem T2.opn{Q:VK}{E:XK}(h:T2 K a B H d1 C1 P1 X1 d2 C2 P2 X2)(s:Byt (shB C' P')/\↑(shB C' P')<=39000/\ym7 C' P')(k:∀Y F,T2 K a B F d1 C1 P1 X1 d2 C' P' Y->Q (.str !"ok") F):Ľ K a [.ref d2,.str (Str.ofString "open "++uo (shB C' P'))] H Q E:=by have l:=ud (shB C' P');rwa[show Str.ofString "open "++uo (shB C' P')=_ from ytt "open" _ J,h.s2.two (i:=6) (ygv _) () λj c=>.opn C' P' _ J s.1 () s.2.2 (.inl J) (λZ Y F b f g=>k Y F (h.g2 b (Gx.opn h.s2 b (λy o e d=>f _ _ (c _ _ e) d) λy w=>(g y w).imp id c.free))) λz=>absurd J z]
end
end
mutual
def Dk.init{H:Hp}{dk dd l:qa}{mo w n:Nat}{lk:Λ}{kd:Ν}{ps:Κ}{Q:VK}{E:XK}(hdk0:H dk=none)(hdd0:H dd=none)(hl:H l\(refs lk n))(n1:1<=n)(n6:n<=6)(hR:xz H n lk kd tp ps)(m1:mo<=1000)(wm:w<=mo)(w2:w<=200)
  (k:∀X H',Dk K a H' dk #[n,kd,ps,mo,w] [] X->y7 H H'->(∀y,X.f y->H y=none)->Q .non H'):yb4 K a [.ref dk,.ref l,.int mo] (upd (upd H dd (.own dk)) dk (.ins a.Aj dd [])) Q E:=by
 have c:y7 H (upd (upd H dd (.own dk)) dk (.ins a.Aj dd [])):=λb o e=>by rwa[yk (yb e hdk0),yk (yb e hdd0),e]
 erw[dk,dd,l,mo,w,n,lk,tp,kd,ps,J,ya,c _ _ hl,n1,n6,hR.same c,m1,wm,w2,λX i d g h=>k X i d (λy o e=>g _ _ (c _ _ e) (yb e hdk0)) λy w=>(h y w).elim (λz=>by rwa[z,hdk0]) c.free]
def ya2(x:Ο)(b:Int):uo (x++[b])=uo x++hx2 b:=ú (by
 rw[xc,Ç,Ç,List.flatMap_append];rfl)
def ywt(x:Ο)(b:Int):Txt.slice (uo (x++[b])) none (some (-2))=uo x:=by
 let a:=ud (x++[b]);rw[bQ,cJ]at a;let e:=PyProof.Rows.slice_closes_to_neg (x:=uo (x++[b])) (j:=-2) (k:=((2*↑x:Nat):Int)) ∅ () ();rwa[beq_iff_eq.mp e,ú ?_];have c:(uo x).cps.toList.length=2*↑x:=by rwa[<- zw,ud x]
 show ((uo (x++[b])).cps.toList.take ((2*↑x:Nat):Int).toNat)=_;rwa[ya2,xc,Int.toNat_natCast,List.take_left' c]
def yu4(x:Str):x++Str.ofString " 0000"=x++Str.ofString " "++uo [0,0]:=ú (by
 simp only[xc];rw[cq];rfl)
def Bdy(C:Cf)(P:qj Pd)(y:V):Prop:=∃d,y=.str (uo d)/\Byt d/\↑d<=40000/\ShK C P d/\d≠shB C P
#synth ∀(K:xy),∀(l:qa)(ns:Ο)(_:vs=[.ref l])(_:SqL K H l ↥ns)(_:↑ns<=63)(_:∀H',Q (.bl true) H'),ygp
def yzv:(Df.v P w mg Γ) T.M9 21 (ygp K):=by
 exists M9,["_law_script","_law_names_here","_law_pick","_law_more","_law_desk","_law_there","_law_other","_law_told_here","_law_bad","_law_third","_law_due"],c;let#[l,zs,J,hS,aM,k]:=h;erw[yh (pst 1 ϰ (x0 (yut T) c.m T.M4 (pa1 (x0 (Ĺ T) c.m T.D5 (pac (pv 0) (pa1 yg)))))) ?_,<-yh (pst 2 ϰ (x0 (Ĺ T) c.m T.D5 (pac (pv 0) (pa1 yg)))) ?_,<-yh (pst 3 ϰ (ym xa yg (pcT yjl T.Td (pa1 (zg xo (ym xb (pv 2) yg) yg (yy _)))))) ?_,<-yh (pst 4 ϰ (jl T.Hg (yew T) c.m J T.Hf T.Ha .nil vo (pac (x0 (ywb T) c.m T.M5 (pav 0)) (pa1 (ym v9 yg (pv 3)))))) ?_,<-yh (pst 5 ϰ (x0 (yvj T) c.m T.M6 (pac (pv 4) (pac (pv 1) (pac (pv 0) (pav 3)))))) ?_,<-yh (vz (yq ycq (pv 5) u9 (yy _)) (yc (yn Ď)) yx) ?_,<-yh (pst 6 ϰ (jl T.Hg (yew T) c.m J T.Hf T.Ha .nil vo (pac (wk (pa1 (zj (pac yz (pa1 (zj (pa1 yg))))))) (pa1 (ym v9 yg (ym xb (ym vk (pv 2) yg) yg)))))) ?_,<-yh (Î (vz (yq yh9 (ym xb (ym vk (pv 2) yg) yg) yg (yy _)) (yf (yv (yu (pv 6) T.Ab T.Aa.m (ug T) c.m T.Aa.B .nil ve (pa1 (ym vg (ym vg (ym vg yz (pix vn (pv 1) (ym xb (ym vk (pv 2) yg) yg))) yz) (x0 (yee T) c.m T.Es (pa1 (wk (pa1 (ym xb (ym vk (pv 2) yg) yg))))))))) (yc (vz (yq yda (pix vn (x0 (Ö T) c.m T.Bv (pac (pv 6) (pav 1))) yg) (pix vn (pv 1) (ym xb (ym vk (pv 2) yg) yg)) (yy _)) (yc (yn Ď)) yx))) yx)) ?_,<-yh (pst 7 ϰ (x0 (Ö T) c.m T.Bv (pac (pv 4) (pav 1)))) ?_,<-yh (vz (PW.pt (Ŀ (yq yda (yu (pv 6) T.Ab T.Aa.m (ug T) c.m T.Aa.B .nil ve (pa1 (ym vg yz (pix vn (pv 7) yg)))) yz (yy _)) (é (yq (ċ c.units) (x0 (Ö T) c.m T.Bv (pac (pv 6) (pav 1))) (pv 7) (yy _))))) (yc (yn Ď)) yx) ?_,<-yh (uy PassesOwn.never J (we (wk (pac (ym vg (pix vn (pv 7) yg) yz) (pac (ym vg (pix vn (pv 7) yg) yz) (pa1 (xv yll (pix vn (pv 7) yg) zf (uw (yx3 yl0 yg)))))))) (wd (i:=8) ϰ J (Or.inl J)) (yc (vz (PW.pt (Ŀ (u5 (u6 (x0 (yvf T) c.m T.M8 (pac (pv 6) (pa1 (ym vg yz (pv 8))))))) (é (yq yda (yu (pv 6) T.Ab T.Aa.m (ug T) c.m T.Aa.B .nil ve (pa1 yz)) (pix vn (pv 7) yg) (yy _))))) (yc (yn Ď)) yx))) ?_,<-yh (vz (PW.pt (Ŀ (yq yda (yu (pv 6) T.Ab T.Aa.m (ug T) c.m T.Aa.B .nil ve (pa1 (ym vg (ym vg yz (pix vn (pv 1) yg)) yz))) yz (yy _)) (é (yq yda (yu (pv 6) T.Ab T.Aa.m (ug T) c.m T.Aa.B .nil ve (pa1 (ym vg yz (pix vn (pv 1) yg)))) yz (yy _))))) (yc (yn Ď)) yx) ?_,<-yh (Î (vz (PW.pt (Ŀ (PW.pt (ycw (yq (ċ c.units) (pv 5) (wk ub) (yy _)) (ybd (yq yda (yu (pv 6) T.Ab T.Aa.m (ug T) c.m T.Aa.B .nil ve (pa1 (ym vg yz (pix vn (pv 1) yg)))) yz (yy _))))) (é (yq (ċ c.units) (x0 (Ö T) c.m T.Bv (pac (pv 4) (pav 1))) (pv 7) (yy _))))) (yc (yn Ď)) yx)) ?_,<-yh (pst 9 ϰ (jl T.Hg (yew T) c.m J T.Hf T.Ha .nil vo (pac (wk (pa1 (zj (pac yz (pa1 (zj (pa1 yg))))))) (pa1 yg)))) ?_,<-yh (yv (yu (pv 9) T.Ab T.Aa.m (ug T) c.m T.Aa.B .nil ve (pa1 (ym vg (ym vg (ym vg yz (pix vn (pv 1) (ym xb (ym vk (pv 2) yg) yg))) yz) (x0 (yee T) c.m T.Es (pa1 (x0 (ykt T) c.m T.He (pac (ym vk (pv 2) yg) (pa1 yg))))))))) ?_,<-yh (pst 10 ϰ (x0 (Ö T) c.m T.Bv (pac (pv 9) (pav 1)))) ?_,<-yh (vz (PW.pt (Ŀ (yq yda (yu (pv 6) T.Ab T.Aa.m (ug T) c.m T.Aa.B .nil ve (pa1 (ym vg yz (pix vn (pv 10) yg)))) yz (yy _)) (é (yq (ċ c.units) (x0 (Ö T) c.m T.Bv (pac (pv 6) (pav 1))) (pv 10) (yy _))))) (yc (yn Ď)) yx) ?_];exists 1,10,yc (yn (jh (zg xo (yu (pv 6) T.Ab T.Aa.m (ug T) c.m T.Aa.B .nil ve (pa1 (ym vg yz (pix vn (pv 7) yg)))) yz (yy _)) (Í (zg (ysr c.units) (x0 (Ö T) c.m T.Bv (pac (pv 6) (pav 1))) (pv 7) (yy _)))));erw[l,zs,4,J,hS,∅,λc4 aR aN=>?_]
 ext;erw[c4,J,aR,aN,λnl D H2 aJ a5 S2 bu bz bf=>?_];have C:NsO D:=#[bu,bf,bz];let a2:=S2.seq hS;clear hS S2 aJ aR aN c4;ext;erw[l,zs,5,J,a2,∅,λW p0 p1=>?_]
 ext;erw[.inr #[_,J,?_]]
 obtain⟨m,hm,m9⟩:∃m:Nat,(9*if decide (W%8=0)=true then 1 else 0:Int)=(m:Int)/\(m=0\/m=9):=by
  by_cases z:W%8=0
  .erw[9,by rw[bV z];rfl,∅]
  .erw[0,by rw[cj z];rfl,∅]
 ext;rw[hm];ext;erw[l,zs,J,a2,λlo n lk kd tp ps H3 b6 av n1 n6 aI S3=>?_];ext;rw[show (3:Int)+(m:Int)=((3+m:Nat):Int) by omega];intro dk dd ap au _;erw[Dk.init (w:=3+m) ap au av n1 n6 aI () (bT _) () λX H5 Z S5 nX=>#[J,?_]];obtain⟨g,am⟩:∃g:Cf,g=#[n,kd,ps,3+m,3+m]:=#[_,J];rw[<- am]at Z;have aC:Bs H2 H5 X:=#[S3.trans S5,λy w=>S3.free (nX y w)];have bt:g.w=3+m:=by rw[am]
 have bH:g.mo=3+m:=by rw[am]
 clear ap au b6 av aI S3 S5 nX n1 n6 am;ext;erw[dk,nl,l,g,X,D,zs,m,H2,J,Z,aC,a5,a2,C,m9,bt,(),aM,λt p X1 H6 a1 g6 ah bs f bc=>?_]
 let aj:=aC.goW Z.wf g6;let a2:=a2;clear Z aC g6;ext
 rw[cj (show ¬V.ref t=V.non from λz=>nomatch z)]
 erw[υ ?_];ext;ext;exists (by walk_at "len"),λx1 xg1=>?_
 exists xg1,xH1,xS1,xe1;ext;exists (by walk_at "len"),λx2 xg2=>?_
 exists xg2,xH2,xS2,xe2;ext;exists (by walk_at "len"),λx3 xg3=>?_
 exists xg3,xH3,xS3,xe3;let aL:=xS3;let xe2:=aL _ _ xe2;let aK:=xS2.trans aL;let xe1:=aK _ _ xe1;let a9:=xS1.trans aK;ext;obtain⟨a3,ax,ay,b5⟩:∃a3:Nat,1+W/8%1000=(a3:Int)/\1<=a3/\a3<=1000:=#[(1+W/8%1000).toNat,(),(),()];rw[ax];intro dj de as M _;have aU:xz xH3 1 (λ_=>x2) (λ_=>2) (λ_=>x1) (λ_=>[2]):=λi hi=>#[x2,J,xe2,xe1,by show ux ([2].map V.int)=true;decide+kernel];erw[Dk.init (w:=1) (n:=1) (lk:=λ_=>x2) as M xe3 (bT 1) ∅ aU b5 ay ∅ λX2 H7 a0 S7 nX=>#[J,?_]];let I:=a9.trans S7
 have L:T2 K a H2 H7 dk g p X1 dj #[1,λ_=>2,λ_=>[2],a3,1] [] X2:=#[a1.same I,a0,(λy w z=>by
  let#[o,e]:=(a1.same a9).live y w;rw[nX y z]at e;cases e),aj.same I,#[aj.s.trans I,λy w=>aj.s.free (a9.free (nX y w))]]
 let#[B,L,SB,aY]:=L.bas;let aO:=aY _ _ (I _ _ ah.1) ah.2 (λw=>by have e:=a9 _ _ ah.1;rw[nX t w]at e;cases e);let af:=SB _ _ a5;clear aY a1 aj a0 xe1 xe2 xe3 a9 S7 nX I aU as M ah bs a5 a2 SB;obtain⟨C2,aS,bD,aG⟩:∃C2:Cf,C2=#[1,λ_=>2,λ_=>[2],a3,1]/\C2.w=1/\1<=C2.mo:=#[_,J,J,ay];rw[<- aS]at L;clear aS ax
 have R:∀{F:Hp}{Q2:VK}{e:Int}{j:Nat}(hj:j<↑D),e=(j:Int)->y7 B F->Q2 (.str D[j]) F->yty K ⇑nl (e:) F Q2:=λ{F Q2 e j}hj he hF q=>by
  rwa[he,ul (SqL.of (hF _ _ af)) (wb (by rw[bU,bP hj];rfl)) q]
 let n6:=C.l;ext;erw[ye5 (λσ2 F=>σ2=[some ⇑l,some ⇑nl,some (W:),some (m:),some ⇑dk,some ⇑t,some ⇑dj,none,none,none,none]/\∃P2 X2,T2 K a B F dk g p X1 dj C2 P2 X2) ?_ ?_]
 .ext;refine z9 (λ_=>?_) (λ_=>?_)
  .let#[bO,bM,bF]:=L.s2.ins;obtain⟨j,hj,N⟩:∃j:Nat,W/32000%6=(j:Int)/\j<↑D:=#[(W/32000%6).toNat,(),()];let a7:=C.o _ (cE N);let bg:=xl a7.1.1;ext;erw[R N hj L.b1.s ?_,<-_,_,J,J,vw (by show 4+_<=_;omega),?_,←_,_,J,J,vw (by rw[ye7];show 4+_+1<=_;omega),?_];ext;exists (by walk_at "len"),λu hu0=>?_
   exists hu0,F1,T1,hu1;have aF:Sgs [W/192000%256]:=λx hx=>by rw[bX.mp hx];omega
   ext;erw[u,[W/192000%256],J,SqL.of hu1,aF,by show 1<=_;decide,λF2 U2=>?_]
   let aA:=ud [W/192000%256];erw[_,_,J,J,vw (by rw[ye7,ye7,aA];show 4+_+1+2<=_;omega),?_];let hh:=L.same (T1.trans U2);ext
   erw[hh.s2.put (x:=none) a7 (λy e=>nomatch e) aF (by show 1<=_;omega) (by show 0<60;decide) (λq hq=>nomatch hq) J λY F3 bx g3=>?_]
   let h3:=hh.g2 bx g3;ext;erw[h3.say af C (.one (cE N) (by show 1<=12;decide) aG) λlt rs B4 Y4 F4 h4 S4 t4=>?_,←ul (v:=.str D[j]) (SqL.of (h4.b1.s _ _ t4.l)) (wb (j:=0) J) ?_,←R N hj (S4.trans h4.b1.s) ?_,<-J,?_];rwa[bV J,#[false,J,υ ?_]];ext;erw[J,_,_,h4.bk S4]
  .ext;exists J,_,_,L
 clear L;rintro σ2 F ⟨rfl,P2,X2,h⟩;let a4:=f.sh h.s1 C;ext;erw[h.swap.say af C f λtl rs B1 Y1 F1 h1 aD hT=>?_];let h1:=h1.swap;let ae:=aD _ _ af;let ao:=aD _ _ aO;clear h af aO aD;let bE:=ud (shB g p);let#[dd,vd,me]:=h1.s2.ins;ext;erw[ul (v:=.str (uo (shB g p))) (SqL.of (h1.b1.s _ _ hT.l)) (wb (j:=1) J) ?_,<-_,_,J,J,vw (by show 5+_<=_;omega),?_,←h1.opn a4 λY F2 h2=>?_];clear h1 me;ext;erw[J,?_];rwa[bV J,#[false,J,υ ?_]];ext;erw[h2.say ae C f λbI bK B2 Y3 F3 h3 ac U=>?_,←ymw f C (U.same h3.b1.s) ((hT.same ac).same h3.b1.s) ?_,<-false,J,υ ?_];clear U h2 Y;let U:=hT.same ac;let ς:=ac _ _ ae;let ar:=ac _ _ ao;clear hT ae ao ac;have a6:∀{F:Hp}{Q2:VK},y7 B2 F->Q2 (.str (uo (shB g p))) F->yty K ⇑tl (1:) F Q2:=λ{F Q2}S q=>ul (v:=.str (uo (shB g p))) (SqL.of (S _ _ U.l)) (wb (j:=1) J) q;ext;erw[a6 h3.b1.s ?_,<-_,_,J,J,vw (by show _+2<=_;omega),?_];rw[show uo (shB g p)++Str.ofString "00"=_ from (ya2 _ 0).symm];ext;erw[a6 h3.b1.s ?_,<-_,_,J,J,vw (by show _+2<=_;omega),?_];rw[show uo (shB g p)++Str.ofString "7f"=uo (shB g p++[127]) by rw[ya2];congr 1];ext;erw[a6 h3.b1.s ?_];ext;let#[s0,b0,a8]:=Ķ (x:=shB g p) (by unfold shB hdB;simp);erw[_,J,vw (),?_];rw[show Txt.slice (uo (shB g p)) none (some (-2))=uo s0 by rwa[a8,ywt s0 b0]];ext;exists (by walk_at "len"),λwl hw0=>?_
 obtain⟨bd,aQ,aw⟩:∃bd,bd=[V.str (uo (shB g p++[0])),V.str (uo (shB g p++[127])),V.str (uo s0)]/\∀y,y∈bd->Bdy g p y:=#[_,J,by
  have aE:∀b:Int,0<=b/\b<=255->Bdy g p (.str (uo (shB g p++[b]))):=λb hb=>#[_,J,(λx hx=>(cA.mp hx).elim (a4.1 x) λz=>by rwa[bX.mp z,hb]),by rw[bQ,cJ];omega,.inr (.inl #[b,J]),λe=>by
   have:=congrArg List.length e;rw[bQ,cJ]at this;omega]
  let ba:=congrArg List.length a8;rw[bQ,cJ]at ba
  erw[List.forall_mem_cons.mpr #[aE 0 ∅,List.forall_mem_cons.mpr #[aE 127 ∅,List.forall_mem_cons.mpr #[#[s0,J,(λx hx=>a4.1 x (by rwa[a8,cZ _ hx])),(),.inr (.inr #[b0,a8.symm]),λe=>by
   have:=congrArg List.length e
   omega],λx hx=>nomatch hx]]]]]
 rw[<- aQ];let S4:=y9 (o:=(HO.lst bd)) hw0;have ag:upd F3 wl (HO.lst bd) wl=some (HO.lst bd):=ya;generalize upd F3 wl (HO.lst bd)=F4 at S4 ag⊢;erw[wl,J,#[_,SqL.of ag],xw (K:=K) (a:=wl) (xs:=bd) (λi σ2 G=>∃v8,σ2=[some ⇑l,some ⇑nl,some (W:),some (m:),some ⇑dk,some ⇑t,some ⇑dj,some ⇑tl,v8,none,none]/\y7 F4 G) ?_ ?_ ?_ ?_]
 .erw[none,J,y7.refl _]
 .rintro i σ2 G _ ⟨v8,rfl,SG⟩;erw[SqL.of (SG _ _ ag)]
 .rintro i y σ2 G hy ⟨v8,rfl,SG⟩;let#[d,J,bj,bl,bh,be]:=aw y (ck hy);let hh:=h3.same (S4.trans SG);let aA:=ud d;ext;erw[_,_,J,J,vw (by show 5+_<=_;omega),?_,←dj,g,p,Y3,g,p,d,J,hh.s2,bj,bl,a4.2.2,bh,be,λG2 S2=>?_,<-true,J,υ ?_];let#[dd,vd,me]:=(hh.same S2).s2.ins;ext;erw[(hh.same S2).s2.shelf a4.1 () λG3 S3=>?_,←a6 ((hh.same S2).same S3).b1.s ?_,<-J,?_];rwa[bV J,#[false,J,υ ?_]];ext;erw[_,J,SG.trans (S2.trans S3)]
 rintro σ2 G ⟨v8,rfl,SG⟩;let h4:=h3.same (S4.trans SG);clear h3 S4 SG hw0 ag aw aQ bd a8 b0 s0;have aa:5<↑D:=()
 let ak:=C.o _ (cE aa);let bg:=xl ak.1.1
 have an:∀q,q∈p->q.nm≠D[5]:=λq hq e=>by
  let hm:=bc q hq;rw[e]at hm;let#[j,hj,ej]:=List.mem_iff_getElem.mp hm;rw[cz]at hj;rw[List.getElem_take]at ej;erw[List.pairwise_iff_getElem.mp C.d j 5 () aa () ej]
 let bJ:=f.z h4.s1 C
 have R:∀{F:Hp}{Q2:VK}{e:Int}{j:Nat}(hj:j<↑D),e=(j:Int)->y7 B2 F->Q2 (.str D[j]) F->yty K ⇑nl (e:) F Q2:=λ{F Q2 e j}hj he hF q=>by
  rwa[he,ul (SqL.of (hF _ _ ς)) (wb (by rw[bU,bP hj];rfl)) q]
 let#[dd,vd,me]:=h4.s2.ins;ext;erw[R aa J h4.b1.s ?_,<-_,_,J,J,vw (by show 4+_<=_;omega),?_,←_,_,J,J,vw (by rw[ye7];show 4+_+5<=_;omega),?_];rw[yu4];ext
 erw[h4.s2.put (x:=none) (ts:=[0,0]) ak (λy e=>nomatch e) (λx hx=>by simp at hx;omega) (by show 2<=_;omega) () an J λY5 F5 Z g5=>?_]
 let h5:=h4.g2 Z g5;clear h4 Z g5 me;ext;erw[J,?_];rwa[bV J,#[false,J,υ ?_]];let#[dd,vd,me]:=h5.s2.ins;ext;erw[R aa J h5.b1.s ?_,<-_,_,J,J,vw (by show 4+_<=_;omega),?_];rw[show Str.ofString "get "++D[5]=Str.join ⟨#[32]⟩ [wdA 0,D[5]]from ytt "get" _ J];have al:(#[D[5],none,[],[0,0]]:Pd)∈p++[#[D[5],none,[],[0,0]]]:=cI _ cG;ext;erw[h5.s2.ask ak (λq hq=>?_) ∅ (λno=>absurd J (no _ al)) λr aH e Y6 F6 a1 g6=>?_]
 .rcases cA.mp hq with z|z
  .erw[f.t q z]
  .rw[bX.mp z];show 2<=12;decide
 obtain rfl:=Ċ h5.s2.pw.nd aH al e;let h6:=h5.g2 a1 g6;clear h5 a1 g6 me aH e;ext;erw[J,?_];rwa[bV (show V.str (qS g #[D[5],none,[],[0,0]] 0)=V.str (Str.ofString "0000")from (by right:V.str (uo [0,0])=V.str !"0000")),#[false,J,υ ?_]];ext;erw[ye5 (λσ2 F=>σ2=[some ⇑l,some ⇑nl,some (W:),some (m:),some ⇑dk,some ⇑t,some ⇑dj,some ⇑tl,v8,none,none]/\∃X1 P2 X2,T2 K a B2 F dk g p X1 dj g P2 X2) ?_ ?_]
 .let#[dd,vd,me]:=h6.s2.ins;ext;exists (by walk_at "len"),λw hw0=>?_
  exists hw0,G1,S1,hw1;let L:=h6.same S1;let aX:=L.b1.s _ _ ar;rw[show (p.map λq=>V.str q.nm)=(p.map (·.nm)).map V.str by rw[cM];rfl]at aX
  erw[ygd (p.map (·.nm)) [] (λz hz=>by
   let#[q,hq,J]:=bW.mp hz
   erw[f.nm C hq]) (λz hz=>nomatch hz) (SqL.of aX) (SqL.of hw1) ?_]
  by_cases h0:p.map (·.nm)=[]
  .rw[bV h0];erw[false,J,υ (υ ?_),←L.swap.say ς C f λbp bn B3 Y7 F7 h8 O az=>?_,←ymw f C (az.same h8.b1.s) ((U.same O).same h8.b1.s) ?_,<-false,J,υ ?_,←J,_,_,_,h8.swap.bk O]
  .rw[cj h0];erw[true,J,í ?_];let#[dd,vd,me]:=L.s2.ins;ext;erw[R aa J L.b1.s ?_,<-_,_,J,J,vw (by show 5+_<=_;omega),?_];rw[show Str.ofString "drop "++D[5]=Str.join ⟨#[32]⟩ [wdA 4,D[5]]from ytt "drop" _ J];ext;refine L.s2.two (ygt ak.2) () λG2 S2=>.drop #[_,al,J] (λq hq eq=>?_) λY8 F8 bm g8=>?_
   .rcases cA.mp hq with z|z
    .let#[j,hj]:=List.mem_iff_getElem?.mp z;let#[j',s',_,hs,es]:=f.k j q _ hj eq;erw[absurd es (an s' (ck hs))]
    .rw[bX.mp z]at eq;cases eq
   let h8:=L.g2 bm (g8.ahead S2);ext;erw[J,?_];rwa[bV J,#[false,J,υ ?_]];ext;erw[h8.swap.say ς C f λbp bn B3 Y7 F7 h9 O az=>?_,←ymw f C (az.same h9.b1.s) ((U.same O).same h9.b1.s) ?_,<-false,J,υ ?_,←J,_,_,_,h9.swap.bk O]
 clear h6 al ar;rintro σ2 F ⟨rfl,bG,bq,bb,h⟩;ext;ext;exists (by walk_at "len"),λz1 zg1=>?_
 exists zg1,zH1,zS1,ze1;ext;exists (by walk_at "len"),λz2 zg2=>?_
 exists zg2,zH2,zS2,ze2;ext;exists (by walk_at "len"),λz3 zg3=>?_
 exists zg3,zH3,zS3,ze3;let zT2:=zS3;let ze2:=zT2 _ _ ze2;let zT1:=zS2.trans zT2;let ze1:=zT1 _ _ ze1;let ai:=zS1.trans zT1;ext;intro dt de aq M _;have b3:xz zH3 1 (λ_=>z2) (λ_=>1) (λ_=>z1) (λ_=>[1]):=λi hi=>#[z2,J,ze2,ze1,by show ux ([1].map V.int)=true;decide+kernel];erw[Dk.init (mo:=5) (w:=5) (n:=1) (lk:=λ_=>z2) aq M ze3 (bT 1) ∅ b3 ∅ (bT _) ∅ λX3 F7 a0 S7 nX=>#[J,?_]];let I:=ai.trans S7;obtain⟨C3,b4,bC,aW⟩:∃C3:Cf,C3=#[1,λ_=>1,λ_=>[1],5,5]/\C3.w=5/\1<=C3.mo:=#[_,J,J,∅];rw[<- b4]at a0
 have L:T2 K a B2 F7 dj g bq bb dt C3 [] X3:=#[h.s2.same I,a0,(λy w z=>by
  let#[o,e]:=(h.s2.same ai).live y w;rw[nX y z]at e;cases e),h.b2.same I,#[h.b2.s.trans I,λy w=>h.b2.s.free (ai.free (nX y w))]]
 clear h a0 S7 nX I b3 aq M ze1 ze2 ze3 ai b4;let#[dd,vd,me]:=L.s2.ins;obtain⟨j,hj,N⟩:∃j:Nat,W/64%6=(j:Int)/\j<↑D:=#[(W/64%6).toNat,(),()];let a7:=C.o _ (cE N);let bA:=xl a7.1.1;ext;erw[R N hj L.b1.s ?_,<-_,_,J,J,vw (by show 4+_<=_;omega),?_,←_,_,J,J,vw (by rw[ye7];show 4+_+1<=_;omega),?_,←W/384,0,J,(),(),∅,λr ts F8 br aT aV bN T8=>?_]
 ext;erw[r,ts,J,SqL.of aT,aV,(),λF9 T9=>?_]
 let aA:=ud ts;erw[_,_,J,J,vw (by rw[ye7,ye7];show 4+_+1+_<=_;omega),?_];let h9:=L.same (T8.trans T9);ext
 erw[h9.s2.put (x:=none) a7 (λy e=>nomatch e) aV () (by show 0<60;decide) (λq hq=>nomatch hq) J λYA FA aP gA=>?_]
 let hA:=h9.g2 aP gA;clear L h9 aP gA br aT T8 T9 me;have ab:Gd C3 ([]++[#[D[j],none,[],ts]]) D:=.one (cE N) () aW;obtain⟨P3,bo⟩:∃P3:qj Pd,P3=[]++[#[D[j],none,[],ts]]:=#[_,J];rw[<- bo]at hA ab;let b9:=ab.sh hA.s2 C;ext;erw[hA.say ς C ab λtm rm B3 YB FB hB O aB=>?_];let hB:=hB.swap;clear hA;let bB:=ud (shB C3 P3);let#[dd,vd,me]:=hB.s2.ins;ext;erw[ul (v:=.str (uo (shB C3 P3))) (SqL.of (hB.b1.s _ _ aB.l)) (wb (j:=1) J) ?_,<-_,_,J,J,vw (by show 5+_<=_;omega),?_,←hB.opn b9 λYC FC hC=>?_];clear hB me;ext;erw[J,?_];rwa[bV J,#[false,J,υ ?_]];ext;erw[hC.say (O _ _ ς) C ab λtn rn B4 YD FD hD b7 aZ=>?_,←ymw ab C (aZ.same hD.b1.s) ((aB.same b7).same hD.b1.s) ?_,<-false,J,υ ?_];let ad:=O.trans b7;clear hC aB aZ;let#[dd,vd,me]:=hD.s2.ins;ext;erw[a6 (ad.trans hD.b1.s) ?_,<-_,_,J,J,vw (by show 5+_<=_;omega),?_,←hD.opn a4 λYE FE hE=>?_,←J,?_];rwa[bV J,#[true,J,í ?_]];ext;erw[hE.say (ad _ _ ς) C f λto ro B5 YF FF hF bw bi=>?_,←ymw f C (bi.same hF.b1.s) ((U.same (ad.trans bw)).same hF.b1.s) ?_,<-k _]
end
end
variable{C C2:Cf}{Q:qj Pc}{P P2:qj Pd}{X Y:Sx}
def all_mk{l:W.OpenLaw}{w:qe}{K:xy}{mg:Ε}{fa:qa}(hfa:mg "law"∣fa)(T:Txt K mg a)
 :∃fd:FuncData,(∀(s:qb)(v:qc),BindsTo s fd #[[v],[]] [("_law_script",v)])/\∀Γ:qg,K.In Γ->Γ.Ns mainGlobals mg->vq l.prog w K mg Γ CX0 21 fa fd ["_law_script"] (ygp K):=by have e:=hfa.symm.trans T.M9.m;obtain rfl:=Value.ref.inj (cr e);erw[a.Ki,λs v=>?_,λΓ Z Z=>yzv T];let#[_,_,_,_,_,_,_,_,_,e,_,_]:=T.M9.F.ex;rwa[e,.of_eq J]
def walk{l:W.OpenLaw}{q:qi}{loose:Ρ}{XP:(Ε)->qg->Prop}{YP:qe->qg->Prop}{d:DefRec}{K:Params->xy}(hn:l.most=some 63)(hdf:d.params.defaults=[])
  (hY:∀(w:qe)(h:qg),YP w h->(K w.params).In h)
  (F:∀(w:qe)(mg:Ε)(fa:qa)(h:qg),(K w.params).In h->h.Ns mainGlobals mg->mg d.name∣fa ->
   ∃fd:FuncData,(∀(s:qb)(u:qc),BindsTo s fd #[[u],[]] [("_law_script",u)])/\∀Γ:qg,(K w.params).In Γ->Γ.Ns mainGlobals mg->vq l.prog w (K w.params) mg Γ CX0 21 fa fd ["_law_script"] (ygp (K w.params))):
  W.WalkO q loose XP YP l.row.toRowW d [] (λf vs=>PySem.call f vs) :=
 L2.walk_of (n:=63) (k:=21) (x:="_law_script") (CX:=λZ=>CX0) (sp:=λw=>ygp (K w.params)) hn ∅ hdf #[J,∅,∅] hY F (λZ Z a c b Z e=>#[a,c,J,e,b,λZ=>rfl]) λZ Z Z Z Z z=>z
end Law
end
open PySem PySem.W PyProof.Rows
set_option maxRecDepth 100000 in
set_option maxHeartbeats 0 in
theorem PySem.Challenge.cw_foretell_k55_desk_open_holds : PySem.Challenge.rw_foretell_k55_desk_open.Holds := by
 refine H0.2 ?_
 unfold H0
 dsimp only []
 k_fill
 refine Law.walk (l := PySem.Challenge.rw_foretell_k55_desk_open) rfl rfl (fun w h Y => PySem.W.kIn_of Y) ?F
 case F =>
  intro w mg fa h KX G hmg
  refine' Law.all_mk hmg (Law.Txt.mk (a := Law.Ads.mk) ..)
  any_goals (refine L2.pG ?_; try dsimp only)
  any_goals (refine L2.pG ?_; first | (refine' PySem.W.mg_of KX G ?_; k_is; done) | (refine' PySem.W.mg_none_of KX G ?_; k_is; done))
  any_goals (refine L2.pG ?_; first | (refine' L2.Dg.d1 (L2.dgf_mk KX G ?_ ?_ ?_ ?_); any_goals k_is; done) | (refine' L2.Dg.d2 (L2.dgf_mk KX G ?_ ?_ ?_ ?_); any_goals k_is; done) | (refine' L2.Dg.d3 (L2.dgf_mk KX G ?_ ?_ ?_ ?_); any_goals k_is; done) | (refine' L2.Dg.d4 (L2.dgf_mk KX G ?_ ?_ ?_ ?_); any_goals k_is; done) | (refine' L2.Dg.d1 (L2.dgm_mk ?_ ?_ ?_ ?_ ?_); any_goals k_is; done) | (refine' L2.Dg.d2 (L2.dgm_mk ?_ ?_ ?_ ?_ ?_); any_goals k_is; done) | (refine' L2.Dg.d3 (L2.dgm_mk ?_ ?_ ?_ ?_ ?_); any_goals k_is; done) | (refine' L2.Dg.d4 (L2.dgm_mk ?_ ?_ ?_ ?_ ?_); any_goals k_is; done) | (refine' L2.funD_mk ?_ ?_ ?_; any_goals k_is; done) | (refine' L2.bindsR (j := 2) ?hj ?hh ?hd; (case hd=>k_is); (case hj => rfl); (case hh => exact fun _ _ _ _ _ _ _ _ => Exists.intro _ ⟨rfl, rfl⟩); done) | (refine' L2.bindsR (j := 3) ?hj ?hh ?hd; (case hd=>k_is); (case hj => rfl); (case hh => exact fun _ _ _ _ _ _ _ _ _ => Exists.intro _ ⟨rfl, rfl⟩); done) | (refine' L2.bindsR (j := 4) ?hj ?hh ?hd; (case hd=>k_is); (case hj => rfl); (case hh => exact fun _ _ _ _ _ _ _ _ _ _ => Exists.intro _ ⟨rfl, rfl⟩); done) | (refine' L2.XCls.mk ?_ ?_ ?_ ?_ ?_ ?_ ?_ ?_ <;> k_is) | (refine' L2.Cls.mk ?_ ?_ ?_ ?_ <;> k_is) | (refine' L2.Mk.mk ?_ ?_ ?_ ?_; any_goals k_is; done) | (refine' L2.Meth.mk ?_ ?_ ?_; any_goals k_is; done) | ((first | refine' L2.exm_mk ?_ ?_ ?_ ?_ | refine' L2.exm_mkB ?_ ?_ ?_ ?_); any_goals (first | k_is | k_exc); done) | (unfold L2.NoAttr; k_is) | k_is | kit_is | k_exc | (with_reducible show _ = _; first | k_is | k_exc))
  any_goals (refine L2.pG ?_; first | (refine' L2.funD_mk ?_ ?_ ?_; any_goals k_is; done) | (refine' L2.bindsR (j := 2) ?hj ?hh ?hd; (case hd=>k_is); (case hj => rfl); (case hh => exact fun _ _ _ _ _ _ _ _ => Exists.intro _ ⟨rfl, rfl⟩); done) | (refine' L2.bindsR (j := 3) ?hj ?hh ?hd; (case hd=>k_is); (case hj => rfl); (case hh => exact fun _ _ _ _ _ _ _ _ _ => Exists.intro _ ⟨rfl, rfl⟩); done) | (refine' L2.bindsR (j := 4) ?hj ?hh ?hd; (case hd=>k_is); (case hj => rfl); (case hh => exact fun _ _ _ _ _ _ _ _ _ _ => Exists.intro _ ⟨rfl, rfl⟩); done))
#print axioms PySem.Challenge.cw_foretell_k55_desk_open_holds
