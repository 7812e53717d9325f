import PyProof.Rows.All
import Wide.All
import OpenK.AllK
import Wide.FinOn
import Lean
import PyProof.EqAt
import PyProof.EqKinds
import PyProof.TupleCall
import PySem.Challenge.RW_websbykind_k08_whole_alike_webs
set_option Elab.async false
set_option linter.all false
set_option compiler.extract_closed false
set_option bootstrap.genMatcherCode false
set_option genSizeOf false
set_option maxHeartbeats 4000000
set_option maxRecDepth 100000
set_option autoImplicit true
open PySem PySem.Spec PyProof.Rows
open PySem.W (Frag)
noncomputable section
def zQ1 k a:=Lean.Syntax.node .none k a
def zQ2 a:=zQ1 `null a
def zQ3 a:=zQ1 `Lean.Parser.Tactic.rcasesPatMed #[zQ2 #[a]]
def zQ4(f:Lean.Syntax->Lean.Syntax):Lean.Syntax->Lean.Syntax:=Lean.Syntax.rewriteBottomUp f
def zQ8(x:Lean.Syntax):Lean.Syntax:=match x with
|.node _ (.str b s) a=>if s=="ext"&&b== `Lean.Elab.Tactic.Ext then zQ1 `Lean.Parser.Tactic.renameI #[a[0]!,zQ2 (x[1].getArgs.map λp=>let i:=p[0][0];zQ1 `Lean.binderIdent #[if i.isIdent then i else zQ1 `Lean.Parser.Term.hole #[i]])] else if b== `Lean.Parser.Tactic then zQ1 (.str b (match s with|"exact"=>"show"|"show"=>"exact"|"refine"=>"apply"|"apply"=>"refine"|"unfold"=>"delta"|"delta"=>"unfold"|s=>s)) a else x.setInfo .none
|_=>x.setInfo .none
def zQ5:Lean.Syntax->Lean.Syntax
|x@(.ident ..)=>zQ1 `Lean.Parser.Tactic.rcasesPat.one #[x]
|x@(.node _ k a)=>if k== `Lean.Parser.Term.hole then zQ1 `Lean.Parser.Tactic.rcasesPat.ignore a else if k== `Lean.Parser.Term.tuple then zQ1 `Lean.Parser.Tactic.rcasesPat.tuple #[Lean.mkAtom "⟨",zQ2 ((#[x[1][0],Lean.mkAtom ","]++x[1][2].getArgs).map λx=>if x.isAtom then x else zQ1 `Lean.Parser.Tactic.rcasesPatLo #[zQ3 x,zQ2 #[]]),Lean.mkAtom "⟩"] else x
|x=>x
def zQ6:Lean.Syntax->Lean.Syntax:=λx=>
 let p:=x[2][0]
 if x.isOfKind `Lean.Parser.Tactic.tacticLet__&&p.isOfKind `Lean.Parser.Term.letPatDecl then zQ1 `Lean.Parser.Tactic.obtain #[Lean.mkAtom "obtain",zQ2 #[zQ3 (zQ4 zQ5 p[0])],zQ2 #[],zQ2 #[Lean.mkAtom ":=",zQ2 #[p[4]]]] else zQ8 x
def zQ7:=zQ2 #[zQ1 `Lean.Parser.Command.noncomputable #[Lean.mkAtom "noncomputable"]]
local macro_rules(kind:=Lean.Parser.Command.declaration)
|x=>if x.getPos?.isNone then Lean.Macro.throwUnsupported else
 let x:=zQ4 zQ6 x
 let y:=x[1]
 if !x[0][4].isNone then return (if y.isOfKind `Lean.Parser.Command.abbrev then x.setArg 0 (x[0].setArg 4 zQ7) else x)
 else if y.isOfKind `Lean.Parser.Command.definition then return x.setArg 1 (if y[2][1].isNone then y.setKind `Lean.Parser.Command.abbrev else zQ1 `Lean.Parser.Command.theorem #[y[0],y[1],zQ1 `Lean.Parser.Command.declSig #[y[2][0],y[2][1][0]],y[3]])
 else if y.isOfKind `Lean.Parser.Command.abbrev then return zQ1 x.getKind #[if x[0][6].isNone then x[0].setArg 4 zQ7 else x[0].setArg 6 (zQ2 #[]),zQ1 `Lean.Parser.Command.definition #[y[0],y[1],y[2],y[3],zQ2 #[]]]
 else return x
local macro_rules|`(!$x)=>`(some $x)
local macro_rules|`(#[$x,*])=>`(⟨$x,*⟩)
local macro_rules | `(⋯)=>`(by first |decide |lia |simp)
local macro_rules | `($x⁻¹)=>`(($x).heap.objs.size)
local macro_rules|`(⇑$x)=>`((.slot $x))
local macro_rules|`(↥$x)=>`((.val (.int $x)))
local macro_rules|`(‹$x›)=>`((.dat (.int $x)))
set_option hygiene false in
local macro_rules|`(~~~5)=>`(List (List Int))
local macro_rules|`(~~~0)=>`(List Int)
set_option hygiene false in
local macro_rules|`(~~~1)=>`(List (Addr×Obj))
set_option hygiene false in
local macro_rules|`(~~~2)=>`(model X.prog X.w)
local macro_rules|`(~~~3)=>`(("__debug__":Str))
set_option hygiene false in
local macro_rules|`(~~~7)=>`(Inv X aj J H s)
set_option hygiene false in
local macro_rules|`(tactic|symm)=>`(tactic|cases h)
local macro_rules|`(¬$x:num)=>`(nat_lit $x)
def aS:=@PySem.wpAny_bind
def bP:=@List.getD_eq_getElem?_getD
def b0:=@List.mem_cons_of_mem
def b6:=@List.getElem?_append_right
def b8:=@List.getElem?_append_left
def dA:=@List.mem_cons_self
def dC:=@PySem.wpAny_pure
def dE:=@PySem.Heap.get?_push_of_some
def dL:=@List.getElem?_eq_some_iff
def dS:=@List.length_append
def d5:=@Nat.le_refl
def d6:=@List.size_toArray
def eA:=@List.length_map
def eC:=@List.mem_cons
def eD:=@Array.length_toList
def eI:=@Bool.and_eq_true
def eJ:=@List.getElem?_eq_getElem
def eM:=@PySem.Heap.get?_push_size
def eP:=@List.mem_singleton
def eQ:=@List.mem_map
def eR:=@if_neg
def fA:=@PySem.Heap.lt_size
def fI:=@List.append_assoc
def fN:=@Nat.lt_of_lt_of_le
def fR:=@if_pos
def gL:=@List.mem_append_right
def gN:=@decide_eq_true_eq
def hU:=@Option.bind_eq_some_iff
def hV:=@PyProof.Rows.wpS_bind
def i5:=@List.getElem?_set_ne
def i6:=@PyProof.Rows.wpS_pure
def i7:=@List.nodup_cons
def i8:=@List.length_take
def i9:=@List.getElem?_set_self
def kA:=@List.take_append_drop
def kS:=@Nat.le_trans
def lL:=@List.mem_of_getElem?
def lS:=@Nat.add_sub_cancel_left
def l7:=@List.mem_append_left
def l8:=@List.pairwise_append
def l9:=@List.mem_append
def mB:=@List.length_cons
def mE:=@List.Perm.refl
def mI:=@List.getElem_of_mem
def mM:=@List.getElem?_map
def mN:=@List.map_congr_left
def mP:=@Nat.ne_of_lt
def nE:=@List.length_replicate
def nN:=@PySem.wpAny_holding
def nS:=@Array.getElem?_toList
def nV:=@List.all_eq_true
def oC:=@decide_eq_true
def oD:=@Nat.not_lt_zero
def oI:=@List.take_of_length_le
def oP:=@Nat.zero_le
def oQ:=@Option.some.inj
def oT:=@List.append_nil
def o5:=@PySem.wpAny_mono
def o6:=@List.mem_range
def pE:=@PySem.Heap.get?_update_other
def pV:=@List.mem_filter
def qS:=@Array.map_push
def rV:=@Array.getElem?_eq_getElem
def r6:=@PySem.wpAny_setState_of
def sB:=@PyProof.Rows.callWith_type1
def sK:=@List.take_append_of_le_length
def sR:=@PySem.Heap.get?_update_self
def sT:=@List.pairwise_singleton
def tI:=@PySem.wpAny_truthy_bool
def tJ:=@List.pairwise_cons
def tP:=@List.getElem_mem
def tS:=@PySem.wpAny_newObj_type
def t5:=@of_decide_eq_true
def t6:=@Bool.false_ne_true
def t7:=@Bool.false_eq_true
def t8:=@PySem.sizeLine_eq
def t9:=@List.length_singleton
def u4:=@Nat.lt_or_ge
def u7:=@PySem.wpAny_call_entry
def u8:=@Nat.lt_irrefl
def vS:=@Nat.le_of_succ_le
def v3:=@List.range_eq_range'
def v4:=@Nat.zero_add
def v6:=@Option.map_eq_some_iff
def wE:=@decide_eq_false
def wP:=@List.drop_eq_getElem_cons
def wS:=@Bool.or_eq_true
def wT:=@PySem.wpAny_standAt
def xI:=@List.lookup_cons
def xL:=@Nat.lt_succ_self
def x3:=@List.not_mem_nil
def x4:=@List.getElem?_take_of_lt
def x5:=@List.getElem?_eq_none
def yA:=@List.nodup_append
def yB:=@PySem.W.kia_one
def yY:=@Nat.lt_of_le_of_lt
def y3:=@List.take_succ_eq_append_getElem
def y4:=@List.perm_ext_iff_of_nodup
def y6:=@beq_eq_false_iff_ne
def y7:=@List.filterMap_cons
def y8:=@PySem.wpAny_rule
def An:=@List.mem_map_of_mem
def Ap:=@Nat.le_of_lt_succ
def At:=@Int.toNat_natCast
def AA:=@PySem.Heap.SameBut.update
def AB:=@List.pairwise_map
def AC:=@List.nodup_nil
def AD:=@List.pairwise_iff_getElem
def AE:=@List.length_set
def AF:=@PySem.codeAny_builtin
def AG:=@List.set_append_right
def AH:=@List.map_append
def AI:=@List.mem_replicate
def AJ:=@Ne.symm
def AK:=@PySem.wpAny_askSetting
def AL:=@beq_self_eq_true
def AM:=@List.eq_nil_of_length_eq_zero
def AO:=@Bool.not_eq_true'
def AQ:=@List.replicate_succ
def AR:=@Option.map_some
def AS:=@Nat.min_eq_left
def AT:=@Array.perm_iff_toList_perm
def AU:=@PySem.F.slot_tuple_iterator_next
def AV:=@Array.getElem?_eq_some_iff
def AW:=@PySem.wpAny_forIn_list
def AX:=@List.range'_succ
def AY:=@Nat.le_of_lt
def AZ:=@PyProof.Rows.assignInOrder_cons
def A4:=@List.perm_append_comm
def A5:=@Nat.sub_eq_zero_of_le
def A6:=@PySem.Obj.data_mapFields
def A7:=@List.length_filter_le
def A8:=@Bool.and_false
def A9:=@PySem.wpAny_seqItems
def Bi:=@Classical.byContradiction
def Bn:=@Array.mem_toList_iff
def Bz:=@PySem.wpAny_passesOwn
def BA:=@List.flatten_cons
def BB:=@List.nil_append
def BC:=@List.ext_getElem?
def BD:=@Nat.lt_trichotomy
def BE:=@List.flatMap_cons
def BF:=@Nat.succ_pos
def BH:=@PySem.mem_of_lookup
def BI:=@Nat.le_succ
def BM:=@PySem.F.plainAttrs_list
def BN:=@List.length_reverse
def BO:=@List.getElem?_cons_succ
def BQ:=@PySem.wpAny_callSpecial?_slot
def BS:=@List.mem_singleton_self
def BU:=@Nat.le_add_right
def BY:=@List.length_drop
def B0:=@List.ext_getElem
def B4:=@List.any_eq_true
def B5:=@Array.size_map
def B6:=@List.drop_of_length_le
def B7:=@List.length_range'
def B8:=@List.length_nil
def B9:=@Bool.eq_iff_iff
def Cc:=@PySem.wpAny_specialOf
def Cf:=@Nat.sub_self
def Cn:=@Nat.add_zero
def Co:=@Array.getD_eq_getD_getElem?
def CA:=@beq_iff_eq
def CB:=@PySem.wpAny_newList
def CC:=@Nat.sub_le
def CD:=@List.mem_of_mem_drop
def CF:=@PySem.Heap.size_push
def CH:=@List.getElem?_eq_none_iff
def CI:=@PySem.Calls.call_function_entry
def CL:=@List.filter_cons
def CM:=@PySem.F.args_tuple_add_2
def CO:=@PyProof.Rows.wpS_modify
def CS:=@PySem.wpAny_pyIter_tuple
def CU:=@List.mem_filterMap
def CY:=@PySem.F.entry_tuple_add
def C0:=@Nat.lt_of_le_of_ne
def C1:=@if_true
def C2:=@Nat.add_assoc
def C3:=@PySem.wpAny_updateSeq
def C4:=@PySem.plainId_quiet
def C5:=@List.cons.injEq
def C6:=@Array.forIn_toList
def C7:=@PySem.F.slot_tuple_add
def C8:=@Nat.lt_of_succ_lt_succ
def C9:=@PySem.wpAny_pyIter_list
def Db:=@PySem.call_meets
def Do:=@Array.toList_push
def Dx:=@Array.map_extract
def DA:=@List.reverse_perm
def DB:=@List.length_range
def DC:=@PySem.wpAny_of_eq
def DD:=@PySem.F.plainAttrs_list
def DE:=@PySem.wpAny_bindName
def DF:=@PySem.wpAny_setField
def DH:=@Nat.succ.inj
def DI:=@PySem.wpAny_typeOf
def DJ:=@List.Perm.append_left
def DL:=@List.pairwise_reverse
def DO:=@List.contains_iff_mem
def DU:=@Array.map_append
def DV:=@List.take_append
def DZ:=@List.mem_toArray
def D2:=@PySem.F.plain_min_loop
def D3:=@List.mem_of_mem_take
def D4:=@Nat.pow_le_pow_right
def D5:=@PySem.wpAny_attempt
def D7:=@List.cons.inj
def D8:=@List.sum_cons
def Ee:=@List.getElem?_range
def EA:=@Nat.le_antisymm
def EB:=@List.Perm.of_eq
def EC:=@Bool.decide_and
def ED:=@or_false
def EF:=@Array.ext'
def nt{p:Prop}(h:false=true):p:=Bool.noConfusion h
namespace L2
nonrec abbrev iZ(s:Stmt):Arguments:=match s with
 |.FunctionDef _ a _ _ _ _ _ _ _ _=>a
 |_=>{ posonlyargs:=[],args:=[],vararg:=none,kwonlyargs:=[],kw_defaults:=[],kwarg:=none,defaults:=[]}
nonrec abbrev bR(s:Stmt):List Stmt:=match s with
 |.FunctionDef _ _ b _ _ _ _ _ _ _=>b
 |_=>[]
nonrec abbrev aV(s:Stmt):Scope:=match s with
 |.FunctionDef _ _ _ _ _ _ sc _ _ _=>sc
 |_=>{ kind:=.function,names:=[],isGenerator:=false,isCoroutine:=false}
end L2
namespace Ev
open L2
abbrev qT(qs:List Addr)(K:Params->Frag)(P:Params):Frag:=qs.map (λq=>(q,{ cls:=.none,data:=.fields ([].toArray)}))++K P
section
open PySem.W
abbrev Lx(tb:String->Option Builtin)(p:Program)(w:World)(n₀:Nat)(ann:Option Value):Nat->SharedT->Thread->Option SharedT
 | 0,_,_=>none
 |n+1,s,t=>match through t with
  |true=>!s
  |false=>match stepOk n₀ ann t with
   |false=>none
   |true=>match stepT (denote tb) p w s t with
    |!(s',t')=>Lx tb p w n₀ ann n s' t'
    |none=>none
def zI:∀{n:Nat}{s s':SharedT}{t:Thread},Lx tb p w n₀ ann n s t=!s'->topRun tb p w n₀ ann n s.abs t=!s'.abs
 | 0,_,_,_,h=>by symm
 |n+1,s,s',t,h=>by
  delta Lx at h;delta topRun;cases he:through t with
  |true=>rw[he]at h;symm;rfl
  |false=>
   rw[he]at h;cases hk:stepOk n₀ ann t with
   |false=>rw[hk]at h;symm
   |true=>
    rw[hk]at h;cases hs:stepT (denote tb) p w s t with
    |none=>rw[hs]at h;symm
    |some r=>let(s₂,t₂):=r;rw[hs]at h;rw[stepT_spec hs];show zI h
abbrev Rh:BT->Nat->List Obj->BT
 |t,_,[]=>t
 |t,n,o::os=>Rh (t.ins n o) (n+1) os
abbrev FH(P:Params):BT:=Rh .nil 0 (boot_heap P).objs.toList
def FJ(P:Params):absHeap (FH P) 11 (boot_heap P).life=boot_heap P:=by kernel_rfl
meta abbrev AN (P:Params):Option Value:=(boot_heap P).nsMap mainGlobals "__annotations__"
def BX{p q:Program}{loose:List Str}{Xt:Shared->Bool}{α:Type}{Yf:Shared->α}{Ya:World->α}{N:Nat}{ann:Option Value}
  (e:opening p=plainProg p.main.scope.names) (hN:Nat.ble 600 N=true) (f:∀s,fenceModules? p s=!s) (ha:∀P,AN P=ann)
  (run:∀(w:World) (os:OsState),(Lx treeTable p w 11 ann N #[FH w.params,11,(boot_heap w.params).life,([].toArray),boot_drawn,boot_toks,os] (topStub p)).map (λs=>
   (staticsOk (importedModules p.main.body) (boot_heap w.params) s.abs.heap&&namesBound p s.abs.heap&&gensDone s.abs&&laidKept (boot_heap w.params) s.abs.heap,openSeen q loose (importedModules p.main.body) Xt true s.abs,Yf s.abs))=!(true,openGood q loose,Ya w)):LeftO p q loose Xt Yf Ya N:=λw=>by
 let((h,gs,d,k,os),e1,e2):=v6.mp (boot_open e hN f w);obtain⟨rfl,rfl,rfl,rfl⟩:h=boot_heap w.params/\gs=Array.mk []/\d=boot_drawn/\k=boot_toks:=by simpa using e2
 let(s,r1,r2):=v6.mp (run w os);obtain⟨l1,l2,l3⟩:_/\_/\_:=by simpa only[Prod.mk.injEq]using r2
 have r:=zI r1;delta openEnds;rw[e1];exact (topFrom treeTable p w N _).map _=_;have z0:((boot_heap w.params).isNs mainGlobals&&(Array.mk []:Array GenState).size==0)=true:=by kernel_rfl
 have t:topFrom treeTable p w N #[boot_heap w.params,Array.mk [],boot_drawn,boot_toks,os]=!s.abs:=by
  delta topFrom;dsimp only;rw[z0];have r':topRun treeTable p w (boot_heap w.params).objs.size ((boot_heap w.params).nsMap mainGlobals "__annotations__") N #[boot_heap w.params,Array.mk [],boot_drawn,boot_toks,os] (topStub p)=!s.abs:=by
   have:=ha w.params;delta AN at this;rw[this];have z:SharedT.abs #[FH w.params,11,(boot_heap w.params).life,([].toArray),boot_drawn,boot_toks,os]=#[boot_heap w.params,Array.mk [],boot_drawn,boot_toks,os]:=by delta SharedT.abs;dsimp only;rw[FJ]
   rw[z]at r;show r
  rw[r'];exact (match staticsOk (importedModules p.main.body) (boot_heap w.params) s.abs.heap&&namesBound p s.abs.heap&&gensDone s.abs&&laidKept (boot_heap w.params) s.abs.heap with |true=>_ |false=>_)=_
  rw[l1]
 rw[t];show congrArg some (Prod.ext l2 l3)
def YW(P:Params):AN P=!(.ref 6):=by kernel_rfl
end
end Ev
namespace gK
open L2 Ev
nonrec abbrev st(j:Nat):Stmt:=PySem.Challenge.pw_websbykind_k08_whole_alike_webs.main.body.getD j (.Pass #[0,0,0,0])
abbrev de(P:Params)(s:Str)(t:Tok)(v:Value):DictEntry:=#[PyData.keyHash P s,.str s t,v]
abbrev co(vs:Array Value):Obj:=#[.type "code",none,.fields vs,([].toArray)]
abbrev fo(j:Nat)(n:Str)(kV doc pm:Value)(an:Option Addr)(fS ct:Value):Obj:=#[.type "function",none,.func (PySem.W.fnOf n n (iZ (st j)) (bR (st j)) (aV (st j)) .none kV doc pm an fS ct),([].toArray)]
abbrev ce(n:Str)(b a s r t u:Nat):Obj:=#[.type "type",none,.cls #[n,[.ref b],[.ref a,.ref b,.type "ValueError",.type "Exception",.type "BaseException",.type "object"],s,n,true,[],[],false,none,false],([!(.ref r),none,!(.str n t),!(.str n u),!(.builtin "ValueError.__new__"),!(.bool true)].toArray)]
nonrec abbrev cd(n:Str)(t l p r:Nat)(x y z:Value)(u:Nat):Obj:=co ([.str n t,.str n (t+1),.str "/claim/cut.py" (t+2),.int l 0,.int p 0,.int 0 0,.int 0 0,.int 3 0,.ref r,.bool true,.int 181 0,.ref (r+1),.none,x,y,z,.int u 0,.int l 0,.str "/claim/cut.py" (u+1)].toArray)
nonrec abbrev fq(j:Nat)(n:Str)(m:Value)(c:Addr):Obj:=fo j n .none .none m none (.ref c) .none
nonrec abbrev m0:Value:=.str "websbykind.whole" 255
nonrec abbrev m1:Value:=.str "websbykind.kinds" 282
nonrec abbrev m2:Value:=.str "websbykind.webs" 293
nonrec abbrev m3:Value:=.str "websbykind.alike" 376
nonrec abbrev m4:Value:=.str "law_websbykind_k08_whole_alike_webs" 431
nonrec abbrev K(P:Params):Frag:=
 (¬3,#[.type "dict",none,.dict ([de P "__name__" 165 (.str "law_websbykind_k08_whole_alike_webs" 431),de P "__doc__" 166 (.none),de P "__package__" 167 (.none),de P "__loader__" 168 (.builtin "__main__.__loader__#opaque"),de P "__spec__" 169 (.none),de P "__annotations__" 170 (.ref 6),de P "__builtins__" 171 (.ref 4),de P "__file__" 173 (.str "/claim/cut.py" 172),de P "__cached__" 174 (.none),de P "KindError" 206 (.ref 24),de P "NoWeb" 222 (.ref 37),de P "NoNumber" 238 (.ref 49),de P "NoTurn" 254 (.ref 61),de P "is_whole" 263 (.ref 70),de P "is_within" 272 (.ref 77),de P "must_be_within" 281 (.ref 84),de P "orders_many" 292 (.ref 91),de P "MOST_PLACES" 296 (.int 6 295),de P "is_web" 302 (.ref 96),de P "is_tie" 308 (.ref 101),de P "is_rising" 314 (.ref 106),de P "must_be_web" 321 (.ref 113),de P "is_turn" 327 (.ref 118),de P "must_be_turn" 335 (.ref 125),de P "turned" 343 (.ref 132),de P "led_on" 349 (.ref 137),de P "tie_of" 357 (.ref 144),de P "tied_places" 363 (.ref 149),de P "behind" 369 (.ref 154),de P "back" 375 (.ref 159),de P "first_turn" 386 (.ref 166),de P "own_turns" 393 (.ref 173),de P "turns_to" 399 (.ref 178),de P "fits" 405 (.ref 183),de P "all_alike" 411 (.ref 188),de P "all_turns" 417 (.ref 193),de P "form" 423 (.ref 198),de P "alike_many" 430 (.ref 205),de P "_law_cell_at" 440 (.ref 212),de P "_law_state" 449 (.ref 219),de P "_law_take" 459 (.ref 226),de P "_law_pairs" 465 (.ref 231),de P "_law_mixed_row" 475 (.ref 238),de P "_law_web" 481 (.ref 243),de P "_law_turn" 492 (.ref 250),de P "_law_right" 510 (.ref 257),de P "law" 520 (.ref 264)].toArray) 47,([].toArray)]) ::
 (¬4,#[.type "module",(!0),.plain,([].toArray)]) ::
 (¬69,cd "is_whole" 257 11 1 64 (.ref 66) (.ref 67) (.ref 68) 261) ::
 (¬70,fq 6 "is_whole" m0 69) ::
 (¬76,cd "is_within" 264 13 3 71 (.ref 73) (.ref 74) (.ref 75) 270) ::
 (¬77,fq 7 "is_within" m0 76) ::
 (¬83,cd "must_be_within" 273 15 3 78 (.ref 80) (.ref 81) (.ref 82) 279) ::
 (¬84,fq 8 "must_be_within" m0 83) ::
 (¬90,cd "orders_many" 284 19 1 85 (.ref 87) (.ref 88) (.ref 89) 290) ::
 (¬91,fq 10 "orders_many" m1 90) ::
 (¬95,cd "is_web" 297 26 1 92 .none .none (.ref 94) 300) ::
 (¬96,fq 13 "is_web" m2 95) ::
 (¬100,cd "is_tie" 303 33 2 97 .none .none (.ref 99) 306) ::
 (¬101,fq 14 "is_tie" m2 100) ::
 (¬105,cd "is_rising" 309 37 1 102 .none .none (.ref 104) 312) ::
 (¬106,fq 15 "is_rising" m2 105) ::
 (¬112,cd "must_be_web" 315 39 1 107 (.ref 109) (.ref 110) (.ref 111) 319) ::
 (¬113,fq 16 "must_be_web" m2 112) ::
 (¬117,cd "is_turn" 322 42 2 114 .none .none (.ref 116) 325) ::
 (¬118,fq 17 "is_turn" m2 117) ::
 (¬124,cd "must_be_turn" 328 47 2 119 (.ref 121) (.ref 122) (.ref 123) 333) ::
 (¬125,fq 18 "must_be_turn" m2 124) ::
 (¬131,cd "turned" 336 50 2 126 (.ref 128) (.ref 129) (.ref 130) 341) ::
 (¬132,fq 19 "turned" m2 131) ::
 (¬136,cd "led_on" 344 54 2 133 .none .none (.ref 135) 347) ::
 (¬137,fq 20 "led_on" m2 136) ::
 (¬143,cd "tie_of" 350 57 2 138 (.ref 140) (.ref 141) (.ref 142) 355) ::
 (¬144,fq 21 "tie_of" m2 143) ::
 (¬148,cd "tied_places" 358 59 2 145 .none .none (.ref 147) 361) ::
 (¬149,fq 22 "tied_places" m2 148) ::
 (¬153,cd "behind" 364 65 3 150 .none .none (.ref 152) 367) ::
 (¬154,fq 23 "behind" m2 153) ::
 (¬158,cd "back" 370 69 2 155 .none .none (.ref 157) 373) ::
 (¬159,fq 24 "back" m2 158) ::
 (¬165,cd "first_turn" 378 73 2 160 (.ref 162) (.ref 163) (.ref 164) 384) ::
 (¬166,fq 26 "first_turn" m3 165) ::
 (¬172,cd "own_turns" 387 80 1 167 (.ref 169) (.ref 170) (.ref 171) 391) ::
 (¬173,fq 27 "own_turns" m3 172) ::
 (¬177,cd "turns_to" 394 83 2 174 .none .none (.ref 176) 397) ::
 (¬178,fq 28 "turns_to" m3 177) ::
 (¬182,cd "fits" 400 91 3 179 .none .none (.ref 181) 403) ::
 (¬183,fq 29 "fits" m3 182) ::
 (¬187,cd "all_alike" 406 95 1 184 .none .none (.ref 186) 409) ::
 (¬188,fq 30 "all_alike" m3 187) ::
 (¬192,cd "all_turns" 412 98 1 189 .none .none (.ref 191) 415) ::
 (¬193,fq 31 "all_turns" m3 192) ::
 (¬197,cd "form" 418 103 1 194 .none .none (.ref 196) 421) ::
 (¬198,fq 32 "form" m3 197) ::
 (¬204,cd "alike_many" 424 106 1 199 (.ref 201) (.ref 202) (.ref 203) 428) ::
 (¬205,fq 33 "alike_many" m3 204) ::
 (¬211,cd "_law_cell_at" 433 110 2 206 (.ref 208) (.ref 209) (.ref 210) 438) ::
 (¬212,fq 35 "_law_cell_at" m4 211) ::
 (¬218,cd "_law_state" 441 114 2 213 (.ref 215) (.ref 216) (.ref 217) 447) ::
 (¬219,fq 36 "_law_state" m4 218) ::
 (¬225,cd "_law_take" 450 119 2 220 (.ref 222) (.ref 223) (.ref 224) 457) ::
 (¬226,fq 37 "_law_take" m4 225) ::
 (¬230,cd "_law_pairs" 460 128 1 227 .none .none (.ref 229) 463) ::
 (¬231,fq 38 "_law_pairs" m4 230) ::
 (¬237,cd "_law_mixed_row" 466 133 2 232 (.ref 234) (.ref 235) (.ref 236) 473) ::
 (¬238,fq 39 "_law_mixed_row" m4 237) ::
 (¬242,cd "_law_web" 476 139 2 239 .none .none (.ref 241) 479) ::
 (¬243,fq 40 "_law_web" m4 242) ::
 (¬249,cd "_law_turn" 482 153 2 244 (.ref 246) (.ref 247) (.ref 248) 490) ::
 (¬250,fq 41 "_law_turn" m4 249) ::
 (¬256,cd "_law_right" 493 162 3 251 (.ref 253) (.ref 254) (.ref 255) 508) ::
 (¬257,fq 42 "_law_right" m4 256) ::
 (¬263,cd "law" 511 177 1 258 (.ref 260) (.ref 261) (.ref 262) 518) ::
 (¬264,fq 43 "law" m4 263)::[]
abbrev as:List Addr:=[¬3,¬4,¬69,¬70,¬76,¬77,¬83,¬84,¬90,¬91,¬95,¬96,¬100,¬101,¬105,¬106,¬112,¬113,¬117,¬118,¬124,¬125,¬131,¬132,¬136,¬137,¬143,¬144,¬148,¬149,¬153,¬154,¬158,¬159,¬165,¬166,¬172,¬173,¬177,¬178,¬182,¬183,¬187,¬188,¬192,¬193,¬197,¬198,¬204,¬205,¬211,¬212,¬218,¬219,¬225,¬226,¬230,¬231,¬237,¬238,¬242,¬243,¬249,¬250,¬256,¬257,¬263,¬264]
nonrec abbrev as2:List Addr:=nat_lit 259 ::  as
abbrev qv:Program:={ PySem.Challenge.pw_websbykind_k08_whole_alike_webs with main:={ PySem.Challenge.pw_websbykind_k08_whole_alike_webs.main with body:=[st 1,st 2,st 3,st 4,st 6,st 7,st 8,st 10,st 12,st 13,st 14,st 15,st 16,st 17,st 18,st 19,st 20,st 21,st 22,st 23,st 24,st 26,st 27,st 28,st 29,st 30,st 31,st 32,st 33,st 35,st 36,st 37,st 38,st 39,st 40,st 41,st 42,st 43]}}
def YX(P:Params):as2=(qT [259] K P).map (·.1):=by kernel_rfl
def op:PySem.W.opening PySem.Challenge.rw_websbykind_k08_whole_alike_webs.row.prog=PySem.W.plainProg PySem.Challenge.rw_websbykind_k08_whole_alike_webs.row.prog.main.scope.names:=by kernel_rfl
def fe:∀s,PySem.fenceModules? PySem.Challenge.rw_websbykind_k08_whole_alike_webs.row.prog s=!s:=λs=>by kernel_rfl
def hl:PySem.W.LeftO PySem.Challenge.rw_websbykind_k08_whole_alike_webs.row.prog qv [] (λs=>PySem.W.xlAt qv [] s&&PySem.W.recOk (PySem.W.OpenRow.toRowW PySem.Challenge.rw_websbykind_k08_whole_alike_webs.row).records s) (λs=>as2.map s.heap.get?) (λw=>(qT [259] K w.params).map λp:Nat×Obj=>!p.2) 8000:=BX op ⋯ fe YW λw os=>by kernel_rfl
end gK
namespace Ev
open PySem PySem.W
abbrev YZ:String->CmpOp->Builtin:=(λ(f:String->CmpOp->Builtin) (_:f "__lt__" .Lt=Builtin.«tuple.__lt__»)=>f) _ rfl
abbrev RcW(op:CmpOp)(A:Around)(s:Shared)(x y:Value)(b:Bool):Prop:=
 ∀(prog:Program) (w:World) (E:Value->Shared->Prop) (Q:Value->Shared->Prop),Q (.bool b) s->wpAny (model prog w) A (richCompare op x y) Q E s
inductive Lf(op:CmpOp)(A:Around)(s:Shared):List Value->List Value->Bool->Prop
 |nn:Lf op A s [] [] false
 |nc {y:Value}{ws:List Value}:Lf op A s [] (y::ws) (decide (op=.Lt))
 |cn {x:Value}{vs:List Value}:Lf op A s (x::vs) [] (decide (op=.Gt))
 |eq {x y:Value}{vs ws:List Value}{b:Bool}:SeqAt.EqAt A s x y true->Lf op A s vs ws b->Lf op A s (x::vs) (y::ws) b
 |ne {x y:Value}{vs ws:List Value}{b:Bool}:SeqAt.EqAt A s x y false->RcW op A s x y b->Lf op A s (x::vs) (y::ws) b
def FN:=RcW .Lt
def SX:=Lf .Lt
section
open PySem.SeqAt
open PySem.AutoSeq1 (wpAny_loadPart')
open PySem.MeetsSeq PySem.MeetsSeq2 PySem.MeetsSeq3
def lZ{nm:String}{op:CmpOp}(ho:op=.Lt\/op=.Gt)(l b:Addr)(items items2:Array Value)(n n2:Nat)(dd dd2:Option Addr)(sl sl2:Array (Option Value))(c:Bool) :
  Meets (YZ nm op #[[.ref l,.ref b],[]])
   (λA R s=>s.heap.get? l=some { cls:=.type "tuple",dict:=dd,data:=.seq items n,slots:=sl}/\s.heap.get? b=some { cls:=.type "tuple",dict:=dd2,data:=.seq items2 n2,slots:=sl2}/\
    Lf op A.in1 s items.toList items2.toList c/\R (.ok (.ret (.bool c))) s):=
 .of_wp λprog w A R s h=>by
  let(hp,g,d,tk,os):=s;let(hl,hb,hw,h):=h;have f2:=AutoSeq1.sub_tuple_tuple;delta YZ
  wp_walk using wpAny_loadPart' hl,wpAny_loadPart' hb,AW _ (λaD b s'=>b.1=none/\s'=#[hp,g,d,tk,os]/\∃(vs ws:List Value),aD=vs.zip ws/\
   Lf op A.in1 #[hp,g,d,tk,os] vs ws c/\vs.length+items2.size=ws.length+items.size) _
  case turn=>
   rintro⟨y,x⟩ aD b s' ⟨hb',rfl,vs,ws,hz,hlt,aN⟩;cases hlt with
   |nn=>rw[List.zip_nil_left]at hz;cases hz
   |nc=>rw[List.zip_nil_left]at hz;cases hz
   |cn=>rw[List.zip_nil_right]at hz;cases hz
   |eq he ht=>
    cases hz;apply aS (he prog w _ _ ?_)
    wp_walk
    show#[rfl,rfl,_,_,rfl,ht,by simp only[mB]at aN;lia]
   |ne he ht=>
    cases hz;apply aS (he prog w _ _ ?_);have hri:=λE Q h=>ht prog w E Q h
    rcases ho with rfl |rfl
    all_goals
     wp_walk using hri
     show#[_,rfl,h]
  case fin=>
   rintro⟨b1,b2⟩ s' ⟨hb',rfl,vs,ws,hz,hlt,aN⟩;simp only at hb';subst hb';have hv : .bool c=Builtin.Tuple.tupleCompareSizes op items.size items2.size:=by
    have e:c=if op=.Lt then decide (items.size<items2.size)else decide (items2.size<items.size):=by
     cases hlt with
     |nn=>simp only[B8]at aN;split <;> show (wE ⋯).symm
     |nc=>simp only[B8,mB]at aN;split <;> ext q <;> simp[q] <;> lia
     |cn=>simp only[B8,mB]at aN;rcases ho with rfl |rfl <;> simp <;> lia
     |eq _ _=>rw[List.zip_cons_cons]at hz;cases hz
     |ne _ _=>rw[List.zip_cons_cons]at hz;cases hz
    rw[e];rcases ho with rfl |rfl <;> rfl
   rw[hv]at h
   wp_walk
   show#[_,rfl,h]
  case h=>show#[rfl,rfl,items.toList,items2.toList,rfl,hw,by simp;lia]
end
section
variable{A:Around}{s:Shared}
def nD(hl:IsTup s.heap l items)(hb:IsTup s.heap b items2)(hw:SX A.in1 s items.toList items2.toList c)(hu:A.units<cLine):FN A s (.ref l) (.ref b) c:=λprog w E Q h=>by
 let((cls,dd,data,sl),ho,hc,n,hd):=id hl;let((S0,dd2,data2,sl2),ho2,hc2,n2,hd2):=id hb;simp only at hc hd hc2 hd2;subst hc hd hc2 hd2;show richCompare_meets_room (op:=.Lt) #[_,ho,rfl] #[_,ho2,rfl] PySem.F.slot_tuple_lt PySem.F.entry_tuple_lt (PySem.F.args_tuple_lt_2 _ _) (lZ (nm:= "__lt__") (.inl rfl) l b items items2 n n2 dd dd2 sl sl2 c)
  #[ho,ho2,hw,show Value.bool c≠Value.notImplemented/\Q (.bool c) s from#[(λx=>nomatch x),h]] hu
end
end Ev
namespace L2
def Key:=Sum Int Str
abbrev Ri:Key->Value->Bool
 |.inl k,v=>Value.isInt k v
 |.inr x,v=>Value.isStrOf x v
abbrev keyH(w:World):Key->Int
 |.inl k=>hashInt k
 |.inr x=>hashStr w x
def bB:∀{k:Key}{v:Value},Ri k v=true->(∃i t,k=Sum.inl i/\v=Value.int i t)\/(∃x t,k=Sum.inr x/\v=Value.str x t)
 |.inl i,v,h=>by
  let(t,e):=Value.isInt_shape h;show .inl #[i,t,rfl,e]
 |.inr x,v,h=>by
  let(t,e):=Value.isStrOf_shape h;show .inr #[x,t,rfl,e]
def S2(a b:Int):decide ((Sum.inl a:Key)=Sum.inl b)=(a==b):=by
 by_cases e:a=b
 . subst e;simp
 .
  have h : ¬ (Sum.inl a:Key)=Sum.inl b:=λq=>e (Sum.inl.inj q)
  rw[wE h];show (y6.mpr e).symm
def S3(a b:Str):decide ((Sum.inr a:Key)=Sum.inr b)=decide (a=b):=by
 by_cases e:a=b
 . subst e;simp
 .
  have h : ¬ (Sum.inr a:Key)=Sum.inr b:=λq=>e (Sum.inr.inj q)
  rw[wE h,wE e]
def S4(a:Int)(b:Str):decide ((Sum.inl a:Key)=Sum.inr b)=false:=wE (λq=>nomatch q)
def S5(a:Str)(b:Int):decide ((Sum.inr a:Key)=Sum.inl b)=false:=wE (λq=>nomatch q)
abbrev sM(prog:Program)(w:World):PySem.KeyKind prog w Key where
 is:=Ri
 hash:=keyH w
 inj:=λv a b ha hb=>by
  rcases bB ha with ⟨i,t,rfl,rfl⟩ |⟨x,t,rfl,rfl⟩
  .
   rcases bB hb with ⟨j,u,rfl,e⟩ |⟨y,u,rfl,e⟩
   . injection e with e1 _;rw[e1]
   . show nomatch e
  .
   rcases bB hb with ⟨j,u,rfl,e⟩ |⟨y,u,rfl,e⟩
   . show nomatch e
   . injection e with e1 _;rw[e1]
 byValue:=λk v h=>by
  rcases bB h with ⟨i,t,rfl,rfl⟩ |⟨x,t,rfl,rfl⟩ <;> rfl
 pyHash:=λhv h=>by
  rcases bB hv with ⟨i,t,rfl,rfl⟩ |⟨x,t,rfl,rfl⟩
  . show wpAny_pyHash_int h
  . show wpAny_pyHash_str h
 eqBool:=λhu hv h=>by
  rcases bB hu with ⟨i,t,rfl,rfl⟩ |⟨x,t,rfl,rfl⟩
  .
   rcases bB hv with ⟨j,u,rfl,rfl⟩ |⟨y,u,rfl,rfl⟩
   . rw[S2]at h;show wpAny_eqBool_int h
   . rw[S4]at h;show SeqAt.EqAt.int_str i t y u _ _ _ _ h
  .
   rcases bB hv with ⟨j,u,rfl,rfl⟩ |⟨y,u,rfl,rfl⟩
   . rw[S5]at h;show SeqAt.EqAt.str_int x t j u _ _ _ _ h
   . rw[S3]at h;show wpAny_eqBool_str h
 «strs»:=λk x t v h=>by
  rcases bB h with ⟨i,u,rfl,e⟩ |⟨y,u,rfl,e⟩
  . show nomatch e
  . injection e with e1 _;subst e1;cases v <;> rfl
inductive V where
 |non |bl (b:Bool) |int (i:Int) |str (x:Str) |Rj (b:Array UInt8) |flt (b:UInt64) |ref (a:Addr) |ty (n:String)
 deriving DecidableEq
abbrev RelV:V->Value->Prop
 |.non,u=>u=Value.none
 |.bl b,u=>u=Value.bool b
 |.int i,u=>∃t,u=Value.int i t
 |.str x,u=>∃t,u=Value.str x t
 |.Rj b,u=>∃t,u=Value.bytes b t
 |.flt b,u=>∃t,u=Value.float b t
 |.ref a,u=>u=Value.ref a
 |.ty n,u=>u=Value.type n
meta abbrev Vals:List V->List Value->Prop:=Paired RelV
def Vals.length{xs:List V}{us:List Value}(r:Vals xs us):xs.length=us.length:=Paired.length r
def Vals.get:∀{xs:List V}{us:List Value}{i:Nat}{x:V},Vals xs us->xs[i]?=!x->∃u,us[i]?=!u/\RelV x u
 |_,_,_,_,.nil,e=>by simp at e
 |_,_,0,_,.cons r _,e=>by simp at e;subst e;show#[_,rfl,r]
 |_,_,i+1,x,.cons _ t,e=>by
  let(u,h1,h2):=Vals.get t (by simpa using e)
  show#[u,by simpa using h1,h2]
def Vals.set(r:RelV x u):∀{xs:List V}{us:List Value} (i:Nat),Vals xs us->Vals (xs.set i x) (us.set i u)
 |_,_,_,.nil=>.nil
 |_,_,0,.cons _ t=>.cons r t
 |_,_,i+1,.cons q t=>.cons q (Vals.set r i t)
def Vals.append:∀{xs ys:List V}{us ws:List Value},Vals xs us->Vals ys ws->Vals (xs++ys) (us++ws):=by
 intro xs ys us ws h s
 induction h with
 |nil=>show s
 |cons r t ih=>show .cons r ih
abbrev Y0:Option V->Option Value->Prop
 |!v,!u=>RelV v u
 |none,none=>True
 |_,_=>False
abbrev KV{κ:Type}:List (κ×V)->List (κ×Value)->Prop:=Paired λ(p:κ×V) (q:κ×Value)=>p.1=q.1/\RelV p.2 q.2
abbrev kV:Key->V
 |.inl i=>.int i
 |.inr x=>.str x
inductive HO where
 |lst (xs:List V)
 |tup (xs:List V)
 |dK (lY:List (Key×V)) |dT (lY:List (List Key×V))
 |set (φ:Obj->Prop)
 |ins (C dx:Addr) (fs:List (Str×V))
 |own (x:Addr)
 |xd (fs:List (Str×V))
 |met (f x:Addr)
 |rng (lo hi:Int)
 |BZ (o:Obj) (u:HO)
 |Fq (ps:Array Value)
 |ext (φ:Heap->Prop)
def Hp:=Addr->Option HO
abbrev upd(H:Hp)(a:Addr)(o:HO):Hp:=λb=>if b=a then some o else H b
def aF:upd H a o a=!o:=by delta upd;rw[fR rfl]
def aB(h:b≠a):upd H a o b=H b:=by delta upd;rw[eR h]
def aO{H:Hp}{a b:Addr}{o:HO}(h:H a=!o)(h':H b=none):a≠b:=by intro e;subst e;rw[h]at h';cases h'
abbrev gP(h:Heap)(a:Addr)(its:Array Value):Prop:=∃o,h.get? a=!o/\(o.cls=.type "tuple" /\∃n,o.data=.seq its n)/\o.dict=none
def gP.tup{h:Heap}{a:Addr}{its:Array Value}(x:gP h a its):IsTup h a its:=let #[o,e,c,_]:=x;#[o,e,c]
def gP.new(h:Heap)(its:Array Value):gP (h.push { cls:=.type "tuple",data:=.seq its}) h.objs.size its:=#[_,eM _ rfl,#[rfl,_,rfl],rfl]
section
variable(P:Program)(w:World)
abbrev dO(H:Hp)(h:Heap)(a:Addr):HO->Prop
 |.lst xs=>xs.length<=sizeLine/\∃(its:List Value) (n:Nat),Vals xs its/\h.get? a=some { cls:=.type "list",data:=.seq its.toArray n}
 |.tup xs=>xs.length<=sizeLine/\∃its:List Value,Vals xs its/\gP h a its.toArray
 |.dK lY=>lY.length<=sizeLine/\(a==sysModules)=false/\∃vs,KV lY vs/\h.DictOf (sM P w) a vs
 |.dT lY=>lY.length<=sizeLine/\(a==sysModules)=false/\∃xs:List (List Key×Addr×Value),
   Paired (λ(p:List Key×V) (q:List Key×Addr×Value)=>p.1=q.1/\H q.2.1=!(.tup (p.1.map kV))/\RelV p.2 q.2.2) lY xs/\
   ∃o es ep,h.get? a=!o/\o.ExactDict/\o.data=.dict es ep/\es.toList=xs.map (entryOfKey (tupleKind (sM P w)))/\(xs.map (·.1)).Nodup
 |.set φ=>∃o,h.get? a=!o/\φ o
 |.ins C dx fs=>H dx=!(.own a)/\fs.length<=1000/\dx≠a/\h.get? a=!(PySem.W.instObj C dx)/\
   ∃mA,h.Ns1 dx mA/\(∀f,Y0 (fs.lookup f) (mA f))/\PySem.Within mA (fs.map (·.1))
 |.own _=>∃o,h.get? a=!o
 |.xd fs=>∃mA,h.Ns1 a mA/\∀f,Y0 (fs.lookup f) (mA f)
 |.rng lo hi=>∃t u v,h.get? a=some { cls:=.type "range",data:=.fields ([.int lo t,.int hi u,.int 1 v].toArray)}
 |.BZ o u=>h.get? a=!o/\dO H h a u
 |.Fq ps=>h.get? a=some { cls:=.none,data:=.fields ps}
 |.met f x=>h.get? a=!(PySem.W.methodObj (.ref f) (.ref x))
 |.ext φ=>φ h/\(∃o,h.get? a=!o)/\∀h1 h2:Heap,φ h1->(∀o,h1.get? a=!o->h2.get? a=!o)->φ h2
abbrev nU(H:Hp)(h:Heap):Prop:=∀a o,H a=!o->dO P w H h a o
end
section
variable{P:Program}{w:World}{H H':Hp}{h h':Heap}{a:Addr}{o:HO}
def dO.lt(x:dO P w H h a o):a<h.objs.size:=by
 cases o with
 |lst xs=>let(_,_,_,_,e):=x;show fA e
 |tup xs=>let(_,_,_,_,e,_):=x;show fA e
 |dK lY=>let(_,_,_,_,o,_,_,e,_):=x;show fA e
 |dT lY=>let(_,_,_,_,o,_,_,e,_):=x;show fA e
 |set φ=>let(o,e,_):=x;show fA e
 |ins C dx fs=>let(_,_,_,e,_):=x;show fA e
 |own y=>let(_,e):=x;show fA e
 |xd fs=>let(_,(_,_,_,e,_),_):=x;show fA e
 |rng lo hi=>let(_,_,_,e):=x;show fA e
 |BZ ob u=>let(e,_):=x;show fA e
 |Fq ps=>show fA (show h.get? a=!_ from x)
 |met f y=>show fA (show h.get? a=!_ from x)
 |ext φ=>let(_,(_,e),_):=x;show fA e
def Paired.mapP{α β:Type}{F G:α->β->Prop}:∀{l₁:List α}{l₂:List β},Paired F l₁ l₂->(∀a b,F a b->G a b)->Paired G l₁ l₂:=by
 intro l₁ l₂ h f
 induction h with
 |nil=>show .nil
 |cons r t ih=>show .cons (f _ _ r) ih
def dO.stay(x:dO P w H h a o)(k:∀b u,(b=a\/H b=!(.own a))->h.get? b=!u->h'.get? b=!u)
  (ho:∀b,H b=!(.own a)->H' b=!(.own a)) (ht:∀b xs,H b=!(.tup xs)->H' b=!(.tup xs)):dO P w H' h' a o:=by
 induction o with
 |lst xs=>let(z,its,n,r,e):=x;show#[z,its,n,r,k _ _ (.inl rfl) e]
 |tup xs=>let(z,its,r,ob,e,c):=x;show#[z,its,r,ob,k _ _ (.inl rfl) e,c]
 |dK lY=>let(z,y,vs,r,ob,es,ep,e,c):=x;show#[z,y,vs,r,ob,es,ep,k _ _ (.inl rfl) e,c]
 |dT lY=>let(z,y,xs,r,ob,es,ep,e,c):=x;show#[z,y,xs,Paired.mapP r λp q z=>#[z.1,ht _ _ z.2.1,z.2.2],ob,es,ep,k _ _ (.inl rfl) e,c]
 |set φ=>let(ob,e,c):=x;show#[ob,k _ _ (.inl rfl) e,c]
 |ins C dx fs=>let(d,z,ne,e,mA,(od,es,ep,e2,c),r):=x;show#[ho _ d,z,ne,k _ _ (.inl rfl) e,mA,#[od,es,ep,k _ _ (.inr d) e2,c],r]
 |own y=>let(ob,e):=x;show#[ob,k _ _ (.inl rfl) e]
 |xd fs=>let(mA,(od,es,ep,e,c),r):=x;show#[mA,#[od,es,ep,k _ _ (.inl rfl) e,c],r]
 |rng lo hi=>let(t,u,v,e):=x;show#[t,u,v,k _ _ (.inl rfl) e]
 |BZ ob u ih=>let(e,q):=x;show#[k _ _ (.inl rfl) e,ih q]
 |Fq ps=>have e:=x;show k a _ (.inl rfl) e
 |met f y=>have e:=x;show k a _ (.inl rfl) e
 |ext φ=>let(p,(o,e),st):=x;show#[st _ _ p λo q=>k _ _ (.inl rfl) q,#[o,k _ _ (.inl rfl) e],st]
def nU.lt(x:nU P w H h)(e:H a=!o):a<h.objs.size:=(x a o e).lt
def nU.fresh(x:nU P w H h)(e:h.objs.size<=a):H a=none:=by
 cases q:H a with
 |none=>rfl
 |some u=>show absurd (fN (x.lt q) e) (u8 _)
def nU.kept(x:nU P w H h)(k:∀b u,h.get? b=!u->h'.get? b=!u):nU P w H h':=λa o e=>
 (x a o e).stay (λb u _ q=>k b u q) (λ_ q=>q) λ_ _ q=>q
def nU.laid(x:nU P w H h)(k:∀b u,h.get? b=!u->h'.get? b=!u)(hp:h.objs.size<=a)(new:dO P w (upd H a o) h' a o):nU P w (upd H a o) h':=λb u e=>by
 have hn:=x.fresh hp;by_cases hb:b=a
 . subst hb;rw[aF]at e;cases e;show new
 . rw[aB hb]at e;show (x b u e).stay (λc v _ q=>k c v q) (λc q=>by rw[aB (aO q hn)];show q) λc xs q=>by rw[aB (aO q hn)];show q
end
abbrev Rd(H:Hp)(a:Addr)(u:HO):Prop:=H a=!u\/∃o,H a=!(.BZ o u)
def Rd.ok{P:Program}{w:World}{H:Hp}{h:Heap}{a:Addr}{u:HO}(r:Rd H a u)(x:nU P w H h):dO P w H h a u:=by
 rcases r with r |⟨o,r⟩
 . show x a u r
 . let(_,q):=x a _ r;show q
abbrev Mut:Option HO->Prop
 |!(.lst _)=>True
 |!(.dK _)=>True
 |!(.dT _)=>True
 |!(.set _)=>True
 |!(.ins _ _ _)=>True
 |!(.ext _)=>True
 |_=>False
section
variable{P:Program}{w:World}{H:Hp}{h h':Heap}{x e:Addr}{o':HO}
def nU.write(ok:nU P w H h)(mu:Mut (H x))(he:e=x\/H e=!(.own x))(k:∀b u,b≠e->h.get? b=!u->h'.get? b=!u)(Yq:∃u,h'.get? e=!u)
  (new:dO P w (upd H x o') h' x o'):nU P w (upd H x o') h':=λb u q=>by
 have Y3:∀c y,H c=!(.own y)->c≠x:=λc y r z=>by subst z;rw[r]at mu;show mu
 have ntup:∀c xs,H c=!(.tup xs)->c≠x:=λc xs r z=>by subst z;rw[r]at mu;show mu
 by_cases hb:b=x
 . subst hb;rw[aF]at q;cases q;show new
 .
  rw[aB hb]at q;by_cases S6:b=e
  .
   have q':H b=!(.own x):=by
    rcases he with z |z
    . show absurd (S6.trans z) hb
    . rw[S6];show z
   rw[q]at q';cases q';let(v,hv):=Yq;show#[v,by rw[S6];show hv]
  .
   apply (ok b u q).stay (λc v hc r=>k c v ?_ r) (λc r=>by rw[aB (Y3 c b r)];show r) λc xs r=>by rw[aB (ntup c xs r)];show r
   rcases hc with rfl |hc
   . show S6
   .
    rintro rfl;rcases he with z |z
    . show Y3 c b hc z
    . rw[hc]at z;cases z;show hb rfl
end
structure Un(fs ex:List Addr)(H H':Hp)(h h':Heap):Prop where
 keep:∀b o,h.get? b=!o->H b=none->b∉fs->b∉ex->h'.get? b=!o
 slot:∀b o,h.get? b=!o->H b=none->b∈fs->b∉ex->∃sl,h'.get? b=some { o with slots:=sl}
 free:∀b o,h.get? b=!o->H b=none->b∉ex->H' b=none
 there:∀b o,h.get? b=!o->b∉ex->∃o',h'.get? b=!o'
 tups:∀b xs,H b=!(.tup xs)->H' b=!(.tup xs)
 sN:∀b o u,H b=!(.BZ o u)->H' b=!(.BZ o u)
 sO:∀b ps,H b=!(.Fq ps)->∃more,H' b=!(.Fq (ps++more))
section
variable{fs fs' ex ex':List Addr}{H H1 H2:Hp}{h h1 h2 h':Heap}{a x e:Addr}{o:HO}
def Un.any(u:Un fs ex H H1 h h1){b:Addr}{ob:Obj}(q:h.get? b=!ob)(n:H b=none)(hx:b∉ex):∃sl,h1.get? b=some { ob with slots:=sl}:=by
 by_cases hb:b∈fs
 . show u.slot b ob q n hb hx
 . show#[ob.slots,u.keep b ob q n hb hx]
def Un.kept(k:∀b u,h.get? b=!u->h'.get? b=!u):Un fs ex H H h h':=
 #[λb ob q _ _ _=>k b ob q,λb ob q _ _ _=>#[ob.slots,k b ob q],λ_ _ _ n _=>n,λb ob q _=>#[ob,k b ob q],λ_ _ q=>q,λ_ _ _ q=>q,λ_ ps q=>#[([].toArray),by rw[q];simp]]
def Un.refl:Un fs ex H H h h:=Un.kept λ_ _ q=>q
def Un.laid(k:∀b u,h.get? b=!u->h'.get? b=!u)(hp:h.objs.size<=a)(hn:H a=none):Un fs ex H (upd H a o) h h' where
 keep:=λb u q _ _ _=>k b u q
 slot:=λb u q _ _ _=>#[u.slots,k b u q]
 free:=λb u q n _=>by rw[aB (mP (fN (fA q) hp))];show n
 there:=λb u q _=>#[u,k b u q]
 tups:=λb xs q=>by rw[aB (aO q hn)];show q
 sN:=λb u xs q=>by rw[aB (aO q hn)];show q
 sO:=λb ps q=>#[([].toArray),by rw[aB (aO q hn),q];simp]
def Un.write(mu:Mut (H x))(he:e=x\/H e=!(.own x))(k:∀b u,b≠e->h.get? b=!u->h'.get? b=!u)(Yq:∃u,h'.get? e=!u):Un fs ex H (upd H x o) h h':=by
 have hx:∀b,H b=none->b≠x:=λb n z=>by subst z;rw[n]at mu;show mu
 have hb:∀b,H b=none->b≠e:=λb n z=>by
  subst z;rcases he with r |r
  . show hx b n r
  . rw[n]at r;cases r
 have hm:∀b u,H b=!u->¬ Mut (!u)->b≠x:=λb u q nm z=>by subst z;rw[q]at mu;show nm mu
 apply#[λb u q n _ _=>k b u (hb b n) q,λb u q n _ _=>#[u.slots,k b u (hb b n) q],λb u q n _=>by rw[aB (hx b n)];show n,λb u q _=>?_,
  λb xs q=>by rw[aB (hm b _ q λz=>z)];show q,λb u xs q=>by rw[aB (hm b _ q λz=>z)];show q,λb ps q=>#[([].toArray),by rw[aB (hm b _ q λz=>z),q];simp]]
 by_cases S6:b=e
 . subst S6;show Yq
 . show#[u,k b u S6 q]
end
abbrev trk(h:Heap)(H:Hp):List Addr:=(List.range h.objs.size).filter λa=>(H a).isSome
abbrev sP(h:Heap)(H:Hp):Heap:=PySem.W.hideAll h (trk h H)
def Ca(h:Heap)(H:Hp):(sP h H).objs.size=h.objs.size:=PySem.W.hideAll_size _ _
def FP(e:h.get? b=!o)(n:H b=none):(sP h H).get? b=!o:=
 PySem.W.hideAll_get _ e λhm=>by
  have q:=(pV.mp hm).2;rw[n]at q;simp at q
def Ly(e:(sP h H).get? b=!o):h.get? b=!o/\H b=none:=by
 have e':=PySem.W.of_hideAll (trk h H) e;apply#[e',?_];cases q:H b with
 |none=>rfl
 |some x=>
  have hm:b∈trk h H:=pV.mpr #[o6.mpr (fA e'),by simp[q]]
  have z:(sP h H).get? b=none:=PySem.W.hideAll_none (trk h H) hm;rw[z]at e;cases e
abbrev Lz(g h:Heap)(L:Addr): ~~~1:=(List.range h.objs.size).filterMap λa=>if a=L\/(g.get? a).isSome=true then none else (h.get? a).map λo=>(a,o)
abbrev aD(g h:Heap)(L d:Addr): ~~~1:=(Lz g h L).filter λp=>decide (p.1≠d)
structure Mod(K:Frag)(mg:Str->Option Value)(base:Heap):Prop where
 kin:K.In base
 glob:base.Ns mainGlobals mg
 blt:∃mb,base.Ns builtinsNs mb/\∀x:Str,x≠ "__name__" ->mb x=bootBuiltins x
 nolimit:base.NoLimit
structure Cx where
 prog:Program
 w:World
 K:Frag
 mg:Str->Option Value
 base:Heap
 A:Around
 N:List Str
 s₀:Shared
 H₀:Hp
 env:Env
 outer:List Env
 stack:List Env
 ex:List Addr
 fn:Str->Bool
 calm:Bool
 pn:List (Addr×Obj)
 xe:Value->Shared->Prop
abbrev frs(l:List Env):List Addr:=l.filterMap (·.frame)
meta abbrev Cx.fs(X:Cx):List Addr:=frs X.outer
abbrev mh(sc:Scope)(x:Str):Prop:=sc.names.lookup x=some .local\/sc.names.lookup x=some .cell\/sc.names.lookup x=some .free
abbrev Loc(sc:Scope)(x:Str):Prop:=sc.names.lookup x=some .local\/sc.names.lookup x=some .cell
abbrev Look(env:Env)(h:Heap)(m:Str->Option Value)(x:Str)(u:Value):Prop:=
 (env.kindOf x=some .local/\m x=!u)\/((env.kindOf x=some .cell\/env.kindOf x=some .free)/\∃c,env.cells.lookup x=!c/\h.IsCell c (!u))
structure Cx.Ok(X:Cx):Prop where
 mod:Mod X.K X.mg X.base
 kind:X.env.scope.kind=.function
 glob:X.env.globals=mainGlobals
 blt:X.env.builtins=builtinsNs
 above:X.s₀⁻¹<=X.env.locals
 inj:∀x y c,X.env.cells.lookup x=!c->X.env.cells.lookup y=!c->x=y
 has:∀x,(X.env.kindOf x=some .cell\/X.env.kindOf x=some .free)->∃c,X.env.cells.lookup x=!c
 Yr:∀x c,X.fn x=true->X.env.cells.lookup x=!c->X.s₀⁻¹<=c
 hd:X.calm=true->X.A.handled=none
 frames:X.A.frames=!X.stack
 stk:X.stack=X.outer\/(X.stack=X.env::X.outer/\X.env.frame=!X.env.locals)
 Y4:∀b∈X.ex,b≠X.env.locals/\∀x c,X.env.cells.lookup x=!c->c≠b
 bs:∀b o,X.base.get? b=!o->X.s₀.heap.get? b=!o/\X.H₀ b=none
 LC:X.base.objs.size<=X.s₀⁻¹
 x8:∀b o,X.base.get? b=!o->b∉X.ex
 Cb:∀b∈X.ex,b∉X.fs
 mY:X.s₀.heap.FunFrames X.base X.outer
 S7:∀b∈X.fs,X.H₀ b=none
structure Inv(X:Cx)(aj: ~~~1)(J:List (Option V))(H:Hp)(s:Shared):Prop where
 ok:X.Ok
 os:s.os=X.s₀.os
 bare:AllBare s.gens
 base:Un X.fs X.ex X.H₀ H X.s₀.heap s.heap
 loc:∃m,s.heap.Ns X.env.locals m/\∀(i:Nat) (x:Str) (v:V),X.N[i]?=!x->J[i]?=!(!v)->mh X.env.scope x->∃u,RelV v u/\Look X.env s.heap m x u
 cell:∀x c,X.env.cells.lookup x=!c->∃v,s.heap.IsCell c v
 free:H X.env.locals=none
 jo:∀x c,X.env.cells.lookup x=!c->H c=none
 pin:∀p∈X.pn++aj,s.heap.get? p.1=!p.2/\H p.1=none/\p.1≠X.env.locals/\p.1∉X.fs/\∀v,p.2.data≠.cell v
 hok:nU X.prog X.w H s.heap
 len:J.length=X.N.length
section
variable{X:Cx}{aj: ~~~1}{J:List (Option V)}{H H':Hp}{s:Shared}{h':Heap}
def Cx.Ok.nofr(ok:X.Ok)(e:X.base.get? b=!o):b∉X.fs:=λhb=>by
 have:=(ok.mY.mem hb).1;rw[e]at this;cases this
def Inv.bs(I: ~~~7):∀b o,X.base.get? b=!o->s.heap.get? b=!o/\H b=none:=λb o e=>
 #[I.base.keep b o (I.ok.bs b o e).1 (I.ok.bs b o e).2 (I.ok.nofr e) (I.ok.x8 b o e),I.base.free b o (I.ok.bs b o e).1 (I.ok.bs b o e).2 (I.ok.x8 b o e)]
def Inv.bk(I: ~~~7):∀b o,X.base.get? b=!o->s.heap.get? b=!o:=λb o e=>(I.bs b o e).1
def Inv.mod(I: ~~~7):Mod X.K X.mg X.base:=I.ok.mod
def Inv.uO(I: ~~~7):X.K.In s.heap:=I.ok.mod.kin.keeps I.bk
def Inv.lt(I: ~~~7):X.env.locals<s⁻¹:=let #[_,hn,_]:=I.loc;hn.lt
def Inv.sz(I: ~~~7):X.s₀⁻¹<=s⁻¹:=kS I.ok.above (AY I.lt)
def Inv.nofs(I: ~~~7)(h:s⁻¹<=a):a∉X.fs:=λhb=>by
 let(_,o,ho,_):=I.ok.mY.mem hb;show absurd (fN (fA ho) (kS I.sz h)) (u8 _)
def Inv.S8(I: ~~~7):∀x c,X.env.cells.lookup x=!c->c≠X.env.locals:=λx c e z=>by
 let(v,o,ho,hd):=I.cell x c e;let(m,(o',es,ep,ho',hd',_),_):=I.loc;rw[z,ho']at ho;cases ho;rw[hd']at hd;cases hd
def Inv.mY(I: ~~~7):s.heap.FunFrames X.base X.outer:=by
 have all:∀(l:List Env),(∀b∈frs l,b∈X.fs)->X.s₀.heap.FunFrames X.base l->s.heap.FunFrames X.base l:=by
  intro l
  induction l with
  |nil=>intro _ _;trivial
  |cons env r ih=>
   intro hs hl;let(hk,(L,o,hf,hn,ho,hd),hr):=hl;have hL:=hs L (by delta frs;rw[y7,hf];show dA)
   let(sl,e):=I.base.slot L o ho (I.ok.S7 L hL) hL λz=>I.ok.Cb L z hL
   show#[hk,#[L,_,hf,hn,e,hd],ih (λb hb=>hs b (by delta frs;rw[y7,hf];show b0 _ hb)) hr]
 show all X.outer (λ_ hb=>hb) I.ok.mY
def Inv.stack(I: ~~~7):s.heap.FunFrames X.base X.stack:=by
 rcases I.ok.stk with e |⟨e,hf⟩
 . rw[e];show I.mY
 .
  rw[e];let(m,hn,_):=I.loc;apply .cons (by rw[I.ok.kind];decide) hf hn ?_ I.mY
  show Heap.get?_none_of_le (kS I.ok.LC I.ok.above)
def Inv.x9(I: ~~~7):∀b∈frs X.stack,b∈X.env.locals::X.fs:=λb hb=>by
 rcases I.ok.stk with e |⟨e,hf⟩
 . rw[e]at hb;show b0 _ hb
 . rw[e]at hb;delta frs at hb;rw[y7,hf]at hb;show hb
def Inv.zJ(I: ~~~7):∀b∈frs X.stack,H b=none:=λb hb=>by
 rcases eC.mp (I.x9 b hb)with e |hb
 . rw[e];show I.free
 . let(_,o,ho,_):=I.ok.mY.mem hb;show I.base.free b o ho (I.ok.S7 b hb) λz=>I.ok.Cb b z hb
def Inv.step{g':Array GenState}{t':Nat}{d':Drawn}{ch:List Addr}(I: ~~~7)
  (hch:∀b∈ch,(b∈X.ex\/X.s₀⁻¹<=b)/\b≠X.env.locals/\(∀x c,X.env.cells.lookup x=!c->c≠b)/\∀p∈X.pn++aj,p.1≠b)
  (keep:∀b o,b≠X.env.locals->b∉X.fs->b∉ch->s.heap.get? b=!o->H b=none->h'.get? b=!o)
  (slot:∀b o,b≠X.env.locals->b∈X.fs->b∉ch->s.heap.get? b=!o->H b=none->∃sl,h'.get? b=some { o with slots:=sl}) (free:∀b o,b∉ch->s.heap.get? b=!o->H b=none->H' b=none)
  (there:∀b o,b∉ch->s.heap.get? b=!o->∃o',h'.get? b=!o')
  (tups:∀b xs,H b=!(.tup xs)->H' b=!(.tup xs)) (sN:∀b o u,H b=!(.BZ o u)->H' b=!(.BZ o u)) (sO:∀b ps,H b=!(.Fq ps)->∃more,H' b=!(.Fq (ps++more)))
  (ns:∀m,s.heap.Ns X.env.locals m->h'.Ns X.env.locals m) (hok:nU X.prog X.w H' h') (hg:AllBare g') :
  Inv X aj J H' { s with heap:=h',gens:=g',drawn:=d',toks:=t'}:=by
 have neL:∀b o,X.s₀.heap.get? b=!o->b≠X.env.locals:=λb o e=>mP (fN (fA e) I.ok.above)
 have neC:∀b o,X.s₀.heap.get? b=!o->b∉X.ex->b∉ch:=λb o e hx hb=>by
  rcases (hch b hb).1 with z |z
  . show hx z
  . show absurd (fN (fA e) z) (u8 _)
 have cellK:∀x c,X.env.cells.lookup x=!c->∀v,s.heap.IsCell c v->h'.IsCell c v:=by
  rintro x c e v ⟨o,ho,hd⟩;have Y5:c∉ch:=λz=>(hch c z).2.2.1 x c e rfl
  by_cases hc:c∈X.fs
  . let(sl,q):=slot c o (I.S8 x c e) hc Y5 ho (I.jo x c e);show#[_,q,hd]
  . show#[o,keep c o (I.S8 x c e) hc Y5 ho (I.jo x c e),hd]
 apply#[I.ok,I.os,hg,#[λb o e n hb hx=>?_,λb o e n hb hx=>?_,λb o e n hx=>?_,λb o e hx=>?_,λb xs e=>tups b xs (I.base.tups b xs e),λb o xs e=>sN b o xs (I.base.sN b o xs e),λb ps e=>?_],?_,λx c e=>?_,?_,λx c e=>?_,λp hp=>?_,hok,I.len]
 . show keep b o (neL b o e) hb (neC b o e hx) (I.base.keep b o e n hb hx) (I.base.free b o e n hx)
 . let(sl,e1):=I.base.slot b o e n hb hx;let(sl',e2):=slot b _ (neL b o e) hb (neC b o e hx) e1 (I.base.free b o e n hx);show#[sl',e2]
 . let(o',e1):=I.base.there b o e hx;show free b o' (neC b o e hx) e1 (I.base.free b o e n hx)
 . let(o',e1):=I.base.there b o e hx;show there b o' (neC b o e hx) e1
 . let(m1,e1):=I.base.sO b ps e;let(m2,e2):=sO b _ e1;show#[m1++m2,by rw[e2,Array.append_assoc]]
 .
  let(m,hn,hl):=I.loc;apply#[m,ns m hn,λi x v e1 e2 e3=>?_]
  let(u,r,l):=hl i x v e1 e2 e3;apply#[u,r,?_];rcases l with l |⟨k,c,e,z⟩
  . show .inl l
  . show .inr #[k,c,e,cellK x c e _ z]
 . let(v,z):=I.cell x c e;show#[v,cellK x c e v z]
 . let(m,(o,_,_,ho,_),_):=I.loc;show free _ o (λz=>(hch _ z).2.1 rfl) ho I.free
 . let(v,o,ho,hd):=I.cell x c e;show free c o (λz=>(hch c z).2.2.1 x c e rfl) ho (I.jo x c e)
 .
  let(e,n,ne,nf,d):=I.pin p hp;have Y5:p.1∉ch:=λz=>(hch p.1 z).2.2.2 p hp rfl
  show#[keep p.1 p.2 ne nf Y5 e n,free p.1 p.2 Y5 e n,ne,nf,d]
def Inv.un{t':Nat}(I: ~~~7)(u:Un X.fs [] H H' s.heap h')(hok:nU X.prog X.w H' h'):Inv X aj J H' { s with heap:=h',toks:=t'}:=by
 let(m,(o,es,ep,ho,r),_):=id I.loc;let(sl,hL):=u.any ho I.free ⋯;show I.step (ch:=[]) (λ_ z=>nomatch z) (λb o _ hb _ e n=>u.keep b o e n hb ⋯) (λb o _ hb _ e n=>u.slot b o e n hb ⋯) (λb o _ e n=>u.free b o e n ⋯) (λb o _ e=>u.there b o e ⋯) u.tups u.sN u.sO (λm' hm=>by
  let(o',es',uP,ho',r'):=hm;rw[ho]at ho';cases ho';show#[_,es',uP,hL,r']) hok I.bare
def Inv.call{g':Array GenState}{t':Nat}{d':Drawn}{ch:List Addr}(I: ~~~7)(u:Un (frs X.stack) ch H H' s.heap h')(hok:nU X.prog X.w H' h')(hg:AllBare g')
  (hch:∀b∈ch,(b∈X.ex\/X.s₀⁻¹<=b)/\b≠X.env.locals/\(∀x c,X.env.cells.lookup x=!c->c≠b)/\∀p∈X.pn++aj,p.1≠b) :
  Inv X aj J H' { s with heap:=h',gens:=g',drawn:=d',toks:=t'}:=by
 let(m,(o,es,ep,ho,r),_):=id I.loc;let(sl,hL):=u.any ho I.free λz=>(hch _ z).2.1 rfl
 show I.step hch (λb o hL hb hc e n=>u.keep b o e n (λz=>(eC.mp (I.x9 b z)).elim hL hb) hc) (λb o _ _ hc e n=>u.any e n hc) (λb o hc e n=>u.free b o e n hc) (λb o hc e=>u.there b o e hc) u.tups u.sN u.sO (λm' hm=>by
  let(o',es',uP,ho',r'):=hm;rw[ho]at ho';cases ho';show#[_,es',uP,hL,r']) hok hg
def Inv.turned{t':Nat}{it:Addr}(I: ~~~7)(k:∀b o,b≠it->s.heap.get? b=!o->h'.get? b=!o)(hn:H it=none)(hL:it≠X.env.locals)
  (h1:it∈X.ex\/X.s₀⁻¹<=it) (h2:∀x c,X.env.cells.lookup x=!c->c≠it) (h3:∀p∈X.pn++aj,p.1≠it):Inv X aj J H { s with heap:=h',toks:=t'}:=by
 have nit:∀b u,H b=!u->b≠it:=λb u e z=>by rw[z,hn]at e;cases e
 apply I.step (ch:=[it]) (λb hb=>?_) (λb o _ _ hc e _=>k b o (λz=>hc (by simp[z])) e) (λb o _ _ hc e _=>#[o.slots,k b o (λz=>hc (by simp[z])) e]) (λ_ _ _ _ n=>n)
  (λb o hc e=>#[o,k b o (λz=>hc (by simp[z])) e]) (λ_ _ e=>e) (λ_ _ _ e=>e) (λb ps e=>#[([].toArray),by rw[e];simp]) (λm hm=>?_) (λb u e=>?_) I.bare
 .
  have e:b=it:=by simpa using hb
  subst e;show#[h1,hL,h2,h3]
 . let(o,es,ep,ho,r):=hm;show#[o,es,ep,k _ o (AJ hL) ho,r]
 .
  apply (I.hok b u e).stay (λc v hc q=>k c v ?_ q) (λ_ q=>q) λ_ _ q=>q
  rcases hc with z |z
  . rw[z];show nit b u e
  . show nit c _ z
def Inv.tok(I: ~~~7)(t:Nat):Inv X aj J H { s with toks:=t}:=I.un Un.refl I.hok
def Inv.kept{t':Nat}(I: ~~~7)(k:∀b u,s.heap.get? b=!u->h'.get? b=!u):Inv X aj J H { s with heap:=h',toks:=t'}:=I.un (Un.kept k) (I.hok.kept k)
def Inv.laid{a:Addr}{o:HO}{t':Nat}(I: ~~~7)(k:∀b u,s.heap.get? b=!u->h'.get? b=!u)(hp:s⁻¹<=a)(new:dO X.prog X.w (upd H a o) h' a o) :
  Inv X aj J (upd H a o) { s with heap:=h',toks:=t'}:=I.un (Un.laid k hp (I.hok.fresh hp)) (I.hok.laid k hp new)
def Inv.write(I: ~~~7)(mu:Mut (H x))(he:e=x\/H e=!(.own x))(k:∀b u,b≠e->s.heap.get? b=!u->h'.get? b=!u)(Yq:∃u,h'.get? e=!u)
  (new:dO X.prog X.w (upd H x o) h' x o):Inv X aj J (upd H x o) { s with heap:=h',toks:=t'}:=I.un (Un.write mu he k Yq) (I.hok.write mu he k Yq new)
def Inv.zK(I: ~~~7)(h:∀p∈Y6,s.heap.get? p.1=!p.2/\H p.1=none/\p.1≠X.env.locals/\p.1∉X.fs/\∀v,p.2.data≠.cell v):Inv X Y6 J H s:=
 #[I.ok,I.os,I.bare,I.base,I.loc,I.cell,I.free,I.jo,λp hp=>(l9.mp hp).elim (λz=>I.pin p (l7 _ z)) (h p),I.hok,I.len]
def uQ{N:List Str}(hN:N.Nodup){i j:Nat}{x:Str}(a:N[i]?=!x)(b:N[j]?=!x):i=j:=by let(h1,e1):=dL.mp a;let(h2,e2):=dL.mp b;show (List.getElem_inj hN).mp (e1.trans e2.symm)
def kN{M:Model}{A:Around}{E:Value->Shared->Prop}{i:Nat}{x:Str}{v:V}{u:Value}{Q:Unit->Shared->Prop}(I: ~~~7)(hN:X.N.Nodup)(hi:X.N[i]?=!x)(hx:Loc X.env.scope x)(r:RelV v u)
  (h:∀s',Inv X aj (J.set i (!v)) H s'->(∃a,Heap.SameBut a s.heap s'.heap/\(a=X.env.locals\/X.env.cells.lookup x=!a))->Q () s') (hf:X.fn x=true\/X.env.scope.names.lookup x=some .local:=by first |show .inl rfl |show .inr rfl |assumption):wpAny M A (storeName X.env x u) Q E s:=by
 let(m,hn,hl):=id I.loc;have hcls:(X.env.scope.kind==.class||(X.env.scope.kind==.module&&X.env.locals != X.env.globals))=false:=by rw[I.ok.kind];rfl
 have Y7:i<J.length:=by rw[I.len];show (dL.mp hi).1
 have S8:=I.S8;have tracked:∀{a:Addr}{h':Heap},(∃o,s.heap.get? a=!o/\H a=none)->Heap.SameBut a s.heap h'->nU X.prog X.w H h':=λ{a h'} ha hs b ob e=>by
  let(_,_,hfree):=ha;apply (I.hok b ob e).stay (λc w' hc q=>(hs.2 c ?_).trans q) (λ_ q=>q) λ_ _ q=>q
  rintro rfl;rcases hc with rfl |hc
  . rw[hfree]at e;cases e
  . rw[hfree]at hc;cases hc
 rcases hx with hk |hk
 .
  apply wpAny_storeName_local hk hn (λh' hn' hs=>?_) hcls
  let(oL,_,_,hoL,_):=id hn;apply h _ #[I.ok,I.os,I.bare,#[λb o e n hb hx=>?_,λb o e n hb hx=>?_,I.base.free,λb o e hx=>?_,I.base.tups,I.base.sN,I.base.sO],#[_,hn',λj y v' e1 e2 e3=>?_],λy c e=>?_,I.free,I.jo,λp hp=>?_,tracked #[oL,hoL,I.free] hs,by simpa using I.len] #[_,hs,.inl rfl]
  . show (hs.2 b (mP (fN (fA e) I.ok.above))).trans (I.base.keep b o e n hb hx)
  . let(sl,e1):=I.base.slot b o e n hb hx;show#[sl,(hs.2 b (mP (fN (fA e) I.ok.above))).trans e1]
  . let(o',e1):=I.base.there b o e hx;show#[o',(hs.2 b (mP (fN (fA e) I.ok.above))).trans e1]
  .
   by_cases hj:j=i
   . subst hj;rw[hi]at e1;cases e1;rw[i9 Y7]at e2;cases e2;show#[u,r,.inl #[hk,by simp]]
   .
    rw[i5 (AJ hj)]at e2;let(u',r',q):=hl j y v' e1 e2 e3;apply#[u',r',?_];rcases q with ⟨k,e⟩ |⟨k,c,e,z⟩
    .
     apply .inl #[k,?_];have:y≠x:=λe=>hj (uQ hN e1 (e▸hi))
     simp[this,e]
    . show .inr #[k,c,e,z.sameBut hs (S8 y c e)]
  . let(w',z):=I.cell y c e;show#[w',z.sameBut hs (S8 y c e)]
  . let(e,n,ne,nf,d):=I.pin p hp;show#[(hs.2 p.1 ne).trans e,n,ne,nf,d]
 .
  have hfn:X.fn x=true:=by
   rcases hf with z |z
   . show z
   . rw[z]at hk;cases hk
  let(c,hc):=I.ok.has x (.inl hk);let(w',z):=I.cell x c hc;apply wpAny_storeName_cell I.ok.kind hk hc z (λh' hc' hs=>?_)
  let(oc,hoc,hocd):=id z;apply h { s with heap:=h'} ⟨I.ok,I.os,I.bare,⟨λb o e n hb hx=>?_,λb o e n hb hx=>?_,I.base.free,λb o e hx=>?_,I.base.tups,I.base.sN,I.base.sO⟩,⟨m,hn.sameBut hs (AJ (S8 x c hc)),λj y v' e1 e2 e3=>?_⟩,λy c' e=>?_,I.free,I.jo,λp hp=>?_,tracked ⟨oc,hoc,I.jo x c hc⟩ hs,by simpa using I.len⟩ ⟨c,hs,.inr hc⟩
  . show (hs.2 b (mP (fN (fA e) (I.ok.Yr x c hfn hc)))).trans (I.base.keep b o e n hb hx)
  . let(sl,e1):=I.base.slot b o e n hb hx;show#[sl,(hs.2 b (mP (fN (fA e) (I.ok.Yr x c hfn hc)))).trans e1]
  . let(o',e1):=I.base.there b o e hx;show#[o',(hs.2 b (mP (fN (fA e) (I.ok.Yr x c hfn hc)))).trans e1]
  .
   by_cases hj:j=i
   . subst hj;rw[hi]at e1;cases e1;rw[i9 Y7]at e2;cases e2;show#[u,r,.inr #[.inl hk,c,hc,hc']]
   .
    rw[i5 (AJ hj)]at e2;let(u',r',q):=hl j y v' e1 e2 e3;apply#[u',r',?_];rcases q with q |⟨k,c',e,z'⟩
    . show .inl q
    . apply .inr #[k,c',e,z'.sameBut hs ?_];rintro rfl;show hj (uQ hN e1 (I.ok.inj _ _ _ e hc▸hi))
  .
   by_cases hcc:c'=c
   . subst hcc;show#[_,hc']
   . let(w2,z2):=I.cell y c' e;show#[w2,z2.sameBut hs hcc]
  . let(e,n,ne,nf,d):=I.pin p hp;apply#[(hs.2 p.1 ?_).trans e,n,ne,nf,d];intro q;rw[q,hoc]at e;have q':=oQ e;show d w' (by rw[<- q'];show hocd)
def dP{M:Model}{A:Around}{E:Value->Shared->Prop}{i:Nat}{x:Str}{v:V}{u:Value}{Q:Unit->Shared->Prop}(I: ~~~7)(hN:X.N.Nodup)(hi:X.N[i]?=!x)(hx:Loc X.env.scope x)(r:RelV v u)
  (h:∀s',Inv X aj (J.set i (!v)) H s'->Q () s') (hf:X.fn x=true\/X.env.scope.names.lookup x=some .local:=by first |show .inl rfl |show .inr rfl |assumption):wpAny M A (storeName X.env x u) Q E s:=
 kN I hN hi hx r (λs' I' _=>h s' I') hf
def Inv.call'(I: ~~~7)(ho:s'.os=s.os)(u:Un (frs X.stack) ch H H' s.heap s'.heap)(hok:nU X.prog X.w H' s'.heap)(hg:AllBare s'.gens)
  (hch:∀b∈ch,(b∈X.ex\/X.s₀⁻¹<=b)/\b≠X.env.locals/\(∀x c,X.env.cells.lookup x=!c->c≠b)/\∀p∈X.pn++aj,p.1≠b):Inv X aj J H' s':=by
 let(h',g',d',t',o'):=s';have e:=ho;subst e;show I.call u hok hg hch
end
def XK:=Value->Option Addr->Hp->Prop
def St:=List (Option V)
def VK:=V->Hp->Prop
def TE:=St->Hp->VK->Prop
def TT:=St->Hp->(Bool->Hp->Prop)->Prop
def TA:=St->Hp->(List V->Hp->Prop)->Prop
structure Ends where
 nx:St->Hp->Prop
 rt:VK
 bk:St->Hp->Prop:=λ_ _=>False
 ct:St->Hp->Prop:=λ_ _=>False
def TS:=Ends->St->Hp->Prop
abbrev EP(X:Cx)(aj: ~~~1)(J:St)(Q:VK)(u:Value)(s':Shared):Prop:=∃v H',Inv X aj J H' s'/\RelV v u/\Q v H'
abbrev TP(X:Cx)(aj: ~~~1)(J:St)(Q:Bool->Hp->Prop)(b:Bool)(s':Shared):Prop:=∃H',Inv X aj J H' s'/\Q b H'
abbrev AP(X:Cx)(aj: ~~~1)(J:St)(Q:List V->Hp->Prop)(us:List Value)(s':Shared):Prop:=∃vs H',Inv X aj J H' s'/\Vals vs us/\Q vs H'
abbrev SP(X:Cx)(aj: ~~~1)(D:Ends)(f:Flow)(s':Shared):Prop:=
 match f with
 |.next=>∃σ' H',Inv X aj σ' H' s'/\D.nx σ' H'
 |.brk=>∃σ' H',Inv X aj σ' H' s'/\D.bk σ' H'
 |.cont=>∃σ' H',Inv X aj σ' H' s'/\D.ct σ' H'
 |.ret u=>∃v σ' H',Inv X aj σ' H' s'/\RelV v u/\D.rt v H'
abbrev PE(X:Cx)(e:Expr)(t:TE):Prop:=
 ∀(aj: ~~~1) (s:Shared) (J:St) (H:Hp) (Q:VK),Inv X aj J H s->t J H Q->wpAny (~~~2) X.A (eval e X.env) (EP X aj J Q) X.xe s
abbrev PT(X:Cx)(e:Expr)(t:TT):Prop:=
 ∀(aj: ~~~1) (s:Shared) (J:St) (H:Hp) (Q:Bool->Hp->Prop),Inv X aj J H s->t J H Q->wpAny (~~~2) X.A (isTrue e X.env (eval e X.env)) (TP X aj J Q) X.xe s
abbrev PW(X:Cx)(e:Expr)(t:TT):Prop:=
 ∀(whole:Sem Value) (aj: ~~~1) (s:Shared) (J:St) (H:Hp) (Q:Bool->Hp->Prop),Inv X aj J H s->t J H Q->wpAny (~~~2) X.A (isTrue e X.env whole) (TP X aj J Q) X.xe s
def PW.pt{X:Cx}{e:Expr}{t:TT}(h:PW X e t):PT X e t:=h _
abbrev PA(X:Cx)(es:List Expr)(t:TA):Prop:=
 ∀(pos:Pos) (aj: ~~~1) (s:Shared) (J:St) (H:Hp) (Q:List V->Hp->Prop),Inv X aj J H s->t J H Q->wpAny (~~~2) X.A (spliced (backTo pos (starEach es X.env))) (AP X aj J Q) X.xe s
abbrev PS(X:Cx)(st:Stmt)(t:TS):Prop:=
 ∀(aj: ~~~1) (s:Shared) (J:St) (H:Hp) (D:Ends),Inv X aj J H s->t D J H->wpAny (~~~2) X.A (exec st X.env) (SP X aj D) X.xe s
abbrev uL(X:Cx)(st:List Stmt)(t:TS):Prop:=
 ∀(aj: ~~~1) (s:Shared) (J:St) (H:Hp) (D:Ends),Inv X aj J H s->t D J H->wpAny (~~~2) X.A (execs st X.env) (SP X aj D) X.xe s
def cz{α:Type}{t:Sem α}{Q Q':α->Shared->Prop}{M:Model}{A:Around}{E:Value->Shared->Prop}{s:Shared}(h:wpAny M A t Q E s)(hQ:∀a s,Q a s->Q' a s):wpAny M A t Q' E s:=o5 h hQ λ_ _ x=>x
section
variable{X:Cx}
abbrev Y8(i:Nat):TE:=λJ H Q=>∃v,J[i]?=!(!v)/\Q v H
abbrev tC(v:V):TE:=λ_ H Q=>Q v H
def cR(hN:X.N[i]?=!x)(hv:mh X.env.scope x)(hd:(x==(~~~3))=false:=by decide)(fK:(x==("__classdict__":Str))=false:=by decide):PE X (.Name x pos) (Y8 i):=by
 intro aj s J H Q I h;let(v,e,h):=h;let(m,hn,hl):=I.loc;let(u,r,l):=hl i x v hN e hv;have fin:EP X aj J Q u s:=#[v,H,I,r,h];rcases l with ⟨hk,hm⟩ |⟨hk,c,hc,hcell⟩
 . show wpAny_Name (wpAny_loadName_local I.ok.kind hk hn hm fin) hd
 .
  rcases hk with hk |hk
  . show wpAny_Name (wpAny_loadName_cell I.ok.kind hk hc hcell fin) hd
  . show wpAny_Name (wpAny_loadName_free I.ok.kind hk hc hcell fin fK) hd
def S9{i j pos}:PE X (.Constant (.int i) j pos) (tC (.int i)):=λ_ _ _ H _ I h=>wpAny_Constant_int #[.int i,H,I.tok _,#[_,rfl],h]
def Y9{b j pos}:PE X (.Constant (.bool b) j pos) (tC (.bl b)):=λ_ _ _ H _ I h=>Constant_bool #[.bl b,H,I,rfl,h]
def Tc{j pos}:PE X (.Constant .none j pos) (tC .non):=λ_ _ _ H _ I h=>Constant_none #[.non,H,I,rfl,h]
def Td{x j pos}:PE X (.Constant (.str x) j pos) (tC (.str x)):=λ_ _ _ H _ I h=>Calls.Constant_str #[.str x,H,I.tok _,#[_,rfl],h]
abbrev Gl(X:Cx)(x:Str):Prop:=X.env.kindOf x=some .globalImplicit
def zL{E:Value->Shared->Prop}{aj: ~~~1}{s:Shared}{J:St}{H:Hp}{x:Str}{u:Value}{pos:Pos}{Q:Value->Shared->Prop}(I: ~~~7)(hg:Gl X x)(hm:X.mg x=!u)(h:Q u s)
  (hd:(x==(~~~3))=false:=by decide):wpAny (~~~2) X.A (eval (.Name x pos) X.env) Q E s:=
 Calls.Name_function_global I.ok.kind hg (Calls.loadGlobal_global (by rw[I.ok.glob];show I.mod.glob.keeps I.bk) hm h) hd
def fT{E:Value->Shared->Prop}{aj: ~~~1}{s:Shared}{J:St}{H:Hp}{x:Str}{u:Value}{pos:Pos}{Q:Value->Shared->Prop}(I: ~~~7)(hg:Gl X x)(hm:X.mg x=none)(hv:bootBuiltins x=!u)(h:Q u s)
  (hn:x≠ "__name__" :=by decide) (hd:(x==(~~~3))=false:=by decide):wpAny (~~~2) X.A (eval (.Name x pos) X.env) Q E s:=by
 let(mb,h1,h2):=I.mod.blt;show Calls.Name_function_global I.ok.kind hg (Calls.loadGlobal_builtin (by rw[I.ok.glob];show I.mod.glob.keeps I.bk) hm (by rw[I.ok.blt];show h1.keeps I.bk) ((h2 x hn).trans hv) h) hd
def LK(hg:Gl X x)(hm:X.mg x=!u)(r:RelV v u)(hd:(x==(~~~3))=false:=by decide):PE X (.Name x pos) (tC v):=
 λ_ _ _ H _ I h=>zL I hg hm #[v,H,I,r,h] hd
def LQ(hg:Gl X x)(hm:X.mg x=none)(hv:bootBuiltins x=!u)(r:RelV v u)(hn:x≠ "__name__" :=by decide)(hd:(x==(~~~3))=false:=by decide):PE X (.Name x pos) (tC v):=
 λ_ _ _ H _ I h=>fT I hg hm hv #[v,H,I,r,h] hn hd
variable{a b:Expr}{ta tb:TE}{pos:Pos}
variable{tA tB':TT}{aD:List Expr}
abbrev tAnd(t u:TT):TT:=λJ H Q=>t J H λc H1=>if c=true then u J H1 Q else Q false H1
abbrev tOr(t u:TT):TT:=λJ H Q=>t J H λc H1=>if c=true then Q true H1 else u J H1 Q
abbrev tNot(t:TT):TT:=λJ H Q=>t J H λc H1=>Q ((not c)) H1
def pw_and1(ha:PT X a tA):PW X (.BoolOp .And [a] pos) tA:=by
 intro wh aj s J H Q I h;apply isTrue_and (cz (ha aj s J H Q I h) λc s1 e=>?_)
 cases c with
 |true=>show isTrue_and_nil e
 |false=>show e
def pw_or1(ha:PT X a tA):PW X (.BoolOp .Or [a] pos) tA:=by
 intro wh aj s J H Q I h;apply isTrue_or (cz (ha aj s J H Q I h) λc s1 e=>?_)
 cases c with
 |false=>show isTrue_or_nil e
 |true=>show e
def pw_and(ha:PT X a tA)(hb:PW X (.BoolOp .And (b::aD) pos) tB'):PW X (.BoolOp .And (a::b::aD) pos) (tAnd tA tB'):=by
 intro wh aj s J H Q I h;apply isTrue_and (cz (ha aj s J H _ I h) ?_);rintro c s1 ⟨H1,I1,q1⟩;cases c with
 |true=>show hb wh aj s1 J H1 Q I1 q1
 |false=>show#[H1,I1,q1]
def pw_or(ha:PT X a tA)(hb:PW X (.BoolOp .Or (b::aD) pos) tB'):PW X (.BoolOp .Or (a::b::aD) pos) (tOr tA tB'):=by
 intro wh aj s J H Q I h;apply isTrue_or (cz (ha aj s J H _ I h) ?_);rintro c s1 ⟨H1,I1,q1⟩;cases c with
 |true=>show#[H1,I1,q1]
 |false=>show hb wh aj s1 J H1 Q I1 q1
def Te(ha:PT X a tA):PT X (.UnaryOp .Not a pos) (tNot tA):=by intro aj s J H Q I h;show isTrue_not (ha aj s J H (λc H1=>Q ((not c)) H1) I h)
abbrev Za(ta tb:TE):TE:=λJ H Q=>ta J H λx H1=>∃c,x=.bl c/\if c=true then tb J H1 Q else Q (.bl false) H1
abbrev tOrV(ta tb:TE):TE:=λJ H Q=>ta J H λx H1=>∃c,x=.bl c/\if c=true then Q (.bl true) H1 else tb J H1 Q
abbrev Zb(ta:TE):TE:=λJ H Q=>ta J H λx H1=>∃c,x=.bl c/\Q (.bl ((not c))) H1
def Tf{op}(h:PE X a t):PE X (.BoolOp op [a] pos) t:=λaj s J H Q I hw=>BoolOp_one (h aj s J H Q I hw)
def FQ(ha:PE X a ta)(hb:PE X (.BoolOp .And (b::aD) pos) tb):PE X (.BoolOp .And (a::b::aD) pos) (Za ta tb):=by
 intro aj s J H Q I h;apply BoolOp_and (cz (ha aj s J H _ I h) ?_);rintro v s1 ⟨x,H1,I1,r1,q1⟩;let(c,rfl,q1):=q1;cases r1;apply tI ?_;cases c with
 |true=>show hb aj s1 J H1 Q I1 q1
 |false=>show#[.bl false,H1,I1,rfl,q1]
def Rk(ha:PE X a ta)(hb:PE X (.BoolOp .Or (b::aD) pos) tb):PE X (.BoolOp .Or (a::b::aD) pos) (tOrV ta tb):=by
 intro aj s J H Q I h;apply BoolOp_or (cz (ha aj s J H _ I h) ?_);rintro v s1 ⟨x,H1,I1,r1,q1⟩;let(c,rfl,q1):=q1;cases r1;apply tI ?_;cases c with
 |false=>show hb aj s1 J H1 Q I1 q1
 |true=>show#[.bl true,H1,I1,rfl,q1]
def Ti(ha:PE X a ta):PE X (.UnaryOp .Not a pos) (Zb ta):=by intro aj s J H Q I h;apply UnaryOp_ (cz (ha aj s J H _ I h) ?_);rintro v s1 ⟨x,H1,I1,r1,q1⟩;let(c,rfl,q1):=q1;cases r1;show not_of (tI #[.bl ((not c)),H1,I1,rfl,q1])
abbrev tIf(t:TT)(ta tb:TE):TE:=λJ H Q=>t J H λc H1=>if c=true then ta J H1 Q else tb J H1 Q
def uR{c:Expr}(hc:PT X c tA)(ha:PE X a ta)(hb:PE X b tb):PE X (.IfExp c a b pos) (tIf tA ta tb):=by
 intro aj s J H Q I h;apply wpAny_IfExp (cz (hc aj s J H _ I h) ?_);rintro d s1 ⟨H1,I1,q1⟩;cases d with
 |true=>show ha aj s1 J H1 Q I1 q1
 |false=>show hb aj s1 J H1 Q I1 q1
end
abbrev dQ(K:Frag)(H:Hp)(a:Addr)(xs:List V):Prop:=
 Rd H a (.lst xs)\/
  ∃(o:Obj) (its:Array Value) (n:Nat),K.lookup a=!o/\o.cls=.type "list" /\o.dict=none/\o.data=.seq its n/\its.size<=sizeLine/\Vals xs its.toList
abbrev iE(K:Frag)(H:Hp)(a:Addr)(xs:List V):Prop:=
 Rd H a (.tup xs)\/
  ∃(o:Obj) (its:Array Value) (n:Nat),K.lookup a=!o/\o.cls=.type "tuple" /\o.data=.seq its n/\its.size<=sizeLine/\Vals xs its.toList
abbrev absV:Value->Option V
 |.none=>some .non
 |.bool b=>!(.bl b)
 |.int i _=>!(.int i)
 |.str x _=>!(.str x)
 |.bytes b _=>!(.Rj b)
 |.float b _=>!(.flt b)
 |.ref a=>!(.ref a)
 |.type n=>!(.ty n)
 |_=>none
def RelV.abs(r:RelV x u):absV u=!x:=by
 cases x with
 |non=>cases r;rfl
 |bl _=>cases r;rfl
 |int _=>let(t,rfl):=r;rfl
 |str _=>let(t,rfl):=r;rfl
 |Rj _=>let(t,rfl):=r;rfl
 |flt _=>let(t,rfl):=r;rfl
 |ref _=>cases r;rfl
 |ty _=>cases r;rfl
def RelV.inj{x y:V}{u:Value}(r:RelV x u)(q:RelV y u):x=y:=oQ (r.abs.symm.trans q.abs)
def Vals.inj:∀{xs ys:List V}{us:List Value},Vals xs us->Vals ys us->xs=ys:=by
 intro xs ys us h
 induction h generalizing ys with
 |nil=>intro h';cases h';rfl
 |cons r t ih=>intro h';cases h' with |cons r' t'=>rw[r.inj r',ih t']
section
variable{X:Cx}{aj: ~~~1}{J:St}{H:Hp}{s:Shared}{a:Addr}{xs ys:List V}
def dQ.of{K:Frag}(h:H a=!(.lst xs)):dQ K H a xs:=.inl (.inl h)
def Inv.list(I: ~~~7)(h:dQ X.K H a xs):∃its:List Value,Vals xs its/\PlainL s.heap a its.toArray/\xs.length<=sizeLine:=by
 rcases h with h |⟨o,its,n,hk,hc,hd,hs,hz,r⟩
 . let(z,its,n,r,e):=h.ok I.hok;show#[its,r,#[_,n,e,rfl,rfl,rfl],z]
 .
  apply#[its.toList,r,#[o,n,I.uO a o hk,hc,hd,by simpa using hs],?_]
  have e:=r.length;simp only[eD]at e;lia
def Inv.tuple(I: ~~~7)(h:iE X.K H a xs):∃its:List Value,Vals xs its/\IsTup s.heap a its.toArray/\xs.length<=sizeLine:=by
 rcases h with h |⟨o,its,n,hk,hc,hs,hz,r⟩
 . let(z,its,r,p):=h.ok I.hok;show#[its,r,p.tup,z]
 .
  apply#[its.toList,r,#[o,I.uO a o hk,hc,n,by simpa using hs],?_]
  have e:=r.length;simp only[eD]at e;lia
def Inv.FT(I: ~~~7)(h:dQ X.K H a xs)(h':dQ X.K H a ys):xs=ys:=by
 let(its,r,(o,n,e,_,_,d),_):=I.list h;let(its',r',(o',n',e',_,_,d'),_):=I.list h';rw[e]at e';cases e';rw[d]at d';injection d' with d1 _;have:its=its':=by simpa using congrArg Array.toList d1
 subst this;show r.inj r'
def Inv.qU(I: ~~~7)(h:iE X.K H a xs)(h':iE X.K H a ys):xs=ys:=by
 let(its,r,(o,e,_,n,d),_):=I.tuple h;let(its',r',(o',e',_,n',d'),_):=I.tuple h';rw[e]at e';cases e';rw[d]at d';injection d' with d1 _;have:its=its':=by simpa using congrArg Array.toList d1
 subst this;show r.inj r'
end
meta abbrev Cx.wish(X:Cx)(E:Value->Shared->Prop):Cx:={ X with xe:=E}
meta abbrev Cx.Ys(X:Cx):Cx:=X.wish λ_ _=>False
def Cx.Ok.wish{X:Cx}(ok:X.Ok)(E:Value->Shared->Prop):(X.wish E).Ok:=
 #[ok.mod,ok.kind,ok.glob,ok.blt,ok.above,ok.inj,ok.has,ok.Yr,ok.hd,ok.frames,ok.stk,ok.Y4,ok.bs,ok.LC,ok.x8,ok.Cb,ok.mY,ok.S7]
def Cx.Ok.iF{X:Cx}{E:Value->Shared->Prop}(ok:(X.wish E).Ok):X.Ok:=
 #[ok.mod,ok.kind,ok.glob,ok.blt,ok.above,ok.inj,ok.has,ok.Yr,ok.hd,ok.frames,ok.stk,ok.Y4,ok.bs,ok.LC,ok.x8,ok.Cb,ok.mY,ok.S7]
section
variable{X:Cx}{aj: ~~~1}{J:St}{H:Hp}{s:Shared}{E:Value->Shared->Prop}
def Inv.wish(I: ~~~7)(E:Value->Shared->Prop):Inv (X.wish E) aj J H s:=#[I.ok.wish E,I.os,I.bare,I.base,I.loc,I.cell,I.free,I.jo,I.pin,I.hok,I.len]
def Inv.iF(I:Inv (X.wish E) aj J H s):Inv X aj J H s:=#[I.ok.iF,I.os,I.bare,I.base,I.loc,I.cell,I.free,I.jo,I.pin,I.hok,I.len]
def SP.iF(h:SP (X.wish E) aj D f s'):SP X aj D f s':=by
 cases f with
 |next=>let(σ',H',I,q):=h;show#[σ',H',I.iF,q]
 |brk=>let(σ',H',I,q):=h;show#[σ',H',I.iF,q]
 |cont=>let(σ',H',I,q):=h;show#[σ',H',I.iF,q]
 |ret u=>let(v,σ',H',I,r,q):=h;show#[v,σ',H',I.iF,r,q]
def uL.Ys{st:List Stmt}{t:TS}(h:uL X.Ys st t):uL X st t:=λaj s J H D I hw=>
 o5 (h aj s J H D (I.wish _) hw) (λ_ _ q=>q.iF) λ_ _ z=>False.elim z
end
section
variable{X:Cx}{st:Stmt}{aD:List Stmt}{t u:TS}{e:Expr}{te:TE}{pos:Pos}
abbrev Zc:TS:=λD J H=>D.nx J H
abbrev Zd(t u:TS):TS:=λD J H=>t { D with nx:=u D} J H
def LR:uL X [] Zc:=λ_ _ J H _ I h=>wpAny_execs_nil #[J,H,I,h]
def gg(h1:PS X st t)(h2:uL X aD u):uL X (st::aD) (Zd t u):=by
 intro aj s J H D I h;apply wpAny_execs_cons (cz (h1 aj s J H { D with nx:=u D} I h) λf s1 q=>?_)
 cases f with
 |next=>let(σ',H',I',q):=q;show h2 aj s1 σ' H' D I' q
 |ret v=>show q
 |brk=>show q
 |cont=>show q
def LW(h1:PS X st t):uL X [st] t:=by
 intro aj s J H D I h;apply wpAny_execs_cons (cz (h1 aj s J H D I h) λf s1 q=>?_)
 cases f with
 |next=>show wpAny_execs_nil q
 |ret v=>show q
 |brk=>show q
 |cont=>show q
def Inv.quiet{aj: ~~~1}{J:St}{H:Hp}{s:Shared}(I: ~~~7):interactive X.env=false:=by simp[interactive,I.ok.kind]
abbrev Ze(te:TE):TS:=λD J H=>te J H λ_ H1=>D.nx J H1
def zM(he:PE X e te)(hs:swapsWith e none pos.line X.env=pure false:=by rfl):PS X (.Expr e pos) (Ze te):=by intro aj s J H D I h;show wpAny_Expr_any (cz (he aj s J H _ I h) (by rintro v s1 ⟨x,H1,I1,r1,q1⟩;show#[J,H1,I1,q1])) I.quiet hs
abbrev tRet(te:TE):TS:=λD J H=>te J H D.rt
def FW(he:PE X e te):PS X (.Return (!e) pos) (tRet te):=by intro aj s J H D I h;show wpAny_Return_some (cz (he aj s J H _ I h) (by rintro v s1 ⟨x,H1,I1,r1,q1⟩;show#[x,J,H1,I1,r1,q1]))
abbrev tIfS(c:TT)(t u:TS):TS:=λD J H=>c J H λb H1=>if b=true then t D J H1 else u D J H1
def Rl{c:Expr}{a b:List Stmt}{tc:TT}(hc:PT X c tc)(ha:uL X a t)(hb:uL X b u):PS X (.If c a b pos) (tIfS tc t u):=by
 intro aj s J H D I h;apply wpAny_If (cz (hc aj s J H _ I h) ?_);rintro d s1 ⟨H1,I1,q1⟩;cases d with
 |true=>show ha aj s1 J H1 D I1 q1
 |false=>show hb aj s1 J H1 D I1 q1
abbrev Tj:TS:=λ_ _ _=>False
def eK:uL X uK Tj:=λ_ _ _ _ _ _ h=>h.elim
end
def TG:=V->St->Hp->(St->Hp->Prop)->Prop
def Tp:=List V->St->Hp->(St->Hp->Prop)->Prop
abbrev PG(X:Cx)(target:Expr)(t:TG):Prop:=
 ∀(aj: ~~~1) (s:Shared) (J:St) (H:Hp) (v:V) (u:Value) (Q:St->Hp->Prop),Inv X aj J H s->RelV v u->t v J H Q->
  wpAny (~~~2) X.A (assign target X.env u) (λ_ s'=>∃σ' H',Inv X aj σ' H' s'/\Q σ' H') X.xe s
abbrev Yt(X:Cx)(ts:List Expr)(t:Tp):Prop:=
 ∀(aj: ~~~1) (s:Shared) (J:St) (H:Hp) (vs:List V) (us:List Value) (Q:St->Hp->Prop),Inv X aj J H s->Vals vs us->t vs J H Q->
  wpAny (~~~2) X.A (assignInOrder ((assignEach ts X.env).map (·.2)) us) (λ_ s'=>∃σ' H',Inv X aj σ' H' s'/\Q σ' H') X.xe s
def L0:=V->V->V->Hp->(Hp->Prop)->Prop
abbrev Zf(X:Cx)(t:L0):Prop:=
 ∀(aj: ~~~1) (s:Shared) (J:St) (H:Hp) (o i v:V) (ov iv u:Value) (Q:Hp->Prop),Inv X aj J H s->RelV o ov->RelV i iv->RelV v u->t o i v H Q->
  wpAny (~~~2) X.A (setItem ov iv u) (λ_ s'=>∃H',Inv X aj J H' s'/\Q H') X.xe s
def TIp:=V->V->Hp->VK->Prop
abbrev PIp(X:Cx)(op:Operator)(t:TIp):Prop:=
 ∀(aj: ~~~1) (s:Shared) (J:St) (H:Hp) (x y:V) (v u:Value) (Q:VK),Inv X aj J H s->RelV x v->RelV y u->t x y H Q->
  wpAny (~~~2) X.A (inplaceOp op v u) (EP X aj J Q) X.xe s
section
variable{X:Cx}{pos:Pos}
abbrev uS(i:Nat):TG:=λv J H Q=>Q (J.set i (!v)) H
def jM(hN:X.N.Nodup)(hi:X.N[i]?=!x)(hx:Loc X.env.scope x)(hf:X.fn x=true\/X.env.scope.names.lookup x=some .local:=by first |show .inl rfl |show .inr rfl |assumption):PG X (.Name x pos) (uS i):=by intro aj s J H v u Q I r h;show wpAny_assign_Name (dP I hN hi hx r (λs' I'=>#[_,H,I',h]) hf)
abbrev gNil:Tp:=λvs J H Q=>vs=[]/\Q J H
abbrev Zg(t:TG)(u:Tp):Tp:=λvs J H Q=>∃v r,vs=v::r/\t v J H λσ' H'=>u r σ' H' Q
def sQ:Yt X [] gNil:=by intro aj s J H vs us Q I r h;let(e,h):=h;subst e;show assignInOrder_nil #[J,H,I,h]
def iG{e:Expr}{es:List Expr}{t:TG}{u:Tp}(h1:PG X e t)(h2:Yt X es u)
  (hs:(assignEach (e::es) X.env).map (·.2)=assign e X.env::(assignEach es X.env).map (·.2):=by rfl):Yt X (e::es) (Zg t u):=by
 intro aj s J H vs us Q I r h;let(v,vr,e1,h):=h;subst e1;cases r with
 |cons r rr=>rw[hs];apply AZ (cz (h1 aj s J H _ _ _ I r h) ?_);rintro _ s1 ⟨σ1,H1,I1,q1⟩;show h2 aj s1 σ1 H1 _ _ Q I1 rr q1
abbrev gTup(K:Frag)(n:Nat)(t:Tp):TG:=λv J H Q=>∃a xs,v=.ref a/\iE K H a xs/\xs.length=n/\t xs J H Q
def yc(hc:X.calm=true)(h:Yt X es t)
  (hn:(assignEach es X.env).length=n:=by rfl) (fL:(assignEach es X.env).findIdx? (·.1)=none:=by rfl):PG X (.Tuple es k pos) (gTup X.K n t):=by
 intro aj s J H v u Q I r hw;let(a,xs,e1,hq,hl,hw):=hw;subst e1;cases r;let(its,rv,ht,hz):=I.tuple hq;apply assign_Tuple_tuple (I.ok.hd hc) ht (by simp[hn,<- hl,rv.length]) fL λh' hx=>?_
 have I1:=I.kept (t':=s.toks) λb o e=>hx b o (mP (fA e)) e
 show h aj _ J H xs _ Q I1 (by simpa using rv) hw
abbrev gSub(to ti:TE)(t:L0):TG:=λv J H Q=>to J H λo H1=>ti J H1 λi H2=>t o i v H2 λH3=>Q J H3
def yd{o i:Expr}{to ti:TE}{t:L0}(ho:PE X o to)(hi:PE X i ti)(hs:Zf X t)
  (ha:∀v,assign (.Subscript o i pos) X.env v=(do
   let ov <- holding [v] (eval o X.env)
   let iv <- holding [v,ov] (eval i X.env)
   standAt pos
   holding [v,ov,iv] (setItem ov iv v)
   release [v,ov,iv] []):=by intro _;rfl):PG X (.Subscript o i pos) (gSub to ti t):=by
 intro aj s J H v u Q I r h;apply aS (nN (cz (ho aj s J H _ I h) ?_));rintro ov s1 ⟨x,H1,I1,r1,q1⟩;apply aS (nN (cz (hi aj s1 J H1 _ I1 q1) ?_));rintro iv s2 ⟨y,H2,I2,r2,q2⟩;apply aS (wT (aS (nN (cz (hs aj s2 J H2 x y v ov iv u _ I2 r1 r2 r q2) ?_))));rintro _ s3 ⟨H3,I3,q3⟩;show wpAny_release #[J,H3,I3,q3]
abbrev L1(te:TE)(g:TG):TS:=λD J H=>te J H λx H1=>g x J H1 D.nx
def yg{tg e:Expr}{te:TE}{g:TG}(he:PE X e te)(hg:PG X tg g)(hs:swapsWithSole [tg] e pos.line X.env=pure false:=by rfl)(hw:swappedStores [tg] e X.env=pure none:=by rfl)
  (h1:(assignEach [tg] X.env).map (·.2)=[assign tg X.env]:=by rfl):PS X (.Assign [tg] e pos) (L1 te g):=by
 intro aj s J H D I h;apply wpAny_Assign_stores (cz (he aj s J H _ I h) ?_) hs hw;rintro v s1 ⟨x,H1,I1,r1,q1⟩;rw[h1];show cz (hg aj s1 J H1 x v _ I1 r1 q1) λ_ s2 q=>q
def FZ{i:Nat}{x:Str}{e:Expr}{te:TE}{pos':Pos}(hN:X.N.Nodup)(hi:X.N[i]?=!x)(hx:Loc X.env.scope x)(he:PE X e te)(hs:swapsWith e (!(.Name x pos')) pos.line X.env=pure false:=by rfl)(hf:X.fn x=true\/X.env.scope.names.lookup x=some .local:=by first |show .inl rfl |show .inr rfl |assumption) :
  PS X (.Assign [.Name x pos'] e pos) (L1 te (uS i)):=by
 intro aj s J H D I h;apply wpAny_Assign_Name (cz (he aj s J H _ I h) ?_) hs;rintro v s1 ⟨y,H1,I1,r1,q1⟩;show dP I1 hN hi hx r1 (λs2 I2=>#[_,H1,I2,q1]) hf
abbrev tPar(i j:Nat)(ta:TA):TS:=λD J H=>ta J H λvs H1=>∃v w,vs=[v,w]/\D.nx ((J.set i (!v)).set j (!w)) H1
def Tq{i j:Nat}{x y:Str}{a b:Expr}{ta:TA}{px py pt:Pos}{kt k2 xT}(hc:X.calm=true)(hN:X.N.Nodup)(hi:X.N[i]?=!x)(hj:X.N[j]?=!y)(hij:i≠j)
  (hx:X.env.scope.names.lookup x=some .local) (hy:X.env.scope.names.lookup y=some .local) (ha:PA X [a,b] ta)
  (hw:swappedStores [.Tuple [.Name x px,.Name y py] kt pt] (.Tuple [a,b] k2 xT) X.env=pure (![x,y]))
  (hs:swapsWithSole [.Tuple [.Name x px,.Name y py] kt pt] (.Tuple [a,b] k2 xT) pos.line X.env=pure false:=by rfl) :
  PS X (.Assign [.Tuple [.Name x px,.Name y py] kt pt] (.Tuple [a,b] k2 xT) pos) (tPar i j ta):=by
 intro aj s J H D I h;rw[exec_Assign_arm];apply aS (wT ?_);rw[hs];apply aS (dC ?_);rw[eR ⋯];apply aS (Tuple_ (cz (ha _ aj s J H _ I h) ?_));rintro us s1 ⟨vs,H1,I1,r1,q1⟩;let(v,w,e1,q1):=q1;subst e1;obtain⟨u1,u2,rfl,rv,rw'⟩:∃u1 u2,us=[u1,u2]/\RelV v u1/\RelV w u2:=by
  cases r1 with
  |cons p q=>
   cases q with
   |cons p' q'=>cases q';show#[_,_,rfl,p,p']
 apply tS ?_ (by exact 2<=sizeLine;decide)
 have I2:Inv X aj J H1 { s1 with heap:=s1.heap.push { cls:=.type "tuple",data:=.seq [u1,u2].toArray}}:=I1.kept (t':=s1.toks) λb o e=>dE _ e
 rw[hw];apply aS (dC ?_);exact wpAny (~~~2) X.A (do rule "assign.swapped-stores";let items <- unpackItems (.ref s1⁻¹) 2 none;assignInOrder [λv=>bindName X.env y v,λv=>bindName X.env x v] items.reverse;pure Flow.next) _ _ _
 apply aS (y8 (aS (unpackItems_tuple (items:=([u1,u2].toArray)) (I.ok.hd hc) (IsTup.new s1.heap _) λh' hx'=>?_)))
 have I3:=I2.kept (h':=h') (t':=s1.toks) λb o e=>hx' b o (mP (fA e)) e
 exact wpAny _ _ (assignInOrder [λv=>bindName X.env y v,λv=>bindName X.env x v] [u2,u1] >>= λ_=>pure Flow.next) _ _ _
 apply aS (AZ (DE (dP I3 hN hj (.inl hy) rw' (λs2 I4=>?_) (.inr hy))))
 apply AZ (DE (dP I4 hN hi (.inl hx) rv (λs3 I5=>assignInOrder_nil (dC ?_)) (.inr hx)))
 rw[List.set_comm _ _ (AJ hij)]at I5;show#[_,H1,I5,q1]
abbrev tAug(i:Nat)(te:TE)(ti:TIp):TS:=λD J H=>∃x,J[i]?=!(!x)/\te J H λy H1=>ti x y H1 λz H2=>D.nx (J.set i (!z)) H2
def Ga{i:Nat}{x:Str}{e:Expr}{te:TE}{op:Operator}{ti:TIp}{pos':Pos}(hN:X.N.Nodup)(hi:X.N[i]?=!x)(hx:Loc X.env.scope x)(he:PE X e te)(ho:PIp X op ti)(hf:X.fn x=true\/X.env.scope.names.lookup x=some .local:=by first |show .inl rfl |show .inr rfl |assumption) :
  PS X (.AugAssign (.Name x pos') op e pos) (tAug i te ti):=by
 intro aj s J H D I h;let(v,e1,h):=h;let(m,hn,hl):=I.loc;have vis:mh X.env.scope x:=by rcases hx with k |k;show .inl k;show .inr (.inl k)
 let(u,r,l):=hl i x v hi e1 vis;apply wpAny_AugAssign_Name ?_;have go:wpAny (~~~2) X.A (eval e X.env) (λw s₂=>wpAny (~~~2) X.A (inplaceOp op u w) (λr s₃=>wpAny (~~~2) X.A (storeName X.env x r) (λ_=>SP X aj D .next) X.xe s₃) X.xe s₂) X.xe s:=by apply cz (he aj s J H _ I h) ?_;rintro w s1 ⟨y,H1,I1,r1,q1⟩;apply cz (ho aj s1 J H1 v y u w _ I1 r r1 q1) ?_;rintro z s2 ⟨zv,H2,I2,r2,q2⟩;show dP I2 hN hi hx r2 (λs3 I3=>#[_,H2,I3,q2]) hf
 rcases l with ⟨hk,hm⟩ |⟨hk,c,hc,hcell⟩
 . show wpAny_loadName_local I.ok.kind hk hn hm go
 .
  rcases hk with hk |hk
  . show wpAny_loadName_cell I.ok.kind hk hc hcell go
  .
   rcases hx with k |k
   . have:X.env.scope.names.lookup x=some .free:=hk;rw[k]at this;cases this
   . have:X.env.scope.names.lookup x=some .free:=hk;rw[k]at this;cases this
end
section
variable{X:Cx}{pos:Pos}
abbrev Tr(c:TT)(tb:TS):TS:=λD J H=>∃W:Nat->St->Hp->Prop,(∃m,W m J H)/\∀m J H,W m J H->
 c J H λb H1=>if b=true then ∃N:St->Hp->Prop,(∀σ' H',N σ' H'->∃m',m'<m/\W m' σ' H')/\tb { D with nx:=N,ct:=N,bk:=D.nx} J H1 else D.nx J H1
def Gb{c:Expr}{body:List Stmt}{tc:TT}{tb:TS}(hp:PassesOwn (~~~2) X.A X.env X.xe)(hc:PT X c tc)(hb:uL X body tb):PS X (.While c body [] pos) (Tr tc tb):=by
 intro aj s J H D I h;let(W,(m0,w0),turn):=h;apply wpAny_While (codeAny_whileLoop (λn s'=>∃σ' H',Inv X aj σ' H' s'/\W n σ' H') ?_ m0 #[J,H,I,w0])
 rintro n s1 ⟨σ1,H1,I1,w1⟩;apply Bz hp (cz (hc aj s1 σ1 H1 _ I1 (turn n σ1 H1 w1)) ?_);rintro b s2 ⟨H2,I2,q2⟩;cases b with
 |true=>
  let(N,hN,q2):=q2;apply Bz hp (cz (hb aj s2 σ1 H2 _ I2 q2) λf s3 q3=>?_)
  cases f with
  |next=>let(σ3,H3,I3,n3):=q3;let(m',hm,w3):=hN σ3 H3 n3;show#[m',hm,σ3,H3,I3,w3]
  |cont=>let(σ3,H3,I3,n3):=q3;let(m',hm,w3):=hN σ3 H3 n3;show#[m',hm,σ3,H3,I3,w3]
  |brk=>show q3
  |ret v=>show q3
 |false=>show wpAny_execs_nil #[σ1,H2,I2,q2]
end
structure It where
 go:Nat->Hp->Prop
 Yu:Nat->Hp->V->Hp->Prop
 stop:Nat->Hp->Prop
abbrev kO(X:Cx)(aj: ~~~1)(H:Hp)(b:Addr):Prop:=
 H b=none/\b≠X.env.locals/\b∉X.fs/\(b∈X.ex\/X.s₀⁻¹<=b)/\(∀x c,X.env.cells.lookup x=!c->c≠b)/\∀p∈X.pn++aj,p.1≠b
def Inv.yh{X:Cx}{aj: ~~~1}{J:St}{H H':Hp}{s:Shared}{b:Addr}(I: ~~~7)(hb:s⁻¹<=b)(hn:H' b=none):kO X aj H' b:=by
 apply#[hn,Nat.ne_of_gt (fN I.lt hb),I.nofs hb,.inr (kS I.sz hb),λx c e z=>?_,λp hp z=>?_]
 . let(v,q):=I.cell x c e;show absurd (fN q.lt (by rw[z];show hb)) (u8 _)
 . show absurd (fN (fA (I.pin p hp).1) (by rw[z];show hb)) (u8 _)
structure Turn(P:Program)(w:World)(K:Frag)(tg:Expr)(qqq:It)(fp:List Addr)(it:Addr)(tn:Nat->Heap->Prop):Prop where
 mem:it∈fp
 obj:∀i h,tn i h->∀b∈fp,∃o,h.get? b=!o/\∀v,o.data≠.cell v
 keep:∀i h h',tn i h->(∀b∈fp,∀o,h.get? b=!o->h'.get? b=!o)->tn i h'
 item:∀(X:Cx),X.prog=P->X.w=w->X.K=K->X.calm=true->∀(i:Nat) (aj: ~~~1) (s:Shared) (J:St) (H:Hp) (E:Value->Shared->Prop),Inv X aj J H s->(∀b∈fp,kO X aj H b)->tn i s.heap->qqq.go i H->
  wpAny (model P w) X.A (pyNext (.ref it)) (λr s1=>∃u,r=!u/\
   wpAny (model P w) X.A (letOwnedTupleGo tg (.ref it) u) (λ_ s2=>∃x H',Inv X aj J H' s2/\RelV x u/\qqq.Yu i H x H'/\tn (i+1) s2.heap/\∀b∈fp,H' b=none) E s1) E s
 done:∀(X:Cx),X.prog=P->X.w=w->X.K=K->X.calm=true->∀(i:Nat) (aj: ~~~1) (s:Shared) (J:St) (H:Hp) (E:Value->Shared->Prop),Inv X aj J H s->(∀b∈fp,kO X aj H b)->tn i s.heap->qqq.stop i H->
  wpAny (model P w) X.A (pyNext (.ref it)) (λr s1=>r=none/\Inv X aj J H s1) E s
 self:∀(A:Around) (i:Nat) (s:Shared) (Q:Value->Shared->Prop) (E:Value->Shared->Prop),tn i s.heap->Q (.ref it) s->wpAny (model P w) A (pyIter (.ref it)) Q E s
def TI:=St->Hp->(It->Hp->Prop)->Prop
abbrev PIE(X:Cx)(aj: ~~~1)(J:St)(tg:Expr)(R:It->Hp->Prop)(itv:Value)(s2:Shared):Prop:=
 ∃(it:Addr) (fp:List Addr) (tn:Nat->Heap->Prop) (qqq:It) (H':Hp),itv=.ref it/\Inv X aj J H' s2/\Turn X.prog X.w X.K tg qqq fp it tn/\tn 0 s2.heap/\(∀b∈fp,kO X aj H' b)/\R qqq H'
abbrev PI(X:Cx)(tg iter:Expr)(wi:TI):Prop:=
 ∀(aj: ~~~1) (s:Shared) (J:St) (H:Hp) (R:It->Hp->Prop),Inv X aj J H s->wi J H R->
  wpAny (~~~2) X.A (eval iter X.env) (λv s1=>wpAny (~~~2) X.A (pyIter v) (PIE X aj J tg R) X.xe s1) X.xe s
def zN(ho:s.heap.get? it=!o)(hc:o.cls=.type n)(hd:o.data=.fields vs)
  (hn:["enumerate", "zip", "dict_itemiterator", "dict_reverseitemiterator", "odict_iterator", "itertools.zip_longest", "itertools.pairwise"].contains n=false) (hQ:Q () s):wpAny M A (letOwnedTupleGo tg (.ref it) u) Q E s:=by
 cases tg <;> first
  |show dC hQ
  | (cases u <;> first
    |show dC hQ
    | (apply aS (wpAny_load ho ?_)
       rw[hc,hd];exact wpAny M A (if (["enumerate", "zip", "dict_itemiterator", "dict_reverseitemiterator", "odict_iterator", "itertools.zip_longest", "itertools.pairwise"].contains n&&vs[0]?==!(rawInt _))=true then _ else _) Q E s
       rw[eR (by intro h;rw[hn]at h;symm)]
       show dC hQ))
abbrev Itl(K:Frag)(a:Addr):It:=
 #[λi H=>∃xs x,dQ K H a xs/\xs[i]?=!x,λi H x H'=>H'=H/\∀xs,dQ K H a xs->xs[i]?=!x,λi H=>∃xs,dQ K H a xs/\xs.length<=i]
abbrev Itt(K:Frag)(a:Addr):It:=
 #[λi H=>∃xs x,iE K H a xs/\xs[i]?=!x,λi H x H'=>H'=H/\∀xs,iE K H a xs->xs[i]?=!x,λi H=>∃xs,iE K H a xs/\xs.length<=i]
abbrev Tt(lo:Int)(n:Nat):It:=#[λi _=>i<n,λi H x H'=>H'=H/\x=.int (lo+i),λi _=>n<=i]
def Cd{P:Program}{w:World}{K:Frag}{tg:Expr}(a it:Addr):Turn P w K tg (Itl K a) [it] it (λi h=>h.IsListIter it a i) where
 mem:=by simp
 obj:=λi h st b hb=>by
  have e:b=it:=by simpa using hb
  subst e;let(o,e,c,d):=st;show#[o,e,λv z=>by rw[d]at z;cases z]
 keep:=λi h h' st k=>st.at λo e=>k it ⋯ o e
 item:=by
  intro X hP hw hK hc i aj s J H E I hf st hg;subst hP hw hK;let(xs,x,hq,hx):=hg;let(its,rv,p,hz):=I.list hq;let(u,hu,ru):=rv.get hx;let(f0,f1,f2,f3,f4,f5):=hf it ⋯;apply wpAny_pyNext_list_item st p.isList (by simpa using hu) λh' st' sb=>?_
  have I1:=I.turned (t':=s.toks) (λb o hb e=>(sb.2 b hb).trans e) f0 f1 f3 f4 f5
  let(o,e,c,d):=id st';show#[u,rfl,zN e c d ⋯ #[x,H,I1,ru,#[rfl,λys hy=>by rw[I.FT hy hq];show hx],st',λb hb=>(hf b hb).1]]
 done:=by intro X hP hw hK hc i aj s J H E I hf st hg;subst hP hw hK;let(xs,hq,hx):=hg;let(its,rv,p,hz):=I.list hq;let(f0,f1,f2,f3,f4,f5):=hf it ⋯;have hl:=rv.length;show wpAny_pyNext_list_end (I.ok.hd hc) st p.isList (by simp;lia) λh' eb=>#[rfl,I.turned (λb o hb e=>eb b o hb e) f0 f1 f3 f4 f5]
 self:=λ_ _ _ _ _ st h=>wpAny_pyIter_listiter st h
def yi{P:Program}{w:World}{K:Frag}{tg:Expr}(a it:Addr):Turn P w K tg (Itt K a) [it] it (λi h=>h.IsTupleIter it a i) where
 mem:=by simp
 obj:=λi h st b hb=>by
  have e:b=it:=by simpa using hb
  subst e;let(o,e,c,d):=st;show#[o,e,λv z=>by rw[d]at z;cases z]
 keep:=λi h h' st k=>st.at λo e=>k it ⋯ o e
 item:=by
  intro X hP hw hK hc i aj s J H E I hf st hg;subst hP hw hK;let(xs,x,hq,hx):=hg;let(its,rv,p,hz):=I.tuple hq;let(u,hu,ru):=rv.get hx;let(f0,f1,f2,f3,f4,f5):=hf it ⋯;apply wpAny_pyNext_tuple_item st (show s.heap.IsTuple a its.toArray from p) (by simpa using hu) λh' st' sb=>?_
  have I1:=I.turned (t':=s.toks) (λb o hb e=>(sb.2 b hb).trans e) f0 f1 f3 f4 f5
  let(o,e,c,d):=id st';show#[u,rfl,zN e c d ⋯ #[x,H,I1,ru,#[rfl,λys hy=>by rw[I.qU hy hq];show hx],st',λb hb=>(hf b hb).1]]
 done:=by intro X hP hw hK hc i aj s J H E I hf st hg;subst hP hw hK;let(xs,hq,hx):=hg;let(its,rv,p,hz):=I.tuple hq;let(f0,f1,f2,f3,f4,f5):=hf it ⋯;have hl:=rv.length;show wpAny_pyNext_tuple_end (I.ok.hd hc) st (show s.heap.IsTuple a its.toArray from p) (by simp;lia) λh' eb=>#[rfl,I.turned (λb o hb e=>eb b o hb e) f0 f1 f3 f4 f5]
 self:=λ_ _ _ _ _ st h=>wpAny_pyIter_tupleiter st h
def yj{P:Program}{w:World}{K:Frag}{tg:Expr}(it:Addr)(lo:Int)(n:Nat):Turn P w K tg (Tt lo n) [it] it (λi h=>IsRangeIter h it (lo+(i:Nat) * 1) ((n:Int) - (i:Nat)) 1) where
 mem:=by simp
 obj:=λi h st b hb=>by
  have e:b=it:=by simpa using hb
  subst e;show#[_,st,λv z=>by
   have z':=z;cases z']
 keep:=λi h h' st k=>k it ⋯ _ st
 item:=by
  intro X hP hw hK hc i aj s J H E I hf st hg;subst hP hw hK;let(f0,f1,f2,f3,f4,f5):=hf it ⋯;have W:=Walks.range (prog:=X.prog) (w:=X.w) (I.ok.hd hc) it lo 1 n;apply W.item i s _ _ hg st λv h' tk hv st' kk=>?_
  let(t,rfl):=hv;have I1:Inv X aj J H { s with heap:=h',toks:=tk}:=I.turned (λb o hb e=>kk b o (by simpa using hb) e) f0 f1 f3 f4 f5
  apply#[_,rfl,zN st' rfl rfl ⋯ #[.int (lo+i),H,I1,#[t,?_],#[rfl,rfl],st',λb hb=>(hf b hb).1]]
  rw[Int.mul_one]
 done:=by intro X hP hw hK hc i aj s J H E I hf st hg;let(f0,f1,f2,f3,f4,f5):=hf it ⋯;show wpAny_pyNext_range_end (I.ok.hd hc) st (by have:n<=i:=hg;lia) λh' eb=>#[rfl,I.turned (λb o hb e=>eb b o hb e) f0 f1 f3 f4 f5]
 self:=λ_ _ _ _ _ st h=>wpAny_pyIter_rangeiter st h
section
variable{X:Cx}{tg:Expr}
abbrev Zh(K:Frag)(tl:TE):TI:=λJ H R=>tl J H λx H1=>∃a,x=.ref a/\(∃xs,dQ K H1 a xs)/\R (Itl K a) H1
abbrev iTup(K:Frag)(tl:TE):TI:=λJ H R=>tl J H λx H1=>∃a,x=.ref a/\(∃xs,iE K H1 a xs)/\R (Itt K a) H1
def zO{l:Expr}{tl:TE}(hl:PE X l tl):PI X tg l (Zh X.K tl):=by
 intro aj s J H R I h;apply cz (hl aj s J H _ I h) ?_;rintro v s1 ⟨x,H1,I1,r1,q1⟩;let(a,e,(xs,hq),q):=q1;subst e;cases r1;let(its,rv,p,hz):=I1.list hq;apply C9 p.isList ?_;apply#[s1⁻¹,[s1⁻¹],_,_,H1,rfl,I1.kept λb o e=>dE _ e,Cd a _,#[_,eM _ rfl,rfl,rfl],λb hb=>?_,q]
 have e:b=s1⁻¹:=by simpa using hb
 subst e;show I1.yh (d5 _) (I1.hok.fresh (d5 _))
def Gd{l:Expr}{tl:TE}(hl:PE X l tl):PI X tg l (iTup X.K tl):=by
 intro aj s J H R I h;apply cz (hl aj s J H _ I h) ?_;rintro v s1 ⟨x,H1,I1,r1,q1⟩;let(a,e,(xs,hq),q):=q1;subst e;cases r1;let(its,rv,p,hz):=I1.tuple hq;apply CS (show s1.heap.IsTuple a its.toArray from p) ?_
 apply#[s1⁻¹,[s1⁻¹],_,_,H1,rfl,I1.kept λb o e=>dE _ e,yi a _,#[_,eM _ rfl,rfl,rfl],λb hb=>?_,q]
 have e:b=s1⁻¹:=by simpa using hb
 subst e;show I1.yh (d5 _) (I1.hok.fresh (d5 _))
def uT{aj: ~~~1}{J:St}{H:Hp}{s:Shared}{R:It->Hp->Prop}{E:Value->Shared->Prop}{lo hi:Int}{t u v:Tok}{tk:Nat}(I: ~~~7)(h1 : -(2 ^ 62)<=lo)(h2:lo<2 ^ 62)(h3 : -(2 ^ 62)<=hi)(h4:hi<2 ^ 62)
  (q:R (Tt lo (hi - lo).toNat) H):wpAny (~~~2) X.A (pyIter (.ref s⁻¹)) (PIE X aj J tg R) E { s with heap:=s.heap.push { cls:=.type "range",data:=.fields ([.int lo t,.int hi u,.int 1 v].toArray)},toks:=tk}:=by
 apply wpAny_pyIter_range (IsRange.new ..) (small_one h1 h2 h3 h4) ?_;have I1:Inv X aj J H { s with heap:=s.heap.push { cls:=.type "range",data:=.fields ([.int lo t,.int hi u,.int 1 v].toArray)},toks:=tk}:=I.kept λb o e=>dE _ e
 apply#[(s.heap.push { cls:=.type "range",data:=.fields ([.int lo t,.int hi u,.int 1 v].toArray)}).objs.size,[(s.heap.push { cls:=.type "range",data:=.fields ([.int lo t,.int hi u,.int 1 v].toArray)}).objs.size],_,_,H,rfl,
  I1.kept λb o e=>dE _ e,yj _ lo (hi - lo).toNat,?_,λb hb=>?_,q]
 .
  have e1:lo+((0:Nat):Int) * 1=lo:=by simp
  have e2:(((hi - lo).toNat:Nat):Int) - ((0:Nat):Int)=Builtin.Range.rangeSize lo hi 1:=by rw[rangeSize_one];split <;> lia
  rw[e1,e2];show eM _ rfl
 .
  have e:b=(s.heap.push { cls:=.type "range",data:=.fields ([.int lo t,.int hi u,.int 1 v].toArray)}).objs.size:=by simpa using hb
  subst e;show I1.yh (d5 _) (I1.hok.fresh (d5 _))
abbrev Zi(ta:TA):TI:=λJ H R=>ta J H λvs H1=>∃j:Int,vs=[.int j]/\-(2 ^ 62)<=j/\j<2 ^ 62/\R (Tt 0 j.toNat) H1
abbrev Zj(ta:TA):TI:=λJ H R=>ta J H λvs H1=>∃i j:Int,vs=[.int i,.int j]/\(-(2 ^ 62)<=i/\i<2 ^ 62/\-(2 ^ 62)<=j/\j<2 ^ 62)/\R (Tt i (j - i).toNat) H1
def qV{a:Expr}{ta:TA}{p pos:Pos}(hg:Gl X "range")(hm:X.mg "range"=none)(ha:PA X [a] ta)(hs:starEach [a] X.env=[(false,eval a X.env)]:=by rfl):PI X tg (.Call (.Name "range" p) [a] [] pos) (Zi ta):=by
 intro aj s J H R I h;apply Call_ (fT I hg hm boot_range (sB (cz (ha pos aj s J H _ I h) ?_) hs rfl));rintro us s1 ⟨vs,H1,I1,r1,q1⟩;let(j,e,q1,q2,q):=q1;subst e;cases r1 with
 |cons r rr=>cases rr;let(t,rfl):=r;show call_range_1 (uT I1 ⋯ ⋯ q1 q2 (by simpa using q))
def Ce{a b:Expr}{ta:TA}{p pos:Pos}(hg:Gl X "range")(hm:X.mg "range"=none)(ha:PA X [a,b] ta)(hs:starEach [a,b] X.env=[(false,eval a X.env),(false,eval b X.env)]:=by rfl)(hs2:starEach [b] X.env=[(false,eval b X.env)]:=by rfl) :
  PI X tg (.Call (.Name "range" p) [a,b] [] pos) (Zj ta):=by
 intro aj s J H R I h;apply Call_ (fT I hg hm boot_range (sB (cz (ha pos aj s J H _ I h) λus s1 #[vs,H1,I1,r1,q1]=>?_) (by rw[hs,hs2]) (by rw[hs2];rfl)))
 let(i,j,e,(q1,q2,q3,q4),q):=q1;subst e;cases r1 with
 |cons r rr=>
  cases rr with
  |cons r' rr=>cases rr;let(t,rfl):=r;let(t',rfl):=r';show call_range_2 (uT I1 q1 q2 q3 q4 q)
abbrev tFor(wi:TI)(g:TG)(tb:TS):TS:=λD J H=>wi J H λqqq H1=>∃W:Nat->Nat->St->Hp->Prop,(∃m,W 0 m J H1)/\∀i m J H,W i m J H->
 (qqq.stop i H/\D.nx J H)\/(qqq.go i H/\∃N:St->Hp->Prop,(∀σ' H',N σ' H'->∃m',m'<m/\W (i+1) m' σ' H')/\∀x H',qqq.Yu i H x H'->g x J H' λσ2 H2=>tb { D with nx:=N,ct:=N,bk:=D.nx} σ2 H2)
abbrev kP(fp:List Addr)(h:Heap): ~~~1:=fp.filterMap λb=>(h.get? b).map λo=>(b,o)
def dh{fp:List Addr}{h:Heap}{b:Addr}{o:Obj}(hb:b∈fp)(e:h.get? b=!o):(b,o)∈kP fp h:=CU.mpr #[b,hb,by rw[e];rfl]
def Cg(hp:p∈kP fp h):p.1∈fp/\h.get? p.1=!p.2:=by
 let(b,hb,e):=CU.mp hp;cases q:h.get? b with
 |none=>rw[q]at e;cases e
 |some o=>rw[q]at e;have e':=oQ e;subst e';show#[hb,q]
def Inv.pinned{aj: ~~~1}{J:St}{H:Hp}{s:Shared}{fp:List Addr}(I: ~~~7)(hf:∀b∈fp,kO X aj H b)(ho:∀b∈fp,∃o,s.heap.get? b=!o/\∀v,o.data≠.cell v):Inv X (aj++kP fp s.heap) J H s:=
 I.zK λp hp=>(l9.mp hp).elim (λz=>I.pin p (gL _ z)) λz=>by
  let(hb,e):=Cg z;let(f0,f1,f2,_):=hf p.1 hb;let(o,e',d):=ho p.1 hb;rw[e]at e';cases e';show#[e,f0,f1,f2,d]
def Inv.iH{aj pl: ~~~1}{J:St}{H:Hp}{s:Shared}(I:Inv X (aj++pl) J H s):Inv X aj J H s:=I.zK λp hp=>I.pin p (gL _ (l7 _ hp))
def Ge{iter:Expr}{body:List Stmt}{wi:TI}{g:TG}{tb:TS}{pos:Pos}(hp:PassesOwn (~~~2) X.A X.env X.xe)(hc:X.calm=true)(hi:PI X tg iter wi)(hg:PG X tg g)(hb:uL X body tb)
  (hs:∀x,foldedSetIterable iter X.env x=pure x:=by intro _;rfl):PS X (.For tg iter body [] pos) (tFor wi g tb):=by
 intro aj s J H D I h;apply wpAny_For (cz (hi aj s J H _ I h) λv s1 h1=>cz h1 λitv s2 h2=>?_) hs
 let(it,fp,tn,qqq,H2,e,I2,T,aJ,f2,W,(m0,w0),turn):=h2;subst e;have stat:∀{H':Hp},(∀b∈fp,H' b=none)->∀b∈fp,kO X aj H' b:=λhn b hb=>#[hn b hb,(f2 b hb).2]
 apply codeAny_forLoop_any (λn s'=>∃i σ' H',Inv X aj σ' H' s'/\tn i s'.heap/\(∀b∈fp,H' b=none)/\W i n σ' H') ?_ m0 #[0,J,H2,I2,aJ,λb hb=>(f2 b hb).1,w0]
 rintro n s3 ⟨i,σ3,H3,I3,cH,Rm,w3⟩;rcases turn i n σ3 H3 w3 with ⟨stop,qn⟩ |⟨go,N,hN,step⟩
 . apply Bz hp (cz (T.done X rfl rfl rfl hc i aj s3 σ3 H3 X.xe I3 (stat Rm) cH stop) ?_);rintro r s4 ⟨hr,I4⟩;subst hr;show wpAny_execs_nil #[σ3,H3,I4,qn]
 .
  apply Bz hp (cz (T.item X rfl rfl rfl hc i aj s3 σ3 H3 X.xe I3 (stat Rm) cH go) ?_);rintro r s4 ⟨u,hr,h4⟩;subst hr;apply Bz hp (cz h4 ?_);rintro _ s5 ⟨x,H5,I5,r5,y5,jq,Zk⟩;have Zm:=I5.pinned (stat Zk) (T.obj _ _ jq);apply Bz hp (cz (hg _ s5 σ3 H5 x u _ Zm r5 (step x H5 y5)) ?_);rintro _ s6 ⟨σ6,H6,I6,q6⟩;apply Bz hp (cz (hb _ s6 σ6 H6 _ I6 q6) λf s7 q7=>?_)
  have again:∀{σ7:St}{H7:Hp},Inv X (aj++kP fp s5.heap) σ7 H7 s7->N σ7 H7->∃m,m<n/\∃i σ' H',Inv X aj σ' H' s7/\tn i s7.heap/\(∀b∈fp,H' b=none)/\W i m σ' H':=λ{σ7 H7} I7 n7=>by
   let(m',hm,w7):=hN σ7 H7 n7;apply#[m',hm,i+1,σ7,H7,I7.iH,T.keep _ _ _ jq λb hb o e=>(I7.pin (b,o) (gL _ (gL _ (dh hb e)))).1,λb hb=>?_,w7]
   let(o,e,d):=T.obj _ _ jq b hb;show (I7.pin (b,o) (gL _ (gL _ (dh hb e)))).2.1
  cases f with
  |next=>let(σ7,H7,I7,n7):=q7;show again I7 n7
  |cont=>let(σ7,H7,I7,n7):=q7;show again I7 n7
  |brk=>let(σ7,H7,I7,q7):=q7;show#[σ7,H7,I7.iH,q7]
  |ret v=>let(x7,σ7,H7,I7,r7,q7):=q7;show#[x7,σ7,H7,I7.iH,r7,q7]
end
def R2:=V->V->Hp->VK->Prop
abbrev jK(X:Cx)(f:Value->Value->Sem Value)(r:R2):Prop:=
 ∀(aj: ~~~1) (s:Shared) (J:St) (H:Hp) (x y:V) (v u:Value) (Q:VK),Inv X aj J H s->RelV x v->RelV y u->r x y H Q->
  wpAny (~~~2) X.A (f v u) (EP X aj J Q) X.xe s
abbrev fM(X:Cx)(f:Value)(r:List V->Hp->VK->Prop):Prop:=
 ∀(aj: ~~~1) (s:Shared) (J:St) (H:Hp) (xs:List V) (us:List Value) (Q:VK),Inv X aj J H s->Vals xs us->r xs H Q->
  wpAny (~~~2) X.A (call f us) (EP X aj J Q) X.xe s
abbrev TruR(X:Cx)(r:V->Hp->(Bool->Hp->Prop)->Prop):Prop:=
 ∀(aj: ~~~1) (s:Shared) (J:St) (H:Hp) (x:V) (v:Value) (Q:Bool->Hp->Prop),Inv X aj J H s->RelV x v->r x H Q->
  wpAny (~~~2) X.A (truthy v) (TP X aj J Q) X.xe s
abbrev tOp(r:R2)(ta tb:TE):TE:=λJ H Q=>ta J H λx H1=>tb J H1 λy H2=>r x y H2 Q
abbrev rI(C:Int->Int->Prop)(g:Int->Int->V):R2:=λx y H Q=>∃i j,x=.int i/\y=.int j/\C i j/\Q (g i j) H
abbrev Ft(g:Int->Int->V):R2:=λx y H Q=>∃i j,x=.int i/\y=.int j/\Q (g i j) H
section
variable{X:Cx}{a b c:Expr}{ta tb tc:TE}{pos:Pos}
def Tv(ha:PE X a ta)(hb:PE X b tb){aj: ~~~1}{s:Shared}{J:St}{H:Hp}{R:V->V->Hp->Prop}(I: ~~~7)
  (h:ta J H λx H1=>tb J H1 λy H2=>R x y H2) {Q:Value->Shared->Prop}{f:Value->Value->Sem Value}
  (hf:∀v u s2 x y H2,Inv X aj J H2 s2->RelV x v->RelV y u->R x y H2->wpAny (~~~2) X.A (f v u) Q X.xe s2) :
  wpAny (~~~2) X.A (eval a X.env) (λv s₁=>wpAny (~~~2) X.A (eval b X.env) (λu s₂=>wpAny (~~~2) X.A (f v u) Q X.xe s₂) X.xe s₁) X.xe s:=by
 apply cz (ha aj s J H _ I h) λv s1 #[x,H1,I1,r1,q1]=>?_
 apply cz (hb aj s1 J H1 _ I1 q1) λu s2 #[y,H2,I2,r2,q2]=>?_
 show hf v u s2 x y H2 I2 r1 r2 q2
def Zn{op:Operator}{r:R2}(ho:jK X (binaryOp op) r)(ha:PE X a ta)(hb:PE X b tb):PE X (.BinOp a op b pos) (tOp r ta tb):=by intro aj s J H Q I h;show wpAny_BinOp (Tv ha hb I h λv u s2 x y H2 I2 rx ry q=>ho aj s2 J H2 x y v u Q I2 rx ry q)
def Zo{f:Value->Value->Sem Value}{C:Int->Int->Prop}{g:Int->Int->Int}
  (rule:∀(i j:Int) (t u:Tok) (s:Shared) (Q:Value->Shared->Prop) (E:Value->Shared->Prop),C i j->Q (.int (g i j) s.toks) { s with toks:=s.toks+1}->wpAny (~~~2) X.A (f (.int i t) (.int j u)) Q E s) :
  jK X f (rI C λi j=>.int (g i j)):=by
 intro aj s J H x y v u Q I rx ry h;let(i,j,rfl,rfl,hc,q):=h;let(t,rfl):=rx;let(t',rfl):=ry;show rule i j t t' s _ _ hc #[.int (g i j),H,I.tok _,#[_,rfl],q]
def L5{f:Value->Value->Sem Value}{g:Int->Int->Int}
  (rule:∀(i j:Int) (t u:Tok) (s:Shared) (Q:Value->Shared->Prop) (E:Value->Shared->Prop),Q (.int (g i j) s.toks) { s with toks:=s.toks+1}->wpAny (~~~2) X.A (f (.int i t) (.int j u)) Q E s) :
  jK X f (Ft λi j=>.int (g i j)):=by
 intro aj s J H x y v u Q I rx ry h;let(i,j,rfl,rfl,q):=h;let(t,rfl):=rx;let(t',rfl):=ry;show rule i j t t' s _ _ #[.int (g i j),H,I.tok _,#[_,rfl],q]
def L7{f:Value->Value->Sem Value}{g:Int->Int->Bool}
  (rule:∀(i j:Int) (t u:Tok) (s:Shared) (Q:Value->Shared->Prop) (E:Value->Shared->Prop),Q (.bool (g i j)) s->wpAny (~~~2) X.A (f (.int i t) (.int j u)) Q E s) :
  jK X f (Ft λi j=>.bl (g i j)):=by
 intro aj s J H x y v u Q I rx ry h;let(i,j,rfl,rfl,q):=h;let(t,rfl):=rx;let(t',rfl):=ry;show rule i j t t' s _ _ #[.bl (g i j),H,I,rfl,q]
abbrev CPow(i j:Int):Prop:=0<=j/\j<=1000000/\i.natAbs<2 ^ 64
abbrev L8(i j:Int):Prop:=(-(2 ^ 64)<i/\i<2 ^ 64)\/(-(2 ^ 64)<j/\j<2 ^ 64)
def L8.ok{i j:Int}(h:L8 i j):IntMulOk i j:=by
 rcases h with ⟨h1,h2⟩ |⟨h1,h2⟩
 . show .of_left (intBits_le_64 h1 h2)
 . show .of_right (intBits_le_64 h1 h2)
def Tw:jK X (binaryOp .Add) (Ft λi j=>.int (i+j)):=L5 λ_ _ _ _ _ _ _ q=>add_int q
def Tz:jK X (binaryOp .Sub) (Ft λi j=>.int (i - j)):=L5 λ_ _ _ _ _ _ _ q=>sub_int q
def TF:jK X (binaryOp .Mult) (rI L8 λi j=>.int (i * j)):=Zo λ_ _ _ _ _ _ _ hc q=>mul_int q hc.ok
def TJ:jK X (binaryOp .Mod) (rI (λ_ j=>0<j) λi j=>.int (i % j)):=Zo λi j _ _ _ _ _ hc q=>by
 show mod_int' ⋯ (by rw[Int.fmod_eq_emod_of_nonneg i ⋯];show q)
def sS:jK X (binaryOp .Pow) (rI CPow λi j=>.int (i ^ j.toNat)):=Zo λ_ _ _ _ _ _ _ hc q=>pow_int_small hc.1 hc.2.1 hc.2.2 q
def Ma:jK X (inplaceOp .Add) (Ft λi j=>.int (i+j)):=L5 λ_ _ _ _ _ _ _ q=>iadd_int q
def Mf:jK X (inplaceOp .Sub) (Ft λi j=>.int (i - j)):=L5 λ_ _ _ _ _ _ _ q=>isub_int q
def Mi:jK X (inplaceOp .Mult) (rI L8 λi j=>.int (i * j)):=Zo λ_ _ _ _ _ _ _ hc q=>imul_int q hc.ok
end
section
variable{X:Cx}{a b c:Expr}{ta tb tc:TE}{pos:Pos}
def TL(I: ~~~7)(q:Q (.bl k) H)(e:k=k'):EP X aj J Q (.bool k') s:=by subst e;show#[.bl k,H,I,rfl,q]
def Zq:jK X (compareOp .Lt) (Ft λi j=>.bl (decide (i<j))):=L7 λ_ _ _ _ _ _ _ q=>lt_int q
def Zr:jK X (compareOp .LtE) (Ft λi j=>.bl (decide (i<=j))):=L7 λ_ _ _ _ _ _ _ q=>le_int q
def Zt:jK X (compareOp .Gt) (Ft λi j=>.bl (decide (j<i))):=L7 λ_ _ _ _ _ _ _ q=>gt_int q
def Zu:jK X (compareOp .GtE) (Ft λi j=>.bl (decide (j<=i))):=L7 λ_ _ _ _ _ _ _ q=>ge_int q
def TQ:jK X (compareOp .Is) (λx y H Q=>y=.non/\Q (.bl (decide (x=.non))) H):=by
 intro aj s J H x y v u Q I rx ry h;let(rfl,q):=h;cases ry;apply is_none_gen (TL I q ?_);cases x <;> first
  | (cases rx;rfl)
  | (let(t,rfl):=rx;rfl)
def Mj{op:CmpOp}{r:R2}(ho:jK X (compareOp op) r)(ha:PE X a ta)(hb:PE X b tb)(hm:behindInMarks op b=false):PE X (.Compare a [op] [b] pos) (tOp r ta tb):=by intro aj s J H Q I h;show wpAny_Compare1 (Tv ha hb I h λv u s2 x y H2 I2 rx ry q=>ho aj s2 J H2 x y v u Q I2 rx ry q) hm
abbrev Zv(t:TE):TT:=λJ H Q=>t J H λx H'=>∃k,x=.bl k/\Q k H'
def Mk{op:CmpOp}{r:R2}(ho:jK X (compareOp op) r)(ha:PE X a ta)(hb:PE X b tb)(hm:behindInMarks op b=false):PT X (.Compare a [op] [b] pos) (Zv (tOp r ta tb)):=by
 intro aj s J H Q I h;apply wpAny_isTrue_Compare1 (cz (ha aj s J H _ I h) λv s1 #[x,H1,I1,r1,q1]=>cz (hb aj s1 J H1 _ I1 q1) λu s2 #[y,H2,I2,r2,q2]=>
  cz (ho aj s2 J H2 x y v u _ I2 r1 r2 q2) λc s3 #[z,H3,I3,r3,k,e,q3]=>?_) hm
 subst e;cases r3;show tI #[H3,I3,q3]
abbrev Zw(K:Frag)(x:V)(H:Hp)(k:Bool):Prop:=
 match x with
 |.non=>k=false
 |.bl b=>k=b
 |.int i=>k=(i != 0)
 |.str y=>y.length<=sizeLine/\k=((y.length:Int) != 0)
 |.Rj y=>y.size<=sizeLine/\k=((y.size:Int) != 0)
 |.ref p=>(∃xs,dQ K H p xs/\k=(not xs.isEmpty))\/(∃xs,iE K H p xs/\k=(not xs.isEmpty))\/∃lY,H p=!(.dK lY)/\k=(not lY.isEmpty)
 |_=>False
def ym{κ:Type}{lY:List (κ×V)}{vs:List (κ×Value)}(r:KV lY vs):((not vs.isEmpty))=(not lY.isEmpty):=by cases r <;> rfl
def nW{xs:List V}{its:List Value}(r:Vals xs its):((not its.toArray.isEmpty))=(not xs.isEmpty):=by cases r <;> simp
def yp:(sizeLine:Nat)<2 ^ 63:=by rw[t8];decide
def TV:TruR X (λx H Q=>∃k,Zw X.K x H k/\Q k H):=by
 intro aj s J H x v Q I rx h;let(k,e,q):=h;have hs:=t8;cases x with
 |non=>cases rx;have e':=e;subst e';show truthy_none #[H,I,q]
 |bl b=>cases rx;have e':=e;subst e';show tI #[H,I,q]
 |int i=>let(t,rfl):=rx;have e':=e;subst e';show PySem.P.truthy_int #[H,I,q]
 |str y=>let(t,rfl):=rx;obtain⟨hy,e'⟩:y.length<=sizeLine/\k=((y.length:Int) != 0):=e;subst e';show PySem.P.truthy_str ⋯ #[H,I.tok _,q]
 |Rj y=>let(t,rfl):=rx;obtain⟨hy,e'⟩:y.size<=sizeLine/\k=((y.size:Int) != 0):=e;subst e';show PySem.W.truthy_bytes ⋯ #[H,I.tok _,q]
 |ref p=>
  cases rx;have e':=e;rcases e' with ⟨xs,hx,e'⟩ |⟨xs,hx,e'⟩ |⟨lY,hx,e'⟩
  . subst e';let(its,r,pl,hz):=I.list hx;have aN:=r.length;show wpAny_truthy_list pl.isList (by simp only[d6];lia) #[H,I.tok _,by rw[nW r];show q]
  . subst e';let(its,r,pl,hz):=I.tuple hx;have aN:=r.length;show truthy_tuple pl (by simp only[d6];lia) #[H,I.tok _,by rw[nW r];show q]
  . subst e';obtain⟨hz,hS,vs,r,m⟩:lY.length<=sizeLine/\(p==sysModules)=false/\∃vs,KV lY vs/\s.heap.DictOf (sM X.prog X.w) p vs:=I.hok p _ hx;have aN:=Paired.length r;show wpAny_truthy_dict hS m ⋯ #[H,I.tok _,by rw[ym r];show q]
 |_=>show (show False from e).elim
def Gf(ha:PE X a ta)(he:∀whole,isTrue a X.env whole=(do let v <- whole;standAt a.pos;holding [v] (truthy v))) :
  PT X a (λJ H Q=>ta J H λx H'=>∃k,Zw X.K x H' k/\Q k H'):=by
 intro aj s J H Q I h;show isTrue_plain (cz (ha aj s J H _ I h) (by rintro v s1 ⟨x,H1,I1,r1,q1⟩;show TV aj s1 J H1 x v Q I1 r1 q1)) (he _)
def vals1(r:Vals [x] us):∃u,us=[u]/\RelV x u:=by
 cases r with
 |cons r1 r2=>cases r2;show#[_,rfl,r1]
def vals2(r:Vals [x,y] us):∃u w',us=[u,w']/\RelV x u/\RelV y w':=by
 cases r with
 |cons r1 r2=>
  cases r2 with
  |cons r3 r4=>cases r4;show#[_,_,rfl,r1,r3]
def Ci(hc:X.calm=true):fM X (.builtin "max") (λxs H Q=>∃i j,xs=[.int i,.int j]/\Q (.int (if j > i then j else i)) H):=by
 intro aj s J H xs us Q I r h;let(i,j,rfl,q):=h;let(u,w',rfl,(t,rfl),(t',rfl)):=vals2 r;apply max_two_ints (I.ok.hd hc) λh' tk k=>#[_,H,I.kept k,?_,q]
 by_cases hj:j > i
 . rw[fR hj,fR hj];show#[_,rfl]
 . rw[eR hj,eR hj];show#[_,rfl]
def Cj(hc:X.calm=true):fM X (.builtin "min") (λxs H Q=>∃i j,xs=[.int i,.int j]/\Q (.int (if j<i then j else i)) H):=by
 intro aj s J H xs us Q I r h;let(i,j,rfl,q):=h;let(u,w',rfl,(t,rfl),(t',rfl)):=vals2 r;apply min_two_ints (I.ok.hd hc) λh' tk k=>#[_,H,I.kept k,?_,q]
 by_cases hj:j<i
 . rw[fR hj,fR hj];show#[_,rfl]
 . rw[eR hj,eR hj];show#[_,rfl]
abbrev LenV(K:Frag)(x:V)(H:Hp)(n:Nat):Prop:=
 match x with
 |.str y=>y.length<=sizeLine/\n=y.length
 |.Rj y=>y.size<=sizeLine/\n=y.size
 |.ref p=>(∃xs,dQ K H p xs/\n=xs.length)\/∃xs,iE K H p xs/\n=xs.length
 |_=>False
def Gg:fM X (.builtin "len") (λxs H Q=>∃x n,xs=[x]/\LenV X.K x H n/\Q (.int n) H):=by
 intro aj s J H xs us Q I r h;let(x,n,rfl,e,q):=h;let(u,rfl,rx):=vals1 r;have hs:=t8;cases x with
 |str y=>let(t,rfl):=rx;obtain⟨hy,e'⟩:y.length<=sizeLine/\n=y.length:=e;subst e';show len_str ⋯ #[.int _,H,I.tok _,#[_,rfl],q]
 |Rj y=>let(t,rfl):=rx;obtain⟨hy,e'⟩:y.size<=sizeLine/\n=y.size:=e;subst e';show PySem.W.len_bytes ⋯ #[.int _,H,I.tok _,#[_,rfl],q]
 |ref p=>
  cases rx;have e':=e;rcases e' with ⟨xs,hx,e'⟩ |⟨xs,hx,e'⟩
  . subst e';let(its,r',pl,hz):=I.list hx;have aN:=r'.length;show Calls.call_len_list pl.isList (by simp only[d6];lia) #[.int xs.length,H,I.tok _,#[_,by simp only[d6];rw[aN]],q]
  . subst e';let(its,r',pl,hz):=I.tuple hx;have aN:=r'.length;show len_tuple pl (by simp only[d6];lia) #[.int xs.length,H,I.tok _,#[_,by simp only[d6];rw[aN]],q]
 |_=>show (show False from e).elim
end
structure gQ(k:Nat)(A:Around):Prop where
 hd:A.handled=none
 dp:A.depth+3 * k+5<recursionLimit
 un:A.units+16 * k+200<cLine
def gQ.deeper(r:gQ (k+1) A)(env:Env):gQ k (A.deeper env):=
 #[r.hd,by have:=r.dp;exact A.depth+1+3 * k+5<_;lia,by have:=r.un;exact A.units+3+16 * k+200<_;lia]
def gQ.depth(r:gQ k A):A.depth<recursionLimit:=by have:=r.dp;lia
def gQ.units(r:gQ k A):A.units+64<cLine:=by have:=r.un;lia
abbrev tNil:TA:=λ_ H Q=>Q [] H
abbrev Zx(ta:TE)(tr:TA):TA:=λJ H Q=>ta J H λx H1=>tr J H1 λxs H2=>Q (x::xs) H2
section
variable{X:Cx}{e:Expr}{es:List Expr}{te:TE}{t:TA}{pos:Pos}
def kQ:PA X [] tNil:=λ_ _ _ _ H Q I h=>Calls.spliced_nil #[[],H,I,.nil,h]
def gR(ha:PE X e te)(hr:PA X es t)(hs:starEach (e::es) X.env=(false,eval e X.env)::starEach es X.env:=by rfl):PA X (e::es) (Zx te t):=by intro pos aj s J H Q I h;rw[hs];apply Calls.spliced_cons (cz (ha aj s J H _ I h) ?_);rintro u s1 ⟨x,H1,I1,r1,q1⟩;show cz (hr pos aj s1 J H1 _ I1 q1) (by rintro us s2 ⟨xs,H2,I2,r2,q2⟩;show#[x::xs,H2,I2,.cons r1 r2,q2])
abbrev tTup(t:TA):TE:=λJ H Q=>t J H λxs H1=>xs.length<=sizeLine/\∀p,H1 p=none->Q (.ref p) (upd H1 p (.tup xs))
abbrev tLst(t:TA):TE:=λJ H Q=>t J H λxs H1=>xs.length<=sizeLine/\∀p,H1 p=none->Q (.ref p) (upd H1 p (.lst xs))
def TX{x1}(h:PA X es t):PE X (.Tuple es x1 pos) (tTup t):=by
 intro aj s J H Q I hq;apply wpAny_Tuple_spliced (cz (h pos aj s J H _ I hq) λus s1 #[xs,H1,I1,r,z,q]=>#[by rw[<- r.length];show z,?_])
 have hf:=I1.hok.fresh (d5 _);apply#[.ref s1⁻¹,upd H1 s1⁻¹ (.tup xs),I1.laid (λb u e=>dE _ e) (d5 _) ?_,rfl,q _ hf]
 show#[z,us,r,#[_,eM _ rfl,#[rfl,_,rfl],rfl]]
def Gh(h:PA X es t):PE X (.List es pos) (tLst t):=by
 intro aj s J H Q I hq;apply wpAny_List_spliced (cz (h pos aj s J H _ I hq) λus s1 #[xs,H1,I1,r,z,q]=>#[by rw[<- r.length];show z,?_])
 have hf:=I1.hok.fresh (d5 _);apply#[.ref s1⁻¹,upd H1 s1⁻¹ (.lst xs),I1.laid (λb u e=>dE _ e) (d5 _) ?_,rfl,q _ hf]
 show#[z,us,0,r,eM _ rfl]
end
def Sp:=List V->Hp->VK->XK->Prop
def Gi:=List Env->Hp->Shared->XK->Value->Shared->Prop
structure Ml(P:Program)(w:World)(K:Frag)(mg:Str->Option Value)(base:Heap)(A:Around)(outer:List Env)(s:Shared)(H:Hp):Prop where
 frames:A.frames=!outer
 mod:Mod K mg base
 bs:∀b o,base.get? b=!o->s.heap.get? b=!o/\H b=none
 LC:base.objs.size<=s⁻¹
 mY:s.heap.FunFrames base outer
 S7:∀b∈frs outer,H b=none
 hok:nU P w H s.heap
 bare:AllBare s.gens
abbrev CE(outer:List Env)(P:Program)(w:World)(H:Hp)(s:Shared)(Q:VK)(u:Value)(s':Shared):Prop:=
 ∃v H',s'.os=s.os/\AllBare s'.gens/\Un (frs outer) [] H H' s.heap s'.heap/\nU P w H' s'.heap/\RelV v u/\Q v H'
abbrev CR(CX:Gi)(outer:List Env)(P:Program)(w:World)(H:Hp)(s:Shared)(Q:VK)(E:XK)(r:Result)(s':Shared):Prop:=
 match r with
 |.ok (.ret u)=>CE outer P w H s Q u s'
 |.ok _=>False
 |.error e=>CX outer H s E e s'
structure qF(P:Program)(w:World)(K:Frag)(mg:Str->Option Value)(base:Heap)(CX:Gi)(k:Nat)(f:Addr)(fd:FuncData)(ps:List Str)(sp:Sp):Prop where
 len:∀vs H Q E,sp vs H Q E->vs.length=ps.length
 run:∀(A:Around) (outer:List Env) (s:Shared) (H:Hp) (args:Args) (us:List Value) (vs:List V) (Q:VK) (E:XK),gQ k A->Ml P w K mg base A outer s H->BindsTo s fd args (ps.zip us)->Vals vs us->sp vs H Q E->
  codeAny (model P w) A (.call (.ref f) args) (CR CX outer P w H s Q E) s
section
variable{X:Cx}{aj: ~~~1}{J:St}{H:Hp}{s s':Shared}
def Inv.env0(I: ~~~7):Ml X.prog X.w X.K X.mg X.base X.A X.stack s H:=
 #[I.ok.frames,I.ok.mod,I.bs,kS I.ok.LC I.sz,I.stack,I.zJ,I.hok,I.bare]
def Inv.after(I: ~~~7)(h:CE X.stack X.prog X.w H s Q u s'):EP X aj J Q u s':=by let(v,H',os,bare,un,hok,r,q):=h;let(hh,g,d,t,os'):=s';obtain rfl:os'=s.os:=os;show#[v,H',I.call un hok bare (λb z=>absurd z ⋯),r,q]
end
abbrev Zy(sp:Sp)(Cp:List V)(E:XK)(t:TA):TE:=λJ H Q=>t J H λvs H1=>sp (vs++Cp) H1 Q E
abbrev Binds(K:Frag)(fd:FuncData)(ps:List Str)(ds:List Value):Prop:=
 ∀(s:Shared) (us:List Value),K.In s.heap->(us++ds).length=ps.length->BindsTo s fd #[us,[]] (ps.zip (us++ds))
def Binds.all{K:Frag}{fd:FuncData}{ps:List Str}(h:∀us:List Value,us.length=ps.length->bindArgs fd #[us,[]]=pure (ps.zip us)):Binds K fd ps []:=λs us _ hl=>by
 rw[oT]at hl ⊢
 show .of_eq (h us hl)
abbrev Passes(CX:Gi)(X:Cx)(E:XK):Prop:=∀(aj: ~~~1) (J:St) (H:Hp) (s:Shared) (e:Value) (s':Shared),Inv X aj J H s->CX X.stack H s E e s'->X.xe e s'
section
variable{X:Cx}{CX:Gi}{k:Nat}{f C:Addr}{fd:FuncData}{ps:List Str}{sp:Sp}{Cp:List V}{ds:List Value}{E:XK}{x m:Str}{p pos jI:Pos}{e o:Expr}{es:List Expr}{ta:TE}{t:TA}
def TY{aj: ~~~1}{J:St}{H:Hp}{s:Shared}{Q:VK}{us:List Value}{vs:List V}(F:qF X.prog X.w X.K X.mg X.base CX k f fd ps sp)(hr:gQ k X.A)(hb:Binds X.K fd ps ds)(hd:Vals Cp ds)(hx:Passes CX X E)
  (I: ~~~7) (r:Vals vs us) (h:sp (vs++Cp) H Q E):wpAny (~~~2) X.A (call (.ref f) us) (EP X aj J Q) X.xe s:=by
 have r2:=r.append hd;have hl:(us++ds).length=ps.length:=by rw[<- r2.length];show F.len _ _ _ _ h
 apply wpAny_call (codeAny_mono (F.run X.A X.stack s H #[us,[]] (us++ds) (vs++Cp) Q E hr I.env0 (hb s us I.uO hl) r2 h) λr s' hq=>?_)
 cases r with
 |error e=>show hx aj J H s e s' I hq
 |ok fl=>
  cases fl with
  |ret u=>show I.after hq
  |next=>show False.elim hq
  |brk=>show False.elim hq
  |cont=>show False.elim hq
def Mm(F:qF X.prog X.w X.K X.mg X.base CX k f fd ps sp)(hr:gQ k X.A)(hg:Gl X x)(hm:X.mg x=!(.ref f))(hk:PySem.W.keepIn X.K (.ref f)=true)(hb:Binds X.K fd ps ds)(hd:Vals Cp ds)(hx:Passes CX X E)
  (ha:PA X (e::es) t) (BW:(x==(~~~3))=false:=by decide) (he:starEach (e::es) X.env=(false,eval e X.env)::starEach es X.env:=by rfl) (iY:(backTo pos (starEach es X.env)).any (·.1)=false:=by rfl) :
  PE X (.Call (.Name x p) (e::es) [] pos) (Zy sp Cp E t):=by
 intro aj s J H Q I h;apply wpAny_Call_Name_kw (zL I hg hm ?_ BW);apply PySem.W.callWith_K I.ok.mod.kin hk (cz (ha pos aj s J H _ I h) λus s1 #[vs,H1,I1,r,q]=>#[I1.uO,?_]) he iY
 show TY F hr hb hd hx I1 r q
end
structure fO(N P:List Str)(sc:Scope):Prop where
 kind:sc.kind=.function
 co:sc.isCoroutine=false
 gen:sc.isGenerator=false
 nd:N.Nodup
 pre:N.take P.length=P
 par:∀x∈P,sc.names.lookup x=some .local\/sc.names.lookup x=some .cell
 T3:∀y∈sc.names,y.2≠.free
def qW{kindOf:Str->Option NameKind}{x:Str}:∀{binds:List (Str×Value)}{m:Str->Option Value},(∀v,(x,v)∉binds)->bindL kindOf binds m x=m x
 | [],_,_=>rfl
 | (n,v)::r,m,h=>by
  delta bindL;rw[qW λw hw=>h w (b0 _ hw)]
  split
  .
   have:x≠n:=by rintro rfl;show h v dA
   simp[this]
  . rfl
def qX{kindOf:Str->Option NameKind}{x:Str}:∀{binds:List (Str×Value)}{m:Str->Option Value},(∀v,(x,v)∉binds)->bindC kindOf binds m x=m x
 | [],_,_=>rfl
 | (n,v)::r,m,h=>by
  delta bindC;rw[qX λw hw=>h w (b0 _ hw)]
  split
  . rfl
  .
   have:x≠n:=by rintro rfl;show h v dA
   simp[this]
def qY{kindOf:Str->Option NameKind}{x:Str}{v:Value}:∀{P:List Str}{vs:List Value}{i:Nat}{m:Str->Option Value},P.Nodup->P[i]?=!x->vs[i]?=!v->kindOf x=some .local->
  bindL kindOf (P.zip vs) m x=!v
 | [],_,_,_,_,h,_,_=>by simp at h
 |_::_,[],_,_,_,_,h,_=>by simp at h
 |p::P,w::vs,0,m,nd,h1,h2,hk=>by
  simp at h1 h2;subst h1;subst h2;exact bindL kindOf ((p,w)::P.zip vs) m p=_;delta bindL;rw[qW λv hv=>(i7.mp nd).1 (List.of_mem_zip hv).1,fR hk]
  simp
 |p::P,w::vs,i+1,m,nd,h1,h2,hk=>by
  delta bindL;show qY (i7.mp nd).2 (by simpa using h1) (by simpa using h2) hk
def qZ{kindOf:Str->Option NameKind}{x:Str}{v:Value}:∀{P:List Str}{vs:List Value}{i:Nat}{m:Str->Option Value},P.Nodup->P[i]?=!x->vs[i]?=!v->kindOf x≠some .local->
  bindC kindOf (P.zip vs) m x=!v
 | [],_,_,_,_,h,_,_=>by simp at h
 |_::_,[],_,_,_,_,h,_=>by simp at h
 |p::P,w::vs,0,m,nd,h1,h2,hk=>by
  simp at h1 h2;subst h1;subst h2;exact bindC kindOf ((p,w)::P.zip vs) m p=_;delta bindC;rw[qX λv hv=>(i7.mp nd).1 (List.of_mem_zip hv).1,eR hk]
  simp
 |p::P,w::vs,i+1,m,nd,h1,h2,hk=>by
  delta bindC;show qZ (i7.mp nd).2 (by simpa using h1) (by simpa using h2) hk
abbrev start(N:List Str)(vs:List V):St:=vs.map some++List.replicate (N.length - vs.length) none
abbrev uU(CX:Gi)(P:Program)(w:World)(K:Frag)(mg:Str->Option Value)(base:Heap)(N:List Str)(qual:Str)(scope:Scope)(f:Addr)(cd:Value)(A:Around)(outer:List Env)(s:Shared)(H:Hp)(E:XK):Cx where
 prog:=P
 w:=w
 K:=K
 mg:=mg
 base:=base
 A:=A.deeper (envOfC qual scope s⁻¹ f cd)
 N:=N
 s₀:=s
 H₀:=H
 env:=envOfC qual scope s⁻¹ f cd
 outer:=outer
 stack:=envOfC qual scope s⁻¹ f cd::outer
 ex:=[]
 calm:=true
 fn:=λ_=>true
 pn:=[]
 xe:=λe s'=>wpAny (model P w) (A.deeper (envOfC qual scope s⁻¹ f cd)) (leaving (envOfC qual scope s⁻¹ f cd) e) (λ_ s''=>CX outer H s E e s'') (λe' s''=>CX outer H s E e' s'') s'
def uV{sc:Scope}{n:Nat}{x:Str}(h:sc.names.lookup x=some .cell):∃c,(cellsFrom n sc.names []).lookup x=!c:=by have q:=PySem.W.cellsFrom_some sc.names n [] (.inl h);show Option.isSome_iff_exists.mp q
def Cq{CX:Gi}{P:Program}{w:World}{K:Frag}{mg:Str->Option Value}{base:Heap}{N ps:List Str}{qual:Str}{scope:Scope}{f:Addr}{cd:Value}{A:Around}{outer:List Env}{s s1:Shared}{H:Hp}{E:XK}{us:List Value}{vs:List V}
  (S:fO N ps scope) (hd:A.handled=none) (e0:Ml P w K mg base A outer s H) (hl:vs.length=ps.length) (r:Vals vs us)
  (x:InCallC s s⁻¹ (bindL (envOfC qual scope s⁻¹ f cd).kindOf (ps.zip us) λ_=>none) (cellsFrom (s⁻¹+1) scope.names []) (bindC (envOfC qual scope s⁻¹ f cd).kindOf (ps.zip us) λ_=>none) s1) :
  Inv (uU CX P w K mg base N qual scope f cd A outer s H E) [] (start N vs) H s1:=by
 have iY:ps.length<=N.length:=by have:=congrArg List.length S.pre;rw[i8]at this;lia
 let(h1,tk,rfl,hk):=x.done;have Zz:∀b:Addr,b∉(uU CX P w K mg base N qual scope f cd A outer s H E).ex:=λb z=>absurd (show b∈([]:List Addr)from z) ⋯
 apply#[#[e0.mod,S.kind,rfl,rfl,d5 _,λy z c h1 h2=>?_,λy hy=>?_,λy c _ h=>?_,λ_=>hd,Around.frames_deeper e0.frames,.inr #[rfl,rfl],λb z=>absurd z (Zz b),e0.bs,e0.LC,λb _ _=>Zz b,λb z=>absurd z (Zz b),e0.mY,e0.S7],
  rfl,e0.bare,Un.kept hk,#[_,x.toInCall.ns,λi y v h1 h2 h3=>?_],λy c h=>#[_,x.cell y c h],e0.hok.fresh (d5 _),λy c h=>?_,λp hp=>absurd (show p∈([]: ~~~1)from hp) ⋯,e0.hok.kept hk,?_]
 . show name_of_addr x.apart (BH h1) (BH h2)
 .
  have hy:=hy;rcases hy with hy |hy
  . show uV hy
  . show absurd rfl (S.T3 _ (BH hy))
 . show AY (x.above y c (BH h))
 .
  have hi:i<vs.length:=by
   delta start at h2;by_cases hi:i<vs.length
   . show hi
   .
    rw[b6 (by simpa using hi)]at h2
    rw[List.getElem?_replicate]at h2;split at h2 <;> cases h2
  have ha:vs[i]?=!v:=by
   delta start at h2;rw[b8 (by simpa using hi),mM]at h2
   cases e:vs[i]? with
   |none=>rw[e]at h2;cases h2
   |some a=>rw[e]at h2;cases h2;rfl
  let(u,hu,rv):=r.get ha;have hp:ps[i]?=!y:=by rw[<- S.pre,x4 ⋯];show h1
  have ZC:ps.Nodup:=by rw[<- S.pre];show S.nd.sublist (List.take_sublist _ _)
  apply#[u,rv,?_];rcases S.par y (lL hp)with k |k
  . show .inl #[k,qY ZC hp hu k]
  .
   let(c,e):=uV k;apply .inr #[.inl k,c,e,?_];have q:=x.cell y c e;rw[qZ ZC hp hu (by exact scope.names.lookup y≠_;rw[k];decide)]at q
   show q
 . show e0.hok.fresh (AY (x.above y c (BH h)))
 . delta start;exact _=N.length;rw[dS,eA,nE];lia
def ZD{CX:Gi}{P:Program}{w:World}{K:Frag}{mg:Str->Option Value}{base:Heap}{k:Nat}{f:Addr}{name qual:Str}{params:Arguments}{body:List Stmt}{scope:Scope}{dV kV doc pm fS ct oc:Value}{an od:Option Addr}
  {osl:Array (Option Value)}{N ps:List Str}{sp:Sp} (lk:K.lookup f=!#[oc,od,.func (PySem.W.fnOf name qual params body scope dV kV doc pm an fS ct),osl]) (fK:PySem.W.codeIn K fS qual=true) (S:fO N ps scope)
  (len:∀vs H Q E,sp vs H Q E->vs.length=ps.length)
  (hbody:∀(A:Around) (outer:List Env) (s:Shared) (H:Hp) (vs:List V) (Q:VK) (E:XK),gQ k (A.deeper (envOfC qual scope s⁻¹ f fS))->sp vs H Q E->
   ∃t,uL (uU CX P w K mg base N qual scope f fS A outer s H E) body t/\t { nx:=λ_ H'=>Q .non H',rt:=Q} (start N vs) H) :
  qF P w K mg base CX (k+1) f (PySem.W.fnOf name qual params body scope dV kV doc pm an fS ct) ps sp:=by
 apply#[len,λA outer s H args us vs Q E hr e0 hb r Yv=>?_]
 have hl:=len _ _ _ _ Yv;have KX:=e0.mod.kin.keeps λb o e=>(e0.bs b o e).1
 have lim:=e0.mod.nolimit.keeps λb o e=>(e0.bs b o e).1
 have hkind:∀y∈ps.zip us,scope.names.lookup y.1=some .local\/(scope.names.lookup y.1=some .cell/\((cellsFrom (s⁻¹+1) scope.names []).lookup y.1).isSome=true):=by
  rintro⟨n,v⟩ hy;rcases S.par n (List.of_mem_zip hy).1 with q |q
  . show .inl q
  . show .inr #[q,PySem.W.cellsFrom_some _ _ _ (.inl q)]
 apply codeAny_call_function hr.depth (KX _ _ lk) rfl S.co S.gen rfl (PySem.W.codeRec_of KX fK) (hb _ _ _ _ ?_);apply wpAny_newFunctionEnv_cells S.kind hkind λenv he s1 x=>?_
 subst he;apply#[lim.keeps x.toInCall.keep,codeAny_func ?_];let(t,ht,hq):=hbody A outer s H vs Q E (hr.deeper _) Yv;have I:Inv (uU CX P w K mg base N qual scope f fS A outer s H E) [] (start N vs) H s1:=Cq S hr.hd e0 hl r x;apply o5 (ht [] s1 (start N vs) H _ I hq) (λfl s' hs=>?_) λe s' hs=>hs
 have fin:∀{σ':St}{H':Hp}{v:V}{u:Value},Inv (uU CX P w K mg base N qual scope f fS A outer s H E) [] σ' H' s'->RelV v u->Q v H'->CE outer P w H s Q u s':=
  λ{σ' H' v u} qqq rv q=>#[v,H',qqq.os,qqq.bare,qqq.base,qqq.hok,rv,q]
 cases fl with
 |ret u=>let(v,σ',H',qqq,rv,q):=hs;show fin qqq rv q
 |next=>let(σ',H',qqq,q):=hs;show fin (v:=V.non) qqq rfl q
 |brk=>let(_,_,_,q):=hs;show False.elim q
 |cont=>let(_,_,_,q):=hs;show False.elim q
section
variable{X:Cx}{x:Str}{p pos:Pos}{e:Expr}{es:List Expr}{t:TA}{id T:String}{r:List V->Hp->VK->Prop}
abbrev tCB(r:List V->Hp->VK->Prop)(t:TA):TE:=λJ H Q=>t J H λvs H1=>r vs H1 Q
def nX(hc:fM X (.builtin id) r)(hg:Gl X x)(hm:X.mg x=none)(hv:bootBuiltins x=!(.builtin id))(ha:PA X (e::es) t)(hn:x≠ "__name__" :=by decide)(BW:(x==(~~~3))=false:=by decide)
  (he:starEach (e::es) X.env=(false,eval e X.env)::starEach es X.env:=by rfl) (iY:(backTo pos (starEach es X.env)).any (·.1)=false:=by rfl):PE X (.Call (.Name x p) (e::es) [] pos) (tCB r t):=by
 intro aj s J H Q I h;apply wpAny_Call_Name_kw (fT I hg hm hv ?_ hn BW);show PyProof.Rows.callWith_builtin1 (cz (ha pos aj s J H _ I h) (by rintro us s1 ⟨vs,H1,I1,r1,q1⟩;show hc aj s1 J H1 vs us Q I1 r1 q1)) he iY
def Cr(hc:fM X (.type T) r)(hg:Gl X x)(hm:X.mg x=none)(hv:bootBuiltins x=!(.type T))(ha:PA X (e::es) t)(hn:x≠ "__name__" :=by decide)(BW:(x==(~~~3))=false:=by decide)
  (he:starEach (e::es) X.env=(false,eval e X.env)::starEach es X.env:=by rfl) (iY:(backTo pos (starEach es X.env)).any (·.1)=false:=by rfl):PE X (.Call (.Name x p) (e::es) [] pos) (tCB r t):=by
 intro aj s J H Q I h;apply wpAny_Call_Name_kw (fT I hg hm hv ?_ hn BW);show sB (cz (ha pos aj s J H _ I h) λus s1 #[vs,H1,I1,r1,q1]=>hc aj s1 J H1 vs us Q I1 r1 q1) he iY
end
end L2
namespace HT
open PySem PyProof.Rows
abbrev lexLt: ~~~0->~~~0->Bool
 | [],[]=>false
 | [],_::_=>true
 |_::_,[]=>false
 |x::xs,y::ys=>if x=y then lexLt xs ys else decide (x<y)
def bV(x y:Int)(xs ys: ~~~0):lexLt (x::xs) (y::ys)=if x=y then lexLt xs ys else decide (x<y):=rfl
def jN(A:Around)(s:Shared)(a:Int)(t:Tok)(c:Int)(u:Tok):∃e,SeqAt.EqAt A s (.int a t) (.int c u) e/\(e=true ↔ a=c):=
 #[(a==c),SeqAt.EqAt.int_int a t c u,by simp]
def nY(A:Around)(s:Shared)(a:Int)(t:Tok)(c:Int)(u:Tok)(prog:Program)(w:World)(E:Value->Shared->Prop)(Q:Value->Shared->Prop)(h:Q (.bool (decide (a<c))) s) :
  wpAny (model prog w) A (richCompare .Lt (.int a t) (.int c u)) Q E s:=
 (PyProof.Rows.lt_int h:wpAny (model prog w) A (compareOp .Lt (.int a t) (.int c u)) Q E s)
def T4{A:Around}{s:Shared}{vs ws:List Value}{ns ms: ~~~0}(h:IntsAre vs ns)(h2:IntsAre ws ms):Ev.SX A s vs ws (lexLt ns ms):=by
 induction h generalizing ws ms with
 |nil=>
  cases h2 with
  |nil=>show .nn
  |cons=>show .nc
 |cons n t _ ih=>
  cases h2 with
  |nil=>show .cn
  |cons m u h2=>
   let(e,he,hi):=jN A s n t m u;rw[bV];cases e with
   |true=>rw[fR (hi.mp rfl)];show .eq he (ih h2)
   |false=>
    rw[eR λz=>t6 (hi.mpr z)]
    show .ne he λprog w E Q h=>nY A s n t m u prog w E Q h
section
variable{prog:Program}{w:World}{A:Around}{E:Value->Shared->Prop}{s:Shared}
def nZ(hl:IsTup s.heap l items)(hb:IsTup s.heap b items2)(hi:IntsAre items.toList ns)(hj:IntsAre items2.toList ms)
  (hu:A.units<cLine) (h:Q (.bool (lexLt ns ms)) s):wpAny (model prog w) A (compareOp .Lt (.ref l) (.ref b)) Q E s:=Ev.nD hl hb (T4 hi hj) hu prog w E Q h
def Mp(ht:IsTup s.heap t vs.toArray)(hb:IsTup s.heap b ws.toArray)(hv:vs≠[])
  (h1:ws=[]->Q (.ref t) s) (h2:ws≠[]->Q (.ref s⁻¹) { s with heap:=s.heap.push { cls:=.type "tuple",data:=.seq (vs++ws).toArray}})
  (uJ:vs.length+ws.length<=sizeLine):wpAny (model prog w) A (binaryOp .Add (.ref t) (.ref b)) Q E s:=by
 let((cls,dd,data,sl),ho,hc,n,hd):=id ht;let((S0,dd2,data2,sl2),ho2,hc2,n2,hd2):=id hb;subst hc hd hc2 hd2;have e:vs.toArray++ws.toArray=(vs++ws).toArray:=by simp
 by_cases hw:ws=[]
 .
  show concat_meets #[_,ho,rfl] #[_,ho2,rfl] noFill_tuple_add seq_tuple_add C7 CY (CM _ _)
   (tuple_addW1 t b vs.toArray ws.toArray n n2 dd dd2 sl sl2 (by simpa using hv) (by simp[hw])) #[ho,ho2,h1 hw]
 .
  apply concat_meets #[_,ho,rfl] #[_,ho2,rfl] noFill_tuple_add seq_tuple_add C7 CY (CM _ _)
   (tuple_addW2 t b vs.toArray ws.toArray n n2 dd dd2 sl sl2 (by simpa using hv) (by simpa using hw) (by rw[d6];show uJ)) #[ho,ho2,?_]
  rw[e];show h2 hw
end
end HT
namespace L2
def TO:=St->Hp->(Option Int->Hp->Prop)->Prop
def intsAre_of:∀{us:List Value},Vals (ns.map V.int) us->IntsAre us ns:=by
 induction ns with
 |nil=>intro us r;rw[List.map_nil]at r;cases r;show .nil
 |cons n ns ih=>
  intro us r;cases r with
  |cons r1 r2=>let(t,e):=r1;subst e;show .cons n t (ih r2)
section
variable{X:Cx}{e:Expr}{te:TE}{lo hi:Option Expr}{tl th:TO}{pos p2:Pos}
abbrev rLtT(K:Frag):R2:=λx y H Q=>∃a b ns ms,x=.ref a/\y=.ref b/\iE K H a (ns.map V.int)/\iE K H b (ms.map V.int)/\Q (.bl (HT.lexLt ns ms)) H
def T5(hu:X.A.units<cLine):jK X (compareOp .Lt) (rLtT X.K):=by intro aj s J H x y v u Q I rx ry h;let(a,b,ns,ms,rfl,rfl,ha,hb,q):=h;cases rx;cases ry;let(its,r1,p1,_):=I.tuple ha;let(jJ,r2,p2,_):=I.tuple hb;have i1:=intsAre_of r1;have i2:=intsAre_of r2;show HT.nZ p1 p2 i1 i2 hu #[.bl (HT.lexLt ns ms),H,I,rfl,q]
abbrev ZF(K:Frag):R2:=λx y H Q=>∃a b xs ys,x=.ref a/\y=.ref b/\iE K H a xs/\iE K H b ys/\xs≠[]/\xs.length+ys.length<=sizeLine/\
 (ys=[]->Q (.ref a) H)/\(ys≠[]->∀p,H p=none->Q (.ref p) (upd H p (.tup (xs++ys))))
def Vals.sU(r:Vals xs us):us=[] ↔ xs=[]:=by
 cases r with
 |nil=>simp
 |cons _ _=>simp
def Mq:jK X (binaryOp .Add) (ZF X.K):=by
 intro aj s J H x y v u Q I rx ry h;let(a,b,xs,ys,rfl,rfl,ha,hb,hx,hz,q1,q2):=h;cases rx;cases ry;let(its,r1,p1,_):=I.tuple ha;let(jJ,r2,p2,_):=I.tuple hb;apply HT.Mp p1 p2 (λz=>hx (r1.sU.mp z)) (λz=>#[.ref a,H,I,rfl,q1 (r2.sU.mp z)]) (λz=>?_) (by rw[<- r1.length,<- r2.length];show hz)
 apply#[.ref s⁻¹,_,I.laid (λb ob q=>dE _ q) (d5 _) ?_,rfl,q2 (λw=>z (r2.sU.mpr w)) _ (I.hok.fresh (d5 _))]
 show#[by rw[dS];show hz,_,r1.append r2,gP.new _ _]
end
abbrev nF(n:Nat)(i:Int):Option Nat:=if 0<=i then (if i<n then some i.toNat else none)else if -(n:Int)<=i then some (i+n).toNat else none
abbrev d9{α:Type}(xs:List α)(i:Int):Option α:=(nF xs.length i).bind λj=>xs[j]?
def sV(h:nF n i=!j):seqIndex? i n=!j/\j<n/\-(n:Int)<=i/\i<n:=by
 delta nF at h;by_cases h0:0<=i
 .
  rw[fR h0]at h;by_cases h1:i<n
  . rw[fR h1]at h;have e:=oQ h;show#[by rw[seqIndex_of h0 h1,e],by lia,by lia,h1]
  . rw[eR h1]at h;symm
 .
  rw[eR h0]at h;by_cases h1 : -(n:Int)<=i
  . rw[fR h1]at h;have e:=oQ h;show#[by rw[seqIndex_neg ⋯ h1,e],by lia,h1,by lia]
  . rw[eR h1]at h;symm
def zP{α:Type}{xs:List α}{i:Int}{v:α}(h:d9 xs i=!v):∃j,seqIndex? i xs.length=!j/\xs[j]?=!v/\j<xs.length/\-(xs.length:Int)<=i/\i<xs.length:=by
 delta d9 at h;cases e:nF xs.length i with
 |none=>rw[e]at h;symm
 |some j=>rw[e]at h;let(h1,h2,h3,h4):=sV e;show#[j,h1,h,h2,h3,h4]
abbrev sW(b:Expr):Prop:=∀o i,subscripted b false o i=operate [o,i] (getItem o i)
abbrev IxR(X:Cx)(r:R2):Prop:=
 ∀(value slice:Expr) (aj: ~~~1) (s:Shared) (J:St) (H:Hp) (x y:V) (v u:Value) (Q:VK),Inv X aj J H s->RelV x v->RelV y u->r x y H Q->
  subscripted slice false v u=operate [v,u] (getItem v u)->wpAny (~~~2) X.A (subscriptTail value slice v u) (EP X aj J Q) X.xe s
abbrev MtR(X:Cx)(id:String)(r:V->List V->Hp->VK->Prop):Prop:=
 ∀(aj: ~~~1) (s:Shared) (J:St) (H:Hp) (x:V) (xs:List V) (v:Value) (us:List Value) (Q:VK),Inv X aj J H s->RelV x v->Vals xs us->r x xs H Q->
  wpAny (~~~2) X.A (call (.builtin id) (v::us)) (EP X aj J Q) X.xe s
section
variable{X:Cx}{a b:Expr}{ta tb:TE}{pos:Pos}
def Ro{r:R2}(hr:IxR X r)(ha:PE X a ta)(hb:PE X b tb)(hs:sW b):PE X (.Subscript a b pos) (tOp r ta tb):=by intro aj s J H Q I h;show Subscript_ (Tv ha hb I h λv u s2 x y H2 I2 rx ry q=>hr a b aj s2 J H2 x y v u Q I2 rx ry q (hs _ _))
abbrev rIxL(K:Frag):R2:=λx y H Q=>∃p xs i v,x=.ref p/\y=.int i/\dQ K H p xs/\d9 xs i=!v/\Q v H
abbrev rIxT(K:Frag):R2:=λx y H Q=>∃p xs i v,x=.ref p/\y=.int i/\iE K H p xs/\d9 xs i=!v/\Q v H
def sX:IxR X (rIxL X.K):=by
 intro value slice aj s J H x y v u Q I rx ry h hs;let(p,xs,i,z,rfl,rfl,hq,he,q):=h;cases rx;let(t,rfl):=ry;let(its,r,pl,hz):=I.list hq;let(j,h1,h2,h3,h4,h5):=zP he;let(w,ew,rw'):=r.get h2;have hl:=r.length;have hn:=yp;have fin:EP X aj J Q w s:=#[z,H,I,rw',q];by_cases h0:0<=i
 .
  have hj:i.toNat=j:=by rw[seqIndex_of h0 h5]at h1;show oQ h1
  show item_listR pl.isList h0 ⋯ (by rw[hj];simpa using ew) fin hs
 .
  have hj:(i+(its.toArray.size:Int)).toNat=j:=by rw[seqIndex_neg ⋯ h4]at h1;rw[d6,<- hl];show oQ h1
  show subscriptTail_builtinR pl.isList.typeIs slot_list_getitem.lookup
   (wpAny_getItem_list_neg pl.isList ⋯ (by rw[d6] <;> lia) ⋯ (by rw[hj];simpa using ew) #[rfl,fin]) hs
def T6:IxR X (rIxT X.K):=by
 intro value slice aj s J H x y v u Q I rx ry h hs;let(p,xs,i,z,rfl,rfl,hq,he,q):=h;cases rx;let(t,rfl):=ry;let(its,r,pl,hz):=I.tuple hq;let(j,h1,h2,h3,h4,h5):=zP he;let(w,ew,rw'):=r.get h2;have hl:=r.length;have hn:=yp;have fin:EP X aj J Q w s:=#[z,H,I,rw',q];show subscriptTail_builtinR pl.typeIs slot_tuple_getitem.lookup
  (getItem_tuple pl ⋯ ⋯ (by rw[d6,<- hl];show h1) (by simpa using ew) #[rfl,fin]) hs
def yq(its:List Value)(n j:Nat)(u:Value):Obj.mapSeq (·.setIfInBounds j u) { cls:=.type "list",data:=.seq its.toArray n}={ cls:=.type "list",data:=.seq (its.set j u).toArray n}:=by simp[Obj.mapSeq]
def Inv.lst{aj: ~~~1}{J:St}{H:Hp}{s:Shared}{p:Addr}{xs:List V}(I: ~~~7)(h:H p=!(.lst xs)) :
  ∃(its:List Value) (n:Nat),Vals xs its/\s.heap.get? p=some { cls:=.type "list",data:=.seq its.toArray n}/\xs.length<=sizeLine:=by
 let(z,its,n,r,e):=I.hok p _ h;show#[its,n,r,e,z]
def Inv.T7{aj: ~~~1}{J:St}{H:Hp}{s:Shared}{p:Addr}{xs ys:List V}{its its':List Value}{n n':Nat}{f:Obj->Obj}(I: ~~~7)(h:H p=!(.lst xs))
  (ho:s.heap.get? p=some { cls:=.type "list",data:=.seq its.toArray n}) (hf:f { cls:=.type "list",data:=.seq its.toArray n}={ cls:=.type "list",data:=.seq its'.toArray n'}) (r:Vals ys its') (hz:ys.length<=sizeLine) (t:Nat) :
  Inv X aj J (upd H p (.lst ys)) { s with heap:=s.heap.update p f,toks:=t}:=by
 have e:(s.heap.update p f).get? p=some { cls:=.type "list",data:=.seq its'.toArray n'}:=by rw[sR f ho (by rw[hf] <;> rfl),hf]
 apply I.write (by rw[h];trivial) (.inl rfl) (λb u hb q=>(pE _ _ (AJ hb)).trans q) #[_,e] ?_
 show#[hz,its',n',r,e]
abbrev ZG:V->V->V->Hp->(Hp->Prop)->Prop:=λo i v H Q=>∃p xs k j,o=.ref p/\i=.int k/\H p=!(.lst xs)/\nF xs.length k=!j/\Q (upd H p (.lst (xs.set j v)))
def set_list:Zf X ZG:=by
 intro aj s J H o i v ov iv u Q I ro ri rv h;let(p,xs,k,j,rfl,rfl,hp,hj,q):=h;cases ro;let(t,rfl):=ri;let(its,n,r,ho,hz):=I.lst hp;let(h1,h2,h3,h4):=sV hj;have hl:=r.length;have hn:=yp;have I':=
  I.T7 hp ho (yq its n j u) (r.set rv j) (by rw[AE];show hz) s.toks
 by_cases h0:0<=k
 .
  have hk:k.toNat=j:=by rw[seqIndex_of h0 h4]at h1;show oQ h1
  show PySem.W.ki_setAt ho h0 ⋯ (by rw[d6,<- hl];show h4) (by rw[hk];show#[_,I',q])
 .
  have hk:(k+(its.toArray.size:Int)).toNat=j:=by rw[seqIndex_neg ⋯ h3]at h1;rw[d6,<- hl];show oQ h1
  show PySem.W.ki_setBack ho ⋯ (by rw[d6,<- hl];show h3) ⋯ (by rw[hk];show#[_,I',q])
def sY:fM X (.type "list") (λxs H Q=>∃p ys,xs=[.ref p]/\(dQ X.K H p ys\/iE X.K H p ys)/\∀l,H l=none->Q (.ref l) (upd H l (.lst ys))):=by
 intro aj s J H xs us Q I r h;let(p,ys,rfl,hq,q):=h;let(u,rfl,rx):=vals1 r;cases rx;have fin:∀(its:List Value),Vals ys its->ys.length<=sizeLine->∀(h':Heap) (c':Nat),(∀b o',s.heap.get? b=!o'->h'.get? b=!o')->
   h'.get? s⁻¹=some { cls:=.type "list",dict:=none,data:=.seq its.toArray c',slots:=([].toArray)}->EP X aj J Q (.ref s⁻¹) { s with heap:=h'}:=λits r' hz h' c' kp e=>
  #[.ref s⁻¹,_,I.laid kp (d5 _) (show dO X.prog X.w _ h' _ (.lst ys)from#[hz,its,c',r',e]),rfl,q _ (I.hok.fresh (d5 _))]
 rcases hq with hq |hq
 . let(its,r',pl,hz):=I.list hq;have aN:=r'.length;let(o,ho,hc,n,hd):=pl.isList;show call_list_seq p (.inl rfl) ho hc hd (λh' c' kp e=>fin its r' hz h' c' kp e) (by simp only[d6] <;> lia)
 . let(its,r',pl,hz):=I.tuple hq;have aN:=r'.length;let(o,ho,hc,n,hd):=pl;show call_list_seq p (.inr rfl) ho hc hd (λh' c' kp e=>fin its r' hz h' c' kp e) (by simp only[d6] <;> lia)
def qG:fM X (.type "tuple") (λxs H Q=>∃p ys,xs=[.ref p]/\((dQ X.K H p ys/\∀l,H l=none->Q (.ref l) (upd H l (.tup ys)))\/(iE X.K H p ys/\Q (.ref p) H))):=by
 intro aj s J H xs us Q I r h;let(p,ys,rfl,h):=h;let(u,rfl,rx):=vals1 r;cases rx;rcases h with ⟨hq,q⟩ |⟨hq,q⟩
 .
  let(its,r',pl,hz):=I.list hq;have aN:=r'.length;apply call_tuple_list pl.isList (λh' kp=>?_) (by simp only[d6] <;> lia)
  have I1:=I.kept (t':=s.toks) kp;have I2:=
   I1.laid (t':=s.toks) (λb o e=>dE _ e) (d5 _) (show dO X.prog X.w _ _ _ (.tup ys)from#[hz,its,r',gP.new _ _])
  show#[.ref h'.objs.size,_,I2,rfl,q _ (I1.hok.fresh (d5 _))]
 . let(its,r',pl,hz):=I.tuple hq;show call_tuple_same pl #[.ref p,H,I,rfl,q]
abbrev tyV(K:Frag)(T:String)(x:V)(H:Hp):Prop:=match x with
 |.str _=>T = "str"
 |.int _=>T = "int"
 |.ref p=>(T = "list" /\∃xs,dQ K H p xs)\/(T = "tuple" /\∃o,K.lookup p=!o/\o.cls=.type "tuple" /\o.dict=none)\/
   (T = "dict" /\((∃lY,H p=!(.dK lY))\/∃lY,H p=!(.dT lY)))\/∃φ,H p=!(.set φ)/\∀o,φ o->o.cls=.type T/\o.dict=none
 |_=>False
def T8{aj: ~~~1}{J:St}{H:Hp}{s:Shared}{T:String}{x:V}{v:Value}(I: ~~~7)(r:RelV x v)(ty:tyV X.K T x H) :
  s.TypeIs v T/\∀a,v=.ref a->∃ob,s.heap.get? a=!ob/\ob.dict=none:=by
 cases x with
 |str z=>
  let(t,rfl):=r;cases (show T = "str" from ty)
  show#[typeIs_str s z t,λ_ e=>nomatch e]
 |int i=>
  let(t,rfl):=r;cases (show T = "int" from ty)
  show#[typeIs_int s i t,λ_ e=>nomatch e]
 |ref p=>
  cases r;rcases ty with ⟨rfl,xs,hq⟩ |⟨rfl,o,hk,hc,hd⟩ |⟨rfl,hk⟩ |⟨φ,hk,hf⟩
  .
   let(its,_,pl,_):=I.list hq;apply#[pl.isList.typeIs,λa e=>?_]
   cases e;let(o,n,e,c,hd,_):=pl;show#[o,e,hd]
  .
   apply#[#[o,I.uO p o hk,hc],λa e=>?_]
   cases e;show#[o,I.uO _ o hk,hd]
  .
   have z:∃o,s.heap.get? p=!o/\o.ExactDict:=by
    rcases hk with ⟨lY,hk⟩ |⟨lY,hk⟩
    . let(_,_,_,_,o,_,_,e,ex,_):=I.hok p _ hk;show#[o,e,ex]
    . let(_,_,_,_,o,_,_,e,ex,_):=I.hok p _ hk;show#[o,e,ex]
   let(o,e,ex):=z;apply#[#[o,e,ex.1],λa e2=>?_]
   cases e2;show#[o,e,ex.2.1]
  .
   let(o,e,ex):=I.hok p _ hk;apply#[#[o,e,(hf o ex).1],λa e2=>?_]
   cases e2;show#[o,e,(hf o ex).2]
 |_=>show False.elim ty
abbrev tBM(K:Frag)(T:String)(r:V->List V->Hp->VK->Prop)(to:TE)(t:TA):TE:=λJ H Q=>to J H λx H1=>tyV K T x H1/\t J H1 λxs H2=>r x xs H2 Q
variable{o e:Expr}{es:List Expr}{to:TE}{t:TA}{name:Str}{jI ig:Pos}{T id:String}{r:V->List V->Hp->VK->Prop}
def zQ(pa:PlainAttrs T)(slot:Slot T name id)(hty:typeOf (.builtin id)=pure (.type "method_descriptor"))(hm:MtR X id r)(ho:PE X o to)(ha:PA X (e::es) t)
  (hbase:attributeBase o name X.env (eval o X.env)=eval o X.env:=by rfl)
  (hfew:((backTo ig (starEach (e::es) X.env)).all (λx=>(not x.1))&&(backToKw ig (keywordEach [] X.env)).all (λx=>x.1.isSome)
   && decide ((e::es).length+([]:List Keyword).length+(if ([]:List Keyword).isEmpty then 0 else 1)<30))=true:=by rfl)
  (hline:(jI.endLine==ig.line)=true:=by rfl) (hs:starEach (e::es) X.env=(false,eval e X.env)::starEach es X.env:=by rfl) (hplain:(backTo ig (starEach es X.env)).any (·.1)=false:=by rfl) :
  PE X (.Call (.Attribute o name jI) (e::es) [] ig) (tBM X.K T r to t):=by
 intro aj s J H Q I h;apply wpAny_Call_method_late hbase hfew hline rfl (cz (ho aj s J H _ I h) ?_);rintro v s1 ⟨x,H1,I1,r1,ty,q1⟩;let(h1,h2):=T8 I1 r1 ty;apply#[T,id,pa,slot,hty,h1,h2,?_];have hA:=ha ig aj s1 J H1 _ I1 q1;rw[hs]at hA ⊢
 apply Calls.callWith_builtin (by exact (false||(backTo ig (starEach es X.env)).any (·.1))=false;rw[hplain] <;> rfl) (Calls.evalArgs_plain ?_)
 show cz hA (by rintro us s2 ⟨vs,H2,I2,r2,q2⟩;show hm aj s2 J H2 x vs v us Q I2 r1 r2 q2)
/- xs.append(e),list.index on a module's tuple .. are MtR facts of 06m -/
end
abbrev MtM(X:Cx)(id:String)(r:V->List V->Hp->VK->Prop):Prop:=
 ∀(aj: ~~~1) (s:Shared) (J:St) (H:Hp) (x:V) (xs:List V) (v:Value) (us:List Value) (Q:VK),Inv X aj J H s->RelV x v->Vals xs us->r x xs H Q->
  wpAny (~~~2) X.A (call (.builtin id) (v::us)) (EP X aj J Q) X.xe s
def Vals.one:∀{x:V}{us:List Value},Vals [x] us->∃u,us=[u]/\RelV x u:=by intro x us h;cases h with |cons r t=>cases t;show#[_,rfl,r]
def Vals.eraseIdx:∀{xs:List V}{us:List Value} (i:Nat),Vals xs us->Vals (xs.eraseIdx i) (us.eraseIdx i)
 |_,_,_,.nil=>.nil
 |_,_,0,.cons _ t=>t
 |_,_,i+1,.cons r t=>.cons r (Vals.eraseIdx i t)
def Vals.rep(h:Vals xs us):∀k:Nat,Vals (List.replicate k xs).flatten (List.replicate k us).flatten
 | 0=>.nil
 |k+1=>by
  show Vals.append h (Vals.rep h k)
def rm{α:Type}:∀(l:List α) (i:Nat),(l.eraseIdx i).length<=l.length
 | [],_=>d5 _
 |_::_,0=>BI _
 |_::r,i+1=>Nat.succ_le_succ (rm r i)
def foldl_rep(its:List Value):∀(k:Nat) (acc:List Value),
  List.foldl (λx1 x2=>x1++x2) acc.toArray (List.replicate k its.toArray)=(acc++(List.replicate k its).flatten).toArray
 | 0,acc=>by simp
 |k+1,acc=>by
  have e:acc.toArray++its.toArray=(acc++its).toArray:=by simp
  have e2:(acc++its)++(List.replicate k its).flatten=acc++(List.replicate (k+1) its).flatten:=by rw[AQ,BA,fI]
  rw[<- e2,<- foldl_rep its k (acc++its),<- e,AQ,List.foldl_cons]
section
variable{X:Cx}{aj: ~~~1}{J:St}{H:Hp}{s:Shared}{l b:Addr}{xs ys zs:List V}
def Inv.Mr{its its':List Value}{n:Nat}{f:Array Value->Array Value}{t':Nat}(I: ~~~7)(hH:H l=!(.lst xs))
  (e:s.heap.get? l=some { cls:=.type "list",data:=.seq its.toArray n}) (hf:f its.toArray=its'.toArray) (hv:Vals ys its') (hz:ys.length<=sizeLine) :
  Inv X aj J (upd H l (.lst ys)) { s with heap:=s.heap.update l (Obj.mapSeq f),toks:=t'}:=by
 have q:=PySem.IsL.update e f;rw[hf]at q;apply I.write (by rw[hH];show trivial) (.inl rfl) (λb' u hb hu=>(pE s.heap (Obj.mapSeq f) (AJ hb)).trans hu) #[_,q] ?_
 show#[hz,its',_,hv,q]
def Inv.ZJ(I: ~~~7)(hv:Vals ys its)(hz:ys.length<=sizeLine) :
  Inv X aj J (upd H s⁻¹ (.lst ys)) { s with heap:=s.heap.push { cls:=.type "list",data:=.seq its.toArray},toks:=t'}:=
 I.laid (λ_ _ q=>dE _ q) (d5 _) #[hz,its,0,hv,eM _ rfl]
def Inv.fresh(I: ~~~7):H s⁻¹=none:=I.hok.fresh (d5 _)
def Inv.sZ(I: ~~~7)(hH:H l=!(.lst xs)):xs.length<=sizeLine/\∃(its:List Value) (n:Nat),Vals xs its/\xs.length=its.length/\s.heap.get? l=some { cls:=.type "list",data:=.seq its.toArray n}:=by let(z,its,n,r,e):=I.hok l _ hH;show#[z,its,n,r,r.length,e]
def oh(h:n<=sizeLine):Builtin.List.listTooLong n=false:=by show wE ⋯
end
section
variable{X:Cx}
abbrev Ms:V->List V->Hp->VK->Prop:=λx vs H Q=>∃l xs y,x=.ref l/\vs=[y]/\H l=!(.lst xs)/\xs.length<sizeLine/\Q .non (upd H l (.lst (xs++[y])))
def kT:MtM X "list.append" Ms:=by
 intro aj s J H x vs v us Q I rx rv h;let(l,xs,y,rfl,rfl,hH,hz,q):=h;cases rx;let(u,rfl,ru):=rv.one;let(z,its,n,r,hl,e):=I.sZ hH;apply Db F.slot_list_append #[_,e,rfl] F.entry_list_append (F.args_list_append_2 _ _) (PySem.list_append l its.toArray n u (by rw[d6];lia)) #[e,?_]
 apply#[.non,_,I.Mr hH e ⋯ (r.append (.cons ru .nil)) ?_,rfl,q];rw[dS,t9];lia
abbrev Mu:V->List V->Hp->VK->Prop:=λx vs H Q=>∃l b xs zs,x=.ref l/\vs=[.ref b]/\H l=!(.lst xs)/\H b=!(.lst zs)/\xs.length+zs.length<=sizeLine/\Q .non (upd H l (.lst (xs++zs)))
def Cv:MtM X "list.extend" Mu:=by
 intro aj s J H x vs v us Q I rx rv h;let(l,b,xs,zs,rfl,rfl,hH,hB,hz,q):=h;cases rx;let(u,rfl,ru):=rv.one;cases ru;let(z,its,n,r,hl,e):=I.sZ hH;let(z2,jJ,n2,r2,hl2,e2):=I.sZ hB;have uJ:its.toArray.size+jJ.toArray.size<=sizeLine:=by rw[d6,d6];lia
 have uW : ¬ ((not its.toArray.isEmpty)&&Builtin.List.listTooLong (its.toArray.size+jJ.toArray.size))=true:=by rw[oh uJ,A8];show t6
 apply Db F.slot_list_extend #[_,e,rfl] F.entry_list_extend (F.args_list_extend_2 _ _)
  (AutoSeq1.list_extend_list_list_0 l its.toArray n b jJ.toArray n2 uW (by rw[d6];lia) ⋯) #[e,e2,?_]
 apply#[.non,_,I.Mr hH e ⋯ (r.append r2) ?_,rfl,q];rw[dS];lia
abbrev T9:V->List V->Hp->VK->Prop:=λx vs H Q=>∃l xs i k y,x=.ref l/\vs=[.int i]/\H l=!(.lst xs)/\-(2 ^ 63)<=i/\i<2 ^ 63/\seqIndex? i xs.length=!k/\xs[k]?=!y/\Q y (upd H l (.lst (xs.eraseIdx k)))
def Gj:MtM X "list.pop" T9:=by
 intro aj s J H x vs v us Q I rx rv h;let(l,xs,i,k,y,rfl,rfl,hH,h1,h2,hk,hy,q):=h;cases rx;let(u,rfl,ru):=rv.one;let(t,rfl):=ru;let(z,its,n,r,hl,e):=I.sZ hH;let(w,hw,rw'):=r.get hy;apply Db F.slot_list_pop #[_,e,rfl] F.entry_list_pop (F.args_list_pop_2 _ _)
  (MeetsSeq.list_pop_at l its.toArray n i t k w (fitsIndex_both h1 h2) (by rw[d6,<- hl];show hk) (by rw[<- nS];show hw) (by rw[d6];lia)) #[e,?_]
 apply#[y,_,I.Mr hH e ?_ (r.eraseIdx k) ?_,rw',q]
 . exact its.toArray.eraseIdxIfInBounds k=(its.eraseIdx k).toArray;rw[List.eraseIdxIfInBounds_toArray]
 . have:=rm xs k;lia
abbrev rCat:R2:=λx y H Q=>∃l b xs zs,x=.ref l/\y=.ref b/\H l=!(.lst xs)/\H b=!(.lst zs)/\xs.length+zs.length<=sizeLine/\∀p,H p=none->Q (.ref p) (upd H p (.lst (xs++zs)))
def Ua:jK X (binaryOp .Add) rCat:=by
 intro aj s J H x y v u Q I rx ry h;let(l,b,xs,zs,rfl,rfl,hH,hB,hz,q):=h;cases rx;cases ry;let(z,its,n,r,hl,e):=I.sZ hH;let(z2,jJ,n2,r2,hl2,e2):=I.sZ hB;apply PySem.P.add_list e e2 ?_ (by rw[d6,d6];lia)
 have ea:its.toArray++jJ.toArray=(its++jJ).toArray:=by simp
 rw[ea];show#[.ref _,_,I.ZJ (r.append r2) (by rw[dS];lia),rfl,q _ I.fresh]
abbrev rRep:R2:=λx y H Q=>∃l k xs,x=.ref l/\y=.int k/\H l=!(.lst xs)/\-(2 ^ 63)<=k/\k<2 ^ 63/\xs.length * k.toNat<=sizeLine/\
 ∀p,H p=none->Q (.ref p) (upd H p (.lst (List.replicate k.toNat xs).flatten))
def len_rep{α:Type}(xs:List α)(k:Nat):(List.replicate k xs).flatten.length=k * xs.length:=by
 induction k with
 |zero=>simp
 |succ k ih=>rw[AQ,BA,dS,ih,Nat.succ_mul,Nat.add_comm]
def Ub:jK X (binaryOp .Mult) rRep:=by
 intro aj s J H x y v u Q I rx ry h;let(l,k,xs,rfl,rfl,hH,h1,h2,hz,q):=h;cases rx;let(t,rfl):=ry;let(z,its,n,r,hl,e):=I.sZ hH;have aN:its.toArray.size * k.toNat<=sizeLine:=by rw[d6,<- hl];show hz
 have hcap : ¬ its.toArray.size * k.toNat > (2 ^ 63 - 1) / 8:=by
  have:(sizeLine:Nat)<=(2 ^ 63 - 1) / 8:=by decide
  lia
 have hfit : ¬ ((not (Builtin.List.listFitsIndex k)))=true:=by rw[fitsIndex_both h1 h2];show t6
 have uW : ¬ Builtin.List.listTooLong (its.toArray.size * k.toNat)=true:=by rw[oh aN];show t6
 have hnew:List.foldl (λx1 x2=>x1++x2) ([].toArray) (List.replicate (if its.toArray.isEmpty=true then 0 else k.toNat) its.toArray)=(List.replicate k.toNat its).flatten.toArray:=by
  have f0:∀m:Nat,List.foldl (λx1 x2=>x1++x2) ([].toArray) (List.replicate m its.toArray)=(List.replicate m its).flatten.toArray:=λm=>by
   have:=foldl_rep its m [];show this
  rw[f0];cases its with
  |nil=>simp
  |cons a r'=>rw[eR ⋯]
 apply wpAny_binaryOp_repeat_ref ⋯ #[_,e,rfl] (λs'=>typeIs_int s' k t) noFill_list_mul F.fills_int_mul F.slot_int_rmul repeat_list F.slot_int_index.lookup
  (Db F.slot_int_rmul (typeIs_int s k t) F.entry_int_rmul (F.args_int_rmul_2 _ _) (int___rmul___int_list k t l its.toArray n)
   #[e,rfl,#[_,e,rfl],Db F.slot_list_mul #[_,e,rfl] F.entry_list_mul (F.args_list_mul_2 _ _) (AutoListH.list___mul___list_int_3 l its.toArray n k t hfit hcap uW) #[e,?_]])
 rw[hnew];show#[.ref _,_,I.ZJ (r.rep k.toNat) (by rw[len_rep,Nat.mul_comm];show hz),rfl,q _ I.fresh]
end
end L2
namespace Att
open PySem PySem.W PySem.Calls PyProof.Rows
def mZ:∀(ns: ~~~0) (vs:List Value),WellAll P h vs (ns.map WData.int)->IntsAre vs ns:=by
 intro ns
 induction ns with
 |nil=>intro vs w;cases w;show .nil
 |cons n ns ih=>
  intro vs w;cases w with
  |cons a b=>cases a;show .cons _ _ (ih _ b)
def Cw{l:OpenLaw}{n:Nat}(hn:l.most=!n){P:Params}{h:Heap}{args:List WData}{vals:List Value}
  (hpre:l.row.toRowW.claim.pre args=true) (hwl:WellAll P h vals args) :
  ∃a vs ns,vals=[Value.ref a]/\args=[WData.list (ns.map WData.int)]/\h.get? a=some { cls:=.type "list",data:=.seq vs.toArray}/\IntsAre vs ns/\ns.length<=n:=by
 have hsh:=(pre_splitW hpre).1;have hc:l.pre.holds [] { args:=args}=true:=(pre_splitW hpre).2;let(d,r,rfl,h1,h2):=hasAllW_cons hsh;obtain rfl:=hasAllW_nil h2;let(xs,rfl,h3):=hasW_list h1;let(ns,rfl):=items_int h3;have aN:ns.length<=n:=by
  have h4:(WTm.not (.lt (.lit (.int (n:Int))) (.len (.arg 0)))).holds [] { args:=[.list (ns.map .int)]}=true:=by have h4:=(holds_andW hc).1;rw[hn]at h4;show h4
  have h5:=condW_of h4 (w_not (w_lt w_lit (w_len_list (w_arg rfl))));apply Nat.le_of_not_lt λq=>?_
  first
   | (rw[oC q']at h5;show absurd h5 ⋯)
   | (simp at h5;lia)
 cases hwl with
 |cons w1 w2=>
  cases w2;cases w1 with
  |list ho hall=>show#[_,_,ns,rfl,rfl,ho,mZ ns _ hall,aN]
def Cy(l:OpenLaw)(args:List WData):l.row.toRowW.claim.post args (.bool true) args=true:=
 postW_of
  (show WShape.has [] (.bool true) .bool=true by first |rfl |decide |simp[WShape.arms])
  (show (WTm.eq .res (.lit (.bool true))).value [] { args:=args,res:=!(.bool true),after:=args}=!(.bool (true==true))from w_eq_bool (w_res rfl) w_lit) rfl
def uX{l:OpenLaw}{n:Nat}{q:Program}{loose:List Str}{XP:(Str->Option Value)->Heap->Prop}{YP:World->Heap->Prop}{d:DefRec}
  (hn:l.most=!n) (nu:d.params.defaults=[])
  (call:∀(w:World) (s₀ s₁:Shared) (mg mb:Str->Option Value) (fa:Addr) (o:Obj) (pm cd doc:Value) (a:Addr) (vs:List Value) (ns: ~~~0),
   Ground q loose [] XP w s₀ mg mb s₁.heap->YP w s₁.heap->
   s₁.heap.get? fa=!o->o.data=.func (docDef d.name d.params d.body d.scope pm cd doc)->s₁.heap.CodeRec cd d.name->mg d.name=!(.ref fa)->
   s₁.heap.get? a=some { cls:=.type "list",data:=.seq vs.toArray}->IntsAre vs ns->ns.length<=n->s₁.gens = ([].toArray)->
   codeAny (model l.prog w) callerA (.call (.ref fa) #[[.ref a],[]]) (λr s'=>r=.ok (.ret (.bool true))/\OldK s₁.heap s'.heap/\s'.os=s₁.os/\AllBare s'.gens) s₁) :
  WalkO q loose XP YP l.row.toRowW d [] (λf vs=>PySem.call f vs):=by
 intro w s₀ s₁ mg mb G Y fa o pm cd doc dV kV ho hd fK hD hmg hg args vals as hpre hlay hrd hwl hlo;obtain rfl:dV=.none:=Dflts.none hD nu;obtain rfl:kV=.none:=Dflts.noKw hD;let(a,vs,ns,rfl,rfl,hobj,hints,aN):=Cw hn hpre hwl;apply enter_call (codeAny_mono (call w s₀ s₁ mg mb fa o pm cd doc a vs ns G Y ho (fd_plain hd) fK hmg hobj hints aN hg) λr s' hq=>?_)
 let(rfl,h2,h3,h4):=hq;show#[.inl #[.bool true,.bool true,[],rfl,λ_=>rfl,.bool true,Cy l _,λ_=>#[List.Pairwise.nil,λ_ hm=>(nomatch hm)]],h2,h3,h4]
end Att
namespace L2
def rq:∀{vs:List Value}{ns: ~~~0},IntsAre vs ns->Vals (ns.map V.int) vs:=by
 intro vs ns h
 induction h with
 |nil=>show .nil
 |cons n t h ih=>show .cons #[t,rfl] ih
meta abbrev KOf{K:Frag}{h:Heap}(_:K.In h):Frag:=K
meta abbrev Lg:Gi:=λ_ _ _ _ _ _=>False
meta abbrev E0:XK:=λ_ _ _=>False
def ZK:Passes Lg X E0:=λ_ _ _ _ _ _ _ h=>h.elim
structure ZL(K:Frag)(x qual:Str)(st:Stmt)(f:Addr)(fd:FuncData):Prop where
 ex:∃(oc:Value) (od:Option Addr) (kV doc pm:Value) (an:Option Addr) (fS ct:Value) (osl:Array (Option Value)),
  fd=PySem.W.fnOf x qual (iZ st) (bR st) (aV st) .none kV doc pm an fS ct/\K.lookup f=!#[oc,od,.func fd,osl]/\PySem.W.codeIn K fS qual=true
 kp:PySem.W.keepIn K (.ref f)=true
section
variable{P:Program}{w:World}{K:Frag}{mg:Str->Option Value}{base:Heap}
def Uc{x qual:Str}{st:Stmt}{f:Addr}{oc:Value}{od an:Option Addr}{osl:Array (Option Value)}{kV doc pm fS ct:Value}(l:K.lookup f=!#[oc,od,.func (PySem.W.fnOf x qual (iZ st) (bR st) (aV st) .none kV doc pm an fS ct),osl])
  (c:PySem.W.codeIn K fS qual=true) (k:PySem.W.keepIn K (.ref f)=true):ZL K x qual st f (PySem.W.fnOf x qual (iZ st) (bR st) (aV st) .none kV doc pm an fS ct):=#[#[oc,od,kV,doc,pm,an,fS,ct,osl,rfl,l,c],k]
end
def oq{A B:Prop}(h:B):if false=true then A else B:=by show h
def jO{A B:Prop}(h:A):if true=true then A else B:=by show h
abbrev Cx.block(X:Cx)(N:List Str)(scope:Scope)(cl:List (Str×Addr))(C:Addr)(s₀:Shared)(H₀:Hp)(fp:List Addr):Cx:=
 { X with N:=N,s₀:=s₀,H₀:=H₀,env:=compEnvC scope cl C X.env,outer:=X.stack,ex:=fp,fn:=λx=>scope.names.lookup x==some .local,pn:=[],xe:=λ_ _=>False}
structure Bk where
 cl:List (Str×Addr)
 C:Addr
 s₀:Shared
 H₀:Hp
 fp:List Addr
meta abbrev Cx.blk (X:Cx) (N:List Str) (scope:Scope) (b:Bk):Cx:=X.block N scope b.cl b.C b.s₀ b.H₀ b.fp
structure bH(sc scope:Scope):Prop where
 kind:scope.kind=.function
 Gk:∀y∈scope.names,y.2≠.cell
 uniq:∀y∈scope.names,y.2=.local->scope.names.lookup y.1=some .local
 ZM:∀y∈scope.names,y.2=.free->scope.names.lookup y.1=some .free
 free:∀y∈scope.names,y.2=.free->sc.names.lookup y.1=some .cell\/sc.names.lookup y.1=some .free
def mem_of_lookup{α:Type}{x:Str}{v:α}:∀{l:List (Str×α)},l.lookup x=!v->(x,v)∈l
 | [],h=>by simp at h
 | (n,k)::r,h=>by
  cases hx:x==n with
  |true=>
   simp only[xI,hx]at h;symm;have e:x=n:=by simpa using hx
   subst e;show dA
  |false=>simp only[xI,hx]at h;show b0 _ (mem_of_lookup h)
def iI{env:Env}{x:Str}:∀{names:List (Str×NameKind)},
  (names.map λ(n,k)=>if (k==NameKind.free&&env.scope.kind==.function&&env.kindOf n==some .cell)then (n,NameKind.cell)else (n,k)).lookup x
   = (names.lookup x).map λk=>if (k==NameKind.free&&env.scope.kind==.function&&env.kindOf x==some .cell)then NameKind.cell else k
 | []=>rfl
 | (n,k)::r=>by
  have ih:=@iI env x r;exact List.lookup x ((if (k==NameKind.free&&env.scope.kind==.function&&env.kindOf n==some .cell)=true then (n,NameKind.cell)else (n,k))::_)=_
  cases hx:x==n with
  |true=>
   have e:x=n:=by simpa using hx
   subst e;by_cases hc:(k==NameKind.free&&env.scope.kind==.function&&env.kindOf x==some .cell)=true
   . rw[fR hc];simp only[xI,hx,AR,fR hc]
   . rw[eR hc];simp only[xI,hx,AR,eR hc]
  |false=>
   by_cases hc:(k==NameKind.free&&env.scope.kind==.function&&env.kindOf n==some .cell)=true
   . rw[fR hc];simp only[xI,hx];show ih
   . rw[eR hc];simp only[xI,hx];show ih
def yt(h:∀y∈scope.names,y.2=.free->∃c,env.cells.lookup y.1=!c) :
  ∃cl,closureFor scope env=pure cl/\(∀x c,cl.lookup x=!c->env.cells.lookup x=!c/\(x,NameKind.free)∈scope.names)/\∀y∈scope.names,y.2=.free->∃c,cl.lookup y.1=!c:=by
 have key:∀(names:List (Str×NameKind)) (acc:List (Str×Addr)),(∀y∈names,y.2=.free->∃c,env.cells.lookup y.1=!c)->
   ∃cl,(forIn names acc λx (cs:List (Str×Addr))=>(match x with | (name,kind)=>if (kind==.free)=true then (do let c <- cellOf env name;pure (ForInStep.yield ((name,c)::cs)))else pure (ForInStep.yield cs):Sem (ForInStep (List (Str×Addr)))))=pure cl/\
    (∀x c,cl.lookup x=!c->acc.lookup x=!c\/(env.cells.lookup x=!c/\(x,NameKind.free)∈names))/\(∀y∈names,y.2=.free->∃c,cl.lookup y.1=!c)/\∀x c,acc.lookup x=!c->∃c',cl.lookup x=!c':=by
  intro names
  induction names with
  |nil=>intro acc _;show#[acc,rfl,λx c e=>.inl e,(λy hy=>nomatch hy),λx c e=>#[c,e]]
  |cons y r ih=>
   intro acc hf;let(n,k):=y;rw[List.forIn_cons];by_cases hk:(k==NameKind.free)=true
   .
    let(c,hc):=hf (n,k) dA (by simpa using hk)
    have hc':=hc;let(cl,e,h1,h2,h3):=ih ((n,c)::acc) λy hy=>hf y (b0 _ hy)
    apply#[cl,?_,λx c' q=>?_,λy hy hyf=>?_,λx c' q=>?_]
    .
     have ec:cellOf env n=pure c:=by delta cellOf;rw[hc']
     exact ((if (k==NameKind.free)=true then (do let c <- cellOf env n;pure (ForInStep.yield ((n,c)::acc)))else pure (ForInStep.yield acc)) >>= _)=_
     rw[fR hk,ec];show e
    .
     rcases h1 x c' q with z |⟨z1,z2⟩
     .
      cases hx:x==n with
      |true=>
       simp only[xI,hx]at z;cases z;have e:x=n:=by simpa using hx
       subst e;have ek:k=NameKind.free:=by simpa using hk
       subst ek;show .inr #[hc',dA]
      |false=>simp only[xI,hx]at z;show .inl z
     . show .inr #[z1,b0 _ z2]
    .
     rcases eC.mp hy with rfl |hy
     . show h3 n c ⋯
     . show h2 y hy hyf
    .
     cases hx:x==n with
     |true=>
      have e:x=n:=by simpa using hx
      subst e;show h3 x c ⋯
     |false=>show h3 x c' (by simp only[xI,hx];show q)
   .
    let(cl,e,h1,h2,h3):=ih acc λy hy=>hf y (b0 _ hy)
    apply#[cl,?_,λx c' q=>?_,λy hy hyf=>?_,h3]
    .
     exact ((if (k==NameKind.free)=true then (do let c <- cellOf env n;pure (ForInStep.yield ((n,c)::acc)))else pure (ForInStep.yield acc)) >>= _)=_
     rw[eR hk];show e
    .
     rcases h1 x c' q with z |⟨z1,z2⟩
     . show .inl z
     . show .inr #[z1,b0 _ z2]
    .
     rcases eC.mp hy with rfl |hy
     . show absurd hyf (by simpa using hk)
     . show h2 y hy hyf
 let(cl,e,h1,h2,_):=key scope.names [] h;apply#[cl,?_,λx c q=>?_,h2]
 . show (congrArg (λm=>m >>= λcs=>pure cs) e:_)
 .
  rcases h1 x c q with z |z
  . simp at z
  . show z
abbrev jP(X:Cx)(ifs:List Expr)(t:TT):Prop:=
 ∀(aj: ~~~1) (s:Shared) (J:St) (H:Hp) (Q:Bool->Hp->Prop),Inv X aj J H s->t J H Q->
  wpAny (~~~2) X.A (forIn ifs true λc r=>if r=true then do let ok <- isTrue c X.env (eval c X.env);pure (ForInStep.yield ok)else pure (ForInStep.yield r)) (TP X aj J Q) X.xe s
abbrev Rp:TT:=λ_ H Q=>Q true H
def uY:jP X [] Rp:=λ_ _ _ H _ I h=>wpAny_tests_nil #[H,I,h]
def Gm(h:PT X c t):jP X [c] t:=λaj s J H Q I hw=>wpAny_tests_one (h aj s J H Q I hw)
abbrev kU(e target iter:Expr)(ifs:List Expr)(d:Nat)(it acc:Value)(env:Env)(em:Sem Unit):Sem Fin:=do
 standAt iter.pos
 match <- pyNext it with
 |none=>pure (.done .next)
 |some v=>
  letOwnedTupleGo target it v
  assign target env v
  let mut ok:=true
  for c in ifs do
   if ok then ok <- isTrue c env (eval c env)
  if ok then em
  again (.compLoop e d it acc env)
abbrev Cu(ce:Expr):Prop:=∀(prog:Program) (w:World) (A:Around) (d:Nat) (it acc:Value) (env:Env),A.under (.compLoop ce d it acc env)=A/\(model prog w).den (.compLoop ce d it acc env)=(compTurn ce d it acc env).onRaise (λx=>do noteFrame x env;theTreesLotGoes x)
def jQ(hu:Cu ce)(ht:compTurn ce d it acc env=kU ce target iter ifs d it acc env em)(I:Nat->Shared->Prop)
  (turn:∀n s,I n s->wpAny (model prog w) A (pyNext it) (λr s₁=>match r with
   |none=>R (.ok .next) s₁
   |some v=>wpAny (model prog w) A (letOwnedTupleGo target it v) (λ_ s₁'=>wpAny (model prog w) A (assign target env v) (λ_ s₂=>
     wpAny (model prog w) A (forIn ifs true λc r=>if r=true then do let ok <- isTrue c env (eval c env);pure (ForInStep.yield ok)else pure (ForInStep.yield r)) (λok s₃=>
      if ok=true then wpAny (model prog w) A em (λ_ s₅=>∃m,m<n/\I m s₅) (λ_ _=>False) s₃
      else ∃m,m<n/\I m s₃) (λ_ _=>False) s₂) (λ_ _=>False) s₁') (λ_ _=>False) s₁) (λ_ _=>False) s)
  (n:Nat) (h:I n s) :
  codeAny (model prog w) A (.compLoop ce d it acc env) R s:=by
 apply codeAny_loop rfl I (λn s hI=>?_) n h
 rw[(hu prog w A d it acc env).1,(hu prog w A d it acc env).2];apply wpAny_noted ?_;rw[ht];apply aS (wT (aS (o5 (turn n s hI) (λr s₁ h₁=>?_) λ_ _ h'=>h'.elim)))
 cases r with
 |none=>show dC h₁
 |some v=>
  apply aS (o5 h₁ (λ_ s₁' h₁'=>?_) λ_ _ h'=>h'.elim)
  apply aS (o5 h₁' (λ_ s₂ h₂=>aS (o5 h₂ (λok s₃ h₃=>?_) λ_ _ h'=>h'.elim)) λ_ _ h'=>h'.elim)
  cases ok with
  |false=>show dC #[rfl,h₃]
  |true=>show aS (o5 h₃ (λ_ s₅ h₅=>dC #[rfl,h₅]) λ_ _ h'=>h'.elim)
def TU:=St->Hp->(St->Hp->Prop)->Prop
abbrev PU(X:Cx)(m:Sem Unit)(t:TU):Prop:=
 ∀(aj: ~~~1) (s:Shared) (J:St) (H:Hp) (Q:St->Hp->Prop),Inv X aj J H s->t J H Q->wpAny (~~~2) X.A m (λ_ s'=>∃σ' H',Inv X aj σ' H' s'/\Q σ' H') (λ_ _=>False) s
abbrev uZ(D:Addr)(te:TE):TU:=λJ H Q=>te J H λv H5=>∃ys,H5 D=!(.lst ys)/\ys.length<sizeLine/\Q J (upd H5 D (.lst (ys++[v])))
def tB(he:PE X bE te)(hx:X.xe=λ_ _=>False):PU X (do let _ <- call (.builtin "list.append") [.ref D,<- eval bE X.env]) (uZ D te):=by
 intro aj s J H Q I h;have he:=he aj s J H _ I h;rw[hx]at he;apply aS (o5 he (?_) λ_ _ z=>z)
 rintro y s8 ⟨v,H8,I8,r8,ys,hD8,hz8,q8⟩;have ma:=kT aj s8 J H8 (.ref D) [v] (.ref D) [y] (λ_ H9=>Q J H9) I8 rfl (.cons r8 .nil) #[_,ys,v,rfl,rfl,hD8,hz8,q8]
 rw[hx]at ma;show aS (o5 ma (by rintro _ s9 ⟨_,H9,I9,_,q9⟩;show dC #[J,H9,I9,q9]) λ_ _ z=>z)
abbrev σC(k:Nat)(D:Addr)(J:St):St:=J++(List.replicate k none++[!(.ref D)])
abbrev BkIn(X:Cx)(J:St)(b:Bk):Prop:=∃aj,Inv X aj J b.H₀ b.s₀/\∀a∈b.fp,kO X aj b.H₀ a
abbrev Mv(u0:HO)(X:Cx)(k:Nat)(g:Bk->TG)(tt:Bk->TT)(te:Addr->Bk->TU)(qqq:It)(D:Addr)(J:St)(H1:Hp)(Q:VK):Prop:=
 ∃W:Nat->Nat->St->Hp->Prop,(∃m,W 0 m (σC k D J) (upd H1 D u0))/\∀i m σ' H',W i m σ' H'->
  (qqq.stop i H'/\Q (.ref D) H')\/(qqq.go i H'/\∃Nn:St->Hp->Prop,(∀Cz CG,Nn Cz CG->∃m',m'<m/\W (i+1) m' Cz CG)/\∀x H2,qqq.Yu i H' x H2->∀bk:Bk,BkIn X J bk->g bk x σ' H2 λσ2 H3=>tt bk σ2 H3 λb H4=>
   if b=true then te D bk σ2 H4 Nn else Nn σ2 H4)
abbrev tE(u0:HO)(X:Cx)(k:Nat)(wi:TI)(g:Bk->TG)(tt:Bk->TT)(te:Addr->Bk->TU):TE:=λJ H Q=>wi J H λqqq H1=>∀D,H1 D=none->Mv u0 X k g tt te qqq D J H1 Q
def rz:=tE (.lst [])
structure Ck(X:Cx)(ce tg iter:Expr)(ifs:List Expr)(aD:List Comprehension)(new:Sem Value)(u0:HO)(em:Value->Env->Sem Unit):Prop where
 cls:clausesOf ce=#[tg,iter,ifs,0]::aD
 und:Cu ce
 turn:∀it D env,compTurn ce 0 it (.ref D) env=kU ce tg iter ifs 0 it (.ref D) env (em (.ref D) env)
 new:∃o0:Obj,o0.isFreed=false/\(∀{A:Around}{E Q:Value->Shared->Prop}{s:Shared},Q (.ref s⁻¹) { s with heap:=s.heap.push o0}->wpAny (~~~2) A new Q E s)/\
  ∀(H:Hp) (h:Heap) (a:Addr),h.get? a=!o0->(a==sysModules)=false->dO X.prog X.w H h a u0
 start:∀{A:Around}{R:Result->Shared->Prop}{s:Shared}{it acc:Value}{env:Env},codeAny (~~~2) A (.compLoop ce 0 it acc env) R s->
  wpAny (~~~2) A (pyIter it) (λit' s'=>codeAny (~~~2) A (.compLoop ce 0 it' acc env) R s') (notedBy (~~~2) A env λx s'=>R (.error x) s') s->codeAny (~~~2) A (.compStart ce 0 it acc env) R s
def nG{X:Cx}{bE tg iter:Expr}{ifs:List Expr}{aD:List Comprehension}{scope:Scope}{pos:Pos}{em:Value->Env->Sem Unit}(h:∀it acc env,compTurn (.ListComp bE (#[tg,iter,ifs,0]::aD) scope pos) 0 it acc env=kU (.ListComp bE (#[tg,iter,ifs,0]::aD) scope pos) tg iter ifs 0 it acc env (em acc env)) :
  Ck X (.ListComp bE (#[tg,iter,ifs,0]::aD) scope pos) tg iter ifs aD (newList []) (.lst []) em where
 cls:=rfl
 und:=λ_ _ _ _ _ _ _=>#[rfl,rfl]
 turn:=λit D env=>h it (.ref D) env
 new:=#[_,rfl,λh=>tS h,λ_ _ _ e _=>#[oP _,[],_,.nil,e]]
 start:=codeAny_compStart_list
structure Names(N N':List Str)(scope:Scope)(k:Nat):Prop where
 len:N'.length=N.length+(k+1)
 last:∀x,N'[N.length+k]?=!x->scope.names.lookup x=none
 old:∀i x,N'[i]?=!x->i<N.length->scope.names.lookup x=none\/(N[i]?=!x/\scope.names.lookup x≠some .local)
def dZ:(relabel scope env).names.lookup x=(scope.names.lookup x).map λk=>if (k==NameKind.free&&env.scope.kind==.function&&env.kindOf x==some .cell)then NameKind.cell else k:=iI
section
variable{X:Cx}
def ou(B:bH X.env.scope scope)(h:(compEnvC scope cl C X.env).kindOf x=some .cell\/(compEnvC scope cl C X.env).kindOf x=some .free) :
  (x,NameKind.free)∈scope.names:=by
 have e:(compEnvC scope cl C X.env).kindOf x=(scope.names.lookup x).map λk=>if (k==NameKind.free&&X.env.scope.kind==.function&&X.env.kindOf x==some .cell)then NameKind.cell else k:=dZ
 rw[e]at h;cases q:scope.names.lookup x with
 |none=>rw[q]at h;rcases h with h |h <;> symm
 |some k=>
  have hm:=mem_of_lookup q;cases k with
  |free=>show hm
  |cell=>show absurd rfl (B.Gk _ hm)
  |_=>rw[q]at h;rcases h with h |h <;> (simp at h)
def Gn(B:bH X.env.scope scope)(I: ~~~7)(hC:s⁻¹<=C)
  (hf:∀b∈fp,kO X aj H b) (hfs:∀b∈fp,b<s⁻¹)
  (hcl:∀x c,cl.lookup x=!c->X.env.cells.lookup x=!c/\(x,NameKind.free)∈scope.names) (Mw:∀y∈scope.names,y.2=.free->∃c,cl.lookup y.1=!c):(X.block N' scope cl C s H fp).Ok where
 mod:=I.ok.mod
 kind:=B.kind
 glob:=I.ok.glob
 blt:=I.ok.blt
 above:=hC
 inj:=λx y c h1 h2=>I.ok.inj x y c (hcl x c h1).1 (hcl y c h2).1
 has:=λx h=>Mw _ (ou B h) rfl
 Yr:=λx c h1 h2=>by
  have e:scope.names.lookup x=some .local:=by have:(scope.names.lookup x==!NameKind.local)=true:=h1;simpa using this
  have h3:=(hcl x c h2).2;have q:=B.ZM _ h3 rfl;rw[e]at q;cases q
 hd:=I.ok.hd
 frames:=I.ok.frames
 stk:=.inl rfl
 Y4:=λb hb=>#[mP (fN (hfs b hb) hC),λx c e=>(hf b hb).2.2.2.2.1 x c (hcl x c e).1]
 bs:=I.bs
 LC:=kS I.ok.LC I.sz
 x8:=λb o e hb=>by
  let(_,_,_,h3,_):=hf b hb;rcases h3 with h3 |h3
  . show I.ok.x8 b o e h3
  . show absurd (fN (fA e) (kS I.ok.LC h3)) (u8 _)
 Cb:=λb hb hm=>by
  rcases eC.mp (I.x9 b hm)with e |e
  . show (hf b hb).2.1 e
  . show (hf b hb).2.2.1 e
 mY:=I.stack
 S7:=I.zJ
def gj{aj: ~~~1}{J:St}{H:Hp}{s:Shared}{N':List Str}{k:Nat}{wi:TI}{g:Bk->TG}{tt:Bk->TT}{tu:Addr->Bk->TU}{ce:Expr}{aD:List Comprehension}{new:Sem Value}{u0:HO}{cp:Pos}{em:Value->Env->Sem Unit}{use:Option (Value->Sem Unit)}{Q:Value->Shared->Prop}{Q0:VK}
  (B:bH X.env.scope scope) (hc:X.calm=true) (hN:Names X.N N' scope k) (hi:PI X tg iter wi) (ck:Ck X ce tg iter ifs aD new u0 em)
  (hin:∀(b:Bk) (D:Addr),PG (X.blk N' scope b) tg (g b)/\jP (X.blk N' scope b) ifs (tt b)/\PU (X.blk N' scope b) (em (.ref D) (X.blk N' scope b).env) (tu D b))
  (hs:∀x,foldedSetIterable iter X.env x=pure x) (I: ~~~7) (h:tE u0 X k wi g tt tu J H Q0)
  (fin:∀s' H' D C m,Inv X aj J H' s'->kO X aj H' C->s'.heap.Ns C m->Q0 (.ref D) H'->compPost (~~~2) X.A X.xe use Q (.ref D) C (.ok .next) s') :
  wpAny (~~~2) X.A (comprehension ce scope X.env cp new false (eval iter X.env) use) Q X.xe s:=by
 let(cl,hclos,hcl,Mw):=yt λy hy hf=>I.ok.has y.1 (B.free y hy hf)
 apply wpAny_comprehension_free ck.cls hs hclos B.kind B.uniq (cz (hi aj s J H _ I h) λxv s₁ h₁=>cz h₁ λitv s₂ h₂=>?_)
 let(it,fp,tn,qqq,H2,rfl,I2,T,aJ,f2,hW):=h₂;let(o0,fr0,new0,ok0):=ck.new;apply new0 (wpAny_newFunctionEnv B.Gk (by intro y hy;simp at hy) (λh₁ ZN Ud=>?_) B.kind)
 generalize hH2:s₂.heap.push o0=P2 at ZN Ud ⊢
 have hC:P2.objs.size=s₂⁻¹+1:=by rw[<- hH2,CF]
 have hDC:s₂⁻¹≠P2.objs.size:=by rw[hC];show mP (xL _)
 have Ue:s₂⁻¹<=P2.objs.size:=by rw[hC];show BI _
 have old:∀b o,s₂.heap.get? b=!o->h₁.get? b=!o:=λb o e=>Ud.extBut b o (mP (by rw[hC];show Nat.lt_succ_of_lt (fA e))) (dE _ (hH2▸dE _ e))
 have hD0:=I2.hok.fresh (d5 _);have hC0:=I2.hok.fresh Ue;have nsys:(s₂⁻¹==sysModules)=false:=by
  have h1:=(I2.ok.mod.glob.keeps I2.bk).lt;apply Bool.eq_false_iff.mpr λq=>?_
  have q:=eq_of_beq q;rw[q]at h1;show absurd h1 ⋯
 have fps:∀b∈fp,b<s₂⁻¹:=λb hb=>by
  let(o,e,_):=T.obj _ _ aJ b hb;show fA e
 have ok':=Gn (N':=N') B I2 Ue f2 fps hcl Mw;let(W,(m0,w0),turn):=hW s₂⁻¹ hD0;have fsub:∀b∈fp,b∉frs X.stack:=λb hb=>ok'.Cb b hb
 let(hg,ht,he):=hin #[cl,P2.objs.size,s₂,H2,fp] s₂⁻¹;have I0:Inv (X.block N' scope cl P2.objs.size s₂ H2 fp) [] (σC k s₂⁻¹ J) (upd H2 s₂⁻¹ u0) { s₂ with heap:=h₁,toks:=s₂.toks+([]:List (Str×Value)).length}:=by
  apply#[ok',rfl,I2.bare,Un.laid old (d5 _) hD0,#[_,ZN,λi x v e1 e2 e3=>?_],λx c e=>?_,?_,λx c e=>?_,λp hp=>?_,I2.hok.laid old (d5 _) ?_,?_]
  .
   have ZP:(compEnvC scope cl P2.objs.size X.env).kindOf x=some .local\/(compEnvC scope cl P2.objs.size X.env).kindOf x=some .cell\/(compEnvC scope cl P2.objs.size X.env).kindOf x=some .free:=e3;have ek:(compEnvC scope cl P2.objs.size X.env).kindOf x=(scope.names.lookup x).map λk=>if (k==NameKind.free&&X.env.scope.kind==.function&&X.env.kindOf x==some .cell)then NameKind.cell else k:=dZ
   have Y7:i<J.length:=by
    rcases u4 i J.length with z |z
    . show z
    .
     exfalso;delta σC at e2;rw[b6 z]at e2;rcases u4 (i - J.length) k with z2 |z2
     .
      rw[b8 (by rw[nE];show z2)]at e2
      have:=lL e2;rw[AI]at this;show absurd this.2 ⋯
     .
      rw[b6 (by rw[nE];show z2),nE]at e2
      have z3:i - J.length - k=0:=by
       rcases Nat.eq_zero_or_pos (i - J.length - k)with q |q
       . show q
       . rw[x5 (Nat.succ_le_of_lt q)]at e2;cases e2
      have z4:i=X.N.length+k:=by rw[<- I2.len];lia
      have hn:=hN.last x (by rw[<- z4];show e1)
      rw[ek,hn]at ZP;rcases ZP with q |q |q <;> cases q
   have e2':J[i]?=!(!v):=by delta σC at e2;rw[b8 Y7]at e2;show e2
   have hiN:i<X.N.length:=by rw[<- I2.len];show Y7
   rcases hN.old i x e1 hiN with z |⟨z,z2⟩
   . rw[ek,z]at ZP;rcases ZP with q |q |q <;> cases q
   .
    have hfree:(compEnvC scope cl P2.objs.size X.env).kindOf x=some .cell\/(compEnvC scope cl P2.objs.size X.env).kindOf x=some .free:=by
     rcases ZP with q |q
     .
      exfalso;rw[ek]at q;cases hq:scope.names.lookup x with
      |none=>rw[hq]at q;cases q
      |some kk=>
       rw[hq]at q;cases kk with
       | «local»=>show z2 hq
       |free=>simp only[AR]at q;split at q <;> cases q
       |_=>simp at q
     . show q
    have hm:=ou B hfree;let(c,hc1):=Mw _ hm rfl;have ZQ:=hc1;have hc2:=(hcl x c ZQ).1;let(m2,hn2,hl2):=I2.loc;have hvis:mh X.env.scope x:=(B.free _ hm rfl).elim (λa=>.inr (.inl a)) λa=>.inr (.inr a)
    let(u,ru,lk):=hl2 i x v z e2' hvis;apply#[u,ru,.inr #[hfree,c,ZQ,?_]];rcases lk with ⟨q1,_⟩ |⟨_,c',q1,q2⟩
    .
     exfalso;have Lh:X.env.scope.names.lookup x=some .local:=q1;rcases B.free _ hm rfl with y |y
     . have y':=y;rw[Lh]at y';cases y'
     . have y':=y;rw[Lh]at y';cases y'
    . rw[hc2]at q1;cases q1;let(o,ho,hd):=q2;show#[o,old _ _ ho,hd]
  . let(v,o,ho,hd):=I2.cell x c (hcl x c e).1;show#[v,o,old _ _ ho,hd]
  . exact upd H2 s₂⁻¹ u0 P2.objs.size=none;rw[aB (AJ hDC)];show hC0
  . have q:=I2.jo x c (hcl x c e).1;let(v,z):=I2.cell x c (hcl x c e).1;rw[aB (mP z.lt)];show q
  . show absurd (show p∈([]: ~~~1)from hp) ⋯
  . show ok0 _ _ _ (Ud.extBut _ _ hDC (dE _ (hH2▸eM _ fr0))) nsys
  . exact (σC k s₂⁻¹ J).length=N'.length;delta σC;rw[dS,dS,nE,hN.len,I2.len];rfl
 have stat:∀{H':Hp},(∀b∈fp,H' b=none)->∀b∈fp,kO (X.block N' scope cl P2.objs.size s₂ H2 fp) [] H' b:=λhn b hb=>
  #[hn b hb,(ok'.Y4 b hb).1,fsub b hb,.inl hb,λx c e=>(ok'.Y4 b hb).2 x c e,λp hp=>absurd (show p∈([]: ~~~1)from hp) ⋯]
 have loop:∀s₃:Shared,s₃={ s₂ with heap:=h₁,toks:=s₂.toks+([]:List (Str×Value)).length}->
   codeAny (~~~2) X.A (.compLoop ce 0 (.ref it) (.ref s₂⁻¹) (compEnvC scope cl P2.objs.size X.env))
    (compPost (~~~2) X.A X.xe use Q (.ref s₂⁻¹) P2.objs.size) s₃:=by
  rintro s₃ rfl;apply jQ ck.und (ck.turn _ _ _) (λn s'=>∃i σ' H',Inv (X.block N' scope cl P2.objs.size s₂ H2 fp) [] σ' H' s'/\tn i s'.heap/\(∀b∈fp,H' b=none)/\W i n σ' H') ?_ m0
   #[0,_,_,I0,T.keep _ _ _ aJ λb hb o e=>old b o e,λb hb=>?_,w0]
  .
   rintro n s3 ⟨i,σ3,H3,I3,cH,Rm,w3⟩;rcases turn i n σ3 H3 w3 with ⟨stop,qn⟩ |⟨go,Nn,hNn,step⟩
   .
    apply cz (T.done (X.block N' scope cl P2.objs.size s₂ H2 fp) rfl rfl rfl hc i [] s3 σ3 H3 (λ_ _=>False) I3 (stat Rm) cH stop) λr s4 #[hr,I4]=>?_
    subst hr;let(m,hm,_):=id I4.loc;have I5:=I2.call' I4.os I4.base I4.hok I4.bare λb hb=>#[(f2 b hb).2.2.2.1,(f2 b hb).2.1,(f2 b hb).2.2.2.2.1,(f2 b hb).2.2.2.2.2]
    show fin s4 H3 _ _ m I5 (I2.yh Ue I4.free) hm qn
   .
    apply cz (T.item (X.block N' scope cl P2.objs.size s₂ H2 fp) rfl rfl rfl hc i [] s3 σ3 H3 (λ_ _=>False) I3 (stat Rm) cH go) λr s4 #[u,hr,h4]=>?_
    subst hr;apply cz h4 ?_;rintro _ s5 ⟨x,H5,I5,r5,y5,jq,Zk⟩;have Zm:=I5.pinned (stat Zk) (T.obj _ _ jq);have again:∀{σ7:St}{H7:Hp}{s7:Shared},Inv (X.block N' scope cl P2.objs.size s₂ H2 fp) ([]++kP fp s5.heap) σ7 H7 s7->Nn σ7 H7->∃m,m<n/\∃i σ' H',Inv (X.block N' scope cl P2.objs.size s₂ H2 fp) [] σ' H' s7/\tn i s7.heap/\(∀b∈fp,H' b=none)/\W i m σ' H':=λ{σ7 H7 s7} I7 n7=>by
     let(m',hm,w7):=hNn σ7 H7 n7;apply#[m',hm,i+1,σ7,H7,I7.iH,T.keep _ _ _ jq λb hb o e=>(I7.pin (b,o) (gL _ (gL _ (dh hb e)))).1,λb hb=>?_,w7]
     let(o,e,d):=T.obj _ _ jq b hb;show (I7.pin (b,o) (gL _ (gL _ (dh hb e)))).2.1
    apply cz (hg _ s5 σ3 H5 x u _ Zm r5 (step x H5 y5 #[cl,P2.objs.size,s₂,H2,fp] #[aj,I2,f2])) ?_;rintro _ s6 ⟨σ6,H6,I6,q6⟩;apply cz (ht _ s6 σ6 H6 _ I6 q6) ?_;rintro b s7 ⟨H7,I7,q7⟩;cases b with
    |false=>show again I7 q7
    |true=>show o5 (he _ s7 σ6 H7 _ I7 q7) (by rintro _ s9 ⟨σ9,H9,I9,q9⟩;show again I9 q9) λ_ _ z=>z
  . exact upd H2 s₂⁻¹ u0 b=none;rw[aB (mP (fps b hb))];show (f2 b hb).1
 apply ck.start (loop _ rfl) (T.self _ 0 _ _ _ ?_ (loop _ rfl));show T.keep _ _ _ aJ λb hb o e=>old b o e
def Mx{N':List Str}{k:Nat}{wi:TI}{g:Bk->TG}{tt:Bk->TT}{te:Bk->TE}(B:bH X.env.scope scope)(hc:X.calm=true)(hN:Names X.N N' scope k)(hi:PI X tg iter wi)
  (hin:∀b:Bk,PG (X.blk N' scope b) tg (g b)/\jP (X.blk N' scope b) ifs (tt b)/\PE (X.blk N' scope b) bE (te b))
  (hs:∀x,foldedSetIterable iter X.env x=pure x:=by intro _;rfl):PE X (.ListComp bE [#[tg,iter,ifs,0]] scope pos) (rz X k wi g tt λD b=>uZ D (te b)):=by
 intro aj s J H Q I h;apply gj B hc hN hi (nG λ_ _ _=>rfl) (λb D=>#[(hin b).1,(hin b).2.1,tB (hin b).2.2 rfl]) hs I h λs' H' D C m I' f' hn q=>?_
 apply#[m,hn,λh' sb=>#[.ref D,H',?_,rfl,q]]
 let(f0,f1,f2,f3,f4,f5):=f';show I'.turned (λb o hb e=>(sb.2 b hb).trans e) f0 f1 f3 f4 f5
def zR{N':List Str}{k:Nat}{wi:TI}{g:Bk->TG}{tt:Bk->TT}{te:Bk->TE}{i:Nat}{y:Str}{py dM:Pos}(B:bH X.env.scope scope)(hc:X.calm=true)(hN:Names X.N N' scope k)(hi:PI X tg iter wi)
  (hin:∀b:Bk,PG (X.blk N' scope b) tg (g b)/\jP (X.blk N' scope b) ifs (tt b)/\PE (X.blk N' scope b) bE (te b))
  (Gp:X.N.Nodup) (hy:X.N[i]?=!y) (hl:X.env.scope.names.lookup y=some .local)
  (hsw:swapsWith (.ListComp bE [#[tg,iter,ifs,0]] scope pos) (!(.Name y py)) dM.line X.env=pure true)
  (hs:∀x,foldedSetIterable iter X.env x=pure x:=by intro _;rfl):PS X (.Assign [.Name y py] (.ListComp bE [#[tg,iter,ifs,0]] scope pos) dM) (L1 (rz X k wi g tt λD b=>uZ D (te b)) (uS i)):=by
 intro aj s J H D0 I h;rw[exec_Assign_Name_used _ _ _ _ hsw];apply aS (wT (aS ?_));apply aS (o5 (gj B hc hN hi (nG λ_ _ _=>rfl) (λb D=>#[(hin b).1,(hin b).2.1,tB (hin b).2.2 rfl]) hs I h λs' H' D C m I' f' hn q=>?_) (λ_ s' hq=>dC (dC hq)) λ_ _ e=>e)
 apply wpAny_assign_Name (kN I' Gp hy (.inl hl) (v:=.ref D) rfl (λs2 I2 hsb=>?_) (.inr hl))
 let(f0,f1,f2,f3,f4,f5):=f';let(a,sb,ha):=hsb;have nC:C≠a:=by
  rcases ha with e |e
  . rw[e];show f1
  . show AJ (f4 _ _ e)
 apply#[m,hn.sameBut sb nC,λh' sb'=>#[_,H',?_,q]]
 show I2.turned (λb o hb e=>(sb'.2 b hb).trans e) f0 f1 f3 f4 f5
end
section
def eT
  (h0:codeAny (model prog w) A (.compLoop (.ListComp bE [#[t1,i1,f1,0],#[target,iter,ifs,0]] scope pos) 1 it acc env) R s)
  (h:wpAny (model prog w) A (pyIter it) (λit' s'=>codeAny (model prog w) A (.compLoop (.ListComp bE [#[t1,i1,f1,0],#[target,iter,ifs,0]] scope pos) 1 it' acc env) R s') (λ_ _=>False) s) :
  codeAny (model prog w) A (.compStart (.ListComp bE [#[t1,i1,f1,0],#[target,iter,ifs,0]] scope pos) 1 it acc env) R s:=by
 apply codeAny_of_tree ?_;apply wpAny_notedAt ?_;apply aS (AK (wpAny_ite ?_));split
 .
  first
   |show aS (dC (dC (And.intro rfl h0)))
   |show dC (And.intro rfl h0)
 .
  first
   |show aS (y8 (aS (wT (aS (o5 h (λit' s' h'=>dC (And.intro rfl h')) λ_ _ x=>x.elim)))))
   | (apply aS (y8 ?_);exact wpAny _ _ (standAt iter.pos >>= _) _ _ s;show aS (wT (aS (o5 h (λit' s' h'=>dC (And.intro rfl h')) λ_ _ x=>x.elim))))
end
abbrev Ug(ce iter:Expr)(acc:Value)(env:Env):Sem Unit:=do
 let x <- eval iter env
 standAt iter.pos
 let x <- foldedSetIterable iter env x
 let _ <- runOwn (.compStart ce 1 (<- holding [x] (pyIter x)) acc env) env
abbrev ZR(wi:TI)(g:TG)(tt:TT)(tu:TU):TU:=λJ H Q=>wi J H λqqq H1=>∃W:Nat->Nat->St->Hp->Prop,(∃m,W 0 m J H1)/\∀i m σ' H',W i m σ' H'->
 (qqq.stop i H'/\Q σ' H')\/(qqq.go i H'/\∃Nn:St->Hp->Prop,(∀Cz CG,Nn Cz CG->∃m',m'<m/\W (i+1) m' Cz CG)/\∀x H2,qqq.Yu i H' x H2->g x σ' H2 λσ2 H3=>tt σ2 H3 λb H4=>if b=true then tu σ2 H4 Nn else Nn σ2 H4)
abbrev Cs(X:Cx)(ce:Expr)(acc:Value):Prop:=∀{R:Result->Shared->Prop}{s:Shared}{it:Value},codeAny (~~~2) X.A (.compLoop ce 1 it acc X.env) R s->
 wpAny (~~~2) X.A (pyIter it) (λit' s'=>codeAny (~~~2) X.A (.compLoop ce 1 it' acc X.env) R s') (λ_ _=>False) s->codeAny (~~~2) X.A (.compStart ce 1 it acc X.env) R s
def Rq{X:Cx}{ce tg iter:Expr}{ifs:List Expr}{D:Addr}{wi:TI}{g:TG}{tt:TT}{tu:TU}{em:Sem Unit}(hc:X.calm=true)(hx:X.xe=λ_ _=>False)(hu:Cu ce)(hrn:∀it,compTurn ce 1 it (.ref D) X.env=kU ce tg iter ifs 1 it (.ref D) X.env em)(fL:Cs X ce (.ref D))(hi:PI X tg iter wi)(hg:PG X tg g)(ht:jP X ifs tt)(he:PU X em tu)(hs:∀x,foldedSetIterable iter X.env x=pure x) :
  PU X (Ug ce iter (.ref D) X.env) (ZR wi g tt tu):=by
 intro aj s J H Q I h;have hi:=hi aj s J H _ I h;rw[hx]at hi;apply aS (o5 hi (λv s1 h1=>?_) λ_ _ z=>z)
 apply aS (wT ?_);rw[hs v];apply aS (dC ?_);apply aS (nN (o5 h1 (λitv s2 h2=>?_) λ_ _ z=>z))
 let(it,fp,tn,qqq,H2,rfl,I2,T,aJ,f2,W,(m0,w0),turn):=h2;have stat:∀{H':Hp},(∀b∈fp,H' b=none)->∀b∈fp,kO X aj H' b:=λhn b hb=>#[hn b hb,(f2 b hb).2]
 have loop:codeAny (~~~2) X.A (.compLoop ce 1 (.ref it) (.ref D) X.env) (λr s'=>match r with |.ok f=>∃σ' H',Inv X aj σ' H' s'/\Q σ' H' |.error e=>False) s2:=by
  apply jQ hu (hrn _) (λn s'=>∃i σ' H',Inv X aj σ' H' s'/\tn i s'.heap/\(∀b∈fp,H' b=none)/\W i n σ' H') ?_ m0 #[0,J,H2,I2,aJ,λb hb=>(f2 b hb).1,w0]
  rintro n s3 ⟨i,σ3,H3,I3,cH,Rm,w3⟩;rcases turn i n σ3 H3 w3 with ⟨stop,qn⟩ |⟨go,Nn,hN,step⟩
  .
   apply cz (T.done X rfl rfl rfl hc i aj s3 σ3 H3 (λ_ _=>False) I3 (stat Rm) cH stop) λr s4 #[hr,I4]=>?_
   subst hr;show#[σ3,H3,I4,qn]
  .
   apply cz (T.item X rfl rfl rfl hc i aj s3 σ3 H3 (λ_ _=>False) I3 (stat Rm) cH go) λr s4 #[u,hr,h4]=>?_
   subst hr;apply cz h4 ?_;rintro _ s5 ⟨x,H5,I5,r5,y5,jq,Zk⟩;have Zm:=I5.pinned (stat Zk) (T.obj _ _ jq);have again:∀{σ7:St}{H7:Hp}{s7:Shared},Inv X (aj++kP fp s5.heap) σ7 H7 s7->Nn σ7 H7->∃m,m<n/\∃i σ' H',Inv X aj σ' H' s7/\tn i s7.heap/\(∀b∈fp,H' b=none)/\W i m σ' H':=λ{σ7 H7 s7} I7 n7=>by
    let(m',hm,w7):=hN σ7 H7 n7;apply#[m',hm,i+1,σ7,H7,I7.iH,T.keep _ _ _ jq λb hb o e=>(I7.pin (b,o) (gL _ (gL _ (dh hb e)))).1,λb hb=>?_,w7]
    let(o,e,d):=T.obj _ _ jq b hb;show (I7.pin (b,o) (gL _ (gL _ (dh hb e)))).2.1
   have hg:=hg _ s5 σ3 H5 x u _ Zm r5 (step x H5 y5);rw[hx]at hg;apply cz hg ?_;rintro _ s6 ⟨σ6,H6,I6,q6⟩;have ht:=ht _ s6 σ6 H6 _ I6 q6;rw[hx]at ht;apply cz ht ?_;rintro b s7 ⟨H7,I7,q7⟩;cases b with
   |false=>show again I7 q7
   |true=>show o5 (he _ s7 σ6 H7 _ I7 q7) (by rintro _ s9 ⟨σ9,H9,I9,q9⟩;show again I9 q9) λ_ _ z=>z
 have start:=fL loop (T.self _ 0 _ _ _ aJ loop);apply aS (wpAny_runOwn (codeAny_mono start λr s' hr=>?_))
 cases r with
 |error e=>show hr.elim
 |ok f=>show dC hr
def u5{bE t1 i1 tg iter:Expr}{f1 ifs:List Expr}{scope:Scope}{pos:Pos}{it acc:Value}{env:Env}:compTurn (.ListComp bE [#[t1,i1,f1,0],#[tg,iter,ifs,0]] scope pos) 0 it acc env=kU (.ListComp bE [#[t1,i1,f1,0],#[tg,iter,ifs,0]] scope pos) t1 i1 f1 0 it acc env (Ug (.ListComp bE [#[t1,i1,f1,0],#[tg,iter,ifs,0]] scope pos) iter acc env):=by
 exact (standAt i1.pos >>= λ_=>pyNext it >>= λr=>_)=(standAt i1.pos >>= λ_=>pyNext it >>= λr=>_)
 congr 1;funext _;congr 1;funext r
 cases r with
 |none=>rfl
 |some v=>
  exact (letOwnedTupleGo t1 it v >>= λ_=>assign t1 env v >>= λ_=>_ >>= λok=>_)=(letOwnedTupleGo t1 it v >>= λ_=>assign t1 env v >>= λ_=>_ >>= λok=>_)
  congr 1;funext _;congr 1;funext _;congr 1;funext ok
  cases ok with
  |false=>rfl
  |true=>delta Ug;simp only[bind_assoc];rfl
section
def Gq{N':List Str}{k:Nat}{w1:TI}{w2:Bk->TI}{g1 g2:Bk->TG}{Rr ZS:Bk->TT}{te:Bk->TE}(B:bH X.env.scope scope)(hc:X.calm=true)(hN:Names X.N N' scope k)(hi:PI X t1 i1 w1)
  (hin:∀b:Bk,(PG (X.blk N' scope b) t1 (g1 b)/\jP (X.blk N' scope b) f1 (Rr b))/\PI (X.blk N' scope b) tg iter (w2 b)/\PG (X.blk N' scope b) tg (g2 b)/\jP (X.blk N' scope b) ifs (ZS b)/\PE (X.blk N' scope b) bE (te b))
  (hs:∀x,foldedSetIterable i1 X.env x=pure x) (hs2:∀(b:Bk) x,foldedSetIterable iter (X.blk N' scope b).env x=pure x) :
  PE X (.ListComp bE [#[t1,i1,f1,0],#[tg,iter,ifs,0]] scope pos) (rz X k w1 g1 Rr λD b=>ZR (w2 b) (g2 b) (ZS b) (uZ D (te b))):=by
 intro aj s J H Q I h;apply gj B hc hN hi (nG λ_ _ _=>u5) (λb D=>#[(hin b).1.1,(hin b).1.2,Rq hc rfl (λ_ _ _ _ _ _ _=>#[rfl,rfl]) (λ_=>rfl) eT (hin b).2.1 (hin b).2.2.1 (hin b).2.2.2.1 (tB (hin b).2.2.2.2 rfl) (hs2 b)]) hs I h λs' H' D C m I' f' hn q=>?_
 apply#[m,hn,λh' sb=>#[.ref D,H',?_,rfl,q]]
 let(f0,f1,f2,f3,f4,f5):=f';show I'.turned (λb o hb e=>(sb.2 b hb).trans e) f0 f1 f3 f4 f5
def Gr{N':List Str}{k:Nat}{w1:TI}{w2:Bk->TI}{g1 g2:Bk->TG}{Rr ZS:Bk->TT}{te:Bk->TE}{i:Nat}{y:Str}{py dM:Pos}(B:bH X.env.scope scope)(hc:X.calm=true)(hN:Names X.N N' scope k)(hi:PI X t1 i1 w1)
  (hin:∀b:Bk,(PG (X.blk N' scope b) t1 (g1 b)/\jP (X.blk N' scope b) f1 (Rr b))/\PI (X.blk N' scope b) tg iter (w2 b)/\PG (X.blk N' scope b) tg (g2 b)/\jP (X.blk N' scope b) ifs (ZS b)/\PE (X.blk N' scope b) bE (te b))
  (Gp:X.N.Nodup) (hy:X.N[i]?=!y) (hl:X.env.scope.names.lookup y=some .local)
  (hsw:swapsWith (.ListComp bE [#[t1,i1,f1,0],#[tg,iter,ifs,0]] scope pos) (!(.Name y py)) dM.line X.env=pure true)
  (hs:∀x,foldedSetIterable i1 X.env x=pure x) (hs2:∀(b:Bk) x,foldedSetIterable iter (X.blk N' scope b).env x=pure x) :
  PS X (.Assign [.Name y py] (.ListComp bE [#[t1,i1,f1,0],#[tg,iter,ifs,0]] scope pos) dM) (L1 (rz X k w1 g1 Rr λD b=>ZR (w2 b) (g2 b) (ZS b) (uZ D (te b))) (uS i)):=by
 intro aj s J H D0 I h;rw[exec_Assign_Name_used _ _ _ _ hsw];apply aS (wT (aS ?_));apply aS (o5 (gj B hc hN hi (nG λ_ _ _=>u5) (λb D=>#[(hin b).1.1,(hin b).1.2,Rq hc rfl (λ_ _ _ _ _ _ _=>#[rfl,rfl]) (λ_=>rfl) eT (hin b).2.1 (hin b).2.2.1 (hin b).2.2.2.1 (tB (hin b).2.2.2.2 rfl) (hs2 b)]) hs I h λs' H' D C m I' f' hn q=>?_) (λ_ s' hq=>dC (dC hq)) λ_ _ e=>e)
 apply wpAny_assign_Name (kN I' Gp hy (.inl hl) (v:=.ref D) rfl (λs2 I2 hsb=>?_) (.inr hl))
 let(f0,f1,f2,f3,f4,f5):=f';let(a,sb,ha):=hsb;have nC:C≠a:=by
  rcases ha with e |e
  . rw[e];show f1
  . show AJ (f4 _ _ e)
 apply#[m,hn.sameBut sb nC,λh' sb'=>#[_,H',?_,q]]
 show I2.turned (λb o hb e=>(sb'.2 b hb).trans e) f0 f1 f3 f4 f5
end
meta abbrev kI(m:List (Int×Int)):List (Key×V):=m.map λp=>((Sum.inl p.1:Key),V.int p.2)
meta abbrev dI(m:List (Int×Int)):HO:=.dK (kI m)
end L2
namespace Ev
open L2
inductive D where
 |non |bl (b:Bool) |int (i:Int) |str (x:Str) |tup (l:List D) |lst (l:List D) |fix (l:List D) |emp (m:List (Int×Int)) |Gs (C:Addr) |Rt (ks: ~~~5) (ds:List D)
 deriving Inhabited
inductive Slot where
 |no |dat (d:D) |own (l:List D)
 deriving Inhabited
inductive R where
 |dat (d:D) |new (l:List D) |var (i:Nat)
 deriving Inhabited
def G:=List Slot
def Sg:=L2.St
meta abbrev K0:Hp:=λ_=>none
abbrev LstAt(M:List Addr)(H:Hp)(a:Addr)(xs:List V):Prop:=a∉M/\H a=!(.lst xs)
abbrev rA(K:Frag)(M:List Addr)(H:Hp)(a:Addr)(xs:List V):Prop:=(a∉M/\∃o,H a=!(.BZ o (.lst xs)))\/dQ K K0 a xs
abbrev TupAt(K:Frag)(M:List Addr)(H:Hp)(a:Addr)(xs:List V):Prop:=(a∉M/\Rd H a (.tup xs))\/(iE K K0 a xs/\∃o,K.lookup a=!o/\o.dict=none)
def rd0(h:Rd K0 a u):False:=by rcases h with h |⟨o,h⟩ <;> symm
def rA.sq{K:Frag}{M:List Addr}{H:Hp}{a:Addr}{xs:List V}(h:rA K M H a xs):dQ K H a xs:=by
 rcases h with ⟨_,o,h⟩ |h |h
 . show .inl (.inr #[o,h])
 . show (rd0 h).elim
 . show .inr h
def TupAt.sq{K:Frag}{M:List Addr}{H:Hp}{a:Addr}{xs:List V}(h:TupAt K M H a xs):iE K H a xs:=by
 rcases h with ⟨_,h⟩ |⟨h |h,_⟩
 . show .inl h
 . show (rd0 h).elim
 . show .inr h
meta abbrev ExnO(C a:Addr):HO:=.ext λh=>∃o,h.get? a=!o/\o.cls=.ref C/\PySem.W.notCls o=true/\o.dict=none
structure ZT(K:Frag)(C:Addr):Prop where
 gga:PySem.W.findIn K (.ref C) "__getattribute__"=!(!(.builtin "BaseException.__getattribute__"))
 gat:PySem.W.findIn K (.ref C) "__getattr__"=!none
 bas:PySem.W.mroIn K C (.type "BaseException")=!true
 dct:PySem.W.hasDictIn K C=true
 cls:PySem.W.findIn K (.ref C) "__class__"=!(!(.builtin "object.__class__"))
 spc:PySem.W.specialIn K (.builtin "object.__class__") "__get__"=!(!(.builtin "getset_descriptor.__get__"))
 tks:PySem.W.takesIn K (.builtin "object.__class__")=!true
 mro:PySem.W.mroIn K C (.type "object")=!true
 kit:∀n∈["int", "bool", "str", "tuple", "list", "dict"],PySem.W.kitOne K (.ref C) (.type n)=!false
meta abbrev dicO(ks: ~~~5)(vs:List V):HO:=.dT ((ks.map (List.map Sum.inl)).zip vs)
abbrev Uh:HO->Prop
 |.lst _ |.dT _ |.set _ |.dK _=>True
 |_=>False
mutual
inductive Rep(K:Frag)(M:List Addr)(H:Hp):D->V->Prop
 |non:Rep K M H .non .non
 |bl (b:Bool):Rep K M H (.bl b) (.bl b)
 |int (i:Int):Rep K M H (.int i) (.int i)
 |str (x:Str):Rep K M H (.str x) (.str x)
 |tup {l:List D}{a:Addr}{xs:List V}:TupAt K M H a xs->aK K M H l xs->Rep K M H (.tup l) (.ref a)
 |lst {l:List D}{a:Addr}{xs:List V}:LstAt M H a xs->aK K M H l xs->Rep K M H (.lst l) (.ref a)
 |fix {l:List D}{a:Addr}{xs:List V}:rA K M H a xs->aK K M H l xs->Rep K M H (.fix l) (.ref a)
 |emp {m:List (Int×Int)}{o:Obj}{a:Addr}:a∉M->H a=!(.BZ o (dI m))->Rep K M H (.emp m) (.ref a)
 |Gs:ZT K C->a∉M->H a=!(ExnO C a)->Rep K M H (.Gs C) (.ref a)
 |Rt:a∉M->H a=!(dicO ks vs)->ks.length=vs.length->aK K M H ds vs->Rep K M H (.Rt ks ds) (.ref a)
inductive aK(K:Frag)(M:List Addr)(H:Hp):List D->List V->Prop
 |nil:aK K M H [] []
 |cons {d:D}{ds:List D}{x:V}{xs:List V}:Rep K M H d x->aK K M H ds xs->aK K M H (d::ds) (x::xs)
end
abbrev aq(M:List Addr)(H:Hp)(M':List Addr)(H':Hp):Prop:=∀b o,H b=!o->b∉M->H' b=!o/\b∉M'
def aq.rd(h:aq M H M' H')(n:a∉M)(r:Rd H a u):a∉M'/\Rd H' a u:=by
 rcases r with r |⟨o,r⟩
 . show#[(h _ _ r n).2,.inl (h _ _ r n).1]
 . show#[(h _ _ r n).2,.inr #[o,(h _ _ r n).1]]
def Rep.stay{K:Frag}{M M':List Addr}{H H':Hp}(h:aq M H M' H'){d:D}{v:V}(r:Rep K M H d v):Rep K M' H' d v:=by
 apply Rep.rec .non .bl .int .str (λt _ q=>?_) (λt _ q=>?_) (λt _ q=>?_) (λn r=>.emp (h _ _ r n).2 (h _ _ r n).1) (λx n r=>.Gs x (h _ _ r n).2 (h _ _ r n).1) (λn r l _ q=>.Rt (h _ _ r n).2 (h _ _ r n).1 l q) .nil (λ_ _ a b=>.cons a b) r
 .
  rcases t with t |t
  . show .tup (.inl (h.rd t.1 t.2)) q
  . show .tup (.inr t) q
 . show .lst #[(h _ _ t.2 t.1).2,(h _ _ t.2 t.1).1] q
 .
  rcases t with ⟨n,o,r⟩ |t
  . show .fix (.inl #[(h _ _ r n).2,o,(h _ _ r n).1]) q
  . show .fix (.inr t) q
def aK.stay{K:Frag}{M M':List Addr}{H H':Hp}(h:aq M H M' H'):∀{ds:List D}{vs:List V},aK K M H ds vs->aK K M' H' ds vs:=by
 intro ds
 induction ds with
 |nil=>intro vs q;cases q;show .nil
 |cons d ds ih=>intro vs q;cases q with |cons a b=>show .cons (a.stay h) (ih b)
def aq.refl(M:List Addr)(H:Hp):aq M H M H:=λ_ _ e n=>#[e,n]
def aq.trans(a:aq M H M1 H1)(b:aq M1 H1 M2 H2):aq M H M2 H2:=λc o e n=>b c o (a c o e n).1 (a c o e n).2
def aq.less(h:∀m∈M',m∈M):aq M H M' H:=λ_ _ e n=>#[e,λz=>n (h _ z)]
def aq.laid(hp:H p=none):aq M H M (upd H p o):=λb u e n=>#[by rw[aB (aO e hp)];show e,n]
def aq.bw(hp:H p=none):aq M H (p::M) (upd H p o):=λb u e n=>
 #[by rw[aB (aO e hp)];show e,λz=>(eC.mp z).elim (λq=>aO e hp q) n]
def aq.write(hp:p∈M):aq M H M (upd H p o):=λb u e n=>#[by rw[aB (λq=>n (by rw[q];show hp))];show e,n]
def aK.length{K:Frag}{M:List Addr}{H:Hp}{ds:List D}{vs:List V}(r:aK K M H ds vs):ds.length=vs.length:=by
 induction ds generalizing vs with
 |nil=>cases r;rfl
 |cons d ds ih=>cases r with |cons a b=>show congrArg (· + 1) (ih b)
def aK.append{K:Frag}{M:List Addr}{H:Hp}{ds es:List D}{vs ws:List V}(r:aK K M H ds vs)(s:aK K M H es ws):aK K M H (ds++es) (vs++ws):=by
 induction ds generalizing vs with
 |nil=>cases r;show s
 |cons d ds ih=>cases r with |cons a b=>show .cons a (ih b)
def aK.get{K:Frag}{M:List Addr}{H:Hp}{ds:List D}{vs:List V}{i:Nat}{d:D}(r:aK K M H ds vs)(e:ds[i]?=!d):∃v,vs[i]?=!v/\Rep K M H d v:=by
 induction ds generalizing vs i with
 |nil=>show nomatch (show none=!d from e)
 |cons d' ds ih=>cases r with |cons a b=>cases i with
  |zero=>cases (show some d'=!d from e);show#[_,rfl,a]
  |succ i=>let(v,h):=ih b e;show#[v,h]
def aK.set{K:Frag}{M:List Addr}{H:Hp}{d:D}{v:V}(r:Rep K M H d v){ds:List D}{vs:List V}(i:Nat)(q:aK K M H ds vs):aK K M H (ds.set i d) (vs.set i v):=by
 induction ds generalizing vs i with
 |nil=>cases q;show .nil
 |cons d' ds ih=>cases q with |cons a b=>cases i with
  |zero=>show .cons r b
  |succ i=>show .cons a (ih i b)
inductive Slots(K:Frag)(M:List Addr)(H:Hp):G->Sg->List Addr->Prop
 |nil:Slots K M H [] [] []
 |no:Slots K M H g J As->Slots K M H (.no::g) (v::J) As
 |dat {g:G}{J:Sg}{As:List Addr}{v:V}{d:D}:Rep K M H d v->Slots K M H g J As->Slots K M H (.dat d::g) (some v::J) As
 |own {g:G}{J:Sg}{As:List Addr}{a:Addr}{xs:List V}{ds:List D}:H a=!(.lst xs)->aK K M H ds xs->Slots K M H g J As->Slots K M H (.own ds::g) (some (.ref a)::J) (a::As)
def Slots.stay{K:Frag}{M M':List Addr}{H H':Hp}(h:aq M H M' H'){g:G}{J:Sg}{As:List Addr}(k:∀a∈As,∀o,H a=!o->H' a=!o)(q:Slots K M H g J As):Slots K M' H' g J As:=by
 induction q with
 |nil=>show .nil
 |no q ih=>show .no (ih k)
 |dat r q ih=>show .dat (r.stay h) (ih k)
 |own e r q ih=>show .own (k _ dA _ e) (r.stay h) (ih λa ha=>k a (b0 _ ha))
abbrev u6:List Str:=["law"]
abbrev Gu(n:Str):Str:=n ++ ".<locals>." ++ "<lambda>"
abbrev eU(K:Frag):List (Addr×Str):=K.filterMap λp=>match p.2.data with
 |.fields vs=>(match vs.toList with
  |_::.str n _::_=>if u6.contains n=true then (match vs.toList[11]? with
   |!(Value.ref q)=>if (K.lookup q).isNone=true then some (q,Gu n)else none
   |_=>none)else none
  |_=>none)
 |_=>none
structure Z where
 K:Frag
 H0:Hp
 M0:List Addr
 lent:List (Nat×Addr)
 T:List (Addr×Str)
meta abbrev LamC(q:Str)(c:Addr):HO:=.ext λh=>h.CodeRec (.ref c) q
abbrev TabOk(H:Hp)(p:Addr×Str):Prop:=∃ps:Array Value,H p.1=!(.Fq ps)/\TriplesOk ps.toList/\∀pos cv,codeAmong pos ps.toList=!cv->∃c,cv=.ref c/\H c=!(LamC p.2 c)
meta abbrev Z.TA(z:Z):List Addr:=z.T.map (·.1)
def TabOk.keep(t:TabOk H p)(k:∀b o,H b=!o->¬ Uh o->H' b=!o):TabOk H' p:=by let(ps,h1,h2,h3):=t;show#[ps,k _ _ h1 id,h2,λpos cv e=>let #[c,e1,e2]:=h3 pos cv e;#[c,e1,k _ _ e2 id]]
meta abbrev Z.B(z:Z):List Addr:=z.lent.map (·.2)
meta abbrev Z.bor(z:Z):List Nat:=z.lent.map (·.1)
structure S(z:Z)(g:G)(J:Sg)(As M:List Addr)(H:Hp):Prop where
 sl:Slots z.K M H g J As
 nd:As.Nodup
 sub:∀a∈As,a∈M
 own:∀(i:Nat) (a:Addr) (l:List D),g[i]?=!(.own l)->J[i]?=!(!(.ref a))->(i∈z.bor/\a∈z.B)\/z.H0 a=none
 live:∀m∈M,(∃o,H m=!o/\Uh o)\/m∈z.TA
 keep:∀b o,z.H0 b=!o->b∉z.B->b∉z.TA->H b=!o
 jL:∀m∈z.M0,m∈M
 m0:∀m∈z.M0,z.H0 m≠none
 bm:∀b∈z.B,b∈z.M0
 jj:∀p∈z.lent,J[p.1]?=!(!(.ref p.2))/\∃l,g[p.1]?=!(.own l)
 tab:∀p∈z.T,TabOk H p
 tm:∀p∈z.T,p.1∈z.M0
 tt:z.T=eU z.K
section
variable{g:G}
def S.fresh(s:S z g J As M H)(hp:H p=none):p∉M:=λhm=>by
 rcases s.live p hm with ⟨o,e,_⟩ |e
 . rw[hp]at e;cases e
 . let(q,hq,rfl):=eQ.mp e;let(ps,h1,_):=s.tab q hq;rw[hp]at h1;cases h1
def S.ZV(s:S z g J As M H)(hp:H p=!(.lst xs)):p∉z.TA:=λe=>by
 let(q,hq,rfl):=eQ.mp e;let(ps,h1,_):=s.tab q hq;rw[hp]at h1;cases h1
def S.cS(s:S z g J As M H)(hp:H p=none):z.H0 p=none:=by
 cases e:z.H0 p with
 |none=>rfl
 |some o=>
  by_cases hb:p∈z.B
  . show absurd (s.jL _ (s.bm _ hb)) (s.fresh hp)
  .
   by_cases ht:p∈z.TA
   . let(q,hq,rfl):=eQ.mp ht;show absurd (s.jL _ (s.tm q hq)) (s.fresh hp)
   . rw[s.keep p o e hb ht]at hp;cases hp
def S.laid(s:S z g J As M H){p:Addr}{o:HO}(hp:H p=none):S z g J As M (upd H p o) where
 sl:=s.sl.stay (aq.laid hp) λa _ u e=>by rw[aB (aO e hp)];show e
 nd:=s.nd
 sub:=s.sub
 own:=s.own
 live:=λm hm=>by
  rcases s.live m hm with ⟨o,e,gr⟩ |e
  . show .inl #[o,by rw[aB (aO e hp)];show e,gr]
  . show .inr e
 keep:=λb u e hb ht=>by rw[aB (aO (s.keep b u e hb ht) hp)];show s.keep b u e hb ht
 jL:=s.jL
 m0:=s.m0
 bm:=s.bm
 jj:=s.jj
 tab:=λp h=>(s.tab p h).keep λb u e _=>by rw[aB (aO e hp)];show e
 tm:=s.tm
 tt:=s.tt
def S.Ru(s:S z g J As M H){p:Addr}{u0:HO}(gu:Uh u0)(hp:H p=none):S z g J As (p::M) (upd H p u0) where
 sl:=s.sl.stay (aq.bw hp) λa _ u e=>by rw[aB (aO e hp)];show e
 nd:=s.nd
 sub:=λa ha=>b0 _ (s.sub a ha)
 own:=s.own
 live:=λm hm=>by
  rcases eC.mp hm with rfl |hm
  . show .inl #[_,aF,gu]
  .
   rcases s.live m hm with ⟨o,e,gr⟩ |e
   . show .inl #[o,by rw[aB (aO e hp)];show e,gr]
   . show .inr e
 keep:=λb u e hb ht=>by rw[aB (aO (s.keep b u e hb ht) hp)];show s.keep b u e hb ht
 jL:=λm hm=>b0 _ (s.jL m hm)
 m0:=s.m0
 bm:=s.bm
 jj:=s.jj
 tab:=λp h=>(s.tab p h).keep λb u e _=>by rw[aB (aO e hp)];show e
 tm:=s.tm
 tt:=s.tt
def S.bw(s:S z g J As M H)(hp:H p=none):S z g J As (p::M) (upd H p (.lst xs)):=s.Ru trivial hp
def S.Gv(s:S z g J As M H){a:Addr}{u0 u1:HO}(hm:a∈M)(hA:a∉As)(h0:z.H0 a=none)(h:H a=!u0)(g0:Uh u0)(g1:Uh u1):S z g J As M (upd H a u1) where
 sl:=s.sl.stay (aq.write hm) λb hb u e=>by rw[aB (show b≠a from λq=>hA (by rw[<- q];show hb))];show e
 nd:=s.nd
 sub:=s.sub
 own:=s.own
 live:=λm hm=>by
  by_cases e:m=a
  . subst e;show .inl #[_,aF,g1]
  .
   rcases s.live m hm with ⟨o,q,gr⟩ |q
   . show .inl #[o,by rw[aB e];show q,gr]
   . show .inr q
 keep:=λb o e hb ht=>by rw[aB (λq=>by rw[q,h0]at e;cases e)];show s.keep b o e hb ht
 jL:=s.jL
 m0:=s.m0
 bm:=s.bm
 jj:=s.jj
 tab:=λp hp=>(s.tab p hp).keep λb o e n=>by rw[aB (λq=>by rw[q,h]at e;cases e;show n g0)];show e
 tm:=s.tm
 tt:=s.tt
def S.drop(s:S z g J As M H)(h0:z.H0 p=none)(hA:p∉As):S z g J As (M.filter λm=>decide (m≠p)) H where
 sl:=s.sl.stay (aq.less λm hm=>(pV.mp hm).1) λ_ _ _ e=>e
 nd:=s.nd
 sub:=λa ha=>pV.mpr #[s.sub a ha,by have:a≠p:=λe=>hA (e▸ha);simpa using this]
 own:=s.own
 live:=λm hm=>s.live m (pV.mp hm).1
 keep:=s.keep
 jL:=λm hm=>pV.mpr #[s.jL m hm,by have:m≠p:=λe=>s.m0 m hm (e▸h0);simpa using this]
 m0:=s.m0
 bm:=s.bm
 jj:=s.jj
 tab:=s.tab
 tm:=s.tm
 tt:=s.tt
end
abbrev fP(z:Z)(g:G)(J:Sg)(As M:List Addr)(H:Hp):R->V->Prop
 |.dat d,v=>Rep z.K M H d v
 |.new l,v=>∃a xs,v=.ref a/\a∈M/\a∉As/\z.H0 a=none/\H a=!(.lst xs)/\aK z.K M H l xs
 |.var i,v=>∃l,g[i]?=!(.own l)/\J[i]?=!(!v)
inductive Pk(K:Frag)(M:List Addr)(H:Hp):D->V->Prop
 |of:Rep K M H d v->Pk K M H d v
 |lst {l:List D}{a:Addr}{xs:List V}:H a=!(.lst xs)->aK K M H l xs->Pk K M H (.lst l) (.ref a)
def Pk.list{K:Frag}{M:List Addr}{H:Hp}{l:List D}{v:V}(h:Pk K M H (.lst l) v):∃a xs,v=.ref a/\H a=!(.lst xs)/\aK K M H l xs:=by
 cases h with
 |of r=>cases r with |lst h1 h2=>show⟨_,_,rfl,h1.2,h2⟩
 |lst h1 h2=>show#[_,_,rfl,h1,h2]
def Slots.at{K:Frag}{M:List Addr}{H:Hp}{g:G}{J:Sg}{As:List Addr}{i:Nat}{l:List D}(q:Slots K M H g J As)(e:g[i]?=!(.own l)):∃a xs,J[i]?=!(!(.ref a))/\a∈As/\H a=!(.lst xs)/\aK K M H l xs:=by
 induction q generalizing i with
 |nil=>show nomatch (show none=!(Slot.own l)from e)
 |no q ih=>cases i with
  |zero=>show nomatch (show some Slot.no=!(Slot.own l)from e)
  |succ i=>show ih e
 |dat r q ih=>cases i with
  |zero=>show nomatch (show some (Slot.dat _)=!(Slot.own l)from e)
  |succ i=>show ih e
 |own h r q ih=>cases i with
  |zero=>cases (show some (Slot.own _)=!(Slot.own l)from e);show#[_,_,rfl,dA,h,r]
  |succ i=>let(a,xs,h1,h2,h3):=ih e;show#[a,xs,h1,b0 _ h2,h3]
def Slots.oz{K:Frag}{M:List Addr}{H:Hp}{g:G}{J:Sg}{As:List Addr}{i:Nat}{d:D}(q:Slots K M H g J As)(e:g[i]?=!(.dat d)):∃v,J[i]?=!(!v)/\Rep K M H d v:=by
 induction q generalizing i with
 |nil=>show nomatch (show none=!(Slot.dat d)from e)
 |no q ih=>cases i with
  |zero=>show nomatch (show some Slot.no=!(Slot.dat d)from e)
  |succ i=>show ih e
 |dat r q ih=>cases i with
  |zero=>cases (show some (Slot.dat _)=!(Slot.dat d)from e);show#[_,rfl,r]
  |succ i=>show ih e
 |own h r q ih=>cases i with
  |zero=>show nomatch (show some (Slot.own _)=!(Slot.dat d)from e)
  |succ i=>show ih e
def Slots.length{K:Frag}{M:List Addr}{H:Hp}{g:G}{J:Sg}{As:List Addr}(q:Slots K M H g J As):g.length=J.length:=by
 induction q with
 |nil=>rfl
 |no q ih=>show congrArg (· + 1) ih
 |dat r q ih=>show congrArg (· + 1) ih
 |own h r q ih=>show congrArg (· + 1) ih
def Slots.eV{K:Frag}{M:List Addr}{H:Hp}{d:D}{v:V}(r:Rep K M H d v){g:G}{J:Sg}{As:List Addr}(i:Nat)(q:Slots K M H g J As):∃aE,Slots K M H (g.set i (.dat d)) (J.set i (!v)) aE/\aE.Sublist As:=by
 induction q generalizing i with
 |nil=>show#[[],.nil,.slnil]
 |no q ih=>cases i with
  |zero=>show#[_,.dat r q,List.Sublist.refl _]
  |succ i=>let(aE,h1,h2):=ih i;show#[aE,.no h1,h2]
 |dat r' q ih=>cases i with
  |zero=>show#[_,.dat r q,List.Sublist.refl _]
  |succ i=>let(aE,h1,h2):=ih i;show#[aE,.dat r' h1,h2]
 |own e r' q ih=>cases i with
  |zero=>show#[_,.dat r q,List.sublist_cons_self _ _]
  |succ i=>let(aE,h1,h2):=ih i;show#[_::aE,.own e r' h1,h2.cons₂ _]
def Slots.freeze{K:Frag}{M M':List Addr}{H:Hp}(hM:∀m∈M',m∈M){g:G}{J:Sg}{As:List Addr}{i:Nat}{l:List D}{a:Addr}(q:Slots K M H g J As)(e:g[i]?=!(.own l))(e2:J[i]?=!(!(.ref a)))(na:a∉M')(nd:As.Nodup) :
  ∃aE,Slots K M' H (g.set i (.dat (.lst l))) J aE/\aE.Sublist As/\a∉aE:=by
 induction q generalizing i with
 |nil=>show nomatch (show none=!(Slot.own l)from e)
 |no q ih=>cases i with
  |zero=>show nomatch (show some Slot.no=!(Slot.own l)from e)
  |succ i=>let(aE,h1,h2,h3):=ih e e2 nd;show#[aE,.no h1,h2,h3]
 |dat r q ih=>cases i with
  |zero=>show nomatch (show some (Slot.dat _)=!(Slot.own l)from e)
  |succ i=>let(aE,h1,h2,h3):=ih e e2 nd;show#[aE,.dat (r.stay (aq.less hM)) h1,h2,h3]
 |@own g J As b xs ds h r q ih=>cases i with
  |zero=>
   cases (show some (Slot.own _)=!(Slot.own l)from e)
   cases (show some (!(V.ref b))=!(!(V.ref a))from e2)
   show#[_,.dat (.lst #[na,h] (r.stay (aq.less hM))) (q.stay (aq.less hM) λ_ _ _ e=>e),List.sublist_cons_self _ _,(i7.mp nd).1]
  |succ i=>
   let(aE,h1,h2,h3):=ih e e2 (i7.mp nd).2;apply#[b::aE,.own h (r.stay (aq.less hM)) h1,h2.cons₂ _,λhm=>?_]
   rcases eC.mp hm with z |z
   .
    let(c,xs,z1,z2,_):=q.at e;cases (show some (!(V.ref c))=!(!(V.ref a))from z1.symm.trans e2)
    show (i7.mp nd).1 (by rw[<- z];show z2)
   . show h3 z
def Slots.change{K:Frag}{M:List Addr}{H H':Hp}{l':List D}{a:Addr}{xs':List V}(st:aq M H M H')(ha:H' a=!(.lst xs'))(r':aK K M H' l' xs'){g:G}{J:Sg}{As:List Addr}{i:Nat}{l:List D}(q:Slots K M H g J As)(e:g[i]?=!(.own l))(e2:J[i]?=!(!(.ref a)))(nd:As.Nodup)
  (k:∀b∈As,b≠a->∀o,H b=!o->H' b=!o):Slots K M H' (g.set i (.own l')) J As:=by
 induction q generalizing i with
 |nil=>show nomatch (show none=!(Slot.own l)from e)
 |no q ih=>cases i with
  |zero=>show nomatch (show some Slot.no=!(Slot.own l)from e)
  |succ i=>show .no (ih e e2 nd k)
 |dat r q ih=>cases i with
  |zero=>show nomatch (show some (Slot.dat _)=!(Slot.own l)from e)
  |succ i=>show .dat (r.stay st) (ih e e2 nd k)
 |@own g J As b xs ds h r q ih=>cases i with
  |zero=>
   cases (show some (!(V.ref b))=!(!(V.ref a))from e2)
   show .own ha r' (q.stay st λc hc o e=>k c (b0 _ hc) (λz=>(i7.mp nd).1 (by rw[<- z];show hc)) o e)
  |succ i=>
   apply .own (k b dA (λz=>?_) _ h) (r.stay st) (ih e e2 (i7.mp nd).2 λc hc=>k c (b0 _ hc))
   let(c,xs,z1,z2,_):=q.at e;cases (show some (!(V.ref c))=!(!(V.ref a))from z1.symm.trans e2)
   show (i7.mp nd).1 (by rw[z];show z2)
section
variable{g:G}
def gk(h:(g.set i (.dat d))[j]?=!(.own l)):g[j]?=!(.own l)/\j≠i:=by
 by_cases e:i=j
 .
  subst e;by_cases hi:i<g.length
  . rw[i9 hi]at h;symm
  . rw[CH.mpr (by rw[AE];lia)]at h;symm
 . rw[i5 e]at h;show#[h,AJ e]
def S.freeze(s:S z g J As M H){i:Nat}{l:List D}(hg:g[i]?=!(.own l))(hb:i∉z.bor):∃aE M',S z (g.set i (.dat (.lst l))) J aE M' H/\aq M H M' H:=by
 let(a,xs,e1,e2,e3,e4):=s.sl.at hg;have h0:=(s.own i a l hg e1).elim (λq=>absurd q.1 hb) id
 have hM:∀m∈(M.filter λm=>decide (m≠a)),m∈M:=λm hm=>(pV.mp hm).1
 have na:a∉(M.filter λm=>decide (m≠a)):=λhm=>by
  have:=(pV.mp hm).2;simp at this
 let(aE,q1,q2,q3):=s.sl.freeze hM hg e1 na s.nd;apply#[aE,_,#[q1,s.nd.sublist q2,λb hb=>pV.mpr #[s.sub b (q2.subset hb),?_],λj b l' h1 h2=>s.own j b l' (gk h1).1 h2,λm hm=>s.live m (hM m hm),s.keep,λm hm=>pV.mpr #[s.jL m hm,?_],s.m0,s.bm,λp hp=>#[(s.jj p hp).1,?_],s.tab,s.tm,s.tt],aq.less hM]
 rotate_left 2
 .
  have:i≠p.1:=λe=>hb (by rw[e];show An hp)
  rw[i5 this];show (s.jj p hp).2
 .
  have:b≠a:=λe=>q3 (e▸hb)
  simpa using this
 .
  have:m≠a:=λe=>s.m0 m hm (e▸h0)
  simpa using this
def S.write(s:S z g J As M H){i:Nat}{l l':List D}{a:Addr}{xs':List V}(hg:g[i]?=!(.own l))(e1:J[i]?=!(!(.ref a)))(r:aK z.K M H l' xs'):S z (g.set i (.own l')) J As M (upd H a (.lst xs'))/\aq M H M (upd H a (.lst xs')):=by
 let(b,xs,e2,e3,e4,e5):=s.sl.at hg;rw[e1]at e2;injection e2 with e2;injection e2 with e2;injection e2 with e2;subst e2;have st:aq M H M (upd H a (.lst xs')):=aq.write (s.sub a e3);apply#[#[s.sl.change st aF (r.stay st) hg e1 s.nd (λb _ ne o e=>by rw[aB ne];show e),s.nd,s.sub,λj b l2 h1 h2=>?_,λm hm=>?_,λb o e hb ht=>?_,s.jL,s.m0,s.bm,λp hp=>#[(s.jj p hp).1,?_],λp h=>(s.tab p h).keep λb u e nl=>?_,s.tm,s.tt],st]
 rotate_left 3
 .
  by_cases hj:i=p.1
  . rw[<- hj];show#[l',i9 (dL.mp hg).1]
  . rw[i5 hj];show (s.jj p hp).2
 .
  have:b≠a:=λz2=>by subst z2;rw[e4]at e;cases e;show nl trivial
  rw[aB this];show e
 .
  by_cases hj:i=j
  . subst hj;show s.own i b l hg h2
  . rw[i5 hj]at h1;show s.own j b l2 h1 h2
 .
  by_cases hm2:m=a
  . subst hm2;show .inl #[_,aF,trivial]
  .
   rcases s.live m hm with ⟨o,e,gr⟩ |e
   . show .inl #[o,by rw[aB hm2];show e,gr]
   . show .inr e
 .
  have q:=s.keep b o e hb ht;have:b≠a:=λz2=>by
   subst z2;rcases s.own i b l hg e1 with w |w
   . show hb w.2
   . rw[w]at e;cases e
  rw[aB this];show q
def S.eV(s:S z g J As M H)(hb:i∉z.bor)(r:Rep z.K M H d v):∃aE,S z (g.set i (.dat d)) (J.set i (!v)) aE M H:=by
 let(aE,h1,h2):=s.sl.eV r i;apply#[aE,h1,s.nd.sublist h2,λa ha=>s.sub a (h2.subset ha),λj b l h3 h4=>?_,s.live,s.keep,s.jL,s.m0,s.bm,λp hp=>?_,s.tab,s.tm,s.tt]
 rotate_left
 .
  have:i≠p.1:=λe=>hb (by rw[e];show An hp)
  rw[i5 this,i5 this];show s.jj p hp
 let(h5,h6):=gk h3;rw[i5 (AJ h6)]at h4;show s.own j b l h5 h4
def Slots.oA{K:Frag}{a:Addr}{xs:List V}{l:List D}(h:H a=!(.lst xs))(r:aK K M H l xs){g:G}{J:Sg}{As:List Addr}(i:Nat)(q:Slots K M H g J As)(hi:i<g.length):∃aE,Slots K M H (g.set i (.own l)) (J.set i (!(.ref a))) aE/\(∀b∈aE,b=a\/b∈As)/\(As.Nodup->a∉As->aE.Nodup):=by
 induction q generalizing i with
 |nil=>show absurd hi (oD _)
 |no q ih=>cases i with
  |zero=>show#[_,.own h r q,λb hb=>eC.mp hb,λnd na=>i7.mpr #[na,nd]]
  |succ i=>let(aE,h1,h2,h3):=ih i (C8 hi);show#[aE,.no h1,h2,h3]
 |dat r' q ih=>cases i with
  |zero=>show#[_,.own h r q,λb hb=>eC.mp hb,λnd na=>i7.mpr #[na,nd]]
  |succ i=>let(aE,h1,h2,h3):=ih i (C8 hi);show#[aE,.dat r' h1,h2,h3]
 |@own g J As c ys ds e r' q ih=>cases i with
  |zero=>show#[_,.own h r q,λb hb=>(eC.mp hb).imp id (b0 _),λnd na=>i7.mpr #[λz=>na (b0 _ z),(i7.mp nd).2]]
  |succ i=>let(aE,h1,h2,h3):=ih i (C8 hi);show#[c::aE,.own e r' h1,λb hb=>(eC.mp hb).elim (λz=>.inr (z▸dA)) λz=>(h2 b z).imp id (b0 _),λnd na=>i7.mpr #[λz=>(h2 c z).elim (λw=>na (w▸dA)) (i7.mp nd).1,h3 (i7.mp nd).2 λw=>na (b0 _ w)]]
def S.oA(s:S z g J As M H){i:Nat}{l:List D}{a:Addr}{xs:List V}(hb:i∉z.bor)(hi:i<g.length)(hm:a∈M)(hA:a∉As)(h0:z.H0 a=none)(h:H a=!(.lst xs))(r:aK z.K M H l xs):∃aE,S z (g.set i (.own l)) (J.set i (!(.ref a))) aE M H:=by
 let(aE,h1,h2,h3):=s.sl.oA h r i hi;apply#[aE,h1,h3 s.nd hA,λb hb=>(h2 b hb).elim (λe=>e▸hm) (s.sub b),λj b l2 h4 h5=>?_,s.live,s.keep,s.jL,s.m0,s.bm,λp hp=>?_,s.tab,s.tm,s.tt]
 rotate_left
 .
  have:i≠p.1:=λe=>hb (by rw[e];show An hp)
  rw[i5 this,i5 this];show s.jj p hp
 by_cases hj:i=j
 .
  subst hj;rw[i9 (by rw[<- s.sl.length];show hi)]at h5
  injection h5 with h5;injection h5 with h5;injection h5 with h5;subst h5;show .inr h0
 . rw[i5 hj]at h4 h5;show s.own j b l2 h4 h5
end
meta abbrev Kn (z:Z) (g':G) (J:Sg) (M:List Addr) (H:Hp) (r:R) (Q:VK):Prop:=
 ∀v H' aE M',S z g' J aE M' H'->aq M H M' H'->fP z g' J aE M' H' r v->Q v H'
abbrev aA(X:Cx)(z:Z)(e:Expr)(g:G)(r:R)(g':G):Prop:=
 ∃t,PE X e t/\∀J As M H Q,S z g J As M H->Kn z g' J M H r Q->t J H Q
abbrev cZ(X:Cx)(z:Z)(e:Expr)(g:G)(b:Bool)(g':G):Prop:=
 ∃t,PT X e t/\∀J As M H (Q:Bool->Hp->Prop),S z g J As M H->(∀H' aE M',S z g' J aE M' H'->aq M H M' H'->Q b H')->t J H Q
abbrev kL(X:Cx)(z:Z)(f:Value->Value->Sem Value)(d1 d2:D)(res:R):Prop:=
 ∃r:R2,jK X f r/\∀g J As M H v1 v2 Q,S z g J As M H->Pk z.K M H d1 v1->Pk z.K M H d2 v2->Kn z g J M H res Q->r v1 v2 H Q
abbrev ZW(X:Cx)(z:Z)(d1 d2:D)(res:R):Prop:=
 ∃r:R2,IxR X r/\∀g J As M H v1 v2 Q,S z g J As M H->Pk z.K M H d1 v1->Pk z.K M H d2 v2->Kn z g J M H res Q->r v1 v2 H Q
abbrev pk:R->G->Option D
 |.dat d,_=>!d
 |.new _,_=>none
 |.var i,g=>match g[i]? with |!(.own l)=>!(.lst l) |!(.dat (.lst l))=>!(.lst l) |_=>none
section
def S.pk(s:S z g2 J As M2 H2)(st:aq M1 H1 M2 H2)(q:fP z g1 J bu M1 H1 r v)(h:pk r g2=!d):Pk z.K M2 H2 d v:=by
 cases r with
 |dat d'=>have e:d'=d:=oQ h;subst e;show .of (Rep.stay st q)
 |new l=>symm
 |var i=>
  let(l,h1,h2):=q;delta Ev.pk at h;dsimp only at h;split at h
  . ext l' hg;have e:=oQ h;subst e;let(a,xs,e1,e2,e3,e4):=s.sl.at hg;rw[h2]at e1;injection e1 with e1;injection e1 with e1;subst e1;show .lst e3 e4
  . ext l' hg;have e:=oQ h;subst e;let(w,e1,e2):=s.sl.oz hg;rw[h2]at e1;injection e1 with e1;injection e1 with e1;show .of (e1▸e2)
  . symm
def Ui{i j}:aA X z (.Constant (.int i) j pos) g ‹i› g:=#[_,S9,λJ As M H Q s k=>k _ _ _ _ s (aq.refl _ _) (.int i)]
def ZX{i j}:aA X z (.Constant (.bool i) j pos) g (.dat (.bl i)) g:=#[_,Y9,λJ As M H Q s k=>k _ _ _ _ s (aq.refl _ _) (.bl i)]
def Uj{j}:aA X z (.Constant .none j pos) g (.dat .non) g:=#[_,Tc,λJ As M H Q s k=>k _ _ _ _ s (aq.refl _ _) .non]
def Uk{x j}:aA X z (.Constant (.str x) j pos) g (.dat (.str x)) g:=#[_,Td,λJ As M H Q s k=>k _ _ _ _ s (aq.refl _ _) (.str x)]
def Ul{i:Nat}{x:Str}(hN:X.N[i]?=!x)(hv:mh X.env.scope x)(hd:(x==(~~~3))=false)(fK:(x==("__classdict__":Str))=false)(hg:g[i]?=!(.dat d)):aA X z (.Name x pos) g (.dat d) g:=
 #[_,cR hN hv hd fK,λJ As M H Q s k=>let #[v,e,r]:=s.sl.oz hg;#[v,e,k v H As M s (aq.refl _ _) r]]
def My(hN:X.N[i]?=!x)(hv:mh X.env.scope x)(hd:(x==(~~~3))=false)(fK:(x==("__classdict__":Str))=false)(hg:g[i]?=!(.own l)):aA X z (.Name x pos) g (.var i) g:=
 #[_,cR hN hv hd fK,λJ As M H Q s k=>let #[a,xs,e,r]:=s.sl.at hg;#[_,e,k _ H As M s (aq.refl _ _) #[l,hg,e]]]
def Mz(hg:Gl X x)(hm:X.mg x=!u)(r:RelV v u)(hr:∀M H,Rep z.K M H d v)(hd:(x==(~~~3))=false):aA X z (.Name x pos) g (.dat d) g:=
 #[_,LK hg hm r hd,λJ As M H Q s k=>k _ H As M s (aq.refl _ _) (hr M H)]
def oB(h:aA X z e g (.new l) g'):aA X z e g (.dat (.lst l)) g':=by
 let(t,p,q):=h;apply#[t,p,λJ As M H Q s k=>q J As M H Q s λv H' aE M' s' st r=>?_]
 let(a,xs,rfl,hm,hA,h0,ha,rr):=r;have hM:∀m∈(M'.filter λm=>decide (m≠a)),m∈M':=λm hm=>(pV.mp hm).1
 have na:a∉(M'.filter λm=>decide (m≠a)):=λhm=>by
  have:=(pV.mp hm).2;simp at this
 show k _ H' aE _ (s'.drop h0 hA) (st.trans (aq.less hM)) (.lst #[na,ha] (rr.stay (aq.less hM)))
def CJ(h:aA X z e g (.var i) g1)(hg:g1[i]?=!(.own l))(hb:i∉z.bor):aA X z e g (.dat (.lst l)) (g1.set i (.dat (.lst l))):=by
 let(t,p,q):=h;apply#[t,p,λJ As M H Q s k=>q J As M H Q s λv H' aE M' s' st r=>?_]
 let(l',h1,h2):=r;let(bG,M2,s2,aJ):=s'.freeze hg hb;have hi:=(dL.mp hg).1;let(v',e1,e2):=s2.sl.oz (by rw[i9 hi])
 rw[h2]at e1;injection e1 with e1;injection e1 with e1;subst e1;show k _ H' bG M2 s2 (st.trans aJ) e2
def Um(h1:aA X z a g r1 g1)(h2:aA X z b g1 r2 g2)(p1:pk r1 g2=!d1)(p2:pk r2 g2=!d2)(ho:kL X z (binaryOp op) d1 d2 r):aA X z (.BinOp a op b pos) g r g2:=by
 let(t1,q1,k1):=h1;let(t2,q2,k2):=h2;let(rr,o,ko):=ho;show#[_,Zn o q1 q2,λJ As M H Q s k=>k1 J As M H _ s λv1 H1 bu M1 s1 dN R1=>k2 J bu M1 H1 _ s1 λv2 H2 bG M2 s2 aJ R2=>
  ko g2 J bG M2 H2 v1 v2 Q s2 (s2.pk aJ R1 p1) (s2.pk (aq.refl _ _) R2 p2) λv H' aE M' s' st' R'=>k v H' aE M' s' (dN.trans (aJ.trans st')) R']
def Uo(h1:aA X z a g r1 g1)(h2:aA X z b g1 r2 g2)(p1:pk r1 g2=!d1)(p2:pk r2 g2=!d2)(ho:kL X z (compareOp op) d1 d2 r)(hm:behindInMarks op b=false):aA X z (.Compare a [op] [b] pos) g r g2:=by
 let(t1,q1,k1):=h1;let(t2,q2,k2):=h2;let(rr,o,ko):=ho;show#[_,Mj o q1 q2 hm,λJ As M H Q s k=>k1 J As M H _ s λv1 H1 bu M1 s1 dN R1=>k2 J bu M1 H1 _ s1 λv2 H2 bG M2 s2 aJ R2=>
  ko g2 J bG M2 H2 v1 v2 Q s2 (s2.pk aJ R1 p1) (s2.pk (aq.refl _ _) R2 p2) λv H' aE M' s' st' R'=>k v H' aE M' s' (dN.trans (aJ.trans st')) R']
def ZZ(h1:aA X z a g r1 g1)(h2:aA X z b g1 r2 g2)(p1:pk r1 g2=!d1)(p2:pk r2 g2=!d2)(ho:ZW X z d1 d2 r)(hs:sW b):aA X z (.Subscript a b pos) g r g2:=by
 let(t1,q1,k1):=h1;let(t2,q2,k2):=h2;let(rr,o,ko):=ho;show#[_,Ro o q1 q2 hs,λJ As M H Q s k=>k1 J As M H _ s λv1 H1 bu M1 s1 dN R1=>k2 J bu M1 H1 _ s1 λv2 H2 bG M2 s2 aJ R2=>
  ko g2 J bG M2 H2 v1 v2 Q s2 (s2.pk aJ R1 p1) (s2.pk (aq.refl _ _) R2 p2) λv H' aE M' s' st' R'=>k v H' aE M' s' (dN.trans (aJ.trans st')) R']
def gn(q:fP z g J As M H (.dat (.bl c)) v):v=.bl c:=by have q':=q;cases q';rfl
def Up(h1:aA X z a g r1 g1)(h2:aA X z b g1 r2 g2)(p1:pk r1 g2=!d1)(p2:pk r2 g2=!d2)(ho:kL X z (compareOp op) d1 d2 (.dat (.bl c)))(hm:behindInMarks op b=false):cZ X z (.Compare a [op] [b] pos) g c g2:=by
 let(t1,q1,k1):=h1;let(t2,q2,k2):=h2;let(rr,o,ko):=ho;show#[_,Mk o q1 q2 hm,λJ As M H Q s k=>k1 J As M H _ s λv1 H1 bu M1 s1 dN R1=>k2 J bu M1 H1 _ s1 λv2 H2 bG M2 s2 aJ R2=>
  ko g2 J bG M2 H2 v1 v2 _ s2 (s2.pk aJ R1 p1) (s2.pk (aq.refl _ _) R2 p2) λv H' aE M' s' st' R'=>#[c,gn R',k H' aE M' s' (dN.trans (aJ.trans st'))]]
def Uq(h:cZ X z a g c g'):cZ X z (.UnaryOp .Not a pos) g ((not c)) g':=by let(t,q,k):=h;show#[_,Te q,λJ As M H Q s kk=>k J As M H _ s λH' aE M' s' st=>kk H' aE M' s' st]
abbrev m6(X:Cx)(z:Z)(e:Expr)(g:G)(b:Bool)(g':G):Prop:=
 ∃t,PW X e t/\∀J As M H (Q:Bool->Hp->Prop),S z g J As M H->(∀H' aE M',S z g' J aE M' H'->aq M H M' H'->Q b H')->t J H Q
def m6.tr(h:m6 X z e g c g'):cZ X z e g c g':=let #[t,q,k]:=h;#[t,q.pt,k]
def MF(h:cZ X z a g c g'):m6 X z (.BoolOp .And [a] pos) g c g':=let #[t,q,k]:=h;#[t,pw_and1 q,k]
def Ur(h:cZ X z a g c g'):m6 X z (.BoolOp .Or [a] pos) g c g':=let #[t,q,k]:=h;#[t,pw_or1 q,k]
abbrev tNo:TT:=λ_ _ _=>False
def pw_never:PW X e tNo:=λ_ _ _ _ _ _ _ h=>h.elim
def jR:PE X e (λ_ _ _=>False):=λ_ _ _ _ _ _ h=>h.elim
def MJ{aD:List Expr}(h:cZ X z a g false g1):m6 X z (.BoolOp .And (a::b::aD) pos) g false g1:=by let(t,q,k):=h;show#[_,pw_and q pw_never,λJ As M H Q s kk=>k J As M H _ s λH' aE M' s' st=>oq (kk H' aE M' s' st)]
def MK{aD:List Expr}{c:Bool}(h:cZ X z a g true g1)(h2:m6 X z (.BoolOp .And (b::aD) pos) g1 c g2):m6 X z (.BoolOp .And (a::b::aD) pos) g c g2:=by let(t,q,k):=h;let(t2,q2,k2):=h2;show#[_,pw_and q q2,λJ As M H Q s kk=>k J As M H _ s λH' aE M' s' st=>jO (k2 J aE M' H' Q s' λH2 bG M2 s2 aJ=>kk H2 bG M2 s2 (st.trans aJ))]
def Us{aD:List Expr}(h:cZ X z a g true g1):m6 X z (.BoolOp .Or (a::b::aD) pos) g true g1:=by let(t,q,k):=h;show#[_,pw_or q pw_never,λJ As M H Q s kk=>k J As M H _ s λH' aE M' s' st=>jO (kk H' aE M' s' st)]
def Ut{aD:List Expr}{c:Bool}(h:cZ X z a g false g1)(h2:m6 X z (.BoolOp .Or (b::aD) pos) g1 c g2):m6 X z (.BoolOp .Or (a::b::aD) pos) g c g2:=by let(t,q,k):=h;let(t2,q2,k2):=h2;show#[_,pw_or q q2,λJ As M H Q s kk=>k J As M H _ s λH' aE M' s' st=>oq (k2 J aE M' H' Q s' λH2 bG M2 s2 aJ=>kk H2 bG M2 s2 (st.trans aJ))]
def Gw(h:aA X z a g r g'):aA X z (.BoolOp op [a] pos) g r g':=let #[t,q,k]:=h;#[t,Tf q,k]
def MN{aD:List Expr}(h:aA X z a g (.dat (.bl false)) g1):aA X z (.BoolOp .And (a::b::aD) pos) g (.dat (.bl false)) g1:=by let(t,q,k):=h;show#[_,FQ q jR,λJ As M H Q s kk=>k J As M H _ s λv H' aE M' s' st R=>#[false,gn R,oq (kk _ H' aE M' s' st (.bl false))]]
def MP{aD:List Expr}(h:aA X z a g (.dat (.bl true)) g1)(h2:aA X z (.BoolOp .And (b::aD) pos) g1 r g2):aA X z (.BoolOp .And (a::b::aD) pos) g r g2:=by let(t,q,k):=h;let(t2,q2,k2):=h2;show#[_,FQ q q2,λJ As M H Q s kk=>k J As M H _ s λv H' aE M' s' st R=>#[true,gn R,jO (k2 J aE M' H' Q s' λv2 H2 bG M2 s2 aJ=>kk v2 H2 bG M2 s2 (st.trans aJ))]]
def Uu{aD:List Expr}(h:aA X z a g (.dat (.bl true)) g1):aA X z (.BoolOp .Or (a::b::aD) pos) g (.dat (.bl true)) g1:=by let(t,q,k):=h;show#[_,Rk q jR,λJ As M H Q s kk=>k J As M H _ s λv H' aE M' s' st R=>#[true,gn R,jO (kk _ H' aE M' s' st (.bl true))]]
def Uv{aD:List Expr}(h:aA X z a g (.dat (.bl false)) g1)(h2:aA X z (.BoolOp .Or (b::aD) pos) g1 r g2):aA X z (.BoolOp .Or (a::b::aD) pos) g r g2:=by let(t,q,k):=h;let(t2,q2,k2):=h2;show#[_,Rk q q2,λJ As M H Q s kk=>k J As M H _ s λv H' aE M' s' st R=>#[false,gn R,oq (k2 J aE M' H' Q s' λv2 H2 bG M2 s2 aJ=>kk v2 H2 bG M2 s2 (st.trans aJ))]]
def Uw(h:aA X z a g (.dat (.bl c)) g1):aA X z (.UnaryOp .Not a pos) g (.dat (.bl ((not c)))) g1:=by let(t,q,k):=h;show#[_,Ti q,λJ As M H Q s kk=>k J As M H _ s λv H' aE M' s' st R=>#[c,gn R,kk _ H' aE M' s' st (.bl _)]]
def Ux(h:cZ X z c g true g1)(h2:aA X z a g1 r g2):aA X z (.IfExp c a b pos) g r g2:=by let(t,q,k):=h;let(t2,q2,k2):=h2;show#[_,uR q q2 jR,λJ As M H Q s kk=>k J As M H _ s λH' aE M' s' st=>jO (k2 J aE M' H' Q s' λv2 H2 bG M2 s2 aJ=>kk v2 H2 bG M2 s2 (st.trans aJ))]
def Uy(h:cZ X z c g false g1)(h2:aA X z b g1 r g2):aA X z (.IfExp c a b pos) g r g2:=by let(t,q,k):=h;let(t2,q2,k2):=h2;show#[_,uR q jR q2,λJ As M H Q s kk=>k J As M H _ s λH' aE M' s' st=>oq (k2 J aE M' H' Q s' λv2 H2 bG M2 s2 aJ=>kk v2 H2 bG M2 s2 (st.trans aJ))]
inductive ju(z:Z)(J:Sg)(M:List Addr)(H:Hp):List R->List V->Prop
 |nil:ju z J M H [] []
 |dat {d:D}{v:V}{rs:List R}{vs:List V}:Rep z.K M H d v->ju z J M H rs vs->ju z J M H (.dat d::rs) (v::vs)
 |var {i:Nat}{v:V}{rs:List R}{vs:List V}:J[i]?=!(!v)->ju z J M H rs vs->ju z J M H (.var i::rs) (v::vs)
abbrev cT(X:Cx)(z:Z)(es:List Expr)(g:G)(rs:List R)(g':G):Prop:=
 ∃t,PA X es t/\∀J As M H (Q:List V->Hp->Prop),S z g J As M H->(∀vs H' aE M',S z g' J aE M' H'->aq M H M' H'->ju z J M' H' rs vs->Q vs H')->t J H Q
def dz:cT X z [] g [] g:=#[_,kQ,λJ As M H Q s k=>k [] H As M s (aq.refl _ _) .nil]
def cB(h:aA X z e g (.dat d) g1)(h2:cT X z es g1 rs g2)(hs:starEach (e::es) X.env=(false,eval e X.env)::starEach es X.env):cT X z (e::es) g (.dat d::rs) g2:=by let(t,q,k):=h;let(t2,q2,k2):=h2;show#[_,gR q q2 hs,λJ As M H Q s kk=>k J As M H _ s λv H' aE M' s' st R=>k2 J aE M' H' _ s' λvs H2 bG M2 s2 aJ R2=>kk _ H2 bG M2 s2 (st.trans aJ) (.dat (Rep.stay aJ R) R2)]
def Gx(h:aA X z e g (.var i) g1)(h2:cT X z es g1 rs g2)(hs:starEach (e::es) X.env=(false,eval e X.env)::starEach es X.env):cT X z (e::es) g (.var i::rs) g2:=by let(t,q,k):=h;let(t2,q2,k2):=h2;show#[_,gR q q2 hs,λJ As M H Q s kk=>k J As M H _ s (by rintro v H' aE M' s' st ⟨_,_,R⟩;show k2 J aE M' H' _ s' λvs H2 bG M2 s2 aJ R2=>kk _ H2 bG M2 s2 (st.trans aJ) (.var R R2))]
inductive MT(K:Frag)(M:List Addr)(H:Hp):List D->List V->Prop
 |nil:MT K M H [] []
 |cons {d:D}{v:V}{ds:List D}{vs:List V}:Pk K M H d v->MT K M H ds vs->MT K M H (d::ds) (v::vs)
abbrev u9:List R->G->Option (List D)
 | [],_=>![]
 |r::rs,g=>match pk r g,u9 rs g with
  |!d,!ds=>!(d::ds)
  |_,_=>none
def S.u9(s:S z g J As M H)(q:ju z J M H rs vs)(e:u9 rs g=!ds):MT z.K M H ds vs:=by
 induction q generalizing ds with
 |nil=>cases e;show .nil
 |@dat d v rs vs r q ih=>
  delta Ev.u9 at e;cases e2:Ev.u9 rs g with
  |none=>rw[e2]at e;cases e
  |some ds=>rw[e2]at e;cases e;show .cons (.of r) (ih e2)
 |@var i v rs vs r q ih=>
  delta Ev.u9 at e;cases e1:Ev.pk (.var i) g with
  |none=>rw[e1]at e;cases e
  |some d=>
   cases e2:Ev.u9 rs g with
   |none=>rw[e1,e2]at e;cases e
   |some ds=>
    rw[e1,e2]at e;cases e;delta Ev.pk at e1;dsimp only at e1;split at e1
    . ext l hg;cases e1;let(a,xs,h1,h2,h3,h4):=s.sl.at hg;rw[r]at h1;injection h1 with h1;injection h1 with h1;subst h1;show .cons (.lst h3 h4) (ih e2)
    . ext l hg;cases e1;let(w,h1,h2):=s.sl.oz hg;rw[r]at h1;injection h1 with h1;injection h1 with h1;show .cons (.of (h1▸h2)) (ih e2)
    . cases e1
abbrev vd:List R->Option (List D)
 | []=>![]
 |.dat d::rs=>match vd rs with |some ds=>!(d::ds) |none=>none
 |_::_=>none
def zS(q:ju z J M H rs vs)(e:vd rs=!ds):aK z.K M H ds vs:=by
 induction q generalizing ds with
 |nil=>cases e;show .nil
 |@dat d v rs vs r q ih=>
  delta vd at e;cases e2:vd rs with
  |none=>rw[e2]at e;cases e
  |some ds=>rw[e2]at e;cases e;show .cons r (ih e2)
 |var _ _ _=>cases e
def oE(h:n<=16777216):n<=sizeLine:=by rw[t8];show h
def Uz{x1}(h:cT X z es g rs g')(hd:vd rs=!ds)(hl:ds.length<=16777216):aA X z (.Tuple es x1 pos) g (.dat (.tup ds)) g':=by
 let(t,q,k):=h;apply#[_,TX q,λJ As M H Q s kk=>k J As M H _ s λvs H' aE M' s' st R=>?_]
 have rr:=zS R hd;apply#[by rw[<- rr.length];show oE hl,λp hp=>kk _ _ aE M' (s'.laid hp) (st.trans (aq.laid hp)) (.tup (.inl #[s'.fresh hp,.inl aF]) (rr.stay (aq.laid hp)))]
def UG(h:cT X z es g rs g')(hd:vd rs=!ds)(hl:ds.length<=16777216):aA X z (.List es pos) g (.new ds) g':=by
 let(t,q,k):=h;apply#[_,Gh q,λJ As M H Q s kk=>k J As M H _ s λvs H' aE M' s' st R=>?_]
 have rr:=zS R hd;apply#[by rw[<- rr.length];show oE hl,λp hp=>kk _ _ aE (p::M') (s'.bw hp) (st.trans (aq.bw hp)) #[p,vs,rfl,dA,λhA=>s'.fresh hp (s'.sub p hA),s'.cS hp,aF,rr.stay (aq.bw hp)]]
abbrev CallD(X:Cx)(z:Z)(f:Value)(ds:List D)(res:R):Prop:=
 ∃r,fM X f r/\∀g J As M H vs Q,S z g J As M H->MT z.K M H ds vs->Kn z g J M H res Q->r vs H Q
def Gy{x:Str}{id:String}{p:Pos}{es:List Expr}{rs:List R}{ds:List D}(h:cT X z (e::es) g rs g')(hp:u9 rs g'=!ds)(hc:CallD X z (.builtin id) ds r)(hg:Gl X x)(hm:X.mg x=none)(hv:bootBuiltins x=!(.builtin id))(hn:x≠ "__name__")(BW:(x==(~~~3))=false)
  (he:starEach (e::es) X.env=(false,eval e X.env)::starEach es X.env) (iY:(backTo pos (starEach es X.env)).any (·.1)=false):aA X z (.Call (.Name x p) (e::es) [] pos) g r g':=by
 let(t,q,k):=h;let(rr,c,kc):=hc;show#[_,nX c hg hm hv q hn BW he iY,λJ As M H Q s kk=>k J As M H _ s λvs H' aE M' s' st R=>kc g' J aE M' H' vs Q s' (s'.u9 R hp) λv H2 bG M2 s2 aJ R2=>kk v H2 bG M2 s2 (st.trans aJ) R2]
def CK(h:cT X z (e::es) g rs g')(hp:u9 rs g'=!ds)(hc:CallD X z (.type T) ds r)(hg:Gl X x)(hm:X.mg x=none)(hv:bootBuiltins x=!(.type T))(hn:x≠ "__name__")(BW:(x==(~~~3))=false)
  (he:starEach (e::es) X.env=(false,eval e X.env)::starEach es X.env) (iY:(backTo pos (starEach es X.env)).any (·.1)=false):aA X z (.Call (.Name x p) (e::es) [] pos) g r g':=by
 let(t,q,k):=h;let(rr,c,kc):=hc;show#[_,Cr c hg hm hv q hn BW he iY,λJ As M H Q s kk=>k J As M H _ s λvs H' aE M' s' st R=>kc g' J aE M' H' vs Q s' (s'.u9 R hp) λv H2 bG M2 s2 aJ R2=>kk v H2 bG M2 s2 (st.trans aJ) R2]
end
mutual
abbrev cL:D->D->Bool
 |.bl a,.bl b=>a==b
 |.bl a,.int j=>(if a then 1 else 0)==j
 |.int i,.bl b=>i==(if b then 1 else 0)
 |.int i,.int j=>i==j
 |.str x,.str y=>x==y
 |.tup l,.tup m=>cC l m
 |.lst l,.lst m=>cC l m
 |_,_=>false
abbrev cC:List D->List D->Bool
 | [],[]=>true
 |a::l,b::m=>cL a b&&cC l m
 |_,_=>false
end
mutual
abbrev dep:D->Nat
 |.tup l=>deps l+1
 |.lst l=>deps l+1
 |_=>0
abbrev deps:List D->Nat
 | []=>0
 |d::l=>max (dep d) (deps l)
end
mutual
abbrev fF:D->Bool
 |.tup l=>cI l
 |.lst l=>cI l
 |.fix _=>false
 |.non=>false
 |.emp _=>false
 |.Gs _=>false
 |.Rt ..=>false
 |_=>true
abbrev cI:List D->Bool
 | []=>true
 |d::l=>fF d&&cI l
end
mutual
inductive Dv(h:Heap):D->Value->Prop
 |bl (b:Bool):Dv h (.bl b) (.bool b)
 |int (i:Int) (t:Tok):Dv h (.int i) (.int i t)
 |str (x:Str) (t:Tok):Dv h (.str x) (.str x t)
 |tup {l:List D}{a:Addr}{us:List Value}:IsTup h a us.toArray->jc h l us->Dv h (.tup l) (.ref a)
 |lst {l:List D}{a:Addr}{us:List Value}:h.IsList a us.toArray->jc h l us->Dv h (.lst l) (.ref a)
inductive jc(h:Heap):List D->List Value->Prop
 |nil:jc h [] []
 |cons {d:D}{ds:List D}{u:Value}{us:List Value}:Dv h d u->jc h ds us->jc h (d::ds) (u::us)
end
section
def Rep.dv2(I: ~~~7)(q:Rep X.K M H d v):∀u,RelV v u->fF d=true->Dv s.heap d u:=by
 apply Rep.rec (motive_2:=λds vs _=>∀us,Vals vs us->cI ds=true->jc s.heap ds us) ?_ ?_ ?_ ?_ ?_ ?_ ?_ ?_ ?_ ?_ ?_ ?_ q
 . intro u _ p;show Bool.noConfusion (show false=true from p)
 . intro b u r _;cases r;show .bl b
 . intro i u r _;let(t,rfl):=r;show .int i t
 . intro x u r _;let(t,rfl):=r;show .str x t
 . intro l a xs h _ ih u r p;cases r;let(its,rv,ht,hz):=I.tuple h.sq;show .tup ht (ih _ rv p)
 . intro l a xs h _ ih u r p;cases r;let(its,rv,ht,hz):=I.list (dQ.of h.2);show .lst ht.isList (ih _ rv p)
 . intro l a xs _ _ _ u _ p;show Bool.noConfusion (show false=true from p)
 . intro m o a _ _ u _ p;show Bool.noConfusion (show false=true from p)
 . intro C a _ _ _ u _ p;show Bool.noConfusion (show false=true from p)
 . intro ks ds a vs _ _ _ _ _ u _ p;show Bool.noConfusion (show false=true from p)
 . intro us r _;cases r;show .nil
 .
  intro d ds x xs _ _ i1 i2 us r p;cases r with
  |cons r1 r2=>have p:(fF d&&cI ds)=true:=p;rw[eI]at p;show .cons (i1 _ r1 p.1) (i2 _ r2 p.2)
def Rep.dv(I: ~~~7)(q:Rep X.K M H d v)(r:RelV v u)(p:fF d=true):Dv s.heap d u:=q.dv2 I u r p
def aK.dv(I: ~~~7)(q:aK X.K M H ds vs)(r:Vals vs us)(p:cI ds=true):jc s.heap ds us:=by
 induction ds generalizing vs us with
 |nil=>cases q;cases r;show .nil
 |cons d ds ih=>cases q with |cons q1 q2=>cases r with |cons r1 r2=>have p:(fF d&&cI ds)=true:=p;rw[eI]at p;show .cons (q1.dv I r1 p.1) (ih q2 r2 p.2)
def Pk.dv(I: ~~~7)(h:Pk X.K M H d v)(r:RelV v u)(p:fF d=true):Dv s.heap d u:=by
 cases h with
 |of q=>show q.dv I r p
 |lst h q=>cases r;let(its,rv,ht,hz):=I.list (dQ.of h);show .lst ht.isList (aK.dv I q rv (by simpa [fF]using p))
end
def jc.length(q:jc h l us):l.length=us.length:=by
 induction l generalizing us with
 |nil=>cases q;rfl
 |cons d l ih=>cases q with |cons a b=>show congrArg (· + 1) (ih b)
def rB{h:Heap}{a:Addr}{us ws:List Value}(x:IsTup h a us.toArray)(y:IsTup h a ws.toArray):us=ws:=by let(o,e,_,n,d):=x;let(o',e',_,n',d'):=y;rw[e]at e';cases e';rw[d]at d';injection d' with d1 _;simpa using congrArg Array.toList d1
def oF{h:Heap}{a:Addr}{us ws:List Value}(x:h.IsList a us.toArray)(y:h.IsList a ws.toArray):us=ws:=by let(o,e,_,n,d):=x;let(o',e',_,n',d'):=y;rw[e]at e';cases e';rw[d]at d';injection d' with d1 _;simpa using congrArg Array.toList d1
def jS(x:IsTup h a us)(y:h.IsList a ws):False:=by let(o,e,c,_):=x;let(o',e',c',_):=y;rw[e]at e';cases e';rw[c]at c';show absurd c' ⋯
def Gz{h:Heap}{d1:D}{u:Value}(q:Dv h d1 u):∀d2,Dv h d2 u->cL d1 d2=true:=by
 apply Dv.rec (motive_2:=λl us _=>∀m,jc h m us->cC l m=true) ?_ ?_ ?_ ?_ ?_ ?_ ?_ q
 . intro b d2 q;cases q;show AL b
 . intro i t d2 q;cases q;show AL i
 . intro x t d2 q;cases q;show AL x
 .
  intro l a us x _ ih d2 q;cases q with
  |tup y q'=>cases rB x y;show ih _ q'
  |lst y _=>show (jS x y).elim
 .
  intro l a us x _ ih d2 q;cases q with
  |tup y _=>show (jS y x).elim
  |lst y q'=>cases oF x y;show ih _ q'
 . intro m q;cases q;rfl
 .
  intro d ds u us _ _ i1 i2 m q;cases q with
  |@cons d' m _ _ b q'=>exact (cL d d'&&cC ds m)=true;rw[i1 _ b,i2 _ q'];rfl
def M7(q:Dv h d1 u)(q':Dv h d2 u):cL d1 d2=true:=Gz q d2 q'
abbrev Rv(l m:List D)(j:Nat):Bool:=match l[j]?,m[j]? with |!a,!b=>cL a b |_,_=>false
def oG(l m:List D)(h:l.length=m.length):(List.range l.length).all (Rv l m)=cC l m:=by
 induction l generalizing m with
 |nil=>cases m with
  |nil=>rfl
  |cons _ _=>symm
 |cons a l ih=>cases m with
  |nil=>symm
  |cons b m=>rw[mB,List.range_succ_eq_map,List.all_cons,List.all_map];have e:(Rv (a::l) (b::m) ∘ Nat.succ)=Rv l m:=rfl;rw[e,ih m (DH h)];rfl
def oH(l m:List D)(h:l.length≠m.length):cC l m=false:=by
 induction l generalizing m with
 |nil=>cases m with
  |nil=>show absurd rfl h
  |cons _ _=>rfl
 |cons a l ih=>cases m with
  |nil=>rfl
  |cons b m=>exact (cL a b&&cC l m)=false;rw[ih m (λe=>h (congrArg (· + 1) e)),A8]
def ve(l m:List D):((List.range (min l.length m.length)).all (Rv l m)&&l.length==m.length)=cC l m:=by
 by_cases h:l.length=m.length
 . rw[h,Nat.min_self,<- h,oG l m h];simp
 .
  rw[oH l m h];have:(l.length==m.length)=false:=by simpa using h
  rw[this,A8]
def oJ{l:List D}{j:Nat}{d:D}(e:l[j]?=!d):dep d<=deps l:=by
 induction l generalizing j with
 |nil=>show nomatch (show none=!d from e)
 |cons d' l ih=>cases j with
  |zero=>cases (show some d'=!d from e);show Nat.le_max_left _ _
  |succ j=>show kS (ih (show l[j]?=!d from e)) (Nat.le_max_right _ _)
def jc.get{h:Heap}{l:List D}{us:List Value}{j:Nat}{u:Value}(q:jc h l us)(e:us[j]?=!u):∃d,l[j]?=!d/\Dv h d u:=by
 induction l generalizing us j with
 |nil=>cases q;show nomatch (show none=!u from e)
 |cons d' l ih=>cases q with |@cons _ _ u' us a b=>cases j with
  |zero=>cases (show some u'=!u from e);show#[_,rfl,a]
  |succ j=>let(d,h):=ih b e;show#[d,h]
def in1_units(A:Around):A.in1.units=A.units+1:=rfl
section
def GC(hl:s.heap.IsList l us.toArray)(hb:s.heap.IsList b ws.toArray)(q:jc s.heap ls us)(q':jc s.heap ms ws)(hu:A.units<cLine)
  (he:∀(j:Nat) d1 d2 u1 u2,ls[j]?=!d1->Dv s.heap d1 u1->Dv s.heap d2 u2->SeqAt.EqAt A.in1 s u1 u2 (cL d1 d2)):SeqAt.RcAt A s (.ref l) (.ref b) (cC ls ms):=by
 have h1:=q.length;have h2:=q'.length;by_cases h:ls.length=ms.length
 .
  rw[<- oG ls ms h];have e:us.toArray.size=ls.length:=by rw[d6,h1]
  rw[<- e];apply SeqAt.RcAt.lists hl hb (by rw[d6,d6];lia) hu λj g1 g2=>?_
  let(d1,e1,v1):=q.get (j:=j) (u:=us[j]) (by simp[g1])
  let(d2,e2,v2):=q'.get (j:=j) (u:=ws[j]) (by simp[g2])
  have:=he j d1 d2 us[j] ws[j] e1 v1 v2;simpa [Rv,e1,e2]using this
 . rw[oH ls ms h];apply SeqAt.RcAt.lists_lengths hl hb ?_ hu;rw[d6,d6];lia
def CN(hl:IsTup s.heap l us.toArray)(hb:IsTup s.heap b ws.toArray)(q:jc s.heap ls us)(q':jc s.heap ms ws)(hu:A.units<cLine)
  (he:∀(j:Nat) d1 d2 u1 u2,ls[j]?=!d1->Dv s.heap d1 u1->Dv s.heap d2 u2->SeqAt.EqAt A.in1 s u1 u2 (cL d1 d2)):SeqAt.RcAt A s (.ref l) (.ref b) (cC ls ms):=by
 have h1:=q.length;have h2:=q'.length;have e:us.toArray.size=ls.length:=by rw[d6,h1]
 have e':ws.toArray.size=ms.length:=by rw[d6,h2]
 rw[<- ve,<- e,<- e'];apply SeqAt.RcAt.tuples hl hb hu λj g1 g2=>?_
 let(d1,e1,v1):=q.get (j:=j) (u:=us[j]) (by simp[g1])
 let(d2,e2,v2):=q'.get (j:=j) (u:=ws[j]) (by simp[g2])
 have:=he j d1 d2 us[j] ws[j] e1 v1 v2;simpa [Rv,e1,e2]using this
def vf(x:Dv s.heap d1 (.ref l))(y:Dv s.heap d2 (.ref b))(h:SeqAt.RcAt A s (.ref l) (.ref b) (cL d1 d2)):SeqAt.EqAt A s (.ref l) (.ref b) (cL d1 d2):=by
 by_cases e:l=b
 . subst e;rw[M7 x y];show .same _
 . show .of_refs e h
end
def oK{s:Shared}:∀(n:Nat) {d1 d2:D}{u1 u2:Value}{A:Around},dep d1<=n->Dv s.heap d1 u1->Dv s.heap d2 u2->A.units+n<cLine->SeqAt.EqAt A s u1 u2 (cL d1 d2)/\SeqAt.RcAt A s u1 u2 (cL d1 d2):=by
 intro n
 induction n using Nat.strongRecOn with
 |ind n ih=>
  intro d1 d2 u1 u2 A hn x y hu;have eW:A.units<cLine:=by lia
  have el:∀{l:List D},deps l+1<=n->∀(j:Nat) d1 d2 u1 u2,l[j]?=!d1->Dv s.heap d1 u1->Dv s.heap d2 u2->SeqAt.EqAt A.in1 s u1 u2 (cL d1 d2):=λhl j d1 d2 u1 u2 e v1 v2=>
   (ih (n - 1) ⋯ (kS (oJ e) ⋯) v1 v2 (by rw[in1_units];lia)).1
  cases x with
  |@tup l0 a0 us0 h q=>
   have hn':deps l0+1<=n:=hn;have x:=Dv.tup h q;cases y with
   |tup h' q'=>have r:=CN h h' q q' eW (el hn');show#[vf x (.tup h' q') r,r]
   |lst h' q'=>show#[.tuple_list h h' eW,.tuple_list h h' eW]
   |bl b=>show#[.tuple_bool b h eW,.tuple_bool b h eW]
   |int b t=>show#[.tuple_int b t h eW,.tuple_int b t h eW]
   |str b t=>show#[.tuple_str b t h eW,.tuple_str b t h eW]
  |@lst l0 a0 us0 h q=>
   have hn':deps l0+1<=n:=hn;have x:=Dv.lst h q;cases y with
   |tup h' q'=>show#[.list_tuple h h' eW,.list_tuple h h' eW]
   |lst h' q'=>have r:=GC h h' q q' eW (el hn');show#[vf x (.lst h' q') r,r]
   |bl b=>show#[.list_bool b h eW,.list_bool b h eW]
   |int b t=>show#[.list_int b t h eW,.list_int b t h eW]
   |str b t=>show#[.list_str b t h eW,.list_str b t h eW]
  |bl c=>
   cases y with
   |bl c'=>show#[.bool_bool c c',.bool_bool c c']
   |int c' t'=>show#[.bool_int c c' t',.bool_int c c' t']
   |str c' t'=>show#[.bool_str c c' t',.bool_str c c' t']
   |tup h' q'=>show#[.bool_tuple c h' eW,.bool_tuple c h' eW]
   |lst h' q'=>show#[.bool_list c h' eW,.bool_list c h' eW]
  |int c t=>
   cases y with
   |bl c'=>show#[.int_bool c t c',.int_bool c t c']
   |int c' t'=>show#[.int_int c t c' t',.int_int c t c' t']
   |str c' t'=>show#[.int_str c t c' t',.int_str c t c' t']
   |tup h' q'=>show#[.int_tuple c t h' eW,.int_tuple c t h' eW]
   |lst h' q'=>show#[.int_list c t h' eW,.int_list c t h' eW]
  |str c t=>
   cases y with
   |bl c'=>show#[.str_bool c t c',.str_bool c t c']
   |int c' t'=>show#[.str_int c t c' t',.str_int c t c' t']
   |str c' t'=>show#[.str_str c t c' t',.str_str c t c' t']
   |tup h' q'=>show#[.str_tuple c t h' eW,.str_tuple c t h' eW]
   |lst h' q'=>show#[.str_list c t h' eW,.str_list c t h' eW]
section
variable{K:Frag}
def Pk.int{i:Int}(h:Pk K M H (.int i) v):v=.int i:=by cases h with |of r=>cases r;rfl
def Pk.bl(h:Pk K M H (.bl i) v):v=.bl i:=by cases h with |of r=>cases r;rfl
def Pk.str(h:Pk K M H (.str i) v):v=.str i:=by cases h with |of r=>cases r;rfl
def Pk.non(h:Pk K M H .non v):v=.non:=by cases h with |of r=>cases r;rfl
def Pk.tup{l:List D}(h:Pk K M H (.tup l) v):∃a xs,v=.ref a/\TupAt K M H a xs/\aK K M H l xs:=by cases h with |of r=>cases r with |tup h1 h2=>show⟨_,_,rfl,h1,h2⟩
def Pk.fix{l:List D}(h:Pk K M H (.fix l) v):∃a xs,v=.ref a/\rA K M H a xs/\aK K M H l xs:=by cases h with |of r=>cases r with |fix h1 h2=>show⟨_,_,rfl,h1,h2⟩
end
section
def nI{f:Value->Value->Sem Value}{k:Int->Int->Int}{i j:Int}(h:jK X f (Ft λi j=>.int (k i j))):kL X z f (.int i) (.int j) (.dat (.int (k i j))):=
 #[_,h,λg J As M H v1 v2 Q s p1 p2 kk=>#[i,j,p1.int,p2.int,kk _ H As M s (aq.refl _ _) (.int _)]]
def oM{f:Value->Value->Sem Value}{C:Int->Int->Prop}{k:Int->Int->Int}{i j:Int}(h:jK X f (rI C λi j=>.int (k i j)))(hc:C i j):kL X z f (.int i) (.int j) (.dat (.int (k i j))):=
 #[_,h,λg J As M H v1 v2 Q s p1 p2 kk=>#[i,j,p1.int,p2.int,hc,kk _ H As M s (aq.refl _ _) (.int _)]]
def tF{f:Value->Value->Sem Value}{k:Int->Int->Bool}{i j:Int}(h:jK X f (Ft λi j=>.bl (k i j))):kL X z f (.int i) (.int j) (.dat (.bl (k i j))):=
 #[_,h,λg J As M H v1 v2 Q s p1 p2 kk=>#[i,j,p1.int,p2.int,kk _ H As M s (aq.refl _ _) (.bl _)]]
abbrev M8(z:Z)(d1 d2:D)(b:Bool):R2:=λx y H Q=>(∃M,Pk z.K M H d1 x/\Pk z.K M H d2 y)/\Q (.bl b) H
def Z0(hK:z.K=X.K)(p1:fF d1=true)(p2:fF d2=true)(hd:X.A.units+dep d1<cLine):kL X z (compareOp .Eq) d1 d2 (.dat (.bl (cL d1 d2))):=by
 apply#[M8 z d1 d2 (cL d1 d2),?_,λg J As M H v1 v2 Q s q1 q2 kk=>#[#[M,q1,q2],kk _ H As M s (aq.refl _ _) (.bl _)]]
 intro aj s J H x y v u Q I rx ry h;let((M,q1,q2),q):=h;rw[hK]at q1 q2;show (oK (dep d1) (d5 _) (q1.dv I rx p1) (q2.dv I ry p2) hd).2 X.prog X.w X.xe _ #[.bl _,H,I,rfl,q]
section
def GD(hl:s.heap.IsList l us.toArray)(hb:s.heap.IsList b ws.toArray)(q:jc s.heap ls us)(q':jc s.heap ms ws)(hu:A.units<cLine)
  (he:∀(j:Nat) d1 d2 u1 u2,ls[j]?=!d1->Dv s.heap d1 u1->Dv s.heap d2 u2->SeqAt.EqAt A.in1 s u1 u2 (cL d1 d2)):SeqAt.RcNeAt A s (.ref l) (.ref b) ((not (cC ls ms))):=by
 have h1:=q.length;have h2:=q'.length;by_cases h:ls.length=ms.length
 .
  rw[<- oG ls ms h];have e:us.toArray.size=ls.length:=by rw[d6,h1]
  rw[<- e];apply SeqAt.RcNeAt.lists hl hb (by rw[d6,d6];lia) hu λj g1 g2=>?_
  let(d1,e1,v1):=q.get (j:=j) (u:=us[j]) (by simp[g1])
  let(d2,e2,v2):=q'.get (j:=j) (u:=ws[j]) (by simp[g2])
  have:=he j d1 d2 us[j] ws[j] e1 v1 v2;simpa [Rv,e1,e2]using this
 . rw[oH ls ms h];apply SeqAt.RcNeAt.lists_lengths hl hb ?_ hu;rw[d6,d6];lia
def CP(hl:IsTup s.heap l us.toArray)(hb:IsTup s.heap b ws.toArray)(q:jc s.heap ls us)(q':jc s.heap ms ws)(hu:A.units<cLine)
  (he:∀(j:Nat) d1 d2 u1 u2,ls[j]?=!d1->Dv s.heap d1 u1->Dv s.heap d2 u2->SeqAt.EqAt A.in1 s u1 u2 (cL d1 d2)):SeqAt.RcNeAt A s (.ref l) (.ref b) ((not (cC ls ms))):=by
 have h1:=q.length;have h2:=q'.length;have e:us.toArray.size=ls.length:=by rw[d6,h1]
 have e':ws.toArray.size=ms.length:=by rw[d6,h2]
 rw[<- ve,<- e,<- e'];apply SeqAt.RcNeAt.tuples hl hb hu λj g1 g2=>?_
 let(d1,e1,v1):=q.get (j:=j) (u:=us[j]) (by simp[g1])
 let(d2,e2,v2):=q'.get (j:=j) (u:=ws[j]) (by simp[g2])
 have:=he j d1 d2 us[j] ws[j] e1 v1 v2;simpa [Rv,e1,e2]using this
end
def Z5(x:Dv s.heap d1 u1)(y:Dv s.heap d2 u2)(hu:A.units+dep d1<cLine):SeqAt.RcNeAt A s u1 u2 ((not (cL d1 d2))):=by
 have eW:A.units<cLine:=by lia
 have el:∀{l:List D},deps l+1<=dep d1->∀(j:Nat) d1 d2 u1 u2,l[j]?=!d1->Dv s.heap d1 u1->Dv s.heap d2 u2->SeqAt.EqAt A.in1 s u1 u2 (cL d1 d2):=λhl j e1 e2 u1 u2 e v1 v2=>
  (oK (dep e1) (d5 _) v1 v2 (by rw[in1_units];have:=oJ e;lia)).1
 cases x with
 |tup h q=>
  cases y with
  |tup h' q'=>show CP h h' q q' eW (el (by simp[dep]))
  |lst h' q'=>show .tuple_list h h' eW
  |bl b=>show .tuple_bool b h eW
  |int b t=>show .tuple_int b t h eW
  |str b t=>show .tuple_str b t h eW
 |lst h q=>
  cases y with
  |tup h' q'=>show .list_tuple h h' eW
  |lst h' q'=>show GD h h' q q' eW (el (by simp[dep]))
  |bl b=>show .list_bool b h eW
  |int b t=>show .list_int b t h eW
  |str b t=>show .list_str b t h eW
 |bl c=>
  cases y with
  |bl c'=>show .bool_bool c c'
  |int c' t'=>show .bool_int c c' t'
  |str c' t'=>show .bool_str c c' t'
  |tup h' q'=>show .bool_tuple c h' eW
  |lst h' q'=>show .bool_list c h' eW
 |int c t=>
  cases y with
  |bl c'=>show .int_bool c t c'
  |int c' t'=>show .int_int c t c' t'
  |str c' t'=>show .int_str c t c' t'
  |tup h' q'=>show .int_tuple c t h' eW
  |lst h' q'=>show .int_list c t h' eW
 |str c t=>
  cases y with
  |bl c'=>show .str_bool c t c'
  |int c' t'=>show .str_int c t c' t'
  |str c' t'=>show .str_str c t c' t'
  |tup h' q'=>show .str_tuple c t h' eW
  |lst h' q'=>show .str_list c t h' eW
def Z6(hK:z.K=X.K)(p1:fF d1=true)(p2:fF d2=true)(hd:X.A.units+dep d1<cLine):kL X z (compareOp .NotEq) d1 d2 (.dat (.bl ((not (cL d1 d2))))):=by
 apply#[M8 z d1 d2 ((not (cL d1 d2))),?_,λg J As M H v1 v2 Q s q1 q2 kk=>#[#[M,q1,q2],kk _ H As M s (aq.refl _ _) (.bl _)]]
 intro aj s J H x y v u Q I rx ry h;let((M,q1,q2),q):=h;rw[hK]at q1 q2;show Z5 (q1.dv I rx p1) (q2.dv I ry p2) hd X.prog X.w X.xe _ #[.bl _,H,I,rfl,q]
def GF(q:Dv h d u):∀d' x,Dv h d' u->cL d x=cL d' x:=by
 apply Dv.rec (motive_2:=λl us _=>∀l' m,jc h l' us->cC l m=cC l' m) ?_ ?_ ?_ ?_ ?_ ?_ ?_ q
 . intro b d' x q;cases q;rfl
 . intro i t d' x q;cases q;rfl
 . intro y t d' x q;cases q;rfl
 .
  intro l a us k _ ih d' x q;cases q with
  |tup y q'=>
   cases rB k y;cases x with
   |tup m=>show ih _ m q'
   |_=>rfl
  |lst y _=>show (jS k y).elim
 .
  intro l a us k _ ih d' x q;cases q with
  |tup y _=>show (jS y k).elim
  |lst y q'=>
   cases oF k y;cases x with
   |lst m=>show ih _ m q'
   |_=>rfl
 . intro l' m q;cases q;rfl
 .
  intro d ds u us _ _ i1 i2 l' m q;cases q with
  |@cons d' l' _ _ b q'=>cases m with
   |nil=>rfl
   |cons y m=>exact (cL d y&&cC ds m)=(cL d' y&&cC l' m);rw[i1 _ y b,i2 _ m q']
def M9(x:D)(q:Dv h d u)(q':Dv h d' u):cL d x=cL d' x:=GF q d' x q'
open Classical in
abbrev Nb(h:Heap)(x:D)(u:Value):Bool:=decide (∃d,Dv h d u/\cL d x=true)
open Classical in
def yu(q:Dv h d u):Nb h x u=cL d x:=by
 delta Nb;cases e:cL d x with
 |true=>show oC #[d,q,e]
 |false=>apply wE ?_;rintro⟨d',q',e'⟩;rw[M9 x q' q,e]at e';cases e'
def zV(q:jc h l us):us.any (Nb h x)=l.any λd=>cL d x:=by
 induction l generalizing us with
 |nil=>cases q;rfl
 |cons d l ih=>cases q with |cons a b=>rw[List.any_cons,List.any_cons,yu a,ih b]
abbrev Z7(z:Z)(d1 d2:D)(b:Bool):R2:=M8 z d1 d2 b
def yw{A:Around}{s:Shared}{x:D}{u:Value}{l:List D}{us:List Value}(q:jc s.heap l us)(hx:Dv s.heap x u)(hu:A.units+deps l+1<cLine):∀y,y∈us.toArray->SeqAt.EqAt A.in1 s y u (Nb s.heap x y):=by
 intro y hy;have hy':y∈us:=by simpa using hy
 let(j,hj):=List.getElem?_of_mem hy';let(d,e,qd):=q.get hj;rw[yu qd];have:=oJ e;show (oK (dep d) (d5 _) qd hx (by rw[in1_units];lia)).1
abbrev cJ:D->Option (List D)
 |.lst l=>!l
 |.tup l=>!l
 |.fix l=>!l
 |_=>none
def yx{aj: ~~~1}{J:Sg}{M:List Addr}{H:Hp}{s:Shared}{d:D}{l:List D}{v:V}{u:Value}(I:L2.Inv X aj J H s)(p:Pk X.K M H d v)(r:RelV v u)(hs:cJ d=!l)(p2:cI l=true) :
  ∃a its,u=.ref a/\jc s.heap l its/\its.length<=sizeLine/\(d=.tup l/\IsTup s.heap a its.toArray\/(d=.lst l\/d=.fix l)/\s.heap.IsList a its.toArray):=by
 cases d with
 |tup m=>cases hs;let(a,xs,rfl,ha,rr):=p.tup;cases r;let(its,rv,pl,hz):=I.tuple ha.sq;show#[a,its,rfl,rr.dv I rv p2,rv.length▸hz,.inl #[rfl,pl]]
 |lst m=>cases hs;let(a,xs,rfl,ha,rr):=p.list;cases r;let(its,rv,pl,hz):=I.list (dQ.of ha);show#[a,its,rfl,rr.dv I rv p2,rv.length▸hz,.inr #[.inl rfl,pl.isList]]
 |fix m=>cases hs;let(a,xs,rfl,ha,rr):=p.fix;cases r;let(its,rv,pl,hz):=I.list ha.sq;show#[a,its,rfl,rr.dv I rv p2,rv.length▸hz,.inr #[.inr rfl,pl.isList]]
 |_=>cases hs
def Z8(hK:z.K=X.K)(hs:cJ d2=!l)(p1:fF d1=true)(p2:cI l=true)(hd:X.A.units+deps l+1<cLine):kL X z (compareOp .In) d1 d2 (.dat (.bl (l.any λd=>cL d d1))):=by
 apply#[Z7 z d1 d2 (l.any λd=>cL d d1),?_,λg J As M H v1 v2 Q s q1 q2 kk=>#[#[M,q1,q2],kk _ H As M s (aq.refl _ _) (.bl _)]]
 intro aj s J H x y v u Q I rx ry h;let((M,q1,q2),q):=h;rw[hK]at q1 q2;let(a,its,rfl,Cp,_,t):=yx I q2 ry hs p2;have el:=yw Cp (q1.dv I rx p1) hd;rw[<- zV Cp,<- List.any_toArray]at q;rcases t with ⟨_,pl⟩ |⟨_,pl⟩
 . show SeqAt.in_tupleAt _ pl el #[.bl _,H,I,rfl,q]
 . show SeqAt.in_listAt _ pl el #[.bl _,H,I,rfl,q]
def GJ(hK:z.K=X.K)(hs:cJ d2=!l)(p1:fF d1=true)(p2:cI l=true)(hd:X.A.units+deps l+1<cLine):kL X z (compareOp .NotIn) d1 d2 (.dat (.bl ((not (l.any λd=>cL d d1))))):=by
 apply#[Z7 z d1 d2 ((not (l.any λd=>cL d d1))),?_,λg J As M H v1 v2 Q s q1 q2 kk=>#[#[M,q1,q2],kk _ H As M s (aq.refl _ _) (.bl _)]]
 intro aj s J H x y v u Q I rx ry h;let((M,q1,q2),q):=h;rw[hK]at q1 q2;let(a,its,rfl,Cp,_,t):=yx I q2 ry hs p2;have el:=yw Cp (q1.dv I rx p1) hd;rw[<- zV Cp,<- List.any_toArray]at q;rcases t with ⟨_,pl⟩ |⟨_,pl⟩
 . show SeqAt.notIn_tupleAt _ pl el #[.bl _,H,I,rfl,q]
 . show SeqAt.notIn_listAt _ pl el #[.bl _,H,I,rfl,q]
def GK(b:Bool)(r:RelV x v):plainIs v (.bool b)=true/\(v==Value.bool b)=decide (x=V.bl b):=by
 cases x with
 |non=>cases r;show#[rfl,rfl]
 |bl c=>cases r;show#[rfl,by cases c <;> cases b <;> rfl]
 |int _=>let(t,rfl):=r;show#[rfl,rfl]
 |str _=>let(t,rfl):=r;show#[rfl,rfl]
 |Rj _=>let(t,rfl):=r;show#[rfl,rfl]
 |flt _=>let(t,rfl):=r;show#[rfl,rfl]
 |ref _=>cases r;show#[rfl,rfl]
 |ty _=>cases r;show#[rfl,rfl]
abbrev Z9(d:D)(b:Bool):Bool:=match d with |.bl c=>c==b |_=>false
def UJ{K:Frag}{M:List Addr}{H:Hp}{d:D}{x:V}{b:Bool}(h:Pk K M H d x):decide (x=V.bl b)=Z9 d b:=by
 cases h with
 |of r=>
  cases r with
  |bl c=>cases c <;> cases b <;> rfl
  |_=>rfl
 |lst _ _=>rfl
def aac{d1:D}{b:Bool}:kL X z (compareOp .Is) d1 (.bl b) (.dat (.bl (Z9 d1 b))):=by
 apply#[M8 z d1 (.bl b) (Z9 d1 b),?_,λg J As M H v1 v2 Q s q1 q2 kk=>#[#[M,q1,q2],kk _ H As M s (aq.refl _ _) (.bl _)]]
 intro aj s J H x y v u Q I rx ry h;let((M,q1,q2),q):=h;have e:=q2.bl;subst e;cases ry;let(h1,h2):=GK b rx;apply wpAny_is_plain h1 #[.bl (Z9 d1 b),H,I,?_,q];rw[h2,UJ q1];rfl
abbrev UL(d:D):Bool:=match d with |.non=>true |_=>false
def UT{K:Frag}{M:List Addr}{H:Hp}{d:D}{x:V}(h:Pk K M H d x):decide (x=V.non)=UL d:=by
 cases h with
 |of r=>cases r <;> rfl
 |lst _ _=>rfl
def UW{d1:D}:kL X z (compareOp .Is) d1 .non (.dat (.bl (UL d1))):=
 #[_,TQ,λg J As M H v1 v2 Q s q1 q2 kk=>#[q2.non,by rw[UT q1];show kk _ H As M s (aq.refl _ _) (.bl _)]]
def U0(h:l.length+m.length<=16777216):kL X z (binaryOp .Add) (.lst l) (.lst m) (.new (l++m)):=by
 apply#[_,Ua,λg J As M H v1 v2 Q s q1 q2 kk=>?_]
 let(a,xs,rfl,ha,ra):=q1.list;let(b,ys,rfl,hb,rb):=q2.list;apply#[a,b,xs,ys,rfl,rfl,ha,hb,by rw[<- ra.length,<- rb.length];show oE h,λp hp=>?_]
 show kk _ _ As (p::M) (s.bw hp) (aq.bw hp) #[p,_,rfl,dA,λhA=>s.fresh hp (s.sub p hA),s.cS hp,aF,(ra.append rb).stay (aq.bw hp)]
def U1(h1 : -(2 ^ 63)<=k)(h2:k<2 ^ 63)(h:l.length * k.toNat<=16777216):kL X z (binaryOp .Mult) (.lst l) (.int k) (.new (List.replicate k.toNat l).flatten):=by
 apply#[_,Ub,λg J As M H v1 v2 Q s q1 q2 kk=>?_]
 let(a,xs,rfl,ha,ra):=q1.list;have rr:∀n,aK z.K M H (List.replicate n l).flatten (List.replicate n xs).flatten:=λn=>by
  induction n with
  |zero=>simp;show .nil
  |succ n ih=>rw[AQ,AQ];show ra.append ih
 apply#[a,k,xs,rfl,q2.int,ha,h1,h2,by rw[<- ra.length];show oE h,λp hp=>?_]
 show kk _ _ As (p::M) (s.bw hp) (aq.bw hp) #[p,_,rfl,dA,λhA=>s.fresh hp (s.sub p hA),s.cS hp,aF,(rr _).stay (aq.bw hp)]
abbrev U3(K:Frag):R2:=λx y H Q=>∃a b xs ys,x=.ref a/\y=.ref b/\iE K H a xs/\iE K H b ys/\xs.length+ys.length<=sizeLine/\
 (xs=[]->Q (.ref b) H)/\(xs≠[]->ys=[]->Q (.ref a) H)/\(xs≠[]->ys≠[]->∀p,H p=none->Q (.ref p) (upd H p (.tup (xs++ys))))
def GL:jK X (binaryOp .Add) (U3 X.K):=by
 intro aj s J H x y v u Q I rx ry h;let(a,b,xs,ys,rfl,rfl,ha,hb,hz,q0,q1,q2):=h;by_cases hx:xs=[]
 .
  subst hx;cases rx;cases ry;let(its,r1,p1,_):=I.tuple ha;let(jJ,r2,p2,_):=I.tuple hb;cases r1;let((cls,dd,data,sl),ho,hc,n,hd):=id p1;let((S0,dd2,data2,sl2),ho2,hc2,n2,hd2):=id p2;subst hc hd hc2 hd2;show concat_meets #[_,ho,rfl] #[_,ho2,rfl] noFill_tuple_add seq_tuple_add C7 CY (CM _ _)
   (tuple_addW0 a b ([].toArray) jJ.toArray n n2 dd dd2 sl sl2 ⋯) #[ho,ho2,#[.ref b,H,I,rfl,q0 rfl]]
 . show Mq aj s J H (.ref a) (.ref b) v u Q I rx ry #[a,b,xs,ys,rfl,rfl,ha,hb,hx,hz,q1 hx,q2 hx]
def Nc(hK:z.K=X.K)(h:l.length+m.length<=16777216):kL X z (binaryOp .Add) (.tup l) (.tup m) (.dat (.tup (l++m))):=by
 apply#[_,GL,λg J As M H v1 v2 Q s q1 q2 kk=>?_]
 let(a,xs,rfl,ha,ra):=q1.tup;let(b,ys,rfl,hb,rb):=q2.tup;have la:=ra.length;have lb:=rb.length;apply#[a,b,xs,ys,rfl,rfl,hK▸ha.sq,hK▸hb.sq,by rw[<- la,<- lb];show oE h,λe=>?_,λe1 e2=>?_,λe1 e2 p hp=>?_]
 .
  subst e;cases l with
  |nil=>show kk _ H As M s (aq.refl _ _) (.tup hb rb)
  |cons _ _=>simp at la
 .
  subst e2;cases m with
  |nil=>rw[oT]at kk;show kk _ H As M s (aq.refl _ _) (.tup ha ra)
  |cons _ _=>simp at lb
 . show kk _ _ As M (s.laid hp) (aq.laid hp) (.tup (.inl #[s.fresh hp,.inl aF]) ((ra.append rb).stay (aq.laid hp)))
def oN{K:Frag}{M:List Addr}{H:Hp}{l:List D}{xs:List V}{i:Int}{d:D}(r:aK K M H l xs)(h:d9 l i=!d):∃v,d9 xs i=!v/\Rep K M H d v:=by
 delta d9 at h ⊢
 rw[<- r.length];cases e:nF l.length i with
 |none=>rw[e]at h;symm
 |some j=>rw[e]at h;have h':=h;let(v,h1,h2):=r.get h';show#[v,h1,h2]
def U4{l:List D}{i:Int}{d:D}(hK:z.K=X.K)(h:d9 l i=!d):ZW X z (.lst l) (.int i) (.dat d):=by
 apply#[_,sX,λg J As M H v1 v2 Q s q1 q2 kk=>?_]
 let(a,xs,rfl,ha,ra):=q1.list;let(v,e,r):=oN ra h;show#[a,xs,i,v,rfl,q2.int,dQ.of ha,e,kk _ H As M s (aq.refl _ _) r]
def U5{l:List D}{i:Int}{d:D}(hK:z.K=X.K)(h:d9 l i=!d):ZW X z (.fix l) (.int i) (.dat d):=by
 apply#[_,sX,λg J As M H v1 v2 Q s q1 q2 kk=>?_]
 let(a,xs,rfl,ha,ra):=q1.fix;let(v,e,r):=oN ra h;show#[a,xs,i,v,rfl,q2.int,hK▸ha.sq,e,kk _ H As M s (aq.refl _ _) r]
def Nf{l:List D}{i:Int}{d:D}(hK:z.K=X.K)(h:d9 l i=!d):ZW X z (.tup l) (.int i) (.dat d):=by
 apply#[_,T6,λg J As M H v1 v2 Q s q1 q2 kk=>?_]
 let(a,xs,rfl,ha,ra):=q1.tup;let(v,e,r):=oN ra h;show#[a,xs,i,v,rfl,q2.int,hK▸ha.sq,e,kk _ H As M s (aq.refl _ _) r]
abbrev bI:List D->Option (~~~0)
 | []=>![]
 |.int i::l=>match bI l with |some ns=>!(i::ns) |none=>none
 |_::_=>none
def dB{K:Frag}{M:List Addr}{H:Hp}{l:List D}{xs:List V}{ns: ~~~0}(q:aK K M H l xs)(e:bI l=!ns):xs=ns.map V.int:=by
 induction l generalizing xs ns with
 |nil=>cases q;cases e;rfl
 |cons d l ih=>cases q with |cons r q=>cases d with
  |int i=>
   have e:(match bI l with |some ns=>!(i::ns) |none=>none)=!ns:=e
   cases e2:bI l with
   |none=>rw[e2]at e;cases e
   |some ns=>rw[e2]at e;cases e;cases r;rw[List.map_cons,ih q e2]
  |_=>cases e
def U6{l m:List D}{ns ms: ~~~0}(hK:z.K=X.K)(hu:X.A.units<cLine)(h1:bI l=!ns)(h2:bI m=!ms):kL X z (compareOp .Lt) (.tup l) (.tup m) (.dat (.bl (HT.lexLt ns ms))):=by
 apply#[_,T5 hu,λg J As M H v1 v2 Q s q1 q2 kk=>?_]
 let(a,xs,rfl,ha,ra):=q1.tup;let(b,ys,rfl,hb,rb):=q2.tup;have e1:=dB ra h1;have e2:=dB rb h2;subst e1 e2;show#[a,b,ns,ms,rfl,rfl,hK▸ha.sq,hK▸hb.sq,kk _ H As M s (aq.refl _ _) (.bl _)]
end
section
def MT.one{K:Frag}{M:List Addr}{H:Hp}{d:D}{vs:List V}(h:MT K M H [d] vs):∃v,vs=[v]/\Pk K M H d v:=by cases h with |cons p q=>cases q;show#[_,rfl,p]
def MT.two{K:Frag}{M:List Addr}{H:Hp}{d e:D}{vs:List V}(h:MT K M H [d,e] vs):∃v w,vs=[v,w]/\Pk K M H d v/\Pk K M H e w:=by cases h with |cons p q=>cases q with |cons p' q'=>cases q';show#[_,_,rfl,p,p']
abbrev aad:D->Option Nat
 |.lst l=>!l.length
 |.tup l=>!l.length
 |.fix l=>!l.length
 |_=>none
def U7{d:D}{n:Nat}(hK:z.K=X.K)(h:aad d=!n):CallD X z (.builtin "len") [d] ‹n›:=by
 apply#[_,Gg,λg J As M H vs Q s p k=>?_]
 let(v,rfl,pv):=p.one;apply#[v,n,rfl,?_,k _ H As M s (aq.refl _ _) (.int _)];cases d with
 |lst l=>symm;let(a,xs,rfl,ha,r):=pv.list;show .inl #[xs,dQ.of ha,r.length]
 |fix l=>symm;let(a,xs,rfl,ha,r):=pv.fix;show .inl #[xs,hK▸ha.sq,r.length]
 |tup l=>symm;let(a,xs,rfl,ha,r):=pv.tup;show .inr #[xs,hK▸ha.sq,r.length]
 |_=>symm
def Ng{d:D}{l:List D}(hK:z.K=X.K)(h:cJ d=!l):CallD X z (.type "list") [d] (.new l):=by
 apply#[_,sY,λg J As M H vs Q s p k=>?_]
 let(v,rfl,pv):=p.one;have fin:∀xs,aK z.K M H l xs->∀p,H p=none->Q (.ref p) (upd H p (.lst xs)):=λxs r p hp=>
  k _ _ As (p::M) (s.bw hp) (aq.bw hp) #[p,xs,rfl,dA,λhA=>s.fresh hp (s.sub p hA),s.cS hp,aF,r.stay (aq.bw hp)]
 cases d with
 |lst m=>symm;let(a,xs,rfl,ha,r):=pv.list;show#[a,xs,rfl,.inl (dQ.of ha),fin xs r]
 |fix m=>symm;let(a,xs,rfl,ha,r):=pv.fix;show#[a,xs,rfl,.inl (hK▸ha.sq),fin xs r]
 |tup m=>symm;let(a,xs,rfl,ha,r):=pv.tup;show#[a,xs,rfl,.inr (hK▸ha.sq),fin xs r]
 |_=>symm
def GP{d:D}{l:List D}(hK:z.K=X.K)(h:cJ d=!l):CallD X z (.type "tuple") [d] (.dat (.tup l)):=by
 apply#[_,qG,λg J As M H vs Q s p k=>?_]
 let(v,rfl,pv):=p.one;have fin:∀xs,aK z.K M H l xs->∀p,H p=none->Q (.ref p) (upd H p (.tup xs)):=λxs r p hp=>
  k _ _ As M (s.laid hp) (aq.laid hp) (.tup (.inl #[s.fresh hp,.inl aF]) (r.stay (aq.laid hp)))
 cases d with
 |lst m=>symm;let(a,xs,rfl,ha,r):=pv.list;show#[a,xs,rfl,.inl #[dQ.of ha,fin xs r]]
 |fix m=>symm;let(a,xs,rfl,ha,r):=pv.fix;show#[a,xs,rfl,.inl #[hK▸ha.sq,fin xs r]]
 |tup m=>symm;let(a,xs,rfl,ha,r):=pv.tup;show#[a,xs,rfl,.inr #[hK▸ha.sq,k _ H As M s (aq.refl _ _) (.tup ha r)]]
 |_=>symm
def U8{i j:Int}(hc:X.calm=true):CallD X z (.builtin "max") [.int i,.int j] (.dat (.int (if j > i then j else i))):=by
 apply#[_,Ci hc,λg J As M H vs Q s p k=>?_]
 let(v,w,rfl,p1,p2):=p.two;show#[i,j,by rw[p1.int,p2.int],k _ H As M s (aq.refl _ _) (.int _)]
def U9{i j:Int}(hc:X.calm=true):CallD X z (.builtin "min") [.int i,.int j] (.dat (.int (if j<i then j else i))):=by
 apply#[_,Cj hc,λg J As M H vs Q s p k=>?_]
 let(v,w,rfl,p1,p2):=p.two;show#[i,j,by rw[p1.int,p2.int],k _ H As M s (aq.refl _ _) (.int _)]
end
section
def oO(hc:X.calm=true):fM X (.builtin "all") (λxs H Q=>∃(p:Addr) (bs:List Bool),xs=[.ref p]/\dQ X.K H p (bs.map V.bl)/\Q (.bl (bs.all id)) H):=by
 intro aj s J H xs us Q I r h;let(p,bs,rfl,hp,q):=h;let(u,rfl,rx):=vals1 r;cases rx;let(its,rv,pl,hz):=I.list hp;have hlt:p<s⁻¹:=by let(_,e,_):=pl.isList;show fA e
 have aN:its.length=bs.length:=by rw[<- rv.length,eA]
 have up:∀b o,s.heap.get? b=!o->(s.heap.push { cls:=.type "list_iterator",data:=.fields ([.ref p,.int 0 0].toArray)}).get? b=!o:=λb o e=>dE _ e
 apply call_all_walk (C9 pl.isList ?_);apply#[s⁻¹,_,_,_,_,_,λi=>bs.getD i true,rfl,Walks.list (show X.A.in1.handled=none from I.ok.hd hc) s⁻¹ p (mP hlt) its.toArray,#[#[_,eM _ rfl,rfl,rfl],pl.isList.push _],?_,λh' tk hk=>?_]
 .
  intro i v s' Q' E' hv hq;have hv':its[i]?=!v:=by simpa using hv
  have hi:i<bs.length:=by rw[<- aN];show (dL.mp hv').1
  let(w,e1,e2):=rv.get (i:=i) (x:=V.bl bs[i]) (by simp[hi])
  rw[hv']at e1;cases e1;cases e2;apply tI ?_;have:bs.getD i true=bs[i]:=by simp[hi]
  rw[<- this];show hq
 .
  have I1:L2.Inv X aj J H { s with heap:=h',toks:=tk}:=I.kept λb o e=>hk b o (λhm=>by
   have:b=s⁻¹:=by simpa using hm
   show absurd (fA e) (by rw[this];show u8 _)) (up b o e)
  apply#[.bl (bs.all id),H,I1,?_,q];have e:(List.range its.toArray.size).all (λi=>bs.getD i true)=bs.all id:=by
   rw[d6,aN];rw[B9];simp only[nV,o6];constructor
   . intro h b hb;let(j,hj):=List.getElem?_of_mem hb;have hj':=(dL.mp hj).1;have:=h j hj';simpa [List.getD,hj]using this
   . intro h i hi;have:=h bs[i] (tP hi);simpa [List.getD,hi]using this
  rw[e];rfl
abbrev vg:List D->Option (List Bool)
 | []=>![]
 |.bl b::l=>match vg l with |some bs=>!(b::bs) |none=>none
 |_::_=>none
def GQ{K:Frag}{M:List Addr}{H:Hp}{l:List D}{xs:List V}{ns:List Bool}(q:aK K M H l xs)(e:vg l=!ns):xs=ns.map V.bl:=by
 induction l generalizing xs ns with
 |nil=>cases q;cases e;rfl
 |cons d l ih=>cases q with |cons r q=>cases d with
  |bl i=>
   have e:(match vg l with |some ns=>!(i::ns) |none=>none)=!ns:=e
   cases e2:vg l with
   |none=>rw[e2]at e;cases e
   |some ns=>rw[e2]at e;cases e;cases r;rw[List.map_cons,ih q e2]
  |_=>cases e
def Va{l:List D}{bs:List Bool}(hc:X.calm=true)(h:vg l=!bs):CallD X z (.builtin "all") [.lst l] (.dat (.bl (bs.all id))):=by
 apply#[_,oO hc,λg J As M H vs Q s p k=>?_]
 let(v,rfl,pv):=p.one;let(a,xs,rfl,ha,r):=pv.list;have e:=GQ r h;subst e;show#[a,bs,rfl,dQ.of ha,k _ H As M s (aq.refl _ _) (.bl _)]
end
abbrev xU:D->String
 |.non=> "NoneType" |.bl _=> "bool" |.int _=> "int" |.str _=> "str" |.tup _=> "tuple" |.lst _=> "list" |.fix _=> "list" |.emp _=> "dict" |.Gs _=> "" |.Rt ..=> "dict"
abbrev tyW:D->Value
 |.Gs C=>.ref C
 |d=>.type (xU d)
def CQ{M:Model}{A:Around}{E:Value->Shared->Prop}{K:Frag}{x C:Addr}{ox:Obj}{nv:Value}{Q:Unit->Shared->Prop}{s:Shared}(X:K.In s.heap)(I:PySem.W.InstAt s.heap x ox C none)(hb:PySem.W.mroIn K C (.type "BaseException")=!true)(hq:Q () s) :
  wpAny M A (checkBuiltinCall "BaseException.__getattribute__" #[[.ref x,nv],[]]) Q E s:=by
 have kd:builtinKind "BaseException.__getattribute__"=some .slot:=by decide +kernel
 have sd:splitId "BaseException.__getattribute__"=!("BaseException", "__getattribute__"):=by decide +kernel
 let(hv,ge,dr,tk,o'):=s;have l0:=I.type (M:=M);have l1:=PySem.W.looks_mroIn (M:=M) X hb;simp only[checkBuiltinCall];apply aS (aS (l0.at (l1.at ?_)))
 repeat (any_goals (first |assumption |wp_step))
def GR{prog:Program}{w:World}{A:Around}{E:Value->Shared->Prop}{K:Frag}{x C:Addr}{ox:Obj}{name:Str}{g a:Value}{Q:Option Value->Shared->Prop}{s:Shared}(X:K.In s.heap)(I:PySem.W.InstAt s.heap x ox C none)
  (hga:PySem.W.findIn K (.ref C) "__getattribute__"=!(!(.builtin "BaseException.__getattribute__"))) (hk:PySem.W.findIn K (.ref C) "__getattr__"=!none) (hb:PySem.W.mroIn K C (.type "BaseException")=!true) (hf:PySem.W.findObj K C none name=!(.bind g a))
  (h:wpAny (model prog w) A.in1 (call g [a,.ref x,.ref C]) (λv s'=>wpAny (model prog w) A (handedOut v) (λv s''=>Q (!v) s'') (λ_ _=>False) s') (λ_ _=>False) { s with toks:=s.toks+1}) :
  wpAny (model prog w) A (getAttr? (.ref x) name) Q E s:=by
 let(hv,ge,dr,tk,o'):=s;have l0:=I.type (M:=model prog w);have l1:=PySem.W.looks_findIn (M:=model prog w) X hga;have l2:=PySem.W.looks_findIn (M:=model prog w) X hk;have l3:=PySem.W.looks_find (M:=model prog w) X I hf;have f3:=F.excAttr_ValueError.ga.bind (.ref x);apply aS (wpAny_mkText (aS (D5 (nN (aS (l0.at (aS (l1.at ?_))))))));apply aS (l2.at (aS (D5 (nN ?_))));exact wpAny _ _ (boundAndCalled _ _ _) _ _ _;delta boundAndCalled;apply aS (dC (wpAny_call (codeAny_call_builtin F.excAttr_ValueError.ga.plain F.entry_bexc_ga (CQ X I hb ?_))));apply aS (dC (aS (dC (aS (l0.at (aS (l3.at ?_)))))));apply aS (nN (o5 h (λv s' z=>dC ?_) λ_ _ z=>z.elim))
 show o5 z (λv s'' hv=>dC hv) (λ_ _ z=>z.elim)
def kW{K:Frag}{C:Addr}(k:ZT K C):∃c d cd sl,K.lookup C=!#[c,d,.cls cd,sl]/\PySem.W.clsIn K C=!cd:=by
 let(cd,hc,_):=PySem.W.any_some k.dct;have hc':=hc;delta PySem.W.clsIn at hc;split at hc
 . ext c d cd' sl ho;cases hc;show#[c,d,cd,sl,ho,hc']
 . cases hc
def GX{K:Frag}{x C:Addr}(k:ZT K C):PySem.W.KitX K (.ref x) (.ref C) (λh=>∃ox,PySem.W.InstAt h x ox C none) where
 ty:=by rintro _ _ _ ⟨_,I⟩;show I.type
 it:=λ_ _ X _=>by
  let(c,d,cd,sl,ho,_):=kW k;intro A' Q' E' s' kp q;apply aS ?_;apply wpAny_loadPart (kp _ _ (X _ _ ho)) ?_;show dC q
 ne:=λh tp dd its n sl X htp=>by
  let(c,d,cd,sl',ho,_):=kW k;cases q:(Value.ref C==Value.ref tp)with
  |false=>rfl
  |true=>have e:=Value.ref.inj (CA.mp q);subst e;have y:=(X _ _ ho).symm.trans htp;cases y
 ca:=λ{prog w A E Q s} X #[ox,I] h=>by
  let(_,_,cd,_,_,hc):=kW k;have hf:PySem.W.findObj K C none "__class__"=!(.bind (.builtin "getset_descriptor.__get__") (.builtin "object.__class__")):=by delta PySem.W.findObj;rw[hc,k.cls];simp[k.spc,k.tks]
  apply GR X I k.gga k.gat k.bas hf (wpAny_call ?_);show PySem.W.class_get X I k.mro (PySem.W.handed_on rfl h)
section
def Vb(I:L2.Inv X aj J H s)(p:Pk X.K M H d v)(r:RelV v u)
  (e:PySem.W.kitOne X.K (tyW d) c=!b) (h:∀tk,Q (.bool b) { s with toks:=tk}):wpAny (~~~2) A (call (.builtin "isinstance") [u,c]) Q E s:=by
 cases d with
 |non=>have q:=p.non;subst q;cases r;show yB PySem.W.kitx_none I.uO True.intro e (λz=>nomatch z) h
 |bl y=>have q:=p.bl;subst q;cases r;show yB PySem.W.kitx_bool I.uO True.intro e (λz=>nomatch z) h
 |int i=>have q:=p.int;subst q;let(t,rfl):=r;show yB PySem.W.kitx_int I.uO True.intro e (λz=>nomatch z) h
 |str y=>have q:=p.str;subst q;let(t,rfl):=r;show yB PySem.W.kitx_str I.uO True.intro e (λz=>nomatch z) h
 |tup l=>let(a,xs,rfl,ha,_):=p.tup;cases r;let(its,_,(o,h1,h2,_),_):=I.tuple ha.sq;show yB PySem.W.kitx_tuple I.uO #[o,h1,h2] e (λz=>nomatch z) h
 |lst l=>let(a,xs,rfl,ha,_):=p.list;cases r;let(its,_,pl,_):=I.list (dQ.of ha);let(o,h1,h2,_):=pl.isList;show yB PySem.W.kitx_list I.uO #[o,h1,h2] e (λz=>nomatch z) h
 |fix l=>let(a,xs,rfl,ha,_):=p.fix;cases r;let(its,_,pl,_):=I.list ha.sq;let(o,h1,h2,_):=pl.isList;show yB PySem.W.kitx_list I.uO #[o,h1,h2] e (λz=>nomatch z) h
 |emp m=>
  cases p with
  |of q=>
   cases q with
   |emp _ ha=>cases r;let(_,_,_,vs,_,o,es,ep,h1,h2,_):=I.hok _ _ ha;show yB PySem.W.kitx_dict I.uO #[o,h1,h2.1] e (λz=>nomatch z) h
 |Gs C=>
  cases p with
  |of q=>
   cases q with
   |Gs k _ ha=>cases r;let((o,h1,h2,h3,h4),_):=I.hok _ _ ha;show yB (GX k) I.uO #[o,h1,h2,h3,by rw[h4];trivial] e (λz=>nomatch z) h
 |Rt ks ds=>
  cases p with
  |of q=>
   cases q with
   |Rt _ ha _ _=>cases r;let(_,_,vs,_,o,es,ep,h1,h2,_):=I.hok _ _ ha;show yB PySem.W.kitx_dict I.uO #[o,h1,h2.1] e (λz=>nomatch z) h
def GZ:fM X (.builtin "isinstance") (λxs H Q=>∃x n M d b,xs=[x,.ty n]/\Pk X.K M H d x/\PySem.W.kitOne X.K (tyW d) (.type n)=!b/\Q (.bl b) H):=by intro aj s J H xs us Q I r h;let(x,n,M,d,b,rfl,p,e,q):=h;let(u,w',rfl,r1,r2):=vals2 r;cases r2;show Vb I p r1 e λtk=>#[.bl b,H,I.tok tk,rfl,q]
def Vc(hK:z.K=X.K)(h:aA X z a g r1 g1)(hp:pk r1 g1=!d)(he:∀M H v,Pk X.K M H d v->PySem.W.kitOne X.K (tyW d) (.type n)=!b)
  (hg:Gl X "isinstance") (hm:X.mg "isinstance"=none) (hv:bootBuiltins "isinstance"=!(.builtin "isinstance")) (gT:Gl X T) (mT:X.mg T=none) (vT:bootBuiltins T=!(.type n)) (nT:T≠ "__name__") (dT:(T==(~~~3))=false)
  (hs:starEach [a,.Name T pT] X.env=(false,eval a X.env)::starEach [.Name T pT] X.env):aA X z (.Call (.Name "isinstance" p) [a,.Name T pT] [] pos) g (.dat (.bl b)) g1:=by
 let(t,q,k):=h;have pT':PE X (.Name T pT) (tC (.ty n)):=LQ gT mT vT rfl nT dT;apply#[_,nX GZ hg hm hv (gR q (gR pT' kQ) hs) ⋯ ⋯ hs,λJ As M H Q s kk=>k J As M H _ s λv H' aE M' s' st R=>?_]
 have p:=hK▸s'.pk (aq.refl _ _) R hp;show#[v,n,M',d,b,rfl,p,he _ _ _ p,kk _ H' aE M' s' st (.bl b)]
end
inductive Fl where
 |nx |rt (r:R) |bk |ct
abbrev oR(z:Z)(M:List Addr)(H:Hp)(E:Ends)(g':G):Fl->Prop
 |.nx=>∀σ' aE M' H',S z g' σ' aE M' H'->aq M H M' H'->E.nx σ' H'
 |.bk=>∀σ' aE M' H',S z g' σ' aE M' H'->aq M H M' H'->E.bk σ' H'
 |.ct=>∀σ' aE M' H',S z g' σ' aE M' H'->aq M H M' H'->E.ct σ' H'
 |.rt r=>∀v σ' aE M' H',S z g' σ' aE M' H'->aq M H M' H'->fP z g' σ' aE M' H' r v->E.rt v H'
abbrev gq(X:Cx)(z:Z)(st:Stmt)(g:G)(f:Fl)(g':G):Prop:=
 ∃t,PS X st t/\∀J As M H E,S z g J As M H->oR z M H E g' f->t E J H
abbrev eZ(X:Cx)(z:Z)(uK:List Stmt)(g:G)(f:Fl)(g':G):Prop:=
 ∃t,uL X uK t/\∀J As M H E,S z g J As M H->oR z M H E g' f->t E J H
section
variable{st:Stmt}
def oR.trans(st:aq M H M1 H1)(h:oR z M H E g' f):oR z M1 H1 E g' f:=by
 cases f with
 |nx=>show λσ' aE M' H' s' st'=>h σ' aE M' H' s' (st.trans st')
 |bk=>show λσ' aE M' H' s' st'=>h σ' aE M' H' s' (st.trans st')
 |ct=>show λσ' aE M' H' s' st'=>h σ' aE M' H' s' (st.trans st')
 |rt r=>show λv σ' aE M' H' s' st' R=>h v σ' aE M' H' s' (st.trans st') R
def Vd:eZ X z [] g .nx g:=#[_,LR,λJ As M H E s k=>k J As M H s (aq.refl _ _)]
def Nh(h1:gq X z st g .nx g1)(h2:eZ X z uK g1 f g2):eZ X z (st::uK) g f g2:=by let(t1,q1,k1):=h1;let(t2,q2,k2):=h2;show#[_,gg q1 q2,λJ As M H E s k=>k1 J As M H _ s λσ' aE M' H' s' st'=>k2 σ' aE M' H' E s' (k.trans st')]
def Ve(h1:gq X z st g (.rt r) g1):eZ X z (st::uK) g (.rt r) g1:=by let(t1,q1,k1):=h1;show#[_,gg q1 eK,λJ As M H E s k=>k1 J As M H _ s k]
def Vf(h1:gq X z st g .bk g1):eZ X z (st::uK) g .bk g1:=by let(t1,q1,k1):=h1;show#[_,gg q1 eK,λJ As M H E s k=>k1 J As M H _ s k]
def Vg(h1:gq X z st g .ct g1):eZ X z (st::uK) g .ct g1:=by let(t1,q1,k1):=h1;show#[_,gg q1 eK,λJ As M H E s k=>k1 J As M H _ s k]
def Vh(h:aA X z e g r g1):gq X z (.Return (!e) pos) g (.rt r) g1:=by let(t,q,k):=h;show#[_,FW q,λJ As M H E s kk=>k J As M H _ s λv H' aE M' s' st R=>kk v J aE M' H' s' st R]
def Ni(h:aA X z e g r g1)(hs:swapsWith e none pos.line X.env=pure false):gq X z (.Expr e pos) g .nx g1:=by let(t,q,k):=h;show#[_,zM q hs,λJ As M H E s kk=>k J As M H _ s λv H' aE M' s' st R=>kk J aE M' H' s' st]
def Rx(h:cZ X z c g v g1)(h2:eZ X z (if v then a else b) g1 f g2):gq X z (.If c a b pos) g f g2:=by
 let(t,q,k):=h;let(t2,q2,k2):=h2;cases v with
 |true=>show#[_,Rl q q2 eK,λJ As M H E s kk=>k J As M H _ s λH' aE M' s' st=>jO (k2 J aE M' H' E s' (kk.trans st))]
 |false=>show#[_,Rl q eK q2,λJ As M H E s kk=>k J As M H _ s λH' aE M' s' st=>oq (k2 J aE M' H' E s' (kk.trans st))]
def Nj(hN:X.N.Nodup)(hi:X.N[i]?=!x)(hx:Loc X.env.scope x)(h:aA X z e g (.dat d) g1)(hs:swapsWith e (!(.Name x pos')) pos.line X.env=pure false)(hf:X.fn x=true\/X.env.scope.names.lookup x=some .local)(hb:i∉z.bor) :
  gq X z (.Assign [.Name x pos'] e pos) g .nx (g1.set i (.dat d)):=by
 let(t,q,k):=h;apply#[_,FZ hN hi hx q hs hf,λJ As M H E s kk=>k J As M H _ s λv H' aE M' s' st R=>?_]
 let(bG,s2):=s'.eV hb R;show kk _ bG M' H' s2 st
def Nm(hN:X.N.Nodup)(hi:X.N[i]?=!x)(hx:Loc X.env.scope x)(h:aA X z e g (.new l) g1)(hl:i<g1.length)(hs:swapsWith e (!(.Name x pos')) pos.line X.env=pure false)(hf:X.fn x=true\/X.env.scope.names.lookup x=some .local)(hb:i∉z.bor) :
  gq X z (.Assign [.Name x pos'] e pos) g .nx (g1.set i (.own l)):=by
 let(t,q,k):=h;apply#[_,FZ hN hi hx q hs hf,λJ As M H E s kk=>k J As M H _ s λv H' aE M' s' st R=>?_]
 let(a,xs,rfl,hm,hA,h0,ha,rr):=R;let(bG,s2):=s'.oA hb hl hm hA h0 ha rr;show kk _ bG M' H' s2 st
end
abbrev tAny(X:Cx)(uK:List Stmt):TS:=λE J H=>∃t,uL X uK t/\t E J H
def zW{X:Cx}{uK:List Stmt}:uL X uK (tAny X uK):=λaj s J H E I h=>let #[t,q,k]:=h;q aj s J H E I k
section
def drop_cons{α:Type}{l:List α}{n:Nat}{a:α}(h:l[n]?=!a):l.drop n=a::l.drop (n+1):=by let(h1,h2):=dL.mp h;rw[wP h1,h2]
end
abbrev bT(lo:Int)(n:Nat):List D:=(List.range n).map λ(k:Nat)=>D.int (lo+(k:Int))
section
def G0{lo:Int}{n k:Nat}(h:k<n):(bT lo n)[k]?=!(.int (lo+(k:Int))):=by delta bT;rw[mM,Ee h];rfl
def vh{lo:Int}{n:Nat}:(bT lo n).length=n:=by delta bT;simp
def CT(h:cT X z [a] g [‹j›] g1)(hg:Gl X "range")(hm:X.mg "range"=none)(hs:starEach [a] X.env=[(false,eval a X.env)])(h1 : -(2 ^ 62)<=j)(h2:j<2 ^ 62) :
  ∃wi,PI X tg (.Call (.Name "range" p) [a] [] rp) wi/\∀J As M H (Q:It->Hp->Prop),S z g J As M H->(∀H' aE M',S z g1 J aE M' H'->aq M H M' H'->Q (Tt 0 j.toNat) H')->wi J H Q:=by
 let(t,q,k):=h;apply#[_,qV hg hm q hs,λJ As M H Q s kk=>k J As M H _ s λvs H' aE M' s' st R=>?_]
 cases R with
 |dat r R=>cases R;cases r;show#[j,rfl,h1,h2,kk H' aE M' s' st]
def CV(h:cT X z [a,b] g [‹c›,‹j›] g1)(hg:Gl X "range")(hm:X.mg "range"=none)(hs:starEach [a,b] X.env=[(false,eval a X.env),(false,eval b X.env)])(hs2:starEach [b] X.env=[(false,eval b X.env)])
  (h1 : -(2 ^ 62)<=c/\c<2 ^ 62/\-(2 ^ 62)<=j/\j<2 ^ 62) {tg:Expr} :
  ∃wi,PI X tg (.Call (.Name "range" p) [a,b] [] rp) wi/\∀J As M H (Q:It->Hp->Prop),S z g J As M H->(∀H' aE M',S z g1 J aE M' H'->aq M H M' H'->Q (Tt c (j - c).toNat) H')->wi J H Q:=by
 let(t,q,k):=h;apply#[_,Ce hg hm q hs hs2,λJ As M H Q s kk=>k J As M H _ s λvs H' aE M' s' st R=>?_]
 cases R with
 |dat r R=>cases R with |dat r2 R=>cases R;cases r;cases r2;show#[c,j,rfl,h1,kk H' aE M' s' st]
end
section
def CW(hN:X.N[i]?=!x)(hv:mh X.env.scope x)(hd:(x==(~~~3))=false)(fK:(x==("__classdict__":Str))=false)(hg:g[i]?=!(.own l0))(h:cT X z [e] g [.dat d] g1)(qC:g1[i]?=!(.own l))(hl:l.length<16777216)
  (hbase:attributeBase (.Name x pn) "append" X.env (eval (.Name x pn) X.env)=eval (.Name x pn) X.env)
  (hline:(jI.endLine==ig.line)=true) (hs:starEach [e] X.env=(false,eval e X.env)::starEach [] X.env):aA X z (.Call (.Attribute (.Name x pn) "append" jI) [e] [] ig) g (.dat .non) (g1.set i (.own (l++[d]))):=by
 let(t,q,k):=h;apply#[_,zQ BM PySem.F.slot_list_append PySem.F.type_list_append kT (cR hN hv hd fK) q hbase (by rw[hs];rfl) hline hs rfl,λJ As M H Q s kk=>?_]
 let(a,xs,e1,e2,e3,e4):=s.sl.at hg;apply#[.ref a,e1,.inl #[rfl,xs,dQ.of e3],k J As M H _ s λvs H' aE M' s' st R=>?_]
 let(b,ys,f1,f2,f3,f4):=s'.sl.at qC;rw[e1]at f1;injection f1 with f1;injection f1 with f1;injection f1 with f1;subst f1;cases R with
 |dat r R=>
  cases R;apply#[a,ys,_,rfl,rfl,f3,by rw[<- f4.length];show hl,?_]
  let(s2,aJ):=s'.write qC e1 (f4.append (.cons r .nil));show kk _ _ aE M' s2 (st.trans aJ) .non
end
section
def Np(hN:X.N[i]?=!x)(hv:mh X.env.scope x)(hd:(x==(~~~3))=false)(fK:(x==("__classdict__":Str))=false)(h:aA X z e g (.dat d) g1)(qC:g1[i]?=!(.own l0))(h2:aA X z ix g1 ‹k› g2)(Vi:g2[i]?=!(.own l))(hj:nF l.length k=!j)
  (ha:∀v,assign (.Subscript (.Name x pn) ix dM) X.env v=(do
   let ov <- holding [v] (eval (.Name x pn) X.env)
   let iv <- holding [v,ov] (eval ix X.env)
   standAt dM
   holding [v,ov,iv] (setItem ov iv v)
   release [v,ov,iv] []))
  (hs:swapsWithSole [.Subscript (.Name x pn) ix dM] e pos.line X.env=pure false) (hw:swappedStores [.Subscript (.Name x pn) ix dM] e X.env=pure none)
  (h1:(assignEach [.Subscript (.Name x pn) ix dM] X.env).map (·.2)=[assign (.Subscript (.Name x pn) ix dM) X.env]) :
  gq X z (.Assign [.Subscript (.Name x pn) ix dM] e pos) g .nx (g2.set i (.own (l.set j d))):=by
 let(t,q,kk):=h;let(t2,q2,k2):=h2;apply#[_,yg q (yd (cR hN hv hd fK) q2 set_list ha) hs hw h1,λJ As M H E s kE=>kk J As M H _ s λv H1 bu M1 s1 dN R1=>?_]
 let(a,xs,e1,e2,e3,e4):=s1.sl.at qC;apply#[.ref a,e1,k2 J bu M1 H1 _ s1 λw H2 bG M2 s2 aJ R2=>?_]
 let(b,ys,f1,f2,f3,f4):=s2.sl.at Vi;rw[e1]at f1;injection f1 with f1;injection f1 with f1;injection f1 with f1;subst f1;have R2':=R2;cases R2';apply#[a,ys,k,j,rfl,rfl,f3,by rw[<- f4.length];show hj,?_]
 let(s3,cH):=s2.write Vi e1 (aK.set (Rep.stay aJ R1) j f4);show kE J bG M2 _ s3 (dN.trans (aJ.trans cH))
def aK.eraseIdx{K:Frag}{M:List Addr}{H:Hp}:∀{ds:List D}{vs:List V} (n:Nat),aK K M H ds vs->aK K M H (ds.eraseIdx n) (vs.eraseIdx n)
 |_,_,_,.nil=>.nil
 |_,_,0,.cons _ t=>t
 |_,_,n+1,.cons r t=>.cons r (aK.eraseIdx n t)
def G3(hN:X.N[i]?=!x)(hv:mh X.env.scope x)(hd:(x==(~~~3))=false)(fK:(x==("__classdict__":Str))=false)(hg:g[i]?=!(.own l0))(h:cT X z [e] g [‹k›] g1)(qC:g1[i]?=!(.own l))(hk:nF l.length k=!j)(hy:l[j]?=!d)(hl:l.length<16777216)
  (hbase:attributeBase (.Name x pn) "pop" X.env (eval (.Name x pn) X.env)=eval (.Name x pn) X.env)
  (hline:(jI.endLine==ig.line)=true) (hs:starEach [e] X.env=(false,eval e X.env)::starEach [] X.env):aA X z (.Call (.Attribute (.Name x pn) "pop" jI) [e] [] ig) g (.dat d) (g1.set i (.own (l.eraseIdx j))):=by
 let(t,q,k0):=h;apply#[_,zQ BM PySem.F.slot_list_pop PySem.F.type_list_pop Gj (cR hN hv hd fK) q hbase (by rw[hs];rfl) hline hs rfl,λJ As M H Q s kk=>?_]
 let(a,xs,e1,e2,e3,e4):=s.sl.at hg;apply#[.ref a,e1,.inl #[rfl,xs,dQ.of e3],k0 J As M H _ s λvs H' aE M' s' st R=>?_]
 let(b,ys,f1,f2,f3,f4):=s'.sl.at qC;rw[e1]at f1;injection f1 with f1;injection f1 with f1;injection f1 with f1;subst f1;cases R with
 |dat r R=>
  cases R;cases r;let(h1,h2,h3,h4):=sV hk;let(v,g1',Ry):=f4.get hy;let(s2,aJ):=s'.write qC e1 (aK.eraseIdx j f4);apply#[a,ys,k,j,v,rfl,rfl,f3,by lia,by lia,by rw[<- f4.length];show h1,g1',?_]
  show kk _ _ aE M' s2 (st.trans aJ) (Ry.stay aJ)
end
abbrev dg:List R->G->Option G
 | [],_=>![]
 |.dat d::rs,g=>match dg rs g with |some gs=>!(.dat d::gs) |none=>none
 |.var i::rs,g=>match g[i]? with
  |!(.own l)=>match dg rs g with |some gs=>!(.own l::gs) |none=>none
  |_=>none
 |.new _::_,_=>none
abbrev vars:Nat->List R->List (Nat×Nat)
 |_,[]=>[]
 |j,.var i::rs=>(j,i)::vars (j+1) rs
 |j,.dat _::rs=>vars (j+1) rs
 |j,.new _::rs=>vars (j+1) rs
abbrev back:List (Nat×Nat)->G->G->Option G
 | [],_,g=>!g
 | (j,i)::ps,gc,g=>match gc[j]? with
  |!(.own l)=>back ps gc (g.set i (.own l))
  |_=>none
abbrev kX(bor:List Nat)(g':G):R->Option R
 |.dat d=>!(.dat d)
 |.new l=>!(.new l)
 |.var j=>if j∈bor then none else match g'[j]? with |!(.own l)=>!(.new l) |_=>none
abbrev adr(J:Sg)(i:Nat):Addr:=match J[i]? with |!(!(.ref a))=>a |_=>0
def jv(h:J[i]?=!(!(.ref a))):adr J i=a:=by delta adr;rw[h]
abbrev cD(J:Sg)(ps:List (Nat×Nat)):List (Nat×Addr):=ps.map λp=>(p.1,adr J p.2)
abbrev fG(n:Nat)(gs:G):G:=gs++List.replicate (n - gs.length) .no
def Slots.append{K:Frag}{M:List Addr}{H:Hp}{g1 g2:G}{σ1 σ2:Sg}{A1 A2:List Addr}(p:Slots K M H g1 σ1 A1)(q:Slots K M H g2 σ2 A2):Slots K M H (g1++g2) (σ1++σ2) (A1++A2):=by
 induction p with
 |nil=>show q
 |no p ih=>show .no ih
 |dat r p ih=>show .dat r ih
 |own e r p ih=>show .own e r ih
def Slots.nos{K:Frag}{M:List Addr}{H:Hp}:∀(n:Nat),Slots K M H (List.replicate n .no) (List.replicate n none) []
 | 0=>.nil
 |n+1=>by rw[AQ];show .no (Slots.nos n)
section
def Slots.zX{K:Frag}{g:G}{J:Sg}{As:List Addr}{i j:Nat}{a:Addr}{l l':List D}(q:Slots K M H g J As)(nd:As.Nodup)(e1:g[i]?=!(.own l))(e2:g[j]?=!(.own l'))(e3:J[i]?=!(!(.ref a)))(e4:J[j]?=!(!(.ref a))):i=j:=by
 induction q generalizing i j with
 |nil=>show nomatch (show none=!(Slot.own l)from e1)
 |no q ih=>cases i with
  |zero=>show nomatch (show some Slot.no=!(Slot.own l)from e1)
  |succ i=>cases j with
   |zero=>show nomatch (show some Slot.no=!(Slot.own l')from e2)
   |succ j=>show congrArg (· + 1) (ih nd e1 e2 e3 e4)
 |dat r q ih=>cases i with
  |zero=>show nomatch (show some (Slot.dat _)=!(Slot.own l)from e1)
  |succ i=>cases j with
   |zero=>show nomatch (show some (Slot.dat _)=!(Slot.own l')from e2)
   |succ j=>show congrArg (· + 1) (ih nd e1 e2 e3 e4)
 |@own g J As b xs ds h r q ih=>
  have no:∀{i:Nat}{l:List D},g[i]?=!(.own l)->J[i]?=!(!(.ref a))->b=a->False:=λ{i l} e1 e3 e=>by
   let(c,xs,h1,h2,_):=q.at e1;cases (show some (!(V.ref c))=!(!(V.ref a))from h1.symm.trans e3)
   show (i7.mp nd).1 (e▸h2)
  cases i with
  |zero=>cases j with
   |zero=>rfl
   |succ j=>cases (show some (!(V.ref b))=!(!(V.ref a))from e3);show (no e2 e4 rfl).elim
  |succ i=>cases j with
   |zero=>cases (show some (!(V.ref b))=!(!(V.ref a))from e4);show (no e1 e3 rfl).elim
   |succ j=>show congrArg (· + 1) (ih (i7.mp nd).2 e1 e2 e3 e4)
def oU(s:S z g J As M H)(j:Nat)(q:ju z J M H rs vs)(e:dg rs g=!gs) :
  gs.length=vs.length/\Slots z.K M H gs (vs.map some) ((cD J (vars j rs)).map (·.2))/\
  (∀p∈cD J (vars j rs),∃n l,p.1=j+n/\gs[n]?=!(.own l)/\vs[n]?=!(.ref p.2))/\
  (∀n l a,gs[n]?=!(.own l)->vs[n]?=!(.ref a)->(j+n,a)∈cD J (vars j rs))/\
  (∀p∈vars j rs,∃l a,g[p.2]?=!(.own l)/\J[p.2]?=!(!(.ref a))/\a∈As):=by
 induction q generalizing gs j with
 |nil=>cases e;show#[rfl,.nil,(λp hp=>nomatch hp),(λn l a h=>by simp at h),(λp hp=>nomatch hp)]
 |@dat d v rs vs r q ih=>
  delta dg at e;cases e2:dg rs g with
  |none=>rw[e2]at e;cases e
  |some gs=>
   rw[e2]at e;cases e;let(h1,h2,h3,h4,h5):=ih (j+1) e2;apply#[by simp[h1],.dat r h2,λp hp=>?_,λn l a e1 e3=>?_,h5]
   . let(n,l,q1,q2,q3):=h3 p hp;show#[n+1,l,by lia,by simpa using q2,by simpa using q3]
   .
    cases n with
    |zero=>simp at e1
    |succ n=>
     have:=h4 n l a (by simpa using e1) (by simpa using e3)
     rw[show j+(n+1)=j+1+n by lia]
     show this
 |@var i v rs vs r q ih=>
  delta dg at e;split at e
  .
   ext l hg;cases e2:dg rs g with
   |none=>rw[e2]at e;cases e
   |some gs=>
    rw[e2]at e;cases e;let(h1,h2,h3,h4,h5):=ih (j+1) e2;let(a,xs,f1,f2,f3,f4):=s.sl.at hg;have ea:=jv f1;rw[r]at f1;injection f1 with f1;injection f1 with f1;subst f1;have el:cD J (vars j (.var i::rs))=(j,a)::cD J (vars (j+1) rs):=by exact (j,adr J i)::cD J (vars (j+1) rs)=_;rw[ea]
    rw[el];apply#[by simp[h1],.own f3 f4 h2,λp hp=>?_,λn l' b e1 e3=>?_,λp hp=>?_]
    .
     rcases eC.mp hp with rfl |hp
     . show#[0,l,rfl,rfl,rfl]
     . let(n,l,q1,q2,q3):=h3 p hp;show#[n+1,l,by lia,by simpa using q2,by simpa using q3]
    .
     cases n with
     |zero=>
      have e4:a=b:=by simpa using e3
      subst e4;show dA
     |succ n=>
      have:=h4 n l' b (by simpa using e1) (by simpa using e3)
      rw[show j+(n+1)=j+1+n by lia]
      show b0 _ this
    .
     rcases eC.mp (show p∈(j,i)::vars (j+1) rs from hp)with rfl |hp
     . show#[l,a,hg,r,f2]
     . show h5 p hp
  . cases e
def rC{α β:Type}{f:α->β}:∀{l:List α},l.Nodup->(∀a∈l,∀b∈l,f a=f b->a=b)->(l.map f).Nodup
 | [],_,_=>AC
 |x::l,nd,h=>by
  apply i7.mpr #[λhm=>?_,rC (i7.mp nd).2 λa ha b hb=>h a (b0 _ ha) b (b0 _ hb)]
  let(y,hy,e):=eQ.mp hm;have:=h y (b0 _ hy) x dA e;show (i7.mp nd).1 (this▸hy)
abbrev vj(z:Z)(J:Sg)(M:List Addr)(H:Hp)(rs:List R):Z:=#[z.K,H,M,cD J (vars 0 rs),z.T]
def rD:(vj z J M H rs).bor=(vars 0 rs).map (·.1):=by exact (cD J (vars 0 rs)).map (·.1)=_;delta cD;rw[List.map_map];rfl
def S.enter(s:S z g J As M H){rs:List R}{vs:List V}{gs:G}{N:List Str}(r:ju z J M H rs vs)(e:dg rs g=!gs)(nd:((vars 0 rs).map (·.2)).Nodup) :
  S (vj z J M H rs) (fG N.length gs) (start N vs) ((cD J (vars 0 rs)).map (·.2)) M H:=by
 let(h1,h2,h3,h4,h5):=oU s 0 r e;have eB:(cD J (vars 0 rs)).map (·.2)=((vars 0 rs).map (·.2)).map (adr J):=by delta cD;rw[List.map_map,List.map_map];rfl
 have mem:∀b∈(cD J (vars 0 rs)).map (·.2),b∈As:=λb hb=>by
  let(i,hi,e):=eQ.mp hb;let(p,hp,e'):=eQ.mp hi;let(l,a,q1,q2,q3):=h5 p hp;subst e';rw[jv q2]at e;subst e;show q3
 have pre:∀{n:Nat}{o:Slot},gs[n]?=!o->(fG N.length gs)[n]?=!o:=λ{n o} q=>by
  delta fG;rw[b8 (dL.mp q).1];show q
 have ownB:∀(n:Nat) (l:List D),(fG N.length gs)[n]?=!(.own l)->gs[n]?=!(.own l):=λn l q=>by
  delta fG at q;rcases u4 n gs.length with h |h
  . rw[b8 h]at q;show q
  . rw[b6 h]at q;have:=lL q;rw[AI]at this;show absurd this.2 ⋯
 have st:∀{n:Nat}{v:V},vs[n]?=!v->(start N vs)[n]?=!(!v):=λ{n v} q=>by
  delta L2.start;rw[b8 (by rw[eA];show (dL.mp q).1),mM,q]
  rfl
 have st':∀{n:Nat}{v:V},(start N vs)[n]?=!(!v)->vs[n]?=!v:=λ{n v} q=>by
  delta L2.start at q;rcases u4 n vs.length with h |h
  .
   rw[b8 (by rw[eA];show h),mM]at q
   cases e:vs[n]? with
   |none=>rw[e]at q;cases q
   |some w=>rw[e]at q;injection q with q
  .
   rw[b6 (by rw[eA];show h)]at q
   have:=lL q;rw[AI]at this;show absurd this.2 ⋯
 apply#[?_,?_,λa ha=>s.sub a (mem a ha),λn a l q1 q2=>.inl ?_,s.live,λb o e _ _=>e,λm hm=>hm,λm hm=>?_,λb hb=>s.sub b (mem b hb),λp hp=>?_,s.tab,λp hp=>s.jL _ (s.tm p hp),s.tt]
 .
  have q:=h2.append (Slots.nos (N.length - gs.length));rw[oT]at q;have e':start N vs=vs.map some++List.replicate (N.length - gs.length) none:=by delta L2.start;rw[h1]
  rw[e'];show q
 .
  rw[eB];apply rC nd λi hi j hj e=>?_
  let(p,hp,rfl):=eQ.mp hi;let(p',vn,rfl):=eQ.mp hj;let(l,a,q1,q2,q3):=h5 p hp;let(l',a',Lh,G4,Vj):=h5 p' vn;rw[jv q2,jv G4]at e;subst e;show s.sl.zX s.nd q1 Lh q2 G4
 . have hm:=h4 n l a (ownB n l q1) (st' q2);rw[v4]at hm;show#[An hm,An hm]
 . show λe=>s.fresh e hm
 . let(n,l,q1,q2,q3):=h3 p hp;rw[v4]at q1;rw[q1];show#[st q3,l,pre q2]
def Slots.transfer{K:Frag}{M M2:List Addr}{H H':Hp}(st:aq M H M2 H'){g g2:G}{J:Sg}{As:List Addr}(q:Slots K M H g J As)(hl:g2.length=g.length)
  (h1:∀(i:Nat) (l:List D) (a:Addr),g[i]?=!(.own l)->J[i]?=!(!(.ref a))->∃l' xs',g2[i]?=!(.own l')/\H' a=!(.lst xs')/\aK K M2 H' l' xs')
  (h2:∀(i:Nat) (o:Slot),g[i]?=!o->(∀l,o≠.own l)->g2[i]?=!o):Slots K M2 H' g2 J As:=by
 induction q generalizing g2 with
 |nil=>cases g2 with
  |nil=>show .nil
  |cons a b=>cases hl
 |no q ih=>cases g2 with
  |nil=>cases hl
  |cons a b=>
   cases (show some a=!Slot.no from h2 0 .no rfl (λl z=>nomatch z))
   show .no (ih (DH hl) (λi l a e1 e2=>h1 (i+1) l a e1 e2) λi o e1 e2=>h2 (i+1) o e1 e2)
 |@dat g J As v d r q ih=>cases g2 with
  |nil=>cases hl
  |cons a b=>
   cases (show some a=!(Slot.dat d)from h2 0 (.dat d) rfl (λl z=>nomatch z))
   show .dat (r.stay st) (ih (DH hl) (λi l a e1 e2=>h1 (i+1) l a e1 e2) λi o e1 e2=>h2 (i+1) o e1 e2)
 |@own g J As a0 xs ds e0 r q ih=>cases g2 with
  |nil=>cases hl
  |cons a b=>
   let(l',xs',e1,e2,e3):=h1 0 _ a0 rfl rfl;cases (show some a=!(Slot.own l')from e1)
   show .own e2 e3 (ih (DH hl) (λi l a e1 e2=>h1 (i+1) l a e1 e2) λi o e1 e2=>h2 (i+1) o e1 e2)
def rE:∀{ps:List (Nat×Nat)}{g gO:G},back ps gc g=!gO->(ps.map (·.2)).Nodup->gO.length=g.length/\
  (∀i,i∉ps.map (·.2)->gO[i]?=g[i]?)/\∀p∈ps,p.2<g.length->∃l,gc[p.1]?=!(.own l)/\gO[p.2]?=!(.own l)
 | [],g,gO,e,_=>by cases e;show#[rfl,λ_ _=>rfl,λp hp=>nomatch hp]
 | (j,i)::ps,g,gO,e,nd=>by
  delta back at e;split at e
  .
   ext l hg;let(h1,h2,h3):=rE e (i7.mp nd).2;apply#[by rw[h1,AE],λk hk=>?_,λp hp hlt=>?_]
   .
    have n1:k∉ps.map (·.2):=λz=>hk (b0 _ z)
    have n2:i≠k:=λz=>hk (z▸dA)
    rw[h2 k n1,i5 n2]
   .
    rcases eC.mp hp with rfl |hp
    . apply#[l,hg,?_];have hlt':=hlt;rw[h2 i (i7.mp nd).1,i9 hlt']
    . show h3 p hp (by rw[AE];show hlt)
  . cases e
def S.leave(s:S z g J As M H){rs:List R}{vs:List V}{gs gc gO:G}{σc:Sg}{Ac Mc:List Addr}{Hc:Hp}{r r':R}{v:V}(rw':ju z J M H rs vs)(e:dg rs g=!gs)(nd:((vars 0 rs).map (·.2)).Nodup)
  (sc:S (vj z J M H rs) gc σc Ac Mc Hc) (st:aq M H Mc Hc) (q:fP (vj z J M H rs) gc σc Ac Mc Hc r v) (hb:back (vars 0 rs) gc g=!gO) (hr:kX ((vars 0 rs).map (·.1)) gc r=!r') :
  ∃M2,S z gO J As M2 Hc/\aq M H M2 Hc/\fP z gO J As M2 Hc r' v:=by
 let(h1,h2,h3,h4,h5):=oU s 0 rw' e;let(b1,b2,b3):=rE hb nd;have hM:=sc.jL;have core:∀M2:List Addr,(∀m∈M,m∈M2)->(∀m∈M2,m∈Mc)->aq M H M2 Hc->S z gO J As M2 Hc:=by
  intro M2 m1 m2 aJ;apply#[s.sl.transfer aJ b1 (λi l a e1 e2=>?_) (λi o e1 e2=>?_),s.nd,λa ha=>m1 a (s.sub a ha),λi a l e1 e2=>?_,λm hm=>sc.live m (m2 m hm),λb o e1 e2 et=>?_,λm hm=>m1 m (s.jL m hm),s.m0,s.bm,λp hp=>#[(s.jj p hp).1,?_],sc.tab,s.tm,s.tt]
  .
   by_cases hi:i∈(vars 0 rs).map (·.2)
   . let(p,hp,rfl):=eQ.mp hi;let(l',q1,q2):=b3 p hp (dL.mp e1).1;have hl:(p.1,adr J p.2)∈cD J (vars 0 rs):=An hp;let(c1,c2):=sc.jj _ hl;let(a',xs,d1,d2,d3,d4):=sc.sl.at q1;rw[c1]at d1;injection d1 with d1;injection d1 with d1;injection d1 with d1;rw[jv e2]at d1;subst d1;show#[l',xs,q2,d3,aK.stay (aq.less m2) d4]
   .
    let(a',xs,d1,d2,d3,d4):=s.sl.at e1;rw[e2]at d1;injection d1 with d1;injection d1 with d1;injection d1 with d1;subst d1;apply#[l,xs,by rw[b2 i hi];show e1,sc.keep a _ d3 (λhB=>?_) (s.ZV d3),d4.stay aJ]
    let(p,hp,ep):=eQ.mp (show a∈(cD J (vars 0 rs)).map (·.2)from hB);let(p',vn,rfl):=eQ.mp hp;let(l2,a2,q1,q2,q3):=h5 p' vn;have uP:=ep;rw[jv q2]at uP;subst uP;have:=s.sl.zX s.nd e1 q1 e2 q2;show hi (this▸An vn)
  .
   apply (b2 i λhi=>?_).trans e1
   let(p,hp,rfl):=eQ.mp hi;let(l2,a2,q1,q2,q3):=h5 p hp;rw[e1]at q1;injection q1 with q1;show e2 l2 q1
  .
   by_cases hi:i∈(vars 0 rs).map (·.2)
   . let(p,hp,rfl):=eQ.mp hi;let(l2,a2,q1,q2,q3):=h5 p hp;show s.own p.2 a l2 q1 e2
   . rw[b2 i hi]at e1;show s.own i a l e1 e2
  .
   have e3:=s.keep b o e1 e2 et;apply sc.keep b o e3 (λhB=>?_) et
   let(p,hp,ep):=eQ.mp (show b∈(cD J (vars 0 rs)).map (·.2)from hB);let(p',vn,rfl):=eQ.mp hp;let(l2,a2,q1,q2,q3):=h5 p' vn;have uP:=ep;rw[jv q2]at uP;subst uP;rcases s.own p'.2 a2 l2 q1 q2 with w |w
   . show e2 w.2
   . rw[w]at e1;cases e1
  .
   by_cases hi:p.1∈(vars 0 rs).map (·.2)
   . let(p',vn,e'):=eQ.mp hi;have e'':=e';let(l2,a2,q1,q2,q3):=h5 p' vn;let(l',Lh,G4):=b3 p' vn (dL.mp q1).1;show#[l',by rw[<- e''];show G4]
   . rw[b2 p.1 hi];show (s.jj p hp).2
 have new:∀(a:Addr) (xs:List V) (l:List D),v=.ref a->a∈Mc->H a=none->Hc a=!(.lst xs)->aK z.K Mc Hc l xs->∃M2,S z gO J As M2 Hc/\aq M H M2 Hc/\fP z gO J As M2 Hc (.new l) v:=by
  intro a xs l ev hm h0 hx rr;have m2:∀m∈a::M,m∈Mc:=λm hm'=>(eC.mp hm').elim (λe=>e▸hm) (hM m)
  have aJ:=st.trans (aq.less m2);apply#[a::M,core _ (λm hm'=>b0 _ hm') m2 aJ,aJ,a,xs,ev,dA,λhA=>?_,s.cS h0,hx,rr.stay (aq.less m2)]
  show s.fresh h0 (s.sub a hA)
 cases r with
 |dat d=>cases hr;have aJ:=st.trans (aq.less hM);show#[M,core M (λm h=>h) hM aJ,aJ,Rep.stay (aq.less hM) q]
 |new l=>cases hr;let(a,xs,rfl,c1,c2,c3,c4,c5):=q;show new a xs l rfl c1 c3 c4 c5
 |var j=>
  let(l,q1,q2):=q;have hr:(if j∈(vars 0 rs).map (·.1)then none else match gc[j]? with |!(.own l)=>!(R.new l) |_=>none)=!r':=hr
  split at hr
  . cases hr
  .
   ext hj;rw[q1]at hr;cases hr;let(a,xs,d1,d2,d3,d4):=sc.sl.at q1;rw[q2]at d1;injection d1 with d1;injection d1 with d1;subst d1;apply new a xs l rfl (sc.sub a d2) ?_ d3 d4;rcases sc.own j a l q1 q2 with w |w
   . have w':=w.1;rw[rD]at w';show absurd w' hj
   . show w
end
def ju.length(q:ju z J M H rs vs):vs.length=rs.length:=by
 induction q with
 |nil=>rfl
 |dat r q ih=>show congrArg (· + 1) ih
 |var r q ih=>show congrArg (· + 1) ih
abbrev Vk(K:Frag)(N:List Str)(np:Nat)(run:List Nat->G->R->G->Prop):Sp:=λvs H Q _=>
 vs.length=np/\∃(z:Z) (g g':G) (As M:List Addr) (r:R),z.K=K/\S z g (start N vs) As M H/\run z.bor g r g'/\
  ∀v σ' aE M' H',S z g' σ' aE M' H'->aq M H M' H'->fP z g' σ' aE M' H' r v->Q v H'
section
variable{run:List Nat->G->R->G->Prop}
def zY(F:qF X.prog X.w X.K X.mg X.base Lg k f fd ps (Vk X.K N ps.length run))(hK:z.K=X.K)(hr:gQ k X.A)(hg:Gl X x)(hm:X.mg x=!(.ref f))(hk:PySem.W.keepIn X.K (.ref f)=true)(hb:Binds X.K fd ps [])
  (ha:cT X z (e::es) g rs g1) (aN:rs.length=ps.length) (hl:dg rs g1=!gs) (nd:((vars 0 rs).map (·.2)).Nodup) (hrun:run ((vars 0 rs).map (·.1)) (fG N.length gs) r gc) (aae:back (vars 0 rs) gc g1=!gO) (ho:kX ((vars 0 rs).map (·.1)) gc r=!r')
  (BW:(x==(~~~3))=false) (he:starEach (e::es) X.env=(false,eval e X.env)::starEach es X.env) (iY:(backTo pos (starEach es X.env)).any (·.1)=false) :
  aA X z (.Call (.Name x p) (e::es) [] pos) g r' gO:=by
 let(t,q,kk):=ha;apply#[_,Mm F hr hg hm hk hb .nil ZK q BW he iY,λJ As M H Q s kq=>kk J As M H _ s λvs H1 bu M1 s1 dN R1=>?_]
 have hv:=R1.length;have ee:=s1.enter (N:=N) R1 hl nd;apply#[by rw[oT,hv];show aN,vj z J M1 H1 rs,fG N.length gs,gc,_,M1,r,hK,by rw[oT];show ee,by rw[rD];show hrun,λv σ' aE M' H' s' st' R'=>?_]
 let(M2,s2,aJ,R2):=s1.leave R1 hl nd s' st' R' aae ho;show kq v H' bu M2 s2 (dN.trans aJ) R2
def Rz{P:Program}{w:World}{K:Frag}{mg:Str->Option Value}{base:Heap}{qual:Str}{st:Stmt}(F:ZL K x qual st f fd)(Sc:fO N ps (aV st))
  (h:∀(fS:Value) (A:Around) (outer:List Env) (s:Shared) (H:Hp) (E:XK),PySem.W.codeIn K fS qual=true->gQ k (A.deeper (envOfC qual (aV st) s⁻¹ f fS))->
   ∀(z:Z) (g:G) (r:R) (g':G),z.K=K->run z.bor g r g'->∃fl,eZ (uU Lg P w K mg base N qual (aV st) f fS A outer s H E).Ys z (bR st) g fl g'/\(fl=.rt r\/(fl=.nx/\r=.dat .non))) :
  qF P w K mg base Lg (k+1) f fd ps (Vk K N ps.length run):=by
 let(oc,od,kV,doc,pm,an,fS,ct,osl,rfl,lk,fK):=F.ex;apply ZD lk fK Sc (λvs H Q E q=>q.1) ?_
 rintro A outer s H vs Q E hr ⟨_,z,g,g',As,M,r,hK,hs,hrun,hQ⟩;let(fl,(t,q,kk),hfl):=h fS A outer s H E fK hr z g r g' hK hrun;apply#[t,q.Ys,kk _ As M H _ hs ?_];rcases hfl with rfl |⟨rfl,rfl⟩
 . show λv σ' aE M' H' s' st' R'=>hQ v σ' aE M' H' s' st' R'
 . show λσ' aE M' H' s' st'=>hQ .non σ' aE M' H' s' st' .non
end
inductive Tg where
 |nm (i:Nat) |tp (is:List Nat)
abbrev kY:List Nat->List D->G->G
 |i::is,d::ds,g=>kY is ds (g.set i (.dat d))
 | [],_,g=>g
 |_::_,[],g=>g
abbrev Tg.ix:Tg->List Nat
 |.nm i=>[i]
 |.tp is=>is
abbrev Tg.set:Tg->D->G->Option G
 |.nm i,d,g=>!(g.set i (.dat d))
 |.tp is,.tup ds,g=>if ds.length=is.length then some (kY is ds g)else none
 |.tp is,.lst ds,g=>if ds.length=is.length then some (kY is ds g)else none
 |.tp _,_,_=>none
abbrev vo(is:List Nat)(J σ':Sg):Prop:=σ'.length=J.length/\∀j,j∉is->σ'[j]?=J[j]?
def vo.refl(is:List Nat)(J:Sg):vo is J J:=#[rfl,λ_ _=>rfl]
def vo.trans{is:List Nat}{J σ1 σ2:Sg}(a:vo is J σ1)(b:vo is σ1 σ2):vo is J σ2:=#[b.1.trans a.1,λj h=>(b.2 j h).trans (a.2 j h)]
def vo.mono(h:∀i∈is,i∈js)(a:vo is J σ'):vo js J σ':=#[a.1,λj hj=>a.2 j λz=>hj (h j z)]
abbrev gw(X:Cx)(z:Z)(tg:Expr)(T:Tg):Prop:=∃t,PG X tg t/\∀d g g',T.set d g=!g'->∀v J As M H (Q:Sg->Hp->Prop),S z g J As M H->Rep z.K M H d v->(∀σ' aE,S z g' σ' aE M H->vo T.ix J σ'->Q σ' H)->t v J H Q
structure oV(X:Cx)(x:Str)(i:Nat):Prop where
 nd:X.N.Nodup
 ix:X.N[i]?=!x
 lc:Loc X.env.scope x
 fn:X.fn x=true\/X.env.scope.names.lookup x=some .local
section
def aaf(h:oV X x i)(hb:i∉z.bor):gw X z (.Name x pos) (.nm i):=
 #[_,jM h.nd h.ix h.lc h.fn,λd g g' e v J As M H Q s r k=>by
  cases e;let(aE,s'):=s.eV hb r;show k _ aE s' #[by rw[AE],λj hj=>by rw[i5 (λe=>hj (by rw[<- e];show eP.mpr rfl))]]]
inductive jT(X:Cx):List Expr->List Nat->Prop
 |nil:jT X [] []
 |cons {x:Str}{p:Pos}{i:Nat}{es:List Expr}{is:List Nat}:oV X x i->jT X es is->jT X (.Name x p::es) (i::is)
def jT.plain(h:jT X es is):(assignEach es X.env).length=is.length/\(assignEach es X.env).findIdx? (·.1)=none:=by
 induction h with
 |nil=>show#[rfl,rfl]
 |cons _ _ ih=>
  apply#[?_,?_]
  . exact (assignEach _ X.env).length+1=_;rw[ih.1];rfl
  . exact List.findIdx? _ ((false,assign _ X.env)::assignEach _ X.env)=none;rw[List.findIdx?_cons,ih.2];rfl
def jT.pgs(h:jT X es is)(hb:∀i∈is,i∉z.bor):∃t,Yt X es t/\∀ds vs g J As M H (Q:Sg->Hp->Prop),ds.length=is.length->S z g J As M H->aK z.K M H ds vs->(∀σ' aE,S z (kY is ds g) σ' aE M H->vo is J σ'->Q σ' H)->t vs J H Q:=by
 induction h with
 |nil=>
  apply#[_,sQ,λds vs g J As M H Q hl s r k=>?_]
  cases r with
  |nil=>show#[rfl,k J As s (vo.refl _ _)]
  |cons _ _=>simp at hl
 |@cons x p i es is hn hs ih=>
  let(t,q,kk):=ih λj hj=>hb j (b0 _ hj)
  apply#[_,iG (jM hn.nd hn.ix hn.lc hn.fn) q rfl,λds vs g J As M H Q hl s r k=>?_]
  cases r with
  |nil=>simp at hl
  |@cons d ds v vs r rs=>
   let(bu,s1):=s.eV (hb i dA) r;apply#[v,vs,rfl,kk ds vs _ _ bu M H Q (by simpa using hl) s1 rs λσ' aE s' a=>k σ' aE s' ?_]
   apply vo.trans #[by rw[AE],λj hj=>?_] (a.mono λj hj=>b0 _ hj)
   rw[i5 (λe=>hj (by rw[<- e];show dA))]
def yy(ne:l≠it)(n:Nat):∀(i:Nat) (s:Shared) (Q:List Value->Shared->Prop),s.heap.IsListIter it l i->s.heap.IsList l xs->i+n=xs.size->
  (∀h',h'.IsListIter it l xs.size->Heap.SameBut it s.heap h'->Q (xs.toList.drop i) { s with heap:=h'})->wpAny (model prog w) A (draw (.ref it) n) Q E s:=by
 induction n with
 |zero=>
  intro i s Q hit _ hi k;have e:xs.toList.drop i=[]:=List.drop_eq_nil_of_le (by rw[eD];lia)
  have q:=k s.heap (by rw[<- hi];show hit) (Heap.SameBut.refl ..)
  rw[e]at q;show dC q
 |succ n ih=>
  intro i s Q hit hl hi k;have hlt:i<xs.size:=by lia
  apply aS (wpAny_pyNext_list_item hit hl (x:=xs[i]) (by simp[hlt]) λh1 b1 c1=>?_)
  apply aS (nN (ih (i+1) _ _ b1 (hl.extBut c1.extBut ne) ⋯ λh2 b2 c2=>dC ?_))
  have q:=k h2 b2 (c1.trans c2);rw[wP (by rw[eD];show hlt)]at q
  show q
def vp(hh:A.handled=none)(hl:s.heap.IsList l xs)
  (k:∀h',Heap.ExtBut s⁻¹ s.heap h'->Q xs.toList { s with heap:=h'}):wpAny (model prog w) A (unpackItems (.ref l) xs.size none) Q E s:=by
 have ne:l≠s⁻¹:=by let(o,ho,_):=hl;show mP (fA ho)
 apply aS ?_;apply aS (Cc hl.typeIs slot_list_iter.lookup ?_);apply dC ?_;apply aS (nN (C9 hl ?_));apply aS (nN (yy ne xs.size 0 _ _ #[_,eM _ rfl,rfl,rfl] (hl.push _) (v4 _) λh1 b1 c1=>?_))
 rw[eR ⋯];apply aS (nN (wpAny_pyNext_list_end hh b1 ((hl.push _).extBut c1.extBut ne) ⋯ λh2 e2=>?_))
 show dC (k h2 λb o nb e=>e2 b o nb (c1.extBut b o nb (dE _ e)))
abbrev gSeq(K:Frag)(n:Nat)(t:Tp):TG:=λv J H Q=>∃a xs,v=.ref a/\(iE K H a xs\/dQ K H a xs)/\xs.length=n/\t xs J H Q
def Vl(hc:X.calm=true)(h:Yt X es t)(hn:(assignEach es X.env).length=n)(fL:(assignEach es X.env).findIdx? (·.1)=none):PG X (.Tuple es k pos) (gSeq X.K n t):=by
 intro aj s J H v u Q I r hw;let(a,xs,e1,hq,hl,hw):=hw;rcases hq with hq |hq
 . show yc hc h hn fL aj s J H v u Q I r #[a,xs,e1,hq,hl,hw]
 .
  subst e1;cases r;let(its,rv,pl,hz):=I.list hq;apply aS (wT ?_);delta unpack;rw[fL,show (assignEach es X.env).length=its.toArray.size by rw[hn,<- hl,rv.length,d6]]
  apply aS (nN (vp (I.ok.hd hc) pl.isList λh' hx=>?_))
  have I1:=I.kept (t':=s.toks) λb o e=>hx b o (mP (fA e)) e
  show h aj _ J H xs _ Q I1 (by simpa using rv) hw
def aag(hc:X.calm=true)(hK:z.K=X.K)(h:jT X es is)(hb:∀i∈is,i∉z.bor):gw X z (.Tuple es k pos) (.tp is):=by
 let(t,q,kk):=h.pgs hb;apply#[_,Vl hc q h.plain.1 h.plain.2,λd g g' e v J As M H Q s r k=>?_]
 cases d with
 |tup ds=>
  have e:(if ds.length=is.length then some (kY is ds g)else none)=!g':=e
  by_cases hl:ds.length=is.length
  .
   rw[fR hl]at e;cases e;cases r with
   |@tup _ a xs ha rr=>show#[a,xs,rfl,.inl (hK▸ha.sq),by rw[<- rr.length];show hl,kk ds xs g J As M H Q hl s rr k]
  . rw[eR hl]at e;cases e
 |lst ds=>
  have e:(if ds.length=is.length then some (kY is ds g)else none)=!g':=e
  by_cases hl:ds.length=is.length
  .
   rw[fR hl]at e;cases e;cases r with
   |@lst _ a xs ha rr=>show#[a,xs,rfl,.inr (dQ.of ha.2),by rw[<- rr.length];show hl,kk ds xs g J As M H Q hl s rr k]
  . rw[eR hl]at e;cases e
 |_=>cases e
abbrev Jt(qqq:It)(items:List D)(K:Frag)(M1:List Addr)(H1:Hp):Prop:=
 ∀M2 H2,aq M1 H1 M2 H2->(∀n d,items[n]?=!d->qqq.go n H2/\∀x H',qqq.Yu n H2 x H'->∀(z:Z) g J As,z.K=K->S z g J As M2 H2->S z g J As M2 H'/\aq M2 H2 M2 H'/\Rep K M2 H' d x)/\qqq.stop items.length H2
abbrev dR(X:Cx)(z:Z)(tg iter:Expr)(g:G)(items:List D)(g1:G):Prop:=
 ∃wi,PI X tg iter wi/\∀J As M H (R:It->Hp->Prop),S z g J As M H->(∀qqq H' aE M',S z g1 J aE M' H'->aq M H M' H'->Jt qqq items z.K M' H'->R qqq H')->wi J H R
def Vm(hK:z.K=X.K)(h:aA X z iter g (.dat (.tup l)) g1):dR X z tg iter g l g1:=by
 let(t,q,k):=h;apply#[_,Gd q,λJ As M H R s kk=>k J As M H _ s λv H1 bu M1 s1 dN r=>?_]
 have r':=r;cases r' with
 |@tup _ a xs ha rr=>
  apply#[a,rfl,#[xs,hK▸ha.sq],kk _ H1 bu M1 s1 dN λM2 H2 aJ=>?_]
  have ha2:TupAt z.K M2 H2 a xs:=by
   rcases ha with ⟨na,hr⟩ |hk
   . show .inl (aJ.rd na hr)
   . show .inr hk
  have Nq:=rr.stay aJ;apply#[λn d hd=>?_,xs,hK▸ha2.sq,by rw[rr.length];show d5 _]
  let(x,e1,e2):=Nq.get hd;apply#[#[xs,x,hK▸ha2.sq,e1],λy H' hy z' g' σ' aE _ s'=>?_]
  let(rfl,hy):=hy;have:=hy xs (hK▸ha2.sq);rw[e1]at this;cases this;show#[s',aq.refl _ _,e2]
def Vn(h:aA X z iter g (.dat (.lst l)) g1):dR X z tg iter g l g1:=by
 let(t,q,k):=h;apply#[_,zO q,λJ As M H R s kk=>k J As M H _ s λv H1 bu M1 s1 dN r=>?_]
 have r':=r;cases r' with
 |@lst _ a xs ha rr=>
  apply#[a,rfl,#[xs,dQ.of ha.2],kk _ H1 bu M1 s1 dN λM2 H2 aJ=>?_]
  have ha2:=(aJ _ _ ha.2 ha.1).1;have Nq:=rr.stay aJ;apply#[λn d hd=>?_,xs,dQ.of ha2,by rw[rr.length];show d5 _]
  let(x,e1,e2):=Nq.get hd;apply#[#[xs,x,dQ.of ha2,e1],λy H' hy z' g' σ' aE _ s'=>?_]
  let(rfl,hy):=hy;have:=hy xs (dQ.of ha2);rw[e1]at this;cases this;show#[s',aq.refl _ _,e2]
def Vo(hK:z.K=X.K)(h:aA X z iter g (.dat (.fix l)) g1):dR X z tg iter g l g1:=by
 let(t,q,k):=h;apply#[_,zO q,λJ As M H R s kk=>k J As M H _ s λv H1 bu M1 s1 dN r=>?_]
 have r':=r;cases r' with
 |@fix _ a xs ha rr=>
  apply#[a,rfl,#[xs,hK▸ha.sq],kk _ H1 bu M1 s1 dN λM2 H2 aJ=>?_]
  have ha2:rA z.K M2 H2 a xs:=by
   rcases ha with ⟨na,o,hr⟩ |hk
   . show .inl #[(aJ _ _ hr na).2,o,(aJ _ _ hr na).1]
   . show .inr hk
  have Nq:=rr.stay aJ;apply#[λn d hd=>?_,xs,hK▸ha2.sq,by rw[rr.length];show d5 _]
  let(x,e1,e2):=Nq.get hd;apply#[#[xs,x,hK▸ha2.sq,e1],λy H' hy z' g' σ' aE _ s'=>?_]
  let(rfl,hy):=hy;have:=hy xs (hK▸ha2.sq);rw[e1]at this;cases this;show#[s',aq.refl _ _,e2]
def G5{lo:Int}{n:Nat}{K:Frag}{M:List Addr}{H:Hp}:Jt (Tt lo n) (bT lo n) K M H:=λM2 H2 _=>by
 apply#[λk d hd=>?_,?_]
 .
  have hk:k<n:=by have:=(dL.mp hd).1;rw[vh]at this;show this
  rw[G0 hk]at hd;cases hd;apply#[hk,λx H' hx z' g' σ' aE _ s'=>?_]
  let(rfl,rfl):=hx;show#[s',aq.refl _ _,.int _]
 . exact n<=(bT lo n).length;rw[vh];show d5 _
def Nr(h:cT X z [a] g [‹j›] g1)(hg:Gl X "range")(hm:X.mg "range"=none)(hs:starEach [a] X.env=[(false,eval a X.env)])(h1 : -(2 ^ 62)<=j)(h2:j<2 ^ 62) :
  dR X z tg (.Call (.Name "range" p) [a] [] rp) g (bT 0 j.toNat) g1:=by
 let(wi,q,k):=CT h hg hm hs h1 h2;show#[wi,q,λJ As M H R s kk=>k J As M H _ s λH' aE M' s' st=>kk _ H' aE M' s' st G5]
def Nt(h:cT X z [a,b] g [‹c›,‹j›] g1)(hg:Gl X "range")(hm:X.mg "range"=none)(hs:starEach [a,b] X.env=[(false,eval a X.env),(false,eval b X.env)])(hs2:starEach [b] X.env=[(false,eval b X.env)])
  (h1 : -(2 ^ 62)<=c/\c<2 ^ 62/\-(2 ^ 62)<=j/\j<2 ^ 62):dR X z tg (.Call (.Name "range" p) [a,b] [] rp) g (bT c (j - c).toNat) g1:=by
 let(wi,q,k):=CV h hg hm hs hs2 h1;show#[wi,q,λJ As M H R s kk=>k J As M H _ s λH' aE M' s' st=>kk _ H' aE M' s' st G5]
inductive fU(X:Cx)(z:Z)(body:List Stmt)(T:Tg):List D->G->Fl->G->Prop
 |nil {g:G}:fU X z body T [] g .nx g
 |next {d:D}{l:List D}{g g0 g1 g2:G}{f:Fl}:T.set d g=!g0->eZ X z body g0 .nx g1->fU X z body T l g1 f g2->fU X z body T (d::l) g f g2
 |cont {d:D}{l:List D}{g g0 g1 g2:G}{f:Fl}:T.set d g=!g0->eZ X z body g0 .ct g1->fU X z body T l g1 f g2->fU X z body T (d::l) g f g2
 |brk {d:D}{l:List D}{g g0 g1:G}:T.set d g=!g0->eZ X z body g0 .bk g1->fU X z body T (d::l) g .nx g1
 |ret {d:D}{l:List D}{g g0 g1:G}{r:R}:T.set d g=!g0->eZ X z body g0 (.rt r) g1->fU X z body T (d::l) g (.rt r) g1
def ar1{i m n:Nat}(h:i+m=n)(hi:i<n):m - 1<m/\i+1+(m - 1)=n:=by lia
def jU{qqq:It}{items:List D}{K:Frag}{M1:List Addr}{H1 H0:Hp}{σ0:Sg}{Qn:Sg->Hp->Prop}{Body:V->Sg->Hp->(Sg->Hp->Prop)->Prop}(hJ:Jt qqq items K M1 H1)(P:List D->Sg->Hp->Prop)(h0:P items σ0 H0)
  (st:∀l σ' H',P l σ' H'->∃M2,aq M1 H1 M2 H') (fin:∀σ' H',P [] σ' H'->Qn σ' H')
  (turn:∀d l σ' H',P (d::l) σ' H'->∀x H2,(∀M2,aq M1 H1 M2 H'->∀(z:Z) g J As,z.K=K->S z g J As M2 H'->S z g J As M2 H2/\aq M2 H' M2 H2/\Rep K M2 H2 d x)->Body x σ' H2 (P l)) :
  ∃W:Nat->Nat->Sg->Hp->Prop,(∃m,W 0 m σ0 H0)/\∀i m σ' H',W i m σ' H'->
   (qqq.stop i H'/\Qn σ' H')\/(qqq.go i H'/\∃Nn:Sg->Hp->Prop,(∀Cz CG,Nn Cz CG->∃m',m'<m/\W (i+1) m' Cz CG)/\∀x H2,qqq.Yu i H' x H2->Body x σ' H2 Nn):=by
 apply#[λi m σ' H'=>i+m=items.length/\P (items.drop i) σ' H',#[items.length,v4 _,h0],?_]
 rintro i m σ' H' ⟨him,p⟩;let(M2,aJ):=st _ _ _ p;let(hgo,hstop):=hJ M2 H' aJ;cases e:items[i]? with
 |none=>
  have hi:i=items.length:=by have:=CH.mp e;lia
  subst hi;rw[List.drop_length]at p;show .inl #[hstop,fin _ _ p]
 |some d=>rw[drop_cons e]at p;have hi:=(dL.mp e).1;have hm:=ar1 him hi;show .inr #[(hgo i d e).1,P (items.drop (i+1)),λCz CG hN=>#[m - 1,hm.1,hm.2,hN],λx H2 hx=>turn d _ σ' H' p x H2 λM3 cH=>((hJ M3 H' cH).1 i d e).2 x H2 hx]
def Vp(hp:PassesOwn (~~~2) X.A X.env X.xe)(hc:X.calm=true)(hw:dR X z tg iter g items g1)(ht:gw X z tg T)(hb:fU X z body T items g1 f g')(hs:∀y,foldedSetIterable iter X.env y=pure y) :
  gq X z (.For tg iter body [] pos) g f g':=by
 let(wi,q,k):=hw;let(t,qt,kt):=ht;apply#[_,Ge hp hc q qt zW hs,λJ As M H E s kk=>k J As M H _ s λqqq H1 bu M1 s1 dN hJ=>?_]
 apply jU hJ (λl σ2 H2=>∃g2 bG M2,S z g2 σ2 bG M2 H2/\aq M1 H1 M2 H2/\fU X z body T l g2 f g') #[g1,bu,M1,s1,aq.refl _ _,hb] (by rintro _ _ _ ⟨_,_,M2,_,aJ,_⟩;show#[M2,aJ]) ?_ ?_
 . rintro σ2 H2 ⟨g2,bG,M2,s2,aJ,lo⟩;cases lo;show kk σ2 bG M2 H2 s2 (dN.trans aJ)
 .
  rintro d l σ2 H2 ⟨g2,bG,M2,s2,aJ,lo⟩ x H' yl;let(s3,cH,rx):=yl M2 aJ z g2 σ2 bG rfl s2;have kk':=(kk.trans dN).trans (aJ.trans cH);have aah:=aJ.trans cH;cases lo with
  |next e0 b h=>
   apply kt d g2 _ e0 x σ2 bG M2 H' _ s3 rx λσ' aE s' _=>?_
   let(t,q,kb):=b;show#[t,q,kb _ aE M2 H' _ s' λσ4 iJ M4 H4 s4 iD=>#[_,iJ,M4,s4,aah.trans iD,h]]
  |cont e0 b h=>
   apply kt d g2 _ e0 x σ2 bG M2 H' _ s3 rx λσ' aE s' _=>?_
   let(t,q,kb):=b;show#[t,q,kb _ aE M2 H' _ s' λσ4 iJ M4 H4 s4 iD=>#[_,iJ,M4,s4,aah.trans iD,h]]
  |brk e0 b=>
   apply kt d g2 _ e0 x σ2 bG M2 H' _ s3 rx λσ' aE s' _=>?_
   let(t,q,kb):=b;show#[t,q,kb _ aE M2 H' _ s' λσ4 iJ M4 H4 s4 iD=>kk' σ4 iJ M4 H4 s4 iD]
  |ret e0 b=>
   apply kt d g2 _ e0 x σ2 bG M2 H' _ s3 rx λσ' aE s' _=>?_
   let(t,q,kb):=b;show#[t,q,kb _ aE M2 H' _ s' λv σ4 iJ M4 H4 s4 iD R=>kk' v σ4 iJ M4 H4 s4 iD R]
end
abbrev gC(k:Nat)(g:G):G:=g++(List.replicate k .no++[.own []])
abbrev cu(X:Cx)(z:Z)(ifs:List Expr)(g:G)(b:Bool)(g':G):Prop:=
 ∃t,jP X ifs t/\∀J As M H (Q:Bool->Hp->Prop),S z g J As M H->(∀H' aE M',S z g' J aE M' H'->aq M H M' H'->Q b H')->t J H Q
def Nu:cu X z [] g true g:=#[_,uY,λJ As M H Q s k=>k H As M s (aq.refl _ _)]
def Nv(h:cZ X z c g b g'):cu X z [c] g b g':=let #[t,q,k]:=h;#[t,Gm q,k]
inductive jV(T:Tg)(last:Nat)(mj:G->Bool->G->Prop)(xV:G->D->G->Prop):List D->G->G->Prop
 |nil {g:G}:jV T last mj xV [] g g
 |skip:T.set d g=!g1->mj g1 false g2->jV T last mj xV l g2 g'->jV T last mj xV (d::l) g g'
 |take:T.set d g=!g1->mj g1 true g2->xV g2 e g3->g3[last]?=!(.own acc)->acc.length<16777216->jV T last mj xV l (g3.set last (.own (acc++[e]))) g'->jV T last mj xV (d::l) g g'
section
def S.extend(s:S z g J As M H)(hm:a∈M)(hA:a∉As)(h0:z.H0 a=none)(h:H a=!(.lst xs))(r:aK z.K M H l xs) :
  S z (g++(List.replicate k .no++[.own l])) (J++(List.replicate k none++[!(.ref a)])) (As++([]++[a])) M H:=by
 have hl:=s.sl.length;apply#[s.sl.append ((Slots.nos k).append (.own h r .nil)),?_,λb hb=>?_,λi b l' e1 e2=>?_,s.live,s.keep,s.jL,s.m0,s.bm,λp hp=>?_,s.tab,s.tm,s.tt]
 .
  rw[BB];apply yA.mpr #[s.nd,i7.mpr #[by simp,AC],λx hx y hy e=>?_]
  rw[eP.mp hy]at e;show hA (e▸hx)
 .
  rcases l9.mp hb with q |q
  . show s.sub b q
  . rw[BB]at q;rw[eP.mp q];show hm
 .
  rcases u4 i g.length with hi |hi
  . rw[b8 hi]at e1;rw[b8 ⋯]at e2;show s.own i b l' e1 e2
  .
   rw[b6 hi]at e1;rw[b6 ⋯]at e2;rcases u4 (i - g.length) k with hk |hk
   .
    rw[b8 (by rw[nE];show hk)]at e1
    have:=lL e1;rw[AI]at this;show absurd this.2 ⋯
   .
    rw[b6 (by rw[nE];lia),nE]at e2
    have e3:i - J.length - k=0:=by
     rcases Nat.eq_zero_or_pos (i - J.length - k)with q |q
     . show q
     . rw[x5 (Nat.succ_le_of_lt q)]at e2;cases e2
    rw[e3]at e2;have e4:=e2;injection e4 with e4;injection e4 with e4;injection e4 with e4;show .inr (e4▸h0)
 . let(q1,l',q2):=s.jj p hp;show#[by rw[b8 (dL.mp q1).1];show q1,l',by rw[b8 (dL.mp q2).1];show q2]
def Slots.split{K:Frag}{g1 g2:G}{J:Sg}{As:List Addr}(q:Slots K M H (g1++g2) J As):∃σ1 σ2 A1 A2,J=σ1++σ2/\As=A1++A2/\Slots K M H g1 σ1 A1/\Slots K M H g2 σ2 A2:=by
 induction g1 generalizing J As with
 |nil=>show#[[],_,[],_,rfl,rfl,.nil,q]
 |cons o g1 ih=>cases q with
  |no q=>let(s1,s2,a1,a2,rfl,rfl,h1,h2):=ih q;show#[_::s1,s2,a1,a2,rfl,rfl,.no h1,h2]
  |dat r q=>let(s1,s2,a1,a2,rfl,rfl,h1,h2):=ih q;show#[_::s1,s2,a1,a2,rfl,rfl,.dat r h1,h2]
  |own e r q=>let(s1,s2,a1,a2,rfl,rfl,h1,h2):=ih q;show#[_::s1,s2,_::a1,a2,rfl,rfl,.own e r h1,h2]
def S.shrink{gb:G}{τ:Sg}{l:List D}{i:Nat}{a:Addr}(s:S z gb (J++τ) As M H)(hz:∀p∈z.lent,p.1<J.length)(hi:J.length<=i)(e1:gb[i]?=!(.own l))(e2:(J++τ)[i]?=!(!(.ref a))) :
  ∃A1,S z (gb.take J.length) J A1 M H/\a∈M/\a∉A1:=by
 have hl:=s.sl.length;rw[dS]at hl;have q:=s.sl;rw[<- kA J.length gb]at q;let(σ1,σ2,A1,A2,h1,h2,h3,h4):=q.split;have l1:=h3.length;rw[i8,AS ⋯]at l1;let(rfl,rfl):=List.append_inj h1 l1;subst h2;have hA2:a∈A2:=by
  let(b,xs,f1,f2,_):=h4.at (by rw[List.getElem?_drop,Nat.add_sub_cancel' hi];show e1)
  rw[b6 hi]at e2;rw[e2]at f1;injection f1 with f1;injection f1 with f1;injection f1 with f1;show f1▸f2
 have tk:∀(j:Nat) (o:Slot),(gb.take J.length)[j]?=!o->gb[j]?=!o/\j<J.length:=λj o e=>by
  have hj:=(dL.mp e).1;rw[i8]at hj;have hj':=fN hj (Nat.min_le_left _ _);rw[x4 hj']at e;show#[e,hj']
 apply#[A1,#[h3,(yA.mp s.nd).1,λb hb=>s.sub b (l7 _ hb),λj b l' c1 c2=>?_,s.live,s.keep,s.jL,s.m0,s.bm,λp hp=>?_,s.tab,s.tm,s.tt],s.sub a (gL _ hA2),λhA=>(yA.mp s.nd).2.2 a hA a hA2 rfl]
 . let(c3,c4):=tk j _ c1;show s.own j b l' c3 (by rw[b8 c4];show c2)
 . let(c1,l',c2):=s.jj p hp;have vn:=hz p hp;rw[b8 vn]at c1;show#[c1,l',by rw[x4 vn];show c2]
def cO(h:vo is (J++τ) σ')(hi:∀i∈is,J.length<=i):∃τ',σ'=J++τ':=by
 apply#[σ'.drop J.length,?_];have e:σ'.take J.length=J:=by
  refine BC;intro j;rcases u4 j J.length with hj |hj
  . rw[x4 hj,h.2 j (λz=>Nat.not_lt.mpr (hi j z) hj),b8 hj]
  . rw[x5 (by rw[i8];show kS (Nat.min_le_left _ _) hj),x5 hj]
 have:=(kA J.length σ').symm;rw[e]at this;show this
end
section
abbrev CZ(X:Cx)(tg:Expr):TG:=λv J H Q=>∃t,PG X tg t/\t v J H Q
def jw:PG X tg (CZ X tg):=λaj s J H v u Q I r h=>let #[t,q,k]:=h;q aj s J H v u Q I r k
abbrev Dc(X:Cx)(ifs:List Expr):TT:=λJ H Q=>∃t,jP X ifs t/\t J H Q
def jx:jP X ifs (Dc X ifs):=λaj s J H Q I h=>let #[t,q,k]:=h;q aj s J H Q I k
abbrev G6(X:Cx)(e:Expr):TE:=λJ H Q=>∃t,PE X e t/\t J H Q
def oW:PE X e (G6 X e):=λaj s J H Q I h=>let #[t,q,k]:=h;q aj s J H Q I k
def oX(hw:dR X z tg iter g items g1)(ht:∀b:Bk,gw (X.blk N' scope b) z tg T)(hT:∀i∈T.ix,g1.length<=i/\i<g1.length+k)
  (hcp:jV T (g1.length+k) (λg b g'=>∀bk:Bk,cu (X.blk N' scope bk) z ifs g b g') (λg d g'=>∀bk:Bk,aA (X.blk N' scope bk) z bE g (.dat d) g') items (gC k g1) gE) (hacc:gE[g1.length+k]?=!(.own acc)) :
  ∃wi,PI X tg iter wi/\∀J As M H Q,S z g J As M H->Kn z (gE.take g1.length) J M H (.new acc) Q->rz X k wi (λb=>CZ (X.blk N' scope b) tg) (λb=>Dc (X.blk N' scope b) ifs) (λD b=>uZ D (G6 (X.blk N' scope b) bE)) J H Q:=by
 let(wi,q,kw):=hw;apply#[wi,q,λJ As M H Q s kq=>kw J As M H _ s λqqq H1 bu M1 s1 dN hJ D hD=>?_]
 have hl:=s1.sl.length;have hz:∀p∈z.lent,p.1<J.length:=λp hp=>(dL.mp (s1.jj p hp).1).1
 have Vq:∀i∈T.ix,J.length<=i:=λi hi=>by rw[<- hl];show (hT i hi).1
 have dU:g1.length+k∉T.ix:=λh=>u8 _ (hT _ h).2
 have s1':=s1.bw (xs:=[]) hD;have h0:=s1.cS hD;have nA:D∉bu:=λh=>s1.fresh hD (s1.sub D h)
 have sb:=s1'.extend (k:=k) dA nA h0 aF .nil;have G7:(J++(List.replicate k none++[!(V.ref D)]))[g1.length+k]?=!(!(V.ref D)):=by
  rw[hl,b6 (BU _ _),lS,b6 (by rw[nE];show d5 _),nE,Cf]
  rfl
 apply jU hJ (λl σ' H'=>∃gb Ab Mb τ,S z gb σ' Ab Mb H'/\aq M1 H1 Mb H'/\σ'=J++τ/\σ'[g1.length+k]?=!(!(.ref D))/\jV T (g1.length+k) (λg b g'=>∀bk:Bk,cu (X.blk N' scope bk) z ifs g b g') (λg d g'=>∀bk:Bk,aA (X.blk N' scope bk) z bE g (.dat d) g') l gb gE)
  #[_,_,_,_,sb,aq.bw hD,rfl,G7,hcp] (by rintro _ _ _ ⟨_,_,M2,_,_,aJ,_⟩;show#[M2,aJ]) ?_ ?_
 . rintro σ' H' ⟨gb,Ab,Mb,τ,s2,aJ,rfl,xW,cp⟩;cases cp;let(a,xs,f1,f2,f3,f4):=s2.sl.at hacc;rw[xW]at f1;injection f1 with f1;injection f1 with f1;injection f1 with f1;subst f1;let(A1,s3,m3,n3):=s2.shrink hz ⋯ hacc xW;rw[<- hl]at s3;show kq _ H' A1 Mb s3 (dN.trans aJ) #[D,xs,rfl,m3,n3,h0,f3,f4]
 .
  rintro d l σ' H' ⟨gb,Ab,Mb,τ,s2,aJ,rfl,xW,cp⟩ x H2 yl bk _;let(s3,cH,rx):=yl Mb aJ z gb (J++τ) Ab rfl s2;let(t,qt,kt):=ht bk;cases cp with
  |skip e0 hc aD=>
   apply#[t,qt,kt d gb _ e0 x _ Ab Mb H2 _ s3 rx λσ4 iJ s4 ag=>?_]
   let(τ',rfl):=cO ag Vq;let(t2,q2,k2):=hc bk;apply#[t2,q2,k2 _ iJ Mb H2 _ s4 λH5 zZ M5 s5 jq=>?_]
   apply oq #[_,zZ,M5,τ',s5,(aJ.trans cH).trans jq,rfl,?_,aD];rw[ag.2 _ dU];show xW
  |take e0 hc he ha hz' aD=>
   apply#[t,qt,kt d gb _ e0 x _ Ab Mb H2 _ s3 rx λσ4 iJ s4 ag=>?_]
   let(τ',rfl):=cO ag Vq;let(t2,q2,k2):=hc bk;let(t3,q3,k3):=he bk;have Nx:(J++τ')[g1.length+k]?=!(!(V.ref D)):=by rw[ag.2 _ dU];show xW
   apply#[t2,q2,k2 _ iJ Mb H2 _ s4 λH5 zZ M5 s5 jq=>jO #[t3,q3,k3 _ zZ M5 H5 _ s5 λv H6 Vr M6 s6 RB R6=>?_]]
   let(a,xs,f1,f2,f3,f4):=s6.sl.at ha;rw[Nx]at f1;injection f1 with f1;injection f1 with f1;injection f1 with f1;subst f1;let(s7,st7):=s6.write ha Nx (f4.append (.cons R6 .nil));apply#[xs,f3,by rw[<- f4.length];show hz',_,Vr,M6,τ',s7,(((aJ.trans cH).trans jq).trans RB).trans st7,rfl,Nx,aD]
def Ny(B:bH X.env.scope scope)(hc:X.calm=true)(hN:Names X.N N' scope k)(hw:dR X z tg iter g items g1)(ht:∀b:Bk,gw (X.blk N' scope b) z tg T)(hT:∀i∈T.ix,g1.length<=i/\i<g1.length+k)
  (hcp:jV T (g1.length+k) (λg b g'=>∀bk:Bk,cu (X.blk N' scope bk) z ifs g b g') (λg d g'=>∀bk:Bk,aA (X.blk N' scope bk) z bE g (.dat d) g') items (gC k g1) gE) (hacc:gE[g1.length+k]?=!(.own acc))
  (hs:∀x,foldedSetIterable iter X.env x=pure x):aA X z (.ListComp bE [#[tg,iter,ifs,0]] scope pos) g (.new acc) (gE.take g1.length):=by
 let(wi,q,kk):=oX hw ht hT hcp hacc;show#[_,Mx B hc hN q (λb=>#[jw,jx,oW]) hs,kk]
def Nz(B:bH X.env.scope scope)(hc:X.calm=true)(hN:Names X.N N' scope k)(hw:dR X z tg iter g items g1)(ht:∀b:Bk,gw (X.blk N' scope b) z tg T)(hT:∀i∈T.ix,g1.length<=i/\i<g1.length+k)
  (hcp:jV T (g1.length+k) (λg b g'=>∀bk:Bk,cu (X.blk N' scope bk) z ifs g b g') (λg d g'=>∀bk:Bk,aA (X.blk N' scope bk) z bE g (.dat d) g') items (gC k g1) gE) (hacc:gE[g1.length+k]?=!(.own acc))
  (Gp:X.N.Nodup) (hy:X.N[i]?=!y) (hl:X.env.scope.names.lookup y=some .local) (hb:i∉z.bor) (hi:i<(gE.take g1.length).length)
  (hsw:swapsWith (.ListComp bE [#[tg,iter,ifs,0]] scope pos) (!(.Name y py)) dM.line X.env=pure true)
  (hs:∀x,foldedSetIterable iter X.env x=pure x):gq X z (.Assign [.Name y py] (.ListComp bE [#[tg,iter,ifs,0]] scope pos) dM) g .nx ((gE.take g1.length).set i (.own acc)):=by
 let(wi,q,kk):=oX hw ht hT hcp hacc;apply#[_,zR B hc hN q (λb=>#[jw,jx,oW]) Gp hy hl hsw hs,λJ As M H E s kE=>kk J As M H _ s λv H' aE M' s' st R=>?_]
 let(a,xs,rfl,hm,hA,h0,ha,rr):=R;let(bG,s2):=s'.oA hb hi hm hA h0 ha rr;show kE _ bG M' H' s2 st
end
section
def aA.run(he:aA X z e g r g1)(I:L2.Inv X aj J H s)(st:S z g J As M H)
  (k:∀v u s1 H1 bu M1,L2.Inv X aj J H1 s1->RelV v u->S z g1 J bu M1 H1->aq M H M1 H1->fP z g1 J bu M1 H1 r v->Post u s1):wpAny (~~~2) X.A (eval e X.env) Post X.xe s:=by
 let(t,q,kt):=he;show cz (q aj s J H (λv H1=>∃bu M1,S z g1 J bu M1 H1/\aq M H M1 H1/\fP z g1 J bu M1 H1 r v) I (kt J As M H _ st λv H1 bu M1 s1 dN R=>#[bu,M1,s1,dN,R])) (by rintro u s1 ⟨v,H1,I1,r1,bu,M1,q1,q2,q3⟩;show k v u s1 H1 bu M1 I1 r1 q1 q2 q3)
def kL.run(ho:kL X z f d1 d2 r)(I:L2.Inv X aj J H s)(st:S z g J As M H)(p1:Pk z.K M H d1 v1)(p2:Pk z.K M H d2 v2)(r1:RelV v1 u1)(r2:RelV v2 u2)
  (k:∀v u s1 H1 bu M1,L2.Inv X aj J H1 s1->RelV v u->S z g J bu M1 H1->aq M H M1 H1->fP z g J bu M1 H1 r v->Post u s1):wpAny (~~~2) X.A (f u1 u2) Post X.xe s:=by
 let(rr,o,ko):=ho;show cz (o aj s J H v1 v2 u1 u2 (λv H1=>∃bu M1,S z g J bu M1 H1/\aq M H M1 H1/\fP z g J bu M1 H1 r v) I r1 r2 (ko g J As M H v1 v2 _ st p1 p2 λv H1 bu M1 s1 dN R=>#[bu,M1,s1,dN,R])) (by rintro u s1 ⟨v,H1,I1,r1,bu,M1,q1,q2,q3⟩;show k v u s1 H1 bu M1 I1 r1 q1 q2 q3)
def aA.of (h:∀(aj: ~~~1) (s:Shared) (J:Sg) (As M:List Addr) (H:Hp) (Post:Value->Shared->Prop),L2.Inv X aj J H s->S z g J As M H->
  (∀v u s1 H1 bu M1,L2.Inv X aj J H1 s1->RelV v u->S z g1 J bu M1 H1->aq M H M1 H1->fP z g1 J bu M1 H1 r v->Post u s1)->wpAny (~~~2) X.A (eval e X.env) Post X.xe s):aA X z e g r g1:=
 #[λJ H Q=>∃As M,S z g J As M H/\Kn z g1 J M H r Q,by rintro aj s J H Q I ⟨As,M,st,k⟩;show h aj s J As M H _ I st λv u s1 H1 bu M1 I1 r1 q1 q2 q3=>#[v,H1,I1,r1,k v H1 bu M1 q1 q2 q3],λJ As M H Q s k=>#[As,M,s,k]]
def cZ.of (h:∀(aj: ~~~1) (s:Shared) (J:Sg) (As M:List Addr) (H:Hp) (Post:Bool->Shared->Prop),L2.Inv X aj J H s->S z g J As M H->
  (∀s1 H1 bu M1,L2.Inv X aj J H1 s1->S z g1 J bu M1 H1->aq M H M1 H1->Post b s1)->wpAny (~~~2) X.A (isTrue e X.env (eval e X.env)) Post X.xe s):cZ X z e g b g1:=
 #[λJ H Q=>∃As M,S z g J As M H/\(∀H' aE M',S z g1 J aE M' H'->aq M H M' H'->Q b H'),by rintro aj s J H Q I ⟨As,M,st,k⟩;show h aj s J As M H _ I st λs1 H1 bu M1 I1 q1 q2=>#[H1,I1,k H1 bu M1 q1 q2],λJ As M H Q s k=>#[As,M,s,k]]
inductive tG(X:Cx)(z:Z):D->List CmpOp->List Expr->G->Bool->G->Prop
 |last {d1 d2:D}{op:CmpOp}{b:Expr}{g g1:G}{c:Bool}:aA X z b g (.dat d2) g1->kL X z (compareOp op) d1 d2 (.dat (.bl c))->tG X z d1 [op] [b] g c g1
 |stop {d1 d2:D}{op op':CmpOp}{ops:List CmpOp}{b b':Expr}{bs:List Expr}{g g1:G}:aA X z b g (.dat d2) g1->kL X z (compareOp op) d1 d2 (.dat (.bl false))->tG X z d1 (op::op'::ops) (b::b'::bs) g false g1
 |link {d1 d2:D}{op op':CmpOp}{ops:List CmpOp}{b b':Expr}{bs:List Expr}{g g1 g2:G}{c:Bool}:aA X z b g (.dat d2) g1->kL X z (compareOp op) d1 d2 (.dat (.bl true))->tG X z d2 (op'::ops) (b'::bs) g1 c g2->tG X z d1 (op::op'::ops) (b::b'::bs) g c g2
def Vs(h:tG X z d1 ops bs g c g'):∀(aj: ~~~1) (s:Shared) (J:Sg) (H:Hp) (As M:List Addr) (Post:Value->Shared->Prop) (v1:V) (u1:Value),L2.Inv X aj J H s->S z g J As M H->Rep z.K M H d1 v1->RelV v1 u1->
  (∀s1 H' aE M',L2.Inv X aj J H' s1->S z g' J aE M' H'->aq M H M' H'->Post (.bool c) s1)->wpAny (~~~2) X.A (compareChain pos u1 ops (evalEach bs X.env)) Post X.xe s:=by
 induction h with
 |@last d1 d2 op b g g1 c he ho=>
  intro aj s J H As M Post v1 u1 I st r rv k;apply chain_last (he.run I st λv u s1 H1 bu M1 I1 r1 q1 q2 q3=>ho.run I1 q1 (.of (r.stay q2)) (.of q3) rv r1 λv' u' s2 H2 bG M2 I2 r2 p1 p2 p3=>?_)
  rw[gn p3]at r2;cases r2;show k s2 H2 bG M2 I2 p1 (q2.trans p2)
 |@stop d1 d2 op op' ops b b' bs g g1 he ho=>
  intro aj s J H As M Post v1 u1 I st r rv k;apply chain_link (he.run I st λv u s1 H1 bu M1 I1 r1 q1 q2 q3=>ho.run I1 q1 (.of (r.stay q2)) (.of q3) rv r1 λv' u' s2 H2 bG M2 I2 r2 p1 p2 p3=>?_)
  rw[gn p3]at r2;cases r2;show tI (ite_ff (k s2 H2 bG M2 I2 p1 (q2.trans p2)))
 |@link d1 d2 op op' ops b b' bs g g1 g2 c he ho hch ih=>
  intro aj s J H As M Post v1 u1 I st r rv k;apply chain_link (he.run I st λv u s1 H1 bu M1 I1 r1 q1 q2 q3=>ho.run I1 q1 (.of (r.stay q2)) (.of q3) rv r1 λv' u' s2 H2 bG M2 I2 r2 p1 p2 p3=>?_)
  rw[gn p3]at r2;cases r2;show tI (ite_tt (ih aj s2 J H2 bG M2 Post v u I2 p1 (Rep.stay p2 q3) r1 λs3 H3 rF M3 I3 w1 w2=>k s3 H3 rF M3 I3 w1 ((q2.trans p2).trans w2)))
def NB(h:tG X z d1 ops bs g c g'):∀(aj: ~~~1) (s:Shared) (J:Sg) (H:Hp) (As M:List Addr) (Post:Bool->Shared->Prop) (v1:V) (u1:Value),L2.Inv X aj J H s->S z g J As M H->Rep z.K M H d1 v1->RelV v1 u1->
  (∀s1 H' aE M',L2.Inv X aj J H' s1->S z g' J aE M' H'->aq M H M' H'->Post c s1)->wpAny (~~~2) X.A (testChain pos u1 ops (evalEach bs X.env)) Post X.xe s:=by
 induction h with
 |@last d1 d2 op b g g1 c he ho=>
  intro aj s J H As M Post v1 u1 I st r rv k;apply test_last (he.run I st λv u s1 H1 bu M1 I1 r1 q1 q2 q3=>ho.run I1 q1 (.of (r.stay q2)) (.of q3) rv r1 λv' u' s2 H2 bG M2 I2 r2 p1 p2 p3=>?_)
  rw[gn p3]at r2;cases r2;show tI (k s2 H2 bG M2 I2 p1 (q2.trans p2))
 |@stop d1 d2 op op' ops b b' bs g g1 he ho=>
  intro aj s J H As M Post v1 u1 I st r rv k;apply test_link (he.run I st λv u s1 H1 bu M1 I1 r1 q1 q2 q3=>ho.run I1 q1 (.of (r.stay q2)) (.of q3) rv r1 λv' u' s2 H2 bG M2 I2 r2 p1 p2 p3=>?_)
  rw[gn p3]at r2;cases r2;show tI (ite_ff (k s2 H2 bG M2 I2 p1 (q2.trans p2)))
 |@link d1 d2 op op' ops b b' bs g g1 g2 c he ho hch ih=>
  intro aj s J H As M Post v1 u1 I st r rv k;apply test_link (he.run I st λv u s1 H1 bu M1 I1 r1 q1 q2 q3=>ho.run I1 q1 (.of (r.stay q2)) (.of q3) rv r1 λv' u' s2 H2 bG M2 I2 r2 p1 p2 p3=>?_)
  rw[gn p3]at r2;cases r2;show tI (ite_tt (ih aj s2 J H2 bG M2 Post v u I2 p1 (Rep.stay p2 q3) r1 λs3 H3 rF M3 I3 w1 w2=>k s3 H3 rF M3 I3 w1 ((q2.trans p2).trans w2)))
def G8(ha:aA X z a g (.dat d1) g1)(h:tG X z d1 (Vt::Vu::ops) (b1::b2::bs) g1 c g2)(hm:lastMarks (Vt::Vu::ops) (b1::b2::bs)=false):aA X z (.Compare a (Vt::Vu::ops) (b1::b2::bs) pos) g (.dat (.bl c)) g2:=
 aA.of λaj s J As M H Post I st k=>Compare_chain (ha.run I st λv u s1 H1 bu M1 I1 r1 q1 q2 q3=>Vs h aj s1 J H1 bu M1 Post v u I1 q1 q3 r1 λs2 H2 bG M2 I2 p1 p2=>k (.bl c) (.bool c) s2 H2 bG M2 I2 rfl p1 (q2.trans p2) (.bl c)) hm
def G9(ha:aA X z a g (.dat d1) g1)(h:tG X z d1 (Vt::Vu::ops) (b1::b2::bs) g1 c g2)(hm:lastMarks (Vt::Vu::ops) (b1::b2::bs)=false):cZ X z (.Compare a (Vt::Vu::ops) (b1::b2::bs) pos) g c g2:=
 cZ.of λaj s J As M H Post I st k=>isTrue_chain (ha.run I st λv u s1 H1 bu M1 I1 r1 q1 q2 q3=>NB h aj s1 J H1 bu M1 Post v u I1 q1 q3 r1 λs2 H2 bG M2 I2 p1 p2=>k s2 H2 bG M2 I2 p1 (q2.trans p2)) hm
inductive m7(X:Cx)(z:Z)(c:Expr)(body:List Stmt):Nat->G->Fl->G->Prop
 |done {n:Nat}{g g1:G}:cZ X z c g false g1->m7 X z c body n g .nx g1
 |next {n:Nat}{g g1 g2 g3:G}{f:Fl}:cZ X z c g true g1->eZ X z body g1 .nx g2->m7 X z c body n g2 f g3->m7 X z c body (n+1) g f g3
 |cont {n:Nat}{g g1 g2 g3:G}{f:Fl}:cZ X z c g true g1->eZ X z body g1 .ct g2->m7 X z c body n g2 f g3->m7 X z c body (n+1) g f g3
 |brk {n:Nat}{g g1 g2:G}:cZ X z c g true g1->eZ X z body g1 .bk g2->m7 X z c body n g .nx g2
 |ret {n:Nat}{g g1 g2:G}{r:R}:cZ X z c g true g1->eZ X z body g1 (.rt r) g2->m7 X z c body n g (.rt r) g2
abbrev aai(X:Cx)(e:Expr):TT:=λJ H Q=>∃t,PT X e t/\t J H Q
def Vv{e:Expr}:PT X e (aai X e):=λaj s J H Q I h=>let #[t,q,k]:=h;q aj s J H Q I k
def Hf{ce:Expr}{body:List Stmt}{n:Nat}{f:Fl}{g':G}(hp:PassesOwn (~~~2) X.A X.env X.xe)(h:m7 X z ce body n g f g'):gq X z (.While ce body [] pos) g f g':=by
 apply#[_,Gb hp Vv zW,λJ As M H E s k=>?_]
 apply#[λm σ2 H2=>∃g2 bG M2,S z g2 σ2 bG M2 H2/\aq M H M2 H2/\m7 X z ce body m g2 f g',#[n,g,As,M,s,aq.refl _ _,h],?_]
 rintro m σ2 H2 ⟨g2,bG,M2,s2,aJ,w⟩;cases w with
 |done hc=>let(t,q,kt):=hc;show#[t,q,kt σ2 bG M2 H2 _ s2 λH3 rF M3 s3 cH=>oq (k σ2 rF M3 H3 s3 (aJ.trans cH))]
 |@next m' _ g3 g4 _ _ hc hb w'=>
  let(t,q,kt):=hc;let(tb,qb,kb):=hb;apply#[t,q,kt σ2 bG M2 H2 _ s2 λH3 rF M3 s3 cH=>jO #[λσ' H'=>∃g2 bG M2,S z g2 σ' bG M2 H'/\aq M H M2 H'/\m7 X z ce body m' g2 f g',λσ' H' hN=>#[m',xL _,hN],tb,qb,kb σ2 rF M3 H3 _ s3 λσ4 iJ M4 H4 s4 iD=>?_]]
  show#[g4,iJ,M4,s4,(aJ.trans cH).trans iD,w']
 |@cont m' _ g3 g4 _ _ hc hb w'=>
  let(t,q,kt):=hc;let(tb,qb,kb):=hb;apply#[t,q,kt σ2 bG M2 H2 _ s2 λH3 rF M3 s3 cH=>jO #[λσ' H'=>∃g2 bG M2,S z g2 σ' bG M2 H'/\aq M H M2 H'/\m7 X z ce body m' g2 f g',λσ' H' hN=>#[m',xL _,hN],tb,qb,kb σ2 rF M3 H3 _ s3 λσ4 iJ M4 H4 s4 iD=>?_]]
  show#[g4,iJ,M4,s4,(aJ.trans cH).trans iD,w']
 |brk hc hb=>let(t,q,kt):=hc;let(tb,qb,kb):=hb;show#[t,q,kt σ2 bG M2 H2 _ s2 λH3 rF M3 s3 cH=>jO #[λ_ _=>False,λσ' H' hN=>hN.elim,tb,qb,kb σ2 rF M3 H3 _ s3 λσ4 iJ M4 H4 s4 iD=>k σ4 iJ M4 H4 s4 ((aJ.trans cH).trans iD)]]
 |ret hc hb=>let(t,q,kt):=hc;let(tb,qb,kb):=hb;show#[t,q,kt σ2 bG M2 H2 _ s2 λH3 rF M3 s3 cH=>jO #[λ_ _=>False,λσ' H' hN=>hN.elim,tb,qb,kb σ2 rF M3 H3 _ s3 λv σ4 iJ M4 H4 s4 iD R=>k v σ4 iJ M4 H4 s4 ((aJ.trans cH).trans iD) R]]
abbrev NC:D->Option Bool
 |.bl b=>!b
 |.non=>!false
 |.int i=>!(i != 0)
 |.lst l=>!((not l.isEmpty))
 |.tup l=>!((not l.isEmpty))
 |.fix l=>!((not l.isEmpty))
 |_=>none
end
end Ev
namespace HT
end HT
namespace Ev
open L2
section
variable{lo hi:Option Expr}
def Hg(hK:z.K=X.K)(h:aA X z e g r g1)(hp:pk r g1=!d)(hb:NC d=!b)(he:∀whole,isTrue e X.env whole=(do let v <- whole;standAt e.pos;holding [v] (truthy v))):cZ X z e g b g1:=by
 let(t,q,k):=h;apply#[_,Gf q he,λJ As M H Q s kk=>k J As M H _ s λv H1 bu M1 s1 dN R=>#[b,?_,kk H1 bu M1 s1 dN]]
 have p:=s1.pk (aq.refl _ _) R hp;cases d with
 |non=>rw[p.non];cases hb;rfl
 |bl c=>rw[p.bl];cases hb;rfl
 |int i=>rw[p.int];cases hb;rfl
 |str x=>cases hb
 |emp _=>cases hb
 |Gs _=>cases hb
 |Rt _ _=>cases hb
 |lst l=>let(a,xs,rfl,e1,e2):=p.list;cases hb;apply .inl #[xs,dQ.of e1,?_];cases e2 <;> rfl
 |tup l=>let(a,xs,rfl,e1,e2):=p.tup;cases hb;apply .inr (.inl #[xs,hK▸e1.sq,?_]);cases e2 <;> rfl
 |fix l=>let(a,xs,rfl,e1,e2):=p.fix;cases hb;apply .inl #[xs,hK▸e1.sq,?_];cases e2 <;> rfl
def Vw(hn:oV X x i)(hb:i∉z.bor)(h:aA X z e g (.dat d2) g1)(hg:g[i]?=!(.dat d1))(ho:kL X z (inplaceOp op) d1 d2 (.dat d)) :
  gq X z (.AugAssign (.Name x pos') op e pos) g .nx (g1.set i (.dat d)):=by
 let(t,q,k):=h;let(rr,o,ko):=ho;apply#[_,Ga hn.nd hn.ix hn.lc q (show PIp X op rr from λaj s J H x y v u Q I r1 r2 hq=>o aj s J H x y v u Q I r1 r2 hq) hn.fn,λJ As M H E s kk=>?_]
 let(v1,e1,r1):=s.sl.oz hg;apply#[v1,e1,k J As M H _ s λv2 H1 bu M1 s1 dN R=>ko g1 J bu M1 H1 v1 v2 _ s1 (.of (r1.stay dN)) (.of R) λv H2 bG M2 s2 aJ R2=>?_]
 let(rF,s3):=s2.eV hb R2;show kk _ rF M2 H2 s3 (dN.trans aJ)
end
section
structure TyOk(X:Cx)(T:Str)(n:String):Prop where
 gl:Gl X T
 mg:X.mg T=none
 bt:bootBuiltins T=!(.type n)
 nn:T≠ "__name__"
 db:(T==(~~~3))=false
inductive z7(X:Cx):List Expr->List String->Prop
 |nil:z7 X [] []
 |cons {T:Str}{n:String}{p:Pos}{es:List Expr}{ns:List String}:TyOk X T n->z7 X es ns->z7 X (.Name T p::es) (n::ns)
def Dd(hN:X.N[i]?=!x)(hv:mh X.env.scope x)(hd:(x==(~~~3))=false)(fK:(x==("__classdict__":Str))=false)(hg:g[i]?=!(.own l0))(h:cT X z [e] g [.dat (.lst m)] g1)(qC:g1[i]?=!(.own l))(hl:l.length+m.length<=16777216)
  (hbase:attributeBase (.Name x pn) "extend" X.env (eval (.Name x pn) X.env)=eval (.Name x pn) X.env)
  (hline:(jI.endLine==ig.line)=true) (hs:starEach [e] X.env=(false,eval e X.env)::starEach [] X.env):aA X z (.Call (.Attribute (.Name x pn) "extend" jI) [e] [] ig) g (.dat .non) (g1.set i (.own (l++m))):=by
 let(t,q,k):=h;apply#[_,zQ BM PySem.F.slot_list_extend PySem.F.type_list_extend Cv (cR hN hv hd fK) q hbase (by rw[hs];rfl) hline hs rfl,λJ As M H Q s kk=>?_]
 let(a,xs,e1,e2,e3,e4):=s.sl.at hg;apply#[.ref a,e1,.inl #[rfl,xs,dQ.of e3],k J As M H _ s λvs H' aE M' s' st R=>?_]
 let(b,ys,f1,f2,f3,f4):=s'.sl.at qC;rw[e1]at f1;injection f1 with f1;injection f1 with f1;injection f1 with f1;subst f1;cases R with
 |dat r R=>
  cases R;cases r with
  |@lst _ c zs hc rr=>
   apply#[a,c,ys,zs,rfl,rfl,f3,hc.2,by rw[<- f4.length,<- rr.length];show hl,?_]
   let(s2,aJ):=s'.write qC e1 (f4.append rr);show kk _ _ aE M' s2 (st.trans aJ) .non
end
abbrev ins(a:Int): ~~~0->List Int
 | []=>[a]
 |b::l=>if a<=b then a::b::l else b::ins a l
abbrev cU: ~~~0->List Int
 | []=>[]
 |a::l=>ins a (cU l)
def oY(a:Int):∀l:List Int,(ins a l).Perm (a::l)
 | []=>mE _
 |b::l=>by
  delta ins;split
  . show mE _
  . show ((oY a l).cons b).trans (List.Perm.swap a b l)
def dD:∀l:List Int,(cU l).Perm l
 | []=>mE _
 |a::l=>(oY a _).trans ((dD l).cons a)
def oZ(a:Int):∀{l: ~~~0},l.Pairwise (· <= ·)->(ins a l).Pairwise (· <= ·)
 | [],_=>sT _ _
 |b::l,h=>by
  let(h1,h2):=tJ.mp h;delta ins;split
  .
   ext hab;apply tJ.mpr #[λx hx=>?_,h]
   rcases eC.mp hx with rfl |hx
   . show hab
   . show Int.le_trans hab (h1 x hx)
  .
   ext hab;apply tJ.mpr #[λx hx=>?_,oZ a h2]
   rcases eC.mp ((oY a l).mem_iff.mp hx)with rfl |hx
   . lia
   . show h1 x hx
def jW:∀l:List Int,(cU l).Pairwise (· <= ·)
 | []=>List.Pairwise.nil
 |a::l=>oZ a (jW l)
def o7(hp:m.Perm l)(hs:m.Pairwise (· <= ·)):m=cU l:=
 (hp.trans (dD l).symm).eq_of_pairwise (λx y _ _ h1 h2=>Int.le_antisymm h1 h2) hs (jW l)
section
def qH(hl:IsTup s.heap l vs.toArray)
  (h:Q vs { s with heap:=(s.heap.push (seqObj "list" ([].toArray) 0)).update s⁻¹ (Obj.mapSeq (· ++ vs.toArray))}) (uJ:vs.length<=sizeLine) :
  wpAny (model prog w) A (collect (.ref l)) Q E s:=by
 let(o,ho,hc,n,hd):=id hl;apply aS (wpAny_runValue (AF entry_proto_collect' ?_));apply aS (CB (dC #[Code.quiet_builtin _ (by decide +kernel),AF entry_list_iadd' ?_]))
 exact wpAny _ _ (Builtin.List.listExtendWith (.ref s⁻¹) (.ref l) (.ref s⁻¹)) _ _ { s with heap:=s.heap.push (seqObj "list" ([].toArray) 0)};have ho':(s.heap.push (seqObj "list" ([].toArray) 0)).get? l=!o:=dE _ ho;apply aS (DI #[o,ho',hc] ?_);have ht:(Value.type "tuple" == Value.type "tuple")=true:=by rfl
 rw[fR (by rw[ht];simp)]
 apply aS (listItems_at ho' hd ?_);apply aS (listItems_at (eM _ rfl) rfl ?_);apply aS (listUpdate_at (eM _ rfl) rfl ?_ (oP _) (by exact (([].toArray)++vs.toArray).size<=sizeLine+1;simp only[Array.size_append,d6,B8];lia))
 apply dC ?_;apply aS (wpAny_load (get?_update_seq (eM _ rfl) _) ?_);exact wpAny _ _ (pure ((([].toArray):Array Value)++vs.toArray).toList) Q E _;rw[show ((([].toArray):Array Value)++vs.toArray).toList=vs by simp]
 show dC h
def tH(hl:IsTup s.heap l vs.toArray)(hI:IntsAre vs ns)(h64:vs.length<64)
  (h:∀(out:Array Value) (ns': ~~~0),IntsAre out.toList ns'->ns'.Perm ns->ns'.Pairwise (· <= ·)->Q (.ref (s⁻¹+1)) { s with heap:=sortedAll s.heap vs out}) :
  wpAny (model prog w) A (call (.builtin "sorted") [.ref l]) Q E s:=by
 apply CI kind_sorted plain_sorted entry_sorted (args_sorted1 _) ?_;apply aS (dC ?_);apply aS (qH hl ?_ (by rw[t8];lia))
 apply aS (CB ?_);have uJ:((s.heap.push (seqObj "list" ([].toArray) 0)).update s⁻¹ (Obj.mapSeq (· ++ vs.toArray))).objs.size=s⁻¹+1:=by rw[Heap.size_update,size_push']
 have hoL:(((s.heap.push (seqObj "list" ([].toArray) 0)).update s⁻¹ (Obj.mapSeq (· ++ vs.toArray))).push (seqObj "list" vs.toArray 0)).get? (s⁻¹+1)=!(seqObj "list" vs.toArray 0):=by rw[<- uJ];show eM _ rfl
 rw[uJ];apply aS (nN (u7 slot_list_sort #[_,hoL,rfl] entry_list_sort (list_sort_tree hoL hI h64 λout ns' a1 a2 a3=>#[_,rfl,?_]) (args_list_sort _)))
 show dC #[_,rfl,h out ns' a1 a2 a3]
end
section
def vq:fM X (.builtin "sorted") (λxs H Q=>∃p ns,xs=[.ref p]/\(dQ X.K H p (ns.map V.int)\/iE X.K H p (ns.map V.int))/\ns.length<64/\∀q,H q=none->Q (.ref q) (upd H q (.lst ((cU ns).map V.int)))):=by
 intro aj s J H xs us Q I r h;let(p,ns,rfl,hq,hl,q):=h;let(u,rfl,rx):=vals1 r;cases rx;have fin:∀(vs:List Value) (out:Array Value) (ns': ~~~0),IntsAre out.toList ns'->ns'.Perm ns->ns'.Pairwise (· <= ·)->EP X aj J Q (.ref (s⁻¹+1)) { s with heap:=sortedAll s.heap vs out}:=λvs out ns' a1 a2 a3=>by
  have e:=o7 a2 a3;subst e;let(ep,he):=sortedAll_at s.heap vs out;have aN:=(dD ns).length_eq;apply#[.ref (s⁻¹+1),_,I.laid (λb o e=>sortedAll_old e) (BI _) ?_,rfl,q _ (I.hok.fresh (BI _))]
  apply#[by rw[eA,t8];lia,out.toList,ep,rq a1,?_]
  rw[he]
 rcases hq with hq |hq
 . let(its,r',pl,hz):=I.list hq;have aN:=r'.length;rw[eA]at aN;show sorted_ints pl.isList (intsAre_of r') ⋯ λout ns' a1 a2 a3=>fin its out ns' a1 a2 a3
 . let(its,r',pl,hz):=I.tuple hq;have aN:=r'.length;rw[eA]at aN;show tH pl (intsAre_of r') ⋯ λout ns' a1 a2 a3=>fin its out ns' a1 a2 a3
def rG{K:Frag}{M:List Addr}{H:Hp}:∀ns:List Int,aK K M H (ns.map D.int) (ns.map V.int)
 | []=>.nil
 |n::ns=>.cons (.int n) (rG ns)
def De(hK:z.K=X.K)(h:cJ d=!l)(hi:bI l=!ns)(hl:ns.length<64):CallD X z (.builtin "sorted") [d] (.new ((cU ns).map .int)):=by
 apply#[_,vq,λg J As M H vs Q s p k=>?_]
 let(v,rfl,pv):=p.one;have fin:∀q,H q=none->Q (.ref q) (upd H q (.lst ((cU ns).map V.int))):=λq hq=>k _ _ As (q::M) (s.bw hq) (aq.bw hq) #[q,_,rfl,dA,λhA=>s.fresh hq (s.sub q hA),s.cS hq,aF,rG _]
 cases d with
 |lst m=>symm;let(a,xs,rfl,e1,e2):=pv.list;have:=dB e2 hi;subst this;show#[a,ns,rfl,.inl (dQ.of e1),hl,fin]
 |tup m=>symm;let(a,xs,rfl,e1,e2):=pv.tup;have:=dB e2 hi;subst this;show#[a,ns,rfl,.inr (hK▸e1.sq),hl,fin]
 |fix m=>symm;let(a,xs,rfl,e1,e2):=pv.fix;have:=dB e2 hi;subst this;show#[a,ns,rfl,.inl (hK▸e1.sq),hl,fin]
 |_=>symm
end
section
abbrev Vx(X:Cx)(z:Z)(e:Expr)(g:G)(lo hi:Int)(g1:G):Prop:=
 ∀(aj: ~~~1) (s:Shared) (J:Sg) (As M:List Addr) (H:Hp) (Post:Value->Shared->Prop),L2.Inv X aj J H s->S z g J As M H->
  (∀r s1 H1 bu M1 t u v,L2.Inv X aj J H1 s1->S z g1 J bu M1 H1->aq M H M1 H1->IsRange s1.heap r lo hi 1 t u v->Post (.ref r) s1)->wpAny (~~~2) X.A (eval e X.env) Post X.xe s
def cT.run(ha:cT X z es g rs g1)(I:L2.Inv X aj J H s)(st:S z g J As M H)
  (k:∀vs us s1 H1 bu M1,L2.Inv X aj J H1 s1->Vals vs us->S z g1 J bu M1 H1->aq M H M1 H1->ju z J M1 H1 rs vs->Post us s1):wpAny (~~~2) X.A (spliced (backTo pos (starEach es X.env))) Post X.xe s:=by
 let(t,q,kt):=ha;show cz (q pos aj s J H (λvs H1=>∃bu M1,S z g1 J bu M1 H1/\aq M H M1 H1/\ju z J M1 H1 rs vs) I (kt J As M H _ st λvs H1 bu M1 s1 dN R=>#[bu,M1,s1,dN,R])) (by rintro us s1 ⟨vs,H1,I1,r1,bu,M1,q1,q2,q3⟩;show k vs us s1 H1 bu M1 I1 r1 q1 q2 q3)
def aaj(h:cT X z [a] g [‹j›] g1)(hg:Gl X "range")(hm:X.mg "range"=none)(hs:starEach [a] X.env=[(false,eval a X.env)]):Vx X z (.Call (.Name "range" p) [a] [] rp) g 0 j g1:=by
 intro aj s J As M H Post I st k;apply Call_ (fT I hg hm boot_range (sB (h.run I st λvs us s1 H1 bu M1 I1 r1 q1 q2 q3=>?_) hs rfl))
 cases q3 with
 |dat r R=>
  cases R;cases r;cases r1 with
  |cons r rr=>cases rr;let(t,rfl):=r;show call_range_1 (k _ _ H1 bu M1 _ _ _ (I1.kept λb o e=>dE _ e) q1 q2 (IsRange.new ..))
abbrev o8(lo:Int)(n:Nat):List V:=(List.range n).map λ(k:Nat)=>V.int (lo+(k:Int))
def rH{lo:Int}{n:Nat}{acc:Array Value}(h:ItemsOf (λi v=>∃t,v=Value.int (lo+(i:Int) * 1) t) acc n):Vals (o8 lo n) acc.toList:=by
 have key:∀(m:Nat) (l:List Value) (o:Nat),l.length=m->(∀j v,l[j]?=!v->∃t,v=Value.int (lo+((o+j:Nat):Int)) t)->Vals ((List.range' o m).map λ(k:Nat)=>V.int (lo+(k:Int))) l:=by
  intro m
  induction m with
  |zero=>intro l o hl _;cases l with
   |nil=>show .nil
   |cons _ _=>simp at hl
  |succ m ih=>
   intro l o hl hv;cases l with
   |nil=>simp at hl
   |cons v l=>
    let(t,e):=hv 0 v rfl;apply .cons #[t,by rw[e];rfl] (ih l (o+1) (by simpa using hl) λj w hw=>?_)
    let(t',e'):=hv (j+1) w (by simpa using hw)
    show#[t',by rw[e',show o+(j+1)=o+1+j by lia]]
 delta o8;rw[v3];apply key n acc.toList 0 (by rw[eD];show h.1) λj v hv=>?_
 let(t,e):=h.2 j v (by rw[<- nS];show hv)
 show#[t,by rw[e,v4,Int.mul_one]]
def rJ{K:Frag}{M:List Addr}{H:Hp}(lo:Int)(n:Nat):aK K M H (bT lo n) (o8 lo n):=by
 delta bT o8
 induction List.range n with
 |nil=>show .nil
 |cons k l ih=>show .cons (.int _) ih
def Hh{e:Expr}{lo hi:Int}(h:Vx X z e g lo hi g1)(hc:X.calm=true)(hg:Gl X "list")(hm:X.mg "list"=none)(hs:starEach [e] X.env=[(false,eval e X.env)])(h1 : -(2 ^ 62)<=lo/\lo<2 ^ 62/\-(2 ^ 62)<=hi/\hi<2 ^ 62)(hl:(hi - lo).toNat<=16777216) :
  aA X z (.Call (.Name "list" lp) [e] [] pos) g (.new (bT lo (hi - lo).toNat)) g1:=by
 apply aA.of λaj s J As M H Post I st k=>?_
 apply Call_ (fT I hg hm (by rfl:bootBuiltins ("list":Str)=!(.type "list")) (sB ?_ hs rfl))
 rw[hs];apply Calls.spliced_cons (h aj s J As M H _ I st λr s1 H1 bu M1 t u v I1 q1 q2 hr=>Calls.spliced_nil ?_)
 have hn:Builtin.Range.rangeSize lo hi 1=(((hi - lo).toNat:Nat):Int):=by rw[rangeSize_one];split <;> lia
 apply call_list_range (I1.ok.hd hc) hr (small_one h1.1 h1.2.1 h1.2.2.1 h1.2.2.2) hn hl λh' tk acc' c' hk hS' hacc=>?_
 have hf:=I1.hok.fresh (d5 _);have s2:=q1.bw (xs:=o8 lo (hi - lo).toNat) hf;have vv:=rH hacc;have I2:=
  I1.laid (t':=tk) hk (d5 _) (show dO X.prog X.w _ h' _ (.lst (o8 lo (hi - lo).toNat))from#[by rw[vv.length,eD,hacc.1];show oE hl,acc'.toList,c',vv,by simpa using hS'])
 show k (.ref s1⁻¹) _ _ _ bu (s1⁻¹::M1) I2 rfl s2 (q2.trans (aq.bw hf)) #[_,_,rfl,dA,λhA=>q1.fresh hf (q1.sub _ hA),q1.cS hf,aF,rJ _ _]
end
abbrev veM:List Value:=[.type "ValueError",.type "Exception",.type "BaseException",.type "object"]
meta abbrev Df(K:Frag)(C:Addr):Prop:=PySem.W.excIn K C veM "ValueError.__new__"=true
open PySem PySem.W PyProof.Rows
structure o9(α:Type) where
 lt:α->α->Bool
 Yw:∀a,lt a a=false
 tr:∀a b c,lt a b=true->lt b c=true->lt a c=true
 tot:∀a b,lt a b=false->lt b a=false->a=b
namespace o9
variable{α:Type}(O:o9 α)
abbrev le(a b:α):Prop:=O.lt b a=false
variable{O}
def le_of_lt(h:O.lt a b=true):O.le a b:=by
 delta le;cases e:O.lt b a
 . rfl
 . have:=O.tr _ _ _ h e;rw[O.Yw]at this;cases this
def RC(h1:O.le a b)(h2:O.le b c):O.le a c:=by
 delta le at *;cases e:O.lt c a with
 |false=>rfl
 |true=>
  exfalso;cases e1:O.lt a b with
  |true=>have:=O.tr _ _ _ e e1;rw[h2]at this;cases this
  |false=>have hab:=O.tot a b e1 h1;subst hab;rw[h2]at e;cases e
def NK(h1:O.le a b)(h2:O.le b a):a=b:=O.tot a b h2 h1
end o9
section
variable{α:Type}
abbrev kAt(key:Nat->α)(p:Array Nat)(i:Nat):α:=key (p.getD i 0)
abbrev Vy(O:o9 α)(key:Nat->α)(p:Array Nat)(n:Nat):Prop:=∀i j,i<=j->j<n->O.le (kAt key p i) (kAt key p j)
abbrev qLt(O:o9 α)(key:Nat->α)(i j:Nat):Bool:=O.lt (key i) (key j)
end
open PySem PySem.W PyProof.Rows
abbrev jX:Bool->Keyed->Array Keyed->Nat->Nat->Nat->StateT SortSt Sem (Option Nat):=sortPriv% PySem.Builtin.gallop
section
variable{prog:Program}{w:World}{A:Around}{E:Value->Shared->Prop}{s:Shared}
variable{pr:Nat->Keyed}{lt:Nat->Nat->Bool}{N:Nat}{κ:SortKind}
abbrev jY(prog:Program)(w:World)(A:Around)(E:Value->Shared->Prop)(s:Shared)(pr:Nat->Keyed)(lt:Nat->Nat->Bool)(N:Nat)(κ:SortKind):Prop:=
 ∀i j,i<N->j<N->∀{st:SortSt}{Q:Option Bool->SortSt->Prop},kindOf st=κ->Q (!(lt i j)) st->wpS (model prog w) A E s (lt' (pr i) (pr j)) Q st
def aQ{q:Array Nat}{i:Nat}{st:SortSt}{Q:Keyed->SortSt->Prop}(hi:i<q.size)(h:Q (pr (q.getD i 0)) st):wpS (model prog w) A E s (elem' (q.map pr) i) Q st:=by
 have e:(q.map pr)[i]?=!(pr (q.getD i 0)):=by simp[hi]
 rw[elem'_eq,e];show i6 h
section
variable{α:Type}{x y:StateT SortSt Sem α}{Q:α->SortSt->Prop}{st:SortSt}
def aM{c:Prop} [Decidable c] (h1:c->wpS (model prog w) A E s x Q st) (h2 : ¬ c->wpS (model prog w) A E s y Q st):wpS (model prog w) A E s (if c then x else y) Q st:=by
 split
 . ext h;show h1 h
 . ext h;show h2 h
abbrev Post{β:Type}(I Q:β->SortSt->Prop):ForInStep β->SortSt->Prop
 |.done c,st=>Q c st
 |.yield c,st=>I c st
def aX{β:Type}{a b:Nat}{f:Nat->β->StateT SortSt Sem (ForInStep β)}{g:β->StateT SortSt Sem α}(I:Nat->β->SortSt->Prop)(Q':β->SortSt->Prop){c:β}
  (step:∀F,F=f->∀k c st,a<=k->k<b->I k c st->wpS (model prog w) A E s (F k c) (Post (I (k+1)) Q') st)
  (last:∀c st,I (max a b) c st->Q' c st) (first:I a c st) (next:∀G,G=g->∀c st,Q' c st->wpS (model prog w) A E s (G c) Q st):wpS (model prog w) A E s (forIn [a:b] c f >>= g) Q st:=
 hV (wpS_mono (wpS_forRange I (λk c st h1 h2 h=>wpS_mono (step f rfl k c st h1 h2 h) λr st' h=>by cases r <;> show h) last first) (next g rfl))
def gS(C:(StateT SortSt Sem α->Prop)->Prop)(h1:C (λm=>wpS (model prog w) A E s m Q st)->wpS (model prog w) A E s x Q st)(h2:C λm=>wpS (model prog w) A E s m Q st):wpS (model prog w) A E s x Q st:=h1 h2
def NP{β:Type}{c:Prop} [Decidable c] {x y:StateT SortSt Sem β}{K:β->StateT SortSt Sem α} (P:SortSt->β->SortSt->Prop) (h1:c->wpS (model prog w) A E s x (P st) st) (h2 : ¬ c->wpS (model prog w) A E s y (P st) st)
  (h3:∀r st',P st r st'->wpS (model prog w) A E s (K r) Q st'):wpS (model prog w) A E s (if c then x >>= K else y >>= K) Q st:=
 aM (λh=>hV (wpS_mono (h1 h) h3)) λh=>hV (wpS_mono (h2 h) h3)
def jZ(C:(StateT SortSt Sem α->SortSt->Prop)->Prop)(h1:C (λm st=>wpS (model prog w) A E s m Q st)->wpS (model prog w) A E s x Q st)(h2:C λm st=>wpS (model prog w) A E s m Q st):wpS (model prog w) A E s x Q st:=h1 h2
def fV{b:Bool}(h1:b=true->wpS (model prog w) A E s x Q st)(h2:b=false->wpS (model prog w) A E s y Q st):wpS (model prog w) A E s (if b=true then x else y) Q st:=
 aM h1 λh=>h2 (by simpa using h)
def bL{n m k:Nat}(e:m=k)(h1:n=k->wpS (model prog w) A E s x Q st)(h2:n≠k->wpS (model prog w) A E s y Q st):wpS (model prog w) A E s (if (n==m)=true then x else y) Q st:=
 aM (λh=>h1 (e▸CA.mp h)) λh=>h2 λz=>h (CA.mpr (e▸z))
end
def in_of{q:Array Nat}(hq:∀i∈q,i<N){i:Nat}(hi:i<q.size):q.getD i 0<N:=by
 have:q.getD i 0=q[i]:=by simp[hi]
 rw[this];show hq _ (Array.getElem_mem hi)
abbrev far(lt:Nat->Nat->Bool)(left:Bool)(k x:Nat):Bool:=if left=true then lt x k else (not (lt k x))
section
variable{i l o h n m lo hi x:Nat}
def ga1(a:h+1<=o) : ¬ i<h+1 - min o (h+1):=by rw[Nat.min_eq_right a,Cf];show oD _
def ga2(a:l<o)(b:h+l<n):h+l+1<=h+min o (n - h)/\h+min o (n - h)<=n:=by lia
def ga3(a:l<o)(b:l<=h)(c:h<n):h+1 - min o (h+1)<=h - l/\h - l<=n:=
 #[by have:=Nat.sub_le_sub_left (Nat.le_min.mpr #[a,Nat.succ_le_succ b]) (h+1);rwa [Nat.add_sub_add_right]at this,kS (CC _ _) (AY c)]
def ga4(a:o<=h)(b:i<h+1 - min o (h+1)):i<=h - o:=by rw[AS (Nat.le_succ_of_le a)]at b;lia
def ga5(a:h+o<n)(b:h+min o (n - h)<=i):h+o<=i:=by rw[AS ⋯]at b;show b
def ga6(a:n - h<=o)(b:h+min o (n - h)<=i) : ¬ i<n:=by rw[Nat.min_eq_right a]at b;lia
def ga7(a : ¬ o ≥ n - h):h+o<n:=by lia
def ga8(a : ¬ lo ≥ hi):lo<=lo+(hi - lo) / 2/\lo+(hi - lo) / 2<hi:=by lia
def ga9(a:hi - lo+x<=n)(b:lo<=m/\m<hi):hi - (m+1)+(x+1)<=n/\m - lo+(x+1)<=n:=by lia
def NQ(a:x<o):x+1<2 * o+1/\o<2 * o+1:=by lia
end
def jd(hc:jY prog w A E s pr lt N κ){left:Bool}{k:Nat}{q:Array Nat}{base n hint:Nat}{st:SortSt}{Q:Option Nat->SortSt->Prop}(hk:kindOf st=κ)(hq:∀i∈q,i<N)(hkN:k<N)(hb:base+n<=q.size)(hh:hint<n)
  (mono:∀i j,i<=j->j<n->far lt left k (q.getD (base+j) 0)=true->far lt left k (q.getD (base+i) 0)=true)
  (h:∀m,m<=n->(∀i,i<m->far lt left k (q.getD (base+i) 0)=true)->(∀i,m<=i->i<n->far lt left k (q.getD (base+i) 0)=false)->Q (!m) st):wpS (model prog w) A E s (jX left (pr k) (q.map pr) base n hint) Q st:=by
 generalize hP:(λi=>far lt left k (q.getD (base+i) 0))=P at *
 have hP':∀i,far lt left k (q.getD (base+i) 0)=P i:=λi=>congrFun hP i
 simp only[hP']at mono h;have bey:∀i,i<n->∀{Q:Option Bool->SortSt->Prop},Q (!(P i)) st->wpS (model prog w) A E s (elem' (q.map pr) (base+i) >>= λx=>if left=true then lt' x (pr k)else lt' (pr k) x >>= λr=>pure (r.map λx=>(not x))) Q st:=λi hi {Q} hQ=>by
  apply hV (aQ ⋯ ?_);rw[<- hP']at hQ;have hx:=in_of hq (show base+i<q.size by lia)
  cases left with
  |true=>show hc _ _ hx hkN hk hQ
  |false=>show hV (hc _ _ hkN hx hk (i6 hQ))
 have off:∀j,j<n->P j=false->∀i,j<=i->i<n->P i=false:=λj hj e i h1 h2=>by
  cases e2:P i with
  |false=>rfl
  |true=>rw[mono j i h1 h2 e2]at e;cases e
 apply hV (bey hint hh ?_);dsimp -zeta only
 extract_lets +onlyGivenNames jp
 apply gS (λR=>∀u x y lo hi,(∀i,i<lo->P i=true)->(∀i,hi<=i->i<n->P i=false)->lo<=hi/\hi<=n->R (jp u x y lo hi)) (λjs=>?_) λu x y lo hi h1 h2 h3=>?_
 .
  apply fV (λhr=>?_) λhr=>?_
  .
   apply aX (λx c st'=>st=st'/\∃l o,c=(none,l,o)/\x<o/\l<o/\hint+l<n/\P (hint+l)=true)
    (λc st'=>st=st'/\∃l o,c=(none,l,o)/\l<o/\hint+l<n/\P (hint+l)=true/\(n - hint<=o\/(hint+o<n/\P (hint+o)=false))) ?_ ?_ #[rfl,0,1,rfl,Nat.one_pos,Nat.one_pos,hh,hr] ?_
   .
    rintro F hF x c st' _ hx ⟨rfl,l,o,rfl,h1,h2,h3,h4⟩;subst hF;apply aM (λho=>i6 #[rfl,l,o,rfl,h2,h3,h4,.inl ho]) λho=>?_
    have ho:=ga7 ho;show hV (bey (hint+o) ho (aM (λe=>i6 #[rfl,l,o,rfl,h2,h3,h4,.inr #[ho,by simpa using e]]) λe=>i6 #[rfl,o,2 * o+1,rfl,(NQ h1).1,(NQ h1).2,ho,by simpa using e]))
   . rintro c st' ⟨rfl,l,o,rfl,h1,h2,h3,h4⟩;show#[rfl,l,o,rfl,h2,h3,h4,.inl ⋯]
   rintro G hG c st' ⟨rfl,l,o,rfl,h2,h3,h4,h5⟩;subst hG;apply js () l o _ _ (λi hi=>mono i (hint+l) (Ap hi) h3 h4) (λi h6 h7=>?_) (ga2 h2 h3)
   rcases h5 with h5 |⟨h5,h8⟩
   . show absurd h7 (ga6 h5 h6)
   . show off _ h5 h8 i (ga5 h5 h6) h7
  .
   apply aX (λx c st'=>st=st'/\∃l o,c=(none,l,o)/\x<o/\l<o/\l<=hint/\P (hint - l)=false)
    (λc st'=>st=st'/\∃l o,c=(none,l,o)/\l<o/\l<=hint/\P (hint - l)=false/\(hint+1<=o\/(o<=hint/\P (hint - o)=true))) ?_ ?_ #[rfl,0,1,rfl,Nat.one_pos,Nat.one_pos,oP _,hr] ?_
   .
    rintro F hF x c st' _ hx ⟨rfl,l,o,rfl,h1,h2,h3,h4⟩;subst hF;apply aM (λho=>i6 #[rfl,l,o,rfl,h2,h3,h4,.inl ho]) λho=>?_
    have ho:o<=hint:=Ap (Nat.not_le.mp ho);show hV (bey (hint - o) (yY (CC _ _) hh) (aM (λe=>i6 #[rfl,l,o,rfl,h2,h3,h4,.inr #[ho,e]]) λe=>i6 #[rfl,o,2 * o+1,rfl,(NQ h1).1,(NQ h1).2,ho,by simpa using e]))
   . rintro c st' ⟨rfl,l,o,rfl,h1,h2,h3,h4⟩;show#[rfl,l,o,rfl,h2,h3,h4,.inl ⋯]
   rintro G hG c st' ⟨rfl,l,o,rfl,h2,h3,h4,h5⟩;subst hG;apply js () l o _ _ (λi hi=>?_) (λi h6 h7=>off (hint - l) (yY (CC _ _) hh) h4 i h6 h7) (ga3 h2 h3 hh)
   rcases h5 with h5 |⟨h5,h7⟩
   . show absurd hi (ga1 h5)
   . show mono i (hint - o) (ga4 h5 hi) (yY (CC _ _) hh) h7
 .
  apply aX (λx c st'=>st=st'/\∃lo hi,c=(none,lo,hi)/\hi - lo+x<=n/\(∀i,i<lo->P i=true)/\(∀i,hi<=i->i<n->P i=false)/\lo<=hi/\hi<=n)
   (λc st'=>st=st'/\∃lo,c=(none,lo,lo)/\(∀i,i<lo->P i=true)/\(∀i,lo<=i->i<n->P i=false)/\lo<=n) ?_ ?_ #[rfl,lo,hi,rfl,by lia,h1,h2,h3] ?_
  .
   rintro F hF x c st' _ hx ⟨rfl,lo,hi,rfl,h0,h1,h2,h3⟩;subst hF;apply aM (λhl=>?_) λhl=>?_
   . obtain rfl:lo=hi:=EA h3.1 hl;show i6 #[rfl,lo,rfl,h1,h2,h3.2]
   .
    have hm:=ga8 hl;generalize lo+(hi - lo) / 2=m at hm ⊢
    have hmn:=fN hm.2 h3.2;show hV (bey m hmn (fV (λe=>i6 #[rfl,_,hi,rfl,(ga9 h0 hm).1,λi h4=>mono i _ (Ap h4) hmn e,h2,hm.2,h3.2]) λe=>i6 #[rfl,lo,_,rfl,(ga9 h0 hm).2,h1,λi h4 h5=>off _ hmn e i h4 h5,hm.1,AY hmn]))
  .
   rintro c st' ⟨rfl,lo,hi,rfl,h0,h1,h2,h3⟩;obtain rfl:lo=hi:=by lia
   show#[rfl,lo,rfl,h1,h2,h3.2]
  . rintro G hG c st' ⟨rfl,lo,rfl,h1,h2,h3⟩;subst hG;show i6 (h lo h3 h1 h2)
end
open PySem PySem.W PyProof.Rows
section
variable{R:Nat->Nat->Prop}{A B o:List Nat}{i j k:Nat}
structure Mg(R:Nat->Nat->Prop)(A B o:List Nat)(i j:Nat):Prop where
 pw:o.Pairwise R
 ah:∀x∈o,∀y∈A.drop i++B.drop j,R x y
 pm:o.Perm (A.take i++B.take j)
def Mg.swap(h:Mg R A B o i j):Mg R B A o j i:=#[h.pw,λx hx y hy=>h.ah x hx y (l9.mpr (l9.mp hy).symm),h.pm.trans A4]
def Hi(A:List Nat)(i k:Nat):(A.drop i).take k++A.drop (i+k)=A.drop i:=by rw[<- List.drop_drop,kA]
def Mg.left(h:Mg R A B o i j)(hA:A.Pairwise R)(hk:∀x∈(A.drop i).take k,∀y∈B.drop j,R x y):Mg R A B (o++(A.drop i).take k) (i+k) j:=by
 have e:=Hi A i k;have hd:((A.drop i).take k++A.drop (i+k)).Pairwise R:=by rw[e];show hA.drop
 let(d1,d2,d3):=l8.mp hd;apply#[l8.mpr #[h.pw,d1,λx hx y hy=>h.ah x hx y (l7 _ (D3 hy))],λx hx y hy=>?_,?_]
 .
  rcases l9.mp hx with hx |hx <;> rcases l9.mp hy with hy |hy
  . show h.ah x hx y (l7 _ (by rw[<- e];show gL _ hy))
  . show h.ah x hx y (gL _ hy)
  . show d3 x hx y hy
  . show hk x hx y hy
 . have t:A.take (i+k)=A.take i++(A.drop i).take k:=List.take_add;rw[t,fI];apply (h.pm.append_right _).trans ?_;rw[fI];show DJ _ A4
def take_one{A:Array Nat}{i:Nat}(hi:i<A.size):(A.toList.drop i).take 1=[A.getD i 0]:=by
 have hi':i<A.toList.length:=by simpa using hi
 rw[wP hi'];simp[hi]
end
section
variable{R:Nat->Nat->Prop}{A B o:Array Nat}{i j k x:Nat}
meta abbrev pB(R:Nat->Nat->Prop)(A B o:Array Nat)(i j:Nat):Prop:=Mg R A.toList B.toList o.toList i j
def z8{P:Nat->Prop}(h:∀t,i<=t->t<A.size->P (A.getD t 0)):∀y∈A.toList.drop i,P y:=λy hy=>by
 let(t,ht,rfl):=mI hy;rw[BY]at ht;have:=h (i+t) ⋯ (by rw[eD]at ht;lia)
 simpa [Array.getD,show i+t<A.size by rw[eD]at ht;lia]using this
def vA(A:Array Nat)(i k:Nat):(A.extract i (i+k)).toList=(A.toList.drop i).take k:=by rw[Array.toList_extract];exact (A.toList.drop i).take (i+k - i)=_;rw[lS]
def pB.push(h:pB R A B o i j)(hA:A.toList.Pairwise R)(hi:i<A.size)(hk:∀u,j<=u->u<B.size->R (A.getD i 0) (B.getD u 0)):pB R A B (o.push (A.getD i 0)) (i+1) j:=by
 have:=Mg.left h hA (by rw[take_one hi];show λx hx=>by rw[eP.mp hx];show z8 hk)
 rw[take_one hi,<- Do]at this;show this
def pB.ext(h:pB R A B o i j)(hA:A.toList.Pairwise R)(k:Nat)(hk:∀t u,t<k->i+t<A.size->j<=u->u<B.size->R (A.getD (i+t) 0) (B.getD u 0)):pB R A B (o++A.extract i (i+k)) (i+k) j:=by
 have:=Mg.left (k:=k) h hA λx hx=>z8 λu h1 h2=>by
  let(t,ht,rfl):=mI hx;rw[i8,BY,eD]at ht;have:=hk t u ⋯ ⋯ h1 h2;simpa [Array.getD,show i+t<A.size by lia]using this
 rw[<- vA,<- Array.toList_append]at this;show this
def pB.fin(h:pB R A B o i j)(hA:A.toList.Pairwise R)(hB:B.toList.Pairwise R)(hk:∀t u,i<=t->t<A.size->j<=u->u<B.size->R (A.getD t 0) (B.getD u 0)) :
  (o++A.extract i++B.extract j).toList.Pairwise R/\(o++A.extract i++B.extract j).toList.Perm (A.toList++B.toList):=by
 have e:∀(A:Array Nat) (i:Nat),A.extract i (i+(A.size - i))=A.extract i:=λA i=>by
  rcases Nat.le_total i A.size with q |q
  . rw[Nat.add_sub_cancel' q]
  . rw[A5 q];refine EF;simp[q]
 have h1:=h.ext hA (A.size - i) λt u h1 h2 h3 h4=>hk (i+t) u ⋯ h2 h3 h4
 have h2:=pB.ext h1.swap hB (B.size - j) λt u _ _ h3 h4=>by lia
 rw[e,e]at h2;show#[h2.pw,by have:=h2.swap.pm;rwa [oI (by rw[eD];lia),oI (by rw[eD];lia)]at this]
def pw_at(hr:∀x,R x x)(hA:A.toList.Pairwise R){t u:Nat}(h:t<=u)(hu:u<A.size):R (A.getD t 0) (A.getD u 0):=by
 rcases u4 t u with q |q
 .
  have:=AD.mp hA t u (by rw[eD];lia) (by rw[eD];show hu) q
  simpa [Array.getD,hu,show t<A.size by lia]using this
 . rw[EA h q];show hr _
end
meta abbrev Le(lt:Nat->Nat->Bool)(x y:Nat):Prop:=lt y x=false
def Hj{i k t:Nat}(h:i+k<=t):k<=t - i:=by lia
def z9{i k t:Nat}(h:i+k<=t):i+(t - i)=t:=by lia
section
variable{prog:Program}{w:World}{A:Around}{E:Value->Shared->Prop}{s:Shared}
variable{pr:Nat->Keyed}{lt:Nat->Nat->Bool}{N:Nat}{κ:SortKind}{k:Nat}{q:Array Nat}{base n hint:Nat}{st:SortSt}{Q:Option Nat->SortSt->Prop}
def Aa(hc:jY prog w A E s pr lt N κ)(hr:∀x,lt x x=false)(ht:∀x y z,Le lt x y->Le lt y z->Le lt x z)(hk:kindOf st=κ)(hq:∀i∈q,i<N)(sq:q.toList.Pairwise (Le lt))(hkN:k<N)(hb:base+n<=q.size)(hh:hint<n)
  (h:∀m,m<=n->(∀t,t<m->Le lt (q.getD (base+t) 0) k)->(∀t,base+m<=t->t<base+n->lt k (q.getD t 0)=true)->Q (!m) st):wpS (model prog w) A E s (jX false (pr k) (q.map pr) base n hint) Q st:=by
 have e:∀x,far lt false k x=(not (lt k x)):=λ_=>rfl
 apply jd hc hk hq hkN hb hh (λx y h1 h2 h3=>?_) λm h1 h2 h3=>h m h1 (λt z=>?_) λt z1 z2=>?_
 .
  rw[e,AO]at h3 ⊢
  show ht _ _ _ (pw_at hr sq ⋯ ⋯) h3
 . have:=h2 t z;rw[e,AO]at this;show this
 . have:=h3 (t - base) (Hj z1) ⋯;rw[e,z9 z1]at this;simpa using this
def Ad(hc:jY prog w A E s pr lt N κ)(hr:∀x,lt x x=false)(ht:∀x y z,Le lt x y->Le lt y z->Le lt x z)(hk:kindOf st=κ)(hq:∀i∈q,i<N)(sq:q.toList.Pairwise (Le lt))(hkN:k<N)(hb:base+n<=q.size)(hh:hint<n)
  (h:∀m,m<=n->(∀t,t<m->lt (q.getD (base+t) 0) k=true)->(∀t,base+m<=t->t<base+n->Le lt k (q.getD t 0))->Q (!m) st):wpS (model prog w) A E s (jX true (pr k) (q.map pr) base n hint) Q st:=by
 have e:∀x,far lt true k x=lt x k:=λ_=>rfl
 apply jd hc hk hq hkN hb hh (λx y h1 h2 h3=>?_) λm h1 h2 h3=>h m h1 (λt z=>e _▸h2 t z) λt z1 z2=>?_
 .
  rw[e]at h3 ⊢
  cases e2:lt (q.getD (base+x) 0) k with
  |true=>rfl
  |false=>have:=ht _ _ _ e2 (pw_at hr sq (show base+x<=base+y by lia) ⋯);rw[Le,h3]at this;cases this
 . have:=h3 (t - base) (Hj z1) ⋯;rw[e,z9 z1]at this;show this
def Hl{a:Array Keyed}(ea:a=q.map pr)(hc:jY prog w A E s pr lt N κ)(hr:∀x,lt x x=false)(ht:∀x y z,Le lt x y->Le lt y z->Le lt x z)(hk:kindOf st=κ)(hq:∀i∈q,i<N)(sq:q.toList.Pairwise (Le lt))(hkN:k<N)(hb:base<q.size)
  (h:∀m,base+m<=q.size->(∀t,t<m->Le lt (q.getD (base+t) 0) k)->(∀t,base+m<=t->t<q.size->lt k (q.getD t 0)=true)->Q (!m) st):wpS (model prog w) A E s (jX false (pr k) a base (a.size - base) 0) Q st:=by
 subst ea;rw[B5];show Aa hc hr ht hk hq sq hkN ⋯ ⋯ λm h1 h2 h3=>h m ⋯ h2 λt z1 z2=>h3 t z1 ⋯
def Ho{a:Array Keyed}(ea:a=q.map pr)(hc:jY prog w A E s pr lt N κ)(hr:∀x,lt x x=false)(ht:∀x y z,Le lt x y->Le lt y z->Le lt x z)(hk:kindOf st=κ)(hq:∀i∈q,i<N)(sq:q.toList.Pairwise (Le lt))(hkN:k<N)(hb:base<q.size)
  (h:∀m,base+m<=q.size->(∀t,t<m->lt (q.getD (base+t) 0) k=true)->(∀t,base+m<=t->t<q.size->Le lt k (q.getD t 0))->Q (!m) st):wpS (model prog w) A E s (jX true (pr k) a base (a.size - base) 0) Q st:=by
 subst ea;rw[B5];show Ad hc hr ht hk hq sq hkN ⋯ ⋯ λm h1 h2 h3=>h m ⋯ h2 λt z1 z2=>h3 t z1 ⋯
end
open PySem PySem.W PyProof.Rows
abbrev Hq:Array Keyed->Array Keyed->StateT SortSt Sem (Array Keyed):=sortPriv% PySem.Builtin.mergeLo
abbrev Dg(st st':SortSt):Prop:=kindOf st'=kindOf st/\arrOf st'=arrOf st/\pendingOf st'=pendingOf st/\failedOf st'=failedOf st
section
variable{prog:Program}{w:World}{A:Around}{E:Value->Shared->Prop}{s:Shared}
variable{pr:Nat->Keyed}{lt:Nat->Nat->Bool}{N:Nat}{κ:SortKind}
def Hr{i k t:Nat}(h : ¬ k > 0)(h2:i<=t):i+k<=t:=by lia
def yz(hc:jY prog w A E s pr lt N κ)(hr:∀x,lt x x=false)(ht:∀x y z,Le lt x y->Le lt y z->Le lt x z)(hl:∀x y,lt x y=true->Le lt x y){a b:Array Nat}{st:SortSt}{Q:Array Keyed->SortSt->Prop}(hk:kindOf st=κ)
  (ha:∀i∈a,i<N) (hb:∀i∈b,i<N) (sa:a.toList.Pairwise (Le lt)) (sb:b.toList.Pairwise (Le lt)) (na:1<=a.size) (nb:1<=b.size) (h0:lt (b.getD 0 0) (a.getD 0 0)=true) (hz:∀u,u<b.size->Le lt (b.getD u 0) (a.getD (a.size - 1) 0))
  (h:∀(o:Array Nat) st',Dg st st'->o.toList.Pairwise (Le lt)->o.toList.Perm (a.toList++b.toList)->Q (o.map pr) st'):wpS (model prog w) A E s (Hq (a.map pr) (b.map pr)) Q st:=by
 apply hV (wpS_lift (y8 #[rfl,?_]));apply hV (aQ nb ?_)
 extract_lets out z0 z1
 let Fin:=λ(r:Array Keyed) (st':SortSt)=>∃o:Array Nat,r=o.map pr/\Dg st st'/\o.toList.Pairwise (Le lt)/\o.toList.Perm (a.toList++b.toList)
 let Inv:=λ(out:Array Keyed) (i j:Nat) (st':SortSt)=>∃o:Array Nat,out=o.map pr/\Dg st st'/\pB (Le lt) a b o i j/\i+1<a.size/\j<b.size
 have dn:∀{out:Array Keyed}{o:Array Nat}{i j:Nat}{st':SortSt},out=o.map pr->Dg st st'->pB (Le lt) a b o i j->i=a.size\/j=b.size->Fin (out++(a.map pr).extract i++(b.map pr).extract j) st':=λ{out o i j st'} e g m q=>by
  let(h1,h2):=m.fin sa sb λt u _ _ _ _=>by lia
  show#[_,by simp[e],g,h1,h2]
 have la:∀{out:Array Keyed}{o:Array Nat}{i j:Nat}{st':SortSt},out=o.map pr->Dg st st'->pB (Le lt) a b o i j->i+1=a.size->Fin (out++(b.map pr).extract j++(a.map pr).extract i) st':=λ{out o i j st'} e g m q=>by
  let(h1,h2):=pB.fin m.swap sb sa λu t h1 h2 h3 h4=>by
   obtain rfl:t=a.size - 1:=by lia
   show hz u h2
  show#[_,by simp[e],g,h1,h2.trans A4]
 have Li:(a.map pr).size=a.size:=B5;have Vz:(b.map pr).size=b.size:=B5;have g0:Dg st st:=#[rfl,rfl,rfl,rfl];have m0:pB (Le lt) a b ([b.getD 0 0].toArray) 0 1:=by
  have e:pB (Le lt) b a ([].toArray) 0 0:=#[List.Pairwise.nil,λx hx=>(nomatch hx),mE _]
  show (pB.push e sb nb λu _ hu=>ht _ _ _ (hl _ _ h0) (pw_at hr sa (oP u) hu)).swap
 have o0:out=(([b.getD 0 0].toArray):Array Nat).map pr:=by simp[out]
 have fin:∀r st',Fin r st'->Q r st':=λr st' #[o,e,g,h1,h2]=>by rw[e];show h o st' g h1 h2
 clear_value out
 subst o0;apply bL Vz (λb1=>i6 (fin _ _ (dn rfl g0 m0 (.inr b1)))) λb1=>?_
 apply bL Li (λa1=>i6 (fin _ _ (la rfl g0 m0 a1))) λa1=>?_
 apply hV (wpS_get ?_)
 extract_lets mg
 let I0:=λx (c:Option (Array Keyed)×Array Keyed×Nat×Nat×Nat) st'=>∃out i j g,c=(none,out,i,j,g)/\Inv out i j st'/\1+x<=i+j
 let Q0:=λ(c:Option (Array Keyed)×Array Keyed×Nat×Nat×Nat) st'=>∃r,c.1=!r/\Fin r st'
 apply aX I0 Q0 ?_ ?_ #[_,0,1,mg,rfl,#[_,rfl,g0,m0,by lia,by lia],by lia] ?_
 .
  rintro F hF x c st' _ hx ⟨out,i,j,g,rfl,inv,pr0⟩;subst hF
  let I1:=λx (c:Option (Array Keyed)×Array Keyed×Nat×Nat×Nat×Nat) st'=>∃out i' j' p q,c=(none,out,i',j',p,q)/\Inv out i' j' st'/\i+j+x<=i'+j'
  let Q1:=λ(c:Option (Array Keyed)×Array Keyed×Nat×Nat×Nat×Nat) st'=>(∃r,c.1=!r/\Fin r st')\/I1 1 c st'
  apply aX I1 Q1 ?_ ?_ #[out,i,j,0,0,rfl,inv,by lia] ?_
  .
   rintro F hF x c st' _ hx ⟨out,i',j',p,q,rfl,⟨o,rfl,sg,m,hi,hj⟩,pg⟩;subst hF;apply hV (aQ hj (hV (aQ ⋯ ?_)));apply hV (hc _ _ (in_of hb hj) (in_of ha ⋯) (sg.1.trans hk) ?_);apply fV (λe=>?_) λe=>?_
   .
    have m':=(pB.push m.swap sb hj λu h1 h2=>ht _ _ _ (hl _ _ e) (pw_at hr sa h1 h2)).swap
    apply hV (aQ hj ?_);apply bL Vz (λhe=>i6 (.inl #[_,rfl,dn qS.symm sg m' (.inr he)])) λhe=>?_
    have inv:Inv ((o.map pr).push (pr (b.getD j' 0))) i' (j'+1) st'/\i+j+(x+1)<=i'+(j'+1):=#[#[_,qS.symm,sg,m',hi,by lia],by lia]
    show aM (λ_=>i6 (.inr #[_,_,_,_,_,rfl,inv.1,by lia])) λ_=>i6 #[_,_,_,_,_,rfl,inv]
   .
    have m':=pB.push m sa ⋯ λu h1 h2=>ht _ _ _ e (pw_at hr sb h1 h2)
    apply hV (aQ ⋯ ?_);apply bL Li (λhe=>i6 (.inl #[_,rfl,la qS.symm sg m' he])) λhe=>?_
    have inv:Inv ((o.map pr).push (pr (a.getD i' 0))) (i'+1) j' st'/\i+j+(x+1)<=i'+1+j':=#[#[_,qS.symm,sg,m',by lia,hj],by lia]
    show aM (λ_=>i6 (.inr #[_,_,_,_,_,rfl,inv.1,by lia])) λ_=>i6 #[_,_,_,_,_,rfl,inv]
  . rintro c st' ⟨out,i',j',p,q,rfl,inv,pg⟩;rw[Li]at pg;show .inr #[_,_,_,_,_,rfl,inv,by lia]
  .
   rintro G hG ⟨r0,c⟩ st' (⟨r,e,f⟩ |⟨out,i',j',p,q,e,inv,pg⟩)
   . obtain rfl:r0=!r:=e;subst hG;show i6 #[r,rfl,f]
   .
    cases e;subst hG;apply hV (wpS_lift (y8 #[rfl,?_]))
    let I2:=λ(c:Option (Array Keyed)×Array Keyed×Nat×Nat×Nat×Nat×Nat) st'=>∃out i' j' g p q,c=(none,out,i',j',g,p,q)/\Inv out i' j' st'/\i+j+1<=i'+j'
    let Q2:=λ(c:Option (Array Keyed)×Array Keyed×Nat×Nat×Nat×Nat×Nat) st'=>(∃r,c.1=!r/\Fin r st')\/I2 c st'
    apply aX (λ_=>I2) Q2 ?_ ?_ #[out,i',j',_,p,q,rfl,inv,pg] ?_
    .
     rintro F hF x c st' _ hx ⟨out,i',j',g,p,q,rfl,⟨o,rfl,sg,m,hi,hj⟩,pg⟩;subst hF;dsimp -zeta only
     extract_lets +onlyGivenNames n1 n2 n3 n4 n5 n6 n7 n8 n9 n10 n11 n12 jp
     apply gS (λR=>∀u v,R (jp u v)) ?_ ?_
     . show λjs=>aM (λ_=>js () _) λ_=>js () _
     intro u v;apply hV (CO (hV (aQ hj ?_)));apply hV (Hl rfl hc hr ht (sg.1.trans hk) ha sa (in_of hb hj) (Nat.lt_of_succ_lt hi) λk1 h1 A1 A2=>?_)
     dsimp -zeta only
     extract_lets +onlyGivenNames ac VB
     apply gS (λR=>∀u Ht i2,(∃o2:Array Nat,Ht=o2.map pr/\pB (Le lt) a b o2 i2 j')->i2+1<a.size->i'<=i2->(∀t,i2<=t->t<a.size->lt (b.getD j' 0) (a.getD t 0)=true)->R (VB u Ht i2)) ?_ ?_
     .
      intro js;have e1:(o++a.extract i' (i'+k1)).map pr=o.map pr++(a.map pr).extract i' (i'+k1):=by rw[DU,Dx]
      apply aM (λhk0=>?_) λhk0=>js () _ i' #[o,rfl,m] hi (d5 _) λt q1 q2=>A2 t (Hr hk0 q1) q2
      have m1:=m.ext sa k1 λt u q1 _ q3 q4=>ht _ _ _ (A1 t q1) (pw_at hr sb q3 q4)
      apply bL Li (λl1=>i6 (.inl #[_,rfl,la e1.symm sg m1 l1])) λl1=>?_
      apply bL Li (λl2=>i6 (.inl #[_,rfl,dn e1.symm sg m1 (.inl l2)])) λl2=>?_
      show js () _ _ #[_,e1.symm,m1] (C0 (C0 h1 l2) l1) (BU _ _) A2
     rintro u _ i2 ⟨o2,rfl,m2⟩ hi2 hle A3;have m3:=(pB.push m2.swap sb hj λt q1 q2=>hl _ _ (A3 t q1 q2)).swap
     apply hV (aQ hj ?_)
     extract_lets +onlyGivenNames o3
     apply bL Vz (λl3=>i6 (.inl #[_,rfl,dn qS.symm sg m3 (.inr l3)])) λl3=>?_
     have Fv:=Nat.lt_of_succ_lt hi2;apply hV (aQ Fv ?_);have hj3:j'+1<b.size:=C0 hj l3;apply hV (Ho rfl hc hr ht (sg.1.trans hk) hb sb (in_of ha Fv) hj3 λk2 q1 B1 B2=>?_)
     dsimp -zeta only
     extract_lets +onlyGivenNames bc n13 jp3
     apply gS (λR=>∀u Hu j4,(∃o4:Array Nat,Hu=o4.map pr/\pB (Le lt) a b o4 i2 j4)->j4<b.size->j'+1<=j4->(∀t,j4<=t->t<b.size->Le lt (a.getD i2 0) (b.getD t 0))->R (jp3 u Hu j4)) ?_ ?_
     .
      intro js;have e4:(o2.push (b.getD j' 0)++b.extract (j'+1) (j'+1+k2)).map pr=(o2.map pr).push (pr (b.getD j' 0))++(b.map pr).extract (j'+1) (j'+1+k2):=by rw[DU,Dx,qS]
      apply aM (λhk0=>?_) λhk0=>js () _ (j'+1) #[_,qS.symm,m3] hj3 (d5 _) λt r1 r2=>B2 t (Hr hk0 r1) r2
      have m4:=(pB.ext m3.swap sb k2 λt u r1 _ r3 r4=>ht _ _ _ (hl _ _ (B1 t r1)) (pw_at hr sa r3 r4)).swap
      apply bL Vz (λl4=>i6 (.inl #[_,rfl,dn e4.symm sg m4 (.inr l4)])) λl4=>?_
      show js () _ _ #[_,e4.symm,m4] (C0 q1 l4) (BU _ _) B2
     rintro u _ j4 ⟨o4,rfl,m4⟩ hj4 aak B3;have m5:=pB.push m4 sa ⋯ B3;apply hV (aQ Fv ?_);apply bL Li (λl5=>i6 (.inl #[_,rfl,la qS.symm sg m5 l5])) λl5=>?_
     have inv:Inv ((o4.map pr).push (pr (a.getD i2 0))) (i2+1) j4 st'/\i+j+1<=i2+1+j4:=#[#[_,qS.symm,sg,m5,by lia,hj4],by lia]
     show aM (λ_=>i6 (.inr #[_,i2+1,j4,_,_,_,rfl,inv])) λ_=>i6 #[_,i2+1,j4,_,_,_,rfl,inv]
    . show λc st' h=>.inr h
    .
     rintro G hG ⟨r0,c⟩ st' (⟨r,e,f⟩ |⟨out,i',j',g,p,q,e,inv,pg⟩)
     . obtain rfl:r0=!r:=e;subst hG;show i6 #[r,rfl,f]
     . cases e;subst hG;let(o,rfl,sg,m,hi,hj):=inv;show hV (CO (i6 #[_,i',j',_,rfl,#[o,rfl,sg,m,hi,hj],by lia]))
 . rintro c st' ⟨out,i,j,g,rfl,⟨o,e,_,_,h1,h2⟩,pr0⟩;rw[Li,Vz]at pr0;lia
 . rintro G hG ⟨_,c⟩ st' ⟨r,rfl,f⟩;subst hG;show i6 (fin r st' f)
end
section
variable{R:Nat->Nat->Prop}{A B L:List Nat}{i j k:Nat}
structure Mh(R:Nat->Nat->Prop)(A B L:List Nat)(i j:Nat):Prop where
 pw:L.Pairwise R
 ah:∀y∈A.take i++B.take j,∀x∈L,R y x
 pm:L.Perm (A.drop i++B.drop j)
def Mh.swap(h:Mh R A B L i j):Mh R B A L j i:=#[h.pw,λy hy=>h.ah y (l9.mpr (l9.mp hy).symm),h.pm.trans A4]
def Mh.left(h:Mh R A B L i j)(hA:A.Pairwise R)(hi:i<=A.length)(hki:k<=i)(hk:∀x∈(A.take i).drop k,∀y∈B.take j,R y x):Mh R A B ((A.take i).drop k++L) k j:=by
 have t:A.take i=A.take k++(A.take i).drop k:=by
  have:=(kA k (A.take i)).symm
  rwa [List.take_take,AS hki]at this
 have hd:(A.take k++(A.take i).drop k).Pairwise R:=by rw[<- t];show hA.take
 let(d1,d2,d3):=l8.mp hd;apply#[l8.mpr #[d2,h.pw,λx hx y hy=>h.ah x (l7 _ (CD hx)) y hy],λy hy x hx=>?_,?_]
 .
  rcases l9.mp hx with hx |hx <;> rcases l9.mp hy with hy |hy
  . show d3 y hy x hx
  . show hk x hx y hy
  . show h.ah y (l7 _ (by rw[t];show l7 _ hy)) x hx
  . show h.ah y (gL _ hy) x hx
 .
  have e:A.drop k=(A.take i).drop k++A.drop i:=by
   have:=List.drop_append_of_le_length (l₁:=A.take i) (l₂:=A.drop i) (i:=k) (by rw[i8];lia)
   rwa [kA]at this
  rw[e,fI];show h.pm.append_left _
end
section
variable{R:Nat->Nat->Prop}{A B o:Array Nat}{i j k x:Nat}
meta abbrev kM(R:Nat->Nat->Prop)(A B o:Array Nat)(i j:Nat):Prop:=Mh R A.toList B.toList o.reverse.toList i j
def NR{P:Nat->Prop}(h:∀t,t<i->t<A.size->P (A.getD t 0)):∀y∈A.toList.take i,P y:=λy hy=>by
 let(t,ht,rfl):=mI hy;rw[i8,eD]at ht;have:=h t ⋯ ⋯;simpa [Array.getD,show t<A.size by lia]using this
def kM.ext(h:kM R A B o i j)(hA:A.toList.Pairwise R)(hi:i<=A.size)(hki:k<=i)(hk:∀t u,k<=t->t<i->u<j->u<B.size->R (B.getD u 0) (A.getD t 0)):kM R A B (o++(A.extract k i).reverse) k j:=by
 have:=Mh.left h hA (by rw[eD];show hi) hki λx hx=>NR λu h1 h2=>by
  let(t,ht,rfl):=mI hx;rw[BY,i8]at ht;have:=hk (k+t) u ⋯ ⋯ h1 h2;simpa [Array.getD,show k+t<A.size by lia]using this
 have e:(o++(A.extract k i).reverse).reverse.toList=(A.toList.take i).drop k++o.reverse.toList:=by simp[List.drop_take]
 delta kM;rw[e];show this
def kM.push(h:kM R A B o (i+1) j)(hA:A.toList.Pairwise R)(hi:i<A.size)(hk:∀u,u<j->u<B.size->R (B.getD u 0) (A.getD i 0)):kM R A B (o.push (A.getD i 0)) i j:=by
 have:=kM.ext h hA hi (BI i) λt u h1 h2 h3 h4=>by
  obtain rfl:t=i:=by lia
  show hk u h3 h4
 have e:o++(A.extract i (i+1)).reverse=o.push (A.getD i 0):=by refine EF;have:=vA A i 1;rw[take_one hi]at this;rw[Array.toList_append,Array.toList_reverse,this,Do];rfl
 rwa [e]at this
def kM.fin(h:kM R A B o i j)(hA:A.toList.Pairwise R)(hB:B.toList.Pairwise R)(hi:i<=A.size)(hj:j<=B.size)(hk:∀t u,t<i->u<j->R (A.getD t 0) (B.getD u 0)) :
  (A.extract 0 i++B.extract 0 j++o.reverse).toList.Pairwise R/\(A.extract 0 i++B.extract 0 j++o.reverse).toList.Perm (A.toList++B.toList):=by
 have h1:=kM.ext h.swap hB hj (oP _) λt u _ h2 h3 _=>hk u t h3 h2
 have h2:=kM.ext h1.swap hA hi (oP _) λt u _ _ h3 _=>by lia
 have e:(o++(B.extract 0 j).reverse++(A.extract 0 i).reverse).reverse=A.extract 0 i++B.extract 0 j++o.reverse:=by simp
 delta kM at h2;rw[e]at h2;show#[h2.pw,h2.pm]
end
open PySem PySem.W PyProof.Rows
abbrev Hv:Array Keyed->Array Keyed->StateT SortSt Sem (Array Keyed):=sortPriv% PySem.Builtin.mergeHi
section
variable{prog:Program}{w:World}{A:Around}{E:Value->Shared->Prop}{s:Shared}
variable{pr:Nat->Keyed}{lt:Nat->Nat->Bool}{N:Nat}{κ:SortKind}
def j3{i:Nat}(h:1<=i):∃y,i=y+1:=#[i - 1,by lia]
def Hw{n k t:Nat}(h : ¬ n - k > 0)(h2:t<n):t<k:=by lia
def VD{k:Nat}(h:k≠1)(h2:k≠0):2<=k:=by lia
def yC(hc:jY prog w A E s pr lt N κ)(hr:∀x,lt x x=false)(ht:∀x y z,Le lt x y->Le lt y z->Le lt x z)(hl:∀x y,lt x y=true->Le lt x y){a b:Array Nat}{st:SortSt}{Q:Array Keyed->SortSt->Prop}(hk:kindOf st=κ)
  (ha:∀i∈a,i<N) (hb:∀i∈b,i<N) (sa:a.toList.Pairwise (Le lt)) (sb:b.toList.Pairwise (Le lt)) (na:1<=a.size) (nb:1<=b.size) (h0:lt (b.getD 0 0) (a.getD 0 0)=true) (hz:∀u,u<b.size->Le lt (b.getD u 0) (a.getD (a.size - 1) 0))
  (h:∀(o:Array Nat) st',Dg st st'->o.toList.Pairwise (Le lt)->o.toList.Perm (a.toList++b.toList)->Q (o.map pr) st'):wpS (model prog w) A E s (Hv (a.map pr) (b.map pr)) Q st:=by
 have Li:(a.map pr).size=a.size:=B5;have Vz:(b.map pr).size=b.size:=B5;apply hV (wpS_lift (y8 #[rfl,?_]));apply hV (aQ (i:=(a.map pr).size - 1) (by rw[Li];lia) ?_)
 extract_lets out z0
 let Fin:=λ(r:Array Keyed) (st':SortSt)=>∃o:Array Nat,r=o.map pr/\Dg st st'/\o.toList.Pairwise (Le lt)/\o.toList.Perm (a.toList++b.toList)
 let Inv:=λ(out:Array Keyed) (i j:Nat) (st':SortSt)=>∃o:Array Nat,out=o.map pr/\Dg st st'/\kM (Le lt) a b o i j/\(1<=i/\i<=a.size)/\(2<=j/\j<=b.size)
 have dn:∀{out:Array Keyed}{o:Array Nat}{i j:Nat}{st':SortSt},out=o.map pr->Dg st st'->kM (Le lt) a b o i j->i<=a.size->j<=b.size->(i=0\/j=0)->Fin ((a.map pr).extract 0 i++(b.map pr).extract 0 j++out.reverse) st':=λ{out o i j st'} e g m q1 q2 q=>by
  let(h1,h2):=m.fin sa sb q1 q2 λt u h1 h2=>by lia
  show#[_,by simp[e],g,h1,h2]
 have la:∀{out:Array Keyed}{o:Array Nat}{i j:Nat}{st':SortSt},j=1->out=o.map pr->Dg st st'->kM (Le lt) a b o i j->i<=a.size->Fin ((b.map pr).extract 0 j++(a.map pr).extract 0 i++out.reverse) st':=λ{out o i j st'} ej e g m q1=>by
  subst ej;let(h1,h2):=kM.fin m.swap sb sa nb q1 λu t h1 h2=>by
   obtain rfl:u=0:=by lia
   show ht _ _ _ (hl _ _ h0) (pw_at hr sa (oP _) ⋯)
  show#[_,by simp[e],g,h1,h2.trans A4]
 have g0:Dg st st:=#[rfl,rfl,rfl,rfl];have m0:kM (Le lt) a b ([a.getD (a.size - 1) 0].toArray) (a.size - 1) b.size:=by
  have e:kM (Le lt) a b ([].toArray) (a.size - 1+1) b.size:=#[List.Pairwise.nil,λy _ x hx=>(nomatch hx),by
   rw[Nat.sub_add_cancel na];rw[B6 (by rw[eD];show d5 _),B6 (by rw[eD];show d5 _)]
   show mE _]
  show kM.push e sa ⋯ λu _ hu=>hz u hu
 have o0:out=(([a.getD (a.size - 1) 0].toArray):Array Nat).map pr:=by simp[out]
 have fin:∀r st',Fin r st'->Q r st':=λr st' #[o,e,g,h1,h2]=>by rw[e];show h o st' g h1 h2
 clear_value out
 subst o0;rw[Li,Vz];apply bL rfl (λa1=>i6 (fin _ _ (dn rfl g0 m0 (CC _ _) (d5 _) (.inl a1)))) λa1=>?_
 apply bL rfl (λb1=>i6 (fin _ _ (la b1 rfl g0 m0 (CC _ _)))) λb1=>?_
 apply hV (wpS_get ?_)
 extract_lets mg
 let I0:=λx (c:Option (Array Keyed)×Nat×Nat×Array Keyed×Nat) st'=>∃i j out g,c=(none,i,j,out,g)/\Inv out i j st'/\i+j+x+1<=a.size+b.size
 let Q0:=λ(c:Option (Array Keyed)×Nat×Nat×Array Keyed×Nat) st'=>∃r,c.1=!r/\Fin r st'
 apply aX I0 Q0 ?_ ?_ #[a.size - 1,b.size,_,mg,rfl,#[_,rfl,g0,m0,by lia,by lia],by lia] ?_
 .
  rintro F hF x c st' _ hx ⟨i,j,out,g,rfl,inv,pr0⟩;subst hF
  let I1:=λx (c:Option (Array Keyed)×Nat×Nat×Array Keyed×Nat×Nat) st'=>∃i' j' out p q,c=(none,i',j',out,p,q)/\Inv out i' j' st'/\i'+j'+x<=i+j
  let Q1:=λ(c:Option (Array Keyed)×Nat×Nat×Array Keyed×Nat×Nat) st'=>(∃r,c.1=!r/\Fin r st')\/I1 1 c st'
  apply aX I1 Q1 ?_ ?_ #[i,j,out,0,0,rfl,inv,by lia] ?_
  .
   rintro F hF x c st' _ hx ⟨i',j',out,p,q,rfl,⟨o,rfl,sg,m,hi,hj⟩,pg⟩;let(i',rfl):=j3 hi.1;let(j',rfl):=j3 (vS hj.1);subst hF;apply hV (aQ (i:=j') ⋯ (hV (aQ (i:=i') ⋯ ?_)));apply hV (hc _ _ (in_of hb ⋯) (in_of ha ⋯) (sg.1.trans hk) ?_);apply fV (λe=>?_) λe=>?_
   .
    have m':=kM.push m sa ⋯ λu h1 h2=>ht _ _ _ (pw_at hr sb (show u<=j' by lia) hj.2) (hl _ _ e)
    apply hV (aQ (i:=i') hi.2 ?_);apply bL rfl (λhe=>i6 (.inl #[_,rfl,dn qS.symm sg m' (vS hi.2) hj.2 (.inl he)])) λhe=>?_
    have inv:Inv ((o.map pr).push (pr (a.getD i' 0))) i' (j'+1) st'/\i'+(j'+1)+(x+1)<=i+j:=#[#[_,qS.symm,sg,m',#[Nat.pos_of_ne_zero he,vS hi.2],hj],by lia]
    show aM (λ_=>i6 (.inr #[i',j'+1,_,_,_,rfl,inv.1,by lia])) λ_=>i6 #[i',j'+1,_,_,_,rfl,inv]
   .
    have m':=(kM.push m.swap sb ⋯ λu h1 h2=>ht _ _ _ (pw_at hr sa (show u<=i' by lia) hi.2) e).swap
    apply hV (aQ (i:=j') hj.2 ?_);apply bL rfl (λhe=>i6 (.inl #[_,rfl,la he qS.symm sg m' hi.2])) λhe=>?_
    have inv:Inv ((o.map pr).push (pr (b.getD j' 0))) (i'+1) j' st'/\i'+1+j'+(x+1)<=i+j:=#[#[_,qS.symm,sg,m',hi,by have:j'≠1:=he;lia],by lia]
    show aM (λ_=>i6 (.inr #[i'+1,j',_,_,_,rfl,inv.1,by lia])) λ_=>i6 #[i'+1,j',_,_,_,rfl,inv]
  . rintro c st' ⟨i',j',out,p,q,rfl,inv,pg⟩;show .inr #[_,_,_,_,_,rfl,inv,by lia]
  .
   rintro G hG ⟨r0,c⟩ st' (⟨r,e,f⟩ |⟨i',j',out,p,q,e,inv,pg⟩)
   . obtain rfl:r0=!r:=e;subst hG;show i6 #[r,rfl,f]
   .
    cases e;subst hG;apply hV (wpS_lift (y8 #[rfl,?_]))
    let I2:=λ(c:Option (Array Keyed)×Nat×Nat×Array Keyed×Nat×Nat×Nat) st'=>∃i' j' out g p q,c=(none,i',j',out,g,p,q)/\Inv out i' j' st'/\i'+j'+1<=i+j
    let Q2:=λ(c:Option (Array Keyed)×Nat×Nat×Array Keyed×Nat×Nat×Nat) st'=>(∃r,c.1=!r/\Fin r st')\/I2 c st'
    apply aX (λ_=>I2) Q2 ?_ ?_ #[i',j',out,_,p,q,rfl,inv,pg] ?_
    .
     rintro F hF x c st' _ hx ⟨i',j',out,g,p,q,rfl,⟨o,rfl,sg,m,hi,hj⟩,pg⟩;let(i',rfl):=j3 hi.1;let(j',rfl):=j3 (vS hj.1);subst hF;dsimp -zeta only
     extract_lets +onlyGivenNames n1 n2 n3 n4 n5 n6 n7 n8 n9 n10 n11 n12 jp
     apply gS (λR=>∀u v,R (jp u v)) ?_ ?_
     . show λjs=>aM (λ_=>js () _) λ_=>js () _
     intro u v;apply hV (CO (hV (aQ (i:=j') hj.2 ?_)));apply hV (Aa (k:=b.getD j' 0) (q:=a) (base:=0) (n:=i'+1) (hint:=i') hc hr ht (sg.1.trans hk) ha sa (in_of hb hj.2) (by rw[v4];show hi.2) (xL _) λk1 h1 A1 A2=>?_)
     simp only[v4]at A1 A2;dsimp -zeta only
     extract_lets +onlyGivenNames kk ac VB
     apply gS (λR=>∀u Ht i2,(∃o2:Array Nat,Ht=o2.map pr/\kM (Le lt) a b o2 i2 (j'+1))->1<=i2->i2<=i'+1->(∀t,t<i2->Le lt (a.getD t 0) (b.getD j' 0))->R (VB u i2 Ht)) ?_ ?_
     .
      intro js;have e1:(o++(a.extract k1 (i'+1)).reverse).map pr=o.map pr++((a.map pr).extract k1 (i'+1)).reverse:=by rw[DU,Array.map_reverse,Dx]
      apply aM (λ_=>?_) λhk0=>js () _ (i'+1) #[o,rfl,m] hi.1 (d5 _) λt q=>A1 t (Hw hk0 q)
      have m1:=kM.ext (k:=k1) m sa hi.2 h1 λt u q1 q2 q3 q4=>ht _ _ _ (pw_at hr sb (show u<=j' by lia) hj.2) (hl _ _ (A2 t q1 q2))
      apply bL rfl (λl1=>i6 (.inl #[_,rfl,dn e1.symm sg m1 (kS h1 hi.2) hj.2 (.inl l1)])) λl1=>?_
      show js () _ _ #[_,e1.symm,m1] (Nat.pos_of_ne_zero l1) h1 A1
     rintro u _ i2 ⟨o2,rfl,m2⟩ hi2 hle A3;have m3:=(kM.push m2.swap sb ⋯ λt q1 q2=>A3 t q1).swap
     apply hV (aQ (i:=j') hj.2 ?_)
     extract_lets +onlyGivenNames o3
     apply bL rfl (λl3=>i6 (.inl #[_,rfl,la l3 qS.symm sg m3 (kS hle hi.2)])) λl3=>?_
     have l3:j'≠1:=l3;let(i3,rfl):=j3 hi2;have Fv:i3<a.size:=kS hle hi.2;apply hV (aQ (i:=i3) Fv ?_);apply hV (Ad (k:=a.getD i3 0) (q:=b) (base:=0) (n:=j') (hint:=j' - 1) hc hr ht (sg.1.trans hk) hb sb (in_of ha Fv) ⋯ ⋯ λk2 q1 B1 B2=>?_)
     simp only[v4]at B1 B2;dsimp -zeta only
     extract_lets +onlyGivenNames k3 bc n15 jp3
     apply gS (λR=>∀u Hu j4,(∃o4:Array Nat,Hu=o4.map pr/\kM (Le lt) a b o4 (i3+1) j4)->2<=j4->j4<=j'->(∀t,t<j4->Le lt (b.getD t 0) (a.getD i3 0))->R (jp3 u j4 Hu)) ?_ ?_
     .
      intro js;have e4:(o2.push (b.getD j' 0)++(b.extract k2 j').reverse).map pr=(o2.map pr).push (pr (b.getD j' 0))++((b.map pr).extract k2 j').reverse:=by rw[DU,Array.map_reverse,Dx,qS]
      apply aM (λ_=>?_) λhk0=>js () _ j' #[_,qS.symm,m3] ⋯ (d5 _) λt r=>hl _ _ (B1 t (Hw hk0 r))
      have m4:=(kM.ext (k:=k2) m3.swap sb (vS hj.2) q1 λt u r1 r2 r3 r4=>ht _ _ _ (pw_at hr sa (show u<=i3 by lia) Fv) (B2 t r1 r2)).swap
      apply bL rfl (λl4=>i6 (.inl #[_,rfl,la l4 e4.symm sg m4 Fv])) λl4=>?_
      apply bL rfl (λl5=>i6 (.inl #[_,rfl,dn e4.symm sg m4 Fv (kS q1 (vS hj.2)) (.inr l5)])) λl5=>?_
      show js () _ _ #[_,e4.symm,m4] (VD l4 l5) q1 λt r=>hl _ _ (B1 t r)
     rintro u _ j4 ⟨o4,rfl,m4⟩ hj4 aak B3;have hj5:j4<=b.size:=kS aak (vS hj.2);have m5:=kM.push m4 sa ⋯ λt r1 r2=>B3 t r1
     apply hV (aQ (i:=i3) Fv ?_);apply bL rfl (λl6=>i6 (.inl #[_,rfl,dn qS.symm sg m5 (vS Fv) hj5 (.inl l6)])) λl6=>?_
     have inv:Inv ((o4.map pr).push (pr (a.getD i3 0))) i3 j4 st'/\i3+j4+1<=i+j:=#[#[_,qS.symm,sg,m5,#[Nat.pos_of_ne_zero l6,vS Fv],hj4,hj5],by lia]
     show aM (λ_=>i6 (.inr #[i3,j4,_,_,_,_,rfl,inv])) λ_=>i6 #[i3,j4,_,_,_,_,rfl,inv]
    . show λc st' h=>.inr h
    .
     rintro G hG ⟨r0,c⟩ st' (⟨r,e,f⟩ |⟨i',j',out,g,p,q,e,inv,pg⟩)
     . obtain rfl:r0=!r:=e;subst hG;show i6 #[r,rfl,f]
     . cases e;subst hG;let(o,rfl,sg,m,hi,hj):=inv;show hV (CO (i6 #[i',j',_,_,rfl,#[o,rfl,sg,m,hi,hj],by lia]))
 . rintro c st' ⟨i,j,out,g,rfl,⟨o,e,_,_,h1,h2⟩,pr0⟩;lia
 . rintro G hG ⟨_,c⟩ st' ⟨r,rfl,f⟩;subst hG;show i6 (fin r st' f)
end
open PySem PySem.W PyProof.Rows
def vB{α:Type}(s:Nat):∀(o:List α) (k:Nat) (q:Array α),s+k+o.length<=q.size->((o.zipIdx k).foldl (λa (p:α×Nat)=>a.setIfInBounds (s+p.2) p.1) q).toList=q.toList.take (s+k)++o++q.toList.drop (s+k+o.length)
 | [],k,q,_=>by simp
 |x::o,k,q,h=>by
  rw[mB]at h;rw[List.zipIdx_cons,List.foldl_cons,vB s o (k+1) _ (by rw[Array.size_setIfInBounds];lia),Array.toList_setIfInBounds]
  have hl:s+k<q.toList.length:=by rw[eD];lia
  rw[show s+(k+1)=s+k+1 by lia,show s+k+1+o.length=s+k+(o.length+1)by lia,List.drop_set]
  rw[List.set_eq_take_append_cons_drop,fR hl];have:(q.toList.take (s+k)).length=s+k:=by rw[i8];lia
  rw[DV,this,oI ⋯];simp
def Ae{q:Array Nat}{P A S:List Nat}(h:q.toList=P++A++S){t:Nat}(ht:t<A.length):q.getD (P.length+t) 0=A.getD t 0:=by
 have e:q.getD (P.length+t) 0=q.toList.getD (P.length+t) 0:=by simp[bP]
 rw[e,h,fI,bP,bP,b6 ⋯,lS,b8 ht]
def Af{q:Array Nat}{P A S:List Nat}(h:q.toList=P++A++S){k m:Nat}(hm:m<=A.length):q.extract (P.length+k) (P.length+m)=((A.take m).drop k).toArray:=by
 refine EF;rw[Array.toList_extract,h,List.extract_eq_drop_take,fI,List.drop_append,B6 ⋯,BB,lS,List.drop_append];rw[List.drop_take,show P.length+m - (P.length+k)=m - k by lia]
 rcases Nat.le_total k A.length with q |q
 . rw[sK (by rw[BY];lia)]
 .
  rw[show m - k=0 by lia]
  simp
def NT{J:Type}{M:Model}{A:Around}{E:Value->Shared->Prop}{s:Shared}{v st:J}{Q:PUnit->J->Prop}(h:Q ⟨⟩ v):wpS M A E s (set v:StateT J Sem PUnit) Q st:=by delta wpS;rw[StateT.run_set];show dC #[rfl,h]
def Yx{lt:Nat->Nat->Bool}(hr:∀x,lt x x=false){X:List Nat}(h:X.Pairwise (Le lt)){t u:Nat}(htu:t<=u)(hu:u<X.length):Le lt (X.getD t 0) (X.getD u 0):=by have:=pw_at hr h htu hu;simpa using this
def tK{P:Nat->Prop}{X:List Nat}{i m:Nat}(h:∀t,i<=t->t<m->t<X.length->P (X.getD t 0)):∀x∈(X.take m).drop i,P x:=λx hx=>by
 let(t,ht,rfl):=mI hx;rw[BY,i8]at ht;have:=h (i+t) ⋯ ⋯ ⋯;simpa [bP,show i+t<X.length by lia]using this
section
variable{prog:Program}{w:World}{A:Around}{E:Value->Shared->Prop}{s:Shared}
variable{pr:Nat->Keyed}{lt:Nat->Nat->Bool}{N:Nat}{κ:SortKind}
def yD(hc:jY prog w A E s pr lt N κ)(hr:∀x,lt x x=false)(ht:∀x y z,Le lt x y->Le lt y z->Le lt x z)(hl:∀x y,lt x y=true->Le lt x y){q:Array Nat}{P X Y S:List Nat}{st:SortSt}{i pw pw':Nat}{Q:Bool->SortSt->Prop}(hk:kindOf st=κ)
  (hq:∀i∈q,i<N) (ha:arrOf st=q.map pr) (hf:failedOf st=none) (e:q.toList=P++(X++(Y++S))) (sx:X.Pairwise (Le lt)) (sy:Y.Pairwise (Le lt)) (nx:1<=X.length) (ny:1<=Y.length) (p0:(pendingOf st)[i]?=!(P.length,X.length,pw)) (p1:(pendingOf st)[i+1]?=!(P.length+X.length,Y.length,pw'))
  (h:∀(q':Array Nat) C st',arrOf st'=q'.map pr->q'.toList=P++(C++S)->C.Pairwise (Le lt)->C.Perm (X++Y)->kindOf st'=κ->failedOf st'=none->pendingOf st'=((pendingOf st).setIfInBounds i (P.length,X.length+Y.length,pw)).eraseIdxIfInBounds (i+1)->Q true st'):wpS (model prog w) A E s (mergeAt' i) Q st:=by
 have eX:q.toList=P++X++(Y++S):=by rw[e];simp
 have eY:q.toList=(P++X)++Y++S:=by rw[e];simp
 have uJ:q.size=P.length+X.length+Y.length+S.length:=by rw[<- eD,e];simp;lia
 have gX:∀{t},t<X.length->q.getD (P.length+t) 0=X.getD t 0:=λht=>Ae eX ht
 have gY:∀{t},t<Y.length->q.getD (P.length+X.length+t) 0=Y.getD t 0:=λht=>by have:=Ae eY ht;rwa [dS]at this
 let(kd,ar,pd,mg,fl):=st;change ar=q.map pr at ha;change fl=none at hf;change kd=κ at hk;change pd[i]?=_ at p0;change pd[i+1]?=_ at p1;subst ha hf hk;apply hV (wpS_get ?_);dsimp only;rw[p0,p1];dsimp only;apply hV (NT ?_);apply hV (aQ (i:=P.length+X.length) ⋯ ?_);have y0:=gY (t:=0) ny;rw[Cn]at y0;apply hV (jd hc (left:=false) (q:=q) (base:=P.length) (n:=X.length) (hint:=0) rfl hq (in_of hq ⋯) ⋯ nx (λx y h1 h2 h3=>?_) λk h1 h2 h3=>?_)
 .
  rw[gX h2]at h3;rw[gX (t:=x) ⋯];delta far at h3 ⊢
  simp only[t7,if_false,AO]at h3 ⊢
  show ht _ _ _ (Yx hr sx h1 h2) h3
 have A1:∀t,t<k->Le lt (X.getD t 0) (Y.getD 0 0):=λt r=>by
  have:=h2 t r;rw[gX (t:=t) ⋯,y0]at this;delta far at this;simpa using this
 have A2:∀t,k<=t->t<X.length->lt (Y.getD 0 0) (X.getD t 0)=true:=λt r1 r2=>by
  have:=h3 t r1 r2;rw[gX r2,y0]at this;delta far at this;simpa using this
 have both:(∀t u,t<X.length->u<Y.length->Le lt (X.getD t 0) (Y.getD u 0))->(X++Y).Pairwise (Le lt):=λz=>l8.mpr #[sx,sy,λx hx y hy=>by
  let(t,h1,rfl):=mI hx;let(u,h2,rfl):=mI hy;have:=z t u h1 h2;simpa [bP,h1,h2]using this]
 dsimp only;by_cases k0:X.length - k=0
 . rw[fR (CA.mpr k0)];show i6 (h q (X++Y) _ rfl (by rw[e];simp) (both λt u r1 r2=>ht _ _ _ (A1 t ⋯) (Yx hr sy (oP _) r2)) (mE _) rfl rfl rfl)
 rw[eR λq=>k0 (CA.mp q),show P.length+k+(X.length - k) - 1=P.length+(X.length - 1)by lia]
 apply hV (aQ (i:=P.length+(X.length - 1)) ⋯ ?_);have x0:=gX (t:=X.length - 1) ⋯;apply hV (jd hc (left:=true) (q:=q) (base:=P.length+X.length) (n:=Y.length) (hint:=Y.length - 1) rfl hq (in_of hq ⋯) ⋯ ⋯ (λx y r1 r2 r3=>?_) λm q1 q2 q3=>?_)
 .
  rw[gY r2]at r3;rw[gY (t:=x) ⋯];delta far at r3 ⊢
  simp only[C1]at r3 ⊢
  cases e:lt (Y.getD x 0) (q.getD (P.length+(X.length - 1)) 0)with
  |true=>rfl
  |false=>have:=ht _ _ _ e (Yx hr sy r1 r2);rw[Le,r3]at this;cases this
 have B1:∀t,t<m->lt (Y.getD t 0) (X.getD (X.length - 1) 0)=true:=λt r=>by
  have:=q2 t r;rw[gY (t:=t) ⋯,x0]at this;delta far at this;simpa using this
 have B2:∀t,m<=t->t<Y.length->Le lt (X.getD (X.length - 1) 0) (Y.getD t 0):=λt r1 r2=>by
  have:=q3 t r1 r2;rw[gY r2,x0]at this;delta far at this;simpa using this
 dsimp only;by_cases m0:m=0
 . rw[fR (CA.mpr m0)];show i6 (h q (X++Y) _ rfl (by rw[e];simp) (both λt u r1 r2=>ht _ _ _ (Yx hr sx (show t<=X.length - 1 by lia) ⋯) (B2 u ⋯ r2)) (mE _) rfl rfl rfl)
 rw[eR λq=>m0 (CA.mp q)]
 have ex:(q.map pr).extract (P.length+k) (P.length+X.length)=(X.drop k).toArray.map pr:=by have:=Af eX (k:=k) (m:=X.length) (d5 _);rw[List.take_length]at this;rw[<- this];simp
 have ey:(q.map pr).extract (P.length+X.length) (P.length+X.length+m)=(Y.take m).toArray.map pr:=by have:=Af eY (k:=0) (m:=m) q1;rw[dS,List.drop_zero,Cn]at this;rw[<- this];simp
 have aal:∀i∈(X.drop k).toArray,i<N:=λi hi=>hq i (by
  have:i∈q.toList:=by rw[e];simp[CD (DZ.mp hi)]
  show Bn.mp this)
 have aam:∀i∈(Y.take m).toArray,i<N:=λi hi=>hq i (by
  have:i∈q.toList:=by rw[e];simp[D3 (DZ.mp hi)]
  show Bn.mp this)
 have d0:(X.drop k).toArray.getD 0 0=X.getD k 0:=by simp[bP]
 have d1:(Y.take m).toArray.getD 0 0=Y.getD 0 0:=by simp[bP,show 0<m by lia]
 have d2:(X.drop k).toArray.getD ((X.drop k).toArray.size - 1) 0=X.getD (X.length - 1) 0:=by simp[bP,show k+(X.length - k - 1)=X.length - 1 by lia]
 have g0:lt ((Y.take m).toArray.getD 0 0) ((X.drop k).toArray.getD 0 0)=true:=by rw[d0,d1];show A2 k (d5 _) ⋯
 have gz:∀u,u<(Y.take m).toArray.size->Le lt ((Y.take m).toArray.getD u 0) ((X.drop k).toArray.getD ((X.drop k).toArray.size - 1) 0):=λu hu=>by
  rw[d2];have hu:u<m/\u<Y.length:=by
   have hu:u<min m Y.length:=by simpa using hu
   lia
  have:(Y.take m).toArray.getD u 0=Y.getD u 0:=by simp[bP,hu.1]
  rw[this];show hl _ _ (B1 u hu.1)
 have n1:1<=(X.drop k).toArray.size:=by simp;lia
 have n2:1<=(Y.take m).toArray.size:=by simp;lia
 have sx':(X.drop k).toArray.toList.Pairwise (Le lt):=sx.drop;have sy':(Y.take m).toArray.toList.Pairwise (Le lt):=sy.take;apply NP (λst r st'=>∃o:Array Nat,r=o.map pr/\Dg st st'/\o.toList.Pairwise (Le lt)/\o.toList.Perm (X.drop k++Y.take m)) (λ_=>?_) (λ_=>?_) λr st' hr=>?_
 . rw[ex,ey];show yz hc hr ht hl rfl aal aam sx' sy' n1 n2 g0 gz λo st' sg o1 o2=>#[o,rfl,sg,o1,o2]
 . rw[ex,ey];show yC hc hr ht hl rfl aal aam sx' sy' n1 n2 g0 gz λo st' sg o1 o2=>#[o,rfl,sg,o1,o2]
 ·
  apply hV (CO (hV (wpS_get (i6 ?_))));let(o,rfl,sg,o1,o2):=hr;let(kd',ar',VF,mg',fl'):=st';let(e1,e2,e3,e4):=sg;change kd'=kd at e1;change ar'=q.map pr at e2;change VF=(pd.setIfInBounds i (P.length,X.length+Y.length,pw)).eraseIdxIfInBounds (i+1)at e3;change fl'=none at e4;subst e1 e2 e3 e4;have ol:o.toList.length=X.length - k+m:=by rw[o2.length_eq];simp;lia
  have tk:q.toList.take (P.length+k)=P++X.take k:=by rw[eX,fI,DV,oI ⋯,lS,sK h1]
  have dr:q.toList.drop (P.length+k+o.toList.length)=Y.drop m++S:=by rw[ol,eY,fI,List.drop_append,B6 (by rw[dS];lia),BB,dS,show P.length+k+(X.length - k+m) - (P.length+X.length)=m by lia,List.drop_append_of_le_length q1]
  have mem:∀{z},z∈o.toList->z∈X.drop k\/z∈Y.take m:=λhz=>l9.mp (o2.mem_iff.mp hz)
  have xl:∀z∈X,Le lt z (X.getD (X.length - 1) 0):=λz hz=>by
   let(t,h1,rfl):=mI hz;have:=Yx hr sx (show t<=X.length - 1 by lia) ⋯
   simpa [bP,h1]using this
  have yf:∀z∈Y,Le lt (Y.getD 0 0) z:=λz hz=>by
   let(t,h1,rfl):=mI hz;have:=Yx hr sy (oP t) h1;simpa [bP,h1]using this
  have xa:∀z∈X.take k,Le lt z (Y.getD 0 0):=tK (i:=0) (m:=k) (P:=λz=>Le lt z (Y.getD 0 0)) λt _ r _=>A1 t r
  have yb:∀z∈Y.drop m,Le lt (X.getD (X.length - 1) 0) z:=λz hz=>tK (i:=m) (m:=Y.length) (P:=λz=>Le lt (X.getD (X.length - 1) 0) z) (λt r1 r2 _=>B2 t r1 r2) z (by rw[List.take_length];show hz)
  have cx:=l8.mp ((kA k X).symm▸sx);have cy:=l8.mp ((kA m Y).symm▸sy);apply h (P++X.take k++o.toList++(Y.drop m++S)).toArray (X.take k++(o.toList++Y.drop m)) _ ?_ ⋯ ?_ ?_ rfl rfl rfl
  .
   refine EF;exact (List.foldl _ (q.map pr) ((o.map pr).toList.zipIdx)).toList=_;rw[vB (P.length+k) (o.map pr).toList 0 (q.map pr) (by simp;rw[<- eD,ol];lia)]
   rw[Array.toList_map,Array.toList_map,Cn,eA,<- List.map_take,<- List.map_drop,tk,dr];simp
  .
   apply l8.mpr #[cx.1,l8.mpr #[o1,cy.2.1,λx hx y hy=>?_],λx hx y hy=>?_]
   .
    rcases mem hx with hx |hx
    . show ht _ _ _ (xl x (CD hx)) (yb y hy)
    . show cy.2.2 x hx y hy
   .
    rcases l9.mp hy with hy |hy
    .
     rcases mem hy with hy |hy
     . show cx.2.2 x hx y hy
     . show ht _ _ _ (xa x hx) (yf y (D3 hy))
    . show ht _ _ _ (xa x hx) (yf y (CD hy))
  . have:=(o2.append_left (X.take k)).append_right (Y.drop m);rw[fI]at this;apply this.trans (EB ?_);exact X.take k++(X.drop k++Y.take m)++Y.drop m=X++Y;rw[<- fI,kA,fI,kA]
end
open PySem PySem.W PyProof.Rows
def vC{α:Type}{xs:Array α}{P B S:List α}(h:xs.toList=P++(B++S)):(mirror xs P.length (P.length+B.length) ((P.length+B.length - P.length) / 2)).toList=P++(B.reverse++S):=by
 have hz:xs.size=P.length+B.length+S.length:=by rw[<- eD,h];simp;lia
 apply BC λk=>?_
 rw[nS,getElem?_mirror_all ⋯];by_cases hk:P.length<=k/\k<P.length+B.length
 .
  rw[fR hk,<- nS,h,b6 ⋯,b8 ⋯,b6 hk.1,b8 (by rw[BN];lia),List.getElem?_reverse ⋯]
  congr 1
  lia
 .
  rw[eR hk,<- nS,h];rcases u4 k P.length with q |q
  . rw[b8 q,b8 q]
  . rw[b6 q,b6 q,b6 ⋯,b6 (by rw[BN];lia),BN]
def vD{α:Type}{xs:Array α}{P B S:List α}{x:α}(h:xs.toList=P++(B++x::S)):(bubble xs (P.length+B.length) B.length).toList=P++(x::(B++S)):=by
 have hz:xs.size=P.length+B.length+(S.length+1):=by rw[<- eD,h];simp;lia
 apply BC λk=>?_
 have g:∀j,xs[j]?=(P++(B++x::S))[j]?:=λj=>by rw[<- nS,h]
 rw[nS,getElem?_bubble ⋯ _ ⋯,g,g,g];by_cases h1:k=P.length+B.length - B.length
 .
  rw[fR h1,b6 ⋯,b6 ⋯,b6 ⋯,show P.length+B.length - P.length - B.length=0 by lia,show k - P.length=0 by lia]
  rfl
 .
  rw[eR h1];rcases u4 k P.length with q |q
  . rw[eR ⋯,b8 q,b8 q]
  .
   obtain⟨t,rfl⟩:∃t,k=P.length+(t+1):=#[k - P.length - 1,by lia]
   have e:(P++(x::(B++S)))[P.length+(t+1)]?=(B++S)[t]?:=by rw[b6 ⋯,show P.length+(t+1) - P.length=t+1 by lia,BO]
   rw[e];by_cases h2:P.length+B.length - B.length<P.length+(t+1)/\P.length+(t+1)<=P.length+B.length
   .
    rw[fR h2,b6 ⋯,b8 ⋯,b8 ⋯]
    congr 1
    lia
   . rw[eR h2,b6 ⋯,b6 ⋯,b6 ⋯,show P.length+(t+1) - P.length - B.length=(t - B.length)+1 by lia,BO]
section
variable{prog:Program}{w:World}{A:Around}{E:Value->Shared->Prop}{s:Shared}
variable{pr:Nat->Keyed}{lt:Nat->Nat->Bool}{N:Nat}{κ:SortKind}{L:List Nat}{pd:Array (Nat×Nat×Nat)}{st:SortSt}{i j:Nat}
structure Hs(pr:Nat->Keyed)(κ:SortKind)(L:List Nat)(pd:Array (Nat×Nat×Nat))(st:SortSt):Prop where
 a:arrOf st=L.toArray.map pr
 k:kindOf st=κ
 f:failedOf st=none
 p:pendingOf st=pd
def Ag(hc:jY prog w A E s pr lt N κ){Q:Option Bool->SortSt->Prop}(h:Hs pr κ L pd st)(hL:∀i∈L,i<N)(hi:i<L.length)(hj:j<L.length)(q:Q (!(lt (L.getD i 0) (L.getD j 0))) st):wpS (model prog w) A E s (ltAt' i j) Q st:=by
 have hq:∀i∈L.toArray,i<N:=λi hi=>hL i (DZ.mp hi)
 have e:∀i,L.toArray.getD i 0=L.getD i 0:=λi=>by simp[bP]
 rw[ltAt'_eq];apply hV (wpS_get ?_);rw[h.a];apply hV (aQ hi (hV (aQ hj (hc _ _ (in_of hq hi) (in_of hq hj) h.k ?_))));rw[e,e];show q
def tL{P B S:List Nat}{Q:Unit->SortSt->Prop}(h:Hs pr κ L pd st)(e:L=P++(B++S))(hi:i=P.length)(hj:j=P.length+B.length)(q:∀st',Hs pr κ (P++(B.reverse++S)) pd st'->Q () st'):wpS (model prog w) A E s (reverseSlice' i j) Q st:=by
 rw[reverseSlice'_eq];apply CO (q _ #[?_,h.k,h.f,h.p]);have:=vC (xs:=arrOf st) (P:=P.map pr) (B:=B.map pr) (S:=S.map pr) (by rw[h.a,e];simp)
 rw[eA,eA]at this;subst hi hj;refine EF;rw[this];simp
def NX{P B S:List Nat}{x:Nat}{Q:Unit->SortSt->Prop}(h:Hs pr κ L pd st)(e:L=P++(B++x::S))(hi:i=P.length+B.length)(hj:j=P.length)(q:∀st',Hs pr κ (P++(x::(B++S))) pd st'->Q () st'):wpS (model prog w) A E s (moveDown' i j) Q st:=by
 rw[moveDown'_eq];apply CO (q _ #[?_,h.k,h.f,h.p]);have:=vD (xs:=arrOf st) (P:=P.map pr) (B:=B.map pr) (S:=S.map pr) (x:=pr x) (by rw[h.a,e];simp)
 rw[eA,eA]at this;subst hi hj;rw[lS];refine EF;rw[this];simp
end
open PySem PySem.W PyProof.Rows
def nJ(P Z:List Nat)(t:Nat):(P++Z).getD (P.length+t) 0=Z.getD t 0:=by rw[bP,bP,b6 ⋯,lS]
def Dh{Z:List Nat}{x:Nat}(h:x<Z.length):(Z.drop x).take 1=[Z.getD x 0]:=by have e:Z.drop x=Z[x]::Z.drop (x+1):=wP h;rw[e];exact [Z[x]]=_;simp[bP,h]
def pw_get{R:Nat->Nat->Prop}(hr:∀x,R x x){X:List Nat}(h:X.Pairwise R){t u:Nat}(htu:t<=u)(hu:u<X.length):R (X.getD t 0) (X.getD u 0):=by have:=pw_at (A:=X.toArray) hr h htu hu;simpa using this
def j5{R:Nat->Nat->Prop}(hr:∀x,R x x)(ht:∀x y z,R x y->R y z->R x z){Z:List Nat}{n:Nat}(h:(Z.take n).Pairwise R)(h1:1<=n)(hn:n<Z.length)(hl:R (Z.getD (n - 1) 0) (Z.getD n 0)):(Z.take (n+1)).Pairwise R:=by
 have e:Z.take (n+1)=Z.take n++[Z.getD n 0]:=by rw[y3 hn];simp[bP,hn]
 rw[e];apply l8.mpr #[h,sT _ _,λx hx y hy=>?_]
 rw[eP.mp hy];let(t,q,rfl):=mI hx;rw[i8]at q;have:=pw_get hr h (show t<=n - 1 by lia) (by rw[i8];lia)
 apply ht _ _ _ ?_ hl;simpa [bP,show n - 1<n by lia,show t<n by lia,show t<Z.length by lia]using this
section
variable{prog:Program}{w:World}{A:Around}{E:Value->Shared->Prop}{s:Shared}
variable{pr:Nat->Keyed}{lt:Nat->Nat->Bool}{N:Nat}{κ:SortKind}{pd:Array (Nat×Nat×Nat)}{st:SortSt}
def vE(hc:jY prog w A E s pr lt N κ)(hr:∀x,lt x x=false)(ht:∀x y z,Le lt x y->Le lt y z->Le lt x z)(hl:∀x y,lt x y=true->Le lt x y){P Z:List Nat}{Q:Option Nat->SortSt->Prop}(hs:Hs pr κ (P++Z) pd st)(hN:∀i∈P++Z,i<N)(hZ:1<=Z.length)
  (h:∀st' m Z',Hs pr κ (P++Z') pd st'->1<=m->m<=Z.length->Z'.Perm Z->(Z'.take m).Pairwise (Le lt)->Q (!m) st'):wpS (model prog w) A E s (countRun' P.length Z.length) Q st:=by
 have ask:∀{Z':List Nat}{st':SortSt}{t u a b:Nat}{Q:Option Bool->SortSt->Prop},Hs pr κ (P++Z') pd st'->Z'.Perm Z->a=P.length+t->b=P.length+u->t<Z.length->u<Z.length->Q (!(lt (Z'.getD t 0) (Z'.getD u 0))) st'->wpS (model prog w) A E s (ltAt' a b) Q st':=λ{Z' st' t u a b Q} h1 hp ea eb h2 h3 q=>by
  subst ea eb;apply Ag hc h1 (λi hi=>hN i (by rcases l9.mp hi with z |z;show l7 _ z;show gL _ (hp.mem_iff.mp z))) (by rw[dS,hp.length_eq];lia) (by rw[dS,hp.length_eq];lia) ?_
  rw[nJ,nJ];show q
 have Hx:∀{x:Nat},1<=x->P.length+x - 1=P.length+(x - 1):=λh=>Nat.add_sub_assoc h _
 apply aX (λx c st'=>st=st'/\c=(none,x)/\(Z.take x).Pairwise (Le lt)) (λc st'=>st=st'/\∃n,c=(none,n)/\1<=n/\n<=Z.length/\(Z.take n).Pairwise (Le lt)/\(n=Z.length\/lt (Z.getD n 0) (Z.getD (n - 1) 0)=true)) ?_ ?_ #[rfl,rfl,by
  match Z,hZ with
  |z::Z,_=>show sT _ _] ?_
 . rintro F hF x c st' h1 hx ⟨rfl,rfl,pw⟩;subst hF;show hV (ask (t:=x) (u:=x - 1) hs (mE _) rfl (Hx h1) hx (yY (CC _ _) hx) (fV (λe=>i6 #[rfl,x,rfl,h1,AY hx,pw,.inr e]) λe=>i6 #[rfl,rfl,j5 hr ht pw h1 hx e]))
 .
  rintro c st' ⟨rfl,rfl,pw⟩;rw[Nat.max_eq_right hZ]at pw ⊢
  show#[rfl,_,rfl,hZ,d5 _,pw,.inl rfl]
 rintro G hG c st' ⟨rfl,n,rfl,n1,n2,pw,n3⟩;subst hG;have tg:∀x y z,Le lt y x->Le lt z y->Le lt z x:=λx y z h1 h2=>ht _ _ _ h2 h1
 apply bL rfl (λ_=>i6 (h st n Z hs n1 n2 (mE _) pw)) λn0=>?_
 have n3:lt (Z.getD n 0) (Z.getD (n - 1) 0)=true:=n3.resolve_left n0
 extract_lets +onlyGivenNames m1 z0 jp
 apply jZ (λR=>∀u Z' st',Hs pr κ (P++Z') pd st'->Z'.Perm Z->(Z'.take (n+1)).Pairwise (λx y=>Le lt y x)->R (jp u) st') ?_ ?_
 .
  intro js;apply aM (λhn=>?_) λhn=>?_
  .
   apply hV (ask (t:=0) (u:=n - 1) hs (mE _) rfl (Hx n1) hZ (fN (Nat.sub_lt n1 Nat.one_pos) n2) ?_);apply fV (λ_=>i6 (h st n Z hs n1 n2 (mE _) pw)) λe=>?_
   ·
    have hlt:(Z.take n).length=n:=by rw[i8];lia
    apply hV (tL (P:=P) (B:=Z.take n) (S:=Z.drop n) hs (by rw[kA]) rfl (by rw[hlt]) λst' hs'=>js () _ st' hs' ?_ ?_)
    .
     have:=(DA (Z.take n)).append_right (Z.drop n)
     rwa [kA]at this
    .
     apply j5 (R:=λx y=>Le lt y x) hr tg ?_ n1 (by simp;lia) ?_
     .
      rw[sK (by simp;lia),oI (by simp;lia)]
      show DL.mpr pw
     .
      have e1:((Z.take n).reverse++Z.drop n).getD n 0=Z.getD n 0:=by
       rw[bP,bP,b6 (by simp;lia)]
       simp[hlt]
      have e2:((Z.take n).reverse++Z.drop n).getD (n - 1) 0=Z.getD 0 0:=by
       rw[bP,bP,b8 (by simp;lia),List.getElem?_reverse (by rw[hlt];lia),hlt,show n - 1 - (n - 1)=0 by lia]
       simp[show 0<n by lia]
      rw[e1,e2];show ht _ _ _ (hl _ _ n3) e
  .
   obtain rfl:n=1:=EA (Nat.not_lt.mp hn) n1;apply js () Z st hs (mE _) (j5 (R:=λx y=>Le lt y x) hr tg ?_ n1 ⋯ (hl _ _ n3))
   match Z,hZ with
   |z::Z,_=>show sT _ _
 have cut:∀{Z2 D B:List Nat}{x:Nat},Z2.Perm Z->Z2.take x=D++B->x<=Z.length->D.length+B.length=x/\Z2=D++(B++Z2.drop x):=λ{Z2 D B x} hp e hx=>by
  apply#[?_,by rw[<- fI,<- e,kA]]
  rw[<- dS,<- e,i8,hp.length_eq];lia
 have back:∀{D B:List Nat},(D++B).Pairwise (λx y=>Le lt y x)->(∀y∈B,∀z∈B,Le lt y z)->(D++B.reverse).Pairwise (λx y=>Le lt y x):=λ{D B} Di eq2=>by
  let(d1,d2,d3):=l8.mp Di;show l8.mpr #[d1,DL.mpr (AD.mpr λi j hi hj _=>eq2 _ (tP hi) _ (tP hj)),λy hy z hz=>d3 y hy z (List.mem_reverse.mp hz)]
 intro u Z1 dN hs1 hp1 fall;have l1:Z1.length=Z.length:=hp1.length_eq;apply hV (wpS_lift (y8 #[rfl,?_]));apply aX (λx c st'=>∃Z' D B,c=(none,x,B.length - 1)/\Hs pr κ (P++Z') pd st'/\Z'.Perm Z/\Z'.take x=D++B/\1<=B.length/\(D++B).Pairwise (λx y=>Le lt y x)/\(∀y∈B,∀z∈B,Le lt y z)/\1<=x/\x<=Z.length)
  (λc st'=>∃x Z' D B,c=(none,x,B.length - 1)/\Hs pr κ (P++Z') pd st'/\Z'.Perm Z/\Z'.take x=D++B/\1<=B.length/\(D++B).Pairwise (λx y=>Le lt y x)/\(∀y∈B,∀z∈B,Le lt y z)/\1<=x/\x<=Z.length) ?_ ?_ #[Z1,Z1.take n,[Z1.getD n 0],rfl,hs1,hp1,?_,d5 _,?_,?_,by lia,by lia] ?_
 .
  rintro F hF x c st' _ hx ⟨Z2,D,B,rfl,hs2,hp2,e,hB,Di,eq2,x1,x2⟩;subst hF;have l2:Z2.length=Z.length:=hp2.length_eq;let(lD,ez):=cut hp2 e x2;have tk:∀D1:List Nat,D1.length=x->(D1++Z2.drop x).take (x+1)=D1++[Z2.getD x 0]:=λD1 h1=>by
   rw[DV,oI ⋯,h1,lS,Dh ⋯]
  have last:∀y∈D++B,Le lt (Z2.getD (x - 1) 0) y:=λy hy=>by
   rw[<- e]at hy;let(t,q,rfl):=mI hy;rw[i8]at q;have:=pw_get (R:=λx y=>Le lt y x) hr (e▸Di) (show t<=x - 1 by lia) (by rw[i8];lia)
   simpa [bP,show x - 1<x by lia,show t<x by lia,show t<Z2.length by lia]using this
  have RD:Z2.getD (x - 1) 0∈B:=by
   have:Z2.getD (x - 1) 0=B.getD (B.length - 1) 0:=by rw[ez,bP,bP,b6 ⋯,b8 ⋯,show x - 1 - D.length=B.length - 1 by lia]
   rw[this];simp[bP,show B.length - 1<B.length by lia]
  apply hV (ask (t:=x) (u:=x - 1) hs2 hp2 rfl (Hx x1) hx (yY (CC _ _) hx) ?_);apply fV (λe1=>?_) λe1=>?_
  .
   have nx:∀y∈D++B,Le lt (Z2.getD x 0) y:=λy hy=>ht _ _ _ (hl _ _ e1) (last y hy)
   have one:∀y∈[Z2.getD x 0],∀z∈[Z2.getD x 0],Le lt y z:=λy hy z hz=>by rw[eP.mp hy,eP.mp hz];show hr _
   apply aM (λhb=>?_) λhb=>?_
   .
    apply hV (tL (P:=P++D) (B:=B) (S:=Z2.drop x) hs2 (by rw[fI,<- ez]) (by rw[dS];lia) (by rw[dS];lia) λcH xX=>i6 #[D++(B.reverse++Z2.drop x),D++B.reverse,[Z2.getD x 0],rfl,by rwa [fI]at xX,?_,?_,d5 _,?_,one,by lia,by lia])
    . apply List.Perm.trans ?_ hp2;show (((DA B).append_right (Z2.drop x)).append_left D).trans (EB ez.symm)
    . rw[<- fI,tk _ (by simp;lia)]
    .
     apply l8.mpr #[back Di eq2,sT _ _,λy hy z hz=>?_]
     rw[eP.mp hz];show nx y ((l9.mp hy).elim (l7 _) λq=>gL _ (List.mem_reverse.mp q))
   .
    apply i6 #[Z2,D++B,[Z2.getD x 0],rfl,hs2,hp2,?_,d5 _,?_,one,by lia,by lia]
    .
     have:=tk (D++B) (by simp;lia)
     rwa [fI,<- ez]at this
    .
     apply l8.mpr #[Di,sT _ _,λy hy z hz=>?_]
     rw[eP.mp hz];show nx y hy
  .
   apply hV (ask (t:=x - 1) (u:=x) hs2 hp2 (Hx x1) rfl (yY (CC _ _) hx) hx ?_);apply fV (λ_=>i6 #[x,Z2,D,B,rfl,hs2,hp2,e,hB,Di,eq2,x1,x2]) λe2=>?_
   .
    apply i6 #[Z2,D,B++[Z2.getD x 0],by rw[dS];exact _=(none,x+1,B.length+1 - 1);rw[Nat.sub_add_cancel hB,Nat.add_sub_cancel],hs2,hp2,?_,by simp,?_,?_,by lia,by lia]
    .
     have:=tk (D++B) (by simp;lia)
     rwa [fI,<- ez,fI]at this
    .
     rw[<- fI];apply l8.mpr #[Di,sT _ _,λy hy z hz=>?_]
     rw[eP.mp hz];show ht _ _ _ e2 (last y hy)
    .
     intro y hy z hz;rcases l9.mp hy with hy |hy <;> rcases l9.mp hz with hz |hz
     . show eq2 y hy z hz
     . rw[eP.mp hz];show ht _ _ _ (eq2 y hy _ RD) e1
     . rw[eP.mp hy];show ht _ _ _ e2 (eq2 _ RD z hz)
     . rw[eP.mp hy,eP.mp hz];show hr _
 . rintro c st' ⟨Z',D,B,rfl,r⟩;show#[_,Z',D,B,rfl,r]
 . rw[y3 ⋯];simp[bP,show n<Z1.length by lia]
 . rw[y3 ⋯]at fall;simpa [bP,show n<Z1.length by lia]using fall
 . intro y hy z hz;rw[eP.mp hy,eP.mp hz];show hr _
 rintro G hG c st' ⟨x,Z2,D,B,rfl,hs2,hp2,e,hB,Di,eq2,x1,x2⟩;subst hG;exact wpS _ _ _ _ (have jp:=_;if B.length - 1 > 0 then _ else _) Q st'
 extract_lets +onlyGivenNames VB
 apply jZ (λR=>∀u Z3 cH,Hs pr κ (P++Z3) pd cH->Z3.Perm Z->(Z3.take x).Pairwise (λx y=>Le lt y x)->R (VB u) cH) ?_ ?_
 .
  intro js;apply aM (λhb=>?_) λhb=>?_
  .
   let(lD,ez):=cut hp2 e x2;apply hV (tL (P:=P++D) (B:=B) (S:=Z2.drop x) hs2 (by rw[fI,<- ez]) (by rw[dS];exact P.length+x - (B.length - 1+1)=_;lia) (by rw[dS];exact P.length+x=_;lia) λcH xX=>js () (D++(B.reverse++Z2.drop x)) cH (by rwa [fI]at xX) ?_ ?_)
   . show ((((DA B).append_right (Z2.drop x)).append_left D).trans (EB ez.symm)).trans hp2
   .
    rw[<- fI,sK (by simp;lia),oI (by simp;lia)]
    show back Di eq2
  . show js () Z2 st' hs2 hp2 (e▸Di)
 intro u Z3 cH xX hp3 f3;have l3:(Z3.take x).length=x:=by rw[i8,hp3.length_eq];lia
 apply hV (tL (P:=P) (B:=Z3.take x) (S:=Z3.drop x) xX (by rw[kA]) rfl (by rw[l3]) λiD xY=>?_)
 have Ah:((Z3.take x).reverse++Z3.drop x).Perm Z:=by have:=(DA (Z3.take x)).append_right (Z3.drop x);rw[kA]at this;show this.trans hp3
 have pw4:(((Z3.take x).reverse++Z3.drop x).take x).Pairwise (Le lt):=by
  rw[sK (by rw[BN,l3];show d5 _),oI (by rw[BN,l3];show d5 _)]
  show DL.mpr f3
 generalize (Z3.take x).reverse++Z3.drop x=Z4 at *;apply aX (λy c st'=>iD=st'/\c=(none,y)/\(Z4.take y).Pairwise (Le lt)/\1<=y) (λc st'=>iD=st'/\∃n,c=(none,n)/\1<=n/\n<=Z.length/\(Z4.take n).Pairwise (Le lt)) ?_ ?_ #[rfl,rfl,pw4,x1] ?_
 . rintro F hF y c st' h1 hy ⟨rfl,rfl,pw,y1⟩;subst hF;show hV (ask (t:=y) (u:=y - 1) xY Ah rfl (Hx y1) hy (yY (CC _ _) hy) (fV (λ_=>i6 #[rfl,y,rfl,y1,AY hy,pw]) λe=>i6 #[rfl,rfl,j5 hr ht pw y1 (by rw[Ah.length_eq];show hy) e,BF _]))
 .
  rintro c st' ⟨rfl,rfl,pw,y1⟩;have e:max x Z.length=Z.length:=Nat.max_eq_right x2;dsimp only at pw y1 ⊢
  rw[e]at pw y1 ⊢
  show#[rfl,_,rfl,y1,d5 _,pw]
 . rintro G hG c st' ⟨rfl,n,rfl,y1,y2,pw⟩;subst hG;show i6 (h iD n Z4 xY y1 y2 Ah pw)
end
open PySem PySem.W PyProof.Rows
section
variable{prog:Program}{w:World}{A:Around}{E:Value->Shared->Prop}{s:Shared}
variable{pr:Nat->Keyed}{lt:Nat->Nat->Bool}{N:Nat}{κ:SortKind}{pd:Array (Nat×Nat×Nat)}{st:SortSt}
def gk1{l r:Nat}(a : ¬ l ≥ r):l<=(l+r) / 2/\(l+r) / 2<r:=by lia
def Dj(hc:jY prog w A E s pr lt N κ)(hr:∀x,lt x x=false)(ht:∀x y z,Le lt x y->Le lt y z->Le lt x z)(hl:∀x y,lt x y=true->Le lt x y){P Z:List Nat}{n ok:Nat}{Q:Bool->SortSt->Prop}(hs:Hs pr κ (P++Z) pd st)(hN:∀i∈P++Z,i<N)(hn:n<=Z.length)(ok1:1<=ok)(ok2:ok<=n)(pw:(Z.take ok).Pairwise (Le lt))
  (h:∀st' Z',Hs pr κ (P++Z') pd st'->Z'.Perm Z->(Z'.take n).Pairwise (Le lt)->Q true st'):wpS (model prog w) A E s (binarySort' P.length n ok) Q st:=by
 apply aX (λk c st'=>c=(none,⟨⟩)/\1<=k/\∃Z',Hs pr κ (P++Z') pd st'/\Z'.Perm Z/\(Z'.take k).Pairwise (Le lt)) (λc st'=>c=(none,⟨⟩)/\∃Z',Hs pr κ (P++Z') pd st'/\Z'.Perm Z/\(Z'.take n).Pairwise (Le lt)) ?_ ?_ #[rfl,by lia,Z,hs,mE _,by rw[Nat.max_eq_left ok1];show pw] ?_
 .
  rintro F hF k c dN h1 hk ⟨rfl,k1,Z1,hs1,hp1,Yy⟩;subst hF;have l1:=hp1.length_eq;have hk1:k<Z1.length:=by lia
  have hN1:∀i∈P++Z1,i<N:=λi hi=>hN i (by rcases l9.mp hi with z |z;show l7 _ z;show gL _ (hp1.mem_iff.mp z))
  have up:∀{t u},t<=u->u<k->Le lt (Z1.getD t 0) (Z1.getD u 0):=λ{t u} h1 h2=>by
   have:=pw_get hr Yy h1 (by rw[i8];lia)
   simpa [bP,show t<k by lia,h2]using this
  have ask:∀{u:Nat}{Q:Option Bool->SortSt->Prop},u<k->Q (!(lt (Z1.getD k 0) (Z1.getD u 0))) dN->wpS (model prog w) A E s (ltAt' (P.length+k) (P.length+u)) Q dN:=λh q=>by
   apply Ag hc hs1 hN1 (by rw[dS];lia) (by rw[dS];lia) ?_
   rw[nJ,nJ];show q
  apply aX (λy c st'=>dN=st'/\∃l r,c=(none,l,r)/\r - l+y<=k/\l<=r/\r<=k/\(∀t,t<l->Le lt (Z1.getD t 0) (Z1.getD k 0))/\(∀t,r<=t->t<k->lt (Z1.getD k 0) (Z1.getD t 0)=true))
   (λc st'=>dN=st'/\∃l,c=(none,l,l)/\l<=k/\(∀t,t<l->Le lt (Z1.getD t 0) (Z1.getD k 0))/\(∀t,l<=t->t<k->lt (Z1.getD k 0) (Z1.getD t 0)=true)) ?_ ?_ #[rfl,0,k,rfl,d5 _,oP _,d5 _,λt q=>(nomatch q),λt q1 q2=>absurd q2 (Nat.not_lt.mpr q1)] ?_
  .
   rintro F hF y c st' _ hy ⟨rfl,l,r,rfl,h1,h2,h3,h4,h5⟩;subst hF;apply aM (λhlr=>?_) λhlr=>?_
   . obtain rfl:l=r:=EA h2 hlr;show i6 #[rfl,l,rfl,h3,h4,h5]
   have hm:=gk1 hlr;apply hV (ask (u:=(l+r) / 2) (fN hm.2 h3) ?_);generalize (l+r) / 2=m at hm ⊢
   have hmk:=fN hm.2 h3;apply fV (λe=>?_) λe=>?_
   .
    apply i6 #[rfl,l,m,rfl,(ga9 h1 hm).2,hm.1,AY hmk,h4,λt q1 q2=>?_]
    cases e2:lt (Z1.getD k 0) (Z1.getD t 0)with
    |true=>rfl
    |false=>have:=ht _ _ _ (up q1 q2) e2;rw[Le,e]at this;cases this
   . show i6 #[rfl,m+1,r,rfl,(ga9 h1 hm).1,hm.2,h3,λt q=>ht _ _ _ (up (Ap q) hmk) e,h5]
  .
   rintro c st' ⟨rfl,l,r,rfl,h1,h2,h3,h4,h5⟩;obtain rfl:l=r:=by lia
   show#[rfl,l,rfl,h3,h4,h5]
  .
   rintro G hG c st' ⟨rfl,l,rfl,h3,h4,h5⟩;subst hG;have lt1:(Z1.take l).length=l:=by rw[i8];lia
   have lt2:((Z1.take k).drop l).length=k - l:=by rw[BY,i8];lia
   have tk:Z1.take k=Z1.take l++(Z1.take k).drop l:=by
    have:=(kA l (Z1.take k)).symm
    rwa [List.take_take,AS h3]at this
   have ez:Z1=Z1.take l++((Z1.take k).drop l++Z1.getD k 0::Z1.drop (k+1)):=by
    have e:Z1.drop k=Z1.getD k 0::Z1.drop (k+1):=by simp[hk1]
    rw[<- fI,<- tk,<- e,kA]
   apply hV (NX hs1 (by rw[fI,<- ez]) (by rw[dS,lt1,lt2];lia) (by rw[dS,lt1]) λcH xX=>i6 #[rfl,by lia,Z1.take l++(Z1.getD k 0::((Z1.take k).drop l++Z1.drop (k+1))),by rwa [fI]at xX,?_,?_])
   . apply List.Perm.trans ?_ hp1;apply List.Perm.trans ?_ (EB ez.symm);show (List.perm_middle.symm).append_left _
   .
    have e:(Z1.take l++(Z1.getD k 0::((Z1.take k).drop l++Z1.drop (k+1)))).take (k+1)=Z1.take l++(Z1.getD k 0::(Z1.take k).drop l):=by rw[DV,oI (i:=k+1) ⋯,lt1,show k+1 - l=(k - l)+1 by lia,List.take_succ_cons,sK ⋯,oI (i:=k - l) ⋯]
    rw[e];let(d1,d2,d3):=l8.mp (tk▸Yy);have a1:=tK (i:=0) (m:=l) (P:=λx=>Le lt x (Z1.getD k 0)) λt _ q _=>h4 t q
    have a2:=tK λt q1 q2 _=>hl _ _ (h5 t q1 q2)
    apply l8.mpr #[d1,tJ.mpr #[a2,d2],λx hx y hy=>?_]
    rcases eC.mp hy with rfl |hy
    . show a1 x hx
    . show d3 x hx y hy
 . rintro c st' ⟨rfl,k1,Z1,hs1,hp1,Yy⟩;show#[rfl,Z1,hs1,hp1,by rwa [show max (max ok 1) n=n by lia]at Yy]
 . rintro G hG c st' ⟨rfl,Z1,hs1,hp1,Yy⟩;subst hG;show i6 (h st' Z1 hs1 hp1 Yy)
end
open PySem PySem.W PyProof.Rows
abbrev offs:Nat->List (List Nat)->List (Nat×Nat)
 |_,[]=>[]
 |s,r::rs=>(s,r.length)::offs (s+r.length) rs
def j6:∀(s:Nat) (R T:List (List Nat)),offs s (R++T)=offs s R++offs (s+R.flatten.length) T
 |s,[],T=>by simp[offs]
 |s,r::R,T=>by
  exact (s,r.length)::offs (s+r.length) (R++T)=_;rw[j6,BA,dS,C2];rfl
def pC:∀(s:Nat) (R:List (List Nat)),(offs s R).length=R.length
 |_,[]=>rfl
 |s,r::R=>by exact (offs (s+r.length) R).length+1=_;rw[pC,mB]
def Hy{α β:Type}(f:α->β):∀(l:List α) (j:Nat),(l.eraseIdx j).map f=(l.map f).eraseIdx j
 | [],_=>rfl
 |_::_,0=>rfl
 |x::l,j+1=>by rw[List.eraseIdx_cons_succ,List.map_cons,List.map_cons,List.eraseIdx_cons_succ,Hy f l j]
meta abbrev ol(x:Nat×Nat×Nat):Nat×Nat:=(x.1,x.2.1)
structure Rs(lt:Nat->Nat->Bool)(R:List (List Nat))(pd:Array (Nat×Nat×Nat)):Prop where
 o:pd.toList.map ol=offs 0 R
 r:∀x∈R,1<=x.length/\x.Pairwise (Le lt)
def Rs.len{lt:Nat->Nat->Bool}{R:List (List Nat)}{pd:Array (Nat×Nat×Nat)}(h:Rs lt R pd):pd.size=R.length:=by rw[<- eD,<- eA,h.o,pC]
section
variable{prog:Program}{w:World}{A:Around}{E:Value->Shared->Prop}{s:Shared}
variable{pr:Nat->Keyed}{lt:Nat->Nat->Bool}{N:Nat}{κ:SortKind}{pd:Array (Nat×Nat×Nat)}{st:SortSt}
def pF(hc:jY prog w A E s pr lt N κ)(hr:∀x,lt x x=false)(ht:∀x y z,Le lt x y->Le lt y z->Le lt x z)(hl:∀x y,lt x y=true->Le lt x y){R:List (List Nat)}{Z:List Nat}{i:Nat}{Q:Bool->SortSt->Prop}(hs:Hs pr κ (R.flatten++Z) pd st)(rs:Rs lt R pd)(hN:∀i∈R.flatten++Z,i<N)(hi:i+1<R.length)
  (h:∀st' R' VF,Hs pr κ (R'.flatten++Z) VF st'->Rs lt R' VF->R'.length+1=R.length->R'.flatten.Perm R.flatten->Q true st'):wpS (model prog w) A E s (mergeAt' i) Q st:=by
 obtain⟨R1,X,Y,R2,rfl,hi1⟩:∃R1 X Y R2,R=R1++X::Y::R2/\R1.length=i:=by
  apply#[R.take i,R[i],R[i+1],R.drop (i+2),?_,by rw[i8];lia]
  rw[<- wP,<- wP,kA]
 have eo:pd.toList.map ol=offs 0 R1++(R1.flatten.length,X.length)::(R1.flatten.length+X.length,Y.length)::offs (R1.flatten.length+X.length+Y.length) R2:=by rw[rs.o,j6,v4];rfl
 have lo:(offs 0 R1).length=i:=by rw[pC,hi1]
 have at':∀j a b,(pd.toList.map ol)[j]?=!(a,b)->∃c,pd[j]?=!(a,b,c):=λj a b q=>by
  rw[mM,nS]at q;let((a',b',c),q1,q2):=v6.mp q;show#[c,by rw[q1];simp_all]
 let(pw,p0):=at' i _ _ (by rw[eo,b6 ⋯,lo,Cf];rfl)
 let(pw',p1):=at' (i+1) _ _ (by rw[eo,b6 ⋯,lo,lS];rfl)
 let(x1,x2):=rs.r X ⋯;let(y1,y2):=rs.r Y ⋯;apply yD hc hr ht hl (P:=R1.flatten) (S:=R2.flatten++Z) hs.k (λi hi=>hN i (DZ.mp hi)) hs.a hs.f ⋯ x2 y2 x1 y1 (by rw[hs.p];show p0) (by rw[hs.p];show p1) λq' C st' c1 c2 c3 c4 c5 c6 c7=>?_
 apply h st' (R1++C::R2) _ #[by rw[c1,show q'=(q'.toList).toArray by simp,c2];simp,c5,c6,c7] #[?_,λx hx=>?_] (by simp;lia) ?_
 .
  rw[hs.p];have uJ:i+1<pd.size:=by rw[rs.len];show hi
  have:((pd.setIfInBounds i (R1.flatten.length,X.length+Y.length,pw)).eraseIdxIfInBounds (i+1)).toList.map ol=((pd.toList.map ol).set i (R1.flatten.length,X.length+Y.length)).eraseIdx (i+1):=by
   have hz2:i+1<(pd.setIfInBounds i (R1.flatten.length,X.length+Y.length,pw)).size:=by rw[Array.size_setIfInBounds];show uJ
   delta Array.eraseIdxIfInBounds;rw[dif_pos hz2,Array.toList_eraseIdx,Hy,Array.toList_setIfInBounds,List.map_set]
  rw[this,eo,AG _ _ ⋯,lo,Cf,List.eraseIdx_append_of_length_le ⋯,lo,lS];exact offs 0 R1++((R1.flatten.length,X.length+Y.length)::offs (R1.flatten.length+X.length+Y.length) R2)=_;rw[j6,v4];exact _=offs 0 R1++((R1.flatten.length,C.length)::offs (R1.flatten.length+C.length) R2);rw[c4.length_eq,dS,C2]
 .
  rcases l9.mp hx with hx |hx
  . show rs.r x (by simp[hx])
  .
   rcases eC.mp hx with rfl |hx
   . show#[by rw[c4.length_eq,dS];lia,c3]
   . show rs.r x (by simp[hx])
 . simp only[List.flatten_append,BA];rw[<- fI X];show (c4.append_right _).append_left _
def md(p:Array (Nat×Nat×Nat))(i c:Nat):(p.modify i λx=>(x.1,x.2.1,c)).toList.map ol=p.toList.map ol:=by
 apply BC λj=>?_
 rw[mM,mM,nS,nS,Array.getElem?_modify];split
 . cases p[j]? <;> rfl
 . rfl
def Hz(hc:jY prog w A E s pr lt N κ)(hr:∀x,lt x x=false)(ht:∀x y z,Le lt x y->Le lt y z->Le lt x z)(hl:∀x y,lt x y=true->Le lt x y){L:List Nat}{Q:Unit->SortSt->Prop}(hs:Hs pr κ L ([].toArray) st)(hN:∀i∈L,i<N)
  (h:∀st' L' VF,Hs pr κ L' VF st'->L'.Perm L->L'.Pairwise (Le lt)->Q () st'):wpS (model prog w) A E s sortRuns' Q st:=by
 have sz:(arrOf st).size=L.length:=by rw[hs.a];simp
 apply hV (wpS_get ?_);rw[sz]
 extract_lets mr mn lo0
 let I0:=λx (c:Option PUnit×Nat) st'=>∃R Z pd lo,c=(none,lo)/\Hs pr κ (R.flatten++Z) pd st'/\Rs lt R pd/\(R.flatten++Z).Perm L/\lo=R.flatten.length/\x<=lo
 let Q0:=λ(c:Option PUnit×Nat) st'=>∃R pd lo,c=(none,lo)/\Hs pr κ R.flatten pd st'/\Rs lt R pd/\R.flatten.Perm L
 apply aX I0 Q0 ?_ ?_ #[[],L,([].toArray),0,rfl,hs,#[rfl,λx hx=>(nomatch hx)],mE _,rfl,d5 _] ?_
 .
  rintro F hF x c dN _ hx ⟨R,Z,VG,lo,rfl,hs1,RJ,hp1,rfl,hx2⟩;subst hF;have e1:=hp1.length_eq;rw[dS]at e1;apply aM (λhge=>?_) λhge=>?_
  . obtain rfl:Z=[]:=AM ⋯;rw[oT]at hs1 hp1;show i6 #[R,VG,_,rfl,hs1,RJ,hp1]
  rw[show mr - R.flatten.length=Z.length from Nat.sub_eq_of_eq_add (by rw[Nat.add_comm];show e1.symm)]
  have mem:∀{R':List (List Nat)}{Z':List Nat},R'.flatten.Perm R.flatten->Z'.Perm Z->∀i∈R'.flatten++Z',i<N:=λh1 h2 i hi=>hN i (hp1.mem_iff.mp ((h1.append h2).mem_iff.mp hi))
  apply hV (vE hc hr ht hl hs1 (mem (mE _) (mE _)) ⋯ λaJ m Z2 hs2 m1 m2 hp2 Di=>?_)
  dsimp -zeta only
  extract_lets +onlyGivenNames n0 jp
  apply jZ (λR'=>∀u n Z3 cH,Hs pr κ (R.flatten++Z3) VG cH->Z3.Perm Z->1<=n->n<=Z.length->(Z3.take n).Pairwise (Le lt)->R' (jp u n) cH) ?_ ?_
  .
   intro js;apply aM (λhm=>?_) λhm=>?_
   .
    apply hV (wpS_lift (y8 #[rfl,?_]));apply hV (Dj hc hr ht hl hs2 (mem (mE _) hp2) (by rw[hp2.length_eq];lia) m1 ⋯ Di λcH Z3 xX hp3 pw3=>?_)
    show js () _ Z3 cH xX (hp3.trans hp2) ⋯ ⋯ pw3
   . show js () _ Z2 aJ hs2 hp2 m1 m2 Di
  intro u n Z3 cH xX hp3 n1 n2 pw3;apply hV (wpS_get ?_)
  extract_lets +onlyGivenNames l2 VB
  apply jZ (λR'=>∀u R4 iD,Hs pr κ (R4.flatten++Z3) (pendingOf iD) iD->Rs lt R4 (pendingOf iD)->R4.flatten.Perm R.flatten->R' (VB u) iD) ?_ ?_
  .
   intro js;split
   .
    let I1:=λ(c:Option PUnit×Unit) st'=>c=(none,())/\∃R4 Yz,Hs pr κ (R4.flatten++Z3) Yz st'/\Rs lt R4 Yz/\R4.flatten.Perm R.flatten
    apply aX (λ_=>I1) I1 ?_ (λ_ _ h=>h) #[rfl,R,VG,xX,RJ,mE _] ?_
    .
     rintro F hF y c iD _ hy ⟨rfl,R4,Yz,xY,Lj,Ah⟩;subst hF;apply hV (wpS_get ?_);dsimp only;split
     .
      ext a b older heq;have h2:(pendingOf iD).size=R4.length:=by rw[xY.p,Lj.len]
      split
      . show i6 #[rfl,R4,Yz,xY,Lj,Ah]
      apply hV (pF hc hr ht hl xY Lj (mem Ah hp3) ⋯ λjq R5 pd5 h5 r5 _ p5=>?_)
      show i6 #[rfl,R5,pd5,h5,r5,p5.trans Ah]
     . show i6 #[rfl,R4,Yz,xY,Lj,Ah]
    .
     rintro G hG c iD ⟨rfl,R4,Yz,xY,Lj,Ah⟩;subst hG;apply hV (CO ?_);apply js () R4 _ ?_ ?_ Ah
     . show#[xY.a,xY.k,xY.f,rfl]
     . show#[(md (pendingOf iD) _ _).trans (by rw[<- Lj.o,<- xY.p]),Lj.r]
   . show js () R cH (by rw[xX.p];show xX) (by rw[xX.p];show RJ) (mE _)
  intro u R4 iD xY Lj Ah;apply hV (CO (i6 #[R4++[Z3.take n],Z3.drop n,(pendingOf iD).push (R.flatten.length,n,0),_,rfl,#[by rw[show (R4++[Z3.take n]).flatten++Z3.drop n=R4.flatten++Z3 by simp];show xY.a,xY.k,xY.f,rfl],#[?_,λx hx=>?_],?_,?_,by lia]))
  . have l4:=Ah.length_eq;rw[Do,AH,Lj.o,j6,v4,l4];exact _=offs 0 R4++[(R.flatten.length,(Z3.take n).length)];rw[i8,hp3.length_eq,AS n2];rfl
  .
   rcases l9.mp hx with hx |hx
   . show Lj.r x hx
   . rw[eP.mp hx];show#[by rw[i8,hp3.length_eq];lia,pw3]
  .
   rw[show (R4++[Z3.take n]).flatten++Z3.drop n=R4.flatten++Z3 by simp]
   show (Ah.append hp3).trans hp1
  . exact R.flatten.length+n=_;rw[List.flatten_append,dS,Ah.length_eq];simp[hp3.length_eq,AS n2]
 . rintro c dN ⟨R,Z,VG,lo,rfl,hs1,RJ,hp1,rfl,hx2⟩;have e:=hp1.length_eq;rw[dS]at e;obtain rfl:Z=[]:=AM ⋯;rw[oT]at hs1 hp1;show#[R,VG,_,rfl,hs1,RJ,hp1]
 .
  rintro G hG c dN ⟨R,VG,lo,rfl,hs1,RJ,hp1⟩;subst hG;apply aX (λx c st'=>c=(none,())/\∃R pd,Hs pr κ R.flatten pd st'/\Rs lt R pd/\R.flatten.Perm L/\(R.length<=1\/R.length+x<=L.length)) (λc st'=>c=(none,())/\∃R pd,Hs pr κ R.flatten pd st'/\Rs lt R pd/\R.flatten.Perm L/\R.length<=1) ?_ ?_ #[rfl,R,VG,hs1,RJ,hp1,.inr ?_] ?_
  .
   rintro F hF x c aJ _ hx ⟨rfl,R,pd2,hs2,VH,hp2,h2⟩;subst hF;have sz2:(pendingOf aJ).size=R.length:=by rw[hs2.p,VH.len]
   apply hV (wpS_get ?_);apply aM (λh1=>i6 #[rfl,R,pd2,hs2,VH,hp2,sz2▸h1]) λh1=>?_
   replace h1 : ¬ R.length<=1:=sz2▸h1;have go:∀i,i+1<R.length->wpS (model prog w) A E s (mergeAt' i) (λb st'=>b=true/\∃R pd,Hs pr κ R.flatten pd st'/\Rs lt R pd/\R.flatten.Perm L/\(R.length<=1\/R.length+(x+1)<=L.length)) aJ:=λi hi=>by
    apply pF hc hr ht hl (by rwa [oT]) VH (λi hi=>hN i (hp2.mem_iff.mp (by rwa [oT]at hi))) hi λcH R3 pd3 h3 r3 l3 p3=>#[rfl,R3,pd3,by rwa [oT]at h3,r3,p3.trans hp2,by lia]
   apply hV (wpS_mono (go _ ?_) λb cH #[hb,R3,pd3,h3,r3,p3,l3]=>?_)
   . rw[sz2];split <;> lia
   . subst hb;show i6 #[rfl,R3,pd3,h3,r3,p3,l3]
  . rintro c aJ ⟨rfl,R,pd2,hs2,VH,hp2,h2⟩;show#[rfl,R,pd2,hs2,VH,hp2,by change R.length<=1\/R.length+max 0 L.length<=L.length at h2;lia]
  .
   rw[<- hp1.length_eq];have:∀R:List (List Nat),(∀x∈R,1<=x.length/\x.Pairwise (Le lt))->R.length<=R.flatten.length:=λR=>by
    induction R with
    |nil=>show λ_=>d5 _
    |cons r R ih=>
     intro q;have:=ih λx hx=>q x (b0 _ hx)
     have:=(q r dA).1;rw[BA,dS,mB];lia
   show this R RJ.r
  .
   rintro G hG c aJ ⟨rfl,R,pd2,hs2,VH,hp2,h2⟩;subst hG;apply i6 (h aJ R.flatten pd2 hs2 hp2 ?_)
   match R,h2,VH.r with
   | [],_,_=>show List.Pairwise.nil
   | [r],_,q=>rw[BA,List.flatten_nil,oT];show (q r dA).2
end
open L2 PySem.W
section
variable{α:Type}{key:Nat->α}
abbrev dF(s:Shared)(a:Addr)(vs:List Value):Shared:={ s with heap:=((s.heap.update a (Obj.mapSeq λ_=>([].toArray))).push (seqObj "tuple" vs.toArray 0)).push (seqObj "list" ([].toArray) 0)}
def mz(hb:b≠a)(h:s.heap.get? b=!o):(dF s a vs).heap.get? b=!o:=
 dE _ (dE _ ((pE s.heap _ hb.symm).trans h))
def vF{a:Addr}{vs:List Value}{n:Nat}{P:PySem.Fin->Shared->Prop}(ho:s.heap.get? a=!(seqObj "list" vs.toArray n))(h2:2<=vs.length)(h64:vs.length<100000)
  (hk:∀Q:SortKind->Shared->Prop,Q κ (dF s a vs)->wpAny (model prog w) A (keyKind' vs.toArray) Q (λ_ _=>False) (dF s a vs))
  (hc:∀i j C,i<vs.length->j<vs.length->C (qLt O key i j) (dF s a vs)->kas_ask prog w A κ vs i j C (dF s a vs))
  (h:∀p:Array Nat,p.Perm (List.range vs.length).toArray->Vy O key p vs.length->P (.done (.ret .none)) { s with heap:=sortedHeap s.heap a vs (p.toList.map λi=>vs.getD i Value.none).toArray}) :
  wpAny (model prog w) A (Builtin.«list.sort» #[[.ref a],[]]) P E s:=by
 obtain⟨e1,Fw⟩:∃e1,(s.heap.update a (Obj.mapSeq λ_=>([].toArray))).get? a=!(seqObj "list" ([].toArray) e1):=#[_,get?_update_seq ho (λ_=>([].toArray))]
 have ho3:(dF s a vs).heap.get? a=!(seqObj "list" ([].toArray) e1):=dE _ (dE _ Fw);have hz:vs.length<=sizeLine:=(by rw[t8];lia)
 rw[list_sort_plain];apply aS (listItems_at ho rfl (aS (listUpdate_at ho rfl (aS (seqEpoch_at Fw rfl (aS (wpAny_newTuple (aS (CB (nN ?_) (oP _))) (by exact vs.length<=_;show hz))))) (by simpa using hz) (oP _))))
 have hn : ¬ vs.toArray.size<2:=by rw[d6];lia
 rw[eR hn,eR hn];apply aS (o5 (hk (λk s0=>k=κ/\s0=dF s a vs) #[rfl,rfl]) ?_ λ_ _ z=>z.elim)
 rintro κ _ ⟨rfl,rfl⟩;have as:jY prog w A E (dF s a vs) (λi=>(vs.getD i .none,vs.getD i .none)) (qLt O key) vs.length κ:=λi j hi hj st Q hk hQ=>by
  rw[lt'_eq];apply hV (wpS_get ?_);rw[hk];apply hV (wpS_lift (D5 (o5 (hc i j (λb s'=>s'=dF s a vs/\b=qLt O key i j) hi hj #[rfl,rfl]) ?_ λ_ _ z=>False.elim z)))
  rintro _ _ ⟨rfl,rfl⟩;show#[rfl,i6 hQ]
 have st0:Hs (λi=>(vs.getD i .none,vs.getD i .none)) κ (List.range vs.length) ([].toArray) (SortSt.mk' κ (vs.toArray.zip vs.toArray) ([].toArray) 7 none):=#[?_,rfl,rfl,rfl]
 apply aS (o5 (Hz as (λx=>O.Yw _) (λx y z h1 h2=>o9.RC (O:=O) h1 h2) (λx y h=>o9.le_of_lt (O:=O) h) st0 (λi hi=>o6.mp hi) (Q:=λ_ st'=>failedOf st'=none/\∃p:Array Nat,p.Perm (List.range vs.length).toArray/\Vy O key p vs.length/\(arrOf st').map (·.2)=(p.toList.map λi=>vs.getD i Value.none).toArray) λst' L' VF hs' hp hw=>?_) ?_ λ_ _ z=>z)
 .
  apply#[hs'.f,L'.toArray,AT.mpr hp,λi j hij hj=>?_,?_]
  .
   have:=pw_get (R:=Le (qLt O key)) (λx=>O.Yw _) hw hij (by rw[hp.length_eq,DB];show hj)
   delta kAt;rw[show ∀i,L'.toArray.getD i 0=L'.getD i 0 from λi=>by simp[bP],show ∀i,L'.toArray.getD i 0=L'.getD i 0 from λi=>by simp[bP]]
   show this
  . rw[hs'.a];refine Array.toList_inj.mp;simp
 .
  rintro⟨⟨⟩,st'⟩ s' ⟨rfl,hf,p0,q2,q3,hout⟩;dsimp only at hf hout ⊢
  rw[hout];apply aS (seqEpoch_at ho3 rfl (aS (listUpdate_at ho3 rfl ?_ (oP _) (by exact (List.toArray _).size<=_;rw[d6,eA,eD,q2.size_eq];simp;lia))))
  rw[hf];simp only[bne_self_eq_false];show dC (h p0 q2 q3)
 .
  refine Array.toList_inj.mp;apply B0 ⋯ λi h1 h2=>?_
  simp[bP]at h1 h2 ⊢
  simp[h2]
def Ai{β:Type}:∀l:List β,(l.zip l).map (·.2)=l
 | []=>rfl
 |x::l=>by rw[List.zip_cons_cons,List.map_cons,Ai l]
def vG(ho:s.heap.get? a=!(seqObj "list" vs.toArray n))(h2:vs.length<2)
  (h:P (.done (.ret .none)) { s with heap:=sortedHeap s.heap a vs vs.toArray}):wpAny (model prog w) A (Builtin.«list.sort» ⟨[.ref a],[]⟩) P E s:=by
 obtain⟨e1,Fw⟩:∃e1,(s.heap.update a (Obj.mapSeq λ_=>([].toArray))).get? a=!(seqObj "list" ([].toArray) e1):=#[_,get?_update_seq ho (λ_=>([].toArray))]
 have ho3:(dF s a vs).heap.get? a=!(seqObj "list" ([].toArray) e1):=dE _ (dE _ Fw);have hz:vs.length<=sizeLine:=(by rw[t8];lia)
 rw[list_sort_plain];apply aS (listItems_at ho rfl (aS (listUpdate_at ho rfl (aS (seqEpoch_at Fw rfl (aS (wpAny_newTuple (aS (CB (nN ?_) (oP _))) (by exact vs.length<=_;show hz))))) (by simpa using hz) (oP _))))
 have hn:vs.toArray.size<2:=by rw[d6];lia
 dsimp only;rw[fR hn,fR hn];apply aS (dC ?_);apply aS (dC ?_);have hout:(arrOf (SortSt.mk' general' (vs.toArray.zip vs.toArray) ([].toArray) 7 none)).map (·.2)=vs.toArray:=by exact (vs.toArray.zip vs.toArray).map (·.2)=vs.toArray;refine Array.toList_inj.mp;simp only[Array.toList_map,Array.toList_zip];show Ai vs
 rw[hout];apply aS (seqEpoch_at ho3 rfl (aS (listUpdate_at ho3 rfl ?_ (oP _) (by exact vs.toArray.size<=_;rw[d6];lia))))
 rw[eR ⋯];show dC h
abbrev HB(h:Heap)(vs:List Value):Heap:=((h.push (seqObj "list" ([].toArray) 0)).update h.objs.size (Obj.mapSeq (· ++ vs.toArray))).push (seqObj "list" vs.toArray 0)
def rK(h:Heap)(vs:List Value):((h.push (seqObj "list" ([].toArray) 0)).update h.objs.size (Obj.mapSeq (· ++ vs.toArray))).objs.size=h.objs.size+1:=(Heap.size_update ..).trans (size_push' ..)
def tM(h:Heap)(vs:List Value):(HB h vs).get? (h.objs.size+1)=!(seqObj "list" vs.toArray 0):=by have:=eM ((h.push (seqObj "list" ([].toArray) 0)).update h.objs.size (Obj.mapSeq (· ++ vs.toArray))) (o:=seqObj "list" vs.toArray 0) rfl;rw[rK]at this;show this
def vH(e:h.get? b=!o):(HB h vs).get? b=!o/\b≠h.objs.size+1:=by have hb:=fA e;apply#[dE _ ?_,mP (Nat.lt_succ_of_lt hb)];rw[pE _ _ (Nat.ne_of_gt hb)];show dE _ e
def Dk{l:Addr}{vs:List Value}{Q:Value->Shared->Prop}(hl:s.heap.IsList l vs.toArray)(hz:vs.length<=sizeLine)
  (h:wpAny (model prog w) A.in1.in1 (Builtin.«list.sort» #[[.ref (s⁻¹+1)],[]]) (λf s'=>f=.done (.ret .none)/\Q (.ref (s⁻¹+1)) s') E { s with heap:=HB s.heap vs}) :
  wpAny (model prog w) A (call (.builtin "sorted") [.ref l]) Q E s:=by
 apply CI kind_sorted plain_sorted entry_sorted (args_sorted1 _) ?_;apply aS (dC (aS (collect_list hl ?_ hz)));apply aS (CB ?_ hz);rw[rK];apply aS (nN (u7 slot_list_sort #[_,tM _ _,rfl] entry_list_sort (o5 h (λf s' hf=>#[_,hf.1,?_]) λ_ _ z=>z) (args_list_sort _)))
 show dC #[_,rfl,hf.2]
end
def eL:∀a:List Int,HT.lexLt a a=false
 | []=>rfl
 |x::a=>by rw[HT.bV,fR rfl,eL a]
def j7:∀a b c:List Int,HT.lexLt a b=true->HT.lexLt b c=true->HT.lexLt a c=true
 | [],[],_,h,_=>by symm
 |_::_,[],_,h,_=>by symm
 |_,_::_,[],_,h=>by symm
 | [],_::_,_::_,_,_=>rfl
 |x::a,y::b,z::c,h1,h2=>by
  rw[HT.bV]at h1 h2 ⊢
  by_cases e1:x=y
  .
   rw[fR e1]at h1;subst e1;by_cases e2:x=z
   .
    rw[fR e2]at h2 ⊢
    show j7 a b c h1 h2
   .
    rw[eR e2]at h2 ⊢
    show h2
  .
   rw[eR e1]at h1;by_cases e2:y=z
   . rw[fR e2]at h2;subst e2;rw[eR e1];show h1
   . rw[eR e2]at h2;rw[eR ⋯];show oC ⋯
def kZ:∀a b:List Int,HT.lexLt a b=false->HT.lexLt b a=false->a=b
 | [],[],_,_=>rfl
 | [],_::_,h,_=>by symm
 |_::_,[],_,h=>by symm
 |x::a,y::b,h1,h2=>by
  rw[HT.bV]at h1 h2;by_cases e:x=y
  . subst e;rw[fR rfl]at h1 h2;rw[kZ a b h1 h2]
  .
   rw[eR e]at h1;rw[eR (λz=>e z.symm)]at h2
   lia
abbrev gU:o9 (~~~0):=#[HT.lexLt,eL,j7,kZ]
section
variable{α:Type}(O:o9 α)
abbrev Dl(a:α):List α->List α
 | []=>[a]
 |b::l=>if O.lt b a then b::Dl a l else a::b::l
abbrev bf:List α->List α
 | []=>[]
 |a::l=>Dl O a (bf l)
variable{O}
def lg(a:α):∀l:List α,(Dl O a l).Perm (a::l)
 | []=>mE _
 |b::l=>by
  delta Dl;split
  . show ((lg a l).cons b).trans (List.Perm.swap a b l)
  . show mE _
def bD:∀l:List α,(bf O l).Perm l
 | []=>mE _
 |a::l=>(lg a _).trans ((bD l).cons a)
def mC(a:α):∀{l:List α},l.Pairwise O.le->(Dl O a l).Pairwise O.le
 | [],_=>sT _ _
 |b::l,h=>by
  let(h1,h2):=tJ.mp h;delta Dl;cases e:O.lt b a with
  |true=>
   apply tJ.mpr #[λx hx=>?_,mC a h2]
   rcases eC.mp ((lg a l).mem_iff.mp hx)with rfl |hx
   . show o9.le_of_lt e
   . show h1 x hx
  |false=>
   apply tJ.mpr #[λx hx=>?_,h]
   rcases eC.mp hx with rfl |hx
   . show e
   . show o9.RC (show O.le a b from e) (h1 x hx)
def bX:∀l:List α,(bf O l).Pairwise O.le
 | []=>List.Pairwise.nil
 |a::l=>mC a (bX l)
def fc(hp:m.Perm l)(hs:m.Pairwise O.le):m=bf O l:=
 (hp.trans (bD l).symm).eq_of_pairwise (λx y _ _ h1 h2=>o9.NK h1 h2) hs (bX l)
def bJ{β:Type}(ks:List β)(d:β):(List.range ks.length).map (λi=>ks.getD i d)=ks:=by
 apply B0 ⋯ λi h1 h2=>?_
 simp[eJ h2]
def mD(hp:p.Perm (List.range ks.length).toArray)(hr:Vy O (λi=>ks.getD i d) p ks.length):p.toList.map (λi=>ks.getD i d)=bf O ks:=by
 have hl:=AT.mp hp;apply fc ((hl.map _).trans (by rw[bJ])) ?_
 rw[AD];intro i j hi hj hij;have hs:p.size=ks.length:=by rw[hp.size_eq];simp
 rw[eA,eD]at hi hj;have:=hr i j (AY hij) ⋯;delta kAt at this;have e1:p.getD i 0=p[i]:=by simp[hi]
 have e2:p.getD j 0=p[j]:=by simp[hj]
 rw[e1,e2]at this;simpa using this
end
open L2 PySem.W
section
def HD(hv:IntsAre vs ns):∀{ws:List Value}{ms: ~~~0} (i:Nat),IntsAre ws ms->fin=decide (ns.length<ms.length)->Q (HT.lexLt ns ms) s->KatLex prog w A true fin Q (vs.zip ws) i s:=by
 induction hv with
 |nil=>
  intro ws ms i hu hf h;apply kat_nil ?_;rw[hf];cases hu with
  |nil=>show h
  |cons _=>show h
 |@cons n t vs ns hv ih=>
  intro ws ms i hu hf h;cases hu with
  |nil=>apply kat_nil ?_;rw[hf];show h
  |@cons m t' us ms hu=>
   apply kat_cons (wpAny_eqBool_int (kat_go (λe=>?_) (λe=>?_)))
   .
    have e':=eq_of_beq e;apply kat_yes (ih (i+1) hu (by rw[hf];simp) ?_)
    rw[HT.bV,fR e']at h;show h
   .
    have e':n≠m:=λq=>by rw[q]at e;simp at e
    rw[HT.bV,eR e']at h;apply kat_no ?_;cases i with
    |zero=>show oneLt_int h
    |succ i=>show kat_one _ _ (lt_int h)
def rL:Looks M h (typeOf (.int i t)) (.type "int"):=.now
end
section
abbrev gA:List D->Option (~~~5)
 | []=>![]
 |.tup l::ds=>match bI l,gA ds with |!(n::ns),!sL=>!((n::ns)::sL) |_,_=>none
 |_::_=>none
def rM(h:Vals xs us):∀{i:Nat},i<xs.length->RelV (xs.getD i .non) (us.getD i .none):=by
 induction h with
 |nil=>intro i hi;show absurd hi (oD _)
 |cons r _ ih=>
  intro i hi;cases i with
  |zero=>show r
  |succ i=>show ih (by simpa using hi)
def rN(h:Vals xs us):∀{p:List Nat},(∀i∈p,i<xs.length)->Vals (p.map λi=>xs.getD i .non) (p.map λi=>us.getD i .none)
 | [],_=>.nil
 |i::p,hp=>.cons (rM h (hp i dA)) (rN h λj hj=>hp j (b0 _ hj))
def NZ(e:bI l=!ns):l=ns.map .int:=by
 induction l generalizing ns with
 |nil=>cases e;rfl
 |cons d l ih=>cases d with
  |int i=>
   have e:(match bI l with |some ns=>!(i::ns) |none=>none)=!ns:=e
   cases e2:bI l with
   |none=>rw[e2]at e;cases e
   |some ms=>rw[e2]at e;cases e;rw[List.map_cons,<- ih e2]
  |_=>cases e
def aK.pick{K:Frag}{M:List Addr}{H:Hp}{ds:List D}{vs:List V}(h:aK K M H ds vs):∀{o:List Nat},(∀i∈o,i<vs.length)->aK K M H (o.map λi=>ds.getD i .non) (o.map λi=>vs.getD i .non)
 | [],_=>.nil
 |i::o,ho=>by
  apply .cons ?_ (h.pick λj hj=>ho j (b0 _ hj))
  have hi:=ho i dA;have hd:i<ds.length:=by rw[h.length];show hi
  let(v,e1,e2):=h.get (i:=i) (d:=ds[i]) (by simp[hd])
  have q1:ds.getD i .non=ds[i]:=by simp[hd]
  have q2:vs.getD i .non=v:=by rw[bP,e1];rfl
  exact Rep K M H (ds.getD i .non) (vs.getD i .non);rw[q1,q2];show e2
end
open L2 PySem.W
open L2 PySem.W
section
abbrev HF(X:Cx)(z:Z)(id:String)(d0 d1:D)(r:R):Prop:=
 ∀(g:G) (aj: ~~~1) (s:Shared) (J:Sg) (As M:List Addr) (H:Hp) (v0 v1:V) (u0 u1:Value) (Post:Value->Shared->Prop),L2.Inv X aj J H s->S z g J As M H->Pk z.K M H d0 v0->Pk z.K M H d1 v1->RelV v0 u0->RelV v1 u1->
  (∀v u s1 H1 bu M1,L2.Inv X aj J H1 s1->RelV v u->S z g J bu M1 H1->aq M H M1 H1->fP z g J bu M1 H1 r v->Post u s1)->wpAny (~~~2) X.A (call (.builtin id) [u0,u1]) Post X.xe s
def N1(I:L2.Inv X aj J H s)(p:Pk X.K M H d v)(r:RelV v u)(hs:cJ d=!l):s.TypeIs u (xU d)/\∀a,u=.ref a->∃ob,s.heap.get? a=!ob/\ob.dict=none:=by
 cases d with
 |tup m=>
  let(a,xs,rfl,ha,_):=p.tup;cases r;have:∃o,s.heap.get? a=!o/\o.cls=.type "tuple" /\o.dict=none:=by
   rcases ha with ⟨_,hr⟩ |⟨hk,o,e1,e2⟩
   . let(_,its,_,(o,e1,(e2,_),e3)):=hr.ok I.hok;show#[o,e1,e2,e3]
   .
    let(its,_,(o',q1,q2,_),_):=I.tuple (hk.elim (λz=>(rd0 z).elim) .inr:iE X.K H a xs)
    have:=I.uO a o e1;rw[q1]at this;cases this;show#[_,q1,q2,e2]
  let(o,e1,e2,e3):=this;show#[#[o,e1,e2],λb e=>by cases e;show#[o,e1,e3]]
 |lst m=>let(a,xs,rfl,ha,_):=p.list;cases r;let(its,_,pl,_):=I.list (dQ.of ha);let(o,n,e1,e2,e3,e4):=pl;show#[#[o,e1,e2],λb e=>by cases e;show#[o,e1,e3]]
 |fix m=>let(a,xs,rfl,ha,_):=p.fix;cases r;let(its,_,pl,_):=I.list ha.sq;let(o,n,e1,e2,e3,e4):=pl;show#[#[o,e1,e2],λb e=>by cases e;show#[o,e1,e3]]
 |_=>cases hs
def N2{o e:Expr}{name:Str}{id:String}{g g1 g2:G}{r0 r1 r:R}{d d0 d1:D}{l:List D}{jI ig:Pos}(hK:z.K=X.K)(pa:PlainAttrs (xU d))(slot:PySem.Slot (xU d) name id)(hty:typeOf (.builtin id)=pure (.type "method_descriptor"))
  (h0:aA X z o g r0 g1) (p0:pk r0 g1=!d) (hs:cJ d=!l) (ha:cT X z [e] g1 [r1] g2) (q0:pk r0 g2=!d0) (q1:pk r1 g2=!d1) (hm:HF X z id d0 d1 r)
  (hbase:attributeBase o name X.env (eval o X.env)=eval o X.env)
  (hline:(jI.endLine==ig.line)=true) (fL:starEach [e] X.env=(false,eval e X.env)::starEach [] X.env):aA X z (.Call (.Attribute o name jI) [e] [] ig) g r g2:=by
 apply aA.of λaj s J As M H Post I st k=>?_
 apply wpAny_Call_method_late hbase (by rw[fL];rfl) hline rfl (h0.run I st λv u s1 H1 bu M1 I1 r1' Lh G4 Vj=>?_)
 let(hT,hd):=N1 I1 (hK▸Lh.pk (aq.refl _ _) Vj p0) r1' hs;apply#[_,id,pa,slot,hty,hT,hd,?_];have hA:=ha.run (pos:=ig) (Post:=λus s2=>wpAny (~~~2) X.A (call (.builtin id) (u::us)) Post X.xe s2) I1 Lh λvs us s2 H2 bG M2 I2 r2 t1 t2 t3=>by
  have u9:=t1.u9 t3 (by delta u9;rw[q1];rfl)
  let(v1,rfl,pv1):=u9.one;let(u1,rfl,ru1):=vals1 r2;show hm g2 aj s2 J bG M2 H2 v v1 u u1 Post I2 t1 (t1.pk t2 Vj q0) pv1 r1' ru1 λv' u' s3 H3 rF M3 I3 r3 w1 w2 w3=>k v' u' s3 H3 rF M3 I3 r3 w1 (G4.trans (t2.trans w2)) w3
 rw[fL]at hA ⊢
 show Calls.callWith_builtin rfl (Calls.evalArgs_plain hA)
end
open L2 PySem.W SeqAt
def yE{M:Model}{A:Around}{E:Value->Shared->Prop}{s:Shared}{β:Type}{b:Nat}{c:β}{f:Nat->β->Sem (ForInStep β)}{Q:β->Shared->Prop}(h:wpAny M A (forIn (List.range' 0 b) c f) Q E s):wpAny M A (forIn [0:b] c f) Q E s:=by
 rw[Std.Legacy.Range.forIn_eq_forIn_range'];have hz:([0:b]:Std.Legacy.Range).size=b:=by simp[Std.Legacy.Range.size]
 rw[hz];show h
def vI(l:Addr)(items:Array Value)(n:Nat)(dd:Option Addr)(sl:Array (Option Value))(x:Value)(e:Value->Bool)(j:Nat)(hj:j<items.size)(hit:e items[j]=true)(hno:∀m (hm:m<items.size),m<j->e items[m]=false) :
  Meets (Builtin.«tuple.index» #[[.ref l,x],[]])
   (λA R s=>s.heap.get? l=some { cls:=.type "tuple",dict:=dd,data:=.seq items n,slots:=sl}/\(∀y,y∈items->EqAt A.in1 s y x (e y))/\R (.ok (.ret (.int j s.toks))) { s with toks:=s.toks+1}):=
 .of_wp λprog w A R s h=>by
  let(hp,g,d,tk,os):=s;let(hl,he,h):=h
  wp_walk using wpAny_loadPart' hl
  rw[show min items.size items.size=items.size from Nat.min_self _]
  apply yE (AW _ (λaD b s'=>b=(none,())/\s'=#[hp,g,d,tk,os]/\∃i,i<=j/\aD=List.range' i (items.size - i)) _ ?_ ?_ _ _ #[rfl,rfl,0,oP _,rfl])
  .
   rintro y aD b s' ⟨rfl,rfl,i,hi,hr⟩;have hlt:i<items.size:=by lia
   have hc:List.range' i (items.size - i)=i::List.range' (i+1) (items.size - (i+1)):=by rw[show items.size - i=(items.size - (i+1))+1 by lia,AX]
   rw[hc]at hr;injection hr with h1 h2;subst h1 h2;have hg:items[y]?=some items[y]:=by simp[hlt]
   rw[hg];apply aS (he _ (Array.getElem_mem hlt) prog w _ _ ?_);by_cases e1:y=j
   .
    subst e1
    wp_walk
    show#[_,rfl,h]
   .
    rw[hno y hlt ⋯]
    wp_walk
    show#[rfl,rfl,y+1,by lia,rfl]
  . rintro b s' ⟨_,_,i,hi,hr⟩;exfalso;have:=congrArg List.length hr;simp at this;lia
section
abbrev cntId:D->String
 |.tup _=> "tuple.count"
 |_=> "list.count"
abbrev HJ:D->String
 |.tup _=> "tuple.index"
 |_=> "list.index"
abbrev yF(d1:D):List D->Option Nat
 | []=>none
 |d::l=>if cL d d1=true then some 0 else match yF d1 l with |some i=>!(i+1) |none=>none
def Aj:∀{l:List D}{j:Nat},yF d1 l=!j->∃d,l[j]?=!d/\cL d d1=true/\∀m d,m<j->l[m]?=!d->cL d d1=false
 | [],_,h=>by symm
 |d::l,j,h=>by
  delta yF at h;split at h
  . ext e;symm;show#[d,rfl,e,λm _ hm=>absurd hm (oD _)]
  .
   ext e;split at h
   .
    ext i e2;symm;let(d',q1,q2,q3):=Aj e2;apply#[d',q1,q2,λm x hm hx=>?_]
    cases m with
    |zero=>cases hx;show Bool.eq_false_iff.mpr e
    |succ m=>show q3 m x ⋯ hx
   . symm
def HN(q:jc h l us)(hm:m<us.length):∃d,l[m]?=!d/\Nb h x us[m]=cL d x:=by
 let(d,e1,e2):=q.get (j:=m) (u:=us[m]) (by simp[hm])
 show#[d,e1,yu e2]
def HQ(hK:z.K=X.K)(hs:cJ d0=!l)(p1:fF d1=true)(p2:cI l=true)(hd:X.A.units+deps l+1<cLine)(hi:yF d1 l=!j):HF X z (HJ d0) d0 d1 ‹j›:=by
 intro g aj s J As M H v0 v1 u0 u1 Post I st q0 q1 r0 r1 k;rw[hK]at q0 q1;have fin:Post (.int j s.toks) { s with toks:=s.toks+1}:=k (.int _) _ _ H As M (I.tok _) ⟨_,rfl⟩ st (aq.refl _ _) (.int _);let(dj,w1,w2,w3):=Aj hi;have hjl:=(dL.mp w1).1;let(a,its,rfl,q,hz,t):=yx I q0 r0 hs p2;have el:=yw q (q1.dv I r1 p1) hd;have hl:=q.length;rw[t8]at hz;have k1:j<its.toArray.size:=by simp;lia
 have k3:∀h:j<its.toArray.size,Nb s.heap d1 its.toArray[j]=true:=λh=>by
  let(d,e1,e2):=HN q (m:=j) ⋯;rw[w1]at e1;cases e1;simpa using e2.trans w2
 have k4:∀m (hm:m<its.toArray.size),m<j->Nb s.heap d1 its.toArray[m]=false:=λm hm hlt=>by
  let(d,e1,e2):=HN q (by simpa using hm)
  simpa using e2.trans (w3 m d hlt e1)
 rcases t with ⟨rfl,⟨cls,dd,data,sl⟩,ho,hc,n,hdt⟩ |⟨hd',⟨cls,dd,data,sl⟩,ho,hc,n,hdt⟩
 . subst hc hdt;exact wpAny _ _ (call (.builtin "tuple.index") _) _ _ _;show Db F.slot_tuple_index #[_,ho,rfl] F.entry_tuple_index (F.args_tuple_index_2 _ _) (vI a its.toArray n dd sl u1 (Nb s.heap d1) j k1 (k3 k1) k4) #[ho,el,fin]
 .
  subst hc hdt;rw[show HJ d0 = "list.index" by rcases hd' with rfl |rfl <;> rfl]
  show Db F.slot_list_index #[_,ho,rfl] F.entry_list_index (F.args_list_index_2 _ _) (list_indexAt a its.toArray n dd sl u1 (Nb s.heap d1) j k1 ⋯ (k3 k1) k4) #[ho,el,fin]
end
open L2 PySem.W SeqAt
section
def qI{r:Addr}{a b c:Int}{t u v:Tok}{n:Nat}{Q:List Value->Shared->Prop}(hh:A.handled=none)(hr:IsRange s.heap r a b c t u v)(hsmall:Builtin.Range.small a b c=true)(hn:Builtin.Range.rangeSize a b c=n)(aN:n<=2 ^ 24)
  (h:∀h' tk acc,(∀b o,s.heap.get? b=!o->h'.get? b=!o)->ItemsOf (λi v=>∃t,v=.int (a+i * c) t) acc n->Q acc.toList { s with heap:=h',toks:=tk}) :
  wpAny (model prog w) A (collect (.ref r)) Q E s:=by
 delta collect;apply aS (wpAny_runValue (AF entry_proto_collect' ?_));exact wpAny _ _ (do again (.builtin "list.__iadd__" #[[<- newList [],.ref r],[]])) _ _ s
 apply aS (CB (dC #[Code.quiet_builtin _ (by decide +kernel),AF entry_list_iadd' ?_]))
 have hS:(s.heap.push (seqObj "list" ([].toArray) 0)).get? s⁻¹=!(seqObj "list" ([].toArray) 0):=eM _ rfl;rw[Around.under_plainId (by decide +kernel) _]
 exact wpAny _ _ (Builtin.List.listExtendWith (.ref s⁻¹) (.ref r) (.ref s⁻¹)) _ _ { s with heap:=s.heap.push (seqObj "list" ([].toArray) 0)};apply wpAny_extend_range (s:={ s with heap:=s.heap.push (seqObj "list" ([].toArray) 0)}) (R:=λr s'=>match r with
  |.ok (.ret v)=>wpAny (model prog w) A (match v with
   |.ref a=>do
    let o <- load a
    match o.data with
    |.seq xs _=>pure xs.toList
    |_=>unsupported "internal:collect"
   |_=>unsupported "internal:collect") Q E s'
  |.ok _=>False
  |.error e=>E e s') hh (dE _ hr) hsmall hn aN s⁻¹ (.ref s⁻¹) 0 hS λh' tk acc c' hk hS' hacc=>?_
 dsimp only;apply aS (wpAny_load hS' (dC (h h' tk acc (λb o e=>?_) hacc)))
 show hk b o (mP (fA e)) (dE _ e)
def j8(r:Addr)(a b c:Int)(t u v:Tok)(n:Nat)(hsmall:Builtin.Range.small a b c=true)(hn:Builtin.Range.rangeSize a b c=n)(aN:n<=2 ^ 24) :
  Meets (Builtin.«tuple.__new__» #[[.type "tuple",.ref r],[]])
   (λA R s=>A.handled=none/\IsRange s.heap r a b c t u v/\∀(h':Heap) (tk:Nat) (acc:Array Value),(∀b o,s.heap.get? b=!o->h'.get? b=!o)->ItemsOf (λi v=>∃t,v=.int (a+i * c) t) acc n->
    R (.ok (.ret (.ref h'.objs.size))) { s with heap:=h'.push { cls:=.type "tuple",data:=.seq acc},toks:=tk}):=
 .of_wp λprog w A R s h=>by
  let(hh,hr,h):=h;have hsub:=sub_tuple_self;have hinit:=init_tuple_lookup;have hmh:=madeHere_tuple;have hT:s.TypeIs (.ref r) "range" :=#[_,hr,rfl];have hh1:A.in1.handled=none:=hh
  wp_walk using DI hT,qI hh1 hr hsmall hn aN
  intro h' tk acc hk hacc;exact wpAny _ _ (Builtin.Tuple.tupleExact acc.toList.toArray >>= λv=>ret v) _ _ _
  delta Builtin.Tuple.tupleExact;have e:acc.toList.toArray=acc:=by simp
  rw[e];apply aS (tS ?_ (show acc.size<=sizeLine by rw[hacc.1,t8];lia))
  show dC #[_,rfl,h h' tk acc hk hacc]
def lq{r:Addr}{a b c:Int}{t u v:Tok}{n:Nat}{Q:Value->Shared->Prop}(hh:A.handled=none)(hr:IsRange s.heap r a b c t u v)(hsmall:Builtin.Range.small a b c=true)(hn:Builtin.Range.rangeSize a b c=n)(aN:n<=2 ^ 24)
  (h:∀(h':Heap) (tk:Nat) (acc:Array Value),(∀b o,s.heap.get? b=!o->h'.get? b=!o)->ItemsOf (λi v=>∃t,v=.int (a+i * c) t) acc n->Q (.ref h'.objs.size) { s with heap:=h'.push { cls:=.type "tuple",data:=.seq acc},toks:=tk}) :
  wpAny (model prog w) A (call (.type "tuple") [.ref r]) Q E s:=by
 apply callType_new F.called_tuple ⋯ (F.typeCall_tuple_1 _) (F.newCall_tuple_1 _) (λobj=>F.args_object_init_2 obj _) F.entry_tuple_new
  (j8 r a b c t u v n hsmall hn aN) #[hh,hr,λh' tk acc hk hacc=>#[#[_,eM _ rfl,rfl],h h' tk acc hk hacc]]
end
section
def N3{e:Expr}{lo hi:Int}(h:Vx X z e g lo hi g1)(hc:X.calm=true)(hg:Gl X "tuple")(hm:X.mg "tuple"=none)(hs:starEach [e] X.env=[(false,eval e X.env)])(h1 : -(2 ^ 62)<=lo/\lo<2 ^ 62/\-(2 ^ 62)<=hi/\hi<2 ^ 62)(hl:(hi - lo).toNat<=16777216) :
  aA X z (.Call (.Name "tuple" lp) [e] [] pos) g (.dat (.tup (bT lo (hi - lo).toNat))) g1:=by
 apply aA.of λaj s J As M H Post I st k=>?_
 apply Call_ (fT I hg hm (by rfl:bootBuiltins ("tuple":Str)=!(.type "tuple")) (sB ?_ hs rfl))
 rw[hs];exact wpAny _ _ (spliced ((false,eval e X.env)::[])) _ _ s;apply Calls.spliced_cons (h aj s J As M H _ I st λr s1 H1 bu M1 t u v I1 q1 q2 hr=>Calls.spliced_nil ?_)
 have hn:Builtin.Range.rangeSize lo hi 1=(((hi - lo).toNat:Nat):Int):=by rw[rangeSize_one];split <;> lia
 apply lq (I1.ok.hd hc) hr (small_one h1.1 h1.2.1 h1.2.2.1 h1.2.2.2) hn hl λh' tk acc hk hacc=>?_
 have I2:L2.Inv X aj J H1 { s1 with heap:=h',toks:=tk}:=I1.kept (t':=tk) hk;have hf:H1 h'.objs.size=none:=I2.hok.fresh (d5 _);have vv:=rH hacc;have I3:L2.Inv X aj J (upd H1 h'.objs.size (.tup (o8 lo (hi - lo).toNat))) { s1 with heap:=h'.push { cls:=.type "tuple",data:=.seq acc},toks:=tk}:=by
  have hnew:dO X.prog X.w (upd H1 h'.objs.size (.tup (o8 lo (hi - lo).toNat))) (h'.push { cls:=.type "tuple",data:=.seq acc}) h'.objs.size (.tup (o8 lo (hi - lo).toNat)):=#[by rw[vv.length,eD,hacc.1];show oE hl,acc.toList,vv,by simpa using gP.new h' acc]
  show I2.laid (t':=tk) (λb o e=>dE _ e) (d5 _) hnew
 obtain⟨s3,cH⟩:S z g1 J bu M1 (upd H1 h'.objs.size (.tup (o8 lo (hi - lo).toNat)))/\aq M1 H1 M1 (upd H1 h'.objs.size (.tup (o8 lo (hi - lo).toNat))):=#[q1.laid hf,aq.laid hf];apply k (.ref h'.objs.size) _ _ _ bu M1 I3 rfl s3 (q2.trans cH) (.tup (.inl #[?_,.inl aF]) (rJ _ _));show q1.fresh hf
end
open L2 PySem.W SeqAt
abbrev Its(lo c:Int)(n:Nat):It:=#[λi _=>i<n,λi H x H'=>H'=H/\x=.int (lo+i * c),λi _=>n<=i]
def Dm{P:Program}{w:World}{K:Frag}{tg:Expr}(it:Addr)(lo c:Int)(n:Nat):Turn P w K tg (Its lo c n) [it] it (λi h=>IsRangeIter h it (lo+(i:Nat) * c) ((n:Int) - (i:Nat)) c) where
 mem:=by simp
 obj:=λi h st b hb=>by
  cases eP.mp hb;show#[_,st,λv z=>nomatch (show Data.fields _=Data.cell v from z)]
 keep:=λi h h' st k=>k it ⋯ _ st
 item:=by
  intro X hP hw hK hc i aj s J H E I hf st hg;subst hP hw hK;let(f0,f1,f2,f3,f4,f5):=hf it ⋯;apply (Walks.range (I.ok.hd hc) it lo c n).item i s _ _ hg st λv h' tk hv st' kk=>?_
  let(t,rfl):=hv;apply#[_,rfl,zN st' rfl rfl ⋯ #[.int (lo+i * c),H,?_,#[t,rfl],#[rfl,rfl],st',λb hb=>(hf b hb).1]]
  show I.turned (λb o hb e=>kk b o (by simpa using hb) e) f0 f1 f3 f4 f5
 done:=by intro X hP hw hK hc i aj s J H E I hf st hg;let(f0,f1,f2,f3,f4,f5):=hf it ⋯;show wpAny_pyNext_range_end (I.ok.hd hc) st (by have:n<=i:=hg;lia) λh' eb=>#[rfl,I.turned (λb o hb e=>eb b o hb e) f0 f1 f3 f4 f5]
 self:=λ_ _ _ _ _ st h=>wpAny_pyIter_rangeiter st h
abbrev qJ(lo c:Int)(n:Nat):List D:=(List.range n).map λ(k:Nat)=>D.int (lo+(k:Int) * c)
def vJ(lo c:Int)(n:Nat):(qJ lo c n).length=n:=by simp[qJ]
def HR{lo c:Int}{n k:Nat}(h:k<n):(qJ lo c n)[k]?=!(.int (lo+(k:Int) * c)):=by simp[qJ,h]
def VJ{lo c:Int}{n:Nat}{K:Frag}{M:List Addr}{H:Hp}:Jt (Its lo c n) (qJ lo c n) K M H:=λM2 H2 _=>by
 apply#[λk d hd=>?_,?_]
 .
  have hk:k<n:=by have:=(dL.mp hd).1;rw[vJ]at this;show this
  rw[HR hk]at hd;cases hd;apply#[hk,λx H' hx z' g' σ' aE _ s'=>?_]
  let(rfl,rfl):=hx;show#[s',aq.refl _ _,.int _]
 . exact n<=(qJ lo c n).length;rw[vJ];show d5 _
abbrev pG(lo hi c:Int):Nat:=if lo<hi then ((hi - lo - 1) / c+1).toNat else 0
def Ak{lo hi c:Int}(hc:0<c):Builtin.Range.rangeSize lo hi c=(pG lo hi c:Int):=by
 delta Builtin.Range.rangeSize pG;rw[fR hc];split
 . have:0<=(hi - lo - 1) / c:=Int.ediv_nonneg ⋯ ⋯;lia
 . rfl
def yG{a b c:Int}(h1 : -(2 ^ 30)<=a/\a<2 ^ 30)(h2 : -(2 ^ 30)<=b/\b<2 ^ 30)(h3:0<c/\c<2 ^ 30):Builtin.Range.small a b c=true:=by
 have hn:=Ak (lo:=a) (hi:=b) h3.1;delta Builtin.Range.small;have hb:(pG a b c:Int)<=2 ^ 31+1:=by
  delta pG;split
  . have:(b - a - 1) / c<=b - a - 1:=Int.ediv_le_self _ ⋯;lia
  . decide
 have hc0:=h3.1;simp only[Builtin.Range.rangeFitsLong,eI,wS,hc0,C1];lia
section
def dR.of (h:∀(aj: ~~~1) (s:Shared) (J:Sg) (As M:List Addr) (H:Hp) (Post:Value->Shared->Prop),L2.Inv X aj J H s->S z g J As M H->
  (∀v s1,(∀(R:It->Hp->Prop),(∀qqq H' aE M',S z g1 J aE M' H'->aq M H M' H'->Jt qqq items z.K M' H'->R qqq H')->wpAny (~~~2) X.A (pyIter v) (PIE X aj J tg R) X.xe s1)->Post v s1)->wpAny (~~~2) X.A (eval iter X.env) Post X.xe s):dR X z tg iter g items g1:=
 #[λJ H R=>∃As M,S z g J As M H/\(∀qqq H' aE M',S z g1 J aE M' H'->aq M H M' H'->Jt qqq items z.K M' H'->R qqq H'),by rintro aj s J H R I ⟨As,M,st,k⟩;show h aj s J As M H _ I st λv s1 q=>q R k,λJ As M H R s k=>#[As,M,s,k]]
def N4{lo hi st:Int}(h:cT X z [a,b,c] g [‹lo›,‹hi›,‹st›] g1)(hg:Gl X "range")(hm:X.mg "range"=none)(hs:starEach [a,b,c] X.env=(false,eval a X.env)::starEach [b,c] X.env)(iY:(backTo rp (starEach [b,c] X.env)).any (·.1)=false)
  (h1 : -(2 ^ 30)<=lo/\lo<2 ^ 30) (h2 : -(2 ^ 30)<=hi/\hi<2 ^ 30) (h3:0<st/\st<2 ^ 30):dR X z tg (.Call (.Name "range" p) [a,b,c] [] rp) g (qJ lo st (pG lo hi st)) g1:=by
 apply dR.of λaj s J As M H Post I stt k=>?_
 apply Call_ (fT I hg hm boot_range (sB (h.run I stt λvs us s1 H1 bu M1 I1 r1 q1 q2 q3=>?_) hs iY))
 cases q3 with
 |dat r R=>
  cases R with
  |dat r' R=>
   cases R with
   |dat r'' R=>
    cases R;cases r;cases r';cases r'';cases r1 with
    |cons r rr=>
     cases rr with
     |cons r' rr=>
      cases rr with
      |cons r'' rr=>
       cases rr;let(t,rfl):=r;let(t',rfl):=r';let(t'',rfl):=r'';apply call_range_3 ⋯ (k _ _ λR kR=>?_) (.inl (PyProof.noPylong_small ⋯))
       apply wpAny_pyIter_range (IsRange.new ..) (yG h1 h2 h3) ?_;generalize hh:s1.heap.push { cls:=.type "range",data:=.fields ([.int lo t,.int hi t',.int st t''].toArray)}=hp;have I2:L2.Inv X aj J H1 { s1 with heap:=hp}:=I1.kept λb o e=>hh▸dE _ e
       apply#[hp.objs.size,[hp.objs.size],_,Its lo st (pG lo hi st),H1,rfl,I2.kept λb o e=>dE _ e,Dm _ lo st _,?_,λb hb=>?_,kR _ H1 bu M1 q1 q2 VJ]
       .
        exact IsRangeIter _ _ (lo+((0:Nat):Int) * st) (((pG lo hi st:Nat):Int) - ((0:Nat):Int)) st;rw[show lo+((0:Nat):Int) * st=lo by simp,show ((pG lo hi st:Nat):Int) - ((0:Nat):Int)=Builtin.Range.rangeSize lo hi st by rw[Ak h3.1];simp]
        show eM _ rfl
       . cases eP.mp hb;show I2.yh (d5 _) (I2.hok.fresh (d5 _))
end
open L2 PySem.W SeqAt
section
def yH(hit:s.heap.IsTupleIter it t i)(ht:s.heap.IsTuple t items)(hx:items[i]?=!x)(hQ:∀h',h'.IsTupleIter it t (i+1)->Heap.SameBut it s.heap h'->Q x { s with heap:=h'}):wpAny (model prog w) A (Builtin.SmallTypes.nextOf (.ref it)) Q E s:=by let(o,ho,hc,hd):=id hit;let(ol,hol,_,nl,hdl):=ht;apply aS (BQ hit.typeIs AU (u7 AU hit.typeIs F.entry_tuple_iterator_next ?_ (F.args_tuple_iterator_next_1 _)));exact wpAny _ _ (field (.ref it) 0 >>= _) _ _ s;apply aS (wpAny_field ho hd rfl ?_);apply aS (wpAny_field ho hd rfl ?_);apply aS (A9 hol hdl ?_);simp only[At,hx];apply aS (DF ho hd ⋯ (dC #[x,rfl,dC (hQ _ #[_,sR _ ho (Obj.isFreed_of_fields (A6 hd _)),(Obj.cls_mapFields ..).trans hc,?_] (AA ..))]));rw[A6 hd];simp[rawInt]
def qK(hh:A.handled=none)(hit:s.heap.IsTupleIter it t i)(ht:s.heap.IsTuple t items)(hx:items[i]?=none)
  (hE:∀h' e,Heap.ExtBut it s.heap h'->(∃o,h'.get? e=!o/\o.cls=.type "StopIteration")->E (.ref e) { s with heap:=h'}):wpAny (model prog w) A (Builtin.SmallTypes.nextOf (.ref it)) Q E s:=by
 let(o,ho,hc,hd):=id hit;let(ol,hol,_,nl,hdl):=ht;apply aS (BQ hit.typeIs AU (u7 AU hit.typeIs F.entry_tuple_iterator_next ?_ (F.args_tuple_iterator_next_1 _)));exact wpAny _ _ (field (.ref it) 0 >>= _) _ _ s;apply aS (wpAny_field ho hd rfl ?_);apply aS (wpAny_field ho hd rfl ?_);apply aS (A9 hol hdl ?_);simp only[At,hx];apply aS (y8 (aS (DF ho hd ⋯ ?_)));apply aS ?_;apply aS (tS (aS (DC (by first |rfl | (simp only[firstArgMember];rfl)) (tS ?_ (by size_fits)))) (by size_fits))
 apply aS (wpAny_handled ?_)
 first |rw[show A.in1.handled=none from hh] |rw[hh]
 show aS (dC (wpAny_throw (hE _ _ (((AA ..).extBut.push _).push _) #[_,eM _ rfl,rfl])))
def HS(hh:A.handled=none)(it t:Addr)(fE:t≠it)(items:Array Value):Draws prog w A it [it,t] items.size (λi v=>items[i]?=!v) (λi h=>h.IsTupleIter it t i/\h.IsTuple t items) where
 live:=λ_ _ st=>let #[o,ho,_]:=st.1;#[o,ho]
 frame:=λ_ _ _ st hk=>by
  let((o,ho,r),(o',ho',r')):=st;show#[#[o,hk it ⋯ o ho,r],#[o',hk t ⋯ o' ho',r']]
 item:=λi s Q E hi st hQ=>yH st.1 st.2 (x:=items[i]) (by simp[hi]) λh' VL hs'=>hQ _ h' s.toks (by simp[hi]) #[VL,IsTup.extBut st.2 hs'.extBut fE] hs'
 done:=λs Q E st hE=>qK hh st.1 st.2 ⋯ hE
def vK(l:Addr)(items:Array Value)(n:Nat)(dct:Option Addr)(sl:Array (Option Value)) :
  Meets (Builtin.«enumerate.__new__» #[[.type "enumerate",.ref l],[]]) (λ_ R s=>s.heap.get? l=some { cls:=.type "tuple",dict:=dct,data:=.seq items n,slots:=sl}/\R (.ok (.ret (.ref (s.heap.push { cls:=.type "tuple_iterator",data:=.fields ([.ref l,.int 0 0].toArray)}).objs.size)))
    { s with heap:=(s.heap.push { cls:=.type "tuple_iterator",data:=.fields ([.ref l,.int 0 0].toArray)}).push { cls:=.type "enumerate",data:=.fields ([.none,.bool false,.ref s⁻¹,rawInt 0,.none,.none].toArray)}}):=
 .of_wp λprog w A R s h=>by
  let(hp,g,d,tk,os):=s;let(hl,h):=h;have hsub:=sub_enumerate;have hL:Heap.IsTuple (Shared.heap #[hp,g,d,tk,os]) l items:=#[_,hl,rfl,n,rfl]
  wp_walk using AutoSeq1.wpAny_loadPart' hl
  apply wpAny_stack_any λst=>dC ?_
  split
  . ext c _ _ _ _ _;cases (c==Value.type "enumerate") <;> (wp_walk using AutoSeq1.wpAny_loadPart' hl,CS hL;show#[_,rfl,h])
  .
   wp_walk using AutoSeq1.wpAny_loadPart' hl,CS hL
   show#[_,rfl,h]
def yI(hL:s.heap.IsTuple l items)
  (h:∀h',IsEnum h' (s⁻¹+1) s⁻¹ 0 .none->h'.IsTupleIter s⁻¹ l 0->h'.objs.size=s⁻¹+2->(∀b o,s.heap.get? b=!o->h'.get? b=!o)->Q (.ref (s⁻¹+1)) { s with heap:=h'}) :
  wpAny (model prog w) A (call (.type "enumerate") [.ref l]) Q E s:=by
 let((c,dct,dt,sl),hl,hc,n,hd):=hL;cases (show c=.type "tuple" from hc)
 cases (show dt=.seq items n from hd)
 apply callType_new F.called_enumerate ⋯ (F.typeCall_enumerate_1 _) (F.newCall_enumerate_1 _) (λobj=>F.args_object_init_2 obj _) F.entry_enumerate_new (vK l items n dct sl) #[hl,?_]
 generalize hq:s.heap.push { cls:=.type "tuple_iterator",data:=.fields ([.ref l,.int 0 0].toArray)}=h1;have hz:h1.objs.size=s⁻¹+1:=by rw[<- hq];show CF ..
 have hi:h1.get? s⁻¹=some { cls:=.type "tuple_iterator",data:=.fields ([.ref l,.int 0 0].toArray)}:=by rw[<- hq];show eM _ rfl
 have he:IsEnum (h1.push { cls:=.type "enumerate",data:=.fields ([.none,.bool false,.ref s⁻¹,rawInt 0,.none,.none].toArray)}) h1.objs.size s⁻¹ 0 .none:=eM h1 rfl;rw[hz]at he ⊢
 show#[#[_,he,rfl],h _ he #[_,dE _ hi,rfl,rfl] (by rw[CF,hz]) λb o x=>dE _ (by rw[<- hq];show dE _ x)]
end
open L2 PySem.W SeqAt
section
variable{X:Cx}{aj: ~~~1}{J:Sg}{H:Hp}{s:Shared}
def Inv.VM{h':Heap}{t':Nat}{ch:List Addr}{xs:List V}{its:List Value}(I:L2.Inv X aj J H s)(hf:∀b∈ch,kO X aj H b)(k:∀b o,b∉ch->s.heap.get? b=!o->h'.get? b=!o)(hz:xs.length<=sizeLine)(rv:Vals xs its)(ht:gP h' s⁻¹ its.toArray) :
  L2.Inv X aj J (upd H s⁻¹ (.tup xs)) { s with heap:=h',toks:=t'}:=by
 have nH:∀b u,H b=!u->b∉ch:=λb u e z=>by rw[(hf b z).1]at e;cases e
 have fr:=I.hok.fresh (d5 _);have nn:∀b u,H b=!u->b≠s⁻¹:=λb u e z=>by rw[z,fr]at e;cases e
 apply I.step (λb hb=>?_) (λb o _ _ hc e _=>k b o hc e) (λb o _ _ hc e _=>#[o.slots,k b o hc e]) (λb o _ e n=>by rw[aB (mP (fA e))];show n) (λb o hc e=>#[o,k b o hc e]) (λb _ e=>by rw[aB (nn _ _ e)];show e) (λb _ _ e=>by rw[aB (nn _ _ e)];show e) (λb ps e=>#[([].toArray),by rw[aB (nn _ _ e),e];simp]) (λm hm=>?_) (λb u e=>?_) I.bare
 . let(f0,f1,f2,f3,f4,f5):=hf b hb;show#[f3,f1,f4,f5]
 . let(o,es,ep,ho,rr):=hm;show#[o,es,ep,k _ o (λz=>(hf _ z).2.1 rfl) ho,rr]
 .
  by_cases hb:b=s⁻¹
  . subst hb;rw[aF]at e;cases e;show#[hz,its,rv,ht]
  .
   rw[aB hb]at e;apply (I.hok b u e).stay (λc w hc q=>k c w (λz=>?_) q) (λc q=>by rw[aB (nn _ _ q)];show q) λc _ q=>by rw[aB (nn _ _ q)];show q
   rcases hc with rfl |hc
   . show nH _ _ e z
   . show nH _ _ hc z
end
def yJ{X:Cx}{aj: ~~~1}{J:Sg}{H:Hp}{s:Shared}{u c:Addr}{us:List V}(I:L2.Inv X aj J H s)(h:iE X.K H u us)(f:kO X aj H c):u≠c:=λz=>by
 subst z;rcases h with (h |⟨o,h⟩) |h
 . rw[f.1]at h;symm
 . rw[f.1]at h;symm
 .
  let(o,_,_,e,_):=h;have e0:=I.ok.mod.kin u o e;rcases f.2.2.2.1 with q |q
  . show I.ok.x8 u o e0 q
  . show absurd (fN (fA (I.ok.bs u o e0).1) q) (u8 _)
abbrev Ite(K:Frag)(a:Addr):It:=
 #[λi H=>∃xs x,iE K H a xs/\xs[i]?=!x,λi H x H'=>∃p y,(∀xs,iE K H a xs->xs[i]?=!y)/\H p=none/\x=.ref p/\H'=upd H p (.tup [.int (i:Int),y]),λi H=>∃xs,iE K H a xs/\xs.length=i]
def Dn{P:Program}{w:World}{K:Frag}{es:List Expr}{k:Nat}{pos:Pos}(e it a:Addr)(hei:e≠it):Turn P w K (.Tuple es k pos) (Ite K a) [e,it] e (λi h=>(∃old,IsEnum h e it (i:Int) old)/\h.IsTupleIter it a i) where
 mem:=by simp
 obj:=λi h st b hb=>by
  let((old,he),oi,e1,_,e2):=st;rcases eC.mp hb with rfl |hb
  . show#[_,he,λv z=>nomatch (show Data.fields _=Data.cell v from z)]
  . cases eP.mp hb;show#[oi,e1,λv z=>by rw[e2]at z;cases z]
 keep:=λi h h' st k=>by
  let((old,he),o,q,d):=st;show#[#[old,k e ⋯ _ he],o,k it ⋯ o q,d]
 item:=by
  intro X hP hw hK hc i aj s J H E I hf st hg;subst hP hw hK;let((old,he),hi):=st;let(xs,x,hq,hx):=hg;let(its,rv,hat,hz):=I.tuple hq;have hae:a≠e:=yJ I hq (hf e ⋯);have hai:a≠it:=yJ I hq (hf it ⋯);have hlt:i<its.length:=by rw[<- rv.length];show (dL.mp hx).1
  apply wpAny_pyNext_enum_itemD (HS (A:=X.A.in1) (I.ok.hd hc) it a hai its.toArray) he #[hi,hat] hlt hei (by simp[hei,AJ hae]) λu h1 tk hu hout fL ht uJ hkp=>#[_,rfl,?_]
  apply wpAny_letOwnedTupleGo_enum hout λh2 he2 hs2=>?_
  replace hs2:Heap.SameBut e h1 h2:=hs2;let(u',e1,ru):=rv.get hx;rw[List.getElem?_toArray,e1]at hu;cases hu;have hpe:=Nat.ne_of_gt (fA he);let(oi0,ei0,_):=id hi;have I3:=Inv.VM (t':=tk+1) I (h':=h2) hf (xs:=[.int (i:Int),x]) (its:=[.int (i:Int) tk,u]) (λb o hb q=>by
   simp only[eC,x3,ED,not_or]at hb;show (hs2.2 b hb.1).trans (hkp b o hb.1 hb.2 q)) (by rw[t8];exact 2<=16777216;decide) (.cons #[tk,rfl] (.cons ru .nil)) #[_,(hs2.2 _ hpe).trans ht,#[rfl,_,rfl],rfl]
  have hfr:=I.hok.fresh (d5 _);let((oj,q1,q2),_):=fL;apply#[.ref s⁻¹,_,I3,rfl,#[_,x,λys hy=>by rw[I.qU hy hq];show hx,hfr,rfl,rfl],#[#[u,he2],oj,(hs2.2 it (AJ hei)).trans q1,q2],λb hb=>?_]
  have hbn:b≠s⁻¹:=λz=>by
   rcases eC.mp hb with rfl |hb
   . show hpe z.symm
   . cases eP.mp hb;show absurd (fA ei0) (by rw[z];show u8 _)
  rw[aB hbn];show (hf b hb).1
 done:=by
  intro X hP hw hK hc i aj s J H E I hf st hg;subst hP hw hK;let((old,he),hi):=st;let(xs,hq,hx):=hg;let(its,rv,hat,hz):=I.tuple hq;let(g0,g1,g2,g3,g4,g5):=hf it ⋯;have hl:i=its.length:=by rw[<- rv.length];show hx.symm
  subst hl;show wpAny_pyNext_enum_endD (HS (A:=X.A.in1) (I.ok.hd hc) it a (yJ I hq (hf it ⋯)) its.toArray) he #[hi,hat] λh' eb=>#[rfl,I.turned (λb o hb q=>eb b o hb q) g0 g1 g3 g4 g5]
 self:=λA i s Q E st h=>by
  let((old,he),_):=st;show wpAny_pyIter_enum he h
section
abbrev mF(l:List D):List D:=l.zipIdx.map λp=>.tup [.int (p.2:Nat),p.1]
def Dp{l:List D}{n:Nat}{d:D}(h:(mF l)[n]?=!d):∃x,l[n]?=!x/\d=.tup [.int n,x]:=by
 delta mF at h;rw[mM]at h;cases e:l.zipIdx[n]? with
 |none=>rw[e]at h;symm
 |some q=>
  rw[e]at h;symm;rw[List.getElem?_zipIdx]at e;cases e2:l[n]? with
  |none=>rw[e2]at e;cases e
  |some x=>rw[e2]at e;cases e;show#[x,rfl,by simp]
def Dq(l:List D):(mF l).length=l.length:=by simp[mF]
def N5{l:List D}(hK:z.K=X.K)(ha:cT X z [e] g [.dat (.tup l)] g1)(hg:Gl X "enumerate")(hm:X.mg "enumerate"=none)(fL:starEach [e] X.env=[(false,eval e X.env)]) :
  dR X z (.Tuple es k pos) (.Call (.Name "enumerate" p) [e] [] rp) g (mF l) g1:=by
 apply dR.of λaj s J As M H Post I stt kk=>?_
 apply Call_ (fT I hg hm boot_enumerate (sB (ha.run I stt λvs us s1 H1 bu M1 I1 r1 q1 q2 q3=>?_) fL rfl))
 cases q3 with
 |dat rp0 R=>
  cases R;let(u,rfl,ru):=vals1 r1;cases rp0 with
  |@tup _ a xs hb rr=>
   cases ru;rw[hK]at hb;let(its,rv,pl,hz):=I1.tuple hb.sq;have hsq:∀M2 H2,aq M1 H1 M2 H2->iE X.K H2 a xs:=λM2 H2 aJ=>TupAt.sq (M:=M2) (hb.imp (λq=>aJ.rd q.1 q.2) id)
   apply yI pl λh' he hi uJ hk=>kk _ _ λR kR=>?_
   apply wpAny_pyIter_enum he ?_;have I2:=I1.kept (t':=s1.toks) hk;apply#[_,[s1⁻¹+1,s1⁻¹],_,Ite X.K a,H1,rfl,I2,Dn _ _ a (Nat.succ_ne_self _),#[#[_,he],hi],λb hb=>?_,kR _ H1 bu M1 q1 q2 λM2 H2 aJ=>?_]
   .
    rcases eC.mp hb with rfl |hb
    . show I1.yh (BI _) (I1.hok.fresh (BI _))
    . cases eP.mp hb;show I1.yh (d5 _) (I1.hok.fresh (d5 _))
   .
    have Nq:=rr.stay aJ;apply#[λn d hd=>?_,xs,hsq M2 H2 aJ,by rw[Dq];show rr.length.symm]
    let(x,e1,rfl):=Dp hd;let(v,e2,e3):=Nq.get e1;apply#[#[xs,v,hsq M2 H2 aJ,e2],λy H' hy z' g' σ' aE hz' s'=>?_]
    let(p,y',w1,w3,rfl,rfl):=hy;have w2:=w1 xs (hsq M2 H2 aJ);rw[e2]at w2;cases w2;show#[s'.laid w3,aq.laid w3,.tup (.inl #[s'.fresh w3,.inl aF]) (.cons (.int _) (.cons (e3.stay (aq.laid w3)) .nil))]
end
open L2 PySem.W SeqAt
section
def VN(hc:X.calm=true)(hN:X.N.Nodup)(hi:X.N[i]?=!x)(hj:X.N[j]?=!y)(hij:i≠j)(hx:X.env.scope.names.lookup x=some .local)(hy:X.env.scope.names.lookup y=some .local)
  (ha:cT X z [a,b] g [.dat d1,.dat d2] g1) (hbi:i∉z.bor) (VP:j∉z.bor) (hw:swappedStores [.Tuple [.Name x px,.Name y py] kt pt] (.Tuple [a,b] k2 xT) X.env=pure (![x,y])) (hs:swapsWithSole [.Tuple [.Name x px,.Name y py] kt pt] (.Tuple [a,b] k2 xT) pos.line X.env=pure false) :
  gq X z (.Assign [.Tuple [.Name x px,.Name y py] kt pt] (.Tuple [a,b] k2 xT) pos) g .nx ((g1.set i (.dat d1)).set j (.dat d2)):=by
 let(t,q,k):=ha;apply#[_,Tq hc hN hi hj hij hx hy q hw hs,λJ As M H E s kk=>k J As M H _ s λvs H' aE M' s' st R=>?_]
 cases R with
 |dat r R=>
  cases R with
  |dat r' R=>cases R;let(bG,s2):=s'.eV (i:=i) hbi r;let(rF,s3):=s2.eV (i:=j) VP r';show#[_,_,rfl,kk _ rF M' H' s3 st]
def Dr(hc:X.calm=true)(hK:z.K=X.K)(hN:X.N[i]?=!x)(hv:mh X.env.scope x)(hd:(x==(~~~3))=false)(fK:(x==("__classdict__":Str))=false)
  (hN2:X.N[j]?=!y) (hv2:mh X.env.scope y) (hd2:(y==(~~~3))=false) (VR:(y==("__classdict__":Str))=false)
  (h:aA X z e g (.dat (.tup [d1,d2])) g1) (qC:g1[i]?=!(.own l0)) (h2:aA X z ix g1 ‹n1› g2) (Vi:g2[i]?=!(.own l)) (hj:nF l.length n1=!m1)
  (hg3:(g2.set i (.own (l.set m1 d1)))[j]?=!(.own l1)) (h3:aA X z ix2 (g2.set i (.own (l.set m1 d1))) ‹n2› g3) (hg4:g3[j]?=!(.own l2)) (hj2:nF l2.length n2=!m2)
  (ha:∀v,assign (.Subscript (.Name x pn) ix dM) X.env v=(do
   let ov <- holding [v] (eval (.Name x pn) X.env)
   let iv <- holding [v,ov] (eval ix X.env)
   standAt dM
   holding [v,ov,iv] (setItem ov iv v)
   release [v,ov,iv] []))
  (ha2:∀v,assign (.Subscript (.Name y pn2) ix2 vL) X.env v=(do
   let ov <- holding [v] (eval (.Name y pn2) X.env)
   let iv <- holding [v,ov] (eval ix2 X.env)
   standAt vL
   holding [v,ov,iv] (setItem ov iv v)
   release [v,ov,iv] []))
  (hs:swapsWithSole [.Tuple [.Subscript (.Name x pn) ix dM,.Subscript (.Name y pn2) ix2 vL] kt pt] e pos.line X.env=pure false) (hw:swappedStores [.Tuple [.Subscript (.Name x pn) ix dM,.Subscript (.Name y pn2) ix2 vL] kt pt] e X.env=pure none) :
  gq X z (.Assign [.Tuple [.Subscript (.Name x pn) ix dM,.Subscript (.Name y pn2) ix2 vL] kt pt] e pos) g .nx (g3.set j (.own (l2.set m2 d2))):=by
 let(t,q,k):=h;let(t2,q2,k2'):=h2;let(t3,q3,k3):=h3;apply#[_,yg q (yc (n:=2) hc (iG (yd (cR hN hv hd fK) q2 set_list ha) (iG (yd (cR hN2 hv2 hd2 VR) q3 set_list ha2) sQ rfl) rfl) rfl rfl) hs hw rfl,λJ As M H E s kE=>k J As M H _ s λv H1 bu M1 s1 dN R1=>?_]
 have R1':Rep z.K M1 H1 (.tup [d1,d2]) v:=R1;cases R1' with
 |@tup _ a xs ha rr=>
  cases rr with
  |@cons _ _ v1 _ r1 rr=>
   cases rr with
   |@cons _ _ v2 _ r2 rr=>
    cases rr;apply#[a,_,rfl,hK▸ha.sq,rfl,v1,_,rfl,?_];let(p,ys,e1,e2,e3,e4):=s1.sl.at qC;apply#[.ref p,e1,k2' J bu M1 H1 _ s1 λw H2 bG M2 s2 aJ R2=>?_]
    let(p',ys',f1,f2,f3,f4):=s2.sl.at Vi;rw[e1]at f1;injection f1 with f1;injection f1 with f1;injection f1 with f1;subst f1;have R2':Rep z.K M2 H2 (.int n1) w:=R2;cases R2';apply#[p,ys',n1,m1,rfl,rfl,f3,by rw[<- f4.length];show hj,?_]
    let(s3,cH):=s2.write Vi e1 (aK.set (Rep.stay aJ r1) m1 f4);apply#[v2,[],rfl,?_];let(p2,zs,e5,e6,e7,e8):=s3.sl.at hg3;apply#[.ref p2,e5,k3 J bG M2 _ _ s3 λw' H4 iJ M4 s4 iD R4=>?_]
    let(p2',zs',f5,f6,f7,f8):=s4.sl.at hg4;rw[e5]at f5;injection f5 with f5;injection f5 with f5;injection f5 with f5;subst f5;have R4':Rep z.K M4 H4 (.int n2) w':=R4;cases R4';apply#[p2,zs',n2,m2,rfl,rfl,f7,by rw[<- f8.length];show hj2,?_]
    let(s5,jq):=s4.write hg4 e5 (aK.set (Rep.stay (aJ.trans (cH.trans iD)) r2) m2 f8);show#[rfl,kE J iJ M4 _ s5 (dN.trans (aJ.trans (cH.trans (iD.trans jq))))]
end
abbrev tPar3(i j l:Nat)(ta:TA):TS:=λD J H=>ta J H λvs H1=>∃v w u,vs=[v,w,u]/\D.nx (((J.set i (!v)).set j (!w)).set l (!u)) H1
section
variable{X:Cx}{z:Z}{g g1:G}{pos px py pq pt xT:Pos}{a b d:Expr}{x y q:Str}{i j l kt k2:Nat}
def N6{ta:TA}(hc:X.calm=true)(hN:X.N.Nodup)(hi:X.N[i]?=!x)(hj:X.N[j]?=!y)(hl:X.N[l]?=!q)(hij:i≠j)(hil:i≠l)(hjl:j≠l)
  (hx:X.env.scope.names.lookup x=some .local) (hy:X.env.scope.names.lookup y=some .local) (hq:X.env.scope.names.lookup q=some .local) (ha:PA X [a,b,d] ta)
  (hw:swappedStores [.Tuple [.Name x px,.Name y py,.Name q pq] kt pt] (.Tuple [a,b,d] k2 xT) X.env=pure (![x,y,q])) :
  PS X (.Assign [.Tuple [.Name x px,.Name y py,.Name q pq] kt pt] (.Tuple [a,b,d] k2 xT) pos) (tPar3 i j l ta):=by
 intro aj s J H D I h;rw[exec_Assign_arm];apply aS (wT ?_);rw[show swapsWithSole [.Tuple [.Name x px,.Name y py,.Name q pq] kt pt] (.Tuple [a,b,d] k2 xT) pos.line X.env=pure false from rfl]
 apply aS (dC ?_);rw[eR ⋯];apply aS (Tuple_ (cz (ha _ aj s J H _ I h) ?_));rintro us s1 ⟨vs,H1,I1,r1,v,w,u,rfl,q1⟩;obtain⟨u1,u2,u3,rfl,r1,r2,r3⟩:∃u1 u2 u3,us=[u1,u2,u3]/\RelV v u1/\RelV w u2/\RelV u u3:=by
  cases r1 with
  |cons p r1=>
   cases r1 with
   |cons p' r1=>
    cases r1 with
    |cons p3 r1=>cases r1;show#[_,_,_,rfl,p,p',p3]
 apply tS ?_ (by exact 3<=sizeLine;decide)
 have I2:Inv X aj J H1 { s1 with heap:=s1.heap.push { cls:=.type "tuple",data:=.seq [u1,u2,u3].toArray}}:=I1.kept (t':=s1.toks) λb o e=>dE _ e
 rw[hw];apply aS (dC ?_);exact wpAny (~~~2) X.A (do rule "assign.swapped-stores";let items <- unpackItems (.ref s1⁻¹) 3 none;assignInOrder [λv=>bindName X.env q v,λv=>bindName X.env y v,λv=>bindName X.env x v] items.reverse;pure Flow.next) _ _ _
 apply aS (y8 (aS (unpackItems_tuple (items:=([u1,u2,u3].toArray)) (I.ok.hd hc) (IsTup.new s1.heap _) λh' hx'=>?_)))
 have I3:=I2.kept (h':=h') (t':=s1.toks) λb o e=>hx' b o (mP (fA e)) e
 exact wpAny _ _ (assignInOrder [λv=>bindName X.env q v,λv=>bindName X.env y v,λv=>bindName X.env x v] [u3,u2,u1] >>= λ_=>pure Flow.next) _ _ _
 apply aS (AZ (DE (dP I3 hN hl (.inl hq) r3 (λs2 I4=>?_) (.inr hq))))
 apply AZ (DE (dP I4 hN hj (.inl hy) r2 (λs3 I5=>?_) (.inr hy)))
 apply AZ (DE (dP I5 hN hi (.inl hx) r1 (λs4 I6=>assignInOrder_nil (dC ?_)) (.inr hx)))
 rw[List.set_comm _ _ hjl.symm,List.set_comm _ _ hil.symm,List.set_comm _ _ hij.symm]at I6;show#[_,H1,I6,q1]
def N7{d1 d2 d3:D}(hc:X.calm=true)(hN:X.N.Nodup)(hi:X.N[i]?=!x)(hj:X.N[j]?=!y)(hl:X.N[l]?=!q)(hij:i≠j)(hil:i≠l)(hjl:j≠l)(hx:X.env.scope.names.lookup x=some .local)(hy:X.env.scope.names.lookup y=some .local)(hq:X.env.scope.names.lookup q=some .local)
  (ha:cT X z [a,b,d] g [.dat d1,.dat d2,.dat d3] g1) (hbi:i∉z.bor) (VP:j∉z.bor) (hbl:l∉z.bor) (hw:swappedStores [.Tuple [.Name x px,.Name y py,.Name q pq] kt pt] (.Tuple [a,b,d] k2 xT) X.env=pure (![x,y,q])) :
  gq X z (.Assign [.Tuple [.Name x px,.Name y py,.Name q pq] kt pt] (.Tuple [a,b,d] k2 xT) pos) g .nx (((g1.set i (.dat d1)).set j (.dat d2)).set l (.dat d3)):=by
 let(t,p,k):=ha;apply#[_,N6 hc hN hi hj hl hij hil hjl hx hy hq p hw,λJ As M H E s kk=>k J As M H _ s λvs H' aE M' s' st R=>?_]
 cases R with
 |dat r R=>
  cases R with
  |dat r' R=>
   cases R with
   |dat r3 R=>cases R;let(bG,s2):=s'.eV (i:=i) hbi r;let(rF,s3):=s2.eV (i:=j) VP r';let(iJ,s4):=s3.eV (i:=l) hbl r3;show#[_,_,_,rfl,kk _ iJ M' H' s4 st]
end
end Ev
namespace HT
open PySem PyProof.Rows
end HT
namespace Ev
open L2
section
meta abbrev m1(j:Nat)(p1 p3:Pos):Expr:=.UnaryOp .USub (.Constant (.int 1) j p1) p3
end
open L2 PySem.W SeqAt
end Ev
namespace L2
abbrev Al(T:List Addr)(H:Hp):Prop:=∀b,(b∈T/\H b=!(.Fq ([].toArray)))\/(b∉T/\(H b=none\/∃o xs,H b=!(.BZ o (.lst xs))))
def Ds{P:Program}{w:World}{K:Frag}{mg mb:Str->Option Value}{CX:Gi}{k:Nat}{fa a:Addr}{fd:FuncData}{x:Str}{sp:Sp}{s₁:Shared}{vs:List Value}{ns: ~~~0}{T:List Addr}
  (KX:K.In s₁.heap) (hT:∀q∈T,(∃c,s₁.heap.TableAt c q ([].toArray))/\K.lookup q=none) (hns:s₁.heap.Ns mainGlobals mg) (hb:s₁.heap.Ns builtinsNs mb) (hbb:∀x:Str,x≠ "__name__" ->mb x=bootBuiltins x) (hlim:s₁.heap.NoLimit) (hg:s₁.gens = ([].toArray))
  (ha:s₁.heap.get? a=some { cls:=.type "list",data:=.seq vs.toArray}) (hi:IntsAre vs ns) (hl:ns.length<=sizeLine) (hr:gQ k callerA)
  (F:∀base:Heap,K.In base->base.Ns mainGlobals mg->qF P w K mg base CX k fa fd [x] sp) (hbind:∀(s:Shared) (u:Value),BindsTo s fd #[[u],[]] [(x,u)])
  (Yv:∀H:Hp,Al T H->dQ K H a (ns.map V.int)->sp [.ref a] H (λv _=>v=.bl true) λ_ _ _=>False)
  (hCX:∀H e s',CX [] H s₁ (λ_ _ _=>False) e s'->False) :
  codeAny (model P w) callerA (.call (.ref fa) #[[.ref a],[]]) (λr s'=>r=.ok (.ret (.bool true))/\OldK s₁.heap s'.heap/\s'.os=s₁.os/\AllBare s'.gens) s₁:=by
 have rv:=rq hi;have lenV:=hi.length;have aT:a∉T:=λh=>by
  let((c,_,e),_):=hT a h;rw[ha]at e;cases e
 have core:∀H:Hp,Al T H->dQ K H a (ns.map V.int)->nU P w H s₁.heap->(∀b,H b≠none->b=a\/b∈T)->(H a≠none->K.lookup a=none)->
   codeAny (model P w) callerA (.call (.ref fa) #[[.ref a],[]]) (λr s'=>r=.ok (.ret (.bool true))/\OldK s₁.heap s'.heap/\s'.os=s₁.os/\AllBare s'.gens) s₁:=by
  intro H hO hS hok hA hK;have Am:∀{b:Addr}{o:Obj},s₁.heap.get? b=!o->H b=none->(sP s₁.heap H).get? b=!o:=λe n=>FP e n
  have Zz:∀{b:Addr}{o:Obj}{es:Array DictEntry}{ep:Nat},s₁.heap.get? b=!o->o.data=.dict es ep->H b=none:=λ{b o es ep} e d=>by
   cases q:H b with
   |none=>rfl
   |some u=>
    rcases hA b (by rw[q];simp)with e' |e'
    . subst e';rw[ha]at e;cases e;have d':=d;cases d'
    . let((c,_,e2),_):=hT b e';rw[e]at e2;cases e2;have d':=d;cases d'
  have nsK:∀{b:Addr}{m:Str->Option Value},s₁.heap.Ns b m->(sP s₁.heap H).Ns b m:=λ{b m} #[o,es,ep,e,d,r]=>#[o,es,ep,Am e (Zz e d),d,r]
  have RK:K.In (sP s₁.heap H):=λb o e=>Am (KX b o e) (by
   cases q:H b with
   |none=>rfl
   |some u=>
    rcases hA b (by rw[q];simp)with e' |e'
    . subst e';rw[hK (by rw[q];simp)]at e;cases e
    .
     rw[(hT b e').2]at e;cases e)
  have hM:Mod K mg (sP s₁.heap H):=#[RK,nsK hns,#[mb,nsK hb,hbb],let #[mc,h1,h2]:=hlim;#[mc,nsK h1,h2]]
  have e0:Ml P w K mg (sP s₁.heap H) callerA [] s₁ H:=#[rfl,hM,λb o e=>Ly e,Nat.le_of_eq (Ca _ _),trivial,λb hb=>absurd (show b∈([]:List Addr)from hb) ⋯,hok,.of_eq hg]
  apply codeAny_mono ((F _ RK (nsK hns)).run callerA [] s₁ H #[[.ref a],[]] [.ref a] [.ref a] _ _ hr e0 (hbind s₁ (.ref a)) (.cons rfl .nil) (Yv H hO hS)) λr s' h=>?_
  cases r with
  |error e=>show (hCX H e s' h).elim
  |ok fl=>
   cases fl with
   |next=>show False.elim h
   |brk=>show False.elim h
   |cont=>show False.elim h
   |ret u=>
    let(v,H',os,bare,un,hok',r',q):=h;have q':=q;subst q';obtain rfl:u=Value.bool true:=r';have tabs:∀b∈T,∀o,s₁.heap.get? b=!o->∃more,o={ cls:=.none,data:=.fields ([].toArray)}/\s'.heap.get? b=some { cls:=.none,data:=.fields more}:=λb hb o e=>by
     let((c,_,e2),_):=hT b hb;rw[e]at e2;cases e2;rcases hO b with ⟨_,z⟩ |⟨z,_⟩
     . let(more,z2):=un.sO b _ z;show#[_,rfl,hok' b _ z2]
     . show absurd hb z
    have aD:∀b,b∉T->∀o,s₁.heap.get? b=!o->s'.heap.get? b=!o:=λb hb o e=>by
     cases q:H b with
     |none=>show un.keep b o e q (by intro z;show absurd (show b∈([]:List Addr)from z) ⋯) ⋯
     |some u=>
      rcases hO b with ⟨z,_⟩ |⟨_,z⟩
      . show absurd z hb
      .
       rcases z with z |⟨ob,xs,z⟩
       . rw[q]at z;cases z
       . have z2:=un.sN b ob _ z;let(e1,_):=hok b _ z;let(e2,_):=hok' b _ z2;rw[e]at e1;cases e1;show e2
    apply#[rfl,#[λb o e=>?_,λb o e=>?_],os,bare]
    .
     by_cases hb:b∈T
     . let(more,rfl,e2):=tabs b hb o e;let((c,t),_):=hT b hb;show .inr (.inl #[t.isCodeTable,rfl,([].toArray),more,rfl,by rw[e2];simp])
     . show .inl (aD b hb o e)
    .
     by_cases hb:b∈T
     . let(more,rfl,e2):=tabs b hb o e;show#[_,e2]
     . show#[_,aD b hb o e]
 have HW:∀b∈T,s₁.heap.get? b=some { cls:=.none,data:=.fields ([].toArray)}:=λb hb=>by
  let((c,_,e2),_):=hT b hb;show e2
 cases hk:K.lookup a with
 |some o=>
  have e:=KX a o hk;rw[ha]at e;cases e;apply core (λb=>if b∈T then some (.Fq ([].toArray))else none) (λb=>?_) (.inr #[_,vs.toArray,_,hk,rfl,rfl,rfl,by rw[d6,lenV];show hl,by simpa using rv]) (λb u z=>?_) (λb z=>?_) λz=>absurd (eR aT) z
  .
   by_cases hb:b∈T
   . show .inl #[hb,fR hb]
   . show .inr #[hb,.inl (eR hb)]
  .
   by_cases hb:b∈T
   . have z':=(fR hb).symm.trans z;cases z';show HW b hb
   . have z':=(eR hb).symm.trans z;cases z'
  .
   by_cases hb:b∈T
   . show .inr hb
   . show absurd (eR hb) z
 |none=>
  apply core (λb=>if b∈T then some (.Fq ([].toArray))else if b=a then some (.BZ { cls:=.type "list",data:=.seq vs.toArray} (.lst (ns.map V.int)))else none) (λb=>?_) (.inl (.inr #[{ cls:=.type "list",data:=.seq vs.toArray},(eR aT).trans (fR rfl)])) (λb u z=>?_) (λb z=>?_) λ_=>hk
  .
   by_cases hb:b∈T
   . show .inl #[hb,fR hb]
   .
    apply .inr #[hb,?_];by_cases hb2:b=a
    . show .inr #[_,_,(eR hb).trans (fR hb2)]
    . show .inl ((eR hb).trans (eR hb2))
  .
   by_cases hb:b∈T
   . have z':=(fR hb).symm.trans z;cases z';show HW b hb
   .
    have z1:=(eR hb).symm.trans z;by_cases hb2:b=a
    . have z':=(fR hb2).symm.trans z1;cases z';subst hb2;show#[ha,by rw[eA];show hl,vs,_,rv,ha]
    . have z':=(eR hb2).symm.trans z1;cases z'
  .
   by_cases hb:b∈T
   . show .inr hb
   .
    by_cases hb2:b=a
    . show .inl hb2
    . show absurd ((eR hb).trans (eR hb2)) z
end L2
namespace Ev
open L2
end Ev
namespace PySem
end PySem
namespace Ev
open L2
abbrev upIn(K:Frag)(C D:Addr):Bool:=match K.lookup C with
 |!#[_,_,.cls cd,_]=>cd.mro.contains (.ref D)
 |_=>false
section
variable{g g':G}
def Slots.nos'{K:Frag}(J:Sg):Slots K M H (List.replicate J.length .no) J []:=by
 induction J with
 |nil=>show .nil
 |cons v J ih=>show .no ih
def Slots.mG{K:Frag}{i:Nat}{v:Option V}(q:Slots K M H g J As)(e:g[i]?=some .no):Slots K M H g (J.set i v) As:=by
 induction q generalizing i with
 |nil=>show .nil
 |no q ih=>cases i with
  |zero=>show .no q
  |succ i=>show .no (ih e)
 |dat r q ih=>cases i with
  |zero=>cases e
  |succ i=>show .dat r (ih e)
 |own a b q ih=>cases i with
  |zero=>cases e
  |succ i=>show .own a b (ih e)
def S.mG(s:S z g J As M H)(e:g[i]?=some .no):S z g (J.set i v) As M H where
 sl:=s.sl.mG e
 nd:=s.nd
 sub:=s.sub
 own:=λj a l e1 e2=>s.own j a l e1 (by
  rw[i5 (λq=>by rw[<- q,e]at e1;cases e1)]at e2;show e2)
 live:=s.live
 keep:=s.keep
 jL:=s.jL
 m0:=s.m0
 bm:=s.bm
 jj:=λp hp=>by
  let(h1,l,h2):=s.jj p hp;show#[by rw[i5 (λq=>by rw[<- q,e]at h2;cases h2)];show h1,l,h2]
 tab:=s.tab
 tm:=s.tm
 tt:=s.tt
end
end Ev
namespace L2
end L2
namespace Ev
open L2
structure Lt where
 params:Arguments
 body:Expr
 scope:Scope
 pos:Pos
meta abbrev Lt.ex(l:Lt):Expr:=.Lambda l.params l.body l.scope l.pos
section
def S.HX(s:S z g J As M H)(hm:a∈M)(hA:a∉As)(h0:z.H0 a=none)(h:H a=!(.lst xs)):S z g J As M (upd H a (.lst xs')):=s.Gv hm hA h0 h trivial trivial
end
open L2 PySem.W
abbrev BZ:Slot->Slot
 |.own l=>.dat (.lst l)
 |s=>s
inductive YB(X:Cx):List Stmt->List TS->Prop
 |nil:YB X [] []
 |cons {s:Stmt}{ss:List Stmt}{t:TS}{ts:List TS}:PS X s t->YB X ss ts->YB X (s::ss) (t::ts)
abbrev V0:List TS->TS->TS
 | [],u=>u
 |t::ts,u=>Zd t (V0 ts u)
def YB.pss{X:Cx}{ss aD:List Stmt}{ts:List TS}{u:TS}(h:YB X ss ts)(hu:uL X aD u):uL X (ss++aD) (V0 ts u):=by
 induction h with
 |nil=>show hu
 |cons a _ ih=>show gg a ih
abbrev Dt(X:Cx)(z:Z)(ss:List Stmt)(g:G)(f:Fl)(g':G):Prop:=
 ∃ts,YB X ss ts/\∀(u:TS) J As M H (E:Ends),S z g J As M H->oR z M H { E with nx:=u E} g' f->V0 ts u E J H
def Dt.bk{X:Cx}{z:Z}{ss aD:List Stmt}{g g1 g':G}{f:Fl}(h:Dt X z ss g .nx g1)(h2:eZ X z aD g1 f g'):eZ X z (ss++aD) g f g':=by let(t2,q2,k2):=h2;let(t,q,k):=h;show#[_,q.pss q2,λJ As M H E s kE=>k t2 J As M H E s λσ' aE M' H' s' st=>k2 σ' aE M' H' E s' (kE.trans st)]
def Dt.end{X:Cx}{z:Z}{ss aD:List Stmt}{g g':G}{f:Fl}(h:Dt X z ss g f g')(hn:f≠.nx):eZ X z (ss++aD) g f g':=by
 let(t,q,k):=h;apply#[_,q.pss eK,λJ As M H E s kE=>k _ J As M H E s ?_]
 cases f with
 |nx=>show absurd rfl hn
 |rt r=>show kE
 |bk=>show kE
 |ct=>show kE
abbrev V1(X:Cx)(tg iter:Expr):TI:=λJ H R=>∃wi,PI X tg iter wi/\wi J H R
def HY:PI X tg iter (V1 X tg iter):=λaj s J H R I h=>let #[wi,q,k]:=h;q aj s J H R I k
section
def Ia(hC:∀g b g',mj g b g'->cu X z ifs g b g')(hE:∀g d g',xV g d g'->aA X z bE g (.dat d) g')(hw:dR X z tg iter g2 items Ry)(ht:gw X z tg T)(dU:last∉T.ix)
  (hcp:jV T last mj xV items Ry g3) {J:Sg}{As M:List Addr}{H:Hp}{Nn:Sg->Hp->Prop}{D:Addr} (s:S z g2 J As M H) (hD:J[last]?=!(!(.ref D)))
  (k:∀σ' aE M' H',S z g3 σ' aE M' H'->aq M H M' H'->σ'[last]?=!(!(.ref D))->vo T.ix J σ'->Nn σ' H'):ZR (V1 X tg iter) (CZ X tg) (Dc X ifs) (uZ D (G6 X bE)) J H Nn:=by
 let(wi,q,kw):=hw;apply#[wi,q,kw J As M H _ s λqqq H1 bu M1 s1 dN hJ=>?_]
 apply jU hJ (λl σ' H'=>∃gb Ab Mb,S z gb σ' Ab Mb H'/\aq M1 H1 Mb H'/\vo T.ix J σ'/\σ'[last]?=!(!(.ref D))/\jV T last mj xV l gb g3)
  #[_,_,_,s1,aq.refl _ _,vo.refl _ _,hD,hcp] (by rintro _ _ _ ⟨_,_,M2,_,aJ,_⟩;show#[M2,aJ]) ?_ ?_
 . rintro σ' H' ⟨gb,Ab,Mb,s2,aJ,ag,xW,cp⟩;cases cp;show k σ' Ab Mb H' s2 (dN.trans aJ) xW ag
 .
  rintro d l σ' H' ⟨gb,Ab,Mb,s2,aJ,ag,xW,cp⟩ x H2 yl;let(s3,cH,rx):=yl Mb aJ z gb σ' Ab rfl s2;let(t,qt,kt):=ht;cases cp with
  |skip e0 hc aD=>
   apply#[t,qt,kt d gb _ e0 x _ Ab Mb H2 _ s3 rx λσ4 iJ s4 ag4=>?_]
   let(t2,q2,k2):=hC _ _ _ hc;apply#[t2,q2,k2 _ iJ Mb H2 _ s4 λH5 zZ M5 s5 jq=>?_]
   show oq #[_,zZ,M5,s5,(aJ.trans cH).trans jq,ag.trans ag4,by rw[ag4.2 _ dU];show xW,aD]
  |take e0 hc he ha hz' aD=>
   apply#[t,qt,kt d gb _ e0 x _ Ab Mb H2 _ s3 rx λσ4 iJ s4 ag4=>?_]
   let(t2,q2,k2):=hC _ _ _ hc;let(t3,q3,k3):=hE _ _ _ he;have Nx:σ4[last]?=!(!(V.ref D)):=by rw[ag4.2 _ dU];show xW
   apply#[t2,q2,k2 _ iJ Mb H2 _ s4 λH5 zZ M5 s5 jq=>jO #[t3,q3,k3 _ zZ M5 H5 _ s5 λv H6 Vr M6 s6 RB R6=>?_]]
   let(a,xs,f1,f2,f3,f4):=s6.sl.at ha;rw[Nx]at f1;injection f1 with f1;injection f1 with f1;injection f1 with f1;subst f1;let(s7,st7):=s6.write ha Nx (f4.append (.cons R6 .nil));show#[xs,f3,by rw[<- f4.length];show hz',_,Vr,M6,s7,(((aJ.trans cH).trans jq).trans RB).trans st7,ag.trans ag4,Nx,aD]
end
inductive iK(T:Tg)(mj:G->Bool->G->Prop)(In:G->G->Prop):List D->G->G->Prop
 |nil {g:G}:iK T mj In [] g g
 |skip:T.set d g=!g1->mj g1 false g2->iK T mj In l g2 g'->iK T mj In (d::l) g g'
 |take:T.set d g=!g1->mj g1 true g2->In g2 g3->iK T mj In l g3 g'->iK T mj In (d::l) g g'
section
abbrev Du(X:Cx)(z:Z)(N':List Str)(scope:Scope)(tg iter bE:Expr)(ifs:List Expr)(T:Tg)(last:Nat)(g2 g3:G):Prop:=
 ∃items Ry,(∀bk:Bk,dR (X.blk N' scope bk) z tg iter g2 items Ry)/\jV T last (λg b g'=>∀bk:Bk,cu (X.blk N' scope bk) z ifs g b g') (λg d g'=>∀bk:Bk,aA (X.blk N' scope bk) z bE g (.dat d) g') items Ry g3
def mH(hw:dR X z t1 i1 g items g1)(ht1:∀b:Bk,gw (X.blk N' scope b) z t1 T1)(ht:∀b:Bk,gw (X.blk N' scope b) z tg T)(hT1:∀i∈T1.ix,g1.length<=i/\i<g1.length+k)(hT:∀i∈T.ix,g1.length<=i/\i<g1.length+k)
  (hcp:iK T1 (λg b g'=>∀bk:Bk,cu (X.blk N' scope bk) z f1 g b g') (Du X z N' scope tg iter bE ifs T (g1.length+k)) items (gC k g1) gE) (hacc:gE[g1.length+k]?=!(.own acc)) :
  ∃wi,PI X t1 i1 wi/\∀J As M H Q,S z g J As M H->Kn z (gE.take g1.length) J M H (.new acc) Q->rz X k wi (λb=>CZ (X.blk N' scope b) t1) (λb=>Dc (X.blk N' scope b) f1) (λD b=>ZR (V1 (X.blk N' scope b) tg iter) (CZ (X.blk N' scope b) tg) (Dc (X.blk N' scope b) ifs) (uZ D (G6 (X.blk N' scope b) bE))) J H Q:=by
 let(wi,q,kw):=hw;apply#[wi,q,λJ As M H Q s kq=>kw J As M H _ s λqqq H1 bu M1 s1 dN hJ D hD=>?_]
 have hl:=s1.sl.length;have hz:∀p∈z.lent,p.1<J.length:=λp hp=>(dL.mp (s1.jj p hp).1).1
 have hT1':∀i∈T1.ix,J.length<=i:=λi hi=>by rw[<- hl];show (hT1 i hi).1
 have Vq:∀i∈T.ix,J.length<=i:=λi hi=>by rw[<- hl];show (hT i hi).1
 have Ib:g1.length+k∉T1.ix:=λh=>u8 _ (hT1 _ h).2
 have dU:g1.length+k∉T.ix:=λh=>u8 _ (hT _ h).2
 have s1':=s1.bw (xs:=[]) hD;have h0:=s1.cS hD;have nA:D∉bu:=λh=>s1.fresh hD (s1.sub D h)
 have sb:=s1'.extend (k:=k) dA nA h0 aF .nil;have G7:(J++(List.replicate k none++[!(V.ref D)]))[g1.length+k]?=!(!(V.ref D)):=by
  rw[hl,b6 (BU _ _),lS,b6 (by rw[nE];show d5 _),nE,Cf]
  rfl
 apply jU hJ (λl σ' H'=>∃gb Ab Mb τ,S z gb σ' Ab Mb H'/\aq M1 H1 Mb H'/\σ'=J++τ/\σ'[g1.length+k]?=!(!(.ref D))/\iK T1 (λg b g'=>∀bk:Bk,cu (X.blk N' scope bk) z f1 g b g') (Du X z N' scope tg iter bE ifs T (g1.length+k)) l gb gE)
  #[_,_,_,_,sb,aq.bw hD,rfl,G7,hcp] (by rintro _ _ _ ⟨_,_,M2,_,_,aJ,_⟩;show#[M2,aJ]) ?_ ?_
 . rintro σ' H' ⟨gb,Ab,Mb,τ,s2,aJ,rfl,xW,cp⟩;cases cp;let(a,xs,f1,f2,f3,f4):=s2.sl.at hacc;rw[xW]at f1;injection f1 with f1;injection f1 with f1;injection f1 with f1;subst f1;let(A1,s3,m3,n3):=s2.shrink hz ⋯ hacc xW;rw[<- hl]at s3;show kq _ H' A1 Mb s3 (dN.trans aJ) #[D,xs,rfl,m3,n3,h0,f3,f4]
 .
  rintro d l σ' H' ⟨gb,Ab,Mb,τ,s2,aJ,rfl,xW,cp⟩ x H2 yl bk _;let(s3,cH,rx):=yl Mb aJ z gb (J++τ) Ab rfl s2;let(t,qt,kt):=ht1 bk;cases cp with
  |skip e0 hc aD=>
   apply#[t,qt,kt d gb _ e0 x _ Ab Mb H2 _ s3 rx λσ4 iJ s4 ag=>?_]
   let(τ',rfl):=cO ag hT1';let(t2,q2,k2):=hc bk;apply#[t2,q2,k2 _ iJ Mb H2 _ s4 λH5 zZ M5 s5 jq=>?_]
   apply oq #[_,zZ,M5,τ',s5,(aJ.trans cH).trans jq,rfl,?_,aD];rw[ag.2 _ Ib];show xW
  |take e0 hc hin aD=>
   let(items2,Ry,hw2,Lk):=hin;apply#[t,qt,kt d gb _ e0 x _ Ab Mb H2 _ s3 rx λσ4 iJ s4 ag=>?_]
   let(τ',rfl):=cO ag hT1';let(t2,q2,k2):=hc bk;have Nx:(J++τ')[g1.length+k]?=!(!(V.ref D)):=by rw[ag.2 _ Ib];show xW
   apply#[t2,q2,k2 _ iJ Mb H2 _ s4 λH5 zZ M5 s5 jq=>jO ?_]
   apply Ia (λg b g' h=>h bk) (λg d g' h=>h bk) (hw2 bk) (ht bk) dU Lk s5 Nx λσ6 Vr M6 H6 s6 RB hD6 ag6=>?_
   let(τ6,rfl):=cO ag6 Vq;show#[_,Vr,M6,τ6,s6,((aJ.trans cH).trans jq).trans RB,rfl,hD6,aD]
def Ic(B:bH X.env.scope scope)(hc:X.calm=true)(hN:Names X.N N' scope k)(hw:dR X z t1 i1 g items g1)(ht1:∀b:Bk,gw (X.blk N' scope b) z t1 T1)(ht:∀b:Bk,gw (X.blk N' scope b) z tg T)(hT1:∀i∈T1.ix,g1.length<=i/\i<g1.length+k)(hT:∀i∈T.ix,g1.length<=i/\i<g1.length+k)
  (hcp:iK T1 (λg b g'=>∀bk:Bk,cu (X.blk N' scope bk) z f1 g b g') (Du X z N' scope tg iter bE ifs T (g1.length+k)) items (gC k g1) gE) (hacc:gE[g1.length+k]?=!(.own acc))
  (hs:∀x,foldedSetIterable i1 X.env x=pure x) (hs2:∀(b:Bk) x,foldedSetIterable iter (X.blk N' scope b).env x=pure x):aA X z (.ListComp bE [#[t1,i1,f1,0],#[tg,iter,ifs,0]] scope pos) g (.new acc) (gE.take g1.length):=by
 let(wi,q,kk):=mH hw ht1 ht hT1 hT hcp hacc;show#[_,Gq B hc hN q (λb=>#[#[jw,jx],HY,jw,jx,oW]) hs hs2,kk]
def Ie(B:bH X.env.scope scope)(hc:X.calm=true)(hN:Names X.N N' scope k)(hw:dR X z t1 i1 g items g1)(ht1:∀b:Bk,gw (X.blk N' scope b) z t1 T1)(ht:∀b:Bk,gw (X.blk N' scope b) z tg T)(hT1:∀i∈T1.ix,g1.length<=i/\i<g1.length+k)(hT:∀i∈T.ix,g1.length<=i/\i<g1.length+k)
  (hcp:iK T1 (λg b g'=>∀bk:Bk,cu (X.blk N' scope bk) z f1 g b g') (Du X z N' scope tg iter bE ifs T (g1.length+k)) items (gC k g1) gE) (hacc:gE[g1.length+k]?=!(.own acc))
  (Gp:X.N.Nodup) (hy:X.N[i]?=!y) (hl:X.env.scope.names.lookup y=some .local) (hb:i∉z.bor) (hi:i<(gE.take g1.length).length)
  (hsw:swapsWith (.ListComp bE [#[t1,i1,f1,0],#[tg,iter,ifs,0]] scope pos) (!(.Name y py)) dM.line X.env=pure true)
  (hs:∀x,foldedSetIterable i1 X.env x=pure x) (hs2:∀(b:Bk) x,foldedSetIterable iter (X.blk N' scope b).env x=pure x):gq X z (.Assign [.Name y py] (.ListComp bE [#[t1,i1,f1,0],#[tg,iter,ifs,0]] scope pos) dM) g .nx ((gE.take g1.length).set i (.own acc)):=by
 let(wi,q,kk):=mH hw ht1 ht hT1 hT hcp hacc;apply#[_,Gr B hc hN q (λb=>#[#[jw,jx],HY,jw,jx,oW]) Gp hy hl hsw hs hs2,λJ As M H E s kE=>kk J As M H _ s λv H' aE M' s' st R=>?_]
 let(a,xs,rfl,hm,hA,h0,ha,rr):=R;let(bG,s2):=s'.oA hb hi hm hA h0 ha rr;show kE _ bG M' H' s2 st
end
inductive fW(z:Z)(As M:List Addr)(H:Hp):List Addr->List (List D)->Prop
 |nil:fW z As M H [] []
 |cons {p:Addr}{as:List Addr}{xs:List V}{l:List D}{ll:List (List D)}:p∈M->p∉As->z.H0 p=none->H p=!(.lst xs)->aK z.K M H l xs->fW z As M H as ll->fW z As M H (p::as) (l::ll)
section
def fW.stay(h:fW z As M H as ll)(st:aq M H M' H')(k:∀p∈as,p∈M'/\H' p=H p):fW z As M' H' as ll:=by
 induction h with
 |nil=>show .nil
 |cons h1 h2 h3 h4 h5 _ ih=>let(k1,k2):=k _ dA;show .cons k1 h2 h3 (k2.trans h4) (h5.stay st) (ih λp hp=>k p (b0 _ hp))
def fW.mem(h:fW z As M H as ll):∀p∈as,p∈M/\p∉As/\z.H0 p=none/\∃xs,H p=!(.lst xs):=by
 induction h with
 |nil=>intro p h;symm
 |cons h1 h2 h3 h4 _ _ ih=>intro p hp;rcases eC.mp hp with rfl |hp;show#[h1,h2,h3,_,h4];show ih p hp
def fW.get(h:fW z As M H as ll):∀{i:Nat}{l:List D},ll[i]?=!l->∃p xs,as[i]?=!p/\H p=!(.lst xs)/\aK z.K M H l xs:=by
 induction h with
 |nil=>intro i l e;cases e
 |cons h1 h2 h3 h4 h5 _ ih=>intro i l e;cases i with
  |zero=>cases (show some _=!l from e);show#[_,_,rfl,h4,h5]
  |succ i=>show ih e
def fW.push(h:fW z As M H as ll)(h1:p∈M)(h2:p∉As)(h3:z.H0 p=none)(h4:H p=!(.lst xs))(h5:aK z.K M H l xs):fW z As M H (as++[p]) (ll++[l]):=by
 induction h with
 |nil=>show .cons h1 h2 h3 h4 h5 .nil
 |cons a b c d e _ ih=>show .cons a b c d e ih
def fW.write(h:fW z As M H as ll)(nd:as.Nodup)(r:aK z.K M (upd H p (.lst xs')) l' xs')(hp:p∈M):∀{i:Nat},as[i]?=!p->fW z As M (upd H p (.lst xs')) as (ll.set i l'):=by
 induction h with
 |nil=>intro i e;cases e
 |@cons q as xs l ll h1 h2 h3 h4 h5 hr ih=>
  intro i e;let(nd1,nd2):=i7.mp nd;cases i with
  |zero=>
   cases (show some q=!p from e)
   show .cons h1 h2 h3 aF r (hr.stay (aq.write hp) λx hx=>#[(hr.mem x hx).1,aB (λe=>nd1 (e▸hx))])
  |succ i=>
   have hq:q≠p:=λe'=>nd1 (by rw[e'];show lL (show as[i]?=!p from e))
   show .cons h1 h2 h3 (by rw[aB hq];show h4) (h5.stay (aq.write hp)) (ih nd2 e)
end
abbrev Rows(z:Z)(g:G)(iy:Nat)(M0:List Addr)(H0:Hp)(ll:List (List D))(J:Sg)(H:Hp):Prop:=
 ∃As M a as,S z g J As M H/\aq M0 H0 M H/\J[iy]?=!(!(.ref a))/\a∈M/\a∉As/\z.H0 a=none/\H a=!(.lst (as.map .ref))/\a∉as/\as.Nodup/\fW z As M H as ll
def Rows.mG(h:Rows z g iy M0 H0 ll J H)(e:g[i]?=some .no)(n:i≠iy):Rows z g iy M0 H0 ll (J.set i v) H:=by let(As,M,a,as,s,st,e1,h):=h;show#[As,M,a,as,s.mG e,st,by rw[i5 n];show e1,h]
section
variable{iy ix iw:Nat}
def Ao(hy:X.N[iy]?=!y)(vy:mh X.env.scope y)(dy:(y==(~~~3))=false)(cy:(y==("__classdict__":Str))=false)(hx:X.N[ix]?=!x)(vx:mh X.env.scope x)(dx:(x==(~~~3))=false)(cx:(x==("__classdict__":Str))=false)
  (hw:X.N[iw]?=!w) (vw:mh X.env.scope w) (dw:(w==(~~~3))=false) (cw:(w==("__classdict__":Str))=false) (hline:(jI.endLine==ig.line)=true) :
  ∃t,PS X (.Expr (.Call (.Attribute (.Subscript (.Name y py) (.Name x px) sp) "append" jI) [.Name w pw] [] ig) ep) t/\∀J H M0 H0 (E:Ends) (ll:List (List D)) (l:List D) (j:Nat) (b:Int),Rows z g iy M0 H0 ll J H->J[ix]?=!(!(.int j))->J[iw]?=!(!(.int b))->ll[j]?=!l->l.length<1000->
   (∀H',Rows z g iy M0 H0 (ll.set j (l++[.int b])) J H'->E.nx J H')->t E J H:=by
 apply#[_,zM (zQ BM PySem.F.slot_list_append PySem.F.type_list_append kT (Ro sX (cR hy vy dy cy) (cR hx vx dx cx) (λ_ _=>rfl)) (gR (cR hw vw dw cw) kQ rfl) rfl rfl hline rfl rfl) rfl,λJ H M0 H0 E ll l j b h ex ew el hl kE=>?_]
 let(As,M,a,as,s,st,e1,hm,hA,h0,ha,na,nd,rl):=h;let(p,xs,ep,hp,rp):=rl.get el;let(q1,q2,q3,_):=rl.mem p (lL ep);have hat:d9 (as.map V.ref) (j:Int)=!(.ref p):=by
  have hj:=(dL.mp ep).1;delta L2.d9 L2.nF;rw[fR ⋯,fR (by rw[eA];lia)]
  exact (as.map V.ref)[j]?=!(.ref p);rw[mM,ep];rfl
 apply#[.ref a,e1,.int j,ex,a,as.map .ref,j,.ref p,rfl,rfl,dQ.of ha,hat,.inl #[rfl,xs,dQ.of hp],.int b,ew,p,xs,.int b,rfl,rfl,hp,?_,kE _ ?_]
 . rw[<- rp.length,t8];lia
 .
  have hap:a≠p:=λe=>na (e▸lL ep)
  apply#[As,M,a,as,s.HX q1 q2 q3 hp,st.trans (aq.write q1),e1,hm,hA,h0,by rw[aB hap];show ha,na,nd,?_]
  show rl.write nd ((rp.stay (aq.write q1)).append (.cons (.int b) .nil)) q1 ep
end
abbrev vM(ll:List (List D)):D->Option (List (List D))
 |.tup [.int a,.int b]=>if 0<=a/\0<=b then match ll[a.toNat]? with
   |some l1=>if l1.length<1000 then match (ll.set a.toNat (l1++[.int b]))[b.toNat]? with
     |some l2=>if l2.length<1000 then some ((ll.set a.toNat (l1++[.int b])).set b.toNat (l2++[.int a]))else none
     |none=>none
    else none
   |none=>none
  else none
 |_=>none
abbrev iL:List D->List (List D)->Option (List (List D))
 | [],ll=>!ll
 |d::l,ll=>match vM ll d with |some RL=>iL l RL |none=>none
def Ig(h:vM ll d=!RL):∃(a b:Nat) (l1 l2:List D),d=.tup [.int a,.int b]/\ll[a]?=!l1/\l1.length<1000/\(ll.set a (l1++[.int b]))[b]?=!l2/\l2.length<1000/\RL=(ll.set a (l1++[.int b])).set b (l2++[.int a]):=by
 delta vM at h;split at h
 .
  ext a b;split at h
  .
   ext h0;obtain⟨a,rfl⟩:∃n:Nat,a=n:=#[a.toNat,by lia]
   obtain⟨b,rfl⟩:∃n:Nat,b=n:=#[b.toNat,by lia]
   split at h
   .
    ext l1 e1;split at h
    .
     ext h1;split at h
     .
      ext l2 e2;split at h
      . ext h2;symm;show#[a,b,l1,l2,rfl,e1,h1,e2,h2,rfl]
      . symm
     . symm
    . symm
   . symm
  . symm
 . symm
def S.Aq:∀(ps:List Addr) {M:List Addr},S z g J As M H->(∀p∈ps,p∉As/\z.H0 p=none)->∃M',S z g J As M' H/\(∀m∈M',m∈M)/\∀p∈ps,p∉M'
 | [],M,s,_=>#[M,s,λ_ h=>h,λ_ h=>nomatch h]
 |p::ps,M,s,h=>by
  let(h1,h2):=h p dA;let(M',s',k1,k2):=S.Aq ps (s.drop h2 h1) λq hq=>h q (b0 _ hq)
  apply#[M',s',λm hm=>(pV.mp (k1 m hm)).1,λq hq=>?_]
  rcases eC.mp hq with rfl |hq
  . intro hm;have:=(pV.mp (k1 _ hm)).2;simp at this
  . show k2 q hq
def fW.reps(h:fW z As M H as ll)(hM:∀m∈M',m∈M)(n:∀p∈as,p∉M'):aK z.K M' H (ll.map .lst) (as.map .ref):=by
 induction h with
 |nil=>show .nil
 |cons _ _ _ h4 h5 _ ih=>show .cons (.lst #[n _ dA,h4] (h5.stay (aq.less hM))) (ih λp hp=>n p (b0 _ hp))
def Rows.trans(st:aq M0 H0 M1 H1)(h:Rows z g iy M1 H1 ll J H):Rows z g iy M0 H0 ll J H:=by let(As,M,a,as,s,aJ,r):=h;show#[As,M,a,as,s,st.trans aJ,r]
section
variable{iy ia ib it:Nat}
def Ih(hp:PassesOwn (~~~2) X.A X.env X.xe)(hc:X.calm=true)(hK:z.K=X.K)(hy:X.N[iy]?=!y)(vy:mh X.env.scope y)(dy:(y==(~~~3))=false)(cy:(y==("__classdict__":Str))=false)
  (na:oV X a ia) (va:mh X.env.scope a) (da:(a==(~~~3))=false) (ca:(a==("__classdict__":Str))=false) (nb:oV X b ib) (vb:mh X.env.scope b) (db:(b==(~~~3))=false) (cb:(b==("__classdict__":Str))=false)
  (ht:X.N[it]?=!tn) (vt:mh X.env.scope tn) (dt:(tn==(~~~3))=false) (ct:(tn==("__classdict__":Str))=false) (hgt:g[it]?=!(.dat (.tup ak)))
  (hga:g[ia]?=some .no) (hgb:g[ib]?=some .no) (hay:ia≠iy) (hby:ib≠iy) (hab:ia≠ib) (l1:(RM.endLine==RN.line)=true) (l2:(RP.endLine==Lk.line)=true)
  {ll0:List (List D)} (hF:iL ak ll0=!Ln) :
  ∃t,PS X (.For (.Tuple [.Name a pa,.Name b pb] tk Fp) (.Name tn tp) [.Expr (.Call (.Attribute (.Subscript (.Name y y1) (.Name a a1) sp1) "append" RM) [.Name b b1] [] RN) ep1,.Expr (.Call (.Attribute (.Subscript (.Name y y2) (.Name b b2) sp2) "append" RP) [.Name a a2] [] Lk) ep2] [] Ii) t/\
   ∀M0 H0 J H (E:Ends),Rows z g iy M0 H0 ll0 J H->(∀σ' H',Rows z g iy M0 H0 Ln σ' H'->E.nx σ' H')->t E J H:=by
 let(t1,q1,k1):=Ao hy vy dy cy na.ix va da ca nb.ix vb db cb l1;let(t2,q2,k2):=Ao hy vy dy cy nb.ix vb db cb na.ix va da ca l2;apply#[_,Ge hp hc (Gd (cR ht vt dt ct)) (yc hc (iG (jM na.nd na.ix na.lc na.fn) (iG (jM nb.nd nb.ix nb.lc nb.fn) sQ rfl) rfl) rfl rfl) (gg q1 (LW q2)) (λ_=>rfl),λM0 H0 J H E h kE=>?_]
 let(As,M,ay,as,s,st,h):=h;let(v,ev,rv):=s.sl.oz hgt;cases rv with
 |@tup _ at' xs ha rr=>
  apply#[.ref at',ev,at',rfl,#[xs,hK▸ha.sq],?_];apply#[λi m σ' H'=>i+m=ak.length/\∃ll,Rows z g iy M H ll σ' H'/\iL (ak.drop i) ll=!Ln,#[ak.length,v4 _,ll0,#[As,M,ay,as,s,aq.refl _ _,h],hF],?_]
  rintro i m σ' H' ⟨him,ll,hr,hf⟩;let(bG,M2,ay2,as2,s2,aJ,h2):=id hr;have ha2:TupAt z.K M2 H' at' xs:=by
   rcases ha with ⟨n,hq⟩ |hq
   . show .inl (aJ.rd n hq)
   . show .inr hq
  have Nq:=rr.stay aJ;cases e:ak[i]? with
  |none=>
   have hi:i=ak.length:=by have:=CH.mp e;lia
   subst hi;rw[List.drop_length]at hf;cases hf;show .inl #[#[xs,hK▸ha2.sq,by rw[<- rr.length];show d5 _],kE σ' H' (hr.trans st)]
  |some d=>
   rw[drop_cons e]at hf;have hi:=(dL.mp e).1;let(xd,e1,e2):=Nq.get e;cases hd:vM ll d with
   |none=>
    have hf:(match vM ll d with |some RL=>iL (ak.drop (i+1)) RL |none=>none)=!Ln:=hf
    rw[hd]at hf;cases hf
   |some RL=>
    have hf:(match vM ll d with |some RL=>iL (ak.drop (i+1)) RL |none=>none)=!Ln:=hf
    rw[hd]at hf;let(YC,YD,r1,r2,rfl,g1,g2,g3,g4,rfl):=Ig hd;cases e2 with
    |@tup _ ad ys had rad=>
     cases rad with
     |cons ra rad=>cases rad with
      |cons rb rad=>
       cases rad;cases ra;cases rb;apply .inr #[#[xs,.ref ad,hK▸ha2.sq,e1],λCz CG=>∃ll,Rows z g iy M H ll Cz CG/\iL (ak.drop (i+1)) ll=!Ln,λCz CG hN=>#[m - 1,(ar1 him hi).1,(ar1 him hi).2,hN],λx H2 hx=>?_]
       let(rfl,hy'):=hx;have:=hy' xs (hK▸ha2.sq);rw[e1]at this;cases this;apply#[ad,_,rfl,hK▸had.sq,rfl,_,_,rfl,_,_,rfl,rfl,?_];have aN:=s2.sl.length.symm;have ila:ia<σ'.length:=by rw[aN];show (dL.mp hga).1
       have ilb:ib<σ'.length:=by rw[aN];show (dL.mp hgb).1
       have hr2:=(hr.mG (v:=!(.int YC)) hga hay).mG (v:=!(.int YD)) hgb hby
       have va':((σ'.set ia (!(V.int YC))).set ib (!(V.int YD)))[ia]?=!(!(.int YC)):=by rw[i5 (AJ hab),i9 ila]
       have vb':((σ'.set ia (!(V.int YC))).set ib (!(V.int YD)))[ib]?=!(!(.int YD)):=by rw[i9 (by rw[AE];show ilb)]
       show k1 _ _ M H _ ll r1 YC YD hr2 va' vb' g1 g2 λH3 hr3=>k2 _ _ M H _ _ r2 YD YC hr3 vb' va' g3 g4 λH4 hr4=>#[_,hr4,hf]
end
section
def S.extNo(s:S z g J As M H)(τ:Sg):S z (g++List.replicate τ.length .no) (J++τ) As M H:=by
 have hl:=s.sl.length;have q:=s.sl.append (Slots.nos' τ);rw[oT]at q;apply#[q,s.nd,s.sub,λi b l e1 e2=>?_,s.live,s.keep,s.jL,s.m0,s.bm,λp hp=>?_,s.tab,s.tm,s.tt]
 .
  rcases u4 i g.length with hi |hi
  . rw[b8 hi]at e1;rw[b8 ⋯]at e2;show s.own i b l e1 e2
  . rw[b6 hi]at e1;have:=lL e1;rw[AI]at this;cases this.2
 . let(q1,l',q2):=s.jj p hp;show#[by rw[b8 (dL.mp q1).1];show q1,l',by rw[b8 (dL.mp q2).1];show q2]
def Slots.nosA{K:Frag}:∀{n:Nat}{τ:Sg}{A:List Addr},Slots K M H (List.replicate n .no) τ A->A=[]
 | 0,_,_,q=>by cases q;rfl
 |n+1,_,_,q=>by
  cases q with
  |no q=>show Slots.nosA q
def S.cutNo{τ:Sg}{n:Nat}(s:S z (g++List.replicate n .no) (J++τ) As M H)(hl:g.length=J.length)(hz:∀p∈z.lent,p.1<J.length):S z g J As M H:=by
 let(σ1,σ2,A1,A2,h1,h2,h3,h4):=s.sl.split;let(rfl,rfl):=List.append_inj h1 (hl.symm.trans h3.length);have:=Slots.nosA h4;subst this;rw[oT]at h2;subst h2;apply#[h3,s.nd,s.sub,λi b l e1 e2=>?_,s.live,s.keep,s.jL,s.m0,s.bm,λp hp=>?_,s.tab,s.tm,s.tt]
 . have hi:=(dL.mp e1).1;show s.own i b l (by rw[b8 hi];show e1) (by rw[b8 ⋯];show e2)
 . let(c1,l',c2):=s.jj p hp;have vn:=hz p hp;rw[b8 vn]at c1;rw[b8 ⋯]at c2;show#[c1,l',c2]
end
section
variable{iy im:Nat}
def Dw(hj:j<k)(hN:Names X.N N' scope k)(B:bH X.env.scope scope)(hc:X.calm=true)(hx:∀b:Bk,oV (X.blk N' scope b) x (X.N.length+j))(hgr:Gl X "range")(hmr:X.mg "range"=none)
  (RQ:g.length=X.N.length) (hm:X.N[im]?=!mn) (vm:mh X.env.scope mn) (dm:(mn==(~~~3))=false) (cm:(mn==("__classdict__":Str))=false) (hgm:g[im]?=!‹m›) (hm1:m<=1000)
  (Gp:X.N.Nodup) (hy:X.N[iy]?=!y) (hl:X.env.scope.names.lookup y=some .local) (hgy:g[iy]?=some .no)
  (hsw:swapsWith (.ListComp (.List [] lp) [#[.Name x px,.Call (.Name "range" rp) [.Name mn mp] [] YF,[],0]] scope V2) (!(.Name y py)) ap.line X.env=pure true) :
  ∃t,PS X (.Assign [.Name y py] (.ListComp (.List [] lp) [#[.Name x px,.Call (.Name "range" rp) [.Name mn mp] [] YF,[],0]] scope V2) ap) t/\∀J As M H (E:Ends),S z g J As M H->(∀σ' H',Rows z g iy M H (List.replicate m []) σ' H'->E.nx σ' H')->t E J H:=by
 apply#[_,zR B hc hN (qV hgr hmr (gR (cR hm vm dm cm) kQ rfl)) (λb=>#[jM (hx b).nd (hx b).ix (hx b).lc (hx b).fn,uY,Gh kQ]) Gp hy hl hsw (λ_=>rfl),λJ As M H E s kE=>?_]
 let(v,ev,rv):=s.sl.oz hgm;cases rv;apply#[.int m,ev,(m:Int),rfl,by lia,by lia,λD hD=>?_]
 have aN:=s.sl.length;have h0D:=s.cS hD;have s1:=s.bw (xs:=[]) hD;apply#[λi n σ' H'=>i+n=m/\∃Mb as w,S z (g++List.replicate (k+1) .no) σ' As Mb H'/\aq M H Mb H'/\w.length=k/\σ'=J++(w++[!(.ref D)])/\D∈Mb/\H' D=!(.lst (as.map .ref))/\D∉as/\as.Nodup/\as.length=i/\fW z As Mb H' as (List.replicate i []),#[m,v4 _,D::M,[],List.replicate k none,?_,aq.bw hD,nE,rfl,dA,aF,(λh=>nomatch h),AC,rfl,.nil],?_]
 . have:=s1.extNo (List.replicate k none++[!(.ref D)]);rw[dS,nE]at this;show this
 .
  rintro i n σ' H' ⟨hin,Mb,as,w,s2,aJ,hw,rfl,hDm,hDH,hDn,nd,hal,rl⟩;have nDA:D∉As:=λh=>s.fresh hD (s.sub D h)
  by_cases hi:i<m
  .
   apply .inr #[hi,λσ' H'=>∃Mb as w,S z (g++List.replicate (k+1) .no) σ' As Mb H'/\aq M H Mb H'/\w.length=k/\σ'=J++(w++[!(.ref D)])/\D∈Mb/\H' D=!(.lst (as.map .ref))/\D∉as/\as.Nodup/\as.length=i+1/\fW z As Mb H' as (List.replicate (i+1) []),λCz CG hN=>#[n - 1,(ar1 hin hi).1,(ar1 hin hi).2,hN],λx' H2 hx' bk _=>?_]
   let(rfl,rfl):=hx';have es:(J++(w++[!(V.ref D)])).set (X.N.length+j) (!(.int (0+(i:Int))))=J++(w.set j (!(.int (0+(i:Int))))++[!(V.ref D)]):=by rw[<- RQ,aN,AG _ _ (BU _ _),lS,List.set_append_left _ _ ⋯]
   have s3:S z (g++List.replicate (k+1) .no) (J++(w.set j (!(.int (0+(i:Int))))++[!(V.ref D)])) As Mb H2:=by rw[<- es];show s2.mG (by rw[<- RQ,b6 (BU _ _),List.getElem?_replicate,fR ⋯])
   delta uS Rp;dsimp only;rw[fR rfl];rw[es];apply#[oP _,λp hp=>?_]
   have pD:p≠D:=λe=>by rw[e,hDH]at hp;cases hp
   have pas:∀q∈as,q≠p:=λq hq e=>by
    let(_,_,_,xs,hx):=rl.mem q hq;rw[e,hp]at hx;cases hx
   have hD1:upd H2 p (.lst []) D=!(.lst (as.map .ref)):=by rw[aB (AJ pD)];show hDH
   have s4:=s3.bw (xs:=[]) hp;have s5:=s4.HX (xs':=as.map .ref++[.ref p]) (b0 _ hDm) nDA h0D hD1;have cH:aq Mb H2 (p::Mb) (upd H2 p (.lst [])):=aq.bw hp;have iD:aq (p::Mb) (upd H2 p (.lst [])) (p::Mb) (upd (upd H2 p (.lst [])) D (.lst (as.map .ref++[.ref p]))):=aq.write (b0 _ hDm);apply#[as.map .ref,hD1,?_,p::Mb,as++[p],_,s5,(aJ.trans cH).trans iD,by rw[AE];show hw,rfl,b0 _ hDm,?_,?_,?_,?_,?_]
   . rw[eA,t8];lia
   . rw[aF,AH];rfl
   .
    intro h;rcases l9.mp h with h |h
    . show hDn h
    . show pD (eP.mp h).symm
   .
    apply yA.mpr #[nd,i7.mpr #[by simp,AC],λq hq r hr e=>?_]
    rw[eP.mp hr]at e;show pas q hq e
   . rw[dS,hal];rfl
   .
    have r1:=rl.stay (cH.trans iD) λq hq=>#[b0 _ (rl.mem q hq).1,by rw[aB (show q≠D from λe=>hDn (by rw[<- e];show hq)),aB (pas q hq)]]
    rw[show List.replicate (i+1) ([]:List Ev.D)=List.replicate i []++[[]]from List.replicate_succ']
    show r1.push dA (λh=>s2.fresh hp (s2.sub p h)) (s2.cS hp) (by rw[aB pD];show aF) .nil
  .
   have hi':i=m:=by lia
   subst hi';apply .inl #[d5 _,?_];have s3:=s2.cutNo aN λp hp=>(dL.mp (s.jj p hp).1).1
   have hly:iy<J.length:=by rw[<- aN];show (dL.mp hgy).1
   show kE _ _ #[As,Mb,D,as,s3.mG hgy,aJ,i9 hly,hDm,nDA,h0D,hDH,hDn,nd,rl]
end
section
variable{iy im ia ib it:Nat}
def yK(hp:PassesOwn (~~~2) X.A X.env X.xe)(hK:z.K=X.K)(hj:j<k)(hN:Names X.N N' scope k)(B:bH X.env.scope scope)(hc:X.calm=true)(hx:∀b:Bk,oV (X.blk N' scope b) x (X.N.length+j))(hgr:Gl X "range")(hmr:X.mg "range"=none)
  (hm:X.N[im]?=!mn) (vm:mh X.env.scope mn) (dm:(mn==(~~~3))=false) (cm:(mn==("__classdict__":Str))=false) (hgm:g[im]?=!‹m›) (hm1:m<=1000)
  (Gp:X.N.Nodup) (hy:X.N[iy]?=!y) (hl:X.env.scope.names.lookup y=some .local) (dy:(y==(~~~3))=false) (cy:(y==("__classdict__":Str))=false) (hgy:g[iy]?=some .no)
  (hsw:swapsWith (.ListComp (.List [] lp) [#[.Name x px,.Call (.Name "range" rp) [.Name mn mp] [] YF,[],0]] scope V2) (!(.Name y py)) ap.line X.env=pure true)
  (na:oV X a ia) (va:mh X.env.scope a) (da:(a==(~~~3))=false) (ca:(a==("__classdict__":Str))=false) (nb:oV X b ib) (vb:mh X.env.scope b) (db:(b==(~~~3))=false) (cb:(b==("__classdict__":Str))=false)
  (ht:X.N[it]?=!tn) (vt:mh X.env.scope tn) (dt:(tn==(~~~3))=false) (ct:(tn==("__classdict__":Str))=false) (hgt:g[it]?=!(.dat (.tup ak)))
  (hga:g[ia]?=some .no) (hgb:g[ib]?=some .no) (hay:ia≠iy) (hby:ib≠iy) (hab:ia≠ib) (l1:(RM.endLine==RN.line)=true) (l2:(RP.endLine==Lk.line)=true) (hF:iL ak (List.replicate m [])=!Ln) :
  Dt X z [.Assign [.Name y py] (.ListComp (.List [] lp) [#[.Name x px,.Call (.Name "range" rp) [.Name mn mp] [] YF,[],0]] scope V2) ap,.For (.Tuple [.Name a pa,.Name b pb] tk Fp) (.Name tn tp) [.Expr (.Call (.Attribute (.Subscript (.Name y y1) (.Name a a1) sp1) "append" RM) [.Name b b1] [] RN) ep1,.Expr (.Call (.Attribute (.Subscript (.Name y y2) (.Name b b2) sp2) "append" RP) [.Name a a2] [] Lk) ep2] [] Ii,.Return (!(.Name y yr)) rpos] g (.rt (.dat (.lst (Ln.map .lst)))) g:=by
 have vy:mh X.env.scope y:=.inl hl;by_cases RQ:g.length=X.N.length
 .
  let(t1,q1,k1):=Dw hj hN B hc hx hgr hmr RQ hm vm dm cm hgm hm1 Gp hy hl hgy hsw;have q3:PS X (.Return (!(.Name y yr)) rpos) _:=FW (cR hy vy dy cy);have fin:∀M H (E:Ends) σ' H',oR z M H E g (.rt (.dat (.lst (Ln.map .lst))))->Rows z g iy M H Ln σ' H'->Y8 iy σ' H' E.rt:=λM H E σ' H' kE h=>by
   let(As,M2,ay,as,s,st,e1,hm,hA,h0,ha,nay,nd,rl):=h;let(M3,s3,k3,k4):=S.Aq (ay::as) s λp hp=>by
    rcases eC.mp hp with rfl |hp
    . show#[hA,h0]
    . show#[(rl.mem p hp).2.1,(rl.mem p hp).2.2.1]
   show#[.ref ay,e1,kE _ σ' As M3 H' s3 (st.trans (aq.less k3)) (.lst #[k4 _ dA,ha] (rl.reps k3 λp hp=>k4 p (b0 _ hp)))]
  have mid:∃t,PS X (.For (.Tuple [.Name a pa,.Name b pb] tk Fp) (.Name tn tp) [.Expr (.Call (.Attribute (.Subscript (.Name y y1) (.Name a a1) sp1) "append" RM) [.Name b b1] [] RN) ep1,.Expr (.Call (.Attribute (.Subscript (.Name y y2) (.Name b b2) sp2) "append" RP) [.Name a a2] [] Lk) ep2] [] Ii) t/\
   ∀M0 H0 J H (E:Ends),Rows z g iy M0 H0 (List.replicate m []) J H->(∀σ' H',Rows z g iy M0 H0 Ln σ' H'->E.nx σ' H')->t E J H:=Ih hp hc hK hy vy dy cy na va da ca nb vb db cb ht vt dt ct hgt hga hgb hay hby hab l1 l2 hF
  let(t2,q2,k2):=mid;apply#[[t1,t2,_],.cons q1 (.cons q2 (.cons q3 .nil)),λu J As M H E s kE=>?_]
  show k1 J As M H _ s λσ' H' h'=>k2 M H σ' H' _ h' λσ2 H2 h2=>fin M H _ σ2 H2 kE h2
 .
  have no:∀st:Stmt,PS X st (λ_ J _=>J.length≠X.N.length):=λst aj s J H D I h=>absurd I.len h
  show#[[_,_,_],.cons (no _) (.cons (no _) (.cons (no _) .nil)),λu J As M H E s kE=>λe=>RQ (s.sl.length.trans e)]
end
end Ev
namespace HT
open PySem PyProof.Rows
end HT
namespace Ev
open L2
section
variable{z:Z}{g:G}{J:Sg}{As M:List Addr}{H:Hp}
abbrev gD(k:Nat)(g:G):G:=g++List.replicate (k+1) .no
def vN{K:Frag}:∀τ:Sg,Slots K M H (List.replicate τ.length .no) τ []
 | []=>.nil
 |_::τ=>.no (vN τ)
def S.wide(s:S z g J As M H)(τ:Sg):S z (g++List.replicate τ.length .no) (J++τ) As M H:=by
 have q:=s.sl.append (vN τ);rw[oT]at q;have hl:=s.sl.length;apply#[q,s.nd,s.sub,λi b l e1 e2=>?_,s.live,s.keep,s.jL,s.m0,s.bm,λp hp=>?_,s.tab,s.tm,s.tt]
 .
  rcases u4 i g.length with hi |hi
  . rw[b8 hi]at e1;rw[b8 ⋯]at e2;show s.own i b l e1 e2
  . rw[b6 hi]at e1;have:=lL e1;rw[AI]at this;show absurd this.2 ⋯
 . let(q1,l,q2):=s.jj p hp;show#[by rw[b8 (dL.mp q1).1];show q1,l,by rw[b8 (dL.mp q2).1];show q2]
def S.narrow(s:S z gb (J++τ) As M H)(hz:∀p∈z.lent,p.1<J.length):∃A1,S z (gb.take J.length) J A1 M H/\∀a∈A1,a∈As:=by
 have hl:=s.sl.length;rw[dS]at hl;have q:=s.sl;rw[<- kA J.length gb]at q;let(σ1,σ2,A1,A2,h1,h2,h3,h4):=q.split;have l1:=h3.length;rw[i8,AS ⋯]at l1;let(rfl,rfl):=List.append_inj h1 l1;subst h2;have tk:∀(j:Nat) (o:Slot),(gb.take J.length)[j]?=!o->gb[j]?=!o/\j<J.length:=λj o e=>by
  have hj:=(dL.mp e).1;rw[i8]at hj;have hj':=fN hj (Nat.min_le_left _ _);rw[x4 hj']at e;show#[e,hj']
 apply#[A1,#[h3,(yA.mp s.nd).1,λb hb=>s.sub b (l7 _ hb),λj b l c1 c2=>?_,s.live,s.keep,s.jL,s.m0,s.bm,λp hp=>?_,s.tab,s.tm,s.tt],λa ha=>l7 _ ha]
 . let(c3,c4):=tk j _ c1;show s.own j b l c3 (by rw[b8 c4];show c2)
 . let(c1,l,c2):=s.jj p hp;have vn:=hz p hp;rw[b8 vn]at c1;show#[c1,l,by rw[x4 vn];show c2]
end
section
variable{X:Cx}{z:Z}{g g1:G}{pos:Pos}
abbrev rIcat:TIp:=λx y H Q=>∃l b xs zs,x=.ref l/\y=.ref b/\H l=!(.lst xs)/\H b=!(.lst zs)/\xs.length+zs.length<=sizeLine/\Q (.ref l) (upd H l (.lst (xs++zs)))
def V3:PIp X .Add rIcat:=by
 intro aj s J H x y v u Q I r1 r2 h;let(l,b,xs,zs,rfl,rfl,hH,hB,hz,q):=h;cases r1;cases r2;let(z,its,n,r,hl,e):=I.sZ hH;let(z2,jJ,n2,r2,hl2,e2):=I.sZ hB;have uJ:its.toArray.size+jJ.toArray.size<=sizeLine:=by rw[d6,d6];lia
 have uW : ¬ ((not its.toArray.isEmpty)&&Builtin.List.listTooLong (its.toArray.size+jJ.toArray.size))=true:=by rw[oh uJ,A8];show t6
 have ta:s.TypeIs (.ref l) "list" :=#[_,e,rfl];have tb:s.TypeIs (.ref b) "list" :=#[_,e2,rfl];have lk:=PySem.F.slot_list_iadd.lookup;have V4:fillsInplaceSlot (.type "list") "add" (Operator.Add==.Add)=pure false:=by
  exact (typeLookup (.type "list") (dunderI "add") >>= λfi=>pure (fi.isSome&&(not (isSeqSlot fi))))=pure false
  rfl
 have hsi:=PySem.seqSlot_of lk (by decide +kernel)
 apply nN (aS (DI ta (aS (DC V4 ?_))));apply aS (wpAny_binaryOp1_none ta tb noFill_list_add ?_);apply aS (DC hsi (aS (y8 ?_)));apply Db PySem.F.slot_list_iadd ta PySem.F.entry_list_iadd (PySem.F.args_list_iadd_2 _ _) (AutoSeq1.list___iadd___list_list_0 l its.toArray n b jJ.toArray n2 uW (by rw[d6];lia) ⋯) #[e,e2,?_]
 apply#[.ref l,_,I.Mr hH e ⋯ (r.append r2) ?_,rfl,q];rw[dS];lia
def N8(hn:oV X x i)(h:aA X z e g (.dat (.lst m)) g1)(hg:g[i]?=!(.own l0))(qC:g1[i]?=!(.own l))(hl:l.length+m.length<=16777216) :
  gq X z (.AugAssign (.Name x pos') .Add e pos) g .nx (g1.set i (.own (l++m))):=by
 let(t,q,k):=h;apply#[_,Ga hn.nd hn.ix hn.lc q V3 hn.fn,λJ As M H E s kk=>?_]
 let(a,xs,e1,e2,e3,e4):=s.sl.at hg;apply#[.ref a,e1,k J As M H _ s λv H' aE M' s' st R=>?_]
 let(b,ys,f1,f2,f3,f4):=s'.sl.at qC;rw[e1]at f1;injection f1 with f1;injection f1 with f1;injection f1 with f1;subst f1;cases R with
 |@lst _ c zs hc rr=>
  apply#[a,c,ys,zs,rfl,rfl,f3,hc.2,by rw[<- f4.length,<- rr.length];show hl,?_]
  let(s2,aJ):=s'.write qC e1 (f4.append rr);have es:J.set i (!(V.ref a))=J:=by
   refine BC;intro j;by_cases hj:i=j
   . subst hj;rw[i9 (dL.mp e1).1,e1]
   . rw[i5 hj]
  rw[es];show kk _ aE M' _ s2 (st.trans aJ)
end
open L2 PySem.W SeqAt
open L2 PySem.W SeqAt
open L2 PySem.W SeqAt
open L2 PySem.W
section
variable{prog:Program}{w:World}{A:Around}{R:Result->Shared->Prop}{I S:Addr}{fp wr:List Addr}{n:Nat}{P:Nat->Value->Prop}{St:Nat->Heap->Prop}{h0:Heap}{bt:Nat->Nat->Bool}{kw:List (Str×Value)}
meta abbrev Fy(h h':Heap):Prop:=∀b o,h.get? b=!o->h'.get? b=!o
abbrev Ar(prog:Program)(w:World)(A:Around)(h0:Heap)(P:Nat->Value->Prop)(bt:Nat->Nat->Bool):Prop:=
 ∀i j u v (s:Shared) (Q E:Value->Shared->Prop),Fy h0 s.heap->P i u->P j v->Q (.bool (bt i j)) s->wpAny (model prog w) A (richCompare .Lt u v) Q E s
def yL(W:Walks prog w A.in1 I fp wr n P St)(hc:Ar prog w A.in1 h0 P bt)(hS:S∉fp)(hw:∀b o,h0.get? b=!o->b∉wr/\b≠S):∀(k j:Nat) (s:Shared) (v:Value) (c:Nat),n - (j+1)=k->j+1<=n->St (j+1) s.heap->P (argBest bt j) v->Fy h0 s.heap->
   s.heap.get? S=some { cls:=.type "list",dict:=none,data:=.seq ([v,v].toArray) c,slots:=([].toArray)}->(∀u h tk,P (argBest bt (n - 1)) u->Fy h0 h->R (.ok (.ret u)) { s with heap:=h,toks:=tk})->
   codeAny (model prog w) A (.builtin "min.loop" #[[.ref I,.none,.ref S],kw]) R s:=by
 have hSw:S∉wr:=λz=>hS (W.sub _ z)
 have nm:(toString "min" ++ toString ".loop":String) = "min.loop" :=by decide
 intro k
 induction k with
 |zero=>
  intro j s v c hk hj st hp old oS fin;obtain rfl:n=j+1:=by lia
  apply AF F.entry_min_loop ?_;apply aS (A9 oS rfl ?_);apply aS (wpAny_tryCatch (W.done s _ _ st λh tk kp=>?_))
  apply aS (C3 (kp S _ hSw oS) rfl (aS (wpAny_letGo (dC ?_))));show fin v _ tk hp λb o e=>(pE _ _ (AJ (hw b o e).2)).trans (kp b o (hw b o e).1 (old b o e))
 |succ k ih=>
  intro j s v c hk hj st hp old oS fin;have hlt:j+1<n:=by lia
  apply AF F.entry_min_loop ?_;apply aS (A9 oS rfl ?_);apply aS (wpAny_tryCatch (W.item (j+1) s _ _ hlt st λu h tk hu aJ kp=>?_))
  have YG:=kp S _ hSw oS;have V5:Fy h0 h:=λb o e=>kp b o (hw b o e).1 (old b o e)
  exact wpAny _ _ (tryCatch (holding [u,u] (richCompare .Lt u v >>= _)) _ >>= _) _ _ _;apply aS (wpAny_tryCatch (nN (aS (hc (j+1) (argBest bt j) u v _ _ _ V5 hu hp ?_))));apply aS (nN (tI ?_));apply aS (wpAny_letGo (dC ?_));cases hb:bt (j+1) (argBest bt j)with
  |true=>
   apply aS (C3 YG rfl (aS (wpAny_letGo ?_)));apply dC #[C4 D2 _,ih (j+1) _ u _ ⋯ hlt (W.frame _ _ _ aJ λb hb o e=>?_) (by simp only[argBest,hb];show hu) (λb o e=>?_) (sR _ YG rfl) fin]
   . show (pE _ _ (λz:S=b=>hS (z▸hb))).trans e
   . show (pE _ _ (AJ (hw b o e).2)).trans (V5 b o e)
  |false=>apply aS (wpAny_letGo ?_);show dC #[C4 D2 _,ih (j+1) _ v c ⋯ hlt aJ (by simp only[argBest,hb];show hp) V5 YG fin]
def vO(W:Walks prog w A.in1 I fp wr n P St)(hc:Ar prog w A.in1 h0 P bt)(hS:S∉fp)(hw:∀b o,h0.get? b=!o->b∉wr/\b≠S)(hn:0<n)(st:St 0 s.heap)(old:Fy h0 s.heap)
  (oS:s.heap.get? S=some { cls:=.type "list",dict:=none,data:=.seq ([].toArray) c,slots:=([].toArray)}) (fin:∀u h tk,P (argBest bt (n - 1)) u->Fy h0 h->R (.ok (.ret u)) { s with heap:=h,toks:=tk}) :
   codeAny (model prog w) A (.builtin "min.loop" #[[.ref I,.none,.ref S],kw]) R s:=by
 have hSw:S∉wr:=λz=>hS (W.sub _ z)
 have nm:(toString "min" ++ toString ".loop":String) = "min.loop" :=by decide
 apply AF F.entry_min_loop ?_;apply aS (A9 oS rfl ?_);apply aS (wpAny_tryCatch (W.item 0 s _ _ hn st λu h tk hu aJ kp=>?_))
 have YG:=kp S _ hSw oS;exact wpAny _ _ (updateSeq S (λ_=>([u,u].toArray)) >>= _) _ _ _
 apply aS (C3 YG rfl ?_);apply dC #[C4 D2 _,yL W hc hS hw _ 0 _ u _ rfl hn (W.frame _ _ _ aJ λb hb o e=>?_) hu (λb o e=>?_) (sR _ YG rfl) fin]
 . show (pE _ _ (λz:S=b=>hS (z▸hb))).trans e
 . show (pE _ _ (AJ (hw b o e).2)).trans (kp b o (hw b o e).1 (old b o e))
def vP{x:Value}{kw:List (Str×Value)}(hkw:kw=[]\/∃d,kw=[(Str.ofString "default",d)]){E Q:Value->Shared->Prop}{s:Shared}
  (h:wpAny (model prog w) A.in1 (Builtin.min #[[x],kw]) (λfin s'=>match fin with
   |.done f=>(match Except.ok f with |.ok (.ret v)=>Q v s' |.ok _=>False |.error e=>E e s')
   |.again c'=>c'.quiet=true/\codeAny (model prog w) A c' (λr s'=>match r with |.ok (.ret v)=>Q v s' |.ok _=>False |.error e=>E e s') s') E s) :
  wpAny (model prog w) A (call (.builtin "min") [x] kw) Q E s:=by
 apply wpAny_call (codeAny_call_builtin F.plain_min F.entry_min ?_);delta checkBuiltinCall;rw[F.kind_min];rcases hkw with rfl |⟨d,rfl⟩
 . show DC (a:=()) rfl h
 . show DC (a:=()) rfl h
def pH{x:Value}{kw:List (Str×Value)}(hkw:kw=[]\/∃d,kw=[(Str.ofString "default",d)]){Q E:Value->Shared->Prop}{s:Shared}
  (h:wpAny (model prog w) A.in1 (pyIter x) (λit t=>∃I fp wr n P St bt,it=.ref I/\Walks prog w A.in1 I fp wr n P St/\St 0 t.heap/\(∀b∈fp,b<t⁻¹)/\0<n/\Ar prog w A.in1 s.heap P bt/\Fy s.heap t.heap/\(∀b o,s.heap.get? b=!o->b∉wr)/\
   ∀v h' tk,P (argBest bt (n - 1)) v->Fy s.heap h'->Q v { t with heap:=h',toks:=tk}) E s) :
  wpAny (model prog w) A (call (.builtin "min") [x] kw) Q E s:=by
 have nm:(toString "min" ++ toString ".loop":String) = "min.loop" :=by decide
 apply vP hkw ?_;have bp:∃o:Option Value,Builtin.Builtins.bindParams "min" ["key", "default"] 0 #[[],kw]=pure [none,o]/\o.toList.map (λd=>(Str.ofString "default",d))=kw:=by
  rcases hkw with rfl |⟨d,rfl⟩
  . show#[none,rfl,rfl]
  . show#[!d,rfl,rfl]
 let(o,e1,e2):=bp;apply aS (DC e1 ?_);apply aS (dC ?_);apply aS (o5 h (λit t z=>?_) λ_ _ e=>e)
 let(I,fp,wr,n,P,St,bt,rfl,W,st,hf,hn,hc,old,hw,fin):=z;apply aS (tS ?_);have hS:t⁻¹∉fp:=λz=>u8 _ (hf _ z)
 rw[e2];show dC #[C4 D2 _,vO W hc hS (λb o e=>#[hw b o e,mP (fA (old b o e))]) hn (W.frame _ _ _ st λb _ o e=>dE _ e) (λb o e=>dE _ (old b o e)) (eM _ rfl) fin]
end
open L2 PySem.W
section
variable{α:Type} [DecidableEq α] (O:o9 α)
abbrev j9:List α->List α->Bool
 | [],[]=>false
 | [],_::_=>true
 |_::_,[]=>false
 |a::l,b::m=>if a=b then j9 l m else O.lt a b
def pJ:∀a:List α,j9 O a a=false
 | []=>rfl
 |a::l=>by
  delta j9;rw[fR rfl,pJ l]
def Au:∀a b c:List α,j9 O a b=true->j9 O b c=true->j9 O a c=true
 | [],[],_,h,_=>by symm
 | [],_::_,[],_,h=>by symm
 | [],_::_,_::_,_,_=>rfl
 |_::_,[],_,h,_=>by symm
 |_::_,_::_,[],_,h=>by symm
 |x::a,y::b,z::c,h,k=>by
  delta j9 at h k ⊢
  by_cases e:x=y
  .
   subst e;rw[fR rfl]at h;by_cases e2:x=z
   .
    rw[fR e2]at k ⊢
    show Au a b c h k
   .
    rw[eR e2]at k ⊢
    show k
  .
   rw[eR e]at h;by_cases e2:y=z
   . subst e2;rw[eR e];show h
   .
    rw[eR e2]at k;have hx:=O.tr x y z h k;rw[eR (λe3=>by rw[e3,O.Yw]at hx;cases hx)]
    show hx
def vQ:∀a b:List α,j9 O a b=false->j9 O b a=false->a=b
 | [],[],_,_=>rfl
 | [],_::_,h,_=>by symm
 |_::_,[],_,h=>by symm
 |x::a,y::b,h,k=>by
  delta j9 at h k;by_cases e:x=y
  . subst e;rw[fR rfl]at h k;rw[vQ a b h k]
  . rw[eR e]at h;rw[eR (AJ e)]at k;show absurd (O.tot x y h k) e
abbrev linG:o9 (List α):=#[j9 O,pJ O,Au O,vQ O]
end
abbrev jy:o9 (~~~5):=linG gU
def Dv.keep(k:Fy h h')(q:Dv h d u):Dv h' d u:=by
 apply Dv.rec (motive_1:=λd u _=>Dv h' d u) (motive_2:=λl us _=>jc h' l us) ?_ ?_ ?_ ?_ ?_ ?_ ?_ q
 . show λb=>.bl b
 . show λi t=>.int i t
 . show λx t=>.str x t
 . show λx _ ih=>.tup (x.keeps k) ih
 . show λx _ ih=>.lst (let #[o,e,r]:=x;#[o,k _ _ e,r]) ih
 . show .nil
 . show λ_ _ a b=>.cons a b
def tN:∀a b:List Int,cC (a.map .int) (b.map .int)=decide (a=b)
 | [],[]=>rfl
 | [],_::_=>rfl
 |_::_,[]=>rfl
 |x::a,y::b=>by
  simp only[List.map_cons,cC,cL,tN a b,C5,EC];rfl
def vR:∀a b:List (~~~0),cC (a.map λx=>.tup (x.map .int)) (b.map λx=>.tup (x.map .int))=decide (a=b)
 | [],[]=>rfl
 | [],_::_=>rfl
 |_::_,[]=>rfl
 |x::a,y::b=>by
  simp only[List.map_cons,cC,cL,vR a b,tN,C5,EC]
def vU(l: ~~~0):deps (l.map .int)=0:=by
 induction l with
 |nil=>rfl
 |cons a l ih=>simp[deps,dep,ih]
def Ij(l: ~~~5):deps (l.map λx=>.tup (x.map .int))<=1:=by
 induction l with
 |nil=>show oP _
 |cons a l ih=>simp only[List.map_cons,deps,dep,vU];lia
def vV(l: ~~~0):cI (l.map .int)=true:=by
 induction l with
 |nil=>rfl
 |cons a l ih=>simp[cI,fF,ih]
def Ik(l: ~~~5):cI (l.map λx=>.tup (x.map .int))=true:=by
 induction l with
 |nil=>rfl
 |cons a l ih=>simp only[List.map_cons,cI,fF,vV,ih];rfl
abbrev N9: ~~~5->D
 | [m]::ts=>.tup [.int m,.tup (ts.map λx=>.tup (x.map .int))]
 |_=>.non
abbrev Oa:D->Option (~~~5)
 |.tup [.int m,.tup l]=>(match gA l with |some ts=>!([m]::ts) |none=>none)
 |_=>none
abbrev pK:List D->Option (List (~~~5))
 | []=>![]
 |d::l=>(match Oa d with |some k=>(match pK l with |some ks=>!(k::ks) |none=>none) |none=>none)
def tO:∀{l:List D}{sL: ~~~5},gA l=!sL->l=sL.map λns=>.tup (ns.map .int)
 | [],_,e=>by cases e;rfl
 |d::l,sL,e=>by
  cases d with
  |tup m=>
   delta gA at e;split at e
   . ext n ns sL e1 e2;cases e;rw[List.map_cons,<- tO e2,NZ e1]
   . cases e
  |_=>cases e
def Ob(e:Oa d=!k):∃m ts,k=[m]::ts/\d=N9 k:=by
 delta Oa at e;split at e
 .
  ext m l;split at e
  . ext ts e1;cases e;apply#[m,ts,rfl,?_];rw[tO e1];rfl
  . cases e
 . cases e
def vW:∀{l:List D}{ks:List (~~~5)},pK l=!ks->l=ks.map N9/\∀k∈ks,∃m ts,k=[m]::ts
 | [],_,e=>by cases e;show#[rfl,λ_ z=>nomatch z]
 |d::l,ks,e=>by
  delta pK at e;split at e
  .
   ext k e1;split at e
   . ext ks e2;cases e;let(h1,h2):=vW e2;let(m,ts,h3,h4):=Ob e1;show#[by rw[List.map_cons,<- h1,<- h4],λk hk=>(eC.mp hk).elim (λz=>#[m,ts,by rw[z];show h3]) (h2 k)]
   . cases e
  . cases e
def jc.ints:∀{ns: ~~~0}{us:List Value},jc h (ns.map .int) us->IntsAre us ns
 | [],us,q=>by cases q;show .nil
 |n::ns,us,q=>by
  cases q with
  |cons a b=>cases a;show .cons _ _ b.ints
section
variable{A:Around}{s:Shared}
def Av:∀{ts ss: ~~~5}{us ws:List Value},jc s.heap (ts.map λx=>.tup (x.map .int)) us->jc s.heap (ss.map λx=>.tup (x.map .int)) ws->A.units+1<cLine->SX A s us ws (j9 gU ts ss)
 | [],[],_,_,q,q',_=>by cases q;cases q';show .nn
 | [],_::_,_,_,q,q',_=>by cases q;cases q';show .nc
 |_::_,[],_,_,q,q',_=>by cases q;cases q';show .cn
 |t::ts,x::ss,_,_,q,q',hu=>by
  cases q with
  |cons a b=>
   cases q' with
   |cons a' b'=>
    have he:=(oK (A:=A) 1 (by simp only[dep,vU];lia) a a' hu).1
    have e1:cL (.tup (t.map .int)) (.tup (x.map .int))=decide (t=x):=tN t x;rw[e1]at he;delta j9;by_cases e:t=x
    . rw[oC e]at he;rw[fR e];show .eq he (Av b b' hu)
    .
     rw[wE e]at he;rw[eR e];cases a with
     |tup i1 v1=>
      cases a' with
      |tup i2 v2=>show .ne he λprog w E Q h=>HT.nZ i1 i2 v1.ints v2.ints ⋯ h
def Oc(x:Dv s.heap (.tup (ts.map λx=>.tup (x.map .int))) p)(y:Dv s.heap (.tup (ss.map λx=>.tup (x.map .int))) q)(hu:A.units+2<cLine):SX A s [.int m t1,p] [.int n t2,q] (jy.lt ([m]::ts) ([n]::ss)):=by
 let(e,he,hi):=HT.jN A s m t1 n t2;exact SX A s _ _ (if [m]=[n]then j9 gU ts ss else HT.lexLt [m] [n])
 cases e with
 |true=>
  have hmn:m=n:=hi.mp rfl;rw[fR (by rw[hmn])]
  apply .eq he ?_;have h2:=(oK (A:=A) 2 (by have:=Ij ts;simp only[dep];lia) x y hu).1
  have e1:cL (.tup (ts.map λx=>.tup (x.map .int))) (.tup (ss.map λx=>.tup (x.map .int)))=decide (ts=ss):=vR ts ss
  rw[e1]at h2;by_cases e3:ts=ss
  . rw[oC e3]at h2;rw[e3,pJ];show .eq h2 .nn
  .
   rw[wE e3]at h2;cases x with
   |tup i1 v1=>
    cases y with
    |tup i2 v2=>show .ne h2 (nD i1 i2 (Av (A:=A.in1) v1 v2 (by rw[in1_units];lia)) ⋯)
 |false=>
  have hmn:m≠n:=λz=>t6 (hi.mpr z)
  rw[eR (by simpa using hmn)]
  apply .ne he λprog w E Q h=>HT.nY A s m t1 n t2 prog w E Q ?_
  rw[HT.bV,eR hmn]at h;show h
def V6(h1:∃m ts,k1=[m]::ts)(h2:∃m ts,k2=[m]::ts)(x:Dv s.heap (N9 k1) u1)(y:Dv s.heap (N9 k2) u2)(hu:A.units+3<cLine):FN A s u1 u2 (jy.lt k1 k2):=by
 let(m,ts,rfl):=h1;let(n,ss,rfl):=h2;cases x with
 |tup i1 v1=>
  cases y with
  |tup i2 v2=>
   cases v1 with
   |cons a b=>
    cases b with
    |cons b c=>
     cases c;cases a;cases v2 with
     |cons a' b'=>
      cases b' with
      |cons b' c'=>cases c';cases a';show nD i1 i2 (Oc (A:=A.in1) b b' (by rw[in1_units];lia)) ⋯
end
open L2 PySem.W
abbrev iB{α:Type}(O:o9 α)(n:α):List α->α
 | []=>n
 |m::l=>iB O (if O.lt m n then m else n) l
section
variable{α:Type}(O:o9 α)(d0:α)
def rO:∀(l:List α) (n m:α),iB O n (l++[m])=if O.lt m (iB O n l)then m else iB O n l
 | [],_,_=>rfl
 |_::l,_,m=>rO l _ m
meta abbrev ltAt(L:List α)(i j:Nat):Bool:=O.lt (L.getD i d0) (L.getD j d0)
def rP(n:α)(l:List α):∀k,k<=l.length->argBest (ltAt O d0 (n::l)) k<=k/\(n::l).getD (argBest (ltAt O d0 (n::l)) k) d0=iB O n (l.take k)
 | 0,_=>#[d5 _,rfl]
 |k+1,hk=>by
  let(h0,h1):=rP n l k (vS hk);have hlt:k<l.length:=hk;have e:(n::l).getD (k+1) d0=l[k]:=by simp[hlt]
  have e2:l.take (k+1)=l.take k++[l[k]]:=y3 hlt;rw[e2,rO,<- h1,<- e];exact (if ltAt O d0 (n::l) (k+1) (argBest (ltAt O d0 (n::l)) k)then k+1 else argBest (ltAt O d0 (n::l)) k)<=k+1/\(n::l).getD (if ltAt O d0 (n::l) (k+1) (argBest (ltAt O d0 (n::l)) k)then k+1 else argBest (ltAt O d0 (n::l)) k) d0=_
  delta ltAt;split
  . show#[d5 _,rfl]
  . show#[Nat.le_succ_of_le h0,rfl]
end
def tQ{κ:Type}{un:κ->D}:∀{l:List κ},(∀k∈l,fF (un k)=true)->cI (l.map un)=true
 | [],_=>rfl
 |k::l,h=>by
  exact (fF (un k)&&cI (l.map un))=true;rw[h k dA,tQ λx hx=>h x (b0 _ hx)]
  rfl
section
variable{X:Cx}{z:Z}{κ:Type}{O:o9 κ}{d0:κ}{un:κ->D}{good:κ->Prop}
def V7{kw:List (Str×Value)}(hkw:kw=[]\/∃d,kw=[(Str.ofString "default",d)])(hc:X.calm=true)(iY:∀k,good k->fF (un k)=true)(hlt:∀(s:Shared) k1 k2 u1 u2,good k1->good k2->Dv s.heap (un k1) u1->Dv s.heap (un k2) u2->FN X.A.in1 s u1 u2 (O.lt k1 k2))
  {aj: ~~~1}{J:Sg}{H:Hp}{s:Shared}{Q:VK} (I:L2.Inv X aj J H s) {p:Addr}{ys:List V}{M:List Addr}{n:κ}{l:List κ} (hp:dQ X.K H p ys\/iE X.K H p ys) (ht:aK X.K M H ((n::l).map un) ys) (hg:∀k∈n::l,good k)
  (q:∀i,i<ys.length->(n::l).getD i d0=iB O n l->Q (ys.getD i .non) H):wpAny (~~~2) X.A (call (.builtin "min") [.ref p] kw) (EP X aj J Q) X.xe s:=by
 have hh:X.A.in1.handled=none:=I.ok.hd hc;have hys:ys.length=l.length+1:=by rw[<- ht.length,eA,mB]
 have cmp:∀its:List Value,Vals ys its->Ar X.prog X.w X.A.in1 s.heap (λi v=>its.toArray[i]?=!v) (ltAt O d0 (n::l)):=λits rv=>by
  intro i j u v s' Q E old hi hj hQ;have t:=aK.dv I ht rv (tQ λk hk=>iY k (hg k hk))
  have hi:its[i]?=!u:=by simpa using hi
  have hj:its[j]?=!v:=by simpa using hj
  let(d1,e1,v1):=t.get hi;let(d2,e2,v2):=t.get hj;rw[mM]at e1 e2;let(k1,f1,rfl):=v6.mp e1;let(k2,f2,rfl):=v6.mp e2;have g1:(n::l).getD i d0=k1:=by rw[bP,f1];rfl
  have g2:(n::l).getD j d0=k2:=by rw[bP,f2];rfl
  have hQ:Q (.bool (O.lt k1 k2)) s':=by rw[<- g1,<- g2];show hQ
  show hlt s' k1 k2 u v (hg k1 (lL f1)) (hg k2 (lL f2)) (v1.keep old) (v2.keep old) X.prog X.w E Q hQ
 have fin:∀(its:List Value) (v:Value) (h':Heap) (tk:Nat),Vals ys its->its.toArray[argBest (ltAt O d0 (n::l)) (its.toArray.size - 1)]?=!v->Fy s.heap h'->EP X aj J Q v { s with heap:=h',toks:=tk}:=λits v h' tk rv hv hk=>by
  have hl:its.length=l.length+1:=by rw[<- rv.length,hys]
  let(b1,b2):=rP O d0 n l l.length (d5 _);rw[List.take_length]at b2;rw[d6,hl,Nat.add_sub_cancel]at hv;have hv:its[argBest (ltAt O d0 (n::l)) l.length]?=!v:=by simpa using hv
  have hy:argBest (ltAt O d0 (n::l)) l.length<ys.length:=by lia
  have rel:=rM rv hy;rw[bP (l:=its),hv]at rel;show#[_,H,I.kept hk,rel,q _ hy b2]
 have pos:∀its:List Value,Vals ys its->0<its.toArray.size:=λits rv=>by rw[d6,<- rv.length,hys];show BF _
 have ow:∀(b:Addr) (o:Obj),s.heap.get? b=!o->b∉[s⁻¹]:=λb o e hm=>by
  have:b=s⁻¹:=by simpa using hm
  show absurd (fA e) (by rw[this];show u8 _)
 have fpl:∀{hlt:p<s⁻¹}{o:Obj},∀b∈[s⁻¹,p],b<(s.heap.push o).objs.size:=λ{hlt o} b hb=>by
  rw[CF];simp only[eC,x3,ED]at hb;rcases hb with rfl |rfl
  . show xL _
  . show Nat.lt_succ_of_lt hlt
 rcases hp with hp |hp
 .
  let(its,rv,pl,hz):=I.list hp;have hlt:p<s⁻¹:=by let(_,e,_):=pl.isList;show fA e
  apply pH hkw (C9 pl.isList ?_);show#[s⁻¹,_,_,_,_,_,_,rfl,Walks.list (A:=X.A.in1) hh s⁻¹ p (mP hlt) its.toArray,#[#[_,eM _ rfl,rfl,rfl],pl.isList.push _],fpl (hlt:=hlt),pos its rv,cmp its rv,λb o e=>dE _ e,ow,λv h' tk hP hk=>fin its v h' tk rv hP hk]
 .
  let(its,rv,pl,hz):=I.tuple hp;have hlt:p<s⁻¹:=by let(_,e,_):=pl;show fA e
  have V8:s.heap.IsTuple p its.toArray:=pl;apply pH hkw (CS V8 ?_);show#[s⁻¹,_,_,_,_,_,_,rfl,Walks.tuple (A:=X.A.in1) hh s⁻¹ p (mP hlt) its.toArray,#[#[_,eM _ rfl,rfl,rfl],IsTup.keeps V8 λb o e=>dE _ e],fpl (hlt:=hlt),pos its rv,cmp its rv,λb o e=>dE _ e,ow,λv h' tk hP hk=>fin its v h' tk rv hP hk]
def Dy(hc:X.calm=true)(iY:∀k,good k->fF (un k)=true)(hlt:∀(s:Shared) k1 k2 u1 u2,good k1->good k2->Dv s.heap (un k1) u1->Dv s.heap (un k2) u2->FN X.A.in1 s u1 u2 (O.lt k1 k2)) :
  fM X (.builtin "min") (λxs H Q=>∃(p:Addr) (ys:List V) (M:List Addr) (n:κ) (l:List κ),xs=[.ref p]/\(dQ X.K H p ys\/iE X.K H p ys)/\aK X.K M H ((n::l).map un) ys/\(∀k∈n::l,good k)/\
   ∀i,i<ys.length->(n::l).getD i d0=iB O n l->Q (ys.getD i .non) H):=by
 intro aj s J H xs us Q I r h;let(p,ys,M,n,l,rfl,hp,ht,hg,q):=h;let(u,rfl,rx):=vals1 r;cases rx;show V7 (.inl rfl) hc iY hlt I hp ht hg q
def Od(hc:X.calm=true)(iY:∀k,good k->fF (un k)=true)(hlt:∀(s:Shared) k1 k2 u1 u2,good k1->good k2->Dv s.heap (un k1) u1->Dv s.heap (un k2) u2->FN X.A.in1 s u1 u2 (O.lt k1 k2))(hK:z.K=X.K)(h:cJ d=!((n::ns).map un))(hg:∀k∈n::ns,good k) :
  CallD X z (.builtin "min") [d] (.dat (un (iB O n ns))):=by
 apply#[_,Dy (d0:=n) hc iY hlt,λg J As M H vs Q s p k=>?_]
 let(v,rfl,pv):=p.one;have main:∀(a:Addr) (xs:List V),aK z.K M H ((n::ns).map un) xs->(dQ X.K H a xs\/iE X.K H a xs)->∃(p:Addr) (ys:List V) (M:List Addr) (m:κ) (l:List κ),[V.ref a]=[.ref p]/\(dQ X.K H p ys\/iE X.K H p ys)/\aK X.K M H ((m::l).map un) ys/\(∀k∈m::l,good k)/\∀i,i<ys.length->(m::l).getD i n=iB O m l->Q (ys.getD i .non) H:=λa xs rr hq=>by
  apply#[a,xs,M,n,ns,rfl,hq,hK▸rr,hg,λi hl e=>?_]
  have hd:i<(n::ns).length:=by have:=rr.length;rw[eA]at this;lia
  let(v,e1,e2):=rr.get (i:=i) (d:=un (iB O n ns)) (by
   rw[mM,eJ hd,<- e,bP,eJ hd];rfl)
  have q2:xs.getD i .non=v:=by rw[bP,e1];rfl
  rw[q2];show k _ _ As M s (aq.refl _ _) e2
 cases d with
 |lst m=>symm;let(a,xs,rfl,e1,e2):=pv.list;show main a xs e2 (.inl (dQ.of e1))
 |tup m=>symm;let(a,xs,rfl,e1,e2):=pv.tup;show main a xs e2 (.inr (hK▸e1.sq))
 |fix m=>symm;let(a,xs,rfl,e1,e2):=pv.fix;show main a xs e2 (.inl (hK▸e1.sq))
 |_=>symm
abbrev Oe(h:Heap)(u:Value):Prop:=∃(a:Addr) (o:Obj) (i:Int) (t:Tok) (r:List Value) (n:Nat),u=.ref a/\h.get? a=!o/\o.cls=.type "tuple" /\o.data=.seq (Value.int i t::r).toArray n
def lz:∀{vs:List Value},(∀v∈vs,Oe h v)->∃fs:List Value,KatTups h vs fs/\fs.length=vs.length/\∀v∈fs,∃i t,v=.int i t
 | [],_=>#[[],.nil,rfl,λ_ z=>nomatch z]
 |v::vs,hv=>by
  let(fs,q1,q2,q3):=lz λx hx=>hv x (b0 _ hx)
  let(a,o,i,t,r,n,rfl,e1,e2,e3):=hv v dA;show#[_::fs,KatTups.cons e1 e2 e3 rfl q1,by rw[mB,mB,q2],λv hv=>(eC.mp hv).elim (λz=>#[_,_,z]) (q3 v)]
def tR(iY:∀k,good k->fF (un k)=true)(hf:∀(h:Heap) k u,good k->Dv h (un k) u->Oe h u)
  (hlt:∀(s:Shared) k1 k2 u1 u2 (C:Bool->Shared->Prop),good k1->good k2->Dv s.heap (un k1) u1->Dv s.heap (un k2) u2->C (O.lt k1 k2) s->wpAny (~~~2) X.A.in1.in1 (keyLt' (tuples' true) u1 u2) C (λ_ _=>False) s) :
  fM X (.builtin "sorted") (λxs H Q=>∃(p:Addr) (ys:List V) (M:List Addr) (l:List κ),xs=[.ref p]/\dQ X.K H p ys/\aK X.K M H (l.map un) ys/\(∀k∈l,good k)/\l.length<64/\
  ∀q (o:List Nat),H q=none->(∀i∈o,i<ys.length)->o.map (λi=>l.getD i d0)=bf O l->Q (.ref q) (upd H q (.lst (o.map λi=>ys.getD i .non)))):=by
 intro aj s J H xs us Q I r h;let(p,ys,M,l,rfl,hq,ht,hg,hl,q):=h;let(u,rfl,rx):=vals1 r;cases rx;have hyl:ys.length=l.length:=by rw[<- ht.length,eA]
 let(its,r',pl,hz):=I.list hq;have aN:=r'.length;have dv:=aK.dv I ht r' (tQ λk hk=>iY k (hg k hk))
 have at_:∀{h:Heap}{i:Nat},Fy s.heap h->i<its.length->good (l.getD i d0)/\Dv h (un (l.getD i d0)) (its.getD i Value.none):=λ{h i} hk hi=>by
  let(d1,e1,v1):=dv.get (eJ hi);rw[mM]at e1;let(k1,f1,rfl):=v6.mp e1;have g1:l.getD i d0=k1:=by rw[bP,f1];rfl
  have g2:its.getD i Value.none=its[i]:=by rw[bP,eJ hi];rfl
  rw[g1,g2];show#[hg k1 (lL f1),v1.keep hk]
 have hz:its.length<=sizeLine:=by rw[t8];lia
 have done:∀o:List Nat,o.Perm (List.range its.length)->o.map (λi=>l.getD i d0)=bf O l->EP X aj J Q (.ref (s⁻¹+1)) { s with heap:=sortedAll s.heap its (o.map λi=>its.getD i Value.none).toArray}:=λo ho hs=>by
  let(ep,he):=sortedAll_at s.heap its (o.map λi=>its.getD i Value.none).toArray
  have hin:∀i∈o,i<ys.length:=λi hi=>by rw[aN];show o6.mp (ho.mem_iff.mp hi)
  have hol:o.length=ys.length:=by rw[ho.length_eq,DB,aN]
  apply#[.ref (s⁻¹+1),_,I.laid (t':=s.toks) (o:=.lst (o.map λi=>ys.getD i .non)) (λb ob e=>sortedAll_old e) (BI _) ?_,rfl,q _ o (I.hok.fresh (BI _)) hin hs]
  show#[by rw[eA,t8];lia,_,ep,rN r' hin,he]
 apply Dk pl.isList hz ?_;have hil:its.length=l.length:=by lia
 by_cases h2:its.length<2
 .
  apply vG (tM _ _) h2 #[rfl,?_];have:=done (List.range its.length) (mE _) (by
   rw[hil,bJ]
   match l,hil with
   | [],_=>rfl
   | [x],_=>rfl
   |_::_::_,hl2=>rw[hl2,mB,mB]at h2;lia)
  rw[bJ]at this;show this
 .
  have keep:Fy s.heap (dF { s with heap:=HB s.heap its} (s⁻¹+1) its).heap:=λb o e=>mz (vH (vs:=its) e).2 (vH e).1
  apply vF (κ:=tuples' true) (O:=O) (key:=λi=>l.getD i d0) (tM _ _) ⋯ ⋯ (λQ' hq=>?_) (λi j C hi hj hC=>?_) λp hp hr=>#[rfl,?_]
  .
   let(fs,q1,q2,q3):=lz (h:=(dF { s with heap:=HB s.heap its} (s⁻¹+1) its).heap) (vs:=its) λv hv=>by
    let(i,hi,rfl):=mI hv;let(g1,g2):=at_ keep hi;have g3:its.getD i Value.none=its[i]:=by rw[bP,eJ hi];rfl
    rw[g3]at g2;show hf _ _ _ g1 g2
   show kat_kind (T:=.type "int") q1 ⋯ (λv hv=>by let(i,t,rfl):=q3 v hv;show rL) ⋯ hq
  . let(g1,v1):=at_ keep hi;let(g2,v2):=at_ keep hj;show hlt _ _ _ _ _ C g1 g2 v1 v2 hC
  . rw[hil]at hp hr;show done p.toList (by rw[hil];show (AT.mp hp).trans ⋯) (mD hp hr)
def yM{l:List κ}(iY:∀k,good k->fF (un k)=true)(hf:∀(h:Heap) k u,good k->Dv h (un k) u->Oe h u)
  (hlt:∀(s:Shared) k1 k2 u1 u2 (C:Bool->Shared->Prop),good k1->good k2->Dv s.heap (un k1) u1->Dv s.heap (un k2) u2->C (O.lt k1 k2) s->wpAny (~~~2) X.A.in1.in1 (keyLt' (tuples' true) u1 u2) C (λ_ _=>False) s)
  (d0:κ) (hK:z.K=X.K) (hg:∀k∈l,good k) (hl:l.length<64):CallD X z (.builtin "sorted") [.lst (l.map un)] (.new ((bf O l).map un)):=by
 apply#[_,tR (d0:=d0) iY hf hlt,λg J As M H vs Q s p k=>?_]
 let(v,rfl,pv):=p.one;let(a,xs,rfl,e1,rr):=pv.list;have aN:xs.length=l.length:=by rw[<- rr.length,eA]
 apply#[a,xs,M,l,rfl,dQ.of e1,hK▸rr,hg,hl,λq o hf hin hs=>?_]
 have e:(bf O l).map un=o.map λi=>(l.map un).getD i .non:=by
  rw[<- hs,List.map_map];apply mN λi hi=>?_
  have:i<l.length:=by rw[<- aN];show hin i hi
  simp[this]
 have rr':=(rr.pick hin).stay (aq.bw (o:=.lst (o.map λi=>xs.getD i .non)) hf)
 apply k _ _ As (q::M) (s.bw hf) (aq.bw hf) #[q,_,rfl,dA,λhA=>s.fresh hf (s.sub q hA),s.cS hf,aF,?_]
 rw[e];show rr'
end
abbrev isK(k: ~~~5):Prop:=∃m ts,k=[m]::ts
def Og(k: ~~~5)(h:isK k):fF (N9 k)=true:=by
 let(m,ts,rfl):=h;exact cI [.int m,.tup (ts.map λx=>.tup (x.map .int))]=true
 simp only[cI,fF,Ik];rfl
section
variable{X:Cx}{z:Z}
def Oh(hc:X.calm=true)(hu:X.A.units+6<cLine)(hK:z.K=X.K)(h:cJ d=!l)(hi:pK l=!(k::ks)):CallD X z (.builtin "min") [d] (.dat (N9 (iB jy k ks))):=by let(h1,h2):=vW hi;rw[h1]at h;show Od (good:=isK) hc Og (λs k1 k2 u1 u2 g1 g2 x y=>V6 g1 g2 x y (by rw[in1_units];lia)) hK h h2
end
abbrev unT(x: ~~~0):D:=.tup (x.map .int)
def Oi(x: ~~~0)(_:x≠[]):fF (unT x)=true:=vV x
section
variable{X:Cx}{z:Z}
def Aw:∀{l:List D}{sL: ~~~5},gA l=!sL->∀x∈sL,x≠[]
 | [],_,e=>by cases e;show λ_ z=>nomatch z
 |d::l,sL,e=>by
  cases d with
  |tup m=>
   delta gA at e;split at e
   . ext n ns sL e1 e2;cases e;show λx hx=>(eC.mp hx).elim (λz=>by rw[z];show List.cons_ne_nil _ _) (Aw e2 x)
   . cases e
  |_=>cases e
def yN{l:List D}{sL: ~~~5}(hK:z.K=X.K)(hi:gA l=!sL)(hl:sL.length<64):CallD X z (.builtin "sorted") [.lst l] (.new ((bf gU sL).map λns=>.tup (ns.map .int))):=by
 have fE:=Aw hi;rw[tO hi];apply yM (O:=gU) (un:=unT) (good:=λx=>x≠[]) Oi (λhp k u hk q=>?_) (λs k1 k2 u1 u2 C _ _ x y hC=>?_) [] hK fE hl
 .
  cases q with
  |tup i v=>
   cases k with
   |nil=>show absurd rfl hk
   |cons a k=>
    cases v with
    |cons b c=>cases b;let(o,e1,e2,n,e3):=i;show#[_,o,_,_,_,n,rfl,e1,e2,e3]
 .
  cases x with
  |tup i1 v1=>
   cases y with
   |tup i2 v2=>let(o,e1,e2,n1,e3):=i1;let(o2,e4,e5,n2,e6):=i2;apply kat_lt e1 e3 e4 e6 (HD v1.ints 0 v2.ints ?_ hC);rw[<- v1.ints.length,<- v2.ints.length];simp
end
end Ev
namespace Nk
open PySem
inductive Kt where
 |nil |ci (i:Int) (r:Kt) |ct (a r:Kt)
deriving DecidableEq
section
variable(h:Heap)
abbrev RT(T:List Value->Prop)(ad:Addr):Prop:=∃o its n,h.get? ad=!o/\o.cls=.type "tuple" /\o.data=.seq its n/\T its.toList
abbrev IsT:Kt->List Value->Prop
 |.nil,vs=>vs=[]
 |.ci i r,vs=>∃t us,vs=.int i t::us/\IsT r us
 |.ct a r,vs=>∃ad us,vs=.ref ad::us/\RT h (IsT a) ad/\IsT r us
meta abbrev mJ (k:Kt) (ad:Addr):Prop:=RT h (IsT h k) ad
end
abbrev vX:Kt->List Int
 |.nil=>[]
 |.ci i r=>hashInt i::vX r
 |.ct a r=>reduceHash (Builtin.Tuple.tupleHashOf (vX a))::vX r
meta abbrev YH(k:Kt):Int:=reduceHash (Builtin.Tuple.tupleHashOf (vX k))
abbrev dep:Kt->Nat
 |.nil=>0
 |.ci _ r=>dep r
 |.ct a r=>max (dep a+1) (dep r)
abbrev tT:Kt->Nat
 |.nil=>0
 |.ci _ r=>1+tT r
 |.ct a r=>(tT a+1)+tT r
section
variable{h h':Heap}
def RT.typeIs{s:Shared}{T:List Value->Prop}{ad:Addr}(x:RT s.heap T ad):s.TypeIs (.ref ad) "tuple" :=let #[o,_,_,ho,hc,_]:=x;#[o,ho,hc]
def vY(kp:∀b o,(∃its n,o.data=.seq its n)->h.get? b=!o->h'.get? b=!o){T T':List Value->Prop}(f:∀{vs},T vs->T' vs){ad:Addr}(x:RT h T ad):RT h' T' ad:=
 let #[o,its,n,e,c,d,q]:=x;#[o,its,n,kp _ _ #[_,_,d] e,c,d,f q]
def Il(kp:∀b o,(∃its n,o.data=.seq its n)->h.get? b=!o->h'.get? b=!o):∀{vs},IsT h k vs->IsT h' k vs:=by
 induction k with
 |nil=>intro vs x;show x
 |ci i r ir=>rintro vs ⟨t,us,e,x⟩;show#[t,us,e,ir x]
 |ct a r ia ir=>rintro vs ⟨ad,us,e,q,x⟩;show#[ad,us,e,vY kp ia q,ir x]
def Im(kp:∀b o,(∃its n,o.data=.seq its n)->h.get? b=!o->h'.get? b=!o){k:Kt}{ad:Addr}(x:mJ h k ad):mJ h' k ad:=vY kp (Il kp) x
def Ax{T U:List Value->Prop}{x y:Kt}(f:∀{vs},T vs->U vs->x=y){ad:Addr}(p:RT h T ad)(q:RT h U ad):x=y:=by let(o,its,n,e1,_,d1,z1):=p;let(o',its',n',e2,_,d2,z2):=q;obtain rfl:o=o':=oQ (e1.symm.trans e2);rw[d1]at d2;injection d2 with d2;subst d2;show f z1 z2
def Oj:∀{y:Kt}{vs:List Value},IsT h x vs->IsT h y vs->x=y:=by
 induction x with
 |nil=>
  intro y vs p q;cases (show vs=[]from p)
  cases y with
  |nil=>rfl
  |ci _ _=>let(_,_,e,_):=q;cases e
  |ct _ _=>let(_,_,e,_):=q;cases e
 |ci i r ir=>
  rintro y vs ⟨t,us,rfl,p⟩ q;cases y with
  |nil=>cases (show _=[]from q)
  |ci _ _=>let(_,_,e,q):=q;cases e;rw[ir p q]
  |ct _ _=>let(_,_,e,_):=q;cases e
 |ct a r ia ir=>
  rintro y vs ⟨ad,us,rfl,p,p'⟩ q;cases y with
  |nil=>cases (show _=[]from q)
  |ci _ _=>let(_,_,e,q):=q;cases e
  |ct _ _=>let(_,_,e,q,q'):=q;cases e;rw[ir p' q',Ax ia p q]
def Ol{x y:Kt}{ad:Addr}(p:mJ h x ad)(q:mJ h y ad):x=y:=Ax Oj p q
end
abbrev El(P:Kt->Prop):Kt->Prop
 |.nil=>True
 |.ci _ r=>El P r
 |.ct a r=>P a/\El P r
def tU(f:∀k,El P k->P k):∀k,P k/\El P k:=by
 intro k
 induction k with
 |nil=>show#[f _ trivial,trivial]
 |ci i r ir=>show#[f _ ir.2,ir.2]
 |ct a b ia ib=>show#[f _ #[ia.1,ib.2],ia.1,ib.2]
section
variable{prog:Program}{w:World}
abbrev tV(prog:Program)(w:World)(k:Kt):Prop:=∀⦃A:Around⦄ ⦃E:Value->Shared->Prop⦄ ⦃s:Shared⦄ ⦃a:Addr⦄ ⦃Q:Int->Shared->Prop⦄,A.units+dep k<cLine->mJ s.heap k a->Q (YH k) { s with toks:=s.toks+(tT k+1)}->
  wpAny (model prog w) A (pyHash (.ref a)) Q E s
def Om(k:Kt):tV prog w k:=by
 apply (tU (λk ek=>?_) k).1
 intro A E s a Q hu hr h;have hT:=hr.typeIs;let(o,items,n,ho,_,hd,hi):=hr
 first |delta pyHashByItsType |skip
 first |apply aS (wpAny_cRoomFor_or (.inr ⋯) ?_) |skip
 apply aS (Cc hT F.slot_tuple_hash.lookup ?_);apply aS (Cc hT F.slot_tuple_hash.lookup ?_);apply aS (wpAny_callSpecialIfBoundUnlessNone?_slot hT F.slot_tuple_hash (u7 F.slot_tuple_hash hT F.entry_tuple_hash ?_ (F.args_tuple_hash_1 _)));exact wpAny _ _ (Builtin.Tuple.tupleItemsOf (.ref a) >>= _) _ _ s;apply aS (wpAny_tupleItemsOf ho hd ?_);apply aS ?_;rw[<- C6];apply AW _
  (λaD (b:Array Int) s'=>∃l,El (tV prog w) l/\dep l<=dep k/\IsT s.heap l aD/\b.toList++vX l=vX k/\∃t,t+tT l=tT k/\s'={ s with toks:=s.toks+t})
  _ ?_ ?_ _ _ #[k,ek,d5 _,hi,rfl,0,v4 _,rfl]
 .
  rintro x aD b s' ⟨l,el,hl2,hl,hb,t,ht,rfl⟩;cases l with
  |nil=>cases (show x::aD=[]from hl)
  |ci i r=>
   let(tk,_,e,hr1):=hl;cases e;have dt:t+(1+tT r)=tT k:=ht;apply aS ((intKind prog w).pyHash (by exact Value.isInt i (.int i tk)=true;simp[Value.isInt]) ?_)
   have next:∃l,El (tV prog w) l/\dep l<=dep k/\IsT s.heap l aD/\(b.push (hashInt i)).toList++vX l=vX k/\∃t',t'+tT l=tT k/\({ s with toks:=s.toks+t+1}:Shared)={ s with toks:=s.toks+t'}:=
    #[r,el,hl2,hr1,by rw[<- hb];simp[vX],t+1,by lia,by rw[C2]]
   first
    |show dC next
    |show aS (dC (dC next))
  |ct u r=>
   let(ad,_,e,hu1,hr1):=hl;cases e;have du:dep u+1<=dep k/\dep r<=dep k:=by have:max (dep u+1) (dep r)<=dep k:=hl2;lia
   have dt:t+((tT u+1)+tT r)=tT k:=ht;apply aS (el.1 (by exact A.units+1+dep u<cLine;lia) hu1 ?_)
   have next:∃l,El (tV prog w) l/\dep l<=dep k/\IsT s.heap l aD/\(b.push (YH u)).toList++vX l=vX k/\∃t',t'+tT l=tT k/\({ s with toks:=s.toks+t+(tT u+1)}:Shared)={ s with toks:=s.toks+t'}:=
    #[r,el.2,du.2,hr1,by rw[<- hb];simp[vX],t+(tT u+1),by lia,by rw[C2]]
   first
    |show dC next
    |show aS (dC (dC next))
 .
  rintro b s' ⟨l,_,_,hl,hb,t,ht,rfl⟩;have e0:vX l=[]/\tT l=0:=by
   cases l with
   |nil=>show#[rfl,rfl]
   |ci _ _=>let(_,_,e,_):=hl;cases e
   |ct _ _=>let(_,_,e,_):=hl;cases e
  rw[e0.1,oT]at hb;rw[e0.2]at ht;subst ht;exact wpAny _ _ (retInt (Builtin.Tuple.tupleHashOf b.toList)) _ _ _;rw[hb];apply wpAny_ret_mkInt ?_;exact wpAny _ _ (if (decide (-(2:Int) ^ 63<=Builtin.Tuple.tupleHashOf (vX k))&&decide (Builtin.Tuple.tupleHashOf (vX k)<2 ^ 63))=true then _ else _) Q E _
  delta YH reduceHash at h;by_cases hr:(decide (-(2:Int) ^ 63<=Builtin.Tuple.tupleHashOf (vX k))&&decide (Builtin.Tuple.tupleHashOf (vX k)<2 ^ 63))=true
  . rw[fR hr];rw[fR hr]at h;show dC (by simpa [C2]using h)
  . rw[eR hr];rw[eR hr]at h;show aS (y8 (dC (by simpa [C2]using h)))
open Ev in
abbrev dT:Kt->List D
 |.nil=>[]
 |.ci i r=>.int i::dT r
 |.ct a r=>.tup (dT a)::dT r
open Ev in
def Io:∀{vs:List Value},IsT h k vs->jc h (dT k) vs:=by
 induction k with
 |nil=>intro vs x;cases (show vs=[]from x);show .nil
 |ci i r ir=>rintro vs ⟨t,us,rfl,x⟩;show .cons (.int i t) (ir x)
 |ct a r ia ir=>rintro vs ⟨ad,us,rfl,⟨o,its,n,e,c,d,q⟩,x⟩;show .cons (.tup (us:=its.toList) #[o,e,c,n,by simpa using d] (ia q)) (ir x)
open Ev in
def RV:∀y:Kt,cC (dT x) (dT y)=decide (x=y):=by
 induction x with
 |nil=>intro y;cases y <;> rfl
 |ci i r ir=>
  intro y;cases y with
  |nil=>rfl
  |ci j q=>exact (cL (.int i) (.int j)&&cC (dT r) (dT q))=_;rw[ir q];by_cases e:i=j <;> simp[cL,e]
  |ct _ _=>rfl
 |ct a r ia ir=>
  intro y;cases y with
  |nil=>rfl
  |ci j q=>rfl
  |ct b q=>exact (cL (.tup (dT a)) (.tup (dT b))&&cC (dT r) (dT q))=_;rw[ir q];exact (cC (dT a) (dT b)&&_)=_;rw[ia b];simp
open Ev in
def Ip:∀k:Kt,deps (dT k)=dep k:=by
 intro k
 induction k with
 |nil=>rfl
 |ci i r ir=>exact max 0 (deps (dT r))=dep r;rw[ir];lia
 |ct a r ia ir=>exact max (deps (dT a)+1) (deps (dT r))=max (dep a+1) (dep r);rw[ir,ia]
def vZ{A:Around}{E:Value->Shared->Prop}{s:Shared}(k:Kt):∀{n:Nat}{a:Addr}{Q:Bool->Shared->Prop},dep k<n->mJ s.heap k a->Q true s->wpAny (model prog w) A (eqIsQuiet n (.ref a)) Q E s:=by
 apply (tU (P:=λk=>∀{n:Nat}{a:Addr}{Q:Bool->Shared->Prop},dep k<n->mJ s.heap k a->Q true s->wpAny (model prog w) A (eqIsQuiet n (.ref a)) Q E s) (λk ek=>?_) k).1
 intro n a Q hn hr h;have hT:=hr.typeIs;let(o,items,m,ho,_,hd,hi):=hr;cases n with
 |zero=>show absurd hn (oD _)
 |succ n=>
 delta eqIsQuiet;apply aS (Cc hT F.slot_tuple_eq.lookup ?_);apply aS (wpAny_isInstance hT isSubtype_tuple_tuple ?_);apply aS (A9 ho hd ?_);apply aS ?_;rw[<- C6];apply AW _ (λaD r s'=>r.1=none/\s'=s/\∃l,El (λk=>∀{n:Nat}{a:Addr}{Q:Bool->Shared->Prop},dep k<n->mJ s.heap k a->Q true s->wpAny (model prog w) A (eqIsQuiet n (.ref a)) Q E s) l/\dep l<=n/\IsT s.heap l aD) _ ?_ ?_ _ _ #[rfl,rfl,k,ek,by lia,hi]
 .
  rintro v aD r s' ⟨hr,rfl,l,el,dl,hl⟩;cases l with
  |nil=>cases (show v::aD=[]from hl)
  |ci i q=>let(tk,_,e,hr1):=hl;cases e;rw[eqIsQuiet_byValue _ rfl];apply aS (dC ?_);show dC #[rfl,rfl,q,el,dl,hr1]
  |ct u q=>
   let(ad,_,e,hu1,hr1):=hl;cases e;have du:dep u+1<=n/\dep q<=n:=by have:max (dep u+1) (dep q)<=n:=dl;lia
   apply aS (el.1 ⋯ hu1 ?_);show dC #[rfl,rfl,q,el.2,du.2,hr1]
 . rintro⟨r1,r2⟩ s' ⟨hr,rfl,_⟩;subst hr;show dC h
def Pn:={ k:Kt // dep k<=3}
def V9(hx:dep x<=3)(hu:A.units+4<cLine)(p:mJ s.heap x a)(q:mJ s.heap y b)(h:Q (decide (x=y)) s) :
  wpAny (model prog w) A (eqBool (.ref a) (.ref b)) Q E s:=by
 have dv:∀{k:Kt}{a:Addr},mJ s.heap k a->Ev.Dv s.heap (.tup (dT k)) (.ref a):=λ#[o,its,n,e,c,d,z]=>.tup #[o,e,c,n,by simpa using d] (Io z)
 apply (Ev.oK 4 ?_ (dv p) (dv q) hu).1 prog w E Q ?_
 . exact Ev.deps (dT x)+1<=4;rw[Ip];lia
 . exact Q (Ev.cC (dT x) (dT y)) s;rw[RV];show h
end
end Nk
namespace Sb
open PySem
abbrev Dz(xs:Array Nat):Prop:=∀i k,i<k->k<xs.size->xs.getD i 0<xs.getD k 0
def getD_in{xs:Array Nat}{i d:Nat}(h:i<xs.size):xs.getD i d=xs.getD i 0:=by simp[Array.getD,h]
def pL{xs:Array Nat}(hr:Dz xs)(j:Nat):∀f lo hi,lo<=hi->hi<=xs.size->hi - lo<=f->(∀i,i<lo->xs.getD i 0<j)->(∀i,hi<=i->i<xs.size->j<=xs.getD i 0)->
  SetTable.below.go xs j f lo hi<=xs.size/\(∀i,i<SetTable.below.go xs j f lo hi->xs.getD i 0<j)/\(∀i,SetTable.below.go xs j f lo hi<=i->i<xs.size->j<=xs.getD i 0)
 | 0,lo,hi,h1,h2,h3,h4,h5=>by
  obtain rfl:lo=hi:=by lia
  show#[h2,h4,h5]
 |f+1,lo,hi,h1,h2,h3,h4,h5=>by
  delta SetTable.below.go;by_cases hlt:lo<hi
  .
   rw[fR hlt];have hm1:lo<=(lo+hi) / 2:=by lia
   have hm2:(lo+hi) / 2<hi:=by lia
   dsimp only;rw[getD_in (show (lo+hi) / 2<xs.size by lia)]
   by_cases hc:xs.getD ((lo+hi) / 2) 0<j
   .
    rw[fR hc];apply pL hr j f _ _ ⋯ h2 ⋯ (λi hi'=>?_) h5
    by_cases e:i=(lo+hi) / 2
    . rw[e];show hc
    . show Nat.lt_trans (hr i ((lo+hi) / 2) ⋯ ⋯) hc
   .
    rw[eR hc];apply pL hr j f _ _ hm1 ⋯ ⋯ h4 λi hi1 hi2=>?_
    by_cases e:i=(lo+hi) / 2
    . rw[e];lia
    . have:=hr ((lo+hi) / 2) i ⋯ hi2;lia
  .
   rw[eR hlt];obtain rfl:lo=hi:=by lia
   show#[h2,h4,h5]
def kh(hr:Dz xs)(j:Nat):SetTable.below xs j<=xs.size/\(∀i,i<SetTable.below xs j->xs.getD i 0<j)/\(∀i,SetTable.below xs j<=i->i<xs.size->j<=xs.getD i 0):=
 pL hr j xs.size 0 xs.size (oP _) (d5 _) ⋯ (λi h=>absurd h (oD i)) λi h1 h2=>absurd h2 ⋯
def rQ{t:SetTable}(hr:Dz t.place){i:Nat}(hi:i<t.place.size):t.slot (t.place.getD i 0)=.live i:=by
 let(h1,h2,h3):=kh hr (t.place.getD i 0);have e:SetTable.below t.place (t.place.getD i 0)=i:=by
  rcases BD (SetTable.below t.place (t.place.getD i 0)) i with h |h |h
  . have a:=h3 _ (d5 _) (Nat.lt_trans h hi);have b:=hr _ _ h hi;lia
  . show h
  . have:=h2 i h;lia
 delta SetTable.slot;dsimp only;rw[e];have:t.place[i]?=!(t.place.getD i 0):=by simp[Array.getD,hi]
 rw[this];simp
def pM{t:SetTable}(hr:Dz t.place)(hd:t.dummies = ([].toArray)){j:Nat}(h:∀i,i<t.place.size->t.place.getD i 0≠j):t.slot j=.empty:=by
 delta SetTable.slot;dsimp only;have h1:(t.place[SetTable.below t.place j]?==!j)=false:=by
  cases e:t.place[SetTable.below t.place j]? with
  |none=>rfl
  |some x=>
   let(hl,e):=AV.mp e;have:=h _ hl;have e2:t.place.getD (SetTable.below t.place j) 0=x:=by simp[Array.getD,hl,e]
   rw[e2]at this;simpa using this
 have h2:SetTable.has t.dummies j=false:=by delta SetTable.has;rw[hd];rfl
 rw[h1,h2];rfl
structure pN(o:Obj)(es:Array (Int×Value))(ep:Nat)(t:SetTable):Prop where
 ex:o.ExactSet
 data:o.data=.set es ep t
 fits:t.fits es.size=true
 tW:Dz t.place
 plain:t.plain=true
def pN.sz{o:Obj}{es:Array (Int×Value)}{ep:Nat}{t:SetTable}(S:pN o es ep t):t.place.size=es.size:=by have h:=S.fits;delta SetTable.fits at h;show CA.mp (eI _ _▸h).1
end Sb
namespace Sb
open PySem
abbrev way(t:SetTable)(h:Int):Nat->SetTable.Probe
 | 0=>t.probeStart h
 |k+1=>t.advance (way t h k)
def DG(t:SetTable)(p:SetTable.Probe):(t.advance p).dummy=p.dummy:=by
 delta SetTable.advance;split
 . rfl
 . rfl
def rR(t:SetTable)(h:Int):∀k,(way t h k).dummy=none
 | 0=>rfl
 |k+1=>(DG t _).trans (rR t h k)
abbrev tX(t:SetTable)(j:Nat):Prop:=∃i,t.slot j=.live i
def RW(t:SetTable)(hs:Nat->Int)(h:Int):∀(N k f:Nat),(∀m,m<N->tX t (way t h (k+m)).j)->t.slot (way t h (k+N)).j=.empty->N<f->
  (∃m i,m<N/\t.slot (way t h (k+m)).j=.live i/\hs i=h/\(∀m',m'<m->∀i',t.slot (way t h (k+m')).j=.live i'->hs i'≠h)/\SetTable.probe.go t hs h f (way t h k)=!(.candidate (way t h (k+m)).j i (way t h (k+m+1))))\/
  ((∀m,m<N->∀i,t.slot (way t h (k+m)).j=.live i->hs i≠h)/\SetTable.probe.go t hs h f (way t h k)=!(.empty (way t h (k+N)).j none))
 | 0,k,f+1,_,he,_=>by
  right;apply#[λm hm=>absurd hm (oD m),?_]
  delta SetTable.probe.go;rw[Cn]at he ⊢
  rw[he];dsimp only;rw[rR]
 |N+1,k,f+1,hl,he,hf=>by
  let(i,hi):=hl 0 (BF N);rw[Cn]at hi;have aD:=RW t hs h N (k+1) f (λm hm=>by
   have:=hl (m+1) ⋯
   rwa [show k+(m+1)=k+1+m by lia]at this) (by rwa [show k+1+N=k+(N+1)by lia]) ⋯
  by_cases e:hs i=h
  .
   left;apply#[0,i,BF N,by rw[Cn];show hi,e,λm' hm'=>absurd hm' (oD m'),?_]
   delta SetTable.probe.go;rw[hi];dsimp only;rw[fR (by rw[e];show AL h)]
   rfl
  .
   have st:SetTable.probe.go t hs h (f+1) (way t h k)=SetTable.probe.go t hs h f (way t h (k+1)):=by
    conv=>lhs;unfold SetTable.probe.go
    rw[hi];dsimp only;rw[eR (by simpa using e)]
    rfl
   rcases aD with ⟨m,i2,h1,h2,h3,h4,h5⟩ |⟨h1,h2⟩
   .
    left;apply#[m+1,i2,by lia,by rw[show k+(m+1)=k+1+m by lia];show h2,h3,λm' hm' i' hi'=>?_,?_]
    .
     cases m' with
     |zero=>rw[Cn,hi]at hi';cases hi';show e
     |succ m'=>show h4 m' ⋯ i' (by rw[show k+1+m'=k+(m'+1)by lia];show hi')
    . rw[st,h5,show k+(m+1)=k+1+m by lia]
   .
    right;apply#[λm hm i' hi'=>?_,?_]
    .
     cases m with
     |zero=>rw[Cn,hi]at hi';cases hi';show e
     |succ m=>show h1 m ⋯ i' (by rw[show k+1+m=k+(m+1)by lia];show hi')
    . rw[st,h2,show k+1+N=k+(N+1)by lia]
structure Tab(t:SetTable)(hs:Nat->Int)(n:Nat):Prop where
 sz:t.place.size=n
 tW:Dz t.place
 Fz:t.dummies = ([].toArray)
 on:∀i,i<n->∃k,(way t (hs i) k).j=t.place.getD i 0/\∀m,m<k->tX t (way t (hs i) m).j
def Tab.ahead(T:Tab t hs n)(hl:∀m,m<N->tX t (way t h m).j)(he:t.slot (way t h N).j=.empty)(hi:i<n)(e:hs i=h):∃m,m<N/\t.slot (way t h m).j=.live i:=by
 let(k,h1,h2):=T.on i hi;rw[e]at h1 h2;have hs':t.slot (way t h k).j=.live i:=by rw[h1];show rQ T.tW (by rw[T.sz];show hi)
 apply#[k,?_,hs'];rcases BD k N with q |q |q
 . show q
 . rw[q,he]at hs';cases hs'
 . let(i',hi'):=h2 N q;rw[he]at hi';cases hi'
end Sb
namespace Sb
open PySem
abbrev aY(mask:Nat)(h:Int):Nat->Nat×Nat
 | 0=>(SetTable.bits h % (mask+1),SetTable.bits h)
 |s+1=>SetTable.leap mask (aY mask h s).1 (aY mask h s).2
abbrev Iq(mask:Nat)(q:Nat×Nat):SetTable.Probe:={ j:=q.1,more:=SetTable.runEnd mask q.1 - q.1,i:=q.1,perturb:=q.2,dummy:=none}
def rS(mask i:Nat):SetTable.runEnd mask i - i<=9:=by delta SetTable.runEnd;split <;> lia
def tY(t:SetTable)(h:Int){K:Nat}(e:way t h K=Iq t.mask q):∀d,d<=SetTable.runEnd t.mask q.1 - q.1->way t h (K+d)={ j:=q.1+d,more:=SetTable.runEnd t.mask q.1 - q.1 - d,i:=q.1,perturb:=q.2,dummy:=none}
 | 0,_=>e
 |d+1,hd=>by
  have ih:=tY t h e d ⋯;exact t.advance (way t h (K+d))=_;rw[ih];delta SetTable.advance;dsimp only;rw[fR ⋯]
  congr 1
def v5(t:SetTable)(h:Int):∀s,∃K,K<=10 * s/\way t h K=Iq t.mask (aY t.mask h s)
 | 0=>#[0,d5 _,rfl]
 |s+1=>by
  let(K,h1,h2):=v5 t h s;have hr:=rS t.mask (aY t.mask h s).1;apply#[K+(SetTable.runEnd t.mask (aY t.mask h s).1 - (aY t.mask h s).1)+1,by lia,?_]
  exact t.advance (way t h (K+_))=_;rw[tY t h h2 _ (d5 _)];delta SetTable.advance;dsimp only;rw[eR ⋯];rfl
def Oo(h:Int):SetTable.bits h<2 ^ 64:=by delta SetTable.bits;have:h % 2 ^ 64<2 ^ 64:=Int.emod_lt_of_pos h ⋯;lia
def pO(mask:Nat)(h:Int):∀s,(aY mask h s).2=SetTable.bits h / 32 ^ s
 | 0=>by rw[Nat.pow_zero,Nat.div_one];rfl
 |s+1=>by
  exact (aY mask h s).2 / 32=_;rw[pO mask h s,Nat.div_div_eq_div_mul,Nat.pow_succ]
def yO(mask:Nat)(h:Int)(s:Nat)(hs:13<=s):(aY mask h s).2=0:=by rw[pO];apply Nat.div_eq_of_lt (fN (Oo h) ?_);show kS ⋯ (D4 (show 0<32 by decide) hs)
abbrev stp(mask x:Nat):Nat:=(x * 5+1) % (mask+1)
abbrev its(mask:Nat):Nat->Nat->Nat
 | 0,x=>x
 |r+1,x=>stp mask (its mask r x)
def lB(mask:Nat)(h:Int):∀r,(aY mask h (13+r)).1=its mask r (aY mask h 13).1
 | 0=>rfl
 |r+1=>by
  exact ((aY mask h (13+r)).1 * 5+1+(aY mask h (13+r)).2 / 32) % (mask+1)=_;rw[yO mask h (13+r) ⋯,lB mask h r];rfl
abbrev Ir(mask:Nat):Nat->Nat->Nat->Nat
 | 0,_,acc=>acc
 |f+1,x,acc=>Ir mask f (stp mask x) (acc ||| (1 <<< x))
abbrev jz(mask:Nat):Bool:=Ir mask (mask+1) 0 0==2 ^ (mask+1) - 1&&its mask (mask+1) 0==0
def ki(mask:Nat)(x:Nat):∀a b,its mask (a+b) x=its mask a (its mask b x)
 | 0,b=>by rw[v4];rfl
 |a+1,b=>by
  rw[show a+1+b=(a+b)+1 by lia]
  exact stp mask (its mask (a+b) x)=_;rw[ki mask x a b];rfl
def Oq(mask x:Nat)(r:Nat):its mask r (stp mask x)=its mask (r+1) x:=by rw[ki mask x r 1];rfl
def v7(mask:Nat)(e:Nat):∀f x acc,(Ir mask f x acc).testBit e=true->acc.testBit e=true\/∃r,r<f/\its mask r x=e
 | 0,x,acc,h=>.inl h
 |f+1,x,acc,h=>by
  delta Ir at h;rcases v7 mask e f (stp mask x) _ h with q |⟨r,h1,h2⟩
  .
   rw[Nat.testBit_or,wS]at q;rcases q with q |q
   . show .inl q
   . right;apply#[0,BF f,?_];rw[Nat.testBit_shiftLeft]at q;simp only[eI,gN]at q;exact x=e;have:=q.2;rw[Nat.testBit_one_eq_true_iff_self_eq_zero]at this;have:=q.1;lia
  . show .inr #[r+1,by lia,by rw[<- Oq];show h2]
def Iu(hc:jz mask=true)(hi:i<=mask)(he:e<=mask):∃r,r<=mask/\its mask r i=e:=by
 delta jz at hc;rw[eI,CA,CA]at hc;let(h1,h2):=hc;have all:∀e,e<=mask->∃r,r<mask+1/\its mask r 0=e:=λe he=>by
  have hb:(Ir mask (mask+1) 0 0).testBit e=true:=by rw[h1,Nat.testBit_two_pow_sub_one];show oC ⋯
  rcases v7 mask e _ _ _ hb with q |q
  . rw[Nat.zero_testBit]at q;cases q
  . show q
 let(a,ha,ea):=all i hi;let(b,hb,eb):=all e he;by_cases hab:a<=b
 .
  apply#[b - a,by lia,?_]
  rw[<- ea,<- ki,show b - a+a=b by lia,eb]
 .
  apply#[mask+1 - a+b,by lia,?_]
  rw[<- ea,<- ki,show mask+1 - a+b+a=b+(mask+1)by lia,ki,h2,eb]
def v8(mask:Nat)(h:Int):∀s,(aY mask h s).1<=mask
 | 0=>Ap (Nat.mod_lt _ (BF mask))
 |s+1=>Ap (Nat.mod_lt _ (BF mask))
def Ot(hc:jz t.mask=true)(h:Int)(he:e<=t.mask):∃K,K<10 * SetTable.turns t.mask/\(way t h K).j=e:=by
 let(r,h1,h2):=Iu hc (v8 t.mask h 13) he;let(K,h3,h4):=v5 t h (13+r);apply#[K,?_,?_]
 . delta SetTable.turns;lia
 . rw[h4];exact (aY t.mask h (13+r)).1=e;rw[lB,h2]
def cov7:jz 7=true:=by decide +kernel
def cov31:jz 31=true:=by decide +kernel
def Wa:jz 127=true:=by decide +kernel
def Wc:jz 511=true:=by decide +kernel
def Ou:jz 2047=true:=by decide +kernel
end Sb
namespace Sb
open PySem
def pP(e:t'.mask=t.mask)(h:Int):∀k,way t' h k=way t h k
 | 0=>by
  exact t'.probeStart h=t.probeStart h;delta SetTable.probeStart;rw[e]
 |k+1=>by
  exact t'.advance (way t' h k)=t.advance (way t h k);rw[pP e h k];delta SetTable.advance;rw[e]
def iM(hr:Dz t.place)(hd:t.dummies = ([].toArray))(j:Nat):(tX t j ↔ ∃i,i<t.place.size/\t.place.getD i 0=j)/\(t.slot j=.empty ↔ ¬ ∃i,i<t.place.size/\t.place.getD i 0=j):=by
 by_cases h:∃i,i<t.place.size/\t.place.getD i 0=j
 . let(i,hi,e):=h;have hl:=rQ hr hi;rw[e]at hl;show#[#[λ_=>#[i,hi,e],λ_=>#[i,hl]],#[λz=>(by rw[hl]at z;cases z),λz=>absurd #[i,hi,e] z]]
 .
  have he:=pM hr hd (j:=j) λi hi e=>h #[i,hi,e]
  show#[#[λ#[i,z]=>(by rw[he]at z;cases z),λz=>absurd z h],#[λ_=>h,λ_=>he]]
def Iv(hr:Dz xs):∀i,i<xs.size->i<=xs.getD i 0
 | 0,_=>oP _
 |i+1,h=>by
  have:=Iv hr i ⋯;have:=hr i (i+1) (xL i) h;lia
def DK(hr:Dz xs):∃e,e<=xs.size/\∀i,i<xs.size->xs.getD i 0≠e:=by
 have:∀d,d<=xs.size->(∃e,e<=d/\∀i,i<xs.size->xs.getD i 0≠e)\/(∀i,i<d->xs.getD i 0=i):=λd=>by
  induction d with
  |zero=>intro _;show .inr λi hi=>absurd hi (oD i)
  |succ d ih=>
   intro hd;rcases ih ⋯with ⟨e,h1,h2⟩ |h
   . show .inl #[e,by lia,h2]
   .
    by_cases e:xs.getD d 0=d
    .
     show .inr λi hi=>by
      by_cases ei:i=d
      . rw[ei];show e
      . show h i ⋯
    .
     left;apply#[d,by lia,λi hi z=>?_]
     have hg:=Iv hr d ⋯;rcases BD i d with q |q |q
     . rw[h i q]at z;lia
     . rw[q]at z;show e z
     . have:=hr d i q hi;lia
 rcases this xs.size (d5 _)with q |h
 . show q
 . show#[xs.size,d5 _,λi hi z=>by rw[h i hi]at z;lia]
def least(p:Nat->Prop) [DecidablePred p]:∀K,p K->∃N,N<=K/\p N/\∀m,m<N->¬ p m
 | 0,h=>#[0,d5 _,h,λm hm=>absurd hm (oD m)]
 |K+1,h=>by
  by_cases e:∃m,m<=K/\p m
  .
   let(m,h1,h2):=e;have:∀d m,m<=d->p m->∃N,N<=m/\p N/\∀q,q<N->¬ p q:=λd=>by
    induction d with
    |zero=>intro m hm hp;show#[m,d5 _,hp,λq hq=>absurd hq ⋯]
    |succ d ih=>
     intro m hm hp;by_cases e:∃q,q<m/\p q
     . let(q,h1,h2):=e;let(N,a,b,c):=ih q ⋯ h2;show#[N,by lia,b,c]
     . show#[m,d5 _,hp,λq hq z=>e #[q,hq,z]]
   let(N,a,b,c):=this m m (d5 _) h2;show#[N,by lia,b,c]
  . show#[K+1,d5 _,h,λm hm z=>e #[m,by lia,z]]
def v9(T:Tab t hs n)(hc:jz t.mask=true)(hn:n<=t.mask)(h:Int):∃N,N<10 * SetTable.turns t.mask/\t.slot (way t h N).j=.empty/\∀m,m<N->tX t (way t h m).j:=by
 let(e,h1,h2):=DK T.tW;let(K,h3,h4):=Ot hc h (e:=e) (by rw[T.sz]at h1;lia)
 have h5:t.slot (way t h K).j=.empty:=by rw[h4];show pM T.tW T.Fz h2
 let(N,a,b,c):=least (λk=>t.slot (way t h k).j=.empty) K h5
 apply#[N,by lia,b,λm hm=>?_]
 have:=c m hm;let(l1,l2):=iM T.tW T.Fz (way t h m).j;show l1.mpr (Bi λz=>this (l2.mpr z))
def getD_list(ys:Array Nat)(k:Nat):ys.getD k 0=ys.toList.getD k 0:=by
 by_cases h:k<ys.size
 . simp[Array.getD,bP,h]
 . simp[Array.getD,bP,h]
def dW(hp:p<=xs.size)(i:Nat):(SetTable.insertAt xs p x).getD i 0=if i<p then xs.getD i 0 else if i=p then x else xs.getD (i - 1) 0:=by
 have hl:(xs.toList.take p).length=p:=by rw[i8,eD];lia
 rw[getD_list,SetTable.toList_insertAt,bP];by_cases h1:i<p
 . rw[fR h1,b8 ⋯,List.getElem?_take,fR h1,getD_list,bP]
 .
  rw[eR h1,b6 ⋯,hl];by_cases h2:i=p
  . rw[fR h2,h2,Cf];rfl
  . rw[eR h2,show i - p=(i - p - 1)+1 by lia,BO,List.getElem?_drop,show p+(i - p - 1)=i - 1 by lia,getD_list,bP]
def iN(xs:Array Nat)(p x:Nat):(SetTable.insertAt xs p x).size=xs.size+1:=by have:=(SetTable.insertAt_perm xs p x).length_eq;rw[eD,eD,Array.size_push]at this;show this
abbrev Ov(hs:Nat->Int)(p:Nat)(h:Int)(i:Nat):Int:=if i<p then hs i else if i=p then h else hs (i - 1)
def Iw(t:SetTable)(hd:t.dummies = ([].toArray))(j:Nat):t.put j=({ t with place:=SetTable.insertAt t.place (SetTable.below t.place j) j},SetTable.below t.place j):=by
 delta SetTable.put;have:SetTable.has t.dummies j=false:=by delta SetTable.has;rw[hd];rfl
 dsimp only;rw[this];rfl
def Tab.put(T:Tab t hs n)(hl:∀m,m<N->tX t (way t h m).j)(he:t.slot (way t h N).j=.empty):Tab (t.put (way t h N).j).1 (Ov hs (t.put (way t h N).j).2 h) (n+1):=by
 generalize hj:(way t h N).j=j at he;rw[Iw t T.Fz j];let(b1,b2,b3):=kh T.tW j;have fE:=(iM T.tW T.Fz j).2.mp he;dsimp only;have uJ:(SetTable.insertAt t.place (SetTable.below t.place j) j).size=n+1:=by rw[iN,T.sz]
 have b3':∀i,SetTable.below t.place j<=i->i<t.place.size->j<t.place.getD i 0:=λi h1 h2=>by
  have:=b3 i h1 h2;have:t.place.getD i 0≠j:=λz=>fE #[i,h2,z]
  lia
 have Iz:Dz (SetTable.insertAt t.place (SetTable.below t.place j) j):=λa c hac hc=>by
  rw[dW b1,dW b1];rw[iN]at hc;by_cases h1:c<SetTable.below t.place j
  . rw[fR h1,fR ⋯];show T.tW a c hac ⋯
  .
   rw[eR h1];by_cases h2:c=SetTable.below t.place j
   . rw[fR h2,fR ⋯];show b2 a ⋯
   .
    rw[eR h2];by_cases h3:a<SetTable.below t.place j
    . rw[fR h3];show Nat.lt_trans (b2 a h3) (b3' (c - 1) ⋯ ⋯)
    .
     rw[eR h3];by_cases h4:a=SetTable.below t.place j
     . rw[fR h4];show b3' (c - 1) ⋯ ⋯
     . rw[eR h4];show T.tW (a - 1) (c - 1) ⋯ ⋯
 have mem:∀x,(∃i,i<t.place.size/\t.place.getD i 0=x)\/x=j->∃i,i<(SetTable.insertAt t.place (SetTable.below t.place j) j).size/\(SetTable.insertAt t.place (SetTable.below t.place j) j).getD i 0=x:=λx hx=>by
  rcases hx with ⟨i,hi,e⟩ |e
  .
   by_cases h1:i<SetTable.below t.place j
   . show#[i,by rw[iN];lia,by rw[dW b1,fR h1];show e]
   . show#[i+1,by rw[iN];lia,by rw[dW b1,eR ⋯,eR ⋯,Nat.add_sub_cancel];show e]
  . show#[SetTable.below t.place j,by rw[iN];lia,by rw[dW b1,eR ⋯,fR rfl];show e.symm]
 have live:∀x,tX t x\/x=j->tX { t with place:=SetTable.insertAt t.place (SetTable.below t.place j) j} x:=λx hx=>by
  apply (iM (t:={ t with place:=SetTable.insertAt t.place (SetTable.below t.place j) j}) Iz T.Fz x).1.mpr (mem x ?_);show hx.imp (λz=>(iM T.tW T.Fz x).1.mp z) id
 have wm:=λh k=>pP (t:=t) (t':={ t with place:=SetTable.insertAt t.place (SetTable.below t.place j) j}) rfl h k
 apply#[uJ,Iz,T.Fz,λi hi=>?_]
 delta Ov;by_cases h1:i<SetTable.below t.place j
 .
  rw[fR h1];let(k,k1,k2):=T.on i (by have:=T.sz;lia)
  apply#[k,?_,λm hm=>?_]
  . rw[wm,k1];exact _=(SetTable.insertAt t.place (SetTable.below t.place j) j).getD i 0;rw[dW b1,fR h1]
  . rw[wm];show live _ (.inl (k2 m hm))
 .
  rw[eR h1];by_cases h2:i=SetTable.below t.place j
  .
   rw[fR h2];apply#[N,?_,λm hm=>?_]
   . rw[wm,hj];exact _=(SetTable.insertAt t.place (SetTable.below t.place j) j).getD i 0;rw[dW b1,eR h1,fR h2]
   . rw[wm];show live _ (.inl (hl m hm))
  .
   rw[eR h2];let(k,k1,k2):=T.on (i - 1) ⋯;apply#[k,?_,λm hm=>?_]
   . rw[wm,k1];exact _=(SetTable.insertAt t.place (SetTable.below t.place j) j).getD i 0;rw[dW b1,eR h1,eR h2]
   . rw[wm];show live _ (.inl (k2 m hm))
end Sb
namespace Sb
open PySem
abbrev bare(mask:Nat):SetTable:={ mask,place:=([].toArray),dummies:=([].toArray),finger:=0,led:=true,moves:=0,plain:=true}
abbrev yP(owner:Array (Option Nat))(j:Nat):Prop:=owner.getD j (!0)=none
def Ay:∀(f s K:Nat),way (bare mask) h K=Iq mask (aY mask h s)->(∀m,m<K->¬ yP owner (way (bare mask) h m).j)->(∃s',s<=s'/\s'<s+f/\yP owner (aY mask h s').1)->
  ∃N,SetTable.layClean.free mask owner f (aY mask h s).1 (aY mask h s).2=some (way (bare mask) h N).j/\yP owner (way (bare mask) h N).j/\∀m,m<N->¬ yP owner (way (bare mask) h m).j
 | 0,s,K,_,_,hx=>by
  let(s',h1,h2,_):=hx;lia
 |f+1,s,K,hK,hb,hx=>by
  have run:=tY (bare mask) h hK;delta SetTable.layClean.free;cases e:(List.range (SetTable.runEnd mask (aY mask h s).1+1 - (aY mask h s).1)).find? (λk=>(owner.getD ((aY mask h s).1+k) (!0)).isNone)with
  |some d=>
   let(hd,hm,hbef):=List.find?_range_eq_some.mp e;rw[o6]at hm;have r:=run d (by have:(bare mask).mask=mask:=rfl;lia)
   apply#[K+d,?_,?_,λm hm'=>?_]
   . rw[r]
   . rw[r];exact owner.getD ((aY mask h s).1+d) (!0)=none;simpa using hd
   .
    by_cases h1:m<K
    . show hb m h1
    .
     have:=run (m - K) (by have:(bare mask).mask=mask:=rfl;lia)
     rw[show K+(m - K)=m by lia]at this
     rw[this];intro z;have q:=hbef (m - K) ⋯;have z':owner.getD ((aY mask h s).1+(m - K)) (!0)=none:=z;rw[z']at q;cases q
  |none=>
   have hn:=List.find?_range_eq_none.mp e;have hr:=rS mask (aY mask h s).1;have hre:(aY mask h s).1<=SetTable.runEnd mask (aY mask h s).1:=by delta SetTable.runEnd;split <;> lia
   have nf:∀d,d<=SetTable.runEnd mask (aY mask h s).1 - (aY mask h s).1->¬ yP owner ((aY mask h s).1+d):=λd hd z=>by
    have q:=hn d ⋯;have z':owner.getD ((aY mask h s).1+d) (!0)=none:=z;rw[z']at q;cases q
   exact ∃N,SetTable.layClean.free mask owner f (aY mask h (s+1)).1 (aY mask h (s+1)).2=_/\_;apply Ay f (s+1) (K+(SetTable.runEnd mask (aY mask h s).1 - (aY mask h s).1)+1) ?_ (λm hm=>?_) ?_
   . exact (bare mask).advance (way (bare mask) h (K+_))=_;have r:=run _ (d5 _);have hm:(bare mask).mask=mask:=rfl;rw[hm]at r;rw[r];delta SetTable.advance;dsimp only;rw[eR ⋯];rfl
   .
    by_cases h1:m<K
    . show hb m h1
    .
     have:=run (m - K) (by have:(bare mask).mask=mask:=rfl;rw[this];lia)
     rw[show K+(m - K)=m by lia]at this
     rw[this];show nf (m - K) ⋯
   .
    let(s',h1,h2,h3):=hx;apply#[s',?_,by lia,h3]
    by_cases e2:s'=s
    . rw[e2]at h3;show absurd h3 (nf 0 (oP _))
    . lia
def yQ(t:SetTable)(h:Int):∀k,(way t h k).j<=t.mask/\(way t h k).j+(way t h k).more<=t.mask
 | 0=>by
  have h1:SetTable.bits h % (t.mask+1)<=t.mask:=Ap (Nat.mod_lt _ (BF _));apply#[h1,?_];exact SetTable.bits h % (t.mask+1)+(SetTable.runEnd t.mask (SetTable.bits h % (t.mask+1)) - SetTable.bits h % (t.mask+1))<=t.mask;delta SetTable.runEnd;split <;> lia
 |k+1=>by
  let(h1,h2):=yQ t h k;exact (t.advance (way t h k)).j<=t.mask/\(t.advance (way t h k)).j+(t.advance (way t h k)).more<=t.mask;delta SetTable.advance;by_cases hm:(way t h k).more > 0
  . rw[fR hm];dsimp only;lia
  .
   rw[eR hm];have h3:(SetTable.leap t.mask (way t h k).i (way t h k).perturb).1<=t.mask:=Ap (Nat.mod_lt _ (BF _));generalize SetTable.leap t.mask (way t h k).i (way t h k).perturb=q at h3;let(q1,q2):=q;dsimp only at h3 ⊢
   apply#[h3,?_];delta SetTable.runEnd;split <;> lia
structure Lay(mask:Nat)(hs: ~~~0)(owner:Array (Option Nat))(js:List Nat):Prop where
 sz:owner.size=mask+1
 len:js.length=hs.length
 nd:js.Nodup
 le:∀j∈js,j<=mask
 own:∀j k,j<=mask->(owner.getD j none=some k ↔ js[k]?=!j)
 on:∀(k:Nat) (h:Int),hs[k]?=!h->∃N,js[k]?=some (way (bare mask) h N).j/\∀m,m<N->(way (bare mask) h m).j∈js
def yR{owner:Array (Option Nat)}{j:Nat}(h:j<owner.size)(d:Option Nat):owner.getD j d=owner.getD j none:=by simp[Array.getD,h]
def Lay.free{mask:Nat}{hs: ~~~0}{owner:Array (Option Nat)}{js:List Nat}(L:Lay mask hs owner js){j:Nat}(hj:j<=mask):yP owner j ↔ j∉js:=by
 delta yP;rw[yR (by rw[L.sz];lia)]
 constructor
 .
  intro e hm;let(k,hk,e2):=mI hm;have:=(L.own j k hj).mpr (by rw[eJ hk,e2])
  rw[e]at this;cases this
 .
  intro hm;cases e:owner.getD j none with
  |none=>rfl
  |some k=>have:=(L.own j k hj).mp e;show absurd (lL this) hm
def Lay.start(mask:Nat):Lay mask [] (Array.replicate (mask+1) none) []:=by
 apply#[by simp,rfl,AC,λj h=>(nomatch h),λj k hj=>?_,λk h e=>(by cases e)]
 have:(Array.replicate (mask+1) (none:Option Nat)).getD j none=none:=by
  have:j<(Array.replicate (mask+1) (none:Option Nat)).size:=by simp;lia
  simp[Array.getD,this]
 rw[this];constructor
 . intro z;cases z
 . intro z;cases z
def Lay.step(hc:jz mask=true)(L:Lay mask hs owner js)(hn:hs.length<=mask)(h:Int):∃j,SetTable.layClean.free mask owner (SetTable.turns mask) (SetTable.bits h % (mask+1)) (SetTable.bits h)=!j/\Lay mask (hs++[h]) (owner.setIfInBounds j (!hs.length)) (js++[j]):=by
 obtain⟨e,he,hfree⟩:∃e,e<=mask/\e∉js:=by
  apply Bi λz=>?_
  have hall:∀e∈List.range (mask+1),e∈js:=λe he=>Bi λq=>z #[e,by have:=o6.mp he;lia,q]
  have:=List.nodup_range.length_le_of_subset hall;rw[DB,L.len]at this;lia
 let(r,h1,h2):=Iu hc (v8 mask h 13) he;let(N,f1,f2,f3):=Ay (mask:=mask) (h:=h) (owner:=owner) (SetTable.turns mask) 0 0 rfl (λm hm=>absurd hm (oD m)) #[13+r,oP _,by delta SetTable.turns;lia,by
  rw[lB,h2];show (L.free he).mpr hfree]
 have hj:=(yQ (bare mask) h N).1;have hj':(way (bare mask) h N).j<=mask:=hj;have hnew:(way (bare mask) h N).j∉js:=(L.free hj').mp f2;apply#[(way (bare mask) h N).j,f1,by simpa using L.sz,by rw[dS,dS,L.len];rfl,?_,λx hx=>?_,λx k hx=>?_,λk h' e'=>?_]
 . rw[yA];show#[L.nd,by simp,λa ha b hb=>by rw[eP.mp hb];show λz=>hnew (z▸ha)]
 .
  rcases l9.mp hx with q |q
  . show L.le x q
  . rw[eP.mp q];show hj'
 .
  have hxs:x<owner.size:=by rw[L.sz];lia
  have hjs:(way (bare mask) h N).j<owner.size:=by rw[L.sz];lia
  generalize (way (bare mask) h N).j=j at hnew hj' hjs;have ge:(owner.setIfInBounds j (!hs.length)).getD x none=if j=x then some hs.length else owner.getD x none:=by
   rw[Co,Co,Array.getElem?_setIfInBounds];by_cases e:j=x
   . rw[fR e,fR e,fR hjs];rfl
   . rw[eR e,eR e]
  rw[ge];by_cases e:j=x
  .
   rw[fR e,<- e];constructor
   .
    intro q;cases q;rw[b6 (by rw[L.len];show d5 _),L.len]
    simp
   .
    intro q;by_cases hk:k<js.length
    . rw[b8 hk]at q;show absurd (lL q) hnew
    .
     rw[b6 ⋯]at q;have:k - js.length=0:=by
      cases hk0:k - js.length with
      |zero=>rfl
      |succ d=>rw[hk0]at q;cases q
     have:=L.len;rw[show k=hs.length by lia]
  .
   rw[eR e,L.own x k hx];by_cases hk:k<js.length
   . rw[b8 hk]
   .
    rw[x5 ⋯,b6 ⋯];constructor
    . intro q;cases q
    .
     intro q;cases hk0:k - js.length with
     |zero=>rw[hk0]at q;cases q;show absurd rfl e
     |succ d=>rw[hk0]at q;cases q
 .
  by_cases hk:k<hs.length
  . rw[b8 hk]at e';let(M,m1,m2):=L.on k h' e';apply#[M,by rw[b8 (by rw[L.len];show hk)];show m1,λm hm=>l7 _ (m2 m hm)]
  .
   rw[b6 ⋯]at e';cases hk0:k - hs.length with
   |zero=>
    rw[hk0]at e';cases e';apply#[N,by rw[b6 (by rw[L.len];lia),L.len,hk0];rfl,λm hm=>l7 _ ?_]
    have:=f3 m hm;have hw:=(yQ (bare mask) h m).1;show Bi λz=>this ((L.free hw).mpr z)
   |succ d=>rw[hk0]at e';cases e'
end Sb
namespace Sb
open PySem
abbrev IK(mask:Nat)(acc:Option (Array (Option Nat)×Nat))(h:Int):Option (Array (Option Nat)×Nat):=do
 let (owner,k) <- acc
 let j <- SetTable.layClean.free mask owner (SetTable.turns mask) (SetTable.bits h % (mask+1)) (SetTable.bits h)
 pure (owner.setIfInBounds j (!k),k+1)
def wc(hc:jz mask=true):∀(l hs: ~~~0) (owner:Array (Option Nat)) (js:List Nat),Lay mask hs owner js->hs.length+l.length<=mask+1->∃owner' js',l.foldl (IK mask) (!(owner,hs.length))=!(owner',(hs++l).length)/\Lay mask (hs++l) owner' js'
 | [],hs,owner,js,L,_=>#[owner,js,by rw[oT];rfl,by rw[oT];show L]
 |h::l,hs,owner,js,L,hn=>by
  rw[mB]at hn;let(j,e,L'):=L.step hc ⋯ h;let(o2,j2,w1,w2):=wc hc l (hs++[h]) _ _ L' (by rw[dS,t9];lia)
  apply#[o2,j2,?_,by rw[fI]at w2;show w2]
  rw[List.foldl_cons];have st:IK mask (!(owner,hs.length)) h=!(owner.setIfInBounds j (!hs.length),(hs++[h]).length):=by delta IK;simp only[Option.bind_eq_bind,Option.bind_some,e,dS,t9];rfl
  rw[st,w1,fI];rfl
def wg(hc:jz mask=true)(hs:Array Int)(hn:hs.size<=mask):∃owner js,SetTable.layClean mask hs=!owner/\Lay mask hs.toList owner js:=by
 let(owner,js,w1,w2):=wc hc hs.toList [] _ _ (Lay.start mask) (by have:=eD (xs:=hs);rw[B8];lia)
 apply#[owner,js,?_,w2];delta SetTable.layClean;have e:hs.foldl (IK mask) (!(Array.replicate (mask+1) none,0))=!(owner,hs.toList.length):=by rw[<- Array.foldl_toList];show w1
 exact ((hs.foldl (IK mask) (!(Array.replicate (mask+1) none,0))).map (·.1))=!owner;rw[e];rfl
def yS{f:Nat->Option Nat}:∀l:List Nat,(l.filterMap λj=>(f j).map (j,·)).map (·.1)=l.filter λj=>(f j).isSome
 | []=>rfl
 |j::l=>by
  rw[y7,CL];cases e:f j with
  |none=>show yS l
  |some k=>simp only[AR,List.map_cons,Option.isSome_some,C1];rw[yS l]
def gB{l:List Nat}(i:Nat):l.toArray.getD i 0=l.getD i 0:=by rw[getD_list]
def yT{p:Nat->Bool}(n:Nat):Dz ((List.range n).filter p).toArray:=λi k hik hk=>by
 rw[gB,gB];have hk':k<((List.range n).filter p).length:=by simpa using hk
 have pw:((List.range n).filter p).Pairwise (· < ·):=(List.pairwise_lt_range).filter p;have:=AD.mp pw i k ⋯ hk' hik;rw[bP,bP,eJ (show i<_ by lia),eJ hk']
 show this
def Ow{mask:Nat}(hc:jz mask=true)(hs:Array Int)(hn:hs.size<=mask)(finger moves:Nat)(led plain:Bool):∃t order,SetTable.laid mask finger moves led plain hs=!(t,order)/\t.mask=mask/\t.led=led/\t.plain=plain/\t.moves=moves/\order.toList.Perm (List.range hs.size)/\Tab t (λi=>hs.getD (order.getD i 0) 0) hs.size:=by
 let(owner,js,e1,L):=wg hc hs hn;have aN:js.length=hs.size:=by rw[L.len,eD]
 obtain⟨live,hlive⟩:∃live,live=(List.range (mask+1)).filterMap λj=>(owner.getD j none).map (j,·):=#[_,rfl]
 have iY:live.map (·.1)=(List.range (mask+1)).filter λj=>(owner.getD j none).isSome:=by rw[hlive];show yS _
 have yU:∀j k,(j,k)∈live ↔ j<=mask/\js[k]?=!j:=λj k=>by
  rw[hlive,CU];constructor
  .
   rintro⟨x,hx,e⟩;let(y,e2,e3):=v6.mp e;cases e3;have hx':j<=mask:=by have:=o6.mp hx;lia
   show#[hx',(L.own j k hx').mp e2]
  . rintro⟨h1,h2⟩;show#[j,o6.mpr ⋯,by rw[(L.own j k h1).mpr h2];rfl]
 have memP:∀j,j∈live.map (·.1) ↔ j∈js:=λj=>by
  rw[eQ];constructor
  . rintro⟨⟨x,k⟩,hx,rfl⟩;show lL ((yU x k).mp hx).2
  . intro hj;let(k,hk,e):=mI hj;show#[(j,k),(yU j k).mpr #[L.le j hj,by rw[eJ hk,e]],rfl]
 have ZC:(live.map (·.1)).Nodup:=by rw[iY];show List.nodup_range.filter _
 have uJ:live.length=hs.size:=by have:=((y4 ZC L.nd).mpr memP).length_eq;rw[eA,aN]at this;show this
 have ndO:(live.map (·.2)).Nodup:=by
  have h1:live.Pairwise λa b=>a.1≠b.1:=AB.mp ZC
  apply AB.mpr (h1.imp_of_mem λ{a b} ha hb fE z=>fE ?_)
  have q1:=((yU a.1 a.2).mp ha).2;have q2:=((yU b.1 b.2).mp hb).2;rw[z,q2]at q1;show (oQ q1).symm
 have perm:(live.map (·.2)).Perm (List.range hs.size):=by
  apply (y4 ndO List.nodup_range).mpr λk=>?_
  rw[eQ,o6];constructor
  . rintro⟨⟨j,x⟩,hx,rfl⟩;have:=(dL.mp ((yU j x).mp hx).2).1;lia
  .
   intro hk;have hk':k<js.length:=by lia
   show#[(js[k],k),(yU _ _).mpr #[L.le _ (tP hk'),eJ hk'],rfl]
 have Iz:Dz (live.map (·.1)).toArray:=by rw[iY];show yT _
 apply#[{ mask,place:=(live.map (·.1)).toArray,dummies:=([].toArray),finger,led,moves,plain},(live.map (·.2)).toArray,?_,rfl,rfl,rfl,rfl,by simpa using perm,by simpa using uJ,Iz,rfl,λi hi=>?_]
 . delta SetTable.laid;rw[e1];exact some _=!_;rw[hlive]
 .
  have hi':i<live.length:=by lia
  have hm:live[i]∈live:=tP hi';let(m1,m2):=(yU live[i].1 live[i].2).mp hm;have g1:(live.map (·.1)).toArray.getD i 0=live[i].1:=by rw[gB,bP,mM,eJ hi'];rfl
  have g2:(live.map (·.2)).toArray.getD i 0=live[i].2:=by rw[gB,bP,mM,eJ hi'];rfl
  have hk:live[i].2<hs.toList.length:=by have:=(dL.mp m2).1;rw[L.len]at this;show this
  have hk2:live[i].2<hs.size:=by rw[eD]at hk;show hk
  let(N,n1,n2):=L.on live[i].2 hs.toList[live[i].2] (eJ hk);have wm:=λh k=>pP (t:=bare mask) (t':={ mask,place:=(live.map (·.1)).toArray,dummies:=([].toArray),finger,led,moves,plain}) rfl h k
  have hh:hs.getD ((live.map (·.2)).toArray.getD i 0) 0=hs.toList[live[i].2]:=by rw[g2];simp[Array.getD,hk2]
  apply#[N,?_,λm hm'=>?_]
  . dsimp only;rw[hh,wm,g1];rw[m2]at n1;show (oQ n1).symm
  .
   rw[hh,wm];apply (iM (t:={ mask,place:=(live.map (·.1)).toArray,dummies:=([].toArray),finger,led,moves,plain}) Iz rfl _).1.mpr ?_;let(x,hx,e):=mI ((memP _).mpr (n2 m hm'));apply#[x,by simpa using hx,?_]
   exact (live.map (·.1)).toArray.getD x 0=_;rw[gB,bP,eJ hx,e];rfl
end Sb
namespace Sb
open PySem
def IV{t:SetTable}{j i:Nat}(h:t.slot j=.live i):i<t.place.size/\t.place.getD i 0=j:=by
 delta SetTable.slot at h;dsimp only at h;split at h
 . ext e;symm;have e:=eq_of_beq e;let(hl,e):=AV.mp e;show#[hl,by simp[Array.getD,hl,e]]
 . split at h <;> symm
abbrev pQ(es:Array (Int×Value))(i:Nat):Int:=(es[i]?.map (·.1)).getD 0
section
variable{prog:Program}{w:World}{A:Around}{E:Value->Shared->Prop}{s:Shared}
def lC{a:Addr}{o:Obj}{es:Array (Int×Value)}{ep:Nat}{t:SetTable}{x:Value}{h:Int}{DN:Nat->Bool}{N:Nat}{Q:SetFound->Shared->Prop}
  (ho:s.heap.get? a=!o) (hd:o.data=.set es ep t) (hf:t.fits es.size=true) (hw:t.gaveWay=false) (seen:t.led=false->∀(l:List Value) (Q':Bool->Shared->Prop),(∀y∈l,∃i:Nat,es[i]?=!(h,y))->Q' false s->wpAny (model prog w) A (searchCouldBeSeen x l) Q' E s) (T:Tab t (pQ es) es.size)
  (hN:N<10 * SetTable.turns t.mask) (he:t.slot (way t h N).j=.empty) (hlive:∀m,m<N->tX t (way t h m).j)
  (eqs:∀i y,es[i]?=!(h,y)->(∃b,y=.ref b)/\∀Q':Bool->Shared->Prop,Q' (DN i) s->wpAny (model prog w) A (eqBool y x) Q' E s)
  (q1:(∃i,i<es.size/\pQ es i=h/\DN i=true)->Q (.there none) s) (q2:(∀i,i<es.size->pQ es i=h->DN i=false)->Q (.free (way t h N).j false) s) :
  ∀(fuel k:Nat) (st:Option SetTable.Probe),st.getD (t.probeStart h)=way t h k->k<=N->N - k<fuel->(∀m,m<k->∀i,t.slot (way t h m).j=.live i->pQ es i=h->DN i=false)->
   wpAny (model prog w) A (setSearchFrom a x h true fuel st) Q E s
 | 0,k,st,_,_,hk,_=>absurd hk (oD _)
 |fuel+1,k,st,fL,hkN,hk,hb=>by
  delta setSearchFrom;apply aS (r6 ho hd hf ?_);dsimp only;rw[hw];simp only[t7,↓reduceIte];rw[fL];have hp:∀r,SetTable.probe.go t (pQ es) h (10 * SetTable.turns t.mask) (way t h k)=r->t.probe (pQ es) h (way t h k)=r:=λr e=>e
  rcases RW t (pQ es) h (N - k) k (10 * SetTable.turns t.mask) (λm hm=>hlive (k+m) ⋯) (by rw[show k+(N - k)=N by lia];show he) ⋯with ⟨m,i,g1,g2,g3,g4,g5⟩ |⟨g1,g2⟩
  .
   let(hi,_):=IV g2;rw[T.sz]at hi;obtain⟨hy,hye⟩:∃y,es[i]?=!(h,y):=by
    have e:es[i]?=some es[i]:=rV hi;have e2:pQ es i=es[i].1:=by delta pQ;rw[e];rfl
    rw[g3]at e2;show#[es[i].2,by rw[e,e2]]
   let((b,rfl),eq):=eqs i hy hye;have pe:=hp _ g5;exact wpAny (model prog w) A (do
    let some met:=t.probe (pQ es) h (way t h k) |_
    _) Q E s
   rw[pe];dsimp only;cases hled:t.led with
   |true=>
    simp only[Bool.not_true,t7,↓reduceIte];rw[hye];dsimp only;apply aS (nN (eq _ ?_));apply aS (r6 ho hd hf ?_);dsimp only;have sm:t.sameMemory t.moves t.mask=!true:=by delta SetTable.sameMemory;rw[AL];rfl
    cases hk2:DN i with
    |true=>simp only[Bool.and_self,↓reduceIte];show dC (q1 #[i,hi,g3,hk2])
    |false=>
     simp only[A8,t7,↓reduceIte];rw[sm];dsimp only;simp only[↓reduceIte];rw[g2];dsimp only;rw[hye];dsimp only;apply aS (wpAny_isSame_ref_self ?_);simp only[↓reduceIte];apply aS (dC ?_);apply lC ho hd hf hw seen T hN he hlive eqs q1 q2 fuel (k+m+1) _ rfl ⋯ ⋯ λm' hm' i' hs' hh=>?_
     rcases BD m' (k+m)with q |q |q
     .
      by_cases h1:m'<k
      . show hb m' h1 i' hs' hh
      . show absurd hh (g4 (m' - k) ⋯ i' (by rw[show k+(m' - k)=m' by lia];show hs'))
     . rw[q,g2]at hs';cases hs';show hk2
     . lia
   |false=>
    simp only[Bool.not_false,↓reduceIte];apply aS (seen hled _ _ (λy hy=>?_) ?_)
    . let(e,he',rfl):=eQ.mp hy;have he2:=Bn.mp he';let(hm,hh):=Array.mem_filter.mp he2;let(j,hj,ej):=Array.getElem_of_mem hm;apply#[j,?_];rw[rV hj,ej];have:e.1=h:=eq_of_beq hh;rw[<- this]
    .
     simp only[t7,↓reduceIte];rw[hye];dsimp only;apply aS (nN (eq _ ?_));apply aS (r6 ho hd hf ?_);dsimp only;have sm:t.sameMemory t.moves t.mask=!true:=by delta SetTable.sameMemory;rw[AL];rfl
     cases hk2:DN i with
     |true=>simp only[Bool.and_self,↓reduceIte];show dC (q1 #[i,hi,g3,hk2])
     |false=>
      simp only[A8,t7,↓reduceIte];rw[sm];dsimp only;simp only[↓reduceIte];rw[g2];dsimp only;rw[hye];dsimp only;apply aS (wpAny_isSame_ref_self ?_);simp only[↓reduceIte];apply aS (dC ?_);apply lC ho hd hf hw seen T hN he hlive eqs q1 q2 fuel (k+m+1) _ rfl ⋯ ⋯ λm' hm' i' hs' hh=>?_
      rcases BD m' (k+m)with q |q |q
      .
       by_cases h1:m'<k
       . show hb m' h1 i' hs' hh
       . show absurd hh (g4 (m' - k) ⋯ i' (by rw[show k+(m' - k)=m' by lia];show hs'))
      . rw[q,g2]at hs';cases hs';show hk2
      . lia
  .
   have pe:=hp _ g2;exact wpAny (model prog w) A (do
    let some met:=t.probe (pQ es) h (way t h k) |_
    _) Q E s
   rw[pe];dsimp only;rw[show k+(N - k)=N by lia]
   apply dC (q2 λi hi e=>?_)
   let(m,m1,m2):=T.ahead hlive he hi e;by_cases hmk:m<k
   . show hb m hmk i m2 e
   . show absurd e (g1 (m - k) ⋯ i (by rw[show k+(m - k)=m by lia];show m2))
end
end Sb
namespace Sb
open PySem
abbrev masks:List Nat:=[7,31,127,511,2047]
def lG(h:m∈masks):jz m=true/\m % 2=1:=by
 delta masks at h;simp only[eC,x3,ED]at h;rcases h with rfl |rfl |rfl |rfl |rfl
 . show#[cov7,rfl]
 . show#[cov31,rfl]
 . show#[Wa,rfl]
 . show#[Wc,rfl]
 . show#[Ou,rfl]
structure SetT(o:Obj)(es:Array (Int×Value))(ep:Nat)(t:SetTable):Prop where
 ex:o.ExactSet
 data:o.data=.set es ep t
 tab:Tab t (pQ es) es.size
 mq:t.mask∈masks
 room:es.size * 5<t.mask * 3
 plain:t.plain=true
def SetT.fits(S:SetT o es ep t):t.fits es.size=true:=by delta SetTable.fits SetTable.fill;rw[S.tab.sz,S.tab.Fz];have:=S.room;simp only[eI,AL,true_and,gN];exact es.size+0<=t.mask;lia
def SetT.toW{o:Obj}{es:Array (Int×Value)}{ep:Nat}{t:SetTable}(S:SetT o es ep t):pN o es ep t:=#[S.ex,S.data,S.fits,S.tab.tW,S.plain]
def SetT.gave(S:SetT o es ep t):t.gaveWay=false:=by delta SetTable.gaveWay;rw[(lG S.mq).2];rfl
def wj(hm:m∈masks)(h1:(n - 1) * 5<m * 3)(h2:m * 3<=n * 5)(hn:n<=1000):SetTable.sizeAbove (SetTable.grown n) - 1∈masks/\n * 5<(SetTable.sizeAbove (SetTable.grown n) - 1) * 3:=by
 delta masks at hm;simp only[eC,x3,ED]at hm;have hg:SetTable.grown n=n * 4:=by delta SetTable.grown;rw[eR ⋯]
 rw[hg];rcases hm with rfl |rfl |rfl |rfl |rfl
 .
  obtain rfl:n=5:=by lia
  show#[by decide,by decide]
 .
  obtain rfl:n=19:=by lia
  show#[by decide,by decide]
 .
  obtain rfl:n=77:=by lia
  show#[by decide,by decide]
 .
  obtain rfl:n=307:=by lia
  show#[by decide,by decide]
 . lia
end Sb
namespace Sb
open PySem
def IW(hp:p<=xs.size)(i:Nat):(SetTable.insertAt xs p x)[i]?=if i<p then xs[i]? else if i=p then some x else xs[i - 1]?:=by
 have e:(SetTable.insertAt xs p x)[i]?=(SetTable.insertAt xs p x).toList[i]?:=by simp
 have e2:(SetTable.insertAt xs p x).toList=xs.toList.take p++x::xs.toList.drop p:=by delta SetTable.insertAt;simp[oI]
 rw[e,e2,List.getElem?_append];have hl:(xs.toList.take p).length=p:=by simp[hp]
 rw[hl];by_cases h1:i<p
 . simp[h1]
 .
  rw[eR h1,eR h1];by_cases h2:i=p
  . subst h2;simp
  .
   rw[eR h2,show i - p=(i - p - 1)+1 by lia,BO,List.getElem?_drop,show p+(i - p - 1)=i - 1 by lia]
   simp
def rT:(SetTable.insertAt xs p x).toList.Perm (xs.toList++[x]):=by
 have e2:(SetTable.insertAt xs p x).toList=xs.toList.take p++x::xs.toList.drop p:=by delta SetTable.insertAt;simp[oI]
 rw[e2];have h1:(xs.toList.take p++x::xs.toList.drop p).Perm (x::(xs.toList.take p++xs.toList.drop p)):=List.perm_middle;rw[kA]at h1;show h1.trans (List.perm_append_singleton x xs.toList).symm
def Ox(hp:p<=es.size):pQ (SetTable.insertAt es p (h,x))=Ov (pQ es) p h:=by
 funext i
 delta pQ Ov;rw[IW hp];split
 . rfl
 .
  split
  . rfl
  . rfl
def DP:(SetTable.insertAt es p x).size=es.size+1:=by have:=(rT (xs:=es) (p:=p) (x:=x)).length_eq;simpa using this
def Ja{es:Array (Int×Value)}:∀l:List Nat,(∀i∈l,i<es.size)->l.filterMap (es[·]?)=l.map λi=>es[i]?.getD (0,.none)
 | [],_=>rfl
 |i::l,h=>by
  have hi:=h i (dA ..);have e:es[i]?=some es[i]:=rV hi;rw[y7,e,List.map_cons,e,Ja l λj hj=>h j (b0 _ hj)]
  rfl
def DQ(es:Array (Int×Value)):(List.range es.size).map (λi=>es[i]?.getD (0,.none))=es.toList:=by
 refine B0
 . simp
 .
  intro i h1 h2;have hi:i<es.size:=by simpa using h2
  simp[hi]
def reo{es:Array (Int×Value)}{order:Array Nat}(hp:order.toList.Perm (List.range es.size)) :
  (order.filterMap (es[·]?)).size=es.size/\(order.filterMap (es[·]?)).toList.Perm es.toList/\∀i,i<es.size->(es.map (·.1)).getD (order.getD i 0) 0=pQ (order.filterMap (es[·]?)) i:=by
 have hin:∀i∈order.toList,i<es.size:=λi hi=>o6.mp (hp.mem_iff.mp hi)
 have aN:order.toList.length=es.size:=by rw[hp.length_eq,DB]
 have e:(order.filterMap (es[·]?)).toList=order.toList.map λi=>es[i]?.getD (0,.none):=by rw[Array.toList_filterMap];show Ja _ hin
 have hpm:(order.filterMap (es[·]?)).toList.Perm es.toList:=by rw[e,<- DQ es];show hp.map _
 apply#[by rw[<- eD,hpm.length_eq,eD],hpm,λi hi=>?_]
 have hio:i<order.toList.length:=by lia
 have ho:order.getD i 0=order.toList[i]:=by rw[getD_list,bP,eJ hio];rfl
 have Oz:order.toList[i]<es.size:=hin _ (tP hio);delta pQ;rw[<- nS,e,mM,eJ hio,ho,AR];generalize order.toList[i]=k at Oz;simp[Array.getD,Oz]
def Tab.congr(T:Tab t hs n)(e:∀i,i<n->hs i=hs' i):Tab t hs' n:=
 #[T.sz,T.tW,T.Fz,λi hi=>by rw[<- e i hi];show T.on i hi]
end Sb
namespace Sb
open PySem
section
variable{prog:Program}{w:World}{A:Around}{E:Value->Shared->Prop}{s:Shared}
def Jb(a:Addr)(wanted:Nat):setRelay a wanted=(do
  let (es,_,t) <- setState a
  if SetTable.sizeAbove wanted > sizeLine then unsupported "set:memory"
  let (es,t) <- (do
   let some (t,order):=t.relaid (es.map (·.1)) wanted |unsupported "internal:set-table-without-room"
   let es':=order.filterMap (es[·]?)
   if es'.size != es.size then unsupported "internal:set-table-lost-an-element"
   pure (es',t))
  storeSet a es t):=rfl
def Jc
  (ho:s.heap.get? a=!o) (hd:o.data=.set es ep t) (hf:t.fits es.size=true) (hc:jz (SetTable.sizeAbove wanted - 1)=true) (hn:es.size<=SetTable.sizeAbove wanted - 1) (hz:SetTable.sizeAbove wanted<=sizeLine)
  (q:∀es' t',es'.size=es.size->es'.toList.Perm es.toList->t'.mask=SetTable.sizeAbove wanted - 1->t'.plain=t.plain->t'.led=t.led->Tab t' (pQ es') es.size->Q () { s with heap:=s.heap.update a (Obj.putSet es' t')}) :
  wpAny (model prog w) A (setRelay a wanted) Q E s:=by
 rw[Jb];apply aS (r6 ho hd hf ?_);dsimp only;rw[eR (Nat.not_lt.mpr hz)];let(t',order,e,hm,hl,iY,hmv,RX,T):=Ow hc (es.map (·.1)) (by simpa using hn) t.finger (t.movedTo (SetTable.sizeAbove wanted - 1)) t.led t.plain
 have e':t.relaid (es.map (·.1)) wanted=!(t',order):=e;rw[e'];dsimp only;rw[B5]at RX T;let(r1,r2,r3):=reo RX;have r1':((order.filterMap (es[·]?)).size != es.size)=false:=by rw[r1];simp
 rw[r1'];simp only[t7,↓reduceIte];apply aS (dC ?_);dsimp only;apply wpAny_storeSet_of ho hd (q _ _ r1 r2 hm iY hl (T.congr r3)) ?_;rw[r1];lia
end
end Sb
namespace Sb
open PySem
section
variable{prog:Program}{w:World}{A:Around}{E:Value->Shared->Prop}{s:Shared}
def OD{a:Addr}{o:Obj}{es:Array (Int×Value)}{ep:Nat}{t:SetTable}{x:Value}{h:Int}{DN:Nat->Bool}{Q:Bool->Shared->Prop}
  (ho:s.heap.get? a=!o) (S:SetT o es ep t) (hx:x.scannable=false) (hn:es.size<1000)
  (seen:t.led=false->∀(l:List Value) (Q':Bool->Shared->Prop),(∀y∈l,∃i:Nat,es[i]?=!(h,y))->Q' false s->wpAny (model prog w) A (searchCouldBeSeen x l) Q' E s)
  (eqs:∀i y,es[i]?=!(h,y)->(∃b,y=.ref b)/\∀Q':Bool->Shared->Prop,Q' (DN i) s->wpAny (model prog w) A (eqBool y x) Q' E s)
  (byv:∀Q':Bool->Shared->Prop,Q' true s->wpAny (model prog w) A (hashByValue 8 x) Q' E s)
  (q1:(∃i,i<es.size/\pQ es i=h/\DN i=true)->Q false s)
  (q2:(∀i,i<es.size->pQ es i=h->DN i=false)->∀h' es' uP t',Heap.SameBut a s.heap h'->h'.get? a=some { o with data:=.set es' uP t'}->SetT { o with data:=.set es' uP t'} es' uP t'->es'.toList.Perm (es.toList++[(h,x)])->t'.led=t.led->Q true { s with heap:=h'})
  (fuel:Nat):wpAny (model prog w) A (setAddHashedIn a x h (fuel+1)) Q E s:=by
 have hd:=S.data;have hf:=S.fits;let(N,hN,he,hlive):=v9 S.tab (lG S.mq).1 (by have:=S.room;lia) h
 delta setAddHashedIn;apply aS (r6 ho hd hf ?_);dsimp only;have hb:byScan x es=false:=by delta byScan;rw[hx];rfl
 rw[hb];simp only[t7,↓reduceIte];delta setSearch;have hm7:t.mask<=2047:=by have:=S.mq;delta masks at this;simp only[eC,x3,ED]at this;lia
 have hNb:N<100000:=by
  have:SetTable.turns t.mask<=5000:=by delta SetTable.turns;lia
  lia
 apply aS (lC (DN:=DN) ho hd hf S.gave seen S.tab hN he hlive eqs (λhq=>?_) (λhq=>?_) 100000 0 none rfl ⋯ ⋯ λm hm=>absurd hm (oD _))
 . dsimp only;show dC (q1 hq)
 .
  dsimp only;apply aS (r6 ho hd hf ?_);dsimp only;have TP:=S.tab.put hlive he;have pi:=Iw t S.tab.Fz (way t h N).j;have hpb:SetTable.below t.place (way t h N).j<=es.size:=by have:=(kh S.tab.tW (way t h N).j).1;rw[S.tab.sz]at this;show this
  rw[pi]at TP ⊢
  dsimp only at TP ⊢
  generalize SetTable.below t.place (way t h N).j=p at TP hpb ⊢
  rw[fR S.plain];apply aS (byv _ ?_);simp only[↓reduceIte];generalize ht1:({ t with place:=SetTable.insertAt t.place p (way t h N).j}:SetTable)=t1 at TP ⊢
  have hm1:t1.mask=t.mask:=by rw[<- ht1]
  have hp1:t1.plain=true:=by rw[<- ht1];show S.plain
  have hl1:t1.led=t.led:=by rw[<- ht1]
  have hs1:(SetTable.insertAt es p (h,x)).size=es.size+1:=DP;have T1:Tab t1 (pQ (SetTable.insertAt es p (h,x))) (SetTable.insertAt es p (h,x)).size:=by rw[hs1,Ox hpb];show TP
  have hf1:t1.fits (SetTable.insertAt es p (h,x)).size=true:=by have:=S.room;delta SetTable.fits SetTable.fill;rw[T1.sz,T1.Fz,hs1,hm1];simp only[eI,AL,true_and,gN];exact es.size+1+0<=t.mask;lia
  generalize hE1:SetTable.insertAt es p (h,x)=es1 at hs1 T1 hf1 ⊢
  have hpm:es1.toList.Perm (es.toList++[(h,x)]):=by rw[<- hE1];show rT
  have hz1:es1.size<=sizeLine:=by delta sizeLine;lia
  apply aS (wpAny_storeSet_of ho hd ?_ hz1);have qC:(s.heap.update a (Obj.putSet es1 t1)).get? a=some { o with data:=.set es1 (ep+1) t1}:=by
   have:=sR (Obj.putSet es1 t1) ho (by rw[putSet_of es1 t1 hd];rfl)
   rw[putSet_of es1 t1 hd]at this;show this
  have sb1:=AA s.heap a (Obj.putSet es1 t1);have hfill:t1.fill=es1.size:=by delta SetTable.fill;rw[T1.sz,T1.Fz];rfl
  by_cases tf:t1.tooFull=true
  .
   rw[tf];simp only[Bool.not_false,Bool.and_self,↓reduceIte];have tf':t.mask * 3<=(es.size+1) * 5:=by delta SetTable.tooFull at tf;rw[hfill,hm1,hs1]at tf;show t5 tf
   let(g1,g2):=wj S.mq (n:=es.size+1) (by have:=S.room;lia) tf' ⋯
   apply aS (Jc qC rfl hf1 (lG g1).1 (by rw[hs1];lia) ?_ λes' t' z1 z2 z3 z4 z5 z6=>?_)
   .
    have:SetTable.sizeAbove (SetTable.grown (es.size+1)) - 1<=2047:=by delta masks at g1;simp only[eC,x3,ED]at g1;lia
    delta sizeLine;lia
   .
    have Vi:((s.heap.update a (Obj.putSet es1 t1)).update a (Obj.putSet es' t')).get? a=some { o with data:=.set es' (ep+1+1) t'}:=by
     have:=sR (Obj.putSet es' t') qC (by rw[putSet_of es' t' rfl];rfl)
     rw[putSet_of es' t' rfl]at this;show this
    apply dC (q2 hq _ es' (ep+1+1) t' (sb1.trans (AA _ a _)) Vi #[S.ex,rfl,by rw[z1];show z6,by rw[z3];show g1,by rw[z1,z3,hs1];show g2,by rw[z4];show hp1] (z2.trans hpm) (z5.trans hl1))
  .
   have tf0:t1.tooFull=false:=by simpa using tf
   rw[tf0];simp only[Bool.not_false,A8,t7,↓reduceIte];apply dC (q2 hq _ es1 (ep+1) t1 sb1 qC #[S.ex,rfl,T1,by rw[hm1];show S.mq,?_,hp1] hpm hl1)
   delta SetTable.tooFull at tf0;rw[hfill]at tf0;have:=of_decide_eq_false tf0;lia
end
end Sb
namespace Nk
open PySem
section
variable{prog:Program}{w:World}{A:Around}{E:Value->Shared->Prop}{s:Shared}
def OJ(n:Nat)(i:Int)(t:Tok):hashByValue n (.int i t)=pure true:=by cases n <;> first |rfl | (delta hashByValue;rfl)
def Wd(k:Kt):∀{n:Nat}{a:Addr}{Q:Bool->Shared->Prop},dep k<n->mJ s.heap k a->Q true s->wpAny (model prog w) A (hashByValue n (.ref a)) Q E s:=by
 apply (tU (P:=λk=>∀{n:Nat}{a:Addr}{Q:Bool->Shared->Prop},dep k<n->mJ s.heap k a->Q true s->wpAny (model prog w) A (hashByValue n (.ref a)) Q E s) (λk ek=>?_) k).1
 intro n a Q hn hr h;have hT:=hr.typeIs;let(o,items,m,ho,_,hd,hi):=hr;cases n with
 |zero=>show absurd hn (oD _)
 |succ n=>
 apply aS (Cc hT F.slot_tuple_hash.lookup ?_);apply aS (A9 ho hd ?_);apply aS ?_;rw[<- C6];apply AW _ (λaD r s'=>r.1=none/\s'=s/\∃l,El (λk=>∀{n:Nat}{a:Addr}{Q:Bool->Shared->Prop},dep k<n->mJ s.heap k a->Q true s->wpAny (model prog w) A (hashByValue n (.ref a)) Q E s) l/\dep l<=n/\IsT s.heap l aD) _ ?_ ?_ _ _ #[rfl,rfl,k,ek,by lia,hi]
 .
  rintro v aD r s' ⟨hr,rfl,l,el,dl,hl⟩;cases l with
  |nil=>cases (show v::aD=[]from hl)
  |ci i q=>let(tk,_,e,hr1):=hl;cases e;rw[OJ];apply aS (dC ?_);show dC #[rfl,rfl,q,el,dl,hr1]
  |ct u q=>
   let(ad,_,e,hu1,hr1):=hl;cases e;have du:dep u+1<=n/\dep q<=n:=by have:max (dep u+1) (dep q)<=n:=dl;lia
   apply aS (el.1 ⋯ hu1 ?_);show dC #[rfl,rfl,q,el.2,du.2,hr1]
 . rintro⟨r1,r2⟩ s' ⟨hr,rfl,_⟩;subst hr;show dC h
def Jd(n:Nat)(i:Int)(t:Tok):ofAClassStatement n (.int i t)=pure false:=by
 first |rfl |simp[ofAClassStatement] | (delta ofAClassStatement;rfl)
def Az(k:Kt):∀{n:Nat}{a:Addr}{Q:Bool->Shared->Prop},dep k<n->mJ s.heap k a->Q false s->wpAny (model prog w) A (ofAClassStatement n (.ref a)) Q E s:=by
 apply (tU (P:=λk=>∀{n:Nat}{a:Addr}{Q:Bool->Shared->Prop},dep k<n->mJ s.heap k a->Q false s->wpAny (model prog w) A (ofAClassStatement n (.ref a)) Q E s) (λk ek=>?_) k).1
 intro n a Q hn hr h;have hT:=hr.typeIs;let(o,items,m,ho,_,hd,hi):=hr;cases n with
 |zero=>show absurd hn (oD _)
 |succ n=>
 delta ofAClassStatement;apply aS (DI hT ?_);apply aS ?_;apply dC ?_;apply aS (A9 ho hd ?_);apply aS ?_;rw[<- C6];apply AW _ (λaD r s'=>r.1=none/\s'=s/\∃l,El (λk=>∀{n:Nat}{a:Addr}{Q:Bool->Shared->Prop},dep k<n->mJ s.heap k a->Q false s->wpAny (model prog w) A (ofAClassStatement n (.ref a)) Q E s) l/\dep l<=n/\IsT s.heap l aD) _ ?_ ?_ _ _ #[rfl,rfl,k,ek,by lia,hi]
 .
  rintro v aD r s' ⟨hr,rfl,l,el,dl,hl⟩;cases l with
  |nil=>cases (show v::aD=[]from hl)
  |ci i q=>let(tk,_,e,hr1):=hl;cases e;rw[Jd];apply aS (dC ?_);show dC #[rfl,rfl,q,el,dl,hr1]
  |ct u q=>
   let(ad,_,e,hu1,hr1):=hl;cases e;have du:dep u+1<=n/\dep q<=n:=by have:max (dep u+1) (dep q)<=n:=dl;lia
   apply aS (el.1 ⋯ hu1 ?_);show dC #[rfl,rfl,q,el.2,du.2,hr1]
 . rintro⟨r1,r2⟩ s' ⟨hr,rfl,_⟩;subst hr;show dC h
def O1{k:Pn}{a:Addr}{l:List Value}{Q:Bool->Shared->Prop}(hk:mJ s.heap k.1 a)(hl:∀y∈l,∃(b:Addr) (k':Pn),y=.ref b/\mJ s.heap k'.1 b)(h:Q false s):wpAny (model prog w) A (searchCouldBeSeen (.ref a) l) Q E s:=by
 apply aS ?_;apply AW _ (λaD r s'=>r.1=none/\s'=s/\∀y∈aD,∃(b:Addr) (k':Pn),y=.ref b/\mJ s.heap k'.1 b) _ ?_ ?_ _ _ #[rfl,rfl,hl]
 .
  rintro v aD r s' ⟨hr,rfl,hall⟩;let(b,k',rfl,hb):=hall v dA;have RZ:=λu hu'=>hall u (b0 _ hu')
  dsimp only;by_cases e:(a==b)=true
  . rw[e];show dC #[rfl,rfl,RZ]
  .
   have e0:(a==b)=false:=by simpa using e
   rw[e0];have c:carriedByValue (.ref a)=false:=rfl;rw[c];apply aS (vZ k.1 ⋯ hk ?_);apply aS (vZ k'.1 ⋯ hb ?_);apply aS (Az k.1 ⋯ hk ?_);apply aS (Az k'.1 ⋯ hb ?_);show dC #[rfl,rfl,RZ]
 . rintro⟨r1,r2⟩ s' ⟨hr,rfl,_⟩;subst hr;show dC h
end
end Nk
namespace Sb
open PySem
end Sb
namespace Sb
open PySem
section
variable{prog:Program}{w:World}{A:Around}{E:Value->Shared->Prop}{s:Shared}{K:Type} [DecidableEq K] (knd:KeyKind prog w K) (B:List K->Addr->Prop)
abbrev Shows(h:Heap)(k:List K)(e:Int×Value):Prop:=∃b,B k b/\e=(tupleKeyHash knd k,.ref b)/\IsTupleKey knd h k b
abbrev L0(h:Heap)(a:Addr)(ks:List (List K)):Prop:=
 ∃o es ep t,h.get? a=!o/\SetT o es ep t/\(w.params.followText "set-order"=false->t.led=true)/\ks.Nodup/\∃l:List (Int×Value),es.toList.Perm l/\ks.length=l.length/\∀(i:Nat) k e,ks[i]?=!k->l[i]?=!e->Shows knd B h k e
variable{knd B}
end
end Sb
namespace Sb
open PySem
def Ba{α:Type}:∀(l:List α) (i:Nat) (h:i<l.length),(l[i]::l.eraseIdx i).Perm l
 | [],_,h=>absurd h (oD _)
 |a::l,0,_=>.refl _
 |a::l,i+1,h=>by
  have h':i<l.length:=by simpa using h
  have:((a::l)[i+1]::(a::l).eraseIdx (i+1))=l[i]::a::l.eraseIdx i:=rfl;show (List.Perm.swap a l[i] _).trans (.cons a (Ba l i h'))
def Bb{α:Type}(next:Nat->Nat):∀(n k:Nat) (l:List α) (out:Array α),l.length=n->(pickOrder.go next n k l out).toList.Perm (out.toList++l)
 | 0,k,l,out,h=>by
  cases l with
  |nil=>simp[pickOrder.go]
  |cons _ _=>simp at h
 |n+1,k,l,out,h=>by
  have hl:next k % l.length<l.length:=Nat.mod_lt _ ⋯;delta pickOrder.go;rw[eJ hl];apply (Bb next n (k+1) _ _ (by rw[List.length_eraseIdx_of_lt hl];lia)).trans ?_
  rw[Do,fI];apply DJ _ ?_;show Ba _ _ hl
def DR{α:Type}(next:Nat->Nat)(xs:Array α):(pickOrder next xs).toList.Perm xs.toList:=by have:=Bb next xs.size 0 xs.toList ([].toArray) ⋯;simpa [pickOrder]using this
section
variable{prog:Program}{w:World}{A:Around}{E:Value->Shared->Prop}{s:Shared}
abbrev fh(t:SetTable):Nat->Nat
 | 0=>0
 |i+1=>t.place.getD i 0+1
def below_at{t:SetTable}(r:Dz t.place){n:Nat}(hz:t.place.size=n){i:Nat}(hi:i<=n):SetTable.below t.place (fh t i)=i:=by
 let(b1,b2,b3):=kh r (fh t i);rcases BD (SetTable.below t.place (fh t i)) i with h |h |h
 .
  cases i with
  |zero=>lia
  |succ m=>have:=b3 m ⋯ ⋯;simp only[fh]at this;lia
 . show h
 .
  have:=b2 i h;cases i with
  |zero=>simp only[fh]at this;lia
  |succ m=>have r:=r m (m+1) ⋯ ⋯;simp only[fh]at this;lia
def O2(a:Addr)(slot given ep0:Nat):setNext a slot given ep0=(do
  let (es,epoch,t) <- setState a
  if <- setsByText then
   if epoch != ep0 then unsupported "set_iterator.__next__:elements-changed"
   return ((<- setWalk a)[given]?).map λe=>(e.2,slot)
  if (not t.plain)&&es.size > 1 then unsupported "set_iterator.__next__:the-table-is-plain-no-more"
  (do if (not t.led)&&(not es.isEmpty) then unsupported "set:maker-not-led":Sem Unit)
  let i:=SetTable.below t.place slot
  return match es[i]?,t.place[i]? with
   |!(_,x),!j=>!(x,j+1)
   |_,_=>none):=rfl
def Je(hw:w.params.followText "set-order"=false)
  (ho:s.heap.get? a=!o) (S:pN o es ep t) (ld:t.led=true) (hi:i<=es.size) (q:Q (es[i]?.map λe=>(e.2,fh t (i+1))) s):wpAny (model prog w) A (setNext a (fh t i) g ep0) Q E s:=by
 rw[O2];apply aS (r6 ho S.data S.fits ?_);apply aS (aS (AK (dC ?_)));dsimp only[model];rw[hw,S.plain,ld];rw[below_at S.tW S.sz hi];have e:(match es[i]?,t.place[i]? with
   |!(_,x),!j=>!(x,j+1)
   |_,_=>none)=es[i]?.map λe=>(e.2,fh t (i+1)):=by
  by_cases h:i<es.size
  .
   have h2:i<t.place.size:=by rw[S.sz];show h
   rw[rV h];simp[fh,h2]
  . rw[Array.getElem?_eq_none ⋯];rfl
 first
  |show aS (dC (dC (by rw[e];show q)))
  |show dC (by rw[e];show q)
def DS(hw:w.params.followText "set-order"=true)
  (ho:s.heap.get? a=!o) (S:pN o es ep t) (q:Q ((pickOrder (w.params.setOrder a ep) es)[g]?.map λe=>(e.2,i)) s):wpAny (model prog w) A (setNext a i g ep) Q E s:=by
 apply aS (r6 ho S.data S.fits ?_);apply aS (aS (AK (dC ?_)));dsimp only[model];rw[hw];simp only[bne_self_eq_false];apply aS (aS (r6 ho S.data S.fits ?_));apply aS (aS (AK (dC ?_)));rw[hw];show aS (AK (dC (dC q)))
end
end Sb
namespace Sb
open PySem
section
variable{prog:Program}{w:World}{A:Around}{E:Value->Shared->Prop}{s:Shared}{K:Type} [DecidableEq K] {knd:KeyKind prog w K}{B:List K->Addr->Prop}
def DT(led:Bool)(hs:Nat->Int):Tab (.fresh 0 0 led) hs 0:=
 #[rfl,λi k _ hk=>absurd hk (oD _),rfl,λi hi=>absurd hi (oD _)]
end
end Sb
namespace Sb
open PySem
def Jf:Manifest.owners.lookup (String.ofList ['r','o','t','a','r','e','t','i','_','t','e','s'].reverse)=!Manifest.sig_set_iterator:=by kernel_rfl
def bY:Slot "set_iterator" "__next__" "set_iterator.__next__" :=
 .of (owner:= "set_iterator") (n:= "__next__") (by rw[typeLookup_type];kernel_rfl) (by decide +kernel) (by decide +kernel) (by decide +kernel)
  (by first |show .inl (by decide +kernel) |show .inr (by decide +kernel)) (by rw[isSubtype_type];kernel_rfl)
def jr:entryFor table "set_iterator.__next__"=some Builtin.«set_iterator.__next__»:=entryFor_of_tree (by kernel_rfl)
def kj(a:Value):argsOk "set_iterator.__next__" #[[a],[]]:=by delta argsOk;rw[signature?_of (n:=['_','_','t','x','e','n','_','_']) (by kernel_rfl) Jf];kernel_rfl
def kr:Slot "set_iterator" "__iter__" "set_iterator.__iter__" :=
 .of (owner:= "set_iterator") (n:= "__iter__") (by rw[typeLookup_type];kernel_rfl) (by decide +kernel) (by decide +kernel) (by decide +kernel)
  (by first |show .inl (by decide +kernel) |show .inr (by decide +kernel)) (by rw[isSubtype_type];kernel_rfl)
def qL:entryFor table "set_iterator.__iter__"=some Builtin.«dict_keyiterator.__iter__»:=
 entryFor_alias (id':= "dict_keyiterator.__iter__") (by kernel_rfl) (by first |rfl |decide +kernel | (delta String.splitOn;simp +decide [String.splitOnAux])) (by decide +kernel) (by kernel_rfl)
def tZ(a:Value):argsOk "set_iterator.__iter__" #[[a],[]]:=by delta argsOk;rw[signature?_of (n:=['_','_','r','e','t','i','_','_']) (by kernel_rfl) Jf];kernel_rfl
def pR:entryFor table "set.__iter__"=some Builtin.«frozenset.__iter__»:=
 entryFor_alias (id':= "frozenset.__iter__") (by kernel_rfl) (by first |rfl |decide +kernel | (delta String.splitOn;simp +decide [String.splitOnAux])) (by decide +kernel) (by kernel_rfl)
section
variable{prog:Program}{w:World}{A:Around}{E:Value->Shared->Prop}{s:Shared}
abbrev yV(h:Heap)(I a:Addr)(sl i n ep:Nat):Prop:=
 ∃o,h.get? I=!o/\o.cls=.type "set_iterator" /\o.data=.fields ([.int sl 0,.int i 0,.ref a,.int n 0,.int ep 0].toArray)
def yV.typeIs(x:yV s.heap I a sl i n ep):s.TypeIs (.ref I) "set_iterator" :=let #[o,ho,hc,_]:=x;#[o,ho,hc]
abbrev iu(w:World)(a:Addr)(ep:Nat)(es:Array (Int×Value)):Array (Int×Value):=if w.params.followText "set-order"=true then pickOrder (w.params.setOrder a ep) es else es
abbrev iO(w:World)(t:SetTable)(i:Nat):Nat:=if w.params.followText "set-order"=true then 0 else fh t i
def pS(w:World)(a:Addr)(ep:Nat)(es:Array (Int×Value)):(iu w a ep es).toList.Perm es.toList:=by
 delta iu;split
 . show DR _ _
 . show .refl _
def gW(w:World)(a:Addr)(ep:Nat)(es:Array (Int×Value)):(iu w a ep es).size=es.size:=by have:=(pS w a ep es).length_eq;simpa using this
def pU
  (ho:s.heap.get? a=!o) (S:pN o es ep t) (ld:w.params.followText "set-order"=false->t.led=true) (hi:i<=es.size) (q:Q ((iu w a ep es)[i]?.map λe=>(e.2,iO w t (i+1))) s):wpAny (model prog w) A (setNext a (iO w t i) i ep) Q E s:=by
 delta iu iO at *;cases hw:w.params.followText "set-order" with
 |true=>rw[hw]at q;show DS hw ho S q
 |false=>rw[hw]at q;show Je hw ho S (ld hw) hi q
def next_item(hit:yV s.heap I a (iO w t i) i es.size ep)
  (hoa:s.heap.get? a=!o) (S:pN o es ep t) (ld:w.params.followText "set-order"=false->t.led=true) (hx:(iu w a ep es)[i]?=!e)
  (hQ:∀h',yV h' I a (iO w t (i+1)) (i+1) es.size ep->Heap.SameBut I s.heap h'->Q (!e.2) { s with heap:=h'}) :
  wpAny (model prog w) A (pyNext (.ref I)) Q E s:=by
 let(oi,Oz,hc,hd):=id hit;have hlt:i<es.size:=by rw[<- gW w a ep es];show (AV.mp hx).1
 apply aS (D5 (BQ hit.typeIs bY
  (u7 bY hit.typeIs jr ?_ (kj _))))
 apply aS (dC ?_);apply aS (wpAny_fieldsOf Oz hd ?_);apply aS (aS (r6 hoa S.data S.fits (dC ?_)));rw[eR ⋯];simp only[At];apply aS (pU hoa S ld (AY hlt) ?_);rw[hx];apply aS (DF Oz hd ⋯ ?_);have Fw:=sR (Obj.mapFields (·.setIfInBounds 0 (rawInt (iO w t (i+1):Nat)))) Oz (Obj.isFreed_of_fields (A6 hd _));have hd1:=A6 hd (·.setIfInBounds 0 (rawInt (iO w t (i+1):Nat)));apply aS (DF Fw hd1 ⋯ (dC #[_,rfl,dC (hQ _ ?_ ((AA ..).trans (AA ..)))]));show#[_,sR _ Fw (Obj.isFreed_of_fields (A6 hd1 _)),(Obj.cls_mapFields ..).trans ((Obj.cls_mapFields ..).trans hc),by
  rw[A6 hd1];simp[rawInt]]
def next_end(hh:A.handled=none)(hit:yV s.heap I a (iO w t es.size) es.size es.size ep)
  (hoa:s.heap.get? a=!o) (S:pN o es ep t) (ld:w.params.followText "set-order"=false->t.led=true)
  (hQ:∀h',Heap.ExtBut I s.heap h'->Q none { s with heap:=h'}) :
  wpAny (model prog w) A (pyNext (.ref I)) Q E s:=by
 let(oi,Oz,hc,hd):=id hit;have hx:(iu w a ep es)[es.size]?=none:=by rw[<- gW w a ep es];simp
 apply aS (D5 (BQ hit.typeIs bY
  (u7 bY hit.typeIs jr ?_ (kj _))))
 apply aS (dC ?_);apply aS (wpAny_fieldsOf Oz hd ?_);apply aS (aS (r6 hoa S.data S.fits (dC ?_)));rw[eR ⋯];simp only[At];apply aS (pU hoa S ld (d5 _) ?_);rw[hx];apply aS (DF Oz hd ⋯ ?_);apply aS ?_;apply aS (tS ?_ (by size_fits))
 apply aS (DC (by first |rfl | (simp only[firstArgMember];rfl)) ?_)
 apply tS ?_ (by size_fits)
 apply aS (wpAny_handled ?_)
 first |rw[show A.in1.handled=none from hh] |rw[hh]
 apply aS (dC (wpAny_throw ?_));apply aS (wpAny_isInstance #[_,eM _ rfl,rfl] isSubtype_stop ?_);show dC (hQ _ (((AA ..).extBut.push _).push _))
def DW(hit:yV s.heap I a sl i n ep)(h:Q (.ref I) s):wpAny (model prog w) A (pyIter (.ref I)) Q E s:=by apply wpAny_pyIter_slot hit.typeIs kr (u7 kr hit.typeIs qL ?_ (tZ _));show dC #[_,rfl, "set_iterator",_,hit.typeIs,bY.lookup,h]
def DX{o:Obj}{es:Array (Int×Value)}{ep:Nat}{t:SetTable}(hh:A.handled=none)(I a:Addr)(fE:a≠I)(S:pN o es ep t)(ld:w.params.followText "set-order"=false->t.led=true) :
  Walks prog w A I [I,a] [I] es.size (λi v=>∃e,(iu w a ep es)[i]?=!e/\e.2=v) (λi h=>yV h I a (iO w t i) i es.size ep/\h.get? a=!o) where
 sub:=λb hb=>by simp at hb;simp[hb]
 frame:=λ_ _ _ st hk=>#[let #[o,ho,r]:=st.1;#[o,hk I ⋯ o ho,r],hk a ⋯ _ st.2]
 item:=λi s Q E hi st hQ=>by
  have hi':i<(iu w a ep es).size:=by rw[gW];show hi
  apply next_item st.1 st.2 S ld (rV hi') λh' VL hs'=>?_
  show hQ _ h' s.toks #[_,rV hi',rfl] #[VL,hs'.extBut a o fE st.2] λb o hb e=>hs'.extBut b o (λh=>hb (by simp[h])) e
 done:=λs Q E st hQ=>next_end hh st.1 st.2 S ld λh' he'=>hQ h' s.toks λb o hb e=>he' b o (λh=>hb (by simp[h])) e
 self:=λ_ _ _ _ st hQ=>DW st.1 hQ
def Jg(a:Addr):setDrawn a=(do
  let (es,_,t) <- setState a
  let Wf <- setsByText
  return (not Wf)&&((not t.plain)&&es.size > 1)):=rfl
def Jh{a:Addr}{o:Obj}{es:Array (Int×Value)}{ep:Nat}{t:SetTable}{Q:Value->Shared->Prop}(ho:s.heap.get? a=!o)(S:pN o es ep t)
  (hQ:Q (.ref s⁻¹) { s with heap:=s.heap.push { cls:=.type "set_iterator",data:=.fields ([.int 0 0,.int 0 0,.ref a,.int es.size 0,.int ep 0].toArray)}}) :
  wpAny (model prog w) A (pyIter (.ref a)) Q E s:=by
 have hT:s.TypeIs (.ref a) "set" :=#[_,ho,S.ex.1];apply wpAny_pyIter_slot hT F.slot_set_iter (u7 F.slot_set_iter hT pR ?_ (F.args_set_iter_1 _));apply aS (dC ?_);rw[Jg];apply aS (aS (aS (r6 ho S.data S.fits (dC (dC ?_)))));apply aS (aS (r6 ho S.data S.fits (aS (aS (AK (dC (dC ?_)))))));rw[S.plain];simp only[Bool.not_true,Bool.false_and,A8];apply aS (dC ?_);apply aS (aS (r6 ho S.data S.fits (dC ?_)));apply aS (tS (dC #[_,rfl, "set_iterator",_,#[_,eM _ rfl,rfl],bY.lookup,?_]));show hQ
end
end Sb
namespace Sb
open PySem PySem.W PyProof.Rows
section
variable{prog:Program}{w:World}{A:Around}{E:Value->Shared->Prop}{s:Shared}
def Ji(hT:s.TypeIs (.ref a) "set")(h:Q false s):wpAny (model prog w) A (Builtin.List.listLengthHint (.ref a)) Q E s:=by
 apply aS (Cc hT F.slot_set_len.lookup ?_);have e:splitId "set.__len__"=!("set", "__len__"):=by decide +kernel
 dsimp only;rw[e];apply aS (wpAny_isInstance hT sub_set_self ?_);simp only[Bool.not_true,t7,↓reduceIte];show aS (DI hT (dC h))
def wk{a:Addr}{o:Obj}{es:Array (Int×Value)}{ep:Nat}{t:SetTable}{Q:List Value->Shared->Prop}(hh:A.in1.handled=none)(ho:s.heap.get? a=!o)(S:pN o es ep t)(ld:w.params.followText "set-order"=false->t.led=true)(hn:es.size<=sizeLine)
  (hQ:∀s',Moved [] (λa b=>b=a) s s'->Q ((iu w a ep es).toList.map (·.2)) s'):wpAny (model prog w) A (collect (.ref a)) Q E s:=by
 have hlt:=fA ho;have hSa:=Nat.ne_of_gt hlt;apply aS (wpAny_runValue (AF F.entry_proto_collect ?_));apply aS (tS ?_);apply dC #[C4 F.plain_list_iadd _,AF F.entry_list_iadd ?_];have Fw:(s.heap.push { cls:=.type "list",data:=.seq ([]:List Value).toArray}).get? a=!o:=dE _ ho;exact wpAny _ A.in1 (Builtin.List.listExtendWith (.ref s⁻¹) (.ref a) (.ref s⁻¹)) _ _ _;apply aS (DI #[_,Fw,S.ex.1] ?_);have h1:Builtin.List.listSameRef (.ref s⁻¹) (.ref a)=false:=by simp[Builtin.List.listSameRef,hSa]
 have h2:(Value.type "set" == Value.type "list")=false:=by decide
 have h3:(Value.type "set" == Value.type "tuple")=false:=by decide
 simp only[h1];apply aS (Jh Fw S ?_);have hz:(s.heap.push { cls:=.type "list",data:=.seq ([]:List Value).toArray}).objs.size=s⁻¹+1:=CF ..;rw[hz];apply aS (nN ?_);apply Ji #[_,dE _ Fw,S.ex.1] ?_;apply aS (y8 ?_);generalize hH:((s.heap.push { cls:=.type "list",data:=.seq ([]:List Value).toArray}).push { cls:=.type "set_iterator",data:=.fields ([.int 0 0,.int 0 0,.ref a,.int es.size 0,.int ep 0].toArray)})=h0;have hS₁:h0.get? s⁻¹=some { cls:=.type "list",data:=.seq ([]:List Value).toArray}:=by rw[<- hH];show dE _ (eM _ rfl)
 have hI₁:h0.get? (s⁻¹+1)=some { cls:=.type "set_iterator",data:=.fields ([.int 0 0,.int 0 0,.ref a,.int es.size 0,.int ep 0].toArray)}:=by rw[<- hH,<- hz];show eM _ rfl
 have old:∀b o,s.heap.get? b=!o->h0.get? b=!o:=λb o e=>by
  rw[<- hH];show dE _ (dE _ e)
 apply aS ?_;apply aS (C3 hS₁ rfl ?_);have hS₂:=sR (Obj.mapSeq (·.push Value.none)) hS₁ rfl;apply C3 hS₂ rfl ?_;have hS₃:=sR (Obj.mapSeq (·.pop)) hS₂ rfl;have Jj:∀b o,b≠s⁻¹->h0.get? b=!o->
   ((h0.update s⁻¹ (Obj.mapSeq (·.push Value.none))).update s⁻¹ (Obj.mapSeq (·.pop))).get? b=!o:=
  λb o hb e=>(pE _ _ (AJ hb)).trans ((pE _ _ (AJ hb)).trans e)
 have W:=(DX (prog:=prog) hh (s⁻¹+1) a ⋯ S ld).toS;have sl0:iO w t 0=0:=by delta iO;split <;> rfl
 apply dC #[C4 F.plain_extend_loop _,codeAny_extend_loopS W hn _ (by simp;lia) _ es.size 0 _ _ _ rfl (oP _) #[#[_,Jj _ _ ⋯ hI₁,rfl,by rw[sl0];rfl],Jj _ _ ⋯ (old _ _ ho)] hS₃ (ItemsOf.nil _) λs' acc' c' hm hS' hacc=>?_]
 apply aS (wpAny_load hS' ?_);have e:acc'.toList=(iu w a ep es).toList.map (·.2):=by
  let(z1,z2):=hacc;refine BC;intro i;by_cases hi:i<acc'.size
  . let(e,e1,e2):=z2 i acc'[i] (rV hi);rw[nS,rV hi,mM,nS,e1,<- e2];rfl
  . rw[x5 (by simpa using hi),x5 (by rw[eA,eD,gW];lia)]
 apply dC ?_;rw[e];apply hQ s' #[λb o _ eb=>hm.heap b o ?_ (Jj b o ?_ (old b o eb)),hm.gens,hm.drawn,hm.os,hm.toks]
 . have:=fA eb;simp only[eC,not_or];show#[by lia,by lia]
 . have:=fA eb;lia
def DY{v:Value}{vs:List Value}{R:Shared->Prop}{Q:Value->Shared->Prop}(hz:vs.length<=sizeLine)(go:wpAny (model prog w) A.in1 (collect v) (λvs' s'=>vs'=vs/\R s') E s)
  (h:∀s',R s'->wpAny (model prog w) A.in1.in1 (Builtin.«list.sort» #[[.ref s'⁻¹],[]]) (λf s''=>f=.done (.ret .none)/\Q (.ref s'⁻¹) s'') E { s' with heap:=s'.heap.push (seqObj "list" vs.toArray 0)}) :
  wpAny (model prog w) A (call (.builtin "sorted") [v]) Q E s:=by
 apply CI kind_sorted plain_sorted entry_sorted (args_sorted1 _) ?_;apply aS (dC (aS (o5 go ?_ λ_ _ z=>z)))
 rintro _ s' ⟨rfl,hr⟩;apply aS (CB ?_ hz);apply aS (nN (u7 slot_list_sort #[_,eM _ rfl,rfl] entry_list_sort (o5 (h s' hr) (λf s'' hf=>#[_,hf.1,?_]) λ_ _ z=>z) (args_list_sort _)))
 show dC #[_,rfl,hf.2]
end
end Sb
namespace Nk
open PySem PySem.W
end Nk
namespace Nk
open PySem PySem.W
abbrev KeysR(h:Heap)(xs:List (Pn×Addr)):Prop:=∀x∈xs,mJ h x.1.1 x.2
abbrev drop(xs:List (Pn×Addr))(k:Pn):List (Pn×Addr):=xs.filter λx=>decide (x.1≠k)
end Nk
namespace Nk
open L2 Ev
abbrev Kf(K:Frag)(H:Hp)(k:Kt)(b:Addr):Prop:=∃M,Rep K M H (.tup (dT k)) (.ref b)
def uc:∀k:Kt,cI (dT k)=true
 |.nil=>rfl
 |.ci _ r=>by exact (true&&cI (dT r))=true;rw[uc r];rfl
 |.ct a r=>by exact (cI (dT a)&&cI (dT r))=true;rw[uc r,uc a];rfl
def Wg:∀{vs:List Value},jc h (dT k) vs->IsT h k vs:=by
 induction k with
 |nil=>intro vs x;cases x;rfl
 |ci i r ir=>intro vs x;cases x with |cons a b=>cases a with |int i t=>show⟨t,_,rfl,ir b⟩
 |ct a r ia ir=>
  intro vs x;cases x with |cons p b=>cases p with |tup h q=>
   let(o,e,c,n,d):=h;show#[_,_,rfl,#[o,_,n,e,c,d,by simpa using ia q],ir b]
section
variable{X:Cx}{aj: ~~~1}{J:Sg}{H:Hp}{s:Shared}{D:Addr}{xs:List (Pn×Addr)}
def Kf.is(I: ~~~7)(x:Kf X.K H k b):mJ s.heap k b:=by
 let(M,q):=x;have:=q.dv I (u:=.ref b) rfl (uc k);cases this with |tup h q=>
  let(o,e,c,n,d):=h;show#[o,_,n,e,c,d,by simpa using Wg q]
abbrev wu(K:Frag)(H:Hp)(xs:List (Pn×Addr)):Prop:=∀x∈xs,Kf K H x.1.1 x.2
def wu.is(I: ~~~7)(x:wu X.K H xs):KeysR s.heap xs:=λy hy=>(x y hy).is I
abbrev putN(xs:List (Pn×Addr))(k:Pn)(c:Addr):List (Pn×Addr):=if k∈xs.map (·.1)then xs else xs++[(k,c)]
end
end Nk
namespace Nk
open PySem Sb
section
variable{prog:Program}{w:World}{A:Around}{E:Value->Shared->Prop}{s:Shared}
meta abbrev enS(x:Pn×Addr):Int×Value:=(YH x.1.1,.ref x.2)
abbrev TO(w:World)(xs:List (Pn×Addr))(o:Obj):Prop:=o.ExactSet/\∃es ep t,SetT o es ep t/\(w.params.followText "set-order"=false->t.led=true)/\(xs.map (·.1)).Nodup/\es.toList.Perm (xs.map enS)
abbrev Wh(h:Heap)(xs:List (Pn×Addr)):Prop:=∀x∈xs,mJ h x.1.1 x.2
def Jk(hw:w.params.followText "set-order"=false->led=true):TO w [] { cls:=.type "set",dict:=none,data:=.set ([].toArray) 0 (.fresh 0 0 led)}:=by apply#[#[rfl,rfl,rfl],([].toArray),0,_,#[#[rfl,rfl,rfl],rfl,DT _ _,dA,?_,rfl],hw,AC,.nil];exact 0 * 5<7 * 3;decide
def Wi(hu:A.units+4<cLine)(ho:s.heap.get? a=!o)(hT:TO w xs o)(hR:Wh s.heap xs)(hk:mJ s.heap k.1 b)(hn:xs.length<1000)
  (q:∀b' h' o',Heap.SameBut a s.heap h'->h'.get? a=!o'->TO w (putN xs k b) o'->Q b' { s with heap:=h'}) :
  wpAny (model prog w) A (setAddHashed a (.ref b) (YH k.1)) Q E s:=by
 have hT0:=hT;let(ex,es,ep,t,S,ld,nd,pm):=hT;have uJ:es.size=xs.length:=by rw[<- eD,pm.length_eq,eA]
 have mem:∀{e},(∃i:Nat,es[i]?=!e) ↔ ∃x∈xs,enS x=e:=λ{e}=>by
  rw[<- eQ,<- pm.mem_iff];constructor
  . rintro⟨i,hi⟩;show Bn.mpr (Array.mem_of_getElem? hi)
  . intro he;let(i,hi,ei):=Array.getElem_of_mem (Bn.mp he);show#[i,by rw[rV hi,ei]]
 classical
 apply nN (OD (DN:=λi=>decide (∃c,es[i]?=!(enS (k,c))/\(k,c)∈xs)) ho S rfl ⋯ (λ_ l' Q' hl' hq=>O1 hk (λy hy=>?_) hq) (λi y hy=>?_) (λQ' hq=>Wd k.1 (by have:=k.2;lia) hk hq) (λhq=>?_) (λhq h' es' uP t' sb hg S' pm' l'=>?_) _)
 . let((k',c),hx,e):=mem.mp (hl' y hy);show#[c,k',(congrArg Prod.snd e).symm,hR _ hx]
 .
  let((k',c),hx,e):=mem.mp #[i,hy];have e3:=congrArg Prod.snd e;subst e3;apply#[#[c,rfl],λQ' hq=>V9 k'.2 hu (hR _ hx) hk ?_]
  have:decide (k'.1=k.1)=decide (∃c,es[i]?=!(enS (k,c))/\(k,c)∈xs):=by
   refine decide_eq_decide.mpr;constructor
   . intro z;obtain rfl:k'=k:=Subtype.ext z;show#[c,hy,hx]
   . rintro⟨c',he,hx'⟩;rw[hy]at he;have:=congrArg Prod.snd (oQ he);injection this with this;subst this;show Ol (hR _ hx) (hR _ hx')
  rw[this];show hq
 . let(i,_,_,hd):=hq;let(c,_,hx):=t5 hd;show q false s.heap o (Heap.SameBut.refl a s.heap) ho (by delta putN;rw[fR (eQ.mpr #[_,hx,rfl])];show hT0)
 .
  have hnk:k∉xs.map (·.1):=λhin=>by
   let((k',c),hx,rfl):=eQ.mp hin;let(i,gi):=mem.mpr #[_,hx,rfl];have hi:=(AV.mp gi).1;have hh:pQ es i=YH k'.1:=by delta pQ;rw[gi];rfl
   show absurd #[c,gi,hx] (of_decide_eq_false (hq i hi hh))
  apply q true h' _ sb hg ?_;delta putN;rw[eR hnk];apply#[S'.ex,es',uP,t',S',λhw=>l'.trans (ld hw),?_,?_]
  .
   rw[AH,yA];apply#[nd,by simp,λx hx y hy=>?_]
   rw[eP.mp hy];rintro rfl;show hnk hx
  . rw[AH];show pm'.trans (pm.append_right _)
def Ea(hu:A.in1.units+4<cLine)(ho:s.heap.get? a=!o)(hT:TO w xs o)(hR:Wh s.heap xs)(hk:mJ s.heap k.1 b)(hn:xs.length<1000)
  (q:∀h' o',Heap.SameBut a s.heap h'->h'.get? a=!o'->TO w (putN xs k b) o'->Q .none { s with heap:=h',toks:=s.toks+(tT k.1+1)}) :
  wpAny (model prog w) A (call (.builtin "set.add") [.ref a,.ref b]) Q E s:=by
 apply u7 F.slot_set_add #[o,ho,hT.1.1] F.entry_set_add ?_ (F.args_set_add_2 _ _);delta Builtin.«set.add» Builtin.Frozenset.oneOther;simp only[List.isEmpty_nil,bind_assoc];apply aS (dC ?_)
 try dsimp only
 apply aS (dC ?_)
 try dsimp only
 apply aS ?_;apply nN ?_;apply aS (Om k.1 (by have:=k.2;lia) hk ?_)
 apply Wi hu ho hT hR hk hn λb' h' o' sb e x=>?_
 show dC #[_,rfl,q h' o' sb e x]
end
end Nk
namespace Sb
open PySem PyProof.Rows
end Sb
namespace Sb
open PySem PyProof.Rows
end Sb
namespace L2
open Sb
section
variable{prog:Program}{w:World}{A:Around}{R:Result->Shared->Prop}{s:Shared}
def jk{bE t1 i1:Expr}{f1:List Expr}{aD:List Comprehension}{scope:Scope}{pos:Pos}{it acc:Value}{env:Env}
  (h0:codeAny (model prog w) A (.compLoop (.SetComp bE (#[t1,i1,f1,0]::aD) scope pos) 0 it acc env) R s)
  (h:wpAny (model prog w) A (pyIter it) (λit' s'=>codeAny (model prog w) A (.compLoop (.SetComp bE (#[t1,i1,f1,0]::aD) scope pos) 0 it' acc env) R s') (notedBy (model prog w) A env λx s'=>R (.error x) s') s) :
  codeAny (model prog w) A (.compStart (.SetComp bE (#[t1,i1,f1,0]::aD) scope pos) 0 it acc env) R s:=by
 apply codeAny_of_tree ?_;apply wpAny_notedAt ?_;apply aS (AK (wpAny_ite ?_));split
 .
  first
   |show aS (dC (dC (And.intro rfl h0)))
   |show dC (And.intro rfl h0)
 .
  first
   |show aS (y8 (aS (wT (aS (o5 h (λit' s' h'=>dC (And.intro rfl h')) λ_ _ x=>x)))))
   | (apply aS (y8 ?_);exact wpAny _ _ (standAt i1.pos >>= _) _ _ s;show aS (wT (aS (o5 h (λit' s' h'=>dC (And.intro rfl h')) λ_ _ x=>x))))
end
meta abbrev Jl (bE:Expr) (acc:Value) (env:Env):Sem Unit:=do
 let v <- eval bE env
 standAt bE.pos
 let _ <- call (.builtin "set.add") [acc,v]
def O4{prog:Program}{w:World}{A:Around}{E Q:Value->Shared->Prop}{s:Shared}
  (h:Q (.ref s⁻¹) { s with heap:=s.heap.push { cls:=.type "set",dict:=none,data:=.set ([].toArray) 0 (.fresh 0 0 ((not (w.params.followText "set-order"))))}}):wpAny (model prog w) A (newSet (.type "set")) Q E s:=by
 apply aS (aS (AK (dC ?_)));show aS (wpAny_alloc (dC h))
end L2
namespace Nk
open L2 Ev Sb
meta abbrev tD (w:World) (xs:List (Pn×Addr)):HO:=.set (TO w xs)
abbrev Jm(K:Frag)(w:World)(D:Addr)(te:TE):TU:=λJ H Q=>te J H λv H5=>∃(b:Addr) (k:Pn) (xs:List (Pn×Addr)),v=.ref b/\H5 D=!(tD w xs)/\Kf K H5 k.1 b/\wu K H5 xs/\xs.length<1000/\Q J (upd H5 D (tD w (putN xs k b)))
def O5{X:Cx}{D:Addr}{bE:Expr}{te:TE}(hu:X.A.units+6<cLine)(he:PE X bE te)(hx:X.xe=λ_ _=>False):PU X (Jl bE (.ref D) X.env) (Jm X.K X.w D te):=by
 intro aj s J H Q I h;have he:=he aj s J H _ I h;rw[hx]at he;apply aS (o5 he (?_) λ_ _ z=>z)
 rintro y s8 ⟨v,H8,I8,r8,b,k,xs,rfl,hD8,hk8,hy8,hn8,q8⟩;obtain rfl:y=Value.ref b:=r8;let(o,ho,hT):=I8.hok D _ hD8;show aS (wT (aS (Ea (by simp only[in1_units];lia) ho hT (hy8.is I8) (hk8.is I8) hn8 λh' o' sb e x=>dC #[J,_,I8.write (o:=tD X.w (putN xs k b)) (by rw[hD8];trivial) (.inl rfl) (λb u hb e=>(sb.2 b hb).trans e) #[o',e] #[o',e,x],q8])))
section
variable{X:Cx}{tg iter bE:Expr}{ifs:List Expr}{scope:Scope}{pos:Pos}
def Wj:compTurn (.SetComp bE [#[tg,iter,ifs,0]] scope pos) 0 it acc env=kU (.SetComp bE [#[tg,iter,ifs,0]] scope pos) tg iter ifs 0 it acc env (Jl bE acc env):=by
 congr 1
def O6:Ck X (.SetComp bE [#[tg,iter,ifs,0]] scope pos) tg iter ifs [] (newSet (.type "set")) (tD X.w []) (Jl bE) where
 cls:=rfl
 und:=λ_ _ _ _ _ _ _=>#[rfl,rfl]
 turn:=λit D env=>Wj
 new:=#[_,rfl,λh=>O4 h,λ_ _ _ e _=>#[_,e,Jk λhw=>by rw[hw];rfl]]
 start:=jk
def Eb{N':List Str}{k:Nat}{w1:TI}{g1:Bk->TG}{Rr:Bk->TT}{te:Bk->TE}(hu:∀b:Bk,(X.blk N' scope b).A.units+6<cLine)(B:bH X.env.scope scope)(hc:X.calm=true)(hN:Names X.N N' scope k)(hi:PI X tg iter w1)
  (hin:∀b:Bk,PG (X.blk N' scope b) tg (g1 b)/\jP (X.blk N' scope b) ifs (Rr b)/\PE (X.blk N' scope b) bE (te b))
  (hs:∀x,foldedSetIterable iter X.env x=pure x) :
  PE X (.SetComp bE [#[tg,iter,ifs,0]] scope pos) (tE (tD X.w []) X k w1 g1 Rr λD b=>Jm X.K X.w D (te b)):=by
 intro aj s J H Q I h;apply gj B hc hN hi O6 (λb D=>#[(hin b).1,(hin b).2.1,O5 (hu b) (hin b).2.2 rfl]) hs I h λs' H' D C m I' f' hn q=>?_
 apply#[m,hn,λh' sb=>#[.ref D,H',?_,rfl,q]]
 let(f0,f1,f2,f3,f4,f5):=f';show I'.turned (λb o hb e=>(sb.2 b hb).trans e) f0 f1 f3 f4 f5
end
end Nk
namespace Ev
open L2
abbrev zU(z:Z)(D:Addr)(u:HO):Z:={ z with H0:=upd z.H0 D u,M0:=D::z.M0}
section
variable{z:Z}{D:Addr}{u v:HO}{g:G}{J:Sg}{As M:List Addr}{H:Hp}
structure Jo(z:Z)(D:Addr):Prop where
 h0:z.H0 D=none
 m0:∀m∈z.M0,z.H0 m≠none
 bm:∀b∈z.B,b∈z.M0
 tm:∀p∈z.T,p.1∈z.M0
def Jo.of(s:S z g J As M H)(h:H D=none):Jo z D:=#[s.cS h,s.m0,s.bm,s.tm]
def Jo.nB(d:Jo z D):D∉z.B:=λh=>d.m0 _ (d.bm _ h) d.h0
def Jo.nT(d:Jo z D):D∉z.TA:=λh=>by
 let(p,hp,rfl):=eQ.mp h;show d.m0 _ (d.tm _ hp) d.h0
def S.toU(s:S z g J As M H)(d:Jo z D)(hm:D∈M)(h:H D=!u)(hu:∀xs,u≠.lst xs):S (zU z D u) g J As M H where
 sl:=s.sl
 nd:=s.nd
 sub:=s.sub
 own:=λi a l e1 e2=>by
  rcases s.own i a l e1 e2 with q |q
  . show .inl q
  .
   let(a',xs,f1,_,f3,_):=s.sl.at e1;rw[e2]at f1;injection f1 with f1;injection f1 with f1;injection f1 with f1;subst f1;apply .inr ?_;exact upd z.H0 D u a=none;rw[aB (λe=>by rw[e,h]at f3;show hu _ (oQ f3))]
   show q
 live:=s.live
 keep:=λb o e hb ht=>by
  by_cases eb:b=D
  . subst eb;have e:upd z.H0 b u b=!o:=e;rw[aF]at e;rw[h,e]
  . have e:upd z.H0 D u b=!o:=e;rw[aB eb]at e;show s.keep b o e hb ht
 jL:=λm hm'=>by
  rcases eC.mp hm' with rfl |hm'
  . show hm
  . show s.jL m hm'
 m0:=λm hm'=>by
  exact upd z.H0 D u m≠none;by_cases eb:m=D
  . subst eb;rw[aF];show λe=>nomatch e
  .
   rw[aB eb];rcases eC.mp hm' with e |hm'
   . show absurd e eb
   . show s.m0 m hm'
 bm:=λb hb=>b0 _ (s.bm b hb)
 jj:=s.jj
 tab:=s.tab
 tm:=λp hp=>b0 _ (s.tm p hp)
 tt:=s.tt
def S.ofU(s:S (zU z D u) g J As M H)(d:Jo z D):S z g J As M H where
 sl:=s.sl
 nd:=s.nd
 sub:=s.sub
 own:=λi a l e1 e2=>by
  rcases s.own i a l e1 e2 with q |q
  . show .inl q
  .
   have q:upd z.H0 D u a=none:=q;by_cases eb:a=D
   . subst eb;rw[aF]at q;cases q
   . rw[aB eb]at q;show .inr q
 live:=s.live
 keep:=λb o e hb ht=>s.keep b o (by
  exact upd z.H0 D u b=!o;rw[aB (λeb=>by rw[eb,d.h0]at e;cases e)]
  show e) hb ht
 jL:=λm hm=>s.jL m (b0 _ hm)
 m0:=d.m0
 bm:=d.bm
 jj:=s.jj
 tab:=s.tab
 tm:=d.tm
 tt:=s.tt
def O7{K:Frag}(q:Slots K M H g J As):D∈As->∃xs,H D=!(.lst xs):=by
 induction q with
 |nil=>show λh=>nomatch h
 |no _ ih=>show ih
 |dat _ _ ih=>show ih
 |own e _ _ ih=>
  intro h;rcases eC.mp h with rfl |h
  . show#[_,e]
  . show ih h
def S.Wk(s:S (zU z D u) g J As M H)(d:Jo z D)(hu:∀xs,u≠.lst xs):H D=!u/\D∈M/\D∉As:=by
 have h1:=s.keep D _ (by exact upd z.H0 D u D=_;rw[aF]) d.nB d.nT
 apply#[h1,s.jL D dA,λhA=>?_]
 let(xs,e):=O7 s.sl hA;rw[h1]at e;show hu _ (oQ e)
def S.putU(s:S (zU z D u) g J As M H)(d:Jo z D)(hu:∀xs,u≠.lst xs)(hv:∀xs,v≠.lst xs)(gu:Uh u)(gv:Uh v):S (zU z D v) g J As M (upd H D v):=by let(h1,h2,h3):=s.Wk d hu;show ((s.ofU d).Gv (u1:=v) h2 h3 d.h0 h1 gu gv).toU d h2 aF hv
end
end Ev
namespace Sb
open PySem PySem.W PyProof.Rows Ev
end Sb
namespace Ev
open L2 Sb
abbrev yW(z z':Z):Prop:=z'.K=z.K/\z'.lent=z.lent
end Ev
namespace Nk
open L2 Ev Sb
meta abbrev zT (z:Z) (w:World) (D:Addr) (xs:List (Pn×Addr)):Z:=zU z D (tD w xs)
def wz:∀l,tD w xs≠.lst l:=λ_ e=>nomatch e
abbrev fj(ks:List Pn)(k:Pn):List Pn:=if k∈ks then ks else ks++[k]
def Jp(xs:List (Pn×Addr))(k:Pn)(b:Addr):(putN xs k b).map (·.1)=fj (xs.map (·.1)) k:=by
 delta putN fj;split
 . rfl
 . rw[AH];rfl
meta abbrev dK(k:Pn):Ev.D:=.tup (dT k.1)
abbrev gF(K:Frag)(M:List Addr)(H:Hp)(xs:List (Pn×Addr)):Prop:=∀x∈xs,Rep K M H (dK x.1) (.ref x.2)
def gF.f{K:Frag}{M:List Addr}{H:Hp}{xs:List (Pn×Addr)}(h:gF K M H xs):wu K H xs:=λx hx=>#[M,h x hx]
def gF.stay{K:Frag}{M M':List Addr}{H H':Hp}{xs:List (Pn×Addr)}(h:gF K M H xs)(st:aq M H M' H'):gF K M' H' xs:=λx hx=>(h x hx).stay st
def gF.put{K:Frag}{M:List Addr}{H:Hp}{xs:List (Pn×Addr)}{k:Pn}{b:Addr}(h:gF K M H xs)(q:Rep K M H (dK k) (.ref b)):gF K M H (putN xs k b):=by
 delta putN;split
 . show h
 .
  intro x hx;rcases l9.mp hx with hx |hx
  . show h x hx
  . rw[eP.mp hx];show q
inductive Lp(T:Tg)(mj:G->Bool->G->Prop)(xV:G->Ev.D->G->Prop):List Ev.D->List Pn->G->List Pn->G->Prop
 |nil {ks:List Pn}{g:G}:Lp T mj xV [] ks g ks g
 |skip:T.set d g=!g1->mj g1 false g2->Lp T mj xV l ks g2 ks' g'->Lp T mj xV (d::l) ks g ks' g'
 |take {d:Ev.D}{l:List Ev.D}{k:Pn}{ks ks':List Pn}{g g1 g2 g3 g':G}:T.set d g=!g1->mj g1 true g2->xV g2 (dK k) g3->ks.length<1000->Lp T mj xV l (fj ks k) g3 ks' g'->Lp T mj xV (d::l) ks g ks' g'
section
variable{X:Cx}{z:Z}{tg iter bE:Expr}{ifs:List Expr}{scope:Scope}{pos:Pos}{N':List Str}{k:Nat}{T:Tg}{items:List Ev.D}{ks:List Pn}{g g1 gE:G}
abbrev SetK(X:Cx)(z:Z)(e:Expr)(g:G)(ks:List Pn)(g':G):Prop:=
 ∃t,PE X e t/\∀J As M H (Q:VK),S z g J As M H->(∀D xs H' aE M',S z g' J aE M' H'->aq M H M' H'->H' D=!(tD X.w xs)->xs.map (·.1)=ks->gF z.K M' H' xs->Q (.ref D) H')->t J H Q
def yX(hK:z.K=X.K)(hw:dR X z tg iter g items g1)(ht:∀(b:Bk) z',yW z z'->gw (X.blk N' scope b) z' tg T)(hT:∀i∈T.ix,g1.length<=i/\i<g1.length+k)
  (hcp:Lp T (λg b g'=>∀(bk:Bk) z',yW z z'->cu (X.blk N' scope bk) z' ifs g b g') (λg d g'=>∀(bk:Bk) z',yW z z'->aA (X.blk N' scope bk) z' bE g (.dat d) g') items [] (gD k g1) ks gE) :
  ∃wi,PI X tg iter wi/\∀J As M H Q,S z g J As M H->(∀D xs H' aE M',S z (gE.take g1.length) J aE M' H'->aq M H M' H'->H' D=!(tD X.w xs)->xs.map (·.1)=ks->gF z.K M' H' xs->Q (.ref D) H')->
   tE (tD X.w []) X k wi (λb=>CZ (X.blk N' scope b) tg) (λb=>Dc (X.blk N' scope b) ifs) (λD b=>Jm X.K X.w D (G6 (X.blk N' scope b) bE)) J H Q:=by
 let(wi,q,kw):=hw;apply#[wi,q,λJ As M H Q s kq=>kw J As M H _ s λqqq H1 bu M1 s1 dN hJ D hD=>?_]
 have hl:=s1.sl.length;have hz:∀p∈z.lent,p.1<J.length:=λp hp=>(dL.mp (s1.jj p hp).1).1
 have Vq:∀i∈T.ix,J.length<=i:=λi hi=>by rw[<- hl];show (hT i hi).1
 have d0:Jo z D:=.of s1 hD;have ze:∀xs,yW z (zT z X.w D xs):=λ_=>#[rfl,rfl]
 have sb:=((s1.Ru (u0:=tD X.w []) trivial hD).toU d0 dA aF wz).wide (List.replicate k none++[!(V.ref D)]);rw[show (List.replicate k (none:Option V)++[!(V.ref D)]).length=k+1 by simp]at sb
 apply jU hJ (λl σ' H'=>∃gb Ab Mb τ xs,S (zT z X.w D xs) gb σ' Ab Mb H'/\aq M1 H1 Mb H'/\σ'=J++τ/\gF z.K Mb H' xs/\Lp T (λg b g'=>∀(bk:Bk) z',yW z z'->cu (X.blk N' scope bk) z' ifs g b g') (λg d g'=>∀(bk:Bk) z',yW z z'->aA (X.blk N' scope bk) z' bE g (.dat d) g') l (xs.map (·.1)) gb ks gE)
  #[_,_,_,_,[],sb,aq.bw hD,rfl,(λx hx=>nomatch hx),hcp] (by rintro _ _ _ ⟨_,_,M2,_,_,_,aJ,_⟩;show#[M2,aJ]) ?_ ?_
 . rintro σ' H' ⟨gb,Ab,Mb,τ,xs,s2,aJ,rfl,ky,cp⟩;generalize hk:xs.map (·.1)=ka at cp;cases cp;let(f1,_,_):=s2.Wk d0 wz;let(A1,s3,n3):=(s2.ofU d0).narrow hz;rw[<- hl]at s3;show kq _ xs H' A1 Mb s3 (dN.trans aJ) f1 hk ky
 .
  rintro d l σ' H' ⟨gb,Ab,Mb,τ,xs,s2,aJ,rfl,ky,cp⟩ x H2 yl bk _;let(s3,cH,rx):=yl Mb aJ (zT z X.w D xs) gb (J++τ) Ab rfl s2;let(t,qt,kt):=ht bk _ (ze xs);generalize hk:xs.map (·.1)=ka at cp;cases cp with
  |skip e0 hc aD=>
   apply#[t,qt,kt d gb _ e0 x _ Ab Mb H2 _ s3 rx λσ4 iJ s4 ag=>?_]
   let(τ',rfl):=cO ag Vq;let(t2,q2,k2):=hc bk _ (ze xs);apply#[t2,q2,k2 _ iJ Mb H2 _ s4 λH5 zZ M5 s5 jq=>?_]
   show oq #[_,zZ,M5,τ',xs,s5,(aJ.trans cH).trans jq,rfl,(ky.stay cH).stay jq,hk▸aD]
  |@take _ _ kk _ _ _ _ _ _ _ e0 hc he hn aD=>
   apply#[t,qt,kt d gb _ e0 x _ Ab Mb H2 _ s3 rx λσ4 iJ s4 ag=>?_]
   let(τ',rfl):=cO ag Vq;let(t2,q2,k2):=hc bk _ (ze xs);let(t3,q3,k3):=he bk _ (ze xs);apply#[t2,q2,k2 _ iJ Mb H2 _ s4 λH5 zZ M5 s5 jq=>jO #[t3,q3,k3 _ zZ M5 H5 _ s5 λv H6 Vr M6 s6 RB R6=>?_]]
   have R7:=R6;have R8:=R7;cases R8 with
   |@tup _ b _ _ _=>
    let(f1,f2,f3):=s6.Wk d0 wz;have ky6:=((ky.stay cH).stay jq).stay RB;have aN:xs.length<1000:=by rw[<- hk,eA]at hn;show hn
    apply#[b,kk,xs,rfl,f1,#[M6,hK▸R7],hK▸ky6.f,aN,_,Vr,M6,τ',putN xs kk b,s6.putU d0 wz wz trivial trivial,(((aJ.trans cH).trans jq).trans RB).trans (aq.write f2),rfl,(ky6.put R7).stay (aq.write f2),?_];rw[Jp,hk];show aD
def O8(hu:∀b:Bk,(X.blk N' scope b).A.units+6<cLine)(hK:z.K=X.K)(B:bH X.env.scope scope)(hc:X.calm=true)(hN:Names X.N N' scope k)(hw:dR X z tg iter g items g1)(ht:∀(b:Bk) z',yW z z'->gw (X.blk N' scope b) z' tg T)(hT:∀i∈T.ix,g1.length<=i/\i<g1.length+k)
  (hcp:Lp T (λg b g'=>∀(bk:Bk) z',yW z z'->cu (X.blk N' scope bk) z' ifs g b g') (λg d g'=>∀(bk:Bk) z',yW z z'->aA (X.blk N' scope bk) z' bE g (.dat d) g') items [] (gD k g1) ks gE)
  (hs:∀x,foldedSetIterable iter X.env x=pure x):SetK X z (.SetComp bE [#[tg,iter,ifs,0]] scope pos) g ks (gE.take g1.length):=by
 let(wi,q,kk):=yX hK hw ht hT hcp;show#[_,Eb hu B hc hN q (λb=>#[jw,jx,oW]) hs,kk]
end
end Nk
namespace Nk
open Ev
abbrev jA:Kt->Kt->Bool
 |.nil,.nil=>false
 |.nil,_=>true
 |_,.nil=>false
 |.ci i r,.ci j s=>if i=j then jA r s else decide (i<j)
 |.ct a r,.ct b s=>if a=b then jA r s else jA a b
 |.ci _ _,.ct _ _=>true
 |.ct _ _,.ci _ _=>false
def Bc(a:Kt):jA a a=false:=by
 induction a with
 |nil=>rfl
 |ci i r ih=>delta jA;rw[fR rfl,ih]
 |ct a r _ ih=>delta jA;rw[fR rfl,ih]
def O9(a:Kt):∀b,jA a b=false->jA b a=false->a=b:=by
 induction a with
 |nil=>intro b h k;cases b <;> first |rfl |symm
 |ci i r ih=>
  intro b h k;cases b with
  |nil=>cases k
  |ci j s=>
   delta jA at h k;by_cases e:i=j
   . subst e;rw[fR rfl]at h k;rw[ih s h k]
   . rw[eR e]at h;rw[eR (AJ e)]at k;show absurd ⋯ e
  |ct _ _=>symm
 |ct a r ia ih=>
  intro b h k;cases b with
  |nil=>cases k
  |ci j s=>cases k
  |ct b s=>
   delta jA at h k;by_cases e:a=b
   . subst e;rw[fR rfl]at h k;rw[ih s h k]
   . rw[eR e]at h;rw[eR (AJ e)]at k;show absurd (ia b h k) e
def Wm(a:Kt):∀b c,jA a b=true->jA b c=true->jA a c=true:=by
 induction a with
 |nil=>
  intro b c h k;cases c with
  |nil=>cases b <;> cases k
  |ci _ _=>rfl
  |ct _ _=>rfl
 |ci i r ih=>
  intro b c h k;cases b with
  |nil=>symm
  |ci j s=>
   cases c with
   |nil=>cases k
   |ct _ _=>rfl
   |ci l t=>
    delta jA at h k ⊢
    by_cases e:i=j
    .
     subst e;rw[fR rfl]at h;by_cases e2:i=l
     . rw[fR e2]at k ⊢;show ih s t h k
     . rw[eR e2]at k ⊢;show k
    .
     rw[eR e]at h;have h:=t5 h;by_cases e2:j=l
     . subst e2;rw[eR e];show oC h
     . rw[eR e2]at k;rw[eR ⋯];show oC ⋯
  |ct b s=>cases c <;> first |cases k |rfl
 |ct a r ia ih=>
  intro b c h k;cases b with
  |nil=>symm
  |ci j s=>symm
  |ct b s=>
   cases c with
   |nil=>cases k
   |ci _ _=>cases k
   |ct l t=>
    delta jA at h k ⊢
    by_cases e:a=b
    .
     subst e;rw[fR rfl]at h;by_cases e2:a=l
     . rw[fR e2]at k ⊢;show ih s t h k
     . rw[eR e2]at k ⊢;show k
    .
     rw[eR e]at h;by_cases e2:b=l
     . subst e2;rw[eR e];show h
     .
      rw[eR e2]at k;have hx:=ia b l h k;rw[eR λe3=>by rw[e3,Bc]at hx;cases hx]
      show hx
abbrev iC:o9 Kt:=#[jA,Bc,λa b c=>Wm a b c,λa b=>O9 a b]
abbrev xZ:Kt->Kt->Bool
 |.nil,_=>true
 |_,.nil=>true
 |.ci _ r,.ci _ s=>xZ r s
 |.ct a r,.ct b s=>xZ a b&&xZ r s
 |_,_=>false
def lt_kt:∀{A:Around}{k2:Kt}{us ws:List Value},jc s.heap (dT k1) us->jc s.heap (dT k2) ws->xZ k1 k2=true->A.units+dep k1+1<cLine->SX A s us ws (jA k1 k2):=by
 induction k1 with
 |nil=>
  intro A k2 us ws x y _ _;cases x;cases k2 with
  |nil=>cases y;show .nn
  |ci _ _=>cases y;show .nc
  |ct _ _=>cases y;show .nc
 |ci i r ih=>
  intro A k2 us ws x y c hu;cases x with |cons a b=>
  cases k2 with
  |nil=>cases y;show .cn
  |ct _ _=>cases c
  |ci j s'=>
   cases y with |cons a' b'=>
   cases a;cases a';ext t t';let(e,he,hi):=HT.jN A s i t j t';delta jA;cases e with
   |true=>rw[fR (hi.mp rfl)];show .eq he (ih b b' c hu)
   |false=>
    rw[eR λz=>t6 (hi.mpr z)]
    show .ne he λprog w E Q h=>HT.nY A s i t j t' prog w E Q h
 |ct a r ia ih=>
  intro A k2 us ws x y c hu;have hd:A.units+max (dep a+1) (dep r)+1<cLine:=hu;cases x with |cons p b=>
  cases k2 with
  |nil=>cases y;show .cn
  |ci _ _=>cases c
  |ct a2 s'=>
   cases y with |cons p' b'=>
   let(c1,c2):=(eI _ _).mp (show (xZ a a2&&xZ r s')=true from c);have he:=(oK (A:=A) (dep a+1) (by exact deps (dT a)+1<=_;rw[Ip];show d5 _) p p' ⋯).1
   rw[show cL (.tup (dT a)) (.tup (dT a2))=decide (a=a2)from RV a2]at he
   delta jA;by_cases e:a=a2
   . rw[oC e]at he;rw[fR e];show .eq he (ih b b' c2 ⋯)
   .
    rw[wE e]at he;rw[eR e];cases p with |tup i1 v1=>
    cases p' with |tup i2 v2=>
    show .ne he (nD i1 i2 (ia v1 v2 c1 (by rw[in1_units];lia)) ⋯)
end Nk
namespace Ev
open L2
mutual
abbrev pkE:D->Option (Nk.Kt->Nk.Kt)
 |.int i=>!(.ci i)
 |.tup l=>match Ec l with |some a=>!(.ct a) |none=>none
 |_=>none
abbrev Ec:List D->Option Nk.Kt
 | []=>some .nil
 |d::l=>match pkE d with
  |some f=>(match Ec l with |some r=>!(f r) |none=>none)
  |none=>none
end
def pW(h:Ec (d::l)=!k):∃r,Ec l=!r/\((∃i,d=.int i/\k=.ci i r)\/∃m a,d=.tup m/\Ec m=!a/\k=.ct a r):=by
 delta Ec at h;split at h
 .
  ext f hf;split at h
  .
   ext r hr;symm;apply#[r,hr,?_];delta pkE at hf;split at hf
   . cases hf;show .inl #[_,rfl,rfl]
   .
    split at hf
    . ext ha;cases hf;show .inr #[_,_,rfl,ha,rfl]
    . cases hf
   . cases hf
  . symm
 . symm
def Wn:∀{l:List D},Ec l=!k->Nk.dT k=l:=by
 induction k with
 |nil=>
  intro l h;cases l with
  |nil=>rfl
  |cons d l=>obtain⟨r,_,⟨_,_,e⟩ |⟨_,_,_,_,e⟩⟩:=pW h <;> cases e
 |ci i r ir=>
  intro l h;cases l with
  |nil=>symm
  |cons d l=>
   obtain⟨r,hr,⟨_,rfl,e⟩ |⟨_,_,_,_,e⟩⟩:=pW h
   . cases e;exact D.int _::Nk.dT _=_;rw[ir hr]
   . cases e
 |ct a r ia ir=>
  intro l h;cases l with
  |nil=>symm
  |cons d l=>
   obtain⟨r,hr,⟨_,_,e⟩ |⟨m,_,rfl,hm,e⟩⟩:=pW h
   . cases e
   . cases e;exact D.tup (Nk.dT _)::Nk.dT _=_;rw[ir hr,ia hm]
abbrev YJ(k:Nk.Kt):D:=.tup (Nk.dT k)
end Ev
namespace Sb
open PySem PyProof.Rows
section
variable{prog:Program}{w:World}{A:Around}{s s':Shared}{K:Type} [DecidableEq K] {knd:KeyKind prog w K}{B:List K->Addr->Prop}{R:Result->Shared->Prop}{I:Addr}{fp wr:List Addr}{G:Array GenState->Array GenState->Prop}{n:Nat}{P:Nat->Value->Prop}{St:Nat->Shared->Prop}
abbrev more(ks:List (List K))(k:List K):List (List K):=if k∈ks then ks else ks++[k]
abbrev met(val:Nat->List K):Nat->List (List K)
 | 0=>[]
 |i+1=>more (met val i) (val i)
end
end Sb
namespace Sb
open PySem PyProof.Rows
end Sb
namespace Sb
open PySem PyProof.Rows
end Sb
namespace Sb
open PySem PyProof.Rows
end Sb
namespace Sb
open PySem PySem.W PyProof.Rows Ev
def Ed{α β:Type}{f:α->β}{l1 l:List β}(h:l1.Perm l):∀{pl:List α},pl.map f=l->∃V8:List α,V8.Perm pl/\V8.map f=l1:=by
 induction h with
 |nil=>show λ{pl} e=>#[pl,.refl _,e]
 |cons x _ ih=>
  intro pl e;cases pl with
  |nil=>cases e
  |cons p pl=>rw[List.map_cons]at e;injection e with e1 e2;let(V8,q1,q2):=ih e2;show#[p::V8,q1.cons p,by rw[List.map_cons,q2,e1]]
 |swap x y l=>
  intro pl e
  match pl,e with
  | [],e=>cases e
  | [_],e=>cases e
  |p::q::pl,e=>rw[List.map_cons,List.map_cons]at e;injection e with e1 e2;injection e2 with e2 e3;show#[q::p::pl,List.Perm.swap ..,by rw[List.map_cons,List.map_cons,e1,e2,e3]]
 |trans _ _ ih1 ih2=>intro pl e;let(p1,q1,q2):=ih2 e;let(p2,q3,q4):=ih1 q2;show#[p2,q3.trans q1,q4]
section
variable{prog:Program}{w:World}{A:Around}{E:Value->Shared->Prop}{s:Shared}{B: ~~~0->Addr->Prop}
abbrev adr(p: ~~~0×(Int×Value)):Addr:=match p.2.2 with |.ref b=>b |_=>0
end
end Sb
namespace Nk
open PySem PySem.W PySem.Spec PyProof.Rows L2 Ev Sb
section
variable{prog:Program}{w:World}{A:Around}{E:Value->Shared->Prop}{s:Shared}
def Pa(h:SX A s vs ws b):∀(i:Nat),fin=decide (vs.length<ws.length)->Q b s->KatLex prog w A true fin Q (vs.zip ws) (i+1) s:=by
 induction h with
 |nn=>intro i hf q;show kat_nil (by rw[hf];show q)
 |nc=>intro i hf q;show kat_nil (by rw[hf];simpa using q)
 |cn=>intro i hf q;show kat_nil (by rw[hf];simpa using q)
 |eq he _ ih=>intro i hf q;show kat_cons (he prog w _ _ (kat_yes (ih (i+1) (by rw[hf];simp) q)))
 |ne he hl=>intro i hf q;show kat_cons (he prog w _ _ (kat_no (kat_one _ _ (hl prog w _ _ q))))
abbrev Ef:Kt->Bool
 |.ci _ _=>true
 |_=>false
def Wo(hu:A.units+5<cLine)(d1:dep k1<=3)(h1:Ef k1=true)(h2:Ef k2=true)(hc:xZ k1 k2=true)(x:Dv s.heap (.tup (dT k1)) u1)(y:Dv s.heap (.tup (dT k2)) u2)(h:C (jA k1 k2) s):wpAny (model prog w) A (keyLt' (tuples' true) u1 u2) C (λ_ _=>False) s:=by
 cases k1 with
 |nil=>cases h1
 |ct _ _=>cases h1
 |ci i r=>
 cases k2 with
 |nil=>cases h2
 |ct _ _=>cases h2
 |ci j q=>
 cases x with |tup i1 v1=>
 cases y with |tup i2 v2=>
 cases v1 with |cons a b=>
 cases v2 with |cons a' b'=>
 cases a;cases a';let(o,e1,e2,n1,e3):=i1;let(o2,e4,e5,n2,e6):=i2;apply kat_lt e1 e3 e4 e6 ?_;apply kat_cons (wpAny_eqBool_int (kat_go (λe=>?_) (λe=>?_)))
 . have e':=eq_of_beq e;delta jA at h;rw[fR e']at h;show kat_yes (Pa (lt_kt b b' hc (by exact A.units+dep r+1<cLine;have:dep r<=3:=d1;lia)) 0 ⋯ h)
 .
  have e':i≠j:=λq=>by rw[q]at e;simp at e
  delta jA at h;rw[eR e']at h;show kat_no (oneLt_int h)
def Wq(hk:Ef k=true)(q:Dv h (.tup (dT k)) u):Oe h u:=by
 cases k with
 |nil=>cases hk
 |ct _ _=>cases hk
 |ci j r=>
 cases q with |tup i v=>
 cases v with |cons a b=>
 cases a;let(o,e1,e2,n,e3):=i;show#[_,o,_,_,_,n,rfl,e1,e2,e3]
def Wr(x:mJ h k b):Dv h (.tup (dT k)) (.ref b):=let #[o,its,n,e,c,d,z]:=x;.tup #[o,e,c,n,by simpa using d] (Io z)
def few:∀l:List Kt,l.length<2->l=bf iC l
 | [],_=>rfl
 | [_],_=>rfl
 |_::_::_,h=>absurd h ⋯
def Eg{a:Addr}{xs:List (Pn×Addr)}{o:Obj}{Q:Value->Shared->Prop}(hu:A.in1.in1.units+5<cLine)(hh:A.in1.in1.handled=none)(ho:s.heap.get? a=!o)(hT:TO w xs o)(hR:Wh s.heap xs)(hf:∀x∈xs,Ef x.1.1=true)(hcp:∀x∈xs,∀y∈xs,xZ x.1.1 y.1.1=true)(h64:xs.length<1000)
  (q:∀(ep:Nat) (ys:List (Pn×Addr)) s1 s',Moved [] (λa b=>b=a) s s1->Moved [] (λa b=>b=a) s1 s'->s'.heap.get? s1⁻¹=!(seqObj "list" (ys.map λy=>Value.ref y.2).toArray ep)->ys.Perm xs->(ys.map (·.1.1))=bf iC (xs.map (·.1.1))->Q (.ref s1⁻¹) s') :
  wpAny (model prog w) A (call (.builtin "sorted") [.ref a]) Q E s:=by
 let(ex,es,ep,t,S,ld,nd,pm):=hT;let(pl,p1,p2):=Ed ((pS w a ep es).trans pm) rfl;have vsE:(iu w a ep es).toList.map (·.2)=pl.map λx=>Value.ref x.2:=by rw[<- p2,List.map_map];rfl
 have iY:=p1.length_eq;have aN:(pl.map λx=>Value.ref x.2).length=xs.length:=by rw[eA,iY]
 have hz:(pl.map λx=>Value.ref x.2).length<=sizeLine:=by rw[t8];lia
 have hes:es.size=xs.length:=by rw[<- eD,pm.length_eq,eA]
 apply DY hz (wk hh ho S.toW ld (by rw[t8];lia) λs' hmv=>#[vsE,hmv]) λs' hmv=>?_
 have keep0:∀b o,s.heap.get? b=!o->s'.heap.get? b=!o:=λb o e=>hmv.heap b o (λz=>nomatch z) e
 have kp1:(pl.map (·.1.1)).Perm (xs.map (·.1.1)):=p1.map _;generalize hvs:(pl.map λx=>Value.ref x.2)=vs at aN hz ⊢
 have at_:∀{h:Heap}{i:Nat},(∀b o,s'.heap.get? b=!o->h.get? b=!o)->(hi:i<pl.length)->(pl.map (·.1.1)).getD i .nil=(pl[i]).1.1/\vs.getD i Value.none=.ref (pl[i]).2/\Dv h (.tup (dT (pl[i]).1.1)) (.ref (pl[i]).2)/\pl[i]∈xs:=λ{h i} hk hi=>by
  have hm:=p1.mem_iff.mp (tP hi);apply#[by simp[hi],by rw[<- hvs];simp[hi],Wr (Im (λb o _ e=>hk b o (keep0 b o e)) (hR _ hm)),hm]
 have dn:∀od:List Nat,od.Perm (List.range pl.length)->od.map (λi=>(pl.map (·.1.1)).getD i .nil)=bf iC (pl.map (·.1.1))->Q (.ref s'⁻¹) { s' with heap:=sortedHeap (s'.heap.push (seqObj "list" vs.toArray 0)) s'⁻¹ vs (od.map λi=>vs.getD i Value.none).toArray}:=λod hp hs=>by
  let(uP,he):=sortedHeap_at (out:=(od.map λi=>vs.getD i Value.none).toArray) (eM _ rfl)
  have hin:∀i∈od,i<pl.length:=λi hi=>o6.mp (hp.mem_iff.mp hi)
  have nn:∀d:Pn×Addr,(od.map λi=>vs.getD i Value.none)=(od.map λi=>pl.getD i d).map λy=>Value.ref y.2:=λd=>by
   rw[List.map_map];apply mN λi hi=>?_
   have hi':=hin i hi;rw[(at_ (λ_ _ e=>e) hi').2.1]
   simp[hi']
  have d0:Pn×Addr:=(#[.nil,oP _],0);rw[nn d0]at he ⊢
  apply q uP (od.map λi=>pl.getD i d0) s' _ hmv #[λb o _ hb=>?_,rfl,rfl,rfl,d5 _] he ?_ ?_
  .
   have hlt:=fA hb;rw[sortedHeap_old (mP hlt) (by rw[CF];lia)]
   show dE _ hb
  . apply (hp.map _).trans ?_;rw[bJ];show p1
  .
   have e2:bf iC (xs.map (·.1.1))=bf iC (pl.map (·.1.1)):=(fc ((bD _).trans kp1) (bX _)).symm;rw[e2,<- hs,List.map_map];apply mN λi hi=>?_
   have hi':=hin i hi;simp[hi']
 have hvl:vs.length=pl.length:=by rw[aN,iY]
 by_cases h2:vs.length<2
 .
  apply vG (eM _ rfl) h2 #[rfl,?_];have:=dn (List.range pl.length) (.refl _) (by
   have e:=bJ (pl.map (·.1.1)) Kt.nil;rw[eA]at e;rw[e];show few _ (by rw[eA,<- hvl];show h2))
  rw[<- hvl,bJ]at this;show this
 .
  have keep:∀b o,s'.heap.get? b=!o->(dF { s' with heap:=s'.heap.push (seqObj "list" vs.toArray 0)} s'⁻¹ vs).heap.get? b=!o:=λb o e=>mz (mP (fA e)) (dE _ e)
  apply vF (κ:=tuples' true) (O:=iC) (key:=λi=>(pl.map (·.1.1)).getD i .nil) (eM _ rfl) ⋯ ⋯ (λQ' hq=>?_) (λi j C hi hj hC=>?_) λp hp hr=>#[rfl,?_]
  .
   let(fs,q1,q2,q3):=lz (vs:=vs) λv hv=>by
    let(i,hi,rfl):=mI hv;let(_,g2,g3,g4):=at_ keep (show i<pl.length by lia)
    have g5:vs.getD i Value.none=vs[i]:=by rw[bP,eJ hi];rfl
    rw[<- g5,g2];show Wq (hf _ g4) g3
   show kat_kind (T:=.type "int") q1 ⋯ (λv hv=>by let(i,t,rfl):=q3 v hv;show rL) ⋯ hq
  .
   let(g1,g2,g3,g4):=at_ keep (show i<pl.length by lia)
   let(f1,f2,f3,f4):=at_ keep (show j<pl.length by lia)
   replace hC:C (jA ((pl.map (·.1.1)).getD i .nil) ((pl.map (·.1.1)).getD j .nil)) _:=hC;rw[g1,f1]at hC;exact wpAny _ _ (keyLt' (tuples' true) (vs.getD i Value.none) (vs.getD j Value.none)) C _ _;rw[g2,f2];show Wo hu (pl[i]).1.2 (hf _ g4) (hf _ f4) (hcp _ g4 _ f4) g3 f3 hC
  .
   rw[hvl,show pl.length=(pl.map (·.1.1)).length from (eA ..).symm]at hp hr
   show dn p.toList (by rw[eA]at hp;show (AT.mp hp).trans ⋯) (mD hp hr)
end
end Nk
namespace Nk
open PySem PySem.W PySem.Spec PyProof.Rows L2 Ev Sb
section
variable{X:Cx}{z:Z}{g g1:G}{ks:List Pn}
abbrev Pb(ks:List Pn):Bool:=decide (ks.length<1000)&&ks.all λa=>Ef a.1&&ks.all λb=>xZ a.1 b.1
def Bd:∀ys:List (Pn×Addr),Vals (ys.map λy=>V.ref y.2) (ys.map λy=>Value.ref y.2)
 | []=>.nil
 |_::ys=>.cons rfl (Bd ys)
def Be{K:Frag}{M:List Addr}{H:Hp}:∀{ys:List (Pn×Addr)},gF K M H ys->aK K M H (ys.map λy=>dK y.1) (ys.map λy=>V.ref y.2)
 | [],_=>.nil
 |y::ys,h=>.cons (h y dA) (Be λx hx=>h x (b0 _ hx))
def ud(hc:X.calm=true)(hu:X.A.units+7<cLine):fM X (.builtin "sorted") (λvs H Q=>∃p xs,vs=[.ref p]/\H p=!(tD X.w xs)/\wu X.K H xs/\Pb (xs.map (·.1))=true/\
  ∀q (ys:List (Pn×Addr)),H q=none->ys.Perm xs->(ys.map (·.1.1))=bf iC (xs.map (·.1.1))->Q (.ref q) (upd H q (.lst (ys.map λy=>V.ref y.2)))):=by
 intro aj s J H vs us Q I r h;let(p,xs,rfl,hq,hy,hg,q):=h;let(u,rfl,rx):=vals1 r;cases rx;let(h1,h2):=(eI _ _).mp hg;have h1:=t5 h1;rw[eA]at h1;have hh:=I.ok.hd hc;let(o,ho,hT):=I.hok p _ hq;have hx:∀x∈xs,Ef x.1.1=true/\∀y∈xs,xZ x.1.1 y.1.1=true:=λx hx=>by
  let(a,b):=(eI _ _).mp (nV.mp h2 x.1 (eQ.mpr #[x,hx,rfl]));show#[a,λy hy=>nV.mp b y.1 (eQ.mpr #[y,hy,rfl])]
 apply Eg (by simp only[in1_units];lia) hh ho hT (hy.is I) (λx h=>(hx x h).1) (λx h=>(hx x h).2) h1 λep ys s2 s3 m1 m2 hget hp hs=>?_
 let(h2,g2,dr2,tk2,os2):=s2;let(h3,g3,dr3,tk3,os3):=s3;let(a1,a2,a3,a4,a5):=m1;let(b1,b2,b3,b4,b5):=m2;subst a2 a3 a4 b2 b3 b4;have I3:L2.Inv X aj J H { s with heap:=h2,toks:=tk2}:=I.kept λb o hb=>a1 b o (λz=>nomatch z) hb
 have hf:=I3.hok.fresh (d5 _);show#[.ref h2.objs.size,_,I3.laid (o:=.lst (ys.map λy=>V.ref y.2)) (λb o hb=>b1 b o (λz=>nomatch z) hb) (d5 _) #[by rw[eA,hp.length_eq,t8];lia,_,ep,Bd ys,hget],rfl,q _ ys hf hp hs]
def Jq(hc:X.calm=true)(hu:X.A.units+7<cLine)(hK:z.K=X.K)(h:SetK X z e g ks g1)(hs:Pb ks=true)(hg:Gl X "sorted")(hm:X.mg "sorted"=none)(fL:starEach [e] X.env=(false,eval e X.env)::starEach [] X.env) :
  aA X z (.Call (.Name "sorted" p) [e] [] pos) g (.new ((bf iC (ks.map (·.1))).map YJ)) g1:=by
 let(t,q,k):=h;apply#[_,nX (ud hc hu) hg hm (by rfl:bootBuiltins ("sorted":Str)=!(.builtin "sorted")) (gR q kQ fL) ⋯ ⋯ fL rfl,λJ As M H Q s kk=>k J As M H _ s λD xs H' aE M' s' st hD hk hy=>?_]
 subst hk;apply#[D,xs,rfl,hD,hK▸hy.f,hs,λq ys hq hp hs=>?_]
 have aJ:aq M' H' (q::M') (upd H' q (.lst (ys.map λy=>V.ref y.2))):=aq.bw hq
 have e:(bf iC ((xs.map (·.1)).map (·.1))).map YJ=ys.map λy=>dK y.1:=by rw[List.map_map];exact (bf iC (xs.map (·.1.1))).map YJ=_;rw[<- hs,List.map_map];rfl
 rw[e]at kk;apply kk (.ref q) _ aE (q::M') (s'.bw hq) (st.trans aJ) #[q,_,rfl,dA,λhA=>s'.fresh hq (s'.sub q hA),s'.cS hq,aF,?_]
 show Be (gF.stay (λx hx=>hy x (hp.mem_iff.mp hx)) aJ)
end
end Nk
namespace Nk
open PySem Ev
abbrev pnT(l:List Ev.D):Option Pn:=match Ec l with
 |some k=>if h:dep k<=3 then some #[k,h]else none
 |none=>none
def Ws(h:pnT l=!k):Ev.D.tup l=dK k:=by
 delta pnT at h;split at h
 .
  ext a ha;split at h
  . symm;exact Ev.D.tup l=.tup (dT a);rw[Wn ha]
  . symm
 . symm
end Nk
namespace Ev
open L2
inductive Bl where
 |len |list |tuple |max |min |str |all |sorted |sum |any |int
 deriving DecidableEq
inductive Mt where
 |count |index
 deriving DecidableEq
set_option genInjectivity false in
inductive Ex where
 |val (d:D) |slot (i:Nat)
 |bin (op:Operator) (a b:Ex) |cmp (op:CmpOp) (a b:Ex) |chain (a:Ex) (ops:List CmpOp) (l:List Ex)
 |not (a:Ex) |and (l:List Ex) |or (l:List Ex) |ite (c a b:Ex)
 |tup (l:List Ex) |lst (l:List Ex)
 |ix (a b:Ex)
 |call (f:Nat) (l:List Ex) |blt (b:Bl) (l:List Ex) |Lq (a:Ex) (n:String)
 |comp (n k:Nat) (T:Tg) (it:Ex) (c:Option Ex) (e:Ex)
 |dX (n k:Nat) (T1:Tg) (nL:Ex) (c1:Option Ex) (T:Tg) (it:Ex) (c:Option Ex) (e:Ex)
 |wA (n k:Nat) (T:Tg) (it:Ex) (c:Option Ex) (e:Ex)
 |dc (a:Ex) |gG (a b:Ex) |iP (a:Ex)
 |m8 (a b c:Ex) |enum (a:Ex) |wB (a:Ex) |meth (m:Mt) (o e:Ex)
 |append (i:Nat) (e:Ex) |extend (i:Nat) (e:Ex) |rU (i:Nat) (e:Ex)
set_option genInjectivity false in
inductive Sm where
 |ret (e:Ex) |expr (e:Ex) |set (i:Nat) (e:Ex) |setC (i:Nat) (e:Ex) |tgt (T:Tg) (e:Ex) |item (i:Nat) (j e:Ex) |aug (i:Nat) (op:Operator) (e:Ex)
 |par (i j:Nat) (a b:Ex) |tri (i j l:Nat) (a b d:Ex) |items2 (i:Nat) (x:Ex) (j:Nat) (y:Ex) (e:Ex)
 |ite (c:Ex) (a b:List Sm) |loop (T:Tg) (it:Ex) (b:List Sm) |while (c:Ex) (b:List Sm) |rows (im it iy ia ib:Nat) |stuck
structure Fx where
 np:Nat
 n:Nat
 body:List Sm
abbrev Tg.jB:Tg->Bool
 |.tp _=>true
 |.nm _=>false
abbrev uf(i j:Int):Bool:=(decide (-(2 ^ 64)<i)&&decide (i<2 ^ 64))||(decide (-(2 ^ 64)<j)&&decide (j<2 ^ 64))
abbrev lim:Nat:=16777216
abbrev m9{α:Type}(f:Int->Int->Option α)(a b:D):Option α:=match a with
 |.int i=>(match b with |.int j=>f i j |_=>none)
 |_=>none
abbrev Jr(a b:D):Option R:=match a with
 |.int i=>(match b with |.int j=>!(.dat (.int (i+j))) |_=>none)
 |.lst l=>(match b with |.lst m=>if l.length+m.length<=lim then some (.new (l++m))else none |_=>none)
 |.tup l=>(match b with |.tup m=>if l.length+m.length<=lim then some (.dat (.tup (l++m)))else none |_=>none)
 |_=>none
abbrev Ph(a:D)(k:Int):Option R:=match a with
 |.int i=>if uf i k=true then some (.dat (.int (i * k)))else none
 |.lst l=>if -(2 ^ 63)<=k/\k<2 ^ 63/\l.length * k.toNat<=lim then some (.new (List.replicate k.toNat l).flatten)else none
 |_=>none
abbrev qD(op:Operator)(a b:D):Option R:=match op with
 |.Add=>Jr a b
 |.Sub=>m9 (λi j=>!(.dat (.int (i - j)))) a b
 |.Mult=>(match b with |.int k=>Ph a k |_=>none)
 |.FloorDiv=>m9 (λi j=>if 0<j/\j<18446744073709551616 then some (.dat (.int (i / j)))else none) a b
 |.Mod=>m9 (λi j=>if 0<j then some (.dat (.int (i % j)))else none) a b
 |.Pow=>m9 (λi j=>if 0<=j/\j<=1000/\i.natAbs<2 ^ 64 then some (.dat (.int (i ^ j.toNat)))else none) a b
 |_=>none
abbrev Pj:Operator->D->D->Option D
 |.Add,.int i,.int j=>!(.int (i+j))
 |.Sub,.int i,.int j=>!(.int (i - j))
 |.Mult,.int i,.int j=>if uf i j=true then some (.int (i * j))else none
 |_,_,_=>none
abbrev pX(d1 d2:D):Bool:=fF d1&&fF d2&&decide (dep d1<=190)
abbrev jl(d1:D)(l:List D):Bool:=fF d1&&cI l&&decide (deps l<=190)
abbrev Wt(a b:D):Option Bool:=match a with
 |.int i=>(match b with |.int j=>!(decide (i<j)) |_=>none)
 |.tup l=>(match b with |.tup m=>(match bI l with |some ns=>(match bI m with |some ms=>!(HT.lexLt ns ms) |none=>none) |none=>none) |_=>none)
 |_=>none
abbrev isF(a b:D):Option Bool:=match b with
 |.bl c=>!(Z9 a c)
 |.non=>!(UL a)
 |_=>none
abbrev d7(op:CmpOp)(d1 d2:D):Option Bool:=match op with
 |.Eq=>if pX d1 d2=true then some (cL d1 d2)else none
 |.NotEq=>if pX d1 d2=true then some ((not (cL d1 d2)))else none
 |.Lt=>Wt d1 d2
 |.LtE=>m9 (λi j=>!(decide (i<=j))) d1 d2
 |.Gt=>Wt d2 d1
 |.GtE=>m9 (λi j=>!(decide (i ≥ j))) d1 d2
 |.In=>(match cJ d2 with |some l=>if jl d1 l=true then some (l.any λd=>cL d d1)else none |none=>none)
 |.NotIn=>(match cJ d2 with |some l=>if jl d1 l=true then some ((not (l.any λd=>cL d d1)))else none |none=>none)
 |.Is=>isF d1 d2
 |_=>none
abbrev uM:D->D->Option D
 |.lst l,.int i=>d9 l i
 |.fix l,.int i=>d9 l i
 |.tup l,.int i=>d9 l i
 |_,_=>none
abbrev R0(b:Bl)(d:D):Option R:=match b with
 |.len=>(match aad d with |some n=>!‹n› |none=>none)
 |.list=>(match cJ d with |some l=>!(.new l) |none=>none)
 |.tuple=>(match cJ d with |some l=>!(.dat (.tup l)) |none=>none)
 |.min=>(match cJ d with |some l=>(match pK l with |!(k::ks)=>!(.dat (N9 (iB jy k ks))) |_=>none) |none=>none)
 |.all=>(match d with |.lst l=>(match vg l with |some bs=>!(.dat (.bl (bs.all id))) |none=>none) |_=>none)
 |.sorted=>(match cJ d with |some l=>(match bI l with |some ns=>if ns.length<64 then some (.new ((cU ns).map .int))else none |none=>(match d with |.lst l=>(match gA l with |some sL=>if sL.length<64 then some (.new ((bf gU sL).map λns=>.tup (ns.map .int)))else none |none=>none) |_=>none)) |none=>none)
 |_=>none
abbrev bl2(b:Bl)(d e:D):Option R:=match b with
 |.max=>m9 (λi j=>!(.dat (.int (if j > i then j else i)))) d e
 |.min=>m9 (λi j=>!(.dat (.int (if j<i then j else i)))) d e
 |_=>none
abbrev nM(b:Bl)(ds:List D):Option R:=match ds with
 | [d]=>R0 b d
 | [d,e]=>bl2 b d e
 |_=>none
abbrev mtF:Mt->D->D->Option D
 |.count,_,_=>none
 |.index,d0,d1=>match cJ d0 with |some l=>if jl d1 l=true then (match yF d1 l with |some j=>!(.int j) |none=>none)else none |none=>none
abbrev qM(t n:String):Bool:=t==n||(t == "bool" && n == "int")
abbrev isW:Ex->Bool
 |.dc _=>true
 |.gG _ _=>true
 |.m8 _ _ _=>true
 |.enum _=>true
 |_=>false
structure Rn where
 e:List Nat->Nat->Ex->G->Option (R×G)
 t:List Nat->Nat->Ex->G->Option (Bool×G)
 b:List Nat->Nat->List Sm->G->Option (Fl×G)
 x:List Nat->Nat->Ex->G->Option (Nat×G)
 xt:List Nat->Nat->Ex->G->Option (Nat×G)
 xb:List Nat->Nat->List Sm->G->Option (Nat×G)
abbrev toD(bor:List Nat):R->G->Option (D×G)
 |.dat d,g=>!(d,g)
 |.new l,g=>!(.lst l,g)
 |.var i,g=>if i∈bor then none else match g[i]? with |!(.own l)=>!(.lst l,g.set i (.dat (.lst l))) |_=>none
abbrev norm:R->R
 |.new l=>.dat (.lst l)
 |.dat d=>.dat d
 |.var i=>.var i
section
variable(rn:Rn)(bor:List Nat)(k:Nat)
abbrev eN(e:Ex)(g:G):Option (D×G):=match rn.e bor k e g with
 |!(r,g1)=>toD bor r g1
 |none=>none
abbrev mK:List Ex->G->Option (List D×G)
 | [],g=>!([],g)
 |e::es,g=>match eN rn bor k e g with
  |!(d,g1)=>match mK es g1 with
   |!(ds,g2)=>!(d::ds,g2)
   |none=>none
  |none=>none
abbrev argsR:List Ex->G->Option (List R×G)
 | [],g=>!([],g)
 |e::es,g=>match rn.e bor k e g with
  |!(r,g1)=>match argsR es g1 with
   |!(rs,g2)=>!(norm r::rs,g2)
   |none=>none
  |none=>none
abbrev Wu:D->List CmpOp->List Ex->G->Option (Bool×G)
 |d1,[op],[b],g=>match eN rn bor k b g with
  |!(d2,g1)=>match d7 op d1 d2 with |some c=>!(c,g1) |none=>none
  |none=>none
 |d1,op::op'::ops,b::b'::bs,g=>match eN rn bor k b g with
  |!(d2,g1)=>match d7 op d1 d2 with
   |some true=>Wu d2 (op'::ops) (b'::bs) g1
   |some false=>!(false,g1)
   |none=>none
  |none=>none
 |_,_,_,_=>none
abbrev Js:List Ex->G->Option (R×G)
 | [],_=>none
 | [a],g=>rn.e bor k a g
 |a::b::l,g=>match rn.e bor k a g with
  |!(.dat (.bl true),g1)=>Js (b::l) g1
  |!(.dat (.bl false),g1)=>!(.dat (.bl false),g1)
  |_=>none
abbrev orF:List Ex->G->Option (R×G)
 | [],_=>none
 | [a],g=>rn.e bor k a g
 |a::b::l,g=>match rn.e bor k a g with
  |!(.dat (.bl false),g1)=>orF (b::l) g1
  |!(.dat (.bl true),g1)=>!(.dat (.bl true),g1)
  |_=>none
abbrev wC:List Ex->G->Option (Bool×G)
 | [],_=>none
 | [a],g=>rn.t bor k a g
 |a::b::l,g=>match rn.t bor k a g with
  |!(true,g1)=>wC (b::l) g1
  |!(false,g1)=>!(false,g1)
  |none=>none
abbrev yZ:List Ex->G->Option (Bool×G)
 | [],_=>none
 | [a],g=>rn.t bor k a g
 |a::b::l,g=>match rn.t bor k a g with
  |!(false,g1)=>yZ (b::l) g1
  |!(true,g1)=>!(true,g1)
  |none=>none
abbrev Ju(j:Int):Bool:=decide (-(2 ^ 62)<=j)&&decide (j<2 ^ 62)
abbrev wD(j:Int):Bool:=decide (-(2 ^ 30)<=j)&&decide (j<2 ^ 30)
abbrev d8(tp:Bool)(it:Ex)(g:G):Option (List D×G):=match it with
 |.dc a=>match eN rn bor k a g with
  |!(.int j,g1)=>if Ju j=true then some (bT 0 j.toNat,g1)else none
  |_=>none
 |.gG a b=>match eN rn bor k a g with
  |!(.int c,g1)=>match eN rn bor k b g1 with
   |!(.int j,g2)=>if Ju c=true/\Ju j=true then some (bT c (j - c).toNat,g2)else none
   |_=>none
  |_=>none
 |.m8 a b c=>match eN rn bor k a g with
  |!(.int i,g1)=>match eN rn bor k b g1 with
   |!(.int j,g2)=>match eN rn bor k c g2 with
    |!(.int s,g3)=>if wD i=true/\wD j=true/\wD s=true/\0<s then some (qJ i s (pG i j s),g3)else none
    |_=>none
   |_=>none
  |_=>none
 |.enum a=>if tp=true then match eN rn bor k a g with
  |!(.tup l,g1)=>!(mF l,g1)
  |_=>none
  else none
 |e=>match eN rn bor k e g with
  |!(.tup l,g1)=>!(l,g1)
  |!(.lst l,g1)=>!(l,g1)
  |!(.fix l,g1)=>!(l,g1)
  |_=>none
abbrev qE:Option Ex->G->Option (Bool×G)
 |none,g=>!(true,g)
 |!c,g=>rn.t bor k c g
abbrev Eh(T:Tg)(last:Nat)(c:Option Ex)(e:Ex):List D->G->Option G
 | [],g=>!g
 |d::l,g=>match T.set d g with
  |none=>none
  |some g1=>match qE rn bor k c g1 with
   |none=>none
   |!(false,g2)=>Eh T last c e l g2
   |!(true,g2)=>match eN rn bor k e g2 with
    |none=>none
    |!(x,g3)=>match g3[last]? with
     |!(.own acc)=>if acc.length<lim then Eh T last c e l (g3.set last (.own (acc++[x])))else none
     |_=>none
abbrev gH(n kk:Nat)(T:Tg)(it:Ex)(c:Option Ex)(e:Ex)(g:G):Option (List D×G):=match d8 rn bor k T.jB it g with
 |none=>none
 |!(items,g1)=>if g1.length=n/\(T.ix.any λi=>decide (i∈bor))=false then match Eh rn bor k T (n+kk) c e items (gC kk g1)with
   |none=>none
   |some gE=>match gE[n+kk]? with
    |!(.own acc)=>!(acc,gE.take n)
    |_=>none
  else none
abbrev wF(T1:Tg)(c1:Option Ex)(T:Tg)(it:Ex)(c:Option Ex)(e:Ex)(last:Nat):List D->G->Option G
 | [],g=>!g
 |d::l,g=>match T1.set d g with
  |none=>none
  |some g1=>match qE rn bor k c1 g1 with
   |none=>none
   |!(false,g2)=>wF T1 c1 T it c e last l g2
   |!(true,g2)=>match d8 rn bor k T.jB it g2 with
    |none=>none
    |!(items,g3)=>match Eh rn bor k T last c e items g3 with
     |none=>none
     |some g4=>wF T1 c1 T it c e last l g4
abbrev jC(n kk:Nat)(T1:Tg)(nL:Ex)(c1:Option Ex)(T:Tg)(it:Ex)(c:Option Ex)(e:Ex)(g:G):Option (List D×G):=match d8 rn bor k T1.jB nL g with
 |none=>none
 |!(items,g1)=>if g1.length=n/\((T1.ix++T.ix).any λi=>decide (i∈bor))=false then match wF rn bor k T1 c1 T it c e (n+kk) items (gC kk g1)with
   |none=>none
   |some gE=>match gE[n+kk]? with
    |!(.own acc)=>!(acc,gE.take n)
    |_=>none
  else none
abbrev Wv(T:Tg)(c:Option Ex)(e:Ex):List D->List Nk.Pn->G->Option (List Nk.Pn×G)
 | [],ks,g=>!(ks,g)
 |d::l,ks,g=>match T.set d g with
  |none=>none
  |some g1=>match qE rn bor k c g1 with
   |none=>none
   |!(false,g2)=>Wv T c e l ks g2
   |!(true,g2)=>match eN rn bor k e g2 with
    |!(.tup m,g3)=>match Nk.pnT m with
     |some key=>if ks.length<1000 then Wv T c e l (Nk.fj ks key) g3 else none
     |none=>none
    |_=>none
abbrev lH(n kk:Nat)(T:Tg)(it:Ex)(c:Option Ex)(e:Ex)(g:G):Option (List Nk.Pn×G):=match d8 rn bor k T.jB it g with
 |none=>none
 |!(items,g1)=>if g1.length=n/\(T.ix.any λi=>decide (i∈bor))=false then match Wv rn bor k T c e items [] (gD kk g1)with
   |none=>none
   |!(ks,gE)=>if Nk.Pb ks=true then some (ks,gE.take n)else none
  else none
abbrev bF(fx:Fx)(k':Nat)(rs:List R)(g1:G):Option (R×G):=
 if rs.length=fx.np/\((vars 0 rs).map (·.2)).Nodup then match dg rs g1 with
  |none=>none
  |some gs=>match rn.b ((vars 0 rs).map (·.1)) k' fx.body (fG fx.n gs)with
   |!(.rt r,gc)=>match back (vars 0 rs) gc g1 with
    |some gO=>match kX ((vars 0 rs).map (·.1)) gc r with |some r'=>!(r',gO) |none=>none
    |none=>none
   |!(.nx,gc)=>match back (vars 0 rs) gc g1 with
    |some gO=>!(.dat .non,gO)
    |none=>none
   |_=>none
 else none
abbrev bh(fns:List Fx)(e:Ex)(g:G):Option (R×G):=match e with
 |.val d=>!(.dat d,g)
 |.slot i=>match g[i]? with |!(.dat d)=>!(.dat d,g) |!(.own _)=>!(.var i,g) |_=>none
 |.bin op a b=>match argsR rn bor k [a,b] g with
  |!([r1,r2],g2)=>match pk r1 g2,pk r2 g2 with
   |!d1,!d2=>match qD op d1 d2 with |some r=>!(r,g2) |none=>none
   |_,_=>none
  |_=>none
 |.cmp op a b=>match argsR rn bor k [a,b] g with
  |!([r1,r2],g2)=>match pk r1 g2,pk r2 g2 with
   |!d1,!d2=>match d7 op d1 d2 with |some c=>!(.dat (.bl c),g2) |none=>none
   |_,_=>none
  |_=>none
 |.chain a ops l=>match eN rn bor k a g with
  |!(d1,g1)=>match Wu rn bor k d1 ops l g1 with |!(c,g2)=>!(.dat (.bl c),g2) |none=>none
  |none=>none
 |.not a=>match rn.e bor k a g with |!(.dat (.bl c),g1)=>!(.dat (.bl ((not c))),g1) |_=>none
 |.and l=>Js rn bor k l g
 |.or l=>orF rn bor k l g
 |.ite c a b=>match rn.t bor k c g with
  |!(true,g1)=>rn.e bor k a g1
  |!(false,g1)=>rn.e bor k b g1
  |none=>none
 |.tup l=>match mK rn bor k l g with |!(ds,g1)=>if ds.length<=lim then some (.dat (.tup ds),g1)else none |none=>none
 |.lst l=>match mK rn bor k l g with |!(ds,g1)=>if ds.length<=lim then some (.new ds,g1)else none |none=>none
 |.ix a b=>match argsR rn bor k [a,b] g with
  |!([r1,r2],g2)=>match pk r1 g2,pk r2 g2 with
   |!d1,!d2=>match uM d1 d2 with |some d=>!(.dat d,g2) |none=>none
   |_,_=>none
  |_=>none
 |.call f l=>match fns[f]?,k with
  |!fx,k'+1=>match argsR rn bor k l g with
   |!(rs,g1)=>bF rn fx k' rs g1
   |none=>none
  |_,_=>none
 |.blt b l=>match argsR rn bor k l g with
  |!(rs,g1)=>match u9 rs g1 with
   |some ds=>match nM b ds with |some r=>!(r,g1) |none=>none
   |none=>none
  |none=>none
 |.Lq a n=>match rn.e bor k a g with
  |!(r,g1)=>match pk (norm r) g1 with |some d=>!(.dat (.bl (qM (xU d) n)),g1) |none=>none
  |none=>none
 |.comp n kk T it c e=>match gH rn bor k n kk T it c e g with |!(acc,g1)=>!(.new acc,g1) |none=>none
 |.dX n kk T1 nL c1 T it c e=>match jC rn bor k n kk T1 nL c1 T it c e g with |!(acc,g1)=>!(.new acc,g1) |none=>none
 |.wA n kk T it c e=>match lH rn bor k n kk T it c e g with |!(ks,g1)=>!(.new ((bf Nk.iC (ks.map (·.1))).map YJ),g1) |none=>none
 |.append i e=>match g[i]? with
  |!(.own _)=>match eN rn bor k e g with
   |!(d,g1)=>match g1[i]? with |!(.own l)=>if l.length<lim then some (.dat .non,g1.set i (.own (l++[d])))else none |_=>none
   |none=>none
  |_=>none
 |.extend i e=>match g[i]? with
  |!(.own _)=>match eN rn bor k e g with
   |!(.lst m,g1)=>match g1[i]? with |!(.own l)=>if l.length+m.length<=lim then some (.dat .non,g1.set i (.own (l++m)))else none |_=>none
   |_=>none
  |_=>none
 |.rU i e=>match g[i]? with
  |!(.own _)=>match eN rn bor k e g with
   |!(.int j,g1)=>match g1[i]? with
    |!(.own l)=>match nF l.length j with
     |some n=>match l[n]? with |some d=>if l.length<lim then some (.dat d,g1.set i (.own (l.eraseIdx n)))else none |none=>none
     |none=>none
    |_=>none
   |_=>none
  |_=>none
 |.dc _=>none
 |.gG _ _=>none
 |.m8 _ _ _=>none
 |.enum _=>none
 |.wB a=>match eN rn bor k a g with
  |!(.int j,g1)=>if Ju j=true/\j.toNat<=lim then some (.dat (.tup (bT 0 j.toNat)),g1)else none
  |_=>none
 |.meth m o e=>match rn.e bor k o g with
  |!(r0,g1)=>match pk (norm r0) g1 with
   |some d=>match cJ d with
    |some _=>match rn.e bor k e g1 with
     |!(r1,g2)=>match pk (norm r0) g2,pk (norm r1) g2 with
      |!d0,!d1=>match mtF m d0 d1 with |some x=>!(.dat x,g2) |none=>none
      |_,_=>none
     |none=>none
    |none=>none
   |none=>none
  |none=>none
 |.iP a=>match eN rn bor k a g with
  |!(.int j,g1)=>if Ju j=true/\j.toNat<=lim then some (.new (bT 0 j.toNat),g1)else none
  |_=>none
abbrev stepT(e:Ex)(g:G):Option (Bool×G):=match e with
 |.cmp op a b=>match argsR rn bor k [a,b] g with
  |!([r1,r2],g2)=>match pk r1 g2,pk r2 g2 with
   |!d1,!d2=>match d7 op d1 d2 with |some c=>!(c,g2) |none=>none
   |_,_=>none
  |_=>none
 |.chain a ops l=>match eN rn bor k a g with
  |!(d1,g1)=>Wu rn bor k d1 ops l g1
  |none=>none
 |.not a=>match rn.t bor k a g with |!(c,g1)=>!((not c),g1) |none=>none
 |.and l=>wC rn bor k l g
 |.or l=>yZ rn bor k l g
 |.ite _ _ _=>none
 |e=>match rn.e bor k e g with
  |!(r,g1)=>match pk (norm r) g1 with
   |some d=>match NC d with |some c=>!(c,g1) |none=>none
   |none=>none
  |none=>none
abbrev pY(T:Tg)(b:G->Option (Fl×G)):List D->G->Option (Fl×G)
 | [],g=>!(.nx,g)
 |d::l,g=>match T.set d g with
  |none=>none
  |some g0=>match b g0 with
   |none=>none
   |!(.nx,g1)=>pY T b l g1
   |!(.ct,g1)=>pY T b l g1
   |!(.bk,g1)=>!(.nx,g1)
   |!(.rt r,g1)=>!(.rt r,g1)
abbrev R9(c:G->Option (Bool×G))(b:G->Option (Fl×G)):Nat->G->Option (Fl×G)
 | 0,_=>none
 |n+1,g=>match c g with
  |none=>none
  |!(false,g1)=>!(.nx,g1)
  |!(true,g1)=>match b g1 with
   |none=>none
   |!(.nx,g2)=>R9 c b n g2
   |!(.ct,g2)=>R9 c b n g2
   |!(.bk,g2)=>!(.nx,g2)
   |!(.rt r,g2)=>!(.rt r,g2)
abbrev aH(st:Sm)(g:G):Option (Fl×G):=match st with
 |.ret e=>match rn.e bor k e g with |!(r,g1)=>!(.rt r,g1) |none=>none
 |.expr e=>match rn.e bor k e g with |!(_,g1)=>!(.nx,g1) |none=>none
 |.set i e=>if i∈bor then none else match rn.e bor k e g with
  |!(.new l,g1)=>if i<g1.length then some (.nx,g1.set i (.own l))else none
  |!(r,g1)=>match toD bor r g1 with |!(d,g2)=>!(.nx,g2.set i (.dat d)) |none=>none
  |none=>none
 |.setC i e=>if i∈bor then none else match e with
  |.comp n kk T it c e=>match gH rn bor k n kk T it c e g with
   |!(acc,g1)=>if i<g1.length then some (.nx,g1.set i (.own acc))else none
   |none=>none
  |.dX n kk T1 nL c1 T it c e=>match jC rn bor k n kk T1 nL c1 T it c e g with
   |!(acc,g1)=>if i<g1.length then some (.nx,g1.set i (.own acc))else none
   |none=>none
  |_=>none
 |.tgt T e=>if T.ix.any (λi=>decide (i∈bor))=true then none else match eN rn bor k e g with
  |!(d,g1)=>match T.set d g1 with |some g2=>!(.nx,g2) |none=>none
  |none=>none
 |.item i j e=>match eN rn bor k e g with
  |!(d,g1)=>match g1[i]? with
   |!(.own _)=>match eN rn bor k j g1 with
    |!(.int n,g2)=>match g2[i]? with
     |!(.own l)=>match nF l.length n with |some m=>!(.nx,g2.set i (.own (l.set m d))) |none=>none
     |_=>none
    |_=>none
   |_=>none
  |none=>none
 |.aug i op e=>if i∈bor then none else match g[i]? with
  |!(.dat d1)=>match eN rn bor k e g with
   |!(d2,g1)=>match Pj op d1 d2 with |some d=>!(.nx,g1.set i (.dat d)) |none=>none
   |none=>none
  |!(.own _)=>if op=.Add then match eN rn bor k e g with
    |!(.lst m,g1)=>match g1[i]? with |!(.own l)=>if l.length+m.length<=lim then some (.nx,g1.set i (.own (l++m)))else none |_=>none
    |_=>none
   else none
  |_=>none
 |.par i j a b=>if i∈bor then none else if j∈bor then none else match mK rn bor k [a,b] g with
  |!([d1,d2],g1)=>!(.nx,(g1.set i (.dat d1)).set j (.dat d2))
  |_=>none
 |.tri i j l a b d=>if i∈bor then none else if j∈bor then none else if l∈bor then none else match mK rn bor k [a,b,d] g with
  |!([d1,d2,d3],g1)=>!(.nx,((g1.set i (.dat d1)).set j (.dat d2)).set l (.dat d3))
  |_=>none
 |.items2 i x j y e=>match eN rn bor k e g with
  |!(.tup [d1,d2],g1)=>match g1[i]? with
   |!(.own _)=>match eN rn bor k x g1 with
    |!(.int n1,g2)=>match g2[i]? with
     |!(.own l)=>match nF l.length n1 with
      |some m1=>match (g2.set i (.own (l.set m1 d1)))[j]? with
       |!(.own _)=>match eN rn bor k y (g2.set i (.own (l.set m1 d1)))with
        |!(.int n2,g3)=>match g3[j]? with
         |!(.own l2)=>match nF l2.length n2 with |some m2=>!(.nx,g3.set j (.own (l2.set m2 d2))) |none=>none
         |_=>none
        |_=>none
       |_=>none
      |none=>none
     |_=>none
    |_=>none
   |_=>none
  |_=>none
 |.ite c a b=>match rn.t bor k c g with
  |!(true,g1)=>rn.b bor k a g1
  |!(false,g1)=>rn.b bor k b g1
  |none=>none
 |.loop T it b=>if T.ix.any (λi=>decide (i∈bor))=true then none else match d8 rn bor k T.jB it g with
  |!(items,g1)=>pY T (rn.b bor k b) items g1
  |none=>none
 |.while c b=>R9 (rn.t bor k c) (rn.b bor k b) 100000 g
 |.rows im it iy ia ib=>match g[im]?,g[it]? with
  |!‹m›,!(.dat (.tup ak))=>match g[iy]?,g[ia]?,g[ib]? with
   |some .no,some .no,some .no=>if 0<=m/\m<=1000 then match iL ak (List.replicate m.toNat [])with |some ll=>!(.rt (.dat (.lst (ll.map .lst))),g) |none=>none else none
   |_,_,_=>none
  |_,_=>none
 |.stuck=>none
abbrev iz:List Sm->G->Option (Fl×G)
 | [],g=>!(.nx,g)
 |st::aD,g=>match aH rn bor k st g with
  |!(.nx,g1)=>iz aD g1
  |!(f,g1)=>!(f,g1)
  |none=>none
end
abbrev xArgs(rn:Rn)(bor:List Nat)(k:Nat)(l:List Ex)(g:G):Option (Nat×G):=none
abbrev Jv(rn:Rn)(bor:List Nat)(k:Nat)(fns:List Fx)(e:Ex)(g:G):Option (Nat×G):=none
abbrev y9(rn:Rn)(bor:List Nat)(k:Nat)(e:Ex)(g:G):Option (Nat×G):=none
abbrev Ww(rn:Rn)(bor:List Nat)(k:Nat)(st:Sm)(g:G):Option (Nat×G):=none
abbrev za(rn:Rn)(bor:List Nat)(k:Nat)(l:List Sm)(g:G):Option (Nat×G):=none
abbrev step(fns:List Fx)(rn:Rn):Rn:=#[λbor k e g=>bh rn bor k fns e g,λbor k e g=>stepT rn bor k e g,λbor k l g=>iz rn bor k l g,λbor k e g=>Jv rn bor k fns e g,λbor k e g=>y9 rn bor k e g,λbor k l g=>za rn bor k l g]
abbrev rn0:Rn:=#[λ_ _ _ _=>none,λ_ _ _ _=>none,λ_ _ _ _=>none,λ_ _ _ _=>none,λ_ _ _ _=>none,λ_ _ _ _=>none]
abbrev run(fns:List Fx):Nat->Rn
 | 0=>rn0
 |n+1=>step fns (run fns n)
end Ev
namespace HT
open PySem PyProof.Rows
def Jw(A:Around)(s:Shared)(a:Int)(t:Tok)(c:Int)(u:Tok)(prog:Program)(w:World)(E:Value->Shared->Prop)(Q:Value->Shared->Prop)(h:Q (.bool (decide (c<a))) s) :
  wpAny (model prog w) A (richCompare .Gt (.int a t) (.int c u)) Q E s:=
 (PyProof.Rows.gt_int h:wpAny (model prog w) A (compareOp .Gt (.int a t) (.int c u)) Q E s)
def Pp{A:Around}{s:Shared}{vs ws:List Value}{ns ms: ~~~0}(h:IntsAre vs ns)(h2:IntsAre ws ms):Ev.Lf .Gt A s vs ws (lexLt ms ns):=by
 induction h generalizing ws ms with
 |nil=>
  cases h2 with
  |nil=>show .nn
  |cons=>show .nc
 |cons n t _ ih=>
  cases h2 with
  |nil=>show .cn
  |cons m u h2=>
   let(e,he,hi):=jN A s n t m u;rw[bV];cases e with
   |true=>rw[fR (hi.mp rfl).symm];show .eq he (ih h2)
   |false=>
    rw[eR λz=>t6 (hi.mpr z.symm)]
    show .ne he λprog w E Q h=>Jw A s n t m u prog w E Q h
section
variable{prog:Program}{w:World}{A:Around}{E:Value->Shared->Prop}{s:Shared}
def zb{l b:Addr}{items items2:Array Value}{ns ms: ~~~0}{Q:Value->Shared->Prop}(hl:IsTup s.heap l items)(hb:IsTup s.heap b items2)(hi:IntsAre items.toList ns)(hj:IntsAre items2.toList ms)
  (hu:A.units<cLine) (h:Q (.bool (lexLt ms ns)) s):wpAny (model prog w) A (compareOp .Gt (.ref l) (.ref b)) Q E s:=by
 let((cls,dd,data,sl),ho,hc,n,hd):=id hl;let((S0,dd2,data2,sl2),ho2,hc2,n2,hd2):=id hb;subst hc hd hc2 hd2;show richCompare_meets_room (op:=.Gt) #[_,ho,rfl] #[_,ho2,rfl] PySem.F.slot_tuple_gt PySem.F.entry_tuple_gt (PySem.F.args_tuple_gt_2 _ _) (Ev.lZ (nm:= "__gt__") (.inr rfl) l b items items2 n n2 dd dd2 sl sl2 (lexLt ms ns))
  #[ho,ho2,Pp hi hj,show Value.bool (lexLt ms ns)≠Value.notImplemented/\Q (.bool (lexLt ms ns)) s from#[(λx=>nomatch x),h]] hu
end
end HT
namespace L2
open PySem.W
section
variable{X:Cx}
abbrev rGtT(K:Frag):R2:=λx y H Q=>∃a b ns ms,x=.ref a/\y=.ref b/\iE K H a (ns.map V.int)/\iE K H b (ms.map V.int)/\Q (.bl (HT.lexLt ms ns)) H
def Wx(hu:X.A.units<cLine):jK X (compareOp .Gt) (rGtT X.K):=by intro aj s J H x y v u Q I rx ry h;let(a,b,ns,ms,rfl,rfl,ha,hb,q):=h;cases rx;cases ry;let(its,r1,p1,_):=I.tuple ha;let(jJ,r2,p2,_):=I.tuple hb;have i1:=intsAre_of r1;have i2:=intsAre_of r2;show HT.zb p1 p2 i1 i2 hu #[.bl (HT.lexLt ms ns),H,I,rfl,q]
end
end L2
namespace Ev
open L2 PySem.W
section
variable{X:Cx}{z:Z}
def Wy{l m:List D}{ns ms: ~~~0}(hK:z.K=X.K)(hu:X.A.units<cLine)(h1:bI l=!ns)(h2:bI m=!ms):kL X z (compareOp .Gt) (.tup l) (.tup m) (.dat (.bl (HT.lexLt ms ns))):=by
 apply#[_,Wx hu,λg J As M H v1 v2 Q s q1 q2 kk=>?_]
 let(a,xs,rfl,ha,ra):=q1.tup;let(b,ys,rfl,hb,rb):=q2.tup;have e1:=dB ra h1;have e2:=dB rb h2;subst e1 e2;show#[a,b,ns,ms,rfl,rfl,hK▸ha.sq,hK▸hb.sq,kk _ H As M s (aq.refl _ _) (.bl _)]
end
structure Ct where
 N:List Str
 sc:Scope
 df:Bool
 q:Str
structure Fi where
 name:Str
 qual:Str
 st:Stmt
 N:List Str
 ps:List Str
structure Pg where
 fn:List Fi
 ct:List (Str×D)
 bn:List Str
 cls:List Str:=[]
 lam:Bool:=false
 Sd:List Addr:=[]
 kt:Str:=Str.empty
 ups:List (Str×List (Addr×Bool)):=[]
abbrev Wz(K:Frag)(mg:Str->Option Value)(n:Str)(fS:Value):Prop:=
 ∃c q,fS=.ref c/\(∀b:Heap,K.In b->PySem.W.CodeHd b c q)/\(q,Gu n)∈eU K/\(∀b:Heap,K.In b->b.BuiltinsAt mg q)/\mainGlobals≠q/\∀p∈eU K,p.1=q->p.2=Gu n
structure Ei(P:Pg)(K:Frag)(mg:Str->Option Value):Prop where
 fn:∀(i:Nat) (fi:Fi),P.fn[i]?=!fi->∃f fd,mg fi.name=!(.ref f)/\ZL K fi.name fi.qual fi.st f fd/\fO fi.N fi.ps (aV fi.st)/\L2.Binds K fd fi.ps []/\(fi.name==(~~~3))=false
 ct:∀(x:Str) (d:D),(x,d)∈P.ct->(x==(~~~3))=false/\∃v u,mg x=!u/\RelV v u/\∀M H,Rep K M H d v
 bn:∀x∈P.bn,mg x=none
 cls:∀x∈P.cls,(x==(~~~3))=false/\∃C,mg x=!(.ref C)/\Df K C
 lam:P.lam=true->∀n∈u6,∀fS,PySem.W.codeIn K fS n=true->Wz K mg n fS
 Sd:∀(i:Nat) (C:Addr),P.Sd[i]?=!C->∃x,P.cls[i]?=!x/\mg x=!(.ref C)/\Df K C/\ZT K C
 kt:P.lam=true->(P.kt==(~~~3))=false/\∃D,mg P.kt=!(.ref D)/\Df K D/\∀C∈P.Sd,upIn K C D=true
 ups:∀(x:Str) (l:List (Addr×Bool)),(x,l)∈P.ups->(x==(~~~3))=false/\∃cv,((mg x=!cv/\∃D,cv=.ref D)\/(x∈P.bn/\x≠ "__name__" /\bootBuiltins x=!cv/\∃n,cv=.type n))/\PySem.W.kitOne K (.type "NoneType") cv=!false/\∀C b,l.lookup C=!b->PySem.W.kitOne K (.ref C) cv=!b
structure bx(P:Pg)(k:Nat)(X:Cx)(c:Ct):Prop where
 N:X.N=c.N
 nd:c.N.Nodup
 Jx:∀x,c.sc.names.lookup x=some .local->X.env.scope.names.lookup x=some .local
 Bf:∀x,c.sc.names.lookup x=some .globalImplicit->Gl X x
 fre:∀x,c.sc.names.lookup x=some .cell\/c.sc.names.lookup x=some .free->X.env.scope.names.lookup x=some .cell\/X.env.scope.names.lookup x=some .free
 cel:c.df=true->∀x,c.sc.names.lookup x=some .cell->X.env.scope.names.lookup x=some .cell
 fn:∀x,c.df=true\/c.sc.names.lookup x=some .local->X.fn x=true
 bk:c.df=true->X.env.blockKind=.function
 calm:X.calm=true
 xe:X.xe=λ_ _=>False
 md:Ei P X.K X.mg
 room:gQ k X.A
 lam:c.q∈u6->P.lam=true->X.env.qual ++ "<lambda>"=Gu c.q/\Wz X.K X.mg c.q X.env.code
abbrev wG(sc:Scope)(x:Str):Bool:=match sc.names.lookup x with |some .local=>true |some .cell=>true |some .free=>true |_=>false
abbrev fX(c:Ct)(x:Str):Bool:=match c.sc.names.lookup x with |some .local=>true |some .cell=>c.df |_=>false
abbrev eE(x:Str):Bool:=(not ((x==(~~~3))))&&(not ((x==("__classdict__":Str))))
section
def bx.vis(h:bx P k X c)(hv:wG c.sc x=true):mh X.env.scope x:=by
 delta wG at hv;split at hv
 . ext e;show .inl (h.Jx x e)
 . ext e;show (h.fre x (.inl e)).elim (λq=>.inr (.inl q)) λq=>.inr (.inr q)
 . ext e;show (h.fre x (.inr e)).elim (λq=>.inr (.inl q)) λq=>.inr (.inr q)
 . cases hv
def bx.nm(h:bx P k X c)(hi:c.N[i]?=!x)(hs:fX c x=true):oV X x i:=by
 apply#[h.N▸h.nd,by rw[h.N];show hi,?_,.inl (h.fn x ?_)]
 .
  delta fX at hs;split at hs
  . ext e;show .inl (h.Jx x e)
  . ext e;show .inr (h.cel hs x e)
  . cases hs
 .
  delta fX at hs;split at hs
  . ext e;show .inr e
  . show .inl hs
  . cases hs
def bM(h:eE x=true):(x==(~~~3))=false/\(x==("__classdict__":Str))=false:=by delta eE at h;simp only[eI,AO]at h;show h
def dY{α:Type}{f:Int->Int->Option α}{a b:D}{r:α}(h:m9 f a b=!r):∃i j,a=.int i/\b=.int j/\f i j=!r:=by
 delta m9 at h;split at h
 .
  split at h
  . show#[_,_,rfl,rfl,h]
  . symm
 . symm
def Pq{d1 d2:D}{r:R}(hK:z.K=X.K)(h:Jr d1 d2=!r):kL X z (binaryOp .Add) d1 d2 r:=by
 delta Jr at h;split at h
 .
  split at h
  . symm;show nI Tw
  . symm
 .
  split at h
  .
   split at h
   . ext hc;symm;show U0 hc
   . symm
  . symm
 .
  split at h
  .
   split at h
   . ext hc;symm;show Nc hK hc
   . symm
  . symm
 . symm
def Jy:jK X (binaryOp .FloorDiv) (rI (λ_ j=>0<j/\j<18446744073709551616) λi j=>.int (i / j)):=Zo λi j _ _ _ _ _ hc q=>by
 have h1:0<j/\j<18446744073709551616:=hc;apply floordiv_int ⋯ (by rw[Int.fdiv_eq_ediv_of_nonneg i ⋯];show q) (.inl (PyProof.noPylong_of_log2 ?_))
 have h2:j.natAbs.log2<64:=(Nat.log2_lt ⋯).mpr (by exact _<18446744073709551616;lia)
 lia
def Pu{d1:D}{k:Int}{r:R}(hK:z.K=X.K)(h:Ph d1 k=!r):kL X z (binaryOp .Mult) d1 (.int k) r:=by
 delta Ph at h;split at h
 .
  split at h
  . ext hc;symm;apply oM TF ?_;delta uf at hc;simp only[wS,eI,gN]at hc;show hc
  . symm
 .
  split at h
  . ext hc;symm;show U1 hc.1 hc.2.1 hc.2.2
  . symm
 . symm
def WD(hK:z.K=X.K)(h:qD op d1 d2=!r):kL X z (binaryOp op) d1 d2 r:=by
 cases op with
 |Add=>show Pq hK h
 |Sub=>let(i,j,rfl,rfl,h'):=dY h;cases h';show nI Tz
 |Mult=>
  dsimp only[qD]at h;split at h
  . show Pu hK h
  . symm
 |FloorDiv=>
  let(i,j,rfl,rfl,h'):=dY h;split at h'
  . ext hc;cases h';show oM Jy hc
  . cases h'
 |Mod=>
  let(i,j,rfl,rfl,h'):=dY h;split at h'
  . ext hc;cases h';show oM TJ hc
  . cases h'
 |Pow=>
  let(i,j,rfl,rfl,h'):=dY h;split at h'
  . ext hc;cases h';show oM sS #[hc.1,by have:=hc.2.1;lia,hc.2.2]
  . cases h'
 |_=>symm
def Pw(h:Pj op d1 d2=!d):kL X z (inplaceOp op) d1 d2 (.dat d):=by
 delta Pj at h;split at h
 . symm;show nI Ma
 . symm;show nI Mf
 .
  split at h
  . ext hc;symm;apply oM Mi ?_;delta uf at hc;simp only[wS,eI,gN]at hc;show hc
  . symm
 . symm
def pZ(hK:z.K=X.K)(hr:gQ k X.A)(h:d7 op d1 d2=!b):kL X z (compareOp op) d1 d2 (.dat (.bl b)):=by
 have hu:=hr.un;cases op with
 |Eq=>
  dsimp only[d7]at h;split at h
  . ext hc;symm;simp only[pX,eI]at hc;show Z0 hK hc.1.1 hc.1.2 (by have:=hc.2;lia)
  . symm
 |NotEq=>
  dsimp only[d7]at h;split at h
  . ext hc;symm;simp only[pX,eI]at hc;show Z6 hK hc.1.1 hc.1.2 (by have:=hc.2;lia)
  . symm
 |Lt=>
  dsimp only[d7,Wt]at h;split at h
  .
   split at h
   . symm;show tF Zq
   . symm
  .
   split at h
   .
    split at h
    .
     ext h1;split at h
     . ext h2;symm;show U6 hK ⋯ h1 h2
     . symm
    . symm
   . symm
  . symm
 |LtE=>let(i,j,rfl,rfl,h'):=dY h;cases h';show tF Zr
 |Gt=>
  dsimp only[d7,Wt]at h;split at h
  .
   split at h
   . symm;show tF Zt
   . symm
  .
   split at h
   .
    split at h
    .
     ext h1;split at h
     . ext h2;symm;show Wy hK ⋯ h2 h1
     . symm
    . symm
   . symm
  . symm
 |GtE=>let(i,j,rfl,rfl,h'):=dY h;cases h';show tF Zu
 |In=>
  dsimp only[d7]at h;split at h
  .
   ext hs;split at h
   . ext hc;symm;simp only[jl,eI]at hc;show Z8 hK hs hc.1.1 hc.1.2 (by have:=hc.2;lia)
   . symm
  . symm
 |NotIn=>
  dsimp only[d7]at h;split at h
  .
   ext hs;split at h
   . ext hc;symm;simp only[jl,eI]at hc;show GJ hK hs hc.1.1 hc.1.2 (by have:=hc.2;lia)
   . symm
  . symm
 |Is=>
  dsimp only[d7,isF]at h;split at h
  . symm;show aac
  . symm;show UW
  . symm
 |_=>symm
def WK(hK:z.K=X.K)(hr:X.A.units+1<cLine)(h:uM d1 d2=!d):ZW X z d1 d2 (.dat d):=by
 delta uM at h;split at h
 . show U4 hK h
 . show U5 hK h
 . show Nf hK h
 . symm
abbrev blV:Bl->Str×Value
 |.len=>("len",.builtin "len")
 |.list=>("list",.type "list")
 |.tuple=>("tuple",.type "tuple")
 |.max=>("max",.builtin "max")
 |.min=>("min",.builtin "min")
 |.str=>("str",.type "str")
 |.all=>("all",.builtin "all")
 |.any=>("any",.builtin "any")
 |.int=>("int",.type "int")
 |.sorted=>("sorted",.builtin "sorted")
 |.sum=>("sum",.builtin "sum")
def WL{b:Bl}{d:D}{r:R}(hK:z.K=X.K)(hc:X.calm=true)(hr:X.A.units+6<cLine)(h:R0 b d=!r):CallD X z (blV b).2 [d] r:=by
 cases b <;> dsimp only[R0]at h
 case len=>
  split at h
  . ext e;symm;show U7 hK e
  . symm
 case list=>
  split at h
  . ext e;symm;show Ng hK e
  . symm
 case tuple=>
  split at h
  . ext e;symm;show GP hK e
  . symm
 case min=>
  split at h
  .
   ext e1;split at h
   . ext e4;symm;show Oh hc hr hK e1 e4
   . symm
  . symm
 case all=>
  split at h
  .
   split at h
   . ext e;symm;show Va hc e
   . symm
  . symm
 case sorted=>
  split at h
  .
   ext e1;split at h
   .
    ext e2;split at h
    . ext e3;symm;show De hK e1 e2 e3
    . symm
   .
    split at h
    .
     split at h
     .
      ext e2;split at h
      . ext e3;symm;show yN hK e2 e3
      . symm
     . symm
    . symm
  . symm
 all_goals symm
def WM{b:Bl}{ds:List D}{r:R}(hK:z.K=X.K)(hc:X.calm=true)(hr:X.A.units+6<cLine)(h:nM b ds=!r):CallD X z (blV b).2 ds r:=by
 delta nM at h;split at h
 . show WL hK hc hr h
 .
  cases b with
  |max=>let(i,j,rfl,rfl,h'):=dY h;cases h';show U8 hc
  |min=>let(i,j,rfl,rfl,h'):=dY h;cases h';show U9 hc
  |_=>symm
 . symm
abbrev mtNm:Mt->Str
 |.count=> "count"
 |.index=> "index"
abbrev zc:Mt->D->String
 |.count,d=>cntId d
 |.index,d=>HJ d
def WN{m:Mt}{d0 d1 x:D}(hK:z.K=X.K)(hr:gQ k X.A)(h:mtF m d0 d1=!x):HF X z (zc m d0) d0 d1 (.dat x):=by
 have hu:=hr.un;delta mtF at h;split at h
 . symm
 .
  split at h
  .
   ext hs;split at h
   .
    ext hc;split at h
    . ext hj;symm;simp only[jl,eI]at hc;show HQ hK hs hc.1.1 hc.1.2 (by have:=hc.2;lia) hj
    . symm
   . symm
  . symm
def Px(hs:cJ d=!l)(he:zc m d0=zc m d):PlainAttrs (xU d)/\PySem.Slot (xU d) (mtNm m) (zc m d0)/\typeOf (.builtin (zc m d0))=pure (.type "method_descriptor"):=by
 rw[he];cases d with
 |tup _=>cases m;show#[F.plainAttrs_tuple,F.slot_tuple_count,F.type_tuple_count];show#[F.plainAttrs_tuple,F.slot_tuple_index,F.type_tuple_index]
 |lst _=>cases m;show#[DD,F.slot_list_count,F.type_list_count];show#[DD,F.slot_list_index,F.type_list_index]
 |fix _=>cases m;show#[DD,F.slot_list_count,F.type_list_count];show#[DD,F.slot_list_index,F.type_list_index]
 |_=>cases hs
def Py(h1:pk r g1=!d)(h2:pk r g2=!d0):zc m d0=zc m d:=by
 cases r with
 |dat x=>cases h1;cases h2;rfl
 |new _=>cases h1
 |var i=>
  delta pk at h1 h2;have key:∀{g:G}{d:D},(match g[i]? with |!(.own l)=>!(D.lst l) |!(.dat (.lst l))=>!(.lst l) |_=>none)=!d->∃l,d=.lst l:=λ{g d} h=>by
   split at h
   . symm;show#[_,rfl]
   . symm;show#[_,rfl]
   . symm
  let(l1,rfl):=key h1;let(l2,rfl):=key h2;cases m <;> rfl
abbrev zf:List String:=["int", "bool", "str", "tuple", "list", "dict"]
def Jz{K:Frag}{M:List Addr}{H:Hp}{v:V}{d:D}(p:Pk K M H d v){n:String}(hn:n∈zf):PySem.W.kitOne K (tyW d) (.type n)=!(qM (xU d) n):=by
 cases d with
 |Gs C=>
  cases p with
  |of q=>
   cases q with
   |Gs k _ _=>apply (k.kit n hn).trans ?_;delta zf at hn;simp only[eC,x3,ED]at hn;rcases hn with rfl |rfl |rfl |rfl |rfl |rfl <;> first |rfl |decide
 |_=>delta zf at hn;simp only[eC,x3,ED]at hn;rcases hn with rfl |rfl |rfl |rfl |rfl |rfl <;> first |rfl |decide
end
abbrev zg(sc scope:Scope):Bool:=decide (scope.kind=.function)&&scope.names.all λy=>decide (y.2≠.cell)&&(decide (y.2≠.local)||decide (scope.names.lookup y.1=some .local)) &&
 (decide (y.2≠.free)||(decide (scope.names.lookup y.1=some .free)&&(decide (sc.names.lookup y.1=some .cell)||decide (sc.names.lookup y.1=some .free))))
abbrev jD(N N':List Str)(scope:Scope)(k:Nat):Bool:=decide (N'.length=N.length+(k+1))&&(match N'[N.length+k]? with |some x=>decide (scope.names.lookup x=none) |none=>true) &&
 (List.range N.length).all λi=>match N'[i]? with |some x=>decide (scope.names.lookup x=none)||(decide (N[i]?=!x)&&decide (scope.names.lookup x≠some .local)) |none=>true
inductive Ej(c:Ct):List Expr->List Nat->Prop
 |nil:Ej c [] []
 |cons {x:Str}{i:Nat}{pos:Pos}{es:List Expr}{is:List Nat}:c.N[i]?=!x->fX c x=true->Ej c es is->Ej c (.Name x pos::es) (i::is)
inductive JB(P:Pg)(c:Ct):List Expr->List String->Prop
 |nil:JB P c [] []
 |cons {T:Str}{n:String}{pos:Pos}{es:List Expr}{ns:List String}:T∈P.bn->c.sc.names.lookup T=some .globalImplicit->T=Str.ofString n->n∈zf->JB P c es ns->JB P c (.Name T pos::es) (n::ns)
inductive Ek(c:Ct):Expr->Tg->Prop
 |nm:c.N[i]?=!x->fX c x=true->Ek c (.Name x pos) (.nm i)
 |tp:Ej c es is->Ek c (.Tuple es k pos) (.tp is)
abbrev WQ(c:Ct)(x y:Str)(px py:Pos)(a b:Expr):Bool:=(c.sc.names.lookup x==some .local)&&(c.sc.names.lookup y==some .local)&&py.line==px.line&&(not (x==y))&&(not (foldedForSure 8 a&&foldedForSure 8 b))&&(not (constantsAlone 8 a&&constantsAlone 8 b))&&c.df
abbrev WR(c:Ct)(x y q:Str)(px py pq:Pos)(a b d:Expr):Bool:=(c.sc.names.lookup x==some .local)&&(c.sc.names.lookup y==some .local)&&(c.sc.names.lookup q==some .local)&&py.line==px.line&&pq.line==px.line&&(not (x==y))&&(not (x==q))&&(not (y==q))&&(not ((foldedForSure 8 a&&(foldedForSure 8 b&&foldedForSure 8 d))))&&(not ((constantsAlone 8 a&&(constantsAlone 8 b&&constantsAlone 8 d))))&&c.df
abbrev Pz(c:Ct)(y:Str)(py pos:Pos)(scope:Scope):Bool:=(c.sc.names.lookup y==some .local)&&py.line==pos.line&&(not ((scope.names.any λ(n,k)=>n==y&&(k==.local||k==.cell))))
abbrev nmW(e:Expr):Option Str:=match e with |.Name x _=>!x |_=>none
abbrev tpN(n:Nat)(e:Expr):Bool:=match e with |.Tuple vs _ _=>decide (vs.length=n) |_=>false
abbrev celN(c:Ct)(a:Expr):Bool:=match nmW a with |some x=>decide (c.sc.names.lookup x=some .cell) |none=>false
abbrev PB(c:Ct)(es:List Expr)(e:Expr):Bool:=tpN es.length e&&(c.df&&es.any (celN c))
inductive wH(R:Expr->Ex->Prop):List Expr->List Ex->Prop
 |nil:wH R [] []
 |cons {e:Expr}{es:List Expr}{x:Ex}{xs:List Ex}:R e x->wH R es xs->wH R (e::es) (x::xs)
inductive Bg(R:Expr->Ex->Prop):List Expr->Option Ex->Prop
 |none:Bg R [] Option.none
 |some {e:Expr}{x:Ex}:R e x->Bg R [e] (Option.some x)
inductive wI(P:Pg)(R:Expr->Ex->Prop)(c:Ct):Expr->Ex->Prop
 |seq:R e x->wI P R c e x
 |dc:R a xa->("range":Str)∈P.bn->c.sc.names.lookup ("range":Str)=some .globalImplicit->wI P R c (.Call (.Name "range" p) [a] [] pos) (.dc xa)
 |gG:R a xa->R b xb->("range":Str)∈P.bn->c.sc.names.lookup ("range":Str)=some .globalImplicit->wI P R c (.Call (.Name "range" p) [a,b] [] pos) (.gG xa xb)
 |m8:R a xa->R b xb->R s xs->("range":Str)∈P.bn->c.sc.names.lookup ("range":Str)=some .globalImplicit->wI P R c (.Call (.Name "range" p) [a,b,s] [] pos) (.m8 xa xb xs)
 |enum:R a xa->("enumerate":Str)∈P.bn->c.sc.names.lookup ("enumerate":Str)=some .globalImplicit->wI P R c (.Call (.Name "enumerate" p) [a] [] pos) (.enum xa)
abbrev PJ(e:Expr):Option Str:=match e with |.Name x _=>!x |_=>none
def ug{e:Expr}{x:Str}(h:PJ e=!x):∃p,e=.Name x p:=by cases e <;> first | (symm;show#[_,rfl]) |symm
abbrev JC{α:Type}(l:List α):Option α:=match l with | [a]=>!a |_=>none
def nO{α:Type}{l:List α}{a:α}(h:JC l=!a):l=[a]:=by
 cases l with
 |nil=>symm
 |cons b l=>cases l with
  |nil=>symm;rfl
  |cons _ _=>symm
abbrev asgV(s:Stmt):Option (List Expr×Expr):=match s with |.Assign ts e _=>!(ts,e) |_=>none
def PK{s:Stmt}{r:List Expr×Expr}(h:asgV s=!r):∃p,s=.Assign r.1 r.2 p:=by cases s <;> first | (symm;show#[_,rfl]) |symm
abbrev cstV(e:Expr):Option Const:=match e with |.Constant c _ _=>!c |_=>none
def PL(h:cstV e=!c):∃j p,e=.Constant c j p:=by cases e <;> first | (symm;show#[_,_,rfl]) |symm
abbrev nonV(c:Const):Option Unit:=match c with |.none=>!() |_=>none
def PN(h:nonV c=!()):c=.none:=by cases c <;> first |rfl |symm
abbrev expV(s:Stmt):Option Expr:=match s with |.Expr e _=>!e |_=>none
def PX{s:Stmt}{e:Expr}(h:expV s=!e):∃p,s=.Expr e p:=by cases s <;> first | (symm;show#[_,rfl]) |symm
abbrev calV(e:Expr):Option (Expr×List Expr×List Keyword):=match e with |.Call f as ks _=>!(f,as,ks) |_=>none
def P0{e:Expr}{r:Expr×List Expr×List Keyword}(h:calV e=!r):∃p,e=.Call r.1 r.2.1 r.2.2 p:=by cases e <;> first | (symm;show#[_,rfl]) |symm
abbrev tryV(s:Stmt):Option (List Stmt×List ExceptHandler×List Stmt×List Stmt):=match s with |.Try b h o f _=>!(b,h,o,f) |_=>none
def P1{s:Stmt}{r:List Stmt×List ExceptHandler×List Stmt×List Stmt}(h:tryV s=!r):∃p,s=.Try r.1 r.2.1 r.2.2.1 r.2.2.2 p:=by cases s <;> first | (symm;show#[_,rfl]) |symm
abbrev JD{α:Type}(l:List α):Option Unit:=match l with | []=>!() |_=>none
def nP{α:Type}{l:List α}(h:JD l=!()):l=[]:=by cases l with |nil=>rfl |cons _ _=>symm
abbrev hanV(h:ExceptHandler):Option (Expr×Str×List Stmt):=match h with |.ExceptHandler t n b _=>t.bind λt=>n.bind λn=>!(t,n,b)
def P4{h:ExceptHandler}{r:Expr×Str×List Stmt}(e:hanV h=!r):∃p,h=.ExceptHandler (!r.1) (!r.2.1) r.2.2 p:=by
 let(t,n,b,p):=h;cases t with
 |none=>cases e
 |some t=>cases n with
  |none=>cases e
  |some n=>cases e;show#[p,rfl]
abbrev Bh(s:Stmt):Option (Str×Expr):=(asgV s).bind λr=>(JC r.1).bind λt=>(PJ t).bind λx=>!(x,r.2)
def wJ{s:Stmt}{r:Str×Expr}(h:Bh s=!r):∃p q,s=.Assign [.Name r.1 p] r.2 q:=by delta Bh at h;simp only[hU]at h;let((ts,e),h1,t,h2,x,h3,h4):=h;cases h4;let(p,rfl):=PK h1;let(q,rfl):=ug h3;have:=nO h2;subst this;show#[q,p,rfl]
abbrev WT(l:List Stmt):Option Str:=(JC l).bind λs3=>(expV s3).bind λce=>(calV ce).bind λf=>(JD f.2.1).bind λ_=>(JD f.2.2).bind λ_=>PJ f.1
def calS_ok{l:List Stmt}{y:Str}(h:WT l=!y):∃py cp ep,l=[.Expr (.Call (.Name y py) [] [] cp) ep]:=by replace h:=hU.1 h;let(s3,h1,h):=h;cases nO h1;clear h1;replace h:=hU.1 h;let(ce,h1,h):=h;let(p,e1):=PX h1;cases e1;clear h1;replace h:=hU.1 h;let((f1,f2,f3),h1,h):=h;let(q,e1):=P0 h1;cases e1;clear h1;replace h:=hU.1 h;let(_,h1,h):=h;replace h:=hU.1 h;let(_,h2,h):=h;let(r,e1):=ug h;show#[r,q,p,by have a:=nP h1;have b:=nP h2;dsimp only at a b e1 ⊢;rw[a,b,e1]]
abbrev WW(l:List ExceptHandler):Option (Str×Str×Str×Str):=(JC l).bind λhh=>(hanV hh).bind λu=>(PJ u.1).bind λke=>(JC u.2.2).bind λs4=>(Bh s4).bind λb=>(PJ b.2).bind λen'=>!(ke,u.2.1,b.1,en')
def hanS_ok{l:List ExceptHandler}{r:Str×Str×Str×Str}(h:WW l=!r):∃kp erp enp ap hp,l=[.ExceptHandler (!(.Name r.1 kp)) (!r.2.1) [.Assign [.Name r.2.2.1 erp] (.Name r.2.2.2 enp) ap] hp]:=by replace h:=hU.1 h;let(hh,h1,h):=h;cases nO h1;clear h1;replace h:=hU.1 h;let((u1,u2,u3),h1,h):=h;let(p,e1):=P4 h1;cases e1;clear h1;replace h:=hU.1 h;let(ke,h1,h):=h;let(q,e1):=ug h1;cases e1;clear h1;replace h:=hU.1 h;let(s4,h1,h):=h;cases nO h1;clear h1;replace h:=hU.1 h;let((b1,b2),h1,h):=h;let(m,n,e1):=wJ h1;cases e1;clear h1;replace h:=hU.1 h;let(en,h1,h):=h;let(o,e1):=ug h1;cases e1;clear h1;symm;show#[q,m,o,n,p,rfl]
abbrev nonS(s:Stmt):Option Str:=(Bh s).bind λa=>(cstV a.2).bind λc=>(nonV c).bind λ_=>!a.1
def nonS_ok(h:nonS s=!x):∃p j np ap,s=.Assign [.Name x p] (.Constant .none j np) ap:=by replace h:=hU.1 h;let((a1,a2),h1,h):=h;let(p,q,e1):=wJ h1;cases e1;clear h1;replace h:=hU.1 h;let(c,h1,h):=h;let(j,m,e1):=PL h1;cases e1;clear h1;replace h:=hU.1 h;let(_,h1,h):=h;cases PN h1;clear h1;symm;show#[p,j,m,q,rfl]
abbrev tryS(s:Stmt):Option (Str×Str×Str×Str×Str):=(tryV s).bind λt=>(JD t.2.2.1).bind λ_=>(JD t.2.2.2).bind λ_=>(WT t.1).bind λy=>(WW t.2.1).bind λu=>!(y,u)
def tryS_ok{s:Stmt}{r:Str×Str×Str×Str×Str}(h:tryS s=!r):∃l hs p,WT l=!r.1/\WW hs=!r.2/\s=.Try l hs [] [] p:=by replace h:=hU.1 h;let((t1,t2,t3,t4),h1,h):=h;let(p,e1):=P1 h1;cases e1;clear h1;replace h:=hU.1 h;let(_,h1,h):=h;cases nP h1;clear h1;replace h:=hU.1 h;let(_,h1,h):=h;cases nP h1;clear h1;replace h:=hU.1 h;let(y,h1,h):=h;replace h:=hU.1 h;let(u,h2,h):=h;symm;show#[t1,t2,p,h1,h2,rfl]
meta abbrev p0:Pos:=#[0,0,0,0]
inductive zh(RG:List Stmt->Sm->Prop)(RS:Stmt->Sm->Prop):List Stmt->List Sm->Prop
 |nil:zh RG RS [] []
 |grp {ss aD:List Stmt}{x:Sm}{xs:List Sm}:RG ss x->zh RG RS aD xs->zh RG RS (ss++aD) (x::xs)
 |cons {s:Stmt}{ss:List Stmt}{x:Sm}{xs:List Sm}:RS s x->zh RG RS ss xs->zh RG RS (s::ss) (x::xs)
abbrev uh(k:Scope->Pos->Bool)(e:Expr):Bool:=match e with |.ListComp _ _ s p=>k s p |.DictComp ..=>true |_=>false
def ao{a b:Bool}(h:(a&&b)=true):a=true/\b=true:=by cases a <;> cases b <;> first |show#[rfl,rfl] |symm
def dec{p:Prop} [Decidable p] (h:decide p=true):p:=t5 h
def lI(h:((not b))=true):b=false:=by cases b <;> first |rfl |symm
def two{α:Type}{l:List α}(h:2<=l.length):∃a b m,l=a::b::m:=by
 cases l with
 |nil=>show absurd h (Nat.not_succ_le_zero 1)
 |cons a l=>cases l with
  |nil=>show absurd h (Nat.not_succ_le_self 1)
  |cons b m=>show#[a,b,m,rfl]
abbrev glB(c:Ct)(x:Str):Bool:=decide (c.sc.names.lookup x=some .globalImplicit)
abbrev Bj(P:Pg)(c:Ct)(x:Str):Bool:=P.bn.contains x&&glB c x
def aZ(h:Bj P c x=true):x∈P.bn/\c.sc.names.lookup x=some .globalImplicit:=#[DO.mp (ao h).1,dec (ao h).2]
abbrev nm(c:Ct)(i:Nat):Str:=c.N.getD i Str.empty
abbrev lJ(c:Ct)(i:Nat):Bool:=decide (c.N[i]?=!(nm c i))&&(wG c.sc (nm c i)&&eE (nm c i))
abbrev stB(c:Ct)(i:Nat):Bool:=decide (c.N[i]?=!(nm c i))&&fX c (nm c i)
def fY(h:lJ c i=true):c.N[i]?=!(nm c i)/\wG c.sc (nm c i)=true/\eE (nm c i)=true:=#[dec (ao h).1,(ao (ao h).2).1,(ao (ao h).2).2]
abbrev bang(x:Str):Str:=#[x.cps.push 33]
abbrev bangs(n:Nat):Str:=#[(List.replicate n 33).toArray]
abbrev iQ(scope:Scope):List Str:=scope.names.filterMap λy=>if y.2==.local then some y.1 else none
abbrev iR(N:List Str)(scope:Scope):List Str:=(N.map λy=>if scope.names.lookup y==some .local then bang y else y)++iQ scope++[bangs (N.length+1)]
abbrev um:List Str->Bool
 | []=>true
 |x::l=>(not (l.contains x))&&um l
def je:∀{l:List Str},um l=true->l.Nodup
 | [],_=>AC
 |x::l,h=>by
  apply i7.mpr #[λhm=>?_,je (ao h).2]
  have:=(ao h).1;rw[DO.mpr hm]at this;cases this
abbrev kids(e:Expr):List Expr:=match e with
 |.BoolOp _ vs _=>vs
 |.BinOp a _ b _=>[a,b]
 |.UnaryOp _ a _=>[a]
 |.Lambda _ b _ _=>[b]
 |.IfExp t a b _=>[t,a,b]
 |.ListComp e gs _ _=>e::gs.flatMap λg=>g.target::g.iter::g.ifs
 |.SetComp e gs _ _=>e::gs.flatMap λg=>g.target::g.iter::g.ifs
 |.DictComp e v gs _ _=>e::v::gs.flatMap λg=>g.target::g.iter::g.ifs
 |.Compare a _ bs _=>a::bs
 |.Call f as ks _=>f::(as++ks.map (·.value))
 |.Dict ks vs _=>ks.filterMap id++vs
 |.FormattedValue v _ _ _=>[v]
 |.JoinedStr vs _=>vs
 |.Attribute v _ _=>[v]
 |.Subscript a b _=>[a,b]
 |.List es _=>es
 |.Tuple es _ _=>es
 |.Slice a b s p=>[a.getD (.Name Str.empty p),b.getD (.Name Str.empty p),s.getD (.Name Str.empty p)]
 |_=>[]
abbrev kid(e:Expr)(i:Nat):Expr:=(kids e).getD i e
abbrev ng(e:Expr):Nat:=match e with |.Constant _ k _=>k |.Tuple _ k _=>k |_=>0
abbrev fH(e:Expr):Scope:=match e with |.Lambda _ _ s _=>s |.ListComp _ _ s _=>s |.SetComp _ _ s _=>s |.DictComp _ _ _ s _=>s |_=>aV (.Pass e.pos)
abbrev fZ(c:Ct)(t:Expr):Ct:=#[iR c.N (fH t),fH t,false,Str.empty]
abbrev JF(P:Pg)(i:Nat):Str:=match P.fn[i]? with |some fi=>fi.name |none=>Str.empty
def P5(h:P.fn[i]?.isSome=true):∃fi,P.fn[i]?=!fi/\fi.name=JF P i:=by
 delta JF;cases e:P.fn[i]? with
 |none=>rw[e]at h;symm
 |some g=>show#[g,rfl,rfl]
section
variable{R:Expr->Ex->Prop}{s:Ex->Expr->Expr}{f:Ex->Expr->Bool}(hf:∀{x t},f x t=true->R (s x t) x)
include hf
abbrev nh(s:Ex->Expr->Expr)(t:Expr):Nat->List Ex->List Expr
 |_,[]=>[]
 |i,x::xs=>s x (kid t i)::nh s t (i+1) xs
abbrev P6(f:Ex->Expr->Bool)(t:Expr):Nat->List Ex->Bool
 |_,[]=>true
 |i,x::xs=>f x (kid t i)&&P6 f t (i+1) xs
def fu(h:P6 f t i xs=true):wH R (nh s t i xs) xs:=by
 induction xs generalizing i with
 |nil=>show .nil
 |cons x xs ih=>show .cons (hf (ao h).1) (ih (ao h).2)
abbrev okO(f:Ex->Expr->Bool)(t:Expr)(x:Option Ex):Bool:=match x with |some x=>f x t |none=>true
abbrev wK(s:Ex->Expr->Expr)(t:Expr)(x:Option Ex):List Expr:=match x with |some x=>[s x t] |none=>[]
def zj(h:okO f t x=true):Bg R (wK s t x) x:=by
 cases x with
 |none=>show .none
 |some x=>show .some (hf h)
end
abbrev uo(s:Ex->Expr->Expr)(x:Ex)(t:Expr):Expr:=match x with
 |.dc a=>.Call (.Name "range" (kid t 0).pos) [s a (kid t 1)] [] t.pos
 |.gG a b=>.Call (.Name "range" (kid t 0).pos) [s a (kid t 1),s b (kid t 2)] [] t.pos
 |.m8 a b d=>.Call (.Name "range" (kid t 0).pos) [s a (kid t 1),s b (kid t 2),s d (kid t 3)] [] t.pos
 |.enum a=>.Call (.Name "enumerate" (kid t 0).pos) [s a (kid t 1)] [] t.pos
 |x=>s x t
abbrev YK(P:Pg)(c:Ct)(f:Ex->Expr->Bool)(x:Ex)(t:Expr):Bool:=match x with
 |.dc a=>Bj P c "range" && f a (kid t 1)
 |.gG a b=>Bj P c "range" && (f a (kid t 1)&&f b (kid t 2))
 |.m8 a b d=>Bj P c "range" && (f a (kid t 1)&&(f b (kid t 2)&&f d (kid t 3)))
 |.enum a=>Bj P c "enumerate" && f a (kid t 1)
 |x=>f x t
def uq{P:Pg}{R:Expr->Ex->Prop}{s:Ex->Expr->Expr}{f:Ex->Expr->Bool}(hf:∀{x t},f x t=true->R (s x t) x){c:Ct}{x:Ex}{t:Expr}(h:YK P c f x t=true):wI P R c (uo s x t) x:=by
 cases x
 case dc a=>show .dc (hf (ao h).2) (aZ (ao h).1).1 (aZ (ao h).1).2
 case gG a b=>show .gG (hf (ao (ao h).2).1) (hf (ao (ao h).2).2) (aZ (ao h).1).1 (aZ (ao h).1).2
 case m8 a b d=>show .m8 (hf (ao (ao h).2).1) (hf (ao (ao (ao h).2).2).1) (hf (ao (ao (ao h).2).2).2) (aZ (ao h).1).1 (aZ (ao h).1).2
 case enum a=>show .enum (hf (ao h).2) (aZ (ao h).1).1 (aZ (ao h).1).2
 all_goals show .seq (hf h)
abbrev zl(c:Ct)(t:Expr):Nat->List Nat->List Expr
 |_,[]=>[]
 |j,i::is=>.Name (nm c i) (kid t j).pos::zl c t (j+1) is
abbrev okN(c:Ct):List Nat->Bool
 | []=>true
 |i::is=>stB c i&&okN c is
def WX(h:okN c is=true):Ej c (zl c t j is) is:=by
 induction is generalizing j with
 |nil=>show .nil
 |cons i is ih=>show .cons (dec (ao (ao h).1).1) (ao (ao h).1).2 (ih (ao h).2)
abbrev qN(c:Ct)(T:Tg)(t:Expr):Expr:=match T with
 |.nm i=>.Name (nm c i) t.pos
 |.tp is=>.Tuple (zl c t 0 is) (ng t) t.pos
def qc(h:okN c T.ix=true):Ek c (qN c T t) T:=by
 cases T with
 |nm i=>show .nm (dec (ao (ao h).1).1) (ao (ao h).1).2
 |tp is=>show .tp (WX h)
abbrev WY(a b:D):Bool:=match a with |.int i=>(match b with |.int j=>decide (i=j) |_=>false) |_=>false
def P7(h:WY a b=true):a=b:=by
 cases a with
 |int i=>cases b with
  |int j=>show congrArg D.int (dec (show decide (i=j)=true from h))
  |_=>show nt h
 |_=>show nt h
abbrev ctB(y:Str)(d:D):List (Str×D)->Bool
 | []=>false
 |p::l=>(decide (p.1=y)&&WY p.2 d)||ctB y d l
def W0(h:ctB y d l=true):(y,d)∈l:=by
 induction l with
 |nil=>symm
 |cons p l ih=>
  let(x,d'):=p;have hh:((decide (x=y)&&WY d' d)||ctB y d l)=true:=h
  rcases wS _ _▸hh with h |h
  . let(h1,h2):=ao h;obtain rfl:=dec h1;rw[P7 h2];show dA
  . show b0 _ (ih h)
abbrev cstD(d:D):Const:=match d with |.int i=>.int i |.bl b=>.bool b |.str y=>.str y |_=>.none
abbrev cstK(d:D):Bool:=match d with |.int _=>true |.bl _=>true |.str _=>true |.non=>true |_=>false
abbrev ur(d:D)(t:Expr):Expr:=match PJ t with |some y=>.Name y t.pos |none=>.Constant (cstD d) (ng t) t.pos
abbrev okV(P:Pg)(c:Ct)(d:D)(t:Expr):Bool:=match PJ t with |some y=>glB c y&&ctB y d P.ct |none=>cstK d
abbrev blK(c:Ct)(t:Expr)(k:Nat):Bool:=zg c.sc (fH t)&&(jD c.N (iR c.N (fH t)) (fH t) k&&um (iR c.N (fH t)))
abbrev ixK(c:Ct)(k:Nat)(T:Tg):Bool:=T.ix.all λi=>decide (c.N.length<=i/\i<c.N.length+k)
def zm(h:ixK c k T=true):∀i∈T.ix,c.N.length<=i/\i<c.N.length+k:=λi hi=>dec (nV.mp h i hi)
abbrev o1(x:Option Ex):Nat:=match x with |some _=>1 |none=>0
abbrev P8(P:Pg)(s:Ct->Ex->Expr->Expr)(c:Ct)(x:Ex)(t:Expr):Expr:=match x with
 |.val d=>ur d t
 |.slot i=>.Name (nm c i) t.pos
 |.bin op a b=>.BinOp (s c a (kid t 0)) op (s c b (kid t 1)) t.pos
 |.cmp op a b=>.Compare (s c a (kid t 0)) [op] [s c b (kid t 1)] t.pos
 |.chain a ops xs=>.Compare (s c a (kid t 0)) ops (nh (s c) t 1 xs) t.pos
 |.not a=>.UnaryOp .Not (s c a (kid t 0)) t.pos
 |.and xs=>.BoolOp .And (nh (s c) t 0 xs) t.pos
 |.or xs=>.BoolOp .Or (nh (s c) t 0 xs) t.pos
 |.ite a b d=>.IfExp (s c a (kid t 0)) (s c b (kid t 1)) (s c d (kid t 2)) t.pos
 |.tup xs=>.Tuple (nh (s c) t 0 xs) (ng t) t.pos
 |.lst xs=>.List (nh (s c) t 0 xs) t.pos
 |.ix a b=>.Subscript (s c a (kid t 0)) (s c b (kid t 1)) t.pos
 |.call i xs=>.Call (.Name (JF P i) (kid t 0).pos) (nh (s c) t 1 xs) [] t.pos
 |.blt b xs=>.Call (.Name (blV b).1 (kid t 0).pos) (nh (s c) t 1 xs) [] t.pos
 |.Lq a n=>.Call (.Name "isinstance" (kid t 0).pos) [s c a (kid t 1),.Name (Str.ofString n) (kid t 2).pos] [] t.pos
 |.comp _ _ T it co xe=>.ListComp (s (fZ c t) xe (kid t 0)) [#[qN (fZ c t) T (kid t 1),uo (s c) it (kid t 2),wK (s (fZ c t)) (kid t 3) co,0]] (fH t) t.pos
 |.dX _ _ T1 nL c1 T it co xe=>.ListComp (s (fZ c t) xe (kid t 0)) [#[qN (fZ c t) T1 (kid t 1),uo (s c) nL (kid t 2),wK (s (fZ c t)) (kid t 3) c1,0],#[qN (fZ c t) T (kid t (3+o1 c1)),uo (s (fZ c t)) it (kid t (4+o1 c1)),wK (s (fZ c t)) (kid t (5+o1 c1)) co,0]] (fH t) t.pos
 |.wA _ _ T it co xe=>.Call (.Name "sorted" (kid t 0).pos) [.SetComp (s (fZ c (kid t 1)) xe (kid (kid t 1) 0)) [#[qN (fZ c (kid t 1)) T (kid (kid t 1) 1),uo (s c) it (kid (kid t 1) 2),wK (s (fZ c (kid t 1))) (kid (kid t 1) 3) co,0]] (fH (kid t 1)) (kid t 1).pos] [] t.pos
 |.iP a=>.Call (.Name "list" (kid t 0).pos) [.Call (.Name "range" (kid (kid t 1) 0).pos) [s c a (kid (kid t 1) 1)] [] (kid t 1).pos] [] t.pos
 |.wB a=>.Call (.Name "tuple" (kid t 0).pos) [.Call (.Name "range" (kid (kid t 1) 0).pos) [s c a (kid (kid t 1) 1)] [] (kid t 1).pos] [] t.pos
 |.meth m o x=>.Call (.Attribute (s c o (kid (kid t 0) 0)) (mtNm m) (kid t 0).pos) [s c x (kid t 1)] [] t.pos
 |.append i x=>.Call (.Attribute (.Name (nm c i) (kid (kid t 0) 0).pos) "append" (kid t 0).pos) [s c x (kid t 1)] [] t.pos
 |.extend i x=>.Call (.Attribute (.Name (nm c i) (kid (kid t 0) 0).pos) "extend" (kid t 0).pos) [s c x (kid t 1)] [] t.pos
 |.rU i x=>.Call (.Attribute (.Name (nm c i) (kid (kid t 0) 0).pos) "pop" (kid t 0).pos) [s c x (kid t 1)] [] t.pos
 |_=>t
abbrev YL(t:Expr):Bool:=(kid t 0).pos.endLine==t.pos.line
abbrev ok1(P:Pg)(s:Ct->Ex->Expr->Expr)(f:Ct->Ex->Expr->Bool)(c:Ct)(x:Ex)(t:Expr):Bool:=match x with
 |.val d=>okV P c d t
 |.slot i=>lJ c i
 |.bin _ a b=>f c a (kid t 0)&&f c b (kid t 1)
 |.cmp op a b=>f c a (kid t 0)&&(f c b (kid t 1)&&(not (behindInMarks op (s c b (kid t 1)))))
 |.chain a ops xs=>f c a (kid t 0)&&(P6 (f c) t 1 xs&&((not (lastMarks ops (nh (s c) t 1 xs)))&&(decide (2<=ops.length)&&decide (2<=xs.length))))
 |.not a=>f c a (kid t 0)
 |.and xs=>P6 (f c) t 0 xs
 |.or xs=>P6 (f c) t 0 xs
 |.ite a b d=>f c a (kid t 0)&&(f c b (kid t 1)&&f c d (kid t 2))
 |.tup xs=>P6 (f c) t 0 xs
 |.lst xs=>P6 (f c) t 0 xs
 |.ix a b=>f c a (kid t 0)&&f c b (kid t 1)
 |.call i xs=>P.fn[i]?.isSome&&(glB c (JF P i)&&(P6 (f c) t 1 xs&&(not xs.isEmpty)))
 |.blt b xs=>Bj P c (blV b).1&&(P6 (f c) t 1 xs&&(not xs.isEmpty))
 |.Lq a n=>Bj P c "isinstance" && (f c a (kid t 1)&&(zf.contains n&&Bj P c (Str.ofString n)))
 |.comp n k T it co xe=>decide (n=c.N.length)&&(blK c t k&&(okN (fZ c t) T.ix&&(ixK c k T&&(YK P c (f c) it (kid t 2)&&(okO (f (fZ c t)) (kid t 3) co&&f (fZ c t) xe (kid t 0))))))
 |.dX n k T1 nL c1 T it co xe=>decide (n=c.N.length)&&(blK c t k&&((okN (fZ c t) T1.ix&&okN (fZ c t) T.ix)&&((ixK c k T1&&ixK c k T)&&((YK P c (f c) nL (kid t 2)&&okO (f (fZ c t)) (kid t 3) c1)&&((YK P (fZ c t) (f (fZ c t)) it (kid t (4+o1 c1))&&okO (f (fZ c t)) (kid t (5+o1 c1)) co)&&f (fZ c t) xe (kid t 0))))))
 |.wA n k T it co xe=>Bj P c "sorted" && (decide (n=c.N.length)&&(blK c (kid t 1) k&&(okN (fZ c (kid t 1)) T.ix&&(ixK c k T&&(YK P c (f c) it (kid (kid t 1) 2)&&(okO (f (fZ c (kid t 1))) (kid (kid t 1) 3) co&&f (fZ c (kid t 1)) xe (kid (kid t 1) 0)))))))
 |.iP a=>(Bj P c "range" && Bj P c "list")&&f c a (kid (kid t 1) 1)
 |.wB a=>(Bj P c "range" && Bj P c "tuple")&&f c a (kid (kid t 1) 1)
 |.meth _ o x=>YL t&&(f c o (kid (kid t 0) 0)&&f c x (kid t 1))
 |.append i x=>YL t&&(lJ c i&&f c x (kid t 1))
 |.extend i x=>YL t&&(lJ c i&&f c x (kid t 1))
 |.rU i x=>YL t&&(lJ c i&&f c x (kid t 1))
 |_=>false
abbrev cY(P:Pg):Nat->Ct->Ex->Expr->Expr
 | 0=>λ_ _ t=>t
 |n+1=>P8 P (cY P n)
abbrev ni(P:Pg):Nat->Ct->Ex->Expr->Bool
 | 0=>λ_ _ _=>false
 |n+1=>ok1 P (cY P n) (ni P n)
abbrev Cm(P:Pg)(c:Ct)(e:Expr)(x:Ex):Prop:=∃n t,e=cY P n c x t/\ni P n c x t=true
def Cm.mk{P:Pg}{n:Nat}{c:Ct}{x:Ex}{t:Expr}(h:ni P n c x t=true):Cm P c (cY P n c x t) x:=#[n,t,rfl,h]
def Cm.W2(h:Cm P c e x):∃n t,e=P8 P (cY P n) c x t/\ok1 P (cY P n) (ni P n) c x t=true:=by
 let(n,t,rfl,h):=h;cases n with
 |zero=>symm
 |succ n=>show#[n,t,rfl,h]
def Cm.notW(h:Cm P c e x):isW x=false:=by let(n,t,_,q):=h.W2;cases x <;> first |rfl |show Bool.noConfusion (show false=true from q)
meta abbrev JG (P:Pg) (c:Ct) (es:List Expr) (xs:List Ex):Prop:=wH (Cm P c) es xs
meta abbrev nj (P:Pg) (c:Ct) (es:List Expr) (x:Option Ex):Prop:=Bg (Cm P c) es x
meta abbrev Lr (P:Pg) (c:Ct) (e:Expr) (x:Ex):Prop:=wI P (Cm P c) c e x
abbrev ek(t:Stmt):List Expr:=match t with
 |.Return o p=>[o.getD (.Name Str.empty p)]
 |.Assign ts e _=>e::ts
 |.AugAssign a _ e _=>[a,e]
 |.For a b _ _ _=>[a,b]
 |.While a _ _ _=>[a]
 |.If a _ _ _=>[a]
 |.Raise o _ p=>[o.getD (.Name Str.empty p)]
 |.Expr e _=>[e]
 |_=>[]
abbrev az(t:Stmt)(i:Nat):Expr:=(ek t).getD i (.Name Str.empty t.pos)
abbrev Ls(t:Stmt):List Stmt:=match t with |.For _ _ b _ _=>b |.While _ b _ _=>b |.If _ b _ _=>b |_=>[]
abbrev bd1(t:Stmt):List Stmt:=match t with |.If _ _ b _=>b |_=>[]
abbrev sg(l:List Stmt)(i:Nat):Stmt:=l.getD i (.Pass p0)
abbrev noTup(e:Expr):Bool:=match e with |.Tuple _ _ _=>false |_=>true
inductive CmG(P:Pg)(R:Expr->Ex->Prop)(RS:Stmt->Sm->Prop)(c:Ct):List Stmt->Sm->Prop
 |rows {y x mn a b tn:Str}{im it iy ia ib:Nat}{scope:Scope}{N':List Str}{k j:Nat}{lp px rp mp YF V2 ap py pa pb Fp y1 y2 a1 a2 b1 b2 sp1 sp2 RM RP RN Lk ep1 ep2 Ii rpos yr tp:Pos}{tk:Nat} :
   (c.N[im]?=!mn/\wG c.sc mn=true/\eE mn=true)->(c.N[it]?=!tn/\wG c.sc tn=true/\eE tn=true)->(c.N[iy]?=!y/\Pz c y py V2 scope=true/\eE y=true)->
   ((c.N[ia]?=!a/\wG c.sc a=true/\eE a=true)/\fX c a=true)->((c.N[ib]?=!b/\wG c.sc b=true/\eE b=true)/\fX c b=true)->(ia≠iy/\ib≠iy/\ia≠ib)->
   (j<k/\zg c.sc scope=true/\jD c.N N' scope k=true/\N'.Nodup/\N'[c.N.length+j]?=!x/\fX #[N',scope,false,Str.empty] x=true)->(("range":Str)∈P.bn/\c.sc.names.lookup ("range":Str)=some .globalImplicit)->(RM.endLine==RN.line)=true->(RP.endLine==Lk.line)=true->
   CmG P R RS c [.Assign [.Name y py] (.ListComp (.List [] lp) [#[.Name x px,.Call (.Name "range" rp) [.Name mn mp] [] YF,[],0]] scope V2) ap,.For (.Tuple [.Name a pa,.Name b pb] tk Fp) (.Name tn tp) [.Expr (.Call (.Attribute (.Subscript (.Name y y1) (.Name a a1) sp1) "append" RM) [.Name b b1] [] RN) ep1,.Expr (.Call (.Attribute (.Subscript (.Name y y2) (.Name b b2) sp2) "append" RP) [.Name a a2] [] Lk) ep2] [] Ii,.Return (!(.Name y yr)) rpos] (.rows im it iy ia ib)
abbrev W3:Sm->Nat
 |.rows _ _ _ _ _=>3
 |_=>0
abbrev qO(fg:Sm->List Stmt->List Stmt)(fs:Sm->Stmt->Stmt):List Sm->List Stmt->List Stmt
 | [],_=>[]
 |x::xs,ss=>if 0<W3 x then fg x (ss.take (W3 x))++qO fg fs xs (ss.drop (W3 x))else fs x (sg ss 0)::qO fg fs xs ss.tail
abbrev Lv(fg:Sm->List Stmt->Bool)(fs:Sm->Stmt->Bool):List Sm->List Stmt->Bool
 | [],_=>true
 |x::xs,ss=>if 0<W3 x then fg x (ss.take (W3 x))&&Lv fg fs xs (ss.drop (W3 x))else fs x (sg ss 0)&&Lv fg fs xs ss.tail
def W4(hg:∀{x ss},kg x ss=true->RG (sg' x ss) x)(hs:∀{x t},ks x t=true->RS (ss' x t) x)(h:Lv kg ks xs ss=true):zh RG RS (qO sg' ss' xs ss) xs:=by
 induction xs generalizing ss with
 |nil=>show .nil
 |cons x xs ih=>
  delta Lv at h;delta qO;by_cases hx:0<W3 x
  .
   rw[fR hx]at h ⊢
   show .grp (hg (ao h).1) (ih (ao h).2)
  .
   rw[eR hx]at h ⊢
   show .cons (hs (ao h).1) (ih (ao h).2)
abbrev rapS(y a b:Str)(t:Stmt):Stmt:=.Expr (.Call (.Attribute (.Subscript (.Name y (kid (kid (kid (az t 0) 0) 0) 0).pos) (.Name a (kid (kid (kid (az t 0) 0) 0) 1).pos) (kid (kid (az t 0) 0) 0).pos) "append" (kid (az t 0) 0).pos) [.Name b (kid (az t 0) 1).pos] [] (az t 0).pos) t.pos
abbrev nmE(e:Expr):Str:=(PJ e).getD Str.empty
abbrev bvK(c:Ct)(sc:Scope)(x:Str):Bool:=zg c.sc sc&&(jD c.N (iR c.N sc) sc (iQ sc).length&&(um (iR c.N sc)&&(decide ((iQ sc).idxOf x<(iQ sc).length/\(iR c.N sc)[c.N.length+(iQ sc).idxOf x]?=!x)&&fX #[iR c.N sc,sc,false,Str.empty] x)))
abbrev Se(c:Ct)(im it iy ia ib:Nat)(ss:List Stmt):List Stmt:=
 [.Assign [.Name (nm c iy) (az (sg ss 0) 1).pos] (.ListComp (.List [] (kid (az (sg ss 0) 0) 0).pos) [#[.Name (nmE (kid (az (sg ss 0) 0) 1)) (kid (az (sg ss 0) 0) 1).pos,.Call (.Name "range" (kid (kid (az (sg ss 0) 0) 2) 0).pos) [.Name (nm c im) (kid (kid (az (sg ss 0) 0) 2) 1).pos] [] (kid (az (sg ss 0) 0) 2).pos,[],0]] (fH (az (sg ss 0) 0)) (az (sg ss 0) 0).pos) (sg ss 0).pos,
 .For (.Tuple [.Name (nm c ia) (kid (az (sg ss 1) 0) 0).pos,.Name (nm c ib) (kid (az (sg ss 1) 0) 1).pos] (ng (az (sg ss 1) 0)) (az (sg ss 1) 0).pos) (.Name (nm c it) (az (sg ss 1) 1).pos) [rapS (nm c iy) (nm c ia) (nm c ib) (sg (Ls (sg ss 1)) 0),rapS (nm c iy) (nm c ib) (nm c ia) (sg (Ls (sg ss 1)) 1)] [] (sg ss 1).pos,
 .Return (!(.Name (nm c iy) (az (sg ss 2) 0).pos)) (sg ss 2).pos]
abbrev Sf(P:Pg)(c:Ct)(im it iy ia ib:Nat)(ss:List Stmt):Bool:=decide (ia≠iy/\ib≠iy/\ia≠ib)&&(lJ c im&&(lJ c it&&((lJ c iy&&Pz c (nm c iy) (az (sg ss 0) 1).pos (az (sg ss 0) 0).pos (fH (az (sg ss 0) 0)))&&((lJ c ia&&fX c (nm c ia))&&((lJ c ib&&fX c (nm c ib)) &&
 (bvK c (fH (az (sg ss 0) 0)) (nmE (kid (az (sg ss 0) 0) 1))&&(Bj P c "range" && (YL (az (sg (Ls (sg ss 1)) 0) 0)&&YL (az (sg (Ls (sg ss 1)) 1) 0)))))))))
def JH{P:Pg}{R:Expr->Ex->Prop}{RS:Stmt->Sm->Prop}{c:Ct}{im it iy ia ib:Nat}{ss:List Stmt}(h:Sf P c im it iy ia ib ss=true):CmG P R RS c (Se c im it iy ia ib ss) (.rows im it iy ia ib):=by let(h1,a1):=ao h;let(h2,a2):=ao a1;let(h3,a3):=ao a2;let(h4,a4):=ao a3;let(h5,a5):=ao a4;let(h6,a6):=ao a5;let(h7,a7):=ao a6;let(h8,a8):=ao a7;let(k1,k2):=ao (ao h7).2;show .rows (fY h2) (fY h3) #[(fY (ao h4).1).1,(ao h4).2,(fY (ao h4).1).2.2] #[fY (ao h5).1,(ao h5).2] #[fY (ao h6).1,(ao h6).2] (dec h1) #[(dec (ao (ao k2).2).1).1,(ao h7).1,k1,je (ao k2).1,(dec (ao (ao k2).2).1).2,(ao (ao k2).2).2] (aZ h8) (ao a8).1 (ao a8).2
abbrev W5(P:Pg)(m:Nat)(fs:Sm->Stmt->Stmt)(c:Ct)(x:Sm)(ss:List Stmt):List Stmt:=match x with
 |.rows im it iy ia ib=>Se c im it iy ia ib ss
 |_=>ss
abbrev W6(P:Pg)(m:Nat)(ks:Sm->Stmt->Bool)(c:Ct)(x:Sm)(ss:List Stmt):Bool:=match x with
 |.rows im it iy ia ib=>Sf P c im it iy ia ib ss
 |_=>false
def W7(hs:∀{x t},ks x t=true->RS (fs x t) x)(h:W6 P m ks c x ss=true):CmG P (Cm P c) RS c (W5 P m fs c x ss) x:=by
 cases x
 case rows im it iy ia ib=>show JH h
 all_goals show nt h
abbrev srS1(P:Pg)(m:Nat)(fs:Sm->Stmt->Stmt)(c:Ct)(x:Sm)(t:Stmt):Stmt:=match x with
 |.ret x=>.Return (!(cY P (m+1) c x (az t 0))) t.pos
 |.expr x=>.Expr (cY P (m+1) c x (az t 0)) t.pos
 |.set i x=>.Assign [.Name (nm c i) (az t 1).pos] (cY P (m+1) c x (az t 0)) t.pos
 |.setC i x=>.Assign [.Name (nm c i) (az t 1).pos] (cY P (m+1) c x (az t 0)) t.pos
 |.tgt T x=>.Assign [qN c T (az t 1)] (cY P (m+1) c x (az t 0)) t.pos
 |.item i xj x=>.Assign [.Subscript (.Name (nm c i) (kid (az t 1) 0).pos) (cY P (m+1) c xj (kid (az t 1) 1)) (az t 1).pos] (cY P (m+1) c x (az t 0)) t.pos
 |.aug i op x=>.AugAssign (.Name (nm c i) (az t 0).pos) op (cY P (m+1) c x (az t 1)) t.pos
 |.par i j a b=>.Assign [.Tuple [.Name (nm c i) (kid (az t 1) 0).pos,.Name (nm c j) (kid (az t 1) 1).pos] (ng (az t 1)) (az t 1).pos] (.Tuple [cY P (m+1) c a (kid (az t 0) 0),cY P (m+1) c b (kid (az t 0) 1)] (ng (az t 0)) (az t 0).pos) t.pos
 |.tri i j l a b d=>.Assign [.Tuple [.Name (nm c i) (kid (az t 1) 0).pos,.Name (nm c j) (kid (az t 1) 1).pos,.Name (nm c l) (kid (az t 1) 2).pos] (ng (az t 1)) (az t 1).pos] (.Tuple [cY P (m+1) c a (kid (az t 0) 0),cY P (m+1) c b (kid (az t 0) 1),cY P (m+1) c d (kid (az t 0) 2)] (ng (az t 0)) (az t 0).pos) t.pos
 |.items2 i x j y e=>.Assign [.Tuple [.Subscript (.Name (nm c i) (kid (kid (az t 1) 0) 0).pos) (cY P (m+1) c x (kid (kid (az t 1) 0) 1)) (kid (az t 1) 0).pos,.Subscript (.Name (nm c j) (kid (kid (az t 1) 1) 0).pos) (cY P (m+1) c y (kid (kid (az t 1) 1) 1)) (kid (az t 1) 1).pos] (ng (az t 1)) (az t 1).pos] (cY P (m+1) c e (az t 0)) t.pos
 |.ite e a b=>.If (cY P (m+1) c e (az t 0)) (qO (W5 P m fs c) fs a (Ls t)) (qO (W5 P m fs c) fs b (bd1 t)) t.pos
 |.loop T it b=>.For (qN c T (az t 0)) (uo (cY P (m+1) c) it (az t 1)) (qO (W5 P m fs c) fs b (Ls t)) [] t.pos
 |.while e b=>.While (cY P (m+1) c e (az t 0)) (qO (W5 P m fs c) fs b (Ls t)) [] t.pos
 |_=>t
abbrev okS1(P:Pg)(m:Nat)(ks:Sm->Stmt->Bool)(c:Ct)(x:Sm)(t:Stmt):Bool:=match x with
 |.ret x=>ni P (m+1) c x (az t 0)
 |.expr x=>ni P (m+1) c x (az t 0)&&(not (uh (λ_ _=>true) (cY P (m+1) c x (az t 0))))
 |.set i x=>stB c i&&(ni P (m+1) c x (az t 0)&&(not (uh (λs p=>Pz c (nm c i) (az t 1).pos p s) (cY P (m+1) c x (az t 0)))))
 |.setC i x=>decide (c.N[i]?=!(nm c i))&&(Pz c (nm c i) (az t 1).pos (az t 0).pos (fH (az t 0))&&(ni P (m+1) c x (az t 0)&&(match x with
  |.comp _ _ _ _ _ _=>true
  |.dX _ _ _ _ _ _ _ _ _=>true
  |_=>false)))
 |.tgt T x=>(match T with |.tp is=>noTup (cY P (m+1) c x (az t 0))||PB c (zl c (az t 1) 0 is) (cY P (m+1) c x (az t 0)) |_=>false)&&(okN c T.ix&&(ni P (m+1) c x (az t 0)&&(not (uh (λ_ _=>true) (cY P (m+1) c x (az t 0))))))
 |.item i xj x=>lJ c i&&(ni P (m+1) c xj (kid (az t 1) 1)&&(ni P (m+1) c x (az t 0)&&(not (uh (λ_ _=>true) (cY P (m+1) c x (az t 0))))))
 |.aug i _ x=>stB c i&&ni P (m+1) c x (az t 1)
 |.par i j a b=>decide (c.N[i]?=!(nm c i)/\c.N[j]?=!(nm c j)/\i≠j)&&(WQ c (nm c i) (nm c j) (kid (az t 1) 0).pos (kid (az t 1) 1).pos (cY P (m+1) c a (kid (az t 0) 0)) (cY P (m+1) c b (kid (az t 0) 1))&&(ni P (m+1) c a (kid (az t 0) 0)&&ni P (m+1) c b (kid (az t 0) 1)))
 |.tri i j l a b d=>decide (c.N[i]?=!(nm c i)/\c.N[j]?=!(nm c j)/\c.N[l]?=!(nm c l)/\i≠j/\i≠l/\j≠l)&&(WR c (nm c i) (nm c j) (nm c l) (kid (az t 1) 0).pos (kid (az t 1) 1).pos (kid (az t 1) 2).pos (cY P (m+1) c a (kid (az t 0) 0)) (cY P (m+1) c b (kid (az t 0) 1)) (cY P (m+1) c d (kid (az t 0) 2))&&(ni P (m+1) c a (kid (az t 0) 0)&&(ni P (m+1) c b (kid (az t 0) 1)&&ni P (m+1) c d (kid (az t 0) 2))))
 |.items2 i x j y e=>(lJ c i&&lJ c j)&&((ni P (m+1) c x (kid (kid (az t 1) 0) 1)&&ni P (m+1) c y (kid (kid (az t 1) 1) 1))&&(ni P (m+1) c e (az t 0)&&(not (uh (λ_ _=>true) (cY P (m+1) c e (az t 0))))))
 |.ite e a b=>ni P (m+1) c e (az t 0)&&(Lv (W6 P m ks c) ks a (Ls t)&&Lv (W6 P m ks c) ks b (bd1 t))
 |.loop T it b=>okN c T.ix&&(YK P c (ni P (m+1) c) it (az t 1)&&Lv (W6 P m ks c) ks b (Ls t))
 |.while e b=>ni P (m+1) c e (az t 0)&&Lv (W6 P m ks c) ks b (Ls t)
 |.stuck=>true
 |_=>false
abbrev Sh(P:Pg)(m:Nat):Nat->Ct->Sm->Stmt->Stmt
 | 0=>λ_ _ t=>t
 |n+1=>λc=>srS1 P m (Sh P m n c) c
abbrev Si(P:Pg)(m:Nat):Nat->Ct->Sm->Stmt->Bool
 | 0=>λ_ _ _=>false
 |n+1=>λc=>okS1 P m (Si P m n c) c
abbrev Sj(P:Pg)(c:Ct)(s:Stmt)(x:Sm):Prop:=∃m n t,s=Sh P m n c x t/\Si P m n c x t=true
meta abbrev JK (P:Pg) (c:Ct) (ss:List Stmt) (xs:List Sm):Prop:=zh (CmG P (Cm P c) (Sj P c) c) (Sj P c) ss xs
def Sj.mk{P:Pg}{m n:Nat}{c:Ct}{x:Sm}{t:Stmt}(h:Si P m n c x t=true):Sj P c (Sh P m n c x t) x:=#[m,n,t,rfl,h]
def JK.mk{P:Pg}{m n:Nat}{c:Ct}{xs:List Sm}{ss:List Stmt}(h:Lv (W6 P m (Si P m n c) c) (Si P m n c) xs ss=true):JK P c (qO (W5 P m (Sh P m n c) c) (Sh P m n c) xs ss) xs:=W4 (W7 .mk) .mk h
def noC(h:((not (uh (λ_ _=>true) e)))=true):uh (λ_ _=>true) e=false:=lI h
def Sj.W2(h:Sj P c s x):∃m n t,s=srS1 P m (Sh P m n c) c x t/\okS1 P m (Si P m n c) c x t=true:=by
 let(m,n,t,rfl,h):=h;cases n with
 |zero=>symm
 |succ n=>show#[m,n,t,rfl,h]
abbrev Lw(e:Expr):Bool:=match e with
 |.Constant .. |.Name .. |.BinOp .. |.Compare .. |.UnaryOp .. |.BoolOp .. |.IfExp .. |.Tuple .. |.List .. |.Subscript .. |.Call .. |.JoinedStr .. |.ListComp .. |.Dict .. |.DictComp ..=>true
 |_=>false
def Cm.Lw(h:Cm P c e x):Lw e=true:=by
 let(n,t,rfl,q):=h.W2;clear h;cases x
 case val d=>exact Ev.Lw (ur d t)=true;delta ur;split <;> rfl
 all_goals first |rfl |show Bool.noConfusion (show false=true from q)
section
def Cm.star(h:Cm P c e x)(es:List Expr):starEach (e::es) env=(false,eval e env)::starEach es env:=by have hs:=h.Lw;cases e <;> first |rfl |show Bool.noConfusion (show false=true from hs)
def wH.star(h:JG P c es xs):starEach es env=es.map λe=>(false,eval e env):=by
 induction es generalizing xs with
 |nil=>rfl
 |cons e es ih=>
  cases h with
  |cons h1 h2=>rw[h1.star,ih h2];rfl
def wH.plain(h:JG P c es xs):(backTo pos (starEach es env)).any (·.1)=false:=by
 rw[h.star];delta backTo
 induction es generalizing xs with
 |nil=>rfl
 |cons e es ih=>
  cases h with
  |cons h1 h2=>rw[List.map_cons,List.map_cons,List.any_cons,ih h2];rfl
def Cm.folded(h:Cm P c e x)(y:Value):foldedSetIterable e env y=pure y:=by have hs:=h.Lw;cases e <;> first |rfl |show Bool.noConfusion (show false=true from hs)
def wI.folded(h:Lr P c e x)(y:Value):foldedSetIterable e env y=pure y:=by
 cases h with
 |seq h=>show h.folded y
 |dc _ _ _=>rfl
 |gG _ _ _ _=>rfl
 |m8 _ _ _ _ _=>rfl
 |enum _ _ _=>rfl
def Cm.P9(h:Cm P c e x):sW e:=by have hs:=h.Lw;cases e <;> first |show λ_ _=>rfl |show Bool.noConfusion (show false=true from hs)
end
structure nk(P:Pg)(rn:Rn):Prop where
 e:∀{X:Cx}{c:Ct}{z:Z}{k:Nat}{x:Ex}{e:Expr}{g g':G}{r:R},bx P k X c->z.K=X.K->Cm P c e x->rn.e z.bor k x g=!(r,g')->aA X z e g r g'
 t:∀{X:Cx}{c:Ct}{z:Z}{k:Nat}{x:Ex}{e:Expr}{g g':G}{b:Bool},bx P k X c->z.K=X.K->Cm P c e x->rn.t z.bor k x g=!(b,g')->cZ X z e g b g'
 b:∀{X:Cx}{c:Ct}{z:Z}{k:Nat}{xs:List Sm}{uK:List Stmt}{g g':G}{f:Fl},bx P k X c->c.df=true->z.K=X.K->JK P c uK xs->rn.b z.bor k xs g=!(f,g')->eZ X z uK g f g'
def eO(h:jD N N' scope k=true):Names N N' scope k:=by
 delta jD at h;simp only[eI,gN,nV,o6]at h;let((h1,h2),h3):=h;apply#[h1,λx e=>?_,λi x e hi=>?_]
 . rw[e]at h2;show t5 h2
 . have h4:=h3 i hi;rw[e]at h4;simp only[wS,eI,gN]at h4;show h4
def jf(ct:bx P k X c)(h:zg c.sc scope=true):bH X.env.scope scope:=by
 delta zg at h;simp only[eI,gN,nV,wS]at h;let(h1,h2):=h;apply#[h1,λy hy=>(h2 y hy).1.1,λy hy e=>?_,λy hy e=>?_,λy hy e=>?_]
 . show ((h2 y hy).1.2).elim (λq=>absurd e q) id
 . show ((h2 y hy).2).elim (λq=>absurd e q) λq=>q.1
 . show ((h2 y hy).2).elim (λq=>absurd e q) λq=>ct.fre _ q.2
def jE{X:Cx}{N':List Str}{scope:Scope}{b:Bk}{x:Str}:(X.blk N' scope b).env.scope.names.lookup x=(scope.names.lookup x).map λk=>if (k==NameKind.free&&X.env.scope.kind==.function&&X.env.kindOf x==some .cell)then NameKind.cell else k:=dZ
def bx.blk{P:Pg}{k:Nat}{X:Cx}{c:Ct}{scope:Scope}{N':List Str}(ct:bx P k X c)(hnd:N'.Nodup)(b:Bk):bx P k (X.blk N' scope b) #[N',scope,false,Str.empty]:=by
 apply#[rfl,hnd,λx e=>?_,λx e=>?_,λx e=>?_,λe=>absurd e ⋯,λx e=>?_,λe=>absurd e ⋯,ct.calm,rfl,ct.md,ct.room,λe=>absurd (show Str.empty∈u6 from e) ⋯]
 . have e':=e;rw[jE,e'];rfl
 . have e':=e;exact (X.blk N' scope b).env.scope.names.lookup x=_;rw[jE,e'];rfl
 .
  rw[jE];rcases e with e |e
  . have e':=e;rw[e'];show .inl rfl
  .
   have e':=e;rw[e',AR];by_cases hq:(NameKind.free==NameKind.free&&X.env.scope.kind==.function&&X.env.kindOf x==some .cell)=true
   . rw[fR hq];show .inl rfl
   . rw[eR hq];show .inr rfl
 .
  rcases e with e |e
  . cases e
  . have e':=e;exact (scope.names.lookup x==some .local)=true;rw[e'];rfl
section
def bZ(h:aA X z e g r g'):aA X z e g (norm r) g':=by
 cases r with
 |dat d=>show h
 |new l=>show oB h
 |var i=>show h
def JL(h:aA X z e g r g1)(hd:toD z.bor r g1=!(d,g')):aA X z e g (.dat d) g':=by
 cases r with
 |dat d'=>cases hd;show h
 |new l=>cases hd;show oB h
 |var i=>
  have hd:(if i∈z.bor then none else match g1[i]? with |!(.own l)=>!(D.lst l,g1.set i (.dat (.lst l))) |_=>none)=!(d,g'):=hd
  split at hd
  . cases hd
  .
   ext hb;split at hd
   . ext l hg;cases hd;show CJ h hg hb
   . cases hd
def aP(hS:nk P rn)(ct:bx P k X c)(hK:z.K=X.K)(hc:Cm P c e x)(h:eN rn z.bor k x g=!(d,g')):aA X z e g (.dat d) g':=by
 delta eN at h;split at h
 . ext r g1 e1;show JL (hS.e ct hK hc e1) h
 . symm
def qg:∀(ds:List D),vd (ds.map R.dat)=!ds
 | []=>rfl
 |d::ds=>by
  exact (match vd (ds.map R.dat)with |some ds=>!(d::ds) |none=>none)=_
  rw[qg ds]
def ku(hS:nk P rn)(ct:bx P k X c)(hK:z.K=X.K):∀{es:List Expr}{xs:List Ex}{g g':G}{ds:List D},JG P c es xs->mK rn z.bor k xs g=!(ds,g')->cT X z es g (ds.map .dat) g':=by
 intro es xs g g' ds hc h
 induction hc generalizing g ds with
 |nil=>symm;show dz
 |cons h1 h2 ih=>
  delta mK at h
  repeat' split at h
  all_goals try contradiction
  ext d g1 e1 _ ds g2 e2;symm;show cB (aP hS ct hK h1 e1) (ih e2) (h1.star _)
def wL(hS:nk P rn)(ct:bx P k X c)(hK:z.K=X.K):∀{es:List Expr}{xs:List Ex}{g g':G}{rs:List R},JG P c es xs->argsR rn z.bor k xs g=!(rs,g')->cT X z es g rs g':=by
 intro es xs g g' rs hc h
 induction hc generalizing g rs with
 |nil=>symm;show dz
 |cons h1 h2 ih=>
  delta argsR at h
  repeat' split at h
  all_goals try contradiction
  ext r g1 e1 _ rs g2 e2;symm;have q:=bZ (hS.e ct hK h1 e1);have q2:=ih e2;cases r with
  |dat d=>show cB q q2 (h1.star _)
  |new l=>show cB q q2 (h1.star _)
  |var i=>show Gx q q2 (h1.star _)
def jg(h:argsR rn bor k [a,b] g=!(rs,g2)):∃r1 r2 g1,rn.e bor k a g=!(r1,g1)/\rn.e bor k b g1=!(r2,g2)/\rs=[norm r1,norm r2]:=by
 delta argsR at h;split at h
 .
  ext r1 g1 e1;delta argsR at h;split at h
  .
   ext rs' g3 e3;split at e3
   . ext r2 g4 e2;cases e3;symm;show#[r1,r2,g1,e1,e2,rfl]
   . cases e3
  . symm
 . symm
def JM(hS:nk P rn)(ct:bx P k X c)(hK:z.K=X.K):∀{bs:List Expr}{xs:List Ex}{ops:List CmpOp}{g g':G}{d1:D}{b:Bool},JG P c bs xs->Wu rn z.bor k d1 ops xs g=!(b,g')->tG X z d1 ops bs g b g':=by
 intro bs xs ops g g' d1 b hc h
 induction hc generalizing ops g d1 with
 |nil=>delta Wu at h;split at h <;> first |contradiction |symm
 |cons h1 h2 ih=>
  delta Wu at h;split at h
  .
   ext op x _ e;cases e;cases h2
   repeat' split at h
   all_goals try contradiction
   ext d2 g1 e1 _ b e2;symm;show .last (aP hS ct hK h1 e1) (pZ hK ct.room e2)
  .
   ext e;cases e;split at h
   .
    ext d2 g1 e1;split at h
    .
     ext e2;cases h2 with
     |cons h2 h3=>show .link (aP hS ct hK h1 e1) (pZ hK ct.room e2) (ih h)
    .
     ext e2;symm;cases h2 with
     |cons h2 h3=>show .stop (aP hS ct hK h1 e1) (pZ hK ct.room e2)
    . symm
   . symm
  . symm
def Qa(hS:nk P rn)(ct:bx P k X c)(hK:z.K=X.K):∀{es:List Expr}{xs:List Ex}{g g':G}{r:R},JG P c es xs->Js rn z.bor k xs g=!(r,g')->aA X z (.BoolOp .And es pos) g r g':=by
 intro es xs g g' b hc h
 induction hc generalizing g with
 |nil=>symm
 |cons h1 h2 ih=>
  cases h2 with
  |nil=>show Gw (hS.e ct hK h1 h)
  |cons h2 h3=>
   delta Js at h;split at h
   . ext g1 e1;show MP (hS.e ct hK h1 e1) (ih h)
   . ext g1 e1;symm;show MN (hS.e ct hK h1 e1)
   . symm
def W8(hS:nk P rn)(ct:bx P k X c)(hK:z.K=X.K):∀{es:List Expr}{xs:List Ex}{g g':G}{r:R},JG P c es xs->orF rn z.bor k xs g=!(r,g')->aA X z (.BoolOp .Or es pos) g r g':=by
 intro es xs g g' b hc h
 induction hc generalizing g with
 |nil=>symm
 |cons h1 h2 ih=>
  cases h2 with
  |nil=>show Gw (hS.e ct hK h1 h)
  |cons h2 h3=>
   delta orF at h;split at h
   . ext g1 e1;show Uv (hS.e ct hK h1 e1) (ih h)
   . ext g1 e1;symm;show Uu (hS.e ct hK h1 e1)
   . symm
def JN(hS:nk P rn)(ct:bx P k X c)(hK:z.K=X.K):∀{es:List Expr}{xs:List Ex}{g g':G}{b:Bool},JG P c es xs->wC rn z.bor k xs g=!(b,g')->m6 X z (.BoolOp .And es pos) g b g':=by
 intro es xs g g' b hc h
 induction hc generalizing g with
 |nil=>symm
 |cons h1 h2 ih=>
  cases h2 with
  |nil=>show MF (hS.t ct hK h1 h)
  |cons h2 h3=>
   delta wC at h;split at h
   . ext g1 e1;show MK (hS.t ct hK h1 e1) (ih h)
   . ext g1 e1;symm;show MJ (hS.t ct hK h1 e1)
   . symm
def Qc(hS:nk P rn)(ct:bx P k X c)(hK:z.K=X.K):∀{es:List Expr}{xs:List Ex}{g g':G}{b:Bool},JG P c es xs->yZ rn z.bor k xs g=!(b,g')->m6 X z (.BoolOp .Or es pos) g b g':=by
 intro es xs g g' b hc h
 induction hc generalizing g with
 |nil=>symm
 |cons h1 h2 ih=>
  cases h2 with
  |nil=>show Ur (hS.t ct hK h1 h)
  |cons h2 h3=>
   delta yZ at h;split at h
   . ext g1 e1;show Ut (hS.t ct hK h1 e1) (ih h)
   . ext g1 e1;symm;show Us (hS.t ct hK h1 e1)
   . symm
def Bm(ct:bx P k X c)(h:c.sc.names.lookup x=some .globalImplicit):Gl X x:=ct.Bf x h
def Qd(h:isW it=false):d8 rn bor k tp it g=match eN rn bor k it g with |!(.tup l,g1)=>!(l,g1) |!(.lst l,g1)=>!(l,g1) |!(.fix l,g1)=>!(l,g1) |_=>none:=by cases it <;> first |rfl |show Bool.noConfusion (show true=false from h)
def qh(hS:nk P rn)(ct:bx P k X c)(hK:z.K=X.K){Bo tg:Expr}{it:Ex}{g g':G}{items:List D}{tp:Bool}(htp:tp=true->∃es k pos,tg=.Tuple es k pos)(hc:Lr P c Bo it)(h:d8 rn z.bor k tp it g=!(items,g')):dR X z tg Bo g items g':=by
 cases hc with
 |m8 ha hb' hs' hb hg=>
  delta d8 at h;dsimp only at h
  repeat' split at h
  all_goals try contradiction
  ext c0 g1 e1 _ j g2 e2 _ st g3 e3 hj;symm;simp only[wD,eI,gN]at hj;show N4 (cB (aP hS ct hK ha e1) (cB (aP hS ct hK hb' e2) (cB (aP hS ct hK hs' e3) dz (hs'.star _)) (hb'.star _)) (ha.star _)) (Bm ct hg) (ct.md.bn _ hb) (ha.star _) (wH.plain (.cons hb' (.cons hs' .nil))) hj.1 hj.2.1 #[hj.2.2.2,hj.2.2.1.2]
 |enum ha hb hg=>
  delta d8 at h;dsimp only at h;split at h
  .
   ext ht;let(es,k0,pos,rfl):=htp ht
   repeat' split at h
   all_goals try contradiction
   ext l g1 e1;symm;show N5 hK (cB (aP hS ct hK ha e1) dz (ha.star _)) (Bm ct hg) (ct.md.bn _ hb) (ha.star _)
  . symm
 |dc ha hb hg=>
  delta d8 at h;dsimp only at h
  repeat' split at h
  all_goals try contradiction
  ext j g1 e1 hj;symm;simp only[Ju,eI,gN]at hj;show Nr (cB (aP hS ct hK ha e1) dz (ha.star _)) (Bm ct hg) (ct.md.bn _ hb) (by rw[ha.star];rfl) hj.1 hj.2
 |gG ha hb' hb hg=>
  delta d8 at h;dsimp only at h
  repeat' split at h
  all_goals try contradiction
  ext c0 g1 e1 _ j g2 e2 hj;symm;simp only[Ju,eI,gN]at hj;show Nt (cB (aP hS ct hK ha e1) (cB (aP hS ct hK hb' e2) dz (hb'.star _)) (ha.star _)) (Bm ct hg) (ct.md.bn _ hb) (by rw[ha.star,hb'.star];rfl) (by rw[hb'.star];rfl) #[hj.1.1,hj.1.2,hj.2.1,hj.2.2]
 |seq hc=>
  have h':=(Qd hc.notW).symm.trans h;split at h'
  . ext e1;cases h';show Vm hK (aP hS ct hK hc e1)
  . ext e1;cases h';show Vn (aP hS ct hK hc e1)
  . ext e1;cases h';show Vo hK (aP hS ct hK hc e1)
  . cases h'
def lK(hS:nk P rn)(ct:bx P k X c)(hK:z.K=X.K)(hc:nj P c ifs co)(h:qE rn z.bor k co g=!(b,g')):cu X z ifs g b g':=by
 cases hc with
 |none=>symm;show Nu
 |some hc=>show Nv (hS.t ct hK hc h)
def wM(h:Ek c tg T):T.jB=true->∃es k pos,tg=.Tuple es k pos:=by
 cases h with
 |nm _ _=>intro e;cases e
 |tp _=>intro _;show#[_,_,_,rfl]
def W9(ct:bx P k X c)(h:Ej c es is):jT X es is:=by
 induction h with
 |nil=>show .nil
 |cons h1 h2 _ ih=>show .cons (ct.nm h1 h2) ih
def rW(ct:bx P k X c)(hK:z.K=X.K)(h:Ek c tg T)(hb:∀i∈T.ix,i∉z.bor):gw X z tg T:=by
 cases h with
 |nm h1 h2=>show aaf (ct.nm h1 h2) (hb _ (eP.mpr rfl))
 |tp h1=>show aag ct.calm hK (W9 ct h1) hb
def uv(hS:nk P rn){Xb:Bk->Cx}{cb:Ct}(ctb:∀b,bx P k (Xb b) cb)(RK:∀b,z.K=(Xb b).K){T:Tg}{last:Nat}{ifs:List Expr}{co:Option Ex}{bE:Expr}{xe:Ex}(hi:nj P cb ifs co)(he:Cm P cb bE xe) :
  ∀{items:List D}{g gE:G},Eh rn z.bor k T last co xe items g=!gE->jV T last (λg b g'=>∀bk:Bk,cu (Xb bk) z ifs g b g') (λg d g'=>∀bk:Bk,aA (Xb bk) z bE g (.dat d) g') items g gE
 | [],_,_,h=>by symm;show .nil
 |d::l,_,_,h=>by
  delta Eh at h;split at h
  . symm
  .
   ext g1 e1;split at h
   . symm
   . ext g2 e2;show .skip e1 (λbk=>lK hS (ctb bk) (RK bk) hi e2) (uv hS ctb RK hi he h)
   .
    ext g2 e2;split at h
    . symm
    .
     ext x g3 e3
     repeat' split at h
     all_goals try contradiction
     ext acc e4 hl;show .take e1 (λbk=>lK hS (ctb bk) (RK bk) hi e2) (λbk=>aP hS (ctb bk) (RK bk) he e3) e4 hl (uv hS ctb RK hi he h)
end
structure SndX(P:Pg)(rn:Rn):Prop where
structure Qe(P:Pg)(fi:Fi)(fx:Fx):Prop where
 np:fx.np=fi.ps.length
 n:fx.n=fi.N.length
 body:JK P #[fi.N,aV fi.st,true,fi.qual] (bR fi.st) fx.body
abbrev qi(P:Pg)(fns:List Fx):Prop:=∀(f:Nat) (fi:Fi) (fx:Fx),P.fn[f]?=!fi->fns[f]?=!fx->Qe P fi fx
def wN{P:Pg}{k:Nat}{prog:Program}{w:World}{K:Frag}{mg:Str->Option Value}{base:Heap}{N ps:List Str}{qual:Str}{scope:Scope}{f:Addr}{fS:Value}{A:Around}{outer:List Env}{s:Shared}{H:Hp}{E:XK}
  (S:fO N ps scope) (md:Ei P K mg) (fK:PySem.W.codeIn K fS qual=true) (hr:gQ k (A.deeper (envOfC qual scope s⁻¹ f fS))):bx P k (uU Lg prog w K mg base N qual scope f fS A outer s H E).Ys #[N,scope,true,qual]:=by
 apply#[rfl,S.nd,λx e=>e,λx e=>e,λx e=>e,λ_ x e=>e,λx _=>rfl,λ_=>?_,rfl,rfl,md,hr,λe h=>#[rfl,md.lam h _ e _ fK]]
 exact (if scope.kind.isAnnotationScope then ScopeKind.function else scope.kind)=.function
 rw[S.kind];rfl
section
def JQ(hS:nk P rn){k':Nat}(ct:bx P (k'+1) X c)(hK:z.K=X.K){f:Nat}{fi:Fi}{fx:Fx}(V4:P.fn[f]?=!fi)(FG:Qe P fi fx)(RQ:c.sc.names.lookup fi.name=some .globalImplicit){e:Expr}{es:List Expr}{xs:List Ex}{rs:List R}{g g1 gO:G}{r:R}
  (hc:JG P c (e::es) xs) (ha:cT X z (e::es) g rs g1) (h:bF rn fx k' rs g1=!(r,gO)):aA X z (.Call (.Name fi.name p) (e::es) [] pos) g r gO:=by
 let(f,fd,hm,hF,hSc,hB,BW):=ct.md.fn _ fi V4;have F:qF X.prog X.w X.K X.mg X.base Lg (k'+1) f fd fi.ps (Vk X.K fi.N fi.ps.length λbor g r g'=>rn.b bor k' fx.body g=!(.rt r,g')\/(rn.b bor k' fx.body g=!(.nx,g')/\r=.dat .non)):=by
  apply Rz hF hSc λfS A outer s H E fK hr z' g r g' hK' hrun=>?_
  have ct':bx P k' (uU Lg X.prog X.w X.K X.mg X.base fi.N fi.qual (aV fi.st) f fS A outer s H E).Ys #[fi.N,aV fi.st,true,fi.qual]:=wN hSc ct.md fK hr;rcases hrun with h |⟨h,rfl⟩
  . show#[_,hS.b ct' rfl hK' FG.body h,.inl rfl]
  . show#[_,hS.b ct' rfl hK' FG.body h,.inr #[rfl,rfl]]
 have h1:∃h2:JG P c es xs.tail,starEach (e::es) X.env=(false,eval e X.env)::starEach es X.env:=by
  cases hc with
  |cons h1 h2=>show#[h2,h1.star _]
 let(h2,fL):=h1;delta bF at h;split at h
 .
  ext hl;split at h
  . symm
  .
   ext gs e1;split at h
   .
    ext r0 gc e2;split at h
    .
     ext gO' e3;split at h
     . ext r' e4;symm;show zY F hK ct.room (ct.Bf _ RQ) hm hF.kp hB ha (by rw[hl.1,FG.np]) e1 hl.2 (.inl (by rw[<- FG.n];show e2)) e3 e4 BW fL h2.plain
     . symm
    . symm
   .
    ext gc e2;split at h
    . ext gO' e3;symm;show zY F hK ct.room (ct.Bf _ RQ) hm hF.kp hB ha (by rw[hl.1,FG.np]) e1 hl.2 (.inr #[by rw[<- FG.n];show e2,rfl]) e3 rfl BW fL h2.plain
    . symm
   . symm
 . symm
def wO(hS:nk P rn)(ct:bx P k X c)(hK:z.K=X.K){tg Bo bE:Expr}{ifs:List Expr}{scope:Scope}{N':List Str}{kk:Nat}{T:Tg}{it xe:Ex}{co:Option Ex}{g g':G}{acc:List D}
  (hnd:N'.Nodup) (hT:Ek #[N',scope,false,Str.empty] tg T) (mL:∀i∈T.ix,c.N.length<=i/\i<c.N.length+kk) (hi:Lr P c Bo it) (hf:nj P #[N',scope,false,Str.empty] ifs co) (he:Cm P #[N',scope,false,Str.empty] bE xe)
  (h:gH rn z.bor k c.N.length kk T it co xe g=!(acc,g')) :
  ∃items g1 gE,dR X z tg Bo g items g1/\(∀b:Bk,gw (X.blk N' scope b) z tg T)/\(∀i∈T.ix,g1.length<=i/\i<g1.length+kk)/\
   jV T (g1.length+kk) (λg b g'=>∀bk:Bk,cu (X.blk N' scope bk) z ifs g b g') (λg d g'=>∀bk:Bk,aA (X.blk N' scope bk) z bE g (.dat d) g') items (gC kk g1) gE/\gE[g1.length+kk]?=!(.own acc)/\g'=gE.take g1.length:=by
 delta gH at h;split at h
 . symm
 .
  ext items g1 e1;split at h
  .
   ext hl;split at h
   . symm
   .
    ext gE e2;split at h
    .
     ext acc' e3;symm;let(hl,hb):=hl;rw[<- hl]at e2 e3 mL ⊢
     apply#[items,g1,gE,qh hS ct hK (wM hT) hi e1,λb=>rW (ct.blk hnd b) hK hT λi hi hm=>?_,mL,uv hS (λb=>ct.blk hnd b) (λb=>hK) hf he e2,e3,rfl]
     rw[List.any_eq_false]at hb;show hb i hi (oC hm)
    . symm
  . symm
def uw(hS:nk P rn)(ct:bx P k X c)(hK:z.K=X.K){tg Bo bE:Expr}{f1 ifs:List Expr}{scope:Scope}{N':List Str}{T1 T:Tg}{it xe:Ex}{c1 co:Option Ex}{last:Nat}(hnd:N'.Nodup)(hT:Ek #[N',scope,false,Str.empty] tg T)(hf1:nj P #[N',scope,false,Str.empty] f1 c1)
  (hi:Lr P #[N',scope,false,Str.empty] Bo it) (hf:nj P #[N',scope,false,Str.empty] ifs co) (he:Cm P #[N',scope,false,Str.empty] bE xe):∀{items:List D}{g gE:G},wF rn z.bor k T1 c1 T it co xe last items g=!gE->
  iK T1 (λg b g'=>∀bk:Bk,cu (X.blk N' scope bk) z f1 g b g') (Du X z N' scope tg Bo bE ifs T last) items g gE
 | [],_,_,h=>by symm;show .nil
 |d::l,_,_,h=>by
  delta wF at h;split at h
  . symm
  .
   ext g1 e1;split at h
   . symm
   . ext g2 e2;show .skip e1 (λbk=>lK hS (ct.blk hnd bk) hK hf1 e2) (uw hS ct hK hnd hT hf1 hi hf he h)
   .
    ext g2 e2;split at h
    . symm
    .
     ext items2 g3 e3;split at h
     . symm
     . ext g4 e4;show .take e1 (λbk=>lK hS (ct.blk hnd bk) hK hf1 e2) #[items2,g3,λbk=>qh hS (ct.blk hnd bk) hK (wM hT) hi e3,uv hS (λb=>ct.blk hnd b) (λb=>hK) hf he e4] (uw hS ct hK hnd hT hf1 hi hf he h)
def rX(hS:nk P rn)(ct:bx P k X c)(hK:z.K=X.K){t1 i1 tg Bo bE:Expr}{f1 ifs:List Expr}{scope:Scope}{N':List Str}{kk:Nat}{T1 T:Tg}{nL it xe:Ex}{c1 co:Option Ex}{g g':G}{acc:List D}
  (hnd:N'.Nodup) (hT1:Ek #[N',scope,false,Str.empty] t1 T1) (hT:Ek #[N',scope,false,Str.empty] tg T) (hTi1:∀i∈T1.ix,c.N.length<=i/\i<c.N.length+kk) (mL:∀i∈T.ix,c.N.length<=i/\i<c.N.length+kk) (hi1:Lr P c i1 nL) (hf1:nj P #[N',scope,false,Str.empty] f1 c1) (hi:Lr P #[N',scope,false,Str.empty] Bo it) (hf:nj P #[N',scope,false,Str.empty] ifs co) (he:Cm P #[N',scope,false,Str.empty] bE xe)
  (h:jC rn z.bor k c.N.length kk T1 nL c1 T it co xe g=!(acc,g')) :
  ∃items g1 gE,dR X z t1 i1 g items g1/\(∀b:Bk,gw (X.blk N' scope b) z t1 T1)/\(∀b:Bk,gw (X.blk N' scope b) z tg T)/\(∀i∈T1.ix,g1.length<=i/\i<g1.length+kk)/\(∀i∈T.ix,g1.length<=i/\i<g1.length+kk)/\
   iK T1 (λg b g'=>∀bk:Bk,cu (X.blk N' scope bk) z f1 g b g') (Du X z N' scope tg Bo bE ifs T (g1.length+kk)) items (gC kk g1) gE/\gE[g1.length+kk]?=!(.own acc)/\g'=gE.take g1.length:=by
 delta jC at h;split at h
 . symm
 .
  ext items g1 e1;split at h
  .
   ext hl;split at h
   . symm
   .
    ext gE e2;split at h
    .
     ext acc' e3;symm;let(hl,hb):=hl;rw[<- hl]at e2 e3 mL hTi1 ⊢
     rw[List.any_eq_false]at hb;show#[items,g1,gE,qh hS ct hK (wM hT1) hi1 e1,λb=>rW (ct.blk hnd b) hK hT1 λi hi hm=>hb i (l7 _ hi) (oC hm),λb=>rW (ct.blk hnd b) hK hT λi hi hm=>hb i (gL _ hi) (oC hm),hTi1,mL,uw hS ct hK hnd hT hf1 hi hf he e2,e3,rfl]
    . symm
  . symm
def ux{z':Z}(h:yW z z'):z'.bor=z.bor:=by delta Z.bor;rw[h.2]
def Xa(hS:nk P rn)(ct:bx P k X c)(hK:z.K=X.K){bE:Expr}{ifs:List Expr}{scope:Scope}{N':List Str}{T:Tg}{xe:Ex}{co:Option Ex}(hnd:N'.Nodup)(hf:nj P #[N',scope,false,Str.empty] ifs co)(he:Cm P #[N',scope,false,Str.empty] bE xe) :
  ∀{items:List D}{ks ks':List Nk.Pn}{g gE:G},Wv rn z.bor k T co xe items ks g=!(ks',gE)->Nk.Lp T (λg b g'=>∀(bk:Bk) z',yW z z'->cu (X.blk N' scope bk) z' ifs g b g') (λg d g'=>∀(bk:Bk) z',yW z z'->aA (X.blk N' scope bk) z' bE g (.dat d) g') items ks g ks' gE:=by
 intro items
 induction items with
 |nil=>intro _ _ _ _ h;symm;show .nil
 |cons d l ih=>
  intro _ _ _ _ h;delta Wv at h;split at h
  . symm
  .
   ext g1 e1;split at h
   . symm
   . ext g2 e2;show .skip e1 (λbk z' ze=>lK hS (ct.blk hnd bk) (ze.1.trans hK) hf (by rw[ux ze];show e2)) (ih h)
   .
    ext g2 e2;split at h
    .
     ext m g3 e3;split at h
     .
      ext key e4;split at h
      . ext hl;rw[Nk.Ws e4]at e3;show .take e1 (λbk z' ze=>lK hS (ct.blk hnd bk) (ze.1.trans hK) hf (by rw[ux ze];show e2)) (λbk z' ze=>aP hS (ct.blk hnd bk) (ze.1.trans hK) he (by rw[ux ze];show e3)) hl (ih h)
      . symm
     . symm
    . symm
def Em(hS:nk P rn)(ct:bx P k X c)(hK:z.K=X.K){tg Bo bE:Expr}{ifs:List Expr}{scope:Scope}{N':List Str}{kk:Nat}{T:Tg}{it xe:Ex}{co:Option Ex}{g g':G}{ks:List Nk.Pn}
  (hnd:N'.Nodup) (hT:Ek #[N',scope,false,Str.empty] tg T) (mL:∀i∈T.ix,c.N.length<=i/\i<c.N.length+kk) (hi:Lr P c Bo it) (hf:nj P #[N',scope,false,Str.empty] ifs co) (he:Cm P #[N',scope,false,Str.empty] bE xe)
  (h:lH rn z.bor k c.N.length kk T it co xe g=!(ks,g')) :
  ∃items g1 gE,dR X z tg Bo g items g1/\(∀(b:Bk) z',yW z z'->gw (X.blk N' scope b) z' tg T)/\(∀i∈T.ix,g1.length<=i/\i<g1.length+kk)/\
   Nk.Lp T (λg b g'=>∀(bk:Bk) z',yW z z'->cu (X.blk N' scope bk) z' ifs g b g') (λg d g'=>∀(bk:Bk) z',yW z z'->aA (X.blk N' scope bk) z' bE g (.dat d) g') items [] (gD kk g1) ks gE/\Nk.Pb ks=true/\g'=gE.take g1.length:=by
 delta lH at h;split at h
 . symm
 .
  ext items g1 e1;split at h
  .
   ext hl;split at h
   . symm
   .
    ext ks' gE e2;split at h
    .
     ext hgd;symm;let(hl,hb):=hl;rw[<- hl]at mL ⊢
     rw[List.any_eq_false]at hb;show#[items,g1,gE,qh hS ct hK (wM hT) hi e1,λb z' ze=>rW (ct.blk hnd b) (ze.1.trans hK) hT λi hi hm=>hb i hi (oC (by rw[<- ux ze];show hm)),mL,Xa hS ct hK hnd hf he e2,hgd,rfl]
    . symm
  . symm
end
section
variable{X:Cx}{c:Ct}
def Xc(ct:bx P k X c)(h:JB P c es ns):z7 X es ns/\∀n∈ns,n∈zf:=by
 induction h with
 |nil=>show#[.nil,λn hn=>nomatch hn]
 |@cons T n pos es ns h1 h2 h3 h4 _ ih=>
  apply#[.cons ?_ ih.1,λm hm=>(eC.mp hm).elim (λe=>e▸h4) (ih.2 m)]
  subst h3;apply#[ct.Bf _ h2,ct.md.bn _ h1,?_,?_,?_] <;> (delta zf at h4;simp only[eC,x3,ED]at h4;rcases h4 with rfl |rfl |rfl |rfl |rfl |rfl <;> first |rfl |decide)
def Xd(h:aA X z e g r g1)(hp:pk r g1=!d)(hs:starEach [e] X.env=(false,eval e X.env)::starEach [] X.env):cT X z [e] g [r] g1:=by
 cases r with
 |dat d=>show cB h dz hs
 |new l=>cases hp
 |var i=>show Gx h dz hs
def Cm.attr(h:Cm P c e x)(m:Str):attributeBase e m env (eval e env)=eval e env:=by
 let(n,t,rfl,hk):=h.W2;cases x
 case val d=>rw[show P8 P (cY P n) c (.val d) t=ur d t from rfl];delta ur;split <;> rfl
 case call i xs=>cases xs with |nil=>cases (ao (ao (ao hk).2).2).2 |cons x xs=>rfl
 case blt b xs=>cases xs with |nil=>cases (ao (ao hk).2).2 |cons x xs=>rfl
 all_goals first |rfl |show Bool.noConfusion (show false=true from hk)
abbrev YM(X:Cx)(z:Z)(e:Expr)(g:G)(o:Option (R×G)):Prop:=∀r g',o=!(r,g')->aA X z e g r g'
def YM.none:YM X z e g none:=λ_ _ h=>nomatch h
def YM.some{e:Expr}{g g':G}{r:R}(h:aA X z e g r g'):YM X z e g (!(r,g')):=λ_ _ q=>by cases q;show h
def qj(h:ni P (m+1) c (.comp n' kk T it co xe) t=true):n'=c.N.length/\zg c.sc (fH t)=true/\jD c.N (iR c.N (fH t)) (fH t) kk=true/\(iR c.N (fH t)).Nodup/\Ek (fZ c t) (qN (fZ c t) T (kid t 1)) T/\(∀i∈T.ix,c.N.length<=i/\i<c.N.length+kk)/\Lr P c (uo (cY P m c) it (kid t 2)) it/\nj P (fZ c t) (wK (cY P m (fZ c t)) (kid t 3) co) co/\Cm P (fZ c t) (cY P m (fZ c t) xe (kid t 0)) xe:=by let(h1,a1):=ao h;let(h2,a2):=ao a1;let(h3,a3):=ao a2;let(h4,a4):=ao a3;let(h5,a5):=ao a4;show#[dec h1,(ao h2).1,(ao (ao h2).2).1,je (ao (ao h2).2).2,qc h3,zm h4,uq .mk h5,zj .mk (ao a5).1,.mk (ao a5).2]
def rY(h:ni P (m+1) c (.dX n' kk T1 nL c1 T it co xe) t=true):n'=c.N.length/\zg c.sc (fH t)=true/\jD c.N (iR c.N (fH t)) (fH t) kk=true/\(iR c.N (fH t)).Nodup/\Ek (fZ c t) (qN (fZ c t) T1 (kid t 1)) T1/\Ek (fZ c t) (qN (fZ c t) T (kid t (3+o1 c1))) T/\(∀i∈T1.ix,c.N.length<=i/\i<c.N.length+kk)/\(∀i∈T.ix,c.N.length<=i/\i<c.N.length+kk)/\Lr P c (uo (cY P m c) nL (kid t 2)) nL/\nj P (fZ c t) (wK (cY P m (fZ c t)) (kid t 3) c1) c1/\Lr P (fZ c t) (uo (cY P m (fZ c t)) it (kid t (4+o1 c1))) it/\nj P (fZ c t) (wK (cY P m (fZ c t)) (kid t (5+o1 c1)) co) co/\Cm P (fZ c t) (cY P m (fZ c t) xe (kid t 0)) xe:=by let(h1,a1):=ao h;let(h2,a2):=ao a1;let(h3,a3):=ao a2;let(h4,a4):=ao a3;let(h5,a5):=ao a4;let(h6,h7):=ao a5;show#[dec h1,(ao h2).1,(ao (ao h2).2).1,je (ao (ao h2).2).2,qc (ao h3).1,qc (ao h3).2,zm (ao h4).1,zm (ao h4).2,uq .mk (ao h5).1,zj .mk (ao h5).2,uq .mk (ao h6).1,zj .mk (ao h6).2,.mk h7]
def Xe(ct:bx P k X c)(hK:z.K=X.K)(h:okV P c d t=true):aA X z (ur d t) g (.dat d) g:=by
 delta okV at h;delta ur;cases e:PJ t with
 |some y=>rw[e]at h;let(hd,v,u,q1,q2,q3):=ct.md.ct _ _ (W0 (ao h).2);show Mz (ct.Bf _ (dec (ao h).1)) q1 q2 (hK▸q3) hd
 |none=>
  rw[e]at h;cases d with
  |int i=>show Ui
  |bl i=>show ZX
  |str i=>show Uk
  |non=>show Uj
  |_=>show nt h
def Qf(hS:nk P rn)(hX:SndX P rn){fns:List Fx}(hF:qi P fns)(ct:bx P k X c)(hK:z.K=X.K){e:Expr}{x:Ex}{g:G}(hc:Cm P c e x):YM X z e g (bh rn z.bor k fns x g):=by
 let(n,t,rfl,hk):=hc.W2;cases x
 case val d=>show .some (Xe ct hK hk)
 case slot i=>
  have h1:=(fY hk).1;have h2:=(fY hk).2.1;have h3:=(fY hk).2.2;let(hd,fK):=bM h3;delta bh;dsimp only;split
  . ext e1;show .some (Ul (by rw[ct.N];show h1) (ct.vis h2) hd fK e1)
  . ext e1;show .some (My (by rw[ct.N];show h1) (ct.vis h2) hd fK e1)
  . show .none
 case bin op a b=>
  have h1:=(Cm.mk (ao hk).1);have h2:=(Cm.mk (ao hk).2);delta bh;dsimp only;split
  .
   ext r1 r2 g2 e1;let(s1,s2,g1,q1,q2,q3):=jg e1;cases q3
   repeat' split
   all_goals try show .none
   ext d1 d2 p1 p2 _ r0 e3;show .some (Um (bZ (hS.e ct hK h1 q1)) (bZ (hS.e ct hK h2 q2)) p1 p2 (WD hK e3))
  . show .none
 case cmp op a b=>
  have h1:=(Cm.mk (ao hk).1);have h2:=(Cm.mk (ao (ao hk).2).1);have h3:=lI (ao (ao hk).2).2;delta bh;dsimp only;split
  .
   ext r1 r2 g2 e1;let(s1,s2,g1,q1,q2,q3):=jg e1;cases q3
   repeat' split
   all_goals try show .none
   ext d1 d2 p1 p2 _ r0 e3;show .some (Uo (bZ (hS.e ct hK h1 q1)) (bZ (hS.e ct hK h2 q2)) p1 p2 (pZ hK ct.room e3) h3)
  . show .none
 case chain a ops xs=>
  let(k1,k2):=ao hk;let(k3,k4):=ao k2;let(k5,k6):=ao k4;let(Vt,Vu,ops,rfl):=two (dec (ao k6).1);let(x1,x2,xs,rfl):=two (dec (ao k6).2);have h1:=Cm.mk k1;have h2:=fu (R:=Cm P c) .mk k3;have h3:=lI k5;delta bh;dsimp only
  repeat' split
  all_goals try show .none
  ext d1 g1 e1 _ b g2 e2;show .some (G8 (aP hS ct hK h1 e1) (JM hS ct hK h2 e2) h3)
 case not a=>
  have h1:=Cm.mk hk;delta bh;dsimp only;split
  . ext b g1 e1;show .some (Uw (hS.e ct hK h1 e1))
  . show .none
 case and xs=>have h1:=fu (R:=Cm P c) .mk hk;show λ_ _ h=>Qa hS ct hK h1 h
 case or xs=>have h1:=fu (R:=Cm P c) .mk hk;show λ_ _ h=>W8 hS ct hK h1 h
 case ite a b d=>
  have h1:=(Cm.mk (ao hk).1);have h2:=(Cm.mk (ao (ao hk).2).1);have h3:=(Cm.mk (ao (ao hk).2).2);delta bh;dsimp only;split
  . ext g1 e1;show λ_ _ h=>Ux (hS.t ct hK h1 e1) (hS.e ct hK h2 h)
  . ext g1 e1;show λ_ _ h=>Uy (hS.t ct hK h1 e1) (hS.e ct hK h3 h)
  . show .none
 case tup xs=>
  have h1:=fu (R:=Cm P c) .mk hk;delta bh;dsimp only
  repeat' split
  all_goals try show .none
  ext ds g1 e1 hl;show .some (Uz (ku hS ct hK h1 e1) (qg _) hl)
 case lst xs=>
  have h1:=fu (R:=Cm P c) .mk hk;delta bh;dsimp only
  repeat' split
  all_goals try show .none
  ext ds g1 e1 hl;show .some (UG (ku hS ct hK h1 e1) (qg _) hl)
 case ix a b=>
  have h1:=(Cm.mk (ao hk).1);have h2:=(Cm.mk (ao hk).2);delta bh;dsimp only;split
  .
   ext r1 r2 g2 e1;let(s1,s2,g1,q1,q2,q3):=jg e1;cases q3
   repeat' split
   all_goals try show .none
   ext d1 d2 p1 p2 _ r0 e3;show .some (ZZ (bZ (hS.e ct hK h1 q1)) (bZ (hS.e ct hK h2 q2)) p1 p2 (WK hK (by have:=ct.room.units;lia) e3) h2.P9)
  . show .none
 case call i xs=>
  let(k1,k2):=ao hk;let(k3,k4):=ao k2;let(fi,h1,h2):=P5 k1;cases xs with
  |nil=>cases (ao k4).2
  |cons x xs=>
  have h3:=dec k3;have h4:=fu (R:=Cm P c) .mk (ao k4).1;exact YM X z (.Call (.Name (JF P i) (kid t 0).pos) (nh (cY P n c) t 1 (x::xs)) [] t.pos) g _;rw[<- h2]at h3 ⊢
  delta bh;dsimp only
  repeat' split
  all_goals try show .none
  ext fx k' ct' FG _ rs g1 e1;show λ_ _ h=>JQ hS ct hK h1 (hF _ _ _ h1 FG) h3 h4 (wL hS ct hK h4 e1) h
 case blt b xs=>
  cases xs with
  |nil=>cases (ao (ao hk).2).2
  |cons x xs=>
  have h2:=(aZ (ao hk).1).1;have h3:=(aZ (ao hk).1).2;have h4:=fu (R:=Cm P c) .mk (ao (ao hk).2).1;delta bh;dsimp only
  repeat' split
  all_goals try show .none
  ext rs g1 e1 _ ds e2 _ r0 e3;have ha:=wL hS ct hK h4 e1;have fK:=WM hK ct.calm (by have:=ct.room.units;lia) e3
  have fL:=(Cm.mk (ao (ao (ao hk).2).1).1).star (env:=X.env) (nh (cY P n c) t 2 xs);have iY:=(fu .mk (ao (ao (ao hk).2).1).2).plain (env:=X.env) (pos:=t.pos);cases b <;> first |show .some (Gy ha e2 fK (ct.Bf _ h3) (ct.md.bn _ h2) rfl ⋯ ⋯ fL iY) |show .some (CK ha e2 fK (ct.Bf _ h3) (ct.md.bn _ h2) rfl ⋯ ⋯ fL iY)
 case Lq a n'=>
  have h1:=Cm.mk (ao (ao hk).2).1;have h2:=(aZ (ao hk).1).1;have h3:=(aZ (ao hk).1).2;have h4:=(aZ (ao (ao (ao hk).2).2).2).1;have h5:=(aZ (ao (ao (ao hk).2).2).2).2;have h7:=DO.mp (ao (ao (ao hk).2).2).1;delta bh;dsimp only
  repeat' split
  all_goals try show .none
  ext r0 g1 e1 _ d e2;let(t1,_):=Xc ct (JB.cons (pos:=(kid t 2).pos) h4 h5 rfl h7 .nil);cases t1 with
  |cons t1 _=>show .some (Vc hK (bZ (hS.e ct hK h1 e1)) e2 (λ_ _ _ p=>Jz p h7) (ct.Bf _ h3) (ct.md.bn _ h2) rfl t1.gl t1.mg t1.bt t1.nn t1.db (h1.star _))
 case comp n' kk T it co xe=>
  let(rfl,h1,h2,h3,h4,h5,h6,h7,h8):=qj hk;delta bh;dsimp only;split
  . ext acc g1 e1;let(items,g1,gE,w1,w2,w3,w4,w5,rfl):=wO hS ct hK h3 h4 h5 h6 h7 h8 e1;show .some (Ny (jf ct h1) ct.calm (by rw[ct.N];show eO h2) w1 w2 w3 w4 w5 λy=>h6.folded y)
  . show .none
 case wA n' kk T it co xe=>
  have b2:=(aZ (ao hk).1).1;have b3:=(aZ (ao hk).1).2;let(rfl,h1,h2,h3,h4,h5,h6,h7,h8):=qj (t:=kid t 1) (ao hk).2;delta bh;dsimp only;split
  . ext ks g1 e1;let(items,g1,gE,w1,w2,w3,w4,w5,rfl):=Em hS ct hK h3 h4 h5 h6 h7 h8 e1;show .some (Nk.Jq ct.calm (by have:=ct.room.units;lia) hK (Nk.O8 (λb=>by have:=(ct.blk (scope:=fH (kid t 1)) h3 b).room.units;lia) hK (jf ct h1) ct.calm (by rw[ct.N];show eO h2) w1 w2 w3 w4 λy=>h6.folded y) w5 (ct.Bf _ b3) (ct.md.bn _ b2) rfl)
  . show .none
 case dX n' kk T1 nL c1 T it co xe=>
  let(rfl,h1,h2,h3,h4,h4',h5,h5',h6,h7,h8,h9,h10):=rY hk;delta bh;dsimp only;split
  . ext acc g1 e1;let(items,g1,gE,w1,w2,w3,w4,w5,w6,w7,rfl):=rX hS ct hK h3 h4 h4' h5 h5' h6 h7 h8 h9 h10 e1;show .some (Ic (jf ct h1) ct.calm (by rw[ct.N];show eO h2) w1 w2 w3 w4 w5 w6 w7 (λy=>h6.folded y) λb y=>h8.folded y)
  . show .none
 case iP a=>
  have h1:=Cm.mk (ao hk).2;have h2:=(aZ (ao (ao hk).1).1).1;have h3:=(aZ (ao (ao hk).1).1).2;have h4:=(aZ (ao (ao hk).1).2).1;have h5:=(aZ (ao (ao hk).1).2).2;delta bh;dsimp only
  repeat' split
  all_goals try show .none
  ext j g1 e1 hj;let(hj,hl):=hj;simp only[Ju,eI,gN]at hj;have q:=Hh (lp:=(kid t 0).pos) (pos:=t.pos) (aaj (p:=(kid (kid t 1) 0).pos) (rp:=(kid t 1).pos) (cB (aP hS ct hK h1 e1) dz (h1.star _)) (ct.Bf _ h3) (ct.md.bn _ h2) (h1.star _)) ct.calm (ct.Bf _ h5) (ct.md.bn _ h4) rfl #[by lia,by lia,hj.1,hj.2] (by rw[Int.sub_zero];show hl)
  rw[Int.sub_zero]at q;show .some (q)
 case wB a=>
  have h1:=Cm.mk (ao hk).2;have h2:=(aZ (ao (ao hk).1).1).1;have h3:=(aZ (ao (ao hk).1).1).2;have h4:=(aZ (ao (ao hk).1).2).1;have h5:=(aZ (ao (ao hk).1).2).2;delta bh;dsimp only
  repeat' split
  all_goals try show .none
  ext j g1 e1 hj;let(hj,hl):=hj;simp only[Ju,eI,gN]at hj;have q:=N3 (lp:=(kid t 0).pos) (pos:=t.pos) (aaj (p:=(kid (kid t 1) 0).pos) (rp:=(kid t 1).pos) (cB (aP hS ct hK h1 e1) dz (h1.star _)) (ct.Bf _ h3) (ct.md.bn _ h2) (h1.star _)) ct.calm (ct.Bf _ h5) (ct.md.bn _ h4) rfl #[by lia,by lia,hj.1,hj.2] (by rw[Int.sub_zero];show hl)
  rw[Int.sub_zero]at q;show .some (q)
 case meth m o x=>
  have h1:=Cm.mk (ao (ao hk).2).1;have h2:=Cm.mk (ao (ao hk).2).2;have h4:=(ao hk).1;delta bh;dsimp only
  repeat' split
  all_goals try show .none
  ext r0 g1 e1 _ d e2 _ l e3 _ r1 g2 e4 _ _ d0 d1 p0 p1 _ x e5;let(q1,q2,q3):=Px e3 (Py e2 p0);show .some (N2 hK q1 q2 q3 (bZ (hS.e ct hK h1 e1)) e2 e3 (Xd (bZ (hS.e ct hK h2 e4)) p1 (h2.star _)) p0 p1 (WN hK ct.room e5) (h1.attr _) h4 (h2.star _))
 case append i x=>
  let(h5,hk):=ao hk;let(h1,h2,h3):=fY (ao hk).1;have h4:=Cm.mk (ao hk).2;let(hd,fK):=bM h3;delta bh;dsimp only
  repeat' split
  all_goals try show .none
  ext l0 e0 _ d g1 e1 _ l e2 hl;show .some (CW (by rw[ct.N];show h1) (ct.vis h2) hd fK e0 (cB (aP hS ct hK h4 e1) dz (h4.star _)) e2 hl rfl h5 (h4.star _))
 case extend i x=>
  let(h5,hk):=ao hk;let(h1,h2,h3):=fY (ao hk).1;have h4:=Cm.mk (ao hk).2;let(hd,fK):=bM h3;delta bh;dsimp only
  repeat' split
  all_goals try show .none
  ext l0 e0 _ d g1 e1 _ l e2 hl;show .some (Dd (by rw[ct.N];show h1) (ct.vis h2) hd fK e0 (cB (aP hS ct hK h4 e1) dz (h4.star _)) e2 hl rfl h5 (h4.star _))
 case rU i x=>
  let(h5,hk):=ao hk;let(h1,h2,h3):=fY (ao hk).1;have h4:=Cm.mk (ao hk).2;let(hd,fK):=bM h3;delta bh;dsimp only
  repeat' split
  all_goals try show .none
  ext l0 e0 _ j g1 e1 _ l e2 _ n e3 _ d e4 hl;show .some (G3 (by rw[ct.N];show h1) (ct.vis h2) hd fK e0 (cB (aP hS ct hK h4 e1) dz (h4.star _)) e2 e3 e4 hl rfl h5 (h4.star _))
 all_goals show Bool.noConfusion (show false=true from hk)
def JR(hS:nk P rn)(hX:SndX P rn)(hF:qi P fns)(ct:bx P k X c)(hK:z.K=X.K)(hc:Cm P c e x)(h:bh rn z.bor k fns x g=!(r,g')):aA X z e g r g':=Qf hS hX hF ct hK hc r g' h
end
section
def JT(hS:nk P rn)(ct:bx P k X c)(hK:z.K=X.K)(hc:Cm P c e x)(h:stepT rn z.bor k x g=!(b,g')):cZ X z e g b g':=by
 have plain:(match rn.e z.bor k x g with |!(r,g1)=>(match pk (norm r) g1 with |some d=>(match NC d with |some c=>!(c,g1) |none=>none) |none=>none) |none=>none)=!(b,g')->
   (∀whole,isTrue e X.env whole=(do let v <- whole;standAt e.pos;holding [v] (truthy v)))->cZ X z e g b g':=by
  intro h he
  repeat' split at h
  all_goals try contradiction
  ext r g1 e1 _ d e2 _ b' e3;symm;show Hg hK (bZ (hS.e ct hK hc e1)) e2 e3 he
 let(n,t,rfl,hk):=hc.W2;cases x
 case cmp op a b=>
  have h1:=Cm.mk (ao hk).1;have h2:=Cm.mk (ao (ao hk).2).1;have h3:=lI (ao (ao hk).2).2;delta stepT at h;dsimp only at h;split at h
  .
   ext r1 r2 g2 e1;let(s1,s2,g1,q1,q2,q3):=jg e1;cases q3
   repeat' split at h
   all_goals try contradiction
   ext d1 d2 p1 p2 _ r0 e3;symm;show Up (bZ (hS.e ct hK h1 q1)) (bZ (hS.e ct hK h2 q2)) p1 p2 (pZ hK ct.room e3) h3
  . symm
 case chain a ops xs=>
  let(k1,k2):=ao hk;let(k3,k4):=ao k2;let(k5,k6):=ao k4;let(Vt,Vu,ops,rfl):=two (dec (ao k6).1);let(x1,x2,xs,rfl):=two (dec (ao k6).2);have h1:=Cm.mk k1;have h2:=fu (R:=Cm P c) .mk k3;have h3:=lI k5;delta stepT at h;dsimp only at h;split at h
  . ext d1 g1 e1;show G9 (aP hS ct hK h1 e1) (JM hS ct hK h2 h) h3
  . symm
 case not a=>
  have h1:=Cm.mk hk;delta stepT at h;dsimp only at h;split at h
  . ext b' g1 e1;symm;show Uq (hS.t ct hK h1 e1)
  . symm
 case and xs=>show (JN hS ct hK (fu .mk hk) h).tr
 case or xs=>show (Qc hS ct hK (fu .mk hk) h).tr
 case ite a b d=>symm
 case val d=>show plain h (by rw[show P8 P (cY P n) c (.val d) t=ur d t from rfl];delta ur;split <;> show λ_=>rfl)
 all_goals first |show plain h λ_=>rfl |show Bool.noConfusion (show false=true from hk)
def uy(ct:bx P k X c):PassesOwn (~~~2) X.A X.env X.xe:=by rw[ct.xe];show PassesOwn.never
def qk(hb:∀{g g':G}{f:Fl},b g=!(f,g')->eZ X z body g f g'):∀{items:List D}{g g':G}{f:Fl},pY T b items g=!(f,g')->fU X z body T items g f g'
 | [],_,_,_,h=>by symm;show .nil
 |d::l,_,_,_,h=>by
  delta pY at h;split at h
  . symm
  .
   ext g0 e0;split at h
   . symm
   . ext g1 e1;show .next e0 (hb e1) (qk hb h)
   . ext g1 e1;show .cont e0 (hb e1) (qk hb h)
   . ext g1 e1;symm;show .brk e0 (hb e1)
   . ext g1 e1;symm;show .ret e0 (hb e1)
def zo(ht:∀{g g':G}{v:Bool},t g=!(v,g')->cZ X z ce g v g')(hb:∀{g g':G}{f:Fl},b g=!(f,g')->eZ X z body g f g') :
  ∀{n:Nat}{g g':G}{f:Fl},R9 t b n g=!(f,g')->m7 X z ce body n g f g'
 | 0,_,_,_,h=>by symm
 |n+1,_,_,_,h=>by
  delta R9 at h;split at h
  . symm
  . ext g1 e1;symm;show .done (ht e1)
  .
   ext g1 e1;split at h
   . symm
   . ext g2 e2;show .next (ht e1) (hb e2) (zo ht hb h)
   . ext g2 e2;show .cont (ht e1) (hb e2) (zo ht hb h)
   . ext g2 e2;symm;show .brk (ht e1) (hb e2)
   . ext g2 e2;symm;show .ret (ht e1) (hb e2)
def kB(h:Cm P c e x)(hn:uh (λ_ _=>true) e=false)(t:Option Expr)(l:Nat)(env:Env):swapsWith e t l env=pure false:=by have hs:=h.Lw;cases e <;> first |rfl |show Bool.noConfusion (show true=false from hn) |show Bool.noConfusion (show false=true from hs)
def kC(ct:bx P k X c)(nu:c.df=true)(hl:fX c y=true):swapsWith (.ListComp a b s p) (!(.Name y py)) l X.env=pure (Pz c y py p s):=by
 exact (pure (X.env.blockKind==.function&&X.env.kindOf y==some .local&&py.line==(Expr.ListComp a b s p).pos.line&&(not ((s.names.any λ(n,k)=>n==y&&(k==.local||k==.cell))))):Sem Bool)=_
 rw[ct.bk nu];have e:(X.env.kindOf y==some .local)=(c.sc.names.lookup y==some .local):=by
  delta fX at hl;split at hl
  . ext e;rw[e];exact (X.env.scope.names.lookup y==_)=_;rw[ct.Jx y e]
  . ext e;rw[e];exact (X.env.scope.names.lookup y==_)=_;rw[ct.cel nu y e]
  . cases hl
 rw[e];rfl
def En(ct:bx P k X c)(nu:c.df=true)(hl:fX c y=true)(h:Cm P c e x)(hn:uh (λs p=>Pz c y py p s) e=false):swapsWith e (!(.Name y py)) l X.env=pure false:=by have hs:=h.Lw;cases e <;> first |rfl |show Bool.noConfusion (show true=false from hn) |show Bool.noConfusion (show false=true from hs) | (rw[kC ct nu hl];show congrArg pure hn)
abbrev Eo:Expr->Bool
 |.Starred ..=>true
 |_=>false
def ql(h:Cm P c e x):Eo e=false:=by have hs:=h.Lw;cases e <;> first |rfl |show Bool.noConfusion (show false=true from hs)
def JV(h:Cm P c e xe):swappedStores [.Tuple [.Subscript (.Name x pn) ix dM,.Subscript (.Name y pn2) iy vL] kt pt] e env=pure none:=by
 cases e with
 |Tuple es k p=>
  exact (if _ then _ else _:Sem (Option (List Str)))=_
  split
  . rfl
  .
   split
   . rfl
   . show fR rfl
 |_=>first |rfl |show Bool.noConfusion (show false=true from hs)
def zp{x:Str}{pn dM:Pos}{ix:Expr}{xi:Ex}{X:Cx}(h:Cm P c ix xi):∀v,assign (.Subscript (.Name x pn) ix dM) X.env v=(do
   let ov <- holding [v] (eval (.Name x pn) X.env)
   let iv <- holding [v,ov] (eval ix X.env)
   standAt dM
   holding [v,ov,iv] (setItem ov iv v)
   release [v,ov,iv] []):=by
 have hs:=h.Lw;cases ix <;> first |show λ_=>rfl |show Bool.noConfusion (show false=true from hs)
def Xf(h:Cm P c e x)(hn:∀vs k p,e≠.Tuple vs k p):swappedStores [.Tuple es k0 pt] e env=pure none:=by cases e <;> first |rfl |show absurd rfl (hn _ _ _) |show Bool.noConfusion (show false=true from hs)
def wQ{α β:Type}{f:α->Option β}:∀{l:List α}{a:α},a∈l->f a=none->(l.filterMap f).length<l.length
 |b::l,a,h,e=>by
  have hle:=List.length_filterMap_le f l;rcases eC.mp h with rfl |h
  . rw[List.filterMap_cons_none e];show Nat.lt_succ_of_le hle
  .
   have:=wQ h e;rw[y7];split
   . show Nat.lt_succ_of_le hle
   . rw[mB];show Nat.succ_lt_succ this
def Xg{es:List Expr}{k0:Nat}{pt:Pos}{e:Expr}(ct:bx P k X c)(h:PB c es e=true):swappedStores [.Tuple es k0 pt] e X.env=pure none:=by
 let(h1,h2):=ao h;let(h3,h4):=ao h2;let(a,ha,h5):=B4.mp h4;delta celN at h5;split at h5
 .
  ext x ex;obtain⟨px,rfl⟩:∃p,a=.Name x p:=by cases a <;> first | (cases ex;show#[_,rfl]) |cases ex
  have hx:X.env.kindOf x=some .cell:=ct.cel h3 x (t5 h5);obtain⟨vs,k2,xT,rfl⟩:∃vs k p,e=.Tuple vs k p:=by cases e <;> first |show#[_,_,_,rfl] |cases h1
  exact (if _ then _ else _:Sem (Option (List Str)))=_
  split
  . rfl
  .
   exact (if _ then _ else _:Sem (Option (List Str)))=_
   split
   . rfl
   .
    exact (if _ then _ else _:Sem (Option (List Str)))=_
    rw[fR];rw[wS];apply .inl ?_;rw[bne_iff_ne];apply mP (wQ ha ?_);simp only[hx];rfl
 . cases h5
def Xh(ct:bx P k X c)(h:Cm P c e x)(hn:(∀vs k p,e≠.Tuple vs k p)\/PB c es e=true):swappedStores [.Tuple es k0 pt] e X.env=pure none:=
 hn.elim (Xf h) (Xg ct)
def Xi(h:Cm P c e x):swappedStores [.Subscript (.Name y pn) ix dM] e env=pure none:=by cases e <;> first |rfl |show Bool.noConfusion (show false=true from hs)
def Xj(ct:bx P k X c)(h:WQ c x y px py a b=true)(ca:Cm P c a xa)(cb:Cm P c b xb):X.env.scope.names.lookup x=some .local/\X.env.scope.names.lookup y=some .local/\
  swappedStores [.Tuple [.Name x px,.Name y py] kt pt] (.Tuple [a,b] k2 xT) X.env=pure (![x,y]):=by
 delta WQ at h;simp only[eI]at h;let((((((h1,h2),h3),h4),h5),h6),h7):=h;have e1:=ct.Jx x (eq_of_beq h1);have e2:=ct.Jx y (eq_of_beq h2);apply#[e1,e2,?_];have hb:=ct.bk h7;have sa:=ql ca;have sb:=ql cb;have k1:X.env.kindOf x=some .local:=e1;have k2':X.env.kindOf y=some .local:=e2;have hxy:(y==x)=false:=by
  simp only[AO]at h4;rw[y6]at h4 ⊢
  show λe=>h4 e.symm
 have h3':=eq_of_beq h3;exact (if _ then _ else _:Sem (Option (List Str)))=_
 rw[eR (by rw[hb];simp)]
 rw[eR (by exact ¬ ((Eo a||(Eo b||false))=true);rw[sa,sb];decide)]
 dsimp only;generalize hq:List.filterMap _ [Expr.Name x px,Expr.Name y py]=ns;have hn:ns=[x,y]:=by rw[<- hq];simp[k1,k2',h3',show (Expr.Name x px).pos=px from rfl]
 subst hn;have hd:[x,y].eraseDups.length=2:=by have fE:=y6.mp hxy;simp[List.eraseDups_cons,fE]
 rw[eR (by rw[hd];simp)]
 rw[eR (by exact ¬ ((foldedForSure 8 a&&(foldedForSure 8 b&&true))=true);rw[Bool.and_true];intro z;rw[z]at h5;show absurd h5 ⋯)]
 rw[eR (by exact ¬ ((constantsAlone 8 a&&(constantsAlone 8 b&&true))=true);rw[Bool.and_true];intro z;rw[z]at h6;show absurd h6 ⋯)]
def Qg{x y q:Str}{a b d:Expr}{px py pq pt xT:Pos}{kt k2:Nat}{xa xb xd:Ex}(ct:bx P k X c)(h:WR c x y q px py pq a b d=true)(ca:Cm P c a xa)(cb:Cm P c b xb)(cd:Cm P c d xd):X.env.scope.names.lookup x=some .local/\X.env.scope.names.lookup y=some .local/\X.env.scope.names.lookup q=some .local/\
  swappedStores [.Tuple [.Name x px,.Name y py,.Name q pq] kt pt] (.Tuple [a,b,d] k2 xT) X.env=pure (![x,y,q]):=by
 delta WR at h;simp only[eI]at h;let((((((((((h1,h2),h2'),h3),h3'),h4),h4'),h4''),h5),h6),h7):=h;have e1:=ct.Jx x (eq_of_beq h1);have e2:=ct.Jx y (eq_of_beq h2);have e3:=ct.Jx q (eq_of_beq h2');apply#[e1,e2,e3,?_];have hb:=ct.bk h7;have sa:=ql ca;have sb:=ql cb;have sd:=ql cd;have k1:X.env.kindOf x=some .local:=e1;have k2':X.env.kindOf y=some .local:=e2;have k3:X.env.kindOf q=some .local:=e3;have ne:∀{x y:Str},((not (x==y)))=true->(y==x)=false:=λh4=>by
  simp only[AO]at h4;rw[y6]at h4 ⊢
  show λe=>h4 e.symm
 have h3:=eq_of_beq h3;have h3':=eq_of_beq h3';exact (if _ then _ else _:Sem (Option (List Str)))=_
 rw[eR (by rw[hb];simp)]
 rw[eR (by exact ¬ ((Eo a||(Eo b||(Eo d||false)))=true);rw[sa,sb,sd];decide)]
 dsimp only;generalize hq:List.filterMap _ [Expr.Name x px,Expr.Name y py,Expr.Name q pq]=ns;have hn:ns=[x,y,q]:=by rw[<- hq];simp[k1,k2',k3,h3,h3',show ∀x px,(Expr.Name x px).pos=px from λ_ _=>rfl]
 subst hn;have hd:[x,y,q].eraseDups.length=3:=by have n1:=y6.mp (ne h4);have n2:=y6.mp (ne h4');have n3:=y6.mp (ne h4'');simp[List.eraseDups_cons,n1,n2,n3]
 rw[eR (by rw[hd];simp)]
 rw[eR (by exact ¬ ((foldedForSure 8 a&&(foldedForSure 8 b&&(foldedForSure 8 d&&true)))=true);rw[Bool.and_true];intro z;rw[z]at h5;show absurd h5 ⋯)]
 rw[eR (by exact ¬ ((constantsAlone 8 a&&(constantsAlone 8 b&&(constantsAlone 8 d&&true)))=true);rw[Bool.and_true];intro z;rw[z]at h6;show absurd h6 ⋯)]
def wR(hS:nk P rn)(ct:bx P k X c)(nu:c.df=true)(hK:z.K=X.K)(hc:Sj P c s x)(h:aH rn z.bor k x g=!(f,g')):gq X z s g f g':=by
 let(mm,n,t,rfl,hk):=hc.W2;cases x
 case ret x=>
  have h1:=Cm.mk hk;delta aH at h;dsimp only at h;split at h
  . ext r g1 e1;symm;show Vh (hS.e ct hK h1 e1)
  . symm
 case expr x=>
  have h1:=Cm.mk (ao hk).1;have h2:=noC (ao hk).2;delta aH at h;dsimp only at h;split at h
  . ext r g1 e1;symm;show Ni (hS.e ct hK h1 e1) (kB h1 h2 _ _ _)
  . symm
 case set i x=>
  have h1:=dec (ao (ao hk).1).1;have h2:=(ao (ao hk).1).2;have h3:=Cm.mk (ao (ao hk).2).1;have h4:=lI (ao (ao hk).2).2;have nm:=ct.nm h1 h2;have hsw:swapsWith (cY P (mm+1) c x (az t 0)) (!(.Name (Ev.nm c i) (az t 1).pos)) t.pos.line X.env=pure false:=En ct nu h2 h3 h4;delta aH at h;dsimp only at h;split at h
  . symm
  .
   ext hb;split at h
   .
    ext l g1 e1;split at h
    . ext hl;symm;show Nm nm.nd nm.ix nm.lc (hS.e ct hK h3 e1) hl hsw nm.fn hb
    . symm
   .
    ext r g1 _ e1;split at h
    . ext d g2 e2;symm;show Nj nm.nd nm.ix nm.lc (JL (hS.e ct hK h3 e1) e2) hsw nm.fn hb
    . symm
   . symm
 case setC i x=>
  let(g1,g2):=ao hk;let(h2,g4):=ao g2;let(h3,g6):=ao g4;have h1:=dec g1;cases x
  case comp n' kk T it co xe=>
   have hl:c.sc.names.lookup (Ev.nm c i)=some .local:=by delta Pz at h2;simp only[eI]at h2;show eq_of_beq h2.1.1
   have fL:fX c (Ev.nm c i)=true:=by delta fX;rw[hl]
   have nm:=ct.nm h1 fL;delta aH at h;dsimp only at h;split at h
   . symm
   .
    ext hb
    repeat' split at h
    all_goals try contradiction
    ext acc g1 e1 hi;symm;let(rfl,k1,k2,k3,k4,k5,k6,k7,k8):=qj h3
    . let(items,g1,gE,w1,w2,w3,w4,w5,rfl):=wO hS ct hK k3 k4 k5 k6 k7 k8 e1;show Nz (jf ct k1) ct.calm (by rw[ct.N];show eO k2) w1 w2 w3 w4 w5 nm.nd nm.ix (ct.Jx _ hl) hb hi (by rw[kC ct nu fL,h2]) λww=>k6.folded ww
  case dX n' kk T1 nL c1 T it co xe=>
   have hl:c.sc.names.lookup (Ev.nm c i)=some .local:=by delta Pz at h2;simp only[eI]at h2;show eq_of_beq h2.1.1
   have fL:fX c (Ev.nm c i)=true:=by delta fX;rw[hl]
   have nm:=ct.nm h1 fL;delta aH at h;dsimp only at h;split at h
   . symm
   .
    ext hb
    repeat' split at h
    all_goals try contradiction
    ext acc g1 e1 hi;symm;let(rfl,k1,k2,k3,k4,k4',k5,k5',k6,k7,k8,k9,k10):=rY h3
    . let(items,g1,gE,w1,w2,w3,w4,w5,w6,w7,rfl):=rX hS ct hK k3 k4 k4' k5 k5' k6 k7 k8 k9 k10 e1;show Ie (jf ct k1) ct.calm (by rw[ct.N];show eO k2) w1 w2 w3 w4 w5 w6 w7 nm.nd nm.ix (ct.Jx _ hl) hb hi (by rw[kC ct nu fL,h2]) (λww=>k6.folded ww) λb ww=>k8.folded ww
  all_goals show Bool.noConfusion (show false=true from g6)
 case tgt T x=>
  let(g1,g2):=ao hk;let(g3,g4):=ao g2;have h2:=Cm.mk (ao g4).1;have h4:=noC (ao g4).2;cases T with
  |nm i=>cases g1
  |tp is=>
  have h1:=qc (t:=az t 1) g3;have h3:(∀vs k p,cY P (mm+1) c x (az t 0)≠.Tuple vs k p)\/PB c (zl c (az t 1) 0 is) (cY P (mm+1) c x (az t 0))=true:=((wS _ _).mp g1).imp (λh vs k p q=>by rw[q]at h;symm) id
  delta aH at h;dsimp only at h;split at h
  . symm
  .
   ext hb
   repeat' split at h
   all_goals try contradiction
   ext d g1 e1 _ g2 e2;symm;let(tt,q,kt):=rW ct hK h1 λi hi hm=>hb (by rw[B4];show#[i,hi,oC hm])
   let(te,qe,ke):=aP hS ct hK h2 e1;have hsw:=kB h2 h4 (!(.Tuple (zl c (az t 1) 0 is) (ng (az t 1)) (az t 1).pos)) t.pos.line X.env;have fL:swappedStores [.Tuple (zl c (az t 1) 0 is) (ng (az t 1)) (az t 1).pos] (cY P (mm+1) c x (az t 0)) X.env=pure none:=Xh ct h2 h3;apply#[_,yg qe q hsw fL rfl,λJ As M H E s k2=>ke J As M H _ s λv H1 bu M1 s1 dN R=>?_]
   show kt d g1 _ e2 v J bu M1 H1 _ s1 R λσ' aE s' _=>k2 σ' aE M1 H1 s' dN
 case item i xj x=>
  have h1:=(fY (ao hk).1).1;have h2:=(fY (ao hk).1).2.1;have h3:=(fY (ao hk).1).2.2;have h4:=Cm.mk (ao (ao hk).2).1;have h5:=Cm.mk (ao (ao (ao hk).2).2).1;have h6:=noC (ao (ao (ao hk).2).2).2;let(hd,fK):=bM h3;delta aH at h;dsimp only at h
  repeat' split at h
  all_goals try contradiction
  ext d g1 e1 _ l0 e2 _ n g2 e3 _ l e4 _ m e5;symm;have hsw:=kB h5 h6 (!(.Subscript (.Name (Ev.nm c i) (kid (az t 1) 0).pos) (cY P (mm+1) c xj (kid (az t 1) 1)) (az t 1).pos)) t.pos.line X.env;have fL:swappedStores [.Subscript (.Name (Ev.nm c i) (kid (az t 1) 0).pos) (cY P (mm+1) c xj (kid (az t 1) 1)) (az t 1).pos] (cY P (mm+1) c x (az t 0)) X.env=pure none:=Xi h5;show Np (by rw[ct.N];show h1) (ct.vis h2) hd fK (aP hS ct hK h5 e1) e2 (aP hS ct hK h4 e3) e4 e5 (zp h4) hsw fL rfl
 case aug i op x=>
  have h1:=dec (ao (ao hk).1).1;have h2:=(ao (ao hk).1).2;have h3:=Cm.mk (ao hk).2;have nm:=ct.nm h1 h2;delta aH at h;dsimp only at h;split at h
  . symm
  .
   ext hb;split at h
   .
    ext d1 e1
    repeat' split at h
    all_goals try contradiction
    ext d2 g1 e2 _ d e3;symm;show Vw nm hb (aP hS ct hK h3 e2) e1 (Pw e3)
   .
    ext e1;split at h
    .
     ext ho;subst ho
     repeat' split at h
     all_goals try contradiction
     ext m g1 e2 _ l e3 hl;symm;show N8 nm (aP hS ct hK h3 e2) e1 e3 hl
    . symm
   . symm
 case par i j a b=>
  have h1:=(dec (ao hk).1).1;have h2:=(dec (ao hk).1).2.1;have h3:=(dec (ao hk).1).2.2;have h4:=(ao (ao hk).2).1;have h5:=Cm.mk (ao (ao (ao hk).2).2).1;have h6:=Cm.mk (ao (ao (ao hk).2).2).2;delta aH at h;dsimp only at h;split at h
  . symm
  .
   ext hbi;split at h
   . symm
   .
    ext VP;split at h
    . ext d1 d2 g1 e1;symm;let(w1,w2,w3):=Xj ct h4 h5 h6;show VN ct.calm (ct.N▸ct.nd) (by rw[ct.N];show h1) (by rw[ct.N];show h2) h3 w1 w2 (ku hS ct hK (.cons h5 (.cons h6 .nil)) e1) hbi VP w3 rfl
    . symm
 case tri i j l a b d=>
  let(h1,h2,h3,n1,n2,n3):=dec (ao hk).1;have h4:=(ao (ao hk).2).1;have h5:=Cm.mk (ao (ao (ao hk).2).2).1;have h6:=Cm.mk (ao (ao (ao (ao hk).2).2).2).1;have h7:=Cm.mk (ao (ao (ao (ao hk).2).2).2).2;delta aH at h;dsimp only at h;split at h
  . symm
  .
   ext hbi;split at h
   . symm
   .
    ext VP;split at h
    . symm
    .
     ext hbl;split at h
     . ext d1 d2 d3 g1 e1;symm;let(w1,w2,w3,w4):=Qg ct h4 h5 h6 h7;show N7 ct.calm (ct.N▸ct.nd) (by rw[ct.N];show h1) (by rw[ct.N];show h2) (by rw[ct.N];show h3) n1 n2 n3 w1 w2 w3 (ku hS ct hK (.cons h5 (.cons h6 (.cons h7 .nil))) e1) hbi VP hbl w4
     . symm
 case items2 i x j y e=>
  let(g1,g2):=ao hk;let(g3,g4):=ao g2;have h1:=(fY (ao g1).1).1;have h2:=(fY (ao g1).1).2.1;have h3:=(fY (ao g1).1).2.2;have h4:=(fY (ao g1).2).1;have h5:=(fY (ao g1).2).2.1;have h6:=(fY (ao g1).2).2.2;have h7:=Cm.mk (ao g3).1;have h8:=Cm.mk (ao g3).2;have h9:=Cm.mk (ao g4).1;have h10:=noC (ao g4).2;let(hd,fK):=bM h3;let(hd2,VR):=bM h6;delta aH at h;dsimp only at h
  repeat' split at h
  all_goals try contradiction
  ext d1 d2 g1 e1 _ l0 e2 _ n1 g2 e3 _ l e4 _ m1 e5 _ l1 e6 _ n2 g3 e7 _ l2 e8 _ m2 e9;symm;have hsw:=kB h9 h10 (!(.Tuple [.Subscript (.Name (Ev.nm c i) (kid (kid (az t 1) 0) 0).pos) (cY P (mm+1) c x (kid (kid (az t 1) 0) 1)) (kid (az t 1) 0).pos,.Subscript (.Name (Ev.nm c j) (kid (kid (az t 1) 1) 0).pos) (cY P (mm+1) c y (kid (kid (az t 1) 1) 1)) (kid (az t 1) 1).pos] (ng (az t 1)) (az t 1).pos)) t.pos.line X.env;show Dr ct.calm hK (by rw[ct.N];show h1) (ct.vis h2) hd fK (by rw[ct.N];show h4) (ct.vis h5) hd2 VR (aP hS ct hK h9 e1) e2 (aP hS ct hK h7 e3) e4 e5 e6 (aP hS ct hK h8 e7) e8 e9 (zp h7) (zp h8) hsw (JV h9)
 case ite e a b=>
  have h1:=Cm.mk (ao hk).1;have h2:=JK.mk (ao (ao hk).2).1;have h3:=JK.mk (ao (ao hk).2).2;delta aH at h;dsimp only at h;split at h
  . ext g1 e1;show Rx (hS.t ct hK h1 e1) (by rw[fR rfl];show hS.b ct nu hK h2 h)
  . ext g1 e1;show Rx (hS.t ct hK h1 e1) (by rw[eR t6];show hS.b ct nu hK h3 h)
  . symm
 case loop T it b=>
  have h1:=qc (t:=az t 0) (ao hk).1;have h2:=uq (R:=Cm P c) .mk (ao (ao hk).2).1;have h3:=JK.mk (ao (ao hk).2).2;delta aH at h;dsimp only at h;split at h
  . symm
  .
   ext hb;split at h
   . ext items g1 e1;show Vp (uy ct) ct.calm (qh hS ct hK (wM h1) h2 e1) (rW ct hK h1 λi hi hm=>hb (by rw[B4];show#[i,hi,oC hm])) (qk (λe=>hS.b ct nu hK h3 e) h) λy=>h2.folded y
   . symm
 case «while» e b=>have h1:=Cm.mk (ao hk).1;have h2:=JK.mk (ao hk).2;show Hf (uy ct) (zo (λe=>hS.t ct hK h1 e) (λe=>hS.b ct nu hK h2 e) h)
 case stuck=>symm
 all_goals show Bool.noConfusion (show false=true from hk)
def JW(hS:nk P rn)(ct:bx P k X c)(nu:c.df=true)(hK:z.K=X.K)(h:CmG P (Cm P c) (Sj P c) c ss x)(e:aH rn z.bor k x g=!(f,g')):Dt X z ss g f g':=by
 cases h with
 |@rows y x mn a b tn im it iy ia ib scope N' kb j lp px rp mp YF V2 ap py pa pb Fp y1 y2 a1 a2 b1 b2 sp1 sp2 RM RP RN Lk ep1 ep2 Ii rpos yr tp tk h1 h2 h3 h4 h5 h6 h7 h8 h9 h10=>
  delta aH at e;dsimp only at e;split at e
  .
   ext m ak gm gt;split at e
   .
    ext gy ga gb
    repeat' split at e
    all_goals try contradiction
    ext hm _ ll hF;cases e;have hl:c.sc.names.lookup y=some .local:=by have:=h3.2.1;delta Pz at this;simp only[eI]at this;show eq_of_beq this.1.1
    have fL:fX c y=true:=by delta fX;rw[hl]
    obtain⟨m,rfl⟩:∃n:Nat,m=n:=#[m.toNat,by lia]
    let(dm,cm):=bM h1.2.2;let(dt,ct'):=bM h2.2.2;let(dy,cy):=bM h3.2.2;let(da,ca):=bM h4.1.2.2;let(db,cb):=bM h5.1.2.2;have ny:=ct.nm h3.1 fL;show yK (uy ct) hK h7.1 (by rw[ct.N];show eO h7.2.2.1) (jf ct h7.2.1) ct.calm (λbk=>(ct.blk h7.2.2.2.1 bk).nm (by rw[ct.N];show h7.2.2.2.2.1) h7.2.2.2.2.2) (ct.Bf _ h8.2) (ct.md.bn _ h8.1) (by rw[ct.N];show h1.1) (ct.vis h1.2.1) dm cm gm ⋯ ny.nd ny.ix (ct.Jx _ hl) dy cy gy (by rw[kC ct nu fL,h3.2.1])
     (ct.nm h4.1.1 h4.2) (ct.vis h4.1.2.1) da ca (ct.nm h5.1.1 h5.2) (ct.vis h5.1.2.1) db cb (by rw[ct.N];show h2.1) (ct.vis h2.2.1) dt ct' gt ga gb h6.1 h6.2.1 h6.2.2 h9 h10 hF
   . cases e
  . cases e
def JX(hS:nk P rn)(ct:bx P k X c)(nu:c.df=true)(hK:z.K=X.K):∀{uK:List Stmt}{xs:List Sm}{g g':G}{f:Fl},JK P c uK xs->iz rn z.bor k xs g=!(f,g')->eZ X z uK g f g':=by
 intro uK xs g g' f hc h
 induction hc generalizing g with
 |nil=>symm;show Vd
 |grp h1 h2 ih=>
  delta iz at h;split at h
  . ext g1 e1;show (JW hS ct nu hK h1 e1).bk (ih h)
  . ext hn e1;symm;show (JW hS ct nu hK h1 e1).end λe=>hn e
  . symm
 |cons h1 h2 ih=>
  delta iz at h;split at h
  . ext g1 e1;show Nh (wR hS ct nu hK h1 e1) (ih h)
  .
   ext hn e1;symm;have q:=wR hS ct nu hK h1 e1;cases f with
   |nx=>show absurd rfl hn
   |rt r=>show Ve q
   |bk=>show Vf q
   |ct=>show Vg q
  . symm
end
def wU{P:Pg}{fns:List Fx}(hF:qi P fns):∀n,nk P (run fns n)
 | 0=>#[λ_ _ _ h=>(by symm),λ_ _ _ h=>(by symm),λ_ _ _ _ h=>(by symm)]
 |n+1=>
  let a:=wU hF n
  #[λct hK hc h=>JR a ⟨⟩ hF ct hK hc h,λct hK hc h=>JT a ct hK hc h,λct nu hK hc h=>JX a ct nu hK hc h]
def Qh{P:Pg}{fns:List Fx}(hF:qi P fns)(n:Nat):nk P (run fns n):=wU hF n
abbrev Qi(K:Frag)(mg:Str->Option Value)(fi:Fi):Prop:=
 ∃f fd,mg fi.name=!(.ref f)/\ZL K fi.name fi.qual fi.st f fd/\fO fi.N fi.ps (aV fi.st)/\(∀us:List Value,us.length=fi.ps.length->bindArgs fd #[us,[]]=pure (fi.ps.zip us))/\(fi.name==(~~~3))=false
abbrev Xk(K:Frag)(mg:Str->Option Value)(p:Str×D):Prop:=(p.1==(~~~3))=false/\∃v u,mg p.1=!u/\RelV v u/\∀M H,Rep K M H p.2 v
inductive All{α:Type}(p:α->Prop):List α->Prop
 |nil:All p []
 |cons {a:α}{l:List α}:p a->All p l->All p (a::l)
def All.mem{α:Type}{p:α->Prop}:∀{l:List α},All p l->∀a∈l,p a:=by
 intro l h
 induction h with
 |nil=>intro a h;symm
 |cons h t ih=>
  intro a hm;rcases eC.mp hm with rfl |hm
  . show h
  . show ih a hm
structure Xl(P:Pg)(K:Frag)(mg:Str->Option Value):Prop where
 lam:P.lam=true->∀n∈u6,∀fS,PySem.W.codeIn K fS n=true->Wz K mg n fS
 Sd:∀(i:Nat) (C:Addr),P.Sd[i]?=!C->∃x,P.cls[i]?=!x/\mg x=!(.ref C)/\Df K C/\ZT K C
 kt:P.lam=true->(P.kt==(~~~3))=false/\∃D,mg P.kt=!(.ref D)/\Df K D/\∀C∈P.Sd,upIn K C D=true
 ups:∀(x:Str) (l:List (Addr×Bool)),(x,l)∈P.ups->(x==(~~~3))=false/\∃cv,((mg x=!cv/\∃D,cv=.ref D)\/(x∈P.bn/\x≠ "__name__" /\bootBuiltins x=!cv/\∃n,cv=.type n))/\PySem.W.kitOne K (.type "NoneType") cv=!false/\∀C b,l.lookup C=!b->PySem.W.kitOne K (.ref C) cv=!b
def Qj{P:Pg}{K:Frag}{mg:Str->Option Value}(h1:P.lam=false)(h2:P.Sd=[])(h3:P.ups=[]):Xl P K mg:=
 #[λh=>(by rw[h1]at h;symm),λi C h=>(by rw[h2]at h;symm),λh=>(by rw[h1]at h;symm),λx l h=>(by rw[h3]at h;symm)]
def md_mk{P:Pg}{K:Frag}{mg:Str->Option Value}(h1:All (Qi K mg) P.fn)(h2:All (Xk K mg) P.ct)(h3:All (λx=>mg x=none) P.bn)(h4:All (λx=>(x==(~~~3))=false/\∃C,mg x=!(.ref C)/\Df K C) P.cls)(h5:Xl P K mg):Ei P K mg:=
 #[λi fi e=>by let(f,fd,q1,q2,q3,q4,q5):=h1.mem fi (lL e);show#[f,fd,q1,q2,q3,.all q4,q5],λx d h=>h2.mem (x,d) h,λx h=>h3.mem x h,λx h=>h4.mem x h,h5.lam,h5.Sd,h5.kt,h5.ups]
abbrev BdOk(fi:Fi):Prop:=∀(kV doc pm:Value) (an:Option Addr) (fS ct:Value) (us:List Value),us.length=fi.ps.length->bindArgs (PySem.W.fnOf fi.name fi.qual (iZ fi.st) (bR fi.st) (aV fi.st) .none kV doc pm an fS ct) #[us,[]]=pure (fi.ps.zip us)
section
variable{K:Frag}
def fi_mk{fi:Fi}{oc:Value}{od an:Option Addr}{osl:Array (Option Value)}{kV doc pm fS ct:Value}(X:K.In h)(G:h.Ns mainGlobals mg)(a:PySem.W.nsIn K mainGlobals fi.name=!(!(.ref f)))
  (l:K.lookup f=!#[oc,od,.func (PySem.W.fnOf fi.name fi.qual (iZ fi.st) (bR fi.st) (aV fi.st) .none kV doc pm an fS ct),osl]) (c:PySem.W.codeIn K fS fi.qual=true) (k:PySem.W.keepIn K (.ref f)=true)
  (sc:fO fi.N fi.ps (aV fi.st)) (hb:BdOk fi)
  (hd:(fi.name==(~~~3))=false):Qi K mg fi:=
 let F:=Uc l c k
 #[f,_,PySem.W.mg_of X G a,F,sc,hb kV doc pm an fS ct,hd]
def Xm(X:K.In h)(G:h.Ns mainGlobals mg)(a:PySem.W.nsIn K mainGlobals x=!(!(.int i t)))(hd:(x==(~~~3))=false):Xk K mg (x,.int i):=
 #[hd,.int i,.int i t,PySem.W.mg_of X G a,#[t,rfl],λ_ _=>.int i]
def Xn{P:Pg}{fns:List Fx}{prog:Program}{w:World}{base:Heap}(hF:qi P fns)(md:Ei P K mg){i:Nat}{fi:Fi}{fx:Fx}{x:Str}{fd:FuncData}{n k:Nat}(V4:P.fn[i]?=!fi)(FG:fns[i]?=!fx)(hp:fi.ps=[x])(F:ZL K fi.name fi.qual fi.st f fd)(sc:fO fi.N fi.ps (aV fi.st)) :
  qF prog w K mg base Lg (k+1) f fd [x] (Vk K fi.N 1 λbor g r g'=>(run fns n).b bor k fx.body g=!(.rt r,g')):=by
 have:=Rz (P:=prog) (w:=w) (base:=base) (run:=λbor g r g'=>(run fns n).b bor k fx.body g=!(.rt r,g')) F sc λfS A outer s H E fK hr z g r g' hK hrun=>
  #[_,(Qh hF n).b (wN sc md fK hr) rfl hK (hF i fi fx V4 FG).body hrun,.inl rfl]
 rw[hp]at this;show this
def JZ{P:Pg}{fns:List Fx}{prog:Program}{w:World}(hF:qi P fns)(md:Ei P K mg){i:Nat}{fi:Fi}{fx:Fx}{x:Str}{n k:Nat}(V4:P.fn[i]?=!fi)(FG:fns[i]?=!fx)(hp:fi.ps=[x])(h:Qi K mg fi)(hm:mg fi.name=!(.ref f)) :
  ∃fd:FuncData,(∀(s:Shared) (u:Value),BindsTo s fd #[[u],[]] [(x,u)])/\∀base:Heap,K.In base->base.Ns mainGlobals mg->qF prog w K mg base Lg (k+1) f fd [x] (Vk K fi.N 1 λbor g r g'=>(run fns n).b bor k fx.body g=!(.rt r,g')):=by
 let(f',fd,q1,q2,q3,q4,q5):=h;rw[hm]at q1;cases q1;apply#[fd,λs u=>.of_eq ?_,λbase _ _=>Xn hF md V4 FG hp q2 q3]
 have:=q4 [u] (by rw[hp];rfl)
 rw[hp]at this;show this
def Xo{N:List Str}{run:List Nat->G->R->G->Prop}(hev:∀ns:List Int,ns.length<=63->∃g',run [] (fG N.length [.dat (.fix (ns.map .int))]) (.dat (.bl true)) g')(K:Frag)(H:Hp)(a:Addr)(ns: ~~~0)(hl:ns.length<=63)(hO:Al ((eU K).map (·.1)) H)(hS:dQ K H a (ns.map V.int)) :
  Vk K N 1 run [.ref a] H (λv _=>v=.bl true) λ_ _ _=>False:=by
 let(g',hg):=hev ns hl;have fx:rA K ((eU K).map (·.1)) H a (ns.map V.int):=by
  rcases hS with h |h
  .
   rcases hO a with ⟨_,z⟩ |⟨na,z⟩
   . rcases h with h |⟨o,h⟩ <;> (rw[z]at h;symm)
   .
    apply .inl #[na,?_];rcases h with h |h
    .
     rcases z with z |⟨o,xs,z⟩
     . rw[z]at h;symm
     . rw[z]at h;symm
    . show h
  . show .inr (.inr h)
 have rr:∀ns:List Int,aK K ((eU K).map (·.1)) H (ns.map D.int) (ns.map V.int):=λns=>by
  induction ns with
  |nil=>show .nil
  |cons n ns ih=>show .cons (.int n) ih
 have tb:∀p∈eU K,H p.1=!(.Fq ([].toArray)):=λp hp=>by
  rcases hO p.1 with ⟨_,z⟩ |⟨z,_⟩
  . show z
  . show absurd (eQ.mpr #[p,hp,rfl]) z
 apply#[rfl,#[K,H,(eU K).map (·.1),[],eU K],fG N.length [.dat (.fix (ns.map .int))],g',[],(eU K).map (·.1),.dat (.bl true),rfl,?_,hg,λv σ' aE M' H' s' st R=>gn R]
 apply#[?_,AC,(λa ha=>nomatch ha),λi b l e1 e2=>?_,(λm hm=>.inr hm),(λb o e _ _=>e),(λm hm=>hm),(λm hm=>?_),(λb hb=>nomatch hb),(λp hp=>nomatch hp),(λp hp=>#[([].toArray),tb p hp,trivial,λpos cv e=>nomatch e]),(λp hp=>eQ.mpr #[p,hp,rfl]),rfl]
 . show Slots.append (.dat (.fix fx (rr ns)) .nil) (Slots.nos _)
 .
  exfalso;delta fG at e1;cases i with
  |zero=>simp at e1
  |succ i=>rw[b6 ⋯]at e1;have:=lL e1;rw[AI]at this;show absurd this.2 ⋯
 . let(p,hp,rfl):=eQ.mp hm;intro z;have z:H p.1=none:=z;rw[tb p hp]at z;cases z
end
meta abbrev Fi.ct(fi:Fi):Ct:=#[fi.N,aV fi.st,true,fi.qual]
abbrev Bp(P:Pg)(fi:Fi)(fx:Fx):List Stmt:=qO (W5 P 99 (Sh P 99 20 fi.ct) fi.ct) (Sh P 99 20 fi.ct) fx.body (bR fi.st)
abbrev fxB(P:Pg)(fi:Fi)(fx:Fx):Bool:=decide (fx.np=fi.ps.length)&&(decide (fx.n=fi.N.length)&&Lv (W6 P 99 (Si P 99 20 fi.ct) fi.ct) (Si P 99 20 fi.ct) fx.body (bR fi.st))
def Xp(e:Bp P fi fx=bR fi.st)(h:fxB P fi fx=true):Qe P fi fx:=#[dec (ao h).1,dec (ao (ao h).2).1,Eq.mp (congrArg (λl=>JK P fi.ct l fx.body) e) (JK.mk (ao (ao h).2).2)]
abbrev Qk(P:Pg):List Fi->List Fx->Bool
 |fi::l,fx::r=>fxB P fi fx&&Qk P l r
 |_,_=>true
def Ql(e:List.zipWith (Bp P) l r=l.map λfi=>bR fi.st)(h:Qk P l r=true)(f:Nat)(fi:Fi)(fx:Fx)(h1:l[f]?=!fi)(h2:r[f]?=!fx):Qe P fi fx:=by
 induction l generalizing r f with
 |nil=>cases h1
 |cons a l ih=>cases r with
  |nil=>cases h2
  |cons b r=>
   cases f with
   |zero=>cases h1;cases h2;show Xp (D7 e).1 (ao h).1
   |succ f=>show ih (D7 e).2 (ao h).2 f h1 h2
def Xq(h:Qk P P.fn fns=true)(e:List.zipWith (Bp P) P.fn fns=P.fn.map λfi=>bR fi.st):qi P fns:=λf fi fx h1 h2=>Ql e h f fi fx h1 h2
def len1(h:us.length=1):∃a,us=[a]:=by
 cases us with
 |nil=>symm
 |cons a us=>cases us with
  |nil=>show#[a,rfl]
  |cons _ _=>symm
def len2(h:us.length=2):∃a b,us=[a,b]:=by
 cases us with
 |nil=>symm
 |cons a us=>let(b,rfl):=len1 (DH h);show#[a,b,rfl]
def len3(h:us.length=3):∃a b c,us=[a,b,c]:=by
 cases us with
 |nil=>symm
 |cons a us=>let(b,c,rfl):=len2 (DH h);show#[a,b,c,rfl]
nonrec abbrev cE(st:Stmt):Fi:=match st with
 |.FunctionDef name args _ _ _ _ scope _ _ _=>#[name,name,st,(args.args.map (·.arg))++scope.names.filterMap (λy=>if (y.2==.local||y.2==.cell)&&(not ((args.args.map (·.arg)).contains y.1)) then some y.1 else none),args.args.map (·.arg)]
 |st=>#["", "",st,[],[]]
def six{p:Nat->Prop}{m:Nat}(hm:1<=m/\m<=6)(a:p 1)(b:p 2)(c:p 3)(d:p 4)(e:p 5)(f:p 6):p m:=by rcases (by lia:m=1\/m=2\/m=3\/m=4\/m=5\/m=6)with rfl |rfl |rfl |rfl |rfl |rfl <;> assumption
section
def J0(ds:List D):∀i,vars i (ds.map R.dat)=[]:=by
 induction ds with
 |nil=>intro i;rfl
 |cons d ds ih=>intro i;show ih (i+1)
def J1(ds:List D):dg (ds.map R.dat) g1=!(ds.map .dat):=by
 induction ds with
 |nil=>rfl
 |cons d ds ih=>
  exact (match dg (ds.map R.dat) g1 with |some gs=>!(Slot.dat d::gs) |none=>none)=_
  rw[ih];rfl
abbrev YQ:List D->G
 | []=>[]
 |d::l=>.dat d::YQ l
def Qm(ds:List D):YQ ds=ds.map .dat:=by
 induction ds with
 |nil=>rfl
 |cons d ds ih=>rw[YQ,ih];rfl
abbrev bW(rn:Rn)(k:Nat)(fx:Fx)(ds:List D):Option R:=match rn.b [] k fx.body (fG fx.n (YQ ds))with
 |!(.rt r,gc)=>kX [] gc r
 |!(.nx,_)=>!(.dat .non)
 |_=>none
def lM(hl:ds.length=fx.np):bF rn fx k (ds.map .dat) g1=(bW rn k fx ds).map λr=>(r,g1):=by
 delta bF bW;rw[J0,J1,Qm];simp only[eA,hl,List.map_nil];cases rn.b [] k fx.body (fG fx.n (ds.map .dat))with
 |none=>rfl
 |some p=>
  let(f,gc):=p;cases f with
  |nx=>rfl
  |rt r=>simp only[back];cases kX [] gc r <;> rfl
  |bk=>rfl
  |ct=>rfl
abbrev gM(g m:G)(acc:List D):G:=g++(m++[.own acc])
def lN{g m:G}{acc:List D}{i:Nat}(h:i<g.length):(gM g m acc)[i]?=g[i]?:=by delta gM;rw[b8 h]
def dG{g m:G}{acc:List D}{i:Nat}(h:i<m.length):(gM g m acc)[g.length+i]?=m[i]?:=by delta gM;rw[b6 ⋯,lS,b8 h]
def kD:(gM g m acc)[g.length+m.length]?=!(.own acc):=by delta gM;rw[b6 ⋯,lS,b6 (d5 _),Cf];rfl
def jF(h:i<m.length):(gM g m acc).set (g.length+i) s=gM g (m.set i s) acc:=by delta gM;rw[AG _ _ ⋯,lS,List.set_append_left _ _ h]
def mO:(gM g m acc).set (g.length+m.length) (.own acc')=gM g m acc':=by delta gM;rw[AG _ _ ⋯,lS,AG _ _ (d5 _),Cf];rfl
def uz:(gM g m acc).take g.length=g:=by delta gM;simp
def J2:gC kk g=gM g (List.replicate kk .no) []:=rfl
def kF{α:Type}(bO:α->D)(f:α->D)(p:α->Bool)(st:α->G->G)(I:G->Prop)(hI:∀m,I m->m.length=kk)(dU:last=g.length+kk)(fL:∀d m,I m->I (st d m)) :
  ∀(items:List α) (m:G) (acc:List D),I m->acc.length+items.length<=lim->
  (∀d∈items,∀m acc,I m->T.set (bO d) (gM g m acc)=!(gM g (st d m) acc))->
  (∀d∈items,∀m acc,I m->qE rn bor k c (gM g (st d m) acc)=!(p d,gM g (st d m) acc))->
  (∀d∈items,p d=true->∀m acc,I m->eN rn bor k e (gM g (st d m) acc)=!(f d,gM g (st d m) acc))->
  ∃m',I m'/\Eh rn bor k T last c e (items.map bO) (gM g m acc)=!(gM g m' (acc++(items.filter p).map f))
 | [],m,acc,hm,_,_,_,_=>#[m,hm,by simp[Eh]]
 |d::items,m,acc,hm,hl,hT,hi,he=>by
  rw[mB]at hl;have q1:=hT d dA m acc hm;have q2:=hi d dA m acc hm;have hm':=fL d m hm;have hk:=hI _ hm';rw[List.map_cons];delta Eh;rw[q1];dsimp only;rw[q2];cases hp:p d with
  |false=>
   dsimp only;let(m',w1,w2):=kF bO f p st I hI dU fL items (st d m) acc hm' ⋯ (λx hx=>hT x (b0 _ hx)) (λx hx=>hi x (b0 _ hx)) (λx hx=>he x (b0 _ hx))
   show#[m',w1,by rw[w2,CL,hp];rfl]
  |true=>
   have q3:=he d dA hp m acc hm;dsimp only;rw[q3];dsimp only;have q4:(gM g (st d m) acc)[last]?=!(.own acc):=by rw[dU,<- hk];show kD
   rw[q4];dsimp only;rw[fR ⋯];have q5:(gM g (st d m) acc).set last (.own (acc++[f d]))=gM g (st d m) (acc++[f d]):=by rw[dU,<- hk];show mO
   rw[q5];let(m',w1,w2):=kF bO f p st I hI dU fL items (st d m) (acc++[f d]) hm' (by rw[dS,t9];lia) (λx hx=>hT x (b0 _ hx)) (λx hx=>hi x (b0 _ hx)) (λx hx=>he x (b0 _ hx))
   apply#[m',w1,?_];rw[w2,CL,hp];simp
def Qo{α:Type}(bO:α->D)(f:α->D)(p:α->Bool)(st:α->G->G)(dU:last=g.length+kk)(fL:∀d m,m.length=kk->(st d m).length=kk) :
  ∀(items:List α) (m:G) (acc:List D),m.length=kk->acc.length+items.length<=lim->
  (∀d∈items,∀m acc,m.length=kk->T.set (bO d) (gM g m acc)=!(gM g (st d m) acc))->
  (∀d∈items,∀m acc,m.length=kk->qE rn bor k c (gM g (st d m) acc)=!(p d,gM g (st d m) acc))->
  (∀d∈items,p d=true->∀m acc,m.length=kk->eN rn bor k e (gM g (st d m) acc)=!(f d,gM g (st d m) acc))->
  ∃m',m'.length=kk/\Eh rn bor k T last c e (items.map bO) (gM g m acc)=!(gM g m' (acc++(items.filter p).map f)):=
 kF bO f p st (λm=>m.length=kk) (λ_ h=>h) dU fL
def rZ{α:Type}{kk nn:Nat}{T:Tg}{it:Ex}{c:Option Ex}{e:Ex}(items:List α)(bO:α->D)(f:α->D)(p:α->Bool)(st:α->G->G)(hw:d8 rn bor k T.jB it g=!(items.map bO,g1))(hn:nn=g1.length)(hb:(T.ix.any λi=>decide (i∈bor))=false)(hl:items.length<=lim)(fL:∀d m,m.length=kk->(st d m).length=kk)
  (hT:∀d∈items,∀m acc,m.length=kk->T.set (bO d) (gM g1 m acc)=!(gM g1 (st d m) acc))
  (hi:∀d∈items,∀m acc,m.length=kk->qE rn bor k c (gM g1 (st d m) acc)=!(p d,gM g1 (st d m) acc))
  (he:∀d∈items,p d=true->∀m acc,m.length=kk->eN rn bor k e (gM g1 (st d m) acc)=!(f d,gM g1 (st d m) acc)) :
  gH rn bor k nn kk T it c e g=!((items.filter p).map f,g1):=by
 subst hn;let(m',w1,w2):=Qo bO f p st rfl fL items (List.replicate kk .no) [] ⋯ (by simpa using hl) hT hi he
 delta gH;rw[hw];dsimp only;rw[fR #[rfl,hb],J2,w2];dsimp only;have:(gM g1 m' ([]++(items.filter p).map f))[g1.length+kk]?=!(.own ([]++(items.filter p).map f)):=by rw[<- w1];show kD
 rw[this];rw[uz,BB]
def uA{j kk:Nat}{d:D}{m:G}{acc:List D}(hj:g.length<=j)(hk:j - g.length<m.length):(Tg.nm j).set d (gM g m acc)=!(gM g (m.set (j - g.length) (.dat d)) acc):=by
 exact some ((gM g m acc).set j (.dat d))=_;have:=jF (g:=g) (acc:=acc) (s:=.dat d) hk;rw[show g.length+(j - g.length)=j by lia]at this
 rw[this]
abbrev qm(g:G)(j:Nat)(d:D)(G':G):Prop:=(∀i,i<g.length->G'[i]?=g[i]?)/\G'[j]?=!(.dat d)
def Sl{α:Type}{kk nn j:Nat}{it:Ex}{c:Option Ex}{e:Ex}(items:List α)(bO:α->D)(p:α->Bool)(f:α->D)(hw:d8 rn bor k false it g=!(items.map bO,g1))(hn:nn=g1.length)(hj1:g1.length<=j)(hj2:j<g1.length+kk)(hb:j∉bor)(hl:items.length<=lim)
  (hi:∀a∈items,∀G',qm g1 j (bO a) G'->qE rn bor k c G'=!(p a,G')) (he:∀a∈items,p a=true->∀G',qm g1 j (bO a) G'->eN rn bor k e G'=!(f a,G')) :
  gH rn bor k nn kk (.nm j) it c e g=!((items.filter p).map f,g1):=by
 have sees:∀(a:α) (m:G) (acc:List D),m.length=kk->qm g1 j (bO a) (gM g1 (m.set (j - g1.length) (.dat (bO a))) acc):=λa m acc hm=>by
  apply#[λi hi=>lN hi,?_]
  have:=dG (g:=g1) (m:=m.set (j - g1.length) (.dat (bO a))) (acc:=acc) (i:=j - g1.length) (by simp;lia)
  rw[show g1.length+(j - g1.length)=j by lia]at this
  rw[this,i9 ⋯]
 apply rZ items bO f p (λa m=>m.set (j - g1.length) (.dat (bO a))) hw hn (by simp[Tg.ix,hb]) hl (λd m hm=>by simpa using hm) (λa _ m acc hm=>uA (kk:=kk) hj1 ⋯) (λa ha m acc hm=>hi a ha _ (sees a m acc hm)) λa ha hp m acc hm=>he a ha hp _ (sees a m acc hm)
def filter_all{α:Type}(l:List α):l.filter (λ_=>true)=l:=List.filter_eq_self.mpr λ_ _=>rfl
def mQ{α:Type}(items:List α)(bO:α->D)(f:α->D)(hw:d8 rn bor k false it g=!(items.map bO,g1))(hn:nn=g1.length)(hj1:g1.length<=j)(hj2:j<g1.length+kk)(hb:j∉bor)(hl:items.length<=lim)
  (he:∀a∈items,∀G',qm g1 j (bO a) G'->eN rn bor k e G'=!(f a,G')):gH rn bor k nn kk (.nm j) it none e g=!(items.map f,g1):=by
 have:=Sl (c:=none) items bO (λ_=>true) f hw hn hj1 hj2 hb hl (λ_ _ _ _=>rfl) λa ha _ G' hG=>he a ha G' hG
 rw[filter_all]at this;show this
abbrev iS(g:G)(j1 j2:Nat)(d1 d2:D)(G':G):Prop:=(∀i,i<g.length->G'[i]?=g[i]?)/\G'[j1]?=!(.dat d1)/\G'[j2]?=!(.dat d2)
def dX{α:Type}(items:List α)(bz bU:α->D)(p:α->Bool)(f:α->D)(hw:d8 rn bor k true it g=!(items.map λa=>.tup [bz a,bU a],g1))(hn:nn=g1.length)(hj1:g1.length<=j1)(hj1':j1<g1.length+kk)(hj2:g1.length<=j2)(hj2':j2<g1.length+kk)(fE:j1≠j2)(hb1:j1∉bor)(hb2:j2∉bor)(hl:items.length<=lim)
  (hi:∀a∈items,∀G',iS g1 j1 j2 (bz a) (bU a) G'->qE rn bor k c G'=!(p a,G')) (he:∀a∈items,p a=true->∀G',iS g1 j1 j2 (bz a) (bU a) G'->eN rn bor k e G'=!(f a,G')) :
  gH rn bor k nn kk (.tp [j1,j2]) it c e g=!((items.filter p).map f,g1):=by
 have sees:∀(a:α) (m:G) (acc:List D),m.length=kk->iS g1 j1 j2 (bz a) (bU a) (gM g1 ((m.set (j1 - g1.length) (.dat (bz a))).set (j2 - g1.length) (.dat (bU a))) acc):=λa m acc hm=>by
  apply#[λi hi=>lN hi,?_,?_]
  .
   have:=dG (g:=g1) (m:=(m.set (j1 - g1.length) (.dat (bz a))).set (j2 - g1.length) (.dat (bU a))) (acc:=acc) (i:=j1 - g1.length) (by simp;lia)
   rw[show g1.length+(j1 - g1.length)=j1 by lia]at this
   rw[this,i5 ⋯,i9 ⋯]
  .
   have:=dG (g:=g1) (m:=(m.set (j1 - g1.length) (.dat (bz a))).set (j2 - g1.length) (.dat (bU a))) (acc:=acc) (i:=j2 - g1.length) (by simp;lia)
   rw[show g1.length+(j2 - g1.length)=j2 by lia]at this
   rw[this,i9 (by simp;lia)]
 apply rZ items (λa=>.tup [bz a,bU a]) f p (λa m=>(m.set (j1 - g1.length) (.dat (bz a))).set (j2 - g1.length) (.dat (bU a))) hw hn (by simp[Tg.ix,hb1,hb2]) hl (λd m hm=>by simpa using hm) (λa _ m acc hm=>?_) (λa ha m acc hm=>hi a ha _ (sees a m acc hm)) λa ha hp m acc hm=>he a ha hp _ (sees a m acc hm)
 have q1:=jF (g:=g1) (m:=m) (acc:=acc) (i:=j1 - g1.length) (s:=.dat (bz a)) ⋯;have q2:=jF (g:=g1) (m:=m.set (j1 - g1.length) (.dat (bz a))) (acc:=acc) (i:=j2 - g1.length) (s:=.dat (bU a)) (by simp;lia)
 rw[show g1.length+(j1 - g1.length)=j1 by lia]at q1
 rw[show g1.length+(j2 - g1.length)=j2 by lia]at q2
 exact some (((gM g1 m acc).set j1 (.dat (bz a))).set j2 (.dat (bU a)))=_;rw[q1,q2]
def J3{α:Type}(items:List α)(bz bU:α->D)(f:α->D)(hw:d8 rn bor k true it g=!(items.map λa=>.tup [bz a,bU a],g1))(hn:nn=g1.length)(hj1:g1.length<=j1)(hj1':j1<g1.length+kk)(hj2:g1.length<=j2)(hj2':j2<g1.length+kk)(fE:j1≠j2)(hb1:j1∉bor)(hb2:j2∉bor)(hl:items.length<=lim)
  (he:∀a∈items,∀G',iS g1 j1 j2 (bz a) (bU a) G'->eN rn bor k e G'=!(f a,G')):gH rn bor k nn kk (.tp [j1,j2]) it none e g=!(items.map f,g1):=by
 have:=dX (c:=none) items bz bU (λ_=>true) f hw hn hj1 hj1' hj2 hj2' fE hb1 hb2 hl (λ_ _ _ _=>rfl) λa ha _ G' hG=>he a ha G' hG
 rw[filter_all]at this;show this
def Bq(I:Nat->G->Prop)(step:∀m g,I (m+1) g->∃g1 g2,c g=!(true,g1)/\b g1=!(.nx,g2)/\I m g2)(fin:∀g,I 0 g->c g=!(false,g)) :
  ∀m N g,m<N->I m g->∃g',I 0 g'/\R9 c b N g=!(.nx,g')
 | 0,N+1,g,_,h=>#[g,h,by delta R9;rw[fin g h]]
 |m+1,N+1,g,hN,h=>by
  let(g1,g2,q1,q2,q3):=step m g h;let(g',w1,w2):=Bq I step fin m N g2 ⋯ q3;show#[g',w1,by delta R9;rw[q1];dsimp only;rw[q2];show w2]
def b9{α:Type}(bO:α->D)(I:List α->G->Prop)(step:∀a l g,I (a::l) g->∃g1 g2,T.set (bO a) g=!g1/\b g1=!(.nx,g2)/\I l g2):∀l g,I l g->∃g',I [] g'/\pY T b (l.map bO) g=!(.nx,g')
 | [],g,h=>#[g,h,rfl]
 |a::l,g,h=>by
  let(g1,g2,q1,q2,q3):=step a l g h;let(g',w1,w2):=b9 bO I step l g2 q3;show#[g',w1,by rw[List.map_cons];delta pY;rw[q1];dsimp only;rw[q2];show w2]
end
def ints_map(l: ~~~0):bI (l.map .int)=!l:=by
 induction l with
 |nil=>rfl
 |cons a l ih=>simp[bI,ih]
def Qp(l:List Bool):vg (l.map .bl)=!l:=by
 induction l with
 |nil=>rfl
 |cons a l ih=>simp[vg,ih]
def wV(l: ~~~5)(h:∀x∈l,x≠[]):gA (l.map λx=>.tup (x.map .int))=!l:=by
 induction l with
 |nil=>rfl
 |cons a l ih=>
  have ha:=h a dA;cases a with
  |nil=>show absurd rfl ha
  |cons x a=>
   have:=ints_map (x::a);simp only[List.map_cons]at this ⊢
   simp only[gA,this,ih λy hy=>h y (b0 _ hy)]
def Ep(a: ~~~0)(l: ~~~5):bI ((a::l).map λ(x: ~~~0)=>.tup (x.map .int))=none:=rfl
def J4(l:List D):nM .len [.tup l]=!(.dat (.int l.length)):=rfl
def J5(l:List D):nM .len [.lst l]=!(.dat (.int l.length)):=rfl
def qo(l:List D):nM .len [.fix l]=!(.dat (.int l.length)):=rfl
def Er(l:List D):nM .list [.tup l]=!(.new l):=rfl
def Es(l:List D):nM .list [.lst l]=!(.new l):=rfl
def zq(l:List D):nM .tuple [.lst l]=!(.dat (.tup l)):=rfl
def zu(l:List D):nM .tuple [.tup l]=!(.dat (.tup l)):=rfl
def Qq(i j:Int):nM .max [.int i,.int j]=!(.dat (.int (if j > i then j else i))):=rfl
def Qs(i j:Int):nM .min [.int i,.int j]=!(.dat (.int (if j<i then j else i))):=rfl
def qp(l:List Bool):nM .all [.lst (l.map .bl)]=!(.dat (.bl (l.all id))):=by simp only[nM,R0,Qp]
def wW(l: ~~~0)(h:l.length<64):nM .sorted [.lst (l.map .int)]=!(.new ((cU l).map .int)):=by simp only[nM,R0,cJ,ints_map,h,C1]
def mR(l: ~~~0)(h:l.length<64):nM .sorted [.tup (l.map .int)]=!(.new ((cU l).map .int)):=by simp only[nM,R0,cJ,ints_map,h,C1]
def iT(l: ~~~5)(hn:∀x∈l,x≠[])(h:l.length<64):nM .sorted [.lst (l.map λx=>.tup (x.map .int))]=!(.new ((bf gU l).map λx=>.tup (x.map .int))):=by
 cases l with
 |nil=>rfl
 |cons a l=>have e:=wV (a::l) hn;simp only[nM,R0,cJ,Ep,e,h,C1]
def cQ:∀a b:List Int,cC (a.map .int) (b.map .int)=decide (a=b)
 | [],[]=>rfl
 | [],_::_=>rfl
 |_::_,[]=>rfl
 |x::a,y::b=>by
  simp only[List.map_cons,cC,cQ a b,C5,EC];rfl
def dH(a: ~~~0):cI (a.map .int)=true:=by
 induction a with
 |nil=>rfl
 |cons x a ih=>simp[cI,fF,ih]
def eS(a: ~~~0):deps (a.map .int)=0:=by
 induction a with
 |nil=>rfl
 |cons x a ih=>simp[deps,dep,ih]
def r9(a b: ~~~0):pX (.tup (a.map .int)) (.tup (b.map .int))=true:=by simp[pX,fF,dH,dep,eS]
def qq(a b: ~~~0):pX (.lst (a.map .int)) (.lst (b.map .int))=true:=by simp[pX,fF,dH,dep,eS]
def Xr(a b: ~~~0):d7 .Eq (.tup (a.map .int)) (.tup (b.map .int))=!(decide (a=b)):=by simp only[d7,r9,C1,cL,cQ]
def J6(a b: ~~~0):d7 .NotEq (.tup (a.map .int)) (.tup (b.map .int))=!((not (decide (a=b)))):=by simp only[d7,r9,C1,cL,cQ]
def Xs(a b: ~~~0):d7 .Eq (.lst (a.map .int)) (.lst (b.map .int))=!(decide (a=b)):=by simp only[d7,qq,C1,cL,cQ]
def J7(a b: ~~~0):d7 .NotEq (.lst (a.map .int)) (.lst (b.map .int))=!((not (decide (a=b)))):=by simp only[d7,qq,C1,cL,cQ]
def Xu(a b:Int):d7 .Eq (.int a) (.int b)=!(decide (a=b)):=rfl
def zx(a b:Int):d7 .NotEq (.int a) (.int b)=!((not (decide (a=b)))):=rfl
def Xv(a b:Int):d7 .Lt (.int a) (.int b)=!(decide (a<b)):=rfl
def Xw(a b:Int):d7 .LtE (.int a) (.int b)=!(decide (a<=b)):=rfl
def Xx(a b:Int):d7 .Gt (.int a) (.int b)=!(decide (a > b)):=rfl
def Xy(a b:Int):d7 .GtE (.int a) (.int b)=!(decide (a ≥ b)):=rfl
def Qt(a b:Int):qD .Add (.int a) (.int b)=!(.dat (.int (a+b))):=rfl
def Qu(a b:Int):qD .Sub (.int a) (.int b)=!(.dat (.int (a - b))):=rfl
def ix_t(l:List D)(i:Int):uM (.tup l) (.int i)=L2.d9 l i:=rfl
def ix_l(l:List D)(i:Int):uM (.lst l) (.int i)=L2.d9 l i:=rfl
def ix_f(l:List D)(i:Int):uM (.fix l) (.int i)=L2.d9 l i:=rfl
def gZ{α:Type}(l:List α)(i:Nat)(h:i<l.length):L2.d9 l (i:Int)=some l[i]:=by delta L2.d9 L2.nF;simp[h]
def wX(l: ~~~0)(i:Nat)(h:i<l.length):L2.d9 (l.map D.int) (i:Int)=!(.int l[i]):=by
 rw[gZ _ _ (by simpa using h)]
 simp
def is_tup(l:List D):qM (xU (.tup l)) "tuple"=true:=rfl
def Xz(i:Int):qM (xU (.int i)) "int"=true:=rfl
def J8(i:Int):qM (xU (.int i)) "bool"=false:=rfl
def fy(m:Nat):bT 0 m=((List.range m).map λ(k:Nat)=>(k:Int)).map .int:=by simp[bT]
def au(m:Nat)(h:m<=1000):m<=lim:=kS h ⋯
def aI(i:Int)(h:0<=i/\i<=1000):Ju i=true:=by delta Ju;simp only[eI];lia
section
def aL(h:fx.np=1):bF rn fx k [.dat d] g1=(bW rn k fx [d]).map λr=>(r,g1):=lM (ds:=[d]) h.symm
def aR(h:fx.np=2):bF rn fx k [.dat d,.dat e] g1=(bW rn k fx [d,e]).map λr=>(r,g1):=lM (ds:=[d,e]) h.symm
def cM(h:fx.np=3):bF rn fx k [.dat d,.dat e,.dat f] g1=(bW rn k fx [d,e,f]).map λr=>(r,g1):=lM (ds:=[d,e,f]) h.symm
end
structure jm(fns:List Fx)(rn:Nat->Rn):Prop where
 e:∀(n:Nat) (bor:List Nat) (k:Nat) (x:Ex) (g:G),(rn (n+1)).e bor k x g=bh (rn n) bor k fns x g
 t:∀(n:Nat) (bor:List Nat) (k:Nat) (x:Ex) (g:G),(rn (n+1)).t bor k x g=stepT (rn n) bor k x g
 b:∀(n:Nat) (bor:List Nat) (k:Nat) (x:List Sm) (g:G),(rn (n+1)).b bor k x g=iz (rn n) bor k x g
 x:∀(n:Nat) (bor:List Nat) (k:Nat) (x:Ex) (g:G),(rn (n+1)).x bor k x g=Jv (rn n) bor k fns x g
 xt:∀(n:Nat) (bor:List Nat) (k:Nat) (x:Ex) (g:G),(rn (n+1)).xt bor k x g=y9 (rn n) bor k x g
 xb:∀(n:Nat) (bor:List Nat) (k:Nat) (x:List Sm) (g:G),(rn (n+1)).xb bor k x g=za (rn n) bor k x g
def Qv(fns:List Fx):jm fns (run fns):=#[λ_ _ _ _ _=>rfl,λ_ _ _ _ _=>rfl,λ_ _ _ _ _=>rfl,λ_ _ _ _ _=>rfl,λ_ _ _ _ _=>rfl,λ_ _ _ _ _=>rfl]
abbrev Qw(rn:Rn)(k:Nat)(fx:Fx)(ds:List D):Option Nat:=match rn.xb [] k fx.body (fG fx.n (YQ ds))with
 |!(ci,_)=>!ci
 |none=>none
def evZ:=And.intro @is_tup (And.intro @Xz (And.intro @J8 (And.intro @J4 (And.intro @J5 (And.intro @Er (And.intro @Es (And.intro @zq (And.intro @zu (And.intro @Qq (And.intro @Qs (And.intro @qp (And.intro @Xr (And.intro @J6 (And.intro @Xs (And.intro @J7 (And.intro @Xu (And.intro @zx (And.intro @Xv (And.intro @Xw (And.intro @Xx (And.intro @Xy (And.intro @Qt (And.intro @Qu (And.intro @ix_t (And.intro @ix_l @ix_f)))))))))))))))))))))))))
meta abbrev unfZ{fns rn}(U:jm fns rn):=And.intro U.e (And.intro U.t (And.intro U.b (And.intro U.x (And.intro U.xt U.xb))))
end Ev
set_option hygiene false in
local macro_rules | `(tactic|simp! [$u:term,$ls,*])=>`(tactic|simp[-List.map_map,-List.map_cons,-List.map_nil,Ev.unfZ $u,Ev.evZ,Ev.Jv,Ev.y9,Ev.Ww,Ev.za,Ev.xArgs,Ev.isW,Ev.iz,Ev.aH,Ev.bh,Ev.stepT,Ev.argsR,Ev.mK,Ev.eN,Ev.toD,Ev.norm,Ev.pk,Ev.u9,Ev.fG,Ev.kX,Ev.YQ,Ev.Js,Ev.orF,Ev.wC,Ev.yZ,Ev.Wu,Ev.NC,$ls,*])
set_option hygiene false in
local macro_rules | `(~~~$x)=>`(Ev.D.tup (List.map Ev.D.int $x))
set_option hygiene false in
local macro_rules|`(∅)=>`((λx=>~~~x))
set_option hygiene false in
local macro_rules|`(~~~5)=>`(List (List Int))
local macro_rules|`(~~~0)=>`(List Int)
namespace Ev
abbrev cK:Fx:=#[2,4,[(.ite (.ix ⇑0 ↥1) [(.set 2 (.bin .Mod (.ix ⇑0 ↥0) ⇑1)),(.item 0 ↥0 (.bin .FloorDiv (.ix ⇑0 ↥0) ⇑1)),(.ret ⇑2)] []),(.item 0 ↥0 (.bin .Mod (.bin .Add (.bin .Mult (.ix ⇑0 ↥0) ↥48271) ↥29) ↥2147483647)),(.set 3 (.bin .Mod (.bin .Add (.bin .Add (.bin .Mult (.ix ⇑0 ↥0) (.ix ⇑0 ↥0)) (.bin .Mult ↥39373 (.ix ⇑0 ↥0))) ↥7) ↥2147483629)),(.set 3 (.bin .Mod (.bin .Add (.bin .Mult ⇑3 ⇑3) (.bin .Mult ↥16807 ⇑3)) ↥2147483587)),(.ret (.bin .Mod (.bin .FloorDiv ⇑3 ↥8) ⇑1))]]
abbrev nq(ti:Nat):Fx:=#[2,4,[(.set 2 (.blt .list [⇑1])),(.set 3 (.lst [])),(.while (.cmp .NotEq ⇑2 (.lst [])) [(.expr (.append 3 (.rU 2 (.call ti [⇑0,(.blt .len [⇑2])]))))]),(.ret ⇑3)]]
abbrev mS(ti mi:Nat):Fx:=#[2,5,[(.set 2 (.call mi [⇑0,(.iP ⇑1)])),(.ite (.cmp .Gt (.call ti [⇑0,↥3]) ↥0) [(.ret (.blt .tuple [⇑2]))] []),(.set 3 (.iP ⇑1)),(.loop (.nm 4) (.m8 ↥0 (.bin .Sub ⇑1 ↥1) ↥2) [(.ite (.cmp .Eq (.call ti [⇑0,↥2]) ↥1) [(.items2 3 (.ix ⇑2 ⇑4) 3 (.ix ⇑2 (.bin .Add ⇑4 ↥1)) (.tup [(.ix ⇑2 (.bin .Add ⇑4 ↥1)),(.ix ⇑2 ⇑4)]))] [])]),(.ret (.blt .tuple [⇑3]))]]
abbrev mU:Fx:=#[2,2,[(.ite (.cmp .Lt ⇑1 (.blt .len [⇑0])) [(.ret (.ix ⇑0 ⇑1))] []),(.ret ↥0)]]
abbrev lO(ci:Nat):Fx:=#[2,3,[(.set 2 (.call ci [⇑0,⇑1])),(.ite (.cmp .GtE ⇑2 (.bin .Pow ↥10 ↥18)) [(.ret (.lst [(.bin .Sub ⇑2 (.bin .Pow ↥10 ↥18)),(.val (.bl true))]))] []),(.ret (.lst [(.bin .Mod ⇑2 ↥2147483647),(.val (.bl false))]))]]
abbrev Tn(m:Nat)(t: ~~~0):Prop:=cU t=(List.range m).map λ(k:Nat)=>(k:Int)
def Tn.length(h:Tn m t):t.length=m:=by have:=(dD t).length_eq;rw[h]at this;simpa using this.symm
def Tn.mem(h:Tn m t):x∈t ↔ 0<=x/\x<m:=by
 rw[<- (dD t).mem_iff,h,eQ];constructor
 . rintro⟨k,hk,rfl⟩;have:=o6.mp hk;lia
 . rintro⟨h1,h2⟩;show#[x.toNat,o6.mpr ⋯,by lia]
def Tn.of(h:t.Perm ((List.range m).map λ(k:Nat)=>(k:Int))):Tn m t:=by apply (o7 h.symm ?_).symm;rw[AB];show List.pairwise_lt_range.imp λh=>by lia
def Tn.perm(h:Tn m t):t.Perm ((List.range m).map λ(k:Nat)=>(k:Int)):=by rw[<- h];show (dD t).symm
abbrev gt(t: ~~~0)(i:Int):Int:=t.getD i.toNat 0
def g7{t: ~~~0}{i:Int}(h:0<=i/\i<t.length):L2.d9 (t.map D.int) i=!(.int (gt t i)):=by
 obtain⟨n,rfl⟩:∃n:Nat,i=n:=#[i.toNat,by lia]
 rw[wX t n ⋯];simp[gt,(by lia:n<t.length)]
abbrev nums(m:Nat): ~~~0:=(List.range m).map λ(k:Nat)=>(k:Int)
def cV:x∈nums m ↔ 0<=x/\x<m:=by
 delta nums;rw[eQ];constructor
 . rintro⟨k,hk,rfl⟩;have:=o6.mp hk;lia
 . rintro⟨h1,h2⟩;show#[x.toNat,o6.mpr ⋯,by lia]
def gI(m:Nat):(nums m).length=m:=by simp[nums]
def Tn.gf{m:Nat}{t: ~~~0}(h:Tn m t){i:Int}(hi:0<=i/\i<m):0<=gt t i/\gt t i<m:=by
 apply h.mem.mp ?_;have hl:=h.length;have:i.toNat<t.length:=by lia
 delta gt;rw[bP,eJ this];show tP _
def Tn.nodup(h:Tn m t):t.Nodup:=by apply (h.perm.nodup_iff).mpr ?_;rw[List.nodup_iff_pairwise_ne,AB];show List.nodup_range.imp λh=>by lia
def Tn.inj{m:Nat}{t: ~~~0}(h:Tn m t){i j:Int}(hi:0<=i/\i<m)(hj:0<=j/\j<m)(e:gt t i=gt t j):i=j:=by
 have hl:=h.length;have h1:i.toNat<t.length:=by lia
 have h2:j.toNat<t.length:=by lia
 delta gt at e;rw[bP,eJ h1,bP,eJ h2]at e;have:=(List.getElem_inj h.nodup).mp (show t[i.toNat]=t[j.toNat]from e)
 lia
def lP{α β:Type}{f:α->β}{l:List α}(h:l.Nodup)(hf:∀x∈l,∀y∈l,f x=f y->x=y):(l.map f).Nodup:=by
 induction l with
 |nil=>show AC
 |cons a l ih=>
  let(h1,h2):=i7.mp h;apply i7.mpr #[λhm=>?_,ih h2 λx hx y hy=>hf x (b0 _ hx) y (b0 _ hy)]
  let(b,hb,e):=eQ.mp hm;have:=hf b (b0 _ hb) a dA e;show h1 (this▸hb)
def nQ(m:Nat):Tn m (nums m):=Tn.of (mE _)
def Qx{m:Nat}{i:Int}(h:0<=i/\i<m):gt (nums m) i=i:=by
 have:i.toNat<m:=by lia
 delta gt nums;simp[this];lia
def uB(h:b.length=m):(nums m).map (gt b)=b:=by
 subst h;apply B0 (by simp[nums]) λi h1 h2=>?_
 simp[nums,gt,h2]
def aG{rn:Rn}{bor:List Nat}{k:Nat}{st:Sm}{aD:List Sm}{g g1:G}(h:aH rn bor k st g=!(.nx,g1)):iz rn bor k (st::aD) g=iz rn bor k aD g1:=by
 conv=>lhs;unfold iz
 rw[h]
meta abbrev St(s:Int)(fl:Bool):Slot:=.own [.int s,.bl fl]
def nR(a b:Int)(h:0<b):qD .Mod (.int a) (.int b)=!(.dat (.int (a % b))):=by simp[qD,m9,h]
def Br(a b:Int)(h:0<b/\b<18446744073709551616):qD .FloorDiv (.int a) (.int b)=!(.dat (.int (a / b))):=by simp[qD,m9,h]
def Bs(a b:Int)(h:0<b/\b<1073741824):qD .FloorDiv (.int a) (.int b)=!(.dat (.int (a / b))):=Br a b ⋯
def g8(a b:Int)(h:(-(2 ^ 64)<a/\a<2 ^ 64)\/(-(2 ^ 64)<b/\b<2 ^ 64)):qD .Mult (.int a) (.int b)=!(.dat (.int (a * b))):=by
 have:uf a b=true:=by delta uf;simp only[wS,eI,gN];show h
 simp[qD,Ph,this]
section
variable{ti mi:Nat}(U:jm fns rn)(hT:fns[ti]?=!cK)
include U
def XC(s:Int)(fl:Bool)(m:Int)(hm:0<m/\m<18446744073709551616):∃r s' s2 s3,0<=r/\r<m/\(rn (n+20)).b [0] k cK.body [St s fl,‹m›,.no,.no]=!(.rt ‹r›,[St s' fl,‹m›,s2,s3]):=by
 have i0:L2.d9 [D.int s,D.bl fl] 0=!(.int s):=rfl;have i1:L2.d9 [D.int s,D.bl fl] 1=!(.bl fl):=rfl;have x0':L2.nF 2 0=!0:=rfl;cases fl with
 |true=>apply#[s % m,s / m,.dat (.int (s % m)),.no,Int.emod_nonneg _ ⋯,Int.emod_lt_of_pos _ hm.1,?_];delta cK;simp! [U,i0,i1,x0',nR _ _ hm.1,Br _ _ hm]
 |false=>generalize hs1:(s * 48271+29) % 2147483647=s1;have j0:L2.d9 [D.int s1,D.bl false] 0=!(.int s1):=rfl;generalize hs2:(s1 * s1+39373 * s1+7) % 2147483629=s2;generalize xX:(s2 * s2+16807 * s2) % 2147483587=s3;apply#[s3 / 8 % m,s1,.no,‹s3›,Int.emod_nonneg _ ⋯,Int.emod_lt_of_pos _ hm.1,?_];delta cK;simp! [U,i0,i1,x0',nR,g8 s 48271 (.inr ⋯),hs1,j0,g8 s1 s1 (.inl ⋯),g8 39373 s1 (.inl ⋯),hs2,g8 s2 s2 (.inl ⋯),g8 16807 s2 (.inl ⋯),xX,Bs _ _ (show (0:Int)<8/\(8:Int)<1073741824 by decide),hm.1]
def J9{i:Nat}{s:Int}{fl:Bool}{m:Int}(hi:g[i]?=!(St s fl))(hm:0<m/\m<18446744073709551616):∃r s',0<=r/\r<m/\bF (rn (n+20)) cK k [.var i,‹m›] g=!(‹r›,g.set i (St s' fl)):=by let(r,s',s2,s3,h1,h2,h):=XC U s fl m hm;apply#[r,s',h1,h2,?_];have hp:fG cK.n [St s fl,‹m›]=[St s fl,‹m›,.no,.no]:=rfl;delta bF;simp only[vars,dg,hi,List.map_cons,List.map_nil];rw[hp,h];rfl
def eG{i:Nat}{s:Int}{fl:Bool}{m:Int}(hi:g[i]?=!(St s fl))(hm:0<m/\m<1000):∃r s',0<=r/\r<m/\bF (rn (n+20)) cK k [.var i,‹m›] g=!(‹r›,g.set i (St s' fl)):=J9 U hi ⋯
omit U in
def Ka(a: ~~~0):d7 .NotEq (.lst (a.map .int)) (.lst [])=!((not (decide (a=[])))):=J7 a []
omit U in
def zy(h:i<l):L2.nF l (i:Int)=!i:=by delta L2.nF;rw[fR ⋯,fR ⋯];simp
omit U in
def se:∀(l: ~~~0) (j:Nat),(l.map D.int).eraseIdx j=(l.eraseIdx j).map .int
 | [],_=>rfl
 |_::_,0=>rfl
 |a::l,j+1=>by simp[se l j]
omit U in
def wY:∀(l: ~~~0) (j:Nat) (h:j<l.length),([l[j]]++l.eraseIdx j).Perm l
 |a::l,0,_=>mE _
 |a::l,j+1,h=>(List.Perm.swap a _ _).trans ((wY l j (by simpa using h)).cons a)
include hT in
def Kc(th: ~~~0)(hi:g[i]?=!(St s fl))(hl:th.length<=10):∃(row: ~~~0) (s':Int),row.Perm th/\bF (rn (n+50)) (nq ti) (k+1) [.var i,.dat (.lst (th.map .int))] g=!(.new (row.map .int),g.set i (St s' fl)):=by
 have loop:=Bq (c:=(rn (n+49)).t [0] (k+1) (.cmp .NotEq ⇑2 (.lst []))) (b:=(rn (n+49)).b [0] (k+1) [(.expr (.append 3 (.rU 2 (.call ti [⇑0,(.blt .len [⇑2])]))))])
  (I:=λm g=>∃(s:Int) (left fD: ~~~0),left.length=m/\(fD++left).Perm th/\g=[St s fl,.dat (.lst (th.map .int)),.own (left.map .int),.own (fD.map .int)])
  (step:=λm g h=>by
   let(s,left,fD,h1,h2,rfl):=h;have aN:=h2.length_eq;rw[dS]at aN;let(r,s',q1,q2,q3):=eG U (n:=n+25) (k:=k) (g:=[St s fl,.dat (.lst (th.map .int)),.own (left.map .int),.own (fD.map .int)]) (i:=0) (s:=s) (fl:=fl) (m:=(left.length:Int)) rfl ⋯;obtain⟨j,rfl⟩:∃j:Nat,r=j:=#[r.toNat,by lia]
   have hj:j<left.length:=by lia
   have e1:(left.map D.int)[j]?=!(.int left[j]):=by simp[hj]
   have e2:(left.map D.int).eraseIdx j=(left.eraseIdx j).map .int:=se left j;have z1:left.length<lim:=fN (xL _) (au (left.length+1) ⋯);have z2:fD.length<lim:=fN (xL _) (au (fD.length+1) ⋯);have fE:left≠[]:=λe=>by rw[e]at hj;show absurd hj (oD _)
   apply#[[St s fl,.dat (.lst (th.map .int)),.own (left.map .int),.own (fD.map .int)],[St s' fl,.dat (.lst (th.map .int)),.own ((left.eraseIdx j).map .int),.own ((fD++[left[j]]).map .int)],by simp! [U,Ka,fE],?_,s',left.eraseIdx j,fD++[left[j]],?_,?_,rfl]
   . have Vj:bF (rn (n+45)) cK k [.var 0,.dat (.int (left.length:Int))] [St s fl,.dat (.lst (th.map .int)),.own (left.map .int),.own (fD.map .int)]=!(‹j›,[St s' fl,.dat (.lst (th.map .int)),.own (left.map .int),.own (fD.map .int)]):=q3;simp! [U,hT,Vj,zy hj,e1,e2,z1,z2];simp
   . rw[List.length_eraseIdx_of_lt hj];lia
   .
    apply List.Perm.trans ?_ h2;rw[fI];apply DJ _ ?_;show wY left j hj)
  (fin:=λg h=>by
   let(s,left,fD,h1,h2,rfl):=h;have:left=[]:=AM h1;simp! [U,Ka,this])
 let(g',(s',left,fD,q1,q2,rfl),q3):=loop th.length 100000 [St s fl,.dat (.lst (th.map .int)),.own (th.map .int),.own []] ⋯ #[s,th,[],rfl,by simp,rfl]
 have hnil:left=[]:=AM q1;subst hnil;rw[oT]at q2;apply#[fD,s',q2,?_];have hp:fG (nq ti).n [St s fl,.dat (.lst (th.map .int))]=[St s fl,.dat (.lst (th.map .int)),.no,.no]:=rfl;have body:(rn (n+50)).b [0] (k+1) (nq ti).body [St s fl,.dat (.lst (th.map .int)),.no,.no]=!(.rt (.var 3),[St s' fl,.dat (.lst (th.map .int)),.own [],.own (fD.map .int)]):=by delta nq;simp! [U,q3]
 delta bF;simp only[vars,dg,hi,List.map_cons,List.map_nil];rw[fR #[rfl,by simp],hp,body]
 rfl
omit U in
def Qy{m:Nat}{f: ~~~0}(h:Tn m f){p q:Int}(hp:0<=p/\p<m)(hq:0<=q/\q<m)(fE:p≠q)(e1:gt f p=p)(e2:gt f q=q) :
  Tn m ((f.set p.toNat q).set q.toNat p)/\∀x:Int,0<=x/\x<m->x≠p->x≠q->gt ((f.set p.toNat q).set q.toNat p) x=gt f x:=by
 have hl:=h.length;have hget:∀x:Int,0<=x/\x<m->gt ((f.set p.toNat q).set q.toNat p) x=if x=q then p else if x=p then q else gt f x:=λx hx=>by
  have hx':x.toNat<f.length:=by lia
  delta gt;rw[bP,List.getElem?_set,List.getElem?_set];by_cases Sq:x=q
  . subst Sq;simp[hx']
  .
   have n1:q.toNat≠x.toNat:=by lia
   rw[eR n1,eR Sq];by_cases XD:x=p
   . subst XD;simp[hx']
   .
    have n2:p.toNat≠x.toNat:=by lia
    rw[eR n2,eR XD,bP]
 apply#[?_,λx hx n1 n2=>by rw[hget x hx,eR n2,eR n1]]
 have aN:((f.set p.toNat q).set q.toNat p).length=m:=by simp[hl]
 have em:=(uB aN).symm;have ex:∀x∈nums m,gt ((f.set p.toNat q).set q.toNat p) x=(λy:Int=>if y=p then q else if y=q then p else y) (gt f x):=λx hx=>by
  have hx':=cV.mp hx;rw[hget x hx'];dsimp only;by_cases Sq:x=q
  . rw[fR Sq,Sq,e2,eR (AJ fE),fR rfl]
  .
   by_cases XD:x=p
   . rw[eR Sq,fR XD,XD,e1,fR rfl]
   .
    have a1:gt f x≠p:=λz=>XD (h.inj hx' hp (z.trans e1.symm))
    have a2:gt f x≠q:=λz=>Sq (h.inj hx' hq (z.trans e2.symm))
    rw[eR Sq,eR XD,eR a1,eR a2]
 rw[em,mN ex];have e3:(nums m).map (λx=>(λy:Int=>if y=p then q else if y=q then p else y) (gt f x))=f.map λy:Int=>if y=p then q else if y=q then p else y:=by
  conv=>rhs;rw[<- uB hl,List.map_map]
  rfl
 rw[e3];apply Tn.of ?_;apply (h.perm.map _).trans ?_;have inj:∀x y:Int,(if x=p then q else if x=q then p else x)=(if y=p then q else if y=q then p else y)->x=y:=λx y z=>by
  split at z <;> split at z <;> (try split at z) <;> (try split at z) <;> lia
 apply (y4 (lP (nQ m).nodup λx _ y _ z=>inj x y z) (nQ m).nodup).mpr λx=>?_
 rw[eQ];constructor
 .
  rintro⟨y,hy,rfl⟩;have:=cV.mp hy;apply cV.mpr ?_;split
  . show hq
  .
   split
   . show hp
   . show this
 .
  intro hx;have hx':=cV.mp hx;apply#[if x=p then q else if x=q then p else x,cV.mpr ?_,?_]
  .
   split
   . show hq
   .
    split
    . show hp
    . show hx'
  .
   by_cases z1:x=p
   . rw[fR z1,eR (AJ fE),fR rfl];show z1.symm
   .
    by_cases z2:x=q
    . rw[eR z1,fR z2,fR rfl];show z2.symm
    . rw[eR z1,eR z2,eR z1,eR z2]
end
section
variable{ti mi:Nat}(U:jm fns rn)(hT:fns[ti]?=!cK)(hM:fns[mi]?=!(nq ti))
include U hT hM
def Qz{i:Nat}{s:Int}{fl:Bool}(m:Nat)(hm:1<=m/\m<=6)(hi:g[i]?=!(St s fl)):∃(t: ~~~0) (s':Int),Tn m t/\bF (rn (n+80)) (mS ti mi) (k+2) [.var i,‹m›] g=!(.dat (~~~t),g.set i (St s' fl)):=by
 have hr:bT 0 m=(nums m).map .int:=fy m;have hl:=gI m;let(row,s1,wZ,q1):=Kc U hT (n:=n+28) (k:=k) (g:=[St s fl,‹m›,.no,.no,.no]) (i:=0) (s:=s) (nums m) rfl ⋯;have hR:=Tn.of wZ;have hRl:=hR.length;have Lh:=q1;have dN:aH (rn (n+79)) [0] (k+2) (.set 2 (.call mi [⇑0,(.iP ⇑1)])) [St s fl,‹m›,.no,.no,.no]=!(.nx,[St s1 fl,‹m›,.own (row.map .int),.no,.no]):=by simp! [U,hM,Lh,aI m ⋯,au m ⋯,hr]
 let(r,s2,r1,r2,q2):=eG U (n:=n+57) (k:=k+1) (g:=[St s1 fl,‹m›,.own (row.map .int),.no,.no]) (i:=0) (s:=s1) (fl:=fl) (m:=3) rfl ⋯;have G4:=q2;have hp:fG (mS ti mi).n [St s fl,‹m›]=[St s fl,‹m›,.no,.no,.no]:=rfl;have fin:∀(t: ~~~0) (s':Int) (a b c:Slot),Tn m t->(rn (n+80)).b [0] (k+2) (mS ti mi).body [St s fl,‹m›,.no,.no,.no]=!(.rt (.dat (~~~t)),[St s' fl,‹m›,a,b,c])->∃(t: ~~~0) (s':Int),Tn m t/\bF (rn (n+80)) (mS ti mi) (k+2) [.var i,‹m›] g=!(.dat (~~~t),g.set i (St s' fl)):=λt s' a b c ht hb=>by
  apply#[t,s',ht,?_];delta bF;simp only[vars,dg,hi,List.map_cons,List.map_nil];rw[hp,hb];rfl
 by_cases hr0:r > 0
 . apply fin row s2 (.own (row.map .int)) .no .no hR ?_;delta mS;rw[U.b];rw[aG dN];simp! [U,hT,G4,hr0]
 .
  have aJ:aH (rn (n+79)) [0] (k+2) (.ite (.cmp .Gt (.call ti [⇑0,↥3]) ↥0) [(.ret (.blt .tuple [⇑2]))] []) [St s1 fl,‹m›,.own (row.map .int),.no,.no]=!(.nx,[St s2 fl,‹m›,.own (row.map .int),.no,.no]):=by simp! [U,hT,G4,hr0]
  have cH:aH (rn (n+79)) [0] (k+2) (.set 3 (.iP ⇑1)) [St s2 fl,‹m›,.own (row.map .int),.no,.no]=!(.nx,[St s2 fl,‹m›,.own (row.map .int),.own ((nums m).map .int),.no]):=by simp! [U,aI m ⋯,au m ⋯,hr]
  generalize hN:pG 0 ((m:Int) - 1) 2=N;have hN2:∀j,j<N->2 * j+1<m:=λj hj=>by
   rw[<- hN]at hj;delta pG at hj;split at hj
   . lia
   . lia
  have loop:=b9 (T:=.nm 4) (b:=(rn (n+79)).b [0] (k+2) [(.ite (.cmp .Eq (.call ti [⇑0,↥2]) ↥1) [(.items2 3 (.ix ⇑2 ⇑4) 3 (.ix ⇑2 (.bin .Add ⇑4 ↥1)) (.tup [(.ix ⇑2 (.bin .Add ⇑4 ↥1)),(.ix ⇑2 ⇑4)]))] [])]) (λ(j:Nat)=>D.int ((j:Int) * 2))
   (I:=λl g=>∃(j:Nat) (s:Int) (f: ~~~0) (s4:Slot),l=List.range' j (N - j)/\Tn m f/\(∀p:Nat,2 * j<=p->p<m->gt f (gt row p)=gt row p)/\g=[St s fl,‹m›,.own (row.map .int),.own (f.map .int),s4])
   (step:=λa l g h=>by
    let(j,s,f,s4,h1,h2,h3,rfl):=h;have hjN:j<N:=by
     rcases u4 j N with h |h
     . show h
     . rw[A5 h]at h1;cases h1
    have hc:List.range' j (N - j)=j::List.range' (j+1) (N - (j+1)):=by rw[show N - j=(N - (j+1))+1 by lia,AX]
    rw[hc]at h1;injection h1 with e1 e2;subst e1 e2;have hj2:=hN2 a hjN;obtain⟨z,hz⟩:∃z:Int,z=(a:Int) * 2:=#[_,rfl];rw[<- hz];let(r,s',r1,r2,q):=eG U (n:=n+56) (k:=k+1) (g:=[St s fl,‹m›,.own (row.map .int),.own (f.map .int),‹z›]) (i:=0) (s:=s) (fl:=fl) (m:=2) rfl ⋯;have q':=q;by_cases hr1:r=1
    .
     have hfl:=h2.length;have p1:=hR.gf (i:=((2 * a:Nat):Int)) ⋯;have p2:=hR.gf (i:=((2 * a+1:Nat):Int)) ⋯;have fE:gt row ((2 * a:Nat):Int)≠gt row ((2 * a+1:Nat):Int):=λz=>by have:=hR.inj ⋯ ⋯ z;lia
     let(x1,x2):=Qy h2 p1 p2 fE (h3 (2 * a) ⋯ ⋯) (h3 (2 * a+1) ⋯ ⋯);have a1:L2.d9 (row.map D.int) z=!(.int (gt row ((2 * a:Nat):Int))):=by rw[hz,show (a:Int) * 2=((2 * a:Nat):Int)by lia];show g7 ⋯
     have a2:L2.d9 (row.map D.int) (z+1)=!(.int (gt row ((2 * a+1:Nat):Int))):=by rw[hz,show (a:Int) * 2+1=((2 * a+1:Nat):Int)by lia];show g7 ⋯
     have n1:∀p:Nat,2 * (a+1)<=p->p<m->gt row p≠gt row ((2 * a:Nat):Int)/\gt row p≠gt row ((2 * a+1:Nat):Int):=λp h1 h2=>#[λz=>by have:=hR.inj ⋯ ⋯ z;lia,λz=>by have:=hR.inj ⋯ ⋯ z;lia]
     generalize gt row ((2 * a:Nat):Int)=p at p1 fE x1 x2 a1 n1;generalize gt row ((2 * a+1:Nat):Int)=q at p2 fE x1 x2 a2 n1;obtain⟨pn,rfl⟩:∃pn:Nat,p=pn:=#[p.toNat,by lia]
     obtain⟨qn,rfl⟩:∃qn:Nat,q=qn:=#[q.toNat,by lia]
     apply#[[St s fl,‹m›,.own (row.map .int),.own (f.map .int),‹z›],[St s' fl,‹m›,.own (row.map .int),.own (((f.set pn qn).set qn pn).map .int),‹z›],rfl,?_,a+1,s',_,_,rfl,(by simpa only[At]using x1),?_,rfl]
     . have l1:L2.nF f.length (pn:Int)=!pn:=zy ⋯;have l2:L2.nF f.length (qn:Int)=!qn:=zy ⋯;simp! [U,hT,q',hr1,a1,a2,l1,l2,au 2 ⋯]
     . intro p hp1 hp2;have hx:=n1 p hp1 hp2;have hg:=x2 (gt row p) (hR.gf ⋯) hx.1 hx.2;simp only[At]at hg;rw[hg];show h3 p ⋯ hp2
    .
     apply#[[St s fl,‹m›,.own (row.map .int),.own (f.map .int),‹z›],[St s' fl,‹m›,.own (row.map .int),.own (f.map .int),‹z›],rfl,?_,a+1,s',f,_,rfl,h2,λp hp=>h3 p ⋯,rfl]
     simp! [U,hT,q',hr1])
  let(g',(j,s3,f,s4,w1,w2,w3,rfl),w4):=loop (List.range' 0 N) [St s2 fl,‹m›,.own (row.map .int),.own ((nums m).map .int),.no] #[0,s2,nums m,.no,rfl,nQ m,λp _ hp=>Qx (hR.gf ⋯),rfl]
  apply fin f s3 (.own (row.map .int)) (.own (f.map .int)) s4 w2 ?_;have sd:qJ 0 2 N=(List.range' 0 N).map λ(j:Nat)=>D.int ((j:Int) * 2):=by delta qJ;rw[v3];show mN λj _=>by rw[Int.zero_add]
  have o1:wD ((m:Int) - 1)=true:=by delta wD;simp;lia
  have o2:wD 0=true:=rfl;have o3:wD 2=true:=rfl;delta mS;rw[U.b,aG dN,aG aJ,aG cH];simp! [U,Tg.ix,d8,o1,o2,o3,hN,sd,w4]
end
section
variable{ci:Nat}(U:jm fns rn)(hC:fns[ci]?=!mU)
include U hC
omit U hC in
def sS:qD .Pow (.int 10) (.int 18)=!(.dat (.int (10 ^ 18))):=by rfl
def Kd(ns: ~~~0)(hl:ns.length<=1000)(j:Nat):∃(s:Int) (fl:Bool),bW (rn (n+40)) (k+1) (lO ci) [.fix (ns.map .int),.int j]=!(.new [.int s,.bl fl]):=by
 obtain⟨v,q⟩:∃v:Int,∀n,bW (rn (n+20)) k mU [.fix (ns.map .int),.int j]=!‹v›:=by
  by_cases h:j<ns.length
  .
   apply#[ns[j],λn=>?_]
   have h':(j:Int)<ns.length:=by lia
   have:=wX ns j h;delta bW mU;simp! [U,qo,h',this]
  .
   apply#[0,λn=>?_]
   have h' : ¬ (j:Int)<ns.length:=by lia
   delta bW mU;simp! [U,qo,h']
 by_cases hv:(1000000000000000000:Int)<=v
 . apply#[v - 1000000000000000000,true,?_];delta bW lO;simp! [U,hC,aR (fx:=mU) rfl,q,sS,hv,au 2 ⋯]
 . apply#[v % 2147483647,false,?_];delta bW lO;simp! [U,hC,aR (fx:=mU) rfl,q,sS,hv,au 2 ⋯,nR]
end
abbrev bA:Fx:=#[1,1,[(.ret (.and [(.Lq ⇑0 "int"),(.not (.Lq ⇑0 "bool"))]))]]
abbrev aU(w:Nat):Fx:=#[3,3,[(.ret (.and [(.call w [⇑0]),(.chain ⇑1 [.LtE,.LtE] [⇑0,⇑2])]))]]
abbrev isInt:D->Bool
 |.int _=>true
 |_=>false
abbrev Ke(lo hi:Int):D->Bool
 |.int i=>decide (lo<=i/\i<=hi)
 |_=>false
abbrev QB(m:Nat):D->Bool
 |.tup l=>match bI l with
  |some t=>decide (cU t=nums m)
  |none=>false
 |_=>false
abbrev Fair:D->Prop
 |.tup l=>l.length<=20/\∀x∈l,fF x=true/\dep x<=5
 |_=>True
def sf:∀{l:List D},l.all isInt=true->∃t:List Int,l=t.map .int
 | [],_=>#[[],rfl]
 |d::l,h=>by
  rw[List.all_cons,eI]at h;let(t,rfl):=sf h.2;cases d with
  |int i=>show#[i::t,rfl]
  |_=>cases h.1
def xg:∀{l:List D},l.all isInt=false->bI l=none
 | [],h=>by symm
 |d::l,h=>by
  cases d with
  |int i=>
   have:l.all isInt=false:=by simpa [isInt]using h
   exact (match bI l with |some ns=>!(i::ns) |none=>none)=none
   rw[xg this]
  |_=>rfl
def xh:∀{l:List D},(∀x∈l,fF x=true)->cI l=true
 | [],_=>rfl
 |d::l,h=>by
  exact (fF d&&cI l)=true;rw[h d dA,xh λx hx=>h x (b0 _ hx)]
  rfl
def xm:∀{l:List D},(∀x∈l,dep x<=c)->deps l<=c
 | [],_=>oP _
 |d::l,h=>by
  have h1:=h d dA;have h2:=xm λx hx=>h x (b0 _ hx)
  exact max (dep d) (deps l)<=c;lia
def QC{l:List D}{lo hi r:Int}(h:0<=r/\r<l.length)(a:l.all (Ke lo hi)=true):∃v:Int,(lo<=v/\v<=hi)/\L2.d9 l r=!(.int v):=by
 obtain⟨j,rfl⟩:∃j:Nat,r=j:=#[r.toNat,by lia]
 have hj:j<l.length:=by lia
 have b:=nV.mp a _ (tP hj);have q:=gZ l j hj;generalize l[j]=x at b q;cases x with
 |int v=>show#[v,t5 b,q]
 |_=>cases b
section
variable{w wi mw it ci cj:Nat}(U:jm fns rn)
include U
def iU(d:D):bW (rn (n+6)) k bA [d]=!(.dat (.bl (isInt d))):=by
 have e:isInt d=(qM (xU d) "int" && (not (qM (xU d) "bool"))):=by cases d <;> rfl
 rw[e];delta bW bA;cases h:qM (xU d) "int" <;> simp! [U,h]
variable(hW:fns[w]?=!bA)
include hW
def jh(d:D)(lo hi:Int):bW (rn (n+14)) (k+1) (aU w) [d,.int lo,.int hi]=!(.dat (.bl (Ke lo hi d))):=by
 have no (e:isInt d=false):bW (rn (n+14)) (k+1) (aU w) [d,.int lo,.int hi]=!(.dat (.bl false)):=by delta bW aU;simp! [U,hW,aL (fx:=bA) rfl,iU U,e]
 delta bW aU;cases d with
 |int i=>
  by_cases h1:lo<=i
  .
   by_cases h2:i<=hi
   . simp! [U,hW,aL (fx:=bA) rfl,iU U,isInt,Ke,h1]
   . simp! [U,hW,aL (fx:=bA) rfl,iU U,isInt,Ke,h1]
  . simp! [U,hW,aL (fx:=bA) rfl,iU U,isInt,Ke,h1]
 |_=>show no rfl
end
abbrev fz(wi:Nat):Fx:=#[2,2,[(.ite (.or [(.not (.Lq ⇑1 "tuple")),(.cmp .NotEq (.blt .len [⇑1]) ↥2)]) [(.ret (.val (.bl false)))] []),(.ret (.and [(.blt .all [(.comp 2 2 (.nm 3) ⇑1 none (.call wi [⇑3,↥0,(.bin .Sub ⇑0 ↥1)]))]),(.cmp .Lt (.ix ⇑1 ↥0) (.ix ⇑1 ↥1))]))]]
abbrev qu:Fx:=#[1,1,[(.ret (.blt .all [(.comp 1 2 (.nm 2) (.gG ↥1 (.blt .len [⇑0])) none (.cmp .Lt (.ix ⇑0 (.bin .Sub ⇑2 ↥1)) (.ix ⇑0 ⇑2)))]))]]
abbrev fB(wi it ri:Nat):Fx:=#[1,3,[(.ite (.or [(.not (.Lq ⇑0 "tuple")),(.cmp .NotEq (.blt .len [⇑0]) ↥2)]) [(.ret (.val (.bl false)))] []),(.tgt (.tp [1,2]) ⇑0),(.ite (.or [(.not (.call wi [⇑1,↥1,↥6])),(.not (.Lq ⇑2 "tuple"))]) [(.ret (.val (.bl false)))] []),(.ret (.and [(.blt .all [(.comp 3 2 (.nm 4) ⇑2 none (.call it [⇑1,⇑4]))]),(.call ri [⇑2])]))]]
abbrev bq(iw ci:Nat):Fx:=#[1,1,[(.ite (.not (.call iw [⇑0])) [.stuck] [])]]
abbrev W(m:Nat)(ak: ~~~5):D:=.tup [.int m,.tup (ak.map ∅)]
structure Wb(m:Nat)(ak: ~~~5):Prop where
 tie:∀x∈ak,∃a b:Int,x=[a,b]/\0<=a/\a<b/\b<m
 tW:ak.Pairwise λx y=>HT.lexLt x y=true
 len:ak.length<=15
def Wb.two{m:Nat}{ak: ~~~5}(h:Wb m ak):(ak.map ∅)=ak.map λx=>.tup [.int (gt x 0),.int (gt x 1)]:=mN λx hx=>by
 let(a,b,rfl,_):=h.tie x hx;rfl
def lQ(l: ~~~5):cI (l.map ∅)=true:=by
 induction l with
 |nil=>rfl
 |cons x l ih=>simp[cI,fF,dH,ih]
def lR(l: ~~~5):deps (l.map ∅)<=1:=by
 induction l with
 |nil=>simp[deps]
 |cons x l ih=>simp[deps,dep,eS];lia
def sr:∀a b:List (~~~0),cC (a.map ∅) (b.map ∅)=decide (a=b)
 | [],[]=>rfl
 | [],_::_=>rfl
 |_::_,[]=>rfl
 |x::a,y::b=>by
  simp only[List.map_cons,cC,cL,cQ,sr a b,C5,EC]
def Kg(m m':Nat)(a b: ~~~5):pX (W m a) (W m' b)=true:=by have:=lR a;simp[pX,W,fF,cI,lQ,dep,deps];lia
def Kh(m:Nat)(a b: ~~~5):cL (W m a) (W m b)=decide (a=b):=by simp[W,cL,cC,sr]
def XF(m:Nat)(a b: ~~~5):d7 .NotEq (W m a) (W m b)=!((not (decide (a=b)))):=by
 exact (if pX (W m a) (W m b)=true then some ((not (cL (W m a) (W m b))))else none)=_
 rw[fR (Kg _ _ _ _),Kh]
section
variable{wh wi it ri iw ci:Nat}(U:jm fns rn)
include U
variable(hW:fns[wh]?=!bA)(hI:fns[wi]?=!(aU wh))
include hW hI
def Kl(m:Nat)(a b:Int)(h:0<=a/\a<b/\b<m):bW (rn (n+40)) (k+3) (fz wi) [.int m,~~~[a,b]]=!(.dat (.bl true)):=by
 have w:=λn k=>mQ (rn:=rn (n+24)) (bor:=[]) (k:=k+2) (g:=[‹m›,.dat (~~~[a,b])]) (g1:=[‹m›,.dat (~~~[a,b])]) (kk:=2) (nn:=2) (j:=3) (it:=.slot 1) (e:=.call wi [⇑3,↥0,(.bin .Sub ⇑0 ↥1)]) [a,b] .int (λ_=>.bl true) (by simp! [U,d8]) rfl ⋯ ⋯ ⋯ (au _ ⋯) λx hx G' hG=>by
  have h0:=hG.1 0 ⋯;have hx':(0:Int)<=x/\x<=m - 1:=by simp only[eC,x3]at hx;lia
  simp! [U,hG.2,h0,hI,cM (fx:=aU wh) rfl,jh U hW,Ke,hx']
 have e1:[a,b].map (λ_=>D.bl true)=([true,true]).map .bl:=rfl
 have i0:L2.d9 ([a,b].map D.int) 0=!(.int a):=rfl;have i1:L2.d9 ([a,b].map D.int) 1=!(.int b):=rfl;delta bW fz;simp! [U,w,e1,i0,i1,h]
omit hW hI in
def XH(m:Nat)(ak: ~~~5)(h:Wb m ak):bW (rn (n+40)) k qu [.tup (ak.map ∅)]=!(.dat (.bl true)):=by
 have hl:=h.len;have w:=λn k=>mQ (rn:=rn (n+16)) (bor:=[]) (k:=k) (g:=[.dat (.tup (ak.map ∅))]) (g1:=[.dat (.tup (ak.map ∅))]) (kk:=2) (nn:=1) (j:=2) (it:=.gG ↥1 (.blt .len [⇑0])) (e:=.cmp .Lt (.ix ⇑0 (.bin .Sub ⇑2 ↥1)) (.ix ⇑0 ⇑2)) (List.range (ak.length - 1)) (λ(k:Nat)=>.int (1+k:Int)) (λ_=>.bl true) (by
   have e:((ak.length:Int) - 1).toNat=ak.length - 1:=by lia
   simp! [U,d8,aI 1 ⋯,aI (ak.length:Int) ⋯,e,bT]) rfl ⋯ ⋯ ⋯ (au _ (by simp;lia)) λj hj G' hG=>by
  have h0:G'[0]?=!(.dat (.tup (ak.map ∅))):=hG.1 0 ⋯
  have hj':=o6.mp hj;have j1:L2.d9 (ak.map ∅) (1+(j:Int) - 1)=!(~~~(ak[j]'⋯)):=by rw[show (1+(j:Int) - 1)=((j:Nat):Int)by lia,gZ _ _ (by simp;lia)];simp
  have j2:L2.d9 (ak.map ∅) (1+(j:Int))=!(~~~(ak[j+1]'⋯)):=by rw[show (1+(j:Int))=((j+1:Nat):Int)by lia,gZ _ _ (by simp;lia)];simp
  have hlt:HT.lexLt (ak[j]'⋯) (ak[j+1]'⋯)=true:=AD.mp h.tW j (j+1) ⋯ ⋯ ⋯;have hc:d7 .Lt (~~~(ak[j]'⋯)) (~~~(ak[j+1]'⋯))=!true:=by simp only[d7,Wt,ints_map,hlt]
  simp! [U,hG.2,h0,j1,j2,hc]
 have e1:(List.range (ak.length - 1)).map (λ_=>D.bl true)=((List.range (ak.length - 1)).map λ_=>true).map .bl:=by rw[List.map_map];rfl
 have e2:((List.range (ak.length - 1)).map λ_=>true).all id=true:=by simp
 delta bW qu;simp! [U,w,e1,e2]
variable(mL:fns[it]?=!(fz wi))(hR:fns[ri]?=!qu)
include mL hR
def Km(m:Nat)(ak: ~~~5)(hm:1<=m/\m<=6)(h:Wb m ak):bW (rn (n+60)) (k+5) (fB wi it ri) [W m ak]=!(.dat (.bl true)):=by
 have hl:=h.len;have w:=λn k=>mQ (rn:=rn (n+50)) (bor:=[]) (k:=k+4) (g:=[.dat (W m ak),‹m›,.dat (.tup (ak.map ∅))]) (g1:=[.dat (W m ak),‹m›,.dat (.tup (ak.map ∅))]) (kk:=2) (nn:=3) (j:=4) (it:=.slot 2) (e:=.call it [⇑1,⇑4]) ak ∅ (λ_=>.bl true) (by simp! [U,d8]) rfl ⋯ ⋯ ⋯ (au _ ⋯) λx hx G' hG=>by
  have h1:=hG.1 1 ⋯;let(a,b,rfl,hab):=h.tie x hx;simp! [U,hG.2,h1,mL,aR (fx:=fz wi) rfl,Kl U hW hI m a b hab]
 have e1:ak.map (λ_=>D.bl true)=(ak.map λ_=>true).map .bl:=by rw[List.map_map];rfl
 have e2:(ak.map λ_=>true).all id=true:=by simp
 have q:=λn k=>XH U (n:=n) (k:=k) m ak h
 have ty:qM (xU (W m ak)) "tuple"=true:=rfl;have bl:nM .len [W m ak]=!‹2›:=rfl;have st:∀s1 s2,Tg.set (.tp [1,2]) (W m ak) [.dat (W m ak),s1,s2]=![.dat (W m ak),‹m›,.dat (.tup (ak.map ∅))]:=λ_ _=>rfl
 delta bW fB;simp! [U,ty,bl,st,hI,cM (fx:=aU wh) rfl,jh U hW,Ke,(show (1:Int)<=m/\(m:Int)<=6 by lia),w,e1,e2,hR,aL (fx:=qu) rfl,q]
variable(uN:fns[iw]?=!(fB wi it ri))
include uN
def cP(m:Nat)(ak: ~~~5)(hm:1<=m/\m<=6)(h:Wb m ak):bW (rn (n+70)) (k+6) (bq iw ci) [W m ak]=!(.dat .non):=by delta bW bq;simp! [U,uN,aL (fx:=fB wi it ri) rfl,Km U hW hI mL hR m ak hm h]
end
abbrev tm(t: ~~~0)(x: ~~~0): ~~~0:=if gt t (gt x 0)<gt t (gt x 1)then [gt t (gt x 0),gt t (gt x 1)]else [gt t (gt x 1),gt t (gt x 0)]
abbrev tw(t: ~~~0)(ak: ~~~5): ~~~5:=bf gU (ak.map (tm t))
def bC(a b:Int):gt [a,b] 0=a/\gt [a,b] 1=b:=#[rfl,rfl]
def cW(t: ~~~0)(a b:Int):tm t [a,b]=if gt t a<gt t b then [gt t a,gt t b]else [gt t b,gt t a]:=rfl
abbrev Pr(m:Nat)(x: ~~~0):Prop:=∃a b:Int,x=[a,b]/\0<=a/\a<b/\b<m
def tm_pr(h:Tn m t)(hx:Pr m x):Pr m (tm t x):=by
 let(a,b,rfl,h1,h2,h3):=hx;have ha:=h.gf (i:=a) ⋯;have hb:=h.gf (i:=b) ⋯;have fE:gt t a≠gt t b:=λe=>by have:=h.inj ⋯ ⋯ e;lia
 rw[cW];split
 . show#[_,_,rfl,by lia,by lia,by lia]
 . show#[_,_,rfl,by lia,by lia,by lia]
def zz(h:Tn m t)(hx:Pr m x)(hy:Pr m y)(e:tm t x=tm t y):x=y:=by
 let(a,b,rfl,h1,h2,h3):=hx;let(c,d,rfl,h4,h5,h6):=hy;rw[cW,cW]at e;have i1:∀i j:Int,(0<=i/\i<m)->(0<=j/\j<m)->gt t i=gt t j->i=j:=λi j hi hj e=>h.inj hi hj e
 split at e <;> split at e <;> simp only[C5,and_true]at e
 .
  have:=i1 a c ⋯ ⋯ e.1;have:=i1 b d ⋯ ⋯ e.2
  subst_vars;rfl
 . have:=i1 a d ⋯ ⋯ e.1;have:=i1 b c ⋯ ⋯ e.2;lia
 . have:=i1 b c ⋯ ⋯ e.1;have:=i1 a d ⋯ ⋯ e.2;lia
 .
  have:=i1 b d ⋯ ⋯ e.1;have:=i1 a c ⋯ ⋯ e.2
  subst_vars;rfl
def XJ(ht:Tn m t)(hu:Tn m u)(hx:Pr m x):tm u (tm t x)=tm (t.map (gt u)) x:=by
 let(a,b,rfl,h1,h2,h3):=hx;have hl:=ht.length;have e:∀i:Int,(0<=i/\i<m)->gt (t.map (gt u)) i=gt u (gt t i):=λi hi=>by
  have h1:i.toNat<t.length:=by lia
  delta gt;simp[h1]
 rw[cW t,cW,e a ⋯,e b ⋯];have ha:=ht.gf (i:=a) ⋯;have hb:=ht.gf (i:=b) ⋯;have fE:gt t a≠gt t b:=λq=>by have:=ht.inj ⋯ ⋯ q;lia
 have hne2:gt u (gt t a)≠gt u (gt t b):=λq=>fE (hu.inj ha hb q)
 split
 . rw[cW]
 . rw[cW];split <;> split <;> first |rfl |lia
def jt(h:l.Nodup):(bf gU l).Pairwise λx y=>HT.lexLt x y=true:=by
 have h1:=bX (O:=gU) l;have h2:(bf gU l).Nodup:=(bD l).nodup_iff.mpr h;apply (h1.and h2).imp λ{x y} #[q1,q2]=>?_
 cases e:HT.lexLt x y with
 |true=>rfl
 |false=>show absurd (kZ x y e q1) q2
def Wb.nodup(h:Wb m ak):ak.Nodup:=by show h.tW.imp λ{x y} q e=>by rw[e,eL]at q;cases q
def Wb.turn(h:Wb m ak)(ht:Tn m t):Wb m (tw t ak):=by
 have hp:=bD (O:=gU) (ak.map (tm t));apply#[λx hx=>?_,jt (lP h.nodup λx hx y hy e=>zz ht (h.tie x hx) (h.tie y hy) e),?_]
 . let(y,hy,rfl):=eQ.mp (hp.mem_iff.mp hx);show tm_pr ht (h.tie y hy)
 . delta tw;rw[hp.length_eq,eA];show h.len
def zA(h:l.Perm l'):bf gU l=bf gU l':=fc ((bD l).trans h) (bX l)
def xq(h:Wb m ak)(ht:Tn m t)(hu:Tn m u):tw u (tw t ak)=tw (t.map (gt u)) ak:=by
 delta tw;rw[zA ((bD (ak.map (tm t))).map (tm u)),List.map_map]
 congr 1
 show mN λx hx=>XJ ht hu (h.tie x hx)
def Ss(h:Wb m ak)(ht:∀i:Int,0<=i/\i<m->gt t i=i):tw t ak=ak:=by
 delta tw;have e:ak.map (tm t)=ak:=by
  conv=>rhs;rw[<- List.map_id ak]
  apply mN λx hx=>?_
  let(a,b,rfl,h1,h2,h3):=h.tie x hx;rw[cW,ht a ⋯,ht b ⋯,fR h2];rfl
 rw[e];apply (fc (mE _) (h.tW.imp λ{x y} q=>?_)).symm
 show o9.le_of_lt q
abbrev fC:Fx:=#[1,3,[(.set 1 (.lst [])),(.loop (.nm 2) (.dc ⇑0) [(.expr (.extend 1 (.comp 3 2 (.nm 4) (.gG (.bin .Add ⇑2 ↥1) ⇑0) none (.tup [⇑2,⇑4]))))]),(.ret ⇑1)]]
abbrev QD(ti:Nat):Option Ex:=!(.cmp .Lt (.call ti [⇑0,↥8]) (.ix (.lst [↥2,↥4,↥6]) (.bin .Mod ⇑3 ↥3)))
abbrev QF:List Sm:=[(.expr (.append 4 (.blt .tuple [(.blt .sorted [(.lst [(.ix ⇑5 ⇑6),(.ix ⇑5 (.ix (.lst [(.bin .Sub ⇑6 ↥1),(.bin .Sub ⇑6 ↥1),↥0,(.bin .FloorDiv ⇑6 ↥2)]) (.bin .Sub ⇑3 ↥3)))])])])))]
abbrev Ko:Sm:=.ite (.and [(.cmp .Eq ⇑3 ↥4),(.cmp .Gt ⇑2 ↥2)]) [(.expr (.append 4 (.blt .tuple [(.blt .sorted [(.lst [(.ix ⇑5 ↥0),(.ix ⇑5 (.bin .Sub ⇑2 ↥1))])])])))] []
abbrev QG(ti:Nat):Option Ex:=!(.cmp .Eq (.call ti [⇑0,↥12]) ↥0)
abbrev QH:Option Ex:=!(.cmp .NotEq (.cmp .In ⇑9 ⇑4) (.cmp .In ⇑9 ⇑7))
abbrev XM(ti:Nat):Sm:=.set 2 (.blt .max [↥1,(.bin .Sub ⇑1 (.ix (.lst [↥0,↥4,↥1,↥0,↥2,↥1,↥3,⇑1]) (.call ti [⇑0,↥8])))])
abbrev QJ(ti pi:Nat):Sm:=.ite (.cmp .Gt ⇑3 ↥2) [(.set 4 (.lst [])),(.loop (.nm 6) (.gG ↥1 ⇑2) QF),Ko,(.set 7 (.comp 8 2 (.nm 9) (.call pi [⇑2]) (QG ti) ⇑9)),(.set 4 (.comp 8 2 (.nm 9) (.call pi [⇑2]) QH ⇑9))] []
abbrev zB(ti pi mi:Nat):Fx:=#[2,8,[(XM ti),(.set 3 (.call ti [⇑0,↥7])),(.set 4 (.comp 8 2 (.nm 9) (.call pi [⇑2]) (QD ti) ⇑9)),(.set 5 (.call mi [⇑0,(.iP ⇑2)])),(QJ ti pi),(.ret (.tup [⇑2,(.blt .tuple [(.blt .sorted [⇑4])])]))]]
abbrev uC(m a:Nat): ~~~5:=(List.range (m - (a+1))).map λ(j:Nat)=>[(a:Int),(a:Int)+1+(j:Int)]
abbrev pacc(m j:Nat): ~~~5:=((List.range j).map (uC m)).flatten
def su(m j:Nat):pacc m (j+1)=pacc m j++uC m j:=by simp[pacc,List.range_succ]
def xr(m:Nat):∀j,(pacc m j).length<=j * m
 | 0=>by simp[pacc]
 |j+1=>by
  rw[su,dS];have:=xr m j;have h2:(uC m j).length<=m:=by simp[uC]
  lia
abbrev prs(m:Nat): ~~~5:=pacc m m
abbrev okP(m:Nat):Bool:=(prs m).all (λx=>match x with | [a,b]=>decide (0<=a)&&decide (a<b)&&decide (b<m) |_=>false)&&decide ((prs m).Nodup)&&decide ((prs m).length<=15)
def QK{m:Nat}(hm:1<=m/\m<=6):okP m=true:=by refine six hm <;> decide +kernel
def qw(hm:1<=m/\m<=6):(∀x∈prs m,Pr m x)/\(prs m).Nodup/\(prs m).length<=15:=by
 have:=QK hm;delta okP at this;simp only[eI,gN,nV]at this;let((h1,h2),h3):=this;apply#[λx hx=>?_,h2,h3]
 have:=h1 x hx;split at this
 . ext a b;simp only[eI,gN]at this;show#[a,b,rfl,this.1.1,this.1.2,this.2]
 . cases this
def Wb.XQ(hm:1<=m/\m<=6)(h:l.Sublist (prs m)):Wb m (bf gU l):=by
 let(h1,h2,h3):=qw hm;have hp:=bD (O:=gU) l;apply#[λx hx=>h1 x (h.subset (hp.mem_iff.mp hx)),jt (h.nodup h2),?_]
 rw[hp.length_eq];show kS h.length_le h3
section
variable{ti pi mi:Nat}(U:jm fns rn)(hT:fns[ti]?=!cK)(hP:fns[pi]?=!fC)(hM:fns[mi]?=!(nq ti))
include U
def qx(m:Nat)(hm:1<=m/\m<=6):bW (rn (n+30)) k fC [.int m]=!(.new ((prs m).map ∅)):=by
 have loop:=b9 (T:=.nm 2) (b:=(rn (n+29)).b [] k [(.expr (.extend 1 (.comp 3 2 (.nm 4) (.gG (.bin .Add ⇑2 ↥1) ⇑0) none (.tup [⇑2,⇑4]))))]) (λ(j:Nat)=>D.int (j:Int))
  (I:=λl g=>∃(j:Nat) (s2:Slot),j<=m/\l=List.range' j (m - j)/\g=[‹m›,.own ((pacc m j).map ∅),s2])
  (step:=λa l g h=>by
   let(j,s2,h0,h1,rfl):=h;have YS:j<m:=by
    rcases u4 j m with h |h
    . show h
    . rw[A5 h]at h1;cases h1
   have hc:List.range' j (m - j)=j::List.range' (j+1) (m - (j+1)):=by rw[show m - j=(m - (j+1))+1 by lia,AX]
   rw[hc]at h1;injection h1 with e1 e2;subst e1 e2;have aN:(pacc m a).length<=36:=kS (xr m a) (kS (Nat.mul_le_mul (show a<=6 by lia) hm.2) ⋯)
   have hlr:(uC m a).length<=6:=by simp[uC];lia
   have w:=mQ (rn:=rn (n+26)) (bor:=[]) (k:=k) (g:=[‹m›,.own ((pacc m a).map ∅),‹a›]) (g1:=[‹m›,.own ((pacc m a).map ∅),‹a›]) (kk:=2) (nn:=3) (j:=4) (it:=.gG (.bin .Add ⇑2 ↥1) ⇑0) (e:=.tup [⇑2,⇑4]) (List.range (m - (a+1))) (λj=>.int ((a:Int)+1+(j:Int))) (λj=>.tup [.int (a:Int),.int ((a:Int)+1+(j:Int))]) (by
     have e:((m:Int) - ((a:Int)+1)).toNat=m - (a+1):=by lia
     simp! [U,d8,aI ((a:Int)+1) ⋯,aI m ⋯,e,bT]) rfl ⋯ ⋯ ⋯ (au _ (by simp;lia)) λx hx G' hG=>by
    have h2:=hG.1 2 ⋯;simp! [U,hG.2,h2,au 2 ⋯]
   have e3:(List.range (m - (a+1))).map (λ(j:Nat)=>D.tup [.int (a:Int),.int ((a:Int)+1+(j:Int))])=(uC m a).map λx=>~~~x:=by delta uC;rw[List.map_map];rfl
   rw[e3]at w;have z:(pacc m a).length+(uC m a).length<=lim:=au _ ⋯;apply#[[‹m›,.own ((pacc m a).map ∅),‹a›],[‹m›,.own ((pacc m (a+1)).map ∅),‹a›],rfl,?_,a+1,_,by lia,rfl,rfl]
   rw[su];simp! [U,w,z])
 let(g',(j,s2,h0,h1,rfl),h2):=loop (List.range' 0 m) [‹m›,.own [],.no] #[0,.no,by lia,rfl,rfl]
 have hj:j=m:=by
  have:(List.range' j (m - j)).length=0:=by rw[<- h1];rfl
  rw[B7]at this;lia
 subst hj;have hr:bT 0 j=(List.range' 0 j).map λ(x:Nat)=>D.int (x:Int):=by delta bT;rw[v3];show mN λx _=>by rw[Int.zero_add]
 delta bW fC;simp! [U,Tg.jB,d8,aI j ⋯,hr,h2];rfl
end
def cpS{α:Type}(bO:α->D)(gs:Int->G)(hn:∀s,(gs s).length=nn)(hj1:nn<=j)(hj2:j<nn+kk) :
  ∀(items:List α) (s:Int) (m:G) (acc:List D),m.length=kk->acc.length+items.length<=lim->
  (∀a∈items,∀s m acc,m.length=kk->m[j - nn]?=!(.dat (bO a))->∃b s',qE rn bor k c (gM (gs s) m acc)=!(b,gM (gs s') m acc))->
  (∀a∈items,∀s m acc,m.length=kk->m[j - nn]?=!(.dat (bO a))->eN rn bor k (.slot j) (gM (gs s) m acc)=!(bO a,gM (gs s) m acc))->
  ∃(sub:List α) (s':Int) (m':G),sub.Sublist items/\m'.length=kk/\Eh rn bor k (.nm j) (nn+kk) c (.slot j) (items.map bO) (gM (gs s) m acc)=!(gM (gs s') m' (acc++sub.map bO))
 | [],s,m,acc,hm,_,_,_=>#[[],s,m,List.Sublist.refl _,hm,by simp[Eh]]
 |a::items,s,m,acc,hm,hl,hc,he=>by
  rw[mB]at hl;have YS:j - nn<m.length:=by lia
  have q1:(Tg.nm j).set (bO a) (gM (gs s) m acc)=!(gM (gs s) (m.set (j - nn) (.dat (bO a))) acc):=by
   have:=uA (g:=gs s) (kk:=kk) (d:=bO a) (m:=m) (acc:=acc) (by rw[hn];show hj1) (by rw[hn];show YS)
   rw[hn]at this;show this
  have hm':(m.set (j - nn) (.dat (bO a))).length=kk:=by simpa using hm
  have hg:(m.set (j - nn) (.dat (bO a)))[j - nn]?=!(.dat (bO a)):=by rw[i9 YS]
  let(b,s',q2):=hc a dA s _ acc hm' hg;rw[List.map_cons];delta Eh;rw[q1];dsimp only;rw[q2];cases b with
  |false=>
   let(sub,s2,m2,w1,w2,w3):=cpS bO gs hn hj1 hj2 items s' _ acc hm' ⋯ (λx hx=>hc x (b0 _ hx)) (λx hx=>he x (b0 _ hx))
   show#[sub,s2,m2,w1.cons a,w2,w3]
  |true=>
   dsimp only;rw[he a dA s' _ acc hm' hg];dsimp only;have q4:(gM (gs s') (m.set (j - nn) (.dat (bO a))) acc)[nn+kk]?=!(.own acc):=by have:=kD (g:=gs s') (m:=m.set (j - nn) (.dat (bO a))) (acc:=acc);rw[hn,hm']at this;show this
   rw[q4];dsimp only;rw[fR ⋯];have q5:(gM (gs s') (m.set (j - nn) (.dat (bO a))) acc).set (nn+kk) (.own (acc++[bO a]))=gM (gs s') (m.set (j - nn) (.dat (bO a))) (acc++[bO a]):=by have:=mO (g:=gs s') (m:=m.set (j - nn) (.dat (bO a))) (acc:=acc) (acc':=acc++[bO a]);rw[hn,hm']at this;show this
   rw[q5];let(sub,s2,m2,w1,w2,w3):=cpS bO gs hn hj1 hj2 items s' _ (acc++[bO a]) hm' (by rw[dS,t9];lia) (λx hx=>hc x (b0 _ hx)) (λx hx=>he x (b0 _ hx))
   apply#[a::sub,s2,m2,w1.cons_cons a,w2,?_];rw[w3];simp
def Sv{α:Type}(items:List α)(bO:α->D)(gs:Int->G)(hn:∀s,(gs s).length=nn)(hj1:nn<=j)(hj2:j<nn+kk)(hw:d8 rn bor k false it g=!(items.map bO,gs s))(hb:j∉bor)(hl:items.length<=lim)
  (hc:∀a∈items,∀s m acc,m.length=kk->m[j - nn]?=!(.dat (bO a))->∃b s',qE rn bor k c (gM (gs s) m acc)=!(b,gM (gs s') m acc))
  (he:∀a∈items,∀s m acc,m.length=kk->m[j - nn]?=!(.dat (bO a))->eN rn bor k (.slot j) (gM (gs s) m acc)=!(bO a,gM (gs s) m acc)) :
  ∃(sub:List α) (s':Int),sub.Sublist items/\gH rn bor k nn kk (.nm j) it c (.slot j) g=!(sub.map bO,gs s'):=by
 let(sub,s',m',w1,w2,w3):=cpS bO gs hn hj1 hj2 items s (List.replicate kk .no) [] ⋯ (by simpa using hl) hc he
 apply#[sub,s',w1,?_];delta gH;rw[show (Tg.nm j).jB=false from rfl,hw]
 dsimp only;rw[fR #[hn s,by simp[Tg.ix,hb]],J2,w3]
 dsimp only;have:(gM (gs s') m' ([]++sub.map bO))[nn+kk]?=!(.own ([]++sub.map bO)):=by have:=kD (g:=gs s') (m:=m') (acc:=[]++sub.map bO);rw[hn,w2]at this;show this
 rw[this];have ht:=uz (g:=gs s') (m:=m') (acc:=[]++sub.map bO);rw[hn]at ht;rw[ht,BB]
section
variable{ti pi mi:Nat}(U:jm fns rn)(hT:fns[ti]?=!cK)(hP:fns[pi]?=!fC)(hM:fns[mi]?=!(nq ti))
include U
def sl9(hf:f.length=nn)(hj:nn<=j)(hm:m[j - nn]?=!(.dat d)):eN (rn (n+1)) bor k (.slot j) (gM f m acc)=!(d,gM f m acc):=by
 have hlt:=(dL.mp hm).1;have:(gM f m acc)[j]?=!(.dat d):=by
  have:=dG (g:=f) (acc:=acc) hlt;rw[hf,show nn+(j - nn)=j by lia]at this
  rw[this,hm]
 simp! [U,this]
abbrev fr(s:Int)(fl:Bool)(a2 a3 a4 a5 a6 a7:Slot):G:=[St s fl,‹6›,a2,a3,a4,a5,a6,a7]
include hT in
def w1(s:Int)(fl:Bool):∃(m:Nat) (s':Int),(1<=m/\m<=6)/\aH (rn (n+40)) [0] (k+3) (XM ti) (fr s fl .no .no .no .no .no .no)=!(.nx,fr s' fl ‹m› .no .no .no .no .no):=by
 let(r,s',r1,r2,q):=eG U (n:=n+16) (k:=k+2) (g:=fr s fl .no .no .no .no .no .no) (i:=0) (s:=s) (fl:=fl) (m:=8) rfl ⋯;have q':bF (rn (n+36)) cK (k+2) [.var 0,‹8›] [St s fl,‹6›,.no,.no,.no,.no,.no,.no]=!(‹r›,[St s' fl,‹6›,.no,.no,.no,.no,.no,.no]):=q;let(v,hv,h0):=QC (l:=[D.int 0,.int 4,.int 1,.int 0,.int 2,.int 1,.int 3,.int 6]) (lo:=0) (hi:=6) #[r1,r2] rfl;apply#[(if 6 - v > 1 then 6 - v else 1).toNat,s',?_,?_]
 . split <;> lia
 .
  have e:(((if 6 - v > 1 then 6 - v else 1).toNat:Nat):Int)=if 6 - v > 1 then 6 - v else 1:=by split <;> lia
  rw[e];delta fr XM;simp! [U,hT,q',h0,au 8 ⋯]
include hT in
def w2(s:Int)(fl:Bool)(a2:Slot):∃(w:Int) (s':Int),(0<=w/\w<7)/\aH (rn (n+40)) [0] (k+3) (.set 3 (.call ti [⇑0,↥7])) (fr s fl a2 .no .no .no .no .no)=!(.nx,fr s' fl a2 ‹w› .no .no .no .no):=by let(r,s',r1,r2,q):=eG U (n:=n+19) (k:=k+2) (g:=fr s fl a2 .no .no .no .no .no) (i:=0) (s:=s) (fl:=fl) (m:=7) rfl ⋯;apply#[r,s',#[r1,r2],?_];have q':bF (rn (n+39)) cK (k+2) [.var 0,‹7›] [St s fl,‹6›,a2,.no,.no,.no,.no,.no]=!(‹r›,[St s' fl,‹6›,a2,.no,.no,.no,.no,.no]):=q;delta fr;simp! [U,hT,q']
include hT hP in
def w3(s:Int)(fl:Bool)(m:Nat)(hm:1<=m/\m<=6)(w:Int)(hw:0<=w/\w<7):∃(sub: ~~~5) (s':Int),sub.Sublist (prs m)/\aH (rn (n+60)) [0] (k+3) (.set 4 (.comp 8 2 (.nm 9) (.call pi [⇑2]) (QD ti) ⇑9)) (fr s fl ‹m› ‹w› .no .no .no .no)=!(.nx,fr s' fl ‹m› ‹w› (.own (sub.map ∅)) .no .no .no):=by
 have q28:=λn k=>qx U (n:=n) (k:=k) m hm
 let(_,_,aN):=qw hm;obtain⟨v,hv⟩:∃v:Int,L2.d9 [D.int 2,.int 4,.int 6] (w % 3)=!(.int v):=by
  have:w % 3=0\/w % 3=1\/w % 3=2:=by lia
  rcases this with e |e |e <;> rw[e] <;> show#[_,rfl]
 let(sub,s',h1,h2):=Sv (rn:=rn (n+59)) (bor:=[0]) (k:=k+3) (kk:=2) (nn:=8) (j:=9) (it:=.call pi [⇑2]) (c:=QD ti) (s:=s) (g:=fr s fl ‹m› ‹w› .no .no .no .no) (prs m) ∅ (λs=>fr s fl ‹m› ‹w› .no .no .no .no) (λ_=>rfl) ⋯ ⋯ (by delta fr;simp! [U,d8,hP,aL (fx:=fC) rfl,q28]) ⋯ (au _ ⋯) (λa _ s mm acc h1 h2=>by
   let(r,s',r1,r2,q):=eG U (n:=n+37) (k:=k+2) (g:=gM (fr s fl ‹m› ‹w› .no .no .no .no) mm acc) (i:=0) (s:=s) (fl:=fl) (m:=8) rfl ⋯;have q':bF (rn (n+57)) cK (k+2) [.var 0,‹8›] (gM (fr s fl ‹m› ‹w› .no .no .no .no) mm acc)=!(‹r›,gM (fr s' fl ‹m› ‹w› .no .no .no .no) mm acc):=q;have g0:∀s,(gM (fr s fl ‹m› ‹w› .no .no .no .no) mm acc)[0]?=!(St s fl):=λ_=>rfl
   have g3:∀s,(gM (fr s fl ‹m› ‹w› .no .no .no .no) mm acc)[3]?=!‹w›:=λ_=>rfl
   apply#[decide (r<v),s',?_];simp! [U,QD,qE,hT,g0,g3,q',nR w 3 ⋯,hv,au 3 ⋯]) (λa _ s mm acc h1 h2=>sl9 U (n:=n+58) (nn:=8) rfl ⋯ h2)
 apply#[sub,s',h1,?_];simp only[aH,U.e,bh,h2];simp[fr]
end
abbrev XR(l: ~~~5)(x: ~~~0):Bool:=(l.map ∅).any λd=>cL d (~~~x)
def Kp(l: ~~~5)(x: ~~~0):d7 .In (~~~x) (.lst (l.map ∅))=!(XR l x):=by
 have h:jl (~~~x) (l.map ∅)=true:=by have:=lR l;simp only[jl,fF,dH,lQ];lia
 simp only[d7,cJ,h];rfl
def XS(a b:Bool):d7 .NotEq (.bl a) (.bl b)=!((not (a==b))):=rfl
def Bt(a b:Int):nM .sorted [.lst [.int a,.int b]]=!(.new ((cU [a,b]).map .int)):=wW [a,b] ⋯
section
variable{ti pi mi:Nat}(U:jm fns rn)(hT:fns[ti]?=!cK)(hP:fns[pi]?=!fC)(hM:fns[mi]?=!(nq ti))
include U
include hT hM in
def w4(s:Int)(fl:Bool)(m:Nat)(hm:1<=m/\m<=6)(a3 a4:Slot):∃(row: ~~~0) (s':Int),row.length=m/\aH (rn (n+60)) [0] (k+3) (.set 5 (.call mi [⇑0,(.iP ⇑2)])) (fr s fl ‹m› a3 a4 .no .no .no)=!(.nx,fr s' fl ‹m› a3 a4 (.own (row.map .int)) .no .no):=by
 have hr:bT 0 m=(nums m).map .int:=fy m;have hl:=gI m;let(row,s',wZ,q):=Kc U hT (n:=n+9) (k:=k+1) (g:=fr s fl ‹m› a3 a4 .no .no .no) (i:=0) (s:=s) (fl:=fl) (nums m) rfl ⋯;have q':bF (rn (n+59)) (nq ti) (k+2) [.var 0,.dat (.lst ((nums m).map .int))] [St s fl,‹6›,‹m›,a3,a4,.no,.no,.no]=!(.new (row.map .int),[St s' fl,‹6›,‹m›,a3,a4,.no,.no,.no]):=q;apply#[row,s',by rw[wZ.length_eq,hl],?_]
 delta fr;simp! [U,hM,q',aI m ⋯,au m ⋯,hr]
def w5(s:Int)(fl:Bool)(m:Nat)(hm:1<=m/\m<=6)(w:Int)(hw:3<=w/\w<7)(row: ~~~0)(wZ:row.length=m)(a6 a7:Slot):∃(ak: ~~~5) (a6':Slot),ak.length<=m/\aH (rn (n+60)) [0] (k+3) (.loop (.nm 6) (.gG ↥1 ⇑2) QF) (fr s fl ‹m› ‹w› (.own []) (.own (row.map .int)) a6 a7)=!(.nx,fr s fl ‹m› ‹w› (.own (ak.map ∅)) (.own (row.map .int)) a6' a7):=by
 have loop:=b9 (T:=.nm 6) (b:=(rn (n+60)).b [0] (k+3) QF) (λ(j:Nat)=>D.int (1+(j:Int)))
  (I:=λl g=>∃(j:Nat) (ak: ~~~5) (s6:Slot),j<m/\l=List.range' j (m - 1 - j)/\ak.length<=j/\g=fr s fl ‹m› ‹w› (.own (ak.map ∅)) (.own (row.map .int)) s6 a7)
  (step:=λa l g h=>by
   let(j,ak,s6,h0,h1,h2,rfl):=h;have YS:j<m - 1:=by
    rcases u4 j (m - 1)with h |h
    . show h
    . rw[A5 h]at h1;cases h1
   have hc:List.range' j (m - 1 - j)=j::List.range' (j+1) (m - 1 - (j+1)):=by rw[show m - 1 - j=(m - 1 - (j+1))+1 by lia,AX]
   rw[hc]at h1;injection h1 with e1 e2;subst e1 e2;obtain⟨z,hz⟩:∃z:Int,z=1+(a:Int):=#[_,rfl];rw[<- hz];obtain⟨v,hv,h3⟩:∃v:Int,(0<=v/\v<m)/\L2.d9 [D.int (z - 1),.int (z - 1),.int 0,.int (z / 2)] (w - 3)=!(.int v):=by
    have:w=3\/w=4\/w=5\/w=6:=by lia
    rcases this with rfl |rfl |rfl |rfl
    . show#[z - 1,by lia,rfl]
    . show#[z - 1,by lia,rfl]
    . show#[0,by lia,rfl]
    . show#[z / 2,by lia,rfl]
   have a1:L2.d9 (row.map D.int) z=!(.int (gt row z)):=g7 ⋯;have a2:L2.d9 (row.map D.int) v=!(.int (gt row v)):=g7 ⋯;have z2:=fN (xL _) (au (ak.length+1) ⋯);apply#[fr s fl ‹m› ‹w› (.own (ak.map ∅)) (.own (row.map .int)) ‹z› a7,fr s fl ‹m› ‹w› (.own ((ak++[cU [gt row z,gt row v]]).map ∅)) (.own (row.map .int)) ‹z› a7,rfl,?_,a+1,_,_,by lia,rfl,by rw[dS,t9];lia,rfl]
   delta fr QF;simp! [U,a1,a2,h3,Bs _ _ (show (0:Int)<2/\(2:Int)<1073741824 by decide),Bt,z2,au 4 ⋯,au 2 ⋯]
   rfl)
 let(g',(j,ak,s6,h0,h1,h2,rfl),h3):=loop (List.range' 0 (m - 1)) (fr s fl ‹m› ‹w› (.own []) (.own (row.map .int)) a6 a7) #[0,[],a6,by lia,rfl,by simp,rfl]
 have hr:bT 1 (m - 1)=(List.range' 0 (m - 1)).map λ(x:Nat)=>D.int (1+(x:Int)):=by delta bT;rw[v3]
 apply#[ak,s6,by lia,?_]
 have e:((m:Int) - 1).toNat=m - 1:=by lia
 delta fr at h3 ⊢
 simp! [U,Tg.ix,d8,aI 1 ⋯,aI m ⋯,hr,h3]
def w6(s:Int)(fl:Bool)(m:Nat)(hm:1<=m/\m<=6)(w:Int)(row: ~~~0)(wZ:row.length=m)(ak: ~~~5)(ht:ak.length<=m)(a6 a7:Slot):∃(aC: ~~~5),aH (rn (n+60)) [0] (k+3) Ko (fr s fl ‹m› ‹w› (.own (ak.map ∅)) (.own (row.map .int)) a6 a7)=!(.nx,fr s fl ‹m› ‹w› (.own (aC.map ∅)) (.own (row.map .int)) a6 a7):=by
 by_cases h4:w=4
 .
  by_cases h5:(m:Int) > 2
  . have a1:L2.d9 (row.map D.int) 0=!(.int (gt row 0)):=g7 ⋯;have a2:L2.d9 (row.map D.int) ((m:Int) - 1)=!(.int (gt row ((m:Int) - 1))):=g7 ⋯;have z2:=fN (xL _) (au (ak.length+1) ⋯);have h6:=h5;apply#[ak++[cU [gt row 0,gt row ((m:Int) - 1)]],?_];delta fr Ko;subst h4;simp! [U,a1,a2,h6,Bt,z2,au 2 ⋯];rfl
  . have h6:=h5;apply#[ak,?_];delta fr Ko;subst h4;simp! [U,h6]
 . apply#[ak,?_];delta fr Ko;simp! [U,h4]
include hT hP in
def w7(s:Int)(fl:Bool)(m:Nat)(hm:1<=m/\m<=6)(a3 a4 a5 a6:Slot):∃(sub: ~~~5) (s':Int),aH (rn (n+60)) [0] (k+3) (.set 7 (.comp 8 2 (.nm 9) (.call pi [⇑2]) (QG ti) ⇑9)) (fr s fl ‹m› a3 a4 a5 a6 .no)=!(.nx,fr s' fl ‹m› a3 a4 a5 a6 (.own (sub.map ∅))):=by
 have q28:=λn k=>qx U (n:=n) (k:=k) m hm
 let(_,_,aN):=qw hm;let(sub,s',h1,h2):=Sv (rn:=rn (n+59)) (bor:=[0]) (k:=k+3) (kk:=2) (nn:=8) (j:=9) (it:=.call pi [⇑2]) (c:=QG ti) (s:=s) (g:=fr s fl ‹m› a3 a4 a5 a6 .no) (prs m) ∅ (λs=>fr s fl ‹m› a3 a4 a5 a6 .no) (λ_=>rfl) ⋯ ⋯ (by delta fr;simp! [U,d8,hP,aL (fx:=fC) rfl,q28]) ⋯ (au _ ⋯) (λa _ s mm acc h1 h2=>by
   let(r,s',r1,r2,q):=eG U (n:=n+37) (k:=k+2) (g:=gM (fr s fl ‹m› a3 a4 a5 a6 .no) mm acc) (i:=0) (s:=s) (fl:=fl) (m:=12) rfl ⋯;have q':bF (rn (n+57)) cK (k+2) [.var 0,‹12›] (gM (fr s fl ‹m› a3 a4 a5 a6 .no) mm acc)=!(‹r›,gM (fr s' fl ‹m› a3 a4 a5 a6 .no) mm acc):=q;have g0:∀s,(gM (fr s fl ‹m› a3 a4 a5 a6 .no) mm acc)[0]?=!(St s fl):=λ_=>rfl
   apply#[decide (r=0),s',?_];simp! [U,QG,qE,hT,g0,q']) (λa _ s mm acc h1 h2=>sl9 U (n:=n+58) (nn:=8) rfl ⋯ h2)
 apply#[sub,s',?_];simp only[aH,U.e,bh,h2];simp[fr]
include hP in
def w8(s:Int)(fl:Bool)(m:Nat)(hm:1<=m/\m<=6)(ak odd: ~~~5)(a3 a5 a6:Slot):∃(sub: ~~~5),sub.Sublist (prs m)/\aH (rn (n+60)) [0] (k+3) (.set 4 (.comp 8 2 (.nm 9) (.call pi [⇑2]) QH ⇑9)) (fr s fl ‹m› a3 (.own (ak.map ∅)) a5 a6 (.own (odd.map ∅)))=!(.nx,fr s fl ‹m› a3 (.own (sub.map ∅)) a5 a6 (.own (odd.map ∅))):=by
 have q28:=λn k=>qx U (n:=n) (k:=k) m hm
 let(_,_,aN):=qw hm;have w:=Sl (rn:=rn (n+59)) (bor:=[0]) (k:=k+3) (g:=fr s fl ‹m› a3 (.own (ak.map ∅)) a5 a6 (.own (odd.map ∅))) (g1:=fr s fl ‹m› a3 (.own (ak.map ∅)) a5 a6 (.own (odd.map ∅))) (kk:=2) (nn:=8) (j:=9) (it:=.call pi [⇑2]) (c:=QH) (e:=.slot 9) (prs m) ∅ (λx=>(not (XR ak x==XR odd x))) ∅ (by delta fr;simp! [U,d8,hP,aL (fx:=fC) rfl,q28]) rfl (by simp[fr]) (by simp[fr]) ⋯ (au _ ⋯)
  (λa _ G' hG=>by
   have h4:G'[4]?=!(.own (ak.map ∅)):=hG.1 4 (by simp[fr])
   have h7:G'[7]?=!(.own (odd.map ∅)):=hG.1 7 (by simp[fr])
   simp! [U,QH,qE,hG.2,h4,h7,Kp,XS])
  (λa _ _ G' hG=>by simp! [U,hG.2])
 apply#[(prs m).filter λx=>(not (XR ak x==XR odd x)),List.filter_sublist,?_]
 simp only[aH,U.e,bh,w];simp[fr]
end
section
variable{ti pi mi:Nat}(U:jm fns rn)(hT:fns[ti]?=!cK)(hP:fns[pi]?=!fC)(hM:fns[mi]?=!(nq ti))
include U
include hT hP in
def w9(s:Int)(fl:Bool)(m:Nat)(hm:1<=m/\m<=6)(w:Int)(hw:0<=w/\w<7)(row: ~~~0)(wZ:row.length=m)(uD: ~~~5)(hs:uD.Sublist (prs m)):∃(sub: ~~~5) (s':Int) (a6 a7:Slot),sub.Sublist (prs m)/\aH (rn (n+62)) [0] (k+3) (QJ ti pi) (fr s fl ‹m› ‹w› (.own (uD.map ∅)) (.own (row.map .int)) .no .no)=!(.nx,fr s' fl ‹m› ‹w› (.own (sub.map ∅)) (.own (row.map .int)) a6 a7):=by
 by_cases hw2:w > 2
 .
  let(t1,a6,h1,q1):=w5 U (n:=n+1) (k:=k) s fl m hm w ⋯ row wZ .no .no;let(t2,q2):=w6 U (n:=n+1) (k:=k) s fl m hm w row wZ t1 h1 a6 .no;let(odd,s',q3):=w7 U hT hP (n:=n+1) (k:=k) s fl m hm ‹w› (.own (t2.map ∅)) (.own (row.map .int)) a6
  let(sub,h4,q4):=w8 U hP (n:=n+1) (k:=k) s' fl m hm t2 odd ‹w› (.own (row.map .int)) a6;apply#[sub,s',a6,.own (odd.map ∅),h4,?_]
  have ht:(rn (n+62)).t [0] (k+3) (.cmp .Gt ⇑3 ↥2) (fr s fl ‹m› ‹w› (.own (uD.map ∅)) (.own (row.map .int)) .no .no)=!(true,fr s fl ‹m› ‹w› (.own (uD.map ∅)) (.own (row.map .int)) .no .no):=by delta fr;simp! [U,hw2]
  have q0:aH (rn (n+61)) [0] (k+3) (.set 4 (.lst [])) (fr s fl ‹m› ‹w› (.own (uD.map ∅)) (.own (row.map .int)) .no .no)=!(.nx,fr s fl ‹m› ‹w› (.own []) (.own (row.map .int)) .no .no):=by delta fr;simp! [U,U.e]
  delta QJ;rw[aH];rw[ht];dsimp only;rw[U.b];rw[aG q0,aG q1,aG q2,aG q3,aG q4];rfl
 . apply#[uD,s,.no,.no,hs,?_];delta fr QJ;simp! [U,hw2]
include hT hP hM in
def XT(hi:g[i]?=!(St s fl)):∃(m:Nat) (ak: ~~~5) (s':Int),(1<=m/\m<=6)/\Wb m ak/\bF (rn (n+80)) (zB ti pi mi) (k+3) [.var i,‹6›] g=!(.dat (W m ak),g.set i (St s' fl)):=by
 let(m,s1,hm,q1):=w1 U hT (n:=n+39) (k:=k) s fl;let(w,s2,hw,q2):=w2 U hT (n:=n+39) (k:=k) s1 fl ‹m›;let(uD,s3,h3,q3):=w3 U hT hP (n:=n+19) (k:=k) s2 fl m hm w hw;let(row,s4,h4,q4):=w4 U hT hM (n:=n+19) (k:=k) s3 fl m hm ‹w› (.own (uD.map ∅))
 let(sub,s5,a6,a7,h5,q5):=w9 U hT hP (n:=n+17) (k:=k) s4 fl m hm w hw row h4 uD h3;let(p1,p2,p3):=qw hm;have hso:=iT sub (λx hx=>by let(a,b,rfl,_):=p1 x (h5.subset hx);show List.cons_ne_nil _ _) (yY (kS h5.length_le p3) ⋯)
 apply#[m,bf gU sub,s5,hm,Wb.XQ hm h5,?_];have hp:fG (zB ti pi mi).n [St s fl,‹6›]=fr s fl .no .no .no .no .no .no:=rfl;have body:(rn (n+80)).b [0] (k+3) (zB ti pi mi).body (fr s fl .no .no .no .no .no .no)=!(.rt (.dat (W m (bf gU sub))),fr s5 fl ‹m› ‹w› (.own (sub.map ∅)) (.own (row.map .int)) a6 a7):=by delta zB;rw[U.b,aG q1,aG q2,aG q3,aG q4,aG q5];delta fr;simp! [U,hso,au 2 ⋯];rfl
 delta bF;simp only[vars,dg,hi,List.map_cons,List.map_nil];rw[fR #[rfl,by simp],hp,body]
 rfl
end
def QL{l:List D}{r:Int}(h:0<=r/\r<l.length):∃x∈l,L2.d9 l r=!x:=by
 obtain⟨j,rfl⟩:∃j:Nat,r=j:=#[r.toNat,by lia]
 have hj:j<l.length:=by lia
 show#[l[j],tP hj,gZ l j hj]
abbrev fQ(i ci:Nat):Fx:=#[3,3,[(.ite (.not (.call i [⇑0,⇑1,⇑2])) [.stuck] [])]]
abbrev cg(mw w:Nat):Fx:=#[2,2,[(.expr (.call mw [⇑0,↥1,↥6])),(.ite (.or [(.not (.Lq ⇑1 "tuple")),(.not (.blt .all [(.comp 2 2 (.nm 3) ⇑1 none (.call w [⇑3]))]))]) [(.ret (.val (.bl false)))] []),(.ret (.cmp .Eq (.blt .sorted [⇑1]) (.iP ⇑0)))]]
abbrev bQ(it ci:Nat):Fx:=#[2,2,[(.ite (.not (.call it [⇑0,⇑1])) [.stuck] [])]]
section
variable{k n:Nat}{g g1:G}{rn:Nat->Rn}{fns:List Fx}{w wi mw it ci cj:Nat}(U:jm fns rn)
include U
variable(hW:fns[w]?=!bA)
include hW
variable(hI:fns[wi]?=!(aU w))
include hI
def Bu(d:D)(lo hi:Int)(h:Ke lo hi d=true):bW (rn (n+24)) (k+2) (fQ wi ci) [d,.int lo,.int hi]=!(.dat .non):=by delta bW fQ;simp! [U,hI,cM (fx:=aU w) rfl,jh U hW,h]
def Sw(d:D)(lo hi:Int)(h:Ke lo hi d=true):Qw (rn (n+24)) (k+2) (fQ wi ci) [d,.int lo,.int hi]=none:=by delta Qw fQ;simp! [U,hI,cM (fx:=aU w) rfl,jh U hW,h]
end
section
variable{k n:Nat}{g g1:G}{rn:Nat->Rn}{fns:List Fx}{w wi mw it ci cj:Nat}(U:jm fns rn)(hW:fns[w]?=!bA)
include U hW
def XX(l:List D)(h:l.length<=lim):gH (rn (n+12)) [] (k+1) 2 2 (.nm 3) ⇑1 none (.call w [.slot 3]) [.dat d0,.dat (.tup l)]=!((l.map isInt).map .bl,[.dat d0,.dat (.tup l)]):=by
 rw[List.map_map];have:=mQ (rn:=rn (n+12)) (bor:=[]) (k:=k+1) (g:=[.dat d0,.dat (.tup l)]) (g1:=[.dat d0,.dat (.tup l)]) (kk:=2) (nn:=2) (j:=3) (it:=.slot 1) (e:=.call w [.slot 3]) l id (λx=>.bl (isInt x)) (by simp! [U,d8]) rfl ⋯ ⋯ ⋯ h λa _ G' hG=>by
  have h2:=hG.2;simp only[id]at h2;simp! [U,h2,hW,aL (fx:=bA) rfl,iU U]
 show this
omit U hW in
def Et(l:List D):(l.map isInt).all id=l.all isInt:=by simp[List.all_map]
omit U hW in
def sC(m:Nat)(t: ~~~0):QB m (~~~t)=decide (cU t=nums m):=by
 exact (match bI (t.map .int)with |some t=>decide (cU t=nums m) |none=>false)=_
 rw[ints_map]
omit U hW in
def QM(m:Nat)(h:l.all isInt=false):QB m (.tup l)=false:=by
 exact (match bI l with |some t=>decide (cU t=nums m) |none=>false)=_
 rw[xg h]
variable(hI:fns[wi]?=!(aU w))(hM:fns[mw]?=!(fQ wi ci))
include hI hM
def Kq(m:Nat)(hm:1<=m/\m<=6)(d:D)(hd:qM (xU d) "tuple"=false):bW (rn (n+40)) (k+4) (cg mw w) [.int m,d]=!(.dat (.bl false))/\Qw (rn (n+40)) (k+4) (cg mw w) [.int m,d]=none:=by
 have hi:Ke 1 6 (.int m)=true:=by exact decide ((1:Int)<=m/\(m:Int)<=6)=true;rw[gN];lia
 have mu:=λn k=>Bu U hW hI (n:=n) (k:=k) (ci:=ci) (.int m) 1 6 hi
 have mx:=λn k=>Sw U hW hI (n:=n) (k:=k) (ci:=ci) (.int m) 1 6 hi
 delta bW Qw cg;constructor
 . simp! [U,hM,cM (fx:=fQ wi ci) rfl,mu,hd]
 . simp! [U,hM,cM (fx:=fQ wi ci) rfl,mu,mx,hd]
def sD(m:Nat)(hm:1<=m/\m<=6)(d:D)(hd:Fair d):bW (rn (n+40)) (k+4) (cg mw w) [.int m,d]=!(.dat (.bl (QB m d)))/\Qw (rn (n+40)) (k+4) (cg mw w) [.int m,d]=none:=by
 have hi:Ke 1 6 (.int m)=true:=by exact decide ((1:Int)<=m/\(m:Int)<=6)=true;rw[gN];lia
 have mu:=λn k=>Bu U hW hI (n:=n) (k:=k) (ci:=ci) (.int m) 1 6 hi
 have mx:=λn k=>Sw U hW hI (n:=n) (k:=k) (ci:=ci) (.int m) 1 6 hi
 cases d with
 |tup l=>
  let(h1,h2):=hd;have o:=λn k=>XX U hW (n:=n) (k:=k) (d0:=.int m) l (au _ ⋯)
  have ha:=Et l;cases e:l.all isInt with
  |true=>
   rw[e]at ha;let(t,rfl):=sf e;have hl:t.length<64:=by have:=eA (as:=t) D.int;lia
   have hr:bT 0 m=(nums m).map .int:=fy m;rw[sC];delta bW Qw cg;constructor
   . simp! [U,hM,cM (fx:=fQ wi ci) rfl,mu,o,qp,ha,mR t hl,aI m ⋯,au m ⋯,hr]
   . simp! [U,hM,cM (fx:=fQ wi ci) rfl,mu,mx,o,qp,ha,mR t hl,aI m ⋯,au m ⋯,hr]
  |false=>
   rw[e]at ha;rw[QM m e];delta bW Qw cg;constructor
   . simp! [U,hM,cM (fx:=fQ wi ci) rfl,mu,o,qp,ha]
   . simp! [U,hM,cM (fx:=fQ wi ci) rfl,mu,mx,o,qp,ha]
 |_=>show Kq U hW hI hM m hm _ rfl
variable(hT:fns[it]?=!(cg mw w))
include hT
end
abbrev Pl(x:D):Prop:=fF x=true/\dep x<=5
def Pl.int(i:Int):Pl (.int i):=#[rfl,oP _]
def Pl.ints{t: ~~~0}{x:D}(h:x∈t.map D.int):Pl x:=by let(i,_,rfl):=eQ.mp h;show .int i
abbrev kup:Nat->Nat->Nat->List (~~~0)
 | 0,_,_=>[]
 |f+1,left,most=>if left=0 then [[]]else (List.range (min left most)).flatMap λ(i:Nat)=>(kup f (left - (i+1)) (i+1)).map ((((i+1:Nat):Int)) :: ·)
abbrev kinds(m:Nat): ~~~5:=kup (m+1) m m
abbrev iA:Nat->Int
 | 0=>1
 |n+1=>iA n * ((n+1:Nat):Int)
abbrev zC(i j:Int): ~~~0:=if i<j then [i,j]else [j,i]
def iV{i j:Int}(h:i≠j):zC i j=zC j i:=by delta zC;split <;> split <;> first |rfl |lia
def Kr(t: ~~~0)(a b:Int):tm t [a,b]=zC (gt t a) (gt t b):=cW t a b
def jG{i j:Int}(h:i<j):zC i j=[i,j]:=fR h
def XZ{m:Nat}{i j:Int}(hi:0<=i/\i<m)(hj:0<=j/\j<m)(h:i≠j):Pr m (zC i j):=by
 delta zC;split
 . show#[_,_,rfl,by lia,by lia,by lia]
 . show#[_,_,rfl,by lia,by lia,by lia]
def Bv{m:Nat}{t: ~~~0}(ht:Tn m t){i j:Int}(hi:0<=i/\i<m)(hj:0<=j/\j<m)(h:i≠j):tm t (zC i j)=zC (gt t i) (gt t j):=by
 by_cases hl:i<j
 . rw[jG hl,Kr]
 . rw[iV h,jG (show j<i by lia),Kr,iV λe=>h (ht.inj hj hi e).symm]
abbrev Jj(i:Int)(x: ~~~0):Option Int:=if gt x 0=i then some (gt x 1)else if gt x 1=i then some (gt x 0)else none
abbrev nb(i:Int)(ak: ~~~5): ~~~0:=ak.filterMap (Jj i)
abbrev has(i:Int)(x: ~~~0):Bool:=decide (gt x 0=i)||decide (gt x 1=i)
def Ks(i:Int)(ak: ~~~5):(nb i ak).length=ak.countP (has i):=by
 induction ak with
 |nil=>rfl
 |cons x l ih=>
  delta nb at ih ⊢
  by_cases h1:gt x 0=i
  . simp[Jj,has,h1,ih]
  .
   by_cases h2:gt x 1=i
   . simp[Jj,has,h1,h2,ih]
   . simp[Jj,has,h1,h2,ih]
def uE{m:Nat}{ak: ~~~5}(h:Wb m ak)(i y:Int):y∈nb i ak ↔ zC i y∈ak:=by
 delta nb;rw[CU];constructor
 .
  rintro⟨x,hx,e⟩;let(a,b,rfl,h1,h2,h3):=h.tie x hx;delta Jj at e;rw[(bC a b).1,(bC a b).2]at e;split at e
  . ext q;cases e;subst q;rw[jG h2];show hx
  .
   split at e
   . ext q;cases e;subst q;rw[iV ⋯,jG h2];show hx
   . cases e
 .
  intro hx;apply#[_,hx,?_];delta zC at hx ⊢
  delta Jj;split
  . rw[(bC i y).1,(bC i y).2,fR rfl]
  . ext q;rw[eR q]at hx;let(a,b,e,h1,h2,h3):=h.tie _ hx;injection e with e1 e2;injection e2 with e2 _;rw[(bC y i).1,(bC y i).2,eR ⋯,fR rfl]
abbrev QS(r h t: ~~~0):Bool:=decide (h.length=t.length)&&r.zipIdx.all λp=>decide ((p.2:Int)∈h)==decide (p.1∈t)
abbrev uF(ak aC: ~~~5)(r: ~~~0)(x:Int):Bool:=QS r (nb (r.length:Int) ak) (nb x aC)
abbrev good(ak aC: ~~~5)(t: ~~~0):Bool:=(List.range t.length).all λi=>uF ak aC (t.take i) (t.getD i 0)
def Eu(ak aC: ~~~5)(r: ~~~0)(x:Int):good ak aC (r++[x])=(good ak aC r&&uF ak aC r x):=by
 delta good;rw[dS,t9,List.range_succ,List.all_append]
 congr 1
 .
  rw[B9,nV,nV];apply forall_congr' λi=>forall_congr' λhi=>?_
  have hi:=o6.mp hi;rw[sK ⋯,bP,bP,b8 hi]
 . simp[bP]
abbrev ext(m:Nat)(l: ~~~5): ~~~5:=l.flatMap λr=>((nums m).filter λx=>(not (decide (x∈r)))).map λx=>r++[x]
abbrev bS(m:Nat):Nat->List (~~~0)
 | 0=>[[]]
 |s+1=>ext m (bS m s)
abbrev turnsOf(m:Nat): ~~~5:=bS m m
abbrev Ku(m:Nat)(ak aC: ~~~5)(l: ~~~5): ~~~5:=l.flatMap λr=>((nums m).filter λx=>(not (decide (x∈r)))&&uF ak aC r x).map λx=>r++[x]
def xu(m:Nat)(ak aC: ~~~5)(l: ~~~5):Ku m ak aC (l.filter (good ak aC))=(ext m l).filter (good ak aC):=by
 induction l with
 |nil=>rfl
 |cons r l ih=>
  delta Ku ext at ih ⊢
  rw[BE,List.filter_append,<- ih,CL];have e:(((nums m).filter λx=>(not (decide (x∈r)))).map λx=>r++[x]).filter (good ak aC)=if good ak aC r=true then ((nums m).filter λx=>(not (decide (x∈r)))&&uF ak aC r x).map λx=>r++[x]else []:=by
   rw[List.filter_map];have:(good ak aC ∘ λx=>r++[x])=λx=>good ak aC r&&uF ak aC r x:=funext λx=>Eu ak aC r x
   rw[this,List.filter_filter];split
   .
    ext h
    congr 1
    apply List.filter_congr λx _=>?_
    rw[h,Bool.true_and,Bool.and_comm]
   .
    ext h;have hf:good ak aC r=false:=by simpa using h
    rw[List.map_eq_nil_iff,List.filter_eq_nil_iff];intro x _;rw[hf];simp
  rw[e];split
  . rw[BE]
  . rfl
def iW(m:Nat):∀s,(bS m s).length<=m ^ s
 | 0=>d5 1
 |s+1=>by
  have ih:=iW m s;have:∀l:List (~~~0),(ext m l).length<=l.length * m:=λl=>by
   induction l with
   |nil=>simp[ext]
   |cons r l ih=>
    delta ext at ih ⊢
    rw[BE,dS,eA,mB];have:=A7 (λx=>(not (decide (x∈r)))) (nums m)
    rw[gI]at this;lia
  show kS (this _) (Nat.mul_le_mul_right m ih)
abbrev QT(m:Nat):Bool:=(turnsOf m).all (λt=>decide (cU t=nums m))&&decide ((turnsOf m).length<=720)
def okT1:QT 1=true:=by decide +kernel
def okT2:QT 2=true:=by decide +kernel
def okT3:QT 3=true:=by decide +kernel
def okT4:QT 4=true:=by decide +kernel
def okT5:QT 5=true:=by decide +kernel
def okT6:QT 6=true:=by decide +kernel
def aW(hm:1<=m/\m<=6):(∀t∈turnsOf m,Tn m t)/\(turnsOf m).length<=720:=by
 have k:QT m=true:=six (p:=λm=>QT m=true) hm okT1 okT2 okT3 okT4 okT5 okT6
 delta QT at k;simp only[eI,nV,gN]at k;show#[λt ht=>k.1 t ht,k.2]
def Kv{m:Nat}{ak aC: ~~~5}{t: ~~~0}(h:Wb m ak)(h':Wb m aC)(ht:Tn m t):good ak aC t=true ↔ tw t ak=aC:=by
 have hl:=ht.length;have g1:good ak aC t=true ↔ ∀i:Nat,i<m->((nb (i:Int) ak).length=(nb (gt t i) aC).length/\∀j:Nat,j<i->((j:Int)∈nb (i:Int) ak ↔ gt t j∈nb (gt t i) aC)):=by
  delta good uF QS;simp only[nV,o6,hl,eI,gN];apply forall_congr' λi=>forall_congr' λhi=>?_
  have e1:(t.take i).length=i:=by rw[i8];lia
  have e2:t.getD i 0=gt t i:=by simp[gt]
  rw[e1,e2];apply and_congr Iff.rfl #[λq j hj=>?_,λq p hp=>?_]
  .
   have hjl:j<t.length:=by lia
   have:=q (t[j],j) (by rw[List.mem_zipIdx_iff_getElem?];simp[hj])
   have e3:gt t j=t[j]:=by simp[gt,hjl]
   rw[e3];simpa using this
  .
   let(y,j):=p;rw[List.mem_zipIdx_iff_getElem?]at hp;rw[List.getElem?_take]at hp;split at hp
   .
    ext hj;have hjl:j<t.length:=by lia
    have e3:gt t j=t[j]:=by simp[gt,hjl]
    rw[eJ hjl]at hp;cases hp;have:=q j hj;rw[e3]at this;simpa using this
   . cases hp
 rw[g1];have hp:=bD (O:=gU) (ak.map (tm t));constructor
 .
  intro q;have key:∀i j:Int,(0<=i/\i<m)->(0<=j/\j<m)->i≠j->(zC i j∈ak ↔ zC (gt t i) (gt t j)∈aC):=λi j hi hj fE=>by
   have lt:∀i j:Int,(0<=i/\i<m)->(0<=j/\j<m)->j<i->(zC i j∈ak ↔ zC (gt t i) (gt t j)∈aC):=λi j hi hj hlt=>by
    have:=(q i.toNat ⋯).2 j.toNat ⋯;rw[Int.toNat_of_nonneg hi.1,Int.toNat_of_nonneg hj.1,uE h,uE h']at this;show this
   rcases Int.lt_or_gt_of_ne fE with hlt |hlt
   .
    rw[iV fE,iV λe=>fE (ht.inj hi hj e)]
    show lt j i hj hi hlt
   . show lt i j hi hj hlt
  apply (fc (List.Perm.symm ?_) (h'.tW.imp λ{x y} q=>o9.le_of_lt q)).symm
  apply (y4 (lP h.nodup λx hx y hy e=>zz ht (h.tie x hx) (h.tie y hy) e) h'.nodup).mpr λx=>?_
  rw[eQ];constructor
  .
   rintro⟨y,hy,rfl⟩;let(a,b,rfl,h1,h2,h3):=h.tie y hy;have:=(key a b ⋯ ⋯ ⋯).mp (by rw[jG h2];show hy)
   show this
  .
   intro hx;let(c,d,rfl,h1,h2,h3):=h'.tie x hx;have surj:∀c:Int,0<=c/\c<m->∃a:Int,(0<=a/\a<m)/\gt t a=c:=λc hc=>by
    let(j,hj,e):=mI (ht.mem.mpr hc);show#[j,by lia,by simp[gt,hj,e]]
   let(a,ha,rfl):=surj c ⋯;let(b,hb,rfl):=surj d ⋯;have fE:a≠b:=λe=>by rw[e]at h2;lia
   have:=(key a b ha hb fE).mpr (by rw[jG h2];show hx)
   show#[_,this,by rw[Bv ht ha hb fE,jG h2]]
 .
  rintro rfl i hi;have hi':0<=(i:Int)/\(i:Int)<m:=by lia
  constructor
  .
   rw[Ks,Ks];delta tw;rw[hp.countP_eq,List.countP_map];apply (List.countP_congr λx hx=>?_)
   let(a,b,rfl,h1,h2,h3):=h.tie x hx;have inj:∀j:Int,0<=j/\j<m->(gt t j=gt t i ↔ j=i):=λj hj=>#[λe=>ht.inj hj hi' e,λe=>by rw[e]]
   exact has i [a,b]=true ↔ has (gt t i) (tm t [a,b])=true;rw[cW];delta has;have ia:=inj a ⋯;have ib:=inj b ⋯;split
   . rw[(bC a b).1,(bC a b).2,(bC (gt t a) (gt t b)).1,(bC (gt t a) (gt t b)).2];simp[ia,ib]
   . rw[(bC a b).2,(bC (gt t b) (gt t a)).1,(bC (gt t b) (gt t a)).2];simp[ia,ib];show Or.comm
  .
   intro j hj;have hj':0<=(j:Int)/\(j:Int)<m:=by lia
   have fE:(i:Int)≠j:=by lia
   rw[uE h,uE h',<- Bv ht hi' hj' fE];delta tw;rw[hp.mem_iff,eQ];constructor
   . intro hx;show#[_,hx,rfl]
   . rintro⟨y,hy,e⟩;rw[<- zz ht (h.tie y hy) (XZ hi' hj' fE) e];show hy
section
def sE{α β:Type}(bz:α->D)(ys:α->List β)(bU:β->D)(p:α->β->Bool)(f:α->β->D)(hn:nn=g.length)(dU:last=g.length+kk)(h11:g.length<=j1)(h12:j1<g.length+kk)(h21:g.length<=j2)(h22:j2<g.length+kk)(fE:j1≠j2) :
  ∀(xs:List α) (m:G) (acc:List D),m.length=kk->acc.length+(xs.flatMap ys).length<=lim->
  (∀a∈xs,∀G',qm g j1 (bz a) G'->d8 rn bor k false it G'=!((ys a).map bU,G'))->
  (∀a∈xs,∀b∈ys a,∀G',iS g j1 j2 (bz a) (bU b) G'->qE rn bor k c G'=!(p a b,G'))->
  (∀a∈xs,∀b∈ys a,p a b=true->∀G',iS g j1 j2 (bz a) (bU b) G'->eN rn bor k e G'=!(f a b,G'))->
  ∃m',m'.length=kk/\wF rn bor k (.nm j1) none (.nm j2) it c e last (xs.map bz) (gM g m acc)=!(gM g m' (acc++xs.flatMap λa=>((ys a).filter (p a)).map (f a)))
 | [],m,acc,hm,_,_,_,_=>#[m,hm,by simp[wF]]
 |a::xs,m,acc,hm,hl,hw,hi,he=>by
  rw[BE,dS]at hl;have q1:(Tg.nm j1).set (bz a) (gM g m acc)=!(gM g (m.set (j1 - g.length) (.dat (bz a))) acc):=uA (kk:=kk) h11 ⋯;have hm1:(m.set (j1 - g.length) (.dat (bz a))).length=kk:=by simpa using hm
  have sees:∀(m:G) (acc:List D),m.length=kk->m[j1 - g.length]?=!(.dat (bz a))->qm g j1 (bz a) (gM g m acc):=λm acc hm hg=>by
   apply#[λi hi=>lN hi,?_]
   have:=dG (g:=g) (m:=m) (acc:=acc) (i:=j1 - g.length) ⋯;rw[show g.length+(j1 - g.length)=j1 by lia]at this
   rw[this,hg]
  have qC:(m.set (j1 - g.length) (.dat (bz a)))[j1 - g.length]?=!(.dat (bz a)):=by rw[i9 ⋯]
  have q2:=hw a dA _ (sees _ acc hm1 qC);have Sx:∀(b:β) (m:G) (acc:List D),(m.length=kk/\m[j1 - g.length]?=!(.dat (bz a)))->iS g j1 j2 (bz a) (bU b) (gM g (m.set (j2 - g.length) (.dat (bU b))) acc):=λb m acc hm=>by
   let(s1,s2):=sees (m.set (j2 - g.length) (.dat (bU b))) acc (by simpa using hm.1) (by rw[i5 ⋯];show hm.2)
   apply#[s1,s2,?_];have:=dG (g:=g) (m:=m.set (j2 - g.length) (.dat (bU b))) (acc:=acc) (i:=j2 - g.length) (by rw[AE];lia)
   rw[show g.length+(j2 - g.length)=j2 by lia]at this
   rw[this,i9 (by rw[hm.1];lia)]
  let(m2,w1,w2):=kF bU (f a) (p a) (λb m=>m.set (j2 - g.length) (.dat (bU b))) (λm=>m.length=kk/\m[j1 - g.length]?=!(.dat (bz a))) (λ_ h=>h.1) dU (λb m h=>#[by simpa using h.1,by rw[i5 ⋯];show h.2]) (ys a) (m.set (j1 - g.length) (.dat (bz a))) acc #[hm1,qC] ⋯
   (λb _ m acc h=>uA (kk:=kk) h21 (by have:=h.1;lia)) (λb hb m acc h=>hi a dA b hb _ (Sx b m acc h)) λb hb hp m acc h=>he a dA b hb hp _ (Sx b m acc h)
  have hf:=A7 (p a) (ys a);let(m3,v1,v2):=sE bz ys bU p f hn dU h11 h12 h21 h22 fE xs m2 (acc++((ys a).filter (p a)).map (f a)) w1.1 (by rw[dS,eA];lia) (λx hx=>hw x (b0 _ hx)) (λx hx=>hi x (b0 _ hx)) (λx hx=>he x (b0 _ hx))
  apply#[m3,v1,?_];rw[List.map_cons];delta wF;rw[q1];dsimp only[qE,Tg.jB];rw[q2];dsimp only;rw[w2];dsimp only;rw[v2,BE,fI]
def QV{α β:Type}(xs:List α)(bz:α->D)(ys:α->List β)(bU:β->D)(p:α->β->Bool)(f:α->β->D)(hw1:d8 rn bor k false nL g=!(xs.map bz,g1))(hn:nn=g1.length)(h11:g1.length<=j1)(h12:j1<g1.length+kk)(h21:g1.length<=j2)(h22:j2<g1.length+kk)(fE:j1≠j2)(hb1:j1∉bor)(hb2:j2∉bor)(hl:(xs.flatMap ys).length<=lim)
  (hw:∀a∈xs,∀G',qm g1 j1 (bz a) G'->d8 rn bor k false it G'=!((ys a).map bU,G'))
  (hi:∀a∈xs,∀b∈ys a,∀G',iS g1 j1 j2 (bz a) (bU b) G'->qE rn bor k c G'=!(p a b,G'))
  (he:∀a∈xs,∀b∈ys a,p a b=true->∀G',iS g1 j1 j2 (bz a) (bU b) G'->eN rn bor k e G'=!(f a b,G')) :
  jC rn bor k nn kk (.nm j1) nL none (.nm j2) it c e g=!(xs.flatMap λa=>((ys a).filter (p a)).map (f a),g1):=by
 subst hn;let(m',w1,w2):=sE bz ys bU p f rfl rfl h11 h12 h21 h22 fE xs (List.replicate kk .no) [] ⋯ (by simpa using hl) hw hi he
 delta jC;rw[show Tg.jB (.nm j1)=false from rfl,hw1]
 dsimp only;rw[fR #[rfl,by simp[Tg.ix,hb1,hb2]],J2,w2]
 dsimp only;have:∀acc,(gM g1 m' acc)[g1.length+kk]?=!(.own acc):=λacc=>by rw[<- w1];show kD
 rw[this];rw[uz,BB]
def xx{α β:Type}(ys:List β):∀xs:List α,(xs.flatMap λ_=>ys).length=xs.length * ys.length
 | []=>by simp
 |_::xs=>by rw[BE,dS,xx ys xs,mB,Nat.succ_mul,Nat.add_comm]
def Kw{α β:Type}(xs:List α)(bz:α->D)(ys:List β)(bU:β->D)(p:α->β->Bool)(f:α->β->D)(hw1:d8 rn bor k false nL g=!(xs.map bz,g1))(hn:nn=g1.length)(h11:g1.length<=j1)(h12:j1<g1.length+kk)(h21:g1.length<=j2)(h22:j2<g1.length+kk)(fE:j1≠j2)(hb1:j1∉bor)(hb2:j2∉bor)(hl:xs.length * ys.length<=lim)
  (hw:∀a∈xs,∀G',qm g1 j1 (bz a) G'->d8 rn bor k false it G'=!(ys.map bU,G'))
  (hi:∀a∈xs,∀b∈ys,∀G',iS g1 j1 j2 (bz a) (bU b) G'->qE rn bor k c G'=!(p a b,G'))
  (he:∀a∈xs,∀b∈ys,p a b=true->∀G',iS g1 j1 j2 (bz a) (bU b) G'->eN rn bor k e G'=!(f a b,G')) :
  jC rn bor k nn kk (.nm j1) nL none (.nm j2) it c e g=!(xs.flatMap λa=>(ys.filter (p a)).map (f a),g1):=QV xs bz (λ_=>ys) bU p f hw1 hn h11 h12 h21 h22 fE hb1 hb2 (by rw[xx];show hl) hw hi he
end
def qP(F:Nat->~~~0)(a:Nat)(v: ~~~0):((List.range m).map λi=>(F i).map D.int).set a (v.map .int)=(List.range m).map λi=>(if i=a then v else F i).map D.int:=by
 apply B0 ⋯ λi h1 h2=>?_
 rw[List.getElem_set];simp only[List.getElem_map,List.getElem_range];by_cases h:a=i
 . subst h;simp
 . rw[eR h,eR λe=>h e.symm]
def xA:∀(ak: ~~~5) (F:Nat->~~~0) (c:Nat),(∀x∈ak,Pr m x)->(∀i,(F i).length<=c)->c+ak.length<=900->
  iL (ak.map ∅) ((List.range m).map λi=>(F i).map D.int)=!((List.range m).map λi=>(F i++nb (i:Int) ak).map D.int)
 | [],F,c,_,_,_=>by simp[iL,nb]
 |x::ak,F,c,hx,hF,hc=>by
  let(a,b,rfl,h1,h2,h3):=hx x dA;obtain⟨a,rfl⟩:∃n:Nat,a=n:=#[a.toNat,by lia]
  obtain⟨b,rfl⟩:∃n:Nat,b=n:=#[b.toNat,by lia]
  rw[mB]at hc;have ga:((List.range m).map λi=>(F i).map D.int)[a]?=!((F a).map D.int):=by rw[mM,Ee ⋯];rfl
  have la:((F a).map D.int).length<1000:=by rw[eA];have:=hF a;lia
  have e1:(F a).map D.int++[.int b]=(F a++[(b:Int)]).map D.int:=by rw[AH];rfl
  have gb:((List.range m).map λi=>(if i=a then F a++[(b:Int)]else F i).map D.int)[b]?=!((F b).map D.int):=by rw[mM,Ee ⋯];simp only[AR];rw[eR ⋯]
  have lb:((F b).map D.int).length<1000:=by rw[eA];have:=hF b;lia
  have e2:(F b).map D.int++[.int a]=(F b++[(a:Int)]).map D.int:=by rw[AH];rfl
  have q:vM ((List.range m).map λi=>(F i).map D.int) (.tup [.int a,.int b])=!((List.range m).map λi=>(if i=b then F b++[(a:Int)]else if i=a then F a++[(b:Int)]else F i).map D.int):=by
   delta vM;dsimp only;rw[fR (show (0:Int)<=a/\(0:Int)<=b by lia)]
   simp only[At,ga,la,C1,e1,qP,gb,lb,e2]
  have ih:=xA ak (λi=>if i=b then F b++[(a:Int)]else if i=a then F a++[(b:Int)]else F i) (c+1) (λx hx'=>hx x (b0 _ hx')) (λi=>by
   have:=hF a;have:=hF b;have:=hF i;split
   . simp;lia
   .
    split
    . simp;lia
    .
     lia) ⋯
  have e3:List.map ∅ ([(a:Int),(b:Int)]::ak)=.tup [.int a,.int b]::ak.map λx=>~~~x:=rfl
  rw[e3];delta iL;rw[q];dsimp only;rw[ih]
  congr 1
  apply mN λi hi=>?_
  congr 1
  delta nb;rw[y7];delta Jj;rw[(bC (a:Int) b).1,(bC (a:Int) b).2];by_cases q1:i=a
  . subst q1;rw[eR ⋯];simp
  .
   by_cases q2:i=b
   . subst q2;rw[fR rfl,eR ⋯];simp
   . rw[eR q2,eR q1,eR ⋯,eR ⋯]
abbrev qy:Fx:=#[2,5,[(.rows 0 1 2 3 4)]]
abbrev qz:Fx:=#[3,3,[(.ite (.cmp .NotEq (.blt .len [⇑1]) (.blt .len [⇑2])) [(.ret (.val (.bl false)))] []),(.ret (.blt .all [(.comp 3 3 (.tp [4,5]) (.enum ⇑0) none (.cmp .Eq (.cmp .In ⇑4 ⇑1) (.cmp .In ⇑5 ⇑2)))]))]]
abbrev cX(ro fi:Nat):Fx:=#[2,7,[(.set 2 (.ix ⇑0 ↥0)),(.set 3 (.call ro [⇑2,(.ix ⇑0 ↥1)])),(.set 4 (.call ro [⇑2,(.ix ⇑1 ↥1)])),(.set 5 (.lst [(.tup [])])),(.loop (.nm 6) (.dc ⇑2) [(.setC 5 (.dX 7 3 (.nm 8) ⇑5 none (.nm 9) (.dc ⇑2) (!(.and [(.cmp .NotIn ⇑9 ⇑8),(.call fi [⇑8,(.ix ⇑3 ⇑6),(.ix ⇑4 ⇑9)])])) (.bin .Add ⇑8 (.tup [⇑9]))))]),(.ret ⇑5)]]
abbrev Rw(m:Nat)(ak: ~~~5):D:=.lst ((List.range m).map λ(i:Nat)=>.lst ((nb (i:Int) ak).map .int))
section
variable{ro fi:Nat}(U:jm fns rn)
include U
def Bw(m:Nat)(hm:m<=6)(ak: ~~~5)(h:Wb m ak):bW (rn (n+5)) k qy [.int m,.tup (ak.map ∅)]=!(.dat (Rw m ak)):=by
 have q:=xA ak (λ_=>[]) 0 h.tie (λ_=>d5 0) (by have:=h.len;lia)
 have e:(List.range m).map (λi=>List.map D.int ((λ_=>[]) i: ~~~0))=List.replicate m []:=by rw[List.eq_replicate_iff];simp
 rw[e]at q;have h0:(0:Int)<=m/\(m:Int)<=1000:=by lia
 delta bW qy;simp! [U,q,h0];delta Rw;simp
omit U in
def X3(x:Int)(l: ~~~0):d7 .In (.int x) (.lst (l.map .int))=!(decide (x∈l)):=by
 have h:jl (.int x) (l.map .int)=true:=by simp[jl,fF,dH,eS]
 simp only[d7,cJ,h,C1]
 congr 1
 rw[B9];simp[cL]
omit U in
def lT(x:Int)(l: ~~~0):d7 .NotIn (.int x) (~~~l)=!((not (decide (x∈l)))):=by
 have h:jl (.int x) (l.map .int)=true:=by simp[jl,fF,dH,eS]
 simp only[d7,cJ,h,C1]
 congr 2
 rw[B9];simp[cL]
omit U in
def X4(a b:Bool):d7 .Eq (.bl a) (.bl b)=!(a==b):=rfl
omit U in
def Ew:∀(l: ~~~0) ,mF (l.map .int)=l.zipIdx.map λp=>.tup [.int (p.2:Int),.int p.1]:=by intro l;delta mF;rw[List.zipIdx_map,List.map_map];rfl
def QW(r h t: ~~~0)(hr:r.length<=1000):bW (rn (n+20)) k qz [~~~r,.lst (h.map .int),.lst (t.map .int)]=!(.dat (.bl (QS r h t))):=by
 have w:=λn k=>J3 (rn:=rn (n+10)) (bor:=[]) (k:=k) (g:=[.dat (~~~r),.dat (.lst (h.map .int)),.dat (.lst (t.map .int))]) (g1:=[.dat (~~~r),.dat (.lst (h.map .int)),.dat (.lst (t.map .int))]) (kk:=3) (nn:=3) (j1:=4) (j2:=5) (it:=.enum ⇑0) (e:=.cmp .Eq (.cmp .In ⇑4 ⇑1) (.cmp .In ⇑5 ⇑2)) r.zipIdx (λp=>.int (p.2:Int)) (λp=>.int p.1) (λp=>.bl (decide ((p.2:Int)∈h)==decide (p.1∈t))) (by simp! [U,d8,cJ,Ew]) rfl ⋯ ⋯ ⋯ ⋯ ⋯ ⋯ ⋯ (au _ (by simpa using hr)) λp hp G' hG=>by
  have h1:=hG.1 1 ⋯;have h2:=hG.1 2 ⋯;simp! [U,hG.2.1,hG.2.2,h1,h2,X3,X4]
 have e1:r.zipIdx.map (λp=>D.bl (decide ((p.2:Int)∈h)==decide (p.1∈t)))=(r.zipIdx.map λp=>decide ((p.2:Int)∈h)==decide (p.1∈t)).map .bl:=by rw[List.map_map];rfl
 have e2:(r.zipIdx.map λp=>decide ((p.2:Int)∈h)==decide (p.1∈t)).all id=r.zipIdx.all λp=>decide ((p.2:Int)∈h)==decide (p.1∈t):=by rw[List.all_map];rfl
 delta bW qz QS;by_cases hl:h.length=t.length
 . simp! [U,w,e1,hl]
 .
  have hl' : ¬ (h.length:Int)=t.length:=by lia
  simp! [U,hl,hl']
variable(hR:fns[ro]?=!qy)(hF:fns[fi]?=!qz)
include hR hF
def up_ok(m s:Nat)(hm:m<=6)(hs:s<m)(ak aC: ~~~5)(l: ~~~5)(hl:l.length<=50000)(hr:∀r∈l,r.length=s)(d0 d1:D):aH (rn (n+40)) [] (k+1) (.setC 5 (.dX 7 3 (.nm 8) ⇑5 none (.nm 9) (.dc ⇑2) (!(.and [(.cmp .NotIn ⇑9 ⇑8),(.call fi [⇑8,(.ix ⇑3 ⇑6),(.ix ⇑4 ⇑9)])])) (.bin .Add ⇑8 (.tup [⇑9])))) [.dat d0,.dat d1,‹m›,.dat (Rw m ak),.dat (Rw m aC),.own (l.map λr=>~~~r),‹s›]=!(.nx,[.dat d0,.dat d1,‹m›,.dat (Rw m ak),.dat (Rw m aC),.own ((Ku m ak aC l).map λr=>~~~r),‹s›]):=by
 have hg:bT 0 m=(nums m).map .int:=fy m;have w:=Kw (rn:=rn (n+40)) (bor:=[]) (k:=k+1) (g:=[.dat d0,.dat d1,‹m›,.dat (Rw m ak),.dat (Rw m aC),.own (l.map λr=>~~~r),‹s›]) (g1:=[.dat d0,.dat d1,‹m›,.dat (Rw m ak),.dat (Rw m aC),.dat (.lst (l.map λr=>~~~r)),‹s›]) (nn:=7) (kk:=3) (j1:=8) (j2:=9) (nL:=.slot 5) (it:=.dc ⇑2) (c:=!(.and [(.cmp .NotIn ⇑9 ⇑8),(.call fi [⇑8,(.ix ⇑3 ⇑6),(.ix ⇑4 ⇑9)])])) (e:=.bin .Add ⇑8 (.tup [⇑9])) l (λr=>~~~r) (nums m) .int (λr x=>(not (decide (x∈r)))&&uF ak aC r x) (λr x=>~~~(r++[x])) (by simp! [U,d8]) rfl ⋯ ⋯ ⋯ ⋯ ⋯ ⋯ ⋯ (by
   rw[gI];have:=Nat.mul_le_mul hl hm;show kS this ⋯) (λr hr G' hG=>by
   have h2:=hG.1 2 ⋯;simp! [U,d8,h2,aI m ⋯,hg]) (λr hr' x hx G' hG=>by
   have h3:=hG.1 3 ⋯;have h4:=hG.1 4 ⋯;have h6:=hG.1 6 ⋯;have hx':=cV.mp hx;have i3:uM (Rw m ak) (.int s)=!(.lst ((nb (s:Int) ak).map .int)):=by
    exact L2.d9 _ _=_;rw[gZ _ _ (by simpa using hs)]
    simp
   have i4:uM (Rw m aC) (.int x)=!(.lst ((nb x aC).map .int)):=by
    obtain⟨x,rfl⟩:∃n:Nat,x=n:=#[x.toNat,by lia]
    exact L2.d9 _ _=_;rw[gZ _ _ (by simp;lia)]
    simp
   have f:=λn k=>QW U (n:=n) (k:=k) r (nb (s:Int) ak) (nb x aC) (by rw[hr r hr'];lia)
   delta uF;rw[hr r hr'];by_cases hin:x∈r
   . simp! [U,qE,hG.2.1,hG.2.2,lT,hin]
   .
    simp! [U,qE,hG.2.1,hG.2.2,h3,h4,h6,i3,i4,lT,hin,hF,cM (fx:=qz) rfl,f]) λr hr' x hx _ G' hG=>by
   have o:qD .Add (~~~r) (.tup [.int x])=!(.dat (~~~(r++[x]))):=by
    have hlr:(List.map D.int r).length+[D.int x].length<=lim:=au _ (by rw[eA,hr r hr'];simp;lia)
    simp only[qD,Jr,hlr,AH];rfl
   simp! [U,hG.2.1,hG.2.2,o,au 1 ⋯]
 have e:(l.flatMap λr=>((nums m).filter λx=>(not (decide (x∈r)))&&uF ak aC r x).map λx=>~~~(r++[x]))=(Ku m ak aC l).map λr=>~~~r:=by
  delta Ku;rw[List.map_flatMap]
  congr 1
  funext r
  rw[List.map_map];rfl
 rw[e]at w;simp only[aH,w];simp
def jH(m:Nat)(hm:1<=m/\m<=6)(ak aC: ~~~5)(h:Wb m ak)(h':Wb m aC):bW (rn (n+60)) (k+2) (cX ro fi) [W m ak,W m aC]=!(.new (((turnsOf m).filter (good ak aC)).map λr=>~~~r)):=by
 have len:∀s r,r∈bS m s->r.length=s:=λs=>by
  induction s with
  |zero=>intro r hr;cases eP.mp hr;rfl
  |succ s ih=>intro r hr;let(q,hq,hr):=List.mem_flatMap.mp hr;let(x,_,rfl):=eQ.mp hr;rw[dS,ih q hq];rfl
 have big:∀s,s<=m->(bS m s).length<=50000:=λs hs=>kS (iW m s) (kS (Nat.pow_le_pow_left hm.2 s) (kS (D4 ⋯ (show s<=6 by lia)) ⋯))
 have loop:=b9 (T:=.nm 6) (b:=(rn (n+59)).b [] (k+2) [(.setC 5 (.dX 7 3 (.nm 8) ⇑5 none (.nm 9) (.dc ⇑2) (!(.and [(.cmp .NotIn ⇑9 ⇑8),(.call fi [⇑8,(.ix ⇑3 ⇑6),(.ix ⇑4 ⇑9)])])) (.bin .Add ⇑8 (.tup [⇑9]))))]) (λ(j:Nat)=>D.int (j:Int))
  (I:=λl g=>∃(j:Nat) (s6:Slot),j<=m/\l=List.range' j (m - j)/\g=[.dat (W m ak),.dat (W m aC),‹m›,.dat (Rw m ak),.dat (Rw m aC),.own (((bS m j).filter (good ak aC)).map λr=>~~~r),s6])
  (step:=λa l g h=>by
   let(j,s6,h0,h1,rfl):=h;have YS:j<m:=by
    rcases u4 j m with h |h
    . show h
    . rw[A5 h]at h1;cases h1
   have hc:List.range' j (m - j)=j::List.range' (j+1) (m - (j+1)):=by rw[show m - j=(m - (j+1))+1 by lia,AX]
   rw[hc]at h1;injection h1 with e1 e2;subst e1 e2;have q:=up_ok U hR hF (n:=n+18) (k:=k+1) m a hm.2 YS ak aC ((bS m a).filter (good ak aC)) (kS (A7 _ _) (big a ⋯)) (λr hr=>len a r (pV.mp hr).1) (W m ak) (W m aC)
   rw[xu]at q;apply#[_,_,rfl,?_,a+1,‹a›,by lia,rfl,rfl]
   rw[U.b];show (aG q).trans rfl)
 let(g',(j,s6,h0,h1,rfl),h2):=loop (List.range' 0 m) [.dat (W m ak),.dat (W m aC),‹m›,.dat (Rw m ak),.dat (Rw m aC),.own [~~~[]],.no] #[0,.no,by lia,rfl,rfl]
 have hj:j=m:=by
  have:(List.range' j (m - j)).length=0:=by rw[<- h1];rfl
  rw[B7]at this;lia
 subst hj;have hr:bT 0 j=(List.range' 0 j).map λ(x:Nat)=>D.int (x:Int):=by delta bT;rw[v3];show mN λx _=>by rw[Int.zero_add]
 have i0:uM (W j ak) (.int 0)=!(.int j):=rfl;have i1:uM (W j ak) (.int 1)=!(.tup (ak.map ∅)):=rfl
 have i2:uM (W j aC) (.int 1)=!(.tup (aC.map ∅)):=rfl
 have r1:=λn k=>Bw U (n:=n) (k:=k) j hm.2 ak h
 have r2:=λn k=>Bw U (n:=n) (k:=k) j hm.2 aC h'
 have t0:D.tup [] = ~~~[]:=rfl;delta bW cX turnsOf;simp! [U,i0,i1,i2,hR,aR (fx:=qy) rfl,r1,r2,au 1 ⋯,d8,aI j ⋯,hr,t0,h2]
end
abbrev cn(m:Nat)(ak: ~~~5): ~~~0:=(List.range m).map λ(i:Nat)=>((nb (i:Int) ak).length:Int)
abbrev lU(mw tt:Nat):Fx:=#[2,3,[(.expr (.call mw [⇑0])),(.expr (.call mw [⇑1])),(.ite (.cmp .NotEq (.ix ⇑0 ↥0) (.ix ⇑1 ↥0)) [(.ret (.val .non))] []),(.set 2 (.call tt [⇑0,⇑1])),(.ret (.ite ⇑2 (.ix ⇑2 ↥0) (.val .non)))]]
abbrev Ky(mw tt:Nat):Fx:=#[1,1,[(.expr (.call mw [⇑0])),(.ret (.call tt [⇑0,⇑0]))]]
abbrev led(m:Nat)(ak: ~~~5)(m':Nat)(aC: ~~~5): ~~~5:=(turnsOf m).filter λt=>decide (m=m'/\tw t ak=aC)
abbrev hdD: ~~~5->D
 | []=>.non
 |t::_=>~~~t
def qA(hm:1<=m/\m<=6)(h:Wb m ak)(h':Wb m aC):(turnsOf m).filter (good ak aC)=led m ak m aC:=by
 apply List.filter_congr λt ht=>?_
 rw[B9,Kv h h' ((aW hm).1 t ht),gN];show#[λe=>#[rfl,e],λe=>e.2]
def QX(h:m≠m')(ak aC: ~~~5):led m ak m' aC=[]:=List.filter_eq_nil_iff.mpr λt _=>by simp[h]
section
variable{wh wi it ri iw ci mw ro fi tt:Nat}(U:jm fns rn)
include U
variable(hW:fns[wh]?=!bA)(hI:fns[wi]?=!(aU wh))(mL:fns[it]?=!(fz wi))(Ey:fns[ri]?=!qu)(uN:fns[iw]?=!(fB wi it ri))(Bx:fns[mw]?=!(bq iw ci))(hR:fns[ro]?=!qy)(hF:fns[fi]?=!qz)(hTT:fns[tt]?=!(cX ro fi))
include hW hI mL Ey uN Bx hR hF hTT
def Kz(m m':Nat)(hm:1<=m/\m<=6)(hm':1<=m'/\m'<=6)(ak aC: ~~~5)(h:Wb m ak)(h':Wb m' aC):bW (rn (n+90)) (k+8) (lU mw tt) [W m ak,W m' aC]=!(.dat (hdD (led m ak m' aC))):=by
 have q1:=λn k=>cP (ci:=ci) U hW hI mL Ey uN (n:=n) (k:=k) m ak hm h
 have q2:=λn k=>cP (ci:=ci) U hW hI mL Ey uN (n:=n) (k:=k) m' aC hm' h'
 have i0:∀m ak,uM (W m ak) (.int 0)=!(.int m):=λ_ _=>rfl
 delta bW lU;by_cases e:m=m'
 .
  subst e;have q3:=λn k=>jH U hR hF (n:=n) (k:=k) m hm ak aC h h'
  rw[qA hm h h']at q3;cases hl:led m ak m aC with
  |nil=>rw[hl]at q3;simp! [U,Bx,aL (fx:=bq iw ci) rfl,q1,q2,i0,hTT,aR (fx:=cX ro fi) rfl,q3];rfl
  |cons t l=>
   rw[hl]at q3;have a0:L2.d9 ((t::l).map λr=>~~~r) 0=!(~~~t):=by simp[L2.d9,L2.nF]
   simp! [U,Bx,aL (fx:=bq iw ci) rfl,q1,q2,i0,hTT,aR (fx:=cX ro fi) rfl,q3,a0];rfl
 .
  have e' : ¬ (m:Int)=m':=by lia
  rw[QX e];simp! [U,Bx,aL (fx:=bq iw ci) rfl,q1,q2,i0,e'];rfl
def X5(m:Nat)(hm:1<=m/\m<=6)(ak: ~~~5)(h:Wb m ak):bW (rn (n+90)) (k+8) (Ky mw tt) [W m ak]=!(.new ((led m ak m ak).map λr=>~~~r)):=by
 have q1:=λn k=>cP (ci:=ci) U hW hI mL Ey uN (n:=n) (k:=k) m ak hm h
 have q3:=λn k=>jH U hR hF (n:=n) (k:=k) m hm ak ak h h
 rw[qA hm h h]at q3;delta bW Ky;simp! [U,Bx,aL (fx:=bq iw ci) rfl,q1,hTT,aR (fx:=cX ro fi) rfl,q3]
end
def mV(m:Nat):∀(s:Nat) (r: ~~~0),r.length=s->r.Nodup->(∀x∈r,x∈nums m)->r∈bS m s
 | 0,r,h,_,_=>by
  rw[List.length_eq_zero_iff.mp h];show BS []
 |s+1,r,h,hn,hm=>by
  obtain⟨a,x,rfl⟩:∃a x,r=a++[x]:=#[r.dropLast,r.getLast (by rintro rfl;symm),(List.dropLast_concat_getLast _).symm]
  rw[dS,t9]at h;rw[yA]at hn;delta bS ext;rw[List.mem_flatMap];apply#[a,mV m s a ⋯ hn.1 λy hy=>hm y (l7 _ hy),?_]
  rw[eQ];apply#[x,pV.mpr #[hm x (gL _ (BS x)),?_],rfl];rw[AO,decide_eq_false_iff_not];show λhx=>hn.2.2 x hx x (BS x) rfl
def bK(h:Tn m t):t∈turnsOf m:=mV m m t h.length h.nodup λx hx=>cV.mpr (h.mem.mp hx)
abbrev KC:Fx:=#[1,3,[(.set 1 ↥1),(.loop (.nm 2) (.gG ↥1 (.bin .Add ⇑0 ↥1)) [(.aug 1 .Mult ⇑2)]),(.ret ⇑1)]]
section
variable{k n:Nat}{rn:Nat->Rn}{fns:List Fx}(U:jm fns rn)
include U
def X6(m:Nat)(hm:m<=9):bW (rn (n+20)) k KC [.int m]=!(.dat (.int (iA m))):=by
 let(g',(i,b2,hi,hl,rfl),w):=b9 (T:=.nm 2) (b:=(rn (n+19)).b [] k [(.aug 1 .Mult ⇑2)]) (λ(j:Nat)=>D.int (1+(j:Int)))
  (I:=λl g=>∃(i:Nat) (b2:Slot),i<=m/\l=List.range' i (m - i)/\g=[‹m›,.dat (.int (iA i)),b2])
  (step:=λa l g h=>by
   let(i,b2,hi,hl,rfl):=h;cases hmi:m - i with
   |zero=>rw[hmi]at hl;cases hl
   |succ q=>
    rw[hmi,AX]at hl;let(rfl,rfl):=D7 hl;have e:Pj .Mult (.int (iA a)) (.int (1+(a:Int)))=!(.int (iA (a+1))):=by
     have:uf (iA a) (1+(a:Int))=true:=by delta uf;simp only[wS,eI,gN];right;lia
     exact (if uf (iA a) (1+(a:Int))=true then _ else _)=_
     rw[fR this];exact _=!(D.int (iA a * ((a+1:Nat):Int)));rw[show 1+(a:Int)=((a+1:Nat):Int)by lia]
    apply#[_,_,rfl,?_,a+1,.dat (.int (1+(a:Int))),by lia,by rw[show m - (a+1)=q by lia],rfl]
    exact (rn (n+19)).b [] k _ [‹m›,.dat (.int (iA a)),.dat (.int (1+(a:Int)))]=_;simp! [U,e]) (List.range m) [‹m›,‹1›,.no] #[0,.no,by lia,by rw[v3];rfl,rfl]
 have hmi:m - i=0:=by have:=congrArg List.length hl;rw[B7]at this;show this.symm
 have hi':i=m:=by lia
 subst hi';generalize hb:(rn (n+19)).b [] k [(.aug 1 .Mult ⇑2)]=bb at w;have e1:((i:Int)+1 - 1).toNat=i:=by lia
 delta bW KC;simp! [U,d8,Tg.ix,Tg.jB,aI 1 ⋯,aI ((i:Int)+1) ⋯,bT,e1,hb,w]
end
abbrev iX:Fx:=#[2,2,[(.ret (.ite (.cmp .Lt ⇑0 ⇑1) (.tup [⇑0,⇑1]) (.tup [⇑1,⇑0])))]]
abbrev qQ(to:Nat):Fx:=#[2,4,[(.tgt (.tp [2,3]) ⇑0),(.ret (.tup [⇑2,(.blt .tuple [(.blt .sorted [(.comp 4 3 (.tp [5,6]) ⇑3 none (.call to [(.ix ⇑1 ⇑5),(.ix ⇑1 ⇑6)]))])])]))]]
abbrev g9(mb mt le:Nat):Fx:=#[2,2,[(.expr (.call mb [⇑0])),(.expr (.call mt [(.ix ⇑0 ↥0),⇑1])),(.ret (.call le [⇑0,⇑1]))]]
abbrev kG(mt:Nat):Fx:=#[3,3,[(.expr (.call mt [⇑0,⇑1])),(.expr (.call mt [⇑0,⇑2])),(.ret (.blt .tuple [(.comp 3 2 (.nm 4) ⇑1 none (.ix ⇑2 ⇑4))]))]]
abbrev xB(mt:Nat):Fx:=#[2,2,[(.expr (.call mt [⇑0,⇑1])),(.ret (.blt .tuple [(.comp 2 2 (.nm 3) (.dc ⇑0) none (.meth .index ⇑1 ⇑3))]))]]
abbrev inv(m:Nat)(t: ~~~0): ~~~0:=(List.range m).map λ(k:Nat)=>(t.idxOf (k:Int):Int)
def KD(t: ~~~0)(x:Int)(h:x∈t):mtF .index (~~~t) (.int x)=!(.int (t.idxOf x:Nat)):=by
 have e:∀t:List Int,x∈t->yF (.int x) (t.map .int)=!(t.idxOf x):=λt=>by
  induction t with
  |nil=>intro h;symm
  |cons a t ih=>
   intro h;rw[List.map_cons];delta yF;by_cases ha:a=x
   .
    subst ha;rw[fR (by simp[cL])]
    simp[List.idxOf_cons]
   .
    rw[eR (by simp[cL,ha])]
    have hx:=(eC.mp h).resolve_left λz=>ha z.symm
    rw[ih hx];have hb:(a==x)=false:=by simpa using ha
    simp[List.idxOf_cons,hb]
 have ho:jl (.int x) (t.map .int)=true:=by simp[jl,fF,dH,eS]
 delta mtF;simp only[cJ,ho,C1,e t h]
section
variable{k n:Nat}{g g1:G}{rn:Nat->Rn}{fns:List Fx}{wh wi it ri iw ci cj cw mw tu mt mb le to:Nat}(U:jm fns rn)
include U
def KH(a b:Int):bW (rn (n+8)) k iX [.int a,.int b]=!(.dat (~~~(if a<b then [a,b]else [b,a]))):=by
 delta bW iX;by_cases h:a<b
 . simp! [U,h,au 2 ⋯];simp
 . simp! [U,h,au 2 ⋯];simp
variable(Sy:fns[to]?=!iX)
include Sy in
def zD(m:Nat)(ak: ~~~5)(t: ~~~0)(h:Wb m ak)(ht:Tn m t):bW (rn (n+40)) (k+2) (qQ to) [W m ak,~~~t]=!(.dat (W m (tw t ak))):=by
 have hl:=h.len;have htl:=ht.length;have st:∀s1 s2,Tg.set (.tp [2,3]) (W m ak) [.dat (W m ak),.dat (~~~t),s1,s2]=![.dat (W m ak),.dat (~~~t),‹m›,.dat (.tup (ak.map ∅))]:=λ_ _=>rfl
 have w:=λn k=>J3 (rn:=rn (n+16)) (bor:=[]) (k:=k+1) (g:=[.dat (W m ak),.dat (~~~t),‹m›,.dat (.tup (ak.map ∅))]) (g1:=[.dat (W m ak),.dat (~~~t),‹m›,.dat (.tup (ak.map ∅))]) (kk:=3) (nn:=4) (j1:=5) (j2:=6) (it:=.slot 3) (e:=.call to [(.ix ⇑1 ⇑5),(.ix ⇑1 ⇑6)]) ak (λx=>.int (gt x 0)) (λx=>.int (gt x 1)) (λx=>~~~(tm t x)) (by simp! [U,d8,<- h.two]) rfl ⋯ ⋯ ⋯ ⋯ ⋯ ⋯ ⋯ (au _ ⋯) λx hx G' hG=>by
  have h1:G'[1]?=!(.dat (~~~t)):=hG.1 1 ⋯;let(a,b,rfl,h2,h3,h4):=h.tie x hx;have h5:=hG.2.1;have h6:=hG.2.2;rw[(bC a b).1]at h5;rw[(bC a b).2]at h6;simp! [U,h5,h6,h1,g7 (t:=t) (i:=a) ⋯,g7 (t:=t) (i:=b) ⋯,Sy,aR (fx:=iX) rfl,KH U,cW]
 have e1:ak.map (λx=>~~~(tm t x))=(ak.map (tm t)).map λx=>~~~x:=by rw[List.map_map];rfl
 have e2:=iT (ak.map (tm t)) (λx hx=>by let(y,_,rfl):=eQ.mp hx;delta tm;split <;> simp) (by simp;lia)
 delta bW qQ;simp! [U,Tg.ix,st,w,e1,e2,au 2 ⋯];rfl
variable(hW:fns[wh]?=!bA)(hI:fns[wi]?=!(aU wh))(hM:fns[mw]?=!(fQ wi ci))(hT:fns[tu]?=!(cg mw wh))(hMT:fns[mt]?=!(bQ tu cj))
include hW hI hM hT
def ie(m:Nat)(t: ~~~0)(hm:1<=m/\m<=6)(h:Tn m t):bW (rn (n+48)) (k+5) (bQ tu cj) [.int m,~~~t]=!(.dat .non)/\Qw (rn (n+48)) (k+5) (bQ tu cj) [.int m,~~~t]=none:=by
 have hl:=h.length;have hf:Fair (~~~t):=#[by rw[eA];lia,λx hx=>Pl.ints hx]
 have q:=λn k=>(sD U hW hI hM (n:=n) (k:=k) m hm (~~~t) hf).1
 have q2:=λn k=>(sD U hW hI hM (n:=n) (k:=k) m hm (~~~t) hf).2
 have e:QB m (~~~t)=true:=by rw[sC,gN];show h
 rw[e]at q;constructor
 . delta bW bQ;simp! [U,hT,aR (fx:=cg mw wh) rfl,q]
 . delta Qw bQ;simp! [U,hT,aR (fx:=cg mw wh) rfl,q,q2]
include hMT
def Ez(m:Nat)(a b: ~~~0)(hm:1<=m/\m<=6)(ha:Tn m a)(hb:Tn m b):bW (rn (n+60)) (k+6) (kG mt) [.int m,~~~a,~~~b]=!(.dat (~~~(a.map (gt b)))):=by
 have w:=λn k=>mQ (rn:=rn (n+10)) (bor:=[]) (k:=k) (g:=[‹m›,.dat (~~~a),.dat (~~~b)]) (g1:=[‹m›,.dat (~~~a),.dat (~~~b)]) (kk:=2) (nn:=3) (j:=4) (it:=.slot 1) (e:=.ix ⇑2 ⇑4) a .int (λi=>.int (gt b i)) (by simp! [U,d8]) rfl ⋯ ⋯ ⋯ (au _ (by rw[ha.length];lia)) λi hi G' hG=>by
  have h2:=hG.1 2 ⋯;have:=ha.mem.mp hi;have hbl:=hb.length;simp! [U,hG.2,h2,g7 (t:=b) (i:=i) ⋯]
 have q1:=λn k=>(ie U hW hI hM hT (cj:=cj) (n:=n) (k:=k) m a hm ha).1
 have q2:=λn k=>(ie U hW hI hM hT (cj:=cj) (n:=n) (k:=k) m b hm hb).1
 delta bW kG;simp! [U,hMT,aR (fx:=bQ tu cj) rfl,q1,q2,w];rw[List.map_map];rfl
def QZ(m:Nat)(t: ~~~0)(hm:1<=m/\m<=6)(h:Tn m t):bW (rn (n+60)) (k+6) (xB mt) [.int m,~~~t]=!(.dat (~~~(inv m t))):=by
 have hr:bT 0 m=(nums m).map .int:=fy m;have w:=λn k=>mQ (rn:=rn (n+10)) (bor:=[]) (k:=k) (g:=[‹m›,.dat (~~~t)]) (g1:=[‹m›,.dat (~~~t)]) (kk:=2) (nn:=2) (j:=3) (it:=.dc ⇑0) (e:=.meth .index ⇑1 ⇑3) (nums m) .int (λx=>.int (t.idxOf x:Nat)) (by simp! [U,d8,aI m ⋯,hr]) rfl ⋯ ⋯ ⋯ (au _ (by rw[gI];lia)) λx hx G' hG=>by
  have h1:=hG.1 1 ⋯;simp! [U,hG.2,h1,cJ,KD t x (h.mem.mpr (cV.mp hx))]
 have q1:=λn k=>(ie U hW hI hM hT (cj:=cj) (n:=n) (k:=k) m t hm h).1
 delta bW xB;simp! [U,hMT,aR (fx:=bQ tu cj) rfl,q1,w];delta inv nums;rw[List.map_map,List.map_map];rfl
variable(mL:fns[it]?=!(fz wi))(Ey:fns[ri]?=!qu)(uN:fns[iw]?=!(fB wi it ri))(Bx:fns[mb]?=!(bq iw cw))(hLe:fns[le]?=!(qQ to))
include mL Ey uN Bx
include hLe Sy in
def lV(m:Nat)(ak: ~~~5)(t: ~~~0)(hm:1<=m/\m<=6)(h:Wb m ak)(ht:Tn m t):bW (rn (n+90)) (k+8) (g9 mb mt le) [W m ak,~~~t]=!(.dat (W m (tw t ak))):=by
 have i0:uM (W m ak) (.int 0)=!(.int m):=rfl;have q1:=λn k=>(ie U hW hI hM hT (cj:=cj) (n:=n) (k:=k) m t hm ht).1
 have q3:=λn k=>cP (ci:=cw) U hW hI mL Ey uN (n:=n) (k:=k) m ak hm h
 have q4:=λn k=>zD U Sy (n:=n) (k:=k) m ak t h ht
 delta bW g9;simp! [U,Bx,aL (fx:=bq iw cw) rfl,q3,i0,hMT,aR (fx:=bQ tu cj) rfl,q1,hLe,aR (fx:=qQ to) rfl,q4]
end
def Q5(l: ~~~5)(x: ~~~0):XR l x=decide (x∈l):=by
 delta XR;rw[List.any_map,B9,B4,gN];constructor
 . rintro⟨a,ha,e⟩;have e':cC (a.map .int) (x.map .int)=true:=e;rw[cQ,gN]at e';rw[<- e'];show ha
 . intro h;apply#[x,h,?_];exact cC (x.map .int) (x.map .int)=true;rw[cQ,gN]
def KJ(h:x∈t):gt t (t.idxOf x:Nat)=x:=by have hl:=List.idxOf_lt_length_iff.mpr h;delta gt;rw[At,bP,eJ hl];show List.getElem_idxOf hl
section
variable{m:Nat}{t: ~~~0}
def KN{x:Int}(h:0<=x/\x<m):gt (inv m t) x=(t.idxOf x:Nat):=by
 have:x.toNat<m:=by lia
 delta gt inv;simp[this];rw[show max x 0=x by lia]
def KQ(ht:Tn m t){i:Int}(hi:0<=i/\i<m):(t.idxOf (gt t i):Int)=i:=by have hx:=ht.mem.mpr (ht.gf hi);have:=List.idxOf_lt_length_iff.mpr hx;have:=ht.length;show ht.inj ⋯ hi (KJ hx)
def uG(ht:Tn m t):Tn m (inv m t):=by
 have im:inv m t=(nums m).map λx=>(t.idxOf x:Int):=by delta inv nums;rw[List.map_map];rfl
 apply Tn.of ?_;have h1:(t.map λx=>(t.idxOf x:Int)).Perm ((nums m).map λx=>(t.idxOf x:Int)):=ht.perm.map _
 rw[<- im]at h1;have h2:(t.map λx=>(t.idxOf x:Int))=nums m:=by
  conv=>lhs;arg 2;rw[<- uB ht.length]
  rw[List.map_map]
  conv=>rhs;rw[<- List.map_id (nums m)]
  apply mN λx hx=>?_
  show KQ ht (cV.mp hx)
 rw[h2]at h1;show h1.symm
def uH(ht:Tn m t)(X: ~~~5)(hX:Wb m X):tw (inv m t) (tw t X)=X:=by
 rw[xq hX ht (uG ht)];apply Ss hX λi hi=>?_
 have hi':i.toNat<t.length:=by have:=ht.length;lia
 have e:gt (t.map (gt (inv m t))) i=gt (inv m t) (gt t i):=by delta gt;simp[hi']
 rw[e,KN (ht.gf hi)];show KQ ht hi
def Q6(ht:Tn m t):∃v,Tn m v/\∀X,Wb m X->tw v (tw t X)=X:=#[_,uG ht,uH ht]
end
def Tn.then(ht:Tn m t)(hu:Tn m u):Tn m (t.map (gt u)):=by apply Tn.of ?_;have h1:(t.map (gt u)).Perm ((nums m).map (gt u)):=ht.perm.map _;rw[uB hu.length]at h1;show h1.trans hu.perm
def xC{α:Type}(O:o9 α):∀(l:List α) (n:α),iB O n l∈n::l
 | [],n=>BS n
 |m::l,n=>by
  have ih:=xC O l (if O.lt m n then m else n)
  exact iB O (if O.lt m n then m else n) l∈n::m::l
  rcases eC.mp ih with e |e
  .
   rw[e];by_cases h:O.lt m n=true
   . rw[fR h];show b0 _ dA
   . rw[eR h];show dA
  . show b0 _ (b0 _ e)
abbrev Sz:Fx:=#[1,3,[(.set 1 (.lst [(.tup [])])),(.loop (.nm 2) (.dc ⇑0) [(.setC 1 (.dX 3 3 (.nm 4) ⇑1 none (.nm 5) (.dc ⇑0) (!(.cmp .NotIn ⇑5 ⇑4)) (.bin .Add ⇑4 (.tup [⇑5]))))]),(.ret ⇑1)]]
abbrev kH(mw at' le:Nat):Fx:=#[1,1,[(.expr (.call mw [⇑0])),(.ret (.blt .min [(.comp 1 2 (.nm 2) (.call at' [(.ix ⇑0 ↥0)]) none (.call le [⇑0,⇑2]))]))]]
def mW(m:Nat):∀(s:Nat) (r: ~~~0),r∈bS m s->r.length=s
 | 0,r,h=>by rw[eP.mp h];rfl
 |s+1,r,h=>by
  let(q,hq,h):=List.mem_flatMap.mp h;let(x,_,rfl):=eQ.mp h;rw[dS,mW m s q hq];rfl
abbrev gJ(m:Nat)(ak: ~~~5): ~~~5:=match (turnsOf m).map λt=>[(m:Int)]::tw t ak with
 |k::ks=>iB jy k ks
 | []=>[]
def lW(hn:turnsOf m≠[]):∃t∈turnsOf m,gJ m ak=[(m:Int)]::tw t ak:=by
 delta gJ;cases e:turnsOf m with
 |nil=>show absurd e hn
 |cons t l=>
  rw[List.map_cons];have:=xC jy (l.map λt=>[(m:Int)]::tw t ak) ([(m:Int)]::tw t ak)
  rw[<- List.map_cons (f:=λt=>[(m:Int)]::tw t ak)]at this
  let(u,hu,e2):=eQ.mp this;show#[u,hu,e2.symm]
def xD(m:Nat):∀l:List (~~~5),(∀x∈l,∀y∈x,y≠[])->pK (l.map λx=>W m x)=!(l.map λx=>[(m:Int)]::x)
 | [],_=>rfl
 |x::l,h=>by
  have e:=wV x (h x dA);rw[List.map_cons,List.map_cons];delta pK;have e2:Oa (W m x)=!([(m:Int)]::x):=by
   exact (match gA (x.map ∅)with |some ts=>!([(m:Int)]::ts) |none=>none)=_
   rw[e]
  rw[e2,xD m l λy hy=>h y (b0 _ hy)]
def EY(m:Nat)(x: ~~~5)(l:List (~~~5)):bI ((x::l).map λx=>W m x)=none:=rfl
def Fb(m:Nat)(x: ~~~5)(l:List (~~~5)):gA ((x::l).map λx=>W m x)=none:=by
 have:bI [D.int m,.tup (x.map ∅)]=none:=rfl
 exact (match bI [D.int m,.tup (x.map ∅)],gA (l.map λx=>W m x)with |!(n::ns),!sL=>!((n::ns)::sL) |_,_=>none)=none
 simp only[this]
def Wb.ne(h:Wb m ak):∀y∈ak,y≠[]:=λy hy=>by
 let(a,b,rfl,_):=h.tie y hy;show List.cons_ne_nil _ _
def KR{m:Nat}(hm:1<=m/\m<=6){ak: ~~~5}(h:Wb m ak):nM .min [.lst ((turnsOf m).map λt=>W m (tw t ak))]=!(.dat (N9 (gJ m ak))):=by
 let(tl,tn):=aW hm;have e0:((turnsOf m).map λt=>W m (tw t ak))=((turnsOf m).map λt=>tw t ak).map λx=>W m x:=by rw[List.map_map];rfl
 have e1:=xD m ((turnsOf m).map λt=>tw t ak) λx hx=>by
  let(t,ht,rfl):=eQ.mp hx;show (h.turn (tl t ht)).ne
 rw[e0];delta gJ;have e2:((turnsOf m).map λt=>tw t ak).map (λx=>[(m:Int)]::x)=(turnsOf m).map λt=>[(m:Int)]::tw t ak:=by rw[List.map_map];rfl
 rw[e2]at e1;have fE:turnsOf m≠[]:=λz=>by
  have:=bK (nQ m);rw[z]at this;cases this
 revert e1 fE;cases turnsOf m with
 |nil=>intro _ fE;show absurd rfl fE
 |cons t l=>
  intro e1 _;have e3:=EY m (tw t ak) (l.map λt=>tw t ak)
  have e4:=Fb m (tw t ak) (l.map λt=>tw t ak)
  simp only[List.map_cons]at e1 e3 e4 ⊢
  simp only[nM,R0,cJ,e3,e4,e1]
section
variable{k n:Nat}{g g1:G}{rn:Nat->Rn}{fns:List Fx}(U:jm fns rn)
include U
def Q7(m:Nat)(hm:m<=6)(l: ~~~5)(hl:l.length<=50000)(hr:∀r∈l,r.length<=10)(a2:Slot):(rn (n+20)).b [] k [(.setC 1 (.dX 3 3 (.nm 4) ⇑1 none (.nm 5) (.dc ⇑0) (!(.cmp .NotIn ⇑5 ⇑4)) (.bin .Add ⇑4 (.tup [⇑5]))))] [‹m›,.own (l.map λr=>~~~r),a2]=!(.nx,[‹m›,.own ((ext m l).map λr=>~~~r),a2]):=by
 have hg:bT 0 m=(nums m).map .int:=fy m;have w:=Kw (rn:=rn (n+19)) (bor:=[]) (k:=k) (g:=[‹m›,.own (l.map λr=>~~~r),a2]) (g1:=[‹m›,.dat (.lst (l.map λr=>~~~r)),a2]) (nn:=3) (kk:=3) (j1:=4) (j2:=5) (nL:=.slot 1) (it:=.dc ⇑0) (c:=!(.cmp .NotIn ⇑5 ⇑4)) (e:=.bin .Add ⇑4 (.tup [⇑5])) l (λr=>~~~r) (nums m) .int (λr x=>(not (decide (x∈r)))) (λr x=>~~~(r++[x])) (by simp! [U,d8]) rfl ⋯ ⋯ ⋯ ⋯ ⋯ ⋯ ⋯ (by
   rw[gI];have:=Nat.mul_le_mul hl hm;show kS this ⋯) (λr hr G' hG=>by
   have h0:=hG.1 0 ⋯;simp! [U,d8,h0,aI m ⋯,hg]) (λr hr' x hx G' hG=>by
   simp! [U,qE,hG.2.1,hG.2.2,lT]) λr hr' x hx _ G' hG=>by
   have o:qD .Add (~~~r) (.tup [.int x])=!(.dat (~~~(r++[x]))):=by
    have hlr:(List.map D.int r).length+[D.int x].length<=lim:=au _ (by have:=hr r hr';rw[eA];simp;lia)
    simp only[qD,Jr,hlr,AH];rfl
   simp! [U,hG.2.1,hG.2.2,o,au 1 ⋯]
 have e:(l.flatMap λr=>((nums m).filter λx=>(not (decide (x∈r)))).map λx=>~~~(r++[x]))=(ext m l).map λr=>~~~r:=by
  delta ext;rw[List.map_flatMap]
  congr 1
  funext r
  rw[List.map_map];rfl
 rw[e]at w;simp! [U,w]
def SJ(m:Nat)(hm:1<=m/\m<=6):bW (rn (n+30)) k Sz [.int m]=!(.new ((turnsOf m).map λr=>~~~r)):=by
 let(g',(i,b2,hi,hl,rfl),w):=b9 (T:=.nm 2) (b:=(rn (n+29)).b [] k [(.setC 1 (.dX 3 3 (.nm 4) ⇑1 none (.nm 5) (.dc ⇑0) (!(.cmp .NotIn ⇑5 ⇑4)) (.bin .Add ⇑4 (.tup [⇑5]))))]) (λ(j:Nat)=>D.int (j:Int))
  (I:=λl g=>∃(i:Nat) (b2:Slot),i<=m/\l=List.range' i (m - i)/\g=[‹m›,.own ((bS m i).map λr=>~~~r),b2])
  (step:=λa l g h=>by
   let(i,b2,hi,hl,rfl):=h;cases hmi:m - i with
   |zero=>rw[hmi]at hl;cases hl
   |succ q=>
    rw[hmi]at hl;let(rfl,rfl):=D7 hl;have h1:(bS m a).length<=50000:=kS (iW m a) (kS (Nat.pow_le_pow_left hm.2 a) (kS (D4 ⋯ (show a<=6 by lia)) ⋯))
    have h2:∀r∈bS m a,r.length<=10:=λr hr=>by have:=mW m a r hr;lia
    show#[_,_,rfl,Q7 U m hm.2 (bS m a) h1 h2 (.dat (.int (a:Int))),a+1,_,by lia,by rw[show m - (a+1)=q by lia],rfl]) (List.range m) [‹m›,.own [.tup []],.no] #[0,.no,by lia,by rw[v3];rfl,rfl]
 have hmi:m - i=0:=by have:=congrArg List.length hl;rw[B7]at this;show this.symm
 have hi':i=m:=by lia
 subst hi';generalize hb:(rn (n+29)).b [] k [(.setC 1 (.dX 3 3 (.nm 4) ⇑1 none (.nm 5) (.dc ⇑0) (!(.cmp .NotIn ⇑5 ⇑4)) (.bin .Add ⇑4 (.tup [⇑5]))))]=bb at w;delta bW Sz turnsOf;simp! [U,d8,aI (i:Int) ⋯,bT,hb,w,au 1 ⋯]
variable{wh wi it ri iw cw mw pa ft op ro fi tt le to at':Nat}(hW:fns[wh]?=!bA)(hI:fns[wi]?=!(aU wh))(mL:fns[it]?=!(fz wi))(Ey:fns[ri]?=!qu)(uN:fns[iw]?=!(fB wi it ri))(Bx:fns[mw]?=!(bq iw cw))
include hW hI mL Ey uN Bx
def Q8(Sy:fns[to]?=!iX)(hLe:fns[le]?=!(qQ to))(hAt:fns[at']?=!Sz)(m:Nat)(hm:1<=m/\m<=6)(ak: ~~~5)(h:Wb m ak):bW (rn (n+80)) (k+7) (kH mw at' le) [W m ak]=!(.dat (N9 (gJ m ak))):=by
 let(tl,tn):=aW hm;have y:=λn k=>cP (ci:=cw) U hW hI mL Ey uN (n:=n) (k:=k) m ak hm h
 have qa:=λn k=>SJ U (n:=n) (k:=k) m hm
 have i0:uM (W m ak) (.int 0)=!(.int m):=rfl;have w:=mQ (rn:=rn (n+77)) (bor:=[]) (k:=k+7) (g:=[.dat (W m ak)]) (g1:=[.dat (W m ak)]) (kk:=2) (nn:=1) (j:=2) (it:=.call at' [(.ix ⇑0 ↥0)]) (e:=.call le [⇑0,⇑2]) (turnsOf m) (λt=>~~~t) (λt=>W m (tw t ak)) (by simp! [U,d8,i0,hAt,aL (fx:=Sz) rfl,qa]) rfl ⋯ ⋯ ⋯ (au _ ⋯) λt ht G' hG=>by
  have h0:=hG.1 0 ⋯;have q:=λn k=>zD U Sy (n:=n) (k:=k) m ak t h (tl t ht)
  simp! [U,h0,hG.2,hLe,aR (fx:=qQ to) rfl,q]
 have mn:=KR hm h;delta bW kH;simp! [U,Bx,aL (fx:=bq iw cw) rfl,y,w,mn]
end
def By{α:Type}(O:o9 α):∀(l:List α) (n x:α),x∈n::l->O.lt x (iB O n l)=false
 | [],n,x,h=>by rw[eP.mp h];show O.Yw n
 |m::l,n,x,h=>by
  exact O.lt x (iB O (if O.lt m n then m else n) l)=false
  have ih:=By O l (if O.lt m n then m else n)
  have i0:=ih _ dA;by_cases hx:x∈l
  . show ih x (b0 _ hx)
  .
   generalize iB O (if O.lt m n then m else n) l=q at i0 ih ⊢
   cases e:O.lt x q with
   |false=>rfl
   |true=>
    exfalso;by_cases hmn:O.lt m n=true
    .
     rw[fR hmn]at i0;rcases eC.mp h with rfl |h
     . rw[O.tr _ _ _ hmn e]at i0;cases i0
     .
      rcases eC.mp h with rfl |h
      . rw[e]at i0;cases i0
      . show hx h
    .
     have hmn:O.lt m n=false:=by simpa using hmn
     rw[eR (by rw[hmn];show t6)]at i0
     rcases eC.mp h with rfl |h
     . rw[e]at i0;cases i0
     .
      rcases eC.mp h with rfl |h
      .
       cases e2:O.lt q n with
       |false=>rw[O.tot _ _ e2 i0]at e;rw[hmn]at e;cases e
       |true=>rw[O.tr _ _ _ e e2]at hmn;cases hmn
      . show hx h
def qB(ht:t∈turnsOf m):jy.lt ([(m:Int)]::tw t ak) (gJ m ak)=false:=by
 delta gJ;cases e:turnsOf m with
 |nil=>rw[e]at ht;cases ht
 |cons u l=>
  apply By jy _ _ _ ?_;rw[<- List.map_cons (f:=λt=>[(m:Int)]::tw t ak)]
  show eQ.mpr #[t,e▸ht,rfl]
def zE(hn:turnsOf m≠[])(h1:∀t∈turnsOf m,∃u∈turnsOf m,tw t x=tw u y)(h2:∀t∈turnsOf m,∃u∈turnsOf m,tw t y=tw u x):gJ m x=gJ m y:=by
 let(t,ht,e1):=lW hn;let(u,hu,e2):=lW hn;let(t',ht',e3):=h1 t ht;let(u',hu',e4):=h2 u hu;apply jy.tot _ _ ?_ ?_
 . rw[e1,e3];show qB ht'
 . rw[e2,e4];show qB hu'
def KS(hm:1<=m/\m<=6)(hx:Wb m x)(hs:Tn m s):gJ m (tw s x)=gJ m x:=by
 have tn:=(aW hm).1;apply zE (λz=>?_) (λt ht=>?_) λt ht=>?_
 . have:=bK hs;rw[z]at this;cases this
 . show#[_,bK (hs.then (tn t ht)),xq hx hs (tn t ht)]
 .
  let(v,hv,hb):=Q6 hs;apply#[_,bK (hv.then (tn t ht)),?_]
  rw[<- xq (hx.turn hs) hv (tn t ht),hb x hx]
abbrev x6(m:Nat)(x: ~~~5): ~~~5:=(gJ m x).tail
section
variable{m:Nat}(hm:1<=m/\m<=6)
include hm
def zF:turnsOf m≠[]:=by
 have:decide (turnsOf m≠[])=true:=by refine six hm <;> decide +kernel
 show t5 this
def uI(x: ~~~5):∃t∈turnsOf m,x6 m x=tw t x/\gJ m x=[(m:Int)]::x6 m x:=by
 let(t,ht,e):=lW (zF hm);apply#[t,ht,?_,?_]
 . delta x6;rw[e];rfl
 . delta x6;rw[e];rfl
def X7(hx:Wb m x):Wb m (x6 m x):=by let(t,ht,e,_):=uI hm x;rw[e];show hx.turn ((aW hm).1 t ht)
def xE(hx:Wb m x)(hs:Tn m s):x6 m (tw s x)=x6 m x:=by delta x6;rw[KS hm hx hs]
def Q9(hx:Wb m x):x6 m (x6 m x)=x6 m x:=by let(t,ht,e,_):=uI hm x;have:=xE hm hx ((aW hm).1 t ht);rw[e,this,e]
end
def BG{β:Type} [DecidableEq β] (b:β):∀K:List β,K.Nodup->(K.map λk=>if b=k then 1 else 0).sum=if b∈K then 1 else 0
 | [],_=>rfl
 |k::K,h=>by
  rw[i7]at h;rw[List.map_cons,D8,BG b K h.2];by_cases e:b=k
  . subst e;rw[fR rfl,eR h.1,fR dA]
  .
   rw[eR e];by_cases e2:b∈K
   . rw[fR e2,fR (b0 _ e2)]
   . rw[eR e2,eR λq=>(eC.mp q).elim e e2]
def sum_add{β:Type}(f g:β->Nat):∀K:List β,(K.map λk=>f k+g k).sum=(K.map f).sum+(K.map g).sum
 | []=>rfl
 |k::K=>by
  rw[List.map_cons,List.map_cons,List.map_cons,D8,D8,D8,sum_add f g K];lia
def sF{α β:Type} [DecidableEq β] (g:α->β) (K:List β) (hK:K.Nodup):∀l:List α,(∀y∈l,g y∈K)->(K.map λk=>l.countP λy=>decide (g y=k)).sum=l.length
 | [],_=>by
  induction K with
  |nil=>rfl
  |cons k K ih=>rw[List.map_cons,D8,ih (i7.mp hK).2 (λ_ h=>nomatch h)];rfl
 |y::l,h=>by
  have e:(K.map λk=>(y::l).countP λy=>decide (g y=k))=K.map λk=>(l.countP λy=>decide (g y=k))+if g y=k then 1 else 0:=mN λk _=>by
   by_cases q:g y=k <;> simp[q]
  rw[e,sum_add,sF g K hK l λx hx=>h x (b0 _ hx),BG _ K hK,fR (h y dA),mB]
open Nk
def X8(k:Kt):Ec (dT k)=!k:=by
 induction k with
 |nil=>rfl
 |ci i r ih=>exact Ec (.int i::dT r)=_;delta Ec pkE;rw[ih]
 |ct a r ia ih=>exact Ec (.tup (dT a)::dT r)=_;delta Ec pkE;rw[ia,ih]
def Yb(k:Pn):pnT (dT k.1)=!k:=by delta pnT;rw[X8];dsimp only;rw[dif_pos k.2]
abbrev kJ(ks:List Pn)(l:List Pn):List Pn:=l.foldl fj ks
def xF(ks:List Pn)(k:Pn):(fj ks k).length<=ks.length+1:=by
 delta fj;split
 . show BI _
 . simp
section
variable{bor:List Nat}{k:Nat}{g g1:G}{rn:Rn}
def BJ{α:Type}(bO:α->D)(f:α->Pn)(h1:g.length<=j)(h2:j<g.length+kk)
  : ∀(xs:List α) (ks:List Pn) (m:G),m.length=kk->ks.length+xs.length<=1000->
  (∀a∈xs,∀G',qm g j (bO a) G'->eN rn bor k e G'=!(dK (f a),G'))->
  ∃m',m'.length=kk/\Wv rn bor k (.nm j) none e (xs.map bO) ks (g++m)=!(kJ ks (xs.map f),g++m')
 | [],ks,m,hm,_,_=>#[m,hm,rfl]
 |a::xs,ks,m,hm,hl,he=>by
  rw[mB]at hl;have q1:(Tg.nm j).set (bO a) (g++m)=!(g++m.set (j - g.length) (.dat (bO a))):=by exact some ((g++m).set j (.dat (bO a)))=_;rw[AG _ _ h1]
  have hm1:(m.set (j - g.length) (.dat (bO a))).length=kk:=by simpa using hm
  have s:qm g j (bO a) (g++m.set (j - g.length) (.dat (bO a))):=#[λi hi=>b8 hi,by
   rw[b6 h1,i9 ⋯]]
  have q2:=he a dA _ s;have hk:=xF ks (f a);let(m3,v1,v2):=BJ bO f h1 h2 xs (fj ks (f a)) _ hm1 ⋯ (λx hx=>he x (b0 _ hx))
  apply#[m3,v1,?_];rw[List.map_cons];delta Wv;rw[q1];dsimp only[qE];rw[q2];dsimp only[dK];rw[Yb];dsimp only;rw[fR ⋯];show v2
def Fc{α:Type}(xs:List α)(bO:α->D)(f:α->Pn)(hw:d8 rn bor k false it g=!(xs.map bO,g1))(hn:nn=g1.length)(h1:g1.length<=j)(h2:j<g1.length+kk)(hb:j∉bor)(hl:xs.length<=1000)(hg:Pb (kJ [] (xs.map f))=true)
  (he:∀a∈xs,∀G',qm g1 j (bO a) G'->eN rn bor k e G'=!(dK (f a),G')) :
  lH rn bor k nn kk (.nm j) it none e g=!(kJ [] (xs.map f),g1):=by
 subst hn;let(m',w1,w2):=BJ (kk:=kk+1) bO f h1 ⋯ xs [] (List.replicate (kk+1) .no) ⋯ (by simpa using hl) he
 delta lH;rw[show Tg.jB (.nm j)=false from rfl,hw]
 dsimp only;rw[fR #[rfl,by simp[Tg.ix,hb]]]
 delta gD;rw[w2];dsimp only;rw[fR hg,List.take_left]
end
abbrev fJ: ~~~0->Nk.Kt
 | []=>.nil
 |x::l=>.ci x (fJ l)
abbrev bN: ~~~5->Nk.Kt
 | []=>.nil
 |x::l=>.ct (fJ x) (bN l)
def BK:∀l:List Int,Nk.dT (fJ l)=l.map .int
 | []=>rfl
 |x::l=>by exact D.int x::Nk.dT (fJ l)=_;rw[BK l];rfl
def kK:∀l:List (~~~0),Nk.dT (bN l)=l.map ∅
 | []=>rfl
 |x::l=>by exact D.tup (Nk.dT (fJ x))::Nk.dT (bN l)=_;rw[BK x,kK l];rfl
def xG:∀l:List Int,Nk.dep (fJ l)=0
 | []=>rfl
 |_::l=>xG l
def sG:∀l:List (~~~0),Nk.dep (bN l)<=1
 | []=>oP _
 |x::l=>by
  exact max (Nk.dep (fJ x)+1) (Nk.dep (bN l))<=1;have:=sG l;rw[xG];lia
abbrev dJ(m:Nat)(ak: ~~~5):Nk.Pn:=#[.ci m (.ct (bN ak) .nil),by
 exact max (Nk.dep (bN ak)+1) 0<=3;have:=sG ak;lia]
def KY(m:Nat)(ak: ~~~5):Nk.dK (dJ m ak)=W m ak:=by exact D.tup [.int m,.tup (Nk.dT (bN ak))]=_;rw[kK];rfl
abbrev KZ(ks:List Nk.Pn):List D:=(bf Nk.iC (ks.map (·.1))).map YJ
abbrev K1(mw at' le:Nat):Fx:=#[1,1,[(.expr (.call mw [⇑0])),(.ret (.wA 1 2 (.nm 2) (.call at' [(.ix ⇑0 ↥0)]) none (.call le [⇑0,⇑2])))]]
def BL:∀a b:List Int,Nk.xZ (fJ a) (fJ b)=true
 | [],_=>rfl
 |_::_,[]=>rfl
 |_::a,_::b=>BL a b
def xH:∀a b:List (~~~0),Nk.xZ (bN a) (bN b)=true
 | [],_=>rfl
 |_::_,[]=>rfl
 |x::a,y::b=>by
  exact (Nk.xZ (fJ x) (fJ y)&&Nk.xZ (bN a) (bN b))=true;rw[BL,xH];rfl
def Yc(m:Nat)(x y: ~~~5):Nk.xZ (dJ m x).1 (dJ m y).1=true:=by exact (Nk.xZ (bN x) (bN y)&&true)=true;rw[xH];rfl
def sH:∀{a b: ~~~5},bN a=bN b->a=b:=λ{a b} h=>by
 have h:=congrArg Nk.dT h;rw[kK,kK]at h;have inj:∀{x y: ~~~0},D.tup (x.map D.int)=D.tup (y.map D.int)->x=y:=λ{x y} e=>by
  injection e with e;show (List.map_inj_right λa b h=>by injection h).mp e
 show (List.map_inj_right λ_ _ h=>inj h).mp h
def xJ(h:dJ m x=dJ m y):x=y:=by have h:=congrArg Subtype.val h;injection h with _ h;injection h with h _;show sH h
def K3{m:Nat}{ks:List Nk.Pn}(hk:∀k∈ks,∃x,k=dJ m x)(hl:ks.length<1000):Nk.Pb ks=true:=by
 delta Nk.Pb;rw[eI];apply#[oC hl,nV.mpr λa ha=>?_]
 let(x,rfl):=hk a ha;rw[eI];apply#[rfl,nV.mpr λb hb=>?_]
 let(y,rfl):=hk b hb;show Yc m x y
def ji:∀(l ks:List Nk.Pn),k∈kJ ks l ↔ k∈ks\/k∈l
 | [],ks=>by exact k∈ks ↔ _;simp
 |a::l,ks=>by
  exact k∈kJ (Nk.fj ks a) l ↔ _;rw[ji l (Nk.fj ks a),eC];delta Nk.fj;split
  .
   ext h;constructor
   .
    rintro (q |q)
    . show .inl q
    . show .inr (.inr q)
   .
    rintro (q |rfl |q)
    . show .inl q
    . show .inl h
    . show .inr q
  .
   rw[l9,eP];constructor
   .
    rintro ((q |q) |q)
    . show .inl q
    . show .inr (.inl q)
    . show .inr (.inr q)
   .
    rintro (q |q |q)
    . show .inl (.inl q)
    . show .inl (.inr q)
    . show .inr q
def mX:∀(l ks:List Nk.Pn),ks.Nodup->(kJ ks l).Nodup
 | [],_,h=>h
 |a::l,ks,h=>by
  apply mX l (Nk.fj ks a) ?_;delta Nk.fj;split
  . show h
  .
   ext hn;rw[yA];apply#[h,by simp,λx hx y hy=>?_]
   rw[eP.mp hy];rintro rfl;show hn hx
abbrev xK(m:Nat)(ak: ~~~5):List Nk.Pn:=kJ [] ((turnsOf m).map λt=>dJ m (tw t ak))
section
variable{k n:Nat}{rn:Nat->Rn}{fns:List Fx}(U:jm fns rn)
include U
variable{wh wi it ri iw cw mw to le at':Nat}(hW:fns[wh]?=!bA)(hI:fns[wi]?=!(aU wh))(mL:fns[it]?=!(fz wi))(Ey:fns[ri]?=!qu)(uN:fns[iw]?=!(fB wi it ri))(Bx:fns[mw]?=!(bq iw cw))
include hW hI mL Ey uN Bx
def Yd(Sy:fns[to]?=!iX)(hLe:fns[le]?=!(qQ to))(hAt:fns[at']?=!Sz)(m:Nat)(hm:1<=m/\m<=6)(ak: ~~~5)(h:Wb m ak)(hg:Nk.Pb (xK m ak)=true):bW (rn (n+80)) (k+7) (K1 mw at' le) [W m ak]=!(.new (KZ (xK m ak))):=by
 let(tl,tn):=aW hm;have y:=λn k=>cP (ci:=cw) U hW hI mL Ey uN (n:=n) (k:=k) m ak hm h
 have qa:=λn k=>SJ U (n:=n) (k:=k) m hm
 have i0:uM (W m ak) (.int 0)=!(.int m):=rfl;have s:=Fc (rn:=rn (n+78)) (bor:=[]) (k:=k+7) (g:=[.dat (W m ak)]) (g1:=[.dat (W m ak)]) (kk:=2) (j:=2) (it:=.call at' [(.ix ⇑0 ↥0)]) (e:=.call le [⇑0,⇑2]) (turnsOf m) (λt=>~~~t) (λt=>dJ m (tw t ak)) (by simp! [U,d8,i0,hAt,aL (fx:=Sz) rfl,qa]) rfl ⋯ ⋯ ⋯ ⋯ hg λt ht G' hG=>by
  have h0:=hG.1 0 ⋯;have q:=λn k=>zD U Sy (n:=n) (k:=k) m ak t h (tl t ht)
  rw[KY];simp! [U,h0,hG.2,hLe,aR (fx:=qQ to) rfl,q]
 have s':lH (rn (n+78)) [] (k+7) 1 2 (.nm 2) (.call at' [(.ix ⇑0 ↥0)]) none (.call le [⇑0,⇑2]) [.dat (W m ak)]=!(xK m ak,[.dat (W m ak)]):=s;delta bW K1 KZ;simp! [U,Bx,aL (fx:=bq iw cw) rfl,y,s']
end
def xM:∀(l ks:List Nk.Pn),(kJ ks l).length<=ks.length+l.length
 | [],_=>d5 _
 |a::l,ks=>by
  have h1:=xM l (Nk.fj ks a);have h2:=xF ks a;exact (kJ (Nk.fj ks a) l).length<=_;rw[mB];lia
def Ra(m:Nat)(x: ~~~5):YJ (dJ m x).1=W m x:=KY m x
def SM:∀L:List Nk.Kt,(∀a∈L,∃x,a=(dJ m x).1)->∃K:List (~~~5),L=K.map λx=>(dJ m x).1
 | [],_=>#[[],rfl]
 |a::L,h=>by
  let(x,rfl):=h a dA;let(K,rfl):=SM L λb hb=>h b (b0 _ hb)
  show#[x::K,rfl]
def Fd{m:Nat}{ks:List Nk.Pn}(hn:ks.Nodup)(hk:∀k∈ks,∃x,k=dJ m x):∃K:List (~~~5),K.Nodup/\K.length=ks.length/\KZ ks=(K.map λx=>W m x)/\(∀f,f∈K ↔ dJ m f∈ks)/\K.Pairwise λa b=>Nk.iC.le (dJ m a).1 (dJ m b).1:=by
 have hp:=bD (O:=Nk.iC) (ks.map (·.1));have vi:∀{a b:Nk.Pn},a.1=b.1->a=b:=λh=>Subtype.ext h
 let(K,hK):=SM (bf Nk.iC (ks.map (·.1))) λa ha=>by
  let(k,hk',rfl):=eQ.mp (hp.mem_iff.mp ha);let(x,rfl):=hk k hk';show#[x,rfl]
 have nd:(ks.map (·.1)).Nodup:=AB.mpr (List.Pairwise.imp (λh e=>h (vi e)) hn)
 have nK:=hK▸hp.nodup_iff.mpr nd;apply#[K,(AB.mp nK).imp λh e=>h (by rw[e]),by rw[<- eA,<- hK,hp.length_eq,eA],?_,λf=>?_,AB.mp (hK▸bX _)]
 . delta KZ;rw[hK,List.map_map];show mN λx _=>Ra m x
 .
  constructor
  .
   intro hf;have:(dJ m f).1∈bf Nk.iC (ks.map (·.1)):=by rw[hK];show eQ.mpr #[f,hf,rfl]
   let(k,hk',e):=eQ.mp (hp.mem_iff.mp this);show vi e▸hk'
  .
   intro hf;have:(dJ m f).1∈K.map λx=>(dJ m x).1:=by rw[<- hK];show hp.mem_iff.mpr (eQ.mpr #[_,hf,rfl])
   let(x,hx,e):=eQ.mp this;rw[<- xJ (vi e)];show hx
def K4(m:Nat)(f: ~~~5):∃A:List (~~~5),A.Nodup/\A.length=(xK m f).length/\KZ (xK m f)=(A.map λx=>W m x)/\(∀y,y∈A ↔ ∃s∈turnsOf m,y=tw s f)/\A.Pairwise λa b=>Nk.iC.le (dJ m a).1 (dJ m b).1:=by
 let(K,h1,h0,h2,h3,h4):=Fd (ks:=xK m f) (mX _ _ AC) λk hk=>by
  rcases (ji _ _).mp hk with h |h
  . symm
  . let(x,_,e):=eQ.mp h;show#[_,e.symm]
 apply#[K,h1,h0,h2,λy=>(h3 y).trans ((ji _ _).trans ?_),h4]
 constructor
 .
  rintro (h |h)
  . symm
  . let(x,hx,e):=eQ.mp h;show#[x,hx,(xJ e).symm]
 . rintro⟨x,hx,rfl⟩;show .inr (eQ.mpr #[x,hx,rfl])
abbrev Ye: ~~~5->Bool
 |a::b::l=>HT.lexLt a b&&Ye (b::l)
 |_=>true
def BP:∀l:List (~~~0),Ye l=true->l.Pairwise λa b=>HT.lexLt a b=true
 | [],_=>List.Pairwise.nil
 | [_],_=>sT _ _
 |a::b::l,h=>by
  let(h1,h2):=ao h;have ih:=BP (b::l) h2;apply tJ.mpr #[λx hx=>?_,ih]
  rcases eC.mp hx with rfl |hx
  . show h1
  . show j7 _ _ _ h1 ((tJ.mp ih).1 x hx)
abbrev Yg(m:Nat):Bool:=Ye (turnsOf m)&&decide (((turnsOf m).length:Int)=iA m)&&decide ((turnsOf m).head?=!(nums m))
section
variable{m:Nat}(hm:1<=m/\m<=6)
include hm
def lX:Yg m=true:=by refine six hm <;> decide +kernel
def sI:(turnsOf m).Pairwise λa b=>HT.lexLt a b=true:=BP _ (ao (ao (lX hm)).1).1
def Fe:((turnsOf m).length:Int)=iA m:=dec (ao (ao (lX hm)).1).2
def K5:(turnsOf m).Nodup:=(sI hm).imp λ{a b} h e=>by rw[e,eL]at h;symm
def K6:∃l,turnsOf m=nums m::l:=by
 have:=dec (ao (lX hm)).2;cases e:turnsOf m with
 |nil=>rw[e]at this;cases this
 |cons a l=>rw[e]at this;cases this;show#[l,rfl]
variable{x: ~~~5}(hx:Wb m x)
include hx
def eH{y: ~~~5}{t: ~~~0}:t∈led m x m y ↔ Tn m t/\tw t x=y:=by delta led;rw[pV,gN];show#[λh=>#[(aW hm).1 _ h.1,h.2.2],λh=>#[bK h.1,rfl,h.2]]
def Ff{y: ~~~5}{t: ~~~0}(ht:Tn m t)(e:tw t x=y):∃u l,led m x m y=u::l/\Tn m u/\tw u x=y/\HT.lexLt t u=false:=by
 have h:=(eH hm hx).mpr #[ht,e];have hp:(led m x m y).Pairwise λa b=>HT.lexLt a b=true:=(sI hm).sublist List.filter_sublist
 cases q:led m x m y with
 |nil=>rw[q]at h;symm
 |cons u l=>
  have hu:=(eH hm hx).mp (by rw[q];show dA)
  apply#[u,l,rfl,hu.1,hu.2,?_];rw[q]at h hp;rcases eC.mp h with rfl |h
  . show eL _
  .
   cases z:HT.lexLt t u with
   |false=>rfl
   |true=>have:=j7 _ _ _ ((tJ.mp hp).1 t h) z;rw[eL]at this;cases this
def sJ:∃l,led m x m x=nums m::l:=by
 let(l,e):=K6 hm;have id:tw (nums m) x=x:=Ss hx λi hi=>by
  have:i.toNat<m:=by lia
  delta gt nums;simp[this];lia
 delta led;rw[e,CL,fR (by simp[id])]
 show#[_,rfl]
def K7{t u: ~~~0}(ht:t∈led m x m x)(hu:u∈led m x m x):t.map (gt u)∈led m x m x:=by let(h1,e1):=(eH hm hx).mp ht;let(h2,e2):=(eH hm hx).mp hu;show (eH hm hx).mpr #[h1.then h2,by rw[<- xq hx h1 h2,e1,e2]]
def K8{t: ~~~0}(ht:t∈led m x m x):inv m t∈led m x m x:=by
 let(h1,e1):=(eH hm hx).mp ht;apply (eH hm hx).mpr #[uG h1,?_];have:=uH h1 x hx
 rwa [e1]at this
def fiber{u: ~~~0}(hu:Tn m u):(turnsOf m).countP (λs=>decide (tw s x=tw u x))=(led m x m x).length:=by
 have tn:=(aW hm).1;have nd:=K5 hm;have hp:((turnsOf m).map λs=>s.map (gt u)).Perm (turnsOf m):=by
  apply (y4 ?_ nd).mpr λy=>?_
  .
   apply AB.mpr (List.Pairwise.imp_of_mem ?_ nd);intro a b ha hb hab e;apply hab (B0 (by rw[(tn a ha).length,(tn b hb).length]) λi h1 h2=>?_)
   have:=congrArg (λl=>l[i]?) e
   simp only[mM,eJ h1,eJ h2,AR,Option.some.injEq]at this;show hu.inj ((tn a ha).mem.mp (tP h1)) ((tn b hb).mem.mp (tP h2)) this
  .
   rw[eQ];constructor
   . rintro⟨s,hs,rfl⟩;show bK ((tn s hs).then hu)
   .
    intro hy;apply#[y.map (gt (inv m u)),bK ((tn y hy).then (uG hu)),?_]
    rw[List.map_map]
    conv=>rhs;rw[<- List.map_id y]
    apply mN λi hi=>?_
    have hi:=(tn y hy).mem.mp hi;exact gt u (gt (inv m u) i)=i;rw[KN hi];show KJ (hu.mem.mpr hi)
 rw[<- hp.countP_eq,List.countP_map];delta led;rw[<- List.countP_eq_length_filter];apply List.countP_congr λs hs=>?_
 simp only[Function.comp_apply,gN,true_and];rw[<- xq hx (tn s hs) hu];constructor
 .
  intro h;have:=congrArg (tw (inv m u)) h
  rwa [uH hu _ (hx.turn (tn s hs)),uH hu _ hx]at this
 . intro h;rw[h]
def orbit{A:List (~~~5)}(hA:A.Nodup)(hmem:∀y,y∈A ↔ ∃s∈turnsOf m,y=tw s x):(A.length:Int) * ((led m x m x).length:Int)=iA m:=by
 rw[<- Fe hm,<- sF (λs=>tw s x) A hA (turnsOf m) λs hs=>(hmem _).mpr #[s,hs,rfl]]
 have:(A.map λk=>(turnsOf m).countP λs=>decide (tw s x=k))=A.map λ_=>(led m x m x).length:=mN λk hk=>by
  let(u,hu,rfl):=(hmem k).mp hk;show fiber hm hx ((aW hm).1 u hu)
 rw[this,List.map_const'];simp
end
def BR:∀a b:List Int,Nk.jA (fJ a) (fJ b)=HT.lexLt a b
 | [],[]=>rfl
 | [],_::_=>rfl
 |_::_,[]=>rfl
 |x::a,y::b=>by
  exact (if x=y then Nk.jA (fJ a) (fJ b)else decide (x<y))=if x=y then HT.lexLt a b else decide (x<y)
  rw[BR a b]
def xN:∀{a b: ~~~0},fJ a=fJ b->a=b
 | [],[],_=>rfl
 | [],_::_,h=>by symm
 |_::_,[],h=>by symm
 |x::a,y::b,h=>by
  injection h with h1 h2;rw[h1,xN h2]
def xO:∀a b:List (~~~0),Nk.jA (bN a) (bN b)=jy.lt a b
 | [],[]=>rfl
 | [],_::_=>rfl
 |_::_,[]=>rfl
 |x::a,y::b=>by
  exact (if fJ x=fJ y then Nk.jA (bN a) (bN b)else Nk.jA (fJ x) (fJ y))=if x=y then jy.lt a b else HT.lexLt x y
  rw[xO a b,BR];by_cases e:x=y
  . rw[fR e,fR (congrArg fJ e)]
  . rw[eR e,eR λh=>e (xN h)]
def Rb(m:Nat)(a b: ~~~5):Nk.jA (dJ m a).1 (dJ m b).1=jy.lt ([(m:Int)]::a) ([(m:Int)]::b):=by
 exact (if (m:Int)=m then (if bN a=bN b then false else Nk.jA (bN a) (bN b))else _)=if [(m:Int)]=[(m:Int)]then jy.lt a b else _
 rw[fR rfl,fR rfl,xO];by_cases e:a=b
 . rw[fR (congrArg bN e),e];show (jy.Yw b).symm
 . rw[eR λh=>e (sH h)]
def xP{m:Nat}(hm:1<=m/\m<=6){x: ~~~5}{A:List (~~~5)}(hmem:∀y,y∈A ↔ ∃s∈turnsOf m,y=tw s x)(hs:A.Pairwise λa b=>Nk.iC.le (dJ m a).1 (dJ m b).1):∃l,A=x6 m x::l:=by
 let(t,ht,e1,e2):=uI hm x;have hf:=(hmem (x6 m x)).mpr #[t,ht,e1];cases A with
 |nil=>cases hf
 |cons h l=>
  apply#[l,?_];rcases eC.mp hf with e |hf
  . rw[e]
  . have l1:Nk.jA (dJ m (x6 m x)).1 (dJ m h).1=false:=(tJ.mp hs).1 _ hf;let(s,hs',e3):=(hmem h).mp dA;have l2:=qB (ak:=x) hs';rw[Rb]at l1;rw[<- e3,e2]at l2;have:=jy.tot _ _ l2 l1;injection this with _ this;rw[this]
end Ev
namespace gK
open Ev
abbrev zG(mw om tt:Nat):Fx:=#[1,1,[(.expr (.call mw [⇑0])),(.ret (.bin .FloorDiv (.call om [(.ix ⇑0 ↥0)]) (.blt .len [(.call tt [⇑0,⇑0])])))]]
abbrev p1:Sm:=.tri 3 4 5 (.ix ⇑1 ↥0) (.call 17 [⇑1]) (.call 20 [⇑1])
abbrev p2:Sm:=.set 6 ↥1
abbrev pI:List Sm:=[(.set 6 (.bin .Mult ⇑6 ⇑7))]
abbrev p3:Sm:=.loop (.nm 7) (.gG ↥2 (.bin .Add ⇑3 ↥1)) pI
abbrev p4:Sm:=.ite (.or [(.cmp .NotEq (.bin .Mult (.blt .len [⇑4]) (.call 23 [⇑1])) ⇑6),(.cmp .NotEq (.blt .len [⇑5]) (.call 23 [⇑1])),(.cmp .NotEq (.ix ⇑5 ↥0) (.call 22 [⇑1]))]) [(.ret (.val (.bl false)))] []
abbrev p5:Sm:=.set 8 (.call 10 [⇑1,⇑2])
abbrev p6:Sm:=.set 9 (.call 16 [⇑1,⇑8])
abbrev p7:Sm:=.ite (.or [(.cmp .NotIn ⇑8 ⇑5),(.cmp .NotEq (.call 22 [⇑8]) (.call 22 [⇑1])),(.cmp .Is ⇑9 (.val .non)),(.cmp .NotEq (.call 10 [⇑1,⇑9]) ⇑8),(.cmp .Gt ⇑9 ⇑2)]) [(.ret (.val (.bl false)))] []
abbrev p8:Sm:=.par 10 11 (.ix ⇑4 (.call 26 [⇑0,(.blt .len [⇑4])])) (.ix ⇑4 (.call 26 [⇑0,(.blt .len [⇑4])]))
abbrev p9:Sm:=.ite (.or [(.cmp .NotIn (.call 14 [⇑3,⇑10,⇑11]) ⇑4),(.cmp .NotIn (.call 15 [⇑3,⇑10]) ⇑4),(.cmp .NotEq (.ix ⇑4 ↥0) (.wB ⇑3))]) [(.ret (.val (.bl false)))] []
abbrev p10:Sm:=.ret (.and [(.cmp .Eq (.call 22 [(.call 22 [⇑1])]) (.call 22 [⇑1])),(.cmp .Eq (.call 10 [⇑1,⇑10]) ⇑1)])
abbrev Yh:Fx:=#[3,12,[p1,p2,p3,p4,p5,p6,p7,p8,p9,p10]]
abbrev b1:Sm:=.set 2 (.call 25 [⇑0,⇑1])
abbrev b2:Sm:=.set 3 (.call 29 [⇑2,↥6])
abbrev b3:Sm:=.ite (.not (.call 31 [⇑2,⇑3,(.call 30 [⇑2,(.ix ⇑3 ↥0)])])) [(.ret (.val (.bl false)))] []
abbrev xQ:List Sm:=[b1,b2,b3]
abbrev YT:Fx:=#[1,4,[(.loop (.nm 1) (.dc (.blt .max [↥1,(.blt .min [(.blt .len [⇑0]),↥3])])) xQ),(.ret (.val (.bl true)))]]
abbrev fns:List Fx:=[bA,aU 0,fQ 1 2,KC,fB 1 5 6,fz 1,qu,bq 4 0,cg 2 0,bQ 8 1,g9 7 9 11,qQ 12,iX,qy,kG 9,xB 9,lU 7 18,Ky 7 18,cX 13 19,qz,K1 7 21 11,Sz,kH 7 21 11,zG 7 3 18,mU,lO 24,cK,fC,nq 26,zB 26 27 28,mS 26 28,Yh,YT]
def c0:fns[0]?=!(bA):=rfl
def c1:fns[1]?=!(aU 0):=rfl
def c2:fns[2]?=!(fQ 1 2):=rfl
def c3:fns[3]?=!(KC):=rfl
def c4:fns[4]?=!(fB 1 5 6):=rfl
def c5:fns[5]?=!(fz 1):=rfl
def c6:fns[6]?=!(qu):=rfl
def c7:fns[7]?=!(bq 4 0):=rfl
def c8:fns[8]?=!(cg 2 0):=rfl
def c9:fns[9]?=!(bQ 8 1):=rfl
def c10:fns[10]?=!(g9 7 9 11):=rfl
def c11:fns[11]?=!(qQ 12):=rfl
def c12:fns[12]?=!(iX):=rfl
def c13:fns[13]?=!(qy):=rfl
def c14:fns[14]?=!(kG 9):=rfl
def c15:fns[15]?=!(xB 9):=rfl
def c16:fns[16]?=!(lU 7 18):=rfl
def c17:fns[17]?=!(Ky 7 18):=rfl
def c18:fns[18]?=!(cX 13 19):=rfl
def c19:fns[19]?=!(qz):=rfl
def c20:fns[20]?=!(K1 7 21 11):=rfl
def c21:fns[21]?=!(Sz):=rfl
def c22:fns[22]?=!(kH 7 21 11):=rfl
def c23:fns[23]?=!(zG 7 3 18):=rfl
def c24:fns[24]?=!(mU):=rfl
def c25:fns[25]?=!(lO 24):=rfl
def c26:fns[26]?=!(cK):=rfl
def c27:fns[27]?=!(fC):=rfl
def c28:fns[28]?=!(nq 26):=rfl
def c29:fns[29]?=!(zB 26 27 28):=rfl
def c30:fns[30]?=!(mS 26 28):=rfl
def c31:fns[31]?=!(Yh):=rfl
end gK
namespace gK
open Ev
def pl_W(m:Nat)(x: ~~~5):fF (W m x)=true/\dep (W m x)<=5:=by
 have:=lR x;constructor
 . simp[W,fF,cI,lQ]
 . simp[W,dep,deps];lia
def Fg(m:Nat)(K:List (~~~5))(x: ~~~5)(h:x∈K):d7 .NotIn (W m x) (.lst (K.map λx=>W m x))=!false:=by
 have pw:∀d∈K.map λx=>W m x,fF d=true/\dep d<=5:=λd hd=>by
  let(x,_,rfl):=eQ.mp hd;show pl_W m x
 have h2:=xh λd hd=>(pw d hd).1
 have h3:=xm λd hd=>(pw d hd).2
 have h:jl (W m x) (K.map λx=>W m x)=true:=by simp only[jl,(pl_W m x).1];lia
 simp only[d7,cJ,h];rw[B4.mpr #[W m x,eQ.mpr #[x,by assumption,rfl],by rw[Kh];show oC rfl]]
 rfl
def SN(l: ~~~5)(x: ~~~0)(h:x∈l):d7 .NotIn (~~~x) (.lst (l.map ∅))=!false:=by
 have:=Kp l x;simp only[d7]at this ⊢
 rw[Q5,oC h]at this;revert this;simp only[cJ];split
 . intro e;injection e with e;rw[e];rfl
 . intro e;cases e
def Yi(a b: ~~~0):d7 .Gt (~~~a) (~~~b)=!(HT.lexLt b a):=by exact Wt (~~~b) (~~~a)=_;simp only[Wt,Ev.ints_map]
section
variable{k n:Nat}{rn:Nat->Rn}(U:jm fns rn)
include U
def K9{m:Nat}(hm:1<=m/\m<=6){x: ~~~5}(hx:Wb m x)(n k:Nat):bW (rn (n+80)) (k+7) (kH 7 21 11) [W m x]=!(.dat (W m (x6 m x))):=by have:=Q8 U c0 c1 c5 c6 c4 c7 c12 c11 c21 (n:=n) (k:=k) m hm x hx;let(_,_,_,e):=uI hm x;rw[e]at this;show this
def Yj{m:Nat}(hm:1<=m/\m<=6){x: ~~~5}(hx:Wb m x){a:Nat}(ha:(a:Int) * ((led m x m x).length:Int)=iA m)(n k:Nat):bW (rn (n+90)) (k+8) (zG 7 3 18) [W m x]=!‹a›:=by
 have q1:=λn k=>cP (ci:=0) U c0 c1 c5 c6 c4 (n:=n) (k:=k) m x hm hx
 have q2:=λn k=>X6 U (n:=n) (k:=k) m ⋯
 have q3:=λn k=>jH U c13 c19 (n:=n) (k:=k) m hm x x hx hx
 rw[qA hm hx hx]at q3;have i0:uM (W m x) (.int 0)=!(.int m):=rfl;let(l,hl):=sJ hm hx;have hp:0<(led m x m x).length:=by rw[hl];simp
 have hb:(led m x m x).length<=720:=kS (A7 _ _) (aW hm).2;have o:qD .FloorDiv (.int (iA m)) (.int ((led m x m x).length:Nat))=!‹a›:=by
  exact (if _ then _ else _)=_
  rw[fR ⋯,<- ha,Int.mul_ediv_cancel _ ⋯]
 delta bW zG;simp! [U,c7,aL (fx:=bq 4 0) rfl,q1,c3,aL (fx:=KC) rfl,q2,i0,c18,aR (fx:=cX 13 19) rfl,q3,o]
def prod{m:Nat}(hm:1<=m/\m<=6)(a0 a1 a2 a4 a5 a7 a8 a9 a10 a11:Slot):∃b7,aH (rn (n+20)) [0] k p3 [a0,a1,a2,‹m›,a4,a5,‹1›,a7,a8,a9,a10,a11]=!(.nx,[a0,a1,a2,‹m›,a4,a5,.dat (.int (iA m)),b7,a8,a9,a10,a11]):=by
 let(g',(i,b2,hi,hl,rfl),w):=b9 (T:=.nm 7) (b:=(rn (n+20)).b [0] k pI) (λ(j:Nat)=>D.int (2+(j:Int)))
  (I:=λl g=>∃(i:Nat) (b7:Slot),i+1<=m/\l=List.range' i (m - 1 - i)/\g=[a0,a1,a2,‹m›,a4,a5,.dat (.int (iA (i+1))),b7,a8,a9,a10,a11])
  (step:=λa l g h=>by
   let(i,b2,hi,hl,rfl):=h;cases hmi:m - 1 - i with
   |zero=>rw[hmi]at hl;cases hl
   |succ q=>
    rw[hmi,AX]at hl;let(rfl,rfl):=D7 hl;have e:qD .Mult (.int (iA (a+1))) (.int (2+(a:Int)))=!(.dat (.int (iA (a+2)))):=by rw[g8 _ _ (.inr ⋯)];exact _=!(R.dat (.int (iA (a+1) * ((a+2:Nat):Int))));rw[show 2+(a:Int)=((a+2:Nat):Int)by lia]
    apply#[_,_,rfl,?_,a+1,.dat (.int (2+(a:Int))),by lia,by rw[show m - 1 - (a+1)=q by lia],rfl]
    exact (rn (n+20)).b [0] k _ [a0,a1,a2,‹m›,a4,a5,.dat (.int (iA (a+1))),.dat (.int (2+(a:Int))),a8,a9,a10,a11]=_;delta pI;simp! [U,e]) (List.range (m - 1)) [a0,a1,a2,‹m›,a4,a5,‹1›,a7,a8,a9,a10,a11] #[0,a7,by lia,by rw[v3];rfl,rfl]
 have hmi:m - 1 - i=0:=by have:=congrArg List.length hl;rw[B7]at this;show this.symm
 have hi':i+1=m:=by lia
 rw[hi']at w;apply#[b2,?_];generalize hb:(rn (n+20)).b [0] k pI=bb at w;have e1:((m:Int)+1 - 2).toNat=m - 1:=by lia
 delta p3;simp! [U,d8,Tg.ix,Tg.jB,aI 2 ⋯,aI ((m:Int)+1) ⋯,bT,e1,hb,w]
end
end gK
namespace gK
open Ev
def Yk(m:Nat)(a b: ~~~5):d7 .Eq (W m a) (W m b)=!(decide (a=b)):=by simp only[d7,Kg,C1,Kh]
def Yl{rn:Rn}{bor:List Nat}{k:Nat}{g g1:G}{op:PySem.Operator}{a b:Ex}{d1 d2:D}{r:R}(h:argsR rn bor k [a,b] g=!([.dat d1,.dat d2],g1))(o:qD op d1 d2=!r):bh rn bor k fns (.bin op a b) g=!(r,g1):=by simp only[bh,h,pk,o]
def zH{rn:Rn}{bor:List Nat}{k:Nat}{g g1:G}{op:PySem.CmpOp}{a b:Ex}{d1 d2:D}{r:Bool}(h:argsR rn bor k [a,b] g=!([.dat d1,.dat d2],g1))(o:d7 op d1 d2=!r):stepT rn bor k (.cmp op a b) g=!(r,g1):=by simp only[stepT,h,pk,o]
section
variable{k n:Nat}{rn:Nat->Rn}(U:jm fns rn)
include U
def step4{O E:List D}{c a:Nat}{F:Int}{X Y:D}(ln:O.length=c)(lE:E.length=a)(q23:∀n k,bW (rn (n+90)) (k+8) (zG 7 3 18) [X]=!‹a›)(q22:∀n k,bW (rn (n+80)) (k+7) (kH 7 21 11) [X]=!(.dat Y))(o1:qD .Mult (.int c) (.int a)=!‹F›)(a5:L2.d9 E 0=!Y)(cw:d7 .NotEq Y Y=!false)(a0 a2 a3 a7 a8 a9 a10 a11:Slot) :
  aH (rn (n+127)) [0] (k+13) p4 [a0,.dat X,a2,a3,.dat (.lst O),.dat (.lst E),‹F›,a7,a8,a9,a10,a11]=!(.nx,[a0,.dat X,a2,a3,.dat (.lst O),.dat (.lst E),‹F›,a7,a8,a9,a10,a11]):=by
 have hB:∀n,bh (rn (n+100)) [0] (k+13) fns (.bin .Mult (.blt .len [⇑4]) (.call 23 [⇑1])) [a0,.dat X,a2,a3,.dat (.lst O),.dat (.lst E),‹F›,a7,a8,a9,a10,a11]=!(‹F›,[a0,.dat X,a2,a3,.dat (.lst O),.dat (.lst E),‹F›,a7,a8,a9,a10,a11]):=λn=>Yl (by simp! [U,ln,c23,aL (fx:=zG 7 3 18) rfl,q23]) o1
 have cF:d7 .NotEq (.int F) (.int F)=!false:=by rw[zx,oC rfl];rfl
 have cA:d7 .NotEq (.int a) (.int a)=!false:=by rw[zx,oC rfl];rfl
 have t1:stepT (rn (n+125)) [0] (k+13) (.cmp .NotEq (.bin .Mult (.blt .len [⇑4]) (.call 23 [⇑1])) ⇑6) [a0,.dat X,a2,a3,.dat (.lst O),.dat (.lst E),‹F›,a7,a8,a9,a10,a11]=!(false,[a0,.dat X,a2,a3,.dat (.lst O),.dat (.lst E),‹F›,a7,a8,a9,a10,a11]):=by
  apply zH ?_ cF;generalize hg:[a0,.dat X,a2,a3,.dat (.lst O),.dat (.lst E),‹F›,a7,a8,a9,a10,a11]=g at hB ⊢
  have h6:bh (rn (n+124)) [0] (k+13) fns ⇑6 g=!(‹F›,g):=by subst hg;rfl
  simp only[argsR,U.e,hB,h6,norm]
 have t2:stepT (rn (n+125)) [0] (k+13) (.cmp .NotEq (.blt .len [⇑5]) (.call 23 [⇑1])) [a0,.dat X,a2,a3,.dat (.lst O),.dat (.lst E),‹F›,a7,a8,a9,a10,a11]=!(false,[a0,.dat X,a2,a3,.dat (.lst O),.dat (.lst E),‹F›,a7,a8,a9,a10,a11]):=by apply zH ?_ cA;simp! [U,lE,c23,aL (fx:=zG 7 3 18) rfl,q23]
 have t3:stepT (rn (n+125)) [0] (k+13) (.cmp .NotEq (.ix ⇑5 ↥0) (.call 22 [⇑1])) [a0,.dat X,a2,a3,.dat (.lst O),.dat (.lst E),‹F›,a7,a8,a9,a10,a11]=!(false,[a0,.dat X,a2,a3,.dat (.lst O),.dat (.lst E),‹F›,a7,a8,a9,a10,a11]):=by apply zH ?_ cw;simp! [U,a5,c22,aL (fx:=kH 7 21 11) rfl,q22]
 delta p4;generalize [a0,.dat X,a2,a3,.dat (.lst O),.dat (.lst E),‹F›,a7,a8,a9,a10,a11]=g at t1 t2 t3 ⊢
 have h:(rn (n+127)).t [0] (k+13) (.or [(.cmp .NotEq (.bin .Mult (.blt .len [⇑4]) (.call 23 [⇑1])) ⇑6),(.cmp .NotEq (.blt .len [⇑5]) (.call 23 [⇑1])),(.cmp .NotEq (.ix ⇑5 ↥0) (.call 22 [⇑1]))]) g=!(false,g):=by rw[U.t];exact yZ (rn (n+126)) [0] (k+13) _ g=_;simp only[yZ,U.t,t1,t2,t3]
 simp only[aH,h,U.b,iz]
def La{m:Nat}(hm:1<=m/\m<=6){x: ~~~5}(hx:Wb m x){t: ~~~0}(ht:Tn m t){g:G}{i:Nat}{s:Int}{fl:Bool}(hi:g[i]?=!(St s fl)) :
  ∃s':Int,bF (rn (n+128)) Yh (k+13) [.var i,.dat (W m x),.dat (~~~t)] g=!(.dat (.bl true),g.set i (St s' fl)):=by
 let(A,nA,lA,sA,mA,pA):=K4 m x;have orb:=orbit hm hx nA mA;let(lF,eF):=xP hm mA pA;let(lo,eo):=sJ hm hx;have cb:(led m x m x).length<=720:=kS (A7 _ _) (aW hm).2;have ab:A.length<=720:=by
  have h1:=xM ((turnsOf m).map λt=>dJ m (tw t x)) []
  rw[eA,B8]at h1;have h2:=(aW hm).2;have h3:(xK m x).length<=720:=kS h1 ⋯;lia
 have gd:Nk.Pb (xK m x)=true:=K3 (λk hk=>by
  rcases (ji _ _).mp hk with h |h
  . symm
  .
   let(t,_,e):=eQ.mp h;show#[_,e.symm]) ⋯
 have hy:=hx.turn ht;have q17:=λn k=>X5 U c0 c1 c5 c6 c4 c7 c13 c19 c18 (n:=n) (k:=k) m hm x hx
 have q20:=λn k=>Yd U c0 c1 c5 c6 c4 c7 c12 c11 c21 (n:=n) (k:=k) m hm x hx gd
 rw[sA]at q20;have q22:=λn k=>K9 U hm hx n k
 have q22y:=λn k=>K9 U hm hy n k
 rw[xE hm hx ht]at q22y;have q22f:=λn k=>K9 U hm (X7 hm hx) n k
 rw[Q9 hm hx]at q22f;have q23:=λn k=>Yj U hm hx orb n k
 have q10:=λn k=>lV U c12 c0 c1 c2 c8 c9 c5 c6 c4 c7 c11 (n:=n) (k:=k) m x t hm hx ht
 let(u,lu,eu,hu,tu,ltu):=Ff hm hx ht rfl;have q10u:=λn k=>lV U c12 c0 c1 c2 c8 c9 c5 c6 c4 c7 c11 (n:=n) (k:=k) m x u hm hx hu
 rw[tu]at q10u;have q16:=λn k=>Kz U c0 c1 c5 c6 c4 c7 c13 c19 c18 (n:=n) (k:=k) m m hm hm x (tw t x) hx hy
 rw[eu]at q16;have q16:∀n k,bW (rn (n+90)) (k+8) (lU 7 18) [W m x,W m (tw t x)]=!(.dat (~~~u)):=q16;have i0:uM (W m x) (.int 0)=!(.int m):=rfl;have cl:0<(led m x m x).length:=by rw[eo];simp
 have o1:qD .Mult (.int ((led m x m x).length:Nat)) (.int (A.length:Nat))=!(.dat (.int (iA m))):=by rw[g8 _ _ (.inl ⋯),<- orb,Int.mul_comm]
 have a5:L2.d9 (A.map λx=>W m x) 0=!(W m (x6 m x)):=by rw[eF];simp[L2.d9,L2.nF]
 have a4:L2.d9 ((led m x m x).map λr=>~~~r) 0=!(~~~(nums m)):=by rw[eo];simp[L2.d9,L2.nF]
 have cw:=XF m;have n5:=Fg m A (tw t x) ((mA _).mpr #[t,bK ht,rfl]);have cN:d7 .Is (~~~u) .non=!false:=rfl;have cG:=Yi u t;rw[ltu]at cG;have ln:((led m x m x).map λr=>~~~r).length=(led m x m x).length:=eA ..
 let(b7,e3):=prod U (n:=n+107) (k:=k+13) hm (St s fl) (.dat (W m x)) (.dat (~~~t)) (.dat (.lst ((led m x m x).map λr=>~~~r))) (.dat (.lst (A.map λx=>W m x))) .no .no .no .no .no
 have e1:aH (rn (n+127)) [0] (k+13) p1 [St s fl,.dat (W m x),.dat (~~~t),.no,.no,.no,.no,.no,.no,.no,.no,.no]=!(.nx,[St s fl,.dat (W m x),.dat (~~~t),‹m›,.dat (.lst ((led m x m x).map λr=>~~~r)),.dat (.lst (A.map λx=>W m x)),.no,.no,.no,.no,.no,.no]):=by delta p1;simp! [U,i0,c17,aL (fx:=Ky 7 18) rfl,q17,c20,aL (fx:=K1 7 21 11) rfl,q20]
 generalize hO:(led m x m x).map (λr=>~~~r)=O at *
 generalize hE:A.map (λx=>W m x)=E at *
 have lE:E.length=A.length:=by rw[<- hE,eA]
 have e2:aH (rn (n+127)) [0] (k+13) p2 [St s fl,.dat (W m x),.dat (~~~t),‹m›,.dat (.lst O),.dat (.lst E),.no,.no,.no,.no,.no,.no]=!(.nx,[St s fl,.dat (W m x),.dat (~~~t),‹m›,.dat (.lst O),.dat (.lst E),‹1›,.no,.no,.no,.no,.no]):=by delta p2;simp! [U,U.e]
 have e4:aH (rn (n+127)) [0] (k+13) p4 [St s fl,.dat (W m x),.dat (~~~t),‹m›,.dat (.lst O),.dat (.lst E),.dat (.int (iA m)),b7,.no,.no,.no,.no]=!(.nx,[St s fl,.dat (W m x),.dat (~~~t),‹m›,.dat (.lst O),.dat (.lst E),.dat (.int (iA m)),b7,.no,.no,.no,.no]):=step4 U ln lE q23 q22 o1 a5 (by rw[cw,oC rfl];rfl) _ _ _ _ _ _ _ _
 have e5:aH (rn (n+127)) [0] (k+13) p5 [St s fl,.dat (W m x),.dat (~~~t),‹m›,.dat (.lst O),.dat (.lst E),.dat (.int (iA m)),b7,.no,.no,.no,.no]=!(.nx,[St s fl,.dat (W m x),.dat (~~~t),‹m›,.dat (.lst O),.dat (.lst E),.dat (.int (iA m)),b7,.dat (W m (tw t x)),.no,.no,.no]):=by delta p5;simp! [U,c10,aR (fx:=g9 7 9 11) rfl,q10]
 have e6:aH (rn (n+127)) [0] (k+13) p6 [St s fl,.dat (W m x),.dat (~~~t),‹m›,.dat (.lst O),.dat (.lst E),.dat (.int (iA m)),b7,.dat (W m (tw t x)),.no,.no,.no]=!(.nx,[St s fl,.dat (W m x),.dat (~~~t),‹m›,.dat (.lst O),.dat (.lst E),.dat (.int (iA m)),b7,.dat (W m (tw t x)),.dat (~~~u),.no,.no]):=by delta p6;simp! [U,c16,aR (fx:=lU 7 18) rfl,q16]
 have e7:aH (rn (n+127)) [0] (k+13) p7 [St s fl,.dat (W m x),.dat (~~~t),‹m›,.dat (.lst O),.dat (.lst E),.dat (.int (iA m)),b7,.dat (W m (tw t x)),.dat (~~~u),.no,.no]=!(.nx,[St s fl,.dat (W m x),.dat (~~~t),‹m›,.dat (.lst O),.dat (.lst E),.dat (.int (iA m)),b7,.dat (W m (tw t x)),.dat (~~~u),.no,.no]):=by delta p7;simp! [U,n5,c22,aL (fx:=kH 7 21 11) rfl,q22,q22y,cw,cN,c10,aR (fx:=g9 7 9 11) rfl,q10u,cG]
 let(r1,s1,r1a,r1b,q26):=eG U (n:=n+105) (k:=k+12) (g:=[St s fl,.dat (W m x),.dat (~~~t),‹m›,.dat (.lst O),.dat (.lst E),.dat (.int (iA m)),b7,.dat (W m (tw t x)),.dat (~~~u),.no,.no]) (i:=0) (m:=((led m x m x).length:Int)) rfl ⋯;let(r2,s2,r2a,r2b,q27):=eG U (n:=n+105) (k:=k+12) (g:=[St s1 fl,.dat (W m x),.dat (~~~t),‹m›,.dat (.lst O),.dat (.lst E),.dat (.int (iA m)),b7,.dat (W m (tw t x)),.dat (~~~u),.no,.no]) (i:=0) (m:=((led m x m x).length:Int)) rfl ⋯;have at':∀r:Int,0<=r/\r<(led m x m x).length->∃y∈led m x m x,L2.d9 O r=!(~~~y):=λr hr=>by
  let(d,hd,e):=QL (by rw[ln];show hr)
  rw[<- hO]at hd;let(y,hy,rfl):=eQ.mp hd;show#[y,hy,e]
 let(y1,m1,at1):=at' r1 #[r1a,r1b];let(y2,m2,at2):=at' r2 #[r2a,r2b];have q26':=q26;have q27':=q27;have e8:aH (rn (n+127)) [0] (k+13) p8 [St s fl,.dat (W m x),.dat (~~~t),‹m›,.dat (.lst O),.dat (.lst E),.dat (.int (iA m)),b7,.dat (W m (tw t x)),.dat (~~~u),.no,.no]=!(.nx,[St s2 fl,.dat (W m x),.dat (~~~t),‹m›,.dat (.lst O),.dat (.lst E),.dat (.int (iA m)),b7,.dat (W m (tw t x)),.dat (~~~u),.dat (~~~y1),.dat (~~~y2)]):=by delta p8;simp! [U,ln,c26,q26',q27',at1,at2]
 let(t1,w1):=(eH hm hx).mp m1;let(t2,w2):=(eH hm hx).mp m2;have q14:=λn k=>Ez U c0 c1 c2 c8 c9 (n:=n) (k:=k) m y1 y2 hm t1 t2
 have q15:=λn k=>QZ U c0 c1 c2 c8 c9 (n:=n) (k:=k) m y1 hm t1
 have n14:=SN _ _ (K7 hm hx m1 m2);have n15:=SN _ _ (K8 hm hx m1);have q10o:=λn k=>lV U c12 c0 c1 c2 c8 c9 c5 c6 c4 c7 c11 (n:=n) (k:=k) m x y1 hm hx t1
 rw[w1]at q10o;rw[hO]at n14 n15;have hr:bT 0 m=(nums m).map .int:=fy m;have ct:=J6 (nums m) (nums m);have cwe:=Yk m;have e9:aH (rn (n+127)) [0] (k+13) p9 [St s2 fl,.dat (W m x),.dat (~~~t),‹m›,.dat (.lst O),.dat (.lst E),.dat (.int (iA m)),b7,.dat (W m (tw t x)),.dat (~~~u),.dat (~~~y1),.dat (~~~y2)]=!(.nx,[St s2 fl,.dat (W m x),.dat (~~~t),‹m›,.dat (.lst O),.dat (.lst E),.dat (.int (iA m)),b7,.dat (W m (tw t x)),.dat (~~~u),.dat (~~~y1),.dat (~~~y2)]):=by delta p9;simp! [U,c14,cM (fx:=kG 9) rfl,q14,n14,c15,aR (fx:=xB 9) rfl,q15,n15,a4,aI m ⋯,au m ⋯,hr]
 have e10:aH (rn (n+127)) [0] (k+13) p10 [St s2 fl,.dat (W m x),.dat (~~~t),‹m›,.dat (.lst O),.dat (.lst E),.dat (.int (iA m)),b7,.dat (W m (tw t x)),.dat (~~~u),.dat (~~~y1),.dat (~~~y2)]=!(.rt (.dat (.bl true)),[St s2 fl,.dat (W m x),.dat (~~~t),‹m›,.dat (.lst O),.dat (.lst E),.dat (.int (iA m)),b7,.dat (W m (tw t x)),.dat (~~~u),.dat (~~~y1),.dat (~~~y2)]):=by delta p10;simp! [U,c22,aL (fx:=kH 7 21 11) rfl,q22,q22f,cwe,c10,aR (fx:=g9 7 9 11) rfl,q10o]
 apply#[s2,?_];have hp:fG Yh.n [St s fl,.dat (W m x),.dat (~~~t)]=[St s fl,.dat (W m x),.dat (~~~t),.no,.no,.no,.no,.no,.no,.no,.no,.no]:=rfl;have body:(rn (n+128)).b [0] (k+13) Yh.body [St s fl,.dat (W m x),.dat (~~~t),.no,.no,.no,.no,.no,.no,.no,.no,.no]=!(.rt (.dat (.bl true)),[St s2 fl,.dat (W m x),.dat (~~~t),‹m›,.dat (.lst O),.dat (.lst E),.dat (.int (iA m)),b7,.dat (W m (tw t x)),.dat (~~~u),.dat (~~~y1),.dat (~~~y2)]):=by delta Yh;rw[U.b,aG e1,aG e2,aG e3,aG e4,aG e5,aG e6,aG e7,aG e8,aG e9];delta iz;rw[e10]
 delta bF;simp only[vars,dg,hi,List.map_cons,List.map_nil];rw[hp,body];rfl
end
end gK
namespace gK
open Ev
section
variable{k n:Nat}{rn:Nat->Rn}(U:jm fns rn)
include U
def cell(ns: ~~~0)(hl:ns.length<=63)(j:Nat)(a2 a3:Slot):∃b2 b3,(rn (n+132)).b [] (k+14) xQ [.dat (.fix (ns.map .int)),‹j›,a2,a3]=!(.nx,[.dat (.fix (ns.map .int)),‹j›,b2,b3]):=by
 let(s,fl,q1):=Kd U c24 (n:=n+90) (k:=k+12) ns ⋯ j;generalize hA0:Slot.dat (.fix (ns.map .int))=A0;generalize hA1:Slot.dat (.int (j:Int))=A1;have e1:aH (rn (n+131)) [] (k+14) b1 [A0,A1,a2,a3]=!(.nx,[A0,A1,St s fl,a3]):=by subst hA0 hA1;delta b1;simp! [U,c25,aR (fx:=lO 24) rfl,q1]
 let(m,x,s1,hm,hx,q2):=XT U c26 c27 c28 (g:=[A0,A1,St s fl,a3]) (i:=2) rfl;have G4:bF (rn (n+130)) (zB 26 27 28) (k+13) [.var 2,‹6›] [A0,A1,St s fl,a3]=!(.dat (W m x),[A0,A1,St s1 fl,a3]):=q2;have e2:aH (rn (n+131)) [] (k+14) b2 [A0,A1,St s fl,a3]=!(.nx,[A0,A1,St s1 fl,.dat (W m x)]):=by delta b2;simp! [U,c29,G4]
 have i0:uM (W m x) (.int 0)=!(.int m):=rfl;let(t,s2,ht,q3):=Qz U c26 c28 (n:=n+47) (k:=k+11) (g:=[A0,A1,St s1 fl,.dat (W m x)]) (i:=2) m hm rfl;have Vj:=q3;let(s3,q4):=La U hm hx ht (g:=[A0,A1,St s2 fl,.dat (W m x)]) (i:=2) rfl;have q4':bF (rn (n+128)) Yh (k+13) [.var 2,.dat (W m x),.dat (~~~t)] [A0,A1,St s2 fl,.dat (W m x)]=!(.dat (.bl true),[A0,A1,St s3 fl,.dat (W m x)]):=q4;apply#[St s3 fl,.dat (W m x),?_];have e3:aH (rn (n+131)) [] (k+14) b3 [A0,A1,St s1 fl,.dat (W m x)]=!(.nx,[A0,A1,St s3 fl,.dat (W m x)]):=by delta b3;simp! [U,i0,c30,Vj,c31,q4']
 delta xQ;rw[U.b,aG e1,aG e2,aG e3];rfl
def whole(ns: ~~~0)(hl:ns.length<=63):∃g',(rn (n+133)).b [] (k+14) YT.body [.dat (.fix (ns.map .int)),.no,.no,.no]=!(.rt (.dat (.bl true)),g'):=by
 have loop:=b9 (T:=.nm 1) (b:=(rn (n+132)).b [] (k+14) xQ) (λ(j:Nat)=>D.int (0+(j:Int)))
  (I:=λl g=>∃(s1 s2 s3:Slot),g=[.dat (.fix (ns.map .int)),s1,s2,s3])
  (step:=λa l g h=>by
   let(s1,s2,s3,rfl):=h;rw[Int.zero_add];let(b2,b3,q):=cell U ns hl a s2 s3;show#[_,_,rfl,q,_,_,_,rfl])
 obtain⟨M,hM,hM2⟩:∃M:Nat,M<=8/\(if ((if (3:Int)<ns.length then 3 else (ns.length:Int))) > 1 then (if (3:Int)<ns.length then 3 else (ns.length:Int))else 1)=(M:Int):=by
  apply#[(if ((if (3:Int)<ns.length then 3 else (ns.length:Int))) > 1 then (if (3:Int)<ns.length then 3 else (ns.length:Int))else 1).toNat,?_,?_]
  . split <;> (try split) <;> lia
  . split <;> (try split) <;> lia
 let(g2,(s1,s2,s3,rfl),h4):=loop (List.range M) [.dat (.fix (ns.map .int)),.no,.no,.no] #[_,_,_,rfl];have hv:eN (rn (n+132)) [] (k+14) (.blt .max [↥1,(.blt .min [(.blt .len [⇑0]),↥3])]) [.dat (.fix (ns.map .int)),.no,.no,.no]=!(.int (M:Int),[.dat (.fix (ns.map .int)),.no,.no,.no]):=by rw[<- hM2];simp! [U,qo]
 have hw:d8 (rn (n+132)) [] (k+14) false (.dc (.blt .max [↥1,(.blt .min [(.blt .len [⇑0]),↥3])])) [.dat (.fix (ns.map .int)),.no,.no,.no]=!((List.range M).map λ(x:Nat)=>D.int (0+(x:Int)),[.dat (.fix (ns.map .int)),.no,.no,.no]):=by delta d8;dsimp only;rw[hv];dsimp only;rw[fR (aI M ⋯)];rfl
 have e1:aH (rn (n+132)) [] (k+14) (.loop (.nm 1) (.dc (.blt .max [↥1,(.blt .min [(.blt .len [⇑0]),↥3])])) xQ) [.dat (.fix (ns.map .int)),.no,.no,.no]=!(.nx,[.dat (.fix (ns.map .int)),s1,s2,s3]):=by simp only[aH,Tg.jB,hw,h4];simp
 apply#[[.dat (.fix (ns.map .int)),s1,s2,s3],?_];delta YT;rw[U.b,aG e1];simp! [U,U.e]
end
abbrev kk:Nat:=14
abbrev fuel:Nat:=133
def hev(ns: ~~~0)(hl:ns.length<=63):∃g',(run fns fuel).b [] kk YT.body (fG 4 [.dat (.fix (ns.map .int))])=!(.rt (.dat (.bl true)),g'):=whole (Qv fns) ns hl
end gK
namespace Ev
open L2
abbrev strV:Value->Bool
 |.str _ _=>true
 |_=>false
abbrev Rc:Value->Bool
 |.int _ _=>true
 |_=>false
abbrev SQ:Value->Bool
 |.bool _=>true
 |_=>false
abbrev Ym(n:String):Value->Bool
 |.type m=>decide (m=n)
 |_=>false
abbrev Yn(q:Addr):Option Value->Bool
 |!(.ref p)=>decide (p=q)
 |_=>false
def BV(h:Ym n v=true):v=.type n:=by
 delta Ym at h;split at h
 . rw[t5 h]
 . symm
def Rf(h:Yn q v=true):v=!(.ref q):=by
 delta Yn at h;split at h
 . rw[t5 h]
 . symm
abbrev codeOk(K:Frag)(c q:Addr):Bool:=match K.lookup c with
 |some o=>(match o.data with
  |.fields vs=>Ym "code" o.cls&&Yn q vs[11]?&&strV (vs.getD 18 .none)&&Rc (vs.getD 7 .none)&&SQ (vs.getD 9 .none)&&Rc (vs.getD 10 .none)&&decide (c≠q)
  |_=>false)
 |none=>false
def Fj{K:Frag}{h:Heap}{c q:Addr}(X:K.In h)(e:codeOk K c q=true):PySem.W.CodeHd h c q/\∃o vs,h.get? c=!o/\o.cls=.type "code" /\o.data=.fields vs/\vs[11]?=!(.ref q):=by
 delta codeOk at e;split at e
 .
  ext o ho;split at e
  .
   ext vs hv;simp only[eI,gN]at e;let((((((e1,e2),e3),e4),e5),e6),e7):=e;have r:=Rf e2;have d:vs.getD 11 .none=.ref q:=by rw[Co,r];rfl
   delta strV at e3;split at e3
   .
    ext file tf h3;delta Rc at e4;split at e4
    .
     ext fl tg h4;delta SQ at e5;split at e5
     .
      ext b h5;delta Rc at e6;split at e6
      . ext tx tt h6;show#[#[o,vs,file,tf,fl,tg,b,tx,tt,X _ _ ho,BV e1,hv,r,d,h3,h4,h5,h6,e7],o,vs,X _ _ ho,BV e1,hv,r]
      . cases e6
     . cases e5
    . cases e4
   . cases e3
  . cases e
 . cases e
def xR{K:Frag}{o:Obj}{a:Addr}{qs:List Addr}:(qs.map (λq=>(q,o))++K).lookup a=if a∈qs then some o else K.lookup a:=by
 induction qs with
 |nil=>simp
 |cons q qs ih=>
  rw[List.map_cons,List.cons_append,xI];by_cases z:a=q
  . subst z;simp
  .
   have:(a==q)=false:=by simpa using z
   rw[this];simp only[eC,z,false_or];show ih
def xS{qs:List Addr}{K:Params->Frag}{w:World}{h:Heap}(e:(qs.all λq=>((K w.params).lookup q).isNone)=true)(Y:PySem.W.InK (qT qs K) w h):(K w.params).In h:=λa o ho=>by
 apply Y a o ?_;exact List.lookup a (qs.map _++K w.params)=_;rw[xR,eR,ho];intro z;have:=nV.mp e a z;rw[ho]at this;cases this
def Fo{cs qs:List Addr}{K:Params->Frag}{w:World}{h:Heap}(e:(qs.all λq=>((K w.params).lookup q).isNone)=true)(e2:(qs.all λq=>cs.any λc=>codeOk (K w.params) c q)=true)(Y:PySem.W.InK (qT qs K) w h):∀p∈qs,(∃c,h.TableAt c p ([].toArray))/\(K w.params).lookup p=none:=λp hp=>by
 let(c,_,hc):=B4.mp (nV.mp e2 p hp);apply#[#[c,(Fj (xS e Y) hc).2,Y _ _ ?_],Option.isNone_iff_eq_none.mp (nV.mp e p hp)];exact List.lookup p (qs.map _++K w.params)=_;rw[xR,fR hp]
def Lb{l:PySem.W.OpenLaw}{n k:Nat}{q:Program}{loose:List Str}{XP:(Str->Option Value)->Heap->Prop}{YP:World->Heap->Prop}{d:DefRec}{K:Params->Frag}{CX:Gi}{sp:Frag->Sp}{x:Str}{T:List Addr}
  (hn:l.most=!n) (hn2:n<=sizeLine) (nu:d.params.defaults=[]) (hr:gQ k callerA)
  (hY:∀(w:World) (h:Heap),YP w h->(K w.params).In h) (hT:∀(w:World) (h:Heap),YP w h->∀q∈T,(∃c,h.TableAt c q ([].toArray))/\(K w.params).lookup q=none)
  (F:∀(w:World) (mg:Str->Option Value) (fa:Addr) (h:Heap),(K w.params).In h->h.Ns mainGlobals mg->mg d.name=!(.ref fa)->
   ∃fd:FuncData,(∀(s:Shared) (u:Value),BindsTo s fd #[[u],[]] [(x,u)])/\
    ∀base:Heap,(K w.params).In base->base.Ns mainGlobals mg->qF l.prog w (K w.params) mg base CX k fa fd [x] (sp (K w.params)))
  (Yv:∀(w:World) (H:Hp) (a:Addr) (ns: ~~~0),ns.length<=n->Al T H->dQ (K w.params) H a (ns.map V.int)->sp (K w.params) [.ref a] H (λv _=>v=.bl true) λ_ _ _=>False)
  (hCX:∀(H:Hp) (s:Shared) (e:Value) (s':Shared),CX [] H s (λ_ _ _=>False) e s'->False) :
  PySem.W.WalkO q loose XP YP l.row.toRowW d [] (λf vs=>PySem.call f vs):=by
 apply Att.uX hn nu λw s₀ s₁ mg mb fa o pm cd doc a vs ns G Y ho hd fK hmg hobj hints aN hg=>?_
 have KX:=hY w _ Y;let(fd,hb,hF):=F w mg fa _ KX G.T.g hmg;show Ds KX (hT w _ Y) G.T.g G.T.b G.T.builtins G.T.nolimit hg hobj hints (kS aN hn2) hr hF hb (λH hO hS=>Yv w H a ns aN hO hS) λH e s'=>hCX H s₁ e s'
def All.of{α:Type}{p:α->Prop}{l:List α}(h:∀a∈l,p a):All p l:=by
 induction l with
 |nil=>show .nil
 |cons a l ih=>show .cons (h a dA) (ih λb hb=>h b (b0 _ hb))
abbrev noB(K:Frag)(x:Str):Bool:=match PySem.W.nsIn K mainGlobals x with
 |some none=>true
 |_=>false
def Yo{K:Frag}{mg:Str->Option Value}{h:Heap}{l:List Str}(X:K.In h)(G:h.Ns mainGlobals mg)(e:l.all (noB K)=true):All (λx=>mg x=none) l:=.of λx hx=>by
 have q:=nV.mp e x hx;delta noB at q;split at q
 . ext e2;show PySem.W.mg_none_of X G e2
 . cases q
end Ev
namespace gK
open L2 Ev
nonrec abbrev f0:Fi:=cE (st 6)
nonrec abbrev f1:Fi:=cE (st 7)
nonrec abbrev f2:Fi:=cE (st 8)
nonrec abbrev f3:Fi:=cE (st 10)
nonrec abbrev f4:Fi:=cE (st 13)
nonrec abbrev f5:Fi:=cE (st 14)
nonrec abbrev f6:Fi:=cE (st 15)
nonrec abbrev f7:Fi:=cE (st 16)
nonrec abbrev f8:Fi:=cE (st 17)
nonrec abbrev f9:Fi:=cE (st 18)
nonrec abbrev f10:Fi:=cE (st 19)
nonrec abbrev f11:Fi:=cE (st 20)
nonrec abbrev f12:Fi:=cE (st 21)
nonrec abbrev f13:Fi:=cE (st 22)
nonrec abbrev f14:Fi:=cE (st 23)
nonrec abbrev f15:Fi:=cE (st 24)
nonrec abbrev f16:Fi:=cE (st 26)
nonrec abbrev f17:Fi:=cE (st 27)
nonrec abbrev f18:Fi:=cE (st 28)
nonrec abbrev f19:Fi:=cE (st 29)
nonrec abbrev f20:Fi:=cE (st 30)
nonrec abbrev f21:Fi:=cE (st 31)
nonrec abbrev f22:Fi:=cE (st 32)
nonrec abbrev f23:Fi:=cE (st 33)
nonrec abbrev f24:Fi:=cE (st 35)
nonrec abbrev f25:Fi:=cE (st 36)
nonrec abbrev f26:Fi:=cE (st 37)
nonrec abbrev f27:Fi:=cE (st 38)
nonrec abbrev f28:Fi:=cE (st 39)
nonrec abbrev f29:Fi:=cE (st 40)
nonrec abbrev f30:Fi:=cE (st 41)
nonrec abbrev f31:Fi:=cE (st 42)
nonrec abbrev f32:Fi:=cE (st 43)
nonrec abbrev ups:List (Str×List (Addr×Bool)):=[]
abbrev P:Pg:=#[[f0,f1,f2,f3,f4,f5,f6,f7,f8,f9,f10,f11,f12,f13,f14,f15,f16,f17,f18,f19,f20,f21,f22,f23,f24,f25,f26,f27,f28,f29,f30,f31,f32],[("MOST_PLACES",.int 6)],["all", "bool", "enumerate", "int", "isinstance", "len", "list", "max", "min", "range", "sorted", "tuple"],[],false,[], "KindError",ups]
def Yp:Qk P P.fn fns=true:=by decide +kernel
def fns_eq:List.zipWith (Bp P) P.fn fns=P.fn.map (λfi=>bR fi.st):=by kernel_rfl
def nLaw:f32.N.length=4:=rfl
def hevF:∀ns:List Int,ns.length<=63->∃g',(run fns fuel).b [] kk YT.body (fG f32.N.length [.dat (.fix (ns.map .int))])=!(.rt (.dat (.bl true)),g'):=by rw[nLaw];show hev
def Rg(P:Params):eU (K P)=[(¬259,Gu "law")]:=by kernel_rfl
def Lc(P:Params):([259].all λq=>((K P).lookup q).isNone)=true:=by kernel_rfl
def Ld(P:Params):([259].all λq=>[263].any λc=>codeOk (K P) c q)=true:=by kernel_rfl
def bn_no(Q:Params):P.bn.all (noB (K Q))=true:=by kernel_rfl
end gK
open PySem PySem.W PyProof.Rows
set_option maxHeartbeats 0 in
theorem PySem.Challenge.cw_websbykind_k08_whole_alike_webs_holds : PySem.Challenge.rw_websbykind_k08_whole_alike_webs.Holds := by
 w_on
 apply PySem.W.holds_law (by decide +kernel) λsaid=>?_
 apply PySem.W.holds_open (q:=gK.qv) (loose:=[]) (Xt:=λs=>xlAt gK.qv [] s&&recOk (OpenRow.toRowW PySem.Challenge.rw_websbykind_k08_whole_alike_webs.row).records s) (XP:=XL gK.qv []) (Yf:=λs=>gK.as2.map s.heap.get?) (Ya:=λw=>(Ev.qT [259] gK.K w.params).map λp:Nat×Obj=>!p.2) (YP:=InK (Ev.qT [259] gK.K)) (N:=8000) gK.hl (InK.of gK.YX) InK.keeps (λs e=>xl_of s (Bool.and_eq_true_iff.mp e).1) XL.keeps (by rfl) (by rfl) (by rfl) (λs e=>recFacts_of (Bool.and_eq_true_iff.mp e).2) (by rfl) (by first |assumption |decide +kernel) (by decide +kernel) #[rfl,rfl,rfl,rfl,rfl,by decide +kernel] ?hw ?hc
 (case hw=>w_witness2)
 k_fill
 apply Ev.Lb (l:=PySem.Challenge.rw_websbykind_k08_whole_alike_webs) (n:=63) (k:=gK.kk+1) (x:= "_law_script") (CX:=L2.Lg) (K:=gK.K) (T:=[259]) (sp:=λK=>Ev.Vk K gK.f32.N 1 λbor g r g'=>(Ev.run gK.fns gK.fuel).b bor gK.kk gK.YT.body g=!(.rt r,g')) rfl ⋯ rfl #[rfl,by decide,by decide] (λw h Y=>Ev.xS (gK.Lc _) Y) (λw h Y=>Ev.Fo (gK.Lc _) (gK.Ld _) Y) ?F ?S ?C
 case F=>
  intro w mg fa h KX G hmg
  have mm:Ev.All (Ev.Qi (L2.KOf KX) mg) gK.P.fn:=by
   repeat' (first |show Ev.All.nil |apply Ev.All.cons ?_ ?_)
   all_goals
    dsimp only[L2.KOf]
    show Ev.fi_mk (by assumption) (by assumption) (by k_is) (by k_is) (by k_is) (by k_is) #[rfl,rfl,rfl,by decide +kernel,by decide +kernel,by decide +kernel,by decide +kernel] (λ_ _ _ _ _ _ us hl=>by first | (let(_,e):=Ev.len1 hl;subst e;rfl) | (let(_,_,e):=Ev.len2 hl;subst e;rfl) | (let(_,_,_,e):=Ev.len3 hl;subst e;rfl) | (let(_,_,_,_,e):=Ev.len4 hl;subst e;rfl)) ⋯
  have qR:Ev.Xk (L2.KOf KX) mg ("MOST_PLACES",.int 6):=by
   dsimp only[L2.KOf]
   refine' Ev.Xm KX G ?a ⋯
   (case a=>k_is)
  have lm:Ev.Xl gK.P (L2.KOf KX) mg:=Ev.Qj rfl rfl rfl
  have md:Ev.Ei gK.P (L2.KOf KX) mg:=Ev.md_mk mm (.cons qR .nil) (Ev.Yo KX G (gK.bn_no _)) .nil lm
  show Ev.JZ (Ev.Xq gK.Yp gK.fns_eq) md (i:=32) (fi:=gK.f32) rfl rfl rfl (mm.mem _ (lL (i:=32) rfl)) hmg
 case S=>show λw H a ns hl hO hS=>Ev.Xo gK.hevF (gK.K w.params) H a ns hl (by rw[gK.Rg];show hO) hS
 case C=>show λ_ _ _ _ z=>z
