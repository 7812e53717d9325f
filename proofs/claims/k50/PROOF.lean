import PyProof.Rows.All
import Wide.All
import OpenK.AllK
import Wide.FinOn
import Lean
import PyProof.EqAt
import PyProof.EqKinds
import PyProof.TupleCall
import PySem.Challenge.RW_websbykind_k50_trees_and_middles
set_option Elab.async false
set_option linter.all false
set_option compiler.extract_closed false
set_option bootstrap.genMatcherCode false
set_option genSizeOf false
set_option maxHeartbeats 4000000
set_option maxRecDepth 100000
set_option autoImplicit true
open PySem PySem.Spec PyProof.Rows
open PySem.W (Frag)
noncomputable section
def zQ1 k a:=Lean.Syntax.node .none k a
def zQ2 a:=zQ1 `null a
def zQ3 a:=zQ1 `Lean.Parser.Tactic.rcasesPatMed #[zQ2 #[a]]
def zQ4(f:Lean.Syntax->Lean.Syntax):Lean.Syntax->Lean.Syntax:=Lean.Syntax.rewriteBottomUp f
def zQ8(x:Lean.Syntax):Lean.Syntax:=match x with
|.node _ (.str b s) a=>if s=="ext"&&b== `Lean.Elab.Tactic.Ext then zQ1 `Lean.Parser.Tactic.renameI #[a[0]!,zQ2 (x[1].getArgs.map λp=>let i:=p[0][0];zQ1 `Lean.binderIdent #[if i.isIdent then i else zQ1 `Lean.Parser.Term.hole #[i]])] else if b== `Lean.Parser.Tactic then zQ1 (.str b (match s with|"exact"=>"show"|"show"=>"exact"|"refine"=>"apply"|"apply"=>"refine"|"unfold"=>"delta"|"delta"=>"unfold"|s=>s)) a else x.setInfo .none
|_=>x.setInfo .none
def zQ5:Lean.Syntax->Lean.Syntax
|x@(.ident ..)=>zQ1 `Lean.Parser.Tactic.rcasesPat.one #[x]
|x@(.node _ k a)=>if k== `Lean.Parser.Term.hole then zQ1 `Lean.Parser.Tactic.rcasesPat.ignore a else if k== `Lean.Parser.Term.tuple then zQ1 `Lean.Parser.Tactic.rcasesPat.tuple #[Lean.mkAtom "⟨",zQ2 ((#[x[1][0],Lean.mkAtom ","]++x[1][2].getArgs).map λx=>if x.isAtom then x else zQ1 `Lean.Parser.Tactic.rcasesPatLo #[zQ3 x,zQ2 #[]]),Lean.mkAtom "⟩"] else x
|x=>x
def zQ6:Lean.Syntax->Lean.Syntax:=λx=>
 let p:=x[2][0]
 if x.isOfKind `Lean.Parser.Tactic.tacticLet__&&p.isOfKind `Lean.Parser.Term.letPatDecl then zQ1 `Lean.Parser.Tactic.obtain #[Lean.mkAtom "obtain",zQ2 #[zQ3 (zQ4 zQ5 p[0])],zQ2 #[],zQ2 #[Lean.mkAtom ":=",zQ2 #[p[4]]]] else zQ8 x
def zQ7:=zQ2 #[zQ1 `Lean.Parser.Command.noncomputable #[Lean.mkAtom "noncomputable"]]
local macro_rules(kind:=Lean.Parser.Command.declaration)
|x=>if x.getPos?.isNone then Lean.Macro.throwUnsupported else
 let x:=zQ4 zQ6 x
 let y:=x[1]
 if !x[0][4].isNone then return (if y.isOfKind `Lean.Parser.Command.abbrev then x.setArg 0 (x[0].setArg 4 zQ7) else x)
 else if y.isOfKind `Lean.Parser.Command.definition then return x.setArg 1 (if y[2][1].isNone then y.setKind `Lean.Parser.Command.abbrev else zQ1 `Lean.Parser.Command.theorem #[y[0],y[1],zQ1 `Lean.Parser.Command.declSig #[y[2][0],y[2][1][0]],y[3]])
 else if y.isOfKind `Lean.Parser.Command.abbrev then return zQ1 x.getKind #[if x[0][6].isNone then x[0].setArg 4 zQ7 else x[0].setArg 6 (zQ2 #[]),zQ1 `Lean.Parser.Command.definition #[y[0],y[1],y[2],y[3],zQ2 #[]]]
 else return x
local macro_rules|`(!$x)=>`(some $x)
local macro_rules|`(#[$x,*])=>`(⟨$x,*⟩)
local macro_rules | `(⋯)=>`(by first |decide |lia |simp)
local macro_rules | `($x⁻¹)=>`(($x).heap.objs.size)
local macro_rules|`(⇑$x)=>`((.slot $x))
local macro_rules|`(↥$x)=>`((.val (.int $x)))
local macro_rules|`(‹$x›)=>`((.dat (.int $x)))
set_option hygiene false in
local macro_rules|`(~~~5)=>`(List (List Int))
local macro_rules|`(~~~0)=>`(List Int)
set_option hygiene false in
local macro_rules|`(~~~1)=>`(List (Addr×Obj))
set_option hygiene false in
local macro_rules|`(~~~2)=>`(model X.prog X.w)
local macro_rules|`(~~~3)=>`(("__debug__":Str))
set_option hygiene false in
local macro_rules|`(~~~7)=>`(Inv X aj σ H s)
set_option hygiene false in
local macro_rules|`(tactic|symm)=>`(tactic|cases h)
local macro_rules|`(¬$x:num)=>`(nat_lit $x)
def aS:=@PySem.wpAny_bind
def bP:=@List.mem_cons_of_mem
def dA:=@List.mem_cons_self
def dC:=@List.getElem?_eq_some_iff
def dE:=@PySem.Heap.get?_push_of_some
def dL:=@List.getElem?_append_left
def dS:=@PySem.wpAny_pure
def d5:=@List.size_toArray
def d6:=@List.mem_cons
def eA:=@Nat.le_refl
def eC:=@List.length_map
def eD:=@List.getElem?_append_right
def eJ:=@List.getElem?_set_ne
def eM:=@Nat.lt_of_lt_of_le
def eP:=@List.mem_append_right
def eQ:=@List.getElem?_set_self
def fA:=@PySem.Heap.lt_size
def fI:=@List.length_append
def fN:=@PySem.Heap.get?_push_size
def fR:=@List.mem_map
def gL:=@Option.bind_eq_some_iff
def gN:=@List.nodup_cons
def hU:=@Bool.and_eq_true
def hV:=@List.mem_filter
def hZ:=@List.length_replicate
def i3:=@List.mem_singleton
def i4:=@List.getElem?_eq_getElem
def i5:=@if_pos
def i6:=@List.mem_append_left
def i7:=@List.mem_of_getElem?
def i8:=@List.all_eq_true
def i9:=@PySem.wpAny_mono
def kA:=@if_neg
def kS:=@Nat.ne_of_lt
def lL:=@List.length_cons
def lS:=@PySem.Heap.get?_update_other
def mB:=@of_decide_eq_true
def mE:=@List.append_nil
def mI:=@Nat.add_sub_cancel_left
def mM:=@decide_eq_true_eq
def mP:=@List.mem_append
def nE:=@List.getElem?_map
def nK:=@PySem.Heap.get?_update_self
def nN:=@Option.some.inj
def nS:=@List.map_append
def nV:=@PySem.wpAny_holding
def n0:=@List.not_mem_nil
def oC:=@decide_eq_true
def oD:=@Array.length_toList
def oI:=@Nat.lt_succ_self
def oP:=@PySem.wpAny_truthy_bool
def oQ:=@PyProof.Rows.callWith_type1
def oS:=@PySem.sizeLine_eq
def o6:=@List.nodup_nil
def pE:=@PySem.Obj.data_mapFields
def pV:=@Nat.lt_irrefl
def qS:=@Nat.not_lt_zero
def rV:=@List.getElem?_eq_none_iff
def sB:=@List.nodup_append
def sK:=@Nat.le_trans
def sR:=@List.pairwise_cons
def sT:=@Ne.symm
def tJ:=@decide_eq_false
def tP:=@List.mem_map_of_mem
def tS:=@PySem.wpAny_field
def t5:=@List.mem_range
def t6:=@List.lookup_cons
def t7:=@PySem.wpAny_call_entry
def t8:=@Array.getElem?_eq_some_iff
def t9:=@List.getD_eq_getElem?_getD
def u4:=@List.length_set
def u7:=@PySem.wpAny_standAt
def u8:=@List.getElem_mem
def vS:=@Nat.le_add_right
def v6:=@List.filterMap_cons
def wE:=@Nat.zero_le
def wP:=@List.getElem?_take_of_lt
def wS:=@Nat.lt_or_ge
def wT:=@PySem.Obj.isFreed_of_fields
def w8:=@List.set_append_right
def w9:=@PySem.wpAny_setState_of
def xI:=@PySem.wpAny_Call_Name_kw
def xL:=@Bool.false_ne_true
def x5:=@List.mem_replicate
def yA:=@PySem.W.kia_one
def yB:=@PySem.wpAny_callSpecial?_slot
def yY:=@PySem.wpAny_askSetting
def y0:=@PySem.wpAny_newObj_type
def y6:=@List.map_congr_left
def y7:=@PySem.Heap.SameBut.update
def y8:=@Array.getElem?_eq_getElem
def An:=@List.length_singleton
def Ap:=@List.getElem?_eq_none
def At:=@Nat.zero_add
def AA:=@List.length_take
def AB:=@PySem.F.plainAttrs_list
def AC:=@Nat.ne_of_gt
def AD:=@PySem.Heap.size_push
def AE:=@List.Perm.refl
def AF:=@PySem.wpAny_setField
def AG:=@List.append_assoc
def AH:=@List.replicate_succ
def AI:=@Array.getD_eq_getD_getElem?
def AJ:=@PySem.F.slot_tuple_iterator_next
def AK:=@Array.getElem?_toList
def AL:=@List.take_append_drop
def AM:=@List.length_filter_le
def AO:=@List.pairwise_iff_getElem
def AQ:=@Decidable.byContradiction
def AR:=@List.range_eq_range'
def AS:=@PySem.wpAny_passesOwn
def AT:=@PySem.wpAny_rule
def AU:=@Int.toNat_natCast
def AV:=@Bool.or_eq_true
def AW:=@PySem.mem_of_lookup
def AX:=@List.getElem?_replicate
def AY:=@PySem.wpAny_seqItems
def AZ:=@Nat.lt_of_succ_lt_succ
def A4:=@PySem.W.callWith_K
def A5:=@PySem.wpAny_setField_rec
def A7:=@Nat.le_succ
def A8:=@List.nil_append
def A9:=@Nat.sub_self
def Bi:=@List.contains_iff_mem
def Bn:=@Array.perm_iff_toList_perm
def Bz:=@List.getElem?_zip_eq_some
def BA:=@PySem.wpAny_execs_cons
def BB:=@List.getElem_of_mem
def BC:=@Nat.le_of_lt
def BD:=@PySem.codeAny_mono
def BE:=@PySem.F.args_tuple_add_2
def BF:=@Nat.succ.inj
def BH:=@PySem.F.slot_list_append
def BI:=@PySem.F.type_list_append
def BM:=@List.mem_filterMap
def BN:=@PySem.F.entry_tuple_add
def BO:=@Option.map_some
def BQ:=@Bool.eq_iff_iff
def BS:=@PySem.wpAny_attempt
def BU:=@Array.Perm.refl
def BY:=@Option.map_eq_some_iff
def B0:=@PySem.W.cellsFrom_some
def B1:=@PySem.F.slot_tuple_add
def B3:=@List.drop_eq_nil_of_le
def B4:=@List.take_of_length_le
def B5:=@List.any_eq_false
def B6:=@List.Sublist.refl
def B7:=@PySem.W.kitx_list
def B8:=@PySem.W.kitx_dict
def B9:=@PySem.Obj.cls_mapFields
def Cc:=@Bool.not_eq_true'
def Cf:=@Bool.and_false
def Cn:=@List.getElem?_toArray
def Co:=@Nat.sub_eq_zero_of_le
def CA:=@List.isEmpty_iff
def CB:=@List.any_eq_true
def CC:=@List.filter_cons
def CD:=@List.range'_succ
def CH:=@List.set_append_left
def CI:=@PySem.W.mg_of
def CO:=@List.of_mem_zip
def CS:=@List.getElem?_range
def CU:=@List.append_inj
def C4:=@if_true
def C5:=@List.length_pos_iff
def C6:=@or_false
def C7:=@PySem.wpAny_Name
def C8:=@PySem.wpAny_call
def C9:=@PySem.call_meets
def nt{p:Prop}(h:false=true):p:=Bool.noConfusion h
namespace L2
nonrec abbrev jm(s:Stmt):Arguments:=match s with
 |.FunctionDef _ a _ _ _ _ _ _ _ _=>a
 |_=>{ posonlyargs:=[],args:=[],vararg:=none,kwonlyargs:=[],kw_defaults:=[],kwarg:=none,defaults:=[]}
nonrec abbrev bA(s:Stmt):List Stmt:=match s with
 |.FunctionDef _ _ b _ _ _ _ _ _ _=>b
 |_=>[]
nonrec abbrev aE(s:Stmt):Scope:=match s with
 |.FunctionDef _ _ _ _ _ _ sc _ _ _=>sc
 |_=>{ kind:=.function,names:=[],isGenerator:=false,isCoroutine:=false}
end L2
namespace Ev
open L2
abbrev rQ(qs:List Addr)(K:Params->Frag)(P:Params):Frag:=qs.map (λq=>(q,{ cls:=.none,data:=.fields ([].toArray)}))++K P
section
open PySem.W
abbrev Ma(tb:String->Option Builtin)(p:Program)(w:World)(n₀:Nat)(ann:Option Value):Nat->SharedT->Thread->Option SharedT
 | 0,_,_=>none
 |n+1,s,t=>match through t with
  |true=>!s
  |false=>match stepOk n₀ ann t with
   |false=>none
   |true=>match stepT (denote tb) p w s t with
    |!(s',t')=>Ma tb p w n₀ ann n s' t'
    |none=>none
def Ai:∀{n:Nat}{s s':SharedT}{t:Thread},Ma tb p w n₀ ann n s t=!s'->topRun tb p w n₀ ann n s.abs t=!s'.abs
 | 0,_,_,_,h=>by symm
 |n+1,s,s',t,h=>by
  delta Ma at h;delta topRun;cases he:through t with
  |true=>rw[he]at h;symm;rfl
  |false=>
   rw[he]at h;cases hk:stepOk n₀ ann t with
   |false=>rw[hk]at h;symm
   |true=>
    rw[hk]at h;cases hs:stepT (denote tb) p w s t with
    |none=>rw[hs]at h;symm
    |some r=>let(s₂,t₂):=r;rw[hs]at h;rw[stepT_spec hs];show Ai h
abbrev Rg:BT->Nat->List Obj->BT
 |t,_,[]=>t
 |t,n,o::os=>Rg (t.ins n o) (n+1) os
abbrev Gu(P:Params):BT:=Rg .nil 0 (boot_heap P).objs.toList
def Gv(P:Params):absHeap (Gu P) 11 (boot_heap P).life=boot_heap P:=by kernel_rfl
meta abbrev AN (P:Params):Option Value:=(boot_heap P).nsMap mainGlobals "__annotations__"
def CT{p q:Program}{loose:List Str}{Xt:Shared->Bool}{α:Type}{Yf:Shared->α}{Ya:World->α}{N:Nat}{ann:Option Value}
  (e:opening p=plainProg p.main.scope.names) (hN:Nat.ble 600 N=true) (f:∀s,fenceModules? p s=!s) (ha:∀P,AN P=ann)
  (run:∀(w:World) (os:OsState),(Ma treeTable p w 11 ann N #[Gu w.params,11,(boot_heap w.params).life,([].toArray),boot_drawn,boot_toks,os] (topStub p)).map (λs=>
   (staticsOk (importedModules p.main.body) (boot_heap w.params) s.abs.heap&&namesBound p s.abs.heap&&gensDone s.abs&&laidKept (boot_heap w.params) s.abs.heap,openSeen q loose (importedModules p.main.body) Xt true s.abs,Yf s.abs))=!(true,openGood q loose,Ya w)):LeftO p q loose Xt Yf Ya N:=λw=>by
 let((h,gs,d,k,os),e1,e2):=BY.mp (boot_open e hN f w);obtain⟨rfl,rfl,rfl,rfl⟩:h=boot_heap w.params/\gs=Array.mk []/\d=boot_drawn/\k=boot_toks:=by simpa using e2
 let(s,r1,r2):=BY.mp (run w os);obtain⟨l1,l2,l3⟩:_/\_/\_:=by simpa only[Prod.mk.injEq]using r2
 have r:=Ai r1;delta openEnds;rw[e1];exact (topFrom treeTable p w N _).map _=_;have z0:((boot_heap w.params).isNs mainGlobals&&(Array.mk []:Array GenState).size==0)=true:=by kernel_rfl
 have t:topFrom treeTable p w N #[boot_heap w.params,Array.mk [],boot_drawn,boot_toks,os]=!s.abs:=by
  delta topFrom;dsimp only;rw[z0];have r':topRun treeTable p w (boot_heap w.params).objs.size ((boot_heap w.params).nsMap mainGlobals "__annotations__") N #[boot_heap w.params,Array.mk [],boot_drawn,boot_toks,os] (topStub p)=!s.abs:=by
   have:=ha w.params;delta AN at this;rw[this];have z:SharedT.abs #[Gu w.params,11,(boot_heap w.params).life,([].toArray),boot_drawn,boot_toks,os]=#[boot_heap w.params,Array.mk [],boot_drawn,boot_toks,os]:=by delta SharedT.abs;dsimp only;rw[Gv]
   rw[z]at r;show r
  rw[r'];exact (match staticsOk (importedModules p.main.body) (boot_heap w.params) s.abs.heap&&namesBound p s.abs.heap&&gensDone s.abs&&laidKept (boot_heap w.params) s.abs.heap with |true=>_ |false=>_)=_
  rw[l1]
 rw[t];show congrArg some (Prod.ext l2 l3)
def YW(P:Params):AN P=!(.ref 6):=by kernel_rfl
end
end Ev
namespace dN
open L2 Ev
nonrec abbrev st(j:Nat):Stmt:=PySem.Challenge.pw_websbykind_k50_trees_and_middles.main.body.getD j (.Pass #[0,0,0,0])
abbrev de(P:Params)(s:Str)(t:Tok)(v:Value):DictEntry:=#[PyData.keyHash P s,.str s t,v]
abbrev co(vs:Array Value):Obj:=#[.type "code",none,.fields vs,([].toArray)]
abbrev fo(j:Nat)(n:Str)(kV doc pm:Value)(an:Option Addr)(bE ct:Value):Obj:=#[.type "function",none,.func (PySem.W.fnOf n n (jm (st j)) (bA (st j)) (aE (st j)) .none kV doc pm an bE ct),([].toArray)]
abbrev ce(n:Str)(b a s r t u:Nat):Obj:=#[.type "type",none,.cls #[n,[.ref b],[.ref a,.ref b,.type "ValueError",.type "Exception",.type "BaseException",.type "object"],s,n,true,[],[],false,none,false],([!(.ref r),none,!(.str n t),!(.str n u),!(.builtin "ValueError.__new__"),!(.bool true)].toArray)]
nonrec abbrev cd(n:Str)(t l p r:Nat)(x y z:Value)(u:Nat):Obj:=co ([.str n t,.str n (t+1),.str "/claim/cut.py" (t+2),.int l 0,.int p 0,.int 0 0,.int 0 0,.int 3 0,.ref r,.bool true,.int 181 0,.ref (r+1),.none,x,y,z,.int u 0,.int l 0,.str "/claim/cut.py" (u+1)].toArray)
nonrec abbrev fq(j:Nat)(n:Str)(m:Value)(c:Addr):Obj:=fo j n .none .none m none (.ref c) .none
nonrec abbrev m0:Value:=.str "websbykind.whole" 458
nonrec abbrev m1:Value:=.str "websbykind.webs" 476
nonrec abbrev m2:Value:=.str "websbykind.hanging" 511
nonrec abbrev m3:Value:=.str "websbykind.trees" 532
nonrec abbrev m4:Value:=.str "law_websbykind_k50_trees_and_middles" 593
nonrec abbrev K(P:Params):Frag:=
 (¬3,#[.type "dict",none,.dict ([de P "__name__" 165 (.str "law_websbykind_k50_trees_and_middles" 593),de P "__doc__" 166 (.none),de P "__package__" 167 (.none),de P "__loader__" 168 (.builtin "__main__.__loader__#opaque"),de P "__spec__" 169 (.none),de P "__annotations__" 170 (.ref 6),de P "__builtins__" 171 (.ref 4),de P "__file__" 173 (.str "/claim/cut.py" 172),de P "__cached__" 174 (.none),de P "KindError" 206 (.ref 24),de P "NoWeb" 222 (.ref 37),de P "NoNumber" 238 (.ref 49),de P "NoTurn" 254 (.ref 61),de P "NoKind" 270 (.ref 73),de P "NoPlace" 286 (.ref 85),de P "NoTie" 302 (.ref 97),de P "NoNumbers" 318 (.ref 109),de P "NoTree" 334 (.ref 121),de P "NoCode" 350 (.ref 133),de P "NoCounts" 366 (.ref 145),de P "NoMarks" 382 (.ref 157),de P "NoText" 398 (.ref 169),de P "NoLine" 414 (.ref 181),de P "NoDeed" 430 (.ref 193),de P "TooGreat" 457 (.ref 212),de P "is_whole" 466 (.ref 221),de P "is_within" 475 (.ref 228),de P "MOST_PLACES" 479 (.int 6 478),de P "is_web" 485 (.ref 233),de P "is_tie" 491 (.ref 238),de P "is_rising" 497 (.ref 243),de P "must_be_web" 504 (.ref 250),de P "tied_places" 510 (.ref 255),de P "hangs" 519 (.ref 262),de P "pieces" 525 (.ref 267),de P "rings_from" 531 (.ref 272),de P "is_tree" 542 (.ref 279),de P "must_be_tree" 549 (.ref 286),de P "middles" 558 (.ref 293),de P "middles_along" 564 (.ref 298),de P "joined" 571 (.ref 305),de P "code_along" 577 (.ref 310),de P "tree_code" 586 (.ref 317),de P "least_code" 592 (.ref 322),de P "_law_cell_at" 602 (.ref 329),de P "_law_state" 611 (.ref 336),de P "_law_take" 621 (.ref 343),de P "_law_named" 632 (.ref 350),de P "_law_mixed" 642 (.ref 357),de P "_law_tree" 653 (.ref 364),de P "_law_web" 659 (.ref 369),de P "_law_near" 665 (.ref 374),de P "_law_pieces" 671 (.ref 379),de P "_law_is_tree" 678 (.ref 386),de P "_law_same" 684 (.ref 391),de P "_law_ways" 696 (.ref 398),de P "_law_middles" 702 (.ref 403),de P "_law_refused" 708 (.ref 408),de P "_law_bad_web" 716 (.ref 415),de P "law" 722 (.ref 420)].toArray) 60,([].toArray)]) ::
 (¬4,#[.type "module",(!0),.plain,([].toArray)]) ::
 (¬24,#[.type "type",none,.cls #["KindError",[.type "ValueError"],[.ref 24,.type "ValueError",.type "Exception",.type "BaseException",.type "object"],23, "KindError",true,[],[.ref 37,.ref 49,.ref 61,.ref 73,.ref 85,.ref 97,.ref 109,.ref 121,.ref 133,.ref 145,.ref 157,.ref 169,.ref 181,.ref 193,.ref 212],false,none,false],([!(.ref 15),none,!(.str "KindError" 189),!(.str "KindError" 197),!(.builtin "ValueError.__new__"),!(.bool true)].toArray)]) ::
 (¬23,#[.type "dict",none,.dict ([de P "__module__" 196 (.str "websbykind.errors" 187),de P "__firstlineno__" 200 (.int 2 199),de P "__static_attributes__" 201 (.ref 22),de P "__weakref__" 203 (.ref 25),de P "__doc__" 204 (.none)].toArray) 3,([].toArray)]) ::
 (¬37,ce "NoWeb" 24 37 36 28 207 215) ::
 (¬36,#[.type "dict",none,.dict ([de P "__module__" 214 (.str "websbykind.errors" 187),de P "__firstlineno__" 218 (.int 4 217),de P "__static_attributes__" 219 (.ref 35),de P "__doc__" 220 (.none)].toArray) 2,([].toArray)]) ::
 (¬49,ce "NoNumber" 24 49 48 40 223 231) ::
 (¬61,ce "NoTurn" 24 61 60 52 239 247) ::
 (¬73,ce "NoKind" 24 73 72 64 255 263) ::
 (¬85,ce "NoPlace" 24 85 84 76 271 279) ::
 (¬97,ce "NoTie" 24 97 96 88 287 295) ::
 (¬109,ce "NoNumbers" 24 109 108 100 303 311) ::
 (¬121,ce "NoTree" 24 121 120 112 319 327) ::
 (¬120,#[.type "dict",none,.dict ([de P "__module__" 326 (.str "websbykind.errors" 187),de P "__firstlineno__" 330 (.int 18 329),de P "__static_attributes__" 331 (.ref 119),de P "__doc__" 332 (.none)].toArray) 2,([].toArray)]) ::
 (¬133,ce "NoCode" 24 133 132 124 335 343) ::
 (¬145,ce "NoCounts" 24 145 144 136 351 359) ::
 (¬157,ce "NoMarks" 24 157 156 148 367 375) ::
 (¬169,ce "NoText" 24 169 168 160 383 391) ::
 (¬181,ce "NoLine" 24 181 180 172 399 407) ::
 (¬193,ce "NoDeed" 24 193 192 184 415 423) ::
 (¬212,ce "TooGreat" 24 212 211 196 431 439) ::
 (¬220,cd "is_whole" 460 38 1 215 (.ref 217) (.ref 218) (.ref 219) 464) ::
 (¬221,fq 18 "is_whole" m0 220) ::
 (¬227,cd "is_within" 467 40 3 222 (.ref 224) (.ref 225) (.ref 226) 473) ::
 (¬228,fq 19 "is_within" m0 227) ::
 (¬232,cd "is_web" 480 44 1 229 .none .none (.ref 231) 483) ::
 (¬233,fq 22 "is_web" m1 232) ::
 (¬237,cd "is_tie" 486 51 2 234 .none .none (.ref 236) 489) ::
 (¬238,fq 23 "is_tie" m1 237) ::
 (¬242,cd "is_rising" 492 55 1 239 .none .none (.ref 241) 495) ::
 (¬243,fq 24 "is_rising" m1 242) ::
 (¬249,cd "must_be_web" 498 57 1 244 (.ref 246) (.ref 247) (.ref 248) 502) ::
 (¬250,fq 25 "must_be_web" m1 249) ::
 (¬254,cd "tied_places" 505 60 2 251 .none .none (.ref 253) 508) ::
 (¬255,fq 26 "tied_places" m1 254) ::
 (¬261,cd "hangs" 513 67 1 256 (.ref 258) (.ref 259) (.ref 260) 517) ::
 (¬262,fq 28 "hangs" m2 261) ::
 (¬266,cd "pieces" 520 70 1 263 .none .none (.ref 265) 523) ::
 (¬267,fq 29 "pieces" m2 266) ::
 (¬271,cd "rings_from" 526 75 2 268 .none .none (.ref 270) 529) ::
 (¬272,fq 30 "rings_from" m2 271) ::
 (¬278,cd "is_tree" 534 85 1 273 (.ref 275) (.ref 276) (.ref 277) 540) ::
 (¬279,fq 32 "is_tree" m3 278) ::
 (¬285,cd "must_be_tree" 543 89 1 280 (.ref 282) (.ref 283) (.ref 284) 547) ::
 (¬286,fq 33 "must_be_tree" m3 285) ::
 (¬292,cd "middles" 550 92 1 287 (.ref 289) (.ref 290) (.ref 291) 556) ::
 (¬293,fq 34 "middles" m3 292) ::
 (¬297,cd "middles_along" 559 96 1 294 .none .none (.ref 296) 562) ::
 (¬298,fq 35 "middles_along" m3 297) ::
 (¬304,cd "joined" 565 99 1 299 (.ref 301) (.ref 302) (.ref 303) 569) ::
 (¬305,fq 36 "joined" m3 304) ::
 (¬309,cd "code_along" 572 101 3 306 .none .none (.ref 308) 575) ::
 (¬310,fq 37 "code_along" m3 309) ::
 (¬316,cd "tree_code" 578 103 1 311 (.ref 313) (.ref 314) (.ref 315) 584) ::
 (¬317,fq 38 "tree_code" m3 316) ::
 (¬321,cd "least_code" 587 107 1 318 .none .none (.ref 320) 590) ::
 (¬322,fq 39 "least_code" m3 321) ::
 (¬328,cd "_law_cell_at" 595 110 2 323 (.ref 325) (.ref 326) (.ref 327) 600) ::
 (¬329,fq 41 "_law_cell_at" m4 328) ::
 (¬335,cd "_law_state" 603 114 2 330 (.ref 332) (.ref 333) (.ref 334) 609) ::
 (¬336,fq 42 "_law_state" m4 335) ::
 (¬342,cd "_law_take" 612 119 2 337 (.ref 339) (.ref 340) (.ref 341) 619) ::
 (¬343,fq 43 "_law_take" m4 342) ::
 (¬349,cd "_law_named" 622 128 2 344 (.ref 346) (.ref 347) (.ref 348) 630) ::
 (¬350,fq 44 "_law_named" m4 349) ::
 (¬356,cd "_law_mixed" 633 133 2 351 (.ref 353) (.ref 354) (.ref 355) 640) ::
 (¬357,fq 45 "_law_mixed" m4 356) ::
 (¬363,cd "_law_tree" 643 139 2 358 (.ref 360) (.ref 361) (.ref 362) 651) ::
 (¬364,fq 46 "_law_tree" m4 363) ::
 (¬368,cd "_law_web" 654 145 1 365 .none .none (.ref 367) 657) ::
 (¬369,fq 47 "_law_web" m4 368) ::
 (¬373,cd "_law_near" 660 166 2 370 .none .none (.ref 372) 663) ::
 (¬374,fq 48 "_law_near" m4 373) ::
 (¬378,cd "_law_pieces" 666 168 1 375 .none .none (.ref 377) 669) ::
 (¬379,fq 49 "_law_pieces" m4 378) ::
 (¬385,cd "_law_is_tree" 672 178 1 380 (.ref 382) (.ref 383) (.ref 384) 676) ::
 (¬386,fq 50 "_law_is_tree" m4 385) ::
 (¬390,cd "_law_same" 679 180 2 387 .none .none (.ref 389) 682) ::
 (¬391,fq 51 "_law_same" m4 390) ::
 (¬397,cd "_law_ways" 685 188 2 392 (.ref 394) (.ref 395) (.ref 396) 694) ::
 (¬398,fq 52 "_law_ways" m4 397) ::
 (¬402,cd "_law_middles" 697 196 1 399 .none .none (.ref 401) 700) ::
 (¬403,fq 53 "_law_middles" m4 402) ::
 (¬407,cd "_law_refused" 703 202 1 404 .none .none (.ref 406) 706) ::
 (¬408,fq 54 "_law_refused" m4 407) ::
 (¬414,cd "_law_bad_web" 709 216 1 409 (.ref 411) (.ref 412) (.ref 413) 714) ::
 (¬415,fq 55 "_law_bad_web" m4 414) ::
 (¬419,cd "law" 717 221 1 416 .none .none (.ref 418) 720) ::
 (¬420,fq 56 "law" m4 419)::[]
abbrev as:List Addr:=[¬3,¬4,¬24,¬23,¬37,¬36,¬49,¬61,¬73,¬85,¬97,¬109,¬121,¬120,¬133,¬145,¬157,¬169,¬181,¬193,¬212,¬220,¬221,¬227,¬228,¬232,¬233,¬237,¬238,¬242,¬243,¬249,¬250,¬254,¬255,¬261,¬262,¬266,¬267,¬271,¬272,¬278,¬279,¬285,¬286,¬292,¬293,¬297,¬298,¬304,¬305,¬309,¬310,¬316,¬317,¬321,¬322,¬328,¬329,¬335,¬336,¬342,¬343,¬349,¬350,¬356,¬357,¬363,¬364,¬368,¬369,¬373,¬374,¬378,¬379,¬385,¬386,¬390,¬391,¬397,¬398,¬402,¬403,¬407,¬408,¬414,¬415,¬419,¬420]
nonrec abbrev as2:List Addr:=nat_lit 417 ::  as
abbrev qv:Program:={ PySem.Challenge.pw_websbykind_k50_trees_and_middles with main:={ PySem.Challenge.pw_websbykind_k50_trees_and_middles.main with body:=[st 1,st 2,st 3,st 4,st 5,st 6,st 7,st 8,st 9,st 10,st 11,st 12,st 13,st 14,st 15,st 16,st 18,st 19,st 21,st 22,st 23,st 24,st 25,st 26,st 28,st 29,st 30,st 32,st 33,st 34,st 35,st 36,st 37,st 38,st 39,st 41,st 42,st 43,st 44,st 45,st 46,st 47,st 48,st 49,st 50,st 51,st 52,st 53,st 54,st 55,st 56]}}
def YX(P:Params):as2=(rQ [417] K P).map (·.1):=by kernel_rfl
def op:PySem.W.opening PySem.Challenge.rw_websbykind_k50_trees_and_middles.row.prog=PySem.W.plainProg PySem.Challenge.rw_websbykind_k50_trees_and_middles.row.prog.main.scope.names:=by kernel_rfl
def fe:∀s,PySem.fenceModules? PySem.Challenge.rw_websbykind_k50_trees_and_middles.row.prog s=!s:=λs=>by kernel_rfl
def hl:PySem.W.LeftO PySem.Challenge.rw_websbykind_k50_trees_and_middles.row.prog qv [] (λs=>PySem.W.xlAt qv [] s&&PySem.W.recOk (PySem.W.OpenRow.toRowW PySem.Challenge.rw_websbykind_k50_trees_and_middles.row).records s) (λs=>as2.map s.heap.get?) (λw=>(rQ [417] K w.params).map λp:Nat×Obj=>!p.2) 8000:=CT op ⋯ fe YW λw os=>by kernel_rfl
end dN
namespace Ev
open PySem PySem.W
end Ev
namespace L2
def Key:=Sum Int Str
abbrev rR:Key->Value->Bool
 |.inl k,v=>Value.isInt k v
 |.inr x,v=>Value.isStrOf x v
abbrev keyH(w:World):Key->Int
 |.inl k=>hashInt k
 |.inr x=>hashStr w x
def aV:∀{k:Key}{v:Value},rR k v=true->(∃i t,k=Sum.inl i/\v=Value.int i t)\/(∃x t,k=Sum.inr x/\v=Value.str x t)
 |.inl i,v,h=>by
  let(t,e):=Value.isInt_shape h;show .inl #[i,t,rfl,e]
 |.inr x,v,h=>by
  let(t,e):=Value.isStrOf_shape h;show .inr #[x,t,rfl,e]
def CV(i:Int)(t:Tok):rR (.inl i) (.int i t)=true:=by simp[rR,Value.isInt]
def Sv(a b:Int):decide ((Sum.inl a:Key)=Sum.inl b)=(a==b):=by
 by_cases e:a=b
 . subst e;simp
 .
  have h : ¬ (Sum.inl a:Key)=Sum.inl b:=λq=>e (Sum.inl.inj q)
  rw[tJ h];show (beq_eq_false_iff_ne.mpr e).symm
def Sw(a b:Str):decide ((Sum.inr a:Key)=Sum.inr b)=decide (a=b):=by
 by_cases e:a=b
 . subst e;simp
 .
  have h : ¬ (Sum.inr a:Key)=Sum.inr b:=λq=>e (Sum.inr.inj q)
  rw[tJ h,tJ e]
def Sx(a:Int)(b:Str):decide ((Sum.inl a:Key)=Sum.inr b)=false:=tJ (λq=>nomatch q)
def Sy(a:Str)(b:Int):decide ((Sum.inr a:Key)=Sum.inl b)=false:=tJ (λq=>nomatch q)
abbrev jo(prog:Program)(w:World):PySem.KeyKind prog w Key where
 is:=rR
 hash:=keyH w
 inj:=λv a b ha hb=>by
  rcases aV ha with ⟨i,t,rfl,rfl⟩ |⟨x,t,rfl,rfl⟩
  .
   rcases aV hb with ⟨j,u,rfl,e⟩ |⟨y,u,rfl,e⟩
   . injection e with e1 _;rw[e1]
   . show nomatch e
  .
   rcases aV hb with ⟨j,u,rfl,e⟩ |⟨y,u,rfl,e⟩
   . show nomatch e
   . injection e with e1 _;rw[e1]
 byValue:=λk v h=>by
  rcases aV h with ⟨i,t,rfl,rfl⟩ |⟨x,t,rfl,rfl⟩ <;> rfl
 pyHash:=λhv h=>by
  rcases aV hv with ⟨i,t,rfl,rfl⟩ |⟨x,t,rfl,rfl⟩
  . show wpAny_pyHash_int h
  . show wpAny_pyHash_str h
 eqBool:=λhu hv h=>by
  rcases aV hu with ⟨i,t,rfl,rfl⟩ |⟨x,t,rfl,rfl⟩
  .
   rcases aV hv with ⟨j,u,rfl,rfl⟩ |⟨y,u,rfl,rfl⟩
   . rw[Sv]at h;show wpAny_eqBool_int h
   . rw[Sx]at h;show SeqAt.EqAt.int_str i t y u _ _ _ _ h
  .
   rcases aV hv with ⟨j,u,rfl,rfl⟩ |⟨y,u,rfl,rfl⟩
   . rw[Sy]at h;show SeqAt.EqAt.str_int x t j u _ _ _ _ h
   . rw[Sw]at h;show wpAny_eqBool_str h
 «strs»:=λk x t v h=>by
  rcases aV h with ⟨i,u,rfl,e⟩ |⟨y,u,rfl,e⟩
  . show nomatch e
  . injection e with e1 _;subst e1;cases v <;> rfl
def vn(prog:Program)(w:World)(i:Int)(t:Tok):(jo prog w).is (.inl i) (.int i t)=true:=CV i t
inductive V where
 |non |bl (b:Bool) |int (i:Int) |str (x:Str) |Sz (b:Array UInt8) |flt (b:UInt64) |ref (a:Addr) |ty (n:String)
 deriving DecidableEq
abbrev RelV:V->Value->Prop
 |.non,u=>u=Value.none
 |.bl b,u=>u=Value.bool b
 |.int i,u=>∃t,u=Value.int i t
 |.str x,u=>∃t,u=Value.str x t
 |.Sz b,u=>∃t,u=Value.bytes b t
 |.flt b,u=>∃t,u=Value.float b t
 |.ref a,u=>u=Value.ref a
 |.ty n,u=>u=Value.type n
meta abbrev Vals:List V->List Value->Prop:=Paired RelV
def Vals.length{xs:List V}{us:List Value}(r:Vals xs us):xs.length=us.length:=Paired.length r
def Vals.get:∀{xs:List V}{us:List Value}{i:Nat}{x:V},Vals xs us->xs[i]?=!x->∃u,us[i]?=!u/\RelV x u
 |_,_,_,_,.nil,e=>by simp at e
 |_,_,0,_,.cons r _,e=>by simp at e;subst e;show#[_,rfl,r]
 |_,_,i+1,x,.cons _ t,e=>by
  let(u,h1,h2):=Vals.get t (by simpa using e)
  show#[u,by simpa using h1,h2]
def Vals.set(r:RelV x u):∀{xs:List V}{us:List Value} (i:Nat),Vals xs us->Vals (xs.set i x) (us.set i u)
 |_,_,_,.nil=>.nil
 |_,_,0,.cons _ t=>.cons r t
 |_,_,i+1,.cons q t=>.cons q (Vals.set r i t)
def Vals.append:∀{xs ys:List V}{us ws:List Value},Vals xs us->Vals ys ws->Vals (xs++ys) (us++ws):=by
 intro xs ys us ws h s
 induction h with
 |nil=>show s
 |cons r t ih=>show .cons r ih
abbrev oX:Option V->Option Value->Prop
 |!v,!u=>RelV v u
 |none,none=>True
 |_,_=>False
abbrev KV{κ:Type}:List (κ×V)->List (κ×Value)->Prop:=Paired λ(p:κ×V) (q:κ×Value)=>p.1=q.1/\RelV p.2 q.2
abbrev kV:Key->V
 |.inl i=>.int i
 |.inr x=>.str x
inductive HO where
 |lst (xs:List V)
 |tup (xs:List V)
 |dK (lJ:List (Key×V)) |dT (lJ:List (List Key×V))
 |set (φ:Obj->Prop)
 |ins (C dx:Addr) (fs:List (Str×V))
 |own (x:Addr)
 |xd (fs:List (Str×V))
 |met (f x:Addr)
 |nO (lo hi:Int)
 |dJ (o:Obj) (u:HO)
 |nP (ps:Array Value)
 |ext (φ:Heap->Prop)
def Hp:=Addr->Option HO
abbrev upd(H:Hp)(a:Addr)(o:HO):Hp:=λb=>if b=a then some o else H b
def aA:upd H a o a=!o:=by delta upd;rw[i5 rfl]
def az(h:b≠a):upd H a o b=H b:=by delta upd;rw[kA h]
def aH{H:Hp}{a b:Addr}{o:HO}(h:H a=!o)(h':H b=none):a≠b:=by intro e;subst e;rw[h]at h';cases h'
abbrev iC(h:Heap)(a:Addr)(its:Array Value):Prop:=∃o,h.get? a=!o/\(o.cls=.type "tuple" /\∃n,o.data=.seq its n)/\o.dict=none
def iC.tup{h:Heap}{a:Addr}{its:Array Value}(x:iC h a its):IsTup h a its:=let #[o,e,c,_]:=x;#[o,e,c]
def iC.new(h:Heap)(its:Array Value):iC (h.push { cls:=.type "tuple",data:=.seq its}) h.objs.size its:=#[_,fN _ rfl,#[rfl,_,rfl],rfl]
section
variable(P:Program)(w:World)
abbrev cB(H:Hp)(h:Heap)(a:Addr):HO->Prop
 |.lst xs=>xs.length<=sizeLine/\∃(its:List Value) (n:Nat),Vals xs its/\h.get? a=some { cls:=.type "list",data:=.seq its.toArray n}
 |.tup xs=>xs.length<=sizeLine/\∃its:List Value,Vals xs its/\iC h a its.toArray
 |.dK lJ=>lJ.length<=sizeLine/\(a==sysModules)=false/\∃vs,KV lJ vs/\h.DictOf (jo P w) a vs
 |.dT lJ=>lJ.length<=sizeLine/\(a==sysModules)=false/\∃xs:List (List Key×Addr×Value),
   Paired (λ(p:List Key×V) (q:List Key×Addr×Value)=>p.1=q.1/\H q.2.1=!(.tup (p.1.map kV))/\RelV p.2 q.2.2) lJ xs/\
   ∃o es ep,h.get? a=!o/\o.ExactDict/\o.data=.dict es ep/\es.toList=xs.map (entryOfKey (tupleKind (jo P w)))/\(xs.map (·.1)).Nodup
 |.set φ=>∃o,h.get? a=!o/\o.ExactSet/\φ o
 |.ins C dx fs=>H dx=!(.own a)/\fs.length<=1000/\dx≠a/\h.get? a=!(PySem.W.instObj C dx)/\
   ∃mA,h.Ns1 dx mA/\(∀f,oX (fs.lookup f) (mA f))/\PySem.Within mA (fs.map (·.1))
 |.own _=>∃o,h.get? a=!o
 |.xd fs=>∃mA,h.Ns1 a mA/\∀f,oX (fs.lookup f) (mA f)
 |.nO lo hi=>∃t u v,h.get? a=some { cls:=.type "range",data:=.fields ([.int lo t,.int hi u,.int 1 v].toArray)}
 |.dJ o u=>h.get? a=!o/\cB H h a u
 |.nP ps=>h.get? a=some { cls:=.none,data:=.fields ps}
 |.met f x=>h.get? a=!(PySem.W.methodObj (.ref f) (.ref x))
 |.ext φ=>φ h/\(∃o,h.get? a=!o)/\∀h1 h2:Heap,φ h1->(∀o,h1.get? a=!o->h2.get? a=!o)->φ h2
abbrev lO(H:Hp)(h:Heap):Prop:=∀a o,H a=!o->cB P w H h a o
end
section
variable{P:Program}{w:World}{H H':Hp}{h h':Heap}{a:Addr}{o:HO}
def cB.lt(x:cB P w H h a o):a<h.objs.size:=by
 cases o with
 |lst xs=>let(_,_,_,_,e):=x;show fA e
 |tup xs=>let(_,_,_,_,e,_):=x;show fA e
 |dK lJ=>let(_,_,_,_,o,_,_,e,_):=x;show fA e
 |dT lJ=>let(_,_,_,_,o,_,_,e,_):=x;show fA e
 |set φ=>let(o,e,_):=x;show fA e
 |ins C dx fs=>let(_,_,_,e,_):=x;show fA e
 |own y=>let(_,e):=x;show fA e
 |xd fs=>let(_,(_,_,_,e,_),_):=x;show fA e
 |nO lo hi=>let(_,_,_,e):=x;show fA e
 |dJ ob u=>let(e,_):=x;show fA e
 |nP ps=>show fA (show h.get? a=!_ from x)
 |met f y=>show fA (show h.get? a=!_ from x)
 |ext φ=>let(_,(_,e),_):=x;show fA e
def Paired.mapP{α β:Type}{F G:α->β->Prop}:∀{l₁:List α}{l₂:List β},Paired F l₁ l₂->(∀a b,F a b->G a b)->Paired G l₁ l₂:=by
 intro l₁ l₂ h f
 induction h with
 |nil=>show .nil
 |cons r t ih=>show .cons (f _ _ r) ih
def cB.stay(x:cB P w H h a o)(k:∀b u,(b=a\/H b=!(.own a))->h.get? b=!u->h'.get? b=!u)
  (ho:∀b,H b=!(.own a)->H' b=!(.own a)) (ht:∀b xs,H b=!(.tup xs)->H' b=!(.tup xs)):cB P w H' h' a o:=by
 induction o with
 |lst xs=>let(z,its,n,r,e):=x;show#[z,its,n,r,k _ _ (.inl rfl) e]
 |tup xs=>let(z,its,r,ob,e,c):=x;show#[z,its,r,ob,k _ _ (.inl rfl) e,c]
 |dK lJ=>let(z,y,vs,r,ob,es,ep,e,c):=x;show#[z,y,vs,r,ob,es,ep,k _ _ (.inl rfl) e,c]
 |dT lJ=>let(z,y,xs,r,ob,es,ep,e,c):=x;show#[z,y,xs,Paired.mapP r λp q z=>#[z.1,ht _ _ z.2.1,z.2.2],ob,es,ep,k _ _ (.inl rfl) e,c]
 |set φ=>let(ob,e,c):=x;show#[ob,k _ _ (.inl rfl) e,c]
 |ins C dx fs=>let(d,z,ne,e,mA,(od,es,ep,e2,c),r):=x;show#[ho _ d,z,ne,k _ _ (.inl rfl) e,mA,#[od,es,ep,k _ _ (.inr d) e2,c],r]
 |own y=>let(ob,e):=x;show#[ob,k _ _ (.inl rfl) e]
 |xd fs=>let(mA,(od,es,ep,e,c),r):=x;show#[mA,#[od,es,ep,k _ _ (.inl rfl) e,c],r]
 |nO lo hi=>let(t,u,v,e):=x;show#[t,u,v,k _ _ (.inl rfl) e]
 |dJ ob u ih=>let(e,q):=x;show#[k _ _ (.inl rfl) e,ih q]
 |nP ps=>have e:=x;show k a _ (.inl rfl) e
 |met f y=>have e:=x;show k a _ (.inl rfl) e
 |ext φ=>let(p,(o,e),st):=x;show#[st _ _ p λo q=>k _ _ (.inl rfl) q,#[o,k _ _ (.inl rfl) e],st]
def lO.lt(x:lO P w H h)(e:H a=!o):a<h.objs.size:=(x a o e).lt
def lO.fresh(x:lO P w H h)(e:h.objs.size<=a):H a=none:=by
 cases q:H a with
 |none=>rfl
 |some u=>show absurd (eM (x.lt q) e) (pV _)
def lO.kept(x:lO P w H h)(k:∀b u,h.get? b=!u->h'.get? b=!u):lO P w H h':=λa o e=>
 (x a o e).stay (λb u _ q=>k b u q) (λ_ q=>q) λ_ _ q=>q
def lO.laid(x:lO P w H h)(k:∀b u,h.get? b=!u->h'.get? b=!u)(hp:h.objs.size<=a)(new:cB P w (upd H a o) h' a o):lO P w (upd H a o) h':=λb u e=>by
 have hn:=x.fresh hp;by_cases hb:b=a
 . subst hb;rw[aA]at e;cases e;show new
 . rw[az hb]at e;show (x b u e).stay (λc v _ q=>k c v q) (λc q=>by rw[az (aH q hn)];show q) λc xs q=>by rw[az (aH q hn)];show q
end
abbrev Rd(H:Hp)(a:Addr)(u:HO):Prop:=H a=!u\/∃o,H a=!(.dJ o u)
def Rd.ok{P:Program}{w:World}{H:Hp}{h:Heap}{a:Addr}{u:HO}(r:Rd H a u)(x:lO P w H h):cB P w H h a u:=by
 rcases r with r |⟨o,r⟩
 . show x a u r
 . let(_,q):=x a _ r;show q
abbrev Mut:Option HO->Prop
 |!(.lst _)=>True
 |!(.dK _)=>True
 |!(.dT _)=>True
 |!(.set _)=>True
 |!(.ins _ _ _)=>True
 |!(.ext _)=>True
 |_=>False
section
variable{P:Program}{w:World}{H:Hp}{h h':Heap}{x e:Addr}{o':HO}
def lO.write(ok:lO P w H h)(mu:Mut (H x))(he:e=x\/H e=!(.own x))(k:∀b u,b≠e->h.get? b=!u->h'.get? b=!u)(Yd:∃u,h'.get? e=!u)
  (new:cB P w (upd H x o') h' x o'):lO P w (upd H x o') h':=λb u q=>by
 have YZ:∀c y,H c=!(.own y)->c≠x:=λc y r z=>by subst z;rw[r]at mu;show mu
 have ntup:∀c xs,H c=!(.tup xs)->c≠x:=λc xs r z=>by subst z;rw[r]at mu;show mu
 by_cases hb:b=x
 . subst hb;rw[aA]at q;cases q;show new
 .
  rw[az hb]at q;by_cases SJ:b=e
  .
   have q':H b=!(.own x):=by
    rcases he with z |z
    . show absurd (SJ.trans z) hb
    . rw[SJ];show z
   rw[q]at q';cases q';let(v,hv):=Yd;show#[v,by rw[SJ];show hv]
  .
   apply (ok b u q).stay (λc v hc r=>k c v ?_ r) (λc r=>by rw[az (YZ c b r)];show r) λc xs r=>by rw[az (ntup c xs r)];show r
   rcases hc with rfl |hc
   . show SJ
   .
    rintro rfl;rcases he with z |z
    . show YZ c b hc z
    . rw[hc]at z;cases z;show hb rfl
end
structure Un(fs ex:List Addr)(H H':Hp)(h h':Heap):Prop where
 keep:∀b o,h.get? b=!o->H b=none->b∉fs->b∉ex->h'.get? b=!o
 slot:∀b o,h.get? b=!o->H b=none->b∈fs->b∉ex->∃sl,h'.get? b=some { o with slots:=sl}
 free:∀b o,h.get? b=!o->H b=none->b∉ex->H' b=none
 there:∀b o,h.get? b=!o->b∉ex->∃o',h'.get? b=!o'
 tups:∀b xs,H b=!(.tup xs)->H' b=!(.tup xs)
 kF:∀b o u,H b=!(.dJ o u)->H' b=!(.dJ o u)
 kG:∀b ps,H b=!(.nP ps)->∃more,H' b=!(.nP (ps++more))
section
variable{fs fs' ex ex':List Addr}{H H1 H2:Hp}{h h1 h2 h':Heap}{a x e:Addr}{o:HO}
def Un.any(u:Un fs ex H H1 h h1){b:Addr}{ob:Obj}(q:h.get? b=!ob)(n:H b=none)(hx:b∉ex):∃sl,h1.get? b=some { ob with slots:=sl}:=by
 by_cases hb:b∈fs
 . show u.slot b ob q n hb hx
 . show#[ob.slots,u.keep b ob q n hb hx]
def Un.kept(k:∀b u,h.get? b=!u->h'.get? b=!u):Un fs ex H H h h':=
 #[λb ob q _ _ _=>k b ob q,λb ob q _ _ _=>#[ob.slots,k b ob q],λ_ _ _ n _=>n,λb ob q _=>#[ob,k b ob q],λ_ _ q=>q,λ_ _ _ q=>q,λ_ ps q=>#[([].toArray),by rw[q];simp]]
def Un.refl:Un fs ex H H h h:=Un.kept λ_ _ q=>q
def Un.laid(k:∀b u,h.get? b=!u->h'.get? b=!u)(hp:h.objs.size<=a)(hn:H a=none):Un fs ex H (upd H a o) h h' where
 keep:=λb u q _ _ _=>k b u q
 slot:=λb u q _ _ _=>#[u.slots,k b u q]
 free:=λb u q n _=>by rw[az (kS (eM (fA q) hp))];show n
 there:=λb u q _=>#[u,k b u q]
 tups:=λb xs q=>by rw[az (aH q hn)];show q
 kF:=λb u xs q=>by rw[az (aH q hn)];show q
 kG:=λb ps q=>#[([].toArray),by rw[az (aH q hn),q];simp]
def Un.write(mu:Mut (H x))(he:e=x\/H e=!(.own x))(k:∀b u,b≠e->h.get? b=!u->h'.get? b=!u)(Yd:∃u,h'.get? e=!u):Un fs ex H (upd H x o) h h':=by
 have hx:∀b,H b=none->b≠x:=λb n z=>by subst z;rw[n]at mu;show mu
 have hb:∀b,H b=none->b≠e:=λb n z=>by
  subst z;rcases he with r |r
  . show hx b n r
  . rw[n]at r;cases r
 have hm:∀b u,H b=!u->¬ Mut (!u)->b≠x:=λb u q nm z=>by subst z;rw[q]at mu;show nm mu
 apply#[λb u q n _ _=>k b u (hb b n) q,λb u q n _ _=>#[u.slots,k b u (hb b n) q],λb u q n _=>by rw[az (hx b n)];show n,λb u q _=>?_,
  λb xs q=>by rw[az (hm b _ q λz=>z)];show q,λb u xs q=>by rw[az (hm b _ q λz=>z)];show q,λb ps q=>#[([].toArray),by rw[az (hm b _ q λz=>z),q];simp]]
 by_cases SJ:b=e
 . subst SJ;show Yd
 . show#[u,k b u SJ q]
end
abbrev trk(h:Heap)(H:Hp):List Addr:=(List.range h.objs.size).filter λa=>(H a).isSome
abbrev tN(h:Heap)(H:Hp):Heap:=PySem.W.hideAll h (trk h H)
def CW(h:Heap)(H:Hp):(tN h H).objs.size=h.objs.size:=PySem.W.hideAll_size _ _
def Gw(e:h.get? b=!o)(n:H b=none):(tN h H).get? b=!o:=
 PySem.W.hideAll_get _ e λhm=>by
  have q:=(hV.mp hm).2;rw[n]at q;simp at q
def Mf(e:(tN h H).get? b=!o):h.get? b=!o/\H b=none:=by
 have e':=PySem.W.of_hideAll (trk h H) e;apply#[e',?_];cases q:H b with
 |none=>rfl
 |some x=>
  have hm:b∈trk h H:=hV.mpr #[t5.mpr (fA e'),by simp[q]]
  have z:(tN h H).get? b=none:=PySem.W.hideAll_none (trk h H) hm;rw[z]at e;cases e
abbrev Mg(g h:Heap)(L:Addr): ~~~1:=(List.range h.objs.size).filterMap λa=>if a=L\/(g.get? a).isSome=true then none else (h.get? a).map λo=>(a,o)
abbrev rest(g h:Heap)(L d:Addr): ~~~1:=(Mg g h L).filter λp=>decide (p.1≠d)
structure Mod(K:Frag)(mg:Str->Option Value)(base:Heap):Prop where
 ym:K.In base
 glob:base.Ns mainGlobals mg
 blt:∃mb,base.Ns builtinsNs mb/\∀x:Str,x≠ "__name__" ->mb x=bootBuiltins x
 nolimit:base.NoLimit
structure Cx where
 prog:Program
 w:World
 K:Frag
 mg:Str->Option Value
 base:Heap
 A:Around
 N:List Str
 s₀:Shared
 H₀:Hp
 env:Env
 outer:List Env
 stack:List Env
 ex:List Addr
 fn:Str->Bool
 calm:Bool
 pn:List (Addr×Obj)
 xe:Value->Shared->Prop
abbrev frs(l:List Env):List Addr:=l.filterMap (·.frame)
meta abbrev Cx.fs(X:Cx):List Addr:=frs X.outer
abbrev g9(sc:Scope)(x:Str):Prop:=sc.names.lookup x=some .local\/sc.names.lookup x=some .cell\/sc.names.lookup x=some .free
abbrev Loc(sc:Scope)(x:Str):Prop:=sc.names.lookup x=some .local\/sc.names.lookup x=some .cell
abbrev Look(env:Env)(h:Heap)(m:Str->Option Value)(x:Str)(u:Value):Prop:=
 (env.kindOf x=some .local/\m x=!u)\/((env.kindOf x=some .cell\/env.kindOf x=some .free)/\∃c,env.cells.lookup x=!c/\h.IsCell c (!u))
structure Cx.Ok(X:Cx):Prop where
 mod:Mod X.K X.mg X.base
 kind:X.env.scope.kind=.function
 glob:X.env.globals=mainGlobals
 blt:X.env.builtins=builtinsNs
 above:X.s₀⁻¹<=X.env.locals
 inj:∀x y c,X.env.cells.lookup x=!c->X.env.cells.lookup y=!c->x=y
 has:∀x,(X.env.kindOf x=some .cell\/X.env.kindOf x=some .free)->∃c,X.env.cells.lookup x=!c
 SM:∀x c,X.fn x=true->X.env.cells.lookup x=!c->X.s₀⁻¹<=c
 hd:X.calm=true->X.A.handled=none
 frames:X.A.frames=!X.stack
 stk:X.stack=X.outer\/(X.stack=X.env::X.outer/\X.env.frame=!X.env.locals)
 Ye:∀b∈X.ex,b≠X.env.locals/\∀x c,X.env.cells.lookup x=!c->c≠b
 bs:∀b o,X.base.get? b=!o->X.s₀.heap.get? b=!o/\X.H₀ b=none
 Gx:X.base.objs.size<=X.s₀⁻¹
 vq:∀b o,X.base.get? b=!o->b∉X.ex
 yx:∀b∈X.ex,b∉X.fs
 kJ:X.s₀.heap.FunFrames X.base X.outer
 Mh:∀b∈X.fs,X.H₀ b=none
structure Inv(X:Cx)(aj: ~~~1)(σ:List (Option V))(H:Hp)(s:Shared):Prop where
 ok:X.Ok
 os:s.os=X.s₀.os
 bare:AllBare s.gens
 base:Un X.fs X.ex X.H₀ H X.s₀.heap s.heap
 loc:∃m,s.heap.Ns X.env.locals m/\∀(i:Nat) (x:Str) (v:V),X.N[i]?=!x->σ[i]?=!(!v)->g9 X.env.scope x->∃u,RelV v u/\Look X.env s.heap m x u
 cell:∀x c,X.env.cells.lookup x=!c->∃v,s.heap.IsCell c v
 free:H X.env.locals=none
 dO:∀x c,X.env.cells.lookup x=!c->H c=none
 pin:∀p∈X.pn++aj,s.heap.get? p.1=!p.2/\H p.1=none/\p.1≠X.env.locals/\p.1∉X.fs/\∀v,p.2.data≠.cell v
 hok:lO X.prog X.w H s.heap
 len:σ.length=X.N.length
section
variable{X:Cx}{aj: ~~~1}{σ:List (Option V)}{H H':Hp}{s:Shared}{h':Heap}
def Cx.Ok.nofr(ok:X.Ok)(e:X.base.get? b=!o):b∉X.fs:=λhb=>by
 have:=(ok.kJ.mem hb).1;rw[e]at this;cases this
def Inv.bs(I: ~~~7):∀b o,X.base.get? b=!o->s.heap.get? b=!o/\H b=none:=λb o e=>
 #[I.base.keep b o (I.ok.bs b o e).1 (I.ok.bs b o e).2 (I.ok.nofr e) (I.ok.vq b o e),I.base.free b o (I.ok.bs b o e).1 (I.ok.bs b o e).2 (I.ok.vq b o e)]
def Inv.bk(I: ~~~7):∀b o,X.base.get? b=!o->s.heap.get? b=!o:=λb o e=>(I.bs b o e).1
def Inv.mod(I: ~~~7):Mod X.K X.mg X.base:=I.ok.mod
def Inv.oY(I: ~~~7):X.K.In s.heap:=I.ok.mod.ym.keeps I.bk
def Inv.nolimit(I: ~~~7):s.heap.NoLimit:=I.ok.mod.nolimit.keeps I.bk
def Inv.lt(I: ~~~7):X.env.locals<s⁻¹:=let #[_,hn,_]:=I.loc;hn.lt
def Inv.sz(I: ~~~7):X.s₀⁻¹<=s⁻¹:=sK I.ok.above (BC I.lt)
def Inv.nofs(I: ~~~7)(h:s⁻¹<=a):a∉X.fs:=λhb=>by
 let(_,o,ho,_):=I.ok.kJ.mem hb;show absurd (eM (fA ho) (sK I.sz h)) (pV _)
def Inv.SN(I: ~~~7):∀x c,X.env.cells.lookup x=!c->c≠X.env.locals:=λx c e z=>by
 let(v,o,ho,hd):=I.cell x c e;let(m,(o',es,ep,ho',hd',_),_):=I.loc;rw[z,ho']at ho;cases ho;rw[hd']at hd;cases hd
def Inv.kJ(I: ~~~7):s.heap.FunFrames X.base X.outer:=by
 have all:∀(l:List Env),(∀b∈frs l,b∈X.fs)->X.s₀.heap.FunFrames X.base l->s.heap.FunFrames X.base l:=by
  intro l
  induction l with
  |nil=>intro _ _;trivial
  |cons env r ih=>
   intro hs hl;let(hk,(L,o,hf,hn,ho,hd),hr):=hl;have hL:=hs L (by delta frs;rw[v6,hf];show dA)
   let(sl,e):=I.base.slot L o ho (I.ok.Mh L hL) hL λz=>I.ok.yx L z hL
   show#[hk,#[L,_,hf,hn,e,hd],ih (λb hb=>hs b (by delta frs;rw[v6,hf];show bP _ hb)) hr]
 show all X.outer (λ_ hb=>hb) I.ok.kJ
def Inv.stack(I: ~~~7):s.heap.FunFrames X.base X.stack:=by
 rcases I.ok.stk with e |⟨e,hf⟩
 . rw[e];show I.kJ
 .
  rw[e];let(m,hn,_):=I.loc;apply .cons (by rw[I.ok.kind];decide) hf hn ?_ I.kJ
  show Heap.get?_none_of_le (sK I.ok.Gx I.ok.above)
def Inv.yy(I: ~~~7):∀b∈frs X.stack,b∈X.env.locals::X.fs:=λb hb=>by
 rcases I.ok.stk with e |⟨e,hf⟩
 . rw[e]at hb;show bP _ hb
 . rw[e]at hb;delta frs at hb;rw[v6,hf]at hb;show hb
def Inv.tQ(I: ~~~7):∀b∈frs X.stack,H b=none:=λb hb=>by
 rcases d6.mp (I.yy b hb)with e |hb
 . rw[e];show I.free
 . let(_,o,ho,_):=I.ok.kJ.mem hb;show I.base.free b o ho (I.ok.Mh b hb) λz=>I.ok.yx b z hb
def Inv.step{g':Array GenState}{t':Nat}{d':Drawn}{ch:List Addr}(I: ~~~7)
  (hch:∀b∈ch,(b∈X.ex\/X.s₀⁻¹<=b)/\b≠X.env.locals/\(∀x c,X.env.cells.lookup x=!c->c≠b)/\∀p∈X.pn++aj,p.1≠b)
  (keep:∀b o,b≠X.env.locals->b∉X.fs->b∉ch->s.heap.get? b=!o->H b=none->h'.get? b=!o)
  (slot:∀b o,b≠X.env.locals->b∈X.fs->b∉ch->s.heap.get? b=!o->H b=none->∃sl,h'.get? b=some { o with slots:=sl}) (free:∀b o,b∉ch->s.heap.get? b=!o->H b=none->H' b=none)
  (there:∀b o,b∉ch->s.heap.get? b=!o->∃o',h'.get? b=!o')
  (tups:∀b xs,H b=!(.tup xs)->H' b=!(.tup xs)) (kF:∀b o u,H b=!(.dJ o u)->H' b=!(.dJ o u)) (kG:∀b ps,H b=!(.nP ps)->∃more,H' b=!(.nP (ps++more)))
  (ns:∀m,s.heap.Ns X.env.locals m->h'.Ns X.env.locals m) (hok:lO X.prog X.w H' h') (hg:AllBare g') :
  Inv X aj σ H' { s with heap:=h',gens:=g',drawn:=d',toks:=t'}:=by
 have neL:∀b o,X.s₀.heap.get? b=!o->b≠X.env.locals:=λb o e=>kS (eM (fA e) I.ok.above)
 have neC:∀b o,X.s₀.heap.get? b=!o->b∉X.ex->b∉ch:=λb o e hx hb=>by
  rcases (hch b hb).1 with z |z
  . show hx z
  . show absurd (eM (fA e) z) (pV _)
 have cellK:∀x c,X.env.cells.lookup x=!c->∀v,s.heap.IsCell c v->h'.IsCell c v:=by
  rintro x c e v ⟨o,ho,hd⟩;have Y0:c∉ch:=λz=>(hch c z).2.2.1 x c e rfl
  by_cases hc:c∈X.fs
  . let(sl,q):=slot c o (I.SN x c e) hc Y0 ho (I.dO x c e);show#[_,q,hd]
  . show#[o,keep c o (I.SN x c e) hc Y0 ho (I.dO x c e),hd]
 apply#[I.ok,I.os,hg,#[λb o e n hb hx=>?_,λb o e n hb hx=>?_,λb o e n hx=>?_,λb o e hx=>?_,λb xs e=>tups b xs (I.base.tups b xs e),λb o xs e=>kF b o xs (I.base.kF b o xs e),λb ps e=>?_],?_,λx c e=>?_,?_,λx c e=>?_,λp hp=>?_,hok,I.len]
 . show keep b o (neL b o e) hb (neC b o e hx) (I.base.keep b o e n hb hx) (I.base.free b o e n hx)
 . let(sl,e1):=I.base.slot b o e n hb hx;let(sl',e2):=slot b _ (neL b o e) hb (neC b o e hx) e1 (I.base.free b o e n hx);show#[sl',e2]
 . let(o',e1):=I.base.there b o e hx;show free b o' (neC b o e hx) e1 (I.base.free b o e n hx)
 . let(o',e1):=I.base.there b o e hx;show there b o' (neC b o e hx) e1
 . let(m1,e1):=I.base.kG b ps e;let(m2,e2):=kG b _ e1;show#[m1++m2,by rw[e2,Array.append_assoc]]
 .
  let(m,hn,hl):=I.loc;apply#[m,ns m hn,λi x v e1 e2 e3=>?_]
  let(u,r,l):=hl i x v e1 e2 e3;apply#[u,r,?_];rcases l with l |⟨k,c,e,z⟩
  . show .inl l
  . show .inr #[k,c,e,cellK x c e _ z]
 . let(v,z):=I.cell x c e;show#[v,cellK x c e v z]
 . let(m,(o,_,_,ho,_),_):=I.loc;show free _ o (λz=>(hch _ z).2.1 rfl) ho I.free
 . let(v,o,ho,hd):=I.cell x c e;show free c o (λz=>(hch c z).2.2.1 x c e rfl) ho (I.dO x c e)
 .
  let(e,n,ne,nf,d):=I.pin p hp;have Y0:p.1∉ch:=λz=>(hch p.1 z).2.2.2 p hp rfl
  show#[keep p.1 p.2 ne nf Y0 e n,free p.1 p.2 Y0 e n,ne,nf,d]
def Inv.un{t':Nat}(I: ~~~7)(u:Un X.fs [] H H' s.heap h')(hok:lO X.prog X.w H' h'):Inv X aj σ H' { s with heap:=h',toks:=t'}:=by
 let(m,(o,es,ep,ho,r),_):=id I.loc;let(sl,hL):=u.any ho I.free ⋯;show I.step (ch:=[]) (λ_ z=>nomatch z) (λb o _ hb _ e n=>u.keep b o e n hb ⋯) (λb o _ hb _ e n=>u.slot b o e n hb ⋯) (λb o _ e n=>u.free b o e n ⋯) (λb o _ e=>u.there b o e ⋯) u.tups u.kF u.kG (λm' hm=>by
  let(o',es',yz,ho',r'):=hm;rw[ho]at ho';cases ho';show#[_,es',yz,hL,r']) hok I.bare
def Inv.call{g':Array GenState}{t':Nat}{d':Drawn}{ch:List Addr}(I: ~~~7)(u:Un (frs X.stack) ch H H' s.heap h')(hok:lO X.prog X.w H' h')(hg:AllBare g')
  (hch:∀b∈ch,(b∈X.ex\/X.s₀⁻¹<=b)/\b≠X.env.locals/\(∀x c,X.env.cells.lookup x=!c->c≠b)/\∀p∈X.pn++aj,p.1≠b) :
  Inv X aj σ H' { s with heap:=h',gens:=g',drawn:=d',toks:=t'}:=by
 let(m,(o,es,ep,ho,r),_):=id I.loc;let(sl,hL):=u.any ho I.free λz=>(hch _ z).2.1 rfl
 show I.step hch (λb o hL hb hc e n=>u.keep b o e n (λz=>(d6.mp (I.yy b z)).elim hL hb) hc) (λb o _ _ hc e n=>u.any e n hc) (λb o hc e n=>u.free b o e n hc) (λb o hc e=>u.there b o e hc) u.tups u.kF u.kG (λm' hm=>by
  let(o',es',yz,ho',r'):=hm;rw[ho]at ho';cases ho';show#[_,es',yz,hL,r']) hok hg
def Inv.turned{t':Nat}{it:Addr}(I: ~~~7)(k:∀b o,b≠it->s.heap.get? b=!o->h'.get? b=!o)(hn:H it=none)(hL:it≠X.env.locals)
  (h1:it∈X.ex\/X.s₀⁻¹<=it) (h2:∀x c,X.env.cells.lookup x=!c->c≠it) (h3:∀p∈X.pn++aj,p.1≠it):Inv X aj σ H { s with heap:=h',toks:=t'}:=by
 have nit:∀b u,H b=!u->b≠it:=λb u e z=>by rw[z,hn]at e;cases e
 apply I.step (ch:=[it]) (λb hb=>?_) (λb o _ _ hc e _=>k b o (λz=>hc (by simp[z])) e) (λb o _ _ hc e _=>#[o.slots,k b o (λz=>hc (by simp[z])) e]) (λ_ _ _ _ n=>n)
  (λb o hc e=>#[o,k b o (λz=>hc (by simp[z])) e]) (λ_ _ e=>e) (λ_ _ _ e=>e) (λb ps e=>#[([].toArray),by rw[e];simp]) (λm hm=>?_) (λb u e=>?_) I.bare
 .
  have e:b=it:=by simpa using hb
  subst e;show#[h1,hL,h2,h3]
 . let(o,es,ep,ho,r):=hm;show#[o,es,ep,k _ o (sT hL) ho,r]
 .
  apply (I.hok b u e).stay (λc v hc q=>k c v ?_ q) (λ_ q=>q) λ_ _ q=>q
  rcases hc with z |z
  . rw[z];show nit b u e
  . show nit c _ z
def Inv.tok(I: ~~~7)(t:Nat):Inv X aj σ H { s with toks:=t}:=I.un Un.refl I.hok
def Inv.kept{t':Nat}(I: ~~~7)(k:∀b u,s.heap.get? b=!u->h'.get? b=!u):Inv X aj σ H { s with heap:=h',toks:=t'}:=I.un (Un.kept k) (I.hok.kept k)
def Inv.laid{a:Addr}{o:HO}{t':Nat}(I: ~~~7)(k:∀b u,s.heap.get? b=!u->h'.get? b=!u)(hp:s⁻¹<=a)(new:cB X.prog X.w (upd H a o) h' a o) :
  Inv X aj σ (upd H a o) { s with heap:=h',toks:=t'}:=I.un (Un.laid k hp (I.hok.fresh hp)) (I.hok.laid k hp new)
def Inv.write(I: ~~~7)(mu:Mut (H x))(he:e=x\/H e=!(.own x))(k:∀b u,b≠e->s.heap.get? b=!u->h'.get? b=!u)(Yd:∃u,h'.get? e=!u)
  (new:cB X.prog X.w (upd H x o) h' x o):Inv X aj σ (upd H x o) { s with heap:=h',toks:=t'}:=I.un (Un.write mu he k Yd) (I.hok.write mu he k Yd new)
def Inv.Aj(I: ~~~7)(h:∀p∈Y3,s.heap.get? p.1=!p.2/\H p.1=none/\p.1≠X.env.locals/\p.1∉X.fs/\∀v,p.2.data≠.cell v):Inv X Y3 σ H s:=
 #[I.ok,I.os,I.bare,I.base,I.loc,I.cell,I.free,I.dO,λp hp=>(mP.mp hp).elim (λz=>I.pin p (i6 _ z)) (h p),I.hok,I.len]
def oZ{N:List Str}(hN:N.Nodup){i j:Nat}{x:Str}(a:N[i]?=!x)(b:N[j]?=!x):i=j:=by let(h1,e1):=dC.mp a;let(h2,e2):=dC.mp b;show (List.getElem_inj hN).mp (e1.trans e2.symm)
def lP{M:Model}{A:Around}{E:Value->Shared->Prop}{i:Nat}{x:Str}{v:V}{u:Value}{Q:Unit->Shared->Prop}(I: ~~~7)(hN:X.N.Nodup)(hi:X.N[i]?=!x)(hx:Loc X.env.scope x)(r:RelV v u)
  (h:∀s',Inv X aj (σ.set i (!v)) H s'->(∃a,Heap.SameBut a s.heap s'.heap/\(a=X.env.locals\/X.env.cells.lookup x=!a))->Q () s') (hf:X.fn x=true\/X.env.scope.names.lookup x=some .local:=by first |show .inl rfl |show .inr rfl |assumption):wpAny M A (storeName X.env x u) Q E s:=by
 let(m,hn,hl):=id I.loc;have hcls:(X.env.scope.kind==.class||(X.env.scope.kind==.module&&X.env.locals != X.env.globals))=false:=by rw[I.ok.kind];rfl
 have Y4:i<σ.length:=by rw[I.len];show (dC.mp hi).1
 have SN:=I.SN;have tracked:∀{a:Addr}{h':Heap},(∃o,s.heap.get? a=!o/\H a=none)->Heap.SameBut a s.heap h'->lO X.prog X.w H h':=λ{a h'} ha hs b ob e=>by
  let(_,_,hfree):=ha;apply (I.hok b ob e).stay (λc w' hc q=>(hs.2 c ?_).trans q) (λ_ q=>q) λ_ _ q=>q
  rintro rfl;rcases hc with rfl |hc
  . rw[hfree]at e;cases e
  . rw[hfree]at hc;cases hc
 rcases hx with hk |hk
 .
  apply wpAny_storeName_local hk hn (λh' hn' hs=>?_) hcls
  let(oL,_,_,hoL,_):=id hn;apply h _ #[I.ok,I.os,I.bare,#[λb o e n hb hx=>?_,λb o e n hb hx=>?_,I.base.free,λb o e hx=>?_,I.base.tups,I.base.kF,I.base.kG],#[_,hn',λj y v' e1 e2 e3=>?_],λy c e=>?_,I.free,I.dO,λp hp=>?_,tracked #[oL,hoL,I.free] hs,by simpa using I.len] #[_,hs,.inl rfl]
  . show (hs.2 b (kS (eM (fA e) I.ok.above))).trans (I.base.keep b o e n hb hx)
  . let(sl,e1):=I.base.slot b o e n hb hx;show#[sl,(hs.2 b (kS (eM (fA e) I.ok.above))).trans e1]
  . let(o',e1):=I.base.there b o e hx;show#[o',(hs.2 b (kS (eM (fA e) I.ok.above))).trans e1]
  .
   by_cases hj:j=i
   . subst hj;rw[hi]at e1;cases e1;rw[eQ Y4]at e2;cases e2;show#[u,r,.inl #[hk,by simp]]
   .
    rw[eJ (sT hj)]at e2;let(u',r',q):=hl j y v' e1 e2 e3;apply#[u',r',?_];rcases q with ⟨k,e⟩ |⟨k,c,e,z⟩
    .
     apply .inl #[k,?_];have:y≠x:=λe=>hj (oZ hN e1 (e▸hi))
     simp[this,e]
    . show .inr #[k,c,e,z.sameBut hs (SN y c e)]
  . let(w',z):=I.cell y c e;show#[w',z.sameBut hs (SN y c e)]
  . let(e,n,ne,nf,d):=I.pin p hp;show#[(hs.2 p.1 ne).trans e,n,ne,nf,d]
 .
  have hfn:X.fn x=true:=by
   rcases hf with z |z
   . show z
   . rw[z]at hk;cases hk
  let(c,hc):=I.ok.has x (.inl hk);let(w',z):=I.cell x c hc;apply wpAny_storeName_cell I.ok.kind hk hc z (λh' hc' hs=>?_)
  let(oc,hoc,hocd):=id z;apply h { s with heap:=h'} ⟨I.ok,I.os,I.bare,⟨λb o e n hb hx=>?_,λb o e n hb hx=>?_,I.base.free,λb o e hx=>?_,I.base.tups,I.base.kF,I.base.kG⟩,⟨m,hn.sameBut hs (sT (SN x c hc)),λj y v' e1 e2 e3=>?_⟩,λy c' e=>?_,I.free,I.dO,λp hp=>?_,tracked ⟨oc,hoc,I.dO x c hc⟩ hs,by simpa using I.len⟩ ⟨c,hs,.inr hc⟩
  . show (hs.2 b (kS (eM (fA e) (I.ok.SM x c hfn hc)))).trans (I.base.keep b o e n hb hx)
  . let(sl,e1):=I.base.slot b o e n hb hx;show#[sl,(hs.2 b (kS (eM (fA e) (I.ok.SM x c hfn hc)))).trans e1]
  . let(o',e1):=I.base.there b o e hx;show#[o',(hs.2 b (kS (eM (fA e) (I.ok.SM x c hfn hc)))).trans e1]
  .
   by_cases hj:j=i
   . subst hj;rw[hi]at e1;cases e1;rw[eQ Y4]at e2;cases e2;show#[u,r,.inr #[.inl hk,c,hc,hc']]
   .
    rw[eJ (sT hj)]at e2;let(u',r',q):=hl j y v' e1 e2 e3;apply#[u',r',?_];rcases q with q |⟨k,c',e,z'⟩
    . show .inl q
    . apply .inr #[k,c',e,z'.sameBut hs ?_];rintro rfl;show hj (oZ hN e1 (I.ok.inj _ _ _ e hc▸hi))
  .
   by_cases hcc:c'=c
   . subst hcc;show#[_,hc']
   . let(w2,z2):=I.cell y c' e;show#[w2,z2.sameBut hs hcc]
  . let(e,n,ne,nf,d):=I.pin p hp;apply#[(hs.2 p.1 ?_).trans e,n,ne,nf,d];intro q;rw[q,hoc]at e;have q':=nN e;show d w' (by rw[<- q'];show hocd)
def kK{M:Model}{A:Around}{E:Value->Shared->Prop}{i:Nat}{x:Str}{v:V}{u:Value}{Q:Unit->Shared->Prop}(I: ~~~7)(hN:X.N.Nodup)(hi:X.N[i]?=!x)(hx:Loc X.env.scope x)(r:RelV v u)
  (h:∀s',Inv X aj (σ.set i (!v)) H s'->Q () s') (hf:X.fn x=true\/X.env.scope.names.lookup x=some .local:=by first |show .inl rfl |show .inr rfl |assumption):wpAny M A (storeName X.env x u) Q E s:=
 lP I hN hi hx r (λs' I' _=>h s' I') hf
def Inv.call'(I: ~~~7)(ho:s'.os=s.os)(u:Un (frs X.stack) ch H H' s.heap s'.heap)(hok:lO X.prog X.w H' s'.heap)(hg:AllBare s'.gens)
  (hch:∀b∈ch,(b∈X.ex\/X.s₀⁻¹<=b)/\b≠X.env.locals/\(∀x c,X.env.cells.lookup x=!c->c≠b)/\∀p∈X.pn++aj,p.1≠b):Inv X aj σ H' s':=by
 let(h',g',d',t',o'):=s';have e:=ho;subst e;show I.call u hok hg hch
end
def XK:=Value->Option Addr->Hp->Prop
def St:=List (Option V)
def VK:=V->Hp->Prop
def TE:=St->Hp->VK->Prop
def TT:=St->Hp->(Bool->Hp->Prop)->Prop
def TA:=St->Hp->(List V->Hp->Prop)->Prop
structure Ends where
 nx:St->Hp->Prop
 rt:VK
 bk:St->Hp->Prop:=λ_ _=>False
 ct:St->Hp->Prop:=λ_ _=>False
def TS:=Ends->St->Hp->Prop
abbrev EP(X:Cx)(aj: ~~~1)(σ:St)(Q:VK)(u:Value)(s':Shared):Prop:=∃v H',Inv X aj σ H' s'/\RelV v u/\Q v H'
abbrev TP(X:Cx)(aj: ~~~1)(σ:St)(Q:Bool->Hp->Prop)(b:Bool)(s':Shared):Prop:=∃H',Inv X aj σ H' s'/\Q b H'
abbrev AP(X:Cx)(aj: ~~~1)(σ:St)(Q:List V->Hp->Prop)(us:List Value)(s':Shared):Prop:=∃vs H',Inv X aj σ H' s'/\Vals vs us/\Q vs H'
abbrev SP(X:Cx)(aj: ~~~1)(D:Ends)(f:Flow)(s':Shared):Prop:=
 match f with
 |.next=>∃σ' H',Inv X aj σ' H' s'/\D.nx σ' H'
 |.brk=>∃σ' H',Inv X aj σ' H' s'/\D.bk σ' H'
 |.cont=>∃σ' H',Inv X aj σ' H' s'/\D.ct σ' H'
 |.ret u=>∃v σ' H',Inv X aj σ' H' s'/\RelV v u/\D.rt v H'
abbrev PE(X:Cx)(e:Expr)(t:TE):Prop:=
 ∀(aj: ~~~1) (s:Shared) (σ:St) (H:Hp) (Q:VK),Inv X aj σ H s->t σ H Q->wpAny (~~~2) X.A (eval e X.env) (EP X aj σ Q) X.xe s
abbrev PT(X:Cx)(e:Expr)(t:TT):Prop:=
 ∀(aj: ~~~1) (s:Shared) (σ:St) (H:Hp) (Q:Bool->Hp->Prop),Inv X aj σ H s->t σ H Q->wpAny (~~~2) X.A (isTrue e X.env (eval e X.env)) (TP X aj σ Q) X.xe s
abbrev PW(X:Cx)(e:Expr)(t:TT):Prop:=
 ∀(whole:Sem Value) (aj: ~~~1) (s:Shared) (σ:St) (H:Hp) (Q:Bool->Hp->Prop),Inv X aj σ H s->t σ H Q->wpAny (~~~2) X.A (isTrue e X.env whole) (TP X aj σ Q) X.xe s
def PW.pt{X:Cx}{e:Expr}{t:TT}(h:PW X e t):PT X e t:=h _
abbrev PA(X:Cx)(es:List Expr)(t:TA):Prop:=
 ∀(pos:Pos) (aj: ~~~1) (s:Shared) (σ:St) (H:Hp) (Q:List V->Hp->Prop),Inv X aj σ H s->t σ H Q->wpAny (~~~2) X.A (spliced (backTo pos (starEach es X.env))) (AP X aj σ Q) X.xe s
abbrev PS(X:Cx)(st:Stmt)(t:TS):Prop:=
 ∀(aj: ~~~1) (s:Shared) (σ:St) (H:Hp) (D:Ends),Inv X aj σ H s->t D σ H->wpAny (~~~2) X.A (exec st X.env) (SP X aj D) X.xe s
abbrev tR(X:Cx)(st:List Stmt)(t:TS):Prop:=
 ∀(aj: ~~~1) (s:Shared) (σ:St) (H:Hp) (D:Ends),Inv X aj σ H s->t D σ H->wpAny (~~~2) X.A (execs st X.env) (SP X aj D) X.xe s
def bU{α:Type}{t:Sem α}{Q Q':α->Shared->Prop}{M:Model}{A:Around}{E:Value->Shared->Prop}{s:Shared}(h:wpAny M A t Q E s)(hQ:∀a s,Q a s->Q' a s):wpAny M A t Q' E s:=i9 h hQ λ_ _ x=>x
section
variable{X:Cx}
abbrev SQ(i:Nat):TE:=λσ H Q=>∃v,σ[i]?=!(!v)/\Q v H
abbrev tC(v:V):TE:=λ_ H Q=>Q v H
def bV(hN:X.N[i]?=!x)(hv:g9 X.env.scope x)(hd:(x==(~~~3))=false:=by decide)(bR:(x==("__classdict__":Str))=false:=by decide):PE X (.Name x pos) (SQ i):=by
 intro aj s σ H Q I h;let(v,e,h):=h;let(m,hn,hl):=I.loc;let(u,r,l):=hl i x v hN e hv;have fin:EP X aj σ Q u s:=#[v,H,I,r,h];rcases l with ⟨hk,hm⟩ |⟨hk,c,hc,hcell⟩
 . show C7 (wpAny_loadName_local I.ok.kind hk hn hm fin) hd
 .
  rcases hk with hk |hk
  . show C7 (wpAny_loadName_cell I.ok.kind hk hc hcell fin) hd
  . show C7 (wpAny_loadName_free I.ok.kind hk hc hcell fin bR) hd
def yC{i j pos}:PE X (.Constant (.int i) j pos) (tC (.int i)):=λ_ _ _ H _ I h=>wpAny_Constant_int #[.int i,H,I.tok _,#[_,rfl],h]
def Y5{b j pos}:PE X (.Constant (.bool b) j pos) (tC (.bl b)):=λ_ _ _ H _ I h=>Constant_bool #[.bl b,H,I,rfl,h]
def Gy{j pos}:PE X (.Constant .none j pos) (tC .non):=λ_ _ _ H _ I h=>Constant_none #[.non,H,I,rfl,h]
def SX{x j pos}:PE X (.Constant (.str x) j pos) (tC (.str x)):=λ_ _ _ H _ I h=>Calls.Constant_str #[.str x,H,I.tok _,#[_,rfl],h]
abbrev Gl(X:Cx)(x:Str):Prop:=X.env.kindOf x=some .globalImplicit
def fJ{E:Value->Shared->Prop}{aj: ~~~1}{s:Shared}{σ:St}{H:Hp}{x:Str}{u:Value}{pos:Pos}{Q:Value->Shared->Prop}(I: ~~~7)(hg:Gl X x)(hm:X.mg x=!u)(h:Q u s)
  (hd:(x==(~~~3))=false:=by decide):wpAny (~~~2) X.A (eval (.Name x pos) X.env) Q E s:=
 Calls.Name_function_global I.ok.kind hg (Calls.loadGlobal_global (by rw[I.ok.glob];show I.mod.glob.keeps I.bk) hm h) hd
def gH{E:Value->Shared->Prop}{aj: ~~~1}{s:Shared}{σ:St}{H:Hp}{x:Str}{u:Value}{pos:Pos}{Q:Value->Shared->Prop}(I: ~~~7)(hg:Gl X x)(hm:X.mg x=none)(hv:bootBuiltins x=!u)(h:Q u s)
  (hn:x≠ "__name__" :=by decide) (hd:(x==(~~~3))=false:=by decide):wpAny (~~~2) X.A (eval (.Name x pos) X.env) Q E s:=by
 let(mb,h1,h2):=I.mod.blt;show Calls.Name_function_global I.ok.kind hg (Calls.loadGlobal_builtin (by rw[I.ok.glob];show I.mod.glob.keeps I.bk) hm (by rw[I.ok.blt];show h1.keeps I.bk) ((h2 x hn).trans hv) h) hd
def Ak(hg:Gl X x)(hm:X.mg x=!u)(r:RelV v u)(hd:(x==(~~~3))=false:=by decide):PE X (.Name x pos) (tC v):=
 λ_ _ _ H _ I h=>fJ I hg hm #[v,H,I,r,h] hd
def tT(hg:Gl X x)(hm:X.mg x=none)(hv:bootBuiltins x=!u)(r:RelV v u)(hn:x≠ "__name__" :=by decide)(hd:(x==(~~~3))=false:=by decide):PE X (.Name x pos) (tC v):=
 λ_ _ _ H _ I h=>gH I hg hm hv #[v,H,I,r,h] hn hd
variable{a b:Expr}{ta tb:TE}{pos:Pos}
abbrev tB(t:TE):TT:=λσ H Q=>t σ H λx H1=>∃c,x=.bl c/\Q c H1
def S0{e:Expr}{t:TE}(h:PE X e t)(he:∀whole,isTrue e X.env whole=(do let v <- whole;standAt e.pos;holding [v] (truthy v)):=by intro _;rfl):PT X e (tB t):=by
 intro aj s σ H Q I hw;apply isTrue_plain (bU (h aj s σ H _ I hw) λv s1 #[x,H1,I1,r1,q1]=>?_) (he _)
 let(d,rfl,q):=q1;cases r1;show oP #[H1,I1,q]
variable{tA tB':TT}{rest:List Expr}
abbrev tAnd(t u:TT):TT:=λσ H Q=>t σ H λc H1=>if c=true then u σ H1 Q else Q false H1
abbrev tOr(t u:TT):TT:=λσ H Q=>t σ H λc H1=>if c=true then Q true H1 else u σ H1 Q
abbrev tNot(t:TT):TT:=λσ H Q=>t σ H λc H1=>Q ((not c)) H1
def pw_and1(ha:PT X a tA):PW X (.BoolOp .And [a] pos) tA:=by
 intro wh aj s σ H Q I h;apply isTrue_and (bU (ha aj s σ H Q I h) λc s1 e=>?_)
 cases c with
 |true=>show isTrue_and_nil e
 |false=>show e
def pw_or1(ha:PT X a tA):PW X (.BoolOp .Or [a] pos) tA:=by
 intro wh aj s σ H Q I h;apply isTrue_or (bU (ha aj s σ H Q I h) λc s1 e=>?_)
 cases c with
 |false=>show isTrue_or_nil e
 |true=>show e
def pw_and(ha:PT X a tA)(hb:PW X (.BoolOp .And (b::rest) pos) tB'):PW X (.BoolOp .And (a::b::rest) pos) (tAnd tA tB'):=by
 intro wh aj s σ H Q I h;apply isTrue_and (bU (ha aj s σ H _ I h) ?_);rintro c s1 ⟨H1,I1,q1⟩;cases c with
 |true=>show hb wh aj s1 σ H1 Q I1 q1
 |false=>show#[H1,I1,q1]
def pw_or(ha:PT X a tA)(hb:PW X (.BoolOp .Or (b::rest) pos) tB'):PW X (.BoolOp .Or (a::b::rest) pos) (tOr tA tB'):=by
 intro wh aj s σ H Q I h;apply isTrue_or (bU (ha aj s σ H _ I h) ?_);rintro c s1 ⟨H1,I1,q1⟩;cases c with
 |true=>show#[H1,I1,q1]
 |false=>show hb wh aj s1 σ H1 Q I1 q1
def Gz(ha:PT X a tA):PT X (.UnaryOp .Not a pos) (tNot tA):=by intro aj s σ H Q I h;show isTrue_not (ha aj s σ H (λc H1=>Q ((not c)) H1) I h)
abbrev Y6(ta tb:TE):TE:=λσ H Q=>ta σ H λx H1=>∃c,x=.bl c/\if c=true then tb σ H1 Q else Q (.bl false) H1
abbrev tOrV(ta tb:TE):TE:=λσ H Q=>ta σ H λx H1=>∃c,x=.bl c/\if c=true then Q (.bl true) H1 else tb σ H1 Q
abbrev Y7(ta:TE):TE:=λσ H Q=>ta σ H λx H1=>∃c,x=.bl c/\Q (.bl ((not c))) H1
def S8{op}(h:PE X a t):PE X (.BoolOp op [a] pos) t:=λaj s σ H Q I hw=>BoolOp_one (h aj s σ H Q I hw)
def GC(ha:PE X a ta)(hb:PE X (.BoolOp .And (b::rest) pos) tb):PE X (.BoolOp .And (a::b::rest) pos) (Y6 ta tb):=by
 intro aj s σ H Q I h;apply BoolOp_and (bU (ha aj s σ H _ I h) ?_);rintro v s1 ⟨x,H1,I1,r1,q1⟩;let(c,rfl,q1):=q1;cases r1;apply oP ?_;cases c with
 |true=>show hb aj s1 σ H1 Q I1 q1
 |false=>show#[.bl false,H1,I1,rfl,q1]
def Rh(ha:PE X a ta)(hb:PE X (.BoolOp .Or (b::rest) pos) tb):PE X (.BoolOp .Or (a::b::rest) pos) (tOrV ta tb):=by
 intro aj s σ H Q I h;apply BoolOp_or (bU (ha aj s σ H _ I h) ?_);rintro v s1 ⟨x,H1,I1,r1,q1⟩;let(c,rfl,q1):=q1;cases r1;apply oP ?_;cases c with
 |false=>show hb aj s1 σ H1 Q I1 q1
 |true=>show#[.bl true,H1,I1,rfl,q1]
def S9(ha:PE X a ta):PE X (.UnaryOp .Not a pos) (Y7 ta):=by intro aj s σ H Q I h;apply UnaryOp_ (bU (ha aj s σ H _ I h) ?_);rintro v s1 ⟨x,H1,I1,r1,q1⟩;let(c,rfl,q1):=q1;cases r1;show not_of (oP #[.bl ((not c)),H1,I1,rfl,q1])
end
abbrev cA(K:Frag)(H:Hp)(a:Addr)(xs:List V):Prop:=
 Rd H a (.lst xs)\/
  ∃(o:Obj) (its:Array Value) (n:Nat),K.lookup a=!o/\o.cls=.type "list" /\o.dict=none/\o.data=.seq its n/\its.size<=sizeLine/\Vals xs its.toList
abbrev jG(K:Frag)(H:Hp)(a:Addr)(xs:List V):Prop:=
 Rd H a (.tup xs)\/
  ∃(o:Obj) (its:Array Value) (n:Nat),K.lookup a=!o/\o.cls=.type "tuple" /\o.data=.seq its n/\its.size<=sizeLine/\Vals xs its.toList
abbrev absV:Value->Option V
 |.none=>some .non
 |.bool b=>!(.bl b)
 |.int i _=>!(.int i)
 |.str x _=>!(.str x)
 |.bytes b _=>!(.Sz b)
 |.float b _=>!(.flt b)
 |.ref a=>!(.ref a)
 |.type n=>!(.ty n)
 |_=>none
def RelV.abs(r:RelV x u):absV u=!x:=by
 cases x with
 |non=>cases r;rfl
 |bl _=>cases r;rfl
 |int _=>let(t,rfl):=r;rfl
 |str _=>let(t,rfl):=r;rfl
 |Sz _=>let(t,rfl):=r;rfl
 |flt _=>let(t,rfl):=r;rfl
 |ref _=>cases r;rfl
 |ty _=>cases r;rfl
def RelV.inj{x y:V}{u:Value}(r:RelV x u)(q:RelV y u):x=y:=nN (r.abs.symm.trans q.abs)
def Vals.inj:∀{xs ys:List V}{us:List Value},Vals xs us->Vals ys us->xs=ys:=by
 intro xs ys us h
 induction h generalizing ys with
 |nil=>intro h';cases h';rfl
 |cons r t ih=>intro h';cases h' with |cons r' t'=>rw[r.inj r',ih t']
section
variable{X:Cx}{aj: ~~~1}{σ:St}{H:Hp}{s:Shared}{a:Addr}{xs ys:List V}
def cA.of{K:Frag}(h:H a=!(.lst xs)):cA K H a xs:=.inl (.inl h)
def Inv.list(I: ~~~7)(h:cA X.K H a xs):∃its:List Value,Vals xs its/\PlainL s.heap a its.toArray/\xs.length<=sizeLine:=by
 rcases h with h |⟨o,its,n,hk,hc,hd,hs,hz,r⟩
 . let(z,its,n,r,e):=h.ok I.hok;show#[its,r,#[_,n,e,rfl,rfl,rfl],z]
 .
  apply#[its.toList,r,#[o,n,I.oY a o hk,hc,hd,by simpa using hs],?_]
  have e:=r.length;simp only[oD]at e;lia
def Inv.tuple(I: ~~~7)(h:jG X.K H a xs):∃its:List Value,Vals xs its/\IsTup s.heap a its.toArray/\xs.length<=sizeLine:=by
 rcases h with h |⟨o,its,n,hk,hc,hs,hz,r⟩
 . let(z,its,r,p):=h.ok I.hok;show#[its,r,p.tup,z]
 .
  apply#[its.toList,r,#[o,I.oY a o hk,hc,n,by simpa using hs],?_]
  have e:=r.length;simp only[oD]at e;lia
def Inv.vA(I: ~~~7)(h:cA X.K H a xs)(h':cA X.K H a ys):xs=ys:=by
 let(its,r,(o,n,e,_,_,d),_):=I.list h;let(its',r',(o',n',e',_,_,d'),_):=I.list h';rw[e]at e';cases e';rw[d]at d';injection d' with d1 _;have:its=its':=by simpa using congrArg Array.toList d1
 subst this;show r.inj r'
def Inv.lQ(I: ~~~7)(h:jG X.K H a xs)(h':jG X.K H a ys):xs=ys:=by
 let(its,r,(o,e,_,n,d),_):=I.tuple h;let(its',r',(o',e',_,n',d'),_):=I.tuple h';rw[e]at e';cases e';rw[d]at d';injection d' with d1 _;have:its=its':=by simpa using congrArg Array.toList d1
 subst this;show r.inj r'
end
meta abbrev Cx.wish(X:Cx)(E:Value->Shared->Prop):Cx:={ X with xe:=E}
meta abbrev Cx.tU(X:Cx):Cx:=X.wish λ_ _=>False
def Cx.Ok.wish{X:Cx}(ok:X.Ok)(E:Value->Shared->Prop):(X.wish E).Ok:=
 #[ok.mod,ok.kind,ok.glob,ok.blt,ok.above,ok.inj,ok.has,ok.SM,ok.hd,ok.frames,ok.stk,ok.Ye,ok.bs,ok.Gx,ok.vq,ok.yx,ok.kJ,ok.Mh]
def Cx.Ok.cQ{X:Cx}{E:Value->Shared->Prop}(ok:(X.wish E).Ok):X.Ok:=
 #[ok.mod,ok.kind,ok.glob,ok.blt,ok.above,ok.inj,ok.has,ok.SM,ok.hd,ok.frames,ok.stk,ok.Ye,ok.bs,ok.Gx,ok.vq,ok.yx,ok.kJ,ok.Mh]
section
variable{X:Cx}{aj: ~~~1}{σ:St}{H:Hp}{s:Shared}{E:Value->Shared->Prop}
def Inv.wish(I: ~~~7)(E:Value->Shared->Prop):Inv (X.wish E) aj σ H s:=#[I.ok.wish E,I.os,I.bare,I.base,I.loc,I.cell,I.free,I.dO,I.pin,I.hok,I.len]
def Inv.cQ(I:Inv (X.wish E) aj σ H s):Inv X aj σ H s:=#[I.ok.cQ,I.os,I.bare,I.base,I.loc,I.cell,I.free,I.dO,I.pin,I.hok,I.len]
def SP.cQ(h:SP (X.wish E) aj D f s'):SP X aj D f s':=by
 cases f with
 |next=>let(σ',H',I,q):=h;show#[σ',H',I.cQ,q]
 |brk=>let(σ',H',I,q):=h;show#[σ',H',I.cQ,q]
 |cont=>let(σ',H',I,q):=h;show#[σ',H',I.cQ,q]
 |ret u=>let(v,σ',H',I,r,q):=h;show#[v,σ',H',I.cQ,r,q]
def PE.tU(h:PE X.tU e t):PE X e t:=λaj s σ H Q I hw=>
 i9 (h aj s σ H Q (I.wish _) hw) (by rintro _ _ ⟨v,H',I',r,q⟩;show#[v,H',I'.cQ,r,q]) λ_ _ z=>False.elim z
def PT.tU(h:PT X.tU e t):PT X e t:=λaj s σ H Q I hw=>
 i9 (h aj s σ H Q (I.wish _) hw) (by rintro _ _ ⟨H',I',q⟩;show#[H',I'.cQ,q]) λ_ _ z=>False.elim z
def tR.tU{st:List Stmt}{t:TS}(h:tR X.tU st t):tR X st t:=λaj s σ H D I hw=>
 i9 (h aj s σ H D (I.wish _) hw) (λ_ _ q=>q.cQ) λ_ _ z=>False.elim z
end
section
variable{X:Cx}{st:Stmt}{rest:List Stmt}{t u:TS}{e:Expr}{te:TE}{pos:Pos}
abbrev Y8:TS:=λD σ H=>D.nx σ H
abbrev Y9(t u:TS):TS:=λD σ H=>t { D with nx:=u D} σ H
def Al:tR X [] Y8:=λ_ _ σ H _ I h=>wpAny_execs_nil #[σ,H,I,h]
def dP(h1:PS X st t)(h2:tR X rest u):tR X (st::rest) (Y9 t u):=by
 intro aj s σ H D I h;apply BA (bU (h1 aj s σ H { D with nx:=u D} I h) λf s1 q=>?_)
 cases f with
 |next=>let(σ',H',I',q):=q;show h2 aj s1 σ' H' D I' q
 |ret v=>show q
 |brk=>show q
 |cont=>show q
def jq(h1:PS X st t):tR X [st] t:=by
 intro aj s σ H D I h;apply BA (bU (h1 aj s σ H D I h) λf s1 q=>?_)
 cases f with
 |next=>show wpAny_execs_nil q
 |ret v=>show q
 |brk=>show q
 |cont=>show q
def Inv.quiet{aj: ~~~1}{σ:St}{H:Hp}{s:Shared}(I: ~~~7):interactive X.env=false:=by simp[interactive,I.ok.kind]
abbrev Za(te:TE):TS:=λD σ H=>te σ H λ_ H1=>D.nx σ H1
def ou(he:PE X e te)(hs:swapsWith e none pos.line X.env=pure false:=by rfl):PS X (.Expr e pos) (Za te):=by intro aj s σ H D I h;show wpAny_Expr_any (bU (he aj s σ H _ I h) (by rintro v s1 ⟨x,H1,I1,r1,q1⟩;show#[σ,H1,I1,q1])) I.quiet hs
abbrev tRet(te:TE):TS:=λD σ H=>te σ H D.rt
def o7(he:PE X e te):PS X (.Return (!e) pos) (tRet te):=by intro aj s σ H D I h;show wpAny_Return_some (bU (he aj s σ H _ I h) (by rintro v s1 ⟨x,H1,I1,r1,q1⟩;show#[x,σ,H1,I1,r1,q1]))
abbrev tIfS(c:TT)(t u:TS):TS:=λD σ H=>c σ H λb H1=>if b=true then t D σ H1 else u D σ H1
def m5{c:Expr}{a b:List Stmt}{tc:TT}(hc:PT X c tc)(ha:tR X a t)(hb:tR X b u):PS X (.If c a b pos) (tIfS tc t u):=by
 intro aj s σ H D I h;apply wpAny_If (bU (hc aj s σ H _ I h) ?_);rintro d s1 ⟨H1,I1,q1⟩;cases d with
 |true=>show ha aj s1 σ H1 D I1 q1
 |false=>show hb aj s1 σ H1 D I1 q1
abbrev Tc:TS:=λ_ _ _=>False
def bw:tR X jO Tc:=λ_ _ _ _ _ _ h=>h.elim
end
def TG:=V->St->Hp->(St->Hp->Prop)->Prop
def Td:=List V->St->Hp->(St->Hp->Prop)->Prop
abbrev PG(X:Cx)(target:Expr)(t:TG):Prop:=
 ∀(aj: ~~~1) (s:Shared) (σ:St) (H:Hp) (v:V) (u:Value) (Q:St->Hp->Prop),Inv X aj σ H s->RelV v u->t v σ H Q->
  wpAny (~~~2) X.A (assign target X.env u) (λ_ s'=>∃σ' H',Inv X aj σ' H' s'/\Q σ' H') X.xe s
abbrev Yg(X:Cx)(ts:List Expr)(t:Td):Prop:=
 ∀(aj: ~~~1) (s:Shared) (σ:St) (H:Hp) (vs:List V) (us:List Value) (Q:St->Hp->Prop),Inv X aj σ H s->Vals vs us->t vs σ H Q->
  wpAny (~~~2) X.A (assignInOrder ((assignEach ts X.env).map (·.2)) us) (λ_ s'=>∃σ' H',Inv X aj σ' H' s'/\Q σ' H') X.xe s
def Te:=V->V->V->Hp->(Hp->Prop)->Prop
abbrev Zb(X:Cx)(t:Te):Prop:=
 ∀(aj: ~~~1) (s:Shared) (σ:St) (H:Hp) (o i v:V) (ov iv u:Value) (Q:Hp->Prop),Inv X aj σ H s->RelV o ov->RelV i iv->RelV v u->t o i v H Q->
  wpAny (~~~2) X.A (setItem ov iv u) (λ_ s'=>∃H',Inv X aj σ H' s'/\Q H') X.xe s
def TIp:=V->V->Hp->VK->Prop
abbrev PIp(X:Cx)(op:Operator)(t:TIp):Prop:=
 ∀(aj: ~~~1) (s:Shared) (σ:St) (H:Hp) (x y:V) (v u:Value) (Q:VK),Inv X aj σ H s->RelV x v->RelV y u->t x y H Q->
  wpAny (~~~2) X.A (inplaceOp op v u) (EP X aj σ Q) X.xe s
section
variable{X:Cx}{pos:Pos}
abbrev rS(i:Nat):TG:=λv σ H Q=>Q (σ.set i (!v)) H
def eG(hN:X.N.Nodup)(hi:X.N[i]?=!x)(hx:Loc X.env.scope x)(hf:X.fn x=true\/X.env.scope.names.lookup x=some .local:=by first |show .inl rfl |show .inr rfl |assumption):PG X (.Name x pos) (rS i):=by intro aj s σ H v u Q I r h;show wpAny_assign_Name (kK I hN hi hx r (λs' I'=>#[_,H,I',h]) hf)
abbrev gNil:Td:=λvs σ H Q=>vs=[]/\Q σ H
abbrev Zc(t:TG)(u:Td):Td:=λvs σ H Q=>∃v r,vs=v::r/\t v σ H λσ' H'=>u r σ' H' Q
def Am:Yg X [] gNil:=by intro aj s σ H vs us Q I r h;let(e,h):=h;subst e;show assignInOrder_nil #[σ,H,I,h]
def o8{e:Expr}{es:List Expr}{t:TG}{u:Td}(h1:PG X e t)(h2:Yg X es u)
  (hs:(assignEach (e::es) X.env).map (·.2)=assign e X.env::(assignEach es X.env).map (·.2):=by rfl):Yg X (e::es) (Zc t u):=by
 intro aj s σ H vs us Q I r h;let(v,vr,e1,h):=h;subst e1;cases r with
 |cons r rr=>rw[hs];apply assignInOrder_cons (bU (h1 aj s σ H _ _ _ I r h) ?_);rintro _ s1 ⟨σ1,H1,I1,q1⟩;show h2 aj s1 σ1 H1 _ _ Q I1 rr q1
abbrev gTup(K:Frag)(n:Nat)(t:Td):TG:=λv σ H Q=>∃a xs,v=.ref a/\jG K H a xs/\xs.length=n/\t xs σ H Q
def GD(hc:X.calm=true)(h:Yg X es t)
  (hn:(assignEach es X.env).length=n:=by rfl) (cO:(assignEach es X.env).findIdx? (·.1)=none:=by rfl):PG X (.Tuple es k pos) (gTup X.K n t):=by
 intro aj s σ H v u Q I r hw;let(a,xs,e1,hq,hl,hw):=hw;subst e1;cases r;let(its,rv,ht,hz):=I.tuple hq;apply assign_Tuple_tuple (I.ok.hd hc) ht (by simp[hn,<- hl,rv.length]) cO λh' hx=>?_
 have I1:=I.kept (t':=s.toks) λb o e=>hx b o (kS (fA e)) e
 show h aj _ σ H xs _ Q I1 (by simpa using rv) hw
abbrev gSub(to ti:TE)(t:Te):TG:=λv σ H Q=>to σ H λo H1=>ti σ H1 λi H2=>t o i v H2 λH3=>Q σ H3
def Tf{o i:Expr}{to ti:TE}{t:Te}(ho:PE X o to)(hi:PE X i ti)(hs:Zb X t)
  (ha:∀v,assign (.Subscript o i pos) X.env v=(do
   let ov <- holding [v] (eval o X.env)
   let iv <- holding [v,ov] (eval i X.env)
   standAt pos
   holding [v,ov,iv] (setItem ov iv v)
   release [v,ov,iv] []):=by intro _;rfl):PG X (.Subscript o i pos) (gSub to ti t):=by
 intro aj s σ H v u Q I r h;apply aS (nV (bU (ho aj s σ H _ I h) ?_));rintro ov s1 ⟨x,H1,I1,r1,q1⟩;apply aS (nV (bU (hi aj s1 σ H1 _ I1 q1) ?_));rintro iv s2 ⟨y,H2,I2,r2,q2⟩;apply aS (u7 (aS (nV (bU (hs aj s2 σ H2 x y v ov iv u _ I2 r1 r2 r q2) ?_))));rintro _ s3 ⟨H3,I3,q3⟩;show wpAny_release #[σ,H3,I3,q3]
abbrev Mi(te:TE)(g:TG):TS:=λD σ H=>te σ H λx H1=>g x σ H1 D.nx
def GF{tg e:Expr}{te:TE}{g:TG}(he:PE X e te)(hg:PG X tg g)(hs:swapsWithSole [tg] e pos.line X.env=pure false:=by rfl)(hw:swappedStores [tg] e X.env=pure none:=by rfl)
  (h1:(assignEach [tg] X.env).map (·.2)=[assign tg X.env]:=by rfl):PS X (.Assign [tg] e pos) (Mi te g):=by
 intro aj s σ H D I h;apply wpAny_Assign_stores (bU (he aj s σ H _ I h) ?_) hs hw;rintro v s1 ⟨x,H1,I1,r1,q1⟩;rw[h1];show bU (hg aj s1 σ H1 x v _ I1 r1 q1) λ_ s2 q=>q
def lR{i:Nat}{x:Str}{e:Expr}{te:TE}{pos':Pos}(hN:X.N.Nodup)(hi:X.N[i]?=!x)(hx:Loc X.env.scope x)(he:PE X e te)(hs:swapsWith e (!(.Name x pos')) pos.line X.env=pure false:=by rfl)(hf:X.fn x=true\/X.env.scope.names.lookup x=some .local:=by first |show .inl rfl |show .inr rfl |assumption) :
  PS X (.Assign [.Name x pos'] e pos) (Mi te (rS i)):=by
 intro aj s σ H D I h;apply wpAny_Assign_Name (bU (he aj s σ H _ I h) ?_) hs;rintro v s1 ⟨y,H1,I1,r1,q1⟩;show kK I1 hN hi hx r1 (λs2 I2=>#[_,H1,I2,q1]) hf
abbrev tAug(i:Nat)(te:TE)(ti:TIp):TS:=λD σ H=>∃x,σ[i]?=!(!x)/\te σ H λy H1=>ti x y H1 λz H2=>D.nx (σ.set i (!z)) H2
def Tj{i:Nat}{x:Str}{e:Expr}{te:TE}{op:Operator}{ti:TIp}{pos':Pos}(hN:X.N.Nodup)(hi:X.N[i]?=!x)(hx:Loc X.env.scope x)(he:PE X e te)(ho:PIp X op ti)(hf:X.fn x=true\/X.env.scope.names.lookup x=some .local:=by first |show .inl rfl |show .inr rfl |assumption) :
  PS X (.AugAssign (.Name x pos') op e pos) (tAug i te ti):=by
 intro aj s σ H D I h;let(v,e1,h):=h;let(m,hn,hl):=I.loc;have vis:g9 X.env.scope x:=by rcases hx with k |k;show .inl k;show .inr (.inl k)
 let(u,r,l):=hl i x v hi e1 vis;apply wpAny_AugAssign_Name ?_;have go:wpAny (~~~2) X.A (eval e X.env) (λw s₂=>wpAny (~~~2) X.A (inplaceOp op u w) (λr s₃=>wpAny (~~~2) X.A (storeName X.env x r) (λ_=>SP X aj D .next) X.xe s₃) X.xe s₂) X.xe s:=by apply bU (he aj s σ H _ I h) ?_;rintro w s1 ⟨y,H1,I1,r1,q1⟩;apply bU (ho aj s1 σ H1 v y u w _ I1 r r1 q1) ?_;rintro z s2 ⟨zv,H2,I2,r2,q2⟩;show kK I2 hN hi hx r2 (λs3 I3=>#[_,H2,I3,q2]) hf
 rcases l with ⟨hk,hm⟩ |⟨hk,c,hc,hcell⟩
 . show wpAny_loadName_local I.ok.kind hk hn hm go
 .
  rcases hk with hk |hk
  . show wpAny_loadName_cell I.ok.kind hk hc hcell go
  .
   rcases hx with k |k
   . have:X.env.scope.names.lookup x=some .free:=hk;rw[k]at this;cases this
   . have:X.env.scope.names.lookup x=some .free:=hk;rw[k]at this;cases this
end
section
variable{X:Cx}{pos:Pos}
abbrev Tp(c:TT)(tb:TS):TS:=λD σ H=>∃W:Nat->St->Hp->Prop,(∃m,W m σ H)/\∀m σ H,W m σ H->
 c σ H λb H1=>if b=true then ∃N:St->Hp->Prop,(∀σ' H',N σ' H'->∃m',m'<m/\W m' σ' H')/\tb { D with nx:=N,ct:=N,bk:=D.nx} σ H1 else D.nx σ H1
def GJ{c:Expr}{body:List Stmt}{tc:TT}{tb:TS}(hp:PassesOwn (~~~2) X.A X.env X.xe)(hc:PT X c tc)(hb:tR X body tb):PS X (.While c body [] pos) (Tp tc tb):=by
 intro aj s σ H D I h;let(W,(m0,w0),turn):=h;apply wpAny_While (codeAny_whileLoop (λn s'=>∃σ' H',Inv X aj σ' H' s'/\W n σ' H') ?_ m0 #[σ,H,I,w0])
 rintro n s1 ⟨σ1,H1,I1,w1⟩;apply AS hp (bU (hc aj s1 σ1 H1 _ I1 (turn n σ1 H1 w1)) ?_);rintro b s2 ⟨H2,I2,q2⟩;cases b with
 |true=>
  let(N,hN,q2):=q2;apply AS hp (bU (hb aj s2 σ1 H2 _ I2 q2) λf s3 q3=>?_)
  cases f with
  |next=>let(σ3,H3,I3,n3):=q3;let(m',hm,w3):=hN σ3 H3 n3;show#[m',hm,σ3,H3,I3,w3]
  |cont=>let(σ3,H3,I3,n3):=q3;let(m',hm,w3):=hN σ3 H3 n3;show#[m',hm,σ3,H3,I3,w3]
  |brk=>show q3
  |ret v=>show q3
 |false=>show wpAny_execs_nil #[σ1,H2,I2,q2]
end
structure It where
 go:Nat->Hp->Prop
 Yh:Nat->Hp->V->Hp->Prop
 stop:Nat->Hp->Prop
abbrev jA(X:Cx)(aj: ~~~1)(H:Hp)(b:Addr):Prop:=
 H b=none/\b≠X.env.locals/\b∉X.fs/\(b∈X.ex\/X.s₀⁻¹<=b)/\(∀x c,X.env.cells.lookup x=!c->c≠b)/\∀p∈X.pn++aj,p.1≠b
def Inv.vB{X:Cx}{aj: ~~~1}{σ:St}{H H':Hp}{s:Shared}{b:Addr}(I: ~~~7)(hb:s⁻¹<=b)(hn:H' b=none):jA X aj H' b:=by
 apply#[hn,AC (eM I.lt hb),I.nofs hb,.inr (sK I.sz hb),λx c e z=>?_,λp hp z=>?_]
 . let(v,q):=I.cell x c e;show absurd (eM q.lt (by rw[z];show hb)) (pV _)
 . show absurd (eM (fA (I.pin p hp).1) (by rw[z];show hb)) (pV _)
structure Turn(P:Program)(w:World)(K:Frag)(tg:Expr)(J:It)(fp:List Addr)(it:Addr)(tn:Nat->Heap->Prop):Prop where
 mem:it∈fp
 obj:∀i h,tn i h->∀b∈fp,∃o,h.get? b=!o/\∀v,o.data≠.cell v
 keep:∀i h h',tn i h->(∀b∈fp,∀o,h.get? b=!o->h'.get? b=!o)->tn i h'
 item:∀(X:Cx),X.prog=P->X.w=w->X.K=K->X.calm=true->∀(i:Nat) (aj: ~~~1) (s:Shared) (σ:St) (H:Hp) (E:Value->Shared->Prop),Inv X aj σ H s->(∀b∈fp,jA X aj H b)->tn i s.heap->J.go i H->
  wpAny (model P w) X.A (pyNext (.ref it)) (λr s1=>∃u,r=!u/\
   wpAny (model P w) X.A (letOwnedTupleGo tg (.ref it) u) (λ_ s2=>∃x H',Inv X aj σ H' s2/\RelV x u/\J.Yh i H x H'/\tn (i+1) s2.heap/\∀b∈fp,H' b=none) E s1) E s
 done:∀(X:Cx),X.prog=P->X.w=w->X.K=K->X.calm=true->∀(i:Nat) (aj: ~~~1) (s:Shared) (σ:St) (H:Hp) (E:Value->Shared->Prop),Inv X aj σ H s->(∀b∈fp,jA X aj H b)->tn i s.heap->J.stop i H->
  wpAny (model P w) X.A (pyNext (.ref it)) (λr s1=>r=none/\Inv X aj σ H s1) E s
 self:∀(A:Around) (i:Nat) (s:Shared) (Q:Value->Shared->Prop) (E:Value->Shared->Prop),tn i s.heap->Q (.ref it) s->wpAny (model P w) A (pyIter (.ref it)) Q E s
def TI:=St->Hp->(It->Hp->Prop)->Prop
abbrev PIE(X:Cx)(aj: ~~~1)(σ:St)(tg:Expr)(R:It->Hp->Prop)(itv:Value)(s2:Shared):Prop:=
 ∃(it:Addr) (fp:List Addr) (tn:Nat->Heap->Prop) (J:It) (H':Hp),itv=.ref it/\Inv X aj σ H' s2/\Turn X.prog X.w X.K tg J fp it tn/\tn 0 s2.heap/\(∀b∈fp,jA X aj H' b)/\R J H'
abbrev PI(X:Cx)(tg iter:Expr)(wi:TI):Prop:=
 ∀(aj: ~~~1) (s:Shared) (σ:St) (H:Hp) (R:It->Hp->Prop),Inv X aj σ H s->wi σ H R->
  wpAny (~~~2) X.A (eval iter X.env) (λv s1=>wpAny (~~~2) X.A (pyIter v) (PIE X aj σ tg R) X.xe s1) X.xe s
def Ao(ho:s.heap.get? it=!o)(hc:o.cls=.type n)(hd:o.data=.fields vs)
  (hn:["enumerate", "zip", "dict_itemiterator", "dict_reverseitemiterator", "odict_iterator", "itertools.zip_longest", "itertools.pairwise"].contains n=false) (hQ:Q () s):wpAny M A (letOwnedTupleGo tg (.ref it) u) Q E s:=by
 cases tg <;> first
  |show dS hQ
  | (cases u <;> first
    |show dS hQ
    | (apply aS (wpAny_load ho ?_)
       rw[hc,hd];exact wpAny M A (if (["enumerate", "zip", "dict_itemiterator", "dict_reverseitemiterator", "odict_iterator", "itertools.zip_longest", "itertools.pairwise"].contains n&&vs[0]?==!(rawInt _))=true then _ else _) Q E s
       rw[kA (by intro h;rw[hn]at h;symm)]
       show dS hQ))
abbrev Itl(K:Frag)(a:Addr):It:=
 #[λi H=>∃xs x,cA K H a xs/\xs[i]?=!x,λi H x H'=>H'=H/\∀xs,cA K H a xs->xs[i]?=!x,λi H=>∃xs,cA K H a xs/\xs.length<=i]
abbrev Itt(K:Frag)(a:Addr):It:=
 #[λi H=>∃xs x,jG K H a xs/\xs[i]?=!x,λi H x H'=>H'=H/\∀xs,jG K H a xs->xs[i]?=!x,λi H=>∃xs,jG K H a xs/\xs.length<=i]
abbrev Tq(lo:Int)(n:Nat):It:=#[λi _=>i<n,λi H x H'=>H'=H/\x=.int (lo+i),λi _=>n<=i]
def CZ{P:Program}{w:World}{K:Frag}{tg:Expr}(a it:Addr):Turn P w K tg (Itl K a) [it] it (λi h=>h.IsListIter it a i) where
 mem:=by simp
 obj:=λi h st b hb=>by
  have e:b=it:=by simpa using hb
  subst e;let(o,e,c,d):=st;show#[o,e,λv z=>by rw[d]at z;cases z]
 keep:=λi h h' st k=>st.at λo e=>k it ⋯ o e
 item:=by
  intro X hP hw hK hc i aj s σ H E I hf st hg;subst hP hw hK;let(xs,x,hq,hx):=hg;let(its,rv,p,hz):=I.list hq;let(u,hu,ru):=rv.get hx;let(f0,f1,f2,f3,f4,f5):=hf it ⋯;apply wpAny_pyNext_list_item st p.isList (by simpa using hu) λh' st' sb=>?_
  have I1:=I.turned (t':=s.toks) (λb o hb e=>(sb.2 b hb).trans e) f0 f1 f3 f4 f5
  let(o,e,c,d):=id st';show#[u,rfl,Ao e c d ⋯ #[x,H,I1,ru,#[rfl,λys hy=>by rw[I.vA hy hq];show hx],st',λb hb=>(hf b hb).1]]
 done:=by intro X hP hw hK hc i aj s σ H E I hf st hg;subst hP hw hK;let(xs,hq,hx):=hg;let(its,rv,p,hz):=I.list hq;let(f0,f1,f2,f3,f4,f5):=hf it ⋯;have hl:=rv.length;show wpAny_pyNext_list_end (I.ok.hd hc) st p.isList (by simp;lia) λh' eb=>#[rfl,I.turned (λb o hb e=>eb b o hb e) f0 f1 f3 f4 f5]
 self:=λ_ _ _ _ _ st h=>wpAny_pyIter_listiter st h
def yD{P:Program}{w:World}{K:Frag}{tg:Expr}(a it:Addr):Turn P w K tg (Itt K a) [it] it (λi h=>h.IsTupleIter it a i) where
 mem:=by simp
 obj:=λi h st b hb=>by
  have e:b=it:=by simpa using hb
  subst e;let(o,e,c,d):=st;show#[o,e,λv z=>by rw[d]at z;cases z]
 keep:=λi h h' st k=>st.at λo e=>k it ⋯ o e
 item:=by
  intro X hP hw hK hc i aj s σ H E I hf st hg;subst hP hw hK;let(xs,x,hq,hx):=hg;let(its,rv,p,hz):=I.tuple hq;let(u,hu,ru):=rv.get hx;let(f0,f1,f2,f3,f4,f5):=hf it ⋯;apply wpAny_pyNext_tuple_item st (show s.heap.IsTuple a its.toArray from p) (by simpa using hu) λh' st' sb=>?_
  have I1:=I.turned (t':=s.toks) (λb o hb e=>(sb.2 b hb).trans e) f0 f1 f3 f4 f5
  let(o,e,c,d):=id st';show#[u,rfl,Ao e c d ⋯ #[x,H,I1,ru,#[rfl,λys hy=>by rw[I.lQ hy hq];show hx],st',λb hb=>(hf b hb).1]]
 done:=by intro X hP hw hK hc i aj s σ H E I hf st hg;subst hP hw hK;let(xs,hq,hx):=hg;let(its,rv,p,hz):=I.tuple hq;let(f0,f1,f2,f3,f4,f5):=hf it ⋯;have hl:=rv.length;show wpAny_pyNext_tuple_end (I.ok.hd hc) st (show s.heap.IsTuple a its.toArray from p) (by simp;lia) λh' eb=>#[rfl,I.turned (λb o hb e=>eb b o hb e) f0 f1 f3 f4 f5]
 self:=λ_ _ _ _ _ st h=>wpAny_pyIter_tupleiter st h
def yE{P:Program}{w:World}{K:Frag}{tg:Expr}(it:Addr)(lo:Int)(n:Nat):Turn P w K tg (Tq lo n) [it] it (λi h=>IsRangeIter h it (lo+(i:Nat) * 1) ((n:Int) - (i:Nat)) 1) where
 mem:=by simp
 obj:=λi h st b hb=>by
  have e:b=it:=by simpa using hb
  subst e;show#[_,st,λv z=>by
   have z':=z;cases z']
 keep:=λi h h' st k=>k it ⋯ _ st
 item:=by
  intro X hP hw hK hc i aj s σ H E I hf st hg;subst hP hw hK;let(f0,f1,f2,f3,f4,f5):=hf it ⋯;have W:=Walks.range (prog:=X.prog) (w:=X.w) (I.ok.hd hc) it lo 1 n;apply W.item i s _ _ hg st λv h' tk hv st' kk=>?_
  let(t,rfl):=hv;have I1:Inv X aj σ H { s with heap:=h',toks:=tk}:=I.turned (λb o hb e=>kk b o (by simpa using hb) e) f0 f1 f3 f4 f5
  apply#[_,rfl,Ao st' rfl rfl ⋯ #[.int (lo+i),H,I1,#[t,?_],#[rfl,rfl],st',λb hb=>(hf b hb).1]]
  rw[Int.mul_one]
 done:=by intro X hP hw hK hc i aj s σ H E I hf st hg;let(f0,f1,f2,f3,f4,f5):=hf it ⋯;show wpAny_pyNext_range_end (I.ok.hd hc) st (by have:n<=i:=hg;lia) λh' eb=>#[rfl,I.turned (λb o hb e=>eb b o hb e) f0 f1 f3 f4 f5]
 self:=λ_ _ _ _ _ st h=>wpAny_pyIter_rangeiter st h
section
variable{X:Cx}{tg:Expr}
abbrev Zd(K:Frag)(tl:TE):TI:=λσ H R=>tl σ H λx H1=>∃a,x=.ref a/\(∃xs,cA K H1 a xs)/\R (Itl K a) H1
abbrev iTup(K:Frag)(tl:TE):TI:=λσ H R=>tl σ H λx H1=>∃a,x=.ref a/\(∃xs,jG K H1 a xs)/\R (Itt K a) H1
def kL{l:Expr}{tl:TE}(hl:PE X l tl):PI X tg l (Zd X.K tl):=by
 intro aj s σ H R I h;apply bU (hl aj s σ H _ I h) ?_;rintro v s1 ⟨x,H1,I1,r1,q1⟩;let(a,e,(xs,hq),q):=q1;subst e;cases r1;let(its,rv,p,hz):=I1.list hq;apply wpAny_pyIter_list p.isList ?_;apply#[s1⁻¹,[s1⁻¹],_,_,H1,rfl,I1.kept λb o e=>dE _ e,CZ a _,#[_,fN _ rfl,rfl,rfl],λb hb=>?_,q]
 have e:b=s1⁻¹:=by simpa using hb
 subst e;show I1.vB (eA _) (I1.hok.fresh (eA _))
def GK{l:Expr}{tl:TE}(hl:PE X l tl):PI X tg l (iTup X.K tl):=by
 intro aj s σ H R I h;apply bU (hl aj s σ H _ I h) ?_;rintro v s1 ⟨x,H1,I1,r1,q1⟩;let(a,e,(xs,hq),q):=q1;subst e;cases r1;let(its,rv,p,hz):=I1.tuple hq;apply wpAny_pyIter_tuple (show s1.heap.IsTuple a its.toArray from p) ?_
 apply#[s1⁻¹,[s1⁻¹],_,_,H1,rfl,I1.kept λb o e=>dE _ e,yD a _,#[_,fN _ rfl,rfl,rfl],λb hb=>?_,q]
 have e:b=s1⁻¹:=by simpa using hb
 subst e;show I1.vB (eA _) (I1.hok.fresh (eA _))
def vC{aj: ~~~1}{σ:St}{H:Hp}{s:Shared}{R:It->Hp->Prop}{E:Value->Shared->Prop}{lo hi:Int}{t u v:Tok}{tk:Nat}(I: ~~~7)(h1 : -(2 ^ 62)<=lo)(h2:lo<2 ^ 62)(h3 : -(2 ^ 62)<=hi)(h4:hi<2 ^ 62)
  (q:R (Tq lo (hi - lo).toNat) H):wpAny (~~~2) X.A (pyIter (.ref s⁻¹)) (PIE X aj σ tg R) E { s with heap:=s.heap.push { cls:=.type "range",data:=.fields ([.int lo t,.int hi u,.int 1 v].toArray)},toks:=tk}:=by
 apply wpAny_pyIter_range (IsRange.new ..) (small_one h1 h2 h3 h4) ?_;have I1:Inv X aj σ H { s with heap:=s.heap.push { cls:=.type "range",data:=.fields ([.int lo t,.int hi u,.int 1 v].toArray)},toks:=tk}:=I.kept λb o e=>dE _ e
 apply#[(s.heap.push { cls:=.type "range",data:=.fields ([.int lo t,.int hi u,.int 1 v].toArray)}).objs.size,[(s.heap.push { cls:=.type "range",data:=.fields ([.int lo t,.int hi u,.int 1 v].toArray)}).objs.size],_,_,H,rfl,
  I1.kept λb o e=>dE _ e,yE _ lo (hi - lo).toNat,?_,λb hb=>?_,q]
 .
  have e1:lo+((0:Nat):Int) * 1=lo:=by simp
  have e2:(((hi - lo).toNat:Nat):Int) - ((0:Nat):Int)=Builtin.Range.rangeSize lo hi 1:=by rw[rangeSize_one];split <;> lia
  rw[e1,e2];show fN _ rfl
 .
  have e:b=(s.heap.push { cls:=.type "range",data:=.fields ([.int lo t,.int hi u,.int 1 v].toArray)}).objs.size:=by simpa using hb
  subst e;show I1.vB (eA _) (I1.hok.fresh (eA _))
abbrev Ze(ta:TA):TI:=λσ H R=>ta σ H λvs H1=>∃j:Int,vs=[.int j]/\-(2 ^ 62)<=j/\j<2 ^ 62/\R (Tq 0 j.toNat) H1
abbrev Zf(ta:TA):TI:=λσ H R=>ta σ H λvs H1=>∃i j:Int,vs=[.int i,.int j]/\(-(2 ^ 62)<=i/\i<2 ^ 62/\-(2 ^ 62)<=j/\j<2 ^ 62)/\R (Tq i (j - i).toNat) H1
def lT{a:Expr}{ta:TA}{p pos:Pos}(hg:Gl X "range")(hm:X.mg "range"=none)(ha:PA X [a] ta)(hs:starEach [a] X.env=[(false,eval a X.env)]:=by rfl):PI X tg (.Call (.Name "range" p) [a] [] pos) (Ze ta):=by
 intro aj s σ H R I h;apply Call_ (gH I hg hm boot_range (oQ (bU (ha pos aj s σ H _ I h) ?_) hs rfl));rintro us s1 ⟨vs,H1,I1,r1,q1⟩;let(j,e,q1,q2,q):=q1;subst e;cases r1 with
 |cons r rr=>cases rr;let(t,rfl):=r;show call_range_1 (vC I1 ⋯ ⋯ q1 q2 (by simpa using q))
def Dc{a b:Expr}{ta:TA}{p pos:Pos}(hg:Gl X "range")(hm:X.mg "range"=none)(ha:PA X [a,b] ta)(hs:starEach [a,b] X.env=[(false,eval a X.env),(false,eval b X.env)]:=by rfl)(hs2:starEach [b] X.env=[(false,eval b X.env)]:=by rfl) :
  PI X tg (.Call (.Name "range" p) [a,b] [] pos) (Zf ta):=by
 intro aj s σ H R I h;apply Call_ (gH I hg hm boot_range (oQ (bU (ha pos aj s σ H _ I h) λus s1 #[vs,H1,I1,r1,q1]=>?_) (by rw[hs,hs2]) (by rw[hs2];rfl)))
 let(i,j,e,(q1,q2,q3,q4),q):=q1;subst e;cases r1 with
 |cons r rr=>
  cases rr with
  |cons r' rr=>cases rr;let(t,rfl):=r;let(t',rfl):=r';show call_range_2 (vC I1 q1 q2 q3 q4 q)
abbrev tFor(wi:TI)(g:TG)(tb:TS):TS:=λD σ H=>wi σ H λJ H1=>∃W:Nat->Nat->St->Hp->Prop,(∃m,W 0 m σ H1)/\∀i m σ H,W i m σ H->
 (J.stop i H/\D.nx σ H)\/(J.go i H/\∃N:St->Hp->Prop,(∀σ' H',N σ' H'->∃m',m'<m/\W (i+1) m' σ' H')/\∀x H',J.Yh i H x H'->g x σ H' λσ2 H2=>tb { D with nx:=N,ct:=N,bk:=D.nx} σ2 H2)
abbrev lU(fp:List Addr)(h:Heap): ~~~1:=fp.filterMap λb=>(h.get? b).map λo=>(b,o)
def dz{fp:List Addr}{h:Heap}{b:Addr}{o:Obj}(hb:b∈fp)(e:h.get? b=!o):(b,o)∈lU fp h:=BM.mpr #[b,hb,by rw[e];rfl]
def Dd(hp:p∈lU fp h):p.1∈fp/\h.get? p.1=!p.2:=by
 let(b,hb,e):=BM.mp hp;cases q:h.get? b with
 |none=>rw[q]at e;cases e
 |some o=>rw[q]at e;have e':=nN e;subst e';show#[hb,q]
def Inv.pinned{aj: ~~~1}{σ:St}{H:Hp}{s:Shared}{fp:List Addr}(I: ~~~7)(hf:∀b∈fp,jA X aj H b)(ho:∀b∈fp,∃o,s.heap.get? b=!o/\∀v,o.data≠.cell v):Inv X (aj++lU fp s.heap) σ H s:=
 I.Aj λp hp=>(mP.mp hp).elim (λz=>I.pin p (eP _ z)) λz=>by
  let(hb,e):=Dd z;let(f0,f1,f2,_):=hf p.1 hb;let(o,e',d):=ho p.1 hb;rw[e]at e';cases e';show#[e,f0,f1,f2,d]
def Inv.iD{aj pl: ~~~1}{σ:St}{H:Hp}{s:Shared}(I:Inv X (aj++pl) σ H s):Inv X aj σ H s:=I.Aj λp hp=>I.pin p (eP _ (i6 _ hp))
def o9{iter:Expr}{body:List Stmt}{wi:TI}{g:TG}{tb:TS}{pos:Pos}(hp:PassesOwn (~~~2) X.A X.env X.xe)(hc:X.calm=true)(hi:PI X tg iter wi)(hg:PG X tg g)(hb:tR X body tb)
  (hs:∀x,foldedSetIterable iter X.env x=pure x:=by intro _;rfl):PS X (.For tg iter body [] pos) (tFor wi g tb):=by
 intro aj s σ H D I h;apply wpAny_For (bU (hi aj s σ H _ I h) λv s1 h1=>bU h1 λitv s2 h2=>?_) hs
 let(it,fp,tn,J,H2,e,I2,T,aI,f2,W,(m0,w0),turn):=h2;subst e;have stat:∀{H':Hp},(∀b∈fp,H' b=none)->∀b∈fp,jA X aj H' b:=λhn b hb=>#[hn b hb,(f2 b hb).2]
 apply codeAny_forLoop_any (λn s'=>∃i σ' H',Inv X aj σ' H' s'/\tn i s'.heap/\(∀b∈fp,H' b=none)/\W i n σ' H') ?_ m0 #[0,σ,H2,I2,aI,λb hb=>(f2 b hb).1,w0]
 rintro n s3 ⟨i,σ3,H3,I3,fE,Ri,w3⟩;rcases turn i n σ3 H3 w3 with ⟨stop,qn⟩ |⟨go,N,hN,step⟩
 . apply AS hp (bU (T.done X rfl rfl rfl hc i aj s3 σ3 H3 X.xe I3 (stat Ri) fE stop) ?_);rintro r s4 ⟨hr,I4⟩;subst hr;show wpAny_execs_nil #[σ3,H3,I4,qn]
 .
  apply AS hp (bU (T.item X rfl rfl rfl hc i aj s3 σ3 H3 X.xe I3 (stat Ri) fE go) ?_);rintro r s4 ⟨u,hr,h4⟩;subst hr;apply AS hp (bU h4 ?_);rintro _ s5 ⟨x,H5,I5,r5,y5,iE,Zg⟩;have Zh:=I5.pinned (stat Zg) (T.obj _ _ iE);apply AS hp (bU (hg _ s5 σ3 H5 x u _ Zh r5 (step x H5 y5)) ?_);rintro _ s6 ⟨σ6,H6,I6,q6⟩;apply AS hp (bU (hb _ s6 σ6 H6 _ I6 q6) λf s7 q7=>?_)
  have again:∀{σ7:St}{H7:Hp},Inv X (aj++lU fp s5.heap) σ7 H7 s7->N σ7 H7->∃m,m<n/\∃i σ' H',Inv X aj σ' H' s7/\tn i s7.heap/\(∀b∈fp,H' b=none)/\W i m σ' H':=λ{σ7 H7} I7 n7=>by
   let(m',hm,w7):=hN σ7 H7 n7;apply#[m',hm,i+1,σ7,H7,I7.iD,T.keep _ _ _ iE λb hb o e=>(I7.pin (b,o) (eP _ (eP _ (dz hb e)))).1,λb hb=>?_,w7]
   let(o,e,d):=T.obj _ _ iE b hb;show (I7.pin (b,o) (eP _ (eP _ (dz hb e)))).2.1
  cases f with
  |next=>let(σ7,H7,I7,n7):=q7;show again I7 n7
  |cont=>let(σ7,H7,I7,n7):=q7;show again I7 n7
  |brk=>let(σ7,H7,I7,q7):=q7;show#[σ7,H7,I7.iD,q7]
  |ret v=>let(x7,σ7,H7,I7,r7,q7):=q7;show#[x7,σ7,H7,I7.iD,r7,q7]
end
def R2:=V->V->Hp->VK->Prop
abbrev nQ(X:Cx)(f:Value->Value->Sem Value)(r:R2):Prop:=
 ∀(aj: ~~~1) (s:Shared) (σ:St) (H:Hp) (x y:V) (v u:Value) (Q:VK),Inv X aj σ H s->RelV x v->RelV y u->r x y H Q->
  wpAny (~~~2) X.A (f v u) (EP X aj σ Q) X.xe s
abbrev d9(X:Cx)(f:Value)(r:List V->Hp->VK->Prop):Prop:=
 ∀(aj: ~~~1) (s:Shared) (σ:St) (H:Hp) (xs:List V) (us:List Value) (Q:VK),Inv X aj σ H s->Vals xs us->r xs H Q->
  wpAny (~~~2) X.A (call f us) (EP X aj σ Q) X.xe s
abbrev TruR(X:Cx)(r:V->Hp->(Bool->Hp->Prop)->Prop):Prop:=
 ∀(aj: ~~~1) (s:Shared) (σ:St) (H:Hp) (x:V) (v:Value) (Q:Bool->Hp->Prop),Inv X aj σ H s->RelV x v->r x H Q->
  wpAny (~~~2) X.A (truthy v) (TP X aj σ Q) X.xe s
abbrev tOp(r:R2)(ta tb:TE):TE:=λσ H Q=>ta σ H λx H1=>tb σ H1 λy H2=>r x y H2 Q
abbrev rI(C:Int->Int->Prop)(g:Int->Int->V):R2:=λx y H Q=>∃i j,x=.int i/\y=.int j/\C i j/\Q (g i j) H
abbrev Mj(g:Int->Int->V):R2:=λx y H Q=>∃i j,x=.int i/\y=.int j/\Q (g i j) H
section
variable{X:Cx}{a b c:Expr}{ta tb tc:TE}{pos:Pos}
def Tr(ha:PE X a ta)(hb:PE X b tb){aj: ~~~1}{s:Shared}{σ:St}{H:Hp}{R:V->V->Hp->Prop}(I: ~~~7)
  (h:ta σ H λx H1=>tb σ H1 λy H2=>R x y H2) {Q:Value->Shared->Prop}{f:Value->Value->Sem Value}
  (hf:∀v u s2 x y H2,Inv X aj σ H2 s2->RelV x v->RelV y u->R x y H2->wpAny (~~~2) X.A (f v u) Q X.xe s2) :
  wpAny (~~~2) X.A (eval a X.env) (λv s₁=>wpAny (~~~2) X.A (eval b X.env) (λu s₂=>wpAny (~~~2) X.A (f v u) Q X.xe s₂) X.xe s₁) X.xe s:=by
 apply bU (ha aj s σ H _ I h) λv s1 #[x,H1,I1,r1,q1]=>?_
 apply bU (hb aj s1 σ H1 _ I1 q1) λu s2 #[y,H2,I2,r2,q2]=>?_
 show hf v u s2 x y H2 I2 r1 r2 q2
def Rj{op:Operator}{r:R2}(ho:nQ X (binaryOp op) r)(ha:PE X a ta)(hb:PE X b tb):PE X (.BinOp a op b pos) (tOp r ta tb):=by intro aj s σ H Q I h;show wpAny_BinOp (Tr ha hb I h λv u s2 x y H2 I2 rx ry q=>ho aj s2 σ H2 x y v u Q I2 rx ry q)
def opI{f:Value->Value->Sem Value}{C:Int->Int->Prop}{g:Int->Int->Int}
  (rule:∀(i j:Int) (t u:Tok) (s:Shared) (Q:Value->Shared->Prop) (E:Value->Shared->Prop),C i j->Q (.int (g i j) s.toks) { s with toks:=s.toks+1}->wpAny (~~~2) X.A (f (.int i t) (.int j u)) Q E s) :
  nQ X f (rI C λi j=>.int (g i j)):=by
 intro aj s σ H x y v u Q I rx ry h;let(i,j,rfl,rfl,hc,q):=h;let(t,rfl):=rx;let(t',rfl):=ry;show rule i j t t' s _ _ hc #[.int (g i j),H,I.tok _,#[_,rfl],q]
def Zi{f:Value->Value->Sem Value}{g:Int->Int->Int}
  (rule:∀(i j:Int) (t u:Tok) (s:Shared) (Q:Value->Shared->Prop) (E:Value->Shared->Prop),Q (.int (g i j) s.toks) { s with toks:=s.toks+1}->wpAny (~~~2) X.A (f (.int i t) (.int j u)) Q E s) :
  nQ X f (Mj λi j=>.int (g i j)):=by
 intro aj s σ H x y v u Q I rx ry h;let(i,j,rfl,rfl,q):=h;let(t,rfl):=rx;let(t',rfl):=ry;show rule i j t t' s _ _ #[.int (g i j),H,I.tok _,#[_,rfl],q]
def Tt{f:Value->Value->Sem Value}{g:Int->Int->Bool}
  (rule:∀(i j:Int) (t u:Tok) (s:Shared) (Q:Value->Shared->Prop) (E:Value->Shared->Prop),Q (.bool (g i j)) s->wpAny (~~~2) X.A (f (.int i t) (.int j u)) Q E s) :
  nQ X f (Mj λi j=>.bl (g i j)):=by
 intro aj s σ H x y v u Q I rx ry h;let(i,j,rfl,rfl,q):=h;let(t,rfl):=rx;let(t',rfl):=ry;show rule i j t t' s _ _ #[.bl (g i j),H,I,rfl,q]
abbrev CPow(i j:Int):Prop:=0<=j/\j<=1000000/\i.natAbs<2 ^ 64
abbrev Tv(i j:Int):Prop:=(-(2 ^ 64)<i/\i<2 ^ 64)\/(-(2 ^ 64)<j/\j<2 ^ 64)
def Tv.ok{i j:Int}(h:Tv i j):IntMulOk i j:=by
 rcases h with ⟨h1,h2⟩ |⟨h1,h2⟩
 . show .of_left (intBits_le_64 h1 h2)
 . show .of_right (intBits_le_64 h1 h2)
def GL:nQ X (binaryOp .Add) (Mj λi j=>.int (i+j)):=Zi λ_ _ _ _ _ _ _ q=>add_int q
def Tw:nQ X (binaryOp .Sub) (Mj λi j=>.int (i - j)):=Zi λ_ _ _ _ _ _ _ q=>sub_int q
def Tz:nQ X (binaryOp .Mult) (rI Tv λi j=>.int (i * j)):=opI λ_ _ _ _ _ _ _ hc q=>mul_int q hc.ok
def TF:nQ X (binaryOp .Mod) (rI (λ_ j=>0<j) λi j=>.int (i % j)):=opI λi j _ _ _ _ _ hc q=>by
 show mod_int' ⋯ (by rw[Int.fmod_eq_emod_of_nonneg i ⋯];show q)
def tV:nQ X (binaryOp .Pow) (rI CPow λi j=>.int (i ^ j.toNat)):=opI λ_ _ _ _ _ _ _ hc q=>pow_int_small hc.1 hc.2.1 hc.2.2 q
end
section
variable{X:Cx}{a b c:Expr}{ta tb tc:TE}{pos:Pos}
def Zj:nQ X (compareOp .Lt) (Mj λi j=>.bl (decide (i<j))):=Tt λ_ _ _ _ _ _ _ q=>lt_int q
def Zm:nQ X (compareOp .LtE) (Mj λi j=>.bl (decide (i<=j))):=Tt λ_ _ _ _ _ _ _ q=>le_int q
def Zn:nQ X (compareOp .GtE) (Mj λi j=>.bl (decide (j<=i))):=Tt λ_ _ _ _ _ _ _ q=>ge_int q
def Aq{op:CmpOp}{r:R2}(ho:nQ X (compareOp op) r)(ha:PE X a ta)(hb:PE X b tb)(hm:behindInMarks op b=false):PE X (.Compare a [op] [b] pos) (tOp r ta tb):=by intro aj s σ H Q I h;show wpAny_Compare1 (Tr ha hb I h λv u s2 x y H2 I2 rx ry q=>ho aj s2 σ H2 x y v u Q I2 rx ry q) hm
abbrev Zo(t:TE):TT:=λσ H Q=>t σ H λx H'=>∃k,x=.bl k/\Q k H'
def ow{op:CmpOp}{r:R2}(ho:nQ X (compareOp op) r)(ha:PE X a ta)(hb:PE X b tb)(hm:behindInMarks op b=false):PT X (.Compare a [op] [b] pos) (Zo (tOp r ta tb)):=by
 intro aj s σ H Q I h;apply wpAny_isTrue_Compare1 (bU (ha aj s σ H _ I h) λv s1 #[x,H1,I1,r1,q1]=>bU (hb aj s1 σ H1 _ I1 q1) λu s2 #[y,H2,I2,r2,q2]=>
  bU (ho aj s2 σ H2 x y v u _ I2 r1 r2 q2) λc s3 #[z,H3,I3,r3,k,e,q3]=>?_) hm
 subst e;cases r3;show oP #[H3,I3,q3]
abbrev Zq(K:Frag)(x:V)(H:Hp)(k:Bool):Prop:=
 match x with
 |.non=>k=false
 |.bl b=>k=b
 |.int i=>k=(i != 0)
 |.str y=>y.length<=sizeLine/\k=((y.length:Int) != 0)
 |.Sz y=>y.size<=sizeLine/\k=((y.size:Int) != 0)
 |.ref p=>(∃xs,cA K H p xs/\k=(not xs.isEmpty))\/(∃xs,jG K H p xs/\k=(not xs.isEmpty))\/∃lJ,H p=!(.dK lJ)/\k=(not lJ.isEmpty)
 |_=>False
def yF{κ:Type}{lJ:List (κ×V)}{vs:List (κ×Value)}(r:KV lJ vs):((not vs.isEmpty))=(not lJ.isEmpty):=by cases r <;> rfl
def pg{xs:List V}{its:List Value}(r:Vals xs its):((not its.toArray.isEmpty))=(not xs.isEmpty):=by cases r <;> simp
def yG:(sizeLine:Nat)<2 ^ 63:=by rw[oS];decide
def TJ:TruR X (λx H Q=>∃k,Zq X.K x H k/\Q k H):=by
 intro aj s σ H x v Q I rx h;let(k,e,q):=h;have hs:=oS;cases x with
 |non=>cases rx;have e':=e;subst e';show truthy_none #[H,I,q]
 |bl b=>cases rx;have e':=e;subst e';show oP #[H,I,q]
 |int i=>let(t,rfl):=rx;have e':=e;subst e';show PySem.P.truthy_int #[H,I,q]
 |str y=>let(t,rfl):=rx;obtain⟨hy,e'⟩:y.length<=sizeLine/\k=((y.length:Int) != 0):=e;subst e';show PySem.P.truthy_str ⋯ #[H,I.tok _,q]
 |Sz y=>let(t,rfl):=rx;obtain⟨hy,e'⟩:y.size<=sizeLine/\k=((y.size:Int) != 0):=e;subst e';show PySem.W.truthy_bytes ⋯ #[H,I.tok _,q]
 |ref p=>
  cases rx;have e':=e;rcases e' with ⟨xs,hx,e'⟩ |⟨xs,hx,e'⟩ |⟨lJ,hx,e'⟩
  . subst e';let(its,r,pl,hz):=I.list hx;have aL:=r.length;show wpAny_truthy_list pl.isList (by simp only[d5];lia) #[H,I.tok _,by rw[pg r];show q]
  . subst e';let(its,r,pl,hz):=I.tuple hx;have aL:=r.length;show truthy_tuple pl (by simp only[d5];lia) #[H,I.tok _,by rw[pg r];show q]
  . subst e';obtain⟨hz,hS,vs,r,m⟩:lJ.length<=sizeLine/\(p==sysModules)=false/\∃vs,KV lJ vs/\s.heap.DictOf (jo X.prog X.w) p vs:=I.hok p _ hx;have aL:=Paired.length r;show wpAny_truthy_dict hS m ⋯ #[H,I.tok _,by rw[yF r];show q]
 |_=>show (show False from e).elim
def GP(ha:PE X a ta)(he:∀whole,isTrue a X.env whole=(do let v <- whole;standAt a.pos;holding [v] (truthy v))) :
  PT X a (λσ H Q=>ta σ H λx H'=>∃k,Zq X.K x H' k/\Q k H'):=by
 intro aj s σ H Q I h;show isTrue_plain (bU (ha aj s σ H _ I h) (by rintro v s1 ⟨x,H1,I1,r1,q1⟩;show TJ aj s1 σ H1 x v Q I1 r1 q1)) (he _)
def vals1(r:Vals [x] us):∃u,us=[u]/\RelV x u:=by
 cases r with
 |cons r1 r2=>cases r2;show#[_,rfl,r1]
def vals2(r:Vals [x,y] us):∃u w',us=[u,w']/\RelV x u/\RelV y w':=by
 cases r with
 |cons r1 r2=>
  cases r2 with
  |cons r3 r4=>cases r4;show#[_,_,rfl,r1,r3]
def De(hc:X.calm=true):d9 X (.builtin "max") (λxs H Q=>∃i j,xs=[.int i,.int j]/\Q (.int (if j > i then j else i)) H):=by
 intro aj s σ H xs us Q I r h;let(i,j,rfl,q):=h;let(u,w',rfl,(t,rfl),(t',rfl)):=vals2 r;apply max_two_ints (I.ok.hd hc) λh' tk k=>#[_,H,I.kept k,?_,q]
 by_cases hj:j > i
 . rw[i5 hj,i5 hj];show#[_,rfl]
 . rw[kA hj,kA hj];show#[_,rfl]
def Df(hc:X.calm=true):d9 X (.builtin "min") (λxs H Q=>∃i j,xs=[.int i,.int j]/\Q (.int (if j<i then j else i)) H):=by
 intro aj s σ H xs us Q I r h;let(i,j,rfl,q):=h;let(u,w',rfl,(t,rfl),(t',rfl)):=vals2 r;apply min_two_ints (I.ok.hd hc) λh' tk k=>#[_,H,I.kept k,?_,q]
 by_cases hj:j<i
 . rw[i5 hj,i5 hj];show#[_,rfl]
 . rw[kA hj,kA hj];show#[_,rfl]
abbrev LenV(K:Frag)(x:V)(H:Hp)(n:Nat):Prop:=
 match x with
 |.str y=>y.length<=sizeLine/\n=y.length
 |.Sz y=>y.size<=sizeLine/\n=y.size
 |.ref p=>(∃xs,cA K H p xs/\n=xs.length)\/∃xs,jG K H p xs/\n=xs.length
 |_=>False
def GQ:d9 X (.builtin "len") (λxs H Q=>∃x n,xs=[x]/\LenV X.K x H n/\Q (.int n) H):=by
 intro aj s σ H xs us Q I r h;let(x,n,rfl,e,q):=h;let(u,rfl,rx):=vals1 r;have hs:=oS;cases x with
 |str y=>let(t,rfl):=rx;obtain⟨hy,e'⟩:y.length<=sizeLine/\n=y.length:=e;subst e';show len_str ⋯ #[.int _,H,I.tok _,#[_,rfl],q]
 |Sz y=>let(t,rfl):=rx;obtain⟨hy,e'⟩:y.size<=sizeLine/\n=y.size:=e;subst e';show PySem.W.len_bytes ⋯ #[.int _,H,I.tok _,#[_,rfl],q]
 |ref p=>
  cases rx;have e':=e;rcases e' with ⟨xs,hx,e'⟩ |⟨xs,hx,e'⟩
  . subst e';let(its,r',pl,hz):=I.list hx;have aL:=r'.length;show Calls.call_len_list pl.isList (by simp only[d5];lia) #[.int xs.length,H,I.tok _,#[_,by simp only[d5];rw[aL]],q]
  . subst e';let(its,r',pl,hz):=I.tuple hx;have aL:=r'.length;show len_tuple pl (by simp only[d5];lia) #[.int xs.length,H,I.tok _,#[_,by simp only[d5];rw[aL]],q]
 |_=>show (show False from e).elim
end
def oX.some_of(r:oX (!v) o):∃u,o=!u/\RelV v u:=by
 cases o with
 |none=>show (show False from r).elim
 |some u=>show#[u,rfl,r]
def oX.none_of(r:oX none o):o=none:=by
 cases o with
 |none=>rfl
 |some u=>show (show False from r).elim
structure cC(k:Nat)(A:Around):Prop where
 hd:A.handled=none
 dp:A.depth+3 * k+5<recursionLimit
 un:A.units+16 * k+200<cLine
def cC.mono(r:cC k A)(h:j<=k):cC j A:=#[r.hd,by have:=r.dp;lia,by have:=r.un;lia]
def cC.deeper(r:cC (k+1) A)(env:Env):cC k (A.deeper env):=
 #[r.hd,by have:=r.dp;exact A.depth+1+3 * k+5<_;lia,by have:=r.un;exact A.units+3+16 * k+200<_;lia]
def cC.depth(r:cC k A):A.depth<recursionLimit:=by have:=r.dp;lia
def cC.units(r:cC k A):A.units+64<cLine:=by have:=r.un;lia
abbrev tNil:TA:=λ_ H Q=>Q [] H
abbrev Zr(ta:TE)(tr:TA):TA:=λσ H Q=>ta σ H λx H1=>tr σ H1 λxs H2=>Q (x::xs) H2
section
variable{X:Cx}{e:Expr}{es:List Expr}{te:TE}{t:TA}{pos:Pos}
def cG:PA X [] tNil:=λ_ _ _ _ H Q I h=>Calls.spliced_nil #[[],H,I,.nil,h]
def aY(ha:PE X e te)(hr:PA X es t)(hs:starEach (e::es) X.env=(false,eval e X.env)::starEach es X.env:=by rfl):PA X (e::es) (Zr te t):=by intro pos aj s σ H Q I h;rw[hs];apply Calls.spliced_cons (bU (ha aj s σ H _ I h) ?_);rintro u s1 ⟨x,H1,I1,r1,q1⟩;show bU (hr pos aj s1 σ H1 _ I1 q1) (by rintro us s2 ⟨xs,H2,I2,r2,q2⟩;show#[x::xs,H2,I2,.cons r1 r2,q2])
abbrev tTup(t:TA):TE:=λσ H Q=>t σ H λxs H1=>xs.length<=sizeLine/\∀p,H1 p=none->Q (.ref p) (upd H1 p (.tup xs))
abbrev tLst(t:TA):TE:=λσ H Q=>t σ H λxs H1=>xs.length<=sizeLine/\∀p,H1 p=none->Q (.ref p) (upd H1 p (.lst xs))
def GR{x1}(h:PA X es t):PE X (.Tuple es x1 pos) (tTup t):=by
 intro aj s σ H Q I hq;apply wpAny_Tuple_spliced (bU (h pos aj s σ H _ I hq) λus s1 #[xs,H1,I1,r,z,q]=>#[by rw[<- r.length];show z,?_])
 have hf:=I1.hok.fresh (eA _);apply#[.ref s1⁻¹,upd H1 s1⁻¹ (.tup xs),I1.laid (λb u e=>dE _ e) (eA _) ?_,rfl,q _ hf]
 show#[z,us,r,#[_,fN _ rfl,#[rfl,_,rfl],rfl]]
def yH(h:PA X es t):PE X (.List es pos) (tLst t):=by
 intro aj s σ H Q I hq;apply wpAny_List_spliced (bU (h pos aj s σ H _ I hq) λus s1 #[xs,H1,I1,r,z,q]=>#[by rw[<- r.length];show z,?_])
 have hf:=I1.hok.fresh (eA _);apply#[.ref s1⁻¹,upd H1 s1⁻¹ (.lst xs),I1.laid (λb u e=>dE _ e) (eA _) ?_,rfl,q _ hf]
 show#[z,us,0,r,fN _ rfl]
end
def Sp:=List V->Hp->VK->XK->Prop
def Dg:=List Env->Hp->Shared->XK->Value->Shared->Prop
structure GX(P:Program)(w:World)(K:Frag)(mg:Str->Option Value)(base:Heap)(A:Around)(outer:List Env)(s:Shared)(H:Hp):Prop where
 frames:A.frames=!outer
 mod:Mod K mg base
 bs:∀b o,base.get? b=!o->s.heap.get? b=!o/\H b=none
 Gx:base.objs.size<=s⁻¹
 kJ:s.heap.FunFrames base outer
 Mh:∀b∈frs outer,H b=none
 hok:lO P w H s.heap
 bare:AllBare s.gens
abbrev CE(outer:List Env)(P:Program)(w:World)(H:Hp)(s:Shared)(Q:VK)(u:Value)(s':Shared):Prop:=
 ∃v H',s'.os=s.os/\AllBare s'.gens/\Un (frs outer) [] H H' s.heap s'.heap/\lO P w H' s'.heap/\RelV v u/\Q v H'
abbrev CR(CX:Dg)(outer:List Env)(P:Program)(w:World)(H:Hp)(s:Shared)(Q:VK)(E:XK)(r:Result)(s':Shared):Prop:=
 match r with
 |.ok (.ret u)=>CE outer P w H s Q u s'
 |.ok _=>False
 |.error e=>CX outer H s E e s'
structure jP(P:Program)(w:World)(K:Frag)(mg:Str->Option Value)(base:Heap)(CX:Dg)(k:Nat)(f:Addr)(fd:FuncData)(ps:List Str)(sp:Sp):Prop where
 len:∀vs H Q E,sp vs H Q E->vs.length=ps.length
 run:∀(A:Around) (outer:List Env) (s:Shared) (H:Hp) (args:Args) (us:List Value) (vs:List V) (Q:VK) (E:XK),cC k A->GX P w K mg base A outer s H->BindsTo s fd args (ps.zip us)->Vals vs us->sp vs H Q E->
  codeAny (model P w) A (.call (.ref f) args) (CR CX outer P w H s Q E) s
section
variable{X:Cx}{aj: ~~~1}{σ:St}{H:Hp}{s s':Shared}
def Inv.Mk(I: ~~~7):GX X.prog X.w X.K X.mg X.base X.A X.stack s H:=
 #[I.ok.frames,I.ok.mod,I.bs,sK I.ok.Gx I.sz,I.stack,I.tQ,I.hok,I.bare]
def Inv.after(I: ~~~7)(h:CE X.stack X.prog X.w H s Q u s'):EP X aj σ Q u s':=by let(v,H',os,bare,un,hok,r,q):=h;let(hh,g,d,t,os'):=s';obtain rfl:os'=s.os:=os;show#[v,H',I.call un hok bare (λb z=>absurd z ⋯),r,q]
end
abbrev Zt(sp:Sp)(Dh:List V)(E:XK)(t:TA):TE:=λσ H Q=>t σ H λvs H1=>sp (vs++Dh) H1 Q E
abbrev Binds(K:Frag)(fd:FuncData)(ps:List Str)(ds:List Value):Prop:=
 ∀(s:Shared) (us:List Value),K.In s.heap->(us++ds).length=ps.length->BindsTo s fd #[us,[]] (ps.zip (us++ds))
def Binds.all{K:Frag}{fd:FuncData}{ps:List Str}(h:∀us:List Value,us.length=ps.length->bindArgs fd #[us,[]]=pure (ps.zip us)):Binds K fd ps []:=λs us _ hl=>by
 rw[mE]at hl ⊢
 show .of_eq (h us hl)
abbrev Passes(CX:Dg)(X:Cx)(E:XK):Prop:=∀(aj: ~~~1) (σ:St) (H:Hp) (s:Shared) (e:Value) (s':Shared),Inv X aj σ H s->CX X.stack H s E e s'->X.xe e s'
section
variable{X:Cx}{CX:Dg}{k:Nat}{f C:Addr}{fd:FuncData}{ps:List Str}{sp:Sp}{Dh:List V}{ds:List Value}{E:XK}{x m:Str}{p pos cF:Pos}{e o:Expr}{es:List Expr}{ta:TE}{t:TA}
def TL{aj: ~~~1}{σ:St}{H:Hp}{s:Shared}{Q:VK}{us:List Value}{vs:List V}(F:jP X.prog X.w X.K X.mg X.base CX k f fd ps sp)(hr:cC k X.A)(hb:Binds X.K fd ps ds)(hd:Vals Dh ds)(hx:Passes CX X E)
  (I: ~~~7) (r:Vals vs us) (h:sp (vs++Dh) H Q E):wpAny (~~~2) X.A (call (.ref f) us) (EP X aj σ Q) X.xe s:=by
 have r2:=r.append hd;have hl:(us++ds).length=ps.length:=by rw[<- r2.length];show F.len _ _ _ _ h
 apply C8 (BD (F.run X.A X.stack s H #[us,[]] (us++ds) (vs++Dh) Q E hr I.Mk (hb s us I.oY hl) r2 h) λr s' hq=>?_)
 cases r with
 |error e=>show hx aj σ H s e s' I hq
 |ok fl=>
  cases fl with
  |ret u=>show I.after hq
  |next=>show False.elim hq
  |brk=>show False.elim hq
  |cont=>show False.elim hq
def Ar(F:jP X.prog X.w X.K X.mg X.base CX k f fd ps sp)(hr:cC k X.A)(hg:Gl X x)(hm:X.mg x=!(.ref f))(hk:PySem.W.keepIn X.K (.ref f)=true)(hb:Binds X.K fd ps ds)(hd:Vals Dh ds)(hx:Passes CX X E)
  (ha:PA X (e::es) t) (jN:(x==(~~~3))=false:=by decide) (he:starEach (e::es) X.env=(false,eval e X.env)::starEach es X.env:=by rfl) (lN:(backTo pos (starEach es X.env)).any (·.1)=false:=by rfl) :
  PE X (.Call (.Name x p) (e::es) [] pos) (Zt sp Dh E t):=by
 intro aj s σ H Q I h;apply xI (fJ I hg hm ?_ jN);apply A4 I.ok.mod.ym hk (bU (ha pos aj s σ H _ I h) λus s1 #[vs,H1,I1,r,q]=>#[I1.oY,?_]) he lN
 show TL F hr hb hd hx I1 r q
end
structure bY(N P:List Str)(sc:Scope):Prop where
 kind:sc.kind=.function
 co:sc.isCoroutine=false
 gen:sc.isGenerator=false
 nd:N.Nodup
 pre:N.take P.length=P
 par:∀x∈P,sc.names.lookup x=some .local\/sc.names.lookup x=some .cell
 TQ:∀y∈sc.names,y.2≠.free
def rT{kindOf:Str->Option NameKind}{x:Str}:∀{binds:List (Str×Value)}{m:Str->Option Value},(∀v,(x,v)∉binds)->bindL kindOf binds m x=m x
 | [],_,_=>rfl
 | (n,v)::r,m,h=>by
  delta bindL;rw[rT λw hw=>h w (bP _ hw)]
  split
  .
   have:x≠n:=by rintro rfl;show h v dA
   simp[this]
  . rfl
def rU{kindOf:Str->Option NameKind}{x:Str}:∀{binds:List (Str×Value)}{m:Str->Option Value},(∀v,(x,v)∉binds)->bindC kindOf binds m x=m x
 | [],_,_=>rfl
 | (n,v)::r,m,h=>by
  delta bindC;rw[rU λw hw=>h w (bP _ hw)]
  split
  . rfl
  .
   have:x≠n:=by rintro rfl;show h v dA
   simp[this]
def rW{kindOf:Str->Option NameKind}{x:Str}{v:Value}:∀{P:List Str}{vs:List Value}{i:Nat}{m:Str->Option Value},P.Nodup->P[i]?=!x->vs[i]?=!v->kindOf x=some .local->
  bindL kindOf (P.zip vs) m x=!v
 | [],_,_,_,_,h,_,_=>by simp at h
 |_::_,[],_,_,_,_,h,_=>by simp at h
 |p::P,w::vs,0,m,nd,h1,h2,hk=>by
  simp at h1 h2;subst h1;subst h2;exact bindL kindOf ((p,w)::P.zip vs) m p=_;delta bindL;rw[rT λv hv=>(gN.mp nd).1 (CO hv).1,i5 hk]
  simp
 |p::P,w::vs,i+1,m,nd,h1,h2,hk=>by
  delta bindL;show rW (gN.mp nd).2 (by simpa using h1) (by simpa using h2) hk
def rX{kindOf:Str->Option NameKind}{x:Str}{v:Value}:∀{P:List Str}{vs:List Value}{i:Nat}{m:Str->Option Value},P.Nodup->P[i]?=!x->vs[i]?=!v->kindOf x≠some .local->
  bindC kindOf (P.zip vs) m x=!v
 | [],_,_,_,_,h,_,_=>by simp at h
 |_::_,[],_,_,_,_,h,_=>by simp at h
 |p::P,w::vs,0,m,nd,h1,h2,hk=>by
  simp at h1 h2;subst h1;subst h2;exact bindC kindOf ((p,w)::P.zip vs) m p=_;delta bindC;rw[rU λv hv=>(gN.mp nd).1 (CO hv).1,kA hk]
  simp
 |p::P,w::vs,i+1,m,nd,h1,h2,hk=>by
  delta bindC;show rX (gN.mp nd).2 (by simpa using h1) (by simpa using h2) hk
abbrev start(N:List Str)(vs:List V):St:=vs.map some++List.replicate (N.length - vs.length) none
abbrev gI(CX:Dg)(P:Program)(w:World)(K:Frag)(mg:Str->Option Value)(base:Heap)(N:List Str)(qual:Str)(scope:Scope)(f:Addr)(cd:Value)(A:Around)(outer:List Env)(s:Shared)(H:Hp)(E:XK):Cx where
 prog:=P
 w:=w
 K:=K
 mg:=mg
 base:=base
 A:=A.deeper (envOfC qual scope s⁻¹ f cd)
 N:=N
 s₀:=s
 H₀:=H
 env:=envOfC qual scope s⁻¹ f cd
 outer:=outer
 stack:=envOfC qual scope s⁻¹ f cd::outer
 ex:=[]
 calm:=true
 fn:=λ_=>true
 pn:=[]
 xe:=λe s'=>wpAny (model P w) (A.deeper (envOfC qual scope s⁻¹ f cd)) (leaving (envOfC qual scope s⁻¹ f cd) e) (λ_ s''=>CX outer H s E e s'') (λe' s''=>CX outer H s E e' s'') s'
def vD{sc:Scope}{n:Nat}{x:Str}(h:sc.names.lookup x=some .cell):∃c,(cellsFrom n sc.names []).lookup x=!c:=by have q:=B0 sc.names n [] (.inl h);show Option.isSome_iff_exists.mp q
def rY{CX:Dg}{P:Program}{w:World}{K:Frag}{mg:Str->Option Value}{base:Heap}{N ps:List Str}{qual:Str}{scope:Scope}{f:Addr}{cd:Value}{A:Around}{outer:List Env}{s s1:Shared}{H:Hp}{E:XK}{us:List Value}{vs:List V}
  (S:bY N ps scope) (hd:A.handled=none) (e0:GX P w K mg base A outer s H) (hl:vs.length=ps.length) (r:Vals vs us)
  (x:InCallC s s⁻¹ (bindL (envOfC qual scope s⁻¹ f cd).kindOf (ps.zip us) λ_=>none) (cellsFrom (s⁻¹+1) scope.names []) (bindC (envOfC qual scope s⁻¹ f cd).kindOf (ps.zip us) λ_=>none) s1) :
  Inv (gI CX P w K mg base N qual scope f cd A outer s H E) [] (start N vs) H s1:=by
 have lN:ps.length<=N.length:=by have:=congrArg List.length S.pre;rw[AA]at this;lia
 let(h1,tk,rfl,hk):=x.done;have Zu:∀b:Addr,b∉(gI CX P w K mg base N qual scope f cd A outer s H E).ex:=λb z=>absurd (show b∈([]:List Addr)from z) ⋯
 apply#[#[e0.mod,S.kind,rfl,rfl,eA _,λy z c h1 h2=>?_,λy hy=>?_,λy c _ h=>?_,λ_=>hd,Around.frames_deeper e0.frames,.inr #[rfl,rfl],λb z=>absurd z (Zu b),e0.bs,e0.Gx,λb _ _=>Zu b,λb z=>absurd z (Zu b),e0.kJ,e0.Mh],
  rfl,e0.bare,Un.kept hk,#[_,x.toInCall.ns,λi y v h1 h2 h3=>?_],λy c h=>#[_,x.cell y c h],e0.hok.fresh (eA _),λy c h=>?_,λp hp=>absurd (show p∈([]: ~~~1)from hp) ⋯,e0.hok.kept hk,?_]
 . show name_of_addr x.apart (AW h1) (AW h2)
 .
  have hy:=hy;rcases hy with hy |hy
  . show vD hy
  . show absurd rfl (S.TQ _ (AW hy))
 . show BC (x.above y c (AW h))
 .
  have hi:i<vs.length:=by
   delta start at h2;by_cases hi:i<vs.length
   . show hi
   .
    rw[eD (by simpa using hi)]at h2
    rw[AX]at h2;split at h2 <;> cases h2
  have ha:vs[i]?=!v:=by
   delta start at h2;rw[dL (by simpa using hi),nE]at h2
   cases e:vs[i]? with
   |none=>rw[e]at h2;cases h2
   |some a=>rw[e]at h2;cases h2;rfl
  let(u,hu,rv):=r.get ha;have hp:ps[i]?=!y:=by rw[<- S.pre,wP ⋯];show h1
  have ndP:ps.Nodup:=by rw[<- S.pre];show S.nd.sublist (List.take_sublist _ _)
  apply#[u,rv,?_];rcases S.par y (i7 hp)with k |k
  . show .inl #[k,rW ndP hp hu k]
  .
   let(c,e):=vD k;apply .inr #[.inl k,c,e,?_];have q:=x.cell y c e;rw[rX ndP hp hu (by exact scope.names.lookup y≠_;rw[k];decide)]at q
   show q
 . show e0.hok.fresh (BC (x.above y c (AW h)))
 . delta start;exact _=N.length;rw[fI,eC,hZ];lia
def Rl{CX:Dg}{P:Program}{w:World}{K:Frag}{mg:Str->Option Value}{base:Heap}{k:Nat}{f:Addr}{name qual:Str}{params:Arguments}{body:List Stmt}{scope:Scope}{dV kV doc pm bE ct oc:Value}{an od:Option Addr}
  {osl:Array (Option Value)}{N ps:List Str}{sp:Sp} (lk:K.lookup f=!#[oc,od,.func (PySem.W.fnOf name qual params body scope dV kV doc pm an bE ct),osl]) (bR:PySem.W.codeIn K bE qual=true) (S:bY N ps scope)
  (len:∀vs H Q E,sp vs H Q E->vs.length=ps.length)
  (hbody:∀(A:Around) (outer:List Env) (s:Shared) (H:Hp) (vs:List V) (Q:VK) (E:XK),cC k (A.deeper (envOfC qual scope s⁻¹ f bE))->sp vs H Q E->
   ∃t,tR (gI CX P w K mg base N qual scope f bE A outer s H E) body t/\t { nx:=λ_ H'=>Q .non H',rt:=Q} (start N vs) H) :
  jP P w K mg base CX (k+1) f (PySem.W.fnOf name qual params body scope dV kV doc pm an bE ct) ps sp:=by
 apply#[len,λA outer s H args us vs Q E hr e0 hb r Yi=>?_]
 have hl:=len _ _ _ _ Yi;have KX:=e0.mod.ym.keeps λb o e=>(e0.bs b o e).1
 have lim:=e0.mod.nolimit.keeps λb o e=>(e0.bs b o e).1
 have hkind:∀y∈ps.zip us,scope.names.lookup y.1=some .local\/(scope.names.lookup y.1=some .cell/\((cellsFrom (s⁻¹+1) scope.names []).lookup y.1).isSome=true):=by
  rintro⟨n,v⟩ hy;rcases S.par n (CO hy).1 with q |q
  . show .inl q
  . show .inr #[q,B0 _ _ _ (.inl q)]
 apply codeAny_call_function hr.depth (KX _ _ lk) rfl S.co S.gen rfl (PySem.W.codeRec_of KX bR) (hb _ _ _ _ ?_);apply wpAny_newFunctionEnv_cells S.kind hkind λenv he s1 x=>?_
 subst he;apply#[lim.keeps x.toInCall.keep,codeAny_func ?_];let(t,ht,hq):=hbody A outer s H vs Q E (hr.deeper _) Yi;have I:Inv (gI CX P w K mg base N qual scope f bE A outer s H E) [] (start N vs) H s1:=rY S hr.hd e0 hl r x;apply i9 (ht [] s1 (start N vs) H _ I hq) (λfl s' hs=>?_) λe s' hs=>hs
 have fin:∀{σ':St}{H':Hp}{v:V}{u:Value},Inv (gI CX P w K mg base N qual scope f bE A outer s H E) [] σ' H' s'->RelV v u->Q v H'->CE outer P w H s Q u s':=
  λ{σ' H' v u} J rv q=>#[v,H',J.os,J.bare,J.base,J.hok,rv,q]
 cases fl with
 |ret u=>let(v,σ',H',J,rv,q):=hs;show fin J rv q
 |next=>let(σ',H',J,q):=hs;show fin (v:=V.non) J rfl q
 |brk=>let(_,_,_,q):=hs;show False.elim q
 |cont=>let(_,_,_,q):=hs;show False.elim q
section
variable{X:Cx}{x:Str}{p pos:Pos}{e:Expr}{es:List Expr}{t:TA}{id T:String}{r:List V->Hp->VK->Prop}
abbrev tCB(r:List V->Hp->VK->Prop)(t:TA):TE:=λσ H Q=>t σ H λvs H1=>r vs H1 Q
def iF(hc:d9 X (.builtin id) r)(hg:Gl X x)(hm:X.mg x=none)(hv:bootBuiltins x=!(.builtin id))(ha:PA X (e::es) t)(hn:x≠ "__name__" :=by decide)(jN:(x==(~~~3))=false:=by decide)
  (he:starEach (e::es) X.env=(false,eval e X.env)::starEach es X.env:=by rfl) (lN:(backTo pos (starEach es X.env)).any (·.1)=false:=by rfl):PE X (.Call (.Name x p) (e::es) [] pos) (tCB r t):=by
 intro aj s σ H Q I h;apply xI (gH I hg hm hv ?_ hn jN);show PyProof.Rows.callWith_builtin1 (bU (ha pos aj s σ H _ I h) (by rintro us s1 ⟨vs,H1,I1,r1,q1⟩;show hc aj s1 σ H1 vs us Q I1 r1 q1)) he lN
def rZ(hc:d9 X (.type T) r)(hg:Gl X x)(hm:X.mg x=none)(hv:bootBuiltins x=!(.type T))(ha:PA X (e::es) t)(hn:x≠ "__name__" :=by decide)(jN:(x==(~~~3))=false:=by decide)
  (he:starEach (e::es) X.env=(false,eval e X.env)::starEach es X.env:=by rfl) (lN:(backTo pos (starEach es X.env)).any (·.1)=false:=by rfl):PE X (.Call (.Name x p) (e::es) [] pos) (tCB r t):=by
 intro aj s σ H Q I h;apply xI (gH I hg hm hv ?_ hn jN);show oQ (bU (ha pos aj s σ H _ I h) λus s1 #[vs,H1,I1,r1,q1]=>hc aj s1 σ H1 vs us Q I1 r1 q1) he lN
end
end L2
namespace HT
open PySem PyProof.Rows
abbrev lexLt: ~~~0->~~~0->Bool
 | [],[]=>false
 | [],_::_=>true
 |_::_,[]=>false
 |x::xs,y::ys=>if x=y then lexLt xs ys else decide (x<y)
def dB(x y:Int)(xs ys: ~~~0):lexLt (x::xs) (y::ys)=if x=y then lexLt xs ys else decide (x<y):=rfl
def rm:lexLt [] []=false:=rfl
def pq(y:Int)(ys: ~~~0):lexLt [] (y::ys)=true:=rfl
def pA(x:Int)(xs: ~~~0):lexLt (x::xs) []=false:=rfl
def GZ(A:Around)(s:Shared)(a:Int)(t:Tok)(c:Int)(u:Tok):∃e,SeqAt.EqAt A s (.int a t) (.int c u) e/\(e=true ↔ a=c):=
 #[(a==c),SeqAt.EqAt.int_int a t c u,by simp]
def G0(A:Around)(s:Shared)(a:Int)(t:Tok)(c:Int)(u:Tok)(prog:Program)(w:World)(E:Value->Shared->Prop)(Q:Value->Shared->Prop)(h:Q (.bool (decide (a<c))) s) :
  wpAny (model prog w) A (richCompare .Lt (.int a t) (.int c u)) Q E s:=
 (PyProof.Rows.lt_int h:wpAny (model prog w) A (compareOp .Lt (.int a t) (.int c u)) Q E s)
section
open PySem.SeqAt
open PySem.AutoSeq1 (wpAny_loadPart')
open PySem.MeetsSeq PySem.MeetsSeq2 PySem.MeetsSeq3
def rq(l b:Addr)(ao items2:Array Value)(n n2:Nat)(dd dd2:Option Addr)(sl sl2:Array (Option Value))(ns ms: ~~~0)(hi:IntsAre ao.toList ns)(hj:IntsAre items2.toList ms) :
  Meets (Builtin.«tuple.__lt__» #[[.ref l,.ref b],[]])
   (λ_ R s=>s.heap.get? l=some { cls:=.type "tuple",dict:=dd,data:=.seq ao n,slots:=sl}/\s.heap.get? b=some { cls:=.type "tuple",dict:=dd2,data:=.seq items2 n2,slots:=sl2}/\
    R (.ok (.ret (.bool (lexLt ns ms)))) s):=
 .of_wp λprog w A R s h=>by
  let(hp,g,d,tk,os):=s;let(hl,hb,h):=h;have f2:=AutoSeq1.sub_tuple_tuple;have z1:ao.size=ns.length:=by rw[<- hi.length];simp
  have z2:items2.size=ms.length:=by rw[<- hj.length];simp
  wp_walk using wpAny_loadPart' hl,wpAny_loadPart' hb,wpAny_forIn_list _ (λrest b s'=>b.1=none/\s'=#[hp,g,d,tk,os]/\∃(vs ws:List Value) (ns' ms': ~~~0),rest=vs.zip ws/\
   IntsAre vs ns'/\IntsAre ws ms'/\ns'.length+items2.size=ms'.length+ao.size/\R (.ok (.ret (.bool (lexLt ns' ms')))) #[hp,g,d,tk,os]) _
  case turn=>
   rintro⟨y,x⟩ rest b s' ⟨hb',rfl,vs,ws,ns',ms',hz,hvi,hwi,aL,hR⟩;cases hvi with
   |nil=>rw[List.zip_nil_left]at hz;cases hz
   |cons a t hvi'=>
    cases hwi with
    |nil=>rw[List.zip_nil_right]at hz;cases hz
    |cons c u hwi'=>
     rw[List.zip_cons_cons]at hz;injection hz with hyx hrest;injection hyx with hy hx;subst hy hx;rw[dB]at hR;simp only[lL]at aL;let(e,he,hiff):=GZ A.in1 #[hp,g,d,tk,os] a t c u;apply aS (he prog w _ _ ?_);cases e with
     |true=>
      rw[i5 (hiff.mp rfl)]at hR
      wp_walk
      show#[rfl,rfl,_,_,_,_,hrest,hvi',hwi',by lia,hR]
     |false=>
      rw[kA (λq=>absurd (hiff.mpr q) xL)]at hR
      have hri:=G0 A.in1 #[hp,g,d,tk,os] a t c u prog w
      wp_walk using hri
      show#[_,rfl,by simpa using hR]
  case fin=>
   rintro⟨b1,b2⟩ s' ⟨hb',rfl,vs,ws,ns',ms',hz,hvi,hwi,aL,hR⟩;simp only at hb';subst hb';have hv:lexLt ns' ms'=decide (ao.size<items2.size):=by
    cases hvi with
    |nil=>
     cases hwi with
     |nil=>simp only[List.length_nil]at aL;rw[rm];show (tJ ⋯).symm
     |cons c u hw=>simp only[List.length_nil,lL]at aL;rw[pq];show (oC ⋯).symm
    |cons a t hv=>
     cases hwi with
     |nil=>simp only[List.length_nil,lL]at aL;rw[pA];show (tJ ⋯).symm
     |cons c u hw=>rw[List.zip_cons_cons]at hz;cases hz
   rw[hv]at hR
   wp_walk
   show#[_,rfl,by simpa [Builtin.Tuple.tupleCompareSizes]using hR]
  case h=>show#[rfl,rfl,ao.toList,items2.toList,ns,ms,rfl,hi,hj,by lia,h]
end
section
variable{prog:Program}{w:World}{A:Around}{E:Value->Shared->Prop}{s:Shared}
def yI(hl:IsTup s.heap l ao)(hb:IsTup s.heap b items2)(hi:IntsAre ao.toList ns)(hj:IntsAre items2.toList ms)
  (hu:A.units<cLine) (h:Q (.bool (lexLt ns ms)) s):wpAny (model prog w) A (compareOp .Lt (.ref l) (.ref b)) Q E s:=by
 let((cls,dd,data,sl),ho,hc,n,hd):=id hl;let((Zv,dd2,data2,sl2),ho2,hc2,n2,hd2):=id hb;subst hc hd hc2 hd2;show richCompare_meets_room (op:=.Lt) #[_,ho,rfl] #[_,ho2,rfl] PySem.F.slot_tuple_lt PySem.F.entry_tuple_lt (PySem.F.args_tuple_lt_2 _ _) (rq l b ao items2 n n2 dd dd2 sl sl2 ns ms hi hj)
  #[ho,ho2,show Value.bool (lexLt ns ms)≠Value.notImplemented/\Q (.bool (lexLt ns ms)) s from#[(λx=>nomatch x),h]] hu
def Ml(ht:IsTup s.heap t vs.toArray)(hb:IsTup s.heap b ws.toArray)(hv:vs≠[])
  (h1:ws=[]->Q (.ref t) s) (h2:ws≠[]->Q (.ref s⁻¹) { s with heap:=s.heap.push { cls:=.type "tuple",data:=.seq (vs++ws).toArray}})
  (hsz:vs.length+ws.length<=sizeLine):wpAny (model prog w) A (binaryOp .Add (.ref t) (.ref b)) Q E s:=by
 let((cls,dd,data,sl),ho,hc,n,hd):=id ht;let((Zv,dd2,data2,sl2),ho2,hc2,n2,hd2):=id hb;subst hc hd hc2 hd2;have e:vs.toArray++ws.toArray=(vs++ws).toArray:=by simp
 by_cases hw:ws=[]
 .
  show concat_meets #[_,ho,rfl] #[_,ho2,rfl] noFill_tuple_add seq_tuple_add B1 BN (BE _ _)
   (tuple_addW1 t b vs.toArray ws.toArray n n2 dd dd2 sl sl2 (by simpa using hv) (by simp[hw])) #[ho,ho2,h1 hw]
 .
  apply concat_meets #[_,ho,rfl] #[_,ho2,rfl] noFill_tuple_add seq_tuple_add B1 BN (BE _ _)
   (tuple_addW2 t b vs.toArray ws.toArray n n2 dd dd2 sl sl2 (by simpa using hv) (by simpa using hw) (by rw[d5];show hsz)) #[ho,ho2,?_]
  rw[e];show h2 hw
end
end HT
namespace L2
def TO:=St->Hp->(Option Int->Hp->Prop)->Prop
def intsAre_of:∀{us:List Value},Vals (ns.map V.int) us->IntsAre us ns:=by
 induction ns with
 |nil=>intro us r;rw[List.map_nil]at r;cases r;show .nil
 |cons n ns ih=>
  intro us r;cases r with
  |cons r1 r2=>let(t,e):=r1;subst e;show .cons n t (ih r2)
section
variable{X:Cx}{e:Expr}{te:TE}{lo hi:Option Expr}{tl th:TO}{pos p2:Pos}
abbrev rLtT(K:Frag):R2:=λx y H Q=>∃a b ns ms,x=.ref a/\y=.ref b/\jG K H a (ns.map V.int)/\jG K H b (ms.map V.int)/\Q (.bl (HT.lexLt ns ms)) H
def TV(hu:X.A.units<cLine):nQ X (compareOp .Lt) (rLtT X.K):=by intro aj s σ H x y v u Q I rx ry h;let(a,b,ns,ms,rfl,rfl,ha,hb,q):=h;cases rx;cases ry;let(its,r1,p1,_):=I.tuple ha;let(jF,r2,p2,_):=I.tuple hb;have i1:=intsAre_of r1;have i2:=intsAre_of r2;show HT.yI p1 p2 i1 i2 hu #[.bl (HT.lexLt ns ms),H,I,rfl,q]
abbrev Zw(K:Frag):R2:=λx y H Q=>∃a b xs ys,x=.ref a/\y=.ref b/\jG K H a xs/\jG K H b ys/\xs≠[]/\xs.length+ys.length<=sizeLine/\
 (ys=[]->Q (.ref a) H)/\(ys≠[]->∀p,H p=none->Q (.ref p) (upd H p (.tup (xs++ys))))
def Vals.tW(r:Vals xs us):us=[] ↔ xs=[]:=by
 cases r with
 |nil=>simp
 |cons _ _=>simp
def Mm:nQ X (binaryOp .Add) (Zw X.K):=by
 intro aj s σ H x y v u Q I rx ry h;let(a,b,xs,ys,rfl,rfl,ha,hb,hx,hz,q1,q2):=h;cases rx;cases ry;let(its,r1,p1,_):=I.tuple ha;let(jF,r2,p2,_):=I.tuple hb;apply HT.Ml p1 p2 (λz=>hx (r1.tW.mp z)) (λz=>#[.ref a,H,I,rfl,q1 (r2.tW.mp z)]) (λz=>?_) (by rw[<- r1.length,<- r2.length];show hz)
 apply#[.ref s⁻¹,_,I.laid (λb ob q=>dE _ q) (eA _) ?_,rfl,q2 (λw=>z (r2.tW.mpr w)) _ (I.hok.fresh (eA _))]
 show#[by rw[fI];show hz,_,r1.append r2,iC.new _ _]
end
abbrev yJ(n:Nat)(i:Int):Option Nat:=if 0<=i then (if i<n then some i.toNat else none)else if -(n:Int)<=i then some (i+n).toNat else none
abbrev gJ{α:Type}(xs:List α)(i:Int):Option α:=(yJ xs.length i).bind λj=>xs[j]?
def tX(h:yJ n i=!j):seqIndex? i n=!j/\j<n/\-(n:Int)<=i/\i<n:=by
 delta yJ at h;by_cases h0:0<=i
 .
  rw[i5 h0]at h;by_cases h1:i<n
  . rw[i5 h1]at h;have e:=nN h;show#[by rw[seqIndex_of h0 h1,e],by lia,by lia,h1]
  . rw[kA h1]at h;symm
 .
  rw[kA h0]at h;by_cases h1 : -(n:Int)<=i
  . rw[i5 h1]at h;have e:=nN h;show#[by rw[seqIndex_neg ⋯ h1,e],by lia,h1,by lia]
  . rw[kA h1]at h;symm
def Au{α:Type}{xs:List α}{i:Int}{v:α}(h:gJ xs i=!v):∃j,seqIndex? i xs.length=!j/\xs[j]?=!v/\j<xs.length/\-(xs.length:Int)<=i/\i<xs.length:=by
 delta gJ at h;cases e:yJ xs.length i with
 |none=>rw[e]at h;symm
 |some j=>rw[e]at h;let(h1,h2,h3,h4):=tX e;show#[j,h1,h,h2,h3,h4]
abbrev tY(b:Expr):Prop:=∀o i,subscripted b false o i=operate [o,i] (getItem o i)
abbrev Zx(X:Cx)(r:R2):Prop:=
 ∀(value slice:Expr) (aj: ~~~1) (s:Shared) (σ:St) (H:Hp) (x y:V) (v u:Value) (Q:VK),Inv X aj σ H s->RelV x v->RelV y u->r x y H Q->
  subscripted slice false v u=operate [v,u] (getItem v u)->wpAny (~~~2) X.A (subscriptTail value slice v u) (EP X aj σ Q) X.xe s
abbrev MtR(X:Cx)(id:String)(r:V->List V->Hp->VK->Prop):Prop:=
 ∀(aj: ~~~1) (s:Shared) (σ:St) (H:Hp) (x:V) (xs:List V) (v:Value) (us:List Value) (Q:VK),Inv X aj σ H s->RelV x v->Vals xs us->r x xs H Q->
  wpAny (~~~2) X.A (call (.builtin id) (v::us)) (EP X aj σ Q) X.xe s
section
variable{X:Cx}{a b:Expr}{ta tb:TE}{pos:Pos}
def G3{r:R2}(hr:Zx X r)(ha:PE X a ta)(hb:PE X b tb)(hs:tY b):PE X (.Subscript a b pos) (tOp r ta tb):=by intro aj s σ H Q I h;show Subscript_ (Tr ha hb I h λv u s2 x y H2 I2 rx ry q=>hr a b aj s2 σ H2 x y v u Q I2 rx ry q (hs _ _))
abbrev rIxL(K:Frag):R2:=λx y H Q=>∃p xs i v,x=.ref p/\y=.int i/\cA K H p xs/\gJ xs i=!v/\Q v H
abbrev rIxT(K:Frag):R2:=λx y H Q=>∃p xs i v,x=.ref p/\y=.int i/\jG K H p xs/\gJ xs i=!v/\Q v H
def tZ:Zx X (rIxL X.K):=by
 intro value slice aj s σ H x y v u Q I rx ry h hs;let(p,xs,i,z,rfl,rfl,hq,he,q):=h;cases rx;let(t,rfl):=ry;let(its,r,pl,hz):=I.list hq;let(j,h1,h2,h3,h4,h5):=Au he;let(w,ew,rw'):=r.get h2;have hl:=r.length;have hn:=yG;have fin:EP X aj σ Q w s:=#[z,H,I,rw',q];by_cases h0:0<=i
 .
  have hj:i.toNat=j:=by rw[seqIndex_of h0 h5]at h1;show nN h1
  show item_listR pl.isList h0 ⋯ (by rw[hj];simpa using ew) fin hs
 .
  have hj:(i+(its.toArray.size:Int)).toNat=j:=by rw[seqIndex_neg ⋯ h4]at h1;rw[d5,<- hl];show nN h1
  show subscriptTail_builtinR pl.isList.typeIs slot_list_getitem.lookup
   (wpAny_getItem_list_neg pl.isList ⋯ (by rw[d5] <;> lia) ⋯ (by rw[hj];simpa using ew) #[rfl,fin]) hs
def TX:Zx X (rIxT X.K):=by
 intro value slice aj s σ H x y v u Q I rx ry h hs;let(p,xs,i,z,rfl,rfl,hq,he,q):=h;cases rx;let(t,rfl):=ry;let(its,r,pl,hz):=I.tuple hq;let(j,h1,h2,h3,h4,h5):=Au he;let(w,ew,rw'):=r.get h2;have hl:=r.length;have hn:=yG;have fin:EP X aj σ Q w s:=#[z,H,I,rw',q];show subscriptTail_builtinR pl.typeIs slot_tuple_getitem.lookup
  (getItem_tuple pl ⋯ ⋯ (by rw[d5,<- hl];show h1) (by simpa using ew) #[rfl,fin]) hs
def yK(its:List Value)(n j:Nat)(u:Value):Obj.mapSeq (·.setIfInBounds j u) { cls:=.type "list",data:=.seq its.toArray n}={ cls:=.type "list",data:=.seq (its.set j u).toArray n}:=by simp[Obj.mapSeq]
def Inv.lst{aj: ~~~1}{σ:St}{H:Hp}{s:Shared}{p:Addr}{xs:List V}(I: ~~~7)(h:H p=!(.lst xs)) :
  ∃(its:List Value) (n:Nat),Vals xs its/\s.heap.get? p=some { cls:=.type "list",data:=.seq its.toArray n}/\xs.length<=sizeLine:=by
 let(z,its,n,r,e):=I.hok p _ h;show#[its,n,r,e,z]
def Inv.TY{aj: ~~~1}{σ:St}{H:Hp}{s:Shared}{p:Addr}{xs ys:List V}{its its':List Value}{n n':Nat}{f:Obj->Obj}(I: ~~~7)(h:H p=!(.lst xs))
  (ho:s.heap.get? p=some { cls:=.type "list",data:=.seq its.toArray n}) (hf:f { cls:=.type "list",data:=.seq its.toArray n}={ cls:=.type "list",data:=.seq its'.toArray n'}) (r:Vals ys its') (hz:ys.length<=sizeLine) (t:Nat) :
  Inv X aj σ (upd H p (.lst ys)) { s with heap:=s.heap.update p f,toks:=t}:=by
 have e:(s.heap.update p f).get? p=some { cls:=.type "list",data:=.seq its'.toArray n'}:=by rw[nK f ho (by rw[hf] <;> rfl),hf]
 apply I.write (by rw[h];trivial) (.inl rfl) (λb u hb q=>(lS _ _ (sT hb)).trans q) #[_,e] ?_
 show#[hz,its',n',r,e]
abbrev Zy:V->V->V->Hp->(Hp->Prop)->Prop:=λo i v H Q=>∃p xs k j,o=.ref p/\i=.int k/\H p=!(.lst xs)/\yJ xs.length k=!j/\Q (upd H p (.lst (xs.set j v)))
def set_list:Zb X Zy:=by
 intro aj s σ H o i v ov iv u Q I ro ri rv h;let(p,xs,k,j,rfl,rfl,hp,hj,q):=h;cases ro;let(t,rfl):=ri;let(its,n,r,ho,hz):=I.lst hp;let(h1,h2,h3,h4):=tX hj;have hl:=r.length;have hn:=yG;have I':=
  I.TY hp ho (yK its n j u) (r.set rv j) (by rw[u4];show hz) s.toks
 by_cases h0:0<=k
 .
  have hk:k.toNat=j:=by rw[seqIndex_of h0 h4]at h1;show nN h1
  show PySem.W.ki_setAt ho h0 ⋯ (by rw[d5,<- hl];show h4) (by rw[hk];show#[_,I',q])
 .
  have hk:(k+(its.toArray.size:Int)).toNat=j:=by rw[seqIndex_neg ⋯ h3]at h1;rw[d5,<- hl];show nN h1
  show PySem.W.ki_setBack ho ⋯ (by rw[d5,<- hl];show h3) ⋯ (by rw[hk];show#[_,I',q])
def uc:d9 X (.type "list") (λxs H Q=>∃p ys,xs=[.ref p]/\(cA X.K H p ys\/jG X.K H p ys)/\∀l,H l=none->Q (.ref l) (upd H l (.lst ys))):=by
 intro aj s σ H xs us Q I r h;let(p,ys,rfl,hq,q):=h;let(u,rfl,rx):=vals1 r;cases rx;have fin:∀(its:List Value),Vals ys its->ys.length<=sizeLine->∀(h':Heap) (c':Nat),(∀b o',s.heap.get? b=!o'->h'.get? b=!o')->
   h'.get? s⁻¹=some { cls:=.type "list",dict:=none,data:=.seq its.toArray c',slots:=([].toArray)}->EP X aj σ Q (.ref s⁻¹) { s with heap:=h'}:=λits r' hz h' c' kp e=>
  #[.ref s⁻¹,_,I.laid kp (eA _) (show cB X.prog X.w _ h' _ (.lst ys)from#[hz,its,c',r',e]),rfl,q _ (I.hok.fresh (eA _))]
 rcases hq with hq |hq
 . let(its,r',pl,hz):=I.list hq;have aL:=r'.length;let(o,ho,hc,n,hd):=pl.isList;show call_list_seq p (.inl rfl) ho hc hd (λh' c' kp e=>fin its r' hz h' c' kp e) (by simp only[d5] <;> lia)
 . let(its,r',pl,hz):=I.tuple hq;have aL:=r'.length;let(o,ho,hc,n,hd):=pl;show call_list_seq p (.inr rfl) ho hc hd (λh' c' kp e=>fin its r' hz h' c' kp e) (by simp only[d5] <;> lia)
def rz:d9 X (.type "tuple") (λxs H Q=>∃p ys,xs=[.ref p]/\((cA X.K H p ys/\∀l,H l=none->Q (.ref l) (upd H l (.tup ys)))\/(jG X.K H p ys/\Q (.ref p) H))):=by
 intro aj s σ H xs us Q I r h;let(p,ys,rfl,h):=h;let(u,rfl,rx):=vals1 r;cases rx;rcases h with ⟨hq,q⟩ |⟨hq,q⟩
 .
  let(its,r',pl,hz):=I.list hq;have aL:=r'.length;apply call_tuple_list pl.isList (λh' kp=>?_) (by simp only[d5] <;> lia)
  have I1:=I.kept (t':=s.toks) kp;have I2:=
   I1.laid (t':=s.toks) (λb o e=>dE _ e) (eA _) (show cB X.prog X.w _ _ _ (.tup ys)from#[hz,its,r',iC.new _ _])
  show#[.ref h'.objs.size,_,I2,rfl,q _ (I1.hok.fresh (eA _))]
 . let(its,r',pl,hz):=I.tuple hq;show call_tuple_same pl #[.ref p,H,I,rfl,q]
abbrev tyV(K:Frag)(T:String)(x:V)(H:Hp):Prop:=match x with
 |.str _=>T = "str"
 |.int _=>T = "int"
 |.ref p=>(T = "list" /\∃xs,cA K H p xs)\/(T = "tuple" /\∃o,K.lookup p=!o/\o.cls=.type "tuple" /\o.dict=none)\/
   (T = "dict" /\((∃lJ,H p=!(.dK lJ))\/∃lJ,H p=!(.dT lJ)))\/(T = "set" /\∃φ,H p=!(.set φ))
 |_=>False
def T3{aj: ~~~1}{σ:St}{H:Hp}{s:Shared}{T:String}{x:V}{v:Value}(I: ~~~7)(r:RelV x v)(ty:tyV X.K T x H) :
  s.TypeIs v T/\∀a,v=.ref a->∃ob,s.heap.get? a=!ob/\ob.dict=none:=by
 cases x with
 |str z=>
  let(t,rfl):=r;cases (show T = "str" from ty)
  show#[typeIs_str s z t,λ_ e=>nomatch e]
 |int i=>
  let(t,rfl):=r;cases (show T = "int" from ty)
  show#[typeIs_int s i t,λ_ e=>nomatch e]
 |ref p=>
  cases r;rcases ty with ⟨rfl,xs,hq⟩ |⟨rfl,o,hk,hc,hd⟩ |⟨rfl,hk⟩ |⟨rfl,φ,hk⟩
  .
   let(its,_,pl,_):=I.list hq;apply#[pl.isList.typeIs,λa e=>?_]
   cases e;let(o,n,e,c,hd,_):=pl;show#[o,e,hd]
  .
   apply#[#[o,I.oY p o hk,hc],λa e=>?_]
   cases e;show#[o,I.oY _ o hk,hd]
  .
   have z:∃o,s.heap.get? p=!o/\o.ExactDict:=by
    rcases hk with ⟨lJ,hk⟩ |⟨lJ,hk⟩
    . let(_,_,_,_,o,_,_,e,ex,_):=I.hok p _ hk;show#[o,e,ex]
    . let(_,_,_,_,o,_,_,e,ex,_):=I.hok p _ hk;show#[o,e,ex]
   let(o,e,ex):=z;apply#[#[o,e,ex.1],λa e2=>?_]
   cases e2;show#[o,e,ex.2.1]
  .
   let(o,e,ex,_):=I.hok p _ hk;apply#[#[o,e,ex.1],λa e2=>?_]
   cases e2;show#[o,e,ex.2.1]
 |_=>show False.elim ty
abbrev tBM(K:Frag)(T:String)(r:V->List V->Hp->VK->Prop)(to:TE)(t:TA):TE:=λσ H Q=>to σ H λx H1=>tyV K T x H1/\t σ H1 λxs H2=>r x xs H2 Q
variable{o e:Expr}{es:List Expr}{to:TE}{t:TA}{name:Str}{cF bN:Pos}{T id:String}{r:V->List V->Hp->VK->Prop}
def vE(pa:PlainAttrs T)(slot:Slot T name id)(hty:typeOf (.builtin id)=pure (.type "method_descriptor"))(hm:MtR X id r)(ho:PE X o to)(ha:PA X (e::es) t)
  (hbase:attributeBase o name X.env (eval o X.env)=eval o X.env:=by rfl)
  (hfew:((backTo bN (starEach (e::es) X.env)).all (λx=>(not x.1))&&(backToKw bN (keywordEach [] X.env)).all (λx=>x.1.isSome)
   && decide ((e::es).length+([]:List Keyword).length+(if ([]:List Keyword).isEmpty then 0 else 1)<30))=true:=by rfl)
  (hline:(cF.endLine==bN.line)=true:=by rfl) (hs:starEach (e::es) X.env=(false,eval e X.env)::starEach es X.env:=by rfl) (hplain:(backTo bN (starEach es X.env)).any (·.1)=false:=by rfl) :
  PE X (.Call (.Attribute o name cF) (e::es) [] bN) (tBM X.K T r to t):=by
 intro aj s σ H Q I h;apply wpAny_Call_method_late hbase hfew hline rfl (bU (ho aj s σ H _ I h) ?_);rintro v s1 ⟨x,H1,I1,r1,ty,q1⟩;let(h1,h2):=T3 I1 r1 ty;apply#[T,id,pa,slot,hty,h1,h2,?_];have hA:=ha bN aj s1 σ H1 _ I1 q1;rw[hs]at hA ⊢
 apply Calls.callWith_builtin (by exact (false||(backTo bN (starEach es X.env)).any (·.1))=false;rw[hplain] <;> rfl) (Calls.evalArgs_plain ?_)
 show bU hA (by rintro us s2 ⟨vs,H2,I2,r2,q2⟩;show hm aj s2 σ H2 x vs v us Q I2 r1 r2 q2)
/- xs.append(e),list.index on a module's tuple .. are MtR facts of 06m -/
end
abbrev MtM(X:Cx)(id:String)(r:V->List V->Hp->VK->Prop):Prop:=
 ∀(aj: ~~~1) (s:Shared) (σ:St) (H:Hp) (x:V) (xs:List V) (v:Value) (us:List Value) (Q:VK),Inv X aj σ H s->RelV x v->Vals xs us->r x xs H Q->
  wpAny (~~~2) X.A (call (.builtin id) (v::us)) (EP X aj σ Q) X.xe s
def Vals.one:∀{x:V}{us:List Value},Vals [x] us->∃u,us=[u]/\RelV x u:=by intro x us h;cases h with |cons r t=>cases t;show#[_,rfl,r]
def Vals.eraseIdx:∀{xs:List V}{us:List Value} (i:Nat),Vals xs us->Vals (xs.eraseIdx i) (us.eraseIdx i)
 |_,_,_,.nil=>.nil
 |_,_,0,.cons _ t=>t
 |_,_,i+1,.cons r t=>.cons r (Vals.eraseIdx i t)
def Vals.rep(h:Vals xs us):∀k:Nat,Vals (List.replicate k xs).flatten (List.replicate k us).flatten
 | 0=>.nil
 |k+1=>by
  show Vals.append h (Vals.rep h k)
def r9{α:Type}:∀(l:List α) (i:Nat),(l.eraseIdx i).length<=l.length
 | [],_=>eA _
 |_::_,0=>A7 _
 |_::r,i+1=>Nat.succ_le_succ (r9 r i)
def foldl_rep(its:List Value):∀(k:Nat) (acc:List Value),
  List.foldl (λx1 x2=>x1++x2) acc.toArray (List.replicate k its.toArray)=(acc++(List.replicate k its).flatten).toArray
 | 0,acc=>by simp
 |k+1,acc=>by
  have e:acc.toArray++its.toArray=(acc++its).toArray:=by simp
  have e2:(acc++its)++(List.replicate k its).flatten=acc++(List.replicate (k+1) its).flatten:=by rw[AH,List.flatten_cons,AG]
  rw[<- e2,<- foldl_rep its k (acc++its),<- e,AH,List.foldl_cons]
section
variable{X:Cx}{aj: ~~~1}{σ:St}{H:Hp}{s:Shared}{l b:Addr}{xs ys zs:List V}
def Inv.Mp{its its':List Value}{n:Nat}{f:Array Value->Array Value}{t':Nat}(I: ~~~7)(hH:H l=!(.lst xs))
  (e:s.heap.get? l=some { cls:=.type "list",data:=.seq its.toArray n}) (hf:f its.toArray=its'.toArray) (hv:Vals ys its') (hz:ys.length<=sizeLine) :
  Inv X aj σ (upd H l (.lst ys)) { s with heap:=s.heap.update l (Obj.mapSeq f),toks:=t'}:=by
 have q:=PySem.IsL.update e f;rw[hf]at q;apply I.write (by rw[hH];show trivial) (.inl rfl) (λb' u hb hu=>(lS s.heap (Obj.mapSeq f) (sT hb)).trans hu) #[_,q] ?_
 show#[hz,its',_,hv,q]
def Inv.Zz(I: ~~~7)(hv:Vals ys its)(hz:ys.length<=sizeLine) :
  Inv X aj σ (upd H s⁻¹ (.lst ys)) { s with heap:=s.heap.push { cls:=.type "list",data:=.seq its.toArray},toks:=t'}:=
 I.laid (λ_ _ q=>dE _ q) (eA _) #[hz,its,0,hv,fN _ rfl]
def Inv.fresh(I: ~~~7):H s⁻¹=none:=I.hok.fresh (eA _)
def Inv.ud(I: ~~~7)(hH:H l=!(.lst xs)):xs.length<=sizeLine/\∃(its:List Value) (n:Nat),Vals xs its/\xs.length=its.length/\s.heap.get? l=some { cls:=.type "list",data:=.seq its.toArray n}:=by let(z,its,n,r,e):=I.hok l _ hH;show#[z,its,n,r,r.length,e]
def pB(h:n<=sizeLine):Builtin.List.listTooLong n=false:=by show tJ ⋯
end
section
variable{X:Cx}
abbrev Mq:V->List V->Hp->VK->Prop:=λx vs H Q=>∃l xs y,x=.ref l/\vs=[y]/\H l=!(.lst xs)/\xs.length<sizeLine/\Q .non (upd H l (.lst (xs++[y])))
def jr:MtM X "list.append" Mq:=by
 intro aj s σ H x vs v us Q I rx rv h;let(l,xs,y,rfl,rfl,hH,hz,q):=h;cases rx;let(u,rfl,ru):=rv.one;let(z,its,n,r,hl,e):=I.ud hH;apply C9 F.slot_list_append #[_,e,rfl] F.entry_list_append (F.args_list_append_2 _ _) (PySem.list_append l its.toArray n u (by rw[d5];lia)) #[e,?_]
 apply#[.non,_,I.Mp hH e ⋯ (r.append (.cons ru .nil)) ?_,rfl,q];rw[fI,An];lia
abbrev Mr:V->List V->Hp->VK->Prop:=λx vs H Q=>∃l b xs zs,x=.ref l/\vs=[.ref b]/\H l=!(.lst xs)/\H b=!(.lst zs)/\xs.length+zs.length<=sizeLine/\Q .non (upd H l (.lst (xs++zs)))
def Di:MtM X "list.extend" Mr:=by
 intro aj s σ H x vs v us Q I rx rv h;let(l,b,xs,zs,rfl,rfl,hH,hB,hz,q):=h;cases rx;let(u,rfl,ru):=rv.one;cases ru;let(z,its,n,r,hl,e):=I.ud hH;let(z2,jF,n2,r2,hl2,e2):=I.ud hB;have hsz:its.toArray.size+jF.toArray.size<=sizeLine:=by rw[d5,d5];lia
 have vF : ¬ ((not its.toArray.isEmpty)&&Builtin.List.listTooLong (its.toArray.size+jF.toArray.size))=true:=by rw[pB hsz,Cf];show xL
 apply C9 F.slot_list_extend #[_,e,rfl] F.entry_list_extend (F.args_list_extend_2 _ _)
  (AutoSeq1.list_extend_list_list_0 l its.toArray n b jF.toArray n2 vF (by rw[d5];lia) ⋯) #[e,e2,?_]
 apply#[.non,_,I.Mp hH e ⋯ (r.append r2) ?_,rfl,q];rw[fI];lia
abbrev T4:V->List V->Hp->VK->Prop:=λx vs H Q=>∃l xs i k y,x=.ref l/\vs=[.int i]/\H l=!(.lst xs)/\-(2 ^ 63)<=i/\i<2 ^ 63/\seqIndex? i xs.length=!k/\xs[k]?=!y/\Q y (upd H l (.lst (xs.eraseIdx k)))
def G4:MtM X "list.pop" T4:=by
 intro aj s σ H x vs v us Q I rx rv h;let(l,xs,i,k,y,rfl,rfl,hH,h1,h2,hk,hy,q):=h;cases rx;let(u,rfl,ru):=rv.one;let(t,rfl):=ru;let(z,its,n,r,hl,e):=I.ud hH;let(w,hw,rw'):=r.get hy;apply C9 F.slot_list_pop #[_,e,rfl] F.entry_list_pop (F.args_list_pop_2 _ _)
  (MeetsSeq.list_pop_at l its.toArray n i t k w (fitsIndex_both h1 h2) (by rw[d5,<- hl];show hk) (by rw[<- AK];show hw) (by rw[d5];lia)) #[e,?_]
 apply#[y,_,I.Mp hH e ?_ (r.eraseIdx k) ?_,rw',q]
 . exact its.toArray.eraseIdxIfInBounds k=(its.eraseIdx k).toArray;rw[List.eraseIdxIfInBounds_toArray]
 . have:=r9 xs k;lia
abbrev rCat:R2:=λx y H Q=>∃l b xs zs,x=.ref l/\y=.ref b/\H l=!(.lst xs)/\H b=!(.lst zs)/\xs.length+zs.length<=sizeLine/\∀p,H p=none->Q (.ref p) (upd H p (.lst (xs++zs)))
def T5:nQ X (binaryOp .Add) rCat:=by
 intro aj s σ H x y v u Q I rx ry h;let(l,b,xs,zs,rfl,rfl,hH,hB,hz,q):=h;cases rx;cases ry;let(z,its,n,r,hl,e):=I.ud hH;let(z2,jF,n2,r2,hl2,e2):=I.ud hB;apply PySem.P.add_list e e2 ?_ (by rw[d5,d5];lia)
 have ea:its.toArray++jF.toArray=(its++jF).toArray:=by simp
 rw[ea];show#[.ref _,_,I.Zz (r.append r2) (by rw[fI];lia),rfl,q _ I.fresh]
abbrev rRep:R2:=λx y H Q=>∃l k xs,x=.ref l/\y=.int k/\H l=!(.lst xs)/\-(2 ^ 63)<=k/\k<2 ^ 63/\xs.length * k.toNat<=sizeLine/\
 ∀p,H p=none->Q (.ref p) (upd H p (.lst (List.replicate k.toNat xs).flatten))
def len_rep{α:Type}(xs:List α)(k:Nat):(List.replicate k xs).flatten.length=k * xs.length:=by
 induction k with
 |zero=>simp
 |succ k ih=>rw[AH,List.flatten_cons,fI,ih,Nat.succ_mul,Nat.add_comm]
def T6:nQ X (binaryOp .Mult) rRep:=by
 intro aj s σ H x y v u Q I rx ry h;let(l,k,xs,rfl,rfl,hH,h1,h2,hz,q):=h;cases rx;let(t,rfl):=ry;let(z,its,n,r,hl,e):=I.ud hH;have aL:its.toArray.size * k.toNat<=sizeLine:=by rw[d5,<- hl];show hz
 have hcap : ¬ its.toArray.size * k.toNat > (2 ^ 63 - 1) / 8:=by
  have:(sizeLine:Nat)<=(2 ^ 63 - 1) / 8:=by decide
  lia
 have hfit : ¬ ((not (Builtin.List.listFitsIndex k)))=true:=by rw[fitsIndex_both h1 h2];show xL
 have vF : ¬ Builtin.List.listTooLong (its.toArray.size * k.toNat)=true:=by rw[pB aL];show xL
 have hnew:List.foldl (λx1 x2=>x1++x2) ([].toArray) (List.replicate (if its.toArray.isEmpty=true then 0 else k.toNat) its.toArray)=(List.replicate k.toNat its).flatten.toArray:=by
  have f0:∀m:Nat,List.foldl (λx1 x2=>x1++x2) ([].toArray) (List.replicate m its.toArray)=(List.replicate m its).flatten.toArray:=λm=>by
   have:=foldl_rep its m [];show this
  rw[f0];cases its with
  |nil=>simp
  |cons a r'=>rw[kA ⋯]
 apply wpAny_binaryOp_repeat_ref ⋯ #[_,e,rfl] (λs'=>typeIs_int s' k t) noFill_list_mul F.fills_int_mul F.slot_int_rmul repeat_list F.slot_int_index.lookup
  (C9 F.slot_int_rmul (typeIs_int s k t) F.entry_int_rmul (F.args_int_rmul_2 _ _) (int___rmul___int_list k t l its.toArray n)
   #[e,rfl,#[_,e,rfl],C9 F.slot_list_mul #[_,e,rfl] F.entry_list_mul (F.args_list_mul_2 _ _) (AutoListH.list___mul___list_int_3 l its.toArray n k t hfit hcap vF) #[e,?_]])
 rw[hnew];show#[.ref _,_,I.Zz (r.rep k.toNat) (by rw[len_rep,Nat.mul_comm];show hz),rfl,q _ I.fresh]
end
end L2
namespace Att
open PySem PySem.W PySem.Calls PyProof.Rows
def nR:∀(ns: ~~~0) (vs:List Value),WellAll P h vs (ns.map WData.int)->IntsAre vs ns:=by
 intro ns
 induction ns with
 |nil=>intro vs w;cases w;show .nil
 |cons n ns ih=>
  intro vs w;cases w with
  |cons a b=>cases a;show .cons _ _ (ih _ b)
def Dj{l:OpenLaw}{n:Nat}(hn:l.most=!n){P:Params}{h:Heap}{args:List WData}{vals:List Value}
  (hpre:l.row.toRowW.claim.pre args=true) (hwl:WellAll P h vals args) :
  ∃a vs ns,vals=[Value.ref a]/\args=[WData.list (ns.map WData.int)]/\h.get? a=some { cls:=.type "list",data:=.seq vs.toArray}/\IntsAre vs ns/\ns.length<=n:=by
 have hsh:=(pre_splitW hpre).1;have hc:l.pre.holds [] { args:=args}=true:=(pre_splitW hpre).2;let(d,r,rfl,h1,h2):=hasAllW_cons hsh;obtain rfl:=hasAllW_nil h2;let(xs,rfl,h3):=hasW_list h1;let(ns,rfl):=items_int h3;have aL:ns.length<=n:=by
  have h4:(WTm.not (.lt (.lit (.int (n:Int))) (.len (.arg 0)))).holds [] { args:=[.list (ns.map .int)]}=true:=by have h4:=(holds_andW hc).1;rw[hn]at h4;show h4
  have h5:=condW_of h4 (w_not (w_lt w_lit (w_len_list (w_arg rfl))));apply Nat.le_of_not_lt λq=>?_
  first
   | (rw[oC q']at h5;show absurd h5 ⋯)
   | (simp at h5;lia)
 cases hwl with
 |cons w1 w2=>
  cases w2;cases w1 with
  |list ho hall=>show#[_,_,ns,rfl,rfl,ho,nR ns _ hall,aL]
def Dk(l:OpenLaw)(args:List WData):l.row.toRowW.claim.post args (.bool true) args=true:=
 postW_of
  (show WShape.has [] (.bool true) .bool=true by first |rfl |decide |simp[WShape.arms])
  (show (WTm.eq .res (.lit (.bool true))).value [] { args:=args,res:=!(.bool true),after:=args}=!(.bool (true==true))from w_eq_bool (w_res rfl) w_lit) rfl
def vG{l:OpenLaw}{n:Nat}{q:Program}{loose:List Str}{XP:(Str->Option Value)->Heap->Prop}{YP:World->Heap->Prop}{d:DefRec}
  (hn:l.most=!n) (jl:d.params.defaults=[])
  (call:∀(w:World) (s₀ s₁:Shared) (mg mb:Str->Option Value) (fa:Addr) (o:Obj) (pm cd doc:Value) (a:Addr) (vs:List Value) (ns: ~~~0),
   Ground q loose [] XP w s₀ mg mb s₁.heap->YP w s₁.heap->
   s₁.heap.get? fa=!o->o.data=.func (docDef d.name d.params d.body d.scope pm cd doc)->s₁.heap.CodeRec cd d.name->mg d.name=!(.ref fa)->
   s₁.heap.get? a=some { cls:=.type "list",data:=.seq vs.toArray}->IntsAre vs ns->ns.length<=n->s₁.gens = ([].toArray)->
   codeAny (model l.prog w) callerA (.call (.ref fa) #[[.ref a],[]]) (λr s'=>r=.ok (.ret (.bool true))/\OldK s₁.heap s'.heap/\s'.os=s₁.os/\AllBare s'.gens) s₁) :
  WalkO q loose XP YP l.row.toRowW d [] (λf vs=>PySem.call f vs):=by
 intro w s₀ s₁ mg mb G Y fa o pm cd doc dV kV ho hd bR hD hmg hg args vals as hpre hlay hrd hwl hlo;obtain rfl:dV=.none:=Dflts.none hD jl;obtain rfl:kV=.none:=Dflts.noKw hD;let(a,vs,ns,rfl,rfl,hobj,hints,aL):=Dj hn hpre hwl;apply enter_call (BD (call w s₀ s₁ mg mb fa o pm cd doc a vs ns G Y ho (fd_plain hd) bR hmg hobj hints aL hg) λr s' hq=>?_)
 let(rfl,h2,h3,h4):=hq;show#[.inl #[.bool true,.bool true,[],rfl,λ_=>rfl,.bool true,Dk l _,λ_=>#[List.Pairwise.nil,λ_ hm=>(nomatch hm)]],h2,h3,h4]
end Att
namespace L2
def lV:∀{vs:List Value}{ns: ~~~0},IntsAre vs ns->Vals (ns.map V.int) vs:=by
 intro vs ns h
 induction h with
 |nil=>show .nil
 |cons n t h ih=>show .cons #[t,rfl] ih
meta abbrev KOf{K:Frag}{h:Heap}(_:K.In h):Frag:=K
meta abbrev yL:Dg:=λ_ _ _ _ _ _=>False
meta abbrev E0:XK:=λ_ _ _=>False
def Rm:Passes yL X E0:=λ_ _ _ _ _ _ _ h=>h.elim
structure Lv(K:Frag)(x qual:Str)(st:Stmt)(f:Addr)(fd:FuncData):Prop where
 ex:∃(oc:Value) (od:Option Addr) (kV doc pm:Value) (an:Option Addr) (bE ct:Value) (osl:Array (Option Value)),
  fd=PySem.W.fnOf x qual (jm st) (bA st) (aE st) .none kV doc pm an bE ct/\K.lookup f=!#[oc,od,.func fd,osl]/\PySem.W.codeIn K bE qual=true
 kp:PySem.W.keepIn K (.ref f)=true
section
variable{P:Program}{w:World}{K:Frag}{mg:Str->Option Value}{base:Heap}
def T7{x qual:Str}{st:Stmt}{f:Addr}{oc:Value}{od an:Option Addr}{osl:Array (Option Value)}{kV doc pm bE ct:Value}(l:K.lookup f=!#[oc,od,.func (PySem.W.fnOf x qual (jm st) (bA st) (aE st) .none kV doc pm an bE ct),osl])
  (c:PySem.W.codeIn K bE qual=true) (k:PySem.W.keepIn K (.ref f)=true):Lv K x qual st f (PySem.W.fnOf x qual (jm st) (bA st) (aE st) .none kV doc pm an bE ct):=#[#[oc,od,kV,doc,pm,an,bE,ct,osl,rfl,l,c],k]
end
def kM{A B:Prop}(h:B):if false=true then A else B:=by show h
def iG{A B:Prop}(h:A):if true=true then A else B:=by show h
abbrev Cx.block(X:Cx)(N:List Str)(scope:Scope)(cl:List (Str×Addr))(C:Addr)(s₀:Shared)(H₀:Hp)(fp:List Addr):Cx:=
 { X with N:=N,s₀:=s₀,H₀:=H₀,env:=compEnvC scope cl C X.env,outer:=X.stack,ex:=fp,fn:=λx=>scope.names.lookup x==some .local,pn:=[],xe:=λ_ _=>False}
structure Bk where
 cl:List (Str×Addr)
 C:Addr
 s₀:Shared
 H₀:Hp
 fp:List Addr
meta abbrev Cx.blk (X:Cx) (N:List Str) (scope:Scope) (b:Bk):Cx:=X.block N scope b.cl b.C b.s₀ b.H₀ b.fp
structure aJ(sc scope:Scope):Prop where
 kind:scope.kind=.function
 uf:∀y∈scope.names,y.2≠.cell
 uniq:∀y∈scope.names,y.2=.local->scope.names.lookup y.1=some .local
 ZC:∀y∈scope.names,y.2=.free->scope.names.lookup y.1=some .free
 free:∀y∈scope.names,y.2=.free->sc.names.lookup y.1=some .cell\/sc.names.lookup y.1=some .free
def mem_of_lookup{α:Type}{x:Str}{v:α}:∀{l:List (Str×α)},l.lookup x=!v->(x,v)∈l
 | [],h=>by simp at h
 | (n,k)::r,h=>by
  cases hx:x==n with
  |true=>
   simp only[t6,hx]at h;symm;have e:x=n:=by simpa using hx
   subst e;show dA
  |false=>simp only[t6,hx]at h;show bP _ (mem_of_lookup h)
def iH{env:Env}{x:Str}:∀{names:List (Str×NameKind)},
  (names.map λ(n,k)=>if (k==NameKind.free&&env.scope.kind==.function&&env.kindOf n==some .cell)then (n,NameKind.cell)else (n,k)).lookup x
   = (names.lookup x).map λk=>if (k==NameKind.free&&env.scope.kind==.function&&env.kindOf x==some .cell)then NameKind.cell else k
 | []=>rfl
 | (n,k)::r=>by
  have ih:=@iH env x r;exact List.lookup x ((if (k==NameKind.free&&env.scope.kind==.function&&env.kindOf n==some .cell)=true then (n,NameKind.cell)else (n,k))::_)=_
  cases hx:x==n with
  |true=>
   have e:x=n:=by simpa using hx
   subst e;by_cases hc:(k==NameKind.free&&env.scope.kind==.function&&env.kindOf x==some .cell)=true
   . rw[i5 hc];simp only[t6,hx,BO,i5 hc]
   . rw[kA hc];simp only[t6,hx,BO,kA hc]
  |false=>
   by_cases hc:(k==NameKind.free&&env.scope.kind==.function&&env.kindOf n==some .cell)=true
   . rw[i5 hc];simp only[t6,hx];show ih
   . rw[kA hc];simp only[t6,hx];show ih
def pC(h:∀y∈scope.names,y.2=.free->∃c,env.cells.lookup y.1=!c) :
  ∃cl,closureFor scope env=pure cl/\(∀x c,cl.lookup x=!c->env.cells.lookup x=!c/\(x,NameKind.free)∈scope.names)/\∀y∈scope.names,y.2=.free->∃c,cl.lookup y.1=!c:=by
 have key:∀(names:List (Str×NameKind)) (acc:List (Str×Addr)),(∀y∈names,y.2=.free->∃c,env.cells.lookup y.1=!c)->
   ∃cl,(forIn names acc λx (cs:List (Str×Addr))=>(match x with | (name,kind)=>if (kind==.free)=true then (do let c <- cellOf env name;pure (ForInStep.yield ((name,c)::cs)))else pure (ForInStep.yield cs):Sem (ForInStep (List (Str×Addr)))))=pure cl/\
    (∀x c,cl.lookup x=!c->acc.lookup x=!c\/(env.cells.lookup x=!c/\(x,NameKind.free)∈names))/\(∀y∈names,y.2=.free->∃c,cl.lookup y.1=!c)/\∀x c,acc.lookup x=!c->∃c',cl.lookup x=!c':=by
  intro names
  induction names with
  |nil=>intro acc _;show#[acc,rfl,λx c e=>.inl e,(λy hy=>nomatch hy),λx c e=>#[c,e]]
  |cons y r ih=>
   intro acc hf;let(n,k):=y;rw[List.forIn_cons];by_cases hk:(k==NameKind.free)=true
   .
    let(c,hc):=hf (n,k) dA (by simpa using hk)
    have hc':=hc;let(cl,e,h1,h2,h3):=ih ((n,c)::acc) λy hy=>hf y (bP _ hy)
    apply#[cl,?_,λx c' q=>?_,λy hy hyf=>?_,λx c' q=>?_]
    .
     have ec:cellOf env n=pure c:=by delta cellOf;rw[hc']
     exact ((if (k==NameKind.free)=true then (do let c <- cellOf env n;pure (ForInStep.yield ((n,c)::acc)))else pure (ForInStep.yield acc)) >>= _)=_
     rw[i5 hk,ec];show e
    .
     rcases h1 x c' q with z |⟨z1,z2⟩
     .
      cases hx:x==n with
      |true=>
       simp only[t6,hx]at z;cases z;have e:x=n:=by simpa using hx
       subst e;have ek:k=NameKind.free:=by simpa using hk
       subst ek;show .inr #[hc',dA]
      |false=>simp only[t6,hx]at z;show .inl z
     . show .inr #[z1,bP _ z2]
    .
     rcases d6.mp hy with rfl |hy
     . show h3 n c ⋯
     . show h2 y hy hyf
    .
     cases hx:x==n with
     |true=>
      have e:x=n:=by simpa using hx
      subst e;show h3 x c ⋯
     |false=>show h3 x c' (by simp only[t6,hx];show q)
   .
    let(cl,e,h1,h2,h3):=ih acc λy hy=>hf y (bP _ hy)
    apply#[cl,?_,λx c' q=>?_,λy hy hyf=>?_,h3]
    .
     exact ((if (k==NameKind.free)=true then (do let c <- cellOf env n;pure (ForInStep.yield ((n,c)::acc)))else pure (ForInStep.yield acc)) >>= _)=_
     rw[kA hk];show e
    .
     rcases h1 x c' q with z |⟨z1,z2⟩
     . show .inl z
     . show .inr #[z1,bP _ z2]
    .
     rcases d6.mp hy with rfl |hy
     . show absurd hyf (by simpa using hk)
     . show h2 y hy hyf
 let(cl,e,h1,h2,_):=key scope.names [] h;apply#[cl,?_,λx c q=>?_,h2]
 . show (congrArg (λm=>m >>= λcs=>pure cs) e:_)
 .
  rcases h1 x c q with z |z
  . simp at z
  . show z
abbrev jQ(X:Cx)(ifs:List Expr)(t:TT):Prop:=
 ∀(aj: ~~~1) (s:Shared) (σ:St) (H:Hp) (Q:Bool->Hp->Prop),Inv X aj σ H s->t σ H Q->
  wpAny (~~~2) X.A (forIn ifs true λc r=>if r=true then do let ok <- isTrue c X.env (eval c X.env);pure (ForInStep.yield ok)else pure (ForInStep.yield r)) (TP X aj σ Q) X.xe s
abbrev G5:TT:=λ_ H Q=>Q true H
def pF:jQ X [] G5:=λ_ _ _ H _ I h=>wpAny_tests_nil #[H,I,h]
def G6(h:PT X c t):jQ X [c] t:=λaj s σ H Q I hw=>wpAny_tests_one (h aj s σ H Q I hw)
abbrev jR(e target iter:Expr)(ifs:List Expr)(d:Nat)(it acc:Value)(env:Env)(em:Sem Unit):Sem Fin:=do
 standAt iter.pos
 match <- pyNext it with
 |none=>pure (.done .next)
 |some v=>
  letOwnedTupleGo target it v
  assign target env v
  let mut ok:=true
  for c in ifs do
   if ok then ok <- isTrue c env (eval c env)
  if ok then em
  again (.compLoop e d it acc env)
abbrev Cu(ce:Expr):Prop:=∀(prog:Program) (w:World) (A:Around) (d:Nat) (it acc:Value) (env:Env),A.under (.compLoop ce d it acc env)=A/\(model prog w).den (.compLoop ce d it acc env)=(compTurn ce d it acc env).onRaise (λx=>do noteFrame x env;theTreesLotGoes x)
def kN(hu:Cu ce)(ht:compTurn ce d it acc env=jR ce target iter ifs d it acc env em)(I:Nat->Shared->Prop)
  (turn:∀n s,I n s->wpAny (model prog w) A (pyNext it) (λr s₁=>match r with
   |none=>R (.ok .next) s₁
   |some v=>wpAny (model prog w) A (letOwnedTupleGo target it v) (λ_ s₁'=>wpAny (model prog w) A (assign target env v) (λ_ s₂=>
     wpAny (model prog w) A (forIn ifs true λc r=>if r=true then do let ok <- isTrue c env (eval c env);pure (ForInStep.yield ok)else pure (ForInStep.yield r)) (λok s₃=>
      if ok=true then wpAny (model prog w) A em (λ_ s₅=>∃m,m<n/\I m s₅) (λ_ _=>False) s₃
      else ∃m,m<n/\I m s₃) (λ_ _=>False) s₂) (λ_ _=>False) s₁') (λ_ _=>False) s₁) (λ_ _=>False) s)
  (n:Nat) (h:I n s) :
  codeAny (model prog w) A (.compLoop ce d it acc env) R s:=by
 apply codeAny_loop rfl I (λn s hI=>?_) n h
 rw[(hu prog w A d it acc env).1,(hu prog w A d it acc env).2];apply wpAny_noted ?_;rw[ht];apply aS (u7 (aS (i9 (turn n s hI) (λr s₁ h₁=>?_) λ_ _ h'=>h'.elim)))
 cases r with
 |none=>show dS h₁
 |some v=>
  apply aS (i9 h₁ (λ_ s₁' h₁'=>?_) λ_ _ h'=>h'.elim)
  apply aS (i9 h₁' (λ_ s₂ h₂=>aS (i9 h₂ (λok s₃ h₃=>?_) λ_ _ h'=>h'.elim)) λ_ _ h'=>h'.elim)
  cases ok with
  |false=>show dS #[rfl,h₃]
  |true=>show aS (i9 h₃ (λ_ s₅ h₅=>dS #[rfl,h₅]) λ_ _ h'=>h'.elim)
def TU:=St->Hp->(St->Hp->Prop)->Prop
abbrev PU(X:Cx)(m:Sem Unit)(t:TU):Prop:=
 ∀(aj: ~~~1) (s:Shared) (σ:St) (H:Hp) (Q:St->Hp->Prop),Inv X aj σ H s->t σ H Q->wpAny (~~~2) X.A m (λ_ s'=>∃σ' H',Inv X aj σ' H' s'/\Q σ' H') (λ_ _=>False) s
abbrev vH(D:Addr)(te:TE):TU:=λσ H Q=>te σ H λv H5=>∃ys,H5 D=!(.lst ys)/\ys.length<sizeLine/\Q σ (upd H5 D (.lst (ys++[v])))
def ug(he:PE X aX te)(hx:X.xe=λ_ _=>False):PU X (do let _ <- call (.builtin "list.append") [.ref D,<- eval aX X.env]) (vH D te):=by
 intro aj s σ H Q I h;have he:=he aj s σ H _ I h;rw[hx]at he;apply aS (i9 he (?_) λ_ _ z=>z)
 rintro y s8 ⟨v,H8,I8,r8,ys,hD8,hz8,q8⟩;have ma:=jr aj s8 σ H8 (.ref D) [v] (.ref D) [y] (λ_ H9=>Q σ H9) I8 rfl (.cons r8 .nil) #[_,ys,v,rfl,rfl,hD8,hz8,q8]
 rw[hx]at ma;show aS (i9 ma (by rintro _ s9 ⟨_,H9,I9,_,q9⟩;show dS #[σ,H9,I9,q9]) λ_ _ z=>z)
abbrev σC(k:Nat)(D:Addr)(σ:St):St:=σ++(List.replicate k none++[!(.ref D)])
abbrev ZD(X:Cx)(σ:St)(b:Bk):Prop:=∃aj,Inv X aj σ b.H₀ b.s₀/\∀a∈b.fp,jA X aj b.H₀ a
abbrev Ms(u0:HO)(X:Cx)(k:Nat)(g:Bk->TG)(tt:Bk->TT)(te:Addr->Bk->TU)(J:It)(D:Addr)(σ:St)(H1:Hp)(Q:VK):Prop:=
 ∃W:Nat->Nat->St->Hp->Prop,(∃m,W 0 m (σC k D σ) (upd H1 D u0))/\∀i m σ' H',W i m σ' H'->
  (J.stop i H'/\Q (.ref D) H')\/(J.go i H'/\∃Nn:St->Hp->Prop,(∀Av Aw,Nn Av Aw->∃m',m'<m/\W (i+1) m' Av Aw)/\∀x H2,J.Yh i H' x H2->∀bk:Bk,ZD X σ bk->g bk x σ' H2 λσ2 H3=>tt bk σ2 H3 λb H4=>
   if b=true then te D bk σ2 H4 Nn else Nn σ2 H4)
abbrev uh(u0:HO)(X:Cx)(k:Nat)(wi:TI)(g:Bk->TG)(tt:Bk->TT)(te:Addr->Bk->TU):TE:=λσ H Q=>wi σ H λJ H1=>∀D,H1 D=none->Ms u0 X k g tt te J D σ H1 Q
def sf:=uh (.lst [])
structure Ck(X:Cx)(ce tg iter:Expr)(ifs:List Expr)(rest:List Comprehension)(new:Sem Value)(u0:HO)(em:Value->Env->Sem Unit):Prop where
 cls:clausesOf ce=#[tg,iter,ifs,0]::rest
 und:Cu ce
 turn:∀it D env,compTurn ce 0 it (.ref D) env=jR ce tg iter ifs 0 it (.ref D) env (em (.ref D) env)
 new:∃o0:Obj,o0.isFreed=false/\(∀{A:Around}{E Q:Value->Shared->Prop}{s:Shared},Q (.ref s⁻¹) { s with heap:=s.heap.push o0}->wpAny (~~~2) A new Q E s)/\
  ∀(H:Hp) (h:Heap) (a:Addr),h.get? a=!o0->(a==sysModules)=false->cB X.prog X.w H h a u0
 start:∀{A:Around}{R:Result->Shared->Prop}{s:Shared}{it acc:Value}{env:Env},codeAny (~~~2) A (.compLoop ce 0 it acc env) R s->
  wpAny (~~~2) A (pyIter it) (λit' s'=>codeAny (~~~2) A (.compLoop ce 0 it' acc env) R s') (notedBy (~~~2) A env λx s'=>R (.error x) s') s->codeAny (~~~2) A (.compStart ce 0 it acc env) R s
def oz{X:Cx}{aX tg iter:Expr}{ifs:List Expr}{rest:List Comprehension}{scope:Scope}{pos:Pos}{em:Value->Env->Sem Unit}(h:∀it acc env,compTurn (.ListComp aX (#[tg,iter,ifs,0]::rest) scope pos) 0 it acc env=jR (.ListComp aX (#[tg,iter,ifs,0]::rest) scope pos) tg iter ifs 0 it acc env (em acc env)) :
  Ck X (.ListComp aX (#[tg,iter,ifs,0]::rest) scope pos) tg iter ifs rest (newList []) (.lst []) em where
 cls:=rfl
 und:=λ_ _ _ _ _ _ _=>#[rfl,rfl]
 turn:=λit D env=>h it (.ref D) env
 new:=#[_,rfl,λh=>y0 h,λ_ _ _ e _=>#[wE _,[],_,.nil,e]]
 start:=codeAny_compStart_list
structure Names(N N':List Str)(scope:Scope)(k:Nat):Prop where
 len:N'.length=N.length+(k+1)
 last:∀x,N'[N.length+k]?=!x->scope.names.lookup x=none
 old:∀i x,N'[i]?=!x->i<N.length->scope.names.lookup x=none\/(N[i]?=!x/\scope.names.lookup x≠some .local)
def dX:(relabel scope env).names.lookup x=(scope.names.lookup x).map λk=>if (k==NameKind.free&&env.scope.kind==.function&&env.kindOf x==some .cell)then NameKind.cell else k:=iH
section
variable{X:Cx}
def pG(B:aJ X.env.scope scope)(h:(compEnvC scope cl C X.env).kindOf x=some .cell\/(compEnvC scope cl C X.env).kindOf x=some .free) :
  (x,NameKind.free)∈scope.names:=by
 have e:(compEnvC scope cl C X.env).kindOf x=(scope.names.lookup x).map λk=>if (k==NameKind.free&&X.env.scope.kind==.function&&X.env.kindOf x==some .cell)then NameKind.cell else k:=dX
 rw[e]at h;cases q:scope.names.lookup x with
 |none=>rw[q]at h;rcases h with h |h <;> symm
 |some k=>
  have hm:=mem_of_lookup q;cases k with
  |free=>show hm
  |cell=>show absurd rfl (B.uf _ hm)
  |_=>rw[q]at h;rcases h with h |h <;> (simp at h)
def G7(B:aJ X.env.scope scope)(I: ~~~7)(hC:s⁻¹<=C)
  (hf:∀b∈fp,jA X aj H b) (hfs:∀b∈fp,b<s⁻¹)
  (hcl:∀x c,cl.lookup x=!c->X.env.cells.lookup x=!c/\(x,NameKind.free)∈scope.names) (Mt:∀y∈scope.names,y.2=.free->∃c,cl.lookup y.1=!c):(X.block N' scope cl C s H fp).Ok where
 mod:=I.ok.mod
 kind:=B.kind
 glob:=I.ok.glob
 blt:=I.ok.blt
 above:=hC
 inj:=λx y c h1 h2=>I.ok.inj x y c (hcl x c h1).1 (hcl y c h2).1
 has:=λx h=>Mt _ (pG B h) rfl
 SM:=λx c h1 h2=>by
  have e:scope.names.lookup x=some .local:=by have:(scope.names.lookup x==!NameKind.local)=true:=h1;simpa using this
  have h3:=(hcl x c h2).2;have q:=B.ZC _ h3 rfl;rw[e]at q;cases q
 hd:=I.ok.hd
 frames:=I.ok.frames
 stk:=.inl rfl
 Ye:=λb hb=>#[kS (eM (hfs b hb) hC),λx c e=>(hf b hb).2.2.2.2.1 x c (hcl x c e).1]
 bs:=I.bs
 Gx:=sK I.ok.Gx I.sz
 vq:=λb o e hb=>by
  let(_,_,_,h3,_):=hf b hb;rcases h3 with h3 |h3
  . show I.ok.vq b o e h3
  . show absurd (eM (fA e) (sK I.ok.Gx h3)) (pV _)
 yx:=λb hb hm=>by
  rcases d6.mp (I.yy b hm)with e |e
  . show (hf b hb).2.1 e
  . show (hf b hb).2.2.1 e
 kJ:=I.stack
 Mh:=I.tQ
def fZ{aj: ~~~1}{σ:St}{H:Hp}{s:Shared}{N':List Str}{k:Nat}{wi:TI}{g:Bk->TG}{tt:Bk->TT}{tu:Addr->Bk->TU}{ce:Expr}{rest:List Comprehension}{new:Sem Value}{u0:HO}{cp:Pos}{em:Value->Env->Sem Unit}{use:Option (Value->Sem Unit)}{Q:Value->Shared->Prop}{Q0:VK}
  (B:aJ X.env.scope scope) (hc:X.calm=true) (hN:Names X.N N' scope k) (hi:PI X tg iter wi) (ck:Ck X ce tg iter ifs rest new u0 em)
  (hin:∀(b:Bk) (D:Addr),PG (X.blk N' scope b) tg (g b)/\jQ (X.blk N' scope b) ifs (tt b)/\PU (X.blk N' scope b) (em (.ref D) (X.blk N' scope b).env) (tu D b))
  (hs:∀x,foldedSetIterable iter X.env x=pure x) (I: ~~~7) (h:uh u0 X k wi g tt tu σ H Q0)
  (fin:∀s' H' D C m,Inv X aj σ H' s'->jA X aj H' C->s'.heap.Ns C m->Q0 (.ref D) H'->compPost (~~~2) X.A X.xe use Q (.ref D) C (.ok .next) s') :
  wpAny (~~~2) X.A (comprehension ce scope X.env cp new false (eval iter X.env) use) Q X.xe s:=by
 let(cl,hclos,hcl,Mt):=pC λy hy hf=>I.ok.has y.1 (B.free y hy hf)
 apply wpAny_comprehension_free ck.cls hs hclos B.kind B.uniq (bU (hi aj s σ H _ I h) λxv s₁ h₁=>bU h₁ λitv s₂ h₂=>?_)
 let(it,fp,tn,J,H2,rfl,I2,T,aI,f2,hW):=h₂;let(o0,fr0,new0,ok0):=ck.new;apply new0 (wpAny_newFunctionEnv B.uf (by intro y hy;simp at hy) (λh₁ ZF T8=>?_) B.kind)
 generalize hH2:s₂.heap.push o0=P2 at ZF T8 ⊢
 have hC:P2.objs.size=s₂⁻¹+1:=by rw[<- hH2,AD]
 have hDC:s₂⁻¹≠P2.objs.size:=by rw[hC];show kS (oI _)
 have T9:s₂⁻¹<=P2.objs.size:=by rw[hC];show A7 _
 have old:∀b o,s₂.heap.get? b=!o->h₁.get? b=!o:=λb o e=>T8.extBut b o (kS (by rw[hC];show Nat.lt_succ_of_lt (fA e))) (dE _ (hH2▸dE _ e))
 have hD0:=I2.hok.fresh (eA _);have hC0:=I2.hok.fresh T9;have nsys:(s₂⁻¹==sysModules)=false:=by
  have h1:=(I2.ok.mod.glob.keeps I2.bk).lt;apply Bool.eq_false_iff.mpr λq=>?_
  have q:=eq_of_beq q;rw[q]at h1;show absurd h1 ⋯
 have fps:∀b∈fp,b<s₂⁻¹:=λb hb=>by
  let(o,e,_):=T.obj _ _ aI b hb;show fA e
 have ok':=G7 (N':=N') B I2 T9 f2 fps hcl Mt;let(W,(m0,w0),turn):=hW s₂⁻¹ hD0;have fsub:∀b∈fp,b∉frs X.stack:=λb hb=>ok'.yx b hb
 let(hg,ht,he):=hin #[cl,P2.objs.size,s₂,H2,fp] s₂⁻¹;have I0:Inv (X.block N' scope cl P2.objs.size s₂ H2 fp) [] (σC k s₂⁻¹ σ) (upd H2 s₂⁻¹ u0) { s₂ with heap:=h₁,toks:=s₂.toks+([]:List (Str×Value)).length}:=by
  apply#[ok',rfl,I2.bare,Un.laid old (eA _) hD0,#[_,ZF,λi x v e1 e2 e3=>?_],λx c e=>?_,?_,λx c e=>?_,λp hp=>?_,I2.hok.laid old (eA _) ?_,?_]
  .
   have ZG:(compEnvC scope cl P2.objs.size X.env).kindOf x=some .local\/(compEnvC scope cl P2.objs.size X.env).kindOf x=some .cell\/(compEnvC scope cl P2.objs.size X.env).kindOf x=some .free:=e3;have ek:(compEnvC scope cl P2.objs.size X.env).kindOf x=(scope.names.lookup x).map λk=>if (k==NameKind.free&&X.env.scope.kind==.function&&X.env.kindOf x==some .cell)then NameKind.cell else k:=dX
   have Y4:i<σ.length:=by
    rcases wS i σ.length with z |z
    . show z
    .
     exfalso;delta σC at e2;rw[eD z]at e2;rcases wS (i - σ.length) k with z2 |z2
     .
      rw[dL (by rw[hZ];show z2)]at e2
      have:=i7 e2;rw[x5]at this;show absurd this.2 ⋯
     .
      rw[eD (by rw[hZ];show z2),hZ]at e2
      have z3:i - σ.length - k=0:=by
       rcases Nat.eq_zero_or_pos (i - σ.length - k)with q |q
       . show q
       . rw[Ap (Nat.succ_le_of_lt q)]at e2;cases e2
      have z4:i=X.N.length+k:=by rw[<- I2.len];lia
      have hn:=hN.last x (by rw[<- z4];show e1)
      rw[ek,hn]at ZG;rcases ZG with q |q |q <;> cases q
   have Mu:σ[i]?=!(!v):=by delta σC at e2;rw[dL Y4]at e2;show e2
   have hiN:i<X.N.length:=by rw[<- I2.len];show Y4
   rcases hN.old i x e1 hiN with z |⟨z,z2⟩
   . rw[ek,z]at ZG;rcases ZG with q |q |q <;> cases q
   .
    have hfree:(compEnvC scope cl P2.objs.size X.env).kindOf x=some .cell\/(compEnvC scope cl P2.objs.size X.env).kindOf x=some .free:=by
     rcases ZG with q |q
     .
      exfalso;rw[ek]at q;cases hq:scope.names.lookup x with
      |none=>rw[hq]at q;cases q
      |some kk=>
       rw[hq]at q;cases kk with
       | «local»=>show z2 hq
       |free=>simp only[BO]at q;split at q <;> cases q
       |_=>simp at q
     . show q
    have hm:=pG B hfree;let(c,hc1):=Mt _ hm rfl;have ZJ:=hc1;have hc2:=(hcl x c ZJ).1;let(m2,hn2,hl2):=I2.loc;have hvis:g9 X.env.scope x:=(B.free _ hm rfl).elim (λa=>.inr (.inl a)) λa=>.inr (.inr a)
    let(u,ru,lk):=hl2 i x v z Mu hvis;apply#[u,ru,.inr #[hfree,c,ZJ,?_]];rcases lk with ⟨q1,_⟩ |⟨_,c',q1,q2⟩
    .
     exfalso;have Dl:X.env.scope.names.lookup x=some .local:=q1;rcases B.free _ hm rfl with y |y
     . have y':=y;rw[Dl]at y';cases y'
     . have y':=y;rw[Dl]at y';cases y'
    . rw[hc2]at q1;cases q1;let(o,ho,hd):=q2;show#[o,old _ _ ho,hd]
  . let(v,o,ho,hd):=I2.cell x c (hcl x c e).1;show#[v,o,old _ _ ho,hd]
  . exact upd H2 s₂⁻¹ u0 P2.objs.size=none;rw[az (sT hDC)];show hC0
  . have q:=I2.dO x c (hcl x c e).1;let(v,z):=I2.cell x c (hcl x c e).1;rw[az (kS z.lt)];show q
  . show absurd (show p∈([]: ~~~1)from hp) ⋯
  . show ok0 _ _ _ (T8.extBut _ _ hDC (dE _ (hH2▸fN _ fr0))) nsys
  . exact (σC k s₂⁻¹ σ).length=N'.length;delta σC;rw[fI,fI,hZ,hN.len,I2.len];rfl
 have stat:∀{H':Hp},(∀b∈fp,H' b=none)->∀b∈fp,jA (X.block N' scope cl P2.objs.size s₂ H2 fp) [] H' b:=λhn b hb=>
  #[hn b hb,(ok'.Ye b hb).1,fsub b hb,.inl hb,λx c e=>(ok'.Ye b hb).2 x c e,λp hp=>absurd (show p∈([]: ~~~1)from hp) ⋯]
 have loop:∀s₃:Shared,s₃={ s₂ with heap:=h₁,toks:=s₂.toks+([]:List (Str×Value)).length}->
   codeAny (~~~2) X.A (.compLoop ce 0 (.ref it) (.ref s₂⁻¹) (compEnvC scope cl P2.objs.size X.env))
    (compPost (~~~2) X.A X.xe use Q (.ref s₂⁻¹) P2.objs.size) s₃:=by
  rintro s₃ rfl;apply kN ck.und (ck.turn _ _ _) (λn s'=>∃i σ' H',Inv (X.block N' scope cl P2.objs.size s₂ H2 fp) [] σ' H' s'/\tn i s'.heap/\(∀b∈fp,H' b=none)/\W i n σ' H') ?_ m0
   #[0,_,_,I0,T.keep _ _ _ aI λb hb o e=>old b o e,λb hb=>?_,w0]
  .
   rintro n s3 ⟨i,σ3,H3,I3,fE,Ri,w3⟩;rcases turn i n σ3 H3 w3 with ⟨stop,qn⟩ |⟨go,Nn,hNn,step⟩
   .
    apply bU (T.done (X.block N' scope cl P2.objs.size s₂ H2 fp) rfl rfl rfl hc i [] s3 σ3 H3 (λ_ _=>False) I3 (stat Ri) fE stop) λr s4 #[hr,I4]=>?_
    subst hr;let(m,hm,_):=id I4.loc;have I5:=I2.call' I4.os I4.base I4.hok I4.bare λb hb=>#[(f2 b hb).2.2.2.1,(f2 b hb).2.1,(f2 b hb).2.2.2.2.1,(f2 b hb).2.2.2.2.2]
    show fin s4 H3 _ _ m I5 (I2.vB T9 I4.free) hm qn
   .
    apply bU (T.item (X.block N' scope cl P2.objs.size s₂ H2 fp) rfl rfl rfl hc i [] s3 σ3 H3 (λ_ _=>False) I3 (stat Ri) fE go) λr s4 #[u,hr,h4]=>?_
    subst hr;apply bU h4 ?_;rintro _ s5 ⟨x,H5,I5,r5,y5,iE,Zg⟩;have Zh:=I5.pinned (stat Zg) (T.obj _ _ iE);have again:∀{σ7:St}{H7:Hp}{s7:Shared},Inv (X.block N' scope cl P2.objs.size s₂ H2 fp) ([]++lU fp s5.heap) σ7 H7 s7->Nn σ7 H7->∃m,m<n/\∃i σ' H',Inv (X.block N' scope cl P2.objs.size s₂ H2 fp) [] σ' H' s7/\tn i s7.heap/\(∀b∈fp,H' b=none)/\W i m σ' H':=λ{σ7 H7 s7} I7 n7=>by
     let(m',hm,w7):=hNn σ7 H7 n7;apply#[m',hm,i+1,σ7,H7,I7.iD,T.keep _ _ _ iE λb hb o e=>(I7.pin (b,o) (eP _ (eP _ (dz hb e)))).1,λb hb=>?_,w7]
     let(o,e,d):=T.obj _ _ iE b hb;show (I7.pin (b,o) (eP _ (eP _ (dz hb e)))).2.1
    apply bU (hg _ s5 σ3 H5 x u _ Zh r5 (step x H5 y5 #[cl,P2.objs.size,s₂,H2,fp] #[aj,I2,f2])) ?_;rintro _ s6 ⟨σ6,H6,I6,q6⟩;apply bU (ht _ s6 σ6 H6 _ I6 q6) ?_;rintro b s7 ⟨H7,I7,q7⟩;cases b with
    |false=>show again I7 q7
    |true=>show i9 (he _ s7 σ6 H7 _ I7 q7) (by rintro _ s9 ⟨σ9,H9,I9,q9⟩;show again I9 q9) λ_ _ z=>z
  . exact upd H2 s₂⁻¹ u0 b=none;rw[az (kS (fps b hb))];show (f2 b hb).1
 apply ck.start (loop _ rfl) (T.self _ 0 _ _ _ ?_ (loop _ rfl));show T.keep _ _ _ aI λb hb o e=>old b o e
def Ax{N':List Str}{k:Nat}{wi:TI}{g:Bk->TG}{tt:Bk->TT}{te:Bk->TE}(B:aJ X.env.scope scope)(hc:X.calm=true)(hN:Names X.N N' scope k)(hi:PI X tg iter wi)
  (hin:∀b:Bk,PG (X.blk N' scope b) tg (g b)/\jQ (X.blk N' scope b) ifs (tt b)/\PE (X.blk N' scope b) aX (te b))
  (hs:∀x,foldedSetIterable iter X.env x=pure x:=by intro _;rfl):PE X (.ListComp aX [#[tg,iter,ifs,0]] scope pos) (sf X k wi g tt λD b=>vH D (te b)):=by
 intro aj s σ H Q I h;apply fZ B hc hN hi (oz λ_ _ _=>rfl) (λb D=>#[(hin b).1,(hin b).2.1,ug (hin b).2.2 rfl]) hs I h λs' H' D C m I' f' hn q=>?_
 apply#[m,hn,λh' sb=>#[.ref D,H',?_,rfl,q]]
 let(f0,f1,f2,f3,f4,f5):=f';show I'.turned (λb o hb e=>(sb.2 b hb).trans e) f0 f1 f3 f4 f5
def Ay{N':List Str}{k:Nat}{wi:TI}{g:Bk->TG}{tt:Bk->TT}{te:Bk->TE}{i:Nat}{y:Str}{py fY:Pos}(B:aJ X.env.scope scope)(hc:X.calm=true)(hN:Names X.N N' scope k)(hi:PI X tg iter wi)
  (hin:∀b:Bk,PG (X.blk N' scope b) tg (g b)/\jQ (X.blk N' scope b) ifs (tt b)/\PE (X.blk N' scope b) aX (te b))
  (Dm:X.N.Nodup) (hy:X.N[i]?=!y) (hl:X.env.scope.names.lookup y=some .local)
  (hsw:swapsWith (.ListComp aX [#[tg,iter,ifs,0]] scope pos) (!(.Name y py)) fY.line X.env=pure true)
  (hs:∀x,foldedSetIterable iter X.env x=pure x:=by intro _;rfl):PS X (.Assign [.Name y py] (.ListComp aX [#[tg,iter,ifs,0]] scope pos) fY) (Mi (sf X k wi g tt λD b=>vH D (te b)) (rS i)):=by
 intro aj s σ H D0 I h;rw[exec_Assign_Name_used _ _ _ _ hsw];apply aS (u7 (aS ?_));apply aS (i9 (fZ B hc hN hi (oz λ_ _ _=>rfl) (λb D=>#[(hin b).1,(hin b).2.1,ug (hin b).2.2 rfl]) hs I h λs' H' D C m I' f' hn q=>?_) (λ_ s' hq=>dS (dS hq)) λ_ _ e=>e)
 apply wpAny_assign_Name (lP I' Dm hy (.inl hl) (v:=.ref D) rfl (λs2 I2 hsb=>?_) (.inr hl))
 let(f0,f1,f2,f3,f4,f5):=f';let(a,sb,ha):=hsb;have nC:C≠a:=by
  rcases ha with e |e
  . rw[e];show f1
  . show sT (f4 _ _ e)
 apply#[m,hn.sameBut sb nC,λh' sb'=>#[_,H',?_,q]]
 show I2.turned (λb o hb e=>(sb'.2 b hb).trans e) f0 f1 f3 f4 f5
end
section
def eZ
  (h0:codeAny (model prog w) A (.compLoop (.ListComp aX [#[t1,i1,f1,0],#[target,iter,ifs,0]] scope pos) 1 it acc env) R s)
  (h:wpAny (model prog w) A (pyIter it) (λit' s'=>codeAny (model prog w) A (.compLoop (.ListComp aX [#[t1,i1,f1,0],#[target,iter,ifs,0]] scope pos) 1 it' acc env) R s') (λ_ _=>False) s) :
  codeAny (model prog w) A (.compStart (.ListComp aX [#[t1,i1,f1,0],#[target,iter,ifs,0]] scope pos) 1 it acc env) R s:=by
 apply codeAny_of_tree ?_;apply wpAny_notedAt ?_;apply aS (yY (wpAny_ite ?_));split
 .
  first
   |show aS (dS (dS (And.intro rfl h0)))
   |show dS (And.intro rfl h0)
 .
  first
   |show aS (AT (aS (u7 (aS (i9 h (λit' s' h'=>dS (And.intro rfl h')) λ_ _ x=>x.elim)))))
   | (apply aS (AT ?_);exact wpAny _ _ (standAt iter.pos >>= _) _ _ s;show aS (u7 (aS (i9 h (λit' s' h'=>dS (And.intro rfl h')) λ_ _ x=>x.elim))))
end
abbrev Dn(ce iter:Expr)(acc:Value)(env:Env):Sem Unit:=do
 let x <- eval iter env
 standAt iter.pos
 let x <- foldedSetIterable iter env x
 let _ <- runOwn (.compStart ce 1 (<- holding [x] (pyIter x)) acc env) env
abbrev Ro(wi:TI)(g:TG)(tt:TT)(tu:TU):TU:=λσ H Q=>wi σ H λJ H1=>∃W:Nat->Nat->St->Hp->Prop,(∃m,W 0 m σ H1)/\∀i m σ' H',W i m σ' H'->
 (J.stop i H'/\Q σ' H')\/(J.go i H'/\∃Nn:St->Hp->Prop,(∀Av Aw,Nn Av Aw->∃m',m'<m/\W (i+1) m' Av Aw)/\∀x H2,J.Yh i H' x H2->g x σ' H2 λσ2 H3=>tt σ2 H3 λb H4=>if b=true then tu σ2 H4 Nn else Nn σ2 H4)
abbrev Cs(X:Cx)(ce:Expr)(acc:Value):Prop:=∀{R:Result->Shared->Prop}{s:Shared}{it:Value},codeAny (~~~2) X.A (.compLoop ce 1 it acc X.env) R s->
 wpAny (~~~2) X.A (pyIter it) (λit' s'=>codeAny (~~~2) X.A (.compLoop ce 1 it' acc X.env) R s') (λ_ _=>False) s->codeAny (~~~2) X.A (.compStart ce 1 it acc X.env) R s
def G8{X:Cx}{ce tg iter:Expr}{ifs:List Expr}{D:Addr}{wi:TI}{g:TG}{tt:TT}{tu:TU}{em:Sem Unit}(hc:X.calm=true)(hx:X.xe=λ_ _=>False)(hu:Cu ce)(hrn:∀it,compTurn ce 1 it (.ref D) X.env=jR ce tg iter ifs 1 it (.ref D) X.env em)(cO:Cs X ce (.ref D))(hi:PI X tg iter wi)(hg:PG X tg g)(ht:jQ X ifs tt)(he:PU X em tu)(hs:∀x,foldedSetIterable iter X.env x=pure x) :
  PU X (Dn ce iter (.ref D) X.env) (Ro wi g tt tu):=by
 intro aj s σ H Q I h;have hi:=hi aj s σ H _ I h;rw[hx]at hi;apply aS (i9 hi (λv s1 h1=>?_) λ_ _ z=>z)
 apply aS (u7 ?_);rw[hs v];apply aS (dS ?_);apply aS (nV (i9 h1 (λitv s2 h2=>?_) λ_ _ z=>z))
 let(it,fp,tn,J,H2,rfl,I2,T,aI,f2,W,(m0,w0),turn):=h2;have stat:∀{H':Hp},(∀b∈fp,H' b=none)->∀b∈fp,jA X aj H' b:=λhn b hb=>#[hn b hb,(f2 b hb).2]
 have loop:codeAny (~~~2) X.A (.compLoop ce 1 (.ref it) (.ref D) X.env) (λr s'=>match r with |.ok f=>∃σ' H',Inv X aj σ' H' s'/\Q σ' H' |.error e=>False) s2:=by
  apply kN hu (hrn _) (λn s'=>∃i σ' H',Inv X aj σ' H' s'/\tn i s'.heap/\(∀b∈fp,H' b=none)/\W i n σ' H') ?_ m0 #[0,σ,H2,I2,aI,λb hb=>(f2 b hb).1,w0]
  rintro n s3 ⟨i,σ3,H3,I3,fE,Ri,w3⟩;rcases turn i n σ3 H3 w3 with ⟨stop,qn⟩ |⟨go,Nn,hN,step⟩
  .
   apply bU (T.done X rfl rfl rfl hc i aj s3 σ3 H3 (λ_ _=>False) I3 (stat Ri) fE stop) λr s4 #[hr,I4]=>?_
   subst hr;show#[σ3,H3,I4,qn]
  .
   apply bU (T.item X rfl rfl rfl hc i aj s3 σ3 H3 (λ_ _=>False) I3 (stat Ri) fE go) λr s4 #[u,hr,h4]=>?_
   subst hr;apply bU h4 ?_;rintro _ s5 ⟨x,H5,I5,r5,y5,iE,Zg⟩;have Zh:=I5.pinned (stat Zg) (T.obj _ _ iE);have again:∀{σ7:St}{H7:Hp}{s7:Shared},Inv X (aj++lU fp s5.heap) σ7 H7 s7->Nn σ7 H7->∃m,m<n/\∃i σ' H',Inv X aj σ' H' s7/\tn i s7.heap/\(∀b∈fp,H' b=none)/\W i m σ' H':=λ{σ7 H7 s7} I7 n7=>by
    let(m',hm,w7):=hN σ7 H7 n7;apply#[m',hm,i+1,σ7,H7,I7.iD,T.keep _ _ _ iE λb hb o e=>(I7.pin (b,o) (eP _ (eP _ (dz hb e)))).1,λb hb=>?_,w7]
    let(o,e,d):=T.obj _ _ iE b hb;show (I7.pin (b,o) (eP _ (eP _ (dz hb e)))).2.1
   have hg:=hg _ s5 σ3 H5 x u _ Zh r5 (step x H5 y5);rw[hx]at hg;apply bU hg ?_;rintro _ s6 ⟨σ6,H6,I6,q6⟩;have ht:=ht _ s6 σ6 H6 _ I6 q6;rw[hx]at ht;apply bU ht ?_;rintro b s7 ⟨H7,I7,q7⟩;cases b with
   |false=>show again I7 q7
   |true=>show i9 (he _ s7 σ6 H7 _ I7 q7) (by rintro _ s9 ⟨σ9,H9,I9,q9⟩;show again I9 q9) λ_ _ z=>z
 have start:=cO loop (T.self _ 0 _ _ _ aI loop);apply aS (wpAny_runOwn (BD start λr s' hr=>?_))
 cases r with
 |error e=>show hr.elim
 |ok f=>show dS hr
def vI{aX t1 i1 tg iter:Expr}{f1 ifs:List Expr}{scope:Scope}{pos:Pos}{it acc:Value}{env:Env}:compTurn (.ListComp aX [#[t1,i1,f1,0],#[tg,iter,ifs,0]] scope pos) 0 it acc env=jR (.ListComp aX [#[t1,i1,f1,0],#[tg,iter,ifs,0]] scope pos) t1 i1 f1 0 it acc env (Dn (.ListComp aX [#[t1,i1,f1,0],#[tg,iter,ifs,0]] scope pos) iter acc env):=by
 exact (standAt i1.pos >>= λ_=>pyNext it >>= λr=>_)=(standAt i1.pos >>= λ_=>pyNext it >>= λr=>_)
 congr 1;funext _;congr 1;funext r
 cases r with
 |none=>rfl
 |some v=>
  exact (letOwnedTupleGo t1 it v >>= λ_=>assign t1 env v >>= λ_=>_ >>= λok=>_)=(letOwnedTupleGo t1 it v >>= λ_=>assign t1 env v >>= λ_=>_ >>= λok=>_)
  congr 1;funext _;congr 1;funext _;congr 1;funext ok
  cases ok with
  |false=>rfl
  |true=>delta Dn;simp only[bind_assoc];rfl
section
def G9{N':List Str}{k:Nat}{w1:TI}{w2:Bk->TI}{g1 g2:Bk->TG}{Rp Rq:Bk->TT}{te:Bk->TE}(B:aJ X.env.scope scope)(hc:X.calm=true)(hN:Names X.N N' scope k)(hi:PI X t1 i1 w1)
  (hin:∀b:Bk,(PG (X.blk N' scope b) t1 (g1 b)/\jQ (X.blk N' scope b) f1 (Rp b))/\PI (X.blk N' scope b) tg iter (w2 b)/\PG (X.blk N' scope b) tg (g2 b)/\jQ (X.blk N' scope b) ifs (Rq b)/\PE (X.blk N' scope b) aX (te b))
  (hs:∀x,foldedSetIterable i1 X.env x=pure x) (hs2:∀(b:Bk) x,foldedSetIterable iter (X.blk N' scope b).env x=pure x) :
  PE X (.ListComp aX [#[t1,i1,f1,0],#[tg,iter,ifs,0]] scope pos) (sf X k w1 g1 Rp λD b=>Ro (w2 b) (g2 b) (Rq b) (vH D (te b))):=by
 intro aj s σ H Q I h;apply fZ B hc hN hi (oz λ_ _ _=>vI) (λb D=>#[(hin b).1.1,(hin b).1.2,G8 hc rfl (λ_ _ _ _ _ _ _=>#[rfl,rfl]) (λ_=>rfl) eZ (hin b).2.1 (hin b).2.2.1 (hin b).2.2.2.1 (ug (hin b).2.2.2.2 rfl) (hs2 b)]) hs I h λs' H' D C m I' f' hn q=>?_
 apply#[m,hn,λh' sb=>#[.ref D,H',?_,rfl,q]]
 let(f0,f1,f2,f3,f4,f5):=f';show I'.turned (λb o hb e=>(sb.2 b hb).trans e) f0 f1 f3 f4 f5
def Hf{N':List Str}{k:Nat}{w1:TI}{w2:Bk->TI}{g1 g2:Bk->TG}{Rp Rq:Bk->TT}{te:Bk->TE}{i:Nat}{y:Str}{py fY:Pos}(B:aJ X.env.scope scope)(hc:X.calm=true)(hN:Names X.N N' scope k)(hi:PI X t1 i1 w1)
  (hin:∀b:Bk,(PG (X.blk N' scope b) t1 (g1 b)/\jQ (X.blk N' scope b) f1 (Rp b))/\PI (X.blk N' scope b) tg iter (w2 b)/\PG (X.blk N' scope b) tg (g2 b)/\jQ (X.blk N' scope b) ifs (Rq b)/\PE (X.blk N' scope b) aX (te b))
  (Dm:X.N.Nodup) (hy:X.N[i]?=!y) (hl:X.env.scope.names.lookup y=some .local)
  (hsw:swapsWith (.ListComp aX [#[t1,i1,f1,0],#[tg,iter,ifs,0]] scope pos) (!(.Name y py)) fY.line X.env=pure true)
  (hs:∀x,foldedSetIterable i1 X.env x=pure x) (hs2:∀(b:Bk) x,foldedSetIterable iter (X.blk N' scope b).env x=pure x) :
  PS X (.Assign [.Name y py] (.ListComp aX [#[t1,i1,f1,0],#[tg,iter,ifs,0]] scope pos) fY) (Mi (sf X k w1 g1 Rp λD b=>Ro (w2 b) (g2 b) (Rq b) (vH D (te b))) (rS i)):=by
 intro aj s σ H D0 I h;rw[exec_Assign_Name_used _ _ _ _ hsw];apply aS (u7 (aS ?_));apply aS (i9 (fZ B hc hN hi (oz λ_ _ _=>vI) (λb D=>#[(hin b).1.1,(hin b).1.2,G8 hc rfl (λ_ _ _ _ _ _ _=>#[rfl,rfl]) (λ_=>rfl) eZ (hin b).2.1 (hin b).2.2.1 (hin b).2.2.2.1 (ug (hin b).2.2.2.2 rfl) (hs2 b)]) hs I h λs' H' D C m I' f' hn q=>?_) (λ_ s' hq=>dS (dS hq)) λ_ _ e=>e)
 apply wpAny_assign_Name (lP I' Dm hy (.inl hl) (v:=.ref D) rfl (λs2 I2 hsb=>?_) (.inr hl))
 let(f0,f1,f2,f3,f4,f5):=f';let(a,sb,ha):=hsb;have nC:C≠a:=by
  rcases ha with e |e
  . rw[e];show f1
  . show sT (f4 _ _ e)
 apply#[m,hn.sameBut sb nC,λh' sb'=>#[_,H',?_,q]]
 show I2.turned (λb o hb e=>(sb'.2 b hb).trans e) f0 f1 f3 f4 f5
end
meta abbrev kI(m:List (Int×Int)):List (Key×V):=m.map λp=>((Sum.inl p.1:Key),V.int p.2)
meta abbrev dI(m:List (Int×Int)):HO:=.dK (kI m)
abbrev oA(n:Int):List (Int×Int)->Option Int
 | []=>none
 |p::m=>if p.1=n then some p.2 else oA n m
section
variable{X:Cx}{aj: ~~~1}{σ:St}{H:Hp}{s:Shared}{a:Addr}{m:List (Int×Int)}
meta abbrev ZK (X:Cx):=jo X.prog X.w
def Hg{n:Int}{vs:List (Key×Value)}:∀{m:List (Int×Int)},KV (kI m) vs->oX ((oA n m).map V.int) (valueAt vs (.inl n)):=by
 intro m
 induction m generalizing vs with
 |nil=>intro h;symm;trivial
 |cons p m ih=>
  intro h;cases h with
  |@cons _ q _ vs h r=>
   let(k,u):=q;let(e,r1):=h;dsimp only at e r1;subst e;have:=ih r;delta valueAt at this ⊢
   rw[List.find?_cons];delta oA;by_cases hk:p.1=n
   .
    rw[i5 hk,oC (by rw[hk])]
    show r1
   .
    rw[kA hk,tJ (by intro e;injection e with e;show hk e)]
    show this
def Ua{n v:Int}{u:Value}{vs:List (Key×Value)}(r:KV (kI m) vs)(hn:oA n m=none)(ru:RelV (.int v) u):KV (kI (m++[(n,v)])) (stored vs (.inl n) u):=by
 have h0:=oX.none_of (by have:=Hg (n:=n) r;rw[hn]at this;show this)
 have h1:(vs.any λkv=>decide (kv.1=(Sum.inl n:Key)))=false:=by delta valueAt at h0;rw[Option.map_eq_none_iff,List.find?_eq_none]at h0;rw[B5];show h0
 delta stored;rw[h1];rw[kA xL];have e:kI (m++[(n,v)])=kI m++[(Sum.inl n,V.int v)]:=by delta kI;rw[nS];rfl
 rw[e];show Paired.snoc r #[rfl,ru]
def Inv.sr(I: ~~~7)(h:Rd H a (dI m)):∃vs,KV (kI m) vs/\s.heap.DictOf (ZK X) a vs/\m.length<=sizeLine/\(a==sysModules)=false/\vs.length=m.length:=by let(z,y,vs,r,d):=(show cB X.prog X.w H s.heap a (dI m)from h.ok I.hok);rw[eC]at z;show#[vs,r,d,z,y,by rw[<- Paired.length r,eC]]
def oB{n:Int}{u:Value}(r:RelV (.int n) u):(ZK X).is (.inl n) u=true:=by let(t,rfl):=r;show vn _ _ _ _
abbrev rIxI:R2:=λx y H Q=>∃p n m v,x=.ref p/\y=.int n/\Rd H p (dI m)/\oA n m=!v/\Q (.int v) H
def Rr:Zx X rIxI:=by
 intro value slice aj s σ H x y v u Q I rx ry h hs;let(p,n,m,z,rfl,rfl,hp,he,q):=h;cases rx;let(vs,r,d,_):=I.sr hp;let(w,w1,w2):=oX.some_of (by have:=Hg (n:=n) r;rw[he]at this;show this)
 show subscriptTail_builtinR d.typeIs slot_dict_getitem.lookup (wpAny_getItem_of (oB ry) d.mapOf w1 #[rfl,.int z,H,I.tok _,w2,q]) hs
def Dp:nQ X (compareOp .NotIn) (λx y H Q=>∃n p m,x=.int n/\y=.ref p/\Rd H p (dI m)/\Q (.bl ((not ((oA n m).isSome)))) H):=by
 intro aj s σ H x y v u Q I rx ry h;let(n,p,m,rfl,rfl,hp,q):=h;cases ry;let(vs,r,d,_,y,_):=I.sr hp;apply wpAny_notIn_of (oB rx) y d.mapOf #[.bl ((not ((oA n m).isSome))),H,I.tok _,?_,q];have e:(oA n m).isSome=(valueAt vs (.inl n)).isSome:=by
  have:=Hg (n:=n) r;cases h:oA n m with
  |none=>rw[h]at this;rw[oX.none_of this];rfl
  |some v=>rw[h]at this;let(w,w1,_):=oX.some_of this;rw[w1];rfl
 rw[e];rfl
def Dq{us:List Value}:∀{m:List (Int×Int)}{vs:List (Key×Value)},KV (kI m) vs->us.length=m.length->(∀(j:Nat) (v:Value),us[j]?=!v->∃k x,vs[j]?=!(k,x)/\(ZK X).is k v=true)->Vals (m.map λp=>V.int p.1) us:=by
 induction us with
 |nil=>
  intro m vs _ hl _;cases m with
  |nil=>show .nil
  |cons _ _=>cases hl
 |cons u us ih=>
  intro m vs r hl h;cases m with
  |nil=>cases hl
  |cons p m=>
   cases r with
   |@cons _ q _ vs h0 r=>
    let(k,x,e1,e2):=h 0 u rfl;cases (show some q=!(k,x)from e1)
    let(e3,_):=h0;dsimp only at e3;subst e3;apply .cons ?_ (ih r (BF hl) λj v e=>h (j+1) v e)
    have e2:rR (Sum.inl p.1) u=true:=e2;rcases aV e2 with ⟨i,t,q1,q2⟩ |⟨i,t,q1,q2⟩
    . injection q1 with q1;show#[t,by rw[q2,q1]]
    . cases q1
def yM(hc:X.calm=true):d9 X (.type "list") (λxs H Q=>∃p m,xs=[.ref p]/\Rd H p (dI m)/\∀l,H l=none->Q (.ref l) (upd H l (.lst (m.map λp=>.int p.1)))):=by
 intro aj s σ H xs us Q I r h;let(p,m,rfl,hp,q):=h;let(u,rfl,rx):=vals1 r;cases rx;let(vs,r,d,hz,y,hl):=I.sr hp;let(ep,d):=d.dictAt;apply PySem.W.kdl_call (PySem.W.kdl_dict y) (I.ok.hd hc) d (by rw[hl];show hz) λh' tk acc' c' kp e it=>?_
 have v:=Dq (X:=X) (us:=acc'.toList) r (by rw[oD,it.1,hl]) λj v e=>it.2 j v (by rw[<- AK];show e)
 show#[.ref s⁻¹,_,I.laid kp (eA _) (show cB X.prog X.w _ h' _ (.lst (m.map λp=>.int p.1))from#[by rw[eC];show hz,acc'.toList,c',v,e]),rfl,q _ (I.hok.fresh (eA _))]
def Mv{y x:Expr}{val:Expr}{pos pos':Pos}{td tx tv:TE}(hd:PE X y td)(hx:PE X x tx)(hv:PE X val tv)(hs:swapsWith val (!(.Subscript y x pos')) pos.line X.env=pure false) :
  PS X (.Assign [.Subscript y x pos'] val pos) (λD σ H=>tv σ H λv H1=>td σ H1 λb H2=>tx σ H2 λk H3=>∃p n m w,b=.ref p/\k=.int n/\v=.int w/\H3 p=!(dI m)/\oA n m=none/\m.length<sizeLine/\D.nx σ (upd H3 p (dI (m++[(n,w)])))):=by
 intro aj s σ H D I h;apply wpAny_Assign_Subscript (bU (hv aj s σ H _ I h) λr s1 #[v,H1,I1,rv,q1]=>bU (hd aj s1 σ H1 _ I1 q1) λu s2 #[b,H2,I2,rx,q2]=>bU (hx aj s2 σ H2 _ I2 q2) λiv s3 #[k,H3,I3,ry,p,n,m,w,e1,e2,e3,hp,hn,hz,q3]=>?_) hs
 subst e1 e2 e3;obtain rfl:u=Value.ref p:=rx;let(vs,r',d,_,y,hl):=I3.sr (.inl hp);apply wpAny_setItem_pairs (hsz:=by rw[hl];show BC hz) (oB ry) d λh' d' sb=>#[σ,_,?_,q3]
 let(o,_,_,ho,_):=id d';show I3.write (by rw[hp];trivial) (.inl rfl) (λb u hb z=>(sb.2 b hb).trans z) #[o,ho] #[by rw[eC,fI];show hz,y,_,Ua r' hn rv,d']
def Mw{x v:Expr}{pos:Pos}{tx tv:TE}(hx:PE X x tx)(hv:PE X v tv):PE X (.Dict [!x] [v] pos) (λσ H Q=>∀p,H p=none->tx σ (upd H p (dI [])) λk H1=>tv σ H1 λw H2=>∃n v,k=.int n/\w=.int v/\H2 p=!(dI [])/\Q (.ref p) (upd H2 p (dI [(n,v)]))):=by
 intro aj s σ H Q I q;have hn:=I.hok.fresh (eA s⁻¹);have hy:(s⁻¹==sysModules)=false:=by
  have h1:=(I.ok.mod.glob.keeps I.bk).lt;apply Bool.eq_false_iff.mpr λq=>?_
  have q:=eq_of_beq q;rw[q]at h1;show absurd h1 ⋯
 have I1:=I.laid (a:=s⁻¹) (o:=dI []) (h':=s.heap.push { cls:=.type "dict",data:=.dict ([].toArray)}) (t':=s.toks) (λ_ _ q=>dE _ q) (eA _) #[wE _,hy,[],.nil,Heap.DictOf.new _]
 apply wpAny_Dict_walk (knd:=ZK X) rfl rfl ⋯ (by exact 1<=15;decide) (pairTrees_cons_walk (bU (hx aj _ σ _ _ I1 (q _ hn)) λu s1 #[k,H1,I2,rk,q1]=>bU (hv aj s1 σ H1 _ I2 q1) λr s2 #[w,H2,I3,rw',n,v,e1,e2,hp,q2]=>pairTrees_nil_walk #[[(.inl n,r)],#[?_,rfl,trivial],?_,λh' d' sb=>?_]))
 . subst e1;show oB rk
 . let(vs,r,d,_):=I3.sr (m:=[]) (.inl hp);cases r;show d
 . subst e1 e2;let(o,_,_,ho,_):=id d';apply#[.ref s⁻¹,_,I3.write (o:=dI [(n,v)]) (by rw[hp];trivial) (.inl rfl) (λb u hb z=>(sb.2 b hb).trans z) #[o,ho] #[by exact 1<=sizeLine;rw[oS];decide,hy,_,.cons #[rfl,rw'] .nil,d'],rfl,q2]
def Mx{y:Expr}{ty:TE}(hy:PE X y ty):PE X y (λσ H Q=>ty σ H λv H1=>∃p m,v=.ref p/\H1 p=!(dI m)/\∀o,Q v (upd H1 p (.dJ o (dI m)))):=by intro aj s σ H Q I h;apply bU (hy aj s σ H _ I h) ?_;rintro u s1 ⟨v,H1,I1,rv,p,m,e,hp,q⟩;have k:=I1.hok p _ hp;let(_,_,_,_,o,_,_,ho,_):=id k;apply#[v,_,I1.write (h':=s1.heap) (o:=.dJ o (dI m)) (by rw[hp];trivial) (.inl rfl) (λ_ _ _ z=>z) #[o,ho] #[ho,k],rv,q o]
def Ub{i:Nat}:∀{m:List (Int×Int)}{vs:List (Key×Value)}{q:Key×Value},KV (kI m) vs->vs[i]?=!q->∃p,m[i]?=!p/\q.1=.inl p.1:=by
 induction i with
 |zero=>
  intro m vs q r e;cases m with
  |nil=>cases r;cases e
  |cons p m=>cases r with |cons h r=>cases (show some _=!q from e);show#[p,rfl,h.1.symm]
 |succ i ih=>
  intro m vs q r e;cases m with
  |nil=>cases r;cases e
  |cons p m=>cases r with |cons h r=>show ih r e
end
abbrev Itd(a:Addr)(o:Obj)(m:List (Int×Int)):It:=
 #[λi H=>H a=!(.dJ o (dI m))/\i<m.length,λi H x H'=>H'=H/\∃p,m[i]?=!p/\x=.int p.1,λi H=>H a=!(.dJ o (dI m))/\m.length<=i]
def Dr{P:Program}{w:World}{K:Frag}{tg:Expr}(m:List (Int×Int))(a it:Addr)(o:Obj)(ep:Nat)(vs:List (Key×Value))(ne:a≠it)(r0:KV (kI m) vs)(hl:vs.length=m.length)(ho:∀h:Heap,h.get? a=!o->h.DictAt (jo P w) a vs ep) :
  Turn P w K tg (Itd a o m) [it] it (λi h=>h.IsKeyIter it a i vs.length ep) where
 mem:=by simp
 obj:=λi h st b hb=>by
  have e:b=it:=by simpa using hb
  subst e;let(o,e,c,d):=st;show#[o,e,λv z=>by rw[d]at z;cases z]
 keep:=λi h h' st k=>st.at λo e=>k it ⋯ o e
 item:=by
  rintro X rfl rfl rfl hc i aj s σ H E I hf st ⟨hg,hi⟩;let(f0,f1,f2,f3,f4,f5):=hf it ⋯;have hi':i<vs.length:=by rw[hl];show hi
  apply wpAny_pyNext_dict_item st (ho _ (I.hok a _ hg).1) (k:=vs[i].1) (v:=vs[i].2) (by simp[hi']) λkey h' hk st' sb=>?_
  have I1:=I.turned (t':=s.toks) (λb o hb e=>(sb.2 b hb).trans e) f0 f1 f3 f4 f5
  let(o',e,c,d):=id st';let(p,hm,e1):=Ub r0 (show vs[i]?=some vs[i]by simp[hi'])
  apply#[key,rfl,Ao e c d ⋯ #[.int p.1,H,I1,?_,#[rfl,p,hm,rfl],st',λb hb=>(hf b hb).1]]
  rw[e1]at hk;have hk:rR (Sum.inl p.1) key=true:=hk;rcases aV hk with ⟨j,t,q1,q2⟩ |⟨j,t,q1,q2⟩
  . injection q1 with q1;show#[t,by rw[q2,q1]]
  . cases q1
 done:=by rintro X rfl rfl rfl hc i aj s σ H E I hf st ⟨hg,hi⟩;let(f0,f1,f2,f3,f4,f5):=hf it ⋯;show wpAny_pyNext_dict_end (I.ok.hd hc) st (ho _ (I.hok a _ hg).1) (by rw[rV,hl];show hi) λh' eb=>#[rfl,I.turned (λb o hb e=>eb b o hb e) f0 f1 f3 f4 f5]
 self:=λ_ _ _ _ _ st h=>wpAny_pyIter_keyiter st h
def My{X:Cx}{tg l:Expr}{tl:TE}(hl:PE X l tl):PI X tg l (λσ H R=>tl σ H λx H1=>∃a o m,x=.ref a/\H1 a=!(.dJ o (dI m))/\R (Itd a o m) H1):=by
 intro aj s σ H R I h;apply bU (hl aj s σ H _ I h) ?_;rintro v s1 ⟨x,H1,I1,r1,a,o,m,e,hp,q⟩;subst e;cases r1;let(vs,r,_,_,y,hl):=I1.sr (.inr #[o,hp]);let(ho,_,_,vs',r',d):=I1.hok a _ hp;let(o',es,ep,h1,h2,h3,h4,h5,h6):=id d;cases h1.symm.trans ho;have hl':vs'.length=m.length:=by rw[<- Paired.length r',eC]
 have at':∀h:Heap,h.get? a=!o->h.DictAt (ZK X) a vs' ep:=λh e=>#[o,es,e,h2,h3,h4,h5,h6]
 apply wpAny_pyIter_dict y (at' _ ho) #[s1⁻¹,[s1⁻¹],_,_,H1,rfl,I1.kept λb o e=>dE _ e,Dr m a _ o ep vs' (kS (fA ho)) r' hl' at',#[_,fN _ rfl,rfl,rfl],λb hb=>?_,q]
 have e:b=s1⁻¹:=by simpa using hb
 subst e;show I1.vB (eA _) (I1.hok.fresh (eA _))
end L2
namespace Ev
open L2
inductive D where
 |non |bl (b:Bool) |int (i:Int) |str (x:Str) |tup (l:List D) |lst (l:List D) |fix (l:List D) |emp (m:List (Int×Int)) |nU (C:Addr) |Mz (ks: ~~~5) (ds:List D)
 deriving Inhabited
inductive Slot where
 |no |dat (d:D) |own (l:List D)
 deriving Inhabited
inductive R where
 |dat (d:D) |new (l:List D) |var (i:Nat)
 deriving Inhabited
def G:=List Slot
def Sg:=L2.St
meta abbrev K0:Hp:=λ_=>none
abbrev LstAt(M:List Addr)(H:Hp)(a:Addr)(xs:List V):Prop:=a∉M/\H a=!(.lst xs)
abbrev su(K:Frag)(M:List Addr)(H:Hp)(a:Addr)(xs:List V):Prop:=(a∉M/\∃o,H a=!(.dJ o (.lst xs)))\/cA K K0 a xs
abbrev TupAt(K:Frag)(M:List Addr)(H:Hp)(a:Addr)(xs:List V):Prop:=(a∉M/\Rd H a (.tup xs))\/(jG K K0 a xs/\∃o,K.lookup a=!o/\o.dict=none)
def rd0(h:Rd K0 a u):False:=by rcases h with h |⟨o,h⟩ <;> symm
def su.sq{K:Frag}{M:List Addr}{H:Hp}{a:Addr}{xs:List V}(h:su K M H a xs):cA K H a xs:=by
 rcases h with ⟨_,o,h⟩ |h |h
 . show .inl (.inr #[o,h])
 . show (rd0 h).elim
 . show .inr h
def TupAt.sq{K:Frag}{M:List Addr}{H:Hp}{a:Addr}{xs:List V}(h:TupAt K M H a xs):jG K H a xs:=by
 rcases h with ⟨_,h⟩ |⟨h |h,_⟩
 . show .inl h
 . show (rd0 h).elim
 . show .inr h
meta abbrev yO(C a:Addr):HO:=.ext λh=>∃o,h.get? a=!o/\o.cls=.ref C/\PySem.W.notCls o=true/\o.dict=none
structure Hi(K:Frag)(C:Addr):Prop where
 gga:PySem.W.findIn K (.ref C) "__getattribute__"=!(!(.builtin "BaseException.__getattribute__"))
 gat:PySem.W.findIn K (.ref C) "__getattr__"=!none
 bas:PySem.W.mroIn K C (.type "BaseException")=!true
 dct:PySem.W.hasDictIn K C=true
 cls:PySem.W.findIn K (.ref C) "__class__"=!(!(.builtin "object.__class__"))
 spc:PySem.W.specialIn K (.builtin "object.__class__") "__get__"=!(!(.builtin "getset_descriptor.__get__"))
 tks:PySem.W.takesIn K (.builtin "object.__class__")=!true
 mro:PySem.W.mroIn K C (.type "object")=!true
 kit:∀n∈["int", "bool", "str", "tuple", "list", "dict"],PySem.W.kitOne K (.ref C) (.type n)=!false
meta abbrev dicO(ks: ~~~5)(vs:List V):HO:=.dT ((ks.map (List.map Sum.inl)).zip vs)
abbrev Uc:HO->Prop
 |.lst _ |.dT _ |.set _ |.dK _=>True
 |_=>False
mutual
inductive Rep(K:Frag)(M:List Addr)(H:Hp):D->V->Prop
 |non:Rep K M H .non .non
 |bl (b:Bool):Rep K M H (.bl b) (.bl b)
 |int (i:Int):Rep K M H (.int i) (.int i)
 |str (x:Str):Rep K M H (.str x) (.str x)
 |tup {l:List D}{a:Addr}{xs:List V}:TupAt K M H a xs->aK K M H l xs->Rep K M H (.tup l) (.ref a)
 |lst {l:List D}{a:Addr}{xs:List V}:LstAt M H a xs->aK K M H l xs->Rep K M H (.lst l) (.ref a)
 |fix {l:List D}{a:Addr}{xs:List V}:su K M H a xs->aK K M H l xs->Rep K M H (.fix l) (.ref a)
 |emp {m:List (Int×Int)}{o:Obj}{a:Addr}:a∉M->H a=!(.dJ o (dI m))->Rep K M H (.emp m) (.ref a)
 |nU:Hi K C->a∉M->H a=!(yO C a)->Rep K M H (.nU C) (.ref a)
 |Mz:a∉M->H a=!(dicO ks vs)->ks.length=vs.length->aK K M H ds vs->Rep K M H (.Mz ks ds) (.ref a)
inductive aK(K:Frag)(M:List Addr)(H:Hp):List D->List V->Prop
 |nil:aK K M H [] []
 |cons {d:D}{ds:List D}{x:V}{xs:List V}:Rep K M H d x->aK K M H ds xs->aK K M H (d::ds) (x::xs)
end
abbrev aq(M:List Addr)(H:Hp)(M':List Addr)(H':Hp):Prop:=∀b o,H b=!o->b∉M->H' b=!o/\b∉M'
def aq.rd(h:aq M H M' H')(n:a∉M)(r:Rd H a u):a∉M'/\Rd H' a u:=by
 rcases r with r |⟨o,r⟩
 . show#[(h _ _ r n).2,.inl (h _ _ r n).1]
 . show#[(h _ _ r n).2,.inr #[o,(h _ _ r n).1]]
def Rep.stay{K:Frag}{M M':List Addr}{H H':Hp}(h:aq M H M' H'){d:D}{v:V}(r:Rep K M H d v):Rep K M' H' d v:=by
 apply Rep.rec .non .bl .int .str (λt _ q=>?_) (λt _ q=>?_) (λt _ q=>?_) (λn r=>.emp (h _ _ r n).2 (h _ _ r n).1) (λx n r=>.nU x (h _ _ r n).2 (h _ _ r n).1) (λn r l _ q=>.Mz (h _ _ r n).2 (h _ _ r n).1 l q) .nil (λ_ _ a b=>.cons a b) r
 .
  rcases t with t |t
  . show .tup (.inl (h.rd t.1 t.2)) q
  . show .tup (.inr t) q
 . show .lst #[(h _ _ t.2 t.1).2,(h _ _ t.2 t.1).1] q
 .
  rcases t with ⟨n,o,r⟩ |t
  . show .fix (.inl #[(h _ _ r n).2,o,(h _ _ r n).1]) q
  . show .fix (.inr t) q
def aK.stay{K:Frag}{M M':List Addr}{H H':Hp}(h:aq M H M' H'):∀{ds:List D}{vs:List V},aK K M H ds vs->aK K M' H' ds vs:=by
 intro ds
 induction ds with
 |nil=>intro vs q;cases q;show .nil
 |cons d ds ih=>intro vs q;cases q with |cons a b=>show .cons (a.stay h) (ih b)
def aq.refl(M:List Addr)(H:Hp):aq M H M H:=λ_ _ e n=>#[e,n]
def aq.trans(a:aq M H M1 H1)(b:aq M1 H1 M2 H2):aq M H M2 H2:=λc o e n=>b c o (a c o e n).1 (a c o e n).2
def aq.less(h:∀m∈M',m∈M):aq M H M' H:=λ_ _ e n=>#[e,λz=>n (h _ z)]
def aq.laid(hp:H p=none):aq M H M (upd H p o):=λb u e n=>#[by rw[az (aH e hp)];show e,n]
def aq.aO(hp:H p=none):aq M H (p::M) (upd H p o):=λb u e n=>
 #[by rw[az (aH e hp)];show e,λz=>(d6.mp z).elim (λq=>aH e hp q) n]
def aq.write(hp:p∈M):aq M H M (upd H p o):=λb u e n=>#[by rw[az (λq=>n (by rw[q];show hp))];show e,n]
def aK.length{K:Frag}{M:List Addr}{H:Hp}{ds:List D}{vs:List V}(r:aK K M H ds vs):ds.length=vs.length:=by
 induction ds generalizing vs with
 |nil=>cases r;rfl
 |cons d ds ih=>cases r with |cons a b=>show congrArg (· + 1) (ih b)
def aK.append{K:Frag}{M:List Addr}{H:Hp}{ds es:List D}{vs ws:List V}(r:aK K M H ds vs)(s:aK K M H es ws):aK K M H (ds++es) (vs++ws):=by
 induction ds generalizing vs with
 |nil=>cases r;show s
 |cons d ds ih=>cases r with |cons a b=>show .cons a (ih b)
def aK.get{K:Frag}{M:List Addr}{H:Hp}{ds:List D}{vs:List V}{i:Nat}{d:D}(r:aK K M H ds vs)(e:ds[i]?=!d):∃v,vs[i]?=!v/\Rep K M H d v:=by
 induction ds generalizing vs i with
 |nil=>show nomatch (show none=!d from e)
 |cons d' ds ih=>cases r with |cons a b=>cases i with
  |zero=>cases (show some d'=!d from e);show#[_,rfl,a]
  |succ i=>let(v,h):=ih b e;show#[v,h]
def aK.set{K:Frag}{M:List Addr}{H:Hp}{d:D}{v:V}(r:Rep K M H d v){ds:List D}{vs:List V}(i:Nat)(q:aK K M H ds vs):aK K M H (ds.set i d) (vs.set i v):=by
 induction ds generalizing vs i with
 |nil=>cases q;show .nil
 |cons d' ds ih=>cases q with |cons a b=>cases i with
  |zero=>show .cons r b
  |succ i=>show .cons a (ih i b)
inductive Slots(K:Frag)(M:List Addr)(H:Hp):G->Sg->List Addr->Prop
 |nil:Slots K M H [] [] []
 |no:Slots K M H g σ As->Slots K M H (.no::g) (v::σ) As
 |dat {g:G}{σ:Sg}{As:List Addr}{v:V}{d:D}:Rep K M H d v->Slots K M H g σ As->Slots K M H (.dat d::g) (some v::σ) As
 |own {g:G}{σ:Sg}{As:List Addr}{a:Addr}{xs:List V}{ds:List D}:H a=!(.lst xs)->aK K M H ds xs->Slots K M H g σ As->Slots K M H (.own ds::g) (some (.ref a)::σ) (a::As)
def Slots.stay{K:Frag}{M M':List Addr}{H H':Hp}(h:aq M H M' H'){g:G}{σ:Sg}{As:List Addr}(k:∀a∈As,∀o,H a=!o->H' a=!o)(q:Slots K M H g σ As):Slots K M' H' g σ As:=by
 induction q with
 |nil=>show .nil
 |no q ih=>show .no (ih k)
 |dat r q ih=>show .dat (r.stay h) (ih k)
 |own e r q ih=>show .own (k _ dA _ e) (r.stay h) (ih λa ha=>k a (bP _ ha))
abbrev iI:List Str:=["law"]
abbrev gK(n:Str):Str:=n ++ ".<locals>." ++ "<lambda>"
abbrev cH(K:Frag):List (Addr×Str):=K.filterMap λp=>match p.2.data with
 |.fields vs=>(match vs.toList with
  |_::.str n _::_=>if iI.contains n=true then (match vs.toList[11]? with
   |!(Value.ref q)=>if (K.lookup q).isNone=true then some (q,gK n)else none
   |_=>none)else none
  |_=>none)
 |_=>none
structure Z where
 K:Frag
 H0:Hp
 M0:List Addr
 lent:List (Nat×Addr)
 T:List (Addr×Str)
meta abbrev ig(q:Str)(c:Addr):HO:=.ext λh=>h.CodeRec (.ref c) q
abbrev TabOk(H:Hp)(p:Addr×Str):Prop:=∃ps:Array Value,H p.1=!(.nP ps)/\TriplesOk ps.toList/\∀pos cv,codeAmong pos ps.toList=!cv->∃c,cv=.ref c/\H c=!(ig p.2 c)
meta abbrev Z.TA(z:Z):List Addr:=z.T.map (·.1)
def TabOk.keep(t:TabOk H p)(k:∀b o,H b=!o->¬ Uc o->H' b=!o):TabOk H' p:=by let(ps,h1,h2,h3):=t;show#[ps,k _ _ h1 id,h2,λpos cv e=>let #[c,e1,e2]:=h3 pos cv e;#[c,e1,k _ _ e2 id]]
meta abbrev Z.B(z:Z):List Addr:=z.lent.map (·.2)
meta abbrev Z.bor(z:Z):List Nat:=z.lent.map (·.1)
structure S(z:Z)(g:G)(σ:Sg)(As M:List Addr)(H:Hp):Prop where
 sl:Slots z.K M H g σ As
 nd:As.Nodup
 sub:∀a∈As,a∈M
 own:∀(i:Nat) (a:Addr) (l:List D),g[i]?=!(.own l)->σ[i]?=!(!(.ref a))->(i∈z.bor/\a∈z.B)\/z.H0 a=none
 live:∀m∈M,(∃o,H m=!o/\Uc o)\/m∈z.TA
 keep:∀b o,z.H0 b=!o->b∉z.B->b∉z.TA->H b=!o
 fF:∀m∈z.M0,m∈M
 m0:∀m∈z.M0,z.H0 m≠none
 bm:∀b∈z.B,b∈z.M0
 fK:∀p∈z.lent,σ[p.1]?=!(!(.ref p.2))/\∃l,g[p.1]?=!(.own l)
 tab:∀p∈z.T,TabOk H p
 tm:∀p∈z.T,p.1∈z.M0
 tt:z.T=cH z.K
section
variable{g:G}
def S.fresh(s:S z g σ As M H)(hp:H p=none):p∉M:=λhm=>by
 rcases s.live p hm with ⟨o,e,_⟩ |e
 . rw[hp]at e;cases e
 . let(q,hq,rfl):=fR.mp e;let(ps,h1,_):=s.tab q hq;rw[hp]at h1;cases h1
def S.Rt(s:S z g σ As M H)(hp:H p=!(.lst xs)):p∉z.TA:=λe=>by
 let(q,hq,rfl):=fR.mp e;let(ps,h1,_):=s.tab q hq;rw[hp]at h1;cases h1
def S.bO(s:S z g σ As M H)(hp:H p=none):z.H0 p=none:=by
 cases e:z.H0 p with
 |none=>rfl
 |some o=>
  by_cases hb:p∈z.B
  . show absurd (s.fF _ (s.bm _ hb)) (s.fresh hp)
  .
   by_cases ht:p∈z.TA
   . let(q,hq,rfl):=fR.mp ht;show absurd (s.fF _ (s.tm q hq)) (s.fresh hp)
   . rw[s.keep p o e hb ht]at hp;cases hp
def S.laid(s:S z g σ As M H){p:Addr}{o:HO}(hp:H p=none):S z g σ As M (upd H p o) where
 sl:=s.sl.stay (aq.laid hp) λa _ u e=>by rw[az (aH e hp)];show e
 nd:=s.nd
 sub:=s.sub
 own:=s.own
 live:=λm hm=>by
  rcases s.live m hm with ⟨o,e,gr⟩ |e
  . show .inl #[o,by rw[az (aH e hp)];show e,gr]
  . show .inr e
 keep:=λb u e hb ht=>by rw[az (aH (s.keep b u e hb ht) hp)];show s.keep b u e hb ht
 fF:=s.fF
 m0:=s.m0
 bm:=s.bm
 fK:=s.fK
 tab:=λp h=>(s.tab p h).keep λb u e _=>by rw[az (aH e hp)];show e
 tm:=s.tm
 tt:=s.tt
def S.Hj(s:S z g σ As M H){p:Addr}{u0:HO}(gu:Uc u0)(hp:H p=none):S z g σ As (p::M) (upd H p u0) where
 sl:=s.sl.stay (aq.aO hp) λa _ u e=>by rw[az (aH e hp)];show e
 nd:=s.nd
 sub:=λa ha=>bP _ (s.sub a ha)
 own:=s.own
 live:=λm hm=>by
  rcases d6.mp hm with rfl |hm
  . show .inl #[_,aA,gu]
  .
   rcases s.live m hm with ⟨o,e,gr⟩ |e
   . show .inl #[o,by rw[az (aH e hp)];show e,gr]
   . show .inr e
 keep:=λb u e hb ht=>by rw[az (aH (s.keep b u e hb ht) hp)];show s.keep b u e hb ht
 fF:=λm hm=>bP _ (s.fF m hm)
 m0:=s.m0
 bm:=s.bm
 fK:=s.fK
 tab:=λp h=>(s.tab p h).keep λb u e _=>by rw[az (aH e hp)];show e
 tm:=s.tm
 tt:=s.tt
def S.aO(s:S z g σ As M H)(hp:H p=none):S z g σ As (p::M) (upd H p (.lst xs)):=s.Hj trivial hp
def S.yP(s:S z g σ As M H){a:Addr}{u0 u1:HO}(hm:a∈M)(hA:a∉As)(h0:z.H0 a=none)(h:H a=!u0)(g0:Uc u0)(g1:Uc u1):S z g σ As M (upd H a u1) where
 sl:=s.sl.stay (aq.write hm) λb hb u e=>by rw[az (show b≠a from λq=>hA (by rw[<- q];show hb))];show e
 nd:=s.nd
 sub:=s.sub
 own:=s.own
 live:=λm hm=>by
  by_cases e:m=a
  . subst e;show .inl #[_,aA,g1]
  .
   rcases s.live m hm with ⟨o,q,gr⟩ |q
   . show .inl #[o,by rw[az e];show q,gr]
   . show .inr q
 keep:=λb o e hb ht=>by rw[az (λq=>by rw[q,h0]at e;cases e)];show s.keep b o e hb ht
 fF:=s.fF
 m0:=s.m0
 bm:=s.bm
 fK:=s.fK
 tab:=λp hp=>(s.tab p hp).keep λb o e n=>by rw[az (λq=>by rw[q,h]at e;cases e;show n g0)];show e
 tm:=s.tm
 tt:=s.tt
def S.drop(s:S z g σ As M H)(h0:z.H0 p=none)(hA:p∉As):S z g σ As (M.filter λm=>decide (m≠p)) H where
 sl:=s.sl.stay (aq.less λm hm=>(hV.mp hm).1) λ_ _ _ e=>e
 nd:=s.nd
 sub:=λa ha=>hV.mpr #[s.sub a ha,by have:a≠p:=λe=>hA (e▸ha);simpa using this]
 own:=s.own
 live:=λm hm=>s.live m (hV.mp hm).1
 keep:=s.keep
 fF:=λm hm=>hV.mpr #[s.fF m hm,by have:m≠p:=λe=>s.m0 m hm (e▸h0);simpa using this]
 m0:=s.m0
 bm:=s.bm
 fK:=s.fK
 tab:=s.tab
 tm:=s.tm
 tt:=s.tt
end
abbrev dh(z:Z)(g:G)(σ:Sg)(As M:List Addr)(H:Hp):R->V->Prop
 |.dat d,v=>Rep z.K M H d v
 |.new l,v=>∃a xs,v=.ref a/\a∈M/\a∉As/\z.H0 a=none/\H a=!(.lst xs)/\aK z.K M H l xs
 |.var i,v=>∃l,g[i]?=!(.own l)/\σ[i]?=!(!v)
inductive Pk(K:Frag)(M:List Addr)(H:Hp):D->V->Prop
 |of:Rep K M H d v->Pk K M H d v
 |lst {l:List D}{a:Addr}{xs:List V}:H a=!(.lst xs)->aK K M H l xs->Pk K M H (.lst l) (.ref a)
def Pk.list{K:Frag}{M:List Addr}{H:Hp}{l:List D}{v:V}(h:Pk K M H (.lst l) v):∃a xs,v=.ref a/\H a=!(.lst xs)/\aK K M H l xs:=by
 cases h with
 |of r=>cases r with |lst h1 h2=>show⟨_,_,rfl,h1.2,h2⟩
 |lst h1 h2=>show#[_,_,rfl,h1,h2]
def Slots.at{K:Frag}{M:List Addr}{H:Hp}{g:G}{σ:Sg}{As:List Addr}{i:Nat}{l:List D}(q:Slots K M H g σ As)(e:g[i]?=!(.own l)):∃a xs,σ[i]?=!(!(.ref a))/\a∈As/\H a=!(.lst xs)/\aK K M H l xs:=by
 induction q generalizing i with
 |nil=>show nomatch (show none=!(Slot.own l)from e)
 |no q ih=>cases i with
  |zero=>show nomatch (show some Slot.no=!(Slot.own l)from e)
  |succ i=>show ih e
 |dat r q ih=>cases i with
  |zero=>show nomatch (show some (Slot.dat _)=!(Slot.own l)from e)
  |succ i=>show ih e
 |own h r q ih=>cases i with
  |zero=>cases (show some (Slot.own _)=!(Slot.own l)from e);show#[_,_,rfl,dA,h,r]
  |succ i=>let(a,xs,h1,h2,h3):=ih e;show#[a,xs,h1,bP _ h2,h3]
def Slots.pH{K:Frag}{M:List Addr}{H:Hp}{g:G}{σ:Sg}{As:List Addr}{i:Nat}{d:D}(q:Slots K M H g σ As)(e:g[i]?=!(.dat d)):∃v,σ[i]?=!(!v)/\Rep K M H d v:=by
 induction q generalizing i with
 |nil=>show nomatch (show none=!(Slot.dat d)from e)
 |no q ih=>cases i with
  |zero=>show nomatch (show some Slot.no=!(Slot.dat d)from e)
  |succ i=>show ih e
 |dat r q ih=>cases i with
  |zero=>cases (show some (Slot.dat _)=!(Slot.dat d)from e);show#[_,rfl,r]
  |succ i=>show ih e
 |own h r q ih=>cases i with
  |zero=>show nomatch (show some (Slot.own _)=!(Slot.dat d)from e)
  |succ i=>show ih e
def Slots.length{K:Frag}{M:List Addr}{H:Hp}{g:G}{σ:Sg}{As:List Addr}(q:Slots K M H g σ As):g.length=σ.length:=by
 induction q with
 |nil=>rfl
 |no q ih=>show congrArg (· + 1) ih
 |dat r q ih=>show congrArg (· + 1) ih
 |own h r q ih=>show congrArg (· + 1) ih
def Slots.iJ{K:Frag}{M:List Addr}{H:Hp}{d:D}{v:V}(r:Rep K M H d v){g:G}{σ:Sg}{As:List Addr}(i:Nat)(q:Slots K M H g σ As):∃aC,Slots K M H (g.set i (.dat d)) (σ.set i (!v)) aC/\aC.Sublist As:=by
 induction q generalizing i with
 |nil=>show#[[],.nil,.slnil]
 |no q ih=>cases i with
  |zero=>show#[_,.dat r q,B6 _]
  |succ i=>let(aC,h1,h2):=ih i;show#[aC,.no h1,h2]
 |dat r' q ih=>cases i with
  |zero=>show#[_,.dat r q,B6 _]
  |succ i=>let(aC,h1,h2):=ih i;show#[aC,.dat r' h1,h2]
 |own e r' q ih=>cases i with
  |zero=>show#[_,.dat r q,List.sublist_cons_self _ _]
  |succ i=>let(aC,h1,h2):=ih i;show#[_::aC,.own e r' h1,h2.cons₂ _]
def Slots.freeze{K:Frag}{M M':List Addr}{H:Hp}(hM:∀m∈M',m∈M){g:G}{σ:Sg}{As:List Addr}{i:Nat}{l:List D}{a:Addr}(q:Slots K M H g σ As)(e:g[i]?=!(.own l))(e2:σ[i]?=!(!(.ref a)))(na:a∉M')(nd:As.Nodup) :
  ∃aC,Slots K M' H (g.set i (.dat (.lst l))) σ aC/\aC.Sublist As/\a∉aC:=by
 induction q generalizing i with
 |nil=>show nomatch (show none=!(Slot.own l)from e)
 |no q ih=>cases i with
  |zero=>show nomatch (show some Slot.no=!(Slot.own l)from e)
  |succ i=>let(aC,h1,h2,h3):=ih e e2 nd;show#[aC,.no h1,h2,h3]
 |dat r q ih=>cases i with
  |zero=>show nomatch (show some (Slot.dat _)=!(Slot.own l)from e)
  |succ i=>let(aC,h1,h2,h3):=ih e e2 nd;show#[aC,.dat (r.stay (aq.less hM)) h1,h2,h3]
 |@own g σ As b xs ds h r q ih=>cases i with
  |zero=>
   cases (show some (Slot.own _)=!(Slot.own l)from e)
   cases (show some (!(V.ref b))=!(!(V.ref a))from e2)
   show#[_,.dat (.lst #[na,h] (r.stay (aq.less hM))) (q.stay (aq.less hM) λ_ _ _ e=>e),List.sublist_cons_self _ _,(gN.mp nd).1]
  |succ i=>
   let(aC,h1,h2,h3):=ih e e2 (gN.mp nd).2;apply#[b::aC,.own h (r.stay (aq.less hM)) h1,h2.cons₂ _,λhm=>?_]
   rcases d6.mp hm with z |z
   .
    let(c,xs,z1,z2,_):=q.at e;cases (show some (!(V.ref c))=!(!(V.ref a))from z1.symm.trans e2)
    show (gN.mp nd).1 (by rw[<- z];show z2)
   . show h3 z
def Slots.change{K:Frag}{M:List Addr}{H H':Hp}{l':List D}{a:Addr}{xs':List V}(st:aq M H M H')(ha:H' a=!(.lst xs'))(r':aK K M H' l' xs'){g:G}{σ:Sg}{As:List Addr}{i:Nat}{l:List D}(q:Slots K M H g σ As)(e:g[i]?=!(.own l))(e2:σ[i]?=!(!(.ref a)))(nd:As.Nodup)
  (k:∀b∈As,b≠a->∀o,H b=!o->H' b=!o):Slots K M H' (g.set i (.own l')) σ As:=by
 induction q generalizing i with
 |nil=>show nomatch (show none=!(Slot.own l)from e)
 |no q ih=>cases i with
  |zero=>show nomatch (show some Slot.no=!(Slot.own l)from e)
  |succ i=>show .no (ih e e2 nd k)
 |dat r q ih=>cases i with
  |zero=>show nomatch (show some (Slot.dat _)=!(Slot.own l)from e)
  |succ i=>show .dat (r.stay st) (ih e e2 nd k)
 |@own g σ As b xs ds h r q ih=>cases i with
  |zero=>
   cases (show some (!(V.ref b))=!(!(V.ref a))from e2)
   show .own ha r' (q.stay st λc hc o e=>k c (bP _ hc) (λz=>(gN.mp nd).1 (by rw[<- z];show hc)) o e)
  |succ i=>
   apply .own (k b dA (λz=>?_) _ h) (r.stay st) (ih e e2 (gN.mp nd).2 λc hc=>k c (bP _ hc))
   let(c,xs,z1,z2,_):=q.at e;cases (show some (!(V.ref c))=!(!(V.ref a))from z1.symm.trans e2)
   show (gN.mp nd).1 (by rw[z];show z2)
section
variable{g:G}
def gi(h:(g.set i (.dat d))[j]?=!(.own l)):g[j]?=!(.own l)/\j≠i:=by
 by_cases e:i=j
 .
  subst e;by_cases hi:i<g.length
  . rw[eQ hi]at h;symm
  . rw[rV.mpr (by rw[u4];lia)]at h;symm
 . rw[eJ e]at h;show#[h,sT e]
def S.freeze(s:S z g σ As M H){i:Nat}{l:List D}(hg:g[i]?=!(.own l))(hb:i∉z.bor):∃aC M',S z (g.set i (.dat (.lst l))) σ aC M' H/\aq M H M' H:=by
 let(a,xs,e1,e2,e3,e4):=s.sl.at hg;have h0:=(s.own i a l hg e1).elim (λq=>absurd q.1 hb) id
 have hM:∀m∈(M.filter λm=>decide (m≠a)),m∈M:=λm hm=>(hV.mp hm).1
 have na:a∉(M.filter λm=>decide (m≠a)):=λhm=>by
  have:=(hV.mp hm).2;simp at this
 let(aC,q1,q2,q3):=s.sl.freeze hM hg e1 na s.nd;apply#[aC,_,#[q1,s.nd.sublist q2,λb hb=>hV.mpr #[s.sub b (q2.subset hb),?_],λj b l' h1 h2=>s.own j b l' (gi h1).1 h2,λm hm=>s.live m (hM m hm),s.keep,λm hm=>hV.mpr #[s.fF m hm,?_],s.m0,s.bm,λp hp=>#[(s.fK p hp).1,?_],s.tab,s.tm,s.tt],aq.less hM]
 rotate_left 2
 .
  have:i≠p.1:=λe=>hb (by rw[e];show tP hp)
  rw[eJ this];show (s.fK p hp).2
 .
  have:b≠a:=λe=>q3 (e▸hb)
  simpa using this
 .
  have:m≠a:=λe=>s.m0 m hm (e▸h0)
  simpa using this
def S.write(s:S z g σ As M H){i:Nat}{l l':List D}{a:Addr}{xs':List V}(hg:g[i]?=!(.own l))(e1:σ[i]?=!(!(.ref a)))(r:aK z.K M H l' xs'):S z (g.set i (.own l')) σ As M (upd H a (.lst xs'))/\aq M H M (upd H a (.lst xs')):=by
 let(b,xs,e2,e3,e4,e5):=s.sl.at hg;rw[e1]at e2;injection e2 with e2;injection e2 with e2;injection e2 with e2;subst e2;have st:aq M H M (upd H a (.lst xs')):=aq.write (s.sub a e3);apply#[#[s.sl.change st aA (r.stay st) hg e1 s.nd (λb _ ne o e=>by rw[az ne];show e),s.nd,s.sub,λj b l2 h1 h2=>?_,λm hm=>?_,λb o e hb ht=>?_,s.fF,s.m0,s.bm,λp hp=>#[(s.fK p hp).1,?_],λp h=>(s.tab p h).keep λb u e nl=>?_,s.tm,s.tt],st]
 rotate_left 3
 .
  by_cases hj:i=p.1
  . rw[<- hj];show#[l',eQ (dC.mp hg).1]
  . rw[eJ hj];show (s.fK p hp).2
 .
  have:b≠a:=λz2=>by subst z2;rw[e4]at e;cases e;show nl trivial
  rw[az this];show e
 .
  by_cases hj:i=j
  . subst hj;show s.own i b l hg h2
  . rw[eJ hj]at h1;show s.own j b l2 h1 h2
 .
  by_cases hm2:m=a
  . subst hm2;show .inl #[_,aA,trivial]
  .
   rcases s.live m hm with ⟨o,e,gr⟩ |e
   . show .inl #[o,by rw[az hm2];show e,gr]
   . show .inr e
 .
  have q:=s.keep b o e hb ht;have:b≠a:=λz2=>by
   subst z2;rcases s.own i b l hg e1 with w |w
   . show hb w.2
   . rw[w]at e;cases e
  rw[az this];show q
def S.iJ(s:S z g σ As M H)(hb:i∉z.bor)(r:Rep z.K M H d v):∃aC,S z (g.set i (.dat d)) (σ.set i (!v)) aC M H:=by
 let(aC,h1,h2):=s.sl.iJ r i;apply#[aC,h1,s.nd.sublist h2,λa ha=>s.sub a (h2.subset ha),λj b l h3 h4=>?_,s.live,s.keep,s.fF,s.m0,s.bm,λp hp=>?_,s.tab,s.tm,s.tt]
 rotate_left
 .
  have:i≠p.1:=λe=>hb (by rw[e];show tP hp)
  rw[eJ this,eJ this];show s.fK p hp
 let(h5,h6):=gi h3;rw[eJ (sT h6)]at h4;show s.own j b l h5 h4
def Slots.pI{K:Frag}{a:Addr}{xs:List V}{l:List D}(h:H a=!(.lst xs))(r:aK K M H l xs){g:G}{σ:Sg}{As:List Addr}(i:Nat)(q:Slots K M H g σ As)(hi:i<g.length):∃aC,Slots K M H (g.set i (.own l)) (σ.set i (!(.ref a))) aC/\(∀b∈aC,b=a\/b∈As)/\(As.Nodup->a∉As->aC.Nodup):=by
 induction q generalizing i with
 |nil=>show absurd hi (qS _)
 |no q ih=>cases i with
  |zero=>show#[_,.own h r q,λb hb=>d6.mp hb,λnd na=>gN.mpr #[na,nd]]
  |succ i=>let(aC,h1,h2,h3):=ih i (AZ hi);show#[aC,.no h1,h2,h3]
 |dat r' q ih=>cases i with
  |zero=>show#[_,.own h r q,λb hb=>d6.mp hb,λnd na=>gN.mpr #[na,nd]]
  |succ i=>let(aC,h1,h2,h3):=ih i (AZ hi);show#[aC,.dat r' h1,h2,h3]
 |@own g σ As c ys ds e r' q ih=>cases i with
  |zero=>show#[_,.own h r q,λb hb=>(d6.mp hb).imp id (bP _),λnd na=>gN.mpr #[λz=>na (bP _ z),(gN.mp nd).2]]
  |succ i=>let(aC,h1,h2,h3):=ih i (AZ hi);show#[c::aC,.own e r' h1,λb hb=>(d6.mp hb).elim (λz=>.inr (z▸dA)) λz=>(h2 b z).imp id (bP _),λnd na=>gN.mpr #[λz=>(h2 c z).elim (λw=>na (w▸dA)) (gN.mp nd).1,h3 (gN.mp nd).2 λw=>na (bP _ w)]]
def S.pI(s:S z g σ As M H){i:Nat}{l:List D}{a:Addr}{xs:List V}(hb:i∉z.bor)(hi:i<g.length)(hm:a∈M)(hA:a∉As)(h0:z.H0 a=none)(h:H a=!(.lst xs))(r:aK z.K M H l xs):∃aC,S z (g.set i (.own l)) (σ.set i (!(.ref a))) aC M H:=by
 let(aC,h1,h2,h3):=s.sl.pI h r i hi;apply#[aC,h1,h3 s.nd hA,λb hb=>(h2 b hb).elim (λe=>e▸hm) (s.sub b),λj b l2 h4 h5=>?_,s.live,s.keep,s.fF,s.m0,s.bm,λp hp=>?_,s.tab,s.tm,s.tt]
 rotate_left
 .
  have:i≠p.1:=λe=>hb (by rw[e];show tP hp)
  rw[eJ this,eJ this];show s.fK p hp
 by_cases hj:i=j
 .
  subst hj;rw[eQ (by rw[<- s.sl.length];show hi)]at h5
  injection h5 with h5;injection h5 with h5;injection h5 with h5;subst h5;show .inr h0
 . rw[eJ hj]at h4 h5;show s.own j b l2 h4 h5
end
meta abbrev Kn (z:Z) (g':G) (σ:Sg) (M:List Addr) (H:Hp) (r:R) (Q:VK):Prop:=
 ∀v H' aC M',S z g' σ aC M' H'->aq M H M' H'->dh z g' σ aC M' H' r v->Q v H'
abbrev aD(X:Cx)(z:Z)(e:Expr)(g:G)(r:R)(g':G):Prop:=
 ∃t,PE X e t/\∀σ As M H Q,S z g σ As M H->Kn z g' σ M H r Q->t σ H Q
abbrev cM(X:Cx)(z:Z)(e:Expr)(g:G)(b:Bool)(g':G):Prop:=
 ∃t,PT X e t/\∀σ As M H (Q:Bool->Hp->Prop),S z g σ As M H->(∀H' aC M',S z g' σ aC M' H'->aq M H M' H'->Q b H')->t σ H Q
abbrev nW(X:Cx)(z:Z)(f:Value->Value->Sem Value)(d1 d2:D)(res:R):Prop:=
 ∃r:R2,nQ X f r/\∀g σ As M H v1 v2 Q,S z g σ As M H->Pk z.K M H d1 v1->Pk z.K M H d2 v2->Kn z g σ M H res Q->r v1 v2 H Q
abbrev Yj(X:Cx)(z:Z)(d1 d2:D)(res:R):Prop:=
 ∃r:R2,Zx X r/\∀g σ As M H v1 v2 Q,S z g σ As M H->Pk z.K M H d1 v1->Pk z.K M H d2 v2->Kn z g σ M H res Q->r v1 v2 H Q
abbrev pk:R->G->Option D
 |.dat d,_=>!d
 |.new _,_=>none
 |.var i,g=>match g[i]? with |!(.own l)=>!(.lst l) |!(.dat (.lst l))=>!(.lst l) |_=>none
section
def S.pk(s:S z g2 σ As M2 H2)(st:aq M1 H1 M2 H2)(q:dh z g1 σ aN M1 H1 r v)(h:pk r g2=!d):Pk z.K M2 H2 d v:=by
 cases r with
 |dat d'=>have e:d'=d:=nN h;subst e;show .of (Rep.stay st q)
 |new l=>symm
 |var i=>
  let(l,h1,h2):=q;delta Ev.pk at h;dsimp only at h;split at h
  . ext l' hg;have e:=nN h;subst e;let(a,xs,e1,e2,e3,e4):=s.sl.at hg;rw[h2]at e1;injection e1 with e1;injection e1 with e1;subst e1;show .lst e3 e4
  . ext l' hg;have e:=nN h;subst e;let(w,e1,e2):=s.sl.pH hg;rw[h2]at e1;injection e1 with e1;injection e1 with e1;show .of (e1▸e2)
  . symm
def Ud{i j}:aD X z (.Constant (.int i) j pos) g ‹i› g:=#[_,yC,λσ As M H Q s k=>k _ _ _ _ s (aq.refl _ _) (.int i)]
def ZL{i j}:aD X z (.Constant (.bool i) j pos) g (.dat (.bl i)) g:=#[_,Y5,λσ As M H Q s k=>k _ _ _ _ s (aq.refl _ _) (.bl i)]
def Ue{j}:aD X z (.Constant .none j pos) g (.dat .non) g:=#[_,Gy,λσ As M H Q s k=>k _ _ _ _ s (aq.refl _ _) .non]
def Ug{x j}:aD X z (.Constant (.str x) j pos) g (.dat (.str x)) g:=#[_,SX,λσ As M H Q s k=>k _ _ _ _ s (aq.refl _ _) (.str x)]
def Uh{i:Nat}{x:Str}(hN:X.N[i]?=!x)(hv:g9 X.env.scope x)(hd:(x==(~~~3))=false)(bR:(x==("__classdict__":Str))=false)(hg:g[i]?=!(.dat d)):aD X z (.Name x pos) g (.dat d) g:=
 #[_,bV hN hv hd bR,λσ As M H Q s k=>let #[v,e,r]:=s.sl.pH hg;#[v,e,k v H As M s (aq.refl _ _) r]]
def MF(hN:X.N[i]?=!x)(hv:g9 X.env.scope x)(hd:(x==(~~~3))=false)(bR:(x==("__classdict__":Str))=false)(hg:g[i]?=!(.own l)):aD X z (.Name x pos) g (.var i) g:=
 #[_,bV hN hv hd bR,λσ As M H Q s k=>let #[a,xs,e,r]:=s.sl.at hg;#[_,e,k _ H As M s (aq.refl _ _) #[l,hg,e]]]
def MJ(hg:Gl X x)(hm:X.mg x=!u)(r:RelV v u)(hr:∀M H,Rep z.K M H d v)(hd:(x==(~~~3))=false):aD X z (.Name x pos) g (.dat d) g:=
 #[_,Ak hg hm r hd,λσ As M H Q s k=>k _ H As M s (aq.refl _ _) (hr M H)]
def pJ(h:aD X z e g (.new l) g'):aD X z e g (.dat (.lst l)) g':=by
 let(t,p,q):=h;apply#[t,p,λσ As M H Q s k=>q σ As M H Q s λv H' aC M' s' st r=>?_]
 let(a,xs,rfl,hm,hA,h0,ha,rr):=r;have hM:∀m∈(M'.filter λm=>decide (m≠a)),m∈M':=λm hm=>(hV.mp hm).1
 have na:a∉(M'.filter λm=>decide (m≠a)):=λhm=>by
  have:=(hV.mp hm).2;simp at this
 show k _ H' aC _ (s'.drop h0 hA) (st.trans (aq.less hM)) (.lst #[na,ha] (rr.stay (aq.less hM)))
def Ds(h:aD X z e g (.var i) g1)(hg:g1[i]?=!(.own l))(hb:i∉z.bor):aD X z e g (.dat (.lst l)) (g1.set i (.dat (.lst l))):=by
 let(t,p,q):=h;apply#[t,p,λσ As M H Q s k=>q σ As M H Q s λv H' aC M' s' st r=>?_]
 let(l',h1,h2):=r;let(bC,M2,s2,aI):=s'.freeze hg hb;have hi:=(dC.mp hg).1;let(v',e1,e2):=s2.sl.pH (by rw[eQ hi])
 rw[h2]at e1;injection e1 with e1;injection e1 with e1;subst e1;show k _ H' bC M2 s2 (st.trans aI) e2
def Ui(h1:aD X z a g r1 g1)(h2:aD X z b g1 r2 g2)(p1:pk r1 g2=!d1)(p2:pk r2 g2=!d2)(ho:nW X z (binaryOp op) d1 d2 r):aD X z (.BinOp a op b pos) g r g2:=by
 let(t1,q1,k1):=h1;let(t2,q2,k2):=h2;let(rr,o,ko):=ho;show#[_,Rj o q1 q2,λσ As M H Q s k=>k1 σ As M H _ s λv1 H1 aN M1 s1 dc R1=>k2 σ aN M1 H1 _ s1 λv2 H2 bC M2 s2 aI R2=>
  ko g2 σ bC M2 H2 v1 v2 Q s2 (s2.pk aI R1 p1) (s2.pk (aq.refl _ _) R2 p2) λv H' aC M' s' st' R'=>k v H' aC M' s' (dc.trans (aI.trans st')) R']
def Uj(h1:aD X z a g r1 g1)(h2:aD X z b g1 r2 g2)(p1:pk r1 g2=!d1)(p2:pk r2 g2=!d2)(ho:nW X z (compareOp op) d1 d2 r)(hm:behindInMarks op b=false):aD X z (.Compare a [op] [b] pos) g r g2:=by
 let(t1,q1,k1):=h1;let(t2,q2,k2):=h2;let(rr,o,ko):=ho;show#[_,Aq o q1 q2 hm,λσ As M H Q s k=>k1 σ As M H _ s λv1 H1 aN M1 s1 dc R1=>k2 σ aN M1 H1 _ s1 λv2 H2 bC M2 s2 aI R2=>
  ko g2 σ bC M2 H2 v1 v2 Q s2 (s2.pk aI R1 p1) (s2.pk (aq.refl _ _) R2 p2) λv H' aC M' s' st' R'=>k v H' aC M' s' (dc.trans (aI.trans st')) R']
def ZM(h1:aD X z a g r1 g1)(h2:aD X z b g1 r2 g2)(p1:pk r1 g2=!d1)(p2:pk r2 g2=!d2)(ho:Yj X z d1 d2 r)(hs:tY b):aD X z (.Subscript a b pos) g r g2:=by
 let(t1,q1,k1):=h1;let(t2,q2,k2):=h2;let(rr,o,ko):=ho;show#[_,G3 o q1 q2 hs,λσ As M H Q s k=>k1 σ As M H _ s λv1 H1 aN M1 s1 dc R1=>k2 σ aN M1 H1 _ s1 λv2 H2 bC M2 s2 aI R2=>
  ko g2 σ bC M2 H2 v1 v2 Q s2 (s2.pk aI R1 p1) (s2.pk (aq.refl _ _) R2 p2) λv H' aC M' s' st' R'=>k v H' aC M' s' (dc.trans (aI.trans st')) R']
def fL(q:dh z g σ As M H (.dat (.bl c)) v):v=.bl c:=by have q':=q;cases q';rfl
def Uk(h1:aD X z a g r1 g1)(h2:aD X z b g1 r2 g2)(p1:pk r1 g2=!d1)(p2:pk r2 g2=!d2)(ho:nW X z (compareOp op) d1 d2 (.dat (.bl c)))(hm:behindInMarks op b=false):cM X z (.Compare a [op] [b] pos) g c g2:=by
 let(t1,q1,k1):=h1;let(t2,q2,k2):=h2;let(rr,o,ko):=ho;show#[_,ow o q1 q2 hm,λσ As M H Q s k=>k1 σ As M H _ s λv1 H1 aN M1 s1 dc R1=>k2 σ aN M1 H1 _ s1 λv2 H2 bC M2 s2 aI R2=>
  ko g2 σ bC M2 H2 v1 v2 _ s2 (s2.pk aI R1 p1) (s2.pk (aq.refl _ _) R2 p2) λv H' aC M' s' st' R'=>#[c,fL R',k H' aC M' s' (dc.trans (aI.trans st'))]]
def Ul(h:cM X z a g c g'):cM X z (.UnaryOp .Not a pos) g ((not c)) g':=by let(t,q,k):=h;show#[_,Gz q,λσ As M H Q s kk=>k σ As M H _ s λH' aC M' s' st=>kk H' aC M' s' st]
abbrev nX(X:Cx)(z:Z)(e:Expr)(g:G)(b:Bool)(g':G):Prop:=
 ∃t,PW X e t/\∀σ As M H (Q:Bool->Hp->Prop),S z g σ As M H->(∀H' aC M',S z g' σ aC M' H'->aq M H M' H'->Q b H')->t σ H Q
def nX.tr(h:nX X z e g c g'):cM X z e g c g':=let #[t,q,k]:=h;#[t,q.pt,k]
def MK(h:cM X z a g c g'):nX X z (.BoolOp .And [a] pos) g c g':=let #[t,q,k]:=h;#[t,pw_and1 q,k]
def Um(h:cM X z a g c g'):nX X z (.BoolOp .Or [a] pos) g c g':=let #[t,q,k]:=h;#[t,pw_or1 q,k]
abbrev tNo:TT:=λ_ _ _=>False
def pw_never:PW X e tNo:=λ_ _ _ _ _ _ _ h=>h.elim
def vJ:PE X e (λ_ _ _=>False):=λ_ _ _ _ _ _ h=>h.elim
def MN{rest:List Expr}(h:cM X z a g false g1):nX X z (.BoolOp .And (a::b::rest) pos) g false g1:=by let(t,q,k):=h;show#[_,pw_and q pw_never,λσ As M H Q s kk=>k σ As M H _ s λH' aC M' s' st=>kM (kk H' aC M' s' st)]
def MP{rest:List Expr}{c:Bool}(h:cM X z a g true g1)(h2:nX X z (.BoolOp .And (b::rest) pos) g1 c g2):nX X z (.BoolOp .And (a::b::rest) pos) g c g2:=by let(t,q,k):=h;let(t2,q2,k2):=h2;show#[_,pw_and q q2,λσ As M H Q s kk=>k σ As M H _ s λH' aC M' s' st=>iG (k2 σ aC M' H' Q s' λH2 bC M2 s2 aI=>kk H2 bC M2 s2 (st.trans aI))]
def Uo{rest:List Expr}(h:cM X z a g true g1):nX X z (.BoolOp .Or (a::b::rest) pos) g true g1:=by let(t,q,k):=h;show#[_,pw_or q pw_never,λσ As M H Q s kk=>k σ As M H _ s λH' aC M' s' st=>iG (kk H' aC M' s' st)]
def Up{rest:List Expr}{c:Bool}(h:cM X z a g false g1)(h2:nX X z (.BoolOp .Or (b::rest) pos) g1 c g2):nX X z (.BoolOp .Or (a::b::rest) pos) g c g2:=by let(t,q,k):=h;let(t2,q2,k2):=h2;show#[_,pw_or q q2,λσ As M H Q s kk=>k σ As M H _ s λH' aC M' s' st=>kM (k2 σ aC M' H' Q s' λH2 bC M2 s2 aI=>kk H2 bC M2 s2 (st.trans aI))]
def Hl(h:aD X z a g r g'):aD X z (.BoolOp op [a] pos) g r g':=let #[t,q,k]:=h;#[t,S8 q,k]
def MT{rest:List Expr}(h:aD X z a g (.dat (.bl false)) g1):aD X z (.BoolOp .And (a::b::rest) pos) g (.dat (.bl false)) g1:=by let(t,q,k):=h;show#[_,GC q vJ,λσ As M H Q s kk=>k σ As M H _ s λv H' aC M' s' st R=>#[false,fL R,kM (kk _ H' aC M' s' st (.bl false))]]
def M7{rest:List Expr}(h:aD X z a g (.dat (.bl true)) g1)(h2:aD X z (.BoolOp .And (b::rest) pos) g1 r g2):aD X z (.BoolOp .And (a::b::rest) pos) g r g2:=by let(t,q,k):=h;let(t2,q2,k2):=h2;show#[_,GC q q2,λσ As M H Q s kk=>k σ As M H _ s λv H' aC M' s' st R=>#[true,fL R,iG (k2 σ aC M' H' Q s' λv2 H2 bC M2 s2 aI=>kk v2 H2 bC M2 s2 (st.trans aI))]]
def Uq{rest:List Expr}(h:aD X z a g (.dat (.bl true)) g1):aD X z (.BoolOp .Or (a::b::rest) pos) g (.dat (.bl true)) g1:=by let(t,q,k):=h;show#[_,Rh q vJ,λσ As M H Q s kk=>k σ As M H _ s λv H' aC M' s' st R=>#[true,fL R,iG (kk _ H' aC M' s' st (.bl true))]]
def Ur{rest:List Expr}(h:aD X z a g (.dat (.bl false)) g1)(h2:aD X z (.BoolOp .Or (b::rest) pos) g1 r g2):aD X z (.BoolOp .Or (a::b::rest) pos) g r g2:=by let(t,q,k):=h;let(t2,q2,k2):=h2;show#[_,Rh q q2,λσ As M H Q s kk=>k σ As M H _ s λv H' aC M' s' st R=>#[false,fL R,kM (k2 σ aC M' H' Q s' λv2 H2 bC M2 s2 aI=>kk v2 H2 bC M2 s2 (st.trans aI))]]
def Us(h:aD X z a g (.dat (.bl c)) g1):aD X z (.UnaryOp .Not a pos) g (.dat (.bl ((not c)))) g1:=by let(t,q,k):=h;show#[_,S9 q,λσ As M H Q s kk=>k σ As M H _ s λv H' aC M' s' st R=>#[c,fL R,kk _ H' aC M' s' st (.bl _)]]
inductive jS(z:Z)(σ:Sg)(M:List Addr)(H:Hp):List R->List V->Prop
 |nil:jS z σ M H [] []
 |dat {d:D}{v:V}{rs:List R}{vs:List V}:Rep z.K M H d v->jS z σ M H rs vs->jS z σ M H (.dat d::rs) (v::vs)
 |var {i:Nat}{v:V}{rs:List R}{vs:List V}:σ[i]?=!(!v)->jS z σ M H rs vs->jS z σ M H (.var i::rs) (v::vs)
abbrev dg(X:Cx)(z:Z)(es:List Expr)(g:G)(rs:List R)(g':G):Prop:=
 ∃t,PA X es t/\∀σ As M H (Q:List V->Hp->Prop),S z g σ As M H->(∀vs H' aC M',S z g' σ aC M' H'->aq M H M' H'->jS z σ M' H' rs vs->Q vs H')->t σ H Q
def fP:dg X z [] g [] g:=#[_,cG,λσ As M H Q s k=>k [] H As M s (aq.refl _ _) .nil]
def dY(h:aD X z e g (.dat d) g1)(h2:dg X z es g1 rs g2)(hs:starEach (e::es) X.env=(false,eval e X.env)::starEach es X.env):dg X z (e::es) g (.dat d::rs) g2:=by let(t,q,k):=h;let(t2,q2,k2):=h2;show#[_,aY q q2 hs,λσ As M H Q s kk=>k σ As M H _ s λv H' aC M' s' st R=>k2 σ aC M' H' _ s' λvs H2 bC M2 s2 aI R2=>kk _ H2 bC M2 s2 (st.trans aI) (.dat (Rep.stay aI R) R2)]
def Ut(h:aD X z e g (.var i) g1)(h2:dg X z es g1 rs g2)(hs:starEach (e::es) X.env=(false,eval e X.env)::starEach es X.env):dg X z (e::es) g (.var i::rs) g2:=by let(t,q,k):=h;let(t2,q2,k2):=h2;show#[_,aY q q2 hs,λσ As M H Q s kk=>k σ As M H _ s (by rintro v H' aC M' s' st ⟨_,_,R⟩;show k2 σ aC M' H' _ s' λvs H2 bC M2 s2 aI R2=>kk _ H2 bC M2 s2 (st.trans aI) (.var R R2))]
inductive M8(K:Frag)(M:List Addr)(H:Hp):List D->List V->Prop
 |nil:M8 K M H [] []
 |cons {d:D}{v:V}{ds:List D}{vs:List V}:Pk K M H d v->M8 K M H ds vs->M8 K M H (d::ds) (v::vs)
abbrev Dt:List R->G->Option (List D)
 | [],_=>![]
 |r::rs,g=>match pk r g,Dt rs g with
  |!d,!ds=>!(d::ds)
  |_,_=>none
def S.Dt(s:S z g σ As M H)(q:jS z σ M H rs vs)(e:Dt rs g=!ds):M8 z.K M H ds vs:=by
 induction q generalizing ds with
 |nil=>cases e;show .nil
 |@dat d v rs vs r q ih=>
  delta Ev.Dt at e;cases e2:Ev.Dt rs g with
  |none=>rw[e2]at e;cases e
  |some ds=>rw[e2]at e;cases e;show .cons (.of r) (ih e2)
 |@var i v rs vs r q ih=>
  delta Ev.Dt at e;cases e1:Ev.pk (.var i) g with
  |none=>rw[e1]at e;cases e
  |some d=>
   cases e2:Ev.Dt rs g with
   |none=>rw[e1,e2]at e;cases e
   |some ds=>
    rw[e1,e2]at e;cases e;delta Ev.pk at e1;dsimp only at e1;split at e1
    . ext l hg;cases e1;let(a,xs,h1,h2,h3,h4):=s.sl.at hg;rw[r]at h1;injection h1 with h1;injection h1 with h1;subst h1;show .cons (.lst h3 h4) (ih e2)
    . ext l hg;cases e1;let(w,h1,h2):=s.sl.pH hg;rw[r]at h1;injection h1 with h1;injection h1 with h1;show .cons (.of (h1▸h2)) (ih e2)
    . cases e1
abbrev vK:List R->Option (List D)
 | []=>![]
 |.dat d::rs=>match vK rs with |some ds=>!(d::ds) |none=>none
 |_::_=>none
def Az(q:jS z σ M H rs vs)(e:vK rs=!ds):aK z.K M H ds vs:=by
 induction q generalizing ds with
 |nil=>cases e;show .nil
 |@dat d v rs vs r q ih=>
  delta vK at e;cases e2:vK rs with
  |none=>rw[e2]at e;cases e
  |some ds=>rw[e2]at e;cases e;show .cons r (ih e2)
 |var _ _ _=>cases e
def pK(h:n<=16777216):n<=sizeLine:=by rw[oS];show h
def Uu{x1}(h:dg X z es g rs g')(hd:vK rs=!ds)(hl:ds.length<=16777216):aD X z (.Tuple es x1 pos) g (.dat (.tup ds)) g':=by
 let(t,q,k):=h;apply#[_,GR q,λσ As M H Q s kk=>k σ As M H _ s λvs H' aC M' s' st R=>?_]
 have rr:=Az R hd;apply#[by rw[<- rr.length];show pK hl,λp hp=>kk _ _ aC M' (s'.laid hp) (st.trans (aq.laid hp)) (.tup (.inl #[s'.fresh hp,.inl aA]) (rr.stay (aq.laid hp)))]
def Uv(h:dg X z es g rs g')(hd:vK rs=!ds)(hl:ds.length<=16777216):aD X z (.List es pos) g (.new ds) g':=by
 let(t,q,k):=h;apply#[_,yH q,λσ As M H Q s kk=>k σ As M H _ s λvs H' aC M' s' st R=>?_]
 have rr:=Az R hd;apply#[by rw[<- rr.length];show pK hl,λp hp=>kk _ _ aC (p::M') (s'.aO hp) (st.trans (aq.aO hp)) #[p,vs,rfl,dA,λhA=>s'.fresh hp (s'.sub p hA),s'.bO hp,aA,rr.stay (aq.aO hp)]]
abbrev CallD(X:Cx)(z:Z)(f:Value)(ds:List D)(res:R):Prop:=
 ∃r,d9 X f r/\∀g σ As M H vs Q,S z g σ As M H->M8 z.K M H ds vs->Kn z g σ M H res Q->r vs H Q
def Ho{x:Str}{id:String}{p:Pos}{es:List Expr}{rs:List R}{ds:List D}(h:dg X z (e::es) g rs g')(hp:Dt rs g'=!ds)(hc:CallD X z (.builtin id) ds r)(hg:Gl X x)(hm:X.mg x=none)(hv:bootBuiltins x=!(.builtin id))(hn:x≠ "__name__")(jN:(x==(~~~3))=false)
  (he:starEach (e::es) X.env=(false,eval e X.env)::starEach es X.env) (lN:(backTo pos (starEach es X.env)).any (·.1)=false):aD X z (.Call (.Name x p) (e::es) [] pos) g r g':=by
 let(t,q,k):=h;let(rr,c,kc):=hc;show#[_,iF c hg hm hv q hn jN he lN,λσ As M H Q s kk=>k σ As M H _ s λvs H' aC M' s' st R=>kc g' σ aC M' H' vs Q s' (s'.Dt R hp) λv H2 bC M2 s2 aI R2=>kk v H2 bC M2 s2 (st.trans aI) R2]
def Du(h:dg X z (e::es) g rs g')(hp:Dt rs g'=!ds)(hc:CallD X z (.type T) ds r)(hg:Gl X x)(hm:X.mg x=none)(hv:bootBuiltins x=!(.type T))(hn:x≠ "__name__")(jN:(x==(~~~3))=false)
  (he:starEach (e::es) X.env=(false,eval e X.env)::starEach es X.env) (lN:(backTo pos (starEach es X.env)).any (·.1)=false):aD X z (.Call (.Name x p) (e::es) [] pos) g r g':=by
 let(t,q,k):=h;let(rr,c,kc):=hc;show#[_,rZ c hg hm hv q hn jN he lN,λσ As M H Q s kk=>k σ As M H _ s λvs H' aC M' s' st R=>kc g' σ aC M' H' vs Q s' (s'.Dt R hp) λv H2 bC M2 s2 aI R2=>kk v H2 bC M2 s2 (st.trans aI) R2]
end
mutual
abbrev eu:D->D->Bool
 |.bl a,.bl b=>a==b
 |.bl a,.int j=>(if a then 1 else 0)==j
 |.int i,.bl b=>i==(if b then 1 else 0)
 |.int i,.int j=>i==j
 |.tup l,.tup m=>gj l m
 |.lst l,.lst m=>gj l m
 |_,_=>false
abbrev gj:List D->List D->Bool
 | [],[]=>true
 |a::l,b::m=>eu a b&&gj l m
 |_,_=>false
end
mutual
abbrev dep:D->Nat
 |.tup l=>deps l+1
 |.lst l=>deps l+1
 |_=>0
abbrev deps:List D->Nat
 | []=>0
 |d::l=>max (dep d) (deps l)
end
mutual
abbrev kD:D->Bool
 |.tup l=>iK l
 |.lst l=>iK l
 |.bl _=>true
 |.int _=>true
 |_=>false
abbrev iK:List D->Bool
 | []=>true
 |d::l=>kD d&&iK l
end
mutual
inductive Dv(h:Heap):D->Value->Prop
 |bl (b:Bool):Dv h (.bl b) (.bool b)
 |int (i:Int) (t:Tok):Dv h (.int i) (.int i t)
 |tup {l:List D}{a:Addr}{us:List Value}:IsTup h a us.toArray->oE h l us->Dv h (.tup l) (.ref a)
 |lst {l:List D}{a:Addr}{us:List Value}:h.IsList a us.toArray->oE h l us->Dv h (.lst l) (.ref a)
inductive oE(h:Heap):List D->List Value->Prop
 |nil:oE h [] []
 |cons {d:D}{ds:List D}{u:Value}{us:List Value}:Dv h d u->oE h ds us->oE h (d::ds) (u::us)
end
section
def Rep.dv2(I: ~~~7)(q:Rep X.K M H d v):∀u,RelV v u->kD d=true->Dv s.heap d u:=by
 apply Rep.rec (motive_2:=λds vs _=>∀us,Vals vs us->iK ds=true->oE s.heap ds us) ?_ ?_ ?_ ?_ ?_ ?_ ?_ ?_ ?_ ?_ ?_ ?_ q
 . intro u _ p;show Bool.noConfusion (show false=true from p)
 . intro b u r _;cases r;show .bl b
 . intro i u r _;let(t,rfl):=r;show .int i t
 . intro x u _ p;show Bool.noConfusion (show false=true from p)
 . intro l a xs h _ ih u r p;cases r;let(its,rv,ht,hz):=I.tuple h.sq;show .tup ht (ih _ rv p)
 . intro l a xs h _ ih u r p;cases r;let(its,rv,ht,hz):=I.list (cA.of h.2);show .lst ht.isList (ih _ rv p)
 . intro l a xs _ _ _ u _ p;show Bool.noConfusion (show false=true from p)
 . intro m o a _ _ u _ p;show Bool.noConfusion (show false=true from p)
 . intro C a _ _ _ u _ p;show Bool.noConfusion (show false=true from p)
 . intro ks ds a vs _ _ _ _ _ u _ p;show Bool.noConfusion (show false=true from p)
 . intro us r _;cases r;show .nil
 .
  intro d ds x xs _ _ i1 i2 us r p;cases r with
  |cons r1 r2=>have p:(kD d&&iK ds)=true:=p;rw[hU]at p;show .cons (i1 _ r1 p.1) (i2 _ r2 p.2)
def Rep.dv(I: ~~~7)(q:Rep X.K M H d v)(r:RelV v u)(p:kD d=true):Dv s.heap d u:=q.dv2 I u r p
def aK.dv(I: ~~~7)(q:aK X.K M H ds vs)(r:Vals vs us)(p:iK ds=true):oE s.heap ds us:=by
 induction ds generalizing vs us with
 |nil=>cases q;cases r;show .nil
 |cons d ds ih=>cases q with |cons q1 q2=>cases r with |cons r1 r2=>have p:(kD d&&iK ds)=true:=p;rw[hU]at p;show .cons (q1.dv I r1 p.1) (ih q2 r2 p.2)
def Pk.dv(I: ~~~7)(h:Pk X.K M H d v)(r:RelV v u)(p:kD d=true):Dv s.heap d u:=by
 cases h with
 |of q=>show q.dv I r p
 |lst h q=>cases r;let(its,rv,ht,hz):=I.list (cA.of h);show .lst ht.isList (aK.dv I q rv (by simpa [kD]using p))
end
def oE.length(q:oE h l us):l.length=us.length:=by
 induction l generalizing us with
 |nil=>cases q;rfl
 |cons d l ih=>cases q with |cons a b=>show congrArg (· + 1) (ih b)
def sA{h:Heap}{a:Addr}{us ws:List Value}(x:IsTup h a us.toArray)(y:IsTup h a ws.toArray):us=ws:=by let(o,e,_,n,d):=x;let(o',e',_,n',d'):=y;rw[e]at e';cases e';rw[d]at d';injection d' with d1 _;simpa using congrArg Array.toList d1
def pL{h:Heap}{a:Addr}{us ws:List Value}(x:h.IsList a us.toArray)(y:h.IsList a ws.toArray):us=ws:=by let(o,e,_,n,d):=x;let(o',e',_,n',d'):=y;rw[e]at e';cases e';rw[d]at d';injection d' with d1 _;simpa using congrArg Array.toList d1
def kO(x:IsTup h a us)(y:h.IsList a ws):False:=by let(o,e,c,_):=x;let(o',e',c',_):=y;rw[e]at e';cases e';rw[c]at c';show absurd c' ⋯
def Hq{h:Heap}{d1:D}{u:Value}(q:Dv h d1 u):∀d2,Dv h d2 u->eu d1 d2=true:=by
 apply Dv.rec (motive_2:=λl us _=>∀m,oE h m us->gj l m=true) ?_ ?_ ?_ ?_ ?_ ?_ q
 . intro b d2 q;cases q;show beq_self_eq_true b
 . intro i t d2 q;cases q;show beq_self_eq_true i
 .
  intro l a us x _ ih d2 q;cases q with
  |tup y q'=>cases sA x y;show ih _ q'
  |lst y _=>show (kO x y).elim
 .
  intro l a us x _ ih d2 q;cases q with
  |tup y _=>show (kO y x).elim
  |lst y q'=>cases pL x y;show ih _ q'
 . intro m q;cases q;rfl
 .
  intro d ds u us _ _ i1 i2 m q;cases q with
  |@cons d' m _ _ b q'=>exact (eu d d'&&gj ds m)=true;rw[i1 _ b,i2 _ q'];rfl
def M9(q:Dv h d1 u)(q':Dv h d2 u):eu d1 d2=true:=Hq q d2 q'
abbrev Ru(l m:List D)(j:Nat):Bool:=match l[j]?,m[j]? with |!a,!b=>eu a b |_,_=>false
def pM(l m:List D)(h:l.length=m.length):(List.range l.length).all (Ru l m)=gj l m:=by
 induction l generalizing m with
 |nil=>cases m with
  |nil=>rfl
  |cons _ _=>symm
 |cons a l ih=>cases m with
  |nil=>symm
  |cons b m=>rw[lL,List.range_succ_eq_map,List.all_cons,List.all_map];have e:(Ru (a::l) (b::m) ∘ Nat.succ)=Ru l m:=rfl;rw[e,ih m (BF h)];rfl
def pN(l m:List D)(h:l.length≠m.length):gj l m=false:=by
 induction l generalizing m with
 |nil=>cases m with
  |nil=>show absurd rfl h
  |cons _ _=>rfl
 |cons a l ih=>cases m with
  |nil=>rfl
  |cons b m=>exact (eu a b&&gj l m)=false;rw[ih m (λe=>h (congrArg (· + 1) e)),Cf]
def vL(l m:List D):((List.range (min l.length m.length)).all (Ru l m)&&l.length==m.length)=gj l m:=by
 by_cases h:l.length=m.length
 . rw[h,Nat.min_self,<- h,pM l m h];simp
 .
  rw[pN l m h];have:(l.length==m.length)=false:=by simpa using h
  rw[this,Cf]
def pO{l:List D}{j:Nat}{d:D}(e:l[j]?=!d):dep d<=deps l:=by
 induction l generalizing j with
 |nil=>show nomatch (show none=!d from e)
 |cons d' l ih=>cases j with
  |zero=>cases (show some d'=!d from e);show Nat.le_max_left _ _
  |succ j=>show sK (ih (show l[j]?=!d from e)) (Nat.le_max_right _ _)
def oE.get{h:Heap}{l:List D}{us:List Value}{j:Nat}{u:Value}(q:oE h l us)(e:us[j]?=!u):∃d,l[j]?=!d/\Dv h d u:=by
 induction l generalizing us j with
 |nil=>cases q;show nomatch (show none=!u from e)
 |cons d' l ih=>cases q with |@cons _ _ u' us a b=>cases j with
  |zero=>cases (show some u'=!u from e);show#[_,rfl,a]
  |succ j=>let(d,h):=ih b e;show#[d,h]
def in1_units(A:Around):A.in1.units=A.units+1:=rfl
section
def Hr(hl:s.heap.IsList l us.toArray)(hb:s.heap.IsList b ws.toArray)(q:oE s.heap ls us)(q':oE s.heap ms ws)(hu:A.units<cLine)
  (he:∀(j:Nat) d1 d2 u1 u2,ls[j]?=!d1->Dv s.heap d1 u1->Dv s.heap d2 u2->SeqAt.EqAt A.in1 s u1 u2 (eu d1 d2)):SeqAt.RcAt A s (.ref l) (.ref b) (gj ls ms):=by
 have h1:=q.length;have h2:=q'.length;by_cases h:ls.length=ms.length
 .
  rw[<- pM ls ms h];have e:us.toArray.size=ls.length:=by rw[d5,h1]
  rw[<- e];apply SeqAt.RcAt.lists hl hb (by rw[d5,d5];lia) hu λj g1 g2=>?_
  let(d1,e1,v1):=q.get (j:=j) (u:=us[j]) (by simp[g1])
  let(d2,e2,v2):=q'.get (j:=j) (u:=ws[j]) (by simp[g2])
  have:=he j d1 d2 us[j] ws[j] e1 v1 v2;simpa [Ru,e1,e2]using this
 . rw[pN ls ms h];apply SeqAt.RcAt.lists_lengths hl hb ?_ hu;rw[d5,d5];lia
def Dw(hl:IsTup s.heap l us.toArray)(hb:IsTup s.heap b ws.toArray)(q:oE s.heap ls us)(q':oE s.heap ms ws)(hu:A.units<cLine)
  (he:∀(j:Nat) d1 d2 u1 u2,ls[j]?=!d1->Dv s.heap d1 u1->Dv s.heap d2 u2->SeqAt.EqAt A.in1 s u1 u2 (eu d1 d2)):SeqAt.RcAt A s (.ref l) (.ref b) (gj ls ms):=by
 have h1:=q.length;have h2:=q'.length;have e:us.toArray.size=ls.length:=by rw[d5,h1]
 have e':ws.toArray.size=ms.length:=by rw[d5,h2]
 rw[<- vL,<- e,<- e'];apply SeqAt.RcAt.tuples hl hb hu λj g1 g2=>?_
 let(d1,e1,v1):=q.get (j:=j) (u:=us[j]) (by simp[g1])
 let(d2,e2,v2):=q'.get (j:=j) (u:=ws[j]) (by simp[g2])
 have:=he j d1 d2 us[j] ws[j] e1 v1 v2;simpa [Ru,e1,e2]using this
def vM(x:Dv s.heap d1 (.ref l))(y:Dv s.heap d2 (.ref b))(h:SeqAt.RcAt A s (.ref l) (.ref b) (eu d1 d2)):SeqAt.EqAt A s (.ref l) (.ref b) (eu d1 d2):=by
 by_cases e:l=b
 . subst e;rw[M9 x y];show .same _
 . show .of_refs e h
end
def Hs{s:Shared}:∀(n:Nat) {d1 d2:D}{u1 u2:Value}{A:Around},dep d1<=n->Dv s.heap d1 u1->Dv s.heap d2 u2->A.units+n<cLine->SeqAt.EqAt A s u1 u2 (eu d1 d2)/\SeqAt.RcAt A s u1 u2 (eu d1 d2):=by
 intro n
 induction n using Nat.strongRecOn with
 |ind n ih=>
  intro d1 d2 u1 u2 A hn x y hu;have iL:A.units<cLine:=by lia
  have el:∀{l:List D},deps l+1<=n->∀(j:Nat) d1 d2 u1 u2,l[j]?=!d1->Dv s.heap d1 u1->Dv s.heap d2 u2->SeqAt.EqAt A.in1 s u1 u2 (eu d1 d2):=λhl j d1 d2 u1 u2 e v1 v2=>
   (ih (n - 1) ⋯ (sK (pO e) ⋯) v1 v2 (by rw[in1_units];lia)).1
  cases x with
  |@tup l0 a0 us0 h q=>
   have hn':deps l0+1<=n:=hn;have x:=Dv.tup h q;cases y with
   |tup h' q'=>have r:=Dw h h' q q' iL (el hn');show#[vM x (.tup h' q') r,r]
   |lst h' q'=>show#[.tuple_list h h' iL,.tuple_list h h' iL]
   |bl b=>show#[.tuple_bool b h iL,.tuple_bool b h iL]
   |int b t=>show#[.tuple_int b t h iL,.tuple_int b t h iL]
  |@lst l0 a0 us0 h q=>
   have hn':deps l0+1<=n:=hn;have x:=Dv.lst h q;cases y with
   |tup h' q'=>show#[.list_tuple h h' iL,.list_tuple h h' iL]
   |lst h' q'=>have r:=Hr h h' q q' iL (el hn');show#[vM x (.lst h' q') r,r]
   |bl b=>show#[.list_bool b h iL,.list_bool b h iL]
   |int b t=>show#[.list_int b t h iL,.list_int b t h iL]
  |bl c=>
   cases y with
   |bl c'=>show#[.bool_bool c c',.bool_bool c c']
   |int c' t'=>show#[.bool_int c c' t',.bool_int c c' t']
   |tup h' q'=>show#[.bool_tuple c h' iL,.bool_tuple c h' iL]
   |lst h' q'=>show#[.bool_list c h' iL,.bool_list c h' iL]
  |int c t=>
   cases y with
   |bl c'=>show#[.int_bool c t c',.int_bool c t c']
   |int c' t'=>show#[.int_int c t c' t',.int_int c t c' t']
   |tup h' q'=>show#[.int_tuple c t h' iL,.int_tuple c t h' iL]
   |lst h' q'=>show#[.int_list c t h' iL,.int_list c t h' iL]
section
variable{K:Frag}
def Pk.int{i:Int}(h:Pk K M H (.int i) v):v=.int i:=by cases h with |of r=>cases r;rfl
def Pk.bl(h:Pk K M H (.bl i) v):v=.bl i:=by cases h with |of r=>cases r;rfl
def Pk.str(h:Pk K M H (.str i) v):v=.str i:=by cases h with |of r=>cases r;rfl
def Pk.non(h:Pk K M H .non v):v=.non:=by cases h with |of r=>cases r;rfl
def Pk.tup{l:List D}(h:Pk K M H (.tup l) v):∃a xs,v=.ref a/\TupAt K M H a xs/\aK K M H l xs:=by cases h with |of r=>cases r with |tup h1 h2=>show⟨_,_,rfl,h1,h2⟩
def Pk.fix{l:List D}(h:Pk K M H (.fix l) v):∃a xs,v=.ref a/\su K M H a xs/\aK K M H l xs:=by cases h with |of r=>cases r with |fix h1 h2=>show⟨_,_,rfl,h1,h2⟩
end
section
def Ba{f:Value->Value->Sem Value}{k:Int->Int->Int}{i j:Int}(h:nQ X f (Mj λi j=>.int (k i j))):nW X z f (.int i) (.int j) (.dat (.int (k i j))):=
 #[_,h,λg σ As M H v1 v2 Q s p1 p2 kk=>#[i,j,p1.int,p2.int,kk _ H As M s (aq.refl _ _) (.int _)]]
def um{f:Value->Value->Sem Value}{C:Int->Int->Prop}{k:Int->Int->Int}{i j:Int}(h:nQ X f (rI C λi j=>.int (k i j)))(hc:C i j):nW X z f (.int i) (.int j) (.dat (.int (k i j))):=
 #[_,h,λg σ As M H v1 v2 Q s p1 p2 kk=>#[i,j,p1.int,p2.int,hc,kk _ H As M s (aq.refl _ _) (.int _)]]
def yQ{f:Value->Value->Sem Value}{k:Int->Int->Bool}{i j:Int}(h:nQ X f (Mj λi j=>.bl (k i j))):nW X z f (.int i) (.int j) (.dat (.bl (k i j))):=
 #[_,h,λg σ As M H v1 v2 Q s p1 p2 kk=>#[i,j,p1.int,p2.int,kk _ H As M s (aq.refl _ _) (.bl _)]]
abbrev Uw(z:Z)(d1 d2:D)(b:Bool):R2:=λx y H Q=>(∃M,Pk z.K M H d1 x/\Pk z.K M H d2 y)/\Q (.bl b) H
def ZN(hK:z.K=X.K)(p1:kD d1=true)(p2:kD d2=true)(hd:X.A.units+dep d1<cLine):nW X z (compareOp .Eq) d1 d2 (.dat (.bl (eu d1 d2))):=by
 apply#[Uw z d1 d2 (eu d1 d2),?_,λg σ As M H v1 v2 Q s q1 q2 kk=>#[#[M,q1,q2],kk _ H As M s (aq.refl _ _) (.bl _)]]
 intro aj s σ H x y v u Q I rx ry h;let((M,q1,q2),q):=h;rw[hK]at q1 q2;show (Hs (dep d1) (eA _) (q1.dv I rx p1) (q2.dv I ry p2) hd).2 X.prog X.w X.xe _ #[.bl _,H,I,rfl,q]
section
def Ht(hl:s.heap.IsList l us.toArray)(hb:s.heap.IsList b ws.toArray)(q:oE s.heap ls us)(q':oE s.heap ms ws)(hu:A.units<cLine)
  (he:∀(j:Nat) d1 d2 u1 u2,ls[j]?=!d1->Dv s.heap d1 u1->Dv s.heap d2 u2->SeqAt.EqAt A.in1 s u1 u2 (eu d1 d2)):SeqAt.RcNeAt A s (.ref l) (.ref b) ((not (gj ls ms))):=by
 have h1:=q.length;have h2:=q'.length;by_cases h:ls.length=ms.length
 .
  rw[<- pM ls ms h];have e:us.toArray.size=ls.length:=by rw[d5,h1]
  rw[<- e];apply SeqAt.RcNeAt.lists hl hb (by rw[d5,d5];lia) hu λj g1 g2=>?_
  let(d1,e1,v1):=q.get (j:=j) (u:=us[j]) (by simp[g1])
  let(d2,e2,v2):=q'.get (j:=j) (u:=ws[j]) (by simp[g2])
  have:=he j d1 d2 us[j] ws[j] e1 v1 v2;simpa [Ru,e1,e2]using this
 . rw[pN ls ms h];apply SeqAt.RcNeAt.lists_lengths hl hb ?_ hu;rw[d5,d5];lia
def Dy(hl:IsTup s.heap l us.toArray)(hb:IsTup s.heap b ws.toArray)(q:oE s.heap ls us)(q':oE s.heap ms ws)(hu:A.units<cLine)
  (he:∀(j:Nat) d1 d2 u1 u2,ls[j]?=!d1->Dv s.heap d1 u1->Dv s.heap d2 u2->SeqAt.EqAt A.in1 s u1 u2 (eu d1 d2)):SeqAt.RcNeAt A s (.ref l) (.ref b) ((not (gj ls ms))):=by
 have h1:=q.length;have h2:=q'.length;have e:us.toArray.size=ls.length:=by rw[d5,h1]
 have e':ws.toArray.size=ms.length:=by rw[d5,h2]
 rw[<- vL,<- e,<- e'];apply SeqAt.RcNeAt.tuples hl hb hu λj g1 g2=>?_
 let(d1,e1,v1):=q.get (j:=j) (u:=us[j]) (by simp[g1])
 let(d2,e2,v2):=q'.get (j:=j) (u:=ws[j]) (by simp[g2])
 have:=he j d1 d2 us[j] ws[j] e1 v1 v2;simpa [Ru,e1,e2]using this
end
def ZP(x:Dv s.heap d1 u1)(y:Dv s.heap d2 u2)(hu:A.units+dep d1<cLine):SeqAt.RcNeAt A s u1 u2 ((not (eu d1 d2))):=by
 have iL:A.units<cLine:=by lia
 have el:∀{l:List D},deps l+1<=dep d1->∀(j:Nat) d1 d2 u1 u2,l[j]?=!d1->Dv s.heap d1 u1->Dv s.heap d2 u2->SeqAt.EqAt A.in1 s u1 u2 (eu d1 d2):=λhl j e1 e2 u1 u2 e v1 v2=>
  (Hs (dep e1) (eA _) v1 v2 (by rw[in1_units];have:=pO e;lia)).1
 cases x with
 |tup h q=>
  cases y with
  |tup h' q'=>show Dy h h' q q' iL (el (by simp[dep]))
  |lst h' q'=>show .tuple_list h h' iL
  |bl b=>show .tuple_bool b h iL
  |int b t=>show .tuple_int b t h iL
 |lst h q=>
  cases y with
  |tup h' q'=>show .list_tuple h h' iL
  |lst h' q'=>show Ht h h' q q' iL (el (by simp[dep]))
  |bl b=>show .list_bool b h iL
  |int b t=>show .list_int b t h iL
 |bl c=>
  cases y with
  |bl c'=>show .bool_bool c c'
  |int c' t'=>show .bool_int c c' t'
  |tup h' q'=>show .bool_tuple c h' iL
  |lst h' q'=>show .bool_list c h' iL
 |int c t=>
  cases y with
  |bl c'=>show .int_bool c t c'
  |int c' t'=>show .int_int c t c' t'
  |tup h' q'=>show .int_tuple c t h' iL
  |lst h' q'=>show .int_list c t h' iL
def ZQ(hK:z.K=X.K)(p1:kD d1=true)(p2:kD d2=true)(hd:X.A.units+dep d1<cLine):nW X z (compareOp .NotEq) d1 d2 (.dat (.bl ((not (eu d1 d2))))):=by
 apply#[Uw z d1 d2 ((not (eu d1 d2))),?_,λg σ As M H v1 v2 Q s q1 q2 kk=>#[#[M,q1,q2],kk _ H As M s (aq.refl _ _) (.bl _)]]
 intro aj s σ H x y v u Q I rx ry h;let((M,q1,q2),q):=h;rw[hK]at q1 q2;show ZP (q1.dv I rx p1) (q2.dv I ry p2) hd X.prog X.w X.xe _ #[.bl _,H,I,rfl,q]
def Hu(q:Dv h d u):∀d' x,Dv h d' u->eu d x=eu d' x:=by
 apply Dv.rec (motive_2:=λl us _=>∀l' m,oE h l' us->gj l m=gj l' m) ?_ ?_ ?_ ?_ ?_ ?_ q
 . intro b d' x q;cases q;rfl
 . intro i t d' x q;cases q;rfl
 .
  intro l a us k _ ih d' x q;cases q with
  |tup y q'=>
   cases sA k y;cases x with
   |tup m=>show ih _ m q'
   |_=>rfl
  |lst y _=>show (kO k y).elim
 .
  intro l a us k _ ih d' x q;cases q with
  |tup y _=>show (kO y k).elim
  |lst y q'=>
   cases pL k y;cases x with
   |lst m=>show ih _ m q'
   |_=>rfl
 . intro l' m q;cases q;rfl
 .
  intro d ds u us _ _ i1 i2 l' m q;cases q with
  |@cons d' l' _ _ b q'=>cases m with
   |nil=>rfl
   |cons y m=>exact (eu d y&&gj ds m)=(eu d' y&&gj l' m);rw[i1 _ y b,i2 _ m q']
def Nc(x:D)(q:Dv h d u)(q':Dv h d' u):eu d x=eu d' x:=Hu q d' x q'
open Classical in
abbrev inE(h:Heap)(x:D)(u:Value):Bool:=decide (∃d,Dv h d u/\eu d x=true)
open Classical in
def Hv(q:Dv h d u):inE h x u=eu d x:=by
 delta inE;cases e:eu d x with
 |true=>show oC #[d,q,e]
 |false=>apply tJ ?_;rintro⟨d',q',e'⟩;rw[Nc x q' q,e]at e';cases e'
def Bb(q:oE h l us):us.any (inE h x)=l.any λd=>eu d x:=by
 induction l generalizing us with
 |nil=>cases q;rfl
 |cons d l ih=>cases q with |cons a b=>rw[List.any_cons,List.any_cons,Hv a,ih b]
abbrev ZR(z:Z)(d1 d2:D)(b:Bool):R2:=Uw z d1 d2 b
def Hw{A:Around}{s:Shared}{x:D}{u:Value}{l:List D}{us:List Value}(q:oE s.heap l us)(hx:Dv s.heap x u)(hu:A.units+deps l+1<cLine):∀y,y∈us.toArray->SeqAt.EqAt A.in1 s y u (inE s.heap x y):=by
 intro y hy;have hy':y∈us:=by simpa using hy
 let(j,hj):=List.getElem?_of_mem hy';let(d,e,qd):=q.get hj;rw[Hv qd];have:=pO e;show (Hs (dep d) (eA _) qd hx (by rw[in1_units];lia)).1
abbrev iu:D->Option (List D)
 |.lst l=>!l
 |.tup l=>!l
 |.fix l=>!l
 |_=>none
def Hx{aj: ~~~1}{σ:Sg}{M:List Addr}{H:Hp}{s:Shared}{d:D}{l:List D}{v:V}{u:Value}(I:L2.Inv X aj σ H s)(p:Pk X.K M H d v)(r:RelV v u)(hs:iu d=!l)(p2:iK l=true) :
  ∃a its,u=.ref a/\oE s.heap l its/\its.length<=sizeLine/\(d=.tup l/\IsTup s.heap a its.toArray\/(d=.lst l\/d=.fix l)/\s.heap.IsList a its.toArray):=by
 cases d with
 |tup m=>cases hs;let(a,xs,rfl,ha,rr):=p.tup;cases r;let(its,rv,pl,hz):=I.tuple ha.sq;show#[a,its,rfl,rr.dv I rv p2,rv.length▸hz,.inl #[rfl,pl]]
 |lst m=>cases hs;let(a,xs,rfl,ha,rr):=p.list;cases r;let(its,rv,pl,hz):=I.list (cA.of ha);show#[a,its,rfl,rr.dv I rv p2,rv.length▸hz,.inr #[.inl rfl,pl.isList]]
 |fix m=>cases hs;let(a,xs,rfl,ha,rr):=p.fix;cases r;let(its,rv,pl,hz):=I.list ha.sq;show#[a,its,rfl,rr.dv I rv p2,rv.length▸hz,.inr #[.inr rfl,pl.isList]]
 |_=>cases hs
def ZS(hK:z.K=X.K)(hs:iu d2=!l)(p1:kD d1=true)(p2:iK l=true)(hd:X.A.units+deps l+1<cLine):nW X z (compareOp .In) d1 d2 (.dat (.bl (l.any λd=>eu d d1))):=by
 apply#[ZR z d1 d2 (l.any λd=>eu d d1),?_,λg σ As M H v1 v2 Q s q1 q2 kk=>#[#[M,q1,q2],kk _ H As M s (aq.refl _ _) (.bl _)]]
 intro aj s σ H x y v u Q I rx ry h;let((M,q1,q2),q):=h;rw[hK]at q1 q2;let(a,its,rfl,Dh,_,t):=Hx I q2 ry hs p2;have el:=Hw Dh (q1.dv I rx p1) hd;rw[<- Bb Dh,<- List.any_toArray]at q;rcases t with ⟨_,pl⟩ |⟨_,pl⟩
 . show SeqAt.in_tupleAt _ pl el #[.bl _,H,I,rfl,q]
 . show SeqAt.in_listAt _ pl el #[.bl _,H,I,rfl,q]
def Hy(hK:z.K=X.K)(hs:iu d2=!l)(p1:kD d1=true)(p2:iK l=true)(hd:X.A.units+deps l+1<cLine):nW X z (compareOp .NotIn) d1 d2 (.dat (.bl ((not (l.any λd=>eu d d1))))):=by
 apply#[ZR z d1 d2 ((not (l.any λd=>eu d d1))),?_,λg σ As M H v1 v2 Q s q1 q2 kk=>#[#[M,q1,q2],kk _ H As M s (aq.refl _ _) (.bl _)]]
 intro aj s σ H x y v u Q I rx ry h;let((M,q1,q2),q):=h;rw[hK]at q1 q2;let(a,its,rfl,Dh,_,t):=Hx I q2 ry hs p2;have el:=Hw Dh (q1.dv I rx p1) hd;rw[<- Bb Dh,<- List.any_toArray]at q;rcases t with ⟨_,pl⟩ |⟨_,pl⟩
 . show SeqAt.notIn_tupleAt _ pl el #[.bl _,H,I,rfl,q]
 . show SeqAt.notIn_listAt _ pl el #[.bl _,H,I,rfl,q]
def Ux(h:l.length+m.length<=16777216):nW X z (binaryOp .Add) (.lst l) (.lst m) (.new (l++m)):=by
 apply#[_,T5,λg σ As M H v1 v2 Q s q1 q2 kk=>?_]
 let(a,xs,rfl,ha,ra):=q1.list;let(b,ys,rfl,hb,rb):=q2.list;apply#[a,b,xs,ys,rfl,rfl,ha,hb,by rw[<- ra.length,<- rb.length];show pK h,λp hp=>?_]
 show kk _ _ As (p::M) (s.aO hp) (aq.aO hp) #[p,_,rfl,dA,λhA=>s.fresh hp (s.sub p hA),s.bO hp,aA,(ra.append rb).stay (aq.aO hp)]
def Uy(h1 : -(2 ^ 63)<=k)(h2:k<2 ^ 63)(h:l.length * k.toNat<=16777216):nW X z (binaryOp .Mult) (.lst l) (.int k) (.new (List.replicate k.toNat l).flatten):=by
 apply#[_,T6,λg σ As M H v1 v2 Q s q1 q2 kk=>?_]
 let(a,xs,rfl,ha,ra):=q1.list;have rr:∀n,aK z.K M H (List.replicate n l).flatten (List.replicate n xs).flatten:=λn=>by
  induction n with
  |zero=>simp;show .nil
  |succ n ih=>rw[AH,AH];show ra.append ih
 apply#[a,k,xs,rfl,q2.int,ha,h1,h2,by rw[<- ra.length];show pK h,λp hp=>?_]
 show kk _ _ As (p::M) (s.aO hp) (aq.aO hp) #[p,_,rfl,dA,λhA=>s.fresh hp (s.sub p hA),s.bO hp,aA,(rr _).stay (aq.aO hp)]
abbrev Uz(K:Frag):R2:=λx y H Q=>∃a b xs ys,x=.ref a/\y=.ref b/\jG K H a xs/\jG K H b ys/\xs.length+ys.length<=sizeLine/\
 (xs=[]->Q (.ref b) H)/\(xs≠[]->ys=[]->Q (.ref a) H)/\(xs≠[]->ys≠[]->∀p,H p=none->Q (.ref p) (upd H p (.tup (xs++ys))))
def Hz:nQ X (binaryOp .Add) (Uz X.K):=by
 intro aj s σ H x y v u Q I rx ry h;let(a,b,xs,ys,rfl,rfl,ha,hb,hz,q0,q1,q2):=h;by_cases hx:xs=[]
 .
  subst hx;cases rx;cases ry;let(its,r1,p1,_):=I.tuple ha;let(jF,r2,p2,_):=I.tuple hb;cases r1;let((cls,dd,data,sl),ho,hc,n,hd):=id p1;let((Zv,dd2,data2,sl2),ho2,hc2,n2,hd2):=id p2;subst hc hd hc2 hd2;show concat_meets #[_,ho,rfl] #[_,ho2,rfl] noFill_tuple_add seq_tuple_add B1 BN (BE _ _)
   (tuple_addW0 a b ([].toArray) jF.toArray n n2 dd dd2 sl sl2 ⋯) #[ho,ho2,#[.ref b,H,I,rfl,q0 rfl]]
 . show Mm aj s σ H (.ref a) (.ref b) v u Q I rx ry #[a,b,xs,ys,rfl,rfl,ha,hb,hx,hz,q1 hx,q2 hx]
def Ng(hK:z.K=X.K)(h:l.length+m.length<=16777216):nW X z (binaryOp .Add) (.tup l) (.tup m) (.dat (.tup (l++m))):=by
 apply#[_,Hz,λg σ As M H v1 v2 Q s q1 q2 kk=>?_]
 let(a,xs,rfl,ha,ra):=q1.tup;let(b,ys,rfl,hb,rb):=q2.tup;have la:=ra.length;have lb:=rb.length;apply#[a,b,xs,ys,rfl,rfl,hK▸ha.sq,hK▸hb.sq,by rw[<- la,<- lb];show pK h,λe=>?_,λe1 e2=>?_,λe1 e2 p hp=>?_]
 .
  subst e;cases l with
  |nil=>show kk _ H As M s (aq.refl _ _) (.tup hb rb)
  |cons _ _=>simp at la
 .
  subst e2;cases m with
  |nil=>rw[mE]at kk;show kk _ H As M s (aq.refl _ _) (.tup ha ra)
  |cons _ _=>simp at lb
 . show kk _ _ As M (s.laid hp) (aq.laid hp) (.tup (.inl #[s.fresh hp,.inl aA]) ((ra.append rb).stay (aq.laid hp)))
def pP{K:Frag}{M:List Addr}{H:Hp}{l:List D}{xs:List V}{i:Int}{d:D}(r:aK K M H l xs)(h:gJ l i=!d):∃v,gJ xs i=!v/\Rep K M H d v:=by
 delta gJ at h ⊢
 rw[<- r.length];cases e:yJ l.length i with
 |none=>rw[e]at h;symm
 |some j=>rw[e]at h;have h':=h;let(v,h1,h2):=r.get h';show#[v,h1,h2]
def UG{l:List D}{i:Int}{d:D}(hK:z.K=X.K)(h:gJ l i=!d):Yj X z (.lst l) (.int i) (.dat d):=by
 apply#[_,tZ,λg σ As M H v1 v2 Q s q1 q2 kk=>?_]
 let(a,xs,rfl,ha,ra):=q1.list;let(v,e,r):=pP ra h;show#[a,xs,i,v,rfl,q2.int,cA.of ha,e,kk _ H As M s (aq.refl _ _) r]
def UJ{l:List D}{i:Int}{d:D}(hK:z.K=X.K)(h:gJ l i=!d):Yj X z (.fix l) (.int i) (.dat d):=by
 apply#[_,tZ,λg σ As M H v1 v2 Q s q1 q2 kk=>?_]
 let(a,xs,rfl,ha,ra):=q1.fix;let(v,e,r):=pP ra h;show#[a,xs,i,v,rfl,q2.int,hK▸ha.sq,e,kk _ H As M s (aq.refl _ _) r]
def Nh{l:List D}{i:Int}{d:D}(hK:z.K=X.K)(h:gJ l i=!d):Yj X z (.tup l) (.int i) (.dat d):=by
 apply#[_,TX,λg σ As M H v1 v2 Q s q1 q2 kk=>?_]
 let(a,xs,rfl,ha,ra):=q1.tup;let(v,e,r):=pP ra h;show#[a,xs,i,v,rfl,q2.int,hK▸ha.sq,e,kk _ H As M s (aq.refl _ _) r]
abbrev bF:List D->Option (~~~0)
 | []=>![]
 |.int i::l=>match bF l with |some ns=>!(i::ns) |none=>none
 |_::_=>none
def eV{K:Frag}{M:List Addr}{H:Hp}{l:List D}{xs:List V}{ns: ~~~0}(q:aK K M H l xs)(e:bF l=!ns):xs=ns.map V.int:=by
 induction l generalizing xs ns with
 |nil=>cases q;cases e;rfl
 |cons d l ih=>cases q with |cons r q=>cases d with
  |int i=>
   have e:(match bF l with |some ns=>!(i::ns) |none=>none)=!ns:=e
   cases e2:bF l with
   |none=>rw[e2]at e;cases e
   |some ns=>rw[e2]at e;cases e;cases r;rw[List.map_cons,ih q e2]
  |_=>cases e
def UL{l m:List D}{ns ms: ~~~0}(hK:z.K=X.K)(hu:X.A.units<cLine)(h1:bF l=!ns)(h2:bF m=!ms):nW X z (compareOp .Lt) (.tup l) (.tup m) (.dat (.bl (HT.lexLt ns ms))):=by
 apply#[_,TV hu,λg σ As M H v1 v2 Q s q1 q2 kk=>?_]
 let(a,xs,rfl,ha,ra):=q1.tup;let(b,ys,rfl,hb,rb):=q2.tup;have e1:=eV ra h1;have e2:=eV rb h2;subst e1 e2;show#[a,b,ns,ms,rfl,rfl,hK▸ha.sq,hK▸hb.sq,kk _ H As M s (aq.refl _ _) (.bl _)]
end
section
def M8.one{K:Frag}{M:List Addr}{H:Hp}{d:D}{vs:List V}(h:M8 K M H [d] vs):∃v,vs=[v]/\Pk K M H d v:=by cases h with |cons p q=>cases q;show#[_,rfl,p]
def M8.two{K:Frag}{M:List Addr}{H:Hp}{d e:D}{vs:List V}(h:M8 K M H [d,e] vs):∃v w,vs=[v,w]/\Pk K M H d v/\Pk K M H e w:=by cases h with |cons p q=>cases q with |cons p' q'=>cases q';show#[_,_,rfl,p,p']
abbrev ZT:D->Option Nat
 |.lst l=>!l.length
 |.tup l=>!l.length
 |.fix l=>!l.length
 |_=>none
def UT{d:D}{n:Nat}(hK:z.K=X.K)(h:ZT d=!n):CallD X z (.builtin "len") [d] ‹n›:=by
 apply#[_,GQ,λg σ As M H vs Q s p k=>?_]
 let(v,rfl,pv):=p.one;apply#[v,n,rfl,?_,k _ H As M s (aq.refl _ _) (.int _)];cases d with
 |lst l=>symm;let(a,xs,rfl,ha,r):=pv.list;show .inl #[xs,cA.of ha,r.length]
 |fix l=>symm;let(a,xs,rfl,ha,r):=pv.fix;show .inl #[xs,hK▸ha.sq,r.length]
 |tup l=>symm;let(a,xs,rfl,ha,r):=pv.tup;show .inr #[xs,hK▸ha.sq,r.length]
 |_=>symm
def Ni{d:D}{l:List D}(hK:z.K=X.K)(h:iu d=!l):CallD X z (.type "list") [d] (.new l):=by
 apply#[_,uc,λg σ As M H vs Q s p k=>?_]
 let(v,rfl,pv):=p.one;have fin:∀xs,aK z.K M H l xs->∀p,H p=none->Q (.ref p) (upd H p (.lst xs)):=λxs r p hp=>
  k _ _ As (p::M) (s.aO hp) (aq.aO hp) #[p,xs,rfl,dA,λhA=>s.fresh hp (s.sub p hA),s.bO hp,aA,r.stay (aq.aO hp)]
 cases d with
 |lst m=>symm;let(a,xs,rfl,ha,r):=pv.list;show#[a,xs,rfl,.inl (cA.of ha),fin xs r]
 |fix m=>symm;let(a,xs,rfl,ha,r):=pv.fix;show#[a,xs,rfl,.inl (hK▸ha.sq),fin xs r]
 |tup m=>symm;let(a,xs,rfl,ha,r):=pv.tup;show#[a,xs,rfl,.inr (hK▸ha.sq),fin xs r]
 |_=>symm
def HB{d:D}{l:List D}(hK:z.K=X.K)(h:iu d=!l):CallD X z (.type "tuple") [d] (.dat (.tup l)):=by
 apply#[_,rz,λg σ As M H vs Q s p k=>?_]
 let(v,rfl,pv):=p.one;have fin:∀xs,aK z.K M H l xs->∀p,H p=none->Q (.ref p) (upd H p (.tup xs)):=λxs r p hp=>
  k _ _ As M (s.laid hp) (aq.laid hp) (.tup (.inl #[s.fresh hp,.inl aA]) (r.stay (aq.laid hp)))
 cases d with
 |lst m=>symm;let(a,xs,rfl,ha,r):=pv.list;show#[a,xs,rfl,.inl #[cA.of ha,fin xs r]]
 |fix m=>symm;let(a,xs,rfl,ha,r):=pv.fix;show#[a,xs,rfl,.inl #[hK▸ha.sq,fin xs r]]
 |tup m=>symm;let(a,xs,rfl,ha,r):=pv.tup;show#[a,xs,rfl,.inr #[hK▸ha.sq,k _ H As M s (aq.refl _ _) (.tup ha r)]]
 |_=>symm
def UW{i j:Int}(hc:X.calm=true):CallD X z (.builtin "max") [.int i,.int j] (.dat (.int (if j > i then j else i))):=by
 apply#[_,De hc,λg σ As M H vs Q s p k=>?_]
 let(v,w,rfl,p1,p2):=p.two;show#[i,j,by rw[p1.int,p2.int],k _ H As M s (aq.refl _ _) (.int _)]
def U0{i j:Int}(hc:X.calm=true):CallD X z (.builtin "min") [.int i,.int j] (.dat (.int (if j<i then j else i))):=by
 apply#[_,Df hc,λg σ As M H vs Q s p k=>?_]
 let(v,w,rfl,p1,p2):=p.two;show#[i,j,by rw[p1.int,p2.int],k _ H As M s (aq.refl _ _) (.int _)]
end
section
def pQ(hc:X.calm=true):d9 X (.builtin "all") (λxs H Q=>∃(p:Addr) (bs:List Bool),xs=[.ref p]/\cA X.K H p (bs.map V.bl)/\Q (.bl (bs.all id)) H):=by
 intro aj s σ H xs us Q I r h;let(p,bs,rfl,hp,q):=h;let(u,rfl,rx):=vals1 r;cases rx;let(its,rv,pl,hz):=I.list hp;have n9:p<s⁻¹:=by let(_,e,_):=pl.isList;show fA e
 have aL:its.length=bs.length:=by rw[<- rv.length,eC]
 have up:∀b o,s.heap.get? b=!o->(s.heap.push { cls:=.type "list_iterator",data:=.fields ([.ref p,.int 0 0].toArray)}).get? b=!o:=λb o e=>dE _ e
 apply call_all_walk (wpAny_pyIter_list pl.isList ?_);apply#[s⁻¹,_,_,_,_,_,λi=>bs.getD i true,rfl,Walks.list (show X.A.in1.handled=none from I.ok.hd hc) s⁻¹ p (kS n9) its.toArray,#[#[_,fN _ rfl,rfl,rfl],pl.isList.push _],?_,λh' tk hk=>?_]
 .
  intro i v s' Q' E' hv hq;have hv':its[i]?=!v:=by simpa using hv
  have hi:i<bs.length:=by rw[<- aL];show (dC.mp hv').1
  let(w,e1,e2):=rv.get (i:=i) (x:=V.bl bs[i]) (by simp[hi])
  rw[hv']at e1;cases e1;cases e2;apply oP ?_;have:bs.getD i true=bs[i]:=by simp[hi]
  rw[<- this];show hq
 .
  have I1:L2.Inv X aj σ H { s with heap:=h',toks:=tk}:=I.kept λb o e=>hk b o (λhm=>by
   have:b=s⁻¹:=by simpa using hm
   show absurd (fA e) (by rw[this];show pV _)) (up b o e)
  apply#[.bl (bs.all id),H,I1,?_,q];have e:(List.range its.toArray.size).all (λi=>bs.getD i true)=bs.all id:=by
   rw[d5,aL];rw[BQ];simp only[i8,t5];constructor
   . intro h b hb;let(j,hj):=List.getElem?_of_mem hb;have hj':=(dC.mp hj).1;have:=h j hj';simpa [List.getD,hj]using this
   . intro h i hi;have:=h bs[i] (u8 hi);simpa [List.getD,hi]using this
  rw[e];rfl
abbrev vN:List D->Option (List Bool)
 | []=>![]
 |.bl b::l=>match vN l with |some bs=>!(b::bs) |none=>none
 |_::_=>none
def HD{K:Frag}{M:List Addr}{H:Hp}{l:List D}{xs:List V}{ns:List Bool}(q:aK K M H l xs)(e:vN l=!ns):xs=ns.map V.bl:=by
 induction l generalizing xs ns with
 |nil=>cases q;cases e;rfl
 |cons d l ih=>cases q with |cons r q=>cases d with
  |bl i=>
   have e:(match vN l with |some ns=>!(i::ns) |none=>none)=!ns:=e
   cases e2:vN l with
   |none=>rw[e2]at e;cases e
   |some ns=>rw[e2]at e;cases e;cases r;rw[List.map_cons,ih q e2]
  |_=>cases e
def U1{l:List D}{bs:List Bool}(hc:X.calm=true)(h:vN l=!bs):CallD X z (.builtin "all") [.lst l] (.dat (.bl (bs.all id))):=by
 apply#[_,pQ hc,λg σ As M H vs Q s p k=>?_]
 let(v,rfl,pv):=p.one;let(a,xs,rfl,ha,r):=pv.list;have e:=HD r h;subst e;show#[a,bs,rfl,cA.of ha,k _ H As M s (aq.refl _ _) (.bl _)]
end
abbrev yp:D->String
 |.non=> "NoneType" |.bl _=> "bool" |.int _=> "int" |.str _=> "str" |.tup _=> "tuple" |.lst _=> "list" |.fix _=> "list" |.emp _=> "dict" |.nU _=> "" |.Mz ..=> "dict"
abbrev Gg:D->Value
 |.nU C=>.ref C
 |d=>.type (yp d)
def Dz{M:Model}{A:Around}{E:Value->Shared->Prop}{K:Frag}{x C:Addr}{ox:Obj}{nv:Value}{Q:Unit->Shared->Prop}{s:Shared}(X:K.In s.heap)(I:PySem.W.InstAt s.heap x ox C none)(hb:PySem.W.mroIn K C (.type "BaseException")=!true)(hq:Q () s) :
  wpAny M A (checkBuiltinCall "BaseException.__getattribute__" #[[.ref x,nv],[]]) Q E s:=by
 have kd:builtinKind "BaseException.__getattribute__"=some .slot:=by decide +kernel
 have sd:splitId "BaseException.__getattribute__"=!("BaseException", "__getattribute__"):=by decide +kernel
 let(hv,ge,dr,tk,o'):=s;have l0:=I.type (M:=M);have l1:=PySem.W.looks_mroIn (M:=M) X hb;simp only[checkBuiltinCall];apply aS (aS (l0.at (l1.at ?_)))
 repeat (any_goals (first |assumption |wp_step))
def HF{prog:Program}{w:World}{A:Around}{E:Value->Shared->Prop}{K:Frag}{x C:Addr}{ox:Obj}{name:Str}{g a:Value}{Q:Option Value->Shared->Prop}{s:Shared}(X:K.In s.heap)(I:PySem.W.InstAt s.heap x ox C none)
  (hga:PySem.W.findIn K (.ref C) "__getattribute__"=!(!(.builtin "BaseException.__getattribute__"))) (hk:PySem.W.findIn K (.ref C) "__getattr__"=!none) (hb:PySem.W.mroIn K C (.type "BaseException")=!true) (hf:PySem.W.findObj K C none name=!(.bind g a))
  (h:wpAny (model prog w) A.in1 (call g [a,.ref x,.ref C]) (λv s'=>wpAny (model prog w) A (handedOut v) (λv s''=>Q (!v) s'') (λ_ _=>False) s') (λ_ _=>False) { s with toks:=s.toks+1}) :
  wpAny (model prog w) A (getAttr? (.ref x) name) Q E s:=by
 let(hv,ge,dr,tk,o'):=s;have l0:=I.type (M:=model prog w);have l1:=PySem.W.looks_findIn (M:=model prog w) X hga;have l2:=PySem.W.looks_findIn (M:=model prog w) X hk;have l3:=PySem.W.looks_find (M:=model prog w) X I hf;have f3:=F.excAttr_ValueError.ga.bind (.ref x);apply aS (wpAny_mkText (aS (BS (nV (aS (l0.at (aS (l1.at ?_))))))));apply aS (l2.at (aS (BS (nV ?_))));exact wpAny _ _ (boundAndCalled _ _ _) _ _ _;delta boundAndCalled;apply aS (dS (C8 (codeAny_call_builtin F.excAttr_ValueError.ga.plain F.entry_bexc_ga (Dz X I hb ?_))));apply aS (dS (aS (dS (aS (l0.at (aS (l3.at ?_)))))));apply aS (nV (i9 h (λv s' z=>dS ?_) λ_ _ z=>z.elim))
 show i9 z (λv s'' hv=>dS hv) (λ_ _ z=>z.elim)
def lW{K:Frag}{C:Addr}(k:Hi K C):∃c d cd sl,K.lookup C=!#[c,d,.cls cd,sl]/\PySem.W.clsIn K C=!cd:=by
 let(cd,hc,_):=PySem.W.any_some k.dct;have hc':=hc;delta PySem.W.clsIn at hc;split at hc
 . ext c d cd' sl ho;cases hc;show#[c,d,cd,sl,ho,hc']
 . cases hc
def vO{K:Frag}{x C:Addr}(k:Hi K C):PySem.W.KitX K (.ref x) (.ref C) (λh=>∃ox,PySem.W.InstAt h x ox C none) where
 ty:=by rintro _ _ _ ⟨_,I⟩;show I.type
 it:=λ_ _ X _=>by
  let(c,d,cd,sl,ho,_):=lW k;intro A' Q' E' s' kp q;apply aS ?_;apply wpAny_loadPart (kp _ _ (X _ _ ho)) ?_;show dS q
 ne:=λh tp dd its n sl X htp=>by
  let(c,d,cd,sl',ho,_):=lW k;cases q:(Value.ref C==Value.ref tp)with
  |false=>rfl
  |true=>have e:=Value.ref.inj (beq_iff_eq.mp q);subst e;have y:=(X _ _ ho).symm.trans htp;cases y
 ca:=λ{prog w A E Q s} X #[ox,I] h=>by
  let(_,_,cd,_,_,hc):=lW k;have hf:PySem.W.findObj K C none "__class__"=!(.bind (.builtin "getset_descriptor.__get__") (.builtin "object.__class__")):=by delta PySem.W.findObj;rw[hc,k.cls];simp[k.spc,k.tks]
  apply HF X I k.gga k.gat k.bas hf (C8 ?_);show PySem.W.class_get X I k.mro (PySem.W.handed_on rfl h)
section
def HJ(I:L2.Inv X aj σ H s)(p:Pk X.K M H d v)(r:RelV v u)
  (e:PySem.W.kitOne X.K (Gg d) c=!b) (h:∀tk,Q (.bool b) { s with toks:=tk}):wpAny (~~~2) A (call (.builtin "isinstance") [u,c]) Q E s:=by
 cases d with
 |non=>have q:=p.non;subst q;cases r;show yA PySem.W.kitx_none I.oY True.intro e (λz=>nomatch z) h
 |bl y=>have q:=p.bl;subst q;cases r;show yA PySem.W.kitx_bool I.oY True.intro e (λz=>nomatch z) h
 |int i=>have q:=p.int;subst q;let(t,rfl):=r;show yA PySem.W.kitx_int I.oY True.intro e (λz=>nomatch z) h
 |str y=>have q:=p.str;subst q;let(t,rfl):=r;show yA PySem.W.kitx_str I.oY True.intro e (λz=>nomatch z) h
 |tup l=>let(a,xs,rfl,ha,_):=p.tup;cases r;let(its,_,(o,h1,h2,_),_):=I.tuple ha.sq;show yA PySem.W.kitx_tuple I.oY #[o,h1,h2] e (λz=>nomatch z) h
 |lst l=>let(a,xs,rfl,ha,_):=p.list;cases r;let(its,_,pl,_):=I.list (cA.of ha);let(o,h1,h2,_):=pl.isList;show yA B7 I.oY #[o,h1,h2] e (λz=>nomatch z) h
 |fix l=>let(a,xs,rfl,ha,_):=p.fix;cases r;let(its,_,pl,_):=I.list ha.sq;let(o,h1,h2,_):=pl.isList;show yA B7 I.oY #[o,h1,h2] e (λz=>nomatch z) h
 |emp m=>
  cases p with
  |of q=>
   cases q with
   |emp _ ha=>cases r;let(_,_,_,vs,_,o,es,ep,h1,h2,_):=I.hok _ _ ha;show yA B8 I.oY #[o,h1,h2.1] e (λz=>nomatch z) h
 |nU C=>
  cases p with
  |of q=>
   cases q with
   |nU k _ ha=>cases r;let((o,h1,h2,h3,h4),_):=I.hok _ _ ha;show yA (vO k) I.oY #[o,h1,h2,h3,by rw[h4];trivial] e (λz=>nomatch z) h
 |Mz ks ds=>
  cases p with
  |of q=>
   cases q with
   |Mz _ ha _ _=>cases r;let(_,_,vs,_,o,es,ep,h1,h2,_):=I.hok _ _ ha;show yA B8 I.oY #[o,h1,h2.1] e (λz=>nomatch z) h
def HN:d9 X (.builtin "isinstance") (λxs H Q=>∃x n M d b,xs=[x,.ty n]/\Pk X.K M H d x/\PySem.W.kitOne X.K (Gg d) (.type n)=!b/\Q (.bl b) H):=by intro aj s σ H xs us Q I r h;let(x,n,M,d,b,rfl,p,e,q):=h;let(u,w',rfl,r1,r2):=vals2 r;cases r2;show HJ I p r1 e λtk=>#[.bl b,H,I.tok tk,rfl,q]
def U3(hK:z.K=X.K)(h:aD X z a g r1 g1)(hp:pk r1 g1=!d)(he:∀M H v,Pk X.K M H d v->PySem.W.kitOne X.K (Gg d) (.type n)=!b)
  (hg:Gl X "isinstance") (hm:X.mg "isinstance"=none) (hv:bootBuiltins "isinstance"=!(.builtin "isinstance")) (gT:Gl X T) (mT:X.mg T=none) (vT:bootBuiltins T=!(.type n)) (nT:T≠ "__name__") (dT:(T==(~~~3))=false)
  (hs:starEach [a,.Name T pT] X.env=(false,eval a X.env)::starEach [.Name T pT] X.env):aD X z (.Call (.Name "isinstance" p) [a,.Name T pT] [] pos) g (.dat (.bl b)) g1:=by
 let(t,q,k):=h;have pT':PE X (.Name T pT) (tC (.ty n)):=tT gT mT vT rfl nT dT;apply#[_,iF HN hg hm hv (aY q (aY pT' cG) hs) ⋯ ⋯ hs,λσ As M H Q s kk=>k σ As M H _ s λv H' aC M' s' st R=>?_]
 have p:=hK▸s'.pk (aq.refl _ _) R hp;show#[v,n,M',d,b,rfl,p,he _ _ _ p,kk _ H' aC M' s' st (.bl b)]
end
inductive Fl where
 |nx |rt (r:R) |bk |ct
abbrev kP(z:Z)(M:List Addr)(H:Hp)(E:Ends)(g':G):Fl->Prop
 |.nx=>∀σ' aC M' H',S z g' σ' aC M' H'->aq M H M' H'->E.nx σ' H'
 |.bk=>∀σ' aC M' H',S z g' σ' aC M' H'->aq M H M' H'->E.bk σ' H'
 |.ct=>∀σ' aC M' H',S z g' σ' aC M' H'->aq M H M' H'->E.ct σ' H'
 |.rt r=>∀v σ' aC M' H',S z g' σ' aC M' H'->aq M H M' H'->dh z g' σ' aC M' H' r v->E.rt v H'
abbrev gq(X:Cx)(z:Z)(st:Stmt)(g:G)(f:Fl)(g':G):Prop:=
 ∃t,PS X st t/\∀σ As M H E,S z g σ As M H->kP z M H E g' f->t E σ H
abbrev dZ(X:Cx)(z:Z)(jO:List Stmt)(g:G)(f:Fl)(g':G):Prop:=
 ∃t,tR X jO t/\∀σ As M H E,S z g σ As M H->kP z M H E g' f->t E σ H
section
variable{st:Stmt}
def kP.trans(st:aq M H M1 H1)(h:kP z M H E g' f):kP z M1 H1 E g' f:=by
 cases f with
 |nx=>show λσ' aC M' H' s' st'=>h σ' aC M' H' s' (st.trans st')
 |bk=>show λσ' aC M' H' s' st'=>h σ' aC M' H' s' (st.trans st')
 |ct=>show λσ' aC M' H' s' st'=>h σ' aC M' H' s' (st.trans st')
 |rt r=>show λv σ' aC M' H' s' st' R=>h v σ' aC M' H' s' (st.trans st') R
def HQ:dZ X z [] g .nx g:=#[_,Al,λσ As M H E s k=>k σ As M H s (aq.refl _ _)]
def Nj(h1:gq X z st g .nx g1)(h2:dZ X z jO g1 f g2):dZ X z (st::jO) g f g2:=by let(t1,q1,k1):=h1;let(t2,q2,k2):=h2;show#[_,dP q1 q2,λσ As M H E s k=>k1 σ As M H _ s λσ' aC M' H' s' st'=>k2 σ' aC M' H' E s' (k.trans st')]
def U4(h1:gq X z st g (.rt r) g1):dZ X z (st::jO) g (.rt r) g1:=by let(t1,q1,k1):=h1;show#[_,dP q1 bw,λσ As M H E s k=>k1 σ As M H _ s k]
def U5(h1:gq X z st g .bk g1):dZ X z (st::jO) g .bk g1:=by let(t1,q1,k1):=h1;show#[_,dP q1 bw,λσ As M H E s k=>k1 σ As M H _ s k]
def U6(h1:gq X z st g .ct g1):dZ X z (st::jO) g .ct g1:=by let(t1,q1,k1):=h1;show#[_,dP q1 bw,λσ As M H E s k=>k1 σ As M H _ s k]
def U7(h:aD X z e g r g1):gq X z (.Return (!e) pos) g (.rt r) g1:=by let(t,q,k):=h;show#[_,o7 q,λσ As M H E s kk=>k σ As M H _ s λv H' aC M' s' st R=>kk v σ aC M' H' s' st R]
def Nk(h:aD X z e g r g1)(hs:swapsWith e none pos.line X.env=pure false):gq X z (.Expr e pos) g .nx g1:=by let(t,q,k):=h;show#[_,ou q hs,λσ As M H E s kk=>k σ As M H _ s λv H' aC M' s' st R=>kk σ aC M' H' s' st]
def Rv(h:cM X z c g v g1)(h2:dZ X z (if v then a else b) g1 f g2):gq X z (.If c a b pos) g f g2:=by
 let(t,q,k):=h;let(t2,q2,k2):=h2;cases v with
 |true=>show#[_,m5 q q2 bw,λσ As M H E s kk=>k σ As M H _ s λH' aC M' s' st=>iG (k2 σ aC M' H' E s' (kk.trans st))]
 |false=>show#[_,m5 q bw q2,λσ As M H E s kk=>k σ As M H _ s λH' aC M' s' st=>kM (k2 σ aC M' H' E s' (kk.trans st))]
def Nm(hN:X.N.Nodup)(hi:X.N[i]?=!x)(hx:Loc X.env.scope x)(h:aD X z e g (.dat d) g1)(hs:swapsWith e (!(.Name x pos')) pos.line X.env=pure false)(hf:X.fn x=true\/X.env.scope.names.lookup x=some .local)(hb:i∉z.bor) :
  gq X z (.Assign [.Name x pos'] e pos) g .nx (g1.set i (.dat d)):=by
 let(t,q,k):=h;apply#[_,lR hN hi hx q hs hf,λσ As M H E s kk=>k σ As M H _ s λv H' aC M' s' st R=>?_]
 let(bC,s2):=s'.iJ hb R;show kk _ bC M' H' s2 st
def Np(hN:X.N.Nodup)(hi:X.N[i]?=!x)(hx:Loc X.env.scope x)(h:aD X z e g (.new l) g1)(hl:i<g1.length)(hs:swapsWith e (!(.Name x pos')) pos.line X.env=pure false)(hf:X.fn x=true\/X.env.scope.names.lookup x=some .local)(hb:i∉z.bor) :
  gq X z (.Assign [.Name x pos'] e pos) g .nx (g1.set i (.own l)):=by
 let(t,q,k):=h;apply#[_,lR hN hi hx q hs hf,λσ As M H E s kk=>k σ As M H _ s λv H' aC M' s' st R=>?_]
 let(a,xs,rfl,hm,hA,h0,ha,rr):=R;let(bC,s2):=s'.pI hb hl hm hA h0 ha rr;show kk _ bC M' H' s2 st
end
abbrev tAny(X:Cx)(jO:List Stmt):TS:=λE σ H=>∃t,tR X jO t/\t E σ H
def uo{X:Cx}{jO:List Stmt}:tR X jO (tAny X jO):=λaj s σ H E I h=>let #[t,q,k]:=h;q aj s σ H E I k
section
def drop_cons{α:Type}{l:List α}{n:Nat}{a:α}(h:l[n]?=!a):l.drop n=a::l.drop (n+1):=by let(h1,h2):=dC.mp h;rw[List.drop_eq_getElem_cons h1,h2]
end
abbrev cR(lo:Int)(n:Nat):List D:=(List.range n).map λ(k:Nat)=>D.int (lo+(k:Int))
section
def HR{lo:Int}{n k:Nat}(h:k<n):(cR lo n)[k]?=!(.int (lo+(k:Int))):=by delta cR;rw[nE,CS h];rfl
def vP{lo:Int}{n:Nat}:(cR lo n).length=n:=by delta cR;simp
def DG(h:dg X z [a] g [‹j›] g1)(hg:Gl X "range")(hm:X.mg "range"=none)(hs:starEach [a] X.env=[(false,eval a X.env)])(h1 : -(2 ^ 62)<=j)(h2:j<2 ^ 62) :
  ∃wi,PI X tg (.Call (.Name "range" p) [a] [] rp) wi/\∀σ As M H (Q:It->Hp->Prop),S z g σ As M H->(∀H' aC M',S z g1 σ aC M' H'->aq M H M' H'->Q (Tq 0 j.toNat) H')->wi σ H Q:=by
 let(t,q,k):=h;apply#[_,lT hg hm q hs,λσ As M H Q s kk=>k σ As M H _ s λvs H' aC M' s' st R=>?_]
 cases R with
 |dat r R=>cases R;cases r;show#[j,rfl,h1,h2,kk H' aC M' s' st]
def DK(h:dg X z [a,b] g [‹c›,‹j›] g1)(hg:Gl X "range")(hm:X.mg "range"=none)(hs:starEach [a,b] X.env=[(false,eval a X.env),(false,eval b X.env)])(hs2:starEach [b] X.env=[(false,eval b X.env)])
  (h1 : -(2 ^ 62)<=c/\c<2 ^ 62/\-(2 ^ 62)<=j/\j<2 ^ 62) {tg:Expr} :
  ∃wi,PI X tg (.Call (.Name "range" p) [a,b] [] rp) wi/\∀σ As M H (Q:It->Hp->Prop),S z g σ As M H->(∀H' aC M',S z g1 σ aC M' H'->aq M H M' H'->Q (Tq c (j - c).toNat) H')->wi σ H Q:=by
 let(t,q,k):=h;apply#[_,Dc hg hm q hs hs2,λσ As M H Q s kk=>k σ As M H _ s λvs H' aC M' s' st R=>?_]
 cases R with
 |dat r R=>cases R with |dat r2 R=>cases R;cases r;cases r2;show#[c,j,rfl,h1,kk H' aC M' s' st]
end
section
def DN(hN:X.N[i]?=!x)(hv:g9 X.env.scope x)(hd:(x==(~~~3))=false)(bR:(x==("__classdict__":Str))=false)(hg:g[i]?=!(.own l0))(h:dg X z [e] g [.dat d] g1)(sC:g1[i]?=!(.own l))(hl:l.length<16777216)
  (hbase:attributeBase (.Name x pn) "append" X.env (eval (.Name x pn) X.env)=eval (.Name x pn) X.env)
  (hline:(cF.endLine==bN.line)=true) (hs:starEach [e] X.env=(false,eval e X.env)::starEach [] X.env):aD X z (.Call (.Attribute (.Name x pn) "append" cF) [e] [] bN) g (.dat .non) (g1.set i (.own (l++[d]))):=by
 let(t,q,k):=h;apply#[_,vE AB BH BI jr (bV hN hv hd bR) q hbase (by rw[hs];rfl) hline hs rfl,λσ As M H Q s kk=>?_]
 let(a,xs,e1,e2,e3,e4):=s.sl.at hg;apply#[.ref a,e1,.inl #[rfl,xs,cA.of e3],k σ As M H _ s λvs H' aC M' s' st R=>?_]
 let(b,ys,f1,f2,f3,f4):=s'.sl.at sC;rw[e1]at f1;injection f1 with f1;injection f1 with f1;injection f1 with f1;subst f1;cases R with
 |dat r R=>
  cases R;apply#[a,ys,_,rfl,rfl,f3,by rw[<- f4.length];show hl,?_]
  let(s2,aI):=s'.write sC e1 (f4.append (.cons r .nil));show kk _ _ aC M' s2 (st.trans aI) .non
end
section
def Nq(hN:X.N[i]?=!x)(hv:g9 X.env.scope x)(hd:(x==(~~~3))=false)(bR:(x==("__classdict__":Str))=false)(h:aD X z e g (.dat d) g1)(sC:g1[i]?=!(.own l0))(h2:aD X z ix g1 ‹k› g2)(hg2:g2[i]?=!(.own l))(hj:yJ l.length k=!j)
  (ha:∀v,assign (.Subscript (.Name x pn) ix fY) X.env v=(do
   let ov <- holding [v] (eval (.Name x pn) X.env)
   let iv <- holding [v,ov] (eval ix X.env)
   standAt fY
   holding [v,ov,iv] (setItem ov iv v)
   release [v,ov,iv] []))
  (hs:swapsWithSole [.Subscript (.Name x pn) ix fY] e pos.line X.env=pure false) (hw:swappedStores [.Subscript (.Name x pn) ix fY] e X.env=pure none)
  (h1:(assignEach [.Subscript (.Name x pn) ix fY] X.env).map (·.2)=[assign (.Subscript (.Name x pn) ix fY) X.env]) :
  gq X z (.Assign [.Subscript (.Name x pn) ix fY] e pos) g .nx (g2.set i (.own (l.set j d))):=by
 let(t,q,kk):=h;let(t2,q2,k2):=h2;apply#[_,GF q (Tf (bV hN hv hd bR) q2 set_list ha) hs hw h1,λσ As M H E s kE=>kk σ As M H _ s λv H1 aN M1 s1 dc R1=>?_]
 let(a,xs,e1,e2,e3,e4):=s1.sl.at sC;apply#[.ref a,e1,k2 σ aN M1 H1 _ s1 λw H2 bC M2 s2 aI R2=>?_]
 let(b,ys,f1,f2,f3,f4):=s2.sl.at hg2;rw[e1]at f1;injection f1 with f1;injection f1 with f1;injection f1 with f1;subst f1;have R2':=R2;cases R2';apply#[a,ys,k,j,rfl,rfl,f3,by rw[<- f4.length];show hj,?_]
 let(s3,fE):=s2.write hg2 e1 (aK.set (Rep.stay aI R1) j f4);show kE σ bC M2 _ s3 (dc.trans (aI.trans fE))
def aK.eraseIdx{K:Frag}{M:List Addr}{H:Hp}:∀{ds:List D}{vs:List V} (n:Nat),aK K M H ds vs->aK K M H (ds.eraseIdx n) (vs.eraseIdx n)
 |_,_,_,.nil=>.nil
 |_,_,0,.cons _ t=>t
 |_,_,n+1,.cons r t=>.cons r (aK.eraseIdx n t)
def HS(hN:X.N[i]?=!x)(hv:g9 X.env.scope x)(hd:(x==(~~~3))=false)(bR:(x==("__classdict__":Str))=false)(hg:g[i]?=!(.own l0))(h:dg X z [e] g [‹k›] g1)(sC:g1[i]?=!(.own l))(hk:yJ l.length k=!j)(hy:l[j]?=!d)(hl:l.length<16777216)
  (hbase:attributeBase (.Name x pn) "pop" X.env (eval (.Name x pn) X.env)=eval (.Name x pn) X.env)
  (hline:(cF.endLine==bN.line)=true) (hs:starEach [e] X.env=(false,eval e X.env)::starEach [] X.env):aD X z (.Call (.Attribute (.Name x pn) "pop" cF) [e] [] bN) g (.dat d) (g1.set i (.own (l.eraseIdx j))):=by
 let(t,q,k0):=h;apply#[_,vE AB PySem.F.slot_list_pop PySem.F.type_list_pop G4 (bV hN hv hd bR) q hbase (by rw[hs];rfl) hline hs rfl,λσ As M H Q s kk=>?_]
 let(a,xs,e1,e2,e3,e4):=s.sl.at hg;apply#[.ref a,e1,.inl #[rfl,xs,cA.of e3],k0 σ As M H _ s λvs H' aC M' s' st R=>?_]
 let(b,ys,f1,f2,f3,f4):=s'.sl.at sC;rw[e1]at f1;injection f1 with f1;injection f1 with f1;injection f1 with f1;subst f1;cases R with
 |dat r R=>
  cases R;cases r;let(h1,h2,h3,h4):=tX hk;let(v,g1',Bc):=f4.get hy;let(s2,aI):=s'.write sC e1 (aK.eraseIdx j f4);apply#[a,ys,k,j,v,rfl,rfl,f3,by lia,by lia,by rw[<- f4.length];show h1,g1',?_]
  show kk _ _ aC M' s2 (st.trans aI) (Bc.stay aI)
end
abbrev cL:List R->G->Option G
 | [],_=>![]
 |.dat d::rs,g=>match cL rs g with |some gs=>!(.dat d::gs) |none=>none
 |.var i::rs,g=>match g[i]? with
  |!(.own l)=>match cL rs g with |some gs=>!(.own l::gs) |none=>none
  |_=>none
 |.new _::_,_=>none
abbrev vars:Nat->List R->List (Nat×Nat)
 |_,[]=>[]
 |j,.var i::rs=>(j,i)::vars (j+1) rs
 |j,.dat _::rs=>vars (j+1) rs
 |j,.new _::rs=>vars (j+1) rs
abbrev back:List (Nat×Nat)->G->G->Option G
 | [],_,g=>!g
 | (j,i)::ps,gc,g=>match gc[j]? with
  |!(.own l)=>back ps gc (g.set i (.own l))
  |_=>none
abbrev cS(bor:List Nat)(g':G):R->Option R
 |.dat d=>!(.dat d)
 |.new l=>!(.new l)
 |.var j=>if j∈bor then none else match g'[j]? with |!(.own l)=>!(.new l) |_=>none
abbrev adr(σ:Sg)(i:Nat):Addr:=match σ[i]? with |!(!(.ref a))=>a |_=>0
def jT(h:σ[i]?=!(!(.ref a))):adr σ i=a:=by delta adr;rw[h]
abbrev cz(σ:Sg)(ps:List (Nat×Nat)):List (Nat×Addr):=ps.map λp=>(p.1,adr σ p.2)
abbrev dD(n:Nat)(gs:G):G:=gs++List.replicate (n - gs.length) .no
def Slots.append{K:Frag}{M:List Addr}{H:Hp}{g1 g2:G}{σ1 σ2:Sg}{A1 A2:List Addr}(p:Slots K M H g1 σ1 A1)(q:Slots K M H g2 σ2 A2):Slots K M H (g1++g2) (σ1++σ2) (A1++A2):=by
 induction p with
 |nil=>show q
 |no p ih=>show .no ih
 |dat r p ih=>show .dat r ih
 |own e r p ih=>show .own e r ih
def Slots.nos{K:Frag}{M:List Addr}{H:Hp}:∀(n:Nat),Slots K M H (List.replicate n .no) (List.replicate n none) []
 | 0=>.nil
 |n+1=>by rw[AH];show .no (Slots.nos n)
section
def Slots.Bd{K:Frag}{g:G}{σ:Sg}{As:List Addr}{i j:Nat}{a:Addr}{l l':List D}(q:Slots K M H g σ As)(nd:As.Nodup)(e1:g[i]?=!(.own l))(e2:g[j]?=!(.own l'))(e3:σ[i]?=!(!(.ref a)))(e4:σ[j]?=!(!(.ref a))):i=j:=by
 induction q generalizing i j with
 |nil=>show nomatch (show none=!(Slot.own l)from e1)
 |no q ih=>cases i with
  |zero=>show nomatch (show some Slot.no=!(Slot.own l)from e1)
  |succ i=>cases j with
   |zero=>show nomatch (show some Slot.no=!(Slot.own l')from e2)
   |succ j=>show congrArg (· + 1) (ih nd e1 e2 e3 e4)
 |dat r q ih=>cases i with
  |zero=>show nomatch (show some (Slot.dat _)=!(Slot.own l)from e1)
  |succ i=>cases j with
   |zero=>show nomatch (show some (Slot.dat _)=!(Slot.own l')from e2)
   |succ j=>show congrArg (· + 1) (ih nd e1 e2 e3 e4)
 |@own g σ As b xs ds h r q ih=>
  have no:∀{i:Nat}{l:List D},g[i]?=!(.own l)->σ[i]?=!(!(.ref a))->b=a->False:=λ{i l} e1 e3 e=>by
   let(c,xs,h1,h2,_):=q.at e1;cases (show some (!(V.ref c))=!(!(V.ref a))from h1.symm.trans e3)
   show (gN.mp nd).1 (e▸h2)
  cases i with
  |zero=>cases j with
   |zero=>rfl
   |succ j=>cases (show some (!(V.ref b))=!(!(V.ref a))from e3);show (no e2 e4 rfl).elim
  |succ i=>cases j with
   |zero=>cases (show some (!(V.ref b))=!(!(V.ref a))from e4);show (no e1 e3 rfl).elim
   |succ j=>show congrArg (· + 1) (ih (gN.mp nd).2 e1 e2 e3 e4)
def pR(s:S z g σ As M H)(j:Nat)(q:jS z σ M H rs vs)(e:cL rs g=!gs) :
  gs.length=vs.length/\Slots z.K M H gs (vs.map some) ((cz σ (vars j rs)).map (·.2))/\
  (∀p∈cz σ (vars j rs),∃n l,p.1=j+n/\gs[n]?=!(.own l)/\vs[n]?=!(.ref p.2))/\
  (∀n l a,gs[n]?=!(.own l)->vs[n]?=!(.ref a)->(j+n,a)∈cz σ (vars j rs))/\
  (∀p∈vars j rs,∃l a,g[p.2]?=!(.own l)/\σ[p.2]?=!(!(.ref a))/\a∈As):=by
 induction q generalizing gs j with
 |nil=>cases e;show#[rfl,.nil,(λp hp=>nomatch hp),(λn l a h=>by simp at h),(λp hp=>nomatch hp)]
 |@dat d v rs vs r q ih=>
  delta cL at e;cases e2:cL rs g with
  |none=>rw[e2]at e;cases e
  |some gs=>
   rw[e2]at e;cases e;let(h1,h2,h3,h4,h5):=ih (j+1) e2;apply#[by simp[h1],.dat r h2,λp hp=>?_,λn l a e1 e3=>?_,h5]
   . let(n,l,q1,q2,q3):=h3 p hp;show#[n+1,l,by lia,by simpa using q2,by simpa using q3]
   .
    cases n with
    |zero=>simp at e1
    |succ n=>
     have:=h4 n l a (by simpa using e1) (by simpa using e3)
     rw[show j+(n+1)=j+1+n by lia]
     show this
 |@var i v rs vs r q ih=>
  delta cL at e;split at e
  .
   ext l hg;cases e2:cL rs g with
   |none=>rw[e2]at e;cases e
   |some gs=>
    rw[e2]at e;cases e;let(h1,h2,h3,h4,h5):=ih (j+1) e2;let(a,xs,f1,f2,f3,f4):=s.sl.at hg;have ea:=jT f1;rw[r]at f1;injection f1 with f1;injection f1 with f1;subst f1;have el:cz σ (vars j (.var i::rs))=(j,a)::cz σ (vars (j+1) rs):=by exact (j,adr σ i)::cz σ (vars (j+1) rs)=_;rw[ea]
    rw[el];apply#[by simp[h1],.own f3 f4 h2,λp hp=>?_,λn l' b e1 e3=>?_,λp hp=>?_]
    .
     rcases d6.mp hp with rfl |hp
     . show#[0,l,rfl,rfl,rfl]
     . let(n,l,q1,q2,q3):=h3 p hp;show#[n+1,l,by lia,by simpa using q2,by simpa using q3]
    .
     cases n with
     |zero=>
      have e4:a=b:=by simpa using e3
      subst e4;show dA
     |succ n=>
      have:=h4 n l' b (by simpa using e1) (by simpa using e3)
      rw[show j+(n+1)=j+1+n by lia]
      show bP _ this
    .
     rcases d6.mp (show p∈(j,i)::vars (j+1) rs from hp)with rfl |hp
     . show#[l,a,hg,r,f2]
     . show h5 p hp
  . cases e
def sD{α β:Type}{f:α->β}:∀{l:List α},l.Nodup->(∀a∈l,∀b∈l,f a=f b->a=b)->(l.map f).Nodup
 | [],_,_=>o6
 |x::l,nd,h=>by
  apply gN.mpr #[λhm=>?_,sD (gN.mp nd).2 λa ha b hb=>h a (bP _ ha) b (bP _ hb)]
  let(y,hy,e):=fR.mp hm;have:=h y (bP _ hy) x dA e;show (gN.mp nd).1 (this▸hy)
abbrev sE(z:Z)(σ:Sg)(M:List Addr)(H:Hp)(rs:List R):Z:=#[z.K,H,M,cz σ (vars 0 rs),z.T]
def lX:(sE z σ M H rs).bor=(vars 0 rs).map (·.1):=by exact (cz σ (vars 0 rs)).map (·.1)=_;delta cz;rw[List.map_map];rfl
def S.enter(s:S z g σ As M H){rs:List R}{vs:List V}{gs:G}{N:List Str}(r:jS z σ M H rs vs)(e:cL rs g=!gs)(nd:((vars 0 rs).map (·.2)).Nodup) :
  S (sE z σ M H rs) (dD N.length gs) (start N vs) ((cz σ (vars 0 rs)).map (·.2)) M H:=by
 let(h1,h2,h3,h4,h5):=pR s 0 r e;have eB:(cz σ (vars 0 rs)).map (·.2)=((vars 0 rs).map (·.2)).map (adr σ):=by delta cz;rw[List.map_map,List.map_map];rfl
 have mem:∀b∈(cz σ (vars 0 rs)).map (·.2),b∈As:=λb hb=>by
  let(i,hi,e):=fR.mp hb;let(p,hp,e'):=fR.mp hi;let(l,a,q1,q2,q3):=h5 p hp;subst e';rw[jT q2]at e;subst e;show q3
 have pre:∀{n:Nat}{o:Slot},gs[n]?=!o->(dD N.length gs)[n]?=!o:=λ{n o} q=>by
  delta dD;rw[dL (dC.mp q).1];show q
 have ownB:∀(n:Nat) (l:List D),(dD N.length gs)[n]?=!(.own l)->gs[n]?=!(.own l):=λn l q=>by
  delta dD at q;rcases wS n gs.length with h |h
  . rw[dL h]at q;show q
  . rw[eD h]at q;have:=i7 q;rw[x5]at this;show absurd this.2 ⋯
 have st:∀{n:Nat}{v:V},vs[n]?=!v->(start N vs)[n]?=!(!v):=λ{n v} q=>by
  delta L2.start;rw[dL (by rw[eC];show (dC.mp q).1),nE,q]
  rfl
 have st':∀{n:Nat}{v:V},(start N vs)[n]?=!(!v)->vs[n]?=!v:=λ{n v} q=>by
  delta L2.start at q;rcases wS n vs.length with h |h
  .
   rw[dL (by rw[eC];show h),nE]at q
   cases e:vs[n]? with
   |none=>rw[e]at q;cases q
   |some w=>rw[e]at q;injection q with q
  .
   rw[eD (by rw[eC];show h)]at q
   have:=i7 q;rw[x5]at this;show absurd this.2 ⋯
 apply#[?_,?_,λa ha=>s.sub a (mem a ha),λn a l q1 q2=>.inl ?_,s.live,λb o e _ _=>e,λm hm=>hm,λm hm=>?_,λb hb=>s.sub b (mem b hb),λp hp=>?_,s.tab,λp hp=>s.fF _ (s.tm p hp),s.tt]
 .
  have q:=h2.append (Slots.nos (N.length - gs.length));rw[mE]at q;have e':start N vs=vs.map some++List.replicate (N.length - gs.length) none:=by delta L2.start;rw[h1]
  rw[e'];show q
 .
  rw[eB];apply sD nd λi hi j hj e=>?_
  let(p,hp,rfl):=fR.mp hi;let(p',lK,rfl):=fR.mp hj;let(l,a,q1,q2,q3):=h5 p hp;let(l',a',Dl,Be,Rx):=h5 p' lK;rw[jT q2,jT Be]at e;subst e;show s.sl.Bd s.nd q1 Dl q2 Be
 . have hm:=h4 n l a (ownB n l q1) (st' q2);rw[At]at hm;show#[tP hm,tP hm]
 . show λe=>s.fresh e hm
 . let(n,l,q1,q2,q3):=h3 p hp;rw[At]at q1;rw[q1];show#[st q3,l,pre q2]
def Slots.transfer{K:Frag}{M M2:List Addr}{H H':Hp}(st:aq M H M2 H'){g g2:G}{σ:Sg}{As:List Addr}(q:Slots K M H g σ As)(hl:g2.length=g.length)
  (h1:∀(i:Nat) (l:List D) (a:Addr),g[i]?=!(.own l)->σ[i]?=!(!(.ref a))->∃l' xs',g2[i]?=!(.own l')/\H' a=!(.lst xs')/\aK K M2 H' l' xs')
  (h2:∀(i:Nat) (o:Slot),g[i]?=!o->(∀l,o≠.own l)->g2[i]?=!o):Slots K M2 H' g2 σ As:=by
 induction q generalizing g2 with
 |nil=>cases g2 with
  |nil=>show .nil
  |cons a b=>cases hl
 |no q ih=>cases g2 with
  |nil=>cases hl
  |cons a b=>
   cases (show some a=!Slot.no from h2 0 .no rfl (λl z=>nomatch z))
   show .no (ih (BF hl) (λi l a e1 e2=>h1 (i+1) l a e1 e2) λi o e1 e2=>h2 (i+1) o e1 e2)
 |@dat g σ As v d r q ih=>cases g2 with
  |nil=>cases hl
  |cons a b=>
   cases (show some a=!(Slot.dat d)from h2 0 (.dat d) rfl (λl z=>nomatch z))
   show .dat (r.stay st) (ih (BF hl) (λi l a e1 e2=>h1 (i+1) l a e1 e2) λi o e1 e2=>h2 (i+1) o e1 e2)
 |@own g σ As a0 xs ds e0 r q ih=>cases g2 with
  |nil=>cases hl
  |cons a b=>
   let(l',xs',e1,e2,e3):=h1 0 _ a0 rfl rfl;cases (show some a=!(Slot.own l')from e1)
   show .own e2 e3 (ih (BF hl) (λi l a e1 e2=>h1 (i+1) l a e1 e2) λi o e1 e2=>h2 (i+1) o e1 e2)
def sF:∀{ps:List (Nat×Nat)}{g gO:G},back ps gc g=!gO->(ps.map (·.2)).Nodup->gO.length=g.length/\
  (∀i,i∉ps.map (·.2)->gO[i]?=g[i]?)/\∀p∈ps,p.2<g.length->∃l,gc[p.1]?=!(.own l)/\gO[p.2]?=!(.own l)
 | [],g,gO,e,_=>by cases e;show#[rfl,λ_ _=>rfl,λp hp=>nomatch hp]
 | (j,i)::ps,g,gO,e,nd=>by
  delta back at e;split at e
  .
   ext l hg;let(h1,h2,h3):=sF e (gN.mp nd).2;apply#[by rw[h1,u4],λk hk=>?_,λp hp n9=>?_]
   .
    have n1:k∉ps.map (·.2):=λz=>hk (bP _ z)
    have n2:i≠k:=λz=>hk (z▸dA)
    rw[h2 k n1,eJ n2]
   .
    rcases d6.mp hp with rfl |hp
    . apply#[l,hg,?_];have hlt':=n9;rw[h2 i (gN.mp nd).1,eQ hlt']
    . show h3 p hp (by rw[u4];show n9)
  . cases e
def S.leave(s:S z g σ As M H){rs:List R}{vs:List V}{gs gc gO:G}{σc:Sg}{Ac Mc:List Addr}{Hc:Hp}{r r':R}{v:V}(rw':jS z σ M H rs vs)(e:cL rs g=!gs)(nd:((vars 0 rs).map (·.2)).Nodup)
  (sc:S (sE z σ M H rs) gc σc Ac Mc Hc) (st:aq M H Mc Hc) (q:dh (sE z σ M H rs) gc σc Ac Mc Hc r v) (hb:back (vars 0 rs) gc g=!gO) (hr:cS ((vars 0 rs).map (·.1)) gc r=!r') :
  ∃M2,S z gO σ As M2 Hc/\aq M H M2 Hc/\dh z gO σ As M2 Hc r' v:=by
 let(h1,h2,h3,h4,h5):=pR s 0 rw' e;let(b1,b2,b3):=sF hb nd;have hM:=sc.fF;have core:∀M2:List Addr,(∀m∈M,m∈M2)->(∀m∈M2,m∈Mc)->aq M H M2 Hc->S z gO σ As M2 Hc:=by
  intro M2 m1 m2 aI;apply#[s.sl.transfer aI b1 (λi l a e1 e2=>?_) (λi o e1 e2=>?_),s.nd,λa ha=>m1 a (s.sub a ha),λi a l e1 e2=>?_,λm hm=>sc.live m (m2 m hm),λb o e1 e2 et=>?_,λm hm=>m1 m (s.fF m hm),s.m0,s.bm,λp hp=>#[(s.fK p hp).1,?_],sc.tab,s.tm,s.tt]
  .
   by_cases hi:i∈(vars 0 rs).map (·.2)
   . let(p,hp,rfl):=fR.mp hi;let(l',q1,q2):=b3 p hp (dC.mp e1).1;have hl:(p.1,adr σ p.2)∈cz σ (vars 0 rs):=tP hp;let(c1,c2):=sc.fK _ hl;let(a',xs,d1,d2,d3,d4):=sc.sl.at q1;rw[c1]at d1;injection d1 with d1;injection d1 with d1;injection d1 with d1;rw[jT e2]at d1;subst d1;show#[l',xs,q2,d3,aK.stay (aq.less m2) d4]
   .
    let(a',xs,d1,d2,d3,d4):=s.sl.at e1;rw[e2]at d1;injection d1 with d1;injection d1 with d1;injection d1 with d1;subst d1;apply#[l,xs,by rw[b2 i hi];show e1,sc.keep a _ d3 (λhB=>?_) (s.Rt d3),d4.stay aI]
    let(p,hp,ep):=fR.mp (show a∈(cz σ (vars 0 rs)).map (·.2)from hB);let(p',lK,rfl):=fR.mp hp;let(l2,a2,q1,q2,q3):=h5 p' lK;have yz:=ep;rw[jT q2]at yz;subst yz;have:=s.sl.Bd s.nd e1 q1 e2 q2;show hi (this▸tP lK)
  .
   apply (b2 i λhi=>?_).trans e1
   let(p,hp,rfl):=fR.mp hi;let(l2,a2,q1,q2,q3):=h5 p hp;rw[e1]at q1;injection q1 with q1;show e2 l2 q1
  .
   by_cases hi:i∈(vars 0 rs).map (·.2)
   . let(p,hp,rfl):=fR.mp hi;let(l2,a2,q1,q2,q3):=h5 p hp;show s.own p.2 a l2 q1 e2
   . rw[b2 i hi]at e1;show s.own i a l e1 e2
  .
   have e3:=s.keep b o e1 e2 et;apply sc.keep b o e3 (λhB=>?_) et
   let(p,hp,ep):=fR.mp (show b∈(cz σ (vars 0 rs)).map (·.2)from hB);let(p',lK,rfl):=fR.mp hp;let(l2,a2,q1,q2,q3):=h5 p' lK;have yz:=ep;rw[jT q2]at yz;subst yz;rcases s.own p'.2 a2 l2 q1 q2 with w |w
   . show e2 w.2
   . rw[w]at e1;cases e1
  .
   by_cases hi:p.1∈(vars 0 rs).map (·.2)
   . let(p',lK,e'):=fR.mp hi;have e'':=e';let(l2,a2,q1,q2,q3):=h5 p' lK;let(l',Dl,Be):=b3 p' lK (dC.mp q1).1;show#[l',by rw[<- e''];show Be]
   . rw[b2 p.1 hi];show (s.fK p hp).2
 have new:∀(a:Addr) (xs:List V) (l:List D),v=.ref a->a∈Mc->H a=none->Hc a=!(.lst xs)->aK z.K Mc Hc l xs->∃M2,S z gO σ As M2 Hc/\aq M H M2 Hc/\dh z gO σ As M2 Hc (.new l) v:=by
  intro a xs l ev hm h0 hx rr;have m2:∀m∈a::M,m∈Mc:=λm hm'=>(d6.mp hm').elim (λe=>e▸hm) (hM m)
  have aI:=st.trans (aq.less m2);apply#[a::M,core _ (λm hm'=>bP _ hm') m2 aI,aI,a,xs,ev,dA,λhA=>?_,s.bO h0,hx,rr.stay (aq.less m2)]
  show s.fresh h0 (s.sub a hA)
 cases r with
 |dat d=>cases hr;have aI:=st.trans (aq.less hM);show#[M,core M (λm h=>h) hM aI,aI,Rep.stay (aq.less hM) q]
 |new l=>cases hr;let(a,xs,rfl,c1,c2,c3,c4,c5):=q;show new a xs l rfl c1 c3 c4 c5
 |var j=>
  let(l,q1,q2):=q;have hr:(if j∈(vars 0 rs).map (·.1)then none else match gc[j]? with |!(.own l)=>!(R.new l) |_=>none)=!r':=hr
  split at hr
  . cases hr
  .
   ext hj;rw[q1]at hr;cases hr;let(a,xs,d1,d2,d3,d4):=sc.sl.at q1;rw[q2]at d1;injection d1 with d1;injection d1 with d1;subst d1;apply new a xs l rfl (sc.sub a d2) ?_ d3 d4;rcases sc.own j a l q1 q2 with w |w
   . have w':=w.1;rw[lX]at w';show absurd w' hj
   . show w
end
def jS.length(q:jS z σ M H rs vs):vs.length=rs.length:=by
 induction q with
 |nil=>rfl
 |dat r q ih=>show congrArg (· + 1) ih
 |var r q ih=>show congrArg (· + 1) ih
abbrev Ry(K:Frag)(N:List Str)(np:Nat)(run:List Nat->G->R->G->Prop):Sp:=λvs H Q _=>
 vs.length=np/\∃(z:Z) (g g':G) (As M:List Addr) (r:R),z.K=K/\S z g (start N vs) As M H/\run z.bor g r g'/\
  ∀v σ' aC M' H',S z g' σ' aC M' H'->aq M H M' H'->dh z g' σ' aC M' H' r v->Q v H'
section
variable{run:List Nat->G->R->G->Prop}
def Bg(F:jP X.prog X.w X.K X.mg X.base yL k f fd ps (Ry X.K N ps.length run))(hK:z.K=X.K)(hr:cC k X.A)(hg:Gl X x)(hm:X.mg x=!(.ref f))(hk:PySem.W.keepIn X.K (.ref f)=true)(hb:Binds X.K fd ps [])
  (ha:dg X z (e::es) g rs g1) (aL:rs.length=ps.length) (hl:cL rs g1=!gs) (nd:((vars 0 rs).map (·.2)).Nodup) (hrun:run ((vars 0 rs).map (·.1)) (dD N.length gs) r gc) (HW:back (vars 0 rs) gc g1=!gO) (ho:cS ((vars 0 rs).map (·.1)) gc r=!r')
  (jN:(x==(~~~3))=false) (he:starEach (e::es) X.env=(false,eval e X.env)::starEach es X.env) (lN:(backTo pos (starEach es X.env)).any (·.1)=false) :
  aD X z (.Call (.Name x p) (e::es) [] pos) g r' gO:=by
 let(t,q,kk):=ha;apply#[_,Ar F hr hg hm hk hb .nil Rm q jN he lN,λσ As M H Q s kq=>kk σ As M H _ s λvs H1 aN M1 s1 dc R1=>?_]
 have hv:=R1.length;have ee:=s1.enter (N:=N) R1 hl nd;apply#[by rw[mE,hv];show aL,sE z σ M1 H1 rs,dD N.length gs,gc,_,M1,r,hK,by rw[mE];show ee,by rw[lX];show hrun,λv σ' aC M' H' s' st' R'=>?_]
 let(M2,s2,aI,R2):=s1.leave R1 hl nd s' st' R' HW ho;show kq v H' aN M2 s2 (dc.trans aI) R2
def HX{P:Program}{w:World}{K:Frag}{mg:Str->Option Value}{base:Heap}{qual:Str}{st:Stmt}(F:Lv K x qual st f fd)(Sc:bY N ps (aE st))
  (h:∀(bE:Value) (A:Around) (outer:List Env) (s:Shared) (H:Hp) (E:XK),PySem.W.codeIn K bE qual=true->cC k (A.deeper (envOfC qual (aE st) s⁻¹ f bE))->
   ∀(z:Z) (g:G) (r:R) (g':G),z.K=K->run z.bor g r g'->∃fl,dZ (gI yL P w K mg base N qual (aE st) f bE A outer s H E).tU z (bA st) g fl g'/\(fl=.rt r\/(fl=.nx/\r=.dat .non))) :
  jP P w K mg base yL (k+1) f fd ps (Ry K N ps.length run):=by
 let(oc,od,kV,doc,pm,an,bE,ct,osl,rfl,lk,bR):=F.ex;apply Rl lk bR Sc (λvs H Q E q=>q.1) ?_
 rintro A outer s H vs Q E hr ⟨_,z,g,g',As,M,r,hK,hs,hrun,hQ⟩;let(fl,(t,q,kk),hfl):=h bE A outer s H E bR hr z g r g' hK hrun;apply#[t,q.tU,kk _ As M H _ hs ?_];rcases hfl with rfl |⟨rfl,rfl⟩
 . show λv σ' aC M' H' s' st' R'=>hQ v σ' aC M' H' s' st' R'
 . show λσ' aC M' H' s' st'=>hQ .non σ' aC M' H' s' st' .non
end
inductive Tg where
 |nm (i:Nat) |tp (is:List Nat)
abbrev lY:List Nat->List D->G->G
 |i::is,d::ds,g=>lY is ds (g.set i (.dat d))
 | [],_,g=>g
 |_::_,[],g=>g
abbrev Tg.ix:Tg->List Nat
 |.nm i=>[i]
 |.tp is=>is
abbrev Tg.set:Tg->D->G->Option G
 |.nm i,d,g=>!(g.set i (.dat d))
 |.tp is,.tup ds,g=>if ds.length=is.length then some (lY is ds g)else none
 |.tp is,.lst ds,g=>if ds.length=is.length then some (lY is ds g)else none
 |.tp _,_,_=>none
abbrev sG(is:List Nat)(σ σ':Sg):Prop:=σ'.length=σ.length/\∀j,j∉is->σ'[j]?=σ[j]?
def sG.refl(is:List Nat)(σ:Sg):sG is σ σ:=#[rfl,λ_ _=>rfl]
def sG.trans{is:List Nat}{σ σ1 σ2:Sg}(a:sG is σ σ1)(b:sG is σ1 σ2):sG is σ σ2:=#[b.1.trans a.1,λj h=>(b.2 j h).trans (a.2 j h)]
def sG.mono(h:∀i∈is,i∈js)(a:sG is σ σ'):sG js σ σ':=#[a.1,λj hj=>a.2 j λz=>hj (h j z)]
abbrev eH(X:Cx)(z:Z)(tg:Expr)(T:Tg):Prop:=∃t,PG X tg t/\∀d g g',T.set d g=!g'->∀v σ As M H (Q:Sg->Hp->Prop),S z g σ As M H->Rep z.K M H d v->(∀σ' aC,S z g' σ' aC M H->sG T.ix σ σ'->Q σ' H)->t v σ H Q
structure jB(X:Cx)(x:Str)(i:Nat):Prop where
 nd:X.N.Nodup
 ix:X.N[i]?=!x
 lc:Loc X.env.scope x
 fn:X.fn x=true\/X.env.scope.names.lookup x=some .local
section
def ZV(h:jB X x i)(hb:i∉z.bor):eH X z (.Name x pos) (.nm i):=
 #[_,eG h.nd h.ix h.lc h.fn,λd g g' e v σ As M H Q s r k=>by
  cases e;let(aC,s'):=s.iJ hb r;show k _ aC s' #[by rw[u4],λj hj=>by rw[eJ (λe=>hj (by rw[<- e];show i3.mpr rfl))]]]
inductive kU(X:Cx):List Expr->List Nat->Prop
 |nil:kU X [] []
 |cons {x:Str}{p:Pos}{i:Nat}{es:List Expr}{is:List Nat}:jB X x i->kU X es is->kU X (.Name x p::es) (i::is)
def kU.plain(h:kU X es is):(assignEach es X.env).length=is.length/\(assignEach es X.env).findIdx? (·.1)=none:=by
 induction h with
 |nil=>show#[rfl,rfl]
 |cons _ _ ih=>
  apply#[?_,?_]
  . exact (assignEach _ X.env).length+1=_;rw[ih.1];rfl
  . exact List.findIdx? _ ((false,assign _ X.env)::assignEach _ X.env)=none;rw[List.findIdx?_cons,ih.2];rfl
def kU.pgs(h:kU X es is)(hb:∀i∈is,i∉z.bor):∃t,Yg X es t/\∀ds vs g σ As M H (Q:Sg->Hp->Prop),ds.length=is.length->S z g σ As M H->aK z.K M H ds vs->(∀σ' aC,S z (lY is ds g) σ' aC M H->sG is σ σ'->Q σ' H)->t vs σ H Q:=by
 induction h with
 |nil=>
  apply#[_,Am,λds vs g σ As M H Q hl s r k=>?_]
  cases r with
  |nil=>show#[rfl,k σ As s (sG.refl _ _)]
  |cons _ _=>simp at hl
 |@cons x p i es is hn hs ih=>
  let(t,q,kk):=ih λj hj=>hb j (bP _ hj)
  apply#[_,o8 (eG hn.nd hn.ix hn.lc hn.fn) q rfl,λds vs g σ As M H Q hl s r k=>?_]
  cases r with
  |nil=>simp at hl
  |@cons d ds v vs r rs=>
   let(aN,s1):=s.iJ (hb i dA) r;apply#[v,vs,rfl,kk ds vs _ _ aN M H Q (by simpa using hl) s1 rs λσ' aC s' a=>k σ' aC s' ?_]
   apply sG.trans #[by rw[u4],λj hj=>?_] (a.mono λj hj=>bP _ hj)
   rw[eJ (λe=>hj (by rw[<- e];show dA))]
def yR(ne:l≠it)(n:Nat):∀(i:Nat) (s:Shared) (Q:List Value->Shared->Prop),s.heap.IsListIter it l i->s.heap.IsList l xs->i+n=xs.size->
  (∀h',h'.IsListIter it l xs.size->Heap.SameBut it s.heap h'->Q (xs.toList.drop i) { s with heap:=h'})->wpAny (model prog w) A (draw (.ref it) n) Q E s:=by
 induction n with
 |zero=>
  intro i s Q hit _ hi k;have e:xs.toList.drop i=[]:=B3 (by rw[oD];lia)
  have q:=k s.heap (by rw[<- hi];show hit) (Heap.SameBut.refl ..)
  rw[e]at q;show dS q
 |succ n ih=>
  intro i s Q hit hl hi k;have n9:i<xs.size:=by lia
  apply aS (wpAny_pyNext_list_item hit hl (x:=xs[i]) (by simp[n9]) λh1 b1 c1=>?_)
  apply aS (nV (ih (i+1) _ _ b1 (hl.extBut c1.extBut ne) ⋯ λh2 b2 c2=>dS ?_))
  have q:=k h2 b2 (c1.trans c2);rw[List.drop_eq_getElem_cons (by rw[oD];show n9)]at q
  show q
def vQ(hh:A.handled=none)(hl:s.heap.IsList l xs)
  (k:∀h',Heap.ExtBut s⁻¹ s.heap h'->Q xs.toList { s with heap:=h'}):wpAny (model prog w) A (unpackItems (.ref l) xs.size none) Q E s:=by
 have ne:l≠s⁻¹:=by let(o,ho,_):=hl;show kS (fA ho)
 apply aS ?_;apply aS (wpAny_specialOf hl.typeIs slot_list_iter.lookup ?_);apply dS ?_;apply aS (nV (wpAny_pyIter_list hl ?_));apply aS (nV (yR ne xs.size 0 _ _ #[_,fN _ rfl,rfl,rfl] (hl.push _) (At _) λh1 b1 c1=>?_))
 rw[kA ⋯];apply aS (nV (wpAny_pyNext_list_end hh b1 ((hl.push _).extBut c1.extBut ne) ⋯ λh2 e2=>?_))
 show dS (k h2 λb o nb e=>e2 b o nb (c1.extBut b o nb (dE _ e)))
abbrev gSeq(K:Frag)(n:Nat)(t:Td):TG:=λv σ H Q=>∃a xs,v=.ref a/\(jG K H a xs\/cA K H a xs)/\xs.length=n/\t xs σ H Q
def U8(hc:X.calm=true)(h:Yg X es t)(hn:(assignEach es X.env).length=n)(cO:(assignEach es X.env).findIdx? (·.1)=none):PG X (.Tuple es k pos) (gSeq X.K n t):=by
 intro aj s σ H v u Q I r hw;let(a,xs,e1,hq,hl,hw):=hw;rcases hq with hq |hq
 . show GD hc h hn cO aj s σ H v u Q I r #[a,xs,e1,hq,hl,hw]
 .
  subst e1;cases r;let(its,rv,pl,hz):=I.list hq;apply aS (u7 ?_);delta unpack;rw[cO,show (assignEach es X.env).length=its.toArray.size by rw[hn,<- hl,rv.length,d5]]
  apply aS (nV (vQ (I.ok.hd hc) pl.isList λh' hx=>?_))
  have I1:=I.kept (t':=s.toks) λb o e=>hx b o (kS (fA e)) e
  show h aj _ σ H xs _ Q I1 (by simpa using rv) hw
def ZW(hc:X.calm=true)(hK:z.K=X.K)(h:kU X es is)(hb:∀i∈is,i∉z.bor):eH X z (.Tuple es k pos) (.tp is):=by
 let(t,q,kk):=h.pgs hb;apply#[_,U8 hc q h.plain.1 h.plain.2,λd g g' e v σ As M H Q s r k=>?_]
 cases d with
 |tup ds=>
  have e:(if ds.length=is.length then some (lY is ds g)else none)=!g':=e
  by_cases hl:ds.length=is.length
  .
   rw[i5 hl]at e;cases e;cases r with
   |@tup _ a xs ha rr=>show#[a,xs,rfl,.inl (hK▸ha.sq),by rw[<- rr.length];show hl,kk ds xs g σ As M H Q hl s rr k]
  . rw[kA hl]at e;cases e
 |lst ds=>
  have e:(if ds.length=is.length then some (lY is ds g)else none)=!g':=e
  by_cases hl:ds.length=is.length
  .
   rw[i5 hl]at e;cases e;cases r with
   |@lst _ a xs ha rr=>show#[a,xs,rfl,.inr (cA.of ha.2),by rw[<- rr.length];show hl,kk ds xs g σ As M H Q hl s rr k]
  . rw[kA hl]at e;cases e
 |_=>cases e
abbrev Jt(J:It)(ao:List D)(K:Frag)(M1:List Addr)(H1:Hp):Prop:=
 ∀M2 H2,aq M1 H1 M2 H2->(∀n d,ao[n]?=!d->J.go n H2/\∀x H',J.Yh n H2 x H'->∀(z:Z) g σ As,z.K=K->S z g σ As M2 H2->S z g σ As M2 H'/\aq M2 H2 M2 H'/\Rep K M2 H' d x)/\J.stop ao.length H2
abbrev cT(X:Cx)(z:Z)(tg iter:Expr)(g:G)(ao:List D)(g1:G):Prop:=
 ∃wi,PI X tg iter wi/\∀σ As M H (R:It->Hp->Prop),S z g σ As M H->(∀J H' aC M',S z g1 σ aC M' H'->aq M H M' H'->Jt J ao z.K M' H'->R J H')->wi σ H R
def U9(hK:z.K=X.K)(h:aD X z iter g (.dat (.tup l)) g1):cT X z tg iter g l g1:=by
 let(t,q,k):=h;apply#[_,GK q,λσ As M H R s kk=>k σ As M H _ s λv H1 aN M1 s1 dc r=>?_]
 have r':=r;cases r' with
 |@tup _ a xs ha rr=>
  apply#[a,rfl,#[xs,hK▸ha.sq],kk _ H1 aN M1 s1 dc λM2 H2 aI=>?_]
  have ha2:TupAt z.K M2 H2 a xs:=by
   rcases ha with ⟨na,hr⟩ |hk
   . show .inl (aI.rd na hr)
   . show .inr hk
  have HY:=rr.stay aI;apply#[λn d hd=>?_,xs,hK▸ha2.sq,by rw[rr.length];show eA _]
  let(x,e1,e2):=HY.get hd;apply#[#[xs,x,hK▸ha2.sq,e1],λy H' hy z' g' σ' aC _ s'=>?_]
  let(rfl,hy):=hy;have:=hy xs (hK▸ha2.sq);rw[e1]at this;cases this;show#[s',aq.refl _ _,e2]
def Va(h:aD X z iter g (.dat (.lst l)) g1):cT X z tg iter g l g1:=by
 let(t,q,k):=h;apply#[_,kL q,λσ As M H R s kk=>k σ As M H _ s λv H1 aN M1 s1 dc r=>?_]
 have r':=r;cases r' with
 |@lst _ a xs ha rr=>
  apply#[a,rfl,#[xs,cA.of ha.2],kk _ H1 aN M1 s1 dc λM2 H2 aI=>?_]
  have ha2:=(aI _ _ ha.2 ha.1).1;have HY:=rr.stay aI;apply#[λn d hd=>?_,xs,cA.of ha2,by rw[rr.length];show eA _]
  let(x,e1,e2):=HY.get hd;apply#[#[xs,x,cA.of ha2,e1],λy H' hy z' g' σ' aC _ s'=>?_]
  let(rfl,hy):=hy;have:=hy xs (cA.of ha2);rw[e1]at this;cases this;show#[s',aq.refl _ _,e2]
def Vb(hK:z.K=X.K)(h:aD X z iter g (.dat (.fix l)) g1):cT X z tg iter g l g1:=by
 let(t,q,k):=h;apply#[_,kL q,λσ As M H R s kk=>k σ As M H _ s λv H1 aN M1 s1 dc r=>?_]
 have r':=r;cases r' with
 |@fix _ a xs ha rr=>
  apply#[a,rfl,#[xs,hK▸ha.sq],kk _ H1 aN M1 s1 dc λM2 H2 aI=>?_]
  have ha2:su z.K M2 H2 a xs:=by
   rcases ha with ⟨na,o,hr⟩ |hk
   . show .inl #[(aI _ _ hr na).2,o,(aI _ _ hr na).1]
   . show .inr hk
  have HY:=rr.stay aI;apply#[λn d hd=>?_,xs,hK▸ha2.sq,by rw[rr.length];show eA _]
  let(x,e1,e2):=HY.get hd;apply#[#[xs,x,hK▸ha2.sq,e1],λy H' hy z' g' σ' aC _ s'=>?_]
  let(rfl,hy):=hy;have:=hy xs (hK▸ha2.sq);rw[e1]at this;cases this;show#[s',aq.refl _ _,e2]
def Ia{lo:Int}{n:Nat}{K:Frag}{M:List Addr}{H:Hp}:Jt (Tq lo n) (cR lo n) K M H:=λM2 H2 _=>by
 apply#[λk d hd=>?_,?_]
 .
  have hk:k<n:=by have:=(dC.mp hd).1;rw[vP]at this;show this
  rw[HR hk]at hd;cases hd;apply#[hk,λx H' hx z' g' σ' aC _ s'=>?_]
  let(rfl,rfl):=hx;show#[s',aq.refl _ _,.int _]
 . exact n<=(cR lo n).length;rw[vP];show eA _
def Nr(h:dg X z [a] g [‹j›] g1)(hg:Gl X "range")(hm:X.mg "range"=none)(hs:starEach [a] X.env=[(false,eval a X.env)])(h1 : -(2 ^ 62)<=j)(h2:j<2 ^ 62) :
  cT X z tg (.Call (.Name "range" p) [a] [] rp) g (cR 0 j.toNat) g1:=by
 let(wi,q,k):=DG h hg hm hs h1 h2;show#[wi,q,λσ As M H R s kk=>k σ As M H _ s λH' aC M' s' st=>kk _ H' aC M' s' st Ia]
def Nt(h:dg X z [a,b] g [‹c›,‹j›] g1)(hg:Gl X "range")(hm:X.mg "range"=none)(hs:starEach [a,b] X.env=[(false,eval a X.env),(false,eval b X.env)])(hs2:starEach [b] X.env=[(false,eval b X.env)])
  (h1 : -(2 ^ 62)<=c/\c<2 ^ 62/\-(2 ^ 62)<=j/\j<2 ^ 62):cT X z tg (.Call (.Name "range" p) [a,b] [] rp) g (cR c (j - c).toNat) g1:=by
 let(wi,q,k):=DK h hg hm hs hs2 h1;show#[wi,q,λσ As M H R s kk=>k σ As M H _ s λH' aC M' s' st=>kk _ H' aC M' s' st Ia]
inductive fQ(X:Cx)(z:Z)(body:List Stmt)(T:Tg):List D->G->Fl->G->Prop
 |nil {g:G}:fQ X z body T [] g .nx g
 |next {d:D}{l:List D}{g g0 g1 g2:G}{f:Fl}:T.set d g=!g0->dZ X z body g0 .nx g1->fQ X z body T l g1 f g2->fQ X z body T (d::l) g f g2
 |cont {d:D}{l:List D}{g g0 g1 g2:G}{f:Fl}:T.set d g=!g0->dZ X z body g0 .ct g1->fQ X z body T l g1 f g2->fQ X z body T (d::l) g f g2
 |brk {d:D}{l:List D}{g g0 g1:G}:T.set d g=!g0->dZ X z body g0 .bk g1->fQ X z body T (d::l) g .nx g1
 |ret {d:D}{l:List D}{g g0 g1:G}{r:R}:T.set d g=!g0->dZ X z body g0 (.rt r) g1->fQ X z body T (d::l) g (.rt r) g1
def ar1{i m n:Nat}(h:i+m=n)(hi:i<n):m - 1<m/\i+1+(m - 1)=n:=by lia
def jt{J:It}{ao:List D}{K:Frag}{M1:List Addr}{H1 H0:Hp}{σ0:Sg}{Qn:Sg->Hp->Prop}{Body:V->Sg->Hp->(Sg->Hp->Prop)->Prop}(hJ:Jt J ao K M1 H1)(P:List D->Sg->Hp->Prop)(h0:P ao σ0 H0)
  (st:∀l σ' H',P l σ' H'->∃M2,aq M1 H1 M2 H') (fin:∀σ' H',P [] σ' H'->Qn σ' H')
  (turn:∀d l σ' H',P (d::l) σ' H'->∀x H2,(∀M2,aq M1 H1 M2 H'->∀(z:Z) g σ As,z.K=K->S z g σ As M2 H'->S z g σ As M2 H2/\aq M2 H' M2 H2/\Rep K M2 H2 d x)->Body x σ' H2 (P l)) :
  ∃W:Nat->Nat->Sg->Hp->Prop,(∃m,W 0 m σ0 H0)/\∀i m σ' H',W i m σ' H'->
   (J.stop i H'/\Qn σ' H')\/(J.go i H'/\∃Nn:Sg->Hp->Prop,(∀Av Aw,Nn Av Aw->∃m',m'<m/\W (i+1) m' Av Aw)/\∀x H2,J.Yh i H' x H2->Body x σ' H2 Nn):=by
 apply#[λi m σ' H'=>i+m=ao.length/\P (ao.drop i) σ' H',#[ao.length,At _,h0],?_]
 rintro i m σ' H' ⟨ZX,p⟩;let(M2,aI):=st _ _ _ p;let(hgo,hstop):=hJ M2 H' aI;cases e:ao[i]? with
 |none=>
  have hi:i=ao.length:=by have:=rV.mp e;lia
  subst hi;rw[List.drop_length]at p;show .inl #[hstop,fin _ _ p]
 |some d=>rw[drop_cons e]at p;have hi:=(dC.mp e).1;have hm:=ar1 ZX hi;show .inr #[(hgo i d e).1,P (ao.drop (i+1)),λAv Aw hN=>#[m - 1,hm.1,hm.2,hN],λx H2 hx=>turn d _ σ' H' p x H2 λM3 fE=>((hJ M3 H' fE).1 i d e).2 x H2 hx]
def Vc(hp:PassesOwn (~~~2) X.A X.env X.xe)(hc:X.calm=true)(hw:cT X z tg iter g ao g1)(ht:eH X z tg T)(hb:fQ X z body T ao g1 f g')(hs:∀y,foldedSetIterable iter X.env y=pure y) :
  gq X z (.For tg iter body [] pos) g f g':=by
 let(wi,q,k):=hw;let(t,qt,kt):=ht;apply#[_,o9 hp hc q qt uo hs,λσ As M H E s kk=>k σ As M H _ s λJ H1 aN M1 s1 dc hJ=>?_]
 apply jt hJ (λl σ2 H2=>∃g2 bC M2,S z g2 σ2 bC M2 H2/\aq M1 H1 M2 H2/\fQ X z body T l g2 f g') #[g1,aN,M1,s1,aq.refl _ _,hb] (by rintro _ _ _ ⟨_,_,M2,_,aI,_⟩;show#[M2,aI]) ?_ ?_
 . rintro σ2 H2 ⟨g2,bC,M2,s2,aI,lo⟩;cases lo;show kk σ2 bC M2 H2 s2 (dc.trans aI)
 .
  rintro d l σ2 H2 ⟨g2,bC,M2,s2,aI,lo⟩ x H' yl;let(s3,fE,rx):=yl M2 aI z g2 σ2 bC rfl s2;have kk':=(kk.trans dc).trans (aI.trans fE);have ZZ:=aI.trans fE;cases lo with
  |next e0 b h=>
   apply kt d g2 _ e0 x σ2 bC M2 H' _ s3 rx λσ' aC s' _=>?_
   let(t,q,kb):=b;show#[t,q,kb _ aC M2 H' _ s' λσ4 gP M4 H4 s4 sH=>#[_,gP,M4,s4,ZZ.trans sH,h]]
  |cont e0 b h=>
   apply kt d g2 _ e0 x σ2 bC M2 H' _ s3 rx λσ' aC s' _=>?_
   let(t,q,kb):=b;show#[t,q,kb _ aC M2 H' _ s' λσ4 gP M4 H4 s4 sH=>#[_,gP,M4,s4,ZZ.trans sH,h]]
  |brk e0 b=>
   apply kt d g2 _ e0 x σ2 bC M2 H' _ s3 rx λσ' aC s' _=>?_
   let(t,q,kb):=b;show#[t,q,kb _ aC M2 H' _ s' λσ4 gP M4 H4 s4 sH=>kk' σ4 gP M4 H4 s4 sH]
  |ret e0 b=>
   apply kt d g2 _ e0 x σ2 bC M2 H' _ s3 rx λσ' aC s' _=>?_
   let(t,q,kb):=b;show#[t,q,kb _ aC M2 H' _ s' λv σ4 gP M4 H4 s4 sH R=>kk' v σ4 gP M4 H4 s4 sH R]
end
abbrev gC(k:Nat)(g:G):G:=g++(List.replicate k .no++[.own []])
abbrev bJ(X:Cx)(z:Z)(ifs:List Expr)(g:G)(b:Bool)(g':G):Prop:=
 ∃t,jQ X ifs t/\∀σ As M H (Q:Bool->Hp->Prop),S z g σ As M H->(∀H' aC M',S z g' σ aC M' H'->aq M H M' H'->Q b H')->t σ H Q
def Nu:bJ X z [] g true g:=#[_,pF,λσ As M H Q s k=>k H As M s (aq.refl _ _)]
def Nv(h:cM X z c g b g'):bJ X z [c] g b g':=let #[t,q,k]:=h;#[t,G6 q,k]
inductive kW(T:Tg)(last:Nat)(gY:G->Bool->G->Prop)(sI:G->D->G->Prop):List D->G->G->Prop
 |nil {g:G}:kW T last gY sI [] g g
 |skip:T.set d g=!g1->gY g1 false g2->kW T last gY sI l g2 g'->kW T last gY sI (d::l) g g'
 |take:T.set d g=!g1->gY g1 true g2->sI g2 e g3->g3[last]?=!(.own acc)->acc.length<16777216->kW T last gY sI l (g3.set last (.own (acc++[e]))) g'->kW T last gY sI (d::l) g g'
section
def S.extend(s:S z g σ As M H)(hm:a∈M)(hA:a∉As)(h0:z.H0 a=none)(h:H a=!(.lst xs))(r:aK z.K M H l xs) :
  S z (g++(List.replicate k .no++[.own l])) (σ++(List.replicate k none++[!(.ref a)])) (As++([]++[a])) M H:=by
 have hl:=s.sl.length;apply#[s.sl.append ((Slots.nos k).append (.own h r .nil)),?_,λb hb=>?_,λi b l' e1 e2=>?_,s.live,s.keep,s.fF,s.m0,s.bm,λp hp=>?_,s.tab,s.tm,s.tt]
 .
  rw[A8];apply sB.mpr #[s.nd,gN.mpr #[by simp,o6],λx hx y hy e=>?_]
  rw[i3.mp hy]at e;show hA (e▸hx)
 .
  rcases mP.mp hb with q |q
  . show s.sub b q
  . rw[A8]at q;rw[i3.mp q];show hm
 .
  rcases wS i g.length with hi |hi
  . rw[dL hi]at e1;rw[dL ⋯]at e2;show s.own i b l' e1 e2
  .
   rw[eD hi]at e1;rw[eD ⋯]at e2;rcases wS (i - g.length) k with hk |hk
   .
    rw[dL (by rw[hZ];show hk)]at e1
    have:=i7 e1;rw[x5]at this;show absurd this.2 ⋯
   .
    rw[eD (by rw[hZ];lia),hZ]at e2
    have e3:i - σ.length - k=0:=by
     rcases Nat.eq_zero_or_pos (i - σ.length - k)with q |q
     . show q
     . rw[Ap (Nat.succ_le_of_lt q)]at e2;cases e2
    rw[e3]at e2;have e4:=e2;injection e4 with e4;injection e4 with e4;injection e4 with e4;show .inr (e4▸h0)
 . let(q1,l',q2):=s.fK p hp;show#[by rw[dL (dC.mp q1).1];show q1,l',by rw[dL (dC.mp q2).1];show q2]
def Slots.split{K:Frag}{g1 g2:G}{σ:Sg}{As:List Addr}(q:Slots K M H (g1++g2) σ As):∃σ1 σ2 A1 A2,σ=σ1++σ2/\As=A1++A2/\Slots K M H g1 σ1 A1/\Slots K M H g2 σ2 A2:=by
 induction g1 generalizing σ As with
 |nil=>show#[[],_,[],_,rfl,rfl,.nil,q]
 |cons o g1 ih=>cases q with
  |no q=>let(s1,s2,a1,a2,rfl,rfl,h1,h2):=ih q;show#[_::s1,s2,a1,a2,rfl,rfl,.no h1,h2]
  |dat r q=>let(s1,s2,a1,a2,rfl,rfl,h1,h2):=ih q;show#[_::s1,s2,a1,a2,rfl,rfl,.dat r h1,h2]
  |own e r q=>let(s1,s2,a1,a2,rfl,rfl,h1,h2):=ih q;show#[_::s1,s2,_::a1,a2,rfl,rfl,.own e r h1,h2]
def S.shrink{gb:G}{τ:Sg}{l:List D}{i:Nat}{a:Addr}(s:S z gb (σ++τ) As M H)(hz:∀p∈z.lent,p.1<σ.length)(hi:σ.length<=i)(e1:gb[i]?=!(.own l))(e2:(σ++τ)[i]?=!(!(.ref a))) :
  ∃A1,S z (gb.take σ.length) σ A1 M H/\a∈M/\a∉A1:=by
 have hl:=s.sl.length;rw[fI]at hl;have q:=s.sl;rw[<- AL σ.length gb]at q;let(σ1,σ2,A1,A2,h1,h2,h3,h4):=q.split;have l1:=h3.length;rw[AA,Nat.min_eq_left ⋯]at l1;let(rfl,rfl):=CU h1 l1;subst h2;have hA2:a∈A2:=by
  let(b,xs,f1,f2,_):=h4.at (by rw[List.getElem?_drop,Nat.add_sub_cancel' hi];show e1)
  rw[eD hi]at e2;rw[e2]at f1;injection f1 with f1;injection f1 with f1;injection f1 with f1;show f1▸f2
 have tk:∀(j:Nat) (o:Slot),(gb.take σ.length)[j]?=!o->gb[j]?=!o/\j<σ.length:=λj o e=>by
  have hj:=(dC.mp e).1;rw[AA]at hj;have hj':=eM hj (Nat.min_le_left _ _);rw[wP hj']at e;show#[e,hj']
 apply#[A1,#[h3,(sB.mp s.nd).1,λb hb=>s.sub b (i6 _ hb),λj b l' c1 c2=>?_,s.live,s.keep,s.fF,s.m0,s.bm,λp hp=>?_,s.tab,s.tm,s.tt],s.sub a (eP _ hA2),λhA=>(sB.mp s.nd).2.2 a hA a hA2 rfl]
 . let(c3,c4):=tk j _ c1;show s.own j b l' c3 (by rw[dL c4];show c2)
 . let(c1,l',c2):=s.fK p hp;have lK:=hz p hp;rw[dL lK]at c1;show#[c1,l',by rw[wP lK];show c2]
def bW(h:sG is (σ++τ) σ')(hi:∀i∈is,σ.length<=i):∃τ',σ'=σ++τ':=by
 apply#[σ'.drop σ.length,?_];have e:σ'.take σ.length=σ:=by
  refine List.ext_getElem?;intro j;rcases wS j σ.length with hj |hj
  . rw[wP hj,h.2 j (λz=>Nat.not_lt.mpr (hi j z) hj),dL hj]
  . rw[Ap (by rw[AA];show sK (Nat.min_le_left _ _) hj),Ap hj]
 have:=(AL σ.length σ').symm;rw[e]at this;show this
end
section
abbrev vR(X:Cx)(tg:Expr):TG:=λv σ H Q=>∃t,PG X tg t/\t v σ H Q
def iM:PG X tg (vR X tg):=λaj s σ H v u Q I r h=>let #[t,q,k]:=h;q aj s σ H v u Q I r k
abbrev vU(X:Cx)(ifs:List Expr):TT:=λσ H Q=>∃t,jQ X ifs t/\t σ H Q
def iN:jQ X ifs (vU X ifs):=λaj s σ H Q I h=>let #[t,q,k]:=h;q aj s σ H Q I k
abbrev yS(X:Cx)(e:Expr):TE:=λσ H Q=>∃t,PE X e t/\t σ H Q
def lZ:PE X e (yS X e):=λaj s σ H Q I h=>let #[t,q,k]:=h;q aj s σ H Q I k
def pS(hw:cT X z tg iter g ao g1)(ht:∀b:Bk,eH (X.blk N' scope b) z tg T)(hT:∀i∈T.ix,g1.length<=i/\i<g1.length+k)
  (hcp:kW T (g1.length+k) (λg b g'=>∀bk:Bk,bJ (X.blk N' scope bk) z ifs g b g') (λg d g'=>∀bk:Bk,aD (X.blk N' scope bk) z aX g (.dat d) g') ao (gC k g1) gE) (hacc:gE[g1.length+k]?=!(.own acc)) :
  ∃wi,PI X tg iter wi/\∀σ As M H Q,S z g σ As M H->Kn z (gE.take g1.length) σ M H (.new acc) Q->sf X k wi (λb=>vR (X.blk N' scope b) tg) (λb=>vU (X.blk N' scope b) ifs) (λD b=>vH D (yS (X.blk N' scope b) aX)) σ H Q:=by
 let(wi,q,kw):=hw;apply#[wi,q,λσ As M H Q s kq=>kw σ As M H _ s λJ H1 aN M1 s1 dc hJ D hD=>?_]
 have hl:=s1.sl.length;have hz:∀p∈z.lent,p.1<σ.length:=λp hp=>(dC.mp (s1.fK p hp).1).1
 have Nx:∀i∈T.ix,σ.length<=i:=λi hi=>by rw[<- hl];show (hT i hi).1
 have dQ:g1.length+k∉T.ix:=λh=>pV _ (hT _ h).2
 have s1':=s1.aO (xs:=[]) hD;have h0:=s1.bO hD;have nA:D∉aN:=λh=>s1.fresh hD (s1.sub D h)
 have sb:=s1'.extend (k:=k) dA nA h0 aA .nil;have m6:(σ++(List.replicate k none++[!(V.ref D)]))[g1.length+k]?=!(!(V.ref D)):=by
  rw[hl,eD (vS _ _),mI,eD (by rw[hZ];show eA _),hZ,A9]
  rfl
 apply jt hJ (λl σ' H'=>∃gb Ab Mb τ,S z gb σ' Ab Mb H'/\aq M1 H1 Mb H'/\σ'=σ++τ/\σ'[g1.length+k]?=!(!(.ref D))/\kW T (g1.length+k) (λg b g'=>∀bk:Bk,bJ (X.blk N' scope bk) z ifs g b g') (λg d g'=>∀bk:Bk,aD (X.blk N' scope bk) z aX g (.dat d) g') l gb gE)
  #[_,_,_,_,sb,aq.aO hD,rfl,m6,hcp] (by rintro _ _ _ ⟨_,_,M2,_,_,aI,_⟩;show#[M2,aI]) ?_ ?_
 . rintro σ' H' ⟨gb,Ab,Mb,τ,s2,aI,rfl,yq,cp⟩;cases cp;let(a,xs,f1,f2,f3,f4):=s2.sl.at hacc;rw[yq]at f1;injection f1 with f1;injection f1 with f1;injection f1 with f1;subst f1;let(A1,s3,m3,n3):=s2.shrink hz ⋯ hacc yq;rw[<- hl]at s3;show kq _ H' A1 Mb s3 (dc.trans aI) #[D,xs,rfl,m3,n3,h0,f3,f4]
 .
  rintro d l σ' H' ⟨gb,Ab,Mb,τ,s2,aI,rfl,yq,cp⟩ x H2 yl bk _;let(s3,fE,rx):=yl Mb aI z gb (σ++τ) Ab rfl s2;let(t,qt,kt):=ht bk;cases cp with
  |skip e0 hc rest=>
   apply#[t,qt,kt d gb _ e0 x _ Ab Mb H2 _ s3 rx λσ4 gP s4 ag=>?_]
   let(τ',rfl):=bW ag Nx;let(t2,q2,k2):=hc bk;apply#[t2,q2,k2 _ gP Mb H2 _ s4 λH5 rA M5 s5 iE=>?_]
   apply kM #[_,rA,M5,τ',s5,(aI.trans fE).trans iE,rfl,?_,rest];rw[ag.2 _ dQ];show yq
  |take e0 hc he ha hz' rest=>
   apply#[t,qt,kt d gb _ e0 x _ Ab Mb H2 _ s3 rx λσ4 gP s4 ag=>?_]
   let(τ',rfl):=bW ag Nx;let(t2,q2,k2):=hc bk;let(t3,q3,k3):=he bk;have Ny:(σ++τ')[g1.length+k]?=!(!(V.ref D)):=by rw[ag.2 _ dQ];show yq
   apply#[t2,q2,k2 _ gP Mb H2 _ s4 λH5 rA M5 s5 iE=>iG #[t3,q3,k3 _ rA M5 H5 _ s5 λv H6 Nz M6 s6 Ib R6=>?_]]
   let(a,xs,f1,f2,f3,f4):=s6.sl.at ha;rw[Ny]at f1;injection f1 with f1;injection f1 with f1;injection f1 with f1;subst f1;let(s7,Z0):=s6.write ha Ny (f4.append (.cons R6 .nil));apply#[xs,f3,by rw[<- f4.length];show hz',_,Nz,M6,τ',s7,(((aI.trans fE).trans iE).trans Ib).trans Z0,rfl,Ny,rest]
def NB(B:aJ X.env.scope scope)(hc:X.calm=true)(hN:Names X.N N' scope k)(hw:cT X z tg iter g ao g1)(ht:∀b:Bk,eH (X.blk N' scope b) z tg T)(hT:∀i∈T.ix,g1.length<=i/\i<g1.length+k)
  (hcp:kW T (g1.length+k) (λg b g'=>∀bk:Bk,bJ (X.blk N' scope bk) z ifs g b g') (λg d g'=>∀bk:Bk,aD (X.blk N' scope bk) z aX g (.dat d) g') ao (gC k g1) gE) (hacc:gE[g1.length+k]?=!(.own acc))
  (hs:∀x,foldedSetIterable iter X.env x=pure x):aD X z (.ListComp aX [#[tg,iter,ifs,0]] scope pos) g (.new acc) (gE.take g1.length):=by
 let(wi,q,kk):=pS hw ht hT hcp hacc;show#[_,Ax B hc hN q (λb=>#[iM,iN,lZ]) hs,kk]
def NC(B:aJ X.env.scope scope)(hc:X.calm=true)(hN:Names X.N N' scope k)(hw:cT X z tg iter g ao g1)(ht:∀b:Bk,eH (X.blk N' scope b) z tg T)(hT:∀i∈T.ix,g1.length<=i/\i<g1.length+k)
  (hcp:kW T (g1.length+k) (λg b g'=>∀bk:Bk,bJ (X.blk N' scope bk) z ifs g b g') (λg d g'=>∀bk:Bk,aD (X.blk N' scope bk) z aX g (.dat d) g') ao (gC k g1) gE) (hacc:gE[g1.length+k]?=!(.own acc))
  (Dm:X.N.Nodup) (hy:X.N[i]?=!y) (hl:X.env.scope.names.lookup y=some .local) (hb:i∉z.bor) (hi:i<(gE.take g1.length).length)
  (hsw:swapsWith (.ListComp aX [#[tg,iter,ifs,0]] scope pos) (!(.Name y py)) fY.line X.env=pure true)
  (hs:∀x,foldedSetIterable iter X.env x=pure x):gq X z (.Assign [.Name y py] (.ListComp aX [#[tg,iter,ifs,0]] scope pos) fY) g .nx ((gE.take g1.length).set i (.own acc)):=by
 let(wi,q,kk):=pS hw ht hT hcp hacc;apply#[_,Ay B hc hN q (λb=>#[iM,iN,lZ]) Dm hy hl hsw hs,λσ As M H E s kE=>kk σ As M H _ s λv H' aC M' s' st R=>?_]
 let(a,xs,rfl,hm,hA,h0,ha,rr):=R;let(bC,s2):=s'.pI hb hi hm hA h0 ha rr;show kE _ bC M' H' s2 st
end
section
def aD.run(he:aD X z e g r g1)(I:L2.Inv X aj σ H s)(st:S z g σ As M H)
  (k:∀v u s1 H1 aN M1,L2.Inv X aj σ H1 s1->RelV v u->S z g1 σ aN M1 H1->aq M H M1 H1->dh z g1 σ aN M1 H1 r v->Post u s1):wpAny (~~~2) X.A (eval e X.env) Post X.xe s:=by
 let(t,q,kt):=he;show bU (q aj s σ H (λv H1=>∃aN M1,S z g1 σ aN M1 H1/\aq M H M1 H1/\dh z g1 σ aN M1 H1 r v) I (kt σ As M H _ st λv H1 aN M1 s1 dc R=>#[aN,M1,s1,dc,R])) (by rintro u s1 ⟨v,H1,I1,r1,aN,M1,q1,q2,q3⟩;show k v u s1 H1 aN M1 I1 r1 q1 q2 q3)
def nW.run(ho:nW X z f d1 d2 r)(I:L2.Inv X aj σ H s)(st:S z g σ As M H)(p1:Pk z.K M H d1 v1)(p2:Pk z.K M H d2 v2)(r1:RelV v1 u1)(r2:RelV v2 u2)
  (k:∀v u s1 H1 aN M1,L2.Inv X aj σ H1 s1->RelV v u->S z g σ aN M1 H1->aq M H M1 H1->dh z g σ aN M1 H1 r v->Post u s1):wpAny (~~~2) X.A (f u1 u2) Post X.xe s:=by
 let(rr,o,ko):=ho;show bU (o aj s σ H v1 v2 u1 u2 (λv H1=>∃aN M1,S z g σ aN M1 H1/\aq M H M1 H1/\dh z g σ aN M1 H1 r v) I r1 r2 (ko g σ As M H v1 v2 _ st p1 p2 λv H1 aN M1 s1 dc R=>#[aN,M1,s1,dc,R])) (by rintro u s1 ⟨v,H1,I1,r1,aN,M1,q1,q2,q3⟩;show k v u s1 H1 aN M1 I1 r1 q1 q2 q3)
def aD.of (h:∀(aj: ~~~1) (s:Shared) (σ:Sg) (As M:List Addr) (H:Hp) (Post:Value->Shared->Prop),L2.Inv X aj σ H s->S z g σ As M H->
  (∀v u s1 H1 aN M1,L2.Inv X aj σ H1 s1->RelV v u->S z g1 σ aN M1 H1->aq M H M1 H1->dh z g1 σ aN M1 H1 r v->Post u s1)->wpAny (~~~2) X.A (eval e X.env) Post X.xe s):aD X z e g r g1:=
 #[λσ H Q=>∃As M,S z g σ As M H/\Kn z g1 σ M H r Q,by rintro aj s σ H Q I ⟨As,M,st,k⟩;show h aj s σ As M H _ I st λv u s1 H1 aN M1 I1 r1 q1 q2 q3=>#[v,H1,I1,r1,k v H1 aN M1 q1 q2 q3],λσ As M H Q s k=>#[As,M,s,k]]
def cM.of (h:∀(aj: ~~~1) (s:Shared) (σ:Sg) (As M:List Addr) (H:Hp) (Post:Bool->Shared->Prop),L2.Inv X aj σ H s->S z g σ As M H->
  (∀s1 H1 aN M1,L2.Inv X aj σ H1 s1->S z g1 σ aN M1 H1->aq M H M1 H1->Post b s1)->wpAny (~~~2) X.A (isTrue e X.env (eval e X.env)) Post X.xe s):cM X z e g b g1:=
 #[λσ H Q=>∃As M,S z g σ As M H/\(∀H' aC M',S z g1 σ aC M' H'->aq M H M' H'->Q b H'),by rintro aj s σ H Q I ⟨As,M,st,k⟩;show h aj s σ As M H _ I st λs1 H1 aN M1 I1 q1 q2=>#[H1,I1,k H1 aN M1 q1 q2],λσ As M H Q s k=>#[As,M,s,k]]
inductive uq(X:Cx)(z:Z):D->List CmpOp->List Expr->G->Bool->G->Prop
 |last {d1 d2:D}{op:CmpOp}{b:Expr}{g g1:G}{c:Bool}:aD X z b g (.dat d2) g1->nW X z (compareOp op) d1 d2 (.dat (.bl c))->uq X z d1 [op] [b] g c g1
 |stop {d1 d2:D}{op op':CmpOp}{ops:List CmpOp}{b b':Expr}{bs:List Expr}{g g1:G}:aD X z b g (.dat d2) g1->nW X z (compareOp op) d1 d2 (.dat (.bl false))->uq X z d1 (op::op'::ops) (b::b'::bs) g false g1
 |link {d1 d2:D}{op op':CmpOp}{ops:List CmpOp}{b b':Expr}{bs:List Expr}{g g1 g2:G}{c:Bool}:aD X z b g (.dat d2) g1->nW X z (compareOp op) d1 d2 (.dat (.bl true))->uq X z d2 (op'::ops) (b'::bs) g1 c g2->uq X z d1 (op::op'::ops) (b::b'::bs) g c g2
def Vd(h:uq X z d1 ops bs g c g'):∀(aj: ~~~1) (s:Shared) (σ:Sg) (H:Hp) (As M:List Addr) (Post:Value->Shared->Prop) (v1:V) (u1:Value),L2.Inv X aj σ H s->S z g σ As M H->Rep z.K M H d1 v1->RelV v1 u1->
  (∀s1 H' aC M',L2.Inv X aj σ H' s1->S z g' σ aC M' H'->aq M H M' H'->Post (.bool c) s1)->wpAny (~~~2) X.A (compareChain pos u1 ops (evalEach bs X.env)) Post X.xe s:=by
 induction h with
 |@last d1 d2 op b g g1 c he ho=>
  intro aj s σ H As M Post v1 u1 I st r rv k;apply chain_last (he.run I st λv u s1 H1 aN M1 I1 r1 q1 q2 q3=>ho.run I1 q1 (.of (r.stay q2)) (.of q3) rv r1 λv' u' s2 H2 bC M2 I2 r2 p1 p2 p3=>?_)
  rw[fL p3]at r2;cases r2;show k s2 H2 bC M2 I2 p1 (q2.trans p2)
 |@stop d1 d2 op op' ops b b' bs g g1 he ho=>
  intro aj s σ H As M Post v1 u1 I st r rv k;apply chain_link (he.run I st λv u s1 H1 aN M1 I1 r1 q1 q2 q3=>ho.run I1 q1 (.of (r.stay q2)) (.of q3) rv r1 λv' u' s2 H2 bC M2 I2 r2 p1 p2 p3=>?_)
  rw[fL p3]at r2;cases r2;show oP (ite_ff (k s2 H2 bC M2 I2 p1 (q2.trans p2)))
 |@link d1 d2 op op' ops b b' bs g g1 g2 c he ho hch ih=>
  intro aj s σ H As M Post v1 u1 I st r rv k;apply chain_link (he.run I st λv u s1 H1 aN M1 I1 r1 q1 q2 q3=>ho.run I1 q1 (.of (r.stay q2)) (.of q3) rv r1 λv' u' s2 H2 bC M2 I2 r2 p1 p2 p3=>?_)
  rw[fL p3]at r2;cases r2;show oP (ite_tt (ih aj s2 σ H2 bC M2 Post v u I2 p1 (Rep.stay p2 q3) r1 λs3 H3 yT M3 I3 w1 w2=>k s3 H3 yT M3 I3 w1 ((q2.trans p2).trans w2)))
def NK(h:uq X z d1 ops bs g c g'):∀(aj: ~~~1) (s:Shared) (σ:Sg) (H:Hp) (As M:List Addr) (Post:Bool->Shared->Prop) (v1:V) (u1:Value),L2.Inv X aj σ H s->S z g σ As M H->Rep z.K M H d1 v1->RelV v1 u1->
  (∀s1 H' aC M',L2.Inv X aj σ H' s1->S z g' σ aC M' H'->aq M H M' H'->Post c s1)->wpAny (~~~2) X.A (testChain pos u1 ops (evalEach bs X.env)) Post X.xe s:=by
 induction h with
 |@last d1 d2 op b g g1 c he ho=>
  intro aj s σ H As M Post v1 u1 I st r rv k;apply test_last (he.run I st λv u s1 H1 aN M1 I1 r1 q1 q2 q3=>ho.run I1 q1 (.of (r.stay q2)) (.of q3) rv r1 λv' u' s2 H2 bC M2 I2 r2 p1 p2 p3=>?_)
  rw[fL p3]at r2;cases r2;show oP (k s2 H2 bC M2 I2 p1 (q2.trans p2))
 |@stop d1 d2 op op' ops b b' bs g g1 he ho=>
  intro aj s σ H As M Post v1 u1 I st r rv k;apply test_link (he.run I st λv u s1 H1 aN M1 I1 r1 q1 q2 q3=>ho.run I1 q1 (.of (r.stay q2)) (.of q3) rv r1 λv' u' s2 H2 bC M2 I2 r2 p1 p2 p3=>?_)
  rw[fL p3]at r2;cases r2;show oP (ite_ff (k s2 H2 bC M2 I2 p1 (q2.trans p2)))
 |@link d1 d2 op op' ops b b' bs g g1 g2 c he ho hch ih=>
  intro aj s σ H As M Post v1 u1 I st r rv k;apply test_link (he.run I st λv u s1 H1 aN M1 I1 r1 q1 q2 q3=>ho.run I1 q1 (.of (r.stay q2)) (.of q3) rv r1 λv' u' s2 H2 bC M2 I2 r2 p1 p2 p3=>?_)
  rw[fL p3]at r2;cases r2;show oP (ite_tt (ih aj s2 σ H2 bC M2 Post v u I2 p1 (Rep.stay p2 q3) r1 λs3 H3 yT M3 I3 w1 w2=>k s3 H3 yT M3 I3 w1 ((q2.trans p2).trans w2)))
def Ic(ha:aD X z a g (.dat d1) g1)(h:uq X z d1 (Ve::Vf::ops) (b1::b2::bs) g1 c g2)(hm:lastMarks (Ve::Vf::ops) (b1::b2::bs)=false):aD X z (.Compare a (Ve::Vf::ops) (b1::b2::bs) pos) g (.dat (.bl c)) g2:=
 aD.of λaj s σ As M H Post I st k=>Compare_chain (ha.run I st λv u s1 H1 aN M1 I1 r1 q1 q2 q3=>Vd h aj s1 σ H1 aN M1 Post v u I1 q1 q3 r1 λs2 H2 bC M2 I2 p1 p2=>k (.bl c) (.bool c) s2 H2 bC M2 I2 rfl p1 (q2.trans p2) (.bl c)) hm
def Ie(ha:aD X z a g (.dat d1) g1)(h:uq X z d1 (Ve::Vf::ops) (b1::b2::bs) g1 c g2)(hm:lastMarks (Ve::Vf::ops) (b1::b2::bs)=false):cM X z (.Compare a (Ve::Vf::ops) (b1::b2::bs) pos) g c g2:=
 cM.of λaj s σ As M H Post I st k=>isTrue_chain (ha.run I st λv u s1 H1 aN M1 I1 r1 q1 q2 q3=>NK h aj s1 σ H1 aN M1 Post v u I1 q1 q3 r1 λs2 H2 bC M2 I2 p1 p2=>k s2 H2 bC M2 I2 p1 (q2.trans p2)) hm
inductive nY(X:Cx)(z:Z)(c:Expr)(body:List Stmt):Nat->G->Fl->G->Prop
 |done {n:Nat}{g g1:G}:cM X z c g false g1->nY X z c body n g .nx g1
 |next {n:Nat}{g g1 g2 g3:G}{f:Fl}:cM X z c g true g1->dZ X z body g1 .nx g2->nY X z c body n g2 f g3->nY X z c body (n+1) g f g3
 |cont {n:Nat}{g g1 g2 g3:G}{f:Fl}:cM X z c g true g1->dZ X z body g1 .ct g2->nY X z c body n g2 f g3->nY X z c body (n+1) g f g3
 |brk {n:Nat}{g g1 g2:G}:cM X z c g true g1->dZ X z body g1 .bk g2->nY X z c body n g .nx g2
 |ret {n:Nat}{g g1 g2:G}{r:R}:cM X z c g true g1->dZ X z body g1 (.rt r) g2->nY X z c body n g (.rt r) g2
abbrev Z1(X:Cx)(e:Expr):TT:=λσ H Q=>∃t,PT X e t/\t σ H Q
def Vg{e:Expr}:PT X e (Z1 X e):=λaj s σ H Q I h=>let #[t,q,k]:=h;q aj s σ H Q I k
def Ig{ce:Expr}{body:List Stmt}{n:Nat}{f:Fl}{g':G}(hp:PassesOwn (~~~2) X.A X.env X.xe)(h:nY X z ce body n g f g'):gq X z (.While ce body [] pos) g f g':=by
 apply#[_,GJ hp Vg uo,λσ As M H E s k=>?_]
 apply#[λm σ2 H2=>∃g2 bC M2,S z g2 σ2 bC M2 H2/\aq M H M2 H2/\nY X z ce body m g2 f g',#[n,g,As,M,s,aq.refl _ _,h],?_]
 rintro m σ2 H2 ⟨g2,bC,M2,s2,aI,w⟩;cases w with
 |done hc=>let(t,q,kt):=hc;show#[t,q,kt σ2 bC M2 H2 _ s2 λH3 yT M3 s3 fE=>kM (k σ2 yT M3 H3 s3 (aI.trans fE))]
 |@next m' _ g3 g4 _ _ hc hb w'=>
  let(t,q,kt):=hc;let(tb,qb,kb):=hb;apply#[t,q,kt σ2 bC M2 H2 _ s2 λH3 yT M3 s3 fE=>iG #[λσ' H'=>∃g2 bC M2,S z g2 σ' bC M2 H'/\aq M H M2 H'/\nY X z ce body m' g2 f g',λσ' H' hN=>#[m',oI _,hN],tb,qb,kb σ2 yT M3 H3 _ s3 λσ4 gP M4 H4 s4 sH=>?_]]
  show#[g4,gP,M4,s4,(aI.trans fE).trans sH,w']
 |@cont m' _ g3 g4 _ _ hc hb w'=>
  let(t,q,kt):=hc;let(tb,qb,kb):=hb;apply#[t,q,kt σ2 bC M2 H2 _ s2 λH3 yT M3 s3 fE=>iG #[λσ' H'=>∃g2 bC M2,S z g2 σ' bC M2 H'/\aq M H M2 H'/\nY X z ce body m' g2 f g',λσ' H' hN=>#[m',oI _,hN],tb,qb,kb σ2 yT M3 H3 _ s3 λσ4 gP M4 H4 s4 sH=>?_]]
  show#[g4,gP,M4,s4,(aI.trans fE).trans sH,w']
 |brk hc hb=>let(t,q,kt):=hc;let(tb,qb,kb):=hb;show#[t,q,kt σ2 bC M2 H2 _ s2 λH3 yT M3 s3 fE=>iG #[λ_ _=>False,λσ' H' hN=>hN.elim,tb,qb,kb σ2 yT M3 H3 _ s3 λσ4 gP M4 H4 s4 sH=>k σ4 gP M4 H4 s4 ((aI.trans fE).trans sH)]]
 |ret hc hb=>let(t,q,kt):=hc;let(tb,qb,kb):=hb;show#[t,q,kt σ2 bC M2 H2 _ s2 λH3 yT M3 s3 fE=>iG #[λ_ _=>False,λσ' H' hN=>hN.elim,tb,qb,kb σ2 yT M3 H3 _ s3 λv σ4 gP M4 H4 s4 sH R=>k v σ4 gP M4 H4 s4 ((aI.trans fE).trans sH) R]]
abbrev Ih:D->Option Bool
 |.bl b=>!b
 |.non=>!false
 |.int i=>!(i != 0)
 |.lst l=>!((not l.isEmpty))
 |.tup l=>!((not l.isEmpty))
 |.fix l=>!((not l.isEmpty))
 |_=>none
end
end Ev
namespace HT
end HT
namespace Ev
open L2
section
variable{lo hi:Option Expr}
def Ii(hK:z.K=X.K)(h:aD X z e g r g1)(hp:pk r g1=!d)(hb:Ih d=!b)(he:∀whole,isTrue e X.env whole=(do let v <- whole;standAt e.pos;holding [v] (truthy v))):cM X z e g b g1:=by
 let(t,q,k):=h;apply#[_,GP q he,λσ As M H Q s kk=>k σ As M H _ s λv H1 aN M1 s1 dc R=>#[b,?_,kk H1 aN M1 s1 dc]]
 have p:=s1.pk (aq.refl _ _) R hp;cases d with
 |non=>rw[p.non];cases hb;rfl
 |bl c=>rw[p.bl];cases hb;rfl
 |int i=>rw[p.int];cases hb;rfl
 |str x=>cases hb
 |emp _=>cases hb
 |nU _=>cases hb
 |Mz _ _=>cases hb
 |lst l=>let(a,xs,rfl,e1,e2):=p.list;cases hb;apply .inl #[xs,cA.of e1,?_];cases e2 <;> rfl
 |tup l=>let(a,xs,rfl,e1,e2):=p.tup;cases hb;apply .inr (.inl #[xs,hK▸e1.sq,?_]);cases e2 <;> rfl
 |fix l=>let(a,xs,rfl,e1,e2):=p.fix;cases hb;apply .inl #[xs,hK▸e1.sq,?_];cases e2 <;> rfl
end
section
def Vh(I:L2.Inv X aj σ H s)(p:Pk X.K M H d v)(r:RelV v u):∃Hh,PySem.W.KitX X.K u (Gg d) Hh/\Hh s.heap/\u≠.builtin "__main__.__loader__#opaque" :=by
 cases d with
 |non=>have q:=p.non;subst q;cases r;show#[_,PySem.W.kitx_none,True.intro,λz=>nomatch z]
 |bl y=>have q:=p.bl;subst q;cases r;show#[_,PySem.W.kitx_bool,True.intro,λz=>nomatch z]
 |int i=>have q:=p.int;subst q;let(t,rfl):=r;show#[_,PySem.W.kitx_int,True.intro,λz=>nomatch z]
 |str y=>have q:=p.str;subst q;let(t,rfl):=r;show#[_,PySem.W.kitx_str,True.intro,λz=>nomatch z]
 |tup l=>let(a,xs,rfl,ha,_):=p.tup;cases r;let(its,_,(o,h1,h2,_),_):=I.tuple ha.sq;show#[_,PySem.W.kitx_tuple,#[o,h1,h2],λz=>nomatch z]
 |lst l=>let(a,xs,rfl,ha,_):=p.list;cases r;let(its,_,pl,_):=I.list (cA.of ha);let(o,h1,h2,_):=pl.isList;show#[_,B7,#[o,h1,h2],λz=>nomatch z]
 |fix l=>let(a,xs,rfl,ha,_):=p.fix;cases r;let(its,_,pl,_):=I.list ha.sq;let(o,h1,h2,_):=pl.isList;show#[_,B7,#[o,h1,h2],λz=>nomatch z]
 |emp m=>
  cases p with
  |of q=>
   cases q with
   |emp _ ha=>cases r;let(_,_,_,vs,_,o,es,ep,h1,h2,_):=I.hok _ _ ha;show#[_,B8,#[o,h1,h2.1],λz=>nomatch z]
 |nU C=>
  cases p with
  |of q=>
   cases q with
   |nU k _ ha=>cases r;let((o,h1,h2,h3,h4),_):=I.hok _ _ ha;show#[_,vO k,#[o,h1,h2,h3,by rw[h4];trivial],λz=>nomatch z]
 |Mz ks ds=>
  cases p with
  |of q=>
   cases q with
   |Mz _ ha _ _=>cases r;let(_,_,vs,_,o,es,ep,h1,h2,_):=I.hok _ _ ha;show#[_,B8,#[o,h1,h2.1],λz=>nomatch z]
def Bh:∀{ns:List String}{us:List Value},Vals (ns.map V.ty) us->us=ns.map Value.type
 | [],_,r=>by rw[List.map_nil]at r;cases r;rfl
 |n::ns,_,r=>by
  cases r with
  |cons r1 r2=>cases r1;rw[Bh r2];rfl
def DP:d9 X (.builtin "isinstance") (λxs H Q=>∃(x:V) (p:Addr) (ns:List String) (M:List Addr) (d:D) (b:Bool),xs=[x,.ref p]/\Pk X.K M H d x/\jG X.K H p (ns.map V.ty)/\PySem.W.kitAny X.K (Gg d) (ns.map Value.type)=!b/\Q (.bl b) H):=by intro aj s σ H xs us Q I r h;let(x,p,ns,M,d,b,rfl,pk,hp,e,q):=h;let(u,w',rfl,r1,r2):=vals2 r;cases r2;let(Hh,Zk,hH,hx):=Vh I pk r1;let(its,rv,(o,h1,h2,n,h3),_):=I.tuple hp;rw[Bh rv]at h3;let(c,dd,dt,sl):=o;have h2':=h2;have h3':=h3;subst h2' h3';show PySem.W.kia_tup Zk I.oY hH h1 e hx λtk=>#[.bl b,H,I.tok tk,rfl,q]
structure TyOk(X:Cx)(T:Str)(n:String):Prop where
 gl:Gl X T
 mg:X.mg T=none
 bt:bootBuiltins T=!(.type n)
 nn:T≠ "__name__"
 db:(T==(~~~3))=false
inductive pU(X:Cx):List Expr->List String->Prop
 |nil:pU X [] []
 |cons {T:Str}{n:String}{p:Pos}{es:List Expr}{ns:List String}:TyOk X T n->pU X es ns->pU X (.Name T p::es) (n::ns)
def pU.pa(h:pU X es ns):∃t,PA X es t/\∀σ H (Q:List V->Hp->Prop),Q (ns.map V.ty) H->t σ H Q:=by
 induction h with
 |nil=>show#[_,cG,λσ H Q q=>q]
 |@cons T n p es ns h _ ih=>let(t,q,k):=ih;have pT:PE X (.Name T p) (tC (.ty n)):=tT h.gl h.mg h.bt rfl h.nn h.db;show#[_,aY pT q rfl,λσ H Q hq=>k σ H _ hq]
def NP(hK:z.K=X.K)(h:aD X z a g r1 g1)(hp:pk r1 g1=!d)(ht:pU X es ns)(hl:ns.length<=16777216)(he:∀M H v,Pk X.K M H d v->PySem.W.kitAny X.K (Gg d) (ns.map Value.type)=!b)
  (hg:Gl X "isinstance") (hm:X.mg "isinstance"=none) (hv:bootBuiltins "isinstance"=!(.builtin "isinstance"))
  (hs:starEach [a,.Tuple es k pT] X.env=(false,eval a X.env)::starEach [.Tuple es k pT] X.env):aD X z (.Call (.Name "isinstance" p) [a,.Tuple es k pT] [] pos) g (.dat (.bl b)) g1:=by
 let(t,q,kk):=h;let(tt,qt,kt):=ht.pa;apply#[_,iF DP hg hm hv (aY q (aY (GR qt) cG) hs) ⋯ ⋯ hs,λσ As M H Q s kq=>kk σ As M H _ s λv H' aC M' s' st R=>kt σ H' _ #[by rw[eC];show pK hl,λa ha=>?_]]
 have s2:=s'.laid (o:=.tup (ns.map V.ty)) ha;have pp:=s'.pk (aq.refl _ _) R hp;apply#[v,a,ns,M',d,b,rfl,?_,.inl (.inl aA),he _ _ _ (hK▸pp),kq _ _ aC M' s2 (st.trans (aq.laid ha)) (.bl b)];rw[<- hK];cases pp with
 |of r=>show .of (r.stay (aq.laid ha))
 |lst e1 e2=>show .lst (by rw[az (aH e1 ha)];show e1) (e2.stay (aq.laid ha))
def DQ(hN:X.N[i]?=!x)(hv:g9 X.env.scope x)(hd:(x==(~~~3))=false)(bR:(x==("__classdict__":Str))=false)(hg:g[i]?=!(.own l0))(h:dg X z [e] g [.dat (.lst m)] g1)(sC:g1[i]?=!(.own l))(hl:l.length+m.length<=16777216)
  (hbase:attributeBase (.Name x pn) "extend" X.env (eval (.Name x pn) X.env)=eval (.Name x pn) X.env)
  (hline:(cF.endLine==bN.line)=true) (hs:starEach [e] X.env=(false,eval e X.env)::starEach [] X.env):aD X z (.Call (.Attribute (.Name x pn) "extend" cF) [e] [] bN) g (.dat .non) (g1.set i (.own (l++m))):=by
 let(t,q,k):=h;apply#[_,vE AB PySem.F.slot_list_extend PySem.F.type_list_extend Di (bV hN hv hd bR) q hbase (by rw[hs];rfl) hline hs rfl,λσ As M H Q s kk=>?_]
 let(a,xs,e1,e2,e3,e4):=s.sl.at hg;apply#[.ref a,e1,.inl #[rfl,xs,cA.of e3],k σ As M H _ s λvs H' aC M' s' st R=>?_]
 let(b,ys,f1,f2,f3,f4):=s'.sl.at sC;rw[e1]at f1;injection f1 with f1;injection f1 with f1;injection f1 with f1;subst f1;cases R with
 |dat r R=>
  cases R;cases r with
  |@lst _ c zs hc rr=>
   apply#[a,c,ys,zs,rfl,rfl,f3,hc.2,by rw[<- f4.length,<- rr.length];show hl,?_]
   let(s2,aI):=s'.write sC e1 (f4.append rr);show kk _ _ aC M' s2 (st.trans aI) .non
end
abbrev ins(a:Int): ~~~0->List Int
 | []=>[a]
 |b::l=>if a<=b then a::b::l else b::ins a l
abbrev bS: ~~~0->List Int
 | []=>[]
 |a::l=>ins a (bS l)
def pW(a:Int):∀l:List Int,(ins a l).Perm (a::l)
 | []=>AE _
 |b::l=>by
  delta ins;split
  . show AE _
  . show ((pW a l).cons b).trans (List.Perm.swap a b l)
def aZ:∀l:List Int,(bS l).Perm l
 | []=>AE _
 |a::l=>(pW a _).trans ((aZ l).cons a)
def pX(a:Int):∀{l: ~~~0},l.Pairwise (· <= ·)->(ins a l).Pairwise (· <= ·)
 | [],_=>List.pairwise_singleton _ _
 |b::l,h=>by
  let(h1,h2):=sR.mp h;delta ins;split
  .
   ext hab;apply sR.mpr #[λx hx=>?_,h]
   rcases d6.mp hx with rfl |hx
   . show hab
   . show Int.le_trans hab (h1 x hx)
  .
   ext hab;apply sR.mpr #[λx hx=>?_,pX a h2]
   rcases d6.mp ((pW a l).mem_iff.mp hx)with rfl |hx
   . lia
   . show h1 x hx
def bZ:∀l:List Int,(bS l).Pairwise (· <= ·)
 | []=>List.Pairwise.nil
 |a::l=>pX a (bZ l)
def fc(hp:m.Perm l)(hs:m.Pairwise (· <= ·)):m=bS l:=
 (hp.trans (aZ l).symm).eq_of_pairwise (λx y _ _ h1 h2=>Int.le_antisymm h1 h2) hs (bZ l)
section
def vV:d9 X (.builtin "sorted") (λxs H Q=>∃p ns,xs=[.ref p]/\cA X.K H p (ns.map V.int)/\ns.length<64/\∀q,H q=none->Q (.ref q) (upd H q (.lst ((bS ns).map V.int)))):=by
 intro aj s σ H xs us Q I r h;let(p,ns,rfl,hq,hl,q):=h;let(u,rfl,rx):=vals1 r;cases rx;let(its,r',pl,hz):=I.list hq;have aL:=r'.length;rw[eC]at aL;apply sorted_ints pl.isList (intsAre_of r') ⋯ λout ns' a1 a2 a3=>?_
 have e:=fc a2 a3;subst e;let(ep,he):=sortedAll_at s.heap its out;have aL:=(aZ ns).length_eq;apply#[.ref (s⁻¹+1),_,I.laid (λb o e=>sortedAll_old e) (A7 _) ?_,rfl,q _ (I.hok.fresh (A7 _))]
 show#[by rw[eC,oS];lia,out.toList,ep,lV a1,by rw[he]]
def mh{K:Frag}{M:List Addr}{H:Hp}:∀ns:List Int,aK K M H (ns.map D.int) (ns.map V.int)
 | []=>.nil
 |n::ns=>.cons (.int n) (mh ns)
def DR{l:List D}{ns: ~~~0}(hK:z.K=X.K)(hi:bF l=!ns)(hl:ns.length<64):CallD X z (.builtin "sorted") [.lst l] (.new ((bS ns).map .int)):=by
 apply#[_,vV,λg σ As M H vs Q s p k=>?_]
 let(v,rfl,pv):=p.one;let(a,xs,rfl,e1,e2):=pv.list;have:=eV e2 hi;subst this;show#[a,ns,rfl,cA.of e1,hl,λq hq=>k _ _ As (q::M) (s.aO hq) (aq.aO hq) #[q,_,rfl,dA,λhA=>s.fresh hq (s.sub q hA),s.bO hq,aA,mh _]]
end
section
abbrev Z2(X:Cx)(z:Z)(e:Expr)(g:G)(lo hi:Int)(g1:G):Prop:=
 ∀(aj: ~~~1) (s:Shared) (σ:Sg) (As M:List Addr) (H:Hp) (Post:Value->Shared->Prop),L2.Inv X aj σ H s->S z g σ As M H->
  (∀r s1 H1 aN M1 t u v,L2.Inv X aj σ H1 s1->S z g1 σ aN M1 H1->aq M H M1 H1->IsRange s1.heap r lo hi 1 t u v->Post (.ref r) s1)->wpAny (~~~2) X.A (eval e X.env) Post X.xe s
def dg.run(ha:dg X z es g rs g1)(I:L2.Inv X aj σ H s)(st:S z g σ As M H)
  (k:∀vs us s1 H1 aN M1,L2.Inv X aj σ H1 s1->Vals vs us->S z g1 σ aN M1 H1->aq M H M1 H1->jS z σ M1 H1 rs vs->Post us s1):wpAny (~~~2) X.A (spliced (backTo pos (starEach es X.env))) Post X.xe s:=by
 let(t,q,kt):=ha;show bU (q pos aj s σ H (λvs H1=>∃aN M1,S z g1 σ aN M1 H1/\aq M H M1 H1/\jS z σ M1 H1 rs vs) I (kt σ As M H _ st λvs H1 aN M1 s1 dc R=>#[aN,M1,s1,dc,R])) (by rintro us s1 ⟨vs,H1,I1,r1,aN,M1,q1,q2,q3⟩;show k vs us s1 H1 aN M1 I1 r1 q1 q2 q3)
def rg_1(h:dg X z [a] g [‹j›] g1)(hg:Gl X "range")(hm:X.mg "range"=none)(hs:starEach [a] X.env=[(false,eval a X.env)]):Z2 X z (.Call (.Name "range" p) [a] [] rp) g 0 j g1:=by
 intro aj s σ As M H Post I st k;apply Call_ (gH I hg hm boot_range (oQ (h.run I st λvs us s1 H1 aN M1 I1 r1 q1 q2 q3=>?_) hs rfl))
 cases q3 with
 |dat r R=>
  cases R;cases r;cases r1 with
  |cons r rr=>cases rr;let(t,rfl):=r;show call_range_1 (k _ _ H1 aN M1 _ _ _ (I1.kept λb o e=>dE _ e) q1 q2 (IsRange.new ..))
abbrev DS(lo:Int)(n:Nat):List V:=(List.range n).map λ(k:Nat)=>V.int (lo+(k:Int))
def DT{lo:Int}{n:Nat}{acc:Array Value}(h:ItemsOf (λi v=>∃t,v=Value.int (lo+(i:Int) * 1) t) acc n):Vals (DS lo n) acc.toList:=by
 have key:∀(m:Nat) (l:List Value) (o:Nat),l.length=m->(∀j v,l[j]?=!v->∃t,v=Value.int (lo+((o+j:Nat):Int)) t)->Vals ((List.range' o m).map λ(k:Nat)=>V.int (lo+(k:Int))) l:=by
  intro m
  induction m with
  |zero=>intro l o hl _;cases l with
   |nil=>show .nil
   |cons _ _=>simp at hl
  |succ m ih=>
   intro l o hl hv;cases l with
   |nil=>simp at hl
   |cons v l=>
    let(t,e):=hv 0 v rfl;apply .cons #[t,by rw[e];rfl] (ih l (o+1) (by simpa using hl) λj w hw=>?_)
    let(t',e'):=hv (j+1) w (by simpa using hw)
    show#[t',by rw[e',show o+(j+1)=o+1+j by lia]]
 delta DS;rw[AR];apply key n acc.toList 0 (by rw[oD];show h.1) λj v hv=>?_
 let(t,e):=h.2 j v (by rw[<- AK];show hv)
 show#[t,by rw[e,At,Int.mul_one]]
def DW{K:Frag}{M:List Addr}{H:Hp}(lo:Int)(n:Nat):aK K M H (cR lo n) (DS lo n):=by
 delta cR DS
 induction List.range n with
 |nil=>show .nil
 |cons k l ih=>show .cons (.int _) ih
def Ij{e:Expr}{lo hi:Int}(h:Z2 X z e g lo hi g1)(hc:X.calm=true)(hg:Gl X "list")(hm:X.mg "list"=none)(hs:starEach [e] X.env=[(false,eval e X.env)])(h1 : -(2 ^ 62)<=lo/\lo<2 ^ 62/\-(2 ^ 62)<=hi/\hi<2 ^ 62)(hl:(hi - lo).toNat<=16777216) :
  aD X z (.Call (.Name "list" lp) [e] [] pos) g (.new (cR lo (hi - lo).toNat)) g1:=by
 apply aD.of λaj s σ As M H Post I st k=>?_
 apply Call_ (gH I hg hm (by rfl:bootBuiltins ("list":Str)=!(.type "list")) (oQ ?_ hs rfl))
 rw[hs];apply Calls.spliced_cons (h aj s σ As M H _ I st λr s1 H1 aN M1 t u v I1 q1 q2 hr=>Calls.spliced_nil ?_)
 have hn:Builtin.Range.rangeSize lo hi 1=(((hi - lo).toNat:Nat):Int):=by rw[rangeSize_one];split <;> lia
 apply call_list_range (I1.ok.hd hc) hr (small_one h1.1 h1.2.1 h1.2.2.1 h1.2.2.2) hn hl λh' tk acc' c' hk hS' hacc=>?_
 have hf:=I1.hok.fresh (eA _);have s2:=q1.aO (xs:=DS lo (hi - lo).toNat) hf;have vv:=DT hacc;have I2:=
  I1.laid (t':=tk) hk (eA _) (show cB X.prog X.w _ h' _ (.lst (DS lo (hi - lo).toNat))from#[by rw[vv.length,oD,hacc.1];show pK hl,acc'.toList,c',vv,by simpa using hS'])
 show k (.ref s1⁻¹) _ _ _ aN (s1⁻¹::M1) I2 rfl s2 (q2.trans (aq.aO hf)) #[_,_,rfl,dA,λhA=>q1.fresh hf (q1.sub _ hA),q1.bO hf,aA,DW _ _]
end
def pY(o:Obj)(f):(o.mapFields f).dict=o.dict:=by let(c,d,dt,sl):=o;cases dt <;> rfl
structure vg(h₀:Heap)(x C:Addr)(H:Hp)(h:Heap):Prop where
 obj:∃oe vs,h.get? x=!oe/\oe.cls=.ref C/\oe.dict=none/\oe.data=.fields vs/\1<vs.size/\(vs[1]?=some .none\/∃T oT ts,vs[1]?=!(.ref T)/\T≠x/\h₀.get? T=none/\H T=none/\h.get? T=!oT/\oT.data=.fields ts/\ts[3]?=some .none)
 new:h₀.get? x=none
 no:H x=none
section
def kX
  (hfr:A.frames=!(env::outer)) (hl:s.heap.FunFrames base (env::outer)) (hf:env.frame=!L) (he:s.heap.get? x=!oe) (hd:oe.data=.fields vs) (hsz:1<vs.size)
  (h:∀h',(∀b o,b∉frs (env::outer)->b≠x->s.heap.get? b=!o->h'.get? b=!o)->(∀b o,b∈frs (env::outer)->s.heap.get? b=!o->∃sl,h'.get? b=some { o with slots:=sl})->
   (∃Gh vs' oT ts,h'.get? x=!Gh/\Gh.cls=oe.cls/\Gh.dict=oe.dict/\Gh.data=.fields vs'/\1<vs'.size/\vs'[1]?=!(.ref s⁻¹)/\h'.get? s⁻¹=!oT/\oT.data=.fields ts/\ts[3]?=some .none)->Q () { s with heap:=h'}) :
  wpAny M A (do let a <- frameOf env;let pl <- entryPlaceOf L hadNext;let b <- EntryCells.newEntry head a .none (rawInt L) .none pl;setField (.ref x) 1 b) (λ_ s'=>wpAny M A (setFlight (.ref x) none) Q E s') E s:=by
 have hx:x∉(env::outer).filterMap (·.frame):=λhm=>by
  let(_,o,ho,hnf):=hl.mem hm;rw[he]at ho;cases ho;show hnf vs hd
 apply aS (wpAny_frameOf_fun hfr hl hf λh₁ hs₁=>?_)
 apply aS (wpAny_entryPlaceOf λpl lN=>?_)
 apply aS (y0 ?_ (lN.sizeOk5 _ _ _ _ _));have he₁:=(hs₁.2.1 x hx).trans he;generalize hO:({ cls:=.type "traceback",dict:=none,data:=.fields ([head,.ref L,.none,rawInt L,.none]++(if pl.isEmpty then List.replicate 6 Value.none else pl)).toArray}:Obj)=O
 have he₂:=dE O he₁;have hsz₁:=hs₁.1;have hT₂:(h₁.push O).get? h₁.objs.size=!O:=fN _ (by rw[<- hO];rfl)
 apply AF he₂ hd hsz ?_;have Vi:=AC (fA he₁);have hd₃:=pE hd (·.setIfInBounds 1 (Value.ref h₁.objs.size));have he₃:=nK (Obj.mapFields (·.setIfInBounds 1 (Value.ref h₁.objs.size))) he₂ (wT hd₃);have hT₃:=(lS (h₁.push O) (Obj.mapFields (·.setIfInBounds 1 (Value.ref h₁.objs.size))) (sT Vi)).trans hT₂;have hdO:O.data=.fields ([head,.ref L,.none,rawInt L,.none]++(if pl.isEmpty then List.replicate 6 Value.none else pl)).toArray:=by rw[<- hO]
 apply aS (tS he₃ hd₃ (x:=.ref h₁.objs.size) (by simp[hsz]) ?_)
 apply AF hT₃ hdO (by simp only[d5,fI,lL] <;> lia) (h _ ?_ ?_ ?_)
 . intro b o hb NQ ho;have Z3:=(hs₁.2.1 b hb).trans ho;rw[lS _ _ (AC (fA Z3)),lS _ _ (sT NQ)];show dE _ Z3
 .
  intro b o hb ho;let(sl,Z3):=hs₁.2.2 b o ho;have NQ:b≠x:=λq=>hx (q▸hb)
  apply#[sl,?_];rw[lS _ _ (AC (fA Z3)),lS _ _ (sT NQ)];show dE _ Z3
 .
  rw[<- hsz₁];apply#[_,_,_,_,(lS _ _ Vi).trans he₃,B9 _ _,pY _ _,hd₃,by simp[hsz],by simp[hsz],nK _ hT₃ (wT (pE hdO _)),pE hdO _,?_]
  first
   | (simp;done)
   | (rcases lN with rfl |⟨_,_,_,_,_,_,_,rfl⟩ <;> simp)
def rB
  (hfr:A.frames=!(env::outer)) (hl:s.heap.FunFrames base (env::outer)) (hf:env.frame=!L) (fl:vg h₀ x C H s.heap) (hn:h₀.get? s⁻¹=none) (hH:∀b,s⁻¹<=b->H b=none)
  (h:∀h',(∀b o,b∉frs (env::outer)->(h₀.get? b=none->H b=none->∀vs,o.data≠.fields vs)->s.heap.get? b=!o->h'.get? b=!o)->(∀b o,b∈frs (env::outer)->s.heap.get? b=!o->∃sl,h'.get? b=some { o with slots:=sl})->
   vg h₀ x C H h'->(∀b o,s.heap.get? b=!o->∃o',h'.get? b=!o')->Q () { s with heap:=h'}):wpAny M A (noteFrame (.ref x) env) (λ_ s'=>wpAny M A (setFlight (.ref x) none) Q E s') E s:=by
 let((oe,vs,he,hc,bR,hd,hsz,hT),Yk,Yl):=fl;have hxf:x∉frs (env::outer):=λhm=>by
  let(_,o,ho,hnf):=hl.mem hm;rw[he]at ho;cases ho;show hnf vs hd
 have fin:∀(T0:Addr) (h1 h':Heap),(∀b,b≠T0->h1.get? b=s.heap.get? b)->(T0=x\/(h₀.get? T0=none/\H T0=none/\T0∉frs (env::outer)/\∃oT ts,s.heap.get? T0=!oT/\oT.data=.fields ts))->(∀o,s.heap.get? T0=!o->∃o',h1.get? T0=!o')->h1.objs.size=s⁻¹->
   (∀b o,b∉frs (env::outer)->b≠x->h1.get? b=!o->h'.get? b=!o)->(∀b o,b∈frs (env::outer)->h1.get? b=!o->∃sl,h'.get? b=some { o with slots:=sl})->
   (∃Gh vs' oT ts,h'.get? x=!Gh/\Gh.cls=oe.cls/\Gh.dict=oe.dict/\Gh.data=.fields vs'/\1<vs'.size/\vs'[1]?=!(.ref h1.objs.size)/\h'.get? h1.objs.size=!oT/\oT.data=.fields ts/\ts[3]?=some .none)->Q () { s with heap:=h'}:=by
  rintro T0 h1 h' a1 a2 a2' a3 k1 k2 ⟨Gh,vs',oT,ts,e1,e2,Mu,e3,e4,e5,e6,e7,e8⟩;have hTf:=a2.elim (λq=>q▸hxf) λq=>q.2.2.1
  apply h h' (λb o hb hH' ho=>?_) (λb o hb ho=>?_) #[#[Gh,vs',e1,e2.trans hc,Mu.trans bR,e3,e4,.inr #[h1.objs.size,oT,ts,e5,?_,?_,?_,e6,e7,e8]],Yk,Yl] λb o ho=>?_
  .
   have NQ:b≠x:=λq=>by
    subst q;rw[he]at ho;cases ho;show hH' Yk Yl vs hd
   have hbT:b≠T0:=λq=>a2.elim (λz=>NQ (q.trans z)) (by
    rintro⟨z1,z2,_,oT,ts,z3,z4⟩;subst q;rw[z3]at ho;cases ho;show hH' z1 z2 ts z4)
   show k1 b o hb NQ ((a1 b hbT).trans ho)
  . show k2 b o hb ((a1 b (λq=>hTf (q▸hb))).trans ho)
  . rw[a3];show AC (fA he)
  . rw[a3];show hn
  . rw[a3];show hH _ (eA _)
  .
   by_cases NQ:b=x
   . show#[Gh,NQ▸e1]
   .
    have h1b:∃o1,h1.get? b=!o1:=by
     by_cases hbT:b=T0
     . subst hbT;show a2' o ho
     . show#[o,(a1 b hbT).trans ho]
    let(o1,yU):=h1b;by_cases hb:b∈frs (env::outer)
    . let(sl,q):=k2 b o1 hb yU;show#[_,q]
    . show#[o1,k1 b o1 hb NQ yU]
 delta noteFrame;simp only[hf];rcases hT with hT |⟨T,oT,ts,h1,Vi,hTn,hTH,Lw,Lx,h3⟩
 . apply aS (tS he hd hT ?_);show kX hfr hl hf he hd hsz λh' k1 k2 k3=>fin x s.heap h' (λ_ _=>rfl) (.inl rfl) (λo ho=>#[o,ho]) rfl k1 k2 k3
 .
  apply aS (tS he hd h1 ?_);apply aS (tS Lw Lx h3 ?_);apply aS (AF Lw Lx (t8.mp h3).1 ?_);have other:∀b,b≠T->(s.heap.update T (Obj.mapFields (·.setIfInBounds 3 Value.none))).get? b=s.heap.get? b:=λb hb=>lS _ _ (sT hb)
  have hTf:T∉frs (env::outer):=λhm=>by
   let(_,o,ho,hnf):=hl.mem hm;rw[Lw]at ho;cases ho;show hnf ts Lx
  have rec':∀b o,s.heap.get? b=!o->(∀vs,o.data≠.fields vs)->b≠T:=λb o hb hnf q=>by
   rw[q,Lw]at hb;cases hb;show hnf ts Lx
  apply kX hfr (hl.of_keeps λb o hb hnf=>#[o,(other b (rec' b o hb hnf)).trans hb,rfl]) hf ((other x (sT Vi)).trans he) hd hsz λh' k1 k2 k3=>?_
  show fin T _ h' other (.inr #[hTn,hTH,hTf,oT,ts,Lw,Lx]) (λo ho=>#[_,nK _ Lw (wT (pE Lx _))]) (Heap.size_update ..) k1 k2 k3
end
def vg.mono(f:vg h₁ x C H h)(hm:∀b o,h₀.get? b=!o->∃o',h₁.get? b=!o'):vg h₀ x C H h:=by
 have no:∀b,h₁.get? b=none->h₀.get? b=none:=λb hb=>by
  cases e:h₀.get? b with
  |none=>rfl
  |some o=>let(o',e'):=hm b o e;rw[hb]at e';cases e'
 let((oe,vs,h1,h2,h2',h3,h4,h5),h6,h7):=f;show#[#[oe,vs,h1,h2,h2',h3,h4,h5.imp id (by rintro⟨T,oT,ts,q1,q2,q3,q4⟩;show#[T,oT,ts,q1,q2,no T q3,q4])],no x h6,h7]
abbrev Gi(P:Program)(w:World):Dg:=λouter H s E e s'=>∃x C H',e=.ref x/\s'.os=s.os/\AllBare s'.gens/\Un (frs outer) [] H H' s.heap s'.heap/\lO P w H' s'.heap/\vg s.heap x C H' s'.heap/\E (.ref C) none H'
def Ik(hx:X.ex=[])(I:L2.Inv X aj σ H s)(h:Gi X.prog X.w X.stack H s E e s') :
  ∃x C H',e=.ref x/\L2.Inv X aj σ H' s'/\vg X.s₀.heap x C H' s'.heap/\E (.ref C) none H':=by
 let(x,C,H',rfl,h1,h2,h3,h4,h5,h6):=h;show#[x,C,H',rfl,I.call' h1 h3 h4 h2 (λb z=>absurd z ⋯),h5.mono λb o e=>I.base.there b o e (by rw[hx];simp),h6]
section
def vW(I:L2.Inv X aj σ H' s')(cO:X.stack=X.env::X.outer)(hf:X.env.frame=!X.env.locals)(hex:X.ex=[])(fl:vg X.s₀.heap x C H' s'.heap)
  (h:∀h'',(∀b o,b∉frs (X.env::X.outer)->(X.s₀.heap.get? b=none->H' b=none->∀vs,o.data≠.fields vs)->s'.heap.get? b=!o->h''.get? b=!o)->(∀b o,b∈frs (X.env::X.outer)->s'.heap.get? b=!o->∃sl,h''.get? b=some { o with slots:=sl})->
   Un (frs X.outer) [] X.H₀ H' X.s₀.heap h''->lO X.prog X.w H' h''->vg X.s₀.heap x C H' h''->Q () { s' with heap:=h''}) :
  wpAny (~~~2) X.A (noteFrame (.ref x) X.env) (λ_ s2=>wpAny (~~~2) X.A (setFlight (.ref x) none) Q E' s2) E' s':=by
 have hl:=I.stack;rw[cO]at hl;have ub:=hex▸I.base;have hsf:=I.tQ;rw[cO]at hsf;apply rB (I.ok.frames.trans (by rw[cO])) hl hf fl (Heap.get?_none_of_le I.sz) (λb hb=>I.hok.fresh hb) λh'' k1 k2 k3 k4=>?_
 have hin:∀b,b∈frs X.outer->b∈frs (X.env::X.outer):=λb hb=>by
  delta frs;rw[v6,hf];show bP _ hb
 have hno:∀b o,X.s₀.heap.get? b=!o->b∉frs X.outer->b∉frs (X.env::X.outer):=λb o ho hb hm=>by
  delta frs at hm;rw[v6,hf]at hm;rcases d6.mp hm with e |hm
  . rw[e]at ho;show pV _ (eM (fA ho) I.ok.above)
  . show hb hm
 have n9:∀b o (ob:Obj),X.s₀.heap.get? b=!o->(X.s₀.heap.get? b=none->H' b=none->∀vs,ob.data≠.fields vs):=λb o ob ho hb=>by rw[ho]at hb;cases hb
 apply h h'' k1 k2 #[λb o q n hb hx=>?_,λb o q n hb hx=>?_,ub.free,λb o q hx=>?_,ub.tups,ub.kF,ub.kG] (λa o e=>?_) k3
 . show k1 b o (hno b o q hb) (n9 b o _ q) (ub.keep b o q n hb hx)
 . let(sl,e1):=ub.slot b o q n hb hx;let(sl',e2):=k2 b _ (hin b hb) e1;show#[sl',e2]
 . let(o',e1):=ub.there b o q hx;show k4 b o' e1
 .
  apply (I.hok a o e).stay (λb u hb q=>?_) (λ_ q=>q) λ_ _ q=>q
  have ht:H' b≠none:=by
   rcases hb with rfl |hb
   . rw[e];simp
   . rw[hb];simp
  show k1 b u (λhm=>ht (hsf b hm)) (λ_ z=>absurd z ht) q
def sJ(I:L2.Inv X aj σ H' s')(cO:X.stack=X.env::X.outer)(hf:X.env.frame=!X.env.locals)(hex:X.ex=[])(fl:vg X.s₀.heap x C H' s'.heap)
  (h:∀s'',Gi X.prog X.w X.outer X.H₀ X.s₀ (λc o h=>c=.ref C/\o=none/\h=H') (.ref x) s''->Q () s'') :
  wpAny (~~~2) X.A (leaving X.env (.ref x)) Q E' s':=by
 show aS (vW I cO hf hex fl λh'' _ _ u k f=>h _ #[x,C,H',rfl,I.os,I.bare,u,k,f,rfl,rfl,rfl])
def DX(I:L2.Inv X [] σ H' s')(hp:X.pn=[])(cO:X.stack=X.env::X.outer)(hf:X.env.frame=!X.env.locals)(hex:X.ex=[])(fl:vg X.s₀.heap x C H' s'.heap)
  (h:∀s'',L2.Inv X [] σ H' s''->vg X.s₀.heap x C H' s''.heap->Q () s'') :
  wpAny (~~~2) X.A (noteFrame (.ref x) X.env) (λ_ s2=>wpAny (~~~2) X.A (setFlight (.ref x) none) Q E' s2) E' s':=by
 apply vW I cO hf hex fl λh'' k1 k2 u k f=>h _ ?_ f
 have cellK:∀c v,s'.heap.IsCell c v->h''.IsCell c v:=by
  rintro c v ⟨o,e,d⟩;by_cases hb:c∈frs (X.env::X.outer)
  . let(sl,e2):=k2 c o hb e;show#[_,e2,d]
  . show#[o,k1 c o hb (λ_ _ vs q=>by rw[d]at q;cases q) e,d]
 have hlm:X.env.locals∈frs (X.env::X.outer):=by delta frs;rw[v6,hf];show dA
 let(m,hn,hlk):=I.loc;apply#[I.ok,I.os,I.bare,hex▸u,#[m,?_,λi y v h1 h2 h3=>?_],λy c e=>?_,I.free,I.dO,λp hp2=>?_,k,I.len]
 . let(o,es,ep,e,d,r):=hn;let(sl,e2):=k2 _ o hlm e;show#[_,es,ep,e2,d,r]
 . let(u,r,q):=hlk i y v h1 h2 h3;apply#[u,r,q.imp id (by rintro⟨q1,c,q2,q3⟩;show#[q1,c,q2,cellK c _ q3])]
 . let(v,q):=I.cell y c e;show#[v,cellK c v q]
 . rw[hp]at hp2;cases hp2
end
def Il{P:Program}{w:World}{K:Frag}{mg:Str->Option Value}{base:Heap}{N:List Str}{qual:Str}{scope:Scope}{f:Addr}{cd:Value}{A:Around}{outer:List Env}{s:Shared}{H:Hp}{E:XK}{aj: ~~~1}{σ:Sg}{H':Hp}{s':Shared}{x C:Addr}
  (I:L2.Inv (gI (Gi P w) P w K mg base N qual scope f cd A outer s H E) aj σ H' s') (fl:vg s.heap x C H' s'.heap) (hE:E (.ref C) none H'):(gI (Gi P w) P w K mg base N qual scope f cd A outer s H E).xe (.ref x) s':=
 sJ I rfl rfl rfl fl (by
  rintro s'' ⟨y,D,H2,e,h1,h2,h3,h4,h5,e1,e2,e3⟩;cases e;cases e1;subst e3;show#[x,C,H2,rfl,h1,h2,h3,h4,h5,hE])
abbrev Acc(X:Cx)(z:Z)(g':G)(M:List Addr)(H:Hp)(C:Addr)(σ:Sg):Prop:=
 ∀aj s1 H1 aN M1 x,L2.Inv X aj σ H1 s1->S z g' σ aN M1 H1->aq M H M1 H1->vg X.s₀.heap x C H1 s1.heap->X.xe (.ref x) s1
abbrev DY(X:Cx)(z:Z)(g':G)(M:List Addr)(H:Hp)(C:Addr):Prop:=∀σ,Acc X z g' M H C σ
def Acc.trans(st:aq M H M1 H1)(h:Acc X z g' M H C σ):Acc X z g' M1 H1 C σ:=λaj s1 H2 aN M2 x I s st' fl=>h aj s1 H2 aN M2 x I s (st.trans st') fl
def DY.trans(st:aq M H M1 H1)(h:DY X z g' M H C):DY X z g' M1 H1 C:=λσ=>(h σ).trans st
abbrev Gj(X:Cx)(z:Z)(e:Expr)(g:G)(C:Addr)(g':G):Prop:=∃t,PE X e t/\∀σ As M H Q,S z g σ As M H->Acc X z g' M H C σ->t σ H Q
abbrev Ym(X:Cx)(z:Z)(e:Expr)(g:G)(C:Addr)(g':G):Prop:=∃t,PT X e t/\∀σ As M H Q,S z g σ As M H->Acc X z g' M H C σ->t σ H Q
abbrev Z4(X:Cx)(z:Z)(es:List Expr)(g:G)(C:Addr)(g':G):Prop:=∃t,PA X es t/\∀σ As M H Q,S z g σ As M H->Acc X z g' M H C σ->t σ H Q
abbrev Vj(X:Cx)(z:Z)(st:Stmt)(g:G)(C:Addr)(g':G):Prop:=∃t,PS X st t/\∀σ As M H E,S z g σ As M H->DY X z g' M H C->t E σ H
abbrev NR(X:Cx)(z:Z)(jO:List Stmt)(g:G)(C:Addr)(g':G):Prop:=∃t,tR X jO t/\∀σ As M H E,S z g σ As M H->DY X z g' M H C->t E σ H
section
variable{st:Stmt}
def aD.lift(h:aD X.tU z e g r g'):aD X z e g r g':=let #[t,q,k]:=h;#[t,q.tU,k]
def cM.lift(h:cM X.tU z e g v g'):cM X z e g v g':=let #[t,q,k]:=h;#[t,q.tU,k]
def Vk(h:Gj X z e g C g')(he:∀whole,isTrue e X.env whole=(do let v <- whole;standAt e.pos;holding [v] (truthy v))):Ym X z e g C g':=by let(t,q,k):=h;show#[_,S0 q he,λσ As M H Q s ac=>k σ As M H _ s ac]
def NT(h:Ym X z a g C g'):Ym X z (.UnaryOp .Not a pos) g C g':=by let(t,q,k):=h;show#[_,Gz q,λσ As M H Q s ac=>k σ As M H _ s ac]
def NX(h:Gj X z e g C g')(hs:starEach (e::es) X.env=(false,eval e X.env)::starEach es X.env):Z4 X z (e::es) g C g':=by
 let(t,q,k):=h;have pn:PA X es (λ_ _ _=>False):=λ_ _ _ _ _ _ _ h=>h.elim
 show#[_,aY q pn hs,λσ As M H Q s ac=>k σ As M H _ s ac]
def NZ(h1:aD X z e g r g1)(h:Z4 X z es g1 C g')(hs:starEach (e::es) X.env=(false,eval e X.env)::starEach es X.env):Z4 X z (e::es) g C g':=by let(t1,q1,k1):=h1;let(t,q,k):=h;show#[_,aY q1 q hs,λσ As M H Q s ac=>k1 σ As M H _ s λv H1 aN M1 s1 dc R1=>k σ aN M1 H1 _ s1 (ac.trans dc)]
def Vl(h:Gj X z e g C g'):Vj X z (.Return (!e) pos) g C g':=by let(t,q,k):=h;show#[_,o7 q,λσ As M H E s ac=>k σ As M H _ s (ac σ)]
def N1(h:Gj X z e g C g')(hs:swapsWith e none pos.line X.env=pure false):Vj X z (.Expr e pos) g C g':=by let(t,q,k):=h;show#[_,ou q hs,λσ As M H E s ac=>k σ As M H _ s (ac σ)]
def Vm(h:Ym X z c g C g'):Vj X z (.If c x y pos) g C g':=by let(t,q,k):=h;show#[_,m5 q bw bw,λσ As M H E s ac=>k σ As M H _ s (ac σ)]
def Im(h1:cM X z c g v g1)(h:NR X z (if v then x else y) g1 C g'):Vj X z (.If c x y pos) g C g':=by
 let(t1,q1,k1):=h1;let(t,q,k):=h;cases v with
 |true=>show#[_,m5 q1 q bw,λσ As M H E s ac=>k1 σ As M H _ s λH' aC M' s' st=>iG (k σ aC M' H' _ s' (ac.trans st))]
 |false=>show#[_,m5 q1 bw q,λσ As M H E s ac=>k1 σ As M H _ s λH' aC M' s' st=>kM (k σ aC M' H' _ s' (ac.trans st))]
def N2(h:Vj X z st g C g'):NR X z (st::jO) g C g':=by let(t,q,k):=h;show#[_,dP q bw,λσ As M H E s ac=>k σ As M H _ s ac]
def N3(h1:gq X z st g .nx g1)(h:NR X z jO g1 C g'):NR X z (st::jO) g C g':=by let(t1,q1,k1):=h1;let(t,q,k):=h;show#[_,dP q1 q,λσ As M H E s ac=>k1 σ As M H _ s λσ' aC M' H' s' st'=>k σ' aC M' H' E s' (ac.trans st')]
end
abbrev SpX(K:Frag)(N:List Str)(np:Nat)(run:List Nat->G->Addr->G->Prop):Sp:=λvs H _ E=>
 vs.length=np/\∃(z:Z) (g g':G) (As M:List Addr) (C:Addr),z.K=K/\S z g (L2.start N vs) As M H/\run z.bor g C g'/\∀σ' aC M' H',S z g' σ' aC M' H'->aq M H M' H'->E (.ref C) none H'
section
variable{run:List Nat->G->Addr->G->Prop}
def Vn{P:Program}{w:World}{K:Frag}{mg:Str->Option Value}{base:Heap}{qual:Str}{st:Stmt}(F:Lv K x qual st f fd)(Sc:bY N ps (aE st))
  (h:∀(bE:Value) (A:Around) (outer:List Env) (s:Shared) (H:Hp) (E:XK),PySem.W.codeIn K bE qual=true->cC k (A.deeper (envOfC qual (aE st) s⁻¹ f bE))->
   ∀(z:Z) (g:G) (C:Addr) (g':G),z.K=K->run z.bor g C g'->NR (gI (Gi P w) P w K mg base N qual (aE st) f bE A outer s H E) z (bA st) g C g') :
  jP P w K mg base (Gi P w) (k+1) f fd ps (SpX K N ps.length run):=by
 let(oc,od,kV,doc,pm,an,bE,ct,osl,rfl,lk,bR):=F.ex;apply Rl lk bR Sc (λvs H Q E q=>q.1) ?_
 rintro A outer s H vs Q E hr ⟨_,z,g,g',As,M,C,hK,hs,hrun,hQ⟩;let(t,q,kk):=h bE A outer s H E bR hr z g C g' hK hrun;show#[t,q,kk _ As M H _ hs λσ aj s1 H1 aN M1 y I s' st' fl=>Il I fl (hQ σ aN M1 H1 s' st')]
def N4(F:jP X.prog X.w X.K X.mg X.base (Gi X.prog X.w) k f fd ps (SpX X.K N ps.length run))(hK:z.K=X.K)(hex:X.ex=[])(hr:cC k X.A)(hg:Gl X x)(hm:X.mg x=!(.ref f))(hk:PySem.W.keepIn X.K (.ref f)=true)(hb:L2.Binds X.K fd ps [])
  (ha:dg X z (e::es) g rs g1) (aL:rs.length=ps.length) (hl:cL rs g1=!gs) (nd:((vars 0 rs).map (·.2)).Nodup) (hrun:run ((vars 0 rs).map (·.1)) (dD N.length gs) C gc) (HW:back (vars 0 rs) gc g1=!gO)
  (jN:(x==(~~~3))=false) (he:starEach (e::es) X.env=(false,eval e X.env)::starEach es X.env) (lN:(backTo pos (starEach es X.env)).any (·.1)=false) :
  Gj X z (.Call (.Name x p) (e::es) [] pos) g C gO:=by
 apply#[λσ H Q=>∃As M,S z g σ As M H/\Acc X z gO M H C σ,?_,λσ As M H Q s ac=>#[As,M,s,ac]]
 rintro aj s σ H Q I ⟨As,M,hs,ac⟩;apply xI (fJ I hg hm ?_ jN);apply A4 I.ok.mod.ym hk (ha.run I hs λvs us s1 H1 aN M1 I1 r1 q1 q2 R1=>#[I1.oY,?_]) he lN
 have hv:=R1.length;have hl2:(us++[]).length=ps.length:=by rw[mE,<- r1.length,hv,aL]
 have ee:=q1.enter (N:=N) R1 hl nd;apply C8 (BD (F.run X.A X.stack s1 H1 #[us,[]] (us++[]) (vs++[]) (λ_ _=>False) (λcls _ H'=>cls=.ref C/\∃bC M2,S z gO σ bC M2 H'/\aq M H M2 H') hr I1.Mk (hb s1 us I1.oY hl2) (by rw[mE,mE];show r1) ?_) λr s' hq=>?_)
 .
  rw[mE];apply#[by rw[hv,aL],sE z σ M1 H1 rs,dD N.length gs,gc,_,M1,C,hK,ee,by rw[lX];show hrun,λσ' aC M' H' s' st'=>#[rfl,?_]]
  let(M2,s2,aI,_):=q1.leave (r:=.dat .non) R1 hl nd s' st' .non HW rfl;show#[aN,M2,s2,q2.trans aI]
 .
  cases r with
  |error ev=>
   have hq:Gi X.prog X.w X.stack H1 s1 (λcls _ H'=>cls=.ref C/\∃bC M2,S z gO σ bC M2 H'/\aq M H M2 H') ev s':=hq
   let(y,C',H',rfl,I',fl,hC,bC,M2,s2,aI):=Ik hex I1 hq;cases hC;show ac aj s' H' bC M2 y I' s2 aI fl
  |ok flw=>
   cases flw with
   |ret u=>let(_,_,_,_,_,_,_,q):=hq;show q.elim
   |next=>show False.elim hq
   |brk=>show False.elim hq
   |cont=>show False.elim hq
end
abbrev veM:List Value:=[.type "ValueError",.type "Exception",.type "BaseException",.type "object"]
meta abbrev eK(K:Frag)(C:Addr):Prop:=PySem.W.excIn K C veM "ValueError.__new__"=true
def ur{K:Frag}{h:Heap}{C:Addr}(X:K.In h)(q:eK K C) :
  ∃bm N nm qn bs hdct sn sub ab col dd k0 k1 k2 k3 k5 mN,h.get? C=!(excClassObj nm qn C N bs bm hdct sn sub ab col dd k0 k1 k2 k3 k5 "ValueError.__new__")/\h.Ns N mN/\mN "__init__"=none/\OwnTail h veM bm:=by
 delta eK PySem.W.excIn at q;split at q
 .
  ext dd cd sl ho;split at q
  .
   ext C' bm k0 k1 k2 k3 n k5 hm hs;simp only[hU,beq_iff_eq,Cc]at q;let(((((rfl,rfl),hdel),ht),hok),hni):=q;let(nm,bs,mro,ns,qn,hd,sn,sub,ab,col,del):=cd;subst hm hdel;have hsl:sl = ([k0,k1,k2,k3,!(.builtin "ValueError.__new__"),k5].toArray):=by obtain⟨l⟩:=sl;simp only at hs;rw[hs]
   subst hsl;show#[bm,ns,nm,qn,bs,hd,sn,sub,ab,col,dd,k0,k1,k2,k3,k5,_,X _ _ ho,.of_isNs (PySem.W.isNs_of_in X hok),PySem.W.nsMap_none_of_in X hok hni,PySem.W.tail_of_in X ht]
  . cases q
 . cases q
def vX(x:cB P w H h a o):∃ob,h.get? a=!ob:=by
 induction o with
 |lst xs=>let(_,_,_,_,e):=x;show#[_,e]
 |tup xs=>let(_,_,_,ob,e,_):=x;show#[_,e]
 |dK lJ=>let(_,_,_,_,o,_,_,e,_):=x;show#[_,e]
 |dT lJ=>let(_,_,_,_,o,_,_,e,_):=x;show#[_,e]
 |set φ=>let(o,e,_):=x;show#[_,e]
 |ins C dx fs=>let(_,_,_,e,_):=x;show#[_,e]
 |own y=>show x
 |xd fs=>let(mA,(o,_,_,e,_),_):=x;show#[_,e]
 |nO lo hi=>let(_,_,_,e):=x;show#[_,e]
 |dJ o u ih=>show#[_,x.1]
 |nP ps=>show#[_,x]
 |met f y=>show#[_,x]
 |ext φ=>show x.2.1
section
def Io(hc:X.calm=true)(hex:X.ex=[])(hq:eK X.K C)(hg:Gl X x)(hm:X.mg x=!(.ref C))(jN:(x==(~~~3))=false)(ha:dg X z [m] g [.dat d] g1)(hs:starEach [m] X.env=[(false,eval m X.env)]) :
  Vj X z (.Raise (!(.Call (.Name x np) [m] [] bN)) none pos) g C g1:=by
 apply#[λ_ σ H=>∃As M,S z g σ As M H/\DY X z g1 M H C,?_,λσ As M H E s ac=>#[As,M,s,ac]]
 rintro aj s σ H E I ⟨As,M,st,ac⟩;let(bm,N,nm,qn,bs,hdct,sn,sub,ab,col,dd,k0,k1,k2,k3,k5,mN,hC,hN,hni,T):=ur I.ok.mod.ym hq;apply wpAny_Raise_call_subU (nm:=nm) (q:=qn) (N:=N) (bs:=bs) (hdct:=hdct) (sn:=sn) (sub:=sub) (ab:=ab) (col:=col) (dd:=dd) (k0:=k0) (k1:=k1) (k2:=k2) (k3:=k3) (k5:=k5) PySem.F.excBase_ValueError ⋯ PySem.F.excBase_ValueError (T.hasType ⋯) (I.ok.hd hc) (by rw[hs];rfl) hni (fJ I hg hm #[rfl,?_] jN)
 rw[hs];apply Calls.evalArgs_plain (x:=eval m X.env) (rest:=[]) ?_;have e1:spliced ((false,eval m X.env)::[])=spliced (backTo bN (starEach [m] X.env)):=by rw[hs];rfl
 rw[e1];apply (ha.run I st λvs us s1 H1 aN M1 I1 r1 q1 q2 R1=>?_)
 apply#[rfl,?_,I1.bk _ _ hC,hN.keeps I1.bk,T.keeps I1.bk,λh' e hme=>?_]
 . exact us.length<=sizeLine;have:=r1.length;rw[R1.length]at this;rw[<- this];show (by decide:(1:Nat)<=16777216)
 .
  have I2:=I1.kept (t':=s1.toks) hme.keeps;have lI:H1 e=none:=by
   cases q:H1 e with
   |none=>rfl
   |some o=>let(ob,ho):=vX (I1.hok e o q);have hn:=hme.new;rw[ho]at hn;cases hn
  apply ac σ aj _ H1 aN M1 e I2 q1 q2 ?_;let(t,ht,_,_):=hme.there;apply#[#[_,_,ht,rfl,rfl,rfl,by simp,.inl ⋯],?_,lI]
  cases q:X.s₀.heap.get? e with
  |none=>rfl
  |some o=>
   let(ob,ho):=I1.base.there e o q (by rw[hex];simp)
   have hn:=hme.new;rw[ho]at hn;cases hn
end
section
def Ip(F:jP X.prog X.w X.K X.mg X.base yL k f fd ps sp)(h:Z4 X z (e::es) g C g')(hr:cC k X.A)(hg:Gl X x)(hm:X.mg x=!(.ref f))(hk:PySem.W.keepIn X.K (.ref f)=true)(hb:L2.Binds X.K fd ps [])
  (jN:(x==(~~~3))=false) (he:starEach (e::es) X.env=(false,eval e X.env)::starEach es X.env) (lN:(backTo pos (starEach es X.env)).any (·.1)=false):Gj X z (.Call (.Name x p) (e::es) [] pos) g C g':=by
 let(t,q,kk):=h;show#[_,Ar F hr hg hm hk hb .nil Rm q jN he lN,λσ As M H Q s ac=>kk σ As M H _ s ac]
end
open PySem PySem.W PyProof.Rows
abbrev iz{α:Type}(lt:Nat->Nat->Bool):KasT α->α
 |.ret a=>a
 |.ask i j k=>iz lt (k (lt i j))
def eW{α β:Type}(lt:Nat->Nat->Bool)(f:α->KasT β):∀t:KasT α,iz lt (t.bind f)=iz lt (f (iz lt t))
 |.ret _=>rfl
 |.ask i j k=>eW lt f (k (lt i j))
structure lM(α:Type) where
 lt:α->α->Bool
 irr:∀a,lt a a=false
 tr:∀a b c,lt a b=true->lt b c=true->lt a c=true
 tot:∀a b,lt a b=false->lt b a=false->a=b
namespace lM
variable{α:Type}(O:lM α)
abbrev le(a b:α):Prop:=O.lt b a=false
variable{O}
def le_refl(a:α):O.le a a:=O.irr a
def le_of_lt(h:O.lt a b=true):O.le a b:=by
 delta le;cases e:O.lt b a
 . rfl
 . have:=O.tr _ _ _ h e;rw[O.irr]at this;cases this
def sL(h1:O.le a b)(h2:O.le b c):O.le a c:=by
 delta le at *;cases e:O.lt c a with
 |false=>rfl
 |true=>
  exfalso;cases e1:O.lt a b with
  |true=>have:=O.tr _ _ _ e e1;rw[h2]at this;cases this
  |false=>have hab:=O.tot a b e1 h1;subst hab;rw[h2]at e;cases e
def Bj(h1:O.le a b)(h2:O.le b a):a=b:=O.tot a b h2 h1
end lM
section
variable{α:Type}
abbrev ez(key:Nat->α)(p:Array Nat)(i:Nat):α:=key (p.getD i 0)
abbrev jC(O:lM α)(key:Nat->α)(p:Array Nat)(n:Nat):Prop:=∀i j,i<=j->j<n->O.le (ez key p i) (ez key p j)
abbrev jU(O:lM α)(key:Nat->α)(p:Array Nat)(n:Nat):Prop:=∀i j,i<=j->j<n->O.le (ez key p j) (ez key p i)
abbrev oF(O:lM α)(key:Nat->α)(i j:Nat):Bool:=O.lt (key i) (key j)
def getD_some{p q:Array Nat}{i j:Nat}(h:p[i]?=q[j]?):p.getD i 0=q.getD j 0:=by rw[AI,AI,h]
def oG{p:Array Nat}{i j:Nat}(hj:j<=p.size)(k:Nat):ez key (kas_rev p i j) k=if i<=k/\k<j then ez key p (i+j - 1 - k)else ez key p k:=by
 have e:=getElem?_mirror_all (i:=i) hj k;delta ez kas_rev;split
 . ext h;rw[i5 h]at e;rw[getD_some e]
 . ext h;rw[kA h]at e;rw[getD_some e]
def N5{p:Array Nat}{src d:Nat}(hs:src<p.size)(hd:d<=src)(k:Nat):ez key (bubble p src d) k=if k=src - d then ez key p src else if src - d<k/\k<=src then ez key p (k - 1)else ez key p k:=by
 have e:=getElem?_bubble hs d hd k;delta ez;by_cases h1:k=src - d
 . rw[i5 h1]at e ⊢;rw[getD_some e]
 .
  rw[kA h1]at e ⊢
  by_cases h2:src - d<k/\k<=src
  . rw[i5 h2]at e ⊢;rw[getD_some e]
  . rw[kA h2]at e ⊢;rw[getD_some e]
def jC.ext(h:jC O key p n)(hl:O.lt (ez key p n) (ez key p (n - 1))=false)(h1:1<=n):jC O key p (n+1):=by
 intro i j hij hj;by_cases e:j<n
 . show h i j hij e
 .
  have:j=n:=by lia
  subst this;by_cases e2:i=j
  . subst e2;show lM.le_refl _
  . show lM.sL (h i (j - 1) ⋯ ⋯) hl
def yV:∀(f n:Nat),1<=n->jC O key p n->∃m,iz (oF O key) (kas_asc p f n)=m/\n<=m/\m<=n+f/\jC O key p m/\(m<n+f->O.lt (ez key p m) (ez key p (m - 1))=true)
 | 0,n,_,h=>#[n,rfl,eA _,eA _,h,λz=>absurd z (pV _)]
 |f+1,n,h1,h=>by
  exact ∃m,iz (oF O key) (if oF O key (p.getD n 0) (p.getD (n - 1) 0)=true then KasT.ret n else kas_asc p f (n+1))=m/\_
  cases e:oF O key (p.getD n 0) (p.getD (n - 1) 0)with
  |true=>show#[n,rfl,eA _,by lia,h,λ_=>e]
  |false=>let(m,q1,q2,q3,q4,q5):=yV f (n+1) ⋯ (h.ext e h1);show#[m,q1,by lia,by lia,q4,λz=>q5 ⋯]
def jU.ext(h:jU O key p n)(hl:O.le (ez key p n) (ez key p (n - 1)))(h1:1<=n):jU O key p (n+1):=by
 intro i j hij hj;by_cases e:j<n
 . show h i j hij e
 .
  have:j=n:=by lia
  subst this;by_cases e2:i=j
  . subst e2;show lM.le_refl _
  . show lM.sL hl (h i (j - 1) ⋯ ⋯)
def jU.Vo(h:jU O key p n)(hk:∀k,ez key p' k=ez key p k):jU O key p' n:=λi j a b=>by rw[hk,hk];show h i j a b
abbrev Z5(key:Nat->α)(p:Array Nat)(n q:Nat):Prop:=q+1<=n/\∀k,n - (q+1)<=k->k<n->ez key p k=ez key p (n - 1)
def Bm(h:Z5 key p n q)(hz:n<=p.size)(k:Nat):ez key (kas_rev p (n - (q+1)) n) k=ez key p k:=by
 rw[oG hz];split
 . ext hk;rw[h.2 k hk.1 hk.2,h.2 (n - (q+1)+n - 1 - k) ⋯ ⋯]
 . rfl
def oH:∀(f:Nat) (p:Array Nat) (n q:Nat),1<=n->n+f<=p.size->jU O key p n->Z5 key p n q->
  ∃p' m q',iz (oF O key) (kas_desc f p n q)=(p',m,q')/\p'.Perm p/\n<=m/\m<=n+f/\jU O key p' m/\Z5 key p' m q'
 | 0,p,n,q,_,_,h,hq=>#[p,n,q,rfl,BU _,eA _,eA _,h,hq]
 |f+1,p,n,q,h1,hz,h,hq=>by
  exact ∃p' m q',iz (oF O key) (if oF O key (p.getD n 0) (p.getD (n - 1) 0)=true then (if q > 0 then kas_desc f (kas_rev p (n - (q+1)) n) (n+1) 0 else kas_desc f p (n+1) 0)
   else .ask (p.getD (n - 1) 0) (p.getD n 0) λd=>if d=true then .ret (p,n,q)else kas_desc f p (n+1) (q+1))=(p',m,q')/\_
  cases e:oF O key (p.getD n 0) (p.getD (n - 1) 0)with
  |true=>
   have hl:=lM.le_of_lt e;have one:∀p':Array Nat,Z5 key p' (n+1) 0:=λp'=>#[by lia,λk a b=>by have:k=n:=⋯;subst this;rfl]
   by_cases hq0:q > 0
   .
    rw[i5 hq0];have hk:=Bm hq (by lia:n<=p.size)
    have hF:=(h.ext hl h1).Vo hk;let(p',m,q',r1,r2,r3,r4,r5,r6):=oH f (kas_rev p (n - (q+1)) n) (n+1) 0 ⋯ (by rw[kas_rev_size];lia) hF (one _)
    show#[p',m,q',r1,r2.trans (mirror_perm _ _ _ _),by lia,by lia,r5,r6]
   . rw[kA hq0];let(p',m,q',r1,r2,r3,r4,r5,r6):=oH f p (n+1) 0 ⋯ ⋯ (h.ext hl h1) (one _);show#[p',m,q',r1,r2,by lia,by lia,r5,r6]
  |false=>
   exact ∃p' m q',iz (oF O key) (if oF O key (p.getD (n - 1) 0) (p.getD n 0)=true then .ret (p,n,q)else kas_desc f p (n+1) (q+1))=(p',m,q')/\_
   cases e2:oF O key (p.getD (n - 1) 0) (p.getD n 0)with
   |true=>show#[p,n,q,rfl,BU _,eA _,by lia,h,hq]
   |false=>
    have he:ez key p n=ez key p (n - 1):=O.tot _ _ e e2;have hq':Z5 key p (n+1) (q+1):=#[by have:=hq.1;lia,λk a b=>by
     exact ez key p k=ez key p n;by_cases hk:k=n
     . subst hk;rfl
     .
      rw[he];show hq.2 k ⋯ ⋯]
    let(p',m,q',r1,r2,r3,r4,r5,r6):=oH f p (n+1) (q+1) ⋯ ⋯ (h.ext (by rw[he];show lM.le_refl _) h1) hq'
    show#[p',m,q',r1,r2,by lia,by lia,r5,r6]
def Iq(h:jU O key p n)(hz:n<=p.size):jC O key (kas_rev p 0 n) n:=λi j a b=>by
 rw[oG hz,oG hz,i5 #[by lia,by lia],i5 #[by lia,by lia]]
 show h _ _ ⋯ ⋯
def vY(h1:1<=n)(hn:n<=nrem)(hz:nrem<=p.size)(h:jU O key p n):∃m p',iz (oF O key) (kas_tail3 n nrem p)=(m,p')/\p'.Perm p/\1<=m/\m<=nrem/\jC O key p' m:=by delta kas_tail3;rw[eW];let(m,q1,q2,q3,q4,_):=yV (nrem - n) n h1 (Iq h ⋯);rw[q1];show#[m,_,rfl,mirror_perm _ _ _ _,by lia,by lia,q4]
def m7(h1:1<=n)(hn:n+1<=nrem)(hz:nrem<=p.size)(h:jU O key p (n+1)):∃m p',iz (oF O key) (kas_descPart n nrem p)=(m,p')/\p'.Perm p/\1<=m/\m<=nrem/\jC O key p' m:=by
 delta kas_descPart;rw[eW];let(p',m,q',r1,r2,r3,r4,r5,r6):=oH (nrem - (n+1)) p (n+1) 0 ⋯ ⋯ h #[by lia,λk a b=>by have:k=n:=⋯;subst this;rfl]
 rw[r1];have hs:=r2.size_eq;by_cases hq:q' > 0
 .
  rw[i5 hq];have hk:=Bm r6 (by lia:m<=p'.size)
  let(m',p2,s1,s2,s3,s4,s5):=vY (nrem:=nrem) ⋯ ⋯ (by rw[kas_rev_size];lia) (r5.Vo hk)
  show#[m',p2,s1,(s2.trans (mirror_perm _ _ _ _)).trans r2,s3,s4,s5]
 . rw[kA hq];let(m',p2,s1,s2,s3,s4,s5):=vY (nrem:=nrem) ⋯ ⋯ ⋯ r5;show#[m',p2,s1,s2.trans r2,s3,s4,s5]
def Ir(h1:1<=n)(hz:n<=p.size):∃m p',iz (oF O key) (kas_count n p)=(m,p')/\p'.Perm p/\1<=m/\m<=n/\jC O key p' m:=by
 delta kas_count;rw[eW];let(m,q1,q2,q3,q4,q5):=yV (O:=O) (n - 1) 1 (eA _) (λi j a b=>by have e1:i=0:=⋯;have e2:j=0:=⋯;subst e1;subst e2;show lM.le_refl _)
 rw[q1];by_cases e1:(m==n)=true
 . rw[i5 e1];show#[m,p,rfl,BU _,q2,by lia,q4]
 .
  rw[kA e1];have n9:=q5 ⋯;by_cases e2:m > 1
  .
   rw[i5 e2];exact ∃m' p',iz (oF O key) (if oF O key (p.getD 0 0) (p.getD (m - 1) 0)=true then KasT.ret (m,p)else kas_descPart m n (kas_rev p 0 m))=(m',p')/\_
   cases e3:oF O key (p.getD 0 0) (p.getD (m - 1) 0)with
   |true=>show#[m,p,rfl,BU _,q2,by lia,q4]
   |false=>
    have eq0:∀k,k<m->ez key p k=ez key p (m - 1):=λk hk=>by
     apply lM.Bj (q4 k (m - 1) ⋯ ⋯) ?_;show lM.sL (show O.le (ez key p (m - 1)) (ez key p 0)from e3) (q4 0 k ⋯ hk)
    have hk:∀k,ez key (kas_rev p 0 m) k=ez key p k:=λk=>by
     rw[oG ⋯];split
     . rw[eq0 _ ⋯,eq0 k ⋯]
     . rfl
    have hF:jU O key (kas_rev p 0 m) (m+1):=by
     apply jU.Vo (jU.ext (λi j a b=>?_) (lM.le_of_lt n9) ⋯) hk
     rw[eq0 i ⋯,eq0 j b];show lM.le_refl _
    let(m',p2,s1,s2,s3,s4,s5):=m7 q2 (by lia:m+1<=n) (by rw[kas_rev_size];show hz) hF
    show#[m',p2,s1,s2.trans (mirror_perm _ _ _ _),s3,s4,s5]
  .
   rw[kA e2];have hF:=jU.ext (λi j a b=>by have e1:i=0:=⋯;have e2:j=0:=⋯;subst e1;subst e2;show lM.le_refl _) (lM.le_of_lt n9) q2
   show m7 q2 ⋯ hz hF
def pZ(hR:jC O key p k):∀(f l r:Nat),l<=r->r<=k->r - l<=f->(∀i,i<l->O.le (ez key p i) (ez key p k))->(∀i,r<=i->i<k->O.lt (ez key p k) (ez key p i)=true)->
  ∃m,iz (oF O key) (kas_place p k f l r)=m/\m<=k/\(∀i,i<m->O.le (ez key p i) (ez key p k))/\∀i,m<=i->i<k->O.lt (ez key p k) (ez key p i)=true
 | 0,l,r,h1,h2,h3,h4,h5=>#[l,rfl,by lia,h4,λi a b=>h5 i ⋯ b]
 |f+1,l,r,h1,h2,h3,h4,h5=>by
  delta kas_place;by_cases e:l ≥ r
  . rw[i5 e];show#[l,rfl,by lia,h4,λi a b=>h5 i ⋯ b]
  .
   rw[kA e];exact ∃m,iz (oF O key) (if oF O key (p.getD k 0) (p.getD ((l+r) / 2) 0)=true then kas_place p k f l ((l+r) / 2)else kas_place p k f ((l+r) / 2+1) r)=m/\_
   cases e2:oF O key (p.getD k 0) (p.getD ((l+r) / 2) 0)with
   |true=>
    apply pZ hR f l ((l+r) / 2) ⋯ ⋯ ⋯ h4 λi a b=>?_
    by_cases hi:r<=i
    . show h5 i hi b
    .
     have q:=hR _ _ a b;cases e3:O.lt (ez key p k) (ez key p i)with
     |true=>rfl
     |false=>
      have:=lM.sL q (show O.le (ez key p i) (ez key p k)from e3)
      have Mu:O.lt (ez key p k) (ez key p ((l+r) / 2))=true:=e2;rw[this]at Mu;cases Mu
   |false=>
    apply pZ hR f ((l+r) / 2+1) r ⋯ h2 ⋯ (λi a=>?_) h5
    show lM.sL (hR i ((l+r) / 2) ⋯ ⋯) e2
def Iu:∀(f:Nat) (p:Array Nat) (k:Nat),k+f<=p.size->jC O key p k->∃p',iz (oF O key) (kas_bin f p k)=p'/\p'.Perm p/\jC O key p' (k+f)
 | 0,p,k,_,h=>#[p,rfl,BU _,h]
 |f+1,p,k,hz,h=>by
  delta kas_bin;rw[eW];let(l,q1,q2,q3,q4):=pZ h k 0 k (wE _) (eA _) ⋯ (λi a=>absurd a (qS _)) (λi a b=>absurd (Nat.lt_of_le_of_lt a b) (pV _))
  rw[q1];have hk:=λi=>N5 (key:=key) (p:=p) (src:=k) (d:=k - l) ⋯ ⋯ i
  have hR:jC O key (bubble p k (k - l)) (k+1):=λi j a b=>by
   rw[hk,hk];have e:k - (k - l)=l:=by lia
   rw[e];by_cases i1:i=l
   .
    rw[i5 i1];by_cases j1:j=l
    . rw[i5 j1];show lM.le_refl _
    .
     rw[kA j1,i5 #[by lia,by lia]]
     show lM.le_of_lt (q4 (j - 1) ⋯ ⋯)
   .
    rw[kA i1];by_cases i2:l<i/\i<=k
    .
     rw[i5 i2,kA ⋯,i5 #[by lia,by lia]]
     show h _ _ ⋯ ⋯
    .
     rw[kA i2];by_cases j1:j=l
     . rw[i5 j1];show q3 i ⋯
     .
      rw[kA j1];by_cases j2:l<j/\j<=k
      . rw[i5 j2];show h _ _ ⋯ ⋯
      . rw[kA j2];show h _ _ a ⋯
  let(p',s1,s2,s3):=Iu f (bubble p k (k - l)) (k+1) (by rw[bubble_size];lia) hR
  show#[p',s1,s2.trans (bubble_perm _ _ _),by rw[show k+(f+1)=k+1+f by lia];show s3]
def N6(h1:1<=n):∃p,iz (oF O key) (kas_sort n)=p/\p.Perm (List.range n).toArray/\jC O key p n:=by
 delta kas_sort;rw[eW];let(m,p,q1,q2,q3,q4,q5):=Ir (p:=(List.range n).toArray) h1 ⋯;rw[q1];have hs:p.size=n:=by rw[q2.size_eq];simp
 have e:max m 1=m:=by lia
 rw[e];by_cases hm:m<n
 . rw[i5 hm];let(p',s1,s2,s3):=Iu (n - m) p m ⋯ q5;show#[p',s1,s2.trans q2,by rw[show m+(n - m)=n by lia]at s3;show s3]
 .
  rw[kA hm];have:m=n:=by lia
  subst this;show#[p,rfl,q2,q5]
end
abbrev Bo{α:Type}(n:Nat)(P:α->Prop):KasT α->Prop
 |.ret a=>P a
 |.ask i j k=>i<n/\j<n/\∀b,Bo n P (k b)
def Bo.bind{α β:Type}{n:Nat}{P:α->Prop}{Q:β->Prop}{f:α->KasT β}:∀{t:KasT α},Bo n P t->(∀a,P a->Bo n Q (f a))->Bo n Q (t.bind f)
 |.ret a,h,hf=>hf a h
 |.ask _ _ _,h,hf=>#[h.1,h.2.1,λb=>(h.2.2 b).bind hf]
def vZ{α:Type}{n:Nat}{P:α->Prop}{lt:Nat->Nat->Bool}{cmp:Nat->Nat->(Bool->Shared->Prop)->Shared->Prop}{Q:α->Shared->Prop}{s:Shared}(hc:∀i j C,i<n->j<n->C (lt i j) s->cmp i j C s):∀t:KasT α,Bo n P t->Q (iz lt t) s->t.kasWp cmp Q s
 |.ret _,_,h=>h
 |.ask i j k,ok,h=>hc i j _ ok.1 ok.2.1 (vZ hc (k (lt i j)) (ok.2.2 _) h)
abbrev p7(n:Nat)(p:Array Nat):Prop:=0<n/\∀x∈p.toList,x<n
def p7.at(h:p7 n p)(i:Nat):p.getD i 0<n:=by
 rw[AI];cases e:p[i]? with
 |none=>show h.1
 |some x=>show h.2 x (by rw[t8]at e;let(hi,rfl):=e;simp)
def p7.perm(h:p7 n p)(e:p'.Perm p):p7 n p':=#[h.1,λx hx=>h.2 x ((Bn.mp e).mem_iff.mp hx)]
def p7.rev(h:p7 n p)(i j:Nat):p7 n (kas_rev p i j):=h.perm (mirror_perm _ _ _ _)
def p7.bub(h:p7 n p)(i j:Nat):p7 n (bubble p i j):=h.perm (bubble_perm _ _ _)
section
def yW(h:p7 N p):∀f n,Bo N (λ_=>True) (kas_asc p f n)
 | 0,_=>trivial
 |f+1,n=>#[h.at _,h.at _,λb=>by cases b <;> first |show trivial |show yW h f (n+1)]
def oJ:∀f p n q,p7 N p->Bo N (λr=>p7 N r.1) (kas_desc f p n q)
 | 0,_,_,_,h=>h
 |f+1,p,n,q,h=>by
  apply#[h.at _,h.at _,λb=>?_]
  dsimp only;cases b with
  |true=>
   by_cases hq:q > 0
   . rw[i5 hq];show oJ f _ _ _ (h.rev _ _)
   . rw[kA hq];show oJ f _ _ _ h
  |false=>
   apply#[h.at _,h.at _,λd=>?_]
   cases d with
   |true=>show h
   |false=>show oJ f _ _ _ h
def v5{p:Array Nat}{n nrem:Nat}(h:p7 N p):Bo N (λr=>p7 N r.2) (kas_tail3 n nrem p):=(yW (h.rev 0 n) _ _).bind λ_ _=>h.rev 0 n
def m8{p:Array Nat}{n nrem:Nat}(h:p7 N p):Bo N (λr=>p7 N r.2) (kas_descPart n nrem p):=by
 apply (oJ _ _ _ _ h).bind λr hr=>?_
 by_cases hq:r.2.2 > 0
 . rw[i5 hq];show v5 (p7.rev hr _ _)
 . rw[kA hq];show v5 hr
def Iv{p:Array Nat}{n:Nat}(h:p7 N p):Bo N (λr=>p7 N r.2) (kas_count n p):=by
 apply (yW h _ _).bind λm _=>?_
 by_cases e1:(m==n)=true
 . rw[i5 e1];show h
 .
  rw[kA e1];by_cases e2:m > 1
  .
   rw[i5 e2];apply#[h.at _,h.at _,λb=>?_]
   cases b with
   |true=>show h
   |false=>show m8 (h.rev _ _)
  . rw[kA e2];show m8 h
def p8(h:p7 N p):∀f l r,Bo N (λ_=>True) (kas_place p k f l r)
 | 0,_,_=>trivial
 |f+1,l,r=>by
  delta kas_place;by_cases e:l ≥ r
  . rw[i5 e];show trivial
  .
   rw[kA e];apply#[h.at _,h.at _,λb=>?_]
   cases b with
   |true=>show p8 h f _ _
   |false=>show p8 h f _ _
def Iw:∀f p k,p7 N p->Bo N (λ_=>True) (kas_bin f p k)
 | 0,_,_,_=>trivial
 |f+1,p,k,h=>(p8 h _ _ _).bind λl _=>Iw f _ _ (h.bub _ _)
def N7{n:Nat}(h:0<n):Bo n (λ_=>True) (kas_sort n):=by
 apply (Iv #[h,λx hx=>by simpa using hx]).bind λr hr=>?_
 by_cases e:r.1<n
 . rw[i5 e];show Iw _ _ _ hr
 . rw[kA e];show trivial
end
open L2 PySem.W
section
variable{α:Type}{key:Nat->α}
abbrev fh(s:Shared)(a:Addr)(vs:List Value):Shared:={ s with heap:=((s.heap.update a (Obj.mapSeq λ_=>([].toArray))).push (seqObj "tuple" vs.toArray 0)).push (seqObj "list" ([].toArray) 0)}
def v7(hb:b≠a)(h:s.heap.get? b=!o):(fh s a vs).heap.get? b=!o:=
 dE _ (dE _ ((lS s.heap _ hb.symm).trans h))
def Iz(ho:s.heap.get? a=!(seqObj "list" vs.toArray n))(h2:2<=vs.length)(h64:vs.length<64)
  (hk:∀Q:SortKind->Shared->Prop,Q κ (fh s a vs)->wpAny (model prog w) A (keyKind' vs.toArray) Q (λ_ _=>False) (fh s a vs))
  (hc:∀i j C,i<vs.length->j<vs.length->C (oF O key i j) (fh s a vs)->kas_ask prog w A κ vs i j C (fh s a vs))
  (h:∀p:Array Nat,p.Perm (List.range vs.length).toArray->jC O key p vs.length->P (.done (.ret .none)) { s with heap:=sortedHeap s.heap a vs (p.toList.map λi=>vs.getD i Value.none).toArray}) :
  wpAny (model prog w) A (Builtin.«list.sort» #[[.ref a],[]]) P E s:=by
 obtain⟨e1,yU⟩:∃e1,(s.heap.update a (Obj.mapSeq λ_=>([].toArray))).get? a=!(seqObj "list" ([].toArray) e1):=#[_,get?_update_seq ho (λ_=>([].toArray))]
 have Z6:(fh s a vs).heap.get? a=!(seqObj "list" ([].toArray) e1):=dE _ (dE _ yU);have hz:vs.length<=sizeLine:=(by rw[oS];lia)
 rw[list_sort_plain];apply aS (listItems_at ho rfl (aS (listUpdate_at ho rfl (aS (seqEpoch_at yU rfl (aS (wpAny_newTuple (aS (wpAny_newList (nV ?_) (wE _))) (by exact vs.length<=_;show hz))))) (by simpa using hz) (wE _))))
 have hn : ¬ vs.toArray.size<2:=by rw[d5];lia
 rw[kA hn,kA hn];apply aS (i9 (hk (λk s0=>k=κ/\s0=fh s a vs) #[rfl,rfl]) ?_ λ_ _ z=>z.elim)
 rintro _ _ ⟨rfl,rfl⟩;let(p0,q1,q2,q3):=N6 (n:=vs.length) ⋯;apply aS (i9 (kat_run (Q:=λst' s'=>s'=fh s a vs/\failedOf st'=none/\(arrOf st').map (·.2)=(p0.toList.map λi=>vs.getD i Value.none).toArray) (G:=λp s'=>s'=fh s a vs/\p=p0)
  rfl h2 h64 (λp st' s' _ har hf hg=>?_) (vZ hc _ (N7 ⋯) #[rfl,q1])) ?_ λ_ _ z=>z)
 . let(rfl,rfl):=hg;show#[rfl,hf,kat_snds rfl har]
 .
  rintro⟨⟨⟩,st'⟩ s' ⟨rfl,hf,hout⟩;dsimp only at hf hout ⊢
  have aL:(p0.toList.map λi=>vs.getD i Value.none).length=vs.length:=by rw[eC,oD,q2.size_eq];simp
  rw[hout];apply aS (seqEpoch_at Z6 rfl (aS (listUpdate_at Z6 rfl ?_ (wE _) (by exact (List.toArray _).size<=_;rw[d5];lia))))
  rw[hf];simp only[bne_self_eq_false];show dS (h p0 q2 q3)
def Bp{β:Type}:∀l:List β,(l.zip l).map (·.2)=l
 | []=>rfl
 |x::l=>by rw[List.zip_cons_cons,List.map_cons,Bp l]
def IK(ho:s.heap.get? a=!(seqObj "list" vs.toArray n))(h2:vs.length<2)
  (h:P (.done (.ret .none)) { s with heap:=sortedHeap s.heap a vs vs.toArray}):wpAny (model prog w) A (Builtin.«list.sort» ⟨[.ref a],[]⟩) P E s:=by
 obtain⟨e1,yU⟩:∃e1,(s.heap.update a (Obj.mapSeq λ_=>([].toArray))).get? a=!(seqObj "list" ([].toArray) e1):=#[_,get?_update_seq ho (λ_=>([].toArray))]
 have Z6:(fh s a vs).heap.get? a=!(seqObj "list" ([].toArray) e1):=dE _ (dE _ yU);have hz:vs.length<=sizeLine:=(by rw[oS];lia)
 rw[list_sort_plain];apply aS (listItems_at ho rfl (aS (listUpdate_at ho rfl (aS (seqEpoch_at yU rfl (aS (wpAny_newTuple (aS (wpAny_newList (nV ?_) (wE _))) (by exact vs.length<=_;show hz))))) (by simpa using hz) (wE _))))
 have hn:vs.toArray.size<2:=by rw[d5];lia
 dsimp only;rw[i5 hn,i5 hn];apply aS (dS ?_);apply aS (dS ?_);have hout:(arrOf (SortSt.mk' general' (vs.toArray.zip vs.toArray) ([].toArray) 7 none)).map (·.2)=vs.toArray:=by exact (vs.toArray.zip vs.toArray).map (·.2)=vs.toArray;refine Array.toList_inj.mp;simp only[Array.toList_map,Array.toList_zip];show Bp vs
 rw[hout];apply aS (seqEpoch_at Z6 rfl (aS (listUpdate_at Z6 rfl ?_ (wE _) (by exact vs.toArray.size<=_;rw[d5];lia))))
 rw[kA ⋯];show dS h
abbrev N8(h:Heap)(vs:List Value):Heap:=((h.push (seqObj "list" ([].toArray) 0)).update h.objs.size (Obj.mapSeq (· ++ vs.toArray))).push (seqObj "list" vs.toArray 0)
def sM(h:Heap)(vs:List Value):((h.push (seqObj "list" ([].toArray) 0)).update h.objs.size (Obj.mapSeq (· ++ vs.toArray))).objs.size=h.objs.size+1:=(Heap.size_update ..).trans (size_push' ..)
def uv(h:Heap)(vs:List Value):(N8 h vs).get? (h.objs.size+1)=!(seqObj "list" vs.toArray 0):=by have:=fN ((h.push (seqObj "list" ([].toArray) 0)).update h.objs.size (Obj.mapSeq (· ++ vs.toArray))) (o:=seqObj "list" vs.toArray 0) rfl;rw[sM]at this;show this
def v8(e:h.get? b=!o):(N8 h vs).get? b=!o/\b≠h.objs.size+1:=by have hb:=fA e;apply#[dE _ ?_,kS (Nat.lt_succ_of_lt hb)];rw[lS _ _ (AC hb)];show dE _ e
def Ea{l:Addr}{vs:List Value}{Q:Value->Shared->Prop}(hl:s.heap.IsList l vs.toArray)(hz:vs.length<=sizeLine)
  (h:wpAny (model prog w) A.in1.in1 (Builtin.«list.sort» #[[.ref (s⁻¹+1)],[]]) (λf s'=>f=.done (.ret .none)/\Q (.ref (s⁻¹+1)) s') E { s with heap:=N8 s.heap vs}) :
  wpAny (model prog w) A (call (.builtin "sorted") [.ref l]) Q E s:=by
 apply Calls.call_function_entry kind_sorted plain_sorted entry_sorted (args_sorted1 _) ?_;apply aS (dS (aS (collect_list hl ?_ hz)));apply aS (wpAny_newList ?_ hz);rw[sM];apply aS (nV (t7 slot_list_sort #[_,uv _ _,rfl] entry_list_sort (i9 h (λf s' hf=>#[_,hf.1,?_]) λ_ _ z=>z) (args_list_sort _)))
 show dS #[_,rfl,hf.2]
end
def mj:∀a:List Int,HT.lexLt a a=false
 | []=>rfl
 |x::a=>by rw[HT.dB,i5 rfl,mj a]
def v9:∀a b c:List Int,HT.lexLt a b=true->HT.lexLt b c=true->HT.lexLt a c=true
 | [],[],_,h,_=>by symm
 |_::_,[],_,h,_=>by symm
 |_,_::_,[],_,h=>by symm
 | [],_::_,_::_,_,_=>rfl
 |x::a,y::b,z::c,h1,h2=>by
  rw[HT.dB]at h1 h2 ⊢
  by_cases e1:x=y
  .
   rw[i5 e1]at h1;subst e1;by_cases e2:x=z
   .
    rw[i5 e2]at h2 ⊢
    show v9 a b c h1 h2
   .
    rw[kA e2]at h2 ⊢
    show h2
  .
   rw[kA e1]at h1;by_cases e2:y=z
   . rw[i5 e2]at h2;subst e2;rw[kA e1];show h1
   . rw[kA e2]at h2;rw[kA ⋯];show oC ⋯
def mq:∀a b:List Int,HT.lexLt a b=false->HT.lexLt b a=false->a=b
 | [],[],_,_=>rfl
 | [],_::_,h,_=>by symm
 |_::_,[],_,h=>by symm
 |x::a,y::b,h1,h2=>by
  rw[HT.dB]at h1 h2;by_cases e:x=y
  . subst e;rw[i5 rfl]at h1 h2;rw[mq a b h1 h2]
  .
   rw[kA e]at h1;rw[kA (λz=>e z.symm)]at h2
   lia
abbrev fj:lM (~~~0):=#[HT.lexLt,mj,v9,mq]
section
variable{α:Type}(O:lM α)
abbrev Eb(a:α):List α->List α
 | []=>[a]
 |b::l=>if O.lt b a then b::Eb a l else a::b::l
abbrev bK:List α->List α
 | []=>[]
 |a::l=>Eb O a (bK l)
variable{O}
def mz(a:α):∀l:List α,(Eb O a l).Perm (a::l)
 | []=>AE _
 |b::l=>by
  delta Eb;split
  . show ((mz a l).cons b).trans (List.Perm.swap a b l)
  . show AE _
def bX:∀l:List α,(bK O l).Perm l
 | []=>AE _
 |a::l=>(mz a _).trans ((bX l).cons a)
def m9(a:α):∀{l:List α},l.Pairwise O.le->(Eb O a l).Pairwise O.le
 | [],_=>List.pairwise_singleton _ _
 |b::l,h=>by
  let(h1,h2):=sR.mp h;delta Eb;cases e:O.lt b a with
  |true=>
   apply sR.mpr #[λx hx=>?_,m9 a h2]
   rcases d6.mp ((mz a l).mem_iff.mp hx)with rfl |hx
   . show lM.le_of_lt e
   . show h1 x hx
  |false=>
   apply sR.mpr #[λx hx=>?_,h]
   rcases d6.mp hx with rfl |hx
   . show e
   . show lM.sL (show O.le a b from e) (h1 x hx)
def gQ:∀l:List α,(bK O l).Pairwise O.le
 | []=>List.Pairwise.nil
 |a::l=>m9 a (gQ l)
def yX(hp:m.Perm l)(hs:m.Pairwise O.le):m=bK O l:=
 (hp.trans (bX l).symm).eq_of_pairwise (λx y _ _ h1 h2=>lM.Bj h1 h2) hs (gQ l)
def iO{β:Type}(ks:List β)(d:β):(List.range ks.length).map (λi=>ks.getD i d)=ks:=by
 apply List.ext_getElem ⋯ λi h1 h2=>?_
 simp[i4 h2]
def wc(hp:p.Perm (List.range ks.length).toArray)(hr:jC O (λi=>ks.getD i d) p ks.length):p.toList.map (λi=>ks.getD i d)=bK O ks:=by
 have hl:=Bn.mp hp;apply yX ((hl.map _).trans (by rw[iO])) ?_
 rw[AO];intro i j hi hj hij;have hs:p.size=ks.length:=by rw[hp.size_eq];simp
 rw[eC,oD]at hi hj;have:=hr i j (BC hij) ⋯;delta ez at this;have e1:p.getD i 0=p[i]:=by simp[hi]
 have e2:p.getD j 0=p[j]:=by simp[hj]
 rw[e1,e2]at this;simpa using this
end
open L2 PySem.W
section
def IV(hv:IntsAre vs ns):∀{ws:List Value}{ms: ~~~0} (i:Nat),IntsAre ws ms->fin=decide (ns.length<ms.length)->Q (HT.lexLt ns ms) s->KatLex prog w A true fin Q (vs.zip ws) i s:=by
 induction hv with
 |nil=>
  intro ws ms i hu hf h;apply kat_nil ?_;rw[hf];cases hu with
  |nil=>show h
  |cons _=>show h
 |@cons n t vs ns hv ih=>
  intro ws ms i hu hf h;cases hu with
  |nil=>apply kat_nil ?_;rw[hf];show h
  |@cons m t' us ms hu=>
   apply kat_cons (wpAny_eqBool_int (kat_go (λe=>?_) (λe=>?_)))
   .
    have e':=eq_of_beq e;apply kat_yes (ih (i+1) hu (by rw[hf];simp) ?_)
    rw[HT.dB,i5 e']at h;show h
   .
    have e':n≠m:=λq=>by rw[q]at e;simp at e
    rw[HT.dB,kA e']at h;apply kat_no ?_;cases i with
    |zero=>show oneLt_int h
    |succ i=>show kat_one _ _ (lt_int h)
abbrev IW(h:Heap)(v:Value)(ns: ~~~0):Prop:=∃a ao,v=.ref a/\IsTup h a ao/\IntsAre ao.toList ns
def IW.keep(x:IW h v ns)(k:∀b o,h.get? b=!o->h'.get? b=!o):IW h' v ns:=let #[a,its,e,t,i]:=x;#[a,its,e,t.keeps k,i]
inductive TupIs(h:Heap):List Value->List (~~~0)->Prop
 |nil:TupIs h [] []
 |cons {v:Value}{ns: ~~~0}{vs:List Value}{eU: ~~~5}:IW h v ns->TupIs h vs eU->TupIs h (v::vs) (ns::eU)
def TupIs.keep(k:∀b o,h.get? b=!o->h'.get? b=!o)(t:TupIs h vs eU):TupIs h' vs eU:=by
 induction t with
 |nil=>show .nil
 |cons a b ih=>show .cons (a.keep k) ih
def TupIs.length(t:TupIs h vs eU):vs.length=eU.length:=by
 induction t with
 |nil=>rfl
 |cons a b ih=>show congrArg (· + 1) ih
def TupIs.at(t:TupIs h vs eU)(hi:i<vs.length):IW h (vs.getD i .none) (eU.getD i []):=by
 induction t generalizing i with
 |nil=>show absurd hi (qS _)
 |cons a b ih=>cases i with
  |zero=>show a
  |succ i=>show ih (AZ hi)
def TupIs.firsts(t:TupIs h vs eU)(lI:∀ns∈eU,ns≠[]):∃fs:List Value,KatTups h vs fs/\fs.length=vs.length/\∀v∈fs,∃i t,v=.int i t:=by
 induction t with
 |nil=>show#[[],.nil,rfl,λ_ z=>nomatch z]
 |@cons v ns vs eU a b ih=>
  let(fs,q1,q2,q3):=ih λns hn=>lI ns (bP _ hn)
  let(a,ao,e,(o,e1,e2,n,e3),hi):=a;subst e;obtain⟨ao⟩:=ao;cases ao with
  |nil=>
   cases ns with
   |nil=>show absurd rfl (lI [] dA)
   |cons _ _=>cases hi
  |cons v ao=>
   cases ns with
   |nil=>cases hi
   |cons m ns=>cases hi;show#[_::fs,KatTups.cons e1 e2 e3 rfl q1,by rw[lL,lL,q2],λv hv=>(d6.mp hv).elim (λz=>#[_,_,z]) (q3 v)]
def Ec:Looks M h (typeOf (.int i t)) (.type "int"):=.now
def wg{l:Addr}{vs:List Value}{eU: ~~~5}{Q:Value->Shared->Prop}(hl:s.heap.IsList l vs.toArray)(ht:TupIs s.heap vs eU)(lI:∀ns∈eU,ns≠[])(h64:vs.length<64)
  (h:∀p:List Nat,p.Perm (List.range vs.length)->p.map (λi=>eU.getD i [])=bK fj eU->Q (.ref (s⁻¹+1)) { s with heap:=sortedAll s.heap vs (p.map λi=>vs.getD i Value.none).toArray}) :
  wpAny (model prog w) A (call (.builtin "sorted") [.ref l]) Q E s:=by
 have hz:vs.length<=sizeLine:=by rw[oS];lia
 apply Ea hl hz ?_;have aL:=ht.length;by_cases h2:vs.length<2
 .
  apply IK (uv _ _) h2 #[rfl,?_];have:=h (List.range vs.length) (AE _) (by
   rw[aL]
   match eU,aL with
   | [],_=>rfl
   | [x],_=>rfl
   |_::_::_,hl2=>rw[hl2,lL,lL]at h2;lia)
  rw[iO]at this;show this
 .
  have keep:∀b o,s.heap.get? b=!o->(fh { s with heap:=N8 s.heap vs} (s⁻¹+1) vs).heap.get? b=!o:=λb o e=>v7 (v8 (vs:=vs) e).2 (v8 e).1
  have ht':=ht.keep keep;apply Iz (κ:=tuples' true) (O:=fj) (key:=λi=>eU.getD i []) (uv _ _) ⋯ h64 (λQ' hq=>?_) (λi j C hi hj hC=>?_) λp hp hr=>#[rfl,?_]
  . let(fs,q1,q2,q3):=ht'.firsts lI;show kat_kind (T:=.type "int") q1 ⋯ (λv hv=>by let(i,t,rfl):=q3 v hv;show Ec) ⋯ hq
  . let(a,its,e,(o,e1,e2,n,e3),q):=ht'.at hi;let(b,jF,e',(o2,e4,e5,n2,e6),q'):=ht'.at hj;exact wpAny _ _ (keyLt' (tuples' true) (vs.getD i Value.none) (vs.getD j Value.none)) C _ _;rw[e,e'];apply kat_lt e1 e3 e4 e6 (IV q 0 q' ?_ hC);rw[<- q.length,<- q'.length];simp
  . rw[aL]at hp hr;show h p.toList (by rw[aL];show (Bn.mp hp).trans ⋯) (wc hp hr)
end
section
abbrev p9:List D->Option (~~~5)
 | []=>![]
 |.tup l::ds=>match bF l,p9 ds with |!(n::ns),!eU=>!((n::ns)::eU) |_,_=>none
 |_::_=>none
inductive qa(K:Frag)(H:Hp):List V->List (~~~0)->Prop
 |nil:qa K H [] []
 |cons {a:Addr}{ns: ~~~0}{vs:List V}{eU: ~~~5}:jG K H a (ns.map V.int)->qa K H vs eU->qa K H (.ref a::vs) (ns::eU)
def qa.real(I:L2.Inv X aj σ H s)(t:qa X.K H xs eU):∀{its:List Value},Vals xs its->TupIs s.heap its eU:=by
 induction t with
 |nil=>intro its r;cases r;show .nil
 |cons q _ ih=>
  intro its r;cases r with
  |cons r rs=>cases r;let(jF,r2,p,_):=I.tuple q;show .cons #[_,_,rfl,p,by simpa using intsAre_of r2] (ih rs)
def Ed(h:Vals xs us):∀{i:Nat},i<xs.length->RelV (xs.getD i .non) (us.getD i .none):=by
 induction h with
 |nil=>intro i hi;show absurd hi (qS _)
 |cons r _ ih=>
  intro i hi;cases i with
  |zero=>show r
  |succ i=>show ih (by simpa using hi)
def sN(h:Vals xs us):∀{p:List Nat},(∀i∈p,i<xs.length)->Vals (p.map λi=>xs.getD i .non) (p.map λi=>us.getD i .none)
 | [],_=>.nil
 |i::p,hp=>.cons (Ed h (hp i dA)) (sN h λj hj=>hp j (bP _ hj))
def uw:d9 X (.builtin "sorted") (λxs H Q=>∃p ys eU,xs=[.ref p]/\cA X.K H p ys/\qa X.K H ys eU/\(∀ns∈eU,ns≠[])/\ys.length<64/\
  ∀q (o:List Nat),H q=none->(∀i∈o,i<ys.length)->o.map (λi=>eU.getD i [])=bK fj eU->Q (.ref q) (upd H q (.lst (o.map λi=>ys.getD i .non)))):=by
 intro aj s σ H xs us Q I r h;let(p,ys,eU,rfl,hq,ht,lI,hl,q):=h;let(u,rfl,rx):=vals1 r;cases rx;let(its,r',pl,hz):=I.list hq;have aL:=r'.length;apply wg pl.isList (ht.real I r') lI ⋯ λo ho hs=>?_
 let(ep,he):=sortedAll_at s.heap its (o.map λi=>its.getD i Value.none).toArray
 have hin:∀i∈o,i<ys.length:=λi hi=>by rw[aL];show t5.mp (ho.mem_iff.mp hi)
 have hol:o.length=ys.length:=by rw[ho.length_eq,List.length_range,aL]
 apply#[.ref (s⁻¹+1),_,I.laid (λb ob e=>sortedAll_old e) (A7 _) ?_,rfl,q _ o (I.hok.fresh (A7 _)) hin hs]
 show#[by rw[eC,oS];lia,_,ep,sN r' hin,he]
def N9(e:bF l=!ns):l=ns.map .int:=by
 induction l generalizing ns with
 |nil=>cases e;rfl
 |cons d l ih=>cases d with
  |int i=>
   have e:(match bF l with |some ns=>!(i::ns) |none=>none)=!ns:=e
   cases e2:bF l with
   |none=>rw[e2]at e;cases e
   |some ms=>rw[e2]at e;cases e;rw[List.map_cons,<- ih e2]
  |_=>cases e
def Ef{K:Frag}{M:List Addr}{H:Hp}{l:List D}{xs:List V}{eU: ~~~5}(q:aK K M H l xs)(e:p9 l=!eU):qa K H xs eU/\(∀ns∈eU,ns≠[])/\l=eU.map λns=>.tup (ns.map .int):=by
 induction l generalizing xs eU with
 |nil=>cases q;cases e;show#[.nil,λ_ z=>(nomatch z),rfl]
 |cons d l ih=>cases q with |cons r q=>cases d with
  |tup m=>
   delta p9 at e;split at e
   .
    ext n ns eU e1 e2;cases e;let(t1,t2,t3):=ih q e2;cases r with
    |tup ha rr=>
     have:=eV rr e1;subst this;apply#[.cons ha.sq t1,λx hx=>(d6.mp hx).elim (λz=>by rw[z];show List.cons_ne_nil _ _) (t2 x),?_]
     rw[List.map_cons,<- t3,N9 e1]
   . cases e
  |_=>cases e
def aK.pick{K:Frag}{M:List Addr}{H:Hp}{ds:List D}{vs:List V}(h:aK K M H ds vs):∀{o:List Nat},(∀i∈o,i<vs.length)->aK K M H (o.map λi=>ds.getD i .non) (o.map λi=>vs.getD i .non)
 | [],_=>.nil
 |i::o,ho=>by
  apply .cons ?_ (h.pick λj hj=>ho j (bP _ hj))
  have hi:=ho i dA;have hd:i<ds.length:=by rw[h.length];show hi
  let(v,e1,e2):=h.get (i:=i) (d:=ds[i]) (by simp[hd])
  have q1:ds.getD i .non=ds[i]:=by simp[hd]
  have q2:vs.getD i .non=v:=by rw[t9,e1];rfl
  exact Rep K M H (ds.getD i .non) (vs.getD i .non);rw[q1,q2];show e2
def yZ{l:List D}{eU: ~~~5}(hK:z.K=X.K)(hi:p9 l=!eU)(hl:eU.length<64):CallD X z (.builtin "sorted") [.lst l] (.new ((bK fj eU).map λns=>.tup (ns.map .int))):=by
 apply#[_,uw,λg σ As M H vs Q s p k=>?_]
 let(v,rfl,pv):=p.one;let(a,xs,rfl,e1,rr):=pv.list;let(t1,t2,t3):=Ef rr hi;have aL:xs.length=eU.length:=by rw[<- rr.length,t3,eC]
 apply#[a,xs,eU,rfl,cA.of e1,hK▸t1,t2,by lia,λq o hf hin hs=>?_]
 have e:((bK fj eU).map λns=>D.tup (ns.map .int))=o.map λi=>l.getD i .non:=by
  rw[<- hs,List.map_map];apply y6 λi hi=>?_
  have:i<eU.length:=by rw[<- aL];show hin i hi
  rw[t3];simp[this]
 have rr':=(rr.pick hin).stay (aq.aO (o:=.lst (o.map λi=>xs.getD i .non)) hf)
 apply k _ _ As (q::M) (s.aO hf) (aq.aO hf) #[q,_,rfl,dA,λhA=>s.fresh hf (s.sub q hA),s.bO hf,aA,?_]
 rw[e];show rr'
end
open L2 PySem.W
abbrev ng(F:(Nat->Int)->Nat->Nat)(n:Int)(l: ~~~0):Int:=(n::l).getD (F (λi=>(n::l).getD i 0) l.length) 0
meta abbrev Ja:Int->~~~0->Int:=ng λf=>argBest λi j=>decide (f i<f j)
meta abbrev y9:Int->~~~0->Int:=ng λf=>argBest λi j=>decide (f i > f j)
def wj{F:(Nat->Int)->Nat->Nat}{R:Int->Int->Prop}(h:∀f k,F f k<=k/\∀j,j<=k->R (f (F f k)) (f j))(n:Int)(l: ~~~0):ng F n l∈n::l/\∀x∈n::l,R (ng F n l) x:=by
 let(h1,h2):=h (λi=>(n::l).getD i 0) l.length
 apply#[?_,λx hx=>?_]
 .
  delta ng;rw[t9,i4 (by rw[lL];lia)]
  show u8 _
 .
  let(j,hj,rfl):=BB hx;have q:=h2 j (by rw[lL]at hj;lia)
  rw[t9 (i:=j),i4 hj]at q;show q
def Oa(n:Int)(l: ~~~0):Ja n l∈n::l/\∀x∈n::l,Ja n l<=x:=wj argBest_lt n l
def Ob(n:Int)(l: ~~~0):y9 n l∈n::l/\∀x∈n::l,x<=y9 n l:=wj (R:=λa b=>b<=a) argBest_gt n l
section
variable{X:Cx}{z:Z}
def za{ns: ~~~0}{its:List Value}(r:Vals (ns.map V.int) its):∃xs:Array (Int×Tok),its.toArray=intItems xs/\xs.size=ns.length/\numAt xs=λi=>ns.getD i 0:=by
 have:∃l:List (Int×Tok),its=l.map (λp=>.int p.1 p.2)/\l.map (·.1)=ns:=by
  induction ns generalizing its with
  |nil=>cases r;show#[[],rfl,rfl]
  |cons n ns ih=>
   cases r with
   |cons r rs=>let(t,rfl):=r;let(l,rfl,rfl):=ih rs;show#[(n,t)::l,rfl,rfl]
 let(l,rfl,rfl):=this;show#[l.toArray,by simp[intItems],by simp,funext λi=>by simp[numAt]]
def Bq{F:(Nat->Int)->Nat->Nat}{nm:String}(hc:X.calm=true) (hw:∀{s:Shared}{p:Addr}{xs:Array (Int×Tok)}{Q:Value->Shared->Prop},X.A.handled=none->s.heap.IsList p (intItems xs)->0<xs.size->
   (∀v h' tk,(intItems xs)[F (numAt xs) (xs.size - 1)]?=!v->(∀b o,s.heap.get? b=!o->h'.get? b=!o)->Q v { s with heap:=h',toks:=tk})->wpAny (~~~2) X.A (call (.builtin nm) [.ref p]) Q X.xe s)
  {l:List D}{n:Int}{ns: ~~~0} (hi:bF l=!(n::ns)):CallD X z (.builtin nm) [.lst l] (.dat (.int (ng F n ns))):=by
 apply#[λxs H Q=>∃p,xs=[.ref p]/\cA X.K H p ((n::ns).map V.int)/\Q (.int (ng F n ns)) H,λaj s σ H xs us Q I r h=>?_,λg σ As M H vs Q s p k=>?_]
 .
  let(p,rfl,hp,q):=h;let(u,rfl,rx):=vals1 r;cases rx;let(its,rv,pl,hz):=I.list hp;let(xs,e1,e2,e3):=za rv;have:=pl.isList;rw[e1]at this;apply hw (I.ok.hd hc) this (by rw[e2];show Nat.succ_pos _) λv h' tk hv hk=>?_
  let(t,rfl):=intItems_at hv;show#[.int (ng F n ns),H,I.kept hk,#[t,by rw[e2,e3];rfl],q]
 . let(v,rfl,pv):=p.one;let(a,xs,rfl,e1,e2):=pv.list;have:=eV e2 hi;subst this;show#[a,rfl,cA.of e1,k _ _ As M s (aq.refl _ _) (.int _)]
def Oc{l:List D}{n:Int}{ns: ~~~0}(hc:X.calm=true)(hi:bF l=!(n::ns)):CallD X z (.builtin "min") [.lst l] (.dat (.int (Ja n ns))):=Bq hc (λa b c d=>min_intList a b c d) hi
def Od{l:List D}{n:Int}{ns: ~~~0}(hc:X.calm=true)(hi:bF l=!(n::ns)):CallD X z (.builtin "max") [.lst l] (.dat (.int (y9 n ns))):=Bq hc (λa b c d=>max_intList a b c d) hi
end
open L2 PySem.W
open L2 PySem.W SeqAt
open L2 PySem.W SeqAt
open L2 PySem.W SeqAt
open L2 PySem.W SeqAt
section
def cT.of (h:∀(aj: ~~~1) (s:Shared) (σ:Sg) (As M:List Addr) (H:Hp) (Post:Value->Shared->Prop),L2.Inv X aj σ H s->S z g σ As M H->
  (∀v s1,(∀(R:It->Hp->Prop),(∀J H' aC M',S z g1 σ aC M' H'->aq M H M' H'->Jt J ao z.K M' H'->R J H')->wpAny (~~~2) X.A (pyIter v) (PIE X aj σ tg R) X.xe s1)->Post v s1)->wpAny (~~~2) X.A (eval iter X.env) Post X.xe s):cT X z tg iter g ao g1:=
 #[λσ H R=>∃As M,S z g σ As M H/\(∀J H' aC M',S z g1 σ aC M' H'->aq M H M' H'->Jt J ao z.K M' H'->R J H'),by rintro aj s σ H R I ⟨As,M,st,k⟩;show h aj s σ As M H _ I st λv s1 q=>q R k,λσ As M H R s k=>#[As,M,s,k]]
end
open L2 PySem.W SeqAt
section
def zb(hit:s.heap.IsTupleIter it t i)(ht:s.heap.IsTuple t ao)(hx:ao[i]?=!x)(hQ:∀h',h'.IsTupleIter it t (i+1)->Heap.SameBut it s.heap h'->Q x { s with heap:=h'}):wpAny (model prog w) A (Builtin.SmallTypes.nextOf (.ref it)) Q E s:=by let(o,ho,hc,hd):=id hit;let(ol,hol,_,nl,hdl):=ht;apply aS (yB hit.typeIs AJ (t7 AJ hit.typeIs F.entry_tuple_iterator_next ?_ (F.args_tuple_iterator_next_1 _)));exact wpAny _ _ (field (.ref it) 0 >>= _) _ _ s;apply aS (tS ho hd rfl ?_);apply aS (tS ho hd rfl ?_);apply aS (AY hol hdl ?_);simp only[AU,hx];apply aS (AF ho hd ⋯ (dS #[x,rfl,dS (hQ _ #[_,nK _ ho (wT (pE hd _)),(B9 ..).trans hc,?_] (y7 ..))]));rw[pE hd];simp[rawInt]
def rC(hh:A.handled=none)(hit:s.heap.IsTupleIter it t i)(ht:s.heap.IsTuple t ao)(hx:ao[i]?=none)
  (hE:∀h' e,Heap.ExtBut it s.heap h'->(∃o,h'.get? e=!o/\o.cls=.type "StopIteration")->E (.ref e) { s with heap:=h'}):wpAny (model prog w) A (Builtin.SmallTypes.nextOf (.ref it)) Q E s:=by
 let(o,ho,hc,hd):=id hit;let(ol,hol,_,nl,hdl):=ht;apply aS (yB hit.typeIs AJ (t7 AJ hit.typeIs F.entry_tuple_iterator_next ?_ (F.args_tuple_iterator_next_1 _)));exact wpAny _ _ (field (.ref it) 0 >>= _) _ _ s;apply aS (tS ho hd rfl ?_);apply aS (tS ho hd rfl ?_);apply aS (AY hol hdl ?_);simp only[AU,hx];apply aS (AT (aS (AF ho hd ⋯ ?_)));apply aS ?_;apply aS (y0 (aS (wpAny_of_eq (by first |rfl | (simp only[firstArgMember];rfl)) (y0 ?_ (by size_fits)))) (by size_fits))
 apply aS (wpAny_handled ?_)
 first |rw[show A.in1.handled=none from hh] |rw[hh]
 show aS (dS (wpAny_throw (hE _ _ (((y7 ..).extBut.push _).push _) #[_,fN _ rfl,rfl])))
def zc(hh:A.handled=none)(it t:Addr)(lI:t≠it)(ao:Array Value):Draws prog w A it [it,t] ao.size (λi v=>ao[i]?=!v) (λi h=>h.IsTupleIter it t i/\h.IsTuple t ao) where
 live:=λ_ _ st=>let #[o,ho,_]:=st.1;#[o,ho]
 frame:=λ_ _ _ st hk=>by
  let((o,ho,r),(o',ho',r')):=st;show#[#[o,hk it ⋯ o ho,r],#[o',hk t ⋯ o' ho',r']]
 item:=λi s Q E hi st hQ=>zb st.1 st.2 (x:=ao[i]) (by simp[hi]) λh' Vp hs'=>hQ _ h' s.toks (by simp[hi]) #[Vp,IsTup.extBut st.2 hs'.extBut lI] hs'
 done:=λs Q E st hE=>rC hh st.1 st.2 ⋯ hE
end
open L2 PySem.W SeqAt
section
variable{X:Cx}{aj: ~~~1}{σ:Sg}{H:Hp}{s:Shared}
def Inv.Vq{h':Heap}{t':Nat}{ch:List Addr}(I:L2.Inv X aj σ H s)(hf:∀b∈ch,jA X aj H b)(k:∀b o,b∉ch->s.heap.get? b=!o->h'.get? b=!o):L2.Inv X aj σ H { s with heap:=h',toks:=t'}:=by
 have nH:∀b u,H b=!u->b∉ch:=λb u e z=>by rw[(hf b z).1]at e;cases e
 apply I.step (λb hb=>?_) (λb o _ _ hc e _=>k b o hc e) (λb o _ _ hc e _=>#[o.slots,k b o hc e]) (λ_ _ _ _ n=>n) (λb o hc e=>#[o,k b o hc e]) (λ_ _ e=>e) (λ_ _ _ e=>e) (λb ps e=>#[([].toArray),by rw[e];simp]) (λm hm=>?_) (λb u e=>?_) I.bare
 . let(f0,f1,f2,f3,f4,f5):=hf b hb;show#[f3,f1,f4,f5]
 . let(o,es,ep,ho,rr):=hm;show#[o,es,ep,k _ o (λz=>(hf _ z).2.1 rfl) ho,rr]
 .
  apply (I.hok b u e).stay (λc w hc q=>k c w (λz=>?_) q) (λ_ q=>q) λ_ _ q=>q
  rcases hc with rfl |hc
  . show nH _ _ e z
  . show nH _ _ hc z
def Inv.Jb{h':Heap}{t':Nat}{ch:List Addr}{xs:List V}{its:List Value}(I:L2.Inv X aj σ H s)(hf:∀b∈ch,jA X aj H b)(k:∀b o,b∉ch->s.heap.get? b=!o->h'.get? b=!o)(hz:xs.length<=sizeLine)(rv:Vals xs its)(ht:iC h' s⁻¹ its.toArray) :
  L2.Inv X aj σ (upd H s⁻¹ (.tup xs)) { s with heap:=h',toks:=t'}:=by
 have nH:∀b u,H b=!u->b∉ch:=λb u e z=>by rw[(hf b z).1]at e;cases e
 have fr:=I.hok.fresh (eA _);have nn:∀b u,H b=!u->b≠s⁻¹:=λb u e z=>by rw[z,fr]at e;cases e
 apply I.step (λb hb=>?_) (λb o _ _ hc e _=>k b o hc e) (λb o _ _ hc e _=>#[o.slots,k b o hc e]) (λb o _ e n=>by rw[az (kS (fA e))];show n) (λb o hc e=>#[o,k b o hc e]) (λb _ e=>by rw[az (nn _ _ e)];show e) (λb _ _ e=>by rw[az (nn _ _ e)];show e) (λb ps e=>#[([].toArray),by rw[az (nn _ _ e),e];simp]) (λm hm=>?_) (λb u e=>?_) I.bare
 . let(f0,f1,f2,f3,f4,f5):=hf b hb;show#[f3,f1,f4,f5]
 . let(o,es,ep,ho,rr):=hm;show#[o,es,ep,k _ o (λz=>(hf _ z).2.1 rfl) ho,rr]
 .
  by_cases hb:b=s⁻¹
  . subst hb;rw[aA]at e;cases e;show#[hz,its,rv,ht]
  .
   rw[az hb]at e;apply (I.hok b u e).stay (λc w hc q=>k c w (λz=>?_) q) (λc q=>by rw[az (nn _ _ q)];show q) λc _ q=>by rw[az (nn _ _ q)];show q
   rcases hc with rfl |hc
   . show nH _ _ e z
   . show nH _ _ hc z
end
def fpK{X:Cx}{aj: ~~~1}{σ:Sg}{H:Hp}{s:Shared}{c:Addr}(I:L2.Inv X aj σ H s)(f:jA X aj H c){o:Obj}(e:X.K.lookup c=!o):False:=by
 have e0:=I.ok.mod.ym c o e;rcases f.2.2.2.1 with q |q
 . show I.ok.vq c o e0 q
 . show absurd (eM (fA (I.ok.bs c o e0).1) q) (pV _)
def zg{X:Cx}{aj: ~~~1}{σ:Sg}{H:Hp}{s:Shared}{u c:Addr}{us:List V}(I:L2.Inv X aj σ H s)(h:cA X.K H u us)(f:jA X aj H c):u≠c:=λz=>by
 subst z;rcases h with (h |⟨o,h⟩) |h
 . rw[f.1]at h;symm
 . rw[f.1]at h;symm
 . let(o,_,_,h,_):=h;show fpK I f h
def Jc{X:Cx}{aj: ~~~1}{σ:Sg}{H:Hp}{s:Shared}{u c:Addr}{us:List V}(I:L2.Inv X aj σ H s)(h:jG X.K H u us)(f:jA X aj H c):u≠c:=λz=>by
 subst z;rcases h with (h |⟨o,h⟩) |h
 . rw[f.1]at h;symm
 . rw[f.1]at h;symm
 . let(o,_,_,h,_):=h;show fpK I f h
abbrev Ite(K:Frag)(a:Addr):It:=
 #[λi H=>∃xs x,cA K H a xs/\xs[i]?=!x,λi H x H'=>∃p y,(∀xs,cA K H a xs->xs[i]?=!y)/\H p=none/\x=.ref p/\H'=upd H p (.tup [.int (i:Int),y]),λi H=>∃xs,cA K H a xs/\xs.length=i]
def Eg{P:Program}{w:World}{K:Frag}{es:List Expr}{k:Nat}{pos:Pos}(e it a:Addr)(hei:e≠it):Turn P w K (.Tuple es k pos) (Ite K a) [e,it] e (λi h=>(∃old,IsEnum h e it (i:Int) old)/\h.IsListIter it a i) where
 mem:=by simp
 obj:=λi h st b hb=>by
  let((old,he),oi,e1,_,e2):=st;rcases d6.mp hb with rfl |hb
  . show#[_,he,λv z=>nomatch (show Data.fields _=Data.cell v from z)]
  . cases i3.mp hb;show#[oi,e1,λv z=>by rw[e2]at z;cases z]
 keep:=λi h h' st k=>by
  let((old,he),hi):=st;show#[#[old,k e ⋯ _ he],hi.at λo q=>k it ⋯ o q]
 item:=by
  intro X hP hw hK hc i aj s σ H E I hf st hg;subst hP hw hK;let((old,he),hi):=st;let(xs,x,hq,hx):=hg;let(its,rv,hat,hz):=I.list hq;have hae:a≠e:=zg I hq (hf e ⋯);have hai:a≠it:=zg I hq (hf it ⋯);have n9:i<its.length:=by rw[<- rv.length];show (dC.mp hx).1
  apply wpAny_pyNext_enum_itemD (Draws.list (A:=X.A.in1) (I.ok.hd hc) it a hai its.toArray) he #[hi,hat.isList] n9 hei (by simp[hei,sT hae]) λu h1 tk hu hout cO ht hsz hkp=>#[_,rfl,?_]
  apply wpAny_letOwnedTupleGo_enum hout λh2 he2 hs2=>?_
  replace hs2:Heap.SameBut e h1 h2:=hs2;let(u',e1,ru):=rv.get hx;rw[Cn,e1]at hu;cases hu;have hpe:=AC (fA he);let(oi0,ei0,_):=id hi;have I3:=Inv.Jb (t':=tk+1) I (h':=h2) hf (xs:=[.int (i:Int),x]) (its:=[.int (i:Int) tk,u]) (λb o hb q=>by
   simp only[d6,n0,C6,not_or]at hb;show (hs2.2 b hb.1).trans (hkp b o hb.1 hb.2 q)) (by rw[oS];exact 2<=16777216;decide) (.cons #[tk,rfl] (.cons ru .nil)) #[_,(hs2.2 _ hpe).trans ht,#[rfl,_,rfl],rfl]
  have hfr:=I.hok.fresh (eA _);apply#[.ref s⁻¹,_,I3,rfl,#[_,x,λys hy=>by rw[I.vA hy hq];show hx,hfr,rfl,rfl],#[#[u,he2],cO.1.at λo q=>(hs2.2 it (sT hei)).trans q],λb hb=>?_]
  have hbn:b≠s⁻¹:=λz=>by
   rcases d6.mp hb with rfl |hb
   . show hpe z.symm
   . cases i3.mp hb;show absurd (fA ei0) (by rw[z];show pV _)
  rw[az hbn];show (hf b hb).1
 done:=by
  intro X hP hw hK hc i aj s σ H E I hf st hg;subst hP hw hK;let((old,he),hi):=st;let(xs,hq,hx):=hg;let(its,rv,hat,hz):=I.list hq;let(g0,g1,g2,g3,g4,g5):=hf it ⋯;have hl:i=its.length:=by rw[<- rv.length];show hx.symm
  subst hl;show wpAny_pyNext_enum_endD (Draws.list (A:=X.A.in1) (I.ok.hd hc) it a (zg I hq (hf it ⋯)) its.toArray) he #[hi,hat.isList] λh' eb=>#[rfl,I.turned (λb o hb q=>eb b o hb q) g0 g1 g3 g4 g5]
 self:=λA i s Q E st h=>by
  let((old,he),_):=st;show wpAny_pyIter_enum he h
section
abbrev ni(l:List D):List D:=l.zipIdx.map λp=>.tup [.int (p.2:Nat),p.1]
def Eh{l:List D}{n:Nat}{d:D}(h:(ni l)[n]?=!d):∃x,l[n]?=!x/\d=.tup [.int n,x]:=by
 delta ni at h;rw[nE]at h;cases e:l.zipIdx[n]? with
 |none=>rw[e]at h;symm
 |some q=>
  rw[e]at h;symm;rw[List.getElem?_zipIdx]at e;cases e2:l[n]? with
  |none=>rw[e2]at e;cases e
  |some x=>rw[e2]at e;cases e;show#[x,rfl,by simp]
def Ei(l:List D):(ni l).length=l.length:=by simp[ni]
def Oe{l:List D}(hK:z.K=X.K)(ha:dg X z [e] g [.dat (.lst l)] g1)(hg:Gl X "enumerate")(hm:X.mg "enumerate"=none)(cO:starEach [e] X.env=[(false,eval e X.env)]) :
  cT X z (.Tuple es k pos) (.Call (.Name "enumerate" p) [e] [] rp) g (ni l) g1:=by
 apply cT.of λaj s σ As M H Post I stt kk=>?_
 apply Call_ (gH I hg hm boot_enumerate (oQ (ha.run I stt λvs us s1 H1 aN M1 I1 r1 q1 q2 q3=>?_) cO rfl))
 cases q3 with
 |dat rp0 R=>
  cases R;let(u,rfl,ru):=vals1 r1;cases rp0 with
  |@lst _ a xs hb rr=>
   cases ru;let(its,rv,pl,hz):=I1.list (cA.of hb.2);have hsq:∀M2 H2,aq M1 H1 M2 H2->cA X.K H2 a xs:=λM2 H2 aI=>cA.of (aI _ _ hb.2 hb.1).1
   apply call_enumerate_list pl.isList λh' he hi hsz hk=>kk _ _ λR kR=>?_
   apply wpAny_pyIter_enum he ?_;have I2:=I1.kept (t':=s1.toks) hk;apply#[_,[s1⁻¹+1,s1⁻¹],_,Ite X.K a,H1,rfl,I2,Eg _ _ a (Nat.succ_ne_self _),#[#[_,he],hi],λb hb=>?_,kR _ H1 aN M1 q1 q2 λM2 H2 aI=>?_]
   .
    rcases d6.mp hb with rfl |hb
    . show I1.vB (A7 _) (I1.hok.fresh (A7 _))
    . cases i3.mp hb;show I1.vB (eA _) (I1.hok.fresh (eA _))
   .
    have HY:=rr.stay aI;apply#[λn d hd=>?_,xs,hsq M2 H2 aI,by rw[Ei];show rr.length.symm]
    let(x,e1,rfl):=Eh hd;let(v,e2,e3):=HY.get e1;apply#[#[xs,v,hsq M2 H2 aI,e2],λy H' hy z' g' σ' aC hz' s'=>?_]
    let(p,y',w1,w3,rfl,rfl):=hy;have w2:=w1 xs (hsq M2 H2 aI);rw[e2]at w2;cases w2;show#[s'.laid w3,aq.laid w3,.tup (.inl #[s'.fresh w3,.inl aA]) (.cons (.int _) (.cons (e3.stay (aq.laid w3)) .nil))]
end
open L2 PySem.W SeqAt
end Ev
namespace HT
open PySem PyProof.Rows
end HT
namespace Ev
open L2
section
meta abbrev m1(j:Nat)(p1 p3:Pos):Expr:=.UnaryOp .USub (.Constant (.int 1) j p1) p3
def Vs:aD X z (.Dict [] [] pos) g (.dat (.emp [])) g:=by
 apply#[λσ H Q=>∀p o,H p=none->Q (.ref p) (upd H p (.dJ o (dI []))),λaj s σ H Q I h=>wpAny_Dict_empty #[.ref s⁻¹,_,I.laid (λb ob q=>dE _ q) (eA _) ?_,rfl,h _ { cls:=.type "dict",data:=.dict ([].toArray)} (I.hok.fresh (eA _))],λσ As M H Q s k p o hp=>k _ _ As M (s.laid hp) (aq.laid hp) (.emp (s.fresh hp) aA)]
 apply#[fN _ rfl,wE _,?_,[],?_,Heap.DictOf.new _]
 .
  have h1:=(I.ok.mod.glob.keeps I.bk).lt;apply Bool.eq_false_iff.mpr λq=>?_
  have q:=eq_of_beq q;rw[q]at h1;show absurd h1 ⋯
 . show .nil
end
open L2 PySem.W SeqAt
section
structure Yn(r tI tO i j a b:Addr):Prop where
 n1:tI≠r/\tO≠r/\i≠r/\j≠r/\a≠r/\b≠r
 n2:tI≠tO/\i≠tO/\j≠tO/\a≠tO/\b≠tO
 n3:tI≠i/\tI≠j/\i≠j
 n4:a≠i/\b≠i/\a≠j/\b≠j
section
def ux{x a b:Addr}(h:x∈[a,b]):x=a\/x=b:=by simpa using h
def Jd{Q:Value->Shared->Prop}(N:Yn r tI tO i j a b)(D1:Draws prog w A i [i,a] n f S1)(D2:Draws prog w A j [j,b] m g S2)(hk:k<n)(hk2:k<m)
  (er:IsZip s.heap r tI tO .none) (eI:IsPair s.heap tI (.ref i) (.ref j)) (eO:IsPair s.heap tO c d) (t1:S1 k s.heap) (t2:S2 k s.heap)
  (hQ:∀u v h' tk,f k u->g k v->IsZip h' r tI tO (rawInt s⁻¹)->IsPair h' tO u v->S1 (k+1) h'->S2 (k+1) h'->IsPair h' s⁻¹ u v->h'.objs.size=s⁻¹+1->
   (∀x o,x≠r->x≠tO->x≠i->x≠j->s.heap.get? x=!o->h'.get? x=!o)->Q (.ref s⁻¹) { s with heap:=h',toks:=tk}) :
  wpAny (model prog w) A (Builtin.«zip.__next__» #[[.ref r],[]]) (λfin s'=>∃v,fin=.done (.ret v)/\Q v s') E s:=by
 let((p1,p2,p3,p4,p5,p6),(q1,q2,q3,q4,q5),(u1,u2,u3),(v1,v2,v3,v4)):=N;apply aS (m:=field (.ref r) 2) (tS er rfl rfl ?_);apply aS (tS er rfl rfl (aS (AY eI rfl ?_)));apply aS ?_;apply aS (tS er rfl rfl (dS ?_));apply aS (AT (aS (tS er rfl rfl (aS (A5 er ⋯ λha Og ka=>?_)))))
 replace Og:IsZip ha r tI tO .ellipsis:=Og;apply aS ?_;have t1a:=D1.frame k _ _ t1 λx hx o e=>(ka.2 x (by rcases ux hx with rfl |rfl;show p3;show p5)).trans e
 have t2a:=D2.frame k _ _ t2 λx hx o e=>(ka.2 x (by rcases ux hx with rfl |rfl;show p4;show p6)).trans e
 apply aS (aS (wpAny_onRaise (aS (D1.item k { s with heap:=ha} _ _ hk t1a λu hb tk1 fu t1b kb=>dS ?_))))
 have eOb:=(kb.2 _ (sT q2)).trans ((ka.2 _ p2).trans eO);apply aS (AY eOb rfl (aS (wpAny_updateSeq_pair eOb λhc eOc kc=>?_)))
 replace eOc:IsPair hc tO u d:=eOc;apply aS (wpAny_letGo (dS ?_));have t1c:=D1.frame _ _ _ t1b λx hx o e=>(kc.2 x (by rcases ux hx with rfl |rfl;show q2;show q4)).trans e
 have t2c:=D2.frame k _ _ t2a λx hx o e=>by
  replace hx:=ux hx;rw[kc.2 x (by rcases hx with rfl |rfl;show q3;show q5),kb.2 x (by rcases hx with rfl |rfl;show sT u3;show v2)]
  show e
 apply aS (aS (wpAny_onRaise (aS (D2.item k { s with heap:=hc,toks:=tk1} _ _ hk2 t2c λv hd tk2 gv t2d kd=>dS ?_))))
 have eOd:=(kd.2 _ (sT q3)).trans eOc;apply aS (AY eOd rfl (aS (wpAny_updateSeq_pair eOd λhe eOe ke=>?_)))
 replace eOe:IsPair he tO u v:=eOe;apply aS (wpAny_letGo (dS (dS ?_)));apply aS (AY eOe rfl (aS (wpAny_newTuple ?_)));have sz:he.objs.size=s⁻¹:=by rw[ke.1,kd.1,kc.1,kb.1];show ka.1
 have ere:IsZip he r tI tO .ellipsis:=by exact he.get? r=_;rw[ke.2 _ (sT p2),kd.2 _ (sT p4),kc.2 _ (sT p2),kb.2 _ (sT p3)];show Og
 have old:∀x o,x≠r->x≠tO->x≠i->x≠j->s.heap.get? x=!o->he.get? x=!o:=λx o x1 x2 x3 x4 e=>by
  rw[ke.2 _ x2,kd.2 _ x4,kc.2 _ x2,kb.2 _ x3];show (ka.2 _ x1).trans e
 have t1e:=D1.frame _ _ _ t1c λx hx o e=>by
  replace hx:=ux hx;rw[ke.2 x (by rcases hx with rfl |rfl;show q2;show q4),kd.2 x (by rcases hx with rfl |rfl;show u3;show v3)]
  show e
 have t2e:=D2.frame _ _ _ t2d λx hx o e=>(ke.2 x (by rcases ux hx with rfl |rfl;show q3;show q5)).trans e
 apply aS ?_;have erf:IsZip (he.push { cls:=.type "tuple",data:=.seq ([u,v].toArray)}) r tI tO .ellipsis:=dE _ ere;apply aS (A5 erf ⋯ λhg erg kg=>?_)
 replace erg:IsZip hg r tI tO (rawInt he.objs.size):=erg;apply A5 erg ⋯ λhh erh kh=>?_
 replace erh:IsZip hh r tI tO (rawInt he.objs.size):=erh;have up:∀x o,x≠r->he.get? x=!o->hh.get? x=!o:=λx o x1 e=>by rw[kh.2 _ x1,kg.2 _ x1];show dE _ e
 have rlt:=fA ere;have new:IsPair hh he.objs.size u v:=by exact hh.get? _=_;rw[kh.2 _ (AC rlt),kg.2 _ (AC rlt)];show fN _ rfl
 have szh:hh.objs.size=he.objs.size+1:=by rw[kh.1,kg.1,AD]
 have fr1:∀x o,x=i\/x=a->he.get? x=!o->hh.get? x=!o:=λx o hx e=>up x o (by rcases hx with rfl |rfl;show p3;show p5) e
 have fr2:∀x o,x=j\/x=b->he.get? x=!o->hh.get? x=!o:=λx o hx e=>up x o (by rcases hx with rfl |rfl;show p4;show p6) e
 rw[sz]at erh new szh;apply dS #[_,rfl,?_];rw[sz];show hQ u v hh tk2 fu gv erh (up _ _ p2 eOe) (D1.frame _ _ _ t1e λx hx o e=>fr1 x o (ux hx) e)
  (D2.frame _ _ _ t2e λx hx o e=>fr2 x o (ux hx) e) new szh λx o x1 x2 x3 x4 e=>up x o x1 (old x o x1 x2 x3 x4 e)
def Oh{Q:Fin->Shared->Prop}(N:Yn r tI tO i j a b)(D1:Draws prog w A i [i,a] n f S1)
  (er:IsZip s.heap r tI tO .none) (eI:IsPair s.heap tI (.ref i) (.ref j)) (eO:IsPair s.heap tO c d) (t1:S1 n s.heap)
  (hE:∀h' e tk,(∀x o,x≠r->x≠tO->x≠i->x≠j->s.heap.get? x=!o->h'.get? x=!o)->(∃o,h'.get? e=!o/\o.cls=.type "StopIteration")->E (.ref e) { s with heap:=h',toks:=tk}) :
  wpAny (model prog w) A (Builtin.«zip.__next__» #[[.ref r],[]]) Q E s:=by
 let((p1,p2,p3,p4,p5,p6),(q1,q2,q3,q4,q5),(u1,u2,u3),(v1,v2,v3,v4)):=N;apply aS (m:=field (.ref r) 2) (tS er rfl rfl ?_);apply aS (tS er rfl rfl (aS (AY eI rfl ?_)));apply aS ?_;apply aS (tS er rfl rfl (dS ?_));apply aS (AT (aS (tS er rfl rfl (aS (A5 er ⋯ λha Og ka=>?_)))))
 replace Og:IsZip ha r tI tO .ellipsis:=Og;apply aS ?_;have t1a:=D1.frame n _ _ t1 λx hx o e=>(ka.2 x (by rcases ux hx with rfl |rfl;show p3;show p5)).trans e
 have stop:∀(hb:Heap) (e:Addr) (tk:Nat),IsZip hb r tI tO .ellipsis->(∃o,hb.get? e=!o/\o.cls=.type "StopIteration")->e≠r:=by rintro hb e tk z ⟨o,h1,h2⟩ q;rw[q,z]at h1;cases h1;show absurd (show Value.type "zip"=.type "StopIteration" from h2) ⋯
 apply aS (aS (wpAny_onRaise (aS (D1.done { s with heap:=ha} _ _ t1a λhb e kb ex=>?_))))
 have erb:=kb _ _ (sT p3) Og;have ner:=stop hb e s.toks erb ex;let(oe,x1,x2):=ex;apply A5 erb ⋯ λhc _ kc=>?_
 show hE hc e s.toks (λx o y1 y2 y3 y4 z=>(kc.2 _ y1).trans (kb _ _ y3 ((ka.2 _ y1).trans z))) #[oe,(kc.2 _ ner).trans x1,x2]
end
section
def Je{Q:Option Value->Shared->Prop}(N:Yn r tI tO i j a b)(D1:Draws prog w A.in1 i [i,a] n f S1)(D2:Draws prog w A.in1 j [j,b] m g S2)(hk:k<n)(hk2:k<m)
  (er:IsZip s.heap r tI tO .none) (eI:IsPair s.heap tI (.ref i) (.ref j)) (eO:IsPair s.heap tO c d) (t1:S1 k s.heap) (t2:S2 k s.heap)
  (hQ:∀u v h' tk,f k u->g k v->IsZip h' r tI tO (rawInt s⁻¹)->IsPair h' tO u v->S1 (k+1) h'->S2 (k+1) h'->IsPair h' s⁻¹ u v->h'.objs.size=s⁻¹+1->
   (∀x o,x≠r->x≠tO->x≠i->x≠j->s.heap.get? x=!o->h'.get? x=!o)->Q (!(.ref s⁻¹)) { s with heap:=h',toks:=tk}):wpAny (model prog w) A (pyNext (.ref r)) Q E s:=by
 have ty:s.TypeIs (.ref r) "zip" :=#[_,er,rfl];show aS (BS (yB ty F.slot_zip_next (t7 F.slot_zip_next ty F.entry_zip_next
  (Jd N D1 D2 hk hk2 er eI eO t1 t2 λu v h' tk b1 b2 b3 b4 b5 b6 b7 b8 b9=>dS (hQ u v h' tk b1 b2 b3 b4 b5 b6 b7 b8 b9)) (F.args_zip_next_1 _))))
def wk{Q:Option Value->Shared->Prop}(N:Yn r tI tO i j a b)(D1:Draws prog w A.in1 i [i,a] n f S1)
  (er:IsZip s.heap r tI tO .none) (eI:IsPair s.heap tI (.ref i) (.ref j)) (eO:IsPair s.heap tO c d) (t1:S1 n s.heap)
  (hQ:∀h' tk,(∀x o,x≠r->x≠tO->x≠i->x≠j->s.heap.get? x=!o->h'.get? x=!o)->Q none { s with heap:=h',toks:=tk}):wpAny (model prog w) A (pyNext (.ref r)) Q E s:=by
 have ty:s.TypeIs (.ref r) "zip" :=#[_,er,rfl];apply aS (BS (yB ty F.slot_zip_next (t7 F.slot_zip_next ty F.entry_zip_next
  (Oh N D1 er eI eO t1 λh' e tk kp ex=>?_) (F.args_zip_next_1 _))))
 let(o,x1,x2):=ex;show aS (wpAny_isInstance #[o,x1,x2] isSubtype_stop (dS (hQ _ tk kp)))
end
end
open L2 PySem.W SeqAt
abbrev Itz(K:Frag)(a b:Addr):It:=
 #[λi H=>∃xs ys x y,jG K H a xs/\jG K H b ys/\xs[i]?=!x/\ys[i]?=!y,λi H x H'=>∃p u v,(∀xs,jG K H a xs->xs[i]?=!u)/\(∀ys,jG K H b ys->ys[i]?=!v)/\H p=none/\x=.ref p/\H'=upd H p (.tup [u,v]),
  λi H=>∃xs,jG K H a xs/\i=xs.length]
def Br{r tI tO i j a b:Addr}{n:Nat}{h:Heap}(st:IsZip h r tI tO .none/\IsPair h tI (.ref i) (.ref j)/\(∃c d,IsPair h tO c d)/\h.IsTupleIter i a n/\h.IsTupleIter j b n):∀x∈[r,tI,tO,i,j],∃o,h.get? x=!o/\∀v,o.data≠.cell v:=λx hx=>by
 let(er,eI,(c,d,eO),t1,t2):=st;simp only[d6,n0,C6]at hx;rcases hx with rfl |rfl |rfl |rfl |rfl
 . show#[_,er,λv z=>nomatch (show Data.fields _=Data.cell v from z)]
 . show#[_,eI,λv z=>nomatch (show Data.seq _ _=Data.cell v from z)]
 . show#[_,eO,λv z=>nomatch (show Data.seq _ _=Data.cell v from z)]
 . let(o,e1,_,e2):=t1;show#[o,e1,λv z=>by rw[e2]at z;cases z]
 . let(o,e1,_,e2):=t2;show#[o,e1,λv z=>by rw[e2]at z;cases z]
def Jf{P:Program}{w:World}{K:Frag}{es:List Expr}{k:Nat}{pos:Pos}(r tI tO i j a b:Addr)(A1:tI≠r/\tO≠r/\i≠r/\j≠r)(A2:tI≠tO/\i≠tO/\j≠tO)(A3:tI≠i/\tI≠j/\i≠j) :
  Turn P w K (.Tuple es k pos) (Itz K a b) [r,tI,tO,i,j] r (λn h=>IsZip h r tI tO .none/\IsPair h tI (.ref i) (.ref j)/\(∃c d,IsPair h tO c d)/\h.IsTupleIter i a n/\h.IsTupleIter j b n) where
 mem:=by simp
 obj:=λn h st x hx=>Br st x hx
 keep:=λn h h' st kp=>by
  let(er,eI,(c,d,eO),t1,t2):=st;show#[kp r ⋯ _ er,kp tI ⋯ _ eI,#[c,d,kp tO ⋯ _ eO],t1.at λo q=>kp i ⋯ o q,t2.at λo q=>kp j ⋯ o q]
 item:=by
  intro X hP hw hK hc n aj s σ H E I hf st hg;subst hP hw hK;let(er,eI,(c,d,eO),t1,t2):=id st;let(xs,ys,x,y,qx,qy,gx,gy):=hg;let(Z7,rx,Z8,zx):=I.tuple qx;let(ity,ry,aty,zy):=I.tuple qy;have nf:∀{u:Addr}{us:List V}{c:Addr},jG X.K H u us->c∈[r,tI,tO,i,j]->u≠c:=λh hc=>Jc I h (hf _ hc)
  have N:Yn r tI tO i j a b:=#[#[A1.1,A1.2.1,A1.2.2.1,A1.2.2.2,nf qx ⋯,nf qy ⋯],#[A2.1,A2.2.1,A2.2.2,nf qx ⋯,nf qy ⋯],A3,#[nf qx ⋯,nf qy ⋯,nf qx ⋯,nf qy ⋯]];have l1:n<Z7.length:=by rw[<- rx.length];show (dC.mp gx).1
  have l2:n<ity.length:=by rw[<- ry.length];show (dC.mp gy).1
  apply Je N (zc (A:=X.A.in1) (I.ok.hd hc) i a (nf qx ⋯) Z7.toArray) (zc (A:=X.A.in1) (I.ok.hd hc) j b (nf qy ⋯) ity.toArray) l1 l2 er eI eO #[t1,Z8] #[t2,aty] λu v h1 tk fu gv Og eO1 s1 s2 new sz kp=>#[_,rfl,?_]
  apply wpAny_letOwnedTupleGo_zip Og λh2 er2 k2=>?_
  let(u',e1,ru):=rx.get gx;let(v',e2,rv):=ry.get gy;rw[Cn,e1]at fu;cases fu;rw[Cn,e2]at gv;cases gv;have pr:=AC (fA er);have kk:∀x o,x∉[r,tO,i,j]->s.heap.get? x=!o->h2.get? x=!o:=λx o hx e=>by
   simp only[d6,n0,C6,not_or]at hx;show (k2.2 x hx.1).trans (kp x o hx.1 hx.2.1 hx.2.2.1 hx.2.2.2 e)
  have J:=Inv.Jb (t':=tk) I (λc hc=>hf c (by simp only[d6,n0]at hc ⊢;rcases hc with h |h |h |h <;> simp[h])) kk (by rw[oS];exact 2<=16777216;decide) (.cons ru (.cons rv .nil)) #[_,(k2.2 _ pr).trans new,#[rfl,_,rfl],rfl]
  have eI2:=kk _ _ (by simp[A1.1,A2.1,A3.1,A3.2.1]) eI
  apply#[.ref s⁻¹,_,J,rfl,#[_,x,y,λzs hz=>by rw[I.lQ hz qx];show gx,λzs hz=>by rw[I.lQ hz qy];show gy,I.hok.fresh (eA _),rfl,rfl],#[er2,eI2,#[u,v,(k2.2 _ A1.2.1).trans eO1],s1.1.at λo q=>(k2.2 _ A1.2.2.1).trans q,s2.1.at λo q=>(k2.2 _ A1.2.2.2).trans q],λc hc=>?_]
  have hcn:c≠s⁻¹:=λz=>by
   let(o,e,_):=Br st c hc;show absurd (fA e) (by rw[z];show pV _)
  rw[az hcn];show (hf c hc).1
 done:=by
  intro X hP hw hK hc n aj s σ H E I hf st hg;subst hP hw hK;let(er,eI,(c,d,eO),t1,t2):=st;let(xs,qx,rfl):=hg;let(Z7,rx,Z8,zx):=I.tuple qx;have nf:∀{c:Addr},c∈[r,tI,tO,i,j]->a≠c:=λhc=>Jc I qx (hf _ hc)
  have N:Yn r tI tO i j a a:=#[#[A1.1,A1.2.1,A1.2.2.1,A1.2.2.2,nf ⋯,nf ⋯],#[A2.1,A2.2.1,A2.2.2,nf ⋯,nf ⋯],A3,#[nf ⋯,nf ⋯,nf ⋯,nf ⋯]];rw[rx.length]at t1;apply wk N (zc (A:=X.A.in1) (I.ok.hd hc) i a (nf ⋯) Z7.toArray) er eI eO #[t1,Z8] λh1 tk kp=>#[rfl,?_]
  show Inv.Vq I (ch:=[r,tO,i,j]) (λc hc=>hf c (by simp only[d6,n0]at hc ⊢;rcases hc with h |h |h |h <;> simp[h])) λx o hx e=>by
   simp only[d6,n0,C6,not_or]at hx;show kp x o hx.1 hx.2.1 hx.2.2.1 hx.2.2.2 e
 self:=λA n s Q E st h=>wpAny_pyIter_zip st.1 h
open L2 PySem.W SeqAt
section
meta abbrev Z9(h:Heap)(a:Addr):Heap:=h.push { cls:=.type "tuple_iterator",data:=.fields ([.ref a,.int 0 0].toArray)}
meta abbrev zT2(h:Heap)(a b:Addr):Heap:=(Z9 h a).push { cls:=.type "tuple_iterator",data:=.fields ([.ref b,.int 0 0].toArray)}
meta abbrev zT3(h:Heap)(a b:Addr):Heap:=(zT2 h a b).push { cls:=.type "tuple",data:=.seq ([.ref h.objs.size,.ref (Z9 h a).objs.size].toArray)}
meta abbrev zT4(h:Heap)(a b:Addr):Heap:=(zT3 h a b).push { cls:=.type "tuple",data:=.seq ([.none,.none].toArray)}
meta abbrev Yo (h:Heap) (a b:Addr):Heap:=(zT4 h a b).push { cls:=.type "zip",data:=.fields ([.none,.bool false,.bool false,.ref (zT2 h a b).objs.size,.ref (zT3 h a b).objs.size].toArray)}
def zh(a b:Addr)(xs ys:Array Value) :
  Meets (Builtin.«zip.__new__» #[[.type "zip",.ref a,.ref b],[]]) (λ_ R s=>s.heap.IsTuple a xs/\s.heap.IsTuple b ys/\R (.ok (.ret (.ref (zT4 s.heap a b).objs.size))) { s with heap:=Yo s.heap a b}):=
 .of_wp λprog w A R s h=>by
  let(hp,g,d,tk,os):=s;let(ta,tb,h):=h;have hsub:=sub_zip;have T1:Heap.IsTuple (Shared.heap #[hp,g,d,tk,os]) a xs:=ta;have T2:Heap.IsTuple (Shared.heap #[Z9 hp a,g,d,tk,os]) b ys:=by let(o,e,rr):=tb;show#[o,dE _ e,rr]
  wp_walk using wpAny_pyIter_tuple T1,wpAny_pyIter_tuple T2
  show#[_,rfl,h]
def Ej(ta:s.heap.IsTuple a xs)(tb:s.heap.IsTuple b ys)
  (h:∀h',IsZip h' (s⁻¹+4) (s⁻¹+2) (s⁻¹+3) .none->IsPair h' (s⁻¹+2) (.ref s⁻¹) (.ref (s⁻¹+1))->
   IsPair h' (s⁻¹+3) .none .none->h'.IsTupleIter s⁻¹ a 0->h'.IsTupleIter (s⁻¹+1) b 0->h'.objs.size=s⁻¹+5->
   (∀c o,s.heap.get? c=!o->h'.get? c=!o)->Q (.ref (s⁻¹+4)) { s with heap:=h'}) :
  wpAny (model prog w) A (call (.type "zip") [.ref a,.ref b]) Q E s:=by
 apply callType_new F.called_zip ⋯ (F.typeCall_zip_2 _ _) (F.newCall_zip_2 _ _) (λobj=>F.args_object_init_3 obj _ _) F.entry_zip_new (zh a b xs ys) #[ta,tb,?_]
 have s1:(Z9 s.heap a).objs.size=s⁻¹+1:=AD ..;have s2:(zT2 s.heap a b).objs.size=s⁻¹+2:=by rw[AD,s1]
 have s3:(zT3 s.heap a b).objs.size=s⁻¹+3:=by rw[AD,s2]
 have s4:(zT4 s.heap a b).objs.size=s⁻¹+4:=by rw[AD,s3]
 have o5:(Yo s.heap a b).get? (zT4 s.heap a b).objs.size=!_:=fN _ rfl;have o4:(Yo s.heap a b).get? (zT3 s.heap a b).objs.size=!_:=dE _ (fN _ rfl);have o3:(Yo s.heap a b).get? (zT2 s.heap a b).objs.size=!_:=dE _ (dE _ (fN _ rfl));have o2:(Yo s.heap a b).get? (Z9 s.heap a).objs.size=!_:=dE _ (dE _ (dE _ (fN _ rfl)));have o1:(Yo s.heap a b).get? s⁻¹=!_:=dE _ (dE _ (dE _ (dE _ (fN _ rfl))));rw[s4]at o5 ⊢
 rw[s2,s3]at o5;rw[s2,s1]at o3;rw[s3]at o4;rw[s1]at o2;show#[#[_,o5,rfl],h _ o5 o3 o4 #[_,o1,rfl,rfl] #[_,o2,rfl,rfl] (by rw[AD,s4]) λc o e=>dE _ (dE _ (dE _ (dE _ (dE _ e))))]
end
abbrev uy(l m:List D):List D:=(l.zip m).map λp=>.tup [p.1,p.2]
def Jg{l m:List D}{n:Nat}{d:D}(h:(uy l m)[n]?=!d):∃x y,l[n]?=!x/\m[n]?=!y/\d=.tup [x,y]:=by
 delta uy at h;rw[nE]at h;cases e:(l.zip m)[n]? with
 |none=>rw[e]at h;symm
 |some q=>rw[e]at h;symm;let(h1,h2):=Bz.mp e;show#[q.1,q.2,h1,h2,rfl]
def Jh(l m:List D):(uy l m).length=min l.length m.length:=by simp[uy]
section
def Vt{l m:List D}(hK:z.K=X.K)(ha:dg X z [e1,e2] g [.dat (.tup l),.dat (.tup m)] g1)(hl:l.length=m.length)(hg:Gl X "zip")(hm:X.mg "zip"=none)(cO:starEach [e1,e2] X.env=(false,eval e1 X.env)::starEach [e2] X.env)(lN:(backTo rp (starEach [e2] X.env)).any (·.1)=false) :
  cT X z (.Tuple es k pos) (.Call (.Name "zip" p) [e1,e2] [] rp) g (uy l m) g1:=by
 apply cT.of λaj s σ As M H Post I stt kk=>?_
 apply Call_ (gH I hg hm boot_zip (oQ (ha.run I stt λvs us s1 H1 aN M1 I1 r1 q1 q2 q3=>?_) cO lN))
 cases q3 with
 |dat rp1 R=>cases R with
  |dat rp2 R=>
   cases R;let(u1,u2,rfl,ru1,ru2):=vals2 r1;cases rp1 with |@tup _ a xs sq1 rr1=>
   cases rp2 with |@tup _ b ys sq2 HY=>
   cases ru1;cases ru2;rw[hK]at sq1 sq2;let(Z7,_,Z8,_):=I1.tuple sq1.sq;let(ity,_,aty,_):=I1.tuple sq2.sq;apply Ej Z8 aty λh' er eI eO t1 t2 hsz hk=>kk _ _ λR kR=>?_
   apply wpAny_pyIter_zip er ?_;have I2:=I1.kept (t':=s1.toks) hk;apply#[_,[s1⁻¹+4,s1⁻¹+2,s1⁻¹+3,s1⁻¹,s1⁻¹+1],_,Itz X.K a b,H1,rfl,I2,Jf (s1⁻¹+4) (s1⁻¹+2) (s1⁻¹+3) s1⁻¹ (s1⁻¹+1) a b (by apply#[?_,?_,?_,?_] <;> (intro q;have q:=q;lia)) (by apply#[?_,?_,?_] <;> (intro q;have q:=q;lia)) (by apply#[?_,?_,?_] <;> (intro q;have q:=q;lia)),#[er,eI,#[_,_,eO],t1,t2],λc hc=>?_,kR _ H1 aN M1 q1 q2 λM2 H2 aI=>?_]
   .
    have hle:s1⁻¹<=c:=by simp only[d6,n0,C6]at hc;rcases hc with rfl |rfl |rfl |rfl |rfl <;> lia
    show I1.vB hle (I1.hok.fresh hle)
   .
    have mv:∀{c vs},TupAt X.K M1 H1 c vs->jG X.K H2 c vs:=λh=>TupAt.sq (M:=M2) (h.imp (λq=>aI.rd q.1 q.2) id)
    have s1':=mv sq1;have s2':=mv sq2;have R1:=rr1.stay aI;have R2:=HY.stay aI;apply#[λn d hd=>?_,xs,s1',?_]
    .
     let(x,y,f1,f2,rfl):=Jg hd;let(vx,e2,e3):=R1.get f1;let(vy,e4,e5):=R2.get f2;apply#[#[xs,ys,vx,vy,s1',s2',e2,e4],λw H' hy z' g' σ' aC hz' s'=>?_]
     let(p,u,v,w1,w2,w3,rfl,rfl):=hy;have w1:=w1 xs s1';have w2:=w2 ys s2';rw[e2]at w1;cases w1;rw[e4]at w2;cases w2;show#[s'.laid w3,aq.laid w3,.tup (.inl #[s'.fresh w3,.inl aA]) (.cons (e3.stay (aq.laid w3)) (.cons (e5.stay (aq.laid w3)) .nil))]
    . have:=rr1.length;rw[Jh];lia
end
end Ev
namespace L2
abbrev Bs(T:List Addr)(H:Hp):Prop:=∀b,(b∈T/\H b=!(.nP ([].toArray)))\/(b∉T/\(H b=none\/∃o xs,H b=!(.dJ o (.lst xs))))
def Ek{P:Program}{w:World}{K:Frag}{mg mb:Str->Option Value}{CX:Dg}{k:Nat}{fa a:Addr}{fd:FuncData}{x:Str}{sp:Sp}{s₁:Shared}{vs:List Value}{ns: ~~~0}{T:List Addr}
  (KX:K.In s₁.heap) (hT:∀q∈T,(∃c,s₁.heap.TableAt c q ([].toArray))/\K.lookup q=none) (hns:s₁.heap.Ns mainGlobals mg) (hb:s₁.heap.Ns builtinsNs mb) (hbb:∀x:Str,x≠ "__name__" ->mb x=bootBuiltins x) (hlim:s₁.heap.NoLimit) (hg:s₁.gens = ([].toArray))
  (ha:s₁.heap.get? a=some { cls:=.type "list",data:=.seq vs.toArray}) (hi:IntsAre vs ns) (hl:ns.length<=sizeLine) (hr:cC k callerA)
  (F:∀base:Heap,K.In base->base.Ns mainGlobals mg->jP P w K mg base CX k fa fd [x] sp) (hbind:∀(s:Shared) (u:Value),BindsTo s fd #[[u],[]] [(x,u)])
  (Yi:∀H:Hp,Bs T H->cA K H a (ns.map V.int)->sp [.ref a] H (λv _=>v=.bl true) λ_ _ _=>False)
  (hCX:∀H e s',CX [] H s₁ (λ_ _ _=>False) e s'->False) :
  codeAny (model P w) callerA (.call (.ref fa) #[[.ref a],[]]) (λr s'=>r=.ok (.ret (.bool true))/\OldK s₁.heap s'.heap/\s'.os=s₁.os/\AllBare s'.gens) s₁:=by
 have rv:=lV hi;have lenV:=hi.length;have aT:a∉T:=λh=>by
  let((c,_,e),_):=hT a h;rw[ha]at e;cases e
 have core:∀H:Hp,Bs T H->cA K H a (ns.map V.int)->lO P w H s₁.heap->(∀b,H b≠none->b=a\/b∈T)->(H a≠none->K.lookup a=none)->
   codeAny (model P w) callerA (.call (.ref fa) #[[.ref a],[]]) (λr s'=>r=.ok (.ret (.bool true))/\OldK s₁.heap s'.heap/\s'.os=s₁.os/\AllBare s'.gens) s₁:=by
  intro H hO hS hok hA hK;have Bt:∀{b:Addr}{o:Obj},s₁.heap.get? b=!o->H b=none->(tN s₁.heap H).get? b=!o:=λe n=>Gw e n
  have Zu:∀{b:Addr}{o:Obj}{es:Array DictEntry}{ep:Nat},s₁.heap.get? b=!o->o.data=.dict es ep->H b=none:=λ{b o es ep} e d=>by
   cases q:H b with
   |none=>rfl
   |some u=>
    rcases hA b (by rw[q];simp)with e' |e'
    . subst e';rw[ha]at e;cases e;have d':=d;cases d'
    . let((c,_,e2),_):=hT b e';rw[e]at e2;cases e2;have d':=d;cases d'
  have nsK:∀{b:Addr}{m:Str->Option Value},s₁.heap.Ns b m->(tN s₁.heap H).Ns b m:=λ{b m} #[o,es,ep,e,d,r]=>#[o,es,ep,Bt e (Zu e d),d,r]
  have Rz:K.In (tN s₁.heap H):=λb o e=>Bt (KX b o e) (by
   cases q:H b with
   |none=>rfl
   |some u=>
    rcases hA b (by rw[q];simp)with e' |e'
    . subst e';rw[hK (by rw[q];simp)]at e;cases e
    .
     rw[(hT b e').2]at e;cases e)
  have hM:Mod K mg (tN s₁.heap H):=#[Rz,nsK hns,#[mb,nsK hb,hbb],let #[mc,h1,h2]:=hlim;#[mc,nsK h1,h2]]
  have e0:GX P w K mg (tN s₁.heap H) callerA [] s₁ H:=#[rfl,hM,λb o e=>Mf e,Nat.le_of_eq (CW _ _),trivial,λb hb=>absurd (show b∈([]:List Addr)from hb) ⋯,hok,.of_eq hg]
  apply BD ((F _ Rz (nsK hns)).run callerA [] s₁ H #[[.ref a],[]] [.ref a] [.ref a] _ _ hr e0 (hbind s₁ (.ref a)) (.cons rfl .nil) (Yi H hO hS)) λr s' h=>?_
  cases r with
  |error e=>show (hCX H e s' h).elim
  |ok fl=>
   cases fl with
   |next=>show False.elim h
   |brk=>show False.elim h
   |cont=>show False.elim h
   |ret u=>
    let(v,H',os,bare,un,Oi,r',q):=h;have q':=q;subst q';obtain rfl:u=Value.bool true:=r';have tabs:∀b∈T,∀o,s₁.heap.get? b=!o->∃more,o={ cls:=.none,data:=.fields ([].toArray)}/\s'.heap.get? b=some { cls:=.none,data:=.fields more}:=λb hb o e=>by
     let((c,_,e2),_):=hT b hb;rw[e]at e2;cases e2;rcases hO b with ⟨_,z⟩ |⟨z,_⟩
     . let(more,z2):=un.kG b _ z;show#[_,rfl,Oi b _ z2]
     . show absurd hb z
    have rest:∀b,b∉T->∀o,s₁.heap.get? b=!o->s'.heap.get? b=!o:=λb hb o e=>by
     cases q:H b with
     |none=>show un.keep b o e q (by intro z;show absurd (show b∈([]:List Addr)from z) ⋯) ⋯
     |some u=>
      rcases hO b with ⟨z,_⟩ |⟨_,z⟩
      . show absurd z hb
      .
       rcases z with z |⟨ob,xs,z⟩
       . rw[q]at z;cases z
       . have z2:=un.kF b ob _ z;let(e1,_):=hok b _ z;let(e2,_):=Oi b _ z2;rw[e]at e1;cases e1;show e2
    apply#[rfl,#[λb o e=>?_,λb o e=>?_],os,bare]
    .
     by_cases hb:b∈T
     . let(more,rfl,e2):=tabs b hb o e;let((c,t),_):=hT b hb;show .inr (.inl #[t.isCodeTable,rfl,([].toArray),more,rfl,by rw[e2];simp])
     . show .inl (rest b hb o e)
    .
     by_cases hb:b∈T
     . let(more,rfl,e2):=tabs b hb o e;show#[_,e2]
     . show#[_,rest b hb o e]
 have Ji:∀b∈T,s₁.heap.get? b=some { cls:=.none,data:=.fields ([].toArray)}:=λb hb=>by
  let((c,_,e2),_):=hT b hb;show e2
 cases hk:K.lookup a with
 |some o=>
  have e:=KX a o hk;rw[ha]at e;cases e;apply core (λb=>if b∈T then some (.nP ([].toArray))else none) (λb=>?_) (.inr #[_,vs.toArray,_,hk,rfl,rfl,rfl,by rw[d5,lenV];show hl,by simpa using rv]) (λb u z=>?_) (λb z=>?_) λz=>absurd (kA aT) z
  .
   by_cases hb:b∈T
   . show .inl #[hb,i5 hb]
   . show .inr #[hb,.inl (kA hb)]
  .
   by_cases hb:b∈T
   . have z':=(i5 hb).symm.trans z;cases z';show Ji b hb
   . have z':=(kA hb).symm.trans z;cases z'
  .
   by_cases hb:b∈T
   . show .inr hb
   . show absurd (kA hb) z
 |none=>
  apply core (λb=>if b∈T then some (.nP ([].toArray))else if b=a then some (.dJ { cls:=.type "list",data:=.seq vs.toArray} (.lst (ns.map V.int)))else none) (λb=>?_) (.inl (.inr #[{ cls:=.type "list",data:=.seq vs.toArray},(kA aT).trans (i5 rfl)])) (λb u z=>?_) (λb z=>?_) λ_=>hk
  .
   by_cases hb:b∈T
   . show .inl #[hb,i5 hb]
   .
    apply .inr #[hb,?_];by_cases hb2:b=a
    . show .inr #[_,_,(kA hb).trans (i5 hb2)]
    . show .inl ((kA hb).trans (kA hb2))
  .
   by_cases hb:b∈T
   . have z':=(i5 hb).symm.trans z;cases z';show Ji b hb
   .
    have z1:=(kA hb).symm.trans z;by_cases hb2:b=a
    . have z':=(i5 hb2).symm.trans z1;cases z';subst hb2;show#[ha,by rw[eC];show hl,vs,_,rv,ha]
    . have z':=(kA hb2).symm.trans z1;cases z'
  .
   by_cases hb:b∈T
   . show .inr hb
   .
    by_cases hb2:b=a
    . show .inl hb2
    . show absurd ((kA hb).trans (kA hb2)) z
end L2
namespace Ev
open L2
meta abbrev mC(p:Addr)(o:Obj):HO:=.ext λh=>h.get? p=!o
section
def S.grow(s:S z g σ As M H){q:Addr}{qn:Str}{ps:Array Value}{pos:Pos}{c:Addr}(hq:(q,qn)∈z.T)(hu:∀p∈z.T,p.1=q->p.2=qn)(hp:H q=!(.nP ps))(ht:TriplesOk ps.toList)(hc:H c=!(ig qn c))
  (ok:TriplesOk (ps ++ ([rawInt pos.line,rawInt pos.col,.ref c].toArray)).toList) (am:∀pos' cv,codeAmong pos' (ps ++ ([rawInt pos.line,rawInt pos.col,.ref c].toArray)).toList=!cv->codeAmong pos' ps.toList=!cv\/cv=.ref c) :
  S z g σ As M (upd H q (.nP (ps ++ ([rawInt pos.line,rawInt pos.col,.ref c].toArray)))) where
 sl:=s.sl.stay (aq.write (s.fF _ (s.tm _ hq))) λa ha u e=>by
  rcases s.live a (s.sub a ha)with ⟨o,e2,gr⟩ |e2
  . rw[az (λz=>by rw[z,hp]at e2;cases e2;show gr)];show e
  .
   show absurd e2 (λw=>by
    have:∃xs,H a=!(.lst xs):=by
     have key:∀{g:G}{σ:Sg}{As:List Addr},Slots z.K M H g σ As->∀a∈As,∃xs,H a=!(.lst xs):=λq=>by
      induction q with
      |nil=>intro a h;symm
      |no _ ih=>show ih
      |dat _ _ ih=>show ih
      |own e _ _ ih=>intro a h;rcases d6.mp h with rfl |h;show#[_,e];show ih a h
     show key s.sl a ha
    let(xs,e3):=this;show s.Rt e3 w)
 nd:=s.nd
 sub:=s.sub
 own:=s.own
 live:=λm hm=>by
  rcases s.live m hm with ⟨o,e,gr⟩ |e
  . show .inl #[o,by rw[az (λz=>by rw[z,hp]at e;cases e;show gr)];show e,gr]
  . show .inr e
 keep:=λb u e hb hT=>by
  rw[az (λz=>hT (by rw[z];show fR.mpr #[_,hq,rfl]))];show s.keep b u e hb hT
 fF:=s.fF
 m0:=s.m0
 bm:=s.bm
 fK:=s.fK
 tab:=λp h=>by
  have lam:∀d Yp,H d=!(ig Yp d)->upd H q (.nP (ps ++ ([rawInt pos.line,rawInt pos.col,.ref c].toArray))) d=!(ig Yp d):=λd Yp e=>by
   rw[az (λz=>by rw[z,hp]at e;cases e)];show e
  by_cases e:p.1=q
  .
   let(p1,p2):=p;have e1:=e;have e2:=hu _ h e;subst e1;subst e2;apply#[_,aA,ok,λpos' cv ec=>?_]
   rcases am pos' cv ec with ec |rfl
   . let(ps',h1,_,h3):=s.tab _ h;rw[hp]at h1;cases h1;let(d,e1,e2):=h3 pos' cv ec;show#[d,e1,lam d _ e2]
   . show#[c,rfl,lam c _ hc]
  .
   let(ps',h1,h2,h3):=s.tab p h;apply#[ps',by rw[az e];show h1,h2,λpos' cv ec=>?_]
   let(d,e1,e2):=h3 pos' cv ec;show#[d,e1,lam d _ e2]
 tm:=s.tm
 tt:=s.tt
end
def uz(h:TriplesOk l):TriplesOk (l++[.int i a,.int j b,v]):=by
 fun_induction TriplesOk l with
 |case1=>trivial
 |case2 _ _ _ _ _ rest ih=>show ih h
 |case3=>show h.elim
def zj(h:TriplesOk l)(e:codeAmong pos (l++[.int i a,.int j b,v])=!cv):codeAmong pos l=!cv\/cv=v:=by
 fun_induction TriplesOk l with
 |case1=>
  simp only[A8,codeAmong]at e;split at e
  . show .inr (nN e).symm
  . cases e
 |case2 line _ col _ c rest ih=>
  simp only[List.cons_append,codeAmong]at e ⊢
  split at e
  . ext q;rw[i5 q];show .inl e
  . ext q;rw[kA q];show ih h e
 |case3=>show h.elim
section
def Bu(hok:lO P w H h)(hq:H q=!(.nP ps))(hq':H' q=!(.nP (ps++more)))(k:∀b o,b≠q->h.get? b=!o->h'.get? b=!o)(tq:∃o,h'.get? q=!o)
  (kH:∀b,b<h.objs.size->b≠q->H' b=H b):Un fs [] H H' h h' where
 keep:=λb o e n _ _=>k b o (λz=>by rw[z,hq]at n;cases n) e
 slot:=λb o e n _ _=>#[o.slots,k b o (λz=>by rw[z,hq]at n;cases n) e]
 free:=λb o e n _=>by rw[kH b (fA e) (λz=>by rw[z,hq]at n;cases n)];show n
 there:=λb o e _=>by
  by_cases hb:b=q
  . subst hb;show tq
  . show#[o,k b o hb e]
 tups:=λb xs e=>by rw[kH b (hok.lt e) (λz=>by rw[z,hq]at e;cases e)];show e
 kF:=λb o u e=>by rw[kH b (hok.lt e) (λz=>by rw[z,hq]at e;cases e)];show e
 kG:=λb ps' e=>by
  by_cases hb:b=q
  . subst hb;rw[hq]at e;cases e;show#[_,hq']
  . rw[kH b (hok.lt e) hb];show#[([].toArray),by rw[e];simp]
end
section
def Jj(e:h.get? p=!o):cB P w H h p (mC p o):=#[e,#[o,e],λ_ _ e k=>k _ e]
def Oj(e:h.CodeRec (.ref c) q):cB P w H h c (ig q c):=by
 apply#[e,?_,λh1 h2 e k=>?_]
 . let(c',o,vs,t,e1,e2,_):=e;cases e1;show#[o,e2]
 . let(c',o,vs,t,e1,e2,e3):=e;cases e1;show#[c,o,vs,t,rfl,k _ e2,e3]
def Jk(I:L2.Inv X aj σ H s)(hs:S z g σ As M H)(hq:(q,qn)∈z.T)(hu:∀p∈z.T,p.1=q->p.2=qn)(hcode:X.env.code=.ref c)(C:PySem.W.CodeHd X.base c q)(hqn:X.env.qual ++ "<lambda>"=qn)
  (hb:X.base.BuiltinsAt X.mg q) (hqm:mainGlobals≠q) (hdef:defaultsOf params X.env=([],[])) (B:aJ X.env.scope scope)
  (h:∀(p c':Addr) (jz:Value) (cl:List (Str×Addr)) (H':Hp) (s':Shared),L2.Inv X aj σ H' s'->S z g σ As M H'->aq M H M H'->p∉M->
   H' p=!(mC p (PySem.W.kla_obj "<lambda>" qn params body scope cl ((X.mg "__name__").getD .none) c' jz))->H' c'=!(ig qn c')->
   (∀x c,cl.lookup x=!c->X.env.cells.lookup x=!c/\(x,NameKind.free)∈scope.names)->(∀y∈scope.names,y.2=.free->∃c,cl.lookup y.1=!c)->(∀b xs,H b=!(.lst xs)->H' b=!(.lst xs))->Q (.ref p) s') :
  wpAny (~~~2) X.A (eval (.Lambda params body scope pos) X.env) Q E s:=by
 apply PySem.W.kla_eval hdef ?_;rw[hqn];let(ps,hp,ht,hcs):=hs.tab _ hq;have hP:=I.hok q _ hp;let(cl,hcl,El,Ol):=pC λy hy e=>I.ok.has y.1 (by
  rcases B.free y hy e with e |e
  . show .inl e
  .
   show .inr e)
 have qlt:=fA hP;cases hf:codeAmong pos ps.toList with
 |some cv=>
  let(c',rfl,hc'):=hcs pos cv hf;apply PySem.W.kla_makeFunctionHit hcl I.ok.glob (I.ok.mod.glob.keeps I.bk) hcode (C.keeps I.bk) hP ht hf (hb.keeps I.bk) λjz h' tk hk hsz=>?_
  have hk2:∀b o,s.heap.get? b=!o->(h'.push (PySem.W.kla_obj "<lambda>" qn params body scope cl ((X.mg "__name__").getD .none) c' jz)).get? b=!o:=λb o e=>dE _ (hk b o e)
  have fr:=I.hok.fresh hsz;have kH:∀b,b<s⁻¹->b≠q->upd H h'.objs.size (mC h'.objs.size (PySem.W.kla_obj "<lambda>" qn params body scope cl ((X.mg "__name__").getD .none) c' jz)) b=H b:=λb hb _=>az (kS (eM hb hsz))
  have Yp:=kS (eM qlt hsz);apply h _ c' jz cl (upd H h'.objs.size (mC h'.objs.size (PySem.W.kla_obj "<lambda>" qn params body scope cl ((X.mg "__name__").getD .none) c' jz))) _ (I.call' rfl
   (Bu (more:=([].toArray)) I.hok hp (by rw[az Yp,hp];simp) (λb o _ e=>hk2 b o e) #[_,hk2 _ _ hP] kH) (I.hok.laid hk2 hsz (Jj (fN _ rfl))) I.bare λb z=>nomatch z) (hs.laid fr) (aq.laid fr) (hs.fresh fr) aA ?_ El Ol λb xs e=>by rw[az (aH e fr)];show e
  rw[az (λz=>by rw[z,fr]at hc';cases hc')];show hc'
 |none=>
  apply PySem.W.kla_makeFunction hcl I.ok.glob (I.ok.mod.glob.keeps I.bk) hcode (C.keeps I.bk) hP ht hf hqm (hb.keeps I.bk) λc' jz h' tk hx hc1 hc2 hcr hP'=>?_
  have hsz:=BC (Nat.lt_of_le_of_lt hc1 hc2);have hk2:∀b o,b≠q->s.heap.get? b=!o->(h'.push (PySem.W.kla_obj "<lambda>" qn params body scope cl ((X.mg "__name__").getD .none) c' jz)).get? b=!o:=λb o ne e=>dE _ (hx b o ne e)
  have frc:=I.hok.fresh hc1;have frp:=I.hok.fresh hsz;have qc:=kS (eM qlt hc1);have qp:=kS (eM qlt hsz);have cp:=kS hc2;have s1:=hs.laid (o:=ig qn c') frc;have e1:upd H c' (ig qn c') q=!(.nP ps):=by rw[az qc];show hp
  have s2:=s1.grow (pos:=pos) hq hu e1 ht aA (by rw[Array.toList_append];show uz ht) (λpos' cv e=>zj ht (by rw[Array.toList_append]at e;show e))
  have frp2:upd (upd H c' (ig qn c')) q (.nP (ps ++ ([rawInt pos.line,rawInt pos.col,.ref c'].toArray))) h'.objs.size=none:=by rw[az qp.symm,az cp.symm];show frp
  have s3:=s2.laid (o:=mC h'.objs.size (PySem.W.kla_obj "<lambda>" qn params body scope cl ((X.mg "__name__").getD .none) c' jz)) frp2;have kH:∀b,b<s⁻¹->b≠q->upd (upd (upd H c' (ig qn c')) q (.nP (ps ++ ([rawInt pos.line,rawInt pos.col,.ref c'].toArray)))) h'.objs.size (mC h'.objs.size (PySem.W.kla_obj "<lambda>" qn params body scope cl ((X.mg "__name__").getD .none) c' jz)) b=H b:=λb hb ne=>by
   rw[az (kS (eM hb hsz)),az ne,az (kS (eM hb hc1))]
  have hq3:upd (upd (upd H c' (ig qn c')) q (.nP (ps ++ ([rawInt pos.line,rawInt pos.col,.ref c'].toArray)))) h'.objs.size (mC h'.objs.size (PySem.W.kla_obj "<lambda>" qn params body scope cl ((X.mg "__name__").getD .none) c' jz)) q=!(.nP (ps ++ ([rawInt pos.line,rawInt pos.col,.ref c'].toArray))):=by rw[az qp];show aA
  have hc3:upd (upd (upd H c' (ig qn c')) q (.nP (ps ++ ([rawInt pos.line,rawInt pos.col,.ref c'].toArray)))) h'.objs.size (mC h'.objs.size (PySem.W.kla_obj "<lambda>" qn params body scope cl ((X.mg "__name__").getD .none) c' jz)) c'=!(ig qn c'):=by rw[az cp,az qc.symm];show aA
  have hP2:=dE (PySem.W.kla_obj "<lambda>" qn params body scope cl ((X.mg "__name__").getD .none) c' jz) hP';have Oi:lO X.prog X.w (upd (upd (upd H c' (ig qn c')) q (.nP (ps ++ ([rawInt pos.line,rawInt pos.col,.ref c'].toArray)))) h'.objs.size (mC h'.objs.size (PySem.W.kla_obj "<lambda>" qn params body scope cl ((X.mg "__name__").getD .none) c' jz))) (h'.push (PySem.W.kla_obj "<lambda>" qn params body scope cl ((X.mg "__name__").getD .none) c' jz)):=λb u e=>by
   by_cases b1:b=h'.objs.size
   . subst b1;rw[aA]at e;cases e;show Jj (fN _ rfl)
   .
    by_cases b2:b=q
    . subst b2;rw[hq3]at e;cases e;show hP2
    .
     by_cases b3:b=c'
     .
      subst b3;rw[hc3]at e;cases e;show Oj (by
       let(d,o,vs,t,e1,e2,e3):=hcr;show#[d,o,vs,t,e1,dE _ e2,e3])
     .
      rw[az b1,az b2,az b3]at e;apply (I.hok b u e).stay (λd o hd eo=>hk2 d o (λz=>?_) eo) (λd ed=>?_) λd xs ed=>?_
      .
       rcases hd with hd |hd
       . show b2 (hd▸z)
       . rw[z,hp]at hd;cases hd
      . rw[kH d (I.hok.lt ed) (λz=>by rw[z,hp]at ed;cases ed)];show ed
      . rw[kH d (I.hok.lt ed) (λz=>by rw[z,hp]at ed;cases ed)];show ed
  apply h _ c' jz cl _ _ (I.call' rfl
   (Bu I.hok hp hq3 hk2 #[_,hP2] kH) Oi I.bare λb z=>nomatch z) s3 ?_ (hs.fresh frp) aA hc3 El Ol λb xs e=>by rw[az (aH e frp),az (λz=>by rw[z,hp]at e;cases e),az (aH e frc)];show e
  show ((aq.laid frc).trans (aq.write (hs.fF _ (hs.tm _ hq)))).trans (aq.laid frp2)
end
abbrev wm(X:Cx)(N:List Str)(qual:Str)(scope:Scope)(p:Addr)(cd:Value)(cl:List (Str×Addr))(s:Shared)(H:Hp)(xe:Value->Shared->Prop):Cx where
 prog:=X.prog
 w:=X.w
 K:=X.K
 mg:=X.mg
 base:=X.base
 A:=X.A.deeper (PySem.W.envX qual scope s⁻¹ p cd cl)
 N:=N
 s₀:=s
 H₀:=H
 env:=PySem.W.envX qual scope s⁻¹ p cd cl
 outer:=X.stack
 stack:=PySem.W.envX qual scope s⁻¹ p cd cl::X.stack
 ex:=[]
 calm:=true
 fn:=λ_=>false
 pn:=[]
 xe:=xe
structure nZ(N:List Str)(σ:Sg)(scope:Scope)(cl:List (Str×Addr))(H:Hp)(h:Heap):Prop where
 inj:∀x y c,cl.lookup x=!c->cl.lookup y=!c->x=y
 has:∀x,scope.names.lookup x=some .cell\/scope.names.lookup x=some .free->∃c,cl.lookup x=!c
 cell:∀x c,cl.lookup x=!c->H c=none/\∃v,h.IsCell c v
 loc:∀(i:Nat) (x:Str) (v:V),N[i]?=!x->σ[i]?=!(!v)->g9 scope x->scope.names.lookup x=some .free/\∃u c,RelV v u/\cl.lookup x=!c/\h.IsCell c (!u)
 len:σ.length=N.length
section
def Om(I:L2.Inv X aj σ H s)(hc:X.calm=true)(hk:scope.kind=.function)(C:nZ N σ0 scope cl H s.heap)(hk₁:∀b o,s.heap.get? b=!o->h₁.get? b=!o)(hns:h₁.Ns s⁻¹ m) :
  L2.Inv (wm X N qual scope p cd cl s H xe) [] σ0 H { s with heap:=h₁,toks:=tk}:=by
 have e0:=I.Mk;apply#[#[e0.mod,hk,rfl,rfl,eA _,C.inj,C.has,(λ_ _ h=>nomatch h),λ_=>I.ok.hd hc,Around.frames_deeper e0.frames,.inr #[rfl,rfl],(λb z=>nomatch z),e0.bs,e0.Gx,(λ_ _ _ z=>nomatch z),(λb z=>nomatch z),e0.kJ,e0.Mh],
  rfl,e0.bare,Un.kept hk₁,#[m,hns,λi x v h1 h2 h3=>?_],λx c e=>?_,e0.hok.fresh (eA _),λx c e=>(C.cell x c e).1,(λp hp=>nomatch hp),e0.hok.kept hk₁,C.len]
 . let(f,u,c,r,e1,e2):=C.loc i x v h1 h2 h3;show#[u,r,.inr #[.inr f,c,e1,e2.keeps hk₁]]
 . let(v,q):=(C.cell x c e).2;show#[v,q.keeps hk₁]
def Jl{z:Z}{g g':G}{As M:List Addr}{body:Expr}{params:Arguments}{pm jz:Value}{c' C:Addr}{R:Result->Shared->Prop}(I:L2.Inv X aj σ H s)(hc:X.calm=true)(hroom:X.A.depth<recursionLimit)
  (hp:s.heap.get? p=!(PySem.W.kla_obj "<lambda>" qual params body scope cl pm c' jz)) (hcr:s.heap.CodeRec (.ref c') qual) (hpar:bindArgs (PySem.W.kla_fn "<lambda>" qual params body scope cl pm (.ref c') jz) #[[],[]]=pure [])
  (hco:scope.isCoroutine=false) (hgen:scope.isGenerator=false) (hk:scope.kind=.function) (hnc:∀x∈scope.names,x.2≠.cell) (Cl:nZ N σ0 scope cl H s.heap) (hS:S z g σ0 As M H)
  (hb:∀xe,PassesOwn (~~~2) (X.A.deeper (PySem.W.envX qual scope s⁻¹ p (.ref c') cl)) (PySem.W.envX qual scope s⁻¹ p (.ref c') cl) xe->Gj (wm X N qual scope p (.ref c') cl s H xe) z body g C g')
  (hR:∀x H1 aN M1 s'',Gi X.prog X.w X.stack H s (λc o h=>c=.ref C/\o=none/\h=H1) (.ref x) s''->S z g' σ0 aN M1 H1->aq M H M1 H1->R (.error (.ref x)) s'') :
  codeAny (~~~2) X.A (.call (.ref p) #[[],[]]) R s:=by
 apply PySem.W.kla_callFunE hroom hp rfl hco hgen rfl hcr ?_;rw[hpar];apply dS (wpAny_newFunctionEnv hnc (λy hy=>nomatch hy) (λh₁ hns hsb=>#[(I.nolimit).fresh _ hsb,?_]) hk)
 have hk₁:∀b o,s.heap.get? b=!o->h₁.get? b=!o:=λb o e=>hsb.extBut b o (kS (fA e)) (dE _ e)
 apply PySem.W.kla_codeExpr ?_;let(t,q,k):=hb (λe' s'=>wpAny (~~~2) (X.A.deeper (PySem.W.envX qual scope s⁻¹ p (.ref c') cl)) (leaving (PySem.W.envX qual scope s⁻¹ p (.ref c') cl) e') (λ_ s''=>R (.error e') s'') (λe'' s''=>R (.error e'') s'') s') PassesOwn.leaving
 have J:=Om (qual:=qual) (p:=p) (cd:=.ref c') (σ0:=σ0) (tk:=s.toks+([]:List (Str×Value)).length) (xe:=λe' s'=>wpAny (~~~2) (X.A.deeper (PySem.W.envX qual scope s⁻¹ p (.ref c') cl)) (leaving (PySem.W.envX qual scope s⁻¹ p (.ref c') cl) e') (λ_ s''=>R (.error e') s'') (λe'' s''=>R (.error e'') s'') s') I hc hk Cl hk₁ hns
 apply i9 (q [] _ σ0 H (λ_ _=>False) J (k σ0 As M H _ hS λpins1 s1 H1 aN M1 x I1 S1 st fl=>?_)) (λv s' h=>?_) λ_ _ h=>h
 . show sJ I1 rfl rfl rfl fl λs'' cx=>hR x H1 aN M1 s'' cx S1 st
 . let(_,_,_,_,h):=h;show h.elim
end
section
def Inv.cnl(I:L2.Inv X [] σ H s):∀y c,X.env.cells.lookup y=!c->c≠X.env.locals:=λy c e q=>by
 let(v,o,h1,h2):=I.cell y c e;let(m,(o',es,ep,h3,h4,_),_):=I.loc;rw[q,h3]at h1;cases h1;rw[h4]at h2;cases h2
def Inv.touch(I:L2.Inv X [] σ H s)(hp:X.pn=[])(hT:X.s₀.heap.get? T=none)(hH:H T=none)(hf:∃o vs,s.heap.get? T=!o/\o.data=.fields vs)(k:∀b o,b≠T->s.heap.get? b=!o->h'.get? b=!o)(kT:∃o,h'.get? T=!o) :
  L2.Inv X [] σ H { s with heap:=h'}:=by
 let(oT,ts,eT,dT):=hf;have Oo:∀b o,X.s₀.heap.get? b=!o->b≠T:=λb o e q=>by rw[q,hT]at e;cases e
 have neD:∀b o,s.heap.get? b=!o->(∀vs,o.data≠.fields vs)->b≠T:=λb o e d q=>by rw[q,eT]at e;cases e;show d _ dT
 have cellK:∀c v,s.heap.IsCell c v->h'.IsCell c v:=by rintro c v ⟨o,e,d⟩;show#[o,k c o (neD c o e λvs q=>by rw[d]at q;cases q) e,d]
 let(m,(o,es,ep,e,d,r),hlk):=I.loc;apply#[I.ok,I.os,I.bare,#[λb o e n hb hx=>?_,λb o e n hb hx=>?_,I.base.free,λb o e hx=>?_,I.base.tups,I.base.kF,I.base.kG],#[m,#[o,es,ep,k _ _ (neD _ _ e λvs q=>by rw[d]at q;cases q) e,d,r],λi y v h1 h2 h3=>?_],λy c e=>?_,I.free,I.dO,λp hp2=>?_,λb u e=>?_,I.len]
 . show k b o (Oo b o e) (I.base.keep b o e n hb hx)
 . let(sl,e1):=I.base.slot b o e n hb hx;show#[sl,k b _ (Oo b o e) e1]
 . let(o',e1):=I.base.there b o e hx;show#[o',k b _ (Oo b o e) e1]
 . let(u,r,q):=hlk i y v h1 h2 h3;show#[u,r,q.imp id (by rintro⟨q1,c,q2,q3⟩;show#[q1,c,q2,cellK c _ q3])]
 . let(v,q):=I.cell y c e;show#[v,cellK c v q]
 . rw[hp]at hp2;cases hp2
 .
  apply (I.hok b u e).stay (λc w hc q=>k c w (λz=>?_) q) (λ_ q=>q) λ_ _ q=>q
  subst z;rcases hc with rfl |hc
  . rw[hH]at e;cases e
  . rw[hH]at hc;cases hc
def wu(I:L2.Inv X [] σ H s)(hp:X.pn=[])(fl:vg X.s₀.heap x C H s.heap)(h:∀s',L2.Inv X [] σ H s'->vg X.s₀.heap x C H s'.heap->Q () s') :
  wpAny M A (setFlight (.ref x) none) Q E s:=by
 let((oe,vs,he,hc,bR,hd,hsz,hT),Yk,Yl):=id fl;rcases hT with hT |⟨T,oT,ts,h1,Vi,hTn,hTH,Lw,Lx,h3⟩
 . apply aS (tS he hd hT ?_);show dS (h s I fl)
 .
  apply aS (tS he hd h1 ?_);apply AF Lw Lx (t8.mp h3).1 ?_;have other:∀b,b≠T->(s.heap.update T (Obj.mapFields (·.setIfInBounds 3 Value.none))).get? b=s.heap.get? b:=λb hb=>lS _ _ (sT hb)
  have hTd':=pE Lx (·.setIfInBounds 3 Value.none);have Nx:=nK (Obj.mapFields (·.setIfInBounds 3 Value.none)) Lw (wT hTd');apply h _ (Inv.touch I hp hTn hTH #[oT,ts,Lw,Lx] (λb o hb e=>(other b hb).trans e) #[_,Nx]) #[#[oe,vs,(other x (sT Vi)).trans he,hc,bR,hd,hsz,.inr #[T,_,_,h1,Vi,hTn,hTH,Nx,hTd',?_]],Yk,Yl]
  have:=(t8.mp h3).1;simp[this]
def Inv.Vu(I:L2.Inv X [] σ H s)(hp:X.pn=[])(fl:vg X.s₀.heap x C H s.heap):L2.Inv X [] σ (upd H x (yO C x)) s:=by
 let((oe,vs,he,hc,bR,hd,hsz,hT),Yk,Yl):=id fl;have Oo:∀b o,X.s₀.heap.get? b=!o->b≠x:=λb o e q=>by rw[q,Yk]at e;cases e
 have neD:∀b o,s.heap.get? b=!o->(∀vs,o.data≠.fields vs)->b≠x:=λb o e d q=>by rw[q,he]at e;cases e;show d _ hd
 have neH:∀b u,H b=!u->b≠x:=λb u e q=>by rw[q,Yl]at e;cases e
 apply#[I.ok,I.os,I.bare,#[I.base.keep,I.base.slot,λb o e n hx=>?_,I.base.there,λb xs e=>?_,λb o u e=>?_,λb ps e=>?_],I.loc,I.cell,?_,λy c e=>?_,λp hp2=>?_,λb u e=>?_,I.len]
 . rw[az (Oo b o e)];show I.base.free b o e n hx
 . have:=I.base.tups b xs e;rw[az (neH _ _ this)];show this
 . have:=I.base.kF b o u e;rw[az (neH _ _ this)];show this
 . let(more,this):=I.base.kG b ps e;show#[more,by rw[az (neH _ _ this)];show this]
 . let(m,(o,es,ep,e,d,_),_):=I.loc;rw[az (neD _ _ e λvs q=>by rw[d]at q;cases q)];show I.free
 . let(v,o,e1,d):=I.cell y c e;rw[az (neD _ _ e1 λvs q=>by rw[d]at q;cases q)];show I.dO y c e
 . rw[hp]at hp2;cases hp2
 .
  by_cases hb:b=x
  .
   subst hb;rw[aA]at e;cases e;apply#[#[oe,he,hc,?_,bR],#[oe,he],by rintro h1 h2 ⟨o,q,r⟩ k;show#[o,k o q,r]]
   delta PySem.W.notCls;rw[hd]
  . rw[az hb]at e;show (I.hok b u e).stay (λ_ _ _ q=>q) (λc q=>by rw[az (neH _ _ q)];show q) λc xs q=>by rw[az (neH _ _ q)];show q
meta abbrev Cx.marked(X:Cx)(e:Value)(E:Value->Shared->Prop):Cx:={ X with A:=X.A.mark (!e),calm:=false,xe:=E}
def Inv.marked(I:L2.Inv X aj σ H s)(e:Value)(E:Value->Shared->Prop):L2.Inv (Cx.marked X e E) aj σ H s:=
 #[#[I.ok.mod,I.ok.kind,I.ok.glob,I.ok.blt,I.ok.above,I.ok.inj,I.ok.has,I.ok.SM,(λh=>nomatch h),I.ok.frames,I.ok.stk,I.ok.Ye,I.ok.bs,I.ok.Gx,I.ok.vq,I.ok.yx,I.ok.kJ,I.ok.Mh],I.os,I.bare,I.base,I.loc,I.cell,I.free,I.dO,I.pin,I.hok,I.len]
def Inv.unmarked(ok:X.Ok)(I:L2.Inv (Cx.marked X e E) aj σ H s):L2.Inv X aj σ H s:=
 #[ok,I.os,I.bare,I.base,I.loc,I.cell,I.free,I.dO,I.pin,I.hok,I.len]
def Inv.gone(I:L2.Inv X [] σ H s)(hp:X.pn=[])(hN:X.N.Nodup)(hi:X.N[i]?=!n)(hlk:∀(j:Nat) (y:Str) (v:V),X.N[j]?=!y->σ[j]?=!(!v)->g9 X.env.scope y->∃u,RelV v u/\Look X.env s.heap m y u)
  {h':Heap}{w:Option Value}{tk:Nat} (hn':h'.Ns X.env.locals (λy=>if y=n then w else m y)) (hs:Heap.SameBut X.env.locals s.heap h'):L2.Inv X [] (σ.set i none) H { s with heap:=h',toks:=tk}:=by
 have Oo:∀b o,X.s₀.heap.get? b=!o->b≠X.env.locals:=λb o e=>kS (eM (fA e) I.ok.above)
 apply#[I.ok,I.os,I.bare,#[λb o e n hb hx=>?_,λb o e n hb hx=>?_,I.base.free,λb o e hx=>?_,I.base.tups,I.base.kF,I.base.kG],#[_,hn',λj y v h1 h2 h3=>?_],λy c e=>?_,I.free,I.dO,λp hp2=>?_,λb u e=>?_,by rw[u4];show I.len]
 . show (hs.2 b (Oo b o e)).trans (I.base.keep b o e n hb hx)
 . let(sl,e1):=I.base.slot b o e n hb hx;show#[sl,(hs.2 b (Oo b o e)).trans e1]
 . let(o',e1):=I.base.there b o e hx;show#[o',(hs.2 b (Oo b o e)).trans e1]
 .
  by_cases hj:j=i
  .
   subst hj;have hl:j<σ.length:=by rw[I.len];show (dC.mp h1).1
   rw[eQ hl]at h2;cases h2
  .
   rw[eJ (sT hj)]at h2;let(u,r,q):=hlk j y v h1 h2 h3;apply#[u,r,?_];have hyn:y≠n:=λq=>hj (oZ hN h1 (q▸hi))
   rcases q with ⟨k,e⟩ |⟨k,c,e,z⟩
   . show .inl #[k,by exact (if y=n then w else m y)=!u;rw[kA hyn];show e]
   . show .inr #[k,c,e,z.sameBut hs (Inv.cnl I y c e)]
 . let(v,q):=I.cell y c e;show#[v,q.sameBut hs (Inv.cnl I y c e)]
 . rw[hp]at hp2;cases hp2
 .
  apply (I.hok b u e).stay (λc w hc q=>(hs.2 c (λz=>?_)).trans q) (λ_ q=>q) λ_ _ q=>q
  subst z;rcases hc with hc |hc
  . rw[<- hc,I.free]at e;cases e
  . rw[I.free]at hc;cases hc
end
end Ev
namespace PySem
section
def jD{h:Heap}{g:Array GenState}{d:Drawn}{t:Nat}{os:OsState}{e:Addr}{oe:Obj}{Q:Bool->Shared->Prop}
  (hC:h.get? C=!(excClassObj nm q C N bs bm hdct sn sub ab col dd k0 k1 k2 k3 k5 newId)) (hD:h.get? D=!(excClassObj nm' q' D N' bs' bm' hdct' sn' sub' ab' col' dd' k0' k1' k2' k3' k5' newId'))
  (he:h.get? e=!oe) (hcls:oe.cls=.ref C) (hbase:bm'.contains (.type "BaseException")=true) (hup:(Value.ref C::bm).contains (.ref D)=true)
  (hq:Q true #[h,g,d,t,os]):wpAny M A (excMatches (.ref e) (.ref D)) Q E #[h,g,d,t,os]:=by
 have hcB:(Value.ref D::bm').contains (.type "BaseException")=true:=by rw[List.contains_cons,hbase,Bool.or_true]
 have f:=tc_notTuple
 repeat (first | (with_reducible apply wpAny_loadPart_at he ?_;rw[hcls]) |with_reducible apply wpAny_loadPart_at hD ?_ | (with_reducible apply wpAny_isSubtype_exc hD ?_;rw[hcB]) | (with_reducible apply wpAny_isSubtype_exc hC ?_;rw[hup]) |wp_step)
 show hq
end
end PySem
namespace Ev
open L2
abbrev rD(K:Frag)(C D:Addr):Bool:=match K.lookup C with
 |!#[_,_,.cls cd,_]=>cd.mro.contains (.ref D)
 |_=>false
def zm{M:Model}{A:Around}{E:Value->Shared->Prop}{K:Frag}{h:Heap}{g:Array GenState}{d:Drawn}{t:Nat}{os:OsState}{e C D:Addr}{oe:Obj}{Q:Bool->Shared->Prop}(ym:K.In h)(qC:eK K C)(qD:eK K D)(up:rD K C D=true)
  (he:h.get? e=!oe) (hc:oe.cls=.ref C) (hq:Q true #[h,g,d,t,os]):wpAny M A (excMatches (.ref e) (.ref D)) Q E #[h,g,d,t,os]:=by
 let(bm,N,nm,qn,bs,hdct,sn,sub,ab,col,dd,k0,k1,k2,k3,k5,mN,hC,_,_,TC):=ur ym qC;have hup:(Value.ref C::bm).contains (.ref D)=true:=by
  delta rD at up;split at up
  . ext cd _ ho;have:=(ym _ _ ho).symm.trans hC;cases this;show up
  . cases up
 let(bm',N',nm',Yp,bs',hdct',sn',sub',ab',col',dd',k0',k1',k2',k3',k5',mN',hD,_,_,TD):=ur ym qD;show jD hC hD he hc (TD.hasType ⋯) hup hq
section
variable{x C D:Addr}
def Em(I:L2.Inv X [] σ H s)(hp:X.pn=[])(cO:X.stack=X.env::X.outer)(hf:X.env.frame=!X.env.locals)(hex:X.ex=[])(fl:vg X.s₀.heap x C H s.heap)(hN:X.N.Nodup)
  (hg:Gl X ke) (hm:X.mg ke=!(.ref D)) (jN:(ke==(~~~3))=false) (qC:eK X.K C) (qD:eK X.K D) (up:rD X.K C D=true)
  (hie:X.N[ie]?=!en) (len:X.env.scope.names.lookup en=some .local) (den:(en==(~~~3))=false) (cen:(en==("__classdict__":Str))=false)
  (hir:X.N[ir]?=!er) (ler:Loc X.env.scope er) (fer:X.fn er=true\/X.env.scope.names.lookup er=some .local) (hsw:swapsWith (.Name en wz) (!(.Name er wA)) cF.line X.env=pure false)
  (h:∀s',L2.Inv X [] (((σ.set ie (!(.ref x))).set ir (!(.ref x))).set ie none) (upd H x (yO C x)) s'->Q .next s') :
  wpAny (~~~2) X.A (noteFrame (.ref x) X.env) (λ_ s2=>wpAny (~~~2) X.A (setFlight (.ref x) none) (λ_ s3=>wpAny (~~~2) X.A (handleBy (.ref x) X.env [.ExceptHandler (!(.Name ke kp)) (!en) [.Assign [.Name er wA] (.Name en wz) cF] oq]) Q E s3) E s2) E s:=by
 apply DX I hp cO hf hex fl λs2 I2 fl2=>?_
 apply wpAny_handleBy_cons (codeAny_handlers_test ?_) (by intro q;cases q)
 apply fJ (X:=Cx.marked X (.ref x) E) (Inv.marked I2 _ _) hg hm ?_ jN;let((oe,vs,he,hc,_),_):=id fl2;let(hh,gg,dr,tt,oo):=s2;apply zm I2.oY qC qD up he hc ?_;apply codeAny_handlers_suite_as ?_;apply wu I2 hp fl2 λs3 I3 Gk=>?_
 have I4:=Inv.Vu I3 hp Gk;apply kK I4 hN hie (.inl len) (v:=.ref x) rfl (λs5 I5=>?_) (.inr len)
 have hl:ie<σ.length:=by rw[I.len];show (dC.mp hie).1
 apply i9 (((jq (lR (X:=Cx.marked X (.ref x) (λ_ _=>False)) hN hir ler (bV hie (.inl len) den cen) hsw fer)) [] s5 _ _ { nx:=λσ' H'=>σ'=(σ.set ie (!(.ref x))).set ir (!(.ref x))/\H'=upd H x (yO C x),rt:=λ_ _=>False} (Inv.marked I5 _ _) #[.ref x,eQ hl,rfl,rfl])) (λf s6 q=>?_) λ_ _ z=>False.elim z
 cases f with
 |next=>
  let(σ',H',I6,rfl,rfl):=q;have I7:=Inv.unmarked I.ok I6;let(m,hn,hlk):=id I7.loc;apply wpAny_nameGoes_keeps len hn (by rw[I.ok.kind];rfl) λh' w hn' hs=>?_
  show h _ (Inv.gone I7 hp hN hie hlk hn' hs)
 |ret v=>let(_,_,_,_,_,q):=q;show q.elim
 |brk=>let(_,_,_,q):=q;show q.elim
 |cont=>let(_,_,_,q):=q;show q.elim
end
meta abbrev zN(z:Z)(M:List Addr)(H:Hp):Z:=#[z.K,H,M,[],z.T]
abbrev noOwn:Slot->Slot
 |.own _=>.no
 |s=>s
section
variable{g g':G}
def Slots.noOwn{K:Frag}(q:Slots K M H g σ As):Slots K M H (g.map Ev.noOwn) σ []:=by
 induction q with
 |nil=>show .nil
 |no _ ih=>show .no ih
 |dat r _ ih=>show .dat r ih
 |own _ _ _ ih=>show .no ih
def Slots.nos'{K:Frag}(σ:Sg):Slots K M H (List.replicate σ.length .no) σ []:=by
 induction σ with
 |nil=>show .nil
 |cons v σ ih=>show .no ih
def En{i:Nat}{l:List D}(h:(g.map Ev.noOwn)[i]?=!(.own l)):False:=by
 rw[nE]at h;cases e:g[i]? with
 |none=>rw[e]at h;symm
 |some u=>rw[e]at h;cases u <;> symm
def S.into(s:S z g σ As M H)(sl:Slots z.K M H gn σn [])(hn:∀(i:Nat) (l:List D),gn[i]?≠!(.own l)):S (zN z M H) gn σn [] M H where
 sl:=sl
 nd:=o6
 sub:=λa h=>nomatch h
 own:=λi a l e _=>absurd e (hn i l)
 live:=s.live
 keep:=λb o e _ _=>e
 fF:=λ_ h=>h
 m0:=λm hm=>by
  rcases s.live m hm with ⟨o,e,_⟩ |e
  . intro q;rw[show H m=none from q]at e;cases e
  . let(q,hq,rfl):=fR.mp e;let(ps,h1,_):=s.tab q hq;intro z;rw[show H q.1=none from z]at h1;cases h1
 bm:=λb h=>nomatch h
 fK:=λp h=>nomatch h
 tab:=s.tab
 tm:=λp h=>s.fF _ (s.tm p h)
 tt:=s.tt
def S.after(s:S z g σ As M H)(hA:As=[])(s1:S (zN z M H) g' σ0 aN M1 H1)(st:aq M H M1 H1):S z g σ As M1 H1 where
 sl:=s.sl.stay st (λa h=>by rw[hA]at h;symm)
 nd:=s.nd
 sub:=λa h=>by rw[hA]at h;symm
 own:=s.own
 live:=s1.live
 keep:=λb o e hb ht=>s1.keep b o (s.keep b o e hb ht) (λh=>nomatch h) ht
 fF:=λm hm=>s1.fF m (s.fF m hm)
 m0:=s.m0
 bm:=s.bm
 fK:=s.fK
 tab:=s1.tab
 tm:=s.tm
 tt:=s.tt
def Slots.dR{K:Frag}{i:Nat}{v:Option V}(q:Slots K M H g σ As)(e:g[i]?=some .no):Slots K M H g (σ.set i v) As:=by
 induction q generalizing i with
 |nil=>show .nil
 |no q ih=>cases i with
  |zero=>show .no q
  |succ i=>show .no (ih e)
 |dat r q ih=>cases i with
  |zero=>cases e
  |succ i=>show .dat r (ih e)
 |own a b q ih=>cases i with
  |zero=>cases e
  |succ i=>show .own a b (ih e)
def S.dR(s:S z g σ As M H)(e:g[i]?=some .no):S z g (σ.set i v) As M H where
 sl:=s.sl.dR e
 nd:=s.nd
 sub:=s.sub
 own:=λj a l e1 e2=>s.own j a l e1 (by
  rw[eJ (λq=>by rw[<- q,e]at e1;cases e1)]at e2;show e2)
 live:=s.live
 keep:=s.keep
 fF:=s.fF
 m0:=s.m0
 bm:=s.bm
 fK:=λp hp=>by
  let(h1,l,h2):=s.fK p hp;show#[by rw[eJ (λq=>by rw[<- q,e]at h2;cases h2)];show h1,l,h2]
 tab:=s.tab
 tm:=s.tm
 tt:=s.tt
end
def Bv(I:L2.Inv X aj σ H s)(B:aJ X.env.scope scope)(nl:∀y∈scope.names,y.2≠.local)
  (El:∀x c,cl.lookup x=!c->X.env.cells.lookup x=!c/\(x,NameKind.free)∈scope.names) (Ol:∀y∈scope.names,y.2=.free->∃c,cl.lookup y.1=!c):nZ X.N σ scope cl H s.heap where
 inj:=λx y c h1 h2=>I.ok.inj x y c (El x c h1).1 (El y c h2).1
 has:=λx h=>by
  rcases h with h |h
  . show absurd rfl (B.uf _ (L2.mem_of_lookup h))
  . show Ol _ (L2.mem_of_lookup h) rfl
 cell:=λx c h=>#[I.dO x c (El x c h).1,I.cell x c (El x c h).1]
 loc:=λi x v h1 h2 h3=>by
  have hf:scope.names.lookup x=some .free:=by
   rcases h3 with h3 |h3 |h3
   . show absurd rfl (nl _ (L2.mem_of_lookup h3))
   . show absurd rfl (B.uf _ (L2.mem_of_lookup h3))
   . show h3
  have hv:=B.free _ (L2.mem_of_lookup hf) rfl;let(m,_,hlk):=I.loc;let(u,r,q):=hlk i x v h1 h2 (.inr hv);let(c2,e2):=Ol _ (L2.mem_of_lookup hf) rfl;rcases q with ⟨k,_⟩ |⟨_,c,e,z⟩
  . have k:X.env.scope.names.lookup x=some .local:=k;rcases hv with hv |hv <;> (have hv:=hv;rw[k]at hv;cases hv)
  . have:=(El _ _ e2).1;rw[e]at this;cases this;show#[hf,u,c2,r,e2,z]
 len:=I.len
def nZ.un(c:nZ N σ scope cl H h)(u:Un fs [] H H' h h'):nZ N σ scope cl H' h':=by
 have key:∀x a v,cl.lookup x=!a->h.IsCell a v->h'.IsCell a v:=by rintro x a v e ⟨o,e1,d⟩;let(sl,e2):=u.any e1 (c.cell x a e).1 ⋯;show#[_,e2,d]
 apply#[c.inj,c.has,λx a e=>?_,λi x v h1 h2 h3=>?_,c.len]
 . let(hn,v,o,e1,d):=c.cell x a e;show#[u.free a o e1 hn ⋯,v,key x a v e #[o,e1,d]]
 . let(f,w,a,r,e,z):=c.loc i x v h1 h2 h3;show#[f,w,a,r,e,key x a _ e z]
section
variable{C D p c':Addr}
 {N:List Str}{qn:Str}{scope:Scope}{cl:List (Str×Addr)}{body:Expr}{params:Arguments}{pm jz:Value}{g0 Jm:G}
meta abbrev Jo (y ke en er:Str) (py bN qY kp wA wz cF oq jk:Pos):Stmt:=.Try [.Expr (.Call (.Name y py) [] [] bN) qY] [.ExceptHandler (!(.Name ke kp)) (!en) [.Assign [.Name er wA] (.Name en wz) cF] oq] [] [] jk
structure RB(X:Cx)(C D:Addr)(y ke en er:Str)(iy ie ir:Nat):Prop where
 pn:X.pn=[]
 st:X.stack=X.env::X.outer
 fr:X.env.frame=!X.env.locals
 ex:X.ex=[]
 calm:X.calm=true
 nd:X.N.Nodup
 gk:Gl X ke
 mg:X.mg ke=!(.ref D)
 dk:(ke==(~~~3))=false
 qC:eK X.K C
 qD:eK X.K D
 up:rD X.K C D=true
 kC:Hi X.K C
 ie:X.N[ie]?=!en
 le:X.env.scope.names.lookup en=some .local
 de:(en==(~~~3))=false
 ce:(en==("__classdict__":Str))=false
 ir:X.N[ir]?=!er
 lr:Loc X.env.scope er
 fn:X.fn er=true\/X.env.scope.names.lookup er=some .local
 iy:X.N[iy]?=!y
 vy:g9 X.env.scope y
 dy:(y==(~~~3))=false
 cy:(y==("__classdict__":Str))=false
 room:X.A.depth<recursionLimit
structure eE(params:Arguments)(scope:Scope):Prop where
 co:scope.isCoroutine=false
 gen:scope.isGenerator=false
 kind:scope.kind=.function
 nc:∀x∈scope.names,x.2≠.cell
 nl:∀x∈scope.names,x.2≠.local
 par:params=#[[],[],none,[],[],none,[]]
def eE.bind(h:eE params scope):bindArgs (PySem.W.kla_fn "<lambda>" qn params body scope cl pm (.ref c') jz) #[[],[]]=pure []:=by rw[h.par];rfl
def Vv{aj: ~~~1}{i:Nat}{x:Str}{v:V}{pos:Pos}{E:Value->Shared->Prop}{Q:Value->Shared->Prop}(I:L2.Inv X aj σ H s)(hN:X.N[i]?=!x)(hv:g9 X.env.scope x)(hd:(x==(~~~3))=false)(bR:(x==("__classdict__":Str))=false)(e:σ[i]?=!(!v))(h:∀u,RelV v u->Q u s) :
  wpAny (~~~2) X.A (eval (.Name x pos) X.env) Q E s:=by
 let(m,hn,hl):=I.loc;let(u,r,l):=hl i x v hN e hv;have fin:=h u r;rcases l with ⟨hk,hm⟩ |⟨hk,c,hc,hcell⟩
 . show C7 (wpAny_loadName_local I.ok.kind hk hn hm fin) hd
 .
  rcases hk with hk |hk
  . show C7 (wpAny_loadName_cell I.ok.kind hk hc hcell fin) hd
  . show C7 (wpAny_loadName_free I.ok.kind hk hc hcell fin bR) hd
def Oq(T:RB X C D y ke en er iy ie ir)(L:eE params scope)(I:L2.Inv X [] σ H s)(hS:S zf gf σ [] M H)(hK:zf.K=X.K)(hsw:swapsWith (.Name en wz) (!(.Name er wA)) cF.line X.env=pure false)(hsx:swapsWith (.Call (.Name y py) [] [] bN) none qY.line X.env=pure false)
  (hy:σ[iy]?=!(!(.ref p))) (lI:gf[ie]?=some .no) (hbr:ir∉zf.bor) (hnr:ie≠ir)
  (hp:H p=!(mC p (PySem.W.kla_obj "<lambda>" qn params body scope cl pm c' jz))) (hc':H c'=!(ig qn c')) (Cl:nZ N σ0 scope cl H s.heap) (hs0:Slots zf.K M H g0 σ0 []) (hn0:∀(i:Nat) (l:List Ev.D),g0[i]?≠!(.own l))
  (hb:∀xe,PassesOwn (~~~2) (X.A.deeper (PySem.W.envX qn scope s⁻¹ p (.ref c') cl)) (PySem.W.envX qn scope s⁻¹ p (.ref c') cl) xe->Gj (wm X N qn scope p (.ref c') cl s H xe) (zN zf M H) body g0 C Jm)
  (h:∀s' σ' H' M' aC,L2.Inv X [] σ' H' s'->S zf (gf.set ir (.dat (.nU C))) σ' aC M' H'->aq M H M' H'->Q .next s') :
  wpAny (~~~2) X.A (exec (Jo y ke en er py bN qY kp wA wz cF oq jk) X.env) Q X.xe s:=by
 apply wpAny_Try_except (BA (i9 (wpAny_Expr_any ?_ I.quiet hsx) (λ_ _ z=>False.elim z) λ_ _ z=>z))
 have hpo:=(I.hok p _ hp).1;have hcr:=(I.hok c' _ hc').1;apply xI (Vv I T.iy T.vy T.dy T.cy hy λu r=>?_)
 cases r;apply PySem.W.callWith_F0 #[_,_,_,_,hpo] (C8 (BD (Jl (R:=λr s'=>∃x H1 aN M1,r=.error (.ref x)/\Gi X.prog X.w X.stack H s (λc o h=>c=.ref C/\o=none/\h=H1) (.ref x) s'/\S (zN zf M H) Jm σ0 aN M1 H1/\aq M H M1 H1) I T.calm T.room hpo hcr L.bind L.co L.gen L.kind L.nc Cl (S.into hS hs0 hn0) hb
  λx H1 aN M1 s'' cx S1 st=>#[x,H1,aN,M1,rfl,cx,S1,st]) ?_))
 rintro r s1 ⟨x,H1,aN,M1,e,cx,S1,st⟩;subst e;let(x',C',H',e,I1,fl,e1,_,e3):=Ik T.ex I cx;cases e;cases e1;subst e3;apply Em I1 T.pn T.st T.fr T.ex fl T.nd T.gk T.mg T.dk T.qC T.qD T.up T.ie T.le T.de T.ce T.ir T.lr T.fn hsw λs' I'=>?_
 have s2:=S.after hS rfl S1 st;have s3:=s2.laid (o:=yO C x) fl.no;have s4:S zf gf (σ.set ie (!(.ref x))) [] M1 (upd H' x (yO C x)):=s3.dR lI;let(rA,s5):=s4.iJ (d:=.nU C) (v:=.ref x) hbr (hK▸.nU T.kC (s2.fresh fl.no) aA);have s6:S zf (gf.set ir (.dat (.nU C))) (((σ.set ie (!(.ref x))).set ir (!(.ref x))).set ie none) rA M1 (upd H' x (yO C x)):=s5.dR (by rw[eJ (sT hnr)];show lI)
 show h s' _ _ M1 rA I' s6 (st.trans (aq.laid fl.no))
end
end Ev
namespace L2
def fn_at{CX:Dg}{P:Program}{w:World}{K:Frag}{mg:Str->Option Value}{base:Heap}{k:Nat}{f:Addr}{name qual:Str}{params:Arguments}{body:List Stmt}{scope:Scope}{dV kV doc pm bE ct oc:Value}{an od:Option Addr}
  {osl:Array (Option Value)}{N ps:List Str}{A:Around}{outer:List Env}{s:Shared}{H:Hp}{args:Args}{us:List Value}{vs:List V}{Q:VK}{E:XK} (lk:K.lookup f=!#[oc,od,.func (PySem.W.fnOf name qual params body scope dV kV doc pm an bE ct),osl]) (bR:PySem.W.codeIn K bE qual=true) (S:bY N ps scope)
  (hr:cC (k+1) A) (e0:GX P w K mg base A outer s H) (hb:BindsTo s (PySem.W.fnOf name qual params body scope dV kV doc pm an bE ct) args (ps.zip us)) (r:Vals vs us) (hl:vs.length=ps.length)
  (hbody:∀s1,Inv (gI CX P w K mg base N qual scope f bE A outer s H E) [] (start N vs) H s1->wpAny (model P w) (A.deeper (envOfC qual scope s⁻¹ f bE)) (execs body (envOfC qual scope s⁻¹ f bE)) (SP (gI CX P w K mg base N qual scope f bE A outer s H E) [] { nx:=λ_ H'=>Q .non H',rt:=Q}) (gI CX P w K mg base N qual scope f bE A outer s H E).xe s1) :
  codeAny (model P w) A (.call (.ref f) args) (CR CX outer P w H s Q E) s:=by
 have KX:=e0.mod.ym.keeps λb o e=>(e0.bs b o e).1
 have lim:=e0.mod.nolimit.keeps λb o e=>(e0.bs b o e).1
 have hkind:∀y∈ps.zip us,scope.names.lookup y.1=some .local\/(scope.names.lookup y.1=some .cell/\((cellsFrom (s⁻¹+1) scope.names []).lookup y.1).isSome=true):=by
  rintro⟨n,v⟩ hy;rcases S.par n (CO hy).1 with q |q
  . show .inl q
  . show .inr #[q,B0 _ _ _ (.inl q)]
 apply codeAny_call_function hr.depth (KX _ _ lk) rfl S.co S.gen rfl (PySem.W.codeRec_of KX bR) (hb _ _ _ _ ?_);apply wpAny_newFunctionEnv_cells S.kind hkind λenv he s1 x=>?_
 subst he;apply#[lim.keeps x.toInCall.keep,codeAny_func ?_];have I:Inv (gI CX P w K mg base N qual scope f bE A outer s H E) [] (start N vs) H s1:=rY S hr.hd e0 hl r x;apply i9 (hbody s1 I) (λfl s' hs=>?_) λe s' hs=>hs
 have fin:∀{σ':St}{H':Hp}{v:V}{u:Value},Inv (gI CX P w K mg base N qual scope f bE A outer s H E) [] σ' H' s'->RelV v u->Q v H'->CE outer P w H s Q u s':=
  λ{σ' H' v u} J rv q=>#[v,H',J.os,J.bare,J.base,J.hok,rv,q]
 cases fl with
 |ret u=>let(v,σ',H',J,rv,q):=hs;show fin J rv q
 |next=>let(σ',H',J,q):=hs;show fin (v:=V.non) J rfl q
 |brk=>let(_,_,_,q):=hs;show False.elim q
 |cont=>let(_,_,_,q):=hs;show False.elim q
end L2
namespace Ev
open L2
structure Vw(K:Frag)(mg:Str->Option Value)(sc:Scope)(N:List Str)(C D:Addr)(y ke en er:Str)(ie ir:Nat):Prop where
 nd:N.Nodup
 gk:sc.names.lookup ke=some .globalImplicit
 mg:mg ke=!(.ref D)
 dk:(ke==(~~~3))=false
 qC:eK K C
 qD:eK K D
 up:rD K C D=true
 kC:Hi K C
 eN:N[ie]?=!en
 le:sc.names.lookup en=some .local
 de:(en==(~~~3))=false
 ce:(en==("__classdict__":Str))=false
 rN:N[ir]?=!er
 lr:Loc sc er
 yN:N[0]?=!y
 vy:g9 sc y
 dy:(y==(~~~3))=false
 cy:(y==("__classdict__":Str))=false
 ne:ie≠ir
 ie0:ie≠0
 ir0:ir≠0
def Vw.try{P:Program}{w:World}{K:Frag}{mg:Str->Option Value}{base:Heap}{N:List Str}{qual:Str}{sc:Scope}{f:Addr}{cd:Value}{A:Around}{outer:List Env}{s:Shared}{H:Hp}{E:XK}{C D:Addr}{y ke en er:Str}{ie ir k:Nat}
  (T:Vw K mg sc N C D y ke en er ie ir) (hr:cC k (A.deeper (envOfC qual sc s⁻¹ f cd))):RB (gI yL P w K mg base N qual sc f cd A outer s H E) C D y ke en er 0 ie ir:=
 #[rfl,rfl,rfl,rfl,rfl,T.nd,T.gk,T.mg,T.dk,T.qC,T.qD,T.up,T.kC,T.eN,T.le,T.de,T.ce,T.rN,T.lr,.inl rfl,T.yN,T.vy,T.dy,T.cy,by have:=hr.dp;exact (A.deeper (envOfC qual sc s⁻¹ f cd)).depth<_;lia]
structure qg(X:Cx)(qn:Str)(q c:Addr):Prop where
 hq:(q,qn)∈cH X.K
 hu:∀p∈cH X.K,p.1=q->p.2=qn
 hcode:X.env.code=.ref c
 hC:∀b:Heap,X.K.In b->PySem.W.CodeHd b c q
 hqn:X.env.qual ++ "<lambda>"=qn
 hbi:∀b:Heap,X.K.In b->b.BuiltinsAt X.mg q
 hqm:mainGlobals≠q
structure Lt where
 params:Arguments
 body:Expr
 scope:Scope
 pos:Pos
meta abbrev Lt.ex(l:Lt):Expr:=.Lambda l.params l.body l.scope l.pos
abbrev jH(X:Cx)(qn:Str)(M:List Addr)(H:Hp)(l:Lt)(v:V):Prop:=∃p c' jz cl,v=.ref p/\p∉M/\c'∉M/\H p=!(mC p (PySem.W.kla_obj "<lambda>" qn l.params l.body l.scope cl ((X.mg "__name__").getD .none) c' jz))/\H c'=!(ig qn c')/\
 (∀x c,cl.lookup x=!c->X.env.cells.lookup x=!c/\(x,NameKind.free)∈l.scope.names)/\∀y∈l.scope.names,y.2=.free->∃c,cl.lookup y.1=!c
def jH.stay(st:aq M H M' H')(h:jH X qn M H l v):jH X qn M' H' l v:=by let(p,c',jz,cl,e,n1,n2,h1,h2,h3):=h;show#[p,c',jz,cl,e,(st _ _ h1 n1).2,(st _ _ h2 n2).2,(st _ _ h1 n1).1,(st _ _ h2 n2).1,h3]
inductive cU(X:Cx)(qn:Str)(M:List Addr)(H:Hp):List Lt->List V->Prop
 |nil:cU X qn M H [] []
 |cons {l:Lt}{ls:List Lt}{v:V}{vs:List V}:jH X qn M H l v->cU X qn M H ls vs->cU X qn M H (l::ls) (v::vs)
def cU.stay(st:aq M H M' H')(h:cU X qn M H l v):cU X qn M' H' l v:=by
 induction h with
 |nil=>show .nil
 |cons a _ ih=>show .cons (a.stay st) ih
def cU.push(h:cU X qn M H l v)(e:jH X qn M H x y):cU X qn M H (l++[x]) (v++[y]):=by
 induction h with
 |nil=>show .cons e .nil
 |cons a _ ih=>show .cons a ih
def cU.get(h:cU X qn M H l v):∀{i:Nat}{x:Lt},l[i]?=!x->∃y,v[i]?=!y/\jH X qn M H x y:=by
 induction h with
 |nil=>intro i x e;cases e
 |cons a _ ih=>intro i x e;cases i with
  |zero=>cases (show some _=!x from e);show#[_,rfl,a]
  |succ i=>show ih e
def cU.length(h:cU X qn M H l v):l.length=v.length:=by
 induction h with
 |nil=>rfl
 |cons _ _ ih=>show congrArg (· + 1) ih
section
def S.ext(s:S z g σ As M H)(h:H a=!(.ext f)):a∉M:=λhm=>by
 rcases s.live a hm with ⟨o,e,gr⟩ |e
 . rw[h]at e;cases e;show gr
 . let(q,hq,rfl):=fR.mp e;let(ps,h1,_):=s.tab q hq;rw[h]at h1;cases h1
def S.zo(s:S z g σ As M H)(hm:a∈M)(hA:a∉As)(h0:z.H0 a=none)(h:H a=!(.lst xs)):S z g σ As M (upd H a (.lst xs')):=s.yP hm hA h0 h trivial trivial
abbrev tLam(X:Cx)(z:Z)(g:G)(qn:Str)(l:Lt):TE:=λσ H Q=>∃As M,S z g σ As M H/\∀v H',S z g σ As M H'->aq M H M H'->jH X qn M H' l v->(∀b xs,H b=!(.lst xs)->H' b=!(.lst xs))->Q v H'
def zp(hK:z.K=X.K)(mk:qg X qn q c)(B:aJ X.env.scope l.scope)(L:eE l.params l.scope):PE X l.ex (tLam X z g qn l):=by rintro aj s σ H Q I ⟨As,M,hs,hQ⟩;show Jk I hs (by rw[hs.tt,hK];show mk.hq) (by rw[hs.tt,hK];show mk.hu) mk.hcode (mk.hC _ I.ok.mod.ym) mk.hqn (mk.hbi _ I.ok.mod.ym) mk.hqm (by rw[L.par];rfl) B λp c' jz cl H' s' I' S' st' np h1 h2 c1 c2 kl=>#[.ref p,H',I',rfl,hQ _ H' S' st' #[p,c',jz,cl,rfl,np,S'.ext h2,h1,h2,c1,c2] kl]
end
section
variable{st:Stmt}{rest:List Stmt}{f C D p c':Addr}
def Vx(hK:z.K=X.K)(hr:cC (k+2) X.A)(hcalm:X.calm=true)(Ff:Lv X.K fx qual st f fd)(cO:bA st=.Assign [.Name er Eo] (.Constant .none j np) Yq::Jo y ke en er py cpos0 qY kp wA wz cF oq jk::rest)(Sc:bY Nf [y] (aE st))
  (hbd:L2.Binds X.K fd [y] []) (T:Vw X.K X.mg (aE st) Nf C D y ke en er ie ir) (L:eE params scope)
  (hbE:∀(Xf:Cx) (s:Shared) (H:Hp) (xe:Value->Shared->Prop) (zl:Z),Xf.prog=X.prog->Xf.w=X.w->Xf.K=X.K->Xf.mg=X.mg->Xf.base=X.base->cC (k+1) Xf.A->Xf.calm=true->PassesOwn (model Xf.prog Xf.w) (Xf.A.deeper (PySem.W.envX qn scope s⁻¹ p (.ref c') cl)) (PySem.W.envX qn scope s⁻¹ p (.ref c') cl) xe->zl.K=X.K->zl.bor=[]->Gj (wm Xf N qn scope p (.ref c') cl s H xe) zl body g0 C Jm)
  (hrest:∀(bE:Value) (A:Around) (outer:List Env) (s:Shared) (H:Hp) (E:XK),PySem.W.codeIn X.K bE qual=true->cC k (A.deeper (envOfC qual (aE st) s⁻¹ f bE))->∀zf:Z,zf.K=X.K->zf.bor=[]->dZ (gI yL X.prog X.w X.K X.mg X.base Nf qual (aE st) f bE A outer s H E).tU zf rest ((List.replicate Nf.length .no).set ir (.dat (.nU C))) (.rt r) g3)
  (ho:cS [] g3 r=!r') (I1:L2.Inv X aj σ H s) (S1:S z g σ As M H) (hp1:H p=!(mC p (PySem.W.kla_obj "<lambda>" qn params body scope cl pm c' jz))) (hc1:H c'=!(ig qn c')) (Cl0:nZ N σ0 scope cl H s.heap) (hs0:Slots z.K M H g0 σ0 []) (hn0:∀(i:Nat) (l:List Ev.D),g0[i]?≠!(.own l))
  {us:List Value} (rv:Vals [.ref p] us) {E:Value->Shared->Prop}{Q:Value->Shared->Prop} (hQ:∀u v H' s' aC M',L2.Inv X aj σ H' s'->RelV v u->S z g σ aC M' H'->aq M H M' H'->dh z g σ aC M' H' r' v->Q u s'):wpAny (~~~2) X.A (call (.ref f) us) Q E s:=by
 let(oc,od,kV,doc,pm,an,bE,ct,osl,rfl,lk,bR):=Ff.ex;have aL:us.length=1:=by rw[<- rv.length];rfl
 apply C8 (BD (fn_at (CX:=yL) (Q:=λv H'=>∃aC M',S z g σ aC M' H'/\aq M H M' H'/\dh z g σ aC M' H' r' v) (E:=λ_ _ _=>False) lk bR Sc hr I1.Mk (by have:=hbd s us I1.oY (by rw[mE];show aL);rw[mE]at this;show this) rv rfl λs2 J=>?_) λrr s' hq'=>?_)
 ·
  rw[cO];have hr1:cC (k+1) (X.A.deeper (envOfC qual (aE st) s⁻¹ f bE)):=hr.deeper _;have hr2:=hr1.mono (A7 k);have TT:=T.try (P:=X.prog) (w:=X.w) (base:=X.base) (outer:=X.stack) (H:=H) (E:=λ_ _ _=>False) hr2
  apply BA (i9 ((lR T.nd T.rN T.lr Gy rfl (.inl rfl)) [] s2 _ _ { nx:=λσ' H'=>σ'=(start Nf [.ref p]).set ir (some .non)/\H'=H,rt:=λ_ _=>False} (J.wish _) #[rfl,rfl]) (λfl s3 q3=>?_) λ_ _ z=>False.elim z)
  cases fl with
  |ret u=>let(_,_,_,_,_,q):=q3;show q.elim
  |brk=>let(_,_,_,q):=q3;show q.elim
  |cont=>let(_,_,_,q):=q3;show q.elim
  |next=>
   let(σ3,H3,I3,e1,e2):=q3;subst e1 e2;have I3:=I3.cQ;have len0:(start Nf [.ref p]).length=Nf.length:=by have:=J.len;show this
   have Vy:Slots z.K M H3 (List.replicate Nf.length .no) (start Nf [.ref p]) []:=by rw[<- len0];show Slots.nos' _
   have own0:∀(i:Nat) (l:List Ev.D),(List.replicate Nf.length Slot.no)[i]?≠!(.own l):=λi l e=>by
    have:=i7 e;rw[x5]at this;cases this.2
   have S3:=S.into S1 Vy own0;let(gP,S4):=S3.iJ (λh=>nomatch h) .non
   have hA4:gP=[]:=by
    have key:∀{g:G}{σ:Sg}{As:List Addr},Slots z.K M H3 g σ As->(∀(i:Nat) (l:List Ev.D),g[i]?≠!(.own l))->As=[]:=λq=>by
     induction q with
     |nil=>intro _;rfl
     |no _ ih=>intro h;show ih λi l e=>h (i+1) l e
     |dat _ _ ih=>intro h;show ih λi l e=>h (i+1) l e
     |own _ _ _ ih=>intro h;show absurd rfl (h 0 _)
    apply key S4.sl λi l e=>?_
    by_cases hi:i=ir
    .
     subst hi;rw[eQ (by rw[hZ];show (dC.mp T.rN).1)]at e
     cases e
    . rw[eJ (sT hi)]at e;show own0 i l e
   subst hA4;have hy:((start Nf [.ref p]).set ir (some .non))[0]?=!(!(.ref p)):=by rw[eJ T.ir0];rfl
   have lI:((List.replicate Nf.length Slot.no).set ir (.dat .non))[ie]?=some .no:=by rw[eJ (sT T.ne),AX,i5 (dC.mp T.eN).1]
   have un3:=I3.base;have Yr:=hK;apply BA (Oq (σ0:=σ0) TT L I3 S4 Yr rfl rfl hy lI (λh=>nomatch h) T.ne hp1 hc1 (Cl0.un un3) hs0 hn0
    (λxe hx=>hbE _ s3 H3 xe _ rfl rfl rfl rfl rfl hr1 rfl hx hK rfl) λs4 σ4 H4 M4 gP I4 S5 iE=>?_)
   let(t,pt,kt):=hrest bE X.A X.stack s H3 (λ_ _ _=>False) bR hr2 (zN z M H3) hK rfl
   rw[List.set_set]at S5;apply pt.tU [] s4 σ4 H4 _ I4 (kt σ4 gP M4 H4 _ S5 λv σ5 rA M5 H5 S6 Ib R6=>?_)
   let(M6,S7,Z0,R7):=S1.leave .nil rfl o6 S6 (iE.trans Ib) R6 rfl ho;show#[_,M6,S7,Z0,R7]
 .
  cases rr with
  |error ev=>show False.elim hq'
  |ok flw=>
   cases flw with
   |ret u=>let(v,H',I',r1,aC,M',a,b,d):=I1.after hq';show hQ u v H' s' aC M' I' r1 a b d
   |next=>show False.elim hq'
   |brk=>show False.elim hq'
   |cont=>show False.elim hq'
end
abbrev zq(Y X:Cx)(z:Z)(g:G)(qn:Str)(l:Lt)(r':R)(f:Addr):Prop:=
 ∀{aj: ~~~1}{σ1 σ0:Sg}{H1:Hp}{s1:Shared}{g1:G}{As A0 M:List Addr}{p c':Addr}{cl:List (Str×Addr)}{pm jz:Value}{us:List Value}{Q E:Value->Shared->Prop},L2.Inv Y aj σ1 H1 s1->S z g1 σ1 As M H1->H1 p=!(mC p (PySem.W.kla_obj "<lambda>" qn l.params l.body l.scope cl pm c' jz))->H1 c'=!(ig qn c')->
  nZ X.N σ0 l.scope cl H1 s1.heap->Slots z.K M H1 g σ0 A0->Vals [.ref p] us->(∀u v H' s' aC M',L2.Inv Y aj σ1 H' s'->RelV v u->S z g1 σ1 aC M' H'->aq M H1 M' H'->dh z g1 σ1 aC M' H' r' v->Q u s')->wpAny (model Y.prog Y.w) Y.A (call (.ref f) us) Q E s1
section
variable{st:Stmt}
def Ot(hK:z.K=X.K)(Ff:Lv X.K fx qual st f fd)(hg:Gl X fx)(hm:X.mg fx=!(.ref f))(jN:(fx==(~~~3))=false)(mk:qg X qn q c)(B:aJ X.env.scope l.scope)(L:eE l.params l.scope)(hcall:zq X X z g qn l r' f):aD X z (.Call (.Name fx fp) [l.ex] [] bN) g r' g:=by
 apply#[λσ H Q=>∃As M,S z g σ As M H/\∀v H' aC M',S z g σ aC M' H'->aq M H M' H'->dh z g σ aC M' H' r' v->Q v H',?_,λσ As M H Q s kq=>#[As,M,s,λv H' aC M'=>kq v H' aC M']]
 rintro aj s σ H Q I ⟨As,M,hs,hQ⟩;apply xI (fJ I hg hm ?_ jN);apply A4 I.ok.mod.ym Ff.kp (i9 ((aY (zp hK mk B L) cG rfl) bN aj s σ H (λvs H'=>∃v,vs=[v]/\S z g σ As M H'/\aq M H M H'/\jH X qn M H' l v) I #[As,M,hs,λv H' a b d _=>#[v,rfl,a,b,d]]) (λus s1 q1=>?_) λ_ _ z=>z) rfl rfl
 let(vs,H1,I1,rv,_,rfl,S1,dc,p,c',jz,cl,rfl,np1,nc1,hp1,hc1,El,Ol):=q1;show#[I1.oY,hcall I1 S1 hp1 hc1 (Bv I1 B L.nl El Ol) S1.sl rv λu v H' s' aC M' I' r1 a b d=>#[v,H',I',r1,hQ v H' aC M' a (dc.trans b) d]]
end
section
def Jp(hw:∀u,RelV w u->u=cv):d9 X (.builtin "isinstance") (λxs H Q=>∃x M d b,xs=[x,w]/\Pk X.K M H d x/\PySem.W.kitOne X.K (Gg d) cv=!b/\Q (.bl b) H):=by intro aj s σ H xs us Q I r h;let(x,M,d,b,rfl,p,e,q):=h;let(u,w',rfl,r1,r2):=vals2 r;obtain rfl:=hw _ r2;show HJ I p r1 e λtk=>#[.bl b,H,I.tok tk,rfl,q]
def Jq(hK:z.K=X.K)(h:aD X z a g r1 g1)(hp:pk r1 g1=!d)(he:∀M H v,Pk X.K M H d v->PySem.W.kitOne X.K (Gg d) cv=!b)
  (hg:Gl X "isinstance") (hm:X.mg "isinstance"=none) (hv:bootBuiltins "isinstance"=!(.builtin "isinstance")) (hw:∀u,RelV w u->u=cv) (pT':PE X (.Name T pT) (tC w))
  (hs:starEach [a,.Name T pT] X.env=(false,eval a X.env)::starEach [.Name T pT] X.env):aD X z (.Call (.Name "isinstance" p) [a,.Name T pT] [] pos) g (.dat (.bl b)) g1:=by
 let(t,q,k):=h;apply#[_,iF (Jp hw) hg hm hv (aY q (aY pT' cG) hs) ⋯ ⋯ hs,λσ As M H Q s kk=>k σ As M H _ s λv H' aC M' s' st R=>?_]
 have p:=hK▸s'.pk (aq.refl _ _) R hp;show#[v,M',d,b,rfl,p,he _ _ _ p,kk _ H' aC M' s' st (.bl b)]
end
open L2 PySem.W
abbrev dJ:Slot->Slot
 |.own l=>.dat (.lst l)
 |s=>s
abbrev flat:D->Bool
 |.non=>true
 |.bl _=>true
 |.int _=>true
 |.str _=>true
 |_=>false
def Rep.flat{K:Frag}{M M':List Addr}{H H':Hp}{d:D}{v:V}(r:Rep K M H d v)(h:Ev.flat d=true):Rep K M' H' d v:=by
 cases r with
 |non=>show .non
 |bl b=>show .bl b
 |int i=>show .int i
 |str x=>show .str x
 |_=>symm
section
variable{g g':G}
def Slots.atA{K:Frag}(q:Slots K M H g σ As){a:Addr}(h:a∈As):∃(i:Nat) (l:List D) (xs:List V),g[i]?=!(Slot.own l)/\σ[i]?=!(!(V.ref a))/\H a=!(.lst xs):=by
 induction q with
 |nil=>symm
 |no _ ih=>let(i,l,xs,h1,h2,h3):=ih h;show#[i+1,l,xs,h1,h2,h3]
 |dat _ _ ih=>let(i,l,xs,h1,h2,h3):=ih h;show#[i+1,l,xs,h1,h2,h3]
 |own e _ _ ih=>
  rcases d6.mp h with rfl |h
  . show#[0,_,_,rfl,rfl,e]
  . let(i,l,xs,h1,h2,h3):=ih h;show#[i+1,l,xs,h1,h2,h3]
def Slots.dJ{K:Frag}{M0:List Addr}(q:Slots K M H g σ As)(hl:∀m∈M0,m∈M)(hn:∀a∈As,a∉M0):Slots K M0 H (g.map Ev.dJ) σ []:=by
 induction q with
 |nil=>show .nil
 |no _ ih=>show .no (ih hn)
 |dat r _ ih=>show .dat (r.stay (aq.less hl)) (ih hn)
 |own e r _ ih=>show .dat (.lst #[hn _ dA,e] (r.stay (aq.less hl))) (ih λa ha=>hn a (bP _ ha))
def Ou{i:Nat}{l:List D}(h:(g.map Ev.dJ)[i]?=!(.own l)):False:=by
 rw[nE]at h;cases e:g[i]? with
 |none=>rw[e]at h;symm
 |some u=>rw[e]at h;cases u <;> symm
def S.h0(s:S z g σ As M H)(hb:z.bor=[])(h:a∈As):z.H0 a=none:=by
 let(i,l,xs,h1,h2,_):=s.sl.atA h;rcases s.own i a l h1 h2 with ⟨q,_⟩ |q
 . rw[hb]at q;cases q
 . show q
def S.Jr(s:S z g σ As M H)(hb:z.bor=[]):S z (g.map Ev.dJ) σ [] (M.filter λm=>decide (m∉As)) H where
 sl:=s.sl.dJ (λm hm=>(hV.mp hm).1) λa ha hm=>by have:=(hV.mp hm).2;simp at this;show this ha
 nd:=o6
 sub:=λa h=>nomatch h
 own:=λi a l e _=>(Ou e).elim
 live:=λm hm=>s.live m (hV.mp hm).1
 keep:=s.keep
 fF:=λm hm=>hV.mpr #[s.fF m hm,by
  have:m∉As:=λh=>s.m0 m hm (s.h0 hb h)
  simpa using this]
 m0:=s.m0
 bm:=s.bm
 fK:=λp hp=>by
  have:p.1∈z.bor:=tP hp;rw[hb]at this;cases this
 tab:=s.tab
 tm:=s.tm
 tt:=s.tt
def S.thaw(s:S z g σ As M H)(hb:z.bor=[]){g1:G}{σ1:Sg}(s1:S z g1 σ1 aN M1 H1)(st:aq (M.filter λm=>decide (m∉As)) H M1 H1):S z g σ As (As++M1) H1/\aq M H (As++M1) H1:=by
 have nA:∀a∈As,a∉M.filter λm=>decide (m∉As):=λa ha hm=>by have:=(hV.mp hm).2;simp at this;show this ha
 have stM:aq M H (As++M1) H1:=λb o e hb'=>by
  have h1:=st b o e λhm=>hb' (hV.mp hm).1
  apply#[h1.1,λhm=>?_]
  rcases mP.mp hm with hm |hm
  . show hb' (s.sub b hm)
  . show h1.2 hm
 have lists:∀a∈As,∃xs,H1 a=!(.lst xs):=λa ha=>by
  let(_,_,xs,_,_,e):=s.sl.atA ha;show#[xs,(st a _ e (nA a ha)).1]
 apply#[#[s.sl.stay stM λa ha o e=>(st a o e (nA a ha)).1,s.nd,λa ha=>i6 _ ha,s.own,λm hm=>?_,s1.keep,λm hm=>eP _ (s1.fF m hm),s.m0,s.bm,s.fK,s1.tab,s.tm,s.tt],stM]
 rcases mP.mp hm with hm |hm
 . let(xs,e):=lists m hm;show .inl #[_,e,trivial]
 . show s1.live m hm
def Ov(hb:z.bor=[])(hf:Ev.flat d=true)(h:aD X z e (g.map Ev.dJ) (.dat d) g1):aD X z e g (.dat d) g:=by
 let(t,q,k):=h;apply#[t,q,λσ As M H Q s kk=>k σ [] _ H Q (s.Jr hb) λv H1 aN M1 s1 st R=>?_]
 let(a,b):=s.thaw hb s1 st;show kk v H1 As _ a b (Rep.flat R hf)
abbrev kY:D->Bool
 |.tup l=>l.all flat
 |d=>flat d
def aK.flat{K:Frag}{l:List D}{xs:List V}(r:aK K M H l xs)(h:l.all Ev.flat=true):aK K M1 H1 l xs:=by
 induction l generalizing xs with
 |nil=>cases r;show .nil
 |cons d l ih=>
  cases r with
  |cons r t=>rw[List.all_cons,hU]at h;show .cons (Rep.flat r h.1) (ih t h.2)
def Rep.kY{K:Frag}{d:D}{x:V}(r:Rep K M H d x)(h:Ev.kY d=true)(hA:∀a∈As,∃ys,H a=!(.lst ys)):Rep K (As++M) H d x:=by
 cases r with
 |tup t rr=>
  have nA:∀{a:Addr}{o:HO},H a=!o->(∀ys,o≠.lst ys)->a∉M->a∉As++M:=λe n m hm=>by
   rcases mP.mp hm with hm |hm
   . let(ys,e2):=hA _ hm;rw[e]at e2;cases e2;show n _ rfl
   . show m hm
  rcases t with ⟨n,t |⟨o,t⟩⟩ |t
  . show .tup (.inl #[nA t (λ_ e=>nomatch e) n,.inl t]) (aK.flat rr h)
  . show .tup (.inl #[nA t (λ_ e=>nomatch e) n,.inr #[o,t]]) (aK.flat rr h)
  . show .tup (.inr t) (aK.flat rr h)
 |non=>show .non
 |bl b=>show .bl b
 |int i=>show .int i
 |str x=>show .str x
 |_=>symm
def aK.kY{K:Frag}{l:List D}{xs:List V}(r:aK K M H l xs)(h:l.all Ev.kY=true)(hA:∀a∈As,∃ys,H a=!(.lst ys)):aK K (As++M) H l xs:=by
 induction l generalizing xs with
 |nil=>cases r;show .nil
 |cons d l ih=>
  cases r with
  |cons r t=>rw[List.all_cons,hU]at h;show .cons (r.kY h.1 hA) (ih t h.2)
def Js{X:Cx}{e:Expr}{l:List D}{g1:G}(hb:z.bor=[])(hf:l.all Ev.kY=true)(h:aD X z e (g.map Ev.dJ) (.new l) g1):aD X z e g (.new l) g:=by
 let(t,q,k):=h;apply#[t,q,λσ As M H Q s kk=>k σ [] _ H Q (s.Jr hb) λv H1 aN M1 s1 st R=>?_]
 let(a,b):=s.thaw hb s1 st;let(p,xs,rfl,r1,r2,r3,r4,r5):=R;have hA:∀a∈As,∃ys,H1 a=!(.lst ys)/\a∉M1:=λa hp=>by
  let(_,_,ys,_,_,e):=s.sl.atA hp;show#[ys,st a _ e λhm=>by have:=(hV.mp hm).2;simp at this;show this hp]
 show kk _ H1 As _ a b #[p,xs,rfl,eP _ r1,λhp=>by let(ys,_,n):=hA p hp;show n r1,r3,r4,aK.kY r5 hf λa ha=>by let(ys,e,_):=hA a ha;show#[ys,e]]
end
abbrev LL(X:Cx)(z:Z)(g:G)(qn:Str)(ic:Nat)(M0:List Addr)(H0:Hp)(ls:List Lt)(σ:Sg)(H:Hp):Prop:=
 ∃As M a vs,S z g σ As M H/\aq M0 H0 M H/\σ[ic]?=!(!(.ref a))/\a∈M/\a∉As/\z.H0 a=none/\H a=!(.lst vs)/\cU X qn M H ls vs
def zu(h:n<1000):n<=sizeLine:=by rw[oS];lia
section
def Ep(hK:z.K=X.K)(mk:qg X qn q c)(B:aJ X.env.scope l.scope)(L:eE l.params l.scope)(hN:X.N.Nodup)(hi:X.N[ic]?=!y)(hx:Loc X.env.scope y)(hf:X.fn y=true\/X.env.scope.names.lookup y=some .local)(hg:g[ic]?=some .no) :
  ∃t,PS X (.Assign [.Name y py] (.List [l.ex] lp) pos) t/\∀σ As M H (E:Ends),S z g σ As M H->(∀σ' H',LL X z g qn ic M H [l] σ' H'->E.nx σ' H')->t E σ H:=by
 apply#[_,lR hN hi hx (yH (aY (zp hK mk B L) cG rfl)) rfl hf,λσ As M H E s kE=>#[As,M,s,λv H' s' st' la kl=>#[zu (show 1<1000 by decide),λp hp=>kE _ _ ?_]]]
 have s2:=s'.aO (xs:=[v]) hp;have hl:ic<σ.length:=by rw[<- s.sl.length];show (dC.mp hg).1
 have aI:aq M H' (p::M) (upd H' p (.lst [v])):=aq.aO hp;show#[As,p::M,p,[v],s2.dR hg,st'.trans aI,eQ hl,dA,λh=>s'.fresh hp (s'.sub p h),s'.bO hp,aA,.cons (la.stay aI) .nil]
def zz(hK:z.K=X.K)(mk:qg X qn q c)(B:aJ X.env.scope l.scope)(L:eE l.params l.scope)(hi:X.N[ic]?=!y)(hv:g9 X.env.scope y)(hd:(y==(~~~3))=false)(bR:(y==("__classdict__":Str))=false)(hls:ls.length<1000)(hline:(cF.endLine==bN.line)=true) :
  ∃t,PS X (.Expr (.Call (.Attribute (.Name y pn) "append" cF) [l.ex] [] bN) pos) t/\∀σ H M0 H0 (E:Ends),LL X z g qn ic M0 H0 ls σ H->(∀H',LL X z g qn ic M0 H0 (ls++[l]) σ H'->E.nx σ H')->t E σ H:=by
 apply#[_,ou (vE AB BH BI jr (bV hi hv hd bR) (aY (zp (g:=g) hK mk B L) cG rfl) rfl rfl hline rfl rfl) rfl,λσ H M0 H0 E h kE=>?_]
 let(As,M,a,vs,s,st,e1,hm,hA,h0,ha,la):=h;apply#[.ref a,e1,.inl #[rfl,vs,cA.of ha],As,M,s,λv H' s' st' la' kl=>#[a,vs,v,rfl,rfl,kl a vs ha,by rw[<- la.length,oS];lia,kE _ ?_]]
 show#[As,M,a,vs++[v],s'.zo hm hA h0 (kl a vs ha),(st.trans st').trans (aq.write hm),e1,hm,hA,h0,aA,((la.stay st').push la').stay (aq.write hm)]
end
def nZ.un'(c:nZ N σ scope cl H h)(u:Un fs ex H H' h h')(hx:∀x a,cl.lookup x=!a->a∉ex):nZ N σ scope cl H' h':=by
 have key:∀x a v,cl.lookup x=!a->h.IsCell a v->h'.IsCell a v:=by rintro x a v e ⟨o,e1,d⟩;let(sl,e2):=u.any e1 (c.cell x a e).1 (hx x a e);show#[_,e2,d]
 apply#[c.inj,c.has,λx a e=>?_,λi x v h1 h2 h3=>?_,c.len]
 . let(hn,v,o,e1,d):=c.cell x a e;show#[u.free a o e1 hn (hx x a e),v,key x a v e #[o,e1,d]]
 . let(f,w,a,r,e,z):=c.loc i x v h1 h2 h3;show#[f,w,a,r,e,key x a _ e z]
abbrev asD:R->Option D
 |.dat d=>!d
 |.new l=>!(.lst l)
 |.var _=>none
def zA(s:S z g σ As M H)(h:dh z g σ As M H r v)(e:asD r=!d):∃M',S z g σ As M' H/\aq M H M' H/\Rep z.K M' H d v:=by
 cases r with
 |dat d'=>cases e;show#[M,s,aq.refl _ _,h]
 |var i=>cases e
 |new l=>
  cases e;let(a,xs,rfl,hm,hA,h0,ha,rr):=h;have hM:∀m∈(M.filter λm=>decide (m≠a)),m∈M:=λm hm=>(hV.mp hm).1
  have na:a∉(M.filter λm=>decide (m≠a)):=λhm=>by
   have:=(hV.mp hm).2;simp at this
  show#[_,s.drop h0 hA,aq.less hM,.lst #[na,ha] (rr.stay (aq.less hM))]
section
abbrev qh(X:Cx)(z:Z)(g:G)(qn:Str)(N':List Str)(iv:Nat)(scope:Scope)(aX:Expr)(l:Lt)(d:D):Prop:=
 ∀(bk:Bk) (σ:Sg),ZD X σ bk->∀(gb:G) (σb:Sg) (Ab Mb:List Addr) (Hb:Hp) (v:V) (A1:List Addr) (Q:VK),S z gb σb Ab Mb Hb->σb[iv]?=!(!v)->Slots z.K Mb Hb g σ A1->jH X qn Mb Hb l v->
  (∀v' H' aC M',S z gb σb aC M' H'->aq Mb Hb M' H'->Rep z.K M' H' d v'->Q v' H')->yS (X.blk N' scope bk) aX σb Hb Q
def Vz{l:Lt}{r':R}{d:D}{v fx qual:Str}{fp vp cp:Pos}{st:Stmt}{f:Addr}{fd:FuncData}(B:aJ X.env.scope l.scope)(L:eE l.params l.scope)(Ff:Lv X.K fx qual st f fd)(hm:X.mg fx=!(.ref f))(jN:(fx==(~~~3))=false)
  (hg:∀bk:Bk,Gl (X.blk N' scope bk) fx) {iv:Nat} (hix:N'[iv]?=!v) (hv:∀bk:Bk,g9 (X.blk N' scope bk).env.scope v) (hd:(v==(~~~3))=false) (bR:(v==("__classdict__":Str))=false)
  (hcall:∀bk:Bk,zq (X.blk N' scope bk) X z g qn l r' f) (hr:asD r'=!d):qh X z g qn N' iv scope (.Call (.Name fx fp) [.Name v vp] [] cp) l d:=by
 intro bk σ hbk gb σb Ab Mb Hb v0 A1 Q s0 hσ sl la kQ;apply#[λσ' H' Q'=>∃As M A0,S z gb σ' As M H'/\σ'[iv]?=!(!v0)/\Slots z.K M H' g σ A0/\jH X qn M H' l v0/\∀v' H2 aC M',S z gb σ' aC M' H2->aq M H' M' H2->Rep z.K M' H2 d v'->Q' v' H2,?_,Ab,Mb,A1,s0,hσ,sl,la,kQ]
 rintro aj s1 σ' H' Q' I ⟨As,M,A0,S1,hv0,Vy,la0,kQ0⟩;apply xI (fJ I (hg bk) hm ?_ jN);apply A4 I.ok.mod.ym Ff.kp (i9 ((aY (bV hix (hv bk) hd bR) cG rfl) cp aj s1 σ' H' (λvs H1=>vs=[v0]/\H1=H') I #[v0,hv0,rfl,rfl]) (λus s2 q1=>?_) λ_ _ z=>z) rfl rfl
 let(vs,H1,I1,rv,rfl,rfl):=q1;let(p,c',jz,cl,rfl,np1,nc1,hp1,hc1,El,Ol):=la0;let(pins0,I0,f0):=hbk;have C0:=(Bv I0 B L.nl El Ol).un' I1.base λx a e hb=>(f0 a hb).2.2.2.2.1 x a (El x a e).1 rfl
 apply#[I1.oY,hcall bk I1 S1 hp1 hc1 C0 Vy rv λu v H' s' aC M' I' r1 a b d'=>?_]
 let(M2,s3,fE,R3):=zA a d' hr;show#[v,H',I',r1,kQ0 v H' aC M2 s3 (b.trans fE) R3]
inductive d7(P:Lt->D->Prop):List Lt->List D->Prop
 |nil:d7 P [] []
 |cons {l:Lt}{ls:List Lt}{d:D}{ds:List D}:P l d->d7 P ls ds->d7 P (l::ls) (d::ds)
def d7.get(h:d7 P ls ds):∀{i:Nat}{l:Lt},ls[i]?=!l->∃d,ds[i]?=!d/\P l d:=by
 induction h with
 |nil=>intro i l e;cases e
 |cons a _ ih=>intro i l e;cases i with
  |zero=>cases (show some _=!l from e);show#[_,rfl,a]
  |succ i=>show ih e
def d7.length(h:d7 P ls ds):ls.length=ds.length:=by
 induction h with
 |nil=>rfl
 |cons _ _ ih=>show congrArg (· + 1) ih
def zB(hj:j<k)(hN:Names X.N N' scope k)(B:aJ X.env.scope scope)(hc:X.calm=true)(hi:X.N[ic]?=!y)(hv:g9 X.env.scope y)(hd:(y==(~~~3))=false)(bR:(y==("__classdict__":Str))=false)
  (hx:∀b:Bk,jB (X.blk N' scope b) x (X.N.length+j)) (Bw:g.length=X.N.length) (hls:ls.length<1000) (he:d7 (qh X z g qn N' (X.N.length+j) scope aX) ls ds) :
  ∃t,PE X (.ListComp aX [#[.Name x px,.Name y py,[],0]] scope pos) t/\∀σ H M0 H0 Q,LL X z g qn ic M0 H0 ls σ H->Kn z g σ M0 H0 (.new ds) Q->t σ H Q:=by
 apply#[_,Ax B hc hN (kL (bV hi hv hd bR)) (λb=>#[eG (hx b).nd (hx b).ix (hx b).lc (hx b).fn,pF,lZ]) (λ_=>rfl),λσ H M0 H0 Q h kq=>?_]
 let(As,M,a,vs,s,st,e1,hm,hA,h0,ha,la):=h;have hM:∀m∈(M.filter λm=>decide (m≠a)),m∈M:=λm hm=>(hV.mp hm).1
 have na:a∉(M.filter λm=>decide (m≠a)):=λhm=>by
  have:=(hV.mp hm).2;simp at this
 have s1:=s.drop h0 hA;have dc:=st.trans (aq.less hM);have la1:=la.stay (aq.less hM);generalize (M.filter λm=>decide (m≠a))=M1 at na s1 dc la1
 apply#[.ref a,e1,a,rfl,#[vs,cA.of ha],λD hD=>?_]
 have hl:=s.sl.length;have hlN:=hl.symm.trans Bw;have h0D:=s1.bO hD;have nA:D∉As:=λh=>s1.fresh hD (s1.sub D h)
 have sb:=(s1.aO hD).extend (k:=k) dA nA h0D aA .nil;apply#[λi m σ' H'=>i+m=ls.length/\∃Ab Mb w,S z (g++(List.replicate k .no++[.own (ds.take i)])) σ' Ab Mb H'/\aq M1 H Mb H'/\w.length=k/\σ'=σ++(w++[!(.ref D)]),#[ls.length,At _,_,_,_,sb,aq.aO hD,hZ,rfl],?_]
 rintro i m σ' H' ⟨ZX,Ab,Mb,w,s2,aI,hw,rfl⟩;have ha2:=aI _ _ ha na;have la2:=la1.stay aI;have m6:∀w:List (Option V),w.length=k->(σ++(w++[!(V.ref D)]))[g.length+k]?=!(!(V.ref D)):=λw hw=>by rw[hl,eD (vS _ _),mI,eD ⋯,hw,A9];rfl
 have Bx:∀l,(g++(List.replicate k Slot.no++[Slot.own l]))[g.length+k]?=!(.own l):=λl=>by rw[eD (vS _ _),mI,eD (by rw[hZ];show eA _),hZ,A9];rfl
 cases e:ls[i]? with
 |none=>
  have hi':i=ls.length:=by have:=rV.mp e;lia
  apply .inl #[#[vs,cA.of ha2.1,by rw[<- la.length,hi'];show eA _],?_]
  rw[B4 (by rw[<- he.length,hi'];show eA _)]at s2
  let(b,xs,f1,f2,f3,f4):=s2.sl.at (Bx ds);rw[m6 w hw]at f1;injection f1 with f1;injection f1 with f1;injection f1 with f1;subst f1;let(A1,s3,m3,n3):=s2.shrink (λp hp=>(dC.mp (s.fK p hp).1).1) ⋯ (Bx ds) (m6 w hw)
  rw[List.take_append_of_le_length ⋯,B4 ⋯]at s3;show kq _ H' A1 Mb s3 (dc.trans aI) #[D,xs,rfl,m3,n3,h0D,f3,f4]
 |some l=>
  let(v,ev,lv):=la2.get e;let(d,ed,hE):=he.get e;apply .inr #[#[vs,v,cA.of ha2.1,ev],λσ' H'=>∃Ab Mb w,S z (g++(List.replicate k .no++[.own (ds.take (i+1))])) σ' Ab Mb H'/\aq M1 H Mb H'/\w.length=k/\σ'=σ++(w++[!(.ref D)]),λAv Aw hN=>#[m - 1,by have:=(dC.mp e).1;lia,by have:=(dC.mp e).1;lia,hN],λx' H2 hx' bk hbk=>?_]
  let(rfl,hy):=hx';have:=hy vs (cA.of ha2.1);rw[ev]at this;cases this;have VB:(w.set j (!v)).length=k:=by rw[u4];show hw
  have es:(σ++(w++[!(V.ref D)])).set (X.N.length+j) (!v)=σ++(w.set j (!v)++[!(V.ref D)]):=by rw[<- hlN,w8 _ _ (vS _ _),mI,CH _ _ ⋯]
  have s3:S z (g++(List.replicate k .no++[.own (ds.take i)])) (σ++(w.set j (!v)++[!(V.ref D)])) Ab Mb H2:=by rw[<- es];show s2.dR (by rw[<- Bw,eD (vS _ _),mI,dL (by rw[hZ];show hj),AX,i5 hj])
  let(σ1,σ2,A1,A2,c1,c2,c3,c4):=s3.sl.split;let(rfl,_):=CU c1 (hl.symm.trans c3.length);delta rS G5;dsimp only;rw[es];apply hE bk σ hbk _ _ Ab Mb H2 v A1 _ s3 (by rw[<- hlN,eD (vS _ _),mI,dL ⋯,eQ ⋯]) c3 lv λv' H3 yT M3 s4 sH R4=>?_
  let(b,xs,f1,f2,f3,f4):=s4.sl.at (Bx (ds.take i));rw[m6 _ VB]at f1;injection f1 with f1;injection f1 with f1;injection f1 with f1;subst f1;have ht:ds.take (i+1)=ds.take i++[d]:=by rw[List.take_add_one,ed];rfl
  let(s5,iE):=s4.write (l':=ds.take (i+1)) (Bx _) (m6 _ VB) (by rw[ht];show f4.append (.cons R4 .nil))
  have eg:(g++(List.replicate k Slot.no++[Slot.own (ds.take i)])).set (g.length+k) (.own (ds.take (i+1)))=g++(List.replicate k Slot.no++[Slot.own (ds.take (i+1))]):=by rw[w8 _ _ (vS _ _),mI,w8 _ _ (by rw[hZ];show eA _),hZ,A9];rfl
  rw[eg]at s5;apply#[xs,f3,?_,yT,M3,_,s5,(aI.trans sH).trans iE,VB,rfl];rw[<- f4.length,oS,AA];have:=Nat.min_le_right i ds.length;lia
def wB(hj:j<k)(hN:Names X.N N' scope k)(B:aJ X.env.scope scope)(hc:X.calm=true)(hi:X.N[ic]?=!y)(hv:g9 X.env.scope y)(hd:(y==(~~~3))=false)(bR:(y==("__classdict__":Str))=false)
  (hx:∀b:Bk,jB (X.blk N' scope b) x (X.N.length+j)) (hls:ls.length<1000) (he:d7 (qh X z g qn N' (X.N.length+j) scope aX) ls ds) :
  ∃t,PE X (.ListComp aX [#[.Name x px,.Name y py,[],0]] scope pos) t/\∀σ H M0 H0 Q,LL X z g qn ic M0 H0 ls σ H->Kn z g σ M0 H0 (.new ds) Q->t σ H Q:=by
 by_cases Bw:g.length=X.N.length
 . show zB hj hN B hc hi hv hd bR hx Bw hls he
 .
  apply#[λσ H Q=>σ.length≠X.N.length,λaj s σ H Q I h=>absurd I.len h,λσ H M0 H0 Q h _ e=>?_]
  let(As,M,a,vs,s,_):=h;show Bw (s.sl.length.trans e)
end
inductive VD(X:Cx):List Stmt->List TS->Prop
 |nil:VD X [] []
 |cons {s:Stmt}{ss:List Stmt}{t:TS}{ts:List TS}:PS X s t->VD X ss ts->VD X (s::ss) (t::ts)
abbrev Ow:List TS->TS->TS
 | [],u=>u
 |t::ts,u=>Y9 t (Ow ts u)
def VD.pss{X:Cx}{ss rest:List Stmt}{ts:List TS}{u:TS}(h:VD X ss ts)(hu:tR X rest u):tR X (ss++rest) (Ow ts u):=by
 induction h with
 |nil=>show hu
 |cons a _ ih=>show dP a ih
abbrev mF(X:Cx)(z:Z)(ss:List Stmt)(g:G)(f:Fl)(g':G):Prop:=
 ∃ts,VD X ss ts/\∀(u:TS) σ As M H (E:Ends),S z g σ As M H->kP z M H { E with nx:=u E} g' f->Ow ts u E σ H
def mF.lift(h:mF X.tU z ss g f g'):mF X z ss g f g':=by
 let(ts,q,k):=h;apply#[ts,?_,k];clear k
 induction q with
 |nil=>show .nil
 |cons a _ ih=>show .cons (λaj s σ H D I hw=>i9 (a aj s σ H D (I.wish _) hw) (λ_ _ q=>q.cQ) λ_ _ z=>False.elim z) ih
def mF.bk{X:Cx}{z:Z}{ss rest:List Stmt}{g g1 g':G}{f:Fl}(h:mF X z ss g .nx g1)(h2:dZ X z rest g1 f g'):dZ X z (ss++rest) g f g':=by let(t2,q2,k2):=h2;let(t,q,k):=h;show#[_,q.pss q2,λσ As M H E s kE=>k t2 σ As M H E s λσ' aC M' H' s' st=>k2 σ' aC M' H' E s' (kE.trans st)]
def mF.end{X:Cx}{z:Z}{ss rest:List Stmt}{g g':G}{f:Fl}(h:mF X z ss g f g')(hn:f≠.nx):dZ X z (ss++rest) g f g':=by
 let(t,q,k):=h;apply#[_,q.pss bw,λσ As M H E s kE=>k _ σ As M H E s ?_]
 cases f with
 |nx=>show absurd rfl hn
 |rt r=>show kE
 |bk=>show kE
 |ct=>show kE
def mF.ra{X:Cx}{z:Z}{ss rest:List Stmt}{g g1 g':G}{C:Addr}(h:mF X z ss g .nx g1)(h2:NR X z rest g1 C g'):NR X z (ss++rest) g C g':=by let(t2,q2,k2):=h2;let(t,q,k):=h;show#[_,q.pss q2,λσ As M H E s kE=>k t2 σ As M H E s λσ' aC M' H' s' st=>k2 σ' aC M' H' E s' (kE.trans st)]
abbrev LsOk(X:Cx)(z:Z)(qn:Str)(ic:Nat)(ls:List Lt)(st:Stmt)(g:G)(f:Fl)(g':G):Prop:=
 ∃t,PS X st t/\∀σ H M0 H0 (E:Ends),LL X z g qn ic M0 H0 ls σ H->kP z M0 H0 E g' f->t E σ H
inductive zC(y:Str):List Stmt->List Lt->Prop
 |nil:zC y [] []
 |cons {l:Lt}{ls:List Lt}{ss:List Stmt}{pn cF bN pos:Pos}:(cF.endLine==bN.line)=true->zC y ss ls->zC y (.Expr (.Call (.Attribute (.Name y pn) "append" cF) [l.ex] [] bN) pos::ss) (l::ls)
section
variable{st:Stmt}
def zD(hK:z.K=X.K)(mk:qg X qn q c)(hi:X.N[ic]?=!y)(hv:g9 X.env.scope y)(hd:(y==(~~~3))=false)(bR:(y==("__classdict__":Str))=false):∀{ms ls:List Lt},zC y ss ms->(∀m∈ms,aJ X.env.scope m.scope/\eE m.params m.scope)->ls.length+ms.length<1000->
  LsOk X z qn ic (ls++ms) st g f g'->∃ts,VD X (ss++[st]) ts/\∀(u:TS) σ H M0 H0 (E:Ends),LL X z g qn ic M0 H0 ls σ H->kP z M0 H0 { E with nx:=u E} g' f->Ow ts u E σ H:=by
 induction ss with
 |nil=>rintro ms ls ha _ _ ⟨t,q,k⟩;cases ha;rw[mE]at k;show#[[t],.cons q .nil,λu σ H M0 H0 E h kE=>k σ H M0 H0 { E with nx:=u E} h kE]
 |cons s ss ih=>
  intro ms ls ha hm hl hs;cases ha with
  |@cons m ms _ pn cF bN pos' e ha=>
   let(B,L):=hm m dA;let(t1,q1,k1):=zz (ls:=ls) hK mk B L hi hv hd bR ⋯ e;let(t2,q2,k2):=ih (ls:=ls++[m]) ha (λm h=>hm m (bP _ h)) (by simp at hl ⊢;lia) (by rw[AG];show hs)
   show#[t1::t2,.cons q1 q2,λu σ H M0 H0 E h kE=>k1 σ H M0 H0 _ h λH' h'=>k2 u σ H' M0 H0 E h' kE]
def nj(hK:z.K=X.K)(mk:qg X qn q c)(hN:X.N.Nodup)(hi:X.N[ic]?=!y)(hx:Loc X.env.scope y)(hf:X.fn y=true\/X.env.scope.names.lookup y=some .local)(hv:g9 X.env.scope y)(hd:(y==(~~~3))=false)(bR:(y==("__classdict__":Str))=false)(hg:g[ic]?=some .no)
  {ss:List Stmt} (ha:zC y ss ls) (hm:∀m∈l::ls,aJ X.env.scope m.scope/\eE m.params m.scope) (hl:ls.length<900) (hs:LsOk X z qn ic (l::ls) st g f g'):mF X z (.Assign [.Name y py] (.List [l.ex] lp) pos::(ss++[st])) g f g':=by
 let(B,L):=hm l dA;let(t1,q1,k1):=Ep hK mk B L hN hi hx hf hg;let(t2,q2,k2):=zD (ls:=[l]) hK mk hi hv hd bR ha (λm h=>hm m (bP _ h)) (by simp;lia) hs
 show#[t1::t2,.cons q1 q2,λu σ As M H E s kE=>k1 σ As M H _ s λσ' H' h'=>k2 u σ' H' M H E h' kE]
def Ju(h1:∃t,PE X VF t/\∀σ H M0 H0 Q,LL X z g qn ic M0 H0 ls σ H->Kn z g σ M0 H0 (.new ds) Q->t σ H Q)(h2:aD X z rE g r2 g2)(p2:pk r2 g2=!d2)(ho:nW X z (compareOp op) (.lst ds) d2 (.dat (.bl b)))(hm:behindInMarks op rE=false)
  (hb:dZ X z (if b then body else []) g2 f g'):LsOk X z qn ic ls (.If (.Compare VF [op] [rE] bN) body [] pos) g f g':=by
 let(t1,q1,k1):=h1;let(t2,q2,k2):=h2;let(rr,o,ko):=ho;let(t3,q3,k3):=hb;have go:∀σ H M0 H0 (Q:Bool->Hp->Prop),LL X z g qn ic M0 H0 ls σ H->(∀H' aC M',S z g2 σ aC M' H'->aq M0 H0 M' H'->Q b H')->t1 σ H λv1 H1=>t2 σ H1 λv2 H2=>rr v1 v2 H2 λv H3=>∃c,v=.bl c/\Q c H3:=λσ H M0 H0 Q h kQ=>
  k1 σ H M0 H0 _ h λv1 H1 aN M1 s1 dc R1=>by
   let(M1',s1',VG,R1'):=zA s1 R1 rfl;show k2 σ aN M1' H1 _ s1' λv2 H2 bC M2 s2 aI R2=>ko g2 σ bC M2 H2 v1 v2 _ s2 (.of (R1'.stay aI)) (s2.pk (aq.refl _ _) R2 p2) λv H' aC M' s' st' R'=>#[b,fL R',kQ H' aC M' s' (((dc.trans VG).trans aI).trans st')]
 cases b with
 |true=>show#[_,m5 (ow o q1 q2 hm) q3 bw,λσ H M0 H0 E h kE=>go σ H M0 H0 _ h λH' aC M' s' st'=>iG (k3 σ aC M' H' E s' (kE.trans st'))]
 |false=>show#[_,m5 (ow o q1 q2 hm) bw q3,λσ H M0 H0 E h kE=>go σ H M0 H0 _ h λH' aC M' s' st'=>kM (k3 σ aC M' H' E s' (kE.trans st'))]
def Er(h1:∃t,PE X VF t/\∀σ H M0 H0 Q,LL X z g qn ic M0 H0 ls σ H->Kn z g σ M0 H0 (.new ds) Q->t σ H Q)(h2:aD X z rE g r2 g2)(p2:pk r2 g2=!d2)(ho:nW X z (compareOp op) (.lst ds) d2 (.dat (.bl b)))(hm:behindInMarks op rE=false) :
  LsOk X z qn ic ls (.Return (!(.Compare VF [op] [rE] bN)) pos) g (.rt (.dat (.bl b))) g2:=by
 let(t1,q1,k1):=h1;let(t2,q2,k2):=h2;let(rr,o,ko):=ho;apply#[_,o7 (Aq o q1 q2 hm),λσ H M0 H0 E h kE=>k1 σ H M0 H0 _ h λv1 H1 aN M1 s1 dc R1=>?_]
 let(M1',s1',VG,R1'):=zA s1 R1 rfl;show k2 σ aN M1' H1 _ s1' λv2 H2 bC M2 s2 aI R2=>ko g2 σ bC M2 H2 v1 v2 _ s2 (.of (R1'.stay aI)) (s2.pk (aq.refl _ _) R2 p2) λv H' aC M' s' st' R'=>kE v σ aC M' H' s' (((dc.trans VG).trans aI).trans st') R'
end
abbrev Jv(X:Cx)(tg iter:Expr):TI:=λσ H R=>∃wi,PI X tg iter wi/\wi σ H R
def zE:PI X tg iter (Jv X tg iter):=λaj s σ H R I h=>let #[wi,q,k]:=h;q aj s σ H R I k
section
def Jw(hC:∀g b g',gY g b g'->bJ X z ifs g b g')(hE:∀g d g',sI g d g'->aD X z aX g (.dat d) g')(hw:cT X z tg iter g2 ao Bc)(ht:eH X z tg T)(dQ:last∉T.ix)
  (hcp:kW T last gY sI ao Bc g3) {σ:Sg}{As M:List Addr}{H:Hp}{Nn:Sg->Hp->Prop}{D:Addr} (s:S z g2 σ As M H) (hD:σ[last]?=!(!(.ref D)))
  (k:∀σ' aC M' H',S z g3 σ' aC M' H'->aq M H M' H'->σ'[last]?=!(!(.ref D))->sG T.ix σ σ'->Nn σ' H'):Ro (Jv X tg iter) (vR X tg) (vU X ifs) (vH D (yS X aX)) σ H Nn:=by
 let(wi,q,kw):=hw;apply#[wi,q,kw σ As M H _ s λJ H1 aN M1 s1 dc hJ=>?_]
 apply jt hJ (λl σ' H'=>∃gb Ab Mb,S z gb σ' Ab Mb H'/\aq M1 H1 Mb H'/\sG T.ix σ σ'/\σ'[last]?=!(!(.ref D))/\kW T last gY sI l gb g3)
  #[_,_,_,s1,aq.refl _ _,sG.refl _ _,hD,hcp] (by rintro _ _ _ ⟨_,_,M2,_,aI,_⟩;show#[M2,aI]) ?_ ?_
 . rintro σ' H' ⟨gb,Ab,Mb,s2,aI,ag,yq,cp⟩;cases cp;show k σ' Ab Mb H' s2 (dc.trans aI) yq ag
 .
  rintro d l σ' H' ⟨gb,Ab,Mb,s2,aI,ag,yq,cp⟩ x H2 yl;let(s3,fE,rx):=yl Mb aI z gb σ' Ab rfl s2;let(t,qt,kt):=ht;cases cp with
  |skip e0 hc rest=>
   apply#[t,qt,kt d gb _ e0 x _ Ab Mb H2 _ s3 rx λσ4 gP s4 Ox=>?_]
   let(t2,q2,k2):=hC _ _ _ hc;apply#[t2,q2,k2 _ gP Mb H2 _ s4 λH5 rA M5 s5 iE=>?_]
   show kM #[_,rA,M5,s5,(aI.trans fE).trans iE,ag.trans Ox,by rw[Ox.2 _ dQ];show yq,rest]
  |take e0 hc he ha hz' rest=>
   apply#[t,qt,kt d gb _ e0 x _ Ab Mb H2 _ s3 rx λσ4 gP s4 Ox=>?_]
   let(t2,q2,k2):=hC _ _ _ hc;let(t3,q3,k3):=hE _ _ _ he;have Ny:σ4[last]?=!(!(V.ref D)):=by rw[Ox.2 _ dQ];show yq
   apply#[t2,q2,k2 _ gP Mb H2 _ s4 λH5 rA M5 s5 iE=>iG #[t3,q3,k3 _ rA M5 H5 _ s5 λv H6 Nz M6 s6 Ib R6=>?_]]
   let(a,xs,f1,f2,f3,f4):=s6.sl.at ha;rw[Ny]at f1;injection f1 with f1;injection f1 with f1;injection f1 with f1;subst f1;let(s7,Z0):=s6.write ha Ny (f4.append (.cons R6 .nil));show#[xs,f3,by rw[<- f4.length];show hz',_,Nz,M6,s7,(((aI.trans fE).trans iE).trans Ib).trans Z0,ag.trans Ox,Ny,rest]
end
inductive iP(T:Tg)(gY:G->Bool->G->Prop)(In:G->G->Prop):List D->G->G->Prop
 |nil {g:G}:iP T gY In [] g g
 |skip:T.set d g=!g1->gY g1 false g2->iP T gY In l g2 g'->iP T gY In (d::l) g g'
 |take:T.set d g=!g1->gY g1 true g2->In g2 g3->iP T gY In l g3 g'->iP T gY In (d::l) g g'
section
abbrev Es(X:Cx)(z:Z)(N':List Str)(scope:Scope)(tg iter aX:Expr)(ifs:List Expr)(T:Tg)(last:Nat)(g2 g3:G):Prop:=
 ∃ao Bc,(∀bk:Bk,cT (X.blk N' scope bk) z tg iter g2 ao Bc)/\kW T last (λg b g'=>∀bk:Bk,bJ (X.blk N' scope bk) z ifs g b g') (λg d g'=>∀bk:Bk,aD (X.blk N' scope bk) z aX g (.dat d) g') ao Bc g3
def nk(hw:cT X z t1 i1 g ao g1)(ht1:∀b:Bk,eH (X.blk N' scope b) z t1 T1)(ht:∀b:Bk,eH (X.blk N' scope b) z tg T)(hT1:∀i∈T1.ix,g1.length<=i/\i<g1.length+k)(hT:∀i∈T.ix,g1.length<=i/\i<g1.length+k)
  (hcp:iP T1 (λg b g'=>∀bk:Bk,bJ (X.blk N' scope bk) z f1 g b g') (Es X z N' scope tg iter aX ifs T (g1.length+k)) ao (gC k g1) gE) (hacc:gE[g1.length+k]?=!(.own acc)) :
  ∃wi,PI X t1 i1 wi/\∀σ As M H Q,S z g σ As M H->Kn z (gE.take g1.length) σ M H (.new acc) Q->sf X k wi (λb=>vR (X.blk N' scope b) t1) (λb=>vU (X.blk N' scope b) f1) (λD b=>Ro (Jv (X.blk N' scope b) tg iter) (vR (X.blk N' scope b) tg) (vU (X.blk N' scope b) ifs) (vH D (yS (X.blk N' scope b) aX))) σ H Q:=by
 let(wi,q,kw):=hw;apply#[wi,q,λσ As M H Q s kq=>kw σ As M H _ s λJ H1 aN M1 s1 dc hJ D hD=>?_]
 have hl:=s1.sl.length;have hz:∀p∈z.lent,p.1<σ.length:=λp hp=>(dC.mp (s1.fK p hp).1).1
 have Jx:∀i∈T1.ix,σ.length<=i:=λi hi=>by rw[<- hl];show (hT1 i hi).1
 have Nx:∀i∈T.ix,σ.length<=i:=λi hi=>by rw[<- hl];show (hT i hi).1
 have Jy:g1.length+k∉T1.ix:=λh=>pV _ (hT1 _ h).2
 have dQ:g1.length+k∉T.ix:=λh=>pV _ (hT _ h).2
 have s1':=s1.aO (xs:=[]) hD;have h0:=s1.bO hD;have nA:D∉aN:=λh=>s1.fresh hD (s1.sub D h)
 have sb:=s1'.extend (k:=k) dA nA h0 aA .nil;have m6:(σ++(List.replicate k none++[!(V.ref D)]))[g1.length+k]?=!(!(V.ref D)):=by
  rw[hl,eD (vS _ _),mI,eD (by rw[hZ];show eA _),hZ,A9]
  rfl
 apply jt hJ (λl σ' H'=>∃gb Ab Mb τ,S z gb σ' Ab Mb H'/\aq M1 H1 Mb H'/\σ'=σ++τ/\σ'[g1.length+k]?=!(!(.ref D))/\iP T1 (λg b g'=>∀bk:Bk,bJ (X.blk N' scope bk) z f1 g b g') (Es X z N' scope tg iter aX ifs T (g1.length+k)) l gb gE)
  #[_,_,_,_,sb,aq.aO hD,rfl,m6,hcp] (by rintro _ _ _ ⟨_,_,M2,_,_,aI,_⟩;show#[M2,aI]) ?_ ?_
 . rintro σ' H' ⟨gb,Ab,Mb,τ,s2,aI,rfl,yq,cp⟩;cases cp;let(a,xs,f1,f2,f3,f4):=s2.sl.at hacc;rw[yq]at f1;injection f1 with f1;injection f1 with f1;injection f1 with f1;subst f1;let(A1,s3,m3,n3):=s2.shrink hz ⋯ hacc yq;rw[<- hl]at s3;show kq _ H' A1 Mb s3 (dc.trans aI) #[D,xs,rfl,m3,n3,h0,f3,f4]
 .
  rintro d l σ' H' ⟨gb,Ab,Mb,τ,s2,aI,rfl,yq,cp⟩ x H2 yl bk _;let(s3,fE,rx):=yl Mb aI z gb (σ++τ) Ab rfl s2;let(t,qt,kt):=ht1 bk;cases cp with
  |skip e0 hc rest=>
   apply#[t,qt,kt d gb _ e0 x _ Ab Mb H2 _ s3 rx λσ4 gP s4 ag=>?_]
   let(τ',rfl):=bW ag Jx;let(t2,q2,k2):=hc bk;apply#[t2,q2,k2 _ gP Mb H2 _ s4 λH5 rA M5 s5 iE=>?_]
   apply kM #[_,rA,M5,τ',s5,(aI.trans fE).trans iE,rfl,?_,rest];rw[ag.2 _ Jy];show yq
  |take e0 hc hin rest=>
   let(items2,Bc,VB,zF):=hin;apply#[t,qt,kt d gb _ e0 x _ Ab Mb H2 _ s3 rx λσ4 gP s4 ag=>?_]
   let(τ',rfl):=bW ag Jx;let(t2,q2,k2):=hc bk;have Ny:(σ++τ')[g1.length+k]?=!(!(V.ref D)):=by rw[ag.2 _ Jy];show yq
   apply#[t2,q2,k2 _ gP Mb H2 _ s4 λH5 rA M5 s5 iE=>iG ?_]
   apply Jw (λg b g' h=>h bk) (λg d g' h=>h bk) (VB bk) (ht bk) dQ zF s5 Ny λσ6 Nz M6 H6 s6 Ib hD6 ag6=>?_
   let(τ6,rfl):=bW ag6 Nx;show#[_,Nz,M6,τ6,s6,((aI.trans fE).trans iE).trans Ib,rfl,hD6,rest]
def Jz(B:aJ X.env.scope scope)(hc:X.calm=true)(hN:Names X.N N' scope k)(hw:cT X z t1 i1 g ao g1)(ht1:∀b:Bk,eH (X.blk N' scope b) z t1 T1)(ht:∀b:Bk,eH (X.blk N' scope b) z tg T)(hT1:∀i∈T1.ix,g1.length<=i/\i<g1.length+k)(hT:∀i∈T.ix,g1.length<=i/\i<g1.length+k)
  (hcp:iP T1 (λg b g'=>∀bk:Bk,bJ (X.blk N' scope bk) z f1 g b g') (Es X z N' scope tg iter aX ifs T (g1.length+k)) ao (gC k g1) gE) (hacc:gE[g1.length+k]?=!(.own acc))
  (hs:∀x,foldedSetIterable i1 X.env x=pure x) (hs2:∀(b:Bk) x,foldedSetIterable iter (X.blk N' scope b).env x=pure x):aD X z (.ListComp aX [#[t1,i1,f1,0],#[tg,iter,ifs,0]] scope pos) g (.new acc) (gE.take g1.length):=by
 let(wi,q,kk):=nk hw ht1 ht hT1 hT hcp hacc;show#[_,G9 B hc hN q (λb=>#[#[iM,iN],zE,iM,iN,lZ]) hs hs2,kk]
def JB(B:aJ X.env.scope scope)(hc:X.calm=true)(hN:Names X.N N' scope k)(hw:cT X z t1 i1 g ao g1)(ht1:∀b:Bk,eH (X.blk N' scope b) z t1 T1)(ht:∀b:Bk,eH (X.blk N' scope b) z tg T)(hT1:∀i∈T1.ix,g1.length<=i/\i<g1.length+k)(hT:∀i∈T.ix,g1.length<=i/\i<g1.length+k)
  (hcp:iP T1 (λg b g'=>∀bk:Bk,bJ (X.blk N' scope bk) z f1 g b g') (Es X z N' scope tg iter aX ifs T (g1.length+k)) ao (gC k g1) gE) (hacc:gE[g1.length+k]?=!(.own acc))
  (Dm:X.N.Nodup) (hy:X.N[i]?=!y) (hl:X.env.scope.names.lookup y=some .local) (hb:i∉z.bor) (hi:i<(gE.take g1.length).length)
  (hsw:swapsWith (.ListComp aX [#[t1,i1,f1,0],#[tg,iter,ifs,0]] scope pos) (!(.Name y py)) fY.line X.env=pure true)
  (hs:∀x,foldedSetIterable i1 X.env x=pure x) (hs2:∀(b:Bk) x,foldedSetIterable iter (X.blk N' scope b).env x=pure x):gq X z (.Assign [.Name y py] (.ListComp aX [#[t1,i1,f1,0],#[tg,iter,ifs,0]] scope pos) fY) g .nx ((gE.take g1.length).set i (.own acc)):=by
 let(wi,q,kk):=nk hw ht1 ht hT1 hT hcp hacc;apply#[_,Hf B hc hN q (λb=>#[#[iM,iN],zE,iM,iN,lZ]) Dm hy hl hsw hs hs2,λσ As M H E s kE=>kk σ As M H _ s λv H' aC M' s' st R=>?_]
 let(a,xs,rfl,hm,hA,h0,ha,rr):=R;let(bC,s2):=s'.pI hb hi hm hA h0 ha rr;show kE _ bC M' H' s2 st
end
inductive fS(z:Z)(As M:List Addr)(H:Hp):List Addr->List (List D)->Prop
 |nil:fS z As M H [] []
 |cons {p:Addr}{as:List Addr}{xs:List V}{l:List D}{ll:List (List D)}:p∈M->p∉As->z.H0 p=none->H p=!(.lst xs)->aK z.K M H l xs->fS z As M H as ll->fS z As M H (p::as) (l::ll)
section
def fS.stay(h:fS z As M H as ll)(st:aq M H M' H')(k:∀p∈as,p∈M'/\H' p=H p):fS z As M' H' as ll:=by
 induction h with
 |nil=>show .nil
 |cons h1 h2 h3 h4 h5 _ ih=>let(k1,k2):=k _ dA;show .cons k1 h2 h3 (k2.trans h4) (h5.stay st) (ih λp hp=>k p (bP _ hp))
def fS.mem(h:fS z As M H as ll):∀p∈as,p∈M/\p∉As/\z.H0 p=none/\∃xs,H p=!(.lst xs):=by
 induction h with
 |nil=>intro p h;symm
 |cons h1 h2 h3 h4 _ _ ih=>intro p hp;rcases d6.mp hp with rfl |hp;show#[h1,h2,h3,_,h4];show ih p hp
def fS.get(h:fS z As M H as ll):∀{i:Nat}{l:List D},ll[i]?=!l->∃p xs,as[i]?=!p/\H p=!(.lst xs)/\aK z.K M H l xs:=by
 induction h with
 |nil=>intro i l e;cases e
 |cons h1 h2 h3 h4 h5 _ ih=>intro i l e;cases i with
  |zero=>cases (show some _=!l from e);show#[_,_,rfl,h4,h5]
  |succ i=>show ih e
def fS.push(h:fS z As M H as ll)(h1:p∈M)(h2:p∉As)(h3:z.H0 p=none)(h4:H p=!(.lst xs))(h5:aK z.K M H l xs):fS z As M H (as++[p]) (ll++[l]):=by
 induction h with
 |nil=>show .cons h1 h2 h3 h4 h5 .nil
 |cons a b c d e _ ih=>show .cons a b c d e ih
def fS.write(h:fS z As M H as ll)(nd:as.Nodup)(r:aK z.K M (upd H p (.lst xs')) l' xs')(hp:p∈M):∀{i:Nat},as[i]?=!p->fS z As M (upd H p (.lst xs')) as (ll.set i l'):=by
 induction h with
 |nil=>intro i e;cases e
 |@cons q as xs l ll h1 h2 h3 h4 h5 hr ih=>
  intro i e;let(nd1,nd2):=gN.mp nd;cases i with
  |zero=>
   cases (show some q=!p from e)
   show .cons h1 h2 h3 aA r (hr.stay (aq.write hp) λx hx=>#[(hr.mem x hx).1,az (λe=>nd1 (e▸hx))])
  |succ i=>
   have hq:q≠p:=λe'=>nd1 (by rw[e'];show i7 (show as[i]?=!p from e))
   show .cons h1 h2 h3 (by rw[az hq];show h4) (h5.stay (aq.write hp)) (ih nd2 e)
end
abbrev Rows(z:Z)(g:G)(iy:Nat)(M0:List Addr)(H0:Hp)(ll:List (List D))(σ:Sg)(H:Hp):Prop:=
 ∃As M a as,S z g σ As M H/\aq M0 H0 M H/\σ[iy]?=!(!(.ref a))/\a∈M/\a∉As/\z.H0 a=none/\H a=!(.lst (as.map .ref))/\a∉as/\as.Nodup/\fS z As M H as ll
def Rows.dR(h:Rows z g iy M0 H0 ll σ H)(e:g[i]?=some .no)(n:i≠iy):Rows z g iy M0 H0 ll (σ.set i v) H:=by let(As,M,a,as,s,st,e1,h):=h;show#[As,M,a,as,s.dR e,st,by rw[eJ n];show e1,h]
section
variable{iy ix iw:Nat}
def By(hy:X.N[iy]?=!y)(vy:g9 X.env.scope y)(dy:(y==(~~~3))=false)(cy:(y==("__classdict__":Str))=false)(hx:X.N[ix]?=!x)(vx:g9 X.env.scope x)(dx:(x==(~~~3))=false)(cx:(x==("__classdict__":Str))=false)
  (hw:X.N[iw]?=!w) (vw:g9 X.env.scope w) (dw:(w==(~~~3))=false) (cw:(w==("__classdict__":Str))=false) (hline:(cF.endLine==bN.line)=true) :
  ∃t,PS X (.Expr (.Call (.Attribute (.Subscript (.Name y py) (.Name x px) sp) "append" cF) [.Name w pw] [] bN) ep) t/\∀σ H M0 H0 (E:Ends) (ll:List (List D)) (l:List D) (j:Nat) (b:Int),Rows z g iy M0 H0 ll σ H->σ[ix]?=!(!(.int j))->σ[iw]?=!(!(.int b))->ll[j]?=!l->l.length<1000->
   (∀H',Rows z g iy M0 H0 (ll.set j (l++[.int b])) σ H'->E.nx σ H')->t E σ H:=by
 apply#[_,ou (vE AB BH BI jr (G3 tZ (bV hy vy dy cy) (bV hx vx dx cx) (λ_ _=>rfl)) (aY (bV hw vw dw cw) cG rfl) rfl rfl hline rfl rfl) rfl,λσ H M0 H0 E ll l j b h ex ew el hl kE=>?_]
 let(As,M,a,as,s,st,e1,hm,hA,h0,ha,na,nd,rl):=h;let(p,xs,ep,hp,rp):=rl.get el;let(q1,q2,q3,_):=rl.mem p (i7 ep);have hat:gJ (as.map V.ref) (j:Int)=!(.ref p):=by
  have hj:=(dC.mp ep).1;delta L2.gJ L2.yJ;rw[i5 ⋯,i5 (by rw[eC];lia)]
  exact (as.map V.ref)[j]?=!(.ref p);rw[nE,ep];rfl
 apply#[.ref a,e1,.int j,ex,a,as.map .ref,j,.ref p,rfl,rfl,cA.of ha,hat,.inl #[rfl,xs,cA.of hp],.int b,ew,p,xs,.int b,rfl,rfl,hp,?_,kE _ ?_]
 . rw[<- rp.length,oS];lia
 .
  have hap:a≠p:=λe=>na (e▸i7 ep)
  apply#[As,M,a,as,s.zo q1 q2 q3 hp,st.trans (aq.write q1),e1,hm,hA,h0,by rw[az hap];show ha,na,nd,?_]
  show rl.write nd ((rp.stay (aq.write q1)).append (.cons (.int b) .nil)) q1 ep
end
abbrev wC(ll:List (List D)):D->Option (List (List D))
 |.tup [.int a,.int b]=>if 0<=a/\0<=b then match ll[a.toNat]? with
   |some l1=>if l1.length<1000 then match (ll.set a.toNat (l1++[.int b]))[b.toNat]? with
     |some l2=>if l2.length<1000 then some ((ll.set a.toNat (l1++[.int b])).set b.toNat (l2++[.int a]))else none
     |none=>none
    else none
   |none=>none
  else none
 |_=>none
abbrev iQ:List D->List (List D)->Option (List (List D))
 | [],ll=>!ll
 |d::l,ll=>match wC ll d with |some RC=>iQ l RC |none=>none
def JC(h:wC ll d=!RC):∃(a b:Nat) (l1 l2:List D),d=.tup [.int a,.int b]/\ll[a]?=!l1/\l1.length<1000/\(ll.set a (l1++[.int b]))[b]?=!l2/\l2.length<1000/\RC=(ll.set a (l1++[.int b])).set b (l2++[.int a]):=by
 delta wC at h;split at h
 .
  ext a b;split at h
  .
   ext h0;obtain⟨a,rfl⟩:∃n:Nat,a=n:=#[a.toNat,by lia]
   obtain⟨b,rfl⟩:∃n:Nat,b=n:=#[b.toNat,by lia]
   split at h
   .
    ext l1 e1;split at h
    .
     ext h1;split at h
     .
      ext l2 e2;split at h
      . ext h2;symm;show#[a,b,l1,l2,rfl,e1,h1,e2,h2,rfl]
      . symm
     . symm
    . symm
   . symm
  . symm
 . symm
def S.uA:∀(ps:List Addr) {M:List Addr},S z g σ As M H->(∀p∈ps,p∉As/\z.H0 p=none)->∃M',S z g σ As M' H/\(∀m∈M',m∈M)/\∀p∈ps,p∉M'
 | [],M,s,_=>#[M,s,λ_ h=>h,λ_ h=>nomatch h]
 |p::ps,M,s,h=>by
  let(h1,h2):=h p dA;let(M',s',k1,k2):=S.uA ps (s.drop h2 h1) λq hq=>h q (bP _ hq)
  apply#[M',s',λm hm=>(hV.mp (k1 m hm)).1,λq hq=>?_]
  rcases d6.mp hq with rfl |hq
  . intro hm;have:=(hV.mp (k1 _ hm)).2;simp at this
  . show k2 q hq
def fS.reps(h:fS z As M H as ll)(hM:∀m∈M',m∈M)(n:∀p∈as,p∉M'):aK z.K M' H (ll.map .lst) (as.map .ref):=by
 induction h with
 |nil=>show .nil
 |cons _ _ _ h4 h5 _ ih=>show .cons (.lst #[n _ dA,h4] (h5.stay (aq.less hM))) (ih λp hp=>n p (bP _ hp))
def Rows.trans(st:aq M0 H0 M1 H1)(h:Rows z g iy M1 H1 ll σ H):Rows z g iy M0 H0 ll σ H:=by let(As,M,a,as,s,aI,r):=h;show#[As,M,a,as,s,st.trans aI,r]
section
variable{iy ia ib it:Nat}
def JD(hp:PassesOwn (~~~2) X.A X.env X.xe)(hc:X.calm=true)(hK:z.K=X.K)(hy:X.N[iy]?=!y)(vy:g9 X.env.scope y)(dy:(y==(~~~3))=false)(cy:(y==("__classdict__":Str))=false)
  (na:jB X a ia) (va:g9 X.env.scope a) (da:(a==(~~~3))=false) (ca:(a==("__classdict__":Str))=false) (nb:jB X b ib) (vb:g9 X.env.scope b) (db:(b==(~~~3))=false) (cb:(b==("__classdict__":Str))=false)
  (ht:X.N[it]?=!tn) (vt:g9 X.env.scope tn) (dt:(tn==(~~~3))=false) (ct:(tn==("__classdict__":Str))=false) (hgt:g[it]?=!(.dat (.tup ah)))
  (hga:g[ia]?=some .no) (hgb:g[ib]?=some .no) (hay:ia≠iy) (hby:ib≠iy) (hab:ia≠ib) (l1:(Ly.endLine==Lz.line)=true) (l2:(JF.endLine==zF.line)=true)
  {ll0:List (List D)} (hF:iQ ah ll0=!LC) :
  ∃t,PS X (.For (.Tuple [.Name a pa,.Name b pb] tk jk) (.Name tn tp) [.Expr (.Call (.Attribute (.Subscript (.Name y y1) (.Name a a1) sp1) "append" Ly) [.Name b b1] [] Lz) ep1,.Expr (.Call (.Attribute (.Subscript (.Name y y2) (.Name b b2) rF) "append" JF) [.Name a a2] [] zF) RD] [] zG) t/\
   ∀M0 H0 σ H (E:Ends),Rows z g iy M0 H0 ll0 σ H->(∀σ' H',Rows z g iy M0 H0 LC σ' H'->E.nx σ' H')->t E σ H:=by
 let(t1,q1,k1):=By hy vy dy cy na.ix va da ca nb.ix vb db cb l1;let(t2,q2,k2):=By hy vy dy cy nb.ix vb db cb na.ix va da ca l2;apply#[_,o9 hp hc (GK (bV ht vt dt ct)) (GD hc (o8 (eG na.nd na.ix na.lc na.fn) (o8 (eG nb.nd nb.ix nb.lc nb.fn) Am rfl) rfl) rfl rfl) (dP q1 (jq q2)) (λ_=>rfl),λM0 H0 σ H E h kE=>?_]
 let(As,M,ay,as,s,st,h):=h;let(v,ev,rv):=s.sl.pH hgt;cases rv with
 |@tup _ at' xs ha rr=>
  apply#[.ref at',ev,at',rfl,#[xs,hK▸ha.sq],?_];apply#[λi m σ' H'=>i+m=ah.length/\∃ll,Rows z g iy M H ll σ' H'/\iQ (ah.drop i) ll=!LC,#[ah.length,At _,ll0,#[As,M,ay,as,s,aq.refl _ _,h],hF],?_]
  rintro i m σ' H' ⟨ZX,ll,hr,hf⟩;let(bC,M2,ay2,as2,s2,aI,h2):=id hr;have ha2:TupAt z.K M2 H' at' xs:=by
   rcases ha with ⟨n,hq⟩ |hq
   . show .inl (aI.rd n hq)
   . show .inr hq
  have HY:=rr.stay aI;cases e:ah[i]? with
  |none=>
   have hi:i=ah.length:=by have:=rV.mp e;lia
   subst hi;rw[List.drop_length]at hf;cases hf;show .inl #[#[xs,hK▸ha2.sq,by rw[<- rr.length];show eA _],kE σ' H' (hr.trans st)]
  |some d=>
   rw[drop_cons e]at hf;have hi:=(dC.mp e).1;let(xd,e1,e2):=HY.get e;cases hd:wC ll d with
   |none=>
    have hf:(match wC ll d with |some RC=>iQ (ah.drop (i+1)) RC |none=>none)=!LC:=hf
    rw[hd]at hf;cases hf
   |some RC=>
    have hf:(match wC ll d with |some RC=>iQ (ah.drop (i+1)) RC |none=>none)=!LC:=hf
    rw[hd]at hf;let(Ys,Yt,r1,r2,rfl,g1,g2,g3,g4,rfl):=JC hd;cases e2 with
    |@tup _ ad ys had rad=>
     cases rad with
     |cons ra rad=>cases rad with
      |cons rb rad=>
       cases rad;cases ra;cases rb;apply .inr #[#[xs,.ref ad,hK▸ha2.sq,e1],λAv Aw=>∃ll,Rows z g iy M H ll Av Aw/\iQ (ah.drop (i+1)) ll=!LC,λAv Aw hN=>#[m - 1,(ar1 ZX hi).1,(ar1 ZX hi).2,hN],λx H2 hx=>?_]
       let(rfl,hy'):=hx;have:=hy' xs (hK▸ha2.sq);rw[e1]at this;cases this;apply#[ad,_,rfl,hK▸had.sq,rfl,_,_,rfl,_,_,rfl,rfl,?_];have aL:=s2.sl.length.symm;have ila:ia<σ'.length:=by rw[aL];show (dC.mp hga).1
       have ilb:ib<σ'.length:=by rw[aL];show (dC.mp hgb).1
       have hr2:=(hr.dR (v:=!(.int Ys)) hga hay).dR (v:=!(.int Yt)) hgb hby
       have va':((σ'.set ia (!(V.int Ys))).set ib (!(V.int Yt)))[ia]?=!(!(.int Ys)):=by rw[eJ (sT hab),eQ ila]
       have vb':((σ'.set ia (!(V.int Ys))).set ib (!(V.int Yt)))[ib]?=!(!(.int Yt)):=by rw[eQ (by rw[u4];show ilb)]
       show k1 _ _ M H _ ll r1 Ys Yt hr2 va' vb' g1 g2 λH3 hr3=>k2 _ _ M H _ _ r2 Yt Ys hr3 vb' va' g3 g4 λH4 hr4=>#[_,hr4,hf]
end
section
def S.extNo(s:S z g σ As M H)(τ:Sg):S z (g++List.replicate τ.length .no) (σ++τ) As M H:=by
 have hl:=s.sl.length;have q:=s.sl.append (Slots.nos' τ);rw[mE]at q;apply#[q,s.nd,s.sub,λi b l e1 e2=>?_,s.live,s.keep,s.fF,s.m0,s.bm,λp hp=>?_,s.tab,s.tm,s.tt]
 .
  rcases wS i g.length with hi |hi
  . rw[dL hi]at e1;rw[dL ⋯]at e2;show s.own i b l e1 e2
  . rw[eD hi]at e1;have:=i7 e1;rw[x5]at this;cases this.2
 . let(q1,l',q2):=s.fK p hp;show#[by rw[dL (dC.mp q1).1];show q1,l',by rw[dL (dC.mp q2).1];show q2]
def Slots.nosA{K:Frag}:∀{n:Nat}{τ:Sg}{A:List Addr},Slots K M H (List.replicate n .no) τ A->A=[]
 | 0,_,_,q=>by cases q;rfl
 |n+1,_,_,q=>by
  cases q with
  |no q=>show Slots.nosA q
def S.cutNo{τ:Sg}{n:Nat}(s:S z (g++List.replicate n .no) (σ++τ) As M H)(hl:g.length=σ.length)(hz:∀p∈z.lent,p.1<σ.length):S z g σ As M H:=by
 let(σ1,σ2,A1,A2,h1,h2,h3,h4):=s.sl.split;let(rfl,rfl):=CU h1 (hl.symm.trans h3.length);have:=Slots.nosA h4;subst this;rw[mE]at h2;subst h2;apply#[h3,s.nd,s.sub,λi b l e1 e2=>?_,s.live,s.keep,s.fF,s.m0,s.bm,λp hp=>?_,s.tab,s.tm,s.tt]
 . have hi:=(dC.mp e1).1;show s.own i b l (by rw[dL hi];show e1) (by rw[dL ⋯];show e2)
 . let(c1,l',c2):=s.fK p hp;have lK:=hz p hp;rw[dL lK]at c1;rw[dL ⋯]at c2;show#[c1,l',c2]
end
section
variable{iy im:Nat}
def Et(hj:j<k)(hN:Names X.N N' scope k)(B:aJ X.env.scope scope)(hc:X.calm=true)(hx:∀b:Bk,jB (X.blk N' scope b) x (X.N.length+j))(hgr:Gl X "range")(hmr:X.mg "range"=none)
  (Bw:g.length=X.N.length) (hm:X.N[im]?=!mn) (vm:g9 X.env.scope mn) (dm:(mn==(~~~3))=false) (cm:(mn==("__classdict__":Str))=false) (hgm:g[im]?=!‹m›) (hm1:m<=1000)
  (Dm:X.N.Nodup) (hy:X.N[iy]?=!y) (hl:X.env.scope.names.lookup y=some .local) (hgy:g[iy]?=some .no)
  (hsw:swapsWith (.ListComp (.List [] lp) [#[.Name x px,.Call (.Name "range" rp) [.Name mn mp] [] RJ,[],0]] scope yt) (!(.Name y py)) ap.line X.env=pure true) :
  ∃t,PS X (.Assign [.Name y py] (.ListComp (.List [] lp) [#[.Name x px,.Call (.Name "range" rp) [.Name mn mp] [] RJ,[],0]] scope yt) ap) t/\∀σ As M H (E:Ends),S z g σ As M H->(∀σ' H',Rows z g iy M H (List.replicate m []) σ' H'->E.nx σ' H')->t E σ H:=by
 apply#[_,Ay B hc hN (lT hgr hmr (aY (bV hm vm dm cm) cG rfl)) (λb=>#[eG (hx b).nd (hx b).ix (hx b).lc (hx b).fn,pF,yH cG]) Dm hy hl hsw (λ_=>rfl),λσ As M H E s kE=>?_]
 let(v,ev,rv):=s.sl.pH hgm;cases rv;apply#[.int m,ev,(m:Int),rfl,by lia,by lia,λD hD=>?_]
 have aL:=s.sl.length;have h0D:=s.bO hD;have s1:=s.aO (xs:=[]) hD;apply#[λi n σ' H'=>i+n=m/\∃Mb as w,S z (g++List.replicate (k+1) .no) σ' As Mb H'/\aq M H Mb H'/\w.length=k/\σ'=σ++(w++[!(.ref D)])/\D∈Mb/\H' D=!(.lst (as.map .ref))/\D∉as/\as.Nodup/\as.length=i/\fS z As Mb H' as (List.replicate i []),#[m,At _,D::M,[],List.replicate k none,?_,aq.aO hD,hZ,rfl,dA,aA,(λh=>nomatch h),o6,rfl,.nil],?_]
 . have:=s1.extNo (List.replicate k none++[!(.ref D)]);rw[fI,hZ]at this;show this
 .
  rintro i n σ' H' ⟨hin,Mb,as,w,s2,aI,hw,rfl,hDm,hDH,hDn,nd,hal,rl⟩;have nDA:D∉As:=λh=>s.fresh hD (s.sub D h)
  by_cases hi:i<m
  .
   apply .inr #[hi,λσ' H'=>∃Mb as w,S z (g++List.replicate (k+1) .no) σ' As Mb H'/\aq M H Mb H'/\w.length=k/\σ'=σ++(w++[!(.ref D)])/\D∈Mb/\H' D=!(.lst (as.map .ref))/\D∉as/\as.Nodup/\as.length=i+1/\fS z As Mb H' as (List.replicate (i+1) []),λAv Aw hN=>#[n - 1,(ar1 hin hi).1,(ar1 hin hi).2,hN],λx' H2 hx' bk _=>?_]
   let(rfl,rfl):=hx';have es:(σ++(w++[!(V.ref D)])).set (X.N.length+j) (!(.int (0+(i:Int))))=σ++(w.set j (!(.int (0+(i:Int))))++[!(V.ref D)]):=by rw[<- Bw,aL,w8 _ _ (vS _ _),mI,CH _ _ ⋯]
   have s3:S z (g++List.replicate (k+1) .no) (σ++(w.set j (!(.int (0+(i:Int))))++[!(V.ref D)])) As Mb H2:=by rw[<- es];show s2.dR (by rw[<- Bw,eD (vS _ _),AX,i5 ⋯])
   delta rS G5;dsimp only;rw[i5 rfl];rw[es];apply#[wE _,λp hp=>?_]
   have pD:p≠D:=λe=>by rw[e,hDH]at hp;cases hp
   have pas:∀q∈as,q≠p:=λq hq e=>by
    let(_,_,_,xs,hx):=rl.mem q hq;rw[e,hp]at hx;cases hx
   have hD1:upd H2 p (.lst []) D=!(.lst (as.map .ref)):=by rw[az (sT pD)];show hDH
   have s4:=s3.aO (xs:=[]) hp;have s5:=s4.zo (xs':=as.map .ref++[.ref p]) (bP _ hDm) nDA h0D hD1;have fE:aq Mb H2 (p::Mb) (upd H2 p (.lst [])):=aq.aO hp;have sH:aq (p::Mb) (upd H2 p (.lst [])) (p::Mb) (upd (upd H2 p (.lst [])) D (.lst (as.map .ref++[.ref p]))):=aq.write (bP _ hDm);apply#[as.map .ref,hD1,?_,p::Mb,as++[p],_,s5,(aI.trans fE).trans sH,by rw[u4];show hw,rfl,bP _ hDm,?_,?_,?_,?_,?_]
   . rw[eC,oS];lia
   . rw[aA,nS];rfl
   .
    intro h;rcases mP.mp h with h |h
    . show hDn h
    . show pD (i3.mp h).symm
   .
    apply sB.mpr #[nd,gN.mpr #[by simp,o6],λq hq r hr e=>?_]
    rw[i3.mp hr]at e;show pas q hq e
   . rw[fI,hal];rfl
   .
    have r1:=rl.stay (fE.trans sH) λq hq=>#[bP _ (rl.mem q hq).1,by rw[az (show q≠D from λe=>hDn (by rw[<- e];show hq)),az (pas q hq)]]
    rw[show List.replicate (i+1) ([]:List Ev.D)=List.replicate i []++[[]]from List.replicate_succ']
    show r1.push dA (λh=>s2.fresh hp (s2.sub p h)) (s2.bO hp) (by rw[az pD];show aA) .nil
  .
   have hi':i=m:=by lia
   subst hi';apply .inl #[eA _,?_];have s3:=s2.cutNo aL λp hp=>(dC.mp (s.fK p hp).1).1
   have hly:iy<σ.length:=by rw[<- aL];show (dC.mp hgy).1
   show kE _ _ #[As,Mb,D,as,s3.dR hgy,aI,eQ hly,hDm,nDA,h0D,hDH,hDn,nd,rl]
end
section
variable{iy im ia ib it:Nat}
def zH(hp:PassesOwn (~~~2) X.A X.env X.xe)(hK:z.K=X.K)(hj:j<k)(hN:Names X.N N' scope k)(B:aJ X.env.scope scope)(hc:X.calm=true)(hx:∀b:Bk,jB (X.blk N' scope b) x (X.N.length+j))(hgr:Gl X "range")(hmr:X.mg "range"=none)
  (hm:X.N[im]?=!mn) (vm:g9 X.env.scope mn) (dm:(mn==(~~~3))=false) (cm:(mn==("__classdict__":Str))=false) (hgm:g[im]?=!‹m›) (hm1:m<=1000)
  (Dm:X.N.Nodup) (hy:X.N[iy]?=!y) (hl:X.env.scope.names.lookup y=some .local) (dy:(y==(~~~3))=false) (cy:(y==("__classdict__":Str))=false) (hgy:g[iy]?=some .no)
  (hsw:swapsWith (.ListComp (.List [] lp) [#[.Name x px,.Call (.Name "range" rp) [.Name mn mp] [] RJ,[],0]] scope yt) (!(.Name y py)) ap.line X.env=pure true)
  (na:jB X a ia) (va:g9 X.env.scope a) (da:(a==(~~~3))=false) (ca:(a==("__classdict__":Str))=false) (nb:jB X b ib) (vb:g9 X.env.scope b) (db:(b==(~~~3))=false) (cb:(b==("__classdict__":Str))=false)
  (ht:X.N[it]?=!tn) (vt:g9 X.env.scope tn) (dt:(tn==(~~~3))=false) (ct:(tn==("__classdict__":Str))=false) (hgt:g[it]?=!(.dat (.tup ah)))
  (hga:g[ia]?=some .no) (hgb:g[ib]?=some .no) (hay:ia≠iy) (hby:ib≠iy) (hab:ia≠ib) (l1:(Ly.endLine==Lz.line)=true) (l2:(JF.endLine==zF.line)=true) (hF:iQ ah (List.replicate m [])=!LC) :
  mF X z [.Assign [.Name y py] (.ListComp (.List [] lp) [#[.Name x px,.Call (.Name "range" rp) [.Name mn mp] [] RJ,[],0]] scope yt) ap,.For (.Tuple [.Name a pa,.Name b pb] tk jk) (.Name tn tp) [.Expr (.Call (.Attribute (.Subscript (.Name y y1) (.Name a a1) sp1) "append" Ly) [.Name b b1] [] Lz) ep1,.Expr (.Call (.Attribute (.Subscript (.Name y y2) (.Name b b2) rF) "append" JF) [.Name a a2] [] zF) RD] [] zG,.Return (!(.Name y yr)) rpos] g (.rt (.dat (.lst (LC.map .lst)))) g:=by
 have vy:g9 X.env.scope y:=.inl hl;by_cases Bw:g.length=X.N.length
 .
  let(t1,q1,k1):=Et hj hN B hc hx hgr hmr Bw hm vm dm cm hgm hm1 Dm hy hl hgy hsw;have q3:PS X (.Return (!(.Name y yr)) rpos) _:=o7 (bV hy vy dy cy);have fin:∀M H (E:Ends) σ' H',kP z M H E g (.rt (.dat (.lst (LC.map .lst))))->Rows z g iy M H LC σ' H'->SQ iy σ' H' E.rt:=λM H E σ' H' kE h=>by
   let(As,M2,ay,as,s,st,e1,hm,hA,h0,ha,nay,nd,rl):=h;let(M3,s3,k3,k4):=S.uA (ay::as) s λp hp=>by
    rcases d6.mp hp with rfl |hp
    . show#[hA,h0]
    . show#[(rl.mem p hp).2.1,(rl.mem p hp).2.2.1]
   show#[.ref ay,e1,kE _ σ' As M3 H' s3 (st.trans (aq.less k3)) (.lst #[k4 _ dA,ha] (rl.reps k3 λp hp=>k4 p (bP _ hp)))]
  have mid:∃t,PS X (.For (.Tuple [.Name a pa,.Name b pb] tk jk) (.Name tn tp) [.Expr (.Call (.Attribute (.Subscript (.Name y y1) (.Name a a1) sp1) "append" Ly) [.Name b b1] [] Lz) ep1,.Expr (.Call (.Attribute (.Subscript (.Name y y2) (.Name b b2) rF) "append" JF) [.Name a a2] [] zF) RD] [] zG) t/\
   ∀M0 H0 σ H (E:Ends),Rows z g iy M0 H0 (List.replicate m []) σ H->(∀σ' H',Rows z g iy M0 H0 LC σ' H'->E.nx σ' H')->t E σ H:=JD hp hc hK hy vy dy cy na va da ca nb vb db cb ht vt dt ct hgt hga hgb hay hby hab l1 l2 hF
  let(t2,q2,k2):=mid;apply#[[t1,t2,_],.cons q1 (.cons q2 (.cons q3 .nil)),λu σ As M H E s kE=>?_]
  show k1 σ As M H _ s λσ' H' h'=>k2 M H σ' H' _ h' λσ2 H2 h2=>fin M H _ σ2 H2 kE h2
 .
  have no:∀st:Stmt,PS X st (λ_ σ _=>σ.length≠X.N.length):=λst aj s σ H D I h=>absurd I.len h
  show#[[_,_,_],.cons (no _) (.cons (no _) (.cons (no _) .nil)),λu σ As M H E s kE=>λe=>Bw (s.sl.length.trans e)]
end
end Ev
namespace HT
open PySem PyProof.Rows
end HT
namespace Ev
open L2
section
variable{z:Z}{g:G}{σ:Sg}{As M:List Addr}{H:Hp}
abbrev gD(k:Nat)(g:G):G:=g++List.replicate (k+1) .no
def wD{K:Frag}:∀τ:Sg,Slots K M H (List.replicate τ.length .no) τ []
 | []=>.nil
 |_::τ=>.no (wD τ)
def S.wide(s:S z g σ As M H)(τ:Sg):S z (g++List.replicate τ.length .no) (σ++τ) As M H:=by
 have q:=s.sl.append (wD τ);rw[mE]at q;have hl:=s.sl.length;apply#[q,s.nd,s.sub,λi b l e1 e2=>?_,s.live,s.keep,s.fF,s.m0,s.bm,λp hp=>?_,s.tab,s.tm,s.tt]
 .
  rcases wS i g.length with hi |hi
  . rw[dL hi]at e1;rw[dL ⋯]at e2;show s.own i b l e1 e2
  . rw[eD hi]at e1;have:=i7 e1;rw[x5]at this;show absurd this.2 ⋯
 . let(q1,l,q2):=s.fK p hp;show#[by rw[dL (dC.mp q1).1];show q1,l,by rw[dL (dC.mp q2).1];show q2]
def S.narrow(s:S z gb (σ++τ) As M H)(hz:∀p∈z.lent,p.1<σ.length):∃A1,S z (gb.take σ.length) σ A1 M H/\∀a∈A1,a∈As:=by
 have hl:=s.sl.length;rw[fI]at hl;have q:=s.sl;rw[<- AL σ.length gb]at q;let(σ1,σ2,A1,A2,h1,h2,h3,h4):=q.split;have l1:=h3.length;rw[AA,Nat.min_eq_left ⋯]at l1;let(rfl,rfl):=CU h1 l1;subst h2;have tk:∀(j:Nat) (o:Slot),(gb.take σ.length)[j]?=!o->gb[j]?=!o/\j<σ.length:=λj o e=>by
  have hj:=(dC.mp e).1;rw[AA]at hj;have hj':=eM hj (Nat.min_le_left _ _);rw[wP hj']at e;show#[e,hj']
 apply#[A1,#[h3,(sB.mp s.nd).1,λb hb=>s.sub b (i6 _ hb),λj b l c1 c2=>?_,s.live,s.keep,s.fF,s.m0,s.bm,λp hp=>?_,s.tab,s.tm,s.tt],λa ha=>i6 _ ha]
 . let(c3,c4):=tk j _ c1;show s.own j b l c3 (by rw[dL c4];show c2)
 . let(c1,l,c2):=s.fK p hp;have lK:=hz p hp;rw[dL lK]at c1;show#[c1,l,by rw[wP lK];show c2]
end
section
variable{X:Cx}{z:Z}{g g1:G}{pos:Pos}
abbrev rIcat:TIp:=λx y H Q=>∃l b xs zs,x=.ref l/\y=.ref b/\H l=!(.lst xs)/\H b=!(.lst zs)/\xs.length+zs.length<=sizeLine/\Q (.ref l) (upd H l (.lst (xs++zs)))
def VH:PIp X .Add rIcat:=by
 intro aj s σ H x y v u Q I r1 r2 h;let(l,b,xs,zs,rfl,rfl,hH,hB,hz,q):=h;cases r1;cases r2;let(z,its,n,r,hl,e):=I.ud hH;let(z2,jF,n2,r2,hl2,e2):=I.ud hB;have hsz:its.toArray.size+jF.toArray.size<=sizeLine:=by rw[d5,d5];lia
 have vF : ¬ ((not its.toArray.isEmpty)&&Builtin.List.listTooLong (its.toArray.size+jF.toArray.size))=true:=by rw[pB hsz,Cf];show xL
 have ta:s.TypeIs (.ref l) "list" :=#[_,e,rfl];have tb:s.TypeIs (.ref b) "list" :=#[_,e2,rfl];have lk:=PySem.F.slot_list_iadd.lookup;have VJ:fillsInplaceSlot (.type "list") "add" (Operator.Add==.Add)=pure false:=by
  exact (typeLookup (.type "list") (dunderI "add") >>= λfi=>pure (fi.isSome&&(not (isSeqSlot fi))))=pure false
  rfl
 have hsi:=PySem.seqSlot_of lk (by decide +kernel)
 apply nV (aS (wpAny_typeOf ta (aS (wpAny_of_eq VJ ?_))));apply aS (wpAny_binaryOp1_none ta tb noFill_list_add ?_);apply aS (wpAny_of_eq hsi (aS (AT ?_)));apply C9 PySem.F.slot_list_iadd ta PySem.F.entry_list_iadd (PySem.F.args_list_iadd_2 _ _) (AutoSeq1.list___iadd___list_list_0 l its.toArray n b jF.toArray n2 vF (by rw[d5];lia) ⋯) #[e,e2,?_]
 apply#[.ref l,_,I.Mp hH e ⋯ (r.append r2) ?_,rfl,q];rw[fI];lia
def Oz(hn:jB X x i)(h:aD X z e g (.dat (.lst m)) g1)(hg:g[i]?=!(.own l0))(sC:g1[i]?=!(.own l))(hl:l.length+m.length<=16777216) :
  gq X z (.AugAssign (.Name x pos') .Add e pos) g .nx (g1.set i (.own (l++m))):=by
 let(t,q,k):=h;apply#[_,Tj hn.nd hn.ix hn.lc q VH hn.fn,λσ As M H E s kk=>?_]
 let(a,xs,e1,e2,e3,e4):=s.sl.at hg;apply#[.ref a,e1,k σ As M H _ s λv H' aC M' s' st R=>?_]
 let(b,ys,f1,f2,f3,f4):=s'.sl.at sC;rw[e1]at f1;injection f1 with f1;injection f1 with f1;injection f1 with f1;subst f1;cases R with
 |@lst _ c zs hc rr=>
  apply#[a,c,ys,zs,rfl,rfl,f3,hc.2,by rw[<- f4.length,<- rr.length];show hl,?_]
  let(s2,aI):=s'.write sC e1 (f4.append rr);have es:σ.set i (!(V.ref a))=σ:=by
   refine List.ext_getElem?;intro j;by_cases hj:i=j
   . subst hj;rw[eQ (dC.mp e1).1,e1]
   . rw[eJ hj]
  rw[es];show kk _ aC M' _ s2 (st.trans aI)
end
open L2 PySem.W SeqAt
open L2 PySem.W SeqAt
open L2 PySem.W SeqAt
open L2 PySem.W SeqAt
open L2 PySem.W
abbrev tx(l:List Nat):Str:=#[l.toArray]
open PySem.Builtin PySem.Builtin.Str
abbrev d8(g:G):Bool:=g.all λs=>match s with |.own _=>false |_=>true
def Slots.noAs{K:Frag}{M:List Addr}{H:Hp}{g:G}{σ:Sg}{As:List Addr}(q:Slots K M H g σ As):d8 g=true->As=[]:=by
 induction q with
 |nil=>intro _;rfl
 |no _ ih=>intro h;show ih (by simpa [d8]using h)
 |dat _ _ ih=>intro h;show ih (by simpa [d8]using h)
 |own _ _ _ ih=>intro h;simp[d8]at h
def zI{g:G}{i:Nat}{d:D}(h:d8 g=true):d8 (g.set i (.dat d))=true:=by
 delta d8 at *;rw[i8]at *;intro s hs;rcases List.mem_or_eq_of_mem_set hs with q |q
 . show h s q
 . rw[q]
section
variable{z:Z}{g:G}{σ:Sg}{As M M3 M1:List Addr}{H H1:Hp}{ps:List Addr}
def Slots.forget{K:Frag}{d:D}:∀{g:G}{σ:Sg}{As:List Addr}{i:Nat},Slots K M H (g.set i (.dat d)) σ As->g[i]?=some .no->Slots K M H g σ As
 | [],_,_,_,_,e=>by cases e
 |s::g,σ,As,0,q,e=>by
  cases (show some s=some .no from e)
  cases q with
  |dat _ q=>show .no q
 |s::g,σ,As,i+1,q,e=>by
  have e':g[i]?=some .no:=e;cases q with
  |no q=>show .no (q.forget e')
  |dat r q=>show .dat r (q.forget e')
  |own h r q=>show .own h r (q.forget e')
def S.forget{d:D}{i:Nat}(s:S z (g.set i (.dat d)) σ As M H)(e:g[i]?=some .no):S z g σ As M H:=by
 have hi:=(dC.mp e).1;have un:∀(j:Nat) (l:List D),g[j]?=!(.own l)->(g.set i (.dat d))[j]?=!(.own l):=λj l h=>by
  rw[eJ (λz=>by subst z;rw[e]at h;symm)];show h
 have nu:∀(j:Nat) (l:List D),(g.set i (.dat d))[j]?=!(.own l)->g[j]?=!(.own l):=λj l h=>by
  by_cases q:i=j
  . subst q;rw[eQ hi]at h;symm
  . rw[eJ q]at h;show h
 show#[s.sl.forget e,s.nd,s.sub,λj a l h1 h2=>s.own j a l (un j l h1) h2,s.live,s.keep,s.fF,s.m0,s.bm,λp hp=>let #[q1,l,q2]:=s.fK p hp;#[q1,l,nu _ _ q2],s.tab,s.tm,s.tt]
def S.open(s:S z g σ [] M H)(hps:∀p∈ps,p∈M/\∃u,H p=!u/\Uc u)(n3:∀p∈ps,p∉M3)(sub:∀m∈M3,m∈M){g1:G}{σ1:Sg}{A1:List Addr}(s1:S z g1 σ1 A1 M1 H1)(dc:aq M3 H M1 H1) :
  S z g σ [] (ps++M1) H1/\aq M H (ps++M1) H1/\∀p∈ps,H1 p=H p:=by
 have kp:∀p∈ps,H1 p=H p:=λp hp=>by
  let(xs,e,_):=(hps p hp).2;rw[e];show (dc p _ e (n3 p hp)).1
 have stM:aq M H (ps++M1) H1:=λb o e hb=>by
  have h1:=dc b o e λhm=>hb (sub b hm)
  apply#[h1.1,λhm=>?_]
  rcases mP.mp hm with hm |hm
  . show hb (hps b hm).1
  . show h1.2 hm
 apply#[#[s.sl.stay stM λa ha=>(nomatch ha),s.nd,λa ha=>(nomatch ha),s.own,λm hm=>?_,s1.keep,λm hm=>eP _ (s1.fF m hm),s.m0,s.bm,s.fK,s1.tab,s.tm,s.tt],stM,kp]
 rcases mP.mp hm with hm |hm
 . let(u,e,gu):=(hps m hm).2;show .inl #[u,by rw[kp m hm];show e,gu]
 . show s1.live m hm
end
structure Vr(X:Cx)(y:Str)(i:Nat):Prop where
 ix:X.N[i]?=!y
 vis:g9 X.env.scope y
 db:(y==(~~~3))=false
 cd:(y==("__classdict__":Str))=false
def Vr.pe{X:Cx}{y:Str}{i:Nat}{p:Pos}(v:Vr X y i):PE X (.Name y p) (SQ i):=bV v.ix v.vis v.db v.cd
abbrev WA(z:Z)(g:G)(iy:Nat)(M0:List Addr)(H0:Hp)(a:Addr)(m:List (Int×Int))(ps:List (Addr×List V))(σ:Sg)(H:Hp):Prop:=
 ∃M,S z g σ [] M H/\aq M0 H0 M H/\σ[iy]?=!(!(.ref a))/\a∈M/\z.H0 a=none/\H a=!(dI m)/\∀p∈ps,p.1∈M/\z.H0 p.1=none/\H p.1=!(.lst p.2)
section
variable{X:Cx}{z:Z}{g:G}{iy:Nat}{M0:List Addr}{H0:Hp}{a:Addr}{m:List (Int×Int)}{ps:List (Addr×List V)}{σ:Sg}{H:Hp}
def WA.less{p:Addr×List V}(h:WA z g iy M0 H0 a m (p::ps) σ H):WA z g iy M0 H0 a m ps σ H:=by let(M,s,st,e1,hm,h0,ha,hp):=h;show#[M,s,st,e1,hm,h0,ha,λq hq=>hp q (bP _ hq)]
def WA.shut(h:WA z g iy M0 H0 a m ps σ H):∃M3,S z g σ [] M3 H/\∀{g1:G}{σ1:Sg}{A1 M1:List Addr}{H1:Hp},S z g1 σ1 A1 M1 H1->aq M3 H M1 H1->∀qs:List (Addr×List V),(∀q∈qs,q.1∈M1/\z.H0 q.1=none/\H1 q.1=!(.lst q.2))->WA z g iy M0 H0 a m (qs++ps) σ H1:=by
 let(M,s,st,e1,hm,h0,ha,hp):=h;have mem:∀p∈a::ps.map (·.1),p∈M/\z.H0 p=none/\∃u,H p=!u/\Uc u:=λp h=>by
  rcases d6.mp h with rfl |h
  . show#[hm,h0,_,ha,trivial]
  . let(q,hq,rfl):=fR.mp h;let(q1,q2,q3):=hp q hq;show#[q1,q2,_,q3,trivial]
 let(M3,s3,k3,k4):=S.uA (a::ps.map (·.1)) s λp hp=>#[(λz=>nomatch z),(mem p hp).2.1]
 apply#[M3,s3,λ{g1 σ1 A1 M1 H1} s1 dc qs hq=>?_]
 let(q1,q2,q3):=s.open (λp hp=>#[(mem p hp).1,(mem p hp).2.2]) k4 k3 s1 dc
 apply#[_,q1,st.trans q2,e1,i6 _ dA,h0,(q3 a dA).trans ha,λp h=>?_]
 rcases mP.mp h with h |h
 . let(b1,b2,b3):=hq p h;show#[eP _ b1,b2,b3]
 . let(b1,b2,b3):=hp p h;have hin:p.1∈a::ps.map (·.1):=bP _ (tP h);show#[i6 _ hin,b2,(q3 _ hin).trans b3]
def WA.evI{e:Expr}{n:Int}{g':G}(he:aD X z e g ‹n› g'):∃t,PE X e t/\∀{σ:Sg}{H M0 H0 a m ps}{Q:VK},WA z g iy M0 H0 a m ps σ H->(∀H',WA z g iy M0 H0 a m ps σ H'->Q (.int n) H')->t σ H Q:=by
 let(t,q,k):=he;apply#[t,q,λ{σ H M0 H0 a m ps Q} h kq=>?_]
 let(M3,s3,over):=h.shut;show k σ [] M3 H Q s3 λv H' aC M' s' st' R=>by
  have R':=R;cases R';show kq H' (over s' st' [] λ_ h=>nomatch h)
def WA.evL{e:Expr}{l:List D}{ns: ~~~0}{g':G}(he:aD X z e g (.new l) g')(hn:bF l=!ns):∃t,PE X e t/\∀{σ:Sg}{H M0 H0 a m ps}{Q:VK},WA z g iy M0 H0 a m ps σ H->(∀p H',WA z g iy M0 H0 a m ((p,ns.map .int)::ps) σ H'->Q (.ref p) H')->t σ H Q:=by
 let(t,q,k):=he;apply#[t,q,λ{σ H M0 H0 a m ps Q} h kq=>?_]
 let(M3,s3,over):=h.shut;show k σ [] M3 H Q s3 λv H' aC M' s' st' R=>by
  let(p,xs,rfl,h1,h2,h3,h4,h5):=R;rw[eV h5 hn]at h4;show kq p H' (over s' st' [(p,ns.map .int)] λq hq=>by rw[i3.mp hq];show#[h1,h3,h4])
def WA.dR{i:Nat}{v:Option V}(h:WA z g iy M0 H0 a m ps σ H)(e:g[i]?=some .no)(n:i≠iy):WA z g iy M0 H0 a m ps (σ.set i v) H:=by let(M,s,st,e1,r):=h;show#[M,s.dR e,st,by rw[eJ n];show e1,r]
def WA.setInt{n:Int}{i:Nat}(hn:d8 g=true)(h:WA z g iy M0 H0 a m ps σ H)(hi:i≠iy)(hb:z.bor=[]):WA z (g.set i ‹n›) iy M0 H0 a m ps (σ.set i (!(.int n))) H:=by
 let(M,s,st,e1,r):=h;let(aC,s'):=s.iJ (i:=i) (d:=.int n) (by rw[hb];show λz=>nomatch z) (.int n)
 have:=s'.sl.noAs (zI hn);subst this;show#[M,s',st,by rw[eJ hi];show e1,r]
def WA.forget{d:D}{i:Nat}(h:WA z (g.set i (.dat d)) iy M0 H0 a m ps σ H)(e:g[i]?=some .no):WA z g iy M0 H0 a m ps σ H:=by let(M,s,r):=h;show#[M,s.forget e,r]
def WA.put{m':List (Int×Int)}(h:WA z g iy M0 H0 a m ps σ H):WA z g iy M0 H0 a m' ps σ (upd H a (dI m')):=by
 let(M,s,st,e1,hm,h0,ha,hp):=h;apply#[M,s.yP hm (λz=>nomatch z) h0 ha trivial trivial,st.trans (aq.write hm),e1,hm,h0,aA,λp h=>?_]
 let(b1,b2,b3):=hp p h;show#[b1,b2,by rw[az (λe=>by rw[e,ha]at b3;cases b3)];show b3]
def WA.new{xs:List V}{l:Addr}(h:WA z g iy M0 H0 a m ps σ H)(hl:H l=none):WA z g iy M0 H0 a m ((l,xs)::ps) σ (upd H l (.lst xs)):=by
 let(M,s,st,e1,hm,h0,ha,hp):=h;have ne:∀{b:Addr}{o:HO},H b=!o->upd H l (.lst xs) b=!o:=λe=>by rw[az (aH e hl)];show e
 apply#[_,s.aO hl,st.trans (aq.aO hl),e1,bP _ hm,h0,ne ha,λp h=>?_]
 rcases d6.mp h with rfl |h
 . show#[dA,s.bO hl,aA]
 . let(b1,b2,b3):=hp p h;show#[bP _ b1,b2,ne b3]
def WA.seal{o:Obj}(h:WA z g iy M0 H0 a m ps σ H):∃M,S z g σ [] M (upd H a (.dJ o (dI m)))/\aq M0 H0 M (upd H a (.dJ o (dI m)))/\Rep z.K M (upd H a (.dJ o (dI m))) (.emp m) (.ref a):=by
 let(M,s,st,e1,hm,h0,ha,hp):=h;have BG:∀q∈M,q≠a->q∈M.filter (λx=>decide (x≠a)):=λq hq e=>hV.mpr #[hq,oC e]
 have out:∀q,q∈M.filter (λx=>decide (x≠a))->q∈M/\q≠a:=λq hq=>#[(hV.mp hq).1,mB (hV.mp hq).2]
 have aI:aq M H (M.filter λx=>decide (x≠a)) (upd H a (.dJ o (dI m))):=λb u e n=>#[by rw[az (λq=>n (by rw[q];show hm))];show e,λz=>n (out b z).1]
 apply#[_,#[s.sl.stay aI (λb hb=>nomatch hb),s.nd,λb hb=>(nomatch hb),s.own,λq hq=>?_,λb u e hb ht=>?_,λq hq=>BG q (s.fF q hq) λe=>s.m0 q hq (e▸h0),s.m0,s.bm,s.fK,λp hp=>(s.tab p hp).keep λb u e n=>?_,s.tm,s.tt],st.trans aI,.emp (λz=>(out a z).2 rfl) aA]
 . let(q1,q2):=out q hq;rw[az q2];show s.live q q1
 .
  rw[az (λq=>by rw[q,h0]at e;cases e)]
  show s.keep b u e hb ht
 .
  rw[az (λq=>by rw[q,ha]at e;cases e;show n trivial)]
  show e
end
abbrev qi(m:List (Int×Int))(n v:Int):List (Int×Int):=if (oA n m).isSome=true then m else m++[(n,v+1)]
section
variable{X:Cx}{z:Z}{g:G}{y o h:Str}{iy io ih:Nat}{py yu py3 po Eu ph cp sp rF kp bp ap yw:Pos}{j1:Nat}
meta abbrev wF (y o h:Str) (po py cp yu Eu sp py3 ph rF kp bp ap yw:Pos) (j1:Nat):Stmt:=
 .If (.Compare (.Name o po) [.NotIn] [.Name y py] cp) [.Assign [.Subscript (.Name y yu) (.Name o Eu) sp] (.BinOp (.Subscript (.Name y py3) (.Name h ph) rF) .Add (.Constant (.int 1) j1 kp) bp) ap] [] yw
def OD(vy:Vr X y iy)(vo:Vr X o io)(vh:Vr X h ih):∃t,PS X (wF y o h po py cp yu Eu sp py3 ph rF kp bp ap yw j1) t/\∀{g:G}{σ H M0 H0 a m ps}{n hh v:Int}{E:Ends},WA z g iy M0 H0 a m ps σ H->σ[io]?=!(!(.int n))->σ[ih]?=!(!(.int hh))->(oA n m=none->oA hh m=!v/\m.length<1000)->
  (∀H',WA z g iy M0 H0 a (qi m n v) ps σ H'->E.nx σ H')->t E σ H:=by
 apply#[_,m5 (ow Dp vo.pe vy.pe rfl) (jq (Mv vy.pe vo.pe (Rj GL (G3 Rr vy.pe vh.pe (λ_ _=>rfl)) yC) rfl)) Al,λ{g σ H M0 H0 a m ps n hh v E} h eo eh hv kE=>?_]
 let(M,s,st,e1,hm,h0,ha,hp):=id h;apply#[.int n,eo,.ref a,e1,n,a,m,rfl,rfl,.inl ha,_,rfl,?_];delta qi at kE;cases hn:oA n m with
 |some w=>rw[hn]at kE;show kM (kE H h)
 |none=>rw[hn]at kE;let(q1,q2):=hv hn;apply iG #[.ref a,e1,.int hh,eh,a,hh,m,v,rfl,rfl,.inl ha,q1,v,1,rfl,rfl,.ref a,e1,.int n,eo,a,n,m,v+1,rfl,rfl,rfl,ha,hn,eM q2 (by rw[oS];decide),kE _ h.put]
end
abbrev nq(h:Int): ~~~0->List (Int×Int)->Option (List (Int×Int))
 | [],m=>!m
 |n::ns,m=>match oA h m with
  |some v=>if m.length<1000 then nq h ns (qi m n v)else none
  |none=>none
abbrev nD(ev:Int->Option (~~~0)): ~~~0->List (Int×Int)->Option (List (Int×Int))
 | [],m=>!m
 |h::hs,m=>match ev h with
  |some ns=>match nq h ns m with |some m'=>nD ev hs m' |none=>none
  |none=>none
abbrev OJ(ev:Int->Option (~~~0)):Nat->List (Int×Int)->Option (List (Int×Int))
 | 0,m=>!m
 |n+1,m=>match nD ev (m.map (·.1)) m with |some m'=>OJ ev n m' |none=>none
section
variable{X:Cx}{z:Z}{g:G}{y o h st p:Str}{iy io ih uB ip:Nat}{py yu py3 po Eu VL ph ph2 cp sp rF kp bp ap yw VM fp2 fp3 lp yt Yu rp RJ pst pp dp pos0 py0 py5 rp3 kp0:Pos}{j1 j0:Nat}{E1 E2:Expr}{ev:Int->Option (~~~0)}
structure WyF(X:Cx)(z:Z)(g:G)(y o h st:Str)(iy io ih uB:Nat)(E2:Expr)(ev:Int->Option (~~~0)):Prop where
 hn:d8 g=true
 hb:z.bor=[]
 pa:PassesOwn (~~~2) X.A X.env X.xe
 hc:X.calm=true
 vy:Vr X y iy
 vo:Vr X o io
 vh:Vr X h ih
 no:jB X o io
 nh:jB X h ih
 nst:jB X st uB
 oy:io≠iy
 hy:ih≠iy
 sy:uB≠iy
 oh:io≠ih
 gy:g[iy]?=some .no
 go:g[io]?=some .no
 gh:g[ih]?=some .no
 gs:g[uB]?=some .no
 gl:Gl X "list"
 ml:X.mg "list"=none
 gr:Gl X "range"
 mr:X.mg "range"=none
 ev2:∀{n:Int}{ns: ~~~0},ev n=!ns->∃l g',aD X z E2 (g.set ih ‹n›) (.new l) g'/\bF l=!ns
 fold:∀x,foldedSetIterable E2 X.env x=pure x
variable(F:WyF X z g y o h st iy io ih uB E2 ev)
include F
def VN{n:Int}{ns: ~~~0}(he:ev n=!ns):∃t,PS X (.For (.Name o VL) E2 [wF y o h po py cp yu Eu sp py3 ph rF kp bp ap yw j1] [] VM) t/\∀{σ H M0 H0 a m m' ps}{E:Ends},WA z (g.set ih ‹n›) iy M0 H0 a m ps σ H->σ[ih]?=!(!(.int n))->nq n ns m=!m'->
  (∀σ' H',WA z g iy M0 H0 a m' ps σ' H'->E.nx σ' H')->t E σ H:=by
 let(l,g',e2,hl):=F.ev2 he;let(te,qe,ke):=WA.evL (iy:=iy) e2 hl;let(tb,qb,kb):=OD (X:=X) (z:=z) (po:=po) (py:=py) (cp:=cp) (yu:=yu) (Eu:=Eu) (sp:=sp) (py3:=py3) (ph:=ph) (rF:=rF) (kp:=kp) (bp:=bp) (ap:=ap) (yw:=yw) (j1:=j1) F.vy F.vo F.vh;apply#[_,o9 F.pa F.hc (kL qe) (eG F.no.nd F.no.ix F.no.lc F.no.fn) (jq qb) F.fold,λ{σ H M0 H0 a m m' ps E} hw eh hr kE=>ke hw λp H1 h1=>?_]
 have pin:∀{m:List (Int×Int)}{σ:Sg}{H:Hp},WA z (g.set ih ‹n›) iy M0 H0 a m ((p,ns.map .int)::ps) σ H->cA X.K H p (ns.map .int):=by rintro m σ H ⟨_,_,_,_,_,_,_,hp⟩;show cA.of (hp _ dA).2.2
 apply#[p,rfl,#[_,pin h1],λi k σ' H'=>i+k=ns.length/\∃m,WA z (g.set ih ‹n›) iy M0 H0 a m ((p,ns.map .int)::ps) σ' H'/\σ'[ih]?=!(!(.int n))/\nq n (ns.drop i) m=!m',#[ns.length,At _,m,h1,eh,hr],?_]
 rintro i k σ' H' ⟨hik,m,hw,eh,hr⟩;cases e:ns[i]? with
 |none=>have hi:=rV.mp e;rw[B3 hi]at hr;cases hr;show .inl #[#[_,pin hw,by rw[eC];show hi],kE _ _ (hw.less.forget F.gh)]
 |some x=>
  have hi:=(dC.mp e).1;rw[drop_cons e]at hr;delta nq at hr;split at hr
  .
   ext v hv;split at hr
   .
    ext hm;have hg:(g.set ih ‹n›)[io]?=some .no:=by rw[eJ (sT F.oh)];show F.go
    have lo:io<σ'.length:=by let(_,s,_):=hw;rw[<- s.sl.length];show (dC.mp hg).1
    apply .inr #[#[_,.int x,pin hw,by rw[nE,e];rfl],λσ2 H2=>∃m,WA z (g.set ih ‹n›) iy M0 H0 a m ((p,ns.map .int)::ps) σ2 H2/\σ2[ih]?=!(!(.int n))/\nq n (ns.drop (i+1)) m=!m',λσ2 H2 hN=>#[k - 1,by lia,by lia,hN],λu H2 hu=>?_]
    let(rfl,hu):=hu;have hu:=hu _ (pin hw);rw[nE,e]at hu;cases hu;have eh2:(σ'.set io (!(V.int x)))[ih]?=!(!(.int n)):=by rw[eJ F.oh];show eh
    show kb (hw.dR hg F.oy) (eQ lo) eh2 (λ_=>#[hv,hm]) λH3 h3=>#[_,h3,eh2,hr]
   . cases hr
  . cases hr
def VP:∃t,PS X (.For (.Name h ph2) (.Call (.Name "list" lp) [.Name y Yu] [] yt) [.For (.Name o VL) E2 [wF y o h po py cp yu Eu sp py3 ph rF kp bp ap yw j1] [] VM] [] fp2) t/\∀{σ H M0 H0 a m m'}{E:Ends},WA z g iy M0 H0 a m [] σ H->nD ev (m.map (·.1)) m=!m'->
  (∀σ' H',WA z g iy M0 H0 a m' [] σ' H'->E.nx σ' H')->t E σ H:=by
 apply#[_,o9 F.pa F.hc (kL (rZ (yM F.hc) F.gl F.ml rfl (aY F.vy.pe cG rfl))) (eG F.nh.nd F.nh.ix F.nh.lc F.nh.fn) uo (λ_=>rfl),λ{σ H M0 H0 a m m' E} hw hr kE=>?_]
 let(M,s,_,e1,hm,h0,ha,hp):=id hw;apply#[.ref a,e1,a,m,rfl,.inl ha,λp hl=>?_]
 have h1:=hw.new (xs:=m.map λp=>.int p.1) hl
 generalize hks:m.map (·.1)=ks at hr;have ek:(m.map λp=>V.int p.1)=ks.map .int:=by rw[<- hks,List.map_map];rfl
 rw[ek]at h1 ⊢
 have pin:∀{m:List (Int×Int)}{σ:Sg}{H:Hp},WA z g iy M0 H0 a m [(p,ks.map .int)] σ H->cA X.K H p (ks.map .int):=by rintro m σ H ⟨_,_,_,_,_,_,_,hp⟩;show cA.of (hp _ dA).2.2
 apply#[p,rfl,#[_,pin h1],λi k σ' H'=>i+k=ks.length/\∃m,WA z g iy M0 H0 a m [(p,ks.map .int)] σ' H'/\nD ev (ks.drop i) m=!m',#[ks.length,At _,m,h1,hr],?_]
 rintro i k σ' H' ⟨hik,m,hw,hr⟩;cases e:ks[i]? with
 |none=>have hi:=rV.mp e;rw[B3 hi]at hr;cases hr;show .inl #[#[_,pin hw,by rw[eC];show hi],kE _ _ hw.less]
 |some x=>
  have hi:=(dC.mp e).1;rw[drop_cons e]at hr;delta nD at hr;split at hr
  .
   ext ns hns;split at hr
   .
    ext m2 hm2;let(t,q,kr):=VN (po:=po) (VL:=VL) (py:=py) (cp:=cp) (yu:=yu) (Eu:=Eu) (sp:=sp) (py3:=py3) (ph:=ph) (rF:=rF) (kp:=kp) (bp:=bp) (ap:=ap) (yw:=yw) (j1:=j1) (VM:=VM) F hns;have lh:ih<σ'.length:=by let(_,s,_):=hw;rw[<- s.sl.length];show (dC.mp F.gh).1
    apply .inr #[#[_,.int x,pin hw,by rw[nE,e];rfl],λσ2 H2=>∃m,WA z g iy M0 H0 a m [(p,ks.map .int)] σ2 H2/\nD ev (ks.drop (i+1)) m=!m',λσ2 H2 hN=>#[k - 1,by lia,by lia,hN],λu H2 hu=>?_]
    let(rfl,hu):=hu;have hu:=hu _ (pin hw);rw[nE,e]at hu;cases hu;show#[_,jq q,kr (hw.setInt F.hn F.hy F.hb) (eQ lh) hm2 λσ3 H3 h3=>#[_,h3,hr]]
   . cases hr
  . cases hr
def JG(ny:jB X y iy)(vp:Vr X p ip){c n:Int}{m:List (Int×Int)}{g':G}(gp:g[ip]?=!‹c›)(he:aD X z E1 g ‹n› g')(hs:starEach [E1] X.env=[(false,eval E1 X.env)])(h1 : -(2 ^ 62)<=n)(h2:n<2 ^ 62)(hm:OJ ev n.toNat [(c,0)]=!m) :
  mF X z [.Assign [.Name y py0] (.Dict [!(.Name p pp)] [.Constant (.int 0) j0 kp0] dp) pos0,.For (.Name st pst) (.Call (.Name "range" rp) [E1] [] RJ) [.For (.Name h ph2) (.Call (.Name "list" lp) [.Name y Yu] [] yt) [.For (.Name o VL) E2 [wF y o h po py cp yu Eu sp py3 ph rF kp bp ap yw j1] [] VM] [] fp2] [] fp3,.Return (!(.Name y py5)) rp3] g (.rt (.dat (.emp m))) g:=by
 let(te,qe,ke):=WA.evI (iy:=iy) he;let(tb,qb,kb):=VP (po:=po) (VL:=VL) (py:=py) (cp:=cp) (yu:=yu) (Eu:=Eu) (sp:=sp) (py3:=py3) (ph:=ph) (ph2:=ph2) (rF:=rF) (kp:=kp) (bp:=bp) (ap:=ap) (yw:=yw) (j1:=j1) (VM:=VM) (fp2:=fp2) (lp:=lp) (yt:=yt) (Yu:=Yu) F;apply#[[_,_,_],.cons (lR ny.nd ny.ix ny.lc (Mw vp.pe yC) rfl ny.fn) (.cons (o9 F.pa F.hc (lT F.gr F.mr (aY qe cG hs) hs) (eG F.nst.nd F.nst.ix F.nst.lc F.nst.fn) (jq qb) (λ_=>rfl)) (.cons (o7 (Mx F.vy.pe)) .nil)),λu σ As M H E s kE=>?_]
 have:=s.sl.noAs F.hn;subst this;let(v,ev',rv):=s.sl.pH gp;cases rv;have hi:iy<σ.length:=by rw[<- s.sl.length];show (dC.mp F.gy).1
 apply λa ha=>#[.int c,ev',c,0,rfl,rfl,aA,?_]
 have s1:S z g σ [] (a::M) (upd H a (dI [])):=s.Hj trivial ha;have h1':WA z g iy M H a [(c,0)] [] (σ.set iy (!(.ref a))) (upd (upd H a (dI [])) a (dI [(c,0)])):=WA.put (m:=[]) #[_,s1.dR F.gy,aq.aO ha,eQ hi,dA,s.bO ha,aA,λ_ h=>nomatch h]
 apply ke h1' λH1 hw=>#[n,rfl,h1,h2,λi k σ' H'=>i+k=n.toNat/\∃m',WA z g iy M H a m' [] σ' H'/\OJ ev k m'=!m,#[n.toNat,At _,_,hw,hm],?_]
 rintro i k σ' H' ⟨hik,m',hw,hr⟩;cases k with
 |zero=>
  cases hr;let(_,s2,_,e1,_,_,ha2,_):=id hw;apply .inl #[by rw[<- hik];show eA _,.ref a,e1,a,m,rfl,ha2,λo=>?_]
  let(M3,s3,fE,r3):=hw.seal (o:=o);show kE _ σ' [] M3 _ s3 fE r3
 |succ k=>
  delta OJ at hr;split at hr
  .
   ext m2 hm2;apply .inr #[by exact i<n.toNat;lia,λσ2 H2=>∃m',WA z g iy M H a m' [] σ2 H2/\OJ ev k m'=!m,λσ2 H2 hN=>#[k,oI k,by lia,hN],λu H2 hu=>?_]
   let(rfl,rfl):=hu;show kb (hw.dR F.gs F.sy) hm2 λσ3 H3 h3=>#[_,h3,hr]
  . cases hr
end
section
variable{X:Cx}{z:Z}{g g1:G}{iter tg:Expr}{m:List (Int×Int)}{n v:Int}
def VR(h:oA n m=!v):Yj X z (.emp m) (.int n) ‹v›:=by
 apply#[_,Rr,λg σ As M H v1 v2 Q s q1 q2 kk=>?_]
 rw[q2.int];cases q1 with
 |of q1=>cases q1 with
  |emp _ ha=>show#[_,n,m,v,rfl,rfl,.inr #[_,ha],h,kk _ H As M s (aq.refl _ _) (.int v)]
def V0(h:aD X z iter g (.dat (.emp m)) g1):cT X z tg iter g (m.map λp=>.int p.1) g1:=by
 let(t,q,k):=h;apply#[_,My q,λσ As M H R s kk=>k σ As M H _ s λv H1 aN M1 s1 dc r=>?_]
 have r':=r;cases r' with
 |@emp _ o a na ha=>
  apply#[a,o,m,rfl,ha,kk _ H1 aN M1 s1 dc λM2 H2 aI=>?_]
  have ha2:=(aI _ _ ha na).1;apply#[λi d hd=>?_,ha2,by rw[eC];show eA _]
  rw[nE,BY]at hd;let(p,e1,rfl):=hd;apply#[#[ha2,(dC.mp e1).1],λy H' hy z' g' σ' aC _ s'=>?_]
  let(rfl,p',e2,rfl):=hy;rw[e1]at e2;cases e2;show#[s',aq.refl _ _,.int _]
end
end Ev
namespace Sb
open PySem
abbrev Yv(xs:Array Nat):Prop:=∀i k,i<k->k<xs.size->xs.getD i 0<xs.getD k 0
def getD_in{xs:Array Nat}{i d:Nat}(h:i<xs.size):xs.getD i d=xs.getD i 0:=by simp[Array.getD,h]
def qj{xs:Array Nat}(hr:Yv xs)(j:Nat):∀f lo hi,lo<=hi->hi<=xs.size->hi - lo<=f->(∀i,i<lo->xs.getD i 0<j)->(∀i,hi<=i->i<xs.size->j<=xs.getD i 0)->
  SetTable.below.go xs j f lo hi<=xs.size/\(∀i,i<SetTable.below.go xs j f lo hi->xs.getD i 0<j)/\(∀i,SetTable.below.go xs j f lo hi<=i->i<xs.size->j<=xs.getD i 0)
 | 0,lo,hi,h1,h2,h3,h4,h5=>by
  obtain rfl:lo=hi:=by lia
  show#[h2,h4,h5]
 |f+1,lo,hi,h1,h2,h3,h4,h5=>by
  delta SetTable.below.go;by_cases n9:lo<hi
  .
   rw[i5 n9];have hm1:lo<=(lo+hi) / 2:=by lia
   have hm2:(lo+hi) / 2<hi:=by lia
   dsimp only;rw[getD_in (show (lo+hi) / 2<xs.size by lia)]
   by_cases hc:xs.getD ((lo+hi) / 2) 0<j
   .
    rw[i5 hc];apply qj hr j f _ _ ⋯ h2 ⋯ (λi hi'=>?_) h5
    by_cases e:i=(lo+hi) / 2
    . rw[e];show hc
    . show Nat.lt_trans (hr i ((lo+hi) / 2) ⋯ ⋯) hc
   .
    rw[kA hc];apply qj hr j f _ _ hm1 ⋯ ⋯ h4 λi hi1 hi2=>?_
    by_cases e:i=(lo+hi) / 2
    . rw[e];lia
    . have:=hr ((lo+hi) / 2) i ⋯ hi2;lia
  .
   rw[kA n9];obtain rfl:lo=hi:=by lia
   show#[h2,h4,h5]
def wG(hr:Yv xs)(j:Nat):SetTable.below xs j<=xs.size/\(∀i,i<SetTable.below xs j->xs.getD i 0<j)/\(∀i,SetTable.below xs j<=i->i<xs.size->j<=xs.getD i 0):=
 qj hr j xs.size 0 xs.size (wE _) (eA _) ⋯ (λi h=>absurd h (qS i)) λi h1 h2=>absurd h2 ⋯
def zJ{t:SetTable}(hr:Yv t.place)(hd:t.dummies = ([].toArray)){j:Nat}(h:∀i,i<t.place.size->t.place.getD i 0≠j):t.slot j=.empty:=by
 delta SetTable.slot;dsimp only;have h1:(t.place[SetTable.below t.place j]?==!j)=false:=by
  cases e:t.place[SetTable.below t.place j]? with
  |none=>rfl
  |some x=>
   let(hl,e):=t8.mp e;have:=h _ hl;have e2:t.place.getD (SetTable.below t.place j) 0=x:=by simp[Array.getD,hl,e]
   rw[e2]at this;simpa using this
 have h2:SetTable.has t.dummies j=false:=by delta SetTable.has;rw[hd];rfl
 rw[h1,h2];rfl
structure qk(o:Obj)(es:Array (Int×Value))(ep:Nat)(t:SetTable):Prop where
 ex:o.ExactSet
 data:o.data=.set es ep t
 fits:t.fits es.size=true
 RK:Yv t.place
 plain:t.plain=true
def qk.sz{o:Obj}{es:Array (Int×Value)}{ep:Nat}{t:SetTable}(S:qk o es ep t):t.place.size=es.size:=by have h:=S.fits;delta SetTable.fits at h;show beq_iff_eq.mp (hU _ _▸h).1
end Sb
namespace Sb
open PySem PyProof.Rows
inductive ql:List (Int×Value)->~~~0->Prop
 |nil:ql [] []
 |cons (n:Int) (t:Tok) {l:List (Int×Value)}{ns: ~~~0}:ql l ns->ql ((hashInt n,.int n t)::l) (n::ns)
abbrev LK(ks: ~~~0):Prop:=ks.Pairwise (· < ·)/\∀k∈ks,0<=k/\k<8
abbrev oneMore(ks: ~~~0)(k:Int): ~~~0:=if k∈ks then ks else Ev.bS (k::ks)
def LK.nd{ks: ~~~0}(h:LK ks):ks.Nodup:=h.1.imp λh=>by lia
def LK.len{ks: ~~~0}(h:LK ks):ks.length<=8:=by
 have:=h.nd.length_le_of_subset (l₂:=(List.range 8).map λ(k:Nat)=>(k:Int)) λx hx=>by
  have:=h.2 x hx;show fR.mpr #[x.toNat,t5.mpr ⋯,by lia]
 simpa using this
def RL{k:Int}(h:0<=k/\k<8):hashInt k=k/\SetTable.bits k=k.toNat:=by
 obtain⟨n,rfl⟩:∃n:Nat,k=n:=#[k.toNat,by lia]
 have hn:n∈List.range 8:=t5.mpr ⋯;have:=i8.mp (show ((List.range 8).all λn=>decide (hashInt (n:Int)=n/\SetTable.bits (n:Int)=n))=true by decide +kernel) n hn
 show mB this
def ql.length{l:List (Int×Value)}{ks: ~~~0}(h:ql l ks):l.length=ks.length:=by
 induction h with
 |nil=>rfl
 |cons n t _ ih=>rw[lL,lL,ih]
def ql.put{x:Int×Value}{k:Int}(hx:ql [x] [k]):∀{l:List (Int×Value)}{ks: ~~~0} (p:Nat),ql l ks->ql (l.take p++x::l.drop p) (ks.take p++k::ks.drop p):=by
 cases hx with
 |cons _ tk _=>
 intro l ks p h
 induction h generalizing p with
 |nil=>rw[List.take_nil,List.drop_nil,List.take_nil,List.drop_nil];show .cons _ _ .nil
 |cons n t h ih=>
  cases p with
  |zero=>show .cons _ _ (.cons n t h)
  |succ p=>show .cons n t (ih p)
def ql.hashes{l:List (Int×Value)}{ks: ~~~0}(h:ql l ks):l.map (·.1)=ks.map hashInt:=by
 induction h with
 |nil=>rfl
 |cons n t _ ih=>rw[List.map_cons,List.map_cons,ih]
structure Ti(ks: ~~~0)(es:Array (Int×Value))(t:SetTable):Prop where
 pl:t.place.toList=ks.map Int.toNat
 dum:t.dummies = ([].toArray)
 ie:ql es.toList ks
def Ti.sz{ks: ~~~0}{es:Array (Int×Value)}{t:SetTable}(T:Ti ks es t):t.place.size=ks.length/\es.size=ks.length:=by have h1:=congrArg List.length T.pl;have h2:=T.ie.length;simp only[eC]at h1 h2;show#[h1,h2]
def Ti.fits{ks: ~~~0}{es:Array (Int×Value)}{t:SetTable}(T:Ti ks es t)(h:ks.length<=t.mask):t.fits es.size=true:=by delta SetTable.fits SetTable.fill;rw[T.sz.1,T.sz.2,T.dum];simp only[hU,beq_self_eq_true,true_and,mM];show h
def Ti.get{ks: ~~~0}{es:Array (Int×Value)}{t:SetTable}(T:Ti ks es t){i:Nat}(h:i<ks.length):t.place.getD i 0=ks[i].toNat:=by
 have e:t.place.getD i 0=t.place.toList.getD i 0:=by simp[List.getD,h,T.sz.1]
 rw[e,T.pl];simp[h]
def Ti.RK{ks: ~~~0}{es:Array (Int×Value)}{t:SetTable}(T:Ti ks es t)(h:LK ks):Yv t.place:=λi k hik hk=>by
 rw[T.sz.1]at hk;rw[T.get ⋯,T.get hk];have h1:=AO.mp h.1 i k ⋯ hk hik;have h2:=h.2 ks[i] (u8 _);lia
def wH{α:Type}(xs:Array α)(p:Nat)(x:α):(SetTable.insertAt xs p x).toList=xs.toList.take p++x::xs.toList.drop p:=by delta SetTable.insertAt;simp[B4]
section
variable{ks: ~~~0}{es:Array (Int×Value)}{t:SetTable}{k:Int}
def O1(T:Ti ks es t)(h:LK ks)(hk:0<=k/\k<8)(hn:k∉ks)(hm:t.mask=7/\ks.length<=4\/t.mask=31)(tk:Tok) :
  ∃es1 t1,layNew t es (hashInt k) (.int k tk)=(es1,t1,false,false)/\Ti (Ev.bS (k::ks)) es1 t1/\t1.mask=t.mask/\t1.plain=t.plain/\t1.led=t.led:=by
 let(h1,h2):=RL hk;have fs:t.freeSlot (hashInt k)=!(k.toNat,false):=by
  have se:t.slot k.toNat=.empty:=zJ (T.RK h) T.dum λi hi e=>by
   rw[T.sz.1]at hi;rw[T.get hi]at e;have:=h.2 ks[i] (u8 _);show hn ((show k=ks[i]by lia)▸u8 _)
  have hj:(t.probeStart k).j=k.toNat:=by exact SetTable.bits k % (t.mask+1)=_;rw[h2];rcases hm with ⟨e,_⟩ |e <;> rw[e] <;> show Nat.mod_eq_of_lt ⋯
  rw[h1];delta SetTable.freeSlot SetTable.probe;rw[show 10 * SetTable.turns t.mask=(10 * SetTable.turns t.mask - 1)+1 by delta SetTable.turns;lia]
  delta SetTable.probe.go;rw[hj,se];rfl
 let(b1,b2,b3):=wG (T.RK h) k.toNat;rw[T.sz.1]at b1 b3;have hput:t.put k.toNat=({ t with place:=SetTable.insertAt t.place (SetTable.below t.place k.toNat) k.toNat},SetTable.below t.place k.toNat):=by delta SetTable.put SetTable.has;rw[T.dum];cases t;rfl
 delta layNew;rw[fs];dsimp only;rw[hput];generalize SetTable.below t.place k.toNat=p at b1 b2 b3;have hks:ks.take p++k::ks.drop p=Ev.bS (k::ks):=by
  apply Ev.fc ?_ ?_
  .
   have:=List.perm_middle (l₁:=ks.take p) (l₂:=ks.drop p) (a:=k)
   rwa [AL]at this
  .
   have hle:=h.1.imp λ{a b} (q:a<b)=>Int.le_of_lt q
   rw[<- AL p ks,List.pairwise_append]at hle;apply List.pairwise_append.mpr #[hle.1,sR.mpr #[λx hx=>?_,hle.2.1],λa ha b hb=>?_]
   . let(i,hi,rfl):=BB hx;rw[List.length_drop]at hi;have:=b3 (p+i) ⋯ ⋯;rw[T.get ⋯]at this;rw[List.getElem_drop];have:=h.2 ks[p+i] (u8 _);lia
   .
    rcases d6.mp hb with rfl |hb
    . let(i,hi,rfl):=BB ha;rw[AA]at hi;have:=b2 i ⋯;rw[T.get ⋯]at this;rw[List.getElem_take];lia
    . show hle.2.2 a ha b hb
 have T1:Ti (Ev.bS (k::ks)) (SetTable.insertAt es p (hashInt k,.int k tk)) { t with place:=SetTable.insertAt t.place p k.toNat}:=by
  rw[<- hks];apply#[?_,T.dum,?_]
  . exact (SetTable.insertAt t.place p k.toNat).toList=_;rw[wH,T.pl,nS,List.map_cons,List.map_take,List.map_drop]
  . rw[wH];show (ql.cons k tk .nil).put p T.ie
 have hl:(Ev.bS (k::ks)).length<=t.mask:=by rw[(Ev.aZ _).length_eq,lL];have:=h.len;rcases hm with ⟨e,_⟩ |e <;> lia
 have hf:=T1.fits hl;apply#[_,_,?_,T1,rfl,rfl,rfl];delta SetTable.orStandIn;rw[hf];rfl
abbrev V1:Nat->Nat->List (~~~0)
 | 0,_=>[[]]
 |n+1,lo=>(List.range 8).flatMap λ(a:Nat)=>if lo<=a then (V1 n (a+1)).map ((a:Int) :: ·)else []
def wI:∀(l: ~~~0) (lo:Nat),l.Pairwise (· < ·)->(∀x∈l,(lo:Int)<=x/\x<8)->l∈V1 l.length lo
 | [],_,_,_=>i3.mpr rfl
 |x::l,lo,h,hx=>by
  have h1:=hx x dA;obtain⟨n,rfl⟩:∃n:Nat,x=n:=#[x.toNat,by lia]
  apply List.mem_flatMap.mpr #[n,t5.mpr ⋯,?_];rw[i5 ⋯];show fR.mpr #[l,wI l (n+1) (sR.mp h).2 λy hy=>by
   have:=(sR.mp h).1 y hy;have:=hx y (bP _ hy);lia,rfl]
def fives:((V1 5 0).all λl=>decide ((SetTable.layClean 31 l.toArray).map (λowner=>(List.range 32).filterMap λj=>(owner.getD j none).map (j,·))=!((l.map Int.toNat).zip [0,1,2,3,4])))=true:=by decide +kernel
def O2(T:Ti ks es t)(h:LK ks)(h5:ks.length=5) :
  ∃t',relayAll t es (SetTable.grown es.size)=(es,t',false)/\Ti ks es t'/\t'.mask=31/\t'.plain=t.plain/\t'.led=t.led:=by
 have hf:=mB (i8.mp fives ks (h5▸wI ks 0 h.1 λx hx=>by have:=h.2 x hx;lia))
 have he:es.map (·.1)=ks.toArray:=by
  apply Array.ext' ?_;rw[Array.toList_map,T.ie.hashes]
  conv=>rhs;rw[<- List.map_id ks]
  show y6 λx hx=>(RL (h.2 x hx)).1
 have hz:=T.sz.2.trans h5;have hm:SetTable.sizeAbove (SetTable.grown 5) - 1=31:=by decide +kernel
 have rl:t.relaid ks.toArray (SetTable.grown 5)=!({ mask:=31,place:=(ks.map Int.toNat).toArray,dummies:=([].toArray),finger:=t.finger,led:=t.led,moves:=t.movedTo 31,plain:=t.plain},([0,1,2,3,4].toArray)):=by
  delta SetTable.relaid;rw[hm];delta SetTable.laid;cases hc:SetTable.layClean 31 ks.toArray with
  |none=>rw[hc]at hf;cases hf
  |some owner=>
   rw[hc]at hf;have hf:((List.range 32).filterMap λj=>(owner.getD j none).map (j,·))=(ks.map Int.toNat).zip [0,1,2,3,4]:=nN hf
   exact some _=!_;rw[hf,List.map_fst_zip (by rw[eC,h5];show eA 5),List.map_snd_zip (by rw[eC,h5];show eA 5)]
 have e2:(([0,1,2,3,4].toArray):Array Nat).filterMap (es[·]?)=es:=by
  obtain⟨_ |⟨a,_ |⟨b,_ |⟨c,_ |⟨d,_ |⟨e,_ |⟨f,l⟩⟩⟩⟩⟩⟩⟩:=es
  all_goals first
   |rfl
   | (simp at hz)
 have T':Ti ks es { mask:=31,place:=(ks.map Int.toNat).toArray,dummies:=([].toArray),finger:=t.finger,led:=t.led,moves:=t.movedTo 31,plain:=t.plain}:=#[rfl,rfl,T.ie];apply#[_,?_,T',rfl,rfl,rfl];delta relayAll;rw[he,hz,rl];dsimp only;rw[e2,show coversAll ([0,1,2,3,4].toArray) 5=true by decide +kernel,<- hz,T'.fits (by rw[h5];show Nat.le_of_ble_eq_true rfl)]
 rfl
end
end Sb
namespace Sb
open PySem PyProof.Rows
section
variable{prog:Program}{w:World}{A:Around}{E:Value->Shared->Prop}{s:Shared}
def ql.ints{l:List (Int×Value)}{ks: ~~~0}(h:ql l ks):IntsAre (l.map (·.2)) ks:=by
 induction h with
 |nil=>show .nil
 |cons n t _ ih=>show .cons n t ih
def ql.perm{l m:List (Int×Value)}(p:l.Perm m):∀{ks: ~~~0},ql m ks->∃js,js.Perm ks/\ql l js:=by
 induction p with
 |nil=>show λh=>#[_,.refl _,h]
 |cons x _ ih=>
  intro ks h;cases h with
  |cons n t h=>let(js,q1,q2):=ih h;show#[_,q1.cons n,.cons n t q2]
 |swap x y l=>
  intro ks h;cases h with
  |cons n t h=>cases h with
   |cons n' t' h=>show#[_,List.Perm.swap ..,.cons n' t' (.cons n t h)]
 |trans _ _ ih1 ih2=>intro ks h;let(js,q1,q2):=ih2 h;let(js',q3,q4):=ih1 q2;show#[js',q3.trans q1,q4]
def ql.elems{l:List (Int×Value)}{ks: ~~~0}(h:ql l ks):ElemsOf (intKind prog w) l:=by
 induction h with
 |nil=>intro e he;cases he
 |cons n t _ ih=>
  intro e he;rcases d6.mp he with rfl |he
  . show#[#[n,by exact Value.isInt n (.int n t)=true;simp[Value.isInt],rfl],rfl]
  . show ih e he
def ql.mem{l:List (Int×Value)}{ks: ~~~0}(h:ql l ks){k:Int}:k∈ks ↔ ∃e∈l,Value.isInt k e.2=true:=by
 induction h with
 |nil=>simp
 |cons n t _ ih=>
  rw[d6,ih];constructor
  .
   rintro (rfl |⟨e,e1,e2⟩)
   . show#[_,dA,by simp[Value.isInt]]
   . show#[e,bP _ e1,e2]
  .
   rintro⟨e,e1,e2⟩;rcases d6.mp e1 with rfl |e1
   . let(t',e3):=Value.isInt_shape e2;injection e3 with e3;show .inl e3.symm
   . show .inr #[e,e1,e2]
abbrev RM(w:World)(ks: ~~~0)(o:Obj):Prop:=∃es ep t,qk o es ep t/\(w.params.followText "set-order"=false->t.led=true)/\LK ks/\Ti ks es t/\(t.mask=7/\ks.length<=4\/t.mask=31)
abbrev uC(w:World)(h:Heap)(a:Addr)(ks: ~~~0):Prop:=∃o,h.get? a=!o/\o.ExactSet/\RM w ks o
def uC.typeIs{a:Addr}{ks: ~~~0}(x:uC w s.heap a ks):s.TypeIs (.ref a) "set" :=by let(o,ho,ex,_):=x;show#[o,ho,ex.1]
def zK{h:Heap}{a:Addr}{led:Bool}(ho:h.get? a=some { cls:=.type "set",dict:=none,data:=.set ([].toArray) 0 (.fresh 0 0 led)})(hw:w.params.followText "set-order"=false->led=true):uC w h a []:=
 #[_,ho,#[rfl,rfl,rfl],([].toArray),0,_,#[#[rfl,rfl,rfl],rfl,rfl,λi k _ hk=>absurd hk (qS _),rfl],hw,#[.nil,λk hk=>nomatch hk],#[rfl,rfl,.nil],.inl #[rfl,wE _]]
def O4{ks: ~~~0}{k:Int}(h:LK ks)(hk:0<=k/\k<8)(hn:k∉ks):LK (Ev.bS (k::ks)):=by
 have p:=Ev.aZ (k::ks);have nd:=p.nodup_iff.mpr (gN.mpr #[hn,h.nd]);apply#[((Ev.bZ _).and nd).imp λ{a b} q=>by have:=q.1;have:=q.2;lia,λx hx=>?_]
 rcases d6.mp (p.mem_iff.mp hx)with rfl |hx
 . show hk
 . show h.2 x hx
def add_int{a:Addr}{k:Int}{tk:Tok}{ks: ~~~0}{Q:Bool->Shared->Prop}(hS:uC w s.heap a ks)(hk8:0<=k/\k<8)
  (q:∀b h',Heap.SameBut a s.heap h'->uC w h' a (oneMore ks k)->Q b { s with heap:=h'}) :
  wpAny (model prog w) A (setAddHashed a (.int k tk) (hashInt k)) Q E s:=by
 have hS0:=hS;let(o,ho,ex,es,ep,t,S,ld,sm,T,hm):=hS;have hsz:=T.sz.2;have hl8:=sm.len;have hel:ElemsOf (intKind prog w) es.toList:=T.ie.elems;have hf:=S.fits;have hd:=S.data;have hkey:(intKind prog w).is k (.int k tk)=true:=by exact Value.isInt k (.int k tk)=true;simp[Value.isInt]
 apply nV (aS (w9 ho hd hf ?_));dsimp only;rw[byScan_of rfl (by delta scanBound;lia) hel]
 apply aS ?_;apply aS (AT ?_);apply aS (wpAny_setScan_of hkey ho hd hf hel ?_);cases hr:List.findIdx? (λe=>(intKind prog w).is k e.2) es.toList with
 |some j=>
  let(hj,hpj,_):=List.findIdx?_eq_some_iff_getElem.mp hr;have hk:=T.ie.mem.mpr #[es.toList[j],u8 hj,hpj];apply dS (dS ?_);have:=q false s.heap (Heap.SameBut.refl a s.heap) (by delta oneMore;rw[i5 hk];show hS0)
  show this
 |none=>
  have hk:k∉ks:=λhk=>by
   let(e,he,hp):=T.ie.mem.mp hk;have:=List.findIdx?_eq_none_iff.mp hr e he;rw[show (intKind prog w).is k e.2=Value.isInt k e.2 from rfl,hp]at this
   show Bool.noConfusion this
  let(es1,t1,eL,T1,hm1,hp1,hl1):=O1 T sm hk8 hk hm tk;have sm1:=O4 sm hk8 hk;have RN:(Ev.bS (k::ks)).length=ks.length+1:=by rw[(Ev.aZ _).length_eq,lL]
  have hs1:=T1.sz.2;rw[S.plain]at hp1;rw[eL];apply aS (dS ?_);rw[i5 hp1];apply aS (dS ?_);simp only[↓reduceIte];have done:∀h' yz t',Heap.SameBut a s.heap h'->h'.get? a=some { o with data:=.set es1 yz t'}->Ti (Ev.bS (k::ks)) es1 t'->t'.plain=true->t'.led=t.led->(t'.mask=7/\(Ev.bS (k::ks)).length<=4\/t'.mask=31)->uC w h' a (oneMore ks k):=λh' yz t' sb hg T' p' l' m'=>by
   delta oneMore;rw[kA hk];show#[_,hg,ex,es1,yz,t',#[ex,rfl,T'.fits (by rw[RN];rcases m' with ⟨e,_⟩ |e <;> lia),T'.RK sm1,p'],λhw=>l'.trans (ld hw),sm1,T',m']
  have hz1:es1.size<=sizeLine:=by delta sizeLine;lia
  apply aS (wpAny_storeSet_of ho hd ?_ hz1);have sC:(s.heap.update a (Obj.putSet es1 t1)).get? a=some { o with data:=.set es1 (ep+1) t1}:=by
   have:=nK (Obj.putSet es1 t1) ho (by rw[putSet_of es1 t1 hd];rfl)
   rw[putSet_of es1 t1 hd]at this;show this
  have sb1:=y7 s.heap a (Obj.putSet es1 t1);have tf:t1.tooFull=decide (t.mask * 3<=(ks.length+1) * 5):=by delta SetTable.tooFull SetTable.fill;rw[T1.sz.1,T1.dum,hm1,RN];rfl
  rw[tf];by_cases RP:t.mask * 3<=(ks.length+1) * 5
  .
   have h4:t.mask=7/\ks.length=4:=by rcases hm with ⟨e,e2⟩ |e <;> lia
   rw[oC RP];let(t',eR,T2,z3,z4,z5):=O2 T1 sm1 ⋯;rw[eR];apply aS (dS ?_);apply aS (wpAny_storeSet_of sC rfl ?_ hz1);have hg2:((s.heap.update a (Obj.putSet es1 t1)).update a (Obj.putSet es1 t')).get? a=some { o with data:=.set es1 (ep+1+1) t'}:=by
    have:=nK (Obj.putSet es1 t') sC (by rw[putSet_of es1 t' rfl];rfl)
    show this
   have sb2:=sb1.trans (y7 _ a (Obj.putSet es1 t'));show dS (dS (q true _ sb2 (done _ _ t' sb2 hg2 T2 (z4.trans hp1) (z5.trans hl1) (.inr z3))))
  .
   rw[tJ RP];apply dS (dS (q true _ sb1 (done _ (ep+1) t1 sb1 sC T1 hp1 hl1 ?_)));rw[hm1];rcases hm with ⟨e,e2⟩ |e
   . show .inl #[e,by lia]
   . show .inr e
def JH{a:Addr}{k:Int}{tk:Tok}{ks: ~~~0}{Q:Value->Shared->Prop}(hS:uC w s.heap a ks)(hk:0<=k/\k<8)
  (q:∀h',Heap.SameBut a s.heap h'->uC w h' a (oneMore ks k)->Q .none { s with heap:=h',toks:=s.toks+1}) :
  wpAny (model prog w) A (call (.builtin "set.add") [.ref a,.int k tk]) Q E s:=by
 apply t7 F.slot_set_add hS.typeIs F.entry_set_add ?_ (F.args_set_add_2 _ _);delta Builtin.«set.add» Builtin.Frozenset.oneOther;simp only[List.isEmpty_nil,bind_assoc];apply aS (dS ?_)
 try dsimp only
 apply aS (dS ?_)
 try dsimp only
 apply aS ?_;apply nV ?_;apply aS (wpAny_pyHash_int ?_);apply add_int hS hk λb h' sb x=>?_
 show dS #[_,rfl,q h' sb x]
end
end Sb
namespace L2
open Sb
section
variable{prog:Program}{w:World}{A:Around}{R:Result->Shared->Prop}{s:Shared}
def jV{aX t1 i1 target iter:Expr}{f1 ifs:List Expr}{scope:Scope}{pos:Pos}{it acc:Value}{env:Env}
  (h0:codeAny (model prog w) A (.compLoop (.SetComp aX [#[t1,i1,f1,0],#[target,iter,ifs,0]] scope pos) 1 it acc env) R s)
  (h:wpAny (model prog w) A (pyIter it) (λit' s'=>codeAny (model prog w) A (.compLoop (.SetComp aX [#[t1,i1,f1,0],#[target,iter,ifs,0]] scope pos) 1 it' acc env) R s') (λ_ _=>False) s) :
  codeAny (model prog w) A (.compStart (.SetComp aX [#[t1,i1,f1,0],#[target,iter,ifs,0]] scope pos) 1 it acc env) R s:=by
 apply codeAny_of_tree ?_;apply wpAny_notedAt ?_;apply aS (yY (wpAny_ite ?_));split
 .
  first
   |show aS (dS (dS (And.intro rfl h0)))
   |show dS (And.intro rfl h0)
 .
  first
   |show aS (AT (aS (u7 (aS (i9 h (λit' s' h'=>dS (And.intro rfl h')) λ_ _ x=>x.elim)))))
   | (apply aS (AT ?_);exact wpAny _ _ (standAt iter.pos >>= _) _ _ s;show aS (u7 (aS (i9 h (λit' s' h'=>dS (And.intro rfl h')) λ_ _ x=>x.elim))))
def jE{aX t1 i1:Expr}{f1:List Expr}{rest:List Comprehension}{scope:Scope}{pos:Pos}{it acc:Value}{env:Env}
  (h0:codeAny (model prog w) A (.compLoop (.SetComp aX (#[t1,i1,f1,0]::rest) scope pos) 0 it acc env) R s)
  (h:wpAny (model prog w) A (pyIter it) (λit' s'=>codeAny (model prog w) A (.compLoop (.SetComp aX (#[t1,i1,f1,0]::rest) scope pos) 0 it' acc env) R s') (notedBy (model prog w) A env λx s'=>R (.error x) s') s) :
  codeAny (model prog w) A (.compStart (.SetComp aX (#[t1,i1,f1,0]::rest) scope pos) 0 it acc env) R s:=by
 apply codeAny_of_tree ?_;apply wpAny_notedAt ?_;apply aS (yY (wpAny_ite ?_));split
 .
  first
   |show aS (dS (dS (And.intro rfl h0)))
   |show dS (And.intro rfl h0)
 .
  first
   |show aS (AT (aS (u7 (aS (i9 h (λit' s' h'=>dS (And.intro rfl h')) λ_ _ x=>x)))))
   | (apply aS (AT ?_);exact wpAny _ _ (standAt i1.pos >>= _) _ _ s;show aS (u7 (aS (i9 h (λit' s' h'=>dS (And.intro rfl h')) λ_ _ x=>x))))
end
meta abbrev fG (w:World) (ks: ~~~0):HO:=.set (RM w ks)
meta abbrev RQ (aX:Expr) (acc:Value) (env:Env):Sem Unit:=do
 let v <- eval aX env
 standAt aX.pos
 let _ <- call (.builtin "set.add") [acc,v]
abbrev O5(w:World)(D:Addr)(te:TE):TU:=λσ H Q=>te σ H λv H5=>∃n ks,v=.int n/\H5 D=!(fG w ks)/\(0<=n/\n<8)/\Q σ (upd H5 D (fG w (oneMore ks n)))
def V2{X:Cx}{D:Addr}{aX:Expr}{te:TE}(he:PE X aX te)(hx:X.xe=λ_ _=>False):PU X (RQ aX (.ref D) X.env) (O5 X.w D te):=by
 intro aj s σ H Q I h;have he:=he aj s σ H _ I h;rw[hx]at he;apply aS (i9 he (?_) λ_ _ z=>z)
 rintro y s8 ⟨v,H8,I8,r8,n,ks,rfl,hD8,hz8,q8⟩;let(t,rfl):=r8;have hO:=I8.hok D _ hD8;apply aS (u7 (aS (JH hO hz8 λh' sb x=>dS #[σ,_,I8.write (o:=fG X.w (oneMore ks n)) (by rw[hD8];trivial) (.inl rfl) (λb u hb e=>(sb.2 b hb).trans e) ?_ x,q8])))
 let(o,e,_):=x;show#[o,e]
def Ew{aX t1 i1 tg iter:Expr}{f1 ifs:List Expr}{scope:Scope}{pos:Pos}{it acc:Value}{env:Env}:compTurn (.SetComp aX [#[t1,i1,f1,0],#[tg,iter,ifs,0]] scope pos) 0 it acc env=jR (.SetComp aX [#[t1,i1,f1,0],#[tg,iter,ifs,0]] scope pos) t1 i1 f1 0 it acc env (Dn (.SetComp aX [#[t1,i1,f1,0],#[tg,iter,ifs,0]] scope pos) iter acc env):=by
 exact (standAt i1.pos >>= λ_=>pyNext it >>= λr=>_)=(standAt i1.pos >>= λ_=>pyNext it >>= λr=>_)
 congr 1;funext _;congr 1;funext r
 cases r with
 |none=>rfl
 |some v=>
  exact (letOwnedTupleGo t1 it v >>= λ_=>assign t1 env v >>= λ_=>_ >>= λok=>_)=(letOwnedTupleGo t1 it v >>= λ_=>assign t1 env v >>= λ_=>_ >>= λok=>_)
  congr 1;funext _;congr 1;funext _;congr 1;funext ok
  cases ok with
  |false=>rfl
  |true=>delta Dn;simp only[bind_assoc];rfl
def Ey{aX t1 i1 tg iter:Expr}{f1 ifs:List Expr}{scope:Scope}{pos:Pos}{it acc:Value}{env:Env}:compTurn (.SetComp aX [#[t1,i1,f1,0],#[tg,iter,ifs,0]] scope pos) 1 it acc env=jR (.SetComp aX [#[t1,i1,f1,0],#[tg,iter,ifs,0]] scope pos) tg iter ifs 1 it acc env (RQ aX acc env):=by
 congr 1
def O6{prog:Program}{w:World}{A:Around}{E Q:Value->Shared->Prop}{s:Shared}
  (h:Q (.ref s⁻¹) { s with heap:=s.heap.push { cls:=.type "set",dict:=none,data:=.set ([].toArray) 0 (.fresh 0 0 ((not (w.params.followText "set-order"))))}}):wpAny (model prog w) A (newSet (.type "set")) Q E s:=by
 apply aS (aS (yY (dS ?_)));show aS (wpAny_alloc (dS h))
section
variable{X:Cx}{t1 i1 tg iter aX:Expr}{f1 ifs:List Expr}{scope:Scope}{pos:Pos}
def V3:Ck X (.SetComp aX [#[t1,i1,f1,0],#[tg,iter,ifs,0]] scope pos) t1 i1 f1 [#[tg,iter,ifs,0]] (newSet (.type "set")) (fG X.w []) (Dn (.SetComp aX [#[t1,i1,f1,0],#[tg,iter,ifs,0]] scope pos) iter) where
 cls:=rfl
 und:=λ_ _ _ _ _ _ _=>#[rfl,rfl]
 turn:=λit D env=>Ew
 new:=#[_,rfl,λh=>O6 h,λ_ _ _ e _=>zK e λhw=>by rw[hw];rfl]
 start:=jE
def Ez{N':List Str}{k:Nat}{w1:TI}{w2:Bk->TI}{g1 g2:Bk->TG}{Rp Rq:Bk->TT}{te:Bk->TE}(B:aJ X.env.scope scope)(hc:X.calm=true)(hN:Names X.N N' scope k)(hi:PI X t1 i1 w1)
  (hin:∀b:Bk,(PG (X.blk N' scope b) t1 (g1 b)/\jQ (X.blk N' scope b) f1 (Rp b))/\PI (X.blk N' scope b) tg iter (w2 b)/\PG (X.blk N' scope b) tg (g2 b)/\jQ (X.blk N' scope b) ifs (Rq b)/\PE (X.blk N' scope b) aX (te b))
  (hs:∀x,foldedSetIterable i1 X.env x=pure x) (hs2:∀(b:Bk) x,foldedSetIterable iter (X.blk N' scope b).env x=pure x) :
  PE X (.SetComp aX [#[t1,i1,f1,0],#[tg,iter,ifs,0]] scope pos) (uh (fG X.w []) X k w1 g1 Rp λD b=>Ro (w2 b) (g2 b) (Rq b) (O5 X.w D (te b))):=by
 intro aj s σ H Q I h;apply fZ B hc hN hi V3 (λb D=>#[(hin b).1.1,(hin b).1.2,G8 hc rfl (λ_ _ _ _ _ _ _=>#[rfl,rfl]) (λ_=>Ey) jV (hin b).2.1 (hin b).2.2.1 (hin b).2.2.2.1 (V2 (hin b).2.2.2.2 rfl) (hs2 b)]) hs I h λs' H' D C m I' f' hn q=>?_
 apply#[m,hn,λh' sb=>#[.ref D,H',?_,rfl,q]]
 let(f0,f1,f2,f3,f4,f5):=f';show I'.turned (λb o hb e=>(sb.2 b hb).trans e) f0 f1 f3 f4 f5
end
end L2
namespace Sb
open PySem
def BJ{α:Type}:∀(l:List α) (i:Nat) (h:i<l.length),(l[i]::l.eraseIdx i).Perm l
 | [],_,h=>absurd h (qS _)
 |a::l,0,_=>.refl _
 |a::l,i+1,h=>by
  have h':i<l.length:=by simpa using h
  have:((a::l)[i+1]::(a::l).eraseIdx (i+1))=l[i]::a::l.eraseIdx i:=rfl;show (List.Perm.swap a l[i] _).trans (.cons a (BJ l i h'))
def BK{α:Type}(next:Nat->Nat):∀(n k:Nat) (l:List α) (out:Array α),l.length=n->(pickOrder.go next n k l out).toList.Perm (out.toList++l)
 | 0,k,l,out,h=>by
  cases l with
  |nil=>simp[pickOrder.go]
  |cons _ _=>simp at h
 |n+1,k,l,out,h=>by
  have hl:next k % l.length<l.length:=Nat.mod_lt _ ⋯;delta pickOrder.go;rw[i4 hl];apply (BK next n (k+1) _ _ (by rw[List.length_eraseIdx_of_lt hl];lia)).trans ?_
  rw[Array.toList_push,AG];apply List.Perm.append_left _ ?_;show BJ _ _ hl
def EY{α:Type}(next:Nat->Nat)(xs:Array α):(pickOrder next xs).toList.Perm xs.toList:=by have:=BK next xs.size 0 xs.toList ([].toArray) ⋯;simpa [pickOrder]using this
section
variable{prog:Program}{w:World}{A:Around}{E:Value->Shared->Prop}{s:Shared}
abbrev fy(t:SetTable):Nat->Nat
 | 0=>0
 |i+1=>t.place.getD i 0+1
def below_at{t:SetTable}(r:Yv t.place){n:Nat}(hz:t.place.size=n){i:Nat}(hi:i<=n):SetTable.below t.place (fy t i)=i:=by
 let(b1,b2,b3):=wG r (fy t i);rcases Nat.lt_trichotomy (SetTable.below t.place (fy t i)) i with h |h |h
 .
  cases i with
  |zero=>lia
  |succ m=>have:=b3 m ⋯ ⋯;simp only[fy]at this;lia
 . show h
 .
  have:=b2 i h;cases i with
  |zero=>simp only[fy]at this;lia
  |succ m=>have r:=r m (m+1) ⋯ ⋯;simp only[fy]at this;lia
def O7(a:Addr)(slot given ep0:Nat):setNext a slot given ep0=(do
  let (es,epoch,t) <- setState a
  if <- setsByText then
   if epoch != ep0 then unsupported "set_iterator.__next__:elements-changed"
   return ((<- setWalk a)[given]?).map λe=>(e.2,slot)
  if (not t.plain)&&es.size > 1 then unsupported "set_iterator.__next__:the-table-is-plain-no-more"
  (do if (not t.led)&&(not es.isEmpty) then unsupported "set:maker-not-led":Sem Unit)
  let i:=SetTable.below t.place slot
  return match es[i]?,t.place[i]? with
   |!(_,x),!j=>!(x,j+1)
   |_,_=>none):=rfl
def JK(hw:w.params.followText "set-order"=false)
  (ho:s.heap.get? a=!o) (S:qk o es ep t) (ld:t.led=true) (hi:i<=es.size) (q:Q (es[i]?.map λe=>(e.2,fy t (i+1))) s):wpAny (model prog w) A (setNext a (fy t i) g ep0) Q E s:=by
 rw[O7];apply aS (w9 ho S.data S.fits ?_);apply aS (aS (yY (dS ?_)));dsimp only[model];rw[hw,S.plain,ld];rw[below_at S.RK S.sz hi];have e:(match es[i]?,t.place[i]? with
   |!(_,x),!j=>!(x,j+1)
   |_,_=>none)=es[i]?.map λe=>(e.2,fy t (i+1)):=by
  by_cases h:i<es.size
  .
   have h2:i<t.place.size:=by rw[S.sz];show h
   rw[y8 h];simp[fy,h2]
  . rw[Array.getElem?_eq_none ⋯];rfl
 first
  |show aS (dS (dS (by rw[e];show q)))
  |show dS (by rw[e];show q)
def Fb(hw:w.params.followText "set-order"=true)
  (ho:s.heap.get? a=!o) (S:qk o es ep t) (q:Q ((pickOrder (w.params.setOrder a ep) es)[g]?.map λe=>(e.2,i)) s):wpAny (model prog w) A (setNext a i g ep) Q E s:=by
 apply aS (w9 ho S.data S.fits ?_);apply aS (aS (yY (dS ?_)));dsimp only[model];rw[hw];simp only[bne_self_eq_false];apply aS (aS (w9 ho S.data S.fits ?_));apply aS (aS (yY (dS ?_)));rw[hw];show aS (yY (dS (dS q)))
end
end Sb
namespace Sb
open PySem
def JL:Manifest.owners.lookup (String.ofList ['r','o','t','a','r','e','t','i','_','t','e','s'].reverse)=!Manifest.sig_set_iterator:=by kernel_rfl
def cg:Slot "set_iterator" "__next__" "set_iterator.__next__" :=
 .of (owner:= "set_iterator") (n:= "__next__") (by rw[typeLookup_type];kernel_rfl) (by decide +kernel) (by decide +kernel) (by decide +kernel)
  (by first |show .inl (by decide +kernel) |show .inr (by decide +kernel)) (by rw[isSubtype_type];kernel_rfl)
def jI:entryFor table "set_iterator.__next__"=some Builtin.«set_iterator.__next__»:=entryFor_of_tree (by kernel_rfl)
def kZ(a:Value):argsOk "set_iterator.__next__" #[[a],[]]:=by delta argsOk;rw[signature?_of (n:=['_','_','t','x','e','n','_','_']) (by kernel_rfl) JL];kernel_rfl
def lg:Slot "set_iterator" "__iter__" "set_iterator.__iter__" :=
 .of (owner:= "set_iterator") (n:= "__iter__") (by rw[typeLookup_type];kernel_rfl) (by decide +kernel) (by decide +kernel) (by decide +kernel)
  (by first |show .inl (by decide +kernel) |show .inr (by decide +kernel)) (by rw[isSubtype_type];kernel_rfl)
def rG:entryFor table "set_iterator.__iter__"=some Builtin.«dict_keyiterator.__iter__»:=
 entryFor_alias (id':= "dict_keyiterator.__iter__") (by kernel_rfl) (by first |rfl |decide +kernel | (delta String.splitOn;simp +decide [String.splitOnAux])) (by decide +kernel) (by kernel_rfl)
def uD(a:Value):argsOk "set_iterator.__iter__" #[[a],[]]:=by delta argsOk;rw[signature?_of (n:=['_','_','r','e','t','i','_','_']) (by kernel_rfl) JL];kernel_rfl
def qm:entryFor table "set.__iter__"=some Builtin.«frozenset.__iter__»:=
 entryFor_alias (id':= "frozenset.__iter__") (by kernel_rfl) (by first |rfl |decide +kernel | (delta String.splitOn;simp +decide [String.splitOnAux])) (by decide +kernel) (by kernel_rfl)
section
variable{prog:Program}{w:World}{A:Around}{E:Value->Shared->Prop}{s:Shared}
abbrev zL(h:Heap)(I a:Addr)(sl i n ep:Nat):Prop:=
 ∃o,h.get? I=!o/\o.cls=.type "set_iterator" /\o.data=.fields ([.int sl 0,.int i 0,.ref a,.int n 0,.int ep 0].toArray)
def zL.typeIs(x:zL s.heap I a sl i n ep):s.TypeIs (.ref I) "set_iterator" :=let #[o,ho,hc,_]:=x;#[o,ho,hc]
abbrev fz(w:World)(a:Addr)(ep:Nat)(es:Array (Int×Value)):Array (Int×Value):=if w.params.followText "set-order"=true then pickOrder (w.params.setOrder a ep) es else es
abbrev iR(w:World)(t:SetTable)(i:Nat):Nat:=if w.params.followText "set-order"=true then 0 else fy t i
def qo(w:World)(a:Addr)(ep:Nat)(es:Array (Int×Value)):(fz w a ep es).toList.Perm es.toList:=by
 delta fz;split
 . show EY _ _
 . show .refl _
def fB(w:World)(a:Addr)(ep:Nat)(es:Array (Int×Value)):(fz w a ep es).size=es.size:=by have:=(qo w a ep es).length_eq;simpa using this
def qq
  (ho:s.heap.get? a=!o) (S:qk o es ep t) (ld:w.params.followText "set-order"=false->t.led=true) (hi:i<=es.size) (q:Q ((fz w a ep es)[i]?.map λe=>(e.2,iR w t (i+1))) s):wpAny (model prog w) A (setNext a (iR w t i) i ep) Q E s:=by
 delta fz iR at *;cases hw:w.params.followText "set-order" with
 |true=>rw[hw]at q;show Fb hw ho S q
 |false=>rw[hw]at q;show JK hw ho S (ld hw) hi q
def next_item(hit:zL s.heap I a (iR w t i) i es.size ep)
  (hoa:s.heap.get? a=!o) (S:qk o es ep t) (ld:w.params.followText "set-order"=false->t.led=true) (hx:(fz w a ep es)[i]?=!e)
  (hQ:∀h',zL h' I a (iR w t (i+1)) (i+1) es.size ep->Heap.SameBut I s.heap h'->Q (!e.2) { s with heap:=h'}) :
  wpAny (model prog w) A (pyNext (.ref I)) Q E s:=by
 let(oi,Yw,hc,hd):=id hit;have n9:i<es.size:=by rw[<- fB w a ep es];show (t8.mp hx).1
 apply aS (BS (yB hit.typeIs cg
  (t7 cg hit.typeIs jI ?_ (kZ _))))
 apply aS (dS ?_);apply aS (wpAny_fieldsOf Yw hd ?_);apply aS (aS (w9 hoa S.data S.fits (dS ?_)));rw[kA ⋯];simp only[AU];apply aS (qq hoa S ld (BC n9) ?_);rw[hx];apply aS (AF Yw hd ⋯ ?_);have yU:=nK (Obj.mapFields (·.setIfInBounds 0 (rawInt (iR w t (i+1):Nat)))) Yw (wT (pE hd _));have hd1:=pE hd (·.setIfInBounds 0 (rawInt (iR w t (i+1):Nat)));apply aS (AF yU hd1 ⋯ (dS #[_,rfl,dS (hQ _ ?_ ((y7 ..).trans (y7 ..)))]));show#[_,nK _ yU (wT (pE hd1 _)),(B9 ..).trans ((B9 ..).trans hc),by
  rw[pE hd1];simp[rawInt]]
def next_end(hh:A.handled=none)(hit:zL s.heap I a (iR w t es.size) es.size es.size ep)
  (hoa:s.heap.get? a=!o) (S:qk o es ep t) (ld:w.params.followText "set-order"=false->t.led=true)
  (hQ:∀h',Heap.ExtBut I s.heap h'->Q none { s with heap:=h'}) :
  wpAny (model prog w) A (pyNext (.ref I)) Q E s:=by
 let(oi,Yw,hc,hd):=id hit;have hx:(fz w a ep es)[es.size]?=none:=by rw[<- fB w a ep es];simp
 apply aS (BS (yB hit.typeIs cg
  (t7 cg hit.typeIs jI ?_ (kZ _))))
 apply aS (dS ?_);apply aS (wpAny_fieldsOf Yw hd ?_);apply aS (aS (w9 hoa S.data S.fits (dS ?_)));rw[kA ⋯];simp only[AU];apply aS (qq hoa S ld (eA _) ?_);rw[hx];apply aS (AF Yw hd ⋯ ?_);apply aS ?_;apply aS (y0 ?_ (by size_fits))
 apply aS (wpAny_of_eq (by first |rfl | (simp only[firstArgMember];rfl)) ?_)
 apply y0 ?_ (by size_fits)
 apply aS (wpAny_handled ?_)
 first |rw[show A.in1.handled=none from hh] |rw[hh]
 apply aS (dS (wpAny_throw ?_));apply aS (wpAny_isInstance #[_,fN _ rfl,rfl] isSubtype_stop ?_);show dS (hQ _ (((y7 ..).extBut.push _).push _))
def Fc(hit:zL s.heap I a sl i n ep)(h:Q (.ref I) s):wpAny (model prog w) A (pyIter (.ref I)) Q E s:=by apply wpAny_pyIter_slot hit.typeIs lg (t7 lg hit.typeIs rG ?_ (uD _));show dS #[_,rfl, "set_iterator",_,hit.typeIs,cg.lookup,h]
def Fd{o:Obj}{es:Array (Int×Value)}{ep:Nat}{t:SetTable}(hh:A.handled=none)(I a:Addr)(lI:a≠I)(S:qk o es ep t)(ld:w.params.followText "set-order"=false->t.led=true) :
  Walks prog w A I [I,a] [I] es.size (λi v=>∃e,(fz w a ep es)[i]?=!e/\e.2=v) (λi h=>zL h I a (iR w t i) i es.size ep/\h.get? a=!o) where
 sub:=λb hb=>by simp at hb;simp[hb]
 frame:=λ_ _ _ st hk=>#[let #[o,ho,r]:=st.1;#[o,hk I ⋯ o ho,r],hk a ⋯ _ st.2]
 item:=λi s Q E hi st hQ=>by
  have hi':i<(fz w a ep es).size:=by rw[fB];show hi
  apply next_item st.1 st.2 S ld (y8 hi') λh' Vp hs'=>?_
  show hQ _ h' s.toks #[_,y8 hi',rfl] #[Vp,hs'.extBut a o lI st.2] λb o hb e=>hs'.extBut b o (λh=>hb (by simp[h])) e
 done:=λs Q E st hQ=>next_end hh st.1 st.2 S ld λh' he'=>hQ h' s.toks λb o hb e=>he' b o (λh=>hb (by simp[h])) e
 self:=λ_ _ _ _ st hQ=>Fc st.1 hQ
def JM(a:Addr):setDrawn a=(do
  let (es,_,t) <- setState a
  let V4 <- setsByText
  return (not V4)&&((not t.plain)&&es.size > 1)):=rfl
def JN{a:Addr}{o:Obj}{es:Array (Int×Value)}{ep:Nat}{t:SetTable}{Q:Value->Shared->Prop}(ho:s.heap.get? a=!o)(S:qk o es ep t)
  (hQ:Q (.ref s⁻¹) { s with heap:=s.heap.push { cls:=.type "set_iterator",data:=.fields ([.int 0 0,.int 0 0,.ref a,.int es.size 0,.int ep 0].toArray)}}) :
  wpAny (model prog w) A (pyIter (.ref a)) Q E s:=by
 have hT:s.TypeIs (.ref a) "set" :=#[_,ho,S.ex.1];apply wpAny_pyIter_slot hT F.slot_set_iter (t7 F.slot_set_iter hT qm ?_ (F.args_set_iter_1 _));apply aS (dS ?_);rw[JM];apply aS (aS (aS (w9 ho S.data S.fits (dS (dS ?_)))));apply aS (aS (w9 ho S.data S.fits (aS (aS (yY (dS (dS ?_)))))));rw[S.plain];simp only[Bool.not_true,Bool.false_and,Cf];apply aS (dS ?_);apply aS (aS (w9 ho S.data S.fits (dS ?_)));apply aS (y0 (dS #[_,rfl, "set_iterator",_,#[_,fN _ rfl,rfl],cg.lookup,?_]));show hQ
end
end Sb
namespace Sb
open PySem PySem.W PyProof.Rows
section
variable{prog:Program}{w:World}{A:Around}{E:Value->Shared->Prop}{s:Shared}
def JQ(hT:s.TypeIs (.ref a) "set")(h:Q false s):wpAny (model prog w) A (Builtin.List.listLengthHint (.ref a)) Q E s:=by
 apply aS (wpAny_specialOf hT F.slot_set_len.lookup ?_);have e:splitId "set.__len__"=!("set", "__len__"):=by decide +kernel
 dsimp only;rw[e];apply aS (wpAny_isInstance hT sub_set_self ?_);simp only[Bool.not_true,Bool.false_eq_true,↓reduceIte];show aS (wpAny_typeOf hT (dS h))
def wJ{a:Addr}{o:Obj}{es:Array (Int×Value)}{ep:Nat}{t:SetTable}{Q:List Value->Shared->Prop}(hh:A.in1.handled=none)(ho:s.heap.get? a=!o)(S:qk o es ep t)(ld:w.params.followText "set-order"=false->t.led=true)(hn:es.size<=sizeLine)
  (hQ:∀s',Moved [] (λa b=>b=a) s s'->Q ((fz w a ep es).toList.map (·.2)) s'):wpAny (model prog w) A (collect (.ref a)) Q E s:=by
 have n9:=fA ho;have hSa:=AC n9;apply aS (wpAny_runValue (codeAny_builtin F.entry_proto_collect ?_));apply aS (y0 ?_);apply dS #[plainId_quiet F.plain_list_iadd _,codeAny_builtin F.entry_list_iadd ?_];have yU:(s.heap.push { cls:=.type "list",data:=.seq ([]:List Value).toArray}).get? a=!o:=dE _ ho;exact wpAny _ A.in1 (Builtin.List.listExtendWith (.ref s⁻¹) (.ref a) (.ref s⁻¹)) _ _ _;apply aS (wpAny_typeOf #[_,yU,S.ex.1] ?_);have h1:Builtin.List.listSameRef (.ref s⁻¹) (.ref a)=false:=by simp[Builtin.List.listSameRef,hSa]
 have h2:(Value.type "set" == Value.type "list")=false:=by decide
 have h3:(Value.type "set" == Value.type "tuple")=false:=by decide
 simp only[h1];apply aS (JN yU S ?_);have hz:(s.heap.push { cls:=.type "list",data:=.seq ([]:List Value).toArray}).objs.size=s⁻¹+1:=AD ..;rw[hz];apply aS (nV ?_);apply JQ #[_,dE _ yU,S.ex.1] ?_;apply aS (AT ?_);generalize hH:((s.heap.push { cls:=.type "list",data:=.seq ([]:List Value).toArray}).push { cls:=.type "set_iterator",data:=.fields ([.int 0 0,.int 0 0,.ref a,.int es.size 0,.int ep 0].toArray)})=h0;have hS₁:h0.get? s⁻¹=some { cls:=.type "list",data:=.seq ([]:List Value).toArray}:=by rw[<- hH];show dE _ (fN _ rfl)
 have hI₁:h0.get? (s⁻¹+1)=some { cls:=.type "set_iterator",data:=.fields ([.int 0 0,.int 0 0,.ref a,.int es.size 0,.int ep 0].toArray)}:=by rw[<- hH,<- hz];show fN _ rfl
 have old:∀b o,s.heap.get? b=!o->h0.get? b=!o:=λb o e=>by
  rw[<- hH];show dE _ (dE _ e)
 apply aS ?_;apply aS (wpAny_updateSeq hS₁ rfl ?_);have hS₂:=nK (Obj.mapSeq (·.push Value.none)) hS₁ rfl;apply wpAny_updateSeq hS₂ rfl ?_;have hS₃:=nK (Obj.mapSeq (·.pop)) hS₂ rfl;have Fe:∀b o,b≠s⁻¹->h0.get? b=!o->
   ((h0.update s⁻¹ (Obj.mapSeq (·.push Value.none))).update s⁻¹ (Obj.mapSeq (·.pop))).get? b=!o:=
  λb o hb e=>(lS _ _ (sT hb)).trans ((lS _ _ (sT hb)).trans e)
 have W:=(Fd (prog:=prog) hh (s⁻¹+1) a ⋯ S ld).toS;have Vy:iR w t 0=0:=by delta iR;split <;> rfl
 apply dS #[plainId_quiet F.plain_extend_loop _,codeAny_extend_loopS W hn _ (by simp;lia) _ es.size 0 _ _ _ rfl (wE _) #[#[_,Fe _ _ ⋯ hI₁,rfl,by rw[Vy];rfl],Fe _ _ ⋯ (old _ _ ho)] hS₃ (ItemsOf.nil _) λs' acc' c' hm hS' hacc=>?_]
 apply aS (wpAny_load hS' ?_);have e:acc'.toList=(fz w a ep es).toList.map (·.2):=by
  let(z1,z2):=hacc;refine List.ext_getElem?;intro i;by_cases hi:i<acc'.size
  . let(e,e1,e2):=z2 i acc'[i] (y8 hi);rw[AK,y8 hi,nE,AK,e1,<- e2];rfl
  . rw[Ap (by simpa using hi),Ap (by rw[eC,oD,fB];lia)]
 apply dS ?_;rw[e];apply hQ s' #[λb o _ eb=>hm.heap b o ?_ (Fe b o ?_ (old b o eb)),hm.gens,hm.drawn,hm.os,hm.toks]
 . have:=fA eb;simp only[d6,not_or];show#[by lia,by lia]
 . have:=fA eb;lia
def Fg{v:Value}{vs:List Value}{R:Shared->Prop}{Q:Value->Shared->Prop}(hz:vs.length<=sizeLine)(go:wpAny (model prog w) A.in1 (collect v) (λvs' s'=>vs'=vs/\R s') E s)
  (h:∀s',R s'->wpAny (model prog w) A.in1.in1 (Builtin.«list.sort» #[[.ref s'⁻¹],[]]) (λf s''=>f=.done (.ret .none)/\Q (.ref s'⁻¹) s'') E { s' with heap:=s'.heap.push (seqObj "list" vs.toArray 0)}) :
  wpAny (model prog w) A (call (.builtin "sorted") [v]) Q E s:=by
 apply Calls.call_function_entry kind_sorted plain_sorted entry_sorted (args_sorted1 _) ?_;apply aS (dS (aS (i9 go ?_ λ_ _ z=>z)))
 rintro _ s' ⟨rfl,hr⟩;apply aS (wpAny_newList ?_ hz);apply aS (nV (t7 slot_list_sort #[_,fN _ rfl,rfl] entry_list_sort (i9 (h s' hr) (λf s'' hf=>#[_,hf.1,?_]) λ_ _ z=>z) (args_list_sort _)))
 show dS #[_,rfl,hf.2]
end
end Sb
namespace Sb
open PySem PySem.W PyProof.Rows Ev
section
variable{prog:Program}{w:World}{A:Around}{E:Value->Shared->Prop}{s:Shared}
def wK{a:Addr}{ks: ~~~0}{Q:Value->Shared->Prop}(hh:A.in1.in1.handled=none)(hS:uC w s.heap a ks)
  (q:∀(ep:Nat) (out:Array Value) s1 s',Moved [] (λa b=>b=a) s s1->Moved [] (λa b=>b=a) s1 s'->s'.heap.get? s1⁻¹=!(seqObj "list" out ep)->IntsAre out.toList ks->Q (.ref s1⁻¹) s') :
  wpAny (model prog w) A (call (.builtin "sorted") [.ref a]) Q E s:=by
 let(o,ho,_,es,ep,t,S,ld,sm,T,hm):=hS;let(js,jp,je):=ql.perm (qo w a ep es) T.ie;have hI:=je.ints;have h8:=sm.len;have hes:=T.sz.2;have aL:((fz w a ep es).toList.map (·.2)).length=ks.length:=by rw[eC,oD,fB,hes]
 have hz:((fz w a ep es).toList.map (·.2)).length<=sizeLine:=by rw[oS,aL];lia
 apply Fg (vs:=(fz w a ep es).toList.map (·.2)) (R:=λs'=>Moved [] (λa b=>b=a) s s') hz (wJ hh ho S ld (by rw[hes,oS];lia) λs' hmv=>#[rfl,hmv]) λs' hmv=>?_
 generalize (fz w a ep es).toList.map (·.2)=vs at hI aL hz ⊢
 apply list_sort_tree (fN _ rfl) hI ⋯ λout ns' a1 a2 a3=>#[rfl,?_]
 let(yz,he):=sortedHeap_at (h:=s'.heap.push (seqObj "list" vs.toArray 0)) (a:=s'⁻¹) (vs:=vs) (n:=0) (out:=out) (fN _ rfl);have e:=(a2.trans jp).eq_of_pairwise (λx y _ _ h1 h2=>Int.le_antisymm h1 h2) a3 (sm.1.imp λh=>by lia)
 subst e;apply q yz out s' _ hmv #[λb o _ hb=>?_,rfl,rfl,rfl,eA _] he a1
 have n9:=fA hb;rw[sortedHeap_old (kS n9) (by rw[AD];lia)]
 show dE _ hb
end
end Sb
namespace Ev
open L2 Sb
abbrev zS(z:Z)(w:World)(D:Addr)(ks: ~~~0):Z:={ z with H0:=upd z.H0 D (fG w ks),M0:=D::z.M0}
section
variable{z:Z}{w:World}{D:Addr}{ks ks': ~~~0}{g:G}{σ:Sg}{As M:List Addr}{H:Hp}
structure Gm(z:Z)(D:Addr):Prop where
 h0:z.H0 D=none
 m0:∀m∈z.M0,z.H0 m≠none
 bm:∀b∈z.B,b∈z.M0
 tm:∀p∈z.T,p.1∈z.M0
def Gm.of(s:S z g σ As M H)(h:H D=none):Gm z D:=#[s.bO h,s.m0,s.bm,s.tm]
def Gm.nB(d:Gm z D):D∉z.B:=λh=>d.m0 _ (d.bm _ h) d.h0
def Gm.nT(d:Gm z D):D∉z.TA:=λh=>by
 let(p,hp,rfl):=fR.mp h;show d.m0 _ (d.tm _ hp) d.h0
def S.toZ(s:S z g σ As M H)(d:Gm z D)(hm:D∈M)(h:H D=!(fG w ks)):S (zS z w D ks) g σ As M H where
 sl:=s.sl
 nd:=s.nd
 sub:=s.sub
 own:=λi a l e1 e2=>by
  rcases s.own i a l e1 e2 with q |q
  . show .inl q
  .
   let(a',xs,f1,_,f3,_):=s.sl.at e1;rw[e2]at f1;injection f1 with f1;injection f1 with f1;injection f1 with f1;subst f1;apply .inr ?_;exact upd z.H0 D (fG w ks) a=none;rw[az (λe=>by rw[e,h]at f3;cases f3)]
   show q
 live:=s.live
 keep:=λb o e hb ht=>by
  by_cases eb:b=D
  . subst eb;have e:upd z.H0 b (fG w ks) b=!o:=e;rw[aA]at e;rw[h,e]
  . have e:upd z.H0 D (fG w ks) b=!o:=e;rw[az eb]at e;show s.keep b o e hb ht
 fF:=λm hm'=>by
  rcases d6.mp hm' with rfl |hm'
  . show hm
  . show s.fF m hm'
 m0:=λm hm'=>by
  exact upd z.H0 D (fG w ks) m≠none;by_cases eb:m=D
  . subst eb;rw[aA];show λe=>nomatch e
  .
   rw[az eb];rcases d6.mp hm' with e |hm'
   . show absurd e eb
   . show s.m0 m hm'
 bm:=λb hb=>bP _ (s.bm b hb)
 fK:=s.fK
 tab:=s.tab
 tm:=λp hp=>bP _ (s.tm p hp)
 tt:=s.tt
def S.ofZ(s:S (zS z w D ks) g σ As M H)(d:Gm z D):S z g σ As M H where
 sl:=s.sl
 nd:=s.nd
 sub:=s.sub
 own:=λi a l e1 e2=>by
  rcases s.own i a l e1 e2 with q |q
  . show .inl q
  .
   have q:upd z.H0 D (fG w ks) a=none:=q;by_cases eb:a=D
   . subst eb;rw[aA]at q;cases q
   . rw[az eb]at q;show .inr q
 live:=s.live
 keep:=λb o e hb ht=>s.keep b o (by
  exact upd z.H0 D (fG w ks) b=!o;rw[az (λeb=>by rw[eb,d.h0]at e;cases e)]
  show e) hb ht
 fF:=λm hm=>s.fF m (bP _ hm)
 m0:=d.m0
 bm:=d.bm
 fK:=s.fK
 tab:=s.tab
 tm:=d.tm
 tt:=s.tt
def O8{K:Frag}(q:Slots K M H g σ As):D∈As->∃xs,H D=!(.lst xs):=by
 induction q with
 |nil=>show λh=>nomatch h
 |no _ ih=>show ih
 |dat _ _ ih=>show ih
 |own e _ _ ih=>
  intro h;rcases d6.mp h with rfl |h
  . show#[_,e]
  . show ih h
def S.V5(s:S (zS z w D ks) g σ As M H)(d:Gm z D):H D=!(fG w ks)/\D∈M/\D∉As:=by
 have h1:=s.keep D _ (by exact upd z.H0 D (fG w ks) D=_;rw[aA]) d.nB d.nT
 apply#[h1,s.fF D dA,λhA=>?_]
 let(xs,e):=O8 s.sl hA;rw[h1]at e;cases e
def S.putD(s:S (zS z w D ks) g σ As M H)(d:Gm z D):S (zS z w D ks') g σ As M (upd H D (fG w ks')):=by let(h1,h2,h3):=s.V5 d;show ((s.ofZ d).yP (u1:=fG w ks') h2 h3 d.h0 h1 trivial trivial).toZ d h2 aA
end
abbrev qu(z z':Z):Prop:=z'.K=z.K/\z'.lent=z.lent
inductive uE(T:Tg)(gY:G->Bool->G->Prop)(sI:G->D->G->Prop):List D->~~~0->G->~~~0->G->Prop
 |nil {ks: ~~~0}{g:G}:uE T gY sI [] ks g ks g
 |skip {d:D}{l:List D}{ks ks': ~~~0}{g g1 g2 g':G}:T.set d g=!g1->gY g1 false g2->uE T gY sI l ks g2 ks' g'->uE T gY sI (d::l) ks g ks' g'
 |take {d:D}{l:List D}{n:Int}{ks ks': ~~~0}{g g1 g2 g3 g':G}:T.set d g=!g1->gY g1 true g2->sI g2 (.int n) g3->(0<=n/\n<8)->uE T gY sI l (oneMore ks n) g3 ks' g'->uE T gY sI (d::l) ks g ks' g'
inductive jJ(T:Tg)(gY:G->Bool->G->Prop)(In: ~~~0->G->~~~0->G->Prop):List D->~~~0->G->~~~0->G->Prop
 |nil {ks: ~~~0}{g:G}:jJ T gY In [] ks g ks g
 |skip {d:D}{l:List D}{ks ks': ~~~0}{g g1 g2 g':G}:T.set d g=!g1->gY g1 false g2->jJ T gY In l ks g2 ks' g'->jJ T gY In (d::l) ks g ks' g'
 |take {d:D}{l:List D}{ks k1 ks': ~~~0}{g g1 g2 g3 g':G}:T.set d g=!g1->gY g1 true g2->In ks g2 k1 g3->jJ T gY In l k1 g3 ks' g'->jJ T gY In (d::l) ks g ks' g'
section
variable{X:Cx}{z0:Z}{w:World}{D:Addr}{tg iter aX:Expr}{ifs:List Expr}{T:Tg}{ao:List Ev.D}{ks ks': ~~~0}{g2 Bc g3:G}
def Fj{gY:G->Bool->G->Prop}{sI:G->Ev.D->G->Prop}(hC:∀g b g',gY g b g'->∀z,qu z0 z->bJ X z ifs g b g')(hE:∀g d g',sI g d g'->∀z,qu z0 z->aD X z aX g (.dat d) g')(hw:∀z,qu z0 z->cT X z tg iter g2 ao Bc)(ht:∀z,qu z0 z->eH X z tg T)(d0:Gm z0 D)
  (hcp:uE T gY sI ao ks Bc ks' g3) {σ:Sg}{As M:List Addr}{H:Hp}{Nn:Sg->Hp->Prop} (s:S (zS z0 w D ks) g2 σ As M H)
  (k:∀σ' aC M' H',S (zS z0 w D ks') g3 σ' aC M' H'->aq M H M' H'->sG T.ix σ σ'->Nn σ' H'):Ro (Jv X tg iter) (vR X tg) (vU X ifs) (O5 w D (yS X aX)) σ H Nn:=by
 have ze:∀ks,qu z0 (zS z0 w D ks):=λ_=>#[rfl,rfl]
 let(wi,q,kw):=hw _ (ze ks);apply#[wi,q,kw σ As M H _ s λJ H1 aN M1 s1 dc hJ=>?_]
 apply jt hJ (λl σ' H'=>∃gb Ab Mb ka,S (zS z0 w D ka) gb σ' Ab Mb H'/\aq M1 H1 Mb H'/\sG T.ix σ σ'/\uE T gY sI l ka gb ks' g3)
  #[_,_,_,_,s1,aq.refl _ _,sG.refl _ _,hcp] (by rintro _ _ _ ⟨_,_,M2,_,_,aI,_⟩;show#[M2,aI]) ?_ ?_
 . rintro σ' H' ⟨gb,Ab,Mb,ka,s2,aI,ag,cp⟩;cases cp;show k σ' Ab Mb H' s2 (dc.trans aI) ag
 .
  rintro d l σ' H' ⟨gb,Ab,Mb,ka,s2,aI,ag,cp⟩ x H2 yl;let(s3,fE,rx):=yl Mb aI (zS z0 w D ka) gb σ' Ab rfl s2;let(t,qt,kt):=ht _ (ze ka);cases cp with
  |skip e0 hc rest=>
   apply#[t,qt,kt d gb _ e0 x _ Ab Mb H2 _ s3 rx λσ4 gP s4 Ox=>?_]
   let(t2,q2,k2):=hC _ _ _ hc _ (ze ka);apply#[t2,q2,k2 _ gP Mb H2 _ s4 λH5 rA M5 s5 iE=>?_]
   show kM #[_,rA,M5,_,s5,(aI.trans fE).trans iE,ag.trans Ox,rest]
  |@take _ _ n _ _ _ _ _ _ _ e0 hc he hz' rest=>
   apply#[t,qt,kt d gb _ e0 x _ Ab Mb H2 _ s3 rx λσ4 gP s4 Ox=>?_]
   let(t2,q2,k2):=hC _ _ _ hc _ (ze ka);let(t3,q3,k3):=hE _ _ _ he _ (ze ka);apply#[t2,q2,k2 _ gP Mb H2 _ s4 λH5 rA M5 s5 iE=>iG #[t3,q3,k3 _ rA M5 H5 _ s5 λv H6 Nz M6 s6 Ib R6=>?_]]
   cases R6;let(f1,f2,f3):=s6.V5 d0;show#[n,ka,rfl,f1,hz',_,Nz,M6,_,s6.putD d0,(((aI.trans fE).trans iE).trans Ib).trans (aq.write f2),ag.trans Ox,rest]
end
section
variable{X:Cx}{z:Z}{t1 i1 tg iter aX:Expr}{f1 ifs:List Expr}{scope:Scope}{pos:Pos}{N':List Str}{k:Nat}{T1 T:Tg}{ao:List D}{ks: ~~~0}{g g1 gE:G}
abbrev InS(X:Cx)(z:Z)(N':List Str)(scope:Scope)(tg iter aX:Expr)(ifs:List Expr)(T:Tg)(ks: ~~~0)(g2:G)(ks': ~~~0)(g3:G):Prop:=
 ∃ao Bc,(∀(bk:Bk) z',qu z z'->cT (X.blk N' scope bk) z' tg iter g2 ao Bc)/\uE T (λg b g'=>∀(bk:Bk) z',qu z z'->bJ (X.blk N' scope bk) z' ifs g b g') (λg d g'=>∀(bk:Bk) z',qu z z'->aD (X.blk N' scope bk) z' aX g (.dat d) g') ao ks Bc ks' g3
abbrev RT(X:Cx)(z:Z)(e:Expr)(g:G)(ks: ~~~0)(g':G):Prop:=
 ∃t,PE X e t/\∀σ As M H (Q:VK),S z g σ As M H->(∀D H' aC M',S z g' σ aC M' H'->aq M H M' H'->H' D=!(fG X.w ks)->Q (.ref D) H')->t σ H Q
def zM(hw:cT X z t1 i1 g ao g1)(ht1:∀(b:Bk) z',qu z z'->eH (X.blk N' scope b) z' t1 T1)(ht:∀(b:Bk) z',qu z z'->eH (X.blk N' scope b) z' tg T)(hT1:∀i∈T1.ix,g1.length<=i/\i<g1.length+k)(hT:∀i∈T.ix,g1.length<=i/\i<g1.length+k)
  (hcp:jJ T1 (λg b g'=>∀(bk:Bk) z',qu z z'->bJ (X.blk N' scope bk) z' f1 g b g') (InS X z N' scope tg iter aX ifs T) ao [] (gD k g1) ks gE) :
  ∃wi,PI X t1 i1 wi/\∀σ As M H Q,S z g σ As M H->(∀D H' aC M',S z (gE.take g1.length) σ aC M' H'->aq M H M' H'->H' D=!(fG X.w ks)->Q (.ref D) H')->
   uh (fG X.w []) X k wi (λb=>vR (X.blk N' scope b) t1) (λb=>vU (X.blk N' scope b) f1) (λD b=>Ro (Jv (X.blk N' scope b) tg iter) (vR (X.blk N' scope b) tg) (vU (X.blk N' scope b) ifs) (O5 X.w D (yS (X.blk N' scope b) aX))) σ H Q:=by
 let(wi,q,kw):=hw;apply#[wi,q,λσ As M H Q s kq=>kw σ As M H _ s λJ H1 aN M1 s1 dc hJ D hD=>?_]
 have hl:=s1.sl.length;have hz:∀p∈z.lent,p.1<σ.length:=λp hp=>(dC.mp (s1.fK p hp).1).1
 have Jx:∀i∈T1.ix,σ.length<=i:=λi hi=>by rw[<- hl];show (hT1 i hi).1
 have Nx:∀i∈T.ix,σ.length<=i:=λi hi=>by rw[<- hl];show (hT i hi).1
 have d0:Gm z D:=.of s1 hD;have ze:∀ks,qu z (zS z X.w D ks):=λ_=>#[rfl,rfl]
 have sb:=((s1.Hj (u0:=fG X.w []) trivial hD).toZ d0 dA aA).wide (List.replicate k none++[!(V.ref D)]);rw[show (List.replicate k (none:Option V)++[!(V.ref D)]).length=k+1 by simp]at sb
 apply jt hJ (λl σ' H'=>∃gb Ab Mb τ ka,S (zS z X.w D ka) gb σ' Ab Mb H'/\aq M1 H1 Mb H'/\σ'=σ++τ/\jJ T1 (λg b g'=>∀(bk:Bk) z',qu z z'->bJ (X.blk N' scope bk) z' f1 g b g') (InS X z N' scope tg iter aX ifs T) l ka gb ks gE)
  #[_,_,_,_,[],sb,aq.aO hD,rfl,hcp] (by rintro _ _ _ ⟨_,_,M2,_,_,_,aI,_⟩;show#[M2,aI]) ?_ ?_
 . rintro σ' H' ⟨gb,Ab,Mb,τ,ka,s2,aI,rfl,cp⟩;cases cp;let(f1,_,_):=s2.V5 d0;let(A1,s3,n3):=(s2.ofZ d0).narrow hz;rw[<- hl]at s3;show kq _ H' A1 Mb s3 (dc.trans aI) f1
 .
  rintro d l σ' H' ⟨gb,Ab,Mb,τ,ka,s2,aI,rfl,cp⟩ x H2 yl bk _;let(s3,fE,rx):=yl Mb aI (zS z X.w D ka) gb (σ++τ) Ab rfl s2;let(t,qt,kt):=ht1 bk _ (ze ka);cases cp with
  |skip e0 hc rest=>
   apply#[t,qt,kt d gb _ e0 x _ Ab Mb H2 _ s3 rx λσ4 gP s4 ag=>?_]
   let(τ',rfl):=bW ag Jx;let(t2,q2,k2):=hc bk _ (ze ka);apply#[t2,q2,k2 _ gP Mb H2 _ s4 λH5 rA M5 s5 iE=>?_]
   show kM #[_,rA,M5,τ',_,s5,(aI.trans fE).trans iE,rfl,rest]
  |take e0 hc hin rest=>
   let(items2,Bc,VB,zF):=hin;apply#[t,qt,kt d gb _ e0 x _ Ab Mb H2 _ s3 rx λσ4 gP s4 ag=>?_]
   let(τ',rfl):=bW ag Jx;let(t2,q2,k2):=hc bk _ (ze ka);apply#[t2,q2,k2 _ gP Mb H2 _ s4 λH5 rA M5 s5 iE=>iG ?_]
   apply Fj (λg b g' h=>h bk) (λg d g' h=>h bk) (VB bk) (ht bk) d0 zF s5 λσ6 Nz M6 H6 s6 Ib ag6=>?_
   let(τ6,rfl):=bW ag6 Nx;show#[_,Nz,M6,τ6,_,s6,((aI.trans fE).trans iE).trans Ib,rfl,rest]
def O9(B:aJ X.env.scope scope)(hc:X.calm=true)(hN:Names X.N N' scope k)(hw:cT X z t1 i1 g ao g1)(ht1:∀(b:Bk) z',qu z z'->eH (X.blk N' scope b) z' t1 T1)(ht:∀(b:Bk) z',qu z z'->eH (X.blk N' scope b) z' tg T)(hT1:∀i∈T1.ix,g1.length<=i/\i<g1.length+k)(hT:∀i∈T.ix,g1.length<=i/\i<g1.length+k)
  (hcp:jJ T1 (λg b g'=>∀(bk:Bk) z',qu z z'->bJ (X.blk N' scope bk) z' f1 g b g') (InS X z N' scope tg iter aX ifs T) ao [] (gD k g1) ks gE)
  (hs:∀x,foldedSetIterable i1 X.env x=pure x) (hs2:∀(b:Bk) x,foldedSetIterable iter (X.blk N' scope b).env x=pure x):RT X z (.SetComp aX [#[t1,i1,f1,0],#[tg,iter,ifs,0]] scope pos) g ks (gE.take g1.length):=by
 let(wi,q,kk):=zM hw ht1 ht hT1 hT hcp;show#[_,Ez B hc hN q (λb=>#[#[iM,iN],zE,iM,iN,lZ]) hs hs2,kk]
def uF(hc:X.calm=true):d9 X (.builtin "sorted") (λxs H Q=>∃p ks,xs=[.ref p]/\H p=!(fG X.w ks)/\∀q,H q=none->Q (.ref q) (upd H q (.lst (ks.map V.int)))):=by
 intro aj s σ H xs us Q I r h;let(p,ks,rfl,hq,q):=h;let(u,rfl,rx):=vals1 r;cases rx;have hO:=I.hok p _ hq;have hh:=I.ok.hd hc;have h8:ks.length<=8:=by let(o,_,_,es,ep,t,S,ld,sm,_):=hO;show sm.len
 apply wK hh hO λep out s2 s3 m1 m2 hget hi=>?_
 let(h2,g2,dr2,tk2,os2):=s2;let(h3,g3,dr3,tk3,os3):=s3;let(a1,a2,a3,a4,a5):=m1;let(b1,b2,b3,b4,b5):=m2;subst a2 a3 a4 b2 b3 b4;have I3:L2.Inv X aj σ H { s with heap:=h2,toks:=tk2}:=I.kept λb o hb=>a1 b o (λz=>nomatch z) hb
 have hf:=I3.hok.fresh (eA _);show#[.ref h2.objs.size,_,I3.laid (o:=.lst (ks.map V.int)) (λb o hb=>b1 b o (λz=>nomatch z) hb) (eA _) #[by rw[eC,oS];lia,out.toList,ep,lV hi,hget],rfl,q _ hf]
def JR{e:Expr}{p:Pos}(hc:X.calm=true)(h:RT X z e g ks g1)(hg:Gl X "sorted")(hm:X.mg "sorted"=none)(cO:starEach [e] X.env=(false,eval e X.env)::starEach [] X.env) :
  aD X z (.Call (.Name "sorted" p) [e] [] pos) g (.new (ks.map .int)) g1:=by
 let(t,q,k):=h;show#[_,iF (uF hc) hg hm (by rfl:bootBuiltins ("sorted":Str)=!(.builtin "sorted")) (aY q cG cO) ⋯ ⋯ cO rfl,λσ As M H Q s kk=>k σ As M H _ s λD H' aC M' s' st hD=>
  #[D,ks,rfl,hD,λq hq=>kk (.ref q) _ aC (q::M') (s'.aO hq) (st.trans (aq.aO hq)) #[q,_,rfl,dA,λhA=>s'.fresh hq (s'.sub q hA),s'.bO hq,aA,mh _]]]
end
inductive Bl where
 |len |list |tuple |max |min |str |all |sorted |sum |any |int
 deriving DecidableEq
set_option genInjectivity false in
inductive Ex where
 |val (d:D) |slot (i:Nat)
 |bin (op:Operator) (a b:Ex) |cmp (op:CmpOp) (a b:Ex) |chain (a:Ex) (ops:List CmpOp) (l:List Ex)
 |not (a:Ex) |and (l:List Ex) |or (l:List Ex)
 |tup (l:List Ex) |lst (l:List Ex)
 |ix (a b:Ex)
 |call (f:Nat) (l:List Ex) |blt (b:Bl) (l:List Ex) |zO (a:Ex) (n:String) |JT (a:Ex) (ns:List String)
 |comp (n k:Nat) (T:Tg) (it:Ex) (c:Option Ex) (e:Ex)
 |fC (n k:Nat) (T1:Tg) (ju:Ex) (c1:Option Ex) (T:Tg) (it:Ex) (c:Option Ex) (e:Ex)
 |sO (n k:Nat) (T1:Tg) (ju:Ex) (c1:Option Ex) (T:Tg) (it:Ex) (c:Option Ex) (e:Ex)
 |cV (a:Ex) |iA (a b:Ex) |wL (a:Ex)
 |enum (a:Ex) |zip (a b:Ex)
 |emp |stk |peek (e:Ex)
 |lq (f ir:Nat) (ca:List Addr) (e:Ex) |sP (a:Ex) (l:List (Addr×Bool)) |refs (f ir:Nat) (ca:List Addr) (es:List Ex)
 |append (i:Nat) (e:Ex) |extend (i:Nat) (e:Ex) |qw (i:Nat) (e:Ex)
set_option genInjectivity false in
inductive Sm where
 |ret (e:Ex) |expr (e:Ex) |set (i:Nat) (e:Ex) |setC (i:Nat) (e:Ex) |tgt (T:Tg) (e:Ex) |item (i:Nat) (j e:Ex) |aug (i:Nat) (op:Operator) (e:Ex)
 |ite (c:Ex) (a b:List Sm) |loop (T:Tg) (it:Ex) (b:List Sm) |while (c:Ex) (b:List Sm) |raise (ci:Nat) (e:Ex) |calls (ic:Nat) (x:Ex) (op:CmpOp) (rhs:Ex) (ret:Bool) (b:List Sm) |rows (im it iy ia ib:Nat) |ways (ip iy uB ih io:Nat) (e1 e2:Ex) |stuck
structure Fx where
 np:Nat
 n:Nat
 body:List Sm
abbrev Tg.jW:Tg->Bool
 |.tp _=>true
 |.nm _=>false
abbrev JV(i j:Int):Bool:=(decide (-(2 ^ 64)<i)&&decide (i<2 ^ 64))||(decide (-(2 ^ 64)<j)&&decide (j<2 ^ 64))
abbrev lim:Nat:=16777216
abbrev n5{α:Type}(f:Int->Int->Option α)(a b:D):Option α:=match a with
 |.int i=>(match b with |.int j=>f i j |_=>none)
 |_=>none
abbrev Pa(a b:D):Option R:=match a with
 |.int i=>(match b with |.int j=>!(.dat (.int (i+j))) |_=>none)
 |.lst l=>(match b with |.lst m=>if l.length+m.length<=lim then some (.new (l++m))else none |_=>none)
 |.tup l=>(match b with |.tup m=>if l.length+m.length<=lim then some (.dat (.tup (l++m)))else none |_=>none)
 |_=>none
abbrev JW(a:D)(k:Int):Option R:=match a with
 |.int i=>if JV i k=true then some (.dat (.int (i * k)))else none
 |.lst l=>if -(2 ^ 63)<=k/\k<2 ^ 63/\l.length * k.toNat<=lim then some (.new (List.replicate k.toNat l).flatten)else none
 |_=>none
abbrev uG(op:Operator)(a b:D):Option R:=match op with
 |.Add=>Pa a b
 |.Sub=>n5 (λi j=>!(.dat (.int (i - j)))) a b
 |.Mult=>(match b with |.int k=>JW a k |_=>none)
 |.FloorDiv=>n5 (λi j=>if 0<j/\j<18446744073709551616 then some (.dat (.int (i / j)))else none) a b
 |.Mod=>n5 (λi j=>if 0<j then some (.dat (.int (i % j)))else none) a b
 |.Pow=>n5 (λi j=>if 0<=j/\j<=1000/\i.natAbs<2 ^ 64 then some (.dat (.int (i ^ j.toNat)))else none) a b
 |_=>none
abbrev lu(d1 d2:D):Bool:=kD d1&&kD d2&&decide (dep d1<=190)
abbrev rH(d1:D)(l:List D):Bool:=kD d1&&iK l&&decide (deps l<=190)
abbrev ltF(a b:D):Option Bool:=match a with
 |.int i=>(match b with |.int j=>!(decide (i<j)) |_=>none)
 |.tup l=>(match b with |.tup m=>(match bF l with |some ns=>(match bF m with |some ms=>!(HT.lexLt ns ms) |none=>none) |none=>none) |_=>none)
 |_=>none
abbrev fH(op:CmpOp)(d1 d2:D):Option Bool:=match op with
 |.Eq=>if lu d1 d2=true then some (eu d1 d2)else none
 |.NotEq=>if lu d1 d2=true then some ((not (eu d1 d2)))else none
 |.Lt=>ltF d1 d2
 |.LtE=>n5 (λi j=>!(decide (i<=j))) d1 d2
 |.GtE=>n5 (λi j=>!(decide (i ≥ j))) d1 d2
 |.In=>(match iu d2 with |some l=>if rH d1 l=true then some (l.any λd=>eu d d1)else none |none=>none)
 |.NotIn=>(match iu d2 with |some l=>if rH d1 l=true then some ((not (l.any λd=>eu d d1)))else none |none=>none)
 |_=>none
abbrev wM:D->D->Option D
 |.lst l,.int i=>gJ l i
 |.fix l,.int i=>gJ l i
 |.tup l,.int i=>gJ l i
 |.emp m,.int n=>(match oA n m with |some v=>!(.int v) |none=>none)
 |_,_=>none
abbrev RV(b:Bl)(d:D):Option R:=match b with
 |.len=>(match ZT d with |some n=>!‹n› |none=>none)
 |.list=>(match iu d with |some l=>!(.new l) |none=>none)
 |.tuple=>(match iu d with |some l=>!(.dat (.tup l)) |none=>none)
 |.max=>(match d with |.lst l=>(match bF l with |!(n::ns)=>!(.dat (.int (y9 n ns))) |_=>none) |_=>none)
 |.min=>(match d with |.lst l=>(match bF l with |!(n::ns)=>!(.dat (.int (Ja n ns))) |_=>none) |_=>none)
 |.all=>(match d with |.lst l=>(match vN l with |some bs=>!(.dat (.bl (bs.all id))) |none=>none) |_=>none)
 |.sorted=>(match d with |.lst l=>(match bF l with |some ns=>if ns.length<64 then some (.new ((bS ns).map .int))else none |none=>match p9 l with |some eU=>if eU.length<64 then some (.new ((bK fj eU).map λns=>.tup (ns.map .int)))else none |none=>none) |_=>none)
 |_=>none
abbrev bl2(b:Bl)(d e:D):Option R:=match b with
 |.max=>n5 (λi j=>!(.dat (.int (if j > i then j else i)))) d e
 |.min=>n5 (λi j=>!(.dat (.int (if j<i then j else i)))) d e
 |_=>none
abbrev nF(b:Bl)(ds:List D):Option R:=match ds with
 | [d]=>RV b d
 | [d,e]=>bl2 b d e
 |_=>none
abbrev jX(t n:String):Bool:=t==n||(t == "bool" && n == "int")
abbrev isW:Ex->Bool
 |.cV _=>true
 |.iA _ _=>true
 |.enum _=>true
 |.zip _ _=>true
 |_=>false
structure Rn where
 e:List Nat->Nat->Ex->G->Option (R×G)
 t:List Nat->Nat->Ex->G->Option (Bool×G)
 b:List Nat->Nat->List Sm->G->Option (Fl×G)
 x:List Nat->Nat->Ex->G->Option (Nat×G)
 xt:List Nat->Nat->Ex->G->Option (Nat×G)
 xb:List Nat->Nat->List Sm->G->Option (Nat×G)
abbrev toD(bor:List Nat):R->G->Option (D×G)
 |.dat d,g=>!(d,g)
 |.new l,g=>!(.lst l,g)
 |.var i,g=>if i∈bor then none else match g[i]? with |!(.own l)=>!(.lst l,g.set i (.dat (.lst l))) |_=>none
abbrev norm:R->R
 |.new l=>.dat (.lst l)
 |.dat d=>.dat d
 |.var i=>.var i
section
variable(rn:Rn)(bor:List Nat)(k:Nat)
abbrev gR(e:Ex)(g:G):Option (D×G):=match rn.e bor k e g with
 |!(r,g1)=>toD bor r g1
 |none=>none
abbrev qz:List Ex->G->Option (List D×G)
 | [],g=>!([],g)
 |e::es,g=>match gR rn bor k e g with
  |!(d,g1)=>match qz es g1 with
   |!(ds,g2)=>!(d::ds,g2)
   |none=>none
  |none=>none
abbrev argsR:List Ex->G->Option (List R×G)
 | [],g=>!([],g)
 |e::es,g=>match rn.e bor k e g with
  |!(r,g1)=>match argsR es g1 with
   |!(rs,g2)=>!(norm r::rs,g2)
   |none=>none
  |none=>none
abbrev V6:D->List CmpOp->List Ex->G->Option (Bool×G)
 |d1,[op],[b],g=>match gR rn bor k b g with
  |!(d2,g1)=>match fH op d1 d2 with |some c=>!(c,g1) |none=>none
  |none=>none
 |d1,op::op'::ops,b::b'::bs,g=>match gR rn bor k b g with
  |!(d2,g1)=>match fH op d1 d2 with
   |some true=>V6 d2 (op'::ops) (b'::bs) g1
   |some false=>!(false,g1)
   |none=>none
  |none=>none
 |_,_,_,_=>none
abbrev JX:List Ex->G->Option (R×G)
 | [],_=>none
 | [a],g=>rn.e bor k a g
 |a::b::l,g=>match rn.e bor k a g with
  |!(.dat (.bl true),g1)=>JX (b::l) g1
  |!(.dat (.bl false),g1)=>!(.dat (.bl false),g1)
  |_=>none
abbrev orF:List Ex->G->Option (R×G)
 | [],_=>none
 | [a],g=>rn.e bor k a g
 |a::b::l,g=>match rn.e bor k a g with
  |!(.dat (.bl false),g1)=>orF (b::l) g1
  |!(.dat (.bl true),g1)=>!(.dat (.bl true),g1)
  |_=>none
abbrev sQ:List Ex->G->Option (Bool×G)
 | [],_=>none
 | [a],g=>rn.t bor k a g
 |a::b::l,g=>match rn.t bor k a g with
  |!(true,g1)=>sQ (b::l) g1
  |!(false,g1)=>!(false,g1)
  |none=>none
abbrev JZ:List Ex->G->Option (Bool×G)
 | [],_=>none
 | [a],g=>rn.t bor k a g
 |a::b::l,g=>match rn.t bor k a g with
  |!(false,g1)=>JZ (b::l) g1
  |!(true,g1)=>!(true,g1)
  |none=>none
abbrev Gn(j:Int):Bool:=decide (-(2 ^ 62)<=j)&&decide (j<2 ^ 62)
abbrev dj(tp:Bool)(it:Ex)(g:G):Option (List D×G):=match it with
 |.cV a=>match gR rn bor k a g with
  |!(.int j,g1)=>if Gn j=true then some (cR 0 j.toNat,g1)else none
  |_=>none
 |.iA a b=>match gR rn bor k a g with
  |!(.int c,g1)=>match gR rn bor k b g1 with
   |!(.int j,g2)=>if Gn c=true/\Gn j=true then some (cR c (j - c).toNat,g2)else none
   |_=>none
  |_=>none
 |.zip a b=>if tp=true then match qz rn bor k [a,b] g with
  |!([.tup l,.tup m],g1)=>if l.length=m.length then some (uy l m,g1)else none
  |_=>none
  else none
 |.enum a=>if tp=true then match gR rn bor k a g with
  |!(.lst l,g1)=>!(ni l,g1)
  |_=>none
  else none
 |e=>match gR rn bor k e g with
  |!(.tup l,g1)=>!(l,g1)
  |!(.lst l,g1)=>!(l,g1)
  |!(.fix l,g1)=>!(l,g1)
  |!(.emp m,g1)=>!(m.map λp=>.int p.1,g1)
  |_=>none
abbrev mG:Option Ex->G->Option (Bool×G)
 |none,g=>!(true,g)
 |!c,g=>rn.t bor k c g
abbrev Fo(T:Tg)(last:Nat)(c:Option Ex)(e:Ex):List D->G->Option G
 | [],g=>!g
 |d::l,g=>match T.set d g with
  |none=>none
  |some g1=>match mG rn bor k c g1 with
   |none=>none
   |!(false,g2)=>Fo T last c e l g2
   |!(true,g2)=>match gR rn bor k e g2 with
    |none=>none
    |!(x,g3)=>match g3[last]? with
     |!(.own acc)=>if acc.length<lim then Fo T last c e l (g3.set last (.own (acc++[x])))else none
     |_=>none
abbrev fM(n kk:Nat)(T:Tg)(it:Ex)(c:Option Ex)(e:Ex)(g:G):Option (List D×G):=match dj rn bor k T.jW it g with
 |none=>none
 |!(ao,g1)=>if g1.length=n/\(T.ix.any λi=>decide (i∈bor))=false then match Fo rn bor k T (n+kk) c e ao (gC kk g1)with
   |none=>none
   |some gE=>match gE[n+kk]? with
    |!(.own acc)=>!(acc,gE.take n)
    |_=>none
  else none
abbrev wN(T1:Tg)(c1:Option Ex)(T:Tg)(it:Ex)(c:Option Ex)(e:Ex)(last:Nat):List D->G->Option G
 | [],g=>!g
 |d::l,g=>match T1.set d g with
  |none=>none
  |some g1=>match mG rn bor k c1 g1 with
   |none=>none
   |!(false,g2)=>wN T1 c1 T it c e last l g2
   |!(true,g2)=>match dj rn bor k T.jW it g2 with
    |none=>none
    |!(ao,g3)=>match Fo rn bor k T last c e ao g3 with
     |none=>none
     |some g4=>wN T1 c1 T it c e last l g4
abbrev mH(n kk:Nat)(T1:Tg)(ju:Ex)(c1:Option Ex)(T:Tg)(it:Ex)(c:Option Ex)(e:Ex)(g:G):Option (List D×G):=match dj rn bor k T1.jW ju g with
 |none=>none
 |!(ao,g1)=>if g1.length=n/\((T1.ix++T.ix).any λi=>decide (i∈bor))=false then match wN rn bor k T1 c1 T it c e (n+kk) ao (gC kk g1)with
   |none=>none
   |some gE=>match gE[n+kk]? with
    |!(.own acc)=>!(acc,gE.take n)
    |_=>none
  else none
abbrev V7(T:Tg)(c:Option Ex)(e:Ex):List D->~~~0->G->Option (List Int×G)
 | [],ks,g=>!(ks,g)
 |d::l,ks,g=>match T.set d g with
  |none=>none
  |some g1=>match mG rn bor k c g1 with
   |none=>none
   |!(false,g2)=>V7 T c e l ks g2
   |!(true,g2)=>match gR rn bor k e g2 with
    |!(.int n,g3)=>if 0<=n/\n<8 then V7 T c e l (Sb.oneMore ks n) g3 else none
    |_=>none
abbrev wO(T1:Tg)(c1:Option Ex)(T:Tg)(it:Ex)(c:Option Ex)(e:Ex):List D->~~~0->G->Option (List Int×G)
 | [],ks,g=>!(ks,g)
 |d::l,ks,g=>match T1.set d g with
  |none=>none
  |some g1=>match mG rn bor k c1 g1 with
   |none=>none
   |!(false,g2)=>wO T1 c1 T it c e l ks g2
   |!(true,g2)=>match dj rn bor k T.jW it g2 with
    |none=>none
    |!(ao,g3)=>match V7 rn bor k T c e ao ks g3 with
     |none=>none
     |!(k1,g4)=>wO T1 c1 T it c e l k1 g4
abbrev qA(n kk:Nat)(T1:Tg)(ju:Ex)(c1:Option Ex)(T:Tg)(it:Ex)(c:Option Ex)(e:Ex)(g:G):Option (List Int×G):=match dj rn bor k T1.jW ju g with
 |none=>none
 |!(ao,g1)=>if g1.length=n/\((T1.ix++T.ix).any λi=>decide (i∈bor))=false then match wO rn bor k T1 c1 T it c e ao [] (gD kk g1)with
   |none=>none
   |!(ks,gE)=>!(ks,gE.take n)
  else none
abbrev bL(fx:Fx)(k':Nat)(rs:List R)(g1:G):Option (R×G):=
 if rs.length=fx.np/\((vars 0 rs).map (·.2)).Nodup then match cL rs g1 with
  |none=>none
  |some gs=>match rn.b ((vars 0 rs).map (·.1)) k' fx.body (dD fx.n gs)with
   |!(.rt r,gc)=>match back (vars 0 rs) gc g1 with
    |some gO=>match cS ((vars 0 rs).map (·.1)) gc r with |some r'=>!(r',gO) |none=>none
    |none=>none
   |!(.nx,gc)=>match back (vars 0 rs) gc g1 with
    |some gO=>!(.dat .non,gO)
    |none=>none
   |_=>none
 else none
abbrev J0(fns:List Fx)(f ir:Nat)(ca:List Addr)(e:Ex)(g:G):Option D:=match fns[f]?,k with
 |!fx,k'+2=>match rn.x [] k' e (g.map noOwn)with
  |!(ci,_)=>match ca[ci]? with
   |some C=>match rn.b [] k' (fx.body.drop 2) ((List.replicate fx.n .no).set ir (.dat (.nU C)))with
    |!(.rt r,g3)=>match cS [] g3 r with |some r'=>asD r' |none=>none
    |_=>none
   |none=>none
  |none=>none
 |_,_=>none
abbrev wQ(fns:List Fx)(f ir:Nat)(ca:List Addr):List Ex->G->Option (List D)
 | [],_=>![]
 |e::es,g=>match J0 rn k fns f ir ca e g with
  |some d=>match wQ fns f ir ca es g with |some ds=>!(d::ds) |none=>none
  |none=>none
abbrev bh(fns:List Fx)(e:Ex)(g:G):Option (R×G):=match e with
 |.val d=>!(.dat d,g)
 |.slot i=>match g[i]? with |!(.dat d)=>!(.dat d,g) |!(.own _)=>!(.var i,g) |_=>none
 |.bin op a b=>match argsR rn bor k [a,b] g with
  |!([r1,r2],g2)=>match pk r1 g2,pk r2 g2 with
   |!d1,!d2=>match uG op d1 d2 with |some r=>!(r,g2) |none=>none
   |_,_=>none
  |_=>none
 |.cmp op a b=>match argsR rn bor k [a,b] g with
  |!([r1,r2],g2)=>match pk r1 g2,pk r2 g2 with
   |!d1,!d2=>match fH op d1 d2 with |some c=>!(.dat (.bl c),g2) |none=>none
   |_,_=>none
  |_=>none
 |.chain a ops l=>match gR rn bor k a g with
  |!(d1,g1)=>match V6 rn bor k d1 ops l g1 with |!(c,g2)=>!(.dat (.bl c),g2) |none=>none
  |none=>none
 |.not a=>match rn.e bor k a g with |!(.dat (.bl c),g1)=>!(.dat (.bl ((not c))),g1) |_=>none
 |.and l=>JX rn bor k l g
 |.or l=>orF rn bor k l g
 |.tup l=>match qz rn bor k l g with |!(ds,g1)=>if ds.length<=lim then some (.dat (.tup ds),g1)else none |none=>none
 |.lst l=>match qz rn bor k l g with |!(ds,g1)=>if ds.length<=lim then some (.new ds,g1)else none |none=>none
 |.ix a b=>match argsR rn bor k [a,b] g with
  |!([r1,r2],g2)=>match pk r1 g2,pk r2 g2 with
   |!d1,!d2=>match wM d1 d2 with |some d=>!(.dat d,g2) |none=>none
   |_,_=>none
  |_=>none
 |.call f l=>match fns[f]?,k with
  |!fx,k'+1=>match argsR rn bor k l g with
   |!(rs,g1)=>bL rn fx k' rs g1
   |none=>none
  |_,_=>none
 |.blt b l=>match argsR rn bor k l g with
  |!(rs,g1)=>match Dt rs g1 with
   |some ds=>match nF b ds with |some r=>!(r,g1) |none=>none
   |none=>none
  |none=>none
 |.zO a n=>match rn.e bor k a g with
  |!(r,g1)=>match pk (norm r) g1 with |some d=>!(.dat (.bl (jX (yp d) n)),g1) |none=>none
  |none=>none
 |.JT a ns=>match rn.e bor k a g with
  |!(r,g1)=>match pk (norm r) g1 with |some d=>!(.dat (.bl (ns.any (jX (yp d)))),g1) |none=>none
  |none=>none
 |.comp n kk T it c e=>match fM rn bor k n kk T it c e g with |!(acc,g1)=>!(.new acc,g1) |none=>none
 |.fC n kk T1 ju c1 T it c e=>match mH rn bor k n kk T1 ju c1 T it c e g with |!(acc,g1)=>!(.new acc,g1) |none=>none
 |.sO n kk T1 ju c1 T it c e=>match qA rn bor k n kk T1 ju c1 T it c e g with |!(ks,g1)=>!(.new (ks.map .int),g1) |none=>none
 |.emp=>!(.dat (.emp []),g)
 |.stk=>none
 |.peek e=>if bor.isEmpty=true then match rn.e [] k e (g.map dJ)with |!(.dat d,_)=>if flat d=true then some (.dat d,g)else none |!(.new l,_)=>if l.all kY=true then some (.new l,g)else none |_=>none else none
 |.refs f ir ca es=>match wQ rn k fns f ir ca es g with |some ds=>!(.new ds,g) |none=>none
 |.lq f ir ca e=>match fns[f]?,k with
  |!fx,k'+2=>match rn.x [] k' e (g.map noOwn)with
   |!(ci,_)=>match ca[ci]? with
    |some C=>match rn.b [] k' (fx.body.drop 2) ((List.replicate fx.n .no).set ir (.dat (.nU C)))with
     |!(.rt r,g3)=>match cS [] g3 r with |some r'=>!(r',g) |none=>none
     |_=>none
    |none=>none
   |none=>none
  |_,_=>none
 |.sP a l=>match rn.e bor k a g with
  |!(r,g1)=>match pk (norm r) g1 with
   |!(.nU C)=>match l.lookup C with |some b=>!(.dat (.bl b),g1) |none=>none
   |some .non=>!(.dat (.bl false),g1)
   |_=>none
  |none=>none
 |.append i e=>match g[i]? with
  |!(.own _)=>match gR rn bor k e g with
   |!(d,g1)=>match g1[i]? with |!(.own l)=>if l.length<lim then some (.dat .non,g1.set i (.own (l++[d])))else none |_=>none
   |none=>none
  |_=>none
 |.extend i e=>match g[i]? with
  |!(.own _)=>match gR rn bor k e g with
   |!(.lst m,g1)=>match g1[i]? with |!(.own l)=>if l.length+m.length<=lim then some (.dat .non,g1.set i (.own (l++m)))else none |_=>none
   |_=>none
  |_=>none
 |.qw i e=>match g[i]? with
  |!(.own _)=>match gR rn bor k e g with
   |!(.int j,g1)=>match g1[i]? with
    |!(.own l)=>match yJ l.length j with
     |some n=>match l[n]? with |some d=>if l.length<lim then some (.dat d,g1.set i (.own (l.eraseIdx n)))else none |none=>none
     |none=>none
    |_=>none
   |_=>none
  |_=>none
 |.cV _=>none
 |.iA _ _=>none
 |.enum _=>none
 |.zip _ _=>none
 |.wL a=>match gR rn bor k a g with
  |!(.int j,g1)=>if Gn j=true/\j.toNat<=lim then some (.new (cR 0 j.toNat),g1)else none
  |_=>none
abbrev stepT(e:Ex)(g:G):Option (Bool×G):=match e with
 |.cmp op a b=>match argsR rn bor k [a,b] g with
  |!([r1,r2],g2)=>match pk r1 g2,pk r2 g2 with
   |!d1,!d2=>match fH op d1 d2 with |some c=>!(c,g2) |none=>none
   |_,_=>none
  |_=>none
 |.chain a ops l=>match gR rn bor k a g with
  |!(d1,g1)=>V6 rn bor k d1 ops l g1
  |none=>none
 |.not a=>match rn.t bor k a g with |!(c,g1)=>!((not c),g1) |none=>none
 |.and l=>sQ rn bor k l g
 |.or l=>JZ rn bor k l g
 |e=>match rn.e bor k e g with
  |!(r,g1)=>match pk (norm r) g1 with
   |some d=>match Ih d with |some c=>!(c,g1) |none=>none
   |none=>none
  |none=>none
abbrev fO(T:Tg)(b:G->Option (Fl×G)):List D->G->Option (Fl×G)
 | [],g=>!(.nx,g)
 |d::l,g=>match T.set d g with
  |none=>none
  |some g0=>match b g0 with
   |none=>none
   |!(.nx,g1)=>fO T b l g1
   |!(.ct,g1)=>fO T b l g1
   |!(.bk,g1)=>!(.nx,g1)
   |!(.rt r,g1)=>!(.rt r,g1)
abbrev LQ(c:G->Option (Bool×G))(b:G->Option (Fl×G)):Nat->G->Option (Fl×G)
 | 0,_=>none
 |n+1,g=>match c g with
  |none=>none
  |!(false,g1)=>!(.nx,g1)
  |!(true,g1)=>match b g1 with
   |none=>none
   |!(.nx,g2)=>LQ c b n g2
   |!(.ct,g2)=>LQ c b n g2
   |!(.bk,g2)=>!(.nx,g2)
   |!(.rt r,g2)=>!(.rt r,g2)
abbrev Yx(ih:Nat)(e2:Ex)(g:G)(h:Int):Option (~~~0):=match rn.e bor k e2 (g.set ih ‹h›)with
 |!(.new l,_)=>bF l
 |_=>none
abbrev aG(st:Sm)(g:G):Option (Fl×G):=match st with
 |.ret e=>match rn.e bor k e g with |!(r,g1)=>!(.rt r,g1) |none=>none
 |.expr e=>match rn.e bor k e g with |!(_,g1)=>!(.nx,g1) |none=>none
 |.set i e=>if i∈bor then none else match rn.e bor k e g with
  |!(.new l,g1)=>if i<g1.length then some (.nx,g1.set i (.own l))else none
  |!(r,g1)=>match toD bor r g1 with |!(d,g2)=>!(.nx,g2.set i (.dat d)) |none=>none
  |none=>none
 |.setC i e=>if i∈bor then none else match e with
  |.comp n kk T it c e=>match fM rn bor k n kk T it c e g with
   |!(acc,g1)=>if i<g1.length then some (.nx,g1.set i (.own acc))else none
   |none=>none
  |.fC n kk T1 ju c1 T it c e=>match mH rn bor k n kk T1 ju c1 T it c e g with
   |!(acc,g1)=>if i<g1.length then some (.nx,g1.set i (.own acc))else none
   |none=>none
  |_=>none
 |.tgt T e=>if T.ix.any (λi=>decide (i∈bor))=true then none else match gR rn bor k e g with
  |!(d,g1)=>match T.set d g1 with |some g2=>!(.nx,g2) |none=>none
  |none=>none
 |.item i j e=>match gR rn bor k e g with
  |!(d,g1)=>match g1[i]? with
   |!(.own _)=>match gR rn bor k j g1 with
    |!(.int n,g2)=>match g2[i]? with
     |!(.own l)=>match yJ l.length n with |some m=>!(.nx,g2.set i (.own (l.set m d))) |none=>none
     |_=>none
    |_=>none
   |_=>none
  |none=>none
 |.aug i op e=>match g[i]? with
  |!(.own _)=>if op=.Add then match gR rn bor k e g with
    |!(.lst m,g1)=>match g1[i]? with |!(.own l)=>if l.length+m.length<=lim then some (.nx,g1.set i (.own (l++m)))else none |_=>none
    |_=>none
   else none
  |_=>none
 |.ite c a b=>match rn.t bor k c g with
  |!(true,g1)=>rn.b bor k a g1
  |!(false,g1)=>rn.b bor k b g1
  |none=>none
 |.loop T it b=>if T.ix.any (λi=>decide (i∈bor))=true then none else match dj rn bor k T.jW it g with
  |!(ao,g1)=>fO T (rn.b bor k b) ao g1
  |none=>none
 |.while c b=>LQ (rn.t bor k c) (rn.b bor k b) 100000 g
 |.raise _ _=>none
 |.calls ic x op rhs ret b=>match g[ic]? with
  |some .no=>match rn.e bor k x g with
   |!(.new ds,_)=>match rn.e bor k rhs g with
    |!(r2,g2)=>match pk (norm r2) g2 with
     |some d2=>match fH op (.lst ds) d2 with
      |some c=>if ret=true then some (.rt (.dat (.bl c)),g2)else if c=true then rn.b bor k b g2 else some (.nx,g2)
      |none=>none
     |none=>none
    |none=>none
   |_=>none
  |_=>none
 |.rows im it iy ia ib=>match g[im]?,g[it]? with
  |!‹m›,!(.dat (.tup ah))=>match g[iy]?,g[ia]?,g[ib]? with
   |some .no,some .no,some .no=>if 0<=m/\m<=1000 then match iQ ah (List.replicate m.toNat [])with |some ll=>!(.rt (.dat (.lst (ll.map .lst))),g) |none=>none else none
   |_,_,_=>none
  |_,_=>none
 |.ways ip iy uB ih io e1 e2=>match g[ip]?,g[iy]? with
  |!‹c›,some .no=>match g[uB]?,g[ih]?,g[io]? with
   |some .no,some .no,some .no=>if (d8 g&&bor.isEmpty)=true then match rn.e bor k e1 g with
     |!(‹n›,_)=>if Gn n=true then match OJ (Yx rn bor k ih e2 g) n.toNat [(c,0)]with |some m=>!(.rt (.dat (.emp m)),g) |none=>none else none
     |_=>none
    else none
   |_,_,_=>none
  |_,_=>none
 |.stuck=>none
abbrev cD:List Sm->G->Option (Fl×G)
 | [],g=>!(.nx,g)
 |st::rest,g=>match aG rn bor k st g with
  |!(.nx,g1)=>cD rest g1
  |!(f,g1)=>!(f,g1)
  |none=>none
abbrev xW(it:Ex)(g:G):Option (Nat×G):=if isW it=true then none else rn.x bor k it g
abbrev xArgs:List Ex->G->Option (Nat×G)
 | [],_=>none
 |e::es,g=>match rn.x bor k e g with
  |some r=>!r
  |none=>match rn.e bor k e g with
   |!(_,g1)=>xArgs es g1
   |none=>none
abbrev wR(fx:Fx)(k':Nat)(rs:List R)(g1:G):Option (Nat×G):=
 if rs.length=fx.np/\((vars 0 rs).map (·.2)).Nodup then match cL rs g1 with
  |none=>none
  |some gs=>match rn.xb ((vars 0 rs).map (·.1)) k' fx.body (dD fx.n gs)with
   |!(ci,gc)=>match back (vars 0 rs) gc g1 with |some gO=>!(ci,gO) |none=>none
   |none=>none
 else none
abbrev wU(fns:List Fx)(e:Ex)(g:G):Option (Nat×G):=match e with
 |.call f l=>match xArgs rn bor k l g with
  |some r=>!r
  |none=>match fns[f]?,k with
   |!fx,k'+1=>match argsR rn bor k l g with
    |!(rs,g1)=>wR rn fx k' rs g1
    |none=>none
   |_,_=>none
 |_=>none
abbrev mJ(e:Ex)(g:G):Option (Nat×G):=match e with
 |.not a=>rn.xt bor k a g
 |.call f l=>rn.x bor k (.call f l) g
 |_=>none
abbrev iS(st:Sm)(g:G):Option (Nat×G):=match st with
 |.ret e=>rn.x bor k e g
 |.expr e=>rn.x bor k e g
 |.ite c a b=>match rn.xt bor k c g with
  |some r=>!r
  |none=>match rn.t bor k c g with
   |!(true,g1)=>rn.xb bor k a g1
   |!(false,g1)=>rn.xb bor k b g1
   |none=>none
 |.raise ci e=>match gR rn bor k e g with |!(_,g1)=>!(ci,g1) |none=>none
 |_=>none
abbrev gS:List Sm->G->Option (Nat×G)
 | [],_=>none
 |st::rest,g=>match iS rn bor k st g with
  |some r=>!r
  |none=>match aG rn bor k st g with
   |!(.nx,g1)=>gS rest g1
   |_=>none
end
abbrev step(fns:List Fx)(rn:Rn):Rn:=#[λbor k e g=>bh rn bor k fns e g,λbor k e g=>stepT rn bor k e g,λbor k l g=>cD rn bor k l g,λbor k e g=>wU rn bor k fns e g,λbor k e g=>mJ rn bor k e g,λbor k l g=>gS rn bor k l g]
abbrev rn0:Rn:=#[λ_ _ _ _=>none,λ_ _ _ _=>none,λ_ _ _ _=>none,λ_ _ _ _=>none,λ_ _ _ _=>none,λ_ _ _ _=>none]
abbrev run(fns:List Fx):Nat->Rn
 | 0=>rn0
 |n+1=>step fns (run fns n)
structure Ct where
 N:List Str
 sc:Scope
 df:Bool
 q:Str
structure Fi where
 name:Str
 qual:Str
 st:Stmt
 N:List Str
 ps:List Str
structure Pg where
 fn:List Fi
 ct:List (Str×D)
 bn:List Str
 cls:List Str:=[]
 lam:Bool:=false
 gU:List Addr:=[]
 kt:Str:=Str.empty
 ups:List (Str×List (Addr×Bool)):=[]
abbrev J1(K:Frag)(mg:Str->Option Value)(n:Str)(bE:Value):Prop:=
 ∃c q,bE=.ref c/\(∀b:Heap,K.In b->PySem.W.CodeHd b c q)/\(q,gK n)∈cH K/\(∀b:Heap,K.In b->b.BuiltinsAt mg q)/\mainGlobals≠q/\∀p∈cH K,p.1=q->p.2=gK n
structure uH(P:Pg)(K:Frag)(mg:Str->Option Value):Prop where
 fn:∀(i:Nat) (fi:Fi),P.fn[i]?=!fi->∃f fd,mg fi.name=!(.ref f)/\Lv K fi.name fi.qual fi.st f fd/\bY fi.N fi.ps (aE fi.st)/\L2.Binds K fd fi.ps []/\(fi.name==(~~~3))=false
 ct:∀(x:Str) (d:D),(x,d)∈P.ct->(x==(~~~3))=false/\∃v u,mg x=!u/\RelV v u/\∀M H,Rep K M H d v
 bn:∀x∈P.bn,mg x=none
 cls:∀x∈P.cls,(x==(~~~3))=false/\∃C,mg x=!(.ref C)/\eK K C
 lam:P.lam=true->∀n∈iI,∀bE,PySem.W.codeIn K bE n=true->J1 K mg n bE
 gU:∀(i:Nat) (C:Addr),P.gU[i]?=!C->∃x,P.cls[i]?=!x/\mg x=!(.ref C)/\eK K C/\Hi K C
 kt:P.lam=true->(P.kt==(~~~3))=false/\∃D,mg P.kt=!(.ref D)/\eK K D/\∀C∈P.gU,rD K C D=true
 ups:∀(x:Str) (l:List (Addr×Bool)),(x,l)∈P.ups->(x==(~~~3))=false/\∃cv,((mg x=!cv/\∃D,cv=.ref D)\/(x∈P.bn/\x≠ "__name__" /\bootBuiltins x=!cv/\∃n,cv=.type n))/\PySem.W.kitOne K (.type "NoneType") cv=!false/\∀C b,l.lookup C=!b->PySem.W.kitOne K (.ref C) cv=!b
structure aU(P:Pg)(k:Nat)(X:Cx)(c:Ct):Prop where
 N:X.N=c.N
 nd:c.N.Nodup
 Yy:∀x,c.sc.names.lookup x=some .local->X.env.scope.names.lookup x=some .local
 n6:∀x,c.sc.names.lookup x=some .globalImplicit->Gl X x
 fre:∀x,c.sc.names.lookup x=some .cell\/c.sc.names.lookup x=some .free->X.env.scope.names.lookup x=some .cell\/X.env.scope.names.lookup x=some .free
 cel:c.df=true->∀x,c.sc.names.lookup x=some .cell->X.env.scope.names.lookup x=some .cell
 fn:∀x,c.df=true\/c.sc.names.lookup x=some .local->X.fn x=true
 bk:c.df=true->X.env.blockKind=.function
 calm:X.calm=true
 xe:X.xe=λ_ _=>False
 md:uH P X.K X.mg
 room:cC k X.A
 lam:c.q∈iI->P.lam=true->X.env.qual ++ "<lambda>"=gK c.q/\J1 X.K X.mg c.q X.env.code
abbrev iB(sc:Scope)(x:Str):Bool:=match sc.names.lookup x with |some .local=>true |some .cell=>true |some .free=>true |_=>false
abbrev cE(c:Ct)(x:Str):Bool:=match c.sc.names.lookup x with |some .local=>true |some .cell=>c.df |_=>false
abbrev bu(x:Str):Bool:=(not ((x==(~~~3))))&&(not ((x==("__classdict__":Str))))
section
def aU.vis(h:aU P k X c)(hv:iB c.sc x=true):g9 X.env.scope x:=by
 delta iB at hv;split at hv
 . ext e;show .inl (h.Yy x e)
 . ext e;show (h.fre x (.inl e)).elim (λq=>.inr (.inl q)) λq=>.inr (.inr q)
 . ext e;show (h.fre x (.inr e)).elim (λq=>.inr (.inl q)) λq=>.inr (.inr q)
 . cases hv
def aU.nm(h:aU P k X c)(hi:c.N[i]?=!x)(hs:cE c x=true):jB X x i:=by
 apply#[h.N▸h.nd,by rw[h.N];show hi,?_,.inl (h.fn x ?_)]
 .
  delta cE at hs;split at hs
  . ext e;show .inl (h.Yy x e)
  . ext e;show .inr (h.cel hs x e)
  . cases hs
 .
  delta cE at hs;split at hs
  . ext e;show .inr e
  . show .inl hs
  . cases hs
def bq(h:bu x=true):(x==(~~~3))=false/\(x==("__classdict__":Str))=false:=by delta bu at h;simp only[hU,Cc]at h;show h
def dU{α:Type}{f:Int->Int->Option α}{a b:D}{r:α}(h:n5 f a b=!r):∃i j,a=.int i/\b=.int j/\f i j=!r:=by
 delta n5 at h;split at h
 .
  split at h
  . show#[_,_,rfl,rfl,h]
  . symm
 . symm
def Pb{d1 d2:D}{r:R}(hK:z.K=X.K)(h:Pa d1 d2=!r):nW X z (binaryOp .Add) d1 d2 r:=by
 delta Pa at h;split at h
 .
  split at h
  . symm;show Ba GL
  . symm
 .
  split at h
  .
   split at h
   . ext hc;symm;show Ux hc
   . symm
  . symm
 .
  split at h
  .
   split at h
   . ext hc;symm;show Ng hK hc
   . symm
  . symm
 . symm
def J2:nQ X (binaryOp .FloorDiv) (rI (λ_ j=>0<j/\j<18446744073709551616) λi j=>.int (i / j)):=opI λi j _ _ _ _ _ hc q=>by
 have h1:0<j/\j<18446744073709551616:=hc;apply floordiv_int ⋯ (by rw[Int.fdiv_eq_ediv_of_nonneg i ⋯];show q) (.inl (PyProof.noPylong_of_log2 ?_))
 have h2:j.natAbs.log2<64:=(Nat.log2_lt ⋯).mpr (by exact _<18446744073709551616;lia)
 lia
def Ph{d1:D}{k:Int}{r:R}(hK:z.K=X.K)(h:JW d1 k=!r):nW X z (binaryOp .Mult) d1 (.int k) r:=by
 delta JW at h;split at h
 .
  split at h
  . ext hc;symm;apply um Tz ?_;delta JV at hc;simp only[AV,hU,mM]at hc;show hc
  . symm
 .
  split at h
  . ext hc;symm;show Uy hc.1 hc.2.1 hc.2.2
  . symm
 . symm
def V8(hK:z.K=X.K)(h:uG op d1 d2=!r):nW X z (binaryOp op) d1 d2 r:=by
 cases op with
 |Add=>show Pb hK h
 |Sub=>let(i,j,rfl,rfl,h'):=dU h;cases h';show Ba Tw
 |Mult=>
  dsimp only[uG]at h;split at h
  . show Ph hK h
  . symm
 |FloorDiv=>
  let(i,j,rfl,rfl,h'):=dU h;split at h'
  . ext hc;cases h';show um J2 hc
  . cases h'
 |Mod=>
  let(i,j,rfl,rfl,h'):=dU h;split at h'
  . ext hc;cases h';show um TF hc
  . cases h'
 |Pow=>
  let(i,j,rfl,rfl,h'):=dU h;split at h'
  . ext hc;cases h';show um tV #[hc.1,by have:=hc.2.1;lia,hc.2.2]
  . cases h'
 |_=>symm
def jY(hK:z.K=X.K)(hr:cC k X.A)(h:fH op d1 d2=!b):nW X z (compareOp op) d1 d2 (.dat (.bl b)):=by
 have hu:=hr.un;cases op with
 |Eq=>
  dsimp only[fH]at h;split at h
  . ext hc;symm;simp only[lu,hU]at hc;show ZN hK hc.1.1 hc.1.2 (by have:=hc.2;lia)
  . symm
 |NotEq=>
  dsimp only[fH]at h;split at h
  . ext hc;symm;simp only[lu,hU]at hc;show ZQ hK hc.1.1 hc.1.2 (by have:=hc.2;lia)
  . symm
 |Lt=>
  dsimp only[fH,ltF]at h;split at h
  .
   split at h
   . symm;show yQ Zj
   . symm
  .
   split at h
   .
    split at h
    .
     ext h1;split at h
     . ext h2;symm;show UL hK ⋯ h1 h2
     . symm
    . symm
   . symm
  . symm
 |LtE=>let(i,j,rfl,rfl,h'):=dU h;cases h';show yQ Zm
 |GtE=>let(i,j,rfl,rfl,h'):=dU h;cases h';show yQ Zn
 |In=>
  dsimp only[fH]at h;split at h
  .
   ext hs;split at h
   . ext hc;symm;simp only[rH,hU]at hc;show ZS hK hs hc.1.1 hc.1.2 (by have:=hc.2;lia)
   . symm
  . symm
 |NotIn=>
  dsimp only[fH]at h;split at h
  .
   ext hs;split at h
   . ext hc;symm;simp only[rH,hU]at hc;show Hy hK hs hc.1.1 hc.1.2 (by have:=hc.2;lia)
   . symm
  . symm
 |_=>symm
def V9(hK:z.K=X.K)(hr:X.A.units+1<cLine)(h:wM d1 d2=!d):Yj X z d1 d2 (.dat d):=by
 delta wM at h;split at h
 . show UG hK h
 . show UJ hK h
 . show Nh hK h
 .
  split at h
  . ext e;symm;show VR e
  . symm
 . symm
abbrev blV:Bl->Str×Value
 |.len=>("len",.builtin "len")
 |.list=>("list",.type "list")
 |.tuple=>("tuple",.type "tuple")
 |.max=>("max",.builtin "max")
 |.min=>("min",.builtin "min")
 |.str=>("str",.type "str")
 |.all=>("all",.builtin "all")
 |.any=>("any",.builtin "any")
 |.int=>("int",.type "int")
 |.sorted=>("sorted",.builtin "sorted")
 |.sum=>("sum",.builtin "sum")
def Wa{b:Bl}{d:D}{r:R}(hK:z.K=X.K)(hc:X.calm=true)(hr:X.A.units+6<cLine)(h:RV b d=!r):CallD X z (blV b).2 [d] r:=by
 cases b <;> dsimp only[RV]at h
 case len=>
  split at h
  . ext e;symm;show UT hK e
  . symm
 case list=>
  split at h
  . ext e;symm;show Ni hK e
  . symm
 case tuple=>
  split at h
  . ext e;symm;show HB hK e
  . symm
 case max=>
  split at h
  .
   split at h
   . ext e2;symm;show Od hc e2
   . symm
  . symm
 case min=>
  split at h
  .
   split at h
   . ext e2;symm;show Oc hc e2
   . symm
  . symm
 case all=>
  split at h
  .
   split at h
   . ext e;symm;show U1 hc e
   . symm
  . symm
 case sorted=>
  repeat' split at h
  all_goals try contradiction
  . ext e2 e3;symm;show DR hK e2 e3
  . ext e2 e3;symm;show yZ hK e2 e3
 all_goals symm
def Wc{b:Bl}{ds:List D}{r:R}(hK:z.K=X.K)(hc:X.calm=true)(hr:X.A.units+6<cLine)(h:nF b ds=!r):CallD X z (blV b).2 ds r:=by
 delta nF at h;split at h
 . show Wa hK hc hr h
 .
  cases b with
  |max=>let(i,j,rfl,rfl,h'):=dU h;cases h';show UW hc
  |min=>let(i,j,rfl,rfl,h'):=dU h;cases h';show U0 hc
  |_=>symm
 . symm
abbrev uI:List String:=["int", "bool", "str", "tuple", "list", "dict"]
def wV{K:Frag}{M:List Addr}{H:Hp}{v:V}{d:D}(p:Pk K M H d v){n:String}(hn:n∈uI):PySem.W.kitOne K (Gg d) (.type n)=!(jX (yp d) n):=by
 cases d with
 |nU C=>
  cases p with
  |of q=>
   cases q with
   |nU k _ _=>apply (k.kit n hn).trans ?_;delta uI at hn;simp only[d6,n0,C6]at hn;rcases hn with rfl |rfl |rfl |rfl |rfl |rfl <;> first |rfl |decide
 |_=>delta uI at hn;simp only[d6,n0,C6]at hn;rcases hn with rfl |rfl |rfl |rfl |rfl |rfl <;> first |rfl |decide
def sS{K:Frag}{M:List Addr}{H:Hp}{v:V}{d:D}(p:Pk K M H d v):∀{ns:List String},(∀n∈ns,n∈uI)->PySem.W.kitAny K (Gg d) (ns.map Value.type)=!(ns.any (jX (yp d)))
 | [],_=>rfl
 |n::ns,h=>by
  exact (match PySem.W.kitOne K (Gg d) (.type n)with |some true=>!true |some false=>PySem.W.kitAny K (Gg d) (ns.map Value.type) |none=>none)=_
  rw[wV p (h n dA),sS p λm hm=>h m (bP _ hm),List.any_cons]
  cases jX (yp d) n <;> rfl
end
abbrev qB(sc scope:Scope):Bool:=decide (scope.kind=.function)&&scope.names.all λy=>decide (y.2≠.cell)&&(decide (y.2≠.local)||decide (scope.names.lookup y.1=some .local)) &&
 (decide (y.2≠.free)||(decide (scope.names.lookup y.1=some .free)&&(decide (sc.names.lookup y.1=some .cell)||decide (sc.names.lookup y.1=some .free))))
abbrev iT(N N':List Str)(scope:Scope)(k:Nat):Bool:=decide (N'.length=N.length+(k+1))&&(match N'[N.length+k]? with |some x=>decide (scope.names.lookup x=none) |none=>true) &&
 (List.range N.length).all λi=>match N'[i]? with |some x=>decide (scope.names.lookup x=none)||(decide (N[i]?=!x)&&decide (scope.names.lookup x≠some .local)) |none=>true
inductive Fp(c:Ct):List Expr->List Nat->Prop
 |nil:Fp c [] []
 |cons {x:Str}{i:Nat}{pos:Pos}{es:List Expr}{is:List Nat}:c.N[i]?=!x->cE c x=true->Fp c es is->Fp c (.Name x pos::es) (i::is)
inductive Fq(P:Pg)(c:Ct):List Expr->List String->Prop
 |nil:Fq P c [] []
 |cons {T:Str}{n:String}{pos:Pos}{es:List Expr}{ns:List String}:T∈P.bn->c.sc.names.lookup T=some .globalImplicit->T=Str.ofString n->n∈uI->Fq P c es ns->Fq P c (.Name T pos::es) (n::ns)
inductive zP(c:Ct):Expr->Tg->Prop
 |nm:c.N[i]?=!x->cE c x=true->zP c (.Name x pos) (.nm i)
 |tp:Fp c es is->zP c (.Tuple es k pos) (.tp is)
abbrev Pj(c:Ct)(y:Str)(py pos:Pos)(scope:Scope):Bool:=(c.sc.names.lookup y==some .local)&&py.line==pos.line&&(not ((scope.names.any λ(n,k)=>n==y&&(k==.local||k==.cell))))
abbrev nmW(e:Expr):Option Str:=match e with |.Name x _=>!x |_=>none
abbrev tpN(n:Nat)(e:Expr):Bool:=match e with |.Tuple vs _ _=>decide (vs.length=n) |_=>false
abbrev celN(c:Ct)(a:Expr):Bool:=match nmW a with |some x=>decide (c.sc.names.lookup x=some .cell) |none=>false
abbrev Pn(c:Ct)(es:List Expr)(e:Expr):Bool:=tpN es.length e&&(c.df&&es.any (celN c))
inductive zQ(R:Expr->Ex->Prop):List Expr->List Ex->Prop
 |nil:zQ R [] []
 |cons {e:Expr}{es:List Expr}{x:Ex}{xs:List Ex}:R e x->zQ R es xs->zQ R (e::es) (x::xs)
inductive BL(R:Expr->Ex->Prop):List Expr->Option Ex->Prop
 |none:BL R [] Option.none
 |some {e:Expr}{x:Ex}:R e x->BL R [e] (Option.some x)
inductive uJ(P:Pg)(R:Expr->Ex->Prop)(c:Ct):Expr->Ex->Prop
 |seq:R e x->uJ P R c e x
 |cV:R a xa->("range":Str)∈P.bn->c.sc.names.lookup ("range":Str)=some .globalImplicit->uJ P R c (.Call (.Name "range" p) [a] [] pos) (.cV xa)
 |iA:R a xa->R b xb->("range":Str)∈P.bn->c.sc.names.lookup ("range":Str)=some .globalImplicit->uJ P R c (.Call (.Name "range" p) [a,b] [] pos) (.iA xa xb)
 |zip:R a xa->R b xb->("zip":Str)∈P.bn->c.sc.names.lookup ("zip":Str)=some .globalImplicit->uJ P R c (.Call (.Name "zip" p) [a,b] [] pos) (.zip xa xb)
 |enum:R a xa->("enumerate":Str)∈P.bn->c.sc.names.lookup ("enumerate":Str)=some .globalImplicit->uJ P R c (.Call (.Name "enumerate" p) [a] [] pos) (.enum xa)
abbrev zR(e:Expr):Option Str:=match e with |.Name x _=>!x |_=>none
def qE{e:Expr}{x:Str}(h:zR e=!x):∃p,e=.Name x p:=by cases e <;> first | (symm;show#[_,rfl]) |symm
abbrev J3{α:Type}(l:List α):Option α:=match l with | [a]=>!a |_=>none
def oK{α:Type}{l:List α}{a:α}(h:J3 l=!a):l=[a]:=by
 cases l with
 |nil=>symm
 |cons b l=>cases l with
  |nil=>symm;rfl
  |cons _ _=>symm
abbrev asgV(s:Stmt):Option (List Expr×Expr):=match s with |.Assign ts e _=>!(ts,e) |_=>none
def Pp{s:Stmt}{r:List Expr×Expr}(h:asgV s=!r):∃p,s=.Assign r.1 r.2 p:=by cases s <;> first | (symm;show#[_,rfl]) |symm
abbrev cstV(e:Expr):Option Const:=match e with |.Constant c _ _=>!c |_=>none
def Pq(h:cstV e=!c):∃j p,e=.Constant c j p:=by cases e <;> first | (symm;show#[_,_,rfl]) |symm
abbrev nonV(c:Const):Option Unit:=match c with |.none=>!() |_=>none
def Pu(h:nonV c=!()):c=.none:=by cases c <;> first |rfl |symm
abbrev expV(s:Stmt):Option Expr:=match s with |.Expr e _=>!e |_=>none
def Pw{s:Stmt}{e:Expr}(h:expV s=!e):∃p,s=.Expr e p:=by cases s <;> first | (symm;show#[_,rfl]) |symm
abbrev calV(e:Expr):Option (Expr×List Expr×List Keyword):=match e with |.Call f as ks _=>!(f,as,ks) |_=>none
def Px{e:Expr}{r:Expr×List Expr×List Keyword}(h:calV e=!r):∃p,e=.Call r.1 r.2.1 r.2.2 p:=by cases e <;> first | (symm;show#[_,rfl]) |symm
abbrev tryV(s:Stmt):Option (List Stmt×List ExceptHandler×List Stmt×List Stmt):=match s with |.Try b h o f _=>!(b,h,o,f) |_=>none
def Py{s:Stmt}{r:List Stmt×List ExceptHandler×List Stmt×List Stmt}(h:tryV s=!r):∃p,s=.Try r.1 r.2.1 r.2.2.1 r.2.2.2 p:=by cases s <;> first | (symm;show#[_,rfl]) |symm
abbrev J4{α:Type}(l:List α):Option Unit:=match l with | []=>!() |_=>none
def oM{α:Type}{l:List α}(h:J4 l=!()):l=[]:=by cases l with |nil=>rfl |cons _ _=>symm
abbrev hanV(h:ExceptHandler):Option (Expr×Str×List Stmt):=match h with |.ExceptHandler t n b _=>t.bind λt=>n.bind λn=>!(t,n,b)
def Pz{h:ExceptHandler}{r:Expr×Str×List Stmt}(e:hanV h=!r):∃p,h=.ExceptHandler (!r.1) (!r.2.1) r.2.2 p:=by
 let(t,n,b,p):=h;cases t with
 |none=>cases e
 |some t=>cases n with
  |none=>cases e
  |some n=>cases e;show#[p,rfl]
abbrev BP(s:Stmt):Option (Str×Expr):=(asgV s).bind λr=>(J3 r.1).bind λt=>(zR t).bind λx=>!(x,r.2)
def wW{s:Stmt}{r:Str×Expr}(h:BP s=!r):∃p q,s=.Assign [.Name r.1 p] r.2 q:=by delta BP at h;simp only[gL]at h;let((ts,e),h1,t,h2,x,h3,h4):=h;cases h4;let(p,rfl):=Pp h1;let(q,rfl):=qE h3;have:=oK h2;subst this;show#[q,p,rfl]
abbrev Wd(l:List Stmt):Option Str:=(J3 l).bind λs3=>(expV s3).bind λce=>(calV ce).bind λf=>(J4 f.2.1).bind λ_=>(J4 f.2.2).bind λ_=>zR f.1
def PB{l:List Stmt}{y:Str}(h:Wd l=!y):∃py cp ep,l=[.Expr (.Call (.Name y py) [] [] cp) ep]:=by replace h:=gL.1 h;let(s3,h1,h):=h;cases oK h1;clear h1;replace h:=gL.1 h;let(ce,h1,h):=h;let(p,e1):=Pw h1;cases e1;clear h1;replace h:=gL.1 h;let((f1,f2,f3),h1,h):=h;let(q,e1):=Px h1;cases e1;clear h1;replace h:=gL.1 h;let(_,h1,h):=h;replace h:=gL.1 h;let(_,h2,h):=h;let(r,e1):=qE h;show#[r,q,p,by have a:=oM h1;have b:=oM h2;dsimp only at a b e1 ⊢;rw[a,b,e1]]
abbrev Wf(l:List ExceptHandler):Option (Str×Str×Str×Str):=(J3 l).bind λhh=>(hanV hh).bind λu=>(zR u.1).bind λke=>(J3 u.2.2).bind λs4=>(BP s4).bind λb=>(zR b.2).bind λYz=>!(ke,u.2.1,b.1,Yz)
def PJ{l:List ExceptHandler}{r:Str×Str×Str×Str}(h:Wf l=!r):∃kp wA wz ap hp,l=[.ExceptHandler (!(.Name r.1 kp)) (!r.2.1) [.Assign [.Name r.2.2.1 wA] (.Name r.2.2.2 wz) ap] hp]:=by replace h:=gL.1 h;let(hh,h1,h):=h;cases oK h1;clear h1;replace h:=gL.1 h;let((u1,u2,u3),h1,h):=h;let(p,e1):=Pz h1;cases e1;clear h1;replace h:=gL.1 h;let(ke,h1,h):=h;let(q,e1):=qE h1;cases e1;clear h1;replace h:=gL.1 h;let(s4,h1,h):=h;cases oK h1;clear h1;replace h:=gL.1 h;let((b1,b2),h1,h):=h;let(m,n,e1):=wW h1;cases e1;clear h1;replace h:=gL.1 h;let(en,h1,h):=h;let(o,e1):=qE h1;cases e1;clear h1;symm;show#[q,m,o,n,p,rfl]
abbrev nonS(s:Stmt):Option Str:=(BP s).bind λa=>(cstV a.2).bind λc=>(nonV c).bind λ_=>!a.1
def PK(h:nonS s=!x):∃p j np ap,s=.Assign [.Name x p] (.Constant .none j np) ap:=by replace h:=gL.1 h;let((a1,a2),h1,h):=h;let(p,q,e1):=wW h1;cases e1;clear h1;replace h:=gL.1 h;let(c,h1,h):=h;let(j,m,e1):=Pq h1;cases e1;clear h1;replace h:=gL.1 h;let(_,h1,h):=h;cases Pu h1;clear h1;symm;show#[p,j,m,q,rfl]
abbrev tryS(s:Stmt):Option (Str×Str×Str×Str×Str):=(tryV s).bind λt=>(J4 t.2.2.1).bind λ_=>(J4 t.2.2.2).bind λ_=>(Wd t.1).bind λy=>(Wf t.2.1).bind λu=>!(y,u)
def PL{s:Stmt}{r:Str×Str×Str×Str×Str}(h:tryS s=!r):∃l hs p,Wd l=!r.1/\Wf hs=!r.2/\s=.Try l hs [] [] p:=by replace h:=gL.1 h;let((t1,t2,t3,t4),h1,h):=h;let(p,e1):=Py h1;cases e1;clear h1;replace h:=gL.1 h;let(_,h1,h):=h;cases oM h1;clear h1;replace h:=gL.1 h;let(_,h1,h):=h;cases oM h1;clear h1;replace h:=gL.1 h;let(y,h1,h):=h;replace h:=gL.1 h;let(u,h2,h):=h;symm;show#[t1,t2,p,h1,h2,rfl]
abbrev Wg(l:List Stmt):Option (Str×Str×Str×Str×Str×Str):=match l with
 |s1::s2::_=>(nonS s1).bind λa=>(tryS s2).bind λt=>!(a,t)
 |_=>none
def PN(h:Wg l=!(er,y,ke,en,PX,Yz)):∃Eo j np Yq py bN qY kp wA wz cF oq jk rest,l=.Assign [.Name er Eo] (.Constant .none j np) Yq::.Try [.Expr (.Call (.Name y py) [] [] bN) qY] [.ExceptHandler (!(.Name ke kp)) (!en) [.Assign [.Name PX wA] (.Name Yz wz) cF] oq] [] [] jk::rest:=by
 delta Wg at h;split at h
 . replace h:=gL.1 h;let(a,h1,h):=h;replace h:=gL.1 h;let(t,h2,h):=h;symm;let(p,j,np,ap,e1):=PK h1;let(l,hs,tp,h3,h4,e2):=PL h2;let(py,cp,ep,e3):=PB h3;let(kp,wA,wz,ap',hp,e4):=PJ h4;show#[p,j,np,ap,py,cp,ep,kp,wA,wz,ap',hp,tp,_,by rw[e1,e2,e3,e4]]
 . symm
abbrev J5(fi:Fi)(ir:Nat)(kt:Str):Bool:=match Wg (bA fi.st)with
 |!(er,y,ke,en,PX,Yz)=>decide ((ke=kt/\PX=er/\Yz=en/\fi.ps=[y])/\((aE fi.st).names.lookup ke=some .globalImplicit/\fi.N[fi.N.idxOf en]?=!en/\(aE fi.st).names.lookup en=some .local)/\(fi.N[ir]?=!er/\fi.N[0]?=!y)/\(fi.N.idxOf en≠ir/\fi.N.idxOf en≠0/\ir≠0))&&((bu en&&bu y)&&(iB (aE fi.st) y&&cE #[fi.N,aE fi.st,true,fi.qual] er))
 |none=>false
abbrev Ft(params:Arguments)(scope:Scope):Bool:=((not scope.isCoroutine)&&(not scope.isGenerator))&&(decide (scope.kind=.function)&&((scope.names.all λy=>decide (y.2≠.cell)&&decide (y.2≠.local))&&((params.posonlyargs.isEmpty&&params.args.isEmpty)&&(params.vararg.isNone&&(params.kwonlyargs.isEmpty&&(params.kw_defaults.isEmpty&&(params.kwarg.isNone&&params.defaults.isEmpty)))))))
def uK(h:Ft params scope=true):eE params scope:=by let(a,b,c,d,e,f,g):=params;simp only[Ft,hU,Cc,mM,i8,CA,Option.isNone_iff_eq_none]at h;let(h,h1,h2,(rfl,rfl),rfl,rfl,rfl,rfl,rfl):=h;show#[h.1,h.2,h1,λx hx=>(h2 x hx).1,λx hx=>(h2 x hx).2,rfl]
meta abbrev p0:Pos:=#[0,0,0,0]
inductive nG(R:Expr->Ex->Prop)(fx:Str)(f ir:Nat)(ca:List Addr):List Lt->List Ex->Prop
 |nil:nG R fx f ir ca [] []
 |cons {l:Lt}{ls:List Lt}{e:Ex}{es:List Ex}:R (.Call (.Name fx p0) [l.ex] [] p0) (.lq f ir [] e)->nG R fx f ir ca ls es->nG R fx f ir ca (l::ls) (e::es)
structure BlR(c:Ct)(fx:Str)(scope:Scope)(N':List Str)(v:Str)(k j:Nat):Prop where
 lt:j<k
 bl:qB c.sc scope=true
 nm:iT c.N N' scope k=true
 nd:N'.Nodup
 ix:N'[c.N.length+j]?=!v
 st:cE #[N',scope,false,Str.empty] v=true
 vi:iB scope v=true
 pl:bu v=true
 gl:scope.names.lookup fx=some .globalImplicit
inductive P0(RS:Stmt->Sm->Prop)(ce:Expr):Stmt->Bool->List Sm->Prop
 |ite {s:Stmt}{x:Sm}{pos:Pos}:RS s x->P0 RS ce (.If ce [s] [] pos) false [x]
 |ret {pos:Pos}:P0 RS ce (.Return (!ce) pos) true []
inductive zT(RG:List Stmt->Sm->Prop)(RS:Stmt->Sm->Prop):List Stmt->List Sm->Prop
 |nil:zT RG RS [] []
 |grp {ss rest:List Stmt}{x:Sm}{xs:List Sm}:RG ss x->zT RG RS rest xs->zT RG RS (ss++rest) (x::xs)
 |cons {s:Stmt}{ss:List Stmt}{x:Sm}{xs:List Sm}:RS s x->zT RG RS ss xs->zT RG RS (s::ss) (x::xs)
abbrev wX(k:Scope->Pos->Bool)(e:Expr):Bool:=match e with |.ListComp _ _ s p=>k s p |.DictComp ..=>true |_=>false
def ak{a b:Bool}(h:(a&&b)=true):a=true/\b=true:=by cases a <;> cases b <;> first |show#[rfl,rfl] |symm
def dec{p:Prop} [Decidable p] (h:decide p=true):p:=mB h
def jZ(h:((not b))=true):b=false:=by cases b <;> first |rfl |symm
def uL{α:Type}{l:List α}(h:l.isEmpty=true):l=[]:=by cases l with |nil=>rfl |cons _ _=>symm
def two{α:Type}{l:List α}(h:2<=l.length):∃a b m,l=a::b::m:=by
 cases l with
 |nil=>show absurd h (Nat.not_succ_le_zero 1)
 |cons a l=>cases l with
  |nil=>show absurd h (Nat.not_succ_le_self 1)
  |cons b m=>show#[a,b,m,rfl]
abbrev YB(c:Ct)(x:Str):Bool:=decide (c.sc.names.lookup x=some .globalImplicit)
abbrev wY(P:Pg)(c:Ct)(x:Str):Bool:=P.bn.contains x&&YB c x
def aP(h:wY P c x=true):x∈P.bn/\c.sc.names.lookup x=some .globalImplicit:=#[Bi.mp (ak h).1,dec (ak h).2]
abbrev nm(c:Ct)(i:Nat):Str:=c.N.getD i Str.empty
abbrev iU(c:Ct)(i:Nat):Bool:=decide (c.N[i]?=!(nm c i))&&(iB c.sc (nm c i)&&bu (nm c i))
abbrev YC(c:Ct)(i:Nat):Bool:=decide (c.N[i]?=!(nm c i))&&cE c (nm c i)
def fT(h:iU c i=true):c.N[i]?=!(nm c i)/\iB c.sc (nm c i)=true/\bu (nm c i)=true:=#[dec (ak h).1,(ak (ak h).2).1,(ak (ak h).2).2]
abbrev bang(x:Str):Str:=#[x.cps.push 33]
abbrev bangs(n:Nat):Str:=#[(List.replicate n 33).toArray]
abbrev iV(scope:Scope):List Str:=scope.names.filterMap λy=>if y.2==.local then some y.1 else none
abbrev iW(N:List Str)(scope:Scope):List Str:=(N.map λy=>if scope.names.lookup y==some .local then bang y else y)++iV scope++[bangs (N.length+1)]
abbrev uM:List Str->Bool
 | []=>true
 |x::l=>(not (l.contains x))&&uM l
def gw:∀{l:List Str},uM l=true->l.Nodup
 | [],_=>o6
 |x::l,h=>by
  apply gN.mpr #[λhm=>?_,gw (ak h).2]
  have:=(ak h).1;rw[Bi.mpr hm]at this;cases this
abbrev kids(e:Expr):List Expr:=match e with
 |.BoolOp _ vs _=>vs
 |.BinOp a _ b _=>[a,b]
 |.UnaryOp _ a _=>[a]
 |.Lambda _ b _ _=>[b]
 |.IfExp t a b _=>[t,a,b]
 |.ListComp e gs _ _=>e::gs.flatMap λg=>g.target::g.iter::g.ifs
 |.SetComp e gs _ _=>e::gs.flatMap λg=>g.target::g.iter::g.ifs
 |.DictComp e v gs _ _=>e::v::gs.flatMap λg=>g.target::g.iter::g.ifs
 |.Compare a _ bs _=>a::bs
 |.Call f as ks _=>f::(as++ks.map (·.value))
 |.Dict ks vs _=>ks.filterMap id++vs
 |.FormattedValue v _ _ _=>[v]
 |.JoinedStr vs _=>vs
 |.Attribute v _ _=>[v]
 |.Subscript a b _=>[a,b]
 |.List es _=>es
 |.Tuple es _ _=>es
 |.Slice a b s p=>[a.getD (.Name Str.empty p),b.getD (.Name Str.empty p),s.getD (.Name Str.empty p)]
 |_=>[]
abbrev kid(e:Expr)(i:Nat):Expr:=(kids e).getD i e
abbrev uN(e:Expr):Nat:=match e with |.Constant _ k _=>k |.Tuple _ k _=>k |_=>0
abbrev cN(e:Expr):Scope:=match e with |.Lambda _ _ s _=>s |.ListComp _ _ s _=>s |.SetComp _ _ s _=>s |.DictComp _ _ _ s _=>s |_=>aE (.Pass e.pos)
abbrev Wh(e:Expr):Arguments:=match e with |.Lambda a _ _ _=>a |_=>default
abbrev opT(e:Expr):Operator:=match e with |.BinOp _ o _ _=>o |_=>.Add
abbrev eF(c:Ct)(t:Expr):Ct:=#[iW c.N (cN t),cN t,false,Str.empty]
abbrev Wi(c:Ct)(t:Expr):Ct:=#[c.N,cN t,false,Str.empty]
abbrev qF(P:Pg)(i:Nat):Str:=match P.fn[i]? with |some fi=>fi.name |none=>Str.empty
def oN(h:P.fn[i]?.isSome=true):∃fi,P.fn[i]?=!fi/\fi.name=qF P i:=by
 delta qF;cases e:P.fn[i]? with
 |none=>rw[e]at h;symm
 |some g=>show#[g,rfl,rfl]
section
variable{R:Expr->Ex->Prop}{s:Ex->Expr->Expr}{f:Ex->Expr->Bool}(hf:∀{x t},f x t=true->R (s x t) x)
include hf
abbrev j9(s:Ex->Expr->Expr)(t:Expr):Nat->List Ex->List Expr
 |_,[]=>[]
 |i,x::xs=>s x (kid t i)::j9 s t (i+1) xs
abbrev P1(f:Ex->Expr->Bool)(t:Expr):Nat->List Ex->Bool
 |_,[]=>true
 |i,x::xs=>f x (kid t i)&&P1 f t (i+1) xs
def dF(h:P1 f t i xs=true):zQ R (j9 s t i xs) xs:=by
 induction xs generalizing i with
 |nil=>show .nil
 |cons x xs ih=>show .cons (hf (ak h).1) (ih (ak h).2)
abbrev YD(f:Ex->Expr->Bool)(t:Expr)(x:Option Ex):Bool:=match x with |some x=>f x t |none=>true
abbrev uO(s:Ex->Expr->Expr)(t:Expr)(x:Option Ex):List Expr:=match x with |some x=>[s x t] |none=>[]
def zU(h:YD f t x=true):BL R (uO s t x) x:=by
 cases x with
 |none=>show .none
 |some x=>show .some (hf h)
end
abbrev rJ(s:Ex->Expr->Expr)(x:Ex)(t:Expr):Expr:=match x with
 |.cV a=>.Call (.Name "range" (kid t 0).pos) [s a (kid t 1)] [] t.pos
 |.iA a b=>.Call (.Name "range" (kid t 0).pos) [s a (kid t 1),s b (kid t 2)] [] t.pos
 |.zip a b=>.Call (.Name "zip" (kid t 0).pos) [s a (kid t 1),s b (kid t 2)] [] t.pos
 |.enum a=>.Call (.Name "enumerate" (kid t 0).pos) [s a (kid t 1)] [] t.pos
 |x=>s x t
abbrev Wj(P:Pg)(c:Ct)(f:Ex->Expr->Bool)(x:Ex)(t:Expr):Bool:=match x with
 |.cV a=>wY P c "range" && f a (kid t 1)
 |.iA a b=>wY P c "range" && (f a (kid t 1)&&f b (kid t 2))
 |.zip a b=>wY P c "zip" && (f a (kid t 1)&&f b (kid t 2))
 |.enum a=>wY P c "enumerate" && f a (kid t 1)
 |x=>f x t
def uP{P:Pg}{R:Expr->Ex->Prop}{s:Ex->Expr->Expr}{f:Ex->Expr->Bool}(hf:∀{x t},f x t=true->R (s x t) x){c:Ct}{x:Ex}{t:Expr}(h:Wj P c f x t=true):uJ P R c (rJ s x t) x:=by
 cases x
 case cV a=>show .cV (hf (ak h).2) (aP (ak h).1).1 (aP (ak h).1).2
 case iA a b=>show .iA (hf (ak (ak h).2).1) (hf (ak (ak h).2).2) (aP (ak h).1).1 (aP (ak h).1).2
 case zip a b=>show .zip (hf (ak (ak h).2).1) (hf (ak (ak h).2).2) (aP (ak h).1).1 (aP (ak h).1).2
 case enum a=>show .enum (hf (ak h).2) (aP (ak h).1).1 (aP (ak h).1).2
 all_goals show .seq (hf h)
abbrev Wk(t:Expr):Nat->List String->List Expr
 |_,[]=>[]
 |i,n::ns=>.Name (Str.ofString n) (kid t i).pos::Wk t (i+1) ns
abbrev okY(P:Pg)(c:Ct):List String->Bool
 | []=>true
 |n::ns=>(uI.contains n&&wY P c (Str.ofString n))&&okY P c ns
def Wn(h:okY P c ns=true):Fq P c (Wk t i ns) ns:=by
 induction ns generalizing i with
 |nil=>show .nil
 |cons n ns ih=>show .cons (aP (ak (ak h).1).2).1 (aP (ak (ak h).1).2).2 rfl (Bi.mp (ak (ak h).1).1) (ih (ak h).2)
abbrev zV(c:Ct)(t:Expr):Nat->List Nat->List Expr
 |_,[]=>[]
 |j,i::is=>.Name (nm c i) (kid t j).pos::zV c t (j+1) is
abbrev okN(c:Ct):List Nat->Bool
 | []=>true
 |i::is=>YC c i&&okN c is
def Wo(h:okN c is=true):Fp c (zV c t j is) is:=by
 induction is generalizing j with
 |nil=>show .nil
 |cons i is ih=>show .cons (dec (ak (ak h).1).1) (ak (ak h).1).2 (ih (ak h).2)
abbrev qG(c:Ct)(T:Tg)(t:Expr):Expr:=match T with
 |.nm i=>.Name (nm c i) t.pos
 |.tp is=>.Tuple (zV c t 0 is) (uN t) t.pos
def qH(h:okN c T.ix=true):zP c (qG c T t) T:=by
 cases T with
 |nm i=>show .nm (dec (ak (ak h).1).1) (ak (ak h).1).2
 |tp is=>show .tp (Wo h)
abbrev Wq(a b:D):Bool:=match a with |.int i=>(match b with |.int j=>decide (i=j) |_=>false) |_=>false
def P4(h:Wq a b=true):a=b:=by
 cases a with
 |int i=>cases b with
  |int j=>show congrArg D.int (dec (show decide (i=j)=true from h))
  |_=>show nt h
 |_=>show nt h
abbrev ctB(y:Str)(d:D):List (Str×D)->Bool
 | []=>false
 |p::l=>(decide (p.1=y)&&Wq p.2 d)||ctB y d l
def Wr(h:ctB y d l=true):(y,d)∈l:=by
 induction l with
 |nil=>symm
 |cons p l ih=>
  let(x,d'):=p;have hh:((decide (x=y)&&Wq d' d)||ctB y d l)=true:=h
  rcases AV _ _▸hh with h |h
  . let(h1,h2):=ak h;obtain rfl:=dec h1;rw[P4 h2];show dA
  . show bP _ (ih h)
abbrev cstD(d:D):Const:=match d with |.int i=>.int i |.bl b=>.bool b |.str y=>.str y |_=>.none
abbrev cstK(d:D):Bool:=match d with |.int _=>true |.bl _=>true |.str _=>true |.non=>true |_=>false
abbrev zW(d:D)(t:Expr):Expr:=match zR t with |some y=>.Name y t.pos |none=>.Constant (cstD d) (uN t) t.pos
abbrev okV(P:Pg)(c:Ct)(d:D)(t:Expr):Bool:=match zR t with |some y=>YB c y&&ctB y d P.ct |none=>cstK d
abbrev blK(c:Ct)(t:Expr)(k:Nat):Bool:=qB c.sc (cN t)&&(iT c.N (iW c.N (cN t)) (cN t) k&&uM (iW c.N (cN t)))
abbrev YF(c:Ct)(k:Nat)(T:Tg):Bool:=T.ix.all λi=>decide (c.N.length<=i/\i<c.N.length+k)
def zX(h:YF c k T=true):∀i∈T.ix,c.N.length<=i/\i<c.N.length+k:=λi hi=>dec (i8.mp h i hi)
abbrev o1(x:Option Ex):Nat:=match x with |some _=>1 |none=>0
abbrev Ws(P:Pg)(i ir:Nat):Bool:=match P.fn[i]? with |some fi=>J5 fi ir P.kt |none=>false
abbrev RW(e:Expr):Bool:=match e with |.Call f es ks _=>(zR f).isSome&&((not es.isEmpty)&&ks.isEmpty) |.ListComp ..=>true |_=>false
def wZ{e:Expr}(h:RW e=true):(∃x p a es pos,e=.Call (.Name x p) (a::es) [] pos)\/∃a b s p,e=.ListComp a b s p:=by
 cases e
 case Call f es ks pos=>
  let(h1,h2):=ak (show ((zR f).isSome&&((not es.isEmpty)&&ks.isEmpty))=true from h);let(x,hx):=Option.isSome_iff_exists.mp h1;let(p,rfl):=qE hx;cases es with
  |nil=>cases (ak h2).1
  |cons a es=>rw[uL (ak h2).2];show .inl #[x,p,a,es,pos,rfl]
 case ListComp a b s p=>show .inr #[a,b,s,p,rfl]
 all_goals show nt h
abbrev P5(P:Pg)(s:Ct->Ex->Expr->Expr)(c:Ct)(x:Ex)(t:Expr):Expr:=match x with
 |.val d=>zW d t
 |.slot i=>.Name (nm c i) t.pos
 |.bin op a b=>.BinOp (s c a (kid t 0)) op (s c b (kid t 1)) t.pos
 |.cmp op a b=>.Compare (s c a (kid t 0)) [op] [s c b (kid t 1)] t.pos
 |.chain a ops xs=>.Compare (s c a (kid t 0)) ops (j9 (s c) t 1 xs) t.pos
 |.not a=>.UnaryOp .Not (s c a (kid t 0)) t.pos
 |.and xs=>.BoolOp .And (j9 (s c) t 0 xs) t.pos
 |.or xs=>.BoolOp .Or (j9 (s c) t 0 xs) t.pos
 |.tup xs=>.Tuple (j9 (s c) t 0 xs) (uN t) t.pos
 |.lst xs=>.List (j9 (s c) t 0 xs) t.pos
 |.ix a b=>.Subscript (s c a (kid t 0)) (s c b (kid t 1)) t.pos
 |.call i xs=>.Call (.Name (qF P i) (kid t 0).pos) (j9 (s c) t 1 xs) [] t.pos
 |.blt b xs=>.Call (.Name (blV b).1 (kid t 0).pos) (j9 (s c) t 1 xs) [] t.pos
 |.zO a n=>.Call (.Name "isinstance" (kid t 0).pos) [s c a (kid t 1),.Name (Str.ofString n) (kid t 2).pos] [] t.pos
 |.JT a ns=>.Call (.Name "isinstance" (kid t 0).pos) [s c a (kid t 1),.Tuple (Wk (kid t 2) 0 ns) (uN (kid t 2)) (kid t 2).pos] [] t.pos
 |.comp _ _ T it co xe=>.ListComp (s (eF c t) xe (kid t 0)) [#[qG (eF c t) T (kid t 1),rJ (s c) it (kid t 2),uO (s (eF c t)) (kid t 3) co,0]] (cN t) t.pos
 |.fC _ _ T1 ju c1 T it co xe=>.ListComp (s (eF c t) xe (kid t 0)) [#[qG (eF c t) T1 (kid t 1),rJ (s c) ju (kid t 2),uO (s (eF c t)) (kid t 3) c1,0],#[qG (eF c t) T (kid t (3+o1 c1)),rJ (s (eF c t)) it (kid t (4+o1 c1)),uO (s (eF c t)) (kid t (5+o1 c1)) co,0]] (cN t) t.pos
 |.sO _ _ T1 ju c1 T it co xe=>.Call (.Name "sorted" (kid t 0).pos) [.SetComp (s (eF c (kid t 1)) xe (kid (kid t 1) 0)) [#[qG (eF c (kid t 1)) T1 (kid (kid t 1) 1),rJ (s c) ju (kid (kid t 1) 2),uO (s (eF c (kid t 1))) (kid (kid t 1) 3) c1,0],#[qG (eF c (kid t 1)) T (kid (kid t 1) (3+o1 c1)),rJ (s (eF c (kid t 1))) it (kid (kid t 1) (4+o1 c1)),uO (s (eF c (kid t 1))) (kid (kid t 1) (5+o1 c1)) co,0]] (cN (kid t 1)) (kid t 1).pos] [] t.pos
 |.emp=>.Dict [] [] t.pos
 |.peek xe=>s c xe t
 |.stk=>.BinOp (kid t 0) (opT t) (kid t 1) t.pos
 |.sP a _=>.Call (.Name "isinstance" (kid t 0).pos) [s c a (kid t 1),.Name ((zR (kid t 2)).getD Str.empty) (kid t 2).pos] [] t.pos
 |.lq i _ _ xb=>.Call (.Name (qF P i) (kid t 0).pos) [.Lambda (Wh (kid t 1)) (s (Wi c (kid t 1)) xb (kid (kid t 1) 0)) (cN (kid t 1)) (kid t 1).pos] [] t.pos
 |.wL a=>.Call (.Name "list" (kid t 0).pos) [.Call (.Name "range" (kid (kid t 1) 0).pos) [s c a (kid (kid t 1) 1)] [] (kid t 1).pos] [] t.pos
 |.append i x=>.Call (.Attribute (.Name (nm c i) (kid (kid t 0) 0).pos) "append" (kid t 0).pos) [s c x (kid t 1)] [] t.pos
 |.extend i x=>.Call (.Attribute (.Name (nm c i) (kid (kid t 0) 0).pos) "extend" (kid t 0).pos) [s c x (kid t 1)] [] t.pos
 |.qw i x=>.Call (.Attribute (.Name (nm c i) (kid (kid t 0) 0).pos) "pop" (kid t 0).pos) [s c x (kid t 1)] [] t.pos
 |_=>t
abbrev YG(t:Expr):Bool:=(kid t 0).pos.endLine==t.pos.line
abbrev ok1(P:Pg)(s:Ct->Ex->Expr->Expr)(f:Ct->Ex->Expr->Bool)(c:Ct)(x:Ex)(t:Expr):Bool:=match x with
 |.val d=>okV P c d t
 |.slot i=>iU c i
 |.bin _ a b=>f c a (kid t 0)&&f c b (kid t 1)
 |.cmp op a b=>f c a (kid t 0)&&(f c b (kid t 1)&&(not (behindInMarks op (s c b (kid t 1)))))
 |.chain a ops xs=>f c a (kid t 0)&&(P1 (f c) t 1 xs&&((not (lastMarks ops (j9 (s c) t 1 xs)))&&(decide (2<=ops.length)&&decide (2<=xs.length))))
 |.not a=>f c a (kid t 0)
 |.and xs=>P1 (f c) t 0 xs
 |.or xs=>P1 (f c) t 0 xs
 |.tup xs=>P1 (f c) t 0 xs
 |.lst xs=>P1 (f c) t 0 xs
 |.ix a b=>f c a (kid t 0)&&f c b (kid t 1)
 |.call i xs=>P.fn[i]?.isSome&&(YB c (qF P i)&&(P1 (f c) t 1 xs&&(not xs.isEmpty)))
 |.blt b xs=>wY P c (blV b).1&&(P1 (f c) t 1 xs&&(not xs.isEmpty))
 |.zO a n=>wY P c "isinstance" && (f c a (kid t 1)&&(uI.contains n&&wY P c (Str.ofString n)))
 |.JT a ns=>wY P c "isinstance" && (f c a (kid t 1)&&(decide (ns.length<=100)&&okY P c ns))
 |.comp n k T it co xe=>decide (n=c.N.length)&&(blK c t k&&(okN (eF c t) T.ix&&(YF c k T&&(Wj P c (f c) it (kid t 2)&&(YD (f (eF c t)) (kid t 3) co&&f (eF c t) xe (kid t 0))))))
 |.fC n k T1 ju c1 T it co xe=>decide (n=c.N.length)&&(blK c t k&&((okN (eF c t) T1.ix&&okN (eF c t) T.ix)&&((YF c k T1&&YF c k T)&&((Wj P c (f c) ju (kid t 2)&&YD (f (eF c t)) (kid t 3) c1)&&((Wj P (eF c t) (f (eF c t)) it (kid t (4+o1 c1))&&YD (f (eF c t)) (kid t (5+o1 c1)) co)&&f (eF c t) xe (kid t 0))))))
 |.sO n k T1 ju c1 T it co xe=>wY P c "sorted" && (decide (n=c.N.length)&&(blK c (kid t 1) k&&((okN (eF c (kid t 1)) T1.ix&&okN (eF c (kid t 1)) T.ix)&&((YF c k T1&&YF c k T)&&((Wj P c (f c) ju (kid (kid t 1) 2)&&YD (f (eF c (kid t 1))) (kid (kid t 1) 3) c1)&&((Wj P (eF c (kid t 1)) (f (eF c (kid t 1))) it (kid (kid t 1) (4+o1 c1))&&YD (f (eF c (kid t 1))) (kid (kid t 1) (5+o1 c1)) co)&&f (eF c (kid t 1)) xe (kid (kid t 1) 0)))))))
 |.emp=>true
 |.peek xe=>RW (s c xe t)&&f c xe t
 |.stk=>true
 |.sP a l=>wY P c "isinstance" && (f c a (kid t 1)&&(YB c ((zR (kid t 2)).getD Str.empty)&&decide (((zR (kid t 2)).getD Str.empty,l)∈P.ups)))
 |.lq i ir ca xb=>P.fn[i]?.isSome&&((decide (ca=P.gU)&&YB c (qF P i)||ca.isEmpty)&&((decide (c.q∈iI)&&P.lam)&&(Ws P i ir&&(qB c.sc (cN (kid t 1))&&(Ft (Wh (kid t 1)) (cN (kid t 1))&&f (Wi c (kid t 1)) xb (kid (kid t 1) 0))))))
 |.wL a=>(wY P c "range" && wY P c "list")&&f c a (kid (kid t 1) 1)
 |.append i x=>YG t&&(iU c i&&f c x (kid t 1))
 |.extend i x=>YG t&&(iU c i&&f c x (kid t 1))
 |.qw i x=>YG t&&(iU c i&&f c x (kid t 1))
 |_=>false
abbrev dM(P:Pg):Nat->Ct->Ex->Expr->Expr
 | 0=>λ_ _ t=>t
 |n+1=>P5 P (dM P n)
abbrev qZ(P:Pg):Nat->Ct->Ex->Expr->Bool
 | 0=>λ_ _ _=>false
 |n+1=>ok1 P (dM P n) (qZ P n)
abbrev Cm(P:Pg)(c:Ct)(e:Expr)(x:Ex):Prop:=∃n t,e=dM P n c x t/\qZ P n c x t=true
def Cm.mk{P:Pg}{n:Nat}{c:Ct}{x:Ex}{t:Expr}(h:qZ P n c x t=true):Cm P c (dM P n c x t) x:=#[n,t,rfl,h]
def Cm.LR(h:Cm P c e x):∃n t,e=P5 P (dM P n) c x t/\ok1 P (dM P n) (qZ P n) c x t=true:=by
 let(n,t,rfl,h):=h;cases n with
 |zero=>symm
 |succ n=>show#[n,t,rfl,h]
def Cm.notW(h:Cm P c e x):isW x=false:=by let(n,t,_,q):=h.LR;cases x <;> first |rfl |show Bool.noConfusion (show false=true from q)
meta abbrev Gp (P:Pg) (c:Ct) (es:List Expr) (xs:List Ex):Prop:=zQ (Cm P c) es xs
meta abbrev ki (P:Pg) (c:Ct) (es:List Expr) (x:Option Ex):Prop:=BL (Cm P c) es x
meta abbrev Gq (P:Pg) (c:Ct) (e:Expr) (x:Ex):Prop:=uJ P (Cm P c) c e x
abbrev ek(t:Stmt):List Expr:=match t with
 |.Return o p=>[o.getD (.Name Str.empty p)]
 |.Assign ts e _=>e::ts
 |.AugAssign a _ e _=>[a,e]
 |.For a b _ _ _=>[a,b]
 |.While a _ _ _=>[a]
 |.If a _ _ _=>[a]
 |.Raise o _ p=>[o.getD (.Name Str.empty p)]
 |.Expr e _=>[e]
 |_=>[]
abbrev aB(t:Stmt)(i:Nat):Expr:=(ek t).getD i (.Name Str.empty t.pos)
abbrev xg(t:Stmt):List Stmt:=match t with |.For _ _ b _ _=>b |.While _ b _ _=>b |.If _ b _ _=>b |_=>[]
abbrev bd1(t:Stmt):List Stmt:=match t with |.If _ _ b _=>b |_=>[]
abbrev sg(l:List Stmt)(i:Nat):Stmt:=l.getD i (.Pass p0)
abbrev noTup(e:Expr):Bool:=match e with |.Tuple _ _ _=>false |_=>true
abbrev YH(ss:List Stmt):Stmt:=sg (xg (sg ss 1)) 0
abbrev wyB(ss:List Stmt):Stmt:=sg (xg (YH ss)) 0
abbrev wyC(ss:List Stmt):Stmt:=sg (xg (wyB ss)) 0
abbrev LW(ss:List Stmt):Stmt:=sg (xg (wyC ss)) 0
abbrev wyS(p y st h o:Str)(E1 E2:Expr)(ss:List Stmt):List Stmt:=
 [.Assign [.Name y (aB (sg ss 0) 1).pos] (.Dict [!(.Name p (kid (aB (sg ss 0) 0) 0).pos)] [.Constant (.int 0) (uN (kid (aB (sg ss 0) 0) 1)) (kid (aB (sg ss 0) 0) 1).pos] (aB (sg ss 0) 0).pos) (sg ss 0).pos,
 .For (.Name st (aB (sg ss 1) 0).pos) (.Call (.Name "range" (kid (aB (sg ss 1) 1) 0).pos) [E1] [] (aB (sg ss 1) 1).pos)
  [.For (.Name h (aB (YH ss) 0).pos) (.Call (.Name "list" (kid (aB (YH ss) 1) 0).pos) [.Name y (kid (aB (YH ss) 1) 1).pos] [] (aB (YH ss) 1).pos)
   [.For (.Name o (aB (wyB ss) 0).pos) E2 [wF y o h (kid (aB (wyC ss) 0) 0).pos (kid (aB (wyC ss) 0) 1).pos (aB (wyC ss) 0).pos (kid (aB (LW ss) 1) 0).pos (kid (aB (LW ss) 1) 1).pos (aB (LW ss) 1).pos (kid (kid (aB (LW ss) 0) 0) 0).pos (kid (kid (aB (LW ss) 0) 0) 1).pos (kid (aB (LW ss) 0) 0).pos (kid (aB (LW ss) 0) 1).pos (aB (LW ss) 0).pos (LW ss).pos (wyC ss).pos (uN (kid (aB (LW ss) 0) 1))] [] (wyB ss).pos] [] (YH ss).pos] [] (sg ss 1).pos,
 .Return (!(.Name y (aB (sg ss 2) 0).pos)) (sg ss 2).pos]
inductive RX(P:Pg)(R:Expr->Ex->Prop)(RS:Stmt->Sm->Prop)(c:Ct):List Stmt->Sm->Prop
 |rows {y x mn a b tn:Str}{im it iy ia ib:Nat}{scope:Scope}{N':List Str}{k j:Nat}{lp px rp mp RJ yt ap py pa pb jk y1 y2 a1 a2 b1 b2 sp1 rF Ly JF Lz zF ep1 RD zG rpos yr tp:Pos}{tk:Nat} :
   (c.N[im]?=!mn/\iB c.sc mn=true/\bu mn=true)->(c.N[it]?=!tn/\iB c.sc tn=true/\bu tn=true)->(c.N[iy]?=!y/\Pj c y py yt scope=true/\bu y=true)->
   ((c.N[ia]?=!a/\iB c.sc a=true/\bu a=true)/\cE c a=true)->((c.N[ib]?=!b/\iB c.sc b=true/\bu b=true)/\cE c b=true)->(ia≠iy/\ib≠iy/\ia≠ib)->
   (j<k/\qB c.sc scope=true/\iT c.N N' scope k=true/\N'.Nodup/\N'[c.N.length+j]?=!x/\cE #[N',scope,false,Str.empty] x=true)->(("range":Str)∈P.bn/\c.sc.names.lookup ("range":Str)=some .globalImplicit)->(Ly.endLine==Lz.line)=true->(JF.endLine==zF.line)=true->
   RX P R RS c [.Assign [.Name y py] (.ListComp (.List [] lp) [#[.Name x px,.Call (.Name "range" rp) [.Name mn mp] [] RJ,[],0]] scope yt) ap,.For (.Tuple [.Name a pa,.Name b pb] tk jk) (.Name tn tp) [.Expr (.Call (.Attribute (.Subscript (.Name y y1) (.Name a a1) sp1) "append" Ly) [.Name b b1] [] Lz) ep1,.Expr (.Call (.Attribute (.Subscript (.Name y y2) (.Name b b2) rF) "append" JF) [.Name a a2] [] zF) RD] [] zG,.Return (!(.Name y yr)) rpos] (.rows im it iy ia ib)
 |ways {p y st h o:Str}{ip iy uB ih io:Nat}{e1 e2:Ex}{E1 E2:Expr}{ss:List Stmt} :
   (c.N[ip]?=!p/\iB c.sc p=true/\bu p=true)->((c.N[iy]?=!y/\iB c.sc y=true/\bu y=true)/\cE c y=true)->(c.N[uB]?=!st/\cE c st=true)->((c.N[ih]?=!h/\iB c.sc h=true/\bu h=true)/\cE c h=true)->((c.N[io]?=!o/\iB c.sc o=true/\bu o=true)/\cE c o=true)->
   (io≠iy/\ih≠iy/\uB≠iy/\io≠ih)->(("range":Str)∈P.bn/\c.sc.names.lookup ("range":Str)=some .globalImplicit)->(("list":Str)∈P.bn/\c.sc.names.lookup ("list":Str)=some .globalImplicit)->R E1 e1->R E2 e2->RX P R RS c (wyS p y st h o E1 E2 ss) (.ways ip iy uB ih io e1 e2)
 |mk {y v fx:Str}{ic f ir:Nat}{l:Lt}{ls:List Lt}{e:Ex}{es:List Ex}{ss:List Stmt}{st:Stmt}{scope:Scope}{N':List Str}{k j:Nat}{rE:Expr}{op:CmpOp}{rhs:Ex}{ret:Bool}{b:List Sm}{py lp pos fp vp cp tp ip yt cmp:Pos} :
   c.N[ic]?=!y->cE c y=true->iB c.sc y=true->bu y=true->zC y ss ls->nG R fx f ir P.gU (l::ls) (e::es)->ls.length<900->BlR c fx scope N' v k j->R rE rhs->behindInMarks op rE=false->
   P0 RS (.Compare (.ListComp (.Call (.Name fx fp) [.Name v vp] [] cp) [#[.Name v tp,.Name y ip,[],0]] scope yt) [op] [rE] cmp) st ret b->
   RX P R RS c (.Assign [.Name y py] (.List [l.ex] lp) pos::(ss++[st])) (.calls ic (.refs f ir P.gU (e::es)) op rhs ret b)
abbrev Wu:Sm->Nat
 |.calls _ x _ _ _ _=>(match x with |.refs _ _ _ es=>es.length+1 |_=>0)
 |.rows _ _ _ _ _=>3
 |.ways _ _ _ _ _ _ _=>3
 |_=>0
abbrev rK(fg:Sm->List Stmt->List Stmt)(fs:Sm->Stmt->Stmt):List Sm->List Stmt->List Stmt
 | [],_=>[]
 |x::xs,ss=>if 0<Wu x then fg x (ss.take (Wu x))++rK fg fs xs (ss.drop (Wu x))else fs x (sg ss 0)::rK fg fs xs ss.tail
abbrev L0(fg:Sm->List Stmt->Bool)(fs:Sm->Stmt->Bool):List Sm->List Stmt->Bool
 | [],_=>true
 |x::xs,ss=>if 0<Wu x then fg x (ss.take (Wu x))&&L0 fg fs xs (ss.drop (Wu x))else fs x (sg ss 0)&&L0 fg fs xs ss.tail
def Wv(hg:∀{x ss},kg x ss=true->RG (sg' x ss) x)(hs:∀{x t},ks x t=true->RS (ss' x t) x)(h:L0 kg ks xs ss=true):zT RG RS (rK sg' ss' xs ss) xs:=by
 induction xs generalizing ss with
 |nil=>show .nil
 |cons x xs ih=>
  delta L0 at h;delta rK;by_cases hx:0<Wu x
  .
   rw[i5 hx]at h ⊢
   show .grp (hg (ak h).1) (ih (ak h).2)
  .
   rw[kA hx]at h ⊢
   show .cons (hs (ak h).1) (ih (ak h).2)
abbrev rapS(y a b:Str)(t:Stmt):Stmt:=.Expr (.Call (.Attribute (.Subscript (.Name y (kid (kid (kid (aB t 0) 0) 0) 0).pos) (.Name a (kid (kid (kid (aB t 0) 0) 0) 1).pos) (kid (kid (aB t 0) 0) 0).pos) "append" (kid (aB t 0) 0).pos) [.Name b (kid (aB t 0) 1).pos] [] (aB t 0).pos) t.pos
abbrev Ww(e:Expr):Str:=(zR e).getD Str.empty
abbrev bvK(c:Ct)(sc:Scope)(x:Str):Bool:=qB c.sc sc&&(iT c.N (iW c.N sc) sc (iV sc).length&&(uM (iW c.N sc)&&(decide ((iV sc).idxOf x<(iV sc).length/\(iW c.N sc)[c.N.length+(iV sc).idxOf x]?=!x)&&cE #[iW c.N sc,sc,false,Str.empty] x)))
abbrev RZ(c:Ct)(im it iy ia ib:Nat)(ss:List Stmt):List Stmt:=
 [.Assign [.Name (nm c iy) (aB (sg ss 0) 1).pos] (.ListComp (.List [] (kid (aB (sg ss 0) 0) 0).pos) [#[.Name (Ww (kid (aB (sg ss 0) 0) 1)) (kid (aB (sg ss 0) 0) 1).pos,.Call (.Name "range" (kid (kid (aB (sg ss 0) 0) 2) 0).pos) [.Name (nm c im) (kid (kid (aB (sg ss 0) 0) 2) 1).pos] [] (kid (aB (sg ss 0) 0) 2).pos,[],0]] (cN (aB (sg ss 0) 0)) (aB (sg ss 0) 0).pos) (sg ss 0).pos,
 .For (.Tuple [.Name (nm c ia) (kid (aB (sg ss 1) 0) 0).pos,.Name (nm c ib) (kid (aB (sg ss 1) 0) 1).pos] (uN (aB (sg ss 1) 0)) (aB (sg ss 1) 0).pos) (.Name (nm c it) (aB (sg ss 1) 1).pos) [rapS (nm c iy) (nm c ia) (nm c ib) (sg (xg (sg ss 1)) 0),rapS (nm c iy) (nm c ib) (nm c ia) (sg (xg (sg ss 1)) 1)] [] (sg ss 1).pos,
 .Return (!(.Name (nm c iy) (aB (sg ss 2) 0).pos)) (sg ss 2).pos]
abbrev R5(P:Pg)(c:Ct)(im it iy ia ib:Nat)(ss:List Stmt):Bool:=decide (ia≠iy/\ib≠iy/\ia≠ib)&&(iU c im&&(iU c it&&((iU c iy&&Pj c (nm c iy) (aB (sg ss 0) 1).pos (aB (sg ss 0) 0).pos (cN (aB (sg ss 0) 0)))&&((iU c ia&&cE c (nm c ia))&&((iU c ib&&cE c (nm c ib)) &&
 (bvK c (cN (aB (sg ss 0) 0)) (Ww (kid (aB (sg ss 0) 0) 1))&&(wY P c "range" && (YG (aB (sg (xg (sg ss 1)) 0) 0)&&YG (aB (sg (xg (sg ss 1)) 1) 0)))))))))
def J6{P:Pg}{R:Expr->Ex->Prop}{RS:Stmt->Sm->Prop}{c:Ct}{im it iy ia ib:Nat}{ss:List Stmt}(h:R5 P c im it iy ia ib ss=true):RX P R RS c (RZ c im it iy ia ib ss) (.rows im it iy ia ib):=by let(h1,a1):=ak h;let(h2,a2):=ak a1;let(h3,a3):=ak a2;let(h4,a4):=ak a3;let(h5,a5):=ak a4;let(h6,a6):=ak a5;let(h7,a7):=ak a6;let(h8,a8):=ak a7;let(k1,k2):=ak (ak h7).2;show .rows (fT h2) (fT h3) #[(fT (ak h4).1).1,(ak h4).2,(fT (ak h4).1).2.2] #[fT (ak h5).1,(ak h5).2] #[fT (ak h6).1,(ak h6).2] (dec h1) #[(dec (ak (ak k2).2).1).1,(ak h7).1,k1,gw (ak k2).1,(dec (ak (ak k2).2).1).2,(ak (ak k2).2).2] (aP h8) (ak a8).1 (ak a8).2
abbrev Wx(P:Pg)(m:Nat)(c:Ct)(e:Ex)(t:Expr):Lt:=#[Wh t,dM P m (Wi c t) e (kid t 0),cN t,t.pos]
abbrev lamT(t:Expr):Expr:=.Call (.Name Str.empty p0) [t] [] p0
abbrev Wy(P:Pg)(m:Nat)(c:Ct)(i ir:Nat)(e:Ex)(t:Expr):Bool:=qZ P (m+1) c (.lq i ir [] e) (lamT t)
abbrev Wz(P:Pg)(m:Nat)(c:Ct)(y:Str):List Ex->List Stmt->List Stmt
 | [],_=>[]
 |e::es,ss=>.Expr (.Call (.Attribute (.Name y (kid (kid (aB (sg ss 0) 0) 0) 0).pos) "append" (kid (aB (sg ss 0) 0) 0).pos) [(Wx P m c e (kid (aB (sg ss 0) 0) 1)).ex] [] (aB (sg ss 0) 0).pos) (sg ss 0).pos::Wz P m c y es ss.tail
abbrev P6(P:Pg)(m:Nat)(c:Ct):List Ex->List Stmt->List Lt
 | [],_=>[]
 |e::es,ss=>Wx P m c e (kid (aB (sg ss 0) 0) 1)::P6 P m c es ss.tail
abbrev P7(P:Pg)(m:Nat)(c:Ct)(i ir:Nat):List Ex->List Stmt->Bool
 | [],_=>true
 |e::es,ss=>(YG (aB (sg ss 0) 0)&&Wy P m c i ir e (kid (aB (sg ss 0) 0) 1))&&P7 P m c i ir es ss.tail
def P8(h:P7 P m c i ir es ss=true):zC y (Wz P m c y es ss) (P6 P m c es ss)/\nG (Cm P c) (qF P i) i ir P.gU (P6 P m c es ss) es/\(P6 P m c es ss).length=es.length:=by
 induction es generalizing ss with
 |nil=>show#[.nil,.nil,rfl]
 |cons e es ih=>let(h1,h2):=ak h;let(q1,q2,q3):=ih h2;show#[.cons (ak h1).1 q1,.cons (Cm.mk (ak h1).2) q2,congrArg (· + 1) q3]
abbrev WD(P:Pg)(m:Nat)(c:Ct)(i:Nat)(y:Str)(op:CmpOp)(rhs:Ex)(t:Expr):Expr:=.Compare (.ListComp (.Call (.Name (qF P i) (kid (kid (kid t 0) 0) 0).pos) [.Name (Ww (kid (kid t 0) 1)) (kid (kid (kid t 0) 0) 1).pos] [] (kid (kid t 0) 0).pos) [#[.Name (Ww (kid (kid t 0) 1)) (kid (kid t 0) 1).pos,.Name y (kid (kid t 0) 2).pos,[],0]] (cN (kid t 0)) (kid t 0).pos) [op] [dM P m c rhs (kid t 1)] t.pos
abbrev cmK(P:Pg)(m:Nat)(c:Ct)(i:Nat)(op:CmpOp)(rhs:Ex)(t:Expr):Bool:=(bvK c (cN (kid t 0)) (Ww (kid (kid t 0) 1))&&(iB (cN (kid t 0)) (Ww (kid (kid t 0) 1))&&(bu (Ww (kid (kid t 0) 1))&&decide ((cN (kid t 0)).names.lookup (qF P i)=some .globalImplicit))))&&(qZ P m c rhs (kid t 1)&&(not (behindInMarks op (dM P m c rhs (kid t 1)))))
abbrev finS(P:Pg)(m:Nat)(c:Ct)(i:Nat)(y:Str)(op:CmpOp)(rhs:Ex)(fs:Sm->Stmt->Stmt)(ret:Bool)(b:List Sm)(t:Stmt):Stmt:=match ret with
 |true=>.Return (!(WD P m c i y op rhs (aB t 0))) t.pos
 |false=>.If (WD P m c i y op rhs (aB t 0)) (match b with |x::_=>[fs x (sg (xg t) 0)] | []=>[]) [] t.pos
abbrev WK(ks:Sm->Stmt->Bool)(ret:Bool)(b:List Sm)(t:Stmt):Bool:=match ret with
 |true=>b.isEmpty
 |false=>(match b with |x::l=>l.isEmpty&&ks x (sg (xg t) 0) | []=>false)
def P9{P:Pg}{m:Nat}{c:Ct}{i:Nat}{y:Str}{op:CmpOp}{rhs:Ex}{RS:Stmt->Sm->Prop}{fs:Sm->Stmt->Stmt}{ks:Sm->Stmt->Bool}(hs:∀{x t},ks x t=true->RS (fs x t) x){ret:Bool}{b:List Sm}{t:Stmt}(h:WK ks ret b t=true):P0 RS (WD P m c i y op rhs (aB t 0)) (finS P m c i y op rhs fs ret b t) ret b:=by
 cases ret with
 |true=>rw[uL h];show .ret
 |false=>cases b with
  |nil=>symm
  |cons x l=>let(h1,h2):=ak (show (l.isEmpty&&ks x (sg (xg t) 0))=true from h);rw[uL h1];show .ite (hs h2)
abbrev WL(P:Pg)(m:Nat)(fs:Sm->Stmt->Stmt)(c:Ct)(x:Sm)(ss:List Stmt):List Stmt:=match x with
 |.rows im it iy ia ib=>RZ c im it iy ia ib ss
 |.ways ip iy uB ih io e1 e2=>wyS (nm c ip) (nm c iy) (nm c uB) (nm c ih) (nm c io) (dM P m c e1 (kid (aB (sg ss 1) 1) 1)) (dM P m c e2 (aB (wyB ss) 1)) ss
 |.calls ic xr op rhs ret b=>(match xr with
  |.refs i _ _ es=>(match es with
   |e::es=>.Assign [.Name (nm c ic) (aB (sg ss 0) 1).pos] (.List [(Wx P m c e (kid (aB (sg ss 0) 0) 0)).ex] (aB (sg ss 0) 0).pos) (sg ss 0).pos::(Wz P m c (nm c ic) es ss.tail++[finS P m c i (nm c ic) op rhs fs ret b (sg ss (es.length+1))])
   | []=>ss)
  |_=>ss)
 |_=>ss
abbrev WM(P:Pg)(m:Nat)(ks:Sm->Stmt->Bool)(c:Ct)(x:Sm)(ss:List Stmt):Bool:=match x with
 |.rows im it iy ia ib=>R5 P c im it iy ia ib ss
 |.ways ip iy uB ih io e1 e2=>decide (io≠iy/\ih≠iy/\uB≠iy/\io≠ih)&&(iU c ip&&((iU c iy&&cE c (nm c iy))&&(YC c uB&&((iU c ih&&cE c (nm c ih))&&((iU c io&&cE c (nm c io))&&((wY P c "range" && wY P c "list")&&(qZ P m c e1 (kid (aB (sg ss 1) 1) 1)&&qZ P m c e2 (aB (wyB ss) 1))))))))
 |.calls ic xr op rhs ret b=>(match xr with
  |.refs i ir ca es=>(match es with
   |e::es=>decide (ca=P.gU)&&((YC c ic&&iU c ic)&&(Wy P m c i ir e (kid (aB (sg ss 0) 0) 0)&&(decide (es.length<900)&&(P7 P m c i ir es ss.tail&&(cmK P m c i op rhs (aB (sg ss (es.length+1)) 0)&&WK ks ret b (sg ss (es.length+1)))))))
   | []=>false)
  |_=>false)
 |_=>false
def WN(hs:∀{x t},ks x t=true->RS (fs x t) x)(h:WM P m ks c x ss=true):RX P (Cm P c) RS c (WL P m fs c x ss) x:=by
 cases x
 case rows im it iy ia ib=>show J6 h
 case ways ip iy uB ih io e1 e2=>let(h1,a1):=ak h;let(h2,a2):=ak a1;let(h3,a3):=ak a2;let(h4,a4):=ak a3;let(h5,a5):=ak a4;let(h6,a6):=ak a5;let(h7,h8):=ak a6;show .ways (fT h2) #[fT (ak h3).1,(ak h3).2] #[dec (ak h4).1,(ak h4).2] #[fT (ak h5).1,(ak h5).2] #[fT (ak h6).1,(ak h6).2] (dec h1) (aP (ak h7).1) (aP (ak h7).2) (.mk (ak h8).1) (.mk (ak h8).2)
 case calls ic xr op rhs ret b=>
  cases xr
  case refs i ir ca es=>
   cases es with
   |nil=>symm
   |cons e es=>
    let(h1,a1):=ak (show (decide (ca=P.gU)&&((YC c ic&&iU c ic)&&(Wy P m c i ir e (kid (aB (sg ss 0) 0) 0)&&(decide (es.length<900)&&(P7 P m c i ir es ss.tail&&(cmK P m c i op rhs (aB (sg ss (es.length+1)) 0)&&WK ks ret b (sg ss (es.length+1))))))))=true from h);obtain rfl:=dec h1;let(h2,a2):=ak a1;let(h3,a3):=ak a2;let(h4,a4):=ak a3;let(h5,a5):=ak a4;let(h6,h7):=ak a5;let(q1,q2,q3):=P8 h5;let(k1,k2):=ak (ak h6).1;let(k3,k4):=ak (ak k1).2;show .mk (dec (ak (ak h2).1).1) (ak (ak h2).1).2 (fT (ak h2).2).2.1 (fT (ak h2).2).2.2 q1 (.cons (Cm.mk h3) q2) (by rw[q3];show dec h4)
     #[(dec (ak (ak k4).2).1).1,(ak k1).1,k3,gw (ak k4).1,(dec (ak (ak k4).2).1).2,(ak (ak k4).2).2,(ak k2).1,(ak (ak k2).2).1,dec (ak (ak k2).2).2] (.mk (ak (ak h6).2).1) (jZ (ak (ak h6).2).2) (P9 hs h7)
  all_goals show nt h
 all_goals show nt h
abbrev srS1(P:Pg)(m:Nat)(fs:Sm->Stmt->Stmt)(c:Ct)(x:Sm)(t:Stmt):Stmt:=match x with
 |.ret x=>.Return (!(dM P (m+1) c x (aB t 0))) t.pos
 |.expr x=>.Expr (dM P (m+1) c x (aB t 0)) t.pos
 |.set i x=>.Assign [.Name (nm c i) (aB t 1).pos] (dM P (m+1) c x (aB t 0)) t.pos
 |.setC i x=>.Assign [.Name (nm c i) (aB t 1).pos] (dM P (m+1) c x (aB t 0)) t.pos
 |.tgt T x=>.Assign [qG c T (aB t 1)] (dM P (m+1) c x (aB t 0)) t.pos
 |.item i xj x=>.Assign [.Subscript (.Name (nm c i) (kid (aB t 1) 0).pos) (dM P (m+1) c xj (kid (aB t 1) 1)) (aB t 1).pos] (dM P (m+1) c x (aB t 0)) t.pos
 |.aug i op x=>.AugAssign (.Name (nm c i) (aB t 0).pos) op (dM P (m+1) c x (aB t 1)) t.pos
 |.ite e a b=>.If (dM P (m+1) c e (aB t 0)) (rK (WL P m fs c) fs a (xg t)) (rK (WL P m fs c) fs b (bd1 t)) t.pos
 |.loop T it b=>.For (qG c T (aB t 0)) (rJ (dM P (m+1) c) it (aB t 1)) (rK (WL P m fs c) fs b (xg t)) [] t.pos
 |.while e b=>.While (dM P (m+1) c e (aB t 0)) (rK (WL P m fs c) fs b (xg t)) [] t.pos
 |.raise i x=>.Raise (!(.Call (.Name (P.cls.getD i Str.empty) (kid (aB t 0) 0).pos) [dM P (m+1) c x (kid (aB t 0) 1)] [] (aB t 0).pos)) none t.pos
 |_=>t
abbrev okS1(P:Pg)(m:Nat)(ks:Sm->Stmt->Bool)(c:Ct)(x:Sm)(t:Stmt):Bool:=match x with
 |.ret x=>qZ P (m+1) c x (aB t 0)
 |.expr x=>qZ P (m+1) c x (aB t 0)&&(not (wX (λ_ _=>true) (dM P (m+1) c x (aB t 0))))
 |.set i x=>YC c i&&(qZ P (m+1) c x (aB t 0)&&(not (wX (λs p=>Pj c (nm c i) (aB t 1).pos p s) (dM P (m+1) c x (aB t 0)))))
 |.setC i x=>decide (c.N[i]?=!(nm c i))&&(Pj c (nm c i) (aB t 1).pos (aB t 0).pos (cN (aB t 0))&&(qZ P (m+1) c x (aB t 0)&&(match x with
  |.comp _ _ _ _ _ _=>true
  |.fC _ _ _ _ _ _ _ _ _=>true
  |_=>false)))
 |.tgt T x=>(match T with |.tp is=>noTup (dM P (m+1) c x (aB t 0))||Pn c (zV c (aB t 1) 0 is) (dM P (m+1) c x (aB t 0)) |_=>false)&&(okN c T.ix&&(qZ P (m+1) c x (aB t 0)&&(not (wX (λ_ _=>true) (dM P (m+1) c x (aB t 0))))))
 |.item i xj x=>iU c i&&(qZ P (m+1) c xj (kid (aB t 1) 1)&&(qZ P (m+1) c x (aB t 0)&&(not (wX (λ_ _=>true) (dM P (m+1) c x (aB t 0))))))
 |.aug i _ x=>YC c i&&qZ P (m+1) c x (aB t 1)
 |.ite e a b=>qZ P (m+1) c e (aB t 0)&&(L0 (WM P m ks c) ks a (xg t)&&L0 (WM P m ks c) ks b (bd1 t))
 |.loop T it b=>okN c T.ix&&(Wj P c (qZ P (m+1) c) it (aB t 1)&&L0 (WM P m ks c) ks b (xg t))
 |.while e b=>qZ P (m+1) c e (aB t 0)&&L0 (WM P m ks c) ks b (xg t)
 |.raise i x=>decide (P.cls[i]?=!(P.cls.getD i Str.empty))&&(YB c (P.cls.getD i Str.empty)&&qZ P (m+1) c x (kid (aB t 0) 1))
 |.stuck=>true
 |_=>false
abbrev R8(P:Pg)(m:Nat):Nat->Ct->Sm->Stmt->Stmt
 | 0=>λ_ _ t=>t
 |n+1=>λc=>srS1 P m (R8 P m n c) c
abbrev R9(P:Pg)(m:Nat):Nat->Ct->Sm->Stmt->Bool
 | 0=>λ_ _ _=>false
 |n+1=>λc=>okS1 P m (R9 P m n c) c
abbrev L1(P:Pg)(c:Ct)(s:Stmt)(x:Sm):Prop:=∃m n t,s=R8 P m n c x t/\R9 P m n c x t=true
meta abbrev xh (P:Pg) (c:Ct) (ss:List Stmt) (xs:List Sm):Prop:=zT (RX P (Cm P c) (L1 P c) c) (L1 P c) ss xs
def L1.mk{P:Pg}{m n:Nat}{c:Ct}{x:Sm}{t:Stmt}(h:R9 P m n c x t=true):L1 P c (R8 P m n c x t) x:=#[m,n,t,rfl,h]
def xh.mk{P:Pg}{m n:Nat}{c:Ct}{xs:List Sm}{ss:List Stmt}(h:L0 (WM P m (R9 P m n c) c) (R9 P m n c) xs ss=true):xh P c (rK (WL P m (R8 P m n c) c) (R8 P m n c) xs ss) xs:=Wv (WN .mk) .mk h
def noC(h:((not (wX (λ_ _=>true) e)))=true):wX (λ_ _=>true) e=false:=jZ h
def L1.LR(h:L1 P c s x):∃m n t,s=srS1 P m (R8 P m n c) c x t/\okS1 P m (R9 P m n c) c x t=true:=by
 let(m,n,t,rfl,h):=h;cases n with
 |zero=>symm
 |succ n=>show#[m,n,t,rfl,h]
abbrev L5(e:Expr):Bool:=match e with
 |.Constant .. |.Name .. |.BinOp .. |.Compare .. |.UnaryOp .. |.BoolOp .. |.IfExp .. |.Tuple .. |.List .. |.Subscript .. |.Call .. |.JoinedStr .. |.ListComp .. |.Dict .. |.DictComp ..=>true
 |_=>false
def Cm.L5(h:Cm P c e x):L5 e=true:=by
 let(n,t,rfl,q):=h.LR;clear h;cases x
 case val d=>exact Ev.L5 (zW d t)=true;delta zW;split <;> rfl
 case peek xe=>rcases wZ (ak q).1 with ⟨x,p,a,es,pos,e⟩ |⟨a,b,s,p,e⟩ <;> (exact Ev.L5 (dM P n c xe t)=true;rw[e];rfl)
 all_goals first |rfl |show Bool.noConfusion (show false=true from q)
section
def Cm.star(h:Cm P c e x)(es:List Expr):starEach (e::es) env=(false,eval e env)::starEach es env:=by have hs:=h.L5;cases e <;> first |rfl |show Bool.noConfusion (show false=true from hs)
def zQ.star(h:Gp P c es xs):starEach es env=es.map λe=>(false,eval e env):=by
 induction es generalizing xs with
 |nil=>rfl
 |cons e es ih=>
  cases h with
  |cons h1 h2=>rw[h1.star,ih h2];rfl
def zQ.plain(h:Gp P c es xs):(backTo pos (starEach es env)).any (·.1)=false:=by
 rw[h.star];delta backTo
 induction es generalizing xs with
 |nil=>rfl
 |cons e es ih=>
  cases h with
  |cons h1 h2=>rw[List.map_cons,List.map_cons,List.any_cons,ih h2];rfl
def Cm.folded(h:Cm P c e x)(y:Value):foldedSetIterable e env y=pure y:=by have hs:=h.L5;cases e <;> first |rfl |show Bool.noConfusion (show false=true from hs)
def uJ.folded(h:Gq P c e x)(y:Value):foldedSetIterable e env y=pure y:=by
 cases h with
 |seq h=>show h.folded y
 |cV _ _ _=>rfl
 |iA _ _ _ _=>rfl
 |enum _ _ _=>rfl
 |zip _ _ _ _=>rfl
def Cm.Qa(h:Cm P c e x):tY e:=by have hs:=h.L5;cases e <;> first |show λ_ _=>rfl |show Bool.noConfusion (show false=true from hs)
end
structure iX(P:Pg)(rn:Rn):Prop where
 e:∀{X:Cx}{c:Ct}{z:Z}{k:Nat}{x:Ex}{e:Expr}{g g':G}{r:R},aU P k X c->z.K=X.K->Cm P c e x->rn.e z.bor k x g=!(r,g')->aD X z e g r g'
 t:∀{X:Cx}{c:Ct}{z:Z}{k:Nat}{x:Ex}{e:Expr}{g g':G}{b:Bool},aU P k X c->z.K=X.K->Cm P c e x->rn.t z.bor k x g=!(b,g')->cM X z e g b g'
 b:∀{X:Cx}{c:Ct}{z:Z}{k:Nat}{xs:List Sm}{jO:List Stmt}{g g':G}{f:Fl},aU P k X c->c.df=true->z.K=X.K->xh P c jO xs->rn.b z.bor k xs g=!(f,g')->dZ X z jO g f g'
 g:∀{X:Cx}{c:Ct}{z:Z}{k:Nat}{f ir:Nat}{l:Lt}{ls:List Lt}{es:List Ex}{fx v:Str}{scope:Scope}{N':List Str}{kb j:Nat}{fp vp cp:Pos}{g g':G}{r:R},aU P k X c->z.K=X.K->nG (Cm P c) fx f ir P.gU (l::ls) es->BlR c fx scope N' v kb j->rn.e z.bor k (.refs f ir P.gU es) g=!(r,g')->
  ∃ds,r=.new ds/\(∃q cc,qg X (gK c.q) q cc)/\(∀m∈l::ls,aJ X.env.scope m.scope/\eE m.params m.scope)/\d7 (qh X z g (gK c.q) N' (X.N.length+j) scope (.Call (.Name fx fp) [.Name v vp] [] cp)) (l::ls) ds
def dG(h:iT N N' scope k=true):Names N N' scope k:=by
 delta iT at h;simp only[hU,mM,i8,t5]at h;let((h1,h2),h3):=h;apply#[h1,λx e=>?_,λi x e hi=>?_]
 . rw[e]at h2;show mB h2
 . have h4:=h3 i hi;rw[e]at h4;simp only[AV,hU,mM]at h4;show h4
def eS(ct:aU P k X c)(h:qB c.sc scope=true):aJ X.env.scope scope:=by
 delta qB at h;simp only[hU,mM,i8,AV]at h;let(h1,h2):=h;apply#[h1,λy hy=>(h2 y hy).1.1,λy hy e=>?_,λy hy e=>?_,λy hy e=>?_]
 . show ((h2 y hy).1.2).elim (λq=>absurd e q) id
 . show ((h2 y hy).2).elim (λq=>absurd e q) λq=>q.1
 . show ((h2 y hy).2).elim (λq=>absurd e q) λq=>ct.fre _ q.2
def kj{X:Cx}{N':List Str}{scope:Scope}{b:Bk}{x:Str}:(X.blk N' scope b).env.scope.names.lookup x=(scope.names.lookup x).map λk=>if (k==NameKind.free&&X.env.scope.kind==.function&&X.env.kindOf x==some .cell)then NameKind.cell else k:=dX
def aU.blk{P:Pg}{k:Nat}{X:Cx}{c:Ct}{scope:Scope}{N':List Str}(ct:aU P k X c)(hnd:N'.Nodup)(b:Bk):aU P k (X.blk N' scope b) #[N',scope,false,Str.empty]:=by
 apply#[rfl,hnd,λx e=>?_,λx e=>?_,λx e=>?_,λe=>absurd e ⋯,λx e=>?_,λe=>absurd e ⋯,ct.calm,rfl,ct.md,ct.room,λe=>absurd (show Str.empty∈iI from e) ⋯]
 . have e':=e;rw[kj,e'];rfl
 . have e':=e;exact (X.blk N' scope b).env.scope.names.lookup x=_;rw[kj,e'];rfl
 .
  rw[kj];rcases e with e |e
  . have e':=e;rw[e'];show .inl rfl
  .
   have e':=e;rw[e',BO];by_cases hq:(NameKind.free==NameKind.free&&X.env.scope.kind==.function&&X.env.kindOf x==some .cell)=true
   . rw[i5 hq];show .inl rfl
   . rw[kA hq];show .inr rfl
 .
  rcases e with e |e
  . cases e
  . have e':=e;exact (scope.names.lookup x==some .local)=true;rw[e'];rfl
section
def bG(h:aD X z e g r g'):aD X z e g (norm r) g':=by
 cases r with
 |dat d=>show h
 |new l=>show pJ h
 |var i=>show h
def J7(h:aD X z e g r g1)(hd:toD z.bor r g1=!(d,g')):aD X z e g (.dat d) g':=by
 cases r with
 |dat d'=>cases hd;show h
 |new l=>cases hd;show pJ h
 |var i=>
  have hd:(if i∈z.bor then none else match g1[i]? with |!(.own l)=>!(D.lst l,g1.set i (.dat (.lst l))) |_=>none)=!(d,g'):=hd
  split at hd
  . cases hd
  .
   ext hb;split at hd
   . ext l hg;cases hd;show Ds h hg hb
   . cases hd
def bf(hS:iX P rn)(ct:aU P k X c)(hK:z.K=X.K)(hc:Cm P c e x)(h:gR rn z.bor k x g=!(d,g')):aD X z e g (.dat d) g':=by
 delta gR at h;split at h
 . ext r g1 e1;show J7 (hS.e ct hK hc e1) h
 . symm
def qI:∀(ds:List D),vK (ds.map R.dat)=!ds
 | []=>rfl
 |d::ds=>by
  exact (match vK (ds.map R.dat)with |some ds=>!(d::ds) |none=>none)=_
  rw[qI ds]
def qJ(hS:iX P rn)(ct:aU P k X c)(hK:z.K=X.K):∀{es:List Expr}{xs:List Ex}{g g':G}{ds:List D},Gp P c es xs->qz rn z.bor k xs g=!(ds,g')->dg X z es g (ds.map .dat) g':=by
 intro es xs g g' ds hc h
 induction hc generalizing g ds with
 |nil=>symm;show fP
 |cons h1 h2 ih=>
  delta qz at h
  repeat' split at h
  all_goals try contradiction
  ext d g1 e1 _ ds g2 e2;symm;show dY (bf hS ct hK h1 e1) (ih e2) (h1.star _)
def qK(hS:iX P rn)(ct:aU P k X c)(hK:z.K=X.K):∀{es:List Expr}{xs:List Ex}{g g':G}{rs:List R},Gp P c es xs->argsR rn z.bor k xs g=!(rs,g')->dg X z es g rs g':=by
 intro es xs g g' rs hc h
 induction hc generalizing g rs with
 |nil=>symm;show fP
 |cons h1 h2 ih=>
  delta argsR at h
  repeat' split at h
  all_goals try contradiction
  ext r g1 e1 _ rs g2 e2;symm;have q:=bG (hS.e ct hK h1 e1);have q2:=ih e2;cases r with
  |dat d=>show dY q q2 (h1.star _)
  |new l=>show dY q q2 (h1.star _)
  |var i=>show Ut q q2 (h1.star _)
def jv(h:argsR rn bor k [a,b] g=!(rs,g2)):∃r1 r2 g1,rn.e bor k a g=!(r1,g1)/\rn.e bor k b g1=!(r2,g2)/\rs=[norm r1,norm r2]:=by
 delta argsR at h;split at h
 .
  ext r1 g1 e1;delta argsR at h;split at h
  .
   ext rs' g3 e3;split at e3
   . ext r2 g4 e2;cases e3;symm;show#[r1,r2,g1,e1,e2,rfl]
   . cases e3
  . symm
 . symm
def J8(hS:iX P rn)(ct:aU P k X c)(hK:z.K=X.K):∀{bs:List Expr}{xs:List Ex}{ops:List CmpOp}{g g':G}{d1:D}{b:Bool},Gp P c bs xs->V6 rn z.bor k d1 ops xs g=!(b,g')->uq X z d1 ops bs g b g':=by
 intro bs xs ops g g' d1 b hc h
 induction hc generalizing ops g d1 with
 |nil=>delta V6 at h;split at h <;> first |contradiction |symm
 |cons h1 h2 ih=>
  delta V6 at h;split at h
  .
   ext op x _ e;cases e;cases h2
   repeat' split at h
   all_goals try contradiction
   ext d2 g1 e1 _ b e2;symm;show .last (bf hS ct hK h1 e1) (jY hK ct.room e2)
  .
   ext e;cases e;split at h
   .
    ext d2 g1 e1;split at h
    .
     ext e2;cases h2 with
     |cons h2 h3=>show .link (bf hS ct hK h1 e1) (jY hK ct.room e2) (ih h)
    .
     ext e2;symm;cases h2 with
     |cons h2 h3=>show .stop (bf hS ct hK h1 e1) (jY hK ct.room e2)
    . symm
   . symm
  . symm
def Qc(hS:iX P rn)(ct:aU P k X c)(hK:z.K=X.K):∀{es:List Expr}{xs:List Ex}{g g':G}{r:R},Gp P c es xs->JX rn z.bor k xs g=!(r,g')->aD X z (.BoolOp .And es pos) g r g':=by
 intro es xs g g' b hc h
 induction hc generalizing g with
 |nil=>symm
 |cons h1 h2 ih=>
  cases h2 with
  |nil=>show Hl (hS.e ct hK h1 h)
  |cons h2 h3=>
   delta JX at h;split at h
   . ext g1 e1;show M7 (hS.e ct hK h1 e1) (ih h)
   . ext g1 e1;symm;show MT (hS.e ct hK h1 e1)
   . symm
def WQ(hS:iX P rn)(ct:aU P k X c)(hK:z.K=X.K):∀{es:List Expr}{xs:List Ex}{g g':G}{r:R},Gp P c es xs->orF rn z.bor k xs g=!(r,g')->aD X z (.BoolOp .Or es pos) g r g':=by
 intro es xs g g' b hc h
 induction hc generalizing g with
 |nil=>symm
 |cons h1 h2 ih=>
  cases h2 with
  |nil=>show Hl (hS.e ct hK h1 h)
  |cons h2 h3=>
   delta orF at h;split at h
   . ext g1 e1;show Ur (hS.e ct hK h1 e1) (ih h)
   . ext g1 e1;symm;show Uq (hS.e ct hK h1 e1)
   . symm
def J9(hS:iX P rn)(ct:aU P k X c)(hK:z.K=X.K):∀{es:List Expr}{xs:List Ex}{g g':G}{b:Bool},Gp P c es xs->sQ rn z.bor k xs g=!(b,g')->nX X z (.BoolOp .And es pos) g b g':=by
 intro es xs g g' b hc h
 induction hc generalizing g with
 |nil=>symm
 |cons h1 h2 ih=>
  cases h2 with
  |nil=>show MK (hS.t ct hK h1 h)
  |cons h2 h3=>
   delta sQ at h;split at h
   . ext g1 e1;show MP (hS.t ct hK h1 e1) (ih h)
   . ext g1 e1;symm;show MN (hS.t ct hK h1 e1)
   . symm
def Qd(hS:iX P rn)(ct:aU P k X c)(hK:z.K=X.K):∀{es:List Expr}{xs:List Ex}{g g':G}{b:Bool},Gp P c es xs->JZ rn z.bor k xs g=!(b,g')->nX X z (.BoolOp .Or es pos) g b g':=by
 intro es xs g g' b hc h
 induction hc generalizing g with
 |nil=>symm
 |cons h1 h2 ih=>
  cases h2 with
  |nil=>show Um (hS.t ct hK h1 h)
  |cons h2 h3=>
   delta JZ at h;split at h
   . ext g1 e1;show Up (hS.t ct hK h1 e1) (ih h)
   . ext g1 e1;symm;show Uo (hS.t ct hK h1 e1)
   . symm
def BR(ct:aU P k X c)(h:c.sc.names.lookup x=some .globalImplicit):Gl X x:=ct.n6 x h
def Qe{tp:Bool}{bor:List Nat}{it:Ex}{g:G}(h:isW it=false):dj rn bor k tp it g=match gR rn bor k it g with |!(.tup l,g1)=>!(l,g1) |!(.lst l,g1)=>!(l,g1) |!(.fix l,g1)=>!(l,g1) |!(.emp m,g1)=>!(m.map λp=>.int p.1,g1) |_=>none:=by cases it <;> first |rfl |show Bool.noConfusion (show true=false from h)
def mK(hS:iX P rn)(ct:aU P k X c)(hK:z.K=X.K){xm tg:Expr}{it:Ex}{g g':G}{ao:List D}{tp:Bool}(htp:tp=true->∃es k pos,tg=.Tuple es k pos)(hc:Gq P c xm it)(h:dj rn z.bor k tp it g=!(ao,g')):cT X z tg xm g ao g':=by
 cases hc with
 |zip ha ha2 hb hg=>
  delta dj at h;dsimp only at h;split at h
  .
   ext ht;let(es,k0,pos,rfl):=htp ht
   repeat' split at h
   all_goals try contradiction
   ext l m g1 e1 e4;symm;show Vt hK (qJ hS ct hK (.cons ha (.cons ha2 .nil)) e1) e4 (BR ct hg) (ct.md.bn _ hb) (ha.star _) (by rw[ha2.star];rfl)
  . symm
 |enum ha hb hg=>
  delta dj at h;dsimp only at h;split at h
  .
   ext ht;let(es,k0,pos,rfl):=htp ht
   repeat' split at h
   all_goals try contradiction
   ext l g1 e1;symm;show Oe hK (dY (bf hS ct hK ha e1) fP (ha.star _)) (BR ct hg) (ct.md.bn _ hb) (ha.star _)
  . symm
 |cV ha hb hg=>
  delta dj at h;dsimp only at h
  repeat' split at h
  all_goals try contradiction
  ext j g1 e1 hj;symm;simp only[Gn,hU,mM]at hj;show Nr (dY (bf hS ct hK ha e1) fP (ha.star _)) (BR ct hg) (ct.md.bn _ hb) (by rw[ha.star];rfl) hj.1 hj.2
 |iA ha hb' hb hg=>
  delta dj at h;dsimp only at h
  repeat' split at h
  all_goals try contradiction
  ext c0 g1 e1 _ j g2 e2 hj;symm;simp only[Gn,hU,mM]at hj;show Nt (dY (bf hS ct hK ha e1) (dY (bf hS ct hK hb' e2) fP (hb'.star _)) (ha.star _)) (BR ct hg) (ct.md.bn _ hb) (by rw[ha.star,hb'.star];rfl) (by rw[hb'.star];rfl) #[hj.1.1,hj.1.2,hj.2.1,hj.2.2]
 |seq hc=>
  have h':=(Qe hc.notW).symm.trans h;split at h'
  . ext e1;cases h';show U9 hK (bf hS ct hK hc e1)
  . ext e1;cases h';show Va (bf hS ct hK hc e1)
  . ext e1;cases h';show Vb hK (bf hS ct hK hc e1)
  . ext e1;cases h';show V0 (bf hS ct hK hc e1)
  . cases h'
def iY(hS:iX P rn)(ct:aU P k X c)(hK:z.K=X.K)(hc:ki P c ifs co)(h:mG rn z.bor k co g=!(b,g')):bJ X z ifs g b g':=by
 cases hc with
 |none=>symm;show Nu
 |some hc=>show Nv (hS.t ct hK hc h)
def sU(h:zP c tg T):T.jW=true->∃es k pos,tg=.Tuple es k pos:=by
 cases h with
 |nm _ _=>intro e;cases e
 |tp _=>intro _;show#[_,_,_,rfl]
def WR(ct:aU P k X c)(h:Fp c es is):kU X es is:=by
 induction h with
 |nil=>show .nil
 |cons h1 h2 _ ih=>show .cons (ct.nm h1 h2) ih
def qL(ct:aU P k X c)(hK:z.K=X.K)(h:zP c tg T)(hb:∀i∈T.ix,i∉z.bor):eH X z tg T:=by
 cases h with
 |nm h1 h2=>show ZV (ct.nm h1 h2) (hb _ (i3.mpr rfl))
 |tp h1=>show ZW ct.calm hK (WR ct h1) hb
def uQ(hS:iX P rn){Xb:Bk->Cx}{cb:Ct}(ctb:∀b,aU P k (Xb b) cb)(Rz:∀b,z.K=(Xb b).K){T:Tg}{last:Nat}{ifs:List Expr}{co:Option Ex}{aX:Expr}{xe:Ex}(hi:ki P cb ifs co)(he:Cm P cb aX xe) :
  ∀{ao:List D}{g gE:G},Fo rn z.bor k T last co xe ao g=!gE->kW T last (λg b g'=>∀bk:Bk,bJ (Xb bk) z ifs g b g') (λg d g'=>∀bk:Bk,aD (Xb bk) z aX g (.dat d) g') ao g gE
 | [],_,_,h=>by symm;show .nil
 |d::l,_,_,h=>by
  delta Fo at h;split at h
  . symm
  .
   ext g1 e1;split at h
   . symm
   . ext g2 e2;show .skip e1 (λbk=>iY hS (ctb bk) (Rz bk) hi e2) (uQ hS ctb Rz hi he h)
   .
    ext g2 e2;split at h
    . symm
    .
     ext x g3 e3
     repeat' split at h
     all_goals try contradiction
     ext acc e4 hl;show .take e1 (λbk=>iY hS (ctb bk) (Rz bk) hi e2) (λbk=>bf hS (ctb bk) (Rz bk) he e3) e4 hl (uQ hS ctb Rz hi he h)
end
abbrev jK(P:Pg)(mg:Str->Option Value)(ci:Nat)(C:Addr):Prop:=∃x,P.cls[ci]?=!x/\mg x=!(.ref C)
structure Qf(P:Pg)(k:Nat)(X:Cx)(c:Ct):Prop where
 ct:aU P k X.tU c
 ex:X.ex=[]
 pa:PassesOwn (~~~2) X.A X.env X.xe
structure mL(P:Pg)(rn:Rn):Prop where
 x:∀{X:Cx}{c:Ct}{z:Z}{k:Nat}{x:Ex}{e:Expr}{g g':G}{ci:Nat}{C:Addr},Qf P k X c->z.K=X.K->jK P X.mg ci C->Cm P c e x->rn.x z.bor k x g=!(ci,g')->Gj X z e g C g'
 t:∀{X:Cx}{c:Ct}{z:Z}{k:Nat}{x:Ex}{e:Expr}{g g':G}{ci:Nat}{C:Addr},Qf P k X c->z.K=X.K->jK P X.mg ci C->Cm P c e x->rn.xt z.bor k x g=!(ci,g')->Ym X z e g C g'
 b:∀{X:Cx}{c:Ct}{z:Z}{k:Nat}{xs:List Sm}{jO:List Stmt}{g g':G}{ci:Nat}{C:Addr},Qf P k X c->c.df=true->z.K=X.K->jK P X.mg ci C->xh P c jO xs->rn.xb z.bor k xs g=!(ci,g')->NR X z jO g C g'
structure Qg(P:Pg)(fi:Fi)(fx:Fx):Prop where
 np:fx.np=fi.ps.length
 n:fx.n=fi.N.length
 body:xh P #[fi.N,aE fi.st,true,fi.qual] (bA fi.st) fx.body
abbrev gA(P:Pg)(fns:List Fx):Prop:=∀(f:Nat) (fi:Fi) (fx:Fx),P.fn[f]?=!fi->fns[f]?=!fx->Qg P fi fx
def qM{P:Pg}{k:Nat}{prog:Program}{w:World}{K:Frag}{mg:Str->Option Value}{base:Heap}{N ps:List Str}{qual:Str}{scope:Scope}{f:Addr}{bE:Value}{A:Around}{outer:List Env}{s:Shared}{H:Hp}{E:XK}
  (S:bY N ps scope) (md:uH P K mg) (bR:PySem.W.codeIn K bE qual=true) (hr:cC k (A.deeper (envOfC qual scope s⁻¹ f bE))):aU P k (gI yL prog w K mg base N qual scope f bE A outer s H E).tU #[N,scope,true,qual]:=by
 apply#[rfl,S.nd,λx e=>e,λx e=>e,λx e=>e,λ_ x e=>e,λx _=>rfl,λ_=>?_,rfl,rfl,md,hr,λe h=>#[rfl,md.lam h _ e _ bR]]
 exact (if scope.kind.isAnnotationScope then ScopeKind.function else scope.kind)=.function
 rw[S.kind];rfl
section
def Ka(hS:iX P rn){k':Nat}(ct:aU P (k'+1) X c)(hK:z.K=X.K){f:Nat}{fi:Fi}{fx:Fx}(VJ:P.fn[f]?=!fi)(vf:Qg P fi fx)(Bw:c.sc.names.lookup fi.name=some .globalImplicit){e:Expr}{es:List Expr}{xs:List Ex}{rs:List R}{g g1 gO:G}{r:R}
  (hc:Gp P c (e::es) xs) (ha:dg X z (e::es) g rs g1) (h:bL rn fx k' rs g1=!(r,gO)):aD X z (.Call (.Name fi.name p) (e::es) [] pos) g r gO:=by
 let(f,fd,hm,hF,YJ,hB,jN):=ct.md.fn _ fi VJ;have F:jP X.prog X.w X.K X.mg X.base yL (k'+1) f fd fi.ps (Ry X.K fi.N fi.ps.length λbor g r g'=>rn.b bor k' fx.body g=!(.rt r,g')\/(rn.b bor k' fx.body g=!(.nx,g')/\r=.dat .non)):=by
  apply HX hF YJ λbE A outer s H E bR hr z' g r g' Yr hrun=>?_
  have ct':aU P k' (gI yL X.prog X.w X.K X.mg X.base fi.N fi.qual (aE fi.st) f bE A outer s H E).tU #[fi.N,aE fi.st,true,fi.qual]:=qM YJ ct.md bR hr;rcases hrun with h |⟨h,rfl⟩
  . show#[_,hS.b ct' rfl Yr vf.body h,.inl rfl]
  . show#[_,hS.b ct' rfl Yr vf.body h,.inr #[rfl,rfl]]
 have h1:∃h2:Gp P c es xs.tail,starEach (e::es) X.env=(false,eval e X.env)::starEach es X.env:=by
  cases hc with
  |cons h1 h2=>show#[h2,h1.star _]
 let(h2,cO):=h1;delta bL at h;split at h
 .
  ext hl;split at h
  . symm
  .
   ext gs e1;split at h
   .
    ext r0 gc e2;split at h
    .
     ext gO' e3;split at h
     . ext r' e4;symm;show Bg F hK ct.room (ct.n6 _ Bw) hm hF.kp hB ha (by rw[hl.1,vf.np]) e1 hl.2 (.inl (by rw[<- vf.n];show e2)) e3 e4 jN cO h2.plain
     . symm
    . symm
   .
    ext gc e2;split at h
    . ext gO' e3;symm;show Bg F hK ct.room (ct.n6 _ Bw) hm hF.kp hB ha (by rw[hl.1,vf.np]) e1 hl.2 (.inr #[by rw[<- vf.n];show e2,rfl]) e3 rfl jN cO h2.plain
    . symm
   . symm
 . symm
def xq(hS:iX P rn)(ct:aU P k X c)(hK:z.K=X.K){tg xm aX:Expr}{ifs:List Expr}{scope:Scope}{N':List Str}{kk:Nat}{T:Tg}{it xe:Ex}{co:Option Ex}{g g':G}{acc:List D}
  (hnd:N'.Nodup) (hT:zP #[N',scope,false,Str.empty] tg T) (lz:∀i∈T.ix,c.N.length<=i/\i<c.N.length+kk) (hi:Gq P c xm it) (hf:ki P #[N',scope,false,Str.empty] ifs co) (he:Cm P #[N',scope,false,Str.empty] aX xe)
  (h:fM rn z.bor k c.N.length kk T it co xe g=!(acc,g')) :
  ∃ao g1 gE,cT X z tg xm g ao g1/\(∀b:Bk,eH (X.blk N' scope b) z tg T)/\(∀i∈T.ix,g1.length<=i/\i<g1.length+kk)/\
   kW T (g1.length+kk) (λg b g'=>∀bk:Bk,bJ (X.blk N' scope bk) z ifs g b g') (λg d g'=>∀bk:Bk,aD (X.blk N' scope bk) z aX g (.dat d) g') ao (gC kk g1) gE/\gE[g1.length+kk]?=!(.own acc)/\g'=gE.take g1.length:=by
 delta fM at h;split at h
 . symm
 .
  ext ao g1 e1;split at h
  .
   ext hl;split at h
   . symm
   .
    ext gE e2;split at h
    .
     ext acc' e3;symm;let(hl,hb):=hl;rw[<- hl]at e2 e3 lz ⊢
     apply#[ao,g1,gE,mK hS ct hK (sU hT) hi e1,λb=>qL (ct.blk hnd b) hK hT λi hi hm=>?_,lz,uQ hS (λb=>ct.blk hnd b) (λb=>hK) hf he e2,e3,rfl]
     rw[B5]at hb;show hb i hi (oC hm)
    . symm
  . symm
def uR(hS:iX P rn)(ct:aU P k X c)(hK:z.K=X.K){tg xm aX:Expr}{f1 ifs:List Expr}{scope:Scope}{N':List Str}{T1 T:Tg}{it xe:Ex}{c1 co:Option Ex}{last:Nat}(hnd:N'.Nodup)(hT:zP #[N',scope,false,Str.empty] tg T)(hf1:ki P #[N',scope,false,Str.empty] f1 c1)
  (hi:Gq P #[N',scope,false,Str.empty] xm it) (hf:ki P #[N',scope,false,Str.empty] ifs co) (he:Cm P #[N',scope,false,Str.empty] aX xe):∀{ao:List D}{g gE:G},wN rn z.bor k T1 c1 T it co xe last ao g=!gE->
  iP T1 (λg b g'=>∀bk:Bk,bJ (X.blk N' scope bk) z f1 g b g') (Es X z N' scope tg xm aX ifs T last) ao g gE
 | [],_,_,h=>by symm;show .nil
 |d::l,_,_,h=>by
  delta wN at h;split at h
  . symm
  .
   ext g1 e1;split at h
   . symm
   . ext g2 e2;show .skip e1 (λbk=>iY hS (ct.blk hnd bk) hK hf1 e2) (uR hS ct hK hnd hT hf1 hi hf he h)
   .
    ext g2 e2;split at h
    . symm
    .
     ext items2 g3 e3;split at h
     . symm
     . ext g4 e4;show .take e1 (λbk=>iY hS (ct.blk hnd bk) hK hf1 e2) #[items2,g3,λbk=>mK hS (ct.blk hnd bk) hK (sU hT) hi e3,uQ hS (λb=>ct.blk hnd b) (λb=>hK) hf he e4] (uR hS ct hK hnd hT hf1 hi hf he h)
def sV(hS:iX P rn)(ct:aU P k X c)(hK:z.K=X.K){t1 i1 tg xm aX:Expr}{f1 ifs:List Expr}{scope:Scope}{N':List Str}{kk:Nat}{T1 T:Tg}{ju it xe:Ex}{c1 co:Option Ex}{g g':G}{acc:List D}
  (hnd:N'.Nodup) (hT1:zP #[N',scope,false,Str.empty] t1 T1) (hT:zP #[N',scope,false,Str.empty] tg T) (Kc:∀i∈T1.ix,c.N.length<=i/\i<c.N.length+kk) (lz:∀i∈T.ix,c.N.length<=i/\i<c.N.length+kk) (hi1:Gq P c i1 ju) (hf1:ki P #[N',scope,false,Str.empty] f1 c1) (hi:Gq P #[N',scope,false,Str.empty] xm it) (hf:ki P #[N',scope,false,Str.empty] ifs co) (he:Cm P #[N',scope,false,Str.empty] aX xe)
  (h:mH rn z.bor k c.N.length kk T1 ju c1 T it co xe g=!(acc,g')) :
  ∃ao g1 gE,cT X z t1 i1 g ao g1/\(∀b:Bk,eH (X.blk N' scope b) z t1 T1)/\(∀b:Bk,eH (X.blk N' scope b) z tg T)/\(∀i∈T1.ix,g1.length<=i/\i<g1.length+kk)/\(∀i∈T.ix,g1.length<=i/\i<g1.length+kk)/\
   iP T1 (λg b g'=>∀bk:Bk,bJ (X.blk N' scope bk) z f1 g b g') (Es X z N' scope tg xm aX ifs T (g1.length+kk)) ao (gC kk g1) gE/\gE[g1.length+kk]?=!(.own acc)/\g'=gE.take g1.length:=by
 delta mH at h;split at h
 . symm
 .
  ext ao g1 e1;split at h
  .
   ext hl;split at h
   . symm
   .
    ext gE e2;split at h
    .
     ext acc' e3;symm;let(hl,hb):=hl;rw[<- hl]at e2 e3 lz Kc ⊢
     rw[B5]at hb;show#[ao,g1,gE,mK hS ct hK (sU hT1) hi1 e1,λb=>qL (ct.blk hnd b) hK hT1 λi hi hm=>hb i (i6 _ hi) (oC hm),λb=>qL (ct.blk hnd b) hK hT λi hi hm=>hb i (eP _ hi) (oC hm),Kc,lz,uR hS ct hK hnd hT hf1 hi hf he e2,e3,rfl]
    . symm
  . symm
def iZ{z':Z}(h:qu z z'):z'.bor=z.bor:=by delta Z.bor;rw[h.2]
def WT(hS:iX P rn)(ct:aU P k X c)(hK:z.K=X.K){aX:Expr}{ifs:List Expr}{scope:Scope}{N':List Str}{T:Tg}{xe:Ex}{co:Option Ex}(hnd:N'.Nodup)(hf:ki P #[N',scope,false,Str.empty] ifs co)(he:Cm P #[N',scope,false,Str.empty] aX xe) :
  ∀{ao:List D}{ks ks': ~~~0}{g gE:G},V7 rn z.bor k T co xe ao ks g=!(ks',gE)->uE T (λg b g'=>∀(bk:Bk) z',qu z z'->bJ (X.blk N' scope bk) z' ifs g b g') (λg d g'=>∀(bk:Bk) z',qu z z'->aD (X.blk N' scope bk) z' aX g (.dat d) g') ao ks g ks' gE:=by
 intro ao
 induction ao with
 |nil=>intro _ _ _ _ h;symm;show .nil
 |cons d l ih=>
  intro _ _ _ _ h;delta V7 at h;split at h
  . symm
  .
   ext g1 e1;split at h
   . symm
   . ext g2 e2;show .skip e1 (λbk z' ze=>iY hS (ct.blk hnd bk) (ze.1.trans hK) hf (by rw[iZ ze];show e2)) (ih h)
   .
    ext g2 e2;split at h
    .
     ext n g3 e3;split at h
     . ext hl;show .take e1 (λbk z' ze=>iY hS (ct.blk hnd bk) (ze.1.trans hK) hf (by rw[iZ ze];show e2)) (λbk z' ze=>bf hS (ct.blk hnd bk) (ze.1.trans hK) he (by rw[iZ ze];show e3)) hl (ih h)
     . symm
    . symm
def Qh(hS:iX P rn)(ct:aU P k X c)(hK:z.K=X.K){tg xm aX:Expr}{f1 ifs:List Expr}{scope:Scope}{N':List Str}{T1 T:Tg}{it xe:Ex}{c1 co:Option Ex}(hnd:N'.Nodup)(hT:zP #[N',scope,false,Str.empty] tg T)(hf1:ki P #[N',scope,false,Str.empty] f1 c1)
  (hi:Gq P #[N',scope,false,Str.empty] xm it) (hf:ki P #[N',scope,false,Str.empty] ifs co) (he:Cm P #[N',scope,false,Str.empty] aX xe):∀{ao:List D}{ks ks': ~~~0}{g gE:G},wO rn z.bor k T1 c1 T it co xe ao ks g=!(ks',gE)->
  jJ T1 (λg b g'=>∀(bk:Bk) z',qu z z'->bJ (X.blk N' scope bk) z' f1 g b g') (InS X z N' scope tg xm aX ifs T) ao ks g ks' gE:=by
 intro ao
 induction ao with
 |nil=>intro _ _ _ _ h;symm;show .nil
 |cons d l ih=>
  intro _ _ _ _ h;delta wO at h;split at h
  . symm
  .
   ext g1 e1;split at h
   . symm
   . ext g2 e2;show .skip e1 (λbk z' ze=>iY hS (ct.blk hnd bk) (ze.1.trans hK) hf1 (by rw[iZ ze];show e2)) (ih h)
   .
    ext g2 e2;split at h
    . symm
    .
     ext items2 g3 e3;split at h
     . symm
     . ext k1 g4 e4;show .take e1 (λbk z' ze=>iY hS (ct.blk hnd bk) (ze.1.trans hK) hf1 (by rw[iZ ze];show e2)) #[items2,g3,λbk z' ze=>mK hS (ct.blk hnd bk) (ze.1.trans hK) (sU hT) hi (by rw[iZ ze];show e3),WT hS ct hK hnd hf he e4] (ih h)
def Fv(hS:iX P rn)(ct:aU P k X c)(hK:z.K=X.K){t1 i1 tg xm aX:Expr}{f1 ifs:List Expr}{scope:Scope}{N':List Str}{kk:Nat}{T1 T:Tg}{ju it xe:Ex}{c1 co:Option Ex}{g g':G}{ks: ~~~0}
  (hnd:N'.Nodup) (hT1:zP #[N',scope,false,Str.empty] t1 T1) (hT:zP #[N',scope,false,Str.empty] tg T) (Kc:∀i∈T1.ix,c.N.length<=i/\i<c.N.length+kk) (lz:∀i∈T.ix,c.N.length<=i/\i<c.N.length+kk) (hi1:Gq P c i1 ju) (hf1:ki P #[N',scope,false,Str.empty] f1 c1) (hi:Gq P #[N',scope,false,Str.empty] xm it) (hf:ki P #[N',scope,false,Str.empty] ifs co) (he:Cm P #[N',scope,false,Str.empty] aX xe)
  (h:qA rn z.bor k c.N.length kk T1 ju c1 T it co xe g=!(ks,g')) :
  ∃ao g1 gE,cT X z t1 i1 g ao g1/\(∀(b:Bk) z',qu z z'->eH (X.blk N' scope b) z' t1 T1)/\(∀(b:Bk) z',qu z z'->eH (X.blk N' scope b) z' tg T)/\(∀i∈T1.ix,g1.length<=i/\i<g1.length+kk)/\(∀i∈T.ix,g1.length<=i/\i<g1.length+kk)/\
   jJ T1 (λg b g'=>∀(bk:Bk) z',qu z z'->bJ (X.blk N' scope bk) z' f1 g b g') (InS X z N' scope tg xm aX ifs T) ao [] (gD kk g1) ks gE/\g'=gE.take g1.length:=by
 delta qA at h;split at h
 . symm
 .
  ext ao g1 e1;split at h
  .
   ext hl;split at h
   . symm
   .
    ext ks' gE e2;symm;let(hl,hb):=hl;rw[<- hl]at lz Kc ⊢
    rw[B5]at hb;show#[ao,g1,gE,mK hS ct hK (sU hT1) hi1 e1,λb z' ze=>qL (ct.blk hnd b) (ze.1.trans hK) hT1 λi hi hm=>hb i (i6 _ hi) (oC (by rw[<- iZ ze];show hm)),λb z' ze=>qL (ct.blk hnd b) (ze.1.trans hK) hT λi hi hm=>hb i (eP _ hi) (oC (by rw[<- iZ ze];show hm)),Kc,lz,Qh hS ct hK hnd hT hf1 hi hf he e2,rfl]
  . symm
end
def Qi{P:Pg}{c:Ct}{er y ke en PX:Str}{Eo np Yq py bN qY kp wA wz cF oq jk:Pos}{j:Nat}{rest:List Stmt}{bd:List Sm}(h:xh P c (.Assign [.Name er Eo] (.Constant .none j np) Yq::Jo y ke en PX py bN qY kp wA wz cF oq jk::rest) bd):xh P c rest (bd.drop 2):=by
 have nog:∀{s:Stmt}{ss:List Stmt}{x:Sm}{r:List Stmt},RX P (Cm P c) (L1 P c) c ss x->ss++r=s::rest->(∀a b p,s≠.Assign a b p)->False:=λg e n=>by
  cases g <;> (injection e with e1 e2;show n _ _ _ e1.symm)
 generalize hq:(Stmt.Assign [.Name er Eo] (.Constant .none j np) Yq::Jo y ke en PX py bN qY kp wA wz cF oq jk::rest)=jO at h;cases h with
 |nil=>cases hq
 |grp g _=>cases g <;> (injection hq with e1 e2;injection e1 with e3 e4;cases e4)
 |cons _ h1=>
  injection hq with e1 e2;generalize hq2:(Jo y ke en PX py bN qY kp wA wz cF oq jk::rest)=aI at e2;subst e2;cases h1 with
  |nil=>cases hq2
  |grp g _=>show (nog g hq2.symm (λa b p e=>nomatch e)).elim
  |cons _ h2=>injection hq2 with e1 e2;subst e2;show h2
section
variable{X:Cx}{c:Ct}
def Kd(ct:aU P k X c)(h:Fq P c es ns):pU X es ns/\∀n∈ns,n∈uI:=by
 induction h with
 |nil=>show#[.nil,λn hn=>nomatch hn]
 |@cons T n pos es ns h1 h2 h3 h4 _ ih=>
  apply#[.cons ?_ ih.1,λm hm=>(d6.mp hm).elim (λe=>e▸h4) (ih.2 m)]
  subst h3;apply#[ct.n6 _ h2,ct.md.bn _ h1,?_,?_,?_] <;> (delta uI at h4;simp only[d6,n0,C6]at h4;rcases h4 with rfl |rfl |rfl |rfl |rfl |rfl <;> first |rfl |decide)
def BV(hS:iX P rn)(hX:mL P rn){fns:List Fx}(hF:gA P fns){k':Nat}{Y:Cx}(md:uH P Y.K Y.mg)(hr:cC (k'+2) Y.A)(hcm:Y.calm=true)(hKY:z.K=Y.K)(Dm:c.N.Nodup)(hN:X.N=c.N){f ir:Nat}{fi:Fi}{l:Lt}{xb:Ex}{g Jm g3:G}{r0 r':R}{fx:Fx}{ci:Nat}{C:Addr}{n:Str}
  (h1:P.fn[f]?=!fi) (h5:P.lam=true) (h6:J5 fi ir P.kt=true) (h8:Ft l.params l.scope=true) (h9:Cm P #[c.N,l.scope,false,Str.empty] l.body xb)
  (e1:fns[f]?=!fx) (e2:rn.x [] k' xb (g.map noOwn)=!(ci,Jm)) (e3:P.gU[ci]?=!C) (e4:rn.b [] k' (fx.body.drop 2) ((List.replicate fx.n .no).set ir (.dat (.nU C)))=!(.rt r0,g3)) (e5:cS [] g3 r0=!r') {fa:Addr}{fd:FuncData} (F:Lv Y.K fi.name fi.qual fi.st fa fd) (Sc:bY fi.N fi.ps (aE fi.st)) (bd:L2.Binds Y.K fd fi.ps []):zq Y X z g (gK n) l r' fa:=by
 have vf:=hF f fi fx h1 e1;let(xC,c1,c2,qC,kC):=md.gU ci C e3;let(dk,D,mD,qD,hup):=md.kt h5;have L:=uK h8;delta J5 at h6;split at h6
 .
  ext er y ke en PX Yz hv;let(Eo,j,np,Yq,py,bN,qY,kp,wA,wz,cF,oq,jk,rest,cO):=PN hv;let(p1,p2):=ak h6;let((q1,q2,q3,q4),(q5,q6,q7),(q8,q9),q10,q11,q12):=dec p1;subst q1 q2 q3;let(p3,p4):=ak p2;have pe:=bq (ak p3).1;have py':=bq (ak p3).2;have vy:g9 (aE fi.st) y:=by
   have:=(ak p4).1;delta iB at this;split at this
   . ext e;show .inl e
   . ext e;show .inr (.inl e)
   . ext e;show .inr (.inr e)
   . cases this
  have lr:Loc (aE fi.st) PX:=by
   have:=(ak p4).2;delta cE at this;split at this
   . ext e;show .inl e
   . ext e;show .inr e
   . cases this
  have hb:=vf.body;rw[cO]at hb;have hrs:=Qi hb;intro aj σ1 σ0 H1 s1 g1 As A0 M p c' cl pm jz us Q E I1 S1 hp1 hc1 Cl0 Vy rv hQ;apply Vx (Jm:=Jm) hKY hr hcm F cO (q4▸Sc) (q4▸bd)
   #[Sc.nd,q5,mD,dk,qC,qD,hup C (i7 e3),kC,q6,q7,pe.1,pe.2,q8,lr,q9,vy,py'.1,py'.2,q10,q11,q12] L (λXf s H xe zl a1 a2 a3 a4 a5 hr hc hp hzK hzb=>?_) (λbE A outer s H E bR hr zf hzK hzb=>?_) e5 I1 S1 hp1 hc1 Cl0 Vy.noOwn (λi l e=>En e) rv hQ
  .
   have hci:jK P (wm Xf X.N (gK n) l.scope p (.ref c') cl s H xe).mg ci C:=#[xC,c1,a4▸c2];apply hX.x (c:=#[c.N,l.scope,false,Str.empty]) #[#[hN,Dm,λx e=>e,λx e=>e,λx e=>e,(λe=>nomatch e),λx e=>?_,(λe=>nomatch e),rfl,rfl,?_,hr.deeper _,λe=>absurd (show Str.empty∈iI from e) ⋯],rfl,hp] (hzK.trans a3.symm) hci h9 (by rw[hzb];show e2)
   .
    rcases e with e |e
    . cases e
    . show absurd rfl (L.nl _ (L2.mem_of_lookup e))
   . exact uH P Xf.K Xf.mg;rw[a3,a4];show md
  .
   have e4':rn.b zf.bor k' (fx.body.drop 2) ((List.replicate fi.N.length .no).set ir (.dat (.nU C)))=!(.rt r0,g3):=by rw[hzb,<- vf.n];show e4
   show hS.b (qM Sc md bR hr) rfl hzK hrs e4'
 . cases h6
def Se(ct:aU P k X c)(h4:c.q∈iI)(h5:P.lam=true):∃q cc,qg X (gK c.q) q cc:=by let(hqn,cc,q,hcode,hC,hq,hbi,hqm,hu):=ct.lam h4 h5;show#[q,cc,hq,hu,hcode,hC,hqn,hbi,hqm]
def Ke{fx:Str}{l:Lt}{f ir:Nat}{e:Ex}(hc:Cm P c (.Call (.Name fx p0) [l.ex] [] p0) (.lq f ir [] e)):∃fi,P.fn[f]?=!fi/\fi.name=fx/\c.q∈iI/\P.lam=true/\J5 fi ir P.kt=true/\qB c.sc l.scope=true/\Ft l.params l.scope=true/\Cm P #[c.N,l.scope,false,Str.empty] l.body e:=by let(n,t,q,h):=hc.LR;let(h1,k1):=ak h;let(h2,k2):=ak k1;let(h3,k3):=ak k2;let(h5,k5):=ak k3;let(fi,e1,e2):=oN h1;delta Ws at h5;rw[e1]at h5;let(a,b,s,p):=l;injection q with q1 q2;injection q1 with q1;injection q2 with q2;injection q2 with q3 q4 q5;subst q1 q3 q4 q5;show#[fi,e1,e2,dec (ak h3).1,(ak h3).2,h5,(ak k5).1,(ak (ak k5).2).1,.mk (ak (ak k5).2).2]
def Qj(hS:iX P rn)(hX:mL P rn){fns:List Fx}(hF:gA P fns){k':Nat}(ct:aU P (k'+2) X c)(hK:z.K=X.K){x:Str}{f ir:Nat}{fi:Fi}{params:Arguments}{body:Expr}{scope:Scope}{xb:Ex}{fp lpos pos:Pos}{g Jm g3:G}{r0 r':R}{fx:Fx}{ci:Nat}{C:Addr}
  (h1:P.fn[f]?=!fi) (h2:fi.name=x) (h3:c.sc.names.lookup x=some .globalImplicit) (h4:c.q∈iI) (h5:P.lam=true) (h6:J5 fi ir P.kt=true) (h7:qB c.sc scope=true) (h8:Ft params scope=true) (h9:Cm P #[c.N,scope,false,Str.empty] body xb)
  (e1:fns[f]?=!fx) (e2:rn.x [] k' xb (g.map noOwn)=!(ci,Jm)) (e3:P.gU[ci]?=!C) (e4:rn.b [] k' (fx.body.drop 2) ((List.replicate fx.n .no).set ir (.dat (.nU C)))=!(.rt r0,g3)) (e5:cS [] g3 r0=!r') :
  aD X z (.Call (.Name x fp) [.Lambda params body scope lpos] [] pos) g r' g:=by
 let(fa,fd,m1,F,Sc,bd,db):=ct.md.fn f fi h1;let(q,cc,mk):=Se ct h4 h5;subst h2;show Ot (l:=#[params,body,scope,lpos]) hK F (ct.n6 _ h3) m1 db mk (eS ct h7) (uK h8) (BV hS hX hF ct.md ct.room ct.calm hK ct.nd ct.N h1 h5 h6 h8 h9 e1 e2 e3 e4 e5 F Sc bd)
def Qk(hS:iX P rn)(hX:mL P rn)(hF:gA P fns)(ct:aU P k X c)(hK:z.K=X.K)(B:BlR c fx scope N' v kb j)(hc:Cm P c (.Call (.Name fx p0) [l.ex] [] p0) (.lq f ir [] e))(ed:J0 rn k fns f ir P.gU e g=!d) :
  ((∃q cc,qg X (gK c.q) q cc)/\aJ X.env.scope l.scope/\eE l.params l.scope)/\qh X z g (gK c.q) N' (X.N.length+j) scope (.Call (.Name fx fp) [.Name v vp] [] cp) l d:=by
 let(fi,h1,h2,h4,h5,h6,h7,h8,h9):=Ke hc
 .
  delta J0 at ed;split at ed
  .
   ext fxx k' e1;split at ed
   .
    ext ci Jm e2;split at ed
    .
     ext C e3;split at ed
     .
      ext r0 g3 e4;split at ed
      .
       ext r' e5;let(fa,fd,m1,F,Sc,bd,db):=ct.md.fn _ fi h1;subst h2;have Bl:=eS ct h7;have L:=uK h8;let(dv,bE):=bq B.pl;show#[#[Se ct h4 h5,Bl,L],Vz Bl L F m1 db (λbk=>(ct.blk B.nd bk).n6 _ B.gl) (by rw[ct.N];show B.ix) (λbk=>(ct.blk B.nd bk).vis B.vi) dv bE
        (λbk=>BV (Y:=X.blk N' scope bk) hS hX hF ct.md ct.room ct.calm hK ct.nd ct.N h1 h5 h6 h8 h9 e1 e2 e3 e4 e5 F Sc bd) ed]
      . cases ed
     . cases ed
    . cases ed
   . cases ed
  . cases ed
def Ql(hS:iX P rn)(hX:mL P rn)(hF:gA P fns)(ct:aU P k X c)(hK:z.K=X.K)(B:BlR c fx scope N' v kb j) :
  ∀{ls:List Lt}{es:List Ex}{ds:List D},nG (Cm P c) fx f ir P.gU ls es->wQ rn k fns f ir P.gU es g=!ds->(∀m∈ls,(∃q cc,qg X (gK c.q) q cc)/\aJ X.env.scope m.scope/\eE m.params m.scope)/\d7 (qh X z g (gK c.q) N' (X.N.length+j) scope (.Call (.Name fx fp) [.Name v vp] [] cp)) ls ds:=by
 intro ls es ds hl h
 induction hl generalizing ds with
 |nil=>symm;show#[(λm h=>nomatch h),.nil]
 |cons hc hcs ih=>
  delta wQ at h;split at h
  .
   ext d ed;split at h
   . ext ds eds;symm;let(q1,q2):=ih eds;let(q3,q4):=Qk hS hX hF ct hK B hc ed;show#[λm hm=>(d6.mp hm).elim (λe=>e▸q3) (q1 m),.cons q4 q2]
   . symm
  . symm
def Kf(hS:iX P rn)(hX:mL P rn)(hF:gA P fns)(ct:aU P k X c)(hK:z.K=X.K)(hl:nG (Cm P c) fx f ir P.gU (l::ls) es)(B:BlR c fx scope N' v kb j)(h:bh rn z.bor k fns (.refs f ir P.gU es) g=!(r,g')) :
  ∃ds,r=.new ds/\(∃q cc,qg X (gK c.q) q cc)/\(∀m∈l::ls,aJ X.env.scope m.scope/\eE m.params m.scope)/\d7 (qh X z g (gK c.q) N' (X.N.length+j) scope (.Call (.Name fx fp) [.Name v vp] [] cp)) (l::ls) ds:=by
 delta bh at h;dsimp only at h;split at h
 . ext ds e;symm;let(q1,q2):=Ql hS hX hF ct hK B hl e;show#[ds,rfl,(q1 l dA).1,λm hm=>(q1 m hm).2,q2]
 . symm
abbrev YK(X:Cx)(z:Z)(e:Expr)(g:G)(o:Option (R×G)):Prop:=∀r g',o=!(r,g')->aD X z e g r g'
def YK.none:YK X z e g none:=λ_ _ h=>nomatch h
def YK.some{e:Expr}{g g':G}{r:R}(h:aD X z e g r g'):YK X z e g (!(r,g')):=λ_ _ q=>by cases q;show h
def xu(h:qZ P (m+1) c (.comp n' kk T it co xe) t=true):n'=c.N.length/\qB c.sc (cN t)=true/\iT c.N (iW c.N (cN t)) (cN t) kk=true/\(iW c.N (cN t)).Nodup/\zP (eF c t) (qG (eF c t) T (kid t 1)) T/\(∀i∈T.ix,c.N.length<=i/\i<c.N.length+kk)/\Gq P c (rJ (dM P m c) it (kid t 2)) it/\ki P (eF c t) (uO (dM P m (eF c t)) (kid t 3) co) co/\Cm P (eF c t) (dM P m (eF c t) xe (kid t 0)) xe:=by let(h1,a1):=ak h;let(h2,a2):=ak a1;let(h3,a3):=ak a2;let(h4,a4):=ak a3;let(h5,a5):=ak a4;show#[dec h1,(ak h2).1,(ak (ak h2).2).1,gw (ak (ak h2).2).2,qH h3,zX h4,uP .mk h5,zU .mk (ak a5).1,.mk (ak a5).2]
def mO(h:qZ P (m+1) c (.fC n' kk T1 ju c1 T it co xe) t=true):n'=c.N.length/\qB c.sc (cN t)=true/\iT c.N (iW c.N (cN t)) (cN t) kk=true/\(iW c.N (cN t)).Nodup/\zP (eF c t) (qG (eF c t) T1 (kid t 1)) T1/\zP (eF c t) (qG (eF c t) T (kid t (3+o1 c1))) T/\(∀i∈T1.ix,c.N.length<=i/\i<c.N.length+kk)/\(∀i∈T.ix,c.N.length<=i/\i<c.N.length+kk)/\Gq P c (rJ (dM P m c) ju (kid t 2)) ju/\ki P (eF c t) (uO (dM P m (eF c t)) (kid t 3) c1) c1/\Gq P (eF c t) (rJ (dM P m (eF c t)) it (kid t (4+o1 c1))) it/\ki P (eF c t) (uO (dM P m (eF c t)) (kid t (5+o1 c1)) co) co/\Cm P (eF c t) (dM P m (eF c t) xe (kid t 0)) xe:=by let(h1,a1):=ak h;let(h2,a2):=ak a1;let(h3,a3):=ak a2;let(h4,a4):=ak a3;let(h5,a5):=ak a4;let(h6,h7):=ak a5;show#[dec h1,(ak h2).1,(ak (ak h2).2).1,gw (ak (ak h2).2).2,qH (ak h3).1,qH (ak h3).2,zX (ak h4).1,zX (ak h4).2,uP .mk (ak h5).1,zU .mk (ak h5).2,uP .mk (ak h6).1,zU .mk (ak h6).2,.mk h7]
def WW(ct:aU P k X c)(hK:z.K=X.K)(h:okV P c d t=true):aD X z (zW d t) g (.dat d) g:=by
 delta okV at h;delta zW;cases e:zR t with
 |some y=>rw[e]at h;let(hd,v,u,q1,q2,q3):=ct.md.ct _ _ (Wr (ak h).2);show MJ (ct.n6 _ (dec (ak h).1)) q1 q2 (hK▸q3) hd
 |none=>
  rw[e]at h;cases d with
  |int i=>show Ud
  |bl i=>show ZL
  |str i=>show Ug
  |non=>show Ue
  |_=>show nt h
def Qm(hS:iX P rn)(hX:mL P rn){fns:List Fx}(hF:gA P fns)(ct:aU P k X c)(hK:z.K=X.K){e:Expr}{x:Ex}{g:G}(hc:Cm P c e x):YK X z e g (bh rn z.bor k fns x g):=by
 let(n,t,rfl,hk):=hc.LR;cases x
 case val d=>show .some (WW ct hK hk)
 case slot i=>
  have h1:=(fT hk).1;have h2:=(fT hk).2.1;have h3:=(fT hk).2.2;let(hd,bR):=bq h3;delta bh;dsimp only;split
  . ext e1;show .some (Uh (by rw[ct.N];show h1) (ct.vis h2) hd bR e1)
  . ext e1;show .some (MF (by rw[ct.N];show h1) (ct.vis h2) hd bR e1)
  . show .none
 case bin op a b=>
  have h1:=(Cm.mk (ak hk).1);have h2:=(Cm.mk (ak hk).2);delta bh;dsimp only;split
  .
   ext r1 r2 g2 e1;let(s1,s2,g1,q1,q2,q3):=jv e1;cases q3
   repeat' split
   all_goals try show .none
   ext d1 d2 p1 p2 _ r0 e3;show .some (Ui (bG (hS.e ct hK h1 q1)) (bG (hS.e ct hK h2 q2)) p1 p2 (V8 hK e3))
  . show .none
 case cmp op a b=>
  have h1:=(Cm.mk (ak hk).1);have h2:=(Cm.mk (ak (ak hk).2).1);have h3:=jZ (ak (ak hk).2).2;delta bh;dsimp only;split
  .
   ext r1 r2 g2 e1;let(s1,s2,g1,q1,q2,q3):=jv e1;cases q3
   repeat' split
   all_goals try show .none
   ext d1 d2 p1 p2 _ r0 e3;show .some (Uj (bG (hS.e ct hK h1 q1)) (bG (hS.e ct hK h2 q2)) p1 p2 (jY hK ct.room e3) h3)
  . show .none
 case chain a ops xs=>
  let(k1,k2):=ak hk;let(k3,k4):=ak k2;let(k5,k6):=ak k4;let(Ve,Vf,ops,rfl):=two (dec (ak k6).1);let(x1,x2,xs,rfl):=two (dec (ak k6).2);have h1:=Cm.mk k1;have h2:=dF (R:=Cm P c) .mk k3;have h3:=jZ k5;delta bh;dsimp only
  repeat' split
  all_goals try show .none
  ext d1 g1 e1 _ b g2 e2;show .some (Ic (bf hS ct hK h1 e1) (J8 hS ct hK h2 e2) h3)
 case not a=>
  have h1:=Cm.mk hk;delta bh;dsimp only;split
  . ext b g1 e1;show .some (Us (hS.e ct hK h1 e1))
  . show .none
 case and xs=>have h1:=dF (R:=Cm P c) .mk hk;show λ_ _ h=>Qc hS ct hK h1 h
 case or xs=>have h1:=dF (R:=Cm P c) .mk hk;show λ_ _ h=>WQ hS ct hK h1 h
 case tup xs=>
  have h1:=dF (R:=Cm P c) .mk hk;delta bh;dsimp only
  repeat' split
  all_goals try show .none
  ext ds g1 e1 hl;show .some (Uu (qJ hS ct hK h1 e1) (qI _) hl)
 case lst xs=>
  have h1:=dF (R:=Cm P c) .mk hk;delta bh;dsimp only
  repeat' split
  all_goals try show .none
  ext ds g1 e1 hl;show .some (Uv (qJ hS ct hK h1 e1) (qI _) hl)
 case ix a b=>
  have h1:=(Cm.mk (ak hk).1);have h2:=(Cm.mk (ak hk).2);delta bh;dsimp only;split
  .
   ext r1 r2 g2 e1;let(s1,s2,g1,q1,q2,q3):=jv e1;cases q3
   repeat' split
   all_goals try show .none
   ext d1 d2 p1 p2 _ r0 e3;show .some (ZM (bG (hS.e ct hK h1 q1)) (bG (hS.e ct hK h2 q2)) p1 p2 (V9 hK (by have:=ct.room.units;lia) e3) h2.Qa)
  . show .none
 case call i xs=>
  let(k1,k2):=ak hk;let(k3,k4):=ak k2;let(fi,h1,h2):=oN k1;cases xs with
  |nil=>cases (ak k4).2
  |cons x xs=>
  have h3:=dec k3;have h4:=dF (R:=Cm P c) .mk (ak k4).1;exact YK X z (.Call (.Name (qF P i) (kid t 0).pos) (j9 (dM P n c) t 1 (x::xs)) [] t.pos) g _;rw[<- h2]at h3 ⊢
  delta bh;dsimp only
  repeat' split
  all_goals try show .none
  ext fx k' ct' vf _ rs g1 e1;show λ_ _ h=>Ka hS ct hK h1 (hF _ _ _ h1 vf) h3 h4 (qK hS ct hK h4 e1) h
 case blt b xs=>
  cases xs with
  |nil=>cases (ak (ak hk).2).2
  |cons x xs=>
  have h2:=(aP (ak hk).1).1;have h3:=(aP (ak hk).1).2;have h4:=dF (R:=Cm P c) .mk (ak (ak hk).2).1;delta bh;dsimp only
  repeat' split
  all_goals try show .none
  ext rs g1 e1 _ ds e2 _ r0 e3;have ha:=qK hS ct hK h4 e1;have bR:=Wc hK ct.calm (by have:=ct.room.units;lia) e3
  have cO:=(Cm.mk (ak (ak (ak hk).2).1).1).star (env:=X.env) (j9 (dM P n c) t 2 xs);have lN:=(dF .mk (ak (ak (ak hk).2).1).2).plain (env:=X.env) (pos:=t.pos);cases b <;> first |show .some (Ho ha e2 bR (ct.n6 _ h3) (ct.md.bn _ h2) rfl ⋯ ⋯ cO lN) |show .some (Du ha e2 bR (ct.n6 _ h3) (ct.md.bn _ h2) rfl ⋯ ⋯ cO lN)
 case zO a n'=>
  have h1:=Cm.mk (ak (ak hk).2).1;have h2:=(aP (ak hk).1).1;have h3:=(aP (ak hk).1).2;have h4:=(aP (ak (ak (ak hk).2).2).2).1;have h5:=(aP (ak (ak (ak hk).2).2).2).2;have h7:=Bi.mp (ak (ak (ak hk).2).2).1;delta bh;dsimp only
  repeat' split
  all_goals try show .none
  ext r0 g1 e1 _ d e2;let(t1,_):=Kd ct (Fq.cons (pos:=(kid t 2).pos) h4 h5 rfl h7 .nil);cases t1 with
  |cons t1 _=>show .some (U3 hK (bG (hS.e ct hK h1 e1)) e2 (λ_ _ _ p=>wV p h7) (ct.n6 _ h3) (ct.md.bn _ h2) rfl t1.gl t1.mg t1.bt t1.nn t1.db (h1.star _))
 case JT a ns=>
  have h1:=Cm.mk (ak (ak hk).2).1;have h2:=(aP (ak hk).1).1;have h3:=(aP (ak hk).1).2;have h4:=dec (ak (ak (ak hk).2).2).1;have h5:=Wn (t:=kid t 2) (i:=0) (ak (ak (ak hk).2).2).2;delta bh;dsimp only
  repeat' split
  all_goals try show .none
  ext r0 g1 e1 _ d e2;let(t1,t2):=Kd ct h5;show .some (NP hK (bG (hS.e ct hK h1 e1)) e2 t1 ⋯ (λ_ _ _ p=>sS p t2) (ct.n6 _ h3) (ct.md.bn _ h2) rfl (h1.star _))
 case emp=>show .some (Vs)
 case peek xe=>
  have h1:=Cm.mk (ak hk).2;delta bh;dsimp only;split
  .
   ext hb;have hb:=CA.mp hb;split
   .
    ext d g1 e1;split
    . ext hf;show .some (Ov hb hf (hS.e ct hK h1 (by rw[hb];show e1)))
    . show .none
   .
    ext l g1 e1;split
    . ext hf;show .some (Js hb hf (hS.e ct hK h1 (by rw[hb];show e1)))
    . show .none
   . show .none
  . show .none
 case stk=>show .none
 case sP a l=>
  have h1:=Cm.mk (ak (ak hk).2).1;have h2:=(aP (ak hk).1).1;have h3:=(aP (ak hk).1).2;have h4:=dec (ak (ak (ak hk).2).2).2;have h5:=dec (ak (ak (ak hk).2).2).1;delta bh;dsimp only;let(db,cv,hcv,hn,hC):=ct.md.ups _ _ h4;have cls:∃w:V,(∀u,RelV w u->u=cv)/\PE X (.Name ((zR (kid t 2)).getD Str.empty) (kid t 2).pos) (tC w):=by
   rcases hcv with ⟨m1,D,rfl⟩ |⟨m1,m2,m3,n,rfl⟩
   . show#[.ref D,λu r=>r,Ak (ct.n6 _ h5) m1 rfl db]
   . show#[.ty n,λu r=>r,tT (ct.n6 _ h5) (ct.md.bn _ m1) m3 rfl m2 db]
  let(w,hw,pw):=cls;split
  .
   ext r0 g1 e1;split
   .
    ext C e2;split
    . ext b e3;show .some (Jq hK (bG (hS.e ct hK h1 e1)) e2 (λ_ _ _ _=>hC C b e3) (ct.n6 _ h3) (ct.md.bn _ h2) rfl hw pw (h1.star _))
    . show .none
   . ext e2;show .some (Jq hK (bG (hS.e ct hK h1 e1)) e2 (λ_ _ _ _=>hn) (ct.n6 _ h3) (ct.md.bn _ h2) rfl hw pw (h1.star _))
   . show .none
  . show .none
 case lq i ir ca xb=>
  let(g1,k1):=ak hk;let(g2,k2):=ak k1;let(g3,k3):=ak k2;let(h6,k5):=ak k3;let(fi,h1,h2):=oN g1;delta Ws at h6;rw[h1]at h6;have h3:=(Bool.or_eq_true_iff.mp g2).imp (λh=>(#[dec (ak h).1,dec (ak h).2]:_/\_)) uL
  have h4:=dec (ak g3).1;have h5:=(ak g3).2;have h7:=(ak k5).1;have h8:=(ak (ak k5).2).1;have h9:=Cm.mk (ak (ak k5).2).2;delta bh;dsimp only
  repeat' split
  all_goals try show .none
  ext fx k' e1 _ ci Jm e2 _ C e3 _ r0 g3 e4 _ r' e5;rcases h3 with ⟨rfl,h3⟩ |rfl
  . show .some (Qj hS hX hF ct hK h1 h2 h3 h4 h5 h6 h7 h8 h9 e1 e2 e3 e4 e5)
  . show .some (nomatch e3)
 case comp n' kk T it co xe=>
  let(rfl,h1,h2,h3,h4,h5,h6,h7,h8):=xu hk;delta bh;dsimp only;split
  . ext acc g1 e1;let(ao,g1,gE,w1,w2,w3,w4,w5,rfl):=xq hS ct hK h3 h4 h5 h6 h7 h8 e1;show .some (NB (eS ct h1) ct.calm (by rw[ct.N];show dG h2) w1 w2 w3 w4 w5 λy=>h6.folded y)
  . show .none
 case sO n' kk T1 ju c1 T it co xe=>
  have b2:=(aP (ak hk).1).1;have b3:=(aP (ak hk).1).2;let(rfl,h1,h2,h3,h4,h4',h5,h5',h6,h7,h8,h9,h10):=mO (t:=kid t 1) (ak hk).2;delta bh;dsimp only;split
  . ext ks g1 e1;let(ao,g1,gE,w1,w2,w3,w4,w5,w6,rfl):=Fv hS ct hK h3 h4 h4' h5 h5' h6 h7 h8 h9 h10 e1;show .some (JR ct.calm (O9 (eS ct h1) ct.calm (by rw[ct.N];show dG h2) w1 w2 w3 w4 w5 w6 (λy=>h6.folded y) λb y=>h8.folded y) (ct.n6 _ b3) (ct.md.bn _ b2) rfl)
  . show .none
 case fC n' kk T1 ju c1 T it co xe=>
  let(rfl,h1,h2,h3,h4,h4',h5,h5',h6,h7,h8,h9,h10):=mO hk;delta bh;dsimp only;split
  . ext acc g1 e1;let(ao,g1,gE,w1,w2,w3,w4,w5,w6,w7,rfl):=sV hS ct hK h3 h4 h4' h5 h5' h6 h7 h8 h9 h10 e1;show .some (Jz (eS ct h1) ct.calm (by rw[ct.N];show dG h2) w1 w2 w3 w4 w5 w6 w7 (λy=>h6.folded y) λb y=>h8.folded y)
  . show .none
 case wL a=>
  have h1:=Cm.mk (ak hk).2;have h2:=(aP (ak (ak hk).1).1).1;have h3:=(aP (ak (ak hk).1).1).2;have h4:=(aP (ak (ak hk).1).2).1;have h5:=(aP (ak (ak hk).1).2).2;delta bh;dsimp only
  repeat' split
  all_goals try show .none
  ext j g1 e1 hj;let(hj,hl):=hj;simp only[Gn,hU,mM]at hj;have q:=Ij (lp:=(kid t 0).pos) (pos:=t.pos) (rg_1 (p:=(kid (kid t 1) 0).pos) (rp:=(kid t 1).pos) (dY (bf hS ct hK h1 e1) fP (h1.star _)) (ct.n6 _ h3) (ct.md.bn _ h2) (h1.star _)) ct.calm (ct.n6 _ h5) (ct.md.bn _ h4) rfl #[by lia,by lia,hj.1,hj.2] (by rw[Int.sub_zero];show hl)
  rw[Int.sub_zero]at q;show .some (q)
 case append i x=>
  let(h5,hk):=ak hk;let(h1,h2,h3):=fT (ak hk).1;have h4:=Cm.mk (ak hk).2;let(hd,bR):=bq h3;delta bh;dsimp only
  repeat' split
  all_goals try show .none
  ext l0 e0 _ d g1 e1 _ l e2 hl;show .some (DN (by rw[ct.N];show h1) (ct.vis h2) hd bR e0 (dY (bf hS ct hK h4 e1) fP (h4.star _)) e2 hl rfl h5 (h4.star _))
 case extend i x=>
  let(h5,hk):=ak hk;let(h1,h2,h3):=fT (ak hk).1;have h4:=Cm.mk (ak hk).2;let(hd,bR):=bq h3;delta bh;dsimp only
  repeat' split
  all_goals try show .none
  ext l0 e0 _ d g1 e1 _ l e2 hl;show .some (DQ (by rw[ct.N];show h1) (ct.vis h2) hd bR e0 (dY (bf hS ct hK h4 e1) fP (h4.star _)) e2 hl rfl h5 (h4.star _))
 case qw i x=>
  let(h5,hk):=ak hk;let(h1,h2,h3):=fT (ak hk).1;have h4:=Cm.mk (ak hk).2;let(hd,bR):=bq h3;delta bh;dsimp only
  repeat' split
  all_goals try show .none
  ext l0 e0 _ j g1 e1 _ l e2 _ n e3 _ d e4 hl;show .some (HS (by rw[ct.N];show h1) (ct.vis h2) hd bR e0 (dY (bf hS ct hK h4 e1) fP (h4.star _)) e2 e3 e4 hl rfl h5 (h4.star _))
 all_goals show Bool.noConfusion (show false=true from hk)
def Kg(hS:iX P rn)(hX:mL P rn)(hF:gA P fns)(ct:aU P k X c)(hK:z.K=X.K)(hc:Cm P c e x)(h:bh rn z.bor k fns x g=!(r,g')):aD X z e g r g':=Qm hS hX hF ct hK hc r g' h
end
section
def Kh(hS:iX P rn)(ct:aU P k X c)(hK:z.K=X.K)(hc:Cm P c e x)(h:stepT rn z.bor k x g=!(b,g')):cM X z e g b g':=by
 have plain:(match rn.e z.bor k x g with |!(r,g1)=>(match pk (norm r) g1 with |some d=>(match Ih d with |some c=>!(c,g1) |none=>none) |none=>none) |none=>none)=!(b,g')->
   (∀whole,isTrue e X.env whole=(do let v <- whole;standAt e.pos;holding [v] (truthy v)))->cM X z e g b g':=by
  intro h he
  repeat' split at h
  all_goals try contradiction
  ext r g1 e1 _ d e2 _ b' e3;symm;show Ii hK (bG (hS.e ct hK hc e1)) e2 e3 he
 let(n,t,rfl,hk):=hc.LR;cases x
 case cmp op a b=>
  have h1:=Cm.mk (ak hk).1;have h2:=Cm.mk (ak (ak hk).2).1;have h3:=jZ (ak (ak hk).2).2;delta stepT at h;dsimp only at h;split at h
  .
   ext r1 r2 g2 e1;let(s1,s2,g1,q1,q2,q3):=jv e1;cases q3
   repeat' split at h
   all_goals try contradiction
   ext d1 d2 p1 p2 _ r0 e3;symm;show Uk (bG (hS.e ct hK h1 q1)) (bG (hS.e ct hK h2 q2)) p1 p2 (jY hK ct.room e3) h3
  . symm
 case chain a ops xs=>
  let(k1,k2):=ak hk;let(k3,k4):=ak k2;let(k5,k6):=ak k4;let(Ve,Vf,ops,rfl):=two (dec (ak k6).1);let(x1,x2,xs,rfl):=two (dec (ak k6).2);have h1:=Cm.mk k1;have h2:=dF (R:=Cm P c) .mk k3;have h3:=jZ k5;delta stepT at h;dsimp only at h;split at h
  . ext d1 g1 e1;show Ie (bf hS ct hK h1 e1) (J8 hS ct hK h2 h) h3
  . symm
 case not a=>
  have h1:=Cm.mk hk;delta stepT at h;dsimp only at h;split at h
  . ext b' g1 e1;symm;show Ul (hS.t ct hK h1 e1)
  . symm
 case and xs=>show (J9 hS ct hK (dF .mk hk) h).tr
 case or xs=>show (Qd hS ct hK (dF .mk hk) h).tr
 case val d=>show plain h (by rw[show P5 P (dM P n) c (.val d) t=zW d t from rfl];delta zW;split <;> show λ_=>rfl)
 case peek xe=>show plain h (by rcases wZ (ak hk).1 with ⟨x,p,a,es,pos,e⟩ |⟨a,b,s,p,e⟩ <;> (rw[show P5 P (dM P n) c (.peek xe) t=dM P n c xe t from rfl,e];show λ_=>rfl))
 all_goals first |show plain h λ_=>rfl |show Bool.noConfusion (show false=true from hk)
def oO(ct:aU P k X c):PassesOwn (~~~2) X.A X.env X.xe:=by rw[ct.xe];show PassesOwn.never
def qN(hb:∀{g g':G}{f:Fl},b g=!(f,g')->dZ X z body g f g'):∀{ao:List D}{g g':G}{f:Fl},fO T b ao g=!(f,g')->fQ X z body T ao g f g'
 | [],_,_,_,h=>by symm;show .nil
 |d::l,_,_,_,h=>by
  delta fO at h;split at h
  . symm
  .
   ext g0 e0;split at h
   . symm
   . ext g1 e1;show .next e0 (hb e1) (qN hb h)
   . ext g1 e1;show .cont e0 (hb e1) (qN hb h)
   . ext g1 e1;symm;show .brk e0 (hb e1)
   . ext g1 e1;symm;show .ret e0 (hb e1)
def zY(ht:∀{g g':G}{v:Bool},t g=!(v,g')->cM X z ce g v g')(hb:∀{g g':G}{f:Fl},b g=!(f,g')->dZ X z body g f g') :
  ∀{n:Nat}{g g':G}{f:Fl},LQ t b n g=!(f,g')->nY X z ce body n g f g'
 | 0,_,_,_,h=>by symm
 |n+1,_,_,_,h=>by
  delta LQ at h;split at h
  . symm
  . ext g1 e1;symm;show .done (ht e1)
  .
   ext g1 e1;split at h
   . symm
   . ext g2 e2;show .next (ht e1) (hb e2) (zY ht hb h)
   . ext g2 e2;show .cont (ht e1) (hb e2) (zY ht hb h)
   . ext g2 e2;symm;show .brk (ht e1) (hb e2)
   . ext g2 e2;symm;show .ret (ht e1) (hb e2)
def lA(h:Cm P c e x)(hn:wX (λ_ _=>true) e=false)(t:Option Expr)(l:Nat)(env:Env):swapsWith e t l env=pure false:=by have hs:=h.L5;cases e <;> first |rfl |show Bool.noConfusion (show true=false from hn) |show Bool.noConfusion (show false=true from hs)
def lB(ct:aU P k X c)(jl:c.df=true)(hl:cE c y=true):swapsWith (.ListComp a b s p) (!(.Name y py)) l X.env=pure (Pj c y py p s):=by
 exact (pure (X.env.blockKind==.function&&X.env.kindOf y==some .local&&py.line==(Expr.ListComp a b s p).pos.line&&(not ((s.names.any λ(n,k)=>n==y&&(k==.local||k==.cell))))):Sem Bool)=_
 rw[ct.bk jl];have e:(X.env.kindOf y==some .local)=(c.sc.names.lookup y==some .local):=by
  delta cE at hl;split at hl
  . ext e;rw[e];exact (X.env.scope.names.lookup y==_)=_;rw[ct.Yy y e]
  . ext e;rw[e];exact (X.env.scope.names.lookup y==_)=_;rw[ct.cel jl y e]
  . cases hl
 rw[e];rfl
def Fw(ct:aU P k X c)(jl:c.df=true)(hl:cE c y=true)(h:Cm P c e x)(hn:wX (λs p=>Pj c y py p s) e=false):swapsWith e (!(.Name y py)) l X.env=pure false:=by have hs:=h.L5;cases e <;> first |rfl |show Bool.noConfusion (show true=false from hn) |show Bool.noConfusion (show false=true from hs) | (rw[lB ct jl hl];show congrArg pure hn)
def WX{x:Str}{pn fY:Pos}{ix:Expr}{xi:Ex}{X:Cx}(h:Cm P c ix xi):∀v,assign (.Subscript (.Name x pn) ix fY) X.env v=(do
   let ov <- holding [v] (eval (.Name x pn) X.env)
   let iv <- holding [v,ov] (eval ix X.env)
   standAt fY
   holding [v,ov,iv] (setItem ov iv v)
   release [v,ov,iv] []):=by
 have hs:=h.L5;cases ix <;> first |show λ_=>rfl |show Bool.noConfusion (show false=true from hs)
def WY(h:Cm P c e x)(hn:∀vs k p,e≠.Tuple vs k p):swappedStores [.Tuple es k0 pt] e env=pure none:=by cases e <;> first |rfl |show absurd rfl (hn _ _ _) |show Bool.noConfusion (show false=true from hs)
def xx{α β:Type}{f:α->Option β}:∀{l:List α}{a:α},a∈l->f a=none->(l.filterMap f).length<l.length
 |b::l,a,h,e=>by
  have hle:=List.length_filterMap_le f l;rcases d6.mp h with rfl |h
  . rw[List.filterMap_cons_none e];show Nat.lt_succ_of_le hle
  .
   have:=xx h e;rw[v6];split
   . show Nat.lt_succ_of_le hle
   . rw[lL];show Nat.succ_lt_succ this
def W0{es:List Expr}{k0:Nat}{pt:Pos}{e:Expr}(ct:aU P k X c)(h:Pn c es e=true):swappedStores [.Tuple es k0 pt] e X.env=pure none:=by
 let(h1,h2):=ak h;let(h3,h4):=ak h2;let(a,ha,h5):=CB.mp h4;delta celN at h5;split at h5
 .
  ext x ex;obtain⟨px,rfl⟩:∃p,a=.Name x p:=by cases a <;> first | (cases ex;show#[_,rfl]) |cases ex
  have hx:X.env.kindOf x=some .cell:=ct.cel h3 x (mB h5);obtain⟨vs,k2,pt2,rfl⟩:∃vs k p,e=.Tuple vs k p:=by cases e <;> first |show#[_,_,_,rfl] |cases h1
  exact (if _ then _ else _:Sem (Option (List Str)))=_
  split
  . rfl
  .
   exact (if _ then _ else _:Sem (Option (List Str)))=_
   split
   . rfl
   .
    exact (if _ then _ else _:Sem (Option (List Str)))=_
    rw[i5];rw[AV];apply .inl ?_;rw[bne_iff_ne];apply kS (xx ha ?_);simp only[hx];rfl
 . cases h5
def W2(ct:aU P k X c)(h:Cm P c e x)(hn:(∀vs k p,e≠.Tuple vs k p)\/Pn c es e=true):swappedStores [.Tuple es k0 pt] e X.env=pure none:=
 hn.elim (WY h) (W0 ct)
def W3(h:Cm P c e x):swappedStores [.Subscript (.Name y pn) ix fY] e env=pure none:=by cases e <;> first |rfl |show Bool.noConfusion (show false=true from hs)
def qO(hS:iX P rn)(ct:aU P k X c)(jl:c.df=true)(hK:z.K=X.K)(hc:L1 P c s x)(h:aG rn z.bor k x g=!(f,g')):gq X z s g f g':=by
 let(mm,n,t,rfl,hk):=hc.LR;cases x
 case ret x=>
  have h1:=Cm.mk hk;delta aG at h;dsimp only at h;split at h
  . ext r g1 e1;symm;show U7 (hS.e ct hK h1 e1)
  . symm
 case expr x=>
  have h1:=Cm.mk (ak hk).1;have h2:=noC (ak hk).2;delta aG at h;dsimp only at h;split at h
  . ext r g1 e1;symm;show Nk (hS.e ct hK h1 e1) (lA h1 h2 _ _ _)
  . symm
 case set i x=>
  have h1:=dec (ak (ak hk).1).1;have h2:=(ak (ak hk).1).2;have h3:=Cm.mk (ak (ak hk).2).1;have h4:=jZ (ak (ak hk).2).2;have nm:=ct.nm h1 h2;have hsw:swapsWith (dM P (mm+1) c x (aB t 0)) (!(.Name (Ev.nm c i) (aB t 1).pos)) t.pos.line X.env=pure false:=Fw ct jl h2 h3 h4;delta aG at h;dsimp only at h;split at h
  . symm
  .
   ext hb;split at h
   .
    ext l g1 e1;split at h
    . ext hl;symm;show Np nm.nd nm.ix nm.lc (hS.e ct hK h3 e1) hl hsw nm.fn hb
    . symm
   .
    ext r g1 _ e1;split at h
    . ext d g2 e2;symm;show Nm nm.nd nm.ix nm.lc (J7 (hS.e ct hK h3 e1) e2) hsw nm.fn hb
    . symm
   . symm
 case setC i x=>
  let(g1,g2):=ak hk;let(h2,g4):=ak g2;let(h3,g6):=ak g4;have h1:=dec g1;cases x
  case comp n' kk T it co xe=>
   have hl:c.sc.names.lookup (Ev.nm c i)=some .local:=by delta Pj at h2;simp only[hU]at h2;show eq_of_beq h2.1.1
   have cO:cE c (Ev.nm c i)=true:=by delta cE;rw[hl]
   have nm:=ct.nm h1 cO;delta aG at h;dsimp only at h;split at h
   . symm
   .
    ext hb
    repeat' split at h
    all_goals try contradiction
    ext acc g1 e1 hi;symm;let(rfl,k1,k2,k3,k4,k5,k6,k7,k8):=xu h3
    . let(ao,g1,gE,w1,w2,w3,w4,w5,rfl):=xq hS ct hK k3 k4 k5 k6 k7 k8 e1;show NC (eS ct k1) ct.calm (by rw[ct.N];show dG k2) w1 w2 w3 w4 w5 nm.nd nm.ix (ct.Yy _ hl) hb hi (by rw[lB ct jl cO,h2]) λww=>k6.folded ww
  case fC n' kk T1 ju c1 T it co xe=>
   have hl:c.sc.names.lookup (Ev.nm c i)=some .local:=by delta Pj at h2;simp only[hU]at h2;show eq_of_beq h2.1.1
   have cO:cE c (Ev.nm c i)=true:=by delta cE;rw[hl]
   have nm:=ct.nm h1 cO;delta aG at h;dsimp only at h;split at h
   . symm
   .
    ext hb
    repeat' split at h
    all_goals try contradiction
    ext acc g1 e1 hi;symm;let(rfl,k1,k2,k3,k4,k4',k5,k5',k6,k7,k8,k9,k10):=mO h3
    . let(ao,g1,gE,w1,w2,w3,w4,w5,w6,w7,rfl):=sV hS ct hK k3 k4 k4' k5 k5' k6 k7 k8 k9 k10 e1;show JB (eS ct k1) ct.calm (by rw[ct.N];show dG k2) w1 w2 w3 w4 w5 w6 w7 nm.nd nm.ix (ct.Yy _ hl) hb hi (by rw[lB ct jl cO,h2]) (λww=>k6.folded ww) λb ww=>k8.folded ww
  all_goals show Bool.noConfusion (show false=true from g6)
 case tgt T x=>
  let(g1,g2):=ak hk;let(g3,g4):=ak g2;have h2:=Cm.mk (ak g4).1;have h4:=noC (ak g4).2;cases T with
  |nm i=>cases g1
  |tp is=>
  have h1:=qH (t:=aB t 1) g3;have h3:(∀vs k p,dM P (mm+1) c x (aB t 0)≠.Tuple vs k p)\/Pn c (zV c (aB t 1) 0 is) (dM P (mm+1) c x (aB t 0))=true:=((AV _ _).mp g1).imp (λh vs k p q=>by rw[q]at h;symm) id
  delta aG at h;dsimp only at h;split at h
  . symm
  .
   ext hb
   repeat' split at h
   all_goals try contradiction
   ext d g1 e1 _ g2 e2;symm;let(tt,q,kt):=qL ct hK h1 λi hi hm=>hb (by rw[CB];show#[i,hi,oC hm])
   let(te,qe,ke):=bf hS ct hK h2 e1;have hsw:=lA h2 h4 (!(.Tuple (zV c (aB t 1) 0 is) (uN (aB t 1)) (aB t 1).pos)) t.pos.line X.env;have cO:swappedStores [.Tuple (zV c (aB t 1) 0 is) (uN (aB t 1)) (aB t 1).pos] (dM P (mm+1) c x (aB t 0)) X.env=pure none:=W2 ct h2 h3;apply#[_,GF qe q hsw cO rfl,λσ As M H E s k2=>ke σ As M H _ s λv H1 aN M1 s1 dc R=>?_]
   show kt d g1 _ e2 v σ aN M1 H1 _ s1 R λσ' aC s' _=>k2 σ' aC M1 H1 s' dc
 case item i xj x=>
  have h1:=(fT (ak hk).1).1;have h2:=(fT (ak hk).1).2.1;have h3:=(fT (ak hk).1).2.2;have h4:=Cm.mk (ak (ak hk).2).1;have h5:=Cm.mk (ak (ak (ak hk).2).2).1;have h6:=noC (ak (ak (ak hk).2).2).2;let(hd,bR):=bq h3;delta aG at h;dsimp only at h
  repeat' split at h
  all_goals try contradiction
  ext d g1 e1 _ l0 e2 _ n g2 e3 _ l e4 _ m e5;symm;have hsw:=lA h5 h6 (!(.Subscript (.Name (Ev.nm c i) (kid (aB t 1) 0).pos) (dM P (mm+1) c xj (kid (aB t 1) 1)) (aB t 1).pos)) t.pos.line X.env;have cO:swappedStores [.Subscript (.Name (Ev.nm c i) (kid (aB t 1) 0).pos) (dM P (mm+1) c xj (kid (aB t 1) 1)) (aB t 1).pos] (dM P (mm+1) c x (aB t 0)) X.env=pure none:=W3 h5;show Nq (by rw[ct.N];show h1) (ct.vis h2) hd bR (bf hS ct hK h5 e1) e2 (bf hS ct hK h4 e3) e4 e5 (WX h4) hsw cO rfl
 case aug i op x=>
  have nm:=ct.nm (dec (ak (ak hk).1).1) (ak (ak hk).1).2;have h3:=Cm.mk (ak hk).2;delta aG at h;dsimp only at h
  repeat' split at h
  all_goals try contradiction
  ext e1 ho _ m g1 e2 _ l e3 hl;subst ho;symm;show Oz nm (bf hS ct hK h3 e2) e1 e3 hl
 case ite e a b=>
  have h1:=Cm.mk (ak hk).1;have h2:=xh.mk (ak (ak hk).2).1;have h3:=xh.mk (ak (ak hk).2).2;delta aG at h;dsimp only at h;split at h
  . ext g1 e1;show Rv (hS.t ct hK h1 e1) (by rw[i5 rfl];show hS.b ct jl hK h2 h)
  . ext g1 e1;show Rv (hS.t ct hK h1 e1) (by rw[kA xL];show hS.b ct jl hK h3 h)
  . symm
 case loop T it b=>
  have h1:=qH (t:=aB t 0) (ak hk).1;have h2:=uP (R:=Cm P c) .mk (ak (ak hk).2).1;have h3:=xh.mk (ak (ak hk).2).2;delta aG at h;dsimp only at h;split at h
  . symm
  .
   ext hb;split at h
   . ext ao g1 e1;show Vc (oO ct) ct.calm (mK hS ct hK (sU h1) h2 e1) (qL ct hK h1 λi hi hm=>hb (by rw[CB];show#[i,hi,oC hm])) (qN (λe=>hS.b ct jl hK h3 e) h) λy=>h2.folded y
   . symm
 case «while» e b=>have h1:=Cm.mk (ak hk).1;have h2:=xh.mk (ak hk).2;show Ig (oO ct) (zY (λe=>hS.t ct hK h1 e) (λe=>hS.b ct jl hK h2 e) h)
 case raise i x=>symm
 case stuck=>symm
 all_goals show Bool.noConfusion (show false=true from hk)
def zZ(hS:iX P rn)(ct:aU P k X c)(jl:c.df=true)(hK:z.K=X.K)(h:RX P (Cm P c) (L1 P c) c ss x)(e:aG rn z.bor k x g=!(f,g')):mF X z ss g f g':=by
 cases h with
 |@ways p y st h o ip iy uB ih io e1 e2 E1 E2 ss h1 h2 h3 h4 h5 h6 h7 h8 q1 q2=>
  delta aG at e;dsimp only at e;split at e
  .
   ext n gp gy;split at e
   .
    ext gs gh go;split at e
    .
     ext hn;split at e
     .
      ext j g1 r1;split at e
      .
       ext hj;split at e
       .
        ext m hm;cases e;let(n1,n2):=ak hn;simp only[Gn,hU,mM]at hj;have vr:∀{i:Nat}{x:Str},(c.N[i]?=!x/\iB c.sc x=true/\bu x=true)->Vr X x i:=λq=>#[by rw[ct.N];show q.1,ct.vis q.2.1,(bq q.2.2).1,(bq q.2.2).2]
        have ev2:∀{a:Int}{ns: ~~~0},Yx rn z.bor k ih e2 g a=!ns->∃l g',aD X z E2 (g.set ih ‹a›) (.new l) g'/\bF l=!ns:=by
         intro a ns w;delta Yx at w;split at w
         . ext l g2 r2;show#[l,g2,hS.e ct hK q2 r2,w]
         . cases w
        show JG #[n1,CA.mp n2,oO ct,ct.calm,vr h2.1,vr h5.1,vr h4.1,ct.nm h5.1.1 h5.2,ct.nm h4.1.1 h4.2,ct.nm h3.1 h3.2,h6.1,h6.2.1,h6.2.2.1,h6.2.2.2,gy,go,gh,gs,ct.n6 _ h8.2,ct.md.bn _ h8.1,ct.n6 _ h7.2,ct.md.bn _ h7.1,ev2,λx=>(uJ.seq (P:=P) (c:=c) q2).folded x] (ct.nm h2.1.1 h2.2) (vr h1) gp (hS.e ct hK q1 r1) (by rw[q1.star];rfl) hj.1 hj.2 hm
       . cases e
      . cases e
     . cases e
    . cases e
   . cases e
  . cases e
 |@rows y x mn a b tn im it iy ia ib scope N' kb j lp px rp mp RJ yt ap py pa pb jk y1 y2 a1 a2 b1 b2 sp1 rF Ly JF Lz zF ep1 RD zG rpos yr tp tk h1 h2 h3 h4 h5 h6 h7 h8 h9 h10=>
  delta aG at e;dsimp only at e;split at e
  .
   ext m ah gm gt;split at e
   .
    ext gy ga gb
    repeat' split at e
    all_goals try contradiction
    ext hm _ ll hF;cases e;have hl:c.sc.names.lookup y=some .local:=by have:=h3.2.1;delta Pj at this;simp only[hU]at this;show eq_of_beq this.1.1
    have cO:cE c y=true:=by delta cE;rw[hl]
    obtain⟨m,rfl⟩:∃n:Nat,m=n:=#[m.toNat,by lia]
    let(dm,cm):=bq h1.2.2;let(dt,ct'):=bq h2.2.2;let(dy,cy):=bq h3.2.2;let(da,ca):=bq h4.1.2.2;let(db,cb):=bq h5.1.2.2;have ny:=ct.nm h3.1 cO;show zH (oO ct) hK h7.1 (by rw[ct.N];show dG h7.2.2.1) (eS ct h7.2.1) ct.calm (λbk=>(ct.blk h7.2.2.2.1 bk).nm (by rw[ct.N];show h7.2.2.2.2.1) h7.2.2.2.2.2) (ct.n6 _ h8.2) (ct.md.bn _ h8.1) (by rw[ct.N];show h1.1) (ct.vis h1.2.1) dm cm gm ⋯ ny.nd ny.ix (ct.Yy _ hl) dy cy gy (by rw[lB ct jl cO,h3.2.1])
     (ct.nm h4.1.1 h4.2) (ct.vis h4.1.2.1) da ca (ct.nm h5.1.1 h5.2) (ct.vis h5.1.2.1) db cb (by rw[ct.N];show h2.1) (ct.vis h2.2.1) dt ct' gt ga gb h6.1 h6.2.1 h6.2.2 h9 h10 hF
   . cases e
  . cases e
 |@mk y v fx ic fi ir l ls e0 es ss st scope N' kb j rE op rhs ret b py lp pos fp vp cp tp ip yt cmp h1 h2 h3 h4 h5 h6 h7 h8 h9 h10 h11=>
  delta aG at e;dsimp only at e;split at e
  .
   ext hg;split at e
   .
    ext ds gx e1;split at e
    .
     ext r2 g2 e2;split at e
     .
      ext d2 p2;split at e
      .
       ext cc e3;let(ds',hr,(q,cc0,mk),hm,he):=hS.g ct hK h6 h8 e1;cases hr;let(dy,cdy):=bq h4;have hN:X.N[ic]?=!y:=by rw[ct.N];show h1
       have vy:=ct.vis h3;have YL:=ct.nm h1 h2;have Sf:∃t,PE X (.ListComp (.Call (.Name fx fp) [.Name v vp] [] cp) [#[.Name v tp,.Name y ip,[],0]] scope yt) t/\∀σ H M0 H0 Q,LL X z g (gK c.q) ic M0 H0 (l::ls) σ H->Kn z g σ M0 H0 (.new ds) Q->t σ H Q:=by apply wB h8.lt (by rw[ct.N];show dG h8.nm) (eS ct h8.bl) ct.calm hN vy dy cdy (λbk=>(ct.blk h8.nd bk).nm (by rw[ct.N];show h8.ix) h8.st) (by simp only[lL];lia) he
       have Mu:=bG (hS.e ct hK h9 e2);cases h11 with
       |ite hs=>
        apply nj hK mk YL.nd hN YL.lc YL.fn vy dy cdy hg h5 hm h7 (Ju Sf Mu p2 (jY hK ct.room e3) h10 ?_);cases cc with
        |true=>show hS.b ct jl hK (.cons hs .nil) e
        |false=>cases e;show HQ
       |ret=>cases e;show nj hK mk YL.nd hN YL.lc YL.fn vy dy cdy hg h5 hm h7 (Er Sf Mu p2 (jY hK ct.room e3) h10)
      . cases e
     . cases e
    . cases e
   . cases e
  . cases e
def Kl(hS:iX P rn)(ct:aU P k X c)(jl:c.df=true)(hK:z.K=X.K):∀{jO:List Stmt}{xs:List Sm}{g g':G}{f:Fl},xh P c jO xs->cD rn z.bor k xs g=!(f,g')->dZ X z jO g f g':=by
 intro jO xs g g' f hc h
 induction hc generalizing g with
 |nil=>symm;show HQ
 |grp h1 h2 ih=>
  delta cD at h;split at h
  . ext g1 e1;show (zZ hS ct jl hK h1 e1).bk (ih h)
  . ext hn e1;symm;show (zZ hS ct jl hK h1 e1).end λe=>hn e
  . symm
 |cons h1 h2 ih=>
  delta cD at h;split at h
  . ext g1 e1;show Nj (qO hS ct jl hK h1 e1) (ih h)
  .
   ext hn e1;symm;have q:=qO hS ct jl hK h1 e1;cases f with
   |nx=>show absurd rfl hn
   |rt r=>show U4 q
   |bk=>show U5 q
   |ct=>show U6 q
  . symm
end
def Qo{P:Pg}{k:Nat}{prog:Program}{w:World}{K:Frag}{mg:Str->Option Value}{base:Heap}{N ps:List Str}{qual:Str}{scope:Scope}{f:Addr}{bE:Value}{A:Around}{outer:List Env}{s:Shared}{H:Hp}{E:XK}
  (S:bY N ps scope) (md:uH P K mg) (bR:PySem.W.codeIn K bE qual=true) (hr:cC k (A.deeper (envOfC qual scope s⁻¹ f bE))):Qf P k (gI (Gi prog w) prog w K mg base N qual scope f bE A outer s H E) #[N,scope,true,qual]:=by
 apply#[#[rfl,S.nd,λx e=>e,λx e=>e,λx e=>e,λ_ x e=>e,λx _=>rfl,λ_=>?_,rfl,rfl,md,hr,λe h=>#[rfl,md.lam h _ e _ bR]],rfl,PassesOwn.leaving]
 exact (if scope.kind.isAnnotationScope then ScopeKind.function else scope.kind)=.function
 rw[S.kind];rfl
section
def xA(hS:iX P rn)(hX:mL P rn)(cx:Qf P k X c)(hK:z.K=X.K)(hC:jK P X.mg ci C):∀{es:List Expr}{xs:List Ex}{g g':G},Gp P c es xs->xArgs rn z.bor k xs g=!(ci,g')->Z4 X z es g C g':=by
 intro es xs g g' hc h
 induction hc generalizing g with
 |nil=>symm
 |cons h1 h2 ih=>
  delta xArgs at h;split at h
  . ext e1;symm;show NX (hX.x cx hK hC h1 e1) (h1.star _)
  .
   split at h
   . ext r g1 e1;show NZ (hS.e cx.ct hK h1 e1).lift (ih h) (h1.star _)
   . symm
def Km(hS:iX P rn)(hX:mL P rn)(hF:gA P fns)(cx:Qf P k X c)(hK:z.K=X.K)(hC:jK P X.mg ci C)(hc:Cm P c e x)(h:wU rn z.bor k fns x g=!(ci,g')):Gj X z e g C g':=by
 have ct:=cx.ct;let(n,t,rfl,hk):=hc.LR;cases x
 case call i xs=>
  let(k1,k2):=ak hk;let(k3,k4):=ak k2;let(fi,h1,h2):=oN k1;cases xs with
  |nil=>cases (ak k4).2
  |cons x xs=>
  have h3:=dec k3;have h4:=dF (R:=Cm P c) .mk (ak k4).1;exact Gj X z (.Call (.Name (qF P i) (kid t 0).pos) (j9 (dM P n c) t 1 (x::xs)) [] t.pos) g C g';rw[<- h2]at h3 ⊢
  have cO:=(Cm.mk (ak (ak k4).1).1).star (env:=X.env) (j9 (dM P n c) t 2 xs);have lN:=(dF .mk (ak (ak k4).1).2).plain (env:=X.env) (pos:=t.pos);let(fa,fd,hm,hFn,YJ,hB,jN):=ct.md.fn _ fi h1;delta wU at h;dsimp only at h;split at h
  .
   ext r e1;symm;cases k with
   |zero=>
    let(tt,q,kk):=xA hS hX cx hK hC h4 e1;apply#[_,?_,λσ As M H Q s ac=>kk σ As M H (λ_ _=>False) s ac]
    intro aj s σ H Q I ht;apply xI (fJ I (ct.n6 _ h3) hm ?_ jN);show A4 I.ok.mod.ym hFn.kp (bU (q t.pos aj s σ H _ I ht) (by rintro us s1 ⟨_,_,_,_,h⟩;show h.elim)) cO lN
   |succ k'=>
    have F:jP X.prog X.w X.K X.mg X.base yL (k'+1) fa fd fi.ps (Ry X.K fi.N fi.ps.length λ_ _ _ _=>False):=HX hFn YJ λ_ _ _ _ _ _ _ _ _ _ _ _ _ h=>h.elim
    show Ip F (xA hS hX cx hK hC h4 e1) ct.room (ct.n6 _ h3) hm hFn.kp hB jN cO lN
  .
   cases vf:fns[i]? with
   |none=>rw[vf]at h;symm
   |some fx=>
    rw[vf]at h;cases k with
    |zero=>symm
    |succ k'=>
     dsimp only at h;split at h
     .
      ext rs g1 e1;have W4:=hF _ _ _ h1 vf;have F:jP X.prog X.w X.K X.mg X.base (Gi X.prog X.w) (k'+1) fa fd fi.ps (SpX X.K fi.N fi.ps.length λbor g C g'=>∃ci,jK P X.mg ci C/\rn.xb bor k' fx.body g=!(ci,g')):=by apply Vn hFn YJ ?_;rintro bE A outer s H E bR hr z' g C g' Yr ⟨ci,hci,hrun⟩;show hX.b (Qo YJ ct.md bR hr) rfl Yr hci W4.body hrun
      delta wR at h;split at h
      .
       ext hl;split at h
       . symm
       .
        ext gs e2;split at h
        .
         ext ci' gc e3;split at h
         .
          ext gO e4;symm;have ha:=qK hS ct hK h4 e1;have ha':dg X z (dM P n c x (kid t 1)::j9 (dM P n c) t 2 xs) g rs g1:=by
           let(t,q,kk):=ha;apply#[t,λpos aj s σ H Q I hw=>?_,kk]
           show i9 (q pos aj s σ H Q (I.wish _) hw) (by rintro _ _ ⟨v,H',I',r,q⟩;show#[v,H',I'.cQ,r,q]) λ_ _ z=>False.elim z
          show N4 F hK cx.ex ct.room (ct.n6 _ h3) hm hFn.kp hB ha' (by rw[hl.1,W4.np]) e2 hl.2 #[ci,hC,by rw[<- W4.n];show e3] e4 jN cO lN
         . symm
        . symm
      . symm
     . symm
 all_goals symm
def Fy(hX:mL P rn)(cx:Qf P k X c)(hK:z.K=X.K)(hC:jK P X.mg ci C)(hc:Cm P c e x)(h:mJ rn z.bor k x g=!(ci,g')):Ym X z e g C g':=by
 let(n,t,e,hk):=hc.LR;cases x
 case not a=>subst e;show NT (hX.t cx hK hC (.mk hk) h)
 case call i l=>show Vk (hX.x cx hK hC hc h) (by rw[e];show λ_=>rfl)
 all_goals symm
def gq.lift{st:Stmt}{g g':G}{f:Fl}(h:gq X.tU z st g f g'):gq X z st g f g':=by
 let(t,q,k):=h;apply#[t,λaj s σ H D I hw=>?_,k]
 show i9 (q aj s σ H D (I.wish _) hw) (λ_ _ q=>q.cQ) λ_ _ z=>False.elim z
def Fz(hS:iX P rn)(hX:mL P rn)(cx:Qf P k X c)(jl:c.df=true)(hK:z.K=X.K)(hC:jK P X.mg ci C)(hc:L1 P c s x)(h:iS rn z.bor k x g=!(ci,g')):Vj X z s g C g':=by
 have ct:=cx.ct;let(mm,n,t,rfl,hk):=hc.LR;cases x
 case ret x=>show Vl (hX.x cx hK hC (.mk hk) h)
 case expr x=>have h1:=Cm.mk (ak hk).1;have h2:=noC (ak hk).2;show N1 (hX.x cx hK hC h1 h) (lA h1 h2 _ _ _)
 case ite e a b=>
  have h1:=Cm.mk (ak hk).1;have h2:=xh.mk (ak (ak hk).2).1;have h3:=xh.mk (ak (ak hk).2).2;delta iS at h;dsimp only at h;split at h
  . ext e1;symm;show Vm (hX.t cx hK hC h1 e1)
  .
   split at h
   . ext g1 e1;show Im (hS.t ct hK h1 e1).lift (by rw[i5 rfl];show hX.b cx jl hK hC h2 h)
   . ext g1 e1;show Im (hS.t ct hK h1 e1).lift (by rw[kA xL];show hX.b cx jl hK hC h3 h)
   . symm
 case raise i x=>
  have h1:=dec (ak hk).1;have h2:=dec (ak (ak hk).2).1;have h3:=Cm.mk (ak (ak hk).2).2;delta iS at h;dsimp only at h;split at h
  .
   ext d g1 e1;symm;let(y,q1,q2):=hC;rw[h1]at q1;cases q1;let(jN,C',q3,q4):=ct.md.cls _ (i7 h1);have e:C'=C:=by have:=q3.symm.trans q2;cases this;rfl
   subst e;show Io ct.calm cx.ex q4 (ct.n6 _ h2) q2 jN (dY (bf hS ct hK h3 e1).lift fP (h3.star _)) (h3.star _)
  . symm
 all_goals symm
def FG(hS:iX P rn)(hX:mL P rn)(cx:Qf P k X c)(jl:c.df=true)(hK:z.K=X.K)(hC:jK P X.mg ci C):∀{jO:List Stmt}{xs:List Sm}{g g':G},xh P c jO xs->gS rn z.bor k xs g=!(ci,g')->NR X z jO g C g':=by
 intro jO xs g g' hc h
 induction hc generalizing g with
 |nil=>symm
 |grp h1 h2 ih=>
  delta gS at h;split at h
  . ext e1;cases h1 <;> cases e1
  .
   split at h
   . ext g1 e1;show ((zZ hS cx.ct jl hK h1 e1).lift).ra (ih h)
   . symm
 |cons h1 h2 ih=>
  delta gS at h;split at h
  . ext e1;symm;show N2 (Fz hS hX cx jl hK hC h1 e1)
  .
   split at h
   . ext g1 e1;show N3 (qO hS cx.ct jl hK h1 e1).lift (ih h)
   . symm
end
def xB(hF:gA P fns):∀n,iX P (run fns n)/\mL P (run fns n)
 | 0=>#[#[λ_ _ _ h=>(by symm),λ_ _ _ h=>(by symm),λ_ _ _ _ h=>(by symm),λ_ _ _ _ h=>(by symm)],#[λ_ _ _ _ h=>(by symm),λ_ _ _ _ h=>(by symm),λ_ _ _ _ _ h=>(by symm)]]
 |n+1=>
  let #[a,b]:=xB hF n
  #[#[λct hK hc h=>Kg a b hF ct hK hc h,λct hK hc h=>Kh a ct hK hc h,λct jl hK hc h=>Kl a ct jl hK hc h,λct hK hl B h=>Kf a b hF ct hK hl B h],
  #[λcx hK hC hc h=>Km a b hF cx hK hC hc h,λcx hK hC hc h=>Fy b cx hK hC hc h,λcx jl hK hC hc h=>FG a b cx jl hK hC hc h]]
def Qp(hF:gA P fns)(n:Nat):iX P (run fns n):=(xB hF n).1
abbrev Qq(K:Frag)(mg:Str->Option Value)(fi:Fi):Prop:=
 ∃f fd,mg fi.name=!(.ref f)/\Lv K fi.name fi.qual fi.st f fd/\bY fi.N fi.ps (aE fi.st)/\(∀us:List Value,us.length=fi.ps.length->bindArgs fd #[us,[]]=pure (fi.ps.zip us))/\(fi.name==(~~~3))=false
abbrev W5(K:Frag)(mg:Str->Option Value)(p:Str×D):Prop:=(p.1==(~~~3))=false/\∃v u,mg p.1=!u/\RelV v u/\∀M H,Rep K M H p.2 v
inductive All{α:Type}(p:α->Prop):List α->Prop
 |nil:All p []
 |cons {a:α}{l:List α}:p a->All p l->All p (a::l)
def All.mem{α:Type}{p:α->Prop}:∀{l:List α},All p l->∀a∈l,p a:=by
 intro l h
 induction h with
 |nil=>intro a h;symm
 |cons h t ih=>
  intro a hm;rcases d6.mp hm with rfl |hm
  . show h
  . show ih a hm
structure W6(P:Pg)(K:Frag)(mg:Str->Option Value):Prop where
 lam:P.lam=true->∀n∈iI,∀bE,PySem.W.codeIn K bE n=true->J1 K mg n bE
 gU:∀(i:Nat) (C:Addr),P.gU[i]?=!C->∃x,P.cls[i]?=!x/\mg x=!(.ref C)/\eK K C/\Hi K C
 kt:P.lam=true->(P.kt==(~~~3))=false/\∃D,mg P.kt=!(.ref D)/\eK K D/\∀C∈P.gU,rD K C D=true
 ups:∀(x:Str) (l:List (Addr×Bool)),(x,l)∈P.ups->(x==(~~~3))=false/\∃cv,((mg x=!cv/\∃D,cv=.ref D)\/(x∈P.bn/\x≠ "__name__" /\bootBuiltins x=!cv/\∃n,cv=.type n))/\PySem.W.kitOne K (.type "NoneType") cv=!false/\∀C b,l.lookup C=!b->PySem.W.kitOne K (.ref C) cv=!b
def md_mk{P:Pg}{K:Frag}{mg:Str->Option Value}(h1:All (Qq K mg) P.fn)(h2:All (W5 K mg) P.ct)(h3:All (λx=>mg x=none) P.bn)(h4:All (λx=>(x==(~~~3))=false/\∃C,mg x=!(.ref C)/\eK K C) P.cls)(h5:W6 P K mg):uH P K mg:=
 #[λi fi e=>by let(f,fd,q1,q2,q3,q4,q5):=h1.mem fi (i7 e);show#[f,fd,q1,q2,q3,.all q4,q5],λx d h=>h2.mem (x,d) h,λx h=>h3.mem x h,λx h=>h4.mem x h,h5.lam,h5.gU,h5.kt,h5.ups]
abbrev BdOk(fi:Fi):Prop:=∀(kV doc pm:Value) (an:Option Addr) (bE ct:Value) (us:List Value),us.length=fi.ps.length->bindArgs (PySem.W.fnOf fi.name fi.qual (jm fi.st) (bA fi.st) (aE fi.st) .none kV doc pm an bE ct) #[us,[]]=pure (fi.ps.zip us)
section
variable{K:Frag}
def fi_mk{fi:Fi}{oc:Value}{od an:Option Addr}{osl:Array (Option Value)}{kV doc pm bE ct:Value}(X:K.In h)(G:h.Ns mainGlobals mg)(a:PySem.W.nsIn K mainGlobals fi.name=!(!(.ref f)))
  (l:K.lookup f=!#[oc,od,.func (PySem.W.fnOf fi.name fi.qual (jm fi.st) (bA fi.st) (aE fi.st) .none kV doc pm an bE ct),osl]) (c:PySem.W.codeIn K bE fi.qual=true) (k:PySem.W.keepIn K (.ref f)=true)
  (sc:bY fi.N fi.ps (aE fi.st)) (hb:BdOk fi)
  (hd:(fi.name==(~~~3))=false):Qq K mg fi:=
 let F:=T7 l c k
 #[f,_,CI X G a,F,sc,hb kV doc pm an bE ct,hd]
def W7(X:K.In h)(G:h.Ns mainGlobals mg)(a:PySem.W.nsIn K mainGlobals x=!(!(.int i t)))(hd:(x==(~~~3))=false):W5 K mg (x,.int i):=
 #[hd,.int i,.int i t,CI X G a,#[t,rfl],λ_ _=>.int i]
def Sh(X:K.In h)(G:h.Ns mainGlobals mg)(a:PySem.W.nsIn K mainGlobals x=!(!(.ref C)))(q:eK K C)(hd:(x==(~~~3))=false):(x==(~~~3))=false/\∃C,mg x=!(.ref C)/\eK K C:=
 #[hd,C,CI X G a,q]
def W8{P:Pg}{fns:List Fx}{prog:Program}{w:World}{base:Heap}(hF:gA P fns)(md:uH P K mg){i:Nat}{fi:Fi}{fx:Fx}{x:Str}{fd:FuncData}{n k:Nat}(VJ:P.fn[i]?=!fi)(vf:fns[i]?=!fx)(hp:fi.ps=[x])(F:Lv K fi.name fi.qual fi.st f fd)(sc:bY fi.N fi.ps (aE fi.st)) :
  jP prog w K mg base yL (k+1) f fd [x] (Ry K fi.N 1 λbor g r g'=>(run fns n).b bor k fx.body g=!(.rt r,g')):=by
 have:=HX (P:=prog) (w:=w) (base:=base) (run:=λbor g r g'=>(run fns n).b bor k fx.body g=!(.rt r,g')) F sc λbE A outer s H E bR hr z g r g' hK hrun=>
  #[_,(Qp hF n).b (qM sc md bR hr) rfl hK (hF i fi fx VJ vf).body hrun,.inl rfl]
 rw[hp]at this;show this
def Ko{P:Pg}{fns:List Fx}{prog:Program}{w:World}(hF:gA P fns)(md:uH P K mg){i:Nat}{fi:Fi}{fx:Fx}{x:Str}{n k:Nat}(VJ:P.fn[i]?=!fi)(vf:fns[i]?=!fx)(hp:fi.ps=[x])(h:Qq K mg fi)(hm:mg fi.name=!(.ref f)) :
  ∃fd:FuncData,(∀(s:Shared) (u:Value),BindsTo s fd #[[u],[]] [(x,u)])/\∀base:Heap,K.In base->base.Ns mainGlobals mg->jP prog w K mg base yL (k+1) f fd [x] (Ry K fi.N 1 λbor g r g'=>(run fns n).b bor k fx.body g=!(.rt r,g')):=by
 let(f',fd,q1,q2,q3,q4,q5):=h;rw[hm]at q1;cases q1;apply#[fd,λs u=>.of_eq ?_,λbase _ _=>W8 hF md VJ vf hp q2 q3]
 have:=q4 [u] (by rw[hp];rfl)
 rw[hp]at this;show this
def W9{N:List Str}{run:List Nat->G->R->G->Prop}(hev:∀ns:List Int,ns.length<=63->∃g',run [] (dD N.length [.dat (.fix (ns.map .int))]) (.dat (.bl true)) g')(K:Frag)(H:Hp)(a:Addr)(ns: ~~~0)(hl:ns.length<=63)(hO:Bs ((cH K).map (·.1)) H)(hS:cA K H a (ns.map V.int)) :
  Ry K N 1 run [.ref a] H (λv _=>v=.bl true) λ_ _ _=>False:=by
 let(g',hg):=hev ns hl;have fx:su K ((cH K).map (·.1)) H a (ns.map V.int):=by
  rcases hS with h |h
  .
   rcases hO a with ⟨_,z⟩ |⟨na,z⟩
   . rcases h with h |⟨o,h⟩ <;> (rw[z]at h;symm)
   .
    apply .inl #[na,?_];rcases h with h |h
    .
     rcases z with z |⟨o,xs,z⟩
     . rw[z]at h;symm
     . rw[z]at h;symm
    . show h
  . show .inr (.inr h)
 have rr:∀ns:List Int,aK K ((cH K).map (·.1)) H (ns.map D.int) (ns.map V.int):=λns=>by
  induction ns with
  |nil=>show .nil
  |cons n ns ih=>show .cons (.int n) ih
 have tb:∀p∈cH K,H p.1=!(.nP ([].toArray)):=λp hp=>by
  rcases hO p.1 with ⟨_,z⟩ |⟨z,_⟩
  . show z
  . show absurd (fR.mpr #[p,hp,rfl]) z
 apply#[rfl,#[K,H,(cH K).map (·.1),[],cH K],dD N.length [.dat (.fix (ns.map .int))],g',[],(cH K).map (·.1),.dat (.bl true),rfl,?_,hg,λv σ' aC M' H' s' st R=>fL R]
 apply#[?_,o6,(λa ha=>nomatch ha),λi b l e1 e2=>?_,(λm hm=>.inr hm),(λb o e _ _=>e),(λm hm=>hm),(λm hm=>?_),(λb hb=>nomatch hb),(λp hp=>nomatch hp),(λp hp=>#[([].toArray),tb p hp,trivial,λpos cv e=>nomatch e]),(λp hp=>fR.mpr #[p,hp,rfl]),rfl]
 . show Slots.append (.dat (.fix fx (rr ns)) .nil) (Slots.nos _)
 .
  exfalso;delta dD at e1;cases i with
  |zero=>simp at e1
  |succ i=>rw[eD ⋯]at e1;have:=i7 e1;rw[x5]at this;show absurd this.2 ⋯
 . let(p,hp,rfl):=fR.mp hm;intro z;have z:H p.1=none:=z;rw[tb p hp]at z;cases z
end
meta abbrev Fi.ct(fi:Fi):Ct:=#[fi.N,aE fi.st,true,fi.qual]
abbrev BW(P:Pg)(fi:Fi)(fx:Fx):List Stmt:=rK (WL P 99 (R8 P 99 20 fi.ct) fi.ct) (R8 P 99 20 fi.ct) fx.body (bA fi.st)
abbrev fxB(P:Pg)(fi:Fi)(fx:Fx):Bool:=decide (fx.np=fi.ps.length)&&(decide (fx.n=fi.N.length)&&L0 (WM P 99 (R9 P 99 20 fi.ct) fi.ct) (R9 P 99 20 fi.ct) fx.body (bA fi.st))
def Xa(e:BW P fi fx=bA fi.st)(h:fxB P fi fx=true):Qg P fi fx:=#[dec (ak h).1,dec (ak (ak h).2).1,Eq.mp (congrArg (λl=>xh P fi.ct l fx.body) e) (xh.mk (ak (ak h).2).2)]
abbrev Qs(P:Pg):List Fi->List Fx->Bool
 |fi::l,fx::r=>fxB P fi fx&&Qs P l r
 |_,_=>true
def Qt(e:List.zipWith (BW P) l r=l.map λfi=>bA fi.st)(h:Qs P l r=true)(f:Nat)(fi:Fi)(fx:Fx)(h1:l[f]?=!fi)(h2:r[f]?=!fx):Qg P fi fx:=by
 induction l generalizing r f with
 |nil=>cases h1
 |cons a l ih=>cases r with
  |nil=>cases h2
  |cons b r=>
   cases f with
   |zero=>cases h1;cases h2;show Xa (List.cons.inj e).1 (ak h).1
   |succ f=>show ih (List.cons.inj e).2 (ak h).2 f h1 h2
def Xc(h:Qs P P.fn fns=true)(e:List.zipWith (BW P) P.fn fns=P.fn.map λfi=>bA fi.st):gA P fns:=λf fi fx h1 h2=>Qt e h f fi fx h1 h2
def len1(h:us.length=1):∃a,us=[a]:=by
 cases us with
 |nil=>symm
 |cons a us=>cases us with
  |nil=>show#[a,rfl]
  |cons _ _=>symm
def len2(h:us.length=2):∃a b,us=[a,b]:=by
 cases us with
 |nil=>symm
 |cons a us=>let(b,rfl):=len1 (BF h);show#[a,b,rfl]
def len3(h:us.length=3):∃a b c,us=[a,b,c]:=by
 cases us with
 |nil=>symm
 |cons a us=>let(b,c,rfl):=len2 (BF h);show#[a,b,c,rfl]
nonrec abbrev cu(st:Stmt):Fi:=match st with
 |.FunctionDef name args _ _ _ _ scope _ _ _=>#[name,name,st,(args.args.map (·.arg))++scope.names.filterMap (λy=>if (y.2==.local||y.2==.cell)&&(not ((args.args.map (·.arg)).contains y.1)) then some y.1 else none),args.args.map (·.arg)]
 |st=>#["", "",st,[],[]]
def six{p:Nat->Prop}{m:Nat}(hm:1<=m/\m<=6)(a:p 1)(b:p 2)(c:p 3)(d:p 4)(e:p 5)(f:p 6):p m:=by rcases (by lia:m=1\/m=2\/m=3\/m=4\/m=5\/m=6)with rfl |rfl |rfl |rfl |rfl |rfl <;> assumption
section
def xD(ds:List D):∀i,vars i (ds.map R.dat)=[]:=by
 induction ds with
 |nil=>intro i;rfl
 |cons d ds ih=>intro i;show ih (i+1)
def xE(ds:List D):cL (ds.map R.dat) g1=!(ds.map .dat):=by
 induction ds with
 |nil=>rfl
 |cons d ds ih=>
  exact (match cL (ds.map R.dat) g1 with |some gs=>!(Slot.dat d::gs) |none=>none)=_
  rw[ih];rfl
abbrev Xd:List D->G
 | []=>[]
 |d::l=>.dat d::Xd l
def BX(ds:List D):Xd ds=ds.map .dat:=by
 induction ds with
 |nil=>rfl
 |cons d ds ih=>rw[Xd,ih];rfl
abbrev cW(rn:Rn)(k:Nat)(fx:Fx)(ds:List D):Option R:=match rn.b [] k fx.body (dD fx.n (Xd ds))with
 |!(.rt r,gc)=>cS [] gc r
 |!(.nx,_)=>!(.dat .non)
 |_=>none
def mQ(hl:ds.length=fx.np):bL rn fx k (ds.map .dat) g1=(cW rn k fx ds).map λr=>(r,g1):=by
 delta bL cW;rw[xD,xE,BX];simp only[eC,hl,List.map_nil];cases rn.b [] k fx.body (dD fx.n (ds.map .dat))with
 |none=>rfl
 |some p=>
  let(f,gc):=p;cases f with
  |nx=>rfl
  |rt r=>simp only[back];cases cS [] gc r <;> rfl
  |bk=>rfl
  |ct=>rfl
abbrev gM(g m:G)(acc:List D):G:=g++(m++[.own acc])
def jw{g m:G}{acc:List D}{i:Nat}(h:i<g.length):(gM g m acc)[i]?=g[i]?:=by delta gM;rw[dL h]
def cI{g m:G}{acc:List D}{i:Nat}(h:i<m.length):(gM g m acc)[g.length+i]?=m[i]?:=by delta gM;rw[eD ⋯,mI,dL h]
def lC:(gM g m acc)[g.length+m.length]?=!(.own acc):=by delta gM;rw[eD ⋯,mI,eD (eA _),A9];rfl
def ku(h:i<m.length):(gM g m acc).set (g.length+i) s=gM g (m.set i s) acc:=by delta gM;rw[w8 _ _ ⋯,mI,CH _ _ h]
def nI:(gM g m acc).set (g.length+m.length) (.own acc')=gM g m acc':=by delta gM;rw[w8 _ _ ⋯,mI,w8 _ _ (eA _),A9];rfl
def uS:(gM g m acc).take g.length=g:=by delta gM;simp
def Kp:gC kk g=gM g (List.replicate kk .no) []:=rfl
def lD{α:Type}(cP:α->D)(f:α->D)(p:α->Bool)(st:α->G->G)(I:G->Prop)(hI:∀m,I m->m.length=kk)(dQ:last=g.length+kk)(cO:∀d m,I m->I (st d m)) :
  ∀(ao:List α) (m:G) (acc:List D),I m->acc.length+ao.length<=lim->
  (∀d∈ao,∀m acc,I m->T.set (cP d) (gM g m acc)=!(gM g (st d m) acc))->
  (∀d∈ao,∀m acc,I m->mG rn bor k c (gM g (st d m) acc)=!(p d,gM g (st d m) acc))->
  (∀d∈ao,p d=true->∀m acc,I m->gR rn bor k e (gM g (st d m) acc)=!(f d,gM g (st d m) acc))->
  ∃m',I m'/\Fo rn bor k T last c e (ao.map cP) (gM g m acc)=!(gM g m' (acc++(ao.filter p).map f))
 | [],m,acc,hm,_,_,_,_=>#[m,hm,by simp[Fo]]
 |d::ao,m,acc,hm,hl,hT,hi,he=>by
  rw[lL]at hl;have q1:=hT d dA m acc hm;have q2:=hi d dA m acc hm;have hm':=cO d m hm;have hk:=hI _ hm';rw[List.map_cons];delta Fo;rw[q1];dsimp only;rw[q2];cases hp:p d with
  |false=>
   dsimp only;let(m',w1,w2):=lD cP f p st I hI dQ cO ao (st d m) acc hm' ⋯ (λx hx=>hT x (bP _ hx)) (λx hx=>hi x (bP _ hx)) (λx hx=>he x (bP _ hx))
   show#[m',w1,by rw[w2,CC,hp];rfl]
  |true=>
   have q3:=he d dA hp m acc hm;dsimp only;rw[q3];dsimp only;have q4:(gM g (st d m) acc)[last]?=!(.own acc):=by rw[dQ,<- hk];show lC
   rw[q4];dsimp only;rw[i5 ⋯];have q5:(gM g (st d m) acc).set last (.own (acc++[f d]))=gM g (st d m) (acc++[f d]):=by rw[dQ,<- hk];show nI
   rw[q5];let(m',w1,w2):=lD cP f p st I hI dQ cO ao (st d m) (acc++[f d]) hm' (by rw[fI,An];lia) (λx hx=>hT x (bP _ hx)) (λx hx=>hi x (bP _ hx)) (λx hx=>he x (bP _ hx))
   apply#[m',w1,?_];rw[w2,CC,hp];simp
def Qu{α:Type}(cP:α->D)(f:α->D)(p:α->Bool)(st:α->G->G)(dQ:last=g.length+kk)(cO:∀d m,m.length=kk->(st d m).length=kk) :
  ∀(ao:List α) (m:G) (acc:List D),m.length=kk->acc.length+ao.length<=lim->
  (∀d∈ao,∀m acc,m.length=kk->T.set (cP d) (gM g m acc)=!(gM g (st d m) acc))->
  (∀d∈ao,∀m acc,m.length=kk->mG rn bor k c (gM g (st d m) acc)=!(p d,gM g (st d m) acc))->
  (∀d∈ao,p d=true->∀m acc,m.length=kk->gR rn bor k e (gM g (st d m) acc)=!(f d,gM g (st d m) acc))->
  ∃m',m'.length=kk/\Fo rn bor k T last c e (ao.map cP) (gM g m acc)=!(gM g m' (acc++(ao.filter p).map f)):=
 lD cP f p st (λm=>m.length=kk) (λ_ h=>h) dQ cO
def mR{α:Type}{kk nn:Nat}{T:Tg}{it:Ex}{c:Option Ex}{e:Ex}(ao:List α)(cP:α->D)(f:α->D)(p:α->Bool)(st:α->G->G)(hw:dj rn bor k T.jW it g=!(ao.map cP,g1))(hn:nn=g1.length)(hb:(T.ix.any λi=>decide (i∈bor))=false)(hl:ao.length<=lim)(cO:∀d m,m.length=kk->(st d m).length=kk)
  (hT:∀d∈ao,∀m acc,m.length=kk->T.set (cP d) (gM g1 m acc)=!(gM g1 (st d m) acc))
  (hi:∀d∈ao,∀m acc,m.length=kk->mG rn bor k c (gM g1 (st d m) acc)=!(p d,gM g1 (st d m) acc))
  (he:∀d∈ao,p d=true->∀m acc,m.length=kk->gR rn bor k e (gM g1 (st d m) acc)=!(f d,gM g1 (st d m) acc)) :
  fM rn bor k nn kk T it c e g=!((ao.filter p).map f,g1):=by
 subst hn;let(m',w1,w2):=Qu cP f p st rfl cO ao (List.replicate kk .no) [] ⋯ (by simpa using hl) hT hi he
 delta fM;rw[hw];dsimp only;rw[i5 #[rfl,hb],Kp,w2];dsimp only;have:(gM g1 m' ([]++(ao.filter p).map f))[g1.length+kk]?=!(.own ([]++(ao.filter p).map f)):=by rw[<- w1];show lC
 rw[this];rw[uS,A8]
def qP{j kk:Nat}{d:D}{m:G}{acc:List D}(hj:g.length<=j)(hk:j - g.length<m.length):(Tg.nm j).set d (gM g m acc)=!(gM g (m.set (j - g.length) (.dat d)) acc):=by
 exact some ((gM g m acc).set j (.dat d))=_;have:=ku (g:=g) (acc:=acc) (s:=.dat d) hk;rw[show g.length+(j - g.length)=j by lia]at this
 rw[this]
abbrev xF(g:G)(j:Nat)(d:D)(G':G):Prop:=(∀i,i<g.length->G'[i]?=g[i]?)/\G'[j]?=!(.dat d)
def xG{α:Type}{kk nn j:Nat}{it:Ex}{c:Option Ex}{e:Ex}(ao:List α)(cP:α->D)(p:α->Bool)(f:α->D)(hw:dj rn bor k false it g=!(ao.map cP,g1))(hn:nn=g1.length)(hj1:g1.length<=j)(hj2:j<g1.length+kk)(hb:j∉bor)(hl:ao.length<=lim)
  (hi:∀a∈ao,∀G',xF g1 j (cP a) G'->mG rn bor k c G'=!(p a,G')) (he:∀a∈ao,p a=true->∀G',xF g1 j (cP a) G'->gR rn bor k e G'=!(f a,G')) :
  fM rn bor k nn kk (.nm j) it c e g=!((ao.filter p).map f,g1):=by
 have sees:∀(a:α) (m:G) (acc:List D),m.length=kk->xF g1 j (cP a) (gM g1 (m.set (j - g1.length) (.dat (cP a))) acc):=λa m acc hm=>by
  apply#[λi hi=>jw hi,?_]
  have:=cI (g:=g1) (m:=m.set (j - g1.length) (.dat (cP a))) (acc:=acc) (i:=j - g1.length) (by simp;lia)
  rw[show g1.length+(j - g1.length)=j by lia]at this
  rw[this,eQ ⋯]
 apply mR ao cP f p (λa m=>m.set (j - g1.length) (.dat (cP a))) hw hn (by simp[Tg.ix,hb]) hl (λd m hm=>by simpa using hm) (λa _ m acc hm=>qP (kk:=kk) hj1 ⋯) (λa ha m acc hm=>hi a ha _ (sees a m acc hm)) λa ha hp m acc hm=>he a ha hp _ (sees a m acc hm)
def filter_all{α:Type}(l:List α):l.filter (λ_=>true)=l:=List.filter_eq_self.mpr λ_ _=>rfl
def xH{α:Type}(ao:List α)(cP:α->D)(f:α->D)(hw:dj rn bor k false it g=!(ao.map cP,g1))(hn:nn=g1.length)(hj1:g1.length<=j)(hj2:j<g1.length+kk)(hb:j∉bor)(hl:ao.length<=lim)
  (he:∀a∈ao,∀G',xF g1 j (cP a) G'->gR rn bor k e G'=!(f a,G')):fM rn bor k nn kk (.nm j) it none e g=!(ao.map f,g1):=by
 have:=xG (c:=none) ao cP (λ_=>true) f hw hn hj1 hj2 hb hl (λ_ _ _ _=>rfl) λa ha _ G' hG=>he a ha G' hG
 rw[filter_all]at this;show this
abbrev lE(g:G)(j1 j2:Nat)(d1 d2:D)(G':G):Prop:=(∀i,i<g.length->G'[i]?=g[i]?)/\G'[j1]?=!(.dat d1)/\G'[j2]?=!(.dat d2)
def fC{α:Type}(ao:List α)(bH cJ:α->D)(p:α->Bool)(f:α->D)(hw:dj rn bor k true it g=!(ao.map λa=>.tup [bH a,cJ a],g1))(hn:nn=g1.length)(hj1:g1.length<=j1)(hj1':j1<g1.length+kk)(hj2:g1.length<=j2)(hj2':j2<g1.length+kk)(lI:j1≠j2)(hb1:j1∉bor)(hb2:j2∉bor)(hl:ao.length<=lim)
  (hi:∀a∈ao,∀G',lE g1 j1 j2 (bH a) (cJ a) G'->mG rn bor k c G'=!(p a,G')) (he:∀a∈ao,p a=true->∀G',lE g1 j1 j2 (bH a) (cJ a) G'->gR rn bor k e G'=!(f a,G')) :
  fM rn bor k nn kk (.tp [j1,j2]) it c e g=!((ao.filter p).map f,g1):=by
 have sees:∀(a:α) (m:G) (acc:List D),m.length=kk->lE g1 j1 j2 (bH a) (cJ a) (gM g1 ((m.set (j1 - g1.length) (.dat (bH a))).set (j2 - g1.length) (.dat (cJ a))) acc):=λa m acc hm=>by
  apply#[λi hi=>jw hi,?_,?_]
  .
   have:=cI (g:=g1) (m:=(m.set (j1 - g1.length) (.dat (bH a))).set (j2 - g1.length) (.dat (cJ a))) (acc:=acc) (i:=j1 - g1.length) (by simp;lia)
   rw[show g1.length+(j1 - g1.length)=j1 by lia]at this
   rw[this,eJ ⋯,eQ ⋯]
  .
   have:=cI (g:=g1) (m:=(m.set (j1 - g1.length) (.dat (bH a))).set (j2 - g1.length) (.dat (cJ a))) (acc:=acc) (i:=j2 - g1.length) (by simp;lia)
   rw[show g1.length+(j2 - g1.length)=j2 by lia]at this
   rw[this,eQ (by simp;lia)]
 apply mR ao (λa=>.tup [bH a,cJ a]) f p (λa m=>(m.set (j1 - g1.length) (.dat (bH a))).set (j2 - g1.length) (.dat (cJ a))) hw hn (by simp[Tg.ix,hb1,hb2]) hl (λd m hm=>by simpa using hm) (λa _ m acc hm=>?_) (λa ha m acc hm=>hi a ha _ (sees a m acc hm)) λa ha hp m acc hm=>he a ha hp _ (sees a m acc hm)
 have q1:=ku (g:=g1) (m:=m) (acc:=acc) (i:=j1 - g1.length) (s:=.dat (bH a)) ⋯;have q2:=ku (g:=g1) (m:=m.set (j1 - g1.length) (.dat (bH a))) (acc:=acc) (i:=j2 - g1.length) (s:=.dat (cJ a)) (by simp;lia)
 rw[show g1.length+(j1 - g1.length)=j1 by lia]at q1
 rw[show g1.length+(j2 - g1.length)=j2 by lia]at q2
 exact some (((gM g1 m acc).set j1 (.dat (bH a))).set j2 (.dat (cJ a)))=_;rw[q1,q2]
def Kq{α:Type}(ao:List α)(bH cJ:α->D)(f:α->D)(hw:dj rn bor k true it g=!(ao.map λa=>.tup [bH a,cJ a],g1))(hn:nn=g1.length)(hj1:g1.length<=j1)(hj1':j1<g1.length+kk)(hj2:g1.length<=j2)(hj2':j2<g1.length+kk)(lI:j1≠j2)(hb1:j1∉bor)(hb2:j2∉bor)(hl:ao.length<=lim)
  (he:∀a∈ao,∀G',lE g1 j1 j2 (bH a) (cJ a) G'->gR rn bor k e G'=!(f a,G')):fM rn bor k nn kk (.tp [j1,j2]) it none e g=!(ao.map f,g1):=by
 have:=fC (c:=none) ao bH cJ (λ_=>true) f hw hn hj1 hj1' hj2 hj2' lI hb1 hb2 hl (λ_ _ _ _=>rfl) λa ha _ G' hG=>he a ha G' hG
 rw[filter_all]at this;show this
def BZ(I:Nat->G->Prop)(step:∀m g,I (m+1) g->∃g1 g2,c g=!(true,g1)/\b g1=!(.nx,g2)/\I m g2)(fin:∀g,I 0 g->c g=!(false,g)) :
  ∀m N g,m<N->I m g->∃g',I 0 g'/\LQ c b N g=!(.nx,g')
 | 0,N+1,g,_,h=>#[g,h,by delta LQ;rw[fin g h]]
 |m+1,N+1,g,hN,h=>by
  let(g1,g2,q1,q2,q3):=step m g h;let(g',w1,w2):=BZ I step fin m N g2 ⋯ q3;show#[g',w1,by delta LQ;rw[q1];dsimp only;rw[q2];show w2]
def dH{α:Type}(cP:α->D)(I:List α->G->Prop)(step:∀a l g,I (a::l) g->∃g1 g2,T.set (cP a) g=!g1/\b g1=!(.nx,g2)/\I l g2):∀l g,I l g->∃g',I [] g'/\fO T b (l.map cP) g=!(.nx,g')
 | [],g,h=>#[g,h,rfl]
 |a::l,g,h=>by
  let(g1,g2,q1,q2,q3):=step a l g h;let(g',w1,w2):=dH cP I step l g2 q3;show#[g',w1,by rw[List.map_cons];delta fO;rw[q1];dsimp only;rw[q2];show w2]
end
def ints_map(l: ~~~0):bF (l.map .int)=!l:=by
 induction l with
 |nil=>rfl
 |cons a l ih=>simp[bF,ih]
def Qv(l:List Bool):vN (l.map .bl)=!l:=by
 induction l with
 |nil=>rfl
 |cons a l ih=>simp[vN,ih]
def Kr(l: ~~~5)(h:∀x∈l,x≠[]):p9 (l.map λx=>.tup (x.map .int))=!l:=by
 induction l with
 |nil=>rfl
 |cons a l ih=>
  have ha:=h a dA;cases a with
  |nil=>show absurd rfl ha
  |cons x a=>
   have:=ints_map (x::a);simp only[List.map_cons]at this ⊢
   simp only[p9,this,ih λy hy=>h y (bP _ hy)]
def FH(a: ~~~0)(l: ~~~5):bF ((a::l).map λ(x: ~~~0)=>.tup (x.map .int))=none:=rfl
def Ks(l:List D):nF .len [.tup l]=!(.dat (.int l.length)):=rfl
def Ku(l:List D):nF .len [.lst l]=!(.dat (.int l.length)):=rfl
def qQ(l:List D):nF .len [.fix l]=!(.dat (.int l.length)):=rfl
def FJ(l:List D):nF .list [.lst l]=!(.new l):=rfl
def z6(l:List D):nF .tuple [.lst l]=!(.dat (.tup l)):=rfl
def z7(l:List D):nF .tuple [.tup l]=!(.dat (.tup l)):=rfl
def Qw(i j:Int):nF .max [.int i,.int j]=!(.dat (.int (if j > i then j else i))):=rfl
def Qx(i j:Int):nF .min [.int i,.int j]=!(.dat (.int (if j<i then j else i))):=rfl
def Xe(l:List Bool):nF .all [.lst (l.map .bl)]=!(.dat (.bl (l.all id))):=by simp only[nF,RV,Qv]
def jc(l: ~~~0)(h:l.length<64):nF .sorted [.lst (l.map .int)]=!(.new ((bS l).map .int)):=by simp only[nF,RV,iu,ints_map,h,C4]
def jd(l: ~~~5)(hn:∀x∈l,x≠[])(h:l.length<64):nF .sorted [.lst (l.map λx=>.tup (x.map .int))]=!(.new ((bK fj l).map λx=>.tup (x.map .int))):=by
 cases l with
 |nil=>rfl
 |cons a l=>have e:=Kr (a::l) hn;simp only[nF,RV,iu,FH,e,h,C4]
def gB:∀a b:List Int,gj (a.map .int) (b.map .int)=decide (a=b)
 | [],[]=>rfl
 | [],_::_=>rfl
 |_::_,[]=>rfl
 |x::a,y::b=>by
  simp only[List.map_cons,gj,gB a b,List.cons.injEq,Bool.decide_and];rfl
def eX(a: ~~~0):iK (a.map .int)=true:=by
 induction a with
 |nil=>rfl
 |cons x a ih=>simp[iK,kD,ih]
def eY(a: ~~~0):deps (a.map .int)=0:=by
 induction a with
 |nil=>rfl
 |cons x a ih=>simp[deps,dep,ih]
def sW(a b: ~~~0):lu (.tup (a.map .int)) (.tup (b.map .int))=true:=by simp[lu,kD,eX,dep,eY]
def qR(a b: ~~~0):lu (.lst (a.map .int)) (.lst (b.map .int))=true:=by simp[lu,kD,eX,dep,eY]
def Xg(a b: ~~~0):fH .Eq (.tup (a.map .int)) (.tup (b.map .int))=!(decide (a=b)):=by simp only[fH,sW,C4,eu,gB]
def Kv(a b: ~~~0):fH .NotEq (.tup (a.map .int)) (.tup (b.map .int))=!((not (decide (a=b)))):=by simp only[fH,sW,C4,eu,gB]
def Xh(a b: ~~~0):fH .Eq (.lst (a.map .int)) (.lst (b.map .int))=!(decide (a=b)):=by simp only[fH,qR,C4,eu,gB]
def z8(a b: ~~~0):fH .NotEq (.lst (a.map .int)) (.lst (b.map .int))=!((not (decide (a=b)))):=by simp only[fH,qR,C4,eu,gB]
def Xi(a b:Int):fH .Eq (.int a) (.int b)=!(decide (a=b)):=rfl
def Xj(a b:Int):fH .NotEq (.int a) (.int b)=!((not (decide (a=b)))):=rfl
def Xk(a b:Int):fH .Lt (.int a) (.int b)=!(decide (a<b)):=rfl
def Xl(a b:Int):fH .LtE (.int a) (.int b)=!(decide (a<=b)):=rfl
def Xm(a b:Int):fH .GtE (.int a) (.int b)=!(decide (a ≥ b)):=rfl
def Qy(a b:Int):uG .Add (.int a) (.int b)=!(.dat (.int (a+b))):=rfl
def Qz(a b:Int):uG .Sub (.int a) (.int b)=!(.dat (.int (a - b))):=rfl
def ix_t(l:List D)(i:Int):wM (.tup l) (.int i)=L2.gJ l i:=rfl
def ix_l(l:List D)(i:Int):wM (.lst l) (.int i)=L2.gJ l i:=rfl
def ix_f(l:List D)(i:Int):wM (.fix l) (.int i)=L2.gJ l i:=rfl
def gW{α:Type}(l:List α)(i:Nat)(h:i<l.length):L2.gJ l (i:Int)=some l[i]:=by delta L2.gJ L2.yJ;simp[h]
def xJ(l: ~~~0)(i:Nat)(h:i<l.length):L2.gJ (l.map D.int) (i:Int)=!(.int l[i]):=by
 rw[gW _ _ (by simpa using h)]
 simp
def is_tup(l:List D):jX (yp (.tup l)) "tuple"=true:=rfl
def Xn(i:Int):jX (yp (.int i)) "int"=true:=rfl
def Kw(i:Int):jX (yp (.int i)) "bool"=false:=rfl
def jf(m:Nat):cR 0 m=((List.range m).map λ(k:Nat)=>(k:Int)).map .int:=by simp[cR]
def au(m:Nat)(h:m<=1000):m<=lim:=sK h ⋯
def aQ(i:Int)(h:0<=i/\i<=1000):Gn i=true:=by delta Gn;simp only[hU];lia
section
def aR(h:fx.np=1):bL rn fx k [.dat d] g1=(cW rn k fx [d]).map λr=>(r,g1):=mQ (ds:=[d]) h.symm
def bD(h:fx.np=2):bL rn fx k [.dat d,.dat e] g1=(cW rn k fx [d,e]).map λr=>(r,g1):=mQ (ds:=[d,e]) h.symm
def Ca(h:fx.np=3):bL rn fx k [.dat d,.dat e,.dat f] g1=(cW rn k fx [d,e,f]).map λr=>(r,g1):=mQ (ds:=[d,e,f]) h.symm
end
structure jx(fns:List Fx)(rn:Nat->Rn):Prop where
 e:∀(n:Nat) (bor:List Nat) (k:Nat) (x:Ex) (g:G),(rn (n+1)).e bor k x g=bh (rn n) bor k fns x g
 t:∀(n:Nat) (bor:List Nat) (k:Nat) (x:Ex) (g:G),(rn (n+1)).t bor k x g=stepT (rn n) bor k x g
 b:∀(n:Nat) (bor:List Nat) (k:Nat) (x:List Sm) (g:G),(rn (n+1)).b bor k x g=cD (rn n) bor k x g
 x:∀(n:Nat) (bor:List Nat) (k:Nat) (x:Ex) (g:G),(rn (n+1)).x bor k x g=wU (rn n) bor k fns x g
 xt:∀(n:Nat) (bor:List Nat) (k:Nat) (x:Ex) (g:G),(rn (n+1)).xt bor k x g=mJ (rn n) bor k x g
 xb:∀(n:Nat) (bor:List Nat) (k:Nat) (x:List Sm) (g:G),(rn (n+1)).xb bor k x g=gS (rn n) bor k x g
def QB(fns:List Fx):jx fns (run fns):=#[λ_ _ _ _ _=>rfl,λ_ _ _ _ _=>rfl,λ_ _ _ _ _=>rfl,λ_ _ _ _ _=>rfl,λ_ _ _ _ _=>rfl,λ_ _ _ _ _=>rfl]
abbrev n8(rn:Rn)(k:Nat)(fx:Fx)(ds:List D):Option Nat:=match rn.xb [] k fx.body (dD fx.n (Xd ds))with
 |!(ci,_)=>!ci
 |none=>none
def FN(hl:ds.length=fx.np):wR rn fx k (ds.map .dat) g1=(n8 rn k fx ds).map λr=>(r,g1):=by
 delta wR n8;rw[xD,xE,BX];simp only[eC,hl,List.map_nil];cases rn.xb [] k fx.body (dD fx.n (ds.map .dat))with
 |none=>rfl
 |some p=>rfl
section
def cX(h:fx.np=1):wR rn fx k [.dat d] g1=(n8 rn k fx [d]).map λr=>(r,g1):=FN (ds:=[d]) h.symm
end
def evZ:=And.intro @is_tup (And.intro @Xn (And.intro @Kw (And.intro @Ks (And.intro @Ku (And.intro @FJ (And.intro @z6 (And.intro @z7 (And.intro @Qw (And.intro @Qx (And.intro @Xe (And.intro @Xg (And.intro @Kv (And.intro @Xh (And.intro @z8 (And.intro @Xi (And.intro @Xj (And.intro @Xk (And.intro @Xl (And.intro @Xm (And.intro @Qy (And.intro @Qz (And.intro @ix_t (And.intro @ix_l @ix_f)))))))))))))))))))))))
meta abbrev unfZ{fns rn}(U:jx fns rn):=And.intro U.e (And.intro U.t (And.intro U.b (And.intro U.x (And.intro U.xt U.xb))))
end Ev
set_option hygiene false in
local macro_rules | `(tactic|simp! [$u:term,$ls,*])=>`(tactic|simp[-List.map_map,-List.map_cons,-List.map_nil,Ev.unfZ $u,Ev.evZ,Ev.wU,Ev.mJ,Ev.iS,Ev.gS,Ev.xArgs,Ev.xW,Ev.isW,Ev.cD,Ev.aG,Ev.bh,Ev.stepT,Ev.argsR,Ev.qz,Ev.gR,Ev.toD,Ev.norm,Ev.pk,Ev.Dt,Ev.dD,Ev.cS,Ev.Xd,Ev.JX,Ev.orF,Ev.sQ,Ev.JZ,Ev.V6,Ev.Ih,$ls,*])
set_option hygiene false in
local macro_rules | `(~~~$x)=>`(Ev.D.tup (List.map Ev.D.int $x))
set_option hygiene false in
local macro_rules|`(∅)=>`((λx=>~~~x))
set_option hygiene false in
local macro_rules|`(~~~5)=>`(List (List Int))
local macro_rules|`(~~~0)=>`(List Int)
local macro_rules|`(~~~3)=>`(("__debug__":Str))
local macro_rules|`(~~~4)=>`([(.ret (.val (.bl false)))])
namespace Ev
abbrev bM:Fx:=#[2,4,[(.ite (.ix ⇑0 ↥1) [(.set 2 (.bin .Mod (.ix ⇑0 ↥0) ⇑1)),(.item 0 ↥0 (.bin .FloorDiv (.ix ⇑0 ↥0) ⇑1)),(.ret ⇑2)] []),(.item 0 ↥0 (.bin .Mod (.bin .Add (.bin .Mult (.ix ⇑0 ↥0) ↥48271) ↥29) ↥2147483647)),(.set 3 (.bin .Mod (.bin .Add (.bin .Add (.bin .Mult (.ix ⇑0 ↥0) (.ix ⇑0 ↥0)) (.bin .Mult ↥39373 (.ix ⇑0 ↥0))) ↥7) ↥2147483629)),(.set 3 (.bin .Mod (.bin .Add (.bin .Mult ⇑3 ⇑3) (.bin .Mult ↥16807 ⇑3)) ↥2147483587)),(.ret (.bin .Mod (.bin .FloorDiv ⇑3 ↥8) ⇑1))]]
abbrev Ky(ti:Nat):Fx:=#[2,4,[(.set 2 (.blt .list [⇑1])),(.set 3 (.lst [])),(.while (.cmp .NotEq ⇑2 (.lst [])) [(.expr (.append 3 (.qw 2 (.call ti [⇑0,(.blt .len [⇑2])]))))]),(.ret ⇑3)]]
abbrev nJ:Fx:=#[2,2,[(.ite (.cmp .Lt ⇑1 (.blt .len [⇑0])) [(.ret (.ix ⇑0 ⇑1))] []),(.ret ↥0)]]
abbrev mS(ci:Nat):Fx:=#[2,3,[(.set 2 (.call ci [⇑0,⇑1])),(.ite (.cmp .GtE ⇑2 (.bin .Pow ↥10 ↥18)) [(.ret (.lst [(.bin .Sub ⇑2 (.bin .Pow ↥10 ↥18)),(.val (.bl true))]))] []),(.ret (.lst [(.bin .Mod ⇑2 ↥2147483647),(.val (.bl false))]))]]
abbrev Tn(m:Nat)(t: ~~~0):Prop:=bS t=(List.range m).map λ(k:Nat)=>(k:Int)
def Tn.length(h:Tn m t):t.length=m:=by have:=(aZ t).length_eq;rw[h]at this;simpa using this.symm
def Tn.mem(h:Tn m t):x∈t ↔ 0<=x/\x<m:=by
 rw[<- (aZ t).mem_iff,h,fR];constructor
 . rintro⟨k,hk,rfl⟩;have:=t5.mp hk;lia
 . rintro⟨h1,h2⟩;show#[x.toNat,t5.mpr ⋯,by lia]
def Tn.of(h:t.Perm ((List.range m).map λ(k:Nat)=>(k:Int))):Tn m t:=by apply (fc h.symm ?_).symm;rw[List.pairwise_map];show List.pairwise_lt_range.imp λh=>by lia
def Tn.perm(h:Tn m t):t.Perm ((List.range m).map λ(k:Nat)=>(k:Int)):=by rw[<- h];show (aZ t).symm
abbrev gt(t: ~~~0)(i:Int):Int:=t.getD i.toNat 0
def z9{t: ~~~0}{i:Int}(h:0<=i/\i<t.length):L2.gJ (t.map D.int) i=!(.int (gt t i)):=by
 obtain⟨n,rfl⟩:∃n:Nat,i=n:=#[i.toNat,by lia]
 rw[xJ t n ⋯];simp[gt,(by lia:n<t.length)]
abbrev nums(m:Nat): ~~~0:=(List.range m).map λ(k:Nat)=>(k:Int)
def dW:x∈nums m ↔ 0<=x/\x<m:=by
 delta nums;rw[fR];constructor
 . rintro⟨k,hk,rfl⟩;have:=t5.mp hk;lia
 . rintro⟨h1,h2⟩;show#[x.toNat,t5.mpr ⋯,by lia]
def aW(m:Nat):(nums m).length=m:=by simp[nums]
def Tn.Kz{m:Nat}{t: ~~~0}(h:Tn m t){i:Int}(hi:0<=i/\i<m):0<=gt t i/\gt t i<m:=by
 apply h.mem.mp ?_;have hl:=h.length;have:i.toNat<t.length:=by lia
 delta gt;rw[t9,i4 this];show u8 _
def Tn.nodup(h:Tn m t):t.Nodup:=by apply (h.perm.nodup_iff).mpr ?_;rw[List.nodup_iff_pairwise_ne,List.pairwise_map];show List.nodup_range.imp λh=>by lia
def Tn.inj{m:Nat}{t: ~~~0}(h:Tn m t){i j:Int}(hi:0<=i/\i<m)(hj:0<=j/\j<m)(e:gt t i=gt t j):i=j:=by
 have hl:=h.length;have h1:i.toNat<t.length:=by lia
 have h2:j.toNat<t.length:=by lia
 delta gt at e;rw[t9,i4 h1,t9,i4 h2]at e;have:=(List.getElem_inj h.nodup).mp (show t[i.toNat]=t[j.toNat]from e)
 lia
def mU{α β:Type}{f:α->β}{l:List α}(h:l.Nodup)(hf:∀x∈l,∀y∈l,f x=f y->x=y):(l.map f).Nodup:=by
 induction l with
 |nil=>show o6
 |cons a l ih=>
  let(h1,h2):=gN.mp h;apply gN.mpr #[λhm=>?_,ih h2 λx hx y hy=>hf x (bP _ hx) y (bP _ hy)]
  let(b,hb,e):=fR.mp hm;have:=hf b (bP _ hb) a dA e;show h1 (this▸hb)
def aF{rn:Rn}{bor:List Nat}{k:Nat}{st:Sm}{rest:List Sm}{g g1:G}(h:aG rn bor k st g=!(.nx,g1)):cD rn bor k (st::rest) g=cD rn bor k rest g1:=by
 conv=>lhs;unfold cD
 rw[h]
meta abbrev St(s:Int)(fl:Bool):Slot:=.own [.int s,.bl fl]
def uT(a b:Int)(h:0<b):uG .Mod (.int a) (.int b)=!(.dat (.int (a % b))):=by simp[uG,n5,h]
def Cb(a b:Int)(h:0<b/\b<18446744073709551616):uG .FloorDiv (.int a) (.int b)=!(.dat (.int (a / b))):=by simp[uG,n5,h]
def QC(a b:Int)(h:0<b/\b<1073741824):uG .FloorDiv (.int a) (.int b)=!(.dat (.int (a / b))):=Cb a b ⋯
def lF(a b:Int)(h:(-(2 ^ 64)<a/\a<2 ^ 64)\/(-(2 ^ 64)<b/\b<2 ^ 64)):uG .Mult (.int a) (.int b)=!(.dat (.int (a * b))):=by
 have:JV a b=true:=by delta JV;simp only[AV,hU,mM];show h
 simp[uG,JW,this]
section
variable{ti mi:Nat}(U:jx fns rn)(hT:fns[ti]?=!bM)
include U
def Xo(s:Int)(fl:Bool)(m:Int)(hm:0<m/\m<18446744073709551616):∃r s' s2 s3,0<=r/\r<m/\(rn (n+20)).b [0] k bM.body [St s fl,‹m›,.no,.no]=!(.rt ‹r›,[St s' fl,‹m›,s2,s3]):=by
 have i0:L2.gJ [D.int s,D.bl fl] 0=!(.int s):=rfl;have i1:L2.gJ [D.int s,D.bl fl] 1=!(.bl fl):=rfl;have x0':L2.yJ 2 0=!0:=rfl;cases fl with
 |true=>apply#[s % m,s / m,.dat (.int (s % m)),.no,Int.emod_nonneg _ ⋯,Int.emod_lt_of_pos _ hm.1,?_];delta bM;simp! [U,i0,i1,x0',uT _ _ hm.1,Cb _ _ hm]
 |false=>generalize hs1:(s * 48271+29) % 2147483647=s1;have j0:L2.gJ [D.int s1,D.bl false] 0=!(.int s1):=rfl;generalize hs2:(s1 * s1+39373 * s1+7) % 2147483629=s2;generalize hs3:(s2 * s2+16807 * s2) % 2147483587=s3;apply#[s3 / 8 % m,s1,.no,‹s3›,Int.emod_nonneg _ ⋯,Int.emod_lt_of_pos _ hm.1,?_];delta bM;simp! [U,i0,i1,x0',uT,lF s 48271 (.inr ⋯),hs1,j0,lF s1 s1 (.inl ⋯),lF 39373 s1 (.inl ⋯),hs2,lF s2 s2 (.inl ⋯),lF 16807 s2 (.inl ⋯),hs3,QC _ _ (show (0:Int)<8/\(8:Int)<1073741824 by decide),hm.1]
def KC{i:Nat}{s:Int}{fl:Bool}{m:Int}(hi:g[i]?=!(St s fl))(hm:0<m/\m<18446744073709551616):∃r s',0<=r/\r<m/\bL (rn (n+20)) bM k [.var i,‹m›] g=!(‹r›,g.set i (St s' fl)):=by let(r,s',s2,s3,h1,h2,h):=Xo U s fl m hm;apply#[r,s',h1,h2,?_];have hp:dD bM.n [St s fl,‹m›]=[St s fl,‹m›,.no,.no]:=rfl;delta bL;simp only[vars,cL,hi,List.map_cons,List.map_nil];rw[hp,h];rfl
def cY{i:Nat}{s:Int}{fl:Bool}{m:Int}(hi:g[i]?=!(St s fl))(hm:0<m/\m<1000):∃r s',0<=r/\r<m/\bL (rn (n+20)) bM k [.var i,‹m›] g=!(‹r›,g.set i (St s' fl)):=KC U hi ⋯
omit U in
def KD(a: ~~~0):fH .NotEq (.lst (a.map .int)) (.lst [])=!((not (decide (a=[])))):=z8 a []
omit U in
def Xp(h:i<l):L2.yJ l (i:Int)=!i:=by delta L2.yJ;rw[i5 ⋯,i5 ⋯];simp
omit U in
def sX:∀(l: ~~~0) (j:Nat),(l.map D.int).eraseIdx j=(l.eraseIdx j).map .int
 | [],_=>rfl
 |_::_,0=>rfl
 |a::l,j+1=>by simp[sX l j]
omit U in
def xK:∀(l: ~~~0) (j:Nat) (h:j<l.length),([l[j]]++l.eraseIdx j).Perm l
 |a::l,0,_=>AE _
 |a::l,j+1,h=>(List.Perm.swap a _ _).trans ((xK l j (by simpa using h)).cons a)
end
section
variable{ci:Nat}(U:jx fns rn)(hC:fns[ci]?=!nJ)
include U hC
omit U hC in
def tV:uG .Pow (.int 10) (.int 18)=!(.dat (.int (10 ^ 18))):=by rfl
def KH(ns: ~~~0)(hl:ns.length<=1000)(j:Nat):∃(s:Int) (fl:Bool),cW (rn (n+40)) (k+1) (mS ci) [.fix (ns.map .int),.int j]=!(.new [.int s,.bl fl]):=by
 obtain⟨v,q⟩:∃v:Int,∀n,cW (rn (n+20)) k nJ [.fix (ns.map .int),.int j]=!‹v›:=by
  by_cases h:j<ns.length
  .
   apply#[ns[j],λn=>?_]
   have h':(j:Int)<ns.length:=by lia
   have:=xJ ns j h;delta cW nJ;simp! [U,qQ,h',this]
  .
   apply#[0,λn=>?_]
   have h' : ¬ (j:Int)<ns.length:=by lia
   delta cW nJ;simp! [U,qQ,h']
 by_cases hv:(1000000000000000000:Int)<=v
 . apply#[v - 1000000000000000000,true,?_];delta cW mS;simp! [U,hC,bD (fx:=nJ) rfl,q,tV,hv,au 2 ⋯]
 . apply#[v % 2147483647,false,?_];delta cW mS;simp! [U,hC,bD (fx:=nJ) rfl,q,tV,hv,au 2 ⋯,uT]
end
abbrev cK:Fx:=#[1,1,[(.ret (.and [(.zO ⇑0 "int"),(.not (.zO ⇑0 "bool"))]))]]
abbrev bT(w:Nat):Fx:=#[3,3,[(.ret (.and [(.call w [⇑0]),(.chain ⇑1 [.LtE,.LtE] [⇑0,⇑2])]))]]
abbrev isInt:D->Bool
 |.int _=>true
 |_=>false
abbrev BG(lo hi:Int):D->Bool
 |.int i=>decide (lo<=i/\i<=hi)
 |_=>false
def xM:∀{l:List D},(∀x∈l,kD x=true)->iK l=true
 | [],_=>rfl
 |d::l,h=>by
  exact (kD d&&iK l)=true;rw[h d dA,xM λx hx=>h x (bP _ hx)]
  rfl
def xN:∀{l:List D},(∀x∈l,dep x<=c)->deps l<=c
 | [],_=>wE _
 |d::l,h=>by
  have h1:=h d dA;have h2:=xN λx hx=>h x (bP _ hx)
  exact max (dep d) (deps l)<=c;lia
def QD{l:List D}{lo hi r:Int}(h:0<=r/\r<l.length)(a:l.all (BG lo hi)=true):∃v:Int,(lo<=v/\v<=hi)/\L2.gJ l r=!(.int v):=by
 obtain⟨j,rfl⟩:∃j:Nat,r=j:=#[r.toNat,by lia]
 have hj:j<l.length:=by lia
 have b:=i8.mp a _ (u8 hj);have q:=gW l j hj;generalize l[j]=x at b q;cases x with
 |int v=>show#[v,mB b,q]
 |_=>cases b
section
variable{w wi mw it ci cj:Nat}(U:jx fns rn)
include U
def lG(d:D):cW (rn (n+6)) k cK [d]=!(.dat (.bl (isInt d))):=by
 have e:isInt d=(jX (yp d) "int" && (not (jX (yp d) "bool"))):=by cases d <;> rfl
 rw[e];delta cW cK;cases h:jX (yp d) "int" <;> simp! [U,h]
variable(hW:fns[w]?=!cK)
include hW
def sY(d:D)(lo hi:Int):cW (rn (n+14)) (k+1) (bT w) [d,.int lo,.int hi]=!(.dat (.bl (BG lo hi d))):=by
 have no (e:isInt d=false):cW (rn (n+14)) (k+1) (bT w) [d,.int lo,.int hi]=!(.dat (.bl false)):=by delta cW bT;simp! [U,hW,aR (fx:=cK) rfl,lG U,e]
 delta cW bT;cases d with
 |int i=>
  by_cases h1:lo<=i
  .
   by_cases h2:i<=hi
   . simp! [U,hW,aR (fx:=cK) rfl,lG U,isInt,BG,h1]
   . simp! [U,hW,aR (fx:=cK) rfl,lG U,isInt,BG,h1]
  . simp! [U,hW,aR (fx:=cK) rfl,lG U,isInt,BG,h1]
 |_=>show no rfl
end
abbrev fU(wi:Nat):Fx:=#[2,2,[(.ite (.or [(.not (.zO ⇑1 "tuple")),(.cmp .NotEq (.blt .len [⇑1]) ↥2)]) (~~~4) []),(.ret (.and [(.blt .all [(.comp 2 2 (.nm 3) ⇑1 none (.call wi [⇑3,↥0,(.bin .Sub ⇑0 ↥1)]))]),(.cmp .Lt (.ix ⇑1 ↥0) (.ix ⇑1 ↥1))]))]]
abbrev rL:Fx:=#[1,1,[(.ret (.blt .all [(.comp 1 2 (.nm 2) (.iA ↥1 (.blt .len [⇑0])) none (.cmp .Lt (.ix ⇑0 (.bin .Sub ⇑2 ↥1)) (.ix ⇑0 ⇑2)))]))]]
abbrev cZ(wi it ri:Nat):Fx:=#[1,3,[(.ite (.or [(.not (.zO ⇑0 "tuple")),(.cmp .NotEq (.blt .len [⇑0]) ↥2)]) (~~~4) []),(.tgt (.tp [1,2]) ⇑0),(.ite (.or [(.not (.call wi [⇑1,↥1,↥6])),(.not (.zO ⇑2 "tuple"))]) (~~~4) []),(.ret (.and [(.blt .all [(.comp 3 2 (.nm 4) ⇑2 none (.call it [⇑1,⇑4]))]),(.call ri [⇑2])]))]]
abbrev aM(iw ci:Nat):Fx:=#[1,1,[(.ite (.not (.call iw [⇑0])) [(.raise ci (.val (.str (PySem.Str.ofString "no web"))))] [])]]
abbrev W(m:Nat)(ah: ~~~5):D:=.tup [.int m,.tup (ah.map ∅)]
structure Wb(m:Nat)(ah: ~~~5):Prop where
 tie:∀x∈ah,∃a b:Int,x=[a,b]/\0<=a/\a<b/\b<m
 RK:ah.Pairwise λx y=>HT.lexLt x y=true
 len:ah.length<=15
def Wb.two{m:Nat}{ah: ~~~5}(h:Wb m ah):(ah.map ∅)=ah.map λx=>.tup [.int (gt x 0),.int (gt x 1)]:=y6 λx hx=>by
 let(a,b,rfl,_):=h.tie x hx;rfl
def nL{rn:Rn}{bor:List Nat}{k:Nat}:∀(l:List Sm) (g:G),(∀st∈l,∀g,iS rn bor k st g=none)->gS rn bor k l g=none
 | [],_,_=>rfl
 |st::l,g,h=>by
  delta gS;rw[h st dA];dsimp only;split
  . show nL l _ λs hs=>h s (bP _ hs)
  . rfl
section
variable{wh wi it ri iw ci:Nat}(U:jx fns rn)
include U
variable(hW:fns[wh]?=!cK)(hI:fns[wi]?=!(bT wh))
include hW hI
def KJ(m:Nat)(a b:Int)(h:0<=a/\a<b/\b<m):cW (rn (n+40)) (k+3) (fU wi) [.int m,~~~[a,b]]=!(.dat (.bl true)):=by
 have w:=λn k=>xH (rn:=rn (n+24)) (bor:=[]) (k:=k+2) (g:=[‹m›,.dat (~~~[a,b])]) (g1:=[‹m›,.dat (~~~[a,b])]) (kk:=2) (nn:=2) (j:=3) (it:=.slot 1) (e:=.call wi [⇑3,↥0,(.bin .Sub ⇑0 ↥1)]) [a,b] .int (λ_=>.bl true) (by simp! [U,dj]) rfl ⋯ ⋯ ⋯ (au _ ⋯) λx hx G' hG=>by
  have h0:=hG.1 0 ⋯;have hx':(0:Int)<=x/\x<=m - 1:=by simp only[d6,n0]at hx;lia
  simp! [U,hG.2,h0,hI,Ca (fx:=bT wh) rfl,sY U hW,BG,hx']
 have e1:[a,b].map (λ_=>D.bl true)=([true,true]).map .bl:=rfl
 have i0:L2.gJ ([a,b].map D.int) 0=!(.int a):=rfl;have i1:L2.gJ ([a,b].map D.int) 1=!(.int b):=rfl;delta cW fU;simp! [U,w,e1,i0,i1,h]
omit hW hI in
def Xq(m:Nat)(ah: ~~~5)(h:Wb m ah):cW (rn (n+40)) k rL [.tup (ah.map ∅)]=!(.dat (.bl true)):=by
 have hl:=h.len;have w:=λn k=>xH (rn:=rn (n+16)) (bor:=[]) (k:=k) (g:=[.dat (.tup (ah.map ∅))]) (g1:=[.dat (.tup (ah.map ∅))]) (kk:=2) (nn:=1) (j:=2) (it:=.iA ↥1 (.blt .len [⇑0])) (e:=.cmp .Lt (.ix ⇑0 (.bin .Sub ⇑2 ↥1)) (.ix ⇑0 ⇑2)) (List.range (ah.length - 1)) (λ(k:Nat)=>.int (1+k:Int)) (λ_=>.bl true) (by
   have e:((ah.length:Int) - 1).toNat=ah.length - 1:=by lia
   simp! [U,dj,aQ 1 ⋯,aQ (ah.length:Int) ⋯,e,cR]) rfl ⋯ ⋯ ⋯ (au _ (by simp;lia)) λj hj G' hG=>by
  have h0:G'[0]?=!(.dat (.tup (ah.map ∅))):=hG.1 0 ⋯
  have hj':=t5.mp hj;have j1:L2.gJ (ah.map ∅) (1+(j:Int) - 1)=!(~~~(ah[j]'⋯)):=by rw[show (1+(j:Int) - 1)=((j:Nat):Int)by lia,gW _ _ (by simp;lia)];simp
  have j2:L2.gJ (ah.map ∅) (1+(j:Int))=!(~~~(ah[j+1]'⋯)):=by rw[show (1+(j:Int))=((j+1:Nat):Int)by lia,gW _ _ (by simp;lia)];simp
  have n9:HT.lexLt (ah[j]'⋯) (ah[j+1]'⋯)=true:=AO.mp h.RK j (j+1) ⋯ ⋯ ⋯;have hc:fH .Lt (~~~(ah[j]'⋯)) (~~~(ah[j+1]'⋯))=!true:=by simp only[fH,ltF,ints_map,n9]
  simp! [U,hG.2,h0,j1,j2,hc]
 have e1:(List.range (ah.length - 1)).map (λ_=>D.bl true)=((List.range (ah.length - 1)).map λ_=>true).map .bl:=by rw[List.map_map];rfl
 have e2:((List.range (ah.length - 1)).map λ_=>true).all id=true:=by simp
 delta cW rL;simp! [U,w,e1,e2]
variable(lz:fns[it]?=!(fU wi))(hR:fns[ri]?=!rL)
include lz hR
def xO(m:Nat)(ah: ~~~5)(hm:1<=m/\m<=6)(h:Wb m ah):cW (rn (n+60)) (k+5) (cZ wi it ri) [W m ah]=!(.dat (.bl true)):=by
 have hl:=h.len;have w:=λn k=>xH (rn:=rn (n+50)) (bor:=[]) (k:=k+4) (g:=[.dat (W m ah),‹m›,.dat (.tup (ah.map ∅))]) (g1:=[.dat (W m ah),‹m›,.dat (.tup (ah.map ∅))]) (kk:=2) (nn:=3) (j:=4) (it:=.slot 2) (e:=.call it [⇑1,⇑4]) ah ∅ (λ_=>.bl true) (by simp! [U,dj]) rfl ⋯ ⋯ ⋯ (au _ ⋯) λx hx G' hG=>by
  have h1:=hG.1 1 ⋯;let(a,b,rfl,hab):=h.tie x hx;simp! [U,hG.2,h1,lz,bD (fx:=fU wi) rfl,KJ U hW hI m a b hab]
 have e1:ah.map (λ_=>D.bl true)=(ah.map λ_=>true).map .bl:=by rw[List.map_map];rfl
 have e2:(ah.map λ_=>true).all id=true:=by simp
 have q:=λn k=>Xq U (n:=n) (k:=k) m ah h
 have ty:jX (yp (W m ah)) "tuple"=true:=rfl;have bl:nF .len [W m ah]=!‹2›:=rfl;have st:∀s1 s2,Tg.set (.tp [1,2]) (W m ah) [.dat (W m ah),s1,s2]=![.dat (W m ah),‹m›,.dat (.tup (ah.map ∅))]:=λ_ _=>rfl
 delta cW cZ;simp! [U,ty,bl,st,hI,Ca (fx:=bT wh) rfl,sY U hW,BG,(show (1:Int)<=m/\(m:Int)<=6 by lia),w,e1,e2,hR,aR (fx:=rL) rfl,q]
variable(rM:fns[iw]?=!(cZ wi it ri))
include rM
def kB(m:Nat)(ah: ~~~5)(hm:1<=m/\m<=6)(h:Wb m ah):cW (rn (n+70)) (k+6) (aM iw ci) [W m ah]=!(.dat .non):=by delta cW aM;simp! [U,rM,aR (fx:=cZ wi it ri) rfl,xO U hW hI lz hR m ah hm h]
omit hW hI lz hR rM in
def Xr(d:D):n8 (rn (n+60)) k (cZ wi it ri) [d]=none:=by
 have rf:∀g,(rn (n+59)).xb [] k (~~~4) g=none:=λg=>by simp! [U,U.e]
 have r0:∀g,(rn (n+59)).xb [] k [] g=none:=λg=>by simp! [U,U.e]
 delta n8 cZ;rw[U.xb,nL];intro st hs g;simp only[d6,n0,C6]at hs;rcases hs with rfl |rfl |rfl |rfl
 . simp only[iS,U.xt,mJ,rf,r0];split <;> first |rfl | (split <;> rfl)
 . simp! [U,U.e]
 . simp only[iS,U.xt,mJ,rf,r0];split <;> first |rfl | (split <;> rfl)
 . simp! [U,U.e]
def KN(m:Nat)(ah: ~~~5)(hm:1<=m/\m<=6)(h:Wb m ah):n8 (rn (n+70)) (k+6) (aM iw ci) [W m ah]=none:=by delta n8 aM;simp! [U,rM,cX (fx:=cZ wi it ri) rfl,Xr U,aR (fx:=cZ wi it ri) rfl,xO U hW hI lz hR m ah hm h]
end
abbrev tm(t: ~~~0)(x: ~~~0): ~~~0:=if gt t (gt x 0)<gt t (gt x 1)then [gt t (gt x 0),gt t (gt x 1)]else [gt t (gt x 1),gt t (gt x 0)]
abbrev tw(t: ~~~0)(ah: ~~~5): ~~~5:=bK fj (ah.map (tm t))
def bI(a b:Int):gt [a,b] 0=a/\gt [a,b] 1=b:=#[rfl,rfl]
def oR(t: ~~~0)(a b:Int):tm t [a,b]=if gt t a<gt t b then [gt t a,gt t b]else [gt t b,gt t a]:=rfl
abbrev Pr(m:Nat)(x: ~~~0):Prop:=∃a b:Int,x=[a,b]/\0<=a/\a<b/\b<m
def KQ(h:Tn m t)(hx:Pr m x):Pr m (tm t x):=by
 let(a,b,rfl,h1,h2,h3):=hx;have ha:=h.Kz (i:=a) ⋯;have hb:=h.Kz (i:=b) ⋯;have lI:gt t a≠gt t b:=λe=>by have:=h.inj ⋯ ⋯ e;lia
 rw[oR];split
 . show#[_,_,rfl,by lia,by lia,by lia]
 . show#[_,_,rfl,by lia,by lia,by lia]
def KR(h:Tn m t)(hx:Pr m x)(hy:Pr m y)(e:tm t x=tm t y):x=y:=by
 let(a,b,rfl,h1,h2,h3):=hx;let(c,d,rfl,h4,h5,h6):=hy;rw[oR,oR]at e;have i1:∀i j:Int,(0<=i/\i<m)->(0<=j/\j<m)->gt t i=gt t j->i=j:=λi j hi hj e=>h.inj hi hj e
 split at e <;> split at e <;> simp only[List.cons.injEq,and_true]at e
 .
  have:=i1 a c ⋯ ⋯ e.1;have:=i1 b d ⋯ ⋯ e.2
  subst_vars;rfl
 . have:=i1 a d ⋯ ⋯ e.1;have:=i1 b c ⋯ ⋯ e.2;lia
 . have:=i1 b c ⋯ ⋯ e.1;have:=i1 a d ⋯ ⋯ e.2;lia
 .
  have:=i1 b d ⋯ ⋯ e.1;have:=i1 a c ⋯ ⋯ e.2
  subst_vars;rfl
def fV(h:l.Nodup):(bK fj l).Pairwise λx y=>HT.lexLt x y=true:=by
 have h1:=gQ (O:=fj) l;have h2:(bK fj l).Nodup:=(bX l).nodup_iff.mpr h;apply (h1.and h2).imp λ{x y} #[q1,q2]=>?_
 cases e:HT.lexLt x y with
 |true=>rfl
 |false=>show absurd (mq x y e q1) q2
def Wb.nodup(h:Wb m ah):ah.Nodup:=by show h.RK.imp λ{x y} q e=>by rw[e,mj]at q;cases q
abbrev Xs(i j:Int): ~~~0:=if i<j then [i,j]else [j,i]
def qT{i j:Int}(h:i≠j):Xs i j=Xs j i:=by delta Xs;split <;> split <;> first |rfl |lia
def uU{i j:Int}(h:i<j):Xs i j=[i,j]:=i5 h
abbrev Fe(i:Int)(x: ~~~0):Option Int:=if gt x 0=i then some (gt x 1)else if gt x 1=i then some (gt x 0)else none
abbrev nb(i:Int)(ah: ~~~5): ~~~0:=ah.filterMap (Fe i)
abbrev has(i:Int)(x: ~~~0):Bool:=decide (gt x 0=i)||decide (gt x 1=i)
def Xu{m:Nat}{ah: ~~~5}(h:Wb m ah)(i y:Int):y∈nb i ah ↔ Xs i y∈ah:=by
 delta nb;rw[BM];constructor
 .
  rintro⟨x,hx,e⟩;let(a,b,rfl,h1,h2,h3):=h.tie x hx;delta Fe at e;rw[(bI a b).1,(bI a b).2]at e;split at e
  . ext q;cases e;subst q;rw[uU h2];show hx
  .
   split at e
   . ext q;cases e;subst q;rw[qT ⋯,uU h2];show hx
   . cases e
 .
  intro hx;apply#[_,hx,?_];delta Xs at hx ⊢
  delta Fe;split
  . rw[(bI i y).1,(bI i y).2,i5 rfl]
  . ext q;rw[kA q]at hx;let(a,b,e,h1,h2,h3):=h.tie _ hx;injection e with e1 e2;injection e2 with e2 _;rw[(bI y i).1,(bI y i).2,kA ⋯,i5 rfl]
abbrev ext(m:Nat)(l: ~~~5): ~~~5:=l.flatMap λr=>((nums m).filter λx=>(not (decide (x∈r)))).map λx=>r++[x]
abbrev Cd(m:Nat):Nat->List (~~~0)
 | 0=>[[]]
 |s+1=>ext m (Cd m s)
abbrev turnsOf(m:Nat): ~~~5:=Cd m m
abbrev gF(i:Nat):Fx:=#[2,2,[(.ite (.JT ⇑1 ["tuple", "list"]) [(.ite (.or [(.cmp .NotEq (.zO ⇑0 "tuple") (.zO ⇑1 "tuple")),(.cmp .NotEq (.zO ⇑0 "list") (.zO ⇑1 "list"))]) (~~~4) []),(.ite (.cmp .NotEq (.blt .len [⇑0]) (.blt .len [⇑1])) (~~~4) []),(.ret (.blt .all [(.comp 2 3 (.tp [3,4]) (.zip ⇑0 ⇑1) none (.call i [⇑3,⇑4]))]))] []),(.ret (.and [(.cmp .Eq ⇑0 ⇑1),(.cmp .Eq (.zO ⇑0 "bool") (.zO ⇑1 "bool"))]))]]
def QF{l:List D}{r:Int}(h:0<=r/\r<l.length):∃x∈l,L2.gJ l r=!x:=by
 obtain⟨j,rfl⟩:∃j:Nat,r=j:=#[r.toNat,by lia]
 have hj:j<l.length:=by lia
 show#[l[j],u8 hj,gW l j hj]
def Ce(l m:List D)(h:l.length+m.length<=1000):uG .Add (.lst l) (.lst m)=!(.new (l++m)):=by
 exact (if l.length+m.length<=lim then _ else _)=_
 rw[i5 (au _ h)]
abbrev Sd:Nat->D->Prop
 |_,.int _=>True
 |_,.bl _=>True
 |c+1,.tup l=>l.length<=1000/\∀x∈l,Sd c x
 |_,_=>False
def xP:∀l:List D,uy l l=l.map λa=>D.tup [a,a]
 | []=>rfl
 |a::l=>by
  exact D.tup [a,a]::uy l l=_;rw[xP l];rfl
section
variable(U:jx fns rn)
include U
def KS{c:Nat}(hS:fns[i]?=!(gF i))(ih:∀n k d,Sd c d->cW (rn (n+20 * c+20)) (k+c) (gF i) [d,d]=!(.dat (.bl true))){l:List D}(hl:l.length<=1000)(h:∀x∈l,Sd c x):∀n k,fM (rn (n+20 * c+23)) [] (k+c+1) 2 3 (.tp [3,4]) (.zip ⇑0 ⇑1) none (.call i [⇑3,⇑4]) [.dat (.tup l),.dat (.tup l)]=!((l.map λ_=>true).map .bl,[.dat (.tup l),.dat (.tup l)]):=λn k=>by
 have e:dj (rn (n+20 * c+23)) [] (k+c+1) true (.zip ⇑0 ⇑1) [.dat (.tup l),.dat (.tup l)]=!(uy l l,[.dat (.tup l),.dat (.tup l)]):=by simp! [U,dj]
 rw[List.map_map];show Kq l id id _ (by rw[e,xP];rfl) rfl ⋯ ⋯ ⋯ ⋯ ⋯ ⋯ ⋯ (au _ hl) λa ha G' hG=>by
  have h1:=hG.2.1;have h2:=hG.2.2;have q:=ih (n+2) k a (h a ha);rw[show n+2+20 * c+20=n+20 * c+22 by lia]at q
  simp! [U,h1,h2,hS,bD (fx:=gF i) rfl,q]
def mV(d:D)(h:Sd 0 d):cW (rn (n+20)) k (gF i) [d,d]=!(.dat (.bl true)):=by
 cases d with
 |int j=>delta cW gF;simp! [U,yp,jX,fH,lu,eu,kD,dep]
 |bl j=>delta cW gF;simp! [U,yp,jX,fH,lu,eu,kD,dep]
 |_=>show h.elim
def uV(hS:fns[i]?=!(gF i)):∀(c n k:Nat) (d:D),Sd c d->cW (rn (n+20 * c+20)) (k+c) (gF i) [d,d]=!(.dat (.bl true))
 | 0,n,k,d,h=>mV U d h
 |c+1,n,k,d,h=>by
  have ih:=uV hS c;rw[show n+20 * (c+1)+20=n+20 * c+40 by lia,show k+(c+1)=k+c+1 by lia]
  cases d with
  |int j=>show mV U _ trivial
  |bl j=>show mV U _ trivial
  |tup l=>
   have w:=KS U hS ih (l:=l) h.1 h.2;have w':=w (n+13) k;rw[show n+13+20 * c+23=n+20 * c+36 by lia]at w'
   delta cW gF;simp! [U,yp,jX,fH,lu,eu,kD,dep,w']
  |_=>show h.elim
end
section
variable{k n:Nat}{g g1:G}{rn:Nat->Rn}{fns:List Fx}{i:Nat}(U:jx fns rn)
include U
omit U in
def FP(j:Nat):nums (j+1)=nums j++[(j:Int)]:=by simp[nums,List.range_succ]
end
abbrev QG(N:Int->~~~0)(s y:Int):Prop:=∀P:Int->Prop,P s->(∀x z,P x->z∈N x->P z)->P y
structure Rk(N:Int->~~~0)(s:Int)(L: ~~~0):Prop where
 nd:L.Nodup
 bg:s∈L
 cl:∀x z,x∈L->z∈N x->z∈L
 rc:∀y∈L,QG N s y
def Rk.perm{N:Int->~~~0}{s:Int}{L L': ~~~0}(h:Rk N s L)(h':Rk N s L'):L.Perm L':=
 (List.perm_ext_iff_of_nodup h.nd h'.nd).mpr λy=>#[λhy=>h.rc y hy (·∈L') h'.bg h'.cl,λhy=>h'.rc y hy (·∈L) h.bg h.cl]
def Rk.QH{N:Int->~~~0}{s:Int}{L L': ~~~0}(h:Rk N s L)(p:L'.Perm L):Rk N s L':=
 #[p.nodup_iff.mpr h.nd,p.mem_iff.mpr h.bg,λx z hx hz=>p.mem_iff.mpr (h.cl x z (p.mem_iff.mp hx) hz),λy hy=>h.rc y (p.mem_iff.mp hy)]
structure Nb(m:Nat)(N:Int->~~~0):Prop where
 sym:∀x y,y∈N x->x∈N y
 nO:∀x y,y∈N x->0<=y/\y<m
 nd:∀x,(N x).Nodup
def QG.sym{m:Nat}{N:Int->~~~0}(hN:Nb m N){s y:Int}(h:QG N s y):QG N y s:=
 h (λy=>QG N y s) (λ_ h _=>h) λx z hx hz P p0 pl=>hx P (pl z x p0 (hN.sym x z hz)) pl
def Rk.at{m:Nat}{N:Int->~~~0}(hN:Nb m N){s y:Int}{L: ~~~0}(h:Rk N s L)(hy:y∈L):Rk N y L:=
 #[h.nd,hy,h.cl,λz hz P p0 pl=>h.rc z hz P ((h.rc y hy).sym hN P p0 pl) pl]
structure Gr(m:Nat)(N:Int->~~~0)(s:Int)(r: ~~~0):Prop where
 nd:r.Nodup
 bg:s∈r
 nO:∀x∈r,0<=x/\x<m
 rc:∀y∈r,QG N s y
def jg{m:Nat}{r: ~~~0}(h1:r.Nodup)(h2:∀x∈r,0<=x/\x<m):r.length<=m:=by
 have:=h1.length_le_of_subset λx hx=>dW.mpr (h2 x hx)
 rwa [aW]at this
abbrev mW(N:Int->~~~0)(r: ~~~0)(h:Int): ~~~0:=r++(N h).filter λo=>(not (decide (o∈r)))
abbrev rowS(N:Int->~~~0)(r: ~~~0): ~~~0:=r.foldl (mW N) r
abbrev qU(N:Int->~~~0):Nat->~~~0->List Int
 | 0,r=>r
 |i+1,r=>qU N i (rowS N r)
def Gr.add{m:Nat}{N:Int->~~~0}{s h:Int}{r: ~~~0}(hN:Nb m N)(g:Gr m N s r)(hh:QG N s h):Gr m N s (mW N r h):=by
 have hf:∀x,x∈(N h).filter (λo=>(not (decide (o∈r)))) ↔ x∈N h/\x∉r:=λx=>by simp
 apply#[sB.mpr #[g.nd,(hN.nd h).sublist List.filter_sublist,λa ha b hb e=>((hf b).mp hb).2 (e▸ha)],i6 _ g.bg,λx hx=>?_,λy hy=>?_]
 .
  rcases mP.mp hx with hx |hx
  . show g.nO x hx
  . show hN.nO h x ((hf x).mp hx).1
 .
  rcases mP.mp hy with hy |hy
  . show g.rc y hy
  . show λP p0 pl=>pl h y (hh P p0 pl) ((hf y).mp hy).1
def fold_add{m:Nat}{N:Int->~~~0}{s:Int}(hN:Nb m N):∀(hs r: ~~~0),(∀h∈hs,QG N s h)->Gr m N s r->Gr m N s (hs.foldl (mW N) r)/\(∃e,hs.foldl (mW N) r=r++e)/\∀h∈hs,∀y∈N h,y∈hs.foldl (mW N) r
 | [],r,_,g=>#[g,#[[],(mE r).symm],λh hh=>nomatch hh]
 |h::hs,r,hh,g=>by
  let(q1,(e,q2),q3):=fold_add hN hs (mW N r h) (λx hx=>hh x (bP _ hx)) (g.add hN (hh h dA))
  rw[List.foldl_cons];apply#[q1,#[(N h).filter (λo=>(not (decide (o∈r))))++e,by rw[q2,mW,AG]],λx hx y hy=>?_]
  rcases d6.mp hx with rfl |hx
  .
   rw[q2];apply i6 _ ?_;by_cases hr:y∈r
   . show i6 _ hr
   . show eP _ (hV.mpr #[hy,by simp[hr]])
  . show q3 x hx y hy
def xQ{N:Int->~~~0}{r: ~~~0}(h:rowS N r=r):∀i,qU N i r=r
 | 0=>rfl
 |i+1=>by delta qU;rw[h];show xQ h i
def Cg{m:Nat}{N:Int->~~~0}{s:Int}(hN:Nb m N):∀(i:Nat) (r: ~~~0),Gr m N s r->m+1<=r.length+i->Rk N s (qU N i r)
 | 0,r,g,h=>absurd (jg g.nd g.nO) ⋯
 |i+1,r,g,h=>by
  let(q1,(e,q2),q3):=fold_add hN r r g.rc g;cases e with
  |nil=>rw[mE]at q2;have Be:=q2;rw[xQ Be];show#[g.nd,g.bg,λx z hx hz=>by have:=q3 x hx z hz;rwa [q2]at this,g.rc]
  |cons a e=>apply Cg hN i _ q1 ?_;exact _<=(r.foldl (mW N) r).length+i;rw[q2,fI,lL];lia
abbrev cp(N:Int->~~~0)(m:Nat)(s:Int): ~~~0:=bS (qU N m [s])
section
variable{m:Nat}{N:Int->~~~0}(hN:Nb m N){s y:Int}
include hN
def Aa(hs:0<=s/\s<m):Gr m N s [s]:=#[gN.mpr #[n0,o6],i3.mpr rfl,λx hx=>by rw[i3.mp hx];show hs,λx hx P p0 _=>by rw[i3.mp hx];show p0]
def Ad(hs:0<=s/\s<m):Rk N s (qU N m [s]):=Cg hN m [s] (Aa hN hs) (by rw[An];lia)
def qV(hs:0<=s/\s<m):Rk N s (cp N m s):=(Ad hN hs).QH (aZ _)
def Ci(hs:0<=s/\s<m){L: ~~~0}(h:Rk N s L):bS L=cp N m s:=fc ((aZ L).trans (h.perm (Ad hN hs))) (bZ L)
def Rk.nO{L: ~~~0}(hs:0<=s/\s<m)(h:Rk N s L):∀x∈L,0<=x/\x<m:=λx hx=>h.rc x hx (λx=>0<=x/\x<m) hs λx z _ hz=>hN.nO x z hz
def Si(hs:0<=s/\s<m)(hy:y∈cp N m s):cp N m y=cp N m s:=by have h:=qV hN hs;have h2:=Ci hN (h.nO hN hs y hy) (h.at hN hy);rw[<- h2];show (fc (AE _) (bZ _)).symm
def cp_up(hs:0<=s/\s<m):(cp N m s).Pairwise (· < ·):=
 ((bZ _).and (qV hN hs).nd).imp λ{a b} h=>by have:=h.1;have:=h.2;lia
def cp_hd(hs:0<=s/\s<m):gt (cp N m s) 0∈cp N m s/\∀y∈cp N m s,gt (cp N m s) 0<=y:=by
 have h1:=(qV hN hs).bg;have h2:=cp_up hN hs;revert h1 h2;cases cp N m s with
 |nil=>intro h1;cases h1
 |cons a l=>
  intro _ h2;apply#[dA,λy hy=>?_]
  rcases d6.mp hy with rfl |hy
  . show Int.le_refl _
  . show Int.le_of_lt ((sR.mp h2).1 y hy)
def Xv(hs:0<=s/\s<m):1<=(cp N m s).length/\(cp N m s).length<=m:=by have h:=qV hN hs;show#[List.length_pos_of_mem h.bg,jg h.nd (h.nO hN hs)]
omit hN in
abbrev ld(N:Int->~~~0)(m:Nat)(s:Int):Bool:=decide (gt (cp N m s) 0=s)
omit hN in
abbrev bQ(N:Int->~~~0)(m p:Nat): ~~~5:=((nums p).filter (ld N m)).map (cp N m)
omit hN in
def FQ(p:Nat):bQ N m (p+1)=if ld N m p=true then bQ N m p++[cp N m p]else bQ N m p:=by
 delta bQ;rw[FP,List.filter_append];split
 . ext h;rw[CC,i5 h,nS];rfl
 . ext h;rw[CC,kA h,nS];show mE _
def KY(p:Nat)(hp:p<m):(bQ N m p).filter (λc=>decide ((p:Int)∈c))=[] ↔ ld N m p=true:=by
 have lK:0<=(p:Int)/\(p:Int)<m:=by lia
 delta bQ ld;rw[List.filter_eq_nil_iff];constructor
 .
  intro h;apply AQ λlI=>?_
  let(h1,h2):=cp_hd hN lK;have h3:=h2 p (qV hN lK).bg;have hr:=(qV hN lK).nO hN lK _ h1;have e:=Si hN lK h1;apply h (cp N m (gt (cp N m p) 0)) (fR.mpr #[_,hV.mpr #[dW.mpr ⋯,?_],rfl]) ?_
  . rw[e];show oC rfl
  . rw[e];show oC (qV hN lK).bg
 .
  intro h c hc;let(s,hs,rfl):=fR.mp hc;let(hs1,hs2):=hV.mp hs;have hs1:=dW.mp hs1;have hs':0<=s/\s<m:=by lia
  intro hin;have e:=Si hN hs' (mB hin);have:=mB hs2;lia
end
abbrev KZ(N:Int->~~~0)(ring done: ~~~0): ~~~0:=((ring.flatMap N).filter λo=>(not (decide (o∈done)))).foldl Sb.oneMore []
def uW:∀(l ks: ~~~0),ks.Nodup->(l.foldl Sb.oneMore ks).Nodup/\∀x,x∈l.foldl Sb.oneMore ks ↔ x∈ks\/x∈l
 | [],ks,h=>#[h,λx=>by simp]
 |a::l,ks,h=>by
  have h1:(Sb.oneMore ks a).Nodup/\∀x,x∈Sb.oneMore ks a ↔ x∈ks\/x=a:=by
   delta Sb.oneMore;split
   . ext ha;show#[h,λx=>#[.inl,λq=>q.elim id λe=>e▸ha]]
   . ext ha;have p:=aZ (a::ks);show#[p.nodup_iff.mpr (gN.mpr #[ha,h]),λx=>by rw[p.mem_iff,d6,or_comm]]
  let(q1,q2):=uW l (Sb.oneMore ks a) h1.1;rw[List.foldl_cons];apply#[q1,λx=>?_]
  rw[q2,h1.2,d6,or_assoc]
structure Bf(m:Nat)(N:Int->~~~0)(s:Int)(done ring: ~~~0):Prop where
 gr:Gr m N s (done++ring)
 cl:∀x z,x∈done->z∈N x->z∈done++ring
section
variable{m:Nat}{N:Int->~~~0}(hN:Nb m N){s:Int}{done ring: ~~~0}
include hN
def Bf.next(h:Bf m N s done ring):Bf m N s (done++ring) (KZ N ring (done++ring)):=by
 let(q1,q2):=uW ((ring.flatMap N).filter λo=>(not (decide (o∈done++ring)))) [] o6
 have hm:∀x,x∈KZ N ring (done++ring) ↔ (∃y∈ring,x∈N y)/\x∉done++ring:=λx=>by
  delta KZ;rw[q2,hV];simp
 have g:=h.gr;apply#[#[sB.mpr #[g.nd,q1,λa ha b hb e=>((hm b).mp hb).2 (e▸ha)],i6 _ g.bg,λx hx=>?_,λy hy=>?_],λx z hx hz=>?_]
 .
  rcases mP.mp hx with hx |hx
  . show g.nO x hx
  . let((y,_,hy),_):=(hm x).mp hx;show hN.nO y x hy
 .
  rcases mP.mp hy with hy |hy
  . show g.rc y hy
  . let((x,hx,hxy),_):=(hm y).mp hy;show λP p0 pl=>pl x y (g.rc x (eP _ hx) P p0 pl) hxy
 .
  by_cases hd:z∈done++ring
  . show i6 _ hd
  .
   rcases mP.mp hx with hx |hx
   . show i6 _ (h.cl x z hx hz)
   . show eP _ ((hm z).mpr #[#[x,hx,hz],hd])
omit hN in
def Bf.fin(h:Bf m N s done []):Rk N s done:=by have g:=h.gr;have c:=h.cl;rw[mE]at g c;show#[g.nd,g.bg,c,g.rc]
def Bf.one(hs:0<=s/\s<m):Bf m N s [] [s]:=#[Aa hN hs,λx z hx=>nomatch hx]
omit hN in
def Bf.len(h:Bf m N s done ring):done.length+ring.length<=m:=by
 have:=jg h.gr.nd h.gr.nO
 rwa [fI]at this
end
def Ae{m:Nat}{x: ~~~0}(h:Pr m x){i y:Int}(e:Fe i x=!y):x=Xs i y/\0<=y/\y<m:=by
 let(a,b,rfl,h1,h2,h3):=h;delta Fe at e;rw[(bI a b).1,(bI a b).2]at e;split at e
 . ext q;cases e;subst q;show#[(uU h2).symm,by lia]
 .
  split at e
  . ext q;cases e;subst q;show#[by rw[qT ⋯,uU h2],by lia]
  . cases e
def nM{m:Nat}{ah: ~~~5}(h:Wb m ah):Nb m λi=>nb i ah:=by
 apply#[λx y hy=>?_,λx y hy=>?_,λx=>?_]
 .
  rw[Xu h]at hy ⊢
  by_cases e:x=y
  . subst e;show hy
  . rw[qT λz=>e z.symm];show hy
 . let(p,hp,e):=BM.mp hy;show (Ae (h.tie p hp) e).2
 .
  apply List.pairwise_filterMap.mpr (h.nodup.imp_of_mem λ{a b} ha hb hab y e z f q=>hab ?_)
  subst q;rw[(Ae (h.tie a ha) e).1,(Ae (h.tie b hb) f).1]
open L2 (oA)
abbrev rgs(N:Int->~~~0)(s:Int):Nat->~~~0×List Int
 | 0=>([],[s])
 |i+1=>((rgs N s i).1++(rgs N s i).2,KZ N (rgs N s i).2 ((rgs N s i).1++(rgs N s i).2))
abbrev rc(N:Int->~~~0)(m:Nat)(s:Int):Nat:=((List.range (m+1)).find? λi=>(rgs N s i).2.isEmpty).getD 0
section
variable{m:Nat}{N:Int->~~~0}(hN:Nb m N){s:Int}
def Cj{i:Nat}(h:(rgs N s i).2=[]):∀j,(rgs N s (i+j)).2=[]
 | 0=>h
 |j+1=>by
  exact KZ N (rgs N s (i+j)).2 _=[];rw[Cj h j];rfl
def jh{x:Int}:∀{i:Nat},x∈(rgs N s i).1 ↔ ∃j,j<i/\x∈(rgs N s j).2
 | 0=>#[λh=>(nomatch h),λ#[_,h,_]=>absurd h (qS _)]
 |i+1=>by
  exact x∈(rgs N s i).1++(rgs N s i).2 ↔ _;rw[mP,jh (i:=i)];constructor
  .
   rintro (⟨j,h1,h2⟩ |h)
   . show#[j,by lia,h2]
   . show#[i,by lia,h]
  .
   rintro⟨j,h1,h2⟩;by_cases e:j=i
   . show .inr (e▸h2)
   . show .inl #[j,by lia,h2]
def Sj{c:Nat}(ne:∀i,i<c->(rgs N s i).2≠[])(nil:(rgs N s c).2=[])(hc:c<=m):rc N m s=c:=by
 delta rc;rw[List.find?_range_eq_some.mpr #[by rw[nil];rfl,by rw[t5];lia,λj hj=>by have:=ne j hj;cases h:(rgs N s j).2 with |nil=>show absurd h this |cons _ _=>rfl]]
 rfl
def xR{i:Nat}{x:Int}:x∈(rgs N s (i+1)).2 ↔ (∃y∈(rgs N s i).2,x∈N y)/\x∉(rgs N s (i+1)).1:=by exact x∈KZ N (rgs N s i).2 ((rgs N s i).1++(rgs N s i).2) ↔ _;delta KZ;rw[(uW _ [] o6).2,hV];exact _ ↔ _/\x∉(rgs N s i).1++(rgs N s i).2;simp
include hN
def ji(hs:0<=s/\s<m):∀i,Bf m N s (rgs N s i).1 (rgs N s i).2
 | 0=>Bf.one hN hs
 |i+1=>(ji hs i).next hN
def K1(hs:0<=s/\s<m){x:Int}{i j:Nat}(h1:x∈(rgs N s i).2)(h2:x∈(rgs N s j).2):i=j:=by
 have key:∀{i j:Nat},i<j->x∈(rgs N s i).2->x∈(rgs N s j).2->False:=λ{i j} h h1 h2=>
  (sB.mp (ji hN hs j).gr.nd).2.2 x (jh.mpr #[i,h,h1]) x h2 rfl
 rcases Nat.lt_trichotomy i j with h |h |h
 . show (key h h1 h2).elim
 . show h
 . show (key h h2 h1).elim
def rc_ok(hs:0<=s/\s<m):1<=rc N m s/\rc N m s<=m/\(∀i,i<rc N m s->(rgs N s i).2≠[])/\(rgs N s (rc N m s)).2=[]:=by
 have len:∀c,(∀i,i<c->(rgs N s i).2≠[])->c<=(rgs N s c).1.length:=λc=>by
  induction c with
  |zero=>intro _;show wE _
  |succ c ih=>
   intro h;have h1:=ih λi hi=>h i ⋯
   have h2:=C5.mpr (h c ⋯);exact c+1<=((rgs N s c).1++(rgs N s c).2).length;rw[fI];lia
 have ex:∃c,c<=m/\(∀i,i<c->(rgs N s i).2≠[])/\(rgs N s c).2=[]:=by
  have main:∀k c,m<c+k->(∀i,i<c->(rgs N s i).2≠[])->c<=m+1->∃c,c<=m/\(∀i,i<c->(rgs N s i).2≠[])/\(rgs N s c).2=[]:=λk=>by
   induction k with
   |zero=>intro c h1 h2 h3;have:=len c h2;have:=(ji hN hs c).len;lia
   |succ k ih=>
    intro c h1 h2 h3;have l1:=len c h2;have l2:=(ji hN hs c).len;by_cases e:(rgs N s c).2=[]
    . show#[c,by lia,h2,e]
    .
     have l3:=C5.mpr e;show ih (c+1) ⋯ (λi hi=>by
      by_cases q:i=c
      . show q▸e
      .
       show h2 i ⋯) ⋯
  show main (m+1) 0 ⋯ (λi h=>absurd h (qS _)) ⋯
 let(c,h1,h2,h3):=ex;rw[Sj h2 h3 h1];apply#[?_,h1,h2,h3];cases c with
 |zero=>cases h3
 |succ c=>lia
end
def uX{x v:Int}:∀{mp:List (Int×Int)},(mp.map (·.1)).Nodup->(x,v)∈mp->oA x mp=!v
 |p::mp,hd,h=>by
  let(h1,h2):=gN.mp hd;delta L2.oA;rcases d6.mp h with e |h
  .
   rw[i5 (by rw[<- e])]
   rw[<- e]
  .
   rw[kA λe=>h1 (fR.mpr #[_,h,e.symm])]
   show uX h2 h
def qW{x:Int}:∀{mp:List (Int×Int)},oA x mp=none ↔ x∉mp.map (·.1)
 | []=>#[λ_ h=>(nomatch h),λ_=>rfl]
 |p::mp=>by
  delta L2.oA;rw[List.map_cons,d6,not_or];by_cases e:p.1=x
  . rw[i5 e];show#[λh=>(nomatch h),λh=>absurd e.symm h.1]
  . rw[kA e,qW (mp:=mp)];show#[λh=>#[λq=>e q.symm,h],λh=>h.2]
structure Wm(m:Nat)(N:Int->~~~0)(s:Int)(t:Nat)(mp:List (Int×Int)):Prop where
 nd:(mp.map (·.1)).Nodup
 lo:∀x v,(x,v)∈mp->∃i:Nat,i<=t+1/\v=i/\x∈(rgs N s i).2
 hi:∀i:Nat,i<=t->∀x∈(rgs N s i).2,(x,(i:Int))∈mp
section
variable{m:Nat}{N:Int->~~~0}(hN:Nb m N){s:Int}(hs:0<=s/\s<m){t:Nat}{mp:List (Int×Int)}
include hN hs
def Wm.len(h:Wm m N s t mp):mp.length<=m:=by
 have:=jg (m:=m) h.nd λx hx=>by
  let(p,hp,rfl):=fR.mp hx;let(i,_,_,h3):=h.lo p.1 p.2 hp;show (ji hN hs i).gr.nO _ (eP _ h3)
 rwa [eC]at this
def Wm.put(h:Wm m N s t mp){y x:Int}{i:Nat}(hi:i<=t)(hy:y∈(rgs N s i).2)(hx:x∈N y):Wm m N s t (qi mp x i)/\x∈(qi mp x i).map (·.1)/\∀z∈mp.map (·.1),z∈(qi mp x i).map (·.1):=by
 delta qi;cases e:oA x mp with
 |some v=>
  apply show Wm m N s t mp/\x∈mp.map (·.1)/\∀z∈mp.map (·.1),z∈mp.map (·.1)from#[h,?_,λ_ hz=>hz]
  apply AQ λq=>?_
  rw[qW.mpr q]at e;cases e
 |none=>
  have q:=qW.mp e;have nx:∀j,j<=t->x∉(rgs N s j).2:=λj hj hx=>q (fR.mpr #[_,h.hi j hj x hx,rfl])
  have e1:i=t:=by
   apply AQ λne=>?_
   have hd:y∈(rgs N s (i+1)).1:=jh.mpr #[i,oI i,hy];rcases mP.mp ((ji hN hs (i+1)).cl y x hd hx)with w |w
   . let(j,w1,w2):=jh.mp w;show nx j ⋯ w2
   . show nx (i+1) ⋯ w
  subst e1;have hr:x∈(rgs N s (i+1)).2:=xR.mpr #[#[y,hy,hx],λw=>by
   let(j,w1,w2):=jh.mp w;show nx j ⋯ w2]
  exact Wm m N s i (mp++[(x,(i:Int)+1)])/\x∈(mp++[(x,(i:Int)+1)]).map (·.1)/\∀z∈mp.map (·.1),z∈(mp++[(x,(i:Int)+1)]).map (·.1);rw[nS];apply#[#[?_,λz v hz=>?_,λj hj z hz=>i6 _ (h.hi j hj z hz)],eP _ (i3.mpr rfl),λz hz=>i6 _ hz]
  . rw[nS];show sB.mpr #[h.nd,gN.mpr #[n0,o6],λa ha b hb e=>q (by have e2:a=x:=e.trans (i3.mp hb);rw[<- e2];show ha)]
  .
   rcases mP.mp hz with hz |hz
   . show h.lo z v hz
   . cases i3.mp hz;show#[i+1,eA _,rfl,hr]
def xS(hm:m<1000){y:Int}{i:Nat}(hi:i<=t)(hy:y∈(rgs N s i).2):∀(ns: ~~~0) (mp:List (Int×Int)),Wm m N s t mp->(∀x∈ns,x∈N y)->∃vj,nq y ns mp=!vj/\Wm m N s t vj/\(∀z∈mp.map (·.1),z∈vj.map (·.1))/\∀x∈ns,x∈vj.map (·.1)
 | [],mp,h,_=>#[mp,rfl,h,λ_ h=>h,λ_ h=>nomatch h]
 |x::ns,mp,h,hx=>by
  let(h1,h2,h3):=h.put hN hs hi hy (hx x dA);let(vj,w1,w2,w3,w4):=xS hm hi hy ns _ h1 λz hz=>hx z (bP _ hz)
  apply#[vj,?_,w2,λz hz=>w3 z (h3 z hz),λz hz=>?_]
  . delta nq;rw[uX h.nd (h.hi i hi y hy)];dsimp only;rw[i5 (Nat.lt_of_le_of_lt (h.len hN hs) hm)];show w1
  .
   rcases d6.mp hz with rfl |hz
   . show w3 _ h2
   . show w4 z hz
def xT(hm:m<1000){ev:Int->Option (~~~0)}(he:∀y:Int,0<=y/\y<m->ev y=!(N y)):∀(ks: ~~~0) (mp:List (Int×Int)),Wm m N s t mp->(∀y∈ks,∃i,i<=t/\y∈(rgs N s i).2)->∃vj,nD ev ks mp=!vj/\Wm m N s t vj/\(∀z∈mp.map (·.1),z∈vj.map (·.1))/\∀y∈ks,∀x∈N y,x∈vj.map (·.1)
 | [],mp,h,_=>#[mp,rfl,h,λ_ h=>h,λ_ h=>nomatch h]
 |y::ks,mp,h,hk=>by
  let(i,hi,hy):=hk y dA;let(m1,w1,w2,w3,w4):=xS hN hs hm hi hy (N y) mp h λ_ h=>h
  let(vj,v1,v2,v3,v4):=xT hm he ks m1 w2 λz hz=>hk z (bP _ hz)
  apply#[vj,?_,v2,λz hz=>v3 z (w3 z hz),λz hz x hx=>?_]
  . delta nD;rw[he y ((ji hN hs i).gr.nO y (eP _ hy))];dsimp only;rw[w1];show v1
  .
   rcases d6.mp hz with rfl |hz
   . show v3 _ (w4 x hx)
   . show v4 z hz x hx
structure Wt(N:Int->~~~0)(s:Int)(t:Nat)(mp:List (Int×Int)):Prop where
 nd:(mp.map (·.1)).Nodup
 is:∀x v,(x,v)∈mp ↔ ∃i:Nat,i<=t/\v=i/\x∈(rgs N s i).2
def K3(hm:m<1000){ev:Int->Option (~~~0)}(he:∀y:Int,0<=y/\y<m->ev y=!(N y)):∀(n t:Nat) (mp:List (Int×Int)),Wt N s t mp->∃vj,OJ ev n mp=!vj/\Wt N s (t+n) vj
 | 0,t,mp,h=>#[mp,rfl,h]
 |n+1,t,mp,h=>by
  have w:Wm m N s t mp:=#[h.nd,λx v hx=>by
   let(i,h1,h2,h3):=(h.is x v).mp hx;show#[i,by lia,h2,h3],λi hi x hx=>(h.is x i).mpr #[i,hi,rfl,hx]]
  let(m1,w1,w2,w3,w4):=xT hN hs hm he (mp.map (·.1)) mp w λy hy=>by
   let(p,hp,rfl):=fR.mp hy;let(i,h1,_,h3):=(h.is p.1 p.2).mp hp;show#[i,h1,h3]
  have h1:Wt N s (t+1) m1:=#[w2.nd,λx v=>#[w2.lo x v,λ#[i,q1,q2,q3]=>by
   by_cases e:i<=t
   . rw[q2];show w2.hi i e x q3
   .
    have e:i=t+1:=by lia
    subst e;let((y,y1,y2),_):=xR.mp q3;let(p,p1,p2):=fR.mp (w4 y (fR.mpr #[_,w.hi t (eA t) y y1,rfl]) x y2);let(j,j1,j2,j3):=w2.lo p.1 p.2 p1;rw[p2]at j3;have:=K1 hN hs j3 q3;subst this;rw[q2,<- j2,<- p2];show p1]]
  let(vj,v1,v2):=K3 hm he n (t+1) m1 h1;apply#[vj,?_,by rw[show t+(n+1)=t+1+n by lia];show v2]
  delta OJ;rw[w1];show v1
omit hN hs in
def Wt.one:Wt N s 0 [(s,0)]:=#[gN.mpr #[n0,o6],λx v=>by
 rw[i3];constructor
 . intro h;symm;show#[0,eA _,rfl,i3.mpr rfl]
 .
  rintro⟨i,h1,h2,h3⟩;have e:i=0:=by lia
  subst e;rw[h2,i3.mp h3];rfl]
def Wt.max{n:Nat}(hn:m<=n)(h:Wt N s n mp):∃v vs,mp.map (·.2)=v::vs/\y9 v vs=(rc N m s:Int) - 1:=by
 let(c1,c2,c3,c4):=rc_ok hN hs;generalize rc N m s=c at *;have up:∀v∈mp.map (·.2),v<=(c:Int) - 1:=λv hv=>by
  let(p,hp,rfl):=fR.mp hv;let(i,h1,h2,h3):=(h.is p.1 p.2).mp hp;have:i<c:=by
   apply AQ λq=>?_
   have:=Cj c4 (i - c);rw[show c+(i - c)=i by lia]at this
   rw[this]at h3;cases h3
  lia
 have BG:(c:Int) - 1∈mp.map (·.2):=by let(x,l,e):=List.exists_cons_of_ne_nil (c3 (c - 1) ⋯);apply fR.mpr #[(x,((c - 1:Nat):Int)),(h.is _ _).mpr #[c - 1,by lia,rfl,by rw[e];show dA],by exact ((c - 1:Nat):Int)=_;lia]
 cases hv:mp.map (·.2)with
 |nil=>rw[hv]at BG;cases BG
 |cons v vs=>apply#[v,vs,rfl,?_];rw[hv]at up BG;let(g1,g2):=Ob v vs;have:=up _ g1;have:=g2 _ BG;lia
end
abbrev uY:Fx:=#[1,3,[(.set 1 (.lst [])),(.loop (.nm 2) (.cV ⇑0) [(.expr (.extend 1 (.comp 3 2 (.nm 4) (.iA (.bin .Add ⇑2 ↥1) ⇑0) none (.tup [⇑2,⇑4]))))]),(.ret ⇑1)]]
abbrev QJ(m a:Nat): ~~~5:=(List.range (m - (a+1))).map λ(j:Nat)=>[(a:Int),(a:Int)+1+(j:Int)]
abbrev pacc(m j:Nat): ~~~5:=((List.range j).map (QJ m)).flatten
def sZ(m j:Nat):pacc m (j+1)=pacc m j++QJ m j:=by simp[pacc,List.range_succ]
def xU(m:Nat):∀j,(pacc m j).length<=j * m
 | 0=>by simp[pacc]
 |j+1=>by
  rw[sZ,fI];have:=xU m j;have h2:(QJ m j).length<=m:=by simp[QJ]
  lia
abbrev prs(m:Nat): ~~~5:=pacc m m
abbrev okP(m:Nat):Bool:=(prs m).all (λx=>match x with | [a,b]=>decide (0<=a)&&decide (a<b)&&decide (b<m) |_=>false)&&decide ((prs m).Nodup)&&decide ((prs m).length<=15)
def QK{m:Nat}(hm:1<=m/\m<=6):okP m=true:=by refine six hm <;> decide +kernel
def Xw(hm:1<=m/\m<=6):(∀x∈prs m,Pr m x)/\(prs m).Nodup/\(prs m).length<=15:=by
 have:=QK hm;delta okP at this;simp only[hU,mM,i8]at this;let((h1,h2),h3):=this;apply#[λx hx=>?_,h2,h3]
 have:=h1 x hx;split at this
 . ext a b;simp only[hU,mM]at this;show#[a,b,rfl,this.1.1,this.1.2,this.2]
 . cases this
section
variable{ti pi mi:Nat}(U:jx fns rn)(hT:fns[ti]?=!bM)(hP:fns[pi]?=!uY)(hM:fns[mi]?=!(Ky ti))
include U
abbrev fr(s:Int)(fl:Bool)(a2 a3 a4 a5 a6 a7:Slot):G:=[St s fl,‹6›,a2,a3,a4,a5,a6,a7]
end
def QL(a b:Int):nF .sorted [.lst [.int a,.int b]]=!(.new ((bS [a,b]).map .int)):=jc [a,b] ⋯
abbrev fW:Fx:=#[2,5,[(.set 2 (.lst [])),(.loop (.tp [3,4]) (.ix ⇑0 ↥1) [(.expr (.append 2 (.tup [(.blt .min [(.ix ⇑1 ⇑3),(.ix ⇑1 ⇑4)]),(.blt .max [(.ix ⇑1 ⇑3),(.ix ⇑1 ⇑4)])])))]),(.ret (.tup [(.ix ⇑0 ↥0),(.blt .tuple [(.blt .sorted [⇑2])])]))]]
abbrev jL(ti:Nat):Fx:=#[2,4,[(.set 2 (.wL ⇑1)),(.set 3 (.lst [])),(.while (.cmp .NotEq ⇑2 (.lst [])) [(.expr (.append 3 (.qw 2 (.call ti [⇑0,(.blt .len [⇑2])]))))]),(.ret (.blt .tuple [⇑3]))]]
abbrev xV(ti:Nat):List Sm:=[(.expr (.append 3 (.tup [(.ix (.lst [(.call ti [⇑0,⇑4]),(.bin .Sub ⇑4 ↥1),↥0,(.blt .max [↥0,(.bin .Sub ⇑4 ↥2)])]) ⇑2),⇑4])))]
abbrev gZ(ti na mi:Nat):Fx:=#[2,5,[(.set 2 (.call ti [⇑0,↥4])),(.set 3 (.lst [])),(.loop (.nm 4) (.iA ↥1 ⇑1) (xV ti)),(.ret (.call na [(.tup [⇑1,(.blt .tuple [⇑3])]),(.call mi [⇑0,⇑1])]))]]
def mm_tm{m:Nat}{t: ~~~0}(ht:Tn m t){a b:Int}(h:0<=a/\a<b/\b<m):[if gt t b<gt t a then gt t b else gt t a,if gt t b > gt t a then gt t b else gt t a]=tm t [a,b]:=by
 have lI:gt t a≠gt t b:=λe=>by have:=ht.inj ⋯ ⋯ e;lia
 rw[oR];by_cases q:gt t a<gt t b
 . rw[kA ⋯,i5 ⋯,i5 q]
 . rw[i5 ⋯,kA ⋯,kA q]
abbrev K4(j:Nat)(l: ~~~5):Prop:=l.length=j/\∀i,i<j->∃v:Int,l[i]?=![v,((i+1:Nat):Int)]/\0<=v/\v<=i
def K4.more{j:Nat}{l: ~~~5}(h:K4 j l){v z:Int}(hz:z=1+(j:Int))(hv:0<=v/\v<z):K4 (j+1) (l++[[v,z]]):=by
 apply#[by rw[fI,h.1];rfl,λi hi=>?_]
 rcases wS i j with q |q
 . let(u,e,hu):=h.2 i q;show#[u,by rw[dL (by rw[h.1];show q)];show e,hu]
 .
  obtain rfl:i=j:=by lia
  apply#[v,?_,by lia,by lia]
  rw[eD (by rw[h.1];show eA _),h.1,A9,hz]
  exact some [v,1+(i:Int)]=_;rw[show (1:Int)+(i:Int)=((i+1:Nat):Int)by lia]
def K4.at{j:Nat}{l: ~~~5}(h:K4 j l){x: ~~~0}(hx:x∈l):∃(i:Nat) (v:Int),i<j/\l[i]?=!x/\x=[v,((i+1:Nat):Int)]/\0<=v/\v<=i:=by
 let(i,hi,e):=List.mem_iff_getElem.mp hx;have hi':i<j:=by rw[<- h.1];show hi
 let(v,e2,hv):=h.2 i hi';rw[i4 hi,e]at e2;show#[i,v,hi',by rw[i4 hi,e],nN e2,hv]
def K4.pr{j m:Nat}{l: ~~~5}(h:K4 j l)(hm:j<m):∀x∈l,Pr m x:=λx hx=>by
 let(i,v,hi,_,e,hv):=h.at hx;show#[v,_,e,by lia,by lia,by lia]
def K4.nodup{j:Nat}{l: ~~~5}(h:K4 j l):l.Nodup:=by
 apply AO.mpr λa b ha hb hab e=>?_
 let(v,e1,_):=h.2 a (by rw[<- h.1];show ha)
 let(w,e2,_):=h.2 b (by rw[<- h.1];show hb)
 rw[i4 ha]at e1;rw[i4 hb,<- e,nN e1]at e2;have:=nN e2;injection this with _ q;lia
section
variable{bor:List Nat}{k n:Nat}{g g1:G}{rn:Nat->Rn}{fns:List Fx}{ti na mi:Nat}(U:jx fns rn)
include U
def xX(m:Nat)(hm:m<=60)(l: ~~~5)(hl:∀x∈l,Pr m x)(hn:l.length<=60)(t: ~~~0)(ht:Tn m t):cW (rn (n+20)) k fW [.tup [.int m,.tup (l.map ∅)],~~~t]=!(.dat (W m (bK fj (l.map (tm t))))):=by
 have tl:=ht.length;let(g',(dn,a3,a4,h1,rfl),h3):=dH (T:=.tp [3,4]) (b:=(rn (n+19)).b [] k [(.expr (.append 2 (.tup [(.blt .min [(.ix ⇑1 ⇑3),(.ix ⇑1 ⇑4)]),(.blt .max [(.ix ⇑1 ⇑3),(.ix ⇑1 ⇑4)])])))]) (λx:List Int=>~~~x)
  (I:=λrest g=>∃(dn: ~~~5) (a3 a4:Slot),l=dn++rest/\g=[.dat (.tup [.int m,.tup (l.map ∅)]),.dat (~~~t),.own ((dn.map (tm t)).map ∅),a3,a4])
  (step:=λx rest g h=>by
   let(dn,a3,a4,h1,rfl):=h;let(a,b,rfl,hab):=hl x (by rw[h1];simp)
   have i1:L2.gJ (t.map D.int) a=!(.int (gt t a)):=z9 ⋯;have i2:L2.gJ (t.map D.int) b=!(.int (gt t b)):=z9 ⋯;have hdl:=eM (oI _) (au (dn.length+1) (by rw[h1,fI]at hn;lia))
   apply#[[.dat (.tup [.int m,.tup (l.map ∅)]),.dat (~~~t),.own ((dn.map (tm t)).map ∅),‹a›,‹b›],[.dat (.tup [.int m,.tup (l.map ∅)]),.dat (~~~t),.own (((dn++[[a,b]]).map (tm t)).map ∅),‹a›,‹b›],rfl,?_,dn++[[a,b]],_,_,by rw[h1,AG];rfl,rfl]
   rw[nS,List.map_singleton,<- mm_tm ht hab];simp! [U,i1,i2,hdl,au 2 ⋯];rfl) l [.dat (.tup [.int m,.tup (l.map ∅)]),.dat (~~~t),.own [],.no,.no] #[[],.no,.no,rfl,rfl]
 rw[mE]at h1;subst h1;have bs:=jd (l.map (tm t)) (λx hx e=>by
  let(y,hy,rfl):=fR.mp hx;let(a,b,e',_):=KQ ht (hl y hy);rw[e']at e;cases e) (by rw[eC];lia)
 have i0:L2.gJ [D.int (m:Int),.tup (l.map ∅)] 0=!(.int m):=rfl
 have i1:L2.gJ [D.int (m:Int),.tup (l.map ∅)] 1=!(.tup (l.map ∅)):=rfl
 delta cW fW;simp! [U,dj,i0,i1,h3,bs];rfl
variable(hT:fns[ti]?=!bM)
include hT
def Cp{i:Nat}{s:Int}{fl:Bool}(m:Nat)(hi:g[i]?=!(St s fl))(hm:m<=60):∃(row: ~~~0) (s':Int),Tn m row/\bL (rn (n+50)) (jL ti) (k+1) [.var i,‹m›] g=!(.dat (~~~row),g.set i (St s' fl)):=by
 have hlm:=aW m;have loop:=BZ (c:=(rn (n+49)).t [0] (k+1) (.cmp .NotEq ⇑2 (.lst []))) (b:=(rn (n+49)).b [0] (k+1) [(.expr (.append 3 (.qw 2 (.call ti [⇑0,(.blt .len [⇑2])]))))])
  (I:=λq g=>∃(s:Int) (left gG: ~~~0),left.length=q/\(gG++left).Perm (nums m)/\g=[St s fl,‹m›,.own (left.map .int),.own (gG.map .int)])
  (step:=λq g h=>by
   let(s,left,gG,h1,h2,rfl):=h;have aL:=h2.length_eq;rw[fI]at aL;let(r,s',q1,q2,q3):=cY U (n:=n+25) (k:=k) (g:=[St s fl,‹m›,.own (left.map .int),.own (gG.map .int)]) (i:=0) (m:=(left.length:Int)) rfl ⋯;obtain⟨j,rfl⟩:∃j:Nat,r=j:=#[r.toNat,by lia]
   have hj:j<left.length:=by lia
   have e1:(left.map D.int)[j]?=!(.int left[j]):=by simp[hj]
   have e2:=sX left j;have z1:=eM (oI _) (au (left.length+1) ⋯);have z2:=eM (oI _) (au (gG.length+1) ⋯);have lI:left≠[]:=λe=>by rw[e]at hj;show absurd hj (qS _)
   apply#[[St s fl,‹m›,.own (left.map .int),.own (gG.map .int)],[St s' fl,‹m›,.own ((left.eraseIdx j).map .int),.own ((gG++[left[j]]).map .int)],by simp! [U,KD,lI],?_,s',left.eraseIdx j,gG++[left[j]],?_,?_,rfl]
   . have Rx:=q3;simp! [U,hT,Rx,Xp hj,e1,e2,z1,z2];simp
   . rw[List.length_eraseIdx_of_lt hj];lia
   .
    apply List.Perm.trans ?_ h2;rw[AG];apply List.Perm.append_left _ ?_;show xK left j hj)
  (fin:=λg h=>by
   let(s,left,gG,h1,h2,rfl):=h;have:=List.eq_nil_of_length_eq_zero h1;simp! [U,KD,this])
 let(g',(s',left,gG,q1,q2,rfl),q3):=loop m 100000 [St s fl,‹m›,.own ((nums m).map .int),.own []] ⋯ #[s,nums m,[],hlm,by simp,rfl]
 have hnil:=List.eq_nil_of_length_eq_zero q1;subst hnil;rw[mE]at q2;apply#[gG,s',Tn.of q2,?_];have hr:cR 0 m=(nums m).map .int:=jf m;have hp:dD (jL ti).n [St s fl,‹m›]=[St s fl,‹m›,.no,.no]:=rfl;have body:(rn (n+50)).b [0] (k+1) (jL ti).body [St s fl,‹m›,.no,.no]=!(.rt (.dat (~~~gG)),[St s' fl,‹m›,.own [],.own (gG.map .int)]):=by delta jL;simp! [U,aQ m ⋯,au m ⋯,hr,q3]
 delta bL;simp only[vars,cL,hi,List.map_cons,List.map_nil];rw[hp,body];rfl
variable(hN:fns[na]?=!fW)(hM:fns[mi]?=!(jL ti))
include hN hM
def K5{i:Nat}{s:Int}{fl:Bool}(m:Nat)(hm:1<=m/\m<=60)(hi:g[i]?=!(St s fl)):∃(l: ~~~5) (row: ~~~0) (s':Int),K4 (m - 1) l/\Tn m row/\bL (rn (n+70)) (gZ ti na mi) (k+3) [.var i,‹m›] g=!(.dat (W m (bK fj (l.map (tm row)))),g.set i (St s' fl)):=by
 let(w,s1,w1,w2,q1):=cY U (n:=n+48) (k:=k+2) (g:=[St s fl,‹m›,.no,.no,.no]) (i:=0) (m:=4) rfl ⋯;have Dl:=q1;have e1:aG (rn (n+69)) [0] (k+3) (.set 2 (.call ti [⇑0,↥4])) [St s fl,‹m›,.no,.no,.no]=!(.nx,[St s1 fl,‹m›,‹w›,.no,.no]):=by simp! [U,hT,Dl]
 have e2:aG (rn (n+69)) [0] (k+3) (.set 3 (.lst [])) [St s1 fl,‹m›,‹w›,.no,.no]=!(.nx,[St s1 fl,‹m›,‹w›,.own [],.no]):=by simp! [U,au 0 ⋯]
 let(g',(j,ah,s2,a4,h0,h1,h2,rfl),hq):=dH (T:=.nm 4) (b:=(rn (n+69)).b [0] (k+3) (xV ti)) (λ(j:Nat)=>D.int (1+(j:Int)))
  (I:=λl g=>∃(j:Nat) (ah: ~~~5) (s2:Int) (a4:Slot),j<m/\l=List.range' j (m - 1 - j)/\K4 j ah/\g=[St s2 fl,‹m›,‹w›,.own (ah.map ∅),a4])
  (step:=λa l g h=>by
   let(j,ah,s2,a4,h0,h1,h2,rfl):=h;have hjm:j<m - 1:=by
    rcases wS j (m - 1)with h |h
    . show h
    . rw[Co h]at h1;cases h1
   have hc:List.range' j (m - 1 - j)=j::List.range' (j+1) (m - 1 - (j+1)):=by rw[show m - 1 - j=(m - 1 - (j+1))+1 by lia,CD]
   rw[hc]at h1;injection h1 with e1 e2;subst e1 e2;obtain⟨z,hz⟩:∃z:Int,z=1+(a:Int):=#[_,rfl];rw[<- hz];let(r,s3,r1,r2,q):=cY U (n:=n+43) (k:=k+2) (g:=[St s2 fl,‹m›,‹w›,.own (ah.map ∅),‹z›]) (i:=0) (m:=z) rfl ⋯
   have q':=q;obtain⟨v,hv,h5⟩:∃v:Int,(0<=v/\v<z)/\L2.gJ [D.int r,.int (z - 1),.int 0,.int (if 2<z then z - 2 else 0)] w=!(.int v):=by
    have:w=0\/w=1\/w=2\/w=3:=by lia
    rcases this with rfl |rfl |rfl |rfl
    . show#[r,by lia,rfl]
    . show#[z - 1,by lia,rfl]
    . show#[0,by lia,rfl]
    . show#[_,by split <;> lia,rfl]
   have hl:=h2.1;have z2:=eM (oI _) (au (ah.length+1) ⋯);apply#[[St s2 fl,‹m›,‹w›,.own (ah.map ∅),‹z›],[St s3 fl,‹m›,‹w›,.own ((ah++[[v,z]]).map ∅),‹z›],rfl,?_,a+1,ah++[[v,z]],s3,_,by lia,rfl,h2.more ⋯ ⋯,rfl]
   .
    rw[nS];delta xV;simp! [U,hT,q',h5,z2,au 4 ⋯,au 2 ⋯];rfl) (List.range' 0 (m - 1)) [St s1 fl,‹m›,‹w›,.own [],.no] #[0,[],s1,.no,by lia,rfl,#[rfl,λi hi=>absurd hi (qS _)],rfl]
 have hr:cR 1 (m - 1)=(List.range' 0 (m - 1)).map λ(x:Nat)=>D.int (1+(x:Int)):=by delta cR;rw[AR]
 have e3:aG (rn (n+69)) [0] (k+3) (.loop (.nm 4) (.iA ↥1 ⇑1) (xV ti)) [St s1 fl,‹m›,‹w›,.own [],.no]=!(.nx,[St s2 fl,‹m›,‹w›,.own (ah.map ∅),a4]):=by generalize hb:(rn (n+69)).b [0] (k+3) (xV ti)=bb at hq;simp! [U,Tg.ix,dj,aQ 1 ⋯,aQ m ⋯,hr,hb,hq]
 have hj:j=m - 1:=by
  rcases wS j (m - 1)with q |q
  .
   have:m - 1 - j=(m - 1 - j - 1)+1:=by lia
   rw[this]at h1;cases h1
  . lia
 subst hj;have hl:=h2.1;have hp:=h2.pr (m:=m) ⋯;let(row,s3,uZ,q4):=Cp U hT (n:=n+17) (k:=k+1) (g:=[St s2 fl,‹m›,‹w›,.own (ah.map ∅),a4]) (i:=0) m rfl ⋯
 have q4':=q4;have q5:=λn k=>xX U (n:=n) (k:=k) m ⋯ ah hp ⋯ row uZ
 have e4:aG (rn (n+69)) [0] (k+3) (.ret (.call na [(.tup [⇑1,(.blt .tuple [⇑3])]),(.call mi [⇑0,⇑1])])) [St s2 fl,‹m›,‹w›,.own (ah.map ∅),a4]=!(.rt (.dat (W m (bK fj (ah.map (tm row))))),[St s3 fl,‹m›,‹w›,.own (ah.map ∅),a4]):=by simp! [U,au 2 ⋯,hM,q4',hN,bD (fx:=fW) rfl,q5]
 apply#[ah,row,s3,h2,uZ,?_];have hpd:dD (gZ ti na mi).n [St s fl,‹m›]=[St s fl,‹m›,.no,.no,.no]:=rfl;have body:(rn (n+70)).b [0] (k+3) (gZ ti na mi).body [St s fl,‹m›,.no,.no,.no]=!(.rt (.dat (W m (bK fj (ah.map (tm row))))),[St s3 fl,‹m›,‹w›,.own (ah.map ∅),a4]):=by delta gZ;rw[U.b,aF e1,aF e2,aF e3];delta cD;rw[e4]
 delta bL;simp only[vars,cL,hi,List.map_cons,List.map_nil];rw[hpd,body];rfl
def oU(m:Nat)(hm:1<=m/\m<=6)(hi:g[i]?=!(St s fl)):∃(ah: ~~~5) (s':Int),Wb m ah/\ah.length<=5/\bL (rn (n+70)) (gZ ti na mi) (k+3) [.var i,‹m›] g=!(.dat (W m ah),g.set i (St s' fl)):=by
 let(ah,row,s3,h2,uZ,q):=K5 U hT hN hM m ⋯ hi;have hp:=h2.pr (m:=m) ⋯;have hl:=h2.1;have aL:(bK fj (ah.map (tm row))).length=ah.length:=by rw[(bX _).length_eq,eC]
 apply#[bK fj (ah.map (tm row)),s3,#[λx hx=>?_,fV (mU h2.nodup λx hx y hy e=>KR uZ (hp x hx) (hp y hy) e),by lia],by lia,q]
 let(y,hy,rfl):=fR.mp ((bX _).mem_iff.mp hx);show KQ uZ (hp y hy)
end
abbrev K6(ti:Nat):Sm:=.set 1 (.ix (.lst [↥6,↥5,↥4,↥6,↥3,↥5,↥2,↥1]) (.call ti [⇑0,↥8]))
abbrev K7:Ex:=.tup [⇑4,⇑11]
abbrev K8(ti:Nat):Option Ex:=!(.cmp .Lt (.call ti [⇑0,↥4]) (.bin .Add ⇑2 ↥1))
abbrev qX(ti:Nat):List Sm:=[(.expr (.extend 3 (.comp 10 2 (.nm 11) (.iA (.bin .Add ⇑4 ↥1) ⇑1) (K8 ti) K7)))]
abbrev YM(ti:Nat):Sm:=.ite (.cmp .Lt ⇑2 ↥3) [(.loop (.nm 4) (.cV ⇑1) (qX ti)),(.ret (.tup [⇑1,(.blt .tuple [⇑3])]))] []
abbrev FT(tr:Nat):Sm:=.ite (.cmp .Eq ⇑2 ↥3) [(.ret (.call tr [⇑0,⇑1]))] []
abbrev w2b(ti tr:Nat):List Sm:=[(.set 6 (.call tr [⇑0,⇑1])),(.tgt (.tp [4,5]) (.blt .sorted [(.lst [(.call ti [⇑0,⇑1]),(.call ti [⇑0,⇑1])])])),(.setC 3 (.comp 10 2 (.nm 11) (.ix ⇑6 ↥1) (!(.cmp .NotEq ⇑11 (.tup [⇑4,⇑5]))) ⇑11)),(.ite (.and [(.cmp .Lt ⇑4 ⇑5),(.cmp .Eq (.blt .len [⇑3]) (.blt .len [(.ix ⇑6 ↥1)]))]) [(.expr (.append 3 (.tup [⇑4,⇑5])))] []),(.ret (.tup [⇑1,(.blt .tuple [(.blt .sorted [⇑3])])]))]
abbrev tD(ti tr:Nat):Sm:=.ite (.cmp .Eq ⇑2 ↥4) (w2b ti tr) []
abbrev w2c:Sm:=.setC 9 (.comp 10 3 (.tp [11,12]) (.ix ⇑8 ↥1) none (.tup [(.bin .Add ⇑7 ⇑11),(.bin .Add ⇑7 ⇑12)]))
abbrev w2r(na mi:Nat):Sm:=.ret (.call na [(.tup [(.bin .Mult ↥2 ⇑7),(.bin .Add (.ix ⇑8 ↥1) (.blt .tuple [⇑9]))]),(.call mi [⇑0,(.bin .Mult ↥2 ⇑7)])])
abbrev tE(ti na mi tr:Nat):Fx:=#[1,10,[(K6 ti),(.set 2 (.call ti [⇑0,↥6])),(.set 3 (.lst [])),(YM ti),(FT tr),(tD ti tr),(.set 7 (.bin .Add ↥1 (.call ti [⇑0,↥3]))),(.set 8 (.call tr [⇑0,⇑7])),w2c,(w2r na mi)]]
def Xx{α:Type}(cP f:α->D)(gs:Int->G)(hn:∀s,(gs s).length=nn)(hj1:nn<=j)(hj2:j<nn+kk) :
  ∀(ao:List α) (s:Int) (m:G) (acc:List D),m.length=kk->acc.length+ao.length<=lim->
  (∀a∈ao,∀s m acc,m.length=kk->m[j - nn]?=!(.dat (cP a))->∃b s',mG rn bor k c (gM (gs s) m acc)=!(b,gM (gs s') m acc))->
  (∀a∈ao,∀s m acc,m.length=kk->m[j - nn]?=!(.dat (cP a))->gR rn bor k e (gM (gs s) m acc)=!(f a,gM (gs s) m acc))->
  ∃(sub:List α) (s':Int) (m':G),sub.Sublist ao/\m'.length=kk/\Fo rn bor k (.nm j) (nn+kk) c e (ao.map cP) (gM (gs s) m acc)=!(gM (gs s') m' (acc++sub.map f))
 | [],s,m,acc,hm,_,_,_=>#[[],s,m,B6 _,hm,by simp[Fo]]
 |a::ao,s,m,acc,hm,hl,hc,he=>by
  rw[lL]at hl;have hjm:j - nn<m.length:=by lia
  have q1:(Tg.nm j).set (cP a) (gM (gs s) m acc)=!(gM (gs s) (m.set (j - nn) (.dat (cP a))) acc):=by
   have:=qP (g:=gs s) (kk:=kk) (d:=cP a) (m:=m) (acc:=acc) (by rw[hn];show hj1) (by rw[hn];show hjm)
   rw[hn]at this;show this
  have hm':(m.set (j - nn) (.dat (cP a))).length=kk:=by simpa using hm
  have hg:(m.set (j - nn) (.dat (cP a)))[j - nn]?=!(.dat (cP a)):=by rw[eQ hjm]
  let(b,s',q2):=hc a dA s _ acc hm' hg;rw[List.map_cons];delta Fo;rw[q1];dsimp only;rw[q2];cases b with
  |false=>
   let(sub,s2,m2,w1,w2,w3):=Xx cP f gs hn hj1 hj2 ao s' _ acc hm' ⋯ (λx hx=>hc x (bP _ hx)) (λx hx=>he x (bP _ hx))
   show#[sub,s2,m2,w1.cons a,w2,w3]
  |true=>
   dsimp only;rw[he a dA s' _ acc hm' hg];dsimp only;have q4:(gM (gs s') (m.set (j - nn) (.dat (cP a))) acc)[nn+kk]?=!(.own acc):=by have:=lC (g:=gs s') (m:=m.set (j - nn) (.dat (cP a))) (acc:=acc);rw[hn,hm']at this;show this
   rw[q4];dsimp only;rw[i5 ⋯];have q5:(gM (gs s') (m.set (j - nn) (.dat (cP a))) acc).set (nn+kk) (.own (acc++[f a]))=gM (gs s') (m.set (j - nn) (.dat (cP a))) (acc++[f a]):=by have:=nI (g:=gs s') (m:=m.set (j - nn) (.dat (cP a))) (acc:=acc) (acc':=acc++[f a]);rw[hn,hm']at this;show this
   rw[q5];let(sub,s2,m2,w1,w2,w3):=Xx cP f gs hn hj1 hj2 ao s' _ (acc++[f a]) hm' (by rw[fI,An];lia) (λx hx=>hc x (bP _ hx)) (λx hx=>he x (bP _ hx))
   apply#[a::sub,s2,m2,w1.cons_cons a,w2,?_];rw[w3];simp
def Xy{α:Type}(ao:List α)(cP f:α->D)(gs:Int->G)(hn:∀s,(gs s).length=nn)(hj1:nn<=j)(hj2:j<nn+kk)(hw:dj rn bor k false it g=!(ao.map cP,gs s))(hb:j∉bor)(hl:ao.length<=lim)
  (hc:∀a∈ao,∀s m acc,m.length=kk->m[j - nn]?=!(.dat (cP a))->∃b s',mG rn bor k c (gM (gs s) m acc)=!(b,gM (gs s') m acc))
  (he:∀a∈ao,∀s m acc,m.length=kk->m[j - nn]?=!(.dat (cP a))->gR rn bor k e (gM (gs s) m acc)=!(f a,gM (gs s) m acc)) :
  ∃(sub:List α) (s':Int),sub.Sublist ao/\fM rn bor k nn kk (.nm j) it c e g=!(sub.map f,gs s'):=by
 let(sub,s',m',w1,w2,w3):=Xx cP f gs hn hj1 hj2 ao s (List.replicate kk .no) [] ⋯ (by simpa using hl) hc he
 apply#[sub,s',w1,?_];delta fM;rw[show (Tg.nm j).jW=false from rfl,hw]
 dsimp only;rw[i5 #[hn s,by simp[Tg.ix,hb]],Kp,w3]
 dsimp only;have:(gM (gs s') m' ([]++sub.map f))[nn+kk]?=!(.own ([]++sub.map f)):=by have:=lC (g:=gs s') (m:=m') (acc:=[]++sub.map f);rw[hn,w2]at this;show this
 rw[this];have ht:=uS (g:=gs s') (m:=m') (acc:=[]++sub.map f);rw[hn]at ht;rw[ht,A8]
def Xz{m:Nat}(hm:1<=m/\m<=6):(prs m).Pairwise λx y=>HT.lexLt x y=true:=by refine six hm <;> decide +kernel
def Wb.QM(hm:1<=m/\m<=6)(h:l.Sublist (prs m)):Wb m l:=by let(h1,_,h3):=Xw hm;show#[λx hx=>h1 x (h.subset hx),(Xz hm).sublist h,sK h.length_le h3]
section
variable{bor:List Nat}{k n:Nat}{g g1:G}{rn:Nat->Rn}{fns:List Fx}{ti na mi tr:Nat}(U:jx fns rn)(hT:fns[ti]?=!bM)
include U hT
nonrec abbrev f2(s:Int)(fl:Bool)(a1 a2 a3 a4 a5 a6 a7 a8 a9:Slot):G:=[St s fl,a1,a2,a3,a4,a5,a6,a7,a8,a9]
def XC(s:Int)(fl:Bool)(m:Nat)(hm:1<=m/\m<=6)(w:Int):∃(l: ~~~5) (s':Int) (a4:Slot),l.Sublist (prs m)/\aG (rn (n+98)) [0] (k+5) (.loop (.nm 4) (.cV ⇑1) (qX ti)) (f2 s fl ‹m› ‹w› (.own []) .no .no .no .no .no .no)=!(.nx,f2 s' fl ‹m› ‹w› (.own (l.map ∅)) a4 .no .no .no .no .no):=by
 let(g',(j,l,s',a4,h0,h1,h2,rfl),h3):=dH (T:=.nm 4) (b:=(rn (n+98)).b [0] (k+5) (qX ti)) (λ(j:Nat)=>D.int (j:Int))
  (I:=λr g=>∃(j:Nat) (l: ~~~5) (s':Int) (a4:Slot),j<=m/\r=List.range' j (m - j)/\l.Sublist (pacc m j)/\g=f2 s' fl ‹m› ‹w› (.own (l.map ∅)) a4 .no .no .no .no .no)
  (step:=λa r g h=>by
   let(j,l,s',a4,h0,h1,h2,rfl):=h;have hjm:j<m:=by
    rcases wS j m with h |h
    . show h
    . rw[Co h]at h1;cases h1
   have hc:List.range' j (m - j)=j::List.range' (j+1) (m - (j+1)):=by rw[show m - j=(m - (j+1))+1 by lia,CD]
   rw[hc]at h1;injection h1 with e1 e2;subst e1 e2;have aL:l.length<=36:=sK h2.length_le (sK (xU m a) (sK (Nat.mul_le_mul (show a<=6 by lia) hm.2) ⋯))
   let(sub,s2,hs,hq):=Xy (rn:=rn (n+95)) (bor:=[0]) (k:=k+5) (kk:=2) (nn:=10) (j:=11) (it:=.iA (.bin .Add ⇑4 ↥1) ⇑1) (c:=K8 ti) (e:=K7) (s:=s') (g:=f2 s' fl ‹m› ‹w› (.own (l.map ∅)) ‹a› .no .no .no .no .no) (List.range (m - (a+1))) (λi=>D.int ((a:Int)+1+(i:Int))) (λi=>D.tup [.int (a:Int),.int ((a:Int)+1+(i:Int))]) (λs=>f2 s fl ‹m› ‹w› (.own (l.map ∅)) ‹a› .no .no .no .no .no) (λ_=>rfl) ⋯ ⋯ (by
     have e:((m:Int) - ((a:Int)+1)).toNat=m - (a+1):=by lia
     delta f2;simp! [U,dj,aQ ((a:Int)+1) ⋯,aQ m ⋯,e,cR]) ⋯ (au _ (by simp;lia))
    (λx _ s mm acc h1 h2=>by
     let(r,s2,r1,r2,q):=cY U (g:=gM (f2 s fl ‹m› ‹w› (.own (l.map ∅)) ‹a› .no .no .no .no .no) mm acc) (i:=0) (m:=4) rfl ⋯
     have q':bL (rn (n+93)) bM (k+4) [.var 0,‹4›] (gM (f2 s fl ‹m› ‹w› (.own (l.map ∅)) ‹a› .no .no .no .no .no) mm acc)=!(‹r›,gM (f2 s2 fl ‹m› ‹w› (.own (l.map ∅)) ‹a› .no .no .no .no .no) mm acc):=q
     have g0:∀s,(gM (f2 s fl ‹m› ‹w› (.own (l.map ∅)) ‹a› .no .no .no .no .no) mm acc)[0]?=!(St s fl):=λ_=>rfl
     have g2:∀s,(gM (f2 s fl ‹m› ‹w› (.own (l.map ∅)) ‹a› .no .no .no .no .no) mm acc)[2]?=!‹w›:=λ_=>rfl
     apply#[decide (r<w+1),s2,?_];simp! [U,K8,mG,hT,g0,g2,q'])
    (λx _ s mm acc h1 h2=>by
     have g4:∀s,(gM (f2 s fl ‹m› ‹w› (.own (l.map ∅)) ‹a› .no .no .no .no .no) mm acc)[4]?=!‹a›:=λ_=>rfl
     have g11:(gM (f2 s fl ‹m› ‹w› (.own (l.map ∅)) ‹a› .no .no .no .no .no) mm acc)[11]?=!(.dat (.int ((a:Int)+1+(x:Int)))):=by
      have:=cI (g:=f2 s fl ‹m› ‹w› (.own (l.map ∅)) ‹a› .no .no .no .no .no) (m:=mm) (acc:=acc) (i:=1) ⋯
      show this.trans h2
     simp! [U,K7,g4,g11,au 2 ⋯])
   have hsub:(l++sub.map λ(i:Nat)=>[(a:Int),(a:Int)+1+(i:Int)]).Sublist (pacc m (a+1)):=by rw[sZ];show h2.append (hs.map _)
   have es:sub.map (λ(i:Nat)=>D.tup [.int (a:Int),.int ((a:Int)+1+(i:Int))])=(sub.map λ(i:Nat)=>[(a:Int),(a:Int)+1+(i:Int)]).map λx=>~~~x:=by rw[List.map_map];rfl
   rw[es]at hq;have hl2:(sub.map λ(i:Nat)=>[(a:Int),(a:Int)+1+(i:Int)]).length<=6:=by rw[eC];show sK hs.length_le (by simp;lia)
   generalize hS:(sub.map λ(i:Nat)=>[(a:Int),(a:Int)+1+(i:Int)])=ss at hq hsub hl2
   have z:l.length+ss.length<=lim:=au _ ⋯;apply#[f2 s' fl ‹m› ‹w› (.own (l.map ∅)) ‹a› .no .no .no .no .no,f2 s2 fl ‹m› ‹w› (.own ((l++ss).map ∅)) ‹a› .no .no .no .no .no,rfl,?_,a+1,l++ss,s2,_,by lia,rfl,hsub,rfl]
   delta qX;delta f2 at hq ⊢
   simp! [U,hq,z]) (List.range' 0 m) (f2 s fl ‹m› ‹w› (.own []) .no .no .no .no .no .no) #[0,[],s,.no,by lia,rfl,B6 _,rfl]
 have hj:j=m:=by
  have:(List.range' j (m - j)).length=0:=by rw[<- h1];rfl
  rw[List.length_range']at this;lia
 subst hj;have hr:cR 0 j=(List.range' 0 j).map λ(x:Nat)=>D.int (x:Int):=by delta cR;rw[AR];show y6 λx _=>by rw[Int.zero_add]
 apply#[l,s',a4,h2,?_];generalize hb:(rn (n+98)).b [0] (k+5) (qX ti)=bb at h3;delta f2 at h3 ⊢
 simp! [U,Tg.ix,dj,aQ j ⋯,hr,hb,h3]
end
section
variable{bor:List Nat}{k n:Nat}{g g1:G}{rn:Nat->Rn}{fns:List Fx}{ti na mi tr:Nat}(U:jx fns rn)(hT:fns[ti]?=!bM)
include U hT
variable(hN:fns[na]?=!fW)(hM:fns[mi]?=!(jL ti))(hR:fns[tr]?=!(gZ ti na mi))
include hN hM hR
def XD(s:Int)(fl:Bool)(m:Nat)(hm:1<=m/\m<=6):∃(ah: ~~~5) (s':Int) (g':G),Wb m ah/\g'[0]?=!(St s' fl)/\(rn (n+99)).b [0] (k+5) (w2b ti tr) (f2 s fl ‹m› ‹4› (.own []) .no .no .no .no .no .no)=!(.rt (.dat (W m ah)),g'):=by
 let(ah,s1,ht,tl,q1):=oU U hT hN hM (g:=f2 s fl ‹m› ‹4› (.own []) .no .no .no .no .no .no) (i:=0) m hm rfl;have Dl:bL (rn (n+97)) (gZ ti na mi) (k+4) [.var 0,‹m›] [St s fl,‹m›,‹4›,.own [],.no,.no,.no,.no,.no,.no]=!(.dat (W m ah),[St s1 fl,‹m›,‹4›,.own [],.no,.no,.no,.no,.no,.no]):=q1;have e1:aG (rn (n+98)) [0] (k+5) (.set 6 (.call tr [⇑0,⇑1])) [St s fl,‹m›,‹4›,.own [],.no,.no,.no,.no,.no,.no]=!(.nx,[St s1 fl,‹m›,‹4›,.own [],.no,.no,.dat (W m ah),.no,.no,.no]):=by simp! [U,hR,Dl]
 let(r1,s2,a1,a2,q2):=cY U (n:=n+75) (k:=k+4) (g:=[St s1 fl,‹m›,‹4›,.own [],.no,.no,.dat (W m ah),.no,.no,.no]) (i:=0) (m:=(m:Int)) rfl ⋯;have Be:=q2;let(r2,s3,a3,a4,q3):=cY U (n:=n+75) (k:=k+4) (g:=[St s2 fl,‹m›,‹4›,.own [],.no,.no,.dat (W m ah),.no,.no,.no]) (i:=0) (m:=(m:Int)) rfl ⋯;have Rx:=q3;obtain⟨a,b,hab,he⟩:∃a b:Int,(0<=a/\a<=b/\b<m)/\bS [r1,r2]=[a,b]:=by
  rw[show bS [r1,r2]=if r1<=r2 then [r1,r2]else [r2,r1]by simp only[bS,ins]]
  split
  . show#[r1,r2,by lia,rfl]
  . show#[r2,r1,by lia,rfl]
 have bs:nF .sorted [.lst [.int r1,.int r2]]=!(.new [.int a,.int b]):=by rw[QL,he];rfl
 have st:Tg.set (.tp [4,5]) (.lst [.int a,.int b]) [St s3 fl,‹m›,‹4›,.own [],.no,.no,.dat (W m ah),.no,.no,.no]=![St s3 fl,‹m›,‹4›,.own [],‹a›,‹b›,.dat (W m ah),.no,.no,.no]:=rfl;have e2:aG (rn (n+98)) [0] (k+5) (.tgt (.tp [4,5]) (.blt .sorted [(.lst [(.call ti [⇑0,⇑1]),(.call ti [⇑0,⇑1])])])) [St s1 fl,‹m›,‹4›,.own [],.no,.no,.dat (W m ah),.no,.no,.no]=!(.nx,[St s3 fl,‹m›,‹4›,.own [],‹a›,‹b›,.dat (W m ah),.no,.no,.no]):=by simp! [U,hT,Be,Rx,bs,st,Tg.ix,au 2 ⋯]
 have i1:wM (W m ah) (.int 1)=!(.tup (ah.map ∅)):=rfl
 have w3:=xG (rn:=rn (n+98)) (bor:=[0]) (k:=k+5) (g:=[St s3 fl,‹m›,‹4›,.own [],‹a›,‹b›,.dat (W m ah),.no,.no,.no]) (g1:=[St s3 fl,‹m›,‹4›,.own [],‹a›,‹b›,.dat (W m ah),.no,.no,.no]) (kk:=2) (nn:=10) (j:=11) (it:=.ix ⇑6 ↥1) (c:=!(.cmp .NotEq ⇑11 (.tup [⇑4,⇑5]))) (e:=.slot 11) ah ∅ (λx=>(not (decide (x=[a,b])))) ∅ (by simp! [U,dj,i1]) rfl ⋯ ⋯ ⋯ (au _ ⋯)
  (λx _ G' hG=>by
   have h4:=hG.1 4 ⋯;have h5:=hG.1 5 ⋯;have cn:fH .NotEq (~~~x) (.tup [.int a,.int b])=!((not (decide (x=[a,b])))):=Kv x [a,b];simp! [U,mG,hG.2,h4,h5,cn,au 2 ⋯])
  (λx _ _ G' hG=>by simp! [U,hG.2])
 generalize hF:(ah.filter λx=>(not (decide (x=[a,b]))))=Gk at w3
 have e3:aG (rn (n+98)) [0] (k+5) (.setC 3 (.comp 10 2 (.nm 11) (.ix ⇑6 ↥1) (!(.cmp .NotEq ⇑11 (.tup [⇑4,⇑5]))) ⇑11)) [St s3 fl,‹m›,‹4›,.own [],‹a›,‹b›,.dat (W m ah),.no,.no,.no]=!(.nx,[St s3 fl,‹m›,‹4›,.own (Gk.map ∅),‹a›,‹b›,.dat (W m ah),.no,.no,.no]):=by simp only[aG,w3];simp
 have fs:Gk.Sublist ah:=by rw[<- hF];show List.filter_sublist
 have hfl:=fs.length_le;have z3:=eM (oI _) (au (Gk.length+1) ⋯);obtain⟨l,hl,e4⟩:∃l:List (~~~0),((∀x∈l,Pr m x)/\l.Nodup/\l.length<=15)/\aG (rn (n+98)) [0] (k+5) (.ite (.and [(.cmp .Lt ⇑4 ⇑5),(.cmp .Eq (.blt .len [⇑3]) (.blt .len [(.ix ⇑6 ↥1)]))]) [(.expr (.append 3 (.tup [⇑4,⇑5])))] []) [St s3 fl,‹m›,‹4›,.own (Gk.map ∅),‹a›,‹b›,.dat (W m ah),.no,.no,.no]=!(.nx,[St s3 fl,‹m›,‹4›,.own (l.map ∅),‹a›,‹b›,.dat (W m ah),.no,.no,.no]):=by
  by_cases h1:a<b
  .
   by_cases h2:Gk.length=ah.length
   .
    have h2':((Gk.length:Nat):Int)=ah.length:=by lia
    apply#[Gk++[[a,b]],#[λx hx=>?_,?_,by simp;lia],?_]
    .
     rcases mP.mp hx with hx |hx
     . show ht.tie x (fs.subset hx)
     . rw[i3]at hx;show#[a,b,hx,by lia,h1,by lia]
    .
     apply sB.mpr #[fs.nodup ht.nodup,by simp,λx hx y hy e=>?_]
     rw[i3]at hy;subst e hy;rw[<- hF]at hx;have:=(hV.mp hx).2;simp at this
    . rw[nS];simp! [U,h1,i1,h2',z3,au 2 ⋯];rfl
   .
    have h2' : ¬ ((Gk.length:Nat):Int)=ah.length:=by lia
    apply#[Gk,#[λx hx=>ht.tie x (fs.subset hx),fs.nodup ht.nodup,by lia],?_]
    simp! [U,h1,i1,h2']
  .
   apply#[Gk,#[λx hx=>ht.tie x (fs.subset hx),fs.nodup ht.nodup,by lia],?_]
   simp! [U,h1]
 have bs2:=jd l (λx hx e=>by let(a,b,e',_):=hl.1 x hx;rw[e']at e;cases e) ⋯
 have e5:aG (rn (n+98)) [0] (k+5) (.ret (.tup [⇑1,(.blt .tuple [(.blt .sorted [⇑3])])])) [St s3 fl,‹m›,‹4›,.own (l.map ∅),‹a›,‹b›,.dat (W m ah),.no,.no,.no]=!(.rt (.dat (W m (bK fj l))),[St s3 fl,‹m›,‹4›,.own (l.map ∅),‹a›,‹b›,.dat (W m ah),.no,.no,.no]):=by simp! [U,bs2];rfl
 have hp:=bX (O:=fj) l;apply#[bK fj l,s3,[St s3 fl,‹m›,‹4›,.own (l.map ∅),‹a›,‹b›,.dat (W m ah),.no,.no,.no],#[λx hx=>hl.1 x (hp.mem_iff.mp hx),fV hl.2.1,by rw[hp.length_eq];show hl.2.2],rfl,?_]
 delta w2b f2;rw[U.b,aF e1,aF e2,aF e3,aF e4];delta cD;rw[e5]
end
section
variable{bor:List Nat}{k n:Nat}{g g1:G}{rn:Nat->Rn}{fns:List Fx}{ti na mi tr:Nat}(U:jx fns rn)(hT:fns[ti]?=!bM)
include U hT
variable(hN:fns[na]?=!fW)(hM:fns[mi]?=!(jL ti))(hR:fns[tr]?=!(gZ ti na mi))
include hN hM hR
abbrev w2h(ti na mi tr:Nat):List Sm:=[(.set 7 (.bin .Add ↥1 (.call ti [⇑0,↥3]))),(.set 8 (.call tr [⇑0,⇑7])),w2c,(w2r na mi)]
abbrev sh(h:Nat)(x: ~~~0): ~~~0:=[(h:Int)+gt x 0,(h:Int)+gt x 1]
omit U hT hN hM hR in
def XF(h:Nat)(hx:Pr m x)(hy:Pr m y)(e:sh h x=sh h y):x=y:=by
 let(a,b,rfl,_):=hx;let(c,d,rfl,_):=hy;delta sh at e;rw[(bI a b).1,(bI a b).2,(bI c d).1,(bI c d).2]at e;simp only[List.cons.injEq,and_true]at e;let(e1,e2):=e;have:a=c:=by lia
 have:b=d:=by lia
 subst a b;rfl
def XH(s:Int)(fl:Bool)(m w:Int):∃(M:Nat) (ah: ~~~5) (s':Int) (g':G),(1<=M/\M<=6)/\Wb M ah/\g'[0]?=!(St s' fl)/\cD (rn (n+99)) [0] (k+5) (w2h ti na mi tr) (f2 s fl ‹m› ‹w› (.own []) .no .no .no .no .no .no)=!(.rt (.dat (W M ah)),g'):=by
 let(r,s1,a1,a2,q1):=cY U (n:=n+77) (k:=k+4) (g:=[St s fl,‹m›,‹w›,.own [],.no,.no,.no,.no,.no,.no]) (i:=0) (m:=3) rfl ⋯;have Dl:=q1;obtain⟨h,hr,h1,h2⟩:∃h:Nat,1+r=(h:Int)/\1<=h/\h<=3:=#[(1+r).toNat,by lia,by lia,by lia]
 have e1:aG (rn (n+99)) [0] (k+5) (.set 7 (.bin .Add ↥1 (.call ti [⇑0,↥3]))) [St s fl,‹m›,‹w›,.own [],.no,.no,.no,.no,.no,.no]=!(.nx,[St s1 fl,‹m›,‹w›,.own [],.no,.no,.no,‹h›,.no,.no]):=by simp! [U,hT,Dl,hr]
 let(ah,s2,ht,tl,q2):=oU U hT hN hM (n:=n+28) (k:=k+1) (g:=[St s1 fl,‹m›,‹w›,.own [],.no,.no,.no,‹h›,.no,.no]) (i:=0) h ⋯ rfl;have Be:=q2;have e2:aG (rn (n+99)) [0] (k+5) (.set 8 (.call tr [⇑0,⇑7])) [St s1 fl,‹m›,‹w›,.own [],.no,.no,.no,‹h›,.no,.no]=!(.nx,[St s2 fl,‹m›,‹w›,.own [],.no,.no,.no,‹h›,.dat (W h ah),.no]):=by simp! [U,hR,Be]
 have i1:wM (W h ah) (.int 1)=!(.tup (ah.map ∅)):=rfl
 have w3:=Kq (rn:=rn (n+99)) (bor:=[0]) (k:=k+5) (g:=[St s2 fl,‹m›,‹w›,.own [],.no,.no,.no,‹h›,.dat (W h ah),.no]) (g1:=[St s2 fl,‹m›,‹w›,.own [],.no,.no,.no,‹h›,.dat (W h ah),.no]) (kk:=3) (nn:=10) (j1:=11) (j2:=12) (it:=.ix ⇑8 ↥1) (e:=.tup [(.bin .Add ⇑7 ⇑11),(.bin .Add ⇑7 ⇑12)]) ah (λx=>.int (gt x 0)) (λx=>.int (gt x 1)) (λx=>~~~(sh h x)) (by simp! [U,dj,i1,<- ht.two]) rfl ⋯ ⋯ ⋯ ⋯ ⋯ ⋯ ⋯ (au _ ⋯) λx hx G' hG=>by
  have h7:=hG.1 7 ⋯;have h5:=hG.2.1;have h6:=hG.2.2;simp! [U,h7,h5,h6];rfl
 have e3:aG (rn (n+99)) [0] (k+5) w2c [St s2 fl,‹m›,‹w›,.own [],.no,.no,.no,‹h›,.dat (W h ah),.no]=!(.nx,[St s2 fl,‹m›,‹w›,.own [],.no,.no,.no,‹h›,.dat (W h ah),.own ((ah.map (sh h)).map ∅)]):=by delta w2c;simp only[aG,w3];simp
 obtain⟨M,hM2⟩:∃M:Nat,M=2 * h:=#[_,rfl];have e2h:(2:Int) * (h:Int)=(M:Int):=by lia
 have hp:∀x∈ah++ah.map (sh h),Pr M x:=λx hx=>by
  rcases mP.mp hx with hx |hx
  . let(a,b,e,h):=ht.tie x hx;show#[a,b,e,by lia,by lia,by lia]
  . let(y,hy,rfl):=fR.mp hx;let(a,b,rfl,hh):=ht.tie y hy;show#[(h:Int)+a,(h:Int)+b,rfl,by lia,by lia,by lia]
 have nd:(ah++ah.map (sh h)).Nodup:=by
  apply sB.mpr #[ht.nodup,mU ht.nodup λx hx y hy e=>XF h (ht.tie x hx) (ht.tie y hy) e,λx hx y hy e=>?_]
  let(z,hz,rfl):=fR.mp hy;let(a,b,e1,h1):=ht.tie x hx;let(c,d,e2,h2):=ht.tie z hz;subst e1 e2;delta sh at e;rw[(bI c d).2]at e;lia
 have hln:(ah++ah.map (sh h)).length=ah.length+ah.length:=by simp
 let(row,s3,uZ,q4):=Cp U hT (n:=n+47) (k:=k+3) (g:=[St s2 fl,‹m›,‹w›,.own [],.no,.no,.no,‹h›,.dat (W h ah),.own ((ah.map (sh h)).map ∅)]) (i:=0) M rfl ⋯
 have q4':=q4;have q5:=λn k=>xX U (n:=n) (k:=k) M ⋯ (ah++ah.map (sh h)) hp ⋯ row uZ
 rw[nS]at q5;have z:ah.length+ah.length<=lim:=au _ ⋯;have om:uG .Mult (.int 2) (.int h)=!‹M›:=by
  rw[<- e2h];have c:JV 2 (h:Int)=true:=by obtain rfl |rfl |rfl:h=1\/h=2\/h=3:=⋯ <;> decide
  simp only[uG,JW,c,C4]
 have oa:uG .Add (.tup (ah.map ∅)) (.tup ((ah.map (sh h)).map ∅))=!(.dat (.tup ((ah.map ∅)++(ah.map (sh h)).map ∅))):=by simp only[uG,Pa];rw[i5 (by simpa using z)]
 have e4:aG (rn (n+99)) [0] (k+5) (w2r na mi) [St s2 fl,‹m›,‹w›,.own [],.no,.no,.no,‹h›,.dat (W h ah),.own ((ah.map (sh h)).map ∅)]=!(.rt (.dat (W M (bK fj ((ah++ah.map (sh h)).map (tm row))))),[St s3 fl,‹m›,‹w›,.own [],.no,.no,.no,‹h›,.dat (W h ah),.own ((ah.map (sh h)).map ∅)]):=by delta w2r;simp! [U,au 2 ⋯,om,oa,i1,hM,q4',hN,bD (fx:=fW) rfl,q5]
 have aL:(bK fj ((ah++ah.map (sh h)).map (tm row))).length=ah.length+ah.length:=by rw[(bX _).length_eq,eC,hln]
 apply#[M,bK fj ((ah++ah.map (sh h)).map (tm row)),s3,[St s3 fl,‹m›,‹w›,.own [],.no,.no,.no,‹h›,.dat (W h ah),.own ((ah.map (sh h)).map ∅)],by lia,#[λx hx=>?_,fV (mU nd λx hx y hy e=>KR uZ (hp x hx) (hp y hy) e),by lia],rfl,?_]
 . let(y,hy,rfl):=fR.mp ((bX _).mem_iff.mp hx);show KQ uZ (hp y hy)
 . delta w2h f2;rw[aF e1,aF e2,aF e3];delta cD;rw[e4]
end
section
variable{bor:List Nat}{k n:Nat}{g g1:G}{rn:Nat->Rn}{fns:List Fx}{ti na mi tr:Nat}(U:jx fns rn)(hT:fns[ti]?=!bM)
include U hT
variable(hN:fns[na]?=!fW)(hM:fns[mi]?=!(jL ti))(hR:fns[tr]?=!(gZ ti na mi))
include hN hM hR
def QS(hi:g[i]?=!(St s fl)):∃(m:Nat) (ah: ~~~5) (s':Int),(1<=m/\m<=6)/\Wb m ah/\bL (rn (n+100)) (tE ti na mi tr) (k+5) [.var i] g=!(.dat (W m ah),g.set i (St s' fl)):=by
 let(r,s1,a1,a2,q1):=cY U (g:=f2 s fl .no .no .no .no .no .no .no .no .no) (i:=0) (m:=8) rfl ⋯;have Dl:bL (rn (n+97)) bM (k+4) [.var 0,‹8›] [St s fl,.no,.no,.no,.no,.no,.no,.no,.no,.no]=!(‹r›,[St s1 fl,.no,.no,.no,.no,.no,.no,.no,.no,.no]):=q1;let(v,hv,hr):=QD (l:=[D.int 6,.int 5,.int 4,.int 6,.int 3,.int 5,.int 2,.int 1]) (lo:=1) (hi:=6) #[a1,a2] rfl;obtain⟨m,rfl⟩:∃m:Nat,v=m:=#[v.toNat,by lia]
 have hm:1<=m/\m<=6:=by lia
 have e1:aG (rn (n+99)) [0] (k+5) (K6 ti) (f2 s fl .no .no .no .no .no .no .no .no .no)=!(.nx,f2 s1 fl ‹m› .no .no .no .no .no .no .no .no):=by delta K6 f2;simp! [U,hT,Dl,hr,au 8 ⋯]
 let(w,s2,w1,w2,q2):=cY U (g:=f2 s1 fl ‹m› .no .no .no .no .no .no .no .no) (i:=0) (m:=6) rfl ⋯;have Be:bL (rn (n+98)) bM (k+4) [.var 0,‹6›] [St s1 fl,‹m›,.no,.no,.no,.no,.no,.no,.no,.no]=!(‹w›,[St s2 fl,‹m›,.no,.no,.no,.no,.no,.no,.no,.no]):=q2;have e2:aG (rn (n+99)) [0] (k+5) (.set 2 (.call ti [⇑0,↥6])) (f2 s1 fl ‹m› .no .no .no .no .no .no .no .no)=!(.nx,f2 s2 fl ‹m› ‹w› .no .no .no .no .no .no .no):=by delta f2;simp! [U,hT,Be]
 have e3:aG (rn (n+99)) [0] (k+5) (.set 3 (.lst [])) (f2 s2 fl ‹m› ‹w› .no .no .no .no .no .no .no)=!(.nx,f2 s2 fl ‹m› ‹w› (.own []) .no .no .no .no .no .no):=by delta f2;simp! [U,au 0 ⋯]
 obtain⟨M,ah,s3,g',hM2,hw,g0,hq⟩:∃(M:Nat) (ah: ~~~5) (s':Int) (g':G),(1<=M/\M<=6)/\Wb M ah/\g'[0]?=!(St s' fl)/\cD (rn (n+99)) [0] (k+5) ((YM ti)::(FT tr)::(tD ti tr)::w2h ti na mi tr) (f2 s2 fl ‹m› ‹w› (.own []) .no .no .no .no .no .no)=!(.rt (.dat (W M ah)),g'):=by
  by_cases c1:w<3
  .
   let(l,s3,a4,hs,hq):=XC U hT s2 fl m hm w;apply#[m,l,s3,f2 s3 fl ‹m› ‹w› (.own (l.map ∅)) a4 .no .no .no .no .no,hm,Wb.QM hm hs,rfl,?_]
   have hb:(rn (n+99)).b [0] (k+5) [(.loop (.nm 4) (.cV ⇑1) (qX ti)),(.ret (.tup [⇑1,(.blt .tuple [⇑3])]))] (f2 s2 fl ‹m› ‹w› (.own []) .no .no .no .no .no .no)=!(.rt (.dat (W m l)),f2 s3 fl ‹m› ‹w› (.own (l.map ∅)) a4 .no .no .no .no .no):=by rw[U.b,aF hq];simp! [U,au 2 ⋯];rfl
   delta cD;have:aG (rn (n+99)) [0] (k+5) (YM ti) (f2 s2 fl ‹m› ‹w› (.own []) .no .no .no .no .no .no)=!(.rt (.dat (W m l)),f2 s3 fl ‹m› ‹w› (.own (l.map ∅)) a4 .no .no .no .no .no):=by
    delta YM;generalize ([(.loop (.nm 4) (.cV ⇑1) (qX ti)),(.ret (.tup [⇑1,(.blt .tuple [⇑3])]))]:List Sm)=bb at hb ⊢
    rw[U.b]at hb;delta f2 at hb ⊢
    simp! [U,c1,hb]
   rw[this]
  .
   have e4:aG (rn (n+99)) [0] (k+5) (YM ti) (f2 s2 fl ‹m› ‹w› (.own []) .no .no .no .no .no .no)=!(.nx,f2 s2 fl ‹m› ‹w› (.own []) .no .no .no .no .no .no):=by delta YM;delta f2;simp! [U,c1]
   rw[aF e4];by_cases c2:w=3
   .
    subst c2;let(ah,s3,ht,tl,q3):=oU U hT hN hM (g:=f2 s2 fl ‹m› ‹3› (.own []) .no .no .no .no .no .no) (i:=0) m hm rfl;have Rx:bL (rn (n+97)) (gZ ti na mi) (k+4) [.var 0,‹m›] [St s2 fl,‹m›,‹3›,.own [],.no,.no,.no,.no,.no,.no]=!(.dat (W m ah),[St s3 fl,‹m›,‹3›,.own [],.no,.no,.no,.no,.no,.no]):=q3;apply#[m,ah,s3,f2 s3 fl ‹m› ‹3› (.own []) .no .no .no .no .no .no,hm,ht,rfl,?_];have:aG (rn (n+99)) [0] (k+5) (FT tr) (f2 s2 fl ‹m› ‹3› (.own []) .no .no .no .no .no .no)=!(.rt (.dat (W m ah)),f2 s3 fl ‹m› ‹3› (.own []) .no .no .no .no .no .no):=by delta FT f2;simp! [U,hR,Rx]
    delta cD;rw[this]
   .
    have e5:aG (rn (n+99)) [0] (k+5) (FT tr) (f2 s2 fl ‹m› ‹w› (.own []) .no .no .no .no .no .no)=!(.nx,f2 s2 fl ‹m› ‹w› (.own []) .no .no .no .no .no .no):=by delta FT f2;simp! [U,c2]
    rw[aF e5];by_cases c3:w=4
    .
     subst c3;let(ah,s3,g',ht,hg,q3):=XD U hT hN hM hR (n:=n) (k:=k) s2 fl m hm;apply#[m,ah,s3,g',hm,ht,hg,?_];have:aG (rn (n+99)) [0] (k+5) (tD ti tr) (f2 s2 fl ‹m› ‹4› (.own []) .no .no .no .no .no .no)=!(.rt (.dat (W m ah)),g'):=by
      delta tD;rw[U.b]at q3;delta f2 at q3 ⊢
      simp! [U,q3]
     delta cD;rw[this]
    .
     have e6:aG (rn (n+99)) [0] (k+5) (tD ti tr) (f2 s2 fl ‹m› ‹w› (.own []) .no .no .no .no .no .no)=!(.nx,f2 s2 fl ‹m› ‹w› (.own []) .no .no .no .no .no .no):=by delta tD;delta f2;simp! [U,c3]
     rw[aF e6];show XH U hT hN hM hR s2 fl m w
 apply#[M,ah,s3,hM2,hw,?_];have hpd:dD (tE ti na mi tr).n [St s fl]=f2 s fl .no .no .no .no .no .no .no .no .no:=rfl;have body:(rn (n+100)).b [0] (k+5) (tE ti na mi tr).body (f2 s fl .no .no .no .no .no .no .no .no .no)=!(.rt (.dat (W M ah)),g'):=by delta tE;rw[U.b,aF e1,aF e2,aF e3];show hq
 delta bL;simp only[vars,cL,hi,List.map_cons,List.map_nil];rw[i5 #[rfl,by simp],hpd,body]
 simp only[back,g0,cS]
end
section
def tF{α β:Type}(bH:α->D)(ys:α->List β)(cJ:β->D)(p:α->β->Bool)(f:α->β->D)(hn:nn=g.length)(dQ:last=g.length+kk)(h11:g.length<=j1)(h12:j1<g.length+kk)(h21:g.length<=j2)(h22:j2<g.length+kk)(lI:j1≠j2) :
  ∀(xs:List α) (m:G) (acc:List D),m.length=kk->acc.length+(xs.flatMap ys).length<=lim->
  (∀a∈xs,∀G',xF g j1 (bH a) G'->dj rn bor k false it G'=!((ys a).map cJ,G'))->
  (∀a∈xs,∀b∈ys a,∀G',lE g j1 j2 (bH a) (cJ b) G'->mG rn bor k c G'=!(p a b,G'))->
  (∀a∈xs,∀b∈ys a,p a b=true->∀G',lE g j1 j2 (bH a) (cJ b) G'->gR rn bor k e G'=!(f a b,G'))->
  ∃m',m'.length=kk/\wN rn bor k (.nm j1) none (.nm j2) it c e last (xs.map bH) (gM g m acc)=!(gM g m' (acc++xs.flatMap λa=>((ys a).filter (p a)).map (f a)))
 | [],m,acc,hm,_,_,_,_=>#[m,hm,by simp[wN]]
 |a::xs,m,acc,hm,hl,hw,hi,he=>by
  rw[List.flatMap_cons,fI]at hl;have q1:(Tg.nm j1).set (bH a) (gM g m acc)=!(gM g (m.set (j1 - g.length) (.dat (bH a))) acc):=qP (kk:=kk) h11 ⋯;have hm1:(m.set (j1 - g.length) (.dat (bH a))).length=kk:=by simpa using hm
  have sees:∀(m:G) (acc:List D),m.length=kk->m[j1 - g.length]?=!(.dat (bH a))->xF g j1 (bH a) (gM g m acc):=λm acc hm hg=>by
   apply#[λi hi=>jw hi,?_]
   have:=cI (g:=g) (m:=m) (acc:=acc) (i:=j1 - g.length) ⋯;rw[show g.length+(j1 - g.length)=j1 by lia]at this
   rw[this,hg]
  have sC:(m.set (j1 - g.length) (.dat (bH a)))[j1 - g.length]?=!(.dat (bH a)):=by rw[eQ ⋯]
  have q2:=hw a dA _ (sees _ acc hm1 sC);have Sl:∀(b:β) (m:G) (acc:List D),(m.length=kk/\m[j1 - g.length]?=!(.dat (bH a)))->lE g j1 j2 (bH a) (cJ b) (gM g (m.set (j2 - g.length) (.dat (cJ b))) acc):=λb m acc hm=>by
   let(s1,s2):=sees (m.set (j2 - g.length) (.dat (cJ b))) acc (by simpa using hm.1) (by rw[eJ ⋯];show hm.2)
   apply#[s1,s2,?_];have:=cI (g:=g) (m:=m.set (j2 - g.length) (.dat (cJ b))) (acc:=acc) (i:=j2 - g.length) (by rw[u4];lia)
   rw[show g.length+(j2 - g.length)=j2 by lia]at this
   rw[this,eQ (by rw[hm.1];lia)]
  let(m2,w1,w2):=lD cJ (f a) (p a) (λb m=>m.set (j2 - g.length) (.dat (cJ b))) (λm=>m.length=kk/\m[j1 - g.length]?=!(.dat (bH a))) (λ_ h=>h.1) dQ (λb m h=>#[by simpa using h.1,by rw[eJ ⋯];show h.2]) (ys a) (m.set (j1 - g.length) (.dat (bH a))) acc #[hm1,sC] ⋯
   (λb _ m acc h=>qP (kk:=kk) h21 (by have:=h.1;lia)) (λb hb m acc h=>hi a dA b hb _ (Sl b m acc h)) λb hb hp m acc h=>he a dA b hb hp _ (Sl b m acc h)
  have hf:=AM (p a) (ys a);let(m3,v1,v2):=tF bH ys cJ p f hn dQ h11 h12 h21 h22 lI xs m2 (acc++((ys a).filter (p a)).map (f a)) w1.1 (by rw[fI,eC];lia) (λx hx=>hw x (bP _ hx)) (λx hx=>hi x (bP _ hx)) (λx hx=>he x (bP _ hx))
  apply#[m3,v1,?_];rw[List.map_cons];delta wN;rw[q1];dsimp only[mG,Tg.jW];rw[q2];dsimp only;rw[w2];dsimp only;rw[v2,List.flatMap_cons,AG]
def QT{α β:Type}(xs:List α)(bH:α->D)(ys:α->List β)(cJ:β->D)(p:α->β->Bool)(f:α->β->D)(hw1:dj rn bor k false ju g=!(xs.map bH,g1))(hn:nn=g1.length)(h11:g1.length<=j1)(h12:j1<g1.length+kk)(h21:g1.length<=j2)(h22:j2<g1.length+kk)(lI:j1≠j2)(hb1:j1∉bor)(hb2:j2∉bor)(hl:(xs.flatMap ys).length<=lim)
  (hw:∀a∈xs,∀G',xF g1 j1 (bH a) G'->dj rn bor k false it G'=!((ys a).map cJ,G'))
  (hi:∀a∈xs,∀b∈ys a,∀G',lE g1 j1 j2 (bH a) (cJ b) G'->mG rn bor k c G'=!(p a b,G'))
  (he:∀a∈xs,∀b∈ys a,p a b=true->∀G',lE g1 j1 j2 (bH a) (cJ b) G'->gR rn bor k e G'=!(f a b,G')) :
  mH rn bor k nn kk (.nm j1) ju none (.nm j2) it c e g=!(xs.flatMap λa=>((ys a).filter (p a)).map (f a),g1):=by
 subst hn;let(m',w1,w2):=tF bH ys cJ p f rfl rfl h11 h12 h21 h22 lI xs (List.replicate kk .no) [] ⋯ (by simpa using hl) hw hi he
 delta mH;rw[show Tg.jW (.nm j1)=false from rfl,hw1]
 dsimp only;rw[i5 #[rfl,by simp[Tg.ix,hb1,hb2]],Kp,w2]
 dsimp only;have:∀acc,(gM g1 m' acc)[g1.length+kk]?=!(.own acc):=λacc=>by rw[<- w1];show lC
 rw[this];rw[uS,A8]
end
def rO(F:Nat->~~~0)(a:Nat)(v: ~~~0):((List.range m).map λi=>(F i).map D.int).set a (v.map .int)=(List.range m).map λi=>(if i=a then v else F i).map D.int:=by
 apply List.ext_getElem ⋯ λi h1 h2=>?_
 rw[List.getElem_set];simp only[List.getElem_map,List.getElem_range];by_cases h:a=i
 . subst h;simp
 . rw[kA h,kA λe=>h e.symm]
def xY:∀(ah: ~~~5) (F:Nat->~~~0) (c:Nat),(∀x∈ah,Pr m x)->(∀i,(F i).length<=c)->c+ah.length<=900->
  iQ (ah.map ∅) ((List.range m).map λi=>(F i).map D.int)=!((List.range m).map λi=>(F i++nb (i:Int) ah).map D.int)
 | [],F,c,_,_,_=>by simp[iQ,nb]
 |x::ah,F,c,hx,hF,hc=>by
  let(a,b,rfl,h1,h2,h3):=hx x dA;obtain⟨a,rfl⟩:∃n:Nat,a=n:=#[a.toNat,by lia]
  obtain⟨b,rfl⟩:∃n:Nat,b=n:=#[b.toNat,by lia]
  rw[lL]at hc;have ga:((List.range m).map λi=>(F i).map D.int)[a]?=!((F a).map D.int):=by rw[nE,CS ⋯];rfl
  have la:((F a).map D.int).length<1000:=by rw[eC];have:=hF a;lia
  have e1:(F a).map D.int++[.int b]=(F a++[(b:Int)]).map D.int:=by rw[nS];rfl
  have gb:((List.range m).map λi=>(if i=a then F a++[(b:Int)]else F i).map D.int)[b]?=!((F b).map D.int):=by rw[nE,CS ⋯];simp only[BO];rw[kA ⋯]
  have lb:((F b).map D.int).length<1000:=by rw[eC];have:=hF b;lia
  have e2:(F b).map D.int++[.int a]=(F b++[(a:Int)]).map D.int:=by rw[nS];rfl
  have q:wC ((List.range m).map λi=>(F i).map D.int) (.tup [.int a,.int b])=!((List.range m).map λi=>(if i=b then F b++[(a:Int)]else if i=a then F a++[(b:Int)]else F i).map D.int):=by
   delta wC;dsimp only;rw[i5 (show (0:Int)<=a/\(0:Int)<=b by lia)]
   simp only[AU,ga,la,C4,e1,rO,gb,lb,e2]
  have ih:=xY ah (λi=>if i=b then F b++[(a:Int)]else if i=a then F a++[(b:Int)]else F i) (c+1) (λx hx'=>hx x (bP _ hx')) (λi=>by
   have:=hF a;have:=hF b;have:=hF i;split
   . simp;lia
   .
    split
    . simp;lia
    .
     lia) ⋯
  have e3:List.map ∅ ([(a:Int),(b:Int)]::ah)=.tup [.int a,.int b]::ah.map λx=>~~~x:=rfl
  rw[e3];delta iQ;rw[q];dsimp only;rw[ih]
  congr 1
  apply y6 λi hi=>?_
  congr 1
  delta nb;rw[v6];delta Fe;rw[(bI (a:Int) b).1,(bI (a:Int) b).2];by_cases q1:i=a
  . subst q1;rw[kA ⋯];simp
  .
   by_cases q2:i=b
   . subst q2;rw[i5 rfl,kA ⋯];simp
   . rw[kA q2,kA q1,kA ⋯,kA ⋯]
abbrev jj:Fx:=#[2,5,[(.rows 0 1 2 3 4)]]
abbrev Rw(m:Nat)(ah: ~~~5):D:=.lst ((List.range m).map λ(i:Nat)=>.lst ((nb (i:Int) ah).map .int))
section
variable{ro fi:Nat}(U:jx fns rn)
include U
def Cq(m:Nat)(hm:m<=6)(ah: ~~~5)(h:Wb m ah):cW (rn (n+5)) k jj [.int m,.tup (ah.map ∅)]=!(.dat (Rw m ah)):=by
 have q:=xY ah (λ_=>[]) 0 h.tie (λ_=>eA 0) (by have:=h.len;lia)
 have e:(List.range m).map (λi=>List.map D.int ((λ_=>[]) i: ~~~0))=List.replicate m []:=by rw[List.eq_replicate_iff];simp
 rw[e]at q;have h0:(0:Int)<=m/\(m:Int)<=1000:=by lia
 delta cW jj;simp! [U,q,h0];delta Rw;simp
omit U in
def XJ(x:Int)(l: ~~~0):fH .In (.int x) (.lst (l.map .int))=!(decide (x∈l)):=by
 have h:rH (.int x) (l.map .int)=true:=by simp[rH,kD,eX,eY]
 simp only[fH,iu,h,C4]
 congr 1
 rw[BQ];simp[eu]
omit U in
def FW(x:Int)(l: ~~~0):fH .NotIn (.int x) (~~~l)=!((not (decide (x∈l)))):=by
 have h:rH (.int x) (l.map .int)=true:=by simp[rH,kD,eX,eY]
 simp only[fH,iu,h,C4]
 congr 2
 rw[BQ];simp[eu]
variable(hR:fns[ro]?=!jj)
include hR
end
abbrev jM:Fx:=#[2,2,[(.ret (.comp 2 3 (.tp [3,4]) (.ix ⇑0 ↥1) (!(.cmp .In ⇑1 (.tup [⇑3,⇑4]))) (.bin .Sub (.bin .Add ⇑3 ⇑4) ⇑1)))]]
abbrev cn(m:Nat)(ah: ~~~5): ~~~0:=(List.range m).map λ(i:Nat)=>((nb (i:Int) ah).length:Int)
def XM(i a b:Int):fH .In (.int i) (.tup [.int a,.int b])=!(decide (a=i)||decide (b=i)):=by
 have h:rH (.int i) [.int a,.int b]=true:=by have:=eX [a,b];have:=eY [a,b];simp_all [rH,kD]
 simp only[fH,iu,h,C4]
 congr 1
 rw[BQ];simp[eu]
section
variable{k n:Nat}{g g1:G}{rn:Nat->Rn}{fns:List Fx}{w wi it ri iw ci mw ro ne:Nat}(U:jx fns rn)
include U
def Cr(m:Nat)(ah: ~~~5)(h:Wb m ah)(i:Int):cW (rn (n+20)) k jM [W m ah,.int i]=!(.new ((ah.filter (has i)).map λx=>.int (gt x 0+gt x 1 - i))):=by
 have htl:=h.len;have i1:wM (W m ah) (.int 1)=!(.tup (ah.map ∅)):=rfl
 have w:=λn k=>fC (rn:=rn (n+12)) (bor:=[]) (k:=k) (g:=[.dat (W m ah),‹i›]) (g1:=[.dat (W m ah),‹i›]) (kk:=3) (nn:=2) (j1:=3) (j2:=4) (it:=.ix ⇑0 ↥1) (c:=!(.cmp .In ⇑1 (.tup [⇑3,⇑4]))) (e:=.bin .Sub (.bin .Add ⇑3 ⇑4) ⇑1) ah (λx=>.int (gt x 0)) (λx=>.int (gt x 1)) (has i) (λx=>.int (gt x 0+gt x 1 - i)) (by simp! [U,dj,i1,<- h.two]) rfl ⋯ ⋯ ⋯ ⋯ ⋯ ⋯ ⋯ (au _ ⋯)
  (λx _ G' hG=>by
   have h1:G'[1]?=!‹i›:=hG.1 1 ⋯;simp! [U,mG,h1,hG.2.1,hG.2.2,XM,au 2 ⋯];rfl)
  (λx _ _ G' hG=>by
   have h1:G'[1]?=!‹i›:=hG.1 1 ⋯;simp! [U,h1,hG.2.1,hG.2.2])
 delta cW jM;simp! [U,w]
variable(hW:fns[w]?=!cK)(hWi:fns[wi]?=!(bT w))(hIT:fns[it]?=!(fU wi))(hRI:fns[ri]?=!rL)(rM:fns[iw]?=!(cZ wi it ri))
include hW hWi hIT hRI rM
end
abbrev fX:Fx:=#[2,5,[(.set 2 (.lst [])),(.set 3 (.lst [])),(.set 4 (.lst [⇑1])),(.while ⇑4 [(.expr (.append 2 ⇑4)),(.aug 3 .Add ⇑4),(.set 4 (.sO 5 3 (.nm 6) ⇑4 none (.nm 7) (.ix ⇑0 ⇑6) (!(.cmp .NotIn ⇑7 ⇑3)) ⇑7))]),(.ret ⇑2)]]
def K9{c:G->Option (Bool×G)}{b:G->Option (Fl×G)}(I:Nat->G->Prop)(J:G->Prop)(step:∀m g,I m g->(∃g',c g=!(false,g')/\J g')\/∃m' g1 g2,m'<m/\c g=!(true,g1)/\b g1=!(.nx,g2)/\I m' g2):∀N m g,m<N->I m g->∃g',J g'/\LQ c b N g=!(.nx,g')
 | 0,m,g,hN,_=>absurd hN (qS m)
 |N+1,m,g,hN,h=>by
  delta LQ;rcases step m g h with ⟨g',q1,q2⟩ |⟨m',g1,g2,q0,q1,q2,q3⟩
  . show#[g',q2,by rw[q1]]
  . let(g',w1,w2):=K9 I J step N m' g2 ⋯ q3;show#[g',w1,by rw[q1];dsimp only;rw[q2];show w2]
def tG(x:Int)(l: ~~~0):fH .NotIn (.int x) (.lst (l.map .int))=!((not (decide (x∈l)))):=by have:=FW x l;show this
def Rw_ix{m:Nat}{ah: ~~~5}{p:Int}(h:0<=p/\p<m):wM (Rw m ah) (.int p)=!(.lst ((nb p ah).map .int)):=by
 obtain⟨p,rfl⟩:∃n:Nat,p=n:=#[p.toNat,by lia]
 exact L2.gJ _ _=_;rw[gW _ _ (by simp;lia)]
 simp
section
variable{k n:Nat}{rn:Nat->Rn}{fns:List Fx}(U:jx fns rn)
include U
def Af(m:Nat)(hm:m<=8)(d0:D)(a1 a2 a4 a5 a6 a8:Slot)(done: ~~~0):∀(l ks: ~~~0) (a7:Slot),(∀x∈l,0<=x/\x<m)->∃b7:Slot,V7 (rn (n+10)) [] k (.nm 7) (!(.cmp .NotIn ⇑7 ⇑3)) ⇑7 (l.map .int) ks [.dat d0,a1,a2,.own (done.map .int),a4,a5,a6,a7,a8]=!((l.filter λo=>(not (decide (o∈done)))).foldl Sb.oneMore ks,[.dat d0,a1,a2,.own (done.map .int),a4,a5,a6,b7,a8])
 | [],ks,a7,_=>#[a7,rfl]
 |x::l,ks,a7,hl=>by
  have st:(Tg.nm 7).set (.int x) [.dat d0,a1,a2,.own (done.map .int),a4,a5,a6,a7,a8]=![.dat d0,a1,a2,.own (done.map .int),a4,a5,a6,‹x›,a8]:=rfl;have hc:mG (rn (n+10)) [] k (!(.cmp .NotIn ⇑7 ⇑3)) [.dat d0,a1,a2,.own (done.map .int),a4,a5,a6,‹x›,a8]=!((not (decide (x∈done))),[.dat d0,a1,a2,.own (done.map .int),a4,a5,a6,‹x›,a8]):=by simp! [U,mG,tG]
  have he:gR (rn (n+10)) [] k ⇑7 [.dat d0,a1,a2,.own (done.map .int),a4,a5,a6,‹x›,a8]=!(.int x,[.dat d0,a1,a2,.own (done.map .int),a4,a5,a6,‹x›,a8]):=by simp! [U,U.e]
  have hx':=hl x dA;rw[List.map_cons];delta V7;rw[st];dsimp only;rw[hc];by_cases hx:x∈done
  .
   let(b7,w):=Af m hm d0 a1 a2 a4 a5 a6 a8 done l ks ‹x› λy hy=>hl y (bP _ hy)
   apply#[b7,?_];rw[List.filter_cons_of_neg (by simp[hx]),oC hx]
   show w
  .
   let(b7,w):=Af m hm d0 a1 a2 a4 a5 a6 a8 done l (Sb.oneMore ks x) ‹x› λy hy=>hl y (bP _ hy)
   apply#[b7,?_];rw[List.filter_cons_of_pos (by simp[hx]),tJ hx]
   simp only[Bool.not_false];rw[he];dsimp only;rw[i5 ⋯];show w
def Cv(m:Nat)(hm:m<=8)(ah: ~~~5)(hN:Nb m λi=>nb i ah)(a1 a2 a4 a5 a8:Slot)(done: ~~~0):∀(l ks: ~~~0) (a6 a7:Slot),(∀p∈l,0<=p/\p<m)->∃b6 b7:Slot,wO (rn (n+10)) [] k (.nm 6) none (.nm 7) (.ix ⇑0 ⇑6) (!(.cmp .NotIn ⇑7 ⇑3)) ⇑7 (l.map .int) ks [.dat (Rw m ah),a1,a2,.own (done.map .int),a4,a5,a6,a7,a8]=!(((l.flatMap λi=>nb i ah).filter λo=>(not (decide (o∈done)))).foldl Sb.oneMore ks,[.dat (Rw m ah),a1,a2,.own (done.map .int),a4,a5,b6,b7,a8])
 | [],ks,a6,a7,_=>#[a6,a7,rfl]
 |p::l,ks,a6,a7,hp=>by
  have st:(Tg.nm 6).set (.int p) [.dat (Rw m ah),a1,a2,.own (done.map .int),a4,a5,a6,a7,a8]=![.dat (Rw m ah),a1,a2,.own (done.map .int),a4,a5,‹p›,a7,a8]:=rfl;have ix:=Rw_ix (ah:=ah) (hp p dA);have hw:dj (rn (n+10)) [] k false (.ix ⇑0 ⇑6) [.dat (Rw m ah),a1,a2,.own (done.map .int),a4,a5,‹p›,a7,a8]=!((nb p ah).map .int,[.dat (Rw m ah),a1,a2,.own (done.map .int),a4,a5,‹p›,a7,a8]):=by simp! [U,dj,ix]
  let(c7,v):=Af U m hm (Rw m ah) a1 a2 a4 a5 ‹p› a8 done (nb p ah) ks a7 λx hx=>hN.nO p x hx
  let(b6,b7,w):=Cv m hm ah hN a1 a2 a4 a5 a8 done l _ ‹p› c7 λq hq=>hp q (bP _ hq)
  apply#[b6,b7,?_];rw[List.map_cons];delta wO;rw[st];dsimp only[mG,Tg.jW];rw[hw];dsimp only;rw[v];dsimp only;rw[w,List.flatMap_cons,List.filter_append,List.foldl_append]
def xZ(m:Nat)(hm:m<=6)(ah: ~~~5)(h:Wb m ah)(s:Int)(hs:0<=s/\s<m):∃rs:List (~~~0),cW (rn (n+20)) k fX [Rw m ah,.int s]=!(.new (rs.map λr=>.lst (r.map .int)))/\rs.length<=6/\Rk (λi=>nb i ah) s rs.flatten/\rs.flatten.length<=6/\rs.length=rc (λi=>nb i ah) m s:=by
 have hN:=nM h;let(g',(rs,a4,h1,h2,h3,(h5,h6),rfl),w):=K9 (c:=(rn (n+19)).t [] k ⇑4) (b:=(rn (n+19)).b [] k [(.expr (.append 2 ⇑4)),(.aug 3 .Add ⇑4),(.set 4 (.sO 5 3 (.nm 6) ⇑4 none (.nm 7) (.ix ⇑0 ⇑6) (!(.cmp .NotIn ⇑7 ⇑3)) ⇑7))])
  (I:=λq g=>∃(rs: ~~~5) (ring: ~~~0),q+rs.flatten.length=m/\rs.length<=rs.flatten.length/\Bf m (λi=>nb i ah) s rs.flatten ring/\((rs.flatten,ring)=rgs (λi=>nb i ah) s rs.length/\∀i,i<rs.length->(rgs (λi=>nb i ah) s i).2≠[])/\g=[.dat (Rw m ah),‹s›,.own (rs.map λr=>.lst (r.map .int)),.own (rs.flatten.map .int),.own (ring.map .int)])
  (J:=λg=>∃(rs: ~~~5) (a4:Slot),rs.length<=rs.flatten.length/\Bf m (λi=>nb i ah) s rs.flatten []/\rs.flatten.length<=m/\((rs.flatten,[])=rgs (λi=>nb i ah) s rs.length/\∀i,i<rs.length->(rgs (λi=>nb i ah) s i).2≠[])/\g=[.dat (Rw m ah),‹s›,.own (rs.map λr=>.lst (r.map .int)),.own (rs.flatten.map .int),a4])
  (step:=λq g hI=>by
   let(rs,ring,h1,h2,h3,(h5,h6),rfl):=hI;have aL:=h3.len;cases hr:ring with
   |nil=>
    subst hr;apply .inl #[[.dat (Rw m ah),‹s›,.own (rs.map λr=>.lst (r.map .int)),.own (rs.flatten.map .int),.own []],?_,rs,_,h2,h3,by lia,#[h5,h6],rfl]
    rw[U.t];simp only[stepT,U.e,bh,norm,pk,Ih];rfl
   |cons x rg=>
    have hx:ring≠[]:=by rw[hr];show List.cons_ne_nil _ _
    have oq:=C5.mpr hx;have hfl:(rs++[ring]).flatten=rs.flatten++ring:=by simp
    have nx:=h3.next hN;let(b6,b7,sp):=Cv U m ⋯ ah hN ‹s› (.own ((rs++[ring]).map λr=>.lst (r.map .int))) (.dat (.lst (ring.map .int))) .no .no (rs.flatten++ring) ring [] .no .no (λp hp=>h3.gr.nO p (eP _ hp))
    have sp':qA (rn (n+17)) [] k 5 3 (.nm 6) ⇑4 none (.nm 7) (.ix ⇑0 ⇑6) (!(.cmp .NotIn ⇑7 ⇑3)) ⇑7 [.dat (Rw m ah),‹s›,.own ((rs++[ring]).map λr=>.lst (r.map .int)),.own ((rs.flatten++ring).map .int),.dat (.lst (ring.map .int))]=!(KZ (λi=>nb i ah) ring (rs.flatten++ring),[.dat (Rw m ah),‹s›,.own ((rs++[ring]).map λr=>.lst (r.map .int)),.own ((rs.flatten++ring).map .int),.dat (.lst (ring.map .int))]):=by
     have hw:dj (rn (n+17)) [] k false ⇑4 [.dat (Rw m ah),‹s›,.own ((rs++[ring]).map λr=>.lst (r.map .int)),.own ((rs.flatten++ring).map .int),.dat (.lst (ring.map .int))]=!(ring.map .int,[.dat (Rw m ah),‹s›,.own ((rs++[ring]).map λr=>.lst (r.map .int)),.own ((rs.flatten++ring).map .int),.dat (.lst (ring.map .int))]):=by simp! [U,dj]
     delta qA;dsimp only[Tg.jW];rw[hw];dsimp only;have rF:wO (rn (n+17)) [] k (.nm 6) none (.nm 7) (.ix ⇑0 ⇑6) (!(.cmp .NotIn ⇑7 ⇑3)) ⇑7 (ring.map .int) [] (gD 3 [.dat (Rw m ah),‹s›,.own ((rs++[ring]).map λr=>.lst (r.map .int)),.own ((rs.flatten++ring).map .int),.dat (.lst (ring.map .int))])=_:=sp
     rw[rF];rfl
    apply .inr #[m - (rs.flatten.length+ring.length),[.dat (Rw m ah),‹s›,.own (rs.map λr=>.lst (r.map .int)),.own (rs.flatten.map .int),.own (ring.map .int)],[.dat (Rw m ah),‹s›,.own ((rs++[ring]).map λr=>.lst (r.map .int)),.own ((rs++[ring]).flatten.map .int),.own ((KZ (λi=>nb i ah) ring (rs.flatten++ring)).map .int)],by lia,?_,?_,rs++[ring],KZ (λi=>nb i ah) ring (rs.flatten++ring),by rw[hfl,fI];lia,by rw[hfl,fI,fI,An];lia,by rw[hfl];show nx,#[by
      rw[hfl,fI];exact _=((rgs (λi=>nb i ah) s rs.length).1++(rgs (λi=>nb i ah) s rs.length).2,KZ _ (rgs (λi=>nb i ah) s rs.length).2 ((rgs (λi=>nb i ah) s rs.length).1++(rgs (λi=>nb i ah) s rs.length).2))
      rw[<- h5],λi hi=>by
      rw[fI,An]at hi;by_cases e:i=rs.length
      . rw[e,<- h5];show hx
      .
       show h6 i ⋯],rfl]
    . rw[hr,U.t];simp only[stepT,U.e];rfl
    .
     have z1:=eM (oI _) (au (rs.length+1) ⋯);have z2:rs.flatten.length+ring.length<=lim:=au _ ⋯;rw[hfl];have e2:((rs++[ring]).map λr=>D.lst (r.map .int))=(rs.map λr=>.lst (r.map .int))++[.lst (ring.map .int)]:=by rw[nS];rfl
     rw[e2]at sp';rw[e2];rw[nS]at sp';generalize rs.flatten=dn at z2 sp' ⊢
     simp! [U,z1,z2,sp']) 100000 (m:Nat) [.dat (Rw m ah),‹s›,.own [],.own [],.own [.int s]] ⋯ #[[],[s],by simp,by simp,Bf.one hN hs,#[rfl,λi hi=>absurd hi (qS i)],rfl]
 apply#[rs,?_,by lia,h2.fin,by lia,(Sj h6 (by rw[<- h5]) ⋯).symm]
 delta cW fX;simp! [U,au 1 ⋯,w]
end
abbrev bad1:List D:=[.non,.int 0,.tup [],.tup [.int 7,.tup []],.tup [.int 0,.tup []],.tup [.int (-1),.tup []],.tup [.bl true,.tup []],.tup [.int 2,.lst []],.lst [.int 2,.tup []],.tup [.int 2,.tup [.tup [.int 1,.int 0]]],.tup [.int 2,.tup [.tup [.int 0,.int 0]]],.emp []]
abbrev bad2:List D:=[.tup [.int 2,.tup [.tup [.int 0,.int 1],.tup [.int 0,.int 1]]],.tup [.int 3,.tup [.tup [.int 0,.int 2],.tup [.int 0,.int 1]]],.tup [.int 2,.tup [.tup [.int 0,.int 2]]],.tup [.int 2,.tup [.tup [.int 0,.bl true]]],.tup [.int 2,.tup [.tup [.int 0,.int 1,.int 1]]]]
abbrev led(m:Nat)(ah: ~~~5)(m':Nat)(ties': ~~~5): ~~~5:=(turnsOf m).filter λt=>decide (m=m'/\tw t ah=ties')
abbrev La(g:G)(kk j:Nat)(d:D)(G':G):Prop:=xF g j d G'/\G'.length=g.length+kk+1
def XQ{α:Type}(ao:List α)(cP:α->D)(p:α->Bool)(f:α->D)(hw:dj rn bor k false it g=!(ao.map cP,g1))(hn:nn=g1.length)(hj1:g1.length<=j)(hj2:j<g1.length+kk)(hb:j∉bor)(hl:ao.length<=lim)
  (hi:∀a∈ao,∀G',La g1 kk j (cP a) G'->mG rn bor k c G'=!(p a,G')) (he:∀a∈ao,p a=true->∀G',La g1 kk j (cP a) G'->gR rn bor k e G'=!(f a,G')) :
  fM rn bor k nn kk (.nm j) it c e g=!((ao.filter p).map f,g1):=by
 have sees:∀(a:α) (m:G) (acc:List D),m.length=kk->La g1 kk j (cP a) (gM g1 (m.set (j - g1.length) (.dat (cP a))) acc):=λa m acc hm=>by
  apply#[#[λi hi=>jw hi,?_],?_]
  .
   have:=cI (g:=g1) (m:=m.set (j - g1.length) (.dat (cP a))) (acc:=acc) (i:=j - g1.length) (by simp;lia)
   rw[show g1.length+(j - g1.length)=j by lia]at this
   rw[this,eQ ⋯]
  . delta gM;simp[hm];lia
 apply mR ao cP f p (λa m=>m.set (j - g1.length) (.dat (cP a))) hw hn (by simp[Tg.ix,hb]) hl (λd m hm=>by simpa using hm) (λa _ m acc hm=>qP (kk:=kk) hj1 ⋯) (λa ha m acc hm=>hi a ha _ (sees a m acc hm)) λa ha hp m acc hm=>he a ha hp _ (sees a m acc hm)
abbrev gX(ro rg:Nat):Fx:=#[1,5,[(.tgt (.tp [1,2]) ⇑0),(.set 3 (.call ro [⇑1,⇑2])),(.setC 4 (.comp 5 2 (.nm 6) (.cV ⇑1) none (.blt .sorted [(.fC 8 3 (.nm 9) (.call rg [⇑3,⇑6]) none (.nm 10) ⇑9 none ⇑10)]))),(.ret (.comp 5 3 (.tp [6,7]) (.enum ⇑4) (!(.cmp .Eq (.ix ⇑7 ↥0) ⇑6)) ⇑7))]]
abbrev u5(m:Nat)(ah: ~~~5): ~~~5:=bQ (λi=>nb i ah) m m
def tH(m:Nat)(X:Int->D):ni ((nums m).map X)=(nums m).map λs=>.tup [.int s,X s]:=by
 have key:∀(c i:Nat),(((List.range' i c).map λ(k:Nat)=>(k:Int)).map X).zipIdx i=((List.range' i c).map λ(k:Nat)=>(X k,k)):=λc=>by
  induction c with
  |zero=>intro i;rfl
  |succ c ih=>intro i;rw[CD,List.map_cons,List.map_cons,List.zipIdx_cons,ih (i+1),List.map_cons]
 have e:=key m 0;rw[<- AR]at e;delta ni nums;rw[e,List.map_map,List.map_map];rfl
section
variable{k n:Nat}{rn:Nat->Rn}{fns:List Fx}{ro rg ne:Nat}(U:jx fns rn)
include U
def FZ(hR:fns[ro]?=!jj)(hG:fns[rg]?=!fX)(m:Nat)(hm:1<=m/\m<=6)(ah: ~~~5)(h:Wb m ah):cW (rn (n+60)) (k+1) (gX ro rg) [W m ah]=!(.new ((u5 m ah).map λc=>.lst (c.map .int))):=by
 have hN:=nM h;have st:∀s1 s2 s3 s4,Tg.set (.tp [1,2]) (W m ah) [.dat (W m ah),s1,s2,s3,s4]=![.dat (W m ah),‹m›,.dat (.tup (ah.map ∅)),s3,s4]:=λ_ _ _ _=>rfl
 have q1:=λn k=>Cq U (n:=n) (k:=k) m hm.2 ah h
 have hg:cR 0 m=(nums m).map .int:=jf m;have w:=XQ (rn:=rn (n+59)) (bor:=[]) (k:=k+1) (g:=[.dat (W m ah),‹m›,.dat (.tup (ah.map ∅)),.dat (Rw m ah),.no]) (g1:=[.dat (W m ah),‹m›,.dat (.tup (ah.map ∅)),.dat (Rw m ah),.no]) (kk:=2) (nn:=5) (j:=6) (it:=.cV ⇑1) (c:=none) (e:=.blt .sorted [(.fC 8 3 (.nm 9) (.call rg [⇑3,⇑6]) none (.nm 10) ⇑9 none ⇑10)]) (nums m) .int (λ_=>true) (λs=>.lst ((cp (λi=>nb i ah) m s).map .int)) (by simp! [U,dj,aQ m ⋯,hg]) rfl ⋯ ⋯ ⋯ (au _ (by rw[aW];lia)) (λ_ _ _ _=>rfl) λs hs _ G' oV=>by
  have hs':=dW.mp hs;have h3:=oV.1.1 3 ⋯;have h6:=oV.1.2;have hl:G'.length=8:=oV.2;let(rs,r1,r2,r3,r4,_):=xZ U (n:=n+36) (k:=k) m hm.2 ah h s hs';have v:=QT (rn:=rn (n+57)) (bor:=[]) (k:=k+1) (g:=G') (kk:=3) (j1:=9) (j2:=10) (ju:=.call rg [⇑3,⇑6]) (it:=.slot 9) (c:=none) (e:=.slot 10) rs (λr=>.lst (r.map .int)) (λr=>r) .int (λ_ _=>true) (λ_ x=>.int x) (by simp! [U,dj,h3,h6,hG,bD (fx:=fX) rfl,r1]) hl.symm ⋯ ⋯ ⋯ ⋯ ⋯ ⋯ ⋯ (by
   have:rs.flatMap (λr=>r)=rs.flatten:=by rw[List.flatMap_def,List.map_id']
   show au _ ⋯) (λr hr G'' QV=>by simp! [U,dj,QV.2]) (λr hr x hx G'' QV=>rfl) λr hr x hx _ G'' QV=>by simp! [U,QV.2.2]
  have e1:(rs.flatMap λr=>(r.filter λ_=>true).map λx=>D.int x)=rs.flatten.map .int:=by
   rw[List.flatMap_def,List.map_flatten]
   congr 1
   show y6 λr _=>by rw[filter_all]
  rw[e1]at v;have so:=jc rs.flatten ⋯;rw[Ci hN hs' r3]at so;generalize rs.flatten=L at v so;simp! [U,v,so]
 rw[filter_all]at w;have v:=fC (rn:=rn (n+58)) (bor:=[]) (k:=k+1) (g:=[.dat (W m ah),‹m›,.dat (.tup (ah.map ∅)),.dat (Rw m ah),.own ((nums m).map λs=>.lst ((cp (λi=>nb i ah) m s).map .int))]) (g1:=[.dat (W m ah),‹m›,.dat (.tup (ah.map ∅)),.dat (Rw m ah),.dat (.lst ((nums m).map λs=>.lst ((cp (λi=>nb i ah) m s).map .int)))]) (kk:=3) (nn:=5) (j1:=6) (j2:=7) (it:=.enum ⇑4) (c:=!(.cmp .Eq (.ix ⇑7 ↥0) ⇑6)) (e:=.slot 7) (nums m) .int (λs=>.lst ((cp (λi=>nb i ah) m s).map .int)) (ld (λi=>nb i ah) m) (λs=>.lst ((cp (λi=>nb i ah) m s).map .int)) (by
   have:=tH m λs=>D.lst ((cp (λi=>nb i ah) m s).map D.int)
   simp! [U,dj,iu,this]) rfl ⋯ ⋯ ⋯ ⋯ ⋯ ⋯ ⋯ (au _ (by rw[aW];lia))
  (λs hs G' oV=>by
   have hl:=Xv hN (dW.mp hs);have ix:L2.gJ ((cp (λi=>nb i ah) m s).map D.int) 0=!(.int (gt (cp (λi=>nb i ah) m s) 0)):=z9 ⋯
   have h1:=oV.2.1;have h2:=oV.2.2;delta ld;simp! [U,mG,h1,h2,ix])
  (λs hs _ G' oV=>by
   have h2:=oV.2.2;simp! [U,h2])
 have e2:(((nums m).filter (ld (λi=>nb i ah) m)).map λs=>D.lst ((cp (λi=>nb i ah) m s).map .int))=(u5 m ah).map λc=>.lst (c.map .int):=by delta u5 bQ;rw[List.map_map];rfl
 rw[e2]at v;delta cW gX;simp! [U,st,hR,bD (fx:=jj) rfl,q1,w,v]
end
def jy(h0:T.set d g=!g0)(h:b g0=!(.nx,g1)):fO T b (d::l) g=fO T b l g1:=by
 conv=>lhs;unfold fO
 rw[h0];dsimp only;rw[h]
abbrev x6(ne:Nat):List Sm:=[(.expr (.extend 3 (.comp 6 2 (.nm 7) (.call ne [⇑0,⇑5]) (!(.cmp .NotIn ⇑7 ⇑3)) ⇑7)))]
abbrev QW:Ex:=.comp 6 2 (.nm 7) ⇑1 (!(.cmp .In ⇑2 ⇑7)) ⇑7
abbrev Lb(ne:Nat):List Sm:=[(.set 3 (.lst [⇑2])),(.loop (.nm 4) (.cV (.ix ⇑0 ↥0)) [(.loop (.nm 5) (.blt .list [⇑3]) (x6 ne))]),(.expr (.append 1 (.blt .tuple [(.blt .sorted [⇑3])])))]
abbrev x8(ne:Nat):List Sm:=[(.ite (.cmp .Eq (.peek QW) (.lst [])) (Lb ne) [])]
abbrev mX(ne:Nat):Fx:=#[1,6,[(.set 1 (.lst [])),(.loop (.nm 2) (.cV (.ix ⇑0 ↥0)) (x8 ne)),(.ret ⇑1)]]
def Cz(i:Int)(ah: ~~~5):((ah.filter (has i)).map λx=>gt x 0+gt x 1 - i)=nb i ah:=by
 induction ah with
 |nil=>rfl
 |cons x l ih=>
  delta nb at ih ⊢
  by_cases h1:gt x 0=i
  . simp[Fe,has,h1];lia
  .
   by_cases h2:gt x 1=i
   . simp[Fe,has,h1,h2,ih]
   . simp[Fe,has,h1,h2,ih]
def XR{l:List D}(h:∀x∈l,kD x=true/\dep x<=5):fH .Eq (.lst l) (.lst [])=!l.isEmpty:=by
 have h1:=xM λx hx=>(h x hx).1
 have h2:=xN λx hx=>(h x hx).2
 have h3:dep (.lst l)<=190:=by exact deps l+1<=190;lia
 have:lu (.lst l) (.lst [])=true:=by simp only[lu,kD,h1,iK,Bool.true_and,mM];show h3
 simp only[fH,this];cases l <;> rfl
section
variable{k n:Nat}{rn:Nat->Rn}{fns:List Fx}{ne:Nat}(U:jx fns rn)(hE:fns[ne]?=!jM)
include U hE
def CG(m:Nat)(hm:m<=6)(ah: ~~~5)(h:Wb m ah)(s:Int)(a1 a2 a4:Slot):∀(hs r: ~~~0) (a5:Slot),(∀x∈hs,QG (λi=>nb i ah) s x)->Gr m (λi=>nb i ah) s r->∃b5,fO (.nm 5) ((rn (n+40)).b [] (k+1) (x6 ne)) (hs.map .int) [.dat (W m ah),a1,a2,.own (r.map .int),a4,a5]=!(.nx,[.dat (W m ah),a1,a2,.own ((hs.foldl (mW λi=>nb i ah) r).map .int),a4,b5])
 | [],r,a5,_,_=>#[a5,rfl]
 |x::hs,r,a5,hh,g=>by
  have hN:=nM h;have g2:=g.add hN (hh x dA);let(b5,w):=CG m hm ah h s a1 a2 a4 hs _ ‹x› (λy hy=>hh y (bP _ hy)) g2
  apply#[b5,?_];have hl:=jg g2.nd g2.nO;have nr:=λn k=>Cr U (n:=n) (k:=k) m ah h x
  have e0:((ah.filter (has x)).map λy=>D.int (gt y 0+gt y 1 - x))=(nb x ah).map .int:=by rw[<- Cz,List.map_map];rfl
  rw[e0]at nr;have hnl:=jg (hN.nd x) (hN.nO x);have v:=xG (rn:=rn (n+37)) (bor:=[]) (k:=k+1) (g:=[.dat (W m ah),a1,a2,.own (r.map .int),a4,‹x›]) (g1:=[.dat (W m ah),a1,a2,.own (r.map .int),a4,‹x›]) (kk:=2) (nn:=6) (j:=7) (it:=.call ne [⇑0,⇑5]) (c:=!(.cmp .NotIn ⇑7 ⇑3)) (e:=.slot 7) (nb x ah) .int (λo=>(not (decide (o∈r)))) .int (by simp! [U,dj,hE,bD (fx:=jM) rfl,nr]) rfl ⋯ ⋯ ⋯ (au _ ⋯) (λo _ G' hG=>by
    have h3:=hG.1 3 ⋯;simp! [U,mG,hG.2,h3,tG]) (λo _ _ G' hG=>by simp! [U,hG.2])
  have e2:r.length+((nb x ah).filter λo=>(not (decide (o∈r)))).length<=lim:=by delta mW at hl;rw[fI]at hl;show au _ ⋯
  have q:(rn (n+40)).b [] (k+1) (x6 ne) [.dat (W m ah),a1,a2,.own (r.map .int),a4,‹x›]=!(.nx,[.dat (W m ah),a1,a2,.own ((mW (λi=>nb i ah) r x).map .int),a4,‹x›]):=by delta x6 mW;simp! [U,v,e2]
  rw[List.map_cons,jy (rfl:(Tg.nm 5).set _ _=_) q];show w
def x9(m:Nat)(hm:m<=6)(ah: ~~~5)(h:Wb m ah)(s:Int)(a1 a2:Slot):∀(l:List D) (r: ~~~0) (a4 a5:Slot),Gr m (λi=>nb i ah) s r->∃b4 b5,fO (.nm 4) ((rn (n+42)).b [] (k+1) [(.loop (.nm 5) (.blt .list [⇑3]) (x6 ne))]) l [.dat (W m ah),a1,a2,.own (r.map .int),a4,a5]=!(.nx,[.dat (W m ah),a1,a2,.own ((qU (λi=>nb i ah) l.length r).map .int),b4,b5])
 | [],r,a4,a5,_=>#[a4,a5,rfl]
 |d::l,r,a4,a5,g=>by
  have hN:=nM h;let(g2,_,_):=fold_add hN r r g.rc g;let(c5,v):=CG U hE m hm ah h s a1 a2 (.dat d) r r a5 g.rc g;let(b4,b5,w):=x9 m hm ah h s a1 a2 l _ (.dat d) c5 g2;apply#[b4,b5,?_];generalize hb:(rn (n+1+40)).b [] (k+1) (x6 ne)=bb at v;have q:(rn (n+42)).b [] (k+1) [(.loop (.nm 5) (.blt .list [⇑3]) (x6 ne))] [.dat (W m ah),a1,a2,.own (r.map .int),.dat d,a5]=!(.nx,[.dat (W m ah),a1,a2,.own ((r.foldl (mW λi=>nb i ah) r).map .int),.dat d,c5]):=by simp! [U,dj,hb,v]
  rw[jy (rfl:(Tg.nm 4).set _ _=_) q];show w
def Lc(m:Nat)(hm:1<=m/\m<=6)(ah: ~~~5)(h:Wb m ah):cW (rn (n+60)) (k+1) (mX ne) [W m ah]=!(.new ((u5 m ah).map λc=>~~~c)):=by
 have hN:=nM h;have i0:wM (W m ah) (.int 0)=!(.int m):=rfl;have hg:cR 0 m=(nums m).map .int:=jf m;have step:∀(p:Nat) (a3 a4 a5:Slot),p<m->∃b3 b4 b5,(rn (n+59)).b [] (k+1) (x8 ne) [.dat (W m ah),.own ((bQ (λi=>nb i ah) m p).map λc=>~~~c),‹p›,a3,a4,a5]=!(.nx,[.dat (W m ah),.own ((bQ (λi=>nb i ah) m (p+1)).map λc=>~~~c),‹p›,b3,b4,b5]):=by
  intro p a3 a4 a5 hp;have lK:0<=(p:Int)/\(p:Int)<m:=by lia
  have hu:(bQ (λi=>nb i ah) m p).length<=p:=by
   delta bQ;rw[eC];have:=AM (ld (λi=>nb i ah) m) (nums p)
   rw[aW]at this;show this
  have v:=xG (rn:=rn (n+55)) (bor:=[]) (k:=k+1) (g:=[.dat (W m ah),.dat (.lst ((bQ (λi=>nb i ah) m p).map λc=>~~~c)),‹p›,dJ a3,dJ a4,dJ a5]) (g1:=[.dat (W m ah),.dat (.lst ((bQ (λi=>nb i ah) m p).map λc=>~~~c)),‹p›,dJ a3,dJ a4,dJ a5]) (kk:=2) (nn:=6) (j:=7) (it:=.slot 1) (c:=!(.cmp .In ⇑2 ⇑7)) (e:=.slot 7) (bQ (λi=>nb i ah) m p) (λc=>~~~c) (λc=>decide ((p:Int)∈c)) (λc=>~~~c) (by simp! [U,dj]) rfl ⋯ ⋯ ⋯ (au _ ⋯) (λc _ G' hG=>by
    have h2:=hG.1 2 ⋯;have ci:fH .In (.int p) (~~~c)=!(decide ((p:Int)∈c)):=XJ p c;simp! [U,mG,hG.2,h2,ci]) (λc _ _ G' hG=>by simp! [U,hG.2])
  have hz:List.map dJ [.dat (W m ah),.own ((bQ (λi=>nb i ah) m p).map λc=>~~~c),‹p›,a3,a4,a5]=[.dat (W m ah),.dat (.lst ((bQ (λi=>nb i ah) m p).map λc=>~~~c)),‹p›,dJ a3,dJ a4,dJ a5]:=rfl
  have hF:((((bQ (λi=>nb i ah) m p).filter λc=>decide ((p:Int)∈c)).map λc=>~~~c).all kY)=true:=by rw[i8];intro d hd;let(c,_,rfl):=fR.mp hd;exact (c.map D.int).all flat=true;rw[List.all_map,i8];intro x _;rfl
  have hE0:fH .Eq (.lst (((bQ (λi=>nb i ah) m p).filter λc=>decide ((p:Int)∈c)).map λc=>~~~c)) (.lst [])=!(ld (λi=>nb i ah) m p):=by
   rw[XR λd hd=>by
    let(c,_,rfl):=fR.mp hd;apply#[eX c,?_];exact deps (c.map D.int)+1<=5;rw[eY];decide]
   have:=KY hN p hp
   congr 1
   rw[BQ,CA,List.map_eq_nil_iff];show this
  have vp:(rn (n+56)).e [] (k+1) QW [.dat (W m ah),.dat (.lst ((bQ (λi=>nb i ah) m p).map λc=>~~~c)),‹p›,dJ a3,dJ a4,dJ a5]=!(.new (((bQ (λi=>nb i ah) m p).filter λc=>decide ((p:Int)∈c)).map λc=>~~~c),[.dat (W m ah),.dat (.lst ((bQ (λi=>nb i ah) m p).map λc=>~~~c)),‹p›,dJ a3,dJ a4,dJ a5]):=by delta QW;simp! [U,v]
  generalize (((bQ (λi=>nb i ah) m p).filter λc=>decide ((p:Int)∈c)).map λc=>~~~c)=E at vp hF hE0
  generalize hR0:Lb ne=R0;have iss:(rn (n+59)).b [] (k+1) (x8 ne) [.dat (W m ah),.own ((bQ (λi=>nb i ah) m p).map λc=>~~~c),‹p›,a3,a4,a5]=(if ld (λi=>nb i ah) m p=true then (match (rn (n+58)).b [] (k+1) R0 [.dat (W m ah),.own ((bQ (λi=>nb i ah) m p).map λc=>~~~c),‹p›,a3,a4,a5]with |!(.nx,g1)=>!(.nx,g1) |!(f,g1)=>!(f,g1) |none=>none)else some (.nx,[.dat (W m ah),.own ((bQ (λi=>nb i ah) m p).map λc=>~~~c),‹p›,a3,a4,a5])):=by
   have te:(rn (n+57)).e [] (k+1) (.peek QW) [.dat (W m ah),.own ((bQ (λi=>nb i ah) m p).map λc=>~~~c),‹p›,a3,a4,a5]=!(.new E,[.dat (W m ah),.own ((bQ (λi=>nb i ah) m p).map λc=>~~~c),‹p›,a3,a4,a5]):=by rw[U.e];simp only[bh,hz,vp,hF,List.isEmpty_nil,C4]
   have tl:(rn (n+57)).e [] (k+1) (.lst []) [.dat (W m ah),.own ((bQ (λi=>nb i ah) m p).map λc=>~~~c),‹p›,a3,a4,a5]=!(.new [],[.dat (W m ah),.own ((bQ (λi=>nb i ah) m p).map λc=>~~~c),‹p›,a3,a4,a5]):=by simp! [U,au 0 ⋯]
   delta x8;rw[hR0,U.b];simp only[cD,aG,U.t,stepT,argsR,te,tl,norm,pk,hE0];cases ld (λi=>nb i ah) m p with
   |true=>rfl
   |false=>simp only[U.b];rfl
  rw[iss,FQ];by_cases hc:ld (λi=>nb i ah) m p=true
  .
   let(b4,b5,w):=x9 U hE m hm.2 ah h p (.own ((bQ (λi=>nb i ah) m p).map λc=>~~~c)) ‹p› ((nums m).map .int) [(p:Int)] a4 a5 (Aa hN lK)
   rw[eC,aW,show [(p:Int)].map D.int=[.int p]from rfl]at w
   have rk:=Ad hN lK;have hrl:=jg rk.nd (rk.nO hN lK);have so:=jc (qU (λi=>nb i ah) m [(p:Int)]) ⋯
   have so':nF .sorted [.lst ((qU (λi=>nb i ah) m [(p:Int)]).map D.int)]=!(.new ((cp (λi=>nb i ah) m p).map .int)):=so
   have z1:=eM (oI _) (au ((bQ (λi=>nb i ah) m p).length+1) ⋯)
   apply#[.own ((qU (λi=>nb i ah) m [(p:Int)]).map .int),b4,b5,?_]
   rw[i5 hc,i5 hc];have e9:((bQ (λi=>nb i ah) m p++[cp (λi=>nb i ah) m p]).map λc=>~~~c)=((bQ (λi=>nb i ah) m p).map λc=>~~~c)++[~~~(cp (λi=>nb i ah) m p)]:=by rw[nS];rfl
   rw[e9];generalize hb:(rn (n+15+42)).b [] (k+1) [(.loop (.nm 5) (.blt .list [⇑3]) (x6 ne))]=bb at w;have body:(rn (n+58)).b [] (k+1) R0 [.dat (W m ah),.own ((bQ (λi=>nb i ah) m p).map λc=>~~~c),‹p›,a3,a4,a5]=!(.nx,[.dat (W m ah),.own (((bQ (λi=>nb i ah) m p).map λc=>~~~c)++[~~~(cp (λi=>nb i ah) m p)]),‹p›,.own ((qU (λi=>nb i ah) m [(p:Int)]).map .int),b4,b5]):=by rw[<- hR0];delta Lb;simp! [U,dj,i0,aQ m ⋯,hg,au 1 ⋯,so',z1,hb,w]
   rw[body]
  . apply#[a3,a4,a5,?_];rw[kA hc,kA hc]
 let(g',(p,a3,a4,a5,b2,h0,h1,rfl),w):=dH (T:=.nm 2) (λ(j:Nat)=>D.int (j:Int))
  (I:=λl g=>∃(p:Nat) (a3 a4 a5 b2:Slot),p<=m/\l=List.range' p (m - p)/\g=[.dat (W m ah),.own ((bQ (λi=>nb i ah) m p).map λc=>~~~c),b2,a3,a4,a5])
  (step:=λa l g hI=>by
   let(p,a3,a4,a5,b2,h0,h1,rfl):=hI;have hpm:p<m:=by
    rcases wS p m with h |h
    . show h
    . rw[Co h]at h1;cases h1
   have hc:List.range' p (m - p)=p::List.range' (p+1) (m - (p+1)):=by rw[show m - p=(m - (p+1))+1 by lia,CD]
   rw[hc]at h1;injection h1 with e1 e2;subst e1 e2;let(b3,b4,b5,q):=step a a3 a4 a5 hpm;show#[_,_,rfl,q,a+1,b3,b4,b5,_,by lia,rfl,rfl]) (List.range' 0 m) [.dat (W m ah),.own [],.no,.no,.no,.no] #[0,.no,.no,.no,.no,by lia,rfl,rfl]
 have hp:p=m:=by
  have:(List.range' p (m - p)).length=0:=by rw[<- h1];rfl
  rw[List.length_range']at this;lia
 subst hp;have hr:cR 0 p=(List.range' 0 p).map λ(x:Nat)=>D.int (x:Int):=by delta cR;rw[AR];show y6 λx _=>by rw[Int.zero_add]
 generalize hb:(rn (n+59)).b [] (k+1) (x8 ne)=bb at w;delta cW mX u5;simp! [U,dj,i0,aQ p ⋯,hr,hb,w]
end
abbrev mY(mw pi:Nat):Fx:=#[1,1,[(.expr (.call mw [⇑0])),(.ret (.cmp .Eq (.blt .len [(.call pi [⇑0])]) ↥1))]]
section
variable{k n:Nat}{rn:Nat->Rn}{fns:List Fx}(U:jx fns rn)
variable{wh wi it ri iw cw mw to le at' ro rg pi fo pa:Nat}(hW:fns[wh]?=!cK)(hI:fns[wi]?=!(bT wh))(lz:fns[it]?=!(fU wi))(Cw:fns[ri]?=!rL)(rM:fns[iw]?=!(cZ wi it ri))(Cy:fns[mw]?=!(aM iw cw))(L7:fns[ro]?=!jj)(L8:fns[rg]?=!fX)(QX:fns[pi]?=!(gX ro rg))
include U hW hI lz Cw rM Cy L7 L8 QX
def Ld(m:Nat)(hm:1<=m/\m<=6)(ah: ~~~5)(h:Wb m ah):cW (rn (n+80)) (k+7) (mY mw pi) [W m ah]=!(.dat (.bl (decide ((u5 m ah).length=1)))):=by
 have y:=λn k=>kB (ci:=cw) U hW hI lz Cw rM (n:=n) (k:=k) m ah hm h
 have p:=λn k=>FZ U L7 L8 (n:=n) (k:=k) m hm ah h
 have e:decide (((u5 m ah).length:Int)=1)=decide ((u5 m ah).length=1):=by rw[decide_eq_decide];lia
 have hl:((u5 m ah).map λc=>D.lst (c.map .int)).length=(u5 m ah).length:=eC _
 generalize ((u5 m ah).map λc=>D.lst (c.map .int))=P at p hl
 rw[<- hl]at e ⊢
 delta cW mY;simp! [U,Cy,aR (fx:=aM iw cw) rfl,y,QX,aR (fx:=gX ro rg) rfl,p,e]
end
abbrev Ga(rg:Nat):Fx:=#[1,2,[(.set 1 (.comp 2 2 (.nm 3) (.cV (.blt .len [⇑0])) none (.blt .len [(.call rg [⇑0,⇑3])]))),(.ret (.blt .tuple [(.comp 2 3 (.tp [3,4]) (.enum ⇑1) (!(.cmp .Eq ⇑4 (.blt .min [⇑1]))) ⇑3)]))]]
abbrev tK(ne:Nat):Fx:=#[2,6,[(.ways 1 2 3 4 5 (.ix ⇑0 ↥0) (.call ne [⇑0,⇑4]))]]
abbrev lmB(wy:Nat):List Sm:=[(.set 3 (.call wy [⇑0,⇑2])),(.expr (.append 1 (.blt .max [(.comp 4 2 (.nm 5) ⇑3 none (.ix ⇑3 ⇑5))])))]
abbrev lH(wy:Nat):Fx:=#[1,4,[(.set 1 (.lst [])),(.loop (.nm 2) (.cV (.ix ⇑0 ↥0)) (lmB wy)),(.ret (.blt .tuple [(.comp 4 2 (.nm 5) (.cV (.ix ⇑0 ↥0)) (!(.cmp .Eq (.ix ⇑1 ⇑5) (.blt .min [⇑1]))) ⇑5)]))]]
abbrev bB(mw ha:Nat):Fx:=#[1,3,[(.expr (.call mw [⇑0])),(.tgt (.tp [1,2]) ⇑0),(.ret (.and [(.cmp .Eq (.blt .len [⇑2]) (.bin .Sub ⇑1 ↥1)),(.call ha [⇑0])]))]]
abbrev bz(it ci:Nat):Fx:=#[1,1,[(.ite (.not (.call it [⇑0])) [(.raise ci (.val (.str (PySem.Str.ofString "no tree"))))] [])]]
abbrev bx(mt tp mi:Nat):Fx:=#[1,3,[(.expr (.call mt [⇑0])),(.tgt (.tp [1,2]) ⇑0),(.ret (.call mi [(.call tp [⇑1,⇑2])]))]]
abbrev fD(pc:Nat):Fx:=#[1,1,[(.ret (.and [(.cmp .Eq (.blt .len [(.ix ⇑0 ↥1)]) (.bin .Sub (.ix ⇑0 ↥0) ↥1)),(.cmp .Eq (.blt .len [(.call pc [⇑0])]) ↥1)]))]]
abbrev far(m:Nat)(ah: ~~~5): ~~~0:=(nums m).map λp=>((rc (λi=>nb i ah) m p:Nat):Int)
abbrev CJ: ~~~0->Int
 | []=>0
 |x::l=>Ja x l
abbrev mid(m:Nat)(ah: ~~~5): ~~~0:=(nums m).filter λp=>decide (((rc (λi=>nb i ah) m p:Nat):Int)=CJ (far m ah))
abbrev Gs(m:Nat)(ah: ~~~5):Bool:=decide ((ah.length:Int)=m - 1)&&decide ((u5 m ah).length=1)
def CK(l: ~~~0)(h:l≠[]):nF .min [.lst (l.map .int)]=!(.dat (.int (CJ l))):=by
 cases l with
 |nil=>show absurd rfl h
 |cons n l=>
  have:=ints_map (n::l);rw[List.map_cons]at this ⊢
  simp only[nF,RV,iu,this];rfl
def QZ(n:Int)(l: ~~~0):nF .max [.lst ((n::l).map .int)]=!(.dat (.int (y9 n l))):=by
 have:=ints_map (n::l);rw[List.map_cons]at this ⊢
 simp only[nF,RV,iu,this]
def Le{l: ~~~0}(h:l≠[]):CJ l∈l/\∀x∈l,CJ l<=x:=by
 cases l with
 |nil=>show absurd rfl h
 |cons n l=>show Oa n l
def Q5{l: ~~~0}(h:l≠[]):CJ (l.map λx=>x - 1)=CJ l - 1:=by
 let(h1,h2):=Le h;let(h3,h4):=Le (l:=l.map λx=>x - 1) (by simpa using h)
 let(y,y1,y2):=fR.mp h3;have:=h2 y y1;have:=h4 _ (fR.mpr #[_,h1,rfl]);lia
def Q6{m:Nat}{ah: ~~~5}{p:Int}(hp:0<=p/\p<m)(f:Int->Int):L2.gJ ((nums m).map λq=>D.int (f q)) p=!(.int (f p)):=by
 obtain⟨p,rfl⟩:∃n:Nat,p=n:=#[p.toNat,by lia]
 rw[gW _ _ (by rw[eC,aW];lia)]
 simp[nums]
section
variable{k n:Nat}{rn:Nat->Rn}{fns:List Fx}(U:jx fns rn)
include U
def XS{rg:Nat}(hG:fns[rg]?=!fX)(m:Nat)(hm:1<=m/\m<=6)(ah: ~~~5)(h:Wb m ah):cW (rn (n+40)) (k+1) (Ga rg) [Rw m ah]=!(.dat (~~~(mid m ah))):=by
 have hg:cR 0 m=(nums m).map .int:=jf m;have hl:nF .len [Rw m ah]=!‹m›:=by exact some (R.dat (.int _))=_;simp[Rw]
 have w:=xH (rn:=rn (n+38)) (bor:=[]) (k:=k+1) (g:=[.dat (Rw m ah),.no]) (g1:=[.dat (Rw m ah),.no]) (kk:=2) (nn:=2) (j:=3) (it:=.cV (.blt .len [⇑0])) (e:=.blt .len [(.call rg [⇑0,⇑3])]) (nums m) .int (λp=>.int ((rc (λi=>nb i ah) m p:Nat):Int)) (by simp! [U,dj,hl,aQ m ⋯,hg]) rfl ⋯ ⋯ ⋯ (au _ (by rw[aW];lia)) λp hp G' oV=>by
  have h0:=oV.1 0 ⋯;let(rs,r1,_,_,_,r5):=xZ U (n:=n+16) (k:=k) m hm.2 ah h p (dW.mp hp);have e:(rs.map λr=>D.lst (r.map .int)).length=rc (λi=>nb i ah) m p:=by rw[eC,r5]
  generalize (rs.map λr=>D.lst (r.map .int))=P at r1 e
  simp! [U,h0,oV.2,hG,bD (fx:=fX) rfl,r1,e]
 have e1:(nums m).map (λp=>D.int ((rc (λi=>nb i ah) m p:Nat):Int))=(far m ah).map .int:=by delta far;rw[List.map_map];rfl
 have ne:far m ah≠[]:=by intro z;have:=congrArg List.length z;delta far at this;rw[eC,aW]at this;simp at this;lia
 have mn:=CK _ ne;have v:=fC (rn:=rn (n+37)) (bor:=[]) (k:=k+1) (g:=[.dat (Rw m ah),.own ((far m ah).map .int)]) (g1:=[.dat (Rw m ah),.dat (.lst ((far m ah).map .int))]) (kk:=3) (nn:=2) (j1:=3) (j2:=4) (it:=.enum ⇑1) (c:=!(.cmp .Eq ⇑4 (.blt .min [⇑1]))) (e:=.slot 3) (nums m) (λp=>.int p) (λp=>.int ((rc (λi=>nb i ah) m p:Nat):Int)) (λp=>decide (((rc (λi=>nb i ah) m p:Nat):Int)=CJ (far m ah))) (λp=>.int p) (by
   have:=tH m λp=>D.int ((rc (λi=>nb i ah) m p:Nat):Int)
   rw[e1]at this;simp! [U,dj,iu,this]) rfl ⋯ ⋯ ⋯ ⋯ ⋯ ⋯ ⋯ (au _ (by rw[aW];lia))
  (λp _ G' oV=>by
   have h1:=oV.1 1 ⋯;simp! [U,mG,h1,oV.2.2,mn])
  (λp _ _ G' oV=>by simp! [U,oV.2.1])
 rw[e1]at w;have hf:(mid m ah).length<=lim:=au _ (by
  have:=AM (λp=>decide (((rc (λi=>nb i ah) m p:Nat):Int)=CJ (far m ah))) (nums m)
  rw[aW]at this;delta mid;lia)
 delta cW Ga;simp! [U,w,v];rfl
def Q7{ne:Nat}(hE:fns[ne]?=!jM)(m:Nat)(hm:1<=m/\m<=6)(ah: ~~~5)(h:Wb m ah)(s:Int)(hs:0<=s/\s<m):∃mp,cW (rn (n+30)) (k+1) (tK ne) [W m ah,.int s]=!(.dat (.emp mp))/\Wt (λi=>nb i ah) s m mp:=by
 have he:∀y:Int,0<=y/\y<m->Yx (rn (n+29)) [] (k+1) 4 (.call ne [⇑0,⇑4]) [.dat (W m ah),‹s›,.no,.no,.no,.no] y=!(nb y ah):=λy _=>by
  have nr:=Cr U (n:=n+8) (k:=k) m ah h y;have e0:((ah.filter (has y)).map λx=>D.int (gt x 0+gt x 1 - y))=(nb y ah).map .int:=by rw[<- Cz,List.map_map];rfl
  rw[e0]at nr;delta Yx;simp! [U,hE,bD (fx:=jM) rfl,nr,ints_map]
 let(mp,w1,w2):=K3 (nM h) hs ⋯ he m 0 _ Wt.one;rw[At]at w2;have i0:wM (W m ah) (.int 0)=!(.int m):=rfl;apply#[mp,?_,w2];have e1:(rn (n+29)).e [] (k+1) (.ix ⇑0 ↥0) [.dat (W m ah),‹s›,.no,.no,.no,.no]=!(‹m›,[.dat (W m ah),‹s›,.no,.no,.no,.no]):=by simp! [U,i0]
 have hn:(d8 [.dat (W m ah),‹s›,.no,.no,.no,.no]&&([]:List Nat).isEmpty)=true:=rfl;have st:aG (rn (n+29)) [] (k+1) (.ways 1 2 3 4 5 (.ix ⇑0 ↥0) (.call ne [⇑0,⇑4])) [.dat (W m ah),‹s›,.no,.no,.no,.no]=!(.rt (.dat (.emp mp)),[.dat (W m ah),‹s›,.no,.no,.no,.no]):=by
  exact (if (d8 [.dat (W m ah),‹s›,.no,.no,.no,.no]&&([]:List Nat).isEmpty)=true then (match (rn (n+29)).e [] (k+1) (.ix ⇑0 ↥0) [.dat (W m ah),‹s›,.no,.no,.no,.no]with
   |!(‹j›,_)=>if Gn j=true then match OJ (Yx (rn (n+29)) [] (k+1) 4 (.call ne [⇑0,⇑4]) [.dat (W m ah),‹s›,.no,.no,.no,.no]) j.toNat [(s,0)]with |some m'=>!(Fl.rt (.dat (.emp m')),([.dat (W m ah),‹s›,.no,.no,.no,.no]:G)) |none=>none else none
   |_=>none)else none)=_
  rw[i5 hn,e1];dsimp only;rw[i5 (aQ m ⋯),AU,w1]
 have hp:dD 6 (Xd [W m ah,.int s])=[Slot.dat (W m ah),‹s›,.no,.no,.no,.no]:=rfl;have hb:(rn (n+30)).b [] (k+1) [(.ways 1 2 3 4 5 (.ix ⇑0 ↥0) (.call ne [⇑0,⇑4]))] [.dat (W m ah),‹s›,.no,.no,.no,.no]=!(.rt (.dat (.emp mp)),[.dat (W m ah),‹s›,.no,.no,.no,.no]):=by rw[U.b];delta cD;rw[st]
 delta cW tK;dsimp only;rw[hp,hb];rfl
def Gb{wy ne:Nat}(hY:fns[wy]?=!(tK ne))(hE:fns[ne]?=!jM)(m:Nat)(hm:1<=m/\m<=6)(ah: ~~~5)(h:Wb m ah):cW (rn (n+50)) (k+2) (lH wy) [W m ah]=!(.dat (~~~(mid m ah))):=by
 have i0:wM (W m ah) (.int 0)=!(.int m):=rfl;have hg:cR 0 m=(nums m).map .int:=jf m;have hf:∀l:List Int,(l.map λq=>D.int (((rc (λi=>nb i ah) m q:Nat):Int) - 1))=((l.map λq=>((rc (λi=>nb i ah) m q:Nat):Int)).map λx=>x - 1).map .int:=λl=>by rw[List.map_map,List.map_map];rfl
 have step:∀(done: ~~~0) (p:Int) (a3:Slot),(0<=p/\p<m)->done.length<=6->∃b3,(rn (n+49)).b [] (k+2) (lmB wy) [.dat (W m ah),.own (done.map λq=>D.int (((rc (λi=>nb i ah) m q:Nat):Int) - 1)),‹p›,a3]=!(.nx,[.dat (W m ah),.own ((done++[p]).map λq=>D.int (((rc (λi=>nb i ah) m q:Nat):Int) - 1)),‹p›,b3]):=by
  intro done p a3 hp hl;let(mp,q1,q2):=Q7 U hE (n:=n+17) (k:=k) m hm ah h p hp;let(v,vs,e1,e2):=q2.max (nM h) hp (eA m);apply#[.dat (.emp mp),?_];rw[nS,show [p].map (λq=>D.int (((rc (λi=>nb i ah) m q:Nat):Int) - 1))=[D.int (y9 v vs)]by rw[e2];rfl]
  have hml:mp.length<=m:=by
   have:=jg (m:=m) q2.nd λx hx=>by
    let(y,hy,rfl):=fR.mp hx;let(i,_,_,h3):=(q2.is y.1 y.2).mp hy;show (ji (nM h) hp i).gr.nO _ (eP _ h3)
   rwa [eC]at this
  have hA:((done.map λq=>D.int (((rc (λi=>nb i ah) m q:Nat):Int) - 1))).length<lim:=eM (oI _) (au _ (by rw[eC];lia))
  generalize (done.map λq=>D.int (((rc (λi=>nb i ah) m q:Nat):Int) - 1))=A at hA ⊢
  have w:=xH (rn:=rn (n+45)) (bor:=[]) (k:=k+2) (g:=[.dat (W m ah),.own A,‹p›,.dat (.emp mp)]) (g1:=[.dat (W m ah),.own A,‹p›,.dat (.emp mp)]) (kk:=2) (nn:=4) (j:=5) (it:=.slot 3) (e:=.ix ⇑3 ⇑5) mp (λq=>.int q.1) (λq=>.int q.2) (by simp! [U,dj]) rfl ⋯ ⋯ ⋯ (au _ ⋯) λq hq G' oV=>by
   have h3:=oV.1 3 ⋯;have ix:wM (.emp mp) (.int q.1)=!(.int q.2):=by
    exact (match L2.oA q.1 mp with |some v=>!(D.int v) |none=>none)=_
    rw[uX q2.nd hq]
   simp! [U,h3,oV.2,ix]
  have e3:(mp.map λq=>D.int q.2)=(v::vs).map .int:=by rw[<- e1,List.map_map];rfl
  rw[e3]at w;have mx:=QZ v vs;delta lmB;simp! [U,hY,bD (fx:=tK ne) rfl,q1,w,mx,hA]
 have key:nums m=[]++nums m:=rfl;let(g',(done,a2,a3,e,rfl),w):=dH (T:=.nm 2) (λq:Int=>D.int q)
  (I:=λl g=>∃(done: ~~~0) (a2 a3:Slot),nums m=done++l/\g=[.dat (W m ah),.own (done.map λq=>D.int (((rc (λi=>nb i ah) m q:Nat):Int) - 1)),a2,a3])
  (step:=λp l g hI=>by
   let(done,a2,a3,e,rfl):=hI;have hp:p∈nums m:=by rw[e];simp
   have hl:=congrArg List.length e;rw[aW,fI]at hl;let(b3,q):=step done p a3 (dW.mp hp) ⋯;show#[_,_,rfl,q,done++[p],_,b3,by rw[e];simp,rfl]) (nums m) [.dat (W m ah),.own [],.no,.no] #[[],.no,.no,key,rfl]
 rw[mE]at e;subst e;have hl6:(far m ah).length<=6:=by delta far;rw[eC,aW];show hm.2
 have ne:far m ah≠[]:=by intro z;have:=congrArg List.length z;delta far at this;rw[eC,aW]at this;simp at this;lia
 have mn:=CK ((far m ah).map λx=>x - 1) (by simpa using ne)
 rw[Q5 ne]at mn;have v:=xG (rn:=rn (n+47)) (bor:=[]) (k:=k+2) (g:=[.dat (W m ah),.own (((far m ah).map λx=>x - 1).map .int),a2,a3]) (g1:=[.dat (W m ah),.own (((far m ah).map λx=>x - 1).map .int),a2,a3]) (kk:=2) (nn:=4) (j:=5) (it:=.cV (.ix ⇑0 ↥0)) (c:=!(.cmp .Eq (.ix ⇑1 ⇑5) (.blt .min [⇑1]))) (e:=.slot 5) (nums m) .int (λp=>decide (((rc (λi=>nb i ah) m p:Nat):Int)=CJ (far m ah))) .int (by simp! [U,dj,i0,aQ m ⋯,hg]) rfl ⋯ ⋯ ⋯ (au _ (by rw[aW];lia))
  (λp hp G' oV=>by
   have h1:=oV.1 1 ⋯;have ix:=Q6 (ah:=ah) (dW.mp hp) λq=>((rc (λi=>nb i ah) m q:Nat):Int) - 1
   rw[hf]at ix;have ix':wM (.lst (((far m ah).map λx=>x - 1).map .int)) (.int p)=!(.int (((rc (λi=>nb i ah) m p:Nat):Int) - 1)):=ix
   have e:decide (((rc (λi=>nb i ah) m p:Nat):Int) - 1=CJ (far m ah) - 1)=decide (((rc (λi=>nb i ah) m p:Nat):Int)=CJ (far m ah)):=by rw[decide_eq_decide];lia
   simp! [U,mG,h1,oV.2,ix',mn,e])
  (λp _ _ G' oV=>by simp! [U,oV.2])
 have hw:fO (.nm 2) ((rn (n+49)).b [] (k+2) (lmB wy)) ((nums m).map λq=>D.int q) [.dat (W m ah),.own [],.no,.no]=!(.nx,[.dat (W m ah),.own (((far m ah).map λx=>x - 1).map .int),a2,a3]):=by rw[w,hf];rfl
 generalize hb:(rn (n+49)).b [] (k+2) (lmB wy)=bb at hw;have hl:((((nums m).filter λp=>decide (((rc (λi=>nb i ah) m p:Nat):Int)=CJ (far m ah))).map .int:List D)).length<=lim:=au _ (by
  rw[eC];have:=AM (λp=>decide (((rc (λi=>nb i ah) m p:Nat):Int)=CJ (far m ah))) (nums m)
  rw[aW]at this;lia)
 delta cW lH;simp! [U,dj,i0,aQ m ⋯,hg,hb,hw,v];rfl
def u6{pc ne:Nat}(hP:fns[pc]?=!(mX ne))(hE:fns[ne]?=!jM)(m:Nat)(hm:1<=m/\m<=6)(ah: ~~~5)(h:Wb m ah):cW (rn (n+70)) (k+2) (fD pc) [W m ah]=!(.dat (.bl (Gs m ah))):=by
 have q:=λn k=>Lc U hE (n:=n) (k:=k) m hm ah h
 have i0:wM (W m ah) (.int 0)=!(.int m):=rfl;have i1:wM (W m ah) (.int 1)=!(.tup (ah.map ∅)):=rfl
 have hl:(ah.map ∅).length=ah.length:=eC _
 have hl2:((u5 m ah).map λc=>~~~c).length=(u5 m ah).length:=eC _
 have e:decide (((u5 m ah).length:Int)=1)=decide ((u5 m ah).length=1):=by rw[decide_eq_decide];lia
 delta Gs;rw[<- e,<- hl,<- hl2];generalize (ah.map ∅)=P at i1 ⊢
 generalize ((u5 m ah).map λc=>~~~c)=Q at q ⊢
 delta cW fD;cases hc:decide ((P.length:Int)=m - 1)with
 |true=>have hc:=mB hc;simp! [U,i0,i1,hc,hP,aR (fx:=mX ne) rfl,q]
 |false=>have hc:=of_decide_eq_false hc;simp! [U,i0,i1,hc]
end
section
variable{k n:Nat}{rn:Nat->Rn}{fns:List Fx}(U:jx fns rn)
variable{wh wi it ri iw cw mw ro rg pi ha tr mt mi ci:Nat}(hW:fns[wh]?=!cK)(hI:fns[wi]?=!(bT wh))(lz:fns[it]?=!(fU wi))(Cw:fns[ri]?=!rL)(rM:fns[iw]?=!(cZ wi it ri))(Cy:fns[mw]?=!(aM iw cw))(L7:fns[ro]?=!jj)(L8:fns[rg]?=!fX)(QX:fns[pi]?=!(gX ro rg))(YQ:fns[ha]?=!(mY mw pi))
include U hW hI lz Cw rM Cy L7 L8 QX YQ
def mZ(m:Nat)(hm:1<=m/\m<=6)(ah: ~~~5)(h:Wb m ah):cW (rn (n+90)) (k+8) (bB mw ha) [W m ah]=!(.dat (.bl (Gs m ah))):=by
 have y:=λn k=>kB (ci:=cw) U hW hI lz Cw rM (n:=n) (k:=k) m ah hm h
 have p:=λn k=>Ld U hW hI lz Cw rM Cy L7 L8 QX (n:=n) (k:=k) m hm ah h
 have st:∀s1 s2,Tg.set (.tp [1,2]) (W m ah) [.dat (W m ah),s1,s2]=![.dat (W m ah),‹m›,.dat (.tup (ah.map ∅))]:=λ_ _=>rfl
 have hl:(ah.map ∅).length=ah.length:=eC _
 delta Gs;rw[<- hl];generalize (ah.map ∅)=P at st ⊢
 generalize decide ((u5 m ah).length=1)=c at p ⊢
 delta cW bB;cases hc:decide ((P.length:Int)=m - 1)with
 |true=>have hc:=mB hc;simp! [U,Cy,aR (fx:=aM iw cw) rfl,y,st,hc,YQ,aR (fx:=mY mw pi) rfl,p]
 |false=>have hc:=of_decide_eq_false hc;simp! [U,Cy,aR (fx:=aM iw cw) rfl,y,st,hc]
def Q8(m:Nat)(hm:1<=m/\m<=6)(ah: ~~~5)(h:Wb m ah):n8 (rn (n+90)) (k+8) (bB mw ha) [W m ah]=none:=by
 have y:=λn k=>kB (ci:=cw) U hW hI lz Cw rM (n:=n) (k:=k) m ah hm h
 have z:=λn k=>KN (ci:=cw) U hW hI lz Cw rM (n:=n) (k:=k) m ah hm h
 have st:∀s1 s2,Tg.set (.tp [1,2]) (W m ah) [.dat (W m ah),s1,s2]=![.dat (W m ah),‹m›,.dat (.tup (ah.map ∅))]:=λ_ _=>rfl
 delta n8 bB;simp! [U,Cy,aR (fx:=aM iw cw) rfl,y,cX (fx:=aM iw cw) rfl,z,st];split
 . ext e;split at e <;> cases e
 . rfl
variable(hTr:fns[tr]?=!(bB mw ha))
include hTr
def yc(m:Nat)(hm:1<=m/\m<=6)(ah: ~~~5)(h:Wb m ah)(ht:Gs m ah=true):cW (rn (n+100)) (k+9) (bz tr ci) [W m ah]=!(.dat .non):=by
 have q:=λn k=>mZ U hW hI lz Cw rM Cy L7 L8 QX YQ (n:=n) (k:=k) m hm ah h
 delta cW bz;simp! [U,hTr,aR (fx:=bB mw ha) rfl,q,ht]
def Ag(m:Nat)(hm:1<=m/\m<=6)(ah: ~~~5)(h:Wb m ah)(ht:Gs m ah=false):n8 (rn (n+100)) (k+9) (bz tr ci) [W m ah]=!ci:=by
 have q:=λn k=>mZ U hW hI lz Cw rM Cy L7 L8 QX YQ (n:=n) (k:=k) m hm ah h
 have z:=λn k=>Q8 U hW hI lz Cw rM Cy L7 L8 QX YQ (n:=n) (k:=k) m hm ah h
 delta n8 bz;simp! [U,hTr,aR (fx:=bB mw ha) rfl,q,ht,cX (fx:=bB mw ha) rfl,z]
def Ah(hMT:fns[mt]?=!(bz tr ci))(hMi:fns[mi]?=!(Ga rg))(m:Nat)(hm:1<=m/\m<=6)(ah: ~~~5)(h:Wb m ah)(ht:Gs m ah=true):cW (rn (n+110)) (k+10) (bx mt ro mi) [W m ah]=!(.dat (~~~(mid m ah))):=by
 have q:=λn k=>yc (ci:=ci) U hW hI lz Cw rM Cy L7 L8 QX YQ hTr (n:=n) (k:=k) m hm ah h ht
 have r:=λn k=>Cq U (n:=n) (k:=k) m hm.2 ah h
 have d:=λn k=>XS U L8 (n:=n) (k:=k) m hm ah h
 have st:∀s1 s2,Tg.set (.tp [1,2]) (W m ah) [.dat (W m ah),s1,s2]=![.dat (W m ah),‹m›,.dat (.tup (ah.map ∅))]:=λ_ _=>rfl
 delta cW bx;simp! [U,hMT,aR (fx:=bz tr ci) rfl,q,st,L7,bD (fx:=jj) rfl,r,hMi,aR (fx:=Ga rg) rfl,d]
end
abbrev g7(ti:Nat):Fx:=#[1,2,[(.set 1 (.lst [(.val .non),↥0,(.tup []),(.tup [↥0,(.tup [])]),(.tup [↥7,(.tup [])]),(.tup [(.val (.bl true)),(.tup [])]),(.tup [↥2,(.lst [])]),(.lst [↥2,(.tup [])]),(.tup [↥2,(.tup [(.tup [↥1,↥0])])]),(.tup [↥2,(.tup [(.tup [↥0,↥0])])])])),(.set 1 (.bin .Add ⇑1 (.lst [(.tup [↥3,(.tup [(.tup [↥0,↥2]),(.tup [↥0,↥1])])]),(.tup [↥2,(.tup [(.tup [↥0,↥1]),(.tup [↥0,↥1])])]),(.tup [↥2,(.tup [(.tup [↥0,↥1,↥1])])]),(.tup [↥2,(.tup [(.tup [↥0,(.val (.bl true))])])]),(.tup [↥2])]))),(.set 1 (.bin .Add ⇑1 (.lst [(.tup [↥2,(.tup [(.tup [↥0,↥2])])]),(.val (.str (PySem.Str.ofString "2:"))),.emp,(.tup [↥2,(.tup [(.lst [↥0,↥1])])]),(.tup [↥2,(.tup []),(.tup [])]),(.tup [↥2,(.val .non)]),(.tup [(.val (.str (PySem.Str.ofString "2"))),(.tup [])])]))),(.ret (.ix ⇑1 (.call ti [⇑0,↥22])))]]
abbrev XT:List D:=[.non,(.int 0),(.tup []),(.tup [(.int 0),(.tup [])]),(.tup [(.int 7),(.tup [])]),(.tup [(.bl true),(.tup [])]),(.tup [(.int 2),(.lst [])]),(.lst [(.int 2),(.tup [])]),(.tup [(.int 2),(.tup [(.tup [(.int 1),(.int 0)])])]),(.tup [(.int 2),(.tup [(.tup [(.int 0),(.int 0)])])])]
abbrev XX:List D:=[(.tup [(.int 3),(.tup [(.tup [(.int 0),(.int 2)]),(.tup [(.int 0),(.int 1)])])]),(.tup [(.int 2),(.tup [(.tup [(.int 0),(.int 1)]),(.tup [(.int 0),(.int 1)])])]),(.tup [(.int 2),(.tup [(.tup [(.int 0),(.int 1),(.int 1)])])]),(.tup [(.int 2),(.tup [(.tup [(.int 0),(.bl true)])])]),(.tup [(.int 2)])]
abbrev bq3:List D:=[(.tup [(.int 2),(.tup [(.tup [(.int 0),(.int 2)])])]),(.str (PySem.Str.ofString "2:")),.emp [],(.tup [(.int 2),(.tup [(.lst [(.int 0),(.int 1)])])]),(.tup [(.int 2),(.tup []),(.tup [])]),(.tup [(.int 2),.non]),(.tup [(.str (PySem.Str.ofString "2")),(.tup [])])]
abbrev g8:List D:=XT++XX++bq3
section
variable{k n:Nat}{g g1:G}{rn:Nat->Rn}{fns:List Fx}{ti:Nat}(U:jx fns rn)(hT:fns[ti]?=!bM)
include U hT
def Q9(hi:g[i]?=!(St s fl)):∃(d:D) (s':Int),d∈g8/\bL (rn (n+60)) (g7 ti) (k+1) [.var i] g=!(.dat d,g.set i (St s' fl)):=by
 have l1:=au 1 ⋯;have l2:=au 2 ⋯;have l3:=au 3 ⋯;have e1:aG (rn (n+59)) [0] (k+1) (match (g7 ti).body with |s::_=>s | []=>.stuck) [St s fl,.no]=!(.nx,[St s fl,.own XT]):=by delta g7;simp! [U,l1];rfl
 have e2:aG (rn (n+59)) [0] (k+1) (match (g7 ti).body with |_::s::_=>s |_=>.stuck) [St s fl,.own XT]=!(.nx,[St s fl,.own (XT++XX)]):=by have o:=Ce XT XX ⋯;have hb:XX=[(.tup [(.int 3),(.tup [(.tup [(.int 0),(.int 2)]),(.tup [(.int 0),(.int 1)])])]),(.tup [(.int 2),(.tup [(.tup [(.int 0),(.int 1)]),(.tup [(.int 0),(.int 1)])])]),(.tup [(.int 2),(.tup [(.tup [(.int 0),(.int 1),(.int 1)])])]),(.tup [(.int 2),(.tup [(.tup [(.int 0),(.bl true)])])]),(.tup [(.int 2)])]:=rfl;delta g7;simp! [U,l1,l2,l3,au XX.length ⋯,<- hb,o]
 have e3:aG (rn (n+59)) [0] (k+1) (match (g7 ti).body with |_::_::s::_=>s |_=>.stuck) [St s fl,.own (XT++XX)]=!(.nx,[St s fl,.own g8]):=by have o:=Ce (XT++XX) bq3 ⋯;have hb:bq3=[(.tup [(.int 2),(.tup [(.tup [(.int 0),(.int 2)])])]),(.str (PySem.Str.ofString "2:")),.emp [],(.tup [(.int 2),(.tup [(.lst [(.int 0),(.int 1)])])]),(.tup [(.int 2),(.tup []),(.tup [])]),(.tup [(.int 2),.non]),(.tup [(.str (PySem.Str.ofString "2")),(.tup [])])]:=rfl;delta g7 g8;simp! [U,l1,l2,l3,au bq3.length ⋯,<- hb,o]
 let(r,s1,r1,r2,q):=cY U (n:=n+37) (k:=k) (g:=[St s fl,.own g8]) (i:=0) (m:=22) rfl ⋯;have q':=q;let(d,hd,ed):=QF (l:=g8) #[r1,r2];apply#[d,s1,hd,?_];have e4:aG (rn (n+59)) [0] (k+1) (.ret (.ix ⇑1 (.call ti [⇑0,↥22]))) [St s fl,.own g8]=!(.rt (.dat d),[St s1 fl,.own g8]):=by simp! [U,hT,q',ed]
 have body:(rn (n+60)).b [0] (k+1) (g7 ti).body [St s fl,.no]=!(.rt (.dat d),[St s1 fl,.own g8]):=by
  delta g7 at e1 e2 e3 ⊢
  rw[U.b,aF e1,aF e2,aF e3];delta cD;rw[e4]
 have hp:dD (g7 ti).n [St s fl]=[St s fl,.no]:=rfl;delta bL;simp only[vars,cL,hi,List.map_cons,List.map_nil];rw[hp,body];rfl
end
end Ev
namespace dN
open Ev
abbrev gU:List PySem.Addr:=[37,121]
abbrev YS:Fx:=#[1,4,[(.set 1 (.val .non)),.stuck,(.set 3 (.lst [(.sP ⇑1 [(37,true),(121,false)]),(.sP ⇑1 [(37,false),(121,false)]),(.sP ⇑1 [(37,false),(121,false)])])),(.set 3 (.bin .Add ⇑3 (.lst [(.sP ⇑1 [(37,false),(121,false)]),(.sP ⇑1 [(37,false),(121,false)]),(.sP ⇑1 [(37,false),(121,false)])]))),(.set 3 (.bin .Add ⇑3 (.lst [(.sP ⇑1 [(37,false),(121,false)]),(.sP ⇑1 [(37,false),(121,false)]),(.sP ⇑1 [(37,false),(121,false)])]))),(.set 3 (.bin .Add ⇑3 (.lst [(.sP ⇑1 [(37,false),(121,false)]),(.sP ⇑1 [(37,false),(121,false)]),(.sP ⇑1 [(37,false),(121,true)])]))),(.set 3 (.bin .Add ⇑3 (.lst [(.sP ⇑1 [(37,false),(121,false)]),(.sP ⇑1 [(37,false),(121,false)]),(.sP ⇑1 [(37,false),(121,false)])]))),(.ite (.not (.sP ⇑1 [(37,true),(121,true)])) [(.ret (.val .non))] []),(.ret (.comp 4 2 (.nm 5) (.cV ↥15) (!(.ix ⇑3 ⇑5)) ⇑5))]]
abbrev w1:Sm:=.set 3 (.call 27 [⇑6])
abbrev w2:Sm:=.ite (.not (.peek (.call 28 [(.call 10 [⇑6]),⇑3]))) (~~~4) []
abbrev w3:Sm:=.ite (.and [⇑3,(.not (.peek (.call 28 [(.call 12 [⇑6]),(.call 30 [⇑6])])))]) (~~~4) []
abbrev w4:Sm:=.ite (.and [(.not ⇑3),(.cmp .NotEq (.lq 31 1 gU (.call 12 [⇑6])) (.lst [↥11]))]) (~~~4) []
abbrev w5:Sm:=.ite (.and [(.not ⇑3),(.cmp .NotEq (.lq 31 1 gU (.call 16 [⇑6])) (.lst [↥11]))]) (~~~4) []
abbrev yd:List Sm:=[w1,w2,w3,w4,w5]
abbrev cl:Sm:=.calls 4 (.refs 31 1 gU [(.call 10 [⇑5]),(.call 12 [⇑5]),(.call 16 [⇑5])]) .NotEq (.bin .Mult (.lst [(.lst [↥0])]) ↥3) false (~~~4)
abbrev CN:List Sm:=[(.set 2 (.call 19 [⇑0,⇑1])),(.loop (.nm 6) (.lst [(.call 24 [⇑2]),(.call 23 [⇑2,(.bin .Add ↥1 (.call 20 [⇑2,↥6]))])]) yd),(.set 5 (.call 32 [⇑2])),cl]
abbrev YT:Fx:=#[1,7,[(.loop (.nm 1) (.cV (.blt .max [↥1,(.blt .min [(.blt .len [⇑0]),↥8])])) CN),(.ret (.val (.bl true)))]]
abbrev fns:List Fx:=[cK,bT 0,cZ 1 3 4,fU 1,rL,aM 2 0,jj,mY 5 8,gX 6 9,fX,bB 5 7,bz 10 1,bx 11 6 13,Ga 9,#[1,1,[.stuck]],#[3,3,[.stuck]],bx 11 6 17,#[1,1,[.stuck]],nJ,mS 18,bM,fW,jL 20,gZ 20 21 22,tE 20 21 22 23,jM,mX 25,fD 26,gF 28,tK 25,lH 29,YS,g7 20,YT]
def c0:fns[0]?=!(cK):=rfl
def c1:fns[1]?=!(bT 0):=rfl
def c2:fns[2]?=!(cZ 1 3 4):=rfl
def c3:fns[3]?=!(fU 1):=rfl
def c4:fns[4]?=!(rL):=rfl
def c5:fns[5]?=!(aM 2 0):=rfl
def c6:fns[6]?=!(jj):=rfl
def c7:fns[7]?=!(mY 5 8):=rfl
def c8:fns[8]?=!(gX 6 9):=rfl
def c9:fns[9]?=!(fX):=rfl
def c10:fns[10]?=!(bB 5 7):=rfl
def c11:fns[11]?=!(bz 10 1):=rfl
def c12:fns[12]?=!(bx 11 6 13):=rfl
def c13:fns[13]?=!(Ga 9):=rfl
def c16:fns[16]?=!(bx 11 6 17):=rfl
def c18:fns[18]?=!(nJ):=rfl
def c19:fns[19]?=!(mS 18):=rfl
def c20:fns[20]?=!(bM):=rfl
def c21:fns[21]?=!(fW):=rfl
def c22:fns[22]?=!(jL 20):=rfl
def c23:fns[23]?=!(gZ 20 21 22):=rfl
def c24:fns[24]?=!(tE 20 21 22 23):=rfl
def c25:fns[25]?=!(jM):=rfl
def c26:fns[26]?=!(mX 25):=rfl
def c27:fns[27]?=!(fD 26):=rfl
def c28:fns[28]?=!(gF 28):=rfl
def c29:fns[29]?=!(tK 25):=rfl
def c30:fns[30]?=!(lH 29):=rfl
def c31:fns[31]?=!(YS):=rfl
def c32:fns[32]?=!(g7 20):=rfl
end dN
namespace dN
open Ev
abbrev Ra(rn:Rn)(k:Nat)(C:Nat)(c:Int):Prop:=∃r g3,rn.b [] k (YS.body.drop 2) ((List.replicate YS.n .no).set 1 (.dat (.nU C)))=!(.rt r,g3)/\cS [] g3 r=!(.new [.int c])
structure Fk(rn:Nat->Rn)(n k:Nat):Prop where
 bd1:∀d∈g8,n8 (rn (n+125)) (k+10) (aM 2 0) [d]=!0
 bd2:∀d∈g8,n8 (rn (n+119)) (k+8) (aM 2 0) [d]=!0
 a0:Ra (rn (n+128)) (k+12) 37 0
 a1:Ra (rn (n+125)) (k+12) 121 11
section
variable{k n:Nat}{g g1:G}{rn:Nat->Rn}(U:jx fns rn)
omit U in
def u9{rn:Rn}{k:Nat}{e:Ex}{g g':G}{ci C:Nat}{c:Int}(hx:rn.x [] k e (g.map noOwn)=!(ci,g'))(hc:gU[ci]?=!C)(hr:Ra rn k C c):J0 rn (k+2) fns 31 1 gU e g=!(.lst [.int c]):=by let(r,g3,h1,h2):=hr;delta J0;simp only[c31,hx,hc,h1,h2];rfl
include U
def XZ(m:Nat)(hm:m<=6)(ah: ~~~5):Sd 1 (~~~(mid m ah)):=by
 apply#[?_,λd hd=>?_]
 .
  rw[eC];delta mid;have:=AM (λp=>decide (((rc (λi=>nb i ah) m p:Nat):Int)=CJ (far m ah))) (nums m)
  rw[aW]at this;lia
 . let(x,_,rfl):=fR.mp hd;trivial
variable(F:Fk rn n k)
include F
def web1(m:Nat)(hm:1<=m/\m<=6)(ah: ~~~5)(h:Wb m ah)(a0 a1 a2 a3 a4 a5:Slot):∃b3,(rn (n+129)).b [] (k+14) yd [a0,a1,a2,a3,a4,a5,.dat (W m ah)]=!(.nx,[a0,a1,a2,b3,a4,a5,.dat (W m ah)]):=by
 have q1:=λn k=>u6 U c26 c25 (n:=n) (k:=k) m hm ah h
 have q2:=λn k=>mZ U c0 c1 c3 c4 c2 c5 c6 c9 c8 c7 (n:=n) (k:=k) m hm ah h
 have q3:=λb n k=>uV U c28 0 n k (.bl b) trivial
 apply#[.dat (.bl (Gs m ah)),?_];have hz:∀d:D,List.map dJ [a0,a1,a2,.dat d,a4,a5,.dat (W m ah)]=[dJ a0,dJ a1,dJ a2,.dat d,dJ a4,dJ a5,.dat (W m ah)]:=λ_=>rfl
 have s1:aG (rn (n+128)) [] (k+14) w1 [a0,a1,a2,a3,a4,a5,.dat (W m ah)]=!(.nx,[a0,a1,a2,.dat (.bl (Gs m ah)),a4,a5,.dat (W m ah)]):=by delta w1;simp! [U,c27,aR (fx:=fD 26) rfl,q1]
 have s2:aG (rn (n+128)) [] (k+14) w2 [a0,a1,a2,.dat (.bl (Gs m ah)),a4,a5,.dat (W m ah)]=!(.nx,[a0,a1,a2,.dat (.bl (Gs m ah)),a4,a5,.dat (W m ah)]):=by delta w2;simp! [U,hz,c10,aR (fx:=bB 5 7) rfl,q2,c28,bD (fx:=gF 28) rfl,q3,flat]
 delta yd;rw[U.b,aF s1,aF s2];cases ht:Gs m ah with
 |true=>
  have q4:=λn k=>Ah U c0 c1 c3 c4 c2 c5 c6 c9 c8 c7 c10 c11 c13 (n:=n) (k:=k) m hm ah h ht
  have q5:=λn k=>Gb U c29 c25 (n:=n) (k:=k) m hm ah h
  have q6:=λn k=>uV U c28 1 n k _ (XZ U m hm.2 ah)
  generalize D.tup (List.map D.int (mid m ah))=T at q4 q5 q6;have s3:aG (rn (n+128)) [] (k+14) w3 [a0,a1,a2,.dat (.bl true),a4,a5,.dat (W m ah)]=!(.nx,[a0,a1,a2,.dat (.bl true),a4,a5,.dat (W m ah)]):=by delta w3;simp! [U,hz,c12,aR (fx:=bx 11 6 13) rfl,q4,c30,aR (fx:=lH 29) rfl,q5,c28,bD (fx:=gF 28) rfl,q6,flat]
  have s4:∀e,aG (rn (n+128)) [] (k+14) (.ite (.and [(.not ⇑3),e]) (~~~4) []) [a0,a1,a2,.dat (.bl true),a4,a5,.dat (W m ah)]=!(.nx,[a0,a1,a2,.dat (.bl true),a4,a5,.dat (W m ah)]):=λe=>by
   simp! [U,U.e]
  have s4':=s4;rw[aF s3];delta w4 w5;rw[aF (s4 _),aF (s4 _)];rfl
 |false=>
  have s3:aG (rn (n+128)) [] (k+14) w3 [a0,a1,a2,.dat (.bl false),a4,a5,.dat (W m ah)]=!(.nx,[a0,a1,a2,.dat (.bl false),a4,a5,.dat (W m ah)]):=by delta w3;simp! [U,U.e]
  have x0:=λn k=>Ag (ci:=1) U c0 c1 c3 c4 c2 c5 c6 c9 c8 c7 c10 (n:=n) (k:=k) m hm ah h ht
  have nz:List.map noOwn [a0,a1,a2,.dat (.bl false),a4,a5,.dat (W m ah)]=[noOwn a0,noOwn a1,noOwn a2,.dat (.bl false),noOwn a4,noOwn a5,.dat (W m ah)]:=rfl;have hc:gU[1]?=!121:=rfl;let(r,g3,f1,f2):=F.a1;have s4:∀f mi,fns[f]?=!(bx 11 6 mi)->aG (rn (n+128)) [] (k+14) (.ite (.and [(.not ⇑3),(.cmp .NotEq (.lq 31 1 gU (.call f [⇑6])) (.lst [↥11]))]) (~~~4) []) [a0,a1,a2,.dat (.bl false),a4,a5,.dat (W m ah)]=!(.nx,[a0,a1,a2,.dat (.bl false),a4,a5,.dat (W m ah)]):=λf mi cf=>by
   have z:n8 (rn (n+124)) (k+11) (bx 11 6 mi) [W m ah]=!1:=by delta n8 bx;simp! [U,c11,cX (fx:=bz 10 1) rfl,x0]
   have x1:(rn (n+125)).x [] (k+12) (.call f [⇑6]) (List.map noOwn [a0,a1,a2,.dat (.bl false),a4,a5,.dat (W m ah)])=!(1,[noOwn a0,noOwn a1,noOwn a2,.dat (.bl false),noOwn a4,noOwn a5,.dat (W m ah)]):=by rw[nz];simp! [U,cf,cX (fx:=bx 11 6 mi) rfl,z]
   have rr:(rn (n+126)).e [] (k+14) (.lq 31 1 gU (.call f [⇑6])) [a0,a1,a2,.dat (.bl false),a4,a5,.dat (W m ah)]=!(.new [.int 11],[a0,a1,a2,.dat (.bl false),a4,a5,.dat (W m ah)]):=by rw[U.e];simp only[bh,c31,x1,hc,f1,f2]
   have ll:(rn (n+126)).e [] (k+14) (.lst [↥11]) [a0,a1,a2,.dat (.bl false),a4,a5,.dat (W m ah)]=!(.new [.int 11],[a0,a1,a2,.dat (.bl false),a4,a5,.dat (W m ah)]):=by simp! [U,au 1 ⋯]
   have cm:fH .NotEq (.lst [.int 11]) (.lst [.int 11])=!false:=z8 [11] [11];have t1:(rn (n+127)).t [] (k+14) (.cmp .NotEq (.lq 31 1 gU (.call f [⇑6])) (.lst [↥11])) [a0,a1,a2,.dat (.bl false),a4,a5,.dat (W m ah)]=!(false,[a0,a1,a2,.dat (.bl false),a4,a5,.dat (W m ah)]):=by rw[U.t];simp only[stepT,argsR,rr,ll,norm,pk,cm]
   have t0:(rn (n+127)).t [] (k+14) (.not ⇑3) [a0,a1,a2,.dat (.bl false),a4,a5,.dat (W m ah)]=!(true,[a0,a1,a2,.dat (.bl false),a4,a5,.dat (W m ah)]):=by simp! [U,U.e]
   have b0:(rn (n+128)).b [] (k+14) [] [a0,a1,a2,.dat (.bl false),a4,a5,.dat (W m ah)]=!(.nx,[a0,a1,a2,.dat (.bl false),a4,a5,.dat (W m ah)]):=by rw[U.b];rfl
   have ta:(rn (n+128)).t [] (k+14) (.and [(.not ⇑3),(.cmp .NotEq (.lq 31 1 gU (.call f [⇑6])) (.lst [↥11]))]) [a0,a1,a2,.dat (.bl false),a4,a5,.dat (W m ah)]=!(false,[a0,a1,a2,.dat (.bl false),a4,a5,.dat (W m ah)]):=by rw[U.t];simp only[stepT,sQ,t0,t1]
   simp only[aG,ta,b0]
  rw[aF s3];delta w4 w5;rw[aF (s4 12 13 c12),aF (s4 16 17 c16)];rfl
def cell(ns: ~~~0)(hl:ns.length<=63)(j:Nat)(a2 a3 a4 a5 a6:Slot)(h4:a4=.no):∃b2 b3 b5 b6,(rn (n+130)).b [] (k+14) CN [.dat (.fix (ns.map .int)),‹j›,a2,a3,a4,a5,a6]=!(.nx,[.dat (.fix (ns.map .int)),‹j›,b2,b3,.no,b5,b6]):=by
 subst h4;let(s,fl,q1):=KH U c18 (n:=n+88) (k:=k+12) ns ⋯ j;generalize hA0:Slot.dat (.fix (ns.map .int))=A0;generalize hA1:Slot.dat (.int (j:Int))=A1;have e1:aG (rn (n+129)) [] (k+14) (.set 2 (.call 19 [⇑0,⇑1])) [A0,A1,a2,a3,.no,a5,a6]=!(.nx,[A0,A1,St s fl,a3,.no,a5,a6]):=by subst hA0 hA1;simp! [U,c19,bD (fx:=mS 18) rfl,q1]
 let(m1,t1,s1,hm1,h1,q2):=QS U c20 c21 c22 c23 (n:=n+27) (k:=k+8) (g:=[A0,A1,St s fl,a3,.no,a5,a6]) (i:=2) (s:=s) rfl;have Be:=q2;let(r,s2,r1,r2,q3):=cY U (n:=n+105) (k:=k+13) (g:=[A0,A1,St s1 fl,a3,.no,a5,a6]) (i:=2) (s:=s1) (fl:=fl) (m:=6) rfl ⋯;have Rx:=q3;obtain⟨r,rfl⟩:∃n:Nat,r=n:=#[r.toNat,by lia]
 let(t2,s3,h2,_,q4):=oU U c20 c21 c22 (n:=n+57) (k:=k+10) (g:=[A0,A1,St s2 fl,a3,.no,a5,a6]) (i:=2) (s:=s2) (fl:=fl) (1+r) ⋯ rfl;have ec:((1+r:Nat):Int)=1+(r:Int):=by lia
 rw[ec]at q4;have q4':=q4;have hw:dj (rn (n+129)) [] (k+14) false (.lst [(.call 24 [⇑2]),(.call 23 [⇑2,(.bin .Add ↥1 (.call 20 [⇑2,↥6]))])]) [A0,A1,St s fl,a3,.no,a5,a6]=!([W m1 t1,W (1+r) t2],[A0,A1,St s3 fl,a3,.no,a5,a6]):=by delta dj;simp! [U,c24,Be,c20,Rx,c23,q4',au 2 ⋯]
 let(b3,w1):=web1 U F m1 hm1 t1 h1 A0 A1 (St s3 fl) a3 .no a5;let(d3,w2):=web1 U F (1+r) ⋯ t2 h2 A0 A1 (St s3 fl) b3 .no a5;generalize hb:(rn (n+129)).b [] (k+14) yd=bb at w1 w2;have e2:aG (rn (n+129)) [] (k+14) (.loop (.nm 6) (.lst [(.call 24 [⇑2]),(.call 23 [⇑2,(.bin .Add ↥1 (.call 20 [⇑2,↥6]))])]) yd) [A0,A1,St s fl,a3,.no,a5,a6]=!(.nx,[A0,A1,St s3 fl,d3,.no,a5,.dat (W (1+r) t2)]):=by
  have l1:fO (.nm 6) bb [W m1 t1,W (1+r) t2] [A0,A1,St s3 fl,a3,.no,a5,a6]=!(.nx,[A0,A1,St s3 fl,d3,.no,a5,.dat (W (1+r) t2)]):=by rw[jy (rfl:(Tg.nm 6).set _ _=_) w1,jy (rfl:(Tg.nm 6).set _ _=_) w2];rfl
  simp only[aG,Tg.jW,hw,hb];simp[l1]
 generalize Slot.dat (W (1+r) t2)=A6 at e2;let(b,s5,hb2,q6):=Q9 U c20 (n:=n+68) (k:=k+12) (g:=[A0,A1,St s3 fl,d3,.no,a5,A6]) (i:=2) (s:=s3) (fl:=fl) rfl;have q6':=q6;have e3:aG (rn (n+129)) [] (k+14) (.set 5 (.call 32 [⇑2])) [A0,A1,St s3 fl,d3,.no,a5,A6]=!(.nx,[A0,A1,St s5 fl,d3,.no,.dat b,A6]):=by simp! [U,c32,q6']
 generalize St s5 fl=A2 at e3;have y1:=F.bd1 b hb2;have y2:=F.bd2 b hb2;have nz:List.map noOwn [A0,A1,A2,d3,.no,.dat b,A6]=[noOwn A0,noOwn A1,noOwn A2,noOwn d3,.no,.dat b,noOwn A6]:=rfl;have hc:gU[0]?=!37:=rfl;have x1:(rn (n+128)).x [] (k+12) (.call 10 [⇑5]) (List.map noOwn [A0,A1,A2,d3,.no,.dat b,A6])=!(0,[noOwn A0,noOwn A1,noOwn A2,noOwn d3,.no,.dat b,noOwn A6]):=by
  have z:n8 (rn (n+127)) (k+11) (bB 5 7) [b]=!0:=by delta n8 bB;simp! [U,c5,cX (fx:=aM 2 0) rfl,y1]
  rw[nz];simp! [U,c10,cX (fx:=bB 5 7) rfl,z]
 have x2:∀f mi,fns[f]?=!(bx 11 6 mi)->(rn (n+128)).x [] (k+12) (.call f [⇑5]) (List.map noOwn [A0,A1,A2,d3,.no,.dat b,A6])=!(0,[noOwn A0,noOwn A1,noOwn A2,noOwn d3,.no,.dat b,noOwn A6]):=λf mi cf=>by
  have z:n8 (rn (n+127)) (k+11) (bx 11 6 mi) [b]=!0:=by
   delta n8 bx;have z1:n8 (rn (n+125)) (k+10) (bz 10 1) [b]=!0:=by
    delta n8 bz;have z2:n8 (rn (n+121)) (k+9) (bB 5 7) [b]=!0:=by delta n8 bB;simp! [U,c5,cX (fx:=aM 2 0) rfl,y2]
    simp! [U,c10,cX (fx:=bB 5 7) rfl,z2]
   simp! [U,c11,cX (fx:=bz 10 1) rfl,z1]
  rw[nz];simp! [U,cf,cX (fx:=bx 11 6 mi) rfl,z]
 have e4:aG (rn (n+129)) [] (k+14) cl [A0,A1,A2,d3,.no,.dat b,A6]=!(.nx,[A0,A1,A2,d3,.no,.dat b,A6]):=by
  have rs:(rn (n+129)).e [] (k+14) (.refs 31 1 gU [(.call 10 [⇑5]),(.call 12 [⇑5]),(.call 16 [⇑5])]) [A0,A1,A2,d3,.no,.dat b,A6]=!(.new [.lst [.int 0],.lst [.int 0],.lst [.int 0]],[A0,A1,A2,d3,.no,.dat b,A6]):=by rw[U.e];simp only[bh,wQ,u9 x1 hc F.a0,u9 (x2 12 13 c12) hc F.a0,u9 (x2 16 17 c16) hc F.a0]
  have cm:fH .NotEq (.lst [.lst [.int 0],.lst [.int 0],.lst [.int 0]]) (.lst [.lst [.int 0],.lst [.int 0],.lst [.int 0]])=!false:=by simp[fH,lu,eu,gj,kD,iK,dep,deps]
  have rt:(rn (n+129)).e [] (k+14) (.bin .Mult (.lst [(.lst [↥0])]) ↥3) [A0,A1,A2,d3,.no,.dat b,A6]=!(.new [.lst [.int 0],.lst [.int 0],.lst [.int 0]],[A0,A1,A2,d3,.no,.dat b,A6]):=by have o:uG .Mult (.lst [.lst [.int 0]]) (.int 3)=!(.new [.lst [.int 0],.lst [.int 0],.lst [.int 0]]):=rfl;simp! [U,au 1 ⋯,o]
  have g4:([A0,A1,A2,d3,.no,.dat b,A6]:G)[4]?=some .no:=rfl;delta cl aG;simp only[g4,rs,rt,norm,pk,cm];rfl
 apply#[A2,d3,.dat b,A6,?_];delta CN;rw[U.b,aF e1,aF e2,aF e3,aF e4];rfl
def whole(ns: ~~~0)(hl:ns.length<=63):∃g',(rn (n+131)).b [] (k+14) YT.body [.dat (.fix (ns.map .int)),.no,.no,.no,.no,.no,.no]=!(.rt (.dat (.bl true)),g'):=by
 have loop:=dH (T:=.nm 1) (λ(j:Nat)=>D.int (0+(j:Int)))
  (I:=λl g=>∃(s1 s2 s3 s5 s6:Slot),g=[.dat (.fix (ns.map .int)),s1,s2,s3,.no,s5,s6])
  (step:=λa l g h=>by
   let(s1,s2,s3,s5,s6,rfl):=h;rw[Int.zero_add];let(b2,b3,b5,b6,q):=cell U F ns hl a s2 s3 .no s5 s6 rfl;show#[_,_,rfl,q,_,_,_,_,_,rfl])
 obtain⟨M,hM,hM2⟩:∃M:Nat,M<=8/\(if ((if (8:Int)<ns.length then 8 else (ns.length:Int))) > 1 then (if (8:Int)<ns.length then 8 else (ns.length:Int))else 1)=(M:Int):=by
  apply#[(if ((if (8:Int)<ns.length then 8 else (ns.length:Int))) > 1 then (if (8:Int)<ns.length then 8 else (ns.length:Int))else 1).toNat,?_,?_]
  . split <;> (try split) <;> lia
  . split <;> (try split) <;> lia
 let(g2,(s1,s2,s3,s5,s6,rfl),h4):=loop (List.range M) [.dat (.fix (ns.map .int)),.no,.no,.no,.no,.no,.no] #[_,_,_,_,_,rfl];have hv:gR (rn (n+130)) [] (k+14) (.blt .max [↥1,(.blt .min [(.blt .len [⇑0]),↥8])]) [.dat (.fix (ns.map .int)),.no,.no,.no,.no,.no,.no]=!(.int (M:Int),[.dat (.fix (ns.map .int)),.no,.no,.no,.no,.no,.no]):=by rw[<- hM2];simp! [U,qQ]
 have hw:dj (rn (n+130)) [] (k+14) false (.cV (.blt .max [↥1,(.blt .min [(.blt .len [⇑0]),↥8])])) [.dat (.fix (ns.map .int)),.no,.no,.no,.no,.no,.no]=!((List.range M).map λ(x:Nat)=>D.int (0+(x:Int)),[.dat (.fix (ns.map .int)),.no,.no,.no,.no,.no,.no]):=by delta dj;dsimp only;rw[hv];dsimp only;rw[i5 (aQ M ⋯)];rfl
 have e1:aG (rn (n+130)) [] (k+14) (.loop (.nm 1) (.cV (.blt .max [↥1,(.blt .min [(.blt .len [⇑0]),↥8])])) CN) [.dat (.fix (ns.map .int)),.no,.no,.no,.no,.no,.no]=!(.nx,[.dat (.fix (ns.map .int)),s1,s2,s3,.no,s5,s6]):=by simp only[aG,Tg.jW,hw,h4];simp
 apply#[[.dat (.fix (ns.map .int)),s1,s2,s3,.no,s5,s6],?_];delta YT;rw[U.b,aF e1];simp! [U,U.e]
end
end dN
namespace dN
open Ev
def bad1:(g8.all λd=>decide (n8 (run fns (0+125)) (0+10) (aM 2 0) [d]=!0))=true:=by decide +kernel
def bad2:(g8.all λd=>decide (n8 (run fns (0+119)) (0+8) (aM 2 0) [d]=!0))=true:=by decide +kernel
abbrev rfB(rn:Rn)(k:Nat)(C:Nat)(c:Int):Bool:=match rn.b [] k (YS.body.drop 2) ((List.replicate YS.n .no).set 1 (.dat (.nU C)))with
 |!(.rt r,g3)=>(match cS [] g3 r with |!(.new [.int c'])=>decide (c'=c) |_=>false)
 |_=>false
def Lf(h:rfB rn k C c=true):Ra rn k C c:=by
 delta rfB at h;split at h
 .
  ext r g3 e;split at h
  . ext c' e2;rw[mB h]at e2;show#[r,g3,e,e2]
  . symm
 . symm
def X3:Fk (run fns) 0 0:=#[λd hd=>mB (i8.mp bad1 d hd),λd hd=>mB (i8.mp bad2 d hd),Lf (by decide +kernel),Lf (by decide +kernel)]
abbrev kk:Nat:=14
abbrev fuel:Nat:=131
def hev(ns: ~~~0)(hl:ns.length<=63):∃g',(run fns fuel).b [] kk YT.body (dD 7 [.dat (.fix (ns.map .int))])=!(.rt (.dat (.bl true)),g'):=whole (QB fns) X3 ns hl
end dN
namespace Ev
open L2
abbrev strV:Value->Bool
 |.str _ _=>true
 |_=>false
abbrev Rb:Value->Bool
 |.int _ _=>true
 |_=>false
abbrev Sq:Value->Bool
 |.bool _=>true
 |_=>false
abbrev Lg(n:String):Value->Bool
 |.type m=>decide (m=n)
 |_=>false
abbrev Rc(q:Addr):Option Value->Bool
 |!(.ref p)=>decide (p=q)
 |_=>false
def oW(h:Lg n v=true):v=.type n:=by
 delta Lg at h;split at h
 . rw[mB h]
 . symm
def CP(h:Rc q v=true):v=!(.ref q):=by
 delta Rc at h;split at h
 . rw[mB h]
 . symm
abbrev codeOk(K:Frag)(c q:Addr):Bool:=match K.lookup c with
 |some o=>(match o.data with
  |.fields vs=>Lg "code" o.cls&&Rc q vs[11]?&&strV (vs.getD 18 .none)&&Rb (vs.getD 7 .none)&&Sq (vs.getD 9 .none)&&Rb (vs.getD 10 .none)&&decide (c≠q)
  |_=>false)
 |none=>false
def tL{K:Frag}{h:Heap}{c q:Addr}(X:K.In h)(e:codeOk K c q=true):PySem.W.CodeHd h c q/\∃o vs,h.get? c=!o/\o.cls=.type "code" /\o.data=.fields vs/\vs[11]?=!(.ref q):=by
 delta codeOk at e;split at e
 .
  ext o ho;split at e
  .
   ext vs hv;simp only[hU,mM]at e;let((((((e1,e2),e3),e4),e5),e6),e7):=e;have r:=CP e2;have d:vs.getD 11 .none=.ref q:=by rw[AI,r];rfl
   delta strV at e3;split at e3
   .
    ext file tf h3;delta Rb at e4;split at e4
    .
     ext fl tg h4;delta Sq at e5;split at e5
     .
      ext b h5;delta Rb at e6;split at e6
      . ext tx tt h6;show#[#[o,vs,file,tf,fl,tg,b,tx,tt,X _ _ ho,oW e1,hv,r,d,h3,h4,h5,h6,e7],o,vs,X _ _ ho,oW e1,hv,r]
      . cases e6
     . cases e5
    . cases e4
   . cases e3
  . cases e
 . cases e
abbrev Lh(K:Frag)(n:Str)(c:Addr):Bool:=K.all λp=>decide (p.1=c)||(not (PySem.W.codeIn [p] (.ref p.1) n))
def lookup_mem{β:Type}:∀{l:List (Addr×β)}{a:Addr}{b:β},l.lookup a=!b->(a,b)∈l
 | [],_,_,h=>by symm
 | (x,y)::l,a,b,h=>by
  rw[t6]at h;by_cases e:a=x
  . subst e;simp at h;subst h;show dA
  .
   have:(a==x)=false:=by simpa using e
   rw[this]at h;show bP _ (lookup_mem h)
abbrev X4(K:Frag)(bm q:Addr):Bool:=match K.lookup bm with
 |!#[c,!d,.plain,_]=>Lg "module" c&&decide (d=builtinsNs)&&decide (bm≠builtinsNs)&&decide (bm≠mainGlobals)&&decide (bm≠q)
 |_=>false
def X5{K:Frag}{mg:Str->Option Value}{h:Heap}{n:Str}{c q bm:Addr}(X:K.In h)(G:h.Ns mainGlobals mg)(e1:Lh K n c=true)(e2:codeOk K c q=true)(e3:(q,gK n)∈cH K)(e7:((cH K).all λp=>decide (p.1=q->p.2=gK n))=true)(e4:PySem.W.nsIn K mainGlobals "__builtins__"=!(!(.ref bm)))(e5:X4 K bm q=true)(e6:mainGlobals≠q) :
  ∀bE,PySem.W.codeIn K bE n=true->J1 K mg n bE:=λbE hc=>by
 cases bE with
 |ref c'=>
  cases hl:K.lookup c' with
  |none=>delta PySem.W.codeIn at hc;simp only[hl]at hc;cases hc
  |some o=>
   have hm:=lookup_mem hl;have e0:PySem.W.codeIn [(c',o)] (.ref c') n=PySem.W.codeIn K (.ref c') n:=by
    have h1:List.lookup c' [(c',o)]=!o:=by simp
    delta PySem.W.codeIn;simp only[hl,h1]
   have ec:c'=c:=by have:=i8.mp e1 _ hm;rw[e0,hc]at this;simpa using this
   subst ec;apply#[c',q,rfl,λb hb=>(tL hb e2).1,e3,λb hb=>?_,e6,λp hp=>mB (i8.mp e7 p hp)]
   delta X4 at e5;split at e5
   . ext cc d sl hb2;simp only[hU,mM]at e5;let((((f1,f2),f3),f4),f5):=e5;show#[bm,_,CI X G e4,f3,f4,f5,hb _ _ hb2,oW f1,by rw[f2],rfl]
   . cases e5
 |_=>cases hc
def yf{K:Frag}{o:Obj}{a:Addr}{qs:List Addr}:(qs.map (λq=>(q,o))++K).lookup a=if a∈qs then some o else K.lookup a:=by
 induction qs with
 |nil=>simp
 |cons q qs ih=>
  rw[List.map_cons,List.cons_append,t6];by_cases z:a=q
  . subst z;simp
  .
   have:(a==q)=false:=by simpa using z
   rw[this];simp only[d6,z,false_or];show ih
def yg{qs:List Addr}{K:Params->Frag}{w:World}{h:Heap}(e:(qs.all λq=>((K w.params).lookup q).isNone)=true)(Y:PySem.W.InK (rQ qs K) w h):(K w.params).In h:=λa o ho=>by
 apply Y a o ?_;exact List.lookup a (qs.map _++K w.params)=_;rw[yf,kA,ho];intro z;have:=i8.mp e a z;rw[ho]at this;cases this
def Gd{cs qs:List Addr}{K:Params->Frag}{w:World}{h:Heap}(e:(qs.all λq=>((K w.params).lookup q).isNone)=true)(e2:(qs.all λq=>cs.any λc=>codeOk (K w.params) c q)=true)(Y:PySem.W.InK (rQ qs K) w h):∀p∈qs,(∃c,h.TableAt c p ([].toArray))/\(K w.params).lookup p=none:=λp hp=>by
 let(c,_,hc):=CB.mp (i8.mp e2 p hp);apply#[#[c,(tL (yg e Y) hc).2,Y _ _ ?_],Option.isNone_iff_eq_none.mp (i8.mp e p hp)];exact List.lookup p (qs.map _++K w.params)=_;rw[yf,i5 hp]
def Li{l:PySem.W.OpenLaw}{n k:Nat}{q:Program}{loose:List Str}{XP:(Str->Option Value)->Heap->Prop}{YP:World->Heap->Prop}{d:DefRec}{K:Params->Frag}{CX:Dg}{sp:Frag->Sp}{x:Str}{T:List Addr}
  (hn:l.most=!n) (hn2:n<=sizeLine) (jl:d.params.defaults=[]) (hr:cC k callerA)
  (hY:∀(w:World) (h:Heap),YP w h->(K w.params).In h) (hT:∀(w:World) (h:Heap),YP w h->∀q∈T,(∃c,h.TableAt c q ([].toArray))/\(K w.params).lookup q=none)
  (F:∀(w:World) (mg:Str->Option Value) (fa:Addr) (h:Heap),(K w.params).In h->h.Ns mainGlobals mg->mg d.name=!(.ref fa)->
   ∃fd:FuncData,(∀(s:Shared) (u:Value),BindsTo s fd #[[u],[]] [(x,u)])/\
    ∀base:Heap,(K w.params).In base->base.Ns mainGlobals mg->jP l.prog w (K w.params) mg base CX k fa fd [x] (sp (K w.params)))
  (Yi:∀(w:World) (H:Hp) (a:Addr) (ns: ~~~0),ns.length<=n->Bs T H->cA (K w.params) H a (ns.map V.int)->sp (K w.params) [.ref a] H (λv _=>v=.bl true) λ_ _ _=>False)
  (hCX:∀(H:Hp) (s:Shared) (e:Value) (s':Shared),CX [] H s (λ_ _ _=>False) e s'->False) :
  PySem.W.WalkO q loose XP YP l.row.toRowW d [] (λf vs=>PySem.call f vs):=by
 apply Att.vG hn jl λw s₀ s₁ mg mb fa o pm cd doc a vs ns G Y ho hd bR hmg hobj hints aL hg=>?_
 have KX:=hY w _ Y;let(fd,hb,hF):=F w mg fa _ KX G.T.g hmg;show Ek KX (hT w _ Y) G.T.g G.T.b G.T.builtins G.T.nolimit hg hobj hints (sK aL hn2) hr hF hb (λH hO hS=>Yi w H a ns aL hO hS) λH e s'=>hCX H s₁ e s'
abbrev kitF(K:Frag)(C:Addr):Bool:=["int", "bool", "str", "tuple", "list", "dict"].all λn=>decide (PySem.W.kitOne K (.ref C) (.type n)=!false)
def Lj{K:Frag}{C:Addr}(h1:PySem.W.findIn K (.ref C) "__getattribute__"=!(!(.builtin "BaseException.__getattribute__")))(h8:PySem.W.findIn K (.ref C) "__getattr__"=!none)(h9:PySem.W.mroIn K C (.type "BaseException")=!true)(h2:PySem.W.hasDictIn K C=true)(h3:PySem.W.findIn K (.ref C) "__class__"=!(!(.builtin "object.__class__")))(h4:PySem.W.specialIn K (.builtin "object.__class__") "__get__"=!(!(.builtin "getset_descriptor.__get__")))(h5:PySem.W.takesIn K (.builtin "object.__class__")=!true)(h6:PySem.W.mroIn K C (.type "object")=!true)(h7:kitF K C=true):Hi K C:=
 #[h1,h8,h9,h2,h3,h4,h5,h6,λn hn=>mB (i8.mp h7 n hn)]
abbrev upOk(K:Frag)(cv:Value)(l:List (Addr×Bool)):Bool:=decide (PySem.W.kitOne K (.type "NoneType") cv=!false)&&l.all λp=>decide (PySem.W.kitOne K (.ref p.1) cv=!p.2)
def All.of{α:Type}{p:α->Prop}{l:List α}(h:∀a∈l,p a):All p l:=by
 induction l with
 |nil=>show .nil
 |cons a l ih=>show .cons (h a dA) (ih λb hb=>h b (bP _ hb))
abbrev noB(K:Frag)(x:Str):Bool:=match PySem.W.nsIn K mainGlobals x with
 |some none=>true
 |_=>false
def X6{K:Frag}{mg:Str->Option Value}{h:Heap}{l:List Str}(X:K.In h)(G:h.Ns mainGlobals mg)(e:l.all (noB K)=true):All (λx=>mg x=none) l:=.of λx hx=>by
 have q:=i8.mp e x hx;delta noB at q;split at q
 . ext e2;show PySem.W.mg_none_of X G e2
 . cases q
abbrev X7(K:Frag)(bn:List Str)(x:Str)(cv:Value)(l:List (Addr×Bool)):Bool:=(not ((x==(~~~3))))&&(upOk K cv l&&(match cv with
 |.ref D=>(match PySem.W.nsIn K mainGlobals x with |some v=>Rc D v |none=>false)
 |.type n=>decide (x∈bn/\x≠ "__name__")&&(match bootBuiltins x with |some v=>Lg n v |none=>false)
 |_=>false))
def Rf{P:Pg}{K:Frag}{mg:Str->Option Value}{h:Heap}(Ss:List Value)(X:K.In h)(G:h.Ns mainGlobals mg)(hl:P.ups.length<=Ss.length)(e:((P.ups.zip Ss).all λp=>X7 K P.bn p.1.1 p.2 p.1.2)=true) :
  All (λp:Str×List (Addr×Bool)=>(p.1==(~~~3))=false/\∃cv,((mg p.1=!cv/\∃D,cv=.ref D)\/(p.1∈P.bn/\p.1≠ "__name__" /\bootBuiltins p.1=!cv/\∃n,cv=.type n))/\PySem.W.kitOne K (.type "NoneType") cv=!false/\∀C b,p.2.lookup C=!b->PySem.W.kitOne K (.ref C) cv=!b) P.ups:=.of λp hp=>by
 let(i,hi,rfl):=BB hp;have hz:(P.ups[i],Ss[i])∈P.ups.zip Ss:=i7 (i:=i) (Bz.mpr #[i4 hi,i4 ⋯]);have q:=i8.mp e _ hz;dsimp only at q;generalize Ss[i]=cv at q;delta X7 upOk at q;simp only[hU,Cc,mM]at q;let(q1,(q2,q3),q4):=q;apply#[q1,cv,?_,q2,λC b hl=>mB (i8.mp q3 _ (lookup_mem hl))]
 cases cv with
 |ref D=>
  dsimp only at q4;split at q4
  . ext v e2;rw[CP q4]at e2;show .inl #[CI X G e2,D,rfl]
  . cases q4
 |type n=>
  simp only[hU,mM]at q4;let((r1,r2),r3):=q4;split at r3
  . ext v e2;rw[oW r3]at e2;show .inr #[r1,r2,e2,n,rfl]
  . cases r3
 |_=>cases q4
def lm_mk{P:Pg}{K:Frag}{mg:Str->Option Value}(h1:All (λn=>∀bE,PySem.W.codeIn K bE n=true->J1 K mg n bE) iI)(h2:All (λp:Str×Addr=>mg p.1=!(.ref p.2)/\eK K p.2/\Hi K p.2) (P.cls.zip P.gU))(hl:P.gU.length<=P.cls.length)
  (h3:(P.kt==(~~~3))=false/\∃D,mg P.kt=!(.ref D)/\eK K D/\All (λC=>rD K C D=true) P.gU)
  (h4:All (λp:Str×List (Addr×Bool)=>(p.1==(~~~3))=false/\∃cv,((mg p.1=!cv/\∃D,cv=.ref D)\/(p.1∈P.bn/\p.1≠ "__name__" /\bootBuiltins p.1=!cv/\∃n,cv=.type n))/\PySem.W.kitOne K (.type "NoneType") cv=!false/\∀C b,p.2.lookup C=!b->PySem.W.kitOne K (.ref C) cv=!b) P.ups):W6 P K mg:=
 #[λ_ n hn=>h1.mem n hn,λi C e=>by
  have hi:=(dC.mp e).1;have hi2:i<P.cls.length:=by lia
  apply#[P.cls[i],i4 hi2,?_];have:=h2.mem (P.cls[i],C) (i7 (by rw[Bz];show#[i4 hi2,e]))
  show this,λ_=>let #[a,D,b,c,d]:=h3;#[a,D,b,c,λC hC=>d.mem C hC],λx l h=>h4.mem (x,l) h]
end Ev
namespace dN
open L2 Ev
nonrec abbrev f0:Fi:=cu (st 18)
nonrec abbrev f1:Fi:=cu (st 19)
nonrec abbrev f2:Fi:=cu (st 22)
nonrec abbrev f3:Fi:=cu (st 23)
nonrec abbrev f4:Fi:=cu (st 24)
nonrec abbrev f5:Fi:=cu (st 25)
nonrec abbrev f6:Fi:=cu (st 26)
nonrec abbrev f7:Fi:=cu (st 28)
nonrec abbrev f8:Fi:=cu (st 29)
nonrec abbrev f9:Fi:=cu (st 30)
nonrec abbrev f10:Fi:=cu (st 32)
nonrec abbrev f11:Fi:=cu (st 33)
nonrec abbrev f12:Fi:=cu (st 34)
nonrec abbrev f13:Fi:=cu (st 35)
nonrec abbrev f14:Fi:=cu (st 36)
nonrec abbrev f15:Fi:=cu (st 37)
nonrec abbrev f16:Fi:=cu (st 38)
nonrec abbrev f17:Fi:=cu (st 39)
nonrec abbrev f18:Fi:=cu (st 41)
nonrec abbrev f19:Fi:=cu (st 42)
nonrec abbrev f20:Fi:=cu (st 43)
nonrec abbrev f21:Fi:=cu (st 44)
nonrec abbrev f22:Fi:=cu (st 45)
nonrec abbrev f23:Fi:=cu (st 46)
nonrec abbrev f24:Fi:=cu (st 47)
nonrec abbrev f25:Fi:=cu (st 48)
nonrec abbrev f26:Fi:=cu (st 49)
nonrec abbrev f27:Fi:=cu (st 50)
nonrec abbrev f28:Fi:=cu (st 51)
nonrec abbrev f29:Fi:=cu (st 52)
nonrec abbrev f30:Fi:=cu (st 53)
nonrec abbrev f31:Fi:=cu (st 54)
nonrec abbrev f32:Fi:=cu (st 55)
nonrec abbrev f33:Fi:=cu (st 56)
abbrev ups:List (Str×List (Addr×Bool)):=[("NoWeb",[(37,true),(121,false)]),("NoNumber",[(37,false),(121,false)]),("NoTurn",[(37,false),(121,false)]),("NoKind",[(37,false),(121,false)]),("NoPlace",[(37,false),(121,false)]),("NoTie",[(37,false),(121,false)]),("NoNumbers",[(37,false),(121,false)]),("NoTree",[(37,false),(121,true)]),("NoCode",[(37,false),(121,false)]),("NoCounts",[(37,false),(121,false)]),("NoMarks",[(37,false),(121,false)]),("NoText",[(37,false),(121,false)]),("NoLine",[(37,false),(121,false)]),("NoDeed",[(37,false),(121,false)]),("TooGreat",[(37,false),(121,false)]),("ValueError",[(37,true),(121,true)])]
nonrec abbrev P:Pg:=#[[f0,f1,f2,f3,f4,f5,f6,f7,f8,f9,f10,f11,f12,f13,f14,f15,f16,f17,f18,f19,f20,f21,f22,f23,f24,f25,f26,f27,f28,f29,f30,f31,f32,f33],[("MOST_PLACES",.int 6)],["ValueError", "all", "bool", "enumerate", "int", "isinstance", "len", "list", "max", "min", "range", "sorted", "tuple", "zip"],["NoWeb", "NoTree"],true,[37,121], "KindError",ups]
def X8:Qs P P.fn fns=true:=by decide +kernel
def fns_eq:List.zipWith (BW P) P.fn fns=P.fn.map (λfi=>bA fi.st):=by kernel_rfl
def nLaw:f33.N.length=7:=rfl
def hevF:∀ns:List Int,ns.length<=63->∃g',(run fns fuel).b [] kk YT.body (dD f33.N.length [.dat (.fix (ns.map .int))])=!(.rt (.dat (.bl true)),g'):=by rw[nLaw];show hev
def vd(P:Params):cH (K P)=[(¬417,gK "law")]:=by kernel_rfl
def Lk(P:Params):([417].all λq=>((K P).lookup q).isNone)=true:=by kernel_rfl
def Ln(P:Params):([417].all λq=>[419].any λc=>codeOk (K P) c q)=true:=by kernel_rfl
def Lp(P:Params):codeOk (K P) (¬419) (¬417)=true:=by kernel_rfl
def Lq(P:Params):Lh (K P) "law" (¬419)=true:=by kernel_rfl
def Yb(P:Params):X4 (K P) (¬4) (¬417)=true:=by kernel_rfl
def Lr(P:Params):Hi (K P) (¬37):=Lj (by kernel_rfl) (by kernel_rfl) (by kernel_rfl) (by kernel_rfl) (by kernel_rfl) (by kernel_rfl) (by kernel_rfl) (by kernel_rfl) (by kernel_rfl)
def yh(P:Params):eK (K P) (¬37):=by kernel_rfl
def Ls(P:Params):rD (K P) (¬37) (¬24)=true:=by kernel_rfl
def Ge(P:Params):Hi (K P) (¬121):=Lj (by kernel_rfl) (by kernel_rfl) (by kernel_rfl) (by kernel_rfl) (by kernel_rfl) (by kernel_rfl) (by kernel_rfl) (by kernel_rfl) (by kernel_rfl)
def tM(P:Params):eK (K P) (¬121):=by kernel_rfl
def Gf(P:Params):rD (K P) (¬121) (¬24)=true:=by kernel_rfl
def ve(P:Params):eK (K P) (¬24):=by kernel_rfl
abbrev Ss:List Value:=[.ref 37,.ref 49,.ref 61,.ref 73,.ref 85,.ref 97,.ref 109,.ref 121,.ref 133,.ref 145,.ref 157,.ref 169,.ref 181,.ref 193,.ref 212,.type "ValueError"]
def Yc(Q:Params):((P.ups.zip Ss).all λp=>X7 (K Q) P.bn p.1.1 p.2 p.1.2)=true:=by kernel_rfl
def bn_no(Q:Params):P.bn.all (noB (K Q))=true:=by kernel_rfl
end dN
open PySem PySem.W PyProof.Rows
set_option maxHeartbeats 0 in
theorem PySem.Challenge.cw_websbykind_k50_trees_and_middles_holds : PySem.Challenge.rw_websbykind_k50_trees_and_middles.Holds := by
 w_on
 apply PySem.W.holds_law (by decide +kernel) λsaid=>?_
 apply PySem.W.holds_open (q:=dN.qv) (loose:=[]) (Xt:=λs=>xlAt dN.qv [] s&&recOk (OpenRow.toRowW PySem.Challenge.rw_websbykind_k50_trees_and_middles.row).records s) (XP:=XL dN.qv []) (Yf:=λs=>dN.as2.map s.heap.get?) (Ya:=λw=>(Ev.rQ [417] dN.K w.params).map λp:Nat×Obj=>!p.2) (YP:=InK (Ev.rQ [417] dN.K)) (N:=8000) dN.hl (InK.of dN.YX) InK.keeps (λs e=>xl_of s (Bool.and_eq_true_iff.mp e).1) XL.keeps (by rfl) (by rfl) (by rfl) (λs e=>recFacts_of (Bool.and_eq_true_iff.mp e).2) (by rfl) (by first |assumption |decide +kernel) (by decide +kernel) #[rfl,rfl,rfl,rfl,rfl,by decide +kernel] ?hw ?hc
 (case hw=>w_witness2)
 k_fill
 apply Ev.Li (l:=PySem.Challenge.rw_websbykind_k50_trees_and_middles) (n:=63) (k:=dN.kk+1) (x:= "_law_script") (CX:=L2.yL) (K:=dN.K) (T:=[417]) (sp:=λK=>Ev.Ry K dN.f33.N 1 λbor g r g'=>(Ev.run dN.fns dN.fuel).b bor dN.kk dN.YT.body g=!(.rt r,g')) rfl ⋯ rfl #[rfl,by decide,by decide] (λw h Y=>Ev.yg (dN.Lk _) Y) (λw h Y=>Ev.Gd (dN.Lk _) (dN.Ln _) Y) ?F ?S ?C
 case F=>
  intro w mg fa h KX G hmg
  have mm:Ev.All (Ev.Qq (L2.KOf KX) mg) dN.P.fn:=by
   repeat' (first |show Ev.All.nil |apply Ev.All.cons ?_ ?_)
   all_goals
    dsimp only[L2.KOf]
    show Ev.fi_mk (by assumption) (by assumption) (by k_is) (by k_is) (by k_is) (by k_is) #[rfl,rfl,rfl,by decide +kernel,by decide +kernel,by decide +kernel,by decide +kernel] (λ_ _ _ _ _ _ us hl=>by first | (let(_,e):=Ev.len1 hl;subst e;rfl) | (let(_,_,e):=Ev.len2 hl;subst e;rfl) | (let(_,_,_,e):=Ev.len3 hl;subst e;rfl) | (let(_,_,_,_,e):=Ev.len4 hl;subst e;rfl)) ⋯
  have rP:Ev.W5 (L2.KOf KX) mg ("MOST_PLACES",.int 6):=by
   dsimp only[L2.KOf]
   refine' Ev.W7 KX G ?a ⋯
   (case a=>k_is)
  have CQ:PySem.W.nsIn (L2.KOf KX) mainGlobals "NoWeb"=!(!(.ref 37)):=by dsimp only[L2.KOf];k_is
  have yi:PySem.W.nsIn (L2.KOf KX) mainGlobals "NoTree"=!(!(.ref 121)):=by dsimp only[L2.KOf];k_is
  have yj:PySem.W.nsIn (L2.KOf KX) mainGlobals "KindError"=!(!(.ref 24)):=by dsimp only[L2.KOf];k_is
  have n_b:PySem.W.nsIn (L2.KOf KX) mainGlobals "__builtins__"=!(!(.ref 4)):=by dsimp only[L2.KOf];k_is
  have lm:Ev.W6 dN.P (L2.KOf KX) mg:=Ev.lm_mk (.cons (Ev.X5 (n:= "law") (q:=¬417) KX G (dN.Lq _) (dN.Lp _) (by rw[dN.vd];decide) (by rw[dN.vd];decide) n_b (dN.Yb _) ⋯) .nil) (.cons #[mg_of KX G CQ,dN.yh _,dN.Lr _] (.cons #[mg_of KX G yi,dN.tM _,dN.Ge _] .nil)) ⋯ #[by decide,24,mg_of KX G yj,dN.ve _,(.cons (dN.Ls _) (.cons (dN.Gf _) .nil))] (Ev.Rf dN.Ss KX G ⋯ (dN.Yc _))
  have md:Ev.uH dN.P (L2.KOf KX) mg:=Ev.md_mk mm (.cons rP .nil) (Ev.X6 KX G (dN.bn_no _)) (.cons (Ev.Sh KX G CQ (dN.yh _) ⋯) (.cons (Ev.Sh KX G yi (dN.tM _) ⋯) .nil)) lm
  show Ev.Ko (Ev.Xc dN.X8 dN.fns_eq) md (i:=33) (fi:=dN.f33) rfl rfl rfl (mm.mem _ (i7 (i:=33) rfl)) hmg
 case S=>show λw H a ns hl hO hS=>Ev.W9 dN.hevF (dN.K w.params) H a ns hl (by rw[dN.vd];show hO) hS
 case C=>show λ_ _ _ _ z=>z
