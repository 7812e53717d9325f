import PyProof.Rows.All
import Wide.All
import OpenK.AllK
import Wide.FinOn
import Lean
import PyProof.EqAt
import PyProof.EqKinds
import PyProof.TupleCall
import PySem.Challenge.RW_websbykind_k40_webs_that_hang_together
set_option Elab.async false
set_option linter.all false
set_option compiler.extract_closed false
set_option bootstrap.genMatcherCode false
set_option genSizeOf false
set_option maxHeartbeats 4000000
set_option maxRecDepth 100000
set_option autoImplicit true
open PySem PySem.Spec PyProof.Rows
open PySem.W (Frag)
noncomputable section
def zQ1 k a:=Lean.Syntax.node .none k a
def zQ2 a:=zQ1 `null a
def zQ3 a:=zQ1 `Lean.Parser.Tactic.rcasesPatMed #[zQ2 #[a]]
def zQ4(f:Lean.Syntax->Lean.Syntax):Lean.Syntax->Lean.Syntax:=Lean.Syntax.rewriteBottomUp f
def zQ8(x:Lean.Syntax):Lean.Syntax:=match x with
|.node _ (.str b s) a=>if s=="ext"&&b== `Lean.Elab.Tactic.Ext then zQ1 `Lean.Parser.Tactic.renameI #[a[0]!,zQ2 (x[1].getArgs.map λp=>let i:=p[0][0];zQ1 `Lean.binderIdent #[if i.isIdent then i else zQ1 `Lean.Parser.Term.hole #[i]])] else if b== `Lean.Parser.Tactic then zQ1 (.str b (match s with|"exact"=>"show"|"show"=>"exact"|"refine"=>"apply"|"apply"=>"refine"|"unfold"=>"delta"|"delta"=>"unfold"|s=>s)) a else x.setInfo .none
|_=>x.setInfo .none
def zQ5:Lean.Syntax->Lean.Syntax
|x@(.ident ..)=>zQ1 `Lean.Parser.Tactic.rcasesPat.one #[x]
|x@(.node _ k a)=>if k== `Lean.Parser.Term.hole then zQ1 `Lean.Parser.Tactic.rcasesPat.ignore a else if k== `Lean.Parser.Term.tuple then zQ1 `Lean.Parser.Tactic.rcasesPat.tuple #[Lean.mkAtom "⟨",zQ2 ((#[x[1][0],Lean.mkAtom ","]++x[1][2].getArgs).map λx=>if x.isAtom then x else zQ1 `Lean.Parser.Tactic.rcasesPatLo #[zQ3 x,zQ2 #[]]),Lean.mkAtom "⟩"] else x
|x=>x
def zQ6:Lean.Syntax->Lean.Syntax:=λx=>
 let p:=x[2][0]
 if x.isOfKind `Lean.Parser.Tactic.tacticLet__&&p.isOfKind `Lean.Parser.Term.letPatDecl then zQ1 `Lean.Parser.Tactic.obtain #[Lean.mkAtom "obtain",zQ2 #[zQ3 (zQ4 zQ5 p[0])],zQ2 #[],zQ2 #[Lean.mkAtom ":=",zQ2 #[p[4]]]] else zQ8 x
def zQ7:=zQ2 #[zQ1 `Lean.Parser.Command.noncomputable #[Lean.mkAtom "noncomputable"]]
local macro_rules(kind:=Lean.Parser.Command.declaration)
|x=>if x.getPos?.isNone then Lean.Macro.throwUnsupported else
 let x:=zQ4 zQ6 x
 let y:=x[1]
 if !x[0][4].isNone then return (if y.isOfKind `Lean.Parser.Command.abbrev then x.setArg 0 (x[0].setArg 4 zQ7) else x)
 else if y.isOfKind `Lean.Parser.Command.definition then return x.setArg 1 (if y[2][1].isNone then y.setKind `Lean.Parser.Command.abbrev else zQ1 `Lean.Parser.Command.theorem #[y[0],y[1],zQ1 `Lean.Parser.Command.declSig #[y[2][0],y[2][1][0]],y[3]])
 else if y.isOfKind `Lean.Parser.Command.abbrev then return zQ1 x.getKind #[if x[0][6].isNone then x[0].setArg 4 zQ7 else x[0].setArg 6 (zQ2 #[]),zQ1 `Lean.Parser.Command.definition #[y[0],y[1],y[2],y[3],zQ2 #[]]]
 else return x
local macro_rules|`(!$x)=>`(some $x)
local macro_rules|`(#[$x,*])=>`(⟨$x,*⟩)
local macro_rules | `(⋯)=>`(by first |decide |lia |simp)
local macro_rules | `($x⁻¹)=>`(($x).heap.objs.size)
local macro_rules|`(⇑$x)=>`((.slot $x))
local macro_rules|`(↥$x)=>`((.val (.int $x)))
local macro_rules|`(‹$x›)=>`((.dat (.int $x)))
set_option hygiene false in
local macro_rules|`(~~~5)=>`(List (List Int))
local macro_rules|`(~~~0)=>`(List Int)
set_option hygiene false in
local macro_rules|`(~~~1)=>`(List (Addr×Obj))
set_option hygiene false in
local macro_rules|`(~~~2)=>`(model X.prog X.w)
local macro_rules|`(~~~3)=>`(("__debug__":Str))
set_option hygiene false in
local macro_rules|`(~~~7)=>`(Inv X aj Y H s)
set_option hygiene false in
local macro_rules|`(tactic|symm)=>`(tactic|cases h)
local macro_rules|`(¬$x:num)=>`(nat_lit $x)
def aS:=@PySem.wpAny_bind
def bP:=@List.mem_cons_of_mem
def b0:=@PySem.Heap.get?_push_of_some
def dA:=@List.mem_cons_self
def dC:=@PySem.wpAny_pure
def dE:=@List.getElem?_eq_some_iff
def dL:=@List.size_toArray
def dS:=@List.mem_cons
def eA:=@List.getElem?_append_left
def eC:=@PySem.Heap.get?_push_size
def eD:=@Nat.le_refl
def eJ:=@List.length_map
def eM:=@Nat.lt_of_lt_of_le
def eP:=@List.length_append
def eQ:=@PySem.Heap.lt_size
def fA:=@List.getElem?_append_right
def fI:=@List.getElem?_set_ne
def fN:=@Bool.and_eq_true
def fR:=@List.mem_map
def gL:=@Option.bind_eq_some_iff
def gN:=@List.mem_append_right
def hU:=@List.mem_singleton
def hV:=@List.getElem?_set_self
def hZ:=@List.nodup_cons
def i3:=@List.getElem?_eq_getElem
def i4:=@List.mem_filter
def i5:=@PySem.Heap.get?_update_other
def i6:=@List.mem_of_getElem?
def i7:=@if_neg
def i8:=@if_pos
def i9:=@List.length_cons
def kA:=@PySem.wpAny_mono
def kS:=@Nat.ne_of_lt
def lL:=@List.all_eq_true
def lS:=@of_decide_eq_true
def l4:=@List.getD_eq_getElem?_getD
def l5:=@List.length_replicate
def l6:=@decide_eq_true_eq
def l7:=@Nat.le_trans
def l8:=@List.mem_append_left
def l9:=@List.append_nil
def mB:=@PySem.Heap.get?_update_self
def mE:=@PySem.wpAny_holding
def mI:=@List.getElem?_map
def mM:=@decide_eq_true
def mP:=@Option.some.inj
def nE:=@decide_eq_false
def nK:=@PySem.wpAny_truthy_bool
def nN:=@PySem.wpAny_call_entry
def nS:=@PySem.wpAny_newObj_type
def nV:=@Nat.lt_irrefl
def n0:=@Ne.symm
def oC:=@List.map_append
def oD:=@Array.length_toList
def oI:=@List.not_mem_nil
def oP:=@List.mem_append
def oQ:=@PyProof.Rows.callWith_type1
def o6:=@PySem.wpAny_field
def pE:=@PySem.Obj.data_mapFields
def pV:=@PySem.wpAny_callSpecial?_slot
def qS:=@Nat.lt_succ_self
def rV:=@List.pairwise_cons
def sB:=@PySem.sizeLine_eq
def sK:=@Nat.lt_or_ge
def sR:=@List.lookup_cons
def sT:=@List.nodup_append
def tJ:=@Nat.add_sub_cancel_left
def tP:=@Array.getElem?_eq_some_iff
def tS:=@Nat.zero_le
def t5:=@Bool.false_ne_true
def t6:=@List.mem_range
def t7:=@PySem.Heap.size_push
def t8:=@List.nodup_nil
def t9:=@PySem.wpAny_standAt
def u4:=@List.filterMap_cons
def u7:=@List.mem_map_of_mem
def u8:=@List.map_congr_left
def vS:=@List.getElem?_take_of_lt
def v6:=@PySem.Obj.isFreed_of_fields
def wE:=@PySem.wpAny_setState_of
def wP:=@List.length_filter_le
def wS:=@PySem.wpAny_seqItems
def wT:=@List.length_set
def w8:=@List.mem_replicate
def w9:=@Nat.not_lt_zero
def xI:=@PySem.W.kia_one
def xL:=@List.range_eq_range'
def x5:=@List.length_take
def yA:=@PySem.wpAny_askSetting
def yB:=@List.getElem_mem
def yY:=@PyProof.Rows.slot_tuple_getitem
def y6:=@PySem.Heap.SameBut.update
def y7:=@List.Perm.refl
def y8:=@List.pairwise_iff_getElem
def An:=@Array.getElem?_eq_getElem
def Ap:=@List.length_singleton
def At:=@List.getElem?_eq_none
def AA:=@PySem.wpAny_Call_Name_kw
def AB:=@List.zip_cons_cons
def AC:=@Nat.ne_of_gt
def AD:=@PySem.wpAny_setField
def AE:=@List.replicate_succ
def AF:=@Array.getD_eq_getD_getElem?
def AG:=@Bool.or_eq_true
def AH:=@Option.map_eq_some_iff
def AI:=@PySem.F.slot_tuple_iterator_next
def AJ:=@PySem.wpAny_rule
def AK:=@PySem.wpAny_pyIter_tuple
def AL:=@List.take_append_drop
def AM:=@PySem.wpAny_setField_rec
def AO:=@PySem.wpAny_passesOwn
def AQ:=@List.length_nil
def AR:=@List.append_assoc
def AS:=@PySem.codeAny_builtin
def AT:=@List.flatMap_cons
def AU:=@PySem.mem_of_lookup
def AV:=@PySem.F.plainAttrs_list
def AW:=@List.mem_singleton_self
def AX:=@List.range'_succ
def AY:=@Nat.le_succ
def AZ:=@Array.getElem?_toList
def A4:=@Nat.zero_add
def A5:=@List.nil_append
def A6:=@List.set_append_right
def A7:=@List.contains_iff_mem
def A8:=@List.idxOf_lt_length_of_mem
def A9:=@Nat.sub_eq_zero_of_le
def Bi:=@Bool.not_eq_true'
def Bn:=@Int.toNat_natCast
def Bz:=@Array.perm_iff_toList_perm
def BA:=@List.getElem?_eq_none_iff
def BB:=@PySem.Calls.call_function_entry
def BC:=@List.getElem?_zip_eq_some
def BD:=@PySem.wpAny_execs_cons
def BE:=@List.getElem_of_mem
def BF:=@PySem.codeAny_mono
def BH:=@PySem.F.args_tuple_add_2
def BI:=@PySem.wpAny_typeOf
def BM:=@List.mem_filterMap
def BN:=@PySem.W.callWith_K
def BO:=@List.getElem?_replicate
def BQ:=@PySem.F.entry_tuple_add
def BS:=@Option.map_some
def BU:=@Bool.eq_iff_iff
def BY:=@PySem.wpAny_attempt
def B0:=@PySem.wpAny_newList
def B1:=@Array.Perm.refl
def B2:=@PySem.wpAny_updateSeq
def B3:=@PySem.plainId_quiet
def B4:=@List.cons.injEq
def B5:=@List.length_range'
def B6:=@PySem.W.cellsFrom_some
def B7:=@PySem.F.slot_tuple_add
def B8:=@Nat.lt_of_succ_lt_succ
def B9:=@PySem.wpAny_pyIter_list
def Cc:=@PySem.call_meets
def Cf:=@List.Sublist.refl
def Cn:=@PySem.W.kitx_list
def Co:=@PySem.W.kitx_dict
def CA:=@PySem.Obj.cls_mapFields
def CB:=@PySem.wpAny_letGo
def CC:=@PySem.F.plainAttrs_list
def CD:=@if_true
def CF:=@Bool.and_false
def CH:=@Nat.le_of_lt
def CI:=@Nat.succ.inj
def CL:=@Nat.le_of_ble_eq_true
def CM:=@beq_self_eq_true
def CO:=@Nat.le_add_right
def CS:=@PySem.F.plain_min_loop
def CU:=@List.mem_flatMap
def CY:=@List.any_eq_true
def C0:=@List.filter_cons
def C5:=@PySem.wpAny_onRaise
def C6:=@PySem.W.mg_of
def C9:=@List.of_mem_zip
def Db:=@List.getElem?_range
def Do:=@Nat.add_left_cancel
def DA:=@List.filter_sublist
def DB:=@Nat.sub_self
def DC:=@or_false
def DE:=@PySem.wpAny_Name
def DF:=@PySem.wpAny_call
def nt{p:Prop}(h:false=true):p:=Bool.noConfusion h
namespace L2
nonrec abbrev jc(s:Stmt):Arguments:=match s with
 |.FunctionDef _ a _ _ _ _ _ _ _ _=>a
 |_=>{ posonlyargs:=[],args:=[],vararg:=none,kwonlyargs:=[],kw_defaults:=[],kwarg:=none,defaults:=[]}
nonrec abbrev bx(s:Stmt):List Stmt:=match s with
 |.FunctionDef _ _ b _ _ _ _ _ _ _=>b
 |_=>[]
nonrec abbrev aD(s:Stmt):Scope:=match s with
 |.FunctionDef _ _ _ _ _ _ sc _ _ _=>sc
 |_=>{ kind:=.function,names:=[],isGenerator:=false,isCoroutine:=false}
end L2
namespace Ev
open L2
abbrev rE(qs:List Addr)(K:Params->Frag)(P:Params):Frag:=qs.map (λq=>(q,{ cls:=.none,data:=.fields ([].toArray)}))++K P
section
open PySem.W
abbrev L7(tb:String->Option Builtin)(p:Program)(w:World)(n₀:Nat)(ann:Option Value):Nat->SharedT->Thread->Option SharedT
 | 0,_,_=>none
 |n+1,s,t=>match through t with
  |true=>!s
  |false=>match stepOk n₀ ann t with
   |false=>none
   |true=>match stepT (denote tb) p w s t with
    |!(s',t')=>L7 tb p w n₀ ann n s' t'
    |none=>none
def Ak:∀{n:Nat}{s s':SharedT}{t:Thread},L7 tb p w n₀ ann n s t=!s'->topRun tb p w n₀ ann n s.abs t=!s'.abs
 | 0,_,_,_,h=>by symm
 |n+1,s,s',t,h=>by
  delta L7 at h;delta topRun;cases he:through t with
  |true=>rw[he]at h;symm;rfl
  |false=>
   rw[he]at h;cases hk:stepOk n₀ ann t with
   |false=>rw[hk]at h;symm
   |true=>
    rw[hk]at h;cases hs:stepT (denote tb) p w s t with
    |none=>rw[hs]at h;symm
    |some r=>let(s₂,t₂):=r;rw[hs]at h;rw[stepT_spec hs];show Ak h
abbrev Rq:BT->Nat->List Obj->BT
 |t,_,[]=>t
 |t,n,o::os=>Rq (t.ins n o) (n+1) os
abbrev Gw(P:Params):BT:=Rq .nil 0 (boot_heap P).objs.toList
def Gx(P:Params):absHeap (Gw P) 11 (boot_heap P).life=boot_heap P:=by kernel_rfl
meta abbrev AN (P:Params):Option Value:=(boot_heap P).nsMap mainGlobals "__annotations__"
def CQ{p q:Program}{loose:List Str}{Xt:Shared->Bool}{α:Type}{Yf:Shared->α}{Ya:World->α}{N:Nat}{ann:Option Value}
  (e:opening p=plainProg p.main.scope.names) (hN:Nat.ble 600 N=true) (f:∀s,fenceModules? p s=!s) (ha:∀P,AN P=ann)
  (run:∀(w:World) (os:OsState),(L7 treeTable p w 11 ann N #[Gw w.params,11,(boot_heap w.params).life,([].toArray),boot_drawn,boot_toks,os] (topStub p)).map (λs=>
   (staticsOk (importedModules p.main.body) (boot_heap w.params) s.abs.heap&&namesBound p s.abs.heap&&gensDone s.abs&&laidKept (boot_heap w.params) s.abs.heap,openSeen q loose (importedModules p.main.body) Xt true s.abs,Yf s.abs))=!(true,openGood q loose,Ya w)):LeftO p q loose Xt Yf Ya N:=λw=>by
 let((h,gs,d,k,os),e1,e2):=AH.mp (boot_open e hN f w);obtain⟨rfl,rfl,rfl,rfl⟩:h=boot_heap w.params/\gs=Array.mk []/\d=boot_drawn/\k=boot_toks:=by simpa using e2
 let(s,r1,r2):=AH.mp (run w os);obtain⟨l1,l2,l3⟩:_/\_/\_:=by simpa only[Prod.mk.injEq]using r2
 have r:=Ak r1;delta openEnds;rw[e1];exact (topFrom treeTable p w N _).map _=_;have z0:((boot_heap w.params).isNs mainGlobals&&(Array.mk []:Array GenState).size==0)=true:=by kernel_rfl
 have t:topFrom treeTable p w N #[boot_heap w.params,Array.mk [],boot_drawn,boot_toks,os]=!s.abs:=by
  delta topFrom;dsimp only;rw[z0];have r':topRun treeTable p w (boot_heap w.params).objs.size ((boot_heap w.params).nsMap mainGlobals "__annotations__") N #[boot_heap w.params,Array.mk [],boot_drawn,boot_toks,os] (topStub p)=!s.abs:=by
   have:=ha w.params;delta AN at this;rw[this];have z:SharedT.abs #[Gw w.params,11,(boot_heap w.params).life,([].toArray),boot_drawn,boot_toks,os]=#[boot_heap w.params,Array.mk [],boot_drawn,boot_toks,os]:=by delta SharedT.abs;dsimp only;rw[Gx]
   rw[z]at r;show r
  rw[r'];exact (match staticsOk (importedModules p.main.body) (boot_heap w.params) s.abs.heap&&namesBound p s.abs.heap&&gensDone s.abs&&laidKept (boot_heap w.params) s.abs.heap with |true=>_ |false=>_)=_
  rw[l1]
 rw[t];show congrArg some (Prod.ext l2 l3)
def YZ(P:Params):AN P=!(.ref 6):=by kernel_rfl
end
end Ev
namespace eU
open L2 Ev
nonrec abbrev st(j:Nat):Stmt:=PySem.Challenge.pw_websbykind_k40_webs_that_hang_together.main.body.getD j (.Pass #[0,0,0,0])
abbrev de(P:Params)(s:Str)(t:Tok)(v:Value):DictEntry:=#[PyData.keyHash P s,.str s t,v]
abbrev co(vs:Array Value):Obj:=#[.type "code",none,.fields vs,([].toArray)]
abbrev fo(j:Nat)(n:Str)(kV doc pm:Value)(an:Option Addr)(bG ct:Value):Obj:=#[.type "function",none,.func (PySem.W.fnOf n n (jc (st j)) (bx (st j)) (aD (st j)) .none kV doc pm an bG ct),([].toArray)]
abbrev ce(n:Str)(b a s r t u:Nat):Obj:=#[.type "type",none,.cls #[n,[.ref b],[.ref a,.ref b,.type "ValueError",.type "Exception",.type "BaseException",.type "object"],s,n,true,[],[],false,none,false],([!(.ref r),none,!(.str n t),!(.str n u),!(.builtin "ValueError.__new__"),!(.bool true)].toArray)]
nonrec abbrev cd(n:Str)(t l p r:Nat)(x y z:Value)(u:Nat):Obj:=co ([.str n t,.str n (t+1),.str "/claim/cut.py" (t+2),.int l 0,.int p 0,.int 0 0,.int 0 0,.int 3 0,.ref r,.bool true,.int 181 0,.ref (r+1),.none,x,y,z,.int u 0,.int l 0,.str "/claim/cut.py" (u+1)].toArray)
nonrec abbrev fq(j:Nat)(n:Str)(m:Value)(c:Addr):Obj:=fo j n .none .none m none (.ref c) .none
nonrec abbrev m0:Value:=.str "websbykind.whole" 458
nonrec abbrev m1:Value:=.str "websbykind.webs" 476
nonrec abbrev m2:Value:=.str "websbykind.alike" 525
nonrec abbrev m3:Value:=.str "websbykind.hanging" 539
nonrec abbrev m4:Value:=.str "law_websbykind_k40_webs_that_hang_together" 572
nonrec abbrev K(P:Params):Frag:=
 (¬3,#[.type "dict",none,.dict ([de P "__name__" 165 (.str "law_websbykind_k40_webs_that_hang_together" 572),de P "__doc__" 166 (.none),de P "__package__" 167 (.none),de P "__loader__" 168 (.builtin "__main__.__loader__#opaque"),de P "__spec__" 169 (.none),de P "__annotations__" 170 (.ref 6),de P "__builtins__" 171 (.ref 4),de P "__file__" 173 (.str "/claim/cut.py" 172),de P "__cached__" 174 (.none),de P "KindError" 206 (.ref 24),de P "NoWeb" 222 (.ref 37),de P "NoNumber" 238 (.ref 49),de P "NoTurn" 254 (.ref 61),de P "NoKind" 270 (.ref 73),de P "NoPlace" 286 (.ref 85),de P "NoTie" 302 (.ref 97),de P "NoNumbers" 318 (.ref 109),de P "NoTree" 334 (.ref 121),de P "NoCode" 350 (.ref 133),de P "NoCounts" 366 (.ref 145),de P "NoMarks" 382 (.ref 157),de P "NoText" 398 (.ref 169),de P "NoLine" 414 (.ref 181),de P "NoDeed" 430 (.ref 193),de P "TooGreat" 457 (.ref 212),de P "is_whole" 466 (.ref 221),de P "is_within" 475 (.ref 228),de P "MOST_PLACES" 479 (.int 6 478),de P "is_web" 485 (.ref 233),de P "is_tie" 491 (.ref 238),de P "is_rising" 497 (.ref 243),de P "must_be_web" 504 (.ref 250),de P "led_on" 510 (.ref 255),de P "tie_of" 518 (.ref 262),de P "tied_places" 524 (.ref 267),de P "all_turns" 532 (.ref 272),de P "form" 538 (.ref 277),de P "hangs" 547 (.ref 284),de P "parts" 553 (.ref 289),de P "pieces" 559 (.ref 294),de P "rings_from" 565 (.ref 299),de P "piece_at" 571 (.ref 304),de P "_law_cell_at" 581 (.ref 311),de P "_law_state" 590 (.ref 318),de P "_law_take" 600 (.ref 325),de P "_law_named" 611 (.ref 332),de P "_law_mixed" 621 (.ref 339),de P "_law_tree" 632 (.ref 346),de P "_law_web" 638 (.ref 351),de P "_law_near" 644 (.ref 356),de P "_law_pieces" 650 (.ref 361),de P "_law_same" 656 (.ref 366),de P "_law_turns" 662 (.ref 371),de P "_law_form" 668 (.ref 376),de P "_law_within" 674 (.ref 381),de P "_law_bad_web" 682 (.ref 388),de P "_law_refused" 688 (.ref 393),de P "law" 694 (.ref 398)].toArray) 58,([].toArray)]) ::
 (¬4,#[.type "module",(!0),.plain,([].toArray)]) ::
 (¬24,#[.type "type",none,.cls #["KindError",[.type "ValueError"],[.ref 24,.type "ValueError",.type "Exception",.type "BaseException",.type "object"],23, "KindError",true,[],[.ref 37,.ref 49,.ref 61,.ref 73,.ref 85,.ref 97,.ref 109,.ref 121,.ref 133,.ref 145,.ref 157,.ref 169,.ref 181,.ref 193,.ref 212],false,none,false],([!(.ref 15),none,!(.str "KindError" 189),!(.str "KindError" 197),!(.builtin "ValueError.__new__"),!(.bool true)].toArray)]) ::
 (¬23,#[.type "dict",none,.dict ([de P "__module__" 196 (.str "websbykind.errors" 187),de P "__firstlineno__" 200 (.int 2 199),de P "__static_attributes__" 201 (.ref 22),de P "__weakref__" 203 (.ref 25),de P "__doc__" 204 (.none)].toArray) 3,([].toArray)]) ::
 (¬37,ce "NoWeb" 24 37 36 28 207 215) ::
 (¬36,#[.type "dict",none,.dict ([de P "__module__" 214 (.str "websbykind.errors" 187),de P "__firstlineno__" 218 (.int 4 217),de P "__static_attributes__" 219 (.ref 35),de P "__doc__" 220 (.none)].toArray) 2,([].toArray)]) ::
 (¬49,ce "NoNumber" 24 49 48 40 223 231) ::
 (¬61,ce "NoTurn" 24 61 60 52 239 247) ::
 (¬73,ce "NoKind" 24 73 72 64 255 263) ::
 (¬85,ce "NoPlace" 24 85 84 76 271 279) ::
 (¬97,ce "NoTie" 24 97 96 88 287 295) ::
 (¬109,ce "NoNumbers" 24 109 108 100 303 311) ::
 (¬121,ce "NoTree" 24 121 120 112 319 327) ::
 (¬133,ce "NoCode" 24 133 132 124 335 343) ::
 (¬145,ce "NoCounts" 24 145 144 136 351 359) ::
 (¬157,ce "NoMarks" 24 157 156 148 367 375) ::
 (¬169,ce "NoText" 24 169 168 160 383 391) ::
 (¬181,ce "NoLine" 24 181 180 172 399 407) ::
 (¬193,ce "NoDeed" 24 193 192 184 415 423) ::
 (¬212,ce "TooGreat" 24 212 211 196 431 439) ::
 (¬220,cd "is_whole" 460 38 1 215 (.ref 217) (.ref 218) (.ref 219) 464) ::
 (¬221,fq 18 "is_whole" m0 220) ::
 (¬227,cd "is_within" 467 40 3 222 (.ref 224) (.ref 225) (.ref 226) 473) ::
 (¬228,fq 19 "is_within" m0 227) ::
 (¬232,cd "is_web" 480 44 1 229 .none .none (.ref 231) 483) ::
 (¬233,fq 22 "is_web" m1 232) ::
 (¬237,cd "is_tie" 486 51 2 234 .none .none (.ref 236) 489) ::
 (¬238,fq 23 "is_tie" m1 237) ::
 (¬242,cd "is_rising" 492 55 1 239 .none .none (.ref 241) 495) ::
 (¬243,fq 24 "is_rising" m1 242) ::
 (¬249,cd "must_be_web" 498 57 1 244 (.ref 246) (.ref 247) (.ref 248) 502) ::
 (¬250,fq 25 "must_be_web" m1 249) ::
 (¬254,cd "led_on" 505 60 2 251 .none .none (.ref 253) 508) ::
 (¬255,fq 26 "led_on" m1 254) ::
 (¬261,cd "tie_of" 511 63 2 256 (.ref 258) (.ref 259) (.ref 260) 516) ::
 (¬262,fq 27 "tie_of" m1 261) ::
 (¬266,cd "tied_places" 519 65 2 263 .none .none (.ref 265) 522) ::
 (¬267,fq 28 "tied_places" m1 266) ::
 (¬271,cd "all_turns" 527 72 1 268 .none .none (.ref 270) 530) ::
 (¬272,fq 30 "all_turns" m2 271) ::
 (¬276,cd "form" 533 77 1 273 .none .none (.ref 275) 536) ::
 (¬277,fq 31 "form" m2 276) ::
 (¬283,cd "hangs" 541 81 1 278 (.ref 280) (.ref 281) (.ref 282) 545) ::
 (¬284,fq 33 "hangs" m3 283) ::
 (¬288,cd "parts" 548 84 1 285 .none .none (.ref 287) 551) ::
 (¬289,fq 34 "parts" m3 288) ::
 (¬293,cd "pieces" 554 87 1 290 .none .none (.ref 292) 557) ::
 (¬294,fq 35 "pieces" m3 293) ::
 (¬298,cd "rings_from" 560 92 2 295 .none .none (.ref 297) 563) ::
 (¬299,fq 36 "rings_from" m3 298) ::
 (¬303,cd "piece_at" 566 101 2 300 .none .none (.ref 302) 569) ::
 (¬304,fq 37 "piece_at" m3 303) ::
 (¬310,cd "_law_cell_at" 574 104 2 305 (.ref 307) (.ref 308) (.ref 309) 579) ::
 (¬311,fq 39 "_law_cell_at" m4 310) ::
 (¬317,cd "_law_state" 582 108 2 312 (.ref 314) (.ref 315) (.ref 316) 588) ::
 (¬318,fq 40 "_law_state" m4 317) ::
 (¬324,cd "_law_take" 591 113 2 319 (.ref 321) (.ref 322) (.ref 323) 598) ::
 (¬325,fq 41 "_law_take" m4 324) ::
 (¬331,cd "_law_named" 601 122 2 326 (.ref 328) (.ref 329) (.ref 330) 609) ::
 (¬332,fq 42 "_law_named" m4 331) ::
 (¬338,cd "_law_mixed" 612 127 2 333 (.ref 335) (.ref 336) (.ref 337) 619) ::
 (¬339,fq 43 "_law_mixed" m4 338) ::
 (¬345,cd "_law_tree" 622 133 2 340 (.ref 342) (.ref 343) (.ref 344) 630) ::
 (¬346,fq 44 "_law_tree" m4 345) ::
 (¬350,cd "_law_web" 633 139 1 347 .none .none (.ref 349) 636) ::
 (¬351,fq 45 "_law_web" m4 350) ::
 (¬355,cd "_law_near" 639 160 2 352 .none .none (.ref 354) 642) ::
 (¬356,fq 46 "_law_near" m4 355) ::
 (¬360,cd "_law_pieces" 645 162 1 357 .none .none (.ref 359) 648) ::
 (¬361,fq 47 "_law_pieces" m4 360) ::
 (¬365,cd "_law_same" 651 172 2 362 .none .none (.ref 364) 654) ::
 (¬366,fq 48 "_law_same" m4 365) ::
 (¬370,cd "_law_turns" 657 180 1 367 .none .none (.ref 369) 660) ::
 (¬371,fq 49 "_law_turns" m4 370) ::
 (¬375,cd "_law_form" 663 188 1 372 .none .none (.ref 374) 666) ::
 (¬376,fq 50 "_law_form" m4 375) ::
 (¬380,cd "_law_within" 669 190 2 377 .none .none (.ref 379) 672) ::
 (¬381,fq 51 "_law_within" m4 380) ::
 (¬387,cd "_law_bad_web" 675 193 1 382 (.ref 384) (.ref 385) (.ref 386) 680) ::
 (¬388,fq 52 "_law_bad_web" m4 387) ::
 (¬392,cd "_law_refused" 683 198 1 389 .none .none (.ref 391) 686) ::
 (¬393,fq 53 "_law_refused" m4 392) ::
 (¬397,cd "law" 689 212 1 394 .none .none (.ref 396) 692) ::
 (¬398,fq 54 "law" m4 397)::[]
abbrev as:List Addr:=[¬3,¬4,¬24,¬23,¬37,¬36,¬49,¬61,¬73,¬85,¬97,¬109,¬121,¬133,¬145,¬157,¬169,¬181,¬193,¬212,¬220,¬221,¬227,¬228,¬232,¬233,¬237,¬238,¬242,¬243,¬249,¬250,¬254,¬255,¬261,¬262,¬266,¬267,¬271,¬272,¬276,¬277,¬283,¬284,¬288,¬289,¬293,¬294,¬298,¬299,¬303,¬304,¬310,¬311,¬317,¬318,¬324,¬325,¬331,¬332,¬338,¬339,¬345,¬346,¬350,¬351,¬355,¬356,¬360,¬361,¬365,¬366,¬370,¬371,¬375,¬376,¬380,¬381,¬387,¬388,¬392,¬393,¬397,¬398]
nonrec abbrev as2:List Addr:=nat_lit 395 ::  as
abbrev qv:Program:={ PySem.Challenge.pw_websbykind_k40_webs_that_hang_together with main:={ PySem.Challenge.pw_websbykind_k40_webs_that_hang_together.main with body:=[st 1,st 2,st 3,st 4,st 5,st 6,st 7,st 8,st 9,st 10,st 11,st 12,st 13,st 14,st 15,st 16,st 18,st 19,st 21,st 22,st 23,st 24,st 25,st 26,st 27,st 28,st 30,st 31,st 33,st 34,st 35,st 36,st 37,st 39,st 40,st 41,st 42,st 43,st 44,st 45,st 46,st 47,st 48,st 49,st 50,st 51,st 52,st 53,st 54]}}
def Y0(P:Params):as2=(rE [395] K P).map (·.1):=by kernel_rfl
def op:PySem.W.opening PySem.Challenge.rw_websbykind_k40_webs_that_hang_together.row.prog=PySem.W.plainProg PySem.Challenge.rw_websbykind_k40_webs_that_hang_together.row.prog.main.scope.names:=by kernel_rfl
def fe:∀s,PySem.fenceModules? PySem.Challenge.rw_websbykind_k40_webs_that_hang_together.row.prog s=!s:=λs=>by kernel_rfl
def hl:PySem.W.LeftO PySem.Challenge.rw_websbykind_k40_webs_that_hang_together.row.prog qv [] (λs=>PySem.W.xlAt qv [] s&&PySem.W.recOk (PySem.W.OpenRow.toRowW PySem.Challenge.rw_websbykind_k40_webs_that_hang_together.row).records s) (λs=>as2.map s.heap.get?) (λw=>(rE [395] K w.params).map λp:Nat×Obj=>!p.2) 8000:=CQ op ⋯ fe YZ λw os=>by kernel_rfl
end eU
namespace Ev
open PySem PySem.W
end Ev
namespace L2
def Key:=Sum Int Str
abbrev Rr:Key->Value->Bool
 |.inl k,v=>Value.isInt k v
 |.inr x,v=>Value.isStrOf x v
abbrev keyH(w:World):Key->Int
 |.inl k=>hashInt k
 |.inr x=>hashStr w x
def bz:∀{k:Key}{v:Value},Rr k v=true->(∃i t,k=Sum.inl i/\v=Value.int i t)\/(∃x t,k=Sum.inr x/\v=Value.str x t)
 |.inl i,v,h=>by
  let(t,e):=Value.isInt_shape h;show .inl #[i,t,rfl,e]
 |.inr x,v,h=>by
  let(t,e):=Value.isStrOf_shape h;show .inr #[x,t,rfl,e]
def SN(a b:Int):decide ((Sum.inl a:Key)=Sum.inl b)=(a==b):=by
 by_cases e:a=b
 . subst e;simp
 .
  have h : ¬ (Sum.inl a:Key)=Sum.inl b:=λq=>e (Sum.inl.inj q)
  rw[nE h];show (beq_eq_false_iff_ne.mpr e).symm
def SQ(a b:Str):decide ((Sum.inr a:Key)=Sum.inr b)=decide (a=b):=by
 by_cases e:a=b
 . subst e;simp
 .
  have h : ¬ (Sum.inr a:Key)=Sum.inr b:=λq=>e (Sum.inr.inj q)
  rw[nE h,nE e]
def SX(a:Int)(b:Str):decide ((Sum.inl a:Key)=Sum.inr b)=false:=nE (λq=>nomatch q)
def S0(a:Str)(b:Int):decide ((Sum.inr a:Key)=Sum.inl b)=false:=nE (λq=>nomatch q)
abbrev tE(prog:Program)(w:World):PySem.KeyKind prog w Key where
 is:=Rr
 hash:=keyH w
 inj:=λv a b ha hb=>by
  rcases bz ha with ⟨i,t,rfl,rfl⟩ |⟨x,t,rfl,rfl⟩
  .
   rcases bz hb with ⟨j,u,rfl,e⟩ |⟨y,u,rfl,e⟩
   . injection e with e1 _;rw[e1]
   . show nomatch e
  .
   rcases bz hb with ⟨j,u,rfl,e⟩ |⟨y,u,rfl,e⟩
   . show nomatch e
   . injection e with e1 _;rw[e1]
 byValue:=λk v h=>by
  rcases bz h with ⟨i,t,rfl,rfl⟩ |⟨x,t,rfl,rfl⟩ <;> rfl
 pyHash:=λhv h=>by
  rcases bz hv with ⟨i,t,rfl,rfl⟩ |⟨x,t,rfl,rfl⟩
  . show wpAny_pyHash_int h
  . show wpAny_pyHash_str h
 eqBool:=λhu hv h=>by
  rcases bz hu with ⟨i,t,rfl,rfl⟩ |⟨x,t,rfl,rfl⟩
  .
   rcases bz hv with ⟨j,u,rfl,rfl⟩ |⟨y,u,rfl,rfl⟩
   . rw[SN]at h;show wpAny_eqBool_int h
   . rw[SX]at h;show SeqAt.EqAt.int_str i t y u _ _ _ _ h
  .
   rcases bz hv with ⟨j,u,rfl,rfl⟩ |⟨y,u,rfl,rfl⟩
   . rw[S0]at h;show SeqAt.EqAt.str_int x t j u _ _ _ _ h
   . rw[SQ]at h;show wpAny_eqBool_str h
 «strs»:=λk x t v h=>by
  rcases bz h with ⟨i,u,rfl,e⟩ |⟨y,u,rfl,e⟩
  . show nomatch e
  . injection e with e1 _;subst e1;cases v <;> rfl
inductive V where
 |non |bl (b:Bool) |int (i:Int) |str (x:Str) |S8 (b:Array UInt8) |flt (b:UInt64) |ref (a:Addr) |ty (n:String)
 deriving DecidableEq
abbrev RelV:V->Value->Prop
 |.non,u=>u=Value.none
 |.bl b,u=>u=Value.bool b
 |.int i,u=>∃t,u=Value.int i t
 |.str x,u=>∃t,u=Value.str x t
 |.S8 b,u=>∃t,u=Value.bytes b t
 |.flt b,u=>∃t,u=Value.float b t
 |.ref a,u=>u=Value.ref a
 |.ty n,u=>u=Value.type n
meta abbrev Vals:List V->List Value->Prop:=Paired RelV
def Vals.length{xs:List V}{us:List Value}(r:Vals xs us):xs.length=us.length:=Paired.length r
def Vals.get:∀{xs:List V}{us:List Value}{i:Nat}{x:V},Vals xs us->xs[i]?=!x->∃u,us[i]?=!u/\RelV x u
 |_,_,_,_,.nil,e=>by simp at e
 |_,_,0,_,.cons r _,e=>by simp at e;subst e;show#[_,rfl,r]
 |_,_,i+1,x,.cons _ t,e=>by
  let(u,h1,h2):=Vals.get t (by simpa using e)
  show#[u,by simpa using h1,h2]
def Vals.set(r:RelV x u):∀{xs:List V}{us:List Value} (i:Nat),Vals xs us->Vals (xs.set i x) (us.set i u)
 |_,_,_,.nil=>.nil
 |_,_,0,.cons _ t=>.cons r t
 |_,_,i+1,.cons q t=>.cons q (Vals.set r i t)
def Vals.append:∀{xs ys:List V}{us ws:List Value},Vals xs us->Vals ys ws->Vals (xs++ys) (us++ws):=by
 intro xs ys us ws h s
 induction h with
 |nil=>show s
 |cons r t ih=>show .cons r ih
def Vals.take:∀{xs:List V}{us:List Value} (n:Nat),Vals xs us->Vals (xs.take n) (us.take n)
 |_,_,0,_=>.nil
 |_,_,_+1,.nil=>.nil
 |_,_,n+1,.cons r t=>.cons r (Vals.take n t)
def Vals.drop:∀{xs:List V}{us:List Value} (n:Nat),Vals xs us->Vals (xs.drop n) (us.drop n)
 |_,_,0,r=>r
 |_,_,_+1,.nil=>.nil
 |_,_,n+1,.cons _ t=>Vals.drop n t
abbrev Y3:Option V->Option Value->Prop
 |!v,!u=>RelV v u
 |none,none=>True
 |_,_=>False
abbrev KV{κ:Type}:List (κ×V)->List (κ×Value)->Prop:=Paired λ(p:κ×V) (q:κ×Value)=>p.1=q.1/\RelV p.2 q.2
abbrev kV:Key->V
 |.inl i=>.int i
 |.inr x=>.str x
inductive HO where
 |lst (xs:List V)
 |tup (xs:List V)
 |dK (lH:List (Key×V)) |dT (lH:List (List Key×V))
 |set (φ:Obj->Prop)
 |ins (C dx:Addr) (fs:List (Str×V))
 |own (x:Addr)
 |xd (fs:List (Str×V))
 |met (f x:Addr)
 |qL (lo hi:Int)
 |cU (o:Obj) (u:HO)
 |nh (ps:Array Value)
 |ext (φ:Heap->Prop)
def Hp:=Addr->Option HO
abbrev upd(H:Hp)(a:Addr)(o:HO):Hp:=λb=>if b=a then some o else H b
def aA:upd H a o a=!o:=by delta upd;rw[i8 rfl]
def az(h:b≠a):upd H a o b=H b:=by delta upd;rw[i7 h]
def aJ{H:Hp}{a b:Addr}{o:HO}(h:H a=!o)(h':H b=none):a≠b:=by intro e;subst e;rw[h]at h';cases h'
abbrev gG(h:Heap)(a:Addr)(its:Array Value):Prop:=∃o,h.get? a=!o/\(o.cls=.type "tuple" /\∃n,o.data=.seq its n)/\o.dict=none
def gG.tup{h:Heap}{a:Addr}{its:Array Value}(x:gG h a its):IsTup h a its:=let #[o,e,c,_]:=x;#[o,e,c]
def gG.new(h:Heap)(its:Array Value):gG (h.push { cls:=.type "tuple",data:=.seq its}) h.objs.size its:=#[_,eC _ rfl,#[rfl,_,rfl],rfl]
section
variable(P:Program)(w:World)
abbrev cW(H:Hp)(h:Heap)(a:Addr):HO->Prop
 |.lst xs=>xs.length<=sizeLine/\∃(its:List Value) (n:Nat),Vals xs its/\h.get? a=some { cls:=.type "list",data:=.seq its.toArray n}
 |.tup xs=>xs.length<=sizeLine/\∃its:List Value,Vals xs its/\gG h a its.toArray
 |.dK lH=>lH.length<=sizeLine/\(a==sysModules)=false/\∃vs,KV lH vs/\h.DictOf (tE P w) a vs
 |.dT lH=>lH.length<=sizeLine/\(a==sysModules)=false/\∃xs:List (List Key×Addr×Value),
   Paired (λ(p:List Key×V) (q:List Key×Addr×Value)=>p.1=q.1/\H q.2.1=!(.tup (p.1.map kV))/\RelV p.2 q.2.2) lH xs/\
   ∃o es ep,h.get? a=!o/\o.ExactDict/\o.data=.dict es ep/\es.toList=xs.map (entryOfKey (tupleKind (tE P w)))/\(xs.map (·.1)).Nodup
 |.set φ=>∃o,h.get? a=!o/\o.ExactSet/\φ o
 |.ins C dx fs=>H dx=!(.own a)/\fs.length<=1000/\dx≠a/\h.get? a=!(PySem.W.instObj C dx)/\
   ∃mA,h.Ns1 dx mA/\(∀f,Y3 (fs.lookup f) (mA f))/\PySem.Within mA (fs.map (·.1))
 |.own _=>∃o,h.get? a=!o
 |.xd fs=>∃mA,h.Ns1 a mA/\∀f,Y3 (fs.lookup f) (mA f)
 |.qL lo hi=>∃t u v,h.get? a=some { cls:=.type "range",data:=.fields ([.int lo t,.int hi u,.int 1 v].toArray)}
 |.cU o u=>h.get? a=!o/\cW H h a u
 |.nh ps=>h.get? a=some { cls:=.none,data:=.fields ps}
 |.met f x=>h.get? a=!(PySem.W.methodObj (.ref f) (.ref x))
 |.ext φ=>φ h/\(∃o,h.get? a=!o)/\∀h1 h2:Heap,φ h1->(∀o,h1.get? a=!o->h2.get? a=!o)->φ h2
abbrev lM(H:Hp)(h:Heap):Prop:=∀a o,H a=!o->cW P w H h a o
end
section
variable{P:Program}{w:World}{H H':Hp}{h h':Heap}{a:Addr}{o:HO}
def cW.lt(x:cW P w H h a o):a<h.objs.size:=by
 cases o with
 |lst xs=>let(_,_,_,_,e):=x;show eQ e
 |tup xs=>let(_,_,_,_,e,_):=x;show eQ e
 |dK lH=>let(_,_,_,_,o,_,_,e,_):=x;show eQ e
 |dT lH=>let(_,_,_,_,o,_,_,e,_):=x;show eQ e
 |set φ=>let(o,e,_):=x;show eQ e
 |ins C dx fs=>let(_,_,_,e,_):=x;show eQ e
 |own y=>let(_,e):=x;show eQ e
 |xd fs=>let(_,(_,_,_,e,_),_):=x;show eQ e
 |qL lo hi=>let(_,_,_,e):=x;show eQ e
 |cU ob u=>let(e,_):=x;show eQ e
 |nh ps=>show eQ (show h.get? a=!_ from x)
 |met f y=>show eQ (show h.get? a=!_ from x)
 |ext φ=>let(_,(_,e),_):=x;show eQ e
def Paired.mapP{α β:Type}{F G:α->β->Prop}:∀{l₁:List α}{l₂:List β},Paired F l₁ l₂->(∀a b,F a b->G a b)->Paired G l₁ l₂:=by
 intro l₁ l₂ h f
 induction h with
 |nil=>show .nil
 |cons r t ih=>show .cons (f _ _ r) ih
def cW.stay(x:cW P w H h a o)(k:∀b u,(b=a\/H b=!(.own a))->h.get? b=!u->h'.get? b=!u)
  (ho:∀b,H b=!(.own a)->H' b=!(.own a)) (ht:∀b xs,H b=!(.tup xs)->H' b=!(.tup xs)):cW P w H' h' a o:=by
 induction o with
 |lst xs=>let(z,its,n,r,e):=x;show#[z,its,n,r,k _ _ (.inl rfl) e]
 |tup xs=>let(z,its,r,ob,e,c):=x;show#[z,its,r,ob,k _ _ (.inl rfl) e,c]
 |dK lH=>let(z,y,vs,r,ob,es,ep,e,c):=x;show#[z,y,vs,r,ob,es,ep,k _ _ (.inl rfl) e,c]
 |dT lH=>let(z,y,xs,r,ob,es,ep,e,c):=x;show#[z,y,xs,Paired.mapP r λp q z=>#[z.1,ht _ _ z.2.1,z.2.2],ob,es,ep,k _ _ (.inl rfl) e,c]
 |set φ=>let(ob,e,c):=x;show#[ob,k _ _ (.inl rfl) e,c]
 |ins C dx fs=>let(d,z,ne,e,mA,(od,es,ep,e2,c),r):=x;show#[ho _ d,z,ne,k _ _ (.inl rfl) e,mA,#[od,es,ep,k _ _ (.inr d) e2,c],r]
 |own y=>let(ob,e):=x;show#[ob,k _ _ (.inl rfl) e]
 |xd fs=>let(mA,(od,es,ep,e,c),r):=x;show#[mA,#[od,es,ep,k _ _ (.inl rfl) e,c],r]
 |qL lo hi=>let(t,u,v,e):=x;show#[t,u,v,k _ _ (.inl rfl) e]
 |cU ob u ih=>let(e,q):=x;show#[k _ _ (.inl rfl) e,ih q]
 |nh ps=>have e:=x;show k a _ (.inl rfl) e
 |met f y=>have e:=x;show k a _ (.inl rfl) e
 |ext φ=>let(p,(o,e),st):=x;show#[st _ _ p λo q=>k _ _ (.inl rfl) q,#[o,k _ _ (.inl rfl) e],st]
def lM.lt(x:lM P w H h)(e:H a=!o):a<h.objs.size:=(x a o e).lt
def lM.fresh(x:lM P w H h)(e:h.objs.size<=a):H a=none:=by
 cases q:H a with
 |none=>rfl
 |some u=>show absurd (eM (x.lt q) e) (nV _)
def lM.kept(x:lM P w H h)(k:∀b u,h.get? b=!u->h'.get? b=!u):lM P w H h':=λa o e=>
 (x a o e).stay (λb u _ q=>k b u q) (λ_ q=>q) λ_ _ q=>q
def lM.laid(x:lM P w H h)(k:∀b u,h.get? b=!u->h'.get? b=!u)(hp:h.objs.size<=a)(new:cW P w (upd H a o) h' a o):lM P w (upd H a o) h':=λb u e=>by
 have hn:=x.fresh hp;by_cases hb:b=a
 . subst hb;rw[aA]at e;cases e;show new
 . rw[az hb]at e;show (x b u e).stay (λc v _ q=>k c v q) (λc q=>by rw[az (aJ q hn)];show q) λc xs q=>by rw[az (aJ q hn)];show q
end
abbrev Rd(H:Hp)(a:Addr)(u:HO):Prop:=H a=!u\/∃o,H a=!(.cU o u)
def Rd.ok{P:Program}{w:World}{H:Hp}{h:Heap}{a:Addr}{u:HO}(r:Rd H a u)(x:lM P w H h):cW P w H h a u:=by
 rcases r with r |⟨o,r⟩
 . show x a u r
 . let(_,q):=x a _ r;show q
abbrev Mut:Option HO->Prop
 |!(.lst _)=>True
 |!(.dK _)=>True
 |!(.dT _)=>True
 |!(.set _)=>True
 |!(.ins _ _ _)=>True
 |!(.ext _)=>True
 |_=>False
section
variable{P:Program}{w:World}{H:Hp}{h h':Heap}{x e:Addr}{o':HO}
def lM.write(ok:lM P w H h)(mu:Mut (H x))(he:e=x\/H e=!(.own x))(k:∀b u,b≠e->h.get? b=!u->h'.get? b=!u)(Yg:∃u,h'.get? e=!u)
  (new:cW P w (upd H x o') h' x o'):lM P w (upd H x o') h':=λb u q=>by
 have Y4:∀c y,H c=!(.own y)->c≠x:=λc y r z=>by subst z;rw[r]at mu;show mu
 have ntup:∀c xs,H c=!(.tup xs)->c≠x:=λc xs r z=>by subst z;rw[r]at mu;show mu
 by_cases hb:b=x
 . subst hb;rw[aA]at q;cases q;show new
 .
  rw[az hb]at q;by_cases S9:b=e
  .
   have q':H b=!(.own x):=by
    rcases he with z |z
    . show absurd (S9.trans z) hb
    . rw[S9];show z
   rw[q]at q';cases q';let(v,hv):=Yg;show#[v,by rw[S9];show hv]
  .
   apply (ok b u q).stay (λc v hc r=>k c v ?_ r) (λc r=>by rw[az (Y4 c b r)];show r) λc xs r=>by rw[az (ntup c xs r)];show r
   rcases hc with rfl |hc
   . show S9
   .
    rintro rfl;rcases he with z |z
    . show Y4 c b hc z
    . rw[hc]at z;cases z;show hb rfl
end
structure Un(fs ex:List Addr)(H H':Hp)(h h':Heap):Prop where
 keep:∀b o,h.get? b=!o->H b=none->b∉fs->b∉ex->h'.get? b=!o
 slot:∀b o,h.get? b=!o->H b=none->b∈fs->b∉ex->∃sl,h'.get? b=some { o with slots:=sl}
 free:∀b o,h.get? b=!o->H b=none->b∉ex->H' b=none
 there:∀b o,h.get? b=!o->b∉ex->∃o',h'.get? b=!o'
 tups:∀b xs,H b=!(.tup xs)->H' b=!(.tup xs)
 kB:∀b o u,H b=!(.cU o u)->H' b=!(.cU o u)
 kD:∀b ps,H b=!(.nh ps)->∃more,H' b=!(.nh (ps++more))
section
variable{fs fs' ex ex':List Addr}{H H1 H2:Hp}{h h1 h2 h':Heap}{a x e:Addr}{o:HO}
def Un.any(u:Un fs ex H H1 h h1){b:Addr}{ob:Obj}(q:h.get? b=!ob)(n:H b=none)(hx:b∉ex):∃sl,h1.get? b=some { ob with slots:=sl}:=by
 by_cases hb:b∈fs
 . show u.slot b ob q n hb hx
 . show#[ob.slots,u.keep b ob q n hb hx]
def Un.kept(k:∀b u,h.get? b=!u->h'.get? b=!u):Un fs ex H H h h':=
 #[λb ob q _ _ _=>k b ob q,λb ob q _ _ _=>#[ob.slots,k b ob q],λ_ _ _ n _=>n,λb ob q _=>#[ob,k b ob q],λ_ _ q=>q,λ_ _ _ q=>q,λ_ ps q=>#[([].toArray),by rw[q];simp]]
def Un.refl:Un fs ex H H h h:=Un.kept λ_ _ q=>q
def Un.laid(k:∀b u,h.get? b=!u->h'.get? b=!u)(hp:h.objs.size<=a)(hn:H a=none):Un fs ex H (upd H a o) h h' where
 keep:=λb u q _ _ _=>k b u q
 slot:=λb u q _ _ _=>#[u.slots,k b u q]
 free:=λb u q n _=>by rw[az (kS (eM (eQ q) hp))];show n
 there:=λb u q _=>#[u,k b u q]
 tups:=λb xs q=>by rw[az (aJ q hn)];show q
 kB:=λb u xs q=>by rw[az (aJ q hn)];show q
 kD:=λb ps q=>#[([].toArray),by rw[az (aJ q hn),q];simp]
def Un.write(mu:Mut (H x))(he:e=x\/H e=!(.own x))(k:∀b u,b≠e->h.get? b=!u->h'.get? b=!u)(Yg:∃u,h'.get? e=!u):Un fs ex H (upd H x o) h h':=by
 have hx:∀b,H b=none->b≠x:=λb n z=>by subst z;rw[n]at mu;show mu
 have hb:∀b,H b=none->b≠e:=λb n z=>by
  subst z;rcases he with r |r
  . show hx b n r
  . rw[n]at r;cases r
 have hm:∀b u,H b=!u->¬ Mut (!u)->b≠x:=λb u q nm z=>by subst z;rw[q]at mu;show nm mu
 apply#[λb u q n _ _=>k b u (hb b n) q,λb u q n _ _=>#[u.slots,k b u (hb b n) q],λb u q n _=>by rw[az (hx b n)];show n,λb u q _=>?_,
  λb xs q=>by rw[az (hm b _ q λz=>z)];show q,λb u xs q=>by rw[az (hm b _ q λz=>z)];show q,λb ps q=>#[([].toArray),by rw[az (hm b _ q λz=>z),q];simp]]
 by_cases S9:b=e
 . subst S9;show Yg
 . show#[u,k b u S9 q]
end
abbrev trk(h:Heap)(H:Hp):List Addr:=(List.range h.objs.size).filter λa=>(H a).isSome
abbrev tF(h:Heap)(H:Hp):Heap:=PySem.W.hideAll h (trk h H)
def CT(h:Heap)(H:Hp):(tF h H).objs.size=h.objs.size:=PySem.W.hideAll_size _ _
def Gy(e:h.get? b=!o)(n:H b=none):(tF h H).get? b=!o:=
 PySem.W.hideAll_get _ e λhm=>by
  have q:=(i4.mp hm).2;rw[n]at q;simp at q
def L8(e:(tF h H).get? b=!o):h.get? b=!o/\H b=none:=by
 have e':=PySem.W.of_hideAll (trk h H) e;apply#[e',?_];cases q:H b with
 |none=>rfl
 |some x=>
  have hm:b∈trk h H:=i4.mpr #[t6.mpr (eQ e'),by simp[q]]
  have z:(tF h H).get? b=none:=PySem.W.hideAll_none (trk h H) hm;rw[z]at e;cases e
abbrev Ma(g h:Heap)(L:Addr): ~~~1:=(List.range h.objs.size).filterMap λa=>if a=L\/(g.get? a).isSome=true then none else (h.get? a).map λo=>(a,o)
abbrev rest(g h:Heap)(L d:Addr): ~~~1:=(Ma g h L).filter λp=>decide (p.1≠d)
structure Mod(K:Frag)(mg:Str->Option Value)(base:Heap):Prop where
 yy:K.In base
 glob:base.Ns mainGlobals mg
 blt:∃mb,base.Ns builtinsNs mb/\∀x:Str,x≠ "__name__" ->mb x=bootBuiltins x
 nolimit:base.NoLimit
structure Cx where
 prog:Program
 w:World
 K:Frag
 mg:Str->Option Value
 base:Heap
 A:Around
 N:List Str
 s₀:Shared
 H₀:Hp
 env:Env
 outer:List Env
 stack:List Env
 ex:List Addr
 fn:Str->Bool
 calm:Bool
 pn:List (Addr×Obj)
 xe:Value->Shared->Prop
abbrev frs(l:List Env):List Addr:=l.filterMap (·.frame)
meta abbrev Cx.fs(X:Cx):List Addr:=frs X.outer
abbrev kj(sc:Scope)(x:Str):Prop:=sc.names.lookup x=some .local\/sc.names.lookup x=some .cell\/sc.names.lookup x=some .free
abbrev Loc(sc:Scope)(x:Str):Prop:=sc.names.lookup x=some .local\/sc.names.lookup x=some .cell
abbrev Look(env:Env)(h:Heap)(m:Str->Option Value)(x:Str)(u:Value):Prop:=
 (env.kindOf x=some .local/\m x=!u)\/((env.kindOf x=some .cell\/env.kindOf x=some .free)/\∃c,env.cells.lookup x=!c/\h.IsCell c (!u))
structure Cx.Ok(X:Cx):Prop where
 mod:Mod X.K X.mg X.base
 kind:X.env.scope.kind=.function
 glob:X.env.globals=mainGlobals
 blt:X.env.builtins=builtinsNs
 above:X.s₀⁻¹<=X.env.locals
 inj:∀x y c,X.env.cells.lookup x=!c->X.env.cells.lookup y=!c->x=y
 has:∀x,(X.env.kindOf x=some .cell\/X.env.kindOf x=some .free)->∃c,X.env.cells.lookup x=!c
 Tc:∀x c,X.fn x=true->X.env.cells.lookup x=!c->X.s₀⁻¹<=c
 hd:X.calm=true->X.A.handled=none
 frames:X.A.frames=!X.stack
 stk:X.stack=X.outer\/(X.stack=X.env::X.outer/\X.env.frame=!X.env.locals)
 Yh:∀b∈X.ex,b≠X.env.locals/\∀x c,X.env.cells.lookup x=!c->c≠b
 bs:∀b o,X.base.get? b=!o->X.s₀.heap.get? b=!o/\X.H₀ b=none
 Gz:X.base.objs.size<=X.s₀⁻¹
 vn:∀b o,X.base.get? b=!o->b∉X.ex
 yz:∀b∈X.ex,b∉X.fs
 kF:X.s₀.heap.FunFrames X.base X.outer
 Mf:∀b∈X.fs,X.H₀ b=none
structure Inv(X:Cx)(aj: ~~~1)(Y:List (Option V))(H:Hp)(s:Shared):Prop where
 ok:X.Ok
 os:s.os=X.s₀.os
 bare:AllBare s.gens
 base:Un X.fs X.ex X.H₀ H X.s₀.heap s.heap
 loc:∃m,s.heap.Ns X.env.locals m/\∀(i:Nat) (x:Str) (v:V),X.N[i]?=!x->Y[i]?=!(!v)->kj X.env.scope x->∃u,RelV v u/\Look X.env s.heap m x u
 cell:∀x c,X.env.cells.lookup x=!c->∃v,s.heap.IsCell c v
 free:H X.env.locals=none
 dP:∀x c,X.env.cells.lookup x=!c->H c=none
 pin:∀p∈X.pn++aj,s.heap.get? p.1=!p.2/\H p.1=none/\p.1≠X.env.locals/\p.1∉X.fs/\∀v,p.2.data≠.cell v
 hok:lM X.prog X.w H s.heap
 len:Y.length=X.N.length
section
variable{X:Cx}{aj: ~~~1}{Y:List (Option V)}{H H':Hp}{s:Shared}{h':Heap}
def Cx.Ok.nofr(ok:X.Ok)(e:X.base.get? b=!o):b∉X.fs:=λhb=>by
 have:=(ok.kF.mem hb).1;rw[e]at this;cases this
def Inv.bs(I: ~~~7):∀b o,X.base.get? b=!o->s.heap.get? b=!o/\H b=none:=λb o e=>
 #[I.base.keep b o (I.ok.bs b o e).1 (I.ok.bs b o e).2 (I.ok.nofr e) (I.ok.vn b o e),I.base.free b o (I.ok.bs b o e).1 (I.ok.bs b o e).2 (I.ok.vn b o e)]
def Inv.bk(I: ~~~7):∀b o,X.base.get? b=!o->s.heap.get? b=!o:=λb o e=>(I.bs b o e).1
def Inv.mod(I: ~~~7):Mod X.K X.mg X.base:=I.ok.mod
def Inv.nZ(I: ~~~7):X.K.In s.heap:=I.ok.mod.yy.keeps I.bk
def Inv.nolimit(I: ~~~7):s.heap.NoLimit:=I.ok.mod.nolimit.keeps I.bk
def Inv.lt(I: ~~~7):X.env.locals<s⁻¹:=let #[_,hn,_]:=I.loc;hn.lt
def Inv.sz(I: ~~~7):X.s₀⁻¹<=s⁻¹:=l7 I.ok.above (CH I.lt)
def Inv.nofs(I: ~~~7)(h:s⁻¹<=a):a∉X.fs:=λhb=>by
 let(_,o,ho,_):=I.ok.kF.mem hb;show absurd (eM (eQ ho) (l7 I.sz h)) (nV _)
def Inv.Td(I: ~~~7):∀x c,X.env.cells.lookup x=!c->c≠X.env.locals:=λx c e z=>by
 let(v,o,ho,hd):=I.cell x c e;let(m,(o',es,ep,ho',hd',_),_):=I.loc;rw[z,ho']at ho;cases ho;rw[hd']at hd;cases hd
def Inv.kF(I: ~~~7):s.heap.FunFrames X.base X.outer:=by
 have all:∀(l:List Env),(∀b∈frs l,b∈X.fs)->X.s₀.heap.FunFrames X.base l->s.heap.FunFrames X.base l:=by
  intro l
  induction l with
  |nil=>intro _ _;trivial
  |cons env r ih=>
   intro hs hl;let(hk,(L,o,hf,hn,ho,hd),hr):=hl;have hL:=hs L (by delta frs;rw[u4,hf];show dA)
   let(sl,e):=I.base.slot L o ho (I.ok.Mf L hL) hL λz=>I.ok.yz L z hL
   show#[hk,#[L,_,hf,hn,e,hd],ih (λb hb=>hs b (by delta frs;rw[u4,hf];show bP _ hb)) hr]
 show all X.outer (λ_ hb=>hb) I.ok.kF
def Inv.stack(I: ~~~7):s.heap.FunFrames X.base X.stack:=by
 rcases I.ok.stk with e |⟨e,hf⟩
 . rw[e];show I.kF
 .
  rw[e];let(m,hn,_):=I.loc;apply .cons (by rw[I.ok.kind];decide) hf hn ?_ I.kF
  show Heap.get?_none_of_le (l7 I.ok.Gz I.ok.above)
def Inv.yC(I: ~~~7):∀b∈frs X.stack,b∈X.env.locals::X.fs:=λb hb=>by
 rcases I.ok.stk with e |⟨e,hf⟩
 . rw[e]at hb;show bP _ hb
 . rw[e]at hb;delta frs at hb;rw[u4,hf]at hb;show hb
def Inv.tG(I: ~~~7):∀b∈frs X.stack,H b=none:=λb hb=>by
 rcases dS.mp (I.yC b hb)with e |hb
 . rw[e];show I.free
 . let(_,o,ho,_):=I.ok.kF.mem hb;show I.base.free b o ho (I.ok.Mf b hb) λz=>I.ok.yz b z hb
def Inv.step{g':Array GenState}{t':Nat}{d':Drawn}{ch:List Addr}(I: ~~~7)
  (hch:∀b∈ch,(b∈X.ex\/X.s₀⁻¹<=b)/\b≠X.env.locals/\(∀x c,X.env.cells.lookup x=!c->c≠b)/\∀p∈X.pn++aj,p.1≠b)
  (keep:∀b o,b≠X.env.locals->b∉X.fs->b∉ch->s.heap.get? b=!o->H b=none->h'.get? b=!o)
  (slot:∀b o,b≠X.env.locals->b∈X.fs->b∉ch->s.heap.get? b=!o->H b=none->∃sl,h'.get? b=some { o with slots:=sl}) (free:∀b o,b∉ch->s.heap.get? b=!o->H b=none->H' b=none)
  (there:∀b o,b∉ch->s.heap.get? b=!o->∃o',h'.get? b=!o')
  (tups:∀b xs,H b=!(.tup xs)->H' b=!(.tup xs)) (kB:∀b o u,H b=!(.cU o u)->H' b=!(.cU o u)) (kD:∀b ps,H b=!(.nh ps)->∃more,H' b=!(.nh (ps++more)))
  (ns:∀m,s.heap.Ns X.env.locals m->h'.Ns X.env.locals m) (hok:lM X.prog X.w H' h') (hg:AllBare g') :
  Inv X aj Y H' { s with heap:=h',gens:=g',drawn:=d',toks:=t'}:=by
 have neL:∀b o,X.s₀.heap.get? b=!o->b≠X.env.locals:=λb o e=>kS (eM (eQ e) I.ok.above)
 have neC:∀b o,X.s₀.heap.get? b=!o->b∉X.ex->b∉ch:=λb o e hx hb=>by
  rcases (hch b hb).1 with z |z
  . show hx z
  . show absurd (eM (eQ e) z) (nV _)
 have cellK:∀x c,X.env.cells.lookup x=!c->∀v,s.heap.IsCell c v->h'.IsCell c v:=by
  rintro x c e v ⟨o,ho,hd⟩;have Y5:c∉ch:=λz=>(hch c z).2.2.1 x c e rfl
  by_cases hc:c∈X.fs
  . let(sl,q):=slot c o (I.Td x c e) hc Y5 ho (I.dP x c e);show#[_,q,hd]
  . show#[o,keep c o (I.Td x c e) hc Y5 ho (I.dP x c e),hd]
 apply#[I.ok,I.os,hg,#[λb o e n hb hx=>?_,λb o e n hb hx=>?_,λb o e n hx=>?_,λb o e hx=>?_,λb xs e=>tups b xs (I.base.tups b xs e),λb o xs e=>kB b o xs (I.base.kB b o xs e),λb ps e=>?_],?_,λx c e=>?_,?_,λx c e=>?_,λp hp=>?_,hok,I.len]
 . show keep b o (neL b o e) hb (neC b o e hx) (I.base.keep b o e n hb hx) (I.base.free b o e n hx)
 . let(sl,e1):=I.base.slot b o e n hb hx;let(sl',e2):=slot b _ (neL b o e) hb (neC b o e hx) e1 (I.base.free b o e n hx);show#[sl',e2]
 . let(o',e1):=I.base.there b o e hx;show free b o' (neC b o e hx) e1 (I.base.free b o e n hx)
 . let(o',e1):=I.base.there b o e hx;show there b o' (neC b o e hx) e1
 . let(m1,e1):=I.base.kD b ps e;let(m2,e2):=kD b _ e1;show#[m1++m2,by rw[e2,Array.append_assoc]]
 .
  let(m,hn,hl):=I.loc;apply#[m,ns m hn,λi x v e1 e2 e3=>?_]
  let(u,r,l):=hl i x v e1 e2 e3;apply#[u,r,?_];rcases l with l |⟨k,c,e,z⟩
  . show .inl l
  . show .inr #[k,c,e,cellK x c e _ z]
 . let(v,z):=I.cell x c e;show#[v,cellK x c e v z]
 . let(m,(o,_,_,ho,_),_):=I.loc;show free _ o (λz=>(hch _ z).2.1 rfl) ho I.free
 . let(v,o,ho,hd):=I.cell x c e;show free c o (λz=>(hch c z).2.2.1 x c e rfl) ho (I.dP x c e)
 .
  let(e,n,ne,nf,d):=I.pin p hp;have Y5:p.1∉ch:=λz=>(hch p.1 z).2.2.2 p hp rfl
  show#[keep p.1 p.2 ne nf Y5 e n,free p.1 p.2 Y5 e n,ne,nf,d]
def Inv.un{t':Nat}(I: ~~~7)(u:Un X.fs [] H H' s.heap h')(hok:lM X.prog X.w H' h'):Inv X aj Y H' { s with heap:=h',toks:=t'}:=by
 let(m,(o,es,ep,ho,r),_):=id I.loc;let(sl,hL):=u.any ho I.free ⋯;show I.step (ch:=[]) (λ_ z=>nomatch z) (λb o _ hb _ e n=>u.keep b o e n hb ⋯) (λb o _ hb _ e n=>u.slot b o e n hb ⋯) (λb o _ e n=>u.free b o e n ⋯) (λb o _ e=>u.there b o e ⋯) u.tups u.kB u.kD (λm' hm=>by
  let(o',es',yD,ho',r'):=hm;rw[ho]at ho';cases ho';show#[_,es',yD,hL,r']) hok I.bare
def Inv.call{g':Array GenState}{t':Nat}{d':Drawn}{ch:List Addr}(I: ~~~7)(u:Un (frs X.stack) ch H H' s.heap h')(hok:lM X.prog X.w H' h')(hg:AllBare g')
  (hch:∀b∈ch,(b∈X.ex\/X.s₀⁻¹<=b)/\b≠X.env.locals/\(∀x c,X.env.cells.lookup x=!c->c≠b)/\∀p∈X.pn++aj,p.1≠b) :
  Inv X aj Y H' { s with heap:=h',gens:=g',drawn:=d',toks:=t'}:=by
 let(m,(o,es,ep,ho,r),_):=id I.loc;let(sl,hL):=u.any ho I.free λz=>(hch _ z).2.1 rfl
 show I.step hch (λb o hL hb hc e n=>u.keep b o e n (λz=>(dS.mp (I.yC b z)).elim hL hb) hc) (λb o _ _ hc e n=>u.any e n hc) (λb o hc e n=>u.free b o e n hc) (λb o hc e=>u.there b o e hc) u.tups u.kB u.kD (λm' hm=>by
  let(o',es',yD,ho',r'):=hm;rw[ho]at ho';cases ho';show#[_,es',yD,hL,r']) hok hg
def Inv.turned{t':Nat}{it:Addr}(I: ~~~7)(k:∀b o,b≠it->s.heap.get? b=!o->h'.get? b=!o)(hn:H it=none)(hL:it≠X.env.locals)
  (h1:it∈X.ex\/X.s₀⁻¹<=it) (h2:∀x c,X.env.cells.lookup x=!c->c≠it) (h3:∀p∈X.pn++aj,p.1≠it):Inv X aj Y H { s with heap:=h',toks:=t'}:=by
 have nit:∀b u,H b=!u->b≠it:=λb u e z=>by rw[z,hn]at e;cases e
 apply I.step (ch:=[it]) (λb hb=>?_) (λb o _ _ hc e _=>k b o (λz=>hc (by simp[z])) e) (λb o _ _ hc e _=>#[o.slots,k b o (λz=>hc (by simp[z])) e]) (λ_ _ _ _ n=>n)
  (λb o hc e=>#[o,k b o (λz=>hc (by simp[z])) e]) (λ_ _ e=>e) (λ_ _ _ e=>e) (λb ps e=>#[([].toArray),by rw[e];simp]) (λm hm=>?_) (λb u e=>?_) I.bare
 .
  have e:b=it:=by simpa using hb
  subst e;show#[h1,hL,h2,h3]
 . let(o,es,ep,ho,r):=hm;show#[o,es,ep,k _ o (n0 hL) ho,r]
 .
  apply (I.hok b u e).stay (λc v hc q=>k c v ?_ q) (λ_ q=>q) λ_ _ q=>q
  rcases hc with z |z
  . rw[z];show nit b u e
  . show nit c _ z
def Inv.tok(I: ~~~7)(t:Nat):Inv X aj Y H { s with toks:=t}:=I.un Un.refl I.hok
def Inv.kept{t':Nat}(I: ~~~7)(k:∀b u,s.heap.get? b=!u->h'.get? b=!u):Inv X aj Y H { s with heap:=h',toks:=t'}:=I.un (Un.kept k) (I.hok.kept k)
def Inv.laid{a:Addr}{o:HO}{t':Nat}(I: ~~~7)(k:∀b u,s.heap.get? b=!u->h'.get? b=!u)(hp:s⁻¹<=a)(new:cW X.prog X.w (upd H a o) h' a o) :
  Inv X aj Y (upd H a o) { s with heap:=h',toks:=t'}:=I.un (Un.laid k hp (I.hok.fresh hp)) (I.hok.laid k hp new)
def Inv.write(I: ~~~7)(mu:Mut (H x))(he:e=x\/H e=!(.own x))(k:∀b u,b≠e->s.heap.get? b=!u->h'.get? b=!u)(Yg:∃u,h'.get? e=!u)
  (new:cW X.prog X.w (upd H x o) h' x o):Inv X aj Y (upd H x o) { s with heap:=h',toks:=t'}:=I.un (Un.write mu he k Yg) (I.hok.write mu he k Yg new)
def Inv.Al(I: ~~~7)(h:∀p∈Y6,s.heap.get? p.1=!p.2/\H p.1=none/\p.1≠X.env.locals/\p.1∉X.fs/\∀v,p.2.data≠.cell v):Inv X Y6 Y H s:=
 #[I.ok,I.os,I.bare,I.base,I.loc,I.cell,I.free,I.dP,λp hp=>(oP.mp hp).elim (λz=>I.pin p (l8 _ z)) (h p),I.hok,I.len]
def n5{N:List Str}(hN:N.Nodup){i j:Nat}{x:Str}(a:N[i]?=!x)(b:N[j]?=!x):i=j:=by let(h1,e1):=dE.mp a;let(h2,e2):=dE.mp b;show (List.getElem_inj hN).mp (e1.trans e2.symm)
def lN{M:Model}{A:Around}{E:Value->Shared->Prop}{i:Nat}{x:Str}{v:V}{u:Value}{Q:Unit->Shared->Prop}(I: ~~~7)(hN:X.N.Nodup)(hi:X.N[i]?=!x)(hx:Loc X.env.scope x)(r:RelV v u)
  (h:∀s',Inv X aj (Y.set i (!v)) H s'->(∃a,Heap.SameBut a s.heap s'.heap/\(a=X.env.locals\/X.env.cells.lookup x=!a))->Q () s') (hf:X.fn x=true\/X.env.scope.names.lookup x=some .local:=by first |show .inl rfl |show .inr rfl |assumption):wpAny M A (storeName X.env x u) Q E s:=by
 let(m,hn,hl):=id I.loc;have hcls:(X.env.scope.kind==.class||(X.env.scope.kind==.module&&X.env.locals != X.env.globals))=false:=by rw[I.ok.kind];rfl
 have Y7:i<Y.length:=by rw[I.len];show (dE.mp hi).1
 have Td:=I.Td;have tracked:∀{a:Addr}{h':Heap},(∃o,s.heap.get? a=!o/\H a=none)->Heap.SameBut a s.heap h'->lM X.prog X.w H h':=λ{a h'} ha hs b ob e=>by
  let(_,_,hfree):=ha;apply (I.hok b ob e).stay (λc w' hc q=>(hs.2 c ?_).trans q) (λ_ q=>q) λ_ _ q=>q
  rintro rfl;rcases hc with rfl |hc
  . rw[hfree]at e;cases e
  . rw[hfree]at hc;cases hc
 rcases hx with hk |hk
 .
  apply wpAny_storeName_local hk hn (λh' hn' hs=>?_) hcls
  let(oL,_,_,hoL,_):=id hn;apply h _ #[I.ok,I.os,I.bare,#[λb o e n hb hx=>?_,λb o e n hb hx=>?_,I.base.free,λb o e hx=>?_,I.base.tups,I.base.kB,I.base.kD],#[_,hn',λj y v' e1 e2 e3=>?_],λy c e=>?_,I.free,I.dP,λp hp=>?_,tracked #[oL,hoL,I.free] hs,by simpa using I.len] #[_,hs,.inl rfl]
  . show (hs.2 b (kS (eM (eQ e) I.ok.above))).trans (I.base.keep b o e n hb hx)
  . let(sl,e1):=I.base.slot b o e n hb hx;show#[sl,(hs.2 b (kS (eM (eQ e) I.ok.above))).trans e1]
  . let(o',e1):=I.base.there b o e hx;show#[o',(hs.2 b (kS (eM (eQ e) I.ok.above))).trans e1]
  .
   by_cases hj:j=i
   . subst hj;rw[hi]at e1;cases e1;rw[hV Y7]at e2;cases e2;show#[u,r,.inl #[hk,by simp]]
   .
    rw[fI (n0 hj)]at e2;let(u',r',q):=hl j y v' e1 e2 e3;apply#[u',r',?_];rcases q with ⟨k,e⟩ |⟨k,c,e,z⟩
    .
     apply .inl #[k,?_];have:y≠x:=λe=>hj (n5 hN e1 (e▸hi))
     simp[this,e]
    . show .inr #[k,c,e,z.sameBut hs (Td y c e)]
  . let(w',z):=I.cell y c e;show#[w',z.sameBut hs (Td y c e)]
  . let(e,n,ne,nf,d):=I.pin p hp;show#[(hs.2 p.1 ne).trans e,n,ne,nf,d]
 .
  have hfn:X.fn x=true:=by
   rcases hf with z |z
   . show z
   . rw[z]at hk;cases hk
  let(c,hc):=I.ok.has x (.inl hk);let(w',z):=I.cell x c hc;apply wpAny_storeName_cell I.ok.kind hk hc z (λh' hc' hs=>?_)
  let(oc,hoc,hocd):=id z;apply h { s with heap:=h'} ⟨I.ok,I.os,I.bare,⟨λb o e n hb hx=>?_,λb o e n hb hx=>?_,I.base.free,λb o e hx=>?_,I.base.tups,I.base.kB,I.base.kD⟩,⟨m,hn.sameBut hs (n0 (Td x c hc)),λj y v' e1 e2 e3=>?_⟩,λy c' e=>?_,I.free,I.dP,λp hp=>?_,tracked ⟨oc,hoc,I.dP x c hc⟩ hs,by simpa using I.len⟩ ⟨c,hs,.inr hc⟩
  . show (hs.2 b (kS (eM (eQ e) (I.ok.Tc x c hfn hc)))).trans (I.base.keep b o e n hb hx)
  . let(sl,e1):=I.base.slot b o e n hb hx;show#[sl,(hs.2 b (kS (eM (eQ e) (I.ok.Tc x c hfn hc)))).trans e1]
  . let(o',e1):=I.base.there b o e hx;show#[o',(hs.2 b (kS (eM (eQ e) (I.ok.Tc x c hfn hc)))).trans e1]
  .
   by_cases hj:j=i
   . subst hj;rw[hi]at e1;cases e1;rw[hV Y7]at e2;cases e2;show#[u,r,.inr #[.inl hk,c,hc,hc']]
   .
    rw[fI (n0 hj)]at e2;let(u',r',q):=hl j y v' e1 e2 e3;apply#[u',r',?_];rcases q with q |⟨k,c',e,z'⟩
    . show .inl q
    . apply .inr #[k,c',e,z'.sameBut hs ?_];rintro rfl;show hj (n5 hN e1 (I.ok.inj _ _ _ e hc▸hi))
  .
   by_cases hcc:c'=c
   . subst hcc;show#[_,hc']
   . let(w2,z2):=I.cell y c' e;show#[w2,z2.sameBut hs hcc]
  . let(e,n,ne,nf,d):=I.pin p hp;apply#[(hs.2 p.1 ?_).trans e,n,ne,nf,d];intro q;rw[q,hoc]at e;have q':=mP e;show d w' (by rw[<- q'];show hocd)
def kG{M:Model}{A:Around}{E:Value->Shared->Prop}{i:Nat}{x:Str}{v:V}{u:Value}{Q:Unit->Shared->Prop}(I: ~~~7)(hN:X.N.Nodup)(hi:X.N[i]?=!x)(hx:Loc X.env.scope x)(r:RelV v u)
  (h:∀s',Inv X aj (Y.set i (!v)) H s'->Q () s') (hf:X.fn x=true\/X.env.scope.names.lookup x=some .local:=by first |show .inl rfl |show .inr rfl |assumption):wpAny M A (storeName X.env x u) Q E s:=
 lN I hN hi hx r (λs' I' _=>h s' I') hf
def Inv.call'(I: ~~~7)(ho:s'.os=s.os)(u:Un (frs X.stack) ch H H' s.heap s'.heap)(hok:lM X.prog X.w H' s'.heap)(hg:AllBare s'.gens)
  (hch:∀b∈ch,(b∈X.ex\/X.s₀⁻¹<=b)/\b≠X.env.locals/\(∀x c,X.env.cells.lookup x=!c->c≠b)/\∀p∈X.pn++aj,p.1≠b):Inv X aj Y H' s':=by
 let(h',g',d',t',o'):=s';have e:=ho;subst e;show I.call u hok hg hch
end
def XK:=Value->Option Addr->Hp->Prop
def St:=List (Option V)
def VK:=V->Hp->Prop
def TE:=St->Hp->VK->Prop
def TT:=St->Hp->(Bool->Hp->Prop)->Prop
def TA:=St->Hp->(List V->Hp->Prop)->Prop
structure Ends where
 nx:St->Hp->Prop
 rt:VK
 bk:St->Hp->Prop:=λ_ _=>False
 ct:St->Hp->Prop:=λ_ _=>False
def TS:=Ends->St->Hp->Prop
abbrev EP(X:Cx)(aj: ~~~1)(Y:St)(Q:VK)(u:Value)(s':Shared):Prop:=∃v H',Inv X aj Y H' s'/\RelV v u/\Q v H'
abbrev TP(X:Cx)(aj: ~~~1)(Y:St)(Q:Bool->Hp->Prop)(b:Bool)(s':Shared):Prop:=∃H',Inv X aj Y H' s'/\Q b H'
abbrev AP(X:Cx)(aj: ~~~1)(Y:St)(Q:List V->Hp->Prop)(us:List Value)(s':Shared):Prop:=∃vs H',Inv X aj Y H' s'/\Vals vs us/\Q vs H'
abbrev SP(X:Cx)(aj: ~~~1)(D:Ends)(f:Flow)(s':Shared):Prop:=
 match f with
 |.next=>∃σ' H',Inv X aj σ' H' s'/\D.nx σ' H'
 |.brk=>∃σ' H',Inv X aj σ' H' s'/\D.bk σ' H'
 |.cont=>∃σ' H',Inv X aj σ' H' s'/\D.ct σ' H'
 |.ret u=>∃v σ' H',Inv X aj σ' H' s'/\RelV v u/\D.rt v H'
abbrev PE(X:Cx)(e:Expr)(t:TE):Prop:=
 ∀(aj: ~~~1) (s:Shared) (Y:St) (H:Hp) (Q:VK),Inv X aj Y H s->t Y H Q->wpAny (~~~2) X.A (eval e X.env) (EP X aj Y Q) X.xe s
abbrev PT(X:Cx)(e:Expr)(t:TT):Prop:=
 ∀(aj: ~~~1) (s:Shared) (Y:St) (H:Hp) (Q:Bool->Hp->Prop),Inv X aj Y H s->t Y H Q->wpAny (~~~2) X.A (isTrue e X.env (eval e X.env)) (TP X aj Y Q) X.xe s
abbrev PW(X:Cx)(e:Expr)(t:TT):Prop:=
 ∀(whole:Sem Value) (aj: ~~~1) (s:Shared) (Y:St) (H:Hp) (Q:Bool->Hp->Prop),Inv X aj Y H s->t Y H Q->wpAny (~~~2) X.A (isTrue e X.env whole) (TP X aj Y Q) X.xe s
def PW.pt{X:Cx}{e:Expr}{t:TT}(h:PW X e t):PT X e t:=h _
abbrev PA(X:Cx)(es:List Expr)(t:TA):Prop:=
 ∀(pos:Pos) (aj: ~~~1) (s:Shared) (Y:St) (H:Hp) (Q:List V->Hp->Prop),Inv X aj Y H s->t Y H Q->wpAny (~~~2) X.A (spliced (backTo pos (starEach es X.env))) (AP X aj Y Q) X.xe s
abbrev PS(X:Cx)(st:Stmt)(t:TS):Prop:=
 ∀(aj: ~~~1) (s:Shared) (Y:St) (H:Hp) (D:Ends),Inv X aj Y H s->t D Y H->wpAny (~~~2) X.A (exec st X.env) (SP X aj D) X.xe s
abbrev tH(X:Cx)(st:List Stmt)(t:TS):Prop:=
 ∀(aj: ~~~1) (s:Shared) (Y:St) (H:Hp) (D:Ends),Inv X aj Y H s->t D Y H->wpAny (~~~2) X.A (execs st X.env) (SP X aj D) X.xe s
def bU{α:Type}{t:Sem α}{Q Q':α->Shared->Prop}{M:Model}{A:Around}{E:Value->Shared->Prop}{s:Shared}(h:wpAny M A t Q E s)(hQ:∀a s,Q a s->Q' a s):wpAny M A t Q' E s:=kA h hQ λ_ _ x=>x
section
variable{X:Cx}
abbrev Y8(i:Nat):TE:=λY H Q=>∃v,Y[i]?=!(!v)/\Q v H
abbrev tC(v:V):TE:=λ_ H Q=>Q v H
def dB(hN:X.N[i]?=!x)(hv:kj X.env.scope x)(hd:(x==(~~~3))=false:=by decide)(cP:(x==("__classdict__":Str))=false:=by decide):PE X (.Name x pos) (Y8 i):=by
 intro aj s Y H Q I h;let(v,e,h):=h;let(m,hn,hl):=I.loc;let(u,r,l):=hl i x v hN e hv;have fin:EP X aj Y Q u s:=#[v,H,I,r,h];rcases l with ⟨hk,hm⟩ |⟨hk,c,hc,hcell⟩
 . show DE (wpAny_loadName_local I.ok.kind hk hn hm fin) hd
 .
  rcases hk with hk |hk
  . show DE (wpAny_loadName_cell I.ok.kind hk hc hcell fin) hd
  . show DE (wpAny_loadName_free I.ok.kind hk hc hcell fin cP) hd
def Te{i j pos}:PE X (.Constant (.int i) j pos) (tC (.int i)):=λ_ _ _ H _ I h=>wpAny_Constant_int #[.int i,H,I.tok _,#[_,rfl],h]
def Y9{b j pos}:PE X (.Constant (.bool b) j pos) (tC (.bl b)):=λ_ _ _ H _ I h=>Constant_bool #[.bl b,H,I,rfl,h]
def GC{j pos}:PE X (.Constant .none j pos) (tC .non):=λ_ _ _ H _ I h=>Constant_none #[.non,H,I,rfl,h]
def Tf{x j pos}:PE X (.Constant (.str x) j pos) (tC (.str x)):=λ_ _ _ H _ I h=>Calls.Constant_str #[.str x,H,I.tok _,#[_,rfl],h]
abbrev Gl(X:Cx)(x:Str):Prop:=X.env.kindOf x=some .globalImplicit
def gH{E:Value->Shared->Prop}{aj: ~~~1}{s:Shared}{Y:St}{H:Hp}{x:Str}{u:Value}{pos:Pos}{Q:Value->Shared->Prop}(I: ~~~7)(hg:Gl X x)(hm:X.mg x=!u)(h:Q u s)
  (hd:(x==(~~~3))=false:=by decide):wpAny (~~~2) X.A (eval (.Name x pos) X.env) Q E s:=
 Calls.Name_function_global I.ok.kind hg (Calls.loadGlobal_global (by rw[I.ok.glob];show I.mod.glob.keeps I.bk) hm h) hd
def gI{E:Value->Shared->Prop}{aj: ~~~1}{s:Shared}{Y:St}{H:Hp}{x:Str}{u:Value}{pos:Pos}{Q:Value->Shared->Prop}(I: ~~~7)(hg:Gl X x)(hm:X.mg x=none)(hv:bootBuiltins x=!u)(h:Q u s)
  (hn:x≠ "__name__" :=by decide) (hd:(x==(~~~3))=false:=by decide):wpAny (~~~2) X.A (eval (.Name x pos) X.env) Q E s:=by
 let(mb,h1,h2):=I.mod.blt;show Calls.Name_function_global I.ok.kind hg (Calls.loadGlobal_builtin (by rw[I.ok.glob];show I.mod.glob.keeps I.bk) hm (by rw[I.ok.blt];show h1.keeps I.bk) ((h2 x hn).trans hv) h) hd
def Am(hg:Gl X x)(hm:X.mg x=!u)(r:RelV v u)(hd:(x==(~~~3))=false:=by decide):PE X (.Name x pos) (tC v):=
 λ_ _ _ H _ I h=>gH I hg hm #[v,H,I,r,h] hd
def tK(hg:Gl X x)(hm:X.mg x=none)(hv:bootBuiltins x=!u)(r:RelV v u)(hn:x≠ "__name__" :=by decide)(hd:(x==(~~~3))=false:=by decide):PE X (.Name x pos) (tC v):=
 λ_ _ _ H _ I h=>gI I hg hm hv #[v,H,I,r,h] hn hd
variable{a b:Expr}{ta tb:TE}{pos:Pos}
abbrev tB(t:TE):TT:=λY H Q=>t Y H λx H1=>∃c,x=.bl c/\Q c H1
def Tj{e:Expr}{t:TE}(h:PE X e t)(he:∀whole,isTrue e X.env whole=(do let v <- whole;standAt e.pos;holding [v] (truthy v)):=by intro _;rfl):PT X e (tB t):=by
 intro aj s Y H Q I hw;apply isTrue_plain (bU (h aj s Y H _ I hw) λv s1 #[x,H1,I1,r1,q1]=>?_) (he _)
 let(d,rfl,q):=q1;cases r1;show nK #[H1,I1,q]
variable{tA tB':TT}{rest:List Expr}
abbrev tAnd(t u:TT):TT:=λY H Q=>t Y H λc H1=>if c=true then u Y H1 Q else Q false H1
abbrev tOr(t u:TT):TT:=λY H Q=>t Y H λc H1=>if c=true then Q true H1 else u Y H1 Q
abbrev tNot(t:TT):TT:=λY H Q=>t Y H λc H1=>Q ((not c)) H1
def pw_and1(ha:PT X a tA):PW X (.BoolOp .And [a] pos) tA:=by
 intro wh aj s Y H Q I h;apply isTrue_and (bU (ha aj s Y H Q I h) λc s1 e=>?_)
 cases c with
 |true=>show isTrue_and_nil e
 |false=>show e
def pw_or1(ha:PT X a tA):PW X (.BoolOp .Or [a] pos) tA:=by
 intro wh aj s Y H Q I h;apply isTrue_or (bU (ha aj s Y H Q I h) λc s1 e=>?_)
 cases c with
 |false=>show isTrue_or_nil e
 |true=>show e
def pw_and(ha:PT X a tA)(hb:PW X (.BoolOp .And (b::rest) pos) tB'):PW X (.BoolOp .And (a::b::rest) pos) (tAnd tA tB'):=by
 intro wh aj s Y H Q I h;apply isTrue_and (bU (ha aj s Y H _ I h) ?_);rintro c s1 ⟨H1,I1,q1⟩;cases c with
 |true=>show hb wh aj s1 Y H1 Q I1 q1
 |false=>show#[H1,I1,q1]
def pw_or(ha:PT X a tA)(hb:PW X (.BoolOp .Or (b::rest) pos) tB'):PW X (.BoolOp .Or (a::b::rest) pos) (tOr tA tB'):=by
 intro wh aj s Y H Q I h;apply isTrue_or (bU (ha aj s Y H _ I h) ?_);rintro c s1 ⟨H1,I1,q1⟩;cases c with
 |true=>show#[H1,I1,q1]
 |false=>show hb wh aj s1 Y H1 Q I1 q1
def GD(ha:PT X a tA):PT X (.UnaryOp .Not a pos) (tNot tA):=by intro aj s Y H Q I h;show isTrue_not (ha aj s Y H (λc H1=>Q ((not c)) H1) I h)
abbrev Za(ta tb:TE):TE:=λY H Q=>ta Y H λx H1=>∃c,x=.bl c/\if c=true then tb Y H1 Q else Q (.bl false) H1
abbrev tOrV(ta tb:TE):TE:=λY H Q=>ta Y H λx H1=>∃c,x=.bl c/\if c=true then Q (.bl true) H1 else tb Y H1 Q
abbrev Zb(ta:TE):TE:=λY H Q=>ta Y H λx H1=>∃c,x=.bl c/\Q (.bl ((not c))) H1
def Tp{op}(h:PE X a t):PE X (.BoolOp op [a] pos) t:=λaj s Y H Q I hw=>BoolOp_one (h aj s Y H Q I hw)
def GF(ha:PE X a ta)(hb:PE X (.BoolOp .And (b::rest) pos) tb):PE X (.BoolOp .And (a::b::rest) pos) (Za ta tb):=by
 intro aj s Y H Q I h;apply BoolOp_and (bU (ha aj s Y H _ I h) ?_);rintro v s1 ⟨x,H1,I1,r1,q1⟩;let(c,rfl,q1):=q1;cases r1;apply nK ?_;cases c with
 |true=>show hb aj s1 Y H1 Q I1 q1
 |false=>show#[.bl false,H1,I1,rfl,q1]
def Rt(ha:PE X a ta)(hb:PE X (.BoolOp .Or (b::rest) pos) tb):PE X (.BoolOp .Or (a::b::rest) pos) (tOrV ta tb):=by
 intro aj s Y H Q I h;apply BoolOp_or (bU (ha aj s Y H _ I h) ?_);rintro v s1 ⟨x,H1,I1,r1,q1⟩;let(c,rfl,q1):=q1;cases r1;apply nK ?_;cases c with
 |false=>show hb aj s1 Y H1 Q I1 q1
 |true=>show#[.bl true,H1,I1,rfl,q1]
def Tq(ha:PE X a ta):PE X (.UnaryOp .Not a pos) (Zb ta):=by intro aj s Y H Q I h;apply UnaryOp_ (bU (ha aj s Y H _ I h) ?_);rintro v s1 ⟨x,H1,I1,r1,q1⟩;let(c,rfl,q1):=q1;cases r1;show not_of (nK #[.bl ((not c)),H1,I1,rfl,q1])
abbrev tIf(t:TT)(ta tb:TE):TE:=λY H Q=>t Y H λc H1=>if c=true then ta Y H1 Q else tb Y H1 Q
def vo{c:Expr}(hc:PT X c tA)(ha:PE X a ta)(hb:PE X b tb):PE X (.IfExp c a b pos) (tIf tA ta tb):=by
 intro aj s Y H Q I h;apply wpAny_IfExp (bU (hc aj s Y H _ I h) ?_);rintro d s1 ⟨H1,I1,q1⟩;cases d with
 |true=>show ha aj s1 Y H1 Q I1 q1
 |false=>show hb aj s1 Y H1 Q I1 q1
end
abbrev cQ(K:Frag)(H:Hp)(a:Addr)(xs:List V):Prop:=
 Rd H a (.lst xs)\/
  ∃(o:Obj) (its:Array Value) (n:Nat),K.lookup a=!o/\o.cls=.type "list" /\o.dict=none/\o.data=.seq its n/\its.size<=sizeLine/\Vals xs its.toList
abbrev iu(K:Frag)(H:Hp)(a:Addr)(xs:List V):Prop:=
 Rd H a (.tup xs)\/
  ∃(o:Obj) (its:Array Value) (n:Nat),K.lookup a=!o/\o.cls=.type "tuple" /\o.data=.seq its n/\its.size<=sizeLine/\Vals xs its.toList
abbrev absV:Value->Option V
 |.none=>some .non
 |.bool b=>!(.bl b)
 |.int i _=>!(.int i)
 |.str x _=>!(.str x)
 |.bytes b _=>!(.S8 b)
 |.float b _=>!(.flt b)
 |.ref a=>!(.ref a)
 |.type n=>!(.ty n)
 |_=>none
def RelV.abs(r:RelV x u):absV u=!x:=by
 cases x with
 |non=>cases r;rfl
 |bl _=>cases r;rfl
 |int _=>let(t,rfl):=r;rfl
 |str _=>let(t,rfl):=r;rfl
 |S8 _=>let(t,rfl):=r;rfl
 |flt _=>let(t,rfl):=r;rfl
 |ref _=>cases r;rfl
 |ty _=>cases r;rfl
def RelV.inj{x y:V}{u:Value}(r:RelV x u)(q:RelV y u):x=y:=mP (r.abs.symm.trans q.abs)
def Vals.inj:∀{xs ys:List V}{us:List Value},Vals xs us->Vals ys us->xs=ys:=by
 intro xs ys us h
 induction h generalizing ys with
 |nil=>intro h';cases h';rfl
 |cons r t ih=>intro h';cases h' with |cons r' t'=>rw[r.inj r',ih t']
section
variable{X:Cx}{aj: ~~~1}{Y:St}{H:Hp}{s:Shared}{a:Addr}{xs ys:List V}
def cQ.of{K:Frag}(h:H a=!(.lst xs)):cQ K H a xs:=.inl (.inl h)
def Inv.list(I: ~~~7)(h:cQ X.K H a xs):∃its:List Value,Vals xs its/\PlainL s.heap a its.toArray/\xs.length<=sizeLine:=by
 rcases h with h |⟨o,its,n,hk,hc,hd,hs,hz,r⟩
 . let(z,its,n,r,e):=h.ok I.hok;show#[its,r,#[_,n,e,rfl,rfl,rfl],z]
 .
  apply#[its.toList,r,#[o,n,I.nZ a o hk,hc,hd,by simpa using hs],?_]
  have e:=r.length;simp only[oD]at e;lia
def Inv.tuple(I: ~~~7)(h:iu X.K H a xs):∃its:List Value,Vals xs its/\IsTup s.heap a its.toArray/\xs.length<=sizeLine:=by
 rcases h with h |⟨o,its,n,hk,hc,hs,hz,r⟩
 . let(z,its,r,p):=h.ok I.hok;show#[its,r,p.tup,z]
 .
  apply#[its.toList,r,#[o,I.nZ a o hk,hc,n,by simpa using hs],?_]
  have e:=r.length;simp only[oD]at e;lia
def Inv.vq(I: ~~~7)(h:cQ X.K H a xs)(h':cQ X.K H a ys):xs=ys:=by
 let(its,r,(o,n,e,_,_,d),_):=I.list h;let(its',r',(o',n',e',_,_,d'),_):=I.list h';rw[e]at e';cases e';rw[d]at d';injection d' with d1 _;have:its=its':=by simpa using congrArg Array.toList d1
 subst this;show r.inj r'
def Inv.rF(I: ~~~7)(h:iu X.K H a xs)(h':iu X.K H a ys):xs=ys:=by
 let(its,r,(o,e,_,n,d),_):=I.tuple h;let(its',r',(o',e',_,n',d'),_):=I.tuple h';rw[e]at e';cases e';rw[d]at d';injection d' with d1 _;have:its=its':=by simpa using congrArg Array.toList d1
 subst this;show r.inj r'
end
meta abbrev Cx.wish(X:Cx)(E:Value->Shared->Prop):Cx:={ X with xe:=E}
meta abbrev Cx.tL(X:Cx):Cx:=X.wish λ_ _=>False
def Cx.Ok.wish{X:Cx}(ok:X.Ok)(E:Value->Shared->Prop):(X.wish E).Ok:=
 #[ok.mod,ok.kind,ok.glob,ok.blt,ok.above,ok.inj,ok.has,ok.Tc,ok.hd,ok.frames,ok.stk,ok.Yh,ok.bs,ok.Gz,ok.vn,ok.yz,ok.kF,ok.Mf]
def Cx.Ok.cX{X:Cx}{E:Value->Shared->Prop}(ok:(X.wish E).Ok):X.Ok:=
 #[ok.mod,ok.kind,ok.glob,ok.blt,ok.above,ok.inj,ok.has,ok.Tc,ok.hd,ok.frames,ok.stk,ok.Yh,ok.bs,ok.Gz,ok.vn,ok.yz,ok.kF,ok.Mf]
section
variable{X:Cx}{aj: ~~~1}{Y:St}{H:Hp}{s:Shared}{E:Value->Shared->Prop}
def Inv.wish(I: ~~~7)(E:Value->Shared->Prop):Inv (X.wish E) aj Y H s:=#[I.ok.wish E,I.os,I.bare,I.base,I.loc,I.cell,I.free,I.dP,I.pin,I.hok,I.len]
def Inv.cX(I:Inv (X.wish E) aj Y H s):Inv X aj Y H s:=#[I.ok.cX,I.os,I.bare,I.base,I.loc,I.cell,I.free,I.dP,I.pin,I.hok,I.len]
def SP.cX(h:SP (X.wish E) aj D f s'):SP X aj D f s':=by
 cases f with
 |next=>let(σ',H',I,q):=h;show#[σ',H',I.cX,q]
 |brk=>let(σ',H',I,q):=h;show#[σ',H',I.cX,q]
 |cont=>let(σ',H',I,q):=h;show#[σ',H',I.cX,q]
 |ret u=>let(v,σ',H',I,r,q):=h;show#[v,σ',H',I.cX,r,q]
def PE.tL(h:PE X.tL e t):PE X e t:=λaj s Y H Q I hw=>
 kA (h aj s Y H Q (I.wish _) hw) (by rintro _ _ ⟨v,H',I',r,q⟩;show#[v,H',I'.cX,r,q]) λ_ _ z=>False.elim z
def PT.tL(h:PT X.tL e t):PT X e t:=λaj s Y H Q I hw=>
 kA (h aj s Y H Q (I.wish _) hw) (by rintro _ _ ⟨H',I',q⟩;show#[H',I'.cX,q]) λ_ _ z=>False.elim z
def tH.tL{st:List Stmt}{t:TS}(h:tH X.tL st t):tH X st t:=λaj s Y H D I hw=>
 kA (h aj s Y H D (I.wish _) hw) (λ_ _ q=>q.cX) λ_ _ z=>False.elim z
end
section
variable{X:Cx}{st:Stmt}{rest:List Stmt}{t u:TS}{e:Expr}{te:TE}{pos:Pos}
abbrev Zc:TS:=λD Y H=>D.nx Y H
abbrev Zd(t u:TS):TS:=λD Y H=>t { D with nx:=u D} Y H
def Mg:tH X [] Zc:=λ_ _ Y H _ I h=>wpAny_execs_nil #[Y,H,I,h]
def dQ(h1:PS X st t)(h2:tH X rest u):tH X (st::rest) (Zd t u):=by
 intro aj s Y H D I h;apply BD (bU (h1 aj s Y H { D with nx:=u D} I h) λf s1 q=>?_)
 cases f with
 |next=>let(σ',H',I',q):=q;show h2 aj s1 σ' H' D I' q
 |ret v=>show q
 |brk=>show q
 |cont=>show q
def Ao(h1:PS X st t):tH X [st] t:=by
 intro aj s Y H D I h;apply BD (bU (h1 aj s Y H D I h) λf s1 q=>?_)
 cases f with
 |next=>show wpAny_execs_nil q
 |ret v=>show q
 |brk=>show q
 |cont=>show q
def Inv.quiet{aj: ~~~1}{Y:St}{H:Hp}{s:Shared}(I: ~~~7):interactive X.env=false:=by simp[interactive,I.ok.kind]
abbrev Ze(te:TE):TS:=λD Y H=>te Y H λ_ H1=>D.nx Y H1
def tM(he:PE X e te)(hs:swapsWith e none pos.line X.env=pure false:=by rfl):PS X (.Expr e pos) (Ze te):=by intro aj s Y H D I h;show wpAny_Expr_any (bU (he aj s Y H _ I h) (by rintro v s1 ⟨x,H1,I1,r1,q1⟩;show#[Y,H1,I1,q1])) I.quiet hs
abbrev tRet(te:TE):TS:=λD Y H=>te Y H D.rt
def yE(he:PE X e te):PS X (.Return (!e) pos) (tRet te):=by intro aj s Y H D I h;show wpAny_Return_some (bU (he aj s Y H _ I h) (by rintro v s1 ⟨x,H1,I1,r1,q1⟩;show#[x,Y,H1,I1,r1,q1]))
abbrev tIfS(c:TT)(t u:TS):TS:=λD Y H=>c Y H λb H1=>if b=true then t D Y H1 else u D Y H1
def vA{c:Expr}{a b:List Stmt}{tc:TT}(hc:PT X c tc)(ha:tH X a t)(hb:tH X b u):PS X (.If c a b pos) (tIfS tc t u):=by
 intro aj s Y H D I h;apply wpAny_If (bU (hc aj s Y H _ I h) ?_);rintro d s1 ⟨H1,I1,q1⟩;cases d with
 |true=>show ha aj s1 Y H1 D I1 q1
 |false=>show hb aj s1 Y H1 D I1 q1
abbrev Tr:TS:=λ_ _ _=>False
def bF:tH X jJ Tr:=λ_ _ _ _ _ _ h=>h.elim
end
def TG:=V->St->Hp->(St->Hp->Prop)->Prop
def Tt:=List V->St->Hp->(St->Hp->Prop)->Prop
abbrev PG(X:Cx)(target:Expr)(t:TG):Prop:=
 ∀(aj: ~~~1) (s:Shared) (Y:St) (H:Hp) (v:V) (u:Value) (Q:St->Hp->Prop),Inv X aj Y H s->RelV v u->t v Y H Q->
  wpAny (~~~2) X.A (assign target X.env u) (λ_ s'=>∃σ' H',Inv X aj σ' H' s'/\Q σ' H') X.xe s
abbrev Yi(X:Cx)(ts:List Expr)(t:Tt):Prop:=
 ∀(aj: ~~~1) (s:Shared) (Y:St) (H:Hp) (vs:List V) (us:List Value) (Q:St->Hp->Prop),Inv X aj Y H s->Vals vs us->t vs Y H Q->
  wpAny (~~~2) X.A (assignInOrder ((assignEach ts X.env).map (·.2)) us) (λ_ s'=>∃σ' H',Inv X aj σ' H' s'/\Q σ' H') X.xe s
def Tv:=V->V->V->Hp->(Hp->Prop)->Prop
abbrev Zf(X:Cx)(t:Tv):Prop:=
 ∀(aj: ~~~1) (s:Shared) (Y:St) (H:Hp) (o i v:V) (ov iv u:Value) (Q:Hp->Prop),Inv X aj Y H s->RelV o ov->RelV i iv->RelV v u->t o i v H Q->
  wpAny (~~~2) X.A (setItem ov iv u) (λ_ s'=>∃H',Inv X aj Y H' s'/\Q H') X.xe s
def TIp:=V->V->Hp->VK->Prop
abbrev PIp(X:Cx)(op:Operator)(t:TIp):Prop:=
 ∀(aj: ~~~1) (s:Shared) (Y:St) (H:Hp) (x y:V) (v u:Value) (Q:VK),Inv X aj Y H s->RelV x v->RelV y u->t x y H Q->
  wpAny (~~~2) X.A (inplaceOp op v u) (EP X aj Y Q) X.xe s
section
variable{X:Cx}{pos:Pos}
abbrev vB(i:Nat):TG:=λv Y H Q=>Q (Y.set i (!v)) H
def kI(hN:X.N.Nodup)(hi:X.N[i]?=!x)(hx:Loc X.env.scope x)(hf:X.fn x=true\/X.env.scope.names.lookup x=some .local:=by first |show .inl rfl |show .inr rfl |assumption):PG X (.Name x pos) (vB i):=by intro aj s Y H v u Q I r h;show wpAny_assign_Name (kG I hN hi hx r (λs' I'=>#[_,H,I',h]) hf)
abbrev gNil:Tt:=λvs Y H Q=>vs=[]/\Q Y H
abbrev Zg(t:TG)(u:Tt):Tt:=λvs Y H Q=>∃v r,vs=v::r/\t v Y H λσ' H'=>u r σ' H' Q
def Aq:Yi X [] gNil:=by intro aj s Y H vs us Q I r h;let(e,h):=h;subst e;show assignInOrder_nil #[Y,H,I,h]
def n6{e:Expr}{es:List Expr}{t:TG}{u:Tt}(h1:PG X e t)(h2:Yi X es u)
  (hs:(assignEach (e::es) X.env).map (·.2)=assign e X.env::(assignEach es X.env).map (·.2):=by rfl):Yi X (e::es) (Zg t u):=by
 intro aj s Y H vs us Q I r h;let(v,vr,e1,h):=h;subst e1;cases r with
 |cons r rr=>rw[hs];apply assignInOrder_cons (bU (h1 aj s Y H _ _ _ I r h) ?_);rintro _ s1 ⟨σ1,H1,I1,q1⟩;show h2 aj s1 σ1 H1 _ _ Q I1 rr q1
abbrev gTup(K:Frag)(n:Nat)(t:Tt):TG:=λv Y H Q=>∃a xs,v=.ref a/\iu K H a xs/\xs.length=n/\t xs Y H Q
def GJ(hc:X.calm=true)(h:Yi X es t)
  (hn:(assignEach es X.env).length=n:=by rfl) (cH:(assignEach es X.env).findIdx? (·.1)=none:=by rfl):PG X (.Tuple es k pos) (gTup X.K n t):=by
 intro aj s Y H v u Q I r hw;let(a,xs,e1,hq,hl,hw):=hw;subst e1;cases r;let(its,rv,ht,hz):=I.tuple hq;apply assign_Tuple_tuple (I.ok.hd hc) ht (by simp[hn,<- hl,rv.length]) cH λh' hx=>?_
 have I1:=I.kept (t':=s.toks) λb o e=>hx b o (kS (eQ e)) e
 show h aj _ Y H xs _ Q I1 (by simpa using rv) hw
abbrev gSub(to ti:TE)(t:Tv):TG:=λv Y H Q=>to Y H λo H1=>ti Y H1 λi H2=>t o i v H2 λH3=>Q Y H3
def Tw{o i:Expr}{to ti:TE}{t:Tv}(ho:PE X o to)(hi:PE X i ti)(hs:Zf X t)
  (ha:∀v,assign (.Subscript o i pos) X.env v=(do
   let ov <- holding [v] (eval o X.env)
   let iv <- holding [v,ov] (eval i X.env)
   standAt pos
   holding [v,ov,iv] (setItem ov iv v)
   release [v,ov,iv] []):=by intro _;rfl):PG X (.Subscript o i pos) (gSub to ti t):=by
 intro aj s Y H v u Q I r h;apply aS (mE (bU (ho aj s Y H _ I h) ?_));rintro ov s1 ⟨x,H1,I1,r1,q1⟩;apply aS (mE (bU (hi aj s1 Y H1 _ I1 q1) ?_));rintro iv s2 ⟨y,H2,I2,r2,q2⟩;apply aS (t9 (aS (mE (bU (hs aj s2 Y H2 x y v ov iv u _ I2 r1 r2 r q2) ?_))));rintro _ s3 ⟨H3,I3,q3⟩;show wpAny_release #[Y,H3,I3,q3]
abbrev Mh(te:TE)(g:TG):TS:=λD Y H=>te Y H λx H1=>g x Y H1 D.nx
def GK{tg e:Expr}{te:TE}{g:TG}(he:PE X e te)(hg:PG X tg g)(hs:swapsWithSole [tg] e pos.line X.env=pure false:=by rfl)(hw:swappedStores [tg] e X.env=pure none:=by rfl)
  (h1:(assignEach [tg] X.env).map (·.2)=[assign tg X.env]:=by rfl):PS X (.Assign [tg] e pos) (Mh te g):=by
 intro aj s Y H D I h;apply wpAny_Assign_stores (bU (he aj s Y H _ I h) ?_) hs hw;rintro v s1 ⟨x,H1,I1,r1,q1⟩;rw[h1];show bU (hg aj s1 Y H1 x v _ I1 r1 q1) λ_ s2 q=>q
def tN{i:Nat}{x:Str}{e:Expr}{te:TE}{pos':Pos}(hN:X.N.Nodup)(hi:X.N[i]?=!x)(hx:Loc X.env.scope x)(he:PE X e te)(hs:swapsWith e (!(.Name x pos')) pos.line X.env=pure false:=by rfl)(hf:X.fn x=true\/X.env.scope.names.lookup x=some .local:=by first |show .inl rfl |show .inr rfl |assumption) :
  PS X (.Assign [.Name x pos'] e pos) (Mh te (vB i)):=by
 intro aj s Y H D I h;apply wpAny_Assign_Name (bU (he aj s Y H _ I h) ?_) hs;rintro v s1 ⟨y,H1,I1,r1,q1⟩;show kG I1 hN hi hx r1 (λs2 I2=>#[_,H1,I2,q1]) hf
abbrev tAug(i:Nat)(te:TE)(ti:TIp):TS:=λD Y H=>∃x,Y[i]?=!(!x)/\te Y H λy H1=>ti x y H1 λz H2=>D.nx (Y.set i (!z)) H2
def GL{i:Nat}{x:Str}{e:Expr}{te:TE}{op:Operator}{ti:TIp}{pos':Pos}(hN:X.N.Nodup)(hi:X.N[i]?=!x)(hx:Loc X.env.scope x)(he:PE X e te)(ho:PIp X op ti)(hf:X.fn x=true\/X.env.scope.names.lookup x=some .local:=by first |show .inl rfl |show .inr rfl |assumption) :
  PS X (.AugAssign (.Name x pos') op e pos) (tAug i te ti):=by
 intro aj s Y H D I h;let(v,e1,h):=h;let(m,hn,hl):=I.loc;have vis:kj X.env.scope x:=by rcases hx with k |k;show .inl k;show .inr (.inl k)
 let(u,r,l):=hl i x v hi e1 vis;apply wpAny_AugAssign_Name ?_;have go:wpAny (~~~2) X.A (eval e X.env) (λw s₂=>wpAny (~~~2) X.A (inplaceOp op u w) (λr s₃=>wpAny (~~~2) X.A (storeName X.env x r) (λ_=>SP X aj D .next) X.xe s₃) X.xe s₂) X.xe s:=by apply bU (he aj s Y H _ I h) ?_;rintro w s1 ⟨y,H1,I1,r1,q1⟩;apply bU (ho aj s1 Y H1 v y u w _ I1 r r1 q1) ?_;rintro z s2 ⟨zv,H2,I2,r2,q2⟩;show kG I2 hN hi hx r2 (λs3 I3=>#[_,H2,I3,q2]) hf
 rcases l with ⟨hk,hm⟩ |⟨hk,c,hc,hcell⟩
 . show wpAny_loadName_local I.ok.kind hk hn hm go
 .
  rcases hk with hk |hk
  . show wpAny_loadName_cell I.ok.kind hk hc hcell go
  .
   rcases hx with k |k
   . have:X.env.scope.names.lookup x=some .free:=hk;rw[k]at this;cases this
   . have:X.env.scope.names.lookup x=some .free:=hk;rw[k]at this;cases this
end
section
variable{X:Cx}{pos:Pos}
abbrev Tz(c:TT)(tb:TS):TS:=λD Y H=>∃W:Nat->St->Hp->Prop,(∃m,W m Y H)/\∀m Y H,W m Y H->
 c Y H λb H1=>if b=true then ∃N:St->Hp->Prop,(∀σ' H',N σ' H'->∃m',m'<m/\W m' σ' H')/\tb { D with nx:=N,ct:=N,bk:=D.nx} Y H1 else D.nx Y H1
def GP{c:Expr}{body:List Stmt}{tc:TT}{tb:TS}(hp:PassesOwn (~~~2) X.A X.env X.xe)(hc:PT X c tc)(hb:tH X body tb):PS X (.While c body [] pos) (Tz tc tb):=by
 intro aj s Y H D I h;let(W,(m0,w0),turn):=h;apply wpAny_While (codeAny_whileLoop (λn s'=>∃σ' H',Inv X aj σ' H' s'/\W n σ' H') ?_ m0 #[Y,H,I,w0])
 rintro n s1 ⟨σ1,H1,I1,w1⟩;apply AO hp (bU (hc aj s1 σ1 H1 _ I1 (turn n σ1 H1 w1)) ?_);rintro b s2 ⟨H2,I2,q2⟩;cases b with
 |true=>
  let(N,hN,q2):=q2;apply AO hp (bU (hb aj s2 σ1 H2 _ I2 q2) λf s3 q3=>?_)
  cases f with
  |next=>let(σ3,H3,I3,n3):=q3;let(m',hm,w3):=hN σ3 H3 n3;show#[m',hm,σ3,H3,I3,w3]
  |cont=>let(σ3,H3,I3,n3):=q3;let(m',hm,w3):=hN σ3 H3 n3;show#[m',hm,σ3,H3,I3,w3]
  |brk=>show q3
  |ret v=>show q3
 |false=>show wpAny_execs_nil #[σ1,H2,I2,q2]
end
structure It where
 go:Nat->Hp->Prop
 Yj:Nat->Hp->V->Hp->Prop
 stop:Nat->Hp->Prop
abbrev kJ(X:Cx)(aj: ~~~1)(H:Hp)(b:Addr):Prop:=
 H b=none/\b≠X.env.locals/\b∉X.fs/\(b∈X.ex\/X.s₀⁻¹<=b)/\(∀x c,X.env.cells.lookup x=!c->c≠b)/\∀p∈X.pn++aj,p.1≠b
def Inv.yF{X:Cx}{aj: ~~~1}{Y:St}{H H':Hp}{s:Shared}{b:Addr}(I: ~~~7)(hb:s⁻¹<=b)(hn:H' b=none):kJ X aj H' b:=by
 apply#[hn,AC (eM I.lt hb),I.nofs hb,.inr (l7 I.sz hb),λx c e z=>?_,λp hp z=>?_]
 . let(v,q):=I.cell x c e;show absurd (eM q.lt (by rw[z];show hb)) (nV _)
 . show absurd (eM (eQ (I.pin p hp).1) (by rw[z];show hb)) (nV _)
structure Turn(P:Program)(w:World)(K:Frag)(tg:Expr)(J:It)(fp:List Addr)(it:Addr)(tn:Nat->Heap->Prop):Prop where
 mem:it∈fp
 obj:∀i h,tn i h->∀b∈fp,∃o,h.get? b=!o/\∀v,o.data≠.cell v
 keep:∀i h h',tn i h->(∀b∈fp,∀o,h.get? b=!o->h'.get? b=!o)->tn i h'
 item:∀(X:Cx),X.prog=P->X.w=w->X.K=K->X.calm=true->∀(i:Nat) (aj: ~~~1) (s:Shared) (Y:St) (H:Hp) (E:Value->Shared->Prop),Inv X aj Y H s->(∀b∈fp,kJ X aj H b)->tn i s.heap->J.go i H->
  wpAny (model P w) X.A (pyNext (.ref it)) (λr s1=>∃u,r=!u/\
   wpAny (model P w) X.A (letOwnedTupleGo tg (.ref it) u) (λ_ s2=>∃x H',Inv X aj Y H' s2/\RelV x u/\J.Yj i H x H'/\tn (i+1) s2.heap/\∀b∈fp,H' b=none) E s1) E s
 done:∀(X:Cx),X.prog=P->X.w=w->X.K=K->X.calm=true->∀(i:Nat) (aj: ~~~1) (s:Shared) (Y:St) (H:Hp) (E:Value->Shared->Prop),Inv X aj Y H s->(∀b∈fp,kJ X aj H b)->tn i s.heap->J.stop i H->
  wpAny (model P w) X.A (pyNext (.ref it)) (λr s1=>r=none/\Inv X aj Y H s1) E s
 self:∀(A:Around) (i:Nat) (s:Shared) (Q:Value->Shared->Prop) (E:Value->Shared->Prop),tn i s.heap->Q (.ref it) s->wpAny (model P w) A (pyIter (.ref it)) Q E s
def TI:=St->Hp->(It->Hp->Prop)->Prop
abbrev PIE(X:Cx)(aj: ~~~1)(Y:St)(tg:Expr)(R:It->Hp->Prop)(itv:Value)(s2:Shared):Prop:=
 ∃(it:Addr) (fp:List Addr) (tn:Nat->Heap->Prop) (J:It) (H':Hp),itv=.ref it/\Inv X aj Y H' s2/\Turn X.prog X.w X.K tg J fp it tn/\tn 0 s2.heap/\(∀b∈fp,kJ X aj H' b)/\R J H'
abbrev PI(X:Cx)(tg iter:Expr)(wi:TI):Prop:=
 ∀(aj: ~~~1) (s:Shared) (Y:St) (H:Hp) (R:It->Hp->Prop),Inv X aj Y H s->wi Y H R->
  wpAny (~~~2) X.A (eval iter X.env) (λv s1=>wpAny (~~~2) X.A (pyIter v) (PIE X aj Y tg R) X.xe s1) X.xe s
def GQ(ho:s.heap.get? it=!o)(hc:o.cls=.type n)(hd:o.data=.fields vs)
  (hn:["enumerate", "zip", "dict_itemiterator", "dict_reverseitemiterator", "odict_iterator", "itertools.zip_longest", "itertools.pairwise"].contains n=false) (hQ:Q () s):wpAny M A (letOwnedTupleGo tg (.ref it) u) Q E s:=by
 cases tg <;> first
  |show dC hQ
  | (cases u <;> first
    |show dC hQ
    | (apply aS (wpAny_load ho ?_)
       rw[hc,hd];exact wpAny M A (if (["enumerate", "zip", "dict_itemiterator", "dict_reverseitemiterator", "odict_iterator", "itertools.zip_longest", "itertools.pairwise"].contains n&&vs[0]?==!(rawInt _))=true then _ else _) Q E s
       rw[i7 (by intro h;rw[hn]at h;symm)]
       show dC hQ))
abbrev Itl(K:Frag)(a:Addr):It:=
 #[λi H=>∃xs x,cQ K H a xs/\xs[i]?=!x,λi H x H'=>H'=H/\∀xs,cQ K H a xs->xs[i]?=!x,λi H=>∃xs,cQ K H a xs/\xs.length<=i]
abbrev Itt(K:Frag)(a:Addr):It:=
 #[λi H=>∃xs x,iu K H a xs/\xs[i]?=!x,λi H x H'=>H'=H/\∀xs,iu K H a xs->xs[i]?=!x,λi H=>∃xs,iu K H a xs/\xs.length<=i]
abbrev TF(lo:Int)(n:Nat):It:=#[λi _=>i<n,λi H x H'=>H'=H/\x=.int (lo+i),λi _=>n<=i]
def CV{P:Program}{w:World}{K:Frag}{tg:Expr}(a it:Addr):Turn P w K tg (Itl K a) [it] it (λi h=>h.IsListIter it a i) where
 mem:=by simp
 obj:=λi h st b hb=>by
  have e:b=it:=by simpa using hb
  subst e;let(o,e,c,d):=st;show#[o,e,λv z=>by rw[d]at z;cases z]
 keep:=λi h h' st k=>st.at λo e=>k it ⋯ o e
 item:=by
  intro X hP hw hK hc i aj s Y H E I hf st hg;subst hP hw hK;let(xs,x,hq,hx):=hg;let(its,rv,p,hz):=I.list hq;let(u,hu,ru):=rv.get hx;let(f0,f1,f2,f3,f4,f5):=hf it ⋯;apply wpAny_pyNext_list_item st p.isList (by simpa using hu) λh' st' sb=>?_
  have I1:=I.turned (t':=s.toks) (λb o hb e=>(sb.2 b hb).trans e) f0 f1 f3 f4 f5
  let(o,e,c,d):=id st';show#[u,rfl,GQ e c d ⋯ #[x,H,I1,ru,#[rfl,λys hy=>by rw[I.vq hy hq];show hx],st',λb hb=>(hf b hb).1]]
 done:=by intro X hP hw hK hc i aj s Y H E I hf st hg;subst hP hw hK;let(xs,hq,hx):=hg;let(its,rv,p,hz):=I.list hq;let(f0,f1,f2,f3,f4,f5):=hf it ⋯;have hl:=rv.length;show wpAny_pyNext_list_end (I.ok.hd hc) st p.isList (by simp;lia) λh' eb=>#[rfl,I.turned (λb o hb e=>eb b o hb e) f0 f1 f3 f4 f5]
 self:=λ_ _ _ _ _ st h=>wpAny_pyIter_listiter st h
def yG{P:Program}{w:World}{K:Frag}{tg:Expr}(a it:Addr):Turn P w K tg (Itt K a) [it] it (λi h=>h.IsTupleIter it a i) where
 mem:=by simp
 obj:=λi h st b hb=>by
  have e:b=it:=by simpa using hb
  subst e;let(o,e,c,d):=st;show#[o,e,λv z=>by rw[d]at z;cases z]
 keep:=λi h h' st k=>st.at λo e=>k it ⋯ o e
 item:=by
  intro X hP hw hK hc i aj s Y H E I hf st hg;subst hP hw hK;let(xs,x,hq,hx):=hg;let(its,rv,p,hz):=I.tuple hq;let(u,hu,ru):=rv.get hx;let(f0,f1,f2,f3,f4,f5):=hf it ⋯;apply wpAny_pyNext_tuple_item st (show s.heap.IsTuple a its.toArray from p) (by simpa using hu) λh' st' sb=>?_
  have I1:=I.turned (t':=s.toks) (λb o hb e=>(sb.2 b hb).trans e) f0 f1 f3 f4 f5
  let(o,e,c,d):=id st';show#[u,rfl,GQ e c d ⋯ #[x,H,I1,ru,#[rfl,λys hy=>by rw[I.rF hy hq];show hx],st',λb hb=>(hf b hb).1]]
 done:=by intro X hP hw hK hc i aj s Y H E I hf st hg;subst hP hw hK;let(xs,hq,hx):=hg;let(its,rv,p,hz):=I.tuple hq;let(f0,f1,f2,f3,f4,f5):=hf it ⋯;have hl:=rv.length;show wpAny_pyNext_tuple_end (I.ok.hd hc) st (show s.heap.IsTuple a its.toArray from p) (by simp;lia) λh' eb=>#[rfl,I.turned (λb o hb e=>eb b o hb e) f0 f1 f3 f4 f5]
 self:=λ_ _ _ _ _ st h=>wpAny_pyIter_tupleiter st h
def yH{P:Program}{w:World}{K:Frag}{tg:Expr}(it:Addr)(lo:Int)(n:Nat):Turn P w K tg (TF lo n) [it] it (λi h=>IsRangeIter h it (lo+(i:Nat) * 1) ((n:Int) - (i:Nat)) 1) where
 mem:=by simp
 obj:=λi h st b hb=>by
  have e:b=it:=by simpa using hb
  subst e;show#[_,st,λv z=>by
   have z':=z;cases z']
 keep:=λi h h' st k=>k it ⋯ _ st
 item:=by
  intro X hP hw hK hc i aj s Y H E I hf st hg;subst hP hw hK;let(f0,f1,f2,f3,f4,f5):=hf it ⋯;have W:=Walks.range (prog:=X.prog) (w:=X.w) (I.ok.hd hc) it lo 1 n;apply W.item i s _ _ hg st λv h' tk hv st' kk=>?_
  let(t,rfl):=hv;have I1:Inv X aj Y H { s with heap:=h',toks:=tk}:=I.turned (λb o hb e=>kk b o (by simpa using hb) e) f0 f1 f3 f4 f5
  apply#[_,rfl,GQ st' rfl rfl ⋯ #[.int (lo+i),H,I1,#[t,?_],#[rfl,rfl],st',λb hb=>(hf b hb).1]]
  rw[Int.mul_one]
 done:=by intro X hP hw hK hc i aj s Y H E I hf st hg;let(f0,f1,f2,f3,f4,f5):=hf it ⋯;show wpAny_pyNext_range_end (I.ok.hd hc) st (by have:n<=i:=hg;lia) λh' eb=>#[rfl,I.turned (λb o hb e=>eb b o hb e) f0 f1 f3 f4 f5]
 self:=λ_ _ _ _ _ st h=>wpAny_pyIter_rangeiter st h
section
variable{X:Cx}{tg:Expr}
abbrev Zh(K:Frag)(tl:TE):TI:=λY H R=>tl Y H λx H1=>∃a,x=.ref a/\(∃xs,cQ K H1 a xs)/\R (Itl K a) H1
abbrev iTup(K:Frag)(tl:TE):TI:=λY H R=>tl Y H λx H1=>∃a,x=.ref a/\(∃xs,iu K H1 a xs)/\R (Itt K a) H1
def Ar{l:Expr}{tl:TE}(hl:PE X l tl):PI X tg l (Zh X.K tl):=by
 intro aj s Y H R I h;apply bU (hl aj s Y H _ I h) ?_;rintro v s1 ⟨x,H1,I1,r1,q1⟩;let(a,e,(xs,hq),q):=q1;subst e;cases r1;let(its,rv,p,hz):=I1.list hq;apply B9 p.isList ?_;apply#[s1⁻¹,[s1⁻¹],_,_,H1,rfl,I1.kept λb o e=>b0 _ e,CV a _,#[_,eC _ rfl,rfl,rfl],λb hb=>?_,q]
 have e:b=s1⁻¹:=by simpa using hb
 subst e;show I1.yF (eD _) (I1.hok.fresh (eD _))
def GR{l:Expr}{tl:TE}(hl:PE X l tl):PI X tg l (iTup X.K tl):=by
 intro aj s Y H R I h;apply bU (hl aj s Y H _ I h) ?_;rintro v s1 ⟨x,H1,I1,r1,q1⟩;let(a,e,(xs,hq),q):=q1;subst e;cases r1;let(its,rv,p,hz):=I1.tuple hq;apply AK (show s1.heap.IsTuple a its.toArray from p) ?_
 apply#[s1⁻¹,[s1⁻¹],_,_,H1,rfl,I1.kept λb o e=>b0 _ e,yG a _,#[_,eC _ rfl,rfl,rfl],λb hb=>?_,q]
 have e:b=s1⁻¹:=by simpa using hb
 subst e;show I1.yF (eD _) (I1.hok.fresh (eD _))
def vC{aj: ~~~1}{Y:St}{H:Hp}{s:Shared}{R:It->Hp->Prop}{E:Value->Shared->Prop}{lo hi:Int}{t u v:Tok}{tk:Nat}(I: ~~~7)(h1 : -(2 ^ 62)<=lo)(h2:lo<2 ^ 62)(h3 : -(2 ^ 62)<=hi)(h4:hi<2 ^ 62)
  (q:R (TF lo (hi - lo).toNat) H):wpAny (~~~2) X.A (pyIter (.ref s⁻¹)) (PIE X aj Y tg R) E { s with heap:=s.heap.push { cls:=.type "range",data:=.fields ([.int lo t,.int hi u,.int 1 v].toArray)},toks:=tk}:=by
 apply wpAny_pyIter_range (IsRange.new ..) (small_one h1 h2 h3 h4) ?_;have I1:Inv X aj Y H { s with heap:=s.heap.push { cls:=.type "range",data:=.fields ([.int lo t,.int hi u,.int 1 v].toArray)},toks:=tk}:=I.kept λb o e=>b0 _ e
 apply#[(s.heap.push { cls:=.type "range",data:=.fields ([.int lo t,.int hi u,.int 1 v].toArray)}).objs.size,[(s.heap.push { cls:=.type "range",data:=.fields ([.int lo t,.int hi u,.int 1 v].toArray)}).objs.size],_,_,H,rfl,
  I1.kept λb o e=>b0 _ e,yH _ lo (hi - lo).toNat,?_,λb hb=>?_,q]
 .
  have e1:lo+((0:Nat):Int) * 1=lo:=by simp
  have e2:(((hi - lo).toNat:Nat):Int) - ((0:Nat):Int)=Builtin.Range.rangeSize lo hi 1:=by rw[rangeSize_one];split <;> lia
  rw[e1,e2];show eC _ rfl
 .
  have e:b=(s.heap.push { cls:=.type "range",data:=.fields ([.int lo t,.int hi u,.int 1 v].toArray)}).objs.size:=by simpa using hb
  subst e;show I1.yF (eD _) (I1.hok.fresh (eD _))
abbrev Zi(ta:TA):TI:=λY H R=>ta Y H λvs H1=>∃j:Int,vs=[.int j]/\-(2 ^ 62)<=j/\j<2 ^ 62/\R (TF 0 j.toNat) H1
abbrev Zj(ta:TA):TI:=λY H R=>ta Y H λvs H1=>∃i j:Int,vs=[.int i,.int j]/\(-(2 ^ 62)<=i/\i<2 ^ 62/\-(2 ^ 62)<=j/\j<2 ^ 62)/\R (TF i (j - i).toNat) H1
def rG{a:Expr}{ta:TA}{p pos:Pos}(hg:Gl X "range")(hm:X.mg "range"=none)(ha:PA X [a] ta)(hs:starEach [a] X.env=[(false,eval a X.env)]:=by rfl):PI X tg (.Call (.Name "range" p) [a] [] pos) (Zi ta):=by
 intro aj s Y H R I h;apply Call_ (gI I hg hm boot_range (oQ (bU (ha pos aj s Y H _ I h) ?_) hs rfl));rintro us s1 ⟨vs,H1,I1,r1,q1⟩;let(j,e,q1,q2,q):=q1;subst e;cases r1 with
 |cons r rr=>cases rr;let(t,rfl):=r;show call_range_1 (vC I1 ⋯ ⋯ q1 q2 (by simpa using q))
def CW{a b:Expr}{ta:TA}{p pos:Pos}(hg:Gl X "range")(hm:X.mg "range"=none)(ha:PA X [a,b] ta)(hs:starEach [a,b] X.env=[(false,eval a X.env),(false,eval b X.env)]:=by rfl)(hs2:starEach [b] X.env=[(false,eval b X.env)]:=by rfl) :
  PI X tg (.Call (.Name "range" p) [a,b] [] pos) (Zj ta):=by
 intro aj s Y H R I h;apply Call_ (gI I hg hm boot_range (oQ (bU (ha pos aj s Y H _ I h) λus s1 #[vs,H1,I1,r1,q1]=>?_) (by rw[hs,hs2]) (by rw[hs2];rfl)))
 let(i,j,e,(q1,q2,q3,q4),q):=q1;subst e;cases r1 with
 |cons r rr=>
  cases rr with
  |cons r' rr=>cases rr;let(t,rfl):=r;let(t',rfl):=r';show call_range_2 (vC I1 q1 q2 q3 q4 q)
abbrev tFor(wi:TI)(g:TG)(tb:TS):TS:=λD Y H=>wi Y H λJ H1=>∃W:Nat->Nat->St->Hp->Prop,(∃m,W 0 m Y H1)/\∀i m Y H,W i m Y H->
 (J.stop i H/\D.nx Y H)\/(J.go i H/\∃N:St->Hp->Prop,(∀σ' H',N σ' H'->∃m',m'<m/\W (i+1) m' σ' H')/\∀x H',J.Yj i H x H'->g x Y H' λσ2 H2=>tb { D with nx:=N,ct:=N,bk:=D.nx} σ2 H2)
abbrev lO(fp:List Addr)(h:Heap): ~~~1:=fp.filterMap λb=>(h.get? b).map λo=>(b,o)
def dD{fp:List Addr}{h:Heap}{b:Addr}{o:Obj}(hb:b∈fp)(e:h.get? b=!o):(b,o)∈lO fp h:=BM.mpr #[b,hb,by rw[e];rfl]
def CZ(hp:p∈lO fp h):p.1∈fp/\h.get? p.1=!p.2:=by
 let(b,hb,e):=BM.mp hp;cases q:h.get? b with
 |none=>rw[q]at e;cases e
 |some o=>rw[q]at e;have e':=mP e;subst e';show#[hb,q]
def Inv.pinned{aj: ~~~1}{Y:St}{H:Hp}{s:Shared}{fp:List Addr}(I: ~~~7)(hf:∀b∈fp,kJ X aj H b)(ho:∀b∈fp,∃o,s.heap.get? b=!o/\∀v,o.data≠.cell v):Inv X (aj++lO fp s.heap) Y H s:=
 I.Al λp hp=>(oP.mp hp).elim (λz=>I.pin p (gN _ z)) λz=>by
  let(hb,e):=CZ z;let(f0,f1,f2,_):=hf p.1 hb;let(o,e',d):=ho p.1 hb;rw[e]at e';cases e';show#[e,f0,f1,f2,d]
def Inv.iz{aj pl: ~~~1}{Y:St}{H:Hp}{s:Shared}(I:Inv X (aj++pl) Y H s):Inv X aj Y H s:=I.Al λp hp=>I.pin p (gN _ (l8 _ hp))
def GX{iter:Expr}{body:List Stmt}{wi:TI}{g:TG}{tb:TS}{pos:Pos}(hp:PassesOwn (~~~2) X.A X.env X.xe)(hc:X.calm=true)(hi:PI X tg iter wi)(hg:PG X tg g)(hb:tH X body tb)
  (hs:∀x,foldedSetIterable iter X.env x=pure x:=by intro _;rfl):PS X (.For tg iter body [] pos) (tFor wi g tb):=by
 intro aj s Y H D I h;apply wpAny_For (bU (hi aj s Y H _ I h) λv s1 h1=>bU h1 λitv s2 h2=>?_) hs
 let(it,fp,tn,J,H2,e,I2,T,aI,f2,W,(m0,w0),turn):=h2;subst e;have stat:∀{H':Hp},(∀b∈fp,H' b=none)->∀b∈fp,kJ X aj H' b:=λhn b hb=>#[hn b hb,(f2 b hb).2]
 apply codeAny_forLoop_any (λn s'=>∃i σ' H',Inv X aj σ' H' s'/\tn i s'.heap/\(∀b∈fp,H' b=none)/\W i n σ' H') ?_ m0 #[0,Y,H2,I2,aI,λb hb=>(f2 b hb).1,w0]
 rintro n s3 ⟨i,σ3,H3,I3,dY,Ru,w3⟩;rcases turn i n σ3 H3 w3 with ⟨stop,qn⟩ |⟨go,N,hN,step⟩
 . apply AO hp (bU (T.done X rfl rfl rfl hc i aj s3 σ3 H3 X.xe I3 (stat Ru) dY stop) ?_);rintro r s4 ⟨hr,I4⟩;subst hr;show wpAny_execs_nil #[σ3,H3,I4,qn]
 .
  apply AO hp (bU (T.item X rfl rfl rfl hc i aj s3 σ3 H3 X.xe I3 (stat Ru) dY go) ?_);rintro r s4 ⟨u,hr,h4⟩;subst hr;apply AO hp (bU h4 ?_);rintro _ s5 ⟨x,H5,I5,r5,y5,jq,Zm⟩;have Zn:=I5.pinned (stat Zm) (T.obj _ _ jq);apply AO hp (bU (hg _ s5 σ3 H5 x u _ Zn r5 (step x H5 y5)) ?_);rintro _ s6 ⟨σ6,H6,I6,q6⟩;apply AO hp (bU (hb _ s6 σ6 H6 _ I6 q6) λf s7 q7=>?_)
  have again:∀{σ7:St}{H7:Hp},Inv X (aj++lO fp s5.heap) σ7 H7 s7->N σ7 H7->∃m,m<n/\∃i σ' H',Inv X aj σ' H' s7/\tn i s7.heap/\(∀b∈fp,H' b=none)/\W i m σ' H':=λ{σ7 H7} I7 n7=>by
   let(m',hm,w7):=hN σ7 H7 n7;apply#[m',hm,i+1,σ7,H7,I7.iz,T.keep _ _ _ jq λb hb o e=>(I7.pin (b,o) (gN _ (gN _ (dD hb e)))).1,λb hb=>?_,w7]
   let(o,e,d):=T.obj _ _ jq b hb;show (I7.pin (b,o) (gN _ (gN _ (dD hb e)))).2.1
  cases f with
  |next=>let(σ7,H7,I7,n7):=q7;show again I7 n7
  |cont=>let(σ7,H7,I7,n7):=q7;show again I7 n7
  |brk=>let(σ7,H7,I7,q7):=q7;show#[σ7,H7,I7.iz,q7]
  |ret v=>let(x7,σ7,H7,I7,r7,q7):=q7;show#[x7,σ7,H7,I7.iz,r7,q7]
end
def R2:=V->V->Hp->VK->Prop
abbrev lJ(X:Cx)(f:Value->Value->Sem Value)(r:R2):Prop:=
 ∀(aj: ~~~1) (s:Shared) (Y:St) (H:Hp) (x y:V) (v u:Value) (Q:VK),Inv X aj Y H s->RelV x v->RelV y u->r x y H Q->
  wpAny (~~~2) X.A (f v u) (EP X aj Y Q) X.xe s
abbrev UnR(X:Cx)(f:Value->Sem Value)(r:V->Hp->VK->Prop):Prop:=
 ∀(aj: ~~~1) (s:Shared) (Y:St) (H:Hp) (x:V) (v:Value) (Q:VK),Inv X aj Y H s->RelV x v->r x H Q->
  wpAny (~~~2) X.A (f v) (EP X aj Y Q) X.xe s
abbrev eF(X:Cx)(f:Value)(r:List V->Hp->VK->Prop):Prop:=
 ∀(aj: ~~~1) (s:Shared) (Y:St) (H:Hp) (xs:List V) (us:List Value) (Q:VK),Inv X aj Y H s->Vals xs us->r xs H Q->
  wpAny (~~~2) X.A (call f us) (EP X aj Y Q) X.xe s
abbrev TruR(X:Cx)(r:V->Hp->(Bool->Hp->Prop)->Prop):Prop:=
 ∀(aj: ~~~1) (s:Shared) (Y:St) (H:Hp) (x:V) (v:Value) (Q:Bool->Hp->Prop),Inv X aj Y H s->RelV x v->r x H Q->
  wpAny (~~~2) X.A (truthy v) (TP X aj Y Q) X.xe s
abbrev tOp(r:R2)(ta tb:TE):TE:=λY H Q=>ta Y H λx H1=>tb Y H1 λy H2=>r x y H2 Q
abbrev tUn(r:V->Hp->VK->Prop)(ta:TE):TE:=λY H Q=>ta Y H λx H1=>r x H1 Q
abbrev rI(C:Int->Int->Prop)(g:Int->Int->V):R2:=λx y H Q=>∃i j,x=.int i/\y=.int j/\C i j/\Q (g i j) H
abbrev Gf(g:Int->Int->V):R2:=λx y H Q=>∃i j,x=.int i/\y=.int j/\Q (g i j) H
abbrev rU(g:Int->V):V->Hp->VK->Prop:=λx H Q=>∃i,x=.int i/\Q (g i) H
section
variable{X:Cx}{a b c:Expr}{ta tb tc:TE}{pos:Pos}
def TJ(ha:PE X a ta)(hb:PE X b tb){aj: ~~~1}{s:Shared}{Y:St}{H:Hp}{R:V->V->Hp->Prop}(I: ~~~7)
  (h:ta Y H λx H1=>tb Y H1 λy H2=>R x y H2) {Q:Value->Shared->Prop}{f:Value->Value->Sem Value}
  (hf:∀v u s2 x y H2,Inv X aj Y H2 s2->RelV x v->RelV y u->R x y H2->wpAny (~~~2) X.A (f v u) Q X.xe s2) :
  wpAny (~~~2) X.A (eval a X.env) (λv s₁=>wpAny (~~~2) X.A (eval b X.env) (λu s₂=>wpAny (~~~2) X.A (f v u) Q X.xe s₂) X.xe s₁) X.xe s:=by
 apply bU (ha aj s Y H _ I h) λv s1 #[x,H1,I1,r1,q1]=>?_
 apply bU (hb aj s1 Y H1 _ I1 q1) λu s2 #[y,H2,I2,r2,q2]=>?_
 show hf v u s2 x y H2 I2 r1 r2 q2
def Zo{op:Operator}{r:R2}(ho:lJ X (binaryOp op) r)(ha:PE X a ta)(hb:PE X b tb):PE X (.BinOp a op b pos) (tOp r ta tb):=by intro aj s Y H Q I h;show wpAny_BinOp (TJ ha hb I h λv u s2 x y H2 I2 rx ry q=>ho aj s2 Y H2 x y v u Q I2 rx ry q)
def Zq{op:UnaryOp}{r:V->Hp->VK->Prop}(ho:UnR X (unaryOp op) r)(ha:PE X a ta):PE X (.UnaryOp op a pos) (tUn r ta):=by intro aj s Y H Q I h;show UnaryOp_ (bU (ha aj s Y H _ I h) (by rintro v s1 ⟨x,H1,I1,r1,q1⟩;show ho aj s1 Y H1 x v Q I1 r1 q1))
def Zr{f:Value->Value->Sem Value}{C:Int->Int->Prop}{g:Int->Int->Int}
  (rule:∀(i j:Int) (t u:Tok) (s:Shared) (Q:Value->Shared->Prop) (E:Value->Shared->Prop),C i j->Q (.int (g i j) s.toks) { s with toks:=s.toks+1}->wpAny (~~~2) X.A (f (.int i t) (.int j u)) Q E s) :
  lJ X f (rI C λi j=>.int (g i j)):=by
 intro aj s Y H x y v u Q I rx ry h;let(i,j,rfl,rfl,hc,q):=h;let(t,rfl):=rx;let(t',rfl):=ry;show rule i j t t' s _ _ hc #[.int (g i j),H,I.tok _,#[_,rfl],q]
def Mi{f:Value->Value->Sem Value}{g:Int->Int->Int}
  (rule:∀(i j:Int) (t u:Tok) (s:Shared) (Q:Value->Shared->Prop) (E:Value->Shared->Prop),Q (.int (g i j) s.toks) { s with toks:=s.toks+1}->wpAny (~~~2) X.A (f (.int i t) (.int j u)) Q E s) :
  lJ X f (Gf λi j=>.int (g i j)):=by
 intro aj s Y H x y v u Q I rx ry h;let(i,j,rfl,rfl,q):=h;let(t,rfl):=rx;let(t',rfl):=ry;show rule i j t t' s _ _ #[.int (g i j),H,I.tok _,#[_,rfl],q]
def Mj{f:Value->Value->Sem Value}{g:Int->Int->Bool}
  (rule:∀(i j:Int) (t u:Tok) (s:Shared) (Q:Value->Shared->Prop) (E:Value->Shared->Prop),Q (.bool (g i j)) s->wpAny (~~~2) X.A (f (.int i t) (.int j u)) Q E s) :
  lJ X f (Gf λi j=>.bl (g i j)):=by
 intro aj s Y H x y v u Q I rx ry h;let(i,j,rfl,rfl,q):=h;let(t,rfl):=rx;let(t',rfl):=ry;show rule i j t t' s _ _ #[.bl (g i j),H,I,rfl,q]
abbrev CPow(i j:Int):Prop:=0<=j/\j<=1000000/\i.natAbs<2 ^ 64
abbrev Mk(i j:Int):Prop:=(-(2 ^ 64)<i/\i<2 ^ 64)\/(-(2 ^ 64)<j/\j<2 ^ 64)
def Mk.ok{i j:Int}(h:Mk i j):IntMulOk i j:=by
 rcases h with ⟨h1,h2⟩ |⟨h1,h2⟩
 . show .of_left (intBits_le_64 h1 h2)
 . show .of_right (intBits_le_64 h1 h2)
def TL:lJ X (binaryOp .Add) (Gf λi j=>.int (i+j)):=Mi λ_ _ _ _ _ _ _ q=>add_int q
def TQ:lJ X (binaryOp .Sub) (Gf λi j=>.int (i - j)):=Mi λ_ _ _ _ _ _ _ q=>sub_int q
def TV:lJ X (binaryOp .Mult) (rI Mk λi j=>.int (i * j)):=Zr λ_ _ _ _ _ _ _ hc q=>mul_int q hc.ok
def TX:lJ X (binaryOp .Mod) (rI (λ_ j=>0<j) λi j=>.int (i % j)):=Zr λi j _ _ _ _ _ hc q=>by
 show mod_int' ⋯ (by rw[Int.fmod_eq_emod_of_nonneg i ⋯];show q)
def tQ:lJ X (binaryOp .Pow) (rI CPow λi j=>.int (i ^ j.toNat)):=Zr λ_ _ _ _ _ _ _ hc q=>pow_int_small hc.1 hc.2.1 hc.2.2 q
def Ml:lJ X (inplaceOp .Add) (Gf λi j=>.int (i+j)):=Mi λ_ _ _ _ _ _ _ q=>iadd_int q
def Mm:lJ X (inplaceOp .Sub) (Gf λi j=>.int (i - j)):=Mi λ_ _ _ _ _ _ _ q=>isub_int q
def Mp:lJ X (inplaceOp .Mult) (rI Mk λi j=>.int (i * j)):=Zr λ_ _ _ _ _ _ _ hc q=>imul_int q hc.ok
def unI{f:Value->Sem Value}{g:Int->Int}
  (rule:∀(i:Int) (t:Tok) (s:Shared) (Q:Value->Shared->Prop) (E:Value->Shared->Prop),Q (.int (g i) s.toks) { s with toks:=s.toks+1}->wpAny (~~~2) X.A (f (.int i t)) Q E s) :
  UnR X f (rU λi=>.int (g i)):=by
 intro aj s Y H x v Q I rx h;let(i,rfl,q):=h;let(t,rfl):=rx;show rule i t s _ _ #[.int (g i),H,I.tok _,#[_,rfl],q]
def TY:UnR X (unaryOp .USub) (rU λi=>.int (-i)):=unI λ_ _ _ _ _ q=>neg_int q
end
section
variable{X:Cx}{a b c:Expr}{ta tb tc:TE}{pos:Pos}
def Zt:lJ X (compareOp .Lt) (Gf λi j=>.bl (decide (i<j))):=Mj λ_ _ _ _ _ _ _ q=>lt_int q
def Zu:lJ X (compareOp .LtE) (Gf λi j=>.bl (decide (i<=j))):=Mj λ_ _ _ _ _ _ _ q=>le_int q
def Zv:lJ X (compareOp .Gt) (Gf λi j=>.bl (decide (j<i))):=Mj λ_ _ _ _ _ _ _ q=>gt_int q
def Zw:lJ X (compareOp .GtE) (Gf λi j=>.bl (decide (j<=i))):=Mj λ_ _ _ _ _ _ _ q=>ge_int q
def Mq{op:CmpOp}{r:R2}(ho:lJ X (compareOp op) r)(ha:PE X a ta)(hb:PE X b tb)(hm:behindInMarks op b=false):PE X (.Compare a [op] [b] pos) (tOp r ta tb):=by intro aj s Y H Q I h;show wpAny_Compare1 (TJ ha hb I h λv u s2 x y H2 I2 rx ry q=>ho aj s2 Y H2 x y v u Q I2 rx ry q) hm
abbrev Zx(t:TE):TT:=λY H Q=>t Y H λx H'=>∃k,x=.bl k/\Q k H'
def Mr{op:CmpOp}{r:R2}(ho:lJ X (compareOp op) r)(ha:PE X a ta)(hb:PE X b tb)(hm:behindInMarks op b=false):PT X (.Compare a [op] [b] pos) (Zx (tOp r ta tb)):=by
 intro aj s Y H Q I h;apply wpAny_isTrue_Compare1 (bU (ha aj s Y H _ I h) λv s1 #[x,H1,I1,r1,q1]=>bU (hb aj s1 Y H1 _ I1 q1) λu s2 #[y,H2,I2,r2,q2]=>
  bU (ho aj s2 Y H2 x y v u _ I2 r1 r2 q2) λc s3 #[z,H3,I3,r3,k,e,q3]=>?_) hm
 subst e;cases r3;show nK #[H3,I3,q3]
abbrev Zy(K:Frag)(x:V)(H:Hp)(k:Bool):Prop:=
 match x with
 |.non=>k=false
 |.bl b=>k=b
 |.int i=>k=(i != 0)
 |.str y=>y.length<=sizeLine/\k=((y.length:Int) != 0)
 |.S8 y=>y.size<=sizeLine/\k=((y.size:Int) != 0)
 |.ref p=>(∃xs,cQ K H p xs/\k=(not xs.isEmpty))\/(∃xs,iu K H p xs/\k=(not xs.isEmpty))\/∃lH,H p=!(.dK lH)/\k=(not lH.isEmpty)
 |_=>False
def yI{κ:Type}{lH:List (κ×V)}{vs:List (κ×Value)}(r:KV lH vs):((not vs.isEmpty))=(not lH.isEmpty):=by cases r <;> rfl
def n8{xs:List V}{its:List Value}(r:Vals xs its):((not its.toArray.isEmpty))=(not xs.isEmpty):=by cases r <;> simp
def yJ:(sizeLine:Nat)<2 ^ 63:=by rw[sB];decide
def T3:TruR X (λx H Q=>∃k,Zy X.K x H k/\Q k H):=by
 intro aj s Y H x v Q I rx h;let(k,e,q):=h;have hs:=sB;cases x with
 |non=>cases rx;have e':=e;subst e';show truthy_none #[H,I,q]
 |bl b=>cases rx;have e':=e;subst e';show nK #[H,I,q]
 |int i=>let(t,rfl):=rx;have e':=e;subst e';show PySem.P.truthy_int #[H,I,q]
 |str y=>let(t,rfl):=rx;obtain⟨hy,e'⟩:y.length<=sizeLine/\k=((y.length:Int) != 0):=e;subst e';show PySem.P.truthy_str ⋯ #[H,I.tok _,q]
 |S8 y=>let(t,rfl):=rx;obtain⟨hy,e'⟩:y.size<=sizeLine/\k=((y.size:Int) != 0):=e;subst e';show PySem.W.truthy_bytes ⋯ #[H,I.tok _,q]
 |ref p=>
  cases rx;have e':=e;rcases e' with ⟨xs,hx,e'⟩ |⟨xs,hx,e'⟩ |⟨lH,hx,e'⟩
  . subst e';let(its,r,pl,hz):=I.list hx;have aK:=r.length;show wpAny_truthy_list pl.isList (by simp only[dL];lia) #[H,I.tok _,by rw[n8 r];show q]
  . subst e';let(its,r,pl,hz):=I.tuple hx;have aK:=r.length;show truthy_tuple pl (by simp only[dL];lia) #[H,I.tok _,by rw[n8 r];show q]
  . subst e';obtain⟨hz,hS,vs,r,m⟩:lH.length<=sizeLine/\(p==sysModules)=false/\∃vs,KV lH vs/\s.heap.DictOf (tE X.prog X.w) p vs:=I.hok p _ hx;have aK:=Paired.length r;show wpAny_truthy_dict hS m ⋯ #[H,I.tok _,by rw[yI r];show q]
 |_=>show (show False from e).elim
def GZ(ha:PE X a ta)(he:∀whole,isTrue a X.env whole=(do let v <- whole;standAt a.pos;holding [v] (truthy v))) :
  PT X a (λY H Q=>ta Y H λx H'=>∃k,Zy X.K x H' k/\Q k H'):=by
 intro aj s Y H Q I h;show isTrue_plain (bU (ha aj s Y H _ I h) (by rintro v s1 ⟨x,H1,I1,r1,q1⟩;show T3 aj s1 Y H1 x v Q I1 r1 q1)) (he _)
def vals1(r:Vals [x] us):∃u,us=[u]/\RelV x u:=by
 cases r with
 |cons r1 r2=>cases r2;show#[_,rfl,r1]
def vals2(r:Vals [x,y] us):∃u w',us=[u,w']/\RelV x u/\RelV y w':=by
 cases r with
 |cons r1 r2=>
  cases r2 with
  |cons r3 r4=>cases r4;show#[_,_,rfl,r1,r3]
def Dc(hc:X.calm=true):eF X (.builtin "max") (λxs H Q=>∃i j,xs=[.int i,.int j]/\Q (.int (if j > i then j else i)) H):=by
 intro aj s Y H xs us Q I r h;let(i,j,rfl,q):=h;let(u,w',rfl,(t,rfl),(t',rfl)):=vals2 r;apply max_two_ints (I.ok.hd hc) λh' tk k=>#[_,H,I.kept k,?_,q]
 by_cases hj:j > i
 . rw[i8 hj,i8 hj];show#[_,rfl]
 . rw[i7 hj,i7 hj];show#[_,rfl]
def Dd(hc:X.calm=true):eF X (.builtin "min") (λxs H Q=>∃i j,xs=[.int i,.int j]/\Q (.int (if j<i then j else i)) H):=by
 intro aj s Y H xs us Q I r h;let(i,j,rfl,q):=h;let(u,w',rfl,(t,rfl),(t',rfl)):=vals2 r;apply min_two_ints (I.ok.hd hc) λh' tk k=>#[_,H,I.kept k,?_,q]
 by_cases hj:j<i
 . rw[i8 hj,i8 hj];show#[_,rfl]
 . rw[i7 hj,i7 hj];show#[_,rfl]
abbrev LenV(K:Frag)(x:V)(H:Hp)(n:Nat):Prop:=
 match x with
 |.str y=>y.length<=sizeLine/\n=y.length
 |.S8 y=>y.size<=sizeLine/\n=y.size
 |.ref p=>(∃xs,cQ K H p xs/\n=xs.length)\/∃xs,iu K H p xs/\n=xs.length
 |_=>False
def G0:eF X (.builtin "len") (λxs H Q=>∃x n,xs=[x]/\LenV X.K x H n/\Q (.int n) H):=by
 intro aj s Y H xs us Q I r h;let(x,n,rfl,e,q):=h;let(u,rfl,rx):=vals1 r;have hs:=sB;cases x with
 |str y=>let(t,rfl):=rx;obtain⟨hy,e'⟩:y.length<=sizeLine/\n=y.length:=e;subst e';show len_str ⋯ #[.int _,H,I.tok _,#[_,rfl],q]
 |S8 y=>let(t,rfl):=rx;obtain⟨hy,e'⟩:y.size<=sizeLine/\n=y.size:=e;subst e';show PySem.W.len_bytes ⋯ #[.int _,H,I.tok _,#[_,rfl],q]
 |ref p=>
  cases rx;have e':=e;rcases e' with ⟨xs,hx,e'⟩ |⟨xs,hx,e'⟩
  . subst e';let(its,r',pl,hz):=I.list hx;have aK:=r'.length;show Calls.call_len_list pl.isList (by simp only[dL];lia) #[.int xs.length,H,I.tok _,#[_,by simp only[dL];rw[aK]],q]
  . subst e';let(its,r',pl,hz):=I.tuple hx;have aK:=r'.length;show len_tuple pl (by simp only[dL];lia) #[.int xs.length,H,I.tok _,#[_,by simp only[dL];rw[aK]],q]
 |_=>show (show False from e).elim
end
structure cB(k:Nat)(A:Around):Prop where
 hd:A.handled=none
 dp:A.depth+3 * k+5<recursionLimit
 un:A.units+16 * k+200<cLine
def cB.mono(r:cB k A)(h:j<=k):cB j A:=#[r.hd,by have:=r.dp;lia,by have:=r.un;lia]
def cB.deeper(r:cB (k+1) A)(env:Env):cB k (A.deeper env):=
 #[r.hd,by have:=r.dp;exact A.depth+1+3 * k+5<_;lia,by have:=r.un;exact A.units+3+16 * k+200<_;lia]
def cB.depth(r:cB k A):A.depth<recursionLimit:=by have:=r.dp;lia
def cB.units(r:cB k A):A.units+64<cLine:=by have:=r.un;lia
abbrev tNil:TA:=λ_ H Q=>Q [] H
abbrev Zz(ta:TE)(tr:TA):TA:=λY H Q=>ta Y H λx H1=>tr Y H1 λxs H2=>Q (x::xs) H2
section
variable{X:Cx}{e:Expr}{es:List Expr}{te:TE}{t:TA}{pos:Pos}
def fS:PA X [] tNil:=λ_ _ _ _ H Q I h=>Calls.spliced_nil #[[],H,I,.nil,h]
def bI(ha:PE X e te)(hr:PA X es t)(hs:starEach (e::es) X.env=(false,eval e X.env)::starEach es X.env:=by rfl):PA X (e::es) (Zz te t):=by intro pos aj s Y H Q I h;rw[hs];apply Calls.spliced_cons (bU (ha aj s Y H _ I h) ?_);rintro u s1 ⟨x,H1,I1,r1,q1⟩;show bU (hr pos aj s1 Y H1 _ I1 q1) (by rintro us s2 ⟨xs,H2,I2,r2,q2⟩;show#[x::xs,H2,I2,.cons r1 r2,q2])
abbrev tTup(t:TA):TE:=λY H Q=>t Y H λxs H1=>xs.length<=sizeLine/\∀p,H1 p=none->Q (.ref p) (upd H1 p (.tup xs))
abbrev tLst(t:TA):TE:=λY H Q=>t Y H λxs H1=>xs.length<=sizeLine/\∀p,H1 p=none->Q (.ref p) (upd H1 p (.lst xs))
def G3{x1}(h:PA X es t):PE X (.Tuple es x1 pos) (tTup t):=by
 intro aj s Y H Q I hq;apply wpAny_Tuple_spliced (bU (h pos aj s Y H _ I hq) λus s1 #[xs,H1,I1,r,z,q]=>#[by rw[<- r.length];show z,?_])
 have hf:=I1.hok.fresh (eD _);apply#[.ref s1⁻¹,upd H1 s1⁻¹ (.tup xs),I1.laid (λb u e=>b0 _ e) (eD _) ?_,rfl,q _ hf]
 show#[z,us,r,#[_,eC _ rfl,#[rfl,_,rfl],rfl]]
def G4(h:PA X es t):PE X (.List es pos) (tLst t):=by
 intro aj s Y H Q I hq;apply wpAny_List_spliced (bU (h pos aj s Y H _ I hq) λus s1 #[xs,H1,I1,r,z,q]=>#[by rw[<- r.length];show z,?_])
 have hf:=I1.hok.fresh (eD _);apply#[.ref s1⁻¹,upd H1 s1⁻¹ (.lst xs),I1.laid (λb u e=>b0 _ e) (eD _) ?_,rfl,q _ hf]
 show#[z,us,0,r,eC _ rfl]
end
def Sp:=List V->Hp->VK->XK->Prop
def De:=List Env->Hp->Shared->XK->Value->Shared->Prop
structure G5(P:Program)(w:World)(K:Frag)(mg:Str->Option Value)(base:Heap)(A:Around)(outer:List Env)(s:Shared)(H:Hp):Prop where
 frames:A.frames=!outer
 mod:Mod K mg base
 bs:∀b o,base.get? b=!o->s.heap.get? b=!o/\H b=none
 Gz:base.objs.size<=s⁻¹
 kF:s.heap.FunFrames base outer
 Mf:∀b∈frs outer,H b=none
 hok:lM P w H s.heap
 bare:AllBare s.gens
abbrev CE(outer:List Env)(P:Program)(w:World)(H:Hp)(s:Shared)(Q:VK)(u:Value)(s':Shared):Prop:=
 ∃v H',s'.os=s.os/\AllBare s'.gens/\Un (frs outer) [] H H' s.heap s'.heap/\lM P w H' s'.heap/\RelV v u/\Q v H'
abbrev CR(CX:De)(outer:List Env)(P:Program)(w:World)(H:Hp)(s:Shared)(Q:VK)(E:XK)(r:Result)(s':Shared):Prop:=
 match r with
 |.ok (.ret u)=>CE outer P w H s Q u s'
 |.ok _=>False
 |.error e=>CX outer H s E e s'
structure jK(P:Program)(w:World)(K:Frag)(mg:Str->Option Value)(base:Heap)(CX:De)(k:Nat)(f:Addr)(fd:FuncData)(ps:List Str)(sp:Sp):Prop where
 len:∀vs H Q E,sp vs H Q E->vs.length=ps.length
 run:∀(A:Around) (outer:List Env) (s:Shared) (H:Hp) (args:Args) (us:List Value) (vs:List V) (Q:VK) (E:XK),cB k A->G5 P w K mg base A outer s H->BindsTo s fd args (ps.zip us)->Vals vs us->sp vs H Q E->
  codeAny (model P w) A (.call (.ref f) args) (CR CX outer P w H s Q E) s
section
variable{X:Cx}{aj: ~~~1}{Y:St}{H:Hp}{s s':Shared}
def Inv.Ms(I: ~~~7):G5 X.prog X.w X.K X.mg X.base X.A X.stack s H:=
 #[I.ok.frames,I.ok.mod,I.bs,l7 I.ok.Gz I.sz,I.stack,I.tG,I.hok,I.bare]
def Inv.after(I: ~~~7)(h:CE X.stack X.prog X.w H s Q u s'):EP X aj Y Q u s':=by let(v,H',os,bare,un,hok,r,q):=h;let(hh,g,d,t,os'):=s';obtain rfl:os'=s.os:=os;show#[v,H',I.call un hok bare (λb z=>absurd z ⋯),r,q]
end
abbrev ZC(sp:Sp)(Df:List V)(E:XK)(t:TA):TE:=λY H Q=>t Y H λvs H1=>sp (vs++Df) H1 Q E
abbrev Binds(K:Frag)(fd:FuncData)(ps:List Str)(ds:List Value):Prop:=
 ∀(s:Shared) (us:List Value),K.In s.heap->(us++ds).length=ps.length->BindsTo s fd #[us,[]] (ps.zip (us++ds))
def Binds.all{K:Frag}{fd:FuncData}{ps:List Str}(h:∀us:List Value,us.length=ps.length->bindArgs fd #[us,[]]=pure (ps.zip us)):Binds K fd ps []:=λs us _ hl=>by
 rw[l9]at hl ⊢
 show .of_eq (h us hl)
abbrev Passes(CX:De)(X:Cx)(E:XK):Prop:=∀(aj: ~~~1) (Y:St) (H:Hp) (s:Shared) (e:Value) (s':Shared),Inv X aj Y H s->CX X.stack H s E e s'->X.xe e s'
section
variable{X:Cx}{CX:De}{k:Nat}{f C:Addr}{fd:FuncData}{ps:List Str}{sp:Sp}{Df:List V}{ds:List Value}{E:XK}{x m:Str}{p pos cZ:Pos}{e o:Expr}{es:List Expr}{ta:TE}{t:TA}
def T4{aj: ~~~1}{Y:St}{H:Hp}{s:Shared}{Q:VK}{us:List Value}{vs:List V}(F:jK X.prog X.w X.K X.mg X.base CX k f fd ps sp)(hr:cB k X.A)(hb:Binds X.K fd ps ds)(hd:Vals Df ds)(hx:Passes CX X E)
  (I: ~~~7) (r:Vals vs us) (h:sp (vs++Df) H Q E):wpAny (~~~2) X.A (call (.ref f) us) (EP X aj Y Q) X.xe s:=by
 have r2:=r.append hd;have hl:(us++ds).length=ps.length:=by rw[<- r2.length];show F.len _ _ _ _ h
 apply DF (BF (F.run X.A X.stack s H #[us,[]] (us++ds) (vs++Df) Q E hr I.Ms (hb s us I.nZ hl) r2 h) λr s' hq=>?_)
 cases r with
 |error e=>show hx aj Y H s e s' I hq
 |ok fl=>
  cases fl with
  |ret u=>show I.after hq
  |next=>show False.elim hq
  |brk=>show False.elim hq
  |cont=>show False.elim hq
def Au(F:jK X.prog X.w X.K X.mg X.base CX k f fd ps sp)(hr:cB k X.A)(hg:Gl X x)(hm:X.mg x=!(.ref f))(hk:PySem.W.keepIn X.K (.ref f)=true)(hb:Binds X.K fd ps ds)(hd:Vals Df ds)(hx:Passes CX X E)
  (ha:PA X (e::es) t) (ku:(x==(~~~3))=false:=by decide) (he:starEach (e::es) X.env=(false,eval e X.env)::starEach es X.env:=by rfl) (ig:(backTo pos (starEach es X.env)).any (·.1)=false:=by rfl) :
  PE X (.Call (.Name x p) (e::es) [] pos) (ZC sp Df E t):=by
 intro aj s Y H Q I h;apply AA (gH I hg hm ?_ ku);apply BN I.ok.mod.yy hk (bU (ha pos aj s Y H _ I h) λus s1 #[vs,H1,I1,r,q]=>#[I1.nZ,?_]) he ig
 show T4 F hr hb hd hx I1 r q
end
structure bZ(N P:List Str)(sc:Scope):Prop where
 kind:sc.kind=.function
 co:sc.isCoroutine=false
 gen:sc.isGenerator=false
 nd:N.Nodup
 pre:N.take P.length=P
 par:∀x∈P,sc.names.lookup x=some .local\/sc.names.lookup x=some .cell
 T5:∀y∈sc.names,y.2≠.free
def rH{kindOf:Str->Option NameKind}{x:Str}:∀{binds:List (Str×Value)}{m:Str->Option Value},(∀v,(x,v)∉binds)->bindL kindOf binds m x=m x
 | [],_,_=>rfl
 | (n,v)::r,m,h=>by
  delta bindL;rw[rH λw hw=>h w (bP _ hw)]
  split
  .
   have:x≠n:=by rintro rfl;show h v dA
   simp[this]
  . rfl
def rJ{kindOf:Str->Option NameKind}{x:Str}:∀{binds:List (Str×Value)}{m:Str->Option Value},(∀v,(x,v)∉binds)->bindC kindOf binds m x=m x
 | [],_,_=>rfl
 | (n,v)::r,m,h=>by
  delta bindC;rw[rJ λw hw=>h w (bP _ hw)]
  split
  . rfl
  .
   have:x≠n:=by rintro rfl;show h v dA
   simp[this]
def rK{kindOf:Str->Option NameKind}{x:Str}{v:Value}:∀{P:List Str}{vs:List Value}{i:Nat}{m:Str->Option Value},P.Nodup->P[i]?=!x->vs[i]?=!v->kindOf x=some .local->
  bindL kindOf (P.zip vs) m x=!v
 | [],_,_,_,_,h,_,_=>by simp at h
 |_::_,[],_,_,_,_,h,_=>by simp at h
 |p::P,w::vs,0,m,nd,h1,h2,hk=>by
  simp at h1 h2;subst h1;subst h2;exact bindL kindOf ((p,w)::P.zip vs) m p=_;delta bindL;rw[rH λv hv=>(hZ.mp nd).1 (C9 hv).1,i8 hk]
  simp
 |p::P,w::vs,i+1,m,nd,h1,h2,hk=>by
  delta bindL;show rK (hZ.mp nd).2 (by simpa using h1) (by simpa using h2) hk
def rL{kindOf:Str->Option NameKind}{x:Str}{v:Value}:∀{P:List Str}{vs:List Value}{i:Nat}{m:Str->Option Value},P.Nodup->P[i]?=!x->vs[i]?=!v->kindOf x≠some .local->
  bindC kindOf (P.zip vs) m x=!v
 | [],_,_,_,_,h,_,_=>by simp at h
 |_::_,[],_,_,_,_,h,_=>by simp at h
 |p::P,w::vs,0,m,nd,h1,h2,hk=>by
  simp at h1 h2;subst h1;subst h2;exact bindC kindOf ((p,w)::P.zip vs) m p=_;delta bindC;rw[rJ λv hv=>(hZ.mp nd).1 (C9 hv).1,i7 hk]
  simp
 |p::P,w::vs,i+1,m,nd,h1,h2,hk=>by
  delta bindC;show rL (hZ.mp nd).2 (by simpa using h1) (by simpa using h2) hk
abbrev start(N:List Str)(vs:List V):St:=vs.map some++List.replicate (N.length - vs.length) none
abbrev gJ(CX:De)(P:Program)(w:World)(K:Frag)(mg:Str->Option Value)(base:Heap)(N:List Str)(qual:Str)(scope:Scope)(f:Addr)(cd:Value)(A:Around)(outer:List Env)(s:Shared)(H:Hp)(E:XK):Cx where
 prog:=P
 w:=w
 K:=K
 mg:=mg
 base:=base
 A:=A.deeper (envOfC qual scope s⁻¹ f cd)
 N:=N
 s₀:=s
 H₀:=H
 env:=envOfC qual scope s⁻¹ f cd
 outer:=outer
 stack:=envOfC qual scope s⁻¹ f cd::outer
 ex:=[]
 calm:=true
 fn:=λ_=>true
 pn:=[]
 xe:=λe s'=>wpAny (model P w) (A.deeper (envOfC qual scope s⁻¹ f cd)) (leaving (envOfC qual scope s⁻¹ f cd) e) (λ_ s''=>CX outer H s E e s'') (λe' s''=>CX outer H s E e' s'') s'
def vD{sc:Scope}{n:Nat}{x:Str}(h:sc.names.lookup x=some .cell):∃c,(cellsFrom n sc.names []).lookup x=!c:=by have q:=B6 sc.names n [] (.inl h);show Option.isSome_iff_exists.mp q
def rM{CX:De}{P:Program}{w:World}{K:Frag}{mg:Str->Option Value}{base:Heap}{N ps:List Str}{qual:Str}{scope:Scope}{f:Addr}{cd:Value}{A:Around}{outer:List Env}{s s1:Shared}{H:Hp}{E:XK}{us:List Value}{vs:List V}
  (S:bZ N ps scope) (hd:A.handled=none) (e0:G5 P w K mg base A outer s H) (hl:vs.length=ps.length) (r:Vals vs us)
  (x:InCallC s s⁻¹ (bindL (envOfC qual scope s⁻¹ f cd).kindOf (ps.zip us) λ_=>none) (cellsFrom (s⁻¹+1) scope.names []) (bindC (envOfC qual scope s⁻¹ f cd).kindOf (ps.zip us) λ_=>none) s1) :
  Inv (gJ CX P w K mg base N qual scope f cd A outer s H E) [] (start N vs) H s1:=by
 have ig:ps.length<=N.length:=by have:=congrArg List.length S.pre;rw[x5]at this;lia
 let(h1,tk,rfl,hk):=x.done;have ZD:∀b:Addr,b∉(gJ CX P w K mg base N qual scope f cd A outer s H E).ex:=λb z=>absurd (show b∈([]:List Addr)from z) ⋯
 apply#[#[e0.mod,S.kind,rfl,rfl,eD _,λy z c h1 h2=>?_,λy hy=>?_,λy c _ h=>?_,λ_=>hd,Around.frames_deeper e0.frames,.inr #[rfl,rfl],λb z=>absurd z (ZD b),e0.bs,e0.Gz,λb _ _=>ZD b,λb z=>absurd z (ZD b),e0.kF,e0.Mf],
  rfl,e0.bare,Un.kept hk,#[_,x.toInCall.ns,λi y v h1 h2 h3=>?_],λy c h=>#[_,x.cell y c h],e0.hok.fresh (eD _),λy c h=>?_,λp hp=>absurd (show p∈([]: ~~~1)from hp) ⋯,e0.hok.kept hk,?_]
 . show name_of_addr x.apart (AU h1) (AU h2)
 .
  have hy:=hy;rcases hy with hy |hy
  . show vD hy
  . show absurd rfl (S.T5 _ (AU hy))
 . show CH (x.above y c (AU h))
 .
  have hi:i<vs.length:=by
   delta start at h2;by_cases hi:i<vs.length
   . show hi
   .
    rw[fA (by simpa using hi)]at h2
    rw[BO]at h2;split at h2 <;> cases h2
  have ha:vs[i]?=!v:=by
   delta start at h2;rw[eA (by simpa using hi),mI]at h2
   cases e:vs[i]? with
   |none=>rw[e]at h2;cases h2
   |some a=>rw[e]at h2;cases h2;rfl
  let(u,hu,rv):=r.get ha;have hp:ps[i]?=!y:=by rw[<- S.pre,vS ⋯];show h1
  have ndP:ps.Nodup:=by rw[<- S.pre];show S.nd.sublist (List.take_sublist _ _)
  apply#[u,rv,?_];rcases S.par y (i6 hp)with k |k
  . show .inl #[k,rK ndP hp hu k]
  .
   let(c,e):=vD k;apply .inr #[.inl k,c,e,?_];have q:=x.cell y c e;rw[rL ndP hp hu (by exact scope.names.lookup y≠_;rw[k];decide)]at q
   show q
 . show e0.hok.fresh (CH (x.above y c (AU h)))
 . delta start;exact _=N.length;rw[eP,eJ,l5];lia
def Rv{CX:De}{P:Program}{w:World}{K:Frag}{mg:Str->Option Value}{base:Heap}{k:Nat}{f:Addr}{name qual:Str}{params:Arguments}{body:List Stmt}{scope:Scope}{dV kV doc pm bG ct oc:Value}{an od:Option Addr}
  {osl:Array (Option Value)}{N ps:List Str}{sp:Sp} (lk:K.lookup f=!#[oc,od,.func (PySem.W.fnOf name qual params body scope dV kV doc pm an bG ct),osl]) (cP:PySem.W.codeIn K bG qual=true) (S:bZ N ps scope)
  (len:∀vs H Q E,sp vs H Q E->vs.length=ps.length)
  (hbody:∀(A:Around) (outer:List Env) (s:Shared) (H:Hp) (vs:List V) (Q:VK) (E:XK),cB k (A.deeper (envOfC qual scope s⁻¹ f bG))->sp vs H Q E->
   ∃t,tH (gJ CX P w K mg base N qual scope f bG A outer s H E) body t/\t { nx:=λ_ H'=>Q .non H',rt:=Q} (start N vs) H) :
  jK P w K mg base CX (k+1) f (PySem.W.fnOf name qual params body scope dV kV doc pm an bG ct) ps sp:=by
 apply#[len,λA outer s H args us vs Q E hr e0 hb r Yk=>?_]
 have hl:=len _ _ _ _ Yk;have KX:=e0.mod.yy.keeps λb o e=>(e0.bs b o e).1
 have lim:=e0.mod.nolimit.keeps λb o e=>(e0.bs b o e).1
 have hkind:∀y∈ps.zip us,scope.names.lookup y.1=some .local\/(scope.names.lookup y.1=some .cell/\((cellsFrom (s⁻¹+1) scope.names []).lookup y.1).isSome=true):=by
  rintro⟨n,v⟩ hy;rcases S.par n (C9 hy).1 with q |q
  . show .inl q
  . show .inr #[q,B6 _ _ _ (.inl q)]
 apply codeAny_call_function hr.depth (KX _ _ lk) rfl S.co S.gen rfl (PySem.W.codeRec_of KX cP) (hb _ _ _ _ ?_);apply wpAny_newFunctionEnv_cells S.kind hkind λenv he s1 x=>?_
 subst he;apply#[lim.keeps x.toInCall.keep,codeAny_func ?_];let(t,ht,hq):=hbody A outer s H vs Q E (hr.deeper _) Yk;have I:Inv (gJ CX P w K mg base N qual scope f bG A outer s H E) [] (start N vs) H s1:=rM S hr.hd e0 hl r x;apply kA (ht [] s1 (start N vs) H _ I hq) (λfl s' hs=>?_) λe s' hs=>hs
 have fin:∀{σ':St}{H':Hp}{v:V}{u:Value},Inv (gJ CX P w K mg base N qual scope f bG A outer s H E) [] σ' H' s'->RelV v u->Q v H'->CE outer P w H s Q u s':=
  λ{σ' H' v u} J rv q=>#[v,H',J.os,J.bare,J.base,J.hok,rv,q]
 cases fl with
 |ret u=>let(v,σ',H',J,rv,q):=hs;show fin J rv q
 |next=>let(σ',H',J,q):=hs;show fin (v:=V.non) J rfl q
 |brk=>let(_,_,_,q):=hs;show False.elim q
 |cont=>let(_,_,_,q):=hs;show False.elim q
section
variable{X:Cx}{x:Str}{p pos:Pos}{e:Expr}{es:List Expr}{t:TA}{id T:String}{r:List V->Hp->VK->Prop}
abbrev tCB(r:List V->Hp->VK->Prop)(t:TA):TE:=λY H Q=>t Y H λvs H1=>r vs H1 Q
def iA(hc:eF X (.builtin id) r)(hg:Gl X x)(hm:X.mg x=none)(hv:bootBuiltins x=!(.builtin id))(ha:PA X (e::es) t)(hn:x≠ "__name__" :=by decide)(ku:(x==(~~~3))=false:=by decide)
  (he:starEach (e::es) X.env=(false,eval e X.env)::starEach es X.env:=by rfl) (ig:(backTo pos (starEach es X.env)).any (·.1)=false:=by rfl):PE X (.Call (.Name x p) (e::es) [] pos) (tCB r t):=by
 intro aj s Y H Q I h;apply AA (gI I hg hm hv ?_ hn ku);show PyProof.Rows.callWith_builtin1 (bU (ha pos aj s Y H _ I h) (by rintro us s1 ⟨vs,H1,I1,r1,q1⟩;show hc aj s1 Y H1 vs us Q I1 r1 q1)) he ig
def Dg(hc:eF X (.type T) r)(hg:Gl X x)(hm:X.mg x=none)(hv:bootBuiltins x=!(.type T))(ha:PA X (e::es) t)(hn:x≠ "__name__" :=by decide)(ku:(x==(~~~3))=false:=by decide)
  (he:starEach (e::es) X.env=(false,eval e X.env)::starEach es X.env:=by rfl) (ig:(backTo pos (starEach es X.env)).any (·.1)=false:=by rfl):PE X (.Call (.Name x p) (e::es) [] pos) (tCB r t):=by
 intro aj s Y H Q I h;apply AA (gI I hg hm hv ?_ hn ku);show oQ (bU (ha pos aj s Y H _ I h) λus s1 #[vs,H1,I1,r1,q1]=>hc aj s1 Y H1 vs us Q I1 r1 q1) he ig
end
end L2
namespace HT
open PySem PyProof.Rows
abbrev lexLt: ~~~0->~~~0->Bool
 | [],[]=>false
 | [],_::_=>true
 |_::_,[]=>false
 |x::xs,y::ys=>if x=y then lexLt xs ys else decide (x<y)
def bD(x y:Int)(xs ys: ~~~0):lexLt (x::xs) (y::ys)=if x=y then lexLt xs ys else decide (x<y):=rfl
def qO:lexLt [] []=false:=rfl
def n9(y:Int)(ys: ~~~0):lexLt [] (y::ys)=true:=rfl
def oh(x:Int)(xs: ~~~0):lexLt (x::xs) []=false:=rfl
def vE(A:Around)(s:Shared)(a:Int)(t:Tok)(c:Int)(u:Tok):∃e,SeqAt.EqAt A s (.int a t) (.int c u) e/\(e=true ↔ a=c):=
 #[(a==c),SeqAt.EqAt.int_int a t c u,by simp]
def vF(A:Around)(s:Shared)(a:Int)(t:Tok)(c:Int)(u:Tok)(prog:Program)(w:World)(E:Value->Shared->Prop)(Q:Value->Shared->Prop)(h:Q (.bool (decide (a<c))) s) :
  wpAny (model prog w) A (richCompare .Lt (.int a t) (.int c u)) Q E s:=
 (PyProof.Rows.lt_int h:wpAny (model prog w) A (compareOp .Lt (.int a t) (.int c u)) Q E s)
section
open PySem.SeqAt
open PySem.AutoSeq1 (wpAny_loadPart')
open PySem.MeetsSeq PySem.MeetsSeq2 PySem.MeetsSeq3
def qP(l b:Addr)(ak items2:Array Value)(n n2:Nat)(dd dd2:Option Addr)(sl sl2:Array (Option Value))(ns ms: ~~~0)(hi:IntsAre ak.toList ns)(hj:IntsAre items2.toList ms) :
  Meets (Builtin.«tuple.__lt__» #[[.ref l,.ref b],[]])
   (λ_ R s=>s.heap.get? l=some { cls:=.type "tuple",dict:=dd,data:=.seq ak n,slots:=sl}/\s.heap.get? b=some { cls:=.type "tuple",dict:=dd2,data:=.seq items2 n2,slots:=sl2}/\
    R (.ok (.ret (.bool (lexLt ns ms)))) s):=
 .of_wp λprog w A R s h=>by
  let(hp,g,d,tk,os):=s;let(hl,hb,h):=h;have f2:=AutoSeq1.sub_tuple_tuple;have z1:ak.size=ns.length:=by rw[<- hi.length];simp
  have z2:items2.size=ms.length:=by rw[<- hj.length];simp
  wp_walk using wpAny_loadPart' hl,wpAny_loadPart' hb,wpAny_forIn_list _ (λrest b s'=>b.1=none/\s'=#[hp,g,d,tk,os]/\∃(vs ws:List Value) (ns' ms': ~~~0),rest=vs.zip ws/\
   IntsAre vs ns'/\IntsAre ws ms'/\ns'.length+items2.size=ms'.length+ak.size/\R (.ok (.ret (.bool (lexLt ns' ms')))) #[hp,g,d,tk,os]) _
  case turn=>
   rintro⟨y,x⟩ rest b s' ⟨hb',rfl,vs,ws,ns',ms',hz,hvi,hwi,aK,hR⟩;cases hvi with
   |nil=>rw[List.zip_nil_left]at hz;cases hz
   |cons a t hvi'=>
    cases hwi with
    |nil=>rw[List.zip_nil_right]at hz;cases hz
    |cons c u hwi'=>
     rw[AB]at hz;injection hz with hyx hrest;injection hyx with hy hx;subst hy hx;rw[bD]at hR;simp only[i9]at aK;let(e,he,hiff):=vE A.in1 #[hp,g,d,tk,os] a t c u;apply aS (he prog w _ _ ?_);cases e with
     |true=>
      rw[i8 (hiff.mp rfl)]at hR
      wp_walk
      show#[rfl,rfl,_,_,_,_,hrest,hvi',hwi',by lia,hR]
     |false=>
      rw[i7 (λq=>absurd (hiff.mpr q) t5)]at hR
      have hri:=vF A.in1 #[hp,g,d,tk,os] a t c u prog w
      wp_walk using hri
      show#[_,rfl,by simpa using hR]
  case fin=>
   rintro⟨b1,b2⟩ s' ⟨hb',rfl,vs,ws,ns',ms',hz,hvi,hwi,aK,hR⟩;simp only at hb';subst hb';have hv:lexLt ns' ms'=decide (ak.size<items2.size):=by
    cases hvi with
    |nil=>
     cases hwi with
     |nil=>simp only[AQ]at aK;rw[qO];show (nE ⋯).symm
     |cons c u hw=>simp only[AQ,i9]at aK;rw[n9];show (mM ⋯).symm
    |cons a t hv=>
     cases hwi with
     |nil=>simp only[AQ,i9]at aK;rw[oh];show (nE ⋯).symm
     |cons c u hw=>rw[AB]at hz;cases hz
   rw[hv]at hR
   wp_walk
   show#[_,rfl,by simpa [Builtin.Tuple.tupleCompareSizes]using hR]
  case h=>show#[rfl,rfl,ak.toList,items2.toList,ns,ms,rfl,hi,hj,by lia,h]
end
section
variable{prog:Program}{w:World}{A:Around}{E:Value->Shared->Prop}{s:Shared}
def oq(hl:IsTup s.heap l ak)(hb:IsTup s.heap b items2)(hi:IntsAre ak.toList ns)(hj:IntsAre items2.toList ms)
  (hu:A.units<cLine) (h:Q (.bool (lexLt ns ms)) s):wpAny (model prog w) A (compareOp .Lt (.ref l) (.ref b)) Q E s:=by
 let((cls,dd,data,sl),ho,hc,n,hd):=id hl;let((T6,dd2,data2,sl2),ho2,hc2,n2,hd2):=id hb;subst hc hd hc2 hd2;show richCompare_meets_room (op:=.Lt) #[_,ho,rfl] #[_,ho2,rfl] PySem.F.slot_tuple_lt PySem.F.entry_tuple_lt (PySem.F.args_tuple_lt_2 _ _) (qP l b ak items2 n n2 dd dd2 sl sl2 ns ms hi hj)
  #[ho,ho2,show Value.bool (lexLt ns ms)≠Value.notImplemented/\Q (.bool (lexLt ns ms)) s from#[(λx=>nomatch x),h]] hu
def Mu(ht:IsTup s.heap t vs.toArray)(hb:IsTup s.heap b ws.toArray)(hv:vs≠[])
  (h1:ws=[]->Q (.ref t) s) (h2:ws≠[]->Q (.ref s⁻¹) { s with heap:=s.heap.push { cls:=.type "tuple",data:=.seq (vs++ws).toArray}})
  (jo:vs.length+ws.length<=sizeLine):wpAny (model prog w) A (binaryOp .Add (.ref t) (.ref b)) Q E s:=by
 let((cls,dd,data,sl),ho,hc,n,hd):=id ht;let((T6,dd2,data2,sl2),ho2,hc2,n2,hd2):=id hb;subst hc hd hc2 hd2;have e:vs.toArray++ws.toArray=(vs++ws).toArray:=by simp
 by_cases hw:ws=[]
 .
  show concat_meets #[_,ho,rfl] #[_,ho2,rfl] noFill_tuple_add seq_tuple_add B7 BQ (BH _ _)
   (tuple_addW1 t b vs.toArray ws.toArray n n2 dd dd2 sl sl2 (by simpa using hv) (by simp[hw])) #[ho,ho2,h1 hw]
 .
  apply concat_meets #[_,ho,rfl] #[_,ho2,rfl] noFill_tuple_add seq_tuple_add B7 BQ (BH _ _)
   (tuple_addW2 t b vs.toArray ws.toArray n n2 dd dd2 sl sl2 (by simpa using hv) (by simpa using hw) (by rw[dL];show jo)) #[ho,ho2,?_]
  rw[e];show h2 hw
abbrev cI(n d:Nat):Option Int->Nat
 |none=>d
 |some v=>if v<0 then (v+(n:Int)).toNat else min v.toNat n
def Av(v:Int)(n d:Nat):(if v<0 then max (v+(n:Int)) 0 else min v (n:Int))=((cI n d (!v):Nat):Int):=by
 exact (if v<0 then max (v+(n:Int)) 0 else min v (n:Int))=(((if v<0 then (v+(n:Int)).toNat else min v.toNat n):Nat):Int)
 by_cases hv:v<0
 . simp only[i8 hv];lia
 . simp only[i7 hv];lia
def yK(lo hi:Option Int)(n:Nat):Builtin.Slice.sliceAdjust lo hi 1 (n:Int)=(((cI n 0 lo:Nat):Int),((cI n n hi:Nat):Int)):=by
 have h1 : ¬ ((1:Int)<0):=by lia
 delta Builtin.Slice.sliceAdjust;apply Prod.ext ?_ ?_
 .
  cases lo with
  |none=>rfl
  |some v=>show Av v n 0
 .
  cases hi with
  |none=>rfl
  |some v=>show Av v n n
def yL(i j:Nat):Builtin.Slice.slicePlaces (i:Int) (j:Int) 1=j - i:=by
 delta Builtin.Slice.slicePlaces;have h1:(1:Int) > 0:=by lia
 split <;> lia
def ou(p:IsPart v o)(h:Q o s):wpAny (model prog w) A (Builtin.Slice.slicePartIndex v) Q E s:=by
 cases p with
 |none=>show slicePart_none h
 |int i t=>show slicePart_int h
def fY{sl:Addr}{vl vu:Value}{lo hi:Option Int}{n:Nat}{Q:Int×Int×Nat->Shared->Prop}(hs:s.heap.IsSliceOf sl vl vu .none)(pl:IsPart vl lo)(pu:IsPart vu hi)
  (h:Q (((cI n 0 lo:Nat):Int),1,cI n n hi - cI n 0 lo) s):wpAny (model prog w) A (Builtin.Slice.sliceApplied (.ref sl) (pure (n:Int))) Q E s:=by
 let(os,hos,hcs,hds):=id hs;apply aS (aS (o6 hos hds rfl (aS (o6 hos hds rfl (aS (o6 hos hds rfl (dC ?_)))))));apply aS (slicePart_none ?_);apply aS (ou pl (aS (ou pu (aS (dC ?_)))));exact wpAny _ _ (match Builtin.Slice.sliceAdjust lo hi 1 (n:Int)with | (lo,hi)=>pure (lo,(1:Int),Builtin.Slice.slicePlaces lo hi 1)) _ _ s
 rw[yK lo hi n];exact wpAny _ _ (pure (((cI n 0 lo:Nat):Int),(1:Int),Builtin.Slice.slicePlaces ((cI n 0 lo:Nat):Int) ((cI n n hi:Nat):Int) 1)) _ _ s;rw[yL];show dC h
def G6(xs:Array Value)(i k:Nat):((List.range k).filterMap λ(m:Nat)=>xs[((i:Int)+(m:Int) * 1).toNat]?).toArray=((xs.toList.drop i).take k).toArray:=by
 have e:(λ(m:Nat)=>xs[((i:Int)+(m:Int) * 1).toNat]?)=λm=>xs[i+m]?:=by
  funext m
  have:((i:Int)+(m:Int) * 1).toNat=i+m:=by lia
  rw[this]
 rw[e];have:=pick_run xs i k;rw[List.filterMap_map]at this;have e2:((λx=>xs[x]?) ∘ λx=>i+x)=λm=>xs[i+m]?:=rfl
 rw[e2]at this;rw[this]
def kK{t sl:Addr}{ak:Array Value}{vl vu:Value}{lo hi:Option Int}{Q:Value->Shared->Prop}(ht:IsTup s.heap t ak)(hs:s.heap.IsSliceOf sl vl vu .none)(pl:IsPart vl lo)(pu:IsPart vu hi)
  (hw : ¬ (cI ak.size 0 lo=0/\cI ak.size ak.size hi=ak.size))
  (h:Q (.ref s⁻¹) { s with heap:=s.heap.push { cls:=.type "tuple",data:=.seq ((ak.toList.drop (cI ak.size 0 lo)).take (cI ak.size ak.size hi - cI ak.size 0 lo)).toArray}})
  (jo:ak.size<=sizeLine):wpAny (model prog w) A (getItem (.ref t) (.ref sl)) Q E s:=by
 have Aw:sizeOk (.seq ((ak.toList.drop (cI ak.size 0 lo)).take (cI ak.size ak.size hi - cI ak.size 0 lo)).toArray):=by exact ((ak.toList.drop (cI ak.size 0 lo)).take (cI ak.size ak.size hi - cI ak.size 0 lo)).toArray.size<=sizeLine;rw[dL,x5,List.length_drop,oD];lia
 let(os,hos,hcs,hds):=id hs;have hTs:s.TypeIs (.ref sl) "slice" :=#[os,hos,hcs];delta getItem
 try with_reducible apply mE ?_
 first |apply aS (dC ?_) |skip
 apply aS (wpAny_sequenceKey ht.typeIs ⋯ ?_);apply aS (pV ht.typeIs yY
  (nN yY ht.typeIs entry_tuple_getitem ?_ (args_tuple_getitem _ _)))
 exact wpAny _ _ (Builtin.Tuple.tupleItemsOf (.ref t) >>= _) _ _ s;apply aS (tupleItemsOf_ ht ?_);apply aS (BI hTs ?_);apply aS (fY hs pl pu ?_);have hno : ¬ ((((cI ak.size 0 lo:Nat):Int)==0&&(1:Int)==1&&(cI ak.size ak.size hi - cI ak.size 0 lo)==ak.size)=true):=by intro q;rw[fN,fN]at q;show hw #[by lia,by lia]
 exact wpAny _ _ (if (((cI ak.size 0 lo:Nat):Int)==0&&(1:Int)==1&&(cI ak.size ak.size hi - cI ak.size 0 lo)==ak.size)=true then _ else _) _ _ s
 rw[i7 hno,G6]
 first
  |show aS (nS (dC #[_,rfl,dC h]) Aw)
  |show aS (nS (aS (dC (dC #[_,rfl,dC h]))) Aw)
  |show aS (aS (nS (dC (dC #[_,rfl,dC h])) Aw))
  |show aS (aS (nS (dC #[_,rfl,dC h]) Aw))
end
end HT
namespace L2
def TO:=St->Hp->(Option Int->Hp->Prop)->Prop
abbrev PO(X:Cx)(e:Option Expr)(t:TO):Prop:=
 ∀(aj: ~~~1) (s:Shared) (Y:St) (H:Hp) (Q:Option Int->Hp->Prop),Inv X aj Y H s->t Y H Q->
  wpAny (~~~2) X.A (evalPart e X.env) (λu s'=>∃o H',Inv X aj Y H' s'/\IsPart u o/\Q o H') X.xe s
abbrev Mv:TO:=λ_ H Q=>Q none H
abbrev ZF(t:TE):TO:=λY H Q=>t Y H λx H1=>∃i,x=.int i/\Q (!i) H1
def intsAre_of:∀{us:List Value},Vals (ns.map V.int) us->IntsAre us ns:=by
 induction ns with
 |nil=>intro us r;rw[List.map_nil]at r;cases r;show .nil
 |cons n ns ih=>
  intro us r;cases r with
  |cons r1 r2=>let(t,e):=r1;subst e;show .cons n t (ih r2)
section
variable{X:Cx}{e:Expr}{te:TE}{lo hi:Option Expr}{tl th:TO}{pos p2:Pos}
def Mw:PO X none Mv:=by intro aj s Y H Q I h;show dC #[none,H,I,.none,h]
def Mx(h:PE X e te):PO X (!e) (ZF te):=by intro aj s Y H Q I hw;apply bU (h aj s Y H _ I hw) ?_;rintro u s1 ⟨x,H1,I1,r1,q1⟩;let(i,rfl,q):=q1;let(t,rfl):=r1;show#[!i,H1,I1,.int i t,q]
abbrev SlR(X:Cx)(r:V->Option Int->Option Int->Hp->VK->Prop):Prop:=
 ∀(aj: ~~~1) (s:Shared) (Y:St) (H:Hp) (x:V) (v vl vu:Value) (lo hi:Option Int) (sl:Addr) (Q:VK),Inv X aj Y H s->RelV x v->s.heap.IsSliceOf sl vl vu .none->IsPart vl lo->IsPart vu hi->r x lo hi H Q->
  ∃T id,typeLookup (.type T) "__getitem__"=pure (!(.builtin id))/\s.TypeIs v T/\wpAny (~~~2) X.A (getItem v (.ref sl)) (EP X aj Y Q) X.xe s
abbrev tSl(r:V->Option Int->Option Int->Hp->VK->Prop)(te:TE)(tl th:TO):TE:=λY H Q=>te Y H λx H1=>tl Y H1 λl H2=>th Y H2 λu H3=>r x l u H3 Q
def oz{r:V->Option Int->Option Int->Hp->VK->Prop}(hr:SlR X r)(he:PE X e te)(hl:PO X lo tl)(hu:PO X hi th):PE X (.Subscript e (.Slice lo hi none p2) pos) (tSl r te tl th):=by
 intro aj s Y H Q I h;apply Subscript_ (bU (he aj s Y H _ I h) ?_);rintro v s1 ⟨x,H1,I1,r1,q1⟩;apply wpAny_Slice (bU (hl aj s1 Y H1 _ I1 q1) λvl s2 #[l,H2,I2,pl,q2]=>bU (hu aj s2 Y H2 _ I2 q2) ?_)
 rintro vu s3 ⟨u,H3,I3,pu,q3⟩;apply dC ?_;have I4:Inv X aj Y H3 { s3 with heap:=s3.heap.push { cls:=.type "slice",data:=.fields ([vl,vu,.none].toArray)}}:=I3.kept λb ob q=>b0 _ q
 let(T,id,hT,ht,hg):=hr aj { s3 with heap:=s3.heap.push { cls:=.type "slice",data:=.fields ([vl,vu,.none].toArray)}} Y H3 x v vl vu l u s3⁻¹ Q I4 r1 (Heap.IsSliceOf.new ..) pl pu q3;show tail_any ht hT hg (by with_unfolding_all rfl)
abbrev yM(xs:List V)(lo hi:Option Int):List V:=(xs.drop (HT.cI xs.length 0 lo)).take (HT.cI xs.length xs.length hi - HT.cI xs.length 0 lo)
def mQ(xs:List V)(lo hi:Option Int):(yM xs lo hi).length<=xs.length:=by delta yM;rw[x5,List.length_drop];lia
abbrev rSlT(K:Frag):V->Option Int->Option Int->Hp->VK->Prop:=λx lo hi H Q=>∃a xs,x=.ref a/\iu K H a xs/\
 ¬ (HT.cI xs.length 0 lo=0/\HT.cI xs.length xs.length hi=xs.length)/\∀p,H p=none->Q (.ref p) (upd H p (.tup (yM xs lo hi)))
def T7:SlR X (rSlT X.K):=by
 intro aj s Y H x v vl vu lo hi sl Q I rx hs pl pu h;let(a,xs,rfl,hx,hw,q):=h;cases rx;let(its,r,ht,hz):=I.tuple hx;have aK:its.toArray.size=xs.length:=by rw[dL];show r.length.symm
 apply#["tuple",_,PyProof.Rows.slot_tuple_getitem.lookup,ht.typeIs,?_];apply HT.kK ht hs pl pu (by rw[aK];show hw) ?_ (by rw[aK];show hz)
 rw[aK];apply#[.ref s⁻¹,_,I.laid (λb ob q=>b0 _ q) (eD _) ?_,rfl,q _ (I.hok.fresh (eD _))]
 show#[l7 (mQ xs lo hi) hz,_,(r.drop (HT.cI xs.length 0 lo)).take (HT.cI xs.length xs.length hi - HT.cI xs.length 0 lo),gG.new _ _]
abbrev rLtT(K:Frag):R2:=λx y H Q=>∃a b ns ms,x=.ref a/\y=.ref b/\iu K H a (ns.map V.int)/\iu K H b (ms.map V.int)/\Q (.bl (HT.lexLt ns ms)) H
def T8(hu:X.A.units<cLine):lJ X (compareOp .Lt) (rLtT X.K):=by intro aj s Y H x y v u Q I rx ry h;let(a,b,ns,ms,rfl,rfl,ha,hb,q):=h;cases rx;cases ry;let(its,r1,p1,_):=I.tuple ha;let(lI,r2,p2,_):=I.tuple hb;have i1:=intsAre_of r1;have i2:=intsAre_of r2;show HT.oq p1 p2 i1 i2 hu #[.bl (HT.lexLt ns ms),H,I,rfl,q]
abbrev ZG(K:Frag):R2:=λx y H Q=>∃a b xs ys,x=.ref a/\y=.ref b/\iu K H a xs/\iu K H b ys/\xs≠[]/\xs.length+ys.length<=sizeLine/\
 (ys=[]->Q (.ref a) H)/\(ys≠[]->∀p,H p=none->Q (.ref p) (upd H p (.tup (xs++ys))))
def Vals.tR(r:Vals xs us):us=[] ↔ xs=[]:=by
 cases r with
 |nil=>simp
 |cons _ _=>simp
def My:lJ X (binaryOp .Add) (ZG X.K):=by
 intro aj s Y H x y v u Q I rx ry h;let(a,b,xs,ys,rfl,rfl,ha,hb,hx,hz,q1,q2):=h;cases rx;cases ry;let(its,r1,p1,_):=I.tuple ha;let(lI,r2,p2,_):=I.tuple hb;apply HT.Mu p1 p2 (λz=>hx (r1.tR.mp z)) (λz=>#[.ref a,H,I,rfl,q1 (r2.tR.mp z)]) (λz=>?_) (by rw[<- r1.length,<- r2.length];show hz)
 apply#[.ref s⁻¹,_,I.laid (λb ob q=>b0 _ q) (eD _) ?_,rfl,q2 (λw=>z (r2.tR.mpr w)) _ (I.hok.fresh (eD _))]
 show#[by rw[eP];show hz,_,r1.append r2,gG.new _ _]
end
abbrev yO(n:Nat)(i:Int):Option Nat:=if 0<=i then (if i<n then some i.toNat else none)else if -(n:Int)<=i then some (i+n).toNat else none
abbrev gU{α:Type}(xs:List α)(i:Int):Option α:=(yO xs.length i).bind λj=>xs[j]?
def tT(h:yO n i=!j):seqIndex? i n=!j/\j<n/\-(n:Int)<=i/\i<n:=by
 delta yO at h;by_cases h0:0<=i
 .
  rw[i8 h0]at h;by_cases h1:i<n
  . rw[i8 h1]at h;have e:=mP h;show#[by rw[seqIndex_of h0 h1,e],by lia,by lia,h1]
  . rw[i7 h1]at h;symm
 .
  rw[i7 h0]at h;by_cases h1 : -(n:Int)<=i
  . rw[i8 h1]at h;have e:=mP h;show#[by rw[seqIndex_neg ⋯ h1,e],by lia,h1,by lia]
  . rw[i7 h1]at h;symm
def Ax{α:Type}{xs:List α}{i:Int}{v:α}(h:gU xs i=!v):∃j,seqIndex? i xs.length=!j/\xs[j]?=!v/\j<xs.length/\-(xs.length:Int)<=i/\i<xs.length:=by
 delta gU at h;cases e:yO xs.length i with
 |none=>rw[e]at h;symm
 |some j=>rw[e]at h;let(h1,h2,h3,h4):=tT e;show#[j,h1,h,h2,h3,h4]
abbrev tU(b:Expr):Prop:=∀o i,subscripted b false o i=operate [o,i] (getItem o i)
abbrev IxR(X:Cx)(r:R2):Prop:=
 ∀(value slice:Expr) (aj: ~~~1) (s:Shared) (Y:St) (H:Hp) (x y:V) (v u:Value) (Q:VK),Inv X aj Y H s->RelV x v->RelV y u->r x y H Q->
  subscripted slice false v u=operate [v,u] (getItem v u)->wpAny (~~~2) X.A (subscriptTail value slice v u) (EP X aj Y Q) X.xe s
abbrev MtR(X:Cx)(id:String)(r:V->List V->Hp->VK->Prop):Prop:=
 ∀(aj: ~~~1) (s:Shared) (Y:St) (H:Hp) (x:V) (xs:List V) (v:Value) (us:List Value) (Q:VK),Inv X aj Y H s->RelV x v->Vals xs us->r x xs H Q->
  wpAny (~~~2) X.A (call (.builtin id) (v::us)) (EP X aj Y Q) X.xe s
section
variable{X:Cx}{a b:Expr}{ta tb:TE}{pos:Pos}
def Rx{r:R2}(hr:IxR X r)(ha:PE X a ta)(hb:PE X b tb)(hs:tU b):PE X (.Subscript a b pos) (tOp r ta tb):=by intro aj s Y H Q I h;show Subscript_ (TJ ha hb I h λv u s2 x y H2 I2 rx ry q=>hr a b aj s2 Y H2 x y v u Q I2 rx ry q (hs _ _))
abbrev rIxL(K:Frag):R2:=λx y H Q=>∃p xs i v,x=.ref p/\y=.int i/\cQ K H p xs/\gU xs i=!v/\Q v H
abbrev rIxT(K:Frag):R2:=λx y H Q=>∃p xs i v,x=.ref p/\y=.int i/\iu K H p xs/\gU xs i=!v/\Q v H
def tV:IxR X (rIxL X.K):=by
 intro value slice aj s Y H x y v u Q I rx ry h hs;let(p,xs,i,z,rfl,rfl,hq,he,q):=h;cases rx;let(t,rfl):=ry;let(its,r,pl,hz):=I.list hq;let(j,h1,h2,h3,h4,h5):=Ax he;let(w,ew,rw'):=r.get h2;have hl:=r.length;have hn:=yJ;have fin:EP X aj Y Q w s:=#[z,H,I,rw',q];by_cases h0:0<=i
 .
  have hj:i.toNat=j:=by rw[seqIndex_of h0 h5]at h1;show mP h1
  show item_listR pl.isList h0 ⋯ (by rw[hj];simpa using ew) fin hs
 .
  have hj:(i+(its.toArray.size:Int)).toNat=j:=by rw[seqIndex_neg ⋯ h4]at h1;rw[dL,<- hl];show mP h1
  show subscriptTail_builtinR pl.isList.typeIs slot_list_getitem.lookup
   (wpAny_getItem_list_neg pl.isList ⋯ (by rw[dL] <;> lia) ⋯ (by rw[hj];simpa using ew) #[rfl,fin]) hs
def T9:IxR X (rIxT X.K):=by
 intro value slice aj s Y H x y v u Q I rx ry h hs;let(p,xs,i,z,rfl,rfl,hq,he,q):=h;cases rx;let(t,rfl):=ry;let(its,r,pl,hz):=I.tuple hq;let(j,h1,h2,h3,h4,h5):=Ax he;let(w,ew,rw'):=r.get h2;have hl:=r.length;have hn:=yJ;have fin:EP X aj Y Q w s:=#[z,H,I,rw',q];show subscriptTail_builtinR pl.typeIs slot_tuple_getitem.lookup
  (getItem_tuple pl ⋯ ⋯ (by rw[dL,<- hl];show h1) (by simpa using ew) #[rfl,fin]) hs
def yP(its:List Value)(n j:Nat)(u:Value):Obj.mapSeq (·.setIfInBounds j u) { cls:=.type "list",data:=.seq its.toArray n}={ cls:=.type "list",data:=.seq (its.set j u).toArray n}:=by simp[Obj.mapSeq]
def Inv.lst{aj: ~~~1}{Y:St}{H:Hp}{s:Shared}{p:Addr}{xs:List V}(I: ~~~7)(h:H p=!(.lst xs)) :
  ∃(its:List Value) (n:Nat),Vals xs its/\s.heap.get? p=some { cls:=.type "list",data:=.seq its.toArray n}/\xs.length<=sizeLine:=by
 let(z,its,n,r,e):=I.hok p _ h;show#[its,n,r,e,z]
def Inv.Ua{aj: ~~~1}{Y:St}{H:Hp}{s:Shared}{p:Addr}{xs ys:List V}{its its':List Value}{n n':Nat}{f:Obj->Obj}(I: ~~~7)(h:H p=!(.lst xs))
  (ho:s.heap.get? p=some { cls:=.type "list",data:=.seq its.toArray n}) (hf:f { cls:=.type "list",data:=.seq its.toArray n}={ cls:=.type "list",data:=.seq its'.toArray n'}) (r:Vals ys its') (hz:ys.length<=sizeLine) (t:Nat) :
  Inv X aj Y (upd H p (.lst ys)) { s with heap:=s.heap.update p f,toks:=t}:=by
 have e:(s.heap.update p f).get? p=some { cls:=.type "list",data:=.seq its'.toArray n'}:=by rw[mB f ho (by rw[hf] <;> rfl),hf]
 apply I.write (by rw[h];trivial) (.inl rfl) (λb u hb q=>(i5 _ _ (n0 hb)).trans q) #[_,e] ?_
 show#[hz,its',n',r,e]
abbrev ZJ:V->V->V->Hp->(Hp->Prop)->Prop:=λo i v H Q=>∃p xs k j,o=.ref p/\i=.int k/\H p=!(.lst xs)/\yO xs.length k=!j/\Q (upd H p (.lst (xs.set j v)))
def set_list:Zf X ZJ:=by
 intro aj s Y H o i v ov iv u Q I ro ri rv h;let(p,xs,k,j,rfl,rfl,hp,hj,q):=h;cases ro;let(t,rfl):=ri;let(its,n,r,ho,hz):=I.lst hp;let(h1,h2,h3,h4):=tT hj;have hl:=r.length;have hn:=yJ;have I':=
  I.Ua hp ho (yP its n j u) (r.set rv j) (by rw[wT];show hz) s.toks
 by_cases h0:0<=k
 .
  have hk:k.toNat=j:=by rw[seqIndex_of h0 h4]at h1;show mP h1
  show PySem.W.ki_setAt ho h0 ⋯ (by rw[dL,<- hl];show h4) (by rw[hk];show#[_,I',q])
 .
  have hk:(k+(its.toArray.size:Int)).toNat=j:=by rw[seqIndex_neg ⋯ h3]at h1;rw[dL,<- hl];show mP h1
  show PySem.W.ki_setBack ho ⋯ (by rw[dL,<- hl];show h3) ⋯ (by rw[hk];show#[_,I',q])
def tW(lo hi:Option Int)(n:Nat):(sliceBounds lo hi none n).1=((HT.cI n 0 lo:Nat):Int)/\(sliceBounds lo hi none n).2.1=((HT.cI n n hi:Nat):Int)/\(sliceBounds lo hi none n).2.2=1:=by
 apply#[?_,?_,rfl]
 .
  cases lo with
  |none=>simp[sliceBounds,HT.cI]
  |some i=>
   simp only[sliceBounds,HT.cI,Option.getD_none];by_cases h:i<0
   . simp only[h] <;> lia
   . simp only[h] <;> lia
 .
  cases hi with
  |none=>simp[sliceBounds,HT.cI]
  |some i=>
   simp only[sliceBounds,HT.cI,Option.getD_none];by_cases h:i<0
   . simp only[h] <;> lia
   . simp only[h] <;> lia
def qQ(its:List Value)(lo hi:Option Int):slicePick its.toArray lo hi none=((its.drop (HT.cI its.length 0 lo)).take (HT.cI its.length its.length hi - HT.cI its.length 0 lo)).toArray:=by let(h1,h2,h3):=tW lo hi its.toArray.size;delta slicePick;rw[h1,h2,h3];simp only[sliceRange_one,pick_run] <;> rfl
abbrev rSlL(K:Frag):V->Option Int->Option Int->Hp->VK->Prop:=λx lo hi H Q=>∃a xs,x=.ref a/\cQ K H a xs/\∀p,H p=none->Q (.ref p) (upd H p (.lst (yM xs lo hi)))
def Ay:SlR X (rSlL X.K):=by
 intro aj s Y H x v vl vu lo hi sl Q I rx hs pl pu h;let(a,xs,rfl,hx,q):=h;cases rx;let(its,r,ht,hz):=I.list hx;have aK:=r.length;apply#["list",_,slot_list_getitem.lookup,ht.isList.typeIs,?_];apply wpAny_getItem_list_slice ht.isList hs pl pu .none ⋯ ?_ (by rw[dL] <;> lia)
 rw[qQ,<- aK];apply#[.ref s⁻¹,_,I.laid (λb ob q=>b0 _ q) (eD _) ?_,rfl,q _ (I.hok.fresh (eD _))]
 show#[l7 (mQ xs lo hi) hz,_,0,(r.drop (HT.cI xs.length 0 lo)).take (HT.cI xs.length xs.length hi - HT.cI xs.length 0 lo),eC _ rfl]
def tX:eF X (.type "list") (λxs H Q=>∃p ys,xs=[.ref p]/\(cQ X.K H p ys\/iu X.K H p ys)/\∀l,H l=none->Q (.ref l) (upd H l (.lst ys))):=by
 intro aj s Y H xs us Q I r h;let(p,ys,rfl,hq,q):=h;let(u,rfl,rx):=vals1 r;cases rx;have fin:∀(its:List Value),Vals ys its->ys.length<=sizeLine->∀(h':Heap) (c':Nat),(∀b o',s.heap.get? b=!o'->h'.get? b=!o')->
   h'.get? s⁻¹=some { cls:=.type "list",dict:=none,data:=.seq its.toArray c',slots:=([].toArray)}->EP X aj Y Q (.ref s⁻¹) { s with heap:=h'}:=λits r' hz h' c' kp e=>
  #[.ref s⁻¹,_,I.laid kp (eD _) (show cW X.prog X.w _ h' _ (.lst ys)from#[hz,its,c',r',e]),rfl,q _ (I.hok.fresh (eD _))]
 rcases hq with hq |hq
 . let(its,r',pl,hz):=I.list hq;have aK:=r'.length;let(o,ho,hc,n,hd):=pl.isList;show call_list_seq p (.inl rfl) ho hc hd (λh' c' kp e=>fin its r' hz h' c' kp e) (by simp only[dL] <;> lia)
 . let(its,r',pl,hz):=I.tuple hq;have aK:=r'.length;let(o,ho,hc,n,hd):=pl;show call_list_seq p (.inr rfl) ho hc hd (λh' c' kp e=>fin its r' hz h' c' kp e) (by simp only[dL] <;> lia)
def qR:eF X (.type "tuple") (λxs H Q=>∃p ys,xs=[.ref p]/\((cQ X.K H p ys/\∀l,H l=none->Q (.ref l) (upd H l (.tup ys)))\/(iu X.K H p ys/\Q (.ref p) H))):=by
 intro aj s Y H xs us Q I r h;let(p,ys,rfl,h):=h;let(u,rfl,rx):=vals1 r;cases rx;rcases h with ⟨hq,q⟩ |⟨hq,q⟩
 .
  let(its,r',pl,hz):=I.list hq;have aK:=r'.length;apply call_tuple_list pl.isList (λh' kp=>?_) (by simp only[dL] <;> lia)
  have I1:=I.kept (t':=s.toks) kp;have I2:=
   I1.laid (t':=s.toks) (λb o e=>b0 _ e) (eD _) (show cW X.prog X.w _ _ _ (.tup ys)from#[hz,its,r',gG.new _ _])
  show#[.ref h'.objs.size,_,I2,rfl,q _ (I1.hok.fresh (eD _))]
 . let(its,r',pl,hz):=I.tuple hq;show call_tuple_same pl #[.ref p,H,I,rfl,q]
abbrev tyV(K:Frag)(T:String)(x:V)(H:Hp):Prop:=match x with
 |.str _=>T = "str"
 |.int _=>T = "int"
 |.ref p=>(T = "list" /\∃xs,cQ K H p xs)\/(T = "tuple" /\∃o,K.lookup p=!o/\o.cls=.type "tuple" /\o.dict=none)\/
   (T = "dict" /\((∃lH,H p=!(.dK lH))\/∃lH,H p=!(.dT lH)))\/(T = "set" /\∃φ,H p=!(.set φ))
 |_=>False
def Ub{aj: ~~~1}{Y:St}{H:Hp}{s:Shared}{T:String}{x:V}{v:Value}(I: ~~~7)(r:RelV x v)(ty:tyV X.K T x H) :
  s.TypeIs v T/\∀a,v=.ref a->∃ob,s.heap.get? a=!ob/\ob.dict=none:=by
 cases x with
 |str z=>
  let(t,rfl):=r;cases (show T = "str" from ty)
  show#[typeIs_str s z t,λ_ e=>nomatch e]
 |int i=>
  let(t,rfl):=r;cases (show T = "int" from ty)
  show#[typeIs_int s i t,λ_ e=>nomatch e]
 |ref p=>
  cases r;rcases ty with ⟨rfl,xs,hq⟩ |⟨rfl,o,hk,hc,hd⟩ |⟨rfl,hk⟩ |⟨rfl,φ,hk⟩
  .
   let(its,_,pl,_):=I.list hq;apply#[pl.isList.typeIs,λa e=>?_]
   cases e;let(o,n,e,c,hd,_):=pl;show#[o,e,hd]
  .
   apply#[#[o,I.nZ p o hk,hc],λa e=>?_]
   cases e;show#[o,I.nZ _ o hk,hd]
  .
   have z:∃o,s.heap.get? p=!o/\o.ExactDict:=by
    rcases hk with ⟨lH,hk⟩ |⟨lH,hk⟩
    . let(_,_,_,_,o,_,_,e,ex,_):=I.hok p _ hk;show#[o,e,ex]
    . let(_,_,_,_,o,_,_,e,ex,_):=I.hok p _ hk;show#[o,e,ex]
   let(o,e,ex):=z;apply#[#[o,e,ex.1],λa e2=>?_]
   cases e2;show#[o,e,ex.2.1]
  .
   let(o,e,ex,_):=I.hok p _ hk;apply#[#[o,e,ex.1],λa e2=>?_]
   cases e2;show#[o,e,ex.2.1]
 |_=>show False.elim ty
abbrev tBM(K:Frag)(T:String)(r:V->List V->Hp->VK->Prop)(to:TE)(t:TA):TE:=λY H Q=>to Y H λx H1=>tyV K T x H1/\t Y H1 λxs H2=>r x xs H2 Q
variable{o e:Expr}{es:List Expr}{to:TE}{t:TA}{name:Str}{cZ cA:Pos}{T id:String}{r:V->List V->Hp->VK->Prop}
def Az(pa:PlainAttrs T)(slot:Slot T name id)(hty:typeOf (.builtin id)=pure (.type "method_descriptor"))(hm:MtR X id r)(ho:PE X o to)(ha:PA X (e::es) t)
  (hbase:attributeBase o name X.env (eval o X.env)=eval o X.env:=by rfl)
  (hfew:((backTo cA (starEach (e::es) X.env)).all (λx=>(not x.1))&&(backToKw cA (keywordEach [] X.env)).all (λx=>x.1.isSome)
   && decide ((e::es).length+([]:List Keyword).length+(if ([]:List Keyword).isEmpty then 0 else 1)<30))=true:=by rfl)
  (hline:(cZ.endLine==cA.line)=true:=by rfl) (hs:starEach (e::es) X.env=(false,eval e X.env)::starEach es X.env:=by rfl) (hplain:(backTo cA (starEach es X.env)).any (·.1)=false:=by rfl) :
  PE X (.Call (.Attribute o name cZ) (e::es) [] cA) (tBM X.K T r to t):=by
 intro aj s Y H Q I h;apply wpAny_Call_method_late hbase hfew hline rfl (bU (ho aj s Y H _ I h) ?_);rintro v s1 ⟨x,H1,I1,r1,ty,q1⟩;let(h1,h2):=Ub I1 r1 ty;apply#[T,id,pa,slot,hty,h1,h2,?_];have hA:=ha cA aj s1 Y H1 _ I1 q1;rw[hs]at hA ⊢
 apply Calls.callWith_builtin (by exact (false||(backTo cA (starEach es X.env)).any (·.1))=false;rw[hplain] <;> rfl) (Calls.evalArgs_plain ?_)
 show bU hA (by rintro us s2 ⟨vs,H2,I2,r2,q2⟩;show hm aj s2 Y H2 x vs v us Q I2 r1 r2 q2)
/- xs.append(e),list.index on a module's tuple .. are MtR facts of 06m -/
end
abbrev MtM(X:Cx)(id:String)(r:V->List V->Hp->VK->Prop):Prop:=
 ∀(aj: ~~~1) (s:Shared) (Y:St) (H:Hp) (x:V) (xs:List V) (v:Value) (us:List Value) (Q:VK),Inv X aj Y H s->RelV x v->Vals xs us->r x xs H Q->
  wpAny (~~~2) X.A (call (.builtin id) (v::us)) (EP X aj Y Q) X.xe s
def Vals.one:∀{x:V}{us:List Value},Vals [x] us->∃u,us=[u]/\RelV x u:=by intro x us h;cases h with |cons r t=>cases t;show#[_,rfl,r]
def Vals.eraseIdx:∀{xs:List V}{us:List Value} (i:Nat),Vals xs us->Vals (xs.eraseIdx i) (us.eraseIdx i)
 |_,_,_,.nil=>.nil
 |_,_,0,.cons _ t=>t
 |_,_,i+1,.cons r t=>.cons r (Vals.eraseIdx i t)
def Vals.rep(h:Vals xs us):∀k:Nat,Vals (List.replicate k xs).flatten (List.replicate k us).flatten
 | 0=>.nil
 |k+1=>by
  show Vals.append h (Vals.rep h k)
def rO{α:Type}:∀(l:List α) (i:Nat),(l.eraseIdx i).length<=l.length
 | [],_=>eD _
 |_::_,0=>AY _
 |_::r,i+1=>Nat.succ_le_succ (rO r i)
def foldl_rep(its:List Value):∀(k:Nat) (acc:List Value),
  List.foldl (λx1 x2=>x1++x2) acc.toArray (List.replicate k its.toArray)=(acc++(List.replicate k its).flatten).toArray
 | 0,acc=>by simp
 |k+1,acc=>by
  have e:acc.toArray++its.toArray=(acc++its).toArray:=by simp
  have e2:(acc++its)++(List.replicate k its).flatten=acc++(List.replicate (k+1) its).flatten:=by rw[AE,List.flatten_cons,AR]
  rw[<- e2,<- foldl_rep its k (acc++its),<- e,AE,List.foldl_cons]
section
variable{X:Cx}{aj: ~~~1}{Y:St}{H:Hp}{s:Shared}{l b:Addr}{xs ys zs:List V}
def Inv.Mz{its its':List Value}{n:Nat}{f:Array Value->Array Value}{t':Nat}(I: ~~~7)(hH:H l=!(.lst xs))
  (e:s.heap.get? l=some { cls:=.type "list",data:=.seq its.toArray n}) (hf:f its.toArray=its'.toArray) (hv:Vals ys its') (hz:ys.length<=sizeLine) :
  Inv X aj Y (upd H l (.lst ys)) { s with heap:=s.heap.update l (Obj.mapSeq f),toks:=t'}:=by
 have q:=PySem.IsL.update e f;rw[hf]at q;apply I.write (by rw[hH];show trivial) (.inl rfl) (λb' u hb hu=>(i5 s.heap (Obj.mapSeq f) (n0 hb)).trans hu) #[_,q] ?_
 show#[hz,its',_,hv,q]
def Inv.ZK(I: ~~~7)(hv:Vals ys its)(hz:ys.length<=sizeLine) :
  Inv X aj Y (upd H s⁻¹ (.lst ys)) { s with heap:=s.heap.push { cls:=.type "list",data:=.seq its.toArray},toks:=t'}:=
 I.laid (λ_ _ q=>b0 _ q) (eD _) #[hz,its,0,hv,eC _ rfl]
def Inv.fresh(I: ~~~7):H s⁻¹=none:=I.hok.fresh (eD _)
def Inv.tY(I: ~~~7)(hH:H l=!(.lst xs)):xs.length<=sizeLine/\∃(its:List Value) (n:Nat),Vals xs its/\xs.length=its.length/\s.heap.get? l=some { cls:=.type "list",data:=.seq its.toArray n}:=by let(z,its,n,r,e):=I.hok l _ hH;show#[z,its,n,r,r.length,e]
def oA(h:n<=sizeLine):Builtin.List.listTooLong n=false:=by show nE ⋯
end
section
variable{X:Cx}
abbrev MF:V->List V->Hp->VK->Prop:=λx vs H Q=>∃l xs y,x=.ref l/\vs=[y]/\H l=!(.lst xs)/\xs.length<sizeLine/\Q .non (upd H l (.lst (xs++[y])))
def lP:MtM X "list.append" MF:=by
 intro aj s Y H x vs v us Q I rx rv h;let(l,xs,y,rfl,rfl,hH,hz,q):=h;cases rx;let(u,rfl,ru):=rv.one;let(z,its,n,r,hl,e):=I.tY hH;apply Cc F.slot_list_append #[_,e,rfl] F.entry_list_append (F.args_list_append_2 _ _) (PySem.list_append l its.toArray n u (by rw[dL];lia)) #[e,?_]
 apply#[.non,_,I.Mz hH e ⋯ (r.append (.cons ru .nil)) ?_,rfl,q];rw[eP,Ap];lia
abbrev MJ:V->List V->Hp->VK->Prop:=λx vs H Q=>∃l b xs zs,x=.ref l/\vs=[.ref b]/\H l=!(.lst xs)/\H b=!(.lst zs)/\xs.length+zs.length<=sizeLine/\Q .non (upd H l (.lst (xs++zs)))
def Dh:MtM X "list.extend" MJ:=by
 intro aj s Y H x vs v us Q I rx rv h;let(l,b,xs,zs,rfl,rfl,hH,hB,hz,q):=h;cases rx;let(u,rfl,ru):=rv.one;cases ru;let(z,its,n,r,hl,e):=I.tY hH;let(z2,lI,n2,r2,hl2,e2):=I.tY hB;have jo:its.toArray.size+lI.toArray.size<=sizeLine:=by rw[dL,dL];lia
 have vG : ¬ ((not its.toArray.isEmpty)&&Builtin.List.listTooLong (its.toArray.size+lI.toArray.size))=true:=by rw[oA jo,CF];show t5
 apply Cc F.slot_list_extend #[_,e,rfl] F.entry_list_extend (F.args_list_extend_2 _ _)
  (AutoSeq1.list_extend_list_list_0 l its.toArray n b lI.toArray n2 vG (by rw[dL];lia) ⋯) #[e,e2,?_]
 apply#[.non,_,I.Mz hH e ⋯ (r.append r2) ?_,rfl,q];rw[eP];lia
abbrev Uc:V->List V->Hp->VK->Prop:=λx vs H Q=>∃l xs i k y,x=.ref l/\vs=[.int i]/\H l=!(.lst xs)/\-(2 ^ 63)<=i/\i<2 ^ 63/\seqIndex? i xs.length=!k/\xs[k]?=!y/\Q y (upd H l (.lst (xs.eraseIdx k)))
def G7:MtM X "list.pop" Uc:=by
 intro aj s Y H x vs v us Q I rx rv h;let(l,xs,i,k,y,rfl,rfl,hH,h1,h2,hk,hy,q):=h;cases rx;let(u,rfl,ru):=rv.one;let(t,rfl):=ru;let(z,its,n,r,hl,e):=I.tY hH;let(w,hw,rw'):=r.get hy;apply Cc F.slot_list_pop #[_,e,rfl] F.entry_list_pop (F.args_list_pop_2 _ _)
  (MeetsSeq.list_pop_at l its.toArray n i t k w (fitsIndex_both h1 h2) (by rw[dL,<- hl];show hk) (by rw[<- AZ];show hw) (by rw[dL];lia)) #[e,?_]
 apply#[y,_,I.Mz hH e ?_ (r.eraseIdx k) ?_,rw',q]
 . exact its.toArray.eraseIdxIfInBounds k=(its.eraseIdx k).toArray;rw[List.eraseIdxIfInBounds_toArray]
 . have:=rO xs k;lia
abbrev rCat:R2:=λx y H Q=>∃l b xs zs,x=.ref l/\y=.ref b/\H l=!(.lst xs)/\H b=!(.lst zs)/\xs.length+zs.length<=sizeLine/\∀p,H p=none->Q (.ref p) (upd H p (.lst (xs++zs)))
def Ud:lJ X (binaryOp .Add) rCat:=by
 intro aj s Y H x y v u Q I rx ry h;let(l,b,xs,zs,rfl,rfl,hH,hB,hz,q):=h;cases rx;cases ry;let(z,its,n,r,hl,e):=I.tY hH;let(z2,lI,n2,r2,hl2,e2):=I.tY hB;apply PySem.P.add_list e e2 ?_ (by rw[dL,dL];lia)
 have ea:its.toArray++lI.toArray=(its++lI).toArray:=by simp
 rw[ea];show#[.ref _,_,I.ZK (r.append r2) (by rw[eP];lia),rfl,q _ I.fresh]
abbrev rRep:R2:=λx y H Q=>∃l k xs,x=.ref l/\y=.int k/\H l=!(.lst xs)/\-(2 ^ 63)<=k/\k<2 ^ 63/\xs.length * k.toNat<=sizeLine/\
 ∀p,H p=none->Q (.ref p) (upd H p (.lst (List.replicate k.toNat xs).flatten))
def len_rep{α:Type}(xs:List α)(k:Nat):(List.replicate k xs).flatten.length=k * xs.length:=by
 induction k with
 |zero=>simp
 |succ k ih=>rw[AE,List.flatten_cons,eP,ih,Nat.succ_mul,Nat.add_comm]
def Ue:lJ X (binaryOp .Mult) rRep:=by
 intro aj s Y H x y v u Q I rx ry h;let(l,k,xs,rfl,rfl,hH,h1,h2,hz,q):=h;cases rx;let(t,rfl):=ry;let(z,its,n,r,hl,e):=I.tY hH;have aK:its.toArray.size * k.toNat<=sizeLine:=by rw[dL,<- hl];show hz
 have hcap : ¬ its.toArray.size * k.toNat > (2 ^ 63 - 1) / 8:=by
  have:(sizeLine:Nat)<=(2 ^ 63 - 1) / 8:=by decide
  lia
 have hfit : ¬ ((not (Builtin.List.listFitsIndex k)))=true:=by rw[fitsIndex_both h1 h2];show t5
 have vG : ¬ Builtin.List.listTooLong (its.toArray.size * k.toNat)=true:=by rw[oA aK];show t5
 have hnew:List.foldl (λx1 x2=>x1++x2) ([].toArray) (List.replicate (if its.toArray.isEmpty=true then 0 else k.toNat) its.toArray)=(List.replicate k.toNat its).flatten.toArray:=by
  have f0:∀m:Nat,List.foldl (λx1 x2=>x1++x2) ([].toArray) (List.replicate m its.toArray)=(List.replicate m its).flatten.toArray:=λm=>by
   have:=foldl_rep its m [];show this
  rw[f0];cases its with
  |nil=>simp
  |cons a r'=>rw[i7 ⋯]
 apply wpAny_binaryOp_repeat_ref ⋯ #[_,e,rfl] (λs'=>typeIs_int s' k t) noFill_list_mul F.fills_int_mul F.slot_int_rmul repeat_list F.slot_int_index.lookup
  (Cc F.slot_int_rmul (typeIs_int s k t) F.entry_int_rmul (F.args_int_rmul_2 _ _) (int___rmul___int_list k t l its.toArray n)
   #[e,rfl,#[_,e,rfl],Cc F.slot_list_mul #[_,e,rfl] F.entry_list_mul (F.args_list_mul_2 _ _) (AutoListH.list___mul___list_int_3 l its.toArray n k t hfit hcap vG) #[e,?_]])
 rw[hnew];show#[.ref _,_,I.ZK (r.rep k.toNat) (by rw[len_rep,Nat.mul_comm];show hz),rfl,q _ I.fresh]
end
end L2
namespace Att
open PySem PySem.W PySem.Calls PyProof.Rows
def ni:∀(ns: ~~~0) (vs:List Value),WellAll P h vs (ns.map WData.int)->IntsAre vs ns:=by
 intro ns
 induction ns with
 |nil=>intro vs w;cases w;show .nil
 |cons n ns ih=>
  intro vs w;cases w with
  |cons a b=>cases a;show .cons _ _ (ih _ b)
def Di{l:OpenLaw}{n:Nat}(hn:l.most=!n){P:Params}{h:Heap}{args:List WData}{vals:List Value}
  (hpre:l.row.toRowW.claim.pre args=true) (hwl:WellAll P h vals args) :
  ∃a vs ns,vals=[Value.ref a]/\args=[WData.list (ns.map WData.int)]/\h.get? a=some { cls:=.type "list",data:=.seq vs.toArray}/\IntsAre vs ns/\ns.length<=n:=by
 have hsh:=(pre_splitW hpre).1;have hc:l.pre.holds [] { args:=args}=true:=(pre_splitW hpre).2;let(d,r,rfl,h1,h2):=hasAllW_cons hsh;obtain rfl:=hasAllW_nil h2;let(xs,rfl,h3):=hasW_list h1;let(ns,rfl):=items_int h3;have aK:ns.length<=n:=by
  have h4:(WTm.not (.lt (.lit (.int (n:Int))) (.len (.arg 0)))).holds [] { args:=[.list (ns.map .int)]}=true:=by have h4:=(holds_andW hc).1;rw[hn]at h4;show h4
  have h5:=condW_of h4 (w_not (w_lt w_lit (w_len_list (w_arg rfl))));apply Nat.le_of_not_lt λq=>?_
  first
   | (rw[mM q']at h5;show absurd h5 ⋯)
   | (simp at h5;lia)
 cases hwl with
 |cons w1 w2=>
  cases w2;cases w1 with
  |list ho hall=>show#[_,_,ns,rfl,rfl,ho,ni ns _ hall,aK]
def Dj(l:OpenLaw)(args:List WData):l.row.toRowW.claim.post args (.bool true) args=true:=
 postW_of
  (show WShape.has [] (.bool true) .bool=true by first |rfl |decide |simp[WShape.arms])
  (show (WTm.eq .res (.lit (.bool true))).value [] { args:=args,res:=!(.bool true),after:=args}=!(.bool (true==true))from w_eq_bool (w_res rfl) w_lit) rfl
def vH{l:OpenLaw}{n:Nat}{q:Program}{loose:List Str}{XP:(Str->Option Value)->Heap->Prop}{YP:World->Heap->Prop}{d:DefRec}
  (hn:l.most=!n) (jm:d.params.defaults=[])
  (call:∀(w:World) (s₀ s₁:Shared) (mg mb:Str->Option Value) (fa:Addr) (o:Obj) (pm cd doc:Value) (a:Addr) (vs:List Value) (ns: ~~~0),
   Ground q loose [] XP w s₀ mg mb s₁.heap->YP w s₁.heap->
   s₁.heap.get? fa=!o->o.data=.func (docDef d.name d.params d.body d.scope pm cd doc)->s₁.heap.CodeRec cd d.name->mg d.name=!(.ref fa)->
   s₁.heap.get? a=some { cls:=.type "list",data:=.seq vs.toArray}->IntsAre vs ns->ns.length<=n->s₁.gens = ([].toArray)->
   codeAny (model l.prog w) callerA (.call (.ref fa) #[[.ref a],[]]) (λr s'=>r=.ok (.ret (.bool true))/\OldK s₁.heap s'.heap/\s'.os=s₁.os/\AllBare s'.gens) s₁) :
  WalkO q loose XP YP l.row.toRowW d [] (λf vs=>PySem.call f vs):=by
 intro w s₀ s₁ mg mb G qqq fa o pm cd doc dV kV ho hd cP hD hmg hg args vals as hpre hlay hrd hwl hlo;obtain rfl:dV=.none:=Dflts.none hD jm;obtain rfl:kV=.none:=Dflts.noKw hD;let(a,vs,ns,rfl,rfl,hobj,hints,aK):=Di hn hpre hwl;apply enter_call (BF (call w s₀ s₁ mg mb fa o pm cd doc a vs ns G qqq ho (fd_plain hd) cP hmg hobj hints aK hg) λr s' hq=>?_)
 let(rfl,h2,h3,h4):=hq;show#[.inl #[.bool true,.bool true,[],rfl,λ_=>rfl,.bool true,Dj l _,λ_=>#[List.Pairwise.nil,λ_ hm=>(nomatch hm)]],h2,h3,h4]
end Att
namespace L2
def lQ:∀{vs:List Value}{ns: ~~~0},IntsAre vs ns->Vals (ns.map V.int) vs:=by
 intro vs ns h
 induction h with
 |nil=>show .nil
 |cons n t h ih=>show .cons #[t,rfl] ih
meta abbrev KOf{K:Frag}{h:Heap}(_:K.In h):Frag:=K
meta abbrev yQ:De:=λ_ _ _ _ _ _=>False
meta abbrev E0:XK:=λ_ _ _=>False
def Ry:Passes yQ X E0:=λ_ _ _ _ _ _ _ h=>h.elim
structure MK(K:Frag)(x qual:Str)(st:Stmt)(f:Addr)(fd:FuncData):Prop where
 ex:∃(oc:Value) (od:Option Addr) (kV doc pm:Value) (an:Option Addr) (bG ct:Value) (osl:Array (Option Value)),
  fd=PySem.W.fnOf x qual (jc st) (bx st) (aD st) .none kV doc pm an bG ct/\K.lookup f=!#[oc,od,.func fd,osl]/\PySem.W.codeIn K bG qual=true
 kp:PySem.W.keepIn K (.ref f)=true
section
variable{P:Program}{w:World}{K:Frag}{mg:Str->Option Value}{base:Heap}
def Ug{x qual:Str}{st:Stmt}{f:Addr}{oc:Value}{od an:Option Addr}{osl:Array (Option Value)}{kV doc pm bG ct:Value}(l:K.lookup f=!#[oc,od,.func (PySem.W.fnOf x qual (jc st) (bx st) (aD st) .none kV doc pm an bG ct),osl])
  (c:PySem.W.codeIn K bG qual=true) (k:PySem.W.keepIn K (.ref f)=true):MK K x qual st f (PySem.W.fnOf x qual (jc st) (bx st) (aD st) .none kV doc pm an bG ct):=#[#[oc,od,kV,doc,pm,an,bG,ct,osl,rfl,l,c],k]
end
def lR{A B:Prop}(h:B):if false=true then A else B:=by show h
def jr{A B:Prop}(h:A):if true=true then A else B:=by show h
abbrev Cx.block(X:Cx)(N:List Str)(scope:Scope)(cl:List (Str×Addr))(C:Addr)(s₀:Shared)(H₀:Hp)(fp:List Addr):Cx:=
 { X with N:=N,s₀:=s₀,H₀:=H₀,env:=compEnvC scope cl C X.env,outer:=X.stack,ex:=fp,fn:=λx=>scope.names.lookup x==some .local,pn:=[],xe:=λ_ _=>False}
structure Bk where
 cl:List (Str×Addr)
 C:Addr
 s₀:Shared
 H₀:Hp
 fp:List Addr
meta abbrev Cx.blk (X:Cx) (N:List Str) (scope:Scope) (b:Bk):Cx:=X.block N scope b.cl b.C b.s₀ b.H₀ b.fp
structure aR(sc scope:Scope):Prop where
 kind:scope.kind=.function
 tZ:∀y∈scope.names,y.2≠.cell
 uniq:∀y∈scope.names,y.2=.local->scope.names.lookup y.1=some .local
 ZL:∀y∈scope.names,y.2=.free->scope.names.lookup y.1=some .free
 free:∀y∈scope.names,y.2=.free->sc.names.lookup y.1=some .cell\/sc.names.lookup y.1=some .free
def mem_of_lookup{α:Type}{x:Str}{v:α}:∀{l:List (Str×α)},l.lookup x=!v->(x,v)∈l
 | [],h=>by simp at h
 | (n,k)::r,h=>by
  cases hx:x==n with
  |true=>
   simp only[sR,hx]at h;symm;have e:x=n:=by simpa using hx
   subst e;show dA
  |false=>simp only[sR,hx]at h;show bP _ (mem_of_lookup h)
def iB{env:Env}{x:Str}:∀{names:List (Str×NameKind)},
  (names.map λ(n,k)=>if (k==NameKind.free&&env.scope.kind==.function&&env.kindOf n==some .cell)then (n,NameKind.cell)else (n,k)).lookup x
   = (names.lookup x).map λk=>if (k==NameKind.free&&env.scope.kind==.function&&env.kindOf x==some .cell)then NameKind.cell else k
 | []=>rfl
 | (n,k)::r=>by
  have ih:=@iB env x r;exact List.lookup x ((if (k==NameKind.free&&env.scope.kind==.function&&env.kindOf n==some .cell)=true then (n,NameKind.cell)else (n,k))::_)=_
  cases hx:x==n with
  |true=>
   have e:x=n:=by simpa using hx
   subst e;by_cases hc:(k==NameKind.free&&env.scope.kind==.function&&env.kindOf x==some .cell)=true
   . rw[i8 hc];simp only[sR,hx,BS,i8 hc]
   . rw[i7 hc];simp only[sR,hx,BS,i7 hc]
  |false=>
   by_cases hc:(k==NameKind.free&&env.scope.kind==.function&&env.kindOf n==some .cell)=true
   . rw[i8 hc];simp only[sR,hx];show ih
   . rw[i7 hc];simp only[sR,hx];show ih
def oB(h:∀y∈scope.names,y.2=.free->∃c,env.cells.lookup y.1=!c) :
  ∃cl,closureFor scope env=pure cl/\(∀x c,cl.lookup x=!c->env.cells.lookup x=!c/\(x,NameKind.free)∈scope.names)/\∀y∈scope.names,y.2=.free->∃c,cl.lookup y.1=!c:=by
 have key:∀(names:List (Str×NameKind)) (acc:List (Str×Addr)),(∀y∈names,y.2=.free->∃c,env.cells.lookup y.1=!c)->
   ∃cl,(forIn names acc λx (cs:List (Str×Addr))=>(match x with | (name,kind)=>if (kind==.free)=true then (do let c <- cellOf env name;pure (ForInStep.yield ((name,c)::cs)))else pure (ForInStep.yield cs):Sem (ForInStep (List (Str×Addr)))))=pure cl/\
    (∀x c,cl.lookup x=!c->acc.lookup x=!c\/(env.cells.lookup x=!c/\(x,NameKind.free)∈names))/\(∀y∈names,y.2=.free->∃c,cl.lookup y.1=!c)/\∀x c,acc.lookup x=!c->∃c',cl.lookup x=!c':=by
  intro names
  induction names with
  |nil=>intro acc _;show#[acc,rfl,λx c e=>.inl e,(λy hy=>nomatch hy),λx c e=>#[c,e]]
  |cons y r ih=>
   intro acc hf;let(n,k):=y;rw[List.forIn_cons];by_cases hk:(k==NameKind.free)=true
   .
    let(c,hc):=hf (n,k) dA (by simpa using hk)
    have hc':=hc;let(cl,e,h1,h2,h3):=ih ((n,c)::acc) λy hy=>hf y (bP _ hy)
    apply#[cl,?_,λx c' q=>?_,λy hy hyf=>?_,λx c' q=>?_]
    .
     have ec:cellOf env n=pure c:=by delta cellOf;rw[hc']
     exact ((if (k==NameKind.free)=true then (do let c <- cellOf env n;pure (ForInStep.yield ((n,c)::acc)))else pure (ForInStep.yield acc)) >>= _)=_
     rw[i8 hk,ec];show e
    .
     rcases h1 x c' q with z |⟨z1,z2⟩
     .
      cases hx:x==n with
      |true=>
       simp only[sR,hx]at z;cases z;have e:x=n:=by simpa using hx
       subst e;have ek:k=NameKind.free:=by simpa using hk
       subst ek;show .inr #[hc',dA]
      |false=>simp only[sR,hx]at z;show .inl z
     . show .inr #[z1,bP _ z2]
    .
     rcases dS.mp hy with rfl |hy
     . show h3 n c ⋯
     . show h2 y hy hyf
    .
     cases hx:x==n with
     |true=>
      have e:x=n:=by simpa using hx
      subst e;show h3 x c ⋯
     |false=>show h3 x c' (by simp only[sR,hx];show q)
   .
    let(cl,e,h1,h2,h3):=ih acc λy hy=>hf y (bP _ hy)
    apply#[cl,?_,λx c' q=>?_,λy hy hyf=>?_,h3]
    .
     exact ((if (k==NameKind.free)=true then (do let c <- cellOf env n;pure (ForInStep.yield ((n,c)::acc)))else pure (ForInStep.yield acc)) >>= _)=_
     rw[i7 hk];show e
    .
     rcases h1 x c' q with z |⟨z1,z2⟩
     . show .inl z
     . show .inr #[z1,bP _ z2]
    .
     rcases dS.mp hy with rfl |hy
     . show absurd hyf (by simpa using hk)
     . show h2 y hy hyf
 let(cl,e,h1,h2,_):=key scope.names [] h;apply#[cl,?_,λx c q=>?_,h2]
 . show (congrArg (λm=>m >>= λcs=>pure cs) e:_)
 .
  rcases h1 x c q with z |z
  . simp at z
  . show z
abbrev jL(X:Cx)(ifs:List Expr)(t:TT):Prop:=
 ∀(aj: ~~~1) (s:Shared) (Y:St) (H:Hp) (Q:Bool->Hp->Prop),Inv X aj Y H s->t Y H Q->
  wpAny (~~~2) X.A (forIn ifs true λc r=>if r=true then do let ok <- isTrue c X.env (eval c X.env);pure (ForInStep.yield ok)else pure (ForInStep.yield r)) (TP X aj Y Q) X.xe s
abbrev Rz:TT:=λ_ H Q=>Q true H
def vI:jL X [] Rz:=λ_ _ _ H _ I h=>wpAny_tests_nil #[H,I,h]
def G8(h:PT X c t):jL X [c] t:=λaj s Y H Q I hw=>wpAny_tests_one (h aj s Y H Q I hw)
abbrev jM(e target iter:Expr)(ifs:List Expr)(d:Nat)(it acc:Value)(env:Env)(em:Sem Unit):Sem Fin:=do
 standAt iter.pos
 match <- pyNext it with
 |none=>pure (.done .next)
 |some v=>
  letOwnedTupleGo target it v
  assign target env v
  let mut ok:=true
  for c in ifs do
   if ok then ok <- isTrue c env (eval c env)
  if ok then em
  again (.compLoop e d it acc env)
abbrev Cu(ce:Expr):Prop:=∀(prog:Program) (w:World) (A:Around) (d:Nat) (it acc:Value) (env:Env),A.under (.compLoop ce d it acc env)=A/\(model prog w).den (.compLoop ce d it acc env)=(compTurn ce d it acc env).onRaise (λx=>do noteFrame x env;theTreesLotGoes x)
def kL(hu:Cu ce)(ht:compTurn ce d it acc env=jM ce target iter ifs d it acc env em)(I:Nat->Shared->Prop)
  (turn:∀n s,I n s->wpAny (model prog w) A (pyNext it) (λr s₁=>match r with
   |none=>R (.ok .next) s₁
   |some v=>wpAny (model prog w) A (letOwnedTupleGo target it v) (λ_ s₁'=>wpAny (model prog w) A (assign target env v) (λ_ s₂=>
     wpAny (model prog w) A (forIn ifs true λc r=>if r=true then do let ok <- isTrue c env (eval c env);pure (ForInStep.yield ok)else pure (ForInStep.yield r)) (λok s₃=>
      if ok=true then wpAny (model prog w) A em (λ_ s₅=>∃m,m<n/\I m s₅) (λ_ _=>False) s₃
      else ∃m,m<n/\I m s₃) (λ_ _=>False) s₂) (λ_ _=>False) s₁') (λ_ _=>False) s₁) (λ_ _=>False) s)
  (n:Nat) (h:I n s) :
  codeAny (model prog w) A (.compLoop ce d it acc env) R s:=by
 apply codeAny_loop rfl I (λn s hI=>?_) n h
 rw[(hu prog w A d it acc env).1,(hu prog w A d it acc env).2];apply wpAny_noted ?_;rw[ht];apply aS (t9 (aS (kA (turn n s hI) (λr s₁ h₁=>?_) λ_ _ h'=>h'.elim)))
 cases r with
 |none=>show dC h₁
 |some v=>
  apply aS (kA h₁ (λ_ s₁' h₁'=>?_) λ_ _ h'=>h'.elim)
  apply aS (kA h₁' (λ_ s₂ h₂=>aS (kA h₂ (λok s₃ h₃=>?_) λ_ _ h'=>h'.elim)) λ_ _ h'=>h'.elim)
  cases ok with
  |false=>show dC #[rfl,h₃]
  |true=>show aS (kA h₃ (λ_ s₅ h₅=>dC #[rfl,h₅]) λ_ _ h'=>h'.elim)
def TU:=St->Hp->(St->Hp->Prop)->Prop
abbrev PU(X:Cx)(m:Sem Unit)(t:TU):Prop:=
 ∀(aj: ~~~1) (s:Shared) (Y:St) (H:Hp) (Q:St->Hp->Prop),Inv X aj Y H s->t Y H Q->wpAny (~~~2) X.A m (λ_ s'=>∃σ' H',Inv X aj σ' H' s'/\Q σ' H') (λ_ _=>False) s
abbrev vJ(D:Addr)(te:TE):TU:=λY H Q=>te Y H λv H5=>∃ys,H5 D=!(.lst ys)/\ys.length<sizeLine/\Q Y (upd H5 D (.lst (ys++[v])))
def uc(he:PE X aX te)(hx:X.xe=λ_ _=>False):PU X (do let _ <- call (.builtin "list.append") [.ref D,<- eval aX X.env]) (vJ D te):=by
 intro aj s Y H Q I h;have he:=he aj s Y H _ I h;rw[hx]at he;apply aS (kA he (?_) λ_ _ z=>z)
 rintro y s8 ⟨v,H8,I8,r8,ys,hD8,hz8,q8⟩;have ma:=lP aj s8 Y H8 (.ref D) [v] (.ref D) [y] (λ_ H9=>Q Y H9) I8 rfl (.cons r8 .nil) #[_,ys,v,rfl,rfl,hD8,hz8,q8]
 rw[hx]at ma;show aS (kA ma (by rintro _ s9 ⟨_,H9,I9,_,q9⟩;show dC #[Y,H9,I9,q9]) λ_ _ z=>z)
abbrev σC(k:Nat)(D:Addr)(Y:St):St:=Y++(List.replicate k none++[!(.ref D)])
abbrev BkIn(X:Cx)(Y:St)(b:Bk):Prop:=∃aj,Inv X aj Y b.H₀ b.s₀/\∀a∈b.fp,kJ X aj b.H₀ a
abbrev MN(u0:HO)(X:Cx)(k:Nat)(g:Bk->TG)(tt:Bk->TT)(te:Addr->Bk->TU)(J:It)(D:Addr)(Y:St)(H1:Hp)(Q:VK):Prop:=
 ∃W:Nat->Nat->St->Hp->Prop,(∃m,W 0 m (σC k D Y) (upd H1 D u0))/\∀i m σ' H',W i m σ' H'->
  (J.stop i H'/\Q (.ref D) H')\/(J.go i H'/\∃Nn:St->Hp->Prop,(∀Dk Dl,Nn Dk Dl->∃m',m'<m/\W (i+1) m' Dk Dl)/\∀x H2,J.Yj i H' x H2->∀bk:Bk,BkIn X Y bk->g bk x σ' H2 λσ2 H3=>tt bk σ2 H3 λb H4=>
   if b=true then te D bk σ2 H4 Nn else Nn σ2 H4)
abbrev ud(u0:HO)(X:Cx)(k:Nat)(wi:TI)(g:Bk->TG)(tt:Bk->TT)(te:Addr->Bk->TU):TE:=λY H Q=>wi Y H λJ H1=>∀D,H1 D=none->MN u0 X k g tt te J D Y H1 Q
def rP:=ud (.lst [])
structure Ck(X:Cx)(ce tg iter:Expr)(ifs:List Expr)(rest:List Comprehension)(new:Sem Value)(u0:HO)(em:Value->Env->Sem Unit):Prop where
 cls:clausesOf ce=#[tg,iter,ifs,0]::rest
 und:Cu ce
 turn:∀it D env,compTurn ce 0 it (.ref D) env=jM ce tg iter ifs 0 it (.ref D) env (em (.ref D) env)
 new:∃o0:Obj,o0.isFreed=false/\(∀{A:Around}{E Q:Value->Shared->Prop}{s:Shared},Q (.ref s⁻¹) { s with heap:=s.heap.push o0}->wpAny (~~~2) A new Q E s)/\
  ∀(H:Hp) (h:Heap) (a:Addr),h.get? a=!o0->(a==sysModules)=false->cW X.prog X.w H h a u0
 start:∀{A:Around}{R:Result->Shared->Prop}{s:Shared}{it acc:Value}{env:Env},codeAny (~~~2) A (.compLoop ce 0 it acc env) R s->
  wpAny (~~~2) A (pyIter it) (λit' s'=>codeAny (~~~2) A (.compLoop ce 0 it' acc env) R s') (notedBy (~~~2) A env λx s'=>R (.error x) s') s->codeAny (~~~2) A (.compStart ce 0 it acc env) R s
def nG{X:Cx}{aX tg iter:Expr}{ifs:List Expr}{rest:List Comprehension}{scope:Scope}{pos:Pos}{em:Value->Env->Sem Unit}(h:∀it acc env,compTurn (.ListComp aX (#[tg,iter,ifs,0]::rest) scope pos) 0 it acc env=jM (.ListComp aX (#[tg,iter,ifs,0]::rest) scope pos) tg iter ifs 0 it acc env (em acc env)) :
  Ck X (.ListComp aX (#[tg,iter,ifs,0]::rest) scope pos) tg iter ifs rest (newList []) (.lst []) em where
 cls:=rfl
 und:=λ_ _ _ _ _ _ _=>#[rfl,rfl]
 turn:=λit D env=>h it (.ref D) env
 new:=#[_,rfl,λh=>nS h,λ_ _ _ e _=>#[tS _,[],_,.nil,e]]
 start:=codeAny_compStart_list
structure Names(N N':List Str)(scope:Scope)(k:Nat):Prop where
 len:N'.length=N.length+(k+1)
 last:∀x,N'[N.length+k]?=!x->scope.names.lookup x=none
 old:∀i x,N'[i]?=!x->i<N.length->scope.names.lookup x=none\/(N[i]?=!x/\scope.names.lookup x≠some .local)
def d8:(relabel scope env).names.lookup x=(scope.names.lookup x).map λk=>if (k==NameKind.free&&env.scope.kind==.function&&env.kindOf x==some .cell)then NameKind.cell else k:=iB
section
variable{X:Cx}
def oE(B:aR X.env.scope scope)(h:(compEnvC scope cl C X.env).kindOf x=some .cell\/(compEnvC scope cl C X.env).kindOf x=some .free) :
  (x,NameKind.free)∈scope.names:=by
 have e:(compEnvC scope cl C X.env).kindOf x=(scope.names.lookup x).map λk=>if (k==NameKind.free&&X.env.scope.kind==.function&&X.env.kindOf x==some .cell)then NameKind.cell else k:=d8
 rw[e]at h;cases q:scope.names.lookup x with
 |none=>rw[q]at h;rcases h with h |h <;> symm
 |some k=>
  have hm:=mem_of_lookup q;cases k with
  |free=>show hm
  |cell=>show absurd rfl (B.tZ _ hm)
  |_=>rw[q]at h;rcases h with h |h <;> (simp at h)
def G9(B:aR X.env.scope scope)(I: ~~~7)(hC:s⁻¹<=C)
  (hf:∀b∈fp,kJ X aj H b) (hfs:∀b∈fp,b<s⁻¹)
  (hcl:∀x c,cl.lookup x=!c->X.env.cells.lookup x=!c/\(x,NameKind.free)∈scope.names) (MP:∀y∈scope.names,y.2=.free->∃c,cl.lookup y.1=!c):(X.block N' scope cl C s H fp).Ok where
 mod:=I.ok.mod
 kind:=B.kind
 glob:=I.ok.glob
 blt:=I.ok.blt
 above:=hC
 inj:=λx y c h1 h2=>I.ok.inj x y c (hcl x c h1).1 (hcl y c h2).1
 has:=λx h=>MP _ (oE B h) rfl
 Tc:=λx c h1 h2=>by
  have e:scope.names.lookup x=some .local:=by have:(scope.names.lookup x==!NameKind.local)=true:=h1;simpa using this
  have h3:=(hcl x c h2).2;have q:=B.ZL _ h3 rfl;rw[e]at q;cases q
 hd:=I.ok.hd
 frames:=I.ok.frames
 stk:=.inl rfl
 Yh:=λb hb=>#[kS (eM (hfs b hb) hC),λx c e=>(hf b hb).2.2.2.2.1 x c (hcl x c e).1]
 bs:=I.bs
 Gz:=l7 I.ok.Gz I.sz
 vn:=λb o e hb=>by
  let(_,_,_,h3,_):=hf b hb;rcases h3 with h3 |h3
  . show I.ok.vn b o e h3
  . show absurd (eM (eQ e) (l7 I.ok.Gz h3)) (nV _)
 yz:=λb hb hm=>by
  rcases dS.mp (I.yC b hm)with e |e
  . show (hf b hb).2.1 e
  . show (hf b hb).2.2.1 e
 kF:=I.stack
 Mf:=I.tG
def fZ{aj: ~~~1}{Y:St}{H:Hp}{s:Shared}{N':List Str}{k:Nat}{wi:TI}{g:Bk->TG}{tt:Bk->TT}{tu:Addr->Bk->TU}{ce:Expr}{rest:List Comprehension}{new:Sem Value}{u0:HO}{cp:Pos}{em:Value->Env->Sem Unit}{use:Option (Value->Sem Unit)}{Q:Value->Shared->Prop}{Q0:VK}
  (B:aR X.env.scope scope) (hc:X.calm=true) (hN:Names X.N N' scope k) (hi:PI X tg iter wi) (ck:Ck X ce tg iter ifs rest new u0 em)
  (hin:∀(b:Bk) (D:Addr),PG (X.blk N' scope b) tg (g b)/\jL (X.blk N' scope b) ifs (tt b)/\PU (X.blk N' scope b) (em (.ref D) (X.blk N' scope b).env) (tu D b))
  (hs:∀x,foldedSetIterable iter X.env x=pure x) (I: ~~~7) (h:ud u0 X k wi g tt tu Y H Q0)
  (fin:∀s' H' D C m,Inv X aj Y H' s'->kJ X aj H' C->s'.heap.Ns C m->Q0 (.ref D) H'->compPost (~~~2) X.A X.xe use Q (.ref D) C (.ok .next) s') :
  wpAny (~~~2) X.A (comprehension ce scope X.env cp new false (eval iter X.env) use) Q X.xe s:=by
 let(cl,hclos,hcl,MP):=oB λy hy hf=>I.ok.has y.1 (B.free y hy hf)
 apply wpAny_comprehension_free ck.cls hs hclos B.kind B.uniq (bU (hi aj s Y H _ I h) λxv s₁ h₁=>bU h₁ λitv s₂ h₂=>?_)
 let(it,fp,tn,J,H2,rfl,I2,T,aI,f2,hW):=h₂;let(o0,fr0,new0,ok0):=ck.new;apply new0 (wpAny_newFunctionEnv B.tZ (by intro y hy;simp at hy) (λh₁ ZM Uh=>?_) B.kind)
 generalize hH2:s₂.heap.push o0=P2 at ZM Uh ⊢
 have hC:P2.objs.size=s₂⁻¹+1:=by rw[<- hH2,t7]
 have hDC:s₂⁻¹≠P2.objs.size:=by rw[hC];show kS (qS _)
 have Ui:s₂⁻¹<=P2.objs.size:=by rw[hC];show AY _
 have old:∀b o,s₂.heap.get? b=!o->h₁.get? b=!o:=λb o e=>Uh.extBut b o (kS (by rw[hC];show Nat.lt_succ_of_lt (eQ e))) (b0 _ (hH2▸b0 _ e))
 have hD0:=I2.hok.fresh (eD _);have hC0:=I2.hok.fresh Ui;have nsys:(s₂⁻¹==sysModules)=false:=by
  have h1:=(I2.ok.mod.glob.keeps I2.bk).lt;apply Bool.eq_false_iff.mpr λq=>?_
  have q:=eq_of_beq q;rw[q]at h1;show absurd h1 ⋯
 have fps:∀b∈fp,b<s₂⁻¹:=λb hb=>by
  let(o,e,_):=T.obj _ _ aI b hb;show eQ e
 have ok':=G9 (N':=N') B I2 Ui f2 fps hcl MP;let(W,(m0,w0),turn):=hW s₂⁻¹ hD0;have fsub:∀b∈fp,b∉frs X.stack:=λb hb=>ok'.yz b hb
 let(hg,ht,he):=hin #[cl,P2.objs.size,s₂,H2,fp] s₂⁻¹;have I0:Inv (X.block N' scope cl P2.objs.size s₂ H2 fp) [] (σC k s₂⁻¹ Y) (upd H2 s₂⁻¹ u0) { s₂ with heap:=h₁,toks:=s₂.toks+([]:List (Str×Value)).length}:=by
  apply#[ok',rfl,I2.bare,Un.laid old (eD _) hD0,#[_,ZM,λi x v e1 e2 e3=>?_],λx c e=>?_,?_,λx c e=>?_,λp hp=>?_,I2.hok.laid old (eD _) ?_,?_]
  .
   have ZN:(compEnvC scope cl P2.objs.size X.env).kindOf x=some .local\/(compEnvC scope cl P2.objs.size X.env).kindOf x=some .cell\/(compEnvC scope cl P2.objs.size X.env).kindOf x=some .free:=e3;have ek:(compEnvC scope cl P2.objs.size X.env).kindOf x=(scope.names.lookup x).map λk=>if (k==NameKind.free&&X.env.scope.kind==.function&&X.env.kindOf x==some .cell)then NameKind.cell else k:=d8
   have Y7:i<Y.length:=by
    rcases sK i Y.length with z |z
    . show z
    .
     exfalso;delta σC at e2;rw[fA z]at e2;rcases sK (i - Y.length) k with z2 |z2
     .
      rw[eA (by rw[l5];show z2)]at e2
      have:=i6 e2;rw[w8]at this;show absurd this.2 ⋯
     .
      rw[fA (by rw[l5];show z2),l5]at e2
      have z3:i - Y.length - k=0:=by
       rcases Nat.eq_zero_or_pos (i - Y.length - k)with q |q
       . show q
       . rw[At (Nat.succ_le_of_lt q)]at e2;cases e2
      have z4:i=X.N.length+k:=by rw[<- I2.len];lia
      have hn:=hN.last x (by rw[<- z4];show e1)
      rw[ek,hn]at ZN;rcases ZN with q |q |q <;> cases q
   have Yl:Y[i]?=!(!v):=by delta σC at e2;rw[eA Y7]at e2;show e2
   have hiN:i<X.N.length:=by rw[<- I2.len];show Y7
   rcases hN.old i x e1 hiN with z |⟨z,z2⟩
   . rw[ek,z]at ZN;rcases ZN with q |q |q <;> cases q
   .
    have hfree:(compEnvC scope cl P2.objs.size X.env).kindOf x=some .cell\/(compEnvC scope cl P2.objs.size X.env).kindOf x=some .free:=by
     rcases ZN with q |q
     .
      exfalso;rw[ek]at q;cases hq:scope.names.lookup x with
      |none=>rw[hq]at q;cases q
      |some kk=>
       rw[hq]at q;cases kk with
       | «local»=>show z2 hq
       |free=>simp only[BS]at q;split at q <;> cases q
       |_=>simp at q
     . show q
    have hm:=oE B hfree;let(c,hc1):=MP _ hm rfl;have ZP:=hc1;have hc2:=(hcl x c ZP).1;let(m2,hn2,hl2):=I2.loc;have hvis:kj X.env.scope x:=(B.free _ hm rfl).elim (λa=>.inr (.inl a)) λa=>.inr (.inr a)
    let(u,ru,lk):=hl2 i x v z Yl hvis;apply#[u,ru,.inr #[hfree,c,ZP,?_]];rcases lk with ⟨q1,_⟩ |⟨_,c',q1,q2⟩
    .
     exfalso;have yt:X.env.scope.names.lookup x=some .local:=q1;rcases B.free _ hm rfl with y |y
     . have y':=y;rw[yt]at y';cases y'
     . have y':=y;rw[yt]at y';cases y'
    . rw[hc2]at q1;cases q1;let(o,ho,hd):=q2;show#[o,old _ _ ho,hd]
  . let(v,o,ho,hd):=I2.cell x c (hcl x c e).1;show#[v,o,old _ _ ho,hd]
  . exact upd H2 s₂⁻¹ u0 P2.objs.size=none;rw[az (n0 hDC)];show hC0
  . have q:=I2.dP x c (hcl x c e).1;let(v,z):=I2.cell x c (hcl x c e).1;rw[az (kS z.lt)];show q
  . show absurd (show p∈([]: ~~~1)from hp) ⋯
  . show ok0 _ _ _ (Uh.extBut _ _ hDC (b0 _ (hH2▸eC _ fr0))) nsys
  . exact (σC k s₂⁻¹ Y).length=N'.length;delta σC;rw[eP,eP,l5,hN.len,I2.len];rfl
 have stat:∀{H':Hp},(∀b∈fp,H' b=none)->∀b∈fp,kJ (X.block N' scope cl P2.objs.size s₂ H2 fp) [] H' b:=λhn b hb=>
  #[hn b hb,(ok'.Yh b hb).1,fsub b hb,.inl hb,λx c e=>(ok'.Yh b hb).2 x c e,λp hp=>absurd (show p∈([]: ~~~1)from hp) ⋯]
 have loop:∀s₃:Shared,s₃={ s₂ with heap:=h₁,toks:=s₂.toks+([]:List (Str×Value)).length}->
   codeAny (~~~2) X.A (.compLoop ce 0 (.ref it) (.ref s₂⁻¹) (compEnvC scope cl P2.objs.size X.env))
    (compPost (~~~2) X.A X.xe use Q (.ref s₂⁻¹) P2.objs.size) s₃:=by
  rintro s₃ rfl;apply kL ck.und (ck.turn _ _ _) (λn s'=>∃i σ' H',Inv (X.block N' scope cl P2.objs.size s₂ H2 fp) [] σ' H' s'/\tn i s'.heap/\(∀b∈fp,H' b=none)/\W i n σ' H') ?_ m0
   #[0,_,_,I0,T.keep _ _ _ aI λb hb o e=>old b o e,λb hb=>?_,w0]
  .
   rintro n s3 ⟨i,σ3,H3,I3,dY,Ru,w3⟩;rcases turn i n σ3 H3 w3 with ⟨stop,qn⟩ |⟨go,Nn,hNn,step⟩
   .
    apply bU (T.done (X.block N' scope cl P2.objs.size s₂ H2 fp) rfl rfl rfl hc i [] s3 σ3 H3 (λ_ _=>False) I3 (stat Ru) dY stop) λr s4 #[hr,I4]=>?_
    subst hr;let(m,hm,_):=id I4.loc;have I5:=I2.call' I4.os I4.base I4.hok I4.bare λb hb=>#[(f2 b hb).2.2.2.1,(f2 b hb).2.1,(f2 b hb).2.2.2.2.1,(f2 b hb).2.2.2.2.2]
    show fin s4 H3 _ _ m I5 (I2.yF Ui I4.free) hm qn
   .
    apply bU (T.item (X.block N' scope cl P2.objs.size s₂ H2 fp) rfl rfl rfl hc i [] s3 σ3 H3 (λ_ _=>False) I3 (stat Ru) dY go) λr s4 #[u,hr,h4]=>?_
    subst hr;apply bU h4 ?_;rintro _ s5 ⟨x,H5,I5,r5,y5,jq,Zm⟩;have Zn:=I5.pinned (stat Zm) (T.obj _ _ jq);have again:∀{σ7:St}{H7:Hp}{s7:Shared},Inv (X.block N' scope cl P2.objs.size s₂ H2 fp) ([]++lO fp s5.heap) σ7 H7 s7->Nn σ7 H7->∃m,m<n/\∃i σ' H',Inv (X.block N' scope cl P2.objs.size s₂ H2 fp) [] σ' H' s7/\tn i s7.heap/\(∀b∈fp,H' b=none)/\W i m σ' H':=λ{σ7 H7 s7} I7 n7=>by
     let(m',hm,w7):=hNn σ7 H7 n7;apply#[m',hm,i+1,σ7,H7,I7.iz,T.keep _ _ _ jq λb hb o e=>(I7.pin (b,o) (gN _ (gN _ (dD hb e)))).1,λb hb=>?_,w7]
     let(o,e,d):=T.obj _ _ jq b hb;show (I7.pin (b,o) (gN _ (gN _ (dD hb e)))).2.1
    apply bU (hg _ s5 σ3 H5 x u _ Zn r5 (step x H5 y5 #[cl,P2.objs.size,s₂,H2,fp] #[aj,I2,f2])) ?_;rintro _ s6 ⟨σ6,H6,I6,q6⟩;apply bU (ht _ s6 σ6 H6 _ I6 q6) ?_;rintro b s7 ⟨H7,I7,q7⟩;cases b with
    |false=>show again I7 q7
    |true=>show kA (he _ s7 σ6 H7 _ I7 q7) (by rintro _ s9 ⟨σ9,H9,I9,q9⟩;show again I9 q9) λ_ _ z=>z
  . exact upd H2 s₂⁻¹ u0 b=none;rw[az (kS (fps b hb))];show (f2 b hb).1
 apply ck.start (loop _ rfl) (T.self _ 0 _ _ _ ?_ (loop _ rfl));show T.keep _ _ _ aI λb hb o e=>old b o e
def MT{N':List Str}{k:Nat}{wi:TI}{g:Bk->TG}{tt:Bk->TT}{te:Bk->TE}(B:aR X.env.scope scope)(hc:X.calm=true)(hN:Names X.N N' scope k)(hi:PI X tg iter wi)
  (hin:∀b:Bk,PG (X.blk N' scope b) tg (g b)/\jL (X.blk N' scope b) ifs (tt b)/\PE (X.blk N' scope b) aX (te b))
  (hs:∀x,foldedSetIterable iter X.env x=pure x:=by intro _;rfl):PE X (.ListComp aX [#[tg,iter,ifs,0]] scope pos) (rP X k wi g tt λD b=>vJ D (te b)):=by
 intro aj s Y H Q I h;apply fZ B hc hN hi (nG λ_ _ _=>rfl) (λb D=>#[(hin b).1,(hin b).2.1,uc (hin b).2.2 rfl]) hs I h λs' H' D C m I' f' hn q=>?_
 apply#[m,hn,λh' sb=>#[.ref D,H',?_,rfl,q]]
 let(f0,f1,f2,f3,f4,f5):=f';show I'.turned (λb o hb e=>(sb.2 b hb).trans e) f0 f1 f3 f4 f5
def Ba{N':List Str}{k:Nat}{wi:TI}{g:Bk->TG}{tt:Bk->TT}{te:Bk->TE}{i:Nat}{y:Str}{py fW:Pos}(B:aR X.env.scope scope)(hc:X.calm=true)(hN:Names X.N N' scope k)(hi:PI X tg iter wi)
  (hin:∀b:Bk,PG (X.blk N' scope b) tg (g b)/\jL (X.blk N' scope b) ifs (tt b)/\PE (X.blk N' scope b) aX (te b))
  (Dm:X.N.Nodup) (hy:X.N[i]?=!y) (hl:X.env.scope.names.lookup y=some .local)
  (hsw:swapsWith (.ListComp aX [#[tg,iter,ifs,0]] scope pos) (!(.Name y py)) fW.line X.env=pure true)
  (hs:∀x,foldedSetIterable iter X.env x=pure x:=by intro _;rfl):PS X (.Assign [.Name y py] (.ListComp aX [#[tg,iter,ifs,0]] scope pos) fW) (Mh (rP X k wi g tt λD b=>vJ D (te b)) (vB i)):=by
 intro aj s Y H D0 I h;rw[exec_Assign_Name_used _ _ _ _ hsw];apply aS (t9 (aS ?_));apply aS (kA (fZ B hc hN hi (nG λ_ _ _=>rfl) (λb D=>#[(hin b).1,(hin b).2.1,uc (hin b).2.2 rfl]) hs I h λs' H' D C m I' f' hn q=>?_) (λ_ s' hq=>dC (dC hq)) λ_ _ e=>e)
 apply wpAny_assign_Name (lN I' Dm hy (.inl hl) (v:=.ref D) rfl (λs2 I2 hsb=>?_) (.inr hl))
 let(f0,f1,f2,f3,f4,f5):=f';let(a,sb,ha):=hsb;have nC:C≠a:=by
  rcases ha with e |e
  . rw[e];show f1
  . show n0 (f4 _ _ e)
 apply#[m,hn.sameBut sb nC,λh' sb'=>#[_,H',?_,q]]
 show I2.turned (λb o hb e=>(sb'.2 b hb).trans e) f0 f1 f3 f4 f5
end
section
def fh
  (h0:codeAny (model prog w) A (.compLoop (.ListComp aX [#[t1,i1,f1,0],#[target,iter,ifs,0]] scope pos) 1 it acc env) R s)
  (h:wpAny (model prog w) A (pyIter it) (λit' s'=>codeAny (model prog w) A (.compLoop (.ListComp aX [#[t1,i1,f1,0],#[target,iter,ifs,0]] scope pos) 1 it' acc env) R s') (λ_ _=>False) s) :
  codeAny (model prog w) A (.compStart (.ListComp aX [#[t1,i1,f1,0],#[target,iter,ifs,0]] scope pos) 1 it acc env) R s:=by
 apply codeAny_of_tree ?_;apply wpAny_notedAt ?_;apply aS (yA (wpAny_ite ?_));split
 .
  first
   |show aS (dC (dC (And.intro rfl h0)))
   |show dC (And.intro rfl h0)
 .
  first
   |show aS (AJ (aS (t9 (aS (kA h (λit' s' h'=>dC (And.intro rfl h')) λ_ _ x=>x.elim)))))
   | (apply aS (AJ ?_);exact wpAny _ _ (standAt iter.pos >>= _) _ _ s;show aS (t9 (aS (kA h (λit' s' h'=>dC (And.intro rfl h')) λ_ _ x=>x.elim))))
end
abbrev Dn(ce iter:Expr)(acc:Value)(env:Env):Sem Unit:=do
 let x <- eval iter env
 standAt iter.pos
 let x <- foldedSetIterable iter env x
 let _ <- runOwn (.compStart ce 1 (<- holding [x] (pyIter x)) acc env) env
abbrev RB(wi:TI)(g:TG)(tt:TT)(tu:TU):TU:=λY H Q=>wi Y H λJ H1=>∃W:Nat->Nat->St->Hp->Prop,(∃m,W 0 m Y H1)/\∀i m σ' H',W i m σ' H'->
 (J.stop i H'/\Q σ' H')\/(J.go i H'/\∃Nn:St->Hp->Prop,(∀Dk Dl,Nn Dk Dl->∃m',m'<m/\W (i+1) m' Dk Dl)/\∀x H2,J.Yj i H' x H2->g x σ' H2 λσ2 H3=>tt σ2 H3 λb H4=>if b=true then tu σ2 H4 Nn else Nn σ2 H4)
abbrev Cs(X:Cx)(ce:Expr)(acc:Value):Prop:=∀{R:Result->Shared->Prop}{s:Shared}{it:Value},codeAny (~~~2) X.A (.compLoop ce 1 it acc X.env) R s->
 wpAny (~~~2) X.A (pyIter it) (λit' s'=>codeAny (~~~2) X.A (.compLoop ce 1 it' acc X.env) R s') (λ_ _=>False) s->codeAny (~~~2) X.A (.compStart ce 1 it acc X.env) R s
def Hf{X:Cx}{ce tg iter:Expr}{ifs:List Expr}{D:Addr}{wi:TI}{g:TG}{tt:TT}{tu:TU}{em:Sem Unit}(hc:X.calm=true)(hx:X.xe=λ_ _=>False)(hu:Cu ce)(hrn:∀it,compTurn ce 1 it (.ref D) X.env=jM ce tg iter ifs 1 it (.ref D) X.env em)(cH:Cs X ce (.ref D))(hi:PI X tg iter wi)(hg:PG X tg g)(ht:jL X ifs tt)(he:PU X em tu)(hs:∀x,foldedSetIterable iter X.env x=pure x) :
  PU X (Dn ce iter (.ref D) X.env) (RB wi g tt tu):=by
 intro aj s Y H Q I h;have hi:=hi aj s Y H _ I h;rw[hx]at hi;apply aS (kA hi (λv s1 h1=>?_) λ_ _ z=>z)
 apply aS (t9 ?_);rw[hs v];apply aS (dC ?_);apply aS (mE (kA h1 (λitv s2 h2=>?_) λ_ _ z=>z))
 let(it,fp,tn,J,H2,rfl,I2,T,aI,f2,W,(m0,w0),turn):=h2;have stat:∀{H':Hp},(∀b∈fp,H' b=none)->∀b∈fp,kJ X aj H' b:=λhn b hb=>#[hn b hb,(f2 b hb).2]
 have loop:codeAny (~~~2) X.A (.compLoop ce 1 (.ref it) (.ref D) X.env) (λr s'=>match r with |.ok f=>∃σ' H',Inv X aj σ' H' s'/\Q σ' H' |.error e=>False) s2:=by
  apply kL hu (hrn _) (λn s'=>∃i σ' H',Inv X aj σ' H' s'/\tn i s'.heap/\(∀b∈fp,H' b=none)/\W i n σ' H') ?_ m0 #[0,Y,H2,I2,aI,λb hb=>(f2 b hb).1,w0]
  rintro n s3 ⟨i,σ3,H3,I3,dY,Ru,w3⟩;rcases turn i n σ3 H3 w3 with ⟨stop,qn⟩ |⟨go,Nn,hN,step⟩
  .
   apply bU (T.done X rfl rfl rfl hc i aj s3 σ3 H3 (λ_ _=>False) I3 (stat Ru) dY stop) λr s4 #[hr,I4]=>?_
   subst hr;show#[σ3,H3,I4,qn]
  .
   apply bU (T.item X rfl rfl rfl hc i aj s3 σ3 H3 (λ_ _=>False) I3 (stat Ru) dY go) λr s4 #[u,hr,h4]=>?_
   subst hr;apply bU h4 ?_;rintro _ s5 ⟨x,H5,I5,r5,y5,jq,Zm⟩;have Zn:=I5.pinned (stat Zm) (T.obj _ _ jq);have again:∀{σ7:St}{H7:Hp}{s7:Shared},Inv X (aj++lO fp s5.heap) σ7 H7 s7->Nn σ7 H7->∃m,m<n/\∃i σ' H',Inv X aj σ' H' s7/\tn i s7.heap/\(∀b∈fp,H' b=none)/\W i m σ' H':=λ{σ7 H7 s7} I7 n7=>by
    let(m',hm,w7):=hN σ7 H7 n7;apply#[m',hm,i+1,σ7,H7,I7.iz,T.keep _ _ _ jq λb hb o e=>(I7.pin (b,o) (gN _ (gN _ (dD hb e)))).1,λb hb=>?_,w7]
    let(o,e,d):=T.obj _ _ jq b hb;show (I7.pin (b,o) (gN _ (gN _ (dD hb e)))).2.1
   have hg:=hg _ s5 σ3 H5 x u _ Zn r5 (step x H5 y5);rw[hx]at hg;apply bU hg ?_;rintro _ s6 ⟨σ6,H6,I6,q6⟩;have ht:=ht _ s6 σ6 H6 _ I6 q6;rw[hx]at ht;apply bU ht ?_;rintro b s7 ⟨H7,I7,q7⟩;cases b with
   |false=>show again I7 q7
   |true=>show kA (he _ s7 σ6 H7 _ I7 q7) (by rintro _ s9 ⟨σ9,H9,I9,q9⟩;show again I9 q9) λ_ _ z=>z
 have start:=cH loop (T.self _ 0 _ _ _ aI loop);apply aS (wpAny_runOwn (BF start λr s' hr=>?_))
 cases r with
 |error e=>show hr.elim
 |ok f=>show dC hr
def vK{aX t1 i1 tg iter:Expr}{f1 ifs:List Expr}{scope:Scope}{pos:Pos}{it acc:Value}{env:Env}:compTurn (.ListComp aX [#[t1,i1,f1,0],#[tg,iter,ifs,0]] scope pos) 0 it acc env=jM (.ListComp aX [#[t1,i1,f1,0],#[tg,iter,ifs,0]] scope pos) t1 i1 f1 0 it acc env (Dn (.ListComp aX [#[t1,i1,f1,0],#[tg,iter,ifs,0]] scope pos) iter acc env):=by
 exact (standAt i1.pos >>= λ_=>pyNext it >>= λr=>_)=(standAt i1.pos >>= λ_=>pyNext it >>= λr=>_)
 congr 1;funext _;congr 1;funext r
 cases r with
 |none=>rfl
 |some v=>
  exact (letOwnedTupleGo t1 it v >>= λ_=>assign t1 env v >>= λ_=>_ >>= λok=>_)=(letOwnedTupleGo t1 it v >>= λ_=>assign t1 env v >>= λ_=>_ >>= λok=>_)
  congr 1;funext _;congr 1;funext _;congr 1;funext ok
  cases ok with
  |false=>rfl
  |true=>delta Dn;simp only[bind_assoc];rfl
section
def Hg{N':List Str}{k:Nat}{w1:TI}{w2:Bk->TI}{g1 g2:Bk->TG}{RC RD:Bk->TT}{te:Bk->TE}(B:aR X.env.scope scope)(hc:X.calm=true)(hN:Names X.N N' scope k)(hi:PI X t1 i1 w1)
  (hin:∀b:Bk,(PG (X.blk N' scope b) t1 (g1 b)/\jL (X.blk N' scope b) f1 (RC b))/\PI (X.blk N' scope b) tg iter (w2 b)/\PG (X.blk N' scope b) tg (g2 b)/\jL (X.blk N' scope b) ifs (RD b)/\PE (X.blk N' scope b) aX (te b))
  (hs:∀x,foldedSetIterable i1 X.env x=pure x) (hs2:∀(b:Bk) x,foldedSetIterable iter (X.blk N' scope b).env x=pure x) :
  PE X (.ListComp aX [#[t1,i1,f1,0],#[tg,iter,ifs,0]] scope pos) (rP X k w1 g1 RC λD b=>RB (w2 b) (g2 b) (RD b) (vJ D (te b))):=by
 intro aj s Y H Q I h;apply fZ B hc hN hi (nG λ_ _ _=>vK) (λb D=>#[(hin b).1.1,(hin b).1.2,Hf hc rfl (λ_ _ _ _ _ _ _=>#[rfl,rfl]) (λ_=>rfl) fh (hin b).2.1 (hin b).2.2.1 (hin b).2.2.2.1 (uc (hin b).2.2.2.2 rfl) (hs2 b)]) hs I h λs' H' D C m I' f' hn q=>?_
 apply#[m,hn,λh' sb=>#[.ref D,H',?_,rfl,q]]
 let(f0,f1,f2,f3,f4,f5):=f';show I'.turned (λb o hb e=>(sb.2 b hb).trans e) f0 f1 f3 f4 f5
def Hi{N':List Str}{k:Nat}{w1:TI}{w2:Bk->TI}{g1 g2:Bk->TG}{RC RD:Bk->TT}{te:Bk->TE}{i:Nat}{y:Str}{py fW:Pos}(B:aR X.env.scope scope)(hc:X.calm=true)(hN:Names X.N N' scope k)(hi:PI X t1 i1 w1)
  (hin:∀b:Bk,(PG (X.blk N' scope b) t1 (g1 b)/\jL (X.blk N' scope b) f1 (RC b))/\PI (X.blk N' scope b) tg iter (w2 b)/\PG (X.blk N' scope b) tg (g2 b)/\jL (X.blk N' scope b) ifs (RD b)/\PE (X.blk N' scope b) aX (te b))
  (Dm:X.N.Nodup) (hy:X.N[i]?=!y) (hl:X.env.scope.names.lookup y=some .local)
  (hsw:swapsWith (.ListComp aX [#[t1,i1,f1,0],#[tg,iter,ifs,0]] scope pos) (!(.Name y py)) fW.line X.env=pure true)
  (hs:∀x,foldedSetIterable i1 X.env x=pure x) (hs2:∀(b:Bk) x,foldedSetIterable iter (X.blk N' scope b).env x=pure x) :
  PS X (.Assign [.Name y py] (.ListComp aX [#[t1,i1,f1,0],#[tg,iter,ifs,0]] scope pos) fW) (Mh (rP X k w1 g1 RC λD b=>RB (w2 b) (g2 b) (RD b) (vJ D (te b))) (vB i)):=by
 intro aj s Y H D0 I h;rw[exec_Assign_Name_used _ _ _ _ hsw];apply aS (t9 (aS ?_));apply aS (kA (fZ B hc hN hi (nG λ_ _ _=>vK) (λb D=>#[(hin b).1.1,(hin b).1.2,Hf hc rfl (λ_ _ _ _ _ _ _=>#[rfl,rfl]) (λ_=>rfl) fh (hin b).2.1 (hin b).2.2.1 (hin b).2.2.2.1 (uc (hin b).2.2.2.2 rfl) (hs2 b)]) hs I h λs' H' D C m I' f' hn q=>?_) (λ_ s' hq=>dC (dC hq)) λ_ _ e=>e)
 apply wpAny_assign_Name (lN I' Dm hy (.inl hl) (v:=.ref D) rfl (λs2 I2 hsb=>?_) (.inr hl))
 let(f0,f1,f2,f3,f4,f5):=f';let(a,sb,ha):=hsb;have nC:C≠a:=by
  rcases ha with e |e
  . rw[e];show f1
  . show n0 (f4 _ _ e)
 apply#[m,hn.sameBut sb nC,λh' sb'=>#[_,H',?_,q]]
 show I2.turned (λb o hb e=>(sb'.2 b hb).trans e) f0 f1 f3 f4 f5
end
end L2
namespace Ev
open L2
inductive D where
 |non |bl (b:Bool) |int (i:Int) |str (x:Str) |tup (l:List D) |lst (l:List D) |fix (l:List D) |emp |nj (C:Addr) |Lp (ks: ~~~5) (ds:List D)
 deriving Inhabited
inductive Slot where
 |no |dat (d:D) |own (l:List D)
 deriving Inhabited
inductive R where
 |dat (d:D) |new (l:List D) |var (i:Nat)
 deriving Inhabited
def G:=List Slot
def Sg:=L2.St
meta abbrev K0:Hp:=λ_=>none
abbrev LstAt(M:List Addr)(H:Hp)(a:Addr)(xs:List V):Prop:=a∉M/\H a=!(.lst xs)
abbrev mR(K:Frag)(M:List Addr)(H:Hp)(a:Addr)(xs:List V):Prop:=(a∉M/\∃o,H a=!(.cU o (.lst xs)))\/cQ K K0 a xs
abbrev TupAt(K:Frag)(M:List Addr)(H:Hp)(a:Addr)(xs:List V):Prop:=(a∉M/\Rd H a (.tup xs))\/(iu K K0 a xs/\∃o,K.lookup a=!o/\o.dict=none)
def rd0(h:Rd K0 a u):False:=by rcases h with h |⟨o,h⟩ <;> symm
def mR.sq{K:Frag}{M:List Addr}{H:Hp}{a:Addr}{xs:List V}(h:mR K M H a xs):cQ K H a xs:=by
 rcases h with ⟨_,o,h⟩ |h |h
 . show .inl (.inr #[o,h])
 . show (rd0 h).elim
 . show .inr h
def TupAt.sq{K:Frag}{M:List Addr}{H:Hp}{a:Addr}{xs:List V}(h:TupAt K M H a xs):iu K H a xs:=by
 rcases h with ⟨_,h⟩ |⟨h |h,_⟩
 . show .inl h
 . show (rd0 h).elim
 . show .inr h
meta abbrev yR(C a:Addr):HO:=.ext λh=>∃o,h.get? a=!o/\o.cls=.ref C/\PySem.W.notCls o=true/\o.dict=none
structure Lq(K:Frag)(C:Addr):Prop where
 gga:PySem.W.findIn K (.ref C) "__getattribute__"=!(!(.builtin "BaseException.__getattribute__"))
 gat:PySem.W.findIn K (.ref C) "__getattr__"=!none
 bas:PySem.W.mroIn K C (.type "BaseException")=!true
 dct:PySem.W.hasDictIn K C=true
 cls:PySem.W.findIn K (.ref C) "__class__"=!(!(.builtin "object.__class__"))
 spc:PySem.W.specialIn K (.builtin "object.__class__") "__get__"=!(!(.builtin "getset_descriptor.__get__"))
 tks:PySem.W.takesIn K (.builtin "object.__class__")=!true
 mro:PySem.W.mroIn K C (.type "object")=!true
 kit:∀n∈["int", "bool", "str", "tuple", "list", "dict"],PySem.W.kitOne K (.ref C) (.type n)=!false
meta abbrev dicO(ks: ~~~5)(vs:List V):HO:=.dT ((ks.map (List.map Sum.inl)).zip vs)
abbrev ZQ:HO->Prop
 |.lst _ |.dT _ |.set _=>True
 |_=>False
mutual
inductive Rep(K:Frag)(M:List Addr)(H:Hp):D->V->Prop
 |non:Rep K M H .non .non
 |bl (b:Bool):Rep K M H (.bl b) (.bl b)
 |int (i:Int):Rep K M H (.int i) (.int i)
 |str (x:Str):Rep K M H (.str x) (.str x)
 |tup {l:List D}{a:Addr}{xs:List V}:TupAt K M H a xs->aE K M H l xs->Rep K M H (.tup l) (.ref a)
 |lst {l:List D}{a:Addr}{xs:List V}:LstAt M H a xs->aE K M H l xs->Rep K M H (.lst l) (.ref a)
 |fix {l:List D}{a:Addr}{xs:List V}:mR K M H a xs->aE K M H l xs->Rep K M H (.fix l) (.ref a)
 |emp:a∉M->H a=!(.dK [])->Rep K M H .emp (.ref a)
 |nj:Lq K C->a∉M->H a=!(yR C a)->Rep K M H (.nj C) (.ref a)
 |Lp:a∉M->H a=!(dicO ks vs)->ks.length=vs.length->aE K M H ds vs->Rep K M H (.Lp ks ds) (.ref a)
inductive aE(K:Frag)(M:List Addr)(H:Hp):List D->List V->Prop
 |nil:aE K M H [] []
 |cons {d:D}{ds:List D}{x:V}{xs:List V}:Rep K M H d x->aE K M H ds xs->aE K M H (d::ds) (x::xs)
end
abbrev au(M:List Addr)(H:Hp)(M':List Addr)(H':Hp):Prop:=∀b o,H b=!o->b∉M->H' b=!o/\b∉M'
def au.rd(h:au M H M' H')(n:a∉M)(r:Rd H a u):a∉M'/\Rd H' a u:=by
 rcases r with r |⟨o,r⟩
 . show#[(h _ _ r n).2,.inl (h _ _ r n).1]
 . show#[(h _ _ r n).2,.inr #[o,(h _ _ r n).1]]
def Rep.stay{K:Frag}{M M':List Addr}{H H':Hp}(h:au M H M' H'){d:D}{v:V}(r:Rep K M H d v):Rep K M' H' d v:=by
 apply Rep.rec .non .bl .int .str (λt _ q=>?_) (λt _ q=>?_) (λt _ q=>?_) (λn r=>.emp (h _ _ r n).2 (h _ _ r n).1) (λx n r=>.nj x (h _ _ r n).2 (h _ _ r n).1) (λn r l _ q=>.Lp (h _ _ r n).2 (h _ _ r n).1 l q) .nil (λ_ _ a b=>.cons a b) r
 .
  rcases t with t |t
  . show .tup (.inl (h.rd t.1 t.2)) q
  . show .tup (.inr t) q
 . show .lst #[(h _ _ t.2 t.1).2,(h _ _ t.2 t.1).1] q
 .
  rcases t with ⟨n,o,r⟩ |t
  . show .fix (.inl #[(h _ _ r n).2,o,(h _ _ r n).1]) q
  . show .fix (.inr t) q
def aE.stay{K:Frag}{M M':List Addr}{H H':Hp}(h:au M H M' H'):∀{ds:List D}{vs:List V},aE K M H ds vs->aE K M' H' ds vs:=by
 intro ds
 induction ds with
 |nil=>intro vs q;cases q;show .nil
 |cons d ds ih=>intro vs q;cases q with |cons a b=>show .cons (a.stay h) (ih b)
def au.refl(M:List Addr)(H:Hp):au M H M H:=λ_ _ e n=>#[e,n]
def au.trans(a:au M H M1 H1)(b:au M1 H1 M2 H2):au M H M2 H2:=λc o e n=>b c o (a c o e n).1 (a c o e n).2
def au.less(h:∀m∈M',m∈M):au M H M' H:=λ_ _ e n=>#[e,λz=>n (h _ z)]
def au.laid(hp:H p=none):au M H M (upd H p o):=λb u e n=>#[by rw[az (aJ e hp)];show e,n]
def au.aN(hp:H p=none):au M H (p::M) (upd H p o):=λb u e n=>
 #[by rw[az (aJ e hp)];show e,λz=>(dS.mp z).elim (λq=>aJ e hp q) n]
def au.write(hp:p∈M):au M H M (upd H p o):=λb u e n=>#[by rw[az (λq=>n (by rw[q];show hp))];show e,n]
def aE.length{K:Frag}{M:List Addr}{H:Hp}{ds:List D}{vs:List V}(r:aE K M H ds vs):ds.length=vs.length:=by
 induction ds generalizing vs with
 |nil=>cases r;rfl
 |cons d ds ih=>cases r with |cons a b=>show congrArg (· + 1) (ih b)
def aE.append{K:Frag}{M:List Addr}{H:Hp}{ds es:List D}{vs ws:List V}(r:aE K M H ds vs)(s:aE K M H es ws):aE K M H (ds++es) (vs++ws):=by
 induction ds generalizing vs with
 |nil=>cases r;show s
 |cons d ds ih=>cases r with |cons a b=>show .cons a (ih b)
def aE.get{K:Frag}{M:List Addr}{H:Hp}{ds:List D}{vs:List V}{i:Nat}{d:D}(r:aE K M H ds vs)(e:ds[i]?=!d):∃v,vs[i]?=!v/\Rep K M H d v:=by
 induction ds generalizing vs i with
 |nil=>show nomatch (show none=!d from e)
 |cons d' ds ih=>cases r with |cons a b=>cases i with
  |zero=>cases (show some d'=!d from e);show#[_,rfl,a]
  |succ i=>let(v,h):=ih b e;show#[v,h]
def aE.set{K:Frag}{M:List Addr}{H:Hp}{d:D}{v:V}(r:Rep K M H d v){ds:List D}{vs:List V}(i:Nat)(q:aE K M H ds vs):aE K M H (ds.set i d) (vs.set i v):=by
 induction ds generalizing vs i with
 |nil=>cases q;show .nil
 |cons d' ds ih=>cases q with |cons a b=>cases i with
  |zero=>show .cons r b
  |succ i=>show .cons a (ih i b)
def aE.take{K:Frag}{M:List Addr}{H:Hp}{ds:List D}{vs:List V}(n:Nat)(q:aE K M H ds vs):aE K M H (ds.take n) (vs.take n):=by
 induction ds generalizing vs n with
 |nil=>cases q;rw[List.take_nil,List.take_nil];show .nil
 |cons d' ds ih=>cases q with |cons a b=>cases n with
  |zero=>show .nil
  |succ n=>show .cons a (ih n b)
def aE.drop{K:Frag}{M:List Addr}{H:Hp}{ds:List D}{vs:List V}(n:Nat)(q:aE K M H ds vs):aE K M H (ds.drop n) (vs.drop n):=by
 induction ds generalizing vs n with
 |nil=>cases q;rw[List.drop_nil,List.drop_nil];show .nil
 |cons d' ds ih=>cases q with |cons a b=>cases n with
  |zero=>show .cons a b
  |succ n=>show ih n b
inductive Slots(K:Frag)(M:List Addr)(H:Hp):G->Sg->List Addr->Prop
 |nil:Slots K M H [] [] []
 |no:Slots K M H g Y As->Slots K M H (.no::g) (v::Y) As
 |dat {g:G}{Y:Sg}{As:List Addr}{v:V}{d:D}:Rep K M H d v->Slots K M H g Y As->Slots K M H (.dat d::g) (some v::Y) As
 |own {g:G}{Y:Sg}{As:List Addr}{a:Addr}{xs:List V}{ds:List D}:H a=!(.lst xs)->aE K M H ds xs->Slots K M H g Y As->Slots K M H (.own ds::g) (some (.ref a)::Y) (a::As)
def Slots.stay{K:Frag}{M M':List Addr}{H H':Hp}(h:au M H M' H'){g:G}{Y:Sg}{As:List Addr}(k:∀a∈As,∀o,H a=!o->H' a=!o)(q:Slots K M H g Y As):Slots K M' H' g Y As:=by
 induction q with
 |nil=>show .nil
 |no q ih=>show .no (ih k)
 |dat r q ih=>show .dat (r.stay h) (ih k)
 |own e r q ih=>show .own (k _ dA _ e) (r.stay h) (ih λa ha=>k a (bP _ ha))
abbrev jz:List Str:=["law"]
abbrev qT(n:Str):Str:=n ++ ".<locals>." ++ "<lambda>"
abbrev cN(K:Frag):List (Addr×Str):=K.filterMap λp=>match p.2.data with
 |.fields vs=>(match vs.toList with
  |_::.str n _::_=>if jz.contains n=true then (match vs.toList[11]? with
   |!(Value.ref q)=>if (K.lookup q).isNone=true then some (q,qT n)else none
   |_=>none)else none
  |_=>none)
 |_=>none
structure Z where
 K:Frag
 H0:Hp
 M0:List Addr
 lent:List (Nat×Addr)
 T:List (Addr×Str)
meta abbrev gZ(q:Str)(c:Addr):HO:=.ext λh=>h.CodeRec (.ref c) q
abbrev TabOk(H:Hp)(p:Addr×Str):Prop:=∃ps:Array Value,H p.1=!(.nh ps)/\TriplesOk ps.toList/\∀pos cv,codeAmong pos ps.toList=!cv->∃c,cv=.ref c/\H c=!(gZ p.2 c)
meta abbrev Z.TA(z:Z):List Addr:=z.T.map (·.1)
def TabOk.keep(t:TabOk H p)(k:∀b o,H b=!o->¬ ZQ o->H' b=!o):TabOk H' p:=by let(ps,h1,h2,h3):=t;show#[ps,k _ _ h1 id,h2,λpos cv e=>let #[c,e1,e2]:=h3 pos cv e;#[c,e1,k _ _ e2 id]]
meta abbrev Z.B(z:Z):List Addr:=z.lent.map (·.2)
meta abbrev Z.bor(z:Z):List Nat:=z.lent.map (·.1)
structure S(z:Z)(g:G)(Y:Sg)(As M:List Addr)(H:Hp):Prop where
 sl:Slots z.K M H g Y As
 nd:As.Nodup
 sub:∀a∈As,a∈M
 own:∀(i:Nat) (a:Addr) (l:List D),g[i]?=!(.own l)->Y[i]?=!(!(.ref a))->(i∈z.bor/\a∈z.B)\/z.H0 a=none
 live:∀m∈M,(∃o,H m=!o/\ZQ o)\/m∈z.TA
 keep:∀b o,z.H0 b=!o->b∉z.B->b∉z.TA->H b=!o
 fX:∀m∈z.M0,m∈M
 m0:∀m∈z.M0,z.H0 m≠none
 bm:∀b∈z.B,b∈z.M0
 gF:∀p∈z.lent,Y[p.1]?=!(!(.ref p.2))/\∃l,g[p.1]?=!(.own l)
 tab:∀p∈z.T,TabOk H p
 tm:∀p∈z.T,p.1∈z.M0
 tt:z.T=cN z.K
section
variable{g:G}
def S.fresh(s:S z g Y As M H)(hp:H p=none):p∉M:=λhm=>by
 rcases s.live p hm with ⟨o,e,_⟩ |e
 . rw[hp]at e;cases e
 . let(q,hq,rfl):=fR.mp e;let(ps,h1,_):=s.tab q hq;rw[hp]at h1;cases h1
def S.RJ(s:S z g Y As M H)(hp:H p=!(.lst xs)):p∉z.TA:=λe=>by
 let(q,hq,rfl):=fR.mp e;let(ps,h1,_):=s.tab q hq;rw[hp]at h1;cases h1
def S.cC(s:S z g Y As M H)(hp:H p=none):z.H0 p=none:=by
 cases e:z.H0 p with
 |none=>rfl
 |some o=>
  by_cases hb:p∈z.B
  . show absurd (s.fX _ (s.bm _ hb)) (s.fresh hp)
  .
   by_cases ht:p∈z.TA
   . let(q,hq,rfl):=fR.mp ht;show absurd (s.fX _ (s.tm q hq)) (s.fresh hp)
   . rw[s.keep p o e hb ht]at hp;cases hp
def S.laid(s:S z g Y As M H){p:Addr}{o:HO}(hp:H p=none):S z g Y As M (upd H p o) where
 sl:=s.sl.stay (au.laid hp) λa _ u e=>by rw[az (aJ e hp)];show e
 nd:=s.nd
 sub:=s.sub
 own:=s.own
 live:=λm hm=>by
  rcases s.live m hm with ⟨o,e,gr⟩ |e
  . show .inl #[o,by rw[az (aJ e hp)];show e,gr]
  . show .inr e
 keep:=λb u e hb ht=>by rw[az (aJ (s.keep b u e hb ht) hp)];show s.keep b u e hb ht
 fX:=s.fX
 m0:=s.m0
 bm:=s.bm
 gF:=s.gF
 tab:=λp h=>(s.tab p h).keep λb u e _=>by rw[az (aJ e hp)];show e
 tm:=s.tm
 tt:=s.tt
def S.RK(s:S z g Y As M H){p:Addr}{u0:HO}(gu:ZQ u0)(hp:H p=none):S z g Y As (p::M) (upd H p u0) where
 sl:=s.sl.stay (au.aN hp) λa _ u e=>by rw[az (aJ e hp)];show e
 nd:=s.nd
 sub:=λa ha=>bP _ (s.sub a ha)
 own:=s.own
 live:=λm hm=>by
  rcases dS.mp hm with rfl |hm
  . show .inl #[_,aA,gu]
  .
   rcases s.live m hm with ⟨o,e,gr⟩ |e
   . show .inl #[o,by rw[az (aJ e hp)];show e,gr]
   . show .inr e
 keep:=λb u e hb ht=>by rw[az (aJ (s.keep b u e hb ht) hp)];show s.keep b u e hb ht
 fX:=λm hm=>bP _ (s.fX m hm)
 m0:=s.m0
 bm:=s.bm
 gF:=s.gF
 tab:=λp h=>(s.tab p h).keep λb u e _=>by rw[az (aJ e hp)];show e
 tm:=s.tm
 tt:=s.tt
def S.aN(s:S z g Y As M H)(hp:H p=none):S z g Y As (p::M) (upd H p (.lst xs)):=s.RK trivial hp
def S.Hj(s:S z g Y As M H){a:Addr}{u0 u1:HO}(hm:a∈M)(hA:a∉As)(h0:z.H0 a=none)(h:H a=!u0)(g0:ZQ u0)(g1:ZQ u1):S z g Y As M (upd H a u1) where
 sl:=s.sl.stay (au.write hm) λb hb u e=>by rw[az (show b≠a from λq=>hA (by rw[<- q];show hb))];show e
 nd:=s.nd
 sub:=s.sub
 own:=s.own
 live:=λm hm=>by
  by_cases e:m=a
  . subst e;show .inl #[_,aA,g1]
  .
   rcases s.live m hm with ⟨o,q,gr⟩ |q
   . show .inl #[o,by rw[az e];show q,gr]
   . show .inr q
 keep:=λb o e hb ht=>by rw[az (λq=>by rw[q,h0]at e;cases e)];show s.keep b o e hb ht
 fX:=s.fX
 m0:=s.m0
 bm:=s.bm
 gF:=s.gF
 tab:=λp hp=>(s.tab p hp).keep λb o e n=>by rw[az (λq=>by rw[q,h]at e;cases e;show n g0)];show e
 tm:=s.tm
 tt:=s.tt
def S.drop(s:S z g Y As M H)(h0:z.H0 p=none)(hA:p∉As):S z g Y As (M.filter λm=>decide (m≠p)) H where
 sl:=s.sl.stay (au.less λm hm=>(i4.mp hm).1) λ_ _ _ e=>e
 nd:=s.nd
 sub:=λa ha=>i4.mpr #[s.sub a ha,by have:a≠p:=λe=>hA (e▸ha);simpa using this]
 own:=s.own
 live:=λm hm=>s.live m (i4.mp hm).1
 keep:=s.keep
 fX:=λm hm=>i4.mpr #[s.fX m hm,by have:m≠p:=λe=>s.m0 m hm (e▸h0);simpa using this]
 m0:=s.m0
 bm:=s.bm
 gF:=s.gF
 tab:=s.tab
 tm:=s.tm
 tt:=s.tt
end
abbrev dh(z:Z)(g:G)(Y:Sg)(As M:List Addr)(H:Hp):R->V->Prop
 |.dat d,v=>Rep z.K M H d v
 |.new l,v=>∃a xs,v=.ref a/\a∈M/\a∉As/\z.H0 a=none/\H a=!(.lst xs)/\aE z.K M H l xs
 |.var i,v=>∃l,g[i]?=!(.own l)/\Y[i]?=!(!v)
inductive Pk(K:Frag)(M:List Addr)(H:Hp):D->V->Prop
 |of:Rep K M H d v->Pk K M H d v
 |lst {l:List D}{a:Addr}{xs:List V}:H a=!(.lst xs)->aE K M H l xs->Pk K M H (.lst l) (.ref a)
def Pk.list{K:Frag}{M:List Addr}{H:Hp}{l:List D}{v:V}(h:Pk K M H (.lst l) v):∃a xs,v=.ref a/\H a=!(.lst xs)/\aE K M H l xs:=by
 cases h with
 |of r=>cases r with |lst h1 h2=>show⟨_,_,rfl,h1.2,h2⟩
 |lst h1 h2=>show#[_,_,rfl,h1,h2]
def Slots.at{K:Frag}{M:List Addr}{H:Hp}{g:G}{Y:Sg}{As:List Addr}{i:Nat}{l:List D}(q:Slots K M H g Y As)(e:g[i]?=!(.own l)):∃a xs,Y[i]?=!(!(.ref a))/\a∈As/\H a=!(.lst xs)/\aE K M H l xs:=by
 induction q generalizing i with
 |nil=>show nomatch (show none=!(Slot.own l)from e)
 |no q ih=>cases i with
  |zero=>show nomatch (show some Slot.no=!(Slot.own l)from e)
  |succ i=>show ih e
 |dat r q ih=>cases i with
  |zero=>show nomatch (show some (Slot.dat _)=!(Slot.own l)from e)
  |succ i=>show ih e
 |own h r q ih=>cases i with
  |zero=>cases (show some (Slot.own _)=!(Slot.own l)from e);show#[_,_,rfl,dA,h,r]
  |succ i=>let(a,xs,h1,h2,h3):=ih e;show#[a,xs,h1,bP _ h2,h3]
def Slots.oF{K:Frag}{M:List Addr}{H:Hp}{g:G}{Y:Sg}{As:List Addr}{i:Nat}{d:D}(q:Slots K M H g Y As)(e:g[i]?=!(.dat d)):∃v,Y[i]?=!(!v)/\Rep K M H d v:=by
 induction q generalizing i with
 |nil=>show nomatch (show none=!(Slot.dat d)from e)
 |no q ih=>cases i with
  |zero=>show nomatch (show some Slot.no=!(Slot.dat d)from e)
  |succ i=>show ih e
 |dat r q ih=>cases i with
  |zero=>cases (show some (Slot.dat _)=!(Slot.dat d)from e);show#[_,rfl,r]
  |succ i=>show ih e
 |own h r q ih=>cases i with
  |zero=>show nomatch (show some (Slot.own _)=!(Slot.dat d)from e)
  |succ i=>show ih e
def Slots.length{K:Frag}{M:List Addr}{H:Hp}{g:G}{Y:Sg}{As:List Addr}(q:Slots K M H g Y As):g.length=Y.length:=by
 induction q with
 |nil=>rfl
 |no q ih=>show congrArg (· + 1) ih
 |dat r q ih=>show congrArg (· + 1) ih
 |own h r q ih=>show congrArg (· + 1) ih
def Slots.iC{K:Frag}{M:List Addr}{H:Hp}{d:D}{v:V}(r:Rep K M H d v){g:G}{Y:Sg}{As:List Addr}(i:Nat)(q:Slots K M H g Y As):∃aC,Slots K M H (g.set i (.dat d)) (Y.set i (!v)) aC/\aC.Sublist As:=by
 induction q generalizing i with
 |nil=>show#[[],.nil,.slnil]
 |no q ih=>cases i with
  |zero=>show#[_,.dat r q,Cf _]
  |succ i=>let(aC,h1,h2):=ih i;show#[aC,.no h1,h2]
 |dat r' q ih=>cases i with
  |zero=>show#[_,.dat r q,Cf _]
  |succ i=>let(aC,h1,h2):=ih i;show#[aC,.dat r' h1,h2]
 |own e r' q ih=>cases i with
  |zero=>show#[_,.dat r q,List.sublist_cons_self _ _]
  |succ i=>let(aC,h1,h2):=ih i;show#[_::aC,.own e r' h1,h2.cons₂ _]
def Slots.freeze{K:Frag}{M M':List Addr}{H:Hp}(hM:∀m∈M',m∈M){g:G}{Y:Sg}{As:List Addr}{i:Nat}{l:List D}{a:Addr}(q:Slots K M H g Y As)(e:g[i]?=!(.own l))(e2:Y[i]?=!(!(.ref a)))(na:a∉M')(nd:As.Nodup) :
  ∃aC,Slots K M' H (g.set i (.dat (.lst l))) Y aC/\aC.Sublist As/\a∉aC:=by
 induction q generalizing i with
 |nil=>show nomatch (show none=!(Slot.own l)from e)
 |no q ih=>cases i with
  |zero=>show nomatch (show some Slot.no=!(Slot.own l)from e)
  |succ i=>let(aC,h1,h2,h3):=ih e e2 nd;show#[aC,.no h1,h2,h3]
 |dat r q ih=>cases i with
  |zero=>show nomatch (show some (Slot.dat _)=!(Slot.own l)from e)
  |succ i=>let(aC,h1,h2,h3):=ih e e2 nd;show#[aC,.dat (r.stay (au.less hM)) h1,h2,h3]
 |@own g Y As b xs ds h r q ih=>cases i with
  |zero=>
   cases (show some (Slot.own _)=!(Slot.own l)from e)
   cases (show some (!(V.ref b))=!(!(V.ref a))from e2)
   show#[_,.dat (.lst #[na,h] (r.stay (au.less hM))) (q.stay (au.less hM) λ_ _ _ e=>e),List.sublist_cons_self _ _,(hZ.mp nd).1]
  |succ i=>
   let(aC,h1,h2,h3):=ih e e2 (hZ.mp nd).2;apply#[b::aC,.own h (r.stay (au.less hM)) h1,h2.cons₂ _,λhm=>?_]
   rcases dS.mp hm with z |z
   .
    let(c,xs,z1,z2,_):=q.at e;cases (show some (!(V.ref c))=!(!(V.ref a))from z1.symm.trans e2)
    show (hZ.mp nd).1 (by rw[<- z];show z2)
   . show h3 z
def Slots.change{K:Frag}{M:List Addr}{H H':Hp}{l':List D}{a:Addr}{xs':List V}(st:au M H M H')(ha:H' a=!(.lst xs'))(r':aE K M H' l' xs'){g:G}{Y:Sg}{As:List Addr}{i:Nat}{l:List D}(q:Slots K M H g Y As)(e:g[i]?=!(.own l))(e2:Y[i]?=!(!(.ref a)))(nd:As.Nodup)
  (k:∀b∈As,b≠a->∀o,H b=!o->H' b=!o):Slots K M H' (g.set i (.own l')) Y As:=by
 induction q generalizing i with
 |nil=>show nomatch (show none=!(Slot.own l)from e)
 |no q ih=>cases i with
  |zero=>show nomatch (show some Slot.no=!(Slot.own l)from e)
  |succ i=>show .no (ih e e2 nd k)
 |dat r q ih=>cases i with
  |zero=>show nomatch (show some (Slot.dat _)=!(Slot.own l)from e)
  |succ i=>show .dat (r.stay st) (ih e e2 nd k)
 |@own g Y As b xs ds h r q ih=>cases i with
  |zero=>
   cases (show some (!(V.ref b))=!(!(V.ref a))from e2)
   show .own ha r' (q.stay st λc hc o e=>k c (bP _ hc) (λz=>(hZ.mp nd).1 (by rw[<- z];show hc)) o e)
  |succ i=>
   apply .own (k b dA (λz=>?_) _ h) (r.stay st) (ih e e2 (hZ.mp nd).2 λc hc=>k c (bP _ hc))
   let(c,xs,z1,z2,_):=q.at e;cases (show some (!(V.ref c))=!(!(V.ref a))from z1.symm.trans e2)
   show (hZ.mp nd).1 (by rw[z];show z2)
section
variable{g:G}
def gi(h:(g.set i (.dat d))[j]?=!(.own l)):g[j]?=!(.own l)/\j≠i:=by
 by_cases e:i=j
 .
  subst e;by_cases hi:i<g.length
  . rw[hV hi]at h;symm
  . rw[BA.mpr (by rw[wT];lia)]at h;symm
 . rw[fI e]at h;show#[h,n0 e]
def S.freeze(s:S z g Y As M H){i:Nat}{l:List D}(hg:g[i]?=!(.own l))(hb:i∉z.bor):∃aC M',S z (g.set i (.dat (.lst l))) Y aC M' H/\au M H M' H:=by
 let(a,xs,e1,e2,e3,e4):=s.sl.at hg;have h0:=(s.own i a l hg e1).elim (λq=>absurd q.1 hb) id
 have hM:∀m∈(M.filter λm=>decide (m≠a)),m∈M:=λm hm=>(i4.mp hm).1
 have na:a∉(M.filter λm=>decide (m≠a)):=λhm=>by
  have:=(i4.mp hm).2;simp at this
 let(aC,q1,q2,q3):=s.sl.freeze hM hg e1 na s.nd;apply#[aC,_,#[q1,s.nd.sublist q2,λb hb=>i4.mpr #[s.sub b (q2.subset hb),?_],λj b l' h1 h2=>s.own j b l' (gi h1).1 h2,λm hm=>s.live m (hM m hm),s.keep,λm hm=>i4.mpr #[s.fX m hm,?_],s.m0,s.bm,λp hp=>#[(s.gF p hp).1,?_],s.tab,s.tm,s.tt],au.less hM]
 rotate_left 2
 .
  have:i≠p.1:=λe=>hb (by rw[e];show u7 hp)
  rw[fI this];show (s.gF p hp).2
 .
  have:b≠a:=λe=>q3 (e▸hb)
  simpa using this
 .
  have:m≠a:=λe=>s.m0 m hm (e▸h0)
  simpa using this
def S.write(s:S z g Y As M H){i:Nat}{l l':List D}{a:Addr}{xs':List V}(hg:g[i]?=!(.own l))(e1:Y[i]?=!(!(.ref a)))(r:aE z.K M H l' xs'):S z (g.set i (.own l')) Y As M (upd H a (.lst xs'))/\au M H M (upd H a (.lst xs')):=by
 let(b,xs,e2,e3,e4,e5):=s.sl.at hg;rw[e1]at e2;injection e2 with e2;injection e2 with e2;injection e2 with e2;subst e2;have st:au M H M (upd H a (.lst xs')):=au.write (s.sub a e3);apply#[#[s.sl.change st aA (r.stay st) hg e1 s.nd (λb _ ne o e=>by rw[az ne];show e),s.nd,s.sub,λj b l2 h1 h2=>?_,λm hm=>?_,λb o e hb ht=>?_,s.fX,s.m0,s.bm,λp hp=>#[(s.gF p hp).1,?_],λp h=>(s.tab p h).keep λb u e nl=>?_,s.tm,s.tt],st]
 rotate_left 3
 .
  by_cases hj:i=p.1
  . rw[<- hj];show#[l',hV (dE.mp hg).1]
  . rw[fI hj];show (s.gF p hp).2
 .
  have:b≠a:=λz2=>by subst z2;rw[e4]at e;cases e;show nl trivial
  rw[az this];show e
 .
  by_cases hj:i=j
  . subst hj;show s.own i b l hg h2
  . rw[fI hj]at h1;show s.own j b l2 h1 h2
 .
  by_cases hm2:m=a
  . subst hm2;show .inl #[_,aA,trivial]
  .
   rcases s.live m hm with ⟨o,e,gr⟩ |e
   . show .inl #[o,by rw[az hm2];show e,gr]
   . show .inr e
 .
  have q:=s.keep b o e hb ht;have:b≠a:=λz2=>by
   subst z2;rcases s.own i b l hg e1 with w |w
   . show hb w.2
   . rw[w]at e;cases e
  rw[az this];show q
def S.iC(s:S z g Y As M H)(hb:i∉z.bor)(r:Rep z.K M H d v):∃aC,S z (g.set i (.dat d)) (Y.set i (!v)) aC M H:=by
 let(aC,h1,h2):=s.sl.iC r i;apply#[aC,h1,s.nd.sublist h2,λa ha=>s.sub a (h2.subset ha),λj b l h3 h4=>?_,s.live,s.keep,s.fX,s.m0,s.bm,λp hp=>?_,s.tab,s.tm,s.tt]
 rotate_left
 .
  have:i≠p.1:=λe=>hb (by rw[e];show u7 hp)
  rw[fI this,fI this];show s.gF p hp
 let(h5,h6):=gi h3;rw[fI (n0 h6)]at h4;show s.own j b l h5 h4
def Slots.oG{K:Frag}{a:Addr}{xs:List V}{l:List D}(h:H a=!(.lst xs))(r:aE K M H l xs){g:G}{Y:Sg}{As:List Addr}(i:Nat)(q:Slots K M H g Y As)(hi:i<g.length):∃aC,Slots K M H (g.set i (.own l)) (Y.set i (!(.ref a))) aC/\(∀b∈aC,b=a\/b∈As)/\(As.Nodup->a∉As->aC.Nodup):=by
 induction q generalizing i with
 |nil=>show absurd hi (w9 _)
 |no q ih=>cases i with
  |zero=>show#[_,.own h r q,λb hb=>dS.mp hb,λnd na=>hZ.mpr #[na,nd]]
  |succ i=>let(aC,h1,h2,h3):=ih i (B8 hi);show#[aC,.no h1,h2,h3]
 |dat r' q ih=>cases i with
  |zero=>show#[_,.own h r q,λb hb=>dS.mp hb,λnd na=>hZ.mpr #[na,nd]]
  |succ i=>let(aC,h1,h2,h3):=ih i (B8 hi);show#[aC,.dat r' h1,h2,h3]
 |@own g Y As c ys ds e r' q ih=>cases i with
  |zero=>show#[_,.own h r q,λb hb=>(dS.mp hb).imp id (bP _),λnd na=>hZ.mpr #[λz=>na (bP _ z),(hZ.mp nd).2]]
  |succ i=>let(aC,h1,h2,h3):=ih i (B8 hi);show#[c::aC,.own e r' h1,λb hb=>(dS.mp hb).elim (λz=>.inr (z▸dA)) λz=>(h2 b z).imp id (bP _),λnd na=>hZ.mpr #[λz=>(h2 c z).elim (λw=>na (w▸dA)) (hZ.mp nd).1,h3 (hZ.mp nd).2 λw=>na (bP _ w)]]
def S.oG(s:S z g Y As M H){i:Nat}{l:List D}{a:Addr}{xs:List V}(hb:i∉z.bor)(hi:i<g.length)(hm:a∈M)(hA:a∉As)(h0:z.H0 a=none)(h:H a=!(.lst xs))(r:aE z.K M H l xs):∃aC,S z (g.set i (.own l)) (Y.set i (!(.ref a))) aC M H:=by
 let(aC,h1,h2,h3):=s.sl.oG h r i hi;apply#[aC,h1,h3 s.nd hA,λb hb=>(h2 b hb).elim (λe=>e▸hm) (s.sub b),λj b l2 h4 h5=>?_,s.live,s.keep,s.fX,s.m0,s.bm,λp hp=>?_,s.tab,s.tm,s.tt]
 rotate_left
 .
  have:i≠p.1:=λe=>hb (by rw[e];show u7 hp)
  rw[fI this,fI this];show s.gF p hp
 by_cases hj:i=j
 .
  subst hj;rw[hV (by rw[<- s.sl.length];show hi)]at h5
  injection h5 with h5;injection h5 with h5;injection h5 with h5;subst h5;show .inr h0
 . rw[fI hj]at h4 h5;show s.own j b l2 h4 h5
end
meta abbrev Kn (z:Z) (g':G) (Y:Sg) (M:List Addr) (H:Hp) (r:R) (Q:VK):Prop:=
 ∀v H' aC M',S z g' Y aC M' H'->au M H M' H'->dh z g' Y aC M' H' r v->Q v H'
abbrev aB(X:Cx)(z:Z)(e:Expr)(g:G)(r:R)(g':G):Prop:=
 ∃t,PE X e t/\∀Y As M H Q,S z g Y As M H->Kn z g' Y M H r Q->t Y H Q
abbrev cJ(X:Cx)(z:Z)(e:Expr)(g:G)(b:Bool)(g':G):Prop:=
 ∃t,PT X e t/\∀Y As M H (Q:Bool->Hp->Prop),S z g Y As M H->(∀H' aC M',S z g' Y aC M' H'->au M H M' H'->Q b H')->t Y H Q
abbrev mS(X:Cx)(z:Z)(f:Value->Value->Sem Value)(d1 d2:D)(res:R):Prop:=
 ∃r:R2,lJ X f r/\∀g Y As M H v1 v2 Q,S z g Y As M H->Pk z.K M H d1 v1->Pk z.K M H d2 v2->Kn z g Y M H res Q->r v1 v2 H Q
abbrev ZR(X:Cx)(z:Z)(d1 d2:D)(res:R):Prop:=
 ∃r:R2,IxR X r/\∀g Y As M H v1 v2 Q,S z g Y As M H->Pk z.K M H d1 v1->Pk z.K M H d2 v2->Kn z g Y M H res Q->r v1 v2 H Q
abbrev UnD(X:Cx)(z:Z)(f:Value->Sem Value)(d:D)(res:R):Prop:=
 ∃r:V->Hp->VK->Prop,UnR X f r/\∀g Y As M H v Q,S z g Y As M H->Pk z.K M H d v->Kn z g Y M H res Q->r v H Q
abbrev pk:R->G->Option D
 |.dat d,_=>!d
 |.new _,_=>none
 |.var i,g=>match g[i]? with |!(.own l)=>!(.lst l) |!(.dat (.lst l))=>!(.lst l) |_=>none
section
def S.pk(s:S z g2 Y As M2 H2)(st:au M1 H1 M2 H2)(q:dh z g1 Y aL M1 H1 r v)(h:pk r g2=!d):Pk z.K M2 H2 d v:=by
 cases r with
 |dat d'=>have e:d'=d:=mP h;subst e;show .of (Rep.stay st q)
 |new l=>symm
 |var i=>
  let(l,h1,h2):=q;delta Ev.pk at h;dsimp only at h;split at h
  . ext l' hg;have e:=mP h;subst e;let(a,xs,e1,e2,e3,e4):=s.sl.at hg;rw[h2]at e1;injection e1 with e1;injection e1 with e1;subst e1;show .lst e3 e4
  . ext l' hg;have e:=mP h;subst e;let(w,e1,e2):=s.sl.oF hg;rw[h2]at e1;injection e1 with e1;injection e1 with e1;show .of (e1▸e2)
  . symm
def Uj{i j}:aB X z (.Constant (.int i) j pos) g ‹i› g:=#[_,Te,λY As M H Q s k=>k _ _ _ _ s (au.refl _ _) (.int i)]
def ZS{i j}:aB X z (.Constant (.bool i) j pos) g (.dat (.bl i)) g:=#[_,Y9,λY As M H Q s k=>k _ _ _ _ s (au.refl _ _) (.bl i)]
def Uk{j}:aB X z (.Constant .none j pos) g (.dat .non) g:=#[_,GC,λY As M H Q s k=>k _ _ _ _ s (au.refl _ _) .non]
def Ul{x j}:aB X z (.Constant (.str x) j pos) g (.dat (.str x)) g:=#[_,Tf,λY As M H Q s k=>k _ _ _ _ s (au.refl _ _) (.str x)]
def Um{i:Nat}{x:Str}(hN:X.N[i]?=!x)(hv:kj X.env.scope x)(hd:(x==(~~~3))=false)(cP:(x==("__classdict__":Str))=false)(hg:g[i]?=!(.dat d)):aB X z (.Name x pos) g (.dat d) g:=
 #[_,dB hN hv hd cP,λY As M H Q s k=>let #[v,e,r]:=s.sl.oF hg;#[v,e,k v H As M s (au.refl _ _) r]]
def M7(hN:X.N[i]?=!x)(hv:kj X.env.scope x)(hd:(x==(~~~3))=false)(cP:(x==("__classdict__":Str))=false)(hg:g[i]?=!(.own l)):aB X z (.Name x pos) g (.var i) g:=
 #[_,dB hN hv hd cP,λY As M H Q s k=>let #[a,xs,e,r]:=s.sl.at hg;#[_,e,k _ H As M s (au.refl _ _) #[l,hg,e]]]
def M8(hg:Gl X x)(hm:X.mg x=!u)(r:RelV v u)(hr:∀M H,Rep z.K M H d v)(hd:(x==(~~~3))=false):aB X z (.Name x pos) g (.dat d) g:=
 #[_,Am hg hm r hd,λY As M H Q s k=>k _ H As M s (au.refl _ _) (hr M H)]
def oH(h:aB X z e g (.new l) g'):aB X z e g (.dat (.lst l)) g':=by
 let(t,p,q):=h;apply#[t,p,λY As M H Q s k=>q Y As M H Q s λv H' aC M' s' st r=>?_]
 let(a,xs,rfl,hm,hA,h0,ha,rr):=r;have hM:∀m∈(M'.filter λm=>decide (m≠a)),m∈M':=λm hm=>(i4.mp hm).1
 have na:a∉(M'.filter λm=>decide (m≠a)):=λhm=>by
  have:=(i4.mp hm).2;simp at this
 show k _ H' aC _ (s'.drop h0 hA) (st.trans (au.less hM)) (.lst #[na,ha] (rr.stay (au.less hM)))
def Dp(h:aB X z e g (.var i) g1)(hg:g1[i]?=!(.own l))(hb:i∉z.bor):aB X z e g (.dat (.lst l)) (g1.set i (.dat (.lst l))):=by
 let(t,p,q):=h;apply#[t,p,λY As M H Q s k=>q Y As M H Q s λv H' aC M' s' st r=>?_]
 let(l',h1,h2):=r;let(bu,M2,s2,aI):=s'.freeze hg hb;have hi:=(dE.mp hg).1;let(v',e1,e2):=s2.sl.oF (by rw[hV hi])
 rw[h2]at e1;injection e1 with e1;injection e1 with e1;subst e1;show k _ H' bu M2 s2 (st.trans aI) e2
def Uo(h1:aB X z a g r1 g1)(h2:aB X z b g1 r2 g2)(p1:pk r1 g2=!d1)(p2:pk r2 g2=!d2)(ho:mS X z (binaryOp op) d1 d2 r):aB X z (.BinOp a op b pos) g r g2:=by
 let(t1,q1,k1):=h1;let(t2,q2,k2):=h2;let(rr,o,ko):=ho;show#[_,Zo o q1 q2,λY As M H Q s k=>k1 Y As M H _ s λv1 H1 aL M1 s1 dz R1=>k2 Y aL M1 H1 _ s1 λv2 H2 bu M2 s2 aI R2=>
  ko g2 Y bu M2 H2 v1 v2 Q s2 (s2.pk aI R1 p1) (s2.pk (au.refl _ _) R2 p2) λv H' aC M' s' st' R'=>k v H' aC M' s' (dz.trans (aI.trans st')) R']
def Up(h1:aB X z a g r1 g1)(h2:aB X z b g1 r2 g2)(p1:pk r1 g2=!d1)(p2:pk r2 g2=!d2)(ho:mS X z (compareOp op) d1 d2 r)(hm:behindInMarks op b=false):aB X z (.Compare a [op] [b] pos) g r g2:=by
 let(t1,q1,k1):=h1;let(t2,q2,k2):=h2;let(rr,o,ko):=ho;show#[_,Mq o q1 q2 hm,λY As M H Q s k=>k1 Y As M H _ s λv1 H1 aL M1 s1 dz R1=>k2 Y aL M1 H1 _ s1 λv2 H2 bu M2 s2 aI R2=>
  ko g2 Y bu M2 H2 v1 v2 Q s2 (s2.pk aI R1 p1) (s2.pk (au.refl _ _) R2 p2) λv H' aC M' s' st' R'=>k v H' aC M' s' (dz.trans (aI.trans st')) R']
def ZT(h1:aB X z a g r1 g1)(h2:aB X z b g1 r2 g2)(p1:pk r1 g2=!d1)(p2:pk r2 g2=!d2)(ho:ZR X z d1 d2 r)(hs:tU b):aB X z (.Subscript a b pos) g r g2:=by
 let(t1,q1,k1):=h1;let(t2,q2,k2):=h2;let(rr,o,ko):=ho;show#[_,Rx o q1 q2 hs,λY As M H Q s k=>k1 Y As M H _ s λv1 H1 aL M1 s1 dz R1=>k2 Y aL M1 H1 _ s1 λv2 H2 bu M2 s2 aI R2=>
  ko g2 Y bu M2 H2 v1 v2 Q s2 (s2.pk aI R1 p1) (s2.pk (au.refl _ _) R2 p2) λv H' aC M' s' st' R'=>k v H' aC M' s' (dz.trans (aI.trans st')) R']
def ZV(h1:aB X z a g r1 g1)(p1:pk r1 g1=!d1)(ho:UnD X z (unaryOp op) d1 r):aB X z (.UnaryOp op a pos) g r g1:=by let(t1,q1,k1):=h1;let(rr,o,ko):=ho;show#[_,Zq o q1,λY As M H Q s k=>k1 Y As M H _ s λv1 H1 aL M1 s1 dz R1=>ko g1 Y aL M1 H1 v1 Q s1 (s1.pk (au.refl _ _) R1 p1) λv H' aC M' s' st' R'=>k v H' aC M' s' (dz.trans st') R']
def gj(q:dh z g Y As M H (.dat (.bl c)) v):v=.bl c:=by have q':=q;cases q';rfl
def Uq(h1:aB X z a g r1 g1)(h2:aB X z b g1 r2 g2)(p1:pk r1 g2=!d1)(p2:pk r2 g2=!d2)(ho:mS X z (compareOp op) d1 d2 (.dat (.bl c)))(hm:behindInMarks op b=false):cJ X z (.Compare a [op] [b] pos) g c g2:=by
 let(t1,q1,k1):=h1;let(t2,q2,k2):=h2;let(rr,o,ko):=ho;show#[_,Mr o q1 q2 hm,λY As M H Q s k=>k1 Y As M H _ s λv1 H1 aL M1 s1 dz R1=>k2 Y aL M1 H1 _ s1 λv2 H2 bu M2 s2 aI R2=>
  ko g2 Y bu M2 H2 v1 v2 _ s2 (s2.pk aI R1 p1) (s2.pk (au.refl _ _) R2 p2) λv H' aC M' s' st' R'=>#[c,gj R',k H' aC M' s' (dz.trans (aI.trans st'))]]
def Ur(h:cJ X z a g c g'):cJ X z (.UnaryOp .Not a pos) g ((not c)) g':=by let(t,q,k):=h;show#[_,GD q,λY As M H Q s kk=>k Y As M H _ s λH' aC M' s' st=>kk H' aC M' s' st]
abbrev nq(X:Cx)(z:Z)(e:Expr)(g:G)(b:Bool)(g':G):Prop:=
 ∃t,PW X e t/\∀Y As M H (Q:Bool->Hp->Prop),S z g Y As M H->(∀H' aC M',S z g' Y aC M' H'->au M H M' H'->Q b H')->t Y H Q
def nq.tr(h:nq X z e g c g'):cJ X z e g c g':=let #[t,q,k]:=h;#[t,q.pt,k]
def M9(h:cJ X z a g c g'):nq X z (.BoolOp .And [a] pos) g c g':=let #[t,q,k]:=h;#[t,pw_and1 q,k]
def Us(h:cJ X z a g c g'):nq X z (.BoolOp .Or [a] pos) g c g':=let #[t,q,k]:=h;#[t,pw_or1 q,k]
abbrev tNo:TT:=λ_ _ _=>False
def pw_never:PW X e tNo:=λ_ _ _ _ _ _ _ h=>h.elim
def kM:PE X e (λ_ _ _=>False):=λ_ _ _ _ _ _ h=>h.elim
def Nc{rest:List Expr}(h:cJ X z a g false g1):nq X z (.BoolOp .And (a::b::rest) pos) g false g1:=by let(t,q,k):=h;show#[_,pw_and q pw_never,λY As M H Q s kk=>k Y As M H _ s λH' aC M' s' st=>lR (kk H' aC M' s' st)]
def Ng{rest:List Expr}{c:Bool}(h:cJ X z a g true g1)(h2:nq X z (.BoolOp .And (b::rest) pos) g1 c g2):nq X z (.BoolOp .And (a::b::rest) pos) g c g2:=by let(t,q,k):=h;let(t2,q2,k2):=h2;show#[_,pw_and q q2,λY As M H Q s kk=>k Y As M H _ s λH' aC M' s' st=>jr (k2 Y aC M' H' Q s' λH2 bu M2 s2 aI=>kk H2 bu M2 s2 (st.trans aI))]
def Ut{rest:List Expr}(h:cJ X z a g true g1):nq X z (.BoolOp .Or (a::b::rest) pos) g true g1:=by let(t,q,k):=h;show#[_,pw_or q pw_never,λY As M H Q s kk=>k Y As M H _ s λH' aC M' s' st=>jr (kk H' aC M' s' st)]
def Uu{rest:List Expr}{c:Bool}(h:cJ X z a g false g1)(h2:nq X z (.BoolOp .Or (b::rest) pos) g1 c g2):nq X z (.BoolOp .Or (a::b::rest) pos) g c g2:=by let(t,q,k):=h;let(t2,q2,k2):=h2;show#[_,pw_or q q2,λY As M H Q s kk=>k Y As M H _ s λH' aC M' s' st=>lR (k2 Y aC M' H' Q s' λH2 bu M2 s2 aI=>kk H2 bu M2 s2 (st.trans aI))]
def Hl(h:aB X z a g r g'):aB X z (.BoolOp op [a] pos) g r g':=let #[t,q,k]:=h;#[t,Tp q,k]
def Nh{rest:List Expr}(h:aB X z a g (.dat (.bl false)) g1):aB X z (.BoolOp .And (a::b::rest) pos) g (.dat (.bl false)) g1:=by let(t,q,k):=h;show#[_,GF q kM,λY As M H Q s kk=>k Y As M H _ s λv H' aC M' s' st R=>#[false,gj R,lR (kk _ H' aC M' s' st (.bl false))]]
def Ni{rest:List Expr}(h:aB X z a g (.dat (.bl true)) g1)(h2:aB X z (.BoolOp .And (b::rest) pos) g1 r g2):aB X z (.BoolOp .And (a::b::rest) pos) g r g2:=by let(t,q,k):=h;let(t2,q2,k2):=h2;show#[_,GF q q2,λY As M H Q s kk=>k Y As M H _ s λv H' aC M' s' st R=>#[true,gj R,jr (k2 Y aC M' H' Q s' λv2 H2 bu M2 s2 aI=>kk v2 H2 bu M2 s2 (st.trans aI))]]
def Uv{rest:List Expr}(h:aB X z a g (.dat (.bl true)) g1):aB X z (.BoolOp .Or (a::b::rest) pos) g (.dat (.bl true)) g1:=by let(t,q,k):=h;show#[_,Rt q kM,λY As M H Q s kk=>k Y As M H _ s λv H' aC M' s' st R=>#[true,gj R,jr (kk _ H' aC M' s' st (.bl true))]]
def Uw{rest:List Expr}(h:aB X z a g (.dat (.bl false)) g1)(h2:aB X z (.BoolOp .Or (b::rest) pos) g1 r g2):aB X z (.BoolOp .Or (a::b::rest) pos) g r g2:=by let(t,q,k):=h;let(t2,q2,k2):=h2;show#[_,Rt q q2,λY As M H Q s kk=>k Y As M H _ s λv H' aC M' s' st R=>#[false,gj R,lR (k2 Y aC M' H' Q s' λv2 H2 bu M2 s2 aI=>kk v2 H2 bu M2 s2 (st.trans aI))]]
def Ux(h:aB X z a g (.dat (.bl c)) g1):aB X z (.UnaryOp .Not a pos) g (.dat (.bl ((not c)))) g1:=by let(t,q,k):=h;show#[_,Tq q,λY As M H Q s kk=>k Y As M H _ s λv H' aC M' s' st R=>#[c,gj R,kk _ H' aC M' s' st (.bl _)]]
def Uy(h:cJ X z c g true g1)(h2:aB X z a g1 r g2):aB X z (.IfExp c a b pos) g r g2:=by let(t,q,k):=h;let(t2,q2,k2):=h2;show#[_,vo q q2 kM,λY As M H Q s kk=>k Y As M H _ s λH' aC M' s' st=>jr (k2 Y aC M' H' Q s' λv2 H2 bu M2 s2 aI=>kk v2 H2 bu M2 s2 (st.trans aI))]
def Uz(h:cJ X z c g false g1)(h2:aB X z b g1 r g2):aB X z (.IfExp c a b pos) g r g2:=by let(t,q,k):=h;let(t2,q2,k2):=h2;show#[_,vo q kM q2,λY As M H Q s kk=>k Y As M H _ s λH' aC M' s' st=>lR (k2 Y aC M' H' Q s' λv2 H2 bu M2 s2 aI=>kk v2 H2 bu M2 s2 (st.trans aI))]
inductive jN(z:Z)(Y:Sg)(M:List Addr)(H:Hp):List R->List V->Prop
 |nil:jN z Y M H [] []
 |dat {d:D}{v:V}{rs:List R}{vs:List V}:Rep z.K M H d v->jN z Y M H rs vs->jN z Y M H (.dat d::rs) (v::vs)
 |var {i:Nat}{v:V}{rs:List R}{vs:List V}:Y[i]?=!(!v)->jN z Y M H rs vs->jN z Y M H (.var i::rs) (v::vs)
abbrev cT(X:Cx)(z:Z)(es:List Expr)(g:G)(rs:List R)(g':G):Prop:=
 ∃t,PA X es t/\∀Y As M H (Q:List V->Hp->Prop),S z g Y As M H->(∀vs H' aC M',S z g' Y aC M' H'->au M H M' H'->jN z Y M' H' rs vs->Q vs H')->t Y H Q
def d9:cT X z [] g [] g:=#[_,fS,λY As M H Q s k=>k [] H As M s (au.refl _ _) .nil]
def dF(h:aB X z e g (.dat d) g1)(h2:cT X z es g1 rs g2)(hs:starEach (e::es) X.env=(false,eval e X.env)::starEach es X.env):cT X z (e::es) g (.dat d::rs) g2:=by let(t,q,k):=h;let(t2,q2,k2):=h2;show#[_,bI q q2 hs,λY As M H Q s kk=>k Y As M H _ s λv H' aC M' s' st R=>k2 Y aC M' H' _ s' λvs H2 bu M2 s2 aI R2=>kk _ H2 bu M2 s2 (st.trans aI) (.dat (Rep.stay aI R) R2)]
def Ho(h:aB X z e g (.var i) g1)(h2:cT X z es g1 rs g2)(hs:starEach (e::es) X.env=(false,eval e X.env)::starEach es X.env):cT X z (e::es) g (.var i::rs) g2:=by let(t,q,k):=h;let(t2,q2,k2):=h2;show#[_,bI q q2 hs,λY As M H Q s kk=>k Y As M H _ s (by rintro v H' aC M' s' st ⟨_,_,R⟩;show k2 Y aC M' H' _ s' λvs H2 bu M2 s2 aI R2=>kk _ H2 bu M2 s2 (st.trans aI) (.var R R2))]
inductive Nj(K:Frag)(M:List Addr)(H:Hp):List D->List V->Prop
 |nil:Nj K M H [] []
 |cons {d:D}{v:V}{ds:List D}{vs:List V}:Pk K M H d v->Nj K M H ds vs->Nj K M H (d::ds) (v::vs)
abbrev vL:List R->G->Option (List D)
 | [],_=>![]
 |r::rs,g=>match pk r g,vL rs g with
  |!d,!ds=>!(d::ds)
  |_,_=>none
def S.vL(s:S z g Y As M H)(q:jN z Y M H rs vs)(e:vL rs g=!ds):Nj z.K M H ds vs:=by
 induction q generalizing ds with
 |nil=>cases e;show .nil
 |@dat d v rs vs r q ih=>
  delta Ev.vL at e;cases e2:Ev.vL rs g with
  |none=>rw[e2]at e;cases e
  |some ds=>rw[e2]at e;cases e;show .cons (.of r) (ih e2)
 |@var i v rs vs r q ih=>
  delta Ev.vL at e;cases e1:Ev.pk (.var i) g with
  |none=>rw[e1]at e;cases e
  |some d=>
   cases e2:Ev.vL rs g with
   |none=>rw[e1,e2]at e;cases e
   |some ds=>
    rw[e1,e2]at e;cases e;delta Ev.pk at e1;dsimp only at e1;split at e1
    . ext l hg;cases e1;let(a,xs,h1,h2,h3,h4):=s.sl.at hg;rw[r]at h1;injection h1 with h1;injection h1 with h1;subst h1;show .cons (.lst h3 h4) (ih e2)
    . ext l hg;cases e1;let(w,h1,h2):=s.sl.oF hg;rw[r]at h1;injection h1 with h1;injection h1 with h1;show .cons (.of (h1▸h2)) (ih e2)
    . cases e1
abbrev vM:List R->Option (List D)
 | []=>![]
 |.dat d::rs=>match vM rs with |some ds=>!(d::ds) |none=>none
 |_::_=>none
def Bb(q:jN z Y M H rs vs)(e:vM rs=!ds):aE z.K M H ds vs:=by
 induction q generalizing ds with
 |nil=>cases e;show .nil
 |@dat d v rs vs r q ih=>
  delta vM at e;cases e2:vM rs with
  |none=>rw[e2]at e;cases e
  |some ds=>rw[e2]at e;cases e;show .cons r (ih e2)
 |var _ _ _=>cases e
def oJ(h:n<=16777216):n<=sizeLine:=by rw[sB];show h
def UG{x1}(h:cT X z es g rs g')(hd:vM rs=!ds)(hl:ds.length<=16777216):aB X z (.Tuple es x1 pos) g (.dat (.tup ds)) g':=by
 let(t,q,k):=h;apply#[_,G3 q,λY As M H Q s kk=>k Y As M H _ s λvs H' aC M' s' st R=>?_]
 have rr:=Bb R hd;apply#[by rw[<- rr.length];show oJ hl,λp hp=>kk _ _ aC M' (s'.laid hp) (st.trans (au.laid hp)) (.tup (.inl #[s'.fresh hp,.inl aA]) (rr.stay (au.laid hp)))]
def UJ(h:cT X z es g rs g')(hd:vM rs=!ds)(hl:ds.length<=16777216):aB X z (.List es pos) g (.new ds) g':=by
 let(t,q,k):=h;apply#[_,G4 q,λY As M H Q s kk=>k Y As M H _ s λvs H' aC M' s' st R=>?_]
 have rr:=Bb R hd;apply#[by rw[<- rr.length];show oJ hl,λp hp=>kk _ _ aC (p::M') (s'.aN hp) (st.trans (au.aN hp)) #[p,vs,rfl,dA,λhA=>s'.fresh hp (s'.sub p hA),s'.cC hp,aA,rr.stay (au.aN hp)]]
abbrev CallD(X:Cx)(z:Z)(f:Value)(ds:List D)(res:R):Prop:=
 ∃r,eF X f r/\∀g Y As M H vs Q,S z g Y As M H->Nj z.K M H ds vs->Kn z g Y M H res Q->r vs H Q
def Hq{x:Str}{id:String}{p:Pos}{es:List Expr}{rs:List R}{ds:List D}(h:cT X z (e::es) g rs g')(hp:vL rs g'=!ds)(hc:CallD X z (.builtin id) ds r)(hg:Gl X x)(hm:X.mg x=none)(hv:bootBuiltins x=!(.builtin id))(hn:x≠ "__name__")(ku:(x==(~~~3))=false)
  (he:starEach (e::es) X.env=(false,eval e X.env)::starEach es X.env) (ig:(backTo pos (starEach es X.env)).any (·.1)=false):aB X z (.Call (.Name x p) (e::es) [] pos) g r g':=by
 let(t,q,k):=h;let(rr,c,kc):=hc;show#[_,iA c hg hm hv q hn ku he ig,λY As M H Q s kk=>k Y As M H _ s λvs H' aC M' s' st R=>kc g' Y aC M' H' vs Q s' (s'.vL R hp) λv H2 bu M2 s2 aI R2=>kk v H2 bu M2 s2 (st.trans aI) R2]
def Dq(h:cT X z (e::es) g rs g')(hp:vL rs g'=!ds)(hc:CallD X z (.type T) ds r)(hg:Gl X x)(hm:X.mg x=none)(hv:bootBuiltins x=!(.type T))(hn:x≠ "__name__")(ku:(x==(~~~3))=false)
  (he:starEach (e::es) X.env=(false,eval e X.env)::starEach es X.env) (ig:(backTo pos (starEach es X.env)).any (·.1)=false):aB X z (.Call (.Name x p) (e::es) [] pos) g r g':=by
 let(t,q,k):=h;let(rr,c,kc):=hc;show#[_,Dg c hg hm hv q hn ku he ig,λY As M H Q s kk=>k Y As M H _ s λvs H' aC M' s' st R=>kc g' Y aC M' H' vs Q s' (s'.vL R hp) λv H2 bu M2 s2 aI R2=>kk v H2 bu M2 s2 (st.trans aI) R2]
end
mutual
abbrev bV:D->D->Bool
 |.non,.non=>true
 |.bl a,.bl b=>a==b
 |.bl a,.int j=>(if a then 1 else 0)==j
 |.int i,.bl b=>i==(if b then 1 else 0)
 |.int i,.int j=>i==j
 |.str x,.str y=>x==y
 |.tup l,.tup m=>dc l m
 |.lst l,.lst m=>dc l m
 |.lst l,.fix m=>dc l m
 |.fix l,.lst m=>dc l m
 |.fix l,.fix m=>dc l m
 |_,_=>false
abbrev dc:List D->List D->Bool
 | [],[]=>true
 |a::l,b::m=>bV a b&&dc l m
 |_,_=>false
end
mutual
abbrev dep:D->Nat
 |.tup l=>deps l+1
 |.lst l=>deps l+1
 |.fix l=>deps l+1
 |_=>0
abbrev deps:List D->Nat
 | []=>0
 |d::l=>max (dep d) (deps l)
end
mutual
abbrev fM:D->Bool
 |.tup l=>dR l
 |.lst l=>dR l
 |.fix l=>dR l
 |.emp=>false
 |.nj _=>false
 |.Lp ..=>false
 |_=>true
abbrev dR:List D->Bool
 | []=>true
 |d::l=>fM d&&dR l
end
mutual
inductive Dv(h:Heap):D->Value->Prop
 |non:Dv h .non .none
 |bl (b:Bool):Dv h (.bl b) (.bool b)
 |int (i:Int) (t:Tok):Dv h (.int i) (.int i t)
 |str (x:Str) (t:Tok):Dv h (.str x) (.str x t)
 |tup {l:List D}{a:Addr}{us:List Value}:IsTup h a us.toArray->jO h l us->Dv h (.tup l) (.ref a)
 |lst {l:List D}{a:Addr}{us:List Value}:h.IsList a us.toArray->jO h l us->Dv h (.lst l) (.ref a)
 |fix {l:List D}{a:Addr}{us:List Value}:h.IsList a us.toArray->jO h l us->Dv h (.fix l) (.ref a)
inductive jO(h:Heap):List D->List Value->Prop
 |nil:jO h [] []
 |cons {d:D}{ds:List D}{u:Value}{us:List Value}:Dv h d u->jO h ds us->jO h (d::ds) (u::us)
end
section
def Rep.dv2(I: ~~~7)(q:Rep X.K M H d v):∀u,RelV v u->fM d=true->Dv s.heap d u:=by
 apply Rep.rec (motive_2:=λds vs _=>∀us,Vals vs us->dR ds=true->jO s.heap ds us) ?_ ?_ ?_ ?_ ?_ ?_ ?_ ?_ ?_ ?_ ?_ ?_ q
 . intro u r _;cases r;show .non
 . intro b u r _;cases r;show .bl b
 . intro i u r _;let(t,rfl):=r;show .int i t
 . intro x u r _;let(t,rfl):=r;show .str x t
 . intro l a xs h _ ih u r p;cases r;let(its,rv,ht,hz):=I.tuple h.sq;show .tup ht (ih _ rv p)
 . intro l a xs h _ ih u r p;cases r;let(its,rv,ht,hz):=I.list (cQ.of h.2);show .lst ht.isList (ih _ rv p)
 . intro l a xs h _ ih u r p;cases r;let(its,rv,ht,hz):=I.list h.sq;show .fix ht.isList (ih _ rv p)
 . intro a _ _ u _ p;show Bool.noConfusion (show false=true from p)
 . intro C a _ _ _ u _ p;show Bool.noConfusion (show false=true from p)
 . intro ks ds a vs _ _ _ _ _ u _ p;show Bool.noConfusion (show false=true from p)
 . intro us r _;cases r;show .nil
 .
  intro d ds x xs _ _ i1 i2 us r p;cases r with
  |cons r1 r2=>have p:(fM d&&dR ds)=true:=p;rw[fN]at p;show .cons (i1 _ r1 p.1) (i2 _ r2 p.2)
def Rep.dv(I: ~~~7)(q:Rep X.K M H d v)(r:RelV v u)(p:fM d=true):Dv s.heap d u:=q.dv2 I u r p
def aE.dv(I: ~~~7)(q:aE X.K M H ds vs)(r:Vals vs us)(p:dR ds=true):jO s.heap ds us:=by
 induction ds generalizing vs us with
 |nil=>cases q;cases r;show .nil
 |cons d ds ih=>cases q with |cons q1 q2=>cases r with |cons r1 r2=>have p:(fM d&&dR ds)=true:=p;rw[fN]at p;show .cons (q1.dv I r1 p.1) (ih q2 r2 p.2)
def Pk.dv(I: ~~~7)(h:Pk X.K M H d v)(r:RelV v u)(p:fM d=true):Dv s.heap d u:=by
 cases h with
 |of q=>show q.dv I r p
 |lst h q=>cases r;let(its,rv,ht,hz):=I.list (cQ.of h);show .lst ht.isList (aE.dv I q rv (by simpa [fM]using p))
end
def jO.length(q:jO h l us):l.length=us.length:=by
 induction l generalizing us with
 |nil=>cases q;rfl
 |cons d l ih=>cases q with |cons a b=>show congrArg (· + 1) (ih b)
def rQ{h:Heap}{a:Addr}{us ws:List Value}(x:IsTup h a us.toArray)(y:IsTup h a ws.toArray):us=ws:=by let(o,e,_,n,d):=x;let(o',e',_,n',d'):=y;rw[e]at e';cases e';rw[d]at d';injection d' with d1 _;simpa using congrArg Array.toList d1
def bW{h:Heap}{a:Addr}{us ws:List Value}(x:h.IsList a us.toArray)(y:h.IsList a ws.toArray):us=ws:=by let(o,e,_,n,d):=x;let(o',e',_,n',d'):=y;rw[e]at e';cases e';rw[d]at d';injection d' with d1 _;simpa using congrArg Array.toList d1
def dU(x:IsTup h a us)(y:h.IsList a ws):False:=by let(o,e,c,_):=x;let(o',e',c',_):=y;rw[e]at e';cases e';rw[c]at c';show absurd c' ⋯
def Hr{h:Heap}{d1:D}{u:Value}(q:Dv h d1 u):∀d2,Dv h d2 u->bV d1 d2=true:=by
 apply Dv.rec (motive_2:=λl us _=>∀m,jO h m us->dc l m=true) ?_ ?_ ?_ ?_ ?_ ?_ ?_ ?_ ?_ q
 . intro d2 q;cases q;rfl
 . intro b d2 q;cases q;show CM b
 . intro i t d2 q;cases q;show CM i
 . intro x t d2 q;cases q;show CM x
 .
  intro l a us x _ ih d2 q;cases q with
  |tup y q'=>cases rQ x y;show ih _ q'
  |lst y _=>show (dU x y).elim
  |fix y _=>show (dU x y).elim
 .
  intro l a us x _ ih d2 q;cases q with
  |tup y _=>show (dU y x).elim
  |lst y q'=>cases bW x y;show ih _ q'
  |fix y q'=>cases bW x y;show ih _ q'
 .
  intro l a us x _ ih d2 q;cases q with
  |tup y _=>show (dU y x).elim
  |lst y q'=>cases bW x y;show ih _ q'
  |fix y q'=>cases bW x y;show ih _ q'
 . intro m q;cases q;rfl
 .
  intro d ds u us _ _ i1 i2 m q;cases q with
  |@cons d' m _ _ b q'=>exact (bV d d'&&dc ds m)=true;rw[i1 _ b,i2 _ q'];rfl
def Nk(q:Dv h d1 u)(q':Dv h d2 u):bV d1 d2=true:=Hr q d2 q'
abbrev RL(l m:List D)(j:Nat):Bool:=match l[j]?,m[j]? with |!a,!b=>bV a b |_,_=>false
def oK(l m:List D)(h:l.length=m.length):(List.range l.length).all (RL l m)=dc l m:=by
 induction l generalizing m with
 |nil=>cases m with
  |nil=>rfl
  |cons _ _=>symm
 |cons a l ih=>cases m with
  |nil=>symm
  |cons b m=>rw[i9,List.range_succ_eq_map,List.all_cons,List.all_map];have e:(RL (a::l) (b::m) ∘ Nat.succ)=RL l m:=rfl;rw[e,ih m (CI h)];rfl
def oM(l m:List D)(h:l.length≠m.length):dc l m=false:=by
 induction l generalizing m with
 |nil=>cases m with
  |nil=>show absurd rfl h
  |cons _ _=>rfl
 |cons a l ih=>cases m with
  |nil=>rfl
  |cons b m=>exact (bV a b&&dc l m)=false;rw[ih m (λe=>h (congrArg (· + 1) e)),CF]
def vN(l m:List D):((List.range (min l.length m.length)).all (RL l m)&&l.length==m.length)=dc l m:=by
 by_cases h:l.length=m.length
 . rw[h,Nat.min_self,<- h,oK l m h];simp
 .
  rw[oM l m h];have:(l.length==m.length)=false:=by simpa using h
  rw[this,CF]
def oN{l:List D}{j:Nat}{d:D}(e:l[j]?=!d):dep d<=deps l:=by
 induction l generalizing j with
 |nil=>show nomatch (show none=!d from e)
 |cons d' l ih=>cases j with
  |zero=>cases (show some d'=!d from e);show Nat.le_max_left _ _
  |succ j=>show l7 (ih (show l[j]?=!d from e)) (Nat.le_max_right _ _)
def jO.get{h:Heap}{l:List D}{us:List Value}{j:Nat}{u:Value}(q:jO h l us)(e:us[j]?=!u):∃d,l[j]?=!d/\Dv h d u:=by
 induction l generalizing us j with
 |nil=>cases q;show nomatch (show none=!u from e)
 |cons d' l ih=>cases q with |@cons _ _ u' us a b=>cases j with
  |zero=>cases (show some u'=!u from e);show#[_,rfl,a]
  |succ j=>let(d,h):=ih b e;show#[d,h]
def in1_units(A:Around):A.in1.units=A.units+1:=rfl
section
def kN(hl:s.heap.IsList l us.toArray)(hb:s.heap.IsList b ws.toArray)(q:jO s.heap ls us)(q':jO s.heap ms ws)(hu:A.units<cLine)
  (he:∀(j:Nat) d1 d2 u1 u2,ls[j]?=!d1->Dv s.heap d1 u1->Dv s.heap d2 u2->SeqAt.EqAt A.in1 s u1 u2 (bV d1 d2)):SeqAt.RcAt A s (.ref l) (.ref b) (dc ls ms):=by
 have h1:=q.length;have h2:=q'.length;by_cases h:ls.length=ms.length
 .
  rw[<- oK ls ms h];have e:us.toArray.size=ls.length:=by rw[dL,h1]
  rw[<- e];apply SeqAt.RcAt.lists hl hb (by rw[dL,dL];lia) hu λj g1 g2=>?_
  let(d1,e1,v1):=q.get (j:=j) (u:=us[j]) (by simp[g1])
  let(d2,e2,v2):=q'.get (j:=j) (u:=ws[j]) (by simp[g2])
  have:=he j d1 d2 us[j] ws[j] e1 v1 v2;simpa [RL,e1,e2]using this
 . rw[oM ls ms h];apply SeqAt.RcAt.lists_lengths hl hb ?_ hu;rw[dL,dL];lia
def Dr(hl:IsTup s.heap l us.toArray)(hb:IsTup s.heap b ws.toArray)(q:jO s.heap ls us)(q':jO s.heap ms ws)(hu:A.units<cLine)
  (he:∀(j:Nat) d1 d2 u1 u2,ls[j]?=!d1->Dv s.heap d1 u1->Dv s.heap d2 u2->SeqAt.EqAt A.in1 s u1 u2 (bV d1 d2)):SeqAt.RcAt A s (.ref l) (.ref b) (dc ls ms):=by
 have h1:=q.length;have h2:=q'.length;have e:us.toArray.size=ls.length:=by rw[dL,h1]
 have e':ws.toArray.size=ms.length:=by rw[dL,h2]
 rw[<- vN,<- e,<- e'];apply SeqAt.RcAt.tuples hl hb hu λj g1 g2=>?_
 let(d1,e1,v1):=q.get (j:=j) (u:=us[j]) (by simp[g1])
 let(d2,e2,v2):=q'.get (j:=j) (u:=ws[j]) (by simp[g2])
 have:=he j d1 d2 us[j] ws[j] e1 v1 v2;simpa [RL,e1,e2]using this
def iD(x:Dv s.heap d1 (.ref l))(y:Dv s.heap d2 (.ref b))(h:SeqAt.RcAt A s (.ref l) (.ref b) (bV d1 d2)):SeqAt.EqAt A s (.ref l) (.ref b) (bV d1 d2):=by
 by_cases e:l=b
 . subst e;rw[Nk x y];show .same _
 . show .of_refs e h
end
def rR{s:Shared}:∀(n:Nat) {d1 d2:D}{u1 u2:Value}{A:Around},dep d1<=n->Dv s.heap d1 u1->Dv s.heap d2 u2->A.units+n<cLine->SeqAt.EqAt A s u1 u2 (bV d1 d2)/\SeqAt.RcAt A s u1 u2 (bV d1 d2):=by
 intro n
 induction n using Nat.strongRecOn with
 |ind n ih=>
  intro d1 d2 u1 u2 A hn x y hu;have aY:A.units<cLine:=by lia
  have el:∀{l:List D},deps l+1<=n->∀(j:Nat) d1 d2 u1 u2,l[j]?=!d1->Dv s.heap d1 u1->Dv s.heap d2 u2->SeqAt.EqAt A.in1 s u1 u2 (bV d1 d2):=λhl j d1 d2 u1 u2 e v1 v2=>
   (ih (n - 1) ⋯ (l7 (oN e) ⋯) v1 v2 (by rw[in1_units];lia)).1
  cases x with
  |@tup l0 a0 us0 h q=>
   have hn':deps l0+1<=n:=hn;have x:=Dv.tup h q;cases y with
   |tup h' q'=>have r:=Dr h h' q q' aY (el hn');show#[iD x (.tup h' q') r,r]
   |lst h' q'=>show#[.tuple_list h h' aY,.tuple_list h h' aY]
   |fix h' q'=>show#[.tuple_list h h' aY,.tuple_list h h' aY]
   |non=>show#[.tuple_none h aY,.tuple_none h aY]
   |bl b=>show#[.tuple_bool b h aY,.tuple_bool b h aY]
   |int b t=>show#[.tuple_int b t h aY,.tuple_int b t h aY]
   |str b t=>show#[.tuple_str b t h aY,.tuple_str b t h aY]
  |@lst l0 a0 us0 h q=>
   have hn':deps l0+1<=n:=hn;have x:=Dv.lst h q;cases y with
   |tup h' q'=>show#[.list_tuple h h' aY,.list_tuple h h' aY]
   |lst h' q'=>have r:=kN h h' q q' aY (el hn');show#[iD x (.lst h' q') r,r]
   |fix h' q'=>have r:=kN h h' q q' aY (el hn');show#[iD x (.fix h' q') r,r]
   |non=>show#[.list_none h aY,.list_none h aY]
   |bl b=>show#[.list_bool b h aY,.list_bool b h aY]
   |int b t=>show#[.list_int b t h aY,.list_int b t h aY]
   |str b t=>show#[.list_str b t h aY,.list_str b t h aY]
  |@fix l0 a0 us0 h q=>
   have hn':deps l0+1<=n:=hn;have x:=Dv.fix h q;cases y with
   |tup h' q'=>show#[.list_tuple h h' aY,.list_tuple h h' aY]
   |lst h' q'=>have r:=kN h h' q q' aY (el hn');show#[iD x (.lst h' q') r,r]
   |fix h' q'=>have r:=kN h h' q q' aY (el hn');show#[iD x (.fix h' q') r,r]
   |non=>show#[.list_none h aY,.list_none h aY]
   |bl b=>show#[.list_bool b h aY,.list_bool b h aY]
   |int b t=>show#[.list_int b t h aY,.list_int b t h aY]
   |str b t=>show#[.list_str b t h aY,.list_str b t h aY]
  |non=>
   cases y with
   |non=>show#[.same _,.none_none]
   |bl c'=>show#[.none_bool c',.none_bool c']
   |int c' t'=>show#[.none_int c' t',.none_int c' t']
   |str c' t'=>show#[.none_str c' t',.none_str c' t']
   |tup h' q'=>show#[.none_tuple h' aY,.none_tuple h' aY]
   |lst h' q'=>show#[.none_list h' aY,.none_list h' aY]
   |fix h' q'=>show#[.none_list h' aY,.none_list h' aY]
  |bl c=>
   cases y with
   |non=>show#[.bool_none c,.bool_none c]
   |bl c'=>show#[.bool_bool c c',.bool_bool c c']
   |int c' t'=>show#[.bool_int c c' t',.bool_int c c' t']
   |str c' t'=>show#[.bool_str c c' t',.bool_str c c' t']
   |tup h' q'=>show#[.bool_tuple c h' aY,.bool_tuple c h' aY]
   |lst h' q'=>show#[.bool_list c h' aY,.bool_list c h' aY]
   |fix h' q'=>show#[.bool_list c h' aY,.bool_list c h' aY]
  |int c t=>
   cases y with
   |non=>show#[.int_none c t,.int_none c t]
   |bl c'=>show#[.int_bool c t c',.int_bool c t c']
   |int c' t'=>show#[.int_int c t c' t',.int_int c t c' t']
   |str c' t'=>show#[.int_str c t c' t',.int_str c t c' t']
   |tup h' q'=>show#[.int_tuple c t h' aY,.int_tuple c t h' aY]
   |lst h' q'=>show#[.int_list c t h' aY,.int_list c t h' aY]
   |fix h' q'=>show#[.int_list c t h' aY,.int_list c t h' aY]
  |str c t=>
   cases y with
   |non=>show#[.str_none c t,.str_none c t]
   |bl c'=>show#[.str_bool c t c',.str_bool c t c']
   |int c' t'=>show#[.str_int c t c' t',.str_int c t c' t']
   |str c' t'=>show#[.str_str c t c' t',.str_str c t c' t']
   |tup h' q'=>show#[.str_tuple c t h' aY,.str_tuple c t h' aY]
   |lst h' q'=>show#[.str_list c t h' aY,.str_list c t h' aY]
   |fix h' q'=>show#[.str_list c t h' aY,.str_list c t h' aY]open L2
section
variable{K:Frag}
def Pk.int{i:Int}(h:Pk K M H (.int i) v):v=.int i:=by cases h with |of r=>cases r;rfl
def Pk.bl(h:Pk K M H (.bl i) v):v=.bl i:=by cases h with |of r=>cases r;rfl
def Pk.str(h:Pk K M H (.str i) v):v=.str i:=by cases h with |of r=>cases r;rfl
def Pk.non(h:Pk K M H .non v):v=.non:=by cases h with |of r=>cases r;rfl
def Pk.tup{l:List D}(h:Pk K M H (.tup l) v):∃a xs,v=.ref a/\TupAt K M H a xs/\aE K M H l xs:=by cases h with |of r=>cases r with |tup h1 h2=>show⟨_,_,rfl,h1,h2⟩
def Pk.fix{l:List D}(h:Pk K M H (.fix l) v):∃a xs,v=.ref a/\mR K M H a xs/\aE K M H l xs:=by cases h with |of r=>cases r with |fix h1 h2=>show⟨_,_,rfl,h1,h2⟩
end
section
def nI{f:Value->Value->Sem Value}{k:Int->Int->Int}{i j:Int}(h:lJ X f (Gf λi j=>.int (k i j))):mS X z f (.int i) (.int j) (.dat (.int (k i j))):=
 #[_,h,λg Y As M H v1 v2 Q s p1 p2 kk=>#[i,j,p1.int,p2.int,kk _ H As M s (au.refl _ _) (.int _)]]
def oO{f:Value->Value->Sem Value}{C:Int->Int->Prop}{k:Int->Int->Int}{i j:Int}(h:lJ X f (rI C λi j=>.int (k i j)))(hc:C i j):mS X z f (.int i) (.int j) (.dat (.int (k i j))):=
 #[_,h,λg Y As M H v1 v2 Q s p1 p2 kk=>#[i,j,p1.int,p2.int,hc,kk _ H As M s (au.refl _ _) (.int _)]]
def uf{f:Value->Value->Sem Value}{k:Int->Int->Bool}{i j:Int}(h:lJ X f (Gf λi j=>.bl (k i j))):mS X z f (.int i) (.int j) (.dat (.bl (k i j))):=
 #[_,h,λg Y As M H v1 v2 Q s p1 p2 kk=>#[i,j,p1.int,p2.int,kk _ H As M s (au.refl _ _) (.bl _)]]
abbrev UL(z:Z)(d1 d2:D)(b:Bool):R2:=λx y H Q=>(∃M,Pk z.K M H d1 x/\Pk z.K M H d2 y)/\Q (.bl b) H
def ZW(hK:z.K=X.K)(p1:fM d1=true)(p2:fM d2=true)(hd:X.A.units+dep d1<cLine):mS X z (compareOp .Eq) d1 d2 (.dat (.bl (bV d1 d2))):=by
 apply#[UL z d1 d2 (bV d1 d2),?_,λg Y As M H v1 v2 Q s q1 q2 kk=>#[#[M,q1,q2],kk _ H As M s (au.refl _ _) (.bl _)]]
 intro aj s Y H x y v u Q I rx ry h;let((M,q1,q2),q):=h;rw[hK]at q1 q2;show (rR (dep d1) (eD _) (q1.dv I rx p1) (q2.dv I ry p2) hd).2 X.prog X.w X.xe _ #[.bl _,H,I,rfl,q]
section
def kO(hl:s.heap.IsList l us.toArray)(hb:s.heap.IsList b ws.toArray)(q:jO s.heap ls us)(q':jO s.heap ms ws)(hu:A.units<cLine)
  (he:∀(j:Nat) d1 d2 u1 u2,ls[j]?=!d1->Dv s.heap d1 u1->Dv s.heap d2 u2->SeqAt.EqAt A.in1 s u1 u2 (bV d1 d2)):SeqAt.RcNeAt A s (.ref l) (.ref b) ((not (dc ls ms))):=by
 have h1:=q.length;have h2:=q'.length;by_cases h:ls.length=ms.length
 .
  rw[<- oK ls ms h];have e:us.toArray.size=ls.length:=by rw[dL,h1]
  rw[<- e];apply SeqAt.RcNeAt.lists hl hb (by rw[dL,dL];lia) hu λj g1 g2=>?_
  let(d1,e1,v1):=q.get (j:=j) (u:=us[j]) (by simp[g1])
  let(d2,e2,v2):=q'.get (j:=j) (u:=ws[j]) (by simp[g2])
  have:=he j d1 d2 us[j] ws[j] e1 v1 v2;simpa [RL,e1,e2]using this
 . rw[oM ls ms h];apply SeqAt.RcNeAt.lists_lengths hl hb ?_ hu;rw[dL,dL];lia
def Ds(hl:IsTup s.heap l us.toArray)(hb:IsTup s.heap b ws.toArray)(q:jO s.heap ls us)(q':jO s.heap ms ws)(hu:A.units<cLine)
  (he:∀(j:Nat) d1 d2 u1 u2,ls[j]?=!d1->Dv s.heap d1 u1->Dv s.heap d2 u2->SeqAt.EqAt A.in1 s u1 u2 (bV d1 d2)):SeqAt.RcNeAt A s (.ref l) (.ref b) ((not (dc ls ms))):=by
 have h1:=q.length;have h2:=q'.length;have e:us.toArray.size=ls.length:=by rw[dL,h1]
 have e':ws.toArray.size=ms.length:=by rw[dL,h2]
 rw[<- vN,<- e,<- e'];apply SeqAt.RcNeAt.tuples hl hb hu λj g1 g2=>?_
 let(d1,e1,v1):=q.get (j:=j) (u:=us[j]) (by simp[g1])
 let(d2,e2,v2):=q'.get (j:=j) (u:=ws[j]) (by simp[g2])
 have:=he j d1 d2 us[j] ws[j] e1 v1 v2;simpa [RL,e1,e2]using this
end
def ZX(x:Dv s.heap d1 u1)(y:Dv s.heap d2 u2)(hu:A.units+dep d1<cLine):SeqAt.RcNeAt A s u1 u2 ((not (bV d1 d2))):=by
 have aY:A.units<cLine:=by lia
 have el:∀{l:List D},deps l+1<=dep d1->∀(j:Nat) d1 d2 u1 u2,l[j]?=!d1->Dv s.heap d1 u1->Dv s.heap d2 u2->SeqAt.EqAt A.in1 s u1 u2 (bV d1 d2):=λhl j e1 e2 u1 u2 e v1 v2=>
  (rR (dep e1) (eD _) v1 v2 (by rw[in1_units];have:=oN e;lia)).1
 cases x with
 |tup h q=>
  cases y with
  |tup h' q'=>show Ds h h' q q' aY (el (by simp[dep]))
  |lst h' q'=>show .tuple_list h h' aY
  |fix h' q'=>show .tuple_list h h' aY
  |non=>show .tuple_none h aY
  |bl b=>show .tuple_bool b h aY
  |int b t=>show .tuple_int b t h aY
  |str b t=>show .tuple_str b t h aY
 |lst h q=>
  cases y with
  |tup h' q'=>show .list_tuple h h' aY
  |lst h' q'=>show kO h h' q q' aY (el (by simp[dep]))
  |fix h' q'=>show kO h h' q q' aY (el (by simp[dep]))
  |non=>show .list_none h aY
  |bl b=>show .list_bool b h aY
  |int b t=>show .list_int b t h aY
  |str b t=>show .list_str b t h aY
 |fix h q=>
  cases y with
  |tup h' q'=>show .list_tuple h h' aY
  |lst h' q'=>show kO h h' q q' aY (el (by simp[dep]))
  |fix h' q'=>show kO h h' q q' aY (el (by simp[dep]))
  |non=>show .list_none h aY
  |bl b=>show .list_bool b h aY
  |int b t=>show .list_int b t h aY
  |str b t=>show .list_str b t h aY
 |non=>
  cases y with
  |non=>show .none_none
  |bl c'=>show .none_bool c'
  |int c' t'=>show .none_int c' t'
  |str c' t'=>show .none_str c' t'
  |tup h' q'=>show .none_tuple h' aY
  |lst h' q'=>show .none_list h' aY
  |fix h' q'=>show .none_list h' aY
 |bl c=>
  cases y with
  |non=>show .bool_none c
  |bl c'=>show .bool_bool c c'
  |int c' t'=>show .bool_int c c' t'
  |str c' t'=>show .bool_str c c' t'
  |tup h' q'=>show .bool_tuple c h' aY
  |lst h' q'=>show .bool_list c h' aY
  |fix h' q'=>show .bool_list c h' aY
 |int c t=>
  cases y with
  |non=>show .int_none c t
  |bl c'=>show .int_bool c t c'
  |int c' t'=>show .int_int c t c' t'
  |str c' t'=>show .int_str c t c' t'
  |tup h' q'=>show .int_tuple c t h' aY
  |lst h' q'=>show .int_list c t h' aY
  |fix h' q'=>show .int_list c t h' aY
 |str c t=>
  cases y with
  |non=>show .str_none c t
  |bl c'=>show .str_bool c t c'
  |int c' t'=>show .str_int c t c' t'
  |str c' t'=>show .str_str c t c' t'
  |tup h' q'=>show .str_tuple c t h' aY
  |lst h' q'=>show .str_list c t h' aY
  |fix h' q'=>show .str_list c t h' aY
def ZZ(hK:z.K=X.K)(p1:fM d1=true)(p2:fM d2=true)(hd:X.A.units+dep d1<cLine):mS X z (compareOp .NotEq) d1 d2 (.dat (.bl ((not (bV d1 d2))))):=by
 apply#[UL z d1 d2 ((not (bV d1 d2))),?_,λg Y As M H v1 v2 Q s q1 q2 kk=>#[#[M,q1,q2],kk _ H As M s (au.refl _ _) (.bl _)]]
 intro aj s Y H x y v u Q I rx ry h;let((M,q1,q2),q):=h;rw[hK]at q1 q2;show ZX (q1.dv I rx p1) (q2.dv I ry p2) hd X.prog X.w X.xe _ #[.bl _,H,I,rfl,q]
def Hs(q:Dv h d u):∀d' x,Dv h d' u->bV d x=bV d' x:=by
 have two:∀{l l':List D} (x:D),(∀m,dc l m=dc l' m)->bV (.lst l) x=bV (.lst l') x/\bV (.fix l) x=bV (.lst l') x/\bV (.lst l) x=bV (.fix l') x/\bV (.fix l) x=bV (.fix l') x:=λx k=>by
  cases x with
  |lst m=>show#[k m,k m,k m,k m]
  |fix m=>show#[k m,k m,k m,k m]
  |_=>show#[rfl,rfl,rfl,rfl]
 apply Dv.rec (motive_2:=λl us _=>∀l' m,jO h l' us->dc l m=dc l' m) ?_ ?_ ?_ ?_ ?_ ?_ ?_ ?_ ?_ q
 . intro d' x q;cases q;rfl
 . intro b d' x q;cases q;rfl
 . intro i t d' x q;cases q;rfl
 . intro y t d' x q;cases q;rfl
 .
  intro l a us k _ ih d' x q;cases q with
  |tup y q'=>
   cases rQ k y;cases x with
   |tup m=>show ih _ m q'
   |_=>rfl
  |lst y _=>show (dU k y).elim
  |fix y _=>show (dU k y).elim
 .
  intro l a us k _ ih d' x q;cases q with
  |tup y _=>show (dU y k).elim
  |lst y q'=>cases bW k y;show (two x λm=>ih _ m q').1
  |fix y q'=>cases bW k y;show (two x λm=>ih _ m q').2.2.1
 .
  intro l a us k _ ih d' x q;cases q with
  |tup y _=>show (dU y k).elim
  |lst y q'=>cases bW k y;show (two x λm=>ih _ m q').2.1
  |fix y q'=>cases bW k y;show (two x λm=>ih _ m q').2.2.2
 . intro l' m q;cases q;rfl
 .
  intro d ds u us _ _ i1 i2 l' m q;cases q with
  |@cons d' l' _ _ b q'=>cases m with
   |nil=>rfl
   |cons y m=>exact (bV d y&&dc ds m)=(bV d' y&&dc l' m);rw[i1 _ y b,i2 _ m q']
def Nm(x:D)(q:Dv h d u)(q':Dv h d' u):bV d x=bV d' x:=Hs q d' x q'
open Classical in
abbrev Np(h:Heap)(x:D)(u:Value):Bool:=decide (∃d,Dv h d u/\bV d x=true)
open Classical in
def yS(q:Dv h d u):Np h x u=bV d x:=by
 delta Np;cases e:bV d x with
 |true=>show mM #[d,q,e]
 |false=>apply nE ?_;rintro⟨d',q',e'⟩;rw[Nm x q' q,e]at e';cases e'
def Bc(q:jO h l us):us.any (Np h x)=l.any λd=>bV d x:=by
 induction l generalizing us with
 |nil=>cases q;rfl
 |cons d l ih=>cases q with |cons a b=>rw[List.any_cons,List.any_cons,yS a,ih b]
abbrev Z0(z:Z)(d1 d2:D)(b:Bool):R2:=UL z d1 d2 b
def yT{A:Around}{s:Shared}{x:D}{u:Value}{l:List D}{us:List Value}(q:jO s.heap l us)(hx:Dv s.heap x u)(hu:A.units+deps l+1<cLine):∀y,y∈us.toArray->SeqAt.EqAt A.in1 s y u (Np s.heap x y):=by
 intro y hy;have hy':y∈us:=by simpa using hy
 let(j,hj):=List.getElem?_of_mem hy';let(d,e,qd):=q.get hj;rw[yS qd];have:=oN e;show (rR (dep d) (eD _) qd hx (by rw[in1_units];lia)).1
abbrev bE:D->Option (List D)
 |.lst l=>!l
 |.tup l=>!l
 |.fix l=>!l
 |_=>none
def yU{aj: ~~~1}{Y:Sg}{M:List Addr}{H:Hp}{s:Shared}{d:D}{l:List D}{v:V}{u:Value}(I:L2.Inv X aj Y H s)(p:Pk X.K M H d v)(r:RelV v u)(hs:bE d=!l)(p2:dR l=true) :
  ∃a its,u=.ref a/\jO s.heap l its/\its.length<=sizeLine/\(d=.tup l/\IsTup s.heap a its.toArray\/(d=.lst l\/d=.fix l)/\s.heap.IsList a its.toArray):=by
 cases d with
 |tup m=>cases hs;let(a,xs,rfl,ha,rr):=p.tup;cases r;let(its,rv,pl,hz):=I.tuple ha.sq;show#[a,its,rfl,rr.dv I rv p2,rv.length▸hz,.inl #[rfl,pl]]
 |lst m=>cases hs;let(a,xs,rfl,ha,rr):=p.list;cases r;let(its,rv,pl,hz):=I.list (cQ.of ha);show#[a,its,rfl,rr.dv I rv p2,rv.length▸hz,.inr #[.inl rfl,pl.isList]]
 |fix m=>cases hs;let(a,xs,rfl,ha,rr):=p.fix;cases r;let(its,rv,pl,hz):=I.list ha.sq;show#[a,its,rfl,rr.dv I rv p2,rv.length▸hz,.inr #[.inr rfl,pl.isList]]
 |_=>cases hs
def Z1(hK:z.K=X.K)(hs:bE d2=!l)(p1:fM d1=true)(p2:dR l=true)(hd:X.A.units+deps l+1<cLine):mS X z (compareOp .In) d1 d2 (.dat (.bl (l.any λd=>bV d d1))):=by
 apply#[Z0 z d1 d2 (l.any λd=>bV d d1),?_,λg Y As M H v1 v2 Q s q1 q2 kk=>#[#[M,q1,q2],kk _ H As M s (au.refl _ _) (.bl _)]]
 intro aj s Y H x y v u Q I rx ry h;let((M,q1,q2),q):=h;rw[hK]at q1 q2;let(a,its,rfl,Df,_,t):=yU I q2 ry hs p2;have el:=yT Df (q1.dv I rx p1) hd;rw[<- Bc Df,<- List.any_toArray]at q;rcases t with ⟨_,pl⟩ |⟨_,pl⟩
 . show SeqAt.in_tupleAt _ pl el #[.bl _,H,I,rfl,q]
 . show SeqAt.in_listAt _ pl el #[.bl _,H,I,rfl,q]
def Ht(hK:z.K=X.K)(hs:bE d2=!l)(p1:fM d1=true)(p2:dR l=true)(hd:X.A.units+deps l+1<cLine):mS X z (compareOp .NotIn) d1 d2 (.dat (.bl ((not (l.any λd=>bV d d1))))):=by
 apply#[Z0 z d1 d2 ((not (l.any λd=>bV d d1))),?_,λg Y As M H v1 v2 Q s q1 q2 kk=>#[#[M,q1,q2],kk _ H As M s (au.refl _ _) (.bl _)]]
 intro aj s Y H x y v u Q I rx ry h;let((M,q1,q2),q):=h;rw[hK]at q1 q2;let(a,its,rfl,Df,_,t):=yU I q2 ry hs p2;have el:=yT Df (q1.dv I rx p1) hd;rw[<- Bc Df,<- List.any_toArray]at q;rcases t with ⟨_,pl⟩ |⟨_,pl⟩
 . show SeqAt.notIn_tupleAt _ pl el #[.bl _,H,I,rfl,q]
 . show SeqAt.notIn_listAt _ pl el #[.bl _,H,I,rfl,q]
def UT(h:l.length+m.length<=16777216):mS X z (binaryOp .Add) (.lst l) (.lst m) (.new (l++m)):=by
 apply#[_,Ud,λg Y As M H v1 v2 Q s q1 q2 kk=>?_]
 let(a,xs,rfl,ha,ra):=q1.list;let(b,ys,rfl,hb,rb):=q2.list;apply#[a,b,xs,ys,rfl,rfl,ha,hb,by rw[<- ra.length,<- rb.length];show oJ h,λp hp=>?_]
 show kk _ _ As (p::M) (s.aN hp) (au.aN hp) #[p,_,rfl,dA,λhA=>s.fresh hp (s.sub p hA),s.cC hp,aA,(ra.append rb).stay (au.aN hp)]
def UW(h1 : -(2 ^ 63)<=k)(h2:k<2 ^ 63)(h:l.length * k.toNat<=16777216):mS X z (binaryOp .Mult) (.lst l) (.int k) (.new (List.replicate k.toNat l).flatten):=by
 apply#[_,Ue,λg Y As M H v1 v2 Q s q1 q2 kk=>?_]
 let(a,xs,rfl,ha,ra):=q1.list;have rr:∀n,aE z.K M H (List.replicate n l).flatten (List.replicate n xs).flatten:=λn=>by
  induction n with
  |zero=>simp;show .nil
  |succ n ih=>rw[AE,AE];show ra.append ih
 apply#[a,k,xs,rfl,q2.int,ha,h1,h2,by rw[<- ra.length];show oJ h,λp hp=>?_]
 show kk _ _ As (p::M) (s.aN hp) (au.aN hp) #[p,_,rfl,dA,λhA=>s.fresh hp (s.sub p hA),s.cC hp,aA,(rr _).stay (au.aN hp)]
abbrev U0(K:Frag):R2:=λx y H Q=>∃a b xs ys,x=.ref a/\y=.ref b/\iu K H a xs/\iu K H b ys/\xs.length+ys.length<=sizeLine/\
 (xs=[]->Q (.ref b) H)/\(xs≠[]->ys=[]->Q (.ref a) H)/\(xs≠[]->ys≠[]->∀p,H p=none->Q (.ref p) (upd H p (.tup (xs++ys))))
def Hu:lJ X (binaryOp .Add) (U0 X.K):=by
 intro aj s Y H x y v u Q I rx ry h;let(a,b,xs,ys,rfl,rfl,ha,hb,hz,q0,q1,q2):=h;by_cases hx:xs=[]
 .
  subst hx;cases rx;cases ry;let(its,r1,p1,_):=I.tuple ha;let(lI,r2,p2,_):=I.tuple hb;cases r1;let((cls,dd,data,sl),ho,hc,n,hd):=id p1;let((T6,dd2,data2,sl2),ho2,hc2,n2,hd2):=id p2;subst hc hd hc2 hd2;show concat_meets #[_,ho,rfl] #[_,ho2,rfl] noFill_tuple_add seq_tuple_add B7 BQ (BH _ _)
   (tuple_addW0 a b ([].toArray) lI.toArray n n2 dd dd2 sl sl2 ⋯) #[ho,ho2,#[.ref b,H,I,rfl,q0 rfl]]
 . show My aj s Y H (.ref a) (.ref b) v u Q I rx ry #[a,b,xs,ys,rfl,rfl,ha,hb,hx,hz,q1 hx,q2 hx]
def Nq(hK:z.K=X.K)(h:l.length+m.length<=16777216):mS X z (binaryOp .Add) (.tup l) (.tup m) (.dat (.tup (l++m))):=by
 apply#[_,Hu,λg Y As M H v1 v2 Q s q1 q2 kk=>?_]
 let(a,xs,rfl,ha,ra):=q1.tup;let(b,ys,rfl,hb,rb):=q2.tup;have la:=ra.length;have lb:=rb.length;apply#[a,b,xs,ys,rfl,rfl,hK▸ha.sq,hK▸hb.sq,by rw[<- la,<- lb];show oJ h,λe=>?_,λe1 e2=>?_,λe1 e2 p hp=>?_]
 .
  subst e;cases l with
  |nil=>show kk _ H As M s (au.refl _ _) (.tup hb rb)
  |cons _ _=>simp at la
 .
  subst e2;cases m with
  |nil=>rw[l9]at kk;show kk _ H As M s (au.refl _ _) (.tup ha ra)
  |cons _ _=>simp at lb
 . show kk _ _ As M (s.laid hp) (au.laid hp) (.tup (.inl #[s.fresh hp,.inl aA]) ((ra.append rb).stay (au.laid hp)))
def oR{K:Frag}{M:List Addr}{H:Hp}{l:List D}{xs:List V}{i:Int}{d:D}(r:aE K M H l xs)(h:gU l i=!d):∃v,gU xs i=!v/\Rep K M H d v:=by
 delta gU at h ⊢
 rw[<- r.length];cases e:yO l.length i with
 |none=>rw[e]at h;symm
 |some j=>rw[e]at h;have h':=h;let(v,h1,h2):=r.get h';show#[v,h1,h2]
def U1{l:List D}{i:Int}{d:D}(hK:z.K=X.K)(h:gU l i=!d):ZR X z (.lst l) (.int i) (.dat d):=by
 apply#[_,tV,λg Y As M H v1 v2 Q s q1 q2 kk=>?_]
 let(a,xs,rfl,ha,ra):=q1.list;let(v,e,r):=oR ra h;show#[a,xs,i,v,rfl,q2.int,cQ.of ha,e,kk _ H As M s (au.refl _ _) r]
def U3{l:List D}{i:Int}{d:D}(hK:z.K=X.K)(h:gU l i=!d):ZR X z (.fix l) (.int i) (.dat d):=by
 apply#[_,tV,λg Y As M H v1 v2 Q s q1 q2 kk=>?_]
 let(a,xs,rfl,ha,ra):=q1.fix;let(v,e,r):=oR ra h;show#[a,xs,i,v,rfl,q2.int,hK▸ha.sq,e,kk _ H As M s (au.refl _ _) r]
def Nr{l:List D}{i:Int}{d:D}(hK:z.K=X.K)(h:gU l i=!d):ZR X z (.tup l) (.int i) (.dat d):=by
 apply#[_,T9,λg Y As M H v1 v2 Q s q1 q2 kk=>?_]
 let(a,xs,rfl,ha,ra):=q1.tup;let(v,e,r):=oR ra h;show#[a,xs,i,v,rfl,q2.int,hK▸ha.sq,e,kk _ H As M s (au.refl _ _) r]
abbrev bX:List D->Option (~~~0)
 | []=>![]
 |.int i::l=>match bX l with |some ns=>!(i::ns) |none=>none
 |_::_=>none
def gq{K:Frag}{M:List Addr}{H:Hp}{l:List D}{xs:List V}{ns: ~~~0}(q:aE K M H l xs)(e:bX l=!ns):xs=ns.map V.int:=by
 induction l generalizing xs ns with
 |nil=>cases q;cases e;rfl
 |cons d l ih=>cases q with |cons r q=>cases d with
  |int i=>
   have e:(match bX l with |some ns=>!(i::ns) |none=>none)=!ns:=e
   cases e2:bX l with
   |none=>rw[e2]at e;cases e
   |some ns=>rw[e2]at e;cases e;cases r;rw[List.map_cons,ih q e2]
  |_=>cases e
def U4{l m:List D}{ns ms: ~~~0}(hK:z.K=X.K)(hu:X.A.units<cLine)(h1:bX l=!ns)(h2:bX m=!ms):mS X z (compareOp .Lt) (.tup l) (.tup m) (.dat (.bl (HT.lexLt ns ms))):=by
 apply#[_,T8 hu,λg Y As M H v1 v2 Q s q1 q2 kk=>?_]
 let(a,xs,rfl,ha,ra):=q1.tup;let(b,ys,rfl,hb,rb):=q2.tup;have e1:=gq ra h1;have e2:=gq rb h2;subst e1 e2;show#[a,b,ns,ms,rfl,rfl,hK▸ha.sq,hK▸hb.sq,kk _ H As M s (au.refl _ _) (.bl _)]
def U5:UnD X z (unaryOp .USub) (.int i) (.dat (.int (-i))):=#[_,TY,λg Y As M H v Q s p k=>#[i,p.int,k _ H As M s (au.refl _ _) (.int _)]]
end
section
def Nj.one{K:Frag}{M:List Addr}{H:Hp}{d:D}{vs:List V}(h:Nj K M H [d] vs):∃v,vs=[v]/\Pk K M H d v:=by cases h with |cons p q=>cases q;show#[_,rfl,p]
def Nj.two{K:Frag}{M:List Addr}{H:Hp}{d e:D}{vs:List V}(h:Nj K M H [d,e] vs):∃v w,vs=[v,w]/\Pk K M H d v/\Pk K M H e w:=by cases h with |cons p q=>cases q with |cons p' q'=>cases q';show#[_,_,rfl,p,p']
abbrev Z2:D->Option Nat
 |.lst l=>!l.length
 |.tup l=>!l.length
 |.fix l=>!l.length
 |_=>none
def U6{d:D}{n:Nat}(hK:z.K=X.K)(h:Z2 d=!n):CallD X z (.builtin "len") [d] ‹n›:=by
 apply#[_,G0,λg Y As M H vs Q s p k=>?_]
 let(v,rfl,pv):=p.one;apply#[v,n,rfl,?_,k _ H As M s (au.refl _ _) (.int _)];cases d with
 |lst l=>symm;let(a,xs,rfl,ha,r):=pv.list;show .inl #[xs,cQ.of ha,r.length]
 |fix l=>symm;let(a,xs,rfl,ha,r):=pv.fix;show .inl #[xs,hK▸ha.sq,r.length]
 |tup l=>symm;let(a,xs,rfl,ha,r):=pv.tup;show .inr #[xs,hK▸ha.sq,r.length]
 |_=>symm
def Nt{d:D}{l:List D}(hK:z.K=X.K)(h:bE d=!l):CallD X z (.type "list") [d] (.new l):=by
 apply#[_,tX,λg Y As M H vs Q s p k=>?_]
 let(v,rfl,pv):=p.one;have fin:∀xs,aE z.K M H l xs->∀p,H p=none->Q (.ref p) (upd H p (.lst xs)):=λxs r p hp=>
  k _ _ As (p::M) (s.aN hp) (au.aN hp) #[p,xs,rfl,dA,λhA=>s.fresh hp (s.sub p hA),s.cC hp,aA,r.stay (au.aN hp)]
 cases d with
 |lst m=>symm;let(a,xs,rfl,ha,r):=pv.list;show#[a,xs,rfl,.inl (cQ.of ha),fin xs r]
 |fix m=>symm;let(a,xs,rfl,ha,r):=pv.fix;show#[a,xs,rfl,.inl (hK▸ha.sq),fin xs r]
 |tup m=>symm;let(a,xs,rfl,ha,r):=pv.tup;show#[a,xs,rfl,.inr (hK▸ha.sq),fin xs r]
 |_=>symm
def Hv{d:D}{l:List D}(hK:z.K=X.K)(h:bE d=!l):CallD X z (.type "tuple") [d] (.dat (.tup l)):=by
 apply#[_,qR,λg Y As M H vs Q s p k=>?_]
 let(v,rfl,pv):=p.one;have fin:∀xs,aE z.K M H l xs->∀p,H p=none->Q (.ref p) (upd H p (.tup xs)):=λxs r p hp=>
  k _ _ As M (s.laid hp) (au.laid hp) (.tup (.inl #[s.fresh hp,.inl aA]) (r.stay (au.laid hp)))
 cases d with
 |lst m=>symm;let(a,xs,rfl,ha,r):=pv.list;show#[a,xs,rfl,.inl #[cQ.of ha,fin xs r]]
 |fix m=>symm;let(a,xs,rfl,ha,r):=pv.fix;show#[a,xs,rfl,.inl #[hK▸ha.sq,fin xs r]]
 |tup m=>symm;let(a,xs,rfl,ha,r):=pv.tup;show#[a,xs,rfl,.inr #[hK▸ha.sq,k _ H As M s (au.refl _ _) (.tup ha r)]]
 |_=>symm
def U7{i j:Int}(hc:X.calm=true):CallD X z (.builtin "max") [.int i,.int j] (.dat (.int (if j > i then j else i))):=by
 apply#[_,Dc hc,λg Y As M H vs Q s p k=>?_]
 let(v,w,rfl,p1,p2):=p.two;show#[i,j,by rw[p1.int,p2.int],k _ H As M s (au.refl _ _) (.int _)]
def U8{i j:Int}(hc:X.calm=true):CallD X z (.builtin "min") [.int i,.int j] (.dat (.int (if j<i then j else i))):=by
 apply#[_,Dd hc,λg Y As M H vs Q s p k=>?_]
 let(v,w,rfl,p1,p2):=p.two;show#[i,j,by rw[p1.int,p2.int],k _ H As M s (au.refl _ _) (.int _)]
end
section
def oU(hc:X.calm=true):eF X (.builtin "all") (λxs H Q=>∃(p:Addr) (bs:List Bool),xs=[.ref p]/\cQ X.K H p (bs.map V.bl)/\Q (.bl (bs.all id)) H):=by
 intro aj s Y H xs us Q I r h;let(p,bs,rfl,hp,q):=h;let(u,rfl,rx):=vals1 r;cases rx;let(its,rv,pl,hz):=I.list hp;have hlt:p<s⁻¹:=by let(_,e,_):=pl.isList;show eQ e
 have aK:its.length=bs.length:=by rw[<- rv.length,eJ]
 have up:∀b o,s.heap.get? b=!o->(s.heap.push { cls:=.type "list_iterator",data:=.fields ([.ref p,.int 0 0].toArray)}).get? b=!o:=λb o e=>b0 _ e
 apply call_all_walk (B9 pl.isList ?_);apply#[s⁻¹,_,_,_,_,_,λi=>bs.getD i true,rfl,Walks.list (show X.A.in1.handled=none from I.ok.hd hc) s⁻¹ p (kS hlt) its.toArray,#[#[_,eC _ rfl,rfl,rfl],pl.isList.push _],?_,λh' tk hk=>?_]
 .
  intro i v s' Q' E' hv hq;have hv':its[i]?=!v:=by simpa using hv
  have hi:i<bs.length:=by rw[<- aK];show (dE.mp hv').1
  let(w,e1,e2):=rv.get (i:=i) (x:=V.bl bs[i]) (by simp[hi])
  rw[hv']at e1;cases e1;cases e2;apply nK ?_;have:bs.getD i true=bs[i]:=by simp[hi]
  rw[<- this];show hq
 .
  have I1:L2.Inv X aj Y H { s with heap:=h',toks:=tk}:=I.kept λb o e=>hk b o (λhm=>by
   have:b=s⁻¹:=by simpa using hm
   show absurd (eQ e) (by rw[this];show nV _)) (up b o e)
  apply#[.bl (bs.all id),H,I1,?_,q];have e:(List.range its.toArray.size).all (λi=>bs.getD i true)=bs.all id:=by
   rw[dL,aK];rw[BU];simp only[lL,t6];constructor
   . intro h b hb;let(j,hj):=List.getElem?_of_mem hb;have hj':=(dE.mp hj).1;have:=h j hj';simpa [List.getD,hj]using this
   . intro h i hi;have:=h bs[i] (yB hi);simpa [List.getD,hi]using this
  rw[e];rfl
abbrev vO:List D->Option (List Bool)
 | []=>![]
 |.bl b::l=>match vO l with |some bs=>!(b::bs) |none=>none
 |_::_=>none
def Hw{K:Frag}{M:List Addr}{H:Hp}{l:List D}{xs:List V}{ns:List Bool}(q:aE K M H l xs)(e:vO l=!ns):xs=ns.map V.bl:=by
 induction l generalizing xs ns with
 |nil=>cases q;cases e;rfl
 |cons d l ih=>cases q with |cons r q=>cases d with
  |bl i=>
   have e:(match vO l with |some ns=>!(i::ns) |none=>none)=!ns:=e
   cases e2:vO l with
   |none=>rw[e2]at e;cases e
   |some ns=>rw[e2]at e;cases e;cases r;rw[List.map_cons,ih q e2]
  |_=>cases e
def U9{l:List D}{bs:List Bool}(hc:X.calm=true)(h:vO l=!bs):CallD X z (.builtin "all") [.lst l] (.dat (.bl (bs.all id))):=by
 apply#[_,oU hc,λg Y As M H vs Q s p k=>?_]
 let(v,rfl,pv):=p.one;let(a,xs,rfl,ha,r):=pv.list;have e:=Hw r h;subst e;show#[a,bs,rfl,cQ.of ha,k _ H As M s (au.refl _ _) (.bl _)]
end
abbrev nJ:D->String
 |.non=> "NoneType" |.bl _=> "bool" |.int _=> "int" |.str _=> "str" |.tup _=> "tuple" |.lst _=> "list" |.fix _=> "list" |.emp=> "dict" |.nj _=> "" |.Lp ..=> "dict"
abbrev Gg:D->Value
 |.nj C=>.ref C
 |d=>.type (nJ d)
def Dt{M:Model}{A:Around}{E:Value->Shared->Prop}{K:Frag}{x C:Addr}{ox:Obj}{nv:Value}{Q:Unit->Shared->Prop}{s:Shared}(X:K.In s.heap)(I:PySem.W.InstAt s.heap x ox C none)(hb:PySem.W.mroIn K C (.type "BaseException")=!true)(hq:Q () s) :
  wpAny M A (checkBuiltinCall "BaseException.__getattribute__" #[[.ref x,nv],[]]) Q E s:=by
 have kd:builtinKind "BaseException.__getattribute__"=some .slot:=by decide +kernel
 have sd:splitId "BaseException.__getattribute__"=!("BaseException", "__getattribute__"):=by decide +kernel
 let(hv,ge,dr,tk,o'):=s;have l0:=I.type (M:=M);have l1:=PySem.W.looks_mroIn (M:=M) X hb;simp only[checkBuiltinCall];apply aS (aS (l0.at (l1.at ?_)))
 repeat (any_goals (first |assumption |wp_step))
def Hx{prog:Program}{w:World}{A:Around}{E:Value->Shared->Prop}{K:Frag}{x C:Addr}{ox:Obj}{name:Str}{g a:Value}{Q:Option Value->Shared->Prop}{s:Shared}(X:K.In s.heap)(I:PySem.W.InstAt s.heap x ox C none)
  (hga:PySem.W.findIn K (.ref C) "__getattribute__"=!(!(.builtin "BaseException.__getattribute__"))) (hk:PySem.W.findIn K (.ref C) "__getattr__"=!none) (hb:PySem.W.mroIn K C (.type "BaseException")=!true) (hf:PySem.W.findObj K C none name=!(.bind g a))
  (h:wpAny (model prog w) A.in1 (call g [a,.ref x,.ref C]) (λv s'=>wpAny (model prog w) A (handedOut v) (λv s''=>Q (!v) s'') (λ_ _=>False) s') (λ_ _=>False) { s with toks:=s.toks+1}) :
  wpAny (model prog w) A (getAttr? (.ref x) name) Q E s:=by
 let(hv,ge,dr,tk,o'):=s;have l0:=I.type (M:=model prog w);have l1:=PySem.W.looks_findIn (M:=model prog w) X hga;have l2:=PySem.W.looks_findIn (M:=model prog w) X hk;have l3:=PySem.W.looks_find (M:=model prog w) X I hf;have f3:=F.excAttr_ValueError.ga.bind (.ref x);apply aS (wpAny_mkText (aS (BY (mE (aS (l0.at (aS (l1.at ?_))))))));apply aS (l2.at (aS (BY (mE ?_))));exact wpAny _ _ (boundAndCalled _ _ _) _ _ _;delta boundAndCalled;apply aS (dC (DF (codeAny_call_builtin F.excAttr_ValueError.ga.plain F.entry_bexc_ga (Dt X I hb ?_))));apply aS (dC (aS (dC (aS (l0.at (aS (l3.at ?_)))))));apply aS (mE (kA h (λv s' z=>dC ?_) λ_ _ z=>z.elim))
 show kA z (λv s'' hv=>dC hv) (λ_ _ z=>z.elim)
def lT{K:Frag}{C:Addr}(k:Lq K C):∃c d cd sl,K.lookup C=!#[c,d,.cls cd,sl]/\PySem.W.clsIn K C=!cd:=by
 let(cd,hc,_):=PySem.W.any_some k.dct;have hc':=hc;delta PySem.W.clsIn at hc;split at hc
 . ext c d cd' sl ho;cases hc;show#[c,d,cd,sl,ho,hc']
 . cases hc
def vP{K:Frag}{x C:Addr}(k:Lq K C):PySem.W.KitX K (.ref x) (.ref C) (λh=>∃ox,PySem.W.InstAt h x ox C none) where
 ty:=by rintro _ _ _ ⟨_,I⟩;show I.type
 it:=λ_ _ X _=>by
  let(c,d,cd,sl,ho,_):=lT k;intro A' Q' E' s' kp q;apply aS ?_;apply wpAny_loadPart (kp _ _ (X _ _ ho)) ?_;show dC q
 ne:=λh tp dd its n sl X htp=>by
  let(c,d,cd,sl',ho,_):=lT k;cases q:(Value.ref C==Value.ref tp)with
  |false=>rfl
  |true=>have e:=Value.ref.inj (beq_iff_eq.mp q);subst e;have y:=(X _ _ ho).symm.trans htp;cases y
 ca:=λ{prog w A E Q s} X #[ox,I] h=>by
  let(_,_,cd,_,_,hc):=lT k;have hf:PySem.W.findObj K C none "__class__"=!(.bind (.builtin "getset_descriptor.__get__") (.builtin "object.__class__")):=by delta PySem.W.findObj;rw[hc,k.cls];simp[k.spc,k.tks]
  apply Hx X I k.gga k.gat k.bas hf (DF ?_);show PySem.W.class_get X I k.mro (PySem.W.handed_on rfl h)
section
def Hy(I:L2.Inv X aj Y H s)(p:Pk X.K M H d v)(r:RelV v u)
  (e:PySem.W.kitOne X.K (Gg d) c=!b) (h:∀tk,Q (.bool b) { s with toks:=tk}):wpAny (~~~2) A (call (.builtin "isinstance") [u,c]) Q E s:=by
 cases d with
 |non=>have q:=p.non;subst q;cases r;show xI PySem.W.kitx_none I.nZ True.intro e (λz=>nomatch z) h
 |bl y=>have q:=p.bl;subst q;cases r;show xI PySem.W.kitx_bool I.nZ True.intro e (λz=>nomatch z) h
 |int i=>have q:=p.int;subst q;let(t,rfl):=r;show xI PySem.W.kitx_int I.nZ True.intro e (λz=>nomatch z) h
 |str y=>have q:=p.str;subst q;let(t,rfl):=r;show xI PySem.W.kitx_str I.nZ True.intro e (λz=>nomatch z) h
 |tup l=>let(a,xs,rfl,ha,_):=p.tup;cases r;let(its,_,(o,h1,h2,_),_):=I.tuple ha.sq;show xI PySem.W.kitx_tuple I.nZ #[o,h1,h2] e (λz=>nomatch z) h
 |lst l=>let(a,xs,rfl,ha,_):=p.list;cases r;let(its,_,pl,_):=I.list (cQ.of ha);let(o,h1,h2,_):=pl.isList;show xI Cn I.nZ #[o,h1,h2] e (λz=>nomatch z) h
 |fix l=>let(a,xs,rfl,ha,_):=p.fix;cases r;let(its,_,pl,_):=I.list ha.sq;let(o,h1,h2,_):=pl.isList;show xI Cn I.nZ #[o,h1,h2] e (λz=>nomatch z) h
 |emp=>
  cases p with
  |of q=>
   cases q with
   |emp _ ha=>cases r;let(_,_,vs,_,o,es,ep,h1,h2,_):=I.hok _ _ ha;show xI Co I.nZ #[o,h1,h2.1] e (λz=>nomatch z) h
 |nj C=>
  cases p with
  |of q=>
   cases q with
   |nj k _ ha=>cases r;let((o,h1,h2,h3,h4),_):=I.hok _ _ ha;show xI (vP k) I.nZ #[o,h1,h2,h3,by rw[h4];trivial] e (λz=>nomatch z) h
 |Lp ks ds=>
  cases p with
  |of q=>
   cases q with
   |Lp _ ha _ _=>cases r;let(_,_,vs,_,o,es,ep,h1,h2,_):=I.hok _ _ ha;show xI Co I.nZ #[o,h1,h2.1] e (λz=>nomatch z) h
def Hz:eF X (.builtin "isinstance") (λxs H Q=>∃x n M d b,xs=[x,.ty n]/\Pk X.K M H d x/\PySem.W.kitOne X.K (Gg d) (.type n)=!b/\Q (.bl b) H):=by intro aj s Y H xs us Q I r h;let(x,n,M,d,b,rfl,p,e,q):=h;let(u,w',rfl,r1,r2):=vals2 r;cases r2;show Hy I p r1 e λtk=>#[.bl b,H,I.tok tk,rfl,q]
def Va(hK:z.K=X.K)(h:aB X z a g r1 g1)(hp:pk r1 g1=!d)(he:∀M H v,Pk X.K M H d v->PySem.W.kitOne X.K (Gg d) (.type n)=!b)
  (hg:Gl X "isinstance") (hm:X.mg "isinstance"=none) (hv:bootBuiltins "isinstance"=!(.builtin "isinstance")) (gT:Gl X T) (mT:X.mg T=none) (vT:bootBuiltins T=!(.type n)) (nT:T≠ "__name__") (dT:(T==(~~~3))=false)
  (hs:starEach [a,.Name T pT] X.env=(false,eval a X.env)::starEach [.Name T pT] X.env):aB X z (.Call (.Name "isinstance" p) [a,.Name T pT] [] pos) g (.dat (.bl b)) g1:=by
 let(t,q,k):=h;have pT':PE X (.Name T pT) (tC (.ty n)):=tK gT mT vT rfl nT dT;apply#[_,iA Hz hg hm hv (bI q (bI pT' fS) hs) ⋯ ⋯ hs,λY As M H Q s kk=>k Y As M H _ s λv H' aC M' s' st R=>?_]
 have p:=hK▸s'.pk (au.refl _ _) R hp;show#[v,n,M',d,b,rfl,p,he _ _ _ p,kk _ H' aC M' s' st (.bl b)]
end
inductive Fl where
 |nx |rt (r:R) |bk |ct
abbrev oV(z:Z)(M:List Addr)(H:Hp)(E:Ends)(g':G):Fl->Prop
 |.nx=>∀σ' aC M' H',S z g' σ' aC M' H'->au M H M' H'->E.nx σ' H'
 |.bk=>∀σ' aC M' H',S z g' σ' aC M' H'->au M H M' H'->E.bk σ' H'
 |.ct=>∀σ' aC M' H',S z g' σ' aC M' H'->au M H M' H'->E.ct σ' H'
 |.rt r=>∀v σ' aC M' H',S z g' σ' aC M' H'->au M H M' H'->dh z g' σ' aC M' H' r v->E.rt v H'
abbrev fT(X:Cx)(z:Z)(st:Stmt)(g:G)(f:Fl)(g':G):Prop:=
 ∃t,PS X st t/\∀Y As M H E,S z g Y As M H->oV z M H E g' f->t E Y H
abbrev eV(X:Cx)(z:Z)(jJ:List Stmt)(g:G)(f:Fl)(g':G):Prop:=
 ∃t,tH X jJ t/\∀Y As M H E,S z g Y As M H->oV z M H E g' f->t E Y H
section
variable{st:Stmt}
def oV.trans(st:au M H M1 H1)(h:oV z M H E g' f):oV z M1 H1 E g' f:=by
 cases f with
 |nx=>show λσ' aC M' H' s' st'=>h σ' aC M' H' s' (st.trans st')
 |bk=>show λσ' aC M' H' s' st'=>h σ' aC M' H' s' (st.trans st')
 |ct=>show λσ' aC M' H' s' st'=>h σ' aC M' H' s' (st.trans st')
 |rt r=>show λv σ' aC M' H' s' st' R=>h v σ' aC M' H' s' (st.trans st') R
def Vb:eV X z [] g .nx g:=#[_,Mg,λY As M H E s k=>k Y As M H s (au.refl _ _)]
def Nu(h1:fT X z st g .nx g1)(h2:eV X z jJ g1 f g2):eV X z (st::jJ) g f g2:=by let(t1,q1,k1):=h1;let(t2,q2,k2):=h2;show#[_,dQ q1 q2,λY As M H E s k=>k1 Y As M H _ s λσ' aC M' H' s' st'=>k2 σ' aC M' H' E s' (k.trans st')]
def Vc(h1:fT X z st g (.rt r) g1):eV X z (st::jJ) g (.rt r) g1:=by let(t1,q1,k1):=h1;show#[_,dQ q1 bF,λY As M H E s k=>k1 Y As M H _ s k]
def Vd(h1:fT X z st g .bk g1):eV X z (st::jJ) g .bk g1:=by let(t1,q1,k1):=h1;show#[_,dQ q1 bF,λY As M H E s k=>k1 Y As M H _ s k]
def Ve(h1:fT X z st g .ct g1):eV X z (st::jJ) g .ct g1:=by let(t1,q1,k1):=h1;show#[_,dQ q1 bF,λY As M H E s k=>k1 Y As M H _ s k]
def Vf(h:aB X z e g r g1):fT X z (.Return (!e) pos) g (.rt r) g1:=by let(t,q,k):=h;show#[_,yE q,λY As M H E s kk=>k Y As M H _ s λv H' aC M' s' st R=>kk v Y aC M' H' s' st R]
def Nv(h:aB X z e g r g1)(hs:swapsWith e none pos.line X.env=pure false):fT X z (.Expr e pos) g .nx g1:=by let(t,q,k):=h;show#[_,tM q hs,λY As M H E s kk=>k Y As M H _ s λv H' aC M' s' st R=>kk Y aC M' H' s' st]
def RM(h:cJ X z c g v g1)(h2:eV X z (if v then a else b) g1 f g2):fT X z (.If c a b pos) g f g2:=by
 let(t,q,k):=h;let(t2,q2,k2):=h2;cases v with
 |true=>show#[_,vA q q2 bF,λY As M H E s kk=>k Y As M H _ s λH' aC M' s' st=>jr (k2 Y aC M' H' E s' (kk.trans st))]
 |false=>show#[_,vA q bF q2,λY As M H E s kk=>k Y As M H _ s λH' aC M' s' st=>lR (k2 Y aC M' H' E s' (kk.trans st))]
def Nx(hN:X.N.Nodup)(hi:X.N[i]?=!x)(hx:Loc X.env.scope x)(h:aB X z e g (.dat d) g1)(hs:swapsWith e (!(.Name x pos')) pos.line X.env=pure false)(hf:X.fn x=true\/X.env.scope.names.lookup x=some .local)(hb:i∉z.bor) :
  fT X z (.Assign [.Name x pos'] e pos) g .nx (g1.set i (.dat d)):=by
 let(t,q,k):=h;apply#[_,tN hN hi hx q hs hf,λY As M H E s kk=>k Y As M H _ s λv H' aC M' s' st R=>?_]
 let(bu,s2):=s'.iC hb R;show kk _ bu M' H' s2 st
def Ny(hN:X.N.Nodup)(hi:X.N[i]?=!x)(hx:Loc X.env.scope x)(h:aB X z e g (.new l) g1)(hl:i<g1.length)(hs:swapsWith e (!(.Name x pos')) pos.line X.env=pure false)(hf:X.fn x=true\/X.env.scope.names.lookup x=some .local)(hb:i∉z.bor) :
  fT X z (.Assign [.Name x pos'] e pos) g .nx (g1.set i (.own l)):=by
 let(t,q,k):=h;apply#[_,tN hN hi hx q hs hf,λY As M H E s kk=>k Y As M H _ s λv H' aC M' s' st R=>?_]
 let(a,xs,rfl,hm,hA,h0,ha,rr):=R;let(bu,s2):=s'.oG hb hl hm hA h0 ha rr;show kk _ bu M' H' s2 st
end
abbrev tAny(X:Cx)(jJ:List Stmt):TS:=λE Y H=>∃t,tH X jJ t/\t E Y H
def Bd{X:Cx}{jJ:List Stmt}:tH X jJ (tAny X jJ):=λaj s Y H E I h=>let #[t,q,k]:=h;q aj s Y H E I k
section
def drop_cons{α:Type}{l:List α}{n:Nat}{a:α}(h:l[n]?=!a):l.drop n=a::l.drop (n+1):=by let(h1,h2):=dE.mp h;rw[List.drop_eq_getElem_cons h1,h2]
end
abbrev cD(lo:Int)(n:Nat):List D:=(List.range n).map λ(k:Nat)=>D.int (lo+(k:Int))
section
def HB{lo:Int}{n k:Nat}(h:k<n):(cD lo n)[k]?=!(.int (lo+(k:Int))):=by delta cD;rw[mI,Db h];rfl
def vQ{lo:Int}{n:Nat}:(cD lo n).length=n:=by delta cD;simp
def Du(h:cT X z [a] g [‹j›] g1)(hg:Gl X "range")(hm:X.mg "range"=none)(hs:starEach [a] X.env=[(false,eval a X.env)])(h1 : -(2 ^ 62)<=j)(h2:j<2 ^ 62) :
  ∃wi,PI X tg (.Call (.Name "range" p) [a] [] rp) wi/\∀Y As M H (Q:It->Hp->Prop),S z g Y As M H->(∀H' aC M',S z g1 Y aC M' H'->au M H M' H'->Q (TF 0 j.toNat) H')->wi Y H Q:=by
 let(t,q,k):=h;apply#[_,rG hg hm q hs,λY As M H Q s kk=>k Y As M H _ s λvs H' aC M' s' st R=>?_]
 cases R with
 |dat r R=>cases R;cases r;show#[j,rfl,h1,h2,kk H' aC M' s' st]
def Dw(h:cT X z [a,b] g [‹c›,‹j›] g1)(hg:Gl X "range")(hm:X.mg "range"=none)(hs:starEach [a,b] X.env=[(false,eval a X.env),(false,eval b X.env)])(hs2:starEach [b] X.env=[(false,eval b X.env)])
  (h1 : -(2 ^ 62)<=c/\c<2 ^ 62/\-(2 ^ 62)<=j/\j<2 ^ 62) {tg:Expr} :
  ∃wi,PI X tg (.Call (.Name "range" p) [a,b] [] rp) wi/\∀Y As M H (Q:It->Hp->Prop),S z g Y As M H->(∀H' aC M',S z g1 Y aC M' H'->au M H M' H'->Q (TF c (j - c).toNat) H')->wi Y H Q:=by
 let(t,q,k):=h;apply#[_,CW hg hm q hs hs2,λY As M H Q s kk=>k Y As M H _ s λvs H' aC M' s' st R=>?_]
 cases R with
 |dat r R=>cases R with |dat r2 R=>cases R;cases r;cases r2;show#[c,j,rfl,h1,kk H' aC M' s' st]
end
section
def Dy(hN:X.N[i]?=!x)(hv:kj X.env.scope x)(hd:(x==(~~~3))=false)(cP:(x==("__classdict__":Str))=false)(hg:g[i]?=!(.own l0))(h:cT X z [e] g [.dat d] g1)(rS:g1[i]?=!(.own l))(hl:l.length<16777216)
  (hbase:attributeBase (.Name x pn) "append" X.env (eval (.Name x pn) X.env)=eval (.Name x pn) X.env)
  (hline:(cZ.endLine==cA.line)=true) (hs:starEach [e] X.env=(false,eval e X.env)::starEach [] X.env):aB X z (.Call (.Attribute (.Name x pn) "append" cZ) [e] [] cA) g (.dat .non) (g1.set i (.own (l++[d]))):=by
 let(t,q,k):=h;apply#[_,Az AV PySem.F.slot_list_append PySem.F.type_list_append lP (dB hN hv hd cP) q hbase (by rw[hs];rfl) hline hs rfl,λY As M H Q s kk=>?_]
 let(a,xs,e1,e2,e3,e4):=s.sl.at hg;apply#[.ref a,e1,.inl #[rfl,xs,cQ.of e3],k Y As M H _ s λvs H' aC M' s' st R=>?_]
 let(b,ys,f1,f2,f3,f4):=s'.sl.at rS;rw[e1]at f1;injection f1 with f1;injection f1 with f1;injection f1 with f1;subst f1;cases R with
 |dat r R=>
  cases R;apply#[a,ys,_,rfl,rfl,f3,by rw[<- f4.length];show hl,?_]
  let(s2,aI):=s'.write rS e1 (f4.append (.cons r .nil));show kk _ _ aC M' s2 (st.trans aI) .non
end
section
def Nz(hN:X.N[i]?=!x)(hv:kj X.env.scope x)(hd:(x==(~~~3))=false)(cP:(x==("__classdict__":Str))=false)(h:aB X z e g (.dat d) g1)(rS:g1[i]?=!(.own l0))(h2:aB X z ix g1 ‹k› g2)(hg2:g2[i]?=!(.own l))(hj:yO l.length k=!j)
  (ha:∀v,assign (.Subscript (.Name x pn) ix fW) X.env v=(do
   let ov <- holding [v] (eval (.Name x pn) X.env)
   let iv <- holding [v,ov] (eval ix X.env)
   standAt fW
   holding [v,ov,iv] (setItem ov iv v)
   release [v,ov,iv] []))
  (hs:swapsWithSole [.Subscript (.Name x pn) ix fW] e pos.line X.env=pure false) (hw:swappedStores [.Subscript (.Name x pn) ix fW] e X.env=pure none)
  (h1:(assignEach [.Subscript (.Name x pn) ix fW] X.env).map (·.2)=[assign (.Subscript (.Name x pn) ix fW) X.env]) :
  fT X z (.Assign [.Subscript (.Name x pn) ix fW] e pos) g .nx (g2.set i (.own (l.set j d))):=by
 let(t,q,kk):=h;let(t2,q2,k2):=h2;apply#[_,GK q (Tw (dB hN hv hd cP) q2 set_list ha) hs hw h1,λY As M H E s kE=>kk Y As M H _ s λv H1 aL M1 s1 dz R1=>?_]
 let(a,xs,e1,e2,e3,e4):=s1.sl.at rS;apply#[.ref a,e1,k2 Y aL M1 H1 _ s1 λw H2 bu M2 s2 aI R2=>?_]
 let(b,ys,f1,f2,f3,f4):=s2.sl.at hg2;rw[e1]at f1;injection f1 with f1;injection f1 with f1;injection f1 with f1;subst f1;have R2':=R2;cases R2';apply#[a,ys,k,j,rfl,rfl,f3,by rw[<- f4.length];show hj,?_]
 let(s3,dY):=s2.write hg2 e1 (aE.set (Rep.stay aI R1) j f4);show kE Y bu M2 _ s3 (dz.trans (aI.trans dY))
def aE.eraseIdx{K:Frag}{M:List Addr}{H:Hp}:∀{ds:List D}{vs:List V} (n:Nat),aE K M H ds vs->aE K M H (ds.eraseIdx n) (vs.eraseIdx n)
 |_,_,_,.nil=>.nil
 |_,_,0,.cons _ t=>t
 |_,_,n+1,.cons r t=>.cons r (aE.eraseIdx n t)
def HD(hN:X.N[i]?=!x)(hv:kj X.env.scope x)(hd:(x==(~~~3))=false)(cP:(x==("__classdict__":Str))=false)(hg:g[i]?=!(.own l0))(h:cT X z [e] g [‹k›] g1)(rS:g1[i]?=!(.own l))(hk:yO l.length k=!j)(hy:l[j]?=!d)(hl:l.length<16777216)
  (hbase:attributeBase (.Name x pn) "pop" X.env (eval (.Name x pn) X.env)=eval (.Name x pn) X.env)
  (hline:(cZ.endLine==cA.line)=true) (hs:starEach [e] X.env=(false,eval e X.env)::starEach [] X.env):aB X z (.Call (.Attribute (.Name x pn) "pop" cZ) [e] [] cA) g (.dat d) (g1.set i (.own (l.eraseIdx j))):=by
 let(t,q,k0):=h;apply#[_,Az AV PySem.F.slot_list_pop PySem.F.type_list_pop G7 (dB hN hv hd cP) q hbase (by rw[hs];rfl) hline hs rfl,λY As M H Q s kk=>?_]
 let(a,xs,e1,e2,e3,e4):=s.sl.at hg;apply#[.ref a,e1,.inl #[rfl,xs,cQ.of e3],k0 Y As M H _ s λvs H' aC M' s' st R=>?_]
 let(b,ys,f1,f2,f3,f4):=s'.sl.at rS;rw[e1]at f1;injection f1 with f1;injection f1 with f1;injection f1 with f1;subst f1;cases R with
 |dat r R=>
  cases R;cases r;let(h1,h2,h3,h4):=tT hk;let(v,g1',Be):=f4.get hy;let(s2,aI):=s'.write rS e1 (aE.eraseIdx j f4);apply#[a,ys,k,j,v,rfl,rfl,f3,by lia,by lia,by rw[<- f4.length];show h1,g1',?_]
  show kk _ _ aC M' s2 (st.trans aI) (Be.stay aI)
end
abbrev cR:List R->G->Option G
 | [],_=>![]
 |.dat d::rs,g=>match cR rs g with |some gs=>!(.dat d::gs) |none=>none
 |.var i::rs,g=>match g[i]? with
  |!(.own l)=>match cR rs g with |some gs=>!(.own l::gs) |none=>none
  |_=>none
 |.new _::_,_=>none
abbrev vars:Nat->List R->List (Nat×Nat)
 |_,[]=>[]
 |j,.var i::rs=>(j,i)::vars (j+1) rs
 |j,.dat _::rs=>vars (j+1) rs
 |j,.new _::rs=>vars (j+1) rs
abbrev back:List (Nat×Nat)->G->G->Option G
 | [],_,g=>!g
 | (j,i)::ps,gc,g=>match gc[j]? with
  |!(.own l)=>back ps gc (g.set i (.own l))
  |_=>none
abbrev dG(bor:List Nat)(g':G):R->Option R
 |.dat d=>!(.dat d)
 |.new l=>!(.new l)
 |.var j=>if j∈bor then none else match g'[j]? with |!(.own l)=>!(.new l) |_=>none
abbrev adr(Y:Sg)(i:Nat):Addr:=match Y[i]? with |!(!(.ref a))=>a |_=>0
def jP(h:Y[i]?=!(!(.ref a))):adr Y i=a:=by delta adr;rw[h]
abbrev cE(Y:Sg)(ps:List (Nat×Nat)):List (Nat×Addr):=ps.map λp=>(p.1,adr Y p.2)
abbrev dW(n:Nat)(gs:G):G:=gs++List.replicate (n - gs.length) .no
def Slots.append{K:Frag}{M:List Addr}{H:Hp}{g1 g2:G}{σ1 σ2:Sg}{A1 A2:List Addr}(p:Slots K M H g1 σ1 A1)(q:Slots K M H g2 σ2 A2):Slots K M H (g1++g2) (σ1++σ2) (A1++A2):=by
 induction p with
 |nil=>show q
 |no p ih=>show .no ih
 |dat r p ih=>show .dat r ih
 |own e r p ih=>show .own e r ih
def Slots.nos{K:Frag}{M:List Addr}{H:Hp}:∀(n:Nat),Slots K M H (List.replicate n .no) (List.replicate n none) []
 | 0=>.nil
 |n+1=>by rw[AE];show .no (Slots.nos n)
section
def Slots.Bg{K:Frag}{g:G}{Y:Sg}{As:List Addr}{i j:Nat}{a:Addr}{l l':List D}(q:Slots K M H g Y As)(nd:As.Nodup)(e1:g[i]?=!(.own l))(e2:g[j]?=!(.own l'))(e3:Y[i]?=!(!(.ref a)))(e4:Y[j]?=!(!(.ref a))):i=j:=by
 induction q generalizing i j with
 |nil=>show nomatch (show none=!(Slot.own l)from e1)
 |no q ih=>cases i with
  |zero=>show nomatch (show some Slot.no=!(Slot.own l)from e1)
  |succ i=>cases j with
   |zero=>show nomatch (show some Slot.no=!(Slot.own l')from e2)
   |succ j=>show congrArg (· + 1) (ih nd e1 e2 e3 e4)
 |dat r q ih=>cases i with
  |zero=>show nomatch (show some (Slot.dat _)=!(Slot.own l)from e1)
  |succ i=>cases j with
   |zero=>show nomatch (show some (Slot.dat _)=!(Slot.own l')from e2)
   |succ j=>show congrArg (· + 1) (ih nd e1 e2 e3 e4)
 |@own g Y As b xs ds h r q ih=>
  have no:∀{i:Nat}{l:List D},g[i]?=!(.own l)->Y[i]?=!(!(.ref a))->b=a->False:=λ{i l} e1 e3 e=>by
   let(c,xs,h1,h2,_):=q.at e1;cases (show some (!(V.ref c))=!(!(V.ref a))from h1.symm.trans e3)
   show (hZ.mp nd).1 (e▸h2)
  cases i with
  |zero=>cases j with
   |zero=>rfl
   |succ j=>cases (show some (!(V.ref b))=!(!(V.ref a))from e3);show (no e2 e4 rfl).elim
  |succ i=>cases j with
   |zero=>cases (show some (!(V.ref b))=!(!(V.ref a))from e4);show (no e1 e3 rfl).elim
   |succ j=>show congrArg (· + 1) (ih (hZ.mp nd).2 e1 e2 e3 e4)
def oW(s:S z g Y As M H)(j:Nat)(q:jN z Y M H rs vs)(e:cR rs g=!gs) :
  gs.length=vs.length/\Slots z.K M H gs (vs.map some) ((cE Y (vars j rs)).map (·.2))/\
  (∀p∈cE Y (vars j rs),∃n l,p.1=j+n/\gs[n]?=!(.own l)/\vs[n]?=!(.ref p.2))/\
  (∀n l a,gs[n]?=!(.own l)->vs[n]?=!(.ref a)->(j+n,a)∈cE Y (vars j rs))/\
  (∀p∈vars j rs,∃l a,g[p.2]?=!(.own l)/\Y[p.2]?=!(!(.ref a))/\a∈As):=by
 induction q generalizing gs j with
 |nil=>cases e;show#[rfl,.nil,(λp hp=>nomatch hp),(λn l a h=>by simp at h),(λp hp=>nomatch hp)]
 |@dat d v rs vs r q ih=>
  delta cR at e;cases e2:cR rs g with
  |none=>rw[e2]at e;cases e
  |some gs=>
   rw[e2]at e;cases e;let(h1,h2,h3,h4,h5):=ih (j+1) e2;apply#[by simp[h1],.dat r h2,λp hp=>?_,λn l a e1 e3=>?_,h5]
   . let(n,l,q1,q2,q3):=h3 p hp;show#[n+1,l,by lia,by simpa using q2,by simpa using q3]
   .
    cases n with
    |zero=>simp at e1
    |succ n=>
     have:=h4 n l a (by simpa using e1) (by simpa using e3)
     rw[show j+(n+1)=j+1+n by lia]
     show this
 |@var i v rs vs r q ih=>
  delta cR at e;split at e
  .
   ext l hg;cases e2:cR rs g with
   |none=>rw[e2]at e;cases e
   |some gs=>
    rw[e2]at e;cases e;let(h1,h2,h3,h4,h5):=ih (j+1) e2;let(a,xs,f1,f2,f3,f4):=s.sl.at hg;have ea:=jP f1;rw[r]at f1;injection f1 with f1;injection f1 with f1;subst f1;have el:cE Y (vars j (.var i::rs))=(j,a)::cE Y (vars (j+1) rs):=by exact (j,adr Y i)::cE Y (vars (j+1) rs)=_;rw[ea]
    rw[el];apply#[by simp[h1],.own f3 f4 h2,λp hp=>?_,λn l' b e1 e3=>?_,λp hp=>?_]
    .
     rcases dS.mp hp with rfl |hp
     . show#[0,l,rfl,rfl,rfl]
     . let(n,l,q1,q2,q3):=h3 p hp;show#[n+1,l,by lia,by simpa using q2,by simpa using q3]
    .
     cases n with
     |zero=>
      have e4:a=b:=by simpa using e3
      subst e4;show dA
     |succ n=>
      have:=h4 n l' b (by simpa using e1) (by simpa using e3)
      rw[show j+(n+1)=j+1+n by lia]
      show bP _ this
    .
     rcases dS.mp (show p∈(j,i)::vars (j+1) rs from hp)with rfl |hp
     . show#[l,a,hg,r,f2]
     . show h5 p hp
  . cases e
def rT{α β:Type}{f:α->β}:∀{l:List α},l.Nodup->(∀a∈l,∀b∈l,f a=f b->a=b)->(l.map f).Nodup
 | [],_,_=>t8
 |x::l,nd,h=>by
  apply hZ.mpr #[λhm=>?_,rT (hZ.mp nd).2 λa ha b hb=>h a (bP _ ha) b (bP _ hb)]
  let(y,hy,e):=fR.mp hm;have:=h y (bP _ hy) x dA e;show (hZ.mp nd).1 (this▸hy)
abbrev rW(z:Z)(Y:Sg)(M:List Addr)(H:Hp)(rs:List R):Z:=#[z.K,H,M,cE Y (vars 0 rs),z.T]
def lU:(rW z Y M H rs).bor=(vars 0 rs).map (·.1):=by exact (cE Y (vars 0 rs)).map (·.1)=_;delta cE;rw[List.map_map];rfl
def S.enter(s:S z g Y As M H){rs:List R}{vs:List V}{gs:G}{N:List Str}(r:jN z Y M H rs vs)(e:cR rs g=!gs)(nd:((vars 0 rs).map (·.2)).Nodup) :
  S (rW z Y M H rs) (dW N.length gs) (start N vs) ((cE Y (vars 0 rs)).map (·.2)) M H:=by
 let(h1,h2,h3,h4,h5):=oW s 0 r e;have eB:(cE Y (vars 0 rs)).map (·.2)=((vars 0 rs).map (·.2)).map (adr Y):=by delta cE;rw[List.map_map,List.map_map];rfl
 have mem:∀b∈(cE Y (vars 0 rs)).map (·.2),b∈As:=λb hb=>by
  let(i,hi,e):=fR.mp hb;let(p,hp,e'):=fR.mp hi;let(l,a,q1,q2,q3):=h5 p hp;subst e';rw[jP q2]at e;subst e;show q3
 have pre:∀{n:Nat}{o:Slot},gs[n]?=!o->(dW N.length gs)[n]?=!o:=λ{n o} q=>by
  delta dW;rw[eA (dE.mp q).1];show q
 have ownB:∀(n:Nat) (l:List D),(dW N.length gs)[n]?=!(.own l)->gs[n]?=!(.own l):=λn l q=>by
  delta dW at q;rcases sK n gs.length with h |h
  . rw[eA h]at q;show q
  . rw[fA h]at q;have:=i6 q;rw[w8]at this;show absurd this.2 ⋯
 have st:∀{n:Nat}{v:V},vs[n]?=!v->(start N vs)[n]?=!(!v):=λ{n v} q=>by
  delta L2.start;rw[eA (by rw[eJ];show (dE.mp q).1),mI,q]
  rfl
 have st':∀{n:Nat}{v:V},(start N vs)[n]?=!(!v)->vs[n]?=!v:=λ{n v} q=>by
  delta L2.start at q;rcases sK n vs.length with h |h
  .
   rw[eA (by rw[eJ];show h),mI]at q
   cases e:vs[n]? with
   |none=>rw[e]at q;cases q
   |some w=>rw[e]at q;injection q with q
  .
   rw[fA (by rw[eJ];show h)]at q
   have:=i6 q;rw[w8]at this;show absurd this.2 ⋯
 apply#[?_,?_,λa ha=>s.sub a (mem a ha),λn a l q1 q2=>.inl ?_,s.live,λb o e _ _=>e,λm hm=>hm,λm hm=>?_,λb hb=>s.sub b (mem b hb),λp hp=>?_,s.tab,λp hp=>s.fX _ (s.tm p hp),s.tt]
 .
  have q:=h2.append (Slots.nos (N.length - gs.length));rw[l9]at q;have e':start N vs=vs.map some++List.replicate (N.length - gs.length) none:=by delta L2.start;rw[h1]
  rw[e'];show q
 .
  rw[eB];apply rT nd λi hi j hj e=>?_
  let(p,hp,rfl):=fR.mp hi;let(p',lK,rfl):=fR.mp hj;let(l,a,q1,q2,q3):=h5 p hp;let(l',a',yt,yu,HF):=h5 p' lK;rw[jP q2,jP yu]at e;subst e;show s.sl.Bg s.nd q1 yt q2 yu
 . have hm:=h4 n l a (ownB n l q1) (st' q2);rw[A4]at hm;show#[u7 hm,u7 hm]
 . show λe=>s.fresh e hm
 . let(n,l,q1,q2,q3):=h3 p hp;rw[A4]at q1;rw[q1];show#[st q3,l,pre q2]
def Slots.transfer{K:Frag}{M M2:List Addr}{H H':Hp}(st:au M H M2 H'){g g2:G}{Y:Sg}{As:List Addr}(q:Slots K M H g Y As)(hl:g2.length=g.length)
  (h1:∀(i:Nat) (l:List D) (a:Addr),g[i]?=!(.own l)->Y[i]?=!(!(.ref a))->∃l' xs',g2[i]?=!(.own l')/\H' a=!(.lst xs')/\aE K M2 H' l' xs')
  (h2:∀(i:Nat) (o:Slot),g[i]?=!o->(∀l,o≠.own l)->g2[i]?=!o):Slots K M2 H' g2 Y As:=by
 induction q generalizing g2 with
 |nil=>cases g2 with
  |nil=>show .nil
  |cons a b=>cases hl
 |no q ih=>cases g2 with
  |nil=>cases hl
  |cons a b=>
   cases (show some a=!Slot.no from h2 0 .no rfl (λl z=>nomatch z))
   show .no (ih (CI hl) (λi l a e1 e2=>h1 (i+1) l a e1 e2) λi o e1 e2=>h2 (i+1) o e1 e2)
 |@dat g Y As v d r q ih=>cases g2 with
  |nil=>cases hl
  |cons a b=>
   cases (show some a=!(Slot.dat d)from h2 0 (.dat d) rfl (λl z=>nomatch z))
   show .dat (r.stay st) (ih (CI hl) (λi l a e1 e2=>h1 (i+1) l a e1 e2) λi o e1 e2=>h2 (i+1) o e1 e2)
 |@own g Y As a0 xs ds e0 r q ih=>cases g2 with
  |nil=>cases hl
  |cons a b=>
   let(l',xs',e1,e2,e3):=h1 0 _ a0 rfl rfl;cases (show some a=!(Slot.own l')from e1)
   show .own e2 e3 (ih (CI hl) (λi l a e1 e2=>h1 (i+1) l a e1 e2) λi o e1 e2=>h2 (i+1) o e1 e2)
def rX:∀{ps:List (Nat×Nat)}{g gO:G},back ps gc g=!gO->(ps.map (·.2)).Nodup->gO.length=g.length/\
  (∀i,i∉ps.map (·.2)->gO[i]?=g[i]?)/\∀p∈ps,p.2<g.length->∃l,gc[p.1]?=!(.own l)/\gO[p.2]?=!(.own l)
 | [],g,gO,e,_=>by cases e;show#[rfl,λ_ _=>rfl,λp hp=>nomatch hp]
 | (j,i)::ps,g,gO,e,nd=>by
  delta back at e;split at e
  .
   ext l hg;let(h1,h2,h3):=rX e (hZ.mp nd).2;apply#[by rw[h1,wT],λk hk=>?_,λp hp hlt=>?_]
   .
    have n1:k∉ps.map (·.2):=λz=>hk (bP _ z)
    have n2:i≠k:=λz=>hk (z▸dA)
    rw[h2 k n1,fI n2]
   .
    rcases dS.mp hp with rfl |hp
    . apply#[l,hg,?_];have hlt':=hlt;rw[h2 i (hZ.mp nd).1,hV hlt']
    . show h3 p hp (by rw[wT];show hlt)
  . cases e
def S.leave(s:S z g Y As M H){rs:List R}{vs:List V}{gs gc gO:G}{σc:Sg}{Ac Mc:List Addr}{Hc:Hp}{r r':R}{v:V}(rw':jN z Y M H rs vs)(e:cR rs g=!gs)(nd:((vars 0 rs).map (·.2)).Nodup)
  (sc:S (rW z Y M H rs) gc σc Ac Mc Hc) (st:au M H Mc Hc) (q:dh (rW z Y M H rs) gc σc Ac Mc Hc r v) (hb:back (vars 0 rs) gc g=!gO) (hr:dG ((vars 0 rs).map (·.1)) gc r=!r') :
  ∃M2,S z gO Y As M2 Hc/\au M H M2 Hc/\dh z gO Y As M2 Hc r' v:=by
 let(h1,h2,h3,h4,h5):=oW s 0 rw' e;let(b1,b2,b3):=rX hb nd;have hM:=sc.fX;have core:∀M2:List Addr,(∀m∈M,m∈M2)->(∀m∈M2,m∈Mc)->au M H M2 Hc->S z gO Y As M2 Hc:=by
  intro M2 m1 m2 aI;apply#[s.sl.transfer aI b1 (λi l a e1 e2=>?_) (λi o e1 e2=>?_),s.nd,λa ha=>m1 a (s.sub a ha),λi a l e1 e2=>?_,λm hm=>sc.live m (m2 m hm),λb o e1 e2 et=>?_,λm hm=>m1 m (s.fX m hm),s.m0,s.bm,λp hp=>#[(s.gF p hp).1,?_],sc.tab,s.tm,s.tt]
  .
   by_cases hi:i∈(vars 0 rs).map (·.2)
   . let(p,hp,rfl):=fR.mp hi;let(l',q1,q2):=b3 p hp (dE.mp e1).1;have hl:(p.1,adr Y p.2)∈cE Y (vars 0 rs):=u7 hp;let(c1,c2):=sc.gF _ hl;let(a',xs,d1,d2,d3,d4):=sc.sl.at q1;rw[c1]at d1;injection d1 with d1;injection d1 with d1;injection d1 with d1;rw[jP e2]at d1;subst d1;show#[l',xs,q2,d3,aE.stay (au.less m2) d4]
   .
    let(a',xs,d1,d2,d3,d4):=s.sl.at e1;rw[e2]at d1;injection d1 with d1;injection d1 with d1;injection d1 with d1;subst d1;apply#[l,xs,by rw[b2 i hi];show e1,sc.keep a _ d3 (λhB=>?_) (s.RJ d3),d4.stay aI]
    let(p,hp,ep):=fR.mp (show a∈(cE Y (vars 0 rs)).map (·.2)from hB);let(p',lK,rfl):=fR.mp hp;let(l2,a2,q1,q2,q3):=h5 p' lK;have yD:=ep;rw[jP q2]at yD;subst yD;have:=s.sl.Bg s.nd e1 q1 e2 q2;show hi (this▸u7 lK)
  .
   apply (b2 i λhi=>?_).trans e1
   let(p,hp,rfl):=fR.mp hi;let(l2,a2,q1,q2,q3):=h5 p hp;rw[e1]at q1;injection q1 with q1;show e2 l2 q1
  .
   by_cases hi:i∈(vars 0 rs).map (·.2)
   . let(p,hp,rfl):=fR.mp hi;let(l2,a2,q1,q2,q3):=h5 p hp;show s.own p.2 a l2 q1 e2
   . rw[b2 i hi]at e1;show s.own i a l e1 e2
  .
   have e3:=s.keep b o e1 e2 et;apply sc.keep b o e3 (λhB=>?_) et
   let(p,hp,ep):=fR.mp (show b∈(cE Y (vars 0 rs)).map (·.2)from hB);let(p',lK,rfl):=fR.mp hp;let(l2,a2,q1,q2,q3):=h5 p' lK;have yD:=ep;rw[jP q2]at yD;subst yD;rcases s.own p'.2 a2 l2 q1 q2 with w |w
   . show e2 w.2
   . rw[w]at e1;cases e1
  .
   by_cases hi:p.1∈(vars 0 rs).map (·.2)
   . let(p',lK,e'):=fR.mp hi;have e'':=e';let(l2,a2,q1,q2,q3):=h5 p' lK;let(l',yt,yu):=b3 p' lK (dE.mp q1).1;show#[l',by rw[<- e''];show yu]
   . rw[b2 p.1 hi];show (s.gF p hp).2
 have new:∀(a:Addr) (xs:List V) (l:List D),v=.ref a->a∈Mc->H a=none->Hc a=!(.lst xs)->aE z.K Mc Hc l xs->∃M2,S z gO Y As M2 Hc/\au M H M2 Hc/\dh z gO Y As M2 Hc (.new l) v:=by
  intro a xs l ev hm h0 hx rr;have m2:∀m∈a::M,m∈Mc:=λm hm'=>(dS.mp hm').elim (λe=>e▸hm) (hM m)
  have aI:=st.trans (au.less m2);apply#[a::M,core _ (λm hm'=>bP _ hm') m2 aI,aI,a,xs,ev,dA,λhA=>?_,s.cC h0,hx,rr.stay (au.less m2)]
  show s.fresh h0 (s.sub a hA)
 cases r with
 |dat d=>cases hr;have aI:=st.trans (au.less hM);show#[M,core M (λm h=>h) hM aI,aI,Rep.stay (au.less hM) q]
 |new l=>cases hr;let(a,xs,rfl,c1,c2,c3,c4,c5):=q;show new a xs l rfl c1 c3 c4 c5
 |var j=>
  let(l,q1,q2):=q;have hr:(if j∈(vars 0 rs).map (·.1)then none else match gc[j]? with |!(.own l)=>!(R.new l) |_=>none)=!r':=hr
  split at hr
  . cases hr
  .
   ext hj;rw[q1]at hr;cases hr;let(a,xs,d1,d2,d3,d4):=sc.sl.at q1;rw[q2]at d1;injection d1 with d1;injection d1 with d1;subst d1;apply new a xs l rfl (sc.sub a d2) ?_ d3 d4;rcases sc.own j a l q1 q2 with w |w
   . have w':=w.1;rw[lU]at w';show absurd w' hj
   . show w
end
def jN.length(q:jN z Y M H rs vs):vs.length=rs.length:=by
 induction q with
 |nil=>rfl
 |dat r q ih=>show congrArg (· + 1) ih
 |var r q ih=>show congrArg (· + 1) ih
abbrev RN(K:Frag)(N:List Str)(np:Nat)(run:List Nat->G->R->G->Prop):Sp:=λvs H Q _=>
 vs.length=np/\∃(z:Z) (g g':G) (As M:List Addr) (r:R),z.K=K/\S z g (start N vs) As M H/\run z.bor g r g'/\
  ∀v σ' aC M' H',S z g' σ' aC M' H'->au M H M' H'->dh z g' σ' aC M' H' r v->Q v H'
section
variable{run:List Nat->G->R->G->Prop}
def Bh(F:jK X.prog X.w X.K X.mg X.base yQ k f fd ps (RN X.K N ps.length run))(hK:z.K=X.K)(hr:cB k X.A)(hg:Gl X x)(hm:X.mg x=!(.ref f))(hk:PySem.W.keepIn X.K (.ref f)=true)(hb:Binds X.K fd ps [])
  (ha:cT X z (e::es) g rs g1) (aK:rs.length=ps.length) (hl:cR rs g1=!gs) (nd:((vars 0 rs).map (·.2)).Nodup) (hrun:run ((vars 0 rs).map (·.1)) (dW N.length gs) r gc) (HJ:back (vars 0 rs) gc g1=!gO) (ho:dG ((vars 0 rs).map (·.1)) gc r=!r')
  (ku:(x==(~~~3))=false) (he:starEach (e::es) X.env=(false,eval e X.env)::starEach es X.env) (ig:(backTo pos (starEach es X.env)).any (·.1)=false) :
  aB X z (.Call (.Name x p) (e::es) [] pos) g r' gO:=by
 let(t,q,kk):=ha;apply#[_,Au F hr hg hm hk hb .nil Ry q ku he ig,λY As M H Q s kq=>kk Y As M H _ s λvs H1 aL M1 s1 dz R1=>?_]
 have hv:=R1.length;have ee:=s1.enter (N:=N) R1 hl nd;apply#[by rw[l9,hv];show aK,rW z Y M1 H1 rs,dW N.length gs,gc,_,M1,r,hK,by rw[l9];show ee,by rw[lU];show hrun,λv σ' aC M' H' s' st' R'=>?_]
 let(M2,s2,aI,R2):=s1.leave R1 hl nd s' st' R' HJ ho;show kq v H' aL M2 s2 (dz.trans aI) R2
def HN{P:Program}{w:World}{K:Frag}{mg:Str->Option Value}{base:Heap}{qual:Str}{st:Stmt}(F:MK K x qual st f fd)(Sc:bZ N ps (aD st))
  (h:∀(bG:Value) (A:Around) (outer:List Env) (s:Shared) (H:Hp) (E:XK),PySem.W.codeIn K bG qual=true->cB k (A.deeper (envOfC qual (aD st) s⁻¹ f bG))->
   ∀(z:Z) (g:G) (r:R) (g':G),z.K=K->run z.bor g r g'->∃fl,eV (gJ yQ P w K mg base N qual (aD st) f bG A outer s H E).tL z (bx st) g fl g'/\(fl=.rt r\/(fl=.nx/\r=.dat .non))) :
  jK P w K mg base yQ (k+1) f fd ps (RN K N ps.length run):=by
 let(oc,od,kV,doc,pm,an,bG,ct,osl,rfl,lk,cP):=F.ex;apply Rv lk cP Sc (λvs H Q E q=>q.1) ?_
 rintro A outer s H vs Q E hr ⟨_,z,g,g',As,M,r,hK,hs,hrun,hQ⟩;let(fl,(t,q,kk),hfl):=h bG A outer s H E cP hr z g r g' hK hrun;apply#[t,q.tL,kk _ As M H _ hs ?_];rcases hfl with rfl |⟨rfl,rfl⟩
 . show λv σ' aC M' H' s' st' R'=>hQ v σ' aC M' H' s' st' R'
 . show λσ' aC M' H' s' st'=>hQ .non σ' aC M' H' s' st' .non
end
inductive Tg where
 |nm (i:Nat) |tp (is:List Nat)
abbrev lV:List Nat->List D->G->G
 |i::is,d::ds,g=>lV is ds (g.set i (.dat d))
 | [],_,g=>g
 |_::_,[],g=>g
abbrev Tg.ix:Tg->List Nat
 |.nm i=>[i]
 |.tp is=>is
abbrev Tg.set:Tg->D->G->Option G
 |.nm i,d,g=>!(g.set i (.dat d))
 |.tp is,.tup ds,g=>if ds.length=is.length then some (lV is ds g)else none
 |.tp is,.lst ds,g=>if ds.length=is.length then some (lV is ds g)else none
 |.tp _,_,_=>none
abbrev rY(is:List Nat)(Y σ':Sg):Prop:=σ'.length=Y.length/\∀j,j∉is->σ'[j]?=Y[j]?
def rY.refl(is:List Nat)(Y:Sg):rY is Y Y:=#[rfl,λ_ _=>rfl]
def rY.trans{is:List Nat}{Y σ1 σ2:Sg}(a:rY is Y σ1)(b:rY is σ1 σ2):rY is Y σ2:=#[b.1.trans a.1,λj h=>(b.2 j h).trans (a.2 j h)]
def rY.mono(h:∀i∈is,i∈js)(a:rY is Y σ'):rY js Y σ':=#[a.1,λj hj=>a.2 j λz=>hj (h j z)]
abbrev eW(X:Cx)(z:Z)(tg:Expr)(T:Tg):Prop:=∃t,PG X tg t/\∀d g g',T.set d g=!g'->∀v Y As M H (Q:Sg->Hp->Prop),S z g Y As M H->Rep z.K M H d v->(∀σ' aC,S z g' σ' aC M H->rY T.ix Y σ'->Q σ' H)->t v Y H Q
structure oX(X:Cx)(x:Str)(i:Nat):Prop where
 nd:X.N.Nodup
 ix:X.N[i]?=!x
 lc:Loc X.env.scope x
 fn:X.fn x=true\/X.env.scope.names.lookup x=some .local
section
def Z3(h:oX X x i)(hb:i∉z.bor):eW X z (.Name x pos) (.nm i):=
 #[_,kI h.nd h.ix h.lc h.fn,λd g g' e v Y As M H Q s r k=>by
  cases e;let(aC,s'):=s.iC hb r;show k _ aC s' #[by rw[wT],λj hj=>by rw[fI (λe=>hj (by rw[<- e];show hU.mpr rfl))]]]
inductive kP(X:Cx):List Expr->List Nat->Prop
 |nil:kP X [] []
 |cons {x:Str}{p:Pos}{i:Nat}{es:List Expr}{is:List Nat}:oX X x i->kP X es is->kP X (.Name x p::es) (i::is)
def kP.plain(h:kP X es is):(assignEach es X.env).length=is.length/\(assignEach es X.env).findIdx? (·.1)=none:=by
 induction h with
 |nil=>show#[rfl,rfl]
 |cons _ _ ih=>
  apply#[?_,?_]
  . exact (assignEach _ X.env).length+1=_;rw[ih.1];rfl
  . exact List.findIdx? _ ((false,assign _ X.env)::assignEach _ X.env)=none;rw[List.findIdx?_cons,ih.2];rfl
def kP.pgs(h:kP X es is)(hb:∀i∈is,i∉z.bor):∃t,Yi X es t/\∀ds vs g Y As M H (Q:Sg->Hp->Prop),ds.length=is.length->S z g Y As M H->aE z.K M H ds vs->(∀σ' aC,S z (lV is ds g) σ' aC M H->rY is Y σ'->Q σ' H)->t vs Y H Q:=by
 induction h with
 |nil=>
  apply#[_,Aq,λds vs g Y As M H Q hl s r k=>?_]
  cases r with
  |nil=>show#[rfl,k Y As s (rY.refl _ _)]
  |cons _ _=>simp at hl
 |@cons x p i es is hn hs ih=>
  let(t,q,kk):=ih λj hj=>hb j (bP _ hj)
  apply#[_,n6 (kI hn.nd hn.ix hn.lc hn.fn) q rfl,λds vs g Y As M H Q hl s r k=>?_]
  cases r with
  |nil=>simp at hl
  |@cons d ds v vs r rs=>
   let(aL,s1):=s.iC (hb i dA) r;apply#[v,vs,rfl,kk ds vs _ _ aL M H Q (by simpa using hl) s1 rs λσ' aC s' a=>k σ' aC s' ?_]
   apply rY.trans #[by rw[wT],λj hj=>?_] (a.mono λj hj=>bP _ hj)
   rw[fI (λe=>hj (by rw[<- e];show dA))]
def yV(ne:l≠it)(n:Nat):∀(i:Nat) (s:Shared) (Q:List Value->Shared->Prop),s.heap.IsListIter it l i->s.heap.IsList l xs->i+n=xs.size->
  (∀h',h'.IsListIter it l xs.size->Heap.SameBut it s.heap h'->Q (xs.toList.drop i) { s with heap:=h'})->wpAny (model prog w) A (draw (.ref it) n) Q E s:=by
 induction n with
 |zero=>
  intro i s Q hit _ hi k;have e:xs.toList.drop i=[]:=List.drop_eq_nil_of_le (by rw[oD];lia)
  have q:=k s.heap (by rw[<- hi];show hit) (Heap.SameBut.refl ..)
  rw[e]at q;show dC q
 |succ n ih=>
  intro i s Q hit hl hi k;have hlt:i<xs.size:=by lia
  apply aS (wpAny_pyNext_list_item hit hl (x:=xs[i]) (by simp[hlt]) λh1 b1 c1=>?_)
  apply aS (mE (ih (i+1) _ _ b1 (hl.extBut c1.extBut ne) ⋯ λh2 b2 c2=>dC ?_))
  have q:=k h2 b2 (c1.trans c2);rw[List.drop_eq_getElem_cons (by rw[oD];show hlt)]at q
  show q
def vR(hh:A.handled=none)(hl:s.heap.IsList l xs)
  (k:∀h',Heap.ExtBut s⁻¹ s.heap h'->Q xs.toList { s with heap:=h'}):wpAny (model prog w) A (unpackItems (.ref l) xs.size none) Q E s:=by
 have ne:l≠s⁻¹:=by let(o,ho,_):=hl;show kS (eQ ho)
 apply aS ?_;apply aS (wpAny_specialOf hl.typeIs slot_list_iter.lookup ?_);apply dC ?_;apply aS (mE (B9 hl ?_));apply aS (mE (yV ne xs.size 0 _ _ #[_,eC _ rfl,rfl,rfl] (hl.push _) (A4 _) λh1 b1 c1=>?_))
 rw[i7 ⋯];apply aS (mE (wpAny_pyNext_list_end hh b1 ((hl.push _).extBut c1.extBut ne) ⋯ λh2 e2=>?_))
 show dC (k h2 λb o nb e=>e2 b o nb (c1.extBut b o nb (b0 _ e)))
abbrev gSeq(K:Frag)(n:Nat)(t:Tt):TG:=λv Y H Q=>∃a xs,v=.ref a/\(iu K H a xs\/cQ K H a xs)/\xs.length=n/\t xs Y H Q
def Vg(hc:X.calm=true)(h:Yi X es t)(hn:(assignEach es X.env).length=n)(cH:(assignEach es X.env).findIdx? (·.1)=none):PG X (.Tuple es k pos) (gSeq X.K n t):=by
 intro aj s Y H v u Q I r hw;let(a,xs,e1,hq,hl,hw):=hw;rcases hq with hq |hq
 . show GJ hc h hn cH aj s Y H v u Q I r #[a,xs,e1,hq,hl,hw]
 .
  subst e1;cases r;let(its,rv,pl,hz):=I.list hq;apply aS (t9 ?_);delta unpack;rw[cH,show (assignEach es X.env).length=its.toArray.size by rw[hn,<- hl,rv.length,dL]]
  apply aS (mE (vR (I.ok.hd hc) pl.isList λh' hx=>?_))
  have I1:=I.kept (t':=s.toks) λb o e=>hx b o (kS (eQ e)) e
  show h aj _ Y H xs _ Q I1 (by simpa using rv) hw
def Z4(hc:X.calm=true)(hK:z.K=X.K)(h:kP X es is)(hb:∀i∈is,i∉z.bor):eW X z (.Tuple es k pos) (.tp is):=by
 let(t,q,kk):=h.pgs hb;apply#[_,Vg hc q h.plain.1 h.plain.2,λd g g' e v Y As M H Q s r k=>?_]
 cases d with
 |tup ds=>
  have e:(if ds.length=is.length then some (lV is ds g)else none)=!g':=e
  by_cases hl:ds.length=is.length
  .
   rw[i8 hl]at e;cases e;cases r with
   |@tup _ a xs ha rr=>show#[a,xs,rfl,.inl (hK▸ha.sq),by rw[<- rr.length];show hl,kk ds xs g Y As M H Q hl s rr k]
  . rw[i7 hl]at e;cases e
 |lst ds=>
  have e:(if ds.length=is.length then some (lV is ds g)else none)=!g':=e
  by_cases hl:ds.length=is.length
  .
   rw[i8 hl]at e;cases e;cases r with
   |@lst _ a xs ha rr=>show#[a,xs,rfl,.inr (cQ.of ha.2),by rw[<- rr.length];show hl,kk ds xs g Y As M H Q hl s rr k]
  . rw[i7 hl]at e;cases e
 |_=>cases e
abbrev Jt(J:It)(ak:List D)(K:Frag)(M1:List Addr)(H1:Hp):Prop:=
 ∀M2 H2,au M1 H1 M2 H2->(∀n d,ak[n]?=!d->J.go n H2/\∀x H',J.Yj n H2 x H'->∀(z:Z) g Y As,z.K=K->S z g Y As M2 H2->S z g Y As M2 H'/\au M2 H2 M2 H'/\Rep K M2 H' d x)/\J.stop ak.length H2
abbrev dg(X:Cx)(z:Z)(tg iter:Expr)(g:G)(ak:List D)(g1:G):Prop:=
 ∃wi,PI X tg iter wi/\∀Y As M H (R:It->Hp->Prop),S z g Y As M H->(∀J H' aC M',S z g1 Y aC M' H'->au M H M' H'->Jt J ak z.K M' H'->R J H')->wi Y H R
def Vh(hK:z.K=X.K)(h:aB X z iter g (.dat (.tup l)) g1):dg X z tg iter g l g1:=by
 let(t,q,k):=h;apply#[_,GR q,λY As M H R s kk=>k Y As M H _ s λv H1 aL M1 s1 dz r=>?_]
 have r':=r;cases r' with
 |@tup _ a xs ha rr=>
  apply#[a,rfl,#[xs,hK▸ha.sq],kk _ H1 aL M1 s1 dz λM2 H2 aI=>?_]
  have ha2:TupAt z.K M2 H2 a xs:=by
   rcases ha with ⟨na,hr⟩ |hk
   . show .inl (aI.rd na hr)
   . show .inr hk
  have Gh:=rr.stay aI;apply#[λn d hd=>?_,xs,hK▸ha2.sq,by rw[rr.length];show eD _]
  let(x,e1,e2):=Gh.get hd;apply#[#[xs,x,hK▸ha2.sq,e1],λy H' hy z' g' σ' aC _ s'=>?_]
  let(rfl,hy):=hy;have:=hy xs (hK▸ha2.sq);rw[e1]at this;cases this;show#[s',au.refl _ _,e2]
def Vi(h:aB X z iter g (.dat (.lst l)) g1):dg X z tg iter g l g1:=by
 let(t,q,k):=h;apply#[_,Ar q,λY As M H R s kk=>k Y As M H _ s λv H1 aL M1 s1 dz r=>?_]
 have r':=r;cases r' with
 |@lst _ a xs ha rr=>
  apply#[a,rfl,#[xs,cQ.of ha.2],kk _ H1 aL M1 s1 dz λM2 H2 aI=>?_]
  have ha2:=(aI _ _ ha.2 ha.1).1;have Gh:=rr.stay aI;apply#[λn d hd=>?_,xs,cQ.of ha2,by rw[rr.length];show eD _]
  let(x,e1,e2):=Gh.get hd;apply#[#[xs,x,cQ.of ha2,e1],λy H' hy z' g' σ' aC _ s'=>?_]
  let(rfl,hy):=hy;have:=hy xs (cQ.of ha2);rw[e1]at this;cases this;show#[s',au.refl _ _,e2]
def Vj(hK:z.K=X.K)(h:aB X z iter g (.dat (.fix l)) g1):dg X z tg iter g l g1:=by
 let(t,q,k):=h;apply#[_,Ar q,λY As M H R s kk=>k Y As M H _ s λv H1 aL M1 s1 dz r=>?_]
 have r':=r;cases r' with
 |@fix _ a xs ha rr=>
  apply#[a,rfl,#[xs,hK▸ha.sq],kk _ H1 aL M1 s1 dz λM2 H2 aI=>?_]
  have ha2:mR z.K M2 H2 a xs:=by
   rcases ha with ⟨na,o,hr⟩ |hk
   . show .inl #[(aI _ _ hr na).2,o,(aI _ _ hr na).1]
   . show .inr hk
  have Gh:=rr.stay aI;apply#[λn d hd=>?_,xs,hK▸ha2.sq,by rw[rr.length];show eD _]
  let(x,e1,e2):=Gh.get hd;apply#[#[xs,x,hK▸ha2.sq,e1],λy H' hy z' g' σ' aC _ s'=>?_]
  let(rfl,hy):=hy;have:=hy xs (hK▸ha2.sq);rw[e1]at this;cases this;show#[s',au.refl _ _,e2]
def HQ{lo:Int}{n:Nat}{K:Frag}{M:List Addr}{H:Hp}:Jt (TF lo n) (cD lo n) K M H:=λM2 H2 _=>by
 apply#[λk d hd=>?_,?_]
 .
  have hk:k<n:=by have:=(dE.mp hd).1;rw[vQ]at this;show this
  rw[HB hk]at hd;cases hd;apply#[hk,λx H' hx z' g' σ' aC _ s'=>?_]
  let(rfl,rfl):=hx;show#[s',au.refl _ _,.int _]
 . exact n<=(cD lo n).length;rw[vQ];show eD _
def NB(h:cT X z [a] g [‹j›] g1)(hg:Gl X "range")(hm:X.mg "range"=none)(hs:starEach [a] X.env=[(false,eval a X.env)])(h1 : -(2 ^ 62)<=j)(h2:j<2 ^ 62) :
  dg X z tg (.Call (.Name "range" p) [a] [] rp) g (cD 0 j.toNat) g1:=by
 let(wi,q,k):=Du h hg hm hs h1 h2;show#[wi,q,λY As M H R s kk=>k Y As M H _ s λH' aC M' s' st=>kk _ H' aC M' s' st HQ]
def NC(h:cT X z [a,b] g [‹c›,‹j›] g1)(hg:Gl X "range")(hm:X.mg "range"=none)(hs:starEach [a,b] X.env=[(false,eval a X.env),(false,eval b X.env)])(hs2:starEach [b] X.env=[(false,eval b X.env)])
  (h1 : -(2 ^ 62)<=c/\c<2 ^ 62/\-(2 ^ 62)<=j/\j<2 ^ 62):dg X z tg (.Call (.Name "range" p) [a,b] [] rp) g (cD c (j - c).toNat) g1:=by
 let(wi,q,k):=Dw h hg hm hs hs2 h1;show#[wi,q,λY As M H R s kk=>k Y As M H _ s λH' aC M' s' st=>kk _ H' aC M' s' st HQ]
inductive fU(X:Cx)(z:Z)(body:List Stmt)(T:Tg):List D->G->Fl->G->Prop
 |nil {g:G}:fU X z body T [] g .nx g
 |next {d:D}{l:List D}{g g0 g1 g2:G}{f:Fl}:T.set d g=!g0->eV X z body g0 .nx g1->fU X z body T l g1 f g2->fU X z body T (d::l) g f g2
 |cont {d:D}{l:List D}{g g0 g1 g2:G}{f:Fl}:T.set d g=!g0->eV X z body g0 .ct g1->fU X z body T l g1 f g2->fU X z body T (d::l) g f g2
 |brk {d:D}{l:List D}{g g0 g1:G}:T.set d g=!g0->eV X z body g0 .bk g1->fU X z body T (d::l) g .nx g1
 |ret {d:D}{l:List D}{g g0 g1:G}{r:R}:T.set d g=!g0->eV X z body g0 (.rt r) g1->fU X z body T (d::l) g (.rt r) g1
def ar1{i m n:Nat}(h:i+m=n)(hi:i<n):m - 1<m/\i+1+(m - 1)=n:=by lia
def jd{J:It}{ak:List D}{K:Frag}{M1:List Addr}{H1 H0:Hp}{σ0:Sg}{Qn:Sg->Hp->Prop}{Body:V->Sg->Hp->(Sg->Hp->Prop)->Prop}(hJ:Jt J ak K M1 H1)(P:List D->Sg->Hp->Prop)(h0:P ak σ0 H0)
  (st:∀l σ' H',P l σ' H'->∃M2,au M1 H1 M2 H') (fin:∀σ' H',P [] σ' H'->Qn σ' H')
  (turn:∀d l σ' H',P (d::l) σ' H'->∀x H2,(∀M2,au M1 H1 M2 H'->∀(z:Z) g Y As,z.K=K->S z g Y As M2 H'->S z g Y As M2 H2/\au M2 H' M2 H2/\Rep K M2 H2 d x)->Body x σ' H2 (P l)) :
  ∃W:Nat->Nat->Sg->Hp->Prop,(∃m,W 0 m σ0 H0)/\∀i m σ' H',W i m σ' H'->
   (J.stop i H'/\Qn σ' H')\/(J.go i H'/\∃Nn:Sg->Hp->Prop,(∀Dk Dl,Nn Dk Dl->∃m',m'<m/\W (i+1) m' Dk Dl)/\∀x H2,J.Yj i H' x H2->Body x σ' H2 Nn):=by
 apply#[λi m σ' H'=>i+m=ak.length/\P (ak.drop i) σ' H',#[ak.length,A4 _,h0],?_]
 rintro i m σ' H' ⟨him,p⟩;let(M2,aI):=st _ _ _ p;let(hgo,hstop):=hJ M2 H' aI;cases e:ak[i]? with
 |none=>
  have hi:i=ak.length:=by have:=BA.mp e;lia
  subst hi;rw[List.drop_length]at p;show .inl #[hstop,fin _ _ p]
 |some d=>rw[drop_cons e]at p;have hi:=(dE.mp e).1;have hm:=ar1 him hi;show .inr #[(hgo i d e).1,P (ak.drop (i+1)),λDk Dl hN=>#[m - 1,hm.1,hm.2,hN],λx H2 hx=>turn d _ σ' H' p x H2 λM3 dY=>((hJ M3 H' dY).1 i d e).2 x H2 hx]
def Vk(hp:PassesOwn (~~~2) X.A X.env X.xe)(hc:X.calm=true)(hw:dg X z tg iter g ak g1)(ht:eW X z tg T)(hb:fU X z body T ak g1 f g')(hs:∀y,foldedSetIterable iter X.env y=pure y) :
  fT X z (.For tg iter body [] pos) g f g':=by
 let(wi,q,k):=hw;let(t,qt,kt):=ht;apply#[_,GX hp hc q qt Bd hs,λY As M H E s kk=>k Y As M H _ s λJ H1 aL M1 s1 dz hJ=>?_]
 apply jd hJ (λl σ2 H2=>∃g2 bu M2,S z g2 σ2 bu M2 H2/\au M1 H1 M2 H2/\fU X z body T l g2 f g') #[g1,aL,M1,s1,au.refl _ _,hb] (by rintro _ _ _ ⟨_,_,M2,_,aI,_⟩;show#[M2,aI]) ?_ ?_
 . rintro σ2 H2 ⟨g2,bu,M2,s2,aI,lo⟩;cases lo;show kk σ2 bu M2 H2 s2 (dz.trans aI)
 .
  rintro d l σ2 H2 ⟨g2,bu,M2,s2,aI,lo⟩ x H' yl;let(s3,dY,rx):=yl M2 aI z g2 σ2 bu rfl s2;have kk':=(kk.trans dz).trans (aI.trans dY);have Z5:=aI.trans dY;cases lo with
  |next e0 b h=>
   apply kt d g2 _ e0 x σ2 bu M2 H' _ s3 rx λσ' aC s' _=>?_
   let(t,q,kb):=b;show#[t,q,kb _ aC M2 H' _ s' λσ4 gK M4 H4 s4 vg=>#[_,gK,M4,s4,Z5.trans vg,h]]
  |cont e0 b h=>
   apply kt d g2 _ e0 x σ2 bu M2 H' _ s3 rx λσ' aC s' _=>?_
   let(t,q,kb):=b;show#[t,q,kb _ aC M2 H' _ s' λσ4 gK M4 H4 s4 vg=>#[_,gK,M4,s4,Z5.trans vg,h]]
  |brk e0 b=>
   apply kt d g2 _ e0 x σ2 bu M2 H' _ s3 rx λσ' aC s' _=>?_
   let(t,q,kb):=b;show#[t,q,kb _ aC M2 H' _ s' λσ4 gK M4 H4 s4 vg=>kk' σ4 gK M4 H4 s4 vg]
  |ret e0 b=>
   apply kt d g2 _ e0 x σ2 bu M2 H' _ s3 rx λσ' aC s' _=>?_
   let(t,q,kb):=b;show#[t,q,kb _ aC M2 H' _ s' λv σ4 gK M4 H4 s4 vg R=>kk' v σ4 gK M4 H4 s4 vg R]
end
abbrev gC(k:Nat)(g:G):G:=g++(List.replicate k .no++[.own []])
abbrev bL(X:Cx)(z:Z)(ifs:List Expr)(g:G)(b:Bool)(g':G):Prop:=
 ∃t,jL X ifs t/\∀Y As M H (Q:Bool->Hp->Prop),S z g Y As M H->(∀H' aC M',S z g' Y aC M' H'->au M H M' H'->Q b H')->t Y H Q
def NK:bL X z [] g true g:=#[_,vI,λY As M H Q s k=>k H As M s (au.refl _ _)]
def NP(h:cJ X z c g b g'):bL X z [c] g b g':=let #[t,q,k]:=h;#[t,G8 q,k]
inductive kQ(T:Tg)(last:Nat)(gW:G->Bool->G->Prop)(rZ:G->D->G->Prop):List D->G->G->Prop
 |nil {g:G}:kQ T last gW rZ [] g g
 |skip:T.set d g=!g1->gW g1 false g2->kQ T last gW rZ l g2 g'->kQ T last gW rZ (d::l) g g'
 |take:T.set d g=!g1->gW g1 true g2->rZ g2 e g3->g3[last]?=!(.own acc)->acc.length<16777216->kQ T last gW rZ l (g3.set last (.own (acc++[e]))) g'->kQ T last gW rZ (d::l) g g'
section
def S.extend(s:S z g Y As M H)(hm:a∈M)(hA:a∉As)(h0:z.H0 a=none)(h:H a=!(.lst xs))(r:aE z.K M H l xs) :
  S z (g++(List.replicate k .no++[.own l])) (Y++(List.replicate k none++[!(.ref a)])) (As++([]++[a])) M H:=by
 have hl:=s.sl.length;apply#[s.sl.append ((Slots.nos k).append (.own h r .nil)),?_,λb hb=>?_,λi b l' e1 e2=>?_,s.live,s.keep,s.fX,s.m0,s.bm,λp hp=>?_,s.tab,s.tm,s.tt]
 .
  rw[A5];apply sT.mpr #[s.nd,hZ.mpr #[by simp,t8],λx hx y hy e=>?_]
  rw[hU.mp hy]at e;show hA (e▸hx)
 .
  rcases oP.mp hb with q |q
  . show s.sub b q
  . rw[A5]at q;rw[hU.mp q];show hm
 .
  rcases sK i g.length with hi |hi
  . rw[eA hi]at e1;rw[eA ⋯]at e2;show s.own i b l' e1 e2
  .
   rw[fA hi]at e1;rw[fA ⋯]at e2;rcases sK (i - g.length) k with hk |hk
   .
    rw[eA (by rw[l5];show hk)]at e1
    have:=i6 e1;rw[w8]at this;show absurd this.2 ⋯
   .
    rw[fA (by rw[l5];lia),l5]at e2
    have e3:i - Y.length - k=0:=by
     rcases Nat.eq_zero_or_pos (i - Y.length - k)with q |q
     . show q
     . rw[At (Nat.succ_le_of_lt q)]at e2;cases e2
    rw[e3]at e2;have e4:=e2;injection e4 with e4;injection e4 with e4;injection e4 with e4;show .inr (e4▸h0)
 . let(q1,l',q2):=s.gF p hp;show#[by rw[eA (dE.mp q1).1];show q1,l',by rw[eA (dE.mp q2).1];show q2]
def Slots.split{K:Frag}{g1 g2:G}{Y:Sg}{As:List Addr}(q:Slots K M H (g1++g2) Y As):∃σ1 σ2 A1 A2,Y=σ1++σ2/\As=A1++A2/\Slots K M H g1 σ1 A1/\Slots K M H g2 σ2 A2:=by
 induction g1 generalizing Y As with
 |nil=>show#[[],_,[],_,rfl,rfl,.nil,q]
 |cons o g1 ih=>cases q with
  |no q=>let(s1,s2,a1,a2,rfl,rfl,h1,h2):=ih q;show#[_::s1,s2,a1,a2,rfl,rfl,.no h1,h2]
  |dat r q=>let(s1,s2,a1,a2,rfl,rfl,h1,h2):=ih q;show#[_::s1,s2,a1,a2,rfl,rfl,.dat r h1,h2]
  |own e r q=>let(s1,s2,a1,a2,rfl,rfl,h1,h2):=ih q;show#[_::s1,s2,_::a1,a2,rfl,rfl,.own e r h1,h2]
def S.shrink{gb:G}{τ:Sg}{l:List D}{i:Nat}{a:Addr}(s:S z gb (Y++τ) As M H)(hz:∀p∈z.lent,p.1<Y.length)(hi:Y.length<=i)(e1:gb[i]?=!(.own l))(e2:(Y++τ)[i]?=!(!(.ref a))) :
  ∃A1,S z (gb.take Y.length) Y A1 M H/\a∈M/\a∉A1:=by
 have hl:=s.sl.length;rw[eP]at hl;have q:=s.sl;rw[<- AL Y.length gb]at q;let(σ1,σ2,A1,A2,h1,h2,h3,h4):=q.split;have l1:=h3.length;rw[x5,Nat.min_eq_left ⋯]at l1;let(rfl,rfl):=List.append_inj h1 l1;subst h2;have hA2:a∈A2:=by
  let(b,xs,f1,f2,_):=h4.at (by rw[List.getElem?_drop,Nat.add_sub_cancel' hi];show e1)
  rw[fA hi]at e2;rw[e2]at f1;injection f1 with f1;injection f1 with f1;injection f1 with f1;show f1▸f2
 have tk:∀(j:Nat) (o:Slot),(gb.take Y.length)[j]?=!o->gb[j]?=!o/\j<Y.length:=λj o e=>by
  have hj:=(dE.mp e).1;rw[x5]at hj;have hj':=eM hj (Nat.min_le_left _ _);rw[vS hj']at e;show#[e,hj']
 apply#[A1,#[h3,(sT.mp s.nd).1,λb hb=>s.sub b (l8 _ hb),λj b l' c1 c2=>?_,s.live,s.keep,s.fX,s.m0,s.bm,λp hp=>?_,s.tab,s.tm,s.tt],s.sub a (gN _ hA2),λhA=>(sT.mp s.nd).2.2 a hA a hA2 rfl]
 . let(c3,c4):=tk j _ c1;show s.own j b l' c3 (by rw[eA c4];show c2)
 . let(c1,l',c2):=s.gF p hp;have lK:=hz p hp;rw[eA lK]at c1;show#[c1,l',by rw[vS lK];show c2]
def bY(h:rY is (Y++τ) σ')(hi:∀i∈is,Y.length<=i):∃τ',σ'=Y++τ':=by
 apply#[σ'.drop Y.length,?_];have e:σ'.take Y.length=Y:=by
  refine List.ext_getElem?;intro j;rcases sK j Y.length with hj |hj
  . rw[vS hj,h.2 j (λz=>Nat.not_lt.mpr (hi j z) hj),eA hj]
  . rw[At (by rw[x5];show l7 (Nat.min_le_left _ _) hj),At hj]
 have:=(AL Y.length σ').symm;rw[e]at this;show this
end
section
abbrev vU(X:Cx)(tg:Expr):TG:=λv Y H Q=>∃t,PG X tg t/\t v Y H Q
def iE:PG X tg (vU X tg):=λaj s Y H v u Q I r h=>let #[t,q,k]:=h;q aj s Y H v u Q I r k
abbrev vV(X:Cx)(ifs:List Expr):TT:=λY H Q=>∃t,jL X ifs t/\t Y H Q
def iF:jL X ifs (vV X ifs):=λaj s Y H Q I h=>let #[t,q,k]:=h;q aj s Y H Q I k
abbrev Dz(X:Cx)(e:Expr):TE:=λY H Q=>∃t,PE X e t/\t Y H Q
def oY:PE X e (Dz X e):=λaj s Y H Q I h=>let #[t,q,k]:=h;q aj s Y H Q I k
def oZ(hw:dg X z tg iter g ak g1)(ht:∀b:Bk,eW (X.blk N' scope b) z tg T)(hT:∀i∈T.ix,g1.length<=i/\i<g1.length+k)
  (hcp:kQ T (g1.length+k) (λg b g'=>∀bk:Bk,bL (X.blk N' scope bk) z ifs g b g') (λg d g'=>∀bk:Bk,aB (X.blk N' scope bk) z aX g (.dat d) g') ak (gC k g1) gE) (hacc:gE[g1.length+k]?=!(.own acc)) :
  ∃wi,PI X tg iter wi/\∀Y As M H Q,S z g Y As M H->Kn z (gE.take g1.length) Y M H (.new acc) Q->rP X k wi (λb=>vU (X.blk N' scope b) tg) (λb=>vV (X.blk N' scope b) ifs) (λD b=>vJ D (Dz (X.blk N' scope b) aX)) Y H Q:=by
 let(wi,q,kw):=hw;apply#[wi,q,λY As M H Q s kq=>kw Y As M H _ s λJ H1 aL M1 s1 dz hJ D hD=>?_]
 have hl:=s1.sl.length;have hz:∀p∈z.lent,p.1<Y.length:=λp hp=>(dE.mp (s1.gF p hp).1).1
 have NQ:∀i∈T.ix,Y.length<=i:=λi hi=>by rw[<- hl];show (hT i hi).1
 have dX:g1.length+k∉T.ix:=λh=>nV _ (hT _ h).2
 have s1':=s1.aN (xs:=[]) hD;have h0:=s1.cC hD;have nA:D∉aL:=λh=>s1.fresh hD (s1.sub D h)
 have sb:=s1'.extend (k:=k) dA nA h0 aA .nil;have HR:(Y++(List.replicate k none++[!(V.ref D)]))[g1.length+k]?=!(!(V.ref D)):=by
  rw[hl,fA (CO _ _),tJ,fA (by rw[l5];show eD _),l5,DB]
  rfl
 apply jd hJ (λl σ' H'=>∃gb Ab Mb τ,S z gb σ' Ab Mb H'/\au M1 H1 Mb H'/\σ'=Y++τ/\σ'[g1.length+k]?=!(!(.ref D))/\kQ T (g1.length+k) (λg b g'=>∀bk:Bk,bL (X.blk N' scope bk) z ifs g b g') (λg d g'=>∀bk:Bk,aB (X.blk N' scope bk) z aX g (.dat d) g') l gb gE)
  #[_,_,_,_,sb,au.aN hD,rfl,HR,hcp] (by rintro _ _ _ ⟨_,_,M2,_,_,aI,_⟩;show#[M2,aI]) ?_ ?_
 . rintro σ' H' ⟨gb,Ab,Mb,τ,s2,aI,rfl,yw,cp⟩;cases cp;let(a,xs,f1,f2,f3,f4):=s2.sl.at hacc;rw[yw]at f1;injection f1 with f1;injection f1 with f1;injection f1 with f1;subst f1;let(A1,s3,m3,n3):=s2.shrink hz ⋯ hacc yw;rw[<- hl]at s3;show kq _ H' A1 Mb s3 (dz.trans aI) #[D,xs,rfl,m3,n3,h0,f3,f4]
 .
  rintro d l σ' H' ⟨gb,Ab,Mb,τ,s2,aI,rfl,yw,cp⟩ x H2 yl bk _;let(s3,dY,rx):=yl Mb aI z gb (Y++τ) Ab rfl s2;let(t,qt,kt):=ht bk;cases cp with
  |skip e0 hc rest=>
   apply#[t,qt,kt d gb _ e0 x _ Ab Mb H2 _ s3 rx λσ4 gK s4 ag=>?_]
   let(τ',rfl):=bY ag NQ;let(t2,q2,k2):=hc bk;apply#[t2,q2,k2 _ gK Mb H2 _ s4 λH5 qU M5 s5 jq=>?_]
   apply lR #[_,qU,M5,τ',s5,(aI.trans dY).trans jq,rfl,?_,rest];rw[ag.2 _ dX];show yw
  |take e0 hc he ha hz' rest=>
   apply#[t,qt,kt d gb _ e0 x _ Ab Mb H2 _ s3 rx λσ4 gK s4 ag=>?_]
   let(τ',rfl):=bY ag NQ;let(t2,q2,k2):=hc bk;let(t3,q3,k3):=he bk;have NR:(Y++τ')[g1.length+k]?=!(!(V.ref D)):=by rw[ag.2 _ dX];show yw
   apply#[t2,q2,k2 _ gK Mb H2 _ s4 λH5 qU M5 s5 jq=>jr #[t3,q3,k3 _ qU M5 H5 _ s5 λv H6 NT M6 s6 HS R6=>?_]]
   let(a,xs,f1,f2,f3,f4):=s6.sl.at ha;rw[NR]at f1;injection f1 with f1;injection f1 with f1;injection f1 with f1;subst f1;let(s7,Z6):=s6.write ha NR (f4.append (.cons R6 .nil));apply#[xs,f3,by rw[<- f4.length];show hz',_,NT,M6,τ',s7,(((aI.trans dY).trans jq).trans HS).trans Z6,rfl,NR,rest]
def NX(B:aR X.env.scope scope)(hc:X.calm=true)(hN:Names X.N N' scope k)(hw:dg X z tg iter g ak g1)(ht:∀b:Bk,eW (X.blk N' scope b) z tg T)(hT:∀i∈T.ix,g1.length<=i/\i<g1.length+k)
  (hcp:kQ T (g1.length+k) (λg b g'=>∀bk:Bk,bL (X.blk N' scope bk) z ifs g b g') (λg d g'=>∀bk:Bk,aB (X.blk N' scope bk) z aX g (.dat d) g') ak (gC k g1) gE) (hacc:gE[g1.length+k]?=!(.own acc))
  (hs:∀x,foldedSetIterable iter X.env x=pure x):aB X z (.ListComp aX [#[tg,iter,ifs,0]] scope pos) g (.new acc) (gE.take g1.length):=by
 let(wi,q,kk):=oZ hw ht hT hcp hacc;show#[_,MT B hc hN q (λb=>#[iE,iF,oY]) hs,kk]
def NZ(B:aR X.env.scope scope)(hc:X.calm=true)(hN:Names X.N N' scope k)(hw:dg X z tg iter g ak g1)(ht:∀b:Bk,eW (X.blk N' scope b) z tg T)(hT:∀i∈T.ix,g1.length<=i/\i<g1.length+k)
  (hcp:kQ T (g1.length+k) (λg b g'=>∀bk:Bk,bL (X.blk N' scope bk) z ifs g b g') (λg d g'=>∀bk:Bk,aB (X.blk N' scope bk) z aX g (.dat d) g') ak (gC k g1) gE) (hacc:gE[g1.length+k]?=!(.own acc))
  (Dm:X.N.Nodup) (hy:X.N[i]?=!y) (hl:X.env.scope.names.lookup y=some .local) (hb:i∉z.bor) (hi:i<(gE.take g1.length).length)
  (hsw:swapsWith (.ListComp aX [#[tg,iter,ifs,0]] scope pos) (!(.Name y py)) fW.line X.env=pure true)
  (hs:∀x,foldedSetIterable iter X.env x=pure x):fT X z (.Assign [.Name y py] (.ListComp aX [#[tg,iter,ifs,0]] scope pos) fW) g .nx ((gE.take g1.length).set i (.own acc)):=by
 let(wi,q,kk):=oZ hw ht hT hcp hacc;apply#[_,Ba B hc hN q (λb=>#[iE,iF,oY]) Dm hy hl hsw hs,λY As M H E s kE=>kk Y As M H _ s λv H' aC M' s' st R=>?_]
 let(a,xs,rfl,hm,hA,h0,ha,rr):=R;let(bu,s2):=s'.oG hb hi hm hA h0 ha rr;show kE _ bu M' H' s2 st
end
section
def aB.run(he:aB X z e g r g1)(I:L2.Inv X aj Y H s)(st:S z g Y As M H)
  (k:∀v u s1 H1 aL M1,L2.Inv X aj Y H1 s1->RelV v u->S z g1 Y aL M1 H1->au M H M1 H1->dh z g1 Y aL M1 H1 r v->Post u s1):wpAny (~~~2) X.A (eval e X.env) Post X.xe s:=by
 let(t,q,kt):=he;show bU (q aj s Y H (λv H1=>∃aL M1,S z g1 Y aL M1 H1/\au M H M1 H1/\dh z g1 Y aL M1 H1 r v) I (kt Y As M H _ st λv H1 aL M1 s1 dz R=>#[aL,M1,s1,dz,R])) (by rintro u s1 ⟨v,H1,I1,r1,aL,M1,q1,q2,q3⟩;show k v u s1 H1 aL M1 I1 r1 q1 q2 q3)
def mS.run(ho:mS X z f d1 d2 r)(I:L2.Inv X aj Y H s)(st:S z g Y As M H)(p1:Pk z.K M H d1 v1)(p2:Pk z.K M H d2 v2)(r1:RelV v1 u1)(r2:RelV v2 u2)
  (k:∀v u s1 H1 aL M1,L2.Inv X aj Y H1 s1->RelV v u->S z g Y aL M1 H1->au M H M1 H1->dh z g Y aL M1 H1 r v->Post u s1):wpAny (~~~2) X.A (f u1 u2) Post X.xe s:=by
 let(rr,o,ko):=ho;show bU (o aj s Y H v1 v2 u1 u2 (λv H1=>∃aL M1,S z g Y aL M1 H1/\au M H M1 H1/\dh z g Y aL M1 H1 r v) I r1 r2 (ko g Y As M H v1 v2 _ st p1 p2 λv H1 aL M1 s1 dz R=>#[aL,M1,s1,dz,R])) (by rintro u s1 ⟨v,H1,I1,r1,aL,M1,q1,q2,q3⟩;show k v u s1 H1 aL M1 I1 r1 q1 q2 q3)
def aB.of (h:∀(aj: ~~~1) (s:Shared) (Y:Sg) (As M:List Addr) (H:Hp) (Post:Value->Shared->Prop),L2.Inv X aj Y H s->S z g Y As M H->
  (∀v u s1 H1 aL M1,L2.Inv X aj Y H1 s1->RelV v u->S z g1 Y aL M1 H1->au M H M1 H1->dh z g1 Y aL M1 H1 r v->Post u s1)->wpAny (~~~2) X.A (eval e X.env) Post X.xe s):aB X z e g r g1:=
 #[λY H Q=>∃As M,S z g Y As M H/\Kn z g1 Y M H r Q,by rintro aj s Y H Q I ⟨As,M,st,k⟩;show h aj s Y As M H _ I st λv u s1 H1 aL M1 I1 r1 q1 q2 q3=>#[v,H1,I1,r1,k v H1 aL M1 q1 q2 q3],λY As M H Q s k=>#[As,M,s,k]]
def cJ.of (h:∀(aj: ~~~1) (s:Shared) (Y:Sg) (As M:List Addr) (H:Hp) (Post:Bool->Shared->Prop),L2.Inv X aj Y H s->S z g Y As M H->
  (∀s1 H1 aL M1,L2.Inv X aj Y H1 s1->S z g1 Y aL M1 H1->au M H M1 H1->Post b s1)->wpAny (~~~2) X.A (isTrue e X.env (eval e X.env)) Post X.xe s):cJ X z e g b g1:=
 #[λY H Q=>∃As M,S z g Y As M H/\(∀H' aC M',S z g1 Y aC M' H'->au M H M' H'->Q b H'),by rintro aj s Y H Q I ⟨As,M,st,k⟩;show h aj s Y As M H _ I st λs1 H1 aL M1 I1 q1 q2=>#[H1,I1,k H1 aL M1 q1 q2],λY As M H Q s k=>#[As,M,s,k]]
inductive ug(X:Cx)(z:Z):D->List CmpOp->List Expr->G->Bool->G->Prop
 |last {d1 d2:D}{op:CmpOp}{b:Expr}{g g1:G}{c:Bool}:aB X z b g (.dat d2) g1->mS X z (compareOp op) d1 d2 (.dat (.bl c))->ug X z d1 [op] [b] g c g1
 |stop {d1 d2:D}{op op':CmpOp}{ops:List CmpOp}{b b':Expr}{bs:List Expr}{g g1:G}:aB X z b g (.dat d2) g1->mS X z (compareOp op) d1 d2 (.dat (.bl false))->ug X z d1 (op::op'::ops) (b::b'::bs) g false g1
 |link {d1 d2:D}{op op':CmpOp}{ops:List CmpOp}{b b':Expr}{bs:List Expr}{g g1 g2:G}{c:Bool}:aB X z b g (.dat d2) g1->mS X z (compareOp op) d1 d2 (.dat (.bl true))->ug X z d2 (op'::ops) (b'::bs) g1 c g2->ug X z d1 (op::op'::ops) (b::b'::bs) g c g2
def Vl(h:ug X z d1 ops bs g c g'):∀(aj: ~~~1) (s:Shared) (Y:Sg) (H:Hp) (As M:List Addr) (Post:Value->Shared->Prop) (v1:V) (u1:Value),L2.Inv X aj Y H s->S z g Y As M H->Rep z.K M H d1 v1->RelV v1 u1->
  (∀s1 H' aC M',L2.Inv X aj Y H' s1->S z g' Y aC M' H'->au M H M' H'->Post (.bool c) s1)->wpAny (~~~2) X.A (compareChain pos u1 ops (evalEach bs X.env)) Post X.xe s:=by
 induction h with
 |@last d1 d2 op b g g1 c he ho=>
  intro aj s Y H As M Post v1 u1 I st r rv k;apply chain_last (he.run I st λv u s1 H1 aL M1 I1 r1 q1 q2 q3=>ho.run I1 q1 (.of (r.stay q2)) (.of q3) rv r1 λv' u' s2 H2 bu M2 I2 r2 p1 p2 p3=>?_)
  rw[gj p3]at r2;cases r2;show k s2 H2 bu M2 I2 p1 (q2.trans p2)
 |@stop d1 d2 op op' ops b b' bs g g1 he ho=>
  intro aj s Y H As M Post v1 u1 I st r rv k;apply chain_link (he.run I st λv u s1 H1 aL M1 I1 r1 q1 q2 q3=>ho.run I1 q1 (.of (r.stay q2)) (.of q3) rv r1 λv' u' s2 H2 bu M2 I2 r2 p1 p2 p3=>?_)
  rw[gj p3]at r2;cases r2;show nK (ite_ff (k s2 H2 bu M2 I2 p1 (q2.trans p2)))
 |@link d1 d2 op op' ops b b' bs g g1 g2 c he ho hch ih=>
  intro aj s Y H As M Post v1 u1 I st r rv k;apply chain_link (he.run I st λv u s1 H1 aL M1 I1 r1 q1 q2 q3=>ho.run I1 q1 (.of (r.stay q2)) (.of q3) rv r1 λv' u' s2 H2 bu M2 I2 r2 p1 p2 p3=>?_)
  rw[gj p3]at r2;cases r2;show nK (ite_tt (ih aj s2 Y H2 bu M2 Post v u I2 p1 (Rep.stay p2 q3) r1 λs3 H3 nL M3 I3 w1 w2=>k s3 H3 nL M3 I3 w1 ((q2.trans p2).trans w2)))
def N1(h:ug X z d1 ops bs g c g'):∀(aj: ~~~1) (s:Shared) (Y:Sg) (H:Hp) (As M:List Addr) (Post:Bool->Shared->Prop) (v1:V) (u1:Value),L2.Inv X aj Y H s->S z g Y As M H->Rep z.K M H d1 v1->RelV v1 u1->
  (∀s1 H' aC M',L2.Inv X aj Y H' s1->S z g' Y aC M' H'->au M H M' H'->Post c s1)->wpAny (~~~2) X.A (testChain pos u1 ops (evalEach bs X.env)) Post X.xe s:=by
 induction h with
 |@last d1 d2 op b g g1 c he ho=>
  intro aj s Y H As M Post v1 u1 I st r rv k;apply test_last (he.run I st λv u s1 H1 aL M1 I1 r1 q1 q2 q3=>ho.run I1 q1 (.of (r.stay q2)) (.of q3) rv r1 λv' u' s2 H2 bu M2 I2 r2 p1 p2 p3=>?_)
  rw[gj p3]at r2;cases r2;show nK (k s2 H2 bu M2 I2 p1 (q2.trans p2))
 |@stop d1 d2 op op' ops b b' bs g g1 he ho=>
  intro aj s Y H As M Post v1 u1 I st r rv k;apply test_link (he.run I st λv u s1 H1 aL M1 I1 r1 q1 q2 q3=>ho.run I1 q1 (.of (r.stay q2)) (.of q3) rv r1 λv' u' s2 H2 bu M2 I2 r2 p1 p2 p3=>?_)
  rw[gj p3]at r2;cases r2;show nK (ite_ff (k s2 H2 bu M2 I2 p1 (q2.trans p2)))
 |@link d1 d2 op op' ops b b' bs g g1 g2 c he ho hch ih=>
  intro aj s Y H As M Post v1 u1 I st r rv k;apply test_link (he.run I st λv u s1 H1 aL M1 I1 r1 q1 q2 q3=>ho.run I1 q1 (.of (r.stay q2)) (.of q3) rv r1 λv' u' s2 H2 bu M2 I2 r2 p1 p2 p3=>?_)
  rw[gj p3]at r2;cases r2;show nK (ite_tt (ih aj s2 Y H2 bu M2 Post v u I2 p1 (Rep.stay p2 q3) r1 λs3 H3 nL M3 I3 w1 w2=>k s3 H3 nL M3 I3 w1 ((q2.trans p2).trans w2)))
def HW(ha:aB X z a g (.dat d1) g1)(h:ug X z d1 (Vm::Vn::ops) (b1::b2::bs) g1 c g2)(hm:lastMarks (Vm::Vn::ops) (b1::b2::bs)=false):aB X z (.Compare a (Vm::Vn::ops) (b1::b2::bs) pos) g (.dat (.bl c)) g2:=
 aB.of λaj s Y As M H Post I st k=>Compare_chain (ha.run I st λv u s1 H1 aL M1 I1 r1 q1 q2 q3=>Vl h aj s1 Y H1 aL M1 Post v u I1 q1 q3 r1 λs2 H2 bu M2 I2 p1 p2=>k (.bl c) (.bool c) s2 H2 bu M2 I2 rfl p1 (q2.trans p2) (.bl c)) hm
def HX(ha:aB X z a g (.dat d1) g1)(h:ug X z d1 (Vm::Vn::ops) (b1::b2::bs) g1 c g2)(hm:lastMarks (Vm::Vn::ops) (b1::b2::bs)=false):cJ X z (.Compare a (Vm::Vn::ops) (b1::b2::bs) pos) g c g2:=
 cJ.of λaj s Y As M H Post I st k=>isTrue_chain (ha.run I st λv u s1 H1 aL M1 I1 r1 q1 q2 q3=>N1 h aj s1 Y H1 aL M1 Post v u I1 q1 q3 r1 λs2 H2 bu M2 I2 p1 p2=>k s2 H2 bu M2 I2 p1 (q2.trans p2)) hm
inductive nu(X:Cx)(z:Z)(c:Expr)(body:List Stmt):Nat->G->Fl->G->Prop
 |done {n:Nat}{g g1:G}:cJ X z c g false g1->nu X z c body n g .nx g1
 |next {n:Nat}{g g1 g2 g3:G}{f:Fl}:cJ X z c g true g1->eV X z body g1 .nx g2->nu X z c body n g2 f g3->nu X z c body (n+1) g f g3
 |cont {n:Nat}{g g1 g2 g3:G}{f:Fl}:cJ X z c g true g1->eV X z body g1 .ct g2->nu X z c body n g2 f g3->nu X z c body (n+1) g f g3
 |brk {n:Nat}{g g1 g2:G}:cJ X z c g true g1->eV X z body g1 .bk g2->nu X z c body n g .nx g2
 |ret {n:Nat}{g g1 g2:G}{r:R}:cJ X z c g true g1->eV X z body g1 (.rt r) g2->nu X z c body n g (.rt r) g2
abbrev Z7(X:Cx)(e:Expr):TT:=λY H Q=>∃t,PT X e t/\t Y H Q
def Vo{e:Expr}:PT X e (Z7 X e):=λaj s Y H Q I h=>let #[t,q,k]:=h;q aj s Y H Q I k
def HY{ce:Expr}{body:List Stmt}{n:Nat}{f:Fl}{g':G}(hp:PassesOwn (~~~2) X.A X.env X.xe)(h:nu X z ce body n g f g'):fT X z (.While ce body [] pos) g f g':=by
 apply#[_,GP hp Vo Bd,λY As M H E s k=>?_]
 apply#[λm σ2 H2=>∃g2 bu M2,S z g2 σ2 bu M2 H2/\au M H M2 H2/\nu X z ce body m g2 f g',#[n,g,As,M,s,au.refl _ _,h],?_]
 rintro m σ2 H2 ⟨g2,bu,M2,s2,aI,w⟩;cases w with
 |done hc=>let(t,q,kt):=hc;show#[t,q,kt σ2 bu M2 H2 _ s2 λH3 nL M3 s3 dY=>lR (k σ2 nL M3 H3 s3 (aI.trans dY))]
 |@next m' _ g3 g4 _ _ hc hb w'=>
  let(t,q,kt):=hc;let(tb,qb,kb):=hb;apply#[t,q,kt σ2 bu M2 H2 _ s2 λH3 nL M3 s3 dY=>jr #[λσ' H'=>∃g2 bu M2,S z g2 σ' bu M2 H'/\au M H M2 H'/\nu X z ce body m' g2 f g',λσ' H' hN=>#[m',qS _,hN],tb,qb,kb σ2 nL M3 H3 _ s3 λσ4 gK M4 H4 s4 vg=>?_]]
  show#[g4,gK,M4,s4,(aI.trans dY).trans vg,w']
 |@cont m' _ g3 g4 _ _ hc hb w'=>
  let(t,q,kt):=hc;let(tb,qb,kb):=hb;apply#[t,q,kt σ2 bu M2 H2 _ s2 λH3 nL M3 s3 dY=>jr #[λσ' H'=>∃g2 bu M2,S z g2 σ' bu M2 H'/\au M H M2 H'/\nu X z ce body m' g2 f g',λσ' H' hN=>#[m',qS _,hN],tb,qb,kb σ2 nL M3 H3 _ s3 λσ4 gK M4 H4 s4 vg=>?_]]
  show#[g4,gK,M4,s4,(aI.trans dY).trans vg,w']
 |brk hc hb=>let(t,q,kt):=hc;let(tb,qb,kb):=hb;show#[t,q,kt σ2 bu M2 H2 _ s2 λH3 nL M3 s3 dY=>jr #[λ_ _=>False,λσ' H' hN=>hN.elim,tb,qb,kb σ2 nL M3 H3 _ s3 λσ4 gK M4 H4 s4 vg=>k σ4 gK M4 H4 s4 ((aI.trans dY).trans vg)]]
 |ret hc hb=>let(t,q,kt):=hc;let(tb,qb,kb):=hb;show#[t,q,kt σ2 bu M2 H2 _ s2 λH3 nL M3 s3 dY=>jr #[λ_ _=>False,λσ' H' hN=>hN.elim,tb,qb,kb σ2 nL M3 H3 _ s3 λv σ4 gK M4 H4 s4 vg R=>k v σ4 gK M4 H4 s4 ((aI.trans dY).trans vg) R]]
abbrev Ia:D->Option Bool
 |.bl b=>!b
 |.non=>!false
 |.int i=>!(i != 0)
 |.lst l=>!((not l.isEmpty))
 |.tup l=>!((not l.isEmpty))
 |.fix l=>!((not l.isEmpty))
 |_=>none
end
end Ev
namespace HT
section
def jt{t sl:Addr}{ak:Array Value}{vl vu:Value}{lo hi:Option Int}{Q:Value->Shared->Prop}(ht:IsTup s.heap t ak)(hs:s.heap.IsSliceOf sl vl vu .none)(pl:IsPart vl lo)(pu:IsPart vu hi)
  (hw:cI ak.size 0 lo=0/\cI ak.size ak.size hi=ak.size)
  (h:Q (.ref t) s):wpAny (model prog w) A (getItem (.ref t) (.ref sl)) Q E s:=by
 let(os,hos,hcs,hds):=id hs;have hTs:s.TypeIs (.ref sl) "slice" :=#[os,hos,hcs];delta getItem
 try with_reducible apply mE ?_
 first |apply aS (dC ?_) |skip
 apply aS (wpAny_sequenceKey ht.typeIs ⋯ ?_);apply aS (pV ht.typeIs yY
  (nN yY ht.typeIs entry_tuple_getitem ?_ (args_tuple_getitem _ _)))
 exact wpAny _ _ (Builtin.Tuple.tupleItemsOf (.ref t) >>= _) _ _ s;apply aS (tupleItemsOf_ ht ?_);apply aS (BI hTs ?_);apply aS (fY hs pl pu ?_);have hyes:(((cI ak.size 0 lo:Nat):Int)==0&&(1:Int)==1&&(cI ak.size ak.size hi - cI ak.size 0 lo)==ak.size)=true:=by rw[hw.1,hw.2];simp
 exact wpAny _ _ (if (((cI ak.size 0 lo:Nat):Int)==0&&(1:Int)==1&&(cI ak.size ak.size hi - cI ak.size 0 lo)==ak.size)=true then _ else _) _ _ s
 rw[i8 hyes];apply aS (aS (BI ht.typeIs (dC ?_)));show aS (AJ (dC #[_,rfl,dC h]))
end
end HT
namespace Ev
open L2
abbrev qV{α:Type}(xs:List α)(lo hi:Option Int):List α:=(xs.drop (HT.cI xs.length 0 lo)).take (HT.cI xs.length xs.length hi - HT.cI xs.length 0 lo)
def yW{α:Type}{xs:List α}{lo hi:Option Int}(h:HT.cI xs.length 0 lo=0/\HT.cI xs.length xs.length hi=xs.length):qV xs lo hi=xs:=by delta qV;rw[h.1,h.2,List.drop_zero,Nat.sub_zero,List.take_length]
section
variable{lo hi:Option Expr}
abbrev rSlA(K:Frag):V->Option Int->Option Int->Hp->VK->Prop:=λx lo hi H Q=>∃a xs,x=.ref a/\iu K H a xs/\
 ((HT.cI xs.length 0 lo=0/\HT.cI xs.length xs.length hi=xs.length/\Q (.ref a) H)\/(¬ (HT.cI xs.length 0 lo=0/\HT.cI xs.length xs.length hi=xs.length)/\∀p,H p=none->Q (.ref p) (upd H p (.tup (yM xs lo hi)))))
def N2:SlR X (rSlA X.K):=by
 intro aj s Y H x v vl vu lo hi sl Q I rx hs pl pu h;let(a,xs,rfl,hx,h):=h;rcases h with ⟨h1,h2,q⟩ |⟨h1,q⟩
 .
  cases rx;let(its,r,ht,hz):=I.tuple hx;have aK:its.toArray.size=xs.length:=by rw[dL];show r.length.symm
  apply#["tuple",_,PyProof.Rows.slot_tuple_getitem.lookup,ht.typeIs,?_];show HT.jt ht hs pl pu (by rw[aK];show#[h1,h2]) #[.ref a,H,I,rfl,q]
 . show T7 aj s Y H (.ref a) v vl vu lo hi sl Q I rx hs pl pu #[a,xs,rfl,hx,h1,q]
abbrev uh(X:Cx)(z:Z)(e:Option Expr)(g:G)(o:Option Int)(g':G):Prop:=
 ∃t,PO X e t/\∀Y As M H (Q:Option Int->Hp->Prop),S z g Y As M H->(∀H' aC M',S z g' Y aC M' H'->au M H M' H'->Q o H')->t Y H Q
def DG:uh X z none g none g:=#[_,Mw,λY As M H Q s k=>k H As M s (au.refl _ _)]
def DK(h:aB X z e g ‹i› g1):uh X z (!e) g (!i) g1:=by
 let(t,q,k):=h;apply#[_,Mx q,λY As M H Q s kk=>k Y As M H _ s λv H' aC M' s' st R=>?_]
 have R':=R;cases R';show#[i,rfl,kk H' aC M' s' st]
def aE.cut{K:Frag}{M:List Addr}{H:Hp}{ds:List D}{vs:List V}(r:aE K M H ds vs)(l u:Option Int):aE K M H (qV ds l u) (yM vs l u):=by delta qV yM;rw[r.length];show aE.take _ (aE.drop _ r)
def DN{r:R}{l:List D}{d:D}{i j:Option Int}(hK:z.K=X.K)(h:aB X z a g r g1)(h1:uh X z lo g1 i g2)(h2:uh X z hi g2 j g3)(hp:pk r g3=!(.lst l)):aB X z (.Subscript a (.Slice lo hi none p2) pos) g (.new (qV l i j)) g3:=by
 let(t,q,k):=h;let(t1,q1,k1):=h1;let(t2,q2,k2):=h2;apply#[_,oz Ay q q1 q2,λY As M H Q s kk=>k Y As M H _ s λv H1 aL M1 s1 dz R=>k1 Y aL M1 H1 _ s1 λH2 bu M2 s2 aI=>k2 Y bu M2 H2 _ s2 λH3 nL M3 s3 dY=>?_]
 let(b,xs,rfl,e1,e2):=(s3.pk (aI.trans dY) R hp).list;apply#[b,xs,rfl,cQ.of e1,λp hp=>?_]
 show kk _ _ nL (p::M3) (s3.aN hp) (((dz.trans aI).trans dY).trans (au.aN hp)) #[p,_,rfl,dA,λhA=>s3.fresh hp (s3.sub p hA),s3.cC hp,aA,(e2.cut i j).stay (au.aN hp)]
def DP(hK:z.K=X.K)(h:aB X z a g (.dat (.fix l)) g1)(h1:uh X z lo g1 i g2)(h2:uh X z hi g2 j g3):aB X z (.Subscript a (.Slice lo hi none p2) pos) g (.new (qV l i j)) g3:=by
 let(t,q,k):=h;let(t1,q1,k1):=h1;let(t2,q2,k2):=h2;apply#[_,oz Ay q q1 q2,λY As M H Q s kk=>k Y As M H _ s λv H1 aL M1 s1 dz R=>k1 Y aL M1 H1 _ s1 λH2 bu M2 s2 aI=>k2 Y bu M2 H2 _ s2 λH3 nL M3 s3 dY=>?_]
 have R':=Rep.stay (aI.trans dY) R;cases R' with
 |@fix _ b xs e1 e2=>
  apply#[b,xs,rfl,hK▸e1.sq,λp hp=>?_]
  show kk _ _ nL (p::M3) (s3.aN hp) (((dz.trans aI).trans dY).trans (au.aN hp)) #[p,_,rfl,dA,λhA=>s3.fresh hp (s3.sub p hA),s3.cC hp,aA,(e2.cut i j).stay (au.aN hp)]
def DQ(hK:z.K=X.K)(h:aB X z a g (.dat (.tup l)) g1)(h1:uh X z lo g1 i g2)(h2:uh X z hi g2 j g3):aB X z (.Subscript a (.Slice lo hi none p2) pos) g (.dat (.tup (qV l i j))) g3:=by
 let(t,q,k):=h;let(t1,q1,k1):=h1;let(t2,q2,k2):=h2;apply#[_,oz N2 q q1 q2,λY As M H Q s kk=>k Y As M H _ s λv H1 aL M1 s1 dz R=>k1 Y aL M1 H1 _ s1 λH2 bu M2 s2 aI=>k2 Y bu M2 H2 _ s2 λH3 nL M3 s3 dY=>?_]
 have R':=Rep.stay (aI.trans dY) R;cases R' with
 |@tup _ b xs e1 e2=>
  apply#[b,xs,rfl,hK▸e1.sq,?_];by_cases hw:HT.cI xs.length 0 i=0/\HT.cI xs.length xs.length j=xs.length
  .
   apply .inl #[hw.1,hw.2,kk _ _ nL M3 s3 ((dz.trans aI).trans dY) ?_];have e:=yW (by rw[e2.length];show hw)
   rw[e];show .tup e1 e2
  . show .inr #[hw,λp hp=>kk _ _ nL M3 (s3.laid hp) (((dz.trans aI).trans dY).trans (au.laid hp)) (.tup (.inl #[s3.fresh hp,.inl aA]) ((e2.cut i j).stay (au.laid hp)))]
def Ib(hK:z.K=X.K)(h:aB X z e g r g1)(hp:pk r g1=!d)(hb:Ia d=!b)(he:∀whole,isTrue e X.env whole=(do let v <- whole;standAt e.pos;holding [v] (truthy v))):cJ X z e g b g1:=by
 let(t,q,k):=h;apply#[_,GZ q he,λY As M H Q s kk=>k Y As M H _ s λv H1 aL M1 s1 dz R=>#[b,?_,kk H1 aL M1 s1 dz]]
 have p:=s1.pk (au.refl _ _) R hp;cases d with
 |non=>rw[p.non];cases hb;rfl
 |bl c=>rw[p.bl];cases hb;rfl
 |int i=>rw[p.int];cases hb;rfl
 |str x=>cases hb
 |emp=>cases hb
 |nj _=>cases hb
 |Lp _ _=>cases hb
 |lst l=>let(a,xs,rfl,e1,e2):=p.list;cases hb;apply .inl #[xs,cQ.of e1,?_];cases e2 <;> rfl
 |tup l=>let(a,xs,rfl,e1,e2):=p.tup;cases hb;apply .inr (.inl #[xs,hK▸e1.sq,?_]);cases e2 <;> rfl
 |fix l=>let(a,xs,rfl,e1,e2):=p.fix;cases hb;apply .inl #[xs,hK▸e1.sq,?_];cases e2 <;> rfl
def Vp(hn:oX X x i)(hb:i∉z.bor)(h:aB X z e g (.dat d2) g1)(hg:g[i]?=!(.dat d1))(ho:mS X z (inplaceOp op) d1 d2 (.dat d)) :
  fT X z (.AugAssign (.Name x pos') op e pos) g .nx (g1.set i (.dat d)):=by
 let(t,q,k):=h;let(rr,o,ko):=ho;apply#[_,GL hn.nd hn.ix hn.lc q (show PIp X op rr from λaj s Y H x y v u Q I r1 r2 hq=>o aj s Y H x y v u Q I r1 r2 hq) hn.fn,λY As M H E s kk=>?_]
 let(v1,e1,r1):=s.sl.oF hg;apply#[v1,e1,k Y As M H _ s λv2 H1 aL M1 s1 dz R=>ko g1 Y aL M1 H1 v1 v2 _ s1 (.of (r1.stay dz)) (.of R) λv H2 bu M2 s2 aI R2=>?_]
 let(nL,s3):=s2.iC hb R2;show kk _ nL M2 H2 s3 (dz.trans aI)
end
section
def Vq(I:L2.Inv X aj Y H s)(p:Pk X.K M H d v)(r:RelV v u):∃Hh,PySem.W.KitX X.K u (Gg d) Hh/\Hh s.heap/\u≠.builtin "__main__.__loader__#opaque" :=by
 cases d with
 |non=>have q:=p.non;subst q;cases r;show#[_,PySem.W.kitx_none,True.intro,λz=>nomatch z]
 |bl y=>have q:=p.bl;subst q;cases r;show#[_,PySem.W.kitx_bool,True.intro,λz=>nomatch z]
 |int i=>have q:=p.int;subst q;let(t,rfl):=r;show#[_,PySem.W.kitx_int,True.intro,λz=>nomatch z]
 |str y=>have q:=p.str;subst q;let(t,rfl):=r;show#[_,PySem.W.kitx_str,True.intro,λz=>nomatch z]
 |tup l=>let(a,xs,rfl,ha,_):=p.tup;cases r;let(its,_,(o,h1,h2,_),_):=I.tuple ha.sq;show#[_,PySem.W.kitx_tuple,#[o,h1,h2],λz=>nomatch z]
 |lst l=>let(a,xs,rfl,ha,_):=p.list;cases r;let(its,_,pl,_):=I.list (cQ.of ha);let(o,h1,h2,_):=pl.isList;show#[_,Cn,#[o,h1,h2],λz=>nomatch z]
 |fix l=>let(a,xs,rfl,ha,_):=p.fix;cases r;let(its,_,pl,_):=I.list ha.sq;let(o,h1,h2,_):=pl.isList;show#[_,Cn,#[o,h1,h2],λz=>nomatch z]
 |emp=>
  cases p with
  |of q=>
   cases q with
   |emp _ ha=>cases r;let(_,_,vs,_,o,es,ep,h1,h2,_):=I.hok _ _ ha;show#[_,Co,#[o,h1,h2.1],λz=>nomatch z]
 |nj C=>
  cases p with
  |of q=>
   cases q with
   |nj k _ ha=>cases r;let((o,h1,h2,h3,h4),_):=I.hok _ _ ha;show#[_,vP k,#[o,h1,h2,h3,by rw[h4];trivial],λz=>nomatch z]
 |Lp ks ds=>
  cases p with
  |of q=>
   cases q with
   |Lp _ ha _ _=>cases r;let(_,_,vs,_,o,es,ep,h1,h2,_):=I.hok _ _ ha;show#[_,Co,#[o,h1,h2.1],λz=>nomatch z]
def Bj:∀{ns:List String}{us:List Value},Vals (ns.map V.ty) us->us=ns.map Value.type
 | [],_,r=>by rw[List.map_nil]at r;cases r;rfl
 |n::ns,_,r=>by
  cases r with
  |cons r1 r2=>cases r1;rw[Bj r2];rfl
def DR:eF X (.builtin "isinstance") (λxs H Q=>∃(x:V) (p:Addr) (ns:List String) (M:List Addr) (d:D) (b:Bool),xs=[x,.ref p]/\Pk X.K M H d x/\iu X.K H p (ns.map V.ty)/\PySem.W.kitAny X.K (Gg d) (ns.map Value.type)=!b/\Q (.bl b) H):=by intro aj s Y H xs us Q I r h;let(x,p,ns,M,d,b,rfl,pk,hp,e,q):=h;let(u,w',rfl,r1,r2):=vals2 r;cases r2;let(Hh,Zk,hH,hx):=Vq I pk r1;let(its,rv,(o,h1,h2,n,h3),_):=I.tuple hp;rw[Bj rv]at h3;let(c,dd,dt,sl):=o;have h2':=h2;have h3':=h3;subst h2' h3';show PySem.W.kia_tup Zk I.nZ hH h1 e hx λtk=>#[.bl b,H,I.tok tk,rfl,q]
structure TyOk(X:Cx)(T:Str)(n:String):Prop where
 gl:Gl X T
 mg:X.mg T=none
 bt:bootBuiltins T=!(.type n)
 nn:T≠ "__name__"
 db:(T==(~~~3))=false
inductive o7(X:Cx):List Expr->List String->Prop
 |nil:o7 X [] []
 |cons {T:Str}{n:String}{p:Pos}{es:List Expr}{ns:List String}:TyOk X T n->o7 X es ns->o7 X (.Name T p::es) (n::ns)
def o7.pa(h:o7 X es ns):∃t,PA X es t/\∀Y H (Q:List V->Hp->Prop),Q (ns.map V.ty) H->t Y H Q:=by
 induction h with
 |nil=>show#[_,fS,λY H Q q=>q]
 |@cons T n p es ns h _ ih=>let(t,q,k):=ih;have pT:PE X (.Name T p) (tC (.ty n)):=tK h.gl h.mg h.bt rfl h.nn h.db;show#[_,bI pT q rfl,λY H Q hq=>k Y H _ hq]
def N3(hK:z.K=X.K)(h:aB X z a g r1 g1)(hp:pk r1 g1=!d)(ht:o7 X es ns)(hl:ns.length<=16777216)(he:∀M H v,Pk X.K M H d v->PySem.W.kitAny X.K (Gg d) (ns.map Value.type)=!b)
  (hg:Gl X "isinstance") (hm:X.mg "isinstance"=none) (hv:bootBuiltins "isinstance"=!(.builtin "isinstance"))
  (hs:starEach [a,.Tuple es k pT] X.env=(false,eval a X.env)::starEach [.Tuple es k pT] X.env):aB X z (.Call (.Name "isinstance" p) [a,.Tuple es k pT] [] pos) g (.dat (.bl b)) g1:=by
 let(t,q,kk):=h;let(tt,qt,kt):=ht.pa;apply#[_,iA DR hg hm hv (bI q (bI (G3 qt) fS) hs) ⋯ ⋯ hs,λY As M H Q s kq=>kk Y As M H _ s λv H' aC M' s' st R=>kt Y H' _ #[by rw[eJ];show oJ hl,λa ha=>?_]]
 have s2:=s'.laid (o:=.tup (ns.map V.ty)) ha;have pp:=s'.pk (au.refl _ _) R hp;apply#[v,a,ns,M',d,b,rfl,?_,.inl (.inl aA),he _ _ _ (hK▸pp),kq _ _ aC M' s2 (st.trans (au.laid ha)) (.bl b)];rw[<- hK];cases pp with
 |of r=>show .of (r.stay (au.laid ha))
 |lst e1 e2=>show .lst (by rw[az (aJ e1 ha)];show e1) (e2.stay (au.laid ha))
def DS(hN:X.N[i]?=!x)(hv:kj X.env.scope x)(hd:(x==(~~~3))=false)(cP:(x==("__classdict__":Str))=false)(hg:g[i]?=!(.own l0))(h:cT X z [e] g [.dat (.lst m)] g1)(rS:g1[i]?=!(.own l))(hl:l.length+m.length<=16777216)
  (hbase:attributeBase (.Name x pn) "extend" X.env (eval (.Name x pn) X.env)=eval (.Name x pn) X.env)
  (hline:(cZ.endLine==cA.line)=true) (hs:starEach [e] X.env=(false,eval e X.env)::starEach [] X.env):aB X z (.Call (.Attribute (.Name x pn) "extend" cZ) [e] [] cA) g (.dat .non) (g1.set i (.own (l++m))):=by
 let(t,q,k):=h;apply#[_,Az AV PySem.F.slot_list_extend PySem.F.type_list_extend Dh (dB hN hv hd cP) q hbase (by rw[hs];rfl) hline hs rfl,λY As M H Q s kk=>?_]
 let(a,xs,e1,e2,e3,e4):=s.sl.at hg;apply#[.ref a,e1,.inl #[rfl,xs,cQ.of e3],k Y As M H _ s λvs H' aC M' s' st R=>?_]
 let(b,ys,f1,f2,f3,f4):=s'.sl.at rS;rw[e1]at f1;injection f1 with f1;injection f1 with f1;injection f1 with f1;subst f1;cases R with
 |dat r R=>
  cases R;cases r with
  |@lst _ c zs hc rr=>
   apply#[a,c,ys,zs,rfl,rfl,f3,hc.2,by rw[<- f4.length,<- rr.length];show hl,?_]
   let(s2,aI):=s'.write rS e1 (f4.append rr);show kk _ _ aC M' s2 (st.trans aI) .non
end
abbrev ins(a:Int): ~~~0->List Int
 | []=>[a]
 |b::l=>if a<=b then a::b::l else b::ins a l
abbrev bH: ~~~0->List Int
 | []=>[]
 |a::l=>ins a (bH l)
def o8(a:Int):∀l:List Int,(ins a l).Perm (a::l)
 | []=>y7 _
 |b::l=>by
  delta ins;split
  . show y7 _
  . show ((o8 a l).cons b).trans (List.Perm.swap a b l)
def aV:∀l:List Int,(bH l).Perm l
 | []=>y7 _
 |a::l=>(o8 a _).trans ((aV l).cons a)
def o9(a:Int):∀{l: ~~~0},l.Pairwise (· <= ·)->(ins a l).Pairwise (· <= ·)
 | [],_=>List.pairwise_singleton _ _
 |b::l,h=>by
  let(h1,h2):=rV.mp h;delta ins;split
  .
   ext hab;apply rV.mpr #[λx hx=>?_,h]
   rcases dS.mp hx with rfl |hx
   . show hab
   . show Int.le_trans hab (h1 x hx)
  .
   ext hab;apply rV.mpr #[λx hx=>?_,o9 a h2]
   rcases dS.mp ((o8 a l).mem_iff.mp hx)with rfl |hx
   . lia
   . show h1 x hx
def cg:∀l:List Int,(bH l).Pairwise (· <= ·)
 | []=>List.Pairwise.nil
 |a::l=>o9 a (cg l)
def fj(hp:m.Perm l)(hs:m.Pairwise (· <= ·)):m=bH l:=
 (hp.trans (aV l).symm).eq_of_pairwise (λx y _ _ h1 h2=>Int.le_antisymm h1 h2) hs (cg l)
section
def jA(hl:IsTup s.heap l vs.toArray)
  (h:Q vs { s with heap:=(s.heap.push (seqObj "list" ([].toArray) 0)).update s⁻¹ (Obj.mapSeq (· ++ vs.toArray))}) (jo:vs.length<=sizeLine) :
  wpAny (model prog w) A (collect (.ref l)) Q E s:=by
 let(o,ho,hc,n,hd):=id hl;apply aS (wpAny_runValue (AS entry_proto_collect' ?_));apply aS (B0 (dC #[Code.quiet_builtin _ (by decide +kernel),AS entry_list_iadd' ?_]))
 exact wpAny _ _ (Builtin.List.listExtendWith (.ref s⁻¹) (.ref l) (.ref s⁻¹)) _ _ { s with heap:=s.heap.push (seqObj "list" ([].toArray) 0)};have ho':(s.heap.push (seqObj "list" ([].toArray) 0)).get? l=!o:=b0 _ ho;apply aS (BI #[o,ho',hc] ?_);have ht:(Value.type "tuple" == Value.type "tuple")=true:=by rfl
 rw[i8 (by rw[ht];simp)]
 apply aS (listItems_at ho' hd ?_);apply aS (listItems_at (eC _ rfl) rfl ?_);apply aS (listUpdate_at (eC _ rfl) rfl ?_ (tS _) (by exact (([].toArray)++vs.toArray).size<=sizeLine+1;simp only[Array.size_append,dL,AQ];lia))
 apply dC ?_;apply aS (wpAny_load (get?_update_seq (eC _ rfl) _) ?_);exact wpAny _ _ (pure ((([].toArray):Array Value)++vs.toArray).toList) Q E _;rw[show ((([].toArray):Array Value)++vs.toArray).toList=vs by simp]
 show dC h
def um(hl:IsTup s.heap l vs.toArray)(hI:IntsAre vs ns)(h64:vs.length<64)
  (h:∀(out:Array Value) (ns': ~~~0),IntsAre out.toList ns'->ns'.Perm ns->ns'.Pairwise (· <= ·)->Q (.ref (s⁻¹+1)) { s with heap:=sortedAll s.heap vs out}) :
  wpAny (model prog w) A (call (.builtin "sorted") [.ref l]) Q E s:=by
 apply BB kind_sorted plain_sorted entry_sorted (args_sorted1 _) ?_;apply aS (dC ?_);apply aS (jA hl ?_ (by rw[sB];lia))
 apply aS (B0 ?_);have jo:((s.heap.push (seqObj "list" ([].toArray) 0)).update s⁻¹ (Obj.mapSeq (· ++ vs.toArray))).objs.size=s⁻¹+1:=by rw[Heap.size_update,size_push']
 have hoL:(((s.heap.push (seqObj "list" ([].toArray) 0)).update s⁻¹ (Obj.mapSeq (· ++ vs.toArray))).push (seqObj "list" vs.toArray 0)).get? (s⁻¹+1)=!(seqObj "list" vs.toArray 0):=by rw[<- jo];show eC _ rfl
 rw[jo];apply aS (mE (nN slot_list_sort #[_,hoL,rfl] entry_list_sort (list_sort_tree hoL hI h64 λout ns' a1 a2 a3=>#[_,rfl,?_]) (args_list_sort _)))
 show dC #[_,rfl,h out ns' a1 a2 a3]
end
section
def vW:eF X (.builtin "sorted") (λxs H Q=>∃p ns,xs=[.ref p]/\(cQ X.K H p (ns.map V.int)\/iu X.K H p (ns.map V.int))/\ns.length<64/\∀q,H q=none->Q (.ref q) (upd H q (.lst ((bH ns).map V.int)))):=by
 intro aj s Y H xs us Q I r h;let(p,ns,rfl,hq,hl,q):=h;let(u,rfl,rx):=vals1 r;cases rx;have fin:∀(vs:List Value) (out:Array Value) (ns': ~~~0),IntsAre out.toList ns'->ns'.Perm ns->ns'.Pairwise (· <= ·)->EP X aj Y Q (.ref (s⁻¹+1)) { s with heap:=sortedAll s.heap vs out}:=λvs out ns' a1 a2 a3=>by
  have e:=fj a2 a3;subst e;let(ep,he):=sortedAll_at s.heap vs out;have aK:=(aV ns).length_eq;apply#[.ref (s⁻¹+1),_,I.laid (λb o e=>sortedAll_old e) (AY _) ?_,rfl,q _ (I.hok.fresh (AY _))]
  apply#[by rw[eJ,sB];lia,out.toList,ep,lQ a1,?_]
  rw[he]
 rcases hq with hq |hq
 . let(its,r',pl,hz):=I.list hq;have aK:=r'.length;rw[eJ]at aK;show sorted_ints pl.isList (intsAre_of r') ⋯ λout ns' a1 a2 a3=>fin its out ns' a1 a2 a3
 . let(its,r',pl,hz):=I.tuple hq;have aK:=r'.length;rw[eJ]at aK;show um pl (intsAre_of r') ⋯ λout ns' a1 a2 a3=>fin its out ns' a1 a2 a3
def lW{K:Frag}{M:List Addr}{H:Hp}:∀ns:List Int,aE K M H (ns.map D.int) (ns.map V.int)
 | []=>.nil
 |n::ns=>.cons (.int n) (lW ns)
def DT(hK:z.K=X.K)(h:bE d=!l)(hi:bX l=!ns)(hl:ns.length<64):CallD X z (.builtin "sorted") [d] (.new ((bH ns).map .int)):=by
 apply#[_,vW,λg Y As M H vs Q s p k=>?_]
 let(v,rfl,pv):=p.one;have fin:∀q,H q=none->Q (.ref q) (upd H q (.lst ((bH ns).map V.int))):=λq hq=>k _ _ As (q::M) (s.aN hq) (au.aN hq) #[q,_,rfl,dA,λhA=>s.fresh hq (s.sub q hA),s.cC hq,aA,lW _]
 cases d with
 |lst m=>symm;let(a,xs,rfl,e1,e2):=pv.list;have:=gq e2 hi;subst this;show#[a,ns,rfl,.inl (cQ.of e1),hl,fin]
 |tup m=>symm;let(a,xs,rfl,e1,e2):=pv.tup;have:=gq e2 hi;subst this;show#[a,ns,rfl,.inr (hK▸e1.sq),hl,fin]
 |fix m=>symm;let(a,xs,rfl,e1,e2):=pv.fix;have:=gq e2 hi;subst this;show#[a,ns,rfl,.inl (hK▸e1.sq),hl,fin]
 |_=>symm
end
section
abbrev Z8(X:Cx)(z:Z)(e:Expr)(g:G)(lo hi:Int)(g1:G):Prop:=
 ∀(aj: ~~~1) (s:Shared) (Y:Sg) (As M:List Addr) (H:Hp) (Post:Value->Shared->Prop),L2.Inv X aj Y H s->S z g Y As M H->
  (∀r s1 H1 aL M1 t u v,L2.Inv X aj Y H1 s1->S z g1 Y aL M1 H1->au M H M1 H1->IsRange s1.heap r lo hi 1 t u v->Post (.ref r) s1)->wpAny (~~~2) X.A (eval e X.env) Post X.xe s
def cT.run(ha:cT X z es g rs g1)(I:L2.Inv X aj Y H s)(st:S z g Y As M H)
  (k:∀vs us s1 H1 aL M1,L2.Inv X aj Y H1 s1->Vals vs us->S z g1 Y aL M1 H1->au M H M1 H1->jN z Y M1 H1 rs vs->Post us s1):wpAny (~~~2) X.A (spliced (backTo pos (starEach es X.env))) Post X.xe s:=by
 let(t,q,kt):=ha;show bU (q pos aj s Y H (λvs H1=>∃aL M1,S z g1 Y aL M1 H1/\au M H M1 H1/\jN z Y M1 H1 rs vs) I (kt Y As M H _ st λvs H1 aL M1 s1 dz R=>#[aL,M1,s1,dz,R])) (by rintro us s1 ⟨vs,H1,I1,r1,aL,M1,q1,q2,q3⟩;show k vs us s1 H1 aL M1 I1 r1 q1 q2 q3)
def rg_1(h:cT X z [a] g [‹j›] g1)(hg:Gl X "range")(hm:X.mg "range"=none)(hs:starEach [a] X.env=[(false,eval a X.env)]):Z8 X z (.Call (.Name "range" p) [a] [] rp) g 0 j g1:=by
 intro aj s Y As M H Post I st k;apply Call_ (gI I hg hm boot_range (oQ (h.run I st λvs us s1 H1 aL M1 I1 r1 q1 q2 q3=>?_) hs rfl))
 cases q3 with
 |dat r R=>
  cases R;cases r;cases r1 with
  |cons r rr=>cases rr;let(t,rfl):=r;show call_range_1 (k _ _ H1 aL M1 _ _ _ (I1.kept λb o e=>b0 _ e) q1 q2 (IsRange.new ..))
abbrev DW(lo:Int)(n:Nat):List V:=(List.range n).map λ(k:Nat)=>V.int (lo+(k:Int))
def DX{lo:Int}{n:Nat}{acc:Array Value}(h:ItemsOf (λi v=>∃t,v=Value.int (lo+(i:Int) * 1) t) acc n):Vals (DW lo n) acc.toList:=by
 have key:∀(m:Nat) (l:List Value) (o:Nat),l.length=m->(∀j v,l[j]?=!v->∃t,v=Value.int (lo+((o+j:Nat):Int)) t)->Vals ((List.range' o m).map λ(k:Nat)=>V.int (lo+(k:Int))) l:=by
  intro m
  induction m with
  |zero=>intro l o hl _;cases l with
   |nil=>show .nil
   |cons _ _=>simp at hl
  |succ m ih=>
   intro l o hl hv;cases l with
   |nil=>simp at hl
   |cons v l=>
    let(t,e):=hv 0 v rfl;apply .cons #[t,by rw[e];rfl] (ih l (o+1) (by simpa using hl) λj w hw=>?_)
    let(t',e'):=hv (j+1) w (by simpa using hw)
    show#[t',by rw[e',show o+(j+1)=o+1+j by lia]]
 delta DW;rw[xL];apply key n acc.toList 0 (by rw[oD];show h.1) λj v hv=>?_
 let(t,e):=h.2 j v (by rw[<- AZ];show hv)
 show#[t,by rw[e,A4,Int.mul_one]]
def DY{K:Frag}{M:List Addr}{H:Hp}(lo:Int)(n:Nat):aE K M H (cD lo n) (DW lo n):=by
 delta cD DW
 induction List.range n with
 |nil=>show .nil
 |cons k l ih=>show .cons (.int _) ih
def Ic{e:Expr}{lo hi:Int}(h:Z8 X z e g lo hi g1)(hc:X.calm=true)(hg:Gl X "list")(hm:X.mg "list"=none)(hs:starEach [e] X.env=[(false,eval e X.env)])(h1 : -(2 ^ 62)<=lo/\lo<2 ^ 62/\-(2 ^ 62)<=hi/\hi<2 ^ 62)(hl:(hi - lo).toNat<=16777216) :
  aB X z (.Call (.Name "list" lp) [e] [] pos) g (.new (cD lo (hi - lo).toNat)) g1:=by
 apply aB.of λaj s Y As M H Post I st k=>?_
 apply Call_ (gI I hg hm (by rfl:bootBuiltins ("list":Str)=!(.type "list")) (oQ ?_ hs rfl))
 rw[hs];apply Calls.spliced_cons (h aj s Y As M H _ I st λr s1 H1 aL M1 t u v I1 q1 q2 hr=>Calls.spliced_nil ?_)
 have hn:Builtin.Range.rangeSize lo hi 1=(((hi - lo).toNat:Nat):Int):=by rw[rangeSize_one];split <;> lia
 apply call_list_range (I1.ok.hd hc) hr (small_one h1.1 h1.2.1 h1.2.2.1 h1.2.2.2) hn hl λh' tk acc' c' hk hS' hacc=>?_
 have hf:=I1.hok.fresh (eD _);have s2:=q1.aN (xs:=DW lo (hi - lo).toNat) hf;have vv:=DX hacc;have I2:=
  I1.laid (t':=tk) hk (eD _) (show cW X.prog X.w _ h' _ (.lst (DW lo (hi - lo).toNat))from#[by rw[vv.length,oD,hacc.1];show oJ hl,acc'.toList,c',vv,by simpa using hS'])
 show k (.ref s1⁻¹) _ _ _ aL (s1⁻¹::M1) I2 rfl s2 (q2.trans (au.aN hf)) #[_,_,rfl,dA,λhA=>q1.fresh hf (q1.sub _ hA),q1.cC hf,aA,DY _ _]
end
def pg(o:Obj)(f):(o.mapFields f).dict=o.dict:=by let(c,d,dt,sl):=o;cases dt <;> rfl
structure vh(h₀:Heap)(x C:Addr)(H:Hp)(h:Heap):Prop where
 obj:∃oe vs,h.get? x=!oe/\oe.cls=.ref C/\oe.dict=none/\oe.data=.fields vs/\1<vs.size/\(vs[1]?=some .none\/∃T oT ts,vs[1]?=!(.ref T)/\T≠x/\h₀.get? T=none/\H T=none/\h.get? T=!oT/\oT.data=.fields ts/\ts[3]?=some .none)
 new:h₀.get? x=none
 no:H x=none
section
def kU
  (hfr:A.frames=!(env::outer)) (hl:s.heap.FunFrames base (env::outer)) (hf:env.frame=!L) (he:s.heap.get? x=!oe) (hd:oe.data=.fields vs) (jo:1<vs.size)
  (h:∀h',(∀b o,b∉frs (env::outer)->b≠x->s.heap.get? b=!o->h'.get? b=!o)->(∀b o,b∈frs (env::outer)->s.heap.get? b=!o->∃sl,h'.get? b=some { o with slots:=sl})->
   (∃Gi vs' oT ts,h'.get? x=!Gi/\Gi.cls=oe.cls/\Gi.dict=oe.dict/\Gi.data=.fields vs'/\1<vs'.size/\vs'[1]?=!(.ref s⁻¹)/\h'.get? s⁻¹=!oT/\oT.data=.fields ts/\ts[3]?=some .none)->Q () { s with heap:=h'}) :
  wpAny M A (do let a <- frameOf env;let pl <- entryPlaceOf L hadNext;let b <- EntryCells.newEntry head a .none (rawInt L) .none pl;setField (.ref x) 1 b) (λ_ s'=>wpAny M A (setFlight (.ref x) none) Q E s') E s:=by
 have hx:x∉(env::outer).filterMap (·.frame):=λhm=>by
  let(_,o,ho,hnf):=hl.mem hm;rw[he]at ho;cases ho;show hnf vs hd
 apply aS (wpAny_frameOf_fun hfr hl hf λh₁ hs₁=>?_)
 apply aS (wpAny_entryPlaceOf λpl ig=>?_)
 apply aS (nS ?_ (ig.sizeOk5 _ _ _ _ _));have he₁:=(hs₁.2.1 x hx).trans he;generalize hO:({ cls:=.type "traceback",dict:=none,data:=.fields ([head,.ref L,.none,rawInt L,.none]++(if pl.isEmpty then List.replicate 6 Value.none else pl)).toArray}:Obj)=O
 have he₂:=b0 O he₁;have hsz₁:=hs₁.1;have hT₂:(h₁.push O).get? h₁.objs.size=!O:=eC _ (by rw[<- hO];rfl)
 apply AD he₂ hd jo ?_;have Vr:=AC (eQ he₁);have hd₃:=pE hd (·.setIfInBounds 1 (Value.ref h₁.objs.size));have he₃:=mB (Obj.mapFields (·.setIfInBounds 1 (Value.ref h₁.objs.size))) he₂ (v6 hd₃);have hT₃:=(i5 (h₁.push O) (Obj.mapFields (·.setIfInBounds 1 (Value.ref h₁.objs.size))) (n0 Vr)).trans hT₂;have hdO:O.data=.fields ([head,.ref L,.none,rawInt L,.none]++(if pl.isEmpty then List.replicate 6 Value.none else pl)).toArray:=by rw[<- hO]
 apply aS (o6 he₃ hd₃ (x:=.ref h₁.objs.size) (by simp[jo]) ?_)
 apply AD hT₃ hdO (by simp only[dL,eP,i9] <;> lia) (h _ ?_ ?_ ?_)
 . intro b o hb N4 ho;have Z9:=(hs₁.2.1 b hb).trans ho;rw[i5 _ _ (AC (eQ Z9)),i5 _ _ (n0 N4)];show b0 _ Z9
 .
  intro b o hb ho;let(sl,Z9):=hs₁.2.2 b o ho;have N4:b≠x:=λq=>hx (q▸hb)
  apply#[sl,?_];rw[i5 _ _ (AC (eQ Z9)),i5 _ _ (n0 N4)];show b0 _ Z9
 .
  rw[<- hsz₁];apply#[_,_,_,_,(i5 _ _ Vr).trans he₃,CA _ _,pg _ _,hd₃,by simp[jo],by simp[jo],mB _ hT₃ (v6 (pE hdO _)),pE hdO _,?_]
  first
   | (simp;done)
   | (rcases ig with rfl |⟨_,_,_,_,_,_,_,rfl⟩ <;> simp)
def qW
  (hfr:A.frames=!(env::outer)) (hl:s.heap.FunFrames base (env::outer)) (hf:env.frame=!L) (fl:vh h₀ x C H s.heap) (hn:h₀.get? s⁻¹=none) (hH:∀b,s⁻¹<=b->H b=none)
  (h:∀h',(∀b o,b∉frs (env::outer)->(h₀.get? b=none->H b=none->∀vs,o.data≠.fields vs)->s.heap.get? b=!o->h'.get? b=!o)->(∀b o,b∈frs (env::outer)->s.heap.get? b=!o->∃sl,h'.get? b=some { o with slots:=sl})->
   vh h₀ x C H h'->(∀b o,s.heap.get? b=!o->∃o',h'.get? b=!o')->Q () { s with heap:=h'}):wpAny M A (noteFrame (.ref x) env) (λ_ s'=>wpAny M A (setFlight (.ref x) none) Q E s') E s:=by
 let((oe,vs,he,hc,cP,hd,jo,hT),N5,RP):=fl;have hxf:x∉frs (env::outer):=λhm=>by
  let(_,o,ho,hnf):=hl.mem hm;rw[he]at ho;cases ho;show hnf vs hd
 have fin:∀(T0:Addr) (h1 h':Heap),(∀b,b≠T0->h1.get? b=s.heap.get? b)->(T0=x\/(h₀.get? T0=none/\H T0=none/\T0∉frs (env::outer)/\∃oT ts,s.heap.get? T0=!oT/\oT.data=.fields ts))->(∀o,s.heap.get? T0=!o->∃o',h1.get? T0=!o')->h1.objs.size=s⁻¹->
   (∀b o,b∉frs (env::outer)->b≠x->h1.get? b=!o->h'.get? b=!o)->(∀b o,b∈frs (env::outer)->h1.get? b=!o->∃sl,h'.get? b=some { o with slots:=sl})->
   (∃Gi vs' oT ts,h'.get? x=!Gi/\Gi.cls=oe.cls/\Gi.dict=oe.dict/\Gi.data=.fields vs'/\1<vs'.size/\vs'[1]?=!(.ref h1.objs.size)/\h'.get? h1.objs.size=!oT/\oT.data=.fields ts/\ts[3]?=some .none)->Q () { s with heap:=h'}:=by
  rintro T0 h1 h' a1 a2 a2' a3 k1 k2 ⟨Gi,vs',oT,ts,e1,e2,Yl,e3,e4,e5,e6,e7,e8⟩;have hTf:=a2.elim (λq=>q▸hxf) λq=>q.2.2.1
  apply h h' (λb o hb hH' ho=>?_) (λb o hb ho=>?_) #[#[Gi,vs',e1,e2.trans hc,Yl.trans cP,e3,e4,.inr #[h1.objs.size,oT,ts,e5,?_,?_,?_,e6,e7,e8]],N5,RP] λb o ho=>?_
  .
   have N4:b≠x:=λq=>by
    subst q;rw[he]at ho;cases ho;show hH' N5 RP vs hd
   have hbT:b≠T0:=λq=>a2.elim (λz=>N4 (q.trans z)) (by
    rintro⟨z1,z2,_,oT,ts,z3,z4⟩;subst q;rw[z3]at ho;cases ho;show hH' z1 z2 ts z4)
   show k1 b o hb N4 ((a1 b hbT).trans ho)
  . show k2 b o hb ((a1 b (λq=>hTf (q▸hb))).trans ho)
  . rw[a3];show AC (eQ he)
  . rw[a3];show hn
  . rw[a3];show hH _ (eD _)
  .
   by_cases N4:b=x
   . show#[Gi,N4▸e1]
   .
    have h1b:∃o1,h1.get? b=!o1:=by
     by_cases hbT:b=T0
     . subst hbT;show a2' o ho
     . show#[o,(a1 b hbT).trans ho]
    let(o1,yX):=h1b;by_cases hb:b∈frs (env::outer)
    . let(sl,q):=k2 b o1 hb yX;show#[_,q]
    . show#[o1,k1 b o1 hb N4 yX]
 delta noteFrame;simp only[hf];rcases hT with hT |⟨T,oT,ts,h1,Vr,hTn,hTH,Lr,Ls,h3⟩
 . apply aS (o6 he hd hT ?_);show kU hfr hl hf he hd jo λh' k1 k2 k3=>fin x s.heap h' (λ_ _=>rfl) (.inl rfl) (λo ho=>#[o,ho]) rfl k1 k2 k3
 .
  apply aS (o6 he hd h1 ?_);apply aS (o6 Lr Ls h3 ?_);apply aS (AD Lr Ls (tP.mp h3).1 ?_);have other:∀b,b≠T->(s.heap.update T (Obj.mapFields (·.setIfInBounds 3 Value.none))).get? b=s.heap.get? b:=λb hb=>i5 _ _ (n0 hb)
  have hTf:T∉frs (env::outer):=λhm=>by
   let(_,o,ho,hnf):=hl.mem hm;rw[Lr]at ho;cases ho;show hnf ts Ls
  have rec':∀b o,s.heap.get? b=!o->(∀vs,o.data≠.fields vs)->b≠T:=λb o hb hnf q=>by
   rw[q,Lr]at hb;cases hb;show hnf ts Ls
  apply kU hfr (hl.of_keeps λb o hb hnf=>#[o,(other b (rec' b o hb hnf)).trans hb,rfl]) hf ((other x (n0 Vr)).trans he) hd jo λh' k1 k2 k3=>?_
  show fin T _ h' other (.inr #[hTn,hTH,hTf,oT,ts,Lr,Ls]) (λo ho=>#[_,mB _ Lr (v6 (pE Ls _))]) (Heap.size_update ..) k1 k2 k3
end
def vh.mono(f:vh h₁ x C H h)(hm:∀b o,h₀.get? b=!o->∃o',h₁.get? b=!o'):vh h₀ x C H h:=by
 have no:∀b,h₁.get? b=none->h₀.get? b=none:=λb hb=>by
  cases e:h₀.get? b with
  |none=>rfl
  |some o=>let(o',e'):=hm b o e;rw[hb]at e';cases e'
 let((oe,vs,h1,h2,h2',h3,h4,h5),h6,h7):=f;show#[#[oe,vs,h1,h2,h2',h3,h4,h5.imp id (by rintro⟨T,oT,ts,q1,q2,q3,q4⟩;show#[T,oT,ts,q1,q2,no T q3,q4])],no x h6,h7]
abbrev Gj(P:Program)(w:World):De:=λouter H s E e s'=>∃x C H',e=.ref x/\s'.os=s.os/\AllBare s'.gens/\Un (frs outer) [] H H' s.heap s'.heap/\lM P w H' s'.heap/\vh s.heap x C H' s'.heap/\E (.ref C) none H'
def Ie(hx:X.ex=[])(I:L2.Inv X aj Y H s)(h:Gj X.prog X.w X.stack H s E e s') :
  ∃x C H',e=.ref x/\L2.Inv X aj Y H' s'/\vh X.s₀.heap x C H' s'.heap/\E (.ref C) none H':=by
 let(x,C,H',rfl,h1,h2,h3,h4,h5,h6):=h;show#[x,C,H',rfl,I.call' h1 h3 h4 h2 (λb z=>absurd z ⋯),h5.mono λb o e=>I.base.there b o e (by rw[hx];simp),h6]
section
def vX(I:L2.Inv X aj Y H' s')(cH:X.stack=X.env::X.outer)(hf:X.env.frame=!X.env.locals)(hex:X.ex=[])(fl:vh X.s₀.heap x C H' s'.heap)
  (h:∀h'',(∀b o,b∉frs (X.env::X.outer)->(X.s₀.heap.get? b=none->H' b=none->∀vs,o.data≠.fields vs)->s'.heap.get? b=!o->h''.get? b=!o)->(∀b o,b∈frs (X.env::X.outer)->s'.heap.get? b=!o->∃sl,h''.get? b=some { o with slots:=sl})->
   Un (frs X.outer) [] X.H₀ H' X.s₀.heap h''->lM X.prog X.w H' h''->vh X.s₀.heap x C H' h''->Q () { s' with heap:=h''}) :
  wpAny (~~~2) X.A (noteFrame (.ref x) X.env) (λ_ s2=>wpAny (~~~2) X.A (setFlight (.ref x) none) Q E' s2) E' s':=by
 have hl:=I.stack;rw[cH]at hl;have ub:=hex▸I.base;have hsf:=I.tG;rw[cH]at hsf;apply qW (I.ok.frames.trans (by rw[cH])) hl hf fl (Heap.get?_none_of_le I.sz) (λb hb=>I.hok.fresh hb) λh'' k1 k2 k3 k4=>?_
 have hin:∀b,b∈frs X.outer->b∈frs (X.env::X.outer):=λb hb=>by
  delta frs;rw[u4,hf];show bP _ hb
 have hno:∀b o,X.s₀.heap.get? b=!o->b∉frs X.outer->b∉frs (X.env::X.outer):=λb o ho hb hm=>by
  delta frs at hm;rw[u4,hf]at hm;rcases dS.mp hm with e |hm
  . rw[e]at ho;show nV _ (eM (eQ ho) I.ok.above)
  . show hb hm
 have hlt:∀b o (ob:Obj),X.s₀.heap.get? b=!o->(X.s₀.heap.get? b=none->H' b=none->∀vs,ob.data≠.fields vs):=λb o ob ho hb=>by rw[ho]at hb;cases hb
 apply h h'' k1 k2 #[λb o q n hb hx=>?_,λb o q n hb hx=>?_,ub.free,λb o q hx=>?_,ub.tups,ub.kB,ub.kD] (λa o e=>?_) k3
 . show k1 b o (hno b o q hb) (hlt b o _ q) (ub.keep b o q n hb hx)
 . let(sl,e1):=ub.slot b o q n hb hx;let(sl',e2):=k2 b _ (hin b hb) e1;show#[sl',e2]
 . let(o',e1):=ub.there b o q hx;show k4 b o' e1
 .
  apply (I.hok a o e).stay (λb u hb q=>?_) (λ_ q=>q) λ_ _ q=>q
  have ht:H' b≠none:=by
   rcases hb with rfl |hb
   . rw[e];simp
   . rw[hb];simp
  show k1 b u (λhm=>ht (hsf b hm)) (λ_ z=>absurd z ht) q
def r9(I:L2.Inv X aj Y H' s')(cH:X.stack=X.env::X.outer)(hf:X.env.frame=!X.env.locals)(hex:X.ex=[])(fl:vh X.s₀.heap x C H' s'.heap)
  (h:∀s'',Gj X.prog X.w X.outer X.H₀ X.s₀ (λc o h=>c=.ref C/\o=none/\h=H') (.ref x) s''->Q () s'') :
  wpAny (~~~2) X.A (leaving X.env (.ref x)) Q E' s':=by
 show aS (vX I cH hf hex fl λh'' _ _ u k f=>h _ #[x,C,H',rfl,I.os,I.bare,u,k,f,rfl,rfl,rfl])
def Ea(I:L2.Inv X [] Y H' s')(hp:X.pn=[])(cH:X.stack=X.env::X.outer)(hf:X.env.frame=!X.env.locals)(hex:X.ex=[])(fl:vh X.s₀.heap x C H' s'.heap)
  (h:∀s'',L2.Inv X [] Y H' s''->vh X.s₀.heap x C H' s''.heap->Q () s'') :
  wpAny (~~~2) X.A (noteFrame (.ref x) X.env) (λ_ s2=>wpAny (~~~2) X.A (setFlight (.ref x) none) Q E' s2) E' s':=by
 apply vX I cH hf hex fl λh'' k1 k2 u k f=>h _ ?_ f
 have cellK:∀c v,s'.heap.IsCell c v->h''.IsCell c v:=by
  rintro c v ⟨o,e,d⟩;by_cases hb:c∈frs (X.env::X.outer)
  . let(sl,e2):=k2 c o hb e;show#[_,e2,d]
  . show#[o,k1 c o hb (λ_ _ vs q=>by rw[d]at q;cases q) e,d]
 have hlm:X.env.locals∈frs (X.env::X.outer):=by delta frs;rw[u4,hf];show dA
 let(m,hn,hlk):=I.loc;apply#[I.ok,I.os,I.bare,hex▸u,#[m,?_,λi y v h1 h2 h3=>?_],λy c e=>?_,I.free,I.dP,λp hp2=>?_,k,I.len]
 . let(o,es,ep,e,d,r):=hn;let(sl,e2):=k2 _ o hlm e;show#[_,es,ep,e2,d,r]
 . let(u,r,q):=hlk i y v h1 h2 h3;apply#[u,r,q.imp id (by rintro⟨q1,c,q2,q3⟩;show#[q1,c,q2,cellK c _ q3])]
 . let(v,q):=I.cell y c e;show#[v,cellK c v q]
 . rw[hp]at hp2;cases hp2
end
def Ig{P:Program}{w:World}{K:Frag}{mg:Str->Option Value}{base:Heap}{N:List Str}{qual:Str}{scope:Scope}{f:Addr}{cd:Value}{A:Around}{outer:List Env}{s:Shared}{H:Hp}{E:XK}{aj: ~~~1}{Y:Sg}{H':Hp}{s':Shared}{x C:Addr}
  (I:L2.Inv (gJ (Gj P w) P w K mg base N qual scope f cd A outer s H E) aj Y H' s') (fl:vh s.heap x C H' s'.heap) (hE:E (.ref C) none H'):(gJ (Gj P w) P w K mg base N qual scope f cd A outer s H E).xe (.ref x) s':=
 r9 I rfl rfl rfl fl (by
  rintro s'' ⟨y,D,H2,e,h1,h2,h3,h4,h5,e1,e2,e3⟩;cases e;cases e1;subst e3;show#[x,C,H2,rfl,h1,h2,h3,h4,h5,hE])
abbrev Acc(X:Cx)(z:Z)(g':G)(M:List Addr)(H:Hp)(C:Addr)(Y:Sg):Prop:=
 ∀aj s1 H1 aL M1 x,L2.Inv X aj Y H1 s1->S z g' Y aL M1 H1->au M H M1 H1->vh X.s₀.heap x C H1 s1.heap->X.xe (.ref x) s1
abbrev Eb(X:Cx)(z:Z)(g':G)(M:List Addr)(H:Hp)(C:Addr):Prop:=∀Y,Acc X z g' M H C Y
def Acc.trans(st:au M H M1 H1)(h:Acc X z g' M H C Y):Acc X z g' M1 H1 C Y:=λaj s1 H2 aL M2 x I s st' fl=>h aj s1 H2 aL M2 x I s (st.trans st') fl
def Eb.trans(st:au M H M1 H1)(h:Eb X z g' M H C):Eb X z g' M1 H1 C:=λY=>(h Y).trans st
abbrev Gk(X:Cx)(z:Z)(e:Expr)(g:G)(C:Addr)(g':G):Prop:=∃t,PE X e t/\∀Y As M H Q,S z g Y As M H->Acc X z g' M H C Y->t Y H Q
abbrev Ym(X:Cx)(z:Z)(e:Expr)(g:G)(C:Addr)(g':G):Prop:=∃t,PT X e t/\∀Y As M H Q,S z g Y As M H->Acc X z g' M H C Y->t Y H Q
abbrev RaA(X:Cx)(z:Z)(es:List Expr)(g:G)(C:Addr)(g':G):Prop:=∃t,PA X es t/\∀Y As M H Q,S z g Y As M H->Acc X z g' M H C Y->t Y H Q
abbrev Vs(X:Cx)(z:Z)(st:Stmt)(g:G)(C:Addr)(g':G):Prop:=∃t,PS X st t/\∀Y As M H E,S z g Y As M H->Eb X z g' M H C->t E Y H
abbrev N6(X:Cx)(z:Z)(jJ:List Stmt)(g:G)(C:Addr)(g':G):Prop:=∃t,tH X jJ t/\∀Y As M H E,S z g Y As M H->Eb X z g' M H C->t E Y H
section
variable{st:Stmt}
def aB.lift(h:aB X.tL z e g r g'):aB X z e g r g':=let #[t,q,k]:=h;#[t,q.tL,k]
def cJ.lift(h:cJ X.tL z e g v g'):cJ X z e g v g':=let #[t,q,k]:=h;#[t,q.tL,k]
def Vt(h:Gk X z e g C g')(he:∀whole,isTrue e X.env whole=(do let v <- whole;standAt e.pos;holding [v] (truthy v))):Ym X z e g C g':=by let(t,q,k):=h;show#[_,Tj q he,λY As M H Q s ac=>k Y As M H _ s ac]
def N7(h:Ym X z a g C g'):Ym X z (.UnaryOp .Not a pos) g C g':=by let(t,q,k):=h;show#[_,GD q,λY As M H Q s ac=>k Y As M H _ s ac]
def N8(h:Gk X z e g C g')(hs:starEach (e::es) X.env=(false,eval e X.env)::starEach es X.env):RaA X z (e::es) g C g':=by
 let(t,q,k):=h;have pn:PA X es (λ_ _ _=>False):=λ_ _ _ _ _ _ _ h=>h.elim
 show#[_,bI q pn hs,λY As M H Q s ac=>k Y As M H _ s ac]
def N9(h1:aB X z e g r g1)(h:RaA X z es g1 C g')(hs:starEach (e::es) X.env=(false,eval e X.env)::starEach es X.env):RaA X z (e::es) g C g':=by let(t1,q1,k1):=h1;let(t,q,k):=h;show#[_,bI q1 q hs,λY As M H Q s ac=>k1 Y As M H _ s λv H1 aL M1 s1 dz R1=>k Y aL M1 H1 _ s1 (ac.trans dz)]
def Vu(h:Gk X z e g C g'):Vs X z (.Return (!e) pos) g C g':=by let(t,q,k):=h;show#[_,yE q,λY As M H E s ac=>k Y As M H _ s (ac Y)]
def Oa(h:Gk X z e g C g')(hs:swapsWith e none pos.line X.env=pure false):Vs X z (.Expr e pos) g C g':=by let(t,q,k):=h;show#[_,tM q hs,λY As M H E s ac=>k Y As M H _ s (ac Y)]
def Vv(h:Ym X z c g C g'):Vs X z (.If c x y pos) g C g':=by let(t,q,k):=h;show#[_,vA q bF bF,λY As M H E s ac=>k Y As M H _ s (ac Y)]
def Ih(h1:cJ X z c g v g1)(h:N6 X z (if v then x else y) g1 C g'):Vs X z (.If c x y pos) g C g':=by
 let(t1,q1,k1):=h1;let(t,q,k):=h;cases v with
 |true=>show#[_,vA q1 q bF,λY As M H E s ac=>k1 Y As M H _ s λH' aC M' s' st=>jr (k Y aC M' H' _ s' (ac.trans st))]
 |false=>show#[_,vA q1 bF q,λY As M H E s ac=>k1 Y As M H _ s λH' aC M' s' st=>lR (k Y aC M' H' _ s' (ac.trans st))]
def Ob(h:Vs X z st g C g'):N6 X z (st::jJ) g C g':=by let(t,q,k):=h;show#[_,dQ q bF,λY As M H E s ac=>k Y As M H _ s ac]
def Oc(h1:fT X z st g .nx g1)(h:N6 X z jJ g1 C g'):N6 X z (st::jJ) g C g':=by let(t1,q1,k1):=h1;let(t,q,k):=h;show#[_,dQ q1 q,λY As M H E s ac=>k1 Y As M H _ s λσ' aC M' H' s' st'=>k σ' aC M' H' E s' (ac.trans st')]
end
abbrev SpX(K:Frag)(N:List Str)(np:Nat)(run:List Nat->G->Addr->G->Prop):Sp:=λvs H _ E=>
 vs.length=np/\∃(z:Z) (g g':G) (As M:List Addr) (C:Addr),z.K=K/\S z g (L2.start N vs) As M H/\run z.bor g C g'/\∀σ' aC M' H',S z g' σ' aC M' H'->au M H M' H'->E (.ref C) none H'
section
variable{run:List Nat->G->Addr->G->Prop}
def Vw{P:Program}{w:World}{K:Frag}{mg:Str->Option Value}{base:Heap}{qual:Str}{st:Stmt}(F:MK K x qual st f fd)(Sc:bZ N ps (aD st))
  (h:∀(bG:Value) (A:Around) (outer:List Env) (s:Shared) (H:Hp) (E:XK),PySem.W.codeIn K bG qual=true->cB k (A.deeper (envOfC qual (aD st) s⁻¹ f bG))->
   ∀(z:Z) (g:G) (C:Addr) (g':G),z.K=K->run z.bor g C g'->N6 (gJ (Gj P w) P w K mg base N qual (aD st) f bG A outer s H E) z (bx st) g C g') :
  jK P w K mg base (Gj P w) (k+1) f fd ps (SpX K N ps.length run):=by
 let(oc,od,kV,doc,pm,an,bG,ct,osl,rfl,lk,cP):=F.ex;apply Rv lk cP Sc (λvs H Q E q=>q.1) ?_
 rintro A outer s H vs Q E hr ⟨_,z,g,g',As,M,C,hK,hs,hrun,hQ⟩;let(t,q,kk):=h bG A outer s H E cP hr z g C g' hK hrun;show#[t,q,kk _ As M H _ hs λY aj s1 H1 aL M1 y I s' st' fl=>Ig I fl (hQ Y aL M1 H1 s' st')]
def Od(F:jK X.prog X.w X.K X.mg X.base (Gj X.prog X.w) k f fd ps (SpX X.K N ps.length run))(hK:z.K=X.K)(hex:X.ex=[])(hr:cB k X.A)(hg:Gl X x)(hm:X.mg x=!(.ref f))(hk:PySem.W.keepIn X.K (.ref f)=true)(hb:L2.Binds X.K fd ps [])
  (ha:cT X z (e::es) g rs g1) (aK:rs.length=ps.length) (hl:cR rs g1=!gs) (nd:((vars 0 rs).map (·.2)).Nodup) (hrun:run ((vars 0 rs).map (·.1)) (dW N.length gs) C gc) (HJ:back (vars 0 rs) gc g1=!gO)
  (ku:(x==(~~~3))=false) (he:starEach (e::es) X.env=(false,eval e X.env)::starEach es X.env) (ig:(backTo pos (starEach es X.env)).any (·.1)=false) :
  Gk X z (.Call (.Name x p) (e::es) [] pos) g C gO:=by
 apply#[λY H Q=>∃As M,S z g Y As M H/\Acc X z gO M H C Y,?_,λY As M H Q s ac=>#[As,M,s,ac]]
 rintro aj s Y H Q I ⟨As,M,hs,ac⟩;apply AA (gH I hg hm ?_ ku);apply BN I.ok.mod.yy hk (ha.run I hs λvs us s1 H1 aL M1 I1 r1 q1 q2 R1=>#[I1.nZ,?_]) he ig
 have hv:=R1.length;have hl2:(us++[]).length=ps.length:=by rw[l9,<- r1.length,hv,aK]
 have ee:=q1.enter (N:=N) R1 hl nd;apply DF (BF (F.run X.A X.stack s1 H1 #[us,[]] (us++[]) (vs++[]) (λ_ _=>False) (λcls _ H'=>cls=.ref C/\∃bu M2,S z gO Y bu M2 H'/\au M H M2 H') hr I1.Ms (hb s1 us I1.nZ hl2) (by rw[l9,l9];show r1) ?_) λr s' hq=>?_)
 .
  rw[l9];apply#[by rw[hv,aK],rW z Y M1 H1 rs,dW N.length gs,gc,_,M1,C,hK,ee,by rw[lU];show hrun,λσ' aC M' H' s' st'=>#[rfl,?_]]
  let(M2,s2,aI,_):=q1.leave (r:=.dat .non) R1 hl nd s' st' .non HJ rfl;show#[aL,M2,s2,q2.trans aI]
 .
  cases r with
  |error ev=>
   have hq:Gj X.prog X.w X.stack H1 s1 (λcls _ H'=>cls=.ref C/\∃bu M2,S z gO Y bu M2 H'/\au M H M2 H') ev s':=hq
   let(y,C',H',rfl,I',fl,hC,bu,M2,s2,aI):=Ie hex I1 hq;cases hC;show ac aj s' H' bu M2 y I' s2 aI fl
  |ok flw=>
   cases flw with
   |ret u=>let(_,_,_,_,_,_,_,q):=hq;show q.elim
   |next=>show False.elim hq
   |brk=>show False.elim hq
   |cont=>show False.elim hq
end
abbrev veM:List Value:=[.type "ValueError",.type "Exception",.type "BaseException",.type "object"]
meta abbrev fy(K:Frag)(C:Addr):Prop:=PySem.W.excIn K C veM "ValueError.__new__"=true
def uo{K:Frag}{h:Heap}{C:Addr}(X:K.In h)(q:fy K C) :
  ∃bm N nm qn bs hdct sn sub ab col dd k0 k1 k2 k3 k5 mN,h.get? C=!(excClassObj nm qn C N bs bm hdct sn sub ab col dd k0 k1 k2 k3 k5 "ValueError.__new__")/\h.Ns N mN/\mN "__init__"=none/\OwnTail h veM bm:=by
 delta fy PySem.W.excIn at q;split at q
 .
  ext dd cd sl ho;split at q
  .
   ext C' bm k0 k1 k2 k3 n k5 hm hs;simp only[fN,beq_iff_eq,Bi]at q;let(((((rfl,rfl),hdel),ht),hok),hni):=q;let(nm,bs,mro,ns,qn,hd,sn,sub,ab,col,del):=cd;subst hm hdel;have hsl:sl = ([k0,k1,k2,k3,!(.builtin "ValueError.__new__"),k5].toArray):=by obtain⟨l⟩:=sl;simp only at hs;rw[hs]
   subst hsl;show#[bm,ns,nm,qn,bs,hd,sn,sub,ab,col,dd,k0,k1,k2,k3,k5,_,X _ _ ho,.of_isNs (PySem.W.isNs_of_in X hok),PySem.W.nsMap_none_of_in X hok hni,PySem.W.tail_of_in X ht]
  . cases q
 . cases q
def vY(x:cW P w H h a o):∃ob,h.get? a=!ob:=by
 induction o with
 |lst xs=>let(_,_,_,_,e):=x;show#[_,e]
 |tup xs=>let(_,_,_,ob,e,_):=x;show#[_,e]
 |dK lH=>let(_,_,_,_,o,_,_,e,_):=x;show#[_,e]
 |dT lH=>let(_,_,_,_,o,_,_,e,_):=x;show#[_,e]
 |set φ=>let(o,e,_):=x;show#[_,e]
 |ins C dx fs=>let(_,_,_,e,_):=x;show#[_,e]
 |own y=>show x
 |xd fs=>let(mA,(o,_,_,e,_),_):=x;show#[_,e]
 |qL lo hi=>let(_,_,_,e):=x;show#[_,e]
 |cU o u ih=>show#[_,x.1]
 |nh ps=>show#[_,x]
 |met f y=>show#[_,x]
 |ext φ=>show x.2.1
section
def Ii(hc:X.calm=true)(hex:X.ex=[])(hq:fy X.K C)(hg:Gl X x)(hm:X.mg x=!(.ref C))(ku:(x==(~~~3))=false)(ha:cT X z [m] g [.dat d] g1)(hs:starEach [m] X.env=[(false,eval m X.env)]) :
  Vs X z (.Raise (!(.Call (.Name x np) [m] [] cA)) none pos) g C g1:=by
 apply#[λ_ Y H=>∃As M,S z g Y As M H/\Eb X z g1 M H C,?_,λY As M H E s ac=>#[As,M,s,ac]]
 rintro aj s Y H E I ⟨As,M,st,ac⟩;let(bm,N,nm,qn,bs,hdct,sn,sub,ab,col,dd,k0,k1,k2,k3,k5,mN,hC,hN,hni,T):=uo I.ok.mod.yy hq;apply wpAny_Raise_call_subU (nm:=nm) (q:=qn) (N:=N) (bs:=bs) (hdct:=hdct) (sn:=sn) (sub:=sub) (ab:=ab) (col:=col) (dd:=dd) (k0:=k0) (k1:=k1) (k2:=k2) (k3:=k3) (k5:=k5) PySem.F.excBase_ValueError ⋯ PySem.F.excBase_ValueError (T.hasType ⋯) (I.ok.hd hc) (by rw[hs];rfl) hni (gH I hg hm #[rfl,?_] ku)
 rw[hs];apply Calls.evalArgs_plain (x:=eval m X.env) (rest:=[]) ?_;have e1:spliced ((false,eval m X.env)::[])=spliced (backTo cA (starEach [m] X.env)):=by rw[hs];rfl
 rw[e1];apply (ha.run I st λvs us s1 H1 aL M1 I1 r1 q1 q2 R1=>?_)
 apply#[rfl,?_,I1.bk _ _ hC,hN.keeps I1.bk,T.keeps I1.bk,λh' e hme=>?_]
 . exact us.length<=sizeLine;have:=r1.length;rw[R1.length]at this;rw[<- this];show (by decide:(1:Nat)<=16777216)
 .
  have I2:=I1.kept (t':=s1.toks) hme.keeps;have iZ:H1 e=none:=by
   cases q:H1 e with
   |none=>rfl
   |some o=>let(ob,ho):=vY (I1.hok e o q);have hn:=hme.new;rw[ho]at hn;cases hn
  apply ac Y aj _ H1 aL M1 e I2 q1 q2 ?_;let(t,ht,_,_):=hme.there;apply#[#[_,_,ht,rfl,rfl,rfl,by simp,.inl ⋯],?_,iZ]
  cases q:X.s₀.heap.get? e with
  |none=>rfl
  |some o=>
   let(ob,ho):=I1.base.there e o q (by rw[hex];simp)
   have hn:=hme.new;rw[ho]at hn;cases hn
end
section
def Ij(F:jK X.prog X.w X.K X.mg X.base yQ k f fd ps sp)(h:RaA X z (e::es) g C g')(hr:cB k X.A)(hg:Gl X x)(hm:X.mg x=!(.ref f))(hk:PySem.W.keepIn X.K (.ref f)=true)(hb:L2.Binds X.K fd ps [])
  (ku:(x==(~~~3))=false) (he:starEach (e::es) X.env=(false,eval e X.env)::starEach es X.env) (ig:(backTo pos (starEach es X.env)).any (·.1)=false):Gk X z (.Call (.Name x p) (e::es) [] pos) g C g':=by
 let(t,q,kk):=h;show#[_,Au F hr hg hm hk hb .nil Ry q ku he ig,λY As M H Q s ac=>kk Y As M H _ s ac]
end
open PySem PySem.W PyProof.Rows
abbrev g7{α:Type}(lt:Nat->Nat->Bool):KasT α->α
 |.ret a=>a
 |.ask i j k=>g7 lt (k (lt i j))
def eX{α β:Type}(lt:Nat->Nat->Bool)(f:α->KasT β):∀t:KasT α,g7 lt (t.bind f)=g7 lt (f (g7 lt t))
 |.ret _=>rfl
 |.ask i j k=>eX lt f (k (lt i j))
structure iG(α:Type) where
 lt:α->α->Bool
 irr:∀a,lt a a=false
 tr:∀a b c,lt a b=true->lt b c=true->lt a c=true
 tot:∀a b,lt a b=false->lt b a=false->a=b
namespace iG
variable{α:Type}(O:iG α)
abbrev le(a b:α):Prop:=O.lt b a=false
variable{O}
def le_refl(a:α):O.le a a:=O.irr a
def le_of_lt(h:O.lt a b=true):O.le a b:=by
 delta le;cases e:O.lt b a
 . rfl
 . have:=O.tr _ _ _ h e;rw[O.irr]at this;cases this
def sf(h1:O.le a b)(h2:O.le b c):O.le a c:=by
 delta le at *;cases e:O.lt c a with
 |false=>rfl
 |true=>
  exfalso;cases e1:O.lt a b with
  |true=>have:=O.tr _ _ _ e e1;rw[h2]at this;cases this
  |false=>have hab:=O.tot a b e1 h1;subst hab;rw[h2]at e;cases e
def Bm(h1:O.le a b)(h2:O.le b a):a=b:=O.tot a b h2 h1
end iG
section
variable{α:Type}
abbrev eG(key:Nat->α)(p:Array Nat)(i:Nat):α:=key (p.getD i 0)
abbrev ju(O:iG α)(key:Nat->α)(p:Array Nat)(n:Nat):Prop:=∀i j,i<=j->j<n->O.le (eG key p i) (eG key p j)
abbrev jQ(O:iG α)(key:Nat->α)(p:Array Nat)(n:Nat):Prop:=∀i j,i<=j->j<n->O.le (eG key p j) (eG key p i)
abbrev nM(O:iG α)(key:Nat->α)(i j:Nat):Bool:=O.lt (key i) (key j)
def getD_some{p q:Array Nat}{i j:Nat}(h:p[i]?=q[j]?):p.getD i 0=q.getD j 0:=by rw[AF,AF,h]
def nO{p:Array Nat}{i j:Nat}(hj:j<=p.size)(k:Nat):eG key (kas_rev p i j) k=if i<=k/\k<j then eG key p (i+j - 1 - k)else eG key p k:=by
 have e:=getElem?_mirror_all (i:=i) hj k;delta eG kas_rev;split
 . ext h;rw[i8 h]at e;rw[getD_some e]
 . ext h;rw[i7 h]at e;rw[getD_some e]
def Oe{p:Array Nat}{src d:Nat}(hs:src<p.size)(hd:d<=src)(k:Nat):eG key (bubble p src d) k=if k=src - d then eG key p src else if src - d<k/\k<=src then eG key p (k - 1)else eG key p k:=by
 have e:=getElem?_bubble hs d hd k;delta eG;by_cases h1:k=src - d
 . rw[i8 h1]at e ⊢;rw[getD_some e]
 .
  rw[i7 h1]at e ⊢
  by_cases h2:src - d<k/\k<=src
  . rw[i8 h2]at e ⊢;rw[getD_some e]
  . rw[i7 h2]at e ⊢;rw[getD_some e]
def ju.ext(h:ju O key p n)(hl:O.lt (eG key p n) (eG key p (n - 1))=false)(h1:1<=n):ju O key p (n+1):=by
 intro i j hij hj;by_cases e:j<n
 . show h i j hij e
 .
  have:j=n:=by lia
  subst this;by_cases e2:i=j
  . subst e2;show iG.le_refl _
  . show iG.sf (h i (j - 1) ⋯ ⋯) hl
def yZ:∀(f n:Nat),1<=n->ju O key p n->∃m,g7 (nM O key) (kas_asc p f n)=m/\n<=m/\m<=n+f/\ju O key p m/\(m<n+f->O.lt (eG key p m) (eG key p (m - 1))=true)
 | 0,n,_,h=>#[n,rfl,eD _,eD _,h,λz=>absurd z (nV _)]
 |f+1,n,h1,h=>by
  exact ∃m,g7 (nM O key) (if nM O key (p.getD n 0) (p.getD (n - 1) 0)=true then KasT.ret n else kas_asc p f (n+1))=m/\_
  cases e:nM O key (p.getD n 0) (p.getD (n - 1) 0)with
  |true=>show#[n,rfl,eD _,by lia,h,λ_=>e]
  |false=>let(m,q1,q2,q3,q4,q5):=yZ f (n+1) ⋯ (h.ext e h1);show#[m,q1,by lia,by lia,q4,λz=>q5 ⋯]
def jQ.ext(h:jQ O key p n)(hl:O.le (eG key p n) (eG key p (n - 1)))(h1:1<=n):jQ O key p (n+1):=by
 intro i j hij hj;by_cases e:j<n
 . show h i j hij e
 .
  have:j=n:=by lia
  subst this;by_cases e2:i=j
  . subst e2;show iG.le_refl _
  . show iG.sf hl (h i (j - 1) ⋯ ⋯)
def jQ.Vx(h:jQ O key p n)(hk:∀k,eG key p' k=eG key p k):jQ O key p' n:=λi j a b=>by rw[hk,hk];show h i j a b
abbrev Eqs(key:Nat->α)(p:Array Nat)(n q:Nat):Prop:=q+1<=n/\∀k,n - (q+1)<=k->k<n->eG key p k=eG key p (n - 1)
def Bo(h:Eqs key p n q)(hz:n<=p.size)(k:Nat):eG key (kas_rev p (n - (q+1)) n) k=eG key p k:=by
 rw[nO hz];split
 . ext hk;rw[h.2 k hk.1 hk.2,h.2 (n - (q+1)+n - 1 - k) ⋯ ⋯]
 . rfl
def nP:∀(f:Nat) (p:Array Nat) (n q:Nat),1<=n->n+f<=p.size->jQ O key p n->Eqs key p n q->
  ∃p' m q',g7 (nM O key) (kas_desc f p n q)=(p',m,q')/\p'.Perm p/\n<=m/\m<=n+f/\jQ O key p' m/\Eqs key p' m q'
 | 0,p,n,q,_,_,h,hq=>#[p,n,q,rfl,B1 _,eD _,eD _,h,hq]
 |f+1,p,n,q,h1,hz,h,hq=>by
  exact ∃p' m q',g7 (nM O key) (if nM O key (p.getD n 0) (p.getD (n - 1) 0)=true then (if q > 0 then kas_desc f (kas_rev p (n - (q+1)) n) (n+1) 0 else kas_desc f p (n+1) 0)
   else .ask (p.getD (n - 1) 0) (p.getD n 0) λd=>if d=true then .ret (p,n,q)else kas_desc f p (n+1) (q+1))=(p',m,q')/\_
  cases e:nM O key (p.getD n 0) (p.getD (n - 1) 0)with
  |true=>
   have hl:=iG.le_of_lt e;have one:∀p':Array Nat,Eqs key p' (n+1) 0:=λp'=>#[by lia,λk a b=>by have:k=n:=⋯;subst this;rfl]
   by_cases hq0:q > 0
   .
    rw[i8 hq0];have hk:=Bo hq (by lia:n<=p.size)
    have hF:=(h.ext hl h1).Vx hk;let(p',m,q',r1,r2,r3,r4,r5,r6):=nP f (kas_rev p (n - (q+1)) n) (n+1) 0 ⋯ (by rw[kas_rev_size];lia) hF (one _)
    show#[p',m,q',r1,r2.trans (mirror_perm _ _ _ _),by lia,by lia,r5,r6]
   . rw[i7 hq0];let(p',m,q',r1,r2,r3,r4,r5,r6):=nP f p (n+1) 0 ⋯ ⋯ (h.ext hl h1) (one _);show#[p',m,q',r1,r2,by lia,by lia,r5,r6]
  |false=>
   exact ∃p' m q',g7 (nM O key) (if nM O key (p.getD (n - 1) 0) (p.getD n 0)=true then .ret (p,n,q)else kas_desc f p (n+1) (q+1))=(p',m,q')/\_
   cases e2:nM O key (p.getD (n - 1) 0) (p.getD n 0)with
   |true=>show#[p,n,q,rfl,B1 _,eD _,by lia,h,hq]
   |false=>
    have he:eG key p n=eG key p (n - 1):=O.tot _ _ e e2;have hq':Eqs key p (n+1) (q+1):=#[by have:=hq.1;lia,λk a b=>by
     exact eG key p k=eG key p n;by_cases hk:k=n
     . subst hk;rfl
     .
      rw[he];show hq.2 k ⋯ ⋯]
    let(p',m,q',r1,r2,r3,r4,r5,r6):=nP f p (n+1) (q+1) ⋯ ⋯ (h.ext (by rw[he];show iG.le_refl _) h1) hq'
    show#[p',m,q',r1,r2,by lia,by lia,r5,r6]
def Ik(h:jQ O key p n)(hz:n<=p.size):ju O key (kas_rev p 0 n) n:=λi j a b=>by
 rw[nO hz,nO hz,i8 #[by lia,by lia],i8 #[by lia,by lia]]
 show h _ _ ⋯ ⋯
def vZ(h1:1<=n)(hn:n<=nrem)(hz:nrem<=p.size)(h:jQ O key p n):∃m p',g7 (nM O key) (kas_tail3 n nrem p)=(m,p')/\p'.Perm p/\1<=m/\m<=nrem/\ju O key p' m:=by delta kas_tail3;rw[eX];let(m,q1,q2,q3,q4,_):=yZ (nrem - n) n h1 (Ik h ⋯);rw[q1];show#[m,_,rfl,mirror_perm _ _ _ _,by lia,by lia,q4]
def mU(h1:1<=n)(hn:n+1<=nrem)(hz:nrem<=p.size)(h:jQ O key p (n+1)):∃m p',g7 (nM O key) (kas_descPart n nrem p)=(m,p')/\p'.Perm p/\1<=m/\m<=nrem/\ju O key p' m:=by
 delta kas_descPart;rw[eX];let(p',m,q',r1,r2,r3,r4,r5,r6):=nP (nrem - (n+1)) p (n+1) 0 ⋯ ⋯ h #[by lia,λk a b=>by have:k=n:=⋯;subst this;rfl]
 rw[r1];have hs:=r2.size_eq;by_cases hq:q' > 0
 .
  rw[i8 hq];have hk:=Bo r6 (by lia:m<=p'.size)
  let(m',p2,s1,s2,s3,s4,s5):=vZ (nrem:=nrem) ⋯ ⋯ (by rw[kas_rev_size];lia) (r5.Vx hk)
  show#[m',p2,s1,(s2.trans (mirror_perm _ _ _ _)).trans r2,s3,s4,s5]
 . rw[i7 hq];let(m',p2,s1,s2,s3,s4,s5):=vZ (nrem:=nrem) ⋯ ⋯ ⋯ r5;show#[m',p2,s1,s2.trans r2,s3,s4,s5]
def Il(h1:1<=n)(hz:n<=p.size):∃m p',g7 (nM O key) (kas_count n p)=(m,p')/\p'.Perm p/\1<=m/\m<=n/\ju O key p' m:=by
 delta kas_count;rw[eX];let(m,q1,q2,q3,q4,q5):=yZ (O:=O) (n - 1) 1 (eD _) (λi j a b=>by have e1:i=0:=⋯;have e2:j=0:=⋯;subst e1;subst e2;show iG.le_refl _)
 rw[q1];by_cases e1:(m==n)=true
 . rw[i8 e1];show#[m,p,rfl,B1 _,q2,by lia,q4]
 .
  rw[i7 e1];have hlt:=q5 ⋯;by_cases e2:m > 1
  .
   rw[i8 e2];exact ∃m' p',g7 (nM O key) (if nM O key (p.getD 0 0) (p.getD (m - 1) 0)=true then KasT.ret (m,p)else kas_descPart m n (kas_rev p 0 m))=(m',p')/\_
   cases e3:nM O key (p.getD 0 0) (p.getD (m - 1) 0)with
   |true=>show#[m,p,rfl,B1 _,q2,by lia,q4]
   |false=>
    have eq0:∀k,k<m->eG key p k=eG key p (m - 1):=λk hk=>by
     apply iG.Bm (q4 k (m - 1) ⋯ ⋯) ?_;show iG.sf (show O.le (eG key p (m - 1)) (eG key p 0)from e3) (q4 0 k ⋯ hk)
    have hk:∀k,eG key (kas_rev p 0 m) k=eG key p k:=λk=>by
     rw[nO ⋯];split
     . rw[eq0 _ ⋯,eq0 k ⋯]
     . rfl
    have hF:jQ O key (kas_rev p 0 m) (m+1):=by
     apply jQ.Vx (jQ.ext (λi j a b=>?_) (iG.le_of_lt hlt) ⋯) hk
     rw[eq0 i ⋯,eq0 j b];show iG.le_refl _
    let(m',p2,s1,s2,s3,s4,s5):=mU q2 (by lia:m+1<=n) (by rw[kas_rev_size];show hz) hF
    show#[m',p2,s1,s2.trans (mirror_perm _ _ _ _),s3,s4,s5]
  .
   rw[i7 e2];have hF:=jQ.ext (λi j a b=>by have e1:i=0:=⋯;have e2:j=0:=⋯;subst e1;subst e2;show iG.le_refl _) (iG.le_of_lt hlt) q2
   show mU q2 ⋯ hz hF
def pq(hR:ju O key p k):∀(f l r:Nat),l<=r->r<=k->r - l<=f->(∀i,i<l->O.le (eG key p i) (eG key p k))->(∀i,r<=i->i<k->O.lt (eG key p k) (eG key p i)=true)->
  ∃m,g7 (nM O key) (kas_place p k f l r)=m/\m<=k/\(∀i,i<m->O.le (eG key p i) (eG key p k))/\∀i,m<=i->i<k->O.lt (eG key p k) (eG key p i)=true
 | 0,l,r,h1,h2,h3,h4,h5=>#[l,rfl,by lia,h4,λi a b=>h5 i ⋯ b]
 |f+1,l,r,h1,h2,h3,h4,h5=>by
  delta kas_place;by_cases e:l ≥ r
  . rw[i8 e];show#[l,rfl,by lia,h4,λi a b=>h5 i ⋯ b]
  .
   rw[i7 e];exact ∃m,g7 (nM O key) (if nM O key (p.getD k 0) (p.getD ((l+r) / 2) 0)=true then kas_place p k f l ((l+r) / 2)else kas_place p k f ((l+r) / 2+1) r)=m/\_
   cases e2:nM O key (p.getD k 0) (p.getD ((l+r) / 2) 0)with
   |true=>
    apply pq hR f l ((l+r) / 2) ⋯ ⋯ ⋯ h4 λi a b=>?_
    by_cases hi:r<=i
    . show h5 i hi b
    .
     have q:=hR _ _ a b;cases e3:O.lt (eG key p k) (eG key p i)with
     |true=>rfl
     |false=>
      have:=iG.sf q (show O.le (eG key p i) (eG key p k)from e3)
      have Yl:O.lt (eG key p k) (eG key p ((l+r) / 2))=true:=e2;rw[this]at Yl;cases Yl
   |false=>
    apply pq hR f ((l+r) / 2+1) r ⋯ h2 ⋯ (λi a=>?_) h5
    show iG.sf (hR i ((l+r) / 2) ⋯ ⋯) e2
def Im:∀(f:Nat) (p:Array Nat) (k:Nat),k+f<=p.size->ju O key p k->∃p',g7 (nM O key) (kas_bin f p k)=p'/\p'.Perm p/\ju O key p' (k+f)
 | 0,p,k,_,h=>#[p,rfl,B1 _,h]
 |f+1,p,k,hz,h=>by
  delta kas_bin;rw[eX];let(l,q1,q2,q3,q4):=pq h k 0 k (tS _) (eD _) ⋯ (λi a=>absurd a (w9 _)) (λi a b=>absurd (Nat.lt_of_le_of_lt a b) (nV _))
  rw[q1];have hk:=λi=>Oe (key:=key) (p:=p) (src:=k) (d:=k - l) ⋯ ⋯ i
  have hR:ju O key (bubble p k (k - l)) (k+1):=λi j a b=>by
   rw[hk,hk];have e:k - (k - l)=l:=by lia
   rw[e];by_cases i1:i=l
   .
    rw[i8 i1];by_cases j1:j=l
    . rw[i8 j1];show iG.le_refl _
    .
     rw[i7 j1,i8 #[by lia,by lia]]
     show iG.le_of_lt (q4 (j - 1) ⋯ ⋯)
   .
    rw[i7 i1];by_cases i2:l<i/\i<=k
    .
     rw[i8 i2,i7 ⋯,i8 #[by lia,by lia]]
     show h _ _ ⋯ ⋯
    .
     rw[i7 i2];by_cases j1:j=l
     . rw[i8 j1];show q3 i ⋯
     .
      rw[i7 j1];by_cases j2:l<j/\j<=k
      . rw[i8 j2];show h _ _ ⋯ ⋯
      . rw[i7 j2];show h _ _ a ⋯
  let(p',s1,s2,s3):=Im f (bubble p k (k - l)) (k+1) (by rw[bubble_size];lia) hR
  show#[p',s1,s2.trans (bubble_perm _ _ _),by rw[show k+(f+1)=k+1+f by lia];show s3]
def Og(h1:1<=n):∃p,g7 (nM O key) (kas_sort n)=p/\p.Perm (List.range n).toArray/\ju O key p n:=by
 delta kas_sort;rw[eX];let(m,p,q1,q2,q3,q4,q5):=Il (p:=(List.range n).toArray) h1 ⋯;rw[q1];have hs:p.size=n:=by rw[q2.size_eq];simp
 have e:max m 1=m:=by lia
 rw[e];by_cases hm:m<n
 . rw[i8 hm];let(p',s1,s2,s3):=Im (n - m) p m ⋯ q5;show#[p',s1,s2.trans q2,by rw[show m+(n - m)=n by lia]at s3;show s3]
 .
  rw[i7 hm];have:m=n:=by lia
  subst this;show#[p,rfl,q2,q5]
end
abbrev Bp{α:Type}(n:Nat)(P:α->Prop):KasT α->Prop
 |.ret a=>P a
 |.ask i j k=>i<n/\j<n/\∀b,Bp n P (k b)
def Bp.bind{α β:Type}{n:Nat}{P:α->Prop}{Q:β->Prop}{f:α->KasT β}:∀{t:KasT α},Bp n P t->(∀a,P a->Bp n Q (f a))->Bp n Q (t.bind f)
 |.ret a,h,hf=>hf a h
 |.ask _ _ _,h,hf=>#[h.1,h.2.1,λb=>(h.2.2 b).bind hf]
def v5{α:Type}{n:Nat}{P:α->Prop}{lt:Nat->Nat->Bool}{cmp:Nat->Nat->(Bool->Shared->Prop)->Shared->Prop}{Q:α->Shared->Prop}{s:Shared}(hc:∀i j C,i<n->j<n->C (lt i j) s->cmp i j C s):∀t:KasT α,Bp n P t->Q (g7 lt t) s->t.kasWp cmp Q s
 |.ret _,_,h=>h
 |.ask i j k,ok,h=>hc i j _ ok.1 ok.2.1 (v5 hc (k (lt i j)) (ok.2.2 _) h)
abbrev pA(n:Nat)(p:Array Nat):Prop:=0<n/\∀x∈p.toList,x<n
def pA.at(h:pA n p)(i:Nat):p.getD i 0<n:=by
 rw[AF];cases e:p[i]? with
 |none=>show h.1
 |some x=>show h.2 x (by rw[tP]at e;let(hi,rfl):=e;simp)
def pA.perm(h:pA n p)(e:p'.Perm p):pA n p':=#[h.1,λx hx=>h.2 x ((Bz.mp e).mem_iff.mp hx)]
def pA.rev(h:pA n p)(i j:Nat):pA n (kas_rev p i j):=h.perm (mirror_perm _ _ _ _)
def pA.bub(h:pA n p)(i j:Nat):pA n (bubble p i j):=h.perm (bubble_perm _ _ _)
section
def y9(h:pA N p):∀f n,Bp N (λ_=>True) (kas_asc p f n)
 | 0,_=>trivial
 |f+1,n=>#[h.at _,h.at _,λb=>by cases b <;> first |show trivial |show y9 h f (n+1)]
def nQ:∀f p n q,pA N p->Bp N (λr=>pA N r.1) (kas_desc f p n q)
 | 0,_,_,_,h=>h
 |f+1,p,n,q,h=>by
  apply#[h.at _,h.at _,λb=>?_]
  dsimp only;cases b with
  |true=>
   by_cases hq:q > 0
   . rw[i8 hq];show nQ f _ _ _ (h.rev _ _)
   . rw[i7 hq];show nQ f _ _ _ h
  |false=>
   apply#[h.at _,h.at _,λd=>?_]
   cases d with
   |true=>show h
   |false=>show nQ f _ _ _ h
def v7{p:Array Nat}{n nrem:Nat}(h:pA N p):Bp N (λr=>pA N r.2) (kas_tail3 n nrem p):=(y9 (h.rev 0 n) _ _).bind λ_ _=>h.rev 0 n
def mV{p:Array Nat}{n nrem:Nat}(h:pA N p):Bp N (λr=>pA N r.2) (kas_descPart n nrem p):=by
 apply (nQ _ _ _ _ h).bind λr hr=>?_
 by_cases hq:r.2.2 > 0
 . rw[i8 hq];show v7 (pA.rev hr _ _)
 . rw[i7 hq];show v7 hr
def Io{p:Array Nat}{n:Nat}(h:pA N p):Bp N (λr=>pA N r.2) (kas_count n p):=by
 apply (y9 h _ _).bind λm _=>?_
 by_cases e1:(m==n)=true
 . rw[i8 e1];show h
 .
  rw[i7 e1];by_cases e2:m > 1
  .
   rw[i8 e2];apply#[h.at _,h.at _,λb=>?_]
   cases b with
   |true=>show h
   |false=>show mV (h.rev _ _)
  . rw[i7 e2];show mV h
def pB(h:pA N p):∀f l r,Bp N (λ_=>True) (kas_place p k f l r)
 | 0,_,_=>trivial
 |f+1,l,r=>by
  delta kas_place;by_cases e:l ≥ r
  . rw[i8 e];show trivial
  .
   rw[i7 e];apply#[h.at _,h.at _,λb=>?_]
   cases b with
   |true=>show pB h f _ _
   |false=>show pB h f _ _
def Ip:∀f p k,pA N p->Bp N (λ_=>True) (kas_bin f p k)
 | 0,_,_,_=>trivial
 |f+1,p,k,h=>(pB h _ _ _).bind λl _=>Ip f _ _ (h.bub _ _)
def Oh{n:Nat}(h:0<n):Bp n (λ_=>True) (kas_sort n):=by
 apply (Io #[h,λx hx=>by simpa using hx]).bind λr hr=>?_
 by_cases e:r.1<n
 . rw[i8 e];show Ip _ _ _ hr
 . rw[i7 e];show trivial
end
open L2 PySem.W
section
variable{α:Type}{key:Nat->α}
abbrev eu(s:Shared)(a:Addr)(vs:List Value):Shared:={ s with heap:=((s.heap.update a (Obj.mapSeq λ_=>([].toArray))).push (seqObj "tuple" vs.toArray 0)).push (seqObj "list" ([].toArray) 0)}
def v8(hb:b≠a)(h:s.heap.get? b=!o):(eu s a vs).heap.get? b=!o:=
 b0 _ (b0 _ ((i5 s.heap _ hb.symm).trans h))
def Iq(ho:s.heap.get? a=!(seqObj "list" vs.toArray n))(h2:2<=vs.length)(h64:vs.length<64)
  (hk:∀Q:SortKind->Shared->Prop,Q κ (eu s a vs)->wpAny (model prog w) A (keyKind' vs.toArray) Q (λ_ _=>False) (eu s a vs))
  (hc:∀i j C,i<vs.length->j<vs.length->C (nM O key i j) (eu s a vs)->kas_ask prog w A κ vs i j C (eu s a vs))
  (h:∀p:Array Nat,p.Perm (List.range vs.length).toArray->ju O key p vs.length->P (.done (.ret .none)) { s with heap:=sortedHeap s.heap a vs (p.toList.map λi=>vs.getD i Value.none).toArray}) :
  wpAny (model prog w) A (Builtin.«list.sort» #[[.ref a],[]]) P E s:=by
 obtain⟨e1,yX⟩:∃e1,(s.heap.update a (Obj.mapSeq λ_=>([].toArray))).get? a=!(seqObj "list" ([].toArray) e1):=#[_,get?_update_seq ho (λ_=>([].toArray))]
 have ho3:(eu s a vs).heap.get? a=!(seqObj "list" ([].toArray) e1):=b0 _ (b0 _ yX);have hz:vs.length<=sizeLine:=(by rw[sB];lia)
 rw[list_sort_plain];apply aS (listItems_at ho rfl (aS (listUpdate_at ho rfl (aS (seqEpoch_at yX rfl (aS (wpAny_newTuple (aS (B0 (mE ?_) (tS _))) (by exact vs.length<=_;show hz))))) (by simpa using hz) (tS _))))
 have hn : ¬ vs.toArray.size<2:=by rw[dL];lia
 rw[i7 hn,i7 hn];apply aS (kA (hk (λk s0=>k=κ/\s0=eu s a vs) #[rfl,rfl]) ?_ λ_ _ z=>z.elim)
 rintro _ _ ⟨rfl,rfl⟩;let(p0,q1,q2,q3):=Og (n:=vs.length) ⋯;apply aS (kA (kat_run (Q:=λst' s'=>s'=eu s a vs/\failedOf st'=none/\(arrOf st').map (·.2)=(p0.toList.map λi=>vs.getD i Value.none).toArray) (G:=λp s'=>s'=eu s a vs/\p=p0)
  rfl h2 h64 (λp st' s' _ har hf hg=>?_) (v5 hc _ (Oh ⋯) #[rfl,q1])) ?_ λ_ _ z=>z)
 . let(rfl,rfl):=hg;show#[rfl,hf,kat_snds rfl har]
 .
  rintro⟨⟨⟩,st'⟩ s' ⟨rfl,hf,hout⟩;dsimp only at hf hout ⊢
  have aK:(p0.toList.map λi=>vs.getD i Value.none).length=vs.length:=by rw[eJ,oD,q2.size_eq];simp
  rw[hout];apply aS (seqEpoch_at ho3 rfl (aS (listUpdate_at ho3 rfl ?_ (tS _) (by exact (List.toArray _).size<=_;rw[dL];lia))))
  rw[hf];simp only[bne_self_eq_false];show dC (h p0 q2 q3)
def Bq{β:Type}:∀l:List β,(l.zip l).map (·.2)=l
 | []=>rfl
 |x::l=>by rw[AB,List.map_cons,Bq l]
def Ir(ho:s.heap.get? a=!(seqObj "list" vs.toArray n))(h2:vs.length<2)
  (h:P (.done (.ret .none)) { s with heap:=sortedHeap s.heap a vs vs.toArray}):wpAny (model prog w) A (Builtin.«list.sort» ⟨[.ref a],[]⟩) P E s:=by
 obtain⟨e1,yX⟩:∃e1,(s.heap.update a (Obj.mapSeq λ_=>([].toArray))).get? a=!(seqObj "list" ([].toArray) e1):=#[_,get?_update_seq ho (λ_=>([].toArray))]
 have ho3:(eu s a vs).heap.get? a=!(seqObj "list" ([].toArray) e1):=b0 _ (b0 _ yX);have hz:vs.length<=sizeLine:=(by rw[sB];lia)
 rw[list_sort_plain];apply aS (listItems_at ho rfl (aS (listUpdate_at ho rfl (aS (seqEpoch_at yX rfl (aS (wpAny_newTuple (aS (B0 (mE ?_) (tS _))) (by exact vs.length<=_;show hz))))) (by simpa using hz) (tS _))))
 have hn:vs.toArray.size<2:=by rw[dL];lia
 dsimp only;rw[i8 hn,i8 hn];apply aS (dC ?_);apply aS (dC ?_);have hout:(arrOf (SortSt.mk' general' (vs.toArray.zip vs.toArray) ([].toArray) 7 none)).map (·.2)=vs.toArray:=by exact (vs.toArray.zip vs.toArray).map (·.2)=vs.toArray;refine Array.toList_inj.mp;simp only[Array.toList_map,Array.toList_zip];show Bq vs
 rw[hout];apply aS (seqEpoch_at ho3 rfl (aS (listUpdate_at ho3 rfl ?_ (tS _) (by exact vs.toArray.size<=_;rw[dL];lia))))
 rw[i7 ⋯];show dC h
abbrev Iu(h:Heap)(vs:List Value):Heap:=((h.push (seqObj "list" ([].toArray) 0)).update h.objs.size (Obj.mapSeq (· ++ vs.toArray))).push (seqObj "list" vs.toArray 0)
def sr(h:Heap)(vs:List Value):((h.push (seqObj "list" ([].toArray) 0)).update h.objs.size (Obj.mapSeq (· ++ vs.toArray))).objs.size=h.objs.size+1:=(Heap.size_update ..).trans (size_push' ..)
def uq(h:Heap)(vs:List Value):(Iu h vs).get? (h.objs.size+1)=!(seqObj "list" vs.toArray 0):=by have:=eC ((h.push (seqObj "list" ([].toArray) 0)).update h.objs.size (Obj.mapSeq (· ++ vs.toArray))) (o:=seqObj "list" vs.toArray 0) rfl;rw[sr]at this;show this
def v9(e:h.get? b=!o):(Iu h vs).get? b=!o/\b≠h.objs.size+1:=by have hb:=eQ e;apply#[b0 _ ?_,kS (Nat.lt_succ_of_lt hb)];rw[i5 _ _ (AC hb)];show b0 _ e
def Ec(hl:s.heap.IsList l vs.toArray\/IsTup s.heap l vs.toArray)(hz:vs.length<=sizeLine)
  (h:wpAny (model prog w) A.in1.in1 (Builtin.«list.sort» #[[.ref (s⁻¹+1)],[]]) (λf s'=>f=.done (.ret .none)/\Q (.ref (s⁻¹+1)) s') E { s with heap:=Iu s.heap vs}) :
  wpAny (model prog w) A (call (.builtin "sorted") [.ref l]) Q E s:=by
 apply BB kind_sorted plain_sorted entry_sorted (args_sorted1 _) ?_;have go:wpAny (model prog w) A.in1 (collect (.ref l)) (λvs' s'=>vs'=vs/\s'={ s with heap:=(s.heap.push (seqObj "list" ([].toArray) 0)).update s⁻¹ (Obj.mapSeq (· ++ vs.toArray))}) E s:=by
  rcases hl with hl |hl
  . show collect_list hl #[rfl,rfl] hz
  . show jA hl #[rfl,rfl] hz
 apply aS (dC (aS (kA go ?_ λ_ _ z=>z)))
 rintro _ _ ⟨rfl,rfl⟩;apply aS (B0 ?_ hz);rw[sr];apply aS (mE (nN slot_list_sort #[_,uq _ _,rfl] entry_list_sort (kA h (λf s' hf=>#[_,hf.1,?_]) λ_ _ z=>z) (args_list_sort _)))
 show dC #[_,rfl,hf.2]
end
def jf:∀a:List Int,HT.lexLt a a=false
 | []=>rfl
 |x::a=>by rw[HT.bD,i8 rfl,jf a]
def wc:∀a b c:List Int,HT.lexLt a b=true->HT.lexLt b c=true->HT.lexLt a c=true
 | [],[],_,h,_=>by symm
 |_::_,[],_,h,_=>by symm
 |_,_::_,[],_,h=>by symm
 | [],_::_,_::_,_,_=>rfl
 |x::a,y::b,z::c,h1,h2=>by
  rw[HT.bD]at h1 h2 ⊢
  by_cases e1:x=y
  .
   rw[i8 e1]at h1;subst e1;by_cases e2:x=z
   .
    rw[i8 e2]at h2 ⊢
    show wc a b c h1 h2
   .
    rw[i7 e2]at h2 ⊢
    show h2
  .
   rw[i7 e1]at h1;by_cases e2:y=z
   . rw[i8 e2]at h2;subst e2;rw[i7 e1];show h1
   . rw[i7 e2]at h2;rw[i7 ⋯];show mM ⋯
def lX:∀a b:List Int,HT.lexLt a b=false->HT.lexLt b a=false->a=b
 | [],[],_,_=>rfl
 | [],_::_,h,_=>by symm
 |_::_,[],_,h=>by symm
 |x::a,y::b,h1,h2=>by
  rw[HT.bD]at h1 h2;by_cases e:x=y
  . subst e;rw[i8 rfl]at h1 h2;rw[lX a b h1 h2]
  .
   rw[i7 e]at h1;rw[i7 (λz=>e z.symm)]at h2
   lia
abbrev ez:iG (~~~0):=#[HT.lexLt,jf,wc,lX]
section
variable{α:Type}(O:iG α)
abbrev Ed(a:α):List α->List α
 | []=>[a]
 |b::l=>if O.lt b a then b::Ed a l else a::b::l
abbrev aZ:List α->List α
 | []=>[]
 |a::l=>Ed O a (aZ l)
variable{O}
def lY(a:α):∀l:List α,(Ed O a l).Perm (a::l)
 | []=>y7 _
 |b::l=>by
  delta Ed;split
  . show ((lY a l).cons b).trans (List.Perm.swap a b l)
  . show y7 _
def bf:∀l:List α,(aZ O l).Perm l
 | []=>y7 _
 |a::l=>(lY a _).trans ((bf l).cons a)
def mW(a:α):∀{l:List α},l.Pairwise O.le->(Ed O a l).Pairwise O.le
 | [],_=>List.pairwise_singleton _ _
 |b::l,h=>by
  let(h1,h2):=rV.mp h;delta Ed;cases e:O.lt b a with
  |true=>
   apply rV.mpr #[λx hx=>?_,mW a h2]
   rcases dS.mp ((lY a l).mem_iff.mp hx)with rfl |hx
   . show iG.le_of_lt e
   . show h1 x hx
  |false=>
   apply rV.mpr #[λx hx=>?_,h]
   rcases dS.mp hx with rfl |hx
   . show e
   . show iG.sf (show O.le a b from e) (h1 x hx)
def gP:∀l:List α,(aZ O l).Pairwise O.le
 | []=>List.Pairwise.nil
 |a::l=>mW a (gP l)
def za(hp:m.Perm l)(hs:m.Pairwise O.le):m=aZ O l:=
 (hp.trans (bf l).symm).eq_of_pairwise (λx y _ _ h1 h2=>iG.Bm h1 h2) hs (gP l)
def fz{β:Type}(ks:List β)(d:β):(List.range ks.length).map (λi=>ks.getD i d)=ks:=by
 apply List.ext_getElem ⋯ λi h1 h2=>?_
 simp[i3 h2]
def wg(hp:p.Perm (List.range ks.length).toArray)(hr:ju O (λi=>ks.getD i d) p ks.length):p.toList.map (λi=>ks.getD i d)=aZ O ks:=by
 have hl:=Bz.mp hp;apply za ((hl.map _).trans (by rw[fz])) ?_
 rw[y8];intro i j hi hj hij;have hs:p.size=ks.length:=by rw[hp.size_eq];simp
 rw[eJ,oD]at hi hj;have:=hr i j (CH hij) ⋯;delta eG at this;have e1:p.getD i 0=p[i]:=by simp[hi]
 have e2:p.getD j 0=p[j]:=by simp[hj]
 rw[e1,e2]at this;simpa using this
end
open L2 PySem.W
section
def Iv(hv:IntsAre vs ns):∀{ws:List Value}{ms: ~~~0} (i:Nat),IntsAre ws ms->fin=decide (ns.length<ms.length)->Q (HT.lexLt ns ms) s->KatLex prog w A true fin Q (vs.zip ws) i s:=by
 induction hv with
 |nil=>
  intro ws ms i hu hf h;apply kat_nil ?_;rw[hf];cases hu with
  |nil=>show h
  |cons _=>show h
 |@cons n t vs ns hv ih=>
  intro ws ms i hu hf h;cases hu with
  |nil=>apply kat_nil ?_;rw[hf];show h
  |@cons m t' us ms hu=>
   apply kat_cons (wpAny_eqBool_int (kat_go (λe=>?_) (λe=>?_)))
   .
    have e':=eq_of_beq e;apply kat_yes (ih (i+1) hu (by rw[hf];simp) ?_)
    rw[HT.bD,i8 e']at h;show h
   .
    have e':n≠m:=λq=>by rw[q]at e;simp at e
    rw[HT.bD,i7 e']at h;apply kat_no ?_;cases i with
    |zero=>show oneLt_int h
    |succ i=>show kat_one _ _ (lt_int h)
def Ef:Looks M h (typeOf (.int i t)) (.type "int"):=.now
end
section
abbrev eH:List D->Option (~~~5)
 | []=>![]
 |.tup l::ds=>match bX l,eH ds with |!(n::ns),!rD=>!((n::ns)::rD) |_,_=>none
 |_::_=>none
def su(h:Vals xs us):∀{i:Nat},i<xs.length->RelV (xs.getD i .non) (us.getD i .none):=by
 induction h with
 |nil=>intro i hi;show absurd hi (w9 _)
 |cons r _ ih=>
  intro i hi;cases i with
  |zero=>show r
  |succ i=>show ih (by simpa using hi)
def sy(h:Vals xs us):∀{p:List Nat},(∀i∈p,i<xs.length)->Vals (p.map λi=>xs.getD i .non) (p.map λi=>us.getD i .none)
 | [],_=>.nil
 |i::p,hp=>.cons (su h (hp i dA)) (sy h λj hj=>hp j (bP _ hj))
def Oi(e:bX l=!ns):l=ns.map .int:=by
 induction l generalizing ns with
 |nil=>cases e;rfl
 |cons d l ih=>cases d with
  |int i=>
   have e:(match bX l with |some ns=>!(i::ns) |none=>none)=!ns:=e
   cases e2:bX l with
   |none=>rw[e2]at e;cases e
   |some ms=>rw[e2]at e;cases e;rw[List.map_cons,<- ih e2]
  |_=>cases e
def aE.pick{K:Frag}{M:List Addr}{H:Hp}{ds:List D}{vs:List V}(h:aE K M H ds vs):∀{o:List Nat},(∀i∈o,i<vs.length)->aE K M H (o.map λi=>ds.getD i .non) (o.map λi=>vs.getD i .non)
 | [],_=>.nil
 |i::o,ho=>by
  apply .cons ?_ (h.pick λj hj=>ho j (bP _ hj))
  have hi:=ho i dA;have hd:i<ds.length:=by rw[h.length];show hi
  let(v,e1,e2):=h.get (i:=i) (d:=ds[i]) (by simp[hd])
  have q1:ds.getD i .non=ds[i]:=by simp[hd]
  have q2:vs.getD i .non=v:=by rw[l4,e1];rfl
  exact Rep K M H (ds.getD i .non) (vs.getD i .non);rw[q1,q2];show e2
end
open L2 PySem.W
open L2 PySem.W
section
abbrev Iw(X:Cx)(z:Z)(id:String)(d0 d1:D)(r:R):Prop:=
 ∀(g:G) (aj: ~~~1) (s:Shared) (Y:Sg) (As M:List Addr) (H:Hp) (v0 v1:V) (u0 u1:Value) (Post:Value->Shared->Prop),L2.Inv X aj Y H s->S z g Y As M H->Pk z.K M H d0 v0->Pk z.K M H d1 v1->RelV v0 u0->RelV v1 u1->
  (∀v u s1 H1 aL M1,L2.Inv X aj Y H1 s1->RelV v u->S z g Y aL M1 H1->au M H M1 H1->dh z g Y aL M1 H1 r v->Post u s1)->wpAny (~~~2) X.A (call (.builtin id) [u0,u1]) Post X.xe s
def Oj(I:L2.Inv X aj Y H s)(p:Pk X.K M H d v)(r:RelV v u)(hs:bE d=!l):s.TypeIs u (nJ d)/\∀a,u=.ref a->∃ob,s.heap.get? a=!ob/\ob.dict=none:=by
 cases d with
 |tup m=>
  let(a,xs,rfl,ha,_):=p.tup;cases r;have:∃o,s.heap.get? a=!o/\o.cls=.type "tuple" /\o.dict=none:=by
   rcases ha with ⟨_,hr⟩ |⟨hk,o,e1,e2⟩
   . let(_,its,_,(o,e1,(e2,_),e3)):=hr.ok I.hok;show#[o,e1,e2,e3]
   .
    let(its,_,(o',q1,q2,_),_):=I.tuple (hk.elim (λz=>(rd0 z).elim) .inr:iu X.K H a xs)
    have:=I.nZ a o e1;rw[q1]at this;cases this;show#[_,q1,q2,e2]
  let(o,e1,e2,e3):=this;show#[#[o,e1,e2],λb e=>by cases e;show#[o,e1,e3]]
 |lst m=>let(a,xs,rfl,ha,_):=p.list;cases r;let(its,_,pl,_):=I.list (cQ.of ha);let(o,n,e1,e2,e3,e4):=pl;show#[#[o,e1,e2],λb e=>by cases e;show#[o,e1,e3]]
 |fix m=>let(a,xs,rfl,ha,_):=p.fix;cases r;let(its,_,pl,_):=I.list ha.sq;let(o,n,e1,e2,e3,e4):=pl;show#[#[o,e1,e2],λb e=>by cases e;show#[o,e1,e3]]
 |_=>cases hs
def Ol{o e:Expr}{name:Str}{id:String}{g g1 g2:G}{r0 r1 r:R}{d d0 d1:D}{l:List D}{cZ cA:Pos}(hK:z.K=X.K)(pa:PlainAttrs (nJ d))(slot:PySem.Slot (nJ d) name id)(hty:typeOf (.builtin id)=pure (.type "method_descriptor"))
  (h0:aB X z o g r0 g1) (p0:pk r0 g1=!d) (hs:bE d=!l) (ha:cT X z [e] g1 [r1] g2) (q0:pk r0 g2=!d0) (q1:pk r1 g2=!d1) (hm:Iw X z id d0 d1 r)
  (hbase:attributeBase o name X.env (eval o X.env)=eval o X.env)
  (hline:(cZ.endLine==cA.line)=true) (cH:starEach [e] X.env=(false,eval e X.env)::starEach [] X.env):aB X z (.Call (.Attribute o name cZ) [e] [] cA) g r g2:=by
 apply aB.of λaj s Y As M H Post I st k=>?_
 apply wpAny_Call_method_late hbase (by rw[cH];rfl) hline rfl (h0.run I st λv u s1 H1 aL M1 I1 r1' yt yu HF=>?_)
 let(hT,hd):=Oj I1 (hK▸yt.pk (au.refl _ _) HF p0) r1' hs;apply#[_,id,pa,slot,hty,hT,hd,?_];have hA:=ha.run (pos:=cA) (Post:=λus s2=>wpAny (~~~2) X.A (call (.builtin id) (u::us)) Post X.xe s2) I1 yt λvs us s2 H2 bu M2 I2 r2 t1 t2 t3=>by
  have vL:=t1.vL t3 (by delta vL;rw[q1];rfl)
  let(v1,rfl,pv1):=vL.one;let(u1,rfl,ru1):=vals1 r2;show hm g2 aj s2 Y bu M2 H2 v v1 u u1 Post I2 t1 (t1.pk t2 HF q0) pv1 r1' ru1 λv' u' s3 H3 nL M3 I3 r3 w1 w2 w3=>k v' u' s3 H3 nL M3 I3 r3 w1 (yu.trans (t2.trans w2)) w3
 rw[cH]at hA ⊢
 show Calls.callWith_builtin rfl (Calls.evalArgs_plain hA)
end
open L2 PySem.W SeqAt
def zb{M:Model}{A:Around}{E:Value->Shared->Prop}{s:Shared}{β:Type}{b:Nat}{c:β}{f:Nat->β->Sem (ForInStep β)}{Q:β->Shared->Prop}(h:wpAny M A (forIn (List.range' 0 b) c f) Q E s):wpAny M A (forIn [0:b] c f) Q E s:=by
 rw[Std.Legacy.Range.forIn_eq_forIn_range'];have hz:([0:b]:Std.Legacy.Range).size=b:=by simp[Std.Legacy.Range.size]
 rw[hz];show h
def wj(l:Addr)(ak:Array Value)(n:Nat)(dd:Option Addr)(sl:Array (Option Value))(x:Value)(e:Value->Bool)(j:Nat)(hj:j<ak.size)(hit:e ak[j]=true)(hno:∀m (hm:m<ak.size),m<j->e ak[m]=false) :
  Meets (Builtin.«tuple.index» #[[.ref l,x],[]])
   (λA R s=>s.heap.get? l=some { cls:=.type "tuple",dict:=dd,data:=.seq ak n,slots:=sl}/\(∀y,y∈ak->EqAt A.in1 s y x (e y))/\R (.ok (.ret (.int j s.toks))) { s with toks:=s.toks+1}):=
 .of_wp λprog w A R s h=>by
  let(hp,g,d,tk,os):=s;let(hl,he,h):=h
  wp_walk using wpAny_loadPart' hl
  rw[show min ak.size ak.size=ak.size from Nat.min_self _]
  apply zb (wpAny_forIn_list _ (λrest b s'=>b=(none,())/\s'=#[hp,g,d,tk,os]/\∃i,i<=j/\rest=List.range' i (ak.size - i)) _ ?_ ?_ _ _ #[rfl,rfl,0,tS _,rfl])
  .
   rintro y rest b s' ⟨rfl,rfl,i,hi,hr⟩;have hlt:i<ak.size:=by lia
   have hc:List.range' i (ak.size - i)=i::List.range' (i+1) (ak.size - (i+1)):=by rw[show ak.size - i=(ak.size - (i+1))+1 by lia,AX]
   rw[hc]at hr;injection hr with h1 h2;subst h1 h2;have hg:ak[y]?=some ak[y]:=by simp[hlt]
   rw[hg];apply aS (he _ (Array.getElem_mem hlt) prog w _ _ ?_);by_cases e1:y=j
   .
    subst e1
    wp_walk
    show#[_,rfl,h]
   .
    rw[hno y hlt ⋯]
    wp_walk
    show#[rfl,rfl,y+1,by lia,rfl]
  . rintro b s' ⟨_,_,i,hi,hr⟩;exfalso;have:=congrArg List.length hr;simp at this;lia
section
abbrev cntId:D->String
 |.tup _=> "tuple.count"
 |_=> "list.count"
abbrev Iz:D->String
 |.tup _=> "tuple.index"
 |_=> "list.index"
abbrev zc(d1:D):List D->Option Nat
 | []=>none
 |d::l=>if bV d d1=true then some 0 else match zc d1 l with |some i=>!(i+1) |none=>none
def Br:∀{l:List D}{j:Nat},zc d1 l=!j->∃d,l[j]?=!d/\bV d d1=true/\∀m d,m<j->l[m]?=!d->bV d d1=false
 | [],_,h=>by symm
 |d::l,j,h=>by
  delta zc at h;split at h
  . ext e;symm;show#[d,rfl,e,λm _ hm=>absurd hm (w9 _)]
  .
   ext e;split at h
   .
    ext i e2;symm;let(d',q1,q2,q3):=Br e2;apply#[d',q1,q2,λm x hm hx=>?_]
    cases m with
    |zero=>cases hx;show Bool.eq_false_iff.mpr e
    |succ m=>show q3 m x ⋯ hx
   . symm
def IK(q:jO h l us)(hm:m<us.length):∃d,l[m]?=!d/\Np h x us[m]=bV d x:=by
 let(d,e1,e2):=q.get (j:=m) (u:=us[m]) (by simp[hm])
 show#[d,e1,yS e2]
def IV(hK:z.K=X.K)(hs:bE d0=!l)(p1:fM d1=true)(p2:dR l=true)(hd:X.A.units+deps l+1<cLine)(hi:zc d1 l=!j):Iw X z (Iz d0) d0 d1 ‹j›:=by
 intro g aj s Y As M H v0 v1 u0 u1 Post I st q0 q1 r0 r1 k;rw[hK]at q0 q1;have fin:Post (.int j s.toks) { s with toks:=s.toks+1}:=k (.int _) _ _ H As M (I.tok _) ⟨_,rfl⟩ st (au.refl _ _) (.int _);let(dj,w1,w2,w3):=Br hi;have hjl:=(dE.mp w1).1;let(a,its,rfl,q,hz,t):=yU I q0 r0 hs p2;have el:=yT q (q1.dv I r1 p1) hd;have hl:=q.length;rw[sB]at hz;have k1:j<its.toArray.size:=by simp;lia
 have k3:∀h:j<its.toArray.size,Np s.heap d1 its.toArray[j]=true:=λh=>by
  let(d,e1,e2):=IK q (m:=j) ⋯;rw[w1]at e1;cases e1;simpa using e2.trans w2
 have k4:∀m (hm:m<its.toArray.size),m<j->Np s.heap d1 its.toArray[m]=false:=λm hm hlt=>by
  let(d,e1,e2):=IK q (by simpa using hm)
  simpa using e2.trans (w3 m d hlt e1)
 rcases t with ⟨rfl,⟨cls,dd,data,sl⟩,ho,hc,n,hdt⟩ |⟨hd',⟨cls,dd,data,sl⟩,ho,hc,n,hdt⟩
 . subst hc hdt;exact wpAny _ _ (call (.builtin "tuple.index") _) _ _ _;show Cc F.slot_tuple_index #[_,ho,rfl] F.entry_tuple_index (F.args_tuple_index_2 _ _) (wj a its.toArray n dd sl u1 (Np s.heap d1) j k1 (k3 k1) k4) #[ho,el,fin]
 .
  subst hc hdt;rw[show Iz d0 = "list.index" by rcases hd' with rfl |rfl <;> rfl]
  show Cc F.slot_list_index #[_,ho,rfl] F.entry_list_index (F.args_list_index_2 _ _) (list_indexAt a its.toArray n dd sl u1 (Np s.heap d1) j k1 ⋯ (k3 k1) k4) #[ho,el,fin]
end
open L2 PySem.W SeqAt
open L2 PySem.W SeqAt
open L2 PySem.W SeqAt
section
def dg.of (h:∀(aj: ~~~1) (s:Shared) (Y:Sg) (As M:List Addr) (H:Hp) (Post:Value->Shared->Prop),L2.Inv X aj Y H s->S z g Y As M H->
  (∀v s1,(∀(R:It->Hp->Prop),(∀J H' aC M',S z g1 Y aC M' H'->au M H M' H'->Jt J ak z.K M' H'->R J H')->wpAny (~~~2) X.A (pyIter v) (PIE X aj Y tg R) X.xe s1)->Post v s1)->wpAny (~~~2) X.A (eval iter X.env) Post X.xe s):dg X z tg iter g ak g1:=
 #[λY H R=>∃As M,S z g Y As M H/\(∀J H' aC M',S z g1 Y aC M' H'->au M H M' H'->Jt J ak z.K M' H'->R J H'),by rintro aj s Y H R I ⟨As,M,st,k⟩;show h aj s Y As M H _ I st λv s1 q=>q R k,λY As M H R s k=>#[As,M,s,k]]
end
open L2 PySem.W SeqAt
section
def zg(hit:s.heap.IsTupleIter it t i)(ht:s.heap.IsTuple t ak)(hx:ak[i]?=!x)(hQ:∀h',h'.IsTupleIter it t (i+1)->Heap.SameBut it s.heap h'->Q x { s with heap:=h'}):wpAny (model prog w) A (Builtin.SmallTypes.nextOf (.ref it)) Q E s:=by let(o,ho,hc,hd):=id hit;let(ol,hol,_,nl,hdl):=ht;apply aS (pV hit.typeIs AI (nN AI hit.typeIs F.entry_tuple_iterator_next ?_ (F.args_tuple_iterator_next_1 _)));exact wpAny _ _ (field (.ref it) 0 >>= _) _ _ s;apply aS (o6 ho hd rfl ?_);apply aS (o6 ho hd rfl ?_);apply aS (wS hol hdl ?_);simp only[Bn,hx];apply aS (AD ho hd ⋯ (dC #[x,rfl,dC (hQ _ #[_,mB _ ho (v6 (pE hd _)),(CA ..).trans hc,?_] (y6 ..))]));rw[pE hd];simp[rawInt]
def qX(hh:A.handled=none)(hit:s.heap.IsTupleIter it t i)(ht:s.heap.IsTuple t ak)(hx:ak[i]?=none)
  (hE:∀h' e,Heap.ExtBut it s.heap h'->(∃o,h'.get? e=!o/\o.cls=.type "StopIteration")->E (.ref e) { s with heap:=h'}):wpAny (model prog w) A (Builtin.SmallTypes.nextOf (.ref it)) Q E s:=by
 let(o,ho,hc,hd):=id hit;let(ol,hol,_,nl,hdl):=ht;apply aS (pV hit.typeIs AI (nN AI hit.typeIs F.entry_tuple_iterator_next ?_ (F.args_tuple_iterator_next_1 _)));exact wpAny _ _ (field (.ref it) 0 >>= _) _ _ s;apply aS (o6 ho hd rfl ?_);apply aS (o6 ho hd rfl ?_);apply aS (wS hol hdl ?_);simp only[Bn,hx];apply aS (AJ (aS (AD ho hd ⋯ ?_)));apply aS ?_;apply aS (nS (aS (wpAny_of_eq (by first |rfl | (simp only[firstArgMember];rfl)) (nS ?_ (by size_fits)))) (by size_fits))
 apply aS (wpAny_handled ?_)
 first |rw[show A.in1.handled=none from hh] |rw[hh]
 show aS (dC (wpAny_throw (hE _ _ (((y6 ..).extBut.push _).push _) #[_,eC _ rfl,rfl])))
def Vy(hh:A.handled=none)(it t:Addr)(iZ:t≠it)(ak:Array Value):Draws prog w A it [it,t] ak.size (λi v=>ak[i]?=!v) (λi h=>h.IsTupleIter it t i/\h.IsTuple t ak) where
 live:=λ_ _ st=>let #[o,ho,_]:=st.1;#[o,ho]
 frame:=λ_ _ _ st hk=>by
  let((o,ho,r),(o',ho',r')):=st;show#[#[o,hk it ⋯ o ho,r],#[o',hk t ⋯ o' ho',r']]
 item:=λi s Q E hi st hQ=>zg st.1 st.2 (x:=ak[i]) (by simp[hi]) λh' Vz hs'=>hQ _ h' s.toks (by simp[hi]) #[Vz,IsTup.extBut st.2 hs'.extBut iZ] hs'
 done:=λs Q E st hE=>qX hh st.1 st.2 ⋯ hE
def wk(l:Addr)(ak:Array Value)(n:Nat)(dct:Option Addr)(sl:Array (Option Value)) :
  Meets (Builtin.«enumerate.__new__» #[[.type "enumerate",.ref l],[]]) (λ_ R s=>s.heap.get? l=some { cls:=.type "tuple",dict:=dct,data:=.seq ak n,slots:=sl}/\R (.ok (.ret (.ref (s.heap.push { cls:=.type "tuple_iterator",data:=.fields ([.ref l,.int 0 0].toArray)}).objs.size)))
    { s with heap:=(s.heap.push { cls:=.type "tuple_iterator",data:=.fields ([.ref l,.int 0 0].toArray)}).push { cls:=.type "enumerate",data:=.fields ([.none,.bool false,.ref s⁻¹,rawInt 0,.none,.none].toArray)}}):=
 .of_wp λprog w A R s h=>by
  let(hp,g,d,tk,os):=s;let(hl,h):=h;have hsub:=sub_enumerate;have hL:Heap.IsTuple (Shared.heap #[hp,g,d,tk,os]) l ak:=#[_,hl,rfl,n,rfl]
  wp_walk using AutoSeq1.wpAny_loadPart' hl
  apply wpAny_stack_any λst=>dC ?_
  split
  . ext c _ _ _ _ _;cases (c==Value.type "enumerate") <;> (wp_walk using AutoSeq1.wpAny_loadPart' hl,AK hL;show#[_,rfl,h])
  .
   wp_walk using AutoSeq1.wpAny_loadPart' hl,AK hL
   show#[_,rfl,h]
def zh(hL:s.heap.IsTuple l ak)
  (h:∀h',IsEnum h' (s⁻¹+1) s⁻¹ 0 .none->h'.IsTupleIter s⁻¹ l 0->h'.objs.size=s⁻¹+2->(∀b o,s.heap.get? b=!o->h'.get? b=!o)->Q (.ref (s⁻¹+1)) { s with heap:=h'}) :
  wpAny (model prog w) A (call (.type "enumerate") [.ref l]) Q E s:=by
 let((c,dct,dt,sl),hl,hc,n,hd):=hL;cases (show c=.type "tuple" from hc)
 cases (show dt=.seq ak n from hd)
 apply callType_new F.called_enumerate ⋯ (F.typeCall_enumerate_1 _) (F.newCall_enumerate_1 _) (λobj=>F.args_object_init_2 obj _) F.entry_enumerate_new (wk l ak n dct sl) #[hl,?_]
 generalize hq:s.heap.push { cls:=.type "tuple_iterator",data:=.fields ([.ref l,.int 0 0].toArray)}=h1;have hz:h1.objs.size=s⁻¹+1:=by rw[<- hq];show t7 ..
 have hi:h1.get? s⁻¹=some { cls:=.type "tuple_iterator",data:=.fields ([.ref l,.int 0 0].toArray)}:=by rw[<- hq];show eC _ rfl
 have he:IsEnum (h1.push { cls:=.type "enumerate",data:=.fields ([.none,.bool false,.ref s⁻¹,rawInt 0,.none,.none].toArray)}) h1.objs.size s⁻¹ 0 .none:=eC h1 rfl;rw[hz]at he ⊢
 show#[#[_,he,rfl],h _ he #[_,b0 _ hi,rfl,rfl] (by rw[t7,hz]) λb o x=>b0 _ (by rw[<- hq];show b0 _ x)]
end
open L2 PySem.W SeqAt
abbrev nD(tp:Bool)(K:Frag)(H:Hp)(a:Addr)(xs:List V):Prop:=match tp with |true=>iu K H a xs |false=>cQ K H a xs
abbrev Bs(tp:Bool)(h:Heap)(it a:Addr)(i:Nat):Prop:=match tp with |true=>h.IsTupleIter it a i |false=>h.IsListIter it a i
abbrev AtX(tp:Bool)(h:Heap)(a:Addr)(its:List Value):Prop:=match tp with |true=>h.IsTuple a its.toArray |false=>h.IsList a its.toArray
section
def nD.real(I:L2.Inv X aj Y H s)(h:nD tp X.K H a xs):∃its:List Value,Vals xs its/\AtX tp s.heap a its/\xs.length<=sizeLine:=by
 cases tp with
 |true=>show I.tuple h
 |false=>let(its,r,pl,hz):=I.list h;show#[its,r,pl.isList,hz]
def nD.inj(I:L2.Inv X aj Y H s)(h:nD tp X.K H a xs)(h':nD tp X.K H a ys):xs=ys:=by
 cases tp with
 |true=>show I.rF h h'
 |false=>show I.vq h h'
def Bs.obj(x:Bs tp h it a i):∃o vs,h.get? it=!o/\o.data=.fields vs:=by
 cases tp with
 |true=>let(o,e,_,d):=(show h.IsTupleIter it a i from x);show#[o,_,e,d]
 |false=>let(o,e,_,d):=(show h.IsListIter it a i from x);show#[o,_,e,d]
def Bs.keep(x:Bs tp h it a i)(k:∀o,h.get? it=!o->h'.get? it=!o):Bs tp h' it a i:=by
 cases tp with
 |true=>let(o,e,d):=(show h.IsTupleIter it a i from x);show#[o,k o e,d]
 |false=>let(o,e,d):=(show h.IsListIter it a i from x);show#[o,k o e,d]
def lZ(hh:A.handled=none)(iZ:a≠it)(its:List Value):Draws prog w A it [it,a] its.length (λi v=>its[i]?=!v) (λi h=>Bs tp h it a i/\AtX tp h a its):=by
 cases tp with
 |true=>have:=Vy (prog:=prog) (w:=w) hh it a iZ its.toArray;simp only[List.getElem?_toArray]at this;show this
 |false=>have:=Draws.list (prog:=prog) (w:=w) hh it a iZ its.toArray;simp only[List.getElem?_toArray]at this;show this
end
def IW{prog:Program}{w:World}{A:Around}{it:Addr}{fp:List Addr}{n:Nat}{P:Nat->Value->Prop}{St:Nat->Heap->Prop}(D:Draws prog w A it fp n P St)(c:Nat):Draws prog w A it fp (c+n) (λi v=>∃j,i=c+j/\P j v) (λi h=>∃j,i=c+j/\St j h) where
 live:=λ_ _ st=>by let(j,_,st):=st;show D.live j _ st
 frame:=λ_ _ _ st k=>by let(j,e,st):=st;show#[j,e,D.frame j _ _ st k]
 item:=λi s Q E hi st hQ=>by
  let(j,rfl,st):=st;show D.item j s Q E (Nat.lt_of_add_lt_add_left hi) st λx h' tk p s' sb=>hQ x h' tk #[j,rfl,p] #[j+1,rfl,s'] sb
 done:=λs Q E st hE=>by
  let(j,e,st):=st;cases Do e;show D.done s Q E st hE
section
variable{X:Cx}{aj: ~~~1}{Y:Sg}{H:Hp}{s:Shared}
def Inv.VB{h':Heap}{t':Nat}{ch:List Addr}(I:L2.Inv X aj Y H s)(hf:∀b∈ch,kJ X aj H b)(k:∀b o,b∉ch->s.heap.get? b=!o->h'.get? b=!o):L2.Inv X aj Y H { s with heap:=h',toks:=t'}:=by
 have nH:∀b u,H b=!u->b∉ch:=λb u e z=>by rw[(hf b z).1]at e;cases e
 apply I.step (λb hb=>?_) (λb o _ _ hc e _=>k b o hc e) (λb o _ _ hc e _=>#[o.slots,k b o hc e]) (λ_ _ _ _ n=>n) (λb o hc e=>#[o,k b o hc e]) (λ_ _ e=>e) (λ_ _ _ e=>e) (λb ps e=>#[([].toArray),by rw[e];simp]) (λm hm=>?_) (λb u e=>?_) I.bare
 . let(f0,f1,f2,f3,f4,f5):=hf b hb;show#[f3,f1,f4,f5]
 . let(o,es,ep,ho,rr):=hm;show#[o,es,ep,k _ o (λz=>(hf _ z).2.1 rfl) ho,rr]
 .
  apply (I.hok b u e).stay (λc w hc q=>k c w (λz=>?_) q) (λ_ q=>q) λ_ _ q=>q
  rcases hc with rfl |hc
  . show nH _ _ e z
  . show nH _ _ hc z
def Inv.Ja{h':Heap}{t':Nat}{ch:List Addr}{xs:List V}{its:List Value}(I:L2.Inv X aj Y H s)(hf:∀b∈ch,kJ X aj H b)(k:∀b o,b∉ch->s.heap.get? b=!o->h'.get? b=!o)(hz:xs.length<=sizeLine)(rv:Vals xs its)(ht:gG h' s⁻¹ its.toArray) :
  L2.Inv X aj Y (upd H s⁻¹ (.tup xs)) { s with heap:=h',toks:=t'}:=by
 have nH:∀b u,H b=!u->b∉ch:=λb u e z=>by rw[(hf b z).1]at e;cases e
 have fr:=I.hok.fresh (eD _);have nn:∀b u,H b=!u->b≠s⁻¹:=λb u e z=>by rw[z,fr]at e;cases e
 apply I.step (λb hb=>?_) (λb o _ _ hc e _=>k b o hc e) (λb o _ _ hc e _=>#[o.slots,k b o hc e]) (λb o _ e n=>by rw[az (kS (eQ e))];show n) (λb o hc e=>#[o,k b o hc e]) (λb _ e=>by rw[az (nn _ _ e)];show e) (λb _ _ e=>by rw[az (nn _ _ e)];show e) (λb ps e=>#[([].toArray),by rw[az (nn _ _ e),e];simp]) (λm hm=>?_) (λb u e=>?_) I.bare
 . let(f0,f1,f2,f3,f4,f5):=hf b hb;show#[f3,f1,f4,f5]
 . let(o,es,ep,ho,rr):=hm;show#[o,es,ep,k _ o (λz=>(hf _ z).2.1 rfl) ho,rr]
 .
  by_cases hb:b=s⁻¹
  . subst hb;rw[aA]at e;cases e;show#[hz,its,rv,ht]
  .
   rw[az hb]at e;apply (I.hok b u e).stay (λc w hc q=>k c w (λz=>?_) q) (λc q=>by rw[az (nn _ _ q)];show q) λc _ q=>by rw[az (nn _ _ q)];show q
   rcases hc with rfl |hc
   . show nH _ _ e z
   . show nH _ _ hc z
end
def nD.wm(I:L2.Inv X aj Y H s)(h:nD tp X.K H u us)(f:kJ X aj H c):u≠c:=λz=>by
 subst z;have inK:∀o,X.K.lookup u=!o->False:=λo e=>by
  have e0:=I.ok.mod.yy u o e;rcases f.2.2.2.1 with q |q
  . show I.ok.vn u o e0 q
  . show absurd (eM (eQ (I.ok.bs u o e0).1) q) (nV _)
 cases tp with
 |true=>
  rcases (show iu X.K H u us from h)with (h |⟨o,h⟩) |h
  . rw[f.1]at h;symm
  . rw[f.1]at h;symm
  . let(o,_,_,h,_):=h;show inK _ h
 |false=>
  rcases (show cQ X.K H u us from h)with (h |⟨o,h⟩) |h
  . rw[f.1]at h;symm
  . rw[f.1]at h;symm
  . let(o,_,_,h,_):=h;show inK _ h
abbrev Ite(tp:Bool)(K:Frag)(a:Addr)(c:Nat):It:=
 #[λi H=>∃xs x,nD tp K H a xs/\xs[i]?=!x,λi H x H'=>∃p y,(∀xs,nD tp K H a xs->xs[i]?=!y)/\H p=none/\x=.ref p/\H'=upd H p (.tup [.int ((c+i:Nat):Int),y]),λi H=>∃xs,nD tp K H a xs/\xs.length=i]
def Eg{P:Program}{w:World}{K:Frag}{tp:Bool}{es:List Expr}{k:Nat}{pos:Pos}(e it a:Addr)(c:Nat)(hei:e≠it):Turn P w K (.Tuple es k pos) (Ite tp K a c) [e,it] e (λi h=>(∃old,IsEnum h e it ((c+i:Nat):Int) old)/\Bs tp h it a i) where
 mem:=by simp
 obj:=λi h st b hb=>by
  let((old,he),hi):=st;rcases dS.mp hb with rfl |hb
  . show#[_,he,λv z=>nomatch (show Data.fields _=Data.cell v from z)]
  . cases hU.mp hb;let(o,vs,e1,e2):=hi.obj;show#[o,e1,λv z=>by rw[e2]at z;cases z]
 keep:=λi h h' st k=>by
  let((old,he),hi):=st;show#[#[old,k e ⋯ _ he],hi.keep λo q=>k it ⋯ o q]
 item:=by
  intro X hP hw hK hc i aj s Y H E I hf st hg;subst hP hw hK;let((old,he),hi):=st;let(xs,x,hq,hx):=hg;let(its,rv,hat,hz):=hq.real I;have hae:a≠e:=nD.wm I hq (hf e ⋯);have hai:a≠it:=nD.wm I hq (hf it ⋯);have hlt:i<its.length:=by rw[<- rv.length];show (dE.mp hx).1
  apply wpAny_pyNext_enum_itemD (IW (lZ (tp:=tp) (A:=X.A.in1) (I.ok.hd hc) hai its) c) he #[i,rfl,hi,hat] (Nat.add_lt_add_left hlt c) hei (by simp[hei,n0 hae]) λu h1 tk hu hout cH ht jo hkp=>#[_,rfl,?_]
  let(j,ej,hu):=hu;cases Do ej;let(j,ej,cH):=cH;cases Do (show c+(i+1)=c+j from ej)
  apply wpAny_letOwnedTupleGo_enum hout λh2 he2 hs2=>?_
  replace hs2:Heap.SameBut e h1 h2:=hs2;let(u',e1,ru):=rv.get hx;rw[hu]at e1;cases e1;have hpe:=AC (eQ he);let(oi0,_,ei0,_):=hi.obj;have I3:=Inv.Ja (t':=tk+1) I (h':=h2) hf (xs:=[.int ((c+i:Nat):Int),x]) (its:=[.int ((c+i:Nat):Int) tk,u]) (λb o hb q=>by
   simp only[dS,oI,DC,not_or]at hb;show (hs2.2 b hb.1).trans (hkp b o hb.1 hb.2 q)) (by rw[sB];exact 2<=16777216;decide) (.cons #[tk,rfl] (.cons ru .nil)) #[_,(hs2.2 _ hpe).trans ht,#[rfl,_,rfl],rfl]
  have hfr:=I.hok.fresh (eD _);apply#[.ref s⁻¹,_,I3,rfl,#[_,x,λys hy=>by rw[hy.inj I hq];show hx,hfr,rfl,rfl],#[#[u,he2],cH.1.keep λo q=>(hs2.2 it (n0 hei)).trans q],λb hb=>?_]
  have hbn:b≠s⁻¹:=λz=>by
   rcases dS.mp hb with rfl |hb
   . show hpe z.symm
   . cases hU.mp hb;show absurd (eQ ei0) (by rw[z];show nV _)
  rw[az hbn];show (hf b hb).1
 done:=by
  intro X hP hw hK hc i aj s Y H E I hf st hg;subst hP hw hK;let((old,he),hi):=st;let(xs,hq,hx):=hg;let(its,rv,hat,hz):=hq.real I;let(g0,g1,g2,g3,g4,g5):=hf it ⋯;have hai:a≠it:=nD.wm I hq (hf it ⋯);have hl:i=its.length:=by rw[<- rv.length];show hx.symm
  subst hl;show wpAny_pyNext_enum_endD (IW (lZ (tp:=tp) (A:=X.A.in1) (I.ok.hd hc) hai its) c) he #[_,rfl,hi,hat] λh' eb=>#[rfl,I.turned (λb o hb q=>eb b o hb q) g0 g1 g3 g4 g5]
 self:=λA i s Q E st h=>by
  let((old,he),_):=st;show wpAny_pyIter_enum he h
section
abbrev mX(l:List D):List D:=l.zipIdx.map λp=>.tup [.int (p.2:Nat),p.1]
def Eh{l:List D}{n:Nat}{d:D}(h:(mX l)[n]?=!d):∃x,l[n]?=!x/\d=.tup [.int n,x]:=by
 delta mX at h;rw[mI]at h;cases e:l.zipIdx[n]? with
 |none=>rw[e]at h;symm
 |some q=>
  rw[e]at h;symm;rw[List.getElem?_zipIdx]at e;cases e2:l[n]? with
  |none=>rw[e2]at e;cases e
  |some x=>rw[e2]at e;cases e;show#[x,rfl,by simp]
def Ei(l:List D):(mX l).length=l.length:=by simp[mX]
def Om{d:D}{l:List D}(hK:z.K=X.K)(ha:cT X z [e] g [.dat d] g1)(hs:bE d=!l)(hg:Gl X "enumerate")(hm:X.mg "enumerate"=none)(cH:starEach [e] X.env=[(false,eval e X.env)]) :
  dg X z (.Tuple es k pos) (.Call (.Name "enumerate" p) [e] [] rp) g (mX l) g1:=by
 apply dg.of λaj s Y As M H Post I stt kk=>?_
 apply Call_ (gI I hg hm boot_enumerate (oQ (ha.run I stt λvs us s1 H1 aL M1 I1 r1 q1 q2 q3=>?_) cH rfl))
 cases q3 with
 |dat rp0 R=>
  cases R;let(u,rfl,ru):=vals1 r1;have main:∀(tp:Bool) (a:Addr) (xs:List V) (its:List Value),u=.ref a->AtX tp s1.heap a its->aE z.K M1 H1 l xs->(∀M2 H2,au M1 H1 M2 H2->nD tp X.K H2 a xs)->
    (∀Q:Value->Shared->Prop,(∀h',IsEnum h' (s1⁻¹+1) s1⁻¹ 0 .none->Bs tp h' s1⁻¹ a 0->h'.objs.size=s1⁻¹+2->(∀b o,s1.heap.get? b=!o->h'.get? b=!o)->Q (.ref (s1⁻¹+1)) { s1 with heap:=h'})->
     wpAny (~~~2) X.A (call (.type "enumerate") [.ref a]) Q X.xe s1)->wpAny (~~~2) X.A (call (.type "enumerate") [u]) Post X.xe s1:=λtp a xs its hu hat rr hsq hcall=>by
   subst hu;apply hcall _ λh' he hi jo hk=>kk _ _ λR kR=>?_
   apply wpAny_pyIter_enum he ?_;have I2:=I1.kept (t':=s1.toks) hk;apply#[_,[s1⁻¹+1,s1⁻¹],_,Ite tp X.K a 0,H1,rfl,I2,Eg _ _ a 0 (Nat.succ_ne_self _),#[#[_,he],hi],λb hb=>?_,kR _ H1 aL M1 q1 q2 λM2 H2 aI=>?_]
   .
    rcases dS.mp hb with rfl |hb
    . show I1.yF (AY _) (I1.hok.fresh (AY _))
    . cases hU.mp hb;show I1.yF (eD _) (I1.hok.fresh (eD _))
   .
    have Gh:=rr.stay aI;apply#[λn d hd=>?_,xs,hsq M2 H2 aI,by rw[Ei];show rr.length.symm]
    let(x,e1,rfl):=Eh hd;let(v,e2,e3):=Gh.get e1;apply#[#[xs,v,hsq M2 H2 aI,e2],λy H' hy z' g' σ' aC hz' s'=>?_]
    let(p,y',w1,w3,rfl,rfl):=hy;rw[A4];have w2:=w1 xs (hsq M2 H2 aI);rw[e2]at w2;cases w2;apply#[s'.laid w3,au.laid w3,.tup (.inl #[s'.fresh w3,.inl aA]) (.cons (.int _) (.cons (e3.stay (au.laid w3)) .nil))]
  cases rp0 with
  |@lst _ a xs hb rr=>cases hs;cases ru;let(its,rv,pl,hz):=I1.list (cQ.of hb.2);show main false a xs its rfl pl.isList rr (λM2 H2 aI=>cQ.of (aI _ _ hb.2 hb.1).1) λQ h=>call_enumerate_list pl.isList h
  |@tup _ a xs hb rr=>
   cases hs;cases ru;let(its,rv,pl,hz):=I1.tuple (hK▸hb.sq);apply main true a xs its rfl pl rr (λM2 H2 aI=>?_) λQ h=>zh pl h
   have:TupAt z.K M2 H2 a xs:=by
    rcases hb with ⟨na,hr⟩ |hk
    . show .inl (aI.rd na hr)
    . show .inr hk
   show hK▸this.sq
  |@fix _ a xs hb rr=>
   cases hs;cases ru;let(its,rv,pl,hz):=I1.list (hK▸hb.sq);apply main false a xs its rfl pl.isList rr (λM2 H2 aI=>?_) λQ h=>call_enumerate_list pl.isList h
   have:mR z.K M2 H2 a xs:=by
    rcases hb with ⟨na,o,hr⟩ |hk
    . show .inl #[(aI _ _ hr na).2,o,(aI _ _ hr na).1]
    . show .inr hk
   show hK▸this.sq
  |_=>cases hs
end
open L2 PySem.W SeqAt
end Ev
namespace HT
open PySem PyProof.Rows
end HT
namespace Ev
open L2
section
meta abbrev m1(j:Nat)(p1 p3:Pos):Expr:=.UnaryOp .USub (.Constant (.int 1) j p1) p3
def VD:aB X z (.Dict [] [] pos) g (.dat .emp) g:=by
 apply#[λY H Q=>∀p,H p=none->Q (.ref p) (upd H p (.dK [])),λaj s Y H Q I h=>wpAny_Dict_empty #[.ref s⁻¹,_,I.laid (λb ob q=>b0 _ q) (eD _) ?_,rfl,h _ (I.hok.fresh (eD _))],λY As M H Q s k p hp=>k _ _ As M (s.laid hp) (au.laid hp) (.emp (s.fresh hp) aA)]
 apply#[tS _,?_,[],?_,Heap.DictOf.new _]
 .
  have h1:=(I.ok.mod.glob.keeps I.bk).lt;apply Bool.eq_false_iff.mpr λq=>?_
  have q:=eq_of_beq q;rw[q]at h1;show absurd h1 ⋯
 . show .nil
end
open L2 PySem.W SeqAt
section
structure Yn(r tI tO i j a b:Addr):Prop where
 n1:tI≠r/\tO≠r/\i≠r/\j≠r/\a≠r/\b≠r
 n2:tI≠tO/\i≠tO/\j≠tO/\a≠tO/\b≠tO
 n3:tI≠i/\tI≠j/\i≠j
 n4:a≠i/\b≠i/\a≠j/\b≠j
section
def Jb{Q:Value->Shared->Prop}(N:Yn r tI tO i j a b)(D1:Draws prog w A i [i,a] n f S1)(D2:Draws prog w A j [j,b] m g S2)(hk1:k<n)(hk2:k<m)
  (er:IsZip s.heap r tI tO .none) (eI:IsPair s.heap tI (.ref i) (.ref j)) (eO:IsPair s.heap tO c d) (t1:S1 k s.heap) (t2:S2 k s.heap)
  (hQ:∀u v h' tk,f k u->g k v->IsZip h' r tI tO (rawInt s⁻¹)->IsPair h' tO u v->S1 (k+1) h'->S2 (k+1) h'->IsPair h' s⁻¹ u v->h'.objs.size=s⁻¹+1->
   (∀x o,x≠r->x≠tO->x≠i->x≠j->s.heap.get? x=!o->h'.get? x=!o)->Q (.ref s⁻¹) { s with heap:=h',toks:=tk}) :
  wpAny (model prog w) A (Builtin.«zip.__next__» #[[.ref r],[]]) (λfin s'=>∃v,fin=.done (.ret v)/\Q v s') E s:=by
 let((p1,p2,p3,p4,p5,p6),(q1,q2,q3,q4,q5),(u1,u2,u3),(v1,v2,v3,v4)):=N;apply aS (m:=field (.ref r) 2) (o6 er rfl rfl ?_);apply aS (o6 er rfl rfl (aS (wS eI rfl ?_)));apply aS ?_;apply aS (o6 er rfl rfl (dC ?_));apply aS (AJ (aS (o6 er rfl rfl (aS (AM er ⋯ λha Lv ka=>?_)))))
 replace Lv:IsZip ha r tI tO .ellipsis:=Lv;apply aS ?_;have t1a:=D1.frame k _ _ t1 λx hx o e=>(ka.2 x (by rcases dS.mp hx with z |z;show z▸p3;show (hU.mp z)▸p5)).trans e
 have t2a:=D2.frame k _ _ t2 λx hx o e=>(ka.2 x (by rcases dS.mp hx with z |z;show z▸p4;show (hU.mp z)▸p6)).trans e
 apply aS (aS (C5 (aS (D1.item k { s with heap:=ha} _ _ hk1 t1a λu hb tk1 fu t1b kb=>dC ?_))))
 have eOb:=(kb.2 _ (n0 q2)).trans ((ka.2 _ p2).trans eO);apply aS (wS eOb rfl (aS (wpAny_updateSeq_pair eOb λhc eOc kc=>?_)))
 replace eOc:IsPair hc tO u d:=eOc;apply aS (CB (dC ?_));have t1c:=D1.frame _ _ _ t1b λx hx o e=>(kc.2 x (by rcases dS.mp hx with z |z;show z▸q2;show (hU.mp z)▸q4)).trans e
 have t2c:=D2.frame k _ _ t2a λx hx o e=>by
  have hx:x=j\/x=b:=by rcases dS.mp hx with z |z;show .inl z;show .inr (hU.mp z)
  rw[kc.2 x (by rcases hx with rfl |rfl;show q3;show q5),kb.2 x (by rcases hx with rfl |rfl;show n0 u3;show v2)]
  show e
 apply aS (aS (C5 (aS (D2.item k { s with heap:=hc,toks:=tk1} _ _ hk2 t2c λv hd tk2 gv t2d kd=>dC ?_))))
 have eOd:=(kd.2 _ (n0 q3)).trans eOc;apply aS (wS eOd rfl (aS (wpAny_updateSeq_pair eOd λhe eOe ke=>?_)))
 replace eOe:IsPair he tO u v:=eOe;apply aS (CB (dC (dC ?_)));apply aS (wS eOe rfl (aS (wpAny_newTuple ?_)));have sz:he.objs.size=s⁻¹:=by rw[ke.1,kd.1,kc.1,kb.1];show ka.1
 have ere:IsZip he r tI tO .ellipsis:=by exact he.get? r=_;rw[ke.2 _ (n0 p2),kd.2 _ (n0 p4),kc.2 _ (n0 p2),kb.2 _ (n0 p3)];show Lv
 have old:∀x o,x≠r->x≠tO->x≠i->x≠j->s.heap.get? x=!o->he.get? x=!o:=λx o x1 x2 x3 x4 e=>by
  rw[ke.2 _ x2,kd.2 _ x4,kc.2 _ x2,kb.2 _ x3];show (ka.2 _ x1).trans e
 have t1e:=D1.frame _ _ _ t1c λx hx o e=>by
  have hx:x=i\/x=a:=by rcases dS.mp hx with z |z;show .inl z;show .inr (hU.mp z)
  rw[ke.2 x (by rcases hx with rfl |rfl;show q2;show q4),kd.2 x (by rcases hx with rfl |rfl;show u3;show v3)]
  show e
 have t2e:=D2.frame _ _ _ t2d λx hx o e=>(ke.2 x (by rcases dS.mp hx with z |z;show z▸q3;show (hU.mp z)▸q5)).trans e
 apply aS ?_;have erf:IsZip (he.push { cls:=.type "tuple",data:=.seq ([u,v].toArray)}) r tI tO .ellipsis:=b0 _ ere;apply aS (AM erf ⋯ λhg erg kg=>?_)
 replace erg:IsZip hg r tI tO (rawInt he.objs.size):=erg;apply AM erg ⋯ λhh erh kh=>?_
 replace erh:IsZip hh r tI tO (rawInt he.objs.size):=erh;have up:∀x o,x≠r->he.get? x=!o->hh.get? x=!o:=λx o x1 e=>by rw[kh.2 _ x1,kg.2 _ x1];show b0 _ e
 have rlt:=eQ ere;have new:IsPair hh he.objs.size u v:=by exact hh.get? _=_;rw[kh.2 _ (AC rlt),kg.2 _ (AC rlt)];show eC _ rfl
 have szh:hh.objs.size=he.objs.size+1:=by rw[kh.1,kg.1,t7]
 have fr1:∀x o,x=i\/x=a->he.get? x=!o->hh.get? x=!o:=λx o hx e=>up x o (by rcases hx with rfl |rfl;show p3;show p5) e
 have fr2:∀x o,x=j\/x=b->he.get? x=!o->hh.get? x=!o:=λx o hx e=>up x o (by rcases hx with rfl |rfl;show p4;show p6) e
 rw[sz]at erh new szh;apply dC #[_,rfl,?_];rw[sz];show hQ u v hh tk2 fu gv erh (up _ _ p2 eOe) (D1.frame _ _ _ t1e λx hx o e=>fr1 x o (by rcases dS.mp hx with z |z;show .inl z;show .inr (hU.mp z)) e)
  (D2.frame _ _ _ t2e λx hx o e=>fr2 x o (by rcases dS.mp hx with z |z;show .inl z;show .inr (hU.mp z)) e) new szh λx o x1 x2 x3 x4 e=>up x o x1 (old x o x1 x2 x3 x4 e)
def Oo(N:Yn r tI tO i j a b)(D1:Draws prog w A i [i,a] n f S1)(D2:Draws prog w A j [j,b] m g S2)(hk:k=n\/(k<n/\k=m))
  (er:IsZip s.heap r tI tO .none) (eI:IsPair s.heap tI (.ref i) (.ref j)) (eO:IsPair s.heap tO c d) (t1:S1 k s.heap) (t2:S2 k s.heap)
  (hE:∀h' e tk,(∀x o,x≠r->x≠tO->x≠i->x≠j->s.heap.get? x=!o->h'.get? x=!o)->(∃o,h'.get? e=!o/\o.cls=.type "StopIteration")->E (.ref e) { s with heap:=h',toks:=tk}) :
  wpAny (model prog w) A (Builtin.«zip.__next__» #[[.ref r],[]]) Q E s:=by
 let((p1,p2,p3,p4,p5,p6),(q1,q2,q3,q4,q5),(u1,u2,u3),(v1,v2,v3,v4)):=N;apply aS (m:=field (.ref r) 2) (o6 er rfl rfl ?_);apply aS (o6 er rfl rfl (aS (wS eI rfl ?_)));apply aS ?_;apply aS (o6 er rfl rfl (dC ?_));apply aS (AJ (aS (o6 er rfl rfl (aS (AM er ⋯ λha Lv ka=>?_)))))
 replace Lv:IsZip ha r tI tO .ellipsis:=Lv;apply aS ?_;have t1a:=D1.frame k _ _ t1 λx hx o e=>(ka.2 x (by rcases dS.mp hx with z |z;show z▸p3;show (hU.mp z)▸p5)).trans e
 have t2a:=D2.frame k _ _ t2 λx hx o e=>(ka.2 x (by rcases dS.mp hx with z |z;show z▸p4;show (hU.mp z)▸p6)).trans e
 have stop:∀(hb:Heap) (e:Addr) (tk:Nat),IsZip hb r tI tO .ellipsis->(∃o,hb.get? e=!o/\o.cls=.type "StopIteration")->e≠r:=by rintro hb e tk z ⟨o,h1,h2⟩ q;rw[q,z]at h1;cases h1;show absurd (show Value.type "zip"=.type "StopIteration" from h2) ⋯
 rcases hk with rfl |⟨hk1,rfl⟩
 .
  apply aS (aS (C5 (aS (D1.done { s with heap:=ha} _ _ t1a λhb e kb ex=>?_))))
  have erb:=kb _ _ (n0 p3) Lv;have ner:=stop hb e s.toks erb ex;let(oe,x1,x2):=ex;apply AM erb ⋯ λhc _ kc=>?_
  show hE hc e s.toks (λx o y1 y2 y3 y4 z=>(kc.2 _ y1).trans (kb _ _ y3 ((ka.2 _ y1).trans z))) #[oe,(kc.2 _ ner).trans x1,x2]
 .
  apply aS (aS (C5 (aS (D1.item k { s with heap:=ha} _ _ hk1 t1a λu hb tk1 fu t1b kb=>dC ?_))))
  have eOb:=(kb.2 _ (n0 q2)).trans ((ka.2 _ p2).trans eO);apply aS (wS eOb rfl (aS (wpAny_updateSeq_pair eOb λhc eOc kc=>?_)))
  apply aS (CB (dC ?_));have t2c:=D2.frame k _ _ t2a λx hx o e=>by
   have hx:x=j\/x=b:=by rcases dS.mp hx with z |z;show .inl z;show .inr (hU.mp z)
   rw[kc.2 x (by rcases hx with rfl |rfl;show q3;show q5),kb.2 x (by rcases hx with rfl |rfl;show n0 u3;show v2)]
   show e
  apply aS (aS (C5 (aS (D2.done { s with heap:=hc,toks:=tk1} _ _ t2c λhd e kd ex=>?_))))
  have erd:=kd _ _ (n0 p4) (by rw[kc.2 _ (n0 p2),kb.2 _ (n0 p3)];show Lv)
  have ner:=stop hd e s.toks erd ex;let(oe,x1,x2):=ex;apply AM erd ⋯ λhe _ ke=>?_
  show hE he e tk1 (λx o y1 y2 y3 y4 z=>(ke.2 _ y1).trans (kd _ _ y4 (by rw[kc.2 _ y2,kb.2 _ y3];show (ka.2 _ y1).trans z))) #[oe,(ke.2 _ ner).trans x1,x2]
end
section
def Jc{Q:Option Value->Shared->Prop}(N:Yn r tI tO i j a b)(D1:Draws prog w A.in1 i [i,a] n f S1)(D2:Draws prog w A.in1 j [j,b] m g S2)(hk1:k<n)(hk2:k<m)
  (er:IsZip s.heap r tI tO .none) (eI:IsPair s.heap tI (.ref i) (.ref j)) (eO:IsPair s.heap tO c d) (t1:S1 k s.heap) (t2:S2 k s.heap)
  (hQ:∀u v h' tk,f k u->g k v->IsZip h' r tI tO (rawInt s⁻¹)->IsPair h' tO u v->S1 (k+1) h'->S2 (k+1) h'->IsPair h' s⁻¹ u v->h'.objs.size=s⁻¹+1->
   (∀x o,x≠r->x≠tO->x≠i->x≠j->s.heap.get? x=!o->h'.get? x=!o)->Q (!(.ref s⁻¹)) { s with heap:=h',toks:=tk}):wpAny (model prog w) A (pyNext (.ref r)) Q E s:=by
 have ty:s.TypeIs (.ref r) "zip" :=#[_,er,rfl];show aS (BY (pV ty F.slot_zip_next (nN F.slot_zip_next ty F.entry_zip_next
  (Jb N D1 D2 hk1 hk2 er eI eO t1 t2 λu v h' tk b1 b2 b3 b4 b5 b6 b7 b8 b9=>dC (hQ u v h' tk b1 b2 b3 b4 b5 b6 b7 b8 b9)) (F.args_zip_next_1 _))))
def wu(N:Yn r tI tO i j a b)(D1:Draws prog w A.in1 i [i,a] n f S1)(D2:Draws prog w A.in1 j [j,b] m g S2)(hk:k=n\/(k<n/\k=m))
  (er:IsZip s.heap r tI tO .none) (eI:IsPair s.heap tI (.ref i) (.ref j)) (eO:IsPair s.heap tO c d) (t1:S1 k s.heap) (t2:S2 k s.heap)
  (hQ:∀h' tk,(∀x o,x≠r->x≠tO->x≠i->x≠j->s.heap.get? x=!o->h'.get? x=!o)->Q none { s with heap:=h',toks:=tk}):wpAny (model prog w) A (pyNext (.ref r)) Q E s:=by
 have ty:s.TypeIs (.ref r) "zip" :=#[_,er,rfl];apply aS (BY (pV ty F.slot_zip_next (nN F.slot_zip_next ty F.entry_zip_next
  (Oo N D1 D2 hk er eI eO t1 t2 λh' e tk kp ex=>?_) (F.args_zip_next_1 _))))
 let(o,x1,x2):=ex;show aS (wpAny_isInstance #[o,x1,x2] isSubtype_stop (dC (hQ _ tk kp)))
end
end
open L2 PySem.W SeqAt
abbrev Itz(tp:Bool)(K:Frag)(a b:Addr):It:=
 #[λi H=>∃xs ys x y,nD tp K H a xs/\nD tp K H b ys/\xs[i]?=!x/\ys[i]?=!y,λi H x H'=>∃p u v,(∀xs,nD tp K H a xs->xs[i]?=!u)/\(∀ys,nD tp K H b ys->ys[i]?=!v)/\H p=none/\x=.ref p/\H'=upd H p (.tup [u,v]),
  λi H=>∃xs ys,nD tp K H a xs/\nD tp K H b ys/\(i=xs.length\/(i<xs.length/\i=ys.length))]
def Bt{tp:Bool}{r tI tO i j a b:Addr}{n:Nat}{h:Heap}(st:IsZip h r tI tO .none/\IsPair h tI (.ref i) (.ref j)/\(∃c d,IsPair h tO c d)/\Bs tp h i a n/\Bs tp h j b n):∀x∈[r,tI,tO,i,j],∃o,h.get? x=!o/\∀v,o.data≠.cell v:=λx hx=>by
 let(er,eI,(c,d,eO),t1,t2):=st;simp only[dS,oI,DC]at hx;rcases hx with rfl |rfl |rfl |rfl |rfl
 . show#[_,er,λv z=>nomatch (show Data.fields _=Data.cell v from z)]
 . show#[_,eI,λv z=>nomatch (show Data.seq _ _=Data.cell v from z)]
 . show#[_,eO,λv z=>nomatch (show Data.seq _ _=Data.cell v from z)]
 . let(o,vs,e1,e2):=t1.obj;show#[o,e1,λv z=>by rw[e2]at z;cases z]
 . let(o,vs,e1,e2):=t2.obj;show#[o,e1,λv z=>by rw[e2]at z;cases z]
def Jd{P:Program}{w:World}{K:Frag}{tp:Bool}{es:List Expr}{k:Nat}{pos:Pos}(r tI tO i j a b:Addr)(A1:tI≠r/\tO≠r/\i≠r/\j≠r)(A2:tI≠tO/\i≠tO/\j≠tO)(A3:tI≠i/\tI≠j/\i≠j) :
  Turn P w K (.Tuple es k pos) (Itz tp K a b) [r,tI,tO,i,j] r (λn h=>IsZip h r tI tO .none/\IsPair h tI (.ref i) (.ref j)/\(∃c d,IsPair h tO c d)/\Bs tp h i a n/\Bs tp h j b n) where
 mem:=by simp
 obj:=λn h st x hx=>Bt st x hx
 keep:=λn h h' st kp=>by
  let(er,eI,(c,d,eO),t1,t2):=st;show#[kp r ⋯ _ er,kp tI ⋯ _ eI,#[c,d,kp tO ⋯ _ eO],t1.keep λo q=>kp i ⋯ o q,t2.keep λo q=>kp j ⋯ o q]
 item:=by
  intro X hP hw hK hc n aj s Y H E I hf st hg;subst hP hw hK;let(er,eI,(c,d,eO),t1,t2):=id st;let(xs,ys,x,y,qx,qy,gx,gy):=hg;let(itx,rx,atx,zx):=qx.real I;let(ity,ry,aty,zy):=qy.real I;have nf:∀{u:Addr}{us:List V}{c:Addr},nD tp X.K H u us->c∈[r,tI,tO,i,j]->u≠c:=λh hc=>nD.wm I h (hf _ hc)
  have N:Yn r tI tO i j a b:=#[#[A1.1,A1.2.1,A1.2.2.1,A1.2.2.2,nf qx ⋯,nf qy ⋯],#[A2.1,A2.2.1,A2.2.2,nf qx ⋯,nf qy ⋯],A3,#[nf qx ⋯,nf qy ⋯,nf qx ⋯,nf qy ⋯]];have l1:n<itx.length:=by rw[<- rx.length];show (dE.mp gx).1
  have l2:n<ity.length:=by rw[<- ry.length];show (dE.mp gy).1
  apply Jc N (lZ (A:=X.A.in1) (I.ok.hd hc) (nf qx ⋯) itx) (lZ (A:=X.A.in1) (I.ok.hd hc) (nf qy ⋯) ity) l1 l2 er eI eO #[t1,atx] #[t2,aty] λu v h1 tk fu gv Lv eO1 s1 s2 new sz kp=>#[_,rfl,?_]
  apply wpAny_letOwnedTupleGo_zip Lv λh2 er2 k2=>?_
  let(u',e1,ru):=rx.get gx;let(v',e2,rv):=ry.get gy;rw[fu]at e1;cases e1;rw[gv]at e2;cases e2;have pr:=AC (eQ er);have kk:∀x o,x∉[r,tO,i,j]->s.heap.get? x=!o->h2.get? x=!o:=λx o hx e=>by
   simp only[dS,oI,DC,not_or]at hx;show (k2.2 x hx.1).trans (kp x o hx.1 hx.2.1 hx.2.2.1 hx.2.2.2 e)
  have J:=Inv.Ja (t':=tk) I (λc hc=>hf c (by simp only[dS,oI]at hc ⊢;rcases hc with h |h |h |h <;> simp[h])) kk (by rw[sB];exact 2<=16777216;decide) (.cons ru (.cons rv .nil)) #[_,(k2.2 _ pr).trans new,#[rfl,_,rfl],rfl]
  have eI2:=kk _ _ (by simp[A1.1,A2.1,A3.1,A3.2.1]) eI
  apply#[.ref s⁻¹,_,J,rfl,#[_,x,y,λzs hz=>by rw[hz.inj I qx];show gx,λzs hz=>by rw[hz.inj I qy];show gy,I.hok.fresh (eD _),rfl,rfl],#[er2,eI2,#[u,v,(k2.2 _ A1.2.1).trans eO1],s1.1.keep λo q=>(k2.2 _ A1.2.2.1).trans q,s2.1.keep λo q=>(k2.2 _ A1.2.2.2).trans q],λc hc=>?_]
  have hcn:c≠s⁻¹:=λz=>by
   let(o,e,_):=Bt st c hc;show absurd (eQ e) (by rw[z];show nV _)
  rw[az hcn];show (hf c hc).1
 done:=by
  intro X hP hw hK hc n aj s Y H E I hf st hg;subst hP hw hK;let(er,eI,(c,d,eO),t1,t2):=st;let(xs,ys,qx,qy,hn):=hg;let(itx,rx,atx,zx):=qx.real I;let(ity,ry,aty,zy):=qy.real I;have nf:∀{u:Addr}{us:List V}{c:Addr},nD tp X.K H u us->c∈[r,tI,tO,i,j]->u≠c:=λh hc=>nD.wm I h (hf _ hc)
  have N:Yn r tI tO i j a b:=#[#[A1.1,A1.2.1,A1.2.2.1,A1.2.2.2,nf qx ⋯,nf qy ⋯],#[A2.1,A2.2.1,A2.2.2,nf qx ⋯,nf qy ⋯],A3,#[nf qx ⋯,nf qy ⋯,nf qx ⋯,nf qy ⋯]];apply wu N (lZ (A:=X.A.in1) (I.ok.hd hc) (nf qx ⋯) itx) (lZ (A:=X.A.in1) (I.ok.hd hc) (nf qy ⋯) ity) (by rw[<- rx.length,<- ry.length];show hn) er eI eO #[t1,atx] #[t2,aty] λh1 tk kp=>#[rfl,?_]
  show Inv.VB I (ch:=[r,tO,i,j]) (λc hc=>hf c (by simp only[dS,oI]at hc ⊢;rcases hc with h |h |h |h <;> simp[h])) λx o hx e=>by
   simp only[dS,oI,DC,not_or]at hx;show kp x o hx.1 hx.2.1 hx.2.2.1 hx.2.2.2 e
 self:=λA n s Q E st h=>wpAny_pyIter_zip st.1 h
open L2 PySem.W SeqAt
section
meta abbrev zT1(h:Heap)(a:Addr):Heap:=h.push { cls:=.type "tuple_iterator",data:=.fields ([.ref a,.int 0 0].toArray)}
meta abbrev zT2(h:Heap)(a b:Addr):Heap:=(zT1 h a).push { cls:=.type "tuple_iterator",data:=.fields ([.ref b,.int 0 0].toArray)}
meta abbrev zT3(h:Heap)(a b:Addr):Heap:=(zT2 h a b).push { cls:=.type "tuple",data:=.seq ([.ref h.objs.size,.ref (zT1 h a).objs.size].toArray)}
meta abbrev zT4(h:Heap)(a b:Addr):Heap:=(zT3 h a b).push { cls:=.type "tuple",data:=.seq ([.none,.none].toArray)}
meta abbrev Yo (h:Heap) (a b:Addr):Heap:=(zT4 h a b).push { cls:=.type "zip",data:=.fields ([.none,.bool false,.bool false,.ref (zT2 h a b).objs.size,.ref (zT3 h a b).objs.size].toArray)}
def zj(a b:Addr)(xs ys:Array Value) :
  Meets (Builtin.«zip.__new__» #[[.type "zip",.ref a,.ref b],[]]) (λ_ R s=>s.heap.IsTuple a xs/\s.heap.IsTuple b ys/\R (.ok (.ret (.ref (zT4 s.heap a b).objs.size))) { s with heap:=Yo s.heap a b}):=
 .of_wp λprog w A R s h=>by
  let(hp,g,d,tk,os):=s;let(ta,tb,h):=h;have hsub:=sub_zip;have T1:Heap.IsTuple (Shared.heap #[hp,g,d,tk,os]) a xs:=ta;have T2:Heap.IsTuple (Shared.heap #[zT1 hp a,g,d,tk,os]) b ys:=by let(o,e,rr):=tb;show#[o,b0 _ e,rr]
  wp_walk using AK T1,AK T2
  show#[_,rfl,h]
def Ej(ta:s.heap.IsTuple a xs)(tb:s.heap.IsTuple b ys)
  (h:∀h',IsZip h' (s⁻¹+4) (s⁻¹+2) (s⁻¹+3) .none->IsPair h' (s⁻¹+2) (.ref s⁻¹) (.ref (s⁻¹+1))->
   IsPair h' (s⁻¹+3) .none .none->h'.IsTupleIter s⁻¹ a 0->h'.IsTupleIter (s⁻¹+1) b 0->h'.objs.size=s⁻¹+5->
   (∀c o,s.heap.get? c=!o->h'.get? c=!o)->Q (.ref (s⁻¹+4)) { s with heap:=h'}) :
  wpAny (model prog w) A (call (.type "zip") [.ref a,.ref b]) Q E s:=by
 apply callType_new F.called_zip ⋯ (F.typeCall_zip_2 _ _) (F.newCall_zip_2 _ _) (λobj=>F.args_object_init_3 obj _ _) F.entry_zip_new (zj a b xs ys) #[ta,tb,?_]
 have s1:(zT1 s.heap a).objs.size=s⁻¹+1:=t7 ..;have s2:(zT2 s.heap a b).objs.size=s⁻¹+2:=by rw[t7,s1]
 have s3:(zT3 s.heap a b).objs.size=s⁻¹+3:=by rw[t7,s2]
 have s4:(zT4 s.heap a b).objs.size=s⁻¹+4:=by rw[t7,s3]
 have o5:(Yo s.heap a b).get? (zT4 s.heap a b).objs.size=!_:=eC _ rfl;have o4:(Yo s.heap a b).get? (zT3 s.heap a b).objs.size=!_:=b0 _ (eC _ rfl);have o3:(Yo s.heap a b).get? (zT2 s.heap a b).objs.size=!_:=b0 _ (b0 _ (eC _ rfl));have o2:(Yo s.heap a b).get? (zT1 s.heap a).objs.size=!_:=b0 _ (b0 _ (b0 _ (eC _ rfl)));have o1:(Yo s.heap a b).get? s⁻¹=!_:=b0 _ (b0 _ (b0 _ (b0 _ (eC _ rfl))));rw[s4]at o5 ⊢
 rw[s2,s3]at o5;rw[s2,s1]at o3;rw[s3]at o4;rw[s1]at o2;show#[#[_,o5,rfl],h _ o5 o3 o4 #[_,o1,rfl,rfl] #[_,o2,rfl,rfl] (by rw[t7,s4]) λc o e=>b0 _ (b0 _ (b0 _ (b0 _ (b0 _ e))))]
end
abbrev ur(l m:List D):List D:=(l.zip m).map λp=>.tup [p.1,p.2]
def Je{l m:List D}{n:Nat}{d:D}(h:(ur l m)[n]?=!d):∃x y,l[n]?=!x/\m[n]?=!y/\d=.tup [x,y]:=by
 delta ur at h;rw[mI]at h;cases e:(l.zip m)[n]? with
 |none=>rw[e]at h;symm
 |some q=>rw[e]at h;symm;let(h1,h2):=BC.mp e;show#[q.1,q.2,h1,h2,rfl]
def Jf(l m:List D):(ur l m).length=min l.length m.length:=by simp[ur]
section
abbrev isTup:D->Bool
 |.tup _=>true
 |_=>false
def Rep.sqX{K:Frag}{M:List Addr}{H:Hp}{d:D}{v:V}{l:List D}(r:Rep K M H d v)(h:bE d=!l):∃a xs,v=.ref a/\aE K M H l xs/\∀M2 H2,au M H M2 H2->nD (isTup d) K H2 a xs:=by
 cases r with
 |@lst _ a xs hb rr=>symm;show#[a,xs,rfl,rr,λM2 H2 st=>cQ.of (st _ _ hb.2 hb.1).1]
 |@tup _ a xs hb rr=>
  symm;apply#[a,xs,rfl,rr,λM2 H2 st=>?_]
  have:TupAt K M2 H2 a xs:=by
   rcases hb with ⟨na,hr⟩ |hk
   . show .inl (st.rd na hr)
   . show .inr hk
  show this.sq
 |@fix _ a xs hb rr=>
  symm;apply#[a,xs,rfl,rr,λM2 H2 st=>?_]
  have:mR K M2 H2 a xs:=by
   rcases hb with ⟨na,o,hr⟩ |hk
   . show .inl #[(st _ _ hr na).2,o,(st _ _ hr na).1]
   . show .inr hk
  show this.sq
 |_=>symm
def Ek(ta:AtX tp s.heap a xs)(tb:AtX tp s.heap b ys)
  (h:∀h',IsZip h' (s⁻¹+4) (s⁻¹+2) (s⁻¹+3) .none->IsPair h' (s⁻¹+2) (.ref s⁻¹) (.ref (s⁻¹+1))->
   IsPair h' (s⁻¹+3) .none .none->Bs tp h' s⁻¹ a 0->Bs tp h' (s⁻¹+1) b 0->h'.objs.size=s⁻¹+5->
   (∀c o,s.heap.get? c=!o->h'.get? c=!o)->Q (.ref (s⁻¹+4)) { s with heap:=h'}):wpAny (model prog w) A (call (.type "zip") [.ref a,.ref b]) Q E s:=by
 cases tp with
 |true=>show Ej ta tb h
 |false=>show call_zip_2 ta tb h
def VF{d1 d2:D}{l m:List D}(hK:z.K=X.K)(ha:cT X z [e1,e2] g [.dat d1,.dat d2] g1)(h1:bE d1=!l)(h2:bE d2=!m)(hkd:isTup d1=isTup d2)(hg:Gl X "zip")(hm:X.mg "zip"=none)(cH:starEach [e1,e2] X.env=(false,eval e1 X.env)::starEach [e2] X.env)(ig:(backTo rp (starEach [e2] X.env)).any (·.1)=false) :
  dg X z (.Tuple es k pos) (.Call (.Name "zip" p) [e1,e2] [] rp) g (ur l m) g1:=by
 apply dg.of λaj s Y As M H Post I stt kk=>?_
 apply Call_ (gI I hg hm boot_zip (oQ (ha.run I stt λvs us s1 H1 aL M1 I1 r1 q1 q2 q3=>?_) cH ig))
 cases q3 with
 |dat rp1 R=>cases R with
  |dat rp2 R=>
   cases R;let(u1,u2,rfl,ru1,ru2):=vals2 r1;let(a,xs,rfl,rr1,sq1):=rp1.sqX h1;let(b,ys,rfl,Gh,sq2):=rp2.sqX h2;cases ru1;cases ru2;rw[<- hkd]at sq2;have sa:=hK▸sq1 M1 H1 (au.refl _ _);have sb:=hK▸sq2 M1 H1 (au.refl _ _);let(itx,_,atx,_):=sa.real I1;let(ity,_,aty,_):=sb.real I1;apply Ek atx aty λh' er eI eO t1 t2 jo hk=>kk _ _ λR kR=>?_
   apply wpAny_pyIter_zip er ?_;have I2:=I1.kept (t':=s1.toks) hk;apply#[_,[s1⁻¹+4,s1⁻¹+2,s1⁻¹+3,s1⁻¹,s1⁻¹+1],_,Itz (isTup d1) X.K a b,H1,rfl,I2,Jd (s1⁻¹+4) (s1⁻¹+2) (s1⁻¹+3) s1⁻¹ (s1⁻¹+1) a b (by apply#[?_,?_,?_,?_] <;> (intro q;have q:=q;lia)) (by apply#[?_,?_,?_] <;> (intro q;have q:=q;lia)) (by apply#[?_,?_,?_] <;> (intro q;have q:=q;lia)),#[er,eI,#[_,_,eO],t1,t2],λc hc=>?_,kR _ H1 aL M1 q1 q2 λM2 H2 aI=>?_]
   .
    have hle:s1⁻¹<=c:=by simp only[dS,oI,DC]at hc;rcases hc with rfl |rfl |rfl |rfl |rfl <;> lia
    show I1.yF hle (I1.hok.fresh hle)
   .
    have s1':=hK▸sq1 M2 H2 aI;have s2':=hK▸sq2 M2 H2 aI;have R1:=rr1.stay aI;have R2:=Gh.stay aI;apply#[λn d hd=>?_,xs,ys,s1',s2',?_]
    .
     let(x,y,f1,f2,rfl):=Je hd;let(vx,e2,e3):=R1.get f1;let(vy,e4,e5):=R2.get f2;apply#[#[xs,ys,vx,vy,s1',s2',e2,e4],λw H' hy z' g' σ' aC hz' s'=>?_]
     let(p,u,v,w1,w2,w3,rfl,rfl):=hy;have w1:=w1 xs s1';have w2:=w2 ys s2';rw[e2]at w1;cases w1;rw[e4]at w2;cases w2;show#[s'.laid w3,au.laid w3,.tup (.inl #[s'.fresh w3,.inl aA]) (.cons (e3.stay (au.laid w3)) (.cons (e5.stay (au.laid w3)) .nil))]
    . rw[Jf,rr1.length,Gh.length];lia
end
end Ev
namespace L2
abbrev Bu(T:List Addr)(H:Hp):Prop:=∀b,(b∈T/\H b=!(.nh ([].toArray)))\/(b∉T/\(H b=none\/∃o xs,H b=!(.cU o (.lst xs))))
def El{P:Program}{w:World}{K:Frag}{mg mb:Str->Option Value}{CX:De}{k:Nat}{fa a:Addr}{fd:FuncData}{x:Str}{sp:Sp}{s₁:Shared}{vs:List Value}{ns: ~~~0}{T:List Addr}
  (KX:K.In s₁.heap) (hT:∀q∈T,(∃c,s₁.heap.TableAt c q ([].toArray))/\K.lookup q=none) (hns:s₁.heap.Ns mainGlobals mg) (hb:s₁.heap.Ns builtinsNs mb) (hbb:∀x:Str,x≠ "__name__" ->mb x=bootBuiltins x) (hlim:s₁.heap.NoLimit) (hg:s₁.gens = ([].toArray))
  (ha:s₁.heap.get? a=some { cls:=.type "list",data:=.seq vs.toArray}) (hi:IntsAre vs ns) (hl:ns.length<=sizeLine) (hr:cB k callerA)
  (F:∀base:Heap,K.In base->base.Ns mainGlobals mg->jK P w K mg base CX k fa fd [x] sp) (hbind:∀(s:Shared) (u:Value),BindsTo s fd #[[u],[]] [(x,u)])
  (Yk:∀H:Hp,Bu T H->cQ K H a (ns.map V.int)->sp [.ref a] H (λv _=>v=.bl true) λ_ _ _=>False)
  (hCX:∀H e s',CX [] H s₁ (λ_ _ _=>False) e s'->False) :
  codeAny (model P w) callerA (.call (.ref fa) #[[.ref a],[]]) (λr s'=>r=.ok (.ret (.bool true))/\OldK s₁.heap s'.heap/\s'.os=s₁.os/\AllBare s'.gens) s₁:=by
 have rv:=lQ hi;have lenV:=hi.length;have aT:a∉T:=λh=>by
  let((c,_,e),_):=hT a h;rw[ha]at e;cases e
 have core:∀H:Hp,Bu T H->cQ K H a (ns.map V.int)->lM P w H s₁.heap->(∀b,H b≠none->b=a\/b∈T)->(H a≠none->K.lookup a=none)->
   codeAny (model P w) callerA (.call (.ref fa) #[[.ref a],[]]) (λr s'=>r=.ok (.ret (.bool true))/\OldK s₁.heap s'.heap/\s'.os=s₁.os/\AllBare s'.gens) s₁:=by
  intro H hO hS hok hA hK;have Bv:∀{b:Addr}{o:Obj},s₁.heap.get? b=!o->H b=none->(tF s₁.heap H).get? b=!o:=λe n=>Gy e n
  have ZD:∀{b:Addr}{o:Obj}{es:Array DictEntry}{ep:Nat},s₁.heap.get? b=!o->o.data=.dict es ep->H b=none:=λ{b o es ep} e d=>by
   cases q:H b with
   |none=>rfl
   |some u=>
    rcases hA b (by rw[q];simp)with e' |e'
    . subst e';rw[ha]at e;cases e;have d':=d;cases d'
    . let((c,_,e2),_):=hT b e';rw[e]at e2;cases e2;have d':=d;cases d'
  have nsK:∀{b:Addr}{m:Str->Option Value},s₁.heap.Ns b m->(tF s₁.heap H).Ns b m:=λ{b m} #[o,es,ep,e,d,r]=>#[o,es,ep,Bv e (ZD e d),d,r]
  have RQ:K.In (tF s₁.heap H):=λb o e=>Bv (KX b o e) (by
   cases q:H b with
   |none=>rfl
   |some u=>
    rcases hA b (by rw[q];simp)with e' |e'
    . subst e';rw[hK (by rw[q];simp)]at e;cases e
    .
     rw[(hT b e').2]at e;cases e)
  have hM:Mod K mg (tF s₁.heap H):=#[RQ,nsK hns,#[mb,nsK hb,hbb],let #[mc,h1,h2]:=hlim;#[mc,nsK h1,h2]]
  have e0:G5 P w K mg (tF s₁.heap H) callerA [] s₁ H:=#[rfl,hM,λb o e=>L8 e,Nat.le_of_eq (CT _ _),trivial,λb hb=>absurd (show b∈([]:List Addr)from hb) ⋯,hok,.of_eq hg]
  apply BF ((F _ RQ (nsK hns)).run callerA [] s₁ H #[[.ref a],[]] [.ref a] [.ref a] _ _ hr e0 (hbind s₁ (.ref a)) (.cons rfl .nil) (Yk H hO hS)) λr s' h=>?_
  cases r with
  |error e=>show (hCX H e s' h).elim
  |ok fl=>
   cases fl with
   |next=>show False.elim h
   |brk=>show False.elim h
   |cont=>show False.elim h
   |ret u=>
    let(v,H',os,bare,un,Oq,r',q):=h;have q':=q;subst q';obtain rfl:u=Value.bool true:=r';have tabs:∀b∈T,∀o,s₁.heap.get? b=!o->∃more,o={ cls:=.none,data:=.fields ([].toArray)}/\s'.heap.get? b=some { cls:=.none,data:=.fields more}:=λb hb o e=>by
     let((c,_,e2),_):=hT b hb;rw[e]at e2;cases e2;rcases hO b with ⟨_,z⟩ |⟨z,_⟩
     . let(more,z2):=un.kD b _ z;show#[_,rfl,Oq b _ z2]
     . show absurd hb z
    have rest:∀b,b∉T->∀o,s₁.heap.get? b=!o->s'.heap.get? b=!o:=λb hb o e=>by
     cases q:H b with
     |none=>show un.keep b o e q (by intro z;show absurd (show b∈([]:List Addr)from z) ⋯) ⋯
     |some u=>
      rcases hO b with ⟨z,_⟩ |⟨_,z⟩
      . show absurd z hb
      .
       rcases z with z |⟨ob,xs,z⟩
       . rw[q]at z;cases z
       . have z2:=un.kB b ob _ z;let(e1,_):=hok b _ z;let(e2,_):=Oq b _ z2;rw[e]at e1;cases e1;show e2
    apply#[rfl,#[λb o e=>?_,λb o e=>?_],os,bare]
    .
     by_cases hb:b∈T
     . let(more,rfl,e2):=tabs b hb o e;let((c,t),_):=hT b hb;show .inr (.inl #[t.isCodeTable,rfl,([].toArray),more,rfl,by rw[e2];simp])
     . show .inl (rest b hb o e)
    .
     by_cases hb:b∈T
     . let(more,rfl,e2):=tabs b hb o e;show#[_,e2]
     . show#[_,rest b hb o e]
 have Jg:∀b∈T,s₁.heap.get? b=some { cls:=.none,data:=.fields ([].toArray)}:=λb hb=>by
  let((c,_,e2),_):=hT b hb;show e2
 cases hk:K.lookup a with
 |some o=>
  have e:=KX a o hk;rw[ha]at e;cases e;apply core (λb=>if b∈T then some (.nh ([].toArray))else none) (λb=>?_) (.inr #[_,vs.toArray,_,hk,rfl,rfl,rfl,by rw[dL,lenV];show hl,by simpa using rv]) (λb u z=>?_) (λb z=>?_) λz=>absurd (i7 aT) z
  .
   by_cases hb:b∈T
   . show .inl #[hb,i8 hb]
   . show .inr #[hb,.inl (i7 hb)]
  .
   by_cases hb:b∈T
   . have z':=(i8 hb).symm.trans z;cases z';show Jg b hb
   . have z':=(i7 hb).symm.trans z;cases z'
  .
   by_cases hb:b∈T
   . show .inr hb
   . show absurd (i7 hb) z
 |none=>
  apply core (λb=>if b∈T then some (.nh ([].toArray))else if b=a then some (.cU { cls:=.type "list",data:=.seq vs.toArray} (.lst (ns.map V.int)))else none) (λb=>?_) (.inl (.inr #[{ cls:=.type "list",data:=.seq vs.toArray},(i7 aT).trans (i8 rfl)])) (λb u z=>?_) (λb z=>?_) λ_=>hk
  .
   by_cases hb:b∈T
   . show .inl #[hb,i8 hb]
   .
    apply .inr #[hb,?_];by_cases hb2:b=a
    . show .inr #[_,_,(i7 hb).trans (i8 hb2)]
    . show .inl ((i7 hb).trans (i7 hb2))
  .
   by_cases hb:b∈T
   . have z':=(i8 hb).symm.trans z;cases z';show Jg b hb
   .
    have z1:=(i7 hb).symm.trans z;by_cases hb2:b=a
    . have z':=(i8 hb2).symm.trans z1;cases z';subst hb2;show#[ha,by rw[eJ];show hl,vs,_,rv,ha]
    . have z':=(i7 hb2).symm.trans z1;cases z'
  .
   by_cases hb:b∈T
   . show .inr hb
   .
    by_cases hb2:b=a
    . show .inl hb2
    . show absurd ((i7 hb).trans (i7 hb2)) z
end L2
namespace Ev
open L2
meta abbrev mh(p:Addr)(o:Obj):HO:=.ext λh=>h.get? p=!o
section
def S.grow(s:S z g Y As M H){q:Addr}{qn:Str}{ps:Array Value}{pos:Pos}{c:Addr}(hq:(q,qn)∈z.T)(hu:∀p∈z.T,p.1=q->p.2=qn)(hp:H q=!(.nh ps))(ht:TriplesOk ps.toList)(hc:H c=!(gZ qn c))
  (ok:TriplesOk (ps ++ ([rawInt pos.line,rawInt pos.col,.ref c].toArray)).toList) (am:∀pos' cv,codeAmong pos' (ps ++ ([rawInt pos.line,rawInt pos.col,.ref c].toArray)).toList=!cv->codeAmong pos' ps.toList=!cv\/cv=.ref c) :
  S z g Y As M (upd H q (.nh (ps ++ ([rawInt pos.line,rawInt pos.col,.ref c].toArray)))) where
 sl:=s.sl.stay (au.write (s.fX _ (s.tm _ hq))) λa ha u e=>by
  rcases s.live a (s.sub a ha)with ⟨o,e2,gr⟩ |e2
  . rw[az (λz=>by rw[z,hp]at e2;cases e2;show gr)];show e
  .
   show absurd e2 (λw=>by
    have:∃xs,H a=!(.lst xs):=by
     have key:∀{g:G}{Y:Sg}{As:List Addr},Slots z.K M H g Y As->∀a∈As,∃xs,H a=!(.lst xs):=λq=>by
      induction q with
      |nil=>intro a h;symm
      |no _ ih=>show ih
      |dat _ _ ih=>show ih
      |own e _ _ ih=>intro a h;rcases dS.mp h with rfl |h;show#[_,e];show ih a h
     show key s.sl a ha
    let(xs,e3):=this;show s.RJ e3 w)
 nd:=s.nd
 sub:=s.sub
 own:=s.own
 live:=λm hm=>by
  rcases s.live m hm with ⟨o,e,gr⟩ |e
  . show .inl #[o,by rw[az (λz=>by rw[z,hp]at e;cases e;show gr)];show e,gr]
  . show .inr e
 keep:=λb u e hb hT=>by
  rw[az (λz=>hT (by rw[z];show fR.mpr #[_,hq,rfl]))];show s.keep b u e hb hT
 fX:=s.fX
 m0:=s.m0
 bm:=s.bm
 gF:=s.gF
 tab:=λp h=>by
  have lam:∀d Yp,H d=!(gZ Yp d)->upd H q (.nh (ps ++ ([rawInt pos.line,rawInt pos.col,.ref c].toArray))) d=!(gZ Yp d):=λd Yp e=>by
   rw[az (λz=>by rw[z,hp]at e;cases e)];show e
  by_cases e:p.1=q
  .
   let(p1,p2):=p;have e1:=e;have e2:=hu _ h e;subst e1;subst e2;apply#[_,aA,ok,λpos' cv ec=>?_]
   rcases am pos' cv ec with ec |rfl
   . let(ps',h1,_,h3):=s.tab _ h;rw[hp]at h1;cases h1;let(d,e1,e2):=h3 pos' cv ec;show#[d,e1,lam d _ e2]
   . show#[c,rfl,lam c _ hc]
  .
   let(ps',h1,h2,h3):=s.tab p h;apply#[ps',by rw[az e];show h1,h2,λpos' cv ec=>?_]
   let(d,e1,e2):=h3 pos' cv ec;show#[d,e1,lam d _ e2]
 tm:=s.tm
 tt:=s.tt
end
def uv(h:TriplesOk l):TriplesOk (l++[.int i a,.int j b,v]):=by
 fun_induction TriplesOk l with
 |case1=>trivial
 |case2 _ _ _ _ _ rest ih=>show ih h
 |case3=>show h.elim
def zm(h:TriplesOk l)(e:codeAmong pos (l++[.int i a,.int j b,v])=!cv):codeAmong pos l=!cv\/cv=v:=by
 fun_induction TriplesOk l with
 |case1=>
  simp only[A5,codeAmong]at e;split at e
  . show .inr (mP e).symm
  . cases e
 |case2 line _ col _ c rest ih=>
  simp only[List.cons_append,codeAmong]at e ⊢
  split at e
  . ext q;rw[i8 q];show .inl e
  . ext q;rw[i7 q];show ih h e
 |case3=>show h.elim
section
def Bw(hok:lM P w H h)(hq:H q=!(.nh ps))(hq':H' q=!(.nh (ps++more)))(k:∀b o,b≠q->h.get? b=!o->h'.get? b=!o)(tq:∃o,h'.get? q=!o)
  (kH:∀b,b<h.objs.size->b≠q->H' b=H b):Un fs [] H H' h h' where
 keep:=λb o e n _ _=>k b o (λz=>by rw[z,hq]at n;cases n) e
 slot:=λb o e n _ _=>#[o.slots,k b o (λz=>by rw[z,hq]at n;cases n) e]
 free:=λb o e n _=>by rw[kH b (eQ e) (λz=>by rw[z,hq]at n;cases n)];show n
 there:=λb o e _=>by
  by_cases hb:b=q
  . subst hb;show tq
  . show#[o,k b o hb e]
 tups:=λb xs e=>by rw[kH b (hok.lt e) (λz=>by rw[z,hq]at e;cases e)];show e
 kB:=λb o u e=>by rw[kH b (hok.lt e) (λz=>by rw[z,hq]at e;cases e)];show e
 kD:=λb ps' e=>by
  by_cases hb:b=q
  . subst hb;rw[hq]at e;cases e;show#[_,hq']
  . rw[kH b (hok.lt e) hb];show#[([].toArray),by rw[e];simp]
end
section
def Jh(e:h.get? p=!o):cW P w H h p (mh p o):=#[e,#[o,e],λ_ _ e k=>k _ e]
def Ot(e:h.CodeRec (.ref c) q):cW P w H h c (gZ q c):=by
 apply#[e,?_,λh1 h2 e k=>?_]
 . let(c',o,vs,t,e1,e2,_):=e;cases e1;show#[o,e2]
 . let(c',o,vs,t,e1,e2,e3):=e;cases e1;show#[c,o,vs,t,rfl,k _ e2,e3]
def Ji(I:L2.Inv X aj Y H s)(hs:S z g Y As M H)(hq:(q,qn)∈z.T)(hu:∀p∈z.T,p.1=q->p.2=qn)(hcode:X.env.code=.ref c)(C:PySem.W.CodeHd X.base c q)(hqn:X.env.qual ++ "<lambda>"=qn)
  (hb:X.base.BuiltinsAt X.mg q) (hqm:mainGlobals≠q) (hdef:defaultsOf params X.env=([],[])) (B:aR X.env.scope scope)
  (h:∀(p c':Addr) (ki:Value) (cl:List (Str×Addr)) (H':Hp) (s':Shared),L2.Inv X aj Y H' s'->S z g Y As M H'->au M H M H'->p∉M->
   H' p=!(mh p (PySem.W.kla_obj "<lambda>" qn params body scope cl ((X.mg "__name__").getD .none) c' ki))->H' c'=!(gZ qn c')->
   (∀x c,cl.lookup x=!c->X.env.cells.lookup x=!c/\(x,NameKind.free)∈scope.names)->(∀y∈scope.names,y.2=.free->∃c,cl.lookup y.1=!c)->(∀b xs,H b=!(.lst xs)->H' b=!(.lst xs))->Q (.ref p) s') :
  wpAny (~~~2) X.A (eval (.Lambda params body scope pos) X.env) Q E s:=by
 apply PySem.W.kla_eval hdef ?_;rw[hqn];let(ps,hp,ht,hcs):=hs.tab _ hq;have hP:=I.hok q _ hp;let(cl,hcl,Lw,VG):=oB λy hy e=>I.ok.has y.1 (by
  rcases B.free y hy e with e |e
  . show .inl e
  .
   show .inr e)
 have qlt:=eQ hP;cases hf:codeAmong pos ps.toList with
 |some cv=>
  let(c',rfl,hc'):=hcs pos cv hf;apply PySem.W.kla_makeFunctionHit hcl I.ok.glob (I.ok.mod.glob.keeps I.bk) hcode (C.keeps I.bk) hP ht hf (hb.keeps I.bk) λki h' tk hk jo=>?_
  have hk2:∀b o,s.heap.get? b=!o->(h'.push (PySem.W.kla_obj "<lambda>" qn params body scope cl ((X.mg "__name__").getD .none) c' ki)).get? b=!o:=λb o e=>b0 _ (hk b o e)
  have fr:=I.hok.fresh jo;have kH:∀b,b<s⁻¹->b≠q->upd H h'.objs.size (mh h'.objs.size (PySem.W.kla_obj "<lambda>" qn params body scope cl ((X.mg "__name__").getD .none) c' ki)) b=H b:=λb hb _=>az (kS (eM hb jo))
  have Yp:=kS (eM qlt jo);apply h _ c' ki cl (upd H h'.objs.size (mh h'.objs.size (PySem.W.kla_obj "<lambda>" qn params body scope cl ((X.mg "__name__").getD .none) c' ki))) _ (I.call' rfl
   (Bw (more:=([].toArray)) I.hok hp (by rw[az Yp,hp];simp) (λb o _ e=>hk2 b o e) #[_,hk2 _ _ hP] kH) (I.hok.laid hk2 jo (Jh (eC _ rfl))) I.bare λb z=>nomatch z) (hs.laid fr) (au.laid fr) (hs.fresh fr) aA ?_ Lw VG λb xs e=>by rw[az (aJ e fr)];show e
  rw[az (λz=>by rw[z,fr]at hc';cases hc')];show hc'
 |none=>
  apply PySem.W.kla_makeFunction hcl I.ok.glob (I.ok.mod.glob.keeps I.bk) hcode (C.keeps I.bk) hP ht hf hqm (hb.keeps I.bk) λc' ki h' tk hx hc1 hc2 hcr hP'=>?_
  have jo:=CH (Nat.lt_of_le_of_lt hc1 hc2);have hk2:∀b o,b≠q->s.heap.get? b=!o->(h'.push (PySem.W.kla_obj "<lambda>" qn params body scope cl ((X.mg "__name__").getD .none) c' ki)).get? b=!o:=λb o ne e=>b0 _ (hx b o ne e)
  have frc:=I.hok.fresh hc1;have frp:=I.hok.fresh jo;have qc:=kS (eM qlt hc1);have qp:=kS (eM qlt jo);have cp:=kS hc2;have s1:=hs.laid (o:=gZ qn c') frc;have e1:upd H c' (gZ qn c') q=!(.nh ps):=by rw[az qc];show hp
  have s2:=s1.grow (pos:=pos) hq hu e1 ht aA (by rw[Array.toList_append];show uv ht) (λpos' cv e=>zm ht (by rw[Array.toList_append]at e;show e))
  have frp2:upd (upd H c' (gZ qn c')) q (.nh (ps ++ ([rawInt pos.line,rawInt pos.col,.ref c'].toArray))) h'.objs.size=none:=by rw[az qp.symm,az cp.symm];show frp
  have s3:=s2.laid (o:=mh h'.objs.size (PySem.W.kla_obj "<lambda>" qn params body scope cl ((X.mg "__name__").getD .none) c' ki)) frp2;have kH:∀b,b<s⁻¹->b≠q->upd (upd (upd H c' (gZ qn c')) q (.nh (ps ++ ([rawInt pos.line,rawInt pos.col,.ref c'].toArray)))) h'.objs.size (mh h'.objs.size (PySem.W.kla_obj "<lambda>" qn params body scope cl ((X.mg "__name__").getD .none) c' ki)) b=H b:=λb hb ne=>by
   rw[az (kS (eM hb jo)),az ne,az (kS (eM hb hc1))]
  have hq3:upd (upd (upd H c' (gZ qn c')) q (.nh (ps ++ ([rawInt pos.line,rawInt pos.col,.ref c'].toArray)))) h'.objs.size (mh h'.objs.size (PySem.W.kla_obj "<lambda>" qn params body scope cl ((X.mg "__name__").getD .none) c' ki)) q=!(.nh (ps ++ ([rawInt pos.line,rawInt pos.col,.ref c'].toArray))):=by rw[az qp];show aA
  have hc3:upd (upd (upd H c' (gZ qn c')) q (.nh (ps ++ ([rawInt pos.line,rawInt pos.col,.ref c'].toArray)))) h'.objs.size (mh h'.objs.size (PySem.W.kla_obj "<lambda>" qn params body scope cl ((X.mg "__name__").getD .none) c' ki)) c'=!(gZ qn c'):=by rw[az cp,az qc.symm];show aA
  have hP2:=b0 (PySem.W.kla_obj "<lambda>" qn params body scope cl ((X.mg "__name__").getD .none) c' ki) hP';have Oq:lM X.prog X.w (upd (upd (upd H c' (gZ qn c')) q (.nh (ps ++ ([rawInt pos.line,rawInt pos.col,.ref c'].toArray)))) h'.objs.size (mh h'.objs.size (PySem.W.kla_obj "<lambda>" qn params body scope cl ((X.mg "__name__").getD .none) c' ki))) (h'.push (PySem.W.kla_obj "<lambda>" qn params body scope cl ((X.mg "__name__").getD .none) c' ki)):=λb u e=>by
   by_cases b1:b=h'.objs.size
   . subst b1;rw[aA]at e;cases e;show Jh (eC _ rfl)
   .
    by_cases b2:b=q
    . subst b2;rw[hq3]at e;cases e;show hP2
    .
     by_cases b3:b=c'
     .
      subst b3;rw[hc3]at e;cases e;show Ot (by
       let(d,o,vs,t,e1,e2,e3):=hcr;show#[d,o,vs,t,e1,b0 _ e2,e3])
     .
      rw[az b1,az b2,az b3]at e;apply (I.hok b u e).stay (λd o hd eo=>hk2 d o (λz=>?_) eo) (λd ed=>?_) λd xs ed=>?_
      .
       rcases hd with hd |hd
       . show b2 (hd▸z)
       . rw[z,hp]at hd;cases hd
      . rw[kH d (I.hok.lt ed) (λz=>by rw[z,hp]at ed;cases ed)];show ed
      . rw[kH d (I.hok.lt ed) (λz=>by rw[z,hp]at ed;cases ed)];show ed
  apply h _ c' ki cl _ _ (I.call' rfl
   (Bw I.hok hp hq3 hk2 #[_,hP2] kH) Oq I.bare λb z=>nomatch z) s3 ?_ (hs.fresh frp) aA hc3 Lw VG λb xs e=>by rw[az (aJ e frp),az (λz=>by rw[z,hp]at e;cases e),az (aJ e frc)];show e
  show ((au.laid frc).trans (au.write (hs.fX _ (hs.tm _ hq)))).trans (au.laid frp2)
end
abbrev wz(X:Cx)(N:List Str)(qual:Str)(scope:Scope)(p:Addr)(cd:Value)(cl:List (Str×Addr))(s:Shared)(H:Hp)(xe:Value->Shared->Prop):Cx where
 prog:=X.prog
 w:=X.w
 K:=X.K
 mg:=X.mg
 base:=X.base
 A:=X.A.deeper (PySem.W.envX qual scope s⁻¹ p cd cl)
 N:=N
 s₀:=s
 H₀:=H
 env:=PySem.W.envX qual scope s⁻¹ p cd cl
 outer:=X.stack
 stack:=PySem.W.envX qual scope s⁻¹ p cd cl::X.stack
 ex:=[]
 calm:=true
 fn:=λ_=>false
 pn:=[]
 xe:=xe
structure uw(N:List Str)(Y:Sg)(scope:Scope)(cl:List (Str×Addr))(H:Hp)(h:Heap):Prop where
 inj:∀x y c,cl.lookup x=!c->cl.lookup y=!c->x=y
 has:∀x,scope.names.lookup x=some .cell\/scope.names.lookup x=some .free->∃c,cl.lookup x=!c
 cell:∀x c,cl.lookup x=!c->H c=none/\∃v,h.IsCell c v
 loc:∀(i:Nat) (x:Str) (v:V),N[i]?=!x->Y[i]?=!(!v)->kj scope x->scope.names.lookup x=some .free/\∃u c,RelV v u/\cl.lookup x=!c/\h.IsCell c (!u)
 len:Y.length=N.length
section
def Ou(I:L2.Inv X aj Y H s)(hc:X.calm=true)(hk:scope.kind=.function)(C:uw N σ0 scope cl H s.heap)(hk₁:∀b o,s.heap.get? b=!o->h₁.get? b=!o)(hns:h₁.Ns s⁻¹ m) :
  L2.Inv (wz X N qual scope p cd cl s H xe) [] σ0 H { s with heap:=h₁,toks:=tk}:=by
 have e0:=I.Ms;apply#[#[e0.mod,hk,rfl,rfl,eD _,C.inj,C.has,(λ_ _ h=>nomatch h),λ_=>I.ok.hd hc,Around.frames_deeper e0.frames,.inr #[rfl,rfl],(λb z=>nomatch z),e0.bs,e0.Gz,(λ_ _ _ z=>nomatch z),(λb z=>nomatch z),e0.kF,e0.Mf],
  rfl,e0.bare,Un.kept hk₁,#[m,hns,λi x v h1 h2 h3=>?_],λx c e=>?_,e0.hok.fresh (eD _),λx c e=>(C.cell x c e).1,(λp hp=>nomatch hp),e0.hok.kept hk₁,C.len]
 . let(f,u,c,r,e1,e2):=C.loc i x v h1 h2 h3;show#[u,r,.inr #[.inr f,c,e1,e2.keeps hk₁]]
 . let(v,q):=(C.cell x c e).2;show#[v,q.keeps hk₁]
def Jj{z:Z}{g g':G}{As M:List Addr}{body:Expr}{params:Arguments}{pm ki:Value}{c' C:Addr}{R:Result->Shared->Prop}(I:L2.Inv X aj Y H s)(hc:X.calm=true)(hroom:X.A.depth<recursionLimit)
  (hp:s.heap.get? p=!(PySem.W.kla_obj "<lambda>" qual params body scope cl pm c' ki)) (hcr:s.heap.CodeRec (.ref c') qual) (hpar:bindArgs (PySem.W.kla_fn "<lambda>" qual params body scope cl pm (.ref c') ki) #[[],[]]=pure [])
  (hco:scope.isCoroutine=false) (hgen:scope.isGenerator=false) (hk:scope.kind=.function) (hnc:∀x∈scope.names,x.2≠.cell) (Cl:uw N σ0 scope cl H s.heap) (hS:S z g σ0 As M H)
  (hb:∀xe,PassesOwn (~~~2) (X.A.deeper (PySem.W.envX qual scope s⁻¹ p (.ref c') cl)) (PySem.W.envX qual scope s⁻¹ p (.ref c') cl) xe->Gk (wz X N qual scope p (.ref c') cl s H xe) z body g C g')
  (hR:∀x H1 aL M1 s'',Gj X.prog X.w X.stack H s (λc o h=>c=.ref C/\o=none/\h=H1) (.ref x) s''->S z g' σ0 aL M1 H1->au M H M1 H1->R (.error (.ref x)) s'') :
  codeAny (~~~2) X.A (.call (.ref p) #[[],[]]) R s:=by
 apply PySem.W.kla_callFunE hroom hp rfl hco hgen rfl hcr ?_;rw[hpar];apply dC (wpAny_newFunctionEnv hnc (λy hy=>nomatch hy) (λh₁ hns hsb=>#[(I.nolimit).fresh _ hsb,?_]) hk)
 have hk₁:∀b o,s.heap.get? b=!o->h₁.get? b=!o:=λb o e=>hsb.extBut b o (kS (eQ e)) (b0 _ e)
 apply PySem.W.kla_codeExpr ?_;let(t,q,k):=hb (λe' s'=>wpAny (~~~2) (X.A.deeper (PySem.W.envX qual scope s⁻¹ p (.ref c') cl)) (leaving (PySem.W.envX qual scope s⁻¹ p (.ref c') cl) e') (λ_ s''=>R (.error e') s'') (λe'' s''=>R (.error e'') s'') s') PassesOwn.leaving
 have J:=Ou (qual:=qual) (p:=p) (cd:=.ref c') (σ0:=σ0) (tk:=s.toks+([]:List (Str×Value)).length) (xe:=λe' s'=>wpAny (~~~2) (X.A.deeper (PySem.W.envX qual scope s⁻¹ p (.ref c') cl)) (leaving (PySem.W.envX qual scope s⁻¹ p (.ref c') cl) e') (λ_ s''=>R (.error e') s'') (λe'' s''=>R (.error e'') s'') s') I hc hk Cl hk₁ hns
 apply kA (q [] _ σ0 H (λ_ _=>False) J (k σ0 As M H _ hS λpins1 s1 H1 aL M1 x I1 S1 st fl=>?_)) (λv s' h=>?_) λ_ _ h=>h
 . show r9 I1 rfl rfl rfl fl λs'' cx=>hR x H1 aL M1 s'' cx S1 st
 . let(_,_,_,_,h):=h;show h.elim
end
section
def Inv.cnl(I:L2.Inv X [] Y H s):∀y c,X.env.cells.lookup y=!c->c≠X.env.locals:=λy c e q=>by
 let(v,o,h1,h2):=I.cell y c e;let(m,(o',es,ep,h3,h4,_),_):=I.loc;rw[q,h3]at h1;cases h1;rw[h4]at h2;cases h2
def Inv.touch(I:L2.Inv X [] Y H s)(hp:X.pn=[])(hT:X.s₀.heap.get? T=none)(hH:H T=none)(hf:∃o vs,s.heap.get? T=!o/\o.data=.fields vs)(k:∀b o,b≠T->s.heap.get? b=!o->h'.get? b=!o)(kT:∃o,h'.get? T=!o) :
  L2.Inv X [] Y H { s with heap:=h'}:=by
 let(oT,ts,eT,dT):=hf;have Ov:∀b o,X.s₀.heap.get? b=!o->b≠T:=λb o e q=>by rw[q,hT]at e;cases e
 have neD:∀b o,s.heap.get? b=!o->(∀vs,o.data≠.fields vs)->b≠T:=λb o e d q=>by rw[q,eT]at e;cases e;show d _ dT
 have cellK:∀c v,s.heap.IsCell c v->h'.IsCell c v:=by rintro c v ⟨o,e,d⟩;show#[o,k c o (neD c o e λvs q=>by rw[d]at q;cases q) e,d]
 let(m,(o,es,ep,e,d,r),hlk):=I.loc;apply#[I.ok,I.os,I.bare,#[λb o e n hb hx=>?_,λb o e n hb hx=>?_,I.base.free,λb o e hx=>?_,I.base.tups,I.base.kB,I.base.kD],#[m,#[o,es,ep,k _ _ (neD _ _ e λvs q=>by rw[d]at q;cases q) e,d,r],λi y v h1 h2 h3=>?_],λy c e=>?_,I.free,I.dP,λp hp2=>?_,λb u e=>?_,I.len]
 . show k b o (Ov b o e) (I.base.keep b o e n hb hx)
 . let(sl,e1):=I.base.slot b o e n hb hx;show#[sl,k b _ (Ov b o e) e1]
 . let(o',e1):=I.base.there b o e hx;show#[o',k b _ (Ov b o e) e1]
 . let(u,r,q):=hlk i y v h1 h2 h3;show#[u,r,q.imp id (by rintro⟨q1,c,q2,q3⟩;show#[q1,c,q2,cellK c _ q3])]
 . let(v,q):=I.cell y c e;show#[v,cellK c v q]
 . rw[hp]at hp2;cases hp2
 .
  apply (I.hok b u e).stay (λc w hc q=>k c w (λz=>?_) q) (λ_ q=>q) λ_ _ q=>q
  subst z;rcases hc with rfl |hc
  . rw[hH]at e;cases e
  . rw[hH]at hc;cases hc
def wA(I:L2.Inv X [] Y H s)(hp:X.pn=[])(fl:vh X.s₀.heap x C H s.heap)(h:∀s',L2.Inv X [] Y H s'->vh X.s₀.heap x C H s'.heap->Q () s') :
  wpAny M A (setFlight (.ref x) none) Q E s:=by
 let((oe,vs,he,hc,cP,hd,jo,hT),N5,RP):=id fl;rcases hT with hT |⟨T,oT,ts,h1,Vr,hTn,hTH,Lr,Ls,h3⟩
 . apply aS (o6 he hd hT ?_);show dC (h s I fl)
 .
  apply aS (o6 he hd h1 ?_);apply AD Lr Ls (tP.mp h3).1 ?_;have other:∀b,b≠T->(s.heap.update T (Obj.mapFields (·.setIfInBounds 3 Value.none))).get? b=s.heap.get? b:=λb hb=>i5 _ _ (n0 hb)
  have hTd':=pE Ls (·.setIfInBounds 3 Value.none);have NQ:=mB (Obj.mapFields (·.setIfInBounds 3 Value.none)) Lr (v6 hTd');apply h _ (Inv.touch I hp hTn hTH #[oT,ts,Lr,Ls] (λb o hb e=>(other b hb).trans e) #[_,NQ]) #[#[oe,vs,(other x (n0 Vr)).trans he,hc,cP,hd,jo,.inr #[T,_,_,h1,Vr,hTn,hTH,NQ,hTd',?_]],N5,RP]
  have:=(tP.mp h3).1;simp[this]
def Inv.VH(I:L2.Inv X [] Y H s)(hp:X.pn=[])(fl:vh X.s₀.heap x C H s.heap):L2.Inv X [] Y (upd H x (yR C x)) s:=by
 let((oe,vs,he,hc,cP,hd,jo,hT),N5,RP):=id fl;have Ov:∀b o,X.s₀.heap.get? b=!o->b≠x:=λb o e q=>by rw[q,N5]at e;cases e
 have neD:∀b o,s.heap.get? b=!o->(∀vs,o.data≠.fields vs)->b≠x:=λb o e d q=>by rw[q,he]at e;cases e;show d _ hd
 have neH:∀b u,H b=!u->b≠x:=λb u e q=>by rw[q,RP]at e;cases e
 apply#[I.ok,I.os,I.bare,#[I.base.keep,I.base.slot,λb o e n hx=>?_,I.base.there,λb xs e=>?_,λb o u e=>?_,λb ps e=>?_],I.loc,I.cell,?_,λy c e=>?_,λp hp2=>?_,λb u e=>?_,I.len]
 . rw[az (Ov b o e)];show I.base.free b o e n hx
 . have:=I.base.tups b xs e;rw[az (neH _ _ this)];show this
 . have:=I.base.kB b o u e;rw[az (neH _ _ this)];show this
 . let(more,this):=I.base.kD b ps e;show#[more,by rw[az (neH _ _ this)];show this]
 . let(m,(o,es,ep,e,d,_),_):=I.loc;rw[az (neD _ _ e λvs q=>by rw[d]at q;cases q)];show I.free
 . let(v,o,e1,d):=I.cell y c e;rw[az (neD _ _ e1 λvs q=>by rw[d]at q;cases q)];show I.dP y c e
 . rw[hp]at hp2;cases hp2
 .
  by_cases hb:b=x
  .
   subst hb;rw[aA]at e;cases e;apply#[#[oe,he,hc,?_,cP],#[oe,he],by rintro h1 h2 ⟨o,q,r⟩ k;show#[o,k o q,r]]
   delta PySem.W.notCls;rw[hd]
  . rw[az hb]at e;show (I.hok b u e).stay (λ_ _ _ q=>q) (λc q=>by rw[az (neH _ _ q)];show q) λc xs q=>by rw[az (neH _ _ q)];show q
meta abbrev Cx.marked(X:Cx)(e:Value)(E:Value->Shared->Prop):Cx:={ X with A:=X.A.mark (!e),calm:=false,xe:=E}
def Inv.marked(I:L2.Inv X aj Y H s)(e:Value)(E:Value->Shared->Prop):L2.Inv (Cx.marked X e E) aj Y H s:=
 #[#[I.ok.mod,I.ok.kind,I.ok.glob,I.ok.blt,I.ok.above,I.ok.inj,I.ok.has,I.ok.Tc,(λh=>nomatch h),I.ok.frames,I.ok.stk,I.ok.Yh,I.ok.bs,I.ok.Gz,I.ok.vn,I.ok.yz,I.ok.kF,I.ok.Mf],I.os,I.bare,I.base,I.loc,I.cell,I.free,I.dP,I.pin,I.hok,I.len]
def Inv.unmarked(ok:X.Ok)(I:L2.Inv (Cx.marked X e E) aj Y H s):L2.Inv X aj Y H s:=
 #[ok,I.os,I.bare,I.base,I.loc,I.cell,I.free,I.dP,I.pin,I.hok,I.len]
def Inv.gone(I:L2.Inv X [] Y H s)(hp:X.pn=[])(hN:X.N.Nodup)(hi:X.N[i]?=!n)(hlk:∀(j:Nat) (y:Str) (v:V),X.N[j]?=!y->Y[j]?=!(!v)->kj X.env.scope y->∃u,RelV v u/\Look X.env s.heap m y u)
  {h':Heap}{w:Option Value}{tk:Nat} (hn':h'.Ns X.env.locals (λy=>if y=n then w else m y)) (hs:Heap.SameBut X.env.locals s.heap h'):L2.Inv X [] (Y.set i none) H { s with heap:=h',toks:=tk}:=by
 have Ov:∀b o,X.s₀.heap.get? b=!o->b≠X.env.locals:=λb o e=>kS (eM (eQ e) I.ok.above)
 apply#[I.ok,I.os,I.bare,#[λb o e n hb hx=>?_,λb o e n hb hx=>?_,I.base.free,λb o e hx=>?_,I.base.tups,I.base.kB,I.base.kD],#[_,hn',λj y v h1 h2 h3=>?_],λy c e=>?_,I.free,I.dP,λp hp2=>?_,λb u e=>?_,by rw[wT];show I.len]
 . show (hs.2 b (Ov b o e)).trans (I.base.keep b o e n hb hx)
 . let(sl,e1):=I.base.slot b o e n hb hx;show#[sl,(hs.2 b (Ov b o e)).trans e1]
 . let(o',e1):=I.base.there b o e hx;show#[o',(hs.2 b (Ov b o e)).trans e1]
 .
  by_cases hj:j=i
  .
   subst hj;have hl:j<Y.length:=by rw[I.len];show (dE.mp h1).1
   rw[hV hl]at h2;cases h2
  .
   rw[fI (n0 hj)]at h2;let(u,r,q):=hlk j y v h1 h2 h3;apply#[u,r,?_];have hyn:y≠n:=λq=>hj (n5 hN h1 (q▸hi))
   rcases q with ⟨k,e⟩ |⟨k,c,e,z⟩
   . show .inl #[k,by exact (if y=n then w else m y)=!u;rw[i7 hyn];show e]
   . show .inr #[k,c,e,z.sameBut hs (Inv.cnl I y c e)]
 . let(v,q):=I.cell y c e;show#[v,q.sameBut hs (Inv.cnl I y c e)]
 . rw[hp]at hp2;cases hp2
 .
  apply (I.hok b u e).stay (λc w hc q=>(hs.2 c (λz=>?_)).trans q) (λ_ q=>q) λ_ _ q=>q
  subst z;rcases hc with hc |hc
  . rw[<- hc,I.free]at e;cases e
  . rw[I.free]at hc;cases hc
end
end Ev
namespace PySem
section
def jv{h:Heap}{g:Array GenState}{d:Drawn}{t:Nat}{os:OsState}{e:Addr}{oe:Obj}{Q:Bool->Shared->Prop}
  (hC:h.get? C=!(excClassObj nm q C N bs bm hdct sn sub ab col dd k0 k1 k2 k3 k5 newId)) (hD:h.get? D=!(excClassObj nm' q' D N' bs' bm' hdct' sn' sub' ab' col' dd' k0' k1' k2' k3' k5' newId'))
  (he:h.get? e=!oe) (hcls:oe.cls=.ref C) (hbase:bm'.contains (.type "BaseException")=true) (hup:(Value.ref C::bm).contains (.ref D)=true)
  (hq:Q true #[h,g,d,t,os]):wpAny M A (excMatches (.ref e) (.ref D)) Q E #[h,g,d,t,os]:=by
 have hcB:(Value.ref D::bm').contains (.type "BaseException")=true:=by rw[List.contains_cons,hbase,Bool.or_true]
 have f:=tc_notTuple
 repeat (first | (with_reducible apply wpAny_loadPart_at he ?_;rw[hcls]) |with_reducible apply wpAny_loadPart_at hD ?_ | (with_reducible apply wpAny_isSubtype_exc hD ?_;rw[hcB]) | (with_reducible apply wpAny_isSubtype_exc hC ?_;rw[hup]) |wp_step)
 show hq
end
end PySem
namespace Ev
open L2
abbrev ux(K:Frag)(C D:Addr):Bool:=match K.lookup C with
 |!#[_,_,.cls cd,_]=>cd.mro.contains (.ref D)
 |_=>false
def zo{M:Model}{A:Around}{E:Value->Shared->Prop}{K:Frag}{h:Heap}{g:Array GenState}{d:Drawn}{t:Nat}{os:OsState}{e C D:Addr}{oe:Obj}{Q:Bool->Shared->Prop}(yy:K.In h)(qC:fy K C)(qD:fy K D)(up:ux K C D=true)
  (he:h.get? e=!oe) (hc:oe.cls=.ref C) (hq:Q true #[h,g,d,t,os]):wpAny M A (excMatches (.ref e) (.ref D)) Q E #[h,g,d,t,os]:=by
 let(bm,N,nm,qn,bs,hdct,sn,sub,ab,col,dd,k0,k1,k2,k3,k5,mN,hC,_,_,TC):=uo yy qC;have hup:(Value.ref C::bm).contains (.ref D)=true:=by
  delta ux at up;split at up
  . ext cd _ ho;have:=(yy _ _ ho).symm.trans hC;cases this;show up
  . cases up
 let(bm',N',nm',Yp,bs',hdct',sn',sub',ab',col',dd',k0',k1',k2',k3',k5',mN',hD,_,_,TD):=uo yy qD;show jv hC hD he hc (TD.hasType ⋯) hup hq
section
variable{x C D:Addr}
def Em(I:L2.Inv X [] Y H s)(hp:X.pn=[])(cH:X.stack=X.env::X.outer)(hf:X.env.frame=!X.env.locals)(hex:X.ex=[])(fl:vh X.s₀.heap x C H s.heap)(hN:X.N.Nodup)
  (hg:Gl X ke) (hm:X.mg ke=!(.ref D)) (ku:(ke==(~~~3))=false) (qC:fy X.K C) (qD:fy X.K D) (up:ux X.K C D=true)
  (hie:X.N[ie]?=!en) (len:X.env.scope.names.lookup en=some .local) (den:(en==(~~~3))=false) (cen:(en==("__classdict__":Str))=false)
  (hir:X.N[ir]?=!er) (ler:Loc X.env.scope er) (fer:X.fn er=true\/X.env.scope.names.lookup er=some .local) (hsw:swapsWith (.Name en wB) (!(.Name er wC)) cZ.line X.env=pure false)
  (h:∀s',L2.Inv X [] (((Y.set ie (!(.ref x))).set ir (!(.ref x))).set ie none) (upd H x (yR C x)) s'->Q .next s') :
  wpAny (~~~2) X.A (noteFrame (.ref x) X.env) (λ_ s2=>wpAny (~~~2) X.A (setFlight (.ref x) none) (λ_ s3=>wpAny (~~~2) X.A (handleBy (.ref x) X.env [.ExceptHandler (!(.Name ke kp)) (!en) [.Assign [.Name er wC] (.Name en wB) cZ] nF]) Q E s3) E s2) E s:=by
 apply Ea I hp cH hf hex fl λs2 I2 fl2=>?_
 apply wpAny_handleBy_cons (codeAny_handlers_test ?_) (by intro q;cases q)
 apply gH (X:=Cx.marked X (.ref x) E) (Inv.marked I2 _ _) hg hm ?_ ku;let((oe,vs,he,hc,_),_):=id fl2;let(hh,gg,dr,tt,oo):=s2;apply zo I2.nZ qC qD up he hc ?_;apply codeAny_handlers_suite_as ?_;apply wA I2 hp fl2 λs3 I3 Gm=>?_
 have I4:=Inv.VH I3 hp Gm;apply kG I4 hN hie (.inl len) (v:=.ref x) rfl (λs5 I5=>?_) (.inr len)
 have hl:ie<Y.length:=by rw[I.len];show (dE.mp hie).1
 apply kA (((Ao (tN (X:=Cx.marked X (.ref x) (λ_ _=>False)) hN hir ler (dB hie (.inl len) den cen) hsw fer)) [] s5 _ _ { nx:=λσ' H'=>σ'=(Y.set ie (!(.ref x))).set ir (!(.ref x))/\H'=upd H x (yR C x),rt:=λ_ _=>False} (Inv.marked I5 _ _) #[.ref x,hV hl,rfl,rfl])) (λf s6 q=>?_) λ_ _ z=>False.elim z
 cases f with
 |next=>
  let(σ',H',I6,rfl,rfl):=q;have I7:=Inv.unmarked I.ok I6;let(m,hn,hlk):=id I7.loc;apply wpAny_nameGoes_keeps len hn (by rw[I.ok.kind];rfl) λh' w hn' hs=>?_
  show h _ (Inv.gone I7 hp hN hie hlk hn' hs)
 |ret v=>let(_,_,_,_,_,q):=q;show q.elim
 |brk=>let(_,_,_,q):=q;show q.elim
 |cont=>let(_,_,_,q):=q;show q.elim
end
meta abbrev zN(z:Z)(M:List Addr)(H:Hp):Z:=#[z.K,H,M,[],z.T]
abbrev noOwn:Slot->Slot
 |.own _=>.no
 |s=>s
section
variable{g g':G}
def Slots.noOwn{K:Frag}(q:Slots K M H g Y As):Slots K M H (g.map Ev.noOwn) Y []:=by
 induction q with
 |nil=>show .nil
 |no _ ih=>show .no ih
 |dat r _ ih=>show .dat r ih
 |own _ _ _ ih=>show .no ih
def Slots.nos'{K:Frag}(Y:Sg):Slots K M H (List.replicate Y.length .no) Y []:=by
 induction Y with
 |nil=>show .nil
 |cons v Y ih=>show .no ih
def En{i:Nat}{l:List D}(h:(g.map Ev.noOwn)[i]?=!(.own l)):False:=by
 rw[mI]at h;cases e:g[i]? with
 |none=>rw[e]at h;symm
 |some u=>rw[e]at h;cases u <;> symm
def S.into(s:S z g Y As M H)(sl:Slots z.K M H gn σn [])(hn:∀(i:Nat) (l:List D),gn[i]?≠!(.own l)):S (zN z M H) gn σn [] M H where
 sl:=sl
 nd:=t8
 sub:=λa h=>nomatch h
 own:=λi a l e _=>absurd e (hn i l)
 live:=s.live
 keep:=λb o e _ _=>e
 fX:=λ_ h=>h
 m0:=λm hm=>by
  rcases s.live m hm with ⟨o,e,_⟩ |e
  . intro q;rw[show H m=none from q]at e;cases e
  . let(q,hq,rfl):=fR.mp e;let(ps,h1,_):=s.tab q hq;intro z;rw[show H q.1=none from z]at h1;cases h1
 bm:=λb h=>nomatch h
 gF:=λp h=>nomatch h
 tab:=s.tab
 tm:=λp h=>s.fX _ (s.tm p h)
 tt:=s.tt
def S.after(s:S z g Y As M H)(hA:As=[])(s1:S (zN z M H) g' σ0 aL M1 H1)(st:au M H M1 H1):S z g Y As M1 H1 where
 sl:=s.sl.stay st (λa h=>by rw[hA]at h;symm)
 nd:=s.nd
 sub:=λa h=>by rw[hA]at h;symm
 own:=s.own
 live:=s1.live
 keep:=λb o e hb ht=>s1.keep b o (s.keep b o e hb ht) (λh=>nomatch h) ht
 fX:=λm hm=>s1.fX m (s.fX m hm)
 m0:=s.m0
 bm:=s.bm
 gF:=s.gF
 tab:=s1.tab
 tm:=s.tm
 tt:=s.tt
def Slots.jB{K:Frag}{i:Nat}{v:Option V}(q:Slots K M H g Y As)(e:g[i]?=some .no):Slots K M H g (Y.set i v) As:=by
 induction q generalizing i with
 |nil=>show .nil
 |no q ih=>cases i with
  |zero=>show .no q
  |succ i=>show .no (ih e)
 |dat r q ih=>cases i with
  |zero=>cases e
  |succ i=>show .dat r (ih e)
 |own a b q ih=>cases i with
  |zero=>cases e
  |succ i=>show .own a b (ih e)
def S.jB(s:S z g Y As M H)(e:g[i]?=some .no):S z g (Y.set i v) As M H where
 sl:=s.sl.jB e
 nd:=s.nd
 sub:=s.sub
 own:=λj a l e1 e2=>s.own j a l e1 (by
  rw[fI (λq=>by rw[<- q,e]at e1;cases e1)]at e2;show e2)
 live:=s.live
 keep:=s.keep
 fX:=s.fX
 m0:=s.m0
 bm:=s.bm
 gF:=λp hp=>by
  let(h1,l,h2):=s.gF p hp;show#[by rw[fI (λq=>by rw[<- q,e]at h2;cases h2)];show h1,l,h2]
 tab:=s.tab
 tm:=s.tm
 tt:=s.tt
end
def Ow(I:L2.Inv X aj Y H s)(B:aR X.env.scope scope)(nl:∀y∈scope.names,y.2≠.local)
  (Lw:∀x c,cl.lookup x=!c->X.env.cells.lookup x=!c/\(x,NameKind.free)∈scope.names) (VG:∀y∈scope.names,y.2=.free->∃c,cl.lookup y.1=!c):uw X.N Y scope cl H s.heap where
 inj:=λx y c h1 h2=>I.ok.inj x y c (Lw x c h1).1 (Lw y c h2).1
 has:=λx h=>by
  rcases h with h |h
  . show absurd rfl (B.tZ _ (L2.mem_of_lookup h))
  . show VG _ (L2.mem_of_lookup h) rfl
 cell:=λx c h=>#[I.dP x c (Lw x c h).1,I.cell x c (Lw x c h).1]
 loc:=λi x v h1 h2 h3=>by
  have hf:scope.names.lookup x=some .free:=by
   rcases h3 with h3 |h3 |h3
   . show absurd rfl (nl _ (L2.mem_of_lookup h3))
   . show absurd rfl (B.tZ _ (L2.mem_of_lookup h3))
   . show h3
  have hv:=B.free _ (L2.mem_of_lookup hf) rfl;let(m,_,hlk):=I.loc;let(u,r,q):=hlk i x v h1 h2 (.inr hv);let(c2,e2):=VG _ (L2.mem_of_lookup hf) rfl;rcases q with ⟨k,_⟩ |⟨_,c,e,z⟩
  . have k:X.env.scope.names.lookup x=some .local:=k;rcases hv with hv |hv <;> (have hv:=hv;rw[k]at hv;cases hv)
  . have:=(Lw _ _ e2).1;rw[e]at this;cases this;show#[hf,u,c2,r,e2,z]
 len:=I.len
def uw.un(c:uw N Y scope cl H h)(u:Un fs [] H H' h h'):uw N Y scope cl H' h':=by
 have key:∀x a v,cl.lookup x=!a->h.IsCell a v->h'.IsCell a v:=by rintro x a v e ⟨o,e1,d⟩;let(sl,e2):=u.any e1 (c.cell x a e).1 ⋯;show#[_,e2,d]
 apply#[c.inj,c.has,λx a e=>?_,λi x v h1 h2 h3=>?_,c.len]
 . let(hn,v,o,e1,d):=c.cell x a e;show#[u.free a o e1 hn ⋯,v,key x a v e #[o,e1,d]]
 . let(f,w,a,r,e,z):=c.loc i x v h1 h2 h3;show#[f,w,a,r,e,key x a _ e z]
section
variable{C D p c':Addr}
 {N:List Str}{qn:Str}{scope:Scope}{cl:List (Str×Addr)}{body:Expr}{params:Arguments}{pm ki:Value}{g0 Lx:G}
meta abbrev Jk (y ke en er:Str) (py cA qK kp wC wB cZ nF iY:Pos):Stmt:=.Try [.Expr (.Call (.Name y py) [] [] cA) qK] [.ExceptHandler (!(.Name ke kp)) (!en) [.Assign [.Name er wC] (.Name en wB) cZ] nF] [] [] iY
structure RT(X:Cx)(C D:Addr)(y ke en er:Str)(iy ie ir:Nat):Prop where
 pn:X.pn=[]
 st:X.stack=X.env::X.outer
 fr:X.env.frame=!X.env.locals
 ex:X.ex=[]
 calm:X.calm=true
 nd:X.N.Nodup
 gk:Gl X ke
 mg:X.mg ke=!(.ref D)
 dk:(ke==(~~~3))=false
 qC:fy X.K C
 qD:fy X.K D
 up:ux X.K C D=true
 kC:Lq X.K C
 ie:X.N[ie]?=!en
 le:X.env.scope.names.lookup en=some .local
 de:(en==(~~~3))=false
 ce:(en==("__classdict__":Str))=false
 ir:X.N[ir]?=!er
 lr:Loc X.env.scope er
 fn:X.fn er=true\/X.env.scope.names.lookup er=some .local
 iy:X.N[iy]?=!y
 vy:kj X.env.scope y
 dy:(y==(~~~3))=false
 cy:(y==("__classdict__":Str))=false
 room:X.A.depth<recursionLimit
structure pC(params:Arguments)(scope:Scope):Prop where
 co:scope.isCoroutine=false
 gen:scope.isGenerator=false
 kind:scope.kind=.function
 nc:∀x∈scope.names,x.2≠.cell
 nl:∀x∈scope.names,x.2≠.local
 par:params=#[[],[],none,[],[],none,[]]
def pC.bind(h:pC params scope):bindArgs (PySem.W.kla_fn "<lambda>" qn params body scope cl pm (.ref c') ki) #[[],[]]=pure []:=by rw[h.par];rfl
def VJ{aj: ~~~1}{i:Nat}{x:Str}{v:V}{pos:Pos}{E:Value->Shared->Prop}{Q:Value->Shared->Prop}(I:L2.Inv X aj Y H s)(hN:X.N[i]?=!x)(hv:kj X.env.scope x)(hd:(x==(~~~3))=false)(cP:(x==("__classdict__":Str))=false)(e:Y[i]?=!(!v))(h:∀u,RelV v u->Q u s) :
  wpAny (~~~2) X.A (eval (.Name x pos) X.env) Q E s:=by
 let(m,hn,hl):=I.loc;let(u,r,l):=hl i x v hN e hv;have fin:=h u r;rcases l with ⟨hk,hm⟩ |⟨hk,c,hc,hcell⟩
 . show DE (wpAny_loadName_local I.ok.kind hk hn hm fin) hd
 .
  rcases hk with hk |hk
  . show DE (wpAny_loadName_cell I.ok.kind hk hc hcell fin) hd
  . show DE (wpAny_loadName_free I.ok.kind hk hc hcell fin cP) hd
def Ox(T:RT X C D y ke en er iy ie ir)(L:pC params scope)(I:L2.Inv X [] Y H s)(hS:S zf gf Y [] M H)(hK:zf.K=X.K)(hsw:swapsWith (.Name en wB) (!(.Name er wC)) cZ.line X.env=pure false)(hsx:swapsWith (.Call (.Name y py) [] [] cA) none qK.line X.env=pure false)
  (hy:Y[iy]?=!(!(.ref p))) (iZ:gf[ie]?=some .no) (hbr:ir∉zf.bor) (hnr:ie≠ir)
  (hp:H p=!(mh p (PySem.W.kla_obj "<lambda>" qn params body scope cl pm c' ki))) (hc':H c'=!(gZ qn c')) (Cl:uw N σ0 scope cl H s.heap) (hs0:Slots zf.K M H g0 σ0 []) (hn0:∀(i:Nat) (l:List Ev.D),g0[i]?≠!(.own l))
  (hb:∀xe,PassesOwn (~~~2) (X.A.deeper (PySem.W.envX qn scope s⁻¹ p (.ref c') cl)) (PySem.W.envX qn scope s⁻¹ p (.ref c') cl) xe->Gk (wz X N qn scope p (.ref c') cl s H xe) (zN zf M H) body g0 C Lx)
  (h:∀s' σ' H' M' aC,L2.Inv X [] σ' H' s'->S zf (gf.set ir (.dat (.nj C))) σ' aC M' H'->au M H M' H'->Q .next s') :
  wpAny (~~~2) X.A (exec (Jk y ke en er py cA qK kp wC wB cZ nF iY) X.env) Q X.xe s:=by
 apply wpAny_Try_except (BD (kA (wpAny_Expr_any ?_ I.quiet hsx) (λ_ _ z=>False.elim z) λ_ _ z=>z))
 have hpo:=(I.hok p _ hp).1;have hcr:=(I.hok c' _ hc').1;apply AA (VJ I T.iy T.vy T.dy T.cy hy λu r=>?_)
 cases r;apply PySem.W.callWith_F0 #[_,_,_,_,hpo] (DF (BF (Jj (R:=λr s'=>∃x H1 aL M1,r=.error (.ref x)/\Gj X.prog X.w X.stack H s (λc o h=>c=.ref C/\o=none/\h=H1) (.ref x) s'/\S (zN zf M H) Lx σ0 aL M1 H1/\au M H M1 H1) I T.calm T.room hpo hcr L.bind L.co L.gen L.kind L.nc Cl (S.into hS hs0 hn0) hb
  λx H1 aL M1 s'' cx S1 st=>#[x,H1,aL,M1,rfl,cx,S1,st]) ?_))
 rintro r s1 ⟨x,H1,aL,M1,e,cx,S1,st⟩;subst e;let(x',C',H',e,I1,fl,e1,_,e3):=Ie T.ex I cx;cases e;cases e1;subst e3;apply Em I1 T.pn T.st T.fr T.ex fl T.nd T.gk T.mg T.dk T.qC T.qD T.up T.ie T.le T.de T.ce T.ir T.lr T.fn hsw λs' I'=>?_
 have s2:=S.after hS rfl S1 st;have s3:=s2.laid (o:=yR C x) fl.no;have s4:S zf gf (Y.set ie (!(.ref x))) [] M1 (upd H' x (yR C x)):=s3.jB iZ;let(qU,s5):=s4.iC (d:=.nj C) (v:=.ref x) hbr (hK▸.nj T.kC (s2.fresh fl.no) aA);have s6:S zf (gf.set ir (.dat (.nj C))) (((Y.set ie (!(.ref x))).set ir (!(.ref x))).set ie none) qU M1 (upd H' x (yR C x)):=s5.jB (by rw[fI (n0 hnr)];show iZ)
 show h s' _ _ M1 qU I' s6 (st.trans (au.laid fl.no))
end
end Ev
namespace L2
def fn_at{CX:De}{P:Program}{w:World}{K:Frag}{mg:Str->Option Value}{base:Heap}{k:Nat}{f:Addr}{name qual:Str}{params:Arguments}{body:List Stmt}{scope:Scope}{dV kV doc pm bG ct oc:Value}{an od:Option Addr}
  {osl:Array (Option Value)}{N ps:List Str}{A:Around}{outer:List Env}{s:Shared}{H:Hp}{args:Args}{us:List Value}{vs:List V}{Q:VK}{E:XK} (lk:K.lookup f=!#[oc,od,.func (PySem.W.fnOf name qual params body scope dV kV doc pm an bG ct),osl]) (cP:PySem.W.codeIn K bG qual=true) (S:bZ N ps scope)
  (hr:cB (k+1) A) (e0:G5 P w K mg base A outer s H) (hb:BindsTo s (PySem.W.fnOf name qual params body scope dV kV doc pm an bG ct) args (ps.zip us)) (r:Vals vs us) (hl:vs.length=ps.length)
  (hbody:∀s1,Inv (gJ CX P w K mg base N qual scope f bG A outer s H E) [] (start N vs) H s1->wpAny (model P w) (A.deeper (envOfC qual scope s⁻¹ f bG)) (execs body (envOfC qual scope s⁻¹ f bG)) (SP (gJ CX P w K mg base N qual scope f bG A outer s H E) [] { nx:=λ_ H'=>Q .non H',rt:=Q}) (gJ CX P w K mg base N qual scope f bG A outer s H E).xe s1) :
  codeAny (model P w) A (.call (.ref f) args) (CR CX outer P w H s Q E) s:=by
 have KX:=e0.mod.yy.keeps λb o e=>(e0.bs b o e).1
 have lim:=e0.mod.nolimit.keeps λb o e=>(e0.bs b o e).1
 have hkind:∀y∈ps.zip us,scope.names.lookup y.1=some .local\/(scope.names.lookup y.1=some .cell/\((cellsFrom (s⁻¹+1) scope.names []).lookup y.1).isSome=true):=by
  rintro⟨n,v⟩ hy;rcases S.par n (C9 hy).1 with q |q
  . show .inl q
  . show .inr #[q,B6 _ _ _ (.inl q)]
 apply codeAny_call_function hr.depth (KX _ _ lk) rfl S.co S.gen rfl (PySem.W.codeRec_of KX cP) (hb _ _ _ _ ?_);apply wpAny_newFunctionEnv_cells S.kind hkind λenv he s1 x=>?_
 subst he;apply#[lim.keeps x.toInCall.keep,codeAny_func ?_];have I:Inv (gJ CX P w K mg base N qual scope f bG A outer s H E) [] (start N vs) H s1:=rM S hr.hd e0 hl r x;apply kA (hbody s1 I) (λfl s' hs=>?_) λe s' hs=>hs
 have fin:∀{σ':St}{H':Hp}{v:V}{u:Value},Inv (gJ CX P w K mg base N qual scope f bG A outer s H E) [] σ' H' s'->RelV v u->Q v H'->CE outer P w H s Q u s':=
  λ{σ' H' v u} J rv q=>#[v,H',J.os,J.bare,J.base,J.hok,rv,q]
 cases fl with
 |ret u=>let(v,σ',H',J,rv,q):=hs;show fin J rv q
 |next=>let(σ',H',J,q):=hs;show fin (v:=V.non) J rfl q
 |brk=>let(_,_,_,q):=hs;show False.elim q
 |cont=>let(_,_,_,q):=hs;show False.elim q
end L2
namespace Ev
open L2
structure VL(K:Frag)(mg:Str->Option Value)(sc:Scope)(N:List Str)(C D:Addr)(y ke en er:Str)(ie ir:Nat):Prop where
 nd:N.Nodup
 gk:sc.names.lookup ke=some .globalImplicit
 mg:mg ke=!(.ref D)
 dk:(ke==(~~~3))=false
 qC:fy K C
 qD:fy K D
 up:ux K C D=true
 kC:Lq K C
 eN:N[ie]?=!en
 le:sc.names.lookup en=some .local
 de:(en==(~~~3))=false
 ce:(en==("__classdict__":Str))=false
 rN:N[ir]?=!er
 lr:Loc sc er
 yN:N[0]?=!y
 vy:kj sc y
 dy:(y==(~~~3))=false
 cy:(y==("__classdict__":Str))=false
 ne:ie≠ir
 ie0:ie≠0
 ir0:ir≠0
def VL.try{P:Program}{w:World}{K:Frag}{mg:Str->Option Value}{base:Heap}{N:List Str}{qual:Str}{sc:Scope}{f:Addr}{cd:Value}{A:Around}{outer:List Env}{s:Shared}{H:Hp}{E:XK}{C D:Addr}{y ke en er:Str}{ie ir k:Nat}
  (T:VL K mg sc N C D y ke en er ie ir) (hr:cB k (A.deeper (envOfC qual sc s⁻¹ f cd))):RT (gJ yQ P w K mg base N qual sc f cd A outer s H E) C D y ke en er 0 ie ir:=
 #[rfl,rfl,rfl,rfl,rfl,T.nd,T.gk,T.mg,T.dk,T.qC,T.qD,T.up,T.kC,T.eN,T.le,T.de,T.ce,T.rN,T.lr,.inl rfl,T.yN,T.vy,T.dy,T.cy,by have:=hr.dp;exact (A.deeper (envOfC qual sc s⁻¹ f cd)).depth<_;lia]
structure VM(X:Cx)(qn:Str)(q c:Addr):Prop where
 hq:(q,qn)∈cN X.K
 hu:∀p∈cN X.K,p.1=q->p.2=qn
 hcode:X.env.code=.ref c
 hC:∀b:Heap,X.K.In b->PySem.W.CodeHd b c q
 hqn:X.env.qual ++ "<lambda>"=qn
 hbi:∀b:Heap,X.K.In b->b.BuiltinsAt X.mg q
 hqm:mainGlobals≠q
structure Lt where
 params:Arguments
 body:Expr
 scope:Scope
 pos:Pos
meta abbrev Lt.ex(l:Lt):Expr:=.Lambda l.params l.body l.scope l.pos
abbrev RV(X:Cx)(qn:Str)(M:List Addr)(H:Hp)(l:Lt)(v:V):Prop:=∃p c' ki cl,v=.ref p/\p∉M/\c'∉M/\H p=!(mh p (PySem.W.kla_obj "<lambda>" qn l.params l.body l.scope cl ((X.mg "__name__").getD .none) c' ki))/\H c'=!(gZ qn c')/\
 (∀x c,cl.lookup x=!c->X.env.cells.lookup x=!c/\(x,NameKind.free)∈l.scope.names)/\∀y∈l.scope.names,y.2=.free->∃c,cl.lookup y.1=!c
section
def S.ext(s:S z g Y As M H)(h:H a=!(.ext f)):a∉M:=λhm=>by
 rcases s.live a hm with ⟨o,e,gr⟩ |e
 . rw[h]at e;cases e;show gr
 . let(q,hq,rfl):=fR.mp e;let(ps,h1,_):=s.tab q hq;rw[h]at h1;cases h1
def S.Jl(s:S z g Y As M H)(hm:a∈M)(hA:a∉As)(h0:z.H0 a=none)(h:H a=!(.lst xs)):S z g Y As M (upd H a (.lst xs')):=s.Hj hm hA h0 h trivial trivial
abbrev tLam(X:Cx)(z:Z)(g:G)(qn:Str)(l:Lt):TE:=λY H Q=>∃As M,S z g Y As M H/\∀v H',S z g Y As M H'->au M H M H'->RV X qn M H' l v->(∀b xs,H b=!(.lst xs)->H' b=!(.lst xs))->Q v H'
def VN(hK:z.K=X.K)(mk:VM X qn q c)(B:aR X.env.scope l.scope)(L:pC l.params l.scope):PE X l.ex (tLam X z g qn l):=by rintro aj s Y H Q I ⟨As,M,hs,hQ⟩;show Ji I hs (by rw[hs.tt,hK];show mk.hq) (by rw[hs.tt,hK];show mk.hu) mk.hcode (mk.hC _ I.ok.mod.yy) mk.hqn (mk.hbi _ I.ok.mod.yy) mk.hqm (by rw[L.par];rfl) B λp c' ki cl H' s' I' S' st' np h1 h2 c1 c2 kl=>#[.ref p,H',I',rfl,hQ _ H' S' st' #[p,c',ki,cl,rfl,np,S'.ext h2,h1,h2,c1,c2] kl]
end
section
variable{st:Stmt}{rest:List Stmt}{f C D p c':Addr}
def VP(hK:z.K=X.K)(hr:cB (k+2) X.A)(hcalm:X.calm=true)(Ff:MK X.K fx qual st f fd)(cH:bx st=.Assign [.Name er Eo] (.Constant .none j np) Yq::Jk y ke en er py cpos0 qK kp wC wB cZ nF iY::rest)(Sc:bZ Nf [y] (aD st))
  (hbd:L2.Binds X.K fd [y] []) (T:VL X.K X.mg (aD st) Nf C D y ke en er ie ir) (L:pC params scope)
  (hbE:∀(Xf:Cx) (s:Shared) (H:Hp) (xe:Value->Shared->Prop) (zl:Z),Xf.prog=X.prog->Xf.w=X.w->Xf.K=X.K->Xf.mg=X.mg->Xf.base=X.base->cB (k+1) Xf.A->Xf.calm=true->PassesOwn (model Xf.prog Xf.w) (Xf.A.deeper (PySem.W.envX qn scope s⁻¹ p (.ref c') cl)) (PySem.W.envX qn scope s⁻¹ p (.ref c') cl) xe->zl.K=X.K->zl.bor=[]->Gk (wz Xf N qn scope p (.ref c') cl s H xe) zl body g0 C Lx)
  (hrest:∀(bG:Value) (A:Around) (outer:List Env) (s:Shared) (H:Hp) (E:XK),PySem.W.codeIn X.K bG qual=true->cB k (A.deeper (envOfC qual (aD st) s⁻¹ f bG))->∀zf:Z,zf.K=X.K->zf.bor=[]->eV (gJ yQ X.prog X.w X.K X.mg X.base Nf qual (aD st) f bG A outer s H E).tL zf rest ((List.replicate Nf.length .no).set ir (.dat (.nj C))) (.rt r) g3)
  (ho:dG [] g3 r=!r') (I1:L2.Inv X aj Y H s) (S1:S z g Y As M H) (hp1:H p=!(mh p (PySem.W.kla_obj "<lambda>" qn params body scope cl pm c' ki))) (hc1:H c'=!(gZ qn c')) (Cl0:uw N σ0 scope cl H s.heap) (hs0:Slots z.K M H g0 σ0 []) (hn0:∀(i:Nat) (l:List Ev.D),g0[i]?≠!(.own l))
  {us:List Value} (rv:Vals [.ref p] us) {E:Value->Shared->Prop}{Q:Value->Shared->Prop} (hQ:∀u v H' s' aC M',L2.Inv X aj Y H' s'->RelV v u->S z g Y aC M' H'->au M H M' H'->dh z g Y aC M' H' r' v->Q u s'):wpAny (~~~2) X.A (call (.ref f) us) Q E s:=by
 let(oc,od,kV,doc,pm,an,bG,ct,osl,rfl,lk,cP):=Ff.ex;have aK:us.length=1:=by rw[<- rv.length];rfl
 apply DF (BF (fn_at (CX:=yQ) (Q:=λv H'=>∃aC M',S z g Y aC M' H'/\au M H M' H'/\dh z g Y aC M' H' r' v) (E:=λ_ _ _=>False) lk cP Sc hr I1.Ms (by have:=hbd s us I1.nZ (by rw[l9];show aK);rw[l9]at this;show this) rv rfl λs2 J=>?_) λrr s' hq'=>?_)
 ·
  rw[cH];have hr1:cB (k+1) (X.A.deeper (envOfC qual (aD st) s⁻¹ f bG)):=hr.deeper _;have hr2:=hr1.mono (AY k);have TT:=T.try (P:=X.prog) (w:=X.w) (base:=X.base) (outer:=X.stack) (H:=H) (E:=λ_ _ _=>False) hr2
  apply BD (kA ((tN T.nd T.rN T.lr GC rfl (.inl rfl)) [] s2 _ _ { nx:=λσ' H'=>σ'=(start Nf [.ref p]).set ir (some .non)/\H'=H,rt:=λ_ _=>False} (J.wish _) #[rfl,rfl]) (λfl s3 q3=>?_) λ_ _ z=>False.elim z)
  cases fl with
  |ret u=>let(_,_,_,_,_,q):=q3;show q.elim
  |brk=>let(_,_,_,q):=q3;show q.elim
  |cont=>let(_,_,_,q):=q3;show q.elim
  |next=>
   let(σ3,H3,I3,e1,e2):=q3;subst e1 e2;have I3:=I3.cX;have len0:(start Nf [.ref p]).length=Nf.length:=by have:=J.len;show this
   have sl0:Slots z.K M H3 (List.replicate Nf.length .no) (start Nf [.ref p]) []:=by rw[<- len0];show Slots.nos' _
   have own0:∀(i:Nat) (l:List Ev.D),(List.replicate Nf.length Slot.no)[i]?≠!(.own l):=λi l e=>by
    have:=i6 e;rw[w8]at this;cases this.2
   have S3:=S.into S1 sl0 own0;let(gK,S4):=S3.iC (λh=>nomatch h) .non
   have hA4:gK=[]:=by
    have key:∀{g:G}{Y:Sg}{As:List Addr},Slots z.K M H3 g Y As->(∀(i:Nat) (l:List Ev.D),g[i]?≠!(.own l))->As=[]:=λq=>by
     induction q with
     |nil=>intro _;rfl
     |no _ ih=>intro h;show ih λi l e=>h (i+1) l e
     |dat _ _ ih=>intro h;show ih λi l e=>h (i+1) l e
     |own _ _ _ ih=>intro h;show absurd rfl (h 0 _)
    apply key S4.sl λi l e=>?_
    by_cases hi:i=ir
    .
     subst hi;rw[hV (by rw[l5];show (dE.mp T.rN).1)]at e
     cases e
    . rw[fI (n0 hi)]at e;show own0 i l e
   subst hA4;have hy:((start Nf [.ref p]).set ir (some .non))[0]?=!(!(.ref p)):=by rw[fI T.ir0];rfl
   have iZ:((List.replicate Nf.length Slot.no).set ir (.dat .non))[ie]?=some .no:=by rw[fI (n0 T.ne),BO,i8 (dE.mp T.eN).1]
   have un3:=I3.base;have Yr:=hK;apply BD (Ox (σ0:=σ0) TT L I3 S4 Yr rfl rfl hy iZ (λh=>nomatch h) T.ne hp1 hc1 (Cl0.un un3) hs0 hn0
    (λxe hx=>hbE _ s3 H3 xe _ rfl rfl rfl rfl rfl hr1 rfl hx hK rfl) λs4 σ4 H4 M4 gK I4 S5 jq=>?_)
   let(t,pt,kt):=hrest bG X.A X.stack s H3 (λ_ _ _=>False) cP hr2 (zN z M H3) hK rfl
   rw[List.set_set]at S5;apply pt.tL [] s4 σ4 H4 _ I4 (kt σ4 gK M4 H4 _ S5 λv σ5 qU M5 H5 S6 HS R6=>?_)
   let(M6,S7,Z6,R7):=S1.leave .nil rfl t8 S6 (jq.trans HS) R6 rfl ho;show#[_,M6,S7,Z6,R7]
 .
  cases rr with
  |error ev=>show False.elim hq'
  |ok flw=>
   cases flw with
   |ret u=>let(v,H',I',r1,aC,M',a,b,d):=I1.after hq';show hQ u v H' s' aC M' I' r1 a b d
   |next=>show False.elim hq'
   |brk=>show False.elim hq'
   |cont=>show False.elim hq'
end
abbrev Jm(qqq X:Cx)(z:Z)(g:G)(qn:Str)(l:Lt)(r':R)(f:Addr):Prop:=
 ∀{aj: ~~~1}{σ1 σ0:Sg}{H1:Hp}{s1:Shared}{g1:G}{As A0 M:List Addr}{p c':Addr}{cl:List (Str×Addr)}{pm ki:Value}{us:List Value}{Q E:Value->Shared->Prop},L2.Inv qqq aj σ1 H1 s1->S z g1 σ1 As M H1->H1 p=!(mh p (PySem.W.kla_obj "<lambda>" qn l.params l.body l.scope cl pm c' ki))->H1 c'=!(gZ qn c')->
  uw X.N σ0 l.scope cl H1 s1.heap->Slots z.K M H1 g σ0 A0->Vals [.ref p] us->(∀u v H' s' aC M',L2.Inv qqq aj σ1 H' s'->RelV v u->S z g1 σ1 aC M' H'->au M H1 M' H'->dh z g1 σ1 aC M' H' r' v->Q u s')->wpAny (model qqq.prog qqq.w) qqq.A (call (.ref f) us) Q E s1
section
variable{st:Stmt}
def Oz(hK:z.K=X.K)(Ff:MK X.K fx qual st f fd)(hg:Gl X fx)(hm:X.mg fx=!(.ref f))(ku:(fx==(~~~3))=false)(mk:VM X qn q c)(B:aR X.env.scope l.scope)(L:pC l.params l.scope)(hcall:Jm X X z g qn l r' f):aB X z (.Call (.Name fx fp) [l.ex] [] cA) g r' g:=by
 apply#[λY H Q=>∃As M,S z g Y As M H/\∀v H' aC M',S z g Y aC M' H'->au M H M' H'->dh z g Y aC M' H' r' v->Q v H',?_,λY As M H Q s kq=>#[As,M,s,λv H' aC M'=>kq v H' aC M']]
 rintro aj s Y H Q I ⟨As,M,hs,hQ⟩;apply AA (gH I hg hm ?_ ku);apply BN I.ok.mod.yy Ff.kp (kA ((bI (VN hK mk B L) fS rfl) cA aj s Y H (λvs H'=>∃v,vs=[v]/\S z g Y As M H'/\au M H M H'/\RV X qn M H' l v) I #[As,M,hs,λv H' a b d _=>#[v,rfl,a,b,d]]) (λus s1 q1=>?_) λ_ _ z=>z) rfl rfl
 let(vs,H1,I1,rv,_,rfl,S1,dz,p,c',ki,cl,rfl,np1,nc1,hp1,hc1,Lw,VG):=q1;show#[I1.nZ,hcall I1 S1 hp1 hc1 (Ow I1 B L.nl Lw VG) S1.sl rv λu v H' s' aC M' I' r1 a b d=>#[v,H',I',r1,hQ v H' aC M' a (dz.trans b) d]]
end
section
def Jo(hw:∀u,RelV w u->u=cv):eF X (.builtin "isinstance") (λxs H Q=>∃x M d b,xs=[x,w]/\Pk X.K M H d x/\PySem.W.kitOne X.K (Gg d) cv=!b/\Q (.bl b) H):=by intro aj s Y H xs us Q I r h;let(x,M,d,b,rfl,p,e,q):=h;let(u,w',rfl,r1,r2):=vals2 r;obtain rfl:=hw _ r2;show Hy I p r1 e λtk=>#[.bl b,H,I.tok tk,rfl,q]
def Jp(hK:z.K=X.K)(h:aB X z a g r1 g1)(hp:pk r1 g1=!d)(he:∀M H v,Pk X.K M H d v->PySem.W.kitOne X.K (Gg d) cv=!b)
  (hg:Gl X "isinstance") (hm:X.mg "isinstance"=none) (hv:bootBuiltins "isinstance"=!(.builtin "isinstance")) (hw:∀u,RelV w u->u=cv) (pT':PE X (.Name T pT) (tC w))
  (hs:starEach [a,.Name T pT] X.env=(false,eval a X.env)::starEach [.Name T pT] X.env):aB X z (.Call (.Name "isinstance" p) [a,.Name T pT] [] pos) g (.dat (.bl b)) g1:=by
 let(t,q,k):=h;apply#[_,iA (Jo hw) hg hm hv (bI q (bI pT' fS) hs) ⋯ ⋯ hs,λY As M H Q s kk=>k Y As M H _ s λv H' aC M' s' st R=>?_]
 have p:=hK▸s'.pk (au.refl _ _) R hp;show#[v,M',d,b,rfl,p,he _ _ _ p,kk _ H' aC M' s' st (.bl b)]
end
open L2 PySem.W
abbrev cU:Slot->Slot
 |.own l=>.dat (.lst l)
 |s=>s
abbrev flat:D->Bool
 |.non=>true
 |.bl _=>true
 |.int _=>true
 |.str _=>true
 |_=>false
def Rep.flat{K:Frag}{M M':List Addr}{H H':Hp}{d:D}{v:V}(r:Rep K M H d v)(h:Ev.flat d=true):Rep K M' H' d v:=by
 cases r with
 |non=>show .non
 |bl b=>show .bl b
 |int i=>show .int i
 |str x=>show .str x
 |_=>symm
section
variable{g g':G}
def Slots.atA{K:Frag}(q:Slots K M H g Y As){a:Addr}(h:a∈As):∃(i:Nat) (l:List D) (xs:List V),g[i]?=!(Slot.own l)/\Y[i]?=!(!(V.ref a))/\H a=!(.lst xs):=by
 induction q with
 |nil=>symm
 |no _ ih=>let(i,l,xs,h1,h2,h3):=ih h;show#[i+1,l,xs,h1,h2,h3]
 |dat _ _ ih=>let(i,l,xs,h1,h2,h3):=ih h;show#[i+1,l,xs,h1,h2,h3]
 |own e _ _ ih=>
  rcases dS.mp h with rfl |h
  . show#[0,_,_,rfl,rfl,e]
  . let(i,l,xs,h1,h2,h3):=ih h;show#[i+1,l,xs,h1,h2,h3]
def Slots.cU{K:Frag}{M0:List Addr}(q:Slots K M H g Y As)(hl:∀m∈M0,m∈M)(hn:∀a∈As,a∉M0):Slots K M0 H (g.map Ev.cU) Y []:=by
 induction q with
 |nil=>show .nil
 |no _ ih=>show .no (ih hn)
 |dat r _ ih=>show .dat (r.stay (au.less hl)) (ih hn)
 |own e r _ ih=>show .dat (.lst #[hn _ dA,e] (r.stay (au.less hl))) (ih λa ha=>hn a (bP _ ha))
def OD{i:Nat}{l:List D}(h:(g.map Ev.cU)[i]?=!(.own l)):False:=by
 rw[mI]at h;cases e:g[i]? with
 |none=>rw[e]at h;symm
 |some u=>rw[e]at h;cases u <;> symm
def S.h0(s:S z g Y As M H)(hb:z.bor=[])(h:a∈As):z.H0 a=none:=by
 let(i,l,xs,h1,h2,_):=s.sl.atA h;rcases s.own i a l h1 h2 with ⟨q,_⟩ |q
 . rw[hb]at q;cases q
 . show q
def S.Jq(s:S z g Y As M H)(hb:z.bor=[]):S z (g.map Ev.cU) Y [] (M.filter λm=>decide (m∉As)) H where
 sl:=s.sl.cU (λm hm=>(i4.mp hm).1) λa ha hm=>by have:=(i4.mp hm).2;simp at this;show this ha
 nd:=t8
 sub:=λa h=>nomatch h
 own:=λi a l e _=>(OD e).elim
 live:=λm hm=>s.live m (i4.mp hm).1
 keep:=s.keep
 fX:=λm hm=>i4.mpr #[s.fX m hm,by
  have:m∉As:=λh=>s.m0 m hm (s.h0 hb h)
  simpa using this]
 m0:=s.m0
 bm:=s.bm
 gF:=λp hp=>by
  have:p.1∈z.bor:=u7 hp;rw[hb]at this;cases this
 tab:=s.tab
 tm:=s.tm
 tt:=s.tt
def S.thaw(s:S z g Y As M H)(hb:z.bor=[]){g1:G}{σ1:Sg}(s1:S z g1 σ1 aL M1 H1)(st:au (M.filter λm=>decide (m∉As)) H M1 H1):S z g Y As (As++M1) H1/\au M H (As++M1) H1:=by
 have nA:∀a∈As,a∉M.filter λm=>decide (m∉As):=λa ha hm=>by have:=(i4.mp hm).2;simp at this;show this ha
 have stM:au M H (As++M1) H1:=λb o e hb'=>by
  have h1:=st b o e λhm=>hb' (i4.mp hm).1
  apply#[h1.1,λhm=>?_]
  rcases oP.mp hm with hm |hm
  . show hb' (s.sub b hm)
  . show h1.2 hm
 have lists:∀a∈As,∃xs,H1 a=!(.lst xs):=λa ha=>by
  let(_,_,xs,_,_,e):=s.sl.atA ha;show#[xs,(st a _ e (nA a ha)).1]
 apply#[#[s.sl.stay stM λa ha o e=>(st a o e (nA a ha)).1,s.nd,λa ha=>l8 _ ha,s.own,λm hm=>?_,s1.keep,λm hm=>gN _ (s1.fX m hm),s.m0,s.bm,s.gF,s1.tab,s.tm,s.tt],stM]
 rcases oP.mp hm with hm |hm
 . let(xs,e):=lists m hm;show .inl #[_,e,trivial]
 . show s1.live m hm
def OJ(hb:z.bor=[])(hf:Ev.flat d=true)(h:aB X z e (g.map Ev.cU) (.dat d) g1):aB X z e g (.dat d) g:=by
 let(t,q,k):=h;apply#[t,q,λY As M H Q s kk=>k Y [] _ H Q (s.Jq hb) λv H1 aL M1 s1 st R=>?_]
 let(a,b):=s.thaw hb s1 st;show kk v H1 As _ a b (Rep.flat R hf)
abbrev kW:D->Bool
 |.tup l=>l.all flat
 |d=>flat d
def aE.flat{K:Frag}{l:List D}{xs:List V}(r:aE K M H l xs)(h:l.all Ev.flat=true):aE K M1 H1 l xs:=by
 induction l generalizing xs with
 |nil=>cases r;show .nil
 |cons d l ih=>
  cases r with
  |cons r t=>rw[List.all_cons,fN]at h;show .cons (Rep.flat r h.1) (ih t h.2)
def Rep.kW{K:Frag}{d:D}{x:V}(r:Rep K M H d x)(h:Ev.kW d=true)(hA:∀a∈As,∃ys,H a=!(.lst ys)):Rep K (As++M) H d x:=by
 cases r with
 |tup t rr=>
  have nA:∀{a:Addr}{o:HO},H a=!o->(∀ys,o≠.lst ys)->a∉M->a∉As++M:=λe n m hm=>by
   rcases oP.mp hm with hm |hm
   . let(ys,e2):=hA _ hm;rw[e]at e2;cases e2;show n _ rfl
   . show m hm
  rcases t with ⟨n,t |⟨o,t⟩⟩ |t
  . show .tup (.inl #[nA t (λ_ e=>nomatch e) n,.inl t]) (aE.flat rr h)
  . show .tup (.inl #[nA t (λ_ e=>nomatch e) n,.inr #[o,t]]) (aE.flat rr h)
  . show .tup (.inr t) (aE.flat rr h)
 |non=>show .non
 |bl b=>show .bl b
 |int i=>show .int i
 |str x=>show .str x
 |_=>symm
def aE.kW{K:Frag}{l:List D}{xs:List V}(r:aE K M H l xs)(h:l.all Ev.kW=true)(hA:∀a∈As,∃ys,H a=!(.lst ys)):aE K (As++M) H l xs:=by
 induction l generalizing xs with
 |nil=>cases r;show .nil
 |cons d l ih=>
  cases r with
  |cons r t=>rw[List.all_cons,fN]at h;show .cons (r.kW h.1 hA) (ih t h.2)
def Jr{X:Cx}{e:Expr}{l:List D}{g1:G}(hb:z.bor=[])(hf:l.all Ev.kW=true)(h:aB X z e (g.map Ev.cU) (.new l) g1):aB X z e g (.new l) g:=by
 let(t,q,k):=h;apply#[t,q,λY As M H Q s kk=>k Y [] _ H Q (s.Jq hb) λv H1 aL M1 s1 st R=>?_]
 let(a,b):=s.thaw hb s1 st;let(p,xs,rfl,r1,r2,r3,r4,r5):=R;have hA:∀a∈As,∃ys,H1 a=!(.lst ys)/\a∉M1:=λa hp=>by
  let(_,_,ys,_,_,e):=s.sl.atA hp;show#[ys,st a _ e λhm=>by have:=(i4.mp hm).2;simp at this;show this hp]
 show kk _ H1 As _ a b #[p,xs,rfl,gN _ r1,λhp=>by let(ys,_,n):=hA p hp;show n r1,r3,r4,aE.kW r5 hf λa ha=>by let(ys,e,_):=hA a ha;show#[ys,e]]
end
inductive Ys(X:Cx):List Stmt->List TS->Prop
 |nil:Ys X [] []
 |cons {s:Stmt}{ss:List Stmt}{t:TS}{ts:List TS}:PS X s t->Ys X ss ts->Ys X (s::ss) (t::ts)
abbrev VR:List TS->TS->TS
 | [],u=>u
 |t::ts,u=>Zd t (VR ts u)
def Ys.pss{X:Cx}{ss rest:List Stmt}{ts:List TS}{u:TS}(h:Ys X ss ts)(hu:tH X rest u):tH X (ss++rest) (VR ts u):=by
 induction h with
 |nil=>show hu
 |cons a _ ih=>show dQ a ih
abbrev pF(X:Cx)(z:Z)(ss:List Stmt)(g:G)(f:Fl)(g':G):Prop:=
 ∃ts,Ys X ss ts/\∀(u:TS) Y As M H (E:Ends),S z g Y As M H->oV z M H { E with nx:=u E} g' f->VR ts u E Y H
def pF.lift(h:pF X.tL z ss g f g'):pF X z ss g f g':=by
 let(ts,q,k):=h;apply#[ts,?_,k];clear k
 induction q with
 |nil=>show .nil
 |cons a _ ih=>show .cons (λaj s Y H D I hw=>kA (a aj s Y H D (I.wish _) hw) (λ_ _ q=>q.cX) λ_ _ z=>False.elim z) ih
def pF.bk{X:Cx}{z:Z}{ss rest:List Stmt}{g g1 g':G}{f:Fl}(h:pF X z ss g .nx g1)(h2:eV X z rest g1 f g'):eV X z (ss++rest) g f g':=by let(t2,q2,k2):=h2;let(t,q,k):=h;show#[_,q.pss q2,λY As M H E s kE=>k t2 Y As M H E s λσ' aC M' H' s' st=>k2 σ' aC M' H' E s' (kE.trans st)]
def pF.end{X:Cx}{z:Z}{ss rest:List Stmt}{g g':G}{f:Fl}(h:pF X z ss g f g')(hn:f≠.nx):eV X z (ss++rest) g f g':=by
 let(t,q,k):=h;apply#[_,q.pss bF,λY As M H E s kE=>k _ Y As M H E s ?_]
 cases f with
 |nx=>show absurd rfl hn
 |rt r=>show kE
 |bk=>show kE
 |ct=>show kE
def pF.ra{X:Cx}{z:Z}{ss rest:List Stmt}{g g1 g':G}{C:Addr}(h:pF X z ss g .nx g1)(h2:N6 X z rest g1 C g'):N6 X z (ss++rest) g C g':=by let(t2,q2,k2):=h2;let(t,q,k):=h;show#[_,q.pss q2,λY As M H E s kE=>k t2 Y As M H E s λσ' aC M' H' s' st=>k2 σ' aC M' H' E s' (kE.trans st)]
abbrev Js(X:Cx)(tg iter:Expr):TI:=λY H R=>∃wi,PI X tg iter wi/\wi Y H R
def zp:PI X tg iter (Js X tg iter):=λaj s Y H R I h=>let #[wi,q,k]:=h;q aj s Y H R I k
section
def Ju(hC:∀g b g',gW g b g'->bL X z ifs g b g')(hE:∀g d g',rZ g d g'->aB X z aX g (.dat d) g')(hw:dg X z tg iter g2 ak Be)(ht:eW X z tg T)(dX:last∉T.ix)
  (hcp:kQ T last gW rZ ak Be g3) {Y:Sg}{As M:List Addr}{H:Hp}{Nn:Sg->Hp->Prop}{D:Addr} (s:S z g2 Y As M H) (hD:Y[last]?=!(!(.ref D)))
  (k:∀σ' aC M' H',S z g3 σ' aC M' H'->au M H M' H'->σ'[last]?=!(!(.ref D))->rY T.ix Y σ'->Nn σ' H'):RB (Js X tg iter) (vU X tg) (vV X ifs) (vJ D (Dz X aX)) Y H Nn:=by
 let(wi,q,kw):=hw;apply#[wi,q,kw Y As M H _ s λJ H1 aL M1 s1 dz hJ=>?_]
 apply jd hJ (λl σ' H'=>∃gb Ab Mb,S z gb σ' Ab Mb H'/\au M1 H1 Mb H'/\rY T.ix Y σ'/\σ'[last]?=!(!(.ref D))/\kQ T last gW rZ l gb g3)
  #[_,_,_,s1,au.refl _ _,rY.refl _ _,hD,hcp] (by rintro _ _ _ ⟨_,_,M2,_,aI,_⟩;show#[M2,aI]) ?_ ?_
 . rintro σ' H' ⟨gb,Ab,Mb,s2,aI,ag,yw,cp⟩;cases cp;show k σ' Ab Mb H' s2 (dz.trans aI) yw ag
 .
  rintro d l σ' H' ⟨gb,Ab,Mb,s2,aI,ag,yw,cp⟩ x H2 yl;let(s3,dY,rx):=yl Mb aI z gb σ' Ab rfl s2;let(t,qt,kt):=ht;cases cp with
  |skip e0 hc rest=>
   apply#[t,qt,kt d gb _ e0 x _ Ab Mb H2 _ s3 rx λσ4 gK s4 O1=>?_]
   let(t2,q2,k2):=hC _ _ _ hc;apply#[t2,q2,k2 _ gK Mb H2 _ s4 λH5 qU M5 s5 jq=>?_]
   show lR #[_,qU,M5,s5,(aI.trans dY).trans jq,ag.trans O1,by rw[O1.2 _ dX];show yw,rest]
  |take e0 hc he ha hz' rest=>
   apply#[t,qt,kt d gb _ e0 x _ Ab Mb H2 _ s3 rx λσ4 gK s4 O1=>?_]
   let(t2,q2,k2):=hC _ _ _ hc;let(t3,q3,k3):=hE _ _ _ he;have NR:σ4[last]?=!(!(V.ref D)):=by rw[O1.2 _ dX];show yw
   apply#[t2,q2,k2 _ gK Mb H2 _ s4 λH5 qU M5 s5 jq=>jr #[t3,q3,k3 _ qU M5 H5 _ s5 λv H6 NT M6 s6 HS R6=>?_]]
   let(a,xs,f1,f2,f3,f4):=s6.sl.at ha;rw[NR]at f1;injection f1 with f1;injection f1 with f1;injection f1 with f1;subst f1;let(s7,Z6):=s6.write ha NR (f4.append (.cons R6 .nil));show#[xs,f3,by rw[<- f4.length];show hz',_,NT,M6,s7,(((aI.trans dY).trans jq).trans HS).trans Z6,ag.trans O1,NR,rest]
end
inductive iH(T:Tg)(gW:G->Bool->G->Prop)(In:G->G->Prop):List D->G->G->Prop
 |nil {g:G}:iH T gW In [] g g
 |skip:T.set d g=!g1->gW g1 false g2->iH T gW In l g2 g'->iH T gW In (d::l) g g'
 |take:T.set d g=!g1->gW g1 true g2->In g2 g3->iH T gW In l g3 g'->iH T gW In (d::l) g g'
section
abbrev Ep(X:Cx)(z:Z)(N':List Str)(scope:Scope)(tg iter aX:Expr)(ifs:List Expr)(T:Tg)(last:Nat)(g2 g3:G):Prop:=
 ∃ak Be,(∀bk:Bk,dg (X.blk N' scope bk) z tg iter g2 ak Be)/\kQ T last (λg b g'=>∀bk:Bk,bL (X.blk N' scope bk) z ifs g b g') (λg d g'=>∀bk:Bk,aB (X.blk N' scope bk) z aX g (.dat d) g') ak Be g3
def mY(hw:dg X z t1 i1 g ak g1)(ht1:∀b:Bk,eW (X.blk N' scope b) z t1 T1)(ht:∀b:Bk,eW (X.blk N' scope b) z tg T)(hT1:∀i∈T1.ix,g1.length<=i/\i<g1.length+k)(hT:∀i∈T.ix,g1.length<=i/\i<g1.length+k)
  (hcp:iH T1 (λg b g'=>∀bk:Bk,bL (X.blk N' scope bk) z f1 g b g') (Ep X z N' scope tg iter aX ifs T (g1.length+k)) ak (gC k g1) gE) (hacc:gE[g1.length+k]?=!(.own acc)) :
  ∃wi,PI X t1 i1 wi/\∀Y As M H Q,S z g Y As M H->Kn z (gE.take g1.length) Y M H (.new acc) Q->rP X k wi (λb=>vU (X.blk N' scope b) t1) (λb=>vV (X.blk N' scope b) f1) (λD b=>RB (Js (X.blk N' scope b) tg iter) (vU (X.blk N' scope b) tg) (vV (X.blk N' scope b) ifs) (vJ D (Dz (X.blk N' scope b) aX))) Y H Q:=by
 let(wi,q,kw):=hw;apply#[wi,q,λY As M H Q s kq=>kw Y As M H _ s λJ H1 aL M1 s1 dz hJ D hD=>?_]
 have hl:=s1.sl.length;have hz:∀p∈z.lent,p.1<Y.length:=λp hp=>(dE.mp (s1.gF p hp).1).1
 have Jv:∀i∈T1.ix,Y.length<=i:=λi hi=>by rw[<- hl];show (hT1 i hi).1
 have NQ:∀i∈T.ix,Y.length<=i:=λi hi=>by rw[<- hl];show (hT i hi).1
 have Jw:g1.length+k∉T1.ix:=λh=>nV _ (hT1 _ h).2
 have dX:g1.length+k∉T.ix:=λh=>nV _ (hT _ h).2
 have s1':=s1.aN (xs:=[]) hD;have h0:=s1.cC hD;have nA:D∉aL:=λh=>s1.fresh hD (s1.sub D h)
 have sb:=s1'.extend (k:=k) dA nA h0 aA .nil;have HR:(Y++(List.replicate k none++[!(V.ref D)]))[g1.length+k]?=!(!(V.ref D)):=by
  rw[hl,fA (CO _ _),tJ,fA (by rw[l5];show eD _),l5,DB]
  rfl
 apply jd hJ (λl σ' H'=>∃gb Ab Mb τ,S z gb σ' Ab Mb H'/\au M1 H1 Mb H'/\σ'=Y++τ/\σ'[g1.length+k]?=!(!(.ref D))/\iH T1 (λg b g'=>∀bk:Bk,bL (X.blk N' scope bk) z f1 g b g') (Ep X z N' scope tg iter aX ifs T (g1.length+k)) l gb gE)
  #[_,_,_,_,sb,au.aN hD,rfl,HR,hcp] (by rintro _ _ _ ⟨_,_,M2,_,_,aI,_⟩;show#[M2,aI]) ?_ ?_
 . rintro σ' H' ⟨gb,Ab,Mb,τ,s2,aI,rfl,yw,cp⟩;cases cp;let(a,xs,f1,f2,f3,f4):=s2.sl.at hacc;rw[yw]at f1;injection f1 with f1;injection f1 with f1;injection f1 with f1;subst f1;let(A1,s3,m3,n3):=s2.shrink hz ⋯ hacc yw;rw[<- hl]at s3;show kq _ H' A1 Mb s3 (dz.trans aI) #[D,xs,rfl,m3,n3,h0,f3,f4]
 .
  rintro d l σ' H' ⟨gb,Ab,Mb,τ,s2,aI,rfl,yw,cp⟩ x H2 yl bk _;let(s3,dY,rx):=yl Mb aI z gb (Y++τ) Ab rfl s2;let(t,qt,kt):=ht1 bk;cases cp with
  |skip e0 hc rest=>
   apply#[t,qt,kt d gb _ e0 x _ Ab Mb H2 _ s3 rx λσ4 gK s4 ag=>?_]
   let(τ',rfl):=bY ag Jv;let(t2,q2,k2):=hc bk;apply#[t2,q2,k2 _ gK Mb H2 _ s4 λH5 qU M5 s5 jq=>?_]
   apply lR #[_,qU,M5,τ',s5,(aI.trans dY).trans jq,rfl,?_,rest];rw[ag.2 _ Jw];show yw
  |take e0 hc hin rest=>
   let(items2,Be,hw2,Gn):=hin;apply#[t,qt,kt d gb _ e0 x _ Ab Mb H2 _ s3 rx λσ4 gK s4 ag=>?_]
   let(τ',rfl):=bY ag Jv;let(t2,q2,k2):=hc bk;have NR:(Y++τ')[g1.length+k]?=!(!(V.ref D)):=by rw[ag.2 _ Jw];show yw
   apply#[t2,q2,k2 _ gK Mb H2 _ s4 λH5 qU M5 s5 jq=>jr ?_]
   apply Ju (λg b g' h=>h bk) (λg d g' h=>h bk) (hw2 bk) (ht bk) dX Gn s5 NR λσ6 NT M6 H6 s6 HS hD6 ag6=>?_
   let(τ6,rfl):=bY ag6 NQ;show#[_,NT,M6,τ6,s6,((aI.trans dY).trans jq).trans HS,rfl,hD6,rest]
def Jx(B:aR X.env.scope scope)(hc:X.calm=true)(hN:Names X.N N' scope k)(hw:dg X z t1 i1 g ak g1)(ht1:∀b:Bk,eW (X.blk N' scope b) z t1 T1)(ht:∀b:Bk,eW (X.blk N' scope b) z tg T)(hT1:∀i∈T1.ix,g1.length<=i/\i<g1.length+k)(hT:∀i∈T.ix,g1.length<=i/\i<g1.length+k)
  (hcp:iH T1 (λg b g'=>∀bk:Bk,bL (X.blk N' scope bk) z f1 g b g') (Ep X z N' scope tg iter aX ifs T (g1.length+k)) ak (gC k g1) gE) (hacc:gE[g1.length+k]?=!(.own acc))
  (hs:∀x,foldedSetIterable i1 X.env x=pure x) (hs2:∀(b:Bk) x,foldedSetIterable iter (X.blk N' scope b).env x=pure x):aB X z (.ListComp aX [#[t1,i1,f1,0],#[tg,iter,ifs,0]] scope pos) g (.new acc) (gE.take g1.length):=by
 let(wi,q,kk):=mY hw ht1 ht hT1 hT hcp hacc;show#[_,Hg B hc hN q (λb=>#[#[iE,iF],zp,iE,iF,oY]) hs hs2,kk]
def Jy(B:aR X.env.scope scope)(hc:X.calm=true)(hN:Names X.N N' scope k)(hw:dg X z t1 i1 g ak g1)(ht1:∀b:Bk,eW (X.blk N' scope b) z t1 T1)(ht:∀b:Bk,eW (X.blk N' scope b) z tg T)(hT1:∀i∈T1.ix,g1.length<=i/\i<g1.length+k)(hT:∀i∈T.ix,g1.length<=i/\i<g1.length+k)
  (hcp:iH T1 (λg b g'=>∀bk:Bk,bL (X.blk N' scope bk) z f1 g b g') (Ep X z N' scope tg iter aX ifs T (g1.length+k)) ak (gC k g1) gE) (hacc:gE[g1.length+k]?=!(.own acc))
  (Dm:X.N.Nodup) (hy:X.N[i]?=!y) (hl:X.env.scope.names.lookup y=some .local) (hb:i∉z.bor) (hi:i<(gE.take g1.length).length)
  (hsw:swapsWith (.ListComp aX [#[t1,i1,f1,0],#[tg,iter,ifs,0]] scope pos) (!(.Name y py)) fW.line X.env=pure true)
  (hs:∀x,foldedSetIterable i1 X.env x=pure x) (hs2:∀(b:Bk) x,foldedSetIterable iter (X.blk N' scope b).env x=pure x):fT X z (.Assign [.Name y py] (.ListComp aX [#[t1,i1,f1,0],#[tg,iter,ifs,0]] scope pos) fW) g .nx ((gE.take g1.length).set i (.own acc)):=by
 let(wi,q,kk):=mY hw ht1 ht hT1 hT hcp hacc;apply#[_,Hi B hc hN q (λb=>#[#[iE,iF],zp,iE,iF,oY]) Dm hy hl hsw hs hs2,λY As M H E s kE=>kk Y As M H _ s λv H' aC M' s' st R=>?_]
 let(a,xs,rfl,hm,hA,h0,ha,rr):=R;let(bu,s2):=s'.oG hb hi hm hA h0 ha rr;show kE _ bu M' H' s2 st
end
inductive fV(z:Z)(As M:List Addr)(H:Hp):List Addr->List (List D)->Prop
 |nil:fV z As M H [] []
 |cons {p:Addr}{as:List Addr}{xs:List V}{l:List D}{ll:List (List D)}:p∈M->p∉As->z.H0 p=none->H p=!(.lst xs)->aE z.K M H l xs->fV z As M H as ll->fV z As M H (p::as) (l::ll)
section
def fV.stay(h:fV z As M H as ll)(st:au M H M' H')(k:∀p∈as,p∈M'/\H' p=H p):fV z As M' H' as ll:=by
 induction h with
 |nil=>show .nil
 |cons h1 h2 h3 h4 h5 _ ih=>let(k1,k2):=k _ dA;show .cons k1 h2 h3 (k2.trans h4) (h5.stay st) (ih λp hp=>k p (bP _ hp))
def fV.mem(h:fV z As M H as ll):∀p∈as,p∈M/\p∉As/\z.H0 p=none/\∃xs,H p=!(.lst xs):=by
 induction h with
 |nil=>intro p h;symm
 |cons h1 h2 h3 h4 _ _ ih=>intro p hp;rcases dS.mp hp with rfl |hp;show#[h1,h2,h3,_,h4];show ih p hp
def fV.get(h:fV z As M H as ll):∀{i:Nat}{l:List D},ll[i]?=!l->∃p xs,as[i]?=!p/\H p=!(.lst xs)/\aE z.K M H l xs:=by
 induction h with
 |nil=>intro i l e;cases e
 |cons h1 h2 h3 h4 h5 _ ih=>intro i l e;cases i with
  |zero=>cases (show some _=!l from e);show#[_,_,rfl,h4,h5]
  |succ i=>show ih e
def fV.push(h:fV z As M H as ll)(h1:p∈M)(h2:p∉As)(h3:z.H0 p=none)(h4:H p=!(.lst xs))(h5:aE z.K M H l xs):fV z As M H (as++[p]) (ll++[l]):=by
 induction h with
 |nil=>show .cons h1 h2 h3 h4 h5 .nil
 |cons a b c d e _ ih=>show .cons a b c d e ih
def fV.write(h:fV z As M H as ll)(nd:as.Nodup)(r:aE z.K M (upd H p (.lst xs')) l' xs')(hp:p∈M):∀{i:Nat},as[i]?=!p->fV z As M (upd H p (.lst xs')) as (ll.set i l'):=by
 induction h with
 |nil=>intro i e;cases e
 |@cons q as xs l ll h1 h2 h3 h4 h5 hr ih=>
  intro i e;let(nd1,nd2):=hZ.mp nd;cases i with
  |zero=>
   cases (show some q=!p from e)
   show .cons h1 h2 h3 aA r (hr.stay (au.write hp) λx hx=>#[(hr.mem x hx).1,az (λe=>nd1 (e▸hx))])
  |succ i=>
   have hq:q≠p:=λe'=>nd1 (by rw[e'];show i6 (show as[i]?=!p from e))
   show .cons h1 h2 h3 (by rw[az hq];show h4) (h5.stay (au.write hp)) (ih nd2 e)
end
abbrev Rows(z:Z)(g:G)(iy:Nat)(M0:List Addr)(H0:Hp)(ll:List (List D))(Y:Sg)(H:Hp):Prop:=
 ∃As M a as,S z g Y As M H/\au M0 H0 M H/\Y[iy]?=!(!(.ref a))/\a∈M/\a∉As/\z.H0 a=none/\H a=!(.lst (as.map .ref))/\a∉as/\as.Nodup/\fV z As M H as ll
def Rows.jB(h:Rows z g iy M0 H0 ll Y H)(e:g[i]?=some .no)(n:i≠iy):Rows z g iy M0 H0 ll (Y.set i v) H:=by let(As,M,a,as,s,st,e1,h):=h;show#[As,M,a,as,s.jB e,st,by rw[fI n];show e1,h]
section
variable{iy ix iw:Nat}
def Bx(hy:X.N[iy]?=!y)(vy:kj X.env.scope y)(dy:(y==(~~~3))=false)(cy:(y==("__classdict__":Str))=false)(hx:X.N[ix]?=!x)(vx:kj X.env.scope x)(dx:(x==(~~~3))=false)(cx:(x==("__classdict__":Str))=false)
  (hw:X.N[iw]?=!w) (vw:kj X.env.scope w) (dw:(w==(~~~3))=false) (cw:(w==("__classdict__":Str))=false) (hline:(cZ.endLine==cA.line)=true) :
  ∃t,PS X (.Expr (.Call (.Attribute (.Subscript (.Name y py) (.Name x px) sp) "append" cZ) [.Name w pw] [] cA) ep) t/\∀Y H M0 H0 (E:Ends) (ll:List (List D)) (l:List D) (j:Nat) (b:Int),Rows z g iy M0 H0 ll Y H->Y[ix]?=!(!(.int j))->Y[iw]?=!(!(.int b))->ll[j]?=!l->l.length<1000->
   (∀H',Rows z g iy M0 H0 (ll.set j (l++[.int b])) Y H'->E.nx Y H')->t E Y H:=by
 apply#[_,tM (Az AV PySem.F.slot_list_append PySem.F.type_list_append lP (Rx tV (dB hy vy dy cy) (dB hx vx dx cx) (λ_ _=>rfl)) (bI (dB hw vw dw cw) fS rfl) rfl rfl hline rfl rfl) rfl,λY H M0 H0 E ll l j b h ex ew el hl kE=>?_]
 let(As,M,a,as,s,st,e1,hm,hA,h0,ha,na,nd,rl):=h;let(p,xs,ep,hp,rp):=rl.get el;let(q1,q2,q3,_):=rl.mem p (i6 ep);have hat:gU (as.map V.ref) (j:Int)=!(.ref p):=by
  have hj:=(dE.mp ep).1;delta L2.gU L2.yO;rw[i8 ⋯,i8 (by rw[eJ];lia)]
  exact (as.map V.ref)[j]?=!(.ref p);rw[mI,ep];rfl
 apply#[.ref a,e1,.int j,ex,a,as.map .ref,j,.ref p,rfl,rfl,cQ.of ha,hat,.inl #[rfl,xs,cQ.of hp],.int b,ew,p,xs,.int b,rfl,rfl,hp,?_,kE _ ?_]
 . rw[<- rp.length,sB];lia
 .
  have hap:a≠p:=λe=>na (e▸i6 ep)
  apply#[As,M,a,as,s.Jl q1 q2 q3 hp,st.trans (au.write q1),e1,hm,hA,h0,by rw[az hap];show ha,na,nd,?_]
  show rl.write nd ((rp.stay (au.write q1)).append (.cons (.int b) .nil)) q1 ep
end
abbrev wD(ll:List (List D)):D->Option (List (List D))
 |.tup [.int a,.int b]=>if 0<=a/\0<=b then match ll[a.toNat]? with
   |some l1=>if l1.length<1000 then match (ll.set a.toNat (l1++[.int b]))[b.toNat]? with
     |some l2=>if l2.length<1000 then some ((ll.set a.toNat (l1++[.int b])).set b.toNat (l2++[.int a]))else none
     |none=>none
    else none
   |none=>none
  else none
 |_=>none
abbrev iI:List D->List (List D)->Option (List (List D))
 | [],ll=>!ll
 |d::l,ll=>match wD ll d with |some RW=>iI l RW |none=>none
def Jz(h:wD ll d=!RW):∃(a b:Nat) (l1 l2:List D),d=.tup [.int a,.int b]/\ll[a]?=!l1/\l1.length<1000/\(ll.set a (l1++[.int b]))[b]?=!l2/\l2.length<1000/\RW=(ll.set a (l1++[.int b])).set b (l2++[.int a]):=by
 delta wD at h;split at h
 .
  ext a b;split at h
  .
   ext h0;obtain⟨a,rfl⟩:∃n:Nat,a=n:=#[a.toNat,by lia]
   obtain⟨b,rfl⟩:∃n:Nat,b=n:=#[b.toNat,by lia]
   split at h
   .
    ext l1 e1;split at h
    .
     ext h1;split at h
     .
      ext l2 e2;split at h
      . ext h2;symm;show#[a,b,l1,l2,rfl,e1,h1,e2,h2,rfl]
      . symm
     . symm
    . symm
   . symm
  . symm
 . symm
def S.By:∀(ps:List Addr) {M:List Addr},S z g Y As M H->(∀p∈ps,p∉As/\z.H0 p=none)->∃M',S z g Y As M' H/\(∀m∈M',m∈M)/\∀p∈ps,p∉M'
 | [],M,s,_=>#[M,s,λ_ h=>h,λ_ h=>nomatch h]
 |p::ps,M,s,h=>by
  let(h1,h2):=h p dA;let(M',s',k1,k2):=S.By ps (s.drop h2 h1) λq hq=>h q (bP _ hq)
  apply#[M',s',λm hm=>(i4.mp (k1 m hm)).1,λq hq=>?_]
  rcases dS.mp hq with rfl |hq
  . intro hm;have:=(i4.mp (k1 _ hm)).2;simp at this
  . show k2 q hq
def fV.reps(h:fV z As M H as ll)(hM:∀m∈M',m∈M)(n:∀p∈as,p∉M'):aE z.K M' H (ll.map .lst) (as.map .ref):=by
 induction h with
 |nil=>show .nil
 |cons _ _ _ h4 h5 _ ih=>show .cons (.lst #[n _ dA,h4] (h5.stay (au.less hM))) (ih λp hp=>n p (bP _ hp))
def Rows.trans(st:au M0 H0 M1 H1)(h:Rows z g iy M1 H1 ll Y H):Rows z g iy M0 H0 ll Y H:=by let(As,M,a,as,s,aI,r):=h;show#[As,M,a,as,s,st.trans aI,r]
section
variable{iy ia ib it:Nat}
def JB(hp:PassesOwn (~~~2) X.A X.env X.xe)(hc:X.calm=true)(hK:z.K=X.K)(hy:X.N[iy]?=!y)(vy:kj X.env.scope y)(dy:(y==(~~~3))=false)(cy:(y==("__classdict__":Str))=false)
  (na:oX X a ia) (va:kj X.env.scope a) (da:(a==(~~~3))=false) (ca:(a==("__classdict__":Str))=false) (nb:oX X b ib) (vb:kj X.env.scope b) (db:(b==(~~~3))=false) (cb:(b==("__classdict__":Str))=false)
  (ht:X.N[it]?=!tn) (vt:kj X.env.scope tn) (dt:(tn==(~~~3))=false) (ct:(tn==("__classdict__":Str))=false) (hgt:g[it]?=!(.dat (.tup ah)))
  (hga:g[ia]?=some .no) (hgb:g[ib]?=some .no) (hay:ia≠iy) (hby:ib≠iy) (hab:ia≠ib) (l1:(RX.endLine==RZ.line)=true) (l2:(R3.endLine==Gn.line)=true)
  {ll0:List (List D)} (hF:iI ah ll0=!Ly) :
  ∃t,PS X (.For (.Tuple [.Name a pa,.Name b pb] tk iY) (.Name tn tp) [.Expr (.Call (.Attribute (.Subscript (.Name y y1) (.Name a a1) sp1) "append" RX) [.Name b b1] [] RZ) ep1,.Expr (.Call (.Attribute (.Subscript (.Name y y2) (.Name b b2) V0) "append" R3) [.Name a a2] [] Gn) ep2] [] JC) t/\
   ∀M0 H0 Y H (E:Ends),Rows z g iy M0 H0 ll0 Y H->(∀σ' H',Rows z g iy M0 H0 Ly σ' H'->E.nx σ' H')->t E Y H:=by
 let(t1,q1,k1):=Bx hy vy dy cy na.ix va da ca nb.ix vb db cb l1;let(t2,q2,k2):=Bx hy vy dy cy nb.ix vb db cb na.ix va da ca l2;apply#[_,GX hp hc (GR (dB ht vt dt ct)) (GJ hc (n6 (kI na.nd na.ix na.lc na.fn) (n6 (kI nb.nd nb.ix nb.lc nb.fn) Aq rfl) rfl) rfl rfl) (dQ q1 (Ao q2)) (λ_=>rfl),λM0 H0 Y H E h kE=>?_]
 let(As,M,ay,as,s,st,h):=h;let(v,ev,rv):=s.sl.oF hgt;cases rv with
 |@tup _ at' xs ha rr=>
  apply#[.ref at',ev,at',rfl,#[xs,hK▸ha.sq],?_];apply#[λi m σ' H'=>i+m=ah.length/\∃ll,Rows z g iy M H ll σ' H'/\iI (ah.drop i) ll=!Ly,#[ah.length,A4 _,ll0,#[As,M,ay,as,s,au.refl _ _,h],hF],?_]
  rintro i m σ' H' ⟨him,ll,hr,hf⟩;let(bu,M2,ay2,as2,s2,aI,h2):=id hr;have ha2:TupAt z.K M2 H' at' xs:=by
   rcases ha with ⟨n,hq⟩ |hq
   . show .inl (aI.rd n hq)
   . show .inr hq
  have Gh:=rr.stay aI;cases e:ah[i]? with
  |none=>
   have hi:i=ah.length:=by have:=BA.mp e;lia
   subst hi;rw[List.drop_length]at hf;cases hf;show .inl #[#[xs,hK▸ha2.sq,by rw[<- rr.length];show eD _],kE σ' H' (hr.trans st)]
  |some d=>
   rw[drop_cons e]at hf;have hi:=(dE.mp e).1;let(xd,e1,e2):=Gh.get e;cases hd:wD ll d with
   |none=>
    have hf:(match wD ll d with |some RW=>iI (ah.drop (i+1)) RW |none=>none)=!Ly:=hf
    rw[hd]at hf;cases hf
   |some RW=>
    have hf:(match wD ll d with |some RW=>iI (ah.drop (i+1)) RW |none=>none)=!Ly:=hf
    rw[hd]at hf;let(Yt,Yu,r1,r2,rfl,g1,g2,g3,g4,rfl):=Jz hd;cases e2 with
    |@tup _ ad ys had rad=>
     cases rad with
     |cons ra rad=>cases rad with
      |cons rb rad=>
       cases rad;cases ra;cases rb;apply .inr #[#[xs,.ref ad,hK▸ha2.sq,e1],λDk Dl=>∃ll,Rows z g iy M H ll Dk Dl/\iI (ah.drop (i+1)) ll=!Ly,λDk Dl hN=>#[m - 1,(ar1 him hi).1,(ar1 him hi).2,hN],λx H2 hx=>?_]
       let(rfl,hy'):=hx;have:=hy' xs (hK▸ha2.sq);rw[e1]at this;cases this;apply#[ad,_,rfl,hK▸had.sq,rfl,_,_,rfl,_,_,rfl,rfl,?_];have aK:=s2.sl.length.symm;have ila:ia<σ'.length:=by rw[aK];show (dE.mp hga).1
       have ilb:ib<σ'.length:=by rw[aK];show (dE.mp hgb).1
       have hr2:=(hr.jB (v:=!(.int Yt)) hga hay).jB (v:=!(.int Yu)) hgb hby
       have va':((σ'.set ia (!(V.int Yt))).set ib (!(V.int Yu)))[ia]?=!(!(.int Yt)):=by rw[fI (n0 hab),hV ila]
       have vb':((σ'.set ia (!(V.int Yt))).set ib (!(V.int Yu)))[ib]?=!(!(.int Yu)):=by rw[hV (by rw[wT];show ilb)]
       show k1 _ _ M H _ ll r1 Yt Yu hr2 va' vb' g1 g2 λH3 hr3=>k2 _ _ M H _ _ r2 Yu Yt hr3 vb' va' g3 g4 λH4 hr4=>#[_,hr4,hf]
end
section
def S.extNo(s:S z g Y As M H)(τ:Sg):S z (g++List.replicate τ.length .no) (Y++τ) As M H:=by
 have hl:=s.sl.length;have q:=s.sl.append (Slots.nos' τ);rw[l9]at q;apply#[q,s.nd,s.sub,λi b l e1 e2=>?_,s.live,s.keep,s.fX,s.m0,s.bm,λp hp=>?_,s.tab,s.tm,s.tt]
 .
  rcases sK i g.length with hi |hi
  . rw[eA hi]at e1;rw[eA ⋯]at e2;show s.own i b l e1 e2
  . rw[fA hi]at e1;have:=i6 e1;rw[w8]at this;cases this.2
 . let(q1,l',q2):=s.gF p hp;show#[by rw[eA (dE.mp q1).1];show q1,l',by rw[eA (dE.mp q2).1];show q2]
def Slots.nosA{K:Frag}:∀{n:Nat}{τ:Sg}{A:List Addr},Slots K M H (List.replicate n .no) τ A->A=[]
 | 0,_,_,q=>by cases q;rfl
 |n+1,_,_,q=>by
  cases q with
  |no q=>show Slots.nosA q
def S.cutNo{τ:Sg}{n:Nat}(s:S z (g++List.replicate n .no) (Y++τ) As M H)(hl:g.length=Y.length)(hz:∀p∈z.lent,p.1<Y.length):S z g Y As M H:=by
 let(σ1,σ2,A1,A2,h1,h2,h3,h4):=s.sl.split;let(rfl,rfl):=List.append_inj h1 (hl.symm.trans h3.length);have:=Slots.nosA h4;subst this;rw[l9]at h2;subst h2;apply#[h3,s.nd,s.sub,λi b l e1 e2=>?_,s.live,s.keep,s.fX,s.m0,s.bm,λp hp=>?_,s.tab,s.tm,s.tt]
 . have hi:=(dE.mp e1).1;show s.own i b l (by rw[eA hi];show e1) (by rw[eA ⋯];show e2)
 . let(c1,l',c2):=s.gF p hp;have lK:=hz p hp;rw[eA lK]at c1;rw[eA ⋯]at c2;show#[c1,l',c2]
end
section
variable{iy im:Nat}
def Er(hj:j<k)(hN:Names X.N N' scope k)(B:aR X.env.scope scope)(hc:X.calm=true)(hx:∀b:Bk,oX (X.blk N' scope b) x (X.N.length+j))(hgr:Gl X "range")(hmr:X.mg "range"=none)
  (R4:g.length=X.N.length) (hm:X.N[im]?=!mn) (vm:kj X.env.scope mn) (dm:(mn==(~~~3))=false) (cm:(mn==("__classdict__":Str))=false) (hgm:g[im]?=!‹m›) (hm1:m<=1000)
  (Dm:X.N.Nodup) (hy:X.N[iy]?=!y) (hl:X.env.scope.names.lookup y=some .local) (hgy:g[iy]?=some .no)
  (hsw:swapsWith (.ListComp (.List [] lp) [#[.Name x px,.Call (.Name "range" rp) [.Name mn mp] [] Yv,[],0]] scope V1) (!(.Name y py)) ap.line X.env=pure true) :
  ∃t,PS X (.Assign [.Name y py] (.ListComp (.List [] lp) [#[.Name x px,.Call (.Name "range" rp) [.Name mn mp] [] Yv,[],0]] scope V1) ap) t/\∀Y As M H (E:Ends),S z g Y As M H->(∀σ' H',Rows z g iy M H (List.replicate m []) σ' H'->E.nx σ' H')->t E Y H:=by
 apply#[_,Ba B hc hN (rG hgr hmr (bI (dB hm vm dm cm) fS rfl)) (λb=>#[kI (hx b).nd (hx b).ix (hx b).lc (hx b).fn,vI,G4 fS]) Dm hy hl hsw (λ_=>rfl),λY As M H E s kE=>?_]
 let(v,ev,rv):=s.sl.oF hgm;cases rv;apply#[.int m,ev,(m:Int),rfl,by lia,by lia,λD hD=>?_]
 have aK:=s.sl.length;have h0D:=s.cC hD;have s1:=s.aN (xs:=[]) hD;apply#[λi n σ' H'=>i+n=m/\∃Mb as w,S z (g++List.replicate (k+1) .no) σ' As Mb H'/\au M H Mb H'/\w.length=k/\σ'=Y++(w++[!(.ref D)])/\D∈Mb/\H' D=!(.lst (as.map .ref))/\D∉as/\as.Nodup/\as.length=i/\fV z As Mb H' as (List.replicate i []),#[m,A4 _,D::M,[],List.replicate k none,?_,au.aN hD,l5,rfl,dA,aA,(λh=>nomatch h),t8,rfl,.nil],?_]
 . have:=s1.extNo (List.replicate k none++[!(.ref D)]);rw[eP,l5]at this;show this
 .
  rintro i n σ' H' ⟨hin,Mb,as,w,s2,aI,hw,rfl,hDm,hDH,hDn,nd,hal,rl⟩;have nDA:D∉As:=λh=>s.fresh hD (s.sub D h)
  by_cases hi:i<m
  .
   apply .inr #[hi,λσ' H'=>∃Mb as w,S z (g++List.replicate (k+1) .no) σ' As Mb H'/\au M H Mb H'/\w.length=k/\σ'=Y++(w++[!(.ref D)])/\D∈Mb/\H' D=!(.lst (as.map .ref))/\D∉as/\as.Nodup/\as.length=i+1/\fV z As Mb H' as (List.replicate (i+1) []),λDk Dl hN=>#[n - 1,(ar1 hin hi).1,(ar1 hin hi).2,hN],λx' H2 hx' bk _=>?_]
   let(rfl,rfl):=hx';have es:(Y++(w++[!(V.ref D)])).set (X.N.length+j) (!(.int (0+(i:Int))))=Y++(w.set j (!(.int (0+(i:Int))))++[!(V.ref D)]):=by rw[<- R4,aK,A6 _ _ (CO _ _),tJ,List.set_append_left _ _ ⋯]
   have s3:S z (g++List.replicate (k+1) .no) (Y++(w.set j (!(.int (0+(i:Int))))++[!(V.ref D)])) As Mb H2:=by rw[<- es];show s2.jB (by rw[<- R4,fA (CO _ _),BO,i8 ⋯])
   delta vB Rz;dsimp only;rw[i8 rfl];rw[es];apply#[tS _,λp hp=>?_]
   have pD:p≠D:=λe=>by rw[e,hDH]at hp;cases hp
   have pas:∀q∈as,q≠p:=λq hq e=>by
    let(_,_,_,xs,hx):=rl.mem q hq;rw[e,hp]at hx;cases hx
   have hD1:upd H2 p (.lst []) D=!(.lst (as.map .ref)):=by rw[az (n0 pD)];show hDH
   have s4:=s3.aN (xs:=[]) hp;have s5:=s4.Jl (xs':=as.map .ref++[.ref p]) (bP _ hDm) nDA h0D hD1;have dY:au Mb H2 (p::Mb) (upd H2 p (.lst [])):=au.aN hp;have vg:au (p::Mb) (upd H2 p (.lst [])) (p::Mb) (upd (upd H2 p (.lst [])) D (.lst (as.map .ref++[.ref p]))):=au.write (bP _ hDm);apply#[as.map .ref,hD1,?_,p::Mb,as++[p],_,s5,(aI.trans dY).trans vg,by rw[wT];show hw,rfl,bP _ hDm,?_,?_,?_,?_,?_]
   . rw[eJ,sB];lia
   . rw[aA,oC];rfl
   .
    intro h;rcases oP.mp h with h |h
    . show hDn h
    . show pD (hU.mp h).symm
   .
    apply sT.mpr #[nd,hZ.mpr #[by simp,t8],λq hq r hr e=>?_]
    rw[hU.mp hr]at e;show pas q hq e
   . rw[eP,hal];rfl
   .
    have r1:=rl.stay (dY.trans vg) λq hq=>#[bP _ (rl.mem q hq).1,by rw[az (show q≠D from λe=>hDn (by rw[<- e];show hq)),az (pas q hq)]]
    rw[show List.replicate (i+1) ([]:List Ev.D)=List.replicate i []++[[]]from List.replicate_succ']
    show r1.push dA (λh=>s2.fresh hp (s2.sub p h)) (s2.cC hp) (by rw[az pD];show aA) .nil
  .
   have hi':i=m:=by lia
   subst hi';apply .inl #[eD _,?_];have s3:=s2.cutNo aK λp hp=>(dE.mp (s.gF p hp).1).1
   have hly:iy<Y.length:=by rw[<- aK];show (dE.mp hgy).1
   show kE _ _ #[As,Mb,D,as,s3.jB hgy,aI,hV hly,hDm,nDA,h0D,hDH,hDn,nd,rl]
end
section
variable{iy im ia ib it:Nat}
def zq(hp:PassesOwn (~~~2) X.A X.env X.xe)(hK:z.K=X.K)(hj:j<k)(hN:Names X.N N' scope k)(B:aR X.env.scope scope)(hc:X.calm=true)(hx:∀b:Bk,oX (X.blk N' scope b) x (X.N.length+j))(hgr:Gl X "range")(hmr:X.mg "range"=none)
  (hm:X.N[im]?=!mn) (vm:kj X.env.scope mn) (dm:(mn==(~~~3))=false) (cm:(mn==("__classdict__":Str))=false) (hgm:g[im]?=!‹m›) (hm1:m<=1000)
  (Dm:X.N.Nodup) (hy:X.N[iy]?=!y) (hl:X.env.scope.names.lookup y=some .local) (dy:(y==(~~~3))=false) (cy:(y==("__classdict__":Str))=false) (hgy:g[iy]?=some .no)
  (hsw:swapsWith (.ListComp (.List [] lp) [#[.Name x px,.Call (.Name "range" rp) [.Name mn mp] [] Yv,[],0]] scope V1) (!(.Name y py)) ap.line X.env=pure true)
  (na:oX X a ia) (va:kj X.env.scope a) (da:(a==(~~~3))=false) (ca:(a==("__classdict__":Str))=false) (nb:oX X b ib) (vb:kj X.env.scope b) (db:(b==(~~~3))=false) (cb:(b==("__classdict__":Str))=false)
  (ht:X.N[it]?=!tn) (vt:kj X.env.scope tn) (dt:(tn==(~~~3))=false) (ct:(tn==("__classdict__":Str))=false) (hgt:g[it]?=!(.dat (.tup ah)))
  (hga:g[ia]?=some .no) (hgb:g[ib]?=some .no) (hay:ia≠iy) (hby:ib≠iy) (hab:ia≠ib) (l1:(RX.endLine==RZ.line)=true) (l2:(R3.endLine==Gn.line)=true) (hF:iI ah (List.replicate m [])=!Ly) :
  pF X z [.Assign [.Name y py] (.ListComp (.List [] lp) [#[.Name x px,.Call (.Name "range" rp) [.Name mn mp] [] Yv,[],0]] scope V1) ap,.For (.Tuple [.Name a pa,.Name b pb] tk iY) (.Name tn tp) [.Expr (.Call (.Attribute (.Subscript (.Name y y1) (.Name a a1) sp1) "append" RX) [.Name b b1] [] RZ) ep1,.Expr (.Call (.Attribute (.Subscript (.Name y y2) (.Name b b2) V0) "append" R3) [.Name a a2] [] Gn) ep2] [] JC,.Return (!(.Name y yr)) rpos] g (.rt (.dat (.lst (Ly.map .lst)))) g:=by
 have vy:kj X.env.scope y:=.inl hl;by_cases R4:g.length=X.N.length
 .
  let(t1,q1,k1):=Er hj hN B hc hx hgr hmr R4 hm vm dm cm hgm hm1 Dm hy hl hgy hsw;have q3:PS X (.Return (!(.Name y yr)) rpos) _:=yE (dB hy vy dy cy);have fin:∀M H (E:Ends) σ' H',oV z M H E g (.rt (.dat (.lst (Ly.map .lst))))->Rows z g iy M H Ly σ' H'->Y8 iy σ' H' E.rt:=λM H E σ' H' kE h=>by
   let(As,M2,ay,as,s,st,e1,hm,hA,h0,ha,nay,nd,rl):=h;let(M3,s3,k3,k4):=S.By (ay::as) s λp hp=>by
    rcases dS.mp hp with rfl |hp
    . show#[hA,h0]
    . show#[(rl.mem p hp).2.1,(rl.mem p hp).2.2.1]
   show#[.ref ay,e1,kE _ σ' As M3 H' s3 (st.trans (au.less k3)) (.lst #[k4 _ dA,ha] (rl.reps k3 λp hp=>k4 p (bP _ hp)))]
  have mid:∃t,PS X (.For (.Tuple [.Name a pa,.Name b pb] tk iY) (.Name tn tp) [.Expr (.Call (.Attribute (.Subscript (.Name y y1) (.Name a a1) sp1) "append" RX) [.Name b b1] [] RZ) ep1,.Expr (.Call (.Attribute (.Subscript (.Name y y2) (.Name b b2) V0) "append" R3) [.Name a a2] [] Gn) ep2] [] JC) t/\
   ∀M0 H0 Y H (E:Ends),Rows z g iy M0 H0 (List.replicate m []) Y H->(∀σ' H',Rows z g iy M0 H0 Ly σ' H'->E.nx σ' H')->t E Y H:=JB hp hc hK hy vy dy cy na va da ca nb vb db cb ht vt dt ct hgt hga hgb hay hby hab l1 l2 hF
  let(t2,q2,k2):=mid;apply#[[t1,t2,_],.cons q1 (.cons q2 (.cons q3 .nil)),λu Y As M H E s kE=>?_]
  show k1 Y As M H _ s λσ' H' h'=>k2 M H σ' H' _ h' λσ2 H2 h2=>fin M H _ σ2 H2 kE h2
 .
  have no:∀st:Stmt,PS X st (λ_ Y _=>Y.length≠X.N.length):=λst aj s Y H D I h=>absurd I.len h
  show#[[_,_,_],.cons (no _) (.cons (no _) (.cons (no _) .nil)),λu Y As M H E s kE=>λe=>R4 (s.sl.length.trans e)]
end
end Ev
namespace HT
open PySem PyProof.Rows
end HT
namespace Ev
open L2
section
variable{z:Z}{g:G}{Y:Sg}{As M:List Addr}{H:Hp}
abbrev gD(k:Nat)(g:G):G:=g++List.replicate (k+1) .no
def wF{K:Frag}:∀τ:Sg,Slots K M H (List.replicate τ.length .no) τ []
 | []=>.nil
 |_::τ=>.no (wF τ)
def S.wide(s:S z g Y As M H)(τ:Sg):S z (g++List.replicate τ.length .no) (Y++τ) As M H:=by
 have q:=s.sl.append (wF τ);rw[l9]at q;have hl:=s.sl.length;apply#[q,s.nd,s.sub,λi b l e1 e2=>?_,s.live,s.keep,s.fX,s.m0,s.bm,λp hp=>?_,s.tab,s.tm,s.tt]
 .
  rcases sK i g.length with hi |hi
  . rw[eA hi]at e1;rw[eA ⋯]at e2;show s.own i b l e1 e2
  . rw[fA hi]at e1;have:=i6 e1;rw[w8]at this;show absurd this.2 ⋯
 . let(q1,l,q2):=s.gF p hp;show#[by rw[eA (dE.mp q1).1];show q1,l,by rw[eA (dE.mp q2).1];show q2]
def S.narrow(s:S z gb (Y++τ) As M H)(hz:∀p∈z.lent,p.1<Y.length):∃A1,S z (gb.take Y.length) Y A1 M H/\∀a∈A1,a∈As:=by
 have hl:=s.sl.length;rw[eP]at hl;have q:=s.sl;rw[<- AL Y.length gb]at q;let(σ1,σ2,A1,A2,h1,h2,h3,h4):=q.split;have l1:=h3.length;rw[x5,Nat.min_eq_left ⋯]at l1;let(rfl,rfl):=List.append_inj h1 l1;subst h2;have tk:∀(j:Nat) (o:Slot),(gb.take Y.length)[j]?=!o->gb[j]?=!o/\j<Y.length:=λj o e=>by
  have hj:=(dE.mp e).1;rw[x5]at hj;have hj':=eM hj (Nat.min_le_left _ _);rw[vS hj']at e;show#[e,hj']
 apply#[A1,#[h3,(sT.mp s.nd).1,λb hb=>s.sub b (l8 _ hb),λj b l c1 c2=>?_,s.live,s.keep,s.fX,s.m0,s.bm,λp hp=>?_,s.tab,s.tm,s.tt],λa ha=>l8 _ ha]
 . let(c3,c4):=tk j _ c1;show s.own j b l c3 (by rw[eA c4];show c2)
 . let(c1,l,c2):=s.gF p hp;have lK:=hz p hp;rw[eA lK]at c1;show#[c1,l,by rw[vS lK];show c2]
end
section
variable{X:Cx}{z:Z}{g g1:G}{pos:Pos}
abbrev rIcat:TIp:=λx y H Q=>∃l b xs zs,x=.ref l/\y=.ref b/\H l=!(.lst xs)/\H b=!(.lst zs)/\xs.length+zs.length<=sizeLine/\Q (.ref l) (upd H l (.lst (xs++zs)))
def V2:PIp X .Add rIcat:=by
 intro aj s Y H x y v u Q I r1 r2 h;let(l,b,xs,zs,rfl,rfl,hH,hB,hz,q):=h;cases r1;cases r2;let(z,its,n,r,hl,e):=I.tY hH;let(z2,lI,n2,r2,hl2,e2):=I.tY hB;have jo:its.toArray.size+lI.toArray.size<=sizeLine:=by rw[dL,dL];lia
 have vG : ¬ ((not its.toArray.isEmpty)&&Builtin.List.listTooLong (its.toArray.size+lI.toArray.size))=true:=by rw[oA jo,CF];show t5
 have ta:s.TypeIs (.ref l) "list" :=#[_,e,rfl];have tb:s.TypeIs (.ref b) "list" :=#[_,e2,rfl];have lk:=PySem.F.slot_list_iadd.lookup;have V3:fillsInplaceSlot (.type "list") "add" (Operator.Add==.Add)=pure false:=by
  exact (typeLookup (.type "list") (dunderI "add") >>= λfi=>pure (fi.isSome&&(not (isSeqSlot fi))))=pure false
  rfl
 have hsi:=PySem.seqSlot_of lk (by decide +kernel)
 apply mE (aS (BI ta (aS (wpAny_of_eq V3 ?_))));apply aS (wpAny_binaryOp1_none ta tb noFill_list_add ?_);apply aS (wpAny_of_eq hsi (aS (AJ ?_)));apply Cc PySem.F.slot_list_iadd ta PySem.F.entry_list_iadd (PySem.F.args_list_iadd_2 _ _) (AutoSeq1.list___iadd___list_list_0 l its.toArray n b lI.toArray n2 vG (by rw[dL];lia) ⋯) #[e,e2,?_]
 apply#[.ref l,_,I.Mz hH e ⋯ (r.append r2) ?_,rfl,q];rw[eP];lia
def O2(hn:oX X x i)(h:aB X z e g (.dat (.lst m)) g1)(hg:g[i]?=!(.own l0))(rS:g1[i]?=!(.own l))(hl:l.length+m.length<=16777216) :
  fT X z (.AugAssign (.Name x pos') .Add e pos) g .nx (g1.set i (.own (l++m))):=by
 let(t,q,k):=h;apply#[_,GL hn.nd hn.ix hn.lc q V2 hn.fn,λY As M H E s kk=>?_]
 let(a,xs,e1,e2,e3,e4):=s.sl.at hg;apply#[.ref a,e1,k Y As M H _ s λv H' aC M' s' st R=>?_]
 let(b,ys,f1,f2,f3,f4):=s'.sl.at rS;rw[e1]at f1;injection f1 with f1;injection f1 with f1;injection f1 with f1;subst f1;cases R with
 |@lst _ c zs hc rr=>
  apply#[a,c,ys,zs,rfl,rfl,f3,hc.2,by rw[<- f4.length,<- rr.length];show hl,?_]
  let(s2,aI):=s'.write rS e1 (f4.append rr);have es:Y.set i (!(V.ref a))=Y:=by
   refine List.ext_getElem?;intro j;by_cases hj:i=j
   . subst hj;rw[hV (dE.mp e1).1,e1]
   . rw[fI hj]
  rw[es];show kk _ aC M' _ s2 (st.trans aI)
def V4(h0:0<=j)(h1:j<=1000000)(h2:i.natAbs<2 ^ 64):mS X z (binaryOp .LShift) (.int i) (.int j) (.dat (.int (i * 2 ^ j.toNat))):=by
 apply#[λx y H Q=>x=.int i/\y=.int j/\Q (.int (i * 2 ^ j.toNat)) H,λaj s Y H x y v u Q I r1 r2 h=>?_,λg Y As M H v1 v2 Q s q1 q2 kk=>#[q1.int,q2.int,kk _ H As M s (au.refl _ _) (.int _)]]
 let(rfl,rfl,q):=h;let(t,rfl):=r1;let(t',rfl):=r2;show lshift_int_small h0 h1 h2 #[.int _,H,I.tok _,#[_,rfl],q]
end
open L2 PySem.W SeqAt
open L2 PySem.W SeqAt
open L2 PySem.W SeqAt
open L2 PySem.W SeqAt
open L2 PySem.W
section
variable{prog:Program}{w:World}{A:Around}{R:Result->Shared->Prop}{I S:Addr}{fp wr:List Addr}{n:Nat}{P:Nat->Value->Prop}{St:Nat->Heap->Prop}{h0:Heap}{bt:Nat->Nat->Bool}
meta abbrev Gp(h h':Heap):Prop:=∀b o,h.get? b=!o->h'.get? b=!o
abbrev BG(prog:Program)(w:World)(A:Around)(h0:Heap)(P:Nat->Value->Prop)(bt:Nat->Nat->Bool):Prop:=
 ∀i j u v (s:Shared) (Q E:Value->Shared->Prop),Gp h0 s.heap->P i u->P j v->Q (.bool (bt i j)) s->wpAny (model prog w) A (richCompare .Lt u v) Q E s
def zu(W:Walks prog w A.in1 I fp wr n P St)(hc:BG prog w A.in1 h0 P bt)(hS:S∉fp)(hw:∀b o,h0.get? b=!o->b∉wr/\b≠S):∀(k j:Nat) (s:Shared) (v:Value) (c:Nat),n - (j+1)=k->j+1<=n->St (j+1) s.heap->P (argBest bt j) v->Gp h0 s.heap->
   s.heap.get? S=some { cls:=.type "list",dict:=none,data:=.seq ([v,v].toArray) c,slots:=([].toArray)}->(∀u h tk,P (argBest bt (n - 1)) u->Gp h0 h->R (.ok (.ret u)) { s with heap:=h,toks:=tk})->
   codeAny (model prog w) A (.builtin "min.loop" #[[.ref I,.none,.ref S],[]]) R s:=by
 have hSw:S∉wr:=λz=>hS (W.sub _ z)
 have nm:(toString "min" ++ toString ".loop":String) = "min.loop" :=by decide
 intro k
 induction k with
 |zero=>
  intro j s v c hk hj st hp old oS fin;obtain rfl:n=j+1:=by lia
  apply AS F.entry_min_loop ?_;apply aS (wS oS rfl ?_);apply aS (wpAny_tryCatch (W.done s _ _ st λh tk kp=>?_))
  apply aS (B2 (kp S _ hSw oS) rfl (aS (CB (dC ?_))));show fin v _ tk hp λb o e=>(i5 _ _ (n0 (hw b o e).2)).trans (kp b o (hw b o e).1 (old b o e))
 |succ k ih=>
  intro j s v c hk hj st hp old oS fin;have hlt:j+1<n:=by lia
  apply AS F.entry_min_loop ?_;apply aS (wS oS rfl ?_);apply aS (wpAny_tryCatch (W.item (j+1) s _ _ hlt st λu h tk hu aI kp=>?_))
  have Yw:=kp S _ hSw oS;have V5:Gp h0 h:=λb o e=>kp b o (hw b o e).1 (old b o e)
  exact wpAny _ _ (tryCatch (holding [u,u] (richCompare .Lt u v >>= _)) _ >>= _) _ _ _;apply aS (wpAny_tryCatch (mE (aS (hc (j+1) (argBest bt j) u v _ _ _ V5 hu hp ?_))));apply aS (mE (nK ?_));apply aS (CB (dC ?_));cases hb:bt (j+1) (argBest bt j)with
  |true=>
   apply aS (B2 Yw rfl (aS (CB ?_)));apply dC #[B3 CS _,ih (j+1) _ u _ ⋯ hlt (W.frame _ _ _ aI λb hb o e=>?_) (by simp only[argBest,hb];show hu) (λb o e=>?_) (mB _ Yw rfl) fin]
   . show (i5 _ _ (λz:S=b=>hS (z▸hb))).trans e
   . show (i5 _ _ (n0 (hw b o e).2)).trans (V5 b o e)
  |false=>apply aS (CB ?_);show dC #[B3 CS _,ih (j+1) _ v c ⋯ hlt aI (by simp only[argBest,hb];show hp) V5 Yw fin]
def wG(W:Walks prog w A.in1 I fp wr n P St)(hc:BG prog w A.in1 h0 P bt)(hS:S∉fp)(hw:∀b o,h0.get? b=!o->b∉wr/\b≠S)(hn:0<n)(st:St 0 s.heap)(old:Gp h0 s.heap)
  (oS:s.heap.get? S=some { cls:=.type "list",dict:=none,data:=.seq ([].toArray) c,slots:=([].toArray)}) (fin:∀u h tk,P (argBest bt (n - 1)) u->Gp h0 h->R (.ok (.ret u)) { s with heap:=h,toks:=tk}) :
   codeAny (model prog w) A (.builtin "min.loop" #[[.ref I,.none,.ref S],[]]) R s:=by
 have hSw:S∉wr:=λz=>hS (W.sub _ z)
 have nm:(toString "min" ++ toString ".loop":String) = "min.loop" :=by decide
 apply AS F.entry_min_loop ?_;apply aS (wS oS rfl ?_);apply aS (wpAny_tryCatch (W.item 0 s _ _ hn st λu h tk hu aI kp=>?_))
 have Yw:=kp S _ hSw oS;exact wpAny _ _ (updateSeq S (λ_=>([u,u].toArray)) >>= _) _ _ _
 apply aS (B2 Yw rfl ?_);apply dC #[B3 CS _,zu W hc hS hw _ 0 _ u _ rfl hn (W.frame _ _ _ aI λb hb o e=>?_) hu (λb o e=>?_) (mB _ Yw rfl) fin]
 . show (i5 _ _ (λz:S=b=>hS (z▸hb))).trans e
 . show (i5 _ _ (n0 (hw b o e).2)).trans (kp b o (hw b o e).1 (old b o e))
def pG
  (h:wpAny (model prog w) A.in1 (pyIter x) (λit t=>∃I fp wr n P St bt,it=.ref I/\Walks prog w A.in1 I fp wr n P St/\St 0 t.heap/\(∀b∈fp,b<t⁻¹)/\0<n/\BG prog w A.in1 s.heap P bt/\Gp s.heap t.heap/\(∀b o,s.heap.get? b=!o->b∉wr)/\
   ∀v h' tk,P (argBest bt (n - 1)) v->Gp s.heap h'->Q v { t with heap:=h',toks:=tk}) E s) :
  wpAny (model prog w) A (call (.builtin "min") [x]) Q E s:=by
 have nm:(toString "min" ++ toString ".loop":String) = "min.loop" :=by decide
 apply call_function_tree F.kind_min F.plain_min F.entry_min (F.args_min1 _) ?_;apply aS (wpAny_of_eq (show Builtin.Builtins.bindParams "min" ["key", "default"] 0 #[[],[]]=pure [none,none]from rfl) ?_)
 apply aS (dC ?_);apply aS (kA h (λit t z=>?_) λ_ _ e=>e)
 let(I,fp,wr,n,P,St,bt,rfl,W,st,hf,hn,hc,old,hw,fin):=z;apply aS (nS ?_);have hS:t⁻¹∉fp:=λz=>nV _ (hf _ z)
 show dC #[B3 CS _,wG W hc hS (λb o e=>#[hw b o e,kS (eQ (old b o e))]) hn (W.frame _ _ _ st λb _ o e=>b0 _ e) (λb o e=>b0 _ (old b o e)) (eC _ rfl) fin]
end
open L2 PySem.W
section
variable{α:Type} [DecidableEq α] (O:iG α)
abbrev jR:List α->List α->Bool
 | [],[]=>false
 | [],_::_=>true
 |_::_,[]=>false
 |a::l,b::m=>if a=b then jR l m else O.lt a b
def kX:∀a:List α,jR O a a=false
 | []=>rfl
 |a::l=>by
  delta jR;rw[i8 rfl,kX l]
def BJ:∀a b c:List α,jR O a b=true->jR O b c=true->jR O a c=true
 | [],[],_,h,_=>by symm
 | [],_::_,[],_,h=>by symm
 | [],_::_,_::_,_,_=>rfl
 |_::_,[],_,h,_=>by symm
 |_::_,_::_,[],_,h=>by symm
 |x::a,y::b,z::c,h,k=>by
  delta jR at h k ⊢
  by_cases e:x=y
  .
   subst e;rw[i8 rfl]at h;by_cases e2:x=z
   .
    rw[i8 e2]at k ⊢
    show BJ a b c h k
   .
    rw[i7 e2]at k ⊢
    show k
  .
   rw[i7 e]at h;by_cases e2:y=z
   . subst e2;rw[i7 e];show h
   .
    rw[i7 e2]at k;have hx:=O.tr x y z h k;rw[i7 (λe3=>by rw[e3,O.irr]at hx;cases hx)]
    show hx
def wH:∀a b:List α,jR O a b=false->jR O b a=false->a=b
 | [],[],_,_=>rfl
 | [],_::_,h,_=>by symm
 |_::_,[],_,h=>by symm
 |x::a,y::b,h,k=>by
  delta jR at h k;by_cases e:x=y
  . subst e;rw[i8 rfl]at h k;rw[wH a b h k]
  . rw[i7 e]at h;rw[i7 (n0 e)]at k;show absurd (O.tot x y h k) e
abbrev linG:iG (List α):=#[jR O,kX O,BJ O,wH O]
end
abbrev pH:iG (~~~5):=linG ez
abbrev JD(A:Around)(s:Shared)(x y:Value)(b:Bool):Prop:=
 ∀(prog:Program) (w:World) (E:Value->Shared->Prop) (Q:Value->Shared->Prop),Q (.bool b) s->wpAny (model prog w) A (richCompare .Lt x y) Q E s
inductive Gq(A:Around)(s:Shared):List Value->List Value->Bool->Prop
 |nn:Gq A s [] [] false
 |nc:Gq A s [] (y::ws) true
 |cn:Gq A s (x::vs) [] false
 |eq:SeqAt.EqAt A s x y true->Gq A s vs ws b->Gq A s (x::vs) (y::ws) b
 |ne:SeqAt.EqAt A s x y false->JD A s x y b->Gq A s (x::vs) (y::ws) b
section
open PySem.SeqAt
open PySem.AutoSeq1 (wpAny_loadPart')
open PySem.MeetsSeq PySem.MeetsSeq2 PySem.MeetsSeq3
def zz(l b:Addr)(ak items2:Array Value)(n n2:Nat)(dd dd2:Option Addr)(sl sl2:Array (Option Value))(c:Bool) :
  Meets (Builtin.«tuple.__lt__» #[[.ref l,.ref b],[]])
   (λA R s=>s.heap.get? l=some { cls:=.type "tuple",dict:=dd,data:=.seq ak n,slots:=sl}/\s.heap.get? b=some { cls:=.type "tuple",dict:=dd2,data:=.seq items2 n2,slots:=sl2}/\
    Gq A.in1 s ak.toList items2.toList c/\R (.ok (.ret (.bool c))) s):=
 .of_wp λprog w A R s h=>by
  let(hp,g,d,tk,os):=s;let(hl,hb,hw,h):=h;have f2:=AutoSeq1.sub_tuple_tuple
  wp_walk using wpAny_loadPart' hl,wpAny_loadPart' hb,wpAny_forIn_list _ (λrest b s'=>b.1=none/\s'=#[hp,g,d,tk,os]/\∃(vs ws:List Value),rest=vs.zip ws/\
   Gq A.in1 #[hp,g,d,tk,os] vs ws c/\vs.length+items2.size=ws.length+ak.size/\R (.ok (.ret (.bool c))) #[hp,g,d,tk,os]) _
  case turn=>
   rintro⟨y,x⟩ rest b s' ⟨hb',rfl,vs,ws,hz,hlt,aK,hR⟩;cases hlt with
   |nn=>rw[List.zip_nil_left]at hz;cases hz
   |nc=>rw[List.zip_nil_left]at hz;cases hz
   |cn=>rw[List.zip_nil_right]at hz;cases hz
   |eq he ht=>
    rw[AB]at hz;injection hz with hyx hrest;injection hyx with hy hx;subst hy hx;simp only[i9]at aK;apply aS (he prog w _ _ ?_)
    wp_walk
    show#[rfl,rfl,_,_,hrest,ht,by lia,hR]
   |ne he ht=>
    rw[AB]at hz;injection hz with hyx hrest;injection hyx with hy hx;subst hy hx;apply aS (he prog w _ _ ?_);have hri:=λE Q h=>ht prog w E Q h
    wp_walk using hri
    show#[_,rfl,by simpa using hR]
  case fin=>
   rintro⟨b1,b2⟩ s' ⟨hb',rfl,vs,ws,hz,hlt,aK,hR⟩;simp only at hb';subst hb';have hv:c=decide (ak.size<items2.size):=by
    cases hlt with
    |nn=>simp only[AQ]at aK;show (nE ⋯).symm
    |nc=>simp only[AQ,i9]at aK;show (mM ⋯).symm
    |cn=>simp only[AQ,i9]at aK;show (nE ⋯).symm
    |eq _ _=>rw[AB]at hz;cases hz
    |ne _ _=>rw[AB]at hz;cases hz
   rw[hv]at hR
   wp_walk
   show#[_,rfl,by simpa [Builtin.Tuple.tupleCompareSizes]using hR]
  case h=>show#[rfl,rfl,ak.toList,items2.toList,rfl,hw,by simp;lia,h]
end
section
variable{A:Around}{s:Shared}
def uy(hl:IsTup s.heap l ak)(hb:IsTup s.heap b items2)(hw:Gq A.in1 s ak.toList items2.toList c)(hu:A.units<cLine):JD A s (.ref l) (.ref b) c:=λprog w E Q h=>by
 let((cls,dd,data,sl),ho,hc,n,hd):=id hl;let((T6,dd2,data2,sl2),ho2,hc2,n2,hd2):=id hb;simp only at hc hd hc2 hd2;subst hc hd hc2 hd2;show richCompare_meets_room (op:=.Lt) #[_,ho,rfl] #[_,ho2,rfl] PySem.F.slot_tuple_lt PySem.F.entry_tuple_lt (PySem.F.args_tuple_lt_2 _ _) (zz l b ak items2 n n2 dd dd2 sl sl2 c)
  #[ho,ho2,hw,show Value.bool c≠Value.notImplemented/\Q (.bool c) s from#[(λx=>nomatch x),h]] hu
end
def Dv.keep(k:Gp h h')(q:Dv h d u):Dv h' d u:=by
 apply Dv.rec (motive_1:=λd u _=>Dv h' d u) (motive_2:=λl us _=>jO h' l us) ?_ ?_ ?_ ?_ ?_ ?_ ?_ ?_ ?_ q
 . show .non
 . show λb=>.bl b
 . show λi t=>.int i t
 . show λx t=>.str x t
 . show λx _ ih=>.tup (x.keeps k) ih
 . show λx _ ih=>.lst (let #[o,e,r]:=x;#[o,k _ _ e,r]) ih
 . show λx _ ih=>.fix (let #[o,e,r]:=x;#[o,k _ _ e,r]) ih
 . show .nil
 . show λ_ _ a b=>.cons a b
def uz:∀a b:List Int,dc (a.map .int) (b.map .int)=decide (a=b)
 | [],[]=>rfl
 | [],_::_=>rfl
 |_::_,[]=>rfl
 |x::a,y::b=>by
  simp only[List.map_cons,dc,bV,uz a b,B4,Bool.decide_and];rfl
def pI:∀a b:List (~~~0),dc (a.map λx=>.tup (x.map .int)) (b.map λx=>.tup (x.map .int))=decide (a=b)
 | [],[]=>rfl
 | [],_::_=>rfl
 |_::_,[]=>rfl
 |x::a,y::b=>by
  simp only[List.map_cons,dc,bV,pI a b,uz,B4,Bool.decide_and]
def wI(l: ~~~0):deps (l.map .int)=0:=by
 induction l with
 |nil=>rfl
 |cons a l ih=>simp[deps,dep,ih]
def wJ(l: ~~~5):deps (l.map λx=>.tup (x.map .int))<=1:=by
 induction l with
 |nil=>show tS _
 |cons a l ih=>simp only[List.map_cons,deps,dep,wI];lia
def wK(l: ~~~0):dR (l.map .int)=true:=by
 induction l with
 |nil=>rfl
 |cons a l ih=>simp[dR,fM,ih]
def JF(l: ~~~5):dR (l.map λx=>.tup (x.map .int))=true:=by
 induction l with
 |nil=>rfl
 |cons a l ih=>simp only[List.map_cons,dR,fM,wK,ih];rfl
abbrev jC: ~~~5->D
 | [m]::ts=>.tup [.int m,.tup (ts.map λx=>.tup (x.map .int))]
 |_=>.non
abbrev zA:D->Option (~~~5)
 |.tup [.int m,.tup l]=>(match eH l with |some ts=>!([m]::ts) |none=>none)
 |_=>none
abbrev iJ:List D->Option (List (~~~5))
 | []=>![]
 |d::l=>(match zA d with |some k=>(match iJ l with |some ks=>!(k::ks) |none=>none) |none=>none)
def uA:∀{l:List D}{rD: ~~~5},eH l=!rD->l=rD.map λns=>.tup (ns.map .int)
 | [],_,e=>by cases e;rfl
 |d::l,rD,e=>by
  cases d with
  |tup m=>
   delta eH at e;split at e
   . ext n ns rD e1 e2;cases e;rw[List.map_cons,<- uA e2,Oi e1]
   . cases e
  |_=>cases e
def O4(e:zA d=!k):∃m ts,k=[m]::ts/\d=jC k:=by
 delta zA at e;split at e
 .
  ext m l;split at e
  . ext ts e1;cases e;apply#[m,ts,rfl,?_];rw[uA e1];rfl
  . cases e
 . cases e
def pJ:∀{l:List D}{ks:List (~~~5)},iJ l=!ks->l=ks.map jC/\∀k∈ks,∃m ts,k=[m]::ts
 | [],_,e=>by cases e;show#[rfl,λ_ z=>nomatch z]
 |d::l,ks,e=>by
  delta iJ at e;split at e
  .
   ext k e1;split at e
   . ext ks e2;cases e;let(h1,h2):=pJ e2;let(m,ts,h3,h4):=O4 e1;show#[by rw[List.map_cons,<- h1,<- h4],λk hk=>(dS.mp hk).elim (λz=>#[m,ts,by rw[z];show h3]) (h2 k)]
   . cases e
  . cases e
def jO.ints:∀{ns: ~~~0}{us:List Value},jO h (ns.map .int) us->IntsAre us ns
 | [],us,q=>by cases q;show .nil
 |n::ns,us,q=>by
  cases q with
  |cons a b=>cases a;show .cons _ _ b.ints
section
variable{A:Around}{s:Shared}
def uB:∀{ts ss: ~~~5}{us ws:List Value},jO s.heap (ts.map λx=>.tup (x.map .int)) us->jO s.heap (ss.map λx=>.tup (x.map .int)) ws->A.units+1<cLine->Gq A s us ws (jR ez ts ss)
 | [],[],_,_,q,q',_=>by cases q;cases q';show .nn
 | [],_::_,_,_,q,q',_=>by cases q;cases q';show .nc
 |_::_,[],_,_,q,q',_=>by cases q;cases q';show .cn
 |t::ts,x::ss,_,_,q,q',hu=>by
  cases q with
  |cons a b=>
   cases q' with
   |cons a' b'=>
    have he:=(rR (A:=A) 1 (by simp only[dep,wI];lia) a a' hu).1
    have e1:bV (.tup (t.map .int)) (.tup (x.map .int))=decide (t=x):=uz t x;rw[e1]at he;delta jR;by_cases e:t=x
    . rw[mM e]at he;rw[i8 e];show .eq he (uB b b' hu)
    .
     rw[nE e]at he;rw[i7 e];cases a with
     |tup i1 v1=>
      cases a' with
      |tup i2 v2=>show .ne he λprog w E Q h=>HT.oq i1 i2 v1.ints v2.ints ⋯ h
def O5(x:Dv s.heap (.tup (ts.map λx=>.tup (x.map .int))) p)(y:Dv s.heap (.tup (ss.map λx=>.tup (x.map .int))) q)(hu:A.units+2<cLine):Gq A s [.int m t1,p] [.int n t2,q] (pH.lt ([m]::ts) ([n]::ss)):=by
 let(e,he,hi):=HT.vE A s m t1 n t2;exact Gq A s _ _ (if [m]=[n]then jR ez ts ss else HT.lexLt [m] [n])
 cases e with
 |true=>
  have hmn:m=n:=hi.mp rfl;rw[i8 (by rw[hmn])]
  apply .eq he ?_;have h2:=(rR (A:=A) 2 (by have:=wJ ts;simp only[dep];lia) x y hu).1
  have e1:bV (.tup (ts.map λx=>.tup (x.map .int))) (.tup (ss.map λx=>.tup (x.map .int)))=decide (ts=ss):=pI ts ss
  rw[e1]at h2;by_cases e3:ts=ss
  . rw[mM e3]at h2;rw[e3,kX];show .eq h2 .nn
  .
   rw[nE e3]at h2;cases x with
   |tup i1 v1=>
    cases y with
    |tup i2 v2=>show .ne h2 (uy i1 i2 (uB (A:=A.in1) v1 v2 (by rw[in1_units];lia)) ⋯)
 |false=>
  have hmn:m≠n:=λz=>t5 (hi.mpr z)
  rw[i7 (by simpa using hmn)]
  apply .ne he λprog w E Q h=>HT.vF A s m t1 n t2 prog w E Q ?_
  rw[HT.bD,i7 hmn]at h;show h
def V6(h1:∃m ts,k1=[m]::ts)(h2:∃m ts,k2=[m]::ts)(x:Dv s.heap (jC k1) u1)(y:Dv s.heap (jC k2) u2)(hu:A.units+3<cLine):JD A s u1 u2 (pH.lt k1 k2):=by
 let(m,ts,rfl):=h1;let(n,ss,rfl):=h2;cases x with
 |tup i1 v1=>
  cases y with
  |tup i2 v2=>
   cases v1 with
   |cons a b=>
    cases b with
    |cons b c=>
     cases c;cases a;cases v2 with
     |cons a' b'=>
      cases b' with
      |cons b' c'=>cases c';cases a';show uy i1 i2 (O5 (A:=A.in1) b b' (by rw[in1_units];lia)) ⋯
end
open L2 PySem.W
abbrev kY{α:Type}(O:iG α)(n:α):List α->α
 | []=>n
 |m::l=>kY O (if O.lt m n then m else n) l
section
variable{α:Type}(O:iG α)(d0:α)
def sA:∀(l:List α) (n m:α),kY O n (l++[m])=if O.lt m (kY O n l)then m else kY O n l
 | [],_,_=>rfl
 |_::l,_,m=>sA l _ m
meta abbrev ltAt(L:List α)(i j:Nat):Bool:=O.lt (L.getD i d0) (L.getD j d0)
def sC(n:α)(l:List α):∀k,k<=l.length->argBest (ltAt O d0 (n::l)) k<=k/\(n::l).getD (argBest (ltAt O d0 (n::l)) k) d0=kY O n (l.take k)
 | 0,_=>#[eD _,rfl]
 |k+1,hk=>by
  let(h0,h1):=sC n l k (Nat.le_of_succ_le hk);have hlt:k<l.length:=hk;have e:(n::l).getD (k+1) d0=l[k]:=by simp[hlt]
  have e2:l.take (k+1)=l.take k++[l[k]]:=List.take_succ_eq_append_getElem hlt;rw[e2,sA,<- h1,<- e];exact (if ltAt O d0 (n::l) (k+1) (argBest (ltAt O d0 (n::l)) k)then k+1 else argBest (ltAt O d0 (n::l)) k)<=k+1/\(n::l).getD (if ltAt O d0 (n::l) (k+1) (argBest (ltAt O d0 (n::l)) k)then k+1 else argBest (ltAt O d0 (n::l)) k) d0=_
  delta ltAt;split
  . show#[eD _,rfl]
  . show#[Nat.le_succ_of_le h0,rfl]
end
def uC{κ:Type}{un:κ->D}:∀{l:List κ},(∀k∈l,fM (un k)=true)->dR (l.map un)=true
 | [],_=>rfl
 |k::l,h=>by
  exact (fM (un k)&&dR (l.map un))=true;rw[h k dA,uC λx hx=>h x (bP _ hx)]
  rfl
section
variable{X:Cx}{z:Z}{κ:Type}{O:iG κ}{d0:κ}{un:κ->D}{good:κ->Prop}
def Es(hc:X.calm=true)(ig:∀k,good k->fM (un k)=true)(hlt:∀(s:Shared) k1 k2 u1 u2,good k1->good k2->Dv s.heap (un k1) u1->Dv s.heap (un k2) u2->JD X.A.in1 s u1 u2 (O.lt k1 k2)) :
  eF X (.builtin "min") (λxs H Q=>∃(p:Addr) (ys:List V) (M:List Addr) (n:κ) (l:List κ),xs=[.ref p]/\(cQ X.K H p ys\/iu X.K H p ys)/\aE X.K M H ((n::l).map un) ys/\(∀k∈n::l,good k)/\
   ∀i,i<ys.length->(n::l).getD i d0=kY O n l->Q (ys.getD i .non) H):=by
 intro aj s Y H xs us Q I r h;let(p,ys,M,n,l,rfl,hp,ht,hg,q):=h;let(u,rfl,rx):=vals1 r;cases rx;have hh:X.A.in1.handled=none:=I.ok.hd hc;have hys:ys.length=l.length+1:=by rw[<- ht.length,eJ,i9]
 have cmp:∀its:List Value,Vals ys its->BG X.prog X.w X.A.in1 s.heap (λi v=>its.toArray[i]?=!v) (ltAt O d0 (n::l)):=λits rv=>by
  intro i j u v s' Q E old hi hj hQ;have t:=aE.dv I ht rv (uC λk hk=>ig k (hg k hk))
  have hi:its[i]?=!u:=by simpa using hi
  have hj:its[j]?=!v:=by simpa using hj
  let(d1,e1,v1):=t.get hi;let(d2,e2,v2):=t.get hj;rw[mI]at e1 e2;let(k1,f1,rfl):=AH.mp e1;let(k2,f2,rfl):=AH.mp e2;have g1:(n::l).getD i d0=k1:=by rw[l4,f1];rfl
  have g2:(n::l).getD j d0=k2:=by rw[l4,f2];rfl
  have hQ:Q (.bool (O.lt k1 k2)) s':=by rw[<- g1,<- g2];show hQ
  show hlt s' k1 k2 u v (hg k1 (i6 f1)) (hg k2 (i6 f2)) (v1.keep old) (v2.keep old) X.prog X.w E Q hQ
 have fin:∀(its:List Value) (v:Value) (h':Heap) (tk:Nat),Vals ys its->its.toArray[argBest (ltAt O d0 (n::l)) (its.toArray.size - 1)]?=!v->Gp s.heap h'->EP X aj Y Q v { s with heap:=h',toks:=tk}:=λits v h' tk rv hv hk=>by
  have hl:its.length=l.length+1:=by rw[<- rv.length,hys]
  let(b1,b2):=sC O d0 n l l.length (eD _);rw[List.take_length]at b2;rw[dL,hl,Nat.add_sub_cancel]at hv;have hv:its[argBest (ltAt O d0 (n::l)) l.length]?=!v:=by simpa using hv
  have hy:argBest (ltAt O d0 (n::l)) l.length<ys.length:=by lia
  have rel:=su rv hy;rw[l4 (l:=its),hv]at rel;show#[_,H,I.kept hk,rel,q _ hy b2]
 have pos:∀its:List Value,Vals ys its->0<its.toArray.size:=λits rv=>by rw[dL,<- rv.length,hys];show Nat.succ_pos _
 have ow:∀(b:Addr) (o:Obj),s.heap.get? b=!o->b∉[s⁻¹]:=λb o e hm=>by
  have:b=s⁻¹:=by simpa using hm
  show absurd (eQ e) (by rw[this];show nV _)
 have fpl:∀{hlt:p<s⁻¹}{o:Obj},∀b∈[s⁻¹,p],b<(s.heap.push o).objs.size:=λ{hlt o} b hb=>by
  rw[t7];simp only[dS,oI,DC]at hb;rcases hb with rfl |rfl
  . show qS _
  . show Nat.lt_succ_of_lt hlt
 rcases hp with hp |hp
 .
  let(its,rv,pl,hz):=I.list hp;have hlt:p<s⁻¹:=by let(_,e,_):=pl.isList;show eQ e
  apply pG (B9 pl.isList ?_);show#[s⁻¹,_,_,_,_,_,_,rfl,Walks.list (A:=X.A.in1) hh s⁻¹ p (kS hlt) its.toArray,#[#[_,eC _ rfl,rfl,rfl],pl.isList.push _],fpl (hlt:=hlt),pos its rv,cmp its rv,λb o e=>b0 _ e,ow,λv h' tk hP hk=>fin its v h' tk rv hP hk]
 .
  let(its,rv,pl,hz):=I.tuple hp;have hlt:p<s⁻¹:=by let(_,e,_):=pl;show eQ e
  have pl':s.heap.IsTuple p its.toArray:=pl;apply pG (AK pl' ?_);show#[s⁻¹,_,_,_,_,_,_,rfl,Walks.tuple (A:=X.A.in1) hh s⁻¹ p (kS hlt) its.toArray,#[#[_,eC _ rfl,rfl,rfl],IsTup.keeps pl' λb o e=>b0 _ e],fpl (hlt:=hlt),pos its rv,cmp its rv,λb o e=>b0 _ e,ow,λv h' tk hP hk=>fin its v h' tk rv hP hk]
def O6(hc:X.calm=true)(ig:∀k,good k->fM (un k)=true)(hlt:∀(s:Shared) k1 k2 u1 u2,good k1->good k2->Dv s.heap (un k1) u1->Dv s.heap (un k2) u2->JD X.A.in1 s u1 u2 (O.lt k1 k2))(hK:z.K=X.K)(h:bE d=!((n::ns).map un))(hg:∀k∈n::ns,good k) :
  CallD X z (.builtin "min") [d] (.dat (un (kY O n ns))):=by
 apply#[_,Es (d0:=n) hc ig hlt,λg Y As M H vs Q s p k=>?_]
 let(v,rfl,pv):=p.one;have main:∀(a:Addr) (xs:List V),aE z.K M H ((n::ns).map un) xs->(cQ X.K H a xs\/iu X.K H a xs)->∃(p:Addr) (ys:List V) (M:List Addr) (m:κ) (l:List κ),[V.ref a]=[.ref p]/\(cQ X.K H p ys\/iu X.K H p ys)/\aE X.K M H ((m::l).map un) ys/\(∀k∈m::l,good k)/\∀i,i<ys.length->(m::l).getD i n=kY O m l->Q (ys.getD i .non) H:=λa xs rr hq=>by
  apply#[a,xs,M,n,ns,rfl,hq,hK▸rr,hg,λi hl e=>?_]
  have hd:i<(n::ns).length:=by have:=rr.length;rw[eJ]at this;lia
  let(v,e1,e2):=rr.get (i:=i) (d:=un (kY O n ns)) (by
   rw[mI,i3 hd,<- e,l4,i3 hd];rfl)
  have q2:xs.getD i .non=v:=by rw[l4,e1];rfl
  rw[q2];show k _ _ As M s (au.refl _ _) e2
 cases d with
 |lst m=>symm;let(a,xs,rfl,e1,e2):=pv.list;show main a xs e2 (.inl (cQ.of e1))
 |tup m=>symm;let(a,xs,rfl,e1,e2):=pv.tup;show main a xs e2 (.inr (hK▸e1.sq))
 |fix m=>symm;let(a,xs,rfl,e1,e2):=pv.fix;show main a xs e2 (.inl (hK▸e1.sq))
 |_=>symm
abbrev O7(h:Heap)(u:Value):Prop:=∃(a:Addr) (o:Obj) (i:Int) (t:Tok) (r:List Value) (n:Nat),u=.ref a/\h.get? a=!o/\o.cls=.type "tuple" /\o.data=.seq (Value.int i t::r).toArray n
def sD:∀{vs:List Value},(∀v∈vs,O7 h v)->∃fs:List Value,KatTups h vs fs/\fs.length=vs.length/\∀v∈fs,∃i t,v=.int i t
 | [],_=>#[[],.nil,rfl,λ_ z=>nomatch z]
 |v::vs,hv=>by
  let(fs,q1,q2,q3):=sD λx hx=>hv x (bP _ hx)
  let(a,o,i,t,r,n,rfl,e1,e2,e3):=hv v dA;show#[_::fs,KatTups.cons e1 e2 e3 rfl q1,by rw[i9,i9,q2],λv hv=>(dS.mp hv).elim (λz=>#[_,_,z]) (q3 v)]
def uD(ig:∀k,good k->fM (un k)=true)(hf:∀(h:Heap) k u,good k->Dv h (un k) u->O7 h u)
  (hlt:∀(s:Shared) k1 k2 u1 u2 (C:Bool->Shared->Prop),good k1->good k2->Dv s.heap (un k1) u1->Dv s.heap (un k2) u2->C (O.lt k1 k2) s->wpAny (~~~2) X.A.in1.in1 (keyLt' (tuples' true) u1 u2) C (λ_ _=>False) s) :
  eF X (.builtin "sorted") (λxs H Q=>∃(p:Addr) (ys:List V) (M:List Addr) (l:List κ),xs=[.ref p]/\(cQ X.K H p ys\/iu X.K H p ys)/\aE X.K M H (l.map un) ys/\(∀k∈l,good k)/\l.length<64/\
  ∀q (o:List Nat),H q=none->(∀i∈o,i<ys.length)->o.map (λi=>l.getD i d0)=aZ O l->Q (.ref q) (upd H q (.lst (o.map λi=>ys.getD i .non)))):=by
 intro aj s Y H xs us Q I r h;let(p,ys,M,l,rfl,hq,ht,hg,hl,q):=h;let(u,rfl,rx):=vals1 r;cases rx;have hyl:ys.length=l.length:=by rw[<- ht.length,eJ]
 have fin:∀its:List Value,Vals ys its->(s.heap.IsList p its.toArray\/IsTup s.heap p its.toArray)->wpAny (~~~2) X.A (call (.builtin "sorted") [.ref p]) (EP X aj Y Q) X.xe s:=λits r' pl=>by
  have aK:=r'.length;have dv:=aE.dv I ht r' (uC λk hk=>ig k (hg k hk))
  have at_:∀{h:Heap}{i:Nat},Gp s.heap h->i<its.length->good (l.getD i d0)/\Dv h (un (l.getD i d0)) (its.getD i Value.none):=λ{h i} hk hi=>by
   let(d1,e1,v1):=dv.get (i3 hi);rw[mI]at e1;let(k1,f1,rfl):=AH.mp e1;have g1:l.getD i d0=k1:=by rw[l4,f1];rfl
   have g2:its.getD i Value.none=its[i]:=by rw[l4,i3 hi];rfl
   rw[g1,g2];show#[hg k1 (i6 f1),v1.keep hk]
  have hz:its.length<=sizeLine:=by rw[sB];lia
  have done:∀o:List Nat,o.Perm (List.range its.length)->o.map (λi=>l.getD i d0)=aZ O l->EP X aj Y Q (.ref (s⁻¹+1)) { s with heap:=sortedAll s.heap its (o.map λi=>its.getD i Value.none).toArray}:=λo ho hs=>by
   let(ep,he):=sortedAll_at s.heap its (o.map λi=>its.getD i Value.none).toArray
   have hin:∀i∈o,i<ys.length:=λi hi=>by rw[aK];show t6.mp (ho.mem_iff.mp hi)
   have hol:o.length=ys.length:=by rw[ho.length_eq,List.length_range,aK]
   apply#[.ref (s⁻¹+1),_,I.laid (t':=s.toks) (o:=.lst (o.map λi=>ys.getD i .non)) (λb ob e=>sortedAll_old e) (AY _) ?_,rfl,q _ o (I.hok.fresh (AY _)) hin hs]
   show#[by rw[eJ,sB];lia,_,ep,sy r' hin,he]
  apply Ec pl hz ?_;have hil:its.length=l.length:=by lia
  by_cases h2:its.length<2
  .
   apply Ir (uq _ _) h2 #[rfl,?_];have:=done (List.range its.length) (y7 _) (by
    rw[hil,fz]
    match l,hil with
    | [],_=>rfl
    | [x],_=>rfl
    |_::_::_,hl2=>rw[hl2,i9,i9]at h2;lia)
   rw[fz]at this;show this
  .
   have keep:Gp s.heap (eu { s with heap:=Iu s.heap its} (s⁻¹+1) its).heap:=λb o e=>v8 (v9 (vs:=its) e).2 (v9 e).1
   apply Iq (κ:=tuples' true) (O:=O) (key:=λi=>l.getD i d0) (uq _ _) ⋯ ⋯ (λQ' hq=>?_) (λi j C hi hj hC=>?_) λp hp hr=>#[rfl,?_]
   .
    let(fs,q1,q2,q3):=sD (h:=(eu { s with heap:=Iu s.heap its} (s⁻¹+1) its).heap) (vs:=its) λv hv=>by
     let(i,hi,rfl):=BE hv;let(g1,g2):=at_ keep hi;have g3:its.getD i Value.none=its[i]:=by rw[l4,i3 hi];rfl
     rw[g3]at g2;show hf _ _ _ g1 g2
    show kat_kind (T:=.type "int") q1 ⋯ (λv hv=>by let(i,t,rfl):=q3 v hv;show Ef) ⋯ hq
   . let(g1,v1):=at_ keep hi;let(g2,v2):=at_ keep hj;show hlt _ _ _ _ _ C g1 g2 v1 v2 hC
   . rw[hil]at hp hr;show done p.toList (by rw[hil];show (Bz.mp hp).trans ⋯) (wg hp hr)
 rcases hq with hq |hq
 . let(its,r',pl,hz):=I.list hq;show fin its r' (.inl pl.isList)
 . let(its,r',pl,hz):=I.tuple hq;show fin its r' (.inr pl)
def pK(ig:∀k,good k->fM (un k)=true)(hf:∀(h:Heap) k u,good k->Dv h (un k) u->O7 h u)
  (hlt:∀(s:Shared) k1 k2 u1 u2 (C:Bool->Shared->Prop),good k1->good k2->Dv s.heap (un k1) u1->Dv s.heap (un k2) u2->C (O.lt k1 k2) s->wpAny (~~~2) X.A.in1.in1 (keyLt' (tuples' true) u1 u2) C (λ_ _=>False) s)
  (d0:κ) (hK:z.K=X.K) (h:bE d=!(l.map un)) (hg:∀k∈l,good k) (hl:l.length<64):CallD X z (.builtin "sorted") [d] (.new ((aZ O l).map un)):=by
 apply#[_,uD (d0:=d0) ig hf hlt,λg Y As M H vs Q s p k=>?_]
 let(v,rfl,pv):=p.one;have main:∀(a:Addr) (xs:List V),aE z.K M H (l.map un) xs->(cQ X.K H a xs\/iu X.K H a xs)->∃(p:Addr) (ys:List V) (M:List Addr) (l:List κ),[V.ref a]=[.ref p]/\(cQ X.K H p ys\/iu X.K H p ys)/\aE X.K M H (l.map un) ys/\(∀k∈l,good k)/\l.length<64/\
   ∀q (o:List Nat),H q=none->(∀i∈o,i<ys.length)->o.map (λi=>l.getD i d0)=aZ O l->Q (.ref q) (upd H q (.lst (o.map λi=>ys.getD i .non))):=λa xs rr hq=>by
  have aK:xs.length=l.length:=by rw[<- rr.length,eJ]
  apply#[a,xs,M,l,rfl,hq,hK▸rr,hg,hl,λq o hf hin hs=>?_]
  have e:(aZ O l).map un=o.map λi=>(l.map un).getD i .non:=by
   rw[<- hs,List.map_map];apply u8 λi hi=>?_
   have:i<l.length:=by rw[<- aK];show hin i hi
   simp[this]
  have rr':=(rr.pick hin).stay (au.aN (o:=.lst (o.map λi=>xs.getD i .non)) hf)
  apply k _ _ As (q::M) (s.aN hf) (au.aN hf) #[q,_,rfl,dA,λhA=>s.fresh hf (s.sub q hA),s.cC hf,aA,?_]
  rw[e];show rr'
 cases d with
 |lst m=>symm;let(a,xs,rfl,e1,e2):=pv.list;show main a xs e2 (.inl (cQ.of e1))
 |tup m=>symm;let(a,xs,rfl,e1,e2):=pv.tup;show main a xs e2 (.inr (hK▸e1.sq))
 |fix m=>symm;let(a,xs,rfl,e1,e2):=pv.fix;show main a xs e2 (.inl (hK▸e1.sq))
 |_=>symm
end
abbrev Yx(k: ~~~5):Prop:=∃m ts,k=[m]::ts
def BK(k: ~~~5)(h:Yx k):fM (jC k)=true:=by
 let(m,ts,rfl):=h;exact dR [.int m,.tup (ts.map λx=>.tup (x.map .int))]=true
 simp only[dR,fM,JF];rfl
def O8(h:Heap)(k: ~~~5)(u:Value)(hk:Yx k)(q:Dv h (jC k) u):O7 h u:=by
 let(m,ts,rfl):=hk;cases q with
 |tup i v=>
  cases v with
  |cons a b=>cases a;let(o,e1,e2,n,e3):=i;show#[_,o,_,_,_,n,rfl,e1,e2,e3]
section
variable{X:Cx}{z:Z}
def O9(hu:A.units+3<cLine)(k1 k2: ~~~5)(u1 u2:Value)(C:Bool->Shared->Prop)(h1:Yx k1)(h2:Yx k2)(x:Dv s.heap (jC k1) u1)(y:Dv s.heap (jC k2) u2)(h:C (pH.lt k1 k2) s):wpAny (model prog w) A (keyLt' (tuples' true) u1 u2) C (λ_ _=>False) s:=by
 let(m,ts,rfl):=h1;let(n,ss,rfl):=h2;cases x with
 |tup i1 v1=>
  cases y with
  |tup i2 v2=>
   cases v1 with
   |cons a b=>
    cases b with
    |cons b c=>
     cases c;cases a;cases v2 with
     |cons a' b'=>
      cases b' with
      |cons b' c'=>
       cases c';cases a';ext t1 p1 _ t2 p2;let(o,e1,e2,n1,e3):=i1;let(o2,e4,e5,n2,e6):=i2;have h':C (if [m]=[n]then jR ez ts ss else HT.lexLt [m] [n]) s:=h
       apply kat_lt e1 e3 e4 e6 ?_;exact KatLex prog w A true false C [_,_] 0 s;apply kat_cons (wpAny_eqBool_int (kat_go (λe=>?_) (λe=>?_)))
       .
        have e':m=n:=eq_of_beq e;rw[i8 (by rw[e'])]at h'
        apply kat_yes (kat_cons ?_);have q:=(rR (A:=A) (s:=s) 2 (by have:=wJ ts;simp only[dep];lia) b b' ⋯).1
        rw[show bV (.tup (ts.map λx=>.tup (x.map .int))) (.tup (ss.map λx=>.tup (x.map .int)))=decide (ts=ss)from pI ts ss]at q
        by_cases e3:ts=ss
        . rw[mM e3]at q;rw[e3,kX]at h';show q prog w _ _ (kat_yes (kat_nil h'))
        .
         rw[nE e3]at q;apply q prog w _ _ (kat_no (kat_one _ _ ?_));cases b with
         |tup j1 w1=>
          cases b' with
          |tup j2 w2=>show uy j1 j2 (uB (A:=A.in1) w1 w2 (by rw[in1_units];lia)) ⋯ prog w _ _ h'
       .
        have e':m≠n:=λq=>by rw[q]at e;simp at e
        rw[i7 (by simpa using e'),HT.bD,i7 e']at h'
        show kat_no (oneLt_int h')
def Pa(hc:X.calm=true)(hu:X.A.units+6<cLine)(hK:z.K=X.K)(h:bE d=!l)(hi:iJ l=!(k::ks)):CallD X z (.builtin "min") [d] (.dat (jC (kY pH k ks))):=by let(h1,h2):=pJ hi;rw[h1]at h;show O6 (good:=Yx) hc BK (λs k1 k2 u1 u2 g1 g2 x y=>V6 g1 g2 x y (by rw[in1_units];lia)) hK h h2
def zB(hu:X.A.units+6<cLine)(hK:z.K=X.K)(h:bE d=!l)(hi:iJ l=!ks)(hl:ks.length<64):CallD X z (.builtin "sorted") [d] (.new ((aZ pH ks).map jC)):=by let(h1,h2):=pJ hi;rw[h1]at h;show pK (good:=Yx) BK O8 (λs k1 k2 u1 u2 C g1 g2 x y q=>O9 (by rw[in1_units,in1_units];lia) k1 k2 u1 u2 C g1 g2 x y q) [] hK h h2 hl
end
abbrev unT(x: ~~~0):D:=.tup (x.map .int)
def Pb(x: ~~~0)(_:x≠[]):fM (unT x)=true:=wK x
section
variable{X:Cx}{z:Z}
def BL:∀{l:List D}{rD: ~~~5},eH l=!rD->∀x∈rD,x≠[]
 | [],_,e=>by cases e;show λ_ z=>nomatch z
 |d::l,rD,e=>by
  cases d with
  |tup m=>
   delta eH at e;split at e
   . ext n ns rD e1 e2;cases e;show λx hx=>(dS.mp hx).elim (λz=>by rw[z];show List.cons_ne_nil _ _) (BL e2 x)
   . cases e
  |_=>cases e
def zC(hK:z.K=X.K)(h:bE d=!l)(hi:eH l=!rD)(hl:rD.length<64):CallD X z (.builtin "sorted") [d] (.new ((aZ ez rD).map λns=>.tup (ns.map .int))):=by
 have iZ:=BL hi;rw[uA hi]at h;apply pK (O:=ez) (un:=unT) (good:=λx=>x≠[]) Pb (λhp k u hk q=>?_) (λs k1 k2 u1 u2 C _ _ x y hC=>?_) [] hK h iZ hl
 .
  cases q with
  |tup i v=>
   cases k with
   |nil=>show absurd rfl hk
   |cons a k=>
    cases v with
    |cons b c=>cases b;let(o,e1,e2,n,e3):=i;show#[_,o,_,_,_,n,rfl,e1,e2,e3]
 .
  cases x with
  |tup i1 v1=>
   cases y with
   |tup i2 v2=>let(o,e1,e2,n1,e3):=i1;let(o2,e4,e5,n2,e6):=i2;apply kat_lt e1 e3 e4 e6 (Iv v1.ints 0 v2.ints ?_ hC);rw[<- v1.ints.length,<- v2.ints.length];simp
end
end Ev
namespace Sb
open PySem
abbrev Yy(xs:Array Nat):Prop:=∀i k,i<k->k<xs.size->xs.getD i 0<xs.getD k 0
def getD_in{xs:Array Nat}{i d:Nat}(h:i<xs.size):xs.getD i d=xs.getD i 0:=by simp[Array.getD,h]
def pL{xs:Array Nat}(hr:Yy xs)(j:Nat):∀f lo hi,lo<=hi->hi<=xs.size->hi - lo<=f->(∀i,i<lo->xs.getD i 0<j)->(∀i,hi<=i->i<xs.size->j<=xs.getD i 0)->
  SetTable.below.go xs j f lo hi<=xs.size/\(∀i,i<SetTable.below.go xs j f lo hi->xs.getD i 0<j)/\(∀i,SetTable.below.go xs j f lo hi<=i->i<xs.size->j<=xs.getD i 0)
 | 0,lo,hi,h1,h2,h3,h4,h5=>by
  obtain rfl:lo=hi:=by lia
  show#[h2,h4,h5]
 |f+1,lo,hi,h1,h2,h3,h4,h5=>by
  delta SetTable.below.go;by_cases hlt:lo<hi
  .
   rw[i8 hlt];have hm1:lo<=(lo+hi) / 2:=by lia
   have hm2:(lo+hi) / 2<hi:=by lia
   dsimp only;rw[getD_in (show (lo+hi) / 2<xs.size by lia)]
   by_cases hc:xs.getD ((lo+hi) / 2) 0<j
   .
    rw[i8 hc];apply pL hr j f _ _ ⋯ h2 ⋯ (λi hi'=>?_) h5
    by_cases e:i=(lo+hi) / 2
    . rw[e];show hc
    . show Nat.lt_trans (hr i ((lo+hi) / 2) ⋯ ⋯) hc
   .
    rw[i7 hc];apply pL hr j f _ _ hm1 ⋯ ⋯ h4 λi hi1 hi2=>?_
    by_cases e:i=(lo+hi) / 2
    . rw[e];lia
    . have:=hr ((lo+hi) / 2) i ⋯ hi2;lia
  .
   rw[i7 hlt];obtain rfl:lo=hi:=by lia
   show#[h2,h4,h5]
def wL(hr:Yy xs)(j:Nat):SetTable.below xs j<=xs.size/\(∀i,i<SetTable.below xs j->xs.getD i 0<j)/\(∀i,SetTable.below xs j<=i->i<xs.size->j<=xs.getD i 0):=
 pL hr j xs.size 0 xs.size (tS _) (eD _) ⋯ (λi h=>absurd h (w9 i)) λi h1 h2=>absurd h2 ⋯
def zD{t:SetTable}(hr:Yy t.place)(hd:t.dummies = ([].toArray)){j:Nat}(h:∀i,i<t.place.size->t.place.getD i 0≠j):t.slot j=.empty:=by
 delta SetTable.slot;dsimp only;have h1:(t.place[SetTable.below t.place j]?==!j)=false:=by
  cases e:t.place[SetTable.below t.place j]? with
  |none=>rfl
  |some x=>
   let(hl,e):=tP.mp e;have:=h _ hl;have e2:t.place.getD (SetTable.below t.place j) 0=x:=by simp[Array.getD,hl,e]
   rw[e2]at this;simpa using this
 have h2:SetTable.has t.dummies j=false:=by delta SetTable.has;rw[hd];rfl
 rw[h1,h2];rfl
structure pM(o:Obj)(es:Array (Int×Value))(ep:Nat)(t:SetTable):Prop where
 ex:o.ExactSet
 data:o.data=.set es ep t
 fits:t.fits es.size=true
 Ph:Yy t.place
 plain:t.plain=true
def pM.sz{o:Obj}{es:Array (Int×Value)}{ep:Nat}{t:SetTable}(S:pM o es ep t):t.place.size=es.size:=by have h:=S.fits;delta SetTable.fits at h;show beq_iff_eq.mp (fN _ _▸h).1
end Sb
namespace Sb
open PySem PyProof.Rows
inductive pN:List (Int×Value)->~~~0->Prop
 |nil:pN [] []
 |cons (n:Int) (t:Tok) {l:List (Int×Value)}{ns: ~~~0}:pN l ns->pN ((hashInt n,.int n t)::l) (n::ns)
abbrev Lz(ks: ~~~0):Prop:=ks.Pairwise (· < ·)/\∀k∈ks,0<=k/\k<8
abbrev oneMore(ks: ~~~0)(k:Int): ~~~0:=if k∈ks then ks else Ev.bH (k::ks)
def Lz.nd{ks: ~~~0}(h:Lz ks):ks.Nodup:=h.1.imp λh=>by lia
def Lz.len{ks: ~~~0}(h:Lz ks):ks.length<=8:=by
 have:=h.nd.length_le_of_subset (l₂:=(List.range 8).map λ(k:Nat)=>(k:Int)) λx hx=>by
  have:=h.2 x hx;show fR.mpr #[x.toNat,t6.mpr ⋯,by lia]
 simpa using this
def R5{k:Int}(h:0<=k/\k<8):hashInt k=k/\SetTable.bits k=k.toNat:=by
 obtain⟨n,rfl⟩:∃n:Nat,k=n:=#[k.toNat,by lia]
 have hn:n∈List.range 8:=t6.mpr ⋯;have:=lL.mp (show ((List.range 8).all λn=>decide (hashInt (n:Int)=n/\SetTable.bits (n:Int)=n))=true by decide +kernel) n hn
 show lS this
def pN.length{l:List (Int×Value)}{ks: ~~~0}(h:pN l ks):l.length=ks.length:=by
 induction h with
 |nil=>rfl
 |cons n t _ ih=>rw[i9,i9,ih]
def pN.put{x:Int×Value}{k:Int}(hx:pN [x] [k]):∀{l:List (Int×Value)}{ks: ~~~0} (p:Nat),pN l ks->pN (l.take p++x::l.drop p) (ks.take p++k::ks.drop p):=by
 cases hx with
 |cons _ tk _=>
 intro l ks p h
 induction h generalizing p with
 |nil=>rw[List.take_nil,List.drop_nil,List.take_nil,List.drop_nil];show .cons _ _ .nil
 |cons n t h ih=>
  cases p with
  |zero=>show .cons _ _ (.cons n t h)
  |succ p=>show .cons n t (ih p)
def pN.hashes{l:List (Int×Value)}{ks: ~~~0}(h:pN l ks):l.map (·.1)=ks.map hashInt:=by
 induction h with
 |nil=>rfl
 |cons n t _ ih=>rw[List.map_cons,List.map_cons,ih]
structure Ti(ks: ~~~0)(es:Array (Int×Value))(t:SetTable):Prop where
 pl:t.place.toList=ks.map Int.toNat
 dum:t.dummies = ([].toArray)
 ie:pN es.toList ks
def Ti.sz{ks: ~~~0}{es:Array (Int×Value)}{t:SetTable}(T:Ti ks es t):t.place.size=ks.length/\es.size=ks.length:=by have h1:=congrArg List.length T.pl;have h2:=T.ie.length;simp only[eJ]at h1 h2;show#[h1,h2]
def Ti.fits{ks: ~~~0}{es:Array (Int×Value)}{t:SetTable}(T:Ti ks es t)(h:ks.length<=t.mask):t.fits es.size=true:=by delta SetTable.fits SetTable.fill;rw[T.sz.1,T.sz.2,T.dum];simp only[fN,CM,true_and,l6];show h
def Ti.get{ks: ~~~0}{es:Array (Int×Value)}{t:SetTable}(T:Ti ks es t){i:Nat}(h:i<ks.length):t.place.getD i 0=ks[i].toNat:=by
 have e:t.place.getD i 0=t.place.toList.getD i 0:=by simp[List.getD,h,T.sz.1]
 rw[e,T.pl];simp[h]
def Ti.Ph{ks: ~~~0}{es:Array (Int×Value)}{t:SetTable}(T:Ti ks es t)(h:Lz ks):Yy t.place:=λi k hik hk=>by
 rw[T.sz.1]at hk;rw[T.get ⋯,T.get hk];have h1:=y8.mp h.1 i k ⋯ hk hik;have h2:=h.2 ks[i] (yB _);lia
def wM{α:Type}(xs:Array α)(p:Nat)(x:α):(SetTable.insertAt xs p x).toList=xs.toList.take p++x::xs.toList.drop p:=by delta SetTable.insertAt;simp[List.take_of_length_le]
section
variable{ks: ~~~0}{es:Array (Int×Value)}{t:SetTable}{k:Int}
def Pj(T:Ti ks es t)(h:Lz ks)(hk:0<=k/\k<8)(hn:k∉ks)(hm:t.mask=7/\ks.length<=4\/t.mask=31)(tk:Tok) :
  ∃es1 t1,layNew t es (hashInt k) (.int k tk)=(es1,t1,false,false)/\Ti (Ev.bH (k::ks)) es1 t1/\t1.mask=t.mask/\t1.plain=t.plain/\t1.led=t.led:=by
 let(h1,h2):=R5 hk;have fs:t.freeSlot (hashInt k)=!(k.toNat,false):=by
  have se:t.slot k.toNat=.empty:=zD (T.Ph h) T.dum λi hi e=>by
   rw[T.sz.1]at hi;rw[T.get hi]at e;have:=h.2 ks[i] (yB _);show hn ((show k=ks[i]by lia)▸yB _)
  have hj:(t.probeStart k).j=k.toNat:=by exact SetTable.bits k % (t.mask+1)=_;rw[h2];rcases hm with ⟨e,_⟩ |e <;> rw[e] <;> show Nat.mod_eq_of_lt ⋯
  rw[h1];delta SetTable.freeSlot SetTable.probe;rw[show 10 * SetTable.turns t.mask=(10 * SetTable.turns t.mask - 1)+1 by delta SetTable.turns;lia]
  delta SetTable.probe.go;rw[hj,se];rfl
 let(b1,b2,b3):=wL (T.Ph h) k.toNat;rw[T.sz.1]at b1 b3;have hput:t.put k.toNat=({ t with place:=SetTable.insertAt t.place (SetTable.below t.place k.toNat) k.toNat},SetTable.below t.place k.toNat):=by delta SetTable.put SetTable.has;rw[T.dum];cases t;rfl
 delta layNew;rw[fs];dsimp only;rw[hput];generalize SetTable.below t.place k.toNat=p at b1 b2 b3;have hks:ks.take p++k::ks.drop p=Ev.bH (k::ks):=by
  apply Ev.fj ?_ ?_
  .
   have:=List.perm_middle (l₁:=ks.take p) (l₂:=ks.drop p) (a:=k)
   rwa [AL]at this
  .
   have hle:=h.1.imp λ{a b} (q:a<b)=>Int.le_of_lt q
   rw[<- AL p ks,List.pairwise_append]at hle;apply List.pairwise_append.mpr #[hle.1,rV.mpr #[λx hx=>?_,hle.2.1],λa ha b hb=>?_]
   . let(i,hi,rfl):=BE hx;rw[List.length_drop]at hi;have:=b3 (p+i) ⋯ ⋯;rw[T.get ⋯]at this;rw[List.getElem_drop];have:=h.2 ks[p+i] (yB _);lia
   .
    rcases dS.mp hb with rfl |hb
    . let(i,hi,rfl):=BE ha;rw[x5]at hi;have:=b2 i ⋯;rw[T.get ⋯]at this;rw[List.getElem_take];lia
    . show hle.2.2 a ha b hb
 have T1:Ti (Ev.bH (k::ks)) (SetTable.insertAt es p (hashInt k,.int k tk)) { t with place:=SetTable.insertAt t.place p k.toNat}:=by
  rw[<- hks];apply#[?_,T.dum,?_]
  . exact (SetTable.insertAt t.place p k.toNat).toList=_;rw[wM,T.pl,oC,List.map_cons,List.map_take,List.map_drop]
  . rw[wM];show (pN.cons k tk .nil).put p T.ie
 have hl:(Ev.bH (k::ks)).length<=t.mask:=by rw[(Ev.aV _).length_eq,i9];have:=h.len;rcases hm with ⟨e,_⟩ |e <;> lia
 have hf:=T1.fits hl;apply#[_,_,?_,T1,rfl,rfl,rfl];delta SetTable.orStandIn;rw[hf];rfl
abbrev V7:Nat->Nat->List (~~~0)
 | 0,_=>[[]]
 |n+1,lo=>(List.range 8).flatMap λ(a:Nat)=>if lo<=a then (V7 n (a+1)).map ((a:Int) :: ·)else []
def wN:∀(l: ~~~0) (lo:Nat),l.Pairwise (· < ·)->(∀x∈l,(lo:Int)<=x/\x<8)->l∈V7 l.length lo
 | [],_,_,_=>hU.mpr rfl
 |x::l,lo,h,hx=>by
  have h1:=hx x dA;obtain⟨n,rfl⟩:∃n:Nat,x=n:=#[x.toNat,by lia]
  apply CU.mpr #[n,t6.mpr ⋯,?_];rw[i8 ⋯];show fR.mpr #[l,wN l (n+1) (rV.mp h).2 λy hy=>by
   have:=(rV.mp h).1 y hy;have:=hx y (bP _ hy);lia,rfl]
def fives:((V7 5 0).all λl=>decide ((SetTable.layClean 31 l.toArray).map (λowner=>(List.range 32).filterMap λj=>(owner.getD j none).map (j,·))=!((l.map Int.toNat).zip [0,1,2,3,4])))=true:=by decide +kernel
def Pn(T:Ti ks es t)(h:Lz ks)(h5:ks.length=5) :
  ∃t',relayAll t es (SetTable.grown es.size)=(es,t',false)/\Ti ks es t'/\t'.mask=31/\t'.plain=t.plain/\t'.led=t.led:=by
 have hf:=lS (lL.mp fives ks (h5▸wN ks 0 h.1 λx hx=>by have:=h.2 x hx;lia))
 have he:es.map (·.1)=ks.toArray:=by
  apply Array.ext' ?_;rw[Array.toList_map,T.ie.hashes]
  conv=>rhs;rw[<- List.map_id ks]
  show u8 λx hx=>(R5 (h.2 x hx)).1
 have hz:=T.sz.2.trans h5;have hm:SetTable.sizeAbove (SetTable.grown 5) - 1=31:=by decide +kernel
 have rl:t.relaid ks.toArray (SetTable.grown 5)=!({ mask:=31,place:=(ks.map Int.toNat).toArray,dummies:=([].toArray),finger:=t.finger,led:=t.led,moves:=t.movedTo 31,plain:=t.plain},([0,1,2,3,4].toArray)):=by
  delta SetTable.relaid;rw[hm];delta SetTable.laid;cases hc:SetTable.layClean 31 ks.toArray with
  |none=>rw[hc]at hf;cases hf
  |some owner=>
   rw[hc]at hf;have hf:((List.range 32).filterMap λj=>(owner.getD j none).map (j,·))=(ks.map Int.toNat).zip [0,1,2,3,4]:=mP hf
   exact some _=!_;rw[hf,List.map_fst_zip (by rw[eJ,h5];show eD 5),List.map_snd_zip (by rw[eJ,h5];show eD 5)]
 have e2:(([0,1,2,3,4].toArray):Array Nat).filterMap (es[·]?)=es:=by
  obtain⟨_ |⟨a,_ |⟨b,_ |⟨c,_ |⟨d,_ |⟨e,_ |⟨f,l⟩⟩⟩⟩⟩⟩⟩:=es
  all_goals first
   |rfl
   | (simp at hz)
 have T':Ti ks es { mask:=31,place:=(ks.map Int.toNat).toArray,dummies:=([].toArray),finger:=t.finger,led:=t.led,moves:=t.movedTo 31,plain:=t.plain}:=#[rfl,rfl,T.ie];apply#[_,?_,T',rfl,rfl,rfl];delta relayAll;rw[he,hz,rl];dsimp only;rw[e2,show coversAll ([0,1,2,3,4].toArray) 5=true by decide +kernel,<- hz,T'.fits (by rw[h5];show CL rfl)]
 rfl
end
end Sb
namespace Sb
open PySem PyProof.Rows
section
variable{prog:Program}{w:World}{A:Around}{E:Value->Shared->Prop}{s:Shared}
def pN.ints{l:List (Int×Value)}{ks: ~~~0}(h:pN l ks):IntsAre (l.map (·.2)) ks:=by
 induction h with
 |nil=>show .nil
 |cons n t _ ih=>show .cons n t ih
def pN.perm{l m:List (Int×Value)}(p:l.Perm m):∀{ks: ~~~0},pN m ks->∃js,js.Perm ks/\pN l js:=by
 induction p with
 |nil=>show λh=>#[_,.refl _,h]
 |cons x _ ih=>
  intro ks h;cases h with
  |cons n t h=>let(js,q1,q2):=ih h;show#[_,q1.cons n,.cons n t q2]
 |swap x y l=>
  intro ks h;cases h with
  |cons n t h=>cases h with
   |cons n' t' h=>show#[_,List.Perm.swap ..,.cons n' t' (.cons n t h)]
 |trans _ _ ih1 ih2=>intro ks h;let(js,q1,q2):=ih2 h;let(js',q3,q4):=ih1 q2;show#[js',q3.trans q1,q4]
def pN.elems{l:List (Int×Value)}{ks: ~~~0}(h:pN l ks):ElemsOf (intKind prog w) l:=by
 induction h with
 |nil=>intro e he;cases he
 |cons n t _ ih=>
  intro e he;rcases dS.mp he with rfl |he
  . show#[#[n,by exact Value.isInt n (.int n t)=true;simp[Value.isInt],rfl],rfl]
  . show ih e he
def pN.mem{l:List (Int×Value)}{ks: ~~~0}(h:pN l ks){k:Int}:k∈ks ↔ ∃e∈l,Value.isInt k e.2=true:=by
 induction h with
 |nil=>simp
 |cons n t _ ih=>
  rw[dS,ih];constructor
  .
   rintro (rfl |⟨e,e1,e2⟩)
   . show#[_,dA,by simp[Value.isInt]]
   . show#[e,bP _ e1,e2]
  .
   rintro⟨e,e1,e2⟩;rcases dS.mp e1 with rfl |e1
   . let(t',e3):=Value.isInt_shape e2;injection e3 with e3;show .inl e3.symm
   . show .inr #[e,e1,e2]
abbrev R8(w:World)(ks: ~~~0)(o:Obj):Prop:=∃es ep t,pM o es ep t/\(w.params.followText "set-order"=false->t.led=true)/\Lz ks/\Ti ks es t/\(t.mask=7/\ks.length<=4\/t.mask=31)
abbrev uE(w:World)(h:Heap)(a:Addr)(ks: ~~~0):Prop:=∃o,h.get? a=!o/\o.ExactSet/\R8 w ks o
def uE.typeIs{a:Addr}{ks: ~~~0}(x:uE w s.heap a ks):s.TypeIs (.ref a) "set" :=by let(o,ho,ex,_):=x;show#[o,ho,ex.1]
def zE{h:Heap}{a:Addr}{led:Bool}(ho:h.get? a=some { cls:=.type "set",dict:=none,data:=.set ([].toArray) 0 (.fresh 0 0 led)})(hw:w.params.followText "set-order"=false->led=true):uE w h a []:=
 #[_,ho,#[rfl,rfl,rfl],([].toArray),0,_,#[#[rfl,rfl,rfl],rfl,rfl,λi k _ hk=>absurd hk (w9 _),rfl],hw,#[.nil,λk hk=>nomatch hk],#[rfl,rfl,.nil],.inl #[rfl,tS _]]
def Pp{ks: ~~~0}{k:Int}(h:Lz ks)(hk:0<=k/\k<8)(hn:k∉ks):Lz (Ev.bH (k::ks)):=by
 have p:=Ev.aV (k::ks);have nd:=p.nodup_iff.mpr (hZ.mpr #[hn,h.nd]);apply#[((Ev.cg _).and nd).imp λ{a b} q=>by have:=q.1;have:=q.2;lia,λx hx=>?_]
 rcases dS.mp (p.mem_iff.mp hx)with rfl |hx
 . show hk
 . show h.2 x hx
def add_int{a:Addr}{k:Int}{tk:Tok}{ks: ~~~0}{Q:Bool->Shared->Prop}(hS:uE w s.heap a ks)(hk8:0<=k/\k<8)
  (q:∀b h',Heap.SameBut a s.heap h'->uE w h' a (oneMore ks k)->Q b { s with heap:=h'}) :
  wpAny (model prog w) A (setAddHashed a (.int k tk) (hashInt k)) Q E s:=by
 have hS0:=hS;let(o,ho,ex,es,ep,t,S,ld,sm,T,hm):=hS;have jo:=T.sz.2;have hl8:=sm.len;have hel:ElemsOf (intKind prog w) es.toList:=T.ie.elems;have hf:=S.fits;have hd:=S.data;have hkey:(intKind prog w).is k (.int k tk)=true:=by exact Value.isInt k (.int k tk)=true;simp[Value.isInt]
 apply mE (aS (wE ho hd hf ?_));dsimp only;rw[byScan_of rfl (by delta scanBound;lia) hel]
 apply aS ?_;apply aS (AJ ?_);apply aS (wpAny_setScan_of hkey ho hd hf hel ?_);cases hr:List.findIdx? (λe=>(intKind prog w).is k e.2) es.toList with
 |some j=>
  let(hj,hpj,_):=List.findIdx?_eq_some_iff_getElem.mp hr;have hk:=T.ie.mem.mpr #[es.toList[j],yB hj,hpj];apply dC (dC ?_);have:=q false s.heap (Heap.SameBut.refl a s.heap) (by delta oneMore;rw[i8 hk];show hS0)
  show this
 |none=>
  have hk:k∉ks:=λhk=>by
   let(e,he,hp):=T.ie.mem.mp hk;have:=List.findIdx?_eq_none_iff.mp hr e he;rw[show (intKind prog w).is k e.2=Value.isInt k e.2 from rfl,hp]at this
   show Bool.noConfusion this
  let(es1,t1,eL,T1,hm1,hp1,hl1):=Pj T sm hk8 hk hm tk;have sm1:=Pp sm hk8 hk;have R9:(Ev.bH (k::ks)).length=ks.length+1:=by rw[(Ev.aV _).length_eq,i9]
  have hs1:=T1.sz.2;rw[S.plain]at hp1;rw[eL];apply aS (dC ?_);rw[i8 hp1];apply aS (dC ?_);simp only[↓reduceIte];have done:∀h' yD t',Heap.SameBut a s.heap h'->h'.get? a=some { o with data:=.set es1 yD t'}->Ti (Ev.bH (k::ks)) es1 t'->t'.plain=true->t'.led=t.led->(t'.mask=7/\(Ev.bH (k::ks)).length<=4\/t'.mask=31)->uE w h' a (oneMore ks k):=λh' yD t' sb hg T' p' l' m'=>by
   delta oneMore;rw[i7 hk];show#[_,hg,ex,es1,yD,t',#[ex,rfl,T'.fits (by rw[R9];rcases m' with ⟨e,_⟩ |e <;> lia),T'.Ph sm1,p'],λhw=>l'.trans (ld hw),sm1,T',m']
  have hz1:es1.size<=sizeLine:=by delta sizeLine;lia
  apply aS (wpAny_storeSet_of ho hd ?_ hz1);have rS:(s.heap.update a (Obj.putSet es1 t1)).get? a=some { o with data:=.set es1 (ep+1) t1}:=by
   have:=mB (Obj.putSet es1 t1) ho (by rw[putSet_of es1 t1 hd];rfl)
   rw[putSet_of es1 t1 hd]at this;show this
  have sb1:=y6 s.heap a (Obj.putSet es1 t1);have tf:t1.tooFull=decide (t.mask * 3<=(ks.length+1) * 5):=by delta SetTable.tooFull SetTable.fill;rw[T1.sz.1,T1.dum,hm1,R9];rfl
  rw[tf];by_cases Se:t.mask * 3<=(ks.length+1) * 5
  .
   have h4:t.mask=7/\ks.length=4:=by rcases hm with ⟨e,e2⟩ |e <;> lia
   rw[mM Se];let(t',eR,T2,z3,z4,z5):=Pn T1 sm1 ⋯;rw[eR];apply aS (dC ?_);apply aS (wpAny_storeSet_of rS rfl ?_ hz1);have hg2:((s.heap.update a (Obj.putSet es1 t1)).update a (Obj.putSet es1 t')).get? a=some { o with data:=.set es1 (ep+1+1) t'}:=by
    have:=mB (Obj.putSet es1 t') rS (by rw[putSet_of es1 t' rfl];rfl)
    show this
   have sb2:=sb1.trans (y6 _ a (Obj.putSet es1 t'));show dC (dC (q true _ sb2 (done _ _ t' sb2 hg2 T2 (z4.trans hp1) (z5.trans hl1) (.inr z3))))
  .
   rw[nE Se];apply dC (dC (q true _ sb1 (done _ (ep+1) t1 sb1 rS T1 hp1 hl1 ?_)));rw[hm1];rcases hm with ⟨e,e2⟩ |e
   . show .inl #[e,by lia]
   . show .inr e
def JG{a:Addr}{k:Int}{tk:Tok}{ks: ~~~0}{Q:Value->Shared->Prop}(hS:uE w s.heap a ks)(hk:0<=k/\k<8)
  (q:∀h',Heap.SameBut a s.heap h'->uE w h' a (oneMore ks k)->Q .none { s with heap:=h',toks:=s.toks+1}) :
  wpAny (model prog w) A (call (.builtin "set.add") [.ref a,.int k tk]) Q E s:=by
 apply nN F.slot_set_add hS.typeIs F.entry_set_add ?_ (F.args_set_add_2 _ _);delta Builtin.«set.add» Builtin.Frozenset.oneOther;simp only[List.isEmpty_nil,bind_assoc];apply aS (dC ?_)
 try dsimp only
 apply aS (dC ?_)
 try dsimp only
 apply aS ?_;apply mE ?_;apply aS (wpAny_pyHash_int ?_);apply add_int hS hk λb h' sb x=>?_
 show dC #[_,rfl,q h' sb x]
end
end Sb
namespace L2
open Sb
section
variable{prog:Program}{w:World}{A:Around}{R:Result->Shared->Prop}{s:Shared}
def jS{aX t1 i1 target iter:Expr}{f1 ifs:List Expr}{scope:Scope}{pos:Pos}{it acc:Value}{env:Env}
  (h0:codeAny (model prog w) A (.compLoop (.SetComp aX [#[t1,i1,f1,0],#[target,iter,ifs,0]] scope pos) 1 it acc env) R s)
  (h:wpAny (model prog w) A (pyIter it) (λit' s'=>codeAny (model prog w) A (.compLoop (.SetComp aX [#[t1,i1,f1,0],#[target,iter,ifs,0]] scope pos) 1 it' acc env) R s') (λ_ _=>False) s) :
  codeAny (model prog w) A (.compStart (.SetComp aX [#[t1,i1,f1,0],#[target,iter,ifs,0]] scope pos) 1 it acc env) R s:=by
 apply codeAny_of_tree ?_;apply wpAny_notedAt ?_;apply aS (yA (wpAny_ite ?_));split
 .
  first
   |show aS (dC (dC (And.intro rfl h0)))
   |show dC (And.intro rfl h0)
 .
  first
   |show aS (AJ (aS (t9 (aS (kA h (λit' s' h'=>dC (And.intro rfl h')) λ_ _ x=>x.elim)))))
   | (apply aS (AJ ?_);exact wpAny _ _ (standAt iter.pos >>= _) _ _ s;show aS (t9 (aS (kA h (λit' s' h'=>dC (And.intro rfl h')) λ_ _ x=>x.elim))))
def jw{aX t1 i1:Expr}{f1:List Expr}{rest:List Comprehension}{scope:Scope}{pos:Pos}{it acc:Value}{env:Env}
  (h0:codeAny (model prog w) A (.compLoop (.SetComp aX (#[t1,i1,f1,0]::rest) scope pos) 0 it acc env) R s)
  (h:wpAny (model prog w) A (pyIter it) (λit' s'=>codeAny (model prog w) A (.compLoop (.SetComp aX (#[t1,i1,f1,0]::rest) scope pos) 0 it' acc env) R s') (notedBy (model prog w) A env λx s'=>R (.error x) s') s) :
  codeAny (model prog w) A (.compStart (.SetComp aX (#[t1,i1,f1,0]::rest) scope pos) 0 it acc env) R s:=by
 apply codeAny_of_tree ?_;apply wpAny_notedAt ?_;apply aS (yA (wpAny_ite ?_));split
 .
  first
   |show aS (dC (dC (And.intro rfl h0)))
   |show dC (And.intro rfl h0)
 .
  first
   |show aS (AJ (aS (t9 (aS (kA h (λit' s' h'=>dC (And.intro rfl h')) λ_ _ x=>x)))))
   | (apply aS (AJ ?_);exact wpAny _ _ (standAt i1.pos >>= _) _ _ s;show aS (t9 (aS (kA h (λit' s' h'=>dC (And.intro rfl h')) λ_ _ x=>x))))
end
meta abbrev fO (w:World) (ks: ~~~0):HO:=.set (R8 w ks)
meta abbrev Sf (aX:Expr) (acc:Value) (env:Env):Sem Unit:=do
 let v <- eval aX env
 standAt aX.pos
 let _ <- call (.builtin "set.add") [acc,v]
abbrev Pq(w:World)(D:Addr)(te:TE):TU:=λY H Q=>te Y H λv H5=>∃n ks,v=.int n/\H5 D=!(fO w ks)/\(0<=n/\n<8)/\Q Y (upd H5 D (fO w (oneMore ks n)))
def V8{X:Cx}{D:Addr}{aX:Expr}{te:TE}(he:PE X aX te)(hx:X.xe=λ_ _=>False):PU X (Sf aX (.ref D) X.env) (Pq X.w D te):=by
 intro aj s Y H Q I h;have he:=he aj s Y H _ I h;rw[hx]at he;apply aS (kA he (?_) λ_ _ z=>z)
 rintro y s8 ⟨v,H8,I8,r8,n,ks,rfl,hD8,hz8,q8⟩;let(t,rfl):=r8;have hO:=I8.hok D _ hD8;apply aS (t9 (aS (JG hO hz8 λh' sb x=>dC #[Y,_,I8.write (o:=fO X.w (oneMore ks n)) (by rw[hD8];trivial) (.inl rfl) (λb u hb e=>(sb.2 b hb).trans e) ?_ x,q8])))
 let(o,e,_):=x;show#[o,e]
def Et{aX t1 i1 tg iter:Expr}{f1 ifs:List Expr}{scope:Scope}{pos:Pos}{it acc:Value}{env:Env}:compTurn (.SetComp aX [#[t1,i1,f1,0],#[tg,iter,ifs,0]] scope pos) 0 it acc env=jM (.SetComp aX [#[t1,i1,f1,0],#[tg,iter,ifs,0]] scope pos) t1 i1 f1 0 it acc env (Dn (.SetComp aX [#[t1,i1,f1,0],#[tg,iter,ifs,0]] scope pos) iter acc env):=by
 exact (standAt i1.pos >>= λ_=>pyNext it >>= λr=>_)=(standAt i1.pos >>= λ_=>pyNext it >>= λr=>_)
 congr 1;funext _;congr 1;funext r
 cases r with
 |none=>rfl
 |some v=>
  exact (letOwnedTupleGo t1 it v >>= λ_=>assign t1 env v >>= λ_=>_ >>= λok=>_)=(letOwnedTupleGo t1 it v >>= λ_=>assign t1 env v >>= λ_=>_ >>= λok=>_)
  congr 1;funext _;congr 1;funext _;congr 1;funext ok
  cases ok with
  |false=>rfl
  |true=>delta Dn;simp only[bind_assoc];rfl
def Eu{aX t1 i1 tg iter:Expr}{f1 ifs:List Expr}{scope:Scope}{pos:Pos}{it acc:Value}{env:Env}:compTurn (.SetComp aX [#[t1,i1,f1,0],#[tg,iter,ifs,0]] scope pos) 1 it acc env=jM (.SetComp aX [#[t1,i1,f1,0],#[tg,iter,ifs,0]] scope pos) tg iter ifs 1 it acc env (Sf aX acc env):=by
 congr 1
def Pu{prog:Program}{w:World}{A:Around}{E Q:Value->Shared->Prop}{s:Shared}
  (h:Q (.ref s⁻¹) { s with heap:=s.heap.push { cls:=.type "set",dict:=none,data:=.set ([].toArray) 0 (.fresh 0 0 ((not (w.params.followText "set-order"))))}}):wpAny (model prog w) A (newSet (.type "set")) Q E s:=by
 apply aS (aS (yA (dC ?_)));show aS (wpAny_alloc (dC h))
section
variable{X:Cx}{t1 i1 tg iter aX:Expr}{f1 ifs:List Expr}{scope:Scope}{pos:Pos}
def V9:Ck X (.SetComp aX [#[t1,i1,f1,0],#[tg,iter,ifs,0]] scope pos) t1 i1 f1 [#[tg,iter,ifs,0]] (newSet (.type "set")) (fO X.w []) (Dn (.SetComp aX [#[t1,i1,f1,0],#[tg,iter,ifs,0]] scope pos) iter) where
 cls:=rfl
 und:=λ_ _ _ _ _ _ _=>#[rfl,rfl]
 turn:=λit D env=>Et
 new:=#[_,rfl,λh=>Pu h,λ_ _ _ e _=>zE e λhw=>by rw[hw];rfl]
 start:=jw
def Ew{N':List Str}{k:Nat}{w1:TI}{w2:Bk->TI}{g1 g2:Bk->TG}{RC RD:Bk->TT}{te:Bk->TE}(B:aR X.env.scope scope)(hc:X.calm=true)(hN:Names X.N N' scope k)(hi:PI X t1 i1 w1)
  (hin:∀b:Bk,(PG (X.blk N' scope b) t1 (g1 b)/\jL (X.blk N' scope b) f1 (RC b))/\PI (X.blk N' scope b) tg iter (w2 b)/\PG (X.blk N' scope b) tg (g2 b)/\jL (X.blk N' scope b) ifs (RD b)/\PE (X.blk N' scope b) aX (te b))
  (hs:∀x,foldedSetIterable i1 X.env x=pure x) (hs2:∀(b:Bk) x,foldedSetIterable iter (X.blk N' scope b).env x=pure x) :
  PE X (.SetComp aX [#[t1,i1,f1,0],#[tg,iter,ifs,0]] scope pos) (ud (fO X.w []) X k w1 g1 RC λD b=>RB (w2 b) (g2 b) (RD b) (Pq X.w D (te b))):=by
 intro aj s Y H Q I h;apply fZ B hc hN hi V9 (λb D=>#[(hin b).1.1,(hin b).1.2,Hf hc rfl (λ_ _ _ _ _ _ _=>#[rfl,rfl]) (λ_=>Eu) jS (hin b).2.1 (hin b).2.2.1 (hin b).2.2.2.1 (V8 (hin b).2.2.2.2 rfl) (hs2 b)]) hs I h λs' H' D C m I' f' hn q=>?_
 apply#[m,hn,λh' sb=>#[.ref D,H',?_,rfl,q]]
 let(f0,f1,f2,f3,f4,f5):=f';show I'.turned (λb o hb e=>(sb.2 b hb).trans e) f0 f1 f3 f4 f5
end
end L2
namespace Sb
open PySem
def BP{α:Type}:∀(l:List α) (i:Nat) (h:i<l.length),(l[i]::l.eraseIdx i).Perm l
 | [],_,h=>absurd h (w9 _)
 |a::l,0,_=>.refl _
 |a::l,i+1,h=>by
  have h':i<l.length:=by simpa using h
  have:((a::l)[i+1]::(a::l).eraseIdx (i+1))=l[i]::a::l.eraseIdx i:=rfl;show (List.Perm.swap a l[i] _).trans (.cons a (BP l i h'))
def BR{α:Type}(next:Nat->Nat):∀(n k:Nat) (l:List α) (out:Array α),l.length=n->(pickOrder.go next n k l out).toList.Perm (out.toList++l)
 | 0,k,l,out,h=>by
  cases l with
  |nil=>simp[pickOrder.go]
  |cons _ _=>simp at h
 |n+1,k,l,out,h=>by
  have hl:next k % l.length<l.length:=Nat.mod_lt _ ⋯;delta pickOrder.go;rw[i3 hl];apply (BR next n (k+1) _ _ (by rw[List.length_eraseIdx_of_lt hl];lia)).trans ?_
  rw[Array.toList_push,AR];apply List.Perm.append_left _ ?_;show BP _ _ hl
def Ey{α:Type}(next:Nat->Nat)(xs:Array α):(pickOrder next xs).toList.Perm xs.toList:=by have:=BR next xs.size 0 xs.toList ([].toArray) ⋯;simpa [pickOrder]using this
section
variable{prog:Program}{w:World}{A:Around}{E:Value->Shared->Prop}{s:Shared}
abbrev fB(t:SetTable):Nat->Nat
 | 0=>0
 |i+1=>t.place.getD i 0+1
def below_at{t:SetTable}(r:Yy t.place){n:Nat}(hz:t.place.size=n){i:Nat}(hi:i<=n):SetTable.below t.place (fB t i)=i:=by
 let(b1,b2,b3):=wL r (fB t i);rcases Nat.lt_trichotomy (SetTable.below t.place (fB t i)) i with h |h |h
 .
  cases i with
  |zero=>lia
  |succ m=>have:=b3 m ⋯ ⋯;simp only[fB]at this;lia
 . show h
 .
  have:=b2 i h;cases i with
  |zero=>simp only[fB]at this;lia
  |succ m=>have r:=r m (m+1) ⋯ ⋯;simp only[fB]at this;lia
def Pw(a:Addr)(slot given ep0:Nat):setNext a slot given ep0=(do
  let (es,epoch,t) <- setState a
  if <- setsByText then
   if epoch != ep0 then unsupported "set_iterator.__next__:elements-changed"
   return ((<- setWalk a)[given]?).map λe=>(e.2,slot)
  if (not t.plain)&&es.size > 1 then unsupported "set_iterator.__next__:the-table-is-plain-no-more"
  (do if (not t.led)&&(not es.isEmpty) then unsupported "set:maker-not-led":Sem Unit)
  let i:=SetTable.below t.place slot
  return match es[i]?,t.place[i]? with
   |!(_,x),!j=>!(x,j+1)
   |_,_=>none):=rfl
def JH(hw:w.params.followText "set-order"=false)
  (ho:s.heap.get? a=!o) (S:pM o es ep t) (ld:t.led=true) (hi:i<=es.size) (q:Q (es[i]?.map λe=>(e.2,fB t (i+1))) s):wpAny (model prog w) A (setNext a (fB t i) g ep0) Q E s:=by
 rw[Pw];apply aS (wE ho S.data S.fits ?_);apply aS (aS (yA (dC ?_)));dsimp only[model];rw[hw,S.plain,ld];rw[below_at S.Ph S.sz hi];have e:(match es[i]?,t.place[i]? with
   |!(_,x),!j=>!(x,j+1)
   |_,_=>none)=es[i]?.map λe=>(e.2,fB t (i+1)):=by
  by_cases h:i<es.size
  .
   have h2:i<t.place.size:=by rw[S.sz];show h
   rw[An h];simp[fB,h2]
  . rw[Array.getElem?_eq_none ⋯];rfl
 first
  |show aS (dC (dC (by rw[e];show q)))
  |show dC (by rw[e];show q)
def Ez(hw:w.params.followText "set-order"=true)
  (ho:s.heap.get? a=!o) (S:pM o es ep t) (q:Q ((pickOrder (w.params.setOrder a ep) es)[g]?.map λe=>(e.2,i)) s):wpAny (model prog w) A (setNext a i g ep) Q E s:=by
 apply aS (wE ho S.data S.fits ?_);apply aS (aS (yA (dC ?_)));dsimp only[model];rw[hw];simp only[bne_self_eq_false];apply aS (aS (wE ho S.data S.fits ?_));apply aS (aS (yA (dC ?_)));rw[hw];show aS (yA (dC (dC q)))
end
end Sb
namespace Sb
open PySem
def JK:Manifest.owners.lookup (String.ofList ['r','o','t','a','r','e','t','i','_','t','e','s'].reverse)=!Manifest.sig_set_iterator:=by kernel_rfl
def cu:Slot "set_iterator" "__next__" "set_iterator.__next__" :=
 .of (owner:= "set_iterator") (n:= "__next__") (by rw[typeLookup_type];kernel_rfl) (by decide +kernel) (by decide +kernel) (by decide +kernel)
  (by first |show .inl (by decide +kernel) |show .inr (by decide +kernel)) (by rw[isSubtype_type];kernel_rfl)
def jD:entryFor table "set_iterator.__next__"=some Builtin.«set_iterator.__next__»:=entryFor_of_tree (by kernel_rfl)
def kZ(a:Value):argsOk "set_iterator.__next__" #[[a],[]]:=by delta argsOk;rw[signature?_of (n:=['_','_','t','x','e','n','_','_']) (by kernel_rfl) JK];kernel_rfl
def lg:Slot "set_iterator" "__iter__" "set_iterator.__iter__" :=
 .of (owner:= "set_iterator") (n:= "__iter__") (by rw[typeLookup_type];kernel_rfl) (by decide +kernel) (by decide +kernel) (by decide +kernel)
  (by first |show .inl (by decide +kernel) |show .inr (by decide +kernel)) (by rw[isSubtype_type];kernel_rfl)
def qY:entryFor table "set_iterator.__iter__"=some Builtin.«dict_keyiterator.__iter__»:=
 entryFor_alias (id':= "dict_keyiterator.__iter__") (by kernel_rfl) (by first |rfl |decide +kernel | (delta String.splitOn;simp +decide [String.splitOnAux])) (by decide +kernel) (by kernel_rfl)
def uF(a:Value):argsOk "set_iterator.__iter__" #[[a],[]]:=by delta argsOk;rw[signature?_of (n:=['_','_','r','e','t','i','_','_']) (by kernel_rfl) JK];kernel_rfl
def pO:entryFor table "set.__iter__"=some Builtin.«frozenset.__iter__»:=
 entryFor_alias (id':= "frozenset.__iter__") (by kernel_rfl) (by first |rfl |decide +kernel | (delta String.splitOn;simp +decide [String.splitOnAux])) (by decide +kernel) (by kernel_rfl)
section
variable{prog:Program}{w:World}{A:Around}{E:Value->Shared->Prop}{s:Shared}
abbrev zF(h:Heap)(I a:Addr)(sl i n ep:Nat):Prop:=
 ∃o,h.get? I=!o/\o.cls=.type "set_iterator" /\o.data=.fields ([.int sl 0,.int i 0,.ref a,.int n 0,.int ep 0].toArray)
def zF.typeIs(x:zF s.heap I a sl i n ep):s.TypeIs (.ref I) "set_iterator" :=let #[o,ho,hc,_]:=x;#[o,ho,hc]
abbrev fC(w:World)(a:Addr)(ep:Nat)(es:Array (Int×Value)):Array (Int×Value):=if w.params.followText "set-order"=true then pickOrder (w.params.setOrder a ep) es else es
abbrev iK(w:World)(t:SetTable)(i:Nat):Nat:=if w.params.followText "set-order"=true then 0 else fB t i
def pP(w:World)(a:Addr)(ep:Nat)(es:Array (Int×Value)):(fC w a ep es).toList.Perm es.toList:=by
 delta fC;split
 . show Ey _ _
 . show .refl _
def fD(w:World)(a:Addr)(ep:Nat)(es:Array (Int×Value)):(fC w a ep es).size=es.size:=by have:=(pP w a ep es).length_eq;simpa using this
def pQ
  (ho:s.heap.get? a=!o) (S:pM o es ep t) (ld:w.params.followText "set-order"=false->t.led=true) (hi:i<=es.size) (q:Q ((fC w a ep es)[i]?.map λe=>(e.2,iK w t (i+1))) s):wpAny (model prog w) A (setNext a (iK w t i) i ep) Q E s:=by
 delta fC iK at *;cases hw:w.params.followText "set-order" with
 |true=>rw[hw]at q;show Ez hw ho S q
 |false=>rw[hw]at q;show JH hw ho S (ld hw) hi q
def next_item(hit:zF s.heap I a (iK w t i) i es.size ep)
  (hoa:s.heap.get? a=!o) (S:pM o es ep t) (ld:w.params.followText "set-order"=false->t.led=true) (hx:(fC w a ep es)[i]?=!e)
  (hQ:∀h',zF h' I a (iK w t (i+1)) (i+1) es.size ep->Heap.SameBut I s.heap h'->Q (!e.2) { s with heap:=h'}) :
  wpAny (model prog w) A (pyNext (.ref I)) Q E s:=by
 let(oi,Yz,hc,hd):=id hit;have hlt:i<es.size:=by rw[<- fD w a ep es];show (tP.mp hx).1
 apply aS (BY (pV hit.typeIs cu
  (nN cu hit.typeIs jD ?_ (kZ _))))
 apply aS (dC ?_);apply aS (wpAny_fieldsOf Yz hd ?_);apply aS (aS (wE hoa S.data S.fits (dC ?_)));rw[i7 ⋯];simp only[Bn];apply aS (pQ hoa S ld (CH hlt) ?_);rw[hx];apply aS (AD Yz hd ⋯ ?_);have yX:=mB (Obj.mapFields (·.setIfInBounds 0 (rawInt (iK w t (i+1):Nat)))) Yz (v6 (pE hd _));have hd1:=pE hd (·.setIfInBounds 0 (rawInt (iK w t (i+1):Nat)));apply aS (AD yX hd1 ⋯ (dC #[_,rfl,dC (hQ _ ?_ ((y6 ..).trans (y6 ..)))]));show#[_,mB _ yX (v6 (pE hd1 _)),(CA ..).trans ((CA ..).trans hc),by
  rw[pE hd1];simp[rawInt]]
def next_end(hh:A.handled=none)(hit:zF s.heap I a (iK w t es.size) es.size es.size ep)
  (hoa:s.heap.get? a=!o) (S:pM o es ep t) (ld:w.params.followText "set-order"=false->t.led=true)
  (hQ:∀h',Heap.ExtBut I s.heap h'->Q none { s with heap:=h'}) :
  wpAny (model prog w) A (pyNext (.ref I)) Q E s:=by
 let(oi,Yz,hc,hd):=id hit;have hx:(fC w a ep es)[es.size]?=none:=by rw[<- fD w a ep es];simp
 apply aS (BY (pV hit.typeIs cu
  (nN cu hit.typeIs jD ?_ (kZ _))))
 apply aS (dC ?_);apply aS (wpAny_fieldsOf Yz hd ?_);apply aS (aS (wE hoa S.data S.fits (dC ?_)));rw[i7 ⋯];simp only[Bn];apply aS (pQ hoa S ld (eD _) ?_);rw[hx];apply aS (AD Yz hd ⋯ ?_);apply aS ?_;apply aS (nS ?_ (by size_fits))
 apply aS (wpAny_of_eq (by first |rfl | (simp only[firstArgMember];rfl)) ?_)
 apply nS ?_ (by size_fits)
 apply aS (wpAny_handled ?_)
 first |rw[show A.in1.handled=none from hh] |rw[hh]
 apply aS (dC (wpAny_throw ?_));apply aS (wpAny_isInstance #[_,eC _ rfl,rfl] isSubtype_stop ?_);show dC (hQ _ (((y6 ..).extBut.push _).push _))
def EY(hit:zF s.heap I a sl i n ep)(h:Q (.ref I) s):wpAny (model prog w) A (pyIter (.ref I)) Q E s:=by apply wpAny_pyIter_slot hit.typeIs lg (nN lg hit.typeIs qY ?_ (uF _));show dC #[_,rfl, "set_iterator",_,hit.typeIs,cu.lookup,h]
def Fb{o:Obj}{es:Array (Int×Value)}{ep:Nat}{t:SetTable}(hh:A.handled=none)(I a:Addr)(iZ:a≠I)(S:pM o es ep t)(ld:w.params.followText "set-order"=false->t.led=true) :
  Walks prog w A I [I,a] [I] es.size (λi v=>∃e,(fC w a ep es)[i]?=!e/\e.2=v) (λi h=>zF h I a (iK w t i) i es.size ep/\h.get? a=!o) where
 sub:=λb hb=>by simp at hb;simp[hb]
 frame:=λ_ _ _ st hk=>#[let #[o,ho,r]:=st.1;#[o,hk I ⋯ o ho,r],hk a ⋯ _ st.2]
 item:=λi s Q E hi st hQ=>by
  have hi':i<(fC w a ep es).size:=by rw[fD];show hi
  apply next_item st.1 st.2 S ld (An hi') λh' Vz hs'=>?_
  show hQ _ h' s.toks #[_,An hi',rfl] #[Vz,hs'.extBut a o iZ st.2] λb o hb e=>hs'.extBut b o (λh=>hb (by simp[h])) e
 done:=λs Q E st hQ=>next_end hh st.1 st.2 S ld λh' he'=>hQ h' s.toks λb o hb e=>he' b o (λh=>hb (by simp[h])) e
 self:=λ_ _ _ _ st hQ=>EY st.1 hQ
def JL(a:Addr):setDrawn a=(do
  let (es,_,t) <- setState a
  let Wa <- setsByText
  return (not Wa)&&((not t.plain)&&es.size > 1)):=rfl
def JM{a:Addr}{o:Obj}{es:Array (Int×Value)}{ep:Nat}{t:SetTable}{Q:Value->Shared->Prop}(ho:s.heap.get? a=!o)(S:pM o es ep t)
  (hQ:Q (.ref s⁻¹) { s with heap:=s.heap.push { cls:=.type "set_iterator",data:=.fields ([.int 0 0,.int 0 0,.ref a,.int es.size 0,.int ep 0].toArray)}}) :
  wpAny (model prog w) A (pyIter (.ref a)) Q E s:=by
 have hT:s.TypeIs (.ref a) "set" :=#[_,ho,S.ex.1];apply wpAny_pyIter_slot hT F.slot_set_iter (nN F.slot_set_iter hT pO ?_ (F.args_set_iter_1 _));apply aS (dC ?_);rw[JL];apply aS (aS (aS (wE ho S.data S.fits (dC (dC ?_)))));apply aS (aS (wE ho S.data S.fits (aS (aS (yA (dC (dC ?_)))))));rw[S.plain];simp only[Bool.not_true,Bool.false_and,CF];apply aS (dC ?_);apply aS (aS (wE ho S.data S.fits (dC ?_)));apply aS (nS (dC #[_,rfl, "set_iterator",_,#[_,eC _ rfl,rfl],cu.lookup,?_]));show hQ
end
end Sb
namespace Sb
open PySem PySem.W PyProof.Rows
section
variable{prog:Program}{w:World}{A:Around}{E:Value->Shared->Prop}{s:Shared}
def JN(hT:s.TypeIs (.ref a) "set")(h:Q false s):wpAny (model prog w) A (Builtin.List.listLengthHint (.ref a)) Q E s:=by
 apply aS (wpAny_specialOf hT F.slot_set_len.lookup ?_);have e:splitId "set.__len__"=!("set", "__len__"):=by decide +kernel
 dsimp only;rw[e];apply aS (wpAny_isInstance hT sub_set_self ?_);simp only[Bool.not_true,Bool.false_eq_true,↓reduceIte];show aS (BI hT (dC h))
def wO{a:Addr}{o:Obj}{es:Array (Int×Value)}{ep:Nat}{t:SetTable}{Q:List Value->Shared->Prop}(hh:A.in1.handled=none)(ho:s.heap.get? a=!o)(S:pM o es ep t)(ld:w.params.followText "set-order"=false->t.led=true)(hn:es.size<=sizeLine)
  (hQ:∀s',Moved [] (λa b=>b=a) s s'->Q ((fC w a ep es).toList.map (·.2)) s'):wpAny (model prog w) A (collect (.ref a)) Q E s:=by
 have hlt:=eQ ho;have hSa:=AC hlt;apply aS (wpAny_runValue (AS F.entry_proto_collect ?_));apply aS (nS ?_);apply dC #[B3 F.plain_list_iadd _,AS F.entry_list_iadd ?_];have yX:(s.heap.push { cls:=.type "list",data:=.seq ([]:List Value).toArray}).get? a=!o:=b0 _ ho;exact wpAny _ A.in1 (Builtin.List.listExtendWith (.ref s⁻¹) (.ref a) (.ref s⁻¹)) _ _ _;apply aS (BI #[_,yX,S.ex.1] ?_);have h1:Builtin.List.listSameRef (.ref s⁻¹) (.ref a)=false:=by simp[Builtin.List.listSameRef,hSa]
 have h2:(Value.type "set" == Value.type "list")=false:=by decide
 have h3:(Value.type "set" == Value.type "tuple")=false:=by decide
 simp only[h1];apply aS (JM yX S ?_);have hz:(s.heap.push { cls:=.type "list",data:=.seq ([]:List Value).toArray}).objs.size=s⁻¹+1:=t7 ..;rw[hz];apply aS (mE ?_);apply JN #[_,b0 _ yX,S.ex.1] ?_;apply aS (AJ ?_);generalize hH:((s.heap.push { cls:=.type "list",data:=.seq ([]:List Value).toArray}).push { cls:=.type "set_iterator",data:=.fields ([.int 0 0,.int 0 0,.ref a,.int es.size 0,.int ep 0].toArray)})=h0;have hS₁:h0.get? s⁻¹=some { cls:=.type "list",data:=.seq ([]:List Value).toArray}:=by rw[<- hH];show b0 _ (eC _ rfl)
 have hI₁:h0.get? (s⁻¹+1)=some { cls:=.type "set_iterator",data:=.fields ([.int 0 0,.int 0 0,.ref a,.int es.size 0,.int ep 0].toArray)}:=by rw[<- hH,<- hz];show eC _ rfl
 have old:∀b o,s.heap.get? b=!o->h0.get? b=!o:=λb o e=>by
  rw[<- hH];show b0 _ (b0 _ e)
 apply aS ?_;apply aS (B2 hS₁ rfl ?_);have hS₂:=mB (Obj.mapSeq (·.push Value.none)) hS₁ rfl;apply B2 hS₂ rfl ?_;have hS₃:=mB (Obj.mapSeq (·.pop)) hS₂ rfl;have Fc:∀b o,b≠s⁻¹->h0.get? b=!o->
   ((h0.update s⁻¹ (Obj.mapSeq (·.push Value.none))).update s⁻¹ (Obj.mapSeq (·.pop))).get? b=!o:=
  λb o hb e=>(i5 _ _ (n0 hb)).trans ((i5 _ _ (n0 hb)).trans e)
 have W:=(Fb (prog:=prog) hh (s⁻¹+1) a ⋯ S ld).toS;have sl0:iK w t 0=0:=by delta iK;split <;> rfl
 apply dC #[B3 F.plain_extend_loop _,codeAny_extend_loopS W hn _ (by simp;lia) _ es.size 0 _ _ _ rfl (tS _) #[#[_,Fc _ _ ⋯ hI₁,rfl,by rw[sl0];rfl],Fc _ _ ⋯ (old _ _ ho)] hS₃ (ItemsOf.nil _) λs' acc' c' hm hS' hacc=>?_]
 apply aS (wpAny_load hS' ?_);have e:acc'.toList=(fC w a ep es).toList.map (·.2):=by
  let(z1,z2):=hacc;refine List.ext_getElem?;intro i;by_cases hi:i<acc'.size
  . let(e,e1,e2):=z2 i acc'[i] (An hi);rw[AZ,An hi,mI,AZ,e1,<- e2];rfl
  . rw[At (by simpa using hi),At (by rw[eJ,oD,fD];lia)]
 apply dC ?_;rw[e];apply hQ s' #[λb o _ eb=>hm.heap b o ?_ (Fc b o ?_ (old b o eb)),hm.gens,hm.drawn,hm.os,hm.toks]
 . have:=eQ eb;simp only[dS,not_or];show#[by lia,by lia]
 . have:=eQ eb;lia
def Fd{v:Value}{vs:List Value}{R:Shared->Prop}{Q:Value->Shared->Prop}(hz:vs.length<=sizeLine)(go:wpAny (model prog w) A.in1 (collect v) (λvs' s'=>vs'=vs/\R s') E s)
  (h:∀s',R s'->wpAny (model prog w) A.in1.in1 (Builtin.«list.sort» #[[.ref s'⁻¹],[]]) (λf s''=>f=.done (.ret .none)/\Q (.ref s'⁻¹) s'') E { s' with heap:=s'.heap.push (seqObj "list" vs.toArray 0)}) :
  wpAny (model prog w) A (call (.builtin "sorted") [v]) Q E s:=by
 apply BB kind_sorted plain_sorted entry_sorted (args_sorted1 _) ?_;apply aS (dC (aS (kA go ?_ λ_ _ z=>z)))
 rintro _ s' ⟨rfl,hr⟩;apply aS (B0 ?_ hz);apply aS (mE (nN slot_list_sort #[_,eC _ rfl,rfl] entry_list_sort (kA (h s' hr) (λf s'' hf=>#[_,hf.1,?_]) λ_ _ z=>z) (args_list_sort _)))
 show dC #[_,rfl,hf.2]
end
end Sb
namespace Sb
open PySem PySem.W PyProof.Rows Ev
section
variable{prog:Program}{w:World}{A:Around}{E:Value->Shared->Prop}{s:Shared}
def wQ{a:Addr}{ks: ~~~0}{Q:Value->Shared->Prop}(hh:A.in1.in1.handled=none)(hS:uE w s.heap a ks)
  (q:∀(ep:Nat) (out:Array Value) s1 s',Moved [] (λa b=>b=a) s s1->Moved [] (λa b=>b=a) s1 s'->s'.heap.get? s1⁻¹=!(seqObj "list" out ep)->IntsAre out.toList ks->Q (.ref s1⁻¹) s') :
  wpAny (model prog w) A (call (.builtin "sorted") [.ref a]) Q E s:=by
 let(o,ho,_,es,ep,t,S,ld,sm,T,hm):=hS;let(js,jp,je):=pN.perm (pP w a ep es) T.ie;have hI:=je.ints;have h8:=sm.len;have hes:=T.sz.2;have aK:((fC w a ep es).toList.map (·.2)).length=ks.length:=by rw[eJ,oD,fD,hes]
 have hz:((fC w a ep es).toList.map (·.2)).length<=sizeLine:=by rw[sB,aK];lia
 apply Fd (vs:=(fC w a ep es).toList.map (·.2)) (R:=λs'=>Moved [] (λa b=>b=a) s s') hz (wO hh ho S ld (by rw[hes,sB];lia) λs' hmv=>#[rfl,hmv]) λs' hmv=>?_
 generalize (fC w a ep es).toList.map (·.2)=vs at hI aK hz ⊢
 apply list_sort_tree (eC _ rfl) hI ⋯ λout ns' a1 a2 a3=>#[rfl,?_]
 let(yD,he):=sortedHeap_at (h:=s'.heap.push (seqObj "list" vs.toArray 0)) (a:=s'⁻¹) (vs:=vs) (n:=0) (out:=out) (eC _ rfl);have e:=(a2.trans jp).eq_of_pairwise (λx y _ _ h1 h2=>Int.le_antisymm h1 h2) a3 (sm.1.imp λh=>by lia)
 subst e;apply q yD out s' _ hmv #[λb o _ hb=>?_,rfl,rfl,rfl,eD _] he a1
 have hlt:=eQ hb;rw[sortedHeap_old (kS hlt) (by rw[t7];lia)]
 show b0 _ hb
end
end Sb
namespace Ev
open L2 Sb
abbrev zS(z:Z)(w:World)(D:Addr)(ks: ~~~0):Z:={ z with H0:=upd z.H0 D (fO w ks),M0:=D::z.M0}
section
variable{z:Z}{w:World}{D:Addr}{ks ks': ~~~0}{g:G}{Y:Sg}{As M:List Addr}{H:Hp}
structure Gs(z:Z)(D:Addr):Prop where
 h0:z.H0 D=none
 m0:∀m∈z.M0,z.H0 m≠none
 bm:∀b∈z.B,b∈z.M0
 tm:∀p∈z.T,p.1∈z.M0
def Gs.of(s:S z g Y As M H)(h:H D=none):Gs z D:=#[s.cC h,s.m0,s.bm,s.tm]
def Gs.nB(d:Gs z D):D∉z.B:=λh=>d.m0 _ (d.bm _ h) d.h0
def Gs.nT(d:Gs z D):D∉z.TA:=λh=>by
 let(p,hp,rfl):=fR.mp h;show d.m0 _ (d.tm _ hp) d.h0
def S.toZ(s:S z g Y As M H)(d:Gs z D)(hm:D∈M)(h:H D=!(fO w ks)):S (zS z w D ks) g Y As M H where
 sl:=s.sl
 nd:=s.nd
 sub:=s.sub
 own:=λi a l e1 e2=>by
  rcases s.own i a l e1 e2 with q |q
  . show .inl q
  .
   let(a',xs,f1,_,f3,_):=s.sl.at e1;rw[e2]at f1;injection f1 with f1;injection f1 with f1;injection f1 with f1;subst f1;apply .inr ?_;exact upd z.H0 D (fO w ks) a=none;rw[az (λe=>by rw[e,h]at f3;cases f3)]
   show q
 live:=s.live
 keep:=λb o e hb ht=>by
  by_cases eb:b=D
  . subst eb;have e:upd z.H0 b (fO w ks) b=!o:=e;rw[aA]at e;rw[h,e]
  . have e:upd z.H0 D (fO w ks) b=!o:=e;rw[az eb]at e;show s.keep b o e hb ht
 fX:=λm hm'=>by
  rcases dS.mp hm' with rfl |hm'
  . show hm
  . show s.fX m hm'
 m0:=λm hm'=>by
  exact upd z.H0 D (fO w ks) m≠none;by_cases eb:m=D
  . subst eb;rw[aA];show λe=>nomatch e
  .
   rw[az eb];rcases dS.mp hm' with e |hm'
   . show absurd e eb
   . show s.m0 m hm'
 bm:=λb hb=>bP _ (s.bm b hb)
 gF:=s.gF
 tab:=s.tab
 tm:=λp hp=>bP _ (s.tm p hp)
 tt:=s.tt
def S.ofZ(s:S (zS z w D ks) g Y As M H)(d:Gs z D):S z g Y As M H where
 sl:=s.sl
 nd:=s.nd
 sub:=s.sub
 own:=λi a l e1 e2=>by
  rcases s.own i a l e1 e2 with q |q
  . show .inl q
  .
   have q:upd z.H0 D (fO w ks) a=none:=q;by_cases eb:a=D
   . subst eb;rw[aA]at q;cases q
   . rw[az eb]at q;show .inr q
 live:=s.live
 keep:=λb o e hb ht=>s.keep b o (by
  exact upd z.H0 D (fO w ks) b=!o;rw[az (λeb=>by rw[eb,d.h0]at e;cases e)]
  show e) hb ht
 fX:=λm hm=>s.fX m (bP _ hm)
 m0:=d.m0
 bm:=d.bm
 gF:=s.gF
 tab:=s.tab
 tm:=d.tm
 tt:=s.tt
def Px{K:Frag}(q:Slots K M H g Y As):D∈As->∃xs,H D=!(.lst xs):=by
 induction q with
 |nil=>show λh=>nomatch h
 |no _ ih=>show ih
 |dat _ _ ih=>show ih
 |own e _ _ ih=>
  intro h;rcases dS.mp h with rfl |h
  . show#[_,e]
  . show ih h
def S.Wc(s:S (zS z w D ks) g Y As M H)(d:Gs z D):H D=!(fO w ks)/\D∈M/\D∉As:=by
 have h1:=s.keep D _ (by exact upd z.H0 D (fO w ks) D=_;rw[aA]) d.nB d.nT
 apply#[h1,s.fX D dA,λhA=>?_]
 let(xs,e):=Px s.sl hA;rw[h1]at e;cases e
def S.putD(s:S (zS z w D ks) g Y As M H)(d:Gs z D):S (zS z w D ks') g Y As M (upd H D (fO w ks')):=by let(h1,h2,h3):=s.Wc d;show ((s.ofZ d).Hj (u1:=fO w ks') h2 h3 d.h0 h1 trivial trivial).toZ d h2 aA
end
abbrev pR(z z':Z):Prop:=z'.K=z.K/\z'.lent=z.lent
inductive uG(T:Tg)(gW:G->Bool->G->Prop)(rZ:G->D->G->Prop):List D->~~~0->G->~~~0->G->Prop
 |nil {ks: ~~~0}{g:G}:uG T gW rZ [] ks g ks g
 |skip {d:D}{l:List D}{ks ks': ~~~0}{g g1 g2 g':G}:T.set d g=!g1->gW g1 false g2->uG T gW rZ l ks g2 ks' g'->uG T gW rZ (d::l) ks g ks' g'
 |take {d:D}{l:List D}{n:Int}{ks ks': ~~~0}{g g1 g2 g3 g':G}:T.set d g=!g1->gW g1 true g2->rZ g2 (.int n) g3->(0<=n/\n<8)->uG T gW rZ l (oneMore ks n) g3 ks' g'->uG T gW rZ (d::l) ks g ks' g'
inductive jE(T:Tg)(gW:G->Bool->G->Prop)(In: ~~~0->G->~~~0->G->Prop):List D->~~~0->G->~~~0->G->Prop
 |nil {ks: ~~~0}{g:G}:jE T gW In [] ks g ks g
 |skip {d:D}{l:List D}{ks ks': ~~~0}{g g1 g2 g':G}:T.set d g=!g1->gW g1 false g2->jE T gW In l ks g2 ks' g'->jE T gW In (d::l) ks g ks' g'
 |take {d:D}{l:List D}{ks k1 ks': ~~~0}{g g1 g2 g3 g':G}:T.set d g=!g1->gW g1 true g2->In ks g2 k1 g3->jE T gW In l k1 g3 ks' g'->jE T gW In (d::l) ks g ks' g'
section
variable{X:Cx}{z0:Z}{w:World}{D:Addr}{tg iter aX:Expr}{ifs:List Expr}{T:Tg}{ak:List Ev.D}{ks ks': ~~~0}{g2 Be g3:G}
def Fe{gW:G->Bool->G->Prop}{rZ:G->Ev.D->G->Prop}(hC:∀g b g',gW g b g'->∀z,pR z0 z->bL X z ifs g b g')(hE:∀g d g',rZ g d g'->∀z,pR z0 z->aB X z aX g (.dat d) g')(hw:∀z,pR z0 z->dg X z tg iter g2 ak Be)(ht:∀z,pR z0 z->eW X z tg T)(d0:Gs z0 D)
  (hcp:uG T gW rZ ak ks Be ks' g3) {Y:Sg}{As M:List Addr}{H:Hp}{Nn:Sg->Hp->Prop} (s:S (zS z0 w D ks) g2 Y As M H)
  (k:∀σ' aC M' H',S (zS z0 w D ks') g3 σ' aC M' H'->au M H M' H'->rY T.ix Y σ'->Nn σ' H'):RB (Js X tg iter) (vU X tg) (vV X ifs) (Pq w D (Dz X aX)) Y H Nn:=by
 have ze:∀ks,pR z0 (zS z0 w D ks):=λ_=>#[rfl,rfl]
 let(wi,q,kw):=hw _ (ze ks);apply#[wi,q,kw Y As M H _ s λJ H1 aL M1 s1 dz hJ=>?_]
 apply jd hJ (λl σ' H'=>∃gb Ab Mb ka,S (zS z0 w D ka) gb σ' Ab Mb H'/\au M1 H1 Mb H'/\rY T.ix Y σ'/\uG T gW rZ l ka gb ks' g3)
  #[_,_,_,_,s1,au.refl _ _,rY.refl _ _,hcp] (by rintro _ _ _ ⟨_,_,M2,_,_,aI,_⟩;show#[M2,aI]) ?_ ?_
 . rintro σ' H' ⟨gb,Ab,Mb,ka,s2,aI,ag,cp⟩;cases cp;show k σ' Ab Mb H' s2 (dz.trans aI) ag
 .
  rintro d l σ' H' ⟨gb,Ab,Mb,ka,s2,aI,ag,cp⟩ x H2 yl;let(s3,dY,rx):=yl Mb aI (zS z0 w D ka) gb σ' Ab rfl s2;let(t,qt,kt):=ht _ (ze ka);cases cp with
  |skip e0 hc rest=>
   apply#[t,qt,kt d gb _ e0 x _ Ab Mb H2 _ s3 rx λσ4 gK s4 O1=>?_]
   let(t2,q2,k2):=hC _ _ _ hc _ (ze ka);apply#[t2,q2,k2 _ gK Mb H2 _ s4 λH5 qU M5 s5 jq=>?_]
   show lR #[_,qU,M5,_,s5,(aI.trans dY).trans jq,ag.trans O1,rest]
  |@take _ _ n _ _ _ _ _ _ _ e0 hc he hz' rest=>
   apply#[t,qt,kt d gb _ e0 x _ Ab Mb H2 _ s3 rx λσ4 gK s4 O1=>?_]
   let(t2,q2,k2):=hC _ _ _ hc _ (ze ka);let(t3,q3,k3):=hE _ _ _ he _ (ze ka);apply#[t2,q2,k2 _ gK Mb H2 _ s4 λH5 qU M5 s5 jq=>jr #[t3,q3,k3 _ qU M5 H5 _ s5 λv H6 NT M6 s6 HS R6=>?_]]
   cases R6;let(f1,f2,f3):=s6.Wc d0;show#[n,ka,rfl,f1,hz',_,NT,M6,_,s6.putD d0,(((aI.trans dY).trans jq).trans HS).trans (au.write f2),ag.trans O1,rest]
end
section
variable{X:Cx}{z:Z}{t1 i1 tg iter aX:Expr}{f1 ifs:List Expr}{scope:Scope}{pos:Pos}{N':List Str}{k:Nat}{T1 T:Tg}{ak:List D}{ks: ~~~0}{g g1 gE:G}
abbrev InS(X:Cx)(z:Z)(N':List Str)(scope:Scope)(tg iter aX:Expr)(ifs:List Expr)(T:Tg)(ks: ~~~0)(g2:G)(ks': ~~~0)(g3:G):Prop:=
 ∃ak Be,(∀(bk:Bk) z',pR z z'->dg (X.blk N' scope bk) z' tg iter g2 ak Be)/\uG T (λg b g'=>∀(bk:Bk) z',pR z z'->bL (X.blk N' scope bk) z' ifs g b g') (λg d g'=>∀(bk:Bk) z',pR z z'->aB (X.blk N' scope bk) z' aX g (.dat d) g') ak ks Be ks' g3
abbrev Sh(X:Cx)(z:Z)(e:Expr)(g:G)(ks: ~~~0)(g':G):Prop:=
 ∃t,PE X e t/\∀Y As M H (Q:VK),S z g Y As M H->(∀D H' aC M',S z g' Y aC M' H'->au M H M' H'->H' D=!(fO X.w ks)->Q (.ref D) H')->t Y H Q
def zG(hw:dg X z t1 i1 g ak g1)(ht1:∀(b:Bk) z',pR z z'->eW (X.blk N' scope b) z' t1 T1)(ht:∀(b:Bk) z',pR z z'->eW (X.blk N' scope b) z' tg T)(hT1:∀i∈T1.ix,g1.length<=i/\i<g1.length+k)(hT:∀i∈T.ix,g1.length<=i/\i<g1.length+k)
  (hcp:jE T1 (λg b g'=>∀(bk:Bk) z',pR z z'->bL (X.blk N' scope bk) z' f1 g b g') (InS X z N' scope tg iter aX ifs T) ak [] (gD k g1) ks gE) :
  ∃wi,PI X t1 i1 wi/\∀Y As M H Q,S z g Y As M H->(∀D H' aC M',S z (gE.take g1.length) Y aC M' H'->au M H M' H'->H' D=!(fO X.w ks)->Q (.ref D) H')->
   ud (fO X.w []) X k wi (λb=>vU (X.blk N' scope b) t1) (λb=>vV (X.blk N' scope b) f1) (λD b=>RB (Js (X.blk N' scope b) tg iter) (vU (X.blk N' scope b) tg) (vV (X.blk N' scope b) ifs) (Pq X.w D (Dz (X.blk N' scope b) aX))) Y H Q:=by
 let(wi,q,kw):=hw;apply#[wi,q,λY As M H Q s kq=>kw Y As M H _ s λJ H1 aL M1 s1 dz hJ D hD=>?_]
 have hl:=s1.sl.length;have hz:∀p∈z.lent,p.1<Y.length:=λp hp=>(dE.mp (s1.gF p hp).1).1
 have Jv:∀i∈T1.ix,Y.length<=i:=λi hi=>by rw[<- hl];show (hT1 i hi).1
 have NQ:∀i∈T.ix,Y.length<=i:=λi hi=>by rw[<- hl];show (hT i hi).1
 have d0:Gs z D:=.of s1 hD;have ze:∀ks,pR z (zS z X.w D ks):=λ_=>#[rfl,rfl]
 have sb:=((s1.RK (u0:=fO X.w []) trivial hD).toZ d0 dA aA).wide (List.replicate k none++[!(V.ref D)]);rw[show (List.replicate k (none:Option V)++[!(V.ref D)]).length=k+1 by simp]at sb
 apply jd hJ (λl σ' H'=>∃gb Ab Mb τ ka,S (zS z X.w D ka) gb σ' Ab Mb H'/\au M1 H1 Mb H'/\σ'=Y++τ/\jE T1 (λg b g'=>∀(bk:Bk) z',pR z z'->bL (X.blk N' scope bk) z' f1 g b g') (InS X z N' scope tg iter aX ifs T) l ka gb ks gE)
  #[_,_,_,_,[],sb,au.aN hD,rfl,hcp] (by rintro _ _ _ ⟨_,_,M2,_,_,_,aI,_⟩;show#[M2,aI]) ?_ ?_
 . rintro σ' H' ⟨gb,Ab,Mb,τ,ka,s2,aI,rfl,cp⟩;cases cp;let(f1,_,_):=s2.Wc d0;let(A1,s3,n3):=(s2.ofZ d0).narrow hz;rw[<- hl]at s3;show kq _ H' A1 Mb s3 (dz.trans aI) f1
 .
  rintro d l σ' H' ⟨gb,Ab,Mb,τ,ka,s2,aI,rfl,cp⟩ x H2 yl bk _;let(s3,dY,rx):=yl Mb aI (zS z X.w D ka) gb (Y++τ) Ab rfl s2;let(t,qt,kt):=ht1 bk _ (ze ka);cases cp with
  |skip e0 hc rest=>
   apply#[t,qt,kt d gb _ e0 x _ Ab Mb H2 _ s3 rx λσ4 gK s4 ag=>?_]
   let(τ',rfl):=bY ag Jv;let(t2,q2,k2):=hc bk _ (ze ka);apply#[t2,q2,k2 _ gK Mb H2 _ s4 λH5 qU M5 s5 jq=>?_]
   show lR #[_,qU,M5,τ',_,s5,(aI.trans dY).trans jq,rfl,rest]
  |take e0 hc hin rest=>
   let(items2,Be,hw2,Gn):=hin;apply#[t,qt,kt d gb _ e0 x _ Ab Mb H2 _ s3 rx λσ4 gK s4 ag=>?_]
   let(τ',rfl):=bY ag Jv;let(t2,q2,k2):=hc bk _ (ze ka);apply#[t2,q2,k2 _ gK Mb H2 _ s4 λH5 qU M5 s5 jq=>jr ?_]
   apply Fe (λg b g' h=>h bk) (λg d g' h=>h bk) (hw2 bk) (ht bk) d0 Gn s5 λσ6 NT M6 H6 s6 HS ag6=>?_
   let(τ6,rfl):=bY ag6 NQ;show#[_,NT,M6,τ6,_,s6,((aI.trans dY).trans jq).trans HS,rfl,rest]
def Py(B:aR X.env.scope scope)(hc:X.calm=true)(hN:Names X.N N' scope k)(hw:dg X z t1 i1 g ak g1)(ht1:∀(b:Bk) z',pR z z'->eW (X.blk N' scope b) z' t1 T1)(ht:∀(b:Bk) z',pR z z'->eW (X.blk N' scope b) z' tg T)(hT1:∀i∈T1.ix,g1.length<=i/\i<g1.length+k)(hT:∀i∈T.ix,g1.length<=i/\i<g1.length+k)
  (hcp:jE T1 (λg b g'=>∀(bk:Bk) z',pR z z'->bL (X.blk N' scope bk) z' f1 g b g') (InS X z N' scope tg iter aX ifs T) ak [] (gD k g1) ks gE)
  (hs:∀x,foldedSetIterable i1 X.env x=pure x) (hs2:∀(b:Bk) x,foldedSetIterable iter (X.blk N' scope b).env x=pure x):Sh X z (.SetComp aX [#[t1,i1,f1,0],#[tg,iter,ifs,0]] scope pos) g ks (gE.take g1.length):=by
 let(wi,q,kk):=zG hw ht1 ht hT1 hT hcp;show#[_,Ew B hc hN q (λb=>#[#[iE,iF],zp,iE,iF,oY]) hs hs2,kk]
def uH(hc:X.calm=true):eF X (.builtin "sorted") (λxs H Q=>∃p ks,xs=[.ref p]/\H p=!(fO X.w ks)/\∀q,H q=none->Q (.ref q) (upd H q (.lst (ks.map V.int)))):=by
 intro aj s Y H xs us Q I r h;let(p,ks,rfl,hq,q):=h;let(u,rfl,rx):=vals1 r;cases rx;have hO:=I.hok p _ hq;have hh:=I.ok.hd hc;have h8:ks.length<=8:=by let(o,_,_,es,ep,t,S,ld,sm,_):=hO;show sm.len
 apply wQ hh hO λep out s2 s3 m1 m2 hget hi=>?_
 let(h2,g2,dr2,tk2,os2):=s2;let(h3,g3,dr3,tk3,os3):=s3;let(a1,a2,a3,a4,a5):=m1;let(b1,b2,b3,b4,b5):=m2;subst a2 a3 a4 b2 b3 b4;have I3:L2.Inv X aj Y H { s with heap:=h2,toks:=tk2}:=I.kept λb o hb=>a1 b o (λz=>nomatch z) hb
 have hf:=I3.hok.fresh (eD _);show#[.ref h2.objs.size,_,I3.laid (o:=.lst (ks.map V.int)) (λb o hb=>b1 b o (λz=>nomatch z) hb) (eD _) #[by rw[eJ,sB];lia,out.toList,ep,lQ hi,hget],rfl,q _ hf]
def JQ{e:Expr}{p:Pos}(hc:X.calm=true)(h:Sh X z e g ks g1)(hg:Gl X "sorted")(hm:X.mg "sorted"=none)(cH:starEach [e] X.env=(false,eval e X.env)::starEach [] X.env) :
  aB X z (.Call (.Name "sorted" p) [e] [] pos) g (.new (ks.map .int)) g1:=by
 let(t,q,k):=h;show#[_,iA (uH hc) hg hm (by rfl:bootBuiltins ("sorted":Str)=!(.builtin "sorted")) (bI q fS cH) ⋯ ⋯ cH rfl,λY As M H Q s kk=>k Y As M H _ s λD H' aC M' s' st hD=>
  #[D,ks,rfl,hD,λq hq=>kk (.ref q) _ aC (q::M') (s'.aN hq) (st.trans (au.aN hq)) #[q,_,rfl,dA,λhA=>s'.fresh hq (s'.sub q hA),s'.cC hq,aA,lW _]]]
end
inductive Bl where
 |len |list |tuple |max |min |str |all |sorted |sum |any |int
 deriving DecidableEq
inductive Mt where
 |count |index
 deriving DecidableEq
set_option genInjectivity false in
inductive Ex where
 |val (d:D) |slot (i:Nat)
 |bin (op:Operator) (a b:Ex) |cmp (op:CmpOp) (a b:Ex) |chain (a:Ex) (ops:List CmpOp) (l:List Ex)
 |neg (a:Ex) |not (a:Ex) |and (l:List Ex) |or (l:List Ex) |ite (c a b:Ex)
 |tup (l:List Ex) |lst (l:List Ex)
 |ix (a b:Ex) |slice (a:Ex) (lo hi:Option Ex)
 |call (f:Nat) (l:List Ex) |blt (b:Bl) (l:List Ex) |zH (a:Ex) (n:String) |JR (a:Ex) (ns:List String)
 |comp (n k:Nat) (T:Tg) (it:Ex) (c:Option Ex) (e:Ex)
 |cS (n k:Nat) (T1:Tg) (g8:Ex) (c1:Option Ex) (T:Tg) (it:Ex) (c:Option Ex) (e:Ex)
 |sE (n k:Nat) (T1:Tg) (g8:Ex) (c1:Option Ex) (T:Tg) (it:Ex) (c:Option Ex) (e:Ex)
 |bJ (a:Ex) |iL (a b:Ex) |wR (a:Ex)
 |enum (a:Ex) |zip (a b:Ex) |meth (m:Mt) (o e:Ex)
 |emp |stk |peek (e:Ex)
 |wU (f ir:Nat) (ca:List Addr) (e:Ex) |sF (a:Ex) (l:List (Addr×Bool))
 |append (i:Nat) (e:Ex) |extend (i:Nat) (e:Ex) |sG (i:Nat) (e:Ex)
set_option genInjectivity false in
inductive Sm where
 |ret (e:Ex) |expr (e:Ex) |set (i:Nat) (e:Ex) |setC (i:Nat) (e:Ex) |tgt (T:Tg) (e:Ex) |item (i:Nat) (j e:Ex) |aug (i:Nat) (op:Operator) (e:Ex)
 |ite (c:Ex) (a b:List Sm) |loop (T:Tg) (it:Ex) (b:List Sm) |while (c:Ex) (b:List Sm) |raise (ci:Nat) (e:Ex) |rows (im it iy ia ib:Nat) |stuck
structure Fx where
 np:Nat
 n:Nat
 body:List Sm
abbrev Tg.jT:Tg->Bool
 |.tp _=>true
 |.nm _=>false
abbrev zI(i j:Int):Bool:=(decide (-(2 ^ 64)<i)&&decide (i<2 ^ 64))||(decide (-(2 ^ 64)<j)&&decide (j<2 ^ 64))
abbrev lim:Nat:=16777216
abbrev lq{α:Type}(f:Int->Int->Option α)(a b:D):Option α:=match a with
 |.int i=>(match b with |.int j=>f i j |_=>none)
 |_=>none
abbrev Fg(a b:D):Option R:=match a with
 |.int i=>(match b with |.int j=>!(.dat (.int (i+j))) |_=>none)
 |.lst l=>(match b with |.lst m=>if l.length+m.length<=lim then some (.new (l++m))else none |_=>none)
 |.tup l=>(match b with |.tup m=>if l.length+m.length<=lim then some (.dat (.tup (l++m)))else none |_=>none)
 |_=>none
abbrev JT(a:D)(k:Int):Option R:=match a with
 |.int i=>if zI i k=true then some (.dat (.int (i * k)))else none
 |.lst l=>if -(2 ^ 63)<=k/\k<2 ^ 63/\l.length * k.toNat<=lim then some (.new (List.replicate k.toNat l).flatten)else none
 |_=>none
abbrev qM(op:Operator)(a b:D):Option R:=match op with
 |.Add=>Fg a b
 |.Sub=>lq (λi j=>!(.dat (.int (i - j)))) a b
 |.Mult=>(match b with |.int k=>JT a k |_=>none)
 |.FloorDiv=>lq (λi j=>if 0<j/\j<18446744073709551616 then some (.dat (.int (i / j)))else none) a b
 |.Mod=>lq (λi j=>if 0<j then some (.dat (.int (i % j)))else none) a b
 |.Pow=>lq (λi j=>if 0<=j/\j<=1000/\i.natAbs<2 ^ 64 then some (.dat (.int (i ^ j.toNat)))else none) a b
 |.LShift=>lq (λi j=>if 0<=j/\j<=1000/\i.natAbs<2 ^ 64 then some (.dat (.int (i * 2 ^ j.toNat)))else none) a b
 |_=>none
abbrev Wd:Operator->D->D->Option D
 |.Add,.int i,.int j=>!(.int (i+j))
 |.Sub,.int i,.int j=>!(.int (i - j))
 |.Mult,.int i,.int j=>if zI i j=true then some (.int (i * j))else none
 |_,_,_=>none
abbrev jx(d1 d2:D):Bool:=fM d1&&fM d2&&decide (dep d1<=190)
abbrev lu(d1:D)(l:List D):Bool:=fM d1&&dR l&&decide (deps l<=190)
abbrev ltF(a b:D):Option Bool:=match a with
 |.int i=>(match b with |.int j=>!(decide (i<j)) |_=>none)
 |.tup l=>(match b with |.tup m=>(match bX l with |some ns=>(match bX m with |some ms=>!(HT.lexLt ns ms) |none=>none) |none=>none) |_=>none)
 |_=>none
abbrev eY(op:CmpOp)(d1 d2:D):Option Bool:=match op with
 |.Eq=>if jx d1 d2=true then some (bV d1 d2)else none
 |.NotEq=>if jx d1 d2=true then some ((not (bV d1 d2)))else none
 |.Lt=>ltF d1 d2
 |.LtE=>lq (λi j=>!(decide (i<=j))) d1 d2
 |.Gt=>lq (λi j=>!(decide (i > j))) d1 d2
 |.GtE=>lq (λi j=>!(decide (i ≥ j))) d1 d2
 |.In=>(match bE d2 with |some l=>if lu d1 l=true then some (l.any λd=>bV d d1)else none |none=>none)
 |.NotIn=>(match bE d2 with |some l=>if lu d1 l=true then some ((not (l.any λd=>bV d d1)))else none |none=>none)
 |_=>none
abbrev zJ:D->D->Option D
 |.lst l,.int i=>gU l i
 |.fix l,.int i=>gU l i
 |.tup l,.int i=>gU l i
 |_,_=>none
abbrev Si(b:Bl)(d:D):Option R:=match b with
 |.len=>(match Z2 d with |some n=>!‹n› |none=>none)
 |.list=>(match bE d with |some l=>!(.new l) |none=>none)
 |.tuple=>(match bE d with |some l=>!(.dat (.tup l)) |none=>none)
 |.min=>(match bE d with |some l=>(match iJ l with |!(k::ks)=>!(.dat (jC (kY pH k ks))) |_=>none) |none=>none)
 |.all=>(match d with |.lst l=>(match vO l with |some bs=>!(.dat (.bl (bs.all id))) |none=>none) |_=>none)
 |.sorted=>(match bE d with |some l=>(match bX l with |some ns=>if ns.length<64 then some (.new ((bH ns).map .int))else none |none=>match eH l with |some rD=>if rD.length<64 then some (.new ((aZ ez rD).map λns=>.tup (ns.map .int)))else none |none=>(match iJ l with |some ks=>if ks.length<64 then some (.new ((aZ pH ks).map jC))else none |none=>none)) |none=>none)
 |_=>none
abbrev bl2(b:Bl)(d e:D):Option R:=match b with
 |.max=>lq (λi j=>!(.dat (.int (if j > i then j else i)))) d e
 |.min=>lq (λi j=>!(.dat (.int (if j<i then j else i)))) d e
 |_=>none
abbrev mj(b:Bl)(ds:List D):Option R:=match ds with
 | [d]=>Si b d
 | [d,e]=>bl2 b d e
 |_=>none
abbrev Wf:Mt->D->D->Option D
 |.count,_,_=>none
 |.index,d0,d1=>match bE d0 with |some l=>if lu d1 l=true then (match zc d1 l with |some j=>!(.int j) |none=>none)else none |none=>none
abbrev g9(t n:String):Bool:=t==n||(t == "bool" && n == "int")
abbrev isW:Ex->Bool
 |.bJ _=>true
 |.iL _ _=>true
 |.enum _=>true
 |.zip _ _=>true
 |_=>false
structure Rn where
 e:List Nat->Nat->Ex->G->Option (R×G)
 t:List Nat->Nat->Ex->G->Option (Bool×G)
 b:List Nat->Nat->List Sm->G->Option (Fl×G)
 x:List Nat->Nat->Ex->G->Option (Nat×G)
 xt:List Nat->Nat->Ex->G->Option (Nat×G)
 xb:List Nat->Nat->List Sm->G->Option (Nat×G)
abbrev toD(bor:List Nat):R->G->Option (D×G)
 |.dat d,g=>!(d,g)
 |.new l,g=>!(.lst l,g)
 |.var i,g=>if i∈bor then none else match g[i]? with |!(.own l)=>!(.lst l,g.set i (.dat (.lst l))) |_=>none
abbrev norm:R->R
 |.new l=>.dat (.lst l)
 |.dat d=>.dat d
 |.var i=>.var i
section
variable(rn:Rn)(bor:List Nat)(k:Nat)
abbrev fP(e:Ex)(g:G):Option (D×G):=match rn.e bor k e g with
 |!(r,g1)=>toD bor r g1
 |none=>none
abbrev pS:List Ex->G->Option (List D×G)
 | [],g=>!([],g)
 |e::es,g=>match fP rn bor k e g with
  |!(d,g1)=>match pS es g1 with
   |!(ds,g2)=>!(d::ds,g2)
   |none=>none
  |none=>none
abbrev argsR:List Ex->G->Option (List R×G)
 | [],g=>!([],g)
 |e::es,g=>match rn.e bor k e g with
  |!(r,g1)=>match argsR es g1 with
   |!(rs,g2)=>!(norm r::rs,g2)
   |none=>none
  |none=>none
abbrev Wg:D->List CmpOp->List Ex->G->Option (Bool×G)
 |d1,[op],[b],g=>match fP rn bor k b g with
  |!(d2,g1)=>match eY op d1 d2 with |some c=>!(c,g1) |none=>none
  |none=>none
 |d1,op::op'::ops,b::b'::bs,g=>match fP rn bor k b g with
  |!(d2,g1)=>match eY op d1 d2 with
   |some true=>Wg d2 (op'::ops) (b'::bs) g1
   |some false=>!(false,g1)
   |none=>none
  |none=>none
 |_,_,_,_=>none
abbrev JV:List Ex->G->Option (R×G)
 | [],_=>none
 | [a],g=>rn.e bor k a g
 |a::b::l,g=>match rn.e bor k a g with
  |!(.dat (.bl true),g1)=>JV (b::l) g1
  |!(.dat (.bl false),g1)=>!(.dat (.bl false),g1)
  |_=>none
abbrev orF:List Ex->G->Option (R×G)
 | [],_=>none
 | [a],g=>rn.e bor k a g
 |a::b::l,g=>match rn.e bor k a g with
  |!(.dat (.bl false),g1)=>orF (b::l) g1
  |!(.dat (.bl true),g1)=>!(.dat (.bl true),g1)
  |_=>none
abbrev wV:List Ex->G->Option (Bool×G)
 | [],_=>none
 | [a],g=>rn.t bor k a g
 |a::b::l,g=>match rn.t bor k a g with
  |!(true,g1)=>wV (b::l) g1
  |!(false,g1)=>!(false,g1)
  |none=>none
abbrev JW:List Ex->G->Option (Bool×G)
 | [],_=>none
 | [a],g=>rn.t bor k a g
 |a::b::l,g=>match rn.t bor k a g with
  |!(false,g1)=>JW (b::l) g1
  |!(true,g1)=>!(true,g1)
  |none=>none
abbrev JX:Option Ex->G->Option (Option Int×G)
 |none,g=>!(none,g)
 |!e,g=>match fP rn bor k e g with
  |!(.int i,g1)=>!(!i,g1)
  |_=>none
abbrev LC(j:Int):Bool:=decide (-(2 ^ 62)<=j)&&decide (j<2 ^ 62)
abbrev cz(tp:Bool)(it:Ex)(g:G):Option (List D×G):=match it with
 |.bJ a=>match fP rn bor k a g with
  |!(.int j,g1)=>if LC j=true then some (cD 0 j.toNat,g1)else none
  |_=>none
 |.iL a b=>match fP rn bor k a g with
  |!(.int c,g1)=>match fP rn bor k b g1 with
   |!(.int j,g2)=>if LC c=true/\LC j=true then some (cD c (j - c).toNat,g2)else none
   |_=>none
  |_=>none
 |.zip a b=>if tp=true then match pS rn bor k [a,b] g with
  |!([d1,d2],g1)=>match bE d1,bE d2 with |!l,!m=>if isTup d1=isTup d2 then some (ur l m,g1)else none |_,_=>none
  |_=>none
  else none
 |.enum a=>if tp=true then match fP rn bor k a g with
  |!(d,g1)=>match bE d with |some l=>!(mX l,g1) |none=>none
  |none=>none
  else none
 |e=>match fP rn bor k e g with
  |!(.tup l,g1)=>!(l,g1)
  |!(.lst l,g1)=>!(l,g1)
  |!(.fix l,g1)=>!(l,g1)
  |_=>none
abbrev jU:Option Ex->G->Option (Bool×G)
 |none,g=>!(true,g)
 |!c,g=>rn.t bor k c g
abbrev Fj(T:Tg)(last:Nat)(c:Option Ex)(e:Ex):List D->G->Option G
 | [],g=>!g
 |d::l,g=>match T.set d g with
  |none=>none
  |some g1=>match jU rn bor k c g1 with
   |none=>none
   |!(false,g2)=>Fj T last c e l g2
   |!(true,g2)=>match fP rn bor k e g2 with
    |none=>none
    |!(x,g3)=>match g3[last]? with
     |!(.own acc)=>if acc.length<lim then Fj T last c e l (g3.set last (.own (acc++[x])))else none
     |_=>none
abbrev fQ(n kk:Nat)(T:Tg)(it:Ex)(c:Option Ex)(e:Ex)(g:G):Option (List D×G):=match cz rn bor k T.jT it g with
 |none=>none
 |!(ak,g1)=>if g1.length=n/\(T.ix.any λi=>decide (i∈bor))=false then match Fj rn bor k T (n+kk) c e ak (gC kk g1)with
   |none=>none
   |some gE=>match gE[n+kk]? with
    |!(.own acc)=>!(acc,gE.take n)
    |_=>none
  else none
abbrev wW(T1:Tg)(c1:Option Ex)(T:Tg)(it:Ex)(c:Option Ex)(e:Ex)(last:Nat):List D->G->Option G
 | [],g=>!g
 |d::l,g=>match T1.set d g with
  |none=>none
  |some g1=>match jU rn bor k c1 g1 with
   |none=>none
   |!(false,g2)=>wW T1 c1 T it c e last l g2
   |!(true,g2)=>match cz rn bor k T.jT it g2 with
    |none=>none
    |!(ak,g3)=>match Fj rn bor k T last c e ak g3 with
     |none=>none
     |some g4=>wW T1 c1 T it c e last l g4
abbrev jV(n kk:Nat)(T1:Tg)(g8:Ex)(c1:Option Ex)(T:Tg)(it:Ex)(c:Option Ex)(e:Ex)(g:G):Option (List D×G):=match cz rn bor k T1.jT g8 g with
 |none=>none
 |!(ak,g1)=>if g1.length=n/\((T1.ix++T.ix).any λi=>decide (i∈bor))=false then match wW rn bor k T1 c1 T it c e (n+kk) ak (gC kk g1)with
   |none=>none
   |some gE=>match gE[n+kk]? with
    |!(.own acc)=>!(acc,gE.take n)
    |_=>none
  else none
abbrev Wh(T:Tg)(c:Option Ex)(e:Ex):List D->~~~0->G->Option (List Int×G)
 | [],ks,g=>!(ks,g)
 |d::l,ks,g=>match T.set d g with
  |none=>none
  |some g1=>match jU rn bor k c g1 with
   |none=>none
   |!(false,g2)=>Wh T c e l ks g2
   |!(true,g2)=>match fP rn bor k e g2 with
    |!(.int n,g3)=>if 0<=n/\n<8 then Wh T c e l (Sb.oneMore ks n) g3 else none
    |_=>none
abbrev wX(T1:Tg)(c1:Option Ex)(T:Tg)(it:Ex)(c:Option Ex)(e:Ex):List D->~~~0->G->Option (List Int×G)
 | [],ks,g=>!(ks,g)
 |d::l,ks,g=>match T1.set d g with
  |none=>none
  |some g1=>match jU rn bor k c1 g1 with
   |none=>none
   |!(false,g2)=>wX T1 c1 T it c e l ks g2
   |!(true,g2)=>match cz rn bor k T.jT it g2 with
    |none=>none
    |!(ak,g3)=>match Wh rn bor k T c e ak ks g3 with
     |none=>none
     |!(k1,g4)=>wX T1 c1 T it c e l k1 g4
abbrev pU(n kk:Nat)(T1:Tg)(g8:Ex)(c1:Option Ex)(T:Tg)(it:Ex)(c:Option Ex)(e:Ex)(g:G):Option (List Int×G):=match cz rn bor k T1.jT g8 g with
 |none=>none
 |!(ak,g1)=>if g1.length=n/\((T1.ix++T.ix).any λi=>decide (i∈bor))=false then match wX rn bor k T1 c1 T it c e ak [] (gD kk g1)with
   |none=>none
   |!(ks,gE)=>!(ks,gE.take n)
  else none
abbrev bM(fx:Fx)(k':Nat)(rs:List R)(g1:G):Option (R×G):=
 if rs.length=fx.np/\((vars 0 rs).map (·.2)).Nodup then match cR rs g1 with
  |none=>none
  |some gs=>match rn.b ((vars 0 rs).map (·.1)) k' fx.body (dW fx.n gs)with
   |!(.rt r,gc)=>match back (vars 0 rs) gc g1 with
    |some gO=>match dG ((vars 0 rs).map (·.1)) gc r with |some r'=>!(r',gO) |none=>none
    |none=>none
   |!(.nx,gc)=>match back (vars 0 rs) gc g1 with
    |some gO=>!(.dat .non,gO)
    |none=>none
   |_=>none
 else none
abbrev aU(fns:List Fx)(e:Ex)(g:G):Option (R×G):=match e with
 |.val d=>!(.dat d,g)
 |.slot i=>match g[i]? with |!(.dat d)=>!(.dat d,g) |!(.own _)=>!(.var i,g) |_=>none
 |.bin op a b=>match argsR rn bor k [a,b] g with
  |!([r1,r2],g2)=>match pk r1 g2,pk r2 g2 with
   |!d1,!d2=>match qM op d1 d2 with |some r=>!(r,g2) |none=>none
   |_,_=>none
  |_=>none
 |.cmp op a b=>match argsR rn bor k [a,b] g with
  |!([r1,r2],g2)=>match pk r1 g2,pk r2 g2 with
   |!d1,!d2=>match eY op d1 d2 with |some c=>!(.dat (.bl c),g2) |none=>none
   |_,_=>none
  |_=>none
 |.chain a ops l=>match fP rn bor k a g with
  |!(d1,g1)=>match Wg rn bor k d1 ops l g1 with |!(c,g2)=>!(.dat (.bl c),g2) |none=>none
  |none=>none
 |.neg a=>match fP rn bor k a g with |!(.int i,g1)=>!(.dat (.int (-i)),g1) |_=>none
 |.not a=>match rn.e bor k a g with |!(.dat (.bl c),g1)=>!(.dat (.bl ((not c))),g1) |_=>none
 |.and l=>JV rn bor k l g
 |.or l=>orF rn bor k l g
 |.ite c a b=>match rn.t bor k c g with
  |!(true,g1)=>rn.e bor k a g1
  |!(false,g1)=>rn.e bor k b g1
  |none=>none
 |.tup l=>match pS rn bor k l g with |!(ds,g1)=>if ds.length<=lim then some (.dat (.tup ds),g1)else none |none=>none
 |.lst l=>match pS rn bor k l g with |!(ds,g1)=>if ds.length<=lim then some (.new ds,g1)else none |none=>none
 |.ix a b=>match argsR rn bor k [a,b] g with
  |!([r1,r2],g2)=>match pk r1 g2,pk r2 g2 with
   |!d1,!d2=>match zJ d1 d2 with |some d=>!(.dat d,g2) |none=>none
   |_,_=>none
  |_=>none
 |.slice a lo hi=>match rn.e bor k a g with
  |!(r,g1)=>match JX rn bor k lo g1 with
   |!(i,g2)=>match JX rn bor k hi g2 with
    |!(j,g3)=>match norm r with
     |.dat (.tup l)=>!(.dat (.tup (qV l i j)),g3)
     |.dat (.fix l)=>!(.new (qV l i j),g3)
     |r'=>match pk r' g3 with |!(.lst l)=>!(.new (qV l i j),g3) |_=>none
    |none=>none
   |none=>none
  |none=>none
 |.call f l=>match fns[f]?,k with
  |!fx,k'+1=>match argsR rn bor k l g with
   |!(rs,g1)=>bM rn fx k' rs g1
   |none=>none
  |_,_=>none
 |.blt b l=>match argsR rn bor k l g with
  |!(rs,g1)=>match vL rs g1 with
   |some ds=>match mj b ds with |some r=>!(r,g1) |none=>none
   |none=>none
  |none=>none
 |.zH a n=>match rn.e bor k a g with
  |!(r,g1)=>match pk (norm r) g1 with |some d=>!(.dat (.bl (g9 (nJ d) n)),g1) |none=>none
  |none=>none
 |.JR a ns=>match rn.e bor k a g with
  |!(r,g1)=>match pk (norm r) g1 with |some d=>!(.dat (.bl (ns.any (g9 (nJ d)))),g1) |none=>none
  |none=>none
 |.comp n kk T it c e=>match fQ rn bor k n kk T it c e g with |!(acc,g1)=>!(.new acc,g1) |none=>none
 |.cS n kk T1 g8 c1 T it c e=>match jV rn bor k n kk T1 g8 c1 T it c e g with |!(acc,g1)=>!(.new acc,g1) |none=>none
 |.sE n kk T1 g8 c1 T it c e=>match pU rn bor k n kk T1 g8 c1 T it c e g with |!(ks,g1)=>!(.new (ks.map .int),g1) |none=>none
 |.emp=>!(.dat .emp,g)
 |.stk=>none
 |.peek e=>if bor.isEmpty=true then match rn.e [] k e (g.map cU)with |!(.dat d,_)=>if flat d=true then some (.dat d,g)else none |!(.new l,_)=>if l.all kW=true then some (.new l,g)else none |_=>none else none
 |.wU f ir ca e=>match fns[f]?,k with
  |!fx,k'+2=>match rn.x [] k' e (g.map noOwn)with
   |!(ci,_)=>match ca[ci]? with
    |some C=>match rn.b [] k' (fx.body.drop 2) ((List.replicate fx.n .no).set ir (.dat (.nj C)))with
     |!(.rt r,g3)=>match dG [] g3 r with |some r'=>!(r',g) |none=>none
     |_=>none
    |none=>none
   |none=>none
  |_,_=>none
 |.sF a l=>match rn.e bor k a g with
  |!(r,g1)=>match pk (norm r) g1 with
   |!(.nj C)=>match l.lookup C with |some b=>!(.dat (.bl b),g1) |none=>none
   |some .non=>!(.dat (.bl false),g1)
   |_=>none
  |none=>none
 |.append i e=>match g[i]? with
  |!(.own _)=>match fP rn bor k e g with
   |!(d,g1)=>match g1[i]? with |!(.own l)=>if l.length<lim then some (.dat .non,g1.set i (.own (l++[d])))else none |_=>none
   |none=>none
  |_=>none
 |.extend i e=>match g[i]? with
  |!(.own _)=>match fP rn bor k e g with
   |!(.lst m,g1)=>match g1[i]? with |!(.own l)=>if l.length+m.length<=lim then some (.dat .non,g1.set i (.own (l++m)))else none |_=>none
   |_=>none
  |_=>none
 |.sG i e=>match g[i]? with
  |!(.own _)=>match fP rn bor k e g with
   |!(.int j,g1)=>match g1[i]? with
    |!(.own l)=>match yO l.length j with
     |some n=>match l[n]? with |some d=>if l.length<lim then some (.dat d,g1.set i (.own (l.eraseIdx n)))else none |none=>none
     |none=>none
    |_=>none
   |_=>none
  |_=>none
 |.bJ _=>none
 |.iL _ _=>none
 |.enum _=>none
 |.zip _ _=>none
 |.meth m o e=>match rn.e bor k o g with
  |!(r0,g1)=>match pk (norm r0) g1 with
   |some d=>match bE d with
    |some _=>match rn.e bor k e g1 with
     |!(r1,g2)=>match pk (norm r0) g2,pk (norm r1) g2 with
      |!d0,!d1=>match Wf m d0 d1 with |some x=>!(.dat x,g2) |none=>none
      |_,_=>none
     |none=>none
    |none=>none
   |none=>none
  |none=>none
 |.wR a=>match fP rn bor k a g with
  |!(.int j,g1)=>if LC j=true/\j.toNat<=lim then some (.new (cD 0 j.toNat),g1)else none
  |_=>none
abbrev stepT(e:Ex)(g:G):Option (Bool×G):=match e with
 |.cmp op a b=>match argsR rn bor k [a,b] g with
  |!([r1,r2],g2)=>match pk r1 g2,pk r2 g2 with
   |!d1,!d2=>match eY op d1 d2 with |some c=>!(c,g2) |none=>none
   |_,_=>none
  |_=>none
 |.chain a ops l=>match fP rn bor k a g with
  |!(d1,g1)=>Wg rn bor k d1 ops l g1
  |none=>none
 |.not a=>match rn.t bor k a g with |!(c,g1)=>!((not c),g1) |none=>none
 |.and l=>wV rn bor k l g
 |.or l=>JW rn bor k l g
 |.ite _ _ _=>none
 |e=>match rn.e bor k e g with
  |!(r,g1)=>match pk (norm r) g1 with
   |some d=>match Ia d with |some c=>!(c,g1) |none=>none
   |none=>none
  |none=>none
abbrev fE(T:Tg)(b:G->Option (Fl×G)):List D->G->Option (Fl×G)
 | [],g=>!(.nx,g)
 |d::l,g=>match T.set d g with
  |none=>none
  |some g0=>match b g0 with
   |none=>none
   |!(.nx,g1)=>fE T b l g1
   |!(.ct,g1)=>fE T b l g1
   |!(.bk,g1)=>!(.nx,g1)
   |!(.rt r,g1)=>!(.rt r,g1)
abbrev LK(c:G->Option (Bool×G))(b:G->Option (Fl×G)):Nat->G->Option (Fl×G)
 | 0,_=>none
 |n+1,g=>match c g with
  |none=>none
  |!(false,g1)=>!(.nx,g1)
  |!(true,g1)=>match b g1 with
   |none=>none
   |!(.nx,g2)=>LK c b n g2
   |!(.ct,g2)=>LK c b n g2
   |!(.bk,g2)=>!(.nx,g2)
   |!(.rt r,g2)=>!(.rt r,g2)
abbrev aH(st:Sm)(g:G):Option (Fl×G):=match st with
 |.ret e=>match rn.e bor k e g with |!(r,g1)=>!(.rt r,g1) |none=>none
 |.expr e=>match rn.e bor k e g with |!(_,g1)=>!(.nx,g1) |none=>none
 |.set i e=>if i∈bor then none else match rn.e bor k e g with
  |!(.new l,g1)=>if i<g1.length then some (.nx,g1.set i (.own l))else none
  |!(r,g1)=>match toD bor r g1 with |!(d,g2)=>!(.nx,g2.set i (.dat d)) |none=>none
  |none=>none
 |.setC i e=>if i∈bor then none else match e with
  |.comp n kk T it c e=>match fQ rn bor k n kk T it c e g with
   |!(acc,g1)=>if i<g1.length then some (.nx,g1.set i (.own acc))else none
   |none=>none
  |.cS n kk T1 g8 c1 T it c e=>match jV rn bor k n kk T1 g8 c1 T it c e g with
   |!(acc,g1)=>if i<g1.length then some (.nx,g1.set i (.own acc))else none
   |none=>none
  |_=>none
 |.tgt T e=>if T.ix.any (λi=>decide (i∈bor))=true then none else match fP rn bor k e g with
  |!(d,g1)=>match T.set d g1 with |some g2=>!(.nx,g2) |none=>none
  |none=>none
 |.item i j e=>match fP rn bor k e g with
  |!(d,g1)=>match g1[i]? with
   |!(.own _)=>match fP rn bor k j g1 with
    |!(.int n,g2)=>match g2[i]? with
     |!(.own l)=>match yO l.length n with |some m=>!(.nx,g2.set i (.own (l.set m d))) |none=>none
     |_=>none
    |_=>none
   |_=>none
  |none=>none
 |.aug i op e=>if i∈bor then none else match g[i]? with
  |!(.dat d1)=>match fP rn bor k e g with
   |!(d2,g1)=>match Wd op d1 d2 with |some d=>!(.nx,g1.set i (.dat d)) |none=>none
   |none=>none
  |!(.own _)=>if op=.Add then match fP rn bor k e g with
    |!(.lst m,g1)=>match g1[i]? with |!(.own l)=>if l.length+m.length<=lim then some (.nx,g1.set i (.own (l++m)))else none |_=>none
    |_=>none
   else none
  |_=>none
 |.ite c a b=>match rn.t bor k c g with
  |!(true,g1)=>rn.b bor k a g1
  |!(false,g1)=>rn.b bor k b g1
  |none=>none
 |.loop T it b=>if T.ix.any (λi=>decide (i∈bor))=true then none else match cz rn bor k T.jT it g with
  |!(ak,g1)=>fE T (rn.b bor k b) ak g1
  |none=>none
 |.while c b=>LK (rn.t bor k c) (rn.b bor k b) 100000 g
 |.raise _ _=>none
 |.rows im it iy ia ib=>match g[im]?,g[it]? with
  |!‹m›,!(.dat (.tup ah))=>match g[iy]?,g[ia]?,g[ib]? with
   |some .no,some .no,some .no=>if 0<=m/\m<=1000 then match iI ah (List.replicate m.toNat [])with |some ll=>!(.rt (.dat (.lst (ll.map .lst))),g) |none=>none else none
   |_,_,_=>none
  |_,_=>none
 |.stuck=>none
abbrev cK:List Sm->G->Option (Fl×G)
 | [],g=>!(.nx,g)
 |st::rest,g=>match aH rn bor k st g with
  |!(.nx,g1)=>cK rest g1
  |!(f,g1)=>!(f,g1)
  |none=>none
abbrev xW(it:Ex)(g:G):Option (Nat×G):=if isW it=true then none else rn.x bor k it g
abbrev xArgs:List Ex->G->Option (Nat×G)
 | [],_=>none
 |e::es,g=>match rn.x bor k e g with
  |some r=>!r
  |none=>match rn.e bor k e g with
   |!(_,g1)=>xArgs es g1
   |none=>none
abbrev wY(fx:Fx)(k':Nat)(rs:List R)(g1:G):Option (Nat×G):=
 if rs.length=fx.np/\((vars 0 rs).map (·.2)).Nodup then match cR rs g1 with
  |none=>none
  |some gs=>match rn.xb ((vars 0 rs).map (·.1)) k' fx.body (dW fx.n gs)with
   |!(ci,gc)=>match back (vars 0 rs) gc g1 with |some gO=>!(ci,gO) |none=>none
   |none=>none
 else none
abbrev wZ(fns:List Fx)(e:Ex)(g:G):Option (Nat×G):=match e with
 |.call f l=>match xArgs rn bor k l g with
  |some r=>!r
  |none=>match fns[f]?,k with
   |!fx,k'+1=>match argsR rn bor k l g with
    |!(rs,g1)=>wY rn fx k' rs g1
    |none=>none
   |_,_=>none
 |_=>none
abbrev uI(e:Ex)(g:G):Option (Nat×G):=match e with
 |.not a=>rn.xt bor k a g
 |.call f l=>rn.x bor k (.call f l) g
 |_=>none
abbrev pW(st:Sm)(g:G):Option (Nat×G):=match st with
 |.ret e=>rn.x bor k e g
 |.expr e=>rn.x bor k e g
 |.ite c a b=>match rn.xt bor k c g with
  |some r=>!r
  |none=>match rn.t bor k c g with
   |!(true,g1)=>rn.xb bor k a g1
   |!(false,g1)=>rn.xb bor k b g1
   |none=>none
 |.raise ci e=>match fP rn bor k e g with |!(_,g1)=>!(ci,g1) |none=>none
 |_=>none
abbrev jW:List Sm->G->Option (Nat×G)
 | [],_=>none
 |st::rest,g=>match pW rn bor k st g with
  |some r=>!r
  |none=>match aH rn bor k st g with
   |!(.nx,g1)=>jW rest g1
   |_=>none
end
abbrev step(fns:List Fx)(rn:Rn):Rn:=#[λbor k e g=>aU rn bor k fns e g,λbor k e g=>stepT rn bor k e g,λbor k l g=>cK rn bor k l g,λbor k e g=>wZ rn bor k fns e g,λbor k e g=>uI rn bor k e g,λbor k l g=>jW rn bor k l g]
abbrev rn0:Rn:=#[λ_ _ _ _=>none,λ_ _ _ _=>none,λ_ _ _ _=>none,λ_ _ _ _=>none,λ_ _ _ _=>none,λ_ _ _ _=>none]
abbrev run(fns:List Fx):Nat->Rn
 | 0=>rn0
 |n+1=>step fns (run fns n)
structure Ct where
 N:List Str
 sc:Scope
 df:Bool
 q:Str
structure Fi where
 name:Str
 qual:Str
 st:Stmt
 N:List Str
 ps:List Str
structure Pg where
 fn:List Fi
 ct:List (Str×D)
 bn:List Str
 cls:List Str:=[]
 lam:Bool:=false
 sH:List Addr:=[]
 kt:Str:=Str.empty
 ups:List (Str×List (Addr×Bool)):=[]
abbrev JZ(K:Frag)(mg:Str->Option Value)(n:Str)(bG:Value):Prop:=
 ∃c q,bG=.ref c/\(∀b:Heap,K.In b->PySem.W.CodeHd b c q)/\(q,qT n)∈cN K/\(∀b:Heap,K.In b->b.BuiltinsAt mg q)/\mainGlobals≠q/\∀p∈cN K,p.1=q->p.2=qT n
structure uJ(P:Pg)(K:Frag)(mg:Str->Option Value):Prop where
 fn:∀(i:Nat) (fi:Fi),P.fn[i]?=!fi->∃f fd,mg fi.name=!(.ref f)/\MK K fi.name fi.qual fi.st f fd/\bZ fi.N fi.ps (aD fi.st)/\L2.Binds K fd fi.ps []/\(fi.name==(~~~3))=false
 ct:∀(x:Str) (d:D),(x,d)∈P.ct->(x==(~~~3))=false/\∃v u,mg x=!u/\RelV v u/\∀M H,Rep K M H d v
 bn:∀x∈P.bn,mg x=none
 cls:∀x∈P.cls,(x==(~~~3))=false/\∃C,mg x=!(.ref C)/\fy K C
 lam:P.lam=true->∀n∈jz,∀bG,PySem.W.codeIn K bG n=true->JZ K mg n bG
 sH:∀(i:Nat) (C:Addr),P.sH[i]?=!C->∃x,P.cls[i]?=!x/\mg x=!(.ref C)/\fy K C/\Lq K C
 kt:P.lam=true->(P.kt==(~~~3))=false/\∃D,mg P.kt=!(.ref D)/\fy K D/\∀C∈P.sH,ux K C D=true
 ups:∀(x:Str) (l:List (Addr×Bool)),(x,l)∈P.ups->(x==(~~~3))=false/\∃cv,((mg x=!cv/\∃D,cv=.ref D)\/(x∈P.bn/\x≠ "__name__" /\bootBuiltins x=!cv/\∃n,cv=.type n))/\PySem.W.kitOne K (.type "NoneType") cv=!false/\∀C b,l.lookup C=!b->PySem.W.kitOne K (.ref C) cv=!b
structure aW(P:Pg)(k:Nat)(X:Cx)(c:Ct):Prop where
 N:X.N=c.N
 nd:c.N.Nodup
 YB:∀x,c.sc.names.lookup x=some .local->X.env.scope.names.lookup x=some .local
 qN:∀x,c.sc.names.lookup x=some .globalImplicit->Gl X x
 fre:∀x,c.sc.names.lookup x=some .cell\/c.sc.names.lookup x=some .free->X.env.scope.names.lookup x=some .cell\/X.env.scope.names.lookup x=some .free
 cel:c.df=true->∀x,c.sc.names.lookup x=some .cell->X.env.scope.names.lookup x=some .cell
 fn:∀x,c.df=true\/c.sc.names.lookup x=some .local->X.fn x=true
 bk:c.df=true->X.env.blockKind=.function
 calm:X.calm=true
 xe:X.xe=λ_ _=>False
 md:uJ P X.K X.mg
 room:cB k X.A
 lam:c.q∈jz->P.lam=true->X.env.qual ++ "<lambda>"=qT c.q/\JZ X.K X.mg c.q X.env.code
abbrev qZ(sc:Scope)(x:Str):Bool:=match sc.names.lookup x with |some .local=>true |some .cell=>true |some .free=>true |_=>false
abbrev fF(c:Ct)(x:Str):Bool:=match c.sc.names.lookup x with |some .local=>true |some .cell=>c.df |_=>false
abbrev cY(x:Str):Bool:=(not ((x==(~~~3))))&&(not ((x==("__classdict__":Str))))
section
def aW.vis(h:aW P k X c)(hv:qZ c.sc x=true):kj X.env.scope x:=by
 delta qZ at hv;split at hv
 . ext e;show .inl (h.YB x e)
 . ext e;show (h.fre x (.inl e)).elim (λq=>.inr (.inl q)) λq=>.inr (.inr q)
 . ext e;show (h.fre x (.inr e)).elim (λq=>.inr (.inl q)) λq=>.inr (.inr q)
 . cases hv
def aW.nm(h:aW P k X c)(hi:c.N[i]?=!x)(hs:fF c x=true):oX X x i:=by
 apply#[h.N▸h.nd,by rw[h.N];show hi,?_,.inl (h.fn x ?_)]
 .
  delta fF at hs;split at hs
  . ext e;show .inl (h.YB x e)
  . ext e;show .inr (h.cel hs x e)
  . cases hs
 .
  delta fF at hs;split at hs
  . ext e;show .inr e
  . show .inl hs
  . cases hs
def bN(h:cY x=true):(x==(~~~3))=false/\(x==("__classdict__":Str))=false:=by delta cY at h;simp only[fN,Bi]at h;show h
def cL{α:Type}{f:Int->Int->Option α}{a b:D}{r:α}(h:lq f a b=!r):∃i j,a=.int i/\b=.int j/\f i j=!r:=by
 delta lq at h;split at h
 .
  split at h
  . show#[_,_,rfl,rfl,h]
  . symm
 . symm
def Pz{d1 d2:D}{r:R}(hK:z.K=X.K)(h:Fg d1 d2=!r):mS X z (binaryOp .Add) d1 d2 r:=by
 delta Fg at h;split at h
 .
  split at h
  . symm;show nI TL
  . symm
 .
  split at h
  .
   split at h
   . ext hc;symm;show UT hc
   . symm
  . symm
 .
  split at h
  .
   split at h
   . ext hc;symm;show Nq hK hc
   . symm
  . symm
 . symm
def J0:lJ X (binaryOp .FloorDiv) (rI (λ_ j=>0<j/\j<18446744073709551616) λi j=>.int (i / j)):=Zr λi j _ _ _ _ _ hc q=>by
 have h1:0<j/\j<18446744073709551616:=hc;apply floordiv_int ⋯ (by rw[Int.fdiv_eq_ediv_of_nonneg i ⋯];show q) (.inl (PyProof.noPylong_of_log2 ?_))
 have h2:j.natAbs.log2<64:=(Nat.log2_lt ⋯).mpr (by exact _<18446744073709551616;lia)
 lia
def PB{d1:D}{k:Int}{r:R}(hK:z.K=X.K)(h:JT d1 k=!r):mS X z (binaryOp .Mult) d1 (.int k) r:=by
 delta JT at h;split at h
 .
  split at h
  . ext hc;symm;apply oO TV ?_;delta zI at hc;simp only[AG,fN,l6]at hc;show hc
  . symm
 .
  split at h
  . ext hc;symm;show UW hc.1 hc.2.1 hc.2.2
  . symm
 . symm
def Wi(hK:z.K=X.K)(h:qM op d1 d2=!r):mS X z (binaryOp op) d1 d2 r:=by
 cases op with
 |Add=>show Pz hK h
 |Sub=>let(i,j,rfl,rfl,h'):=cL h;cases h';show nI TQ
 |Mult=>
  dsimp only[qM]at h;split at h
  . show PB hK h
  . symm
 |FloorDiv=>
  let(i,j,rfl,rfl,h'):=cL h;split at h'
  . ext hc;cases h';show oO J0 hc
  . cases h'
 |Mod=>
  let(i,j,rfl,rfl,h'):=cL h;split at h'
  . ext hc;cases h';show oO TX hc
  . cases h'
 |Pow=>
  let(i,j,rfl,rfl,h'):=cL h;split at h'
  . ext hc;cases h';show oO tQ #[hc.1,by have:=hc.2.1;lia,hc.2.2]
  . cases h'
 |LShift=>
  let(i,j,rfl,rfl,h'):=cL h;split at h'
  . ext hc;cases h';show V4 hc.1 (by have:=hc.2.1;lia) hc.2.2
  . cases h'
 |_=>symm
def PJ(h:Wd op d1 d2=!d):mS X z (inplaceOp op) d1 d2 (.dat d):=by
 delta Wd at h;split at h
 . symm;show nI Ml
 . symm;show nI Mm
 .
  split at h
  . ext hc;symm;apply oO Mp ?_;delta zI at hc;simp only[AG,fN,l6]at hc;show hc
  . symm
 . symm
def pX(hK:z.K=X.K)(hr:cB k X.A)(h:eY op d1 d2=!b):mS X z (compareOp op) d1 d2 (.dat (.bl b)):=by
 have hu:=hr.un;cases op with
 |Eq=>
  dsimp only[eY]at h;split at h
  . ext hc;symm;simp only[jx,fN]at hc;show ZW hK hc.1.1 hc.1.2 (by have:=hc.2;lia)
  . symm
 |NotEq=>
  dsimp only[eY]at h;split at h
  . ext hc;symm;simp only[jx,fN]at hc;show ZZ hK hc.1.1 hc.1.2 (by have:=hc.2;lia)
  . symm
 |Lt=>
  dsimp only[eY,ltF]at h;split at h
  .
   split at h
   . symm;show uf Zt
   . symm
  .
   split at h
   .
    split at h
    .
     ext h1;split at h
     . ext h2;symm;show U4 hK ⋯ h1 h2
     . symm
    . symm
   . symm
  . symm
 |LtE=>let(i,j,rfl,rfl,h'):=cL h;cases h';show uf Zu
 |Gt=>let(i,j,rfl,rfl,h'):=cL h;cases h';show uf Zv
 |GtE=>let(i,j,rfl,rfl,h'):=cL h;cases h';show uf Zw
 |In=>
  dsimp only[eY]at h;split at h
  .
   ext hs;split at h
   . ext hc;symm;simp only[lu,fN]at hc;show Z1 hK hs hc.1.1 hc.1.2 (by have:=hc.2;lia)
   . symm
  . symm
 |NotIn=>
  dsimp only[eY]at h;split at h
  .
   ext hs;split at h
   . ext hc;symm;simp only[lu,fN]at hc;show Ht hK hs hc.1.1 hc.1.2 (by have:=hc.2;lia)
   . symm
  . symm
 |_=>symm
def Wj(hK:z.K=X.K)(hr:X.A.units+1<cLine)(h:zJ d1 d2=!d):ZR X z d1 d2 (.dat d):=by
 delta zJ at h;split at h
 . show U1 hK h
 . show U3 hK h
 . show Nr hK h
 . symm
abbrev blV:Bl->Str×Value
 |.len=>("len",.builtin "len")
 |.list=>("list",.type "list")
 |.tuple=>("tuple",.type "tuple")
 |.max=>("max",.builtin "max")
 |.min=>("min",.builtin "min")
 |.str=>("str",.type "str")
 |.all=>("all",.builtin "all")
 |.any=>("any",.builtin "any")
 |.int=>("int",.type "int")
 |.sorted=>("sorted",.builtin "sorted")
 |.sum=>("sum",.builtin "sum")
def Wk{b:Bl}{d:D}{r:R}(hK:z.K=X.K)(hc:X.calm=true)(hr:X.A.units+6<cLine)(h:Si b d=!r):CallD X z (blV b).2 [d] r:=by
 cases b <;> dsimp only[Si]at h
 case len=>
  split at h
  . ext e;symm;show U6 hK e
  . symm
 case list=>
  split at h
  . ext e;symm;show Nt hK e
  . symm
 case tuple=>
  split at h
  . ext e;symm;show Hv hK e
  . symm
 case min=>
  split at h
  .
   ext e1;split at h
   . ext e4;symm;show Pa hc hr hK e1 e4
   . symm
  . symm
 case all=>
  split at h
  .
   split at h
   . ext e;symm;show U9 hc e
   . symm
  . symm
 case sorted=>
  split at h
  .
   ext e1;split at h
   .
    ext e2;split at h
    . ext e3;symm;show DT hK e1 e2 e3
    . symm
   .
    split at h
    .
     ext e2;split at h
     . ext e3;symm;show zC hK e1 e2 e3
     . symm
    .
     split at h
     .
      ext e2;split at h
      . ext e3;symm;show zB hr hK e1 e2 e3
      . symm
     . symm
  . symm
 all_goals symm
def Wm{b:Bl}{ds:List D}{r:R}(hK:z.K=X.K)(hc:X.calm=true)(hr:X.A.units+6<cLine)(h:mj b ds=!r):CallD X z (blV b).2 ds r:=by
 delta mj at h;split at h
 . show Wk hK hc hr h
 .
  cases b with
  |max=>let(i,j,rfl,rfl,h'):=cL h;cases h';show U7 hc
  |min=>let(i,j,rfl,rfl,h'):=cL h;cases h';show U8 hc
  |_=>symm
 . symm
abbrev mtNm:Mt->Str
 |.count=> "count"
 |.index=> "index"
abbrev zK:Mt->D->String
 |.count,d=>cntId d
 |.index,d=>Iz d
def Wn{m:Mt}{d0 d1 x:D}(hK:z.K=X.K)(hr:cB k X.A)(h:Wf m d0 d1=!x):Iw X z (zK m d0) d0 d1 (.dat x):=by
 have hu:=hr.un;delta Wf at h;split at h
 . symm
 .
  split at h
  .
   ext hs;split at h
   .
    ext hc;split at h
    . ext hj;symm;simp only[lu,fN]at hc;show IV hK hs hc.1.1 hc.1.2 (by have:=hc.2;lia) hj
    . symm
   . symm
  . symm
def PK(hs:bE d=!l)(he:zK m d0=zK m d):PlainAttrs (nJ d)/\PySem.Slot (nJ d) (mtNm m) (zK m d0)/\typeOf (.builtin (zK m d0))=pure (.type "method_descriptor"):=by
 rw[he];cases d with
 |tup _=>cases m;show#[F.plainAttrs_tuple,F.slot_tuple_count,F.type_tuple_count];show#[F.plainAttrs_tuple,F.slot_tuple_index,F.type_tuple_index]
 |lst _=>cases m;show#[CC,F.slot_list_count,F.type_list_count];show#[CC,F.slot_list_index,F.type_list_index]
 |fix _=>cases m;show#[CC,F.slot_list_count,F.type_list_count];show#[CC,F.slot_list_index,F.type_list_index]
 |_=>cases hs
def PL(h1:pk r g1=!d)(h2:pk r g2=!d0):zK m d0=zK m d:=by
 cases r with
 |dat x=>cases h1;cases h2;rfl
 |new _=>cases h1
 |var i=>
  delta pk at h1 h2;have key:∀{g:G}{d:D},(match g[i]? with |!(.own l)=>!(D.lst l) |!(.dat (.lst l))=>!(.lst l) |_=>none)=!d->∃l,d=.lst l:=λ{g d} h=>by
   split at h
   . symm;show#[_,rfl]
   . symm;show#[_,rfl]
   . symm
  let(l1,rfl):=key h1;let(l2,rfl):=key h2;cases m <;> rfl
abbrev uK:List String:=["int", "bool", "str", "tuple", "list", "dict"]
def xg{K:Frag}{M:List Addr}{H:Hp}{v:V}{d:D}(p:Pk K M H d v){n:String}(hn:n∈uK):PySem.W.kitOne K (Gg d) (.type n)=!(g9 (nJ d) n):=by
 cases d with
 |nj C=>
  cases p with
  |of q=>
   cases q with
   |nj k _ _=>apply (k.kit n hn).trans ?_;delta uK at hn;simp only[dS,oI,DC]at hn;rcases hn with rfl |rfl |rfl |rfl |rfl |rfl <;> first |rfl |decide
 |_=>delta uK at hn;simp only[dS,oI,DC]at hn;rcases hn with rfl |rfl |rfl |rfl |rfl |rfl <;> first |rfl |decide
def sI{K:Frag}{M:List Addr}{H:Hp}{v:V}{d:D}(p:Pk K M H d v):∀{ns:List String},(∀n∈ns,n∈uK)->PySem.W.kitAny K (Gg d) (ns.map Value.type)=!(ns.any (g9 (nJ d)))
 | [],_=>rfl
 |n::ns,h=>by
  exact (match PySem.W.kitOne K (Gg d) (.type n)with |some true=>!true |some false=>PySem.W.kitAny K (Gg d) (ns.map Value.type) |none=>none)=_
  rw[xg p (h n dA),sI p λm hm=>h m (bP _ hm),List.any_cons]
  cases g9 (nJ d) n <;> rfl
end
abbrev uL(sc scope:Scope):Bool:=decide (scope.kind=.function)&&scope.names.all λy=>decide (y.2≠.cell)&&(decide (y.2≠.local)||decide (scope.names.lookup y.1=some .local)) &&
 (decide (y.2≠.free)||(decide (scope.names.lookup y.1=some .free)&&(decide (sc.names.lookup y.1=some .cell)||decide (sc.names.lookup y.1=some .free))))
abbrev jX(N N':List Str)(scope:Scope)(k:Nat):Bool:=decide (N'.length=N.length+(k+1))&&(match N'[N.length+k]? with |some x=>decide (scope.names.lookup x=none) |none=>true) &&
 (List.range N.length).all λi=>match N'[i]? with |some x=>decide (scope.names.lookup x=none)||(decide (N[i]?=!x)&&decide (scope.names.lookup x≠some .local)) |none=>true
inductive Fo(c:Ct):List Expr->List Nat->Prop
 |nil:Fo c [] []
 |cons {x:Str}{i:Nat}{pos:Pos}{es:List Expr}{is:List Nat}:c.N[i]?=!x->fF c x=true->Fo c es is->Fo c (.Name x pos::es) (i::is)
inductive Fp(P:Pg)(c:Ct):List Expr->List String->Prop
 |nil:Fp P c [] []
 |cons {T:Str}{n:String}{pos:Pos}{es:List Expr}{ns:List String}:T∈P.bn->c.sc.names.lookup T=some .globalImplicit->T=Str.ofString n->n∈uK->Fp P c es ns->Fp P c (.Name T pos::es) (n::ns)
inductive zL(c:Ct):Expr->Tg->Prop
 |nm:c.N[i]?=!x->fF c x=true->zL c (.Name x pos) (.nm i)
 |tp:Fo c es is->zL c (.Tuple es k pos) (.tp is)
abbrev PN(c:Ct)(y:Str)(py pos:Pos)(scope:Scope):Bool:=(c.sc.names.lookup y==some .local)&&py.line==pos.line&&(not ((scope.names.any λ(n,k)=>n==y&&(k==.local||k==.cell))))
abbrev nmW(e:Expr):Option Str:=match e with |.Name x _=>!x |_=>none
abbrev tpN(n:Nat)(e:Expr):Bool:=match e with |.Tuple vs _ _=>decide (vs.length=n) |_=>false
abbrev celN(c:Ct)(a:Expr):Bool:=match nmW a with |some x=>decide (c.sc.names.lookup x=some .cell) |none=>false
abbrev PX(c:Ct)(es:List Expr)(e:Expr):Bool:=tpN es.length e&&(c.df&&es.any (celN c))
inductive zM(R:Expr->Ex->Prop):List Expr->List Ex->Prop
 |nil:zM R [] []
 |cons {e:Expr}{es:List Expr}{x:Ex}{xs:List Ex}:R e x->zM R es xs->zM R (e::es) (x::xs)
inductive P0(R:Expr->Ex->Prop):Option Expr->Option Ex->Prop
 |none:P0 R Option.none Option.none
 |some {e:Expr}{x:Ex}:R e x->P0 R (Option.some e) (Option.some x)
inductive BV(R:Expr->Ex->Prop):List Expr->Option Ex->Prop
 |none:BV R [] Option.none
 |some {e:Expr}{x:Ex}:R e x->BV R [e] (Option.some x)
inductive xh(P:Pg)(R:Expr->Ex->Prop)(c:Ct):Expr->Ex->Prop
 |seq:R e x->xh P R c e x
 |bJ:R a xa->("range":Str)∈P.bn->c.sc.names.lookup ("range":Str)=some .globalImplicit->xh P R c (.Call (.Name "range" p) [a] [] pos) (.bJ xa)
 |iL:R a xa->R b xb->("range":Str)∈P.bn->c.sc.names.lookup ("range":Str)=some .globalImplicit->xh P R c (.Call (.Name "range" p) [a,b] [] pos) (.iL xa xb)
 |zip:R a xa->R b xb->("zip":Str)∈P.bn->c.sc.names.lookup ("zip":Str)=some .globalImplicit->xh P R c (.Call (.Name "zip" p) [a,b] [] pos) (.zip xa xb)
 |enum:R a xa->("enumerate":Str)∈P.bn->c.sc.names.lookup ("enumerate":Str)=some .globalImplicit->xh P R c (.Call (.Name "enumerate" p) [a] [] pos) (.enum xa)
abbrev zO(e:Expr):Option Str:=match e with |.Name x _=>!x |_=>none
def pY{e:Expr}{x:Str}(h:zO e=!x):∃p,e=.Name x p:=by cases e <;> first | (symm;show#[_,rfl]) |symm
abbrev J1{α:Type}(l:List α):Option α:=match l with | [a]=>!a |_=>none
def nR{α:Type}{l:List α}{a:α}(h:J1 l=!a):l=[a]:=by
 cases l with
 |nil=>symm
 |cons b l=>cases l with
  |nil=>symm;rfl
  |cons _ _=>symm
abbrev asgV(s:Stmt):Option (List Expr×Expr):=match s with |.Assign ts e _=>!(ts,e) |_=>none
def P1{s:Stmt}{r:List Expr×Expr}(h:asgV s=!r):∃p,s=.Assign r.1 r.2 p:=by cases s <;> first | (symm;show#[_,rfl]) |symm
abbrev cstV(e:Expr):Option Const:=match e with |.Constant c _ _=>!c |_=>none
def P4(h:cstV e=!c):∃j p,e=.Constant c j p:=by cases e <;> first | (symm;show#[_,_,rfl]) |symm
abbrev nonV(c:Const):Option Unit:=match c with |.none=>!() |_=>none
def P5(h:nonV c=!()):c=.none:=by cases c <;> first |rfl |symm
abbrev expV(s:Stmt):Option Expr:=match s with |.Expr e _=>!e |_=>none
def P6{s:Stmt}{e:Expr}(h:expV s=!e):∃p,s=.Expr e p:=by cases s <;> first | (symm;show#[_,rfl]) |symm
abbrev calV(e:Expr):Option (Expr×List Expr×List Keyword):=match e with |.Call f as ks _=>!(f,as,ks) |_=>none
def P7{e:Expr}{r:Expr×List Expr×List Keyword}(h:calV e=!r):∃p,e=.Call r.1 r.2.1 r.2.2 p:=by cases e <;> first | (symm;show#[_,rfl]) |symm
abbrev tryV(s:Stmt):Option (List Stmt×List ExceptHandler×List Stmt×List Stmt):=match s with |.Try b h o f _=>!(b,h,o,f) |_=>none
def P8{s:Stmt}{r:List Stmt×List ExceptHandler×List Stmt×List Stmt}(h:tryV s=!r):∃p,s=.Try r.1 r.2.1 r.2.2.1 r.2.2.2 p:=by cases s <;> first | (symm;show#[_,rfl]) |symm
abbrev J2{α:Type}(l:List α):Option Unit:=match l with | []=>!() |_=>none
def nU{α:Type}{l:List α}(h:J2 l=!()):l=[]:=by cases l with |nil=>rfl |cons _ _=>symm
abbrev hanV(h:ExceptHandler):Option (Expr×Str×List Stmt):=match h with |.ExceptHandler t n b _=>t.bind λt=>n.bind λn=>!(t,n,b)
def P9{h:ExceptHandler}{r:Expr×Str×List Stmt}(e:hanV h=!r):∃p,h=.ExceptHandler (!r.1) (!r.2.1) r.2.2 p:=by
 let(t,n,b,p):=h;cases t with
 |none=>cases e
 |some t=>cases n with
  |none=>cases e
  |some n=>cases e;show#[p,rfl]
abbrev BW(s:Stmt):Option (Str×Expr):=(asgV s).bind λr=>(J1 r.1).bind λt=>(zO t).bind λx=>!(x,r.2)
def xm{s:Stmt}{r:Str×Expr}(h:BW s=!r):∃p q,s=.Assign [.Name r.1 p] r.2 q:=by delta BW at h;simp only[gL]at h;let((ts,e),h1,t,h2,x,h3,h4):=h;cases h4;let(p,rfl):=P1 h1;let(q,rfl):=pY h3;have:=nR h2;subst this;show#[q,p,rfl]
abbrev Wo(l:List Stmt):Option Str:=(J1 l).bind λs3=>(expV s3).bind λce=>(calV ce).bind λf=>(J2 f.2.1).bind λ_=>(J2 f.2.2).bind λ_=>zO f.1
def Qa{l:List Stmt}{y:Str}(h:Wo l=!y):∃py cp ep,l=[.Expr (.Call (.Name y py) [] [] cp) ep]:=by replace h:=gL.1 h;let(s3,h1,h):=h;cases nR h1;clear h1;replace h:=gL.1 h;let(ce,h1,h):=h;let(p,e1):=P6 h1;cases e1;clear h1;replace h:=gL.1 h;let((f1,f2,f3),h1,h):=h;let(q,e1):=P7 h1;cases e1;clear h1;replace h:=gL.1 h;let(_,h1,h):=h;replace h:=gL.1 h;let(_,h2,h):=h;let(r,e1):=pY h;show#[r,q,p,by have a:=nU h1;have b:=nU h2;dsimp only at a b e1 ⊢;rw[a,b,e1]]
abbrev Wq(l:List ExceptHandler):Option (Str×Str×Str×Str):=(J1 l).bind λhh=>(hanV hh).bind λu=>(zO u.1).bind λke=>(J1 u.2.2).bind λs4=>(BW s4).bind λb=>(zO b.2).bind λYC=>!(ke,u.2.1,b.1,YC)
def Qc{l:List ExceptHandler}{r:Str×Str×Str×Str}(h:Wq l=!r):∃kp wC wB ap hp,l=[.ExceptHandler (!(.Name r.1 kp)) (!r.2.1) [.Assign [.Name r.2.2.1 wC] (.Name r.2.2.2 wB) ap] hp]:=by replace h:=gL.1 h;let(hh,h1,h):=h;cases nR h1;clear h1;replace h:=gL.1 h;let((u1,u2,u3),h1,h):=h;let(p,e1):=P9 h1;cases e1;clear h1;replace h:=gL.1 h;let(ke,h1,h):=h;let(q,e1):=pY h1;cases e1;clear h1;replace h:=gL.1 h;let(s4,h1,h):=h;cases nR h1;clear h1;replace h:=gL.1 h;let((b1,b2),h1,h):=h;let(m,n,e1):=xm h1;cases e1;clear h1;replace h:=gL.1 h;let(en,h1,h):=h;let(o,e1):=pY h1;cases e1;clear h1;symm;show#[q,m,o,n,p,rfl]
abbrev nonS(s:Stmt):Option Str:=(BW s).bind λa=>(cstV a.2).bind λc=>(nonV c).bind λ_=>!a.1
def Qd(h:nonS s=!x):∃p j np ap,s=.Assign [.Name x p] (.Constant .none j np) ap:=by replace h:=gL.1 h;let((a1,a2),h1,h):=h;let(p,q,e1):=xm h1;cases e1;clear h1;replace h:=gL.1 h;let(c,h1,h):=h;let(j,m,e1):=P4 h1;cases e1;clear h1;replace h:=gL.1 h;let(_,h1,h):=h;cases P5 h1;clear h1;symm;show#[p,j,m,q,rfl]
abbrev tryS(s:Stmt):Option (Str×Str×Str×Str×Str):=(tryV s).bind λt=>(J2 t.2.2.1).bind λ_=>(J2 t.2.2.2).bind λ_=>(Wo t.1).bind λy=>(Wq t.2.1).bind λu=>!(y,u)
def Qe{s:Stmt}{r:Str×Str×Str×Str×Str}(h:tryS s=!r):∃l hs p,Wo l=!r.1/\Wq hs=!r.2/\s=.Try l hs [] [] p:=by replace h:=gL.1 h;let((t1,t2,t3,t4),h1,h):=h;let(p,e1):=P8 h1;cases e1;clear h1;replace h:=gL.1 h;let(_,h1,h):=h;cases nU h1;clear h1;replace h:=gL.1 h;let(_,h1,h):=h;cases nU h1;clear h1;replace h:=gL.1 h;let(y,h1,h):=h;replace h:=gL.1 h;let(u,h2,h):=h;symm;show#[t1,t2,p,h1,h2,rfl]
abbrev Wr(l:List Stmt):Option (Str×Str×Str×Str×Str×Str):=match l with
 |s1::s2::_=>(nonS s1).bind λa=>(tryS s2).bind λt=>!(a,t)
 |_=>none
def Qf(h:Wr l=!(er,y,ke,en,Qg,YC)):∃Eo j np Yq py cA qK kp wC wB cZ nF iY rest,l=.Assign [.Name er Eo] (.Constant .none j np) Yq::.Try [.Expr (.Call (.Name y py) [] [] cA) qK] [.ExceptHandler (!(.Name ke kp)) (!en) [.Assign [.Name Qg wC] (.Name YC wB) cZ] nF] [] [] iY::rest:=by
 delta Wr at h;split at h
 . replace h:=gL.1 h;let(a,h1,h):=h;replace h:=gL.1 h;let(t,h2,h):=h;symm;let(p,j,np,ap,e1):=Qd h1;let(l,hs,tp,h3,h4,e2):=Qe h2;let(py,cp,ep,e3):=Qa h3;let(kp,wC,wB,ap',hp,e4):=Qc h4;show#[p,j,np,ap,py,cp,ep,kp,wC,wB,ap',hp,tp,_,by rw[e1,e2,e3,e4]]
 . symm
abbrev Qh(fi:Fi)(ir:Nat)(kt:Str):Bool:=match Wr (bx fi.st)with
 |!(er,y,ke,en,Qg,YC)=>decide ((ke=kt/\Qg=er/\YC=en/\fi.ps=[y])/\((aD fi.st).names.lookup ke=some .globalImplicit/\fi.N[fi.N.idxOf en]?=!en/\(aD fi.st).names.lookup en=some .local)/\(fi.N[ir]?=!er/\fi.N[0]?=!y)/\(fi.N.idxOf en≠ir/\fi.N.idxOf en≠0/\ir≠0))&&((cY en&&cY y)&&(qZ (aD fi.st) y&&fF #[fi.N,aD fi.st,true,fi.qual] er))
 |none=>false
abbrev J3(params:Arguments)(scope:Scope):Bool:=((not scope.isCoroutine)&&(not scope.isGenerator))&&(decide (scope.kind=.function)&&((scope.names.all λy=>decide (y.2≠.cell)&&decide (y.2≠.local))&&((params.posonlyargs.isEmpty&&params.args.isEmpty)&&(params.vararg.isNone&&(params.kwonlyargs.isEmpty&&(params.kw_defaults.isEmpty&&(params.kwarg.isNone&&params.defaults.isEmpty)))))))
def BX(h:J3 params scope=true):pC params scope:=by let(a,b,c,d,e,f,g):=params;simp only[J3,fN,Bi,l6,lL,List.isEmpty_iff,Option.isNone_iff_eq_none]at h;let(h,h1,h2,(rfl,rfl),rfl,rfl,rfl,rfl,rfl):=h;show#[h.1,h.2,h1,λx hx=>(h2 x hx).1,λx hx=>(h2 x hx).2,rfl]
meta abbrev p0:Pos:=#[0,0,0,0]
inductive zP(RG:List Stmt->Sm->Prop)(RS:Stmt->Sm->Prop):List Stmt->List Sm->Prop
 |nil:zP RG RS [] []
 |grp {ss rest:List Stmt}{x:Sm}{xs:List Sm}:RG ss x->zP RG RS rest xs->zP RG RS (ss++rest) (x::xs)
 |cons {s:Stmt}{ss:List Stmt}{x:Sm}{xs:List Sm}:RS s x->zP RG RS ss xs->zP RG RS (s::ss) (x::xs)
abbrev xq(k:Scope->Pos->Bool)(e:Expr):Bool:=match e with |.ListComp _ _ s p=>k s p |.DictComp ..=>true |_=>false
def ao{a b:Bool}(h:(a&&b)=true):a=true/\b=true:=by cases a <;> cases b <;> first |show#[rfl,rfl] |symm
def dec{p:Prop} [Decidable p] (h:decide p=true):p:=lS h
def mq(h:((not b))=true):b=false:=by cases b <;> first |rfl |symm
def J4{α:Type}{l:List α}(h:l.isEmpty=true):l=[]:=by cases l with |nil=>rfl |cons _ _=>symm
def two{α:Type}{l:List α}(h:2<=l.length):∃a b m,l=a::b::m:=by
 cases l with
 |nil=>show absurd h (Nat.not_succ_le_zero 1)
 |cons a l=>cases l with
  |nil=>show absurd h (Nat.not_succ_le_self 1)
  |cons b m=>show#[a,b,m,rfl]
abbrev YD(c:Ct)(x:Str):Bool:=decide (c.sc.names.lookup x=some .globalImplicit)
abbrev zQ(P:Pg)(c:Ct)(x:Str):Bool:=P.bn.contains x&&YD c x
def aP(h:zQ P c x=true):x∈P.bn/\c.sc.names.lookup x=some .globalImplicit:=#[A7.mp (ao h).1,dec (ao h).2]
abbrev nm(c:Ct)(i:Nat):Str:=c.N.getD i Str.empty
abbrev pZ(c:Ct)(i:Nat):Bool:=decide (c.N[i]?=!(nm c i))&&(qZ c.sc (nm c i)&&cY (nm c i))
abbrev stB(c:Ct)(i:Nat):Bool:=decide (c.N[i]?=!(nm c i))&&fF c (nm c i)
def jY(h:pZ c i=true):c.N[i]?=!(nm c i)/\qZ c.sc (nm c i)=true/\cY (nm c i)=true:=#[dec (ao h).1,(ao (ao h).2).1,(ao (ao h).2).2]
abbrev bang(x:Str):Str:=#[x.cps.push 33]
abbrev bangs(n:Nat):Str:=#[(List.replicate n 33).toArray]
abbrev iM(scope:Scope):List Str:=scope.names.filterMap λy=>if y.2==.local then some y.1 else none
abbrev iN(N:List Str)(scope:Scope):List Str:=(N.map λy=>if scope.names.lookup y==some .local then bang y else y)++iM scope++[bangs (N.length+1)]
abbrev uM:List Str->Bool
 | []=>true
 |x::l=>(not (l.contains x))&&uM l
def jg:∀{l:List Str},uM l=true->l.Nodup
 | [],_=>t8
 |x::l,h=>by
  apply hZ.mpr #[λhm=>?_,jg (ao h).2]
  have:=(ao h).1;rw[A7.mpr hm]at this;cases this
abbrev kids(e:Expr):List Expr:=match e with
 |.BoolOp _ vs _=>vs
 |.BinOp a _ b _=>[a,b]
 |.UnaryOp _ a _=>[a]
 |.Lambda _ b _ _=>[b]
 |.IfExp t a b _=>[t,a,b]
 |.ListComp e gs _ _=>e::gs.flatMap λg=>g.target::g.iter::g.ifs
 |.SetComp e gs _ _=>e::gs.flatMap λg=>g.target::g.iter::g.ifs
 |.DictComp e v gs _ _=>e::v::gs.flatMap λg=>g.target::g.iter::g.ifs
 |.Compare a _ bs _=>a::bs
 |.Call f as ks _=>f::(as++ks.map (·.value))
 |.FormattedValue v _ _ _=>[v]
 |.JoinedStr vs _=>vs
 |.Attribute v _ _=>[v]
 |.Subscript a b _=>[a,b]
 |.List es _=>es
 |.Tuple es _ _=>es
 |.Slice a b s p=>[a.getD (.Name Str.empty p),b.getD (.Name Str.empty p),s.getD (.Name Str.empty p)]
 |_=>[]
abbrev kid(e:Expr)(i:Nat):Expr:=(kids e).getD i e
abbrev zR(e:Expr):Nat:=match e with |.Constant _ k _=>k |.Tuple _ k _=>k |_=>0
abbrev eE(e:Expr):Scope:=match e with |.Lambda _ _ s _=>s |.ListComp _ _ s _=>s |.SetComp _ _ s _=>s |.DictComp _ _ _ s _=>s |_=>aD (.Pass e.pos)
abbrev argT(e:Expr):Arguments:=match e with |.Lambda a _ _ _=>a |_=>default
abbrev opT(e:Expr):Operator:=match e with |.BinOp _ o _ _=>o |_=>.Add
abbrev eK(c:Ct)(t:Expr):Ct:=#[iN c.N (eE t),eE t,false,Str.empty]
abbrev lamC(c:Ct)(t:Expr):Ct:=#[c.N,eE t,false,Str.empty]
abbrev xr(P:Pg)(i:Nat):Str:=match P.fn[i]? with |some fi=>fi.name |none=>Str.empty
def uN(h:P.fn[i]?.isSome=true):∃fi,P.fn[i]?=!fi/\fi.name=xr P i:=by
 delta xr;cases e:P.fn[i]? with
 |none=>rw[e]at h;symm
 |some g=>show#[g,rfl,rfl]
section
variable{R:Expr->Ex->Prop}{s:Ex->Expr->Expr}{f:Ex->Expr->Bool}(hf:∀{x t},f x t=true->R (s x t) x)
include hf
abbrev jZ(s:Ex->Expr->Expr)(t:Expr):Nat->List Ex->List Expr
 |_,[]=>[]
 |i,x::xs=>s x (kid t i)::jZ s t (i+1) xs
abbrev Qi(f:Ex->Expr->Bool)(t:Expr):Nat->List Ex->Bool
 |_,[]=>true
 |i,x::xs=>f x (kid t i)&&Qi f t (i+1) xs
def dH(h:Qi f t i xs=true):zM R (jZ s t i xs) xs:=by
 induction xs generalizing i with
 |nil=>show .nil
 |cons x xs ih=>show .cons (hf (ao h).1) (ih (ao h).2)
abbrev Ws(s:Ex->Expr->Expr)(t:Expr)(x:Option Ex):Option Expr:=match x with |some x=>!(s x t) |none=>none
abbrev Qj(f:Ex->Expr->Bool)(t:Expr)(x:Option Ex):Bool:=match x with |some x=>f x t |none=>true
def J5(h:Qj f t x=true):P0 R (Ws s t x) x:=by
 cases x with
 |none=>show .none
 |some x=>show .some (hf h)
abbrev uO(s:Ex->Expr->Expr)(t:Expr)(x:Option Ex):List Expr:=match x with |some x=>[s x t] |none=>[]
def zT(h:Qj f t x=true):BV R (uO s t x) x:=by
 cases x with
 |none=>show .none
 |some x=>show .some (hf h)
end
abbrev rm(s:Ex->Expr->Expr)(x:Ex)(t:Expr):Expr:=match x with
 |.bJ a=>.Call (.Name "range" (kid t 0).pos) [s a (kid t 1)] [] t.pos
 |.iL a b=>.Call (.Name "range" (kid t 0).pos) [s a (kid t 1),s b (kid t 2)] [] t.pos
 |.zip a b=>.Call (.Name "zip" (kid t 0).pos) [s a (kid t 1),s b (kid t 2)] [] t.pos
 |.enum a=>.Call (.Name "enumerate" (kid t 0).pos) [s a (kid t 1)] [] t.pos
 |x=>s x t
abbrev Wt(P:Pg)(c:Ct)(f:Ex->Expr->Bool)(x:Ex)(t:Expr):Bool:=match x with
 |.bJ a=>zQ P c "range" && f a (kid t 1)
 |.iL a b=>zQ P c "range" && (f a (kid t 1)&&f b (kid t 2))
 |.zip a b=>zQ P c "zip" && (f a (kid t 1)&&f b (kid t 2))
 |.enum a=>zQ P c "enumerate" && f a (kid t 1)
 |x=>f x t
def uP{P:Pg}{R:Expr->Ex->Prop}{s:Ex->Expr->Expr}{f:Ex->Expr->Bool}(hf:∀{x t},f x t=true->R (s x t) x){c:Ct}{x:Ex}{t:Expr}(h:Wt P c f x t=true):xh P R c (rm s x t) x:=by
 cases x
 case bJ a=>show .bJ (hf (ao h).2) (aP (ao h).1).1 (aP (ao h).1).2
 case iL a b=>show .iL (hf (ao (ao h).2).1) (hf (ao (ao h).2).2) (aP (ao h).1).1 (aP (ao h).1).2
 case zip a b=>show .zip (hf (ao (ao h).2).1) (hf (ao (ao h).2).2) (aP (ao h).1).1 (aP (ao h).1).2
 case enum a=>show .enum (hf (ao h).2) (aP (ao h).1).1 (aP (ao h).1).2
 all_goals show .seq (hf h)
abbrev Wu(t:Expr):Nat->List String->List Expr
 |_,[]=>[]
 |i,n::ns=>.Name (Str.ofString n) (kid t i).pos::Wu t (i+1) ns
abbrev okY(P:Pg)(c:Ct):List String->Bool
 | []=>true
 |n::ns=>(uK.contains n&&zQ P c (Str.ofString n))&&okY P c ns
def Wv(h:okY P c ns=true):Fp P c (Wu t i ns) ns:=by
 induction ns generalizing i with
 |nil=>show .nil
 |cons n ns ih=>show .cons (aP (ao (ao h).1).2).1 (aP (ao (ao h).1).2).2 rfl (A7.mp (ao (ao h).1).1) (ih (ao h).2)
abbrev zU(c:Ct)(t:Expr):Nat->List Nat->List Expr
 |_,[]=>[]
 |j,i::is=>.Name (nm c i) (kid t j).pos::zU c t (j+1) is
abbrev okN(c:Ct):List Nat->Bool
 | []=>true
 |i::is=>stB c i&&okN c is
def Ww(h:okN c is=true):Fo c (zU c t j is) is:=by
 induction is generalizing j with
 |nil=>show .nil
 |cons i is ih=>show .cons (dec (ao (ao h).1).1) (ao (ao h).1).2 (ih (ao h).2)
abbrev p7(c:Ct)(T:Tg)(t:Expr):Expr:=match T with
 |.nm i=>.Name (nm c i) t.pos
 |.tp is=>.Tuple (zU c t 0 is) (zR t) t.pos
def p8(h:okN c T.ix=true):zL c (p7 c T t) T:=by
 cases T with
 |nm i=>show .nm (dec (ao (ao h).1).1) (ao (ao h).1).2
 |tp is=>show .tp (Ww h)
abbrev Wx(a b:D):Bool:=match a with |.int i=>(match b with |.int j=>decide (i=j) |_=>false) |_=>false
def Qk(h:Wx a b=true):a=b:=by
 cases a with
 |int i=>cases b with
  |int j=>show congrArg D.int (dec (show decide (i=j)=true from h))
  |_=>show nt h
 |_=>show nt h
abbrev ctB(y:Str)(d:D):List (Str×D)->Bool
 | []=>false
 |p::l=>(decide (p.1=y)&&Wx p.2 d)||ctB y d l
def Wy(h:ctB y d l=true):(y,d)∈l:=by
 induction l with
 |nil=>symm
 |cons p l ih=>
  let(x,d'):=p;have hh:((decide (x=y)&&Wx d' d)||ctB y d l)=true:=h
  rcases AG _ _▸hh with h |h
  . let(h1,h2):=ao h;obtain rfl:=dec h1;rw[Qk h2];show dA
  . show bP _ (ih h)
abbrev cstD(d:D):Const:=match d with |.int i=>.int i |.bl b=>.bool b |.str y=>.str y |_=>.none
abbrev cstK(d:D):Bool:=match d with |.int _=>true |.bl _=>true |.str _=>true |.non=>true |_=>false
abbrev uQ(d:D)(t:Expr):Expr:=match zO t with |some y=>.Name y t.pos |none=>.Constant (cstD d) (zR t) t.pos
abbrev okV(P:Pg)(c:Ct)(d:D)(t:Expr):Bool:=match zO t with |some y=>YD c y&&ctB y d P.ct |none=>cstK d
abbrev blK(c:Ct)(t:Expr)(k:Nat):Bool:=uL c.sc (eE t)&&(jX c.N (iN c.N (eE t)) (eE t) k&&uM (iN c.N (eE t)))
abbrev YF(c:Ct)(k:Nat)(T:Tg):Bool:=T.ix.all λi=>decide (c.N.length<=i/\i<c.N.length+k)
def zV(h:YF c k T=true):∀i∈T.ix,c.N.length<=i/\i<c.N.length+k:=λi hi=>dec (lL.mp h i hi)
abbrev o1(x:Option Ex):Nat:=match x with |some _=>1 |none=>0
abbrev refK(P:Pg)(i ir:Nat):Bool:=match P.fn[i]? with |some fi=>Qh fi ir P.kt |none=>false
abbrev Sj(e:Expr):Bool:=match e with |.Call f es ks _=>(zO f).isSome&&((not es.isEmpty)&&ks.isEmpty) |.ListComp ..=>true |_=>false
def p9{e:Expr}(h:Sj e=true):(∃x p a es pos,e=.Call (.Name x p) (a::es) [] pos)\/∃a b s p,e=.ListComp a b s p:=by
 cases e
 case Call f es ks pos=>
  let(h1,h2):=ao (show ((zO f).isSome&&((not es.isEmpty)&&ks.isEmpty))=true from h);let(x,hx):=Option.isSome_iff_exists.mp h1;let(p,rfl):=pY hx;cases es with
  |nil=>cases (ao h2).1
  |cons a es=>rw[J4 (ao h2).2];show .inl #[x,p,a,es,pos,rfl]
 case ListComp a b s p=>show .inr #[a,b,s,p,rfl]
 all_goals show nt h
abbrev Fq(P:Pg)(s:Ct->Ex->Expr->Expr)(c:Ct)(x:Ex)(t:Expr):Expr:=match x with
 |.val d=>uQ d t
 |.slot i=>.Name (nm c i) t.pos
 |.bin op a b=>.BinOp (s c a (kid t 0)) op (s c b (kid t 1)) t.pos
 |.cmp op a b=>.Compare (s c a (kid t 0)) [op] [s c b (kid t 1)] t.pos
 |.chain a ops xs=>.Compare (s c a (kid t 0)) ops (jZ (s c) t 1 xs) t.pos
 |.neg a=>.UnaryOp .USub (s c a (kid t 0)) t.pos
 |.not a=>.UnaryOp .Not (s c a (kid t 0)) t.pos
 |.and xs=>.BoolOp .And (jZ (s c) t 0 xs) t.pos
 |.or xs=>.BoolOp .Or (jZ (s c) t 0 xs) t.pos
 |.ite a b d=>.IfExp (s c a (kid t 0)) (s c b (kid t 1)) (s c d (kid t 2)) t.pos
 |.tup xs=>.Tuple (jZ (s c) t 0 xs) (zR t) t.pos
 |.lst xs=>.List (jZ (s c) t 0 xs) t.pos
 |.ix a b=>.Subscript (s c a (kid t 0)) (s c b (kid t 1)) t.pos
 |.slice a lo hi=>.Subscript (s c a (kid t 0)) (.Slice (Ws (s c) (kid (kid t 1) 0) lo) (Ws (s c) (kid (kid t 1) 1) hi) none (kid t 1).pos) t.pos
 |.call i xs=>.Call (.Name (xr P i) (kid t 0).pos) (jZ (s c) t 1 xs) [] t.pos
 |.blt b xs=>.Call (.Name (blV b).1 (kid t 0).pos) (jZ (s c) t 1 xs) [] t.pos
 |.zH a n=>.Call (.Name "isinstance" (kid t 0).pos) [s c a (kid t 1),.Name (Str.ofString n) (kid t 2).pos] [] t.pos
 |.JR a ns=>.Call (.Name "isinstance" (kid t 0).pos) [s c a (kid t 1),.Tuple (Wu (kid t 2) 0 ns) (zR (kid t 2)) (kid t 2).pos] [] t.pos
 |.comp _ _ T it co xe=>.ListComp (s (eK c t) xe (kid t 0)) [#[p7 (eK c t) T (kid t 1),rm (s c) it (kid t 2),uO (s (eK c t)) (kid t 3) co,0]] (eE t) t.pos
 |.cS _ _ T1 g8 c1 T it co xe=>.ListComp (s (eK c t) xe (kid t 0)) [#[p7 (eK c t) T1 (kid t 1),rm (s c) g8 (kid t 2),uO (s (eK c t)) (kid t 3) c1,0],#[p7 (eK c t) T (kid t (3+o1 c1)),rm (s (eK c t)) it (kid t (4+o1 c1)),uO (s (eK c t)) (kid t (5+o1 c1)) co,0]] (eE t) t.pos
 |.sE _ _ T1 g8 c1 T it co xe=>.Call (.Name "sorted" (kid t 0).pos) [.SetComp (s (eK c (kid t 1)) xe (kid (kid t 1) 0)) [#[p7 (eK c (kid t 1)) T1 (kid (kid t 1) 1),rm (s c) g8 (kid (kid t 1) 2),uO (s (eK c (kid t 1))) (kid (kid t 1) 3) c1,0],#[p7 (eK c (kid t 1)) T (kid (kid t 1) (3+o1 c1)),rm (s (eK c (kid t 1))) it (kid (kid t 1) (4+o1 c1)),uO (s (eK c (kid t 1))) (kid (kid t 1) (5+o1 c1)) co,0]] (eE (kid t 1)) (kid t 1).pos] [] t.pos
 |.emp=>.Dict [] [] t.pos
 |.peek xe=>s c xe t
 |.stk=>.BinOp (kid t 0) (opT t) (kid t 1) t.pos
 |.sF a _=>.Call (.Name "isinstance" (kid t 0).pos) [s c a (kid t 1),.Name ((zO (kid t 2)).getD Str.empty) (kid t 2).pos] [] t.pos
 |.wU i _ _ xb=>.Call (.Name (xr P i) (kid t 0).pos) [.Lambda (argT (kid t 1)) (s (lamC c (kid t 1)) xb (kid (kid t 1) 0)) (eE (kid t 1)) (kid t 1).pos] [] t.pos
 |.wR a=>.Call (.Name "list" (kid t 0).pos) [.Call (.Name "range" (kid (kid t 1) 0).pos) [s c a (kid (kid t 1) 1)] [] (kid t 1).pos] [] t.pos
 |.meth m o x=>.Call (.Attribute (s c o (kid (kid t 0) 0)) (mtNm m) (kid t 0).pos) [s c x (kid t 1)] [] t.pos
 |.append i x=>.Call (.Attribute (.Name (nm c i) (kid (kid t 0) 0).pos) "append" (kid t 0).pos) [s c x (kid t 1)] [] t.pos
 |.extend i x=>.Call (.Attribute (.Name (nm c i) (kid (kid t 0) 0).pos) "extend" (kid t 0).pos) [s c x (kid t 1)] [] t.pos
 |.sG i x=>.Call (.Attribute (.Name (nm c i) (kid (kid t 0) 0).pos) "pop" (kid t 0).pos) [s c x (kid t 1)] [] t.pos
 |_=>t
abbrev YG(t:Expr):Bool:=(kid t 0).pos.endLine==t.pos.line
abbrev ok1(P:Pg)(s:Ct->Ex->Expr->Expr)(f:Ct->Ex->Expr->Bool)(c:Ct)(x:Ex)(t:Expr):Bool:=match x with
 |.val d=>okV P c d t
 |.slot i=>pZ c i
 |.bin _ a b=>f c a (kid t 0)&&f c b (kid t 1)
 |.cmp op a b=>f c a (kid t 0)&&(f c b (kid t 1)&&(not (behindInMarks op (s c b (kid t 1)))))
 |.chain a ops xs=>f c a (kid t 0)&&(Qi (f c) t 1 xs&&((not (lastMarks ops (jZ (s c) t 1 xs)))&&(decide (2<=ops.length)&&decide (2<=xs.length))))
 |.neg a=>f c a (kid t 0)
 |.not a=>f c a (kid t 0)
 |.and xs=>Qi (f c) t 0 xs
 |.or xs=>Qi (f c) t 0 xs
 |.ite a b d=>f c a (kid t 0)&&(f c b (kid t 1)&&f c d (kid t 2))
 |.tup xs=>Qi (f c) t 0 xs
 |.lst xs=>Qi (f c) t 0 xs
 |.ix a b=>f c a (kid t 0)&&f c b (kid t 1)
 |.slice a lo hi=>f c a (kid t 0)&&(Qj (f c) (kid (kid t 1) 0) lo&&Qj (f c) (kid (kid t 1) 1) hi)
 |.call i xs=>P.fn[i]?.isSome&&(YD c (xr P i)&&(Qi (f c) t 1 xs&&(not xs.isEmpty)))
 |.blt b xs=>zQ P c (blV b).1&&(Qi (f c) t 1 xs&&(not xs.isEmpty))
 |.zH a n=>zQ P c "isinstance" && (f c a (kid t 1)&&(uK.contains n&&zQ P c (Str.ofString n)))
 |.JR a ns=>zQ P c "isinstance" && (f c a (kid t 1)&&(decide (ns.length<=100)&&okY P c ns))
 |.comp n k T it co xe=>decide (n=c.N.length)&&(blK c t k&&(okN (eK c t) T.ix&&(YF c k T&&(Wt P c (f c) it (kid t 2)&&(Qj (f (eK c t)) (kid t 3) co&&f (eK c t) xe (kid t 0))))))
 |.cS n k T1 g8 c1 T it co xe=>decide (n=c.N.length)&&(blK c t k&&((okN (eK c t) T1.ix&&okN (eK c t) T.ix)&&((YF c k T1&&YF c k T)&&((Wt P c (f c) g8 (kid t 2)&&Qj (f (eK c t)) (kid t 3) c1)&&((Wt P (eK c t) (f (eK c t)) it (kid t (4+o1 c1))&&Qj (f (eK c t)) (kid t (5+o1 c1)) co)&&f (eK c t) xe (kid t 0))))))
 |.sE n k T1 g8 c1 T it co xe=>zQ P c "sorted" && (decide (n=c.N.length)&&(blK c (kid t 1) k&&((okN (eK c (kid t 1)) T1.ix&&okN (eK c (kid t 1)) T.ix)&&((YF c k T1&&YF c k T)&&((Wt P c (f c) g8 (kid (kid t 1) 2)&&Qj (f (eK c (kid t 1))) (kid (kid t 1) 3) c1)&&((Wt P (eK c (kid t 1)) (f (eK c (kid t 1))) it (kid (kid t 1) (4+o1 c1))&&Qj (f (eK c (kid t 1))) (kid (kid t 1) (5+o1 c1)) co)&&f (eK c (kid t 1)) xe (kid (kid t 1) 0)))))))
 |.emp=>true
 |.peek xe=>Sj (s c xe t)&&f c xe t
 |.stk=>true
 |.sF a l=>zQ P c "isinstance" && (f c a (kid t 1)&&(YD c ((zO (kid t 2)).getD Str.empty)&&decide (((zO (kid t 2)).getD Str.empty,l)∈P.ups)))
 |.wU i ir ca xb=>P.fn[i]?.isSome&&((decide (ca=P.sH)&&YD c (xr P i)||ca.isEmpty)&&((decide (c.q∈jz)&&P.lam)&&(refK P i ir&&(uL c.sc (eE (kid t 1))&&(J3 (argT (kid t 1)) (eE (kid t 1))&&f (lamC c (kid t 1)) xb (kid (kid t 1) 0))))))
 |.wR a=>(zQ P c "range" && zQ P c "list")&&f c a (kid (kid t 1) 1)
 |.meth _ o x=>YG t&&(f c o (kid (kid t 0) 0)&&f c x (kid t 1))
 |.append i x=>YG t&&(pZ c i&&f c x (kid t 1))
 |.extend i x=>YG t&&(pZ c i&&f c x (kid t 1))
 |.sG i x=>YG t&&(pZ c i&&f c x (kid t 1))
 |_=>false
abbrev dZ(P:Pg):Nat->Ct->Ex->Expr->Expr
 | 0=>λ_ _ t=>t
 |n+1=>Fq P (dZ P n)
abbrev vj(P:Pg):Nat->Ct->Ex->Expr->Bool
 | 0=>λ_ _ _=>false
 |n+1=>ok1 P (dZ P n) (vj P n)
abbrev Cm(P:Pg)(c:Ct)(e:Expr)(x:Ex):Prop:=∃n t,e=dZ P n c x t/\vj P n c x t=true
def Cm.mk{P:Pg}{n:Nat}{c:Ct}{x:Ex}{t:Expr}(h:vj P n c x t=true):Cm P c (dZ P n c x t) x:=#[n,t,rfl,h]
def Cm.LQ(h:Cm P c e x):∃n t,e=Fq P (dZ P n) c x t/\ok1 P (dZ P n) (vj P n) c x t=true:=by
 let(n,t,rfl,h):=h;cases n with
 |zero=>symm
 |succ n=>show#[n,t,rfl,h]
def Cm.notW(h:Cm P c e x):isW x=false:=by let(n,t,_,q):=h.LQ;cases x <;> first |rfl |show Bool.noConfusion (show false=true from q)
meta abbrev Gu (P:Pg) (c:Ct) (es:List Expr) (xs:List Ex):Prop:=zM (Cm P c) es xs
meta abbrev CmO (P:Pg) (c:Ct) (e:Option Expr) (x:Option Ex):Prop:=P0 (Cm P c) e x
meta abbrev j3 (P:Pg) (c:Ct) (es:List Expr) (x:Option Ex):Prop:=BV (Cm P c) es x
meta abbrev Gv (P:Pg) (c:Ct) (e:Expr) (x:Ex):Prop:=xh P (Cm P c) c e x
abbrev ek(t:Stmt):List Expr:=match t with
 |.Return o p=>[o.getD (.Name Str.empty p)]
 |.Assign ts e _=>e::ts
 |.AugAssign a _ e _=>[a,e]
 |.For a b _ _ _=>[a,b]
 |.While a _ _ _=>[a]
 |.If a _ _ _=>[a]
 |.Raise o _ p=>[o.getD (.Name Str.empty p)]
 |.Expr e _=>[e]
 |_=>[]
abbrev aF(t:Stmt)(i:Nat):Expr:=(ek t).getD i (.Name Str.empty t.pos)
abbrev LR(t:Stmt):List Stmt:=match t with |.For _ _ b _ _=>b |.While _ b _ _=>b |.If _ b _ _=>b |_=>[]
abbrev bd1(t:Stmt):List Stmt:=match t with |.If _ _ b _=>b |_=>[]
abbrev sg(l:List Stmt)(i:Nat):Stmt:=l.getD i (.Pass p0)
abbrev noTup(e:Expr):Bool:=match e with |.Tuple _ _ _=>false |_=>true
inductive YH(P:Pg)(R:Expr->Ex->Prop)(RS:Stmt->Sm->Prop)(c:Ct):List Stmt->Sm->Prop
 |rows {y x mn a b tn:Str}{im it iy ia ib:Nat}{scope:Scope}{N':List Str}{k j:Nat}{lp px rp mp Yv V1 ap py pa pb iY y1 y2 a1 a2 b1 b2 sp1 V0 RX R3 RZ Gn ep1 ep2 JC rpos yr tp:Pos}{tk:Nat} :
   (c.N[im]?=!mn/\qZ c.sc mn=true/\cY mn=true)->(c.N[it]?=!tn/\qZ c.sc tn=true/\cY tn=true)->(c.N[iy]?=!y/\PN c y py V1 scope=true/\cY y=true)->
   ((c.N[ia]?=!a/\qZ c.sc a=true/\cY a=true)/\fF c a=true)->((c.N[ib]?=!b/\qZ c.sc b=true/\cY b=true)/\fF c b=true)->(ia≠iy/\ib≠iy/\ia≠ib)->
   (j<k/\uL c.sc scope=true/\jX c.N N' scope k=true/\N'.Nodup/\N'[c.N.length+j]?=!x/\fF #[N',scope,false,Str.empty] x=true)->(("range":Str)∈P.bn/\c.sc.names.lookup ("range":Str)=some .globalImplicit)->(RX.endLine==RZ.line)=true->(R3.endLine==Gn.line)=true->
   YH P R RS c [.Assign [.Name y py] (.ListComp (.List [] lp) [#[.Name x px,.Call (.Name "range" rp) [.Name mn mp] [] Yv,[],0]] scope V1) ap,.For (.Tuple [.Name a pa,.Name b pb] tk iY) (.Name tn tp) [.Expr (.Call (.Attribute (.Subscript (.Name y y1) (.Name a a1) sp1) "append" RX) [.Name b b1] [] RZ) ep1,.Expr (.Call (.Attribute (.Subscript (.Name y y2) (.Name b b2) V0) "append" R3) [.Name a a2] [] Gn) ep2] [] JC,.Return (!(.Name y yr)) rpos] (.rows im it iy ia ib)
abbrev Wz:Sm->Nat
 |.rows _ _ _ _ _=>3
 |_=>0
abbrev rq(fg:Sm->List Stmt->List Stmt)(fs:Sm->Stmt->Stmt):List Sm->List Stmt->List Stmt
 | [],_=>[]
 |x::xs,ss=>if 0<Wz x then fg x (ss.take (Wz x))++rq fg fs xs (ss.drop (Wz x))else fs x (sg ss 0)::rq fg fs xs ss.tail
abbrev LW(fg:Sm->List Stmt->Bool)(fs:Sm->Stmt->Bool):List Sm->List Stmt->Bool
 | [],_=>true
 |x::xs,ss=>if 0<Wz x then fg x (ss.take (Wz x))&&LW fg fs xs (ss.drop (Wz x))else fs x (sg ss 0)&&LW fg fs xs ss.tail
def WD(hg:∀{x ss},kg x ss=true->RG (sg' x ss) x)(hs:∀{x t},ks x t=true->RS (ss' x t) x)(h:LW kg ks xs ss=true):zP RG RS (rq sg' ss' xs ss) xs:=by
 induction xs generalizing ss with
 |nil=>show .nil
 |cons x xs ih=>
  delta LW at h;delta rq;by_cases hx:0<Wz x
  .
   rw[i8 hx]at h ⊢
   show .grp (hg (ao h).1) (ih (ao h).2)
  .
   rw[i7 hx]at h ⊢
   show .cons (hs (ao h).1) (ih (ao h).2)
abbrev rapS(y a b:Str)(t:Stmt):Stmt:=.Expr (.Call (.Attribute (.Subscript (.Name y (kid (kid (kid (aF t 0) 0) 0) 0).pos) (.Name a (kid (kid (kid (aF t 0) 0) 0) 1).pos) (kid (kid (aF t 0) 0) 0).pos) "append" (kid (aF t 0) 0).pos) [.Name b (kid (aF t 0) 1).pos] [] (aF t 0).pos) t.pos
abbrev nmE(e:Expr):Str:=(zO e).getD Str.empty
abbrev bvK(c:Ct)(sc:Scope)(x:Str):Bool:=uL c.sc sc&&(jX c.N (iN c.N sc) sc (iM sc).length&&(uM (iN c.N sc)&&(decide ((iM sc).idxOf x<(iM sc).length/\(iN c.N sc)[c.N.length+(iM sc).idxOf x]?=!x)&&fF #[iN c.N sc,sc,false,Str.empty] x)))
abbrev Sl(c:Ct)(im it iy ia ib:Nat)(ss:List Stmt):List Stmt:=
 [.Assign [.Name (nm c iy) (aF (sg ss 0) 1).pos] (.ListComp (.List [] (kid (aF (sg ss 0) 0) 0).pos) [#[.Name (nmE (kid (aF (sg ss 0) 0) 1)) (kid (aF (sg ss 0) 0) 1).pos,.Call (.Name "range" (kid (kid (aF (sg ss 0) 0) 2) 0).pos) [.Name (nm c im) (kid (kid (aF (sg ss 0) 0) 2) 1).pos] [] (kid (aF (sg ss 0) 0) 2).pos,[],0]] (eE (aF (sg ss 0) 0)) (aF (sg ss 0) 0).pos) (sg ss 0).pos,
 .For (.Tuple [.Name (nm c ia) (kid (aF (sg ss 1) 0) 0).pos,.Name (nm c ib) (kid (aF (sg ss 1) 0) 1).pos] (zR (aF (sg ss 1) 0)) (aF (sg ss 1) 0).pos) (.Name (nm c it) (aF (sg ss 1) 1).pos) [rapS (nm c iy) (nm c ia) (nm c ib) (sg (LR (sg ss 1)) 0),rapS (nm c iy) (nm c ib) (nm c ia) (sg (LR (sg ss 1)) 1)] [] (sg ss 1).pos,
 .Return (!(.Name (nm c iy) (aF (sg ss 2) 0).pos)) (sg ss 2).pos]
abbrev Sq(P:Pg)(c:Ct)(im it iy ia ib:Nat)(ss:List Stmt):Bool:=decide (ia≠iy/\ib≠iy/\ia≠ib)&&(pZ c im&&(pZ c it&&((pZ c iy&&PN c (nm c iy) (aF (sg ss 0) 1).pos (aF (sg ss 0) 0).pos (eE (aF (sg ss 0) 0)))&&((pZ c ia&&fF c (nm c ia))&&((pZ c ib&&fF c (nm c ib)) &&
 (bvK c (eE (aF (sg ss 0) 0)) (nmE (kid (aF (sg ss 0) 0) 1))&&(zQ P c "range" && (YG (aF (sg (LR (sg ss 1)) 0) 0)&&YG (aF (sg (LR (sg ss 1)) 1) 0)))))))))
def J6{P:Pg}{R:Expr->Ex->Prop}{RS:Stmt->Sm->Prop}{c:Ct}{im it iy ia ib:Nat}{ss:List Stmt}(h:Sq P c im it iy ia ib ss=true):YH P R RS c (Sl c im it iy ia ib ss) (.rows im it iy ia ib):=by let(h1,a1):=ao h;let(h2,a2):=ao a1;let(h3,a3):=ao a2;let(h4,a4):=ao a3;let(h5,a5):=ao a4;let(h6,a6):=ao a5;let(h7,a7):=ao a6;let(h8,a8):=ao a7;let(k1,k2):=ao (ao h7).2;show .rows (jY h2) (jY h3) #[(jY (ao h4).1).1,(ao h4).2,(jY (ao h4).1).2.2] #[jY (ao h5).1,(ao h5).2] #[jY (ao h6).1,(ao h6).2] (dec h1) #[(dec (ao (ao k2).2).1).1,(ao h7).1,k1,jg (ao k2).1,(dec (ao (ao k2).2).1).2,(ao (ao k2).2).2] (aP h8) (ao a8).1 (ao a8).2
abbrev WK(P:Pg)(m:Nat)(fs:Sm->Stmt->Stmt)(c:Ct)(x:Sm)(ss:List Stmt):List Stmt:=match x with
 |.rows im it iy ia ib=>Sl c im it iy ia ib ss
 |_=>ss
abbrev WL(P:Pg)(m:Nat)(ks:Sm->Stmt->Bool)(c:Ct)(x:Sm)(ss:List Stmt):Bool:=match x with
 |.rows im it iy ia ib=>Sq P c im it iy ia ib ss
 |_=>false
def WM(hs:∀{x t},ks x t=true->RS (fs x t) x)(h:WL P m ks c x ss=true):YH P (Cm P c) RS c (WK P m fs c x ss) x:=by
 cases x
 case rows im it iy ia ib=>show J6 h
 all_goals show nt h
abbrev srS1(P:Pg)(m:Nat)(fs:Sm->Stmt->Stmt)(c:Ct)(x:Sm)(t:Stmt):Stmt:=match x with
 |.ret x=>.Return (!(dZ P (m+1) c x (aF t 0))) t.pos
 |.expr x=>.Expr (dZ P (m+1) c x (aF t 0)) t.pos
 |.set i x=>.Assign [.Name (nm c i) (aF t 1).pos] (dZ P (m+1) c x (aF t 0)) t.pos
 |.setC i x=>.Assign [.Name (nm c i) (aF t 1).pos] (dZ P (m+1) c x (aF t 0)) t.pos
 |.tgt T x=>.Assign [p7 c T (aF t 1)] (dZ P (m+1) c x (aF t 0)) t.pos
 |.item i xj x=>.Assign [.Subscript (.Name (nm c i) (kid (aF t 1) 0).pos) (dZ P (m+1) c xj (kid (aF t 1) 1)) (aF t 1).pos] (dZ P (m+1) c x (aF t 0)) t.pos
 |.aug i op x=>.AugAssign (.Name (nm c i) (aF t 0).pos) op (dZ P (m+1) c x (aF t 1)) t.pos
 |.ite e a b=>.If (dZ P (m+1) c e (aF t 0)) (rq (WK P m fs c) fs a (LR t)) (rq (WK P m fs c) fs b (bd1 t)) t.pos
 |.loop T it b=>.For (p7 c T (aF t 0)) (rm (dZ P (m+1) c) it (aF t 1)) (rq (WK P m fs c) fs b (LR t)) [] t.pos
 |.while e b=>.While (dZ P (m+1) c e (aF t 0)) (rq (WK P m fs c) fs b (LR t)) [] t.pos
 |.raise i x=>.Raise (!(.Call (.Name (P.cls.getD i Str.empty) (kid (aF t 0) 0).pos) [dZ P (m+1) c x (kid (aF t 0) 1)] [] (aF t 0).pos)) none t.pos
 |_=>t
abbrev okS1(P:Pg)(m:Nat)(ks:Sm->Stmt->Bool)(c:Ct)(x:Sm)(t:Stmt):Bool:=match x with
 |.ret x=>vj P (m+1) c x (aF t 0)
 |.expr x=>vj P (m+1) c x (aF t 0)&&(not (xq (λ_ _=>true) (dZ P (m+1) c x (aF t 0))))
 |.set i x=>stB c i&&(vj P (m+1) c x (aF t 0)&&(not (xq (λs p=>PN c (nm c i) (aF t 1).pos p s) (dZ P (m+1) c x (aF t 0)))))
 |.setC i x=>decide (c.N[i]?=!(nm c i))&&(PN c (nm c i) (aF t 1).pos (aF t 0).pos (eE (aF t 0))&&(vj P (m+1) c x (aF t 0)&&(match x with
  |.comp _ _ _ _ _ _=>true
  |.cS _ _ _ _ _ _ _ _ _=>true
  |_=>false)))
 |.tgt T x=>(match T with |.tp is=>noTup (dZ P (m+1) c x (aF t 0))||PX c (zU c (aF t 1) 0 is) (dZ P (m+1) c x (aF t 0)) |_=>false)&&(okN c T.ix&&(vj P (m+1) c x (aF t 0)&&(not (xq (λ_ _=>true) (dZ P (m+1) c x (aF t 0))))))
 |.item i xj x=>pZ c i&&(vj P (m+1) c xj (kid (aF t 1) 1)&&(vj P (m+1) c x (aF t 0)&&(not (xq (λ_ _=>true) (dZ P (m+1) c x (aF t 0))))))
 |.aug i _ x=>stB c i&&vj P (m+1) c x (aF t 1)
 |.ite e a b=>vj P (m+1) c e (aF t 0)&&(LW (WL P m ks c) ks a (LR t)&&LW (WL P m ks c) ks b (bd1 t))
 |.loop T it b=>okN c T.ix&&(Wt P c (vj P (m+1) c) it (aF t 1)&&LW (WL P m ks c) ks b (LR t))
 |.while e b=>vj P (m+1) c e (aF t 0)&&LW (WL P m ks c) ks b (LR t)
 |.raise i x=>decide (P.cls[i]?=!(P.cls.getD i Str.empty))&&(YD c (P.cls.getD i Str.empty)&&vj P (m+1) c x (kid (aF t 0) 1))
 |.stuck=>true
 |_=>false
abbrev Ss(P:Pg)(m:Nat):Nat->Ct->Sm->Stmt->Stmt
 | 0=>λ_ _ t=>t
 |n+1=>λc=>srS1 P m (Ss P m n c) c
abbrev Sv(P:Pg)(m:Nat):Nat->Ct->Sm->Stmt->Bool
 | 0=>λ_ _ _=>false
 |n+1=>λc=>okS1 P m (Sv P m n c) c
abbrev L0(P:Pg)(c:Ct)(s:Stmt)(x:Sm):Prop:=∃m n t,s=Ss P m n c x t/\Sv P m n c x t=true
meta abbrev xu (P:Pg) (c:Ct) (ss:List Stmt) (xs:List Sm):Prop:=zP (YH P (Cm P c) (L0 P c) c) (L0 P c) ss xs
def L0.mk{P:Pg}{m n:Nat}{c:Ct}{x:Sm}{t:Stmt}(h:Sv P m n c x t=true):L0 P c (Ss P m n c x t) x:=#[m,n,t,rfl,h]
def xu.mk{P:Pg}{m n:Nat}{c:Ct}{xs:List Sm}{ss:List Stmt}(h:LW (WL P m (Sv P m n c) c) (Sv P m n c) xs ss=true):xu P c (rq (WK P m (Ss P m n c) c) (Ss P m n c) xs ss) xs:=WD (WM .mk) .mk h
def noC(h:((not (xq (λ_ _=>true) e)))=true):xq (λ_ _=>true) e=false:=mq h
def L0.LQ(h:L0 P c s x):∃m n t,s=srS1 P m (Ss P m n c) c x t/\okS1 P m (Sv P m n c) c x t=true:=by
 let(m,n,t,rfl,h):=h;cases n with
 |zero=>symm
 |succ n=>show#[m,n,t,rfl,h]
abbrev L1(e:Expr):Bool:=match e with
 |.Constant .. |.Name .. |.BinOp .. |.Compare .. |.UnaryOp .. |.BoolOp .. |.IfExp .. |.Tuple .. |.List .. |.Subscript .. |.Call .. |.JoinedStr .. |.ListComp .. |.Dict .. |.DictComp ..=>true
 |_=>false
def Cm.L1(h:Cm P c e x):L1 e=true:=by
 let(n,t,rfl,q):=h.LQ;clear h;cases x
 case val d=>exact Ev.L1 (uQ d t)=true;delta uQ;split <;> rfl
 case peek xe=>rcases p9 (ao q).1 with ⟨x,p,a,es,pos,e⟩ |⟨a,b,s,p,e⟩ <;> (exact Ev.L1 (dZ P n c xe t)=true;rw[e];rfl)
 all_goals first |rfl |show Bool.noConfusion (show false=true from q)
section
def Cm.star(h:Cm P c e x)(es:List Expr):starEach (e::es) env=(false,eval e env)::starEach es env:=by have hs:=h.L1;cases e <;> first |rfl |show Bool.noConfusion (show false=true from hs)
def zM.star(h:Gu P c es xs):starEach es env=es.map λe=>(false,eval e env):=by
 induction es generalizing xs with
 |nil=>rfl
 |cons e es ih=>
  cases h with
  |cons h1 h2=>rw[h1.star,ih h2];rfl
def zM.plain(h:Gu P c es xs):(backTo pos (starEach es env)).any (·.1)=false:=by
 rw[h.star];delta backTo
 induction es generalizing xs with
 |nil=>rfl
 |cons e es ih=>
  cases h with
  |cons h1 h2=>rw[List.map_cons,List.map_cons,List.any_cons,ih h2];rfl
def Cm.folded(h:Cm P c e x)(y:Value):foldedSetIterable e env y=pure y:=by have hs:=h.L1;cases e <;> first |rfl |show Bool.noConfusion (show false=true from hs)
def xh.folded(h:Gv P c e x)(y:Value):foldedSetIterable e env y=pure y:=by
 cases h with
 |seq h=>show h.folded y
 |bJ _ _ _=>rfl
 |iL _ _ _ _=>rfl
 |enum _ _ _=>rfl
 |zip _ _ _ _=>rfl
def Cm.Ql(h:Cm P c e x):tU e:=by have hs:=h.L1;cases e <;> first |show λ_ _=>rfl |show Bool.noConfusion (show false=true from hs)
end
structure jy(P:Pg)(rn:Rn):Prop where
 e:∀{X:Cx}{c:Ct}{z:Z}{k:Nat}{x:Ex}{e:Expr}{g g':G}{r:R},aW P k X c->z.K=X.K->Cm P c e x->rn.e z.bor k x g=!(r,g')->aB X z e g r g'
 t:∀{X:Cx}{c:Ct}{z:Z}{k:Nat}{x:Ex}{e:Expr}{g g':G}{b:Bool},aW P k X c->z.K=X.K->Cm P c e x->rn.t z.bor k x g=!(b,g')->cJ X z e g b g'
 b:∀{X:Cx}{c:Ct}{z:Z}{k:Nat}{xs:List Sm}{jJ:List Stmt}{g g':G}{f:Fl},aW P k X c->c.df=true->z.K=X.K->xu P c jJ xs->rn.b z.bor k xs g=!(f,g')->eV X z jJ g f g'
def eZ(h:jX N N' scope k=true):Names N N' scope k:=by
 delta jX at h;simp only[fN,l6,lL,t6]at h;let((h1,h2),h3):=h;apply#[h1,λx e=>?_,λi x e hi=>?_]
 . rw[e]at h2;show lS h2
 . have h4:=h3 i hi;rw[e]at h4;simp only[AG,fN,l6]at h4;show h4
def gQ(ct:aW P k X c)(h:uL c.sc scope=true):aR X.env.scope scope:=by
 delta uL at h;simp only[fN,l6,lL,AG]at h;let(h1,h2):=h;apply#[h1,λy hy=>(h2 y hy).1.1,λy hy e=>?_,λy hy e=>?_,λy hy e=>?_]
 . show ((h2 y hy).1.2).elim (λq=>absurd e q) id
 . show ((h2 y hy).2).elim (λq=>absurd e q) λq=>q.1
 . show ((h2 y hy).2).elim (λq=>absurd e q) λq=>ct.fre _ q.2
def j4{X:Cx}{N':List Str}{scope:Scope}{b:Bk}{x:Str}:(X.blk N' scope b).env.scope.names.lookup x=(scope.names.lookup x).map λk=>if (k==NameKind.free&&X.env.scope.kind==.function&&X.env.kindOf x==some .cell)then NameKind.cell else k:=d8
def aW.blk{P:Pg}{k:Nat}{X:Cx}{c:Ct}{scope:Scope}{N':List Str}(ct:aW P k X c)(hnd:N'.Nodup)(b:Bk):aW P k (X.blk N' scope b) #[N',scope,false,Str.empty]:=by
 apply#[rfl,hnd,λx e=>?_,λx e=>?_,λx e=>?_,λe=>absurd e ⋯,λx e=>?_,λe=>absurd e ⋯,ct.calm,rfl,ct.md,ct.room,λe=>absurd (show Str.empty∈jz from e) ⋯]
 . have e':=e;rw[j4,e'];rfl
 . have e':=e;exact (X.blk N' scope b).env.scope.names.lookup x=_;rw[j4,e'];rfl
 .
  rw[j4];rcases e with e |e
  . have e':=e;rw[e'];show .inl rfl
  .
   have e':=e;rw[e',BS];by_cases hq:(NameKind.free==NameKind.free&&X.env.scope.kind==.function&&X.env.kindOf x==some .cell)=true
   . rw[i8 hq];show .inl rfl
   . rw[i7 hq];show .inr rfl
 .
  rcases e with e |e
  . cases e
  . have e':=e;exact (scope.names.lookup x==some .local)=true;rw[e'];rfl
section
def bA(h:aB X z e g r g'):aB X z e g (norm r) g':=by
 cases r with
 |dat d=>show h
 |new l=>show oH h
 |var i=>show h
def J7(h:aB X z e g r g1)(hd:toD z.bor r g1=!(d,g')):aB X z e g (.dat d) g':=by
 cases r with
 |dat d'=>cases hd;show h
 |new l=>cases hd;show oH h
 |var i=>
  have hd:(if i∈z.bor then none else match g1[i]? with |!(.own l)=>!(D.lst l,g1.set i (.dat (.lst l))) |_=>none)=!(d,g'):=hd
  split at hd
  . cases hd
  .
   ext hb;split at hd
   . ext l hg;cases hd;show Dp h hg hb
   . cases hd
def aQ(hS:jy P rn)(ct:aW P k X c)(hK:z.K=X.K)(hc:Cm P c e x)(h:fP rn z.bor k x g=!(d,g')):aB X z e g (.dat d) g':=by
 delta fP at h;split at h
 . ext r g1 e1;show J7 (hS.e ct hK hc e1) h
 . symm
def qg:∀(ds:List D),vM (ds.map R.dat)=!ds
 | []=>rfl
 |d::ds=>by
  exact (match vM (ds.map R.dat)with |some ds=>!(d::ds) |none=>none)=_
  rw[qg ds]
def qh(hS:jy P rn)(ct:aW P k X c)(hK:z.K=X.K):∀{es:List Expr}{xs:List Ex}{g g':G}{ds:List D},Gu P c es xs->pS rn z.bor k xs g=!(ds,g')->cT X z es g (ds.map .dat) g':=by
 intro es xs g g' ds hc h
 induction hc generalizing g ds with
 |nil=>symm;show d9
 |cons h1 h2 ih=>
  delta pS at h
  repeat' split at h
  all_goals try contradiction
  ext d g1 e1 _ ds g2 e2;symm;show dF (aQ hS ct hK h1 e1) (ih e2) (h1.star _)
def qi(hS:jy P rn)(ct:aW P k X c)(hK:z.K=X.K):∀{es:List Expr}{xs:List Ex}{g g':G}{rs:List R},Gu P c es xs->argsR rn z.bor k xs g=!(rs,g')->cT X z es g rs g':=by
 intro es xs g g' rs hc h
 induction hc generalizing g rs with
 |nil=>symm;show d9
 |cons h1 h2 ih=>
  delta argsR at h
  repeat' split at h
  all_goals try contradiction
  ext r g1 e1 _ rs g2 e2;symm;have q:=bA (hS.e ct hK h1 e1);have q2:=ih e2;cases r with
  |dat d=>show dF q q2 (h1.star _)
  |new l=>show dF q q2 (h1.star _)
  |var i=>show Ho q q2 (h1.star _)
def jh(h:argsR rn bor k [a,b] g=!(rs,g2)):∃r1 r2 g1,rn.e bor k a g=!(r1,g1)/\rn.e bor k b g1=!(r2,g2)/\rs=[norm r1,norm r2]:=by
 delta argsR at h;split at h
 .
  ext r1 g1 e1;delta argsR at h;split at h
  .
   ext rs' g3 e3;split at e3
   . ext r2 g4 e2;cases e3;symm;show#[r1,r2,g1,e1,e2,rfl]
   . cases e3
  . symm
 . symm
def J8(hS:jy P rn)(ct:aW P k X c)(hK:z.K=X.K):∀{bs:List Expr}{xs:List Ex}{ops:List CmpOp}{g g':G}{d1:D}{b:Bool},Gu P c bs xs->Wg rn z.bor k d1 ops xs g=!(b,g')->ug X z d1 ops bs g b g':=by
 intro bs xs ops g g' d1 b hc h
 induction hc generalizing ops g d1 with
 |nil=>delta Wg at h;split at h <;> first |contradiction |symm
 |cons h1 h2 ih=>
  delta Wg at h;split at h
  .
   ext op x _ e;cases e;cases h2
   repeat' split at h
   all_goals try contradiction
   ext d2 g1 e1 _ b e2;symm;show .last (aQ hS ct hK h1 e1) (pX hK ct.room e2)
  .
   ext e;cases e;split at h
   .
    ext d2 g1 e1;split at h
    .
     ext e2;cases h2 with
     |cons h2 h3=>show .link (aQ hS ct hK h1 e1) (pX hK ct.room e2) (ih h)
    .
     ext e2;symm;cases h2 with
     |cons h2 h3=>show .stop (aQ hS ct hK h1 e1) (pX hK ct.room e2)
    . symm
   . symm
  . symm
def Qm(hS:jy P rn)(ct:aW P k X c)(hK:z.K=X.K):∀{es:List Expr}{xs:List Ex}{g g':G}{r:R},Gu P c es xs->JV rn z.bor k xs g=!(r,g')->aB X z (.BoolOp .And es pos) g r g':=by
 intro es xs g g' b hc h
 induction hc generalizing g with
 |nil=>symm
 |cons h1 h2 ih=>
  cases h2 with
  |nil=>show Hl (hS.e ct hK h1 h)
  |cons h2 h3=>
   delta JV at h;split at h
   . ext g1 e1;show Ni (hS.e ct hK h1 e1) (ih h)
   . ext g1 e1;symm;show Nh (hS.e ct hK h1 e1)
   . symm
def WN(hS:jy P rn)(ct:aW P k X c)(hK:z.K=X.K):∀{es:List Expr}{xs:List Ex}{g g':G}{r:R},Gu P c es xs->orF rn z.bor k xs g=!(r,g')->aB X z (.BoolOp .Or es pos) g r g':=by
 intro es xs g g' b hc h
 induction hc generalizing g with
 |nil=>symm
 |cons h1 h2 ih=>
  cases h2 with
  |nil=>show Hl (hS.e ct hK h1 h)
  |cons h2 h3=>
   delta orF at h;split at h
   . ext g1 e1;show Uw (hS.e ct hK h1 e1) (ih h)
   . ext g1 e1;symm;show Uv (hS.e ct hK h1 e1)
   . symm
def J9(hS:jy P rn)(ct:aW P k X c)(hK:z.K=X.K):∀{es:List Expr}{xs:List Ex}{g g':G}{b:Bool},Gu P c es xs->wV rn z.bor k xs g=!(b,g')->nq X z (.BoolOp .And es pos) g b g':=by
 intro es xs g g' b hc h
 induction hc generalizing g with
 |nil=>symm
 |cons h1 h2 ih=>
  cases h2 with
  |nil=>show M9 (hS.t ct hK h1 h)
  |cons h2 h3=>
   delta wV at h;split at h
   . ext g1 e1;show Ng (hS.t ct hK h1 e1) (ih h)
   . ext g1 e1;symm;show Nc (hS.t ct hK h1 e1)
   . symm
def Qo(hS:jy P rn)(ct:aW P k X c)(hK:z.K=X.K):∀{es:List Expr}{xs:List Ex}{g g':G}{b:Bool},Gu P c es xs->JW rn z.bor k xs g=!(b,g')->nq X z (.BoolOp .Or es pos) g b g':=by
 intro es xs g g' b hc h
 induction hc generalizing g with
 |nil=>symm
 |cons h1 h2 ih=>
  cases h2 with
  |nil=>show Us (hS.t ct hK h1 h)
  |cons h2 h3=>
   delta JW at h;split at h
   . ext g1 e1;show Uu (hS.t ct hK h1 e1) (ih h)
   . ext g1 e1;symm;show Ut (hS.t ct hK h1 e1)
   . symm
def xx(hS:jy P rn)(ct:aW P k X c)(hK:z.K=X.K)(hc:CmO P c e x)(h:JX rn z.bor k x g=!(o,g')):uh X z e g o g':=by
 cases hc with
 |none=>symm;show DG
 |@some e' x' hc=>
  have h:(match fP rn z.bor k x' g with |!(.int i,g1)=>!(!i,g1) |_=>none)=!(o,g'):=h
  split at h
  . ext e1;symm;show DK (aQ hS ct hK hc e1)
  . symm
def BZ(ct:aW P k X c)(h:c.sc.names.lookup x=some .globalImplicit):Gl X x:=ct.qN x h
def Qp(h:isW it=false):cz rn bor k tp it g=match fP rn bor k it g with |!(.tup l,g1)=>!(l,g1) |!(.lst l,g1)=>!(l,g1) |!(.fix l,g1)=>!(l,g1) |_=>none:=by cases it <;> first |rfl |show Bool.noConfusion (show true=false from h)
def mz(hS:jy P rn)(ct:aW P k X c)(hK:z.K=X.K){xA tg:Expr}{it:Ex}{g g':G}{ak:List D}{tp:Bool}(htp:tp=true->∃es k pos,tg=.Tuple es k pos)(hc:Gv P c xA it)(h:cz rn z.bor k tp it g=!(ak,g')):dg X z tg xA g ak g':=by
 cases hc with
 |zip ha ha2 hb hg=>
  delta cz at h;dsimp only at h;split at h
  .
   ext ht;let(es,k0,pos,rfl):=htp ht
   repeat' split at h
   all_goals try contradiction
   ext d1 d2 g1 e1 _ _ l m e2 e3 e4;symm;show VF hK (qh hS ct hK (.cons ha (.cons ha2 .nil)) e1) e2 e3 e4 (BZ ct hg) (ct.md.bn _ hb) (ha.star _) (by rw[ha2.star];rfl)
  . symm
 |enum ha hb hg=>
  delta cz at h;dsimp only at h;split at h
  .
   ext ht;let(es,k0,pos,rfl):=htp ht
   repeat' split at h
   all_goals try contradiction
   ext d g1 e1 _ l e2;symm;show Om hK (dF (aQ hS ct hK ha e1) d9 (ha.star _)) e2 (BZ ct hg) (ct.md.bn _ hb) (ha.star _)
  . symm
 |bJ ha hb hg=>
  delta cz at h;dsimp only at h
  repeat' split at h
  all_goals try contradiction
  ext j g1 e1 hj;symm;simp only[LC,fN,l6]at hj;show NB (dF (aQ hS ct hK ha e1) d9 (ha.star _)) (BZ ct hg) (ct.md.bn _ hb) (by rw[ha.star];rfl) hj.1 hj.2
 |iL ha hb' hb hg=>
  delta cz at h;dsimp only at h
  repeat' split at h
  all_goals try contradiction
  ext c0 g1 e1 _ j g2 e2 hj;symm;simp only[LC,fN,l6]at hj;show NC (dF (aQ hS ct hK ha e1) (dF (aQ hS ct hK hb' e2) d9 (hb'.star _)) (ha.star _)) (BZ ct hg) (ct.md.bn _ hb) (by rw[ha.star,hb'.star];rfl) (by rw[hb'.star];rfl) #[hj.1.1,hj.1.2,hj.2.1,hj.2.2]
 |seq hc=>
  have h':=(Qp hc.notW).symm.trans h;split at h'
  . ext e1;cases h';show Vh hK (aQ hS ct hK hc e1)
  . ext e1;cases h';show Vi (aQ hS ct hK hc e1)
  . ext e1;cases h';show Vj hK (aQ hS ct hK hc e1)
  . cases h'
def iO(hS:jy P rn)(ct:aW P k X c)(hK:z.K=X.K)(hc:j3 P c ifs co)(h:jU rn z.bor k co g=!(b,g')):bL X z ifs g b g':=by
 cases hc with
 |none=>symm;show NK
 |some hc=>show NP (hS.t ct hK hc h)
def sJ(h:zL c tg T):T.jT=true->∃es k pos,tg=.Tuple es k pos:=by
 cases h with
 |nm _ _=>intro e;cases e
 |tp _=>intro _;show#[_,_,_,rfl]
def WQ(ct:aW P k X c)(h:Fo c es is):kP X es is:=by
 induction h with
 |nil=>show .nil
 |cons h1 h2 _ ih=>show .cons (ct.nm h1 h2) ih
def qj(ct:aW P k X c)(hK:z.K=X.K)(h:zL c tg T)(hb:∀i∈T.ix,i∉z.bor):eW X z tg T:=by
 cases h with
 |nm h1 h2=>show Z3 (ct.nm h1 h2) (hb _ (hU.mpr rfl))
 |tp h1=>show Z4 ct.calm hK (WQ ct h1) hb
def uR(hS:jy P rn){Xb:Bk->Cx}{cb:Ct}(ctb:∀b,aW P k (Xb b) cb)(RQ:∀b,z.K=(Xb b).K){T:Tg}{last:Nat}{ifs:List Expr}{co:Option Ex}{aX:Expr}{xe:Ex}(hi:j3 P cb ifs co)(he:Cm P cb aX xe) :
  ∀{ak:List D}{g gE:G},Fj rn z.bor k T last co xe ak g=!gE->kQ T last (λg b g'=>∀bk:Bk,bL (Xb bk) z ifs g b g') (λg d g'=>∀bk:Bk,aB (Xb bk) z aX g (.dat d) g') ak g gE
 | [],_,_,h=>by symm;show .nil
 |d::l,_,_,h=>by
  delta Fj at h;split at h
  . symm
  .
   ext g1 e1;split at h
   . symm
   . ext g2 e2;show .skip e1 (λbk=>iO hS (ctb bk) (RQ bk) hi e2) (uR hS ctb RQ hi he h)
   .
    ext g2 e2;split at h
    . symm
    .
     ext x g3 e3
     repeat' split at h
     all_goals try contradiction
     ext acc e4 hl;show .take e1 (λbk=>iO hS (ctb bk) (RQ bk) hi e2) (λbk=>aQ hS (ctb bk) (RQ bk) he e3) e4 hl (uR hS ctb RQ hi he h)
end
abbrev jF(P:Pg)(mg:Str->Option Value)(ci:Nat)(C:Addr):Prop:=∃x,P.cls[ci]?=!x/\mg x=!(.ref C)
structure Qq(P:Pg)(k:Nat)(X:Cx)(c:Ct):Prop where
 ct:aW P k X.tL c
 ex:X.ex=[]
 pa:PassesOwn (~~~2) X.A X.env X.xe
structure rz(P:Pg)(rn:Rn):Prop where
 x:∀{X:Cx}{c:Ct}{z:Z}{k:Nat}{x:Ex}{e:Expr}{g g':G}{ci:Nat}{C:Addr},Qq P k X c->z.K=X.K->jF P X.mg ci C->Cm P c e x->rn.x z.bor k x g=!(ci,g')->Gk X z e g C g'
 t:∀{X:Cx}{c:Ct}{z:Z}{k:Nat}{x:Ex}{e:Expr}{g g':G}{ci:Nat}{C:Addr},Qq P k X c->z.K=X.K->jF P X.mg ci C->Cm P c e x->rn.xt z.bor k x g=!(ci,g')->Ym X z e g C g'
 b:∀{X:Cx}{c:Ct}{z:Z}{k:Nat}{xs:List Sm}{jJ:List Stmt}{g g':G}{ci:Nat}{C:Addr},Qq P k X c->c.df=true->z.K=X.K->jF P X.mg ci C->xu P c jJ xs->rn.xb z.bor k xs g=!(ci,g')->N6 X z jJ g C g'
structure Qs(P:Pg)(fi:Fi)(fx:Fx):Prop where
 np:fx.np=fi.ps.length
 n:fx.n=fi.N.length
 body:xu P #[fi.N,aD fi.st,true,fi.qual] (bx fi.st) fx.body
abbrev jG(P:Pg)(fns:List Fx):Prop:=∀(f:Nat) (fi:Fi) (fx:Fx),P.fn[f]?=!fi->fns[f]?=!fx->Qs P fi fx
def qk{P:Pg}{k:Nat}{prog:Program}{w:World}{K:Frag}{mg:Str->Option Value}{base:Heap}{N ps:List Str}{qual:Str}{scope:Scope}{f:Addr}{bG:Value}{A:Around}{outer:List Env}{s:Shared}{H:Hp}{E:XK}
  (S:bZ N ps scope) (md:uJ P K mg) (cP:PySem.W.codeIn K bG qual=true) (hr:cB k (A.deeper (envOfC qual scope s⁻¹ f bG))):aW P k (gJ yQ prog w K mg base N qual scope f bG A outer s H E).tL #[N,scope,true,qual]:=by
 apply#[rfl,S.nd,λx e=>e,λx e=>e,λx e=>e,λ_ x e=>e,λx _=>rfl,λ_=>?_,rfl,rfl,md,hr,λe h=>#[rfl,md.lam h _ e _ cP]]
 exact (if scope.kind.isAnnotationScope then ScopeKind.function else scope.kind)=.function
 rw[S.kind];rfl
section
def Ka(hS:jy P rn){k':Nat}(ct:aW P (k'+1) X c)(hK:z.K=X.K){f:Nat}{fi:Fi}{fx:Fx}(V3:P.fn[f]?=!fi)(vf:Qs P fi fx)(R4:c.sc.names.lookup fi.name=some .globalImplicit){e:Expr}{es:List Expr}{xs:List Ex}{rs:List R}{g g1 gO:G}{r:R}
  (hc:Gu P c (e::es) xs) (ha:cT X z (e::es) g rs g1) (h:bM rn fx k' rs g1=!(r,gO)):aB X z (.Call (.Name fi.name p) (e::es) [] pos) g r gO:=by
 let(f,fd,hm,hF,YJ,hB,ku):=ct.md.fn _ fi V3;have F:jK X.prog X.w X.K X.mg X.base yQ (k'+1) f fd fi.ps (RN X.K fi.N fi.ps.length λbor g r g'=>rn.b bor k' fx.body g=!(.rt r,g')\/(rn.b bor k' fx.body g=!(.nx,g')/\r=.dat .non)):=by
  apply HN hF YJ λbG A outer s H E cP hr z' g r g' Yr hrun=>?_
  have ct':aW P k' (gJ yQ X.prog X.w X.K X.mg X.base fi.N fi.qual (aD fi.st) f bG A outer s H E).tL #[fi.N,aD fi.st,true,fi.qual]:=qk YJ ct.md cP hr;rcases hrun with h |⟨h,rfl⟩
  . show#[_,hS.b ct' rfl Yr vf.body h,.inl rfl]
  . show#[_,hS.b ct' rfl Yr vf.body h,.inr #[rfl,rfl]]
 have h1:∃h2:Gu P c es xs.tail,starEach (e::es) X.env=(false,eval e X.env)::starEach es X.env:=by
  cases hc with
  |cons h1 h2=>show#[h2,h1.star _]
 let(h2,cH):=h1;delta bM at h;split at h
 .
  ext hl;split at h
  . symm
  .
   ext gs e1;split at h
   .
    ext r0 gc e2;split at h
    .
     ext gO' e3;split at h
     . ext r' e4;symm;show Bh F hK ct.room (ct.qN _ R4) hm hF.kp hB ha (by rw[hl.1,vf.np]) e1 hl.2 (.inl (by rw[<- vf.n];show e2)) e3 e4 ku cH h2.plain
     . symm
    . symm
   .
    ext gc e2;split at h
    . ext gO' e3;symm;show Bh F hK ct.room (ct.qN _ R4) hm hF.kp hB ha (by rw[hl.1,vf.np]) e1 hl.2 (.inr #[by rw[<- vf.n];show e2,rfl]) e3 rfl ku cH h2.plain
    . symm
   . symm
 . symm
def xB(hS:jy P rn)(ct:aW P k X c)(hK:z.K=X.K){tg xA aX:Expr}{ifs:List Expr}{scope:Scope}{N':List Str}{kk:Nat}{T:Tg}{it xe:Ex}{co:Option Ex}{g g':G}{acc:List D}
  (hnd:N'.Nodup) (hT:zL #[N',scope,false,Str.empty] tg T) (nW:∀i∈T.ix,c.N.length<=i/\i<c.N.length+kk) (hi:Gv P c xA it) (hf:j3 P #[N',scope,false,Str.empty] ifs co) (he:Cm P #[N',scope,false,Str.empty] aX xe)
  (h:fQ rn z.bor k c.N.length kk T it co xe g=!(acc,g')) :
  ∃ak g1 gE,dg X z tg xA g ak g1/\(∀b:Bk,eW (X.blk N' scope b) z tg T)/\(∀i∈T.ix,g1.length<=i/\i<g1.length+kk)/\
   kQ T (g1.length+kk) (λg b g'=>∀bk:Bk,bL (X.blk N' scope bk) z ifs g b g') (λg d g'=>∀bk:Bk,aB (X.blk N' scope bk) z aX g (.dat d) g') ak (gC kk g1) gE/\gE[g1.length+kk]?=!(.own acc)/\g'=gE.take g1.length:=by
 delta fQ at h;split at h
 . symm
 .
  ext ak g1 e1;split at h
  .
   ext hl;split at h
   . symm
   .
    ext gE e2;split at h
    .
     ext acc' e3;symm;let(hl,hb):=hl;rw[<- hl]at e2 e3 nW ⊢
     apply#[ak,g1,gE,mz hS ct hK (sJ hT) hi e1,λb=>qj (ct.blk hnd b) hK hT λi hi hm=>?_,nW,uR hS (λb=>ct.blk hnd b) (λb=>hK) hf he e2,e3,rfl]
     rw[List.any_eq_false]at hb;show hb i hi (mM hm)
    . symm
  . symm
def uS(hS:jy P rn)(ct:aW P k X c)(hK:z.K=X.K){tg xA aX:Expr}{f1 ifs:List Expr}{scope:Scope}{N':List Str}{T1 T:Tg}{it xe:Ex}{c1 co:Option Ex}{last:Nat}(hnd:N'.Nodup)(hT:zL #[N',scope,false,Str.empty] tg T)(hf1:j3 P #[N',scope,false,Str.empty] f1 c1)
  (hi:Gv P #[N',scope,false,Str.empty] xA it) (hf:j3 P #[N',scope,false,Str.empty] ifs co) (he:Cm P #[N',scope,false,Str.empty] aX xe):∀{ak:List D}{g gE:G},wW rn z.bor k T1 c1 T it co xe last ak g=!gE->
  iH T1 (λg b g'=>∀bk:Bk,bL (X.blk N' scope bk) z f1 g b g') (Ep X z N' scope tg xA aX ifs T last) ak g gE
 | [],_,_,h=>by symm;show .nil
 |d::l,_,_,h=>by
  delta wW at h;split at h
  . symm
  .
   ext g1 e1;split at h
   . symm
   . ext g2 e2;show .skip e1 (λbk=>iO hS (ct.blk hnd bk) hK hf1 e2) (uS hS ct hK hnd hT hf1 hi hf he h)
   .
    ext g2 e2;split at h
    . symm
    .
     ext items2 g3 e3;split at h
     . symm
     . ext g4 e4;show .take e1 (λbk=>iO hS (ct.blk hnd bk) hK hf1 e2) #[items2,g3,λbk=>mz hS (ct.blk hnd bk) hK (sJ hT) hi e3,uR hS (λb=>ct.blk hnd b) (λb=>hK) hf he e4] (uS hS ct hK hnd hT hf1 hi hf he h)
def sL(hS:jy P rn)(ct:aW P k X c)(hK:z.K=X.K){t1 i1 tg xA aX:Expr}{f1 ifs:List Expr}{scope:Scope}{N':List Str}{kk:Nat}{T1 T:Tg}{g8 it xe:Ex}{c1 co:Option Ex}{g g':G}{acc:List D}
  (hnd:N'.Nodup) (hT1:zL #[N',scope,false,Str.empty] t1 T1) (hT:zL #[N',scope,false,Str.empty] tg T) (Kc:∀i∈T1.ix,c.N.length<=i/\i<c.N.length+kk) (nW:∀i∈T.ix,c.N.length<=i/\i<c.N.length+kk) (hi1:Gv P c i1 g8) (hf1:j3 P #[N',scope,false,Str.empty] f1 c1) (hi:Gv P #[N',scope,false,Str.empty] xA it) (hf:j3 P #[N',scope,false,Str.empty] ifs co) (he:Cm P #[N',scope,false,Str.empty] aX xe)
  (h:jV rn z.bor k c.N.length kk T1 g8 c1 T it co xe g=!(acc,g')) :
  ∃ak g1 gE,dg X z t1 i1 g ak g1/\(∀b:Bk,eW (X.blk N' scope b) z t1 T1)/\(∀b:Bk,eW (X.blk N' scope b) z tg T)/\(∀i∈T1.ix,g1.length<=i/\i<g1.length+kk)/\(∀i∈T.ix,g1.length<=i/\i<g1.length+kk)/\
   iH T1 (λg b g'=>∀bk:Bk,bL (X.blk N' scope bk) z f1 g b g') (Ep X z N' scope tg xA aX ifs T (g1.length+kk)) ak (gC kk g1) gE/\gE[g1.length+kk]?=!(.own acc)/\g'=gE.take g1.length:=by
 delta jV at h;split at h
 . symm
 .
  ext ak g1 e1;split at h
  .
   ext hl;split at h
   . symm
   .
    ext gE e2;split at h
    .
     ext acc' e3;symm;let(hl,hb):=hl;rw[<- hl]at e2 e3 nW Kc ⊢
     rw[List.any_eq_false]at hb;show#[ak,g1,gE,mz hS ct hK (sJ hT1) hi1 e1,λb=>qj (ct.blk hnd b) hK hT1 λi hi hm=>hb i (l8 _ hi) (mM hm),λb=>qj (ct.blk hnd b) hK hT λi hi hm=>hb i (gN _ hi) (mM hm),Kc,nW,uS hS ct hK hnd hT hf1 hi hf he e2,e3,rfl]
    . symm
  . symm
def iP{z':Z}(h:pR z z'):z'.bor=z.bor:=by delta Z.bor;rw[h.2]
def WR(hS:jy P rn)(ct:aW P k X c)(hK:z.K=X.K){aX:Expr}{ifs:List Expr}{scope:Scope}{N':List Str}{T:Tg}{xe:Ex}{co:Option Ex}(hnd:N'.Nodup)(hf:j3 P #[N',scope,false,Str.empty] ifs co)(he:Cm P #[N',scope,false,Str.empty] aX xe) :
  ∀{ak:List D}{ks ks': ~~~0}{g gE:G},Wh rn z.bor k T co xe ak ks g=!(ks',gE)->uG T (λg b g'=>∀(bk:Bk) z',pR z z'->bL (X.blk N' scope bk) z' ifs g b g') (λg d g'=>∀(bk:Bk) z',pR z z'->aB (X.blk N' scope bk) z' aX g (.dat d) g') ak ks g ks' gE:=by
 intro ak
 induction ak with
 |nil=>intro _ _ _ _ h;symm;show .nil
 |cons d l ih=>
  intro _ _ _ _ h;delta Wh at h;split at h
  . symm
  .
   ext g1 e1;split at h
   . symm
   . ext g2 e2;show .skip e1 (λbk z' ze=>iO hS (ct.blk hnd bk) (ze.1.trans hK) hf (by rw[iP ze];show e2)) (ih h)
   .
    ext g2 e2;split at h
    .
     ext n g3 e3;split at h
     . ext hl;show .take e1 (λbk z' ze=>iO hS (ct.blk hnd bk) (ze.1.trans hK) hf (by rw[iP ze];show e2)) (λbk z' ze=>aQ hS (ct.blk hnd bk) (ze.1.trans hK) he (by rw[iP ze];show e3)) hl (ih h)
     . symm
    . symm
def Qt(hS:jy P rn)(ct:aW P k X c)(hK:z.K=X.K){tg xA aX:Expr}{f1 ifs:List Expr}{scope:Scope}{N':List Str}{T1 T:Tg}{it xe:Ex}{c1 co:Option Ex}(hnd:N'.Nodup)(hT:zL #[N',scope,false,Str.empty] tg T)(hf1:j3 P #[N',scope,false,Str.empty] f1 c1)
  (hi:Gv P #[N',scope,false,Str.empty] xA it) (hf:j3 P #[N',scope,false,Str.empty] ifs co) (he:Cm P #[N',scope,false,Str.empty] aX xe):∀{ak:List D}{ks ks': ~~~0}{g gE:G},wX rn z.bor k T1 c1 T it co xe ak ks g=!(ks',gE)->
  jE T1 (λg b g'=>∀(bk:Bk) z',pR z z'->bL (X.blk N' scope bk) z' f1 g b g') (InS X z N' scope tg xA aX ifs T) ak ks g ks' gE:=by
 intro ak
 induction ak with
 |nil=>intro _ _ _ _ h;symm;show .nil
 |cons d l ih=>
  intro _ _ _ _ h;delta wX at h;split at h
  . symm
  .
   ext g1 e1;split at h
   . symm
   . ext g2 e2;show .skip e1 (λbk z' ze=>iO hS (ct.blk hnd bk) (ze.1.trans hK) hf1 (by rw[iP ze];show e2)) (ih h)
   .
    ext g2 e2;split at h
    . symm
    .
     ext items2 g3 e3;split at h
     . symm
     . ext k1 g4 e4;show .take e1 (λbk z' ze=>iO hS (ct.blk hnd bk) (ze.1.trans hK) hf1 (by rw[iP ze];show e2)) #[items2,g3,λbk z' ze=>mz hS (ct.blk hnd bk) (ze.1.trans hK) (sJ hT) hi (by rw[iP ze];show e3),WR hS ct hK hnd hf he e4] (ih h)
def Ft(hS:jy P rn)(ct:aW P k X c)(hK:z.K=X.K){t1 i1 tg xA aX:Expr}{f1 ifs:List Expr}{scope:Scope}{N':List Str}{kk:Nat}{T1 T:Tg}{g8 it xe:Ex}{c1 co:Option Ex}{g g':G}{ks: ~~~0}
  (hnd:N'.Nodup) (hT1:zL #[N',scope,false,Str.empty] t1 T1) (hT:zL #[N',scope,false,Str.empty] tg T) (Kc:∀i∈T1.ix,c.N.length<=i/\i<c.N.length+kk) (nW:∀i∈T.ix,c.N.length<=i/\i<c.N.length+kk) (hi1:Gv P c i1 g8) (hf1:j3 P #[N',scope,false,Str.empty] f1 c1) (hi:Gv P #[N',scope,false,Str.empty] xA it) (hf:j3 P #[N',scope,false,Str.empty] ifs co) (he:Cm P #[N',scope,false,Str.empty] aX xe)
  (h:pU rn z.bor k c.N.length kk T1 g8 c1 T it co xe g=!(ks,g')) :
  ∃ak g1 gE,dg X z t1 i1 g ak g1/\(∀(b:Bk) z',pR z z'->eW (X.blk N' scope b) z' t1 T1)/\(∀(b:Bk) z',pR z z'->eW (X.blk N' scope b) z' tg T)/\(∀i∈T1.ix,g1.length<=i/\i<g1.length+kk)/\(∀i∈T.ix,g1.length<=i/\i<g1.length+kk)/\
   jE T1 (λg b g'=>∀(bk:Bk) z',pR z z'->bL (X.blk N' scope bk) z' f1 g b g') (InS X z N' scope tg xA aX ifs T) ak [] (gD kk g1) ks gE/\g'=gE.take g1.length:=by
 delta pU at h;split at h
 . symm
 .
  ext ak g1 e1;split at h
  .
   ext hl;split at h
   . symm
   .
    ext ks' gE e2;symm;let(hl,hb):=hl;rw[<- hl]at nW Kc ⊢
    rw[List.any_eq_false]at hb;show#[ak,g1,gE,mz hS ct hK (sJ hT1) hi1 e1,λb z' ze=>qj (ct.blk hnd b) (ze.1.trans hK) hT1 λi hi hm=>hb i (l8 _ hi) (mM (by rw[<- iP ze];show hm)),λb z' ze=>qj (ct.blk hnd b) (ze.1.trans hK) hT λi hi hm=>hb i (gN _ hi) (mM (by rw[<- iP ze];show hm)),Kc,nW,Qt hS ct hK hnd hT hf1 hi hf he e2,rfl]
  . symm
end
def Qu{P:Pg}{c:Ct}{er y ke en Qg:Str}{Eo np Yq py cA qK kp wC wB cZ nF iY:Pos}{j:Nat}{rest:List Stmt}{bd:List Sm}(h:xu P c (.Assign [.Name er Eo] (.Constant .none j np) Yq::Jk y ke en Qg py cA qK kp wC wB cZ nF iY::rest) bd):xu P c rest (bd.drop 2):=by
 have nog:∀{s:Stmt}{ss:List Stmt}{x:Sm}{r:List Stmt},YH P (Cm P c) (L0 P c) c ss x->ss++r=s::rest->(∀a b p,s≠.Assign a b p)->False:=λg e n=>by
  cases g <;> (injection e with e1 e2;show n _ _ _ e1.symm)
 generalize hq:(Stmt.Assign [.Name er Eo] (.Constant .none j np) Yq::Jk y ke en Qg py cA qK kp wC wB cZ nF iY::rest)=jJ at h;cases h with
 |nil=>cases hq
 |grp g _=>cases g <;> (injection hq with e1 e2;injection e1 with e3 e4;cases e4)
 |cons _ h1=>
  injection hq with e1 e2;generalize hq2:(Jk y ke en Qg py cA qK kp wC wB cZ nF iY::rest)=aI at e2;subst e2;cases h1 with
  |nil=>cases hq2
  |grp g _=>show (nog g hq2.symm (λa b p e=>nomatch e)).elim
  |cons _ h2=>injection hq2 with e1 e2;subst e2;show h2
section
variable{X:Cx}{c:Ct}
def Kd(ct:aW P k X c)(h:Fp P c es ns):o7 X es ns/\∀n∈ns,n∈uK:=by
 induction h with
 |nil=>show#[.nil,λn hn=>nomatch hn]
 |@cons T n pos es ns h1 h2 h3 h4 _ ih=>
  apply#[.cons ?_ ih.1,λm hm=>(dS.mp hm).elim (λe=>e▸h4) (ih.2 m)]
  subst h3;apply#[ct.qN _ h2,ct.md.bn _ h1,?_,?_,?_] <;> (delta uK at h4;simp only[dS,oI,DC]at h4;rcases h4 with rfl |rfl |rfl |rfl |rfl |rfl <;> first |rfl |decide)
def WT(h:aB X z e g r g1)(hp:pk r g1=!d)(hs:starEach [e] X.env=(false,eval e X.env)::starEach [] X.env):cT X z [e] g [r] g1:=by
 cases r with
 |dat d=>show dF h d9 hs
 |new l=>cases hp
 |var i=>show Ho h d9 hs
def Cm.attr(h:Cm P c e x)(m:Str):attributeBase e m env (eval e env)=eval e env:=by
 let(n,t,rfl,hk):=h.LQ;cases x
 case val d=>rw[show Fq P (dZ P n) c (.val d) t=uQ d t from rfl];delta uQ;split <;> rfl
 case peek xe=>rcases p9 (ao hk).1 with ⟨x,p,a,es,pos,e⟩ |⟨a,b,s,p,e⟩ <;> (rw[show Fq P (dZ P n) c (.peek xe) t=dZ P n c xe t from rfl,e];rfl)
 case call i xs=>cases xs with |nil=>cases (ao (ao (ao hk).2).2).2 |cons x xs=>rfl
 case blt b xs=>cases xs with |nil=>cases (ao (ao hk).2).2 |cons x xs=>rfl
 all_goals first |rfl |show Bool.noConfusion (show false=true from hk)
def Qv(hS:jy P rn)(hX:rz P rn){fns:List Fx}(hF:jG P fns){k':Nat}{qqq:Cx}(md:uJ P qqq.K qqq.mg)(hr:cB (k'+2) qqq.A)(hcm:qqq.calm=true)(hKY:z.K=qqq.K)(Dm:c.N.Nodup)(hN:X.N=c.N){f ir:Nat}{fi:Fi}{l:Lt}{xb:Ex}{g Lx g3:G}{r0 r':R}{fx:Fx}{ci:Nat}{C:Addr}{n:Str}
  (h1:P.fn[f]?=!fi) (h5:P.lam=true) (h6:Qh fi ir P.kt=true) (h8:J3 l.params l.scope=true) (h9:Cm P #[c.N,l.scope,false,Str.empty] l.body xb)
  (e1:fns[f]?=!fx) (e2:rn.x [] k' xb (g.map noOwn)=!(ci,Lx)) (e3:P.sH[ci]?=!C) (e4:rn.b [] k' (fx.body.drop 2) ((List.replicate fx.n .no).set ir (.dat (.nj C)))=!(.rt r0,g3)) (e5:dG [] g3 r0=!r') {fa:Addr}{fd:FuncData} (F:MK qqq.K fi.name fi.qual fi.st fa fd) (Sc:bZ fi.N fi.ps (aD fi.st)) (bd:L2.Binds qqq.K fd fi.ps []):Jm qqq X z g (qT n) l r' fa:=by
 have vf:=hF f fi fx h1 e1;let(xC,c1,c2,qC,kC):=md.sH ci C e3;let(dk,D,mD,qD,hup):=md.kt h5;have L:=BX h8;delta Qh at h6;split at h6
 .
  ext er y ke en Qg YC hv;let(Eo,j,np,Yq,py,cA,qK,kp,wC,wB,cZ,nF,iY,rest,cH):=Qf hv;let(p1,p2):=ao h6;let((q1,q2,q3,q4),(q5,q6,q7),(q8,q9),q10,q11,q12):=dec p1;subst q1 q2 q3;let(p3,p4):=ao p2;have pe:=bN (ao p3).1;have py':=bN (ao p3).2;have vy:kj (aD fi.st) y:=by
   have:=(ao p4).1;delta qZ at this;split at this
   . ext e;show .inl e
   . ext e;show .inr (.inl e)
   . ext e;show .inr (.inr e)
   . cases this
  have lr:Loc (aD fi.st) Qg:=by
   have:=(ao p4).2;delta fF at this;split at this
   . ext e;show .inl e
   . ext e;show .inr e
   . cases this
  have hb:=vf.body;rw[cH]at hb;have hrs:=Qu hb;intro aj σ1 σ0 H1 s1 g1 As A0 M p c' cl pm ki us Q E I1 S1 hp1 hc1 Cl0 sl0 rv hQ;apply VP (Lx:=Lx) hKY hr hcm F cH (q4▸Sc) (q4▸bd)
   #[Sc.nd,q5,mD,dk,qC,qD,hup C (i6 e3),kC,q6,q7,pe.1,pe.2,q8,lr,q9,vy,py'.1,py'.2,q10,q11,q12] L (λXf s H xe zl a1 a2 a3 a4 a5 hr hc hp hzK hzb=>?_) (λbG A outer s H E cP hr zf hzK hzb=>?_) e5 I1 S1 hp1 hc1 Cl0 sl0.noOwn (λi l e=>En e) rv hQ
  .
   have hci:jF P (wz Xf X.N (qT n) l.scope p (.ref c') cl s H xe).mg ci C:=#[xC,c1,a4▸c2];apply hX.x (c:=#[c.N,l.scope,false,Str.empty]) #[#[hN,Dm,λx e=>e,λx e=>e,λx e=>e,(λe=>nomatch e),λx e=>?_,(λe=>nomatch e),rfl,rfl,?_,hr.deeper _,λe=>absurd (show Str.empty∈jz from e) ⋯],rfl,hp] (hzK.trans a3.symm) hci h9 (by rw[hzb];show e2)
   .
    rcases e with e |e
    . cases e
    . show absurd rfl (L.nl _ (L2.mem_of_lookup e))
   . exact uJ P Xf.K Xf.mg;rw[a3,a4];show md
  .
   have e4':rn.b zf.bor k' (fx.body.drop 2) ((List.replicate fi.N.length .no).set ir (.dat (.nj C)))=!(.rt r0,g3):=by rw[hzb,<- vf.n];show e4
   show hS.b (qk Sc md cP hr) rfl hzK hrs e4'
 . cases h6
def mk_ok(ct:aW P k X c)(h4:c.q∈jz)(h5:P.lam=true):∃q cc,VM X (qT c.q) q cc:=by let(hqn,cc,q,hcode,hC,hq,hbi,hqm,hu):=ct.lam h4 h5;show#[q,cc,hq,hu,hcode,hC,hqn,hbi,hqm]
def Qw(hS:jy P rn)(hX:rz P rn){fns:List Fx}(hF:jG P fns){k':Nat}(ct:aW P (k'+2) X c)(hK:z.K=X.K){x:Str}{f ir:Nat}{fi:Fi}{params:Arguments}{body:Expr}{scope:Scope}{xb:Ex}{fp lpos pos:Pos}{g Lx g3:G}{r0 r':R}{fx:Fx}{ci:Nat}{C:Addr}
  (h1:P.fn[f]?=!fi) (h2:fi.name=x) (h3:c.sc.names.lookup x=some .globalImplicit) (h4:c.q∈jz) (h5:P.lam=true) (h6:Qh fi ir P.kt=true) (h7:uL c.sc scope=true) (h8:J3 params scope=true) (h9:Cm P #[c.N,scope,false,Str.empty] body xb)
  (e1:fns[f]?=!fx) (e2:rn.x [] k' xb (g.map noOwn)=!(ci,Lx)) (e3:P.sH[ci]?=!C) (e4:rn.b [] k' (fx.body.drop 2) ((List.replicate fx.n .no).set ir (.dat (.nj C)))=!(.rt r0,g3)) (e5:dG [] g3 r0=!r') :
  aB X z (.Call (.Name x fp) [.Lambda params body scope lpos] [] pos) g r' g:=by
 let(fa,fd,m1,F,Sc,bd,db):=ct.md.fn f fi h1;let(q,cc,mk):=mk_ok ct h4 h5;subst h2;show Oz (l:=#[params,body,scope,lpos]) hK F (ct.qN _ h3) m1 db mk (gQ ct h7) (BX h8) (Qv hS hX hF ct.md ct.room ct.calm hK ct.nd ct.N h1 h5 h6 h8 h9 e1 e2 e3 e4 e5 F Sc bd)
abbrev YK(X:Cx)(z:Z)(e:Expr)(g:G)(o:Option (R×G)):Prop:=∀r g',o=!(r,g')->aB X z e g r g'
def YK.none:YK X z e g none:=λ_ _ h=>nomatch h
def YK.some{e:Expr}{g g':G}{r:R}(h:aB X z e g r g'):YK X z e g (!(r,g')):=λ_ _ q=>by cases q;show h
def xD(h:vj P (m+1) c (.comp n' kk T it co xe) t=true):n'=c.N.length/\uL c.sc (eE t)=true/\jX c.N (iN c.N (eE t)) (eE t) kk=true/\(iN c.N (eE t)).Nodup/\zL (eK c t) (p7 (eK c t) T (kid t 1)) T/\(∀i∈T.ix,c.N.length<=i/\i<c.N.length+kk)/\Gv P c (rm (dZ P m c) it (kid t 2)) it/\j3 P (eK c t) (uO (dZ P m (eK c t)) (kid t 3) co) co/\Cm P (eK c t) (dZ P m (eK c t) xe (kid t 0)) xe:=by let(h1,a1):=ao h;let(h2,a2):=ao a1;let(h3,a3):=ao a2;let(h4,a4):=ao a3;let(h5,a5):=ao a4;show#[dec h1,(ao h2).1,(ao (ao h2).2).1,jg (ao (ao h2).2).2,p8 h3,zV h4,uP .mk h5,zT .mk (ao a5).1,.mk (ao a5).2]
def mC(h:vj P (m+1) c (.cS n' kk T1 g8 c1 T it co xe) t=true):n'=c.N.length/\uL c.sc (eE t)=true/\jX c.N (iN c.N (eE t)) (eE t) kk=true/\(iN c.N (eE t)).Nodup/\zL (eK c t) (p7 (eK c t) T1 (kid t 1)) T1/\zL (eK c t) (p7 (eK c t) T (kid t (3+o1 c1))) T/\(∀i∈T1.ix,c.N.length<=i/\i<c.N.length+kk)/\(∀i∈T.ix,c.N.length<=i/\i<c.N.length+kk)/\Gv P c (rm (dZ P m c) g8 (kid t 2)) g8/\j3 P (eK c t) (uO (dZ P m (eK c t)) (kid t 3) c1) c1/\Gv P (eK c t) (rm (dZ P m (eK c t)) it (kid t (4+o1 c1))) it/\j3 P (eK c t) (uO (dZ P m (eK c t)) (kid t (5+o1 c1)) co) co/\Cm P (eK c t) (dZ P m (eK c t) xe (kid t 0)) xe:=by let(h1,a1):=ao h;let(h2,a2):=ao a1;let(h3,a3):=ao a2;let(h4,a4):=ao a3;let(h5,a5):=ao a4;let(h6,h7):=ao a5;show#[dec h1,(ao h2).1,(ao (ao h2).2).1,jg (ao (ao h2).2).2,p8 (ao h3).1,p8 (ao h3).2,zV (ao h4).1,zV (ao h4).2,uP .mk (ao h5).1,zT .mk (ao h5).2,uP .mk (ao h6).1,zT .mk (ao h6).2,.mk h7]
def WW(ct:aW P k X c)(hK:z.K=X.K)(h:okV P c d t=true):aB X z (uQ d t) g (.dat d) g:=by
 delta okV at h;delta uQ;cases e:zO t with
 |some y=>rw[e]at h;let(hd,v,u,q1,q2,q3):=ct.md.ct _ _ (Wy (ao h).2);show M8 (ct.qN _ (dec (ao h).1)) q1 q2 (hK▸q3) hd
 |none=>
  rw[e]at h;cases d with
  |int i=>show Uj
  |bl i=>show ZS
  |str i=>show Ul
  |non=>show Uk
  |_=>show nt h
def Qx(hS:jy P rn)(hX:rz P rn){fns:List Fx}(hF:jG P fns)(ct:aW P k X c)(hK:z.K=X.K){e:Expr}{x:Ex}{g:G}(hc:Cm P c e x):YK X z e g (aU rn z.bor k fns x g):=by
 let(n,t,rfl,hk):=hc.LQ;cases x
 case val d=>show .some (WW ct hK hk)
 case slot i=>
  have h1:=(jY hk).1;have h2:=(jY hk).2.1;have h3:=(jY hk).2.2;let(hd,cP):=bN h3;delta aU;dsimp only;split
  . ext e1;show .some (Um (by rw[ct.N];show h1) (ct.vis h2) hd cP e1)
  . ext e1;show .some (M7 (by rw[ct.N];show h1) (ct.vis h2) hd cP e1)
  . show .none
 case bin op a b=>
  have h1:=(Cm.mk (ao hk).1);have h2:=(Cm.mk (ao hk).2);delta aU;dsimp only;split
  .
   ext r1 r2 g2 e1;let(s1,s2,g1,q1,q2,q3):=jh e1;cases q3
   repeat' split
   all_goals try show .none
   ext d1 d2 p1 p2 _ r0 e3;show .some (Uo (bA (hS.e ct hK h1 q1)) (bA (hS.e ct hK h2 q2)) p1 p2 (Wi hK e3))
  . show .none
 case cmp op a b=>
  have h1:=(Cm.mk (ao hk).1);have h2:=(Cm.mk (ao (ao hk).2).1);have h3:=mq (ao (ao hk).2).2;delta aU;dsimp only;split
  .
   ext r1 r2 g2 e1;let(s1,s2,g1,q1,q2,q3):=jh e1;cases q3
   repeat' split
   all_goals try show .none
   ext d1 d2 p1 p2 _ r0 e3;show .some (Up (bA (hS.e ct hK h1 q1)) (bA (hS.e ct hK h2 q2)) p1 p2 (pX hK ct.room e3) h3)
  . show .none
 case chain a ops xs=>
  let(k1,k2):=ao hk;let(k3,k4):=ao k2;let(k5,k6):=ao k4;let(Vm,Vn,ops,rfl):=two (dec (ao k6).1);let(x1,x2,xs,rfl):=two (dec (ao k6).2);have h1:=Cm.mk k1;have h2:=dH (R:=Cm P c) .mk k3;have h3:=mq k5;delta aU;dsimp only
  repeat' split
  all_goals try show .none
  ext d1 g1 e1 _ b g2 e2;show .some (HW (aQ hS ct hK h1 e1) (J8 hS ct hK h2 e2) h3)
 case neg a=>
  have h1:=Cm.mk hk;delta aU;dsimp only;split
  . ext i g1 e1;show .some (ZV (aQ hS ct hK h1 e1) rfl U5)
  . show .none
 case not a=>
  have h1:=Cm.mk hk;delta aU;dsimp only;split
  . ext b g1 e1;show .some (Ux (hS.e ct hK h1 e1))
  . show .none
 case and xs=>have h1:=dH (R:=Cm P c) .mk hk;show λ_ _ h=>Qm hS ct hK h1 h
 case or xs=>have h1:=dH (R:=Cm P c) .mk hk;show λ_ _ h=>WN hS ct hK h1 h
 case ite a b d=>
  have h1:=(Cm.mk (ao hk).1);have h2:=(Cm.mk (ao (ao hk).2).1);have h3:=(Cm.mk (ao (ao hk).2).2);delta aU;dsimp only;split
  . ext g1 e1;show λ_ _ h=>Uy (hS.t ct hK h1 e1) (hS.e ct hK h2 h)
  . ext g1 e1;show λ_ _ h=>Uz (hS.t ct hK h1 e1) (hS.e ct hK h3 h)
  . show .none
 case tup xs=>
  have h1:=dH (R:=Cm P c) .mk hk;delta aU;dsimp only
  repeat' split
  all_goals try show .none
  ext ds g1 e1 hl;show .some (UG (qh hS ct hK h1 e1) (qg _) hl)
 case lst xs=>
  have h1:=dH (R:=Cm P c) .mk hk;delta aU;dsimp only
  repeat' split
  all_goals try show .none
  ext ds g1 e1 hl;show .some (UJ (qh hS ct hK h1 e1) (qg _) hl)
 case ix a b=>
  have h1:=(Cm.mk (ao hk).1);have h2:=(Cm.mk (ao hk).2);delta aU;dsimp only;split
  .
   ext r1 r2 g2 e1;let(s1,s2,g1,q1,q2,q3):=jh e1;cases q3
   repeat' split
   all_goals try show .none
   ext d1 d2 p1 p2 _ r0 e3;show .some (ZT (bA (hS.e ct hK h1 q1)) (bA (hS.e ct hK h2 q2)) p1 p2 (Wj hK (by have:=ct.room.units;lia) e3) h2.Ql)
  . show .none
 case slice a lo hi=>
  have h1:=(Cm.mk (ao hk).1);have h2:=J5 (R:=Cm P c) .mk (ao (ao hk).2).1;have h3:=J5 (R:=Cm P c) .mk (ao (ao hk).2).2;delta aU;dsimp only;split
  .
   ext r0 g1 e1;have q:=bA (hS.e ct hK h1 e1);split
   .
    ext i g2 e2;have q2:=xx hS ct hK h2 e2;split
    .
     ext j g3 e3;have q3:=xx hS ct hK h3 e3;split
     . ext l e4;rw[e4]at q;show .some (DQ hK q q2 q3)
     . ext l e4;rw[e4]at q;show .some (DP hK q q2 q3)
     .
      split
      . ext e5;show .some (DN (d:=.non) hK q q2 q3 e5)
      . show .none
    . show .none
   . show .none
  . show .none
 case call i xs=>
  let(k1,k2):=ao hk;let(k3,k4):=ao k2;let(fi,h1,h2):=uN k1;cases xs with
  |nil=>cases (ao k4).2
  |cons x xs=>
  have h3:=dec k3;have h4:=dH (R:=Cm P c) .mk (ao k4).1;exact YK X z (.Call (.Name (xr P i) (kid t 0).pos) (jZ (dZ P n c) t 1 (x::xs)) [] t.pos) g _;rw[<- h2]at h3 ⊢
  delta aU;dsimp only
  repeat' split
  all_goals try show .none
  ext fx k' ct' vf _ rs g1 e1;show λ_ _ h=>Ka hS ct hK h1 (hF _ _ _ h1 vf) h3 h4 (qi hS ct hK h4 e1) h
 case blt b xs=>
  cases xs with
  |nil=>cases (ao (ao hk).2).2
  |cons x xs=>
  have h2:=(aP (ao hk).1).1;have h3:=(aP (ao hk).1).2;have h4:=dH (R:=Cm P c) .mk (ao (ao hk).2).1;delta aU;dsimp only
  repeat' split
  all_goals try show .none
  ext rs g1 e1 _ ds e2 _ r0 e3;have ha:=qi hS ct hK h4 e1;have cP:=Wm hK ct.calm (by have:=ct.room.units;lia) e3
  have cH:=(Cm.mk (ao (ao (ao hk).2).1).1).star (env:=X.env) (jZ (dZ P n c) t 2 xs);have ig:=(dH .mk (ao (ao (ao hk).2).1).2).plain (env:=X.env) (pos:=t.pos);cases b <;> first |show .some (Hq ha e2 cP (ct.qN _ h3) (ct.md.bn _ h2) rfl ⋯ ⋯ cH ig) |show .some (Dq ha e2 cP (ct.qN _ h3) (ct.md.bn _ h2) rfl ⋯ ⋯ cH ig)
 case zH a n'=>
  have h1:=Cm.mk (ao (ao hk).2).1;have h2:=(aP (ao hk).1).1;have h3:=(aP (ao hk).1).2;have h4:=(aP (ao (ao (ao hk).2).2).2).1;have h5:=(aP (ao (ao (ao hk).2).2).2).2;have h7:=A7.mp (ao (ao (ao hk).2).2).1;delta aU;dsimp only
  repeat' split
  all_goals try show .none
  ext r0 g1 e1 _ d e2;let(t1,_):=Kd ct (Fp.cons (pos:=(kid t 2).pos) h4 h5 rfl h7 .nil);cases t1 with
  |cons t1 _=>show .some (Va hK (bA (hS.e ct hK h1 e1)) e2 (λ_ _ _ p=>xg p h7) (ct.qN _ h3) (ct.md.bn _ h2) rfl t1.gl t1.mg t1.bt t1.nn t1.db (h1.star _))
 case JR a ns=>
  have h1:=Cm.mk (ao (ao hk).2).1;have h2:=(aP (ao hk).1).1;have h3:=(aP (ao hk).1).2;have h4:=dec (ao (ao (ao hk).2).2).1;have h5:=Wv (t:=kid t 2) (i:=0) (ao (ao (ao hk).2).2).2;delta aU;dsimp only
  repeat' split
  all_goals try show .none
  ext r0 g1 e1 _ d e2;let(t1,t2):=Kd ct h5;show .some (N3 hK (bA (hS.e ct hK h1 e1)) e2 t1 ⋯ (λ_ _ _ p=>sI p t2) (ct.qN _ h3) (ct.md.bn _ h2) rfl (h1.star _))
 case emp=>show .some (VD)
 case peek xe=>
  have h1:=Cm.mk (ao hk).2;delta aU;dsimp only;split
  .
   ext hb;have hb:=List.isEmpty_iff.mp hb;split
   .
    ext d g1 e1;split
    . ext hf;show .some (OJ hb hf (hS.e ct hK h1 (by rw[hb];show e1)))
    . show .none
   .
    ext l g1 e1;split
    . ext hf;show .some (Jr hb hf (hS.e ct hK h1 (by rw[hb];show e1)))
    . show .none
   . show .none
  . show .none
 case stk=>show .none
 case sF a l=>
  have h1:=Cm.mk (ao (ao hk).2).1;have h2:=(aP (ao hk).1).1;have h3:=(aP (ao hk).1).2;have h4:=dec (ao (ao (ao hk).2).2).2;have h5:=dec (ao (ao (ao hk).2).2).1;delta aU;dsimp only;let(db,cv,hcv,hn,hC):=ct.md.ups _ _ h4;have cls:∃w:V,(∀u,RelV w u->u=cv)/\PE X (.Name ((zO (kid t 2)).getD Str.empty) (kid t 2).pos) (tC w):=by
   rcases hcv with ⟨m1,D,rfl⟩ |⟨m1,m2,m3,n,rfl⟩
   . show#[.ref D,λu r=>r,Am (ct.qN _ h5) m1 rfl db]
   . show#[.ty n,λu r=>r,tK (ct.qN _ h5) (ct.md.bn _ m1) m3 rfl m2 db]
  let(w,hw,pw):=cls;split
  .
   ext r0 g1 e1;split
   .
    ext C e2;split
    . ext b e3;show .some (Jp hK (bA (hS.e ct hK h1 e1)) e2 (λ_ _ _ _=>hC C b e3) (ct.qN _ h3) (ct.md.bn _ h2) rfl hw pw (h1.star _))
    . show .none
   . ext e2;show .some (Jp hK (bA (hS.e ct hK h1 e1)) e2 (λ_ _ _ _=>hn) (ct.qN _ h3) (ct.md.bn _ h2) rfl hw pw (h1.star _))
   . show .none
  . show .none
 case wU i ir ca xb=>
  let(g1,k1):=ao hk;let(g2,k2):=ao k1;let(g3,k3):=ao k2;let(h6,k5):=ao k3;let(fi,h1,h2):=uN g1;delta refK at h6;rw[h1]at h6;have h3:=(Bool.or_eq_true_iff.mp g2).imp (λh=>(#[dec (ao h).1,dec (ao h).2]:_/\_)) J4
  have h4:=dec (ao g3).1;have h5:=(ao g3).2;have h7:=(ao k5).1;have h8:=(ao (ao k5).2).1;have h9:=Cm.mk (ao (ao k5).2).2;delta aU;dsimp only
  repeat' split
  all_goals try show .none
  ext fx k' e1 _ ci Lx e2 _ C e3 _ r0 g3 e4 _ r' e5;rcases h3 with ⟨rfl,h3⟩ |rfl
  . show .some (Qw hS hX hF ct hK h1 h2 h3 h4 h5 h6 h7 h8 h9 e1 e2 e3 e4 e5)
  . show .some (nomatch e3)
 case comp n' kk T it co xe=>
  let(rfl,h1,h2,h3,h4,h5,h6,h7,h8):=xD hk;delta aU;dsimp only;split
  . ext acc g1 e1;let(ak,g1,gE,w1,w2,w3,w4,w5,rfl):=xB hS ct hK h3 h4 h5 h6 h7 h8 e1;show .some (NX (gQ ct h1) ct.calm (by rw[ct.N];show eZ h2) w1 w2 w3 w4 w5 λy=>h6.folded y)
  . show .none
 case sE n' kk T1 g8 c1 T it co xe=>
  have b2:=(aP (ao hk).1).1;have b3:=(aP (ao hk).1).2;let(rfl,h1,h2,h3,h4,h4',h5,h5',h6,h7,h8,h9,h10):=mC (t:=kid t 1) (ao hk).2;delta aU;dsimp only;split
  . ext ks g1 e1;let(ak,g1,gE,w1,w2,w3,w4,w5,w6,rfl):=Ft hS ct hK h3 h4 h4' h5 h5' h6 h7 h8 h9 h10 e1;show .some (JQ ct.calm (Py (gQ ct h1) ct.calm (by rw[ct.N];show eZ h2) w1 w2 w3 w4 w5 w6 (λy=>h6.folded y) λb y=>h8.folded y) (ct.qN _ b3) (ct.md.bn _ b2) rfl)
  . show .none
 case cS n' kk T1 g8 c1 T it co xe=>
  let(rfl,h1,h2,h3,h4,h4',h5,h5',h6,h7,h8,h9,h10):=mC hk;delta aU;dsimp only;split
  . ext acc g1 e1;let(ak,g1,gE,w1,w2,w3,w4,w5,w6,w7,rfl):=sL hS ct hK h3 h4 h4' h5 h5' h6 h7 h8 h9 h10 e1;show .some (Jx (gQ ct h1) ct.calm (by rw[ct.N];show eZ h2) w1 w2 w3 w4 w5 w6 w7 (λy=>h6.folded y) λb y=>h8.folded y)
  . show .none
 case wR a=>
  have h1:=Cm.mk (ao hk).2;have h2:=(aP (ao (ao hk).1).1).1;have h3:=(aP (ao (ao hk).1).1).2;have h4:=(aP (ao (ao hk).1).2).1;have h5:=(aP (ao (ao hk).1).2).2;delta aU;dsimp only
  repeat' split
  all_goals try show .none
  ext j g1 e1 hj;let(hj,hl):=hj;simp only[LC,fN,l6]at hj;have q:=Ic (lp:=(kid t 0).pos) (pos:=t.pos) (rg_1 (p:=(kid (kid t 1) 0).pos) (rp:=(kid t 1).pos) (dF (aQ hS ct hK h1 e1) d9 (h1.star _)) (ct.qN _ h3) (ct.md.bn _ h2) (h1.star _)) ct.calm (ct.qN _ h5) (ct.md.bn _ h4) rfl #[by lia,by lia,hj.1,hj.2] (by rw[Int.sub_zero];show hl)
  rw[Int.sub_zero]at q;show .some (q)
 case meth m o x=>
  have h1:=Cm.mk (ao (ao hk).2).1;have h2:=Cm.mk (ao (ao hk).2).2;have h4:=(ao hk).1;delta aU;dsimp only
  repeat' split
  all_goals try show .none
  ext r0 g1 e1 _ d e2 _ l e3 _ r1 g2 e4 _ _ d0 d1 p0 p1 _ x e5;let(q1,q2,q3):=PK e3 (PL e2 p0);show .some (Ol hK q1 q2 q3 (bA (hS.e ct hK h1 e1)) e2 e3 (WT (bA (hS.e ct hK h2 e4)) p1 (h2.star _)) p0 p1 (Wn hK ct.room e5) (h1.attr _) h4 (h2.star _))
 case append i x=>
  let(h5,hk):=ao hk;let(h1,h2,h3):=jY (ao hk).1;have h4:=Cm.mk (ao hk).2;let(hd,cP):=bN h3;delta aU;dsimp only
  repeat' split
  all_goals try show .none
  ext l0 e0 _ d g1 e1 _ l e2 hl;show .some (Dy (by rw[ct.N];show h1) (ct.vis h2) hd cP e0 (dF (aQ hS ct hK h4 e1) d9 (h4.star _)) e2 hl rfl h5 (h4.star _))
 case extend i x=>
  let(h5,hk):=ao hk;let(h1,h2,h3):=jY (ao hk).1;have h4:=Cm.mk (ao hk).2;let(hd,cP):=bN h3;delta aU;dsimp only
  repeat' split
  all_goals try show .none
  ext l0 e0 _ d g1 e1 _ l e2 hl;show .some (DS (by rw[ct.N];show h1) (ct.vis h2) hd cP e0 (dF (aQ hS ct hK h4 e1) d9 (h4.star _)) e2 hl rfl h5 (h4.star _))
 case sG i x=>
  let(h5,hk):=ao hk;let(h1,h2,h3):=jY (ao hk).1;have h4:=Cm.mk (ao hk).2;let(hd,cP):=bN h3;delta aU;dsimp only
  repeat' split
  all_goals try show .none
  ext l0 e0 _ j g1 e1 _ l e2 _ n e3 _ d e4 hl;show .some (HD (by rw[ct.N];show h1) (ct.vis h2) hd cP e0 (dF (aQ hS ct hK h4 e1) d9 (h4.star _)) e2 e3 e4 hl rfl h5 (h4.star _))
 all_goals show Bool.noConfusion (show false=true from hk)
def Ke(hS:jy P rn)(hX:rz P rn)(hF:jG P fns)(ct:aW P k X c)(hK:z.K=X.K)(hc:Cm P c e x)(h:aU rn z.bor k fns x g=!(r,g')):aB X z e g r g':=Qx hS hX hF ct hK hc r g' h
end
section
def Kf(hS:jy P rn)(ct:aW P k X c)(hK:z.K=X.K)(hc:Cm P c e x)(h:stepT rn z.bor k x g=!(b,g')):cJ X z e g b g':=by
 have plain:(match rn.e z.bor k x g with |!(r,g1)=>(match pk (norm r) g1 with |some d=>(match Ia d with |some c=>!(c,g1) |none=>none) |none=>none) |none=>none)=!(b,g')->
   (∀whole,isTrue e X.env whole=(do let v <- whole;standAt e.pos;holding [v] (truthy v)))->cJ X z e g b g':=by
  intro h he
  repeat' split at h
  all_goals try contradiction
  ext r g1 e1 _ d e2 _ b' e3;symm;show Ib hK (bA (hS.e ct hK hc e1)) e2 e3 he
 let(n,t,rfl,hk):=hc.LQ;cases x
 case cmp op a b=>
  have h1:=Cm.mk (ao hk).1;have h2:=Cm.mk (ao (ao hk).2).1;have h3:=mq (ao (ao hk).2).2;delta stepT at h;dsimp only at h;split at h
  .
   ext r1 r2 g2 e1;let(s1,s2,g1,q1,q2,q3):=jh e1;cases q3
   repeat' split at h
   all_goals try contradiction
   ext d1 d2 p1 p2 _ r0 e3;symm;show Uq (bA (hS.e ct hK h1 q1)) (bA (hS.e ct hK h2 q2)) p1 p2 (pX hK ct.room e3) h3
  . symm
 case chain a ops xs=>
  let(k1,k2):=ao hk;let(k3,k4):=ao k2;let(k5,k6):=ao k4;let(Vm,Vn,ops,rfl):=two (dec (ao k6).1);let(x1,x2,xs,rfl):=two (dec (ao k6).2);have h1:=Cm.mk k1;have h2:=dH (R:=Cm P c) .mk k3;have h3:=mq k5;delta stepT at h;dsimp only at h;split at h
  . ext d1 g1 e1;show HX (aQ hS ct hK h1 e1) (J8 hS ct hK h2 h) h3
  . symm
 case not a=>
  have h1:=Cm.mk hk;delta stepT at h;dsimp only at h;split at h
  . ext b' g1 e1;symm;show Ur (hS.t ct hK h1 e1)
  . symm
 case and xs=>show (J9 hS ct hK (dH .mk hk) h).tr
 case or xs=>show (Qo hS ct hK (dH .mk hk) h).tr
 case ite a b d=>symm
 case val d=>show plain h (by rw[show Fq P (dZ P n) c (.val d) t=uQ d t from rfl];delta uQ;split <;> show λ_=>rfl)
 case peek xe=>show plain h (by rcases p9 (ao hk).1 with ⟨x,p,a,es,pos,e⟩ |⟨a,b,s,p,e⟩ <;> (rw[show Fq P (dZ P n) c (.peek xe) t=dZ P n c xe t from rfl,e];show λ_=>rfl))
 all_goals first |show plain h λ_=>rfl |show Bool.noConfusion (show false=true from hk)
def uT(ct:aW P k X c):PassesOwn (~~~2) X.A X.env X.xe:=by rw[ct.xe];show PassesOwn.never
def ql(hb:∀{g g':G}{f:Fl},b g=!(f,g')->eV X z body g f g'):∀{ak:List D}{g g':G}{f:Fl},fE T b ak g=!(f,g')->fU X z body T ak g f g'
 | [],_,_,_,h=>by symm;show .nil
 |d::l,_,_,_,h=>by
  delta fE at h;split at h
  . symm
  .
   ext g0 e0;split at h
   . symm
   . ext g1 e1;show .next e0 (hb e1) (ql hb h)
   . ext g1 e1;show .cont e0 (hb e1) (ql hb h)
   . ext g1 e1;symm;show .brk e0 (hb e1)
   . ext g1 e1;symm;show .ret e0 (hb e1)
def zW(ht:∀{g g':G}{v:Bool},t g=!(v,g')->cJ X z ce g v g')(hb:∀{g g':G}{f:Fl},b g=!(f,g')->eV X z body g f g') :
  ∀{n:Nat}{g g':G}{f:Fl},LK t b n g=!(f,g')->nu X z ce body n g f g'
 | 0,_,_,_,h=>by symm
 |n+1,_,_,_,h=>by
  delta LK at h;split at h
  . symm
  . ext g1 e1;symm;show .done (ht e1)
  .
   ext g1 e1;split at h
   . symm
   . ext g2 e2;show .next (ht e1) (hb e2) (zW ht hb h)
   . ext g2 e2;show .cont (ht e1) (hb e2) (zW ht hb h)
   . ext g2 e2;symm;show .brk (ht e1) (hb e2)
   . ext g2 e2;symm;show .ret (ht e1) (hb e2)
def lz(h:Cm P c e x)(hn:xq (λ_ _=>true) e=false)(t:Option Expr)(l:Nat)(env:Env):swapsWith e t l env=pure false:=by have hs:=h.L1;cases e <;> first |rfl |show Bool.noConfusion (show true=false from hn) |show Bool.noConfusion (show false=true from hs)
def lA(ct:aW P k X c)(jm:c.df=true)(hl:fF c y=true):swapsWith (.ListComp a b s p) (!(.Name y py)) l X.env=pure (PN c y py p s):=by
 exact (pure (X.env.blockKind==.function&&X.env.kindOf y==some .local&&py.line==(Expr.ListComp a b s p).pos.line&&(not ((s.names.any λ(n,k)=>n==y&&(k==.local||k==.cell))))):Sem Bool)=_
 rw[ct.bk jm];have e:(X.env.kindOf y==some .local)=(c.sc.names.lookup y==some .local):=by
  delta fF at hl;split at hl
  . ext e;rw[e];exact (X.env.scope.names.lookup y==_)=_;rw[ct.YB y e]
  . ext e;rw[e];exact (X.env.scope.names.lookup y==_)=_;rw[ct.cel jm y e]
  . cases hl
 rw[e];rfl
def Fv(ct:aW P k X c)(jm:c.df=true)(hl:fF c y=true)(h:Cm P c e x)(hn:xq (λs p=>PN c y py p s) e=false):swapsWith e (!(.Name y py)) l X.env=pure false:=by have hs:=h.L1;cases e <;> first |rfl |show Bool.noConfusion (show true=false from hn) |show Bool.noConfusion (show false=true from hs) | (rw[lA ct jm hl];show congrArg pure hn)
def WX{x:Str}{pn fW:Pos}{ix:Expr}{xi:Ex}{X:Cx}(h:Cm P c ix xi):∀v,assign (.Subscript (.Name x pn) ix fW) X.env v=(do
   let ov <- holding [v] (eval (.Name x pn) X.env)
   let iv <- holding [v,ov] (eval ix X.env)
   standAt fW
   holding [v,ov,iv] (setItem ov iv v)
   release [v,ov,iv] []):=by
 have hs:=h.L1;cases ix <;> first |show λ_=>rfl |show Bool.noConfusion (show false=true from hs)
def WY(h:Cm P c e x)(hn:∀vs k p,e≠.Tuple vs k p):swappedStores [.Tuple es k0 pt] e env=pure none:=by cases e <;> first |rfl |show absurd rfl (hn _ _ _) |show Bool.noConfusion (show false=true from hs)
def xE{α β:Type}{f:α->Option β}:∀{l:List α}{a:α},a∈l->f a=none->(l.filterMap f).length<l.length
 |b::l,a,h,e=>by
  have hle:=List.length_filterMap_le f l;rcases dS.mp h with rfl |h
  . rw[List.filterMap_cons_none e];show Nat.lt_succ_of_le hle
  .
   have:=xE h e;rw[u4];split
   . show Nat.lt_succ_of_le hle
   . rw[i9];show Nat.succ_lt_succ this
def W0{es:List Expr}{k0:Nat}{pt:Pos}{e:Expr}(ct:aW P k X c)(h:PX c es e=true):swappedStores [.Tuple es k0 pt] e X.env=pure none:=by
 let(h1,h2):=ao h;let(h3,h4):=ao h2;let(a,ha,h5):=CY.mp h4;delta celN at h5;split at h5
 .
  ext x ex;obtain⟨px,rfl⟩:∃p,a=.Name x p:=by cases a <;> first | (cases ex;show#[_,rfl]) |cases ex
  have hx:X.env.kindOf x=some .cell:=ct.cel h3 x (lS h5);obtain⟨vs,k2,pt2,rfl⟩:∃vs k p,e=.Tuple vs k p:=by cases e <;> first |show#[_,_,_,rfl] |cases h1
  exact (if _ then _ else _:Sem (Option (List Str)))=_
  split
  . rfl
  .
   exact (if _ then _ else _:Sem (Option (List Str)))=_
   split
   . rfl
   .
    exact (if _ then _ else _:Sem (Option (List Str)))=_
    rw[i8];rw[AG];apply .inl ?_;rw[bne_iff_ne];apply kS (xE ha ?_);simp only[hx];rfl
 . cases h5
def W2(ct:aW P k X c)(h:Cm P c e x)(hn:(∀vs k p,e≠.Tuple vs k p)\/PX c es e=true):swappedStores [.Tuple es k0 pt] e X.env=pure none:=
 hn.elim (WY h) (W0 ct)
def W3(h:Cm P c e x):swappedStores [.Subscript (.Name y pn) ix fW] e env=pure none:=by cases e <;> first |rfl |show Bool.noConfusion (show false=true from hs)
def qm(hS:jy P rn)(ct:aW P k X c)(jm:c.df=true)(hK:z.K=X.K)(hc:L0 P c s x)(h:aH rn z.bor k x g=!(f,g')):fT X z s g f g':=by
 let(mm,n,t,rfl,hk):=hc.LQ;cases x
 case ret x=>
  have h1:=Cm.mk hk;delta aH at h;dsimp only at h;split at h
  . ext r g1 e1;symm;show Vf (hS.e ct hK h1 e1)
  . symm
 case expr x=>
  have h1:=Cm.mk (ao hk).1;have h2:=noC (ao hk).2;delta aH at h;dsimp only at h;split at h
  . ext r g1 e1;symm;show Nv (hS.e ct hK h1 e1) (lz h1 h2 _ _ _)
  . symm
 case set i x=>
  have h1:=dec (ao (ao hk).1).1;have h2:=(ao (ao hk).1).2;have h3:=Cm.mk (ao (ao hk).2).1;have h4:=mq (ao (ao hk).2).2;have nm:=ct.nm h1 h2;have hsw:swapsWith (dZ P (mm+1) c x (aF t 0)) (!(.Name (Ev.nm c i) (aF t 1).pos)) t.pos.line X.env=pure false:=Fv ct jm h2 h3 h4;delta aH at h;dsimp only at h;split at h
  . symm
  .
   ext hb;split at h
   .
    ext l g1 e1;split at h
    . ext hl;symm;show Ny nm.nd nm.ix nm.lc (hS.e ct hK h3 e1) hl hsw nm.fn hb
    . symm
   .
    ext r g1 _ e1;split at h
    . ext d g2 e2;symm;show Nx nm.nd nm.ix nm.lc (J7 (hS.e ct hK h3 e1) e2) hsw nm.fn hb
    . symm
   . symm
 case setC i x=>
  let(g1,g2):=ao hk;let(h2,g4):=ao g2;let(h3,g6):=ao g4;have h1:=dec g1;cases x
  case comp n' kk T it co xe=>
   have hl:c.sc.names.lookup (Ev.nm c i)=some .local:=by delta PN at h2;simp only[fN]at h2;show eq_of_beq h2.1.1
   have cH:fF c (Ev.nm c i)=true:=by delta fF;rw[hl]
   have nm:=ct.nm h1 cH;delta aH at h;dsimp only at h;split at h
   . symm
   .
    ext hb
    repeat' split at h
    all_goals try contradiction
    ext acc g1 e1 hi;symm;let(rfl,k1,k2,k3,k4,k5,k6,k7,k8):=xD h3
    . let(ak,g1,gE,w1,w2,w3,w4,w5,rfl):=xB hS ct hK k3 k4 k5 k6 k7 k8 e1;show NZ (gQ ct k1) ct.calm (by rw[ct.N];show eZ k2) w1 w2 w3 w4 w5 nm.nd nm.ix (ct.YB _ hl) hb hi (by rw[lA ct jm cH,h2]) λww=>k6.folded ww
  case cS n' kk T1 g8 c1 T it co xe=>
   have hl:c.sc.names.lookup (Ev.nm c i)=some .local:=by delta PN at h2;simp only[fN]at h2;show eq_of_beq h2.1.1
   have cH:fF c (Ev.nm c i)=true:=by delta fF;rw[hl]
   have nm:=ct.nm h1 cH;delta aH at h;dsimp only at h;split at h
   . symm
   .
    ext hb
    repeat' split at h
    all_goals try contradiction
    ext acc g1 e1 hi;symm;let(rfl,k1,k2,k3,k4,k4',k5,k5',k6,k7,k8,k9,k10):=mC h3
    . let(ak,g1,gE,w1,w2,w3,w4,w5,w6,w7,rfl):=sL hS ct hK k3 k4 k4' k5 k5' k6 k7 k8 k9 k10 e1;show Jy (gQ ct k1) ct.calm (by rw[ct.N];show eZ k2) w1 w2 w3 w4 w5 w6 w7 nm.nd nm.ix (ct.YB _ hl) hb hi (by rw[lA ct jm cH,h2]) (λww=>k6.folded ww) λb ww=>k8.folded ww
  all_goals show Bool.noConfusion (show false=true from g6)
 case tgt T x=>
  let(g1,g2):=ao hk;let(g3,g4):=ao g2;have h2:=Cm.mk (ao g4).1;have h4:=noC (ao g4).2;cases T with
  |nm i=>cases g1
  |tp is=>
  have h1:=p8 (t:=aF t 1) g3;have h3:(∀vs k p,dZ P (mm+1) c x (aF t 0)≠.Tuple vs k p)\/PX c (zU c (aF t 1) 0 is) (dZ P (mm+1) c x (aF t 0))=true:=((AG _ _).mp g1).imp (λh vs k p q=>by rw[q]at h;symm) id
  delta aH at h;dsimp only at h;split at h
  . symm
  .
   ext hb
   repeat' split at h
   all_goals try contradiction
   ext d g1 e1 _ g2 e2;symm;let(tt,q,kt):=qj ct hK h1 λi hi hm=>hb (by rw[CY];show#[i,hi,mM hm])
   let(te,qe,ke):=aQ hS ct hK h2 e1;have hsw:=lz h2 h4 (!(.Tuple (zU c (aF t 1) 0 is) (zR (aF t 1)) (aF t 1).pos)) t.pos.line X.env;have cH:swappedStores [.Tuple (zU c (aF t 1) 0 is) (zR (aF t 1)) (aF t 1).pos] (dZ P (mm+1) c x (aF t 0)) X.env=pure none:=W2 ct h2 h3;apply#[_,GK qe q hsw cH rfl,λY As M H E s k2=>ke Y As M H _ s λv H1 aL M1 s1 dz R=>?_]
   show kt d g1 _ e2 v Y aL M1 H1 _ s1 R λσ' aC s' _=>k2 σ' aC M1 H1 s' dz
 case item i xj x=>
  have h1:=(jY (ao hk).1).1;have h2:=(jY (ao hk).1).2.1;have h3:=(jY (ao hk).1).2.2;have h4:=Cm.mk (ao (ao hk).2).1;have h5:=Cm.mk (ao (ao (ao hk).2).2).1;have h6:=noC (ao (ao (ao hk).2).2).2;let(hd,cP):=bN h3;delta aH at h;dsimp only at h
  repeat' split at h
  all_goals try contradiction
  ext d g1 e1 _ l0 e2 _ n g2 e3 _ l e4 _ m e5;symm;have hsw:=lz h5 h6 (!(.Subscript (.Name (Ev.nm c i) (kid (aF t 1) 0).pos) (dZ P (mm+1) c xj (kid (aF t 1) 1)) (aF t 1).pos)) t.pos.line X.env;have cH:swappedStores [.Subscript (.Name (Ev.nm c i) (kid (aF t 1) 0).pos) (dZ P (mm+1) c xj (kid (aF t 1) 1)) (aF t 1).pos] (dZ P (mm+1) c x (aF t 0)) X.env=pure none:=W3 h5;show Nz (by rw[ct.N];show h1) (ct.vis h2) hd cP (aQ hS ct hK h5 e1) e2 (aQ hS ct hK h4 e3) e4 e5 (WX h4) hsw cH rfl
 case aug i op x=>
  have h1:=dec (ao (ao hk).1).1;have h2:=(ao (ao hk).1).2;have h3:=Cm.mk (ao hk).2;have nm:=ct.nm h1 h2;delta aH at h;dsimp only at h;split at h
  . symm
  .
   ext hb;split at h
   .
    ext d1 e1
    repeat' split at h
    all_goals try contradiction
    ext d2 g1 e2 _ d e3;symm;show Vp nm hb (aQ hS ct hK h3 e2) e1 (PJ e3)
   .
    ext e1;split at h
    .
     ext ho;subst ho
     repeat' split at h
     all_goals try contradiction
     ext m g1 e2 _ l e3 hl;symm;show O2 nm (aQ hS ct hK h3 e2) e1 e3 hl
    . symm
   . symm
 case ite e a b=>
  have h1:=Cm.mk (ao hk).1;have h2:=xu.mk (ao (ao hk).2).1;have h3:=xu.mk (ao (ao hk).2).2;delta aH at h;dsimp only at h;split at h
  . ext g1 e1;show RM (hS.t ct hK h1 e1) (by rw[i8 rfl];show hS.b ct jm hK h2 h)
  . ext g1 e1;show RM (hS.t ct hK h1 e1) (by rw[i7 t5];show hS.b ct jm hK h3 h)
  . symm
 case loop T it b=>
  have h1:=p8 (t:=aF t 0) (ao hk).1;have h2:=uP (R:=Cm P c) .mk (ao (ao hk).2).1;have h3:=xu.mk (ao (ao hk).2).2;delta aH at h;dsimp only at h;split at h
  . symm
  .
   ext hb;split at h
   . ext ak g1 e1;show Vk (uT ct) ct.calm (mz hS ct hK (sJ h1) h2 e1) (qj ct hK h1 λi hi hm=>hb (by rw[CY];show#[i,hi,mM hm])) (ql (λe=>hS.b ct jm hK h3 e) h) λy=>h2.folded y
   . symm
 case «while» e b=>have h1:=Cm.mk (ao hk).1;have h2:=xu.mk (ao hk).2;show HY (uT ct) (zW (λe=>hS.t ct hK h1 e) (λe=>hS.b ct jm hK h2 e) h)
 case raise i x=>symm
 case stuck=>symm
 all_goals show Bool.noConfusion (show false=true from hk)
def zX(hS:jy P rn)(ct:aW P k X c)(jm:c.df=true)(hK:z.K=X.K)(h:YH P (Cm P c) (L0 P c) c ss x)(e:aH rn z.bor k x g=!(f,g')):pF X z ss g f g':=by
 cases h with
 |@rows y x mn a b tn im it iy ia ib scope N' kb j lp px rp mp Yv V1 ap py pa pb iY y1 y2 a1 a2 b1 b2 sp1 V0 RX R3 RZ Gn ep1 ep2 JC rpos yr tp tk h1 h2 h3 h4 h5 h6 h7 h8 h9 h10=>
  delta aH at e;dsimp only at e;split at e
  .
   ext m ah gm gt;split at e
   .
    ext gy ga gb
    repeat' split at e
    all_goals try contradiction
    ext hm _ ll hF;cases e;have hl:c.sc.names.lookup y=some .local:=by have:=h3.2.1;delta PN at this;simp only[fN]at this;show eq_of_beq this.1.1
    have cH:fF c y=true:=by delta fF;rw[hl]
    obtain⟨m,rfl⟩:∃n:Nat,m=n:=#[m.toNat,by lia]
    let(dm,cm):=bN h1.2.2;let(dt,ct'):=bN h2.2.2;let(dy,cy):=bN h3.2.2;let(da,ca):=bN h4.1.2.2;let(db,cb):=bN h5.1.2.2;have ny:=ct.nm h3.1 cH;show zq (uT ct) hK h7.1 (by rw[ct.N];show eZ h7.2.2.1) (gQ ct h7.2.1) ct.calm (λbk=>(ct.blk h7.2.2.2.1 bk).nm (by rw[ct.N];show h7.2.2.2.2.1) h7.2.2.2.2.2) (ct.qN _ h8.2) (ct.md.bn _ h8.1) (by rw[ct.N];show h1.1) (ct.vis h1.2.1) dm cm gm ⋯ ny.nd ny.ix (ct.YB _ hl) dy cy gy (by rw[lA ct jm cH,h3.2.1])
     (ct.nm h4.1.1 h4.2) (ct.vis h4.1.2.1) da ca (ct.nm h5.1.1 h5.2) (ct.vis h5.1.2.1) db cb (by rw[ct.N];show h2.1) (ct.vis h2.2.1) dt ct' gt ga gb h6.1 h6.2.1 h6.2.2 h9 h10 hF
   . cases e
  . cases e
def Kg(hS:jy P rn)(ct:aW P k X c)(jm:c.df=true)(hK:z.K=X.K):∀{jJ:List Stmt}{xs:List Sm}{g g':G}{f:Fl},xu P c jJ xs->cK rn z.bor k xs g=!(f,g')->eV X z jJ g f g':=by
 intro jJ xs g g' f hc h
 induction hc generalizing g with
 |nil=>symm;show Vb
 |grp h1 h2 ih=>
  delta cK at h;split at h
  . ext g1 e1;show (zX hS ct jm hK h1 e1).bk (ih h)
  . ext hn e1;symm;show (zX hS ct jm hK h1 e1).end λe=>hn e
  . symm
 |cons h1 h2 ih=>
  delta cK at h;split at h
  . ext g1 e1;show Nu (qm hS ct jm hK h1 e1) (ih h)
  .
   ext hn e1;symm;have q:=qm hS ct jm hK h1 e1;cases f with
   |nx=>show absurd rfl hn
   |rt r=>show Vc q
   |bk=>show Vd q
   |ct=>show Ve q
  . symm
end
def Qy{P:Pg}{k:Nat}{prog:Program}{w:World}{K:Frag}{mg:Str->Option Value}{base:Heap}{N ps:List Str}{qual:Str}{scope:Scope}{f:Addr}{bG:Value}{A:Around}{outer:List Env}{s:Shared}{H:Hp}{E:XK}
  (S:bZ N ps scope) (md:uJ P K mg) (cP:PySem.W.codeIn K bG qual=true) (hr:cB k (A.deeper (envOfC qual scope s⁻¹ f bG))):Qq P k (gJ (Gj prog w) prog w K mg base N qual scope f bG A outer s H E) #[N,scope,true,qual]:=by
 apply#[#[rfl,S.nd,λx e=>e,λx e=>e,λx e=>e,λ_ x e=>e,λx _=>rfl,λ_=>?_,rfl,rfl,md,hr,λe h=>#[rfl,md.lam h _ e _ cP]],rfl,PassesOwn.leaving]
 exact (if scope.kind.isAnnotationScope then ScopeKind.function else scope.kind)=.function
 rw[S.kind];rfl
section
def xF(hS:jy P rn)(hX:rz P rn)(cx:Qq P k X c)(hK:z.K=X.K)(hC:jF P X.mg ci C):∀{es:List Expr}{xs:List Ex}{g g':G},Gu P c es xs->xArgs rn z.bor k xs g=!(ci,g')->RaA X z es g C g':=by
 intro es xs g g' hc h
 induction hc generalizing g with
 |nil=>symm
 |cons h1 h2 ih=>
  delta xArgs at h;split at h
  . ext e1;symm;show N8 (hX.x cx hK hC h1 e1) (h1.star _)
  .
   split at h
   . ext r g1 e1;show N9 (hS.e cx.ct hK h1 e1).lift (ih h) (h1.star _)
   . symm
def Kh(hS:jy P rn)(hX:rz P rn)(hF:jG P fns)(cx:Qq P k X c)(hK:z.K=X.K)(hC:jF P X.mg ci C)(hc:Cm P c e x)(h:wZ rn z.bor k fns x g=!(ci,g')):Gk X z e g C g':=by
 have ct:=cx.ct;let(n,t,rfl,hk):=hc.LQ;cases x
 case call i xs=>
  let(k1,k2):=ao hk;let(k3,k4):=ao k2;let(fi,h1,h2):=uN k1;cases xs with
  |nil=>cases (ao k4).2
  |cons x xs=>
  have h3:=dec k3;have h4:=dH (R:=Cm P c) .mk (ao k4).1;exact Gk X z (.Call (.Name (xr P i) (kid t 0).pos) (jZ (dZ P n c) t 1 (x::xs)) [] t.pos) g C g';rw[<- h2]at h3 ⊢
  have cH:=(Cm.mk (ao (ao k4).1).1).star (env:=X.env) (jZ (dZ P n c) t 2 xs);have ig:=(dH .mk (ao (ao k4).1).2).plain (env:=X.env) (pos:=t.pos);let(fa,fd,hm,hFn,YJ,hB,ku):=ct.md.fn _ fi h1;delta wZ at h;dsimp only at h;split at h
  .
   ext r e1;symm;cases k with
   |zero=>
    let(tt,q,kk):=xF hS hX cx hK hC h4 e1;apply#[_,?_,λY As M H Q s ac=>kk Y As M H (λ_ _=>False) s ac]
    intro aj s Y H Q I ht;apply AA (gH I (ct.qN _ h3) hm ?_ ku);show BN I.ok.mod.yy hFn.kp (bU (q t.pos aj s Y H _ I ht) (by rintro us s1 ⟨_,_,_,_,h⟩;show h.elim)) cH ig
   |succ k'=>
    have F:jK X.prog X.w X.K X.mg X.base yQ (k'+1) fa fd fi.ps (RN X.K fi.N fi.ps.length λ_ _ _ _=>False):=HN hFn YJ λ_ _ _ _ _ _ _ _ _ _ _ _ _ h=>h.elim
    show Ij F (xF hS hX cx hK hC h4 e1) ct.room (ct.qN _ h3) hm hFn.kp hB ku cH ig
  .
   cases vf:fns[i]? with
   |none=>rw[vf]at h;symm
   |some fx=>
    rw[vf]at h;cases k with
    |zero=>symm
    |succ k'=>
     dsimp only at h;split at h
     .
      ext rs g1 e1;have W4:=hF _ _ _ h1 vf;have F:jK X.prog X.w X.K X.mg X.base (Gj X.prog X.w) (k'+1) fa fd fi.ps (SpX X.K fi.N fi.ps.length λbor g C g'=>∃ci,jF P X.mg ci C/\rn.xb bor k' fx.body g=!(ci,g')):=by apply Vw hFn YJ ?_;rintro bG A outer s H E cP hr z' g C g' Yr ⟨ci,hci,hrun⟩;show hX.b (Qy YJ ct.md cP hr) rfl Yr hci W4.body hrun
      delta wY at h;split at h
      .
       ext hl;split at h
       . symm
       .
        ext gs e2;split at h
        .
         ext ci' gc e3;split at h
         .
          ext gO e4;symm;have ha:=qi hS ct hK h4 e1;have ha':cT X z (dZ P n c x (kid t 1)::jZ (dZ P n c) t 2 xs) g rs g1:=by
           let(t,q,kk):=ha;apply#[t,λpos aj s Y H Q I hw=>?_,kk]
           show kA (q pos aj s Y H Q (I.wish _) hw) (by rintro _ _ ⟨v,H',I',r,q⟩;show#[v,H',I'.cX,r,q]) λ_ _ z=>False.elim z
          show Od F hK cx.ex ct.room (ct.qN _ h3) hm hFn.kp hB ha' (by rw[hl.1,W4.np]) e2 hl.2 #[ci,hC,by rw[<- W4.n];show e3] e4 ku cH ig
         . symm
        . symm
      . symm
     . symm
 all_goals symm
def Fw(hX:rz P rn)(cx:Qq P k X c)(hK:z.K=X.K)(hC:jF P X.mg ci C)(hc:Cm P c e x)(h:uI rn z.bor k x g=!(ci,g')):Ym X z e g C g':=by
 let(n,t,e,hk):=hc.LQ;cases x
 case not a=>subst e;show N7 (hX.t cx hK hC (.mk hk) h)
 case call i l=>show Vt (hX.x cx hK hC hc h) (by rw[e];show λ_=>rfl)
 all_goals symm
def fT.lift{st:Stmt}{g g':G}{f:Fl}(h:fT X.tL z st g f g'):fT X z st g f g':=by
 let(t,q,k):=h;apply#[t,λaj s Y H D I hw=>?_,k]
 show kA (q aj s Y H D (I.wish _) hw) (λ_ _ q=>q.cX) λ_ _ z=>False.elim z
def Fy(hS:jy P rn)(hX:rz P rn)(cx:Qq P k X c)(jm:c.df=true)(hK:z.K=X.K)(hC:jF P X.mg ci C)(hc:L0 P c s x)(h:pW rn z.bor k x g=!(ci,g')):Vs X z s g C g':=by
 have ct:=cx.ct;let(mm,n,t,rfl,hk):=hc.LQ;cases x
 case ret x=>show Vu (hX.x cx hK hC (.mk hk) h)
 case expr x=>have h1:=Cm.mk (ao hk).1;have h2:=noC (ao hk).2;show Oa (hX.x cx hK hC h1 h) (lz h1 h2 _ _ _)
 case ite e a b=>
  have h1:=Cm.mk (ao hk).1;have h2:=xu.mk (ao (ao hk).2).1;have h3:=xu.mk (ao (ao hk).2).2;delta pW at h;dsimp only at h;split at h
  . ext e1;symm;show Vv (hX.t cx hK hC h1 e1)
  .
   split at h
   . ext g1 e1;show Ih (hS.t ct hK h1 e1).lift (by rw[i8 rfl];show hX.b cx jm hK hC h2 h)
   . ext g1 e1;show Ih (hS.t ct hK h1 e1).lift (by rw[i7 t5];show hX.b cx jm hK hC h3 h)
   . symm
 case raise i x=>
  have h1:=dec (ao hk).1;have h2:=dec (ao (ao hk).2).1;have h3:=Cm.mk (ao (ao hk).2).2;delta pW at h;dsimp only at h;split at h
  .
   ext d g1 e1;symm;let(y,q1,q2):=hC;rw[h1]at q1;cases q1;let(ku,C',q3,q4):=ct.md.cls _ (i6 h1);have e:C'=C:=by have:=q3.symm.trans q2;cases this;rfl
   subst e;show Ii ct.calm cx.ex q4 (ct.qN _ h2) q2 ku (dF (aQ hS ct hK h3 e1).lift d9 (h3.star _)) (h3.star _)
  . symm
 all_goals symm
def Fz(hS:jy P rn)(hX:rz P rn)(cx:Qq P k X c)(jm:c.df=true)(hK:z.K=X.K)(hC:jF P X.mg ci C):∀{jJ:List Stmt}{xs:List Sm}{g g':G},xu P c jJ xs->jW rn z.bor k xs g=!(ci,g')->N6 X z jJ g C g':=by
 intro jJ xs g g' hc h
 induction hc generalizing g with
 |nil=>symm
 |grp h1 h2 ih=>
  delta jW at h;split at h
  . ext e1;cases h1 <;> cases e1
  .
   split at h
   . ext g1 e1;show ((zX hS cx.ct jm hK h1 e1).lift).ra (ih h)
   . symm
 |cons h1 h2 ih=>
  delta jW at h;split at h
  . ext e1;symm;show Ob (Fy hS hX cx jm hK hC h1 e1)
  .
   split at h
   . ext g1 e1;show Oc (qm hS cx.ct jm hK h1 e1).lift (ih h)
   . symm
end
def xG(hF:jG P fns):∀n,jy P (run fns n)/\rz P (run fns n)
 | 0=>#[#[λ_ _ _ h=>(by symm),λ_ _ _ h=>(by symm),λ_ _ _ _ h=>(by symm)],#[λ_ _ _ _ h=>(by symm),λ_ _ _ _ h=>(by symm),λ_ _ _ _ _ h=>(by symm)]]
 |n+1=>
  let #[a,b]:=xG hF n
  #[#[λct hK hc h=>Ke a b hF ct hK hc h,λct hK hc h=>Kf a ct hK hc h,λct jm hK hc h=>Kg a ct jm hK hc h],
  #[λcx hK hC hc h=>Kh a b hF cx hK hC hc h,λcx hK hC hc h=>Fw b cx hK hC hc h,λcx jm hK hC hc h=>Fz a b cx jm hK hC hc h]]
def Qz(hF:jG P fns)(n:Nat):jy P (run fns n):=(xG hF n).1
abbrev QB(K:Frag)(mg:Str->Option Value)(fi:Fi):Prop:=
 ∃f fd,mg fi.name=!(.ref f)/\MK K fi.name fi.qual fi.st f fd/\bZ fi.N fi.ps (aD fi.st)/\(∀us:List Value,us.length=fi.ps.length->bindArgs fd #[us,[]]=pure (fi.ps.zip us))/\(fi.name==(~~~3))=false
abbrev W5(K:Frag)(mg:Str->Option Value)(p:Str×D):Prop:=(p.1==(~~~3))=false/\∃v u,mg p.1=!u/\RelV v u/\∀M H,Rep K M H p.2 v
inductive All{α:Type}(p:α->Prop):List α->Prop
 |nil:All p []
 |cons {a:α}{l:List α}:p a->All p l->All p (a::l)
def All.mem{α:Type}{p:α->Prop}:∀{l:List α},All p l->∀a∈l,p a:=by
 intro l h
 induction h with
 |nil=>intro a h;symm
 |cons h t ih=>
  intro a hm;rcases dS.mp hm with rfl |hm
  . show h
  . show ih a hm
structure W6(P:Pg)(K:Frag)(mg:Str->Option Value):Prop where
 lam:P.lam=true->∀n∈jz,∀bG,PySem.W.codeIn K bG n=true->JZ K mg n bG
 sH:∀(i:Nat) (C:Addr),P.sH[i]?=!C->∃x,P.cls[i]?=!x/\mg x=!(.ref C)/\fy K C/\Lq K C
 kt:P.lam=true->(P.kt==(~~~3))=false/\∃D,mg P.kt=!(.ref D)/\fy K D/\∀C∈P.sH,ux K C D=true
 ups:∀(x:Str) (l:List (Addr×Bool)),(x,l)∈P.ups->(x==(~~~3))=false/\∃cv,((mg x=!cv/\∃D,cv=.ref D)\/(x∈P.bn/\x≠ "__name__" /\bootBuiltins x=!cv/\∃n,cv=.type n))/\PySem.W.kitOne K (.type "NoneType") cv=!false/\∀C b,l.lookup C=!b->PySem.W.kitOne K (.ref C) cv=!b
def md_mk{P:Pg}{K:Frag}{mg:Str->Option Value}(h1:All (QB K mg) P.fn)(h2:All (W5 K mg) P.ct)(h3:All (λx=>mg x=none) P.bn)(h4:All (λx=>(x==(~~~3))=false/\∃C,mg x=!(.ref C)/\fy K C) P.cls)(h5:W6 P K mg):uJ P K mg:=
 #[λi fi e=>by let(f,fd,q1,q2,q3,q4,q5):=h1.mem fi (i6 e);show#[f,fd,q1,q2,q3,.all q4,q5],λx d h=>h2.mem (x,d) h,λx h=>h3.mem x h,λx h=>h4.mem x h,h5.lam,h5.sH,h5.kt,h5.ups]
abbrev BdOk(fi:Fi):Prop:=∀(kV doc pm:Value) (an:Option Addr) (bG ct:Value) (us:List Value),us.length=fi.ps.length->bindArgs (PySem.W.fnOf fi.name fi.qual (jc fi.st) (bx fi.st) (aD fi.st) .none kV doc pm an bG ct) #[us,[]]=pure (fi.ps.zip us)
section
variable{K:Frag}
def fi_mk{fi:Fi}{oc:Value}{od an:Option Addr}{osl:Array (Option Value)}{kV doc pm bG ct:Value}(X:K.In h)(G:h.Ns mainGlobals mg)(a:PySem.W.nsIn K mainGlobals fi.name=!(!(.ref f)))
  (l:K.lookup f=!#[oc,od,.func (PySem.W.fnOf fi.name fi.qual (jc fi.st) (bx fi.st) (aD fi.st) .none kV doc pm an bG ct),osl]) (c:PySem.W.codeIn K bG fi.qual=true) (k:PySem.W.keepIn K (.ref f)=true)
  (sc:bZ fi.N fi.ps (aD fi.st)) (hb:BdOk fi)
  (hd:(fi.name==(~~~3))=false):QB K mg fi:=
 let F:=Ug l c k
 #[f,_,C6 X G a,F,sc,hb kV doc pm an bG ct,hd]
def W7(X:K.In h)(G:h.Ns mainGlobals mg)(a:PySem.W.nsIn K mainGlobals x=!(!(.int i t)))(hd:(x==(~~~3))=false):W5 K mg (x,.int i):=
 #[hd,.int i,.int i t,C6 X G a,#[t,rfl],λ_ _=>.int i]
def cl_mk(X:K.In h)(G:h.Ns mainGlobals mg)(a:PySem.W.nsIn K mainGlobals x=!(!(.ref C)))(q:fy K C)(hd:(x==(~~~3))=false):(x==(~~~3))=false/\∃C,mg x=!(.ref C)/\fy K C:=
 #[hd,C,C6 X G a,q]
def W8{P:Pg}{fns:List Fx}{prog:Program}{w:World}{base:Heap}(hF:jG P fns)(md:uJ P K mg){i:Nat}{fi:Fi}{fx:Fx}{x:Str}{fd:FuncData}{n k:Nat}(V3:P.fn[i]?=!fi)(vf:fns[i]?=!fx)(hp:fi.ps=[x])(F:MK K fi.name fi.qual fi.st f fd)(sc:bZ fi.N fi.ps (aD fi.st)) :
  jK prog w K mg base yQ (k+1) f fd [x] (RN K fi.N 1 λbor g r g'=>(run fns n).b bor k fx.body g=!(.rt r,g')):=by
 have:=HN (P:=prog) (w:=w) (base:=base) (run:=λbor g r g'=>(run fns n).b bor k fx.body g=!(.rt r,g')) F sc λbG A outer s H E cP hr z g r g' hK hrun=>
  #[_,(Qz hF n).b (qk sc md cP hr) rfl hK (hF i fi fx V3 vf).body hrun,.inl rfl]
 rw[hp]at this;show this
def Kl{P:Pg}{fns:List Fx}{prog:Program}{w:World}(hF:jG P fns)(md:uJ P K mg){i:Nat}{fi:Fi}{fx:Fx}{x:Str}{n k:Nat}(V3:P.fn[i]?=!fi)(vf:fns[i]?=!fx)(hp:fi.ps=[x])(h:QB K mg fi)(hm:mg fi.name=!(.ref f)) :
  ∃fd:FuncData,(∀(s:Shared) (u:Value),BindsTo s fd #[[u],[]] [(x,u)])/\∀base:Heap,K.In base->base.Ns mainGlobals mg->jK prog w K mg base yQ (k+1) f fd [x] (RN K fi.N 1 λbor g r g'=>(run fns n).b bor k fx.body g=!(.rt r,g')):=by
 let(f',fd,q1,q2,q3,q4,q5):=h;rw[hm]at q1;cases q1;apply#[fd,λs u=>.of_eq ?_,λbase _ _=>W8 hF md V3 vf hp q2 q3]
 have:=q4 [u] (by rw[hp];rfl)
 rw[hp]at this;show this
def W9{N:List Str}{run:List Nat->G->R->G->Prop}(hev:∀ns:List Int,ns.length<=63->∃g',run [] (dW N.length [.dat (.fix (ns.map .int))]) (.dat (.bl true)) g')(K:Frag)(H:Hp)(a:Addr)(ns: ~~~0)(hl:ns.length<=63)(hO:Bu ((cN K).map (·.1)) H)(hS:cQ K H a (ns.map V.int)) :
  RN K N 1 run [.ref a] H (λv _=>v=.bl true) λ_ _ _=>False:=by
 let(g',hg):=hev ns hl;have fx:mR K ((cN K).map (·.1)) H a (ns.map V.int):=by
  rcases hS with h |h
  .
   rcases hO a with ⟨_,z⟩ |⟨na,z⟩
   . rcases h with h |⟨o,h⟩ <;> (rw[z]at h;symm)
   .
    apply .inl #[na,?_];rcases h with h |h
    .
     rcases z with z |⟨o,xs,z⟩
     . rw[z]at h;symm
     . rw[z]at h;symm
    . show h
  . show .inr (.inr h)
 have rr:∀ns:List Int,aE K ((cN K).map (·.1)) H (ns.map D.int) (ns.map V.int):=λns=>by
  induction ns with
  |nil=>show .nil
  |cons n ns ih=>show .cons (.int n) ih
 have tb:∀p∈cN K,H p.1=!(.nh ([].toArray)):=λp hp=>by
  rcases hO p.1 with ⟨_,z⟩ |⟨z,_⟩
  . show z
  . show absurd (fR.mpr #[p,hp,rfl]) z
 apply#[rfl,#[K,H,(cN K).map (·.1),[],cN K],dW N.length [.dat (.fix (ns.map .int))],g',[],(cN K).map (·.1),.dat (.bl true),rfl,?_,hg,λv σ' aC M' H' s' st R=>gj R]
 apply#[?_,t8,(λa ha=>nomatch ha),λi b l e1 e2=>?_,(λm hm=>.inr hm),(λb o e _ _=>e),(λm hm=>hm),(λm hm=>?_),(λb hb=>nomatch hb),(λp hp=>nomatch hp),(λp hp=>#[([].toArray),tb p hp,trivial,λpos cv e=>nomatch e]),(λp hp=>fR.mpr #[p,hp,rfl]),rfl]
 . show Slots.append (.dat (.fix fx (rr ns)) .nil) (Slots.nos _)
 .
  exfalso;delta dW at e1;cases i with
  |zero=>simp at e1
  |succ i=>rw[fA ⋯]at e1;have:=i6 e1;rw[w8]at this;show absurd this.2 ⋯
 . let(p,hp,rfl):=fR.mp hm;intro z;have z:H p.1=none:=z;rw[tb p hp]at z;cases z
end
meta abbrev Fi.ct(fi:Fi):Ct:=#[fi.N,aD fi.st,true,fi.qual]
abbrev Ca(P:Pg)(fi:Fi)(fx:Fx):List Stmt:=rq (WK P 99 (Ss P 99 20 fi.ct) fi.ct) (Ss P 99 20 fi.ct) fx.body (bx fi.st)
abbrev fxB(P:Pg)(fi:Fi)(fx:Fx):Bool:=decide (fx.np=fi.ps.length)&&(decide (fx.n=fi.N.length)&&LW (WL P 99 (Sv P 99 20 fi.ct) fi.ct) (Sv P 99 20 fi.ct) fx.body (bx fi.st))
def Xa(e:Ca P fi fx=bx fi.st)(h:fxB P fi fx=true):Qs P fi fx:=#[dec (ao h).1,dec (ao (ao h).2).1,Eq.mp (congrArg (λl=>xu P fi.ct l fx.body) e) (xu.mk (ao (ao h).2).2)]
abbrev QC(P:Pg):List Fi->List Fx->Bool
 |fi::l,fx::r=>fxB P fi fx&&QC P l r
 |_,_=>true
def QD(e:List.zipWith (Ca P) l r=l.map λfi=>bx fi.st)(h:QC P l r=true)(f:Nat)(fi:Fi)(fx:Fx)(h1:l[f]?=!fi)(h2:r[f]?=!fx):Qs P fi fx:=by
 induction l generalizing r f with
 |nil=>cases h1
 |cons a l ih=>cases r with
  |nil=>cases h2
  |cons b r=>
   cases f with
   |zero=>cases h1;cases h2;show Xa (List.cons.inj e).1 (ao h).1
   |succ f=>show ih (List.cons.inj e).2 (ao h).2 f h1 h2
def Xc(h:QC P P.fn fns=true)(e:List.zipWith (Ca P) P.fn fns=P.fn.map λfi=>bx fi.st):jG P fns:=λf fi fx h1 h2=>QD e h f fi fx h1 h2
def len1(h:us.length=1):∃a,us=[a]:=by
 cases us with
 |nil=>symm
 |cons a us=>cases us with
  |nil=>show#[a,rfl]
  |cons _ _=>symm
def len2(h:us.length=2):∃a b,us=[a,b]:=by
 cases us with
 |nil=>symm
 |cons a us=>let(b,rfl):=len1 (CI h);show#[a,b,rfl]
def len3(h:us.length=3):∃a b c,us=[a,b,c]:=by
 cases us with
 |nil=>symm
 |cons a us=>let(b,c,rfl):=len2 (CI h);show#[a,b,c,rfl]
nonrec abbrev cM(st:Stmt):Fi:=match st with
 |.FunctionDef name args _ _ _ _ scope _ _ _=>#[name,name,st,(args.args.map (·.arg))++scope.names.filterMap (λy=>if (y.2==.local||y.2==.cell)&&(not ((args.args.map (·.arg)).contains y.1)) then some y.1 else none),args.args.map (·.arg)]
 |st=>#["", "",st,[],[]]
def six{p:Nat->Prop}{m:Nat}(hm:1<=m/\m<=6)(a:p 1)(b:p 2)(c:p 3)(d:p 4)(e:p 5)(f:p 6):p m:=by rcases (by lia:m=1\/m=2\/m=3\/m=4\/m=5\/m=6)with rfl |rfl |rfl |rfl |rfl |rfl <;> assumption
section
def xH(ds:List D):∀i,vars i (ds.map R.dat)=[]:=by
 induction ds with
 |nil=>intro i;rfl
 |cons d ds ih=>intro i;show ih (i+1)
def xJ(ds:List D):cR (ds.map R.dat) g1=!(ds.map .dat):=by
 induction ds with
 |nil=>rfl
 |cons d ds ih=>
  exact (match cR (ds.map R.dat) g1 with |some gs=>!(Slot.dat d::gs) |none=>none)=_
  rw[ih];rfl
abbrev YL:List D->G
 | []=>[]
 |d::l=>.dat d::YL l
def Cb(ds:List D):YL ds=ds.map .dat:=by
 induction ds with
 |nil=>rfl
 |cons d ds ih=>rw[YL,ih];rfl
abbrev cF(rn:Rn)(k:Nat)(fx:Fx)(ds:List D):Option R:=match rn.b [] k fx.body (dW fx.n (YL ds))with
 |!(.rt r,gc)=>dG [] gc r
 |!(.nx,_)=>!(.dat .non)
 |_=>none
def mF(hl:ds.length=fx.np):bM rn fx k (ds.map .dat) g1=(cF rn k fx ds).map λr=>(r,g1):=by
 delta bM cF;rw[xH,xJ,Cb];simp only[eJ,hl,List.map_nil];cases rn.b [] k fx.body (dW fx.n (ds.map .dat))with
 |none=>rfl
 |some p=>
  let(f,gc):=p;cases f with
  |nx=>rfl
  |rt r=>simp only[back];cases dG [] gc r <;> rfl
  |bk=>rfl
  |ct=>rfl
abbrev gM(g m:G)(acc:List D):G:=g++(m++[.own acc])
def ji{g m:G}{acc:List D}{i:Nat}(h:i<g.length):(gM g m acc)[i]?=g[i]?:=by delta gM;rw[eA h]
def cO{g m:G}{acc:List D}{i:Nat}(h:i<m.length):(gM g m acc)[g.length+i]?=m[i]?:=by delta gM;rw[fA ⋯,tJ,eA h]
def lB:(gM g m acc)[g.length+m.length]?=!(.own acc):=by delta gM;rw[fA ⋯,tJ,fA (eD _),DB];rfl
def j5(h:i<m.length):(gM g m acc).set (g.length+i) s=gM g (m.set i s) acc:=by delta gM;rw[A6 _ _ ⋯,tJ,List.set_append_left _ _ h]
def mZ:(gM g m acc).set (g.length+m.length) (.own acc')=gM g m acc':=by delta gM;rw[A6 _ _ ⋯,tJ,A6 _ _ (eD _),DB];rfl
def uU:(gM g m acc).take g.length=g:=by delta gM;simp
def Km:gC kk g=gM g (List.replicate kk .no) []:=rfl
def lC{α:Type}(cV:α->D)(f:α->D)(p:α->Bool)(st:α->G->G)(I:G->Prop)(hI:∀m,I m->m.length=kk)(dX:last=g.length+kk)(cH:∀d m,I m->I (st d m)) :
  ∀(ak:List α) (m:G) (acc:List D),I m->acc.length+ak.length<=lim->
  (∀d∈ak,∀m acc,I m->T.set (cV d) (gM g m acc)=!(gM g (st d m) acc))->
  (∀d∈ak,∀m acc,I m->jU rn bor k c (gM g (st d m) acc)=!(p d,gM g (st d m) acc))->
  (∀d∈ak,p d=true->∀m acc,I m->fP rn bor k e (gM g (st d m) acc)=!(f d,gM g (st d m) acc))->
  ∃m',I m'/\Fj rn bor k T last c e (ak.map cV) (gM g m acc)=!(gM g m' (acc++(ak.filter p).map f))
 | [],m,acc,hm,_,_,_,_=>#[m,hm,by simp[Fj]]
 |d::ak,m,acc,hm,hl,hT,hi,he=>by
  rw[i9]at hl;have q1:=hT d dA m acc hm;have q2:=hi d dA m acc hm;have hm':=cH d m hm;have hk:=hI _ hm';rw[List.map_cons];delta Fj;rw[q1];dsimp only;rw[q2];cases hp:p d with
  |false=>
   dsimp only;let(m',w1,w2):=lC cV f p st I hI dX cH ak (st d m) acc hm' ⋯ (λx hx=>hT x (bP _ hx)) (λx hx=>hi x (bP _ hx)) (λx hx=>he x (bP _ hx))
   show#[m',w1,by rw[w2,C0,hp];rfl]
  |true=>
   have q3:=he d dA hp m acc hm;dsimp only;rw[q3];dsimp only;have q4:(gM g (st d m) acc)[last]?=!(.own acc):=by rw[dX,<- hk];show lB
   rw[q4];dsimp only;rw[i8 ⋯];have q5:(gM g (st d m) acc).set last (.own (acc++[f d]))=gM g (st d m) (acc++[f d]):=by rw[dX,<- hk];show mZ
   rw[q5];let(m',w1,w2):=lC cV f p st I hI dX cH ak (st d m) (acc++[f d]) hm' (by rw[eP,Ap];lia) (λx hx=>hT x (bP _ hx)) (λx hx=>hi x (bP _ hx)) (λx hx=>he x (bP _ hx))
   apply#[m',w1,?_];rw[w2,C0,hp];simp
def QF{α:Type}(cV:α->D)(f:α->D)(p:α->Bool)(st:α->G->G)(dX:last=g.length+kk)(cH:∀d m,m.length=kk->(st d m).length=kk) :
  ∀(ak:List α) (m:G) (acc:List D),m.length=kk->acc.length+ak.length<=lim->
  (∀d∈ak,∀m acc,m.length=kk->T.set (cV d) (gM g m acc)=!(gM g (st d m) acc))->
  (∀d∈ak,∀m acc,m.length=kk->jU rn bor k c (gM g (st d m) acc)=!(p d,gM g (st d m) acc))->
  (∀d∈ak,p d=true->∀m acc,m.length=kk->fP rn bor k e (gM g (st d m) acc)=!(f d,gM g (st d m) acc))->
  ∃m',m'.length=kk/\Fj rn bor k T last c e (ak.map cV) (gM g m acc)=!(gM g m' (acc++(ak.filter p).map f)):=
 lC cV f p st (λm=>m.length=kk) (λ_ h=>h) dX cH
def mG{α:Type}{kk nn:Nat}{T:Tg}{it:Ex}{c:Option Ex}{e:Ex}(ak:List α)(cV:α->D)(f:α->D)(p:α->Bool)(st:α->G->G)(hw:cz rn bor k T.jT it g=!(ak.map cV,g1))(hn:nn=g1.length)(hb:(T.ix.any λi=>decide (i∈bor))=false)(hl:ak.length<=lim)(cH:∀d m,m.length=kk->(st d m).length=kk)
  (hT:∀d∈ak,∀m acc,m.length=kk->T.set (cV d) (gM g1 m acc)=!(gM g1 (st d m) acc))
  (hi:∀d∈ak,∀m acc,m.length=kk->jU rn bor k c (gM g1 (st d m) acc)=!(p d,gM g1 (st d m) acc))
  (he:∀d∈ak,p d=true->∀m acc,m.length=kk->fP rn bor k e (gM g1 (st d m) acc)=!(f d,gM g1 (st d m) acc)) :
  fQ rn bor k nn kk T it c e g=!((ak.filter p).map f,g1):=by
 subst hn;let(m',w1,w2):=QF cV f p st rfl cH ak (List.replicate kk .no) [] ⋯ (by simpa using hl) hT hi he
 delta fQ;rw[hw];dsimp only;rw[i8 #[rfl,hb],Km,w2];dsimp only;have:(gM g1 m' ([]++(ak.filter p).map f))[g1.length+kk]?=!(.own ([]++(ak.filter p).map f)):=by rw[<- w1];show lB
 rw[this];rw[uU,A5]
def qo{j kk:Nat}{d:D}{m:G}{acc:List D}(hj:g.length<=j)(hk:j - g.length<m.length):(Tg.nm j).set d (gM g m acc)=!(gM g (m.set (j - g.length) (.dat d)) acc):=by
 exact some ((gM g m acc).set j (.dat d))=_;have:=j5 (g:=g) (acc:=acc) (s:=.dat d) hk;rw[show g.length+(j - g.length)=j by lia]at this
 rw[this]
abbrev uV(g:G)(j:Nat)(d:D)(G':G):Prop:=(∀i,i<g.length->G'[i]?=g[i]?)/\G'[j]?=!(.dat d)
def xK{α:Type}{kk nn j:Nat}{it:Ex}{c:Option Ex}{e:Ex}(ak:List α)(cV:α->D)(p:α->Bool)(f:α->D)(hw:cz rn bor k false it g=!(ak.map cV,g1))(hn:nn=g1.length)(hj1:g1.length<=j)(hj2:j<g1.length+kk)(hb:j∉bor)(hl:ak.length<=lim)
  (hi:∀a∈ak,∀G',uV g1 j (cV a) G'->jU rn bor k c G'=!(p a,G')) (he:∀a∈ak,p a=true->∀G',uV g1 j (cV a) G'->fP rn bor k e G'=!(f a,G')) :
  fQ rn bor k nn kk (.nm j) it c e g=!((ak.filter p).map f,g1):=by
 have sees:∀(a:α) (m:G) (acc:List D),m.length=kk->uV g1 j (cV a) (gM g1 (m.set (j - g1.length) (.dat (cV a))) acc):=λa m acc hm=>by
  apply#[λi hi=>ji hi,?_]
  have:=cO (g:=g1) (m:=m.set (j - g1.length) (.dat (cV a))) (acc:=acc) (i:=j - g1.length) (by simp;lia)
  rw[show g1.length+(j - g1.length)=j by lia]at this
  rw[this,hV ⋯]
 apply mG ak cV f p (λa m=>m.set (j - g1.length) (.dat (cV a))) hw hn (by simp[Tg.ix,hb]) hl (λd m hm=>by simpa using hm) (λa _ m acc hm=>qo (kk:=kk) hj1 ⋯) (λa ha m acc hm=>hi a ha _ (sees a m acc hm)) λa ha hp m acc hm=>he a ha hp _ (sees a m acc hm)
def filter_all{α:Type}(l:List α):l.filter (λ_=>true)=l:=List.filter_eq_self.mpr λ_ _=>rfl
def qq{α:Type}(ak:List α)(cV:α->D)(f:α->D)(hw:cz rn bor k false it g=!(ak.map cV,g1))(hn:nn=g1.length)(hj1:g1.length<=j)(hj2:j<g1.length+kk)(hb:j∉bor)(hl:ak.length<=lim)
  (he:∀a∈ak,∀G',uV g1 j (cV a) G'->fP rn bor k e G'=!(f a,G')):fQ rn bor k nn kk (.nm j) it none e g=!(ak.map f,g1):=by
 have:=xK (c:=none) ak cV (λ_=>true) f hw hn hj1 hj2 hb hl (λ_ _ _ _=>rfl) λa ha _ G' hG=>he a ha G' hG
 rw[filter_all]at this;show this
abbrev iQ(g:G)(j1 j2:Nat)(d1 d2:D)(G':G):Prop:=(∀i,i<g.length->G'[i]?=g[i]?)/\G'[j1]?=!(.dat d1)/\G'[j2]?=!(.dat d2)
def cS{α:Type}(ak:List α)(bw bT:α->D)(p:α->Bool)(f:α->D)(hw:cz rn bor k true it g=!(ak.map λa=>.tup [bw a,bT a],g1))(hn:nn=g1.length)(hj1:g1.length<=j1)(hj1':j1<g1.length+kk)(hj2:g1.length<=j2)(hj2':j2<g1.length+kk)(iZ:j1≠j2)(hb1:j1∉bor)(hb2:j2∉bor)(hl:ak.length<=lim)
  (hi:∀a∈ak,∀G',iQ g1 j1 j2 (bw a) (bT a) G'->jU rn bor k c G'=!(p a,G')) (he:∀a∈ak,p a=true->∀G',iQ g1 j1 j2 (bw a) (bT a) G'->fP rn bor k e G'=!(f a,G')) :
  fQ rn bor k nn kk (.tp [j1,j2]) it c e g=!((ak.filter p).map f,g1):=by
 have sees:∀(a:α) (m:G) (acc:List D),m.length=kk->iQ g1 j1 j2 (bw a) (bT a) (gM g1 ((m.set (j1 - g1.length) (.dat (bw a))).set (j2 - g1.length) (.dat (bT a))) acc):=λa m acc hm=>by
  apply#[λi hi=>ji hi,?_,?_]
  .
   have:=cO (g:=g1) (m:=(m.set (j1 - g1.length) (.dat (bw a))).set (j2 - g1.length) (.dat (bT a))) (acc:=acc) (i:=j1 - g1.length) (by simp;lia)
   rw[show g1.length+(j1 - g1.length)=j1 by lia]at this
   rw[this,fI ⋯,hV ⋯]
  .
   have:=cO (g:=g1) (m:=(m.set (j1 - g1.length) (.dat (bw a))).set (j2 - g1.length) (.dat (bT a))) (acc:=acc) (i:=j2 - g1.length) (by simp;lia)
   rw[show g1.length+(j2 - g1.length)=j2 by lia]at this
   rw[this,hV (by simp;lia)]
 apply mG ak (λa=>.tup [bw a,bT a]) f p (λa m=>(m.set (j1 - g1.length) (.dat (bw a))).set (j2 - g1.length) (.dat (bT a))) hw hn (by simp[Tg.ix,hb1,hb2]) hl (λd m hm=>by simpa using hm) (λa _ m acc hm=>?_) (λa ha m acc hm=>hi a ha _ (sees a m acc hm)) λa ha hp m acc hm=>he a ha hp _ (sees a m acc hm)
 have q1:=j5 (g:=g1) (m:=m) (acc:=acc) (i:=j1 - g1.length) (s:=.dat (bw a)) ⋯;have q2:=j5 (g:=g1) (m:=m.set (j1 - g1.length) (.dat (bw a))) (acc:=acc) (i:=j2 - g1.length) (s:=.dat (bT a)) (by simp;lia)
 rw[show g1.length+(j1 - g1.length)=j1 by lia]at q1
 rw[show g1.length+(j2 - g1.length)=j2 by lia]at q2
 exact some (((gM g1 m acc).set j1 (.dat (bw a))).set j2 (.dat (bT a)))=_;rw[q1,q2]
def zY{α:Type}(ak:List α)(bw bT:α->D)(f:α->D)(hw:cz rn bor k true it g=!(ak.map λa=>.tup [bw a,bT a],g1))(hn:nn=g1.length)(hj1:g1.length<=j1)(hj1':j1<g1.length+kk)(hj2:g1.length<=j2)(hj2':j2<g1.length+kk)(iZ:j1≠j2)(hb1:j1∉bor)(hb2:j2∉bor)(hl:ak.length<=lim)
  (he:∀a∈ak,∀G',iQ g1 j1 j2 (bw a) (bT a) G'->fP rn bor k e G'=!(f a,G')):fQ rn bor k nn kk (.tp [j1,j2]) it none e g=!(ak.map f,g1):=by
 have:=cS (c:=none) ak bw bT (λ_=>true) f hw hn hj1 hj1' hj2 hj2' iZ hb1 hb2 hl (λ_ _ _ _=>rfl) λa ha _ G' hG=>he a ha G' hG
 rw[filter_all]at this;show this
def Cd(I:Nat->G->Prop)(step:∀m g,I (m+1) g->∃g1 g2,c g=!(true,g1)/\b g1=!(.nx,g2)/\I m g2)(fin:∀g,I 0 g->c g=!(false,g)) :
  ∀m N g,m<N->I m g->∃g',I 0 g'/\LK c b N g=!(.nx,g')
 | 0,N+1,g,_,h=>#[g,h,by delta LK;rw[fin g h]]
 |m+1,N+1,g,hN,h=>by
  let(g1,g2,q1,q2,q3):=step m g h;let(g',w1,w2):=Cd I step fin m N g2 ⋯ q3;show#[g',w1,by delta LK;rw[q1];dsimp only;rw[q2];show w2]
def bS{α:Type}(cV:α->D)(I:List α->G->Prop)(step:∀a l g,I (a::l) g->∃g1 g2,T.set (cV a) g=!g1/\b g1=!(.nx,g2)/\I l g2):∀l g,I l g->∃g',I [] g'/\fE T b (l.map cV) g=!(.nx,g')
 | [],g,h=>#[g,h,rfl]
 |a::l,g,h=>by
  let(g1,g2,q1,q2,q3):=step a l g h;let(g',w1,w2):=bS cV I step l g2 q3;show#[g',w1,by rw[List.map_cons];delta fE;rw[q1];dsimp only;rw[q2];show w2]
end
def ints_map(l: ~~~0):bX (l.map .int)=!l:=by
 induction l with
 |nil=>rfl
 |cons a l ih=>simp[bX,ih]
def QG(l:List Bool):vO (l.map .bl)=!l:=by
 induction l with
 |nil=>rfl
 |cons a l ih=>simp[vO,ih]
def qu(l: ~~~5)(h:∀x∈l,x≠[]):eH (l.map λx=>.tup (x.map .int))=!l:=by
 induction l with
 |nil=>rfl
 |cons a l ih=>
  have ha:=h a dA;cases a with
  |nil=>show absurd rfl ha
  |cons x a=>
   have:=ints_map (x::a);simp only[List.map_cons]at this ⊢
   simp only[eH,this,ih λy hy=>h y (bP _ hy)]
def FG(a: ~~~0)(l: ~~~5):bX ((a::l).map λ(x: ~~~0)=>.tup (x.map .int))=none:=rfl
def Ko(l:List D):mj .len [.tup l]=!(.dat (.int l.length)):=rfl
def Kp(l:List D):mj .len [.lst l]=!(.dat (.int l.length)):=rfl
def qw(l:List D):mj .len [.fix l]=!(.dat (.int l.length)):=rfl
def FH(l:List D):mj .list [.tup l]=!(.new l):=rfl
def FJ(l:List D):mj .list [.lst l]=!(.new l):=rfl
def zZ(l:List D):mj .tuple [.lst l]=!(.dat (.tup l)):=rfl
def z6(l:List D):mj .tuple [.tup l]=!(.dat (.tup l)):=rfl
def QH(i j:Int):mj .max [.int i,.int j]=!(.dat (.int (if j > i then j else i))):=rfl
def QJ(i j:Int):mj .min [.int i,.int j]=!(.dat (.int (if j<i then j else i))):=rfl
def Xd(l:List Bool):mj .all [.lst (l.map .bl)]=!(.dat (.bl (l.all id))):=by simp only[mj,Si,QG]
def iR(l: ~~~0)(h:l.length<64):mj .sorted [.lst (l.map .int)]=!(.new ((bH l).map .int)):=by simp only[mj,Si,bE,ints_map,h,CD]
def fG(l: ~~~5)(hn:∀x∈l,x≠[])(h:l.length<64):mj .sorted [.lst (l.map λx=>.tup (x.map .int))]=!(.new ((aZ ez l).map λx=>.tup (x.map .int))):=by
 cases l with
 |nil=>rfl
 |cons a l=>have e:=qu (a::l) hn;simp only[mj,Si,bE,FG,e,h,CD]
def gw:∀a b:List Int,dc (a.map .int) (b.map .int)=decide (a=b)
 | [],[]=>rfl
 | [],_::_=>rfl
 |_::_,[]=>rfl
 |x::a,y::b=>by
  simp only[List.map_cons,dc,gw a b,B4,Bool.decide_and];rfl
def dI(a: ~~~0):dR (a.map .int)=true:=by
 induction a with
 |nil=>rfl
 |cons x a ih=>simp[dR,fM,ih]
def dJ(a: ~~~0):deps (a.map .int)=0:=by
 induction a with
 |nil=>rfl
 |cons x a ih=>simp[deps,dep,ih]
def sM(a b: ~~~0):jx (.tup (a.map .int)) (.tup (b.map .int))=true:=by simp[jx,fM,dI,dep,dJ]
def qz(a b: ~~~0):jx (.lst (a.map .int)) (.lst (b.map .int))=true:=by simp[jx,fM,dI,dep,dJ]
def Xe(a b: ~~~0):eY .Eq (.tup (a.map .int)) (.tup (b.map .int))=!(decide (a=b)):=by simp only[eY,sM,CD,bV,gw]
def Kq(a b: ~~~0):eY .NotEq (.tup (a.map .int)) (.tup (b.map .int))=!((not (decide (a=b)))):=by simp only[eY,sM,CD,bV,gw]
def Xg(a b: ~~~0):eY .Eq (.lst (a.map .int)) (.lst (b.map .int))=!(decide (a=b)):=by simp only[eY,qz,CD,bV,gw]
def z7(a b: ~~~0):eY .NotEq (.lst (a.map .int)) (.lst (b.map .int))=!((not (decide (a=b)))):=by simp only[eY,qz,CD,bV,gw]
def Xh(a b:Int):eY .Eq (.int a) (.int b)=!(decide (a=b)):=rfl
def Xi(a b:Int):eY .NotEq (.int a) (.int b)=!((not (decide (a=b)))):=rfl
def Xj(a b:Int):eY .Lt (.int a) (.int b)=!(decide (a<b)):=rfl
def Xk(a b:Int):eY .LtE (.int a) (.int b)=!(decide (a<=b)):=rfl
def Xl(a b:Int):eY .Gt (.int a) (.int b)=!(decide (a > b)):=rfl
def Xm(a b:Int):eY .GtE (.int a) (.int b)=!(decide (a ≥ b)):=rfl
def QK(a b:Int):qM .Add (.int a) (.int b)=!(.dat (.int (a+b))):=rfl
def QL(a b:Int):qM .Sub (.int a) (.int b)=!(.dat (.int (a - b))):=rfl
def ix_t(l:List D)(i:Int):zJ (.tup l) (.int i)=L2.gU l i:=rfl
def ix_l(l:List D)(i:Int):zJ (.lst l) (.int i)=L2.gU l i:=rfl
def ix_f(l:List D)(i:Int):zJ (.fix l) (.int i)=L2.gU l i:=rfl
def jj{α:Type}(l:List α)(i:Nat)(h:i<l.length):L2.gU l (i:Int)=some l[i]:=by delta L2.gU L2.yO;simp[h]
def xM(l: ~~~0)(i:Nat)(h:i<l.length):L2.gU (l.map D.int) (i:Int)=!(.int l[i]):=by
 rw[jj _ _ (by simpa using h)]
 simp
def is_tup(l:List D):g9 (nJ (.tup l)) "tuple"=true:=rfl
def Xn(i:Int):g9 (nJ (.int i)) "int"=true:=rfl
def Kr(i:Int):g9 (nJ (.int i)) "bool"=false:=rfl
def iS(m:Nat):cD 0 m=((List.range m).map λ(k:Nat)=>(k:Int)).map .int:=by simp[cD]
def aq(m:Nat)(h:m<=1000):m<=lim:=l7 h ⋯
def aM(i:Int)(h:0<=i/\i<=1000):LC i=true:=by delta LC;simp only[fN];lia
section
def bq(h:fx.np=1):bM rn fx k [.dat d] g1=(cF rn k fx [d]).map λr=>(r,g1):=mF (ds:=[d]) h.symm
def bB(h:fx.np=2):bM rn fx k [.dat d,.dat e] g1=(cF rn k fx [d,e]).map λr=>(r,g1):=mF (ds:=[d,e]) h.symm
def Ce(h:fx.np=3):bM rn fx k [.dat d,.dat e,.dat f] g1=(cF rn k fx [d,e,f]).map λr=>(r,g1):=mF (ds:=[d,e,f]) h.symm
end
structure iT(fns:List Fx)(rn:Nat->Rn):Prop where
 e:∀(n:Nat) (bor:List Nat) (k:Nat) (x:Ex) (g:G),(rn (n+1)).e bor k x g=aU (rn n) bor k fns x g
 t:∀(n:Nat) (bor:List Nat) (k:Nat) (x:Ex) (g:G),(rn (n+1)).t bor k x g=stepT (rn n) bor k x g
 b:∀(n:Nat) (bor:List Nat) (k:Nat) (x:List Sm) (g:G),(rn (n+1)).b bor k x g=cK (rn n) bor k x g
 x:∀(n:Nat) (bor:List Nat) (k:Nat) (x:Ex) (g:G),(rn (n+1)).x bor k x g=wZ (rn n) bor k fns x g
 xt:∀(n:Nat) (bor:List Nat) (k:Nat) (x:Ex) (g:G),(rn (n+1)).xt bor k x g=uI (rn n) bor k x g
 xb:∀(n:Nat) (bor:List Nat) (k:Nat) (x:List Sm) (g:G),(rn (n+1)).xb bor k x g=jW (rn n) bor k x g
def QM(fns:List Fx):iT fns (run fns):=#[λ_ _ _ _ _=>rfl,λ_ _ _ _ _=>rfl,λ_ _ _ _ _=>rfl,λ_ _ _ _ _=>rfl,λ_ _ _ _ _=>rfl,λ_ _ _ _ _=>rfl]
abbrev L5(rn:Rn)(k:Nat)(fx:Fx)(ds:List D):Option Nat:=match rn.xb [] k fx.body (dW fx.n (YL ds))with
 |!(ci,_)=>!ci
 |none=>none
def FN(hl:ds.length=fx.np):wY rn fx k (ds.map .dat) g1=(L5 rn k fx ds).map λr=>(r,g1):=by
 delta wY L5;rw[xH,xJ,Cb];simp only[eJ,hl,List.map_nil];cases rn.xb [] k fx.body (dW fx.n (ds.map .dat))with
 |none=>rfl
 |some p=>rfl
section
def uW(h:fx.np=1):wY rn fx k [.dat d] g1=(L5 rn k fx [d]).map λr=>(r,g1):=FN (ds:=[d]) h.symm
end
def evZ:=And.intro @is_tup (And.intro @Xn (And.intro @Kr (And.intro @Ko (And.intro @Kp (And.intro @FH (And.intro @FJ (And.intro @zZ (And.intro @z6 (And.intro @QH (And.intro @QJ (And.intro @Xd (And.intro @Xe (And.intro @Kq (And.intro @Xg (And.intro @z7 (And.intro @Xh (And.intro @Xi (And.intro @Xj (And.intro @Xk (And.intro @Xl (And.intro @Xm (And.intro @QK (And.intro @QL (And.intro @ix_t (And.intro @ix_l @ix_f)))))))))))))))))))))))))
meta abbrev unfZ{fns rn}(U:iT fns rn):=And.intro U.e (And.intro U.t (And.intro U.b (And.intro U.x (And.intro U.xt U.xb))))
end Ev
set_option hygiene false in
local macro_rules | `(tactic|simp! [$u:term,$ls,*])=>`(tactic|simp[-List.map_map,-List.map_cons,-List.map_nil,Ev.unfZ $u,Ev.evZ,Ev.wZ,Ev.uI,Ev.pW,Ev.jW,Ev.xArgs,Ev.xW,Ev.isW,Ev.cK,Ev.aH,Ev.aU,Ev.stepT,Ev.argsR,Ev.pS,Ev.fP,Ev.toD,Ev.norm,Ev.pk,Ev.vL,Ev.dW,Ev.dG,Ev.YL,Ev.JV,Ev.orF,Ev.wV,Ev.JW,Ev.Wg,Ev.Ia,$ls,*])
set_option hygiene false in
local macro_rules | `(~~~$x)=>`(Ev.D.tup (List.map Ev.D.int $x))
set_option hygiene false in
local macro_rules|`(∅)=>`((λx=>~~~x))
set_option hygiene false in
local macro_rules|`(~~~5)=>`(List (List Int))
local macro_rules|`(~~~0)=>`(List Int)
local macro_rules|`(~~~3)=>`(("__debug__":Str))
local macro_rules|`(~~~4)=>`([(.ret (.val (.bl false)))])
namespace Ev
abbrev bO:Fx:=#[2,4,[(.ite (.ix ⇑0 ↥1) [(.set 2 (.bin .Mod (.ix ⇑0 ↥0) ⇑1)),(.item 0 ↥0 (.bin .FloorDiv (.ix ⇑0 ↥0) ⇑1)),(.ret ⇑2)] []),(.item 0 ↥0 (.bin .Mod (.bin .Add (.bin .Mult (.ix ⇑0 ↥0) ↥48271) ↥29) ↥2147483647)),(.set 3 (.bin .Mod (.bin .Add (.bin .Add (.bin .Mult (.ix ⇑0 ↥0) (.ix ⇑0 ↥0)) (.bin .Mult ↥39373 (.ix ⇑0 ↥0))) ↥7) ↥2147483629)),(.set 3 (.bin .Mod (.bin .Add (.bin .Mult ⇑3 ⇑3) (.bin .Mult ↥16807 ⇑3)) ↥2147483587)),(.ret (.bin .Mod (.bin .FloorDiv ⇑3 ↥8) ⇑1))]]
abbrev m5:Fx:=#[2,2,[(.ite (.cmp .Lt ⇑1 (.blt .len [⇑0])) [(.ret (.ix ⇑0 ⇑1))] []),(.ret ↥0)]]
abbrev mH(ci:Nat):Fx:=#[2,3,[(.set 2 (.call ci [⇑0,⇑1])),(.ite (.cmp .GtE ⇑2 (.bin .Pow ↥10 ↥18)) [(.ret (.lst [(.bin .Sub ⇑2 (.bin .Pow ↥10 ↥18)),(.val (.bl true))]))] []),(.ret (.lst [(.bin .Mod ⇑2 ↥2147483647),(.val (.bl false))]))]]
abbrev Tn(m:Nat)(t: ~~~0):Prop:=bH t=(List.range m).map λ(k:Nat)=>(k:Int)
def Tn.length(h:Tn m t):t.length=m:=by have:=(aV t).length_eq;rw[h]at this;simpa using this.symm
def Tn.mem(h:Tn m t):x∈t ↔ 0<=x/\x<m:=by
 rw[<- (aV t).mem_iff,h,fR];constructor
 . rintro⟨k,hk,rfl⟩;have:=t6.mp hk;lia
 . rintro⟨h1,h2⟩;show#[x.toNat,t6.mpr ⋯,by lia]
def Tn.of(h:t.Perm ((List.range m).map λ(k:Nat)=>(k:Int))):Tn m t:=by apply (fj h.symm ?_).symm;rw[List.pairwise_map];show List.pairwise_lt_range.imp λh=>by lia
def Tn.perm(h:Tn m t):t.Perm ((List.range m).map λ(k:Nat)=>(k:Int)):=by rw[<- h];show (aV t).symm
abbrev gt(t: ~~~0)(i:Int):Int:=t.getD i.toNat 0
def qA{t: ~~~0}{i:Int}(h:0<=i/\i<t.length):L2.gU (t.map D.int) i=!(.int (gt t i)):=by
 obtain⟨n,rfl⟩:∃n:Nat,i=n:=#[i.toNat,by lia]
 rw[xM t n ⋯];simp[gt,(by lia:n<t.length)]
abbrev nums(m:Nat): ~~~0:=(List.range m).map λ(k:Nat)=>(k:Int)
def fH:x∈nums m ↔ 0<=x/\x<m:=by
 delta nums;rw[fR];constructor
 . rintro⟨k,hk,rfl⟩;have:=t6.mp hk;lia
 . rintro⟨h1,h2⟩;show#[x.toNat,t6.mpr ⋯,by lia]
def bQ(m:Nat):(nums m).length=m:=by simp[nums]
def Tn.Ks{m:Nat}{t: ~~~0}(h:Tn m t){i:Int}(hi:0<=i/\i<m):0<=gt t i/\gt t i<m:=by
 apply h.mem.mp ?_;have hl:=h.length;have:i.toNat<t.length:=by lia
 delta gt;rw[l4,i3 this];show yB _
def Tn.nodup(h:Tn m t):t.Nodup:=by apply (h.perm.nodup_iff).mpr ?_;rw[List.nodup_iff_pairwise_ne,List.pairwise_map];show List.nodup_range.imp λh=>by lia
def Tn.inj{m:Nat}{t: ~~~0}(h:Tn m t){i j:Int}(hi:0<=i/\i<m)(hj:0<=j/\j<m)(e:gt t i=gt t j):i=j:=by
 have hl:=h.length;have h1:i.toNat<t.length:=by lia
 have h2:j.toNat<t.length:=by lia
 delta gt at e;rw[l4,i3 h1,l4,i3 h2]at e;have:=(List.getElem_inj h.nodup).mp (show t[i.toNat]=t[j.toNat]from e)
 lia
def jk{α β:Type}{f:α->β}{l:List α}(h:l.Nodup)(hf:∀x∈l,∀y∈l,f x=f y->x=y):(l.map f).Nodup:=by
 induction l with
 |nil=>show t8
 |cons a l ih=>
  let(h1,h2):=hZ.mp h;apply hZ.mpr #[λhm=>?_,ih h2 λx hx y hy=>hf x (bP _ hx) y (bP _ hy)]
  let(b,hb,e):=fR.mp hm;have:=hf b (bP _ hb) a dA e;show h1 (this▸hb)
def Cg(m:Nat):Tn m (nums m):=Tn.of (y7 _)
def aG{rn:Rn}{bor:List Nat}{k:Nat}{st:Sm}{rest:List Sm}{g g1:G}(h:aH rn bor k st g=!(.nx,g1)):cK rn bor k (st::rest) g=cK rn bor k rest g1:=by
 conv=>lhs;unfold cK
 rw[h]
meta abbrev St(s:Int)(fl:Bool):Slot:=.own [.int s,.bl fl]
def uX(a b:Int)(h:0<b):qM .Mod (.int a) (.int b)=!(.dat (.int (a % b))):=by simp[qM,lq,h]
def Ci(a b:Int)(h:0<b/\b<18446744073709551616):qM .FloorDiv (.int a) (.int b)=!(.dat (.int (a / b))):=by simp[qM,lq,h]
def QS(a b:Int)(h:0<b/\b<1073741824):qM .FloorDiv (.int a) (.int b)=!(.dat (.int (a / b))):=Ci a b ⋯
def lD(a b:Int)(h:(-(2 ^ 64)<a/\a<2 ^ 64)\/(-(2 ^ 64)<b/\b<2 ^ 64)):qM .Mult (.int a) (.int b)=!(.dat (.int (a * b))):=by
 have:zI a b=true:=by delta zI;simp only[AG,fN,l6];show h
 simp[qM,JT,this]
section
variable{ti mi:Nat}(U:iT fns rn)(hT:fns[ti]?=!bO)
include U
def Xo(s:Int)(fl:Bool)(m:Int)(hm:0<m/\m<18446744073709551616):∃r s' s2 s3,0<=r/\r<m/\(rn (n+20)).b [0] k bO.body [St s fl,‹m›,.no,.no]=!(.rt ‹r›,[St s' fl,‹m›,s2,s3]):=by
 have i0:L2.gU [D.int s,D.bl fl] 0=!(.int s):=rfl;have i1:L2.gU [D.int s,D.bl fl] 1=!(.bl fl):=rfl;have x0':L2.yO 2 0=!0:=rfl;cases fl with
 |true=>apply#[s % m,s / m,.dat (.int (s % m)),.no,Int.emod_nonneg _ ⋯,Int.emod_lt_of_pos _ hm.1,?_];delta bO;simp! [U,i0,i1,x0',uX _ _ hm.1,Ci _ _ hm]
 |false=>generalize hs1:(s * 48271+29) % 2147483647=s1;have j0:L2.gU [D.int s1,D.bl false] 0=!(.int s1):=rfl;generalize hs2:(s1 * s1+39373 * s1+7) % 2147483629=s2;generalize hs3:(s2 * s2+16807 * s2) % 2147483587=s3;apply#[s3 / 8 % m,s1,.no,‹s3›,Int.emod_nonneg _ ⋯,Int.emod_lt_of_pos _ hm.1,?_];delta bO;simp! [U,i0,i1,x0',uX,lD s 48271 (.inr ⋯),hs1,j0,lD s1 s1 (.inl ⋯),lD 39373 s1 (.inl ⋯),hs2,lD s2 s2 (.inl ⋯),lD 16807 s2 (.inl ⋯),hs3,QS _ _ (show (0:Int)<8/\(8:Int)<1073741824 by decide),hm.1]
def Ku{i:Nat}{s:Int}{fl:Bool}{m:Int}(hi:g[i]?=!(St s fl))(hm:0<m/\m<18446744073709551616):∃r s',0<=r/\r<m/\bM (rn (n+20)) bO k [.var i,‹m›] g=!(‹r›,g.set i (St s' fl)):=by let(r,s',s2,s3,h1,h2,h):=Xo U s fl m hm;apply#[r,s',h1,h2,?_];have hp:dW bO.n [St s fl,‹m›]=[St s fl,‹m›,.no,.no]:=rfl;delta bM;simp only[vars,cR,hi,List.map_cons,List.map_nil];rw[hp,h];rfl
def dN{i:Nat}{s:Int}{fl:Bool}{m:Int}(hi:g[i]?=!(St s fl))(hm:0<m/\m<1000):∃r s',0<=r/\r<m/\bM (rn (n+20)) bO k [.var i,‹m›] g=!(‹r›,g.set i (St s' fl)):=Ku U hi ⋯
omit U in
def Kv(a: ~~~0):eY .NotEq (.lst (a.map .int)) (.lst [])=!((not (decide (a=[])))):=z7 a []
omit U in
def Xp(h:i<l):L2.yO l (i:Int)=!i:=by delta L2.yO;rw[i8 ⋯,i8 ⋯];simp
omit U in
def sN:∀(l: ~~~0) (j:Nat),(l.map D.int).eraseIdx j=(l.eraseIdx j).map .int
 | [],_=>rfl
 |_::_,0=>rfl
 |a::l,j+1=>by simp[sN l j]
omit U in
def xN:∀(l: ~~~0) (j:Nat) (h:j<l.length),([l[j]]++l.eraseIdx j).Perm l
 |a::l,0,_=>y7 _
 |a::l,j+1,h=>(List.Perm.swap a _ _).trans ((xN l j (by simpa using h)).cons a)
end
section
variable{ci:Nat}(U:iT fns rn)(hC:fns[ci]?=!m5)
include U hC
omit U hC in
def tQ:qM .Pow (.int 10) (.int 18)=!(.dat (.int (10 ^ 18))):=by rfl
def Kw(ns: ~~~0)(hl:ns.length<=1000)(j:Nat):∃(s:Int) (fl:Bool),cF (rn (n+40)) (k+1) (mH ci) [.fix (ns.map .int),.int j]=!(.new [.int s,.bl fl]):=by
 obtain⟨v,q⟩:∃v:Int,∀n,cF (rn (n+20)) k m5 [.fix (ns.map .int),.int j]=!‹v›:=by
  by_cases h:j<ns.length
  .
   apply#[ns[j],λn=>?_]
   have h':(j:Int)<ns.length:=by lia
   have:=xM ns j h;delta cF m5;simp! [U,qw,h',this]
  .
   apply#[0,λn=>?_]
   have h' : ¬ (j:Int)<ns.length:=by lia
   delta cF m5;simp! [U,qw,h']
 by_cases hv:(1000000000000000000:Int)<=v
 . apply#[v - 1000000000000000000,true,?_];delta cF mH;simp! [U,hC,bB (fx:=m5) rfl,q,tQ,hv,aq 2 ⋯]
 . apply#[v % 2147483647,false,?_];delta cF mH;simp! [U,hC,bB (fx:=m5) rfl,q,tQ,hv,aq 2 ⋯,uX]
end
abbrev cG:Fx:=#[1,1,[(.ret (.and [(.zH ⇑0 "int"),(.not (.zH ⇑0 "bool"))]))]]
abbrev bK(w:Nat):Fx:=#[3,3,[(.ret (.and [(.call w [⇑0]),(.chain ⇑1 [.LtE,.LtE] [⇑0,⇑2])]))]]
abbrev isInt:D->Bool
 |.int _=>true
 |_=>false
abbrev Xq(lo hi:Int):D->Bool
 |.int i=>decide (lo<=i/\i<=hi)
 |_=>false
def xO:∀{l:List D},(∀x∈l,fM x=true)->dR l=true
 | [],_=>rfl
 |d::l,h=>by
  exact (fM d&&dR l)=true;rw[h d dA,xO λx hx=>h x (bP _ hx)]
  rfl
def xP:∀{l:List D},(∀x∈l,dep x<=c)->deps l<=c
 | [],_=>tS _
 |d::l,h=>by
  have h1:=h d dA;have h2:=xP λx hx=>h x (bP _ hx)
  exact max (dep d) (deps l)<=c;lia
def QT{l:List D}{lo hi r:Int}(h:0<=r/\r<l.length)(a:l.all (Xq lo hi)=true):∃v:Int,(lo<=v/\v<=hi)/\L2.gU l r=!(.int v):=by
 obtain⟨j,rfl⟩:∃j:Nat,r=j:=#[r.toNat,by lia]
 have hj:j<l.length:=by lia
 have b:=lL.mp a _ (yB hj);have q:=jj l j hj;generalize l[j]=x at b q;cases x with
 |int v=>show#[v,lS b,q]
 |_=>cases b
section
variable{w wi mw it ci cj:Nat}(U:iT fns rn)
include U
def lE(d:D):cF (rn (n+6)) k cG [d]=!(.dat (.bl (isInt d))):=by
 have e:isInt d=(g9 (nJ d) "int" && (not (g9 (nJ d) "bool"))):=by cases d <;> rfl
 rw[e];delta cF cG;cases h:g9 (nJ d) "int" <;> simp! [U,h]
variable(hW:fns[w]?=!cG)
include hW
def sO(d:D)(lo hi:Int):cF (rn (n+14)) (k+1) (bK w) [d,.int lo,.int hi]=!(.dat (.bl (Xq lo hi d))):=by
 have no (e:isInt d=false):cF (rn (n+14)) (k+1) (bK w) [d,.int lo,.int hi]=!(.dat (.bl false)):=by delta cF bK;simp! [U,hW,bq (fx:=cG) rfl,lE U,e]
 delta cF bK;cases d with
 |int i=>
  by_cases h1:lo<=i
  .
   by_cases h2:i<=hi
   . simp! [U,hW,bq (fx:=cG) rfl,lE U,isInt,Xq,h1]
   . simp! [U,hW,bq (fx:=cG) rfl,lE U,isInt,Xq,h1]
  . simp! [U,hW,bq (fx:=cG) rfl,lE U,isInt,Xq,h1]
 |_=>show no rfl
end
abbrev fJ(wi:Nat):Fx:=#[2,2,[(.ite (.or [(.not (.zH ⇑1 "tuple")),(.cmp .NotEq (.blt .len [⇑1]) ↥2)]) (~~~4) []),(.ret (.and [(.blt .all [(.comp 2 2 (.nm 3) ⇑1 none (.call wi [⇑3,↥0,(.bin .Sub ⇑0 ↥1)]))]),(.cmp .Lt (.ix ⇑1 ↥0) (.ix ⇑1 ↥1))]))]]
abbrev qB:Fx:=#[1,1,[(.ret (.blt .all [(.comp 1 2 (.nm 2) (.iL ↥1 (.blt .len [⇑0])) none (.cmp .Lt (.ix ⇑0 (.bin .Sub ⇑2 ↥1)) (.ix ⇑0 ⇑2)))]))]]
abbrev fK(wi it ri:Nat):Fx:=#[1,3,[(.ite (.or [(.not (.zH ⇑0 "tuple")),(.cmp .NotEq (.blt .len [⇑0]) ↥2)]) (~~~4) []),(.tgt (.tp [1,2]) ⇑0),(.ite (.or [(.not (.call wi [⇑1,↥1,↥6])),(.not (.zH ⇑2 "tuple"))]) (~~~4) []),(.ret (.and [(.blt .all [(.comp 3 2 (.nm 4) ⇑2 none (.call it [⇑1,⇑4]))]),(.call ri [⇑2])]))]]
abbrev bh(iw ci:Nat):Fx:=#[1,1,[(.ite (.not (.call iw [⇑0])) [(.raise ci (.val (.str (PySem.Str.ofString "no web"))))] [])]]
abbrev W(m:Nat)(ah: ~~~5):D:=.tup [.int m,.tup (ah.map ∅)]
structure Wb(m:Nat)(ah: ~~~5):Prop where
 tie:∀x∈ah,∃a b:Int,x=[a,b]/\0<=a/\a<b/\b<m
 Ph:ah.Pairwise λx y=>HT.lexLt x y=true
 len:ah.length<=15
def Wb.two{m:Nat}{ah: ~~~5}(h:Wb m ah):(ah.map ∅)=ah.map λx=>.tup [.int (gt x 0),.int (gt x 1)]:=u8 λx hx=>by
 let(a,b,rfl,_):=h.tie x hx;rfl
section
variable{wh wi it ri iw ci:Nat}(U:iT fns rn)
include U
variable(hW:fns[wh]?=!cG)(hI:fns[wi]?=!(bK wh))
include hW hI
def Ky(m:Nat)(a b:Int)(h:0<=a/\a<b/\b<m):cF (rn (n+40)) (k+3) (fJ wi) [.int m,~~~[a,b]]=!(.dat (.bl true)):=by
 have w:=λn k=>qq (rn:=rn (n+24)) (bor:=[]) (k:=k+2) (g:=[‹m›,.dat (~~~[a,b])]) (g1:=[‹m›,.dat (~~~[a,b])]) (kk:=2) (nn:=2) (j:=3) (it:=.slot 1) (e:=.call wi [⇑3,↥0,(.bin .Sub ⇑0 ↥1)]) [a,b] .int (λ_=>.bl true) (by simp! [U,cz]) rfl ⋯ ⋯ ⋯ (aq _ ⋯) λx hx G' hG=>by
  have h0:=hG.1 0 ⋯;have hx':(0:Int)<=x/\x<=m - 1:=by simp only[dS,oI]at hx;lia
  simp! [U,hG.2,h0,hI,Ce (fx:=bK wh) rfl,sO U hW,Xq,hx']
 have e1:[a,b].map (λ_=>D.bl true)=([true,true]).map .bl:=rfl
 have i0:L2.gU ([a,b].map D.int) 0=!(.int a):=rfl;have i1:L2.gU ([a,b].map D.int) 1=!(.int b):=rfl;delta cF fJ;simp! [U,w,e1,i0,i1,h]
omit hW hI in
def Xr(m:Nat)(ah: ~~~5)(h:Wb m ah):cF (rn (n+40)) k qB [.tup (ah.map ∅)]=!(.dat (.bl true)):=by
 have hl:=h.len;have w:=λn k=>qq (rn:=rn (n+16)) (bor:=[]) (k:=k) (g:=[.dat (.tup (ah.map ∅))]) (g1:=[.dat (.tup (ah.map ∅))]) (kk:=2) (nn:=1) (j:=2) (it:=.iL ↥1 (.blt .len [⇑0])) (e:=.cmp .Lt (.ix ⇑0 (.bin .Sub ⇑2 ↥1)) (.ix ⇑0 ⇑2)) (List.range (ah.length - 1)) (λ(k:Nat)=>.int (1+k:Int)) (λ_=>.bl true) (by
   have e:((ah.length:Int) - 1).toNat=ah.length - 1:=by lia
   simp! [U,cz,aM 1 ⋯,aM (ah.length:Int) ⋯,e,cD]) rfl ⋯ ⋯ ⋯ (aq _ (by simp;lia)) λj hj G' hG=>by
  have h0:G'[0]?=!(.dat (.tup (ah.map ∅))):=hG.1 0 ⋯
  have hj':=t6.mp hj;have j1:L2.gU (ah.map ∅) (1+(j:Int) - 1)=!(~~~(ah[j]'⋯)):=by rw[show (1+(j:Int) - 1)=((j:Nat):Int)by lia,jj _ _ (by simp;lia)];simp
  have j2:L2.gU (ah.map ∅) (1+(j:Int))=!(~~~(ah[j+1]'⋯)):=by rw[show (1+(j:Int))=((j+1:Nat):Int)by lia,jj _ _ (by simp;lia)];simp
  have hlt:HT.lexLt (ah[j]'⋯) (ah[j+1]'⋯)=true:=y8.mp h.Ph j (j+1) ⋯ ⋯ ⋯;have hc:eY .Lt (~~~(ah[j]'⋯)) (~~~(ah[j+1]'⋯))=!true:=by simp only[eY,ltF,ints_map,hlt]
  simp! [U,hG.2,h0,j1,j2,hc]
 have e1:(List.range (ah.length - 1)).map (λ_=>D.bl true)=((List.range (ah.length - 1)).map λ_=>true).map .bl:=by rw[List.map_map];rfl
 have e2:((List.range (ah.length - 1)).map λ_=>true).all id=true:=by simp
 delta cF qB;simp! [U,w,e1,e2]
variable(nW:fns[it]?=!(fJ wi))(hR:fns[ri]?=!qB)
include nW hR
def Kz(m:Nat)(ah: ~~~5)(hm:1<=m/\m<=6)(h:Wb m ah):cF (rn (n+60)) (k+5) (fK wi it ri) [W m ah]=!(.dat (.bl true)):=by
 have hl:=h.len;have w:=λn k=>qq (rn:=rn (n+50)) (bor:=[]) (k:=k+4) (g:=[.dat (W m ah),‹m›,.dat (.tup (ah.map ∅))]) (g1:=[.dat (W m ah),‹m›,.dat (.tup (ah.map ∅))]) (kk:=2) (nn:=3) (j:=4) (it:=.slot 2) (e:=.call it [⇑1,⇑4]) ah ∅ (λ_=>.bl true) (by simp! [U,cz]) rfl ⋯ ⋯ ⋯ (aq _ ⋯) λx hx G' hG=>by
  have h1:=hG.1 1 ⋯;let(a,b,rfl,hab):=h.tie x hx;simp! [U,hG.2,h1,nW,bB (fx:=fJ wi) rfl,Ky U hW hI m a b hab]
 have e1:ah.map (λ_=>D.bl true)=(ah.map λ_=>true).map .bl:=by rw[List.map_map];rfl
 have e2:(ah.map λ_=>true).all id=true:=by simp
 have q:=λn k=>Xr U (n:=n) (k:=k) m ah h
 have ty:g9 (nJ (W m ah)) "tuple"=true:=rfl;have bl:mj .len [W m ah]=!‹2›:=rfl;have st:∀s1 s2,Tg.set (.tp [1,2]) (W m ah) [.dat (W m ah),s1,s2]=![.dat (W m ah),‹m›,.dat (.tup (ah.map ∅))]:=λ_ _=>rfl
 delta cF fK;simp! [U,ty,bl,st,hI,Ce (fx:=bK wh) rfl,sO U hW,Xq,(show (1:Int)<=m/\(m:Int)<=6 by lia),w,e1,e2,hR,bq (fx:=qB) rfl,q]
variable(yx:fns[iw]?=!(fK wi it ri))
include yx
def j6(m:Nat)(ah: ~~~5)(hm:1<=m/\m<=6)(h:Wb m ah):cF (rn (n+70)) (k+6) (bh iw ci) [W m ah]=!(.dat .non):=by delta cF bh;simp! [U,yx,bq (fx:=fK wi it ri) rfl,Kz U hW hI nW hR m ah hm h]
end
abbrev tm(t: ~~~0)(x: ~~~0): ~~~0:=if gt t (gt x 0)<gt t (gt x 1)then [gt t (gt x 0),gt t (gt x 1)]else [gt t (gt x 1),gt t (gt x 0)]
abbrev tw(t: ~~~0)(ah: ~~~5): ~~~5:=aZ ez (ah.map (tm t))
def bC(a b:Int):gt [a,b] 0=a/\gt [a,b] 1=b:=#[rfl,rfl]
def lF(t: ~~~0)(a b:Int):tm t [a,b]=if gt t a<gt t b then [gt t a,gt t b]else [gt t b,gt t a]:=rfl
abbrev Pr(m:Nat)(x: ~~~0):Prop:=∃a b:Int,x=[a,b]/\0<=a/\a<b/\b<m
def Cj(h:Tn m t)(hx:Pr m x):Pr m (tm t x):=by
 let(a,b,rfl,h1,h2,h3):=hx;have ha:=h.Ks (i:=a) ⋯;have hb:=h.Ks (i:=b) ⋯;have iZ:gt t a≠gt t b:=λe=>by have:=h.inj ⋯ ⋯ e;lia
 rw[lF];split
 . show#[_,_,rfl,by lia,by lia,by lia]
 . show#[_,_,rfl,by lia,by lia,by lia]
def z8(h:Tn m t)(hx:Pr m x)(hy:Pr m y)(e:tm t x=tm t y):x=y:=by
 let(a,b,rfl,h1,h2,h3):=hx;let(c,d,rfl,h4,h5,h6):=hy;rw[lF,lF]at e;have i1:∀i j:Int,(0<=i/\i<m)->(0<=j/\j<m)->gt t i=gt t j->i=j:=λi j hi hj e=>h.inj hi hj e
 split at e <;> split at e <;> simp only[B4,and_true]at e
 .
  have:=i1 a c ⋯ ⋯ e.1;have:=i1 b d ⋯ ⋯ e.2
  subst_vars;rfl
 . have:=i1 a d ⋯ ⋯ e.1;have:=i1 b c ⋯ ⋯ e.2;lia
 . have:=i1 b c ⋯ ⋯ e.1;have:=i1 a d ⋯ ⋯ e.2;lia
 .
  have:=i1 b d ⋯ ⋯ e.1;have:=i1 a c ⋯ ⋯ e.2
  subst_vars;rfl
def dO(h:l.Nodup):(aZ ez l).Pairwise λx y=>HT.lexLt x y=true:=by
 have h1:=gP (O:=ez) l;have h2:(aZ ez l).Nodup:=(bf l).nodup_iff.mpr h;apply (h1.and h2).imp λ{x y} #[q1,q2]=>?_
 cases e:HT.lexLt x y with
 |true=>rfl
 |false=>show absurd (lX x y e q1) q2
def Wb.nodup(h:Wb m ah):ah.Nodup:=by show h.Ph.imp λ{x y} q e=>by rw[e,jf]at q;cases q
def Wb.turn(h:Wb m ah)(ht:Tn m t):Wb m (tw t ah):=by
 have hp:=bf (O:=ez) (ah.map (tm t));apply#[λx hx=>?_,dO (jk h.nodup λx hx y hy e=>z8 ht (h.tie x hx) (h.tie y hy) e),?_]
 . let(y,hy,rfl):=fR.mp (hp.mem_iff.mp hx);show Cj ht (h.tie y hy)
 . delta tw;rw[hp.length_eq,eJ];show h.len
abbrev Xs(i j:Int): ~~~0:=if i<j then [i,j]else [j,i]
def qE{i j:Int}(h:i≠j):Xs i j=Xs j i:=by delta Xs;split <;> split <;> first |rfl |lia
def qF{i j:Int}(h:i<j):Xs i j=[i,j]:=i8 h
abbrev Fc(i:Int)(x: ~~~0):Option Int:=if gt x 0=i then some (gt x 1)else if gt x 1=i then some (gt x 0)else none
abbrev nb(i:Int)(ah: ~~~5): ~~~0:=ah.filterMap (Fc i)
abbrev has(i:Int)(x: ~~~0):Bool:=decide (gt x 0=i)||decide (gt x 1=i)
def KC{m:Nat}{ah: ~~~5}(h:Wb m ah)(i y:Int):y∈nb i ah ↔ Xs i y∈ah:=by
 delta nb;rw[BM];constructor
 .
  rintro⟨x,hx,e⟩;let(a,b,rfl,h1,h2,h3):=h.tie x hx;delta Fc at e;rw[(bC a b).1,(bC a b).2]at e;split at e
  . ext q;cases e;subst q;rw[qF h2];show hx
  .
   split at e
   . ext q;cases e;subst q;rw[qE ⋯,qF h2];show hx
   . cases e
 .
  intro hx;apply#[_,hx,?_];delta Xs at hx ⊢
  delta Fc;split
  . rw[(bC i y).1,(bC i y).2,i8 rfl]
  . ext q;rw[i7 q]at hx;let(a,b,e,h1,h2,h3):=h.tie _ hx;injection e with e1 e2;injection e2 with e2 _;rw[(bC y i).1,(bC y i).2,i7 ⋯,i8 rfl]
abbrev ext(m:Nat)(l: ~~~5): ~~~5:=l.flatMap λr=>((nums m).filter λx=>(not (decide (x∈r)))).map λx=>r++[x]
abbrev aO(m:Nat):Nat->List (~~~0)
 | 0=>[[]]
 |s+1=>ext m (aO m s)
abbrev turnsOf(m:Nat): ~~~5:=aO m m
def iU(m:Nat):∀s,(aO m s).length<=m ^ s
 | 0=>eD 1
 |s+1=>by
  have ih:=iU m s;have:∀l:List (~~~0),(ext m l).length<=l.length * m:=λl=>by
   induction l with
   |nil=>simp[ext]
   |cons r l ih=>
    delta ext at ih ⊢
    rw[AT,eP,eJ,i9];have:=wP (λx=>(not (decide (x∈r)))) (nums m)
    rw[bQ]at this;lia
  show l7 (this _) (Nat.mul_le_mul_right m ih)
abbrev QV(m:Nat):Bool:=(turnsOf m).all (λt=>decide (bH t=nums m))&&decide ((turnsOf m).length<=720)
def okT1:QV 1=true:=by decide +kernel
def okT2:QV 2=true:=by decide +kernel
def okT3:QV 3=true:=by decide +kernel
def okT4:QV 4=true:=by decide +kernel
def okT5:QV 5=true:=by decide +kernel
def okT6:QV 6=true:=by decide +kernel
def gR(hm:1<=m/\m<=6):(∀t∈turnsOf m,Tn m t)/\(turnsOf m).length<=720:=by
 have k:QV m=true:=six (p:=λm=>QV m=true) hm okT1 okT2 okT3 okT4 okT5 okT6
 delta QV at k;simp only[fN,lL,l6]at k;show#[λt ht=>k.1 t ht,k.2]
abbrev eS(i:Nat):Fx:=#[2,2,[(.ite (.JR ⇑1 ["tuple", "list"]) [(.ite (.or [(.cmp .NotEq (.zH ⇑0 "tuple") (.zH ⇑1 "tuple")),(.cmp .NotEq (.zH ⇑0 "list") (.zH ⇑1 "list"))]) (~~~4) []),(.ite (.cmp .NotEq (.blt .len [⇑0]) (.blt .len [⇑1])) (~~~4) []),(.ret (.blt .all [(.comp 2 3 (.tp [3,4]) (.zip ⇑0 ⇑1) none (.call i [⇑3,⇑4]))]))] []),(.ret (.and [(.cmp .Eq ⇑0 ⇑1),(.cmp .Eq (.zH ⇑0 "bool") (.zH ⇑1 "bool"))]))]]
def QW{l:List D}{r:Int}(h:0<=r/\r<l.length):∃x∈l,L2.gU l r=!x:=by
 obtain⟨j,rfl⟩:∃j:Nat,r=j:=#[r.toNat,by lia]
 have hj:j<l.length:=by lia
 show#[l[j],yB hj,jj l j hj]
def Cp(l m:List D)(h:l.length+m.length<=1000):qM .Add (.lst l) (.lst m)=!(.new (l++m)):=by
 exact (if l.length+m.length<=lim then _ else _)=_
 rw[i8 (aq _ h)]
abbrev Sd:Nat->D->Prop
 |_,.int _=>True
 |_,.bl _=>True
 |_,.str _=>True
 |_,.non=>True
 |c+1,.tup l=>l.length<=1000/\∀x∈l,Sd c x
 |c+1,.lst l=>l.length<=1000/\∀x∈l,Sd c x
 |_,_=>False
def xQ:∀l:List D,ur l l=l.map λa=>D.tup [a,a]
 | []=>rfl
 |a::l=>by
  exact D.tup [a,a]::ur l l=_;rw[xQ l];rfl
section
variable(U:iT fns rn)
include U
def xR(hS:fns[i]?=!(eS i))(ih:∀n k d,Sd c d->cF (rn (n+20 * c+20)) (k+c) (eS i) [d,d]=!(.dat (.bl true)))(hw:∀n k,cz (rn (n+2)) [] k true (.zip ⇑0 ⇑1) [.dat d,.dat d]=!(ur l l,[.dat d,.dat d]))(hl:l.length<=1000)(h:∀x∈l,Sd c x):∀n k,fQ (rn (n+20 * c+23)) [] (k+c+1) 2 3 (.tp [3,4]) (.zip ⇑0 ⇑1) none (.call i [⇑3,⇑4]) [.dat d,.dat d]=!((l.map λ_=>true).map .bl,[.dat d,.dat d]):=λn k=>by
 rw[List.map_map];show zY l id id _ (by rw[hw (n+20 * c+21)];rw[xQ];rfl) rfl ⋯ ⋯ ⋯ ⋯ ⋯ ⋯ ⋯ (aq _ hl) λa ha G' hG=>by
  have h1:=hG.2.1;have h2:=hG.2.2;have q:=ih (n+2) k a (h a ha);rw[show n+2+20 * c+20=n+20 * c+22 by lia]at q
  simp! [U,h1,h2,hS,bB (fx:=eS i) rfl,q]
def gA(d:D)(h:Sd 0 d):cF (rn (n+20)) k (eS i) [d,d]=!(.dat (.bl true)):=by
 cases d with
 |int j=>delta cF eS;simp! [U,nJ,g9,eY,jx,bV,fM,dep]
 |bl j=>delta cF eS;simp! [U,nJ,g9,eY,jx,bV,fM,dep]
 |str j=>delta cF eS;simp! [U,nJ,g9,eY,jx,bV,fM,dep]
 |non=>delta cF eS;simp! [U,nJ,g9,eY,jx,bV,fM,dep]
 |_=>show h.elim
def uY(hS:fns[i]?=!(eS i)):∀(c n k:Nat) (d:D),Sd c d->cF (rn (n+20 * c+20)) (k+c) (eS i) [d,d]=!(.dat (.bl true))
 | 0,n,k,d,h=>gA U d h
 |c+1,n,k,d,h=>by
  have ih:=uY hS c;rw[show n+20 * (c+1)+20=n+20 * c+40 by lia,show k+(c+1)=k+c+1 by lia]
  cases d with
  |int j=>show gA U _ trivial
  |bl j=>show gA U _ trivial
  |str j=>show gA U _ trivial
  |non=>show gA U _ trivial
  |tup l=>
   have w:=xR U hS ih (d:=.tup l) (λn k=>by simp! [U,cz,bE]) h.1 h.2
   have w':=w (n+13) k;rw[show n+13+20 * c+23=n+20 * c+36 by lia]at w'
   delta cF eS;simp! [U,nJ,g9,eY,jx,bV,fM,dep,w']
  |lst l=>
   have w:=xR U hS ih (d:=.lst l) (λn k=>by simp! [U,cz,bE]) h.1 h.2
   have w':=w (n+13) k;rw[show n+13+20 * c+23=n+20 * c+36 by lia]at w'
   delta cF eS;simp! [U,nJ,g9,eY,jx,bV,fM,dep,w']
  |_=>show h.elim
end
section
variable{k n:Nat}{g g1:G}{rn:Nat->Rn}{fns:List Fx}{i:Nat}(U:iT fns rn)
include U
omit U in
def FP(j:Nat):nums (j+1)=nums j++[(j:Int)]:=by simp[nums,List.range_succ]
end
abbrev QX(N:Int->~~~0)(s y:Int):Prop:=∀P:Int->Prop,P s->(∀x z,P x->z∈N x->P z)->P y
structure Rk(N:Int->~~~0)(s:Int)(L: ~~~0):Prop where
 nd:L.Nodup
 bg:s∈L
 cl:∀x z,x∈L->z∈N x->z∈L
 rc:∀y∈L,QX N s y
def Rk.perm{N:Int->~~~0}{s:Int}{L L': ~~~0}(h:Rk N s L)(h':Rk N s L'):L.Perm L':=
 (List.perm_ext_iff_of_nodup h.nd h'.nd).mpr λy=>#[λhy=>h.rc y hy (·∈L') h'.bg h'.cl,λhy=>h'.rc y hy (·∈L) h.bg h.cl]
def Rk.QZ{N:Int->~~~0}{s:Int}{L L': ~~~0}(h:Rk N s L)(p:L'.Perm L):Rk N s L':=
 #[p.nodup_iff.mpr h.nd,p.mem_iff.mpr h.bg,λx z hx hz=>p.mem_iff.mpr (h.cl x z (p.mem_iff.mp hx) hz),λy hy=>h.rc y (p.mem_iff.mp hy)]
structure Nb(m:Nat)(N:Int->~~~0):Prop where
 sym:∀x y,y∈N x->x∈N y
 qL:∀x y,y∈N x->0<=y/\y<m
 nd:∀x,(N x).Nodup
def QX.sym{m:Nat}{N:Int->~~~0}(hN:Nb m N){s y:Int}(h:QX N s y):QX N y s:=
 h (λy=>QX N y s) (λ_ h _=>h) λx z hx hz P p0 pl=>hx P (pl z x p0 (hN.sym x z hz)) pl
def Rk.at{m:Nat}{N:Int->~~~0}(hN:Nb m N){s y:Int}{L: ~~~0}(h:Rk N s L)(hy:y∈L):Rk N y L:=
 #[h.nd,hy,h.cl,λz hz P p0 pl=>h.rc z hz P ((h.rc y hy).sym hN P p0 pl) pl]
structure Gr(m:Nat)(N:Int->~~~0)(s:Int)(r: ~~~0):Prop where
 nd:r.Nodup
 bg:s∈r
 qL:∀x∈r,0<=x/\x<m
 rc:∀y∈r,QX N s y
def mJ{m:Nat}{r: ~~~0}(h1:r.Nodup)(h2:∀x∈r,0<=x/\x<m):r.length<=m:=by
 have:=h1.length_le_of_subset λx hx=>fH.mpr (h2 x hx)
 rwa [bQ]at this
abbrev mK(N:Int->~~~0)(r: ~~~0)(h:Int): ~~~0:=r++(N h).filter λo=>(not (decide (o∈r)))
abbrev rowS(N:Int->~~~0)(r: ~~~0): ~~~0:=r.foldl (mK N) r
abbrev qG(N:Int->~~~0):Nat->~~~0->List Int
 | 0,r=>r
 |i+1,r=>qG N i (rowS N r)
def Gr.add{m:Nat}{N:Int->~~~0}{s h:Int}{r: ~~~0}(hN:Nb m N)(g:Gr m N s r)(hh:QX N s h):Gr m N s (mK N r h):=by
 have hf:∀x,x∈(N h).filter (λo=>(not (decide (o∈r)))) ↔ x∈N h/\x∉r:=λx=>by simp
 apply#[sT.mpr #[g.nd,(hN.nd h).sublist DA,λa ha b hb e=>((hf b).mp hb).2 (e▸ha)],l8 _ g.bg,λx hx=>?_,λy hy=>?_]
 .
  rcases oP.mp hx with hx |hx
  . show g.qL x hx
  . show hN.qL h x ((hf x).mp hx).1
 .
  rcases oP.mp hy with hy |hy
  . show g.rc y hy
  . show λP p0 pl=>pl h y (hh P p0 pl) ((hf y).mp hy).1
def fold_add{m:Nat}{N:Int->~~~0}{s:Int}(hN:Nb m N):∀(hs r: ~~~0),(∀h∈hs,QX N s h)->Gr m N s r->Gr m N s (hs.foldl (mK N) r)/\(∃e,hs.foldl (mK N) r=r++e)/\∀h∈hs,∀y∈N h,y∈hs.foldl (mK N) r
 | [],r,_,g=>#[g,#[[],(l9 r).symm],λh hh=>nomatch hh]
 |h::hs,r,hh,g=>by
  let(q1,(e,q2),q3):=fold_add hN hs (mK N r h) (λx hx=>hh x (bP _ hx)) (g.add hN (hh h dA))
  rw[List.foldl_cons];apply#[q1,#[(N h).filter (λo=>(not (decide (o∈r))))++e,by rw[q2,mK,AR]],λx hx y hy=>?_]
  rcases dS.mp hx with rfl |hx
  .
   rw[q2];apply l8 _ ?_;by_cases hr:y∈r
   . show l8 _ hr
   . show gN _ (i4.mpr #[hy,by simp[hr]])
  . show q3 x hx y hy
def xS{N:Int->~~~0}{r: ~~~0}(h:rowS N r=r):∀i,qG N i r=r
 | 0=>rfl
 |i+1=>by delta qG;rw[h];show xS h i
def Cq{m:Nat}{N:Int->~~~0}{s:Int}(hN:Nb m N):∀(i:Nat) (r: ~~~0),Gr m N s r->m+1<=r.length+i->Rk N s (qG N i r)
 | 0,r,g,h=>absurd (mJ g.nd g.qL) ⋯
 |i+1,r,g,h=>by
  let(q1,(e,q2),q3):=fold_add hN r r g.rc g;cases e with
  |nil=>rw[l9]at q2;have yu:=q2;rw[xS yu];show#[g.nd,g.bg,λx z hx hz=>by have:=q3 x hx z hz;rwa [q2]at this,g.rc]
  |cons a e=>apply Cq hN i _ q1 ?_;exact _<=(r.foldl (mK N) r).length+i;rw[q2,eP,i9];lia
abbrev cp(N:Int->~~~0)(m:Nat)(s:Int): ~~~0:=bH (qG N m [s])
section
variable{m:Nat}{N:Int->~~~0}(hN:Nb m N){s y:Int}
include hN
def z9(hs:0<=s/\s<m):Gr m N s [s]:=#[hZ.mpr #[oI,t8],hU.mpr rfl,λx hx=>by rw[hU.mp hx];show hs,λx hx P p0 _=>by rw[hU.mp hx];show p0]
def Aa(hs:0<=s/\s<m):Rk N s (qG N m [s]):=Cq hN m [s] (z9 hN hs) (by rw[Ap];lia)
def m6(hs:0<=s/\s<m):Rk N s (cp N m s):=(Aa hN hs).QZ (aV _)
def Cr(hs:0<=s/\s<m){L: ~~~0}(h:Rk N s L):bH L=cp N m s:=fj ((aV L).trans (h.perm (Aa hN hs))) (cg L)
def Rk.qL{L: ~~~0}(hs:0<=s/\s<m)(h:Rk N s L):∀x∈L,0<=x/\x<m:=λx hx=>h.rc x hx (λx=>0<=x/\x<m) hs λx z _ hz=>hN.qL x z hz
def Sw(hs:0<=s/\s<m)(hy:y∈cp N m s):cp N m y=cp N m s:=by have h:=m6 hN hs;have h2:=Cr hN (h.qL hN hs y hy) (h.at hN hy);rw[<- h2];show (fj (y7 _) (cg _)).symm
def Sx(hs:0<=s/\s<m):(cp N m s).Pairwise (· < ·):=
 ((cg _).and (m6 hN hs).nd).imp λ{a b} h=>by have:=h.1;have:=h.2;lia
def cp_hd(hs:0<=s/\s<m):gt (cp N m s) 0∈cp N m s/\∀y∈cp N m s,gt (cp N m s) 0<=y:=by
 have h1:=(m6 hN hs).bg;have h2:=Sx hN hs;revert h1 h2;cases cp N m s with
 |nil=>intro h1;cases h1
 |cons a l=>
  intro _ h2;apply#[dA,λy hy=>?_]
  rcases dS.mp hy with rfl |hy
  . show Int.le_refl _
  . show Int.le_of_lt ((rV.mp h2).1 y hy)
def KD(hs:0<=s/\s<m):1<=(cp N m s).length/\(cp N m s).length<=m:=by have h:=m6 hN hs;show#[List.length_pos_of_mem h.bg,mJ h.nd (h.qL hN hs)]
omit hN in
abbrev ld(N:Int->~~~0)(m:Nat)(s:Int):Bool:=decide (gt (cp N m s) 0=s)
omit hN in
abbrev bR(N:Int->~~~0)(m p:Nat): ~~~5:=((nums p).filter (ld N m)).map (cp N m)
omit hN in
def FQ(p:Nat):bR N m (p+1)=if ld N m p=true then bR N m p++[cp N m p]else bR N m p:=by
 delta bR;rw[FP,List.filter_append];split
 . ext h;rw[C0,i8 h,oC];rfl
 . ext h;rw[C0,i7 h,oC];show l9 _
def KH(p:Nat)(hp:p<m):(bR N m p).filter (λc=>decide ((p:Int)∈c))=[] ↔ ld N m p=true:=by
 have lK:0<=(p:Int)/\(p:Int)<m:=by lia
 delta bR ld;rw[List.filter_eq_nil_iff];constructor
 .
  intro h;apply Decidable.byContradiction λiZ=>?_
  let(h1,h2):=cp_hd hN lK;have h3:=h2 p (m6 hN lK).bg;have hr:=(m6 hN lK).qL hN lK _ h1;have e:=Sw hN lK h1;apply h (cp N m (gt (cp N m p) 0)) (fR.mpr #[_,i4.mpr #[fH.mpr ⋯,?_],rfl]) ?_
  . rw[e];show mM rfl
  . rw[e];show mM (m6 hN lK).bg
 .
  intro h c hc;let(s,hs,rfl):=fR.mp hc;let(hs1,hs2):=i4.mp hs;have hs1:=fH.mp hs1;have hs':0<=s/\s<m:=by lia
  intro hin;have e:=Sw hN hs' (lS hin);have:=lS hs2;lia
end
abbrev YM(N:Int->~~~0)(ring done: ~~~0): ~~~0:=((ring.flatMap N).filter λo=>(not (decide (o∈done)))).foldl Sb.oneMore []
def Cv:∀(l ks: ~~~0),ks.Nodup->(l.foldl Sb.oneMore ks).Nodup/\∀x,x∈l.foldl Sb.oneMore ks ↔ x∈ks\/x∈l
 | [],ks,h=>#[h,λx=>by simp]
 |a::l,ks,h=>by
  have h1:(Sb.oneMore ks a).Nodup/\∀x,x∈Sb.oneMore ks a ↔ x∈ks\/x=a:=by
   delta Sb.oneMore;split
   . ext ha;show#[h,λx=>#[.inl,λq=>q.elim id λe=>e▸ha]]
   . ext ha;have p:=aV (a::ks);show#[p.nodup_iff.mpr (hZ.mpr #[ha,h]),λx=>by rw[p.mem_iff,dS,or_comm]]
  let(q1,q2):=Cv l (Sb.oneMore ks a) h1.1;rw[List.foldl_cons];apply#[q1,λx=>?_]
  rw[q2,h1.2,dS,or_assoc]
structure Bf(m:Nat)(N:Int->~~~0)(s:Int)(done ring: ~~~0):Prop where
 gr:Gr m N s (done++ring)
 cl:∀x z,x∈done->z∈N x->z∈done++ring
section
variable{m:Nat}{N:Int->~~~0}(hN:Nb m N){s:Int}{done ring: ~~~0}
include hN
def Bf.next(h:Bf m N s done ring):Bf m N s (done++ring) (YM N ring (done++ring)):=by
 let(q1,q2):=Cv ((ring.flatMap N).filter λo=>(not (decide (o∈done++ring)))) [] t8
 have hm:∀x,x∈YM N ring (done++ring) ↔ (∃y∈ring,x∈N y)/\x∉done++ring:=λx=>by
  delta YM;rw[q2,i4];simp
 have g:=h.gr;apply#[#[sT.mpr #[g.nd,q1,λa ha b hb e=>((hm b).mp hb).2 (e▸ha)],l8 _ g.bg,λx hx=>?_,λy hy=>?_],λx z hx hz=>?_]
 .
  rcases oP.mp hx with hx |hx
  . show g.qL x hx
  . let((y,_,hy),_):=(hm x).mp hx;show hN.qL y x hy
 .
  rcases oP.mp hy with hy |hy
  . show g.rc y hy
  . let((x,hx,hxy),_):=(hm y).mp hy;show λP p0 pl=>pl x y (g.rc x (gN _ hx) P p0 pl) hxy
 .
  by_cases hd:z∈done++ring
  . show l8 _ hd
  .
   rcases oP.mp hx with hx |hx
   . show l8 _ (h.cl x z hx hz)
   . show gN _ ((hm z).mpr #[#[x,hx,hz],hd])
omit hN in
def Bf.fin(h:Bf m N s done []):Rk N s done:=by have g:=h.gr;have c:=h.cl;rw[l9]at g c;show#[g.nd,g.bg,c,g.rc]
def Bf.one(hs:0<=s/\s<m):Bf m N s [] [s]:=#[z9 hN hs,λx z hx=>nomatch hx]
omit hN in
def Bf.len(h:Bf m N s done ring):done.length+ring.length<=m:=by
 have:=mJ h.gr.nd h.gr.qL
 rwa [eP]at this
end
def Ad{m:Nat}{x: ~~~0}(h:Pr m x){i y:Int}(e:Fc i x=!y):x=Xs i y/\0<=y/\y<m:=by
 let(a,b,rfl,h1,h2,h3):=h;delta Fc at e;rw[(bC a b).1,(bC a b).2]at e;split at e
 . ext q;cases e;subst q;show#[(qF h2).symm,by lia]
 .
  split at e
  . ext q;cases e;subst q;show#[by rw[qE ⋯,qF h2],by lia]
  . cases e
def m7{m:Nat}{ah: ~~~5}(h:Wb m ah):Nb m λi=>nb i ah:=by
 apply#[λx y hy=>?_,λx y hy=>?_,λx=>?_]
 .
  rw[KC h]at hy ⊢
  by_cases e:x=y
  . subst e;show hy
  . rw[qE λz=>e z.symm];show hy
 . let(p,hp,e):=BM.mp hy;show (Ad (h.tie p hp) e).2
 .
  apply List.pairwise_filterMap.mpr (h.nodup.imp_of_mem λ{a b} ha hb hab y e z f q=>hab ?_)
  subst q;rw[(Ad (h.tie a ha) e).1,(Ad (h.tie b hb) f).1]
abbrev FT(c: ~~~0)(a:Int):Int:=(c.idxOf a:Nat)
def Ae{c: ~~~0}(h:c.Pairwise (· < ·)){a b:Int}(ha:a∈c)(hb:b∈c)(hl:a<b):FT c a<FT c b:=by
 have h1:=A8 ha;have h2:=A8 hb;apply Decidable.byContradiction λhn=>?_
 delta FT at hn;have e1:=List.getElem_idxOf h1;have e2:=List.getElem_idxOf h2;rcases sK (c.idxOf b) (c.idxOf a)with q |q
 . have:=y8.mp h _ _ h2 h1 q;lia
 .
  have:c.idxOf a=c.idxOf b:=by lia
  lia
abbrev pw(c: ~~~0)(ah: ~~~5): ~~~5:=(ah.filter λx=>decide (gt x 0∈c)).map λx=>[FT c (gt x 0),FT c (gt x 1)]
def Q5(a b c d:Int):HT.lexLt [a,b] [c,d]=true ↔ a<c\/(a=c/\b<d):=by
 rw[HT.bD];by_cases e:a=c
 .
  rw[i8 e,HT.bD];by_cases f:b=d
  . rw[i8 f];show#[λz=>absurd z (by rw[jf];show t5),λz=>by lia]
  . rw[i7 f];lia
 . rw[i7 e];lia
section
variable{m:Nat}{ah: ~~~5}(h:Wb m ah){s:Int}(hs:0<=s/\s<m)
include h hs
def pw_cl{x: ~~~0}(hx:x∈ah)(h0:gt x 0∈cp (λi=>nb i ah) m s):gt x 1∈cp (λi=>nb i ah) m s:=by let(a,b,rfl,h1,h2,h3):=h.tie x hx;apply (m6 (m7 h) hs).cl a b h0 ?_;rw[KC h,qF h2];show hx
def pw_wb:Wb (cp (λi=>nb i ah) m s).length (pw (cp (λi=>nb i ah) m s) ah):=by
 have up:=Sx (m7 h) hs;have cl:=λx hx h0=>pw_cl h hs (x:=x) hx h0
 apply#[λx hx=>?_,?_,?_]
 . let(y,hy,rfl):=fR.mp hx;let(hy1,hy2):=i4.mp hy;have h0:=lS hy2;have h1:=cl y hy1 h0;let(a,b,rfl,q1,q2,q3):=h.tie y hy1;have:=Ae up h0 h1 q2;have hb:=A8 h1;apply#[_,_,rfl,Int.natCast_nonneg _,this,?_];show Int.ofNat_lt.mpr hb
 .
  delta pw;rw[List.pairwise_map];apply ((h.Ph.sublist DA).imp_of_mem λ{x y} hx hy hxy=>?_)
  let(N5,RP):=i4.mp hx;let(hy1,hy2):=i4.mp hy;have x0:=lS RP;have y0:=lS hy2;have x1:=cl x N5 x0;have y1:=cl y hy1 y0;let(a,b,rfl,_):=h.tie x N5;let(a',b',rfl,_):=h.tie y hy1;rw[Q5]at hxy ⊢
  rcases hxy with q |⟨q,q'⟩
  . show .inl (Ae up x0 y0 q)
  . show .inr #[by rw[show gt [a,b] 0=gt [a',b'] 0 from q],Ae up x1 y1 q']
 . delta pw;rw[eJ];show l7 (wP _ _) h.len
end
abbrev Q6(m a:Nat): ~~~5:=(List.range (m - (a+1))).map λ(j:Nat)=>[(a:Int),(a:Int)+1+(j:Int)]
abbrev pacc(m j:Nat): ~~~5:=((List.range j).map (Q6 m)).flatten
def sP(m j:Nat):pacc m (j+1)=pacc m j++Q6 m j:=by simp[pacc,List.range_succ]
def xT(m:Nat):∀j,(pacc m j).length<=j * m
 | 0=>by simp[pacc]
 |j+1=>by
  rw[sP,eP];have:=xT m j;have h2:(Q6 m j).length<=m:=by simp[Q6]
  lia
abbrev prs(m:Nat): ~~~5:=pacc m m
abbrev okP(m:Nat):Bool:=(prs m).all (λx=>match x with | [a,b]=>decide (0<=a)&&decide (a<b)&&decide (b<m) |_=>false)&&decide ((prs m).Nodup)&&decide ((prs m).length<=15)
def Q7{m:Nat}(hm:1<=m/\m<=6):okP m=true:=by refine six hm <;> decide +kernel
def Xu(hm:1<=m/\m<=6):(∀x∈prs m,Pr m x)/\(prs m).Nodup/\(prs m).length<=15:=by
 have:=Q7 hm;delta okP at this;simp only[fN,l6,lL]at this;let((h1,h2),h3):=this;apply#[λx hx=>?_,h2,h3]
 have:=h1 x hx;split at this
 . ext a b;simp only[fN,l6]at this;show#[a,b,rfl,this.1.1,this.1.2,this.2]
 . cases this
def Q8(a b:Int):mj .sorted [.lst [.int a,.int b]]=!(.new ((bH [a,b]).map .int)):=iR [a,b] ⋯
abbrev dM:Fx:=#[2,5,[(.set 2 (.lst [])),(.loop (.tp [3,4]) (.ix ⇑0 ↥1) [(.expr (.append 2 (.tup [(.blt .min [(.ix ⇑1 ⇑3),(.ix ⇑1 ⇑4)]),(.blt .max [(.ix ⇑1 ⇑3),(.ix ⇑1 ⇑4)])])))]),(.ret (.tup [(.ix ⇑0 ↥0),(.blt .tuple [(.blt .sorted [⇑2])])]))]]
abbrev jH(ti:Nat):Fx:=#[2,4,[(.set 2 (.wR ⇑1)),(.set 3 (.lst [])),(.while (.cmp .NotEq ⇑2 (.lst [])) [(.expr (.append 3 (.sG 2 (.call ti [⇑0,(.blt .len [⇑2])]))))]),(.ret (.blt .tuple [⇑3]))]]
abbrev xU(ti:Nat):List Sm:=[(.expr (.append 3 (.tup [(.ix (.lst [(.call ti [⇑0,⇑4]),(.bin .Sub ⇑4 ↥1),↥0,(.blt .max [↥0,(.bin .Sub ⇑4 ↥2)])]) ⇑2),⇑4])))]
abbrev gX(ti na mi:Nat):Fx:=#[2,5,[(.set 2 (.call ti [⇑0,↥4])),(.set 3 (.lst [])),(.loop (.nm 4) (.iL ↥1 ⇑1) (xU ti)),(.ret (.call na [(.tup [⇑1,(.blt .tuple [⇑3])]),(.call mi [⇑0,⇑1])]))]]
def mm_tm{m:Nat}{t: ~~~0}(ht:Tn m t){a b:Int}(h:0<=a/\a<b/\b<m):[if gt t b<gt t a then gt t b else gt t a,if gt t b > gt t a then gt t b else gt t a]=tm t [a,b]:=by
 have iZ:gt t a≠gt t b:=λe=>by have:=ht.inj ⋯ ⋯ e;lia
 rw[lF];by_cases q:gt t a<gt t b
 . rw[i7 ⋯,i8 ⋯,i8 q]
 . rw[i8 ⋯,i7 ⋯,i7 q]
abbrev KJ(j:Nat)(l: ~~~5):Prop:=l.length=j/\∀i,i<j->∃v:Int,l[i]?=![v,((i+1:Nat):Int)]/\0<=v/\v<=i
def KJ.more{j:Nat}{l: ~~~5}(h:KJ j l){v z:Int}(hz:z=1+(j:Int))(hv:0<=v/\v<z):KJ (j+1) (l++[[v,z]]):=by
 apply#[by rw[eP,h.1];rfl,λi hi=>?_]
 rcases sK i j with q |q
 . let(u,e,hu):=h.2 i q;show#[u,by rw[eA (by rw[h.1];show q)];show e,hu]
 .
  obtain rfl:i=j:=by lia
  apply#[v,?_,by lia,by lia]
  rw[fA (by rw[h.1];show eD _),h.1,DB,hz]
  exact some [v,1+(i:Int)]=_;rw[show (1:Int)+(i:Int)=((i+1:Nat):Int)by lia]
def KJ.at{j:Nat}{l: ~~~5}(h:KJ j l){x: ~~~0}(hx:x∈l):∃(i:Nat) (v:Int),i<j/\l[i]?=!x/\x=[v,((i+1:Nat):Int)]/\0<=v/\v<=i:=by
 let(i,hi,e):=List.mem_iff_getElem.mp hx;have hi':i<j:=by rw[<- h.1];show hi
 let(v,e2,hv):=h.2 i hi';rw[i3 hi,e]at e2;show#[i,v,hi',by rw[i3 hi,e],mP e2,hv]
def KJ.pr{j m:Nat}{l: ~~~5}(h:KJ j l)(hm:j<m):∀x∈l,Pr m x:=λx hx=>by
 let(i,v,hi,_,e,hv):=h.at hx;show#[v,_,e,by lia,by lia,by lia]
def KJ.nodup{j:Nat}{l: ~~~5}(h:KJ j l):l.Nodup:=by
 apply y8.mpr λa b ha hb hab e=>?_
 let(v,e1,_):=h.2 a (by rw[<- h.1];show ha)
 let(w,e2,_):=h.2 b (by rw[<- h.1];show hb)
 rw[i3 ha]at e1;rw[i3 hb,<- e,mP e1]at e2;have:=mP e2;injection this with _ q;lia
section
variable{bor:List Nat}{k n:Nat}{g g1:G}{rn:Nat->Rn}{fns:List Fx}{ti na mi:Nat}(U:iT fns rn)
include U
def qH(m:Nat)(hm:m<=60)(l: ~~~5)(hl:∀x∈l,Pr m x)(hn:l.length<=60)(t: ~~~0)(ht:Tn m t):cF (rn (n+20)) k dM [.tup [.int m,.tup (l.map ∅)],~~~t]=!(.dat (W m (aZ ez (l.map (tm t))))):=by
 have tl:=ht.length;let(g',(dn,a3,a4,h1,rfl),h3):=bS (T:=.tp [3,4]) (b:=(rn (n+19)).b [] k [(.expr (.append 2 (.tup [(.blt .min [(.ix ⇑1 ⇑3),(.ix ⇑1 ⇑4)]),(.blt .max [(.ix ⇑1 ⇑3),(.ix ⇑1 ⇑4)])])))]) (λx:List Int=>~~~x)
  (I:=λrest g=>∃(dn: ~~~5) (a3 a4:Slot),l=dn++rest/\g=[.dat (.tup [.int m,.tup (l.map ∅)]),.dat (~~~t),.own ((dn.map (tm t)).map ∅),a3,a4])
  (step:=λx rest g h=>by
   let(dn,a3,a4,h1,rfl):=h;let(a,b,rfl,hab):=hl x (by rw[h1];simp)
   have i1:L2.gU (t.map D.int) a=!(.int (gt t a)):=qA ⋯;have i2:L2.gU (t.map D.int) b=!(.int (gt t b)):=qA ⋯;have hdl:=eM (qS _) (aq (dn.length+1) (by rw[h1,eP]at hn;lia))
   apply#[[.dat (.tup [.int m,.tup (l.map ∅)]),.dat (~~~t),.own ((dn.map (tm t)).map ∅),‹a›,‹b›],[.dat (.tup [.int m,.tup (l.map ∅)]),.dat (~~~t),.own (((dn++[[a,b]]).map (tm t)).map ∅),‹a›,‹b›],rfl,?_,dn++[[a,b]],_,_,by rw[h1,AR];rfl,rfl]
   rw[oC,List.map_singleton,<- mm_tm ht hab];simp! [U,i1,i2,hdl,aq 2 ⋯];rfl) l [.dat (.tup [.int m,.tup (l.map ∅)]),.dat (~~~t),.own [],.no,.no] #[[],.no,.no,rfl,rfl]
 rw[l9]at h1;subst h1;have bs:=fG (l.map (tm t)) (λx hx e=>by
  let(y,hy,rfl):=fR.mp hx;let(a,b,e',_):=Cj ht (hl y hy);rw[e']at e;cases e) (by rw[eJ];lia)
 have i0:L2.gU [D.int (m:Int),.tup (l.map ∅)] 0=!(.int m):=rfl
 have i1:L2.gU [D.int (m:Int),.tup (l.map ∅)] 1=!(.tup (l.map ∅)):=rfl
 delta cF dM;simp! [U,cz,i0,i1,h3,bs];rfl
variable(hT:fns[ti]?=!bO)
include hT
def Cw{i:Nat}{s:Int}{fl:Bool}(m:Nat)(hi:g[i]?=!(St s fl))(hm:m<=60):∃(row: ~~~0) (s':Int),Tn m row/\bM (rn (n+50)) (jH ti) (k+1) [.var i,‹m›] g=!(.dat (~~~row),g.set i (St s' fl)):=by
 have hlm:=bQ m;have loop:=Cd (c:=(rn (n+49)).t [0] (k+1) (.cmp .NotEq ⇑2 (.lst []))) (b:=(rn (n+49)).b [0] (k+1) [(.expr (.append 3 (.sG 2 (.call ti [⇑0,(.blt .len [⇑2])]))))])
  (I:=λq g=>∃(s:Int) (left gB: ~~~0),left.length=q/\(gB++left).Perm (nums m)/\g=[St s fl,‹m›,.own (left.map .int),.own (gB.map .int)])
  (step:=λq g h=>by
   let(s,left,gB,h1,h2,rfl):=h;have aK:=h2.length_eq;rw[eP]at aK;let(r,s',q1,q2,q3):=dN U (n:=n+25) (k:=k) (g:=[St s fl,‹m›,.own (left.map .int),.own (gB.map .int)]) (i:=0) (m:=(left.length:Int)) rfl ⋯;obtain⟨j,rfl⟩:∃j:Nat,r=j:=#[r.toNat,by lia]
   have hj:j<left.length:=by lia
   have e1:(left.map D.int)[j]?=!(.int left[j]):=by simp[hj]
   have e2:=sN left j;have z1:=eM (qS _) (aq (left.length+1) ⋯);have z2:=eM (qS _) (aq (gB.length+1) ⋯);have iZ:left≠[]:=λe=>by rw[e]at hj;show absurd hj (w9 _)
   apply#[[St s fl,‹m›,.own (left.map .int),.own (gB.map .int)],[St s' fl,‹m›,.own ((left.eraseIdx j).map .int),.own ((gB++[left[j]]).map .int)],by simp! [U,Kv,iZ],?_,s',left.eraseIdx j,gB++[left[j]],?_,?_,rfl]
   . have HF:=q3;simp! [U,hT,HF,Xp hj,e1,e2,z1,z2];simp
   . rw[List.length_eraseIdx_of_lt hj];lia
   .
    apply List.Perm.trans ?_ h2;rw[AR];apply List.Perm.append_left _ ?_;show xN left j hj)
  (fin:=λg h=>by
   let(s,left,gB,h1,h2,rfl):=h;have:=List.eq_nil_of_length_eq_zero h1;simp! [U,Kv,this])
 let(g',(s',left,gB,q1,q2,rfl),q3):=loop m 100000 [St s fl,‹m›,.own ((nums m).map .int),.own []] ⋯ #[s,nums m,[],hlm,by simp,rfl]
 have hnil:=List.eq_nil_of_length_eq_zero q1;subst hnil;rw[l9]at q2;apply#[gB,s',Tn.of q2,?_];have hr:cD 0 m=(nums m).map .int:=iS m;have hp:dW (jH ti).n [St s fl,‹m›]=[St s fl,‹m›,.no,.no]:=rfl;have body:(rn (n+50)).b [0] (k+1) (jH ti).body [St s fl,‹m›,.no,.no]=!(.rt (.dat (~~~gB)),[St s' fl,‹m›,.own [],.own (gB.map .int)]):=by delta jH;simp! [U,aM m ⋯,aq m ⋯,hr,q3]
 delta bM;simp only[vars,cR,hi,List.map_cons,List.map_nil];rw[hp,body];rfl
variable(hN:fns[na]?=!dM)(hM:fns[mi]?=!(jH ti))
include hN hM
def KN{i:Nat}{s:Int}{fl:Bool}(m:Nat)(hm:1<=m/\m<=60)(hi:g[i]?=!(St s fl)):∃(l: ~~~5) (row: ~~~0) (s':Int),KJ (m - 1) l/\Tn m row/\bM (rn (n+70)) (gX ti na mi) (k+3) [.var i,‹m›] g=!(.dat (W m (aZ ez (l.map (tm row)))),g.set i (St s' fl)):=by
 let(w,s1,w1,w2,q1):=dN U (n:=n+48) (k:=k+2) (g:=[St s fl,‹m›,.no,.no,.no]) (i:=0) (m:=4) rfl ⋯;have yt:=q1;have e1:aH (rn (n+69)) [0] (k+3) (.set 2 (.call ti [⇑0,↥4])) [St s fl,‹m›,.no,.no,.no]=!(.nx,[St s1 fl,‹m›,‹w›,.no,.no]):=by simp! [U,hT,yt]
 have e2:aH (rn (n+69)) [0] (k+3) (.set 3 (.lst [])) [St s1 fl,‹m›,‹w›,.no,.no]=!(.nx,[St s1 fl,‹m›,‹w›,.own [],.no]):=by simp! [U,aq 0 ⋯]
 let(g',(j,ah,s2,a4,h0,h1,h2,rfl),hq):=bS (T:=.nm 4) (b:=(rn (n+69)).b [0] (k+3) (xU ti)) (λ(j:Nat)=>D.int (1+(j:Int)))
  (I:=λl g=>∃(j:Nat) (ah: ~~~5) (s2:Int) (a4:Slot),j<m/\l=List.range' j (m - 1 - j)/\KJ j ah/\g=[St s2 fl,‹m›,‹w›,.own (ah.map ∅),a4])
  (step:=λa l g h=>by
   let(j,ah,s2,a4,h0,h1,h2,rfl):=h;have hjm:j<m - 1:=by
    rcases sK j (m - 1)with h |h
    . show h
    . rw[A9 h]at h1;cases h1
   have hc:List.range' j (m - 1 - j)=j::List.range' (j+1) (m - 1 - (j+1)):=by rw[show m - 1 - j=(m - 1 - (j+1))+1 by lia,AX]
   rw[hc]at h1;injection h1 with e1 e2;subst e1 e2;obtain⟨z,hz⟩:∃z:Int,z=1+(a:Int):=#[_,rfl];rw[<- hz];let(r,s3,r1,r2,q):=dN U (n:=n+43) (k:=k+2) (g:=[St s2 fl,‹m›,‹w›,.own (ah.map ∅),‹z›]) (i:=0) (m:=z) rfl ⋯
   have q':=q;obtain⟨v,hv,h5⟩:∃v:Int,(0<=v/\v<z)/\L2.gU [D.int r,.int (z - 1),.int 0,.int (if 2<z then z - 2 else 0)] w=!(.int v):=by
    have:w=0\/w=1\/w=2\/w=3:=by lia
    rcases this with rfl |rfl |rfl |rfl
    . show#[r,by lia,rfl]
    . show#[z - 1,by lia,rfl]
    . show#[0,by lia,rfl]
    . show#[_,by split <;> lia,rfl]
   have hl:=h2.1;have z2:=eM (qS _) (aq (ah.length+1) ⋯);apply#[[St s2 fl,‹m›,‹w›,.own (ah.map ∅),‹z›],[St s3 fl,‹m›,‹w›,.own ((ah++[[v,z]]).map ∅),‹z›],rfl,?_,a+1,ah++[[v,z]],s3,_,by lia,rfl,h2.more ⋯ ⋯,rfl]
   .
    rw[oC];delta xU;simp! [U,hT,q',h5,z2,aq 4 ⋯,aq 2 ⋯];rfl) (List.range' 0 (m - 1)) [St s1 fl,‹m›,‹w›,.own [],.no] #[0,[],s1,.no,by lia,rfl,#[rfl,λi hi=>absurd hi (w9 _)],rfl]
 have hr:cD 1 (m - 1)=(List.range' 0 (m - 1)).map λ(x:Nat)=>D.int (1+(x:Int)):=by delta cD;rw[xL]
 have e3:aH (rn (n+69)) [0] (k+3) (.loop (.nm 4) (.iL ↥1 ⇑1) (xU ti)) [St s1 fl,‹m›,‹w›,.own [],.no]=!(.nx,[St s2 fl,‹m›,‹w›,.own (ah.map ∅),a4]):=by generalize hb:(rn (n+69)).b [0] (k+3) (xU ti)=bb at hq;simp! [U,Tg.ix,cz,aM 1 ⋯,aM m ⋯,hr,hb,hq]
 have hj:j=m - 1:=by
  rcases sK j (m - 1)with q |q
  .
   have:m - 1 - j=(m - 1 - j - 1)+1:=by lia
   rw[this]at h1;cases h1
  . lia
 subst hj;have hl:=h2.1;have hp:=h2.pr (m:=m) ⋯;let(row,s3,uZ,q4):=Cw U hT (n:=n+17) (k:=k+1) (g:=[St s2 fl,‹m›,‹w›,.own (ah.map ∅),a4]) (i:=0) m rfl ⋯
 have q4':=q4;have q5:=λn k=>qH U (n:=n) (k:=k) m ⋯ ah hp ⋯ row uZ
 have e4:aH (rn (n+69)) [0] (k+3) (.ret (.call na [(.tup [⇑1,(.blt .tuple [⇑3])]),(.call mi [⇑0,⇑1])])) [St s2 fl,‹m›,‹w›,.own (ah.map ∅),a4]=!(.rt (.dat (W m (aZ ez (ah.map (tm row))))),[St s3 fl,‹m›,‹w›,.own (ah.map ∅),a4]):=by simp! [U,aq 2 ⋯,hM,q4',hN,bB (fx:=dM) rfl,q5]
 apply#[ah,row,s3,h2,uZ,?_];have hpd:dW (gX ti na mi).n [St s fl,‹m›]=[St s fl,‹m›,.no,.no,.no]:=rfl;have body:(rn (n+70)).b [0] (k+3) (gX ti na mi).body [St s fl,‹m›,.no,.no,.no]=!(.rt (.dat (W m (aZ ez (ah.map (tm row))))),[St s3 fl,‹m›,‹w›,.own (ah.map ∅),a4]):=by delta gX;rw[U.b,aG e1,aG e2,aG e3];delta cK;rw[e4]
 delta bM;simp only[vars,cR,hi,List.map_cons,List.map_nil];rw[hpd,body];rfl
def u5(m:Nat)(hm:1<=m/\m<=6)(hi:g[i]?=!(St s fl)):∃(ah: ~~~5) (s':Int),Wb m ah/\ah.length<=5/\bM (rn (n+70)) (gX ti na mi) (k+3) [.var i,‹m›] g=!(.dat (W m ah),g.set i (St s' fl)):=by
 let(ah,row,s3,h2,uZ,q):=KN U hT hN hM m ⋯ hi;have hp:=h2.pr (m:=m) ⋯;have hl:=h2.1;have aK:(aZ ez (ah.map (tm row))).length=ah.length:=by rw[(bf _).length_eq,eJ]
 apply#[aZ ez (ah.map (tm row)),s3,#[λx hx=>?_,dO (jk h2.nodup λx hx y hy e=>z8 uZ (hp x hx) (hp y hy) e),by lia],by lia,q]
 let(y,hy,rfl):=fR.mp ((bf _).mem_iff.mp hx);show Cj uZ (hp y hy)
end
abbrev KQ(ti:Nat):Sm:=.set 1 (.ix (.lst [↥6,↥5,↥4,↥6,↥3,↥5,↥2,↥1]) (.call ti [⇑0,↥8]))
abbrev KR:Ex:=.tup [⇑4,⇑11]
abbrev KS(ti:Nat):Option Ex:=!(.cmp .Lt (.call ti [⇑0,↥4]) (.bin .Add ⇑2 ↥1))
abbrev qI(ti:Nat):List Sm:=[(.expr (.extend 3 (.comp 10 2 (.nm 11) (.iL (.bin .Add ⇑4 ↥1) ⇑1) (KS ti) KR)))]
abbrev YQ(ti:Nat):Sm:=.ite (.cmp .Lt ⇑2 ↥3) [(.loop (.nm 4) (.bJ ⇑1) (qI ti)),(.ret (.tup [⇑1,(.blt .tuple [⇑3])]))] []
abbrev FW(tr:Nat):Sm:=.ite (.cmp .Eq ⇑2 ↥3) [(.ret (.call tr [⇑0,⇑1]))] []
abbrev w2b(ti tr:Nat):List Sm:=[(.set 6 (.call tr [⇑0,⇑1])),(.tgt (.tp [4,5]) (.blt .sorted [(.lst [(.call ti [⇑0,⇑1]),(.call ti [⇑0,⇑1])])])),(.setC 3 (.comp 10 2 (.nm 11) (.ix ⇑6 ↥1) (!(.cmp .NotEq ⇑11 (.tup [⇑4,⇑5]))) ⇑11)),(.ite (.and [(.cmp .Lt ⇑4 ⇑5),(.cmp .Eq (.blt .len [⇑3]) (.blt .len [(.ix ⇑6 ↥1)]))]) [(.expr (.append 3 (.tup [⇑4,⇑5])))] []),(.ret (.tup [⇑1,(.blt .tuple [(.blt .sorted [⇑3])])]))]
abbrev sQ(ti tr:Nat):Sm:=.ite (.cmp .Eq ⇑2 ↥4) (w2b ti tr) []
abbrev w2c:Sm:=.setC 9 (.comp 10 3 (.tp [11,12]) (.ix ⇑8 ↥1) none (.tup [(.bin .Add ⇑7 ⇑11),(.bin .Add ⇑7 ⇑12)]))
abbrev w2r(na mi:Nat):Sm:=.ret (.call na [(.tup [(.bin .Mult ↥2 ⇑7),(.bin .Add (.ix ⇑8 ↥1) (.blt .tuple [⇑9]))]),(.call mi [⇑0,(.bin .Mult ↥2 ⇑7)])])
abbrev sS(ti na mi tr:Nat):Fx:=#[1,10,[(KQ ti),(.set 2 (.call ti [⇑0,↥6])),(.set 3 (.lst [])),(YQ ti),(FW tr),(sQ ti tr),(.set 7 (.bin .Add ↥1 (.call ti [⇑0,↥3]))),(.set 8 (.call tr [⇑0,⇑7])),w2c,(w2r na mi)]]
def Xv{α:Type}(cV f:α->D)(gs:Int->G)(hn:∀s,(gs s).length=nn)(hj1:nn<=j)(hj2:j<nn+kk) :
  ∀(ak:List α) (s:Int) (m:G) (acc:List D),m.length=kk->acc.length+ak.length<=lim->
  (∀a∈ak,∀s m acc,m.length=kk->m[j - nn]?=!(.dat (cV a))->∃b s',jU rn bor k c (gM (gs s) m acc)=!(b,gM (gs s') m acc))->
  (∀a∈ak,∀s m acc,m.length=kk->m[j - nn]?=!(.dat (cV a))->fP rn bor k e (gM (gs s) m acc)=!(f a,gM (gs s) m acc))->
  ∃(sub:List α) (s':Int) (m':G),sub.Sublist ak/\m'.length=kk/\Fj rn bor k (.nm j) (nn+kk) c e (ak.map cV) (gM (gs s) m acc)=!(gM (gs s') m' (acc++sub.map f))
 | [],s,m,acc,hm,_,_,_=>#[[],s,m,Cf _,hm,by simp[Fj]]
 |a::ak,s,m,acc,hm,hl,hc,he=>by
  rw[i9]at hl;have hjm:j - nn<m.length:=by lia
  have q1:(Tg.nm j).set (cV a) (gM (gs s) m acc)=!(gM (gs s) (m.set (j - nn) (.dat (cV a))) acc):=by
   have:=qo (g:=gs s) (kk:=kk) (d:=cV a) (m:=m) (acc:=acc) (by rw[hn];show hj1) (by rw[hn];show hjm)
   rw[hn]at this;show this
  have hm':(m.set (j - nn) (.dat (cV a))).length=kk:=by simpa using hm
  have hg:(m.set (j - nn) (.dat (cV a)))[j - nn]?=!(.dat (cV a)):=by rw[hV hjm]
  let(b,s',q2):=hc a dA s _ acc hm' hg;rw[List.map_cons];delta Fj;rw[q1];dsimp only;rw[q2];cases b with
  |false=>
   let(sub,s2,m2,w1,w2,w3):=Xv cV f gs hn hj1 hj2 ak s' _ acc hm' ⋯ (λx hx=>hc x (bP _ hx)) (λx hx=>he x (bP _ hx))
   show#[sub,s2,m2,w1.cons a,w2,w3]
  |true=>
   dsimp only;rw[he a dA s' _ acc hm' hg];dsimp only;have q4:(gM (gs s') (m.set (j - nn) (.dat (cV a))) acc)[nn+kk]?=!(.own acc):=by have:=lB (g:=gs s') (m:=m.set (j - nn) (.dat (cV a))) (acc:=acc);rw[hn,hm']at this;show this
   rw[q4];dsimp only;rw[i8 ⋯];have q5:(gM (gs s') (m.set (j - nn) (.dat (cV a))) acc).set (nn+kk) (.own (acc++[f a]))=gM (gs s') (m.set (j - nn) (.dat (cV a))) (acc++[f a]):=by have:=mZ (g:=gs s') (m:=m.set (j - nn) (.dat (cV a))) (acc:=acc) (acc':=acc++[f a]);rw[hn,hm']at this;show this
   rw[q5];let(sub,s2,m2,w1,w2,w3):=Xv cV f gs hn hj1 hj2 ak s' _ (acc++[f a]) hm' (by rw[eP,Ap];lia) (λx hx=>hc x (bP _ hx)) (λx hx=>he x (bP _ hx))
   apply#[a::sub,s2,m2,w1.cons_cons a,w2,?_];rw[w3];simp
def Xw{α:Type}(ak:List α)(cV f:α->D)(gs:Int->G)(hn:∀s,(gs s).length=nn)(hj1:nn<=j)(hj2:j<nn+kk)(hw:cz rn bor k false it g=!(ak.map cV,gs s))(hb:j∉bor)(hl:ak.length<=lim)
  (hc:∀a∈ak,∀s m acc,m.length=kk->m[j - nn]?=!(.dat (cV a))->∃b s',jU rn bor k c (gM (gs s) m acc)=!(b,gM (gs s') m acc))
  (he:∀a∈ak,∀s m acc,m.length=kk->m[j - nn]?=!(.dat (cV a))->fP rn bor k e (gM (gs s) m acc)=!(f a,gM (gs s) m acc)) :
  ∃(sub:List α) (s':Int),sub.Sublist ak/\fQ rn bor k nn kk (.nm j) it c e g=!(sub.map f,gs s'):=by
 let(sub,s',m',w1,w2,w3):=Xv cV f gs hn hj1 hj2 ak s (List.replicate kk .no) [] ⋯ (by simpa using hl) hc he
 apply#[sub,s',w1,?_];delta fQ;rw[show (Tg.nm j).jT=false from rfl,hw]
 dsimp only;rw[i8 #[hn s,by simp[Tg.ix,hb]],Km,w3]
 dsimp only;have:(gM (gs s') m' ([]++sub.map f))[nn+kk]?=!(.own ([]++sub.map f)):=by have:=lB (g:=gs s') (m:=m') (acc:=[]++sub.map f);rw[hn,w2]at this;show this
 rw[this];have ht:=uU (g:=gs s') (m:=m') (acc:=[]++sub.map f);rw[hn]at ht;rw[ht,A5]
def Xx{m:Nat}(hm:1<=m/\m<=6):(prs m).Pairwise λx y=>HT.lexLt x y=true:=by refine six hm <;> decide +kernel
def Wb.Q9(hm:1<=m/\m<=6)(h:l.Sublist (prs m)):Wb m l:=by let(h1,_,h3):=Xu hm;show#[λx hx=>h1 x (h.subset hx),(Xx hm).sublist h,l7 h.length_le h3]
section
variable{bor:List Nat}{k n:Nat}{g g1:G}{rn:Nat->Rn}{fns:List Fx}{ti na mi tr:Nat}(U:iT fns rn)(hT:fns[ti]?=!bO)
include U hT
nonrec abbrev f2(s:Int)(fl:Bool)(a1 a2 a3 a4 a5 a6 a7 a8 a9:Slot):G:=[St s fl,a1,a2,a3,a4,a5,a6,a7,a8,a9]
def Xy(s:Int)(fl:Bool)(m:Nat)(hm:1<=m/\m<=6)(w:Int):∃(l: ~~~5) (s':Int) (a4:Slot),l.Sublist (prs m)/\aH (rn (n+98)) [0] (k+5) (.loop (.nm 4) (.bJ ⇑1) (qI ti)) (f2 s fl ‹m› ‹w› (.own []) .no .no .no .no .no .no)=!(.nx,f2 s' fl ‹m› ‹w› (.own (l.map ∅)) a4 .no .no .no .no .no):=by
 let(g',(j,l,s',a4,h0,h1,h2,rfl),h3):=bS (T:=.nm 4) (b:=(rn (n+98)).b [0] (k+5) (qI ti)) (λ(j:Nat)=>D.int (j:Int))
  (I:=λr g=>∃(j:Nat) (l: ~~~5) (s':Int) (a4:Slot),j<=m/\r=List.range' j (m - j)/\l.Sublist (pacc m j)/\g=f2 s' fl ‹m› ‹w› (.own (l.map ∅)) a4 .no .no .no .no .no)
  (step:=λa r g h=>by
   let(j,l,s',a4,h0,h1,h2,rfl):=h;have hjm:j<m:=by
    rcases sK j m with h |h
    . show h
    . rw[A9 h]at h1;cases h1
   have hc:List.range' j (m - j)=j::List.range' (j+1) (m - (j+1)):=by rw[show m - j=(m - (j+1))+1 by lia,AX]
   rw[hc]at h1;injection h1 with e1 e2;subst e1 e2;have aK:l.length<=36:=l7 h2.length_le (l7 (xT m a) (l7 (Nat.mul_le_mul (show a<=6 by lia) hm.2) ⋯))
   let(sub,s2,hs,hq):=Xw (rn:=rn (n+95)) (bor:=[0]) (k:=k+5) (kk:=2) (nn:=10) (j:=11) (it:=.iL (.bin .Add ⇑4 ↥1) ⇑1) (c:=KS ti) (e:=KR) (s:=s') (g:=f2 s' fl ‹m› ‹w› (.own (l.map ∅)) ‹a› .no .no .no .no .no) (List.range (m - (a+1))) (λi=>D.int ((a:Int)+1+(i:Int))) (λi=>D.tup [.int (a:Int),.int ((a:Int)+1+(i:Int))]) (λs=>f2 s fl ‹m› ‹w› (.own (l.map ∅)) ‹a› .no .no .no .no .no) (λ_=>rfl) ⋯ ⋯ (by
     have e:((m:Int) - ((a:Int)+1)).toNat=m - (a+1):=by lia
     delta f2;simp! [U,cz,aM ((a:Int)+1) ⋯,aM m ⋯,e,cD]) ⋯ (aq _ (by simp;lia))
    (λx _ s mm acc h1 h2=>by
     let(r,s2,r1,r2,q):=dN U (g:=gM (f2 s fl ‹m› ‹w› (.own (l.map ∅)) ‹a› .no .no .no .no .no) mm acc) (i:=0) (m:=4) rfl ⋯
     have q':bM (rn (n+93)) bO (k+4) [.var 0,‹4›] (gM (f2 s fl ‹m› ‹w› (.own (l.map ∅)) ‹a› .no .no .no .no .no) mm acc)=!(‹r›,gM (f2 s2 fl ‹m› ‹w› (.own (l.map ∅)) ‹a› .no .no .no .no .no) mm acc):=q
     have g0:∀s,(gM (f2 s fl ‹m› ‹w› (.own (l.map ∅)) ‹a› .no .no .no .no .no) mm acc)[0]?=!(St s fl):=λ_=>rfl
     have g2:∀s,(gM (f2 s fl ‹m› ‹w› (.own (l.map ∅)) ‹a› .no .no .no .no .no) mm acc)[2]?=!‹w›:=λ_=>rfl
     apply#[decide (r<w+1),s2,?_];simp! [U,KS,jU,hT,g0,g2,q'])
    (λx _ s mm acc h1 h2=>by
     have g4:∀s,(gM (f2 s fl ‹m› ‹w› (.own (l.map ∅)) ‹a› .no .no .no .no .no) mm acc)[4]?=!‹a›:=λ_=>rfl
     have g11:(gM (f2 s fl ‹m› ‹w› (.own (l.map ∅)) ‹a› .no .no .no .no .no) mm acc)[11]?=!(.dat (.int ((a:Int)+1+(x:Int)))):=by
      have:=cO (g:=f2 s fl ‹m› ‹w› (.own (l.map ∅)) ‹a› .no .no .no .no .no) (m:=mm) (acc:=acc) (i:=1) ⋯
      show this.trans h2
     simp! [U,KR,g4,g11,aq 2 ⋯])
   have hsub:(l++sub.map λ(i:Nat)=>[(a:Int),(a:Int)+1+(i:Int)]).Sublist (pacc m (a+1)):=by rw[sP];show h2.append (hs.map _)
   have es:sub.map (λ(i:Nat)=>D.tup [.int (a:Int),.int ((a:Int)+1+(i:Int))])=(sub.map λ(i:Nat)=>[(a:Int),(a:Int)+1+(i:Int)]).map λx=>~~~x:=by rw[List.map_map];rfl
   rw[es]at hq;have hl2:(sub.map λ(i:Nat)=>[(a:Int),(a:Int)+1+(i:Int)]).length<=6:=by rw[eJ];show l7 hs.length_le (by simp;lia)
   generalize hS:(sub.map λ(i:Nat)=>[(a:Int),(a:Int)+1+(i:Int)])=ss at hq hsub hl2
   have z:l.length+ss.length<=lim:=aq _ ⋯;apply#[f2 s' fl ‹m› ‹w› (.own (l.map ∅)) ‹a› .no .no .no .no .no,f2 s2 fl ‹m› ‹w› (.own ((l++ss).map ∅)) ‹a› .no .no .no .no .no,rfl,?_,a+1,l++ss,s2,_,by lia,rfl,hsub,rfl]
   delta qI;delta f2 at hq ⊢
   simp! [U,hq,z]) (List.range' 0 m) (f2 s fl ‹m› ‹w› (.own []) .no .no .no .no .no .no) #[0,[],s,.no,by lia,rfl,Cf _,rfl]
 have hj:j=m:=by
  have:(List.range' j (m - j)).length=0:=by rw[<- h1];rfl
  rw[B5]at this;lia
 subst hj;have hr:cD 0 j=(List.range' 0 j).map λ(x:Nat)=>D.int (x:Int):=by delta cD;rw[xL];show u8 λx _=>by rw[Int.zero_add]
 apply#[l,s',a4,h2,?_];generalize hb:(rn (n+98)).b [0] (k+5) (qI ti)=bb at h3;delta f2 at h3 ⊢
 simp! [U,Tg.ix,cz,aM j ⋯,hr,hb,h3]
end
section
variable{bor:List Nat}{k n:Nat}{g g1:G}{rn:Nat->Rn}{fns:List Fx}{ti na mi tr:Nat}(U:iT fns rn)(hT:fns[ti]?=!bO)
include U hT
variable(hN:fns[na]?=!dM)(hM:fns[mi]?=!(jH ti))(hR:fns[tr]?=!(gX ti na mi))
include hN hM hR
def Xz(s:Int)(fl:Bool)(m:Nat)(hm:1<=m/\m<=6):∃(ah: ~~~5) (s':Int) (g':G),Wb m ah/\g'[0]?=!(St s' fl)/\(rn (n+99)).b [0] (k+5) (w2b ti tr) (f2 s fl ‹m› ‹4› (.own []) .no .no .no .no .no .no)=!(.rt (.dat (W m ah)),g'):=by
 let(ah,s1,ht,tl,q1):=u5 U hT hN hM (g:=f2 s fl ‹m› ‹4› (.own []) .no .no .no .no .no .no) (i:=0) m hm rfl;have yt:bM (rn (n+97)) (gX ti na mi) (k+4) [.var 0,‹m›] [St s fl,‹m›,‹4›,.own [],.no,.no,.no,.no,.no,.no]=!(.dat (W m ah),[St s1 fl,‹m›,‹4›,.own [],.no,.no,.no,.no,.no,.no]):=q1;have e1:aH (rn (n+98)) [0] (k+5) (.set 6 (.call tr [⇑0,⇑1])) [St s fl,‹m›,‹4›,.own [],.no,.no,.no,.no,.no,.no]=!(.nx,[St s1 fl,‹m›,‹4›,.own [],.no,.no,.dat (W m ah),.no,.no,.no]):=by simp! [U,hR,yt]
 let(r1,s2,a1,a2,q2):=dN U (n:=n+75) (k:=k+4) (g:=[St s1 fl,‹m›,‹4›,.own [],.no,.no,.dat (W m ah),.no,.no,.no]) (i:=0) (m:=(m:Int)) rfl ⋯;have yu:=q2;let(r2,s3,a3,a4,q3):=dN U (n:=n+75) (k:=k+4) (g:=[St s2 fl,‹m›,‹4›,.own [],.no,.no,.dat (W m ah),.no,.no,.no]) (i:=0) (m:=(m:Int)) rfl ⋯;have HF:=q3;obtain⟨a,b,hab,he⟩:∃a b:Int,(0<=a/\a<=b/\b<m)/\bH [r1,r2]=[a,b]:=by
  rw[show bH [r1,r2]=if r1<=r2 then [r1,r2]else [r2,r1]by simp only[bH,ins]]
  split
  . show#[r1,r2,by lia,rfl]
  . show#[r2,r1,by lia,rfl]
 have bs:mj .sorted [.lst [.int r1,.int r2]]=!(.new [.int a,.int b]):=by rw[Q8,he];rfl
 have st:Tg.set (.tp [4,5]) (.lst [.int a,.int b]) [St s3 fl,‹m›,‹4›,.own [],.no,.no,.dat (W m ah),.no,.no,.no]=![St s3 fl,‹m›,‹4›,.own [],‹a›,‹b›,.dat (W m ah),.no,.no,.no]:=rfl;have e2:aH (rn (n+98)) [0] (k+5) (.tgt (.tp [4,5]) (.blt .sorted [(.lst [(.call ti [⇑0,⇑1]),(.call ti [⇑0,⇑1])])])) [St s1 fl,‹m›,‹4›,.own [],.no,.no,.dat (W m ah),.no,.no,.no]=!(.nx,[St s3 fl,‹m›,‹4›,.own [],‹a›,‹b›,.dat (W m ah),.no,.no,.no]):=by simp! [U,hT,yu,HF,bs,st,Tg.ix,aq 2 ⋯]
 have i1:zJ (W m ah) (.int 1)=!(.tup (ah.map ∅)):=rfl
 have w3:=xK (rn:=rn (n+98)) (bor:=[0]) (k:=k+5) (g:=[St s3 fl,‹m›,‹4›,.own [],‹a›,‹b›,.dat (W m ah),.no,.no,.no]) (g1:=[St s3 fl,‹m›,‹4›,.own [],‹a›,‹b›,.dat (W m ah),.no,.no,.no]) (kk:=2) (nn:=10) (j:=11) (it:=.ix ⇑6 ↥1) (c:=!(.cmp .NotEq ⇑11 (.tup [⇑4,⇑5]))) (e:=.slot 11) ah ∅ (λx=>(not (decide (x=[a,b])))) ∅ (by simp! [U,cz,i1]) rfl ⋯ ⋯ ⋯ (aq _ ⋯)
  (λx _ G' hG=>by
   have h4:=hG.1 4 ⋯;have h5:=hG.1 5 ⋯;have cn:eY .NotEq (~~~x) (.tup [.int a,.int b])=!((not (decide (x=[a,b])))):=Kq x [a,b];simp! [U,jU,hG.2,h4,h5,cn,aq 2 ⋯])
  (λx _ _ G' hG=>by simp! [U,hG.2])
 generalize hF:(ah.filter λx=>(not (decide (x=[a,b]))))=Gm at w3
 have e3:aH (rn (n+98)) [0] (k+5) (.setC 3 (.comp 10 2 (.nm 11) (.ix ⇑6 ↥1) (!(.cmp .NotEq ⇑11 (.tup [⇑4,⇑5]))) ⇑11)) [St s3 fl,‹m›,‹4›,.own [],‹a›,‹b›,.dat (W m ah),.no,.no,.no]=!(.nx,[St s3 fl,‹m›,‹4›,.own (Gm.map ∅),‹a›,‹b›,.dat (W m ah),.no,.no,.no]):=by simp only[aH,w3];simp
 have fs:Gm.Sublist ah:=by rw[<- hF];show DA
 have hfl:=fs.length_le;have z3:=eM (qS _) (aq (Gm.length+1) ⋯);obtain⟨l,hl,e4⟩:∃l:List (~~~0),((∀x∈l,Pr m x)/\l.Nodup/\l.length<=15)/\aH (rn (n+98)) [0] (k+5) (.ite (.and [(.cmp .Lt ⇑4 ⇑5),(.cmp .Eq (.blt .len [⇑3]) (.blt .len [(.ix ⇑6 ↥1)]))]) [(.expr (.append 3 (.tup [⇑4,⇑5])))] []) [St s3 fl,‹m›,‹4›,.own (Gm.map ∅),‹a›,‹b›,.dat (W m ah),.no,.no,.no]=!(.nx,[St s3 fl,‹m›,‹4›,.own (l.map ∅),‹a›,‹b›,.dat (W m ah),.no,.no,.no]):=by
  by_cases h1:a<b
  .
   by_cases h2:Gm.length=ah.length
   .
    have h2':((Gm.length:Nat):Int)=ah.length:=by lia
    apply#[Gm++[[a,b]],#[λx hx=>?_,?_,by simp;lia],?_]
    .
     rcases oP.mp hx with hx |hx
     . show ht.tie x (fs.subset hx)
     . rw[hU]at hx;show#[a,b,hx,by lia,h1,by lia]
    .
     apply sT.mpr #[fs.nodup ht.nodup,by simp,λx hx y hy e=>?_]
     rw[hU]at hy;subst e hy;rw[<- hF]at hx;have:=(i4.mp hx).2;simp at this
    . rw[oC];simp! [U,h1,i1,h2',z3,aq 2 ⋯];rfl
   .
    have h2' : ¬ ((Gm.length:Nat):Int)=ah.length:=by lia
    apply#[Gm,#[λx hx=>ht.tie x (fs.subset hx),fs.nodup ht.nodup,by lia],?_]
    simp! [U,h1,i1,h2']
  .
   apply#[Gm,#[λx hx=>ht.tie x (fs.subset hx),fs.nodup ht.nodup,by lia],?_]
   simp! [U,h1]
 have bs2:=fG l (λx hx e=>by let(a,b,e',_):=hl.1 x hx;rw[e']at e;cases e) ⋯
 have e5:aH (rn (n+98)) [0] (k+5) (.ret (.tup [⇑1,(.blt .tuple [(.blt .sorted [⇑3])])])) [St s3 fl,‹m›,‹4›,.own (l.map ∅),‹a›,‹b›,.dat (W m ah),.no,.no,.no]=!(.rt (.dat (W m (aZ ez l))),[St s3 fl,‹m›,‹4›,.own (l.map ∅),‹a›,‹b›,.dat (W m ah),.no,.no,.no]):=by simp! [U,bs2];rfl
 have hp:=bf (O:=ez) l;apply#[aZ ez l,s3,[St s3 fl,‹m›,‹4›,.own (l.map ∅),‹a›,‹b›,.dat (W m ah),.no,.no,.no],#[λx hx=>hl.1 x (hp.mem_iff.mp hx),dO hl.2.1,by rw[hp.length_eq];show hl.2.2],rfl,?_]
 delta w2b f2;rw[U.b,aG e1,aG e2,aG e3,aG e4];delta cK;rw[e5]
end
section
variable{bor:List Nat}{k n:Nat}{g g1:G}{rn:Nat->Rn}{fns:List Fx}{ti na mi tr:Nat}(U:iT fns rn)(hT:fns[ti]?=!bO)
include U hT
variable(hN:fns[na]?=!dM)(hM:fns[mi]?=!(jH ti))(hR:fns[tr]?=!(gX ti na mi))
include hN hM hR
abbrev w2h(ti na mi tr:Nat):List Sm:=[(.set 7 (.bin .Add ↥1 (.call ti [⇑0,↥3]))),(.set 8 (.call tr [⇑0,⇑7])),w2c,(w2r na mi)]
abbrev sh(h:Nat)(x: ~~~0): ~~~0:=[(h:Int)+gt x 0,(h:Int)+gt x 1]
omit U hT hN hM hR in
def XC(h:Nat)(hx:Pr m x)(hy:Pr m y)(e:sh h x=sh h y):x=y:=by
 let(a,b,rfl,_):=hx;let(c,d,rfl,_):=hy;delta sh at e;rw[(bC a b).1,(bC a b).2,(bC c d).1,(bC c d).2]at e;simp only[B4,and_true]at e;let(e1,e2):=e;have:a=c:=by lia
 have:b=d:=by lia
 subst a b;rfl
def XD(s:Int)(fl:Bool)(m w:Int):∃(M:Nat) (ah: ~~~5) (s':Int) (g':G),(1<=M/\M<=6)/\Wb M ah/\g'[0]?=!(St s' fl)/\cK (rn (n+99)) [0] (k+5) (w2h ti na mi tr) (f2 s fl ‹m› ‹w› (.own []) .no .no .no .no .no .no)=!(.rt (.dat (W M ah)),g'):=by
 let(r,s1,a1,a2,q1):=dN U (n:=n+77) (k:=k+4) (g:=[St s fl,‹m›,‹w›,.own [],.no,.no,.no,.no,.no,.no]) (i:=0) (m:=3) rfl ⋯;have yt:=q1;obtain⟨h,hr,h1,h2⟩:∃h:Nat,1+r=(h:Int)/\1<=h/\h<=3:=#[(1+r).toNat,by lia,by lia,by lia]
 have e1:aH (rn (n+99)) [0] (k+5) (.set 7 (.bin .Add ↥1 (.call ti [⇑0,↥3]))) [St s fl,‹m›,‹w›,.own [],.no,.no,.no,.no,.no,.no]=!(.nx,[St s1 fl,‹m›,‹w›,.own [],.no,.no,.no,‹h›,.no,.no]):=by simp! [U,hT,yt,hr]
 let(ah,s2,ht,tl,q2):=u5 U hT hN hM (n:=n+28) (k:=k+1) (g:=[St s1 fl,‹m›,‹w›,.own [],.no,.no,.no,‹h›,.no,.no]) (i:=0) h ⋯ rfl;have yu:=q2;have e2:aH (rn (n+99)) [0] (k+5) (.set 8 (.call tr [⇑0,⇑7])) [St s1 fl,‹m›,‹w›,.own [],.no,.no,.no,‹h›,.no,.no]=!(.nx,[St s2 fl,‹m›,‹w›,.own [],.no,.no,.no,‹h›,.dat (W h ah),.no]):=by simp! [U,hR,yu]
 have i1:zJ (W h ah) (.int 1)=!(.tup (ah.map ∅)):=rfl
 have w3:=zY (rn:=rn (n+99)) (bor:=[0]) (k:=k+5) (g:=[St s2 fl,‹m›,‹w›,.own [],.no,.no,.no,‹h›,.dat (W h ah),.no]) (g1:=[St s2 fl,‹m›,‹w›,.own [],.no,.no,.no,‹h›,.dat (W h ah),.no]) (kk:=3) (nn:=10) (j1:=11) (j2:=12) (it:=.ix ⇑8 ↥1) (e:=.tup [(.bin .Add ⇑7 ⇑11),(.bin .Add ⇑7 ⇑12)]) ah (λx=>.int (gt x 0)) (λx=>.int (gt x 1)) (λx=>~~~(sh h x)) (by simp! [U,cz,i1,<- ht.two]) rfl ⋯ ⋯ ⋯ ⋯ ⋯ ⋯ ⋯ (aq _ ⋯) λx hx G' hG=>by
  have h7:=hG.1 7 ⋯;have h5:=hG.2.1;have h6:=hG.2.2;simp! [U,h7,h5,h6];rfl
 have e3:aH (rn (n+99)) [0] (k+5) w2c [St s2 fl,‹m›,‹w›,.own [],.no,.no,.no,‹h›,.dat (W h ah),.no]=!(.nx,[St s2 fl,‹m›,‹w›,.own [],.no,.no,.no,‹h›,.dat (W h ah),.own ((ah.map (sh h)).map ∅)]):=by delta w2c;simp only[aH,w3];simp
 obtain⟨M,hM2⟩:∃M:Nat,M=2 * h:=#[_,rfl];have e2h:(2:Int) * (h:Int)=(M:Int):=by lia
 have hp:∀x∈ah++ah.map (sh h),Pr M x:=λx hx=>by
  rcases oP.mp hx with hx |hx
  . let(a,b,e,h):=ht.tie x hx;show#[a,b,e,by lia,by lia,by lia]
  . let(y,hy,rfl):=fR.mp hx;let(a,b,rfl,hh):=ht.tie y hy;show#[(h:Int)+a,(h:Int)+b,rfl,by lia,by lia,by lia]
 have nd:(ah++ah.map (sh h)).Nodup:=by
  apply sT.mpr #[ht.nodup,jk ht.nodup λx hx y hy e=>XC h (ht.tie x hx) (ht.tie y hy) e,λx hx y hy e=>?_]
  let(z,hz,rfl):=fR.mp hy;let(a,b,e1,h1):=ht.tie x hx;let(c,d,e2,h2):=ht.tie z hz;subst e1 e2;delta sh at e;rw[(bC c d).2]at e;lia
 have hln:(ah++ah.map (sh h)).length=ah.length+ah.length:=by simp
 let(row,s3,uZ,q4):=Cw U hT (n:=n+47) (k:=k+3) (g:=[St s2 fl,‹m›,‹w›,.own [],.no,.no,.no,‹h›,.dat (W h ah),.own ((ah.map (sh h)).map ∅)]) (i:=0) M rfl ⋯
 have q4':=q4;have q5:=λn k=>qH U (n:=n) (k:=k) M ⋯ (ah++ah.map (sh h)) hp ⋯ row uZ
 rw[oC]at q5;have z:ah.length+ah.length<=lim:=aq _ ⋯;have om:qM .Mult (.int 2) (.int h)=!‹M›:=by
  rw[<- e2h];have c:zI 2 (h:Int)=true:=by obtain rfl |rfl |rfl:h=1\/h=2\/h=3:=⋯ <;> decide
  simp only[qM,JT,c,CD]
 have oa:qM .Add (.tup (ah.map ∅)) (.tup ((ah.map (sh h)).map ∅))=!(.dat (.tup ((ah.map ∅)++(ah.map (sh h)).map ∅))):=by simp only[qM,Fg];rw[i8 (by simpa using z)]
 have e4:aH (rn (n+99)) [0] (k+5) (w2r na mi) [St s2 fl,‹m›,‹w›,.own [],.no,.no,.no,‹h›,.dat (W h ah),.own ((ah.map (sh h)).map ∅)]=!(.rt (.dat (W M (aZ ez ((ah++ah.map (sh h)).map (tm row))))),[St s3 fl,‹m›,‹w›,.own [],.no,.no,.no,‹h›,.dat (W h ah),.own ((ah.map (sh h)).map ∅)]):=by delta w2r;simp! [U,aq 2 ⋯,om,oa,i1,hM,q4',hN,bB (fx:=dM) rfl,q5]
 have aK:(aZ ez ((ah++ah.map (sh h)).map (tm row))).length=ah.length+ah.length:=by rw[(bf _).length_eq,eJ,hln]
 apply#[M,aZ ez ((ah++ah.map (sh h)).map (tm row)),s3,[St s3 fl,‹m›,‹w›,.own [],.no,.no,.no,‹h›,.dat (W h ah),.own ((ah.map (sh h)).map ∅)],by lia,#[λx hx=>?_,dO (jk nd λx hx y hy e=>z8 uZ (hp x hx) (hp y hy) e),by lia],rfl,?_]
 . let(y,hy,rfl):=fR.mp ((bf _).mem_iff.mp hx);show Cj uZ (hp y hy)
 . delta w2h f2;rw[aG e1,aG e2,aG e3];delta cK;rw[e4]
end
section
variable{bor:List Nat}{k n:Nat}{g g1:G}{rn:Nat->Rn}{fns:List Fx}{ti na mi tr:Nat}(U:iT fns rn)(hT:fns[ti]?=!bO)
include U hT
variable(hN:fns[na]?=!dM)(hM:fns[mi]?=!(jH ti))(hR:fns[tr]?=!(gX ti na mi))
include hN hM hR
def Cy(hi:g[i]?=!(St s fl)):∃(m:Nat) (ah: ~~~5) (s':Int),(1<=m/\m<=6)/\Wb m ah/\bM (rn (n+100)) (sS ti na mi tr) (k+5) [.var i] g=!(.dat (W m ah),g.set i (St s' fl)):=by
 let(r,s1,a1,a2,q1):=dN U (g:=f2 s fl .no .no .no .no .no .no .no .no .no) (i:=0) (m:=8) rfl ⋯;have yt:bM (rn (n+97)) bO (k+4) [.var 0,‹8›] [St s fl,.no,.no,.no,.no,.no,.no,.no,.no,.no]=!(‹r›,[St s1 fl,.no,.no,.no,.no,.no,.no,.no,.no,.no]):=q1;let(v,hv,hr):=QT (l:=[D.int 6,.int 5,.int 4,.int 6,.int 3,.int 5,.int 2,.int 1]) (lo:=1) (hi:=6) #[a1,a2] rfl;obtain⟨m,rfl⟩:∃m:Nat,v=m:=#[v.toNat,by lia]
 have hm:1<=m/\m<=6:=by lia
 have e1:aH (rn (n+99)) [0] (k+5) (KQ ti) (f2 s fl .no .no .no .no .no .no .no .no .no)=!(.nx,f2 s1 fl ‹m› .no .no .no .no .no .no .no .no):=by delta KQ f2;simp! [U,hT,yt,hr,aq 8 ⋯]
 let(w,s2,w1,w2,q2):=dN U (g:=f2 s1 fl ‹m› .no .no .no .no .no .no .no .no) (i:=0) (m:=6) rfl ⋯;have yu:bM (rn (n+98)) bO (k+4) [.var 0,‹6›] [St s1 fl,‹m›,.no,.no,.no,.no,.no,.no,.no,.no]=!(‹w›,[St s2 fl,‹m›,.no,.no,.no,.no,.no,.no,.no,.no]):=q2;have e2:aH (rn (n+99)) [0] (k+5) (.set 2 (.call ti [⇑0,↥6])) (f2 s1 fl ‹m› .no .no .no .no .no .no .no .no)=!(.nx,f2 s2 fl ‹m› ‹w› .no .no .no .no .no .no .no):=by delta f2;simp! [U,hT,yu]
 have e3:aH (rn (n+99)) [0] (k+5) (.set 3 (.lst [])) (f2 s2 fl ‹m› ‹w› .no .no .no .no .no .no .no)=!(.nx,f2 s2 fl ‹m› ‹w› (.own []) .no .no .no .no .no .no):=by delta f2;simp! [U,aq 0 ⋯]
 obtain⟨M,ah,s3,g',hM2,hw,g0,hq⟩:∃(M:Nat) (ah: ~~~5) (s':Int) (g':G),(1<=M/\M<=6)/\Wb M ah/\g'[0]?=!(St s' fl)/\cK (rn (n+99)) [0] (k+5) ((YQ ti)::(FW tr)::(sQ ti tr)::w2h ti na mi tr) (f2 s2 fl ‹m› ‹w› (.own []) .no .no .no .no .no .no)=!(.rt (.dat (W M ah)),g'):=by
  by_cases c1:w<3
  .
   let(l,s3,a4,hs,hq):=Xy U hT s2 fl m hm w;apply#[m,l,s3,f2 s3 fl ‹m› ‹w› (.own (l.map ∅)) a4 .no .no .no .no .no,hm,Wb.Q9 hm hs,rfl,?_]
   have hb:(rn (n+99)).b [0] (k+5) [(.loop (.nm 4) (.bJ ⇑1) (qI ti)),(.ret (.tup [⇑1,(.blt .tuple [⇑3])]))] (f2 s2 fl ‹m› ‹w› (.own []) .no .no .no .no .no .no)=!(.rt (.dat (W m l)),f2 s3 fl ‹m› ‹w› (.own (l.map ∅)) a4 .no .no .no .no .no):=by rw[U.b,aG hq];simp! [U,aq 2 ⋯];rfl
   delta cK;have:aH (rn (n+99)) [0] (k+5) (YQ ti) (f2 s2 fl ‹m› ‹w› (.own []) .no .no .no .no .no .no)=!(.rt (.dat (W m l)),f2 s3 fl ‹m› ‹w› (.own (l.map ∅)) a4 .no .no .no .no .no):=by
    delta YQ;generalize ([(.loop (.nm 4) (.bJ ⇑1) (qI ti)),(.ret (.tup [⇑1,(.blt .tuple [⇑3])]))]:List Sm)=bb at hb ⊢
    rw[U.b]at hb;delta f2 at hb ⊢
    simp! [U,c1,hb]
   rw[this]
  .
   have e4:aH (rn (n+99)) [0] (k+5) (YQ ti) (f2 s2 fl ‹m› ‹w› (.own []) .no .no .no .no .no .no)=!(.nx,f2 s2 fl ‹m› ‹w› (.own []) .no .no .no .no .no .no):=by delta YQ;delta f2;simp! [U,c1]
   rw[aG e4];by_cases c2:w=3
   .
    subst c2;let(ah,s3,ht,tl,q3):=u5 U hT hN hM (g:=f2 s2 fl ‹m› ‹3› (.own []) .no .no .no .no .no .no) (i:=0) m hm rfl;have HF:bM (rn (n+97)) (gX ti na mi) (k+4) [.var 0,‹m›] [St s2 fl,‹m›,‹3›,.own [],.no,.no,.no,.no,.no,.no]=!(.dat (W m ah),[St s3 fl,‹m›,‹3›,.own [],.no,.no,.no,.no,.no,.no]):=q3;apply#[m,ah,s3,f2 s3 fl ‹m› ‹3› (.own []) .no .no .no .no .no .no,hm,ht,rfl,?_];have:aH (rn (n+99)) [0] (k+5) (FW tr) (f2 s2 fl ‹m› ‹3› (.own []) .no .no .no .no .no .no)=!(.rt (.dat (W m ah)),f2 s3 fl ‹m› ‹3› (.own []) .no .no .no .no .no .no):=by delta FW f2;simp! [U,hR,HF]
    delta cK;rw[this]
   .
    have e5:aH (rn (n+99)) [0] (k+5) (FW tr) (f2 s2 fl ‹m› ‹w› (.own []) .no .no .no .no .no .no)=!(.nx,f2 s2 fl ‹m› ‹w› (.own []) .no .no .no .no .no .no):=by delta FW f2;simp! [U,c2]
    rw[aG e5];by_cases c3:w=4
    .
     subst c3;let(ah,s3,g',ht,hg,q3):=Xz U hT hN hM hR (n:=n) (k:=k) s2 fl m hm;apply#[m,ah,s3,g',hm,ht,hg,?_];have:aH (rn (n+99)) [0] (k+5) (sQ ti tr) (f2 s2 fl ‹m› ‹4› (.own []) .no .no .no .no .no .no)=!(.rt (.dat (W m ah)),g'):=by
      delta sQ;rw[U.b]at q3;delta f2 at q3 ⊢
      simp! [U,q3]
     delta cK;rw[this]
    .
     have e6:aH (rn (n+99)) [0] (k+5) (sQ ti tr) (f2 s2 fl ‹m› ‹w› (.own []) .no .no .no .no .no .no)=!(.nx,f2 s2 fl ‹m› ‹w› (.own []) .no .no .no .no .no .no):=by delta sQ;delta f2;simp! [U,c3]
     rw[aG e6];show XD U hT hN hM hR s2 fl m w
 apply#[M,ah,s3,hM2,hw,?_];have hpd:dW (sS ti na mi tr).n [St s fl]=f2 s fl .no .no .no .no .no .no .no .no .no:=rfl;have body:(rn (n+100)).b [0] (k+5) (sS ti na mi tr).body (f2 s fl .no .no .no .no .no .no .no .no .no)=!(.rt (.dat (W M ah)),g'):=by delta sS;rw[U.b,aG e1,aG e2,aG e3];show hq
 delta bM;simp only[vars,cR,hi,List.map_cons,List.map_nil];rw[i8 #[rfl,by simp],hpd,body]
 simp only[back,g0,dG]
end
section
def sU{α β:Type}(bw:α->D)(ys:α->List β)(bT:β->D)(p:α->β->Bool)(f:α->β->D)(hn:nn=g.length)(dX:last=g.length+kk)(h11:g.length<=j1)(h12:j1<g.length+kk)(h21:g.length<=j2)(h22:j2<g.length+kk)(iZ:j1≠j2) :
  ∀(xs:List α) (m:G) (acc:List D),m.length=kk->acc.length+(xs.flatMap ys).length<=lim->
  (∀a∈xs,∀G',uV g j1 (bw a) G'->cz rn bor k false it G'=!((ys a).map bT,G'))->
  (∀a∈xs,∀b∈ys a,∀G',iQ g j1 j2 (bw a) (bT b) G'->jU rn bor k c G'=!(p a b,G'))->
  (∀a∈xs,∀b∈ys a,p a b=true->∀G',iQ g j1 j2 (bw a) (bT b) G'->fP rn bor k e G'=!(f a b,G'))->
  ∃m',m'.length=kk/\wW rn bor k (.nm j1) none (.nm j2) it c e last (xs.map bw) (gM g m acc)=!(gM g m' (acc++xs.flatMap λa=>((ys a).filter (p a)).map (f a)))
 | [],m,acc,hm,_,_,_,_=>#[m,hm,by simp[wW]]
 |a::xs,m,acc,hm,hl,hw,hi,he=>by
  rw[AT,eP]at hl;have q1:(Tg.nm j1).set (bw a) (gM g m acc)=!(gM g (m.set (j1 - g.length) (.dat (bw a))) acc):=qo (kk:=kk) h11 ⋯;have hm1:(m.set (j1 - g.length) (.dat (bw a))).length=kk:=by simpa using hm
  have sees:∀(m:G) (acc:List D),m.length=kk->m[j1 - g.length]?=!(.dat (bw a))->uV g j1 (bw a) (gM g m acc):=λm acc hm hg=>by
   apply#[λi hi=>ji hi,?_]
   have:=cO (g:=g) (m:=m) (acc:=acc) (i:=j1 - g.length) ⋯;rw[show g.length+(j1 - g.length)=j1 by lia]at this
   rw[this,hg]
  have rS:(m.set (j1 - g.length) (.dat (bw a)))[j1 - g.length]?=!(.dat (bw a)):=by rw[hV ⋯]
  have q2:=hw a dA _ (sees _ acc hm1 rS);have Sy:∀(b:β) (m:G) (acc:List D),(m.length=kk/\m[j1 - g.length]?=!(.dat (bw a)))->iQ g j1 j2 (bw a) (bT b) (gM g (m.set (j2 - g.length) (.dat (bT b))) acc):=λb m acc hm=>by
   let(s1,s2):=sees (m.set (j2 - g.length) (.dat (bT b))) acc (by simpa using hm.1) (by rw[fI ⋯];show hm.2)
   apply#[s1,s2,?_];have:=cO (g:=g) (m:=m.set (j2 - g.length) (.dat (bT b))) (acc:=acc) (i:=j2 - g.length) (by rw[wT];lia)
   rw[show g.length+(j2 - g.length)=j2 by lia]at this
   rw[this,hV (by rw[hm.1];lia)]
  let(m2,w1,w2):=lC bT (f a) (p a) (λb m=>m.set (j2 - g.length) (.dat (bT b))) (λm=>m.length=kk/\m[j1 - g.length]?=!(.dat (bw a))) (λ_ h=>h.1) dX (λb m h=>#[by simpa using h.1,by rw[fI ⋯];show h.2]) (ys a) (m.set (j1 - g.length) (.dat (bw a))) acc #[hm1,rS] ⋯
   (λb _ m acc h=>qo (kk:=kk) h21 (by have:=h.1;lia)) (λb hb m acc h=>hi a dA b hb _ (Sy b m acc h)) λb hb hp m acc h=>he a dA b hb hp _ (Sy b m acc h)
  have hf:=wP (p a) (ys a);let(m3,v1,v2):=sU bw ys bT p f hn dX h11 h12 h21 h22 iZ xs m2 (acc++((ys a).filter (p a)).map (f a)) w1.1 (by rw[eP,eJ];lia) (λx hx=>hw x (bP _ hx)) (λx hx=>hi x (bP _ hx)) (λx hx=>he x (bP _ hx))
  apply#[m3,v1,?_];rw[List.map_cons];delta wW;rw[q1];dsimp only[jU,Tg.jT];rw[q2];dsimp only;rw[w2];dsimp only;rw[v2,AT,AR]
def Cz{α β:Type}(xs:List α)(bw:α->D)(ys:α->List β)(bT:β->D)(p:α->β->Bool)(f:α->β->D)(hw1:cz rn bor k false g8 g=!(xs.map bw,g1))(hn:nn=g1.length)(h11:g1.length<=j1)(h12:j1<g1.length+kk)(h21:g1.length<=j2)(h22:j2<g1.length+kk)(iZ:j1≠j2)(hb1:j1∉bor)(hb2:j2∉bor)(hl:(xs.flatMap ys).length<=lim)
  (hw:∀a∈xs,∀G',uV g1 j1 (bw a) G'->cz rn bor k false it G'=!((ys a).map bT,G'))
  (hi:∀a∈xs,∀b∈ys a,∀G',iQ g1 j1 j2 (bw a) (bT b) G'->jU rn bor k c G'=!(p a b,G'))
  (he:∀a∈xs,∀b∈ys a,p a b=true->∀G',iQ g1 j1 j2 (bw a) (bT b) G'->fP rn bor k e G'=!(f a b,G')) :
  jV rn bor k nn kk (.nm j1) g8 none (.nm j2) it c e g=!(xs.flatMap λa=>((ys a).filter (p a)).map (f a),g1):=by
 subst hn;let(m',w1,w2):=sU bw ys bT p f rfl rfl h11 h12 h21 h22 iZ xs (List.replicate kk .no) [] ⋯ (by simpa using hl) hw hi he
 delta jV;rw[show Tg.jT (.nm j1)=false from rfl,hw1]
 dsimp only;rw[i8 #[rfl,by simp[Tg.ix,hb1,hb2]],Km,w2]
 dsimp only;have:∀acc,(gM g1 m' acc)[g1.length+kk]?=!(.own acc):=λacc=>by rw[<- w1];show lB
 rw[this];rw[uU,A5]
def xV{α β:Type}(ys:List β):∀xs:List α,(xs.flatMap λ_=>ys).length=xs.length * ys.length
 | []=>by simp
 |_::xs=>by rw[AT,eP,xV ys xs,i9,Nat.succ_mul,Nat.add_comm]
def XF{α β:Type}(xs:List α)(bw:α->D)(ys:List β)(bT:β->D)(p:α->β->Bool)(f:α->β->D)(hw1:cz rn bor k false g8 g=!(xs.map bw,g1))(hn:nn=g1.length)(h11:g1.length<=j1)(h12:j1<g1.length+kk)(h21:g1.length<=j2)(h22:j2<g1.length+kk)(iZ:j1≠j2)(hb1:j1∉bor)(hb2:j2∉bor)(hl:xs.length * ys.length<=lim)
  (hw:∀a∈xs,∀G',uV g1 j1 (bw a) G'->cz rn bor k false it G'=!(ys.map bT,G'))
  (hi:∀a∈xs,∀b∈ys,∀G',iQ g1 j1 j2 (bw a) (bT b) G'->jU rn bor k c G'=!(p a b,G'))
  (he:∀a∈xs,∀b∈ys,p a b=true->∀G',iQ g1 j1 j2 (bw a) (bT b) G'->fP rn bor k e G'=!(f a b,G')) :
  jV rn bor k nn kk (.nm j1) g8 none (.nm j2) it c e g=!(xs.flatMap λa=>(ys.filter (p a)).map (f a),g1):=Cz xs bw (λ_=>ys) bT p f hw1 hn h11 h12 h21 h22 iZ hb1 hb2 (by rw[xV];show hl) hw hi he
end
def rA(F:Nat->~~~0)(a:Nat)(v: ~~~0):((List.range m).map λi=>(F i).map D.int).set a (v.map .int)=(List.range m).map λi=>(if i=a then v else F i).map D.int:=by
 apply List.ext_getElem ⋯ λi h1 h2=>?_
 rw[List.getElem_set];simp only[List.getElem_map,List.getElem_range];by_cases h:a=i
 . subst h;simp
 . rw[i7 h,i7 λe=>h e.symm]
def xX:∀(ah: ~~~5) (F:Nat->~~~0) (c:Nat),(∀x∈ah,Pr m x)->(∀i,(F i).length<=c)->c+ah.length<=900->
  iI (ah.map ∅) ((List.range m).map λi=>(F i).map D.int)=!((List.range m).map λi=>(F i++nb (i:Int) ah).map D.int)
 | [],F,c,_,_,_=>by simp[iI,nb]
 |x::ah,F,c,hx,hF,hc=>by
  let(a,b,rfl,h1,h2,h3):=hx x dA;obtain⟨a,rfl⟩:∃n:Nat,a=n:=#[a.toNat,by lia]
  obtain⟨b,rfl⟩:∃n:Nat,b=n:=#[b.toNat,by lia]
  rw[i9]at hc;have ga:((List.range m).map λi=>(F i).map D.int)[a]?=!((F a).map D.int):=by rw[mI,Db ⋯];rfl
  have la:((F a).map D.int).length<1000:=by rw[eJ];have:=hF a;lia
  have e1:(F a).map D.int++[.int b]=(F a++[(b:Int)]).map D.int:=by rw[oC];rfl
  have gb:((List.range m).map λi=>(if i=a then F a++[(b:Int)]else F i).map D.int)[b]?=!((F b).map D.int):=by rw[mI,Db ⋯];simp only[BS];rw[i7 ⋯]
  have lb:((F b).map D.int).length<1000:=by rw[eJ];have:=hF b;lia
  have e2:(F b).map D.int++[.int a]=(F b++[(a:Int)]).map D.int:=by rw[oC];rfl
  have q:wD ((List.range m).map λi=>(F i).map D.int) (.tup [.int a,.int b])=!((List.range m).map λi=>(if i=b then F b++[(a:Int)]else if i=a then F a++[(b:Int)]else F i).map D.int):=by
   delta wD;dsimp only;rw[i8 (show (0:Int)<=a/\(0:Int)<=b by lia)]
   simp only[Bn,ga,la,CD,e1,rA,gb,lb,e2]
  have ih:=xX ah (λi=>if i=b then F b++[(a:Int)]else if i=a then F a++[(b:Int)]else F i) (c+1) (λx hx'=>hx x (bP _ hx')) (λi=>by
   have:=hF a;have:=hF b;have:=hF i;split
   . simp;lia
   .
    split
    . simp;lia
    .
     lia) ⋯
  have e3:List.map ∅ ([(a:Int),(b:Int)]::ah)=.tup [.int a,.int b]::ah.map λx=>~~~x:=rfl
  rw[e3];delta iI;rw[q];dsimp only;rw[ih]
  congr 1
  apply u8 λi hi=>?_
  congr 1
  delta nb;rw[u4];delta Fc;rw[(bC (a:Int) b).1,(bC (a:Int) b).2];by_cases q1:i=a
  . subst q1;rw[i7 ⋯];simp
  .
   by_cases q2:i=b
   . subst q2;rw[i8 rfl,i7 ⋯];simp
   . rw[i7 q2,i7 q1,i7 ⋯,i7 ⋯]
abbrev lG:Fx:=#[2,5,[(.rows 0 1 2 3 4)]]
abbrev Rw(m:Nat)(ah: ~~~5):D:=.lst ((List.range m).map λ(i:Nat)=>.lst ((nb (i:Int) ah).map .int))
section
variable{ro fi:Nat}(U:iT fns rn)
include U
def Ra(m:Nat)(hm:m<=6)(ah: ~~~5)(h:Wb m ah):cF (rn (n+5)) k lG [.int m,.tup (ah.map ∅)]=!(.dat (Rw m ah)):=by
 have q:=xX ah (λ_=>[]) 0 h.tie (λ_=>eD 0) (by have:=h.len;lia)
 have e:(List.range m).map (λi=>List.map D.int ((λ_=>[]) i: ~~~0))=List.replicate m []:=by rw[List.eq_replicate_iff];simp
 rw[e]at q;have h0:(0:Int)<=m/\(m:Int)<=1000:=by lia
 delta cF lG;simp! [U,q,h0];delta Rw;simp
omit U in
def u6(x:Int)(l: ~~~0):eY .In (.int x) (.lst (l.map .int))=!(decide (x∈l)):=by
 have h:lu (.int x) (l.map .int)=true:=by simp[lu,fM,dI,dJ]
 simp only[eY,bE,h,CD]
 congr 1
 rw[BU];simp[bV]
omit U in
def mL(x:Int)(l: ~~~0):eY .NotIn (.int x) (~~~l)=!((not (decide (x∈l)))):=by
 have h:lu (.int x) (l.map .int)=true:=by simp[lu,fM,dI,dJ]
 simp only[eY,bE,h,CD]
 congr 2
 rw[BU];simp[bV]
variable(hR:fns[ro]?=!lG)
include hR
end
abbrev sV:Fx:=#[2,2,[(.ret (.comp 2 3 (.tp [3,4]) (.ix ⇑0 ↥1) (!(.cmp .In ⇑1 (.tup [⇑3,⇑4]))) (.bin .Sub (.bin .Add ⇑3 ⇑4) ⇑1)))]]
abbrev cn(m:Nat)(ah: ~~~5): ~~~0:=(List.range m).map λ(i:Nat)=>((nb (i:Int) ah).length:Int)
def XH(i a b:Int):eY .In (.int i) (.tup [.int a,.int b])=!(decide (a=i)||decide (b=i)):=by
 have h:lu (.int i) [.int a,.int b]=true:=by have:=dI [a,b];have:=dJ [a,b];simp_all [lu,fM]
 simp only[eY,bE,h,CD]
 congr 1
 rw[BU];simp[bV]
section
variable{k n:Nat}{g g1:G}{rn:Nat->Rn}{fns:List Fx}{w wi it ri iw ci mw ro ne:Nat}(U:iT fns rn)
include U
def Rb(m:Nat)(ah: ~~~5)(h:Wb m ah)(i:Int):cF (rn (n+20)) k sV [W m ah,.int i]=!(.new ((ah.filter (has i)).map λx=>.int (gt x 0+gt x 1 - i))):=by
 have htl:=h.len;have i1:zJ (W m ah) (.int 1)=!(.tup (ah.map ∅)):=rfl
 have w:=λn k=>cS (rn:=rn (n+12)) (bor:=[]) (k:=k) (g:=[.dat (W m ah),‹i›]) (g1:=[.dat (W m ah),‹i›]) (kk:=3) (nn:=2) (j1:=3) (j2:=4) (it:=.ix ⇑0 ↥1) (c:=!(.cmp .In ⇑1 (.tup [⇑3,⇑4]))) (e:=.bin .Sub (.bin .Add ⇑3 ⇑4) ⇑1) ah (λx=>.int (gt x 0)) (λx=>.int (gt x 1)) (has i) (λx=>.int (gt x 0+gt x 1 - i)) (by simp! [U,cz,i1,<- h.two]) rfl ⋯ ⋯ ⋯ ⋯ ⋯ ⋯ ⋯ (aq _ ⋯)
  (λx _ G' hG=>by
   have h1:G'[1]?=!‹i›:=hG.1 1 ⋯;simp! [U,jU,h1,hG.2.1,hG.2.2,XH,aq 2 ⋯];rfl)
  (λx _ _ G' hG=>by
   have h1:G'[1]?=!‹i›:=hG.1 1 ⋯;simp! [U,h1,hG.2.1,hG.2.2])
 delta cF sV;simp! [U,w]
variable(hW:fns[w]?=!cG)(hWi:fns[wi]?=!(bK w))(hIT:fns[it]?=!(fJ wi))(hRI:fns[ri]?=!qB)(yx:fns[iw]?=!(fK wi it ri))
include hW hWi hIT hRI yx
end
abbrev j7:Fx:=#[2,5,[(.set 2 (.lst [])),(.set 3 (.lst [])),(.set 4 (.lst [⇑1])),(.while ⇑4 [(.expr (.append 2 ⇑4)),(.aug 3 .Add ⇑4),(.set 4 (.sE 5 3 (.nm 6) ⇑4 none (.nm 7) (.ix ⇑0 ⇑6) (!(.cmp .NotIn ⇑7 ⇑3)) ⇑7))]),(.ret ⇑2)]]
def KY{c:G->Option (Bool×G)}{b:G->Option (Fl×G)}(I:Nat->G->Prop)(J:G->Prop)(step:∀m g,I m g->(∃g',c g=!(false,g')/\J g')\/∃m' g1 g2,m'<m/\c g=!(true,g1)/\b g1=!(.nx,g2)/\I m' g2):∀N m g,m<N->I m g->∃g',J g'/\LK c b N g=!(.nx,g')
 | 0,m,g,hN,_=>absurd hN (w9 m)
 |N+1,m,g,hN,h=>by
  delta LK;rcases step m g h with ⟨g',q1,q2⟩ |⟨m',g1,g2,q0,q1,q2,q3⟩
  . show#[g',q2,by rw[q1]]
  . let(g',w1,w2):=KY I J step N m' g2 ⋯ q3;show#[g',w1,by rw[q1];dsimp only;rw[q2];show w2]
def sW(x:Int)(l: ~~~0):eY .NotIn (.int x) (.lst (l.map .int))=!((not (decide (x∈l)))):=by have:=mL x l;show this
def Rw_ix{m:Nat}{ah: ~~~5}{p:Int}(h:0<=p/\p<m):zJ (Rw m ah) (.int p)=!(.lst ((nb p ah).map .int)):=by
 obtain⟨p,rfl⟩:∃n:Nat,p=n:=#[p.toNat,by lia]
 exact L2.gU _ _=_;rw[jj _ _ (by simp;lia)]
 simp
section
variable{k n:Nat}{rn:Nat->Rn}{fns:List Fx}(U:iT fns rn)
include U
def Af(m:Nat)(hm:m<=8)(d0:D)(a1 a2 a4 a5 a6 a8:Slot)(done: ~~~0):∀(l ks: ~~~0) (a7:Slot),(∀x∈l,0<=x/\x<m)->∃b7:Slot,Wh (rn (n+10)) [] k (.nm 7) (!(.cmp .NotIn ⇑7 ⇑3)) ⇑7 (l.map .int) ks [.dat d0,a1,a2,.own (done.map .int),a4,a5,a6,a7,a8]=!((l.filter λo=>(not (decide (o∈done)))).foldl Sb.oneMore ks,[.dat d0,a1,a2,.own (done.map .int),a4,a5,a6,b7,a8])
 | [],ks,a7,_=>#[a7,rfl]
 |x::l,ks,a7,hl=>by
  have st:(Tg.nm 7).set (.int x) [.dat d0,a1,a2,.own (done.map .int),a4,a5,a6,a7,a8]=![.dat d0,a1,a2,.own (done.map .int),a4,a5,a6,‹x›,a8]:=rfl;have hc:jU (rn (n+10)) [] k (!(.cmp .NotIn ⇑7 ⇑3)) [.dat d0,a1,a2,.own (done.map .int),a4,a5,a6,‹x›,a8]=!((not (decide (x∈done))),[.dat d0,a1,a2,.own (done.map .int),a4,a5,a6,‹x›,a8]):=by simp! [U,jU,sW]
  have he:fP (rn (n+10)) [] k ⇑7 [.dat d0,a1,a2,.own (done.map .int),a4,a5,a6,‹x›,a8]=!(.int x,[.dat d0,a1,a2,.own (done.map .int),a4,a5,a6,‹x›,a8]):=by simp! [U,U.e]
  have hx':=hl x dA;rw[List.map_cons];delta Wh;rw[st];dsimp only;rw[hc];by_cases hx:x∈done
  .
   let(b7,w):=Af m hm d0 a1 a2 a4 a5 a6 a8 done l ks ‹x› λy hy=>hl y (bP _ hy)
   apply#[b7,?_];rw[List.filter_cons_of_neg (by simp[hx]),mM hx]
   show w
  .
   let(b7,w):=Af m hm d0 a1 a2 a4 a5 a6 a8 done l (Sb.oneMore ks x) ‹x› λy hy=>hl y (bP _ hy)
   apply#[b7,?_];rw[List.filter_cons_of_pos (by simp[hx]),nE hx]
   simp only[Bool.not_false];rw[he];dsimp only;rw[i8 ⋯];show w
def CG(m:Nat)(hm:m<=8)(ah: ~~~5)(hN:Nb m λi=>nb i ah)(a1 a2 a4 a5 a8:Slot)(done: ~~~0):∀(l ks: ~~~0) (a6 a7:Slot),(∀p∈l,0<=p/\p<m)->∃b6 b7:Slot,wX (rn (n+10)) [] k (.nm 6) none (.nm 7) (.ix ⇑0 ⇑6) (!(.cmp .NotIn ⇑7 ⇑3)) ⇑7 (l.map .int) ks [.dat (Rw m ah),a1,a2,.own (done.map .int),a4,a5,a6,a7,a8]=!(((l.flatMap λi=>nb i ah).filter λo=>(not (decide (o∈done)))).foldl Sb.oneMore ks,[.dat (Rw m ah),a1,a2,.own (done.map .int),a4,a5,b6,b7,a8])
 | [],ks,a6,a7,_=>#[a6,a7,rfl]
 |p::l,ks,a6,a7,hp=>by
  have st:(Tg.nm 6).set (.int p) [.dat (Rw m ah),a1,a2,.own (done.map .int),a4,a5,a6,a7,a8]=![.dat (Rw m ah),a1,a2,.own (done.map .int),a4,a5,‹p›,a7,a8]:=rfl;have ix:=Rw_ix (ah:=ah) (hp p dA);have hw:cz (rn (n+10)) [] k false (.ix ⇑0 ⇑6) [.dat (Rw m ah),a1,a2,.own (done.map .int),a4,a5,‹p›,a7,a8]=!((nb p ah).map .int,[.dat (Rw m ah),a1,a2,.own (done.map .int),a4,a5,‹p›,a7,a8]):=by simp! [U,cz,ix]
  let(c7,v):=Af U m hm (Rw m ah) a1 a2 a4 a5 ‹p› a8 done (nb p ah) ks a7 λx hx=>hN.qL p x hx
  let(b6,b7,w):=CG m hm ah hN a1 a2 a4 a5 a8 done l _ ‹p› c7 λq hq=>hp q (bP _ hq)
  apply#[b6,b7,?_];rw[List.map_cons];delta wX;rw[st];dsimp only[jU,Tg.jT];rw[hw];dsimp only;rw[v];dsimp only;rw[w,AT,List.filter_append,List.foldl_append]
def KZ(m:Nat)(hm:m<=6)(ah: ~~~5)(h:Wb m ah)(s:Int)(hs:0<=s/\s<m):∃rs:List (~~~0),cF (rn (n+20)) k j7 [Rw m ah,.int s]=!(.new (rs.map λr=>.lst (r.map .int)))/\rs.length<=6/\Rk (λi=>nb i ah) s rs.flatten/\rs.flatten.length<=6:=by
 have hN:=m7 h;let(g',(rs,a4,h1,h2,h3,rfl),w):=KY (c:=(rn (n+19)).t [] k ⇑4) (b:=(rn (n+19)).b [] k [(.expr (.append 2 ⇑4)),(.aug 3 .Add ⇑4),(.set 4 (.sE 5 3 (.nm 6) ⇑4 none (.nm 7) (.ix ⇑0 ⇑6) (!(.cmp .NotIn ⇑7 ⇑3)) ⇑7))])
  (I:=λq g=>∃(rs: ~~~5) (ring: ~~~0),q+rs.flatten.length=m/\rs.length<=rs.flatten.length/\Bf m (λi=>nb i ah) s rs.flatten ring/\g=[.dat (Rw m ah),‹s›,.own (rs.map λr=>.lst (r.map .int)),.own (rs.flatten.map .int),.own (ring.map .int)])
  (J:=λg=>∃(rs: ~~~5) (a4:Slot),rs.length<=rs.flatten.length/\Bf m (λi=>nb i ah) s rs.flatten []/\rs.flatten.length<=m/\g=[.dat (Rw m ah),‹s›,.own (rs.map λr=>.lst (r.map .int)),.own (rs.flatten.map .int),a4])
  (step:=λq g hI=>by
   let(rs,ring,h1,h2,h3,rfl):=hI;have aK:=h3.len;cases hr:ring with
   |nil=>
    subst hr;apply .inl #[[.dat (Rw m ah),‹s›,.own (rs.map λr=>.lst (r.map .int)),.own (rs.flatten.map .int),.own []],?_,rs,_,h2,h3,by lia,rfl]
    rw[U.t];simp only[stepT,U.e,aU,norm,pk,Ia];rfl
   |cons x rg=>
    have hx:ring≠[]:=by rw[hr];show List.cons_ne_nil _ _
    have nF:=List.length_pos_iff.mpr hx;have hfl:(rs++[ring]).flatten=rs.flatten++ring:=by simp
    have nx:=h3.next hN;let(b6,b7,sp):=CG U m ⋯ ah hN ‹s› (.own ((rs++[ring]).map λr=>.lst (r.map .int))) (.dat (.lst (ring.map .int))) .no .no (rs.flatten++ring) ring [] .no .no (λp hp=>h3.gr.qL p (gN _ hp))
    have sp':pU (rn (n+17)) [] k 5 3 (.nm 6) ⇑4 none (.nm 7) (.ix ⇑0 ⇑6) (!(.cmp .NotIn ⇑7 ⇑3)) ⇑7 [.dat (Rw m ah),‹s›,.own ((rs++[ring]).map λr=>.lst (r.map .int)),.own ((rs.flatten++ring).map .int),.dat (.lst (ring.map .int))]=!(YM (λi=>nb i ah) ring (rs.flatten++ring),[.dat (Rw m ah),‹s›,.own ((rs++[ring]).map λr=>.lst (r.map .int)),.own ((rs.flatten++ring).map .int),.dat (.lst (ring.map .int))]):=by
     have hw:cz (rn (n+17)) [] k false ⇑4 [.dat (Rw m ah),‹s›,.own ((rs++[ring]).map λr=>.lst (r.map .int)),.own ((rs.flatten++ring).map .int),.dat (.lst (ring.map .int))]=!(ring.map .int,[.dat (Rw m ah),‹s›,.own ((rs++[ring]).map λr=>.lst (r.map .int)),.own ((rs.flatten++ring).map .int),.dat (.lst (ring.map .int))]):=by simp! [U,cz]
     delta pU;dsimp only[Tg.jT];rw[hw];dsimp only;have V0:wX (rn (n+17)) [] k (.nm 6) none (.nm 7) (.ix ⇑0 ⇑6) (!(.cmp .NotIn ⇑7 ⇑3)) ⇑7 (ring.map .int) [] (gD 3 [.dat (Rw m ah),‹s›,.own ((rs++[ring]).map λr=>.lst (r.map .int)),.own ((rs.flatten++ring).map .int),.dat (.lst (ring.map .int))])=_:=sp
     rw[V0];rfl
    apply .inr #[m - (rs.flatten.length+ring.length),[.dat (Rw m ah),‹s›,.own (rs.map λr=>.lst (r.map .int)),.own (rs.flatten.map .int),.own (ring.map .int)],[.dat (Rw m ah),‹s›,.own ((rs++[ring]).map λr=>.lst (r.map .int)),.own ((rs++[ring]).flatten.map .int),.own ((YM (λi=>nb i ah) ring (rs.flatten++ring)).map .int)],by lia,?_,?_,rs++[ring],YM (λi=>nb i ah) ring (rs.flatten++ring),by rw[hfl,eP];lia,by rw[hfl,eP,eP,Ap];lia,by rw[hfl];show nx,rfl]
    . rw[hr,U.t];simp only[stepT,U.e];rfl
    .
     have z1:=eM (qS _) (aq (rs.length+1) ⋯);have z2:rs.flatten.length+ring.length<=lim:=aq _ ⋯;rw[hfl];have e2:((rs++[ring]).map λr=>D.lst (r.map .int))=(rs.map λr=>.lst (r.map .int))++[.lst (ring.map .int)]:=by rw[oC];rfl
     rw[e2]at sp';rw[e2];rw[oC]at sp';generalize rs.flatten=dn at z2 sp' ⊢
     simp! [U,z1,z2,sp']) 100000 (m:Nat) [.dat (Rw m ah),‹s›,.own [],.own [],.own [.int s]] ⋯ #[[],[s],by simp,by simp,Bf.one hN hs,rfl]
 apply#[rs,?_,by lia,h2.fin,by lia]
 delta cF j7;simp! [U,aq 1 ⋯,w]
end
abbrev bad1:List D:=[.non,.int 0,.tup [],.tup [.int 7,.tup []],.tup [.int 0,.tup []],.tup [.int (-1),.tup []],.tup [.bl true,.tup []],.tup [.int 2,.lst []],.lst [.int 2,.tup []],.tup [.int 2,.tup [.tup [.int 1,.int 0]]],.tup [.int 2,.tup [.tup [.int 0,.int 0]]],.emp]
abbrev fc:Fx:=#[1,5,[(.set 1 (.lst [(.tup [])])),(.loop (.nm 2) (.bJ ⇑0) [(.set 3 (.lst [])),(.loop (.nm 4) ⇑1 [(.expr (.extend 3 (.comp 5 2 (.nm 6) (.bJ ⇑0) (!(.cmp .NotIn ⇑6 ⇑4)) (.bin .Add ⇑4 (.tup [⇑6])))))]),(.set 1 ⇑3)]),(.ret ⇑1)]]
abbrev led(m:Nat)(ah: ~~~5)(m':Nat)(ties': ~~~5): ~~~5:=(turnsOf m).filter λt=>decide (m=m'/\tw t ah=ties')
def K1(m:Nat)(l: ~~~5)(r: ~~~0):ext m (l++[r])=ext m l++((nums m).filter λx=>(not (decide (x∈r)))).map λx=>r++[x]:=by delta ext;rw[List.flatMap_append,List.flatMap_singleton]
section
variable{wh wi it ri iw ci mw ro fi tt:Nat}(U:iT fns rn)
include U
def lawUp(m:Nat)(hm:m<=6)(l: ~~~5)(hl:l.length<=50000)(hr:∀r∈l,r.length<=10)(d1:D)(s2 a4:Slot):∃b4,fE (.nm 4) ((rn (n+20)).b [] k [(.expr (.extend 3 (.comp 5 2 (.nm 6) (.bJ ⇑0) (!(.cmp .NotIn ⇑6 ⇑4)) (.bin .Add ⇑4 (.tup [⇑6])))))]) (l.map λr=>~~~r) [‹m›,.dat d1,s2,.own [],a4]=!(.nx,[‹m›,.dat d1,s2,.own ((ext m l).map λr=>~~~r),b4]):=by
 have hg:cD 0 m=(nums m).map .int:=iS m;have bnd:∀l:List (~~~0),(ext m l).length<=l.length * 6:=λl=>by
  induction l with
  |nil=>simp[ext]
  |cons r l ih=>
   delta ext at ih ⊢
   rw[AT,eP,eJ,i9];have:=wP (λx=>(not (decide (x∈r)))) (nums m)
   rw[bQ]at this;lia
 have loop:=bS (T:=.nm 4) (b:=(rn (n+20)).b [] k [(.expr (.extend 3 (.comp 5 2 (.nm 6) (.bJ ⇑0) (!(.cmp .NotIn ⇑6 ⇑4)) (.bin .Add ⇑4 (.tup [⇑6])))))]) (λr=>~~~r)
  (I:=λrest g=>∃(pre: ~~~5) (s4:Slot),pre++rest=l/\g=[‹m›,.dat d1,s2,.own ((ext m pre).map λr=>~~~r),s4])
  (step:=λr rest g h=>by
   let(pre,s4,e0,rfl):=h;have hrl:=hr r (by rw[<- e0];simp)
   have ig:pre.length<=50000:=by rw[<- e0,eP]at hl;lia
   have w:=xK (rn:=rn (n+17)) (bor:=[]) (k:=k) (g:=[‹m›,.dat d1,s2,.own ((ext m pre).map λr=>~~~r),.dat (~~~r)]) (g1:=[‹m›,.dat d1,s2,.own ((ext m pre).map λr=>~~~r),.dat (~~~r)]) (kk:=2) (nn:=5) (j:=6) (it:=.bJ ⇑0) (c:=!(.cmp .NotIn ⇑6 ⇑4)) (e:=.bin .Add ⇑4 (.tup [⇑6])) (nums m) .int (λx=>(not (decide (x∈r)))) (λx=>~~~(r++[x])) (by simp! [U,cz,aM m ⋯,hg]) rfl ⋯ ⋯ ⋯ (aq _ (by rw[bQ];lia)) (λx hx G' hG=>by
     have h4:=hG.1 4 ⋯;simp! [U,jU,hG.2,h4,mL]) λx hx _ G' hG=>by
     have h4:=hG.1 4 ⋯;have o:qM .Add (~~~r) (.tup [.int x])=!(.dat (~~~(r++[x]))):=by
      have hlr:(List.map D.int r).length+[D.int x].length<=lim:=aq _ (by rw[eJ];simp;lia)
      simp only[qM,Fg,hlr,oC];rfl
     simp! [U,hG.2,h4,o,aq 1 ⋯]
   have e3:(((nums m).filter λx=>(not (decide (x∈r)))).map λx=>~~~(r++[x]))=(((nums m).filter λx=>(not (decide (x∈r)))).map λx=>r++[x]).map λr=>~~~r:=by rw[List.map_map];rfl
   rw[e3]at w;have z:(ext m pre).length+((nums m).filter λx=>(not (decide (x∈r)))).length<=lim:=by
    have h1:=bnd pre;have h2:=wP (λx=>(not (decide (x∈r)))) (nums m)
    rw[bQ]at h2;show l7 (show _<=400000 by lia) ⋯
   apply#[_,[‹m›,.dat d1,s2,.own ((ext m (pre++[r])).map λr=>~~~r),.dat (~~~r)],rfl,?_,pre++[r],_,by rw[<- e0];simp,rfl]
   rw[K1];simp! [U,w,z])
 let(g',(pre,s4,e0,rfl),q):=loop l [‹m›,.dat d1,s2,.own [],a4] #[[],a4,rfl,rfl];rw[l9]at e0;subst e0;show#[s4,q]
def xY(m:Nat)(hm:1<=m/\m<=6):cF (rn (n+40)) k fc [.int m]=!(.dat (.lst ((turnsOf m).map λr=>~~~r))):=by
 have len:∀s r,r∈aO m s->r.length=s:=λs=>by
  induction s with
  |zero=>intro r hr;cases hU.mp hr;rfl
  |succ s ih=>intro r hr;let(q,hq,hr):=CU.mp hr;let(x,_,rfl):=fR.mp hr;rw[eP,ih q hq];rfl
 have big:∀s,s<=m->(aO m s).length<=50000:=λs hs=>l7 (iU m s) (l7 (Nat.pow_le_pow_left hm.2 s) (l7 (Nat.pow_le_pow_right ⋯ (show s<=6 by lia)) ⋯))
 have loop:=bS (T:=.nm 2) (b:=(rn (n+39)).b [] k [(.set 3 (.lst [])),(.loop (.nm 4) ⇑1 [(.expr (.extend 3 (.comp 5 2 (.nm 6) (.bJ ⇑0) (!(.cmp .NotIn ⇑6 ⇑4)) (.bin .Add ⇑4 (.tup [⇑6])))))]),(.set 1 ⇑3)]) (λ(j:Nat)=>D.int (j:Int))
  (I:=λl g=>∃(j:Nat) (s1 s2 s3 s4:Slot),j<=m/\l=List.range' j (m - j)/\g=[‹m›,s1,s2,s3,s4]/\(s1=.dat (.lst ((aO m j).map λr=>~~~r))\/(j=0/\s1=.own ((aO m j).map λr=>~~~r))))
  (step:=λa l g h=>by
   let(j,s1,s2,s3,s4,h0,h1,rfl,h3):=h;have hjm:j<m:=by
    rcases sK j m with h |h
    . show h
    . rw[A9 h]at h1;cases h1
   have hc:List.range' j (m - j)=j::List.range' (j+1) (m - (j+1)):=by rw[show m - j=(m - (j+1))+1 by lia,AX]
   rw[hc]at h1;injection h1 with e1 e2;subst e1 e2;let(b4,q):=lawUp U m hm.2 (aO m a) (big a ⋯) (λr hr=>by rw[len a r hr];lia) (.lst ((aO m a).map λr=>~~~r)) ‹a› s4
   apply#[_,[‹m›,.dat (.lst ((aO m (a+1)).map λr=>~~~r)),‹a›,.dat (.lst ((aO m (a+1)).map λr=>~~~r)),b4],rfl,?_,a+1,_,_,_,_,by lia,rfl,rfl,.inl rfl]
   have q':fE (.nm 4) ((rn (n+38)).b [] k [(.expr (.extend 3 (.comp 5 2 (.nm 6) (.bJ ⇑0) (!(.cmp .NotIn ⇑6 ⇑4)) (.bin .Add ⇑4 (.tup [⇑6])))))]) ((aO m a).map λr=>~~~r) [‹m›,.dat (.lst ((aO m a).map λr=>~~~r)),‹a›,.own [],s4]=!(.nx,[‹m›,.dat (.lst ((aO m a).map λr=>~~~r)),‹a›,.own ((aO m (a+1)).map λr=>~~~r),b4]):=q
   generalize hb:(rn (n+38)).b [] k [(.expr (.extend 3 (.comp 5 2 (.nm 6) (.bJ ⇑0) (!(.cmp .NotIn ⇑6 ⇑4)) (.bin .Add ⇑4 (.tup [⇑6])))))]=bb at q';rcases h3 with rfl |⟨rfl,rfl⟩
   . simp! [U,cz,hb,q']
   .
    simp! [U,cz,hb];simp at q';simp[q'])
 let(g',(j,s1,s2,s3,s4,h0,h1,rfl,h3),h2):=loop (List.range' 0 m) [‹m›,.own [~~~[]],.no,.no,.no] #[0,_,_,_,_,by lia,rfl,rfl,.inr #[rfl,rfl]]
 have hj:j=m:=by
  have:(List.range' j (m - j)).length=0:=by rw[<- h1];rfl
  rw[B5]at this;lia
 subst hj;obtain rfl:=h3.resolve_right λe=>by lia
 have hr:cD 0 j=(List.range' 0 j).map λ(x:Nat)=>D.int (x:Int):=by delta cD;rw[xL];show u8 λx _=>by rw[Int.zero_add]
 have t0:D.tup [] = ~~~[]:=rfl;delta cF fc turnsOf;simp! [U,aq 1 ⋯,cz,aM j ⋯,hr,t0,h2]
variable(hW:fns[wh]?=!cG)(hI:fns[wi]?=!(bK wh))(nW:fns[it]?=!(fJ wi))(K3:fns[ri]?=!qB)(yx:fns[iw]?=!(fK wi it ri))(K4:fns[mw]?=!(bh iw ci))(hR:fns[ro]?=!lG)
include hW hI nW K3 yx K4 hR
end
def m8(m:Nat):∀(s:Nat) (r: ~~~0),r.length=s->r.Nodup->(∀x∈r,x∈nums m)->r∈aO m s
 | 0,r,h,_,_=>by
  rw[List.length_eq_zero_iff.mp h];show AW []
 |s+1,r,h,hn,hm=>by
  obtain⟨a,x,rfl⟩:∃a x,r=a++[x]:=#[r.dropLast,r.getLast (by rintro rfl;symm),(List.dropLast_concat_getLast _).symm]
  rw[eP,Ap]at h;rw[sT]at hn;delta aO ext;rw[CU];apply#[a,m8 m s a ⋯ hn.1 λy hy=>hm y (l8 _ hy),?_]
  rw[fR];apply#[x,i4.mpr #[hm x (gN _ (AW x)),?_],rfl];rw[Bi,decide_eq_false_iff_not];show λhx=>hn.2.2 x hx x (AW x) rfl
def m9(h:Tn m t):t∈turnsOf m:=m8 m m t h.length h.nodup λx hx=>fH.mpr (h.mem.mp hx)
abbrev K5(g:G)(kk j:Nat)(d:D)(G':G):Prop:=uV g j d G'/\G'.length=g.length+kk+1
def XJ{α:Type}(ak:List α)(cV:α->D)(p:α->Bool)(f:α->D)(hw:cz rn bor k false it g=!(ak.map cV,g1))(hn:nn=g1.length)(hj1:g1.length<=j)(hj2:j<g1.length+kk)(hb:j∉bor)(hl:ak.length<=lim)
  (hi:∀a∈ak,∀G',K5 g1 kk j (cV a) G'->jU rn bor k c G'=!(p a,G')) (he:∀a∈ak,p a=true->∀G',K5 g1 kk j (cV a) G'->fP rn bor k e G'=!(f a,G')) :
  fQ rn bor k nn kk (.nm j) it c e g=!((ak.filter p).map f,g1):=by
 have sees:∀(a:α) (m:G) (acc:List D),m.length=kk->K5 g1 kk j (cV a) (gM g1 (m.set (j - g1.length) (.dat (cV a))) acc):=λa m acc hm=>by
  apply#[#[λi hi=>ji hi,?_],?_]
  .
   have:=cO (g:=g1) (m:=m.set (j - g1.length) (.dat (cV a))) (acc:=acc) (i:=j - g1.length) (by simp;lia)
   rw[show g1.length+(j - g1.length)=j by lia]at this
   rw[this,hV ⋯]
  . delta gM;simp[hm];lia
 apply mG ak cV f p (λa m=>m.set (j - g1.length) (.dat (cV a))) hw hn (by simp[Tg.ix,hb]) hl (λd m hm=>by simpa using hm) (λa _ m acc hm=>qo (kk:=kk) hj1 ⋯) (λa ha m acc hm=>hi a ha _ (sees a m acc hm)) λa ha hp m acc hm=>he a ha hp _ (sees a m acc hm)
abbrev gS(ro rg:Nat):Fx:=#[1,5,[(.tgt (.tp [1,2]) ⇑0),(.set 3 (.call ro [⇑1,⇑2])),(.setC 4 (.comp 5 2 (.nm 6) (.bJ ⇑1) none (.blt .sorted [(.cS 8 3 (.nm 9) (.call rg [⇑3,⇑6]) none (.nm 10) ⇑9 none ⇑10)]))),(.ret (.comp 5 3 (.tp [6,7]) (.enum ⇑4) (!(.cmp .Eq (.ix ⇑7 ↥0) ⇑6)) ⇑7))]]
abbrev kr(m:Nat)(ah: ~~~5): ~~~5:=bR (λi=>nb i ah) m m
def FZ(m:Nat)(X:Int->D):mX ((nums m).map X)=(nums m).map λs=>.tup [.int s,X s]:=by
 have key:∀(c i:Nat),(((List.range' i c).map λ(k:Nat)=>(k:Int)).map X).zipIdx i=((List.range' i c).map λ(k:Nat)=>(X k,k)):=λc=>by
  induction c with
  |zero=>intro i;rfl
  |succ c ih=>intro i;rw[AX,List.map_cons,List.map_cons,List.zipIdx_cons,ih (i+1),List.map_cons]
 have e:=key m 0;rw[<- xL]at e;delta mX nums;rw[e,List.map_map,List.map_map];rfl
section
variable{k n:Nat}{rn:Nat->Rn}{fns:List Fx}{ro rg ne:Nat}(U:iT fns rn)
include U
def sX(hR:fns[ro]?=!lG)(hG:fns[rg]?=!j7)(m:Nat)(hm:1<=m/\m<=6)(ah: ~~~5)(h:Wb m ah):cF (rn (n+60)) (k+1) (gS ro rg) [W m ah]=!(.new ((kr m ah).map λc=>.lst (c.map .int))):=by
 have hN:=m7 h;have st:∀s1 s2 s3 s4,Tg.set (.tp [1,2]) (W m ah) [.dat (W m ah),s1,s2,s3,s4]=![.dat (W m ah),‹m›,.dat (.tup (ah.map ∅)),s3,s4]:=λ_ _ _ _=>rfl
 have q1:=λn k=>Ra U (n:=n) (k:=k) m hm.2 ah h
 have hg:cD 0 m=(nums m).map .int:=iS m;have w:=XJ (rn:=rn (n+59)) (bor:=[]) (k:=k+1) (g:=[.dat (W m ah),‹m›,.dat (.tup (ah.map ∅)),.dat (Rw m ah),.no]) (g1:=[.dat (W m ah),‹m›,.dat (.tup (ah.map ∅)),.dat (Rw m ah),.no]) (kk:=2) (nn:=5) (j:=6) (it:=.bJ ⇑1) (c:=none) (e:=.blt .sorted [(.cS 8 3 (.nm 9) (.call rg [⇑3,⇑6]) none (.nm 10) ⇑9 none ⇑10)]) (nums m) .int (λ_=>true) (λs=>.lst ((cp (λi=>nb i ah) m s).map .int)) (by simp! [U,cz,aM m ⋯,hg]) rfl ⋯ ⋯ ⋯ (aq _ (by rw[bQ];lia)) (λ_ _ _ _=>rfl) λs hs _ G' Sz=>by
  have hs':=fH.mp hs;have h3:=Sz.1.1 3 ⋯;have h6:=Sz.1.2;have hl:G'.length=8:=Sz.2;let(rs,r1,r2,r3,r4):=KZ U (n:=n+36) (k:=k) m hm.2 ah h s hs';have v:=Cz (rn:=rn (n+57)) (bor:=[]) (k:=k+1) (g:=G') (kk:=3) (j1:=9) (j2:=10) (g8:=.call rg [⇑3,⇑6]) (it:=.slot 9) (c:=none) (e:=.slot 10) rs (λr=>.lst (r.map .int)) (λr=>r) .int (λ_ _=>true) (λ_ x=>.int x) (by simp! [U,cz,h3,h6,hG,bB (fx:=j7) rfl,r1]) hl.symm ⋯ ⋯ ⋯ ⋯ ⋯ ⋯ ⋯ (by
   have:rs.flatMap (λr=>r)=rs.flatten:=by rw[List.flatMap_def,List.map_id']
   show aq _ ⋯) (λr hr G'' Rc=>by simp! [U,cz,Rc.2]) (λr hr x hx G'' Rc=>rfl) λr hr x hx _ G'' Rc=>by simp! [U,Rc.2.2]
  have e1:(rs.flatMap λr=>(r.filter λ_=>true).map λx=>D.int x)=rs.flatten.map .int:=by
   rw[List.flatMap_def,List.map_flatten]
   congr 1
   show u8 λr _=>by rw[filter_all]
  rw[e1]at v;have so:=iR rs.flatten ⋯;rw[Cr hN hs' r3]at so;generalize rs.flatten=L at v so;simp! [U,v,so]
 rw[filter_all]at w;have v:=cS (rn:=rn (n+58)) (bor:=[]) (k:=k+1) (g:=[.dat (W m ah),‹m›,.dat (.tup (ah.map ∅)),.dat (Rw m ah),.own ((nums m).map λs=>.lst ((cp (λi=>nb i ah) m s).map .int))]) (g1:=[.dat (W m ah),‹m›,.dat (.tup (ah.map ∅)),.dat (Rw m ah),.dat (.lst ((nums m).map λs=>.lst ((cp (λi=>nb i ah) m s).map .int)))]) (kk:=3) (nn:=5) (j1:=6) (j2:=7) (it:=.enum ⇑4) (c:=!(.cmp .Eq (.ix ⇑7 ↥0) ⇑6)) (e:=.slot 7) (nums m) .int (λs=>.lst ((cp (λi=>nb i ah) m s).map .int)) (ld (λi=>nb i ah) m) (λs=>.lst ((cp (λi=>nb i ah) m s).map .int)) (by
   have:=FZ m λs=>D.lst ((cp (λi=>nb i ah) m s).map D.int)
   simp! [U,cz,bE,this]) rfl ⋯ ⋯ ⋯ ⋯ ⋯ ⋯ ⋯ (aq _ (by rw[bQ];lia))
  (λs hs G' Sz=>by
   have hl:=KD hN (fH.mp hs);have ix:L2.gU ((cp (λi=>nb i ah) m s).map D.int) 0=!(.int (gt (cp (λi=>nb i ah) m s) 0)):=qA ⋯
   have h1:=Sz.2.1;have h2:=Sz.2.2;delta ld;simp! [U,jU,h1,h2,ix])
  (λs hs _ G' Sz=>by
   have h2:=Sz.2.2;simp! [U,h2])
 have e2:(((nums m).filter (ld (λi=>nb i ah) m)).map λs=>D.lst ((cp (λi=>nb i ah) m s).map .int))=(kr m ah).map λc=>.lst (c.map .int):=by delta kr bR;rw[List.map_map];rfl
 rw[e2]at v;delta cF gS;simp! [U,st,hR,bB (fx:=lG) rfl,q1,w,v]
end
def jl(h0:T.set d g=!g0)(h:b g0=!(.nx,g1)):fE T b (d::l) g=fE T b l g1:=by
 conv=>lhs;unfold fE
 rw[h0];dsimp only;rw[h]
abbrev iV:Fx:=#[2,2,[(.ret (.ite (.cmp .Lt ⇑0 ⇑1) (.tup [⇑0,⇑1]) (.tup [⇑1,⇑0])))]]
abbrev xZ(to:Nat):Fx:=#[2,4,[(.tgt (.tp [2,3]) ⇑0),(.ret (.tup [⇑2,(.blt .tuple [(.blt .sorted [(.comp 4 3 (.tp [5,6]) ⇑3 none (.call to [(.ix ⇑1 ⇑5),(.ix ⇑1 ⇑6)]))])])]))]]
def x6(t: ~~~0)(x:Int)(h:x∈t):Wf .index (~~~t) (.int x)=!(.int (t.idxOf x:Nat)):=by
 have e:∀t:List Int,x∈t->zc (.int x) (t.map .int)=!(t.idxOf x):=λt=>by
  induction t with
  |nil=>intro h;symm
  |cons a t ih=>
   intro h;rw[List.map_cons];delta zc;by_cases ha:a=x
   .
    subst ha;rw[i8 (by simp[bV])]
    simp[List.idxOf_cons]
   .
    rw[i7 (by simp[bV,ha])]
    have hx:=(dS.mp h).resolve_left λz=>ha z.symm
    rw[ih hx];have hb:(a==x)=false:=by simpa using ha
    simp[List.idxOf_cons,hb]
 have ho:lu (.int x) (t.map .int)=true:=by simp[lu,fM,dI,dJ]
 delta Wf;simp only[bE,ho,CD,e t h]
section
variable{k n:Nat}{g g1:G}{rn:Nat->Rn}{fns:List Fx}{wh wi it ri iw ci cj cw mw tu mt mb le to:Nat}(U:iT fns rn)
include U
def K6(a b:Int):cF (rn (n+8)) k iV [.int a,.int b]=!(.dat (~~~(if a<b then [a,b]else [b,a]))):=by
 delta cF iV;by_cases h:a<b
 . simp! [U,h,aq 2 ⋯];simp
 . simp! [U,h,aq 2 ⋯];simp
variable(YS:fns[to]?=!iV)
include YS in
def XM(m:Nat)(ah: ~~~5)(t: ~~~0)(h:Wb m ah)(ht:Tn m t):cF (rn (n+40)) (k+2) (xZ to) [W m ah,~~~t]=!(.dat (W m (tw t ah))):=by
 have hl:=h.len;have htl:=ht.length;have st:∀s1 s2,Tg.set (.tp [2,3]) (W m ah) [.dat (W m ah),.dat (~~~t),s1,s2]=![.dat (W m ah),.dat (~~~t),‹m›,.dat (.tup (ah.map ∅))]:=λ_ _=>rfl
 have w:=λn k=>zY (rn:=rn (n+16)) (bor:=[]) (k:=k+1) (g:=[.dat (W m ah),.dat (~~~t),‹m›,.dat (.tup (ah.map ∅))]) (g1:=[.dat (W m ah),.dat (~~~t),‹m›,.dat (.tup (ah.map ∅))]) (kk:=3) (nn:=4) (j1:=5) (j2:=6) (it:=.slot 3) (e:=.call to [(.ix ⇑1 ⇑5),(.ix ⇑1 ⇑6)]) ah (λx=>.int (gt x 0)) (λx=>.int (gt x 1)) (λx=>~~~(tm t x)) (by simp! [U,cz,<- h.two]) rfl ⋯ ⋯ ⋯ ⋯ ⋯ ⋯ ⋯ (aq _ ⋯) λx hx G' hG=>by
  have h1:G'[1]?=!(.dat (~~~t)):=hG.1 1 ⋯;let(a,b,rfl,h2,h3,h4):=h.tie x hx;have h5:=hG.2.1;have h6:=hG.2.2;rw[(bC a b).1]at h5;rw[(bC a b).2]at h6;simp! [U,h5,h6,h1,qA (t:=t) (i:=a) ⋯,qA (t:=t) (i:=b) ⋯,YS,bB (fx:=iV) rfl,K6 U,lF]
 have e1:ah.map (λx=>~~~(tm t x))=(ah.map (tm t)).map λx=>~~~x:=by rw[List.map_map];rfl
 have e2:=fG (ah.map (tm t)) (λx hx=>by let(y,_,rfl):=fR.mp hx;delta tm;split <;> simp) (by simp;lia)
 delta cF xZ;simp! [U,Tg.ix,st,w,e1,e2,aq 2 ⋯];rfl
variable(hW:fns[wh]?=!cG)(hI:fns[wi]?=!(bK wh))
include hW hI
variable(nW:fns[it]?=!(fJ wi))(K3:fns[ri]?=!qB)(yx:fns[iw]?=!(fK wi it ri))(K4:fns[mb]?=!(bh iw cw))(hLe:fns[le]?=!(xZ to))
include nW K3 yx K4
end
abbrev x8(ne:Nat):List Sm:=[(.expr (.extend 3 (.comp 6 2 (.nm 7) (.call ne [⇑0,⇑5]) (!(.cmp .NotIn ⇑7 ⇑3)) ⇑7)))]
abbrev Rf:Ex:=.comp 6 2 (.nm 7) ⇑1 (!(.cmp .In ⇑2 ⇑7)) ⇑7
abbrev K7(ne:Nat):List Sm:=[(.set 3 (.lst [⇑2])),(.loop (.nm 4) (.bJ (.ix ⇑0 ↥0)) [(.loop (.nm 5) (.blt .list [⇑3]) (x8 ne))]),(.expr (.append 1 (.blt .tuple [(.blt .sorted [⇑3])])))]
abbrev x9(ne:Nat):List Sm:=[(.ite (.cmp .Eq (.peek Rf) (.lst [])) (K7 ne) [])]
abbrev qJ(ne:Nat):Fx:=#[1,6,[(.set 1 (.lst [])),(.loop (.nm 2) (.bJ (.ix ⇑0 ↥0)) (x9 ne)),(.ret ⇑1)]]
def Rg(i:Int)(ah: ~~~5):((ah.filter (has i)).map λx=>gt x 0+gt x 1 - i)=nb i ah:=by
 induction ah with
 |nil=>rfl
 |cons x l ih=>
  delta nb at ih ⊢
  by_cases h1:gt x 0=i
  . simp[Fc,has,h1];lia
  .
   by_cases h2:gt x 1=i
   . simp[Fc,has,h1,h2,ih]
   . simp[Fc,has,h1,h2,ih]
def XQ{l:List D}(h:∀x∈l,fM x=true/\dep x<=5):eY .Eq (.lst l) (.lst [])=!l.isEmpty:=by
 have h1:=xO λx hx=>(h x hx).1
 have h2:=xP λx hx=>(h x hx).2
 have h3:dep (.lst l)<=190:=by exact deps l+1<=190;lia
 have:jx (.lst l) (.lst [])=true:=by simp only[jx,fM,h1,dR,Bool.true_and,l6];show h3
 simp only[eY,this];cases l <;> rfl
section
variable{k n:Nat}{rn:Nat->Rn}{fns:List Fx}{ne:Nat}(U:iT fns rn)(hE:fns[ne]?=!sV)
include U hE
def CJ(m:Nat)(hm:m<=6)(ah: ~~~5)(h:Wb m ah)(s:Int)(a1 a2 a4:Slot):∀(hs r: ~~~0) (a5:Slot),(∀x∈hs,QX (λi=>nb i ah) s x)->Gr m (λi=>nb i ah) s r->∃b5,fE (.nm 5) ((rn (n+40)).b [] (k+1) (x8 ne)) (hs.map .int) [.dat (W m ah),a1,a2,.own (r.map .int),a4,a5]=!(.nx,[.dat (W m ah),a1,a2,.own ((hs.foldl (mK λi=>nb i ah) r).map .int),a4,b5])
 | [],r,a5,_,_=>#[a5,rfl]
 |x::hs,r,a5,hh,g=>by
  have hN:=m7 h;have g2:=g.add hN (hh x dA);let(b5,w):=CJ m hm ah h s a1 a2 a4 hs _ ‹x› (λy hy=>hh y (bP _ hy)) g2
  apply#[b5,?_];have hl:=mJ g2.nd g2.qL;have nr:=λn k=>Rb U (n:=n) (k:=k) m ah h x
  have e0:((ah.filter (has x)).map λy=>D.int (gt y 0+gt y 1 - x))=(nb x ah).map .int:=by rw[<- Rg,List.map_map];rfl
  rw[e0]at nr;have hnl:=mJ (hN.nd x) (hN.qL x);have v:=xK (rn:=rn (n+37)) (bor:=[]) (k:=k+1) (g:=[.dat (W m ah),a1,a2,.own (r.map .int),a4,‹x›]) (g1:=[.dat (W m ah),a1,a2,.own (r.map .int),a4,‹x›]) (kk:=2) (nn:=6) (j:=7) (it:=.call ne [⇑0,⇑5]) (c:=!(.cmp .NotIn ⇑7 ⇑3)) (e:=.slot 7) (nb x ah) .int (λo=>(not (decide (o∈r)))) .int (by simp! [U,cz,hE,bB (fx:=sV) rfl,nr]) rfl ⋯ ⋯ ⋯ (aq _ ⋯) (λo _ G' hG=>by
    have h3:=hG.1 3 ⋯;simp! [U,jU,hG.2,h3,sW]) (λo _ _ G' hG=>by simp! [U,hG.2])
  have e2:r.length+((nb x ah).filter λo=>(not (decide (o∈r)))).length<=lim:=by delta mK at hl;rw[eP]at hl;show aq _ ⋯
  have q:(rn (n+40)).b [] (k+1) (x8 ne) [.dat (W m ah),a1,a2,.own (r.map .int),a4,‹x›]=!(.nx,[.dat (W m ah),a1,a2,.own ((mK (λi=>nb i ah) r x).map .int),a4,‹x›]):=by delta x8 mK;simp! [U,v,e2]
  rw[List.map_cons,jl (rfl:(Tg.nm 5).set _ _=_) q];show w
def yc(m:Nat)(hm:m<=6)(ah: ~~~5)(h:Wb m ah)(s:Int)(a1 a2:Slot):∀(l:List D) (r: ~~~0) (a4 a5:Slot),Gr m (λi=>nb i ah) s r->∃b4 b5,fE (.nm 4) ((rn (n+42)).b [] (k+1) [(.loop (.nm 5) (.blt .list [⇑3]) (x8 ne))]) l [.dat (W m ah),a1,a2,.own (r.map .int),a4,a5]=!(.nx,[.dat (W m ah),a1,a2,.own ((qG (λi=>nb i ah) l.length r).map .int),b4,b5])
 | [],r,a4,a5,_=>#[a4,a5,rfl]
 |d::l,r,a4,a5,g=>by
  have hN:=m7 h;let(g2,_,_):=fold_add hN r r g.rc g;let(c5,v):=CJ U hE m hm ah h s a1 a2 (.dat d) r r a5 g.rc g;let(b4,b5,w):=yc m hm ah h s a1 a2 l _ (.dat d) c5 g2;apply#[b4,b5,?_];generalize hb:(rn (n+1+40)).b [] (k+1) (x8 ne)=bb at v;have q:(rn (n+42)).b [] (k+1) [(.loop (.nm 5) (.blt .list [⇑3]) (x8 ne))] [.dat (W m ah),a1,a2,.own (r.map .int),.dat d,a5]=!(.nx,[.dat (W m ah),a1,a2,.own ((r.foldl (mK λi=>nb i ah) r).map .int),.dat d,c5]):=by simp! [U,cz,hb,v]
  rw[jl (rfl:(Tg.nm 4).set _ _=_) q];show w
def K8(m:Nat)(hm:1<=m/\m<=6)(ah: ~~~5)(h:Wb m ah):cF (rn (n+60)) (k+1) (qJ ne) [W m ah]=!(.new ((kr m ah).map λc=>~~~c)):=by
 have hN:=m7 h;have i0:zJ (W m ah) (.int 0)=!(.int m):=rfl;have hg:cD 0 m=(nums m).map .int:=iS m;have step:∀(p:Nat) (a3 a4 a5:Slot),p<m->∃b3 b4 b5,(rn (n+59)).b [] (k+1) (x9 ne) [.dat (W m ah),.own ((bR (λi=>nb i ah) m p).map λc=>~~~c),‹p›,a3,a4,a5]=!(.nx,[.dat (W m ah),.own ((bR (λi=>nb i ah) m (p+1)).map λc=>~~~c),‹p›,b3,b4,b5]):=by
  intro p a3 a4 a5 hp;have lK:0<=(p:Int)/\(p:Int)<m:=by lia
  have hu:(bR (λi=>nb i ah) m p).length<=p:=by
   delta bR;rw[eJ];have:=wP (ld (λi=>nb i ah) m) (nums p)
   rw[bQ]at this;show this
  have v:=xK (rn:=rn (n+55)) (bor:=[]) (k:=k+1) (g:=[.dat (W m ah),.dat (.lst ((bR (λi=>nb i ah) m p).map λc=>~~~c)),‹p›,cU a3,cU a4,cU a5]) (g1:=[.dat (W m ah),.dat (.lst ((bR (λi=>nb i ah) m p).map λc=>~~~c)),‹p›,cU a3,cU a4,cU a5]) (kk:=2) (nn:=6) (j:=7) (it:=.slot 1) (c:=!(.cmp .In ⇑2 ⇑7)) (e:=.slot 7) (bR (λi=>nb i ah) m p) (λc=>~~~c) (λc=>decide ((p:Int)∈c)) (λc=>~~~c) (by simp! [U,cz]) rfl ⋯ ⋯ ⋯ (aq _ ⋯) (λc _ G' hG=>by
    have h2:=hG.1 2 ⋯;have ci:eY .In (.int p) (~~~c)=!(decide ((p:Int)∈c)):=u6 p c;simp! [U,jU,hG.2,h2,ci]) (λc _ _ G' hG=>by simp! [U,hG.2])
  have hz:List.map cU [.dat (W m ah),.own ((bR (λi=>nb i ah) m p).map λc=>~~~c),‹p›,a3,a4,a5]=[.dat (W m ah),.dat (.lst ((bR (λi=>nb i ah) m p).map λc=>~~~c)),‹p›,cU a3,cU a4,cU a5]:=rfl
  have hF:((((bR (λi=>nb i ah) m p).filter λc=>decide ((p:Int)∈c)).map λc=>~~~c).all kW)=true:=by rw[lL];intro d hd;let(c,_,rfl):=fR.mp hd;exact (c.map D.int).all flat=true;rw[List.all_map,lL];intro x _;rfl
  have hE0:eY .Eq (.lst (((bR (λi=>nb i ah) m p).filter λc=>decide ((p:Int)∈c)).map λc=>~~~c)) (.lst [])=!(ld (λi=>nb i ah) m p):=by
   rw[XQ λd hd=>by
    let(c,_,rfl):=fR.mp hd;apply#[dI c,?_];exact deps (c.map D.int)+1<=5;rw[dJ];decide]
   have:=KH hN p hp
   congr 1
   rw[BU,List.isEmpty_iff,List.map_eq_nil_iff];show this
  have vp:(rn (n+56)).e [] (k+1) Rf [.dat (W m ah),.dat (.lst ((bR (λi=>nb i ah) m p).map λc=>~~~c)),‹p›,cU a3,cU a4,cU a5]=!(.new (((bR (λi=>nb i ah) m p).filter λc=>decide ((p:Int)∈c)).map λc=>~~~c),[.dat (W m ah),.dat (.lst ((bR (λi=>nb i ah) m p).map λc=>~~~c)),‹p›,cU a3,cU a4,cU a5]):=by delta Rf;simp! [U,v]
  generalize (((bR (λi=>nb i ah) m p).filter λc=>decide ((p:Int)∈c)).map λc=>~~~c)=E at vp hF hE0
  generalize hR0:K7 ne=R0;have iss:(rn (n+59)).b [] (k+1) (x9 ne) [.dat (W m ah),.own ((bR (λi=>nb i ah) m p).map λc=>~~~c),‹p›,a3,a4,a5]=(if ld (λi=>nb i ah) m p=true then (match (rn (n+58)).b [] (k+1) R0 [.dat (W m ah),.own ((bR (λi=>nb i ah) m p).map λc=>~~~c),‹p›,a3,a4,a5]with |!(.nx,g1)=>!(.nx,g1) |!(f,g1)=>!(f,g1) |none=>none)else some (.nx,[.dat (W m ah),.own ((bR (λi=>nb i ah) m p).map λc=>~~~c),‹p›,a3,a4,a5])):=by
   have te:(rn (n+57)).e [] (k+1) (.peek Rf) [.dat (W m ah),.own ((bR (λi=>nb i ah) m p).map λc=>~~~c),‹p›,a3,a4,a5]=!(.new E,[.dat (W m ah),.own ((bR (λi=>nb i ah) m p).map λc=>~~~c),‹p›,a3,a4,a5]):=by rw[U.e];simp only[aU,hz,vp,hF,List.isEmpty_nil,CD]
   have tl:(rn (n+57)).e [] (k+1) (.lst []) [.dat (W m ah),.own ((bR (λi=>nb i ah) m p).map λc=>~~~c),‹p›,a3,a4,a5]=!(.new [],[.dat (W m ah),.own ((bR (λi=>nb i ah) m p).map λc=>~~~c),‹p›,a3,a4,a5]):=by simp! [U,aq 0 ⋯]
   delta x9;rw[hR0,U.b];simp only[cK,aH,U.t,stepT,argsR,te,tl,norm,pk,hE0];cases ld (λi=>nb i ah) m p with
   |true=>rfl
   |false=>simp only[U.b];rfl
  rw[iss,FQ];by_cases hc:ld (λi=>nb i ah) m p=true
  .
   let(b4,b5,w):=yc U hE m hm.2 ah h p (.own ((bR (λi=>nb i ah) m p).map λc=>~~~c)) ‹p› ((nums m).map .int) [(p:Int)] a4 a5 (z9 hN lK)
   rw[eJ,bQ,show [(p:Int)].map D.int=[.int p]from rfl]at w
   have rk:=Aa hN lK;have hrl:=mJ rk.nd (rk.qL hN lK);have so:=iR (qG (λi=>nb i ah) m [(p:Int)]) ⋯
   have so':mj .sorted [.lst ((qG (λi=>nb i ah) m [(p:Int)]).map D.int)]=!(.new ((cp (λi=>nb i ah) m p).map .int)):=so
   have z1:=eM (qS _) (aq ((bR (λi=>nb i ah) m p).length+1) ⋯)
   apply#[.own ((qG (λi=>nb i ah) m [(p:Int)]).map .int),b4,b5,?_]
   rw[i8 hc,i8 hc];have e9:((bR (λi=>nb i ah) m p++[cp (λi=>nb i ah) m p]).map λc=>~~~c)=((bR (λi=>nb i ah) m p).map λc=>~~~c)++[~~~(cp (λi=>nb i ah) m p)]:=by rw[oC];rfl
   rw[e9];generalize hb:(rn (n+15+42)).b [] (k+1) [(.loop (.nm 5) (.blt .list [⇑3]) (x8 ne))]=bb at w;have body:(rn (n+58)).b [] (k+1) R0 [.dat (W m ah),.own ((bR (λi=>nb i ah) m p).map λc=>~~~c),‹p›,a3,a4,a5]=!(.nx,[.dat (W m ah),.own (((bR (λi=>nb i ah) m p).map λc=>~~~c)++[~~~(cp (λi=>nb i ah) m p)]),‹p›,.own ((qG (λi=>nb i ah) m [(p:Int)]).map .int),b4,b5]):=by rw[<- hR0];delta K7;simp! [U,cz,i0,aM m ⋯,hg,aq 1 ⋯,so',z1,hb,w]
   rw[body]
  . apply#[a3,a4,a5,?_];rw[i7 hc,i7 hc]
 let(g',(p,a3,a4,a5,b2,h0,h1,rfl),w):=bS (T:=.nm 2) (λ(j:Nat)=>D.int (j:Int))
  (I:=λl g=>∃(p:Nat) (a3 a4 a5 b2:Slot),p<=m/\l=List.range' p (m - p)/\g=[.dat (W m ah),.own ((bR (λi=>nb i ah) m p).map λc=>~~~c),b2,a3,a4,a5])
  (step:=λa l g hI=>by
   let(p,a3,a4,a5,b2,h0,h1,rfl):=hI;have hpm:p<m:=by
    rcases sK p m with h |h
    . show h
    . rw[A9 h]at h1;cases h1
   have hc:List.range' p (m - p)=p::List.range' (p+1) (m - (p+1)):=by rw[show m - p=(m - (p+1))+1 by lia,AX]
   rw[hc]at h1;injection h1 with e1 e2;subst e1 e2;let(b3,b4,b5,q):=step a a3 a4 a5 hpm;show#[_,_,rfl,q,a+1,b3,b4,b5,_,by lia,rfl,rfl]) (List.range' 0 m) [.dat (W m ah),.own [],.no,.no,.no,.no] #[0,.no,.no,.no,.no,by lia,rfl,rfl]
 have hp:p=m:=by
  have:(List.range' p (m - p)).length=0:=by rw[<- h1];rfl
  rw[B5]at this;lia
 subst hp;have hr:cD 0 p=(List.range' 0 p).map λ(x:Nat)=>D.int (x:Int):=by delta cD;rw[xL];show u8 λx _=>by rw[Int.zero_add]
 generalize hb:(rn (n+59)).b [] (k+1) (x9 ne)=bb at w;delta cF qJ kr;simp! [U,cz,i0,aM p ⋯,hr,hb,w]
end
def yd{α:Type}(O:iG α):∀(l:List α) (n:α),kY O n l∈n::l
 | [],n=>AW n
 |m::l,n=>by
  have ih:=yd O l (if O.lt m n then m else n)
  exact kY O (if O.lt m n then m else n) l∈n::m::l
  rcases dS.mp ih with e |e
  .
   rw[e];by_cases h:O.lt m n=true
   . rw[i8 h];show bP _ dA
   . rw[i7 h];show dA
  . show bP _ (bP _ e)
abbrev XR:Fx:=#[1,3,[(.set 1 (.lst [(.tup [])])),(.loop (.nm 2) (.bJ ⇑0) [(.setC 1 (.cS 3 3 (.nm 4) ⇑1 none (.nm 5) (.bJ ⇑0) (!(.cmp .NotIn ⇑5 ⇑4)) (.bin .Add ⇑4 (.tup [⇑5]))))]),(.ret ⇑1)]]
abbrev sY(mw at' le:Nat):Fx:=#[1,1,[(.expr (.call mw [⇑0])),(.ret (.blt .min [(.comp 1 2 (.nm 2) (.call at' [(.ix ⇑0 ↥0)]) none (.call le [⇑0,⇑2]))]))]]
def ng(m:Nat):∀(s:Nat) (r: ~~~0),r∈aO m s->r.length=s
 | 0,r,h=>by rw[hU.mp h];rfl
 |s+1,r,h=>by
  let(q,hq,h):=CU.mp h;let(x,_,rfl):=fR.mp h;rw[eP,ng m s q hq];rfl
abbrev iW(m:Nat)(ah: ~~~5): ~~~5:=match (turnsOf m).map λt=>[(m:Int)]::tw t ah with
 |k::ks=>kY pH k ks
 | []=>[]
def Ga(hn:turnsOf m≠[]):∃t∈turnsOf m,iW m ah=[(m:Int)]::tw t ah:=by
 delta iW;cases e:turnsOf m with
 |nil=>show absurd e hn
 |cons t l=>
  rw[List.map_cons];have:=yd pH (l.map λt=>[(m:Int)]::tw t ah) ([(m:Int)]::tw t ah)
  rw[<- List.map_cons (f:=λt=>[(m:Int)]::tw t ah)]at this
  let(u,hu,e2):=fR.mp this;show#[u,hu,e2.symm]
def yf(m:Nat):∀l:List (~~~5),(∀x∈l,∀y∈x,y≠[])->iJ (l.map λx=>W m x)=!(l.map λx=>[(m:Int)]::x)
 | [],_=>rfl
 |x::l,h=>by
  have e:=qu x (h x dA);rw[List.map_cons,List.map_cons];delta iJ;have e2:zA (W m x)=!([(m:Int)]::x):=by
   exact (match eH (x.map ∅)with |some ts=>!([(m:Int)]::ts) |none=>none)=_
   rw[e]
  rw[e2,yf m l λy hy=>h y (bP _ hy)]
def Gb(m:Nat)(x: ~~~5)(l:List (~~~5)):bX ((x::l).map λx=>W m x)=none:=rfl
def Gd(m:Nat)(x: ~~~5)(l:List (~~~5)):eH ((x::l).map λx=>W m x)=none:=by
 have:bX [D.int m,.tup (x.map ∅)]=none:=rfl
 exact (match bX [D.int m,.tup (x.map ∅)],eH (l.map λx=>W m x)with |!(n::ns),!rD=>!((n::ns)::rD) |_,_=>none)=none
 simp only[this]
def Wb.ne(h:Wb m ah):∀y∈ah,y≠[]:=λy hy=>by
 let(a,b,rfl,_):=h.tie y hy;show List.cons_ne_nil _ _
def yg{m:Nat}(hm:1<=m/\m<=6){ah: ~~~5}(h:Wb m ah):mj .min [.lst ((turnsOf m).map λt=>W m (tw t ah))]=!(.dat (jC (iW m ah))):=by
 let(tl,tn):=gR hm;have e0:((turnsOf m).map λt=>W m (tw t ah))=((turnsOf m).map λt=>tw t ah).map λx=>W m x:=by rw[List.map_map];rfl
 have e1:=yf m ((turnsOf m).map λt=>tw t ah) λx hx=>by
  let(t,ht,rfl):=fR.mp hx;show (h.turn (tl t ht)).ne
 rw[e0];delta iW;have e2:((turnsOf m).map λt=>tw t ah).map (λx=>[(m:Int)]::x)=(turnsOf m).map λt=>[(m:Int)]::tw t ah:=by rw[List.map_map];rfl
 rw[e2]at e1;have iZ:turnsOf m≠[]:=λz=>by
  have:=m9 (Cg m);rw[z]at this;cases this
 revert e1 iZ;cases turnsOf m with
 |nil=>intro _ iZ;show absurd rfl iZ
 |cons t l=>
  intro e1 _;have e3:=Gb m (tw t ah) (l.map λt=>tw t ah)
  have e4:=Gd m (tw t ah) (l.map λt=>tw t ah)
  simp only[List.map_cons]at e1 e3 e4 ⊢
  simp only[mj,Si,bE,e3,e4,e1]
section
variable{k n:Nat}{g g1:G}{rn:Nat->Rn}{fns:List Fx}(U:iT fns rn)
include U
def Rh(m:Nat)(hm:m<=6)(l: ~~~5)(hl:l.length<=50000)(hr:∀r∈l,r.length<=10)(a2:Slot):(rn (n+20)).b [] k [(.setC 1 (.cS 3 3 (.nm 4) ⇑1 none (.nm 5) (.bJ ⇑0) (!(.cmp .NotIn ⇑5 ⇑4)) (.bin .Add ⇑4 (.tup [⇑5]))))] [‹m›,.own (l.map λr=>~~~r),a2]=!(.nx,[‹m›,.own ((ext m l).map λr=>~~~r),a2]):=by
 have hg:cD 0 m=(nums m).map .int:=iS m;have w:=XF (rn:=rn (n+19)) (bor:=[]) (k:=k) (g:=[‹m›,.own (l.map λr=>~~~r),a2]) (g1:=[‹m›,.dat (.lst (l.map λr=>~~~r)),a2]) (nn:=3) (kk:=3) (j1:=4) (j2:=5) (g8:=.slot 1) (it:=.bJ ⇑0) (c:=!(.cmp .NotIn ⇑5 ⇑4)) (e:=.bin .Add ⇑4 (.tup [⇑5])) l (λr=>~~~r) (nums m) .int (λr x=>(not (decide (x∈r)))) (λr x=>~~~(r++[x])) (by simp! [U,cz]) rfl ⋯ ⋯ ⋯ ⋯ ⋯ ⋯ ⋯ (by
   rw[bQ];have:=Nat.mul_le_mul hl hm;show l7 this ⋯) (λr hr G' hG=>by
   have h0:=hG.1 0 ⋯;simp! [U,cz,h0,aM m ⋯,hg]) (λr hr' x hx G' hG=>by
   simp! [U,jU,hG.2.1,hG.2.2,mL]) λr hr' x hx _ G' hG=>by
   have o:qM .Add (~~~r) (.tup [.int x])=!(.dat (~~~(r++[x]))):=by
    have hlr:(List.map D.int r).length+[D.int x].length<=lim:=aq _ (by have:=hr r hr';rw[eJ];simp;lia)
    simp only[qM,Fg,hlr,oC];rfl
   simp! [U,hG.2.1,hG.2.2,o,aq 1 ⋯]
 have e:(l.flatMap λr=>((nums m).filter λx=>(not (decide (x∈r)))).map λx=>~~~(r++[x]))=(ext m l).map λr=>~~~r:=by
  delta ext;rw[List.map_flatMap]
  congr 1
  funext r
  rw[List.map_map];rfl
 rw[e]at w;simp! [U,w]
def at_ok(m:Nat)(hm:1<=m/\m<=6):cF (rn (n+30)) k XR [.int m]=!(.new ((turnsOf m).map λr=>~~~r)):=by
 let(g',(i,b2,hi,hl,rfl),w):=bS (T:=.nm 2) (b:=(rn (n+29)).b [] k [(.setC 1 (.cS 3 3 (.nm 4) ⇑1 none (.nm 5) (.bJ ⇑0) (!(.cmp .NotIn ⇑5 ⇑4)) (.bin .Add ⇑4 (.tup [⇑5]))))]) (λ(j:Nat)=>D.int (j:Int))
  (I:=λl g=>∃(i:Nat) (b2:Slot),i<=m/\l=List.range' i (m - i)/\g=[‹m›,.own ((aO m i).map λr=>~~~r),b2])
  (step:=λa l g h=>by
   let(i,b2,hi,hl,rfl):=h;cases hmi:m - i with
   |zero=>rw[hmi]at hl;cases hl
   |succ q=>
    rw[hmi]at hl;let(rfl,rfl):=List.cons.inj hl;have h1:(aO m a).length<=50000:=l7 (iU m a) (l7 (Nat.pow_le_pow_left hm.2 a) (l7 (Nat.pow_le_pow_right ⋯ (show a<=6 by lia)) ⋯))
    have h2:∀r∈aO m a,r.length<=10:=λr hr=>by have:=ng m a r hr;lia
    show#[_,_,rfl,Rh U m hm.2 (aO m a) h1 h2 (.dat (.int (a:Int))),a+1,_,by lia,by rw[show m - (a+1)=q by lia],rfl]) (List.range m) [‹m›,.own [.tup []],.no] #[0,.no,by lia,by rw[xL];rfl,rfl]
 have hmi:m - i=0:=by have:=congrArg List.length hl;rw[B5]at this;show this.symm
 have hi':i=m:=by lia
 subst hi';generalize hb:(rn (n+29)).b [] k [(.setC 1 (.cS 3 3 (.nm 4) ⇑1 none (.nm 5) (.bJ ⇑0) (!(.cmp .NotIn ⇑5 ⇑4)) (.bin .Add ⇑4 (.tup [⇑5]))))]=bb at w;delta cF XR turnsOf;simp! [U,cz,aM (i:Int) ⋯,cD,hb,w,aq 1 ⋯]
variable{wh wi it ri iw cw mw pa ft op ro fi tt le to at':Nat}(hW:fns[wh]?=!cG)(hI:fns[wi]?=!(bK wh))(nW:fns[it]?=!(fJ wi))(K3:fns[ri]?=!qB)(yx:fns[iw]?=!(fK wi it ri))(K4:fns[mw]?=!(bh iw cw))
include hW hI nW K3 yx K4
def Ri(YS:fns[to]?=!iV)(hLe:fns[le]?=!(xZ to))(hAt:fns[at']?=!XR)(m:Nat)(hm:1<=m/\m<=6)(ah: ~~~5)(h:Wb m ah):cF (rn (n+80)) (k+7) (sY mw at' le) [W m ah]=!(.dat (jC (iW m ah))):=by
 let(tl,tn):=gR hm;have y:=λn k=>j6 (ci:=cw) U hW hI nW K3 yx (n:=n) (k:=k) m ah hm h
 have qa:=λn k=>at_ok U (n:=n) (k:=k) m hm
 have i0:zJ (W m ah) (.int 0)=!(.int m):=rfl;have w:=qq (rn:=rn (n+77)) (bor:=[]) (k:=k+7) (g:=[.dat (W m ah)]) (g1:=[.dat (W m ah)]) (kk:=2) (nn:=1) (j:=2) (it:=.call at' [(.ix ⇑0 ↥0)]) (e:=.call le [⇑0,⇑2]) (turnsOf m) (λt=>~~~t) (λt=>W m (tw t ah)) (by simp! [U,cz,i0,hAt,bq (fx:=XR) rfl,qa]) rfl ⋯ ⋯ ⋯ (aq _ ⋯) λt ht G' hG=>by
  have h0:=hG.1 0 ⋯;have q:=λn k=>XM U YS (n:=n) (k:=k) m ah t h (tl t ht)
  simp! [U,h0,hG.2,hLe,bB (fx:=xZ to) rfl,q]
 have mn:=yg hm h;delta cF sY;simp! [U,K4,bq (fx:=bh iw cw) rfl,y,w,mn]
end
abbrev mO:Fx:=#[2,2,[(.ret (.tup [(.blt .len [⇑1]),(.blt .tuple [(.comp 2 3 (.tp [3,4]) (.ix ⇑0 ↥1) (!(.cmp .In ⇑3 ⇑1)) (.tup [(.meth .index ⇑1 ⇑3),(.meth .index ⇑1 ⇑4)]))])]))]]
abbrev fL:Fx:=#[2,3,[(.setC 2 (.comp 3 3 (.tp [4,5]) (.ix ⇑0 ↥1) (!(.and [(.cmp .In ⇑4 ⇑1),(.cmp .In ⇑5 ⇑1)])) (.tup [(.meth .index ⇑1 ⇑4),(.meth .index ⇑1 ⇑5)]))),(.ret (.tup [(.blt .len [⇑1]),(.blt .tuple [⇑2])]))]]
abbrev iX(tu na:Nat):Fx:=#[1,1,[(.ret (.blt .min [(.comp 1 2 (.nm 2) (.call tu [(.ix ⇑0 ↥0)]) none (.call na [⇑0,⇑2]))]))]]
abbrev j8(mw pi:Nat):Fx:=#[1,1,[(.expr (.call mw [⇑0])),(.ret (.cmp .Eq (.blt .len [(.call pi [⇑0])]) ↥1))]]
abbrev j9(mw pi fo pa:Nat):Fx:=#[1,1,[(.expr (.call mw [⇑0])),(.ret (.blt .sorted [(.comp 1 2 (.nm 2) (.call pi [⇑0]) none (.call fo [(.call pa [⇑0,⇑2])]))]))]]
def u9{c: ~~~0}{x:Int}(h:x∈c):Wf .index (.lst (c.map .int)) (.int x)=!(.int (FT c x))/\Wf .index (~~~c) (.int x)=!(.int (FT c x)):=#[x6 c x h,x6 c x h]
def pw_map(c: ~~~0)(ah: ~~~5):((ah.filter λx=>decide (gt x 0∈c)).map λx=>~~~[FT c (gt x 0),FT c (gt x 1)])=(pw c ah).map λx=>~~~x:=by delta pw;rw[List.map_map];rfl
section
variable{k n:Nat}{rn:Nat->Rn}{fns:List Fx}(U:iT fns rn)
include U
def K9(m:Nat)(ah: ~~~5)(h:Wb m ah)(c: ~~~0)(cl:∀x∈ah,gt x 0∈c->gt x 1∈c):cF (rn (n+20)) k mO [W m ah,.lst (c.map .int)]=!(.dat (W c.length (pw c ah))):=by
 have htl:=h.len;have i1:zJ (W m ah) (.int 1)=!(.tup (ah.map ∅)):=rfl
 have w:=λn k=>cS (rn:=rn (n+12)) (bor:=[]) (k:=k) (g:=[.dat (W m ah),.dat (.lst (c.map .int))]) (g1:=[.dat (W m ah),.dat (.lst (c.map .int))]) (kk:=3) (nn:=2) (j1:=3) (j2:=4) (it:=.ix ⇑0 ↥1) (c:=!(.cmp .In ⇑3 ⇑1)) (e:=.tup [(.meth .index ⇑1 ⇑3),(.meth .index ⇑1 ⇑4)]) ah (λx=>.int (gt x 0)) (λx=>.int (gt x 1)) (λx=>decide (gt x 0∈c)) (λx=>~~~[FT c (gt x 0),FT c (gt x 1)]) (by simp! [U,cz,i1,<- h.two]) rfl ⋯ ⋯ ⋯ ⋯ ⋯ ⋯ ⋯ (aq _ ⋯)
  (λx _ G' hG=>by
   have h1:=hG.1 1 ⋯;have h2:=hG.2.1;have ci:=u6 (gt x 0) c;simp! [U,jU,h1,h2,ci])
  (λx hx hp G' hG=>by
   have h1:=hG.1 1 ⋯;have h2:=hG.2.1;have h3:=hG.2.2;have x0:=lS hp;have x3:=(u9 (cl x hx x0)).1;have x4:=(u9 x0).1;simp! [U,h1,h2,h3,bE,x3,x4];rfl)
 simp only[pw_map]at w;delta cF mO;simp! [U,w];rfl
def rB(m:Nat)(ah: ~~~5)(h:Wb m ah)(c: ~~~0)(cl:∀x∈ah,gt x 0∈c->gt x 1∈c):cF (rn (n+20)) k fL [W m ah,~~~c]=!(.dat (W c.length (pw c ah))):=by
 have htl:=h.len;have i1:zJ (W m ah) (.int 1)=!(.tup (ah.map ∅)):=rfl
 have w:=λn k=>cS (rn:=rn (n+12)) (bor:=[]) (k:=k) (g:=[.dat (W m ah),.dat (~~~c),.no]) (g1:=[.dat (W m ah),.dat (~~~c),.no]) (kk:=3) (nn:=3) (j1:=4) (j2:=5) (it:=.ix ⇑0 ↥1) (c:=!(.and [(.cmp .In ⇑4 ⇑1),(.cmp .In ⇑5 ⇑1)])) (e:=.tup [(.meth .index ⇑1 ⇑4),(.meth .index ⇑1 ⇑5)]) ah (λx=>.int (gt x 0)) (λx=>.int (gt x 1)) (λx=>decide (gt x 0∈c)) (λx=>~~~[FT c (gt x 0),FT c (gt x 1)]) (by simp! [U,cz,i1,<- h.two]) rfl ⋯ ⋯ ⋯ ⋯ ⋯ ⋯ ⋯ (aq _ ⋯)
  (λx hx G' hG=>by
   have h1:=hG.1 1 ⋯;have h2:=hG.2.1;have h3:=hG.2.2;have ci:eY .In (.int (gt x 0)) (~~~c)=!(decide (gt x 0∈c)):=u6 (gt x 0) c;have cj:eY .In (.int (gt x 1)) (~~~c)=!(decide (gt x 1∈c)):=u6 (gt x 1) c;by_cases hc:gt x 0∈c
   . have hd:=cl x hx hc;simp! [U,jU,h1,h2,h3,ci,cj,hc,hd]
   .
    simp! [U,jU,h1,h2,ci,hc])
  (λx hx hp G' hG=>by
   have h1:=hG.1 1 ⋯;have h2:=hG.2.1;have h3:=hG.2.2;have x0:=lS hp;have x3:=(u9 (cl x hx x0)).2;have x4:=(u9 x0).2;simp! [U,h1,h2,h3,bE,x3,x4];rfl)
 simp only[pw_map]at w;delta cF fL;simp! [U,w];rfl
def Ag{tu na:Nat}(hT:fns[tu]?=!fc)(hN:fns[na]?=!dM)(m:Nat)(hm:1<=m/\m<=6)(ah: ~~~5)(h:Wb m ah):cF (rn (n+80)) (k+7) (iX tu na) [W m ah]=!(.dat (jC (iW m ah))):=by
 let(tl,tn):=gR hm;have qa:=λn k=>xY U (n:=n) (k:=k) m hm
 have i0:zJ (W m ah) (.int 0)=!(.int m):=rfl;have w:=qq (rn:=rn (n+77)) (bor:=[]) (k:=k+7) (g:=[.dat (W m ah)]) (g1:=[.dat (W m ah)]) (kk:=2) (nn:=1) (j:=2) (it:=.call tu [(.ix ⇑0 ↥0)]) (e:=.call na [⇑0,⇑2]) (turnsOf m) (λt=>~~~t) (λt=>W m (tw t ah)) (by simp! [U,cz,i0,hT,bq (fx:=fc) rfl,qa]) rfl ⋯ ⋯ ⋯ (aq _ ⋯) λt ht G' hG=>by
  have h0:=hG.1 0 ⋯;have q:∀n k,cF (rn (n+20)) k dM [W m ah,~~~t]=!(.dat (W m (tw t ah))):=λn k=>qH U m ⋯ ah h.tie (by have:=h.len;lia) t (tl t ht)
  simp! [U,h0,hG.2,hN,bB (fx:=dM) rfl,q]
 have mn:=yg hm h;delta cF iX;simp! [U,w,mn]
end
abbrev YT(m:Nat)(ah: ~~~5):List (~~~5):=(kr m ah).map λc=>iW c.length (pw c ah)
def Ah(ks:List (~~~5))(h:∀k∈ks,zA (jC k)=!k)(hl:ks.length<64):mj .sorted [.lst (ks.map jC)]=!(.new ((aZ pH ks).map jC)):=by
 have e1:∀ks:List (~~~5),(∀k∈ks,zA (jC k)=!k)->iJ (ks.map jC)=!ks:=λks=>by
  induction ks with
  |nil=>intro _;rfl
  |cons k ks ih=>intro h;rw[List.map_cons];delta iJ;rw[h k dA,ih λx hx=>h x (bP _ hx)]
 have e:=e1 ks h;cases ks with
 |nil=>rfl
 |cons k ks=>
  have hk:=h k dA;have nk:∃a b,jC k=.tup [.int a,.tup b]:=by
   delta jC at hk ⊢
   split at hk
   . show#[_,_,rfl]
   . cases hk
  let(a,b,e2):=nk;have e3:bX ((k::ks).map jC)=none:=by rw[List.map_cons,e2];rfl
  have e4:eH ((k::ks).map jC)=none:=by
   rw[List.map_cons,e2];have:bX [D.int a,.tup b]=none:=rfl;exact (match bX [D.int a,.tup b],eH (ks.map jC)with |!(n::ns),!rD=>!((n::ns)::rD) |_,_=>none)=none
   rw[this]
  simp only[mj,Si,bE,e3,e4,e,hl,CD]
section
variable{m:Nat}{ah: ~~~5}(h:Wb m ah){c: ~~~0}(hc:c∈kr m ah)
include h hc
def XS:∃s:Int,(0<=s/\s<m)/\c=cp (λi=>nb i ah) m s:=by let(s,hs,rfl):=fR.mp hc;show#[s,fH.mp (i4.mp hs).1,rfl]
def Ai(hm:m<=6):(1<=c.length/\c.length<=6)/\Wb c.length (pw c ah)/\∀x∈ah,gt x 0∈c->gt x 1∈c:=by let(s,hs,rfl):=XS h hc;have:=KD (m7 h) hs;show#[by lia,pw_wb h hs,λx hx h0=>pw_cl h hs hx h0]
end
def nX(m:Nat)(ah: ~~~5):(kr m ah).length<=m:=by
 delta kr bR;rw[eJ];have:=wP (ld (λi=>nb i ah) m) (nums m)
 rwa [bQ]at this
def La{m:Nat}(hm:m<=6){ah: ~~~5}(h:Wb m ah):∀k∈YT m ah,∃(c:Nat) (x: ~~~5),Wb c x/\k=[(c:Int)]::x:=λk hk=>by
 let(c,hc,rfl):=fR.mp hk;let(h1,h2,_):=Ai h hc hm;have iZ:turnsOf c.length≠[]:=λz=>by
  have:=m9 (Cg c.length);rw[z]at this;cases this
 let(t,ht,e):=Ga iZ;show#[c.length,_,h2.turn ((gR h1).1 t ht),e]
def Rj{c:Nat}{x: ~~~5}(h:Wb c x):zA (jC ([(c:Int)]::x))=!([(c:Int)]::x):=by
 have e:=qu x h.ne;exact (match eH (x.map ∅)with |some ts=>!([(c:Int)]::ts) |none=>none)=_
 rw[e]
abbrev Aj(m:Nat)(ah: ~~~5):List D:=(aZ pH (YT m ah)).map jC
def sZ{m:Nat}(hm:m<=6){ah: ~~~5}(h:Wb m ah):mj .sorted [.lst ((kr m ah).map λc=>jC (iW c.length (pw c ah)))]=!(.new (Aj m ah)):=by
 have e:((kr m ah).map λc=>jC (iW c.length (pw c ah)))=(YT m ah).map jC:=by delta YT;rw[List.map_map];rfl
 rw[e];apply Ah _ (λk hk=>?_) ?_
 . let(c,x,hx,rfl):=La hm h k hk;show Rj hx
 . delta YT;rw[eJ];have:=nX m ah;lia
def XT{m:Nat}(hm:m<=6){ah: ~~~5}(h:Wb m ah):(Aj m ah).length<=6/\Sd 4 (.lst (Aj m ah)):=by
 have hl:(Aj m ah).length<=6:=by delta Aj YT;rw[eJ,(bf _).length_eq,eJ];have:=nX m ah;lia
 apply#[hl,by lia,λd hd=>?_]
 let(k,hk,rfl):=fR.mp hd;let(c,x,hx,rfl):=La hm h k ((bf _).mem_iff.mp hk);apply#[CL rfl,λd hd=>?_]
 have hd':d=.int c\/d=.tup (x.map ∅):=by simpa using hd
 rcases hd' with rfl |rfl
 . trivial
 .
  apply#[by rw[eJ];have:=hx.len;lia,λd hd=>?_]
  let(y,hy,rfl):=fR.mp hd;let(a,b,rfl,_):=hx.tie y hy;apply#[CL rfl,λd hd=>?_]
  have hd':d=.int a\/d=.int b:=by simpa using hd
  rcases hd' with rfl |rfl <;> trivial
section
variable{k n:Nat}{rn:Nat->Rn}{fns:List Fx}(U:iT fns rn)
variable{wh wi it ri iw cw mw to le at' ro rg pi fo pa:Nat}(hW:fns[wh]?=!cG)(hI:fns[wi]?=!(bK wh))(nW:fns[it]?=!(fJ wi))(K3:fns[ri]?=!qB)(yx:fns[iw]?=!(fK wi it ri))(K4:fns[mw]?=!(bh iw cw))(hRo:fns[ro]?=!lG)(hRg:fns[rg]?=!j7)(hPi:fns[pi]?=!(gS ro rg))
include U hW hI nW K3 yx K4 hRo hRg hPi
def Lb(m:Nat)(hm:1<=m/\m<=6)(ah: ~~~5)(h:Wb m ah):cF (rn (n+80)) (k+7) (j8 mw pi) [W m ah]=!(.dat (.bl (decide ((kr m ah).length=1)))):=by
 have y:=λn k=>j6 (ci:=cw) U hW hI nW K3 yx (n:=n) (k:=k) m ah hm h
 have p:=λn k=>sX U hRo hRg (n:=n) (k:=k) m hm ah h
 have e:decide (((kr m ah).length:Int)=1)=decide ((kr m ah).length=1):=by rw[decide_eq_decide];lia
 have hl:((kr m ah).map λc=>D.lst (c.map .int)).length=(kr m ah).length:=eJ _
 generalize ((kr m ah).map λc=>D.lst (c.map .int))=P at p hl
 rw[<- hl]at e ⊢
 delta cF j8;simp! [U,K4,bq (fx:=bh iw cw) rfl,y,hPi,bq (fx:=gS ro rg) rfl,p,e]
def Lc(YS:fns[to]?=!iV)(hLe:fns[le]?=!(xZ to))(hAt:fns[at']?=!XR)(hFo:fns[fo]?=!(sY mw at' le))(hPa:fns[pa]?=!mO)(m:Nat)(hm:1<=m/\m<=6)(ah: ~~~5)(h:Wb m ah):cF (rn (n+100)) (k+9) (j9 mw pi fo pa) [W m ah]=!(.new (Aj m ah)):=by
 have y:=λn k=>j6 (ci:=cw) U hW hI nW K3 yx (n:=n) (k:=k) m ah hm h
 have p:=λn k=>sX U hRo hRg (n:=n) (k:=k) m hm ah h
 have hl:=nX m ah;have w:=qq (rn:=rn (n+97)) (bor:=[]) (k:=k+9) (g:=[.dat (W m ah)]) (g1:=[.dat (W m ah)]) (kk:=2) (nn:=1) (j:=2) (it:=.call pi [⇑0]) (e:=.call fo [(.call pa [⇑0,⇑2])]) (kr m ah) (λc=>.lst (c.map .int)) (λc=>jC (iW c.length (pw c ah))) (by simp! [U,cz,hPi,bq (fx:=gS ro rg) rfl,p]) rfl ⋯ ⋯ ⋯ (aq _ ⋯) λc hc G' hG=>by
  have h0:=hG.1 0 ⋯;let(q1,q2,q3):=Ai h hc hm.2;have q4:=λn k=>K9 U (n:=n) (k:=k) m ah h c q3
  have q5:=λn k=>Ri U hW hI nW K3 yx K4 YS hLe hAt (n:=n) (k:=k) c.length q1 (pw c ah) q2
  simp! [U,h0,hG.2,hPa,bB (fx:=mO) rfl,q4,hFo,bq (fx:=sY mw at' le) rfl,q5]
 have so:=sZ hm.2 h;delta cF j9;simp! [U,K4,bq (fx:=bh iw cw) rfl,y,w,so]
end
abbrev gY(ti:Nat):Fx:=#[1,2,[(.set 1 (.lst [(.val .non),↥0,(.tup []),(.tup [↥0,(.tup [])]),(.tup [↥7,(.tup [])]),(.tup [(.val (.bl true)),(.tup [])]),(.tup [↥2,(.lst [])]),(.lst [↥2,(.tup [])]),(.tup [↥2,(.tup [(.tup [↥1,↥0])])]),(.tup [↥2,(.tup [(.tup [↥0,↥0])])])])),(.set 1 (.bin .Add ⇑1 (.lst [(.tup [↥3,(.tup [(.tup [↥0,↥2]),(.tup [↥0,↥1])])]),(.tup [↥2,(.tup [(.tup [↥0,↥1]),(.tup [↥0,↥1])])]),(.tup [↥2,(.tup [(.tup [↥0,↥1,↥1])])]),(.tup [↥2,(.tup [(.tup [↥0,(.val (.bl true))])])]),(.tup [↥2])]))),(.set 1 (.bin .Add ⇑1 (.lst [(.tup [↥2,(.tup [(.tup [↥0,↥2])])]),(.val (.str (PySem.Str.ofString "2:"))),.emp,(.tup [↥2,(.tup [(.lst [↥0,↥1])])]),(.tup [↥2,(.tup []),(.tup [])]),(.tup [↥2,(.val .non)]),(.tup [(.val (.str (PySem.Str.ofString "2"))),(.tup [])])]))),(.ret (.ix ⇑1 (.call ti [⇑0,↥22])))]]
abbrev XX:List D:=[.non,(.int 0),(.tup []),(.tup [(.int 0),(.tup [])]),(.tup [(.int 7),(.tup [])]),(.tup [(.bl true),(.tup [])]),(.tup [(.int 2),(.lst [])]),(.lst [(.int 2),(.tup [])]),(.tup [(.int 2),(.tup [(.tup [(.int 1),(.int 0)])])]),(.tup [(.int 2),(.tup [(.tup [(.int 0),(.int 0)])])])]
abbrev XZ:List D:=[(.tup [(.int 3),(.tup [(.tup [(.int 0),(.int 2)]),(.tup [(.int 0),(.int 1)])])]),(.tup [(.int 2),(.tup [(.tup [(.int 0),(.int 1)]),(.tup [(.int 0),(.int 1)])])]),(.tup [(.int 2),(.tup [(.tup [(.int 0),(.int 1),(.int 1)])])]),(.tup [(.int 2),(.tup [(.tup [(.int 0),(.bl true)])])]),(.tup [(.int 2)])]
abbrev bq3:List D:=[(.tup [(.int 2),(.tup [(.tup [(.int 0),(.int 2)])])]),(.str (PySem.Str.ofString "2:")),.emp,(.tup [(.int 2),(.tup [(.lst [(.int 0),(.int 1)])])]),(.tup [(.int 2),(.tup []),(.tup [])]),(.tup [(.int 2),.non]),(.tup [(.str (PySem.Str.ofString "2")),(.tup [])])]
abbrev jI:List D:=XX++XZ++bq3
section
variable{k n:Nat}{g g1:G}{rn:Nat->Rn}{fns:List Fx}{ti:Nat}(U:iT fns rn)(hT:fns[ti]?=!bO)
include U hT
def Rl(hi:g[i]?=!(St s fl)):∃(d:D) (s':Int),d∈jI/\bM (rn (n+60)) (gY ti) (k+1) [.var i] g=!(.dat d,g.set i (St s' fl)):=by
 have l1:=aq 1 ⋯;have l2:=aq 2 ⋯;have l3:=aq 3 ⋯;have e1:aH (rn (n+59)) [0] (k+1) (match (gY ti).body with |s::_=>s | []=>.stuck) [St s fl,.no]=!(.nx,[St s fl,.own XX]):=by delta gY;simp! [U,l1];rfl
 have e2:aH (rn (n+59)) [0] (k+1) (match (gY ti).body with |_::s::_=>s |_=>.stuck) [St s fl,.own XX]=!(.nx,[St s fl,.own (XX++XZ)]):=by have o:=Cp XX XZ ⋯;have hb:XZ=[(.tup [(.int 3),(.tup [(.tup [(.int 0),(.int 2)]),(.tup [(.int 0),(.int 1)])])]),(.tup [(.int 2),(.tup [(.tup [(.int 0),(.int 1)]),(.tup [(.int 0),(.int 1)])])]),(.tup [(.int 2),(.tup [(.tup [(.int 0),(.int 1),(.int 1)])])]),(.tup [(.int 2),(.tup [(.tup [(.int 0),(.bl true)])])]),(.tup [(.int 2)])]:=rfl;delta gY;simp! [U,l1,l2,l3,aq XZ.length ⋯,<- hb,o]
 have e3:aH (rn (n+59)) [0] (k+1) (match (gY ti).body with |_::_::s::_=>s |_=>.stuck) [St s fl,.own (XX++XZ)]=!(.nx,[St s fl,.own jI]):=by have o:=Cp (XX++XZ) bq3 ⋯;have hb:bq3=[(.tup [(.int 2),(.tup [(.tup [(.int 0),(.int 2)])])]),(.str (PySem.Str.ofString "2:")),.emp,(.tup [(.int 2),(.tup [(.lst [(.int 0),(.int 1)])])]),(.tup [(.int 2),(.tup []),(.tup [])]),(.tup [(.int 2),.non]),(.tup [(.str (PySem.Str.ofString "2")),(.tup [])])]:=rfl;delta gY jI;simp! [U,l1,l2,l3,aq bq3.length ⋯,<- hb,o]
 let(r,s1,r1,r2,q):=dN U (n:=n+37) (k:=k) (g:=[St s fl,.own jI]) (i:=0) (m:=22) rfl ⋯;have q':=q;let(d,hd,ed):=QW (l:=jI) #[r1,r2];apply#[d,s1,hd,?_];have e4:aH (rn (n+59)) [0] (k+1) (.ret (.ix ⇑1 (.call ti [⇑0,↥22]))) [St s fl,.own jI]=!(.rt (.dat d),[St s1 fl,.own jI]):=by simp! [U,hT,q',ed]
 have body:(rn (n+60)).b [0] (k+1) (gY ti).body [St s fl,.no]=!(.rt (.dat d),[St s1 fl,.own jI]):=by
  delta gY at e1 e2 e3 ⊢
  rw[U.b,aG e1,aG e2,aG e3];delta cK;rw[e4]
 have hp:dW (gY ti).n [St s fl]=[St s fl,.no]:=rfl;delta bM;simp only[vars,cR,hi,List.map_cons,List.map_nil];rw[hp,body];rfl
end
end Ev
namespace eU
open Ev
abbrev sH:List PySem.Addr:=[37]
abbrev YW:Fx:=#[1,4,[(.set 1 (.val .non)),.stuck,(.set 3 (.lst [(.sF ⇑1 [(37,true)]),(.sF ⇑1 [(37,false)]),(.sF ⇑1 [(37,false)])])),(.set 3 (.bin .Add ⇑3 (.lst [(.sF ⇑1 [(37,false)]),(.sF ⇑1 [(37,false)]),(.sF ⇑1 [(37,false)])]))),(.set 3 (.bin .Add ⇑3 (.lst [(.sF ⇑1 [(37,false)]),(.sF ⇑1 [(37,false)]),(.sF ⇑1 [(37,false)])]))),(.set 3 (.bin .Add ⇑3 (.lst [(.sF ⇑1 [(37,false)]),(.sF ⇑1 [(37,false)]),(.sF ⇑1 [(37,false)])]))),(.set 3 (.bin .Add ⇑3 (.lst [(.sF ⇑1 [(37,false)]),(.sF ⇑1 [(37,false)]),(.sF ⇑1 [(37,false)])]))),(.ite (.not (.sF ⇑1 [(37,true)])) [(.ret (.val .non))] []),(.ret (.comp 4 2 (.nm 5) (.bJ ↥15) (!(.ix ⇑3 ⇑5)) ⇑5))]]
abbrev yh:List Sm:=[(.set 7 (.call 12 [⇑3])),(.ite (.not (.peek (.call 25 [⇑7,⇑5]))) (~~~4) []),(.expr (.append 7 (.tup [])))]
abbrev yi:List Sm:=[(.set 4 (.call 24 [⇑3])),(.ite (.not (.peek (.call 25 [(.call 11 [⇑3]),(.cmp .Eq (.blt .len [⇑4]) ↥1)]))) (~~~4) []),(.set 5 (.blt .sorted [(.comp 9 2 (.nm 10) ⇑4 none (.call 27 [(.call 28 [⇑3,⇑10])]))])),(.loop (.nm 6) (.bJ ↥2) yh)]
abbrev CK:List Sm:=[(.set 2 (.call 17 [⇑0,⇑1])),(.loop (.nm 3) (.lst [(.call 22 [⇑2]),(.call 22 [⇑2])]) yi),(.set 8 (.call 29 [⇑2])),(.ite (.cmp .NotEq (.wU 30 1 sH (.call 11 [⇑8])) (.lst [↥0])) (~~~4) []),(.ite (.cmp .NotEq (.wU 30 1 sH (.call 12 [⇑8])) (.lst [↥0])) (~~~4) [])]
abbrev YX:Fx:=#[1,9,[(.loop (.nm 1) (.bJ (.blt .max [↥1,(.blt .min [(.blt .len [⇑0]),↥3])])) CK),(.ret (.val (.bl true)))]]
abbrev fns:List Fx:=[cG,bK 0,fK 1 3 4,fJ 1,qB,bh 2 0,xZ 7,iV,lG,XR,sY 5 9 6,j8 5 13,j9 5 13 10 15,gS 8 14,j7,mO,m5,mH 16,bO,dM,jH 18,gX 18 19 20,sS 18 19 20 21,sV,qJ 23,eS 25,fc,iX 26 19,fL,gY 18,YW,YX]
def c0:fns[0]?=!(cG):=rfl
def c1:fns[1]?=!(bK 0):=rfl
def c2:fns[2]?=!(fK 1 3 4):=rfl
def c3:fns[3]?=!(fJ 1):=rfl
def c4:fns[4]?=!(qB):=rfl
def c5:fns[5]?=!(bh 2 0):=rfl
def c6:fns[6]?=!(xZ 7):=rfl
def c7:fns[7]?=!(iV):=rfl
def c8:fns[8]?=!(lG):=rfl
def c9:fns[9]?=!(XR):=rfl
def c10:fns[10]?=!(sY 5 9 6):=rfl
def c11:fns[11]?=!(j8 5 13):=rfl
def c12:fns[12]?=!(j9 5 13 10 15):=rfl
def c13:fns[13]?=!(gS 8 14):=rfl
def c14:fns[14]?=!(j7):=rfl
def c15:fns[15]?=!(mO):=rfl
def c16:fns[16]?=!(m5):=rfl
def c17:fns[17]?=!(mH 16):=rfl
def c18:fns[18]?=!(bO):=rfl
def c19:fns[19]?=!(dM):=rfl
def c20:fns[20]?=!(jH 18):=rfl
def c21:fns[21]?=!(gX 18 19 20):=rfl
def c22:fns[22]?=!(sS 18 19 20 21):=rfl
def c23:fns[23]?=!(sV):=rfl
def c24:fns[24]?=!(qJ 23):=rfl
def c25:fns[25]?=!(eS 25):=rfl
def c26:fns[26]?=!(fc):=rfl
def c27:fns[27]?=!(iX 26 19):=rfl
def c28:fns[28]?=!(fL):=rfl
def c29:fns[29]?=!(gY 18):=rfl
def c30:fns[30]?=!(YW):=rfl
end eU
namespace eU
open Ev
abbrev rfOk(rn:Rn)(k:Nat)(C:Nat)(c:Int):Prop:=∃r g3,rn.b [] k (YW.body.drop 2) ((List.replicate YW.n .no).set 1 (.dat (.nj C)))=!(.rt r,g3)/\dG [] g3 r=!(.new [.int c])
structure Fk(rn:Nat->Rn)(n k:Nat):Prop where
 bd1:∀d∈jI,L5 (rn (n+124)) (k+10) (bh 2 0) [d]=!0
 a0:rfOk (rn (n+127)) (k+12) 37 0
section
variable{k n:Nat}{g g1:G}{rn:Nat->Rn}(U:iT fns rn)
include U
def turn1(m:Nat)(hm:1<=m/\m<=6)(ah: ~~~5)(h:Wb m ah)(s5:Slot)(hs5:cU s5=.dat (.lst (Aj m ah)))(a0 a1 a2 a4 a6 a7 a8:Slot):∃b7,(rn (n+128)).b [] (k+14) yh [a0,a1,a2,.dat (W m ah),a4,s5,a6,a7,a8]=!(.nx,[a0,a1,a2,.dat (W m ah),a4,s5,a6,b7,a8]):=by
 have q1:=λn k=>Lc U c0 c1 c3 c4 c2 c5 c8 c14 c13 c7 c6 c9 c10 c15 (n:=n) (k:=k) m hm ah h
 let(pl,sd):=XT hm.2 h;have q3:=λn k=>uY U c25 4 n k _ sd
 generalize Aj m ah=P at *;have z1:=eM (qS _) (aq (P.length+1) ⋯);have hz:List.map cU [a0,a1,a2,.dat (W m ah),a4,s5,a6,.own P,a8]=[cU a0,cU a1,cU a2,.dat (W m ah),cU a4,.dat (.lst P),cU a6,.dat (.lst P),cU a8]:=by exact [cU a0,cU a1,cU a2,.dat (W m ah),cU a4,cU s5,cU a6,.dat (.lst P),cU a8]=_;rw[hs5]
 apply#[.own (P++[.tup []]),?_];delta yh;simp! [U,c12,bq (fx:=j9 5 13 10 15) rfl,q1,hz,c25,bB (fx:=eS 25) rfl,q3,flat,z1]
def web1(m:Nat)(hm:1<=m/\m<=6)(ah: ~~~5)(h:Wb m ah)(a0 a1 a2 a4 a5 a6 a7 a8:Slot):∃b4 b5 b6 b7,(rn (n+129)).b [] (k+14) yi [a0,a1,a2,.dat (W m ah),a4,a5,a6,a7,a8]=!(.nx,[a0,a1,a2,.dat (W m ah),b4,b5,b6,b7,a8]):=by
 have q1:=λn k=>K8 U c23 (n:=n) (k:=k) m hm ah h
 have q2:=λn k=>Lb U c0 c1 c3 c4 c2 c5 c8 c14 c13 (n:=n) (k:=k) m hm ah h
 have q3:=λb n k=>uY U c25 0 n k (.bl b) trivial
 have hl:=nX m ah;have ec:decide ((((kr m ah).map λc=>~~~c).length:Int)=1)=decide ((kr m ah).length=1):=by rw[eJ];lia
 have s1:aH (rn (n+128)) [] (k+14) (.set 4 (.call 24 [⇑3])) [a0,a1,a2,.dat (W m ah),a4,a5,a6,a7,a8]=!(.nx,[a0,a1,a2,.dat (W m ah),.own ((kr m ah).map λc=>~~~c),a5,a6,a7,a8]):=by simp! [U,c24,bq (fx:=qJ 23) rfl,q1]
 have s2:aH (rn (n+128)) [] (k+14) (.ite (.not (.peek (.call 25 [(.call 11 [⇑3]),(.cmp .Eq (.blt .len [⇑4]) ↥1)]))) (~~~4) []) [a0,a1,a2,.dat (W m ah),.own ((kr m ah).map λc=>~~~c),a5,a6,a7,a8]=!(.nx,[a0,a1,a2,.dat (W m ah),.own ((kr m ah).map λc=>~~~c),a5,a6,a7,a8]):=by
  generalize ((kr m ah).map λc=>~~~c)=P at ec ⊢
  have hz:List.map cU [a0,a1,a2,.dat (W m ah),.own P,a5,a6,a7,a8]=[cU a0,cU a1,cU a2,.dat (W m ah),.dat (.lst P),cU a5,cU a6,cU a7,cU a8]:=rfl;simp! [U,hz,c11,bq (fx:=j8 5 13) rfl,q2,ec,c25,bB (fx:=eS 25) rfl,q3,flat]
 have w:=qq (rn:=rn (n+126)) (bor:=[]) (k:=k+14) (g:=[a0,a1,a2,.dat (W m ah),.own ((kr m ah).map λc=>~~~c),a5,a6,a7,a8]) (g1:=[a0,a1,a2,.dat (W m ah),.dat (.lst ((kr m ah).map λc=>~~~c)),a5,a6,a7,a8]) (kk:=2) (nn:=9) (j:=10) (it:=.slot 4) (e:=.call 27 [(.call 28 [⇑3,⇑10])]) (kr m ah) (λc=>~~~c) (λc=>jC (iW c.length (pw c ah))) (by simp! [U,cz]) rfl ⋯ ⋯ ⋯ (aq _ ⋯) λc hc G' hG=>by
  have h3:=hG.1 3 ⋯;let(y1,y2,y3):=Ai h hc hm.2;have q4:=λn k=>rB U (n:=n) (k:=k) m ah h c y3
  have q5:=λn k=>Ag U c26 c19 (n:=n) (k:=k) c.length y1 (pw c ah) y2
  simp! [U,h3,hG.2,c28,bB (fx:=fL) rfl,q4,c27,bq (fx:=iX 26 19) rfl,q5]
 have so:=sZ hm.2 h;have s3:aH (rn (n+128)) [] (k+14) (.set 5 (.blt .sorted [(.comp 9 2 (.nm 10) ⇑4 none (.call 27 [(.call 28 [⇑3,⇑10])]))])) [a0,a1,a2,.dat (W m ah),.own ((kr m ah).map λc=>~~~c),a5,a6,a7,a8]=!(.nx,[a0,a1,a2,.dat (W m ah),.dat (.lst ((kr m ah).map λc=>~~~c)),.own (Aj m ah),a6,a7,a8]):=by simp! [U,w,so]
 generalize hP:Slot.dat (.lst ((kr m ah).map λc=>~~~c))=P at s3
 let(g',(b6,b7,rfl),w4):=bS (T:=.nm 6) (λd:D=>d)
  (I:=λ_ g=>∃b6 b7:Slot,g=[a0,a1,a2,.dat (W m ah),P,.own (Aj m ah),b6,b7,a8])
  (step:=λd l g hI=>by
   let(b6,b7,rfl):=hI;let(c7,q):=turn1 U (n:=n) (k:=k) m hm ah h (.own (Aj m ah)) rfl a0 a1 a2 P (.dat d) b7 a8;show#[_,_,rfl,q,_,_,rfl]) (cD 0 2) [a0,a1,a2,.dat (W m ah),P,.own (Aj m ah),a6,a7,a8] #[_,_,rfl]
 have s4:aH (rn (n+128)) [] (k+14) (.loop (.nm 6) (.bJ ↥2) yh) [a0,a1,a2,.dat (W m ah),P,.own (Aj m ah),a6,a7,a8]=!(.nx,[a0,a1,a2,.dat (W m ah),P,.own (Aj m ah),b6,b7,a8]):=by generalize hb:(rn (n+128)).b [] (k+14) yh=bb at w4;have o2:LC 2=true:=rfl;have e2:(2:Int).toNat=2:=rfl;simp only[aH,cz,fP,U.e,e2,hb];show w4
 apply#[P,.own (Aj m ah),b6,b7,?_];delta yi;rw[U.b,aG s1,aG s2,aG s3,aG s4];rfl
variable(F:Fk rn n k)
include F
def cell(ns: ~~~0)(hl:ns.length<=63)(j:Nat)(a2 a3 a4 a5 a6 a7 a8:Slot):∃b2 b3 b4 b5 b6 b7 b8,(rn (n+130)).b [] (k+14) CK [.dat (.fix (ns.map .int)),‹j›,a2,a3,a4,a5,a6,a7,a8]=!(.nx,[.dat (.fix (ns.map .int)),‹j›,b2,b3,b4,b5,b6,b7,b8]):=by
 let(s,fl,q1):=Kw U c16 (n:=n+88) (k:=k+12) ns ⋯ j;generalize hA0:Slot.dat (.fix (ns.map .int))=A0;generalize hA1:Slot.dat (.int (j:Int))=A1;have e1:aH (rn (n+129)) [] (k+14) (.set 2 (.call 17 [⇑0,⇑1])) [A0,A1,a2,a3,a4,a5,a6,a7,a8]=!(.nx,[A0,A1,St s fl,a3,a4,a5,a6,a7,a8]):=by subst hA0 hA1;simp! [U,c17,bB (fx:=mH 16) rfl,q1]
 let(m1,t1,s1,hm1,h1,q2):=Cy U c18 c19 c20 c21 (n:=n+27) (k:=k+8) (g:=[A0,A1,St s fl,a3,a4,a5,a6,a7,a8]) (i:=2) (s:=s) rfl;have yu:=q2;let(m2,t2,s2,hm2,h2,q3):=Cy U c18 c19 c20 c21 (n:=n+27) (k:=k+8) (g:=[A0,A1,St s1 fl,a3,a4,a5,a6,a7,a8]) (i:=2) (s:=s1) (fl:=fl) rfl;have HF:=q3;have hw:cz (rn (n+129)) [] (k+14) false (.lst [(.call 22 [⇑2]),(.call 22 [⇑2])]) [A0,A1,St s fl,a3,a4,a5,a6,a7,a8]=!([W m1 t1,W m2 t2],[A0,A1,St s2 fl,a3,a4,a5,a6,a7,a8]):=by delta cz;simp! [U,c22,yu,HF,aq 2 ⋯]
 let(b4,b5,b6,b7,w1):=web1 U m1 hm1 t1 h1 A0 A1 (St s2 fl) a4 a5 a6 a7 a8;let(d4,d5,d6,d7,w2):=web1 U m2 hm2 t2 h2 A0 A1 (St s2 fl) b4 b5 b6 b7 a8;generalize hb:(rn (n+129)).b [] (k+14) yi=bb at w1 w2;have e2:aH (rn (n+129)) [] (k+14) (.loop (.nm 3) (.lst [(.call 22 [⇑2]),(.call 22 [⇑2])]) yi) [A0,A1,St s fl,a3,a4,a5,a6,a7,a8]=!(.nx,[A0,A1,St s2 fl,.dat (W m2 t2),d4,d5,d6,d7,a8]):=by
  have l1:fE (.nm 3) bb [W m1 t1,W m2 t2] [A0,A1,St s2 fl,a3,a4,a5,a6,a7,a8]=!(.nx,[A0,A1,St s2 fl,.dat (W m2 t2),d4,d5,d6,d7,a8]):=by rw[jl (rfl:(Tg.nm 3).set _ _=_) w1,jl (rfl:(Tg.nm 3).set _ _=_) w2];rfl
  simp only[aH,Tg.jT,hw,hb];simp[l1]
 generalize Slot.dat (W m2 t2)=A3 at e2;let(b,s5,hb2,q6):=Rl U c18 (n:=n+68) (k:=k+12) (g:=[A0,A1,St s2 fl,A3,d4,d5,d6,d7,a8]) (i:=2) (s:=s2) (fl:=fl) rfl;have q6':=q6;have e3:aH (rn (n+129)) [] (k+14) (.set 8 (.call 29 [⇑2])) [A0,A1,St s2 fl,A3,d4,d5,d6,d7,a8]=!(.nx,[A0,A1,St s5 fl,A3,d4,d5,d6,d7,.dat b]):=by simp! [U,c29,q6']
 generalize St s5 fl=A2 at e3;have y1:=F.bd1 b hb2;let(r,g3,f1,f2):=F.a0;have nz:List.map noOwn [A0,A1,A2,A3,d4,d5,d6,d7,.dat b]=[noOwn A0,noOwn A1,noOwn A2,noOwn A3,noOwn d4,noOwn d5,noOwn d6,noOwn d7,.dat b]:=rfl;have hc:sH[0]?=!37:=rfl;have ll:(rn (n+128)).e [] (k+14) (.lst [↥0]) [A0,A1,A2,A3,d4,d5,d6,d7,.dat b]=!(.new [.int 0],[A0,A1,A2,A3,d4,d5,d6,d7,.dat b]):=by simp! [U,aq 1 ⋯]
 have cm:eY .NotEq (.lst [.int 0]) (.lst [.int 0])=!false:=z7 [0] [0];have last:∀(f:Nat) (fx:Fx),fns[f]?=!fx->fx.np=1->L5 (rn (n+126)) (k+11) fx [b]=!0->aH (rn (n+129)) [] (k+14) (.ite (.cmp .NotEq (.wU 30 1 sH (.call f [⇑8])) (.lst [↥0])) (~~~4) []) [A0,A1,A2,A3,d4,d5,d6,d7,.dat b]=!(.nx,[A0,A1,A2,A3,d4,d5,d6,d7,.dat b]):=λf fx cf np z=>by
  have x1:(rn (n+127)).x [] (k+12) (.call f [⇑8]) (List.map noOwn [A0,A1,A2,A3,d4,d5,d6,d7,.dat b])=!(0,[noOwn A0,noOwn A1,noOwn A2,noOwn A3,noOwn d4,noOwn d5,noOwn d6,noOwn d7,.dat b]):=by rw[nz];simp! [U,cf,uW np,z]
  have rr:(rn (n+128)).e [] (k+14) (.wU 30 1 sH (.call f [⇑8])) [A0,A1,A2,A3,d4,d5,d6,d7,.dat b]=!(.new [.int 0],[A0,A1,A2,A3,d4,d5,d6,d7,.dat b]):=by rw[U.e];simp only[aU,c30,x1,hc,f1,f2]
  simp only[aH,U.t,stepT,argsR,rr,ll,norm,pk,cm,U.b,cK]
 have z1:L5 (rn (n+126)) (k+11) (j8 5 13) [b]=!0:=by delta L5 j8;simp! [U,c5,uW (fx:=bh 2 0) rfl,y1]
 have z2:L5 (rn (n+126)) (k+11) (j9 5 13 10 15) [b]=!0:=by delta L5 j9;simp! [U,c5,uW (fx:=bh 2 0) rfl,y1]
 apply#[A2,A3,d4,d5,d6,d7,.dat b,?_];delta CK;rw[U.b,aG e1,aG e2,aG e3,aG (last 11 _ c11 rfl z1),aG (last 12 _ c12 rfl z2)];rfl
def whole(ns: ~~~0)(hl:ns.length<=63):∃g',(rn (n+131)).b [] (k+14) YX.body [.dat (.fix (ns.map .int)),.no,.no,.no,.no,.no,.no,.no,.no]=!(.rt (.dat (.bl true)),g'):=by
 have loop:=bS (T:=.nm 1) (λ(j:Nat)=>D.int (0+(j:Int)))
  (I:=λl g=>∃(s1 s2 s3 s4 s5 s6 s7 s8:Slot),g=[.dat (.fix (ns.map .int)),s1,s2,s3,s4,s5,s6,s7,s8])
  (step:=λa l g h=>by
   let(s1,s2,s3,s4,s5,s6,s7,s8,rfl):=h;rw[Int.zero_add];let(b2,b3,b4,b5,b6,b7,b8,q):=cell U F ns hl a s2 s3 s4 s5 s6 s7 s8;show#[_,_,rfl,q,_,_,_,_,_,_,_,_,rfl])
 obtain⟨M,hM,hM2⟩:∃M:Nat,M<=3/\(if ((if (3:Int)<ns.length then 3 else (ns.length:Int))) > 1 then (if (3:Int)<ns.length then 3 else (ns.length:Int))else 1)=(M:Int):=by
  apply#[(if ((if (3:Int)<ns.length then 3 else (ns.length:Int))) > 1 then (if (3:Int)<ns.length then 3 else (ns.length:Int))else 1).toNat,?_,?_]
  . split <;> (try split) <;> lia
  . split <;> (try split) <;> lia
 let(g2,(s1,s2,s3,s4,s5,s6,s7,s8,rfl),h4):=loop (List.range M) [.dat (.fix (ns.map .int)),.no,.no,.no,.no,.no,.no,.no,.no] #[_,_,_,_,_,_,_,_,rfl];have hv:fP (rn (n+130)) [] (k+14) (.blt .max [↥1,(.blt .min [(.blt .len [⇑0]),↥3])]) [.dat (.fix (ns.map .int)),.no,.no,.no,.no,.no,.no,.no,.no]=!(.int (M:Int),[.dat (.fix (ns.map .int)),.no,.no,.no,.no,.no,.no,.no,.no]):=by rw[<- hM2];simp! [U,qw]
 have hw:cz (rn (n+130)) [] (k+14) false (.bJ (.blt .max [↥1,(.blt .min [(.blt .len [⇑0]),↥3])])) [.dat (.fix (ns.map .int)),.no,.no,.no,.no,.no,.no,.no,.no]=!((List.range M).map λ(x:Nat)=>D.int (0+(x:Int)),[.dat (.fix (ns.map .int)),.no,.no,.no,.no,.no,.no,.no,.no]):=by delta cz;dsimp only;rw[hv];dsimp only;rw[i8 (aM M ⋯)];rfl
 have e1:aH (rn (n+130)) [] (k+14) (.loop (.nm 1) (.bJ (.blt .max [↥1,(.blt .min [(.blt .len [⇑0]),↥3])])) CK) [.dat (.fix (ns.map .int)),.no,.no,.no,.no,.no,.no,.no,.no]=!(.nx,[.dat (.fix (ns.map .int)),s1,s2,s3,s4,s5,s6,s7,s8]):=by simp only[aH,Tg.jT,hw,h4];simp
 apply#[[.dat (.fix (ns.map .int)),s1,s2,s3,s4,s5,s6,s7,s8],?_];delta YX;rw[U.b,aG e1];simp! [U,U.e]
end
end eU
namespace eU
open Ev
def bad1:(jI.all λd=>decide (L5 (run fns (0+124)) (0+10) (bh 2 0) [d]=!0))=true:=by decide +kernel
abbrev rfB(rn:Rn)(k:Nat)(C:Nat)(c:Int):Bool:=match rn.b [] k (YW.body.drop 2) ((List.replicate YW.n .no).set 1 (.dat (.nj C)))with
 |!(.rt r,g3)=>(match dG [] g3 r with |!(.new [.int c'])=>decide (c'=c) |_=>false)
 |_=>false
def X3(h:rfB rn k C c=true):rfOk rn k C c:=by
 delta rfB at h;split at h
 .
  ext r g3 e;split at h
  . ext c' e2;rw[lS h]at e2;show#[r,g3,e,e2]
  . symm
 . symm
def X4:Fk (run fns) 0 0:=#[λd hd=>lS (lL.mp bad1 d hd),X3 (by decide +kernel)]
abbrev kk:Nat:=14
abbrev fuel:Nat:=131
def hev(ns: ~~~0)(hl:ns.length<=63):∃g',(run fns fuel).b [] kk YX.body (dW 9 [.dat (.fix (ns.map .int))])=!(.rt (.dat (.bl true)),g'):=whole (QM fns) X4 ns hl
end eU
namespace Ev
open L2
abbrev strV:Value->Bool
 |.str _ _=>true
 |_=>false
abbrev Rm:Value->Bool
 |.int _ _=>true
 |_=>false
abbrev SJ:Value->Bool
 |.bool _=>true
 |_=>false
abbrev Ld(n:String):Value->Bool
 |.type m=>decide (m=n)
 |_=>false
abbrev Ro(q:Addr):Option Value->Bool
 |!(.ref p)=>decide (p=q)
 |_=>false
def nY(h:Ld n v=true):v=.type n:=by
 delta Ld at h;split at h
 . rw[lS h]
 . symm
def CN(h:Ro q v=true):v=!(.ref q):=by
 delta Ro at h;split at h
 . rw[lS h]
 . symm
abbrev codeOk(K:Frag)(c q:Addr):Bool:=match K.lookup c with
 |some o=>(match o.data with
  |.fields vs=>Ld "code" o.cls&&Ro q vs[11]?&&strV (vs.getD 18 .none)&&Rm (vs.getD 7 .none)&&SJ (vs.getD 9 .none)&&Rm (vs.getD 10 .none)&&decide (c≠q)
  |_=>false)
 |none=>false
def tD{K:Frag}{h:Heap}{c q:Addr}(X:K.In h)(e:codeOk K c q=true):PySem.W.CodeHd h c q/\∃o vs,h.get? c=!o/\o.cls=.type "code" /\o.data=.fields vs/\vs[11]?=!(.ref q):=by
 delta codeOk at e;split at e
 .
  ext o ho;split at e
  .
   ext vs hv;simp only[fN,l6]at e;let((((((e1,e2),e3),e4),e5),e6),e7):=e;have r:=CN e2;have d:vs.getD 11 .none=.ref q:=by rw[AF,r];rfl
   delta strV at e3;split at e3
   .
    ext file tf h3;delta Rm at e4;split at e4
    .
     ext fl tg h4;delta SJ at e5;split at e5
     .
      ext b h5;delta Rm at e6;split at e6
      . ext tx tt h6;show#[#[o,vs,file,tf,fl,tg,b,tx,tt,X _ _ ho,nY e1,hv,r,d,h3,h4,h5,h6,e7],o,vs,X _ _ ho,nY e1,hv,r]
      . cases e6
     . cases e5
    . cases e4
   . cases e3
  . cases e
 . cases e
abbrev Le(K:Frag)(n:Str)(c:Addr):Bool:=K.all λp=>decide (p.1=c)||(not (PySem.W.codeIn [p] (.ref p.1) n))
def lookup_mem{β:Type}:∀{l:List (Addr×β)}{a:Addr}{b:β},l.lookup a=!b->(a,b)∈l
 | [],_,_,h=>by symm
 | (x,y)::l,a,b,h=>by
  rw[sR]at h;by_cases e:a=x
  . subst e;simp at h;subst h;show dA
  .
   have:(a==x)=false:=by simpa using e
   rw[this]at h;show bP _ (lookup_mem h)
abbrev X5(K:Frag)(bm q:Addr):Bool:=match K.lookup bm with
 |!#[c,!d,.plain,_]=>Ld "module" c&&decide (d=builtinsNs)&&decide (bm≠builtinsNs)&&decide (bm≠mainGlobals)&&decide (bm≠q)
 |_=>false
def X6{K:Frag}{mg:Str->Option Value}{h:Heap}{n:Str}{c q bm:Addr}(X:K.In h)(G:h.Ns mainGlobals mg)(e1:Le K n c=true)(e2:codeOk K c q=true)(e3:(q,qT n)∈cN K)(e7:((cN K).all λp=>decide (p.1=q->p.2=qT n))=true)(e4:PySem.W.nsIn K mainGlobals "__builtins__"=!(!(.ref bm)))(e5:X5 K bm q=true)(e6:mainGlobals≠q) :
  ∀bG,PySem.W.codeIn K bG n=true->JZ K mg n bG:=λbG hc=>by
 cases bG with
 |ref c'=>
  cases hl:K.lookup c' with
  |none=>delta PySem.W.codeIn at hc;simp only[hl]at hc;cases hc
  |some o=>
   have hm:=lookup_mem hl;have e0:PySem.W.codeIn [(c',o)] (.ref c') n=PySem.W.codeIn K (.ref c') n:=by
    have h1:List.lookup c' [(c',o)]=!o:=by simp
    delta PySem.W.codeIn;simp only[hl,h1]
   have ec:c'=c:=by have:=lL.mp e1 _ hm;rw[e0,hc]at this;simpa using this
   subst ec;apply#[c',q,rfl,λb hb=>(tD hb e2).1,e3,λb hb=>?_,e6,λp hp=>lS (lL.mp e7 p hp)]
   delta X5 at e5;split at e5
   . ext cc d sl hb2;simp only[fN,l6]at e5;let((((f1,f2),f3),f4),f5):=e5;show#[bm,_,C6 X G e4,f3,f4,f5,hb _ _ hb2,nY f1,by rw[f2],rfl]
   . cases e5
 |_=>cases hc
def yj{K:Frag}{o:Obj}{a:Addr}{qs:List Addr}:(qs.map (λq=>(q,o))++K).lookup a=if a∈qs then some o else K.lookup a:=by
 induction qs with
 |nil=>simp
 |cons q qs ih=>
  rw[List.map_cons,List.cons_append,sR];by_cases z:a=q
  . subst z;simp
  .
   have:(a==q)=false:=by simpa using z
   rw[this];simp only[dS,z,false_or];show ih
def ym{qs:List Addr}{K:Params->Frag}{w:World}{h:Heap}(e:(qs.all λq=>((K w.params).lookup q).isNone)=true)(qqq:PySem.W.InK (rE qs K) w h):(K w.params).In h:=λa o ho=>by
 apply qqq a o ?_;exact List.lookup a (qs.map _++K w.params)=_;rw[yj,i7,ho];intro z;have:=lL.mp e a z;rw[ho]at this;cases this
def Ge{cs qs:List Addr}{K:Params->Frag}{w:World}{h:Heap}(e:(qs.all λq=>((K w.params).lookup q).isNone)=true)(e2:(qs.all λq=>cs.any λc=>codeOk (K w.params) c q)=true)(qqq:PySem.W.InK (rE qs K) w h):∀p∈qs,(∃c,h.TableAt c p ([].toArray))/\(K w.params).lookup p=none:=λp hp=>by
 let(c,_,hc):=CY.mp (lL.mp e2 p hp);apply#[#[c,(tD (ym e qqq) hc).2,qqq _ _ ?_],Option.isNone_iff_eq_none.mp (lL.mp e p hp)];exact List.lookup p (qs.map _++K w.params)=_;rw[yj,i8 hp]
def Lf{l:PySem.W.OpenLaw}{n k:Nat}{q:Program}{loose:List Str}{XP:(Str->Option Value)->Heap->Prop}{YP:World->Heap->Prop}{d:DefRec}{K:Params->Frag}{CX:De}{sp:Frag->Sp}{x:Str}{T:List Addr}
  (hn:l.most=!n) (hn2:n<=sizeLine) (jm:d.params.defaults=[]) (hr:cB k callerA)
  (hY:∀(w:World) (h:Heap),YP w h->(K w.params).In h) (hT:∀(w:World) (h:Heap),YP w h->∀q∈T,(∃c,h.TableAt c q ([].toArray))/\(K w.params).lookup q=none)
  (F:∀(w:World) (mg:Str->Option Value) (fa:Addr) (h:Heap),(K w.params).In h->h.Ns mainGlobals mg->mg d.name=!(.ref fa)->
   ∃fd:FuncData,(∀(s:Shared) (u:Value),BindsTo s fd #[[u],[]] [(x,u)])/\
    ∀base:Heap,(K w.params).In base->base.Ns mainGlobals mg->jK l.prog w (K w.params) mg base CX k fa fd [x] (sp (K w.params)))
  (Yk:∀(w:World) (H:Hp) (a:Addr) (ns: ~~~0),ns.length<=n->Bu T H->cQ (K w.params) H a (ns.map V.int)->sp (K w.params) [.ref a] H (λv _=>v=.bl true) λ_ _ _=>False)
  (hCX:∀(H:Hp) (s:Shared) (e:Value) (s':Shared),CX [] H s (λ_ _ _=>False) e s'->False) :
  PySem.W.WalkO q loose XP YP l.row.toRowW d [] (λf vs=>PySem.call f vs):=by
 apply Att.vH hn jm λw s₀ s₁ mg mb fa o pm cd doc a vs ns G qqq ho hd cP hmg hobj hints aK hg=>?_
 have KX:=hY w _ qqq;let(fd,hb,hF):=F w mg fa _ KX G.T.g hmg;show El KX (hT w _ qqq) G.T.g G.T.b G.T.builtins G.T.nolimit hg hobj hints (l7 aK hn2) hr hF hb (λH hO hS=>Yk w H a ns aK hO hS) λH e s'=>hCX H s₁ e s'
abbrev kitF(K:Frag)(C:Addr):Bool:=["int", "bool", "str", "tuple", "list", "dict"].all λn=>decide (PySem.W.kitOne K (.ref C) (.type n)=!false)
def X7{K:Frag}{C:Addr}(h1:PySem.W.findIn K (.ref C) "__getattribute__"=!(!(.builtin "BaseException.__getattribute__")))(h8:PySem.W.findIn K (.ref C) "__getattr__"=!none)(h9:PySem.W.mroIn K C (.type "BaseException")=!true)(h2:PySem.W.hasDictIn K C=true)(h3:PySem.W.findIn K (.ref C) "__class__"=!(!(.builtin "object.__class__")))(h4:PySem.W.specialIn K (.builtin "object.__class__") "__get__"=!(!(.builtin "getset_descriptor.__get__")))(h5:PySem.W.takesIn K (.builtin "object.__class__")=!true)(h6:PySem.W.mroIn K C (.type "object")=!true)(h7:kitF K C=true):Lq K C:=
 #[h1,h8,h9,h2,h3,h4,h5,h6,λn hn=>lS (lL.mp h7 n hn)]
abbrev upOk(K:Frag)(cv:Value)(l:List (Addr×Bool)):Bool:=decide (PySem.W.kitOne K (.type "NoneType") cv=!false)&&l.all λp=>decide (PySem.W.kitOne K (.ref p.1) cv=!p.2)
def All.of{α:Type}{p:α->Prop}{l:List α}(h:∀a∈l,p a):All p l:=by
 induction l with
 |nil=>show .nil
 |cons a l ih=>show .cons (h a dA) (ih λb hb=>h b (bP _ hb))
abbrev noB(K:Frag)(x:Str):Bool:=match PySem.W.nsIn K mainGlobals x with
 |some none=>true
 |_=>false
def X8{K:Frag}{mg:Str->Option Value}{h:Heap}{l:List Str}(X:K.In h)(G:h.Ns mainGlobals mg)(e:l.all (noB K)=true):All (λx=>mg x=none) l:=.of λx hx=>by
 have q:=lL.mp e x hx;delta noB at q;split at q
 . ext e2;show PySem.W.mg_none_of X G e2
 . cases q
abbrev Yb(K:Frag)(bn:List Str)(x:Str)(cv:Value)(l:List (Addr×Bool)):Bool:=(not ((x==(~~~3))))&&(upOk K cv l&&(match cv with
 |.ref D=>(match PySem.W.nsIn K mainGlobals x with |some v=>Ro D v |none=>false)
 |.type n=>decide (x∈bn/\x≠ "__name__")&&(match bootBuiltins x with |some v=>Ld n v |none=>false)
 |_=>false))
def Rp{P:Pg}{K:Frag}{mg:Str->Option Value}{h:Heap}(SM:List Value)(X:K.In h)(G:h.Ns mainGlobals mg)(hl:P.ups.length<=SM.length)(e:((P.ups.zip SM).all λp=>Yb K P.bn p.1.1 p.2 p.1.2)=true) :
  All (λp:Str×List (Addr×Bool)=>(p.1==(~~~3))=false/\∃cv,((mg p.1=!cv/\∃D,cv=.ref D)\/(p.1∈P.bn/\p.1≠ "__name__" /\bootBuiltins p.1=!cv/\∃n,cv=.type n))/\PySem.W.kitOne K (.type "NoneType") cv=!false/\∀C b,p.2.lookup C=!b->PySem.W.kitOne K (.ref C) cv=!b) P.ups:=.of λp hp=>by
 let(i,hi,rfl):=BE hp;have hz:(P.ups[i],SM[i])∈P.ups.zip SM:=i6 (i:=i) (BC.mpr #[i3 hi,i3 ⋯]);have q:=lL.mp e _ hz;dsimp only at q;generalize SM[i]=cv at q;delta Yb upOk at q;simp only[fN,Bi,l6]at q;let(q1,(q2,q3),q4):=q;apply#[q1,cv,?_,q2,λC b hl=>lS (lL.mp q3 _ (lookup_mem hl))]
 cases cv with
 |ref D=>
  dsimp only at q4;split at q4
  . ext v e2;rw[CN q4]at e2;show .inl #[C6 X G e2,D,rfl]
  . cases q4
 |type n=>
  simp only[fN,l6]at q4;let((r1,r2),r3):=q4;split at r3
  . ext v e2;rw[nY r3]at e2;show .inr #[r1,r2,e2,n,rfl]
  . cases r3
 |_=>cases q4
def lm_mk{P:Pg}{K:Frag}{mg:Str->Option Value}(h1:All (λn=>∀bG,PySem.W.codeIn K bG n=true->JZ K mg n bG) jz)(h2:All (λp:Str×Addr=>mg p.1=!(.ref p.2)/\fy K p.2/\Lq K p.2) (P.cls.zip P.sH))(hl:P.sH.length<=P.cls.length)
  (h3:(P.kt==(~~~3))=false/\∃D,mg P.kt=!(.ref D)/\fy K D/\All (λC=>ux K C D=true) P.sH)
  (h4:All (λp:Str×List (Addr×Bool)=>(p.1==(~~~3))=false/\∃cv,((mg p.1=!cv/\∃D,cv=.ref D)\/(p.1∈P.bn/\p.1≠ "__name__" /\bootBuiltins p.1=!cv/\∃n,cv=.type n))/\PySem.W.kitOne K (.type "NoneType") cv=!false/\∀C b,p.2.lookup C=!b->PySem.W.kitOne K (.ref C) cv=!b) P.ups):W6 P K mg:=
 #[λ_ n hn=>h1.mem n hn,λi C e=>by
  have hi:=(dE.mp e).1;have hi2:i<P.cls.length:=by lia
  apply#[P.cls[i],i3 hi2,?_];have:=h2.mem (P.cls[i],C) (i6 (by rw[BC];show#[i3 hi2,e]))
  show this,λ_=>let #[a,D,b,c,d]:=h3;#[a,D,b,c,λC hC=>d.mem C hC],λx l h=>h4.mem (x,l) h]
end Ev
namespace eU
open L2 Ev
nonrec abbrev f0:Fi:=cM (st 18)
nonrec abbrev f1:Fi:=cM (st 19)
nonrec abbrev f2:Fi:=cM (st 22)
nonrec abbrev f3:Fi:=cM (st 23)
nonrec abbrev f4:Fi:=cM (st 24)
nonrec abbrev f5:Fi:=cM (st 25)
nonrec abbrev f6:Fi:=cM (st 26)
nonrec abbrev f7:Fi:=cM (st 27)
nonrec abbrev f8:Fi:=cM (st 28)
nonrec abbrev f9:Fi:=cM (st 30)
nonrec abbrev f10:Fi:=cM (st 31)
nonrec abbrev f11:Fi:=cM (st 33)
nonrec abbrev f12:Fi:=cM (st 34)
nonrec abbrev f13:Fi:=cM (st 35)
nonrec abbrev f14:Fi:=cM (st 36)
nonrec abbrev f15:Fi:=cM (st 37)
nonrec abbrev f16:Fi:=cM (st 39)
nonrec abbrev f17:Fi:=cM (st 40)
nonrec abbrev f18:Fi:=cM (st 41)
nonrec abbrev f19:Fi:=cM (st 42)
nonrec abbrev f20:Fi:=cM (st 43)
nonrec abbrev f21:Fi:=cM (st 44)
nonrec abbrev f22:Fi:=cM (st 45)
nonrec abbrev f23:Fi:=cM (st 46)
nonrec abbrev f24:Fi:=cM (st 47)
nonrec abbrev f25:Fi:=cM (st 48)
nonrec abbrev f26:Fi:=cM (st 49)
nonrec abbrev f27:Fi:=cM (st 50)
nonrec abbrev f28:Fi:=cM (st 51)
nonrec abbrev f29:Fi:=cM (st 52)
nonrec abbrev f30:Fi:=cM (st 53)
nonrec abbrev f31:Fi:=cM (st 54)
abbrev ups:List (Str×List (Addr×Bool)):=[("NoWeb",[(37,true)]),("NoNumber",[(37,false)]),("NoTurn",[(37,false)]),("NoKind",[(37,false)]),("NoPlace",[(37,false)]),("NoTie",[(37,false)]),("NoNumbers",[(37,false)]),("NoTree",[(37,false)]),("NoCode",[(37,false)]),("NoCounts",[(37,false)]),("NoMarks",[(37,false)]),("NoText",[(37,false)]),("NoLine",[(37,false)]),("NoDeed",[(37,false)]),("TooGreat",[(37,false)]),("ValueError",[(37,true)])]
nonrec abbrev P:Pg:=#[[f0,f1,f2,f3,f4,f5,f6,f7,f8,f9,f10,f11,f12,f13,f14,f15,f16,f17,f18,f19,f20,f21,f22,f23,f24,f25,f26,f27,f28,f29,f30,f31],[("MOST_PLACES",.int 6)],["ValueError", "all", "bool", "enumerate", "int", "isinstance", "len", "list", "max", "min", "range", "sorted", "tuple", "zip"],["NoWeb"],true,[37], "KindError",ups]
def Yc:QC P P.fn fns=true:=by decide +kernel
def fns_eq:List.zipWith (Ca P) P.fn fns=P.fn.map (λfi=>bx fi.st):=by kernel_rfl
def nLaw:f31.N.length=9:=rfl
def hevF:∀ns:List Int,ns.length<=63->∃g',(run fns fuel).b [] kk YX.body (dW f31.N.length [.dat (.fix (ns.map .int))])=!(.rt (.dat (.bl true)),g'):=by rw[nLaw];show hev
def vd(P:Params):cN (K P)=[(¬395,qT "law")]:=by kernel_rfl
def Lg(P:Params):([395].all λq=>((K P).lookup q).isNone)=true:=by kernel_rfl
def Lh(P:Params):([395].all λq=>[397].any λc=>codeOk (K P) c q)=true:=by kernel_rfl
def Li(P:Params):codeOk (K P) (¬397) (¬395)=true:=by kernel_rfl
def Lj(P:Params):Le (K P) "law" (¬397)=true:=by kernel_rfl
def Yd(P:Params):X5 (K P) (¬4) (¬395)=true:=by kernel_rfl
def Lk(P:Params):Lq (K P) (¬37):=X7 (by kernel_rfl) (by kernel_rfl) (by kernel_rfl) (by kernel_rfl) (by kernel_rfl) (by kernel_rfl) (by kernel_rfl) (by kernel_rfl) (by kernel_rfl)
def yp(P:Params):fy (K P) (¬37):=by kernel_rfl
def Ln(P:Params):ux (K P) (¬37) (¬24)=true:=by kernel_rfl
def ve(P:Params):fy (K P) (¬24):=by kernel_rfl
abbrev SM:List Value:=[.ref 37,.ref 49,.ref 61,.ref 73,.ref 85,.ref 97,.ref 109,.ref 121,.ref 133,.ref 145,.ref 157,.ref 169,.ref 181,.ref 193,.ref 212,.type "ValueError"]
def Ye(Q:Params):((P.ups.zip SM).all λp=>Yb (K Q) P.bn p.1.1 p.2 p.1.2)=true:=by kernel_rfl
def bn_no(Q:Params):P.bn.all (noB (K Q))=true:=by kernel_rfl
end eU
open PySem PySem.W PyProof.Rows
set_option maxHeartbeats 0 in
theorem PySem.Challenge.cw_websbykind_k40_webs_that_hang_together_holds : PySem.Challenge.rw_websbykind_k40_webs_that_hang_together.Holds := by
 w_on
 apply PySem.W.holds_law (by decide +kernel) λsaid=>?_
 apply PySem.W.holds_open (q:=eU.qv) (loose:=[]) (Xt:=λs=>xlAt eU.qv [] s&&recOk (OpenRow.toRowW PySem.Challenge.rw_websbykind_k40_webs_that_hang_together.row).records s) (XP:=XL eU.qv []) (Yf:=λs=>eU.as2.map s.heap.get?) (Ya:=λw=>(Ev.rE [395] eU.K w.params).map λp:Nat×Obj=>!p.2) (YP:=InK (Ev.rE [395] eU.K)) (N:=8000) eU.hl (InK.of eU.Y0) InK.keeps (λs e=>xl_of s (Bool.and_eq_true_iff.mp e).1) XL.keeps (by rfl) (by rfl) (by rfl) (λs e=>recFacts_of (Bool.and_eq_true_iff.mp e).2) (by rfl) (by first |assumption |decide +kernel) (by decide +kernel) #[rfl,rfl,rfl,rfl,rfl,by decide +kernel] ?hw ?hc
 (case hw=>w_witness2)
 k_fill
 apply Ev.Lf (l:=PySem.Challenge.rw_websbykind_k40_webs_that_hang_together) (n:=63) (k:=eU.kk+1) (x:= "_law_script") (CX:=L2.yQ) (K:=eU.K) (T:=[395]) (sp:=λK=>Ev.RN K eU.f31.N 1 λbor g r g'=>(Ev.run eU.fns eU.fuel).b bor eU.kk eU.YX.body g=!(.rt r,g')) rfl ⋯ rfl #[rfl,by decide,by decide] (λw h qqq=>Ev.ym (eU.Lg _) qqq) (λw h qqq=>Ev.Ge (eU.Lg _) (eU.Lh _) qqq) ?F ?S ?C
 case F=>
  intro w mg fa h KX G hmg
  have mm:Ev.All (Ev.QB (L2.KOf KX) mg) eU.P.fn:=by
   repeat' (first |show Ev.All.nil |apply Ev.All.cons ?_ ?_)
   all_goals
    dsimp only[L2.KOf]
    show Ev.fi_mk (by assumption) (by assumption) (by k_is) (by k_is) (by k_is) (by k_is) #[rfl,rfl,rfl,by decide +kernel,by decide +kernel,by decide +kernel,by decide +kernel] (λ_ _ _ _ _ _ us hl=>by first | (let(_,e):=Ev.len1 hl;subst e;rfl) | (let(_,_,e):=Ev.len2 hl;subst e;rfl) | (let(_,_,_,e):=Ev.len3 hl;subst e;rfl) | (let(_,_,_,_,e):=Ev.len4 hl;subst e;rfl)) ⋯
  have rC:Ev.W5 (L2.KOf KX) mg ("MOST_PLACES",.int 6):=by
   dsimp only[L2.KOf]
   refine' Ev.W7 KX G ?a ⋯
   (case a=>k_is)
  have CP:PySem.W.nsIn (L2.KOf KX) mainGlobals "NoWeb"=!(!(.ref 37)):=by dsimp only[L2.KOf];k_is
  have yq:PySem.W.nsIn (L2.KOf KX) mainGlobals "KindError"=!(!(.ref 24)):=by dsimp only[L2.KOf];k_is
  have n_b:PySem.W.nsIn (L2.KOf KX) mainGlobals "__builtins__"=!(!(.ref 4)):=by dsimp only[L2.KOf];k_is
  have lm:Ev.W6 eU.P (L2.KOf KX) mg:=Ev.lm_mk (.cons (Ev.X6 (n:= "law") (q:=¬395) KX G (eU.Lj _) (eU.Li _) (by rw[eU.vd];decide) (by rw[eU.vd];decide) n_b (eU.Yd _) ⋯) .nil) (.cons #[mg_of KX G CP,eU.yp _,eU.Lk _] .nil) ⋯ #[by decide,24,mg_of KX G yq,eU.ve _,(.cons (eU.Ln _) .nil)] (Ev.Rp eU.SM KX G ⋯ (eU.Ye _))
  have md:Ev.uJ eU.P (L2.KOf KX) mg:=Ev.md_mk mm (.cons rC .nil) (Ev.X8 KX G (eU.bn_no _)) (.cons (Ev.cl_mk KX G CP (eU.yp _) ⋯) .nil) lm
  show Ev.Kl (Ev.Xc eU.Yc eU.fns_eq) md (i:=31) (fi:=eU.f31) rfl rfl rfl (mm.mem _ (i6 (i:=31) rfl)) hmg
 case S=>show λw H a ns hl hO hS=>Ev.W9 eU.hevF (eU.K w.params) H a ns hl (by rw[eU.vd];show hO) hS
 case C=>show λ_ _ _ _ z=>z
