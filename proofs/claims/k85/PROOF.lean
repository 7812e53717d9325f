import PyProof.Rows.All
import Wide.All
import OpenK.AllK
import Wide.FinOn
import Lean
import PyProof.EqAt
import PyProof.EqKinds
import PyProof.TupleCall
import PySem.Challenge.RW_websbykind_k85_marks_known
set_option Elab.async false
set_option linter.all false
set_option compiler.extract_closed false
set_option bootstrap.genMatcherCode false
set_option genSizeOf false
set_option maxHeartbeats 4000000
set_option maxRecDepth 100000
set_option autoImplicit true
open PySem PySem.Spec PyProof.Rows
open PySem.W (Frag)
noncomputable section
def zQ1 k a:=Lean.Syntax.node .none k a
def zQ2 a:=zQ1 `null a
def zQ3 a:=zQ1 `Lean.Parser.Tactic.rcasesPatMed #[zQ2 #[a]]
def zQ4(f:Lean.Syntax->Lean.Syntax):Lean.Syntax->Lean.Syntax:=Lean.Syntax.rewriteBottomUp f
def zQ8(x:Lean.Syntax):Lean.Syntax:=match x with
|.node _ (.str b s) a=>if s=="ext"&&b== `Lean.Elab.Tactic.Ext then zQ1 `Lean.Parser.Tactic.renameI #[a[0]!,zQ2 (x[1].getArgs.map λp=>let i:=p[0][0];zQ1 `Lean.binderIdent #[if i.isIdent then i else zQ1 `Lean.Parser.Term.hole #[i]])] else if b== `Lean.Parser.Tactic then zQ1 (.str b (match s with|"exact"=>"show"|"show"=>"exact"|"refine"=>"apply"|"apply"=>"refine"|"unfold"=>"delta"|"delta"=>"unfold"|s=>s)) a else x.setInfo .none
|_=>x.setInfo .none
def zQ5:Lean.Syntax->Lean.Syntax
|x@(.ident ..)=>zQ1 `Lean.Parser.Tactic.rcasesPat.one #[x]
|x@(.node _ k a)=>if k== `Lean.Parser.Term.hole then zQ1 `Lean.Parser.Tactic.rcasesPat.ignore a else if k== `Lean.Parser.Term.tuple then zQ1 `Lean.Parser.Tactic.rcasesPat.tuple #[Lean.mkAtom "⟨",zQ2 ((#[x[1][0],Lean.mkAtom ","]++x[1][2].getArgs).map λx=>if x.isAtom then x else zQ1 `Lean.Parser.Tactic.rcasesPatLo #[zQ3 x,zQ2 #[]]),Lean.mkAtom "⟩"] else x
|x=>x
def zQ6:Lean.Syntax->Lean.Syntax:=λx=>
 let p:=x[2][0]
 if x.isOfKind `Lean.Parser.Tactic.tacticLet__&&p.isOfKind `Lean.Parser.Term.letPatDecl then zQ1 `Lean.Parser.Tactic.obtain #[Lean.mkAtom "obtain",zQ2 #[zQ3 (zQ4 zQ5 p[0])],zQ2 #[],zQ2 #[Lean.mkAtom ":=",zQ2 #[p[4]]]] else zQ8 x
def zQ7:=zQ2 #[zQ1 `Lean.Parser.Command.noncomputable #[Lean.mkAtom "noncomputable"]]
local macro_rules(kind:=Lean.Parser.Command.declaration)
|x=>if x.getPos?.isNone then Lean.Macro.throwUnsupported else
 let x:=zQ4 zQ6 x
 let y:=x[1]
 if !x[0][4].isNone then return (if y.isOfKind `Lean.Parser.Command.abbrev then x.setArg 0 (x[0].setArg 4 zQ7) else x)
 else if y.isOfKind `Lean.Parser.Command.definition then return x.setArg 1 (if y[2][1].isNone then y.setKind `Lean.Parser.Command.abbrev else zQ1 `Lean.Parser.Command.theorem #[y[0],y[1],zQ1 `Lean.Parser.Command.declSig #[y[2][0],y[2][1][0]],y[3]])
 else if y.isOfKind `Lean.Parser.Command.abbrev then return zQ1 x.getKind #[if x[0][6].isNone then x[0].setArg 4 zQ7 else x[0].setArg 6 (zQ2 #[]),zQ1 `Lean.Parser.Command.definition #[y[0],y[1],y[2],y[3],zQ2 #[]]]
 else return x
local macro_rules|`(!$x)=>`(some $x)
local macro_rules|`(#[$x,*])=>`(⟨$x,*⟩)
local macro_rules | `(⋯)=>`(by first |decide |lia |simp)
local macro_rules | `($x⁻¹)=>`(($x).heap.objs.size)
local macro_rules|`(⇑$x)=>`((.slot $x))
local macro_rules|`(↥$x)=>`((.val (.int $x)))
local macro_rules|`(‹$x›)=>`((.dat (.int $x)))
set_option hygiene false in
local macro_rules|`(~~~5)=>`(List (List Int))
local macro_rules|`(~~~0)=>`(List Int)
set_option hygiene false in
local macro_rules|`(~~~1)=>`(List (Addr×Obj))
set_option hygiene false in
local macro_rules|`(~~~2)=>`(model X.prog X.w)
local macro_rules|`(~~~3)=>`(("__debug__":Str))
set_option hygiene false in
local macro_rules|`(~~~7)=>`(Inv X aj σ H s)
set_option hygiene false in
local macro_rules|`(tactic|symm)=>`(tactic|cases h)
local macro_rules|`(¬$x:num)=>`(nat_lit $x)
def aS:=@PySem.wpAny_bind
def bP:=@List.mem_cons_of_mem
def dA:=@PySem.Heap.get?_push_of_some
def dC:=@List.mem_cons_self
def dE:=@List.getElem?_eq_some_iff
def dL:=@List.size_toArray
def dS:=@List.mem_cons
def d5:=@PySem.wpAny_pure
def d6:=@List.getElem?_append_left
def eA:=@Nat.le_refl
def eC:=@List.getElem?_append_right
def eD:=@PySem.Heap.get?_push_size
def eJ:=@List.length_map
def eM:=@PySem.Heap.lt_size
def eP:=@List.length_append
def eQ:=@Bool.and_eq_true
def eR:=@List.getElem?_set_ne
def fA:=@Nat.lt_of_lt_of_le
def fI:=@List.getElem?_set_self
def fN:=@Option.bind_eq_some_iff
def fR:=@List.mem_singleton
def gL:=@List.getD_eq_getElem?_getD
def gN:=@List.mem_map
def hU:=@PySem.Heap.get?_update_other
def hV:=@List.length_replicate
def i5:=@List.mem_filter
def i6:=@List.nodup_cons
def i7:=@if_pos
def i8:=@List.mem_append_right
def i9:=@Nat.le_trans
def kA:=@List.length_cons
def kS:=@Nat.ne_of_lt
def lL:=@if_neg
def lS:=@List.getElem?_eq_getElem
def l4:=@List.all_eq_true
def l5:=@Nat.add_sub_cancel_left
def l6:=@PySem.wpAny_mono
def l7:=@List.mem_of_getElem?
def l8:=@decide_eq_true_eq
def l9:=@List.not_mem_nil
def mB:=@List.append_nil
def mE:=@PySem.wpAny_holding
def mI:=@of_decide_eq_true
def mM:=@Ne.symm
def mP:=@PySem.wpAny_field
def nE:=@List.map_congr_left
def nK:=@Nat.lt_irrefl
def nN:=@PySem.wpAny_truthy_bool
def nS:=@PySem.wpAny_newObj_type
def nV:=@PySem.Heap.get?_update_self
def n0:=@List.length_set
def oC:=@decide_eq_true
def oD:=@decide_eq_false
def oI:=@PyProof.Rows.callWith_type1
def oP:=@PyProof.Rows.slot_tuple_getitem
def oQ:=@PySem.sizeLine_eq
def o6:=@Option.some.inj
def pE:=@Nat.lt_succ_self
def pV:=@List.getElem?_map
def qS:=@PySem.Heap.size_push
def rV:=@List.getElem?_eq_none_iff
def sB:=@Array.length_toList
def sK:=@List.mem_map_of_mem
def sR:=@List.lookup_cons
def sT:=@PySem.wpAny_callSpecial?_slot
def tJ:=@Bool.false_ne_true
def tP:=@List.mem_append
def tS:=@Nat.le_add_right
def t5:=@List.filterMap_cons
def t6:=@List.length_singleton
def t7:=@List.set_append_right
def t8:=@List.length_filter_le
def t9:=@List.mem_range
def u4:=@List.nodup_nil
def u7:=@PySem.wpAny_seqItems
def u8:=@PySem.wpAny_Call_Name_kw
def vS:=@PySem.W.kia_one
def v6:=@List.map_append
def wE:=@List.length_take
def wP:=@PySem.wpAny_call_entry
def wS:=@Nat.lt_or_ge
def wT:=@Nat.zero_le
def w8:=@List.nodup_append
def w9:=@Int.toNat_natCast
def xI:=@List.Perm.refl
def xL:=@PySem.Obj.isFreed_of_fields
def x5:=@PySem.wpAny_pyIter_tuple
def yA:=@List.mem_replicate
def yB:=@PySem.Obj.data_mapFields
def yY:=@List.idxOf_lt_length_iff
def y0:=@List.mem_append_left
def y6:=@List.range_eq_range'
def y7:=@PySem.F.plainAttrs_list
def y8:=@List.flatMap_cons
def An:=@List.replicate_succ
def Ap:=@Array.getD_eq_getD_getElem?
def At:=@Array.getElem?_eq_some_iff
def AA:=@PySem.F.slot_tuple_iterator_next
def AB:=@List.range'_succ
def AC:=@Nat.ne_of_gt
def AD:=@List.pairwise_cons
def AE:=@PySem.wpAny_setField_rec
def AF:=@Nat.sub_eq_zero_of_le
def AG:=@PySem.wpAny_passesOwn
def AH:=@List.getElem?_take_of_lt
def AI:=@List.append_assoc
def AJ:=@Nat.not_lt_zero
def AK:=@Bool.or_eq_true
def AL:=@PySem.wpAny_standAt
def AM:=@PySem.mem_of_lookup
def AO:=@List.getElem?_replicate
def AQ:=@List.getElem_mem
def AR:=@Nat.lt_of_succ_lt_succ
def AS:=@PySem.W.callWith_K
def AT:=@Nat.le_succ
def AU:=@List.getElem?_eq_none
def AV:=@List.nil_append
def AW:=@List.contains_iff_mem
def AX:=@List.idxOf_lt_length_of_mem
def AY:=@PySem.wpAny_pyIter_list
def AZ:=@Nat.lt_succ_of_lt
def A7:=@or_false
def A8:=@Array.perm_iff_toList_perm
def A9:=@Nat.not_succ_le_zero
def Bi:=@List.set_append_left
def Bz:=@PySem.wpAny_setField
def BA:=@PySem.wpAny_execs_cons
def BB:=@List.drop_length
def BC:=@PySem.Heap.size_update
def BD:=@List.filter_cons
def BE:=@List.length_reverse
def BF:=@PySem.codeAny_mono
def BH:=@PySem.F.args_tuple_add_2
def BI:=@Nat.succ.inj
def BM:=@PySem.F.slot_list_append
def BN:=@PySem.F.type_list_append
def BO:=@Nat.zero_add
def BQ:=@Nat.sub_self
def BS:=@PySem.AutoSeq1.wpAny_loadPart'
def BU:=@List.mem_filterMap
def BY:=@List.zip_cons_cons
def B3:=@PySem.F.entry_tuple_add
def B4:=@Option.map_some
def B5:=@Bool.eq_iff_iff
def B6:=@PySem.codeAny_builtin
def B7:=@Array.Perm.refl
def B8:=@Nat.lt_of_lt_of_eq
def B9:=@List.cons.injEq
def Cc:=@List.length_range'
def Cf:=@List.mem_singleton_self
def Cn:=@PySem.W.cellsFrom_some
def Co:=@PySem.F.slot_tuple_add
def CA:=@Nat.le_of_succ_le_succ
def CB:=@List.reverse_cons
def CC:=@PySem.call_meets
def CD:=@Bool.eq_false_iff
def CF:=@List.Sublist.refl
def CH:=@PySem.W.kitx_list
def CI:=@PySem.W.kitx_dict
def CL:=@Bool.not_eq_true'
def CM:=@PySem.F.slot_list_index
def CO:=@PySem.wpAny_letGo
def CS:=@PySem.F.plainAttrs_list
def CU:=@List.ext_getElem
def CY:=@PySem.F.plain_min_loop
def C3:=@PySem.wpAny_newList
def C5:=@PySem.wpAny_onRaise
def C6:=@PySem.W.mg_of
def C8:=@List.of_mem_zip
def Db:=@List.length_nil
def Dx:=@List.getElem?_range
def DB:=@if_true
def DC:=@List.map_eq_nil_iff
def DD:=@Nat.le_of_lt
def DE:=@PySem.wpAny_typeOf
def DI:=@PySem.wpAny_Name
def DJ:=@PySem.wpAny_call
def DL:=@PySem.wpAny_rule
def nt{p:Prop}(h:false=true):p:=Bool.noConfusion h
namespace L2
nonrec abbrev ju(s:Stmt):Arguments:=match s with
 |.FunctionDef _ a _ _ _ _ _ _ _ _=>a
 |_=>{ posonlyargs:=[],args:=[],vararg:=none,kwonlyargs:=[],kw_defaults:=[],kwarg:=none,defaults:=[]}
nonrec abbrev bH(s:Stmt):List Stmt:=match s with
 |.FunctionDef _ _ b _ _ _ _ _ _ _=>b
 |_=>[]
nonrec abbrev aH(s:Stmt):Scope:=match s with
 |.FunctionDef _ _ _ _ _ _ sc _ _ _=>sc
 |_=>{ kind:=.function,names:=[],isGenerator:=false,isCoroutine:=false}
end L2
namespace Ev
open L2
abbrev rQ(q:Addr)(K:Params->Frag)(P:Params):Frag:=(q,{ cls:=.none,data:=.fields ([].toArray)})::K P
section
open PySem.W
abbrev Mh(tb:String->Option Builtin)(p:Program)(w:World)(n₀:Nat)(ann:Option Value):Nat->SharedT->Thread->Option SharedT
 | 0,_,_=>none
 |n+1,s,t=>match through t with
  |true=>!s
  |false=>match stepOk n₀ ann t with
   |false=>none
   |true=>match stepT (denote tb) p w s t with
    |!(s',t')=>Mh tb p w n₀ ann n s' t'
    |none=>none
def Aw:∀{n:Nat}{s s':SharedT}{t:Thread},Mh tb p w n₀ ann n s t=!s'->topRun tb p w n₀ ann n s.abs t=!s'.abs
 | 0,_,_,_,h=>by symm
 |n+1,s,s',t,h=>by
  delta Mh at h;delta topRun;cases he:through t with
  |true=>rw[he]at h;symm;rfl
  |false=>
   rw[he]at h;cases hk:stepOk n₀ ann t with
   |false=>rw[hk]at h;symm
   |true=>
    rw[hk]at h;cases hs:stepT (denote tb) p w s t with
    |none=>rw[hs]at h;symm
    |some r=>let(s₂,t₂):=r;rw[hs]at h;rw[stepT_spec hs];show Aw h
abbrev Q6:BT->Nat->List Obj->BT
 |t,_,[]=>t
 |t,n,o::os=>Q6 (t.ins n o) (n+1) os
abbrev Gx(P:Params):BT:=Q6 .nil 0 (boot_heap P).objs.toList
def Gy(P:Params):absHeap (Gx P) 11 (boot_heap P).life=boot_heap P:=by kernel_rfl
meta abbrev AN (P:Params):Option Value:=(boot_heap P).nsMap mainGlobals "__annotations__"
def CV{p q:Program}{loose:List Str}{Xt:Shared->Bool}{α:Type}{Yf:Shared->α}{Ya:World->α}{N:Nat}{ann:Option Value}
  (e:opening p=plainProg p.main.scope.names) (hN:Nat.ble 600 N=true) (f:∀s,fenceModules? p s=!s) (ha:∀P,AN P=ann)
  (run:∀(w:World) (os:OsState),(Mh treeTable p w 11 ann N #[Gx w.params,11,(boot_heap w.params).life,([].toArray),boot_drawn,boot_toks,os] (topStub p)).map (λs=>
   (staticsOk (importedModules p.main.body) (boot_heap w.params) s.abs.heap&&namesBound p s.abs.heap&&gensDone s.abs&&laidKept (boot_heap w.params) s.abs.heap,openSeen q loose (importedModules p.main.body) Xt true s.abs,Yf s.abs))=!(true,openGood q loose,Ya w)):LeftO p q loose Xt Yf Ya N:=λw=>by
 let((h,gs,d,k,os),e1,e2):=Option.map_eq_some_iff.mp (boot_open e hN f w);obtain⟨rfl,rfl,rfl,rfl⟩:h=boot_heap w.params/\gs=Array.mk []/\d=boot_drawn/\k=boot_toks:=by simpa using e2
 let(s,r1,r2):=Option.map_eq_some_iff.mp (run w os);obtain⟨l1,l2,l3⟩:_/\_/\_:=by simpa only[Prod.mk.injEq]using r2
 have r:=Aw r1;delta openEnds;rw[e1];exact (topFrom treeTable p w N _).map _=_;have z0:((boot_heap w.params).isNs mainGlobals&&(Array.mk []:Array GenState).size==0)=true:=by kernel_rfl
 have t:topFrom treeTable p w N #[boot_heap w.params,Array.mk [],boot_drawn,boot_toks,os]=!s.abs:=by
  delta topFrom;dsimp only;rw[z0];have r':topRun treeTable p w (boot_heap w.params).objs.size ((boot_heap w.params).nsMap mainGlobals "__annotations__") N #[boot_heap w.params,Array.mk [],boot_drawn,boot_toks,os] (topStub p)=!s.abs:=by
   have:=ha w.params;delta AN at this;rw[this];have z:SharedT.abs #[Gx w.params,11,(boot_heap w.params).life,([].toArray),boot_drawn,boot_toks,os]=#[boot_heap w.params,Array.mk [],boot_drawn,boot_toks,os]:=by delta SharedT.abs;dsimp only;rw[Gy]
   rw[z]at r;show r
  rw[r'];exact (match staticsOk (importedModules p.main.body) (boot_heap w.params) s.abs.heap&&namesBound p s.abs.heap&&gensDone s.abs&&laidKept (boot_heap w.params) s.abs.heap with |true=>_ |false=>_)=_
  rw[l1]
 rw[t];show congrArg some (Prod.ext l2 l3)
def Ys(P:Params):AN P=!(.ref 6):=by kernel_rfl
end
end Ev
namespace aZ
open L2 Ev
nonrec abbrev st(j:Nat):Stmt:=PySem.Challenge.pw_websbykind_k85_marks_known.main.body.getD j (.Pass #[0,0,0,0])
abbrev de(P:Params)(s:Str)(t:Tok)(v:Value):DictEntry:=#[PyData.keyHash P s,.str s t,v]
abbrev co(vs:Array Value):Obj:=#[.type "code",none,.fields vs,([].toArray)]
abbrev fo(j:Nat)(n:Str)(kV doc pm:Value)(an:Option Addr)(bO ct:Value):Obj:=#[.type "function",none,.func (PySem.W.fnOf n n (ju (st j)) (bH (st j)) (aH (st j)) .none kV doc pm an bO ct),([].toArray)]
abbrev ce(n:Str)(b a s r t u:Nat):Obj:=#[.type "type",none,.cls #[n,[.ref b],[.ref a,.ref b,.type "ValueError",.type "Exception",.type "BaseException",.type "object"],s,n,true,[],[],false,none,false],([!(.ref r),none,!(.str n t),!(.str n u),!(.builtin "ValueError.__new__"),!(.bool true)].toArray)]
nonrec abbrev cd(n:Str)(t l p r:Nat)(x y z:Value)(u:Nat):Obj:=co ([.str n t,.str n (t+1),.str "/claim/cut.py" (t+2),.int l 0,.int p 0,.int 0 0,.int 0 0,.int 3 0,.ref r,.bool true,.int 181 0,.ref (r+1),.none,x,y,z,.int u 0,.int l 0,.str "/claim/cut.py" (u+1)].toArray)
nonrec abbrev fq(j:Nat)(n:Str)(m:Value)(c:Addr):Obj:=fo j n .none .none m none (.ref c) .none
nonrec abbrev m0:Value:=.str "websbykind.whole" 458
nonrec abbrev m1:Value:=.str "websbykind.webs" 476
nonrec abbrev m2:Value:=.str "websbykind.alike" 511
nonrec abbrev m3:Value:=.str "websbykind.marks" 532
nonrec abbrev m4:Value:=.str "law_websbykind_k85_marks_known" 568
nonrec abbrev K(P:Params):Frag:=
 (¬3,#[.type "dict",none,.dict ([de P "__name__" 165 (.str "law_websbykind_k85_marks_known" 568),de P "__doc__" 166 (.none),de P "__package__" 167 (.none),de P "__loader__" 168 (.builtin "__main__.__loader__#opaque"),de P "__spec__" 169 (.none),de P "__annotations__" 170 (.ref 6),de P "__builtins__" 171 (.ref 4),de P "__file__" 173 (.str "/claim/cut.py" 172),de P "__cached__" 174 (.none),de P "KindError" 206 (.ref 24),de P "NoWeb" 222 (.ref 37),de P "NoNumber" 238 (.ref 49),de P "NoTurn" 254 (.ref 61),de P "NoKind" 270 (.ref 73),de P "NoPlace" 286 (.ref 85),de P "NoTie" 302 (.ref 97),de P "NoNumbers" 318 (.ref 109),de P "NoTree" 334 (.ref 121),de P "NoCode" 350 (.ref 133),de P "NoCounts" 366 (.ref 145),de P "NoMarks" 382 (.ref 157),de P "NoText" 398 (.ref 169),de P "NoLine" 414 (.ref 181),de P "NoDeed" 430 (.ref 193),de P "TooGreat" 457 (.ref 212),de P "is_whole" 466 (.ref 221),de P "is_within" 475 (.ref 228),de P "MOST_PLACES" 479 (.int 6 478),de P "is_web" 485 (.ref 233),de P "is_tie" 491 (.ref 238),de P "is_rising" 497 (.ref 243),de P "must_be_web" 504 (.ref 250),de P "tied_places" 510 (.ref 255),de P "own_turns" 519 (.ref 262),de P "turns_to" 525 (.ref 267),de P "fits" 531 (.ref 272),de P "SORTS" 535 (.int 4 534),de P "are_marks" 541 (.ref 277),de P "must_be_marks" 549 (.ref 284),de P "marks_on" 555 (.ref 289),de P "marks_turn" 561 (.ref 294),de P "first_marks" 567 (.ref 299),de P "_law_refused" 575 (.ref 304),de P "_law_take" 585 (.ref 311),de P "_law_bad_web" 593 (.ref 318),de P "_law_cell_at" 601 (.ref 325),de P "_law_state" 610 (.ref 332),de P "_law_named" 621 (.ref 339),de P "_law_mixed" 631 (.ref 346),de P "_law_tree" 642 (.ref 353),de P "_law_web" 648 (.ref 358),de P "_law_turns" 654 (.ref 363),de P "_law_own" 660 (.ref 368),de P "_law_led" 670 (.ref 375),de P "_law_bent_marks" 681 (.ref 382),de P "_law_whole" 688 (.ref 389),de P "_law_are_marks" 694 (.ref 394),de P "_law_same" 700 (.ref 399),de P "_law_refusals_right" 706 (.ref 404),de P "law" 712 (.ref 409)].toArray) 60,([].toArray)]) ::
 (¬4,#[.type "module",(!0),.plain,([].toArray)]) ::
 (¬24,#[.type "type",none,.cls #["KindError",[.type "ValueError"],[.ref 24,.type "ValueError",.type "Exception",.type "BaseException",.type "object"],23, "KindError",true,[],[.ref 37,.ref 49,.ref 61,.ref 73,.ref 85,.ref 97,.ref 109,.ref 121,.ref 133,.ref 145,.ref 157,.ref 169,.ref 181,.ref 193,.ref 212],false,none,false],([!(.ref 15),none,!(.str "KindError" 189),!(.str "KindError" 197),!(.builtin "ValueError.__new__"),!(.bool true)].toArray)]) ::
 (¬23,#[.type "dict",none,.dict ([de P "__module__" 196 (.str "websbykind.errors" 187),de P "__firstlineno__" 200 (.int 2 199),de P "__static_attributes__" 201 (.ref 22),de P "__weakref__" 203 (.ref 25),de P "__doc__" 204 (.none)].toArray) 3,([].toArray)]) ::
 (¬37,ce "NoWeb" 24 37 36 28 207 215) ::
 (¬36,#[.type "dict",none,.dict ([de P "__module__" 214 (.str "websbykind.errors" 187),de P "__firstlineno__" 218 (.int 4 217),de P "__static_attributes__" 219 (.ref 35),de P "__doc__" 220 (.none)].toArray) 2,([].toArray)]) ::
 (¬49,ce "NoNumber" 24 49 48 40 223 231) ::
 (¬61,ce "NoTurn" 24 61 60 52 239 247) ::
 (¬73,ce "NoKind" 24 73 72 64 255 263) ::
 (¬85,ce "NoPlace" 24 85 84 76 271 279) ::
 (¬97,ce "NoTie" 24 97 96 88 287 295) ::
 (¬109,ce "NoNumbers" 24 109 108 100 303 311) ::
 (¬121,ce "NoTree" 24 121 120 112 319 327) ::
 (¬133,ce "NoCode" 24 133 132 124 335 343) ::
 (¬145,ce "NoCounts" 24 145 144 136 351 359) ::
 (¬157,ce "NoMarks" 24 157 156 148 367 375) ::
 (¬156,#[.type "dict",none,.dict ([de P "__module__" 374 (.str "websbykind.errors" 187),de P "__firstlineno__" 378 (.int 24 377),de P "__static_attributes__" 379 (.ref 155),de P "__doc__" 380 (.none)].toArray) 2,([].toArray)]) ::
 (¬169,ce "NoText" 24 169 168 160 383 391) ::
 (¬181,ce "NoLine" 24 181 180 172 399 407) ::
 (¬193,ce "NoDeed" 24 193 192 184 415 423) ::
 (¬212,ce "TooGreat" 24 212 211 196 431 439) ::
 (¬220,cd "is_whole" 460 38 1 215 (.ref 217) (.ref 218) (.ref 219) 464) ::
 (¬221,fq 18 "is_whole" m0 220) ::
 (¬227,cd "is_within" 467 40 3 222 (.ref 224) (.ref 225) (.ref 226) 473) ::
 (¬228,fq 19 "is_within" m0 227) ::
 (¬232,cd "is_web" 480 44 1 229 .none .none (.ref 231) 483) ::
 (¬233,fq 22 "is_web" m1 232) ::
 (¬237,cd "is_tie" 486 51 2 234 .none .none (.ref 236) 489) ::
 (¬238,fq 23 "is_tie" m1 237) ::
 (¬242,cd "is_rising" 492 55 1 239 .none .none (.ref 241) 495) ::
 (¬243,fq 24 "is_rising" m1 242) ::
 (¬249,cd "must_be_web" 498 57 1 244 (.ref 246) (.ref 247) (.ref 248) 502) ::
 (¬250,fq 25 "must_be_web" m1 249) ::
 (¬254,cd "tied_places" 505 60 2 251 .none .none (.ref 253) 508) ::
 (¬255,fq 26 "tied_places" m1 254) ::
 (¬261,cd "own_turns" 513 67 1 256 (.ref 258) (.ref 259) (.ref 260) 517) ::
 (¬262,fq 28 "own_turns" m2 261) ::
 (¬266,cd "turns_to" 520 70 2 263 .none .none (.ref 265) 523) ::
 (¬267,fq 29 "turns_to" m2 266) ::
 (¬271,cd "fits" 526 78 3 268 .none .none (.ref 270) 529) ::
 (¬272,fq 30 "fits" m2 271) ::
 (¬276,cd "are_marks" 536 84 2 273 .none .none (.ref 275) 539) ::
 (¬277,fq 33 "are_marks" m3 276) ::
 (¬283,cd "must_be_marks" 542 89 2 278 (.ref 280) (.ref 281) (.ref 282) 547) ::
 (¬284,fq 34 "must_be_marks" m3 283) ::
 (¬288,cd "marks_on" 550 92 2 285 .none .none (.ref 287) 553) ::
 (¬289,fq 35 "marks_on" m3 288) ::
 (¬293,cd "marks_turn" 556 94 3 290 .none .none (.ref 292) 559) ::
 (¬294,fq 36 "marks_turn" m3 293) ::
 (¬298,cd "first_marks" 562 99 2 295 .none .none (.ref 297) 565) ::
 (¬299,fq 37 "first_marks" m3 298) ::
 (¬303,cd "_law_refused" 570 103 1 300 .none .none (.ref 302) 573) ::
 (¬304,fq 39 "_law_refused" m4 303) ::
 (¬310,cd "_law_take" 576 117 2 305 (.ref 307) (.ref 308) (.ref 309) 583) ::
 (¬311,fq 40 "_law_take" m4 310) ::
 (¬317,cd "_law_bad_web" 586 126 1 312 (.ref 314) (.ref 315) (.ref 316) 591) ::
 (¬318,fq 41 "_law_bad_web" m4 317) ::
 (¬324,cd "_law_cell_at" 594 131 2 319 (.ref 321) (.ref 322) (.ref 323) 599) ::
 (¬325,fq 42 "_law_cell_at" m4 324) ::
 (¬331,cd "_law_state" 602 135 2 326 (.ref 328) (.ref 329) (.ref 330) 608) ::
 (¬332,fq 43 "_law_state" m4 331) ::
 (¬338,cd "_law_named" 611 140 2 333 (.ref 335) (.ref 336) (.ref 337) 619) ::
 (¬339,fq 44 "_law_named" m4 338) ::
 (¬345,cd "_law_mixed" 622 145 2 340 (.ref 342) (.ref 343) (.ref 344) 629) ::
 (¬346,fq 45 "_law_mixed" m4 345) ::
 (¬352,cd "_law_tree" 632 151 2 347 (.ref 349) (.ref 350) (.ref 351) 640) ::
 (¬353,fq 46 "_law_tree" m4 352) ::
 (¬357,cd "_law_web" 643 157 1 354 .none .none (.ref 356) 646) ::
 (¬358,fq 47 "_law_web" m4 357) ::
 (¬362,cd "_law_turns" 649 178 1 359 .none .none (.ref 361) 652) ::
 (¬363,fq 48 "_law_turns" m4 362) ::
 (¬367,cd "_law_own" 655 186 1 364 .none .none (.ref 366) 658) ::
 (¬368,fq 49 "_law_own" m4 367) ::
 (¬374,cd "_law_led" 661 188 2 369 (.ref 371) (.ref 372) (.ref 373) 668) ::
 (¬375,fq 50 "_law_led" m4 374) ::
 (¬381,cd "_law_bent_marks" 671 193 2 376 (.ref 378) (.ref 379) (.ref 380) 679) ::
 (¬382,fq 51 "_law_bent_marks" m4 381) ::
 (¬388,cd "_law_whole" 682 199 1 383 (.ref 385) (.ref 386) (.ref 387) 686) ::
 (¬389,fq 52 "_law_whole" m4 388) ::
 (¬393,cd "_law_are_marks" 689 201 2 390 .none .none (.ref 392) 692) ::
 (¬394,fq 53 "_law_are_marks" m4 393) ::
 (¬398,cd "_law_same" 695 205 2 395 .none .none (.ref 397) 698) ::
 (¬399,fq 54 "_law_same" m4 398) ::
 (¬403,cd "_law_refusals_right" 701 213 4 400 .none .none (.ref 402) 704) ::
 (¬404,fq 55 "_law_refusals_right" m4 403) ::
 (¬408,cd "law" 707 225 1 405 .none .none (.ref 407) 710) ::
 (¬409,fq 56 "law" m4 408)::[]
abbrev as:List Addr:=[¬3,¬4,¬24,¬23,¬37,¬36,¬49,¬61,¬73,¬85,¬97,¬109,¬121,¬133,¬145,¬157,¬156,¬169,¬181,¬193,¬212,¬220,¬221,¬227,¬228,¬232,¬233,¬237,¬238,¬242,¬243,¬249,¬250,¬254,¬255,¬261,¬262,¬266,¬267,¬271,¬272,¬276,¬277,¬283,¬284,¬288,¬289,¬293,¬294,¬298,¬299,¬303,¬304,¬310,¬311,¬317,¬318,¬324,¬325,¬331,¬332,¬338,¬339,¬345,¬346,¬352,¬353,¬357,¬358,¬362,¬363,¬367,¬368,¬374,¬375,¬381,¬382,¬388,¬389,¬393,¬394,¬398,¬399,¬403,¬404,¬408,¬409]
nonrec abbrev as2:List Addr:=nat_lit 401::as
abbrev qv:Program:={ PySem.Challenge.pw_websbykind_k85_marks_known with main:={ PySem.Challenge.pw_websbykind_k85_marks_known.main with body:=[st 1,st 2,st 3,st 4,st 5,st 6,st 7,st 8,st 9,st 10,st 11,st 12,st 13,st 14,st 15,st 16,st 18,st 19,st 21,st 22,st 23,st 24,st 25,st 26,st 28,st 29,st 30,st 32,st 33,st 34,st 35,st 36,st 37,st 39,st 40,st 41,st 42,st 43,st 44,st 45,st 46,st 47,st 48,st 49,st 50,st 51,st 52,st 53,st 54,st 55,st 56]}}
def Yt(P:Params):as2=(rQ 401 K P).map (·.1):=by kernel_rfl
def op:PySem.W.opening PySem.Challenge.rw_websbykind_k85_marks_known.row.prog=PySem.W.plainProg PySem.Challenge.rw_websbykind_k85_marks_known.row.prog.main.scope.names:=by kernel_rfl
def fe:∀s,PySem.fenceModules? PySem.Challenge.rw_websbykind_k85_marks_known.row.prog s=!s:=λs=>by kernel_rfl
def hl:PySem.W.LeftO PySem.Challenge.rw_websbykind_k85_marks_known.row.prog qv [] (λs=>PySem.W.xlAt qv [] s&&PySem.W.recOk (PySem.W.OpenRow.toRowW PySem.Challenge.rw_websbykind_k85_marks_known.row).records s) (λs=>as2.map s.heap.get?) (λw=>(rQ 401 K w.params).map λp:Nat×Obj=>!p.2) 8000:=CV op ⋯ fe Ys λw os=>by kernel_rfl
end aZ
namespace Ev
open PySem PySem.W
end Ev
namespace L2
def Key:=Sum Int Str
abbrev rR:Key->Value->Bool
 |.inl k,v=>Value.isInt k v
 |.inr x,v=>Value.isStrOf x v
abbrev keyH(w:World):Key->Int
 |.inl k=>hashInt k
 |.inr x=>hashStr w x
def bI:∀{k:Key}{v:Value},rR k v=true->(∃i t,k=Sum.inl i/\v=Value.int i t)\/(∃x t,k=Sum.inr x/\v=Value.str x t)
 |.inl i,v,h=>by
  let(t,e):=Value.isInt_shape h;show .inl #[i,t,rfl,e]
 |.inr x,v,h=>by
  let(t,e):=Value.isStrOf_shape h;show .inr #[x,t,rfl,e]
def CW(i:Int)(t:Tok):rR (.inl i) (.int i t)=true:=by simp[rR,Value.isInt]
def CZ(x:Str)(t:Tok):rR (.inr x) (.str x t)=true:=by simp[rR,Value.isStrOf]
def RT(a b:Int):decide ((Sum.inl a:Key)=Sum.inl b)=(a==b):=by
 by_cases e:a=b
 . subst e;simp
 .
  have h : ¬ (Sum.inl a:Key)=Sum.inl b:=λq=>e (Sum.inl.inj q)
  rw[oD h];show (beq_eq_false_iff_ne.mpr e).symm
def RV(a b:Str):decide ((Sum.inr a:Key)=Sum.inr b)=decide (a=b):=by
 by_cases e:a=b
 . subst e;simp
 .
  have h : ¬ (Sum.inr a:Key)=Sum.inr b:=λq=>e (Sum.inr.inj q)
  rw[oD h,oD e]
def RW(a:Int)(b:Str):decide ((Sum.inl a:Key)=Sum.inr b)=false:=oD (λq=>nomatch q)
def RX(a:Str)(b:Int):decide ((Sum.inr a:Key)=Sum.inl b)=false:=oD (λq=>nomatch q)
abbrev g7(prog:Program)(w:World):PySem.KeyKind prog w Key where
 is:=rR
 hash:=keyH w
 inj:=λv a b ha hb=>by
  rcases bI ha with ⟨i,t,rfl,rfl⟩ |⟨x,t,rfl,rfl⟩
  .
   rcases bI hb with ⟨j,u,rfl,e⟩ |⟨y,u,rfl,e⟩
   . injection e with e1 _;rw[e1]
   . show nomatch e
  .
   rcases bI hb with ⟨j,u,rfl,e⟩ |⟨y,u,rfl,e⟩
   . show nomatch e
   . injection e with e1 _;rw[e1]
 byValue:=λk v h=>by
  rcases bI h with ⟨i,t,rfl,rfl⟩ |⟨x,t,rfl,rfl⟩ <;> rfl
 pyHash:=λhv h=>by
  rcases bI hv with ⟨i,t,rfl,rfl⟩ |⟨x,t,rfl,rfl⟩
  . show wpAny_pyHash_int h
  . show wpAny_pyHash_str h
 eqBool:=λhu hv h=>by
  rcases bI hu with ⟨i,t,rfl,rfl⟩ |⟨x,t,rfl,rfl⟩
  .
   rcases bI hv with ⟨j,u,rfl,rfl⟩ |⟨y,u,rfl,rfl⟩
   . rw[RT]at h;show wpAny_eqBool_int h
   . rw[RW]at h;show SeqAt.EqAt.int_str i t y u _ _ _ _ h
  .
   rcases bI hv with ⟨j,u,rfl,rfl⟩ |⟨y,u,rfl,rfl⟩
   . rw[RX]at h;show SeqAt.EqAt.str_int x t j u _ _ _ _ h
   . rw[RV]at h;show wpAny_eqBool_str h
 «strs»:=λk x t v h=>by
  rcases bI h with ⟨i,u,rfl,e⟩ |⟨y,u,rfl,e⟩
  . show nomatch e
  . injection e with e1 _;subst e1;cases v <;> rfl
def vP(prog:Program)(w:World)(i:Int)(t:Tok):(g7 prog w).is (.inl i) (.int i t)=true:=CW i t
def vQ(prog:Program)(w:World)(x:Str)(t:Tok):(g7 prog w).is (.inr x) (.str x t)=true:=CZ x t
inductive V where
 |non |bl (b:Bool) |int (i:Int) |str (x:Str) |RZ (b:Array UInt8) |flt (b:UInt64) |ref (a:Addr) |ty (n:String)
 deriving DecidableEq
abbrev RelV:V->Value->Prop
 |.non,u=>u=Value.none
 |.bl b,u=>u=Value.bool b
 |.int i,u=>∃t,u=Value.int i t
 |.str x,u=>∃t,u=Value.str x t
 |.RZ b,u=>∃t,u=Value.bytes b t
 |.flt b,u=>∃t,u=Value.float b t
 |.ref a,u=>u=Value.ref a
 |.ty n,u=>u=Value.type n
meta abbrev Vals:List V->List Value->Prop:=Paired RelV
def Vals.length{xs:List V}{us:List Value}(r:Vals xs us):xs.length=us.length:=Paired.length r
def Vals.get:∀{xs:List V}{us:List Value}{i:Nat}{x:V},Vals xs us->xs[i]?=!x->∃u,us[i]?=!u/\RelV x u
 |_,_,_,_,.nil,e=>by simp at e
 |_,_,0,_,.cons r _,e=>by simp at e;subst e;show#[_,rfl,r]
 |_,_,i+1,x,.cons _ t,e=>by
  let(u,h1,h2):=Vals.get t (by simpa using e)
  show#[u,by simpa using h1,h2]
def Vals.set(r:RelV x u):∀{xs:List V}{us:List Value} (i:Nat),Vals xs us->Vals (xs.set i x) (us.set i u)
 |_,_,_,.nil=>.nil
 |_,_,0,.cons _ t=>.cons r t
 |_,_,i+1,.cons q t=>.cons q (Vals.set r i t)
def Vals.append:∀{xs ys:List V}{us ws:List Value},Vals xs us->Vals ys ws->Vals (xs++ys) (us++ws):=by
 intro xs ys us ws h s
 induction h with
 |nil=>show s
 |cons r t ih=>show .cons r ih
def Vals.take:∀{xs:List V}{us:List Value} (n:Nat),Vals xs us->Vals (xs.take n) (us.take n)
 |_,_,0,_=>.nil
 |_,_,_+1,.nil=>.nil
 |_,_,n+1,.cons r t=>.cons r (Vals.take n t)
def Vals.drop:∀{xs:List V}{us:List Value} (n:Nat),Vals xs us->Vals (xs.drop n) (us.drop n)
 |_,_,0,r=>r
 |_,_,_+1,.nil=>.nil
 |_,_,n+1,.cons _ t=>Vals.drop n t
abbrev Yu:Option V->Option Value->Prop
 |!v,!u=>RelV v u
 |none,none=>True
 |_,_=>False
abbrev KV{κ:Type}:List (κ×V)->List (κ×Value)->Prop:=Paired λ(p:κ×V) (q:κ×Value)=>p.1=q.1/\RelV p.2 q.2
abbrev kV:Key->V
 |.inl i=>.int i
 |.inr x=>.str x
inductive HO where
 |lst (xs:List V)
 |tup (xs:List V)
 |dK (iN:List (Key×V)) |dT (iN:List (List Key×V))
 |set (S:Int->Bool) (n:Nat)
 |ins (C dx:Addr) (fs:List (Str×V))
 |own (x:Addr)
 |xd (fs:List (Str×V))
 |met (f x:Addr)
 |rng (lo hi:Int)
 |fT (o:Obj) (u:HO)
 |ni (ps:Array Value)
 |ext (φ:Heap->Prop)
def Hp:=Addr->Option HO
abbrev upd(H:Hp)(a:Addr)(o:HO):Hp:=λb=>if b=a then some o else H b
def aC:upd H a o a=!o:=by delta upd;rw[i7 rfl]
def az(h:b≠a):upd H a o b=H b:=by delta upd;rw[lL h]
def aK{H:Hp}{a b:Addr}{o:HO}(h:H a=!o)(h':H b=none):a≠b:=by intro e;subst e;rw[h]at h';cases h'
abbrev gj(h:Heap)(a:Addr)(aA:Array Value):Prop:=∃o,h.get? a=!o/\(o.cls=.type "tuple" /\∃n,o.data=.seq aA n)/\o.dict=none
def gj.tup{h:Heap}{a:Addr}{aA:Array Value}(x:gj h a aA):IsTup h a aA:=let #[o,e,c,_]:=x;#[o,e,c]
def gj.new(h:Heap)(aA:Array Value):gj (h.push { cls:=.type "tuple",data:=.seq aA}) h.objs.size aA:=#[_,eD _ rfl,#[rfl,_,rfl],rfl]
section
variable(P:Program)(w:World)
abbrev cX(H:Hp)(h:Heap)(a:Addr):HO->Prop
 |.lst xs=>xs.length<=sizeLine/\∃(aA:List Value) (n:Nat),Vals xs aA/\h.get? a=some { cls:=.type "list",data:=.seq aA.toArray n}
 |.tup xs=>xs.length<=sizeLine/\∃aA:List Value,Vals xs aA/\gj h a aA.toArray
 |.dK iN=>iN.length<=sizeLine/\(a==sysModules)=false/\∃vs,KV iN vs/\h.DictOf (g7 P w) a vs
 |.dT iN=>iN.length<=sizeLine/\(a==sysModules)=false/\∃xs:List (List Key×Addr×Value),
   Paired (λ(p:List Key×V) (q:List Key×Addr×Value)=>p.1=q.1/\H q.2.1=!(.tup (p.1.map kV))/\RelV p.2 q.2.2) iN xs/\
   ∃o es ep,h.get? a=!o/\o.ExactDict/\o.data=.dict es ep/\es.toList=xs.map (entryOfKey (tupleKind (g7 P w)))/\(xs.map (·.1)).Nodup
 |.set S n=>h.SetOf (intKind P w) a S n
 |.ins C dx fs=>H dx=!(.own a)/\fs.length<=1000/\dx≠a/\h.get? a=!(PySem.W.instObj C dx)/\
   ∃mA,h.Ns1 dx mA/\(∀f,Yu (fs.lookup f) (mA f))/\PySem.Within mA (fs.map (·.1))
 |.own _=>∃o,h.get? a=!o
 |.xd fs=>∃mA,h.Ns1 a mA/\∀f,Yu (fs.lookup f) (mA f)
 |.rng lo hi=>∃t u v,h.get? a=some { cls:=.type "range",data:=.fields ([.int lo t,.int hi u,.int 1 v].toArray)}
 |.fT o u=>h.get? a=!o/\cX H h a u
 |.ni ps=>h.get? a=some { cls:=.none,data:=.fields ps}
 |.met f x=>h.get? a=!(PySem.W.methodObj (.ref f) (.ref x))
 |.ext φ=>φ h/\(∃o,h.get? a=!o)/\∀h1 h2:Heap,φ h1->(∀o,h1.get? a=!o->h2.get? a=!o)->φ h2
abbrev lT(H:Hp)(h:Heap):Prop:=∀a o,H a=!o->cX P w H h a o
end
section
variable{P:Program}{w:World}{H H':Hp}{h h':Heap}{a:Addr}{o:HO}
def cX.lt(x:cX P w H h a o):a<h.objs.size:=by
 cases o with
 |lst xs=>let(_,_,_,_,e):=x;show eM e
 |tup xs=>let(_,_,_,_,e,_):=x;show eM e
 |dK iN=>let(_,_,_,_,o,_,_,e,_):=x;show eM e
 |dT iN=>let(_,_,_,_,o,_,_,e,_):=x;show eM e
 |set S n=>let(o,_,_,_,e,_):=x;show eM e
 |ins C dx fs=>let(_,_,_,e,_):=x;show eM e
 |own y=>let(_,e):=x;show eM e
 |xd fs=>let(_,(_,_,_,e,_),_):=x;show eM e
 |rng lo hi=>let(_,_,_,e):=x;show eM e
 |fT ob u=>let(e,_):=x;show eM e
 |ni ps=>show eM (show h.get? a=!_ from x)
 |met f y=>show eM (show h.get? a=!_ from x)
 |ext φ=>let(_,(_,e),_):=x;show eM e
def Paired.mapP{α β:Type}{F G:α->β->Prop}:∀{l₁:List α}{l₂:List β},Paired F l₁ l₂->(∀a b,F a b->G a b)->Paired G l₁ l₂:=by
 intro l₁ l₂ h f
 induction h with
 |nil=>show .nil
 |cons r t ih=>show .cons (f _ _ r) ih
def cX.stay(x:cX P w H h a o)(k:∀b u,(b=a\/H b=!(.own a))->h.get? b=!u->h'.get? b=!u)
  (ho:∀b,H b=!(.own a)->H' b=!(.own a)) (ht:∀b xs,H b=!(.tup xs)->H' b=!(.tup xs)):cX P w H' h' a o:=by
 induction o with
 |lst xs=>let(z,aA,n,r,e):=x;show#[z,aA,n,r,k _ _ (.inl rfl) e]
 |tup xs=>let(z,aA,r,ob,e,c):=x;show#[z,aA,r,ob,k _ _ (.inl rfl) e,c]
 |dK iN=>let(z,y,vs,r,ob,es,ep,e,c):=x;show#[z,y,vs,r,ob,es,ep,k _ _ (.inl rfl) e,c]
 |dT iN=>let(z,y,xs,r,ob,es,ep,e,c):=x;show#[z,y,xs,Paired.mapP r λp q z=>#[z.1,ht _ _ z.2.1,z.2.2],ob,es,ep,k _ _ (.inl rfl) e,c]
 |set S n=>let(ob,es,ep,t,e,c):=x;show#[ob,es,ep,t,k _ _ (.inl rfl) e,c]
 |ins C dx fs=>let(d,z,ne,e,mA,(od,es,ep,e2,c),r):=x;show#[ho _ d,z,ne,k _ _ (.inl rfl) e,mA,#[od,es,ep,k _ _ (.inr d) e2,c],r]
 |own y=>let(ob,e):=x;show#[ob,k _ _ (.inl rfl) e]
 |xd fs=>let(mA,(od,es,ep,e,c),r):=x;show#[mA,#[od,es,ep,k _ _ (.inl rfl) e,c],r]
 |rng lo hi=>let(t,u,v,e):=x;show#[t,u,v,k _ _ (.inl rfl) e]
 |fT ob u ih=>let(e,q):=x;show#[k _ _ (.inl rfl) e,ih q]
 |ni ps=>have e:=x;show k a _ (.inl rfl) e
 |met f y=>have e:=x;show k a _ (.inl rfl) e
 |ext φ=>let(p,(o,e),st):=x;show#[st _ _ p λo q=>k _ _ (.inl rfl) q,#[o,k _ _ (.inl rfl) e],st]
def lT.lt(x:lT P w H h)(e:H a=!o):a<h.objs.size:=(x a o e).lt
def lT.fresh(x:lT P w H h)(e:h.objs.size<=a):H a=none:=by
 cases q:H a with
 |none=>rfl
 |some u=>show absurd (fA (x.lt q) e) (nK _)
def lT.kept(x:lT P w H h)(k:∀b u,h.get? b=!u->h'.get? b=!u):lT P w H h':=λa o e=>
 (x a o e).stay (λb u _ q=>k b u q) (λ_ q=>q) λ_ _ q=>q
def lT.laid(x:lT P w H h)(k:∀b u,h.get? b=!u->h'.get? b=!u)(hp:h.objs.size<=a)(new:cX P w (upd H a o) h' a o):lT P w (upd H a o) h':=λb u e=>by
 have hn:=x.fresh hp;by_cases hb:b=a
 . subst hb;rw[aC]at e;cases e;show new
 . rw[az hb]at e;show (x b u e).stay (λc v _ q=>k c v q) (λc q=>by rw[az (aK q hn)];show q) λc xs q=>by rw[az (aK q hn)];show q
end
abbrev Rd(H:Hp)(a:Addr)(u:HO):Prop:=H a=!u\/∃o,H a=!(.fT o u)
def Rd.ok{P:Program}{w:World}{H:Hp}{h:Heap}{a:Addr}{u:HO}(r:Rd H a u)(x:lT P w H h):cX P w H h a u:=by
 rcases r with r |⟨o,r⟩
 . show x a u r
 . let(_,q):=x a _ r;show q
abbrev Mut:Option HO->Prop
 |!(.lst _)=>True
 |!(.dK _)=>True
 |!(.dT _)=>True
 |!(.set _ _)=>True
 |!(.ins _ _ _)=>True
 |!(.ext _)=>True
 |_=>False
section
variable{P:Program}{w:World}{H:Hp}{h h':Heap}{x e:Addr}{o':HO}
def lT.write(ok:lT P w H h)(mu:Mut (H x))(he:e=x\/H e=!(.own x))(k:∀b u,b≠e->h.get? b=!u->h'.get? b=!u)(XQ:∃u,h'.get? e=!u)
  (new:cX P w (upd H x o') h' x o'):lT P w (upd H x o') h':=λb u q=>by
 have Yv:∀c y,H c=!(.own y)->c≠x:=λc y r z=>by subst z;rw[r]at mu;show mu
 have ntup:∀c xs,H c=!(.tup xs)->c≠x:=λc xs r z=>by subst z;rw[r]at mu;show mu
 by_cases hb:b=x
 . subst hb;rw[aC]at q;cases q;show new
 .
  rw[az hb]at q;by_cases R0:b=e
  .
   have q':H b=!(.own x):=by
    rcases he with z |z
    . show absurd (R0.trans z) hb
    . rw[R0];show z
   rw[q]at q';cases q';let(v,hv):=XQ;show#[v,by rw[R0];show hv]
  .
   apply (ok b u q).stay (λc v hc r=>k c v ?_ r) (λc r=>by rw[az (Yv c b r)];show r) λc xs r=>by rw[az (ntup c xs r)];show r
   rcases hc with rfl |hc
   . show R0
   .
    rintro rfl;rcases he with z |z
    . show Yv c b hc z
    . rw[hc]at z;cases z;show hb rfl
end
structure Un(fs ex:List Addr)(H H':Hp)(h h':Heap):Prop where
 keep:∀b o,h.get? b=!o->H b=none->b∉fs->b∉ex->h'.get? b=!o
 slot:∀b o,h.get? b=!o->H b=none->b∈fs->b∉ex->∃sl,h'.get? b=some { o with slots:=sl}
 free:∀b o,h.get? b=!o->H b=none->b∉ex->H' b=none
 there:∀b o,h.get? b=!o->b∉ex->∃o',h'.get? b=!o'
 tups:∀b xs,H b=!(.tup xs)->H' b=!(.tup xs)
 kG:∀b o u,H b=!(.fT o u)->H' b=!(.fT o u)
 kI:∀b ps,H b=!(.ni ps)->∃more,H' b=!(.ni (ps++more))
section
variable{fs fs' ex ex':List Addr}{H H1 H2:Hp}{h h1 h2 h':Heap}{a x e:Addr}{o:HO}
def Un.any(u:Un fs ex H H1 h h1){b:Addr}{ob:Obj}(q:h.get? b=!ob)(n:H b=none)(hx:b∉ex):∃sl,h1.get? b=some { ob with slots:=sl}:=by
 by_cases hb:b∈fs
 . show u.slot b ob q n hb hx
 . show#[ob.slots,u.keep b ob q n hb hx]
def Un.kept(k:∀b u,h.get? b=!u->h'.get? b=!u):Un fs ex H H h h':=
 #[λb ob q _ _ _=>k b ob q,λb ob q _ _ _=>#[ob.slots,k b ob q],λ_ _ _ n _=>n,λb ob q _=>#[ob,k b ob q],λ_ _ q=>q,λ_ _ _ q=>q,λ_ ps q=>#[([].toArray),by rw[q];simp]]
def Un.refl:Un fs ex H H h h:=Un.kept λ_ _ q=>q
def Un.laid(k:∀b u,h.get? b=!u->h'.get? b=!u)(hp:h.objs.size<=a)(hn:H a=none):Un fs ex H (upd H a o) h h' where
 keep:=λb u q _ _ _=>k b u q
 slot:=λb u q _ _ _=>#[u.slots,k b u q]
 free:=λb u q n _=>by rw[az (kS (fA (eM q) hp))];show n
 there:=λb u q _=>#[u,k b u q]
 tups:=λb xs q=>by rw[az (aK q hn)];show q
 kG:=λb u xs q=>by rw[az (aK q hn)];show q
 kI:=λb ps q=>#[([].toArray),by rw[az (aK q hn),q];simp]
def Un.write(mu:Mut (H x))(he:e=x\/H e=!(.own x))(k:∀b u,b≠e->h.get? b=!u->h'.get? b=!u)(XQ:∃u,h'.get? e=!u):Un fs ex H (upd H x o) h h':=by
 have hx:∀b,H b=none->b≠x:=λb n z=>by subst z;rw[n]at mu;show mu
 have hb:∀b,H b=none->b≠e:=λb n z=>by
  subst z;rcases he with r |r
  . show hx b n r
  . rw[n]at r;cases r
 have hm:∀b u,H b=!u->¬ Mut (!u)->b≠x:=λb u q nm z=>by subst z;rw[q]at mu;show nm mu
 apply#[λb u q n _ _=>k b u (hb b n) q,λb u q n _ _=>#[u.slots,k b u (hb b n) q],λb u q n _=>by rw[az (hx b n)];show n,λb u q _=>?_,
  λb xs q=>by rw[az (hm b _ q λz=>z)];show q,λb u xs q=>by rw[az (hm b _ q λz=>z)];show q,λb ps q=>#[([].toArray),by rw[az (hm b _ q λz=>z),q];simp]]
 by_cases R0:b=e
 . subst R0;show XQ
 . show#[u,k b u R0 q]
end
abbrev trk(h:Heap)(H:Hp):List Addr:=(List.range h.objs.size).filter λa=>(H a).isSome
abbrev tR(h:Heap)(H:Hp):Heap:=PySem.W.hideAll h (trk h H)
def Dc(h:Heap)(H:Hp):(tR h H).objs.size=h.objs.size:=PySem.W.hideAll_size _ _
def Gz(e:h.get? b=!o)(n:H b=none):(tR h H).get? b=!o:=
 PySem.W.hideAll_get _ e λhm=>by
  have q:=(i5.mp hm).2;rw[n]at q;simp at q
def Mi(e:(tR h H).get? b=!o):h.get? b=!o/\H b=none:=by
 have e':=PySem.W.of_hideAll (trk h H) e;apply#[e',?_];cases q:H b with
 |none=>rfl
 |some x=>
  have hm:b∈trk h H:=i5.mpr #[t9.mpr (eM e'),by simp[q]]
  have z:(tR h H).get? b=none:=PySem.W.hideAll_none (trk h H) hm;rw[z]at e;cases e
abbrev Mj(g h:Heap)(L:Addr): ~~~1:=(List.range h.objs.size).filterMap λa=>if a=L\/(g.get? a).isSome=true then none else (h.get? a).map λo=>(a,o)
abbrev rest(g h:Heap)(L d:Addr): ~~~1:=(Mj g h L).filter λp=>decide (p.1≠d)
structure Mod(K:Frag)(mg:Str->Option Value)(base:Heap):Prop where
 Gj:K.In base
 glob:base.Ns mainGlobals mg
 blt:∃mb,base.Ns builtinsNs mb/\∀x:Str,x≠ "__name__" ->mb x=bootBuiltins x
 nolimit:base.NoLimit
structure Cx where
 prog:Program
 w:World
 K:Frag
 mg:Str->Option Value
 base:Heap
 A:Around
 N:List Str
 s₀:Shared
 H₀:Hp
 env:Env
 outer:List Env
 stack:List Env
 ex:List Addr
 fn:Str->Bool
 calm:Bool
 pn:List (Addr×Obj)
 xe:Value->Shared->Prop
abbrev frs(l:List Env):List Addr:=l.filterMap (·.frame)
meta abbrev Cx.fs(X:Cx):List Addr:=frs X.outer
abbrev iR(sc:Scope)(x:Str):Prop:=sc.names.lookup x=some .local\/sc.names.lookup x=some .cell\/sc.names.lookup x=some .free
abbrev Loc(sc:Scope)(x:Str):Prop:=sc.names.lookup x=some .local\/sc.names.lookup x=some .cell
abbrev Look(env:Env)(h:Heap)(m:Str->Option Value)(x:Str)(u:Value):Prop:=
 (env.kindOf x=some .local/\m x=!u)\/((env.kindOf x=some .cell\/env.kindOf x=some .free)/\∃c,env.cells.lookup x=!c/\h.IsCell c (!u))
structure Cx.Ok(X:Cx):Prop where
 mod:Mod X.K X.mg X.base
 kind:X.env.scope.kind=.function
 glob:X.env.globals=mainGlobals
 blt:X.env.builtins=builtinsNs
 above:X.s₀⁻¹<=X.env.locals
 inj:∀x y c,X.env.cells.lookup x=!c->X.env.cells.lookup y=!c->x=y
 has:∀x,(X.env.kindOf x=some .cell\/X.env.kindOf x=some .free)->∃c,X.env.cells.lookup x=!c
 R5:∀x c,X.fn x=true->X.env.cells.lookup x=!c->X.s₀⁻¹<=c
 hd:X.calm=true->X.A.handled=none
 frames:X.A.frames=!X.stack
 stk:X.stack=X.outer\/(X.stack=X.env::X.outer/\X.env.frame=!X.env.locals)
 XR:∀b∈X.ex,b≠X.env.locals/\∀x c,X.env.cells.lookup x=!c->c≠b
 bs:∀b o,X.base.get? b=!o->X.s₀.heap.get? b=!o/\X.H₀ b=none
 GC:X.base.objs.size<=X.s₀⁻¹
 vR:∀b o,X.base.get? b=!o->b∉X.ex
 yJ:∀b∈X.ex,b∉X.fs
 kJ:X.s₀.heap.FunFrames X.base X.outer
 Ml:∀b∈X.fs,X.H₀ b=none
structure Inv(X:Cx)(aj: ~~~1)(σ:List (Option V))(H:Hp)(s:Shared):Prop where
 ok:X.Ok
 os:s.os=X.s₀.os
 bare:AllBare s.gens
 base:Un X.fs X.ex X.H₀ H X.s₀.heap s.heap
 loc:∃m,s.heap.Ns X.env.locals m/\∀(i:Nat) (x:Str) (v:V),X.N[i]?=!x->σ[i]?=!(!v)->iR X.env.scope x->∃u,RelV v u/\Look X.env s.heap m x u
 cell:∀x c,X.env.cells.lookup x=!c->∃v,s.heap.IsCell c v
 free:H X.env.locals=none
 d9:∀x c,X.env.cells.lookup x=!c->H c=none
 pin:∀p∈X.pn++aj,s.heap.get? p.1=!p.2/\H p.1=none/\p.1≠X.env.locals/\p.1∉X.fs/\∀v,p.2.data≠.cell v
 hok:lT X.prog X.w H s.heap
 len:σ.length=X.N.length
section
variable{X:Cx}{aj: ~~~1}{σ:List (Option V)}{H H':Hp}{s:Shared}{h':Heap}
def Cx.Ok.nofr(ok:X.Ok)(e:X.base.get? b=!o):b∉X.fs:=λhb=>by
 have:=(ok.kJ.mem hb).1;rw[e]at this;cases this
def Inv.bs(I: ~~~7):∀b o,X.base.get? b=!o->s.heap.get? b=!o/\H b=none:=λb o e=>
 #[I.base.keep b o (I.ok.bs b o e).1 (I.ok.bs b o e).2 (I.ok.nofr e) (I.ok.vR b o e),I.base.free b o (I.ok.bs b o e).1 (I.ok.bs b o e).2 (I.ok.vR b o e)]
def Inv.bk(I: ~~~7):∀b o,X.base.get? b=!o->s.heap.get? b=!o:=λb o e=>(I.bs b o e).1
def Inv.mod(I: ~~~7):Mod X.K X.mg X.base:=I.ok.mod
def Inv.nj(I: ~~~7):X.K.In s.heap:=I.ok.mod.Gj.keeps I.bk
def Inv.nolimit(I: ~~~7):s.heap.NoLimit:=I.ok.mod.nolimit.keeps I.bk
def Inv.lt(I: ~~~7):X.env.locals<s⁻¹:=let #[_,hn,_]:=I.loc;hn.lt
def Inv.sz(I: ~~~7):X.s₀⁻¹<=s⁻¹:=i9 I.ok.above (DD I.lt)
def Inv.nofs(I: ~~~7)(h:s⁻¹<=a):a∉X.fs:=λhb=>by
 let(_,o,ho,_):=I.ok.kJ.mem hb;show absurd (fA (eM ho) (i9 I.sz h)) (nK _)
def Inv.R8(I: ~~~7):∀x c,X.env.cells.lookup x=!c->c≠X.env.locals:=λx c e z=>by
 let(v,o,ho,hd):=I.cell x c e;let(m,(o',es,ep,ho',hd',_),_):=I.loc;rw[z,ho']at ho;cases ho;rw[hd']at hd;cases hd
def Inv.kJ(I: ~~~7):s.heap.FunFrames X.base X.outer:=by
 have all:∀(l:List Env),(∀b∈frs l,b∈X.fs)->X.s₀.heap.FunFrames X.base l->s.heap.FunFrames X.base l:=by
  intro l
  induction l with
  |nil=>intro _ _;trivial
  |cons env r ih=>
   intro hs hl;let(hk,(L,o,hf,hn,ho,hd),hr):=hl;have hL:=hs L (by delta frs;rw[t5,hf];show dC)
   let(sl,e):=I.base.slot L o ho (I.ok.Ml L hL) hL λz=>I.ok.yJ L z hL
   show#[hk,#[L,_,hf,hn,e,hd],ih (λb hb=>hs b (by delta frs;rw[t5,hf];show bP _ hb)) hr]
 show all X.outer (λ_ hb=>hb) I.ok.kJ
def Inv.stack(I: ~~~7):s.heap.FunFrames X.base X.stack:=by
 rcases I.ok.stk with e |⟨e,hf⟩
 . rw[e];show I.kJ
 .
  rw[e];let(m,hn,_):=I.loc;apply .cons (by rw[I.ok.kind];decide) hf hn ?_ I.kJ
  show Heap.get?_none_of_le (i9 I.ok.GC I.ok.above)
def Inv.yK(I: ~~~7):∀b∈frs X.stack,b∈X.env.locals::X.fs:=λb hb=>by
 rcases I.ok.stk with e |⟨e,hf⟩
 . rw[e]at hb;show bP _ hb
 . rw[e]at hb;delta frs at hb;rw[t5,hf]at hb;show hb
def Inv.tT(I: ~~~7):∀b∈frs X.stack,H b=none:=λb hb=>by
 rcases dS.mp (I.yK b hb)with e |hb
 . rw[e];show I.free
 . let(_,o,ho,_):=I.ok.kJ.mem hb;show I.base.free b o ho (I.ok.Ml b hb) λz=>I.ok.yJ b z hb
def Inv.step{g':Array GenState}{t':Nat}{d':Drawn}{ch:List Addr}(I: ~~~7)
  (hch:∀b∈ch,(b∈X.ex\/X.s₀⁻¹<=b)/\b≠X.env.locals/\(∀x c,X.env.cells.lookup x=!c->c≠b)/\∀p∈X.pn++aj,p.1≠b)
  (keep:∀b o,b≠X.env.locals->b∉X.fs->b∉ch->s.heap.get? b=!o->H b=none->h'.get? b=!o)
  (slot:∀b o,b≠X.env.locals->b∈X.fs->b∉ch->s.heap.get? b=!o->H b=none->∃sl,h'.get? b=some { o with slots:=sl}) (free:∀b o,b∉ch->s.heap.get? b=!o->H b=none->H' b=none)
  (there:∀b o,b∉ch->s.heap.get? b=!o->∃o',h'.get? b=!o')
  (tups:∀b xs,H b=!(.tup xs)->H' b=!(.tup xs)) (kG:∀b o u,H b=!(.fT o u)->H' b=!(.fT o u)) (kI:∀b ps,H b=!(.ni ps)->∃more,H' b=!(.ni (ps++more)))
  (ns:∀m,s.heap.Ns X.env.locals m->h'.Ns X.env.locals m) (hok:lT X.prog X.w H' h') (hg:AllBare g') :
  Inv X aj σ H' { s with heap:=h',gens:=g',drawn:=d',toks:=t'}:=by
 have neL:∀b o,X.s₀.heap.get? b=!o->b≠X.env.locals:=λb o e=>kS (fA (eM e) I.ok.above)
 have neC:∀b o,X.s₀.heap.get? b=!o->b∉X.ex->b∉ch:=λb o e hx hb=>by
  rcases (hch b hb).1 with z |z
  . show hx z
  . show absurd (fA (eM e) z) (nK _)
 have cellK:∀x c,X.env.cells.lookup x=!c->∀v,s.heap.IsCell c v->h'.IsCell c v:=by
  rintro x c e v ⟨o,ho,hd⟩;have Yw:c∉ch:=λz=>(hch c z).2.2.1 x c e rfl
  by_cases hc:c∈X.fs
  . let(sl,q):=slot c o (I.R8 x c e) hc Yw ho (I.d9 x c e);show#[_,q,hd]
  . show#[o,keep c o (I.R8 x c e) hc Yw ho (I.d9 x c e),hd]
 apply#[I.ok,I.os,hg,#[λb o e n hb hx=>?_,λb o e n hb hx=>?_,λb o e n hx=>?_,λb o e hx=>?_,λb xs e=>tups b xs (I.base.tups b xs e),λb o xs e=>kG b o xs (I.base.kG b o xs e),λb ps e=>?_],?_,λx c e=>?_,?_,λx c e=>?_,λp hp=>?_,hok,I.len]
 . show keep b o (neL b o e) hb (neC b o e hx) (I.base.keep b o e n hb hx) (I.base.free b o e n hx)
 . let(sl,e1):=I.base.slot b o e n hb hx;let(sl',e2):=slot b _ (neL b o e) hb (neC b o e hx) e1 (I.base.free b o e n hx);show#[sl',e2]
 . let(o',e1):=I.base.there b o e hx;show free b o' (neC b o e hx) e1 (I.base.free b o e n hx)
 . let(o',e1):=I.base.there b o e hx;show there b o' (neC b o e hx) e1
 . let(m1,e1):=I.base.kI b ps e;let(m2,e2):=kI b _ e1;show#[m1++m2,by rw[e2,Array.append_assoc]]
 .
  let(m,hn,hl):=I.loc;apply#[m,ns m hn,λi x v e1 e2 e3=>?_]
  let(u,r,l):=hl i x v e1 e2 e3;apply#[u,r,?_];rcases l with l |⟨k,c,e,z⟩
  . show .inl l
  . show .inr #[k,c,e,cellK x c e _ z]
 . let(v,z):=I.cell x c e;show#[v,cellK x c e v z]
 . let(m,(o,_,_,ho,_),_):=I.loc;show free _ o (λz=>(hch _ z).2.1 rfl) ho I.free
 . let(v,o,ho,hd):=I.cell x c e;show free c o (λz=>(hch c z).2.2.1 x c e rfl) ho (I.d9 x c e)
 .
  let(e,n,ne,nf,d):=I.pin p hp;have Yw:p.1∉ch:=λz=>(hch p.1 z).2.2.2 p hp rfl
  show#[keep p.1 p.2 ne nf Yw e n,free p.1 p.2 Yw e n,ne,nf,d]
def Inv.un{t':Nat}(I: ~~~7)(u:Un X.fs [] H H' s.heap h')(hok:lT X.prog X.w H' h'):Inv X aj σ H' { s with heap:=h',toks:=t'}:=by
 let(m,(o,es,ep,ho,r),_):=id I.loc;let(sl,hL):=u.any ho I.free ⋯;show I.step (ch:=[]) (λ_ z=>nomatch z) (λb o _ hb _ e n=>u.keep b o e n hb ⋯) (λb o _ hb _ e n=>u.slot b o e n hb ⋯) (λb o _ e n=>u.free b o e n ⋯) (λb o _ e=>u.there b o e ⋯) u.tups u.kG u.kI (λm' hm=>by
  let(o',es',Mm,ho',r'):=hm;rw[ho]at ho';cases ho';show#[_,es',Mm,hL,r']) hok I.bare
def Inv.call{g':Array GenState}{t':Nat}{d':Drawn}{ch:List Addr}(I: ~~~7)(u:Un (frs X.stack) ch H H' s.heap h')(hok:lT X.prog X.w H' h')(hg:AllBare g')
  (hch:∀b∈ch,(b∈X.ex\/X.s₀⁻¹<=b)/\b≠X.env.locals/\(∀x c,X.env.cells.lookup x=!c->c≠b)/\∀p∈X.pn++aj,p.1≠b) :
  Inv X aj σ H' { s with heap:=h',gens:=g',drawn:=d',toks:=t'}:=by
 let(m,(o,es,ep,ho,r),_):=id I.loc;let(sl,hL):=u.any ho I.free λz=>(hch _ z).2.1 rfl
 show I.step hch (λb o hL hb hc e n=>u.keep b o e n (λz=>(dS.mp (I.yK b z)).elim hL hb) hc) (λb o _ _ hc e n=>u.any e n hc) (λb o hc e n=>u.free b o e n hc) (λb o hc e=>u.there b o e hc) u.tups u.kG u.kI (λm' hm=>by
  let(o',es',Mm,ho',r'):=hm;rw[ho]at ho';cases ho';show#[_,es',Mm,hL,r']) hok hg
def Inv.turned{t':Nat}{it:Addr}(I: ~~~7)(k:∀b o,b≠it->s.heap.get? b=!o->h'.get? b=!o)(hn:H it=none)(hL:it≠X.env.locals)
  (h1:it∈X.ex\/X.s₀⁻¹<=it) (h2:∀x c,X.env.cells.lookup x=!c->c≠it) (h3:∀p∈X.pn++aj,p.1≠it):Inv X aj σ H { s with heap:=h',toks:=t'}:=by
 have nit:∀b u,H b=!u->b≠it:=λb u e z=>by rw[z,hn]at e;cases e
 apply I.step (ch:=[it]) (λb hb=>?_) (λb o _ _ hc e _=>k b o (λz=>hc (by simp[z])) e) (λb o _ _ hc e _=>#[o.slots,k b o (λz=>hc (by simp[z])) e]) (λ_ _ _ _ n=>n)
  (λb o hc e=>#[o,k b o (λz=>hc (by simp[z])) e]) (λ_ _ e=>e) (λ_ _ _ e=>e) (λb ps e=>#[([].toArray),by rw[e];simp]) (λm hm=>?_) (λb u e=>?_) I.bare
 .
  have e:b=it:=by simpa using hb
  subst e;show#[h1,hL,h2,h3]
 . let(o,es,ep,ho,r):=hm;show#[o,es,ep,k _ o (mM hL) ho,r]
 .
  apply (I.hok b u e).stay (λc v hc q=>k c v ?_ q) (λ_ q=>q) λ_ _ q=>q
  rcases hc with z |z
  . rw[z];show nit b u e
  . show nit c _ z
def Inv.tok(I: ~~~7)(t:Nat):Inv X aj σ H { s with toks:=t}:=I.un Un.refl I.hok
def Inv.kept{t':Nat}(I: ~~~7)(k:∀b u,s.heap.get? b=!u->h'.get? b=!u):Inv X aj σ H { s with heap:=h',toks:=t'}:=I.un (Un.kept k) (I.hok.kept k)
def Inv.laid{a:Addr}{o:HO}{t':Nat}(I: ~~~7)(k:∀b u,s.heap.get? b=!u->h'.get? b=!u)(hp:s⁻¹<=a)(new:cX X.prog X.w (upd H a o) h' a o) :
  Inv X aj σ (upd H a o) { s with heap:=h',toks:=t'}:=I.un (Un.laid k hp (I.hok.fresh hp)) (I.hok.laid k hp new)
def Inv.write(I: ~~~7)(mu:Mut (H x))(he:e=x\/H e=!(.own x))(k:∀b u,b≠e->s.heap.get? b=!u->h'.get? b=!u)(XQ:∃u,h'.get? e=!u)
  (new:cX X.prog X.w (upd H x o) h' x o):Inv X aj σ (upd H x o) { s with heap:=h',toks:=t'}:=I.un (Un.write mu he k XQ) (I.hok.write mu he k XQ new)
def Inv.Ax(I: ~~~7)(h:∀p∈Yx,s.heap.get? p.1=!p.2/\H p.1=none/\p.1≠X.env.locals/\p.1∉X.fs/\∀v,p.2.data≠.cell v):Inv X Yx σ H s:=
 #[I.ok,I.os,I.bare,I.base,I.loc,I.cell,I.free,I.d9,λp hp=>(tP.mp hp).elim (λz=>I.pin p (y0 _ z)) (h p),I.hok,I.len]
def oZ{N:List Str}(hN:N.Nodup){i j:Nat}{x:Str}(a:N[i]?=!x)(b:N[j]?=!x):i=j:=by let(h1,e1):=dE.mp a;let(h2,e2):=dE.mp b;show (List.getElem_inj hN).mp (e1.trans e2.symm)
def lU{M:Model}{A:Around}{E:Value->Shared->Prop}{i:Nat}{x:Str}{v:V}{u:Value}{Q:Unit->Shared->Prop}(I: ~~~7)(hN:X.N.Nodup)(hi:X.N[i]?=!x)(hx:Loc X.env.scope x)(r:RelV v u)
  (h:∀s',Inv X aj (σ.set i (!v)) H s'->(∃a,Heap.SameBut a s.heap s'.heap/\(a=X.env.locals\/X.env.cells.lookup x=!a))->Q () s') (hf:X.fn x=true\/X.env.scope.names.lookup x=some .local:=by first |show .inl rfl |show .inr rfl |assumption):wpAny M A (storeName X.env x u) Q E s:=by
 let(m,hn,hl):=id I.loc;have hcls:(X.env.scope.kind==.class||(X.env.scope.kind==.module&&X.env.locals != X.env.globals))=false:=by rw[I.ok.kind];rfl
 have Yy:i<σ.length:=by rw[I.len];show (dE.mp hi).1
 have R8:=I.R8;have tracked:∀{a:Addr}{h':Heap},(∃o,s.heap.get? a=!o/\H a=none)->Heap.SameBut a s.heap h'->lT X.prog X.w H h':=λ{a h'} ha hs b ob e=>by
  let(_,_,hfree):=ha;apply (I.hok b ob e).stay (λc w' hc q=>(hs.2 c ?_).trans q) (λ_ q=>q) λ_ _ q=>q
  rintro rfl;rcases hc with rfl |hc
  . rw[hfree]at e;cases e
  . rw[hfree]at hc;cases hc
 rcases hx with hk |hk
 .
  apply wpAny_storeName_local hk hn (λh' hn' hs=>?_) hcls
  let(oL,_,_,hoL,_):=id hn;apply h _ #[I.ok,I.os,I.bare,#[λb o e n hb hx=>?_,λb o e n hb hx=>?_,I.base.free,λb o e hx=>?_,I.base.tups,I.base.kG,I.base.kI],#[_,hn',λj y v' e1 e2 e3=>?_],λy c e=>?_,I.free,I.d9,λp hp=>?_,tracked #[oL,hoL,I.free] hs,by simpa using I.len] #[_,hs,.inl rfl]
  . show (hs.2 b (kS (fA (eM e) I.ok.above))).trans (I.base.keep b o e n hb hx)
  . let(sl,e1):=I.base.slot b o e n hb hx;show#[sl,(hs.2 b (kS (fA (eM e) I.ok.above))).trans e1]
  . let(o',e1):=I.base.there b o e hx;show#[o',(hs.2 b (kS (fA (eM e) I.ok.above))).trans e1]
  .
   by_cases hj:j=i
   . subst hj;rw[hi]at e1;cases e1;rw[fI Yy]at e2;cases e2;show#[u,r,.inl #[hk,by simp]]
   .
    rw[eR (mM hj)]at e2;let(u',r',q):=hl j y v' e1 e2 e3;apply#[u',r',?_];rcases q with ⟨k,e⟩ |⟨k,c,e,z⟩
    .
     apply .inl #[k,?_];have:y≠x:=λe=>hj (oZ hN e1 (e▸hi))
     simp[this,e]
    . show .inr #[k,c,e,z.sameBut hs (R8 y c e)]
  . let(w',z):=I.cell y c e;show#[w',z.sameBut hs (R8 y c e)]
  . let(e,n,ne,nf,d):=I.pin p hp;show#[(hs.2 p.1 ne).trans e,n,ne,nf,d]
 .
  have hfn:X.fn x=true:=by
   rcases hf with z |z
   . show z
   . rw[z]at hk;cases hk
  let(c,hc):=I.ok.has x (.inl hk);let(w',z):=I.cell x c hc;apply wpAny_storeName_cell I.ok.kind hk hc z (λh' hc' hs=>?_)
  let(oc,hoc,hocd):=id z;apply h { s with heap:=h'} ⟨I.ok,I.os,I.bare,⟨λb o e n hb hx=>?_,λb o e n hb hx=>?_,I.base.free,λb o e hx=>?_,I.base.tups,I.base.kG,I.base.kI⟩,⟨m,hn.sameBut hs (mM (R8 x c hc)),λj y v' e1 e2 e3=>?_⟩,λy c' e=>?_,I.free,I.d9,λp hp=>?_,tracked ⟨oc,hoc,I.d9 x c hc⟩ hs,by simpa using I.len⟩ ⟨c,hs,.inr hc⟩
  . show (hs.2 b (kS (fA (eM e) (I.ok.R5 x c hfn hc)))).trans (I.base.keep b o e n hb hx)
  . let(sl,e1):=I.base.slot b o e n hb hx;show#[sl,(hs.2 b (kS (fA (eM e) (I.ok.R5 x c hfn hc)))).trans e1]
  . let(o',e1):=I.base.there b o e hx;show#[o',(hs.2 b (kS (fA (eM e) (I.ok.R5 x c hfn hc)))).trans e1]
  .
   by_cases hj:j=i
   . subst hj;rw[hi]at e1;cases e1;rw[fI Yy]at e2;cases e2;show#[u,r,.inr #[.inl hk,c,hc,hc']]
   .
    rw[eR (mM hj)]at e2;let(u',r',q):=hl j y v' e1 e2 e3;apply#[u',r',?_];rcases q with q |⟨k,c',e,z'⟩
    . show .inl q
    . apply .inr #[k,c',e,z'.sameBut hs ?_];rintro rfl;show hj (oZ hN e1 (I.ok.inj _ _ _ e hc▸hi))
  .
   by_cases hcc:c'=c
   . subst hcc;show#[_,hc']
   . let(w2,z2):=I.cell y c' e;show#[w2,z2.sameBut hs hcc]
  . let(e,n,ne,nf,d):=I.pin p hp;apply#[(hs.2 p.1 ?_).trans e,n,ne,nf,d];intro q;rw[q,hoc]at e;have q':=o6 e;show d w' (by rw[<- q'];show hocd)
def o7{M:Model}{A:Around}{E:Value->Shared->Prop}{i:Nat}{x:Str}{v:V}{u:Value}{Q:Unit->Shared->Prop}(I: ~~~7)(hN:X.N.Nodup)(hi:X.N[i]?=!x)(hx:Loc X.env.scope x)(r:RelV v u)
  (h:∀s',Inv X aj (σ.set i (!v)) H s'->Q () s') (hf:X.fn x=true\/X.env.scope.names.lookup x=some .local:=by first |show .inl rfl |show .inr rfl |assumption):wpAny M A (storeName X.env x u) Q E s:=
 lU I hN hi hx r (λs' I' _=>h s' I') hf
def Inv.call'(I: ~~~7)(ho:s'.os=s.os)(u:Un (frs X.stack) ch H H' s.heap s'.heap)(hok:lT X.prog X.w H' s'.heap)(hg:AllBare s'.gens)
  (hch:∀b∈ch,(b∈X.ex\/X.s₀⁻¹<=b)/\b≠X.env.locals/\(∀x c,X.env.cells.lookup x=!c->c≠b)/\∀p∈X.pn++aj,p.1≠b):Inv X aj σ H' s':=by
 let(h',g',d',t',o'):=s';have e:=ho;subst e;show I.call u hok hg hch
end
def XK:=Value->Option Addr->Hp->Prop
def St:=List (Option V)
def VK:=V->Hp->Prop
def TE:=St->Hp->VK->Prop
def TT:=St->Hp->(Bool->Hp->Prop)->Prop
def TA:=St->Hp->(List V->Hp->Prop)->Prop
structure Ends where
 nx:St->Hp->Prop
 rt:VK
 bk:St->Hp->Prop:=λ_ _=>False
 ct:St->Hp->Prop:=λ_ _=>False
def TS:=Ends->St->Hp->Prop
abbrev EP(X:Cx)(aj: ~~~1)(σ:St)(Q:VK)(u:Value)(s':Shared):Prop:=∃v H',Inv X aj σ H' s'/\RelV v u/\Q v H'
abbrev TP(X:Cx)(aj: ~~~1)(σ:St)(Q:Bool->Hp->Prop)(b:Bool)(s':Shared):Prop:=∃H',Inv X aj σ H' s'/\Q b H'
abbrev AP(X:Cx)(aj: ~~~1)(σ:St)(Q:List V->Hp->Prop)(us:List Value)(s':Shared):Prop:=∃vs H',Inv X aj σ H' s'/\Vals vs us/\Q vs H'
abbrev SP(X:Cx)(aj: ~~~1)(D:Ends)(f:Flow)(s':Shared):Prop:=
 match f with
 |.next=>∃σ' H',Inv X aj σ' H' s'/\D.nx σ' H'
 |.brk=>∃σ' H',Inv X aj σ' H' s'/\D.bk σ' H'
 |.cont=>∃σ' H',Inv X aj σ' H' s'/\D.ct σ' H'
 |.ret u=>∃v σ' H',Inv X aj σ' H' s'/\RelV v u/\D.rt v H'
abbrev PE(X:Cx)(e:Expr)(t:TE):Prop:=
 ∀(aj: ~~~1) (s:Shared) (σ:St) (H:Hp) (Q:VK),Inv X aj σ H s->t σ H Q->wpAny (~~~2) X.A (eval e X.env) (EP X aj σ Q) X.xe s
abbrev PT(X:Cx)(e:Expr)(t:TT):Prop:=
 ∀(aj: ~~~1) (s:Shared) (σ:St) (H:Hp) (Q:Bool->Hp->Prop),Inv X aj σ H s->t σ H Q->wpAny (~~~2) X.A (isTrue e X.env (eval e X.env)) (TP X aj σ Q) X.xe s
abbrev PW(X:Cx)(e:Expr)(t:TT):Prop:=
 ∀(whole:Sem Value) (aj: ~~~1) (s:Shared) (σ:St) (H:Hp) (Q:Bool->Hp->Prop),Inv X aj σ H s->t σ H Q->wpAny (~~~2) X.A (isTrue e X.env whole) (TP X aj σ Q) X.xe s
def PW.pt{X:Cx}{e:Expr}{t:TT}(h:PW X e t):PT X e t:=h _
abbrev PA(X:Cx)(es:List Expr)(t:TA):Prop:=
 ∀(pos:Pos) (aj: ~~~1) (s:Shared) (σ:St) (H:Hp) (Q:List V->Hp->Prop),Inv X aj σ H s->t σ H Q->wpAny (~~~2) X.A (spliced (backTo pos (starEach es X.env))) (AP X aj σ Q) X.xe s
abbrev PS(X:Cx)(st:Stmt)(t:TS):Prop:=
 ∀(aj: ~~~1) (s:Shared) (σ:St) (H:Hp) (D:Ends),Inv X aj σ H s->t D σ H->wpAny (~~~2) X.A (exec st X.env) (SP X aj D) X.xe s
abbrev tU(X:Cx)(st:List Stmt)(t:TS):Prop:=
 ∀(aj: ~~~1) (s:Shared) (σ:St) (H:Hp) (D:Ends),Inv X aj σ H s->t D σ H->wpAny (~~~2) X.A (execs st X.env) (SP X aj D) X.xe s
def bY{α:Type}{t:Sem α}{Q Q':α->Shared->Prop}{M:Model}{A:Around}{E:Value->Shared->Prop}{s:Shared}(h:wpAny M A t Q E s)(hQ:∀a s,Q a s->Q' a s):wpAny M A t Q' E s:=l6 h hQ λ_ _ x=>x
section
variable{X:Cx}
def bin{a b:Expr}{ta tb:TE}(ha:PE X a ta)(hb:PE X b tb){aj: ~~~1}{s:Shared}{σ:St}{H:Hp}{R:V->V->Hp->Prop}(I: ~~~7)(h:ta σ H λx H1=>tb σ H1 λy H2=>R x y H2)
  {α:Type}{Q:α->Shared->Prop}{f:Value->Value->Sem α}
  (hf:∀v u s2 x y H2,Inv X aj σ H2 s2->RelV x v->RelV y u->R x y H2->wpAny (~~~2) X.A (f v u) Q X.xe s2) :
  wpAny (~~~2) X.A (eval a X.env) (λv s₁=>wpAny (~~~2) X.A (eval b X.env) (λu s₂=>wpAny (~~~2) X.A (f v u) Q X.xe s₂) X.xe s₁) X.xe s:=by
 apply bY (ha aj s σ H _ I h) ?_;rintro v s1 ⟨x,H1,I1,r1,q1⟩;apply bY (hb aj s1 σ H1 _ I1 q1) ?_;rintro u s2 ⟨y,H2,I2,r2,q2⟩;show hf v u s2 x y H2 I2 r1 r2 q2
abbrev Yz(i:Nat):TE:=λσ H Q=>∃v,σ[i]?=!(!v)/\Q v H
abbrev tC(v:V):TE:=λ_ H Q=>Q v H
def cN(hN:X.N[i]?=!x)(hv:iR X.env.scope x)(hd:(x==(~~~3))=false:=by decide)(bZ:(x==("__classdict__":Str))=false:=by decide):PE X (.Name x pos) (Yz i):=by
 intro aj s σ H Q I h;let(v,e,h):=h;let(m,hn,hl):=I.loc;let(u,r,l):=hl i x v hN e hv;have fin:EP X aj σ Q u s:=#[v,H,I,r,h];rcases l with ⟨hk,hm⟩ |⟨hk,c,hc,hcell⟩
 . show DI (wpAny_loadName_local I.ok.kind hk hn hm fin) hd
 .
  rcases hk with hk |hk
  . show DI (wpAny_loadName_cell I.ok.kind hk hc hcell fin) hd
  . show DI (wpAny_loadName_free I.ok.kind hk hc hcell fin bZ) hd
def GD{i j pos}:PE X (.Constant (.int i) j pos) (tC (.int i)):=λ_ _ _ H _ I h=>wpAny_Constant_int #[.int i,H,I.tok _,#[_,rfl],h]
def YB{b j pos}:PE X (.Constant (.bool b) j pos) (tC (.bl b)):=λ_ _ _ H _ I h=>Constant_bool #[.bl b,H,I,rfl,h]
def GF{j pos}:PE X (.Constant .none j pos) (tC .non):=λ_ _ _ H _ I h=>Constant_none #[.non,H,I,rfl,h]
def R9{x j pos}:PE X (.Constant (.str x) j pos) (tC (.str x)):=λ_ _ _ H _ I h=>Calls.Constant_str #[.str x,H,I.tok _,#[_,rfl],h]
abbrev Gl(X:Cx)(x:Str):Prop:=X.env.kindOf x=some .globalImplicit
def fW{E:Value->Shared->Prop}{aj: ~~~1}{s:Shared}{σ:St}{H:Hp}{x:Str}{u:Value}{pos:Pos}{Q:Value->Shared->Prop}(I: ~~~7)(hg:Gl X x)(hm:X.mg x=!u)(h:Q u s)
  (hd:(x==(~~~3))=false:=by decide):wpAny (~~~2) X.A (eval (.Name x pos) X.env) Q E s:=
 Calls.Name_function_global I.ok.kind hg (Calls.loadGlobal_global (by rw[I.ok.glob];show I.mod.glob.keeps I.bk) hm h) hd
def g8{E:Value->Shared->Prop}{aj: ~~~1}{s:Shared}{σ:St}{H:Hp}{x:Str}{u:Value}{pos:Pos}{Q:Value->Shared->Prop}(I: ~~~7)(hg:Gl X x)(hm:X.mg x=none)(hv:bootBuiltins x=!u)(h:Q u s)
  (hn:x≠ "__name__" :=by decide) (hd:(x==(~~~3))=false:=by decide):wpAny (~~~2) X.A (eval (.Name x pos) X.env) Q E s:=by
 let(mb,h1,h2):=I.mod.blt;show Calls.Name_function_global I.ok.kind hg (Calls.loadGlobal_builtin (by rw[I.ok.glob];show I.mod.glob.keeps I.bk) hm (by rw[I.ok.blt];show h1.keeps I.bk) ((h2 x hn).trans hv) h) hd
def Ay(hg:Gl X x)(hm:X.mg x=!u)(r:RelV v u)(hd:(x==(~~~3))=false:=by decide):PE X (.Name x pos) (tC v):=
 λ_ _ _ H _ I h=>fW I hg hm #[v,H,I,r,h] hd
def tV(hg:Gl X x)(hm:X.mg x=none)(hv:bootBuiltins x=!u)(r:RelV v u)(hn:x≠ "__name__" :=by decide)(hd:(x==(~~~3))=false:=by decide):PE X (.Name x pos) (tC v):=
 λ_ _ _ H _ I h=>g8 I hg hm hv #[v,H,I,r,h] hn hd
variable{a b:Expr}{ta tb:TE}{pos:Pos}
abbrev tB(t:TE):TT:=λσ H Q=>t σ H λx H1=>∃c,x=.bl c/\Q c H1
def Se{e:Expr}{t:TE}(h:PE X e t)(he:∀whole,isTrue e X.env whole=(do let v <- whole;standAt e.pos;holding [v] (truthy v)):=by intro _;rfl):PT X e (tB t):=by
 intro aj s σ H Q I hw;apply isTrue_plain (bY (h aj s σ H _ I hw) λv s1 #[x,H1,I1,r1,q1]=>?_) (he _)
 let(d,rfl,q):=q1;cases r1;show nN #[H1,I1,q]
variable{tA tB':TT}{rest:List Expr}
abbrev tAnd(t u:TT):TT:=λσ H Q=>t σ H λc H1=>if c=true then u σ H1 Q else Q false H1
abbrev tOr(t u:TT):TT:=λσ H Q=>t σ H λc H1=>if c=true then Q true H1 else u σ H1 Q
abbrev tNot(t:TT):TT:=λσ H Q=>t σ H λc H1=>Q ((not c)) H1
def pw_and1(ha:PT X a tA):PW X (.BoolOp .And [a] pos) tA:=by
 intro wh aj s σ H Q I h;apply isTrue_and (bY (ha aj s σ H Q I h) λc s1 e=>?_)
 cases c with
 |true=>show isTrue_and_nil e
 |false=>show e
def pw_or1(ha:PT X a tA):PW X (.BoolOp .Or [a] pos) tA:=by
 intro wh aj s σ H Q I h;apply isTrue_or (bY (ha aj s σ H Q I h) λc s1 e=>?_)
 cases c with
 |false=>show isTrue_or_nil e
 |true=>show e
def pw_and(ha:PT X a tA)(hb:PW X (.BoolOp .And (b::rest) pos) tB'):PW X (.BoolOp .And (a::b::rest) pos) (tAnd tA tB'):=by
 intro wh aj s σ H Q I h;apply isTrue_and (bY (ha aj s σ H _ I h) ?_);rintro c s1 ⟨H1,I1,q1⟩;cases c with
 |true=>show hb wh aj s1 σ H1 Q I1 q1
 |false=>show#[H1,I1,q1]
def pw_or(ha:PT X a tA)(hb:PW X (.BoolOp .Or (b::rest) pos) tB'):PW X (.BoolOp .Or (a::b::rest) pos) (tOr tA tB'):=by
 intro wh aj s σ H Q I h;apply isTrue_or (bY (ha aj s σ H _ I h) ?_);rintro c s1 ⟨H1,I1,q1⟩;cases c with
 |true=>show#[H1,I1,q1]
 |false=>show hb wh aj s1 σ H1 Q I1 q1
def GJ(ha:PT X a tA):PT X (.UnaryOp .Not a pos) (tNot tA):=by intro aj s σ H Q I h;show isTrue_not (ha aj s σ H (λc H1=>Q ((not c)) H1) I h)
abbrev YC(ta tb:TE):TE:=λσ H Q=>ta σ H λx H1=>∃c,x=.bl c/\if c=true then tb σ H1 Q else Q (.bl false) H1
abbrev tOrV(ta tb:TE):TE:=λσ H Q=>ta σ H λx H1=>∃c,x=.bl c/\if c=true then Q (.bl true) H1 else tb σ H1 Q
abbrev YD(ta:TE):TE:=λσ H Q=>ta σ H λx H1=>∃c,x=.bl c/\Q (.bl ((not c))) H1
def Sf{op}(h:PE X a t):PE X (.BoolOp op [a] pos) t:=λaj s σ H Q I hw=>BoolOp_one (h aj s σ H Q I hw)
def GK(ha:PE X a ta)(hb:PE X (.BoolOp .And (b::rest) pos) tb):PE X (.BoolOp .And (a::b::rest) pos) (YC ta tb):=by
 intro aj s σ H Q I h;apply BoolOp_and (bY (ha aj s σ H _ I h) ?_);rintro v s1 ⟨x,H1,I1,r1,q1⟩;let(c,rfl,q1):=q1;cases r1;apply nN ?_;cases c with
 |true=>show hb aj s1 σ H1 Q I1 q1
 |false=>show#[.bl false,H1,I1,rfl,q1]
def Q7(ha:PE X a ta)(hb:PE X (.BoolOp .Or (b::rest) pos) tb):PE X (.BoolOp .Or (a::b::rest) pos) (tOrV ta tb):=by
 intro aj s σ H Q I h;apply BoolOp_or (bY (ha aj s σ H _ I h) ?_);rintro v s1 ⟨x,H1,I1,r1,q1⟩;let(c,rfl,q1):=q1;cases r1;apply nN ?_;cases c with
 |false=>show hb aj s1 σ H1 Q I1 q1
 |true=>show#[.bl true,H1,I1,rfl,q1]
def Sh(ha:PE X a ta):PE X (.UnaryOp .Not a pos) (YD ta):=by intro aj s σ H Q I h;apply UnaryOp_ (bY (ha aj s σ H _ I h) ?_);rintro v s1 ⟨x,H1,I1,r1,q1⟩;let(c,rfl,q1):=q1;cases r1;show not_of (nN #[.bl ((not c)),H1,I1,rfl,q1])
abbrev tIf(t:TT)(ta tb:TE):TE:=λσ H Q=>t σ H λc H1=>if c=true then ta σ H1 Q else tb σ H1 Q
def vU{c:Expr}(hc:PT X c tA)(ha:PE X a ta)(hb:PE X b tb):PE X (.IfExp c a b pos) (tIf tA ta tb):=by
 intro aj s σ H Q I h;apply wpAny_IfExp (bY (hc aj s σ H _ I h) ?_);rintro d s1 ⟨H1,I1,q1⟩;cases d with
 |true=>show ha aj s1 σ H1 Q I1 q1
 |false=>show hb aj s1 σ H1 Q I1 q1
end
abbrev cg(K:Frag)(H:Hp)(a:Addr)(xs:List V):Prop:=
 Rd H a (.lst xs)\/
  ∃(o:Obj) (aA:Array Value) (n:Nat),K.lookup a=!o/\o.cls=.type "list" /\o.dict=none/\o.data=.seq aA n/\aA.size<=sizeLine/\Vals xs aA.toList
abbrev gF(K:Frag)(H:Hp)(a:Addr)(xs:List V):Prop:=
 Rd H a (.tup xs)\/
  ∃(o:Obj) (aA:Array Value) (n:Nat),K.lookup a=!o/\o.cls=.type "tuple" /\o.data=.seq aA n/\aA.size<=sizeLine/\Vals xs aA.toList
abbrev absV:Value->Option V
 |.none=>some .non
 |.bool b=>!(.bl b)
 |.int i _=>!(.int i)
 |.str x _=>!(.str x)
 |.bytes b _=>!(.RZ b)
 |.float b _=>!(.flt b)
 |.ref a=>!(.ref a)
 |.type n=>!(.ty n)
 |_=>none
def RelV.abs(r:RelV x u):absV u=!x:=by
 cases x with
 |non=>cases r;rfl
 |bl _=>cases r;rfl
 |int _=>let(t,rfl):=r;rfl
 |str _=>let(t,rfl):=r;rfl
 |RZ _=>let(t,rfl):=r;rfl
 |flt _=>let(t,rfl):=r;rfl
 |ref _=>cases r;rfl
 |ty _=>cases r;rfl
def RelV.inj{x y:V}{u:Value}(r:RelV x u)(q:RelV y u):x=y:=o6 (r.abs.symm.trans q.abs)
def Vals.inj:∀{xs ys:List V}{us:List Value},Vals xs us->Vals ys us->xs=ys:=by
 intro xs ys us h
 induction h generalizing ys with
 |nil=>intro h';cases h';rfl
 |cons r t ih=>intro h';cases h' with |cons r' t'=>rw[r.inj r',ih t']
section
variable{X:Cx}{aj: ~~~1}{σ:St}{H:Hp}{s:Shared}{a:Addr}{xs ys:List V}
def cg.of{K:Frag}(h:H a=!(.lst xs)):cg K H a xs:=.inl (.inl h)
def Inv.list(I: ~~~7)(h:cg X.K H a xs):∃aA:List Value,Vals xs aA/\PlainL s.heap a aA.toArray/\xs.length<=sizeLine:=by
 rcases h with h |⟨o,aA,n,hk,hc,hd,hs,hz,r⟩
 . let(z,aA,n,r,e):=h.ok I.hok;show#[aA,r,#[_,n,e,rfl,rfl,rfl],z]
 .
  apply#[aA.toList,r,#[o,n,I.nj a o hk,hc,hd,by simpa using hs],?_]
  have e:=r.length;simp only[sB]at e;lia
def Inv.tuple(I: ~~~7)(h:gF X.K H a xs):∃aA:List Value,Vals xs aA/\IsTup s.heap a aA.toArray/\xs.length<=sizeLine:=by
 rcases h with h |⟨o,aA,n,hk,hc,hs,hz,r⟩
 . let(z,aA,r,p):=h.ok I.hok;show#[aA,r,p.tup,z]
 .
  apply#[aA.toList,r,#[o,I.nj a o hk,hc,n,by simpa using hs],?_]
  have e:=r.length;simp only[sB]at e;lia
def Inv.vV(I: ~~~7)(h:cg X.K H a xs)(h':cg X.K H a ys):xs=ys:=by
 let(aA,r,(o,n,e,_,_,d),_):=I.list h;let(its',r',(o',n',e',_,_,d'),_):=I.list h';rw[e]at e';cases e';rw[d]at d';injection d' with d1 _;have:aA=its':=by simpa using congrArg Array.toList d1
 subst this;show r.inj r'
def Inv.rS(I: ~~~7)(h:gF X.K H a xs)(h':gF X.K H a ys):xs=ys:=by
 let(aA,r,(o,e,_,n,d),_):=I.tuple h;let(its',r',(o',e',_,n',d'),_):=I.tuple h';rw[e]at e';cases e';rw[d]at d';injection d' with d1 _;have:aA=its':=by simpa using congrArg Array.toList d1
 subst this;show r.inj r'
end
meta abbrev Cx.wish(X:Cx)(E:Value->Shared->Prop):Cx:={ X with xe:=E}
meta abbrev Cx.tW(X:Cx):Cx:=X.wish λ_ _=>False
def Cx.Ok.wish{X:Cx}(ok:X.Ok)(E:Value->Shared->Prop):(X.wish E).Ok:=
 #[ok.mod,ok.kind,ok.glob,ok.blt,ok.above,ok.inj,ok.has,ok.R5,ok.hd,ok.frames,ok.stk,ok.XR,ok.bs,ok.GC,ok.vR,ok.yJ,ok.kJ,ok.Ml]
def Cx.Ok.dg{X:Cx}{E:Value->Shared->Prop}(ok:(X.wish E).Ok):X.Ok:=
 #[ok.mod,ok.kind,ok.glob,ok.blt,ok.above,ok.inj,ok.has,ok.R5,ok.hd,ok.frames,ok.stk,ok.XR,ok.bs,ok.GC,ok.vR,ok.yJ,ok.kJ,ok.Ml]
section
variable{X:Cx}{aj: ~~~1}{σ:St}{H:Hp}{s:Shared}{E:Value->Shared->Prop}
def Inv.wish(I: ~~~7)(E:Value->Shared->Prop):Inv (X.wish E) aj σ H s:=#[I.ok.wish E,I.os,I.bare,I.base,I.loc,I.cell,I.free,I.d9,I.pin,I.hok,I.len]
def Inv.dg(I:Inv (X.wish E) aj σ H s):Inv X aj σ H s:=#[I.ok.dg,I.os,I.bare,I.base,I.loc,I.cell,I.free,I.d9,I.pin,I.hok,I.len]
def SP.dg(h:SP (X.wish E) aj D f s'):SP X aj D f s':=by
 cases f with
 |next=>let(σ',H',I,q):=h;show#[σ',H',I.dg,q]
 |brk=>let(σ',H',I,q):=h;show#[σ',H',I.dg,q]
 |cont=>let(σ',H',I,q):=h;show#[σ',H',I.dg,q]
 |ret u=>let(v,σ',H',I,r,q):=h;show#[v,σ',H',I.dg,r,q]
def PE.tW(h:PE X.tW e t):PE X e t:=λaj s σ H Q I hw=>
 l6 (h aj s σ H Q (I.wish _) hw) (by rintro _ _ ⟨v,H',I',r,q⟩;show#[v,H',I'.dg,r,q]) λ_ _ z=>False.elim z
def PT.tW(h:PT X.tW e t):PT X e t:=λaj s σ H Q I hw=>
 l6 (h aj s σ H Q (I.wish _) hw) (by rintro _ _ ⟨H',I',q⟩;show#[H',I'.dg,q]) λ_ _ z=>False.elim z
def tU.tW{st:List Stmt}{t:TS}(h:tU X.tW st t):tU X st t:=λaj s σ H D I hw=>
 l6 (h aj s σ H D (I.wish _) hw) (λ_ _ q=>q.dg) λ_ _ z=>False.elim z
end
section
variable{X:Cx}{st:Stmt}{rest:List Stmt}{t u:TS}{e:Expr}{te:TE}{pos:Pos}
abbrev YF:TS:=λD σ H=>D.nx σ H
abbrev YG(t u:TS):TS:=λD σ H=>t { D with nx:=u D} σ H
def Mp:tU X [] YF:=λ_ _ σ H _ I h=>wpAny_execs_nil #[σ,H,I,h]
def eu(h1:PS X st t)(h2:tU X rest u):tU X (st::rest) (YG t u):=by
 intro aj s σ H D I h;apply BA (bY (h1 aj s σ H { D with nx:=u D} I h) λf s1 q=>?_)
 cases f with
 |next=>let(σ',H',I',q):=q;show h2 aj s1 σ' H' D I' q
 |ret v=>show q
 |brk=>show q
 |cont=>show q
def Az(h1:PS X st t):tU X [st] t:=by
 intro aj s σ H D I h;apply BA (bY (h1 aj s σ H D I h) λf s1 q=>?_)
 cases f with
 |next=>show wpAny_execs_nil q
 |ret v=>show q
 |brk=>show q
 |cont=>show q
def Inv.quiet{aj: ~~~1}{σ:St}{H:Hp}{s:Shared}(I: ~~~7):interactive X.env=false:=by simp[interactive,I.ok.kind]
abbrev YH(te:TE):TS:=λD σ H=>te σ H λ_ H1=>D.nx σ H1
def oE(he:PE X e te)(hs:swapsWith e none pos.line X.env=pure false:=by rfl):PS X (.Expr e pos) (YH te):=by intro aj s σ H D I h;show wpAny_Expr_any (bY (he aj s σ H _ I h) (by rintro v s1 ⟨x,H1,I1,r1,q1⟩;show#[σ,H1,I1,q1])) I.quiet hs
abbrev tRet(te:TE):TS:=λD σ H=>te σ H D.rt
def tX(he:PE X e te):PS X (.Return (!e) pos) (tRet te):=by intro aj s σ H D I h;show wpAny_Return_some (bY (he aj s σ H _ I h) (by rintro v s1 ⟨x,H1,I1,r1,q1⟩;show#[x,σ,H1,I1,r1,q1]))
abbrev tIfS(c:TT)(t u:TS):TS:=λD σ H=>c σ H λb H1=>if b=true then t D σ H1 else u D σ H1
def o8{c:Expr}{a b:List Stmt}{tc:TT}(hc:PT X c tc)(ha:tU X a t)(hb:tU X b u):PS X (.If c a b pos) (tIfS tc t u):=by
 intro aj s σ H D I h;apply wpAny_If (bY (hc aj s σ H _ I h) ?_);rintro d s1 ⟨H1,I1,q1⟩;cases d with
 |true=>show ha aj s1 σ H1 D I1 q1
 |false=>show hb aj s1 σ H1 D I1 q1
abbrev Si:TS:=λ_ _ _=>False
def bC:tU X jS Si:=λ_ _ _ _ _ _ h=>h.elim
end
def TG:=V->St->Hp->(St->Hp->Prop)->Prop
def Sj:=List V->St->Hp->(St->Hp->Prop)->Prop
abbrev PG(X:Cx)(target:Expr)(t:TG):Prop:=
 ∀(aj: ~~~1) (s:Shared) (σ:St) (H:Hp) (v:V) (u:Value) (Q:St->Hp->Prop),Inv X aj σ H s->RelV v u->t v σ H Q->
  wpAny (~~~2) X.A (assign target X.env u) (λ_ s'=>∃σ' H',Inv X aj σ' H' s'/\Q σ' H') X.xe s
abbrev XS(X:Cx)(ts:List Expr)(t:Sj):Prop:=
 ∀(aj: ~~~1) (s:Shared) (σ:St) (H:Hp) (vs:List V) (us:List Value) (Q:St->Hp->Prop),Inv X aj σ H s->Vals vs us->t vs σ H Q->
  wpAny (~~~2) X.A (assignInOrder ((assignEach ts X.env).map (·.2)) us) (λ_ s'=>∃σ' H',Inv X aj σ' H' s'/\Q σ' H') X.xe s
def Sl:=V->V->V->Hp->(Hp->Prop)->Prop
abbrev YJ(X:Cx)(t:Sl):Prop:=
 ∀(aj: ~~~1) (s:Shared) (σ:St) (H:Hp) (o i v:V) (ov iv u:Value) (Q:Hp->Prop),Inv X aj σ H s->RelV o ov->RelV i iv->RelV v u->t o i v H Q->
  wpAny (~~~2) X.A (setItem ov iv u) (λ_ s'=>∃H',Inv X aj σ H' s'/\Q H') X.xe s
section
variable{X:Cx}{pos:Pos}
abbrev rT(i:Nat):TG:=λv σ H Q=>Q (σ.set i (!v)) H
def jv(hN:X.N.Nodup)(hi:X.N[i]?=!x)(hx:Loc X.env.scope x)(hf:X.fn x=true\/X.env.scope.names.lookup x=some .local:=by first |show .inl rfl |show .inr rfl |assumption):PG X (.Name x pos) (rT i):=by intro aj s σ H v u Q I r h;show wpAny_assign_Name (o7 I hN hi hx r (λs' I'=>#[_,H,I',h]) hf)
abbrev gNil:Sj:=λvs σ H Q=>vs=[]/\Q σ H
abbrev YK(t:TG)(u:Sj):Sj:=λvs σ H Q=>∃v r,vs=v::r/\t v σ H λσ' H'=>u r σ' H' Q
def Ba:XS X [] gNil:=by intro aj s σ H vs us Q I r h;let(e,h):=h;subst e;show assignInOrder_nil #[σ,H,I,h]
def o9{e:Expr}{es:List Expr}{t:TG}{u:Sj}(h1:PG X e t)(h2:XS X es u)
  (hs:(assignEach (e::es) X.env).map (·.2)=assign e X.env::(assignEach es X.env).map (·.2):=by rfl):XS X (e::es) (YK t u):=by
 intro aj s σ H vs us Q I r h;let(v,vr,e1,h):=h;subst e1;cases r with
 |cons r rr=>rw[hs];apply assignInOrder_cons (bY (h1 aj s σ H _ _ _ I r h) ?_);rintro _ s1 ⟨σ1,H1,I1,q1⟩;show h2 aj s1 σ1 H1 _ _ Q I1 rr q1
abbrev gTup(K:Frag)(n:Nat)(t:Sj):TG:=λv σ H Q=>∃a xs,v=.ref a/\gF K H a xs/\xs.length=n/\t xs σ H Q
def GL(hc:X.calm=true)(h:XS X es t)
  (hn:(assignEach es X.env).length=n:=by rfl) (cZ:(assignEach es X.env).findIdx? (·.1)=none:=by rfl):PG X (.Tuple es k pos) (gTup X.K n t):=by
 intro aj s σ H v u Q I r hw;let(a,xs,e1,hq,hl,hw):=hw;subst e1;cases r;let(aA,rv,ht,hz):=I.tuple hq;apply assign_Tuple_tuple (I.ok.hd hc) ht (by simp[hn,<- hl,rv.length]) cZ λh' hx=>?_
 have I1:=I.kept (t':=s.toks) λb o e=>hx b o (kS (eM e)) e
 show h aj _ σ H xs _ Q I1 (by simpa using rv) hw
abbrev gSub(to ti:TE)(t:Sl):TG:=λv σ H Q=>to σ H λo H1=>ti σ H1 λi H2=>t o i v H2 λH3=>Q σ H3
def Sq{o i:Expr}{to ti:TE}{t:Sl}(ho:PE X o to)(hi:PE X i ti)(hs:YJ X t)
  (ha:∀v,assign (.Subscript o i pos) X.env v=(do
   let ov <- holding [v] (eval o X.env)
   let iv <- holding [v,ov] (eval i X.env)
   standAt pos
   holding [v,ov,iv] (setItem ov iv v)
   release [v,ov,iv] []):=by intro _;rfl):PG X (.Subscript o i pos) (gSub to ti t):=by
 intro aj s σ H v u Q I r h;apply aS (mE (bY (ho aj s σ H _ I h) ?_));rintro ov s1 ⟨x,H1,I1,r1,q1⟩;apply aS (mE (bY (hi aj s1 σ H1 _ I1 q1) ?_));rintro iv s2 ⟨y,H2,I2,r2,q2⟩;apply aS (AL (aS (mE (bY (hs aj s2 σ H2 x y v ov iv u _ I2 r1 r2 r q2) ?_))));rintro _ s3 ⟨H3,I3,q3⟩;show wpAny_release #[σ,H3,I3,q3]
abbrev Mq(te:TE)(g:TG):TS:=λD σ H=>te σ H λx H1=>g x σ H1 D.nx
def GP{tg e:Expr}{te:TE}{g:TG}(he:PE X e te)(hg:PG X tg g)(hs:swapsWithSole [tg] e pos.line X.env=pure false:=by rfl)(hw:swappedStores [tg] e X.env=pure none:=by rfl)
  (h1:(assignEach [tg] X.env).map (·.2)=[assign tg X.env]:=by rfl):PS X (.Assign [tg] e pos) (Mq te g):=by
 intro aj s σ H D I h;apply wpAny_Assign_stores (bY (he aj s σ H _ I h) ?_) hs hw;rintro v s1 ⟨x,H1,I1,r1,q1⟩;rw[h1];show bY (hg aj s1 σ H1 x v _ I1 r1 q1) λ_ s2 q=>q
def pg{i:Nat}{x:Str}{e:Expr}{te:TE}{pos':Pos}(hN:X.N.Nodup)(hi:X.N[i]?=!x)(hx:Loc X.env.scope x)(he:PE X e te)(hs:swapsWith e (!(.Name x pos')) pos.line X.env=pure false:=by rfl)(hf:X.fn x=true\/X.env.scope.names.lookup x=some .local:=by first |show .inl rfl |show .inr rfl |assumption) :
  PS X (.Assign [.Name x pos'] e pos) (Mq te (rT i)):=by
 intro aj s σ H D I h;apply wpAny_Assign_Name (bY (he aj s σ H _ I h) ?_) hs;rintro v s1 ⟨y,H1,I1,r1,q1⟩;show o7 I1 hN hi hx r1 (λs2 I2=>#[_,H1,I2,q1]) hf
end
section
variable{X:Cx}{pos:Pos}
abbrev Ss(c:TT)(tb:TS):TS:=λD σ H=>∃W:Nat->St->Hp->Prop,(∃m,W m σ H)/\∀m σ H,W m σ H->
 c σ H λb H1=>if b=true then ∃N:St->Hp->Prop,(∀σ' H',N σ' H'->∃m',m'<m/\W m' σ' H')/\tb { D with nx:=N,ct:=N,bk:=D.nx} σ H1 else D.nx σ H1
def GQ{c:Expr}{body:List Stmt}{tc:TT}{tb:TS}(hp:PassesOwn (~~~2) X.A X.env X.xe)(hc:PT X c tc)(hb:tU X body tb):PS X (.While c body [] pos) (Ss tc tb):=by
 intro aj s σ H D I h;let(W,(m0,w0),turn):=h;apply wpAny_While (codeAny_whileLoop (λn s'=>∃σ' H',Inv X aj σ' H' s'/\W n σ' H') ?_ m0 #[σ,H,I,w0])
 rintro n s1 ⟨σ1,H1,I1,w1⟩;apply AG hp (bY (hc aj s1 σ1 H1 _ I1 (turn n σ1 H1 w1)) ?_);rintro b s2 ⟨H2,I2,q2⟩;cases b with
 |true=>
  let(N,hN,q2):=q2;apply AG hp (bY (hb aj s2 σ1 H2 _ I2 q2) λf s3 q3=>?_)
  cases f with
  |next=>let(σ3,H3,I3,n3):=q3;let(m',hm,w3):=hN σ3 H3 n3;show#[m',hm,σ3,H3,I3,w3]
  |cont=>let(σ3,H3,I3,n3):=q3;let(m',hm,w3):=hN σ3 H3 n3;show#[m',hm,σ3,H3,I3,w3]
  |brk=>show q3
  |ret v=>show q3
 |false=>show wpAny_execs_nil #[σ1,H2,I2,q2]
end
structure It where
 go:Nat->Hp->Prop
 YL:Nat->Hp->V->Hp->Prop
 stop:Nat->Hp->Prop
abbrev kK(X:Cx)(aj: ~~~1)(H:Hp)(b:Addr):Prop:=
 H b=none/\b≠X.env.locals/\b∉X.fs/\(b∈X.ex\/X.s₀⁻¹<=b)/\(∀x c,X.env.cells.lookup x=!c->c≠b)/\∀p∈X.pn++aj,p.1≠b
def Inv.yL{X:Cx}{aj: ~~~1}{σ:St}{H H':Hp}{s:Shared}{b:Addr}(I: ~~~7)(hb:s⁻¹<=b)(hn:H' b=none):kK X aj H' b:=by
 apply#[hn,AC (fA I.lt hb),I.nofs hb,.inr (i9 I.sz hb),λx c e z=>?_,λp hp z=>?_]
 . let(v,q):=I.cell x c e;show absurd (fA q.lt (by rw[z];show hb)) (nK _)
 . show absurd (fA (eM (I.pin p hp).1) (by rw[z];show hb)) (nK _)
structure Turn(P:Program)(w:World)(K:Frag)(tg:Expr)(J:It)(fp:List Addr)(it:Addr)(tn:Nat->Heap->Prop):Prop where
 mem:it∈fp
 obj:∀i h,tn i h->∀b∈fp,∃o,h.get? b=!o/\∀v,o.data≠.cell v
 keep:∀i h h',tn i h->(∀b∈fp,∀o,h.get? b=!o->h'.get? b=!o)->tn i h'
 item:∀(X:Cx),X.prog=P->X.w=w->X.K=K->X.calm=true->∀(i:Nat) (aj: ~~~1) (s:Shared) (σ:St) (H:Hp) (E:Value->Shared->Prop),Inv X aj σ H s->(∀b∈fp,kK X aj H b)->tn i s.heap->J.go i H->
  wpAny (model P w) X.A (pyNext (.ref it)) (λr s1=>∃u,r=!u/\
   wpAny (model P w) X.A (letOwnedTupleGo tg (.ref it) u) (λ_ s2=>∃x H',Inv X aj σ H' s2/\RelV x u/\J.YL i H x H'/\tn (i+1) s2.heap/\∀b∈fp,H' b=none) E s1) E s
 done:∀(X:Cx),X.prog=P->X.w=w->X.K=K->X.calm=true->∀(i:Nat) (aj: ~~~1) (s:Shared) (σ:St) (H:Hp) (E:Value->Shared->Prop),Inv X aj σ H s->(∀b∈fp,kK X aj H b)->tn i s.heap->J.stop i H->
  wpAny (model P w) X.A (pyNext (.ref it)) (λr s1=>r=none/\Inv X aj σ H s1) E s
 self:∀(A:Around) (i:Nat) (s:Shared) (Q:Value->Shared->Prop) (E:Value->Shared->Prop),tn i s.heap->Q (.ref it) s->wpAny (model P w) A (pyIter (.ref it)) Q E s
def TI:=St->Hp->(It->Hp->Prop)->Prop
abbrev PIE(X:Cx)(aj: ~~~1)(σ:St)(tg:Expr)(R:It->Hp->Prop)(itv:Value)(s2:Shared):Prop:=
 ∃(it:Addr) (fp:List Addr) (tn:Nat->Heap->Prop) (J:It) (H':Hp),itv=.ref it/\Inv X aj σ H' s2/\Turn X.prog X.w X.K tg J fp it tn/\tn 0 s2.heap/\(∀b∈fp,kK X aj H' b)/\R J H'
abbrev PI(X:Cx)(tg iter:Expr)(wi:TI):Prop:=
 ∀(aj: ~~~1) (s:Shared) (σ:St) (H:Hp) (R:It->Hp->Prop),Inv X aj σ H s->wi σ H R->
  wpAny (~~~2) X.A (eval iter X.env) (λv s1=>wpAny (~~~2) X.A (pyIter v) (PIE X aj σ tg R) X.xe s1) X.xe s
def GR(ho:s.heap.get? it=!o)(hc:o.cls=.type n)(hd:o.data=.fields vs)
  (hn:["enumerate", "zip", "dict_itemiterator", "dict_reverseitemiterator", "odict_iterator", "itertools.zip_longest", "itertools.pairwise"].contains n=false) (hQ:Q () s):wpAny M A (letOwnedTupleGo tg (.ref it) u) Q E s:=by
 cases tg <;> first
  |show d5 hQ
  | (cases u <;> first
    |show d5 hQ
    | (apply aS (wpAny_load ho ?_)
       rw[hc,hd];exact wpAny M A (if (["enumerate", "zip", "dict_itemiterator", "dict_reverseitemiterator", "odict_iterator", "itertools.zip_longest", "itertools.pairwise"].contains n&&vs[0]?==!(rawInt _))=true then _ else _) Q E s
       rw[lL (by intro h;rw[hn]at h;symm)]
       show d5 hQ))
abbrev Itl(K:Frag)(a:Addr):It:=
 #[λi H=>∃xs x,cg K H a xs/\xs[i]?=!x,λi H x H'=>H'=H/\∀xs,cg K H a xs->xs[i]?=!x,λi H=>∃xs,cg K H a xs/\xs.length<=i]
abbrev Itt(K:Frag)(a:Addr):It:=
 #[λi H=>∃xs x,gF K H a xs/\xs[i]?=!x,λi H x H'=>H'=H/\∀xs,gF K H a xs->xs[i]?=!x,λi H=>∃xs,gF K H a xs/\xs.length<=i]
abbrev Sv(lo:Int)(n:Nat):It:=#[λi _=>i<n,λi H x H'=>H'=H/\x=.int (lo+i),λi _=>n<=i]
def Dd{P:Program}{w:World}{K:Frag}{tg:Expr}(a it:Addr):Turn P w K tg (Itl K a) [it] it (λi h=>h.IsListIter it a i) where
 mem:=by simp
 obj:=λi h st b hb=>by
  have e:b=it:=by simpa using hb
  subst e;let(o,e,c,d):=st;show#[o,e,λv z=>by rw[d]at z;cases z]
 keep:=λi h h' st k=>st.at λo e=>k it ⋯ o e
 item:=by
  intro X hP hw hK hc i aj s σ H E I hf st hg;subst hP hw hK;let(xs,x,hq,hx):=hg;let(aA,rv,p,hz):=I.list hq;let(u,hu,ru):=rv.get hx;let(f0,f1,f2,f3,f4,f5):=hf it ⋯;apply wpAny_pyNext_list_item st p.isList (by simpa using hu) λh' st' sb=>?_
  have I1:=I.turned (t':=s.toks) (λb o hb e=>(sb.2 b hb).trans e) f0 f1 f3 f4 f5
  let(o,e,c,d):=id st';show#[u,rfl,GR e c d ⋯ #[x,H,I1,ru,#[rfl,λys hy=>by rw[I.vV hy hq];show hx],st',λb hb=>(hf b hb).1]]
 done:=by intro X hP hw hK hc i aj s σ H E I hf st hg;subst hP hw hK;let(xs,hq,hx):=hg;let(aA,rv,p,hz):=I.list hq;let(f0,f1,f2,f3,f4,f5):=hf it ⋯;have hl:=rv.length;show wpAny_pyNext_list_end (I.ok.hd hc) st p.isList (by simp;lia) λh' eb=>#[rfl,I.turned (λb o hb e=>eb b o hb e) f0 f1 f3 f4 f5]
 self:=λ_ _ _ _ _ st h=>wpAny_pyIter_listiter st h
def yM{P:Program}{w:World}{K:Frag}{tg:Expr}(a it:Addr):Turn P w K tg (Itt K a) [it] it (λi h=>h.IsTupleIter it a i) where
 mem:=by simp
 obj:=λi h st b hb=>by
  have e:b=it:=by simpa using hb
  subst e;let(o,e,c,d):=st;show#[o,e,λv z=>by rw[d]at z;cases z]
 keep:=λi h h' st k=>st.at λo e=>k it ⋯ o e
 item:=by
  intro X hP hw hK hc i aj s σ H E I hf st hg;subst hP hw hK;let(xs,x,hq,hx):=hg;let(aA,rv,p,hz):=I.tuple hq;let(u,hu,ru):=rv.get hx;let(f0,f1,f2,f3,f4,f5):=hf it ⋯;apply wpAny_pyNext_tuple_item st (show s.heap.IsTuple a aA.toArray from p) (by simpa using hu) λh' st' sb=>?_
  have I1:=I.turned (t':=s.toks) (λb o hb e=>(sb.2 b hb).trans e) f0 f1 f3 f4 f5
  let(o,e,c,d):=id st';show#[u,rfl,GR e c d ⋯ #[x,H,I1,ru,#[rfl,λys hy=>by rw[I.rS hy hq];show hx],st',λb hb=>(hf b hb).1]]
 done:=by intro X hP hw hK hc i aj s σ H E I hf st hg;subst hP hw hK;let(xs,hq,hx):=hg;let(aA,rv,p,hz):=I.tuple hq;let(f0,f1,f2,f3,f4,f5):=hf it ⋯;have hl:=rv.length;show wpAny_pyNext_tuple_end (I.ok.hd hc) st (show s.heap.IsTuple a aA.toArray from p) (by simp;lia) λh' eb=>#[rfl,I.turned (λb o hb e=>eb b o hb e) f0 f1 f3 f4 f5]
 self:=λ_ _ _ _ _ st h=>wpAny_pyIter_tupleiter st h
def yO{P:Program}{w:World}{K:Frag}{tg:Expr}(it:Addr)(lo:Int)(n:Nat):Turn P w K tg (Sv lo n) [it] it (λi h=>IsRangeIter h it (lo+(i:Nat) * 1) ((n:Int) - (i:Nat)) 1) where
 mem:=by simp
 obj:=λi h st b hb=>by
  have e:b=it:=by simpa using hb
  subst e;show#[_,st,λv z=>by
   have z':=z;cases z']
 keep:=λi h h' st k=>k it ⋯ _ st
 item:=by
  intro X hP hw hK hc i aj s σ H E I hf st hg;subst hP hw hK;let(f0,f1,f2,f3,f4,f5):=hf it ⋯;have W:=Walks.range (prog:=X.prog) (w:=X.w) (I.ok.hd hc) it lo 1 n;apply W.item i s _ _ hg st λv h' tk hv st' kk=>?_
  let(t,rfl):=hv;have I1:Inv X aj σ H { s with heap:=h',toks:=tk}:=I.turned (λb o hb e=>kk b o (by simpa using hb) e) f0 f1 f3 f4 f5
  apply#[_,rfl,GR st' rfl rfl ⋯ #[.int (lo+i),H,I1,#[t,?_],#[rfl,rfl],st',λb hb=>(hf b hb).1]]
  rw[Int.mul_one]
 done:=by intro X hP hw hK hc i aj s σ H E I hf st hg;let(f0,f1,f2,f3,f4,f5):=hf it ⋯;show wpAny_pyNext_range_end (I.ok.hd hc) st (by have:n<=i:=hg;lia) λh' eb=>#[rfl,I.turned (λb o hb e=>eb b o hb e) f0 f1 f3 f4 f5]
 self:=λ_ _ _ _ _ st h=>wpAny_pyIter_rangeiter st h
section
variable{X:Cx}{tg:Expr}
abbrev YM(K:Frag)(tl:TE):TI:=λσ H R=>tl σ H λx H1=>∃a,x=.ref a/\(∃xs,cg K H1 a xs)/\R (Itl K a) H1
abbrev iTup(K:Frag)(tl:TE):TI:=λσ H R=>tl σ H λx H1=>∃a,x=.ref a/\(∃xs,gF K H1 a xs)/\R (Itt K a) H1
def tY{l:Expr}{tl:TE}(hl:PE X l tl):PI X tg l (YM X.K tl):=by
 intro aj s σ H R I h;apply bY (hl aj s σ H _ I h) ?_;rintro v s1 ⟨x,H1,I1,r1,q1⟩;let(a,e,(xs,hq),q):=q1;subst e;cases r1;let(aA,rv,p,hz):=I1.list hq;apply AY p.isList ?_;apply#[s1⁻¹,[s1⁻¹],_,_,H1,rfl,I1.kept λb o e=>dA _ e,Dd a _,#[_,eD _ rfl,rfl,rfl],λb hb=>?_,q]
 have e:b=s1⁻¹:=by simpa using hb
 subst e;show I1.yL (eA _) (I1.hok.fresh (eA _))
def GX{l:Expr}{tl:TE}(hl:PE X l tl):PI X tg l (iTup X.K tl):=by
 intro aj s σ H R I h;apply bY (hl aj s σ H _ I h) ?_;rintro v s1 ⟨x,H1,I1,r1,q1⟩;let(a,e,(xs,hq),q):=q1;subst e;cases r1;let(aA,rv,p,hz):=I1.tuple hq;apply x5 (show s1.heap.IsTuple a aA.toArray from p) ?_
 apply#[s1⁻¹,[s1⁻¹],_,_,H1,rfl,I1.kept λb o e=>dA _ e,yM a _,#[_,eD _ rfl,rfl,rfl],λb hb=>?_,q]
 have e:b=s1⁻¹:=by simpa using hb
 subst e;show I1.yL (eA _) (I1.hok.fresh (eA _))
def vW{aj: ~~~1}{σ:St}{H:Hp}{s:Shared}{R:It->Hp->Prop}{E:Value->Shared->Prop}{lo hi:Int}{t u v:Tok}{tk:Nat}(I: ~~~7)(h1 : -(2 ^ 62)<=lo)(h2:lo<2 ^ 62)(h3 : -(2 ^ 62)<=hi)(h4:hi<2 ^ 62)
  (q:R (Sv lo (hi - lo).toNat) H):wpAny (~~~2) X.A (pyIter (.ref s⁻¹)) (PIE X aj σ tg R) E { s with heap:=s.heap.push { cls:=.type "range",data:=.fields ([.int lo t,.int hi u,.int 1 v].toArray)},toks:=tk}:=by
 apply wpAny_pyIter_range (IsRange.new ..) (small_one h1 h2 h3 h4) ?_;have I1:Inv X aj σ H { s with heap:=s.heap.push { cls:=.type "range",data:=.fields ([.int lo t,.int hi u,.int 1 v].toArray)},toks:=tk}:=I.kept λb o e=>dA _ e
 apply#[(s.heap.push { cls:=.type "range",data:=.fields ([.int lo t,.int hi u,.int 1 v].toArray)}).objs.size,[(s.heap.push { cls:=.type "range",data:=.fields ([.int lo t,.int hi u,.int 1 v].toArray)}).objs.size],_,_,H,rfl,
  I1.kept λb o e=>dA _ e,yO _ lo (hi - lo).toNat,?_,λb hb=>?_,q]
 .
  have e1:lo+((0:Nat):Int) * 1=lo:=by simp
  have e2:(((hi - lo).toNat:Nat):Int) - ((0:Nat):Int)=Builtin.Range.rangeSize lo hi 1:=by rw[rangeSize_one];split <;> lia
  rw[e1,e2];show eD _ rfl
 .
  have e:b=(s.heap.push { cls:=.type "range",data:=.fields ([.int lo t,.int hi u,.int 1 v].toArray)}).objs.size:=by simpa using hb
  subst e;show I1.yL (eA _) (I1.hok.fresh (eA _))
abbrev YQ(ta:TA):TI:=λσ H R=>ta σ H λvs H1=>∃j:Int,vs=[.int j]/\-(2 ^ 62)<=j/\j<2 ^ 62/\R (Sv 0 j.toNat) H1
abbrev YS(ta:TA):TI:=λσ H R=>ta σ H λvs H1=>∃i j:Int,vs=[.int i,.int j]/\(-(2 ^ 62)<=i/\i<2 ^ 62/\-(2 ^ 62)<=j/\j<2 ^ 62)/\R (Sv i (j - i).toNat) H1
def rW{a:Expr}{ta:TA}{p pos:Pos}(hg:Gl X "range")(hm:X.mg "range"=none)(ha:PA X [a] ta)(hs:starEach [a] X.env=[(false,eval a X.env)]:=by rfl):PI X tg (.Call (.Name "range" p) [a] [] pos) (YQ ta):=by
 intro aj s σ H R I h;apply Call_ (g8 I hg hm boot_range (oI (bY (ha pos aj s σ H _ I h) ?_) hs rfl));rintro us s1 ⟨vs,H1,I1,r1,q1⟩;let(j,e,q1,q2,q):=q1;subst e;cases r1 with
 |cons r rr=>cases rr;let(t,rfl):=r;show call_range_1 (vW I1 ⋯ ⋯ q1 q2 (by simpa using q))
def De{a b:Expr}{ta:TA}{p pos:Pos}(hg:Gl X "range")(hm:X.mg "range"=none)(ha:PA X [a,b] ta)(hs:starEach [a,b] X.env=[(false,eval a X.env),(false,eval b X.env)]:=by rfl)(hs2:starEach [b] X.env=[(false,eval b X.env)]:=by rfl) :
  PI X tg (.Call (.Name "range" p) [a,b] [] pos) (YS ta):=by
 intro aj s σ H R I h;apply Call_ (g8 I hg hm boot_range (oI (bY (ha pos aj s σ H _ I h) λus s1 #[vs,H1,I1,r1,q1]=>?_) (by rw[hs,hs2]) (by rw[hs2];rfl)))
 let(i,j,e,(q1,q2,q3,q4),q):=q1;subst e;cases r1 with
 |cons r rr=>
  cases rr with
  |cons r' rr=>cases rr;let(t,rfl):=r;let(t',rfl):=r';show call_range_2 (vW I1 q1 q2 q3 q4 q)
abbrev tFor(wi:TI)(g:TG)(tb:TS):TS:=λD σ H=>wi σ H λJ H1=>∃W:Nat->Nat->St->Hp->Prop,(∃m,W 0 m σ H1)/\∀i m σ H,W i m σ H->
 (J.stop i H/\D.nx σ H)\/(J.go i H/\∃N:St->Hp->Prop,(∀σ' H',N σ' H'->∃m',m'<m/\W (i+1) m' σ' H')/\∀x H',J.YL i H x H'->g x σ H' λσ2 H2=>tb { D with nx:=N,ct:=N,bk:=D.nx} σ2 H2)
abbrev lV(fp:List Addr)(h:Heap): ~~~1:=fp.filterMap λb=>(h.get? b).map λo=>(b,o)
def dQ{fp:List Addr}{h:Heap}{b:Addr}{o:Obj}(hb:b∈fp)(e:h.get? b=!o):(b,o)∈lV fp h:=BU.mpr #[b,hb,by rw[e];rfl]
def Df(hp:p∈lV fp h):p.1∈fp/\h.get? p.1=!p.2:=by
 let(b,hb,e):=BU.mp hp;cases q:h.get? b with
 |none=>rw[q]at e;cases e
 |some o=>rw[q]at e;have e':=o6 e;subst e';show#[hb,q]
def Inv.pinned{aj: ~~~1}{σ:St}{H:Hp}{s:Shared}{fp:List Addr}(I: ~~~7)(hf:∀b∈fp,kK X aj H b)(ho:∀b∈fp,∃o,s.heap.get? b=!o/\∀v,o.data≠.cell v):Inv X (aj++lV fp s.heap) σ H s:=
 I.Ax λp hp=>(tP.mp hp).elim (λz=>I.pin p (i8 _ z)) λz=>by
  let(hb,e):=Df z;let(f0,f1,f2,_):=hf p.1 hb;let(o,e',d):=ho p.1 hb;rw[e]at e';cases e';show#[e,f0,f1,f2,d]
def Inv.iS{aj pl: ~~~1}{σ:St}{H:Hp}{s:Shared}(I:Inv X (aj++pl) σ H s):Inv X aj σ H s:=I.Ax λp hp=>I.pin p (i8 _ (y0 _ hp))
def GZ{iter:Expr}{body:List Stmt}{wi:TI}{g:TG}{tb:TS}{pos:Pos}(hp:PassesOwn (~~~2) X.A X.env X.xe)(hc:X.calm=true)(hi:PI X tg iter wi)(hg:PG X tg g)(hb:tU X body tb)
  (hs:∀x,foldedSetIterable iter X.env x=pure x:=by intro _;rfl):PS X (.For tg iter body [] pos) (tFor wi g tb):=by
 intro aj s σ H D I h;apply wpAny_For (bY (hi aj s σ H _ I h) λv s1 h1=>bY h1 λitv s2 h2=>?_) hs
 let(it,fp,tn,J,H2,e,I2,T,aM,f2,W,(m0,w0),turn):=h2;subst e;have stat:∀{H':Hp},(∀b∈fp,H' b=none)->∀b∈fp,kK X aj H' b:=λhn b hb=>#[hn b hb,(f2 b hb).2]
 apply codeAny_forLoop_any (λn s'=>∃i σ' H',Inv X aj σ' H' s'/\tn i s'.heap/\(∀b∈fp,H' b=none)/\W i n σ' H') ?_ m0 #[0,σ,H2,I2,aM,λb hb=>(f2 b hb).1,w0]
 rintro n s3 ⟨i,σ3,H3,I3,fQ,Q8,w3⟩;rcases turn i n σ3 H3 w3 with ⟨stop,qn⟩ |⟨go,N,hN,step⟩
 . apply AG hp (bY (T.done X rfl rfl rfl hc i aj s3 σ3 H3 X.xe I3 (stat Q8) fQ stop) ?_);rintro r s4 ⟨hr,I4⟩;subst hr;show wpAny_execs_nil #[σ3,H3,I4,qn]
 .
  apply AG hp (bY (T.item X rfl rfl rfl hc i aj s3 σ3 H3 X.xe I3 (stat Q8) fQ go) ?_);rintro r s4 ⟨u,hr,h4⟩;subst hr;apply AG hp (bY h4 ?_);rintro _ s5 ⟨x,H5,I5,r5,y5,lW,YT⟩;have YW:=I5.pinned (stat YT) (T.obj _ _ lW);apply AG hp (bY (hg _ s5 σ3 H5 x u _ YW r5 (step x H5 y5)) ?_);rintro _ s6 ⟨σ6,H6,I6,q6⟩;apply AG hp (bY (hb _ s6 σ6 H6 _ I6 q6) λf s7 q7=>?_)
  have again:∀{σ7:St}{H7:Hp},Inv X (aj++lV fp s5.heap) σ7 H7 s7->N σ7 H7->∃m,m<n/\∃i σ' H',Inv X aj σ' H' s7/\tn i s7.heap/\(∀b∈fp,H' b=none)/\W i m σ' H':=λ{σ7 H7} I7 n7=>by
   let(m',hm,w7):=hN σ7 H7 n7;apply#[m',hm,i+1,σ7,H7,I7.iS,T.keep _ _ _ lW λb hb o e=>(I7.pin (b,o) (i8 _ (i8 _ (dQ hb e)))).1,λb hb=>?_,w7]
   let(o,e,d):=T.obj _ _ lW b hb;show (I7.pin (b,o) (i8 _ (i8 _ (dQ hb e)))).2.1
  cases f with
  |next=>let(σ7,H7,I7,n7):=q7;show again I7 n7
  |cont=>let(σ7,H7,I7,n7):=q7;show again I7 n7
  |brk=>let(σ7,H7,I7,q7):=q7;show#[σ7,H7,I7.iS,q7]
  |ret v=>let(x7,σ7,H7,I7,r7,q7):=q7;show#[x7,σ7,H7,I7.iS,r7,q7]
end
def R2:=V->V->Hp->VK->Prop
abbrev n6(X:Cx)(f:Value->Value->Sem Value)(r:R2):Prop:=
 ∀(aj: ~~~1) (s:Shared) (σ:St) (H:Hp) (x y:V) (v u:Value) (Q:VK),Inv X aj σ H s->RelV x v->RelV y u->r x y H Q->
  wpAny (~~~2) X.A (f v u) (EP X aj σ Q) X.xe s
abbrev UnR(X:Cx)(f:Value->Sem Value)(r:V->Hp->VK->Prop):Prop:=
 ∀(aj: ~~~1) (s:Shared) (σ:St) (H:Hp) (x:V) (v:Value) (Q:VK),Inv X aj σ H s->RelV x v->r x H Q->
  wpAny (~~~2) X.A (f v) (EP X aj σ Q) X.xe s
abbrev e9(X:Cx)(f:Value)(r:List V->Hp->VK->Prop):Prop:=
 ∀(aj: ~~~1) (s:Shared) (σ:St) (H:Hp) (xs:List V) (us:List Value) (Q:VK),Inv X aj σ H s->Vals xs us->r xs H Q->
  wpAny (~~~2) X.A (call f us) (EP X aj σ Q) X.xe s
abbrev TruR(X:Cx)(r:V->Hp->(Bool->Hp->Prop)->Prop):Prop:=
 ∀(aj: ~~~1) (s:Shared) (σ:St) (H:Hp) (x:V) (v:Value) (Q:Bool->Hp->Prop),Inv X aj σ H s->RelV x v->r x H Q->
  wpAny (~~~2) X.A (truthy v) (TP X aj σ Q) X.xe s
abbrev tOp(r:R2)(ta tb:TE):TE:=λσ H Q=>ta σ H λx H1=>tb σ H1 λy H2=>r x y H2 Q
abbrev tUn(r:V->Hp->VK->Prop)(ta:TE):TE:=λσ H Q=>ta σ H λx H1=>r x H1 Q
abbrev rI(C:Int->Int->Prop)(g:Int->Int->V):R2:=λx y H Q=>∃i j,x=.int i/\y=.int j/\C i j/\Q (g i j) H
abbrev LK(g:Int->Int->V):R2:=λx y H Q=>∃i j,x=.int i/\y=.int j/\Q (g i j) H
abbrev rU(g:Int->V):V->Hp->VK->Prop:=λx H Q=>∃i,x=.int i/\Q (g i) H
section
variable{X:Cx}{a b c:Expr}{ta tb tc:TE}{pos:Pos}
def Sw(ha:PE X a ta)(hb:PE X b tb){aj: ~~~1}{s:Shared}{σ:St}{H:Hp}{R:V->V->Hp->Prop}(I: ~~~7)
  (h:ta σ H λx H1=>tb σ H1 λy H2=>R x y H2) {Q:Value->Shared->Prop}{f:Value->Value->Sem Value}
  (hf:∀v u s2 x y H2,Inv X aj σ H2 s2->RelV x v->RelV y u->R x y H2->wpAny (~~~2) X.A (f v u) Q X.xe s2) :
  wpAny (~~~2) X.A (eval a X.env) (λv s₁=>wpAny (~~~2) X.A (eval b X.env) (λu s₂=>wpAny (~~~2) X.A (f v u) Q X.xe s₂) X.xe s₁) X.xe s:=by
 apply bY (ha aj s σ H _ I h) λv s1 #[x,H1,I1,r1,q1]=>?_
 apply bY (hb aj s1 σ H1 _ I1 q1) λu s2 #[y,H2,I2,r2,q2]=>?_
 show hf v u s2 x y H2 I2 r1 r2 q2
def YX{op:Operator}{r:R2}(ho:n6 X (binaryOp op) r)(ha:PE X a ta)(hb:PE X b tb):PE X (.BinOp a op b pos) (tOp r ta tb):=by intro aj s σ H Q I h;show wpAny_BinOp (Sw ha hb I h λv u s2 x y H2 I2 rx ry q=>ho aj s2 σ H2 x y v u Q I2 rx ry q)
def Q9{op:UnaryOp}{r:V->Hp->VK->Prop}(ho:UnR X (unaryOp op) r)(ha:PE X a ta):PE X (.UnaryOp op a pos) (tUn r ta):=by intro aj s σ H Q I h;show UnaryOp_ (bY (ha aj s σ H _ I h) (by rintro v s1 ⟨x,H1,I1,r1,q1⟩;show ho aj s1 σ H1 x v Q I1 r1 q1))
def opI{f:Value->Value->Sem Value}{C:Int->Int->Prop}{g:Int->Int->Int}
  (rule:∀(i j:Int) (t u:Tok) (s:Shared) (Q:Value->Shared->Prop) (E:Value->Shared->Prop),C i j->Q (.int (g i j) s.toks) { s with toks:=s.toks+1}->wpAny (~~~2) X.A (f (.int i t) (.int j u)) Q E s) :
  n6 X f (rI C λi j=>.int (g i j)):=by
 intro aj s σ H x y v u Q I rx ry h;let(i,j,rfl,rfl,hc,q):=h;let(t,rfl):=rx;let(t',rfl):=ry;show rule i j t t' s _ _ hc #[.int (g i j),H,I.tok _,#[_,rfl],q]
def YZ{f:Value->Value->Sem Value}{g:Int->Int->Int}
  (rule:∀(i j:Int) (t u:Tok) (s:Shared) (Q:Value->Shared->Prop) (E:Value->Shared->Prop),Q (.int (g i j) s.toks) { s with toks:=s.toks+1}->wpAny (~~~2) X.A (f (.int i t) (.int j u)) Q E s) :
  n6 X f (LK λi j=>.int (g i j)):=by
 intro aj s σ H x y v u Q I rx ry h;let(i,j,rfl,rfl,q):=h;let(t,rfl):=rx;let(t',rfl):=ry;show rule i j t t' s _ _ #[.int (g i j),H,I.tok _,#[_,rfl],q]
def Mr{f:Value->Value->Sem Value}{g:Int->Int->Bool}
  (rule:∀(i j:Int) (t u:Tok) (s:Shared) (Q:Value->Shared->Prop) (E:Value->Shared->Prop),Q (.bool (g i j)) s->wpAny (~~~2) X.A (f (.int i t) (.int j u)) Q E s) :
  n6 X f (LK λi j=>.bl (g i j)):=by
 intro aj s σ H x y v u Q I rx ry h;let(i,j,rfl,rfl,q):=h;let(t,rfl):=rx;let(t',rfl):=ry;show rule i j t t' s _ _ #[.bl (g i j),H,I,rfl,q]
abbrev CDiv(i j:Int):Prop:=0<j/\j<1073741824
abbrev CPow(i j:Int):Prop:=0<=j/\j<=1000000/\i.natAbs<2 ^ 64
abbrev Sx(i j:Int):Prop:=(-(2 ^ 64)<i/\i<2 ^ 64)\/(-(2 ^ 64)<j/\j<2 ^ 64)
def Sx.ok{i j:Int}(h:Sx i j):IntMulOk i j:=by
 rcases h with ⟨h1,h2⟩ |⟨h1,h2⟩
 . show .of_left (intBits_le_64 h1 h2)
 . show .of_right (intBits_le_64 h1 h2)
def Sy:n6 X (binaryOp .Add) (LK λi j=>.int (i+j)):=YZ λ_ _ _ _ _ _ _ q=>add_int q
def Sz:n6 X (binaryOp .Sub) (LK λi j=>.int (i - j)):=YZ λ_ _ _ _ _ _ _ q=>sub_int q
def SJ:n6 X (binaryOp .Mult) (rI Sx λi j=>.int (i * j)):=opI λ_ _ _ _ _ _ _ hc q=>mul_int q hc.ok
def Ms:n6 X (binaryOp .FloorDiv) (rI CDiv λi j=>.int (i / j)):=opI λi j _ _ _ _ _ hc q=>by
 have h1:=hc.1;have h2:=hc.2;show floordiv_int ⋯ (by rw[Int.fdiv_eq_ediv_of_nonneg i ⋯];show q) (.inl (PyProof.noPylong_small ⋯))
def SM:n6 X (binaryOp .Mod) (rI (λ_ j=>0<j) λi j=>.int (i % j)):=opI λi j _ _ _ _ _ hc q=>by
 show mod_int' ⋯ (by rw[Int.fmod_eq_emod_of_nonneg i ⋯];show q)
def tZ:n6 X (binaryOp .Pow) (rI CPow λi j=>.int (i ^ j.toNat)):=opI λ_ _ _ _ _ _ _ hc q=>pow_int_small hc.1 hc.2.1 hc.2.2 q
def unI{f:Value->Sem Value}{g:Int->Int}
  (rule:∀(i:Int) (t:Tok) (s:Shared) (Q:Value->Shared->Prop) (E:Value->Shared->Prop),Q (.int (g i) s.toks) { s with toks:=s.toks+1}->wpAny (~~~2) X.A (f (.int i t)) Q E s) :
  UnR X f (rU λi=>.int (g i)):=by
 intro aj s σ H x v Q I rx h;let(i,rfl,q):=h;let(t,rfl):=rx;show rule i t s _ _ #[.int (g i),H,I.tok _,#[_,rfl],q]
def G0:UnR X (unaryOp .USub) (rU λi=>.int (-i)):=unI λ_ _ _ _ _ q=>neg_int q
end
section
variable{X:Cx}{a b c:Expr}{ta tb tc:TE}{pos:Pos}
def Y0:n6 X (compareOp .Lt) (LK λi j=>.bl (decide (i<j))):=Mr λ_ _ _ _ _ _ _ q=>lt_int q
def Y3:n6 X (compareOp .LtE) (LK λi j=>.bl (decide (i<=j))):=Mr λ_ _ _ _ _ _ _ q=>le_int q
def Y4:n6 X (compareOp .Gt) (LK λi j=>.bl (decide (j<i))):=Mr λ_ _ _ _ _ _ _ q=>gt_int q
def Y5:n6 X (compareOp .GtE) (LK λi j=>.bl (decide (j<=i))):=Mr λ_ _ _ _ _ _ _ q=>ge_int q
def Bb{op:CmpOp}{r:R2}(ho:n6 X (compareOp op) r)(ha:PE X a ta)(hb:PE X b tb)(hm:behindInMarks op b=false):PE X (.Compare a [op] [b] pos) (tOp r ta tb):=by intro aj s σ H Q I h;show wpAny_Compare1 (Sw ha hb I h λv u s2 x y H2 I2 rx ry q=>ho aj s2 σ H2 x y v u Q I2 rx ry q) hm
abbrev Y6(t:TE):TT:=λσ H Q=>t σ H λx H'=>∃k,x=.bl k/\Q k H'
def uc{op:CmpOp}{r:R2}(ho:n6 X (compareOp op) r)(ha:PE X a ta)(hb:PE X b tb)(hm:behindInMarks op b=false):PT X (.Compare a [op] [b] pos) (Y6 (tOp r ta tb)):=by
 intro aj s σ H Q I h;apply wpAny_isTrue_Compare1 (bY (ha aj s σ H _ I h) λv s1 #[x,H1,I1,r1,q1]=>bY (hb aj s1 σ H1 _ I1 q1) λu s2 #[y,H2,I2,r2,q2]=>
  bY (ho aj s2 σ H2 x y v u _ I2 r1 r2 q2) λc s3 #[z,H3,I3,r3,k,e,q3]=>?_) hm
 subst e;cases r3;show nN #[H3,I3,q3]
abbrev Y7(K:Frag)(x:V)(H:Hp)(k:Bool):Prop:=
 match x with
 |.non=>k=false
 |.bl b=>k=b
 |.int i=>k=(i != 0)
 |.str y=>y.length<=sizeLine/\k=((y.length:Int) != 0)
 |.RZ y=>y.size<=sizeLine/\k=((y.size:Int) != 0)
 |.ref p=>(∃xs,cg K H p xs/\k=(not xs.isEmpty))\/(∃xs,gF K H p xs/\k=(not xs.isEmpty))\/∃iN,H p=!(.dK iN)/\k=(not iN.isEmpty)
 |_=>False
def yP{κ:Type}{iN:List (κ×V)}{vs:List (κ×Value)}(r:KV iN vs):((not vs.isEmpty))=(not iN.isEmpty):=by cases r <;> rfl
def pq{xs:List V}{aA:List Value}(r:Vals xs aA):((not aA.toArray.isEmpty))=(not xs.isEmpty):=by cases r <;> simp
def yQ:(sizeLine:Nat)<2 ^ 63:=by rw[oQ];decide
def SN:TruR X (λx H Q=>∃k,Y7 X.K x H k/\Q k H):=by
 intro aj s σ H x v Q I rx h;let(k,e,q):=h;have hs:=oQ;cases x with
 |non=>cases rx;have e':=e;subst e';show truthy_none #[H,I,q]
 |bl b=>cases rx;have e':=e;subst e';show nN #[H,I,q]
 |int i=>let(t,rfl):=rx;have e':=e;subst e';show PySem.P.truthy_int #[H,I,q]
 |str y=>let(t,rfl):=rx;obtain⟨hy,e'⟩:y.length<=sizeLine/\k=((y.length:Int) != 0):=e;subst e';show PySem.P.truthy_str ⋯ #[H,I.tok _,q]
 |RZ y=>let(t,rfl):=rx;obtain⟨hy,e'⟩:y.size<=sizeLine/\k=((y.size:Int) != 0):=e;subst e';show PySem.W.truthy_bytes ⋯ #[H,I.tok _,q]
 |ref p=>
  cases rx;have e':=e;rcases e' with ⟨xs,hx,e'⟩ |⟨xs,hx,e'⟩ |⟨iN,hx,e'⟩
  . subst e';let(aA,r,pl,hz):=I.list hx;have aN:=r.length;show wpAny_truthy_list pl.isList (by simp only[dL];lia) #[H,I.tok _,by rw[pq r];show q]
  . subst e';let(aA,r,pl,hz):=I.tuple hx;have aN:=r.length;show truthy_tuple pl (by simp only[dL];lia) #[H,I.tok _,by rw[pq r];show q]
  . subst e';obtain⟨hz,hS,vs,r,m⟩:iN.length<=sizeLine/\(p==sysModules)=false/\∃vs,KV iN vs/\s.heap.DictOf (g7 X.prog X.w) p vs:=I.hok p _ hx;have aN:=Paired.length r;show wpAny_truthy_dict hS m ⋯ #[H,I.tok _,by rw[yP r];show q]
 |_=>show (show False from e).elim
def G3(ha:PE X a ta)(he:∀whole,isTrue a X.env whole=(do let v <- whole;standAt a.pos;holding [v] (truthy v))) :
  PT X a (λσ H Q=>ta σ H λx H'=>∃k,Y7 X.K x H' k/\Q k H'):=by
 intro aj s σ H Q I h;show isTrue_plain (bY (ha aj s σ H _ I h) (by rintro v s1 ⟨x,H1,I1,r1,q1⟩;show SN aj s1 σ H1 x v Q I1 r1 q1)) (he _)
def vals1(r:Vals [x] us):∃u,us=[u]/\RelV x u:=by
 cases r with
 |cons r1 r2=>cases r2;show#[_,rfl,r1]
def vals2(r:Vals [x,y] us):∃u w',us=[u,w']/\RelV x u/\RelV y w':=by
 cases r with
 |cons r1 r2=>
  cases r2 with
  |cons r3 r4=>cases r4;show#[_,_,rfl,r1,r3]
def Dg(hc:X.calm=true):e9 X (.builtin "max") (λxs H Q=>∃i j,xs=[.int i,.int j]/\Q (.int (if j > i then j else i)) H):=by
 intro aj s σ H xs us Q I r h;let(i,j,rfl,q):=h;let(u,w',rfl,(t,rfl),(t',rfl)):=vals2 r;apply max_two_ints (I.ok.hd hc) λh' tk k=>#[_,H,I.kept k,?_,q]
 by_cases hj:j > i
 . rw[i7 hj,i7 hj];show#[_,rfl]
 . rw[lL hj,lL hj];show#[_,rfl]
def Dh(hc:X.calm=true):e9 X (.builtin "min") (λxs H Q=>∃i j,xs=[.int i,.int j]/\Q (.int (if j<i then j else i)) H):=by
 intro aj s σ H xs us Q I r h;let(i,j,rfl,q):=h;let(u,w',rfl,(t,rfl),(t',rfl)):=vals2 r;apply min_two_ints (I.ok.hd hc) λh' tk k=>#[_,H,I.kept k,?_,q]
 by_cases hj:j<i
 . rw[i7 hj,i7 hj];show#[_,rfl]
 . rw[lL hj,lL hj];show#[_,rfl]
abbrev LenV(K:Frag)(x:V)(H:Hp)(n:Nat):Prop:=
 match x with
 |.str y=>y.length<=sizeLine/\n=y.length
 |.RZ y=>y.size<=sizeLine/\n=y.size
 |.ref p=>(∃xs,cg K H p xs/\n=xs.length)\/∃xs,gF K H p xs/\n=xs.length
 |_=>False
def G4:e9 X (.builtin "len") (λxs H Q=>∃x n,xs=[x]/\LenV X.K x H n/\Q (.int n) H):=by
 intro aj s σ H xs us Q I r h;let(x,n,rfl,e,q):=h;let(u,rfl,rx):=vals1 r;have hs:=oQ;cases x with
 |str y=>let(t,rfl):=rx;obtain⟨hy,e'⟩:y.length<=sizeLine/\n=y.length:=e;subst e';show len_str ⋯ #[.int _,H,I.tok _,#[_,rfl],q]
 |RZ y=>let(t,rfl):=rx;obtain⟨hy,e'⟩:y.size<=sizeLine/\n=y.size:=e;subst e';show PySem.W.len_bytes ⋯ #[.int _,H,I.tok _,#[_,rfl],q]
 |ref p=>
  cases rx;have e':=e;rcases e' with ⟨xs,hx,e'⟩ |⟨xs,hx,e'⟩
  . subst e';let(aA,r',pl,hz):=I.list hx;have aN:=r'.length;show Calls.call_len_list pl.isList (by simp only[dL];lia) #[.int xs.length,H,I.tok _,#[_,by simp only[dL];rw[aN]],q]
  . subst e';let(aA,r',pl,hz):=I.tuple hx;have aN:=r'.length;show len_tuple pl (by simp only[dL];lia) #[.int xs.length,H,I.tok _,#[_,by simp only[dL];rw[aN]],q]
 |_=>show (show False from e).elim
end
structure cO(k:Nat)(A:Around):Prop where
 hd:A.handled=none
 dp:A.depth+3 * k+5<recursionLimit
 un:A.units+16 * k+200<cLine
def cO.mono(r:cO k A)(h:j<=k):cO j A:=#[r.hd,by have:=r.dp;lia,by have:=r.un;lia]
def cO.deeper(r:cO (k+1) A)(env:Env):cO k (A.deeper env):=
 #[r.hd,by have:=r.dp;exact A.depth+1+3 * k+5<_;lia,by have:=r.un;exact A.units+3+16 * k+200<_;lia]
def cO.depth(r:cO k A):A.depth<recursionLimit:=by have:=r.dp;lia
def cO.units(r:cO k A):A.units+64<cLine:=by have:=r.un;lia
abbrev tNil:TA:=λ_ H Q=>Q [] H
abbrev Y8(ta:TE)(tr:TA):TA:=λσ H Q=>ta σ H λx H1=>tr σ H1 λxs H2=>Q (x::xs) H2
section
variable{X:Cx}{e:Expr}{es:List Expr}{te:TE}{t:TA}{pos:Pos}
def eU:PA X [] tNil:=λ_ _ _ _ H Q I h=>Calls.spliced_nil #[[],H,I,.nil,h]
def bJ(ha:PE X e te)(hr:PA X es t)(hs:starEach (e::es) X.env=(false,eval e X.env)::starEach es X.env:=by rfl):PA X (e::es) (Y8 te t):=by intro pos aj s σ H Q I h;rw[hs];apply Calls.spliced_cons (bY (ha aj s σ H _ I h) ?_);rintro u s1 ⟨x,H1,I1,r1,q1⟩;show bY (hr pos aj s1 σ H1 _ I1 q1) (by rintro us s2 ⟨xs,H2,I2,r2,q2⟩;show#[x::xs,H2,I2,.cons r1 r2,q2])
abbrev tTup(t:TA):TE:=λσ H Q=>t σ H λxs H1=>xs.length<=sizeLine/\∀p,H1 p=none->Q (.ref p) (upd H1 p (.tup xs))
abbrev tLst(t:TA):TE:=λσ H Q=>t σ H λxs H1=>xs.length<=sizeLine/\∀p,H1 p=none->Q (.ref p) (upd H1 p (.lst xs))
def G5{x1}(h:PA X es t):PE X (.Tuple es x1 pos) (tTup t):=by
 intro aj s σ H Q I hq;apply wpAny_Tuple_spliced (bY (h pos aj s σ H _ I hq) λus s1 #[xs,H1,I1,r,z,q]=>#[by rw[<- r.length];show z,?_])
 have hf:=I1.hok.fresh (eA _);apply#[.ref s1⁻¹,upd H1 s1⁻¹ (.tup xs),I1.laid (λb u e=>dA _ e) (eA _) ?_,rfl,q _ hf]
 show#[z,us,r,#[_,eD _ rfl,#[rfl,_,rfl],rfl]]
def yR(h:PA X es t):PE X (.List es pos) (tLst t):=by
 intro aj s σ H Q I hq;apply wpAny_List_spliced (bY (h pos aj s σ H _ I hq) λus s1 #[xs,H1,I1,r,z,q]=>#[by rw[<- r.length];show z,?_])
 have hf:=I1.hok.fresh (eA _);apply#[.ref s1⁻¹,upd H1 s1⁻¹ (.lst xs),I1.laid (λb u e=>dA _ e) (eA _) ?_,rfl,q _ hf]
 show#[z,us,0,r,eD _ rfl]
end
def Sp:=List V->Hp->VK->XK->Prop
def Di:=List Env->Hp->Shared->XK->Value->Shared->Prop
structure G6(P:Program)(w:World)(K:Frag)(mg:Str->Option Value)(base:Heap)(A:Around)(outer:List Env)(s:Shared)(H:Hp):Prop where
 frames:A.frames=!outer
 mod:Mod K mg base
 bs:∀b o,base.get? b=!o->s.heap.get? b=!o/\H b=none
 GC:base.objs.size<=s⁻¹
 kJ:s.heap.FunFrames base outer
 Ml:∀b∈frs outer,H b=none
 hok:lT P w H s.heap
 bare:AllBare s.gens
abbrev CE(outer:List Env)(P:Program)(w:World)(H:Hp)(s:Shared)(Q:VK)(u:Value)(s':Shared):Prop:=
 ∃v H',s'.os=s.os/\AllBare s'.gens/\Un (frs outer) [] H H' s.heap s'.heap/\lT P w H' s'.heap/\RelV v u/\Q v H'
abbrev CR(CX:Di)(outer:List Env)(P:Program)(w:World)(H:Hp)(s:Shared)(Q:VK)(E:XK)(r:Result)(s':Shared):Prop:=
 match r with
 |.ok (.ret u)=>CE outer P w H s Q u s'
 |.ok _=>False
 |.error e=>CX outer H s E e s'
structure jT(P:Program)(w:World)(K:Frag)(mg:Str->Option Value)(base:Heap)(CX:Di)(k:Nat)(f:Addr)(fd:FuncData)(ps:List Str)(sp:Sp):Prop where
 len:∀vs H Q E,sp vs H Q E->vs.length=ps.length
 run:∀(A:Around) (outer:List Env) (s:Shared) (H:Hp) (args:Args) (us:List Value) (vs:List V) (Q:VK) (E:XK),cO k A->G6 P w K mg base A outer s H->BindsTo s fd args (ps.zip us)->Vals vs us->sp vs H Q E->
  codeAny (model P w) A (.call (.ref f) args) (CR CX outer P w H s Q E) s
section
variable{X:Cx}{aj: ~~~1}{σ:St}{H:Hp}{s s':Shared}
def Inv.Mu(I: ~~~7):G6 X.prog X.w X.K X.mg X.base X.A X.stack s H:=
 #[I.ok.frames,I.ok.mod,I.bs,i9 I.ok.GC I.sz,I.stack,I.tT,I.hok,I.bare]
def Inv.after(I: ~~~7)(h:CE X.stack X.prog X.w H s Q u s'):EP X aj σ Q u s':=by let(v,H',os,bare,un,hok,r,q):=h;let(hh,g,d,t,os'):=s';obtain rfl:os'=s.os:=os;show#[v,H',I.call un hok bare (λb z=>absurd z ⋯),r,q]
end
abbrev Y9(sp:Sp)(jw:List V)(E:XK)(t:TA):TE:=λσ H Q=>t σ H λvs H1=>sp (vs++jw) H1 Q E
abbrev Binds(K:Frag)(fd:FuncData)(ps:List Str)(ds:List Value):Prop:=
 ∀(s:Shared) (us:List Value),K.In s.heap->(us++ds).length=ps.length->BindsTo s fd #[us,[]] (ps.zip (us++ds))
def Binds.all{K:Frag}{fd:FuncData}{ps:List Str}(h:∀us:List Value,us.length=ps.length->bindArgs fd #[us,[]]=pure (ps.zip us)):Binds K fd ps []:=λs us _ hl=>by
 rw[mB]at hl ⊢
 show .of_eq (h us hl)
abbrev Passes(CX:Di)(X:Cx)(E:XK):Prop:=∀(aj: ~~~1) (σ:St) (H:Hp) (s:Shared) (e:Value) (s':Shared),Inv X aj σ H s->CX X.stack H s E e s'->X.xe e s'
section
variable{X:Cx}{CX:Di}{k:Nat}{f C:Addr}{fd:FuncData}{ps:List Str}{sp:Sp}{jw:List V}{ds:List Value}{E:XK}{x m:Str}{p pos cG:Pos}{e o:Expr}{es:List Expr}{ta:TE}{t:TA}
def SQ{aj: ~~~1}{σ:St}{H:Hp}{s:Shared}{Q:VK}{us:List Value}{vs:List V}(F:jT X.prog X.w X.K X.mg X.base CX k f fd ps sp)(hr:cO k X.A)(hb:Binds X.K fd ps ds)(hd:Vals jw ds)(hx:Passes CX X E)
  (I: ~~~7) (r:Vals vs us) (h:sp (vs++jw) H Q E):wpAny (~~~2) X.A (call (.ref f) us) (EP X aj σ Q) X.xe s:=by
 have r2:=r.append hd;have hl:(us++ds).length=ps.length:=by rw[<- r2.length];show F.len _ _ _ _ h
 apply DJ (BF (F.run X.A X.stack s H #[us,[]] (us++ds) (vs++jw) Q E hr I.Mu (hb s us I.nj hl) r2 h) λr s' hq=>?_)
 cases r with
 |error e=>show hx aj σ H s e s' I hq
 |ok fl=>
  cases fl with
  |ret u=>show I.after hq
  |next=>show False.elim hq
  |brk=>show False.elim hq
  |cont=>show False.elim hq
def Bc(F:jT X.prog X.w X.K X.mg X.base CX k f fd ps sp)(hr:cO k X.A)(hg:Gl X x)(hm:X.mg x=!(.ref f))(hk:PySem.W.keepIn X.K (.ref f)=true)(hb:Binds X.K fd ps ds)(hd:Vals jw ds)(hx:Passes CX X E)
  (ha:PA X (e::es) t) (jR:(x==(~~~3))=false:=by decide) (he:starEach (e::es) X.env=(false,eval e X.env)::starEach es X.env:=by rfl) (lP:(backTo pos (starEach es X.env)).any (·.1)=false:=by rfl) :
  PE X (.Call (.Name x p) (e::es) [] pos) (Y9 sp jw E t):=by
 intro aj s σ H Q I h;apply u8 (fW I hg hm ?_ jR);apply AS I.ok.mod.Gj hk (bY (ha pos aj s σ H _ I h) λus s1 #[vs,H1,I1,r,q]=>#[I1.nj,?_]) he lP
 show SQ F hr hb hd hx I1 r q
structure Mk(K:Frag)(C f:Addr):Prop where
 makes:PySem.W.makesIn K C=true
 init:PySem.W.findIn K (.ref C) "__init__"=!(!(.ref f))
 fn:PySem.W.isFn K (.ref f)=true
 kp:PySem.W.keepIn K (.ref C)=true
end
structure cI(N P:List Str)(sc:Scope):Prop where
 kind:sc.kind=.function
 co:sc.isCoroutine=false
 gen:sc.isGenerator=false
 nd:N.Nodup
 pre:N.take P.length=P
 par:∀x∈P,sc.names.lookup x=some .local\/sc.names.lookup x=some .cell
 SX:∀y∈sc.names,y.2≠.free
def rX{kindOf:Str->Option NameKind}{x:Str}:∀{binds:List (Str×Value)}{m:Str->Option Value},(∀v,(x,v)∉binds)->bindL kindOf binds m x=m x
 | [],_,_=>rfl
 | (n,v)::r,m,h=>by
  delta bindL;rw[rX λw hw=>h w (bP _ hw)]
  split
  .
   have:x≠n:=by rintro rfl;show h v dC
   simp[this]
  . rfl
def rY{kindOf:Str->Option NameKind}{x:Str}:∀{binds:List (Str×Value)}{m:Str->Option Value},(∀v,(x,v)∉binds)->bindC kindOf binds m x=m x
 | [],_,_=>rfl
 | (n,v)::r,m,h=>by
  delta bindC;rw[rY λw hw=>h w (bP _ hw)]
  split
  . rfl
  .
   have:x≠n:=by rintro rfl;show h v dC
   simp[this]
def rZ{kindOf:Str->Option NameKind}{x:Str}{v:Value}:∀{P:List Str}{vs:List Value}{i:Nat}{m:Str->Option Value},P.Nodup->P[i]?=!x->vs[i]?=!v->kindOf x=some .local->
  bindL kindOf (P.zip vs) m x=!v
 | [],_,_,_,_,h,_,_=>by simp at h
 |_::_,[],_,_,_,_,h,_=>by simp at h
 |p::P,w::vs,0,m,nd,h1,h2,hk=>by
  simp at h1 h2;subst h1;subst h2;exact bindL kindOf ((p,w)::P.zip vs) m p=_;delta bindL;rw[rX λv hv=>(i6.mp nd).1 (C8 hv).1,i7 hk]
  simp
 |p::P,w::vs,i+1,m,nd,h1,h2,hk=>by
  delta bindL;show rZ (i6.mp nd).2 (by simpa using h1) (by simpa using h2) hk
def r9{kindOf:Str->Option NameKind}{x:Str}{v:Value}:∀{P:List Str}{vs:List Value}{i:Nat}{m:Str->Option Value},P.Nodup->P[i]?=!x->vs[i]?=!v->kindOf x≠some .local->
  bindC kindOf (P.zip vs) m x=!v
 | [],_,_,_,_,h,_,_=>by simp at h
 |_::_,[],_,_,_,_,h,_=>by simp at h
 |p::P,w::vs,0,m,nd,h1,h2,hk=>by
  simp at h1 h2;subst h1;subst h2;exact bindC kindOf ((p,w)::P.zip vs) m p=_;delta bindC;rw[rY λv hv=>(i6.mp nd).1 (C8 hv).1,lL hk]
  simp
 |p::P,w::vs,i+1,m,nd,h1,h2,hk=>by
  delta bindC;show r9 (i6.mp nd).2 (by simpa using h1) (by simpa using h2) hk
abbrev start(N:List Str)(vs:List V):St:=vs.map some++List.replicate (N.length - vs.length) none
abbrev g9(CX:Di)(P:Program)(w:World)(K:Frag)(mg:Str->Option Value)(base:Heap)(N:List Str)(qual:Str)(scope:Scope)(f:Addr)(cd:Value)(A:Around)(outer:List Env)(s:Shared)(H:Hp)(E:XK):Cx where
 prog:=P
 w:=w
 K:=K
 mg:=mg
 base:=base
 A:=A.deeper (envOfC qual scope s⁻¹ f cd)
 N:=N
 s₀:=s
 H₀:=H
 env:=envOfC qual scope s⁻¹ f cd
 outer:=outer
 stack:=envOfC qual scope s⁻¹ f cd::outer
 ex:=[]
 calm:=true
 fn:=λ_=>true
 pn:=[]
 xe:=λe s'=>wpAny (model P w) (A.deeper (envOfC qual scope s⁻¹ f cd)) (leaving (envOfC qual scope s⁻¹ f cd) e) (λ_ s''=>CX outer H s E e s'') (λe' s''=>CX outer H s E e' s'') s'
def vX{sc:Scope}{n:Nat}{x:Str}(h:sc.names.lookup x=some .cell):∃c,(cellsFrom n sc.names []).lookup x=!c:=by have q:=Cn sc.names n [] (.inl h);show Option.isSome_iff_exists.mp q
def se{CX:Di}{P:Program}{w:World}{K:Frag}{mg:Str->Option Value}{base:Heap}{N ps:List Str}{qual:Str}{scope:Scope}{f:Addr}{cd:Value}{A:Around}{outer:List Env}{s s1:Shared}{H:Hp}{E:XK}{us:List Value}{vs:List V}
  (S:cI N ps scope) (hd:A.handled=none) (e0:G6 P w K mg base A outer s H) (hl:vs.length=ps.length) (r:Vals vs us)
  (x:InCallC s s⁻¹ (bindL (envOfC qual scope s⁻¹ f cd).kindOf (ps.zip us) λ_=>none) (cellsFrom (s⁻¹+1) scope.names []) (bindC (envOfC qual scope s⁻¹ f cd).kindOf (ps.zip us) λ_=>none) s1) :
  Inv (g9 CX P w K mg base N qual scope f cd A outer s H E) [] (start N vs) H s1:=by
 have lP:ps.length<=N.length:=by have:=congrArg List.length S.pre;rw[wE]at this;lia
 let(h1,tk,rfl,hk):=x.done;have Za:∀b:Addr,b∉(g9 CX P w K mg base N qual scope f cd A outer s H E).ex:=λb z=>absurd (show b∈([]:List Addr)from z) ⋯
 apply#[#[e0.mod,S.kind,rfl,rfl,eA _,λy z c h1 h2=>?_,λy hy=>?_,λy c _ h=>?_,λ_=>hd,Around.frames_deeper e0.frames,.inr #[rfl,rfl],λb z=>absurd z (Za b),e0.bs,e0.GC,λb _ _=>Za b,λb z=>absurd z (Za b),e0.kJ,e0.Ml],
  rfl,e0.bare,Un.kept hk,#[_,x.toInCall.ns,λi y v h1 h2 h3=>?_],λy c h=>#[_,x.cell y c h],e0.hok.fresh (eA _),λy c h=>?_,λp hp=>absurd (show p∈([]: ~~~1)from hp) ⋯,e0.hok.kept hk,?_]
 . show name_of_addr x.apart (AM h1) (AM h2)
 .
  have hy:=hy;rcases hy with hy |hy
  . show vX hy
  . show absurd rfl (S.SX _ (AM hy))
 . show DD (x.above y c (AM h))
 .
  have hi:i<vs.length:=by
   delta start at h2;by_cases hi:i<vs.length
   . show hi
   .
    rw[eC (by simpa using hi)]at h2
    rw[AO]at h2;split at h2 <;> cases h2
  have ha:vs[i]?=!v:=by
   delta start at h2;rw[d6 (by simpa using hi),pV]at h2
   cases e:vs[i]? with
   |none=>rw[e]at h2;cases h2
   |some a=>rw[e]at h2;cases h2;rfl
  let(u,hu,rv):=r.get ha;have hp:ps[i]?=!y:=by rw[<- S.pre,AH ⋯];show h1
  have ndP:ps.Nodup:=by rw[<- S.pre];show S.nd.sublist (List.take_sublist _ _)
  apply#[u,rv,?_];rcases S.par y (l7 hp)with k |k
  . show .inl #[k,rZ ndP hp hu k]
  .
   let(c,e):=vX k;apply .inr #[.inl k,c,e,?_];have q:=x.cell y c e;rw[r9 ndP hp hu (by exact scope.names.lookup y≠_;rw[k];decide)]at q
   show q
 . show e0.hok.fresh (DD (x.above y c (AM h)))
 . delta start;exact _=N.length;rw[eP,eJ,hV];lia
def Ra{CX:Di}{P:Program}{w:World}{K:Frag}{mg:Str->Option Value}{base:Heap}{k:Nat}{f:Addr}{name qual:Str}{params:Arguments}{body:List Stmt}{scope:Scope}{dV kV doc pm bO ct oc:Value}{an od:Option Addr}
  {osl:Array (Option Value)}{N ps:List Str}{sp:Sp} (lk:K.lookup f=!#[oc,od,.func (PySem.W.fnOf name qual params body scope dV kV doc pm an bO ct),osl]) (bZ:PySem.W.codeIn K bO qual=true) (S:cI N ps scope)
  (len:∀vs H Q E,sp vs H Q E->vs.length=ps.length)
  (hbody:∀(A:Around) (outer:List Env) (s:Shared) (H:Hp) (vs:List V) (Q:VK) (E:XK),cO k (A.deeper (envOfC qual scope s⁻¹ f bO))->sp vs H Q E->
   ∃t,tU (g9 CX P w K mg base N qual scope f bO A outer s H E) body t/\t { nx:=λ_ H'=>Q .non H',rt:=Q} (start N vs) H) :
  jT P w K mg base CX (k+1) f (PySem.W.fnOf name qual params body scope dV kV doc pm an bO ct) ps sp:=by
 apply#[len,λA outer s H args us vs Q E hr e0 hb r XT=>?_]
 have hl:=len _ _ _ _ XT;have KX:=e0.mod.Gj.keeps λb o e=>(e0.bs b o e).1
 have lim:=e0.mod.nolimit.keeps λb o e=>(e0.bs b o e).1
 have hkind:∀y∈ps.zip us,scope.names.lookup y.1=some .local\/(scope.names.lookup y.1=some .cell/\((cellsFrom (s⁻¹+1) scope.names []).lookup y.1).isSome=true):=by
  rintro⟨n,v⟩ hy;rcases S.par n (C8 hy).1 with q |q
  . show .inl q
  . show .inr #[q,Cn _ _ _ (.inl q)]
 apply codeAny_call_function hr.depth (KX _ _ lk) rfl S.co S.gen rfl (PySem.W.codeRec_of KX bZ) (hb _ _ _ _ ?_);apply wpAny_newFunctionEnv_cells S.kind hkind λenv he s1 x=>?_
 subst he;apply#[lim.keeps x.toInCall.keep,codeAny_func ?_];let(t,ht,hq):=hbody A outer s H vs Q E (hr.deeper _) XT;have I:Inv (g9 CX P w K mg base N qual scope f bO A outer s H E) [] (start N vs) H s1:=se S hr.hd e0 hl r x;apply l6 (ht [] s1 (start N vs) H _ I hq) (λfl s' hs=>?_) λe s' hs=>hs
 have fin:∀{σ':St}{H':Hp}{v:V}{u:Value},Inv (g9 CX P w K mg base N qual scope f bO A outer s H E) [] σ' H' s'->RelV v u->Q v H'->CE outer P w H s Q u s':=
  λ{σ' H' v u} J rv q=>#[v,H',J.os,J.bare,J.base,J.hok,rv,q]
 cases fl with
 |ret u=>let(v,σ',H',J,rv,q):=hs;show fin J rv q
 |next=>let(σ',H',J,q):=hs;show fin (v:=V.non) J rfl q
 |brk=>let(_,_,_,q):=hs;show False.elim q
 |cont=>let(_,_,_,q):=hs;show False.elim q
section
variable{X:Cx}{x:Str}{p pos:Pos}{e:Expr}{es:List Expr}{t:TA}{id T:String}{r:List V->Hp->VK->Prop}
abbrev tCB(r:List V->Hp->VK->Prop)(t:TA):TE:=λσ H Q=>t σ H λvs H1=>r vs H1 Q
def kL(hc:e9 X (.builtin id) r)(hg:Gl X x)(hm:X.mg x=none)(hv:bootBuiltins x=!(.builtin id))(ha:PA X (e::es) t)(hn:x≠ "__name__" :=by decide)(jR:(x==(~~~3))=false:=by decide)
  (he:starEach (e::es) X.env=(false,eval e X.env)::starEach es X.env:=by rfl) (lP:(backTo pos (starEach es X.env)).any (·.1)=false:=by rfl):PE X (.Call (.Name x p) (e::es) [] pos) (tCB r t):=by
 intro aj s σ H Q I h;apply u8 (g8 I hg hm hv ?_ hn jR);show PyProof.Rows.callWith_builtin1 (bY (ha pos aj s σ H _ I h) (by rintro us s1 ⟨vs,H1,I1,r1,q1⟩;show hc aj s1 σ H1 vs us Q I1 r1 q1)) he lP
def Dj(hc:e9 X (.type T) r)(hg:Gl X x)(hm:X.mg x=none)(hv:bootBuiltins x=!(.type T))(ha:PA X (e::es) t)(hn:x≠ "__name__" :=by decide)(jR:(x==(~~~3))=false:=by decide)
  (he:starEach (e::es) X.env=(false,eval e X.env)::starEach es X.env:=by rfl) (lP:(backTo pos (starEach es X.env)).any (·.1)=false:=by rfl):PE X (.Call (.Name x p) (e::es) [] pos) (tCB r t):=by
 intro aj s σ H Q I h;apply u8 (g8 I hg hm hv ?_ hn jR);show oI (bY (ha pos aj s σ H _ I h) λus s1 #[vs,H1,I1,r1,q1]=>hc aj s1 σ H1 vs us Q I1 r1 q1) he lP
end
end L2
namespace HT
open PySem PyProof.Rows
abbrev lexLt: ~~~0->~~~0->Bool
 | [],[]=>false
 | [],_::_=>true
 |_::_,[]=>false
 |x::xs,y::ys=>if x=y then lexLt xs ys else decide (x<y)
def dR(x y:Int)(xs ys: ~~~0):lexLt (x::xs) (y::ys)=if x=y then lexLt xs ys else decide (x<y):=rfl
def rA:lexLt [] []=false:=rfl
def pF(y:Int)(ys: ~~~0):lexLt [] (y::ys)=true:=rfl
def pG(x:Int)(xs: ~~~0):lexLt (x::xs) []=false:=rfl
def G7(A:Around)(s:Shared)(a:Int)(t:Tok)(c:Int)(u:Tok):∃e,SeqAt.EqAt A s (.int a t) (.int c u) e/\(e=true ↔ a=c):=
 #[(a==c),SeqAt.EqAt.int_int a t c u,by simp]
def G8(A:Around)(s:Shared)(a:Int)(t:Tok)(c:Int)(u:Tok)(prog:Program)(w:World)(E:Value->Shared->Prop)(Q:Value->Shared->Prop)(h:Q (.bool (decide (a<c))) s) :
  wpAny (model prog w) A (richCompare .Lt (.int a t) (.int c u)) Q E s:=
 (PyProof.Rows.lt_int h:wpAny (model prog w) A (compareOp .Lt (.int a t) (.int c u)) Q E s)
section
open PySem.SeqAt
open PySem.AutoSeq1 (wpAny_loadPart')
open PySem.MeetsSeq PySem.MeetsSeq2 PySem.MeetsSeq3
def rB(l b:Addr)(ak items2:Array Value)(n n2:Nat)(dd dd2:Option Addr)(sl sl2:Array (Option Value))(ns ms: ~~~0)(hi:IntsAre ak.toList ns)(hj:IntsAre items2.toList ms) :
  Meets (Builtin.«tuple.__lt__» #[[.ref l,.ref b],[]])
   (λ_ R s=>s.heap.get? l=some { cls:=.type "tuple",dict:=dd,data:=.seq ak n,slots:=sl}/\s.heap.get? b=some { cls:=.type "tuple",dict:=dd2,data:=.seq items2 n2,slots:=sl2}/\
    R (.ok (.ret (.bool (lexLt ns ms)))) s):=
 .of_wp λprog w A R s h=>by
  let(hp,g,d,tk,os):=s;let(hl,hb,h):=h;have f2:=AutoSeq1.sub_tuple_tuple;have z1:ak.size=ns.length:=by rw[<- hi.length];simp
  have z2:items2.size=ms.length:=by rw[<- hj.length];simp
  wp_walk using wpAny_loadPart' hl,wpAny_loadPart' hb,wpAny_forIn_list _ (λrest b s'=>b.1=none/\s'=#[hp,g,d,tk,os]/\∃(vs ws:List Value) (ns' ms': ~~~0),rest=vs.zip ws/\
   IntsAre vs ns'/\IntsAre ws ms'/\ns'.length+items2.size=ms'.length+ak.size/\R (.ok (.ret (.bool (lexLt ns' ms')))) #[hp,g,d,tk,os]) _
  case turn=>
   rintro⟨y,x⟩ rest b s' ⟨hb',rfl,vs,ws,ns',ms',hz,XX,hwi,aN,hR⟩;cases XX with
   |nil=>rw[List.zip_nil_left]at hz;cases hz
   |cons a t hvi'=>
    cases hwi with
    |nil=>rw[List.zip_nil_right]at hz;cases hz
    |cons c u hwi'=>
     rw[BY]at hz;injection hz with hyx hrest;injection hyx with hy hx;subst hy hx;rw[dR]at hR;simp only[kA]at aN;let(e,he,hiff):=G7 A.in1 #[hp,g,d,tk,os] a t c u;apply aS (he prog w _ _ ?_);cases e with
     |true=>
      rw[i7 (hiff.mp rfl)]at hR
      wp_walk
      show#[rfl,rfl,_,_,_,_,hrest,hvi',hwi',by lia,hR]
     |false=>
      rw[lL (λq=>absurd (hiff.mpr q) tJ)]at hR
      have hri:=G8 A.in1 #[hp,g,d,tk,os] a t c u prog w
      wp_walk using hri
      show#[_,rfl,by simpa using hR]
  case fin=>
   rintro⟨b1,b2⟩ s' ⟨hb',rfl,vs,ws,ns',ms',hz,XX,hwi,aN,hR⟩;simp only at hb';subst hb';have hv:lexLt ns' ms'=decide (ak.size<items2.size):=by
    cases XX with
    |nil=>
     cases hwi with
     |nil=>simp only[Db]at aN;rw[rA];show (oD ⋯).symm
     |cons c u hw=>simp only[Db,kA]at aN;rw[pF];show (oC ⋯).symm
    |cons a t hv=>
     cases hwi with
     |nil=>simp only[Db,kA]at aN;rw[pG];show (oD ⋯).symm
     |cons c u hw=>rw[BY]at hz;cases hz
   rw[hv]at hR
   wp_walk
   show#[_,rfl,by simpa [Builtin.Tuple.tupleCompareSizes]using hR]
  case h=>show#[rfl,rfl,ak.toList,items2.toList,ns,ms,rfl,hi,hj,by lia,h]
end
section
variable{prog:Program}{w:World}{A:Around}{E:Value->Shared->Prop}{s:Shared}
def pH(hl:IsTup s.heap l ak)(hb:IsTup s.heap b items2)(hi:IntsAre ak.toList ns)(hj:IntsAre items2.toList ms)
  (hu:A.units<cLine) (h:Q (.bool (lexLt ns ms)) s):wpAny (model prog w) A (compareOp .Lt (.ref l) (.ref b)) Q E s:=by
 let((cls,dd,data,sl),ho,hc,n,hd):=id hl;let((Zb,dd2,data2,sl2),ho2,hc2,n2,hd2):=id hb;subst hc hd hc2 hd2;show richCompare_meets_room (op:=.Lt) #[_,ho,rfl] #[_,ho2,rfl] PySem.F.slot_tuple_lt PySem.F.entry_tuple_lt (PySem.F.args_tuple_lt_2 _ _) (rB l b ak items2 n n2 dd dd2 sl sl2 ns ms hi hj)
  #[ho,ho2,show Value.bool (lexLt ns ms)≠Value.notImplemented/\Q (.bool (lexLt ns ms)) s from#[(λx=>nomatch x),h]] hu
def Mv(ht:IsTup s.heap t vs.toArray)(hb:IsTup s.heap b ws.toArray)(hv:vs≠[])
  (h1:ws=[]->Q (.ref t) s) (h2:ws≠[]->Q (.ref s⁻¹) { s with heap:=s.heap.push { cls:=.type "tuple",data:=.seq (vs++ws).toArray}})
  (jK:vs.length+ws.length<=sizeLine):wpAny (model prog w) A (binaryOp .Add (.ref t) (.ref b)) Q E s:=by
 let((cls,dd,data,sl),ho,hc,n,hd):=id ht;let((Zb,dd2,data2,sl2),ho2,hc2,n2,hd2):=id hb;subst hc hd hc2 hd2;have e:vs.toArray++ws.toArray=(vs++ws).toArray:=by simp
 by_cases hw:ws=[]
 .
  show concat_meets #[_,ho,rfl] #[_,ho2,rfl] noFill_tuple_add seq_tuple_add Co B3 (BH _ _)
   (tuple_addW1 t b vs.toArray ws.toArray n n2 dd dd2 sl sl2 (by simpa using hv) (by simp[hw])) #[ho,ho2,h1 hw]
 .
  apply concat_meets #[_,ho,rfl] #[_,ho2,rfl] noFill_tuple_add seq_tuple_add Co B3 (BH _ _)
   (tuple_addW2 t b vs.toArray ws.toArray n n2 dd dd2 sl sl2 (by simpa using hv) (by simpa using hw) (by rw[dL];show jK)) #[ho,ho2,?_]
  rw[e];show h2 hw
abbrev cR(n d:Nat):Option Int->Nat
 |none=>d
 |some v=>if v<0 then (v+(n:Int)).toNat else min v.toNat n
def Bd(v:Int)(n d:Nat):(if v<0 then max (v+(n:Int)) 0 else min v (n:Int))=((cR n d (!v):Nat):Int):=by
 exact (if v<0 then max (v+(n:Int)) 0 else min v (n:Int))=(((if v<0 then (v+(n:Int)).toNat else min v.toNat n):Nat):Int)
 by_cases hv:v<0
 . simp only[i7 hv];lia
 . simp only[lL hv];lia
def yS(lo hi:Option Int)(n:Nat):Builtin.Slice.sliceAdjust lo hi 1 (n:Int)=(((cR n 0 lo:Nat):Int),((cR n n hi:Nat):Int)):=by
 have h1 : ¬ ((1:Int)<0):=by lia
 delta Builtin.Slice.sliceAdjust;apply Prod.ext ?_ ?_
 .
  cases lo with
  |none=>rfl
  |some v=>show Bd v n 0
 .
  cases hi with
  |none=>rfl
  |some v=>show Bd v n n
def yT(i j:Nat):Builtin.Slice.slicePlaces (i:Int) (j:Int) 1=j - i:=by
 delta Builtin.Slice.slicePlaces;have h1:(1:Int) > 0:=by lia
 split <;> lia
def jU(p:IsPart v o)(h:Q o s):wpAny (model prog w) A (Builtin.Slice.slicePartIndex v) Q E s:=by
 cases p with
 |none=>show slicePart_none h
 |int i t=>show slicePart_int h
def gG{sl:Addr}{vl vu:Value}{lo hi:Option Int}{n:Nat}{Q:Int×Int×Nat->Shared->Prop}(hs:s.heap.IsSliceOf sl vl vu .none)(pl:IsPart vl lo)(pu:IsPart vu hi)
  (h:Q (((cR n 0 lo:Nat):Int),1,cR n n hi - cR n 0 lo) s):wpAny (model prog w) A (Builtin.Slice.sliceApplied (.ref sl) (pure (n:Int))) Q E s:=by
 let(os,hos,hcs,hds):=id hs;apply aS (aS (mP hos hds rfl (aS (mP hos hds rfl (aS (mP hos hds rfl (d5 ?_)))))));apply aS (slicePart_none ?_);apply aS (jU pl (aS (jU pu (aS (d5 ?_)))));exact wpAny _ _ (match Builtin.Slice.sliceAdjust lo hi 1 (n:Int)with | (lo,hi)=>pure (lo,(1:Int),Builtin.Slice.slicePlaces lo hi 1)) _ _ s
 rw[yS lo hi n];exact wpAny _ _ (pure (((cR n 0 lo:Nat):Int),(1:Int),Builtin.Slice.slicePlaces ((cR n 0 lo:Nat):Int) ((cR n n hi:Nat):Int) 1)) _ _ s;rw[yT];show d5 h
def G9(xs:Array Value)(i k:Nat):((List.range k).filterMap λ(m:Nat)=>xs[((i:Int)+(m:Int) * 1).toNat]?).toArray=((xs.toList.drop i).take k).toArray:=by
 have e:(λ(m:Nat)=>xs[((i:Int)+(m:Int) * 1).toNat]?)=λm=>xs[i+m]?:=by
  funext m
  have:((i:Int)+(m:Int) * 1).toNat=i+m:=by lia
  rw[this]
 rw[e];have:=pick_run xs i k;rw[List.filterMap_map]at this;have e2:((λx=>xs[x]?) ∘ λx=>i+x)=λm=>xs[i+m]?:=rfl
 rw[e2]at this;rw[this]
def kM{t sl:Addr}{ak:Array Value}{vl vu:Value}{lo hi:Option Int}{Q:Value->Shared->Prop}(ht:IsTup s.heap t ak)(hs:s.heap.IsSliceOf sl vl vu .none)(pl:IsPart vl lo)(pu:IsPart vu hi)
  (hw : ¬ (cR ak.size 0 lo=0/\cR ak.size ak.size hi=ak.size))
  (h:Q (.ref s⁻¹) { s with heap:=s.heap.push { cls:=.type "tuple",data:=.seq ((ak.toList.drop (cR ak.size 0 lo)).take (cR ak.size ak.size hi - cR ak.size 0 lo)).toArray}})
  (jK:ak.size<=sizeLine):wpAny (model prog w) A (getItem (.ref t) (.ref sl)) Q E s:=by
 have kN:sizeOk (.seq ((ak.toList.drop (cR ak.size 0 lo)).take (cR ak.size ak.size hi - cR ak.size 0 lo)).toArray):=by exact ((ak.toList.drop (cR ak.size 0 lo)).take (cR ak.size ak.size hi - cR ak.size 0 lo)).toArray.size<=sizeLine;rw[dL,wE,List.length_drop,sB];lia
 let(os,hos,hcs,hds):=id hs;have Zc:s.TypeIs (.ref sl) "slice" :=#[os,hos,hcs];delta getItem
 try with_reducible apply mE ?_
 first |apply aS (d5 ?_) |skip
 apply aS (wpAny_sequenceKey ht.typeIs ⋯ ?_);apply aS (sT ht.typeIs oP
  (wP oP ht.typeIs entry_tuple_getitem ?_ (args_tuple_getitem _ _)))
 exact wpAny _ _ (Builtin.Tuple.tupleItemsOf (.ref t) >>= _) _ _ s;apply aS (tupleItemsOf_ ht ?_);apply aS (DE Zc ?_);apply aS (gG hs pl pu ?_);have hno : ¬ ((((cR ak.size 0 lo:Nat):Int)==0&&(1:Int)==1&&(cR ak.size ak.size hi - cR ak.size 0 lo)==ak.size)=true):=by intro q;rw[eQ,eQ]at q;show hw #[by lia,by lia]
 exact wpAny _ _ (if (((cR ak.size 0 lo:Nat):Int)==0&&(1:Int)==1&&(cR ak.size ak.size hi - cR ak.size 0 lo)==ak.size)=true then _ else _) _ _ s
 rw[lL hno,G9]
 first
  |show aS (nS (d5 #[_,rfl,d5 h]) kN)
  |show aS (nS (aS (d5 (d5 #[_,rfl,d5 h]))) kN)
  |show aS (aS (nS (d5 (d5 #[_,rfl,d5 h])) kN))
  |show aS (aS (nS (d5 #[_,rfl,d5 h]) kN))
end
end HT
namespace L2
def TO:=St->Hp->(Option Int->Hp->Prop)->Prop
abbrev PO(X:Cx)(e:Option Expr)(t:TO):Prop:=
 ∀(aj: ~~~1) (s:Shared) (σ:St) (H:Hp) (Q:Option Int->Hp->Prop),Inv X aj σ H s->t σ H Q->
  wpAny (~~~2) X.A (evalPart e X.env) (λu s'=>∃o H',Inv X aj σ H' s'/\IsPart u o/\Q o H') X.xe s
abbrev Mw:TO:=λ_ H Q=>Q none H
abbrev Zd(t:TE):TO:=λσ H Q=>t σ H λx H1=>∃i,x=.int i/\Q (!i) H1
def intsAre_of:∀{us:List Value},Vals (ns.map V.int) us->IntsAre us ns:=by
 induction ns with
 |nil=>intro us r;rw[List.map_nil]at r;cases r;show .nil
 |cons n ns ih=>
  intro us r;cases r with
  |cons r1 r2=>let(t,e):=r1;subst e;show .cons n t (ih r2)
section
variable{X:Cx}{e:Expr}{te:TE}{lo hi:Option Expr}{tl th:TO}{pos p2:Pos}
def Mx:PO X none Mw:=by intro aj s σ H Q I h;show d5 #[none,H,I,.none,h]
def My(h:PE X e te):PO X (!e) (Zd te):=by intro aj s σ H Q I hw;apply bY (h aj s σ H _ I hw) ?_;rintro u s1 ⟨x,H1,I1,r1,q1⟩;let(i,rfl,q):=q1;let(t,rfl):=r1;show#[!i,H1,I1,.int i t,q]
abbrev SlR(X:Cx)(r:V->Option Int->Option Int->Hp->VK->Prop):Prop:=
 ∀(aj: ~~~1) (s:Shared) (σ:St) (H:Hp) (x:V) (v vl vu:Value) (lo hi:Option Int) (sl:Addr) (Q:VK),Inv X aj σ H s->RelV x v->s.heap.IsSliceOf sl vl vu .none->IsPart vl lo->IsPart vu hi->r x lo hi H Q->
  ∃T id,typeLookup (.type T) "__getitem__"=pure (!(.builtin id))/\s.TypeIs v T/\wpAny (~~~2) X.A (getItem v (.ref sl)) (EP X aj σ Q) X.xe s
abbrev tSl(r:V->Option Int->Option Int->Hp->VK->Prop)(te:TE)(tl th:TO):TE:=λσ H Q=>te σ H λx H1=>tl σ H1 λl H2=>th σ H2 λu H3=>r x l u H3 Q
def pI{r:V->Option Int->Option Int->Hp->VK->Prop}(hr:SlR X r)(he:PE X e te)(hl:PO X lo tl)(hu:PO X hi th):PE X (.Subscript e (.Slice lo hi none p2) pos) (tSl r te tl th):=by
 intro aj s σ H Q I h;apply Subscript_ (bY (he aj s σ H _ I h) ?_);rintro v s1 ⟨x,H1,I1,r1,q1⟩;apply wpAny_Slice (bY (hl aj s1 σ H1 _ I1 q1) λvl s2 #[l,H2,I2,pl,q2]=>bY (hu aj s2 σ H2 _ I2 q2) ?_)
 rintro vu s3 ⟨u,H3,I3,pu,q3⟩;apply d5 ?_;have I4:Inv X aj σ H3 { s3 with heap:=s3.heap.push { cls:=.type "slice",data:=.fields ([vl,vu,.none].toArray)}}:=I3.kept λb ob q=>dA _ q
 let(T,id,hT,ht,hg):=hr aj { s3 with heap:=s3.heap.push { cls:=.type "slice",data:=.fields ([vl,vu,.none].toArray)}} σ H3 x v vl vu l u s3⁻¹ Q I4 r1 (Heap.IsSliceOf.new ..) pl pu q3;show tail_any ht hT hg (by with_unfolding_all rfl)
abbrev yU(xs:List V)(lo hi:Option Int):List V:=(xs.drop (HT.cR xs.length 0 lo)).take (HT.cR xs.length xs.length hi - HT.cR xs.length 0 lo)
def nk(xs:List V)(lo hi:Option Int):(yU xs lo hi).length<=xs.length:=by delta yU;rw[wE,List.length_drop];lia
abbrev rSlT(K:Frag):V->Option Int->Option Int->Hp->VK->Prop:=λx lo hi H Q=>∃a xs,x=.ref a/\gF K H a xs/\
 ¬ (HT.cR xs.length 0 lo=0/\HT.cR xs.length xs.length hi=xs.length)/\∀p,H p=none->Q (.ref p) (upd H p (.tup (yU xs lo hi)))
def S0:SlR X (rSlT X.K):=by
 intro aj s σ H x v vl vu lo hi sl Q I rx hs pl pu h;let(a,xs,rfl,hx,hw,q):=h;cases rx;let(aA,r,ht,hz):=I.tuple hx;have aN:aA.toArray.size=xs.length:=by rw[dL];show r.length.symm
 apply#["tuple",_,PyProof.Rows.slot_tuple_getitem.lookup,ht.typeIs,?_];apply HT.kM ht hs pl pu (by rw[aN];show hw) ?_ (by rw[aN];show hz)
 rw[aN];apply#[.ref s⁻¹,_,I.laid (λb ob q=>dA _ q) (eA _) ?_,rfl,q _ (I.hok.fresh (eA _))]
 show#[i9 (nk xs lo hi) hz,_,(r.drop (HT.cR xs.length 0 lo)).take (HT.cR xs.length xs.length hi - HT.cR xs.length 0 lo),gj.new _ _]
abbrev rLtT(K:Frag):R2:=λx y H Q=>∃a b ns ms,x=.ref a/\y=.ref b/\gF K H a (ns.map V.int)/\gF K H b (ms.map V.int)/\Q (.bl (HT.lexLt ns ms)) H
def S8(hu:X.A.units<cLine):n6 X (compareOp .Lt) (rLtT X.K):=by intro aj s σ H x y v u Q I rx ry h;let(a,b,ns,ms,rfl,rfl,ha,hb,q):=h;cases rx;cases ry;let(aA,r1,p1,_):=I.tuple ha;let(oB,r2,p2,_):=I.tuple hb;have i1:=intsAre_of r1;have i2:=intsAre_of r2;show HT.pH p1 p2 i1 i2 hu #[.bl (HT.lexLt ns ms),H,I,rfl,q]
abbrev Ze(K:Frag):R2:=λx y H Q=>∃a b xs ys,x=.ref a/\y=.ref b/\gF K H a xs/\gF K H b ys/\xs≠[]/\xs.length+ys.length<=sizeLine/\
 (ys=[]->Q (.ref a) H)/\(ys≠[]->∀p,H p=none->Q (.ref p) (upd H p (.tup (xs++ys))))
def Vals.ud(r:Vals xs us):us=[] ↔ xs=[]:=by
 cases r with
 |nil=>simp
 |cons _ _=>simp
def Mz:n6 X (binaryOp .Add) (Ze X.K):=by
 intro aj s σ H x y v u Q I rx ry h;let(a,b,xs,ys,rfl,rfl,ha,hb,hx,hz,q1,q2):=h;cases rx;cases ry;let(aA,r1,p1,_):=I.tuple ha;let(oB,r2,p2,_):=I.tuple hb;apply HT.Mv p1 p2 (λz=>hx (r1.ud.mp z)) (λz=>#[.ref a,H,I,rfl,q1 (r2.ud.mp z)]) (λz=>?_) (by rw[<- r1.length,<- r2.length];show hz)
 apply#[.ref s⁻¹,_,I.laid (λb ob q=>dA _ q) (eA _) ?_,rfl,q2 (λw=>z (r2.ud.mpr w)) _ (I.hok.fresh (eA _))]
 show#[by rw[eP];show hz,_,r1.append r2,gj.new _ _]
end
abbrev uf(n:Nat)(i:Int):Option Nat:=if 0<=i then (if i<n then some i.toNat else none)else if -(n:Int)<=i then some (i+n).toNat else none
abbrev gD{α:Type}(xs:List α)(i:Int):Option α:=(uf xs.length i).bind λj=>xs[j]?
def ug(h:uf n i=!j):seqIndex? i n=!j/\j<n/\-(n:Int)<=i/\i<n:=by
 delta uf at h;by_cases h0:0<=i
 .
  rw[i7 h0]at h;by_cases h1:i<n
  . rw[i7 h1]at h;have e:=o6 h;show#[by rw[seqIndex_of h0 h1,e],by lia,by lia,h1]
  . rw[lL h1]at h;symm
 .
  rw[lL h0]at h;by_cases h1 : -(n:Int)<=i
  . rw[i7 h1]at h;have e:=o6 h;show#[by rw[seqIndex_neg ⋯ h1,e],by lia,h1,by lia]
  . rw[lL h1]at h;symm
def Be{α:Type}{xs:List α}{i:Int}{v:α}(h:gD xs i=!v):∃j,seqIndex? i xs.length=!j/\xs[j]?=!v/\j<xs.length/\-(xs.length:Int)<=i/\i<xs.length:=by
 delta gD at h;cases e:uf xs.length i with
 |none=>rw[e]at h;symm
 |some j=>rw[e]at h;let(h1,h2,h3,h4):=ug e;show#[j,h1,h,h2,h3,h4]
abbrev uh(b:Expr):Prop:=∀o i,subscripted b false o i=operate [o,i] (getItem o i)
abbrev Zf(X:Cx)(r:R2):Prop:=
 ∀(value slice:Expr) (aj: ~~~1) (s:Shared) (σ:St) (H:Hp) (x y:V) (v u:Value) (Q:VK),Inv X aj σ H s->RelV x v->RelV y u->r x y H Q->
  subscripted slice false v u=operate [v,u] (getItem v u)->wpAny (~~~2) X.A (subscriptTail value slice v u) (EP X aj σ Q) X.xe s
abbrev MtR(X:Cx)(id:String)(r:V->List V->Hp->VK->Prop):Prop:=
 ∀(aj: ~~~1) (s:Shared) (σ:St) (H:Hp) (x:V) (xs:List V) (v:Value) (us:List Value) (Q:VK),Inv X aj σ H s->RelV x v->Vals xs us->r x xs H Q->
  wpAny (~~~2) X.A (call (.builtin id) (v::us)) (EP X aj σ Q) X.xe s
section
variable{X:Cx}{a b:Expr}{ta tb:TE}{pos:Pos}
def Rb{r:R2}(hr:Zf X r)(ha:PE X a ta)(hb:PE X b tb)(hs:uh b):PE X (.Subscript a b pos) (tOp r ta tb):=by intro aj s σ H Q I h;show Subscript_ (Sw ha hb I h λv u s2 x y H2 I2 rx ry q=>hr a b aj s2 σ H2 x y v u Q I2 rx ry q (hs _ _))
abbrev rIxL(K:Frag):R2:=λx y H Q=>∃p xs i v,x=.ref p/\y=.int i/\cg K H p xs/\gD xs i=!v/\Q v H
abbrev rIxT(K:Frag):R2:=λx y H Q=>∃p xs i v,x=.ref p/\y=.int i/\gF K H p xs/\gD xs i=!v/\Q v H
def um:Zf X (rIxL X.K):=by
 intro value slice aj s σ H x y v u Q I rx ry h hs;let(p,xs,i,z,rfl,rfl,hq,he,q):=h;cases rx;let(t,rfl):=ry;let(aA,r,pl,hz):=I.list hq;let(j,h1,h2,h3,h4,h5):=Be he;let(w,ew,rw'):=r.get h2;have hl:=r.length;have hn:=yQ;have fin:EP X aj σ Q w s:=#[z,H,I,rw',q];by_cases h0:0<=i
 .
  have hj:i.toNat=j:=by rw[seqIndex_of h0 h5]at h1;show o6 h1
  show item_listR pl.isList h0 ⋯ (by rw[hj];simpa using ew) fin hs
 .
  have hj:(i+(aA.toArray.size:Int)).toNat=j:=by rw[seqIndex_neg ⋯ h4]at h1;rw[dL,<- hl];show o6 h1
  show subscriptTail_builtinR pl.isList.typeIs slot_list_getitem.lookup
   (wpAny_getItem_list_neg pl.isList ⋯ (by rw[dL] <;> lia) ⋯ (by rw[hj];simpa using ew) #[rfl,fin]) hs
def S9:Zf X (rIxT X.K):=by
 intro value slice aj s σ H x y v u Q I rx ry h hs;let(p,xs,i,z,rfl,rfl,hq,he,q):=h;cases rx;let(t,rfl):=ry;let(aA,r,pl,hz):=I.tuple hq;let(j,h1,h2,h3,h4,h5):=Be he;let(w,ew,rw'):=r.get h2;have hl:=r.length;have hn:=yQ;have fin:EP X aj σ Q w s:=#[z,H,I,rw',q];show subscriptTail_builtinR pl.typeIs slot_tuple_getitem.lookup
  (getItem_tuple pl ⋯ ⋯ (by rw[dL,<- hl];show h1) (by simpa using ew) #[rfl,fin]) hs
def yV(aA:List Value)(n j:Nat)(u:Value):Obj.mapSeq (·.setIfInBounds j u) { cls:=.type "list",data:=.seq aA.toArray n}={ cls:=.type "list",data:=.seq (aA.set j u).toArray n}:=by simp[Obj.mapSeq]
def Inv.lst{aj: ~~~1}{σ:St}{H:Hp}{s:Shared}{p:Addr}{xs:List V}(I: ~~~7)(h:H p=!(.lst xs)) :
  ∃(aA:List Value) (n:Nat),Vals xs aA/\s.heap.get? p=some { cls:=.type "list",data:=.seq aA.toArray n}/\xs.length<=sizeLine:=by
 let(z,aA,n,r,e):=I.hok p _ h;show#[aA,n,r,e,z]
def Inv.Tc{aj: ~~~1}{σ:St}{H:Hp}{s:Shared}{p:Addr}{xs ys:List V}{aA its':List Value}{n n':Nat}{f:Obj->Obj}(I: ~~~7)(h:H p=!(.lst xs))
  (ho:s.heap.get? p=some { cls:=.type "list",data:=.seq aA.toArray n}) (hf:f { cls:=.type "list",data:=.seq aA.toArray n}={ cls:=.type "list",data:=.seq its'.toArray n'}) (r:Vals ys its') (hz:ys.length<=sizeLine) (t:Nat) :
  Inv X aj σ (upd H p (.lst ys)) { s with heap:=s.heap.update p f,toks:=t}:=by
 have e:(s.heap.update p f).get? p=some { cls:=.type "list",data:=.seq its'.toArray n'}:=by rw[nV f ho (by rw[hf] <;> rfl),hf]
 apply I.write (by rw[h];trivial) (.inl rfl) (λb u hb q=>(hU _ _ (mM hb)).trans q) #[_,e] ?_
 show#[hz,its',n',r,e]
abbrev Zg:V->V->V->Hp->(Hp->Prop)->Prop:=λo i v H Q=>∃p xs k j,o=.ref p/\i=.int k/\H p=!(.lst xs)/\uf xs.length k=!j/\Q (upd H p (.lst (xs.set j v)))
def set_list:YJ X Zg:=by
 intro aj s σ H o i v ov iv u Q I ro ri rv h;let(p,xs,k,j,rfl,rfl,hp,hj,q):=h;cases ro;let(t,rfl):=ri;let(aA,n,r,ho,hz):=I.lst hp;let(h1,h2,h3,h4):=ug hj;have hl:=r.length;have hn:=yQ;have I':=
  I.Tc hp ho (yV aA n j u) (r.set rv j) (by rw[n0];show hz) s.toks
 by_cases h0:0<=k
 .
  have hk:k.toNat=j:=by rw[seqIndex_of h0 h4]at h1;show o6 h1
  show PySem.W.ki_setAt ho h0 ⋯ (by rw[dL,<- hl];show h4) (by rw[hk];show#[_,I',q])
 .
  have hk:(k+(aA.toArray.size:Int)).toNat=j:=by rw[seqIndex_neg ⋯ h3]at h1;rw[dL,<- hl];show o6 h1
  show PySem.W.ki_setBack ho ⋯ (by rw[dL,<- hl];show h3) ⋯ (by rw[hk];show#[_,I',q])
def uo(lo hi:Option Int)(n:Nat):(sliceBounds lo hi none n).1=((HT.cR n 0 lo:Nat):Int)/\(sliceBounds lo hi none n).2.1=((HT.cR n n hi:Nat):Int)/\(sliceBounds lo hi none n).2.2=1:=by
 apply#[?_,?_,rfl]
 .
  cases lo with
  |none=>simp[sliceBounds,HT.cR]
  |some i=>
   simp only[sliceBounds,HT.cR,Option.getD_none];by_cases h:i<0
   . simp only[h] <;> lia
   . simp only[h] <;> lia
 .
  cases hi with
  |none=>simp[sliceBounds,HT.cR]
  |some i=>
   simp only[sliceBounds,HT.cR,Option.getD_none];by_cases h:i<0
   . simp only[h] <;> lia
   . simp only[h] <;> lia
def rC(aA:List Value)(lo hi:Option Int):slicePick aA.toArray lo hi none=((aA.drop (HT.cR aA.length 0 lo)).take (HT.cR aA.length aA.length hi - HT.cR aA.length 0 lo)).toArray:=by let(h1,h2,h3):=uo lo hi aA.toArray.size;delta slicePick;rw[h1,h2,h3];simp only[sliceRange_one,pick_run] <;> rfl
abbrev rSlL(K:Frag):V->Option Int->Option Int->Hp->VK->Prop:=λx lo hi H Q=>∃a xs,x=.ref a/\cg K H a xs/\∀p,H p=none->Q (.ref p) (upd H p (.lst (yU xs lo hi)))
def Bf:SlR X (rSlL X.K):=by
 intro aj s σ H x v vl vu lo hi sl Q I rx hs pl pu h;let(a,xs,rfl,hx,q):=h;cases rx;let(aA,r,ht,hz):=I.list hx;have aN:=r.length;apply#["list",_,slot_list_getitem.lookup,ht.isList.typeIs,?_];apply wpAny_getItem_list_slice ht.isList hs pl pu .none ⋯ ?_ (by rw[dL] <;> lia)
 rw[rC,<- aN];apply#[.ref s⁻¹,_,I.laid (λb ob q=>dA _ q) (eA _) ?_,rfl,q _ (I.hok.fresh (eA _))]
 show#[i9 (nk xs lo hi) hz,_,0,(r.drop (HT.cR xs.length 0 lo)).take (HT.cR xs.length xs.length hi - HT.cR xs.length 0 lo),eD _ rfl]
def uq:e9 X (.type "list") (λxs H Q=>∃p ys,xs=[.ref p]/\(cg X.K H p ys\/gF X.K H p ys)/\∀l,H l=none->Q (.ref l) (upd H l (.lst ys))):=by
 intro aj s σ H xs us Q I r h;let(p,ys,rfl,hq,q):=h;let(u,rfl,rx):=vals1 r;cases rx;have fin:∀(aA:List Value),Vals ys aA->ys.length<=sizeLine->∀(h':Heap) (c':Nat),(∀b o',s.heap.get? b=!o'->h'.get? b=!o')->
   h'.get? s⁻¹=some { cls:=.type "list",dict:=none,data:=.seq aA.toArray c',slots:=([].toArray)}->EP X aj σ Q (.ref s⁻¹) { s with heap:=h'}:=λaA r' hz h' c' kp e=>
  #[.ref s⁻¹,_,I.laid kp (eA _) (show cX X.prog X.w _ h' _ (.lst ys)from#[hz,aA,c',r',e]),rfl,q _ (I.hok.fresh (eA _))]
 rcases hq with hq |hq
 . let(aA,r',pl,hz):=I.list hq;have aN:=r'.length;let(o,ho,hc,n,hd):=pl.isList;show call_list_seq p (.inl rfl) ho hc hd (λh' c' kp e=>fin aA r' hz h' c' kp e) (by simp only[dL] <;> lia)
 . let(aA,r',pl,hz):=I.tuple hq;have aN:=r'.length;let(o,ho,hc,n,hd):=pl;show call_list_seq p (.inr rfl) ho hc hd (λh' c' kp e=>fin aA r' hz h' c' kp e) (by simp only[dL] <;> lia)
def rD:e9 X (.type "tuple") (λxs H Q=>∃p ys,xs=[.ref p]/\((cg X.K H p ys/\∀l,H l=none->Q (.ref l) (upd H l (.tup ys)))\/(gF X.K H p ys/\Q (.ref p) H))):=by
 intro aj s σ H xs us Q I r h;let(p,ys,rfl,h):=h;let(u,rfl,rx):=vals1 r;cases rx;rcases h with ⟨hq,q⟩ |⟨hq,q⟩
 .
  let(aA,r',pl,hz):=I.list hq;have aN:=r'.length;apply call_tuple_list pl.isList (λh' kp=>?_) (by simp only[dL] <;> lia)
  have I1:=I.kept (t':=s.toks) kp;have I2:=
   I1.laid (t':=s.toks) (λb o e=>dA _ e) (eA _) (show cX X.prog X.w _ _ _ (.tup ys)from#[hz,aA,r',gj.new _ _])
  show#[.ref h'.objs.size,_,I2,rfl,q _ (I1.hok.fresh (eA _))]
 . let(aA,r',pl,hz):=I.tuple hq;show call_tuple_same pl #[.ref p,H,I,rfl,q]
abbrev tyV(K:Frag)(T:String)(x:V)(H:Hp):Prop:=match x with
 |.str _=>T = "str"
 |.int _=>T = "int"
 |.ref p=>(T = "list" /\∃xs,cg K H p xs)\/(T = "tuple" /\∃o,K.lookup p=!o/\o.cls=.type "tuple" /\o.dict=none)\/
   (T = "dict" /\((∃iN,H p=!(.dK iN))\/∃iN,H p=!(.dT iN)))\/(T = "set" /\∃S n,H p=!(.set S n))
 |_=>False
def Td{aj: ~~~1}{σ:St}{H:Hp}{s:Shared}{T:String}{x:V}{v:Value}(I: ~~~7)(r:RelV x v)(ty:tyV X.K T x H) :
  s.TypeIs v T/\∀a,v=.ref a->∃ob,s.heap.get? a=!ob/\ob.dict=none:=by
 cases x with
 |str z=>
  let(t,rfl):=r;cases (show T = "str" from ty)
  show#[typeIs_str s z t,λ_ e=>nomatch e]
 |int i=>
  let(t,rfl):=r;cases (show T = "int" from ty)
  show#[typeIs_int s i t,λ_ e=>nomatch e]
 |ref p=>
  cases r;rcases ty with ⟨rfl,xs,hq⟩ |⟨rfl,o,hk,hc,hd⟩ |⟨rfl,hk⟩ |⟨rfl,S,n,hk⟩
  .
   let(aA,_,pl,_):=I.list hq;apply#[pl.isList.typeIs,λa e=>?_]
   cases e;let(o,n,e,c,hd,_):=pl;show#[o,e,hd]
  .
   apply#[#[o,I.nj p o hk,hc],λa e=>?_]
   cases e;show#[o,I.nj _ o hk,hd]
  .
   have z:∃o,s.heap.get? p=!o/\o.ExactDict:=by
    rcases hk with ⟨iN,hk⟩ |⟨iN,hk⟩
    . let(_,_,_,_,o,_,_,e,ex,_):=I.hok p _ hk;show#[o,e,ex]
    . let(_,_,_,_,o,_,_,e,ex,_):=I.hok p _ hk;show#[o,e,ex]
   let(o,e,ex):=z;apply#[#[o,e,ex.1],λa e2=>?_]
   cases e2;show#[o,e,ex.2.1]
  .
   let(o,_,_,_,e,ex,_):=I.hok p _ hk;apply#[#[o,e,ex.1],λa e2=>?_]
   cases e2;show#[o,e,ex.2.1]
 |_=>show False.elim ty
abbrev tBM(K:Frag)(T:String)(r:V->List V->Hp->VK->Prop)(to:TE)(t:TA):TE:=λσ H Q=>to σ H λx H1=>tyV K T x H1/\t σ H1 λxs H2=>r x xs H2 Q
variable{o e:Expr}{es:List Expr}{to:TE}{t:TA}{name:Str}{cG bw:Pos}{T id:String}{r:V->List V->Hp->VK->Prop}
def vY(pa:PlainAttrs T)(slot:Slot T name id)(hty:typeOf (.builtin id)=pure (.type "method_descriptor"))(hm:MtR X id r)(ho:PE X o to)(ha:PA X (e::es) t)
  (hbase:attributeBase o name X.env (eval o X.env)=eval o X.env:=by rfl)
  (hfew:((backTo bw (starEach (e::es) X.env)).all (λx=>(not x.1))&&(backToKw bw (keywordEach [] X.env)).all (λx=>x.1.isSome)
   && decide ((e::es).length+([]:List Keyword).length+(if ([]:List Keyword).isEmpty then 0 else 1)<30))=true:=by rfl)
  (hline:(cG.endLine==bw.line)=true:=by rfl) (hs:starEach (e::es) X.env=(false,eval e X.env)::starEach es X.env:=by rfl) (hplain:(backTo bw (starEach es X.env)).any (·.1)=false:=by rfl) :
  PE X (.Call (.Attribute o name cG) (e::es) [] bw) (tBM X.K T r to t):=by
 intro aj s σ H Q I h;apply wpAny_Call_method_late hbase hfew hline rfl (bY (ho aj s σ H _ I h) ?_);rintro v s1 ⟨x,H1,I1,r1,ty,q1⟩;let(h1,h2):=Td I1 r1 ty;apply#[T,id,pa,slot,hty,h1,h2,?_];have hA:=ha bw aj s1 σ H1 _ I1 q1;rw[hs]at hA ⊢
 apply Calls.callWith_builtin (by exact (false||(backTo bw (starEach es X.env)).any (·.1))=false;rw[hplain] <;> rfl) (Calls.evalArgs_plain ?_)
 show bY hA (by rintro us s2 ⟨vs,H2,I2,r2,q2⟩;show hm aj s2 σ H2 x vs v us Q I2 r1 r2 q2)
/- xs.append(e),list.index on a module's tuple .. are MtR facts of 06m -/
end
abbrev MtM(X:Cx)(id:String)(r:V->List V->Hp->VK->Prop):Prop:=
 ∀(aj: ~~~1) (s:Shared) (σ:St) (H:Hp) (x:V) (xs:List V) (v:Value) (us:List Value) (Q:VK),Inv X aj σ H s->RelV x v->Vals xs us->r x xs H Q->
  wpAny (~~~2) X.A (call (.builtin id) (v::us)) (EP X aj σ Q) X.xe s
def Vals.one:∀{x:V}{us:List Value},Vals [x] us->∃u,us=[u]/\RelV x u:=by intro x us h;cases h with |cons r t=>cases t;show#[_,rfl,r]
def Vals.eraseIdx:∀{xs:List V}{us:List Value} (i:Nat),Vals xs us->Vals (xs.eraseIdx i) (us.eraseIdx i)
 |_,_,_,.nil=>.nil
 |_,_,0,.cons _ t=>t
 |_,_,i+1,.cons r t=>.cons r (Vals.eraseIdx i t)
def Vals.reverse{xs:List V}{us:List Value}(h:Vals xs us):Vals xs.reverse us.reverse:=by
 induction h with
 |nil=>show .nil
 |cons r t ih=>rw[CB,CB];show Vals.append ih (.cons r .nil)
def Vals.rep(h:Vals xs us):∀k:Nat,Vals (List.replicate k xs).flatten (List.replicate k us).flatten
 | 0=>.nil
 |k+1=>by
  show Vals.append h (Vals.rep h k)
def sf{α:Type}:∀(l:List α) (i:Nat),(l.eraseIdx i).length<=l.length
 | [],_=>eA _
 |_::_,0=>AT _
 |_::r,i+1=>Nat.succ_le_succ (sf r i)
def foldl_rep(aA:List Value):∀(k:Nat) (acc:List Value),
  List.foldl (λx1 x2=>x1++x2) acc.toArray (List.replicate k aA.toArray)=(acc++(List.replicate k aA).flatten).toArray
 | 0,acc=>by simp
 |k+1,acc=>by
  have e:acc.toArray++aA.toArray=(acc++aA).toArray:=by simp
  have e2:(acc++aA)++(List.replicate k aA).flatten=acc++(List.replicate (k+1) aA).flatten:=by rw[An,List.flatten_cons,AI]
  rw[<- e2,<- foldl_rep aA k (acc++aA),<- e,An,List.foldl_cons]
section
variable{X:Cx}{aj: ~~~1}{σ:St}{H:Hp}{s:Shared}{l b:Addr}{xs ys zs:List V}
def Inv.Te{aA its':List Value}{n:Nat}{f:Array Value->Array Value}{t':Nat}(I: ~~~7)(hH:H l=!(.lst xs))
  (e:s.heap.get? l=some { cls:=.type "list",data:=.seq aA.toArray n}) (hf:f aA.toArray=its'.toArray) (hv:Vals ys its') (hz:ys.length<=sizeLine) :
  Inv X aj σ (upd H l (.lst ys)) { s with heap:=s.heap.update l (Obj.mapSeq f),toks:=t'}:=by
 have q:=PySem.IsL.update e f;rw[hf]at q;apply I.write (by rw[hH];show trivial) (.inl rfl) (λb' u hb hu=>(hU s.heap (Obj.mapSeq f) (mM hb)).trans hu) #[_,q] ?_
 show#[hz,its',_,hv,q]
def Inv.Zh(I: ~~~7)(hv:Vals ys aA)(hz:ys.length<=sizeLine) :
  Inv X aj σ (upd H s⁻¹ (.lst ys)) { s with heap:=s.heap.push { cls:=.type "list",data:=.seq aA.toArray},toks:=t'}:=
 I.laid (λ_ _ q=>dA _ q) (eA _) #[hz,aA,0,hv,eD _ rfl]
def Inv.fresh(I: ~~~7):H s⁻¹=none:=I.hok.fresh (eA _)
def Inv.yW(I: ~~~7)(hH:H l=!(.lst xs)):xs.length<=sizeLine/\∃(aA:List Value) (n:Nat),Vals xs aA/\xs.length=aA.length/\s.heap.get? l=some { cls:=.type "list",data:=.seq aA.toArray n}:=by let(z,aA,n,r,e):=I.hok l _ hH;show#[z,aA,n,r,r.length,e]
def vZ(h:n<=sizeLine):Builtin.List.listTooLong n=false:=by show oD ⋯
end
section
variable{X:Cx}
abbrev MF:V->List V->Hp->VK->Prop:=λx vs H Q=>∃l xs y,x=.ref l/\vs=[y]/\H l=!(.lst xs)/\xs.length<sizeLine/\Q .non (upd H l (.lst (xs++[y])))
def jx:MtM X "list.append" MF:=by
 intro aj s σ H x vs v us Q I rx rv h;let(l,xs,y,rfl,rfl,hH,hz,q):=h;cases rx;let(u,rfl,ru):=rv.one;let(z,aA,n,r,hl,e):=I.yW hH;apply CC F.slot_list_append #[_,e,rfl] F.entry_list_append (F.args_list_append_2 _ _) (PySem.list_append l aA.toArray n u (by rw[dL];lia)) #[e,?_]
 apply#[.non,_,I.Te hH e ⋯ (r.append (.cons ru .nil)) ?_,rfl,q];rw[eP,t6];lia
abbrev MJ:V->List V->Hp->VK->Prop:=λx vs H Q=>∃l b xs zs,x=.ref l/\vs=[.ref b]/\H l=!(.lst xs)/\H b=!(.lst zs)/\xs.length+zs.length<=sizeLine/\Q .non (upd H l (.lst (xs++zs)))
def Dk:MtM X "list.extend" MJ:=by
 intro aj s σ H x vs v us Q I rx rv h;let(l,b,xs,zs,rfl,rfl,hH,hB,hz,q):=h;cases rx;let(u,rfl,ru):=rv.one;cases ru;let(z,aA,n,r,hl,e):=I.yW hH;let(z2,oB,n2,r2,hl2,e2):=I.yW hB;have jK:aA.toArray.size+oB.toArray.size<=sizeLine:=by rw[dL,dL];lia
 have Hf : ¬ ((not aA.toArray.isEmpty)&&Builtin.List.listTooLong (aA.toArray.size+oB.toArray.size))=true:=by rw[vZ jK,Bool.and_false];show tJ
 apply CC F.slot_list_extend #[_,e,rfl] F.entry_list_extend (F.args_list_extend_2 _ _)
  (AutoSeq1.list_extend_list_list_0 l aA.toArray n b oB.toArray n2 Hf (by rw[dL];lia) ⋯) #[e,e2,?_]
 apply#[.non,_,I.Te hH e ⋯ (r.append r2) ?_,rfl,q];rw[eP];lia
abbrev Tf:V->List V->Hp->VK->Prop:=λx vs H Q=>∃l xs i k y,x=.ref l/\vs=[.int i]/\H l=!(.lst xs)/\-(2 ^ 63)<=i/\i<2 ^ 63/\seqIndex? i xs.length=!k/\xs[k]?=!y/\Q y (upd H l (.lst (xs.eraseIdx k)))
def Hg:MtM X "list.pop" Tf:=by
 intro aj s σ H x vs v us Q I rx rv h;let(l,xs,i,k,y,rfl,rfl,hH,h1,h2,hk,hy,q):=h;cases rx;let(u,rfl,ru):=rv.one;let(t,rfl):=ru;let(z,aA,n,r,hl,e):=I.yW hH;let(w,hw,rw'):=r.get hy;apply CC F.slot_list_pop #[_,e,rfl] F.entry_list_pop (F.args_list_pop_2 _ _)
  (MeetsSeq.list_pop_at l aA.toArray n i t k w (fitsIndex_both h1 h2) (by rw[dL,<- hl];show hk) (by rw[<- Array.getElem?_toList];show hw) (by rw[dL];lia)) #[e,?_]
 apply#[y,_,I.Te hH e ?_ (r.eraseIdx k) ?_,rw',q]
 . exact aA.toArray.eraseIdxIfInBounds k=(aA.eraseIdx k).toArray;rw[List.eraseIdxIfInBounds_toArray]
 . have:=sf xs k;lia
abbrev rCat:R2:=λx y H Q=>∃l b xs zs,x=.ref l/\y=.ref b/\H l=!(.lst xs)/\H b=!(.lst zs)/\xs.length+zs.length<=sizeLine/\∀p,H p=none->Q (.ref p) (upd H p (.lst (xs++zs)))
def Ti:n6 X (binaryOp .Add) rCat:=by
 intro aj s σ H x y v u Q I rx ry h;let(l,b,xs,zs,rfl,rfl,hH,hB,hz,q):=h;cases rx;cases ry;let(z,aA,n,r,hl,e):=I.yW hH;let(z2,oB,n2,r2,hl2,e2):=I.yW hB;apply PySem.P.add_list e e2 ?_ (by rw[dL,dL];lia)
 have ea:aA.toArray++oB.toArray=(aA++oB).toArray:=by simp
 rw[ea];show#[.ref _,_,I.Zh (r.append r2) (by rw[eP];lia),rfl,q _ I.fresh]
abbrev rRep:R2:=λx y H Q=>∃l k xs,x=.ref l/\y=.int k/\H l=!(.lst xs)/\-(2 ^ 63)<=k/\k<2 ^ 63/\xs.length * k.toNat<=sizeLine/\
 ∀p,H p=none->Q (.ref p) (upd H p (.lst (List.replicate k.toNat xs).flatten))
def len_rep{α:Type}(xs:List α)(k:Nat):(List.replicate k xs).flatten.length=k * xs.length:=by
 induction k with
 |zero=>simp
 |succ k ih=>rw[An,List.flatten_cons,eP,ih,Nat.succ_mul,Nat.add_comm]
def Tj:n6 X (binaryOp .Mult) rRep:=by
 intro aj s σ H x y v u Q I rx ry h;let(l,k,xs,rfl,rfl,hH,h1,h2,hz,q):=h;cases rx;let(t,rfl):=ry;let(z,aA,n,r,hl,e):=I.yW hH;have aN:aA.toArray.size * k.toNat<=sizeLine:=by rw[dL,<- hl];show hz
 have hcap : ¬ aA.toArray.size * k.toNat > (2 ^ 63 - 1) / 8:=by
  have:(sizeLine:Nat)<=(2 ^ 63 - 1) / 8:=by decide
  lia
 have hfit : ¬ ((not (Builtin.List.listFitsIndex k)))=true:=by rw[fitsIndex_both h1 h2];show tJ
 have Hf : ¬ Builtin.List.listTooLong (aA.toArray.size * k.toNat)=true:=by rw[vZ aN];show tJ
 have hnew:List.foldl (λx1 x2=>x1++x2) ([].toArray) (List.replicate (if aA.toArray.isEmpty=true then 0 else k.toNat) aA.toArray)=(List.replicate k.toNat aA).flatten.toArray:=by
  have f0:∀m:Nat,List.foldl (λx1 x2=>x1++x2) ([].toArray) (List.replicate m aA.toArray)=(List.replicate m aA).flatten.toArray:=λm=>by
   have:=foldl_rep aA m [];show this
  rw[f0];cases aA with
  |nil=>simp
  |cons a r'=>rw[lL ⋯]
 apply wpAny_binaryOp_repeat_ref ⋯ #[_,e,rfl] (λs'=>typeIs_int s' k t) noFill_list_mul F.fills_int_mul F.slot_int_rmul repeat_list F.slot_int_index.lookup
  (CC F.slot_int_rmul (typeIs_int s k t) F.entry_int_rmul (F.args_int_rmul_2 _ _) (int___rmul___int_list k t l aA.toArray n)
   #[e,rfl,#[_,e,rfl],CC F.slot_list_mul #[_,e,rfl] F.entry_list_mul (F.args_list_mul_2 _ _) (AutoListH.list___mul___list_int_3 l aA.toArray n k t hfit hcap Hf) #[e,?_]])
 rw[hnew];show#[.ref _,_,I.Zh (r.rep k.toNat) (by rw[len_rep,Nat.mul_comm];show hz),rfl,q _ I.fresh]
end
end L2
namespace Att
open PySem PySem.W PySem.Calls PyProof.Rows
def n8:∀(ns: ~~~0) (vs:List Value),WellAll P h vs (ns.map WData.int)->IntsAre vs ns:=by
 intro ns
 induction ns with
 |nil=>intro vs w;cases w;show .nil
 |cons n ns ih=>
  intro vs w;cases w with
  |cons a b=>cases a;show .cons _ _ (ih _ b)
def Dl{l:OpenLaw}{n:Nat}(hn:l.most=!n){P:Params}{h:Heap}{args:List WData}{vals:List Value}
  (hpre:l.row.toRowW.claim.pre args=true) (hwl:WellAll P h vals args) :
  ∃a vs ns,vals=[Value.ref a]/\args=[WData.list (ns.map WData.int)]/\h.get? a=some { cls:=.type "list",data:=.seq vs.toArray}/\IntsAre vs ns/\ns.length<=n:=by
 have hsh:=(pre_splitW hpre).1;have hc:l.pre.holds [] { args:=args}=true:=(pre_splitW hpre).2;let(d,r,rfl,h1,h2):=hasAllW_cons hsh;obtain rfl:=hasAllW_nil h2;let(xs,rfl,h3):=hasW_list h1;let(ns,rfl):=items_int h3;have aN:ns.length<=n:=by
  have h4:(WTm.not (.lt (.lit (.int (n:Int))) (.len (.arg 0)))).holds [] { args:=[.list (ns.map .int)]}=true:=by have h4:=(holds_andW hc).1;rw[hn]at h4;show h4
  have h5:=condW_of h4 (w_not (w_lt w_lit (w_len_list (w_arg rfl))));apply Nat.le_of_not_lt λq=>?_
  first
   | (rw[oC q']at h5;show absurd h5 ⋯)
   | (simp at h5;lia)
 cases hwl with
 |cons w1 w2=>
  cases w2;cases w1 with
  |list ho hall=>show#[_,_,ns,rfl,rfl,ho,n8 ns _ hall,aN]
def Dm(l:OpenLaw)(args:List WData):l.row.toRowW.claim.post args (.bool true) args=true:=
 postW_of
  (show WShape.has [] (.bool true) .bool=true by first |rfl |decide |simp[WShape.arms])
  (show (WTm.eq .res (.lit (.bool true))).value [] { args:=args,res:=!(.bool true),after:=args}=!(.bool (true==true))from w_eq_bool (w_res rfl) w_lit) rfl
def v5{l:OpenLaw}{n:Nat}{q:Program}{loose:List Str}{XP:(Str->Option Value)->Heap->Prop}{YP:World->Heap->Prop}{d:DefRec}
  (hn:l.most=!n) (jt:d.params.defaults=[])
  (call:∀(w:World) (s₀ s₁:Shared) (mg mb:Str->Option Value) (fa:Addr) (o:Obj) (pm cd doc:Value) (a:Addr) (vs:List Value) (ns: ~~~0),
   Ground q loose [] XP w s₀ mg mb s₁.heap->YP w s₁.heap->
   s₁.heap.get? fa=!o->o.data=.func (docDef d.name d.params d.body d.scope pm cd doc)->s₁.heap.CodeRec cd d.name->mg d.name=!(.ref fa)->
   s₁.heap.get? a=some { cls:=.type "list",data:=.seq vs.toArray}->IntsAre vs ns->ns.length<=n->s₁.gens = ([].toArray)->
   codeAny (model l.prog w) callerA (.call (.ref fa) #[[.ref a],[]]) (λr s'=>r=.ok (.ret (.bool true))/\OldK s₁.heap s'.heap/\s'.os=s₁.os/\AllBare s'.gens) s₁) :
  WalkO q loose XP YP l.row.toRowW d [] (λf vs=>PySem.call f vs):=by
 intro w s₀ s₁ mg mb G Y fa o pm cd doc dV kV ho hd bZ hD hmg hg args vals as hpre hlay hrd hwl hlo;obtain rfl:dV=.none:=Dflts.none hD jt;obtain rfl:kV=.none:=Dflts.noKw hD;let(a,vs,ns,rfl,rfl,hobj,hints,aN):=Dl hn hpre hwl;apply enter_call (BF (call w s₀ s₁ mg mb fa o pm cd doc a vs ns G Y ho (fd_plain hd) bZ hmg hobj hints aN hg) λr s' hq=>?_)
 let(rfl,h2,h3,h4):=hq;show#[.inl #[.bool true,.bool true,[],rfl,λ_=>rfl,.bool true,Dm l _,λ_=>#[List.Pairwise.nil,λ_ hm=>(nomatch hm)]],h2,h3,h4]
end Att
namespace L2
def sr:∀{vs:List Value}{ns: ~~~0},IntsAre vs ns->Vals (ns.map V.int) vs:=by
 intro vs ns h
 induction h with
 |nil=>show .nil
 |cons n t h ih=>show .cons #[t,rfl] ih
meta abbrev KOf{K:Frag}{h:Heap}(_:K.In h):Frag:=K
meta abbrev yX:Di:=λ_ _ _ _ _ _=>False
meta abbrev E0:XK:=λ_ _ _=>False
def Rc:Passes yX X E0:=λ_ _ _ _ _ _ _ h=>h.elim
structure LQ(K:Frag)(x qual:Str)(st:Stmt)(f:Addr)(fd:FuncData):Prop where
 ex:∃(oc:Value) (od:Option Addr) (kV doc pm:Value) (an:Option Addr) (bO ct:Value) (osl:Array (Option Value)),
  fd=PySem.W.fnOf x qual (ju st) (bH st) (aH st) .none kV doc pm an bO ct/\K.lookup f=!#[oc,od,.func fd,osl]/\PySem.W.codeIn K bO qual=true
 kp:PySem.W.keepIn K (.ref f)=true
section
variable{P:Program}{w:World}{K:Frag}{mg:Str->Option Value}{base:Heap}
def Tp{x qual:Str}{st:Stmt}{f:Addr}{oc:Value}{od an:Option Addr}{osl:Array (Option Value)}{kV doc pm bO ct:Value}(l:K.lookup f=!#[oc,od,.func (PySem.W.fnOf x qual (ju st) (bH st) (aH st) .none kV doc pm an bO ct),osl])
  (c:PySem.W.codeIn K bO qual=true) (k:PySem.W.keepIn K (.ref f)=true):LQ K x qual st f (PySem.W.fnOf x qual (ju st) (bH st) (aH st) .none kV doc pm an bO ct):=#[#[oc,od,kV,doc,pm,an,bO,ct,osl,rfl,l,c],k]
end
def n9{A B:Prop}(h:B):if false=true then A else B:=by show h
def jV{A B:Prop}(h:A):if true=true then A else B:=by show h
abbrev Cx.block(X:Cx)(N:List Str)(scope:Scope)(cl:List (Str×Addr))(C:Addr)(s₀:Shared)(H₀:Hp)(fp:List Addr):Cx:=
 { X with N:=N,s₀:=s₀,H₀:=H₀,env:=compEnvC scope cl C X.env,outer:=X.stack,ex:=fp,fn:=λx=>scope.names.lookup x==some .local,pn:=[],xe:=λ_ _=>False}
structure Bk where
 cl:List (Str×Addr)
 C:Addr
 s₀:Shared
 H₀:Hp
 fp:List Addr
meta abbrev Cx.blk (X:Cx) (N:List Str) (scope:Scope) (b:Bk):Cx:=X.block N scope b.cl b.C b.s₀ b.H₀ b.fp
structure aO(sc scope:Scope):Prop where
 kind:scope.kind=.function
 ur:∀y∈scope.names,y.2≠.cell
 uniq:∀y∈scope.names,y.2=.local->scope.names.lookup y.1=some .local
 Zi:∀y∈scope.names,y.2=.free->scope.names.lookup y.1=some .free
 free:∀y∈scope.names,y.2=.free->sc.names.lookup y.1=some .cell\/sc.names.lookup y.1=some .free
def mem_of_lookup{α:Type}{x:Str}{v:α}:∀{l:List (Str×α)},l.lookup x=!v->(x,v)∈l
 | [],h=>by simp at h
 | (n,k)::r,h=>by
  cases hx:x==n with
  |true=>
   simp only[sR,hx]at h;symm;have e:x=n:=by simpa using hx
   subst e;show dC
  |false=>simp only[sR,hx]at h;show bP _ (mem_of_lookup h)
def iT{env:Env}{x:Str}:∀{names:List (Str×NameKind)},
  (names.map λ(n,k)=>if (k==NameKind.free&&env.scope.kind==.function&&env.kindOf n==some .cell)then (n,NameKind.cell)else (n,k)).lookup x
   = (names.lookup x).map λk=>if (k==NameKind.free&&env.scope.kind==.function&&env.kindOf x==some .cell)then NameKind.cell else k
 | []=>rfl
 | (n,k)::r=>by
  have ih:=@iT env x r;exact List.lookup x ((if (k==NameKind.free&&env.scope.kind==.function&&env.kindOf n==some .cell)=true then (n,NameKind.cell)else (n,k))::_)=_
  cases hx:x==n with
  |true=>
   have e:x=n:=by simpa using hx
   subst e;by_cases hc:(k==NameKind.free&&env.scope.kind==.function&&env.kindOf x==some .cell)=true
   . rw[i7 hc];simp only[sR,hx,B4,i7 hc]
   . rw[lL hc];simp only[sR,hx,B4,lL hc]
  |false=>
   by_cases hc:(k==NameKind.free&&env.scope.kind==.function&&env.kindOf n==some .cell)=true
   . rw[i7 hc];simp only[sR,hx];show ih
   . rw[lL hc];simp only[sR,hx];show ih
def pJ(h:∀y∈scope.names,y.2=.free->∃c,env.cells.lookup y.1=!c) :
  ∃cl,closureFor scope env=pure cl/\(∀x c,cl.lookup x=!c->env.cells.lookup x=!c/\(x,NameKind.free)∈scope.names)/\∀y∈scope.names,y.2=.free->∃c,cl.lookup y.1=!c:=by
 have key:∀(names:List (Str×NameKind)) (acc:List (Str×Addr)),(∀y∈names,y.2=.free->∃c,env.cells.lookup y.1=!c)->
   ∃cl,(forIn names acc λx (cs:List (Str×Addr))=>(match x with | (name,kind)=>if (kind==.free)=true then (do let c <- cellOf env name;pure (ForInStep.yield ((name,c)::cs)))else pure (ForInStep.yield cs):Sem (ForInStep (List (Str×Addr)))))=pure cl/\
    (∀x c,cl.lookup x=!c->acc.lookup x=!c\/(env.cells.lookup x=!c/\(x,NameKind.free)∈names))/\(∀y∈names,y.2=.free->∃c,cl.lookup y.1=!c)/\∀x c,acc.lookup x=!c->∃c',cl.lookup x=!c':=by
  intro names
  induction names with
  |nil=>intro acc _;show#[acc,rfl,λx c e=>.inl e,(λy hy=>nomatch hy),λx c e=>#[c,e]]
  |cons y r ih=>
   intro acc hf;let(n,k):=y;rw[List.forIn_cons];by_cases hk:(k==NameKind.free)=true
   .
    let(c,hc):=hf (n,k) dC (by simpa using hk)
    have hc':=hc;let(cl,e,h1,h2,h3):=ih ((n,c)::acc) λy hy=>hf y (bP _ hy)
    apply#[cl,?_,λx c' q=>?_,λy hy hyf=>?_,λx c' q=>?_]
    .
     have ec:cellOf env n=pure c:=by delta cellOf;rw[hc']
     exact ((if (k==NameKind.free)=true then (do let c <- cellOf env n;pure (ForInStep.yield ((n,c)::acc)))else pure (ForInStep.yield acc)) >>= _)=_
     rw[i7 hk,ec];show e
    .
     rcases h1 x c' q with z |⟨z1,z2⟩
     .
      cases hx:x==n with
      |true=>
       simp only[sR,hx]at z;cases z;have e:x=n:=by simpa using hx
       subst e;have ek:k=NameKind.free:=by simpa using hk
       subst ek;show .inr #[hc',dC]
      |false=>simp only[sR,hx]at z;show .inl z
     . show .inr #[z1,bP _ z2]
    .
     rcases dS.mp hy with rfl |hy
     . show h3 n c ⋯
     . show h2 y hy hyf
    .
     cases hx:x==n with
     |true=>
      have e:x=n:=by simpa using hx
      subst e;show h3 x c ⋯
     |false=>show h3 x c' (by simp only[sR,hx];show q)
   .
    let(cl,e,h1,h2,h3):=ih acc λy hy=>hf y (bP _ hy)
    apply#[cl,?_,λx c' q=>?_,λy hy hyf=>?_,h3]
    .
     exact ((if (k==NameKind.free)=true then (do let c <- cellOf env n;pure (ForInStep.yield ((n,c)::acc)))else pure (ForInStep.yield acc)) >>= _)=_
     rw[lL hk];show e
    .
     rcases h1 x c' q with z |⟨z1,z2⟩
     . show .inl z
     . show .inr #[z1,bP _ z2]
    .
     rcases dS.mp hy with rfl |hy
     . show absurd hyf (by simpa using hk)
     . show h2 y hy hyf
 let(cl,e,h1,h2,_):=key scope.names [] h;apply#[cl,?_,λx c q=>?_,h2]
 . show (congrArg (λm=>m >>= λcs=>pure cs) e:_)
 .
  rcases h1 x c q with z |z
  . simp at z
  . show z
abbrev lX(X:Cx)(ifs:List Expr)(t:TT):Prop:=
 ∀(aj: ~~~1) (s:Shared) (σ:St) (H:Hp) (Q:Bool->Hp->Prop),Inv X aj σ H s->t σ H Q->
  wpAny (~~~2) X.A (forIn ifs true λc r=>if r=true then do let ok <- isTrue c X.env (eval c X.env);pure (ForInStep.yield ok)else pure (ForInStep.yield r)) (TP X aj σ Q) X.xe s
abbrev Hi:TT:=λ_ H Q=>Q true H
def pK:lX X [] Hi:=λ_ _ _ H _ I h=>wpAny_tests_nil #[H,I,h]
def Hj(h:PT X c t):lX X [c] t:=λaj s σ H Q I hw=>wpAny_tests_one (h aj s σ H Q I hw)
abbrev uv(e target iter:Expr)(ifs:List Expr)(d:Nat)(it acc:Value)(env:Env)(em:Sem Unit):Sem Fin:=do
 standAt iter.pos
 match <- pyNext it with
 |none=>pure (.done .next)
 |some v=>
  letOwnedTupleGo target it v
  assign target env v
  let mut ok:=true
  for c in ifs do
   if ok then ok <- isTrue c env (eval c env)
  if ok then em
  again (.compLoop e d it acc env)
abbrev Cu(ce:Expr):Prop:=∀(prog:Program) (w:World) (A:Around) (d:Nat) (it acc:Value) (env:Env),A.under (.compLoop ce d it acc env)=A/\(model prog w).den (.compLoop ce d it acc env)=(compTurn ce d it acc env).onRaise (λx=>do noteFrame x env;theTreesLotGoes x)
def kO(hu:Cu ce)(ht:compTurn ce d it acc env=uv ce target iter ifs d it acc env em)(I:Nat->Shared->Prop)
  (turn:∀n s,I n s->wpAny (model prog w) A (pyNext it) (λr s₁=>match r with
   |none=>R (.ok .next) s₁
   |some v=>wpAny (model prog w) A (letOwnedTupleGo target it v) (λ_ s₁'=>wpAny (model prog w) A (assign target env v) (λ_ s₂=>
     wpAny (model prog w) A (forIn ifs true λc r=>if r=true then do let ok <- isTrue c env (eval c env);pure (ForInStep.yield ok)else pure (ForInStep.yield r)) (λok s₃=>
      if ok=true then wpAny (model prog w) A em (λ_ s₅=>∃m,m<n/\I m s₅) (λ_ _=>False) s₃
      else ∃m,m<n/\I m s₃) (λ_ _=>False) s₂) (λ_ _=>False) s₁') (λ_ _=>False) s₁) (λ_ _=>False) s)
  (n:Nat) (h:I n s) :
  codeAny (model prog w) A (.compLoop ce d it acc env) R s:=by
 apply codeAny_loop rfl I (λn s hI=>?_) n h
 rw[(hu prog w A d it acc env).1,(hu prog w A d it acc env).2];apply wpAny_noted ?_;rw[ht];apply aS (AL (aS (l6 (turn n s hI) (λr s₁ h₁=>?_) λ_ _ h'=>h'.elim)))
 cases r with
 |none=>show d5 h₁
 |some v=>
  apply aS (l6 h₁ (λ_ s₁' h₁'=>?_) λ_ _ h'=>h'.elim)
  apply aS (l6 h₁' (λ_ s₂ h₂=>aS (l6 h₂ (λok s₃ h₃=>?_) λ_ _ h'=>h'.elim)) λ_ _ h'=>h'.elim)
  cases ok with
  |false=>show d5 #[rfl,h₃]
  |true=>show aS (l6 h₃ (λ_ s₅ h₅=>d5 #[rfl,h₅]) λ_ _ h'=>h'.elim)
def TU:=St->Hp->(St->Hp->Prop)->Prop
abbrev PU(X:Cx)(m:Sem Unit)(t:TU):Prop:=
 ∀(aj: ~~~1) (s:Shared) (σ:St) (H:Hp) (Q:St->Hp->Prop),Inv X aj σ H s->t σ H Q->wpAny (~~~2) X.A m (λ_ s'=>∃σ' H',Inv X aj σ' H' s'/\Q σ' H') (λ_ _=>False) s
abbrev uw(D:Addr)(te:TE):TU:=λσ H Q=>te σ H λv H5=>∃ys,H5 D=!(.lst ys)/\ys.length<sizeLine/\Q σ (upd H5 D (.lst (ys++[v])))
def yZ(he:PE X cW te)(hx:X.xe=λ_ _=>False):PU X (do let _ <- call (.builtin "list.append") [.ref D,<- eval cW X.env]) (uw D te):=by
 intro aj s σ H Q I h;have he:=he aj s σ H _ I h;rw[hx]at he;apply aS (l6 he (?_) λ_ _ z=>z)
 rintro y s8 ⟨v,H8,I8,r8,ys,hD8,hz8,q8⟩;have ma:=jx aj s8 σ H8 (.ref D) [v] (.ref D) [y] (λ_ H9=>Q σ H9) I8 rfl (.cons r8 .nil) #[_,ys,v,rfl,rfl,hD8,hz8,q8]
 rw[hx]at ma;show aS (l6 ma (by rintro _ s9 ⟨_,H9,I9,_,q9⟩;show d5 #[σ,H9,I9,q9]) λ_ _ z=>z)
abbrev σC(k:Nat)(D:Addr)(σ:St):St:=σ++(List.replicate k none++[!(.ref D)])
abbrev Zj(X:Cx)(σ:St)(b:Bk):Prop:=∃aj,Inv X aj σ b.H₀ b.s₀/\∀a∈b.fp,kK X aj b.H₀ a
abbrev MK(u0:HO)(X:Cx)(k:Nat)(g:Bk->TG)(tt:Bk->TT)(te:Addr->Bk->TU)(J:It)(D:Addr)(σ:St)(H1:Hp)(Q:VK):Prop:=
 ∃W:Nat->Nat->St->Hp->Prop,(∃m,W 0 m (σC k D σ) (upd H1 D u0))/\∀i m σ' H',W i m σ' H'->
  (J.stop i H'/\Q (.ref D) H')\/(J.go i H'/\∃Nn:St->Hp->Prop,(∀Dn Dp,Nn Dn Dp->∃m',m'<m/\W (i+1) m' Dn Dp)/\∀x H2,J.YL i H' x H2->∀bk:Bk,Zj X σ bk->g bk x σ' H2 λσ2 H3=>tt bk σ2 H3 λb H4=>
   if b=true then te D bk σ2 H4 Nn else Nn σ2 H4)
abbrev Hl(u0:HO)(X:Cx)(k:Nat)(wi:TI)(g:Bk->TG)(tt:Bk->TT)(te:Addr->Bk->TU):TE:=λσ H Q=>wi σ H λJ H1=>∀D,H1 D=none->MK u0 X k g tt te J D σ H1 Q
def su:=Hl (.lst [])
structure Ck(X:Cx)(ce tg iter:Expr)(ifs:List Expr)(rest:List Comprehension)(new:Sem Value)(u0:HO)(em:Value->Env->Sem Unit):Prop where
 cls:clausesOf ce=#[tg,iter,ifs,0]::rest
 und:Cu ce
 turn:∀it D env,compTurn ce 0 it (.ref D) env=uv ce tg iter ifs 0 it (.ref D) env (em (.ref D) env)
 new:∃o0:Obj,o0.isFreed=false/\(∀{A:Around}{E Q:Value->Shared->Prop}{s:Shared},Q (.ref s⁻¹) { s with heap:=s.heap.push o0}->wpAny (~~~2) A new Q E s)/\
  ∀(H:Hp) (h:Heap) (a:Addr),h.get? a=!o0->(a==sysModules)=false->cX X.prog X.w H h a u0
 start:∀{A:Around}{R:Result->Shared->Prop}{s:Shared}{it acc:Value}{env:Env},codeAny (~~~2) A (.compLoop ce 0 it acc env) R s->
  wpAny (~~~2) A (pyIter it) (λit' s'=>codeAny (~~~2) A (.compLoop ce 0 it' acc env) R s') (notedBy (~~~2) A env λx s'=>R (.error x) s') s->codeAny (~~~2) A (.compStart ce 0 it acc env) R s
def oF{X:Cx}{cW tg iter:Expr}{ifs:List Expr}{rest:List Comprehension}{scope:Scope}{pos:Pos}{em:Value->Env->Sem Unit}(h:∀it acc env,compTurn (.ListComp cW (#[tg,iter,ifs,0]::rest) scope pos) 0 it acc env=uv (.ListComp cW (#[tg,iter,ifs,0]::rest) scope pos) tg iter ifs 0 it acc env (em acc env)) :
  Ck X (.ListComp cW (#[tg,iter,ifs,0]::rest) scope pos) tg iter ifs rest (newList []) (.lst []) em where
 cls:=rfl
 und:=λ_ _ _ _ _ _ _=>#[rfl,rfl]
 turn:=λit D env=>h it (.ref D) env
 new:=#[_,rfl,λh=>nS h,λ_ _ _ e _=>#[wT _,[],_,.nil,e]]
 start:=codeAny_compStart_list
structure Names(N N':List Str)(scope:Scope)(k:Nat):Prop where
 len:N'.length=N.length+(k+1)
 last:∀x,N'[N.length+k]?=!x->scope.names.lookup x=none
 old:∀i x,N'[i]?=!x->i<N.length->scope.names.lookup x=none\/(N[i]?=!x/\scope.names.lookup x≠some .local)
def eV:(relabel scope env).names.lookup x=(scope.names.lookup x).map λk=>if (k==NameKind.free&&env.scope.kind==.function&&env.kindOf x==some .cell)then NameKind.cell else k:=iT
section
variable{X:Cx}
def pL(B:aO X.env.scope scope)(h:(compEnvC scope cl C X.env).kindOf x=some .cell\/(compEnvC scope cl C X.env).kindOf x=some .free) :
  (x,NameKind.free)∈scope.names:=by
 have e:(compEnvC scope cl C X.env).kindOf x=(scope.names.lookup x).map λk=>if (k==NameKind.free&&X.env.scope.kind==.function&&X.env.kindOf x==some .cell)then NameKind.cell else k:=eV
 rw[e]at h;cases q:scope.names.lookup x with
 |none=>rw[q]at h;rcases h with h |h <;> symm
 |some k=>
  have hm:=mem_of_lookup q;cases k with
  |free=>show hm
  |cell=>show absurd rfl (B.ur _ hm)
  |_=>rw[q]at h;rcases h with h |h <;> (simp at h)
def Ho(B:aO X.env.scope scope)(I: ~~~7)(hC:s⁻¹<=C)
  (hf:∀b∈fp,kK X aj H b) (hfs:∀b∈fp,b<s⁻¹)
  (hcl:∀x c,cl.lookup x=!c->X.env.cells.lookup x=!c/\(x,NameKind.free)∈scope.names) (MN:∀y∈scope.names,y.2=.free->∃c,cl.lookup y.1=!c):(X.block N' scope cl C s H fp).Ok where
 mod:=I.ok.mod
 kind:=B.kind
 glob:=I.ok.glob
 blt:=I.ok.blt
 above:=hC
 inj:=λx y c h1 h2=>I.ok.inj x y c (hcl x c h1).1 (hcl y c h2).1
 has:=λx h=>MN _ (pL B h) rfl
 R5:=λx c h1 h2=>by
  have e:scope.names.lookup x=some .local:=by have:(scope.names.lookup x==!NameKind.local)=true:=h1;simpa using this
  have h3:=(hcl x c h2).2;have q:=B.Zi _ h3 rfl;rw[e]at q;cases q
 hd:=I.ok.hd
 frames:=I.ok.frames
 stk:=.inl rfl
 XR:=λb hb=>#[kS (fA (hfs b hb) hC),λx c e=>(hf b hb).2.2.2.2.1 x c (hcl x c e).1]
 bs:=I.bs
 GC:=i9 I.ok.GC I.sz
 vR:=λb o e hb=>by
  let(_,_,_,h3,_):=hf b hb;rcases h3 with h3 |h3
  . show I.ok.vR b o e h3
  . show absurd (fA (eM e) (i9 I.ok.GC h3)) (nK _)
 yJ:=λb hb hm=>by
  rcases dS.mp (I.yK b hm)with e |e
  . show (hf b hb).2.1 e
  . show (hf b hb).2.2.1 e
 kJ:=I.stack
 Ml:=I.tT
def jy{aj: ~~~1}{σ:St}{H:Hp}{s:Shared}{N':List Str}{k:Nat}{wi:TI}{g:Bk->TG}{tt:Bk->TT}{tu:Addr->Bk->TU}{ce:Expr}{rest:List Comprehension}{new:Sem Value}{u0:HO}{cp:Pos}{em:Value->Env->Sem Unit}{use:Option (Value->Sem Unit)}{Q:Value->Shared->Prop}{Q0:VK}
  (B:aO X.env.scope scope) (hc:X.calm=true) (hN:Names X.N N' scope k) (hi:PI X tg iter wi) (ck:Ck X ce tg iter ifs rest new u0 em)
  (hin:∀(b:Bk) (D:Addr),PG (X.blk N' scope b) tg (g b)/\lX (X.blk N' scope b) ifs (tt b)/\PU (X.blk N' scope b) (em (.ref D) (X.blk N' scope b).env) (tu D b))
  (hs:∀x,foldedSetIterable iter X.env x=pure x) (I: ~~~7) (h:Hl u0 X k wi g tt tu σ H Q0)
  (fin:∀s' H' D C m,Inv X aj σ H' s'->kK X aj H' C->s'.heap.Ns C m->Q0 (.ref D) H'->compPost (~~~2) X.A X.xe use Q (.ref D) C (.ok .next) s') :
  wpAny (~~~2) X.A (comprehension ce scope X.env cp new false (eval iter X.env) use) Q X.xe s:=by
 let(cl,hclos,hcl,MN):=pJ λy hy hf=>I.ok.has y.1 (B.free y hy hf)
 apply wpAny_comprehension_free ck.cls hs hclos B.kind B.uniq (bY (hi aj s σ H _ I h) λxv s₁ h₁=>bY h₁ λitv s₂ h₂=>?_)
 let(it,fp,tn,J,H2,rfl,I2,T,aM,f2,hW):=h₂;let(o0,fr0,new0,ok0):=ck.new;apply new0 (wpAny_newFunctionEnv B.ur (by intro y hy;simp at hy) (λh₁ Zm Tq=>?_) B.kind)
 generalize hH2:s₂.heap.push o0=P2 at Zm Tq ⊢
 have hC:P2.objs.size=s₂⁻¹+1:=by rw[<- hH2,qS]
 have hDC:s₂⁻¹≠P2.objs.size:=by rw[hC];show kS (pE _)
 have Tr:s₂⁻¹<=P2.objs.size:=by rw[hC];show AT _
 have old:∀b o,s₂.heap.get? b=!o->h₁.get? b=!o:=λb o e=>Tq.extBut b o (kS (by rw[hC];show AZ (eM e))) (dA _ (hH2▸dA _ e))
 have hD0:=I2.hok.fresh (eA _);have hC0:=I2.hok.fresh Tr;have nsys:(s₂⁻¹==sysModules)=false:=by
  have h1:=(I2.ok.mod.glob.keeps I2.bk).lt;apply CD.mpr λq=>?_
  have q:=eq_of_beq q;rw[q]at h1;show absurd h1 ⋯
 have fps:∀b∈fp,b<s₂⁻¹:=λb hb=>by
  let(o,e,_):=T.obj _ _ aM b hb;show eM e
 have ok':=Ho (N':=N') B I2 Tr f2 fps hcl MN;let(W,(m0,w0),turn):=hW s₂⁻¹ hD0;have fsub:∀b∈fp,b∉frs X.stack:=λb hb=>ok'.yJ b hb
 let(hg,ht,he):=hin #[cl,P2.objs.size,s₂,H2,fp] s₂⁻¹;have I0:Inv (X.block N' scope cl P2.objs.size s₂ H2 fp) [] (σC k s₂⁻¹ σ) (upd H2 s₂⁻¹ u0) { s₂ with heap:=h₁,toks:=s₂.toks+([]:List (Str×Value)).length}:=by
  apply#[ok',rfl,I2.bare,Un.laid old (eA _) hD0,#[_,Zm,λi x v e1 e2 e3=>?_],λx c e=>?_,?_,λx c e=>?_,λp hp=>?_,I2.hok.laid old (eA _) ?_,?_]
  .
   have Zn:(compEnvC scope cl P2.objs.size X.env).kindOf x=some .local\/(compEnvC scope cl P2.objs.size X.env).kindOf x=some .cell\/(compEnvC scope cl P2.objs.size X.env).kindOf x=some .free:=e3;have ek:(compEnvC scope cl P2.objs.size X.env).kindOf x=(scope.names.lookup x).map λk=>if (k==NameKind.free&&X.env.scope.kind==.function&&X.env.kindOf x==some .cell)then NameKind.cell else k:=eV
   have Yy:i<σ.length:=by
    rcases wS i σ.length with z |z
    . show z
    .
     exfalso;delta σC at e2;rw[eC z]at e2;rcases wS (i - σ.length) k with z2 |z2
     .
      rw[d6 (by rw[hV];show z2)]at e2
      have:=l7 e2;rw[yA]at this;show absurd this.2 ⋯
     .
      rw[eC (by rw[hV];show z2),hV]at e2
      have z3:i - σ.length - k=0:=by
       rcases Nat.eq_zero_or_pos (i - σ.length - k)with q |q
       . show q
       . rw[AU (Nat.succ_le_of_lt q)]at e2;cases e2
      have z4:i=X.N.length+k:=by rw[<- I2.len];lia
      have hn:=hN.last x (by rw[<- z4];show e1)
      rw[ek,hn]at Zn;rcases Zn with q |q |q <;> cases q
   have MP:σ[i]?=!(!v):=by delta σC at e2;rw[d6 Yy]at e2;show e2
   have hiN:i<X.N.length:=by rw[<- I2.len];show Yy
   rcases hN.old i x e1 hiN with z |⟨z,z2⟩
   . rw[ek,z]at Zn;rcases Zn with q |q |q <;> cases q
   .
    have hfree:(compEnvC scope cl P2.objs.size X.env).kindOf x=some .cell\/(compEnvC scope cl P2.objs.size X.env).kindOf x=some .free:=by
     rcases Zn with q |q
     .
      exfalso;rw[ek]at q;cases hq:scope.names.lookup x with
      |none=>rw[hq]at q;cases q
      |some kk=>
       rw[hq]at q;cases kk with
       | «local»=>show z2 hq
       |free=>simp only[B4]at q;split at q <;> cases q
       |_=>simp at q
     . show q
    have hm:=pL B hfree;let(c,hc1):=MN _ hm rfl;have Zo:=hc1;have hc2:=(hcl x c Zo).1;let(m2,hn2,hl2):=I2.loc;have hvis:iR X.env.scope x:=(B.free _ hm rfl).elim (λa=>.inr (.inl a)) λa=>.inr (.inr a)
    let(u,ru,lk):=hl2 i x v z MP hvis;apply#[u,ru,.inr #[hfree,c,Zo,?_]];rcases lk with ⟨q1,_⟩ |⟨_,c',q1,q2⟩
    .
     exfalso;have qZ:X.env.scope.names.lookup x=some .local:=q1;rcases B.free _ hm rfl with y |y
     . have y':=y;rw[qZ]at y';cases y'
     . have y':=y;rw[qZ]at y';cases y'
    . rw[hc2]at q1;cases q1;let(o,ho,hd):=q2;show#[o,old _ _ ho,hd]
  . let(v,o,ho,hd):=I2.cell x c (hcl x c e).1;show#[v,o,old _ _ ho,hd]
  . exact upd H2 s₂⁻¹ u0 P2.objs.size=none;rw[az (mM hDC)];show hC0
  . have q:=I2.d9 x c (hcl x c e).1;let(v,z):=I2.cell x c (hcl x c e).1;rw[az (kS z.lt)];show q
  . show absurd (show p∈([]: ~~~1)from hp) ⋯
  . show ok0 _ _ _ (Tq.extBut _ _ hDC (dA _ (hH2▸eD _ fr0))) nsys
  . exact (σC k s₂⁻¹ σ).length=N'.length;delta σC;rw[eP,eP,hV,hN.len,I2.len];rfl
 have stat:∀{H':Hp},(∀b∈fp,H' b=none)->∀b∈fp,kK (X.block N' scope cl P2.objs.size s₂ H2 fp) [] H' b:=λhn b hb=>
  #[hn b hb,(ok'.XR b hb).1,fsub b hb,.inl hb,λx c e=>(ok'.XR b hb).2 x c e,λp hp=>absurd (show p∈([]: ~~~1)from hp) ⋯]
 have loop:∀s₃:Shared,s₃={ s₂ with heap:=h₁,toks:=s₂.toks+([]:List (Str×Value)).length}->
   codeAny (~~~2) X.A (.compLoop ce 0 (.ref it) (.ref s₂⁻¹) (compEnvC scope cl P2.objs.size X.env))
    (compPost (~~~2) X.A X.xe use Q (.ref s₂⁻¹) P2.objs.size) s₃:=by
  rintro s₃ rfl;apply kO ck.und (ck.turn _ _ _) (λn s'=>∃i σ' H',Inv (X.block N' scope cl P2.objs.size s₂ H2 fp) [] σ' H' s'/\tn i s'.heap/\(∀b∈fp,H' b=none)/\W i n σ' H') ?_ m0
   #[0,_,_,I0,T.keep _ _ _ aM λb hb o e=>old b o e,λb hb=>?_,w0]
  .
   rintro n s3 ⟨i,σ3,H3,I3,fQ,Q8,w3⟩;rcases turn i n σ3 H3 w3 with ⟨stop,qn⟩ |⟨go,Nn,hNn,step⟩
   .
    apply bY (T.done (X.block N' scope cl P2.objs.size s₂ H2 fp) rfl rfl rfl hc i [] s3 σ3 H3 (λ_ _=>False) I3 (stat Q8) fQ stop) λr s4 #[hr,I4]=>?_
    subst hr;let(m,hm,_):=id I4.loc;have I5:=I2.call' I4.os I4.base I4.hok I4.bare λb hb=>#[(f2 b hb).2.2.2.1,(f2 b hb).2.1,(f2 b hb).2.2.2.2.1,(f2 b hb).2.2.2.2.2]
    show fin s4 H3 _ _ m I5 (I2.yL Tr I4.free) hm qn
   .
    apply bY (T.item (X.block N' scope cl P2.objs.size s₂ H2 fp) rfl rfl rfl hc i [] s3 σ3 H3 (λ_ _=>False) I3 (stat Q8) fQ go) λr s4 #[u,hr,h4]=>?_
    subst hr;apply bY h4 ?_;rintro _ s5 ⟨x,H5,I5,r5,y5,lW,YT⟩;have YW:=I5.pinned (stat YT) (T.obj _ _ lW);have again:∀{σ7:St}{H7:Hp}{s7:Shared},Inv (X.block N' scope cl P2.objs.size s₂ H2 fp) ([]++lV fp s5.heap) σ7 H7 s7->Nn σ7 H7->∃m,m<n/\∃i σ' H',Inv (X.block N' scope cl P2.objs.size s₂ H2 fp) [] σ' H' s7/\tn i s7.heap/\(∀b∈fp,H' b=none)/\W i m σ' H':=λ{σ7 H7 s7} I7 n7=>by
     let(m',hm,w7):=hNn σ7 H7 n7;apply#[m',hm,i+1,σ7,H7,I7.iS,T.keep _ _ _ lW λb hb o e=>(I7.pin (b,o) (i8 _ (i8 _ (dQ hb e)))).1,λb hb=>?_,w7]
     let(o,e,d):=T.obj _ _ lW b hb;show (I7.pin (b,o) (i8 _ (i8 _ (dQ hb e)))).2.1
    apply bY (hg _ s5 σ3 H5 x u _ YW r5 (step x H5 y5 #[cl,P2.objs.size,s₂,H2,fp] #[aj,I2,f2])) ?_;rintro _ s6 ⟨σ6,H6,I6,q6⟩;apply bY (ht _ s6 σ6 H6 _ I6 q6) ?_;rintro b s7 ⟨H7,I7,q7⟩;cases b with
    |false=>show again I7 q7
    |true=>show l6 (he _ s7 σ6 H7 _ I7 q7) (by rintro _ s9 ⟨σ9,H9,I9,q9⟩;show again I9 q9) λ_ _ z=>z
  . exact upd H2 s₂⁻¹ u0 b=none;rw[az (kS (fps b hb))];show (f2 b hb).1
 apply ck.start (loop _ rfl) (T.self _ 0 _ _ _ ?_ (loop _ rfl));show T.keep _ _ _ aM λb hb o e=>old b o e
def Bg{N':List Str}{k:Nat}{wi:TI}{g:Bk->TG}{tt:Bk->TT}{te:Bk->TE}(B:aO X.env.scope scope)(hc:X.calm=true)(hN:Names X.N N' scope k)(hi:PI X tg iter wi)
  (hin:∀b:Bk,PG (X.blk N' scope b) tg (g b)/\lX (X.blk N' scope b) ifs (tt b)/\PE (X.blk N' scope b) cW (te b))
  (hs:∀x,foldedSetIterable iter X.env x=pure x:=by intro _;rfl):PE X (.ListComp cW [#[tg,iter,ifs,0]] scope pos) (su X k wi g tt λD b=>uw D (te b)):=by
 intro aj s σ H Q I h;apply jy B hc hN hi (oF λ_ _ _=>rfl) (λb D=>#[(hin b).1,(hin b).2.1,yZ (hin b).2.2 rfl]) hs I h λs' H' D C m I' f' hn q=>?_
 apply#[m,hn,λh' sb=>#[.ref D,H',?_,rfl,q]]
 let(f0,f1,f2,f3,f4,f5):=f';show I'.turned (λb o hb e=>(sb.2 b hb).trans e) f0 f1 f3 f4 f5
def Bh{N':List Str}{k:Nat}{wi:TI}{g:Bk->TG}{tt:Bk->TT}{te:Bk->TE}{i:Nat}{y:Str}{py gX:Pos}(B:aO X.env.scope scope)(hc:X.calm=true)(hN:Names X.N N' scope k)(hi:PI X tg iter wi)
  (hin:∀b:Bk,PG (X.blk N' scope b) tg (g b)/\lX (X.blk N' scope b) ifs (tt b)/\PE (X.blk N' scope b) cW (te b))
  (Dq:X.N.Nodup) (hy:X.N[i]?=!y) (hl:X.env.scope.names.lookup y=some .local)
  (hsw:swapsWith (.ListComp cW [#[tg,iter,ifs,0]] scope pos) (!(.Name y py)) gX.line X.env=pure true)
  (hs:∀x,foldedSetIterable iter X.env x=pure x:=by intro _;rfl):PS X (.Assign [.Name y py] (.ListComp cW [#[tg,iter,ifs,0]] scope pos) gX) (Mq (su X k wi g tt λD b=>uw D (te b)) (rT i)):=by
 intro aj s σ H D0 I h;rw[exec_Assign_Name_used _ _ _ _ hsw];apply aS (AL (aS ?_));apply aS (l6 (jy B hc hN hi (oF λ_ _ _=>rfl) (λb D=>#[(hin b).1,(hin b).2.1,yZ (hin b).2.2 rfl]) hs I h λs' H' D C m I' f' hn q=>?_) (λ_ s' hq=>d5 (d5 hq)) λ_ _ e=>e)
 apply wpAny_assign_Name (lU I' Dq hy (.inl hl) (v:=.ref D) rfl (λs2 I2 hsb=>?_) (.inr hl))
 let(f0,f1,f2,f3,f4,f5):=f';let(a,sb,ha):=hsb;have nC:C≠a:=by
  rcases ha with e |e
  . rw[e];show f1
  . show mM (f4 _ _ e)
 apply#[m,hn.sameBut sb nC,λh' sb'=>#[_,H',?_,q]]
 show I2.turned (λb o hb e=>(sb'.2 b hb).trans e) f0 f1 f3 f4 f5
end
section
def jW
  (h0:codeAny (model prog w) A (.compLoop (.ListComp cW [#[t1,i1,f1,0],#[target,iter,ifs,0]] scope pos) 1 it acc env) R s)
  (h:wpAny (model prog w) A (pyIter it) (λit' s'=>codeAny (model prog w) A (.compLoop (.ListComp cW [#[t1,i1,f1,0],#[target,iter,ifs,0]] scope pos) 1 it' acc env) R s') (λ_ _=>False) s) :
  codeAny (model prog w) A (.compStart (.ListComp cW [#[t1,i1,f1,0],#[target,iter,ifs,0]] scope pos) 1 it acc env) R s:=by
 apply codeAny_of_tree ?_;apply wpAny_notedAt ?_;apply aS (wpAny_askSetting (wpAny_ite ?_));split
 .
  first
   |show aS (d5 (d5 (And.intro rfl h0)))
   |show d5 (And.intro rfl h0)
 .
  first
   |show aS (DL (aS (AL (aS (l6 h (λit' s' h'=>d5 (And.intro rfl h')) λ_ _ x=>x.elim)))))
   | (apply aS (DL ?_);exact wpAny _ _ (standAt iter.pos >>= _) _ _ s;show aS (AL (aS (l6 h (λit' s' h'=>d5 (And.intro rfl h')) λ_ _ x=>x.elim))))
end
abbrev Tt(cW t1 i1 tg iter:Expr)(f1 ifs:List Expr)(scope:Scope)(pos:Pos)(acc:Value)(env:Env):Sem Unit:=do
 let x <- eval iter env
 standAt iter.pos
 let x <- foldedSetIterable iter env x
 let _ <- runOwn (.compStart (.ListComp cW [#[t1,i1,f1,0],#[tg,iter,ifs,0]] scope pos) 1 (<- holding [x] (pyIter x)) acc env) env
abbrev Zq(wi:TI)(g:TG)(tt:TT)(tu:TU):TU:=λσ H Q=>wi σ H λJ H1=>∃W:Nat->Nat->St->Hp->Prop,(∃m,W 0 m σ H1)/\∀i m σ' H',W i m σ' H'->
 (J.stop i H'/\Q σ' H')\/(J.go i H'/\∃Nn:St->Hp->Prop,(∀Dn Dp,Nn Dn Dp->∃m',m'<m/\W (i+1) m' Dn Dp)/\∀x H2,J.YL i H' x H2->g x σ' H2 λσ2 H3=>tt σ2 H3 λb H4=>if b=true then tu σ2 H4 Nn else Nn σ2 H4)
def Rf(hc:X.calm=true)(hx:X.xe=λ_ _=>False)(hi:PI X tg iter wi)(hg:PG X tg g)(ht:lX X ifs tt)(he:PE X cW te)(hs:∀x,foldedSetIterable iter X.env x=pure x) :
  PU X (Tt cW t1 i1 tg iter f1 ifs scope pos (.ref D) X.env) (Zq wi g tt (uw D te)):=by
 intro aj s σ H Q I h;have hi:=hi aj s σ H _ I h;rw[hx]at hi;apply aS (l6 hi (λv s1 h1=>?_) λ_ _ z=>z)
 apply aS (AL ?_);rw[hs v];apply aS (d5 ?_);apply aS (mE (l6 h1 (λitv s2 h2=>?_) λ_ _ z=>z))
 let(it,fp,tn,J,H2,rfl,I2,T,aM,f2,W,(m0,w0),turn):=h2;have stat:∀{H':Hp},(∀b∈fp,H' b=none)->∀b∈fp,kK X aj H' b:=λhn b hb=>#[hn b hb,(f2 b hb).2]
 have loop:codeAny (~~~2) X.A (.compLoop (.ListComp cW [#[t1,i1,f1,0],#[tg,iter,ifs,0]] scope pos) 1 (.ref it) (.ref D) X.env) (λr s'=>match r with |.ok f=>∃σ' H',Inv X aj σ' H' s'/\Q σ' H' |.error e=>False) s2:=by
  apply kO (λ_ _ _ _ _ _ _=>#[rfl,rfl]) rfl (λn s'=>∃i σ' H',Inv X aj σ' H' s'/\tn i s'.heap/\(∀b∈fp,H' b=none)/\W i n σ' H') ?_ m0 #[0,σ,H2,I2,aM,λb hb=>(f2 b hb).1,w0]
  rintro n s3 ⟨i,σ3,H3,I3,fQ,Q8,w3⟩;rcases turn i n σ3 H3 w3 with ⟨stop,qn⟩ |⟨go,Nn,hN,step⟩
  .
   apply bY (T.done X rfl rfl rfl hc i aj s3 σ3 H3 (λ_ _=>False) I3 (stat Q8) fQ stop) λr s4 #[hr,I4]=>?_
   subst hr;show#[σ3,H3,I4,qn]
  .
   apply bY (T.item X rfl rfl rfl hc i aj s3 σ3 H3 (λ_ _=>False) I3 (stat Q8) fQ go) λr s4 #[u,hr,h4]=>?_
   subst hr;apply bY h4 ?_;rintro _ s5 ⟨x,H5,I5,r5,y5,lW,YT⟩;have YW:=I5.pinned (stat YT) (T.obj _ _ lW);have again:∀{σ7:St}{H7:Hp}{s7:Shared},Inv X (aj++lV fp s5.heap) σ7 H7 s7->Nn σ7 H7->∃m,m<n/\∃i σ' H',Inv X aj σ' H' s7/\tn i s7.heap/\(∀b∈fp,H' b=none)/\W i m σ' H':=λ{σ7 H7 s7} I7 n7=>by
    let(m',hm,w7):=hN σ7 H7 n7;apply#[m',hm,i+1,σ7,H7,I7.iS,T.keep _ _ _ lW λb hb o e=>(I7.pin (b,o) (i8 _ (i8 _ (dQ hb e)))).1,λb hb=>?_,w7]
    let(o,e,d):=T.obj _ _ lW b hb;show (I7.pin (b,o) (i8 _ (i8 _ (dQ hb e)))).2.1
   have hg:=hg _ s5 σ3 H5 x u _ YW r5 (step x H5 y5);rw[hx]at hg;apply bY hg ?_;rintro _ s6 ⟨σ6,H6,I6,q6⟩;have ht:=ht _ s6 σ6 H6 _ I6 q6;rw[hx]at ht;apply bY ht ?_;rintro b s7 ⟨H7,I7,q7⟩;cases b with
   |false=>show again I7 q7
   |true=>show l6 (yZ he hx _ s7 σ6 H7 _ I7 q7) (by rintro _ s9 ⟨σ9,H9,I9,q9⟩;show again I9 q9) λ_ _ z=>z
 have start:=jW loop (T.self _ 0 _ _ _ aM loop);apply aS (wpAny_runOwn (BF start λr s' hr=>?_))
 cases r with
 |error e=>show hr.elim
 |ok f=>show d5 hr
def v7:compTurn (.ListComp cW [#[t1,i1,f1,0],#[tg,iter,ifs,0]] scope pos) 0 it acc env=uv (.ListComp cW [#[t1,i1,f1,0],#[tg,iter,ifs,0]] scope pos) t1 i1 f1 0 it acc env (Tt cW t1 i1 tg iter f1 ifs scope pos acc env):=by
 exact (standAt i1.pos >>= λ_=>pyNext it >>= λr=>_)=(standAt i1.pos >>= λ_=>pyNext it >>= λr=>_)
 congr 1;funext _;congr 1;funext r
 cases r with
 |none=>rfl
 |some v=>
  exact (letOwnedTupleGo t1 it v >>= λ_=>assign t1 env v >>= λ_=>_ >>= λok=>_)=(letOwnedTupleGo t1 it v >>= λ_=>assign t1 env v >>= λ_=>_ >>= λok=>_)
  congr 1;funext _;congr 1;funext _;congr 1;funext ok
  cases ok with
  |false=>rfl
  |true=>delta Tt;simp only[bind_assoc];rfl
section
def Hq{N':List Str}{k:Nat}{w1:TI}{w2:Bk->TI}{g1 g2:Bk->TG}{Zr Zt:Bk->TT}{te:Bk->TE}(B:aO X.env.scope scope)(hc:X.calm=true)(hN:Names X.N N' scope k)(hi:PI X t1 i1 w1)
  (hin:∀b:Bk,(PG (X.blk N' scope b) t1 (g1 b)/\lX (X.blk N' scope b) f1 (Zr b))/\PI (X.blk N' scope b) tg iter (w2 b)/\PG (X.blk N' scope b) tg (g2 b)/\lX (X.blk N' scope b) ifs (Zt b)/\PE (X.blk N' scope b) cW (te b))
  (hs:∀x,foldedSetIterable i1 X.env x=pure x) (hs2:∀(b:Bk) x,foldedSetIterable iter (X.blk N' scope b).env x=pure x) :
  PE X (.ListComp cW [#[t1,i1,f1,0],#[tg,iter,ifs,0]] scope pos) (su X k w1 g1 Zr λD b=>Zq (w2 b) (g2 b) (Zt b) (uw D (te b))):=by
 intro aj s σ H Q I h;apply jy B hc hN hi (oF λ_ _ _=>v7) (λb D=>#[(hin b).1.1,(hin b).1.2,Rf hc rfl (hin b).2.1 (hin b).2.2.1 (hin b).2.2.2.1 (hin b).2.2.2.2 (hs2 b)]) hs I h λs' H' D C m I' f' hn q=>?_
 apply#[m,hn,λh' sb=>#[.ref D,H',?_,rfl,q]]
 let(f0,f1,f2,f3,f4,f5):=f';show I'.turned (λb o hb e=>(sb.2 b hb).trans e) f0 f1 f3 f4 f5
def Hr{N':List Str}{k:Nat}{w1:TI}{w2:Bk->TI}{g1 g2:Bk->TG}{Zr Zt:Bk->TT}{te:Bk->TE}{i:Nat}{y:Str}{py gX:Pos}(B:aO X.env.scope scope)(hc:X.calm=true)(hN:Names X.N N' scope k)(hi:PI X t1 i1 w1)
  (hin:∀b:Bk,(PG (X.blk N' scope b) t1 (g1 b)/\lX (X.blk N' scope b) f1 (Zr b))/\PI (X.blk N' scope b) tg iter (w2 b)/\PG (X.blk N' scope b) tg (g2 b)/\lX (X.blk N' scope b) ifs (Zt b)/\PE (X.blk N' scope b) cW (te b))
  (Dq:X.N.Nodup) (hy:X.N[i]?=!y) (hl:X.env.scope.names.lookup y=some .local)
  (hsw:swapsWith (.ListComp cW [#[t1,i1,f1,0],#[tg,iter,ifs,0]] scope pos) (!(.Name y py)) gX.line X.env=pure true)
  (hs:∀x,foldedSetIterable i1 X.env x=pure x) (hs2:∀(b:Bk) x,foldedSetIterable iter (X.blk N' scope b).env x=pure x) :
  PS X (.Assign [.Name y py] (.ListComp cW [#[t1,i1,f1,0],#[tg,iter,ifs,0]] scope pos) gX) (Mq (su X k w1 g1 Zr λD b=>Zq (w2 b) (g2 b) (Zt b) (uw D (te b))) (rT i)):=by
 intro aj s σ H D0 I h;rw[exec_Assign_Name_used _ _ _ _ hsw];apply aS (AL (aS ?_));apply aS (l6 (jy B hc hN hi (oF λ_ _ _=>v7) (λb D=>#[(hin b).1.1,(hin b).1.2,Rf hc rfl (hin b).2.1 (hin b).2.2.1 (hin b).2.2.2.1 (hin b).2.2.2.2 (hs2 b)]) hs I h λs' H' D C m I' f' hn q=>?_) (λ_ s' hq=>d5 (d5 hq)) λ_ _ e=>e)
 apply wpAny_assign_Name (lU I' Dq hy (.inl hl) (v:=.ref D) rfl (λs2 I2 hsb=>?_) (.inr hl))
 let(f0,f1,f2,f3,f4,f5):=f';let(a,sb,ha):=hsb;have nC:C≠a:=by
  rcases ha with e |e
  . rw[e];show f1
  . show mM (f4 _ _ e)
 apply#[m,hn.sameBut sb nC,λh' sb'=>#[_,H',?_,q]]
 show I2.turned (λb o hb e=>(sb'.2 b hb).trans e) f0 f1 f3 f4 f5
end
section
variable{X:Cx}{aj: ~~~1}{σ:St}{H:Hp}{s:Shared}
meta abbrev tKd (X:Cx):=tupleKind (g7 X.prog X.w)
def lY:∀{ks:List Key}{aA:List Value},Vals (ks.map kV) aA->PySem.ItemsAre (g7 X.prog X.w) ks aA
 | [],_,.nil=>.nil
 |.inl i::ks,_,.cons h r=>by let(t,rfl):=h;show .cons (vP _ _ _ _) (lY r)
 |.inr x::ks,_,.cons h r=>by let(t,rfl):=h;show .cons (vQ _ _ _ _) (lY r)
def Inv.Hs(I: ~~~7)(h:gF X.K H a (ks.map kV)):(tKd X).is s.heap ks a:=by let(aA,r,(o,e,c,n,d),_):=I.tuple h;show#[o,aA.toArray,n,e,c,d,by simpa using lY r]
def y9{α β:Type}{F:α->β->Prop}:∀{l:List α}{m:List β},Paired F l m->∀b∈m,∃a∈l,F a b:=by
 intro l m hp b hb
 induction hp with
 |nil=>cases hb
 |cons h r ih=>
  rcases dS.mp hb with rfl |e
  . show#[_,dC,h]
  . let(a,h1,h2):=ih e;show#[a,bP _ h1,h2]
abbrev atK{α:Type}(l:List (List Key×α))(ks:List Key):Option α:=(l.find? λp=>decide (p.1=ks)).map (·.2)
def v8{F:List Key×V->List Key×Addr×Value->Prop}(hF:∀p q,F p q->p.1=q.1/\RelV p.2 q.2.2){ks:List Key}{v:V}:∀{l:List (List Key×V)}{m:List (List Key×Addr×Value)},Paired F l m->atK l ks=!v->∃p,atKey m ks=!p/\RelV v p.2:=by
 intro l m hp e
 induction hp with
 |nil=>cases e
 |@cons p q l m h r ih=>
  let(k,x):=p;let(k',a,u):=q;let(e1,e2):=hF _ _ h;have e1:k=k':=e1;subst e1;delta atK at e;delta atKey;rw[List.find?_cons]at e ⊢
  by_cases hk:k=ks
  .
   rw[show decide (k=ks)=true from oC hk]at e ⊢
   cases e;show#[(a,u),rfl,e2]
  .
   rw[show decide (k=ks)=false from oD hk]at e ⊢
   show ih e
def Inv.Zu{d:Addr}{iN:List (List Key×V)}(I: ~~~7)(h:H d=!(.dT iN)):∃xs,s.heap.DictOfH (tKd X) d xs/\Paired (λ(p:List Key×V) (q:List Key×Addr×Value)=>p.1=q.1/\H q.2.1=!(.tup (p.1.map kV))/\RelV p.2 q.2.2) iN xs/\iN.length<=sizeLine/\(d==sysModules)=false:=by
 let(hz,hs,xs,pr,o,es,ep,e1,e2,e3,e4,e5):=(show cX X.prog X.w H s.heap d (.dT iN)from I.hok d _ h);apply#[xs,#[o,es,ep,e1,e2,e3,e4,λx hx=>?_,e5],pr,hz,hs]
 let(p,_,q1,q2,_):=y9 pr x hx;rw[<- q1];show I.Hs (.inl (.inl q2))
abbrev rIxD(K:Frag):R2:=λx y H Q=>∃p a iN ks v,x=.ref p/\y=.ref a/\H p=!(.dT iN)/\gF K H a (ks.map kV)/\atK iN ks=!v/\Q v H
def MT(hu:X.A.units+1<cLine):Zf X (rIxD X.K):=by
 intro value slice aj s σ H x y v u Q I rx ry h hs;let(p,a,iN,ks,z,rfl,rfl,hp,ha,he,q):=h;cases rx;cases ry;let(xs,dh,pr,hz,hy):=I.Zu hp;let(w,w1,w2):=v8 (λ_ _ h=>#[h.1,h.2.2]) pr he
 have fin:EP X aj σ Q w.2 { s with toks:=s.toks+(tKd X).draws ks}:=⟨z,H,I.tok _,w2,q⟩;show subscriptTail_builtinR (x:=w.2) dh.typeIs slot_dict_getitem.lookup (wpAny_getItem_heap (Q:=λr s'=>r=w.2/\EP X aj σ Q r s') (tupleKind_room_in1 hu) (I.Hs ha) dh w1 #[rfl,fin]) hs
end
end L2
namespace Ev
open L2
inductive D where
 |non |bl (b:Bool) |int (i:Int) |str (x:Str) |tup (l:List D) |lst (l:List D) |fix (l:List D) |emp |nq (C:Addr) |Dr (ks: ~~~5) (ds:List D)
 deriving Inhabited
inductive Slot where
 |no |dat (d:D) |own (l:List D)
 deriving Inhabited
inductive R where
 |dat (d:D) |new (l:List D) |var (i:Nat)
 deriving Inhabited
def G:=List Slot
def Sg:=L2.St
meta abbrev K0:Hp:=λ_=>none
abbrev LstAt(M:List Addr)(H:Hp)(a:Addr)(xs:List V):Prop:=a∉M/\H a=!(.lst xs)
abbrev nu(K:Frag)(M:List Addr)(H:Hp)(a:Addr)(xs:List V):Prop:=(a∉M/\∃o,H a=!(.fT o (.lst xs)))\/cg K K0 a xs
abbrev TupAt(K:Frag)(M:List Addr)(H:Hp)(a:Addr)(xs:List V):Prop:=(a∉M/\Rd H a (.tup xs))\/(gF K K0 a xs/\∃o,K.lookup a=!o/\o.dict=none)
def rd0(h:Rd K0 a u):False:=by rcases h with h |⟨o,h⟩ <;> symm
def nu.sq{K:Frag}{M:List Addr}{H:Hp}{a:Addr}{xs:List V}(h:nu K M H a xs):cg K H a xs:=by
 rcases h with ⟨_,o,h⟩ |h |h
 . show .inl (.inr #[o,h])
 . show (rd0 h).elim
 . show .inr h
def TupAt.sq{K:Frag}{M:List Addr}{H:Hp}{a:Addr}{xs:List V}(h:TupAt K M H a xs):gF K H a xs:=by
 rcases h with ⟨_,h⟩ |⟨h |h,_⟩
 . show .inl h
 . show (rd0 h).elim
 . show .inr h
meta abbrev za(C a:Addr):HO:=.ext λh=>∃o,h.get? a=!o/\o.cls=.ref C/\PySem.W.notCls o=true/\o.dict=none
structure Ht(K:Frag)(C:Addr):Prop where
 gga:PySem.W.findIn K (.ref C) "__getattribute__"=!(!(.builtin "BaseException.__getattribute__"))
 gat:PySem.W.findIn K (.ref C) "__getattr__"=!none
 bas:PySem.W.mroIn K C (.type "BaseException")=!true
 dct:PySem.W.hasDictIn K C=true
 cls:PySem.W.findIn K (.ref C) "__class__"=!(!(.builtin "object.__class__"))
 spc:PySem.W.specialIn K (.builtin "object.__class__") "__get__"=!(!(.builtin "getset_descriptor.__get__"))
 tks:PySem.W.takesIn K (.builtin "object.__class__")=!true
 mro:PySem.W.mroIn K C (.type "object")=!true
 kit:∀n∈["int", "bool", "str", "tuple", "list", "dict"],PySem.W.kitOne K (.ref C) (.type n)=!false
meta abbrev dicO(ks: ~~~5)(vs:List V):HO:=.dT ((ks.map (List.map Sum.inl)).zip vs)
abbrev Zv:HO->Prop
 |.lst _ |.dT _=>True
 |_=>False
mutual
inductive Rep(K:Frag)(M:List Addr)(H:Hp):D->V->Prop
 |non:Rep K M H .non .non
 |bl (b:Bool):Rep K M H (.bl b) (.bl b)
 |int (i:Int):Rep K M H (.int i) (.int i)
 |str (x:Str):Rep K M H (.str x) (.str x)
 |tup {l:List D}{a:Addr}{xs:List V}:TupAt K M H a xs->aJ K M H l xs->Rep K M H (.tup l) (.ref a)
 |lst {l:List D}{a:Addr}{xs:List V}:LstAt M H a xs->aJ K M H l xs->Rep K M H (.lst l) (.ref a)
 |fix {l:List D}{a:Addr}{xs:List V}:nu K M H a xs->aJ K M H l xs->Rep K M H (.fix l) (.ref a)
 |emp:a∉M->H a=!(.dK [])->Rep K M H .emp (.ref a)
 |nq:Ht K C->a∉M->H a=!(za C a)->Rep K M H (.nq C) (.ref a)
 |Dr:a∉M->H a=!(dicO ks vs)->ks.length=vs.length->aJ K M H ds vs->Rep K M H (.Dr ks ds) (.ref a)
inductive aJ(K:Frag)(M:List Addr)(H:Hp):List D->List V->Prop
 |nil:aJ K M H [] []
 |cons {d:D}{ds:List D}{x:V}{xs:List V}:Rep K M H d x->aJ K M H ds xs->aJ K M H (d::ds) (x::xs)
end
abbrev au(M:List Addr)(H:Hp)(M':List Addr)(H':Hp):Prop:=∀b o,H b=!o->b∉M->H' b=!o/\b∉M'
def au.rd(h:au M H M' H')(n:a∉M)(r:Rd H a u):a∉M'/\Rd H' a u:=by
 rcases r with r |⟨o,r⟩
 . show#[(h _ _ r n).2,.inl (h _ _ r n).1]
 . show#[(h _ _ r n).2,.inr #[o,(h _ _ r n).1]]
def Rep.stay{K:Frag}{M M':List Addr}{H H':Hp}(h:au M H M' H'){d:D}{v:V}(r:Rep K M H d v):Rep K M' H' d v:=by
 apply Rep.rec .non .bl .int .str (λt _ q=>?_) (λt _ q=>?_) (λt _ q=>?_) (λn r=>.emp (h _ _ r n).2 (h _ _ r n).1) (λx n r=>.nq x (h _ _ r n).2 (h _ _ r n).1) (λn r l _ q=>.Dr (h _ _ r n).2 (h _ _ r n).1 l q) .nil (λ_ _ a b=>.cons a b) r
 .
  rcases t with t |t
  . show .tup (.inl (h.rd t.1 t.2)) q
  . show .tup (.inr t) q
 . show .lst #[(h _ _ t.2 t.1).2,(h _ _ t.2 t.1).1] q
 .
  rcases t with ⟨n,o,r⟩ |t
  . show .fix (.inl #[(h _ _ r n).2,o,(h _ _ r n).1]) q
  . show .fix (.inr t) q
def aJ.stay{K:Frag}{M M':List Addr}{H H':Hp}(h:au M H M' H'):∀{ds:List D}{vs:List V},aJ K M H ds vs->aJ K M' H' ds vs:=by
 intro ds
 induction ds with
 |nil=>intro vs q;cases q;show .nil
 |cons d ds ih=>intro vs q;cases q with |cons a b=>show .cons (a.stay h) (ih b)
def au.refl(M:List Addr)(H:Hp):au M H M H:=λ_ _ e n=>#[e,n]
def au.trans(a:au M H M1 H1)(b:au M1 H1 M2 H2):au M H M2 H2:=λc o e n=>b c o (a c o e n).1 (a c o e n).2
def au.less(h:∀m∈M',m∈M):au M H M' H:=λ_ _ e n=>#[e,λz=>n (h _ z)]
def au.laid(hp:H p=none):au M H M (upd H p o):=λb u e n=>#[by rw[az (aK e hp)];show e,n]
def au.aU(hp:H p=none):au M H (p::M) (upd H p o):=λb u e n=>
 #[by rw[az (aK e hp)];show e,λz=>(dS.mp z).elim (λq=>aK e hp q) n]
def au.write(hp:p∈M):au M H M (upd H p o):=λb u e n=>#[by rw[az (λq=>n (by rw[q];show hp))];show e,n]
def aJ.length{K:Frag}{M:List Addr}{H:Hp}{ds:List D}{vs:List V}(r:aJ K M H ds vs):ds.length=vs.length:=by
 induction ds generalizing vs with
 |nil=>cases r;rfl
 |cons d ds ih=>cases r with |cons a b=>show congrArg (· + 1) (ih b)
def aJ.append{K:Frag}{M:List Addr}{H:Hp}{ds es:List D}{vs ws:List V}(r:aJ K M H ds vs)(s:aJ K M H es ws):aJ K M H (ds++es) (vs++ws):=by
 induction ds generalizing vs with
 |nil=>cases r;show s
 |cons d ds ih=>cases r with |cons a b=>show .cons a (ih b)
def aJ.get{K:Frag}{M:List Addr}{H:Hp}{ds:List D}{vs:List V}{i:Nat}{d:D}(r:aJ K M H ds vs)(e:ds[i]?=!d):∃v,vs[i]?=!v/\Rep K M H d v:=by
 induction ds generalizing vs i with
 |nil=>show nomatch (show none=!d from e)
 |cons d' ds ih=>cases r with |cons a b=>cases i with
  |zero=>cases (show some d'=!d from e);show#[_,rfl,a]
  |succ i=>let(v,h):=ih b e;show#[v,h]
def aJ.set{K:Frag}{M:List Addr}{H:Hp}{d:D}{v:V}(r:Rep K M H d v){ds:List D}{vs:List V}(i:Nat)(q:aJ K M H ds vs):aJ K M H (ds.set i d) (vs.set i v):=by
 induction ds generalizing vs i with
 |nil=>cases q;show .nil
 |cons d' ds ih=>cases q with |cons a b=>cases i with
  |zero=>show .cons r b
  |succ i=>show .cons a (ih i b)
def aJ.take{K:Frag}{M:List Addr}{H:Hp}{ds:List D}{vs:List V}(n:Nat)(q:aJ K M H ds vs):aJ K M H (ds.take n) (vs.take n):=by
 induction ds generalizing vs n with
 |nil=>cases q;rw[List.take_nil,List.take_nil];show .nil
 |cons d' ds ih=>cases q with |cons a b=>cases n with
  |zero=>show .nil
  |succ n=>show .cons a (ih n b)
def aJ.drop{K:Frag}{M:List Addr}{H:Hp}{ds:List D}{vs:List V}(n:Nat)(q:aJ K M H ds vs):aJ K M H (ds.drop n) (vs.drop n):=by
 induction ds generalizing vs n with
 |nil=>cases q;rw[List.drop_nil,List.drop_nil];show .nil
 |cons d' ds ih=>cases q with |cons a b=>cases n with
  |zero=>show .cons a b
  |succ n=>show ih n b
def aJ.reverse{K:Frag}{M:List Addr}{H:Hp}{ds:List D}{vs:List V}(q:aJ K M H ds vs):aJ K M H ds.reverse vs.reverse:=by
 induction ds generalizing vs with
 |nil=>cases q;show .nil
 |cons d ds ih=>cases q with |cons a b=>rw[CB,CB];show (ih b).append (.cons a .nil)
inductive Slots(K:Frag)(M:List Addr)(H:Hp):G->Sg->List Addr->Prop
 |nil:Slots K M H [] [] []
 |no:Slots K M H g σ As->Slots K M H (.no::g) (v::σ) As
 |dat {g:G}{σ:Sg}{As:List Addr}{v:V}{d:D}:Rep K M H d v->Slots K M H g σ As->Slots K M H (.dat d::g) (some v::σ) As
 |own {g:G}{σ:Sg}{As:List Addr}{a:Addr}{xs:List V}{ds:List D}:H a=!(.lst xs)->aJ K M H ds xs->Slots K M H g σ As->Slots K M H (.own ds::g) (some (.ref a)::σ) (a::As)
def Slots.stay{K:Frag}{M M':List Addr}{H H':Hp}(h:au M H M' H'){g:G}{σ:Sg}{As:List Addr}(k:∀a∈As,∀o,H a=!o->H' a=!o)(q:Slots K M H g σ As):Slots K M' H' g σ As:=by
 induction q with
 |nil=>show .nil
 |no q ih=>show .no (ih k)
 |dat r q ih=>show .dat (r.stay h) (ih k)
 |own e r q ih=>show .own (k _ dC _ e) (r.stay h) (ih λa ha=>k a (bP _ ha))
abbrev dz(K:Frag):List (Addr×Str):=K.filterMap λp=>match p.2.data with
 |.fields vs=>(match vs.toList with
  |_::.str n _::_=>if (n==("_law_refusals_right":Str))=true then (match vs.toList[11]? with
   |!(Value.ref q)=>if (K.lookup q).isNone=true then some (q,("_law_refusals_right.<locals>.<lambda>":Str))else none
   |_=>none)else none
  |_=>none)
 |_=>none
def Ds{K:Frag}{p:Addr×Str}(h:p∈dz K):p.2 = "_law_refusals_right.<locals>.<lambda>" :=by
 let(q,_,e):=BU.mp h;split at e
 .
  split at e
  .
   split at e
   .
    split at e
    .
     split at e
     . cases e;rfl
     . cases e
    . cases e
   . cases e
  . cases e
 . cases e
structure Z where
 K:Frag
 H0:Hp
 M0:List Addr
 lent:List (Nat×Addr)
 T:List (Addr×Str)
meta abbrev iO(q:Str)(c:Addr):HO:=.ext λh=>h.CodeRec (.ref c) q
abbrev TabOk(H:Hp)(p:Addr×Str):Prop:=∃ps:Array Value,H p.1=!(.ni ps)/\TriplesOk ps.toList/\∀pos cv,codeAmong pos ps.toList=!cv->∃c,cv=.ref c/\H c=!(iO p.2 c)
meta abbrev Z.TA(z:Z):List Addr:=z.T.map (·.1)
def TabOk.keep(t:TabOk H p)(k:∀b o,H b=!o->¬ Zv o->H' b=!o):TabOk H' p:=by let(ps,h1,h2,h3):=t;show#[ps,k _ _ h1 id,h2,λpos cv e=>let #[c,e1,e2]:=h3 pos cv e;#[c,e1,k _ _ e2 id]]
meta abbrev Z.B(z:Z):List Addr:=z.lent.map (·.2)
meta abbrev Z.bor(z:Z):List Nat:=z.lent.map (·.1)
structure S(z:Z)(g:G)(σ:Sg)(As M:List Addr)(H:Hp):Prop where
 sl:Slots z.K M H g σ As
 nd:As.Nodup
 sub:∀a∈As,a∈M
 own:∀(i:Nat) (a:Addr) (l:List D),g[i]?=!(.own l)->σ[i]?=!(!(.ref a))->(i∈z.bor/\a∈z.B)\/z.H0 a=none
 live:∀m∈M,(∃o,H m=!o/\Zv o)\/m∈z.TA
 keep:∀b o,z.H0 b=!o->b∉z.B->b∉z.TA->H b=!o
 iU:∀m∈z.M0,m∈M
 m0:∀m∈z.M0,z.H0 m≠none
 bm:∀b∈z.B,b∈z.M0
 jz:∀p∈z.lent,σ[p.1]?=!(!(.ref p.2))/\∃l,g[p.1]?=!(.own l)
 tab:∀p∈z.T,TabOk H p
 tm:∀p∈z.T,p.1∈z.M0
 tt:z.T=dz z.K
section
variable{g:G}
def S.fresh(s:S z g σ As M H)(hp:H p=none):p∉M:=λhm=>by
 rcases s.live p hm with ⟨o,e,_⟩ |e
 . rw[hp]at e;cases e
 . let(q,hq,rfl):=gN.mp e;let(ps,h1,_):=s.tab q hq;rw[hp]at h1;cases h1
def S.Rg(s:S z g σ As M H)(hp:H p=!(.lst xs)):p∉z.TA:=λe=>by
 let(q,hq,rfl):=gN.mp e;let(ps,h1,_):=s.tab q hq;rw[hp]at h1;cases h1
def S.cD(s:S z g σ As M H)(hp:H p=none):z.H0 p=none:=by
 cases e:z.H0 p with
 |none=>rfl
 |some o=>
  by_cases hb:p∈z.B
  . show absurd (s.iU _ (s.bm _ hb)) (s.fresh hp)
  .
   by_cases ht:p∈z.TA
   . let(q,hq,rfl):=gN.mp ht;show absurd (s.iU _ (s.tm q hq)) (s.fresh hp)
   . rw[s.keep p o e hb ht]at hp;cases hp
def S.laid(s:S z g σ As M H){p:Addr}{o:HO}(hp:H p=none):S z g σ As M (upd H p o) where
 sl:=s.sl.stay (au.laid hp) λa _ u e=>by rw[az (aK e hp)];show e
 nd:=s.nd
 sub:=s.sub
 own:=s.own
 live:=λm hm=>by
  rcases s.live m hm with ⟨o,e,gr⟩ |e
  . show .inl #[o,by rw[az (aK e hp)];show e,gr]
  . show .inr e
 keep:=λb u e hb ht=>by rw[az (aK (s.keep b u e hb ht) hp)];show s.keep b u e hb ht
 iU:=s.iU
 m0:=s.m0
 bm:=s.bm
 jz:=s.jz
 tab:=λp h=>(s.tab p h).keep λb u e _=>by rw[az (aK e hp)];show e
 tm:=s.tm
 tt:=s.tt
def S.Zw(s:S z g σ As M H){p:Addr}{u0:HO}(gu:Zv u0)(hp:H p=none):S z g σ As (p::M) (upd H p u0) where
 sl:=s.sl.stay (au.aU hp) λa _ u e=>by rw[az (aK e hp)];show e
 nd:=s.nd
 sub:=λa ha=>bP _ (s.sub a ha)
 own:=s.own
 live:=λm hm=>by
  rcases dS.mp hm with rfl |hm
  . show .inl #[_,aC,gu]
  .
   rcases s.live m hm with ⟨o,e,gr⟩ |e
   . show .inl #[o,by rw[az (aK e hp)];show e,gr]
   . show .inr e
 keep:=λb u e hb ht=>by rw[az (aK (s.keep b u e hb ht) hp)];show s.keep b u e hb ht
 iU:=λm hm=>bP _ (s.iU m hm)
 m0:=s.m0
 bm:=s.bm
 jz:=s.jz
 tab:=λp h=>(s.tab p h).keep λb u e _=>by rw[az (aK e hp)];show e
 tm:=s.tm
 tt:=s.tt
def S.aU(s:S z g σ As M H)(hp:H p=none):S z g σ As (p::M) (upd H p (.lst xs)):=s.Zw trivial hp
def S.Tv(s:S z g σ As M H){a:Addr}{u0 u1:HO}(hm:a∈M)(hA:a∉As)(h0:z.H0 a=none)(h:H a=!u0)(g0:Zv u0)(g1:Zv u1):S z g σ As M (upd H a u1) where
 sl:=s.sl.stay (au.write hm) λb hb u e=>by rw[az (show b≠a from λq=>hA (by rw[<- q];show hb))];show e
 nd:=s.nd
 sub:=s.sub
 own:=s.own
 live:=λm hm=>by
  by_cases e:m=a
  . subst e;show .inl #[_,aC,g1]
  .
   rcases s.live m hm with ⟨o,q,gr⟩ |q
   . show .inl #[o,by rw[az e];show q,gr]
   . show .inr q
 keep:=λb o e hb ht=>by rw[az (λq=>by rw[q,h0]at e;cases e)];show s.keep b o e hb ht
 iU:=s.iU
 m0:=s.m0
 bm:=s.bm
 jz:=s.jz
 tab:=λp hp=>(s.tab p hp).keep λb o e n=>by rw[az (λq=>by rw[q,h]at e;cases e;show n g0)];show e
 tm:=s.tm
 tt:=s.tt
def S.drop(s:S z g σ As M H)(h0:z.H0 p=none)(hA:p∉As):S z g σ As (M.filter λm=>decide (m≠p)) H where
 sl:=s.sl.stay (au.less λm hm=>(i5.mp hm).1) λ_ _ _ e=>e
 nd:=s.nd
 sub:=λa ha=>i5.mpr #[s.sub a ha,by have:a≠p:=λe=>hA (e▸ha);simpa using this]
 own:=s.own
 live:=λm hm=>s.live m (i5.mp hm).1
 keep:=s.keep
 iU:=λm hm=>i5.mpr #[s.iU m hm,by have:m≠p:=λe=>s.m0 m hm (e▸h0);simpa using this]
 m0:=s.m0
 bm:=s.bm
 jz:=s.jz
 tab:=s.tab
 tm:=s.tm
 tt:=s.tt
end
abbrev dB(z:Z)(g:G)(σ:Sg)(As M:List Addr)(H:Hp):R->V->Prop
 |.dat d,v=>Rep z.K M H d v
 |.new l,v=>∃a xs,v=.ref a/\a∈M/\a∉As/\z.H0 a=none/\H a=!(.lst xs)/\aJ z.K M H l xs
 |.var i,v=>∃l,g[i]?=!(.own l)/\σ[i]?=!(!v)
inductive Pk(K:Frag)(M:List Addr)(H:Hp):D->V->Prop
 |of:Rep K M H d v->Pk K M H d v
 |lst {l:List D}{a:Addr}{xs:List V}:H a=!(.lst xs)->aJ K M H l xs->Pk K M H (.lst l) (.ref a)
def Pk.list{K:Frag}{M:List Addr}{H:Hp}{l:List D}{v:V}(h:Pk K M H (.lst l) v):∃a xs,v=.ref a/\H a=!(.lst xs)/\aJ K M H l xs:=by
 cases h with
 |of r=>cases r with |lst h1 h2=>show⟨_,_,rfl,h1.2,h2⟩
 |lst h1 h2=>show#[_,_,rfl,h1,h2]
def Slots.at{K:Frag}{M:List Addr}{H:Hp}{g:G}{σ:Sg}{As:List Addr}{i:Nat}{l:List D}(q:Slots K M H g σ As)(e:g[i]?=!(.own l)):∃a xs,σ[i]?=!(!(.ref a))/\a∈As/\H a=!(.lst xs)/\aJ K M H l xs:=by
 induction q generalizing i with
 |nil=>show nomatch (show none=!(Slot.own l)from e)
 |no q ih=>cases i with
  |zero=>show nomatch (show some Slot.no=!(Slot.own l)from e)
  |succ i=>show ih e
 |dat r q ih=>cases i with
  |zero=>show nomatch (show some (Slot.dat _)=!(Slot.own l)from e)
  |succ i=>show ih e
 |own h r q ih=>cases i with
  |zero=>cases (show some (Slot.own _)=!(Slot.own l)from e);show#[_,_,rfl,dC,h,r]
  |succ i=>let(a,xs,h1,h2,h3):=ih e;show#[a,xs,h1,bP _ h2,h3]
def Slots.sy{K:Frag}{M:List Addr}{H:Hp}{g:G}{σ:Sg}{As:List Addr}{i:Nat}{d:D}(q:Slots K M H g σ As)(e:g[i]?=!(.dat d)):∃v,σ[i]?=!(!v)/\Rep K M H d v:=by
 induction q generalizing i with
 |nil=>show nomatch (show none=!(Slot.dat d)from e)
 |no q ih=>cases i with
  |zero=>show nomatch (show some Slot.no=!(Slot.dat d)from e)
  |succ i=>show ih e
 |dat r q ih=>cases i with
  |zero=>cases (show some (Slot.dat _)=!(Slot.dat d)from e);show#[_,rfl,r]
  |succ i=>show ih e
 |own h r q ih=>cases i with
  |zero=>show nomatch (show some (Slot.own _)=!(Slot.dat d)from e)
  |succ i=>show ih e
def Slots.length{K:Frag}{M:List Addr}{H:Hp}{g:G}{σ:Sg}{As:List Addr}(q:Slots K M H g σ As):g.length=σ.length:=by
 induction q with
 |nil=>rfl
 |no q ih=>show congrArg (· + 1) ih
 |dat r q ih=>show congrArg (· + 1) ih
 |own h r q ih=>show congrArg (· + 1) ih
def Slots.jX{K:Frag}{M:List Addr}{H:Hp}{d:D}{v:V}(r:Rep K M H d v){g:G}{σ:Sg}{As:List Addr}(i:Nat)(q:Slots K M H g σ As):∃aE,Slots K M H (g.set i (.dat d)) (σ.set i (!v)) aE/\aE.Sublist As:=by
 induction q generalizing i with
 |nil=>show#[[],.nil,.slnil]
 |no q ih=>cases i with
  |zero=>show#[_,.dat r q,CF _]
  |succ i=>let(aE,h1,h2):=ih i;show#[aE,.no h1,h2]
 |dat r' q ih=>cases i with
  |zero=>show#[_,.dat r q,CF _]
  |succ i=>let(aE,h1,h2):=ih i;show#[aE,.dat r' h1,h2]
 |own e r' q ih=>cases i with
  |zero=>show#[_,.dat r q,List.sublist_cons_self _ _]
  |succ i=>let(aE,h1,h2):=ih i;show#[_::aE,.own e r' h1,h2.cons₂ _]
def Slots.freeze{K:Frag}{M M':List Addr}{H:Hp}(hM:∀m∈M',m∈M){g:G}{σ:Sg}{As:List Addr}{i:Nat}{l:List D}{a:Addr}(q:Slots K M H g σ As)(e:g[i]?=!(.own l))(e2:σ[i]?=!(!(.ref a)))(na:a∉M')(nd:As.Nodup) :
  ∃aE,Slots K M' H (g.set i (.dat (.lst l))) σ aE/\aE.Sublist As/\a∉aE:=by
 induction q generalizing i with
 |nil=>show nomatch (show none=!(Slot.own l)from e)
 |no q ih=>cases i with
  |zero=>show nomatch (show some Slot.no=!(Slot.own l)from e)
  |succ i=>let(aE,h1,h2,h3):=ih e e2 nd;show#[aE,.no h1,h2,h3]
 |dat r q ih=>cases i with
  |zero=>show nomatch (show some (Slot.dat _)=!(Slot.own l)from e)
  |succ i=>let(aE,h1,h2,h3):=ih e e2 nd;show#[aE,.dat (r.stay (au.less hM)) h1,h2,h3]
 |@own g σ As b xs ds h r q ih=>cases i with
  |zero=>
   cases (show some (Slot.own _)=!(Slot.own l)from e)
   cases (show some (!(V.ref b))=!(!(V.ref a))from e2)
   show#[_,.dat (.lst #[na,h] (r.stay (au.less hM))) (q.stay (au.less hM) λ_ _ _ e=>e),List.sublist_cons_self _ _,(i6.mp nd).1]
  |succ i=>
   let(aE,h1,h2,h3):=ih e e2 (i6.mp nd).2;apply#[b::aE,.own h (r.stay (au.less hM)) h1,h2.cons₂ _,λhm=>?_]
   rcases dS.mp hm with z |z
   .
    let(c,xs,z1,z2,_):=q.at e;cases (show some (!(V.ref c))=!(!(V.ref a))from z1.symm.trans e2)
    show (i6.mp nd).1 (by rw[<- z];show z2)
   . show h3 z
def Slots.change{K:Frag}{M:List Addr}{H H':Hp}{l':List D}{a:Addr}{xs':List V}(st:au M H M H')(ha:H' a=!(.lst xs'))(r':aJ K M H' l' xs'){g:G}{σ:Sg}{As:List Addr}{i:Nat}{l:List D}(q:Slots K M H g σ As)(e:g[i]?=!(.own l))(e2:σ[i]?=!(!(.ref a)))(nd:As.Nodup)
  (k:∀b∈As,b≠a->∀o,H b=!o->H' b=!o):Slots K M H' (g.set i (.own l')) σ As:=by
 induction q generalizing i with
 |nil=>show nomatch (show none=!(Slot.own l)from e)
 |no q ih=>cases i with
  |zero=>show nomatch (show some Slot.no=!(Slot.own l)from e)
  |succ i=>show .no (ih e e2 nd k)
 |dat r q ih=>cases i with
  |zero=>show nomatch (show some (Slot.dat _)=!(Slot.own l)from e)
  |succ i=>show .dat (r.stay st) (ih e e2 nd k)
 |@own g σ As b xs ds h r q ih=>cases i with
  |zero=>
   cases (show some (!(V.ref b))=!(!(V.ref a))from e2)
   show .own ha r' (q.stay st λc hc o e=>k c (bP _ hc) (λz=>(i6.mp nd).1 (by rw[<- z];show hc)) o e)
  |succ i=>
   apply .own (k b dC (λz=>?_) _ h) (r.stay st) (ih e e2 (i6.mp nd).2 λc hc=>k c (bP _ hc))
   let(c,xs,z1,z2,_):=q.at e;cases (show some (!(V.ref c))=!(!(V.ref a))from z1.symm.trans e2)
   show (i6.mp nd).1 (by rw[z];show z2)
section
variable{g:G}
def gH(h:(g.set i (.dat d))[j]?=!(.own l)):g[j]?=!(.own l)/\j≠i:=by
 by_cases e:i=j
 .
  subst e;by_cases hi:i<g.length
  . rw[fI hi]at h;symm
  . rw[rV.mpr (by rw[n0];lia)]at h;symm
 . rw[eR e]at h;show#[h,mM e]
def S.freeze(s:S z g σ As M H){i:Nat}{l:List D}(hg:g[i]?=!(.own l))(hb:i∉z.bor):∃aE M',S z (g.set i (.dat (.lst l))) σ aE M' H/\au M H M' H:=by
 let(a,xs,e1,e2,e3,e4):=s.sl.at hg;have h0:=(s.own i a l hg e1).elim (λq=>absurd q.1 hb) id
 have hM:∀m∈(M.filter λm=>decide (m≠a)),m∈M:=λm hm=>(i5.mp hm).1
 have na:a∉(M.filter λm=>decide (m≠a)):=λhm=>by
  have:=(i5.mp hm).2;simp at this
 let(aE,q1,q2,q3):=s.sl.freeze hM hg e1 na s.nd;apply#[aE,_,#[q1,s.nd.sublist q2,λb hb=>i5.mpr #[s.sub b (q2.subset hb),?_],λj b l' h1 h2=>s.own j b l' (gH h1).1 h2,λm hm=>s.live m (hM m hm),s.keep,λm hm=>i5.mpr #[s.iU m hm,?_],s.m0,s.bm,λp hp=>#[(s.jz p hp).1,?_],s.tab,s.tm,s.tt],au.less hM]
 rotate_left 2
 .
  have:i≠p.1:=λe=>hb (by rw[e];show sK hp)
  rw[eR this];show (s.jz p hp).2
 .
  have:b≠a:=λe=>q3 (e▸hb)
  simpa using this
 .
  have:m≠a:=λe=>s.m0 m hm (e▸h0)
  simpa using this
def S.write(s:S z g σ As M H){i:Nat}{l l':List D}{a:Addr}{xs':List V}(hg:g[i]?=!(.own l))(e1:σ[i]?=!(!(.ref a)))(r:aJ z.K M H l' xs'):S z (g.set i (.own l')) σ As M (upd H a (.lst xs'))/\au M H M (upd H a (.lst xs')):=by
 let(b,xs,e2,e3,e4,e5):=s.sl.at hg;rw[e1]at e2;injection e2 with e2;injection e2 with e2;injection e2 with e2;subst e2;have st:au M H M (upd H a (.lst xs')):=au.write (s.sub a e3);apply#[#[s.sl.change st aC (r.stay st) hg e1 s.nd (λb _ ne o e=>by rw[az ne];show e),s.nd,s.sub,λj b l2 h1 h2=>?_,λm hm=>?_,λb o e hb ht=>?_,s.iU,s.m0,s.bm,λp hp=>#[(s.jz p hp).1,?_],λp h=>(s.tab p h).keep λb u e nl=>?_,s.tm,s.tt],st]
 rotate_left 3
 .
  by_cases hj:i=p.1
  . rw[<- hj];show#[l',fI (dE.mp hg).1]
  . rw[eR hj];show (s.jz p hp).2
 .
  have:b≠a:=λz2=>by subst z2;rw[e4]at e;cases e;show nl trivial
  rw[az this];show e
 .
  by_cases hj:i=j
  . subst hj;show s.own i b l hg h2
  . rw[eR hj]at h1;show s.own j b l2 h1 h2
 .
  by_cases hm2:m=a
  . subst hm2;show .inl #[_,aC,trivial]
  .
   rcases s.live m hm with ⟨o,e,gr⟩ |e
   . show .inl #[o,by rw[az hm2];show e,gr]
   . show .inr e
 .
  have q:=s.keep b o e hb ht;have:b≠a:=λz2=>by
   subst z2;rcases s.own i b l hg e1 with w |w
   . show hb w.2
   . rw[w]at e;cases e
  rw[az this];show q
def S.jX(s:S z g σ As M H)(hb:i∉z.bor)(r:Rep z.K M H d v):∃aE,S z (g.set i (.dat d)) (σ.set i (!v)) aE M H:=by
 let(aE,h1,h2):=s.sl.jX r i;apply#[aE,h1,s.nd.sublist h2,λa ha=>s.sub a (h2.subset ha),λj b l h3 h4=>?_,s.live,s.keep,s.iU,s.m0,s.bm,λp hp=>?_,s.tab,s.tm,s.tt]
 rotate_left
 .
  have:i≠p.1:=λe=>hb (by rw[e];show sK hp)
  rw[eR this,eR this];show s.jz p hp
 let(h5,h6):=gH h3;rw[eR (mM h6)]at h4;show s.own j b l h5 h4
def Slots.pM{K:Frag}{a:Addr}{xs:List V}{l:List D}(h:H a=!(.lst xs))(r:aJ K M H l xs){g:G}{σ:Sg}{As:List Addr}(i:Nat)(q:Slots K M H g σ As)(hi:i<g.length):∃aE,Slots K M H (g.set i (.own l)) (σ.set i (!(.ref a))) aE/\(∀b∈aE,b=a\/b∈As)/\(As.Nodup->a∉As->aE.Nodup):=by
 induction q generalizing i with
 |nil=>show absurd hi (AJ _)
 |no q ih=>cases i with
  |zero=>show#[_,.own h r q,λb hb=>dS.mp hb,λnd na=>i6.mpr #[na,nd]]
  |succ i=>let(aE,h1,h2,h3):=ih i (AR hi);show#[aE,.no h1,h2,h3]
 |dat r' q ih=>cases i with
  |zero=>show#[_,.own h r q,λb hb=>dS.mp hb,λnd na=>i6.mpr #[na,nd]]
  |succ i=>let(aE,h1,h2,h3):=ih i (AR hi);show#[aE,.dat r' h1,h2,h3]
 |@own g σ As c ys ds e r' q ih=>cases i with
  |zero=>show#[_,.own h r q,λb hb=>(dS.mp hb).imp id (bP _),λnd na=>i6.mpr #[λz=>na (bP _ z),(i6.mp nd).2]]
  |succ i=>let(aE,h1,h2,h3):=ih i (AR hi);show#[c::aE,.own e r' h1,λb hb=>(dS.mp hb).elim (λz=>.inr (z▸dC)) λz=>(h2 b z).imp id (bP _),λnd na=>i6.mpr #[λz=>(h2 c z).elim (λw=>na (w▸dC)) (i6.mp nd).1,h3 (i6.mp nd).2 λw=>na (bP _ w)]]
def S.pM(s:S z g σ As M H){i:Nat}{l:List D}{a:Addr}{xs:List V}(hb:i∉z.bor)(hi:i<g.length)(hm:a∈M)(hA:a∉As)(h0:z.H0 a=none)(h:H a=!(.lst xs))(r:aJ z.K M H l xs):∃aE,S z (g.set i (.own l)) (σ.set i (!(.ref a))) aE M H:=by
 let(aE,h1,h2,h3):=s.sl.pM h r i hi;apply#[aE,h1,h3 s.nd hA,λb hb=>(h2 b hb).elim (λe=>e▸hm) (s.sub b),λj b l2 h4 h5=>?_,s.live,s.keep,s.iU,s.m0,s.bm,λp hp=>?_,s.tab,s.tm,s.tt]
 rotate_left
 .
  have:i≠p.1:=λe=>hb (by rw[e];show sK hp)
  rw[eR this,eR this];show s.jz p hp
 by_cases hj:i=j
 .
  subst hj;rw[fI (by rw[<- s.sl.length];show hi)]at h5
  injection h5 with h5;injection h5 with h5;injection h5 with h5;subst h5;show .inr h0
 . rw[eR hj]at h4 h5;show s.own j b l2 h4 h5
end
meta abbrev Kn (z:Z) (g':G) (σ:Sg) (M:List Addr) (H:Hp) (r:R) (Q:VK):Prop:=
 ∀v H' aE M',S z g' σ aE M' H'->au M H M' H'->dB z g' σ aE M' H' r v->Q v H'
abbrev aD(X:Cx)(z:Z)(e:Expr)(g:G)(r:R)(g':G):Prop:=
 ∃t,PE X e t/\∀σ As M H Q,S z g σ As M H->Kn z g' σ M H r Q->t σ H Q
abbrev cS(X:Cx)(z:Z)(e:Expr)(g:G)(b:Bool)(g':G):Prop:=
 ∃t,PT X e t/\∀σ As M H (Q:Bool->Hp->Prop),S z g σ As M H->(∀H' aE M',S z g' σ aE M' H'->au M H M' H'->Q b H')->t σ H Q
abbrev nB(X:Cx)(z:Z)(f:Value->Value->Sem Value)(d1 d2:D)(res:R):Prop:=
 ∃r:R2,n6 X f r/\∀g σ As M H v1 v2 Q,S z g σ As M H->Pk z.K M H d1 v1->Pk z.K M H d2 v2->Kn z g σ M H res Q->r v1 v2 H Q
abbrev XZ(X:Cx)(z:Z)(d1 d2:D)(res:R):Prop:=
 ∃r:R2,Zf X r/\∀g σ As M H v1 v2 Q,S z g σ As M H->Pk z.K M H d1 v1->Pk z.K M H d2 v2->Kn z g σ M H res Q->r v1 v2 H Q
abbrev UnD(X:Cx)(z:Z)(f:Value->Sem Value)(d:D)(res:R):Prop:=
 ∃r:V->Hp->VK->Prop,UnR X f r/\∀g σ As M H v Q,S z g σ As M H->Pk z.K M H d v->Kn z g σ M H res Q->r v H Q
abbrev pk:R->G->Option D
 |.dat d,_=>!d
 |.new _,_=>none
 |.var i,g=>match g[i]? with |!(.own l)=>!(.lst l) |!(.dat (.lst l))=>!(.lst l) |_=>none
section
def S.pk(s:S z g2 σ As M2 H2)(st:au M1 H1 M2 H2)(q:dB z g1 σ aQ M1 H1 r v)(h:pk r g2=!d):Pk z.K M2 H2 d v:=by
 cases r with
 |dat d'=>have e:d'=d:=o6 h;subst e;show .of (Rep.stay st q)
 |new l=>symm
 |var i=>
  let(l,h1,h2):=q;delta Ev.pk at h;dsimp only at h;split at h
  . ext l' hg;have e:=o6 h;subst e;let(a,xs,e1,e2,e3,e4):=s.sl.at hg;rw[h2]at e1;injection e1 with e1;injection e1 with e1;subst e1;show .lst e3 e4
  . ext l' hg;have e:=o6 h;subst e;let(w,e1,e2):=s.sl.sy hg;rw[h2]at e1;injection e1 with e1;injection e1 with e1;show .of (e1▸e2)
  . symm
def Tw{i j}:aD X z (.Constant (.int i) j pos) g ‹i› g:=#[_,GD,λσ As M H Q s k=>k _ _ _ _ s (au.refl _ _) (.int i)]
def Zx{i j}:aD X z (.Constant (.bool i) j pos) g (.dat (.bl i)) g:=#[_,YB,λσ As M H Q s k=>k _ _ _ _ s (au.refl _ _) (.bl i)]
def Tz{j}:aD X z (.Constant .none j pos) g (.dat .non) g:=#[_,GF,λσ As M H Q s k=>k _ _ _ _ s (au.refl _ _) .non]
def TF{x j}:aD X z (.Constant (.str x) j pos) g (.dat (.str x)) g:=#[_,R9,λσ As M H Q s k=>k _ _ _ _ s (au.refl _ _) (.str x)]
def TJ{i:Nat}{x:Str}(hN:X.N[i]?=!x)(hv:iR X.env.scope x)(hd:(x==(~~~3))=false)(bZ:(x==("__classdict__":Str))=false)(hg:g[i]?=!(.dat d)):aD X z (.Name x pos) g (.dat d) g:=
 #[_,cN hN hv hd bZ,λσ As M H Q s k=>let #[v,e,r]:=s.sl.sy hg;#[v,e,k v H As M s (au.refl _ _) r]]
def M7(hN:X.N[i]?=!x)(hv:iR X.env.scope x)(hd:(x==(~~~3))=false)(bZ:(x==("__classdict__":Str))=false)(hg:g[i]?=!(.own l)):aD X z (.Name x pos) g (.var i) g:=
 #[_,cN hN hv hd bZ,λσ As M H Q s k=>let #[a,xs,e,r]:=s.sl.at hg;#[_,e,k _ H As M s (au.refl _ _) #[l,hg,e]]]
def M8(hg:Gl X x)(hm:X.mg x=!u)(r:RelV v u)(hr:∀M H,Rep z.K M H d v)(hd:(x==(~~~3))=false):aD X z (.Name x pos) g (.dat d) g:=
 #[_,Ay hg hm r hd,λσ As M H Q s k=>k _ H As M s (au.refl _ _) (hr M H)]
def pN(h:aD X z e g (.new l) g'):aD X z e g (.dat (.lst l)) g':=by
 let(t,p,q):=h;apply#[t,p,λσ As M H Q s k=>q σ As M H Q s λv H' aE M' s' st r=>?_]
 let(a,xs,rfl,hm,hA,h0,ha,rr):=r;have hM:∀m∈(M'.filter λm=>decide (m≠a)),m∈M':=λm hm=>(i5.mp hm).1
 have na:a∉(M'.filter λm=>decide (m≠a)):=λhm=>by
  have:=(i5.mp hm).2;simp at this
 show k _ H' aE _ (s'.drop h0 hA) (st.trans (au.less hM)) (.lst #[na,ha] (rr.stay (au.less hM)))
def Dt(h:aD X z e g (.var i) g1)(hg:g1[i]?=!(.own l))(hb:i∉z.bor):aD X z e g (.dat (.lst l)) (g1.set i (.dat (.lst l))):=by
 let(t,p,q):=h;apply#[t,p,λσ As M H Q s k=>q σ As M H Q s λv H' aE M' s' st r=>?_]
 let(l',h1,h2):=r;let(bD,M2,s2,aM):=s'.freeze hg hb;have hi:=(dE.mp hg).1;let(v',e1,e2):=s2.sl.sy (by rw[fI hi])
 rw[h2]at e1;injection e1 with e1;injection e1 with e1;subst e1;show k _ H' bD M2 s2 (st.trans aM) e2
def TL(h1:aD X z a g r1 g1)(h2:aD X z b g1 r2 g2)(p1:pk r1 g2=!d1)(p2:pk r2 g2=!d2)(ho:nB X z (binaryOp op) d1 d2 r):aD X z (.BinOp a op b pos) g r g2:=by
 let(t1,q1,k1):=h1;let(t2,q2,k2):=h2;let(rr,o,ko):=ho;show#[_,YX o q1 q2,λσ As M H Q s k=>k1 σ As M H _ s λv1 H1 aQ M1 s1 dc R1=>k2 σ aQ M1 H1 _ s1 λv2 H2 bD M2 s2 aM R2=>
  ko g2 σ bD M2 H2 v1 v2 Q s2 (s2.pk aM R1 p1) (s2.pk (au.refl _ _) R2 p2) λv H' aE M' s' st' R'=>k v H' aE M' s' (dc.trans (aM.trans st')) R']
def TQ(h1:aD X z a g r1 g1)(h2:aD X z b g1 r2 g2)(p1:pk r1 g2=!d1)(p2:pk r2 g2=!d2)(ho:nB X z (compareOp op) d1 d2 r)(hm:behindInMarks op b=false):aD X z (.Compare a [op] [b] pos) g r g2:=by
 let(t1,q1,k1):=h1;let(t2,q2,k2):=h2;let(rr,o,ko):=ho;show#[_,Bb o q1 q2 hm,λσ As M H Q s k=>k1 σ As M H _ s λv1 H1 aQ M1 s1 dc R1=>k2 σ aQ M1 H1 _ s1 λv2 H2 bD M2 s2 aM R2=>
  ko g2 σ bD M2 H2 v1 v2 Q s2 (s2.pk aM R1 p1) (s2.pk (au.refl _ _) R2 p2) λv H' aE M' s' st' R'=>k v H' aE M' s' (dc.trans (aM.trans st')) R']
def Zy(h1:aD X z a g r1 g1)(h2:aD X z b g1 r2 g2)(p1:pk r1 g2=!d1)(p2:pk r2 g2=!d2)(ho:XZ X z d1 d2 r)(hs:uh b):aD X z (.Subscript a b pos) g r g2:=by
 let(t1,q1,k1):=h1;let(t2,q2,k2):=h2;let(rr,o,ko):=ho;show#[_,Rb o q1 q2 hs,λσ As M H Q s k=>k1 σ As M H _ s λv1 H1 aQ M1 s1 dc R1=>k2 σ aQ M1 H1 _ s1 λv2 H2 bD M2 s2 aM R2=>
  ko g2 σ bD M2 H2 v1 v2 Q s2 (s2.pk aM R1 p1) (s2.pk (au.refl _ _) R2 p2) λv H' aE M' s' st' R'=>k v H' aE M' s' (dc.trans (aM.trans st')) R']
def Zz(h1:aD X z a g r1 g1)(p1:pk r1 g1=!d1)(ho:UnD X z (unaryOp op) d1 r):aD X z (.UnaryOp op a pos) g r g1:=by let(t1,q1,k1):=h1;let(rr,o,ko):=ho;show#[_,Q9 o q1,λσ As M H Q s k=>k1 σ As M H _ s λv1 H1 aQ M1 s1 dc R1=>ko g1 σ aQ M1 H1 v1 Q s1 (s1.pk (au.refl _ _) R1 p1) λv H' aE M' s' st' R'=>k v H' aE M' s' (dc.trans st') R']
def fX(q:dB z g σ As M H (.dat (.bl c)) v):v=.bl c:=by have q':=q;cases q';rfl
def TV(h1:aD X z a g r1 g1)(h2:aD X z b g1 r2 g2)(p1:pk r1 g2=!d1)(p2:pk r2 g2=!d2)(ho:nB X z (compareOp op) d1 d2 (.dat (.bl c)))(hm:behindInMarks op b=false):cS X z (.Compare a [op] [b] pos) g c g2:=by
 let(t1,q1,k1):=h1;let(t2,q2,k2):=h2;let(rr,o,ko):=ho;show#[_,uc o q1 q2 hm,λσ As M H Q s k=>k1 σ As M H _ s λv1 H1 aQ M1 s1 dc R1=>k2 σ aQ M1 H1 _ s1 λv2 H2 bD M2 s2 aM R2=>
  ko g2 σ bD M2 H2 v1 v2 _ s2 (s2.pk aM R1 p1) (s2.pk (au.refl _ _) R2 p2) λv H' aE M' s' st' R'=>#[c,fX R',k H' aE M' s' (dc.trans (aM.trans st'))]]
def TX(h:cS X z a g c g'):cS X z (.UnaryOp .Not a pos) g ((not c)) g':=by let(t,q,k):=h;show#[_,GJ q,λσ As M H Q s kk=>k σ As M H _ s λH' aE M' s' st=>kk H' aE M' s' st]
abbrev oh(X:Cx)(z:Z)(e:Expr)(g:G)(b:Bool)(g':G):Prop:=
 ∃t,PW X e t/\∀σ As M H (Q:Bool->Hp->Prop),S z g σ As M H->(∀H' aE M',S z g' σ aE M' H'->au M H M' H'->Q b H')->t σ H Q
def oh.tr(h:oh X z e g c g'):cS X z e g c g':=let #[t,q,k]:=h;#[t,q.pt,k]
def M9(h:cS X z a g c g'):oh X z (.BoolOp .And [a] pos) g c g':=let #[t,q,k]:=h;#[t,pw_and1 q,k]
def TY(h:cS X z a g c g'):oh X z (.BoolOp .Or [a] pos) g c g':=let #[t,q,k]:=h;#[t,pw_or1 q,k]
abbrev tNo:TT:=λ_ _ _=>False
def pw_never:PW X e tNo:=λ_ _ _ _ _ _ _ h=>h.elim
def kP:PE X e (λ_ _ _=>False):=λ_ _ _ _ _ _ h=>h.elim
def Nb{rest:List Expr}(h:cS X z a g false g1):oh X z (.BoolOp .And (a::b::rest) pos) g false g1:=by let(t,q,k):=h;show#[_,pw_and q pw_never,λσ As M H Q s kk=>k σ As M H _ s λH' aE M' s' st=>n9 (kk H' aE M' s' st)]
def Nc{rest:List Expr}{c:Bool}(h:cS X z a g true g1)(h2:oh X z (.BoolOp .And (b::rest) pos) g1 c g2):oh X z (.BoolOp .And (a::b::rest) pos) g c g2:=by let(t,q,k):=h;let(t2,q2,k2):=h2;show#[_,pw_and q q2,λσ As M H Q s kk=>k σ As M H _ s λH' aE M' s' st=>jV (k2 σ aE M' H' Q s' λH2 bD M2 s2 aM=>kk H2 bD M2 s2 (st.trans aM))]
def T3{rest:List Expr}(h:cS X z a g true g1):oh X z (.BoolOp .Or (a::b::rest) pos) g true g1:=by let(t,q,k):=h;show#[_,pw_or q pw_never,λσ As M H Q s kk=>k σ As M H _ s λH' aE M' s' st=>jV (kk H' aE M' s' st)]
def T4{rest:List Expr}{c:Bool}(h:cS X z a g false g1)(h2:oh X z (.BoolOp .Or (b::rest) pos) g1 c g2):oh X z (.BoolOp .Or (a::b::rest) pos) g c g2:=by let(t,q,k):=h;let(t2,q2,k2):=h2;show#[_,pw_or q q2,λσ As M H Q s kk=>k σ As M H _ s λH' aE M' s' st=>n9 (k2 σ aE M' H' Q s' λH2 bD M2 s2 aM=>kk H2 bD M2 s2 (st.trans aM))]
def Hu(h:aD X z a g r g'):aD X z (.BoolOp op [a] pos) g r g':=let #[t,q,k]:=h;#[t,Sf q,k]
def Ng{rest:List Expr}(h:aD X z a g (.dat (.bl false)) g1):aD X z (.BoolOp .And (a::b::rest) pos) g (.dat (.bl false)) g1:=by let(t,q,k):=h;show#[_,GK q kP,λσ As M H Q s kk=>k σ As M H _ s λv H' aE M' s' st R=>#[false,fX R,n9 (kk _ H' aE M' s' st (.bl false))]]
def Nh{rest:List Expr}(h:aD X z a g (.dat (.bl true)) g1)(h2:aD X z (.BoolOp .And (b::rest) pos) g1 r g2):aD X z (.BoolOp .And (a::b::rest) pos) g r g2:=by let(t,q,k):=h;let(t2,q2,k2):=h2;show#[_,GK q q2,λσ As M H Q s kk=>k σ As M H _ s λv H' aE M' s' st R=>#[true,fX R,jV (k2 σ aE M' H' Q s' λv2 H2 bD M2 s2 aM=>kk v2 H2 bD M2 s2 (st.trans aM))]]
def T5{rest:List Expr}(h:aD X z a g (.dat (.bl true)) g1):aD X z (.BoolOp .Or (a::b::rest) pos) g (.dat (.bl true)) g1:=by let(t,q,k):=h;show#[_,Q7 q kP,λσ As M H Q s kk=>k σ As M H _ s λv H' aE M' s' st R=>#[true,fX R,jV (kk _ H' aE M' s' st (.bl true))]]
def T6{rest:List Expr}(h:aD X z a g (.dat (.bl false)) g1)(h2:aD X z (.BoolOp .Or (b::rest) pos) g1 r g2):aD X z (.BoolOp .Or (a::b::rest) pos) g r g2:=by let(t,q,k):=h;let(t2,q2,k2):=h2;show#[_,Q7 q q2,λσ As M H Q s kk=>k σ As M H _ s λv H' aE M' s' st R=>#[false,fX R,n9 (k2 σ aE M' H' Q s' λv2 H2 bD M2 s2 aM=>kk v2 H2 bD M2 s2 (st.trans aM))]]
def T7(h:aD X z a g (.dat (.bl c)) g1):aD X z (.UnaryOp .Not a pos) g (.dat (.bl ((not c)))) g1:=by let(t,q,k):=h;show#[_,Sh q,λσ As M H Q s kk=>k σ As M H _ s λv H' aE M' s' st R=>#[c,fX R,kk _ H' aE M' s' st (.bl _)]]
def T8(h:cS X z c g true g1)(h2:aD X z a g1 r g2):aD X z (.IfExp c a b pos) g r g2:=by let(t,q,k):=h;let(t2,q2,k2):=h2;show#[_,vU q q2 kP,λσ As M H Q s kk=>k σ As M H _ s λH' aE M' s' st=>jV (k2 σ aE M' H' Q s' λv2 H2 bD M2 s2 aM=>kk v2 H2 bD M2 s2 (st.trans aM))]
def T9(h:cS X z c g false g1)(h2:aD X z b g1 r g2):aD X z (.IfExp c a b pos) g r g2:=by let(t,q,k):=h;let(t2,q2,k2):=h2;show#[_,vU q kP q2,λσ As M H Q s kk=>k σ As M H _ s λH' aE M' s' st=>n9 (k2 σ aE M' H' Q s' λv2 H2 bD M2 s2 aM=>kk v2 H2 bD M2 s2 (st.trans aM))]
inductive jY(z:Z)(σ:Sg)(M:List Addr)(H:Hp):List R->List V->Prop
 |nil:jY z σ M H [] []
 |dat {d:D}{v:V}{rs:List R}{vs:List V}:Rep z.K M H d v->jY z σ M H rs vs->jY z σ M H (.dat d::rs) (v::vs)
 |var {i:Nat}{v:V}{rs:List R}{vs:List V}:σ[i]?=!(!v)->jY z σ M H rs vs->jY z σ M H (.var i::rs) (v::vs)
abbrev cY(X:Cx)(z:Z)(es:List Expr)(g:G)(rs:List R)(g':G):Prop:=
 ∃t,PA X es t/\∀σ As M H (Q:List V->Hp->Prop),S z g σ As M H->(∀vs H' aE M',S z g' σ aE M' H'->au M H M' H'->jY z σ M' H' rs vs->Q vs H')->t σ H Q
def eW:cY X z [] g [] g:=#[_,eU,λσ As M H Q s k=>k [] H As M s (au.refl _ _) .nil]
def dU(h:aD X z e g (.dat d) g1)(h2:cY X z es g1 rs g2)(hs:starEach (e::es) X.env=(false,eval e X.env)::starEach es X.env):cY X z (e::es) g (.dat d::rs) g2:=by let(t,q,k):=h;let(t2,q2,k2):=h2;show#[_,bJ q q2 hs,λσ As M H Q s kk=>k σ As M H _ s λv H' aE M' s' st R=>k2 σ aE M' H' _ s' λvs H2 bD M2 s2 aM R2=>kk _ H2 bD M2 s2 (st.trans aM) (.dat (Rep.stay aM R) R2)]
def Hv(h:aD X z e g (.var i) g1)(h2:cY X z es g1 rs g2)(hs:starEach (e::es) X.env=(false,eval e X.env)::starEach es X.env):cY X z (e::es) g (.var i::rs) g2:=by let(t,q,k):=h;let(t2,q2,k2):=h2;show#[_,bJ q q2 hs,λσ As M H Q s kk=>k σ As M H _ s (by rintro v H' aE M' s' st ⟨_,_,R⟩;show k2 σ aE M' H' _ s' λvs H2 bD M2 s2 aM R2=>kk _ H2 bD M2 s2 (st.trans aM) (.var R R2))]
inductive Ni(K:Frag)(M:List Addr)(H:Hp):List D->List V->Prop
 |nil:Ni K M H [] []
 |cons {d:D}{v:V}{ds:List D}{vs:List V}:Pk K M H d v->Ni K M H ds vs->Ni K M H (d::ds) (v::vs)
abbrev v9:List R->G->Option (List D)
 | [],_=>![]
 |r::rs,g=>match pk r g,v9 rs g with
  |!d,!ds=>!(d::ds)
  |_,_=>none
def S.v9(s:S z g σ As M H)(q:jY z σ M H rs vs)(e:v9 rs g=!ds):Ni z.K M H ds vs:=by
 induction q generalizing ds with
 |nil=>cases e;show .nil
 |@dat d v rs vs r q ih=>
  delta Ev.v9 at e;cases e2:Ev.v9 rs g with
  |none=>rw[e2]at e;cases e
  |some ds=>rw[e2]at e;cases e;show .cons (.of r) (ih e2)
 |@var i v rs vs r q ih=>
  delta Ev.v9 at e;cases e1:Ev.pk (.var i) g with
  |none=>rw[e1]at e;cases e
  |some d=>
   cases e2:Ev.v9 rs g with
   |none=>rw[e1,e2]at e;cases e
   |some ds=>
    rw[e1,e2]at e;cases e;delta Ev.pk at e1;dsimp only at e1;split at e1
    . ext l hg;cases e1;let(a,xs,h1,h2,h3,h4):=s.sl.at hg;rw[r]at h1;injection h1 with h1;injection h1 with h1;subst h1;show .cons (.lst h3 h4) (ih e2)
    . ext l hg;cases e1;let(w,h1,h2):=s.sl.sy hg;rw[r]at h1;injection h1 with h1;injection h1 with h1;show .cons (.of (h1▸h2)) (ih e2)
    . cases e1
abbrev wc:List R->Option (List D)
 | []=>![]
 |.dat d::rs=>match wc rs with |some ds=>!(d::ds) |none=>none
 |_::_=>none
def Bj(q:jY z σ M H rs vs)(e:wc rs=!ds):aJ z.K M H ds vs:=by
 induction q generalizing ds with
 |nil=>cases e;show .nil
 |@dat d v rs vs r q ih=>
  delta wc at e;cases e2:wc rs with
  |none=>rw[e2]at e;cases e
  |some ds=>rw[e2]at e;cases e;show .cons r (ih e2)
 |var _ _ _=>cases e
def pP(h:n<=16777216):n<=sizeLine:=by rw[oQ];show h
def Ua{x1}(h:cY X z es g rs g')(hd:wc rs=!ds)(hl:ds.length<=16777216):aD X z (.Tuple es x1 pos) g (.dat (.tup ds)) g':=by
 let(t,q,k):=h;apply#[_,G5 q,λσ As M H Q s kk=>k σ As M H _ s λvs H' aE M' s' st R=>?_]
 have rr:=Bj R hd;apply#[by rw[<- rr.length];show pP hl,λp hp=>kk _ _ aE M' (s'.laid hp) (st.trans (au.laid hp)) (.tup (.inl #[s'.fresh hp,.inl aC]) (rr.stay (au.laid hp)))]
def Ub(h:cY X z es g rs g')(hd:wc rs=!ds)(hl:ds.length<=16777216):aD X z (.List es pos) g (.new ds) g':=by
 let(t,q,k):=h;apply#[_,yR q,λσ As M H Q s kk=>k σ As M H _ s λvs H' aE M' s' st R=>?_]
 have rr:=Bj R hd;apply#[by rw[<- rr.length];show pP hl,λp hp=>kk _ _ aE (p::M') (s'.aU hp) (st.trans (au.aU hp)) #[p,vs,rfl,dC,λhA=>s'.fresh hp (s'.sub p hA),s'.cD hp,aC,rr.stay (au.aU hp)]]
abbrev CallD(X:Cx)(z:Z)(f:Value)(ds:List D)(res:R):Prop:=
 ∃r,e9 X f r/\∀g σ As M H vs Q,S z g σ As M H->Ni z.K M H ds vs->Kn z g σ M H res Q->r vs H Q
def Hw{x:Str}{id:String}{p:Pos}{es:List Expr}{rs:List R}{ds:List D}(h:cY X z (e::es) g rs g')(hp:v9 rs g'=!ds)(hc:CallD X z (.builtin id) ds r)(hg:Gl X x)(hm:X.mg x=none)(hv:bootBuiltins x=!(.builtin id))(hn:x≠ "__name__")(jR:(x==(~~~3))=false)
  (he:starEach (e::es) X.env=(false,eval e X.env)::starEach es X.env) (lP:(backTo pos (starEach es X.env)).any (·.1)=false):aD X z (.Call (.Name x p) (e::es) [] pos) g r g':=by
 let(t,q,k):=h;let(rr,c,kc):=hc;show#[_,kL c hg hm hv q hn jR he lP,λσ As M H Q s kk=>k σ As M H _ s λvs H' aE M' s' st R=>kc g' σ aE M' H' vs Q s' (s'.v9 R hp) λv H2 bD M2 s2 aM R2=>kk v H2 bD M2 s2 (st.trans aM) R2]
def Du(h:cY X z (e::es) g rs g')(hp:v9 rs g'=!ds)(hc:CallD X z (.type T) ds r)(hg:Gl X x)(hm:X.mg x=none)(hv:bootBuiltins x=!(.type T))(hn:x≠ "__name__")(jR:(x==(~~~3))=false)
  (he:starEach (e::es) X.env=(false,eval e X.env)::starEach es X.env) (lP:(backTo pos (starEach es X.env)).any (·.1)=false):aD X z (.Call (.Name x p) (e::es) [] pos) g r g':=by
 let(t,q,k):=h;let(rr,c,kc):=hc;show#[_,Dj c hg hm hv q hn jR he lP,λσ As M H Q s kk=>k σ As M H _ s λvs H' aE M' s' st R=>kc g' σ aE M' H' vs Q s' (s'.v9 R hp) λv H2 bD M2 s2 aM R2=>kk v H2 bD M2 s2 (st.trans aM) R2]
end
mutual
abbrev cH:D->D->Bool
 |.non,.non=>true
 |.bl a,.bl b=>a==b
 |.bl a,.int j=>(if a then 1 else 0)==j
 |.int i,.bl b=>i==(if b then 1 else 0)
 |.int i,.int j=>i==j
 |.str x,.str y=>x==y
 |.tup l,.tup m=>dD l m
 |.lst l,.lst m=>dD l m
 |.lst l,.fix m=>dD l m
 |.fix l,.lst m=>dD l m
 |.fix l,.fix m=>dD l m
 |_,_=>false
abbrev dD:List D->List D->Bool
 | [],[]=>true
 |a::l,b::m=>cH a b&&dD l m
 |_,_=>false
end
mutual
abbrev dep:D->Nat
 |.tup l=>deps l+1
 |.lst l=>deps l+1
 |.fix l=>deps l+1
 |_=>0
abbrev deps:List D->Nat
 | []=>0
 |d::l=>max (dep d) (deps l)
end
mutual
abbrev jD:D->Bool
 |.tup l=>ig l
 |.lst l=>ig l
 |.fix l=>ig l
 |.emp=>false
 |.nq _=>false
 |.Dr ..=>false
 |_=>true
abbrev ig:List D->Bool
 | []=>true
 |d::l=>jD d&&ig l
end
mutual
inductive Dv(h:Heap):D->Value->Prop
 |non:Dv h .non .none
 |bl (b:Bool):Dv h (.bl b) (.bool b)
 |int (i:Int) (t:Tok):Dv h (.int i) (.int i t)
 |str (x:Str) (t:Tok):Dv h (.str x) (.str x t)
 |tup {l:List D}{a:Addr}{us:List Value}:IsTup h a us.toArray->nD h l us->Dv h (.tup l) (.ref a)
 |lst {l:List D}{a:Addr}{us:List Value}:h.IsList a us.toArray->nD h l us->Dv h (.lst l) (.ref a)
 |fix {l:List D}{a:Addr}{us:List Value}:h.IsList a us.toArray->nD h l us->Dv h (.fix l) (.ref a)
inductive nD(h:Heap):List D->List Value->Prop
 |nil:nD h [] []
 |cons {d:D}{ds:List D}{u:Value}{us:List Value}:Dv h d u->nD h ds us->nD h (d::ds) (u::us)
end
section
def Rep.dv2(I: ~~~7)(q:Rep X.K M H d v):∀u,RelV v u->jD d=true->Dv s.heap d u:=by
 apply Rep.rec (motive_2:=λds vs _=>∀us,Vals vs us->ig ds=true->nD s.heap ds us) ?_ ?_ ?_ ?_ ?_ ?_ ?_ ?_ ?_ ?_ ?_ ?_ q
 . intro u r _;cases r;show .non
 . intro b u r _;cases r;show .bl b
 . intro i u r _;let(t,rfl):=r;show .int i t
 . intro x u r _;let(t,rfl):=r;show .str x t
 . intro l a xs h _ ih u r p;cases r;let(aA,rv,ht,hz):=I.tuple h.sq;show .tup ht (ih _ rv p)
 . intro l a xs h _ ih u r p;cases r;let(aA,rv,ht,hz):=I.list (cg.of h.2);show .lst ht.isList (ih _ rv p)
 . intro l a xs h _ ih u r p;cases r;let(aA,rv,ht,hz):=I.list h.sq;show .fix ht.isList (ih _ rv p)
 . intro a _ _ u _ p;show Bool.noConfusion (show false=true from p)
 . intro C a _ _ _ u _ p;show Bool.noConfusion (show false=true from p)
 . intro ks ds a vs _ _ _ _ _ u _ p;show Bool.noConfusion (show false=true from p)
 . intro us r _;cases r;show .nil
 .
  intro d ds x xs _ _ i1 i2 us r p;cases r with
  |cons r1 r2=>have p:(jD d&&ig ds)=true:=p;rw[eQ]at p;show .cons (i1 _ r1 p.1) (i2 _ r2 p.2)
def Rep.dv(I: ~~~7)(q:Rep X.K M H d v)(r:RelV v u)(p:jD d=true):Dv s.heap d u:=q.dv2 I u r p
def aJ.dv(I: ~~~7)(q:aJ X.K M H ds vs)(r:Vals vs us)(p:ig ds=true):nD s.heap ds us:=by
 induction ds generalizing vs us with
 |nil=>cases q;cases r;show .nil
 |cons d ds ih=>cases q with |cons q1 q2=>cases r with |cons r1 r2=>have p:(jD d&&ig ds)=true:=p;rw[eQ]at p;show .cons (q1.dv I r1 p.1) (ih q2 r2 p.2)
def Pk.dv(I: ~~~7)(h:Pk X.K M H d v)(r:RelV v u)(p:jD d=true):Dv s.heap d u:=by
 cases h with
 |of q=>show q.dv I r p
 |lst h q=>cases r;let(aA,rv,ht,hz):=I.list (cg.of h);show .lst ht.isList (aJ.dv I q rv (by simpa [jD]using p))
end
def nD.length(q:nD h l us):l.length=us.length:=by
 induction l generalizing us with
 |nil=>cases q;rfl
 |cons d l ih=>cases q with |cons a b=>show congrArg (· + 1) (ih b)
def sA{h:Heap}{a:Addr}{us ws:List Value}(x:IsTup h a us.toArray)(y:IsTup h a ws.toArray):us=ws:=by let(o,e,_,n,d):=x;let(o',e',_,n',d'):=y;rw[e]at e';cases e';rw[d]at d';injection d' with d1 _;simpa using congrArg Array.toList d1
def cE{h:Heap}{a:Addr}{us ws:List Value}(x:h.IsList a us.toArray)(y:h.IsList a ws.toArray):us=ws:=by let(o,e,_,n,d):=x;let(o',e',_,n',d'):=y;rw[e]at e';cases e';rw[d]at d';injection d' with d1 _;simpa using congrArg Array.toList d1
def ez(x:IsTup h a us)(y:h.IsList a ws):False:=by let(o,e,c,_):=x;let(o',e',c',_):=y;rw[e]at e';cases e';rw[c]at c';show absurd c' ⋯
def Hx{h:Heap}{d1:D}{u:Value}(q:Dv h d1 u):∀d2,Dv h d2 u->cH d1 d2=true:=by
 apply Dv.rec (motive_2:=λl us _=>∀m,nD h m us->dD l m=true) ?_ ?_ ?_ ?_ ?_ ?_ ?_ ?_ ?_ q
 . intro d2 q;cases q;rfl
 . intro b d2 q;cases q;show beq_self_eq_true b
 . intro i t d2 q;cases q;show beq_self_eq_true i
 . intro x t d2 q;cases q;show beq_self_eq_true x
 .
  intro l a us x _ ih d2 q;cases q with
  |tup y q'=>cases sA x y;show ih _ q'
  |lst y _=>show (ez x y).elim
  |fix y _=>show (ez x y).elim
 .
  intro l a us x _ ih d2 q;cases q with
  |tup y _=>show (ez y x).elim
  |lst y q'=>cases cE x y;show ih _ q'
  |fix y q'=>cases cE x y;show ih _ q'
 .
  intro l a us x _ ih d2 q;cases q with
  |tup y _=>show (ez y x).elim
  |lst y q'=>cases cE x y;show ih _ q'
  |fix y q'=>cases cE x y;show ih _ q'
 . intro m q;cases q;rfl
 .
  intro d ds u us _ _ i1 i2 m q;cases q with
  |@cons d' m _ _ b q'=>exact (cH d d'&&dD ds m)=true;rw[i1 _ b,i2 _ q'];rfl
def Nj(q:Dv h d1 u)(q':Dv h d2 u):cH d1 d2=true:=Hx q d2 q'
abbrev Rh(l m:List D)(j:Nat):Bool:=match l[j]?,m[j]? with |!a,!b=>cH a b |_,_=>false
def pQ(l m:List D)(h:l.length=m.length):(List.range l.length).all (Rh l m)=dD l m:=by
 induction l generalizing m with
 |nil=>cases m with
  |nil=>rfl
  |cons _ _=>symm
 |cons a l ih=>cases m with
  |nil=>symm
  |cons b m=>rw[kA,List.range_succ_eq_map,List.all_cons,List.all_map];have e:(Rh (a::l) (b::m) ∘ Nat.succ)=Rh l m:=rfl;rw[e,ih m (BI h)];rfl
def pR(l m:List D)(h:l.length≠m.length):dD l m=false:=by
 induction l generalizing m with
 |nil=>cases m with
  |nil=>show absurd rfl h
  |cons _ _=>rfl
 |cons a l ih=>cases m with
  |nil=>rfl
  |cons b m=>exact (cH a b&&dD l m)=false;rw[ih m (λe=>h (congrArg (· + 1) e)),Bool.and_false]
def wg(l m:List D):((List.range (min l.length m.length)).all (Rh l m)&&l.length==m.length)=dD l m:=by
 by_cases h:l.length=m.length
 . rw[h,Nat.min_self,<- h,pQ l m h];simp
 .
  rw[pR l m h];have:(l.length==m.length)=false:=by simpa using h
  rw[this,Bool.and_false]
def pS{l:List D}{j:Nat}{d:D}(e:l[j]?=!d):dep d<=deps l:=by
 induction l generalizing j with
 |nil=>show nomatch (show none=!d from e)
 |cons d' l ih=>cases j with
  |zero=>cases (show some d'=!d from e);show Nat.le_max_left _ _
  |succ j=>show i9 (ih (show l[j]?=!d from e)) (Nat.le_max_right _ _)
def nD.get{h:Heap}{l:List D}{us:List Value}{j:Nat}{u:Value}(q:nD h l us)(e:us[j]?=!u):∃d,l[j]?=!d/\Dv h d u:=by
 induction l generalizing us j with
 |nil=>cases q;show nomatch (show none=!u from e)
 |cons d' l ih=>cases q with |@cons _ _ u' us a b=>cases j with
  |zero=>cases (show some u'=!u from e);show#[_,rfl,a]
  |succ j=>let(d,h):=ih b e;show#[d,h]
def in1_units(A:Around):A.in1.units=A.units+1:=rfl
section
def kU(hl:s.heap.IsList l us.toArray)(hb:s.heap.IsList b ws.toArray)(q:nD s.heap ls us)(q':nD s.heap ms ws)(hu:A.units<cLine)
  (he:∀(j:Nat) d1 d2 u1 u2,ls[j]?=!d1->Dv s.heap d1 u1->Dv s.heap d2 u2->SeqAt.EqAt A.in1 s u1 u2 (cH d1 d2)):SeqAt.RcAt A s (.ref l) (.ref b) (dD ls ms):=by
 have h1:=q.length;have h2:=q'.length;by_cases h:ls.length=ms.length
 .
  rw[<- pQ ls ms h];have e:us.toArray.size=ls.length:=by rw[dL,h1]
  rw[<- e];apply SeqAt.RcAt.lists hl hb (by rw[dL,dL];lia) hu λj g1 g2=>?_
  let(d1,e1,v1):=q.get (j:=j) (u:=us[j]) (by simp[g1])
  let(d2,e2,v2):=q'.get (j:=j) (u:=ws[j]) (by simp[g2])
  have:=he j d1 d2 us[j] ws[j] e1 v1 v2;simpa [Rh,e1,e2]using this
 . rw[pR ls ms h];apply SeqAt.RcAt.lists_lengths hl hb ?_ hu;rw[dL,dL];lia
def Dw(hl:IsTup s.heap l us.toArray)(hb:IsTup s.heap b ws.toArray)(q:nD s.heap ls us)(q':nD s.heap ms ws)(hu:A.units<cLine)
  (he:∀(j:Nat) d1 d2 u1 u2,ls[j]?=!d1->Dv s.heap d1 u1->Dv s.heap d2 u2->SeqAt.EqAt A.in1 s u1 u2 (cH d1 d2)):SeqAt.RcAt A s (.ref l) (.ref b) (dD ls ms):=by
 have h1:=q.length;have h2:=q'.length;have e:us.toArray.size=ls.length:=by rw[dL,h1]
 have e':ws.toArray.size=ms.length:=by rw[dL,h2]
 rw[<- wg,<- e,<- e'];apply SeqAt.RcAt.tuples hl hb hu λj g1 g2=>?_
 let(d1,e1,v1):=q.get (j:=j) (u:=us[j]) (by simp[g1])
 let(d2,e2,v2):=q'.get (j:=j) (u:=ws[j]) (by simp[g2])
 have:=he j d1 d2 us[j] ws[j] e1 v1 v2;simpa [Rh,e1,e2]using this
def iV(x:Dv s.heap d1 (.ref l))(y:Dv s.heap d2 (.ref b))(h:SeqAt.RcAt A s (.ref l) (.ref b) (cH d1 d2)):SeqAt.EqAt A s (.ref l) (.ref b) (cH d1 d2):=by
 by_cases e:l=b
 . subst e;rw[Nj x y];show .same _
 . show .of_refs e h
end
def Hy{s:Shared}:∀(n:Nat) {d1 d2:D}{u1 u2:Value}{A:Around},dep d1<=n->Dv s.heap d1 u1->Dv s.heap d2 u2->A.units+n<cLine->SeqAt.EqAt A s u1 u2 (cH d1 d2)/\SeqAt.RcAt A s u1 u2 (cH d1 d2):=by
 intro n
 induction n with
 |zero=>
  intro d1 d2 u1 u2 A hn x y hu;have aW:A.units<cLine:=by lia
  cases x with
  |tup h q=>show absurd hn (A9 _)
  |lst h q=>show absurd hn (A9 _)
  |fix h q=>show absurd hn (A9 _)
  |non=>
   cases y with
   |non=>show#[.same _,.none_none]
   |bl c'=>show#[.none_bool c',.none_bool c']
   |int c' t'=>show#[.none_int c' t',.none_int c' t']
   |str c' t'=>show#[.none_str c' t',.none_str c' t']
   |tup h' q'=>show#[.none_tuple h' aW,.none_tuple h' aW]
   |lst h' q'=>show#[.none_list h' aW,.none_list h' aW]
   |fix h' q'=>show#[.none_list h' aW,.none_list h' aW]
  |bl c=>
   cases y with
   |non=>show#[.bool_none c,.bool_none c]
   |bl c'=>show#[.bool_bool c c',.bool_bool c c']
   |int c' t'=>show#[.bool_int c c' t',.bool_int c c' t']
   |str c' t'=>show#[.bool_str c c' t',.bool_str c c' t']
   |tup h' q'=>show#[.bool_tuple c h' aW,.bool_tuple c h' aW]
   |lst h' q'=>show#[.bool_list c h' aW,.bool_list c h' aW]
   |fix h' q'=>show#[.bool_list c h' aW,.bool_list c h' aW]
  |int c t=>
   cases y with
   |non=>show#[.int_none c t,.int_none c t]
   |bl c'=>show#[.int_bool c t c',.int_bool c t c']
   |int c' t'=>show#[.int_int c t c' t',.int_int c t c' t']
   |str c' t'=>show#[.int_str c t c' t',.int_str c t c' t']
   |tup h' q'=>show#[.int_tuple c t h' aW,.int_tuple c t h' aW]
   |lst h' q'=>show#[.int_list c t h' aW,.int_list c t h' aW]
   |fix h' q'=>show#[.int_list c t h' aW,.int_list c t h' aW]
  |str c t=>
   cases y with
   |non=>show#[.str_none c t,.str_none c t]
   |bl c'=>show#[.str_bool c t c',.str_bool c t c']
   |int c' t'=>show#[.str_int c t c' t',.str_int c t c' t']
   |str c' t'=>show#[.str_str c t c' t',.str_str c t c' t']
   |tup h' q'=>show#[.str_tuple c t h' aW,.str_tuple c t h' aW]
   |lst h' q'=>show#[.str_list c t h' aW,.str_list c t h' aW]
   |fix h' q'=>show#[.str_list c t h' aW,.str_list c t h' aW]
 |succ n ih=>
  intro d1 d2 u1 u2 A hn x y hu;have aW:A.units<cLine:=by lia
  have el:∀{l:List D},deps l<=n->∀(j:Nat) d1 d2 u1 u2,l[j]?=!d1->Dv s.heap d1 u1->Dv s.heap d2 u2->SeqAt.EqAt A.in1 s u1 u2 (cH d1 d2):=λhl j d1 d2 u1 u2 e v1 v2=>
   (ih (i9 (pS e) hl) v1 v2 (by rw[in1_units];lia)).1
  cases x with
  |@tup l0 a0 us0 h q=>
   have hn':deps l0<=n:=CA hn;have x:=Dv.tup h q;cases y with
   |tup h' q'=>have r:=Dw h h' q q' aW (el hn');show#[iV x (.tup h' q') r,r]
   |lst h' q'=>show#[.tuple_list h h' aW,.tuple_list h h' aW]
   |fix h' q'=>show#[.tuple_list h h' aW,.tuple_list h h' aW]
   |non=>show#[.tuple_none h aW,.tuple_none h aW]
   |bl b=>show#[.tuple_bool b h aW,.tuple_bool b h aW]
   |int b t=>show#[.tuple_int b t h aW,.tuple_int b t h aW]
   |str b t=>show#[.tuple_str b t h aW,.tuple_str b t h aW]
  |@lst l0 a0 us0 h q=>
   have hn':deps l0<=n:=CA hn;have x:=Dv.lst h q;cases y with
   |tup h' q'=>show#[.list_tuple h h' aW,.list_tuple h h' aW]
   |lst h' q'=>have r:=kU h h' q q' aW (el hn');show#[iV x (.lst h' q') r,r]
   |fix h' q'=>have r:=kU h h' q q' aW (el hn');show#[iV x (.fix h' q') r,r]
   |non=>show#[.list_none h aW,.list_none h aW]
   |bl b=>show#[.list_bool b h aW,.list_bool b h aW]
   |int b t=>show#[.list_int b t h aW,.list_int b t h aW]
   |str b t=>show#[.list_str b t h aW,.list_str b t h aW]
  |@fix l0 a0 us0 h q=>
   have hn':deps l0<=n:=CA hn;have x:=Dv.fix h q;cases y with
   |tup h' q'=>show#[.list_tuple h h' aW,.list_tuple h h' aW]
   |lst h' q'=>have r:=kU h h' q q' aW (el hn');show#[iV x (.lst h' q') r,r]
   |fix h' q'=>have r:=kU h h' q q' aW (el hn');show#[iV x (.fix h' q') r,r]
   |non=>show#[.list_none h aW,.list_none h aW]
   |bl b=>show#[.list_bool b h aW,.list_bool b h aW]
   |int b t=>show#[.list_int b t h aW,.list_int b t h aW]
   |str b t=>show#[.list_str b t h aW,.list_str b t h aW]
  |non=>
   cases y with
   |non=>show#[.same _,.none_none]
   |bl c'=>show#[.none_bool c',.none_bool c']
   |int c' t'=>show#[.none_int c' t',.none_int c' t']
   |str c' t'=>show#[.none_str c' t',.none_str c' t']
   |tup h' q'=>show#[.none_tuple h' aW,.none_tuple h' aW]
   |lst h' q'=>show#[.none_list h' aW,.none_list h' aW]
   |fix h' q'=>show#[.none_list h' aW,.none_list h' aW]
  |bl c=>
   cases y with
   |non=>show#[.bool_none c,.bool_none c]
   |bl c'=>show#[.bool_bool c c',.bool_bool c c']
   |int c' t'=>show#[.bool_int c c' t',.bool_int c c' t']
   |str c' t'=>show#[.bool_str c c' t',.bool_str c c' t']
   |tup h' q'=>show#[.bool_tuple c h' aW,.bool_tuple c h' aW]
   |lst h' q'=>show#[.bool_list c h' aW,.bool_list c h' aW]
   |fix h' q'=>show#[.bool_list c h' aW,.bool_list c h' aW]
  |int c t=>
   cases y with
   |non=>show#[.int_none c t,.int_none c t]
   |bl c'=>show#[.int_bool c t c',.int_bool c t c']
   |int c' t'=>show#[.int_int c t c' t',.int_int c t c' t']
   |str c' t'=>show#[.int_str c t c' t',.int_str c t c' t']
   |tup h' q'=>show#[.int_tuple c t h' aW,.int_tuple c t h' aW]
   |lst h' q'=>show#[.int_list c t h' aW,.int_list c t h' aW]
   |fix h' q'=>show#[.int_list c t h' aW,.int_list c t h' aW]
  |str c t=>
   cases y with
   |non=>show#[.str_none c t,.str_none c t]
   |bl c'=>show#[.str_bool c t c',.str_bool c t c']
   |int c' t'=>show#[.str_int c t c' t',.str_int c t c' t']
   |str c' t'=>show#[.str_str c t c' t',.str_str c t c' t']
   |tup h' q'=>show#[.str_tuple c t h' aW,.str_tuple c t h' aW]
   |lst h' q'=>show#[.str_list c t h' aW,.str_list c t h' aW]
   |fix h' q'=>show#[.str_list c t h' aW,.str_list c t h' aW]
section
variable{K:Frag}
def Pk.int{i:Int}(h:Pk K M H (.int i) v):v=.int i:=by cases h with |of r=>cases r;rfl
def Pk.bl(h:Pk K M H (.bl i) v):v=.bl i:=by cases h with |of r=>cases r;rfl
def Pk.str(h:Pk K M H (.str i) v):v=.str i:=by cases h with |of r=>cases r;rfl
def Pk.non(h:Pk K M H .non v):v=.non:=by cases h with |of r=>cases r;rfl
def Pk.tup{l:List D}(h:Pk K M H (.tup l) v):∃a xs,v=.ref a/\TupAt K M H a xs/\aJ K M H l xs:=by cases h with |of r=>cases r with |tup h1 h2=>show⟨_,_,rfl,h1,h2⟩
def Pk.fix{l:List D}(h:Pk K M H (.fix l) v):∃a xs,v=.ref a/\nu K M H a xs/\aJ K M H l xs:=by cases h with |of r=>cases r with |fix h1 h2=>show⟨_,_,rfl,h1,h2⟩
end
section
def Bm{f:Value->Value->Sem Value}{k:Int->Int->Int}{i j:Int}(h:n6 X f (LK λi j=>.int (k i j))):nB X z f (.int i) (.int j) (.dat (.int (k i j))):=
 #[_,h,λg σ As M H v1 v2 Q s p1 p2 kk=>#[i,j,p1.int,p2.int,kk _ H As M s (au.refl _ _) (.int _)]]
def ux{f:Value->Value->Sem Value}{C:Int->Int->Prop}{k:Int->Int->Int}{i j:Int}(h:n6 X f (rI C λi j=>.int (k i j)))(hc:C i j):nB X z f (.int i) (.int j) (.dat (.int (k i j))):=
 #[_,h,λg σ As M H v1 v2 Q s p1 p2 kk=>#[i,j,p1.int,p2.int,hc,kk _ H As M s (au.refl _ _) (.int _)]]
def uy{f:Value->Value->Sem Value}{k:Int->Int->Bool}{i j:Int}(h:n6 X f (LK λi j=>.bl (k i j))):nB X z f (.int i) (.int j) (.dat (.bl (k i j))):=
 #[_,h,λg σ As M H v1 v2 Q s p1 p2 kk=>#[i,j,p1.int,p2.int,kk _ H As M s (au.refl _ _) (.bl _)]]
abbrev Uc(z:Z)(d1 d2:D)(b:Bool):R2:=λx y H Q=>(∃M,Pk z.K M H d1 x/\Pk z.K M H d2 y)/\Q (.bl b) H
def ZC(hK:z.K=X.K)(p1:jD d1=true)(p2:jD d2=true)(hd:X.A.units+dep d1<cLine):nB X z (compareOp .Eq) d1 d2 (.dat (.bl (cH d1 d2))):=by
 apply#[Uc z d1 d2 (cH d1 d2),?_,λg σ As M H v1 v2 Q s q1 q2 kk=>#[#[M,q1,q2],kk _ H As M s (au.refl _ _) (.bl _)]]
 intro aj s σ H x y v u Q I rx ry h;let((M,q1,q2),q):=h;rw[hK]at q1 q2;show (Hy (dep d1) (eA _) (q1.dv I rx p1) (q2.dv I ry p2) hd).2 X.prog X.w X.xe _ #[.bl _,H,I,rfl,q]
section
def kW(hl:s.heap.IsList l us.toArray)(hb:s.heap.IsList b ws.toArray)(q:nD s.heap ls us)(q':nD s.heap ms ws)(hu:A.units<cLine)
  (he:∀(j:Nat) d1 d2 u1 u2,ls[j]?=!d1->Dv s.heap d1 u1->Dv s.heap d2 u2->SeqAt.EqAt A.in1 s u1 u2 (cH d1 d2)):SeqAt.RcNeAt A s (.ref l) (.ref b) ((not (dD ls ms))):=by
 have h1:=q.length;have h2:=q'.length;by_cases h:ls.length=ms.length
 .
  rw[<- pQ ls ms h];have e:us.toArray.size=ls.length:=by rw[dL,h1]
  rw[<- e];apply SeqAt.RcNeAt.lists hl hb (by rw[dL,dL];lia) hu λj g1 g2=>?_
  let(d1,e1,v1):=q.get (j:=j) (u:=us[j]) (by simp[g1])
  let(d2,e2,v2):=q'.get (j:=j) (u:=ws[j]) (by simp[g2])
  have:=he j d1 d2 us[j] ws[j] e1 v1 v2;simpa [Rh,e1,e2]using this
 . rw[pR ls ms h];apply SeqAt.RcNeAt.lists_lengths hl hb ?_ hu;rw[dL,dL];lia
def Dy(hl:IsTup s.heap l us.toArray)(hb:IsTup s.heap b ws.toArray)(q:nD s.heap ls us)(q':nD s.heap ms ws)(hu:A.units<cLine)
  (he:∀(j:Nat) d1 d2 u1 u2,ls[j]?=!d1->Dv s.heap d1 u1->Dv s.heap d2 u2->SeqAt.EqAt A.in1 s u1 u2 (cH d1 d2)):SeqAt.RcNeAt A s (.ref l) (.ref b) ((not (dD ls ms))):=by
 have h1:=q.length;have h2:=q'.length;have e:us.toArray.size=ls.length:=by rw[dL,h1]
 have e':ws.toArray.size=ms.length:=by rw[dL,h2]
 rw[<- wg,<- e,<- e'];apply SeqAt.RcNeAt.tuples hl hb hu λj g1 g2=>?_
 let(d1,e1,v1):=q.get (j:=j) (u:=us[j]) (by simp[g1])
 let(d2,e2,v2):=q'.get (j:=j) (u:=ws[j]) (by simp[g2])
 have:=he j d1 d2 us[j] ws[j] e1 v1 v2;simpa [Rh,e1,e2]using this
end
def ZD(x:Dv s.heap d1 u1)(y:Dv s.heap d2 u2)(hu:A.units+dep d1<cLine):SeqAt.RcNeAt A s u1 u2 ((not (cH d1 d2))):=by
 have aW:A.units<cLine:=by lia
 have el:∀{l:List D},deps l+1<=dep d1->∀(j:Nat) d1 d2 u1 u2,l[j]?=!d1->Dv s.heap d1 u1->Dv s.heap d2 u2->SeqAt.EqAt A.in1 s u1 u2 (cH d1 d2):=λhl j e1 e2 u1 u2 e v1 v2=>
  (Hy (dep e1) (eA _) v1 v2 (by rw[in1_units];have:=pS e;lia)).1
 cases x with
 |tup h q=>
  cases y with
  |tup h' q'=>show Dy h h' q q' aW (el (by simp[dep]))
  |lst h' q'=>show .tuple_list h h' aW
  |fix h' q'=>show .tuple_list h h' aW
  |non=>show .tuple_none h aW
  |bl b=>show .tuple_bool b h aW
  |int b t=>show .tuple_int b t h aW
  |str b t=>show .tuple_str b t h aW
 |lst h q=>
  cases y with
  |tup h' q'=>show .list_tuple h h' aW
  |lst h' q'=>show kW h h' q q' aW (el (by simp[dep]))
  |fix h' q'=>show kW h h' q q' aW (el (by simp[dep]))
  |non=>show .list_none h aW
  |bl b=>show .list_bool b h aW
  |int b t=>show .list_int b t h aW
  |str b t=>show .list_str b t h aW
 |fix h q=>
  cases y with
  |tup h' q'=>show .list_tuple h h' aW
  |lst h' q'=>show kW h h' q q' aW (el (by simp[dep]))
  |fix h' q'=>show kW h h' q q' aW (el (by simp[dep]))
  |non=>show .list_none h aW
  |bl b=>show .list_bool b h aW
  |int b t=>show .list_int b t h aW
  |str b t=>show .list_str b t h aW
 |non=>
  cases y with
  |non=>show .none_none
  |bl c'=>show .none_bool c'
  |int c' t'=>show .none_int c' t'
  |str c' t'=>show .none_str c' t'
  |tup h' q'=>show .none_tuple h' aW
  |lst h' q'=>show .none_list h' aW
  |fix h' q'=>show .none_list h' aW
 |bl c=>
  cases y with
  |non=>show .bool_none c
  |bl c'=>show .bool_bool c c'
  |int c' t'=>show .bool_int c c' t'
  |str c' t'=>show .bool_str c c' t'
  |tup h' q'=>show .bool_tuple c h' aW
  |lst h' q'=>show .bool_list c h' aW
  |fix h' q'=>show .bool_list c h' aW
 |int c t=>
  cases y with
  |non=>show .int_none c t
  |bl c'=>show .int_bool c t c'
  |int c' t'=>show .int_int c t c' t'
  |str c' t'=>show .int_str c t c' t'
  |tup h' q'=>show .int_tuple c t h' aW
  |lst h' q'=>show .int_list c t h' aW
  |fix h' q'=>show .int_list c t h' aW
 |str c t=>
  cases y with
  |non=>show .str_none c t
  |bl c'=>show .str_bool c t c'
  |int c' t'=>show .str_int c t c' t'
  |str c' t'=>show .str_str c t c' t'
  |tup h' q'=>show .str_tuple c t h' aW
  |lst h' q'=>show .str_list c t h' aW
  |fix h' q'=>show .str_list c t h' aW
def ZF(hK:z.K=X.K)(p1:jD d1=true)(p2:jD d2=true)(hd:X.A.units+dep d1<cLine):nB X z (compareOp .NotEq) d1 d2 (.dat (.bl ((not (cH d1 d2))))):=by
 apply#[Uc z d1 d2 ((not (cH d1 d2))),?_,λg σ As M H v1 v2 Q s q1 q2 kk=>#[#[M,q1,q2],kk _ H As M s (au.refl _ _) (.bl _)]]
 intro aj s σ H x y v u Q I rx ry h;let((M,q1,q2),q):=h;rw[hK]at q1 q2;show ZD (q1.dv I rx p1) (q2.dv I ry p2) hd X.prog X.w X.xe _ #[.bl _,H,I,rfl,q]
def Hz(q:Dv h d u):∀d' x,Dv h d' u->cH d x=cH d' x:=by
 have two:∀{l l':List D} (x:D),(∀m,dD l m=dD l' m)->cH (.lst l) x=cH (.lst l') x/\cH (.fix l) x=cH (.lst l') x/\cH (.lst l) x=cH (.fix l') x/\cH (.fix l) x=cH (.fix l') x:=λx k=>by
  cases x with
  |lst m=>show#[k m,k m,k m,k m]
  |fix m=>show#[k m,k m,k m,k m]
  |_=>show#[rfl,rfl,rfl,rfl]
 apply Dv.rec (motive_2:=λl us _=>∀l' m,nD h l' us->dD l m=dD l' m) ?_ ?_ ?_ ?_ ?_ ?_ ?_ ?_ ?_ q
 . intro d' x q;cases q;rfl
 . intro b d' x q;cases q;rfl
 . intro i t d' x q;cases q;rfl
 . intro y t d' x q;cases q;rfl
 .
  intro l a us k _ ih d' x q;cases q with
  |tup y q'=>
   cases sA k y;cases x with
   |tup m=>show ih _ m q'
   |_=>rfl
  |lst y _=>show (ez k y).elim
  |fix y _=>show (ez k y).elim
 .
  intro l a us k _ ih d' x q;cases q with
  |tup y _=>show (ez y k).elim
  |lst y q'=>cases cE k y;show (two x λm=>ih _ m q').1
  |fix y q'=>cases cE k y;show (two x λm=>ih _ m q').2.2.1
 .
  intro l a us k _ ih d' x q;cases q with
  |tup y _=>show (ez y k).elim
  |lst y q'=>cases cE k y;show (two x λm=>ih _ m q').2.1
  |fix y q'=>cases cE k y;show (two x λm=>ih _ m q').2.2.2
 . intro l' m q;cases q;rfl
 .
  intro d ds u us _ _ i1 i2 l' m q;cases q with
  |@cons d' l' _ _ b q'=>cases m with
   |nil=>rfl
   |cons y m=>exact (cH d y&&dD ds m)=(cH d' y&&dD l' m);rw[i1 _ y b,i2 _ m q']
def Nk(x:D)(q:Dv h d u)(q':Dv h d' u):cH d x=cH d' x:=Hz q d' x q'
open Classical in
abbrev lQ(h:Heap)(x:D)(u:Value):Bool:=decide (∃d,Dv h d u/\cH d x=true)
open Classical in
def zb(q:Dv h d u):lQ h x u=cH d x:=by
 delta lQ;cases e:cH d x with
 |true=>show oC #[d,q,e]
 |false=>apply oD ?_;rintro⟨d',q',e'⟩;rw[Nk x q' q,e]at e';cases e'
def jA(q:nD h l us):us.any (lQ h x)=l.any λd=>cH d x:=by
 induction l generalizing us with
 |nil=>cases q;rfl
 |cons d l ih=>cases q with |cons a b=>rw[List.any_cons,List.any_cons,zb a,ih b]
abbrev ZG(z:Z)(d1 d2:D)(b:Bool):R2:=Uc z d1 d2 b
def iu{A:Around}{s:Shared}{x:D}{u:Value}{l:List D}{us:List Value}(q:nD s.heap l us)(hx:Dv s.heap x u)(hu:A.units+deps l+1<cLine):∀y,y∈us.toArray->SeqAt.EqAt A.in1 s y u (lQ s.heap x y):=by
 intro y hy;have hy':y∈us:=by simpa using hy
 let(j,hj):=List.getElem?_of_mem hy';let(d,e,qd):=q.get hj;rw[zb qd];have:=pS e;show (Hy (dep d) (eA _) qd hx (by rw[in1_units];lia)).1
abbrev bV:D->Option (List D)
 |.lst l=>!l
 |.tup l=>!l
 |.fix l=>!l
 |_=>none
def ZJ(hK:z.K=X.K)(hs:bV d2=!l)(p1:jD d1=true)(p2:ig l=true)(hd:X.A.units+deps l+1<cLine):nB X z (compareOp .In) d1 d2 (.dat (.bl (l.any λd=>cH d d1))):=by
 apply#[ZG z d1 d2 (l.any λd=>cH d d1),?_,λg σ As M H v1 v2 Q s q1 q2 kk=>#[#[M,q1,q2],kk _ H As M s (au.refl _ _) (.bl _)]]
 intro aj s σ H x y v u Q I rx ry h;let((M,q1,q2),q):=h;rw[hK]at q1 q2;have hx:=q1.dv I rx p1;cases d2 with
 |lst m=>
  cases hs;let(a,xs,rfl,ha,rr):=q2.list;cases ry;let(aA,rv,pl,hz):=I.list (cg.of ha);have jw:=rr.dv I rv p2;apply SeqAt.in_listAt (lQ s.heap d1) pl.isList (iu jw hx hd) #[.bl _,H,I,rfl,?_];rw[show aA.toArray.any (lQ s.heap d1)=aA.any (lQ s.heap d1)by simp,jA jw]
  show q
 |fix m=>
  cases hs;let(a,xs,rfl,ha,rr):=q2.fix;cases ry;let(aA,rv,pl,hz):=I.list ha.sq;have jw:=rr.dv I rv p2;apply SeqAt.in_listAt (lQ s.heap d1) pl.isList (iu jw hx hd) #[.bl _,H,I,rfl,?_];rw[show aA.toArray.any (lQ s.heap d1)=aA.any (lQ s.heap d1)by simp,jA jw]
  show q
 |tup m=>
  cases hs;let(a,xs,rfl,ha,rr):=q2.tup;cases ry;let(aA,rv,pl,hz):=I.tuple ha.sq;have jw:=rr.dv I rv p2;apply SeqAt.in_tupleAt (lQ s.heap d1) pl (iu jw hx hd) #[.bl _,H,I,rfl,?_];rw[show aA.toArray.any (lQ s.heap d1)=aA.any (lQ s.heap d1)by simp,jA jw]
  show q
 |_=>cases hs
def HB(hK:z.K=X.K)(hs:bV d2=!l)(p1:jD d1=true)(p2:ig l=true)(hd:X.A.units+deps l+1<cLine):nB X z (compareOp .NotIn) d1 d2 (.dat (.bl ((not (l.any λd=>cH d d1))))):=by
 apply#[ZG z d1 d2 ((not (l.any λd=>cH d d1))),?_,λg σ As M H v1 v2 Q s q1 q2 kk=>#[#[M,q1,q2],kk _ H As M s (au.refl _ _) (.bl _)]]
 intro aj s σ H x y v u Q I rx ry h;let((M,q1,q2),q):=h;rw[hK]at q1 q2;have hx:=q1.dv I rx p1;cases d2 with
 |lst m=>
  cases hs;let(a,xs,rfl,ha,rr):=q2.list;cases ry;let(aA,rv,pl,hz):=I.list (cg.of ha);have jw:=rr.dv I rv p2;apply SeqAt.notIn_listAt (lQ s.heap d1) pl.isList (iu jw hx hd) #[.bl _,H,I,rfl,?_];rw[show aA.toArray.any (lQ s.heap d1)=aA.any (lQ s.heap d1)by simp,jA jw]
  show q
 |fix m=>
  cases hs;let(a,xs,rfl,ha,rr):=q2.fix;cases ry;let(aA,rv,pl,hz):=I.list ha.sq;have jw:=rr.dv I rv p2;apply SeqAt.notIn_listAt (lQ s.heap d1) pl.isList (iu jw hx hd) #[.bl _,H,I,rfl,?_];rw[show aA.toArray.any (lQ s.heap d1)=aA.any (lQ s.heap d1)by simp,jA jw]
  show q
 |tup m=>
  cases hs;let(a,xs,rfl,ha,rr):=q2.tup;cases ry;let(aA,rv,pl,hz):=I.tuple ha.sq;have jw:=rr.dv I rv p2;apply SeqAt.notIn_tupleAt (lQ s.heap d1) pl (iu jw hx hd) #[.bl _,H,I,rfl,?_];rw[show aA.toArray.any (lQ s.heap d1)=aA.any (lQ s.heap d1)by simp,jA jw]
  show q
 |_=>cases hs
def Ud(h:l.length+m.length<=16777216):nB X z (binaryOp .Add) (.lst l) (.lst m) (.new (l++m)):=by
 apply#[_,Ti,λg σ As M H v1 v2 Q s q1 q2 kk=>?_]
 let(a,xs,rfl,ha,ra):=q1.list;let(b,ys,rfl,hb,rb):=q2.list;apply#[a,b,xs,ys,rfl,rfl,ha,hb,by rw[<- ra.length,<- rb.length];show pP h,λp hp=>?_]
 show kk _ _ As (p::M) (s.aU hp) (au.aU hp) #[p,_,rfl,dC,λhA=>s.fresh hp (s.sub p hA),s.cD hp,aC,(ra.append rb).stay (au.aU hp)]
def Ue(h1 : -(2 ^ 63)<=k)(h2:k<2 ^ 63)(h:l.length * k.toNat<=16777216):nB X z (binaryOp .Mult) (.lst l) (.int k) (.new (List.replicate k.toNat l).flatten):=by
 apply#[_,Tj,λg σ As M H v1 v2 Q s q1 q2 kk=>?_]
 let(a,xs,rfl,ha,ra):=q1.list;have rr:∀n,aJ z.K M H (List.replicate n l).flatten (List.replicate n xs).flatten:=λn=>by
  induction n with
  |zero=>simp;show .nil
  |succ n ih=>rw[An,An];show ra.append ih
 apply#[a,k,xs,rfl,q2.int,ha,h1,h2,by rw[<- ra.length];show pP h,λp hp=>?_]
 show kk _ _ As (p::M) (s.aU hp) (au.aU hp) #[p,_,rfl,dC,λhA=>s.fresh hp (s.sub p hA),s.cD hp,aC,(rr _).stay (au.aU hp)]
abbrev Ug(K:Frag):R2:=λx y H Q=>∃a b xs ys,x=.ref a/\y=.ref b/\gF K H a xs/\gF K H b ys/\xs.length+ys.length<=sizeLine/\
 (xs=[]->Q (.ref b) H)/\(xs≠[]->ys=[]->Q (.ref a) H)/\(xs≠[]->ys≠[]->∀p,H p=none->Q (.ref p) (upd H p (.tup (xs++ys))))
def HD:n6 X (binaryOp .Add) (Ug X.K):=by
 intro aj s σ H x y v u Q I rx ry h;let(a,b,xs,ys,rfl,rfl,ha,hb,hz,q0,q1,q2):=h;by_cases hx:xs=[]
 .
  subst hx;cases rx;cases ry;let(aA,r1,p1,_):=I.tuple ha;let(oB,r2,p2,_):=I.tuple hb;cases r1;let((cls,dd,data,sl),ho,hc,n,hd):=id p1;let((Zb,dd2,data2,sl2),ho2,hc2,n2,hd2):=id p2;subst hc hd hc2 hd2;show concat_meets #[_,ho,rfl] #[_,ho2,rfl] noFill_tuple_add seq_tuple_add Co B3 (BH _ _)
   (tuple_addW0 a b ([].toArray) oB.toArray n n2 dd dd2 sl sl2 ⋯) #[ho,ho2,#[.ref b,H,I,rfl,q0 rfl]]
 . show Mz aj s σ H (.ref a) (.ref b) v u Q I rx ry #[a,b,xs,ys,rfl,rfl,ha,hb,hx,hz,q1 hx,q2 hx]
def Nm(hK:z.K=X.K)(h:l.length+m.length<=16777216):nB X z (binaryOp .Add) (.tup l) (.tup m) (.dat (.tup (l++m))):=by
 apply#[_,HD,λg σ As M H v1 v2 Q s q1 q2 kk=>?_]
 let(a,xs,rfl,ha,ra):=q1.tup;let(b,ys,rfl,hb,rb):=q2.tup;have la:=ra.length;have lb:=rb.length;apply#[a,b,xs,ys,rfl,rfl,hK▸ha.sq,hK▸hb.sq,by rw[<- la,<- lb];show pP h,λe=>?_,λe1 e2=>?_,λe1 e2 p hp=>?_]
 .
  subst e;cases l with
  |nil=>show kk _ H As M s (au.refl _ _) (.tup hb rb)
  |cons _ _=>simp at la
 .
  subst e2;cases m with
  |nil=>rw[mB]at kk;show kk _ H As M s (au.refl _ _) (.tup ha ra)
  |cons _ _=>simp at lb
 . show kk _ _ As M (s.laid hp) (au.laid hp) (.tup (.inl #[s.fresh hp,.inl aC]) ((ra.append rb).stay (au.laid hp)))
def pU{K:Frag}{M:List Addr}{H:Hp}{l:List D}{xs:List V}{i:Int}{d:D}(r:aJ K M H l xs)(h:gD l i=!d):∃v,gD xs i=!v/\Rep K M H d v:=by
 delta gD at h ⊢
 rw[<- r.length];cases e:uf l.length i with
 |none=>rw[e]at h;symm
 |some j=>rw[e]at h;have h':=h;let(v,h1,h2):=r.get h';show#[v,h1,h2]
def Uh{l:List D}{i:Int}{d:D}(hK:z.K=X.K)(h:gD l i=!d):XZ X z (.lst l) (.int i) (.dat d):=by
 apply#[_,um,λg σ As M H v1 v2 Q s q1 q2 kk=>?_]
 let(a,xs,rfl,ha,ra):=q1.list;let(v,e,r):=pU ra h;show#[a,xs,i,v,rfl,q2.int,cg.of ha,e,kk _ H As M s (au.refl _ _) r]
def Ui{l:List D}{i:Int}{d:D}(hK:z.K=X.K)(h:gD l i=!d):XZ X z (.fix l) (.int i) (.dat d):=by
 apply#[_,um,λg σ As M H v1 v2 Q s q1 q2 kk=>?_]
 let(a,xs,rfl,ha,ra):=q1.fix;let(v,e,r):=pU ra h;show#[a,xs,i,v,rfl,q2.int,hK▸ha.sq,e,kk _ H As M s (au.refl _ _) r]
def Np{l:List D}{i:Int}{d:D}(hK:z.K=X.K)(h:gD l i=!d):XZ X z (.tup l) (.int i) (.dat d):=by
 apply#[_,S9,λg σ As M H v1 v2 Q s q1 q2 kk=>?_]
 let(a,xs,rfl,ha,ra):=q1.tup;let(v,e,r):=pU ra h;show#[a,xs,i,v,rfl,q2.int,hK▸ha.sq,e,kk _ H As M s (au.refl _ _) r]
abbrev cK:List D->Option (~~~0)
 | []=>![]
 |.int i::l=>match cK l with |some ns=>!(i::ns) |none=>none
 |_::_=>none
def bX{K:Frag}{M:List Addr}{H:Hp}{l:List D}{xs:List V}{ns: ~~~0}(q:aJ K M H l xs)(e:cK l=!ns):xs=ns.map V.int:=by
 induction l generalizing xs ns with
 |nil=>cases q;cases e;rfl
 |cons d l ih=>cases q with |cons r q=>cases d with
  |int i=>
   have e:(match cK l with |some ns=>!(i::ns) |none=>none)=!ns:=e
   cases e2:cK l with
   |none=>rw[e2]at e;cases e
   |some ns=>rw[e2]at e;cases e;cases r;rw[List.map_cons,ih q e2]
  |_=>cases e
def Uj{l m:List D}{ns ms: ~~~0}(hK:z.K=X.K)(hu:X.A.units<cLine)(h1:cK l=!ns)(h2:cK m=!ms):nB X z (compareOp .Lt) (.tup l) (.tup m) (.dat (.bl (HT.lexLt ns ms))):=by
 apply#[_,S8 hu,λg σ As M H v1 v2 Q s q1 q2 kk=>?_]
 let(a,xs,rfl,ha,ra):=q1.tup;let(b,ys,rfl,hb,rb):=q2.tup;have e1:=bX ra h1;have e2:=bX rb h2;subst e1 e2;show#[a,b,ns,ms,rfl,rfl,hK▸ha.sq,hK▸hb.sq,kk _ H As M s (au.refl _ _) (.bl _)]
def Uk:UnD X z (unaryOp .USub) (.int i) (.dat (.int (-i))):=#[_,G0,λg σ As M H v Q s p k=>#[i,p.int,k _ H As M s (au.refl _ _) (.int _)]]
end
section
def Ni.one{K:Frag}{M:List Addr}{H:Hp}{d:D}{vs:List V}(h:Ni K M H [d] vs):∃v,vs=[v]/\Pk K M H d v:=by cases h with |cons p q=>cases q;show#[_,rfl,p]
def Ni.two{K:Frag}{M:List Addr}{H:Hp}{d e:D}{vs:List V}(h:Ni K M H [d,e] vs):∃v w,vs=[v,w]/\Pk K M H d v/\Pk K M H e w:=by cases h with |cons p q=>cases q with |cons p' q'=>cases q';show#[_,_,rfl,p,p']
abbrev ZK:D->Option Nat
 |.lst l=>!l.length
 |.tup l=>!l.length
 |.fix l=>!l.length
 |_=>none
def Ul{d:D}{n:Nat}(hK:z.K=X.K)(h:ZK d=!n):CallD X z (.builtin "len") [d] ‹n›:=by
 apply#[_,G4,λg σ As M H vs Q s p k=>?_]
 let(v,rfl,pv):=p.one;apply#[v,n,rfl,?_,k _ H As M s (au.refl _ _) (.int _)];cases d with
 |lst l=>symm;let(a,xs,rfl,ha,r):=pv.list;show .inl #[xs,cg.of ha,r.length]
 |fix l=>symm;let(a,xs,rfl,ha,r):=pv.fix;show .inl #[xs,hK▸ha.sq,r.length]
 |tup l=>symm;let(a,xs,rfl,ha,r):=pv.tup;show .inr #[xs,hK▸ha.sq,r.length]
 |_=>symm
def Nq{d:D}{l:List D}(hK:z.K=X.K)(h:bV d=!l):CallD X z (.type "list") [d] (.new l):=by
 apply#[_,uq,λg σ As M H vs Q s p k=>?_]
 let(v,rfl,pv):=p.one;have fin:∀xs,aJ z.K M H l xs->∀p,H p=none->Q (.ref p) (upd H p (.lst xs)):=λxs r p hp=>
  k _ _ As (p::M) (s.aU hp) (au.aU hp) #[p,xs,rfl,dC,λhA=>s.fresh hp (s.sub p hA),s.cD hp,aC,r.stay (au.aU hp)]
 cases d with
 |lst m=>symm;let(a,xs,rfl,ha,r):=pv.list;show#[a,xs,rfl,.inl (cg.of ha),fin xs r]
 |fix m=>symm;let(a,xs,rfl,ha,r):=pv.fix;show#[a,xs,rfl,.inl (hK▸ha.sq),fin xs r]
 |tup m=>symm;let(a,xs,rfl,ha,r):=pv.tup;show#[a,xs,rfl,.inr (hK▸ha.sq),fin xs r]
 |_=>symm
def HF{d:D}{l:List D}(hK:z.K=X.K)(h:bV d=!l):CallD X z (.type "tuple") [d] (.dat (.tup l)):=by
 apply#[_,rD,λg σ As M H vs Q s p k=>?_]
 let(v,rfl,pv):=p.one;have fin:∀xs,aJ z.K M H l xs->∀p,H p=none->Q (.ref p) (upd H p (.tup xs)):=λxs r p hp=>
  k _ _ As M (s.laid hp) (au.laid hp) (.tup (.inl #[s.fresh hp,.inl aC]) (r.stay (au.laid hp)))
 cases d with
 |lst m=>symm;let(a,xs,rfl,ha,r):=pv.list;show#[a,xs,rfl,.inl #[cg.of ha,fin xs r]]
 |fix m=>symm;let(a,xs,rfl,ha,r):=pv.fix;show#[a,xs,rfl,.inl #[hK▸ha.sq,fin xs r]]
 |tup m=>symm;let(a,xs,rfl,ha,r):=pv.tup;show#[a,xs,rfl,.inr #[hK▸ha.sq,k _ H As M s (au.refl _ _) (.tup ha r)]]
 |_=>symm
def Um{i j:Int}(hc:X.calm=true):CallD X z (.builtin "max") [.int i,.int j] (.dat (.int (if j > i then j else i))):=by
 apply#[_,Dg hc,λg σ As M H vs Q s p k=>?_]
 let(v,w,rfl,p1,p2):=p.two;show#[i,j,by rw[p1.int,p2.int],k _ H As M s (au.refl _ _) (.int _)]
def Uo{i j:Int}(hc:X.calm=true):CallD X z (.builtin "min") [.int i,.int j] (.dat (.int (if j<i then j else i))):=by
 apply#[_,Dh hc,λg σ As M H vs Q s p k=>?_]
 let(v,w,rfl,p1,p2):=p.two;show#[i,j,by rw[p1.int,p2.int],k _ H As M s (au.refl _ _) (.int _)]
end
section
def pW(hc:X.calm=true):e9 X (.builtin "all") (λxs H Q=>∃(p:Addr) (bs:List Bool),xs=[.ref p]/\cg X.K H p (bs.map V.bl)/\Q (.bl (bs.all id)) H):=by
 intro aj s σ H xs us Q I r h;let(p,bs,rfl,hp,q):=h;let(u,rfl,rx):=vals1 r;cases rx;let(aA,rv,pl,hz):=I.list hp;have hlt:p<s⁻¹:=by let(_,e,_):=pl.isList;show eM e
 have aN:aA.length=bs.length:=by rw[<- rv.length,eJ]
 have up:∀b o,s.heap.get? b=!o->(s.heap.push { cls:=.type "list_iterator",data:=.fields ([.ref p,.int 0 0].toArray)}).get? b=!o:=λb o e=>dA _ e
 apply call_all_walk (AY pl.isList ?_);apply#[s⁻¹,_,_,_,_,_,λi=>bs.getD i true,rfl,Walks.list (A:=X.A.in1) (show X.A.in1.handled=none from I.ok.hd hc) s⁻¹ p (kS hlt) aA.toArray,#[#[_,eD _ rfl,rfl,rfl],pl.isList.push _],?_,λh' tk hk=>?_]
 .
  intro i v s' Q' E' hv hq;have hv':aA[i]?=!v:=by simpa using hv
  have hi:i<bs.length:=by rw[<- aN];show (dE.mp hv').1
  let(w,e1,e2):=rv.get (i:=i) (x:=V.bl bs[i]) (by simp[hi])
  rw[hv']at e1;cases e1;cases e2;apply nN ?_;have:bs.getD i true=bs[i]:=by simp[List.getD,hi]
  rw[<- this];show hq
 .
  have I1:L2.Inv X aj σ H { s with heap:=h',toks:=tk}:=I.kept λb o e=>hk b o (λhm=>by
   have:b=s⁻¹:=by simpa using hm
   show absurd (eM e) (by rw[this];show nK _)) (up b o e)
  apply#[.bl (bs.all id),H,I1,?_,q];have e:(List.range aA.toArray.size).all (λi=>bs.getD i true)=bs.all id:=by
   rw[dL,aN];rw[B5];simp only[l4,t9,id];constructor
   . intro h b hb;let(j,hj):=List.getElem?_of_mem hb;have hj':=(dE.mp hj).1;have:=h j hj';simpa [List.getD,hj]using this
   . intro h i hi;have:=h bs[i] (AQ hi);simpa [List.getD,hi]using this
  rw[e];rfl
abbrev wj:List D->Option (List Bool)
 | []=>![]
 |.bl b::l=>match wj l with |some bs=>!(b::bs) |none=>none
 |_::_=>none
def HJ{K:Frag}{M:List Addr}{H:Hp}{l:List D}{xs:List V}{ns:List Bool}(q:aJ K M H l xs)(e:wj l=!ns):xs=ns.map V.bl:=by
 induction l generalizing xs ns with
 |nil=>cases q;cases e;rfl
 |cons d l ih=>cases q with |cons r q=>cases d with
  |bl i=>
   have e:(match wj l with |some ns=>!(i::ns) |none=>none)=!ns:=e
   cases e2:wj l with
   |none=>rw[e2]at e;cases e
   |some ns=>rw[e2]at e;cases e;cases r;rw[List.map_cons,ih q e2]
  |_=>cases e
def Up{l:List D}{bs:List Bool}(hc:X.calm=true)(h:wj l=!bs):CallD X z (.builtin "all") [.lst l] (.dat (.bl (bs.all id))):=by
 apply#[_,pW hc,λg σ As M H vs Q s p k=>?_]
 let(v,rfl,pv):=p.one;let(a,xs,rfl,ha,r):=pv.list;have e:=HJ r h;subst e;show#[a,bs,rfl,cg.of ha,k _ H As M s (au.refl _ _) (.bl _)]
end
abbrev lZ:D->String
 |.non=> "NoneType" |.bl _=> "bool" |.int _=> "int" |.str _=> "str" |.tup _=> "tuple" |.lst _=> "list" |.fix _=> "list" |.emp=> "dict" |.nq _=> "" |.Dr ..=> "dict"
abbrev Gk:D->Value
 |.nq C=>.ref C
 |d=>.type (lZ d)
def Dz{M:Model}{A:Around}{E:Value->Shared->Prop}{K:Frag}{x C:Addr}{ox:Obj}{nv:Value}{Q:Unit->Shared->Prop}{s:Shared}(X:K.In s.heap)(I:PySem.W.InstAt s.heap x ox C none)(hb:PySem.W.mroIn K C (.type "BaseException")=!true)(hq:Q () s) :
  wpAny M A (checkBuiltinCall "BaseException.__getattribute__" #[[.ref x,nv],[]]) Q E s:=by
 have kd:builtinKind "BaseException.__getattribute__"=some .slot:=by decide +kernel
 have sd:splitId "BaseException.__getattribute__"=!("BaseException", "__getattribute__"):=by decide +kernel
 let(hv,ge,dr,tk,o'):=s;have l0:=I.type (M:=M);have l1:=PySem.W.looks_mroIn (M:=M) X hb;simp only[checkBuiltinCall];apply aS (aS (l0.at (l1.at ?_)))
 repeat (any_goals (first |assumption |wp_step))
def HN{prog:Program}{w:World}{A:Around}{E:Value->Shared->Prop}{K:Frag}{x C:Addr}{ox:Obj}{name:Str}{g a:Value}{Q:Option Value->Shared->Prop}{s:Shared}(X:K.In s.heap)(I:PySem.W.InstAt s.heap x ox C none)
  (hga:PySem.W.findIn K (.ref C) "__getattribute__"=!(!(.builtin "BaseException.__getattribute__"))) (hk:PySem.W.findIn K (.ref C) "__getattr__"=!none) (hb:PySem.W.mroIn K C (.type "BaseException")=!true) (hf:PySem.W.findObj K C none name=!(.bind g a))
  (h:wpAny (model prog w) A.in1 (call g [a,.ref x,.ref C]) (λv s'=>wpAny (model prog w) A (handedOut v) (λv s''=>Q (!v) s'') (λ_ _=>False) s') (λ_ _=>False) { s with toks:=s.toks+1}) :
  wpAny (model prog w) A (getAttr? (.ref x) name) Q E s:=by
 let(hv,ge,dr,tk,o'):=s;have l0:=I.type (M:=model prog w);have l1:=PySem.W.looks_findIn (M:=model prog w) X hga;have l2:=PySem.W.looks_findIn (M:=model prog w) X hk;have l3:=PySem.W.looks_find (M:=model prog w) X I hf;have f3:=F.excAttr_ValueError.ga.bind (.ref x);apply aS (wpAny_mkText (aS (wpAny_attempt (mE (aS (l0.at (aS (l1.at ?_))))))));apply aS (l2.at (aS (wpAny_attempt (mE ?_))));exact wpAny _ _ (boundAndCalled _ _ _) _ _ _;delta boundAndCalled;apply aS (d5 (DJ (codeAny_call_builtin F.excAttr_ValueError.ga.plain F.entry_bexc_ga (Dz X I hb ?_))));apply aS (d5 (aS (d5 (aS (l0.at (aS (l3.at ?_)))))));apply aS (mE (l6 h (λv s' z=>d5 ?_) λ_ _ z=>z.elim))
 show l6 z (λv s'' hv=>d5 hv) (λ_ _ z=>z.elim)
def mh{K:Frag}{C:Addr}(k:Ht K C):∃c d cd sl,K.lookup C=!#[c,d,.cls cd,sl]/\PySem.W.clsIn K C=!cd:=by
 let(cd,hc,_):=PySem.W.any_some k.dct;have hc':=hc;delta PySem.W.clsIn at hc;split at hc
 . ext c d cd' sl ho;cases hc;show#[c,d,cd,sl,ho,hc']
 . cases hc
def wk{K:Frag}{x C:Addr}(k:Ht K C):PySem.W.KitX K (.ref x) (.ref C) (λh=>∃ox,PySem.W.InstAt h x ox C none) where
 ty:=by rintro _ _ _ ⟨_,I⟩;show I.type
 it:=λ_ _ X _=>by
  let(c,d,cd,sl,ho,_):=mh k;intro A' Q' E' s' kp q;apply aS ?_;apply wpAny_loadPart (kp _ _ (X _ _ ho)) ?_;show d5 q
 ne:=λh tp dd aA n sl X htp=>by
  let(c,d,cd,sl',ho,_):=mh k;cases q:(Value.ref C==Value.ref tp)with
  |false=>rfl
  |true=>have e:=Value.ref.inj (beq_iff_eq.mp q);subst e;have y:=(X _ _ ho).symm.trans htp;cases y
 ca:=λ{prog w A E Q s} X #[ox,I] h=>by
  let(_,_,cd,_,_,hc):=mh k;have hf:PySem.W.findObj K C none "__class__"=!(.bind (.builtin "getset_descriptor.__get__") (.builtin "object.__class__")):=by delta PySem.W.findObj;rw[hc,k.cls];simp[k.spc,k.tks]
  apply HN X I k.gga k.gat k.bas hf (DJ ?_);show PySem.W.class_get X I k.mro (PySem.W.handed_on rfl h)
section
def HQ(I:L2.Inv X aj σ H s)(p:Pk X.K M H d v)(r:RelV v u)
  (e:PySem.W.kitOne X.K (Gk d) c=!b) (h:∀tk,Q (.bool b) { s with toks:=tk}):wpAny (~~~2) A (call (.builtin "isinstance") [u,c]) Q E s:=by
 cases d with
 |non=>have q:=p.non;subst q;cases r;show vS PySem.W.kitx_none I.nj True.intro e (λz=>nomatch z) h
 |bl y=>have q:=p.bl;subst q;cases r;show vS PySem.W.kitx_bool I.nj True.intro e (λz=>nomatch z) h
 |int i=>have q:=p.int;subst q;let(t,rfl):=r;show vS PySem.W.kitx_int I.nj True.intro e (λz=>nomatch z) h
 |str y=>have q:=p.str;subst q;let(t,rfl):=r;show vS PySem.W.kitx_str I.nj True.intro e (λz=>nomatch z) h
 |tup l=>let(a,xs,rfl,ha,_):=p.tup;cases r;let(aA,_,(o,h1,h2,_),_):=I.tuple ha.sq;show vS PySem.W.kitx_tuple I.nj #[o,h1,h2] e (λz=>nomatch z) h
 |lst l=>let(a,xs,rfl,ha,_):=p.list;cases r;let(aA,_,pl,_):=I.list (cg.of ha);let(o,h1,h2,_):=pl.isList;show vS CH I.nj #[o,h1,h2] e (λz=>nomatch z) h
 |fix l=>let(a,xs,rfl,ha,_):=p.fix;cases r;let(aA,_,pl,_):=I.list ha.sq;let(o,h1,h2,_):=pl.isList;show vS CH I.nj #[o,h1,h2] e (λz=>nomatch z) h
 |emp=>
  cases p with
  |of q=>
   cases q with
   |emp _ ha=>cases r;let(_,_,vs,_,o,es,ep,h1,h2,_):=I.hok _ _ ha;show vS CI I.nj #[o,h1,h2.1] e (λz=>nomatch z) h
 |nq C=>
  cases p with
  |of q=>
   cases q with
   |nq k _ ha=>cases r;let((o,h1,h2,h3,h4),_):=I.hok _ _ ha;show vS (wk k) I.nj #[o,h1,h2,h3,by rw[h4];trivial] e (λz=>nomatch z) h
 |Dr ks ds=>
  cases p with
  |of q=>
   cases q with
   |Dr _ ha _ _=>cases r;let(_,_,vs,_,o,es,ep,h1,h2,_):=I.hok _ _ ha;show vS CI I.nj #[o,h1,h2.1] e (λz=>nomatch z) h
def HR:e9 X (.builtin "isinstance") (λxs H Q=>∃x n M d b,xs=[x,.ty n]/\Pk X.K M H d x/\PySem.W.kitOne X.K (Gk d) (.type n)=!b/\Q (.bl b) H):=by intro aj s σ H xs us Q I r h;let(x,n,M,d,b,rfl,p,e,q):=h;let(u,w',rfl,r1,r2):=vals2 r;cases r2;show HQ I p r1 e λtk=>#[.bl b,H,I.tok tk,rfl,q]
def Uq(hK:z.K=X.K)(h:aD X z a g r1 g1)(hp:pk r1 g1=!d)(he:∀M H v,Pk X.K M H d v->PySem.W.kitOne X.K (Gk d) (.type n)=!b)
  (hg:Gl X "isinstance") (hm:X.mg "isinstance"=none) (hv:bootBuiltins "isinstance"=!(.builtin "isinstance")) (gT:Gl X T) (mT:X.mg T=none) (vT:bootBuiltins T=!(.type n)) (nT:T≠ "__name__") (dT:(T==(~~~3))=false)
  (hs:starEach [a,.Name T pT] X.env=(false,eval a X.env)::starEach [.Name T pT] X.env):aD X z (.Call (.Name "isinstance" p) [a,.Name T pT] [] pos) g (.dat (.bl b)) g1:=by
 let(t,q,k):=h;have pT':PE X (.Name T pT) (tC (.ty n)):=tV gT mT vT rfl nT dT;apply#[_,kL HR hg hm hv (bJ q (bJ pT' eU) hs) ⋯ ⋯ hs,λσ As M H Q s kk=>k σ As M H _ s λv H' aE M' s' st R=>?_]
 have p:=hK▸s'.pk (au.refl _ _) R hp;show#[v,n,M',d,b,rfl,p,he _ _ _ p,kk _ H' aE M' s' st (.bl b)]
end
inductive Fl where
 |nx |rt (r:R) |bk |ct
abbrev kX(z:Z)(M:List Addr)(H:Hp)(E:Ends)(g':G):Fl->Prop
 |.nx=>∀σ' aE M' H',S z g' σ' aE M' H'->au M H M' H'->E.nx σ' H'
 |.bk=>∀σ' aE M' H',S z g' σ' aE M' H'->au M H M' H'->E.bk σ' H'
 |.ct=>∀σ' aE M' H',S z g' σ' aE M' H'->au M H M' H'->E.ct σ' H'
 |.rt r=>∀v σ' aE M' H',S z g' σ' aE M' H'->au M H M' H'->dB z g' σ' aE M' H' r v->E.rt v H'
abbrev iz(X:Cx)(z:Z)(st:Stmt)(g:G)(f:Fl)(g':G):Prop:=
 ∃t,PS X st t/\∀σ As M H E,S z g σ As M H->kX z M H E g' f->t E σ H
abbrev eX(X:Cx)(z:Z)(jS:List Stmt)(g:G)(f:Fl)(g':G):Prop:=
 ∃t,tU X jS t/\∀σ As M H E,S z g σ As M H->kX z M H E g' f->t E σ H
section
variable{st:Stmt}
def kX.trans(st:au M H M1 H1)(h:kX z M H E g' f):kX z M1 H1 E g' f:=by
 cases f with
 |nx=>show λσ' aE M' H' s' st'=>h σ' aE M' H' s' (st.trans st')
 |bk=>show λσ' aE M' H' s' st'=>h σ' aE M' H' s' (st.trans st')
 |ct=>show λσ' aE M' H' s' st'=>h σ' aE M' H' s' (st.trans st')
 |rt r=>show λv σ' aE M' H' s' st' R=>h v σ' aE M' H' s' (st.trans st') R
def HS:eX X z [] g .nx g:=#[_,Mp,λσ As M H E s k=>k σ As M H s (au.refl _ _)]
def Nr(h1:iz X z st g .nx g1)(h2:eX X z jS g1 f g2):eX X z (st::jS) g f g2:=by let(t1,q1,k1):=h1;let(t2,q2,k2):=h2;show#[_,eu q1 q2,λσ As M H E s k=>k1 σ As M H _ s λσ' aE M' H' s' st'=>k2 σ' aE M' H' E s' (k.trans st')]
def Ur(h1:iz X z st g (.rt r) g1):eX X z (st::jS) g (.rt r) g1:=by let(t1,q1,k1):=h1;show#[_,eu q1 bC,λσ As M H E s k=>k1 σ As M H _ s k]
def Us(h1:iz X z st g .bk g1):eX X z (st::jS) g .bk g1:=by let(t1,q1,k1):=h1;show#[_,eu q1 bC,λσ As M H E s k=>k1 σ As M H _ s k]
def Ut(h1:iz X z st g .ct g1):eX X z (st::jS) g .ct g1:=by let(t1,q1,k1):=h1;show#[_,eu q1 bC,λσ As M H E s k=>k1 σ As M H _ s k]
def Uu(h:aD X z e g r g1):iz X z (.Return (!e) pos) g (.rt r) g1:=by let(t,q,k):=h;show#[_,tX q,λσ As M H E s kk=>k σ As M H _ s λv H' aE M' s' st R=>kk v σ aE M' H' s' st R]
def Nt(h:aD X z e g r g1)(hs:swapsWith e none pos.line X.env=pure false):iz X z (.Expr e pos) g .nx g1:=by let(t,q,k):=h;show#[_,oE q hs,λσ As M H E s kk=>k σ As M H _ s λv H' aE M' s' st R=>kk σ aE M' H' s' st]
def Ri(h:cS X z c g v g1)(h2:eX X z (if v then a else b) g1 f g2):iz X z (.If c a b pos) g f g2:=by
 let(t,q,k):=h;let(t2,q2,k2):=h2;cases v with
 |true=>show#[_,o8 q q2 bC,λσ As M H E s kk=>k σ As M H _ s λH' aE M' s' st=>jV (k2 σ aE M' H' E s' (kk.trans st))]
 |false=>show#[_,o8 q bC q2,λσ As M H E s kk=>k σ As M H _ s λH' aE M' s' st=>n9 (k2 σ aE M' H' E s' (kk.trans st))]
def Nu(hN:X.N.Nodup)(hi:X.N[i]?=!x)(hx:Loc X.env.scope x)(h:aD X z e g (.dat d) g1)(hs:swapsWith e (!(.Name x pos')) pos.line X.env=pure false)(hf:X.fn x=true\/X.env.scope.names.lookup x=some .local)(hb:i∉z.bor) :
  iz X z (.Assign [.Name x pos'] e pos) g .nx (g1.set i (.dat d)):=by
 let(t,q,k):=h;apply#[_,pg hN hi hx q hs hf,λσ As M H E s kk=>k σ As M H _ s λv H' aE M' s' st R=>?_]
 let(bD,s2):=s'.jX (i:=i) hb R;show kk _ bD M' H' s2 st
def Nv(hN:X.N.Nodup)(hi:X.N[i]?=!x)(hx:Loc X.env.scope x)(h:aD X z e g (.new l) g1)(hl:i<g1.length)(hs:swapsWith e (!(.Name x pos')) pos.line X.env=pure false)(hf:X.fn x=true\/X.env.scope.names.lookup x=some .local)(hb:i∉z.bor) :
  iz X z (.Assign [.Name x pos'] e pos) g .nx (g1.set i (.own l)):=by
 let(t,q,k):=h;apply#[_,pg hN hi hx q hs hf,λσ As M H E s kk=>k σ As M H _ s λv H' aE M' s' st R=>?_]
 let(a,xs,rfl,hm,hA,h0,ha,rr):=R;let(bD,s2):=s'.pM hb hl hm hA h0 ha rr;show kk _ bD M' H' s2 st
end
abbrev tAny(X:Cx)(jS:List Stmt):TS:=λE σ H=>∃t,tU X jS t/\t E σ H
def Bo{X:Cx}{jS:List Stmt}:tU X jS (tAny X jS):=λaj s σ H E I h=>let #[t,q,k]:=h;q aj s σ H E I k
section
def drop_cons{α:Type}{l:List α}{n:Nat}{a:α}(h:l[n]?=!a):l.drop n=a::l.drop (n+1):=by let(h1,h2):=dE.mp h;rw[List.drop_eq_getElem_cons h1,h2]
end
abbrev cF(lo:Int)(n:Nat):List D:=(List.range n).map λ(k:Nat)=>D.int (lo+(k:Int))
section
def HW{lo:Int}{n k:Nat}(h:k<n):(cF lo n)[k]?=!(.int (lo+(k:Int))):=by delta cF;rw[pV,Dx h];rfl
def wm{lo:Int}{n:Nat}:(cF lo n).length=n:=by delta cF;simp
def DG(h:cY X z [a] g [‹j›] g1)(hg:Gl X "range")(hm:X.mg "range"=none)(hs:starEach [a] X.env=[(false,eval a X.env)])(h1 : -(2 ^ 62)<=j)(h2:j<2 ^ 62) :
  ∃wi,PI X tg (.Call (.Name "range" p) [a] [] rp) wi/\∀σ As M H (Q:It->Hp->Prop),S z g σ As M H->(∀H' aE M',S z g1 σ aE M' H'->au M H M' H'->Q (Sv 0 j.toNat) H')->wi σ H Q:=by
 let(t,q,k):=h;apply#[_,rW hg hm q hs,λσ As M H Q s kk=>k σ As M H _ s λvs H' aE M' s' st R=>?_]
 cases R with
 |dat r R=>cases R;cases r;show#[j,rfl,h1,h2,kk H' aE M' s' st]
def DK(h:cY X z [a,b] g [‹c›,‹j›] g1)(hg:Gl X "range")(hm:X.mg "range"=none)(hs:starEach [a,b] X.env=[(false,eval a X.env),(false,eval b X.env)])(hs2:starEach [b] X.env=[(false,eval b X.env)])
  (h1 : -(2 ^ 62)<=c/\c<2 ^ 62/\-(2 ^ 62)<=j/\j<2 ^ 62) {tg:Expr} :
  ∃wi,PI X tg (.Call (.Name "range" p) [a,b] [] rp) wi/\∀σ As M H (Q:It->Hp->Prop),S z g σ As M H->(∀H' aE M',S z g1 σ aE M' H'->au M H M' H'->Q (Sv c (j - c).toNat) H')->wi σ H Q:=by
 let(t,q,k):=h;apply#[_,De hg hm q hs hs2,λσ As M H Q s kk=>k σ As M H _ s λvs H' aE M' s' st R=>?_]
 cases R with
 |dat r R=>cases R with |dat r2 R=>cases R;cases r;cases r2;show#[c,j,rfl,h1,kk H' aE M' s' st]
end
section
def DN(hN:X.N[i]?=!x)(hv:iR X.env.scope x)(hd:(x==(~~~3))=false)(bZ:(x==("__classdict__":Str))=false)(hg:g[i]?=!(.own l0))(h:cY X z [e] g [.dat d] g1)(uz:g1[i]?=!(.own l))(hl:l.length<16777216)
  (hbase:attributeBase (.Name x pn) "append" X.env (eval (.Name x pn) X.env)=eval (.Name x pn) X.env)
  (hfew:((backTo bw (starEach [e] X.env)).all (λx=>(not x.1))&&(backToKw bw (keywordEach [] X.env)).all (λx=>x.1.isSome)
   && decide ([e].length+([]:List Keyword).length+(if ([]:List Keyword).isEmpty then 0 else 1)<30))=true)
  (hline:(cG.endLine==bw.line)=true) (hs:starEach [e] X.env=(false,eval e X.env)::starEach [] X.env):aD X z (.Call (.Attribute (.Name x pn) "append" cG) [e] [] bw) g (.dat .non) (g1.set i (.own (l++[d]))):=by
 let(t,q,k):=h;apply#[_,vY y7 BM BN jx (cN hN hv hd bZ) q hbase hfew hline hs rfl,λσ As M H Q s kk=>?_]
 let(a,xs,e1,e2,e3,e4):=s.sl.at hg;apply#[.ref a,e1,.inl #[rfl,xs,cg.of e3],k σ As M H _ s λvs H' aE M' s' st R=>?_]
 let(b,ys,f1,f2,f3,f4):=s'.sl.at uz;rw[e1]at f1;injection f1 with f1;injection f1 with f1;injection f1 with f1;subst f1;cases R with
 |dat r R=>
  cases R;apply#[a,ys,_,rfl,rfl,f3,by rw[<- f4.length,oQ];show hl,?_]
  let(s2,aM):=s'.write uz e1 (f4.append (.cons r .nil));show kk _ _ aE M' s2 (st.trans aM) .non
end
section
def Nx(hN:X.N[i]?=!x)(hv:iR X.env.scope x)(hd:(x==(~~~3))=false)(bZ:(x==("__classdict__":Str))=false)(h:aD X z e g (.dat d) g1)(uz:g1[i]?=!(.own l0))(h2:aD X z ix g1 ‹k› g2)(hg2:g2[i]?=!(.own l))(hj:uf l.length k=!j)
  (ha:∀v,assign (.Subscript (.Name x pn) ix gX) X.env v=(do
   let ov <- holding [v] (eval (.Name x pn) X.env)
   let iv <- holding [v,ov] (eval ix X.env)
   standAt gX
   holding [v,ov,iv] (setItem ov iv v)
   release [v,ov,iv] []))
  (hs:swapsWithSole [.Subscript (.Name x pn) ix gX] e pos.line X.env=pure false) (hw:swappedStores [.Subscript (.Name x pn) ix gX] e X.env=pure none)
  (h1:(assignEach [.Subscript (.Name x pn) ix gX] X.env).map (·.2)=[assign (.Subscript (.Name x pn) ix gX) X.env]) :
  iz X z (.Assign [.Subscript (.Name x pn) ix gX] e pos) g .nx (g2.set i (.own (l.set j d))):=by
 let(t,q,kk):=h;let(t2,q2,k2):=h2;apply#[_,GP q (Sq (cN hN hv hd bZ) q2 set_list ha) hs hw h1,λσ As M H E s kE=>kk σ As M H _ s λv H1 aQ M1 s1 dc R1=>?_]
 let(a,xs,e1,e2,e3,e4):=s1.sl.at uz;apply#[.ref a,e1,k2 σ aQ M1 H1 _ s1 λw H2 bD M2 s2 aM R2=>?_]
 let(b,ys,f1,f2,f3,f4):=s2.sl.at hg2;rw[e1]at f1;injection f1 with f1;injection f1 with f1;injection f1 with f1;subst f1;have R2':Rep z.K M2 H2 (.int k) w:=R2;cases R2';apply#[a,ys,k,j,rfl,rfl,f3,by rw[<- f4.length];show hj,?_]
 let(s3,fQ):=s2.write hg2 e1 (aJ.set (Rep.stay aM R1) j f4);show kE σ bD M2 _ s3 (dc.trans (aM.trans fQ))
def aJ.eraseIdx{K:Frag}{M:List Addr}{H:Hp}:∀{ds:List D}{vs:List V} (n:Nat),aJ K M H ds vs->aJ K M H (ds.eraseIdx n) (vs.eraseIdx n)
 |_,_,_,.nil=>.nil
 |_,_,0,.cons _ t=>t
 |_,_,n+1,.cons r t=>.cons r (aJ.eraseIdx n t)
def HX(hN:X.N[i]?=!x)(hv:iR X.env.scope x)(hd:(x==(~~~3))=false)(bZ:(x==("__classdict__":Str))=false)(hg:g[i]?=!(.own l0))(h:cY X z [e] g [‹k›] g1)(uz:g1[i]?=!(.own l))(hk:uf l.length k=!j)(hy:l[j]?=!d)(hl:l.length<16777216)
  (hbase:attributeBase (.Name x pn) "pop" X.env (eval (.Name x pn) X.env)=eval (.Name x pn) X.env)
  (hfew:((backTo bw (starEach [e] X.env)).all (λx=>(not x.1))&&(backToKw bw (keywordEach [] X.env)).all (λx=>x.1.isSome)
   && decide ([e].length+([]:List Keyword).length+(if ([]:List Keyword).isEmpty then 0 else 1)<30))=true)
  (hline:(cG.endLine==bw.line)=true) (hs:starEach [e] X.env=(false,eval e X.env)::starEach [] X.env):aD X z (.Call (.Attribute (.Name x pn) "pop" cG) [e] [] bw) g (.dat d) (g1.set i (.own (l.eraseIdx j))):=by
 let(t,q,k0):=h;apply#[_,vY y7 PySem.F.slot_list_pop PySem.F.type_list_pop Hg (cN hN hv hd bZ) q hbase hfew hline hs rfl,λσ As M H Q s kk=>?_]
 let(a,xs,e1,e2,e3,e4):=s.sl.at hg;apply#[.ref a,e1,.inl #[rfl,xs,cg.of e3],k0 σ As M H _ s λvs H' aE M' s' st R=>?_]
 let(b,ys,f1,f2,f3,f4):=s'.sl.at uz;rw[e1]at f1;injection f1 with f1;injection f1 with f1;injection f1 with f1;subst f1;cases R with
 |dat r R=>
  cases R;cases r;let(h1,h2,h3,h4):=ug hk;let(v,g1',Uv):=f4.get hy;let(s2,aM):=s'.write uz e1 (aJ.eraseIdx j f4);apply#[a,ys,k,j,v,rfl,rfl,f3,by lia,by lia,by rw[<- f4.length];show h1,g1',?_]
  show kk _ _ aE M' s2 (st.trans aM) (Uv.stay aM)
end
abbrev cL:List R->G->Option G
 | [],_=>![]
 |.dat d::rs,g=>match cL rs g with |some gs=>!(.dat d::gs) |none=>none
 |.var i::rs,g=>match g[i]? with
  |!(.own l)=>match cL rs g with |some gs=>!(.own l::gs) |none=>none
  |_=>none
 |.new _::_,_=>none
abbrev vars:Nat->List R->List (Nat×Nat)
 |_,[]=>[]
 |j,.var i::rs=>(j,i)::vars (j+1) rs
 |j,.dat _::rs=>vars (j+1) rs
 |j,.new _::rs=>vars (j+1) rs
abbrev back:List (Nat×Nat)->G->G->Option G
 | [],_,g=>!g
 | (j,i)::ps,gc,g=>match gc[j]? with
  |!(.own l)=>back ps gc (g.set i (.own l))
  |_=>none
abbrev dF(bor:List Nat)(g':G):R->Option R
 |.dat d=>!(.dat d)
 |.new l=>!(.new l)
 |.var j=>if j∈bor then none else match g'[j]? with |!(.own l)=>!(.new l) |_=>none
abbrev adr(σ:Sg)(i:Nat):Addr:=match σ[i]? with |!(!(.ref a))=>a |_=>0
def jZ(h:σ[i]?=!(!(.ref a))):adr σ i=a:=by delta adr;rw[h]
abbrev cP(σ:Sg)(ps:List (Nat×Nat)):List (Nat×Addr):=ps.map λp=>(p.1,adr σ p.2)
abbrev dG(n:Nat)(gs:G):G:=gs++List.replicate (n - gs.length) .no
def Slots.append{K:Frag}{M:List Addr}{H:Hp}{g1 g2:G}{σ1 σ2:Sg}{A1 A2:List Addr}(p:Slots K M H g1 σ1 A1)(q:Slots K M H g2 σ2 A2):Slots K M H (g1++g2) (σ1++σ2) (A1++A2):=by
 induction p with
 |nil=>show q
 |no p ih=>show .no ih
 |dat r p ih=>show .dat r ih
 |own e r p ih=>show .own e r ih
def Slots.nos{K:Frag}{M:List Addr}{H:Hp}:∀(n:Nat),Slots K M H (List.replicate n .no) (List.replicate n none) []
 | 0=>.nil
 |n+1=>by rw[An];show .no (Slots.nos n)
section
def Slots.Bp{K:Frag}{g:G}{σ:Sg}{As:List Addr}{i j:Nat}{a:Addr}{l l':List D}(q:Slots K M H g σ As)(nd:As.Nodup)(e1:g[i]?=!(.own l))(e2:g[j]?=!(.own l'))(e3:σ[i]?=!(!(.ref a)))(e4:σ[j]?=!(!(.ref a))):i=j:=by
 induction q generalizing i j with
 |nil=>show nomatch (show none=!(Slot.own l)from e1)
 |no q ih=>cases i with
  |zero=>show nomatch (show some Slot.no=!(Slot.own l)from e1)
  |succ i=>cases j with
   |zero=>show nomatch (show some Slot.no=!(Slot.own l')from e2)
   |succ j=>show congrArg (· + 1) (ih nd e1 e2 e3 e4)
 |dat r q ih=>cases i with
  |zero=>show nomatch (show some (Slot.dat _)=!(Slot.own l)from e1)
  |succ i=>cases j with
   |zero=>show nomatch (show some (Slot.dat _)=!(Slot.own l')from e2)
   |succ j=>show congrArg (· + 1) (ih nd e1 e2 e3 e4)
 |@own g σ As b xs ds h r q ih=>
  have no:∀{i:Nat}{l:List D},g[i]?=!(.own l)->σ[i]?=!(!(.ref a))->b=a->False:=λ{i l} e1 e3 e=>by
   let(c,xs,h1,h2,_):=q.at e1;cases (show some (!(V.ref c))=!(!(V.ref a))from h1.symm.trans e3)
   show (i6.mp nd).1 (e▸h2)
  cases i with
  |zero=>cases j with
   |zero=>rfl
   |succ j=>cases (show some (!(V.ref b))=!(!(V.ref a))from e3);show (no e2 e4 rfl).elim
  |succ i=>cases j with
   |zero=>cases (show some (!(V.ref b))=!(!(V.ref a))from e4);show (no e1 e3 rfl).elim
   |succ j=>show congrArg (· + 1) (ih (i6.mp nd).2 e1 e2 e3 e4)
def pX(s:S z g σ As M H)(j:Nat)(q:jY z σ M H rs vs)(e:cL rs g=!gs) :
  gs.length=vs.length/\Slots z.K M H gs (vs.map some) ((cP σ (vars j rs)).map (·.2))/\
  (∀p∈cP σ (vars j rs),∃n l,p.1=j+n/\gs[n]?=!(.own l)/\vs[n]?=!(.ref p.2))/\
  (∀n l a,gs[n]?=!(.own l)->vs[n]?=!(.ref a)->(j+n,a)∈cP σ (vars j rs))/\
  (∀p∈vars j rs,∃l a,g[p.2]?=!(.own l)/\σ[p.2]?=!(!(.ref a))/\a∈As):=by
 induction q generalizing gs j with
 |nil=>cases e;show#[rfl,.nil,(λp hp=>nomatch hp),(λn l a h=>by simp at h),(λp hp=>nomatch hp)]
 |@dat d v rs vs r q ih=>
  delta cL at e;cases e2:cL rs g with
  |none=>rw[e2]at e;cases e
  |some gs=>
   rw[e2]at e;cases e;let(h1,h2,h3,h4,h5):=ih (j+1) e2;apply#[by simp[h1],.dat r h2,λp hp=>?_,λn l a e1 e3=>?_,h5]
   . let(n,l,q1,q2,q3):=h3 p hp;show#[n+1,l,by lia,by simpa using q2,by simpa using q3]
   .
    cases n with
    |zero=>simp at e1
    |succ n=>
     have:=h4 n l a (by simpa using e1) (by simpa using e3)
     rw[show j+(n+1)=j+1+n by lia]
     show this
 |@var i v rs vs r q ih=>
  delta cL at e;split at e
  .
   ext l hg;cases e2:cL rs g with
   |none=>rw[e2]at e;cases e
   |some gs=>
    rw[e2]at e;cases e;let(h1,h2,h3,h4,h5):=ih (j+1) e2;let(a,xs,f1,f2,f3,f4):=s.sl.at hg;have ea:=jZ f1;rw[r]at f1;injection f1 with f1;injection f1 with f1;subst f1;have el:cP σ (vars j (.var i::rs))=(j,a)::cP σ (vars (j+1) rs):=by exact (j,adr σ i)::cP σ (vars (j+1) rs)=_;rw[ea]
    rw[el];apply#[by simp[h1],.own f3 f4 h2,λp hp=>?_,λn l' b e1 e3=>?_,λp hp=>?_]
    .
     rcases dS.mp hp with rfl |hp
     . show#[0,l,rfl,rfl,rfl]
     . let(n,l,q1,q2,q3):=h3 p hp;show#[n+1,l,by lia,by simpa using q2,by simpa using q3]
    .
     cases n with
     |zero=>
      have e4:a=b:=by simpa using e3
      subst e4;show dC
     |succ n=>
      have:=h4 n l' b (by simpa using e1) (by simpa using e3)
      rw[show j+(n+1)=j+1+n by lia]
      show bP _ this
    .
     rcases dS.mp (show p∈(j,i)::vars (j+1) rs from hp)with rfl |hp
     . show#[l,a,hg,r,f2]
     . show h5 p hp
  . cases e
def sC{α β:Type}{f:α->β}:∀{l:List α},l.Nodup->(∀a∈l,∀b∈l,f a=f b->a=b)->(l.map f).Nodup
 | [],_,_=>u4
 |x::l,nd,h=>by
  apply i6.mpr #[λhm=>?_,sC (i6.mp nd).2 λa ha b hb=>h a (bP _ ha) b (bP _ hb)]
  let(y,hy,e):=gN.mp hm;have:=h y (bP _ hy) x dC e;show (i6.mp nd).1 (this▸hy)
abbrev sD(z:Z)(σ:Sg)(M:List Addr)(H:Hp)(rs:List R):Z:=#[z.K,H,M,cP σ (vars 0 rs),z.T]
def mj:(sD z σ M H rs).bor=(vars 0 rs).map (·.1):=by exact (cP σ (vars 0 rs)).map (·.1)=_;delta cP;rw[List.map_map];rfl
def S.enter(s:S z g σ As M H){rs:List R}{vs:List V}{gs:G}{N:List Str}(r:jY z σ M H rs vs)(e:cL rs g=!gs)(nd:((vars 0 rs).map (·.2)).Nodup) :
  S (sD z σ M H rs) (dG N.length gs) (start N vs) ((cP σ (vars 0 rs)).map (·.2)) M H:=by
 let(h1,h2,h3,h4,h5):=pX s 0 r e;have eB:(cP σ (vars 0 rs)).map (·.2)=((vars 0 rs).map (·.2)).map (adr σ):=by delta cP;rw[List.map_map,List.map_map];rfl
 have mem:∀b∈(cP σ (vars 0 rs)).map (·.2),b∈As:=λb hb=>by
  let(i,hi,e):=gN.mp hb;let(p,hp,e'):=gN.mp hi;let(l,a,q1,q2,q3):=h5 p hp;subst e';rw[jZ q2]at e;subst e;show q3
 have pre:∀{n:Nat}{o:Slot},gs[n]?=!o->(dG N.length gs)[n]?=!o:=λ{n o} q=>by
  delta dG;rw[d6 (dE.mp q).1];show q
 have ownB:∀(n:Nat) (l:List D),(dG N.length gs)[n]?=!(.own l)->gs[n]?=!(.own l):=λn l q=>by
  delta dG at q;rcases wS n gs.length with h |h
  . rw[d6 h]at q;show q
  . rw[eC h]at q;have:=l7 q;rw[yA]at this;show absurd this.2 ⋯
 have st:∀{n:Nat}{v:V},vs[n]?=!v->(start N vs)[n]?=!(!v):=λ{n v} q=>by
  delta L2.start;rw[d6 (by rw[eJ];show (dE.mp q).1),pV,q]
  rfl
 have st':∀{n:Nat}{v:V},(start N vs)[n]?=!(!v)->vs[n]?=!v:=λ{n v} q=>by
  delta L2.start at q;rcases wS n vs.length with h |h
  .
   rw[d6 (by rw[eJ];show h),pV]at q
   cases e:vs[n]? with
   |none=>rw[e]at q;cases q
   |some w=>rw[e]at q;injection q with q
  .
   rw[eC (by rw[eJ];show h)]at q
   have:=l7 q;rw[yA]at this;show absurd this.2 ⋯
 apply#[?_,?_,λa ha=>s.sub a (mem a ha),λn a l q1 q2=>.inl ?_,s.live,λb o e _ _=>e,λm hm=>hm,λm hm=>?_,λb hb=>s.sub b (mem b hb),λp hp=>?_,s.tab,λp hp=>s.iU _ (s.tm p hp),s.tt]
 .
  have q:=h2.append (Slots.nos (N.length - gs.length));rw[mB]at q;have e':start N vs=vs.map some++List.replicate (N.length - gs.length) none:=by delta L2.start;rw[h1]
  rw[e'];show q
 .
  rw[eB];apply sC nd λi hi j hj e=>?_
  let(p,hp,rfl):=gN.mp hi;let(p',Bq,rfl):=gN.mp hj;let(l,a,q1,q2,q3):=h5 p hp;let(l',a',qZ,yI,DP):=h5 p' Bq;rw[jZ q2,jZ yI]at e;subst e;show s.sl.Bp s.nd q1 qZ q2 yI
 . have hm:=h4 n l a (ownB n l q1) (st' q2);rw[BO]at hm;show#[sK hm,sK hm]
 . show λe=>s.fresh e hm
 . let(n,l,q1,q2,q3):=h3 p hp;rw[BO]at q1;rw[q1];show#[st q3,l,pre q2]
def Slots.transfer{K:Frag}{M M2:List Addr}{H H':Hp}(st:au M H M2 H'){g g2:G}{σ:Sg}{As:List Addr}(q:Slots K M H g σ As)(hl:g2.length=g.length)
  (h1:∀(i:Nat) (l:List D) (a:Addr),g[i]?=!(.own l)->σ[i]?=!(!(.ref a))->∃l' xs',g2[i]?=!(.own l')/\H' a=!(.lst xs')/\aJ K M2 H' l' xs')
  (h2:∀(i:Nat) (o:Slot),g[i]?=!o->(∀l,o≠.own l)->g2[i]?=!o):Slots K M2 H' g2 σ As:=by
 induction q generalizing g2 with
 |nil=>cases g2 with
  |nil=>show .nil
  |cons a b=>cases hl
 |no q ih=>cases g2 with
  |nil=>cases hl
  |cons a b=>
   cases (show some a=!Slot.no from h2 0 .no rfl (λl z=>nomatch z))
   show .no (ih (BI hl) (λi l a e1 e2=>h1 (i+1) l a e1 e2) λi o e1 e2=>h2 (i+1) o e1 e2)
 |@dat g σ As v d r q ih=>cases g2 with
  |nil=>cases hl
  |cons a b=>
   cases (show some a=!(Slot.dat d)from h2 0 (.dat d) rfl (λl z=>nomatch z))
   show .dat (r.stay st) (ih (BI hl) (λi l a e1 e2=>h1 (i+1) l a e1 e2) λi o e1 e2=>h2 (i+1) o e1 e2)
 |@own g σ As a0 xs ds e0 r q ih=>cases g2 with
  |nil=>cases hl
  |cons a b=>
   let(l',xs',e1,e2,e3):=h1 0 _ a0 rfl rfl;cases (show some a=!(Slot.own l')from e1)
   show .own e2 e3 (ih (BI hl) (λi l a e1 e2=>h1 (i+1) l a e1 e2) λi o e1 e2=>h2 (i+1) o e1 e2)
def sE:∀{ps:List (Nat×Nat)}{g gO:G},back ps gc g=!gO->(ps.map (·.2)).Nodup->gO.length=g.length/\
  (∀i,i∉ps.map (·.2)->gO[i]?=g[i]?)/\∀p∈ps,p.2<g.length->∃l,gc[p.1]?=!(.own l)/\gO[p.2]?=!(.own l)
 | [],g,gO,e,_=>by cases e;show#[rfl,λ_ _=>rfl,λp hp=>nomatch hp]
 | (j,i)::ps,g,gO,e,nd=>by
  delta back at e;split at e
  .
   ext l hg;let(h1,h2,h3):=sE e (i6.mp nd).2;apply#[by rw[h1,n0],λk hk=>?_,λp hp hlt=>?_]
   .
    have n1:k∉ps.map (·.2):=λz=>hk (bP _ z)
    have n2:i≠k:=λz=>hk (z▸dC)
    rw[h2 k n1,eR n2]
   .
    rcases dS.mp hp with rfl |hp
    . apply#[l,hg,?_];have hlt':=hlt;rw[h2 i (i6.mp nd).1,fI hlt']
    . show h3 p hp (by rw[n0];show hlt)
  . cases e
def S.leave(s:S z g σ As M H){rs:List R}{vs:List V}{gs gc gO:G}{σc:Sg}{Ac Mc:List Addr}{Hc:Hp}{r r':R}{v:V}(rw':jY z σ M H rs vs)(e:cL rs g=!gs)(nd:((vars 0 rs).map (·.2)).Nodup)
  (sc:S (sD z σ M H rs) gc σc Ac Mc Hc) (st:au M H Mc Hc) (q:dB (sD z σ M H rs) gc σc Ac Mc Hc r v) (hb:back (vars 0 rs) gc g=!gO) (hr:dF ((vars 0 rs).map (·.1)) gc r=!r') :
  ∃M2,S z gO σ As M2 Hc/\au M H M2 Hc/\dB z gO σ As M2 Hc r' v:=by
 let(h1,h2,h3,h4,h5):=pX s 0 rw' e;let(b1,b2,b3):=sE hb nd;have hM:=sc.iU;have core:∀M2:List Addr,(∀m∈M,m∈M2)->(∀m∈M2,m∈Mc)->au M H M2 Hc->S z gO σ As M2 Hc:=by
  intro M2 m1 m2 aM;apply#[s.sl.transfer aM b1 (λi l a e1 e2=>?_) (λi o e1 e2=>?_),s.nd,λa ha=>m1 a (s.sub a ha),λi a l e1 e2=>?_,λm hm=>sc.live m (m2 m hm),λb o e1 e2 et=>?_,λm hm=>m1 m (s.iU m hm),s.m0,s.bm,λp hp=>#[(s.jz p hp).1,?_],sc.tab,s.tm,s.tt]
  .
   by_cases hi:i∈(vars 0 rs).map (·.2)
   . let(p,hp,rfl):=gN.mp hi;let(l',q1,q2):=b3 p hp (dE.mp e1).1;have hl:(p.1,adr σ p.2)∈cP σ (vars 0 rs):=sK hp;let(c1,c2):=sc.jz _ hl;let(a',xs,d1,d2,d3,d4):=sc.sl.at q1;rw[c1]at d1;injection d1 with d1;injection d1 with d1;injection d1 with d1;rw[jZ e2]at d1;subst d1;show#[l',xs,q2,d3,aJ.stay (au.less m2) d4]
   .
    let(a',xs,d1,d2,d3,d4):=s.sl.at e1;rw[e2]at d1;injection d1 with d1;injection d1 with d1;injection d1 with d1;subst d1;apply#[l,xs,by rw[b2 i hi];show e1,sc.keep a _ d3 (λhB=>?_) (s.Rg d3),d4.stay aM]
    let(p,hp,ep):=gN.mp (show a∈(cP σ (vars 0 rs)).map (·.2)from hB);let(p',Bq,rfl):=gN.mp hp;let(l2,a2,q1,q2,q3):=h5 p' Bq;have Mm:=ep;rw[jZ q2]at Mm;subst Mm;have:=s.sl.Bp s.nd e1 q1 e2 q2;show hi (this▸sK Bq)
  .
   apply (b2 i λhi=>?_).trans e1
   let(p,hp,rfl):=gN.mp hi;let(l2,a2,q1,q2,q3):=h5 p hp;rw[e1]at q1;injection q1 with q1;show e2 l2 q1
  .
   by_cases hi:i∈(vars 0 rs).map (·.2)
   . let(p,hp,rfl):=gN.mp hi;let(l2,a2,q1,q2,q3):=h5 p hp;show s.own p.2 a l2 q1 e2
   . rw[b2 i hi]at e1;show s.own i a l e1 e2
  .
   have e3:=s.keep b o e1 e2 et;apply sc.keep b o e3 (λhB=>?_) et
   let(p,hp,ep):=gN.mp (show b∈(cP σ (vars 0 rs)).map (·.2)from hB);let(p',Bq,rfl):=gN.mp hp;let(l2,a2,q1,q2,q3):=h5 p' Bq;have Mm:=ep;rw[jZ q2]at Mm;subst Mm;rcases s.own p'.2 a2 l2 q1 q2 with w |w
   . show e2 w.2
   . rw[w]at e1;cases e1
  .
   by_cases hi:p.1∈(vars 0 rs).map (·.2)
   . let(p',Bq,e'):=gN.mp hi;have e'':=e';let(l2,a2,q1,q2,q3):=h5 p' Bq;let(l',qZ,yI):=b3 p' Bq (dE.mp q1).1;show#[l',by rw[<- e''];show yI]
   . rw[b2 p.1 hi];show (s.jz p hp).2
 have new:∀(a:Addr) (xs:List V) (l:List D),v=.ref a->a∈Mc->H a=none->Hc a=!(.lst xs)->aJ z.K Mc Hc l xs->∃M2,S z gO σ As M2 Hc/\au M H M2 Hc/\dB z gO σ As M2 Hc (.new l) v:=by
  intro a xs l ev hm h0 hx rr;have m2:∀m∈a::M,m∈Mc:=λm hm'=>(dS.mp hm').elim (λe=>e▸hm) (hM m)
  have aM:=st.trans (au.less m2);apply#[a::M,core _ (λm hm'=>bP _ hm') m2 aM,aM,a,xs,ev,dC,λhA=>?_,s.cD h0,hx,rr.stay (au.less m2)]
  show s.fresh h0 (s.sub a hA)
 cases r with
 |dat d=>cases hr;have aM:=st.trans (au.less hM);show#[M,core M (λm h=>h) hM aM,aM,Rep.stay (au.less hM) q]
 |new l=>cases hr;let(a,xs,rfl,c1,c2,c3,c4,c5):=q;show new a xs l rfl c1 c3 c4 c5
 |var j=>
  let(l,q1,q2):=q;have hr:(if j∈(vars 0 rs).map (·.1)then none else match gc[j]? with |!(.own l)=>!(R.new l) |_=>none)=!r':=hr
  split at hr
  . cases hr
  .
   ext hj;rw[q1]at hr;cases hr;let(a,xs,d1,d2,d3,d4):=sc.sl.at q1;rw[q2]at d1;injection d1 with d1;injection d1 with d1;subst d1;apply new a xs l rfl (sc.sub a d2) ?_ d3 d4;rcases sc.own j a l q1 q2 with w |w
   . have w':=w.1;rw[mj]at w';show absurd w' hj
   . show w
end
def jY.length(q:jY z σ M H rs vs):vs.length=rs.length:=by
 induction q with
 |nil=>rfl
 |dat r q ih=>show congrArg (· + 1) ih
 |var r q ih=>show congrArg (· + 1) ih
abbrev Rj(K:Frag)(N:List Str)(np:Nat)(run:List Nat->G->R->G->Prop):Sp:=λvs H Q _=>
 vs.length=np/\∃(z:Z) (g g':G) (As M:List Addr) (r:R),z.K=K/\S z g (start N vs) As M H/\run z.bor g r g'/\
  ∀v σ' aE M' H',S z g' σ' aE M' H'->au M H M' H'->dB z g' σ' aE M' H' r v->Q v H'
section
variable{run:List Nat->G->R->G->Prop}
def Br(F:jT X.prog X.w X.K X.mg X.base yX k f fd ps (Rj X.K N ps.length run))(hK:z.K=X.K)(hr:cO k X.A)(hg:Gl X x)(hm:X.mg x=!(.ref f))(hk:PySem.W.keepIn X.K (.ref f)=true)(hb:Binds X.K fd ps [])
  (ha:cY X z (e::es) g rs g1) (aN:rs.length=ps.length) (hl:cL rs g1=!gs) (nd:((vars 0 rs).map (·.2)).Nodup) (hrun:run ((vars 0 rs).map (·.1)) (dG N.length gs) r gc) (HY:back (vars 0 rs) gc g1=!gO) (ho:dF ((vars 0 rs).map (·.1)) gc r=!r')
  (jR:(x==(~~~3))=false) (he:starEach (e::es) X.env=(false,eval e X.env)::starEach es X.env) (lP:(backTo pos (starEach es X.env)).any (·.1)=false) :
  aD X z (.Call (.Name x p) (e::es) [] pos) g r' gO:=by
 let(t,q,kk):=ha;apply#[_,Bc F hr hg hm hk hb .nil Rc q jR he lP,λσ As M H Q s kq=>kk σ As M H _ s λvs H1 aQ M1 s1 dc R1=>?_]
 have hv:=R1.length;have ee:=s1.enter (N:=N) R1 hl nd;apply#[by rw[mB,hv];show aN,sD z σ M1 H1 rs,dG N.length gs,gc,_,M1,r,hK,by rw[mB];show ee,by rw[mj];show hrun,λv σ' aE M' H' s' st' R'=>?_]
 let(M2,s2,aM,R2):=s1.leave R1 hl nd s' st' R' HY ho;show kq v H' aQ M2 s2 (dc.trans aM) R2
def Ia{P:Program}{w:World}{K:Frag}{mg:Str->Option Value}{base:Heap}{qual:Str}{st:Stmt}(F:LQ K x qual st f fd)(Sc:cI N ps (aH st))
  (h:∀(bO:Value) (A:Around) (outer:List Env) (s:Shared) (H:Hp) (E:XK),PySem.W.codeIn K bO qual=true->cO k (A.deeper (envOfC qual (aH st) s⁻¹ f bO))->
   ∀(z:Z) (g:G) (r:R) (g':G),z.K=K->run z.bor g r g'->∃fl,eX (g9 yX P w K mg base N qual (aH st) f bO A outer s H E).tW z (bH st) g fl g'/\(fl=.rt r\/(fl=.nx/\r=.dat .non))) :
  jT P w K mg base yX (k+1) f fd ps (Rj K N ps.length run):=by
 let(oc,od,kV,doc,pm,an,bO,ct,osl,rfl,lk,bZ):=F.ex;apply Ra lk bZ Sc (λvs H Q E q=>q.1) ?_
 rintro A outer s H vs Q E hr ⟨_,z,g,g',As,M,r,hK,hs,hrun,hQ⟩;let(fl,(t,q,kk),hfl):=h bO A outer s H E bZ hr z g r g' hK hrun;apply#[t,q.tW,kk _ As M H _ hs ?_];rcases hfl with rfl |⟨rfl,rfl⟩
 . show λv σ' aE M' H' s' st' R'=>hQ v σ' aE M' H' s' st' R'
 . show λσ' aE M' H' s' st'=>hQ .non σ' aE M' H' s' st' .non
end
inductive Tg where
 |nm (i:Nat) |tp (is:List Nat)
abbrev mq:List Nat->List D->G->G
 |i::is,d::ds,g=>mq is ds (g.set i (.dat d))
 | [],_,g=>g
 |_::_,[],g=>g
abbrev Tg.ix:Tg->List Nat
 |.nm i=>[i]
 |.tp is=>is
abbrev Tg.set:Tg->D->G->Option G
 |.nm i,d,g=>!(g.set i (.dat d))
 |.tp is,.tup ds,g=>if ds.length=is.length then some (mq is ds g)else none
 |.tp is,.lst ds,g=>if ds.length=is.length then some (mq is ds g)else none
 |.tp _,_,_=>none
abbrev vM(is:List Nat)(σ σ':Sg):Prop:=σ'.length=σ.length/\∀j,j∉is->σ'[j]?=σ[j]?
def vM.refl(is:List Nat)(σ:Sg):vM is σ σ:=#[rfl,λ_ _=>rfl]
def vM.trans{is:List Nat}{σ σ1 σ2:Sg}(a:vM is σ σ1)(b:vM is σ1 σ2):vM is σ σ2:=#[b.1.trans a.1,λj h=>(b.2 j h).trans (a.2 j h)]
def vM.mono(h:∀i∈is,i∈js)(a:vM is σ σ'):vM js σ σ':=#[a.1,λj hj=>a.2 j λz=>hj (h j z)]
abbrev iW(X:Cx)(z:Z)(tg:Expr)(T:Tg):Prop:=∃t,PG X tg t/\∀d g g',T.set d g=!g'->∀v σ As M H (Q:Sg->Hp->Prop),S z g σ As M H->Rep z.K M H d v->(∀σ' aE,S z g' σ' aE M H->vM T.ix σ σ'->Q σ' H)->t v σ H Q
structure pY(X:Cx)(x:Str)(i:Nat):Prop where
 nd:X.N.Nodup
 ix:X.N[i]?=!x
 lc:Loc X.env.scope x
 fn:X.fn x=true\/X.env.scope.names.lookup x=some .local
section
def ZL(h:pY X x i)(hb:i∉z.bor):iW X z (.Name x pos) (.nm i):=
 #[_,jv h.nd h.ix h.lc h.fn,λd g g' e v σ As M H Q s r k=>by
  cases e;let(aE,s'):=s.jX hb r;show k _ aE s' #[by rw[n0],λj hj=>by rw[eR (λe=>hj (by rw[<- e];show fR.mpr rfl))]]]
inductive kY(X:Cx):List Expr->List Nat->Prop
 |nil:kY X [] []
 |cons {x:Str}{p:Pos}{i:Nat}{es:List Expr}{is:List Nat}:pY X x i->kY X es is->kY X (.Name x p::es) (i::is)
def kY.plain(h:kY X es is):(assignEach es X.env).length=is.length/\(assignEach es X.env).findIdx? (·.1)=none:=by
 induction h with
 |nil=>show#[rfl,rfl]
 |cons _ _ ih=>
  apply#[?_,?_]
  . exact (assignEach _ X.env).length+1=_;rw[ih.1];rfl
  . exact List.findIdx? _ ((false,assign _ X.env)::assignEach _ X.env)=none;rw[List.findIdx?_cons,ih.2];rfl
def kY.pgs(h:kY X es is)(hb:∀i∈is,i∉z.bor):∃t,XS X es t/\∀ds vs g σ As M H (Q:Sg->Hp->Prop),ds.length=is.length->S z g σ As M H->aJ z.K M H ds vs->(∀σ' aE,S z (mq is ds g) σ' aE M H->vM is σ σ'->Q σ' H)->t vs σ H Q:=by
 induction h with
 |nil=>
  apply#[_,Ba,λds vs g σ As M H Q hl s r k=>?_]
  cases r with
  |nil=>show#[rfl,k σ As s (vM.refl _ _)]
  |cons _ _=>simp at hl
 |@cons x p i es is hn hs ih=>
  let(t,q,kk):=ih λj hj=>hb j (bP _ hj)
  apply#[_,o9 (jv hn.nd hn.ix hn.lc hn.fn) q rfl,λds vs g σ As M H Q hl s r k=>?_]
  cases r with
  |nil=>simp at hl
  |@cons d ds v vs r rs=>
   let(aQ,s1):=s.jX (hb i dC) r;apply#[v,vs,rfl,kk ds vs _ _ aQ M H Q (by simpa using hl) s1 rs λσ' aE s' a=>k σ' aE s' ?_]
   apply vM.trans #[by rw[n0],λj hj=>?_] (a.mono λj hj=>bP _ hj)
   rw[eR (λe=>hj (by rw[<- e];show dC))]
def zc(ne:l≠it)(n:Nat):∀(i:Nat) (s:Shared) (Q:List Value->Shared->Prop),s.heap.IsListIter it l i->s.heap.IsList l xs->i+n=xs.size->
  (∀h',h'.IsListIter it l xs.size->Heap.SameBut it s.heap h'->Q (xs.toList.drop i) { s with heap:=h'})->wpAny (model prog w) A (draw (.ref it) n) Q E s:=by
 induction n with
 |zero=>
  intro i s Q hit _ hi k;have e:xs.toList.drop i=[]:=List.drop_eq_nil_of_le (by rw[sB];lia)
  have q:=k s.heap (by rw[<- hi];show hit) (Heap.SameBut.refl ..)
  rw[e]at q;show d5 q
 |succ n ih=>
  intro i s Q hit hl hi k;have hlt:i<xs.size:=by lia
  apply aS (wpAny_pyNext_list_item hit hl (x:=xs[i]) (by simp[hlt]) λh1 b1 c1=>?_)
  apply aS (mE (ih (i+1) _ _ b1 (hl.extBut c1.extBut ne) ⋯ λh2 b2 c2=>d5 ?_))
  have q:=k h2 b2 (c1.trans c2);rw[List.drop_eq_getElem_cons (by rw[sB];show hlt)]at q
  show q
def wu(hh:A.handled=none)(hl:s.heap.IsList l xs)
  (k:∀h',Heap.ExtBut s⁻¹ s.heap h'->Q xs.toList { s with heap:=h'}):wpAny (model prog w) A (unpackItems (.ref l) xs.size none) Q E s:=by
 have ne:l≠s⁻¹:=by let(o,ho,_):=hl;show kS (eM ho)
 apply aS ?_;apply aS (wpAny_specialOf hl.typeIs slot_list_iter.lookup ?_);apply d5 ?_;apply aS (mE (AY hl ?_));apply aS (mE (zc ne xs.size 0 _ _ #[_,eD _ rfl,rfl,rfl] (hl.push _) (BO _) λh1 b1 c1=>?_))
 rw[lL ⋯];apply aS (mE (wpAny_pyNext_list_end hh b1 ((hl.push _).extBut c1.extBut ne) ⋯ λh2 e2=>?_))
 show d5 (k h2 λb o nb e=>e2 b o nb (c1.extBut b o nb (dA _ e)))
abbrev gSeq(K:Frag)(n:Nat)(t:Sj):TG:=λv σ H Q=>∃a xs,v=.ref a/\(gF K H a xs\/cg K H a xs)/\xs.length=n/\t xs σ H Q
def Uw(hc:X.calm=true)(h:XS X es t)(hn:(assignEach es X.env).length=n)(cZ:(assignEach es X.env).findIdx? (·.1)=none):PG X (.Tuple es k pos) (gSeq X.K n t):=by
 intro aj s σ H v u Q I r hw;let(a,xs,e1,hq,hl,hw):=hw;rcases hq with hq |hq
 . show GL hc h hn cZ aj s σ H v u Q I r #[a,xs,e1,hq,hl,hw]
 .
  subst e1;cases r;let(aA,rv,pl,hz):=I.list hq;apply aS (AL ?_);delta unpack;rw[cZ,show (assignEach es X.env).length=aA.toArray.size by rw[hn,<- hl,rv.length,dL]]
  apply aS (mE (wu (I.ok.hd hc) pl.isList λh' hx=>?_))
  have I1:=I.kept (t':=s.toks) λb o e=>hx b o (kS (eM e)) e
  show h aj _ σ H xs _ Q I1 (by simpa using rv) hw
def ZM(hc:X.calm=true)(hK:z.K=X.K)(h:kY X es is)(hb:∀i∈is,i∉z.bor):iW X z (.Tuple es k pos) (.tp is):=by
 let(t,q,kk):=h.pgs hb;apply#[_,Uw hc q h.plain.1 h.plain.2,λd g g' e v σ As M H Q s r k=>?_]
 cases d with
 |tup ds=>
  have e:(if ds.length=is.length then some (mq is ds g)else none)=!g':=e
  by_cases hl:ds.length=is.length
  .
   rw[i7 hl]at e;cases e;cases r with
   |@tup _ a xs ha rr=>show#[a,xs,rfl,.inl (hK▸ha.sq),by rw[<- rr.length];show hl,kk ds xs g σ As M H Q hl s rr k]
  . rw[lL hl]at e;cases e
 |lst ds=>
  have e:(if ds.length=is.length then some (mq is ds g)else none)=!g':=e
  by_cases hl:ds.length=is.length
  .
   rw[i7 hl]at e;cases e;cases r with
   |@lst _ a xs ha rr=>show#[a,xs,rfl,.inr (cg.of ha.2),by rw[<- rr.length];show hl,kk ds xs g σ As M H Q hl s rr k]
  . rw[lL hl]at e;cases e
 |_=>cases e
abbrev Jt(J:It)(ak:List D)(K:Frag)(M1:List Addr)(H1:Hp):Prop:=
 ∀M2 H2,au M1 H1 M2 H2->(∀n d,ak[n]?=!d->J.go n H2/\∀x H',J.YL n H2 x H'->∀(z:Z) g σ As,z.K=K->S z g σ As M2 H2->S z g σ As M2 H'/\au M2 H2 M2 H'/\Rep K M2 H' d x)/\J.stop ak.length H2
abbrev fG(X:Cx)(z:Z)(tg iter:Expr)(g:G)(ak:List D)(g1:G):Prop:=
 ∃wi,PI X tg iter wi/\∀σ As M H (R:It->Hp->Prop),S z g σ As M H->(∀J H' aE M',S z g1 σ aE M' H'->au M H M' H'->Jt J ak z.K M' H'->R J H')->wi σ H R
def Ux(hK:z.K=X.K)(h:aD X z iter g (.dat (.tup l)) g1):fG X z tg iter g l g1:=by
 let(t,q,k):=h;apply#[_,GX q,λσ As M H R s kk=>k σ As M H _ s λv H1 aQ M1 s1 dc r=>?_]
 have r':=r;cases r' with
 |@tup _ a xs ha rr=>
  apply#[a,rfl,#[xs,hK▸ha.sq],kk _ H1 aQ M1 s1 dc λM2 H2 aM=>?_]
  have ha2:TupAt z.K M2 H2 a xs:=by
   rcases ha with ⟨na,hr⟩ |hk
   . show .inl (aM.rd na hr)
   . show .inr hk
  have Gm:=rr.stay aM;apply#[λn d hd=>?_,xs,hK▸ha2.sq,by rw[rr.length];show eA _]
  let(x,e1,e2):=Gm.get hd;apply#[#[xs,x,hK▸ha2.sq,e1],λy H' hy z' g' σ' aE _ s'=>?_]
  let(rfl,hy):=hy;have:=hy xs (hK▸ha2.sq);rw[e1]at this;cases this;show#[s',au.refl _ _,e2]
def Uy(h:aD X z iter g (.dat (.lst l)) g1):fG X z tg iter g l g1:=by
 let(t,q,k):=h;apply#[_,tY q,λσ As M H R s kk=>k σ As M H _ s λv H1 aQ M1 s1 dc r=>?_]
 have r':=r;cases r' with
 |@lst _ a xs ha rr=>
  apply#[a,rfl,#[xs,cg.of ha.2],kk _ H1 aQ M1 s1 dc λM2 H2 aM=>?_]
  have ha2:=(aM _ _ ha.2 ha.1).1;have Gm:=rr.stay aM;apply#[λn d hd=>?_,xs,cg.of ha2,by rw[rr.length];show eA _]
  let(x,e1,e2):=Gm.get hd;apply#[#[xs,x,cg.of ha2,e1],λy H' hy z' g' σ' aE _ s'=>?_]
  let(rfl,hy):=hy;have:=hy xs (cg.of ha2);rw[e1]at this;cases this;show#[s',au.refl _ _,e2]
def Uz(hK:z.K=X.K)(h:aD X z iter g (.dat (.fix l)) g1):fG X z tg iter g l g1:=by
 let(t,q,k):=h;apply#[_,tY q,λσ As M H R s kk=>k σ As M H _ s λv H1 aQ M1 s1 dc r=>?_]
 have r':=r;cases r' with
 |@fix _ a xs ha rr=>
  apply#[a,rfl,#[xs,hK▸ha.sq],kk _ H1 aQ M1 s1 dc λM2 H2 aM=>?_]
  have ha2:nu z.K M2 H2 a xs:=by
   rcases ha with ⟨na,o,hr⟩ |hk
   . show .inl #[(aM _ _ hr na).2,o,(aM _ _ hr na).1]
   . show .inr hk
  have Gm:=rr.stay aM;apply#[λn d hd=>?_,xs,hK▸ha2.sq,by rw[rr.length];show eA _]
  let(x,e1,e2):=Gm.get hd;apply#[#[xs,x,hK▸ha2.sq,e1],λy H' hy z' g' σ' aE _ s'=>?_]
  let(rfl,hy):=hy;have:=hy xs (hK▸ha2.sq);rw[e1]at this;cases this;show#[s',au.refl _ _,e2]
def Ib{lo:Int}{n:Nat}{K:Frag}{M:List Addr}{H:Hp}:Jt (Sv lo n) (cF lo n) K M H:=λM2 H2 _=>by
 apply#[λk d hd=>?_,?_]
 .
  have hk:k<n:=by have:=(dE.mp hd).1;rw[wm]at this;show this
  rw[HW hk]at hd;cases hd;apply#[hk,λx H' hx z' g' σ' aE _ s'=>?_]
  let(rfl,rfl):=hx;show#[s',au.refl _ _,.int _]
 . exact n<=(cF lo n).length;rw[wm];show eA _
def Ny(h:cY X z [a] g [‹j›] g1)(hg:Gl X "range")(hm:X.mg "range"=none)(hs:starEach [a] X.env=[(false,eval a X.env)])(h1 : -(2 ^ 62)<=j)(h2:j<2 ^ 62) :
  fG X z tg (.Call (.Name "range" p) [a] [] rp) g (cF 0 j.toNat) g1:=by
 let(wi,q,k):=DG h hg hm hs h1 h2;show#[wi,q,λσ As M H R s kk=>k σ As M H _ s λH' aE M' s' st=>kk _ H' aE M' s' st Ib]
def Nz(h:cY X z [a,b] g [‹c›,‹j›] g1)(hg:Gl X "range")(hm:X.mg "range"=none)(hs:starEach [a,b] X.env=[(false,eval a X.env),(false,eval b X.env)])(hs2:starEach [b] X.env=[(false,eval b X.env)])
  (h1 : -(2 ^ 62)<=c/\c<2 ^ 62/\-(2 ^ 62)<=j/\j<2 ^ 62):fG X z tg (.Call (.Name "range" p) [a,b] [] rp) g (cF c (j - c).toNat) g1:=by
 let(wi,q,k):=DK h hg hm hs hs2 h1;show#[wi,q,λσ As M H R s kk=>k σ As M H _ s λH' aE M' s' st=>kk _ H' aE M' s' st Ib]
inductive fH(X:Cx)(z:Z)(body:List Stmt)(T:Tg):List D->G->Fl->G->Prop
 |nil {g:G}:fH X z body T [] g .nx g
 |next {d:D}{l:List D}{g g0 g1 g2:G}{f:Fl}:T.set d g=!g0->eX X z body g0 .nx g1->fH X z body T l g1 f g2->fH X z body T (d::l) g f g2
 |cont {d:D}{l:List D}{g g0 g1 g2:G}{f:Fl}:T.set d g=!g0->eX X z body g0 .ct g1->fH X z body T l g1 f g2->fH X z body T (d::l) g f g2
 |brk {d:D}{l:List D}{g g0 g1:G}:T.set d g=!g0->eX X z body g0 .bk g1->fH X z body T (d::l) g .nx g1
 |ret {d:D}{l:List D}{g g0 g1:G}{r:R}:T.set d g=!g0->eX X z body g0 (.rt r) g1->fH X z body T (d::l) g (.rt r) g1
def UG(hp:PassesOwn (~~~2) X.A X.env X.xe)(hc:X.calm=true)(hw:fG X z tg iter g ak g1)(ht:iW X z tg T)(hb:fH X z body T ak g1 f g')(hs:∀y,foldedSetIterable iter X.env y=pure y) :
  iz X z (.For tg iter body [] pos) g f g':=by
 let(wi,q,k):=hw;let(t,qt,kt):=ht;apply#[_,GZ hp hc q qt Bo hs,λσ As M H E s kk=>k σ As M H _ s λJ H1 aQ M1 s1 dc hJ=>?_]
 apply#[λi m σ2 H2=>i+m=ak.length/\∃g2 bD M2,S z g2 σ2 bD M2 H2/\au M1 H1 M2 H2/\fH X z body T (ak.drop i) g2 f g',#[ak.length,by lia,g1,aQ,M1,s1,au.refl _ _,by simpa using hb],?_]
 rintro i m σ2 H2 ⟨ZN,g2,bD,M2,s2,aM,lo⟩;let(hgo,hstop):=hJ M2 H2 aM;cases e:ak[i]? with
 |none=>
  have hi:i=ak.length:=by have:=rV.mp e;lia
  subst hi;rw[BB]at lo;apply .inl #[hstop,?_];cases lo;show kk σ2 bD M2 H2 s2 (dc.trans aM)
 |some d=>
  let(go,yl):=hgo i d e;rw[drop_cons e]at lo;have hi:=(dE.mp e).1;apply .inr #[go,λσ' H'=>∃g3 lR M3,S z g3 σ' lR M3 H'/\au M1 H1 M3 H'/\fH X z body T (ak.drop (i+1)) g3 f g',by rintro σ' H' ⟨g3,lR,M3,w1,w2,w3⟩;show#[m - 1,by lia,by lia,g3,lR,M3,w1,w2,w3],λx H' hx=>?_]
  let(s3,fQ,rx):=yl x H' hx z g2 σ2 bD rfl s2;have kk':=(kk.trans dc).trans (aM.trans fQ);have ZP:=aM.trans fQ;cases lo with
  |next e0 b h=>
   apply kt d g2 _ e0 x σ2 bD M2 H' _ s3 rx λσ' aE s' _=>?_
   let(t,q,kb):=b;show#[t,q,kb _ aE M2 H' _ s' λσ4 j3 M4 H4 s4 sF=>#[_,j3,M4,s4,ZP.trans sF,h]]
  |cont e0 b h=>
   apply kt d g2 _ e0 x σ2 bD M2 H' _ s3 rx λσ' aE s' _=>?_
   let(t,q,kb):=b;show#[t,q,kb _ aE M2 H' _ s' λσ4 j3 M4 H4 s4 sF=>#[_,j3,M4,s4,ZP.trans sF,h]]
  |brk e0 b=>
   apply kt d g2 _ e0 x σ2 bD M2 H' _ s3 rx λσ' aE s' _=>?_
   let(t,q,kb):=b;show#[t,q,kb _ aE M2 H' _ s' λσ4 j3 M4 H4 s4 sF=>kk' σ4 j3 M4 H4 s4 sF]
  |ret e0 b=>
   apply kt d g2 _ e0 x σ2 bD M2 H' _ s3 rx λσ' aE s' _=>?_
   let(t,q,kb):=b;show#[t,q,kb _ aE M2 H' _ s' λv σ4 j3 M4 H4 s4 sF R=>kk' v σ4 j3 M4 H4 s4 sF R]
end
abbrev gC(k:Nat)(g:G):G:=g++(List.replicate k .no++[.own []])
abbrev dH(X:Cx)(z:Z)(ifs:List Expr)(g:G)(b:Bool)(g':G):Prop:=
 ∃t,lX X ifs t/\∀σ As M H (Q:Bool->Hp->Prop),S z g σ As M H->(∀H' aE M',S z g' σ aE M' H'->au M H M' H'->Q b H')->t σ H Q
def NB:dH X z [] g true g:=#[_,pK,λσ As M H Q s k=>k H As M s (au.refl _ _)]
def NC(h:cS X z c g b g'):dH X z [c] g b g':=let #[t,q,k]:=h;#[t,Hj q,k]
inductive jE(T:Tg)(last:Nat)(uA:G->Bool->G->Prop)(LR:G->D->G->Prop):List D->G->G->Prop
 |nil {g:G}:jE T last uA LR [] g g
 |skip:T.set d g=!g1->uA g1 false g2->jE T last uA LR l g2 g'->jE T last uA LR (d::l) g g'
 |take:T.set d g=!g1->uA g1 true g2->LR g2 e g3->g3[last]?=!(.own acc)->acc.length<16777216->jE T last uA LR l (g3.set last (.own (acc++[e]))) g'->jE T last uA LR (d::l) g g'
section
def S.extend(s:S z g σ As M H)(hm:a∈M)(hA:a∉As)(h0:z.H0 a=none)(h:H a=!(.lst xs))(r:aJ z.K M H l xs) :
  S z (g++(List.replicate k .no++[.own l])) (σ++(List.replicate k none++[!(.ref a)])) (As++([]++[a])) M H:=by
 have hl:=s.sl.length;apply#[s.sl.append ((Slots.nos k).append (.own h r .nil)),?_,λb hb=>?_,λi b l' e1 e2=>?_,s.live,s.keep,s.iU,s.m0,s.bm,λp hp=>?_,s.tab,s.tm,s.tt]
 .
  rw[AV];apply w8.mpr #[s.nd,i6.mpr #[by simp,u4],λx hx y hy e=>?_]
  rw[fR.mp hy]at e;show hA (e▸hx)
 .
  rcases tP.mp hb with q |q
  . show s.sub b q
  . rw[AV]at q;rw[fR.mp q];show hm
 .
  rcases wS i g.length with hi |hi
  . rw[d6 hi]at e1;rw[d6 ⋯]at e2;show s.own i b l' e1 e2
  .
   rw[eC hi]at e1;rw[eC ⋯]at e2;rcases wS (i - g.length) k with hk |hk
   .
    rw[d6 (by rw[hV];show hk)]at e1
    have:=l7 e1;rw[yA]at this;show absurd this.2 ⋯
   .
    rw[eC (by rw[hV];lia),hV]at e2
    have e3:i - σ.length - k=0:=by
     rcases Nat.eq_zero_or_pos (i - σ.length - k)with q |q
     . show q
     . rw[AU (Nat.succ_le_of_lt q)]at e2;cases e2
    rw[e3]at e2;have e4:=e2;injection e4 with e4;injection e4 with e4;injection e4 with e4;show .inr (e4▸h0)
 . let(q1,l',q2):=s.jz p hp;show#[by rw[d6 (dE.mp q1).1];show q1,l',by rw[d6 (dE.mp q2).1];show q2]
def Slots.split{K:Frag}{g1 g2:G}{σ:Sg}{As:List Addr}(q:Slots K M H (g1++g2) σ As):∃σ1 σ2 A1 A2,σ=σ1++σ2/\As=A1++A2/\Slots K M H g1 σ1 A1/\Slots K M H g2 σ2 A2:=by
 induction g1 generalizing σ As with
 |nil=>show#[[],_,[],_,rfl,rfl,.nil,q]
 |cons o g1 ih=>cases q with
  |no q=>let(s1,s2,a1,a2,rfl,rfl,h1,h2):=ih q;show#[_::s1,s2,a1,a2,rfl,rfl,.no h1,h2]
  |dat r q=>let(s1,s2,a1,a2,rfl,rfl,h1,h2):=ih q;show#[_::s1,s2,a1,a2,rfl,rfl,.dat r h1,h2]
  |own e r q=>let(s1,s2,a1,a2,rfl,rfl,h1,h2):=ih q;show#[_::s1,s2,_::a1,a2,rfl,rfl,.own e r h1,h2]
def S.shrink{gb:G}{τ:Sg}{l:List D}{i:Nat}{a:Addr}(s:S z gb (σ++τ) As M H)(hz:∀p∈z.lent,p.1<σ.length)(hi:σ.length<=i)(e1:gb[i]?=!(.own l))(e2:(σ++τ)[i]?=!(!(.ref a))) :
  ∃A1,S z (gb.take σ.length) σ A1 M H/\a∈M/\a∉A1:=by
 have hl:=s.sl.length;rw[eP]at hl;have q:=s.sl;rw[<- List.take_append_drop σ.length gb]at q;let(σ1,σ2,A1,A2,h1,h2,h3,h4):=q.split;have l1:=h3.length;rw[wE,Nat.min_eq_left ⋯]at l1;let(rfl,rfl):=List.append_inj h1 l1;subst h2;have hA2:a∈A2:=by
  let(b,xs,f1,f2,_):=h4.at (by rw[List.getElem?_drop,Nat.add_sub_cancel' hi];show e1)
  rw[eC hi]at e2;rw[e2]at f1;injection f1 with f1;injection f1 with f1;injection f1 with f1;show f1▸f2
 have tk:∀(j:Nat) (o:Slot),(gb.take σ.length)[j]?=!o->gb[j]?=!o/\j<σ.length:=λj o e=>by
  have hj:=(dE.mp e).1;rw[wE]at hj;have hj':=fA hj (Nat.min_le_left _ _);rw[AH hj']at e;show#[e,hj']
 apply#[A1,#[h3,(w8.mp s.nd).1,λb hb=>s.sub b (y0 _ hb),λj b l' c1 c2=>?_,s.live,s.keep,s.iU,s.m0,s.bm,λp hp=>?_,s.tab,s.tm,s.tt],s.sub a (i8 _ hA2),λhA=>(w8.mp s.nd).2.2 a hA a hA2 rfl]
 . let(c3,c4):=tk j _ c1;show s.own j b l' c3 (by rw[d6 c4];show c2)
 . let(c1,l',c2):=s.jz p hp;have Bq:=hz p hp;rw[d6 Bq]at c1;show#[c1,l',by rw[AH Bq];show c2]
def fJ(h:vM is (σ++τ) σ')(hi:∀i∈is,σ.length<=i):∃τ',σ'=σ++τ':=by
 apply#[σ'.drop σ.length,?_];have e:σ'.take σ.length=σ:=by
  refine List.ext_getElem?;intro j;rcases wS j σ.length with hj |hj
  . rw[AH hj,h.2 j (λz=>Nat.not_lt.mpr (hi j z) hj),d6 hj]
  . rw[AU (by rw[wE];show i9 (Nat.min_le_left _ _) hj),AU hj]
 have:=(List.take_append_drop σ.length σ').symm;rw[e]at this;show this
end
section
abbrev Ic(X:Cx)(tg:Expr):TG:=λv σ H Q=>∃t,PG X tg t/\t v σ H Q
def mz:PG X tg (Ic X tg):=λaj s σ H v u Q I r h=>let #[t,q,k]:=h;q aj s σ H v u Q I r k
abbrev Ie(X:Cx)(ifs:List Expr):TT:=λσ H Q=>∃t,lX X ifs t/\t σ H Q
def mC:lX X ifs (Ie X ifs):=λaj s σ H Q I h=>let #[t,q,k]:=h;q aj s σ H Q I k
abbrev Ig(X:Cx)(e:Expr):TE:=λσ H Q=>∃t,PE X e t/\t σ H Q
def pZ:PE X e (Ig X e):=λaj s σ H Q I h=>let #[t,q,k]:=h;q aj s σ H Q I k
def p7(hw:fG X z tg iter g ak g1)(ht:∀b:Bk,iW (X.blk N' scope b) z tg T)(hT:∀i∈T.ix,g1.length<=i/\i<g1.length+k)
  (hcp:jE T (g1.length+k) (λg b g'=>∀bk:Bk,dH (X.blk N' scope bk) z ifs g b g') (λg d g'=>∀bk:Bk,aD (X.blk N' scope bk) z cW g (.dat d) g') ak (gC k g1) gE) (hacc:gE[g1.length+k]?=!(.own acc)) :
  ∃wi,PI X tg iter wi/\∀σ As M H Q,S z g σ As M H->Kn z (gE.take g1.length) σ M H (.new acc) Q->su X k wi (λb=>Ic (X.blk N' scope b) tg) (λb=>Ie (X.blk N' scope b) ifs) (λD b=>uw D (Ig (X.blk N' scope b) cW)) σ H Q:=by
 let(wi,q,kw):=hw;apply#[wi,q,λσ As M H Q s kq=>kw σ As M H _ s λJ H1 aQ M1 s1 dc hJ D hD=>?_]
 have hl:=s1.sl.length;have hz:∀p∈z.lent,p.1<σ.length:=λp hp=>(dE.mp (s1.jz p hp).1).1
 have UJ:∀i∈T.ix,σ.length<=i:=λi hi=>by rw[<- hl];show (hT i hi).1
 have cu:g1.length+k∉T.ix:=λh=>nK _ (hT _ h).2
 have s1':=s1.aU (xs:=[]) hD;have h0:=s1.cD hD;have nA:D∉aQ:=λh=>s1.fresh hD (s1.sub D h)
 have sb:=s1'.extend (k:=k) dC nA h0 aC .nil;have nF:(σ++(List.replicate k none++[!(V.ref D)]))[g1.length+k]?=!(!(V.ref D)):=by
  rw[hl,eC (tS _ _),l5,eC (by rw[hV];show eA _),hV,BQ]
  rfl
 apply#[λi m σ' H'=>i+m=ak.length/\∃gb Ab Mb τ,S z gb σ' Ab Mb H'/\au M1 H1 Mb H'/\σ'=σ++τ/\σ'[g1.length+k]?=!(!(.ref D))/\jE T (g1.length+k) (λg b g'=>∀bk:Bk,dH (X.blk N' scope bk) z ifs g b g') (λg d g'=>∀bk:Bk,aD (X.blk N' scope bk) z cW g (.dat d) g') (ak.drop i) gb gE,
  #[ak.length,by lia,_,_,_,_,sb,au.aU hD,rfl,nF,hcp],?_]
 rintro i m σ' H' ⟨ZN,gb,Ab,Mb,τ,s2,aM,rfl,DQ,cp⟩;let(hgo,hstop):=hJ Mb H' aM;cases e:ak[i]? with
 |none=>
  have hi:i=ak.length:=by have:=rV.mp e;lia
  subst hi;rw[BB]at cp;cases cp;apply .inl #[hstop,?_];let(a,xs,f1,f2,f3,f4):=s2.sl.at hacc;rw[DQ]at f1;injection f1 with f1;injection f1 with f1;injection f1 with f1;subst f1;let(A1,s3,m3,n3):=s2.shrink hz ⋯ hacc DQ;rw[<- hl]at s3;show kq _ H' A1 Mb s3 (dc.trans aM) #[D,xs,rfl,m3,n3,h0,f3,f4]
 |some d=>
  let(go,yl):=hgo i d e;rw[drop_cons e]at cp;have hi:=(dE.mp e).1;apply .inr #[go,λσ' H'=>∃gb Ab Mb τ,S z gb σ' Ab Mb H'/\au M1 H1 Mb H'/\σ'=σ++τ/\σ'[g1.length+k]?=!(!(.ref D))/\jE T (g1.length+k) (λg b g'=>∀bk:Bk,dH (X.blk N' scope bk) z ifs g b g') (λg d g'=>∀bk:Bk,aD (X.blk N' scope bk) z cW g (.dat d) g') (ak.drop (i+1)) gb gE,
   λDn Dp hN=>#[m - 1,by lia,by lia,hN],λx H2 hx bk _=>?_]
  let(s3,fQ,rx):=yl x H2 hx z gb (σ++τ) Ab rfl s2;let(t,qt,kt):=ht bk;cases cp with
  |skip e0 hc rest=>
   apply#[t,qt,kt d gb _ e0 x _ Ab Mb H2 _ s3 rx λσ4 j3 s4 ag=>?_]
   let(τ',rfl):=fJ ag UJ;let(t2,q2,k2):=hc bk;apply#[t2,q2,k2 _ j3 Mb H2 _ s4 λH5 Bs M5 s5 lW=>?_]
   apply n9 #[_,Bs,M5,τ',s5,(aM.trans fQ).trans lW,rfl,?_,rest];rw[ag.2 _ cu];show DQ
  |take e0 hc he ha hz' rest=>
   apply#[t,qt,kt d gb _ e0 x _ Ab Mb H2 _ s3 rx λσ4 j3 s4 ag=>?_]
   let(τ',rfl):=fJ ag UJ;let(t2,q2,k2):=hc bk;let(t3,q3,k3):=he bk;have NK:(σ++τ')[g1.length+k]?=!(!(V.ref D)):=by rw[ag.2 _ cu];show DQ
   apply#[t2,q2,k2 _ j3 Mb H2 _ s4 λH5 Bs M5 s5 lW=>jV #[t3,q3,k3 _ Bs M5 H5 _ s5 λv H6 ZQ M6 s6 UL R6=>?_]]
   let(a,xs,f1,f2,f3,f4):=s6.sl.at ha;rw[NK]at f1;injection f1 with f1;injection f1 with f1;injection f1 with f1;subst f1;let(s7,ZR):=s6.write ha NK (f4.append (.cons R6 .nil));apply#[xs,f3,by rw[<- f4.length];show hz',_,ZQ,M6,τ',s7,(((aM.trans fQ).trans lW).trans UL).trans ZR,rfl,NK,rest]
def NP(B:aO X.env.scope scope)(hc:X.calm=true)(hN:Names X.N N' scope k)(hw:fG X z tg iter g ak g1)(ht:∀b:Bk,iW (X.blk N' scope b) z tg T)(hT:∀i∈T.ix,g1.length<=i/\i<g1.length+k)
  (hcp:jE T (g1.length+k) (λg b g'=>∀bk:Bk,dH (X.blk N' scope bk) z ifs g b g') (λg d g'=>∀bk:Bk,aD (X.blk N' scope bk) z cW g (.dat d) g') ak (gC k g1) gE) (hacc:gE[g1.length+k]?=!(.own acc))
  (hs:∀x,foldedSetIterable iter X.env x=pure x):aD X z (.ListComp cW [#[tg,iter,ifs,0]] scope pos) g (.new acc) (gE.take g1.length):=by
 let(wi,q,kk):=p7 hw ht hT hcp hacc;show#[_,Bg B hc hN q (λb=>#[mz,mC,pZ]) hs,kk]
def NQ(B:aO X.env.scope scope)(hc:X.calm=true)(hN:Names X.N N' scope k)(hw:fG X z tg iter g ak g1)(ht:∀b:Bk,iW (X.blk N' scope b) z tg T)(hT:∀i∈T.ix,g1.length<=i/\i<g1.length+k)
  (hcp:jE T (g1.length+k) (λg b g'=>∀bk:Bk,dH (X.blk N' scope bk) z ifs g b g') (λg d g'=>∀bk:Bk,aD (X.blk N' scope bk) z cW g (.dat d) g') ak (gC k g1) gE) (hacc:gE[g1.length+k]?=!(.own acc))
  (Dq:X.N.Nodup) (hy:X.N[i]?=!y) (hl:X.env.scope.names.lookup y=some .local) (hb:i∉z.bor) (hi:i<(gE.take g1.length).length)
  (hsw:swapsWith (.ListComp cW [#[tg,iter,ifs,0]] scope pos) (!(.Name y py)) gX.line X.env=pure true)
  (hs:∀x,foldedSetIterable iter X.env x=pure x):iz X z (.Assign [.Name y py] (.ListComp cW [#[tg,iter,ifs,0]] scope pos) gX) g .nx ((gE.take g1.length).set i (.own acc)):=by
 let(wi,q,kk):=p7 hw ht hT hcp hacc;apply#[_,Bh B hc hN q (λb=>#[mz,mC,pZ]) Dq hy hl hsw hs,λσ As M H E s kE=>kk σ As M H _ s λv H' aE M' s' st R=>?_]
 let(a,xs,rfl,hm,hA,h0,ha,rr):=R;let(bD,s2):=s'.pM hb hi hm hA h0 ha rr;show kE _ bD M' H' s2 st
end
section
def aD.run(he:aD X z e g r g1)(I:L2.Inv X aj σ H s)(st:S z g σ As M H)
  (k:∀v u s1 H1 aQ M1,L2.Inv X aj σ H1 s1->RelV v u->S z g1 σ aQ M1 H1->au M H M1 H1->dB z g1 σ aQ M1 H1 r v->Post u s1):wpAny (~~~2) X.A (eval e X.env) Post X.xe s:=by
 let(t,q,kt):=he;show bY (q aj s σ H (λv H1=>∃aQ M1,S z g1 σ aQ M1 H1/\au M H M1 H1/\dB z g1 σ aQ M1 H1 r v) I (kt σ As M H _ st λv H1 aQ M1 s1 dc R=>#[aQ,M1,s1,dc,R])) (by rintro u s1 ⟨v,H1,I1,r1,aQ,M1,q1,q2,q3⟩;show k v u s1 H1 aQ M1 I1 r1 q1 q2 q3)
def nB.run(ho:nB X z f d1 d2 r)(I:L2.Inv X aj σ H s)(st:S z g σ As M H)(p1:Pk z.K M H d1 v1)(p2:Pk z.K M H d2 v2)(r1:RelV v1 u1)(r2:RelV v2 u2)
  (k:∀v u s1 H1 aQ M1,L2.Inv X aj σ H1 s1->RelV v u->S z g σ aQ M1 H1->au M H M1 H1->dB z g σ aQ M1 H1 r v->Post u s1):wpAny (~~~2) X.A (f u1 u2) Post X.xe s:=by
 let(rr,o,ko):=ho;show bY (o aj s σ H v1 v2 u1 u2 (λv H1=>∃aQ M1,S z g σ aQ M1 H1/\au M H M1 H1/\dB z g σ aQ M1 H1 r v) I r1 r2 (ko g σ As M H v1 v2 _ st p1 p2 λv H1 aQ M1 s1 dc R=>#[aQ,M1,s1,dc,R])) (by rintro u s1 ⟨v,H1,I1,r1,aQ,M1,q1,q2,q3⟩;show k v u s1 H1 aQ M1 I1 r1 q1 q2 q3)
def aD.of (h:∀(aj: ~~~1) (s:Shared) (σ:Sg) (As M:List Addr) (H:Hp) (Post:Value->Shared->Prop),L2.Inv X aj σ H s->S z g σ As M H->
  (∀v u s1 H1 aQ M1,L2.Inv X aj σ H1 s1->RelV v u->S z g1 σ aQ M1 H1->au M H M1 H1->dB z g1 σ aQ M1 H1 r v->Post u s1)->wpAny (~~~2) X.A (eval e X.env) Post X.xe s):aD X z e g r g1:=
 #[λσ H Q=>∃As M,S z g σ As M H/\Kn z g1 σ M H r Q,by rintro aj s σ H Q I ⟨As,M,st,k⟩;show h aj s σ As M H _ I st λv u s1 H1 aQ M1 I1 r1 q1 q2 q3=>#[v,H1,I1,r1,k v H1 aQ M1 q1 q2 q3],λσ As M H Q s k=>#[As,M,s,k]]
def cS.of (h:∀(aj: ~~~1) (s:Shared) (σ:Sg) (As M:List Addr) (H:Hp) (Post:Bool->Shared->Prop),L2.Inv X aj σ H s->S z g σ As M H->
  (∀s1 H1 aQ M1,L2.Inv X aj σ H1 s1->S z g1 σ aQ M1 H1->au M H M1 H1->Post b s1)->wpAny (~~~2) X.A (isTrue e X.env (eval e X.env)) Post X.xe s):cS X z e g b g1:=
 #[λσ H Q=>∃As M,S z g σ As M H/\(∀H' aE M',S z g1 σ aE M' H'->au M H M' H'->Q b H'),by rintro aj s σ H Q I ⟨As,M,st,k⟩;show h aj s σ As M H _ I st λs1 H1 aQ M1 I1 q1 q2=>#[H1,I1,k H1 aQ M1 q1 q2],λσ As M H Q s k=>#[As,M,s,k]]
inductive uB(X:Cx)(z:Z):D->List CmpOp->List Expr->G->Bool->G->Prop
 |last {d1 d2:D}{op:CmpOp}{b:Expr}{g g1:G}{c:Bool}:aD X z b g (.dat d2) g1->nB X z (compareOp op) d1 d2 (.dat (.bl c))->uB X z d1 [op] [b] g c g1
 |stop {d1 d2:D}{op op':CmpOp}{ops:List CmpOp}{b b':Expr}{bs:List Expr}{g g1:G}:aD X z b g (.dat d2) g1->nB X z (compareOp op) d1 d2 (.dat (.bl false))->uB X z d1 (op::op'::ops) (b::b'::bs) g false g1
 |link {d1 d2:D}{op op':CmpOp}{ops:List CmpOp}{b b':Expr}{bs:List Expr}{g g1 g2:G}{c:Bool}:aD X z b g (.dat d2) g1->nB X z (compareOp op) d1 d2 (.dat (.bl true))->uB X z d2 (op'::ops) (b'::bs) g1 c g2->uB X z d1 (op::op'::ops) (b::b'::bs) g c g2
def UT(h:uB X z d1 ops bs g c g'):∀(aj: ~~~1) (s:Shared) (σ:Sg) (H:Hp) (As M:List Addr) (Post:Value->Shared->Prop) (v1:V) (u1:Value),L2.Inv X aj σ H s->S z g σ As M H->Rep z.K M H d1 v1->RelV v1 u1->
  (∀s1 H' aE M',L2.Inv X aj σ H' s1->S z g' σ aE M' H'->au M H M' H'->Post (.bool c) s1)->wpAny (~~~2) X.A (compareChain pos u1 ops (evalEach bs X.env)) Post X.xe s:=by
 induction h with
 |@last d1 d2 op b g g1 c he ho=>
  intro aj s σ H As M Post v1 u1 I st r rv k;apply chain_last (he.run I st λv u s1 H1 aQ M1 I1 r1 q1 q2 q3=>ho.run I1 q1 (.of (r.stay q2)) (.of q3) rv r1 λv' u' s2 H2 bD M2 I2 r2 p1 p2 p3=>?_)
  rw[fX p3]at r2;cases r2;show k s2 H2 bD M2 I2 p1 (q2.trans p2)
 |@stop d1 d2 op op' ops b b' bs g g1 he ho=>
  intro aj s σ H As M Post v1 u1 I st r rv k;apply chain_link (he.run I st λv u s1 H1 aQ M1 I1 r1 q1 q2 q3=>ho.run I1 q1 (.of (r.stay q2)) (.of q3) rv r1 λv' u' s2 H2 bD M2 I2 r2 p1 p2 p3=>?_)
  rw[fX p3]at r2;cases r2;show nN (ite_ff (k s2 H2 bD M2 I2 p1 (q2.trans p2)))
 |@link d1 d2 op op' ops b b' bs g g1 g2 c he ho hch ih=>
  intro aj s σ H As M Post v1 u1 I st r rv k;apply chain_link (he.run I st λv u s1 H1 aQ M1 I1 r1 q1 q2 q3=>ho.run I1 q1 (.of (r.stay q2)) (.of q3) rv r1 λv' u' s2 H2 bD M2 I2 r2 p1 p2 p3=>?_)
  rw[fX p3]at r2;cases r2;show nN (ite_tt (ih aj s2 σ H2 bD M2 Post v u I2 p1 (Rep.stay p2 q3) r1 λs3 H3 lR M3 I3 w1 w2=>k s3 H3 lR M3 I3 w1 ((q2.trans p2).trans w2)))
def NR(h:uB X z d1 ops bs g c g'):∀(aj: ~~~1) (s:Shared) (σ:Sg) (H:Hp) (As M:List Addr) (Post:Bool->Shared->Prop) (v1:V) (u1:Value),L2.Inv X aj σ H s->S z g σ As M H->Rep z.K M H d1 v1->RelV v1 u1->
  (∀s1 H' aE M',L2.Inv X aj σ H' s1->S z g' σ aE M' H'->au M H M' H'->Post c s1)->wpAny (~~~2) X.A (testChain pos u1 ops (evalEach bs X.env)) Post X.xe s:=by
 induction h with
 |@last d1 d2 op b g g1 c he ho=>
  intro aj s σ H As M Post v1 u1 I st r rv k;apply test_last (he.run I st λv u s1 H1 aQ M1 I1 r1 q1 q2 q3=>ho.run I1 q1 (.of (r.stay q2)) (.of q3) rv r1 λv' u' s2 H2 bD M2 I2 r2 p1 p2 p3=>?_)
  rw[fX p3]at r2;cases r2;show nN (k s2 H2 bD M2 I2 p1 (q2.trans p2))
 |@stop d1 d2 op op' ops b b' bs g g1 he ho=>
  intro aj s σ H As M Post v1 u1 I st r rv k;apply test_link (he.run I st λv u s1 H1 aQ M1 I1 r1 q1 q2 q3=>ho.run I1 q1 (.of (r.stay q2)) (.of q3) rv r1 λv' u' s2 H2 bD M2 I2 r2 p1 p2 p3=>?_)
  rw[fX p3]at r2;cases r2;show nN (ite_ff (k s2 H2 bD M2 I2 p1 (q2.trans p2)))
 |@link d1 d2 op op' ops b b' bs g g1 g2 c he ho hch ih=>
  intro aj s σ H As M Post v1 u1 I st r rv k;apply test_link (he.run I st λv u s1 H1 aQ M1 I1 r1 q1 q2 q3=>ho.run I1 q1 (.of (r.stay q2)) (.of q3) rv r1 λv' u' s2 H2 bD M2 I2 r2 p1 p2 p3=>?_)
  rw[fX p3]at r2;cases r2;show nN (ite_tt (ih aj s2 σ H2 bD M2 Post v u I2 p1 (Rep.stay p2 q3) r1 λs3 H3 lR M3 I3 w1 w2=>k s3 H3 lR M3 I3 w1 ((q2.trans p2).trans w2)))
def Ih(ha:aD X z a g (.dat d1) g1)(h:uB X z d1 (UW::U0::ops) (b1::b2::bs) g1 c g2)(hm:lastMarks (UW::U0::ops) (b1::b2::bs)=false):aD X z (.Compare a (UW::U0::ops) (b1::b2::bs) pos) g (.dat (.bl c)) g2:=
 aD.of λaj s σ As M H Post I st k=>Compare_chain (ha.run I st λv u s1 H1 aQ M1 I1 r1 q1 q2 q3=>UT h aj s1 σ H1 aQ M1 Post v u I1 q1 q3 r1 λs2 H2 bD M2 I2 p1 p2=>k (.bl c) (.bool c) s2 H2 bD M2 I2 rfl p1 (q2.trans p2) (.bl c)) hm
def Ii(ha:aD X z a g (.dat d1) g1)(h:uB X z d1 (UW::U0::ops) (b1::b2::bs) g1 c g2)(hm:lastMarks (UW::U0::ops) (b1::b2::bs)=false):cS X z (.Compare a (UW::U0::ops) (b1::b2::bs) pos) g c g2:=
 cS.of λaj s σ As M H Post I st k=>isTrue_chain (ha.run I st λv u s1 H1 aQ M1 I1 r1 q1 q2 q3=>NR h aj s1 σ H1 aQ M1 Post v u I1 q1 q3 r1 λs2 H2 bD M2 I2 p1 p2=>k s2 H2 bD M2 I2 p1 (q2.trans p2)) hm
inductive oq(X:Cx)(z:Z)(c:Expr)(body:List Stmt):Nat->G->Fl->G->Prop
 |done {n:Nat}{g g1:G}:cS X z c g false g1->oq X z c body n g .nx g1
 |next {n:Nat}{g g1 g2 g3:G}{f:Fl}:cS X z c g true g1->eX X z body g1 .nx g2->oq X z c body n g2 f g3->oq X z c body (n+1) g f g3
 |cont {n:Nat}{g g1 g2 g3:G}{f:Fl}:cS X z c g true g1->eX X z body g1 .ct g2->oq X z c body n g2 f g3->oq X z c body (n+1) g f g3
 |brk {n:Nat}{g g1 g2:G}:cS X z c g true g1->eX X z body g1 .bk g2->oq X z c body n g .nx g2
 |ret {n:Nat}{g g1 g2:G}{r:R}:cS X z c g true g1->eX X z body g1 (.rt r) g2->oq X z c body n g (.rt r) g2
abbrev ZS(X:Cx)(e:Expr):TT:=λσ H Q=>∃t,PT X e t/\t σ H Q
def U1{e:Expr}:PT X e (ZS X e):=λaj s σ H Q I h=>let #[t,q,k]:=h;q aj s σ H Q I k
def Ij{ce:Expr}{body:List Stmt}{n:Nat}{f:Fl}{g':G}(hp:PassesOwn (~~~2) X.A X.env X.xe)(h:oq X z ce body n g f g'):iz X z (.While ce body [] pos) g f g':=by
 apply#[_,GQ hp U1 Bo,λσ As M H E s k=>?_]
 apply#[λm σ2 H2=>∃g2 bD M2,S z g2 σ2 bD M2 H2/\au M H M2 H2/\oq X z ce body m g2 f g',#[n,g,As,M,s,au.refl _ _,h],?_]
 rintro m σ2 H2 ⟨g2,bD,M2,s2,aM,w⟩;cases w with
 |done hc=>let(t,q,kt):=hc;show#[t,q,kt σ2 bD M2 H2 _ s2 λH3 lR M3 s3 fQ=>n9 (k σ2 lR M3 H3 s3 (aM.trans fQ))]
 |@next m' _ g3 g4 _ _ hc hb w'=>
  let(t,q,kt):=hc;let(tb,qb,kb):=hb;apply#[t,q,kt σ2 bD M2 H2 _ s2 λH3 lR M3 s3 fQ=>jV #[λσ' H'=>∃g2 bD M2,S z g2 σ' bD M2 H'/\au M H M2 H'/\oq X z ce body m' g2 f g',λσ' H' hN=>#[m',pE _,hN],tb,qb,kb σ2 lR M3 H3 _ s3 λσ4 j3 M4 H4 s4 sF=>?_]]
  show#[g4,j3,M4,s4,(aM.trans fQ).trans sF,w']
 |@cont m' _ g3 g4 _ _ hc hb w'=>
  let(t,q,kt):=hc;let(tb,qb,kb):=hb;apply#[t,q,kt σ2 bD M2 H2 _ s2 λH3 lR M3 s3 fQ=>jV #[λσ' H'=>∃g2 bD M2,S z g2 σ' bD M2 H'/\au M H M2 H'/\oq X z ce body m' g2 f g',λσ' H' hN=>#[m',pE _,hN],tb,qb,kb σ2 lR M3 H3 _ s3 λσ4 j3 M4 H4 s4 sF=>?_]]
  show#[g4,j3,M4,s4,(aM.trans fQ).trans sF,w']
 |brk hc hb=>let(t,q,kt):=hc;let(tb,qb,kb):=hb;show#[t,q,kt σ2 bD M2 H2 _ s2 λH3 lR M3 s3 fQ=>jV #[λ_ _=>False,λσ' H' hN=>hN.elim,tb,qb,kb σ2 lR M3 H3 _ s3 λσ4 j3 M4 H4 s4 sF=>k σ4 j3 M4 H4 s4 ((aM.trans fQ).trans sF)]]
 |ret hc hb=>let(t,q,kt):=hc;let(tb,qb,kb):=hb;show#[t,q,kt σ2 bD M2 H2 _ s2 λH3 lR M3 s3 fQ=>jV #[λ_ _=>False,λσ' H' hN=>hN.elim,tb,qb,kb σ2 lR M3 H3 _ s3 λv σ4 j3 M4 H4 s4 sF R=>k v σ4 j3 M4 H4 s4 ((aM.trans fQ).trans sF) R]]
abbrev NT:D->Option Bool
 |.bl b=>!b
 |.non=>!false
 |.int i=>!(i != 0)
 |.lst l=>!((not l.isEmpty))
 |.tup l=>!((not l.isEmpty))
 |.fix l=>!((not l.isEmpty))
 |_=>none
end
end Ev
namespace HT
section
def jF{t sl:Addr}{ak:Array Value}{vl vu:Value}{lo hi:Option Int}{Q:Value->Shared->Prop}(ht:IsTup s.heap t ak)(hs:s.heap.IsSliceOf sl vl vu .none)(pl:IsPart vl lo)(pu:IsPart vu hi)
  (hw:cR ak.size 0 lo=0/\cR ak.size ak.size hi=ak.size)
  (h:Q (.ref t) s):wpAny (model prog w) A (getItem (.ref t) (.ref sl)) Q E s:=by
 let(os,hos,hcs,hds):=id hs;have Zc:s.TypeIs (.ref sl) "slice" :=#[os,hos,hcs];delta getItem
 try with_reducible apply mE ?_
 first |apply aS (d5 ?_) |skip
 apply aS (wpAny_sequenceKey ht.typeIs ⋯ ?_);apply aS (sT ht.typeIs oP
  (wP oP ht.typeIs entry_tuple_getitem ?_ (args_tuple_getitem _ _)))
 exact wpAny _ _ (Builtin.Tuple.tupleItemsOf (.ref t) >>= _) _ _ s;apply aS (tupleItemsOf_ ht ?_);apply aS (DE Zc ?_);apply aS (gG hs pl pu ?_);have hyes:(((cR ak.size 0 lo:Nat):Int)==0&&(1:Int)==1&&(cR ak.size ak.size hi - cR ak.size 0 lo)==ak.size)=true:=by rw[hw.1,hw.2];simp
 exact wpAny _ _ (if (((cR ak.size 0 lo:Nat):Int)==0&&(1:Int)==1&&(cR ak.size ak.size hi - cR ak.size 0 lo)==ak.size)=true then _ else _) _ _ s
 rw[i7 hyes];apply aS (aS (DE ht.typeIs (d5 ?_)));show aS (DL (d5 #[_,rfl,d5 h]))
end
end HT
namespace Ev
open L2
abbrev j4{α:Type}(xs:List α)(lo hi:Option Int):List α:=(xs.drop (HT.cR xs.length 0 lo)).take (HT.cR xs.length xs.length hi - HT.cR xs.length 0 lo)
def zg{α:Type}{xs:List α}{lo hi:Option Int}(h:HT.cR xs.length 0 lo=0/\HT.cR xs.length xs.length hi=xs.length):j4 xs lo hi=xs:=by delta j4;rw[h.1,h.2,List.drop_zero,Nat.sub_zero,List.take_length]
section
variable{lo hi:Option Expr}
abbrev rSlA(K:Frag):V->Option Int->Option Int->Hp->VK->Prop:=λx lo hi H Q=>∃a xs,x=.ref a/\gF K H a xs/\
 ((HT.cR xs.length 0 lo=0/\HT.cR xs.length xs.length hi=xs.length/\Q (.ref a) H)\/(¬ (HT.cR xs.length 0 lo=0/\HT.cR xs.length xs.length hi=xs.length)/\∀p,H p=none->Q (.ref p) (upd H p (.tup (yU xs lo hi)))))
def NX:SlR X (rSlA X.K):=by
 intro aj s σ H x v vl vu lo hi sl Q I rx hs pl pu h;let(a,xs,rfl,hx,h):=h;rcases h with ⟨h1,h2,q⟩ |⟨h1,q⟩
 .
  cases rx;let(aA,r,ht,hz):=I.tuple hx;have aN:aA.toArray.size=xs.length:=by rw[dL];show r.length.symm
  apply#["tuple",_,PyProof.Rows.slot_tuple_getitem.lookup,ht.typeIs,?_];show HT.jF ht hs pl pu (by rw[aN];show#[h1,h2]) #[.ref a,H,I,rfl,q]
 . show S0 aj s σ H (.ref a) v vl vu lo hi sl Q I rx hs pl pu #[a,xs,rfl,hx,h1,q]
abbrev uC(X:Cx)(z:Z)(e:Option Expr)(g:G)(o:Option Int)(g':G):Prop:=
 ∃t,PO X e t/\∀σ As M H (Q:Option Int->Hp->Prop),S z g σ As M H->(∀H' aE M',S z g' σ aE M' H'->au M H M' H'->Q o H')->t σ H Q
def DR:uC X z none g none g:=#[_,Mx,λσ As M H Q s k=>k H As M s (au.refl _ _)]
def DS(h:aD X z e g ‹i› g1):uC X z (!e) g (!i) g1:=by
 let(t,q,k):=h;apply#[_,My q,λσ As M H Q s kk=>k σ As M H _ s λv H' aE M' s' st R=>?_]
 have R':=R;cases R';show#[i,rfl,kk H' aE M' s' st]
def aJ.cut{K:Frag}{M:List Addr}{H:Hp}{ds:List D}{vs:List V}(r:aJ K M H ds vs)(l u:Option Int):aJ K M H (j4 ds l u) (yU vs l u):=by delta j4 yU;rw[r.length];show aJ.take _ (aJ.drop _ r)
def DT{r:R}{l:List D}{d:D}{i j:Option Int}(hK:z.K=X.K)(h:aD X z a g r g1)(h1:uC X z lo g1 i g2)(h2:uC X z hi g2 j g3)(hp:pk r g3=!(.lst l)):aD X z (.Subscript a (.Slice lo hi none p2) pos) g (.new (j4 l i j)) g3:=by
 let(t,q,k):=h;let(t1,q1,k1):=h1;let(t2,q2,k2):=h2;apply#[_,pI Bf q q1 q2,λσ As M H Q s kk=>k σ As M H _ s λv H1 aQ M1 s1 dc R=>k1 σ aQ M1 H1 _ s1 λH2 bD M2 s2 aM=>k2 σ bD M2 H2 _ s2 λH3 lR M3 s3 fQ=>?_]
 let(b,xs,rfl,e1,e2):=(s3.pk (aM.trans fQ) R hp).list;apply#[b,xs,rfl,cg.of e1,λp hp=>?_]
 show kk _ _ lR (p::M3) (s3.aU hp) (((dc.trans aM).trans fQ).trans (au.aU hp)) #[p,_,rfl,dC,λhA=>s3.fresh hp (s3.sub p hA),s3.cD hp,aC,(e2.cut i j).stay (au.aU hp)]
def DW(hK:z.K=X.K)(h:aD X z a g (.dat (.fix l)) g1)(h1:uC X z lo g1 i g2)(h2:uC X z hi g2 j g3):aD X z (.Subscript a (.Slice lo hi none p2) pos) g (.new (j4 l i j)) g3:=by
 let(t,q,k):=h;let(t1,q1,k1):=h1;let(t2,q2,k2):=h2;apply#[_,pI Bf q q1 q2,λσ As M H Q s kk=>k σ As M H _ s λv H1 aQ M1 s1 dc R=>k1 σ aQ M1 H1 _ s1 λH2 bD M2 s2 aM=>k2 σ bD M2 H2 _ s2 λH3 lR M3 s3 fQ=>?_]
 have R':=Rep.stay (aM.trans fQ) R;cases R' with
 |@fix _ b xs e1 e2=>
  apply#[b,xs,rfl,hK▸e1.sq,λp hp=>?_]
  show kk _ _ lR (p::M3) (s3.aU hp) (((dc.trans aM).trans fQ).trans (au.aU hp)) #[p,_,rfl,dC,λhA=>s3.fresh hp (s3.sub p hA),s3.cD hp,aC,(e2.cut i j).stay (au.aU hp)]
def DX(hK:z.K=X.K)(h:aD X z a g (.dat (.tup l)) g1)(h1:uC X z lo g1 i g2)(h2:uC X z hi g2 j g3):aD X z (.Subscript a (.Slice lo hi none p2) pos) g (.dat (.tup (j4 l i j))) g3:=by
 let(t,q,k):=h;let(t1,q1,k1):=h1;let(t2,q2,k2):=h2;apply#[_,pI NX q q1 q2,λσ As M H Q s kk=>k σ As M H _ s λv H1 aQ M1 s1 dc R=>k1 σ aQ M1 H1 _ s1 λH2 bD M2 s2 aM=>k2 σ bD M2 H2 _ s2 λH3 lR M3 s3 fQ=>?_]
 have R':=Rep.stay (aM.trans fQ) R;cases R' with
 |@tup _ b xs e1 e2=>
  apply#[b,xs,rfl,hK▸e1.sq,?_];by_cases hw:HT.cR xs.length 0 i=0/\HT.cR xs.length xs.length j=xs.length
  .
   apply .inl #[hw.1,hw.2,kk _ _ lR M3 s3 ((dc.trans aM).trans fQ) ?_];have e:=zg (by rw[e2.length];show hw)
   rw[e];show .tup e1 e2
  . show .inr #[hw,λp hp=>kk _ _ lR M3 (s3.laid hp) (((dc.trans aM).trans fQ).trans (au.laid hp)) (.tup (.inl #[s3.fresh hp,.inl aC]) ((e2.cut i j).stay (au.laid hp)))]
def Ik(hK:z.K=X.K)(h:aD X z e g r g1)(hp:pk r g1=!d)(hb:NT d=!b)(he:∀whole,isTrue e X.env whole=(do let v <- whole;standAt e.pos;holding [v] (truthy v))):cS X z e g b g1:=by
 let(t,q,k):=h;apply#[_,G3 q he,λσ As M H Q s kk=>k σ As M H _ s λv H1 aQ M1 s1 dc R=>#[b,?_,kk H1 aQ M1 s1 dc]]
 have p:=s1.pk (au.refl _ _) R hp;cases d with
 |non=>rw[p.non];cases hb;rfl
 |bl c=>rw[p.bl];cases hb;rfl
 |int i=>rw[p.int];cases hb;rfl
 |str x=>cases hb
 |emp=>cases hb
 |nq _=>cases hb
 |Dr _ _=>cases hb
 |lst l=>let(a,xs,rfl,e1,e2):=p.list;cases hb;apply .inl #[xs,cg.of e1,?_];cases e2 <;> rfl
 |tup l=>let(a,xs,rfl,e1,e2):=p.tup;cases hb;apply .inr (.inl #[xs,hK▸e1.sq,?_]);cases e2 <;> rfl
 |fix l=>let(a,xs,rfl,e1,e2):=p.fix;cases hb;apply .inl #[xs,hK▸e1.sq,?_];cases e2 <;> rfl
end
section
def U3(I:L2.Inv X aj σ H s)(p:Pk X.K M H d v)(r:RelV v u):∃Hh,PySem.W.KitX X.K u (Gk d) Hh/\Hh s.heap/\u≠.builtin "__main__.__loader__#opaque" :=by
 cases d with
 |non=>have q:=p.non;subst q;cases r;show#[_,PySem.W.kitx_none,True.intro,λz=>nomatch z]
 |bl y=>have q:=p.bl;subst q;cases r;show#[_,PySem.W.kitx_bool,True.intro,λz=>nomatch z]
 |int i=>have q:=p.int;subst q;let(t,rfl):=r;show#[_,PySem.W.kitx_int,True.intro,λz=>nomatch z]
 |str y=>have q:=p.str;subst q;let(t,rfl):=r;show#[_,PySem.W.kitx_str,True.intro,λz=>nomatch z]
 |tup l=>let(a,xs,rfl,ha,_):=p.tup;cases r;let(aA,_,(o,h1,h2,_),_):=I.tuple ha.sq;show#[_,PySem.W.kitx_tuple,#[o,h1,h2],λz=>nomatch z]
 |lst l=>let(a,xs,rfl,ha,_):=p.list;cases r;let(aA,_,pl,_):=I.list (cg.of ha);let(o,h1,h2,_):=pl.isList;show#[_,CH,#[o,h1,h2],λz=>nomatch z]
 |fix l=>let(a,xs,rfl,ha,_):=p.fix;cases r;let(aA,_,pl,_):=I.list ha.sq;let(o,h1,h2,_):=pl.isList;show#[_,CH,#[o,h1,h2],λz=>nomatch z]
 |emp=>
  cases p with
  |of q=>
   cases q with
   |emp _ ha=>cases r;let(_,_,vs,_,o,es,ep,h1,h2,_):=I.hok _ _ ha;show#[_,CI,#[o,h1,h2.1],λz=>nomatch z]
 |nq C=>
  cases p with
  |of q=>
   cases q with
   |nq k _ ha=>cases r;let((o,h1,h2,h3,h4),_):=I.hok _ _ ha;show#[_,wk k,#[o,h1,h2,h3,by rw[h4];trivial],λz=>nomatch z]
 |Dr ks ds=>
  cases p with
  |of q=>
   cases q with
   |Dr _ ha _ _=>cases r;let(_,_,vs,_,o,es,ep,h1,h2,_):=I.hok _ _ ha;show#[_,CI,#[o,h1,h2.1],λz=>nomatch z]
def Bt:∀{ns:List String}{us:List Value},Vals (ns.map V.ty) us->us=ns.map Value.type
 | [],_,r=>by rw[List.map_nil]at r;cases r;rfl
 |n::ns,_,r=>by
  cases r with
  |cons r1 r2=>cases r1;rw[Bt r2];rfl
def DY:e9 X (.builtin "isinstance") (λxs H Q=>∃(x:V) (p:Addr) (ns:List String) (M:List Addr) (d:D) (b:Bool),xs=[x,.ref p]/\Pk X.K M H d x/\gF X.K H p (ns.map V.ty)/\PySem.W.kitAny X.K (Gk d) (ns.map Value.type)=!b/\Q (.bl b) H):=by intro aj s σ H xs us Q I r h;let(x,p,ns,M,d,b,rfl,pk,hp,e,q):=h;let(u,w',rfl,r1,r2):=vals2 r;cases r2;let(Hh,Zk,hH,hx):=U3 I pk r1;let(aA,rv,(o,h1,h2,n,h3),_):=I.tuple hp;rw[Bt rv]at h3;let(c,dd,dt,sl):=o;have h2':=h2;have h3':=h3;subst h2' h3';show PySem.W.kia_tup Zk I.nj hH h1 e hx λtk=>#[.bl b,H,I.tok tk,rfl,q]
structure TyOk(X:Cx)(T:Str)(n:String):Prop where
 gl:Gl X T
 mg:X.mg T=none
 bt:bootBuiltins T=!(.type n)
 nn:T≠ "__name__"
 db:(T==(~~~3))=false
inductive p8(X:Cx):List Expr->List String->Prop
 |nil:p8 X [] []
 |cons {T:Str}{n:String}{p:Pos}{es:List Expr}{ns:List String}:TyOk X T n->p8 X es ns->p8 X (.Name T p::es) (n::ns)
def p8.pa(h:p8 X es ns):∃t,PA X es t/\∀σ H (Q:List V->Hp->Prop),Q (ns.map V.ty) H->t σ H Q:=by
 induction h with
 |nil=>show#[_,eU,λσ H Q q=>q]
 |@cons T n p es ns h _ ih=>let(t,q,k):=ih;have pT:PE X (.Name T p) (tC (.ty n)):=tV h.gl h.mg h.bt rfl h.nn h.db;show#[_,bJ pT q rfl,λσ H Q hq=>k σ H _ hq]
def NZ(hK:z.K=X.K)(h:aD X z a g r1 g1)(hp:pk r1 g1=!d)(ht:p8 X es ns)(hl:ns.length<=16777216)(he:∀M H v,Pk X.K M H d v->PySem.W.kitAny X.K (Gk d) (ns.map Value.type)=!b)
  (hg:Gl X "isinstance") (hm:X.mg "isinstance"=none) (hv:bootBuiltins "isinstance"=!(.builtin "isinstance"))
  (hs:starEach [a,.Tuple es k pT] X.env=(false,eval a X.env)::starEach [.Tuple es k pT] X.env):aD X z (.Call (.Name "isinstance" p) [a,.Tuple es k pT] [] pos) g (.dat (.bl b)) g1:=by
 let(t,q,kk):=h;let(tt,qt,kt):=ht.pa;apply#[_,kL DY hg hm hv (bJ q (bJ (G5 qt) eU) hs) ⋯ ⋯ hs,λσ As M H Q s kq=>kk σ As M H _ s λv H' aE M' s' st R=>kt σ H' _ #[by rw[eJ];show pP hl,λa ha=>?_]]
 have s2:=s'.laid (o:=.tup (ns.map V.ty)) ha;have pp:=s'.pk (au.refl _ _) R hp;apply#[v,a,ns,M',d,b,rfl,?_,.inl (.inl aC),he _ _ _ (hK▸pp),kq _ _ aE M' s2 (st.trans (au.laid ha)) (.bl b)];rw[<- hK];cases pp with
 |of r=>show .of (r.stay (au.laid ha))
 |lst e1 e2=>show .lst (by rw[az (aK e1 ha)];show e1) (e2.stay (au.laid ha))
def Ea(hN:X.N[i]?=!x)(hv:iR X.env.scope x)(hd:(x==(~~~3))=false)(bZ:(x==("__classdict__":Str))=false)(hg:g[i]?=!(.own l0))(h:cY X z [e] g [.dat (.lst m)] g1)(uz:g1[i]?=!(.own l))(hl:l.length+m.length<=16777216)
  (hbase:attributeBase (.Name x pn) "extend" X.env (eval (.Name x pn) X.env)=eval (.Name x pn) X.env)
  (hfew:((backTo bw (starEach [e] X.env)).all (λx=>(not x.1))&&(backToKw bw (keywordEach [] X.env)).all (λx=>x.1.isSome)
   && decide ([e].length+([]:List Keyword).length+(if ([]:List Keyword).isEmpty then 0 else 1)<30))=true)
  (hline:(cG.endLine==bw.line)=true) (hs:starEach [e] X.env=(false,eval e X.env)::starEach [] X.env):aD X z (.Call (.Attribute (.Name x pn) "extend" cG) [e] [] bw) g (.dat .non) (g1.set i (.own (l++m))):=by
 let(t,q,k):=h;apply#[_,vY y7 PySem.F.slot_list_extend PySem.F.type_list_extend Dk (cN hN hv hd bZ) q hbase hfew hline hs rfl,λσ As M H Q s kk=>?_]
 let(a,xs,e1,e2,e3,e4):=s.sl.at hg;apply#[.ref a,e1,.inl #[rfl,xs,cg.of e3],k σ As M H _ s λvs H' aE M' s' st R=>?_]
 let(b,ys,f1,f2,f3,f4):=s'.sl.at uz;rw[e1]at f1;injection f1 with f1;injection f1 with f1;injection f1 with f1;subst f1;cases R with
 |dat r R=>
  cases R;cases r with
  |@lst _ c zs hc rr=>
   apply#[a,c,ys,zs,rfl,rfl,f3,hc.2,by rw[<- f4.length,<- rr.length];show hl,?_]
   let(s2,aM):=s'.write uz e1 (f4.append rr);show kk _ _ aE M' s2 (st.trans aM) .non
end
abbrev ins(a:Int): ~~~0->List Int
 | []=>[a]
 |b::l=>if a<=b then a::b::l else b::ins a l
abbrev eE: ~~~0->List Int
 | []=>[]
 |a::l=>ins a (eE l)
def p9(a:Int):∀l:List Int,(ins a l).Perm (a::l)
 | []=>xI _
 |b::l=>by
  delta ins;split
  . show xI _
  . show ((p9 a l).cons b).trans (List.Perm.swap a b l)
def dW:∀l:List Int,(eE l).Perm l
 | []=>xI _
 |a::l=>(p9 a _).trans ((dW l).cons a)
def qa(a:Int):∀{l: ~~~0},l.Pairwise (· <= ·)->(ins a l).Pairwise (· <= ·)
 | [],_=>List.pairwise_singleton _ _
 |b::l,h=>by
  let(h1,h2):=AD.mp h;delta ins;split
  .
   ext hab;apply AD.mpr #[λx hx=>?_,h]
   rcases dS.mp hx with rfl |hx
   . show hab
   . show Int.le_trans hab (h1 x hx)
  .
   ext hab;apply AD.mpr #[λx hx=>?_,qa a h2]
   rcases dS.mp ((p9 a l).mem_iff.mp hx)with rfl |hx
   . lia
   . show h1 x hx
def kZ:∀l:List Int,(eE l).Pairwise (· <= ·)
 | []=>List.Pairwise.nil
 |a::l=>qa a (kZ l)
def qg(hp:m.Perm l)(hs:m.Pairwise (· <= ·)):m=eE l:=
 (hp.trans (dW l).symm).eq_of_pairwise (λx y _ _ h1 h2=>Int.le_antisymm h1 h2) hs (kZ l)
section
def jL(hl:IsTup s.heap l vs.toArray)
  (h:Q vs { s with heap:=(s.heap.push (seqObj "list" ([].toArray) 0)).update s⁻¹ (Obj.mapSeq (· ++ vs.toArray))}) (jK:vs.length<=sizeLine) :
  wpAny (model prog w) A (collect (.ref l)) Q E s:=by
 let(o,ho,hc,n,hd):=id hl;delta collect;apply aS (wpAny_runValue (B6 entry_proto_collect' ?_));exact wpAny _ _ (do again (.builtin "list.__iadd__" #[[<- newList [],.ref l],[]])) _ _ s
 apply aS (C3 (d5 #[Code.quiet_builtin _ (by decide +kernel),B6 entry_list_iadd' ?_]))
 exact wpAny _ _ (Builtin.List.listExtendWith (.ref s⁻¹) (.ref l) (.ref s⁻¹)) _ _ { s with heap:=s.heap.push (seqObj "list" ([].toArray) 0)};delta Builtin.List.listExtendWith;have ho':(s.heap.push (seqObj "list" ([].toArray) 0)).get? l=!o:=dA _ ho;apply aS (DE (T:= "tuple") #[o,ho',hc] ?_);have ht:(Value.type "tuple" == Value.type "tuple")=true:=by rfl
 rw[i7 (by rw[ht];simp)]
 apply aS (listItems_at ho' hd ?_);apply aS (listItems_at (xs:=([].toArray)) (n:=0) (eD _ rfl) rfl ?_);rw[lL ⋯];apply aS (listUpdate_at (xs:=([].toArray)) (n:=0) (eD _ rfl) rfl ?_ (wT _) (by exact (([].toArray)++vs.toArray).size<=sizeLine+1;simp only[Array.size_append,dL,Db];lia))
 apply d5 ?_;exact wpAny (model prog w) A (do
   let o <- load s⁻¹
   match o.data with
   |.seq xs _=>pure xs.toList
   |_=>unsupported "internal:collect") Q E { s with heap:=(s.heap.push (seqObj "list" ([].toArray) 0)).update s⁻¹ (Obj.mapSeq (· ++ vs.toArray))}
 apply aS (wpAny_load (get?_update_seq (eD _ rfl) _) ?_);exact wpAny _ _ (pure ((([].toArray):Array Value)++vs.toArray).toList) Q E _;rw[show ((([].toArray):Array Value)++vs.toArray).toList=vs by simp]
 show d5 h
def uD(hl:IsTup s.heap l vs.toArray)(hI:IntsAre vs ns)(h64:vs.length<64)
  (h:∀(out:Array Value) (ns': ~~~0),IntsAre out.toList ns'->ns'.Perm ns->ns'.Pairwise (· <= ·)->Q (.ref (s⁻¹+1)) { s with heap:=sortedAll s.heap vs out}) :
  wpAny (model prog w) A (call (.builtin "sorted") [.ref l]) Q E s:=by
 apply Calls.call_function_entry kind_sorted plain_sorted entry_sorted (args_sorted1 _) ?_;delta Builtin.«sorted»;apply aS (m:=checkCount "sorted" 1 1 _) (d5 ?_);apply aS (jL hl ?_ (by rw[oQ];lia))
 apply aS (C3 ?_);have jK:((s.heap.push (seqObj "list" ([].toArray) 0)).update s⁻¹ (Obj.mapSeq (· ++ vs.toArray))).objs.size=s⁻¹+1:=by rw[BC,size_push']
 have hoL:(((s.heap.push (seqObj "list" ([].toArray) 0)).update s⁻¹ (Obj.mapSeq (· ++ vs.toArray))).push (seqObj "list" vs.toArray 0)).get? (s⁻¹+1)=!(seqObj "list" vs.toArray 0):=by rw[<- jK];show eD _ rfl
 exact wpAny _ _ _ _ _ { s with heap:=((s.heap.push (seqObj "list" ([].toArray) 0)).update s⁻¹ (Obj.mapSeq (· ++ vs.toArray))).push (seqObj "list" vs.toArray 0)};rw[jK];apply aS (mE (wP slot_list_sort #[_,hoL,rfl] entry_list_sort (list_sort_tree hoL hI h64 λout ns' a1 a2 a3=>#[_,rfl,?_]) (args_list_sort _)))
 show d5 #[_,rfl,h out ns' a1 a2 a3]
end
section
def wz:e9 X (.builtin "sorted") (λxs H Q=>∃p ns,xs=[.ref p]/\(cg X.K H p (ns.map V.int)\/gF X.K H p (ns.map V.int))/\ns.length<64/\∀q,H q=none->Q (.ref q) (upd H q (.lst ((eE ns).map V.int)))):=by
 intro aj s σ H xs us Q I r h;let(p,ns,rfl,hq,hl,q):=h;let(u,rfl,rx):=vals1 r;cases rx;have fin:∀(vs:List Value) (out:Array Value) (ns': ~~~0),IntsAre out.toList ns'->ns'.Perm ns->ns'.Pairwise (· <= ·)->EP X aj σ Q (.ref (s⁻¹+1)) { s with heap:=sortedAll s.heap vs out}:=λvs out ns' a1 a2 a3=>by
  have e:=qg a2 a3;subst e;let(ep,he):=sortedAll_at s.heap vs out;have aN:(eE ns).length=ns.length:=(dW ns).length_eq;apply#[.ref (s⁻¹+1),_,I.laid (t':=s.toks) (o:=.lst ((eE ns).map V.int)) (λb o e=>sortedAll_old e) (AT _) ?_,rfl,q _ (I.hok.fresh (AT _))]
  apply#[by rw[eJ,aN,oQ];lia,out.toList,ep,sr a1,?_]
  rw[he]
 rcases hq with hq |hq
 . let(aA,r',pl,hz):=I.list hq;have aN:=r'.length;rw[eJ]at aN;show sorted_ints pl.isList (intsAre_of r') ⋯ λout ns' a1 a2 a3=>fin aA out ns' a1 a2 a3
 . let(aA,r',pl,hz):=I.tuple hq;have aN:=r'.length;rw[eJ]at aN;show uD pl (intsAre_of r') ⋯ λout ns' a1 a2 a3=>fin aA out ns' a1 a2 a3
def sG{K:Frag}{M:List Addr}{H:Hp}:∀ns:List Int,aJ K M H (ns.map D.int) (ns.map V.int)
 | []=>.nil
 |n::ns=>.cons (.int n) (sG ns)
def Eb(hK:z.K=X.K)(h:bV d=!l)(hi:cK l=!ns)(hl:ns.length<64):CallD X z (.builtin "sorted") [d] (.new ((eE ns).map .int)):=by
 apply#[_,wz,λg σ As M H vs Q s p k=>?_]
 let(v,rfl,pv):=p.one;have fin:∀q,H q=none->Q (.ref q) (upd H q (.lst ((eE ns).map V.int))):=λq hq=>k _ _ As (q::M) (s.aU hq) (au.aU hq) #[q,_,rfl,dC,λhA=>s.fresh hq (s.sub q hA),s.cD hq,aC,sG _]
 cases d with
 |lst m=>symm;let(a,xs,rfl,e1,e2):=pv.list;have:=bX e2 hi;subst this;show#[a,ns,rfl,.inl (cg.of e1),hl,fin]
 |tup m=>symm;let(a,xs,rfl,e1,e2):=pv.tup;have:=bX e2 hi;subst this;show#[a,ns,rfl,.inr (hK▸e1.sq),hl,fin]
 |fix m=>symm;let(a,xs,rfl,e1,e2):=pv.fix;have:=bX e2 hi;subst this;show#[a,ns,rfl,.inl (hK▸e1.sq),hl,fin]
 |_=>symm
end
section
abbrev ZT(X:Cx)(z:Z)(e:Expr)(g:G)(lo hi:Int)(g1:G):Prop:=
 ∀(aj: ~~~1) (s:Shared) (σ:Sg) (As M:List Addr) (H:Hp) (Post:Value->Shared->Prop),L2.Inv X aj σ H s->S z g σ As M H->
  (∀r s1 H1 aQ M1 t u v,L2.Inv X aj σ H1 s1->S z g1 σ aQ M1 H1->au M H M1 H1->IsRange s1.heap r lo hi 1 t u v->Post (.ref r) s1)->wpAny (~~~2) X.A (eval e X.env) Post X.xe s
def cY.run(ha:cY X z es g rs g1)(I:L2.Inv X aj σ H s)(st:S z g σ As M H)
  (k:∀vs us s1 H1 aQ M1,L2.Inv X aj σ H1 s1->Vals vs us->S z g1 σ aQ M1 H1->au M H M1 H1->jY z σ M1 H1 rs vs->Post us s1):wpAny (~~~2) X.A (spliced (backTo pos (starEach es X.env))) Post X.xe s:=by
 let(t,q,kt):=ha;show bY (q pos aj s σ H (λvs H1=>∃aQ M1,S z g1 σ aQ M1 H1/\au M H M1 H1/\jY z σ M1 H1 rs vs) I (kt σ As M H _ st λvs H1 aQ M1 s1 dc R=>#[aQ,M1,s1,dc,R])) (by rintro us s1 ⟨vs,H1,I1,r1,aQ,M1,q1,q2,q3⟩;show k vs us s1 H1 aQ M1 I1 r1 q1 q2 q3)
def rg_1(h:cY X z [a] g [‹j›] g1)(hg:Gl X "range")(hm:X.mg "range"=none)(hs:starEach [a] X.env=[(false,eval a X.env)]):ZT X z (.Call (.Name "range" p) [a] [] rp) g 0 j g1:=by
 intro aj s σ As M H Post I st k;apply Call_ (g8 I hg hm boot_range (oI (h.run I st λvs us s1 H1 aQ M1 I1 r1 q1 q2 q3=>?_) hs rfl))
 cases q3 with
 |dat r R=>
  cases R;cases r;cases r1 with
  |cons r rr=>cases rr;let(t,rfl):=r;show call_range_1 (k _ _ H1 aQ M1 _ _ _ (I1.kept λb o e=>dA _ e) q1 q2 (IsRange.new ..))
abbrev zh(lo:Int)(n:Nat):List V:=(List.range n).map λ(k:Nat)=>V.int (lo+(k:Int))
def Ec{lo:Int}{n:Nat}{acc:Array Value}(h:ItemsOf (λi v=>∃t,v=Value.int (lo+(i:Int) * 1) t) acc n):Vals (zh lo n) acc.toList:=by
 have key:∀(m:Nat) (l:List Value) (o:Nat),l.length=m->(∀j v,l[j]?=!v->∃t,v=Value.int (lo+((o+j:Nat):Int)) t)->Vals ((List.range' o m).map λ(k:Nat)=>V.int (lo+(k:Int))) l:=by
  intro m
  induction m with
  |zero=>intro l o hl _;cases l with
   |nil=>show .nil
   |cons _ _=>simp at hl
  |succ m ih=>
   intro l o hl hv;cases l with
   |nil=>simp at hl
   |cons v l=>
    rw[AB,List.map_cons];let(t,e):=hv 0 v rfl;apply .cons #[t,by rw[e];rfl] (ih l (o+1) (by simpa using hl) λj w hw=>?_)
    let(t',e'):=hv (j+1) w (by simpa using hw)
    show#[t',by rw[e',show o+(j+1)=o+1+j by lia]]
 delta zh;rw[y6];apply key n acc.toList 0 (by rw[sB];show h.1) λj v hv=>?_
 let(t,e):=h.2 j v (by rw[<- Array.getElem?_toList];show hv)
 show#[t,by rw[e,BO,Int.mul_one]]
def Ed{K:Frag}{M:List Addr}{H:Hp}(lo:Int)(n:Nat):aJ K M H (cF lo n) (zh lo n):=by
 delta cF zh
 induction List.range n with
 |nil=>show .nil
 |cons k l ih=>show .cons (.int _) ih
def Il{e:Expr}{lo hi:Int}(h:ZT X z e g lo hi g1)(hc:X.calm=true)(hg:Gl X "list")(hm:X.mg "list"=none)(hs:starEach [e] X.env=[(false,eval e X.env)])(h1 : -(2 ^ 62)<=lo/\lo<2 ^ 62/\-(2 ^ 62)<=hi/\hi<2 ^ 62)(hl:(hi - lo).toNat<=16777216) :
  aD X z (.Call (.Name "list" lp) [e] [] pos) g (.new (cF lo (hi - lo).toNat)) g1:=by
 apply aD.of λaj s σ As M H Post I st k=>?_
 apply Call_ (g8 I hg hm (by rfl:bootBuiltins ("list":Str)=!(.type "list")) (oI ?_ hs rfl))
 rw[hs];exact wpAny _ _ (spliced ((false,eval e X.env)::[])) _ _ s;apply Calls.spliced_cons (h aj s σ As M H _ I st λr s1 H1 aQ M1 t u v I1 q1 q2 hr=>Calls.spliced_nil ?_)
 have hn:Builtin.Range.rangeSize lo hi 1=(((hi - lo).toNat:Nat):Int):=by rw[rangeSize_one];split <;> lia
 apply call_list_range (I1.ok.hd hc) hr (small_one h1.1 h1.2.1 h1.2.2.1 h1.2.2.2) hn hl λh' tk acc' c' hk hS' hacc=>?_
 have hf:H1 s1⁻¹=none:=I1.hok.fresh (eA _);have s2:=q1.aU (xs:=zh lo (hi - lo).toNat) hf;have vv:=Ec hacc;have I2:L2.Inv X aj σ (upd H1 s1⁻¹ (.lst (zh lo (hi - lo).toNat))) { s1 with heap:=h',toks:=tk}:=
  I1.laid (t':=tk) hk (eA _) (show cX X.prog X.w _ h' _ (.lst (zh lo (hi - lo).toNat))from#[by rw[vv.length,sB,hacc.1];show pP hl,acc'.toList,c',vv,by simpa using hS'])
 show k (.ref s1⁻¹) _ _ _ aQ (s1⁻¹::M1) I2 rfl s2 (q2.trans (au.aU hf)) #[_,_,rfl,dC,λhA=>q1.fresh hf (q1.sub _ hA),q1.cD hf,aC,Ed _ _]
end
section
def uE{ns: ~~~0}{aA:List Value}(r:Vals (ns.map V.int) aA){i:Nat}{v:Value}(h:aA[i]?=!v):∃t,v=.int (ns.getD i 0) t:=by
 have hi:i<ns.length:=by have:=(dE.mp h).1;have e:=r.length;rw[eJ]at e;lia
 let(w,e1,e2):=r.get (i:=i) (x:=V.int ns[i]) (by simp[hi])
 rw[h]at e1;cases e1;let(t,e):=e2;show#[t,by rw[e];simp[List.getD,hi]]
end
def qh(o:Obj)(f):(o.mapFields f).dict=o.dict:=by let(c,d,dt,sl):=o;cases dt <;> rfl
structure vN(h₀:Heap)(x C:Addr)(H:Hp)(h:Heap):Prop where
 obj:∃oe vs,h.get? x=!oe/\oe.cls=.ref C/\oe.dict=none/\oe.data=.fields vs/\1<vs.size/\(vs[1]?=some .none\/∃T oT ts,vs[1]?=!(.ref T)/\T≠x/\h₀.get? T=none/\H T=none/\h.get? T=!oT/\oT.data=.fields ts/\ts[3]?=some .none)
 new:h₀.get? x=none
 no:H x=none
section
def lg
  (hfr:A.frames=!(env::outer)) (hl:s.heap.FunFrames base (env::outer)) (hf:env.frame=!L) (he:s.heap.get? x=!oe) (hd:oe.data=.fields vs) (jK:1<vs.size)
  (h:∀h',(∀b o,b∉frs (env::outer)->b≠x->s.heap.get? b=!o->h'.get? b=!o)->(∀b o,b∈frs (env::outer)->s.heap.get? b=!o->∃sl,h'.get? b=some { o with slots:=sl})->
   (∃Gn vs' oT ts,h'.get? x=!Gn/\Gn.cls=oe.cls/\Gn.dict=oe.dict/\Gn.data=.fields vs'/\1<vs'.size/\vs'[1]?=!(.ref s⁻¹)/\h'.get? s⁻¹=!oT/\oT.data=.fields ts/\ts[3]?=some .none)->Q () { s with heap:=h'}) :
  wpAny M A (do let a <- frameOf env;let pl <- entryPlaceOf L hadNext;let b <- EntryCells.newEntry head a .none (rawInt L) .none pl;setField (.ref x) 1 b) (λ_ s'=>wpAny M A (setFlight (.ref x) none) Q E s') E s:=by
 have hx:x∉(env::outer).filterMap (·.frame):=λhm=>by
  let(_,o,ho,hnf):=hl.mem hm;rw[he]at ho;cases ho;show hnf vs hd
 apply aS (wpAny_frameOf_fun hfr hl hf λh₁ hs₁=>?_)
 apply aS (wpAny_entryPlaceOf λpl lP=>?_)
 apply aS (nS ?_ (lP.sizeOk5 _ _ _ _ _));have he₁:=(hs₁.2.1 x hx).trans he;generalize hO:({ cls:=.type "traceback",dict:=none,data:=.fields ([head,.ref L,.none,rawInt L,.none]++(if pl.isEmpty then List.replicate 6 Value.none else pl)).toArray}:Obj)=O
 have he₂:=dA O he₁;have hsz₁:=hs₁.1;have hT₂:(h₁.push O).get? h₁.objs.size=!O:=eD _ (by rw[<- hO];rfl)
 apply Bz he₂ hd jK ?_;have U4:=AC (eM he₁);have hd₃:=yB hd (·.setIfInBounds 1 (Value.ref h₁.objs.size));have he₃:=nV (Obj.mapFields (·.setIfInBounds 1 (Value.ref h₁.objs.size))) he₂ (xL hd₃);have hT₃:=(hU (h₁.push O) (Obj.mapFields (·.setIfInBounds 1 (Value.ref h₁.objs.size))) (mM U4)).trans hT₂;have hdO:O.data=.fields ([head,.ref L,.none,rawInt L,.none]++(if pl.isEmpty then List.replicate 6 Value.none else pl)).toArray:=by rw[<- hO]
 apply aS (mP he₃ hd₃ (x:=.ref h₁.objs.size) (by simp[jK]) ?_)
 apply Bz hT₃ hdO (by simp only[dL,eP,kA] <;> lia) (h _ ?_ ?_ ?_)
 . intro b o hb N1 ho;have ZV:=(hs₁.2.1 b hb).trans ho;rw[hU _ _ (AC (eM ZV)),hU _ _ (mM N1)];show dA _ ZV
 .
  intro b o hb ho;let(sl,ZV):=hs₁.2.2 b o ho;have N1:b≠x:=λq=>hx (q▸hb)
  apply#[sl,?_];rw[hU _ _ (AC (eM ZV)),hU _ _ (mM N1)];show dA _ ZV
 .
  rw[<- hsz₁];apply#[_,_,_,_,(hU _ _ U4).trans he₃,Obj.cls_mapFields _ _,qh _ _,hd₃,by simp[jK],by simp[jK],nV _ hT₃ (xL (yB hdO _)),yB hdO _,?_]
  first
   | (simp;done)
   | (rcases lP with rfl |⟨_,_,_,_,_,_,_,rfl⟩ <;> simp)
def rE
  (hfr:A.frames=!(env::outer)) (hl:s.heap.FunFrames base (env::outer)) (hf:env.frame=!L) (fl:vN h₀ x C H s.heap) (hn:h₀.get? s⁻¹=none) (hH:∀b,s⁻¹<=b->H b=none)
  (h:∀h',(∀b o,b∉frs (env::outer)->(h₀.get? b=none->H b=none->∀vs,o.data≠.fields vs)->s.heap.get? b=!o->h'.get? b=!o)->(∀b o,b∈frs (env::outer)->s.heap.get? b=!o->∃sl,h'.get? b=some { o with slots:=sl})->
   vN h₀ x C H h'->(∀b o,s.heap.get? b=!o->∃o',h'.get? b=!o')->Q () { s with heap:=h'}):wpAny M A (noteFrame (.ref x) env) (λ_ s'=>wpAny M A (setFlight (.ref x) none) Q E s') E s:=by
 let((oe,vs,he,hc,bZ,hd,jK,hT),X3,X4):=fl;have hxf:x∉frs (env::outer):=λhm=>by
  let(_,o,ho,hnf):=hl.mem hm;rw[he]at ho;cases ho;show hnf vs hd
 have fin:∀(T0:Addr) (h1 h':Heap),(∀b,b≠T0->h1.get? b=s.heap.get? b)->(T0=x\/(h₀.get? T0=none/\H T0=none/\T0∉frs (env::outer)/\∃oT ts,s.heap.get? T0=!oT/\oT.data=.fields ts))->(∀o,s.heap.get? T0=!o->∃o',h1.get? T0=!o')->h1.objs.size=s⁻¹->
   (∀b o,b∉frs (env::outer)->b≠x->h1.get? b=!o->h'.get? b=!o)->(∀b o,b∈frs (env::outer)->h1.get? b=!o->∃sl,h'.get? b=some { o with slots:=sl})->
   (∃Gn vs' oT ts,h'.get? x=!Gn/\Gn.cls=oe.cls/\Gn.dict=oe.dict/\Gn.data=.fields vs'/\1<vs'.size/\vs'[1]?=!(.ref h1.objs.size)/\h'.get? h1.objs.size=!oT/\oT.data=.fields ts/\ts[3]?=some .none)->Q () { s with heap:=h'}:=by
  rintro T0 h1 h' a1 a2 a2' a3 k1 k2 ⟨Gn,vs',oT,ts,e1,e2,MP,e3,e4,e5,e6,e7,e8⟩;have hTf:=a2.elim (λq=>q▸hxf) λq=>q.2.2.1
  apply h h' (λb o hb hH' ho=>?_) (λb o hb ho=>?_) #[#[Gn,vs',e1,e2.trans hc,MP.trans bZ,e3,e4,.inr #[h1.objs.size,oT,ts,e5,?_,?_,?_,e6,e7,e8]],X3,X4] λb o ho=>?_
  .
   have N1:b≠x:=λq=>by
    subst q;rw[he]at ho;cases ho;show hH' X3 X4 vs hd
   have hbT:b≠T0:=λq=>a2.elim (λz=>N1 (q.trans z)) (by
    rintro⟨z1,z2,_,oT,ts,z3,z4⟩;subst q;rw[z3]at ho;cases ho;show hH' z1 z2 ts z4)
   show k1 b o hb N1 ((a1 b hbT).trans ho)
  . show k2 b o hb ((a1 b (λq=>hTf (q▸hb))).trans ho)
  . rw[a3];show AC (eM he)
  . rw[a3];show hn
  . rw[a3];show hH _ (eA _)
  .
   by_cases N1:b=x
   . show#[Gn,N1▸e1]
   .
    have h1b:∃o1,h1.get? b=!o1:=by
     by_cases hbT:b=T0
     . subst hbT;show a2' o ho
     . show#[o,(a1 b hbT).trans ho]
    let(o1,Rk):=h1b;by_cases hb:b∈frs (env::outer)
    . let(sl,q):=k2 b o1 hb Rk;show#[_,q]
    . show#[o1,k1 b o1 hb N1 Rk]
 delta noteFrame;simp only[hf];rcases hT with hT |⟨T,oT,ts,h1,U4,hTn,hTH,LW,L0,h3⟩
 . apply aS (mP he hd hT ?_);show lg hfr hl hf he hd jK λh' k1 k2 k3=>fin x s.heap h' (λ_ _=>rfl) (.inl rfl) (λo ho=>#[o,ho]) rfl k1 k2 k3
 .
  apply aS (mP he hd h1 ?_);apply aS (mP LW L0 h3 ?_);apply aS (Bz LW L0 (At.mp h3).1 ?_);have other:∀b,b≠T->(s.heap.update T (Obj.mapFields (·.setIfInBounds 3 Value.none))).get? b=s.heap.get? b:=λb hb=>hU _ _ (mM hb)
  have hTf:T∉frs (env::outer):=λhm=>by
   let(_,o,ho,hnf):=hl.mem hm;rw[LW]at ho;cases ho;show hnf ts L0
  have rec':∀b o,s.heap.get? b=!o->(∀vs,o.data≠.fields vs)->b≠T:=λb o hb hnf q=>by
   rw[q,LW]at hb;cases hb;show hnf ts L0
  apply lg hfr (hl.of_keeps λb o hb hnf=>#[o,(other b (rec' b o hb hnf)).trans hb,rfl]) hf ((other x (mM U4)).trans he) hd jK λh' k1 k2 k3=>?_
  show fin T _ h' other (.inr #[hTn,hTH,hTf,oT,ts,LW,L0]) (λo ho=>#[_,nV _ LW (xL (yB L0 _))]) (BC ..) k1 k2 k3
end
def vN.mono(f:vN h₁ x C H h)(hm:∀b o,h₀.get? b=!o->∃o',h₁.get? b=!o'):vN h₀ x C H h:=by
 have no:∀b,h₁.get? b=none->h₀.get? b=none:=λb hb=>by
  cases e:h₀.get? b with
  |none=>rfl
  |some o=>let(o',e'):=hm b o e;rw[hb]at e';cases e'
 let((oe,vs,h1,h2,h2',h3,h4,h5),h6,h7):=f;show#[#[oe,vs,h1,h2,h2',h3,h4,h5.imp id (by rintro⟨T,oT,ts,q1,q2,q3,q4⟩;show#[T,oT,ts,q1,q2,no T q3,q4])],no x h6,h7]
abbrev Gp(P:Program)(w:World):Di:=λouter H s E e s'=>∃x C H',e=.ref x/\s'.os=s.os/\AllBare s'.gens/\Un (frs outer) [] H H' s.heap s'.heap/\lT P w H' s'.heap/\vN s.heap x C H' s'.heap/\E (.ref C) none H'
def Im(hx:X.ex=[])(I:L2.Inv X aj σ H s)(h:Gp X.prog X.w X.stack H s E e s') :
  ∃x C H',e=.ref x/\L2.Inv X aj σ H' s'/\vN X.s₀.heap x C H' s'.heap/\E (.ref C) none H':=by
 let(x,C,H',rfl,h1,h2,h3,h4,h5,h6):=h;show#[x,C,H',rfl,I.call' h1 h3 h4 h2 (λb z=>absurd z ⋯),h5.mono λb o e=>I.base.there b o e (by rw[hx];simp),h6]
section
def wA(I:L2.Inv X aj σ H' s')(cZ:X.stack=X.env::X.outer)(hf:X.env.frame=!X.env.locals)(hex:X.ex=[])(fl:vN X.s₀.heap x C H' s'.heap)
  (h:∀h'',(∀b o,b∉frs (X.env::X.outer)->(X.s₀.heap.get? b=none->H' b=none->∀vs,o.data≠.fields vs)->s'.heap.get? b=!o->h''.get? b=!o)->(∀b o,b∈frs (X.env::X.outer)->s'.heap.get? b=!o->∃sl,h''.get? b=some { o with slots:=sl})->
   Un (frs X.outer) [] X.H₀ H' X.s₀.heap h''->lT X.prog X.w H' h''->vN X.s₀.heap x C H' h''->Q () { s' with heap:=h''}) :
  wpAny (~~~2) X.A (noteFrame (.ref x) X.env) (λ_ s2=>wpAny (~~~2) X.A (setFlight (.ref x) none) Q E' s2) E' s':=by
 have hl:=I.stack;rw[cZ]at hl;have ub:=hex▸I.base;have hsf:=I.tT;rw[cZ]at hsf;apply rE (I.ok.frames.trans (by rw[cZ])) hl hf fl (Heap.get?_none_of_le I.sz) (λb hb=>I.hok.fresh hb) λh'' k1 k2 k3 k4=>?_
 have hin:∀b,b∈frs X.outer->b∈frs (X.env::X.outer):=λb hb=>by
  delta frs;rw[t5,hf];show bP _ hb
 have hno:∀b o,X.s₀.heap.get? b=!o->b∉frs X.outer->b∉frs (X.env::X.outer):=λb o ho hb hm=>by
  delta frs at hm;rw[t5,hf]at hm;rcases dS.mp hm with e |hm
  . rw[e]at ho;show nK _ (fA (eM ho) I.ok.above)
  . show hb hm
 have hlt:∀b o (ob:Obj),X.s₀.heap.get? b=!o->(X.s₀.heap.get? b=none->H' b=none->∀vs,ob.data≠.fields vs):=λb o ob ho hb=>by rw[ho]at hb;cases hb
 apply h h'' k1 k2 #[λb o q n hb hx=>?_,λb o q n hb hx=>?_,ub.free,λb o q hx=>?_,ub.tups,ub.kG,ub.kI] (λa o e=>?_) k3
 . show k1 b o (hno b o q hb) (hlt b o _ q) (ub.keep b o q n hb hx)
 . let(sl,e1):=ub.slot b o q n hb hx;let(sl',e2):=k2 b _ (hin b hb) e1;show#[sl',e2]
 . let(o',e1):=ub.there b o q hx;show k4 b o' e1
 .
  apply (I.hok a o e).stay (λb u hb q=>?_) (λ_ q=>q) λ_ _ q=>q
  have ht:H' b≠none:=by
   rcases hb with rfl |hb
   . rw[e];simp
   . rw[hb];simp
  show k1 b u (λhm=>ht (hsf b hm)) (λ_ z=>absurd z ht) q
def sH(I:L2.Inv X aj σ H' s')(cZ:X.stack=X.env::X.outer)(hf:X.env.frame=!X.env.locals)(hex:X.ex=[])(fl:vN X.s₀.heap x C H' s'.heap)
  (h:∀s'',Gp X.prog X.w X.outer X.H₀ X.s₀ (λc o h=>c=.ref C/\o=none/\h=H') (.ref x) s''->Q () s'') :
  wpAny (~~~2) X.A (leaving X.env (.ref x)) Q E' s':=by
 show aS (wA I cZ hf hex fl λh'' _ _ u k f=>h _ #[x,C,H',rfl,I.os,I.bare,u,k,f,rfl,rfl,rfl])
def Ef(I:L2.Inv X [] σ H' s')(hp:X.pn=[])(cZ:X.stack=X.env::X.outer)(hf:X.env.frame=!X.env.locals)(hex:X.ex=[])(fl:vN X.s₀.heap x C H' s'.heap)
  (h:∀s'',L2.Inv X [] σ H' s''->vN X.s₀.heap x C H' s''.heap->Q () s'') :
  wpAny (~~~2) X.A (noteFrame (.ref x) X.env) (λ_ s2=>wpAny (~~~2) X.A (setFlight (.ref x) none) Q E' s2) E' s':=by
 apply wA I cZ hf hex fl λh'' k1 k2 u k f=>h _ ?_ f
 have cellK:∀c v,s'.heap.IsCell c v->h''.IsCell c v:=by
  rintro c v ⟨o,e,d⟩;by_cases hb:c∈frs (X.env::X.outer)
  . let(sl,e2):=k2 c o hb e;show#[_,e2,d]
  . show#[o,k1 c o hb (λ_ _ vs q=>by rw[d]at q;cases q) e,d]
 have hlm:X.env.locals∈frs (X.env::X.outer):=by delta frs;rw[t5,hf];show dC
 let(m,hn,hlk):=I.loc;apply#[I.ok,I.os,I.bare,hex▸u,#[m,?_,λi y v h1 h2 h3=>?_],λy c e=>?_,I.free,I.d9,λp hp2=>?_,k,I.len]
 . let(o,es,ep,e,d,r):=hn;let(sl,e2):=k2 _ o hlm e;show#[_,es,ep,e2,d,r]
 . let(u,r,q):=hlk i y v h1 h2 h3;apply#[u,r,q.imp id (by rintro⟨q1,c,q2,q3⟩;show#[q1,c,q2,cellK c _ q3])]
 . let(v,q):=I.cell y c e;show#[v,cellK c v q]
 . rw[hp]at hp2;cases hp2
end
def Io{P:Program}{w:World}{K:Frag}{mg:Str->Option Value}{base:Heap}{N:List Str}{qual:Str}{scope:Scope}{f:Addr}{cd:Value}{A:Around}{outer:List Env}{s:Shared}{H:Hp}{E:XK}{aj: ~~~1}{σ:Sg}{H':Hp}{s':Shared}{x C:Addr}
  (I:L2.Inv (g9 (Gp P w) P w K mg base N qual scope f cd A outer s H E) aj σ H' s') (fl:vN s.heap x C H' s'.heap) (hE:E (.ref C) none H'):(g9 (Gp P w) P w K mg base N qual scope f cd A outer s H E).xe (.ref x) s':=
 sH I rfl rfl rfl fl (by
  rintro s'' ⟨y,D,H2,e,h1,h2,h3,h4,h5,e1,e2,e3⟩;cases e;cases e1;subst e3;show#[x,C,H2,rfl,h1,h2,h3,h4,h5,hE])
abbrev Acc(X:Cx)(z:Z)(g':G)(M:List Addr)(H:Hp)(C:Addr)(σ:Sg):Prop:=
 ∀aj s1 H1 aQ M1 x,L2.Inv X aj σ H1 s1->S z g' σ aQ M1 H1->au M H M1 H1->vN X.s₀.heap x C H1 s1.heap->X.xe (.ref x) s1
abbrev Eg(X:Cx)(z:Z)(g':G)(M:List Addr)(H:Hp)(C:Addr):Prop:=∀σ,Acc X z g' M H C σ
def Acc.trans(st:au M H M1 H1)(h:Acc X z g' M H C σ):Acc X z g' M1 H1 C σ:=λaj s1 H2 aQ M2 x I s st' fl=>h aj s1 H2 aQ M2 x I s (st.trans st') fl
def Eg.trans(st:au M H M1 H1)(h:Eg X z g' M H C):Eg X z g' M1 H1 C:=λσ=>(h σ).trans st
abbrev Gq(X:Cx)(z:Z)(e:Expr)(g:G)(C:Addr)(g':G):Prop:=∃t,PE X e t/\∀σ As M H Q,S z g σ As M H->Acc X z g' M H C σ->t σ H Q
abbrev X5(X:Cx)(z:Z)(e:Expr)(g:G)(C:Addr)(g':G):Prop:=∃t,PT X e t/\∀σ As M H Q,S z g σ As M H->Acc X z g' M H C σ->t σ H Q
abbrev ZW(X:Cx)(z:Z)(es:List Expr)(g:G)(C:Addr)(g':G):Prop:=∃t,PA X es t/\∀σ As M H Q,S z g σ As M H->Acc X z g' M H C σ->t σ H Q
abbrev U5(X:Cx)(z:Z)(st:Stmt)(g:G)(C:Addr)(g':G):Prop:=∃t,PS X st t/\∀σ As M H E,S z g σ As M H->Eg X z g' M H C->t E σ H
abbrev N2(X:Cx)(z:Z)(jS:List Stmt)(g:G)(C:Addr)(g':G):Prop:=∃t,tU X jS t/\∀σ As M H E,S z g σ As M H->Eg X z g' M H C->t E σ H
section
variable{st:Stmt}
def aD.lift(h:aD X.tW z e g r g'):aD X z e g r g':=let #[t,q,k]:=h;#[t,q.tW,k]
def cS.lift(h:cS X.tW z e g v g'):cS X z e g v g':=let #[t,q,k]:=h;#[t,q.tW,k]
def U6(h:Gq X z e g C g')(he:∀whole,isTrue e X.env whole=(do let v <- whole;standAt e.pos;holding [v] (truthy v))):X5 X z e g C g':=by let(t,q,k):=h;show#[_,Se q he,λσ As M H Q s ac=>k σ As M H _ s ac]
def N3(h:X5 X z a g C g'):X5 X z (.UnaryOp .Not a pos) g C g':=by let(t,q,k):=h;show#[_,GJ q,λσ As M H Q s ac=>k σ As M H _ s ac]
def N4(h:Gq X z e g C g')(hs:starEach (e::es) X.env=(false,eval e X.env)::starEach es X.env):ZW X z (e::es) g C g':=by
 let(t,q,k):=h;have pn:PA X es (λ_ _ _=>False):=λ_ _ _ _ _ _ _ h=>h.elim
 show#[_,bJ q pn hs,λσ As M H Q s ac=>k σ As M H _ s ac]
def N5(h1:aD X z e g r g1)(h:ZW X z es g1 C g')(hs:starEach (e::es) X.env=(false,eval e X.env)::starEach es X.env):ZW X z (e::es) g C g':=by let(t1,q1,k1):=h1;let(t,q,k):=h;show#[_,bJ q1 q hs,λσ As M H Q s ac=>k1 σ As M H _ s λv H1 aQ M1 s1 dc R1=>k σ aQ M1 H1 _ s1 (ac.trans dc)]
def U7(h:Gq X z e g C g'):U5 X z (.Return (!e) pos) g C g':=by let(t,q,k):=h;show#[_,tX q,λσ As M H E s ac=>k σ As M H _ s (ac σ)]
def N6(h:Gq X z e g C g')(hs:swapsWith e none pos.line X.env=pure false):U5 X z (.Expr e pos) g C g':=by let(t,q,k):=h;show#[_,oE q hs,λσ As M H E s ac=>k σ As M H _ s (ac σ)]
def U8(h:X5 X z c g C g'):U5 X z (.If c x y pos) g C g':=by let(t,q,k):=h;show#[_,o8 q bC bC,λσ As M H E s ac=>k σ As M H _ s (ac σ)]
def Ip(h1:cS X z c g v g1)(h:N2 X z (if v then x else y) g1 C g'):U5 X z (.If c x y pos) g C g':=by
 let(t1,q1,k1):=h1;let(t,q,k):=h;cases v with
 |true=>show#[_,o8 q1 q bC,λσ As M H E s ac=>k1 σ As M H _ s λH' aE M' s' st=>jV (k σ aE M' H' _ s' (ac.trans st))]
 |false=>show#[_,o8 q1 bC q,λσ As M H E s ac=>k1 σ As M H _ s λH' aE M' s' st=>n9 (k σ aE M' H' _ s' (ac.trans st))]
def N7(h:U5 X z st g C g'):N2 X z (st::jS) g C g':=by let(t,q,k):=h;show#[_,eu q bC,λσ As M H E s ac=>k σ As M H _ s ac]
def N8(h1:iz X z st g .nx g1)(h:N2 X z jS g1 C g'):N2 X z (st::jS) g C g':=by let(t1,q1,k1):=h1;let(t,q,k):=h;show#[_,eu q1 q,λσ As M H E s ac=>k1 σ As M H _ s λσ' aE M' H' s' st'=>k σ' aE M' H' E s' (ac.trans st')]
end
abbrev SpX(K:Frag)(N:List Str)(np:Nat)(run:List Nat->G->Addr->G->Prop):Sp:=λvs H _ E=>
 vs.length=np/\∃(z:Z) (g g':G) (As M:List Addr) (C:Addr),z.K=K/\S z g (L2.start N vs) As M H/\run z.bor g C g'/\∀σ' aE M' H',S z g' σ' aE M' H'->au M H M' H'->E (.ref C) none H'
section
variable{run:List Nat->G->Addr->G->Prop}
def U9{P:Program}{w:World}{K:Frag}{mg:Str->Option Value}{base:Heap}{qual:Str}{st:Stmt}(F:LQ K x qual st f fd)(Sc:cI N ps (aH st))
  (h:∀(bO:Value) (A:Around) (outer:List Env) (s:Shared) (H:Hp) (E:XK),PySem.W.codeIn K bO qual=true->cO k (A.deeper (envOfC qual (aH st) s⁻¹ f bO))->
   ∀(z:Z) (g:G) (C:Addr) (g':G),z.K=K->run z.bor g C g'->N2 (g9 (Gp P w) P w K mg base N qual (aH st) f bO A outer s H E) z (bH st) g C g') :
  jT P w K mg base (Gp P w) (k+1) f fd ps (SpX K N ps.length run):=by
 let(oc,od,kV,doc,pm,an,bO,ct,osl,rfl,lk,bZ):=F.ex;apply Ra lk bZ Sc (λvs H Q E q=>q.1) ?_
 rintro A outer s H vs Q E hr ⟨_,z,g,g',As,M,C,hK,hs,hrun,hQ⟩;let(t,q,kk):=h bO A outer s H E bZ hr z g C g' hK hrun;show#[t,q,kk _ As M H _ hs λσ aj s1 H1 aQ M1 y I s' st' fl=>Io I fl (hQ σ aQ M1 H1 s' st')]
def N9(F:jT X.prog X.w X.K X.mg X.base (Gp X.prog X.w) k f fd ps (SpX X.K N ps.length run))(hK:z.K=X.K)(hex:X.ex=[])(hr:cO k X.A)(hg:Gl X x)(hm:X.mg x=!(.ref f))(hk:PySem.W.keepIn X.K (.ref f)=true)(hb:L2.Binds X.K fd ps [])
  (ha:cY X z (e::es) g rs g1) (aN:rs.length=ps.length) (hl:cL rs g1=!gs) (nd:((vars 0 rs).map (·.2)).Nodup) (hrun:run ((vars 0 rs).map (·.1)) (dG N.length gs) C gc) (HY:back (vars 0 rs) gc g1=!gO)
  (jR:(x==(~~~3))=false) (he:starEach (e::es) X.env=(false,eval e X.env)::starEach es X.env) (lP:(backTo pos (starEach es X.env)).any (·.1)=false) :
  Gq X z (.Call (.Name x p) (e::es) [] pos) g C gO:=by
 apply#[λσ H Q=>∃As M,S z g σ As M H/\Acc X z gO M H C σ,?_,λσ As M H Q s ac=>#[As,M,s,ac]]
 rintro aj s σ H Q I ⟨As,M,hs,ac⟩;apply u8 (fW I hg hm ?_ jR);apply AS (h₀:=X.base) I.ok.mod.Gj hk (ha.run (pos:=pos) I hs λvs us s1 H1 aQ M1 I1 r1 q1 q2 R1=>#[I1.nj,?_]) he lP
 have hv:vs.length=rs.length:=R1.length;have hl2:(us++[]).length=ps.length:=by rw[mB,<- r1.length,hv,aN]
 have ee:=q1.enter (N:=N) R1 hl nd;apply DJ (BF (F.run X.A X.stack s1 H1 #[us,[]] (us++[]) (vs++[]) (λ_ _=>False) (λcls _ H'=>cls=.ref C/\∃bD M2,S z gO σ bD M2 H'/\au M H M2 H') hr I1.Mu (hb s1 us I1.nj hl2) (by rw[mB,mB];show r1) ?_) λr s' hq=>?_)
 .
  rw[mB];apply#[by rw[hv,aN],sD z σ M1 H1 rs,dG N.length gs,gc,_,M1,C,hK,ee,by rw[mj];show hrun,λσ' aE M' H' s' st'=>#[rfl,?_]]
  let(M2,s2,aM,_):=q1.leave (r:=.dat .non) (v:=.non) R1 hl nd s' st' .non HY rfl;show#[aQ,M2,s2,q2.trans aM]
 .
  cases r with
  |error ev=>
   have hq:Gp X.prog X.w X.stack H1 s1 (λcls _ H'=>cls=.ref C/\∃bD M2,S z gO σ bD M2 H'/\au M H M2 H') ev s':=hq
   let(y,C',H',rfl,I',fl,hC,bD,M2,s2,aM):=Im hex I1 hq;cases hC;show ac aj s' H' bD M2 y I' s2 aM fl
  |ok flw=>
   cases flw with
   |ret u=>
    have hq:CE X.stack X.prog X.w H1 s1 (λ_ _=>False) u s':=hq
    let(_,_,_,_,_,_,_,q):=hq;show q.elim
   |next=>show False.elim hq
   |brk=>show False.elim hq
   |cont=>show False.elim hq
end
abbrev veM:List Value:=[.type "ValueError",.type "Exception",.type "BaseException",.type "object"]
meta abbrev fU(K:Frag)(C:Addr):Prop:=PySem.W.excIn K C veM "ValueError.__new__"=true
def uF{K:Frag}{h:Heap}{C:Addr}(X:K.In h)(q:fU K C) :
  ∃bm N nm qn bs hdct sn sub ab col dd k0 k1 k2 k3 k5 mN,h.get? C=!(excClassObj nm qn C N bs bm hdct sn sub ab col dd k0 k1 k2 k3 k5 "ValueError.__new__")/\h.Ns N mN/\mN "__init__"=none/\OwnTail h veM bm:=by
 delta fU PySem.W.excIn at q;split at q
 .
  ext dd cd sl ho;split at q
  .
   ext C' bm k0 k1 k2 k3 n k5 hm hs;simp only[eQ,beq_iff_eq,CL]at q;let(((((rfl,rfl),ZX),ht),hok),hni):=q;let(nm,bs,mro,ns,qn,hd,sn,sub,ab,col,del):=cd;dsimp only at hm ZX hok hni;subst hm ZX;have hsl:sl = ([k0,k1,k2,k3,!(.builtin "ValueError.__new__"),k5].toArray):=by obtain⟨l⟩:=sl;simp only at hs;rw[hs]
   subst hsl;show#[bm,ns,nm,qn,bs,hd,sn,sub,ab,col,dd,k0,k1,k2,k3,k5,_,X _ _ ho,.of_isNs (PySem.W.isNs_of_in X hok),PySem.W.nsMap_none_of_in X hok hni,PySem.W.tail_of_in X ht]
  . cases q
 . cases q
def wB(x:cX P w H h a o):∃ob,h.get? a=!ob:=by
 induction o with
 |lst xs=>let(_,_,_,_,e):=x;show#[_,e]
 |tup xs=>let(_,_,_,ob,e,_):=x;show#[_,e]
 |dK iN=>let(_,_,_,_,o,_,_,e,_):=x;show#[_,e]
 |dT iN=>let(_,_,_,_,o,_,_,e,_):=x;show#[_,e]
 |set S n=>let(o,_,_,_,e,_):=x;show#[_,e]
 |ins C dx fs=>let(_,_,_,e,_):=x;show#[_,e]
 |own y=>show x
 |xd fs=>let(mA,(o,_,_,e,_),_):=x;show#[_,e]
 |rng lo hi=>let(_,_,_,e):=x;show#[_,e]
 |fT o u ih=>show#[_,x.1]
 |ni ps=>show#[_,x]
 |met f y=>show#[_,x]
 |ext φ=>show x.2.1
section
def Iq(hc:X.calm=true)(hex:X.ex=[])(hq:fU X.K C)(hg:Gl X x)(hm:X.mg x=!(.ref C))(jR:(x==(~~~3))=false)(ha:cY X z [m] g [.dat d] g1)(hs:starEach [m] X.env=[(false,eval m X.env)]) :
  U5 X z (.Raise (!(.Call (.Name x np) [m] [] bw)) none pos) g C g1:=by
 apply#[λ_ σ H=>∃As M,S z g σ As M H/\Eg X z g1 M H C,?_,λσ As M H E s ac=>#[As,M,s,ac]]
 rintro aj s σ H E I ⟨As,M,st,ac⟩;let(bm,N,nm,qn,bs,hdct,sn,sub,ab,col,dd,k0,k1,k2,k3,k5,mN,hC,hN,hni,T):=uF I.ok.mod.Gj hq;apply wpAny_Raise_call_subU (Bn:= "ValueError") (C:=C) (nm:=nm) (q:=qn) (N:=N) (bs:=bs) (bm:=bm) (hdct:=hdct) (sn:=sn) (sub:=sub) (ab:=ab) (col:=col) (dd:=dd) (k0:=k0) (k1:=k1) (k2:=k2) (k3:=k3) (k5:=k5) PySem.F.excBase_ValueError ⋯ PySem.F.excBase_ValueError (T.hasType ⋯) (I.ok.hd hc) (by rw[hs];rfl) hni (fW I hg hm #[rfl,?_] jR)
 rw[hs];apply Calls.evalArgs_plain (x:=eval m X.env) (rest:=[]) ?_;have e1:spliced ((false,eval m X.env)::[])=spliced (backTo bw (starEach [m] X.env)):=by rw[hs];rfl
 rw[e1];apply (ha.run I st λvs us s1 H1 aQ M1 I1 r1 q1 q2 R1=>?_)
 apply#[rfl,?_,I1.bk _ _ hC,hN.keeps I1.bk,T.keeps I1.bk,λh' e hme=>?_]
 . exact us.length<=sizeLine;have:=r1.length;rw[R1.length]at this;rw[<- this,oQ];show (by decide:(1:Nat)<=16777216)
 .
  have I2:L2.Inv X aj σ H1 { s1 with heap:=h'}:=I1.kept (t':=s1.toks) hme.keeps;have fy:H1 e=none:=by
   cases q:H1 e with
   |none=>rfl
   |some o=>let(ob,ho):=wB (I1.hok e o q);have hn:=hme.new;rw[ho]at hn;cases hn
  apply ac σ aj _ H1 aQ M1 e I2 q1 q2 ?_;let(t,ht,_,_):=hme.there;apply#[#[_,_,ht,rfl,rfl,rfl,by simp,.inl ⋯],?_,fy]
  cases q:X.s₀.heap.get? e with
  |none=>rfl
  |some o=>
   let(ob,ho):=I1.base.there e o q (by rw[hex];simp)
   have hn:=hme.new;rw[ho]at hn;cases hn
end
section
def Ir(F:jT X.prog X.w X.K X.mg X.base yX k f fd ps sp)(h:ZW X z (e::es) g C g')(hr:cO k X.A)(hg:Gl X x)(hm:X.mg x=!(.ref f))(hk:PySem.W.keepIn X.K (.ref f)=true)(hb:L2.Binds X.K fd ps [])
  (jR:(x==(~~~3))=false) (he:starEach (e::es) X.env=(false,eval e X.env)::starEach es X.env) (lP:(backTo pos (starEach es X.env)).any (·.1)=false):Gq X z (.Call (.Name x p) (e::es) [] pos) g C g':=by
 let(t,q,kk):=h;show#[_,Bc F hr hg hm hk hb .nil Rc q jR he lP,λσ As M H Q s ac=>kk σ As M H _ s ac]
end
open PySem PySem.W PyProof.Rows
abbrev iP{α:Type}(lt:Nat->Nat->Bool):KasT α->α
 |.ret a=>a
 |.ask i j k=>iP lt (k (lt i j))
def fz{α β:Type}(lt:Nat->Nat->Bool)(f:α->KasT β):∀t:KasT α,iP lt (t.bind f)=iP lt (f (iP lt t))
 |.ret _=>rfl
 |.ask i j k=>fz lt f (k (lt i j))
structure j5(α:Type) where
 lt:α->α->Bool
 irr:∀a,lt a a=false
 tr:∀a b c,lt a b=true->lt b c=true->lt a c=true
 tot:∀a b,lt a b=false->lt b a=false->a=b
namespace j5
variable{α:Type}(O:j5 α)
abbrev le(a b:α):Prop:=O.lt b a=false
variable{O}
def le_refl(a:α):O.le a a:=O.irr a
def le_of_lt(h:O.lt a b=true):O.le a b:=by
 delta le;cases e:O.lt b a
 . rfl
 . have:=O.tr _ _ _ h e;rw[O.irr]at this;cases this
def sI(h1:O.le a b)(h2:O.le b c):O.le a c:=by
 delta le at *;cases e:O.lt c a with
 |false=>rfl
 |true=>
  exfalso;cases e1:O.lt a b with
  |true=>have:=O.tr _ _ _ e e1;rw[h2]at this;cases this
  |false=>have hab:=O.tot a b e1 h1;subst hab;rw[h2]at e;cases e
def Bu(h1:O.le a b)(h2:O.le b a):a=b:=O.tot a b h2 h1
end j5
section
variable{α:Type}
abbrev fc(key:Nat->α)(p:Array Nat)(i:Nat):α:=key (p.getD i 0)
abbrev jG(O:j5 α)(key:Nat->α)(p:Array Nat)(n:Nat):Prop:=∀i j,i<=j->j<n->O.le (fc key p i) (fc key p j)
abbrev j6(O:j5 α)(key:Nat->α)(p:Array Nat)(n:Nat):Prop:=∀i j,i<=j->j<n->O.le (fc key p j) (fc key p i)
abbrev oG(O:j5 α)(key:Nat->α)(i j:Nat):Bool:=O.lt (key i) (key j)
def getD_some{p q:Array Nat}{i j:Nat}(h:p[i]?=q[j]?):p.getD i 0=q.getD j 0:=by rw[Ap,Ap,h]
def oH{p:Array Nat}{i j:Nat}(hj:j<=p.size)(k:Nat):fc key (kas_rev p i j) k=if i<=k/\k<j then fc key p (i+j - 1 - k)else fc key p k:=by
 have e:=getElem?_mirror_all (i:=i) hj k;delta fc kas_rev;split
 . ext h;rw[i7 h]at e;rw[getD_some e]
 . ext h;rw[lL h]at e;rw[getD_some e]
def Oa{p:Array Nat}{src d:Nat}(hs:src<p.size)(hd:d<=src)(k:Nat):fc key (bubble p src d) k=if k=src - d then fc key p src else if src - d<k/\k<=src then fc key p (k - 1)else fc key p k:=by
 have e:=getElem?_bubble hs d hd k;delta fc;by_cases h1:k=src - d
 . rw[i7 h1]at e ⊢;rw[getD_some e]
 .
  rw[lL h1]at e ⊢
  by_cases h2:src - d<k/\k<=src
  . rw[i7 h2]at e ⊢;rw[getD_some e]
  . rw[lL h2]at e ⊢;rw[getD_some e]
def jG.ext(h:jG O key p n)(hl:O.lt (fc key p n) (fc key p (n - 1))=false)(h1:1<=n):jG O key p (n+1):=by
 intro i j hij hj;by_cases e:j<n
 . show h i j hij e
 .
  have:j=n:=by lia
  subst this;by_cases e2:i=j
  . subst e2;show j5.le_refl _
  . show j5.sI (h i (j - 1) ⋯ ⋯) hl
def zj:∀(f n:Nat),1<=n->jG O key p n->∃m,iP (oG O key) (kas_asc p f n)=m/\n<=m/\m<=n+f/\jG O key p m/\(m<n+f->O.lt (fc key p m) (fc key p (m - 1))=true)
 | 0,n,_,h=>#[n,rfl,eA _,eA _,h,λz=>absurd z (nK _)]
 |f+1,n,h1,h=>by
  exact ∃m,iP (oG O key) (if oG O key (p.getD n 0) (p.getD (n - 1) 0)=true then KasT.ret n else kas_asc p f (n+1))=m/\_
  cases e:oG O key (p.getD n 0) (p.getD (n - 1) 0)with
  |true=>show#[n,rfl,eA _,by lia,h,λ_=>e]
  |false=>let(m,q1,q2,q3,q4,q5):=zj f (n+1) ⋯ (h.ext e h1);show#[m,q1,by lia,by lia,q4,λz=>q5 ⋯]
def j6.ext(h:j6 O key p n)(hl:O.le (fc key p n) (fc key p (n - 1)))(h1:1<=n):j6 O key p (n+1):=by
 intro i j hij hj;by_cases e:j<n
 . show h i j hij e
 .
  have:j=n:=by lia
  subst this;by_cases e2:i=j
  . subst e2;show j5.le_refl _
  . show j5.sI hl (h i (j - 1) ⋯ ⋯)
def j6.Va(h:j6 O key p n)(hk:∀k,fc key p' k=fc key p k):j6 O key p' n:=λi j a b=>by rw[hk,hk];show h i j a b
abbrev Z0(key:Nat->α)(p:Array Nat)(n q:Nat):Prop:=q+1<=n/\∀k,n - (q+1)<=k->k<n->fc key p k=fc key p (n - 1)
def Bv(h:Z0 key p n q)(hz:n<=p.size)(k:Nat):fc key (kas_rev p (n - (q+1)) n) k=fc key p k:=by
 rw[oH hz];split
 . ext hk;rw[h.2 k hk.1 hk.2,h.2 (n - (q+1)+n - 1 - k) ⋯ ⋯]
 . rfl
def oJ:∀(f:Nat) (p:Array Nat) (n q:Nat),1<=n->n+f<=p.size->j6 O key p n->Z0 key p n q->
  ∃p' m q',iP (oG O key) (kas_desc f p n q)=(p',m,q')/\p'.Perm p/\n<=m/\m<=n+f/\j6 O key p' m/\Z0 key p' m q'
 | 0,p,n,q,_,_,h,hq=>#[p,n,q,rfl,B7 _,eA _,eA _,h,hq]
 |f+1,p,n,q,h1,hz,h,hq=>by
  exact ∃p' m q',iP (oG O key) (if oG O key (p.getD n 0) (p.getD (n - 1) 0)=true then (if q > 0 then kas_desc f (kas_rev p (n - (q+1)) n) (n+1) 0 else kas_desc f p (n+1) 0)
   else .ask (p.getD (n - 1) 0) (p.getD n 0) λd=>if d=true then .ret (p,n,q)else kas_desc f p (n+1) (q+1))=(p',m,q')/\_
  cases e:oG O key (p.getD n 0) (p.getD (n - 1) 0)with
  |true=>
   have hl:=j5.le_of_lt e;have one:∀p':Array Nat,Z0 key p' (n+1) 0:=λp'=>#[by lia,λk a b=>by have:k=n:=⋯;subst this;rfl]
   by_cases hq0:q > 0
   .
    rw[i7 hq0];have hk:=Bv hq (by lia:n<=p.size)
    have hF:=(h.ext hl h1).Va hk;let(p',m,q',r1,r2,r3,r4,r5,r6):=oJ f (kas_rev p (n - (q+1)) n) (n+1) 0 ⋯ (by rw[kas_rev_size];lia) hF (one _)
    show#[p',m,q',r1,r2.trans (mirror_perm _ _ _ _),by lia,by lia,r5,r6]
   . rw[lL hq0];let(p',m,q',r1,r2,r3,r4,r5,r6):=oJ f p (n+1) 0 ⋯ ⋯ (h.ext hl h1) (one _);show#[p',m,q',r1,r2,by lia,by lia,r5,r6]
  |false=>
   exact ∃p' m q',iP (oG O key) (if oG O key (p.getD (n - 1) 0) (p.getD n 0)=true then .ret (p,n,q)else kas_desc f p (n+1) (q+1))=(p',m,q')/\_
   cases e2:oG O key (p.getD (n - 1) 0) (p.getD n 0)with
   |true=>show#[p,n,q,rfl,B7 _,eA _,by lia,h,hq]
   |false=>
    have he:fc key p n=fc key p (n - 1):=O.tot _ _ e e2;have hq':Z0 key p (n+1) (q+1):=#[by have:=hq.1;lia,λk a b=>by
     exact fc key p k=fc key p n;by_cases hk:k=n
     . subst hk;rfl
     .
      rw[he];show hq.2 k ⋯ ⋯]
    let(p',m,q',r1,r2,r3,r4,r5,r6):=oJ f p (n+1) (q+1) ⋯ ⋯ (h.ext (by rw[he];show j5.le_refl _) h1) hq'
    show#[p',m,q',r1,r2,by lia,by lia,r5,r6]
def Iu(h:j6 O key p n)(hz:n<=p.size):jG O key (kas_rev p 0 n) n:=λi j a b=>by
 rw[oH hz,oH hz,i7 #[by lia,by lia],i7 #[by lia,by lia]]
 show h _ _ ⋯ ⋯
def wC(h1:1<=n)(hn:n<=nrem)(hz:nrem<=p.size)(h:j6 O key p n):∃m p',iP (oG O key) (kas_tail3 n nrem p)=(m,p')/\p'.Perm p/\1<=m/\m<=nrem/\jG O key p' m:=by delta kas_tail3;rw[fz];let(m,q1,q2,q3,q4,_):=zj (nrem - n) n h1 (Iu h ⋯);rw[q1];show#[m,_,rfl,mirror_perm _ _ _ _,by lia,by lia,q4]
def nG(h1:1<=n)(hn:n+1<=nrem)(hz:nrem<=p.size)(h:j6 O key p (n+1)):∃m p',iP (oG O key) (kas_descPart n nrem p)=(m,p')/\p'.Perm p/\1<=m/\m<=nrem/\jG O key p' m:=by
 delta kas_descPart;rw[fz];let(p',m,q',r1,r2,r3,r4,r5,r6):=oJ (nrem - (n+1)) p (n+1) 0 ⋯ ⋯ h #[by lia,λk a b=>by have:k=n:=⋯;subst this;rfl]
 rw[r1];have hs:=r2.size_eq;by_cases hq:q' > 0
 .
  rw[i7 hq];have hk:=Bv r6 (by lia:m<=p'.size)
  let(m',p2,s1,s2,s3,s4,s5):=wC (nrem:=nrem) ⋯ ⋯ (by rw[kas_rev_size];lia) (r5.Va hk)
  show#[m',p2,s1,(s2.trans (mirror_perm _ _ _ _)).trans r2,s3,s4,s5]
 . rw[lL hq];let(m',p2,s1,s2,s3,s4,s5):=wC (nrem:=nrem) ⋯ ⋯ ⋯ r5;show#[m',p2,s1,s2.trans r2,s3,s4,s5]
def Iv(h1:1<=n)(hz:n<=p.size):∃m p',iP (oG O key) (kas_count n p)=(m,p')/\p'.Perm p/\1<=m/\m<=n/\jG O key p' m:=by
 delta kas_count;rw[fz];let(m,q1,q2,q3,q4,q5):=zj (O:=O) (n - 1) 1 (eA _) (λi j a b=>by have e1:i=0:=⋯;have e2:j=0:=⋯;subst e1;subst e2;show j5.le_refl _)
 rw[q1];by_cases e1:(m==n)=true
 . rw[i7 e1];show#[m,p,rfl,B7 _,q2,by lia,q4]
 .
  rw[lL e1];have hlt:=q5 ⋯;by_cases e2:m > 1
  .
   rw[i7 e2];exact ∃m' p',iP (oG O key) (if oG O key (p.getD 0 0) (p.getD (m - 1) 0)=true then KasT.ret (m,p)else kas_descPart m n (kas_rev p 0 m))=(m',p')/\_
   cases e3:oG O key (p.getD 0 0) (p.getD (m - 1) 0)with
   |true=>show#[m,p,rfl,B7 _,q2,by lia,q4]
   |false=>
    have eq0:∀k,k<m->fc key p k=fc key p (m - 1):=λk hk=>by
     apply j5.Bu (q4 k (m - 1) ⋯ ⋯) ?_;show j5.sI (show O.le (fc key p (m - 1)) (fc key p 0)from e3) (q4 0 k ⋯ hk)
    have hk:∀k,fc key (kas_rev p 0 m) k=fc key p k:=λk=>by
     rw[oH ⋯];split
     . rw[eq0 _ ⋯,eq0 k ⋯]
     . rfl
    have hF:j6 O key (kas_rev p 0 m) (m+1):=by
     apply j6.Va (j6.ext (λi j a b=>?_) (j5.le_of_lt hlt) ⋯) hk
     rw[eq0 i ⋯,eq0 j b];show j5.le_refl _
    let(m',p2,s1,s2,s3,s4,s5):=nG q2 (by lia:m+1<=n) (by rw[kas_rev_size];show hz) hF
    show#[m',p2,s1,s2.trans (mirror_perm _ _ _ _),s3,s4,s5]
  .
   rw[lL e2];have hF:=j6.ext (λi j a b=>by have e1:i=0:=⋯;have e2:j=0:=⋯;subst e1;subst e2;show j5.le_refl _) (j5.le_of_lt hlt) q2
   show nG q2 ⋯ hz hF
def qi(hR:jG O key p k):∀(f l r:Nat),l<=r->r<=k->r - l<=f->(∀i,i<l->O.le (fc key p i) (fc key p k))->(∀i,r<=i->i<k->O.lt (fc key p k) (fc key p i)=true)->
  ∃m,iP (oG O key) (kas_place p k f l r)=m/\m<=k/\(∀i,i<m->O.le (fc key p i) (fc key p k))/\∀i,m<=i->i<k->O.lt (fc key p k) (fc key p i)=true
 | 0,l,r,h1,h2,h3,h4,h5=>#[l,rfl,by lia,h4,λi a b=>h5 i ⋯ b]
 |f+1,l,r,h1,h2,h3,h4,h5=>by
  delta kas_place;by_cases e:l ≥ r
  . rw[i7 e];show#[l,rfl,by lia,h4,λi a b=>h5 i ⋯ b]
  .
   rw[lL e];exact ∃m,iP (oG O key) (if oG O key (p.getD k 0) (p.getD ((l+r) / 2) 0)=true then kas_place p k f l ((l+r) / 2)else kas_place p k f ((l+r) / 2+1) r)=m/\_
   cases e2:oG O key (p.getD k 0) (p.getD ((l+r) / 2) 0)with
   |true=>
    apply qi hR f l ((l+r) / 2) ⋯ ⋯ ⋯ h4 λi a b=>?_
    by_cases hi:r<=i
    . show h5 i hi b
    .
     have q:=hR _ _ a b;cases e3:O.lt (fc key p k) (fc key p i)with
     |true=>rfl
     |false=>
      have:=j5.sI q (show O.le (fc key p i) (fc key p k)from e3)
      have MP:O.lt (fc key p k) (fc key p ((l+r) / 2))=true:=e2;rw[this]at MP;cases MP
   |false=>
    apply qi hR f ((l+r) / 2+1) r ⋯ h2 ⋯ (λi a=>?_) h5
    show j5.sI (hR i ((l+r) / 2) ⋯ ⋯) e2
def Iw:∀(f:Nat) (p:Array Nat) (k:Nat),k+f<=p.size->jG O key p k->∃p',iP (oG O key) (kas_bin f p k)=p'/\p'.Perm p/\jG O key p' (k+f)
 | 0,p,k,_,h=>#[p,rfl,B7 _,h]
 |f+1,p,k,hz,h=>by
  delta kas_bin;rw[fz];let(l,q1,q2,q3,q4):=qi h k 0 k (wT _) (eA _) ⋯ (λi a=>absurd a (AJ _)) (λi a b=>absurd (Nat.lt_of_le_of_lt a b) (nK _))
  rw[q1];have hk:=λi=>Oa (key:=key) (p:=p) (src:=k) (d:=k - l) ⋯ ⋯ i
  have hR:jG O key (bubble p k (k - l)) (k+1):=λi j a b=>by
   rw[hk,hk];have e:k - (k - l)=l:=by lia
   rw[e];by_cases i1:i=l
   .
    rw[i7 i1];by_cases j1:j=l
    . rw[i7 j1];show j5.le_refl _
    .
     rw[lL j1,i7 #[by lia,by lia]]
     show j5.le_of_lt (q4 (j - 1) ⋯ ⋯)
   .
    rw[lL i1];by_cases i2:l<i/\i<=k
    .
     rw[i7 i2,lL ⋯,i7 #[by lia,by lia]]
     show h _ _ ⋯ ⋯
    .
     rw[lL i2];by_cases j1:j=l
     . rw[i7 j1];show q3 i ⋯
     .
      rw[lL j1];by_cases j2:l<j/\j<=k
      . rw[i7 j2];show h _ _ ⋯ ⋯
      . rw[lL j2];show h _ _ a ⋯
  let(p',s1,s2,s3):=Iw f (bubble p k (k - l)) (k+1) (by rw[bubble_size];lia) hR
  show#[p',s1,s2.trans (bubble_perm _ _ _),by rw[show k+(f+1)=k+1+f by lia];show s3]
def Ob(h1:1<=n):∃p,iP (oG O key) (kas_sort n)=p/\p.Perm (List.range n).toArray/\jG O key p n:=by
 delta kas_sort;rw[fz];let(m,p,q1,q2,q3,q4,q5):=Iv (p:=(List.range n).toArray) h1 ⋯;rw[q1];have hs:p.size=n:=by rw[q2.size_eq];simp
 have e:max m 1=m:=by lia
 rw[e];by_cases hm:m<n
 . rw[i7 hm];let(p',s1,s2,s3):=Iw (n - m) p m ⋯ q5;show#[p',s1,s2.trans q2,by rw[show m+(n - m)=n by lia]at s3;show s3]
 .
  rw[lL hm];have:m=n:=by lia
  subst this;show#[p,rfl,q2,q5]
end
abbrev Bw{α:Type}(n:Nat)(P:α->Prop):KasT α->Prop
 |.ret a=>P a
 |.ask i j k=>i<n/\j<n/\∀b,Bw n P (k b)
def Bw.bind{α β:Type}{n:Nat}{P:α->Prop}{Q:β->Prop}{f:α->KasT β}:∀{t:KasT α},Bw n P t->(∀a,P a->Bw n Q (f a))->Bw n Q (t.bind f)
 |.ret a,h,hf=>hf a h
 |.ask _ _ _,h,hf=>#[h.1,h.2.1,λb=>(h.2.2 b).bind hf]
def wD{α:Type}{n:Nat}{P:α->Prop}{lt:Nat->Nat->Bool}{cmp:Nat->Nat->(Bool->Shared->Prop)->Shared->Prop}{Q:α->Shared->Prop}{s:Shared}(hc:∀i j C,i<n->j<n->C (lt i j) s->cmp i j C s):∀t:KasT α,Bw n P t->Q (iP lt t) s->t.kasWp cmp Q s
 |.ret _,_,h=>h
 |.ask i j k,ok,h=>hc i j _ ok.1 ok.2.1 (wD hc (k (lt i j)) (ok.2.2 _) h)
abbrev qj(n:Nat)(p:Array Nat):Prop:=0<n/\∀x∈p.toList,x<n
def qj.at(h:qj n p)(i:Nat):p.getD i 0<n:=by
 rw[Ap];cases e:p[i]? with
 |none=>show h.1
 |some x=>show h.2 x (by rw[At]at e;let(hi,rfl):=e;simp)
def qj.perm(h:qj n p)(e:p'.Perm p):qj n p':=#[h.1,λx hx=>h.2 x ((A8.mp e).mem_iff.mp hx)]
def qj.rev(h:qj n p)(i j:Nat):qj n (kas_rev p i j):=h.perm (mirror_perm _ _ _ _)
def qj.bub(h:qj n p)(i j:Nat):qj n (bubble p i j):=h.perm (bubble_perm _ _ _)
section
def zm(h:qj N p):∀f n,Bw N (λ_=>True) (kas_asc p f n)
 | 0,_=>trivial
 |f+1,n=>#[h.at _,h.at _,λb=>by cases b <;> first |show trivial |show zm h f (n+1)]
def oK:∀f p n q,qj N p->Bw N (λr=>qj N r.1) (kas_desc f p n q)
 | 0,_,_,_,h=>h
 |f+1,p,n,q,h=>by
  apply#[h.at _,h.at _,λb=>?_]
  dsimp only;cases b with
  |true=>
   by_cases hq:q > 0
   . rw[i7 hq];show oK f _ _ _ (h.rev _ _)
   . rw[lL hq];show oK f _ _ _ h
  |false=>
   apply#[h.at _,h.at _,λd=>?_]
   cases d with
   |true=>show h
   |false=>show oK f _ _ _ h
def wF{p:Array Nat}{n nrem:Nat}(h:qj N p):Bw N (λr=>qj N r.2) (kas_tail3 n nrem p):=(zm (h.rev 0 n) _ _).bind λ_ _=>h.rev 0 n
def nI{p:Array Nat}{n nrem:Nat}(h:qj N p):Bw N (λr=>qj N r.2) (kas_descPart n nrem p):=by
 apply (oK _ _ _ _ h).bind λr hr=>?_
 by_cases hq:r.2.2 > 0
 . rw[i7 hq];show wF (qj.rev hr _ _)
 . rw[lL hq];show wF hr
def Iz{p:Array Nat}{n:Nat}(h:qj N p):Bw N (λr=>qj N r.2) (kas_count n p):=by
 apply (zm h _ _).bind λm _=>?_
 by_cases e1:(m==n)=true
 . rw[i7 e1];show h
 .
  rw[lL e1];by_cases e2:m > 1
  .
   rw[i7 e2];apply#[h.at _,h.at _,λb=>?_]
   cases b with
   |true=>show h
   |false=>show nI (h.rev _ _)
  . rw[lL e2];show nI h
def qk(h:qj N p):∀f l r,Bw N (λ_=>True) (kas_place p k f l r)
 | 0,_,_=>trivial
 |f+1,l,r=>by
  delta kas_place;by_cases e:l ≥ r
  . rw[i7 e];show trivial
  .
   rw[lL e];apply#[h.at _,h.at _,λb=>?_]
   cases b with
   |true=>show qk h f _ _
   |false=>show qk h f _ _
def IK:∀f p k,qj N p->Bw N (λ_=>True) (kas_bin f p k)
 | 0,_,_,_=>trivial
 |f+1,p,k,h=>(qk h _ _ _).bind λl _=>IK f _ _ (h.bub _ _)
def Oc{n:Nat}(h:0<n):Bw n (λ_=>True) (kas_sort n):=by
 apply (Iz #[h,λx hx=>by simpa using hx]).bind λr hr=>?_
 by_cases e:r.1<n
 . rw[i7 e];show IK _ _ _ hr
 . rw[lL e];show trivial
end
open L2 PySem.W
section
variable{α:Type}{key:Nat->α}
abbrev fK(s:Shared)(a:Addr)(vs:List Value):Shared:={ s with heap:=((s.heap.update a (Obj.mapSeq λ_=>([].toArray))).push (seqObj "tuple" vs.toArray 0)).push (seqObj "list" ([].toArray) 0)}
def wG(hb:b≠a)(h:s.heap.get? b=!o):(fK s a vs).heap.get? b=!o:=
 dA _ (dA _ ((hU s.heap _ hb.symm).trans h))
def IV(ho:s.heap.get? a=!(seqObj "list" vs.toArray n))(h2:2<=vs.length)(h64:vs.length<64)
  (hk:∀Q:SortKind->Shared->Prop,Q κ (fK s a vs)->wpAny (model prog w) A (keyKind' vs.toArray) Q (λ_ _=>False) (fK s a vs))
  (hc:∀i j C,i<vs.length->j<vs.length->C (oG O key i j) (fK s a vs)->kas_ask prog w A κ vs i j C (fK s a vs))
  (h:∀p:Array Nat,p.Perm (List.range vs.length).toArray->jG O key p vs.length->P (.done (.ret .none)) { s with heap:=sortedHeap s.heap a vs (p.toList.map λi=>vs.getD i Value.none).toArray}) :
  wpAny (model prog w) A (Builtin.«list.sort» #[[.ref a],[]]) P E s:=by
 obtain⟨e1,Rk⟩:∃e1,(s.heap.update a (Obj.mapSeq λ_=>([].toArray))).get? a=!(seqObj "list" ([].toArray) e1):=#[_,get?_update_seq ho (λ_=>([].toArray))]
 have Z1:(fK s a vs).heap.get? a=!(seqObj "list" ([].toArray) e1):=dA _ (dA _ Rk);have hz:vs.length<=sizeLine:=(by rw[oQ];lia)
 rw[list_sort_plain];apply aS (listItems_at ho rfl (aS (listUpdate_at ho rfl (aS (seqEpoch_at Rk rfl (aS (wpAny_newTuple (aS (C3 (mE ?_) (wT _))) (by exact vs.length<=_;show hz))))) (by simpa using hz) (wT _))))
 have hn : ¬ vs.toArray.size<2:=by rw[dL];lia
 rw[lL hn,lL hn];apply aS (l6 (hk (λk s0=>k=κ/\s0=fK s a vs) #[rfl,rfl]) ?_ λ_ _ z=>z.elim)
 rintro _ _ ⟨rfl,rfl⟩;let(p0,q1,q2,q3):=Ob (n:=vs.length) ⋯;apply aS (l6 (kat_run (Q:=λst' s'=>s'=fK s a vs/\failedOf st'=none/\(arrOf st').map (·.2)=(p0.toList.map λi=>vs.getD i Value.none).toArray) (G:=λp s'=>s'=fK s a vs/\p=p0)
  rfl h2 h64 (λp st' s' _ har hf hg=>?_) (wD hc _ (Oc ⋯) #[rfl,q1])) ?_ λ_ _ z=>z)
 . let(rfl,rfl):=hg;show#[rfl,hf,kat_snds rfl har]
 .
  rintro⟨⟨⟩,st'⟩ s' ⟨rfl,hf,hout⟩;dsimp only at hf hout ⊢
  have aN:(p0.toList.map λi=>vs.getD i Value.none).length=vs.length:=by rw[eJ,sB,q2.size_eq];simp
  rw[hout];apply aS (seqEpoch_at Z1 rfl (aS (listUpdate_at Z1 rfl ?_ (wT _) (by exact (List.toArray _).size<=_;rw[dL];lia))))
  rw[hf];simp only[bne_self_eq_false];show d5 (h p0 q2 q3)
def Bx{β:Type}:∀l:List β,(l.zip l).map (·.2)=l
 | []=>rfl
 |x::l=>by rw[BY,List.map_cons,Bx l]
def IW(ho:s.heap.get? a=!(seqObj "list" vs.toArray n))(h2:vs.length<2)
  (h:P (.done (.ret .none)) { s with heap:=sortedHeap s.heap a vs vs.toArray}):wpAny (model prog w) A (Builtin.«list.sort» ⟨[.ref a],[]⟩) P E s:=by
 obtain⟨e1,Rk⟩:∃e1,(s.heap.update a (Obj.mapSeq λ_=>([].toArray))).get? a=!(seqObj "list" ([].toArray) e1):=#[_,get?_update_seq ho (λ_=>([].toArray))]
 have Z1:(fK s a vs).heap.get? a=!(seqObj "list" ([].toArray) e1):=dA _ (dA _ Rk);have hz:vs.length<=sizeLine:=(by rw[oQ];lia)
 rw[list_sort_plain];apply aS (listItems_at ho rfl (aS (listUpdate_at ho rfl (aS (seqEpoch_at Rk rfl (aS (wpAny_newTuple (aS (C3 (mE ?_) (wT _))) (by exact vs.length<=_;show hz))))) (by simpa using hz) (wT _))))
 have hn:vs.toArray.size<2:=by rw[dL];lia
 dsimp only;rw[i7 hn,i7 hn];apply aS (d5 ?_);apply aS (d5 ?_);have hout:(arrOf (SortSt.mk' general' (vs.toArray.zip vs.toArray) ([].toArray) 7 none)).map (·.2)=vs.toArray:=by exact (vs.toArray.zip vs.toArray).map (·.2)=vs.toArray;refine Array.toList_inj.mp;simp only[Array.toList_map,Array.toList_zip];show Bx vs
 rw[hout];apply aS (seqEpoch_at Z1 rfl (aS (listUpdate_at Z1 rfl ?_ (wT _) (by exact vs.toArray.size<=_;rw[dL];lia))))
 rw[lL ⋯];show d5 h
abbrev Od(h:Heap)(vs:List Value):Heap:=((h.push (seqObj "list" ([].toArray) 0)).update h.objs.size (Obj.mapSeq (· ++ vs.toArray))).push (seqObj "list" vs.toArray 0)
def sJ(h:Heap)(vs:List Value):((h.push (seqObj "list" ([].toArray) 0)).update h.objs.size (Obj.mapSeq (· ++ vs.toArray))).objs.size=h.objs.size+1:=(BC ..).trans (size_push' ..)
def uG(h:Heap)(vs:List Value):(Od h vs).get? (h.objs.size+1)=!(seqObj "list" vs.toArray 0):=by have:=eD ((h.push (seqObj "list" ([].toArray) 0)).update h.objs.size (Obj.mapSeq (· ++ vs.toArray))) (o:=seqObj "list" vs.toArray 0) rfl;rw[sJ]at this;show this
def wH(e:h.get? b=!o):(Od h vs).get? b=!o/\b≠h.objs.size+1:=by have hb:=eM e;apply#[dA _ ?_,kS (AZ hb)];rw[hU _ _ (AC hb)];show dA _ e
def Eh(hl:s.heap.IsList l vs.toArray\/IsTup s.heap l vs.toArray)(hz:vs.length<=sizeLine)
  (h:wpAny (model prog w) A.in1.in1 (Builtin.«list.sort» #[[.ref (s⁻¹+1)],[]]) (λf s'=>f=.done (.ret .none)/\Q (.ref (s⁻¹+1)) s') E { s with heap:=Od s.heap vs}) :
  wpAny (model prog w) A (call (.builtin "sorted") [.ref l]) Q E s:=by
 apply Calls.call_function_entry kind_sorted plain_sorted entry_sorted (args_sorted1 _) ?_;have go:wpAny (model prog w) A.in1 (collect (.ref l)) (λvs' s'=>vs'=vs/\s'={ s with heap:=(s.heap.push (seqObj "list" ([].toArray) 0)).update s⁻¹ (Obj.mapSeq (· ++ vs.toArray))}) E s:=by
  rcases hl with hl |hl
  . show collect_list hl #[rfl,rfl] hz
  . show jL hl #[rfl,rfl] hz
 apply aS (d5 (aS (l6 go ?_ λ_ _ z=>z)))
 rintro _ _ ⟨rfl,rfl⟩;apply aS (C3 ?_ hz);rw[sJ];apply aS (mE (wP slot_list_sort #[_,uG _ _,rfl] entry_list_sort (l6 h (λf s' hf=>#[_,hf.1,?_]) λ_ _ z=>z) (args_list_sort _)))
 show d5 #[_,rfl,hf.2]
end
def mF:∀a:List Int,HT.lexLt a a=false
 | []=>rfl
 |x::a=>by rw[HT.dR,i7 rfl,mF a]
def wI:∀a b c:List Int,HT.lexLt a b=true->HT.lexLt b c=true->HT.lexLt a c=true
 | [],[],_,h,_=>by symm
 |_::_,[],_,h,_=>by symm
 |_,_::_,[],_,h=>by symm
 | [],_::_,_::_,_,_=>rfl
 |x::a,y::b,z::c,h1,h2=>by
  rw[HT.dR]at h1 h2 ⊢
  by_cases e1:x=y
  .
   rw[i7 e1]at h1;subst e1;by_cases e2:x=z
   .
    rw[i7 e2]at h2 ⊢
    show wI a b c h1 h2
   .
    rw[lL e2]at h2 ⊢
    show h2
  .
   rw[lL e1]at h1;by_cases e2:y=z
   . rw[i7 e2]at h2;subst e2;rw[lL e1];show h1
   . rw[lL e2]at h2;rw[lL ⋯];show oC ⋯
def mG:∀a b:List Int,HT.lexLt a b=false->HT.lexLt b a=false->a=b
 | [],[],_,_=>rfl
 | [],_::_,h,_=>by symm
 |_::_,[],_,h=>by symm
 |x::a,y::b,h1,h2=>by
  rw[HT.dR]at h1 h2;by_cases e:x=y
  . subst e;rw[i7 rfl]at h1 h2;rw[mG a b h1 h2]
  .
   rw[lL e]at h1;rw[lL (λz=>e z.symm)]at h2
   lia
abbrev bW:j5 (~~~0):=#[HT.lexLt,mF,wI,mG]
section
variable{α:Type}(O:j5 α)
abbrev Ei(a:α):List α->List α
 | []=>[a]
 |b::l=>if O.lt b a then b::Ei a l else a::b::l
abbrev bQ:List α->List α
 | []=>[]
 |a::l=>Ei O a (bQ l)
variable{O}
def mH(a:α):∀l:List α,(Ei O a l).Perm (a::l)
 | []=>xI _
 |b::l=>by
  delta Ei;split
  . show ((mH a l).cons b).trans (List.Perm.swap a b l)
  . show xI _
def bE:∀l:List α,(bQ O l).Perm l
 | []=>xI _
 |a::l=>(mH a _).trans ((bE l).cons a)
def nJ(a:α):∀{l:List α},l.Pairwise O.le->(Ei O a l).Pairwise O.le
 | [],_=>List.pairwise_singleton _ _
 |b::l,h=>by
  let(h1,h2):=AD.mp h;delta Ei;cases e:O.lt b a with
  |true=>
   apply AD.mpr #[λx hx=>?_,nJ a h2]
   rcases dS.mp ((mH a l).mem_iff.mp hx)with rfl |hx
   . show j5.le_of_lt e
   . show h1 x hx
  |false=>
   apply AD.mpr #[λx hx=>?_,h]
   rcases dS.mp hx with rfl |hx
   . show e
   . show j5.sI (show O.le a b from e) (h1 x hx)
def fj:∀l:List α,(bQ O l).Pairwise O.le
 | []=>List.Pairwise.nil
 |a::l=>nJ a (fj l)
def iA(hp:m.Perm l)(hs:m.Pairwise O.le):m=bQ O l:=
 (hp.trans (bE l).symm).eq_of_pairwise (λx y _ _ h1 h2=>j5.Bu h1 h2) hs (fj l)
def iX{β:Type}(ks:List β)(d:β):(List.range ks.length).map (λi=>ks.getD i d)=ks:=by
 apply CU ⋯ λi h1 h2=>?_
 simp[lS h2]
def wJ(hp:p.Perm (List.range ks.length).toArray)(hr:jG O (λi=>ks.getD i d) p ks.length):p.toList.map (λi=>ks.getD i d)=bQ O ks:=by
 have hl:=A8.mp hp;apply iA ((hl.map _).trans (by rw[iX])) ?_
 rw[List.pairwise_iff_getElem];intro i j hi hj hij;have hs:p.size=ks.length:=by rw[hp.size_eq];simp
 rw[eJ,sB]at hi hj;have:=hr i j (DD hij) ⋯;delta fc at this;have e1:p.getD i 0=p[i]:=by simp[hi]
 have e2:p.getD j 0=p[j]:=by simp[hj]
 rw[e1,e2]at this;simpa using this
end
open L2 PySem.W
section
def Ja(hv:IntsAre vs ns):∀{ws:List Value}{ms: ~~~0} (i:Nat),IntsAre ws ms->fin=decide (ns.length<ms.length)->Q (HT.lexLt ns ms) s->KatLex prog w A true fin Q (vs.zip ws) i s:=by
 induction hv with
 |nil=>
  intro ws ms i hu hf h;apply kat_nil ?_;rw[hf];cases hu with
  |nil=>show h
  |cons _=>show h
 |@cons n t vs ns hv ih=>
  intro ws ms i hu hf h;cases hu with
  |nil=>apply kat_nil ?_;rw[hf];show h
  |@cons m t' us ms hu=>
   apply kat_cons (wpAny_eqBool_int (kat_go (λe=>?_) (λe=>?_)))
   .
    have e':=eq_of_beq e;apply kat_yes (ih (i+1) hu (by rw[hf];simp) ?_)
    rw[HT.dR,i7 e']at h;show h
   .
    have e':n≠m:=λq=>by rw[q]at e;simp at e
    rw[HT.dR,lL e']at h;apply kat_no ?_;cases i with
    |zero=>show oneLt_int h
    |succ i=>show kat_one _ _ (lt_int h)
abbrev Jb(h:Heap)(v:Value)(ns: ~~~0):Prop:=∃a ak,v=.ref a/\IsTup h a ak/\IntsAre ak.toList ns
def Jb.keep(x:Jb h v ns)(k:∀b o,h.get? b=!o->h'.get? b=!o):Jb h' v ns:=let #[a,aA,e,t,i]:=x;#[a,aA,e,t.keeps k,i]
inductive TupIs(h:Heap):List Value->List (~~~0)->Prop
 |nil:TupIs h [] []
 |cons {v:Value}{ns: ~~~0}{vs:List Value}{eL: ~~~5}:Jb h v ns->TupIs h vs eL->TupIs h (v::vs) (ns::eL)
def TupIs.keep(k:∀b o,h.get? b=!o->h'.get? b=!o)(t:TupIs h vs eL):TupIs h' vs eL:=by
 induction t with
 |nil=>show .nil
 |cons a b ih=>show .cons (a.keep k) ih
def TupIs.length(t:TupIs h vs eL):vs.length=eL.length:=by
 induction t with
 |nil=>rfl
 |cons a b ih=>show congrArg (· + 1) ih
def TupIs.at(t:TupIs h vs eL)(hi:i<vs.length):Jb h (vs.getD i .none) (eL.getD i []):=by
 induction t generalizing i with
 |nil=>show absurd hi (AJ _)
 |cons a b ih=>cases i with
  |zero=>show a
  |succ i=>show ih (AR hi)
def TupIs.firsts(t:TupIs h vs eL)(fy:∀ns∈eL,ns≠[]):∃fs:List Value,KatTups h vs fs/\fs.length=vs.length/\∀v∈fs,∃i t,v=.int i t:=by
 induction t with
 |nil=>show#[[],.nil,rfl,λ_ z=>nomatch z]
 |@cons v ns vs eL a b ih=>
  let(fs,q1,q2,q3):=ih λns hn=>fy ns (bP _ hn)
  let(a,ak,e,(o,e1,e2,n,e3),hi):=a;subst e;obtain⟨ak⟩:=ak;cases ak with
  |nil=>
   cases ns with
   |nil=>show absurd rfl (fy [] dC)
   |cons _ _=>cases hi
  |cons v ak=>
   cases ns with
   |nil=>cases hi
   |cons m ns=>cases hi;show#[_::fs,KatTups.cons e1 e2 e3 rfl q1,by rw[kA,kA,q2],λv hv=>(dS.mp hv).elim (λz=>#[_,_,z]) (q3 v)]
def Ej:Looks M h (typeOf (.int i t)) (.type "int"):=.now
def wK(hl:s.heap.IsList l vs.toArray\/IsTup s.heap l vs.toArray)(ht:TupIs s.heap vs eL)(fy:∀ns∈eL,ns≠[])(h64:vs.length<64)
  (h:∀p:List Nat,p.Perm (List.range vs.length)->p.map (λi=>eL.getD i [])=bQ bW eL->Q (.ref (s⁻¹+1)) { s with heap:=sortedAll s.heap vs (p.map λi=>vs.getD i Value.none).toArray}) :
  wpAny (model prog w) A (call (.builtin "sorted") [.ref l]) Q E s:=by
 have hz:vs.length<=sizeLine:=by rw[oQ];lia
 apply Eh hl hz ?_;have aN:=ht.length;by_cases h2:vs.length<2
 .
  apply IW (uG _ _) h2 #[rfl,?_];have:=h (List.range vs.length) (xI _) (by
   rw[aN]
   match eL,aN with
   | [],_=>rfl
   | [x],_=>rfl
   |_::_::_,hl2=>rw[hl2,kA,kA]at h2;lia)
  rw[iX]at this;show this
 .
  have keep:∀b o,s.heap.get? b=!o->(fK { s with heap:=Od s.heap vs} (s⁻¹+1) vs).heap.get? b=!o:=λb o e=>wG (wH (vs:=vs) e).2 (wH e).1
  have ht':=ht.keep keep;apply IV (κ:=tuples' true) (O:=bW) (key:=λi=>eL.getD i []) (uG _ _) ⋯ h64 (λQ' hq=>?_) (λi j C hi hj hC=>?_) λp hp hr=>#[rfl,?_]
  . let(fs,q1,q2,q3):=ht'.firsts fy;show kat_kind (T:=.type "int") q1 ⋯ (λv hv=>by let(i,t,rfl):=q3 v hv;show Ej) ⋯ hq
  . let(a,aA,e,(o,e1,e2,n,e3),q):=ht'.at hi;let(b,oB,e',(o2,e4,e5,n2,e6),q'):=ht'.at hj;exact wpAny _ _ (keyLt' (tuples' true) (vs.getD i Value.none) (vs.getD j Value.none)) C _ _;rw[e,e'];apply kat_lt e1 e3 e4 e6 (Ja q 0 q' ?_ hC);rw[<- q.length,<- q'.length];simp
  . rw[aN]at hp hr;show h p.toList (by rw[aN];show (A8.mp hp).trans ⋯) (wJ hp hr)
end
section
abbrev lq:List D->Option (~~~5)
 | []=>![]
 |.tup l::ds=>match cK l,lq ds with |!(n::ns),!eL=>!((n::ns)::eL) |_,_=>none
 |_::_=>none
inductive jM(K:Frag)(H:Hp):List V->List (~~~0)->Prop
 |nil:jM K H [] []
 |cons {a:Addr}{ns: ~~~0}{vs:List V}{eL: ~~~5}:gF K H a (ns.map V.int)->jM K H vs eL->jM K H (.ref a::vs) (ns::eL)
def jM.real(I:L2.Inv X aj σ H s)(t:jM X.K H xs eL):∀{aA:List Value},Vals xs aA->TupIs s.heap aA eL:=by
 induction t with
 |nil=>intro aA r;cases r;show .nil
 |cons q _ ih=>
  intro aA r;cases r with
  |cons r rs=>cases r;let(oB,r2,p,_):=I.tuple q;show .cons #[_,_,rfl,p,by simpa using intsAre_of r2] (ih rs)
def sL(h:Vals xs us):∀{i:Nat},i<xs.length->RelV (xs.getD i .non) (us.getD i .none):=by
 induction h with
 |nil=>intro i hi;show absurd hi (AJ _)
 |cons r _ ih=>
  intro i hi;cases i with
  |zero=>show r
  |succ i=>show ih (by simpa using hi)
def sM(h:Vals xs us):∀{p:List Nat},(∀i∈p,i<xs.length)->Vals (p.map λi=>xs.getD i .non) (p.map λi=>us.getD i .none)
 | [],_=>.nil
 |i::p,hp=>.cons (sL h (hp i dC)) (sM h λj hj=>hp j (bP _ hj))
def uH:e9 X (.builtin "sorted") (λxs H Q=>∃p ys eL,xs=[.ref p]/\(cg X.K H p ys\/gF X.K H p ys)/\jM X.K H ys eL/\(∀ns∈eL,ns≠[])/\ys.length<64/\
  ∀q (o:List Nat),H q=none->(∀i∈o,i<ys.length)->o.map (λi=>eL.getD i [])=bQ bW eL->Q (.ref q) (upd H q (.lst (o.map λi=>ys.getD i .non)))):=by
 intro aj s σ H xs us Q I r h;let(p,ys,eL,rfl,hq,ht,fy,hl,q):=h;let(u,rfl,rx):=vals1 r;cases rx;have fin:∀aA:List Value,Vals ys aA->(s.heap.IsList p aA.toArray\/IsTup s.heap p aA.toArray)->wpAny (~~~2) X.A (call (.builtin "sorted") [.ref p]) (EP X aj σ Q) X.xe s:=λaA r' pl=>by
  have aN:=r'.length;apply wK pl (ht.real I r') fy ⋯ λo ho hs=>?_
  let(ep,he):=sortedAll_at s.heap aA (o.map λi=>aA.getD i Value.none).toArray
  have hin:∀i∈o,i<ys.length:=λi hi=>by rw[aN];show t9.mp (ho.mem_iff.mp hi)
  have hol:o.length=ys.length:=by rw[ho.length_eq,List.length_range,aN]
  apply#[.ref (s⁻¹+1),_,I.laid (λb ob e=>sortedAll_old e) (AT _) ?_,rfl,q _ o (I.hok.fresh (AT _)) hin hs]
  apply#[by rw[eJ,oQ];lia,_,ep,sM r' hin,he]
 rcases hq with hq |hq
 . let(aA,r',pl,hz):=I.list hq;show fin aA r' (.inl pl.isList)
 . let(aA,r',pl,hz):=I.tuple hq;show fin aA r' (.inr pl)
def Oe(e:cK l=!ns):l=ns.map .int:=by
 induction l generalizing ns with
 |nil=>cases e;rfl
 |cons d l ih=>cases d with
  |int i=>
   have e:(match cK l with |some ns=>!(i::ns) |none=>none)=!ns:=e
   cases e2:cK l with
   |none=>rw[e2]at e;cases e
   |some ms=>rw[e2]at e;cases e;rw[List.map_cons,<- ih e2]
  |_=>cases e
def sN{K:Frag}{M:List Addr}{H:Hp}{l:List D}{xs:List V}{eL: ~~~5}(q:aJ K M H l xs)(e:lq l=!eL):jM K H xs eL/\(∀ns∈eL,ns≠[])/\l=eL.map λns=>.tup (ns.map .int):=by
 induction l generalizing xs eL with
 |nil=>cases q;cases e;show#[.nil,λ_ z=>(nomatch z),rfl]
 |cons d l ih=>cases q with |cons r q=>cases d with
  |tup m=>
   delta lq at e;split at e
   .
    ext n ns eL e1 e2;cases e;let(t1,t2,t3):=ih q e2;cases r with
    |tup ha rr=>
     have:=bX rr e1;subst this;apply#[.cons ha.sq t1,λx hx=>(dS.mp hx).elim (λz=>by rw[z];show List.cons_ne_nil _ _) (t2 x),?_]
     rw[List.map_cons,<- t3,Oe e1]
   . cases e
  |_=>cases e
def aJ.pick{K:Frag}{M:List Addr}{H:Hp}{ds:List D}{vs:List V}(h:aJ K M H ds vs):∀{o:List Nat},(∀i∈o,i<vs.length)->aJ K M H (o.map λi=>ds.getD i .non) (o.map λi=>vs.getD i .non)
 | [],_=>.nil
 |i::o,ho=>by
  apply .cons ?_ (h.pick λj hj=>ho j (bP _ hj))
  have hi:=ho i dC;have hd:i<ds.length:=by rw[h.length];show hi
  let(v,e1,e2):=h.get (i:=i) (d:=ds[i]) (by simp[hd])
  have q1:ds.getD i .non=ds[i]:=by simp[hd]
  have q2:vs.getD i .non=v:=by rw[gL,e1];rfl
  exact Rep K M H (ds.getD i .non) (vs.getD i .non);rw[q1,q2];show e2
def zo{d:D}{l:List D}{eL: ~~~5}(hK:z.K=X.K)(h:bV d=!l)(hi:lq l=!eL)(hl:eL.length<64):CallD X z (.builtin "sorted") [d] (.new ((bQ bW eL).map λns=>.tup (ns.map .int))):=by
 apply#[_,uH,λg σ As M H vs Q s p k=>?_]
 let(v,rfl,pv):=p.one;have main:∀(a:Addr) (xs:List V),aJ z.K M H l xs->(cg X.K H a xs\/gF X.K H a xs)->∃p ys eL,[V.ref a]=[.ref p]/\(cg X.K H p ys\/gF X.K H p ys)/\jM X.K H ys eL/\(∀ns∈eL,ns≠[])/\ys.length<64/\
   ∀q (o:List Nat),H q=none->(∀i∈o,i<ys.length)->o.map (λi=>eL.getD i [])=bQ bW eL->Q (.ref q) (upd H q (.lst (o.map λi=>ys.getD i .non))):=λa xs rr hq=>by
  let(t1,t2,t3):=sN rr hi;have aN:xs.length=eL.length:=by rw[<- rr.length,t3,eJ]
  apply#[a,xs,eL,rfl,hq,hK▸t1,t2,by lia,λq o hf hin hs=>?_]
  have e:((bQ bW eL).map λns=>D.tup (ns.map .int))=o.map λi=>l.getD i .non:=by
   rw[<- hs,List.map_map];apply nE λi hi=>?_
   have:i<eL.length:=by rw[<- aN];show hin i hi
   rw[t3];simp[this]
  have rr':=(rr.pick hin).stay (au.aU (o:=.lst (o.map λi=>xs.getD i .non)) hf)
  apply k _ _ As (q::M) (s.aU hf) (au.aU hf) #[q,_,rfl,dC,λhA=>s.fresh hf (s.sub q hA),s.cD hf,aC,?_]
  rw[e];show rr'
 cases d with
 |lst m=>symm;let(a,xs,rfl,e1,e2):=pv.list;show main a xs e2 (.inl (cg.of e1))
 |tup m=>symm;let(a,xs,rfl,e1,e2):=pv.tup;show main a xs e2 (.inr (hK▸e1.sq))
 |fix m=>symm;let(a,xs,rfl,e1,e2):=pv.fix;show main a xs e2 (.inl (hK▸e1.sq))
 |_=>symm
end
open L2 PySem.W
abbrev lu(n:Int): ~~~0->Int
 | []=>n
 |m::l=>lu (if m<n then m else n) l
def By:∀(l: ~~~0) (n:Int),lu n l<=n/\(∀x∈l,lu n l<=x)/\(lu n l=n\/lu n l∈l)
 | [],n=>#[Int.le_refl _,λ_ z=>(nomatch z),.inl rfl]
 |m::l,n=>by
  let(h1,h2,h3):=By l (if m<n then m else n)
  delta lu;apply#[?_,λx hx=>?_,?_]
  . split at h1 <;> split <;> lia
  .
   rcases dS.mp hx with rfl |hx
   . split at h1 <;> split <;> lia
   . show h2 x hx
  .
   rcases h3 with h3 |h3
   .
    by_cases hm:m<n
    . rw[i7 hm]at h3 ⊢;show .inr (by rw[h3];show dC)
    . rw[lL hm]at h3 ⊢;show .inl h3
   . show .inr (bP _ h3)
def Jc(n:Int)(l: ~~~0):(n::l).getD (argBest (λi j=>decide ((n::l).getD i 0<(n::l).getD j 0)) l.length) 0=lu n l:=by
 let(h1,h2):=argBest_lt (λi=>(n::l).getD i 0) l.length
 let(m1,m2,m3):=By l n;generalize argBest (λi j=>decide ((n::l).getD i 0<(n::l).getD j 0)) l.length=k at h1 h2 ⊢
 have hmem:(n::l).getD k 0∈n::l:=by
  have:k<(n::l).length:=by rw[kA];lia
  rw[gL,lS this];show AQ _
 have a:lu n l<=(n::l).getD k 0:=by
  rcases dS.mp hmem with e |e
  . rw[e];show m1
  . show m2 _ e
 have b:(n::l).getD k 0<=lu n l:=by
  have:=m3.elim (λe=>by rw[e];show dC) (bP _)
  let(j,hj,e):=List.getElem_of_mem this;have q:=h2 j (by rw[kA]at hj;lia)
  rw[show (n::l).getD j 0=lu n l by rw[gL,lS hj];show e]at q
  show q
 lia
section
variable{X:Cx}{z:Z}
def sO{h h':Heap}{o:Obj}(hk:∀b ob,b∉[h.objs.size]->(h.push o).get? b=!ob->h'.get? b=!ob):∀b ob,h.get? b=!ob->h'.get? b=!ob:=λb ob e=>
 hk b ob (λhm=>by
  have:b=h.objs.size:=by simpa using hm
  show absurd (eM e) (by rw[this];show nK _)) (dA _ e)
def Ek(hc:X.calm=true):e9 X (.builtin "min") (λxs H Q=>∃(p:Addr) (n:Int) (l: ~~~0),xs=[.ref p]/\(cg X.K H p ((n::l).map V.int)\/gF X.K H p ((n::l).map V.int))/\Q (.int (lu n l)) H):=by
 intro aj s σ H xs us Q I r h;let(p,n,l,rfl,hp,q):=h;let(u,rfl,rx):=vals1 r;cases rx;have hh:X.A.in1.handled=none:=I.ok.hd hc;have fin:∀(aA:List Value) (v:Value) (h':Heap) (tk:Nat),Vals ((n::l).map V.int) aA->aA[argBest (λi j=>decide ((n::l).getD i 0<(n::l).getD j 0)) (aA.length - 1)]?=!v->(∀b o,s.heap.get? b=!o->h'.get? b=!o)->EP X aj σ Q v { s with heap:=h',toks:=tk}:=by
  intro aA v h' tk rv hv hk;have aN:aA.length=l.length+1:=by rw[<- rv.length,eJ,kA]
  rw[aN,Nat.add_sub_cancel]at hv;let(t,rfl):=uE rv hv;show#[.int (lu n l),H,I.kept hk,#[t,by rw[Jc]],q]
 rcases hp with hp |hp
 .
  let(aA,rv,pl,hz):=I.list hp;have hlt:p<s⁻¹:=by let(_,e,_):=pl.isList;show eM e
  apply call_min_walk (AY pl.isList ?_);apply#[s⁻¹,_,_,_,_,_,_,rfl,Walks.list hh s⁻¹ p (kS hlt) aA.toArray,#[#[_,eD _ rfl,rfl,rfl],pl.isList.push _],λb hb=>?_,by rw[dL,<- rv.length];show Nat.succ_pos _,CmpOf.ints_lt (λi=>(n::l).getD i 0) (λi v hv=>uE rv (by simpa using hv)),λv h' tk hP hk=>fin aA v h' tk rv (by simpa using hP) (sO hk)]
  simp only[dS,l9,A7]at hb;rcases hb with rfl |rfl
  . show B8 (pE _) (qS _ _).symm
  . show B8 (AZ hlt) (qS _ _).symm
 .
  let(aA,rv,pl,hz):=I.tuple hp;have hlt:p<s⁻¹:=by let(_,e,_):=pl;show eM e
  have Z2:=pl;apply call_min_walk (x5 Z2 ?_);apply#[s⁻¹,_,_,_,_,_,_,rfl,Walks.tuple hh s⁻¹ p (kS hlt) aA.toArray,#[#[_,eD _ rfl,rfl,rfl],IsTup.keeps Z2 λb o e=>dA _ e],λb hb=>?_,by rw[dL,<- rv.length];show Nat.succ_pos _,CmpOf.ints_lt (λi=>(n::l).getD i 0) (λi v hv=>uE rv (by simpa using hv)),λv h' tk hP hk=>fin aA v h' tk rv (by simpa using hP) (sO hk)]
  simp only[dS,l9,A7]at hb;rcases hb with rfl |rfl
  . show B8 (pE _) (qS _ _).symm
  . show B8 (AZ hlt) (qS _ _).symm
def Jd(hK:z.K=X.K)(h:bV d=!l)(hi:cK l=!ns)(pv:Pk z.K M H d v):∃a,v=.ref a/\(cg X.K H a (ns.map V.int)\/gF X.K H a (ns.map V.int)):=by
 cases d with
 |lst m=>symm;let(a,xs,rfl,e1,e2):=pv.list;have:=bX e2 hi;subst this;show#[a,rfl,.inl (cg.of e1)]
 |tup m=>symm;let(a,xs,rfl,e1,e2):=pv.tup;have:=bX e2 hi;subst this;show#[a,rfl,.inr (hK▸e1.sq)]
 |fix m=>symm;let(a,xs,rfl,e1,e2):=pv.fix;have:=bX e2 hi;subst this;show#[a,rfl,.inl (hK▸e1.sq)]
 |_=>symm
def Og(hc:X.calm=true)(hK:z.K=X.K)(h:bV d=!l)(hi:cK l=!(n::ns)):CallD X z (.builtin "min") [d] (.dat (.int (lu n ns))):=by
 apply#[_,Ek hc,λg σ As M H vs Q s p k=>?_]
 let(v,rfl,pv):=p.one;let(a,rfl,q):=Jd hK h hi pv;show#[a,n,ns,rfl,q,k _ _ As M s (au.refl _ _) (.int _)]
end
open L2 PySem.W
section
abbrev Je(X:Cx)(z:Z)(id:String)(d0 d1:D)(r:R):Prop:=
 ∀(g:G) (aj: ~~~1) (s:Shared) (σ:Sg) (As M:List Addr) (H:Hp) (v0 v1:V) (u0 u1:Value) (Post:Value->Shared->Prop),L2.Inv X aj σ H s->S z g σ As M H->Pk z.K M H d0 v0->Pk z.K M H d1 v1->RelV v0 u0->RelV v1 u1->
  (∀v u s1 H1 aQ M1,L2.Inv X aj σ H1 s1->RelV v u->S z g σ aQ M1 H1->au M H M1 H1->dB z g σ aQ M1 H1 r v->Post u s1)->wpAny (~~~2) X.A (call (.builtin id) [u0,u1]) Post X.xe s
def Oh(I:L2.Inv X aj σ H s)(p:Pk X.K M H d v)(r:RelV v u)(hs:bV d=!l):s.TypeIs u (lZ d)/\∀a,u=.ref a->∃ob,s.heap.get? a=!ob/\ob.dict=none:=by
 cases d with
 |tup m=>
  let(a,xs,rfl,ha,_):=p.tup;cases r;have:∃o,s.heap.get? a=!o/\o.cls=.type "tuple" /\o.dict=none:=by
   rcases ha with ⟨_,hr⟩ |⟨hk,o,e1,e2⟩
   . let(_,aA,_,(o,e1,(e2,_),e3)):=hr.ok I.hok;show#[o,e1,e2,e3]
   .
    let(aA,_,(o',q1,q2,_),_):=I.tuple (hk.elim (λz=>(rd0 z).elim) .inr:gF X.K H a xs)
    have:=I.nj a o e1;rw[q1]at this;cases this;show#[_,q1,q2,e2]
  let(o,e1,e2,e3):=this;show#[#[o,e1,e2],λb e=>by cases e;show#[o,e1,e3]]
 |lst m=>let(a,xs,rfl,ha,_):=p.list;cases r;let(aA,_,pl,_):=I.list (cg.of ha);let(o,n,e1,e2,e3,e4):=pl;show#[#[o,e1,e2],λb e=>by cases e;show#[o,e1,e3]]
 |fix m=>let(a,xs,rfl,ha,_):=p.fix;cases r;let(aA,_,pl,_):=I.list ha.sq;let(o,n,e1,e2,e3,e4):=pl;show#[#[o,e1,e2],λb e=>by cases e;show#[o,e1,e3]]
 |_=>cases hs
def Oi{o e:Expr}{name:Str}{id:String}{g g1 g2:G}{r0 r1 r:R}{d d0 d1:D}{l:List D}{cG bw:Pos}(hK:z.K=X.K)(pa:PlainAttrs (lZ d))(slot:PySem.Slot (lZ d) name id)(hty:typeOf (.builtin id)=pure (.type "method_descriptor"))
  (h0:aD X z o g r0 g1) (p0:pk r0 g1=!d) (hs:bV d=!l) (ha:cY X z [e] g1 [r1] g2) (q0:pk r0 g2=!d0) (q1:pk r1 g2=!d1) (hm:Je X z id d0 d1 r)
  (hbase:attributeBase o name X.env (eval o X.env)=eval o X.env)
  (hfew:((backTo bw (starEach [e] X.env)).all (λx=>(not x.1))&&(backToKw bw (keywordEach [] X.env)).all (λx=>x.1.isSome)
   && decide ([e].length+([]:List Keyword).length+(if ([]:List Keyword).isEmpty then 0 else 1)<30))=true)
  (hline:(cG.endLine==bw.line)=true) (cZ:starEach [e] X.env=(false,eval e X.env)::starEach [] X.env):aD X z (.Call (.Attribute o name cG) [e] [] bw) g r g2:=by
 apply aD.of λaj s σ As M H Post I st k=>?_
 apply wpAny_Call_method_late hbase hfew hline rfl (h0.run I st λv u s1 H1 aQ M1 I1 r1' qZ yI DP=>?_)
 let(hT,hd):=Oh I1 (hK▸qZ.pk (au.refl _ _) DP p0) r1' hs;apply#[_,id,pa,slot,hty,hT,hd,?_];have hA:=ha.run (pos:=bw) (Post:=λus s2=>wpAny (~~~2) X.A (call (.builtin id) (u::us)) Post X.xe s2) I1 qZ λvs us s2 H2 bD M2 I2 r2 t1 t2 t3=>by
  have v9:=t1.v9 t3 (ds:=[d1]) (by delta v9;rw[q1];rfl)
  let(v1,rfl,pv1):=v9.one;let(u1,rfl,ru1):=vals1 r2;show hm g2 aj s2 σ bD M2 H2 v v1 u u1 Post I2 t1 (t1.pk t2 DP q0) pv1 r1' ru1 λv' u' s3 H3 lR M3 I3 r3 w1 w2 w3=>k v' u' s3 H3 lR M3 I3 r3 w1 (yI.trans (t2.trans w2)) w3
 rw[cZ]at hA ⊢
 show Calls.callWith_builtin rfl (Calls.evalArgs_plain hA)
end
open L2 PySem.W SeqAt
def zp{M:Model}{A:Around}{E:Value->Shared->Prop}{s:Shared}{β:Type}{b:Nat}{c:β}{f:Nat->β->Sem (ForInStep β)}{Q:β->Shared->Prop}(h:wpAny M A (forIn (List.range' 0 b) c f) Q E s):wpAny M A (forIn [0:b] c f) Q E s:=by
 rw[Std.Legacy.Range.forIn_eq_forIn_range'];have hz:([0:b]:Std.Legacy.Range).size=b:=by simp[Std.Legacy.Range.size]
 rw[hz];show h
def wL(l:Addr)(ak:Array Value)(n:Nat)(dd:Option Addr)(sl:Array (Option Value))(x:Value)(e:Value->Bool)(j:Nat)(hj:j<ak.size)(hit:e ak[j]=true)(hno:∀m (hm:m<ak.size),m<j->e ak[m]=false) :
  Meets (Builtin.«tuple.index» #[[.ref l,x],[]])
   (λA R s=>s.heap.get? l=some { cls:=.type "tuple",dict:=dd,data:=.seq ak n,slots:=sl}/\(∀y,y∈ak->EqAt A.in1 s y x (e y))/\R (.ok (.ret (.int j s.toks))) { s with toks:=s.toks+1}):=
 .of_wp λprog w A R s h=>by
  let(hp,g,d,tk,os):=s;let(hl,he,h):=h
  wp_walk using wpAny_loadPart' hl
  rw[show min ak.size ak.size=ak.size from Nat.min_self _]
  apply zp (wpAny_forIn_list _ (λrest b s'=>b=(none,())/\s'=#[hp,g,d,tk,os]/\∃i,i<=j/\rest=List.range' i (ak.size - i)) _ ?_ ?_ _ _ #[rfl,rfl,0,wT _,rfl])
  .
   rintro y rest b s' ⟨rfl,rfl,i,hi,hr⟩;have hlt:i<ak.size:=by lia
   have hc:List.range' i (ak.size - i)=i::List.range' (i+1) (ak.size - (i+1)):=by rw[show ak.size - i=(ak.size - (i+1))+1 by lia,AB]
   rw[hc]at hr;injection hr with h1 h2;subst h1 h2;have hg:ak[y]?=some ak[y]:=by simp[hlt]
   rw[hg];apply aS (he _ (Array.getElem_mem hlt) prog w _ _ ?_);by_cases e1:y=j
   .
    subst e1
    wp_walk
    show#[_,rfl,h]
   .
    rw[hno y hlt ⋯]
    wp_walk
    show#[rfl,rfl,y+1,by lia,rfl]
  . rintro b s' ⟨_,_,i,hi,hr⟩;exfalso;have:=congrArg List.length hr;simp at this;lia
section
abbrev Z3:D->String
 |.tup _=> "tuple.count"
 |_=> "list.count"
abbrev Rl:D->String
 |.tup _=> "tuple.index"
 |_=> "list.index"
abbrev zq(d1:D):List D->Option Nat
 | []=>none
 |d::l=>if cH d d1=true then some 0 else match zq d1 l with |some i=>!(i+1) |none=>none
def BG:∀{l:List D}{j:Nat},zq d1 l=!j->∃d,l[j]?=!d/\cH d d1=true/\∀m d,m<j->l[m]?=!d->cH d d1=false
 | [],_,h=>by symm
 |d::l,j,h=>by
  delta zq at h;split at h
  . ext e;symm;show#[d,rfl,e,λm _ hm=>absurd hm (AJ _)]
  .
   ext e;split at h
   .
    ext i e2;symm;let(d',q1,q2,q3):=BG e2;apply#[d',q1,q2,λm x hm hx=>?_]
    cases m with
    |zero=>cases hx;show CD.mpr e
    |succ m=>show q3 m x ⋯ hx
   . symm
def Jf(q:nD h l us)(hm:m<us.length):∃d,l[m]?=!d/\lQ h x us[m]=cH d x:=by
 let(d,e1,e2):=q.get (j:=m) (u:=us[m]) (by simp[hm])
 show#[d,e1,zb e2]
def Jg(hK:z.K=X.K)(hs:bV d0=!l)(p1:jD d1=true)(p2:ig l=true)(hd:X.A.units+deps l+1<cLine)(hi:zq d1 l=!j):Je X z (Rl d0) d0 d1 ‹j›:=by
 intro g aj s σ As M H v0 v1 u0 u1 Post I st q0 q1 r0 r1 k;rw[hK]at q0 q1;have hx:=q1.dv I r1 p1;have fin:Post (.int j s.toks) { s with toks:=s.toks+1}:=k (.int _) _ _ H As M (I.tok _) ⟨_,rfl⟩ st (au.refl _ _) (.int _);let(dj,w1,w2,w3):=BG hi;have hjl:=(dE.mp w1).1;have key:∀{aA:List Value},nD s.heap l aA->aA.length<=sizeLine->(j<aA.toArray.size)/\(j:Int)<2 ^ 63 - 1/\(∀h:j<aA.toArray.size,lQ s.heap d1 aA.toArray[j]=true)/\∀m (hm:m<aA.toArray.size),m<j->lQ s.heap d1 aA.toArray[m]=false:=λ{aA} q hz=>by
  have hl:=q.length;have hz':aA.length<=16777216:=by rw[oQ]at hz;show hz
  apply#[by simp;lia,by lia,λh=>?_,λm hm hlt=>?_]
  . let(d,e1,e2):=Jf q (m:=j) ⋯;rw[w1]at e1;cases e1;simpa using e2.trans w2
  .
   let(d,e1,e2):=Jf q (by simpa using hm)
   simpa using e2.trans (w3 m d hlt e1)
 cases d0 with
 |tup m=>
  cases hs;let(a,xs,rfl,ha,rr):=q0.tup;cases r0;let(aA,rv,((cls,dd,data,sl),ho,hc,n,hdt),hz):=I.tuple ha.sq;subst hc hdt;have jw:=rr.dv I rv p2;let(k1,k2,k3,k4):=key jw (by rw[<- rv.length];show hz)
  exact wpAny _ _ (call (.builtin "tuple.index") _) _ _ _;show CC F.slot_tuple_index #[_,ho,rfl] F.entry_tuple_index (F.args_tuple_index_2 _ _) (wL a aA.toArray n dd sl u1 (lQ s.heap d1) j k1 (k3 k1) k4) #[ho,iu jw hx hd,fin]
 |lst m=>
  cases hs;let(a,xs,rfl,ha,rr):=q0.list;cases r0;let(aA,rv,pl,hz):=I.list (cg.of ha);let((cls,dd,data,sl),ho,hc,n,hdt):=pl.isList;subst hc hdt;have jw:=rr.dv I rv p2;let(k1,k2,k3,k4):=key jw (by rw[<- rv.length];show hz)
  exact wpAny _ _ (call (.builtin "list.index") _) _ _ _;show CC CM #[_,ho,rfl] F.entry_list_index (F.args_list_index_2 _ _) (list_indexAt a aA.toArray n dd sl u1 (lQ s.heap d1) j k1 k2 (k3 k1) k4) #[ho,iu jw hx hd,fin]
 |fix m=>
  cases hs;let(a,xs,rfl,ha,rr):=q0.fix;cases r0;let(aA,rv,pl,hz):=I.list ha.sq;let((cls,dd,data,sl),ho,hc,n,hdt):=pl.isList;subst hc hdt;have jw:=rr.dv I rv p2;let(k1,k2,k3,k4):=key jw (by rw[<- rv.length];show hz)
  exact wpAny _ _ (call (.builtin "list.index") _) _ _ _;show CC CM #[_,ho,rfl] F.entry_list_index (F.args_list_index_2 _ _) (list_indexAt a aA.toArray n dd sl u1 (lQ s.heap d1) j k1 k2 (k3 k1) k4) #[ho,iu jw hx hd,fin]
 |_=>cases hs
end
open L2 PySem.W SeqAt
open L2 PySem.W SeqAt
open L2 PySem.W SeqAt
section
def fG.of (h:∀(aj: ~~~1) (s:Shared) (σ:Sg) (As M:List Addr) (H:Hp) (Post:Value->Shared->Prop),L2.Inv X aj σ H s->S z g σ As M H->
  (∀v s1,(∀(R:It->Hp->Prop),(∀J H' aE M',S z g1 σ aE M' H'->au M H M' H'->Jt J ak z.K M' H'->R J H')->wpAny (~~~2) X.A (pyIter v) (PIE X aj σ tg R) X.xe s1)->Post v s1)->wpAny (~~~2) X.A (eval iter X.env) Post X.xe s):fG X z tg iter g ak g1:=
 #[λσ H R=>∃As M,S z g σ As M H/\(∀J H' aE M',S z g1 σ aE M' H'->au M H M' H'->Jt J ak z.K M' H'->R J H'),by rintro aj s σ H R I ⟨As,M,st,k⟩;show h aj s σ As M H _ I st λv s1 q=>q R k,λσ As M H R s k=>#[As,M,s,k]]
end
open L2 PySem.W SeqAt
section
def zu(hit:s.heap.IsTupleIter it t i)(ht:s.heap.IsTuple t ak)(hx:ak[i]?=!x)(hQ:∀h',h'.IsTupleIter it t (i+1)->Heap.SameBut it s.heap h'->Q x { s with heap:=h'}):wpAny (model prog w) A (Builtin.SmallTypes.nextOf (.ref it)) Q E s:=by
 let(o,ho,hc,hd):=id hit;let(ol,hol,_,nl,hdl):=ht;delta Builtin.SmallTypes.nextOf;apply aS (sT (name:=Str.ofString "__next__") hit.typeIs AA (wP AA hit.typeIs F.entry_tuple_iterator_next ?_ (F.args_tuple_iterator_next_1 _)));exact wpAny _ _ (field (.ref it) 0 >>= _) _ _ s;apply aS (mP ho hd (x:=.ref t) rfl ?_);exact wpAny _ _ (if (Value.ref t==Value.none)=true then _ else _) _ _ s
 rw[lL (show ¬ ((Value.ref t==Value.none)=true)from tJ)]
 exact wpAny _ _ (field (.ref it) 1 >>= _) _ _ s;apply aS (mP ho hd (x:=.int i 0) rfl ?_);exact wpAny _ _ (seqItems? (.ref t) >>= _) _ _ s;apply aS (u7 hol hdl ?_);simp only[w9,hx];apply aS (Bz ho hd ⋯ (d5 #[x,rfl,d5 (hQ _ #[_,nV _ ho (xL (yB hd _)),(Obj.cls_mapFields ..).trans hc,?_] (Heap.SameBut.update ..))]));rw[yB hd];simp[rawInt]
def rF(hh:A.handled=none)(hit:s.heap.IsTupleIter it t i)(ht:s.heap.IsTuple t ak)(hx:ak[i]?=none)
  (hE:∀h' e,Heap.ExtBut it s.heap h'->(∃o,h'.get? e=!o/\o.cls=.type "StopIteration")->E (.ref e) { s with heap:=h'}):wpAny (model prog w) A (Builtin.SmallTypes.nextOf (.ref it)) Q E s:=by
 let(o,ho,hc,hd):=id hit;let(ol,hol,_,nl,hdl):=ht;delta Builtin.SmallTypes.nextOf;apply aS (sT (name:=Str.ofString "__next__") hit.typeIs AA (wP AA hit.typeIs F.entry_tuple_iterator_next ?_ (F.args_tuple_iterator_next_1 _)));exact wpAny _ _ (field (.ref it) 0 >>= _) _ _ s;apply aS (mP ho hd (x:=.ref t) rfl ?_);exact wpAny _ _ (if (Value.ref t==Value.none)=true then _ else _) _ _ s
 rw[lL (show ¬ ((Value.ref t==Value.none)=true)from tJ)]
 exact wpAny _ _ (field (.ref it) 1 >>= _) _ _ s;apply aS (mP ho hd (x:=.int i 0) rfl ?_);exact wpAny _ _ (seqItems? (.ref t) >>= _) _ _ s;apply aS (u7 hol hdl ?_);simp only[w9,hx];apply aS (DL (aS (Bz ho hd ⋯ ?_)));exact wpAny _ _ (newExc (.type "StopIteration") [] >>= _) _ _ _;apply aS ?_;simp only[newExc,newTuple];apply aS (nS (aS (m:=firstArgMember _ _) (wpAny_of_eq (a:=Value.none) (by first |rfl | (simp only[firstArgMember];rfl)) (nS ?_ (by size_fits)))) (by size_fits))
 simp only[raiseNew];apply aS (wpAny_handled ?_)
 first |rw[show A.in1.handled=none from hh] |rw[hh]
 show aS (d5 (wpAny_throw (hE _ _ (((Heap.SameBut.update ..).extBut.push _).push _) #[_,eD _ rfl,rfl])))
def Vb(hh:A.handled=none)(it t:Addr)(fy:t≠it)(ak:Array Value):Draws prog w A it [it,t] ak.size (λi v=>ak[i]?=!v) (λi h=>h.IsTupleIter it t i/\h.IsTuple t ak) where
 live:=λ_ _ st=>let #[o,ho,_]:=st.1;#[o,ho]
 frame:=λ_ _ _ st hk=>by
  let((o,ho,r),(o',ho',r')):=st;show#[#[o,hk it ⋯ o ho,r],#[o',hk t ⋯ o' ho',r']]
 item:=λi s Q E hi st hQ=>zu st.1 st.2 (x:=ak[i]) (by simp[hi]) λh' hit' hs'=>hQ _ h' s.toks (by simp[hi]) #[hit',IsTup.extBut st.2 hs'.extBut fy] hs'
 done:=λs Q E st hE=>rF hh st.1 st.2 ⋯ hE
def wM(l:Addr)(ak:Array Value)(n:Nat)(dct:Option Addr)(sl:Array (Option Value)) :
  Meets (Builtin.«enumerate.__new__» #[[.type "enumerate",.ref l],[]]) (λ_ R s=>s.heap.get? l=some { cls:=.type "tuple",dict:=dct,data:=.seq ak n,slots:=sl}/\R (.ok (.ret (.ref (s.heap.push { cls:=.type "tuple_iterator",data:=.fields ([.ref l,.int 0 0].toArray)}).objs.size)))
    { s with heap:=(s.heap.push { cls:=.type "tuple_iterator",data:=.fields ([.ref l,.int 0 0].toArray)}).push { cls:=.type "enumerate",data:=.fields ([.none,.bool false,.ref s⁻¹,rawInt 0,.none,.none].toArray)}}):=
 .of_wp λprog w A R s h=>by
  let(hp,g,d,tk,os):=s;let(hl,h):=h;have hsub:=sub_enumerate;have hL:Heap.IsTuple (Shared.heap #[hp,g,d,tk,os]) l ak:=#[_,hl,rfl,n,rfl]
  wp_walk using BS hl
  apply wpAny_stack_any λst=>d5 ?_
  split
  . ext c _ _ _ _ _;cases (c==Value.type "enumerate") <;> (wp_walk using BS hl,x5 hL;show#[_,rfl,h])
  .
   wp_walk using BS hl,x5 hL
   show#[_,rfl,h]
def zz(hL:s.heap.IsTuple l ak)
  (h:∀h',IsEnum h' (s⁻¹+1) s⁻¹ 0 .none->h'.IsTupleIter s⁻¹ l 0->h'.objs.size=s⁻¹+2->(∀b o,s.heap.get? b=!o->h'.get? b=!o)->Q (.ref (s⁻¹+1)) { s with heap:=h'}) :
  wpAny (model prog w) A (call (.type "enumerate") [.ref l]) Q E s:=by
 let((c,dct,dt,sl),hl,hc,n,hd):=hL;cases (show c=.type "tuple" from hc)
 cases (show dt=.seq ak n from hd)
 apply callType_new F.called_enumerate ⋯ (F.typeCall_enumerate_1 _) (F.newCall_enumerate_1 _) (λobj=>F.args_object_init_2 obj _) F.entry_enumerate_new (wM l ak n dct sl) #[hl,?_]
 generalize hq:s.heap.push { cls:=.type "tuple_iterator",data:=.fields ([.ref l,.int 0 0].toArray)}=h1;have hz:h1.objs.size=s⁻¹+1:=by rw[<- hq];show qS ..
 have hi:h1.get? s⁻¹=some { cls:=.type "tuple_iterator",data:=.fields ([.ref l,.int 0 0].toArray)}:=by rw[<- hq];show eD _ rfl
 have he:IsEnum (h1.push { cls:=.type "enumerate",data:=.fields ([.none,.bool false,.ref s⁻¹,rawInt 0,.none,.none].toArray)}) h1.objs.size s⁻¹ 0 .none:=eD h1 rfl;exact _/\_;rw[hz]at he ⊢
 show#[#[_,he,rfl],h _ he #[_,dA _ hi,rfl,rfl] (by rw[qS,hz]) λb o x=>dA _ (by rw[<- hq];show dA _ x)]
end
open L2 PySem.W SeqAt
abbrev rm(tp:Bool)(K:Frag)(H:Hp)(a:Addr)(xs:List V):Prop:=match tp with |true=>gF K H a xs |false=>cg K H a xs
abbrev Gr(tp:Bool)(h:Heap)(it a:Addr)(i:Nat):Prop:=match tp with |true=>h.IsTupleIter it a i |false=>h.IsListIter it a i
abbrev Z4(tp:Bool)(h:Heap)(a:Addr)(aA:List Value):Prop:=match tp with |true=>h.IsTuple a aA.toArray |false=>h.IsList a aA.toArray
section
def rm.real(I:L2.Inv X aj σ H s)(h:rm tp X.K H a xs):∃aA:List Value,Vals xs aA/\Z4 tp s.heap a aA/\xs.length<=sizeLine:=by
 cases tp with
 |true=>show I.tuple h
 |false=>let(aA,r,pl,hz):=I.list h;show#[aA,r,pl.isList,hz]
def rm.inj(I:L2.Inv X aj σ H s)(h:rm tp X.K H a xs)(h':rm tp X.K H a ys):xs=ys:=by
 cases tp with
 |true=>show I.rS h h'
 |false=>show I.vV h h'
def Gr.obj(x:Gr tp h it a i):∃o vs,h.get? it=!o/\o.data=.fields vs:=by
 cases tp with
 |true=>let(o,e,_,d):=(show h.IsTupleIter it a i from x);show#[o,_,e,d]
 |false=>let(o,e,_,d):=(show h.IsListIter it a i from x);show#[o,_,e,d]
def Gr.keep(x:Gr tp h it a i)(k:∀o,h.get? it=!o->h'.get? it=!o):Gr tp h' it a i:=by
 cases tp with
 |true=>let(o,e,d):=(show h.IsTupleIter it a i from x);show#[o,k o e,d]
 |false=>let(o,e,d):=(show h.IsListIter it a i from x);show#[o,k o e,d]
def mJ(hh:A.handled=none)(fy:a≠it)(aA:List Value):Draws prog w A it [it,a] aA.length (λi v=>aA[i]?=!v) (λi h=>Gr tp h it a i/\Z4 tp h a aA):=by
 cases tp with
 |true=>have:=Vb (prog:=prog) (w:=w) hh it a fy aA.toArray;simp only[List.getElem?_toArray]at this;show this
 |false=>have:=Draws.list (prog:=prog) (w:=w) hh it a fy aA.toArray;simp only[List.getElem?_toArray]at this;show this
end
abbrev Ite(tp:Bool)(K:Frag)(a:Addr):It:=
 #[λi H=>∃xs x,rm tp K H a xs/\xs[i]?=!x,λi H x H'=>∃p y,(∀xs,rm tp K H a xs->xs[i]?=!y)/\H p=none/\x=.ref p/\H'=upd H p (.tup [.int i,y]),λi H=>∃xs,rm tp K H a xs/\xs.length=i]
def El{P:Program}{w:World}{K:Frag}{tp:Bool}{es:List Expr}{k:Nat}{pos:Pos}(e it a:Addr)(hei:e≠it):Turn P w K (.Tuple es k pos) (Ite tp K a) [e,it] e (λi h=>(∃old,IsEnum h e it i old)/\Gr tp h it a i) where
 mem:=by simp
 obj:=λi h st b hb=>by
  let((old,he),hi):=st;rcases dS.mp hb with rfl |hb
  . show#[_,he,λv z=>nomatch (show Data.fields _=Data.cell v from z)]
  . cases fR.mp hb;let(o,vs,e1,e2):=hi.obj;show#[o,e1,λv z=>by rw[e2]at z;cases z]
 keep:=λi h h' st k=>by
  let((old,he),hi):=st;show#[#[old,k e ⋯ _ he],hi.keep λo q=>k it ⋯ o q]
 item:=by
  intro X hP hw hK hc i aj s σ H E I hf st hg;subst hP hw hK;let((old,he),hi):=st;let(xs,x,hq,hx):=hg;let(aA,rv,hat,hz):=hq.real I;let(f0,f1,f2,f3,f4,f5):=hf e ⋯;let(g0,g1,g2,g3,g4,g5):=hf it ⋯;have hae:a≠e:=λz=>by
   subst z;cases tp with
   |true=>let(o,e1,e2,_):=(show s.heap.IsTuple a aA.toArray from hat);rw[he]at e1;cases e1;show absurd (show Value.type "enumerate"=Value.type "tuple" from e2) ⋯
   |false=>let(o,e1,e2,_):=(show s.heap.IsList a aA.toArray from hat);rw[he]at e1;cases e1;show absurd (show Value.type "enumerate"=Value.type "list" from e2) ⋯
  have hai:a≠it:=λz=>by
   subst z;cases tp with
   |true=>let(o,e1,e2,_):=(show s.heap.IsTuple a aA.toArray from hat);let(o',e3,e4,_):=(show s.heap.IsTupleIter a a i from hi);rw[e1]at e3;cases e3;rw[e2]at e4;show absurd e4 ⋯
   |false=>let(o,e1,e2,_):=(show s.heap.IsList a aA.toArray from hat);let(o',e3,e4,_):=(show s.heap.IsListIter a a i from hi);rw[e1]at e3;cases e3;rw[e2]at e4;show absurd e4 ⋯
  have hlt:i<aA.length:=by rw[<- rv.length];show (dE.mp hx).1
  apply wpAny_pyNext_enum_itemD (mJ (A:=X.A.in1) (I.ok.hd hc) hai aA) he #[hi,hat] hlt hei (by simp[hei,mM hae]) λu h1 tk hu hout cZ ht jK hkp=>#[_,rfl,?_]
  apply wpAny_letOwnedTupleGo_enum hout λh2 he2 hs2=>?_
  replace hs2:Heap.SameBut e h1 h2:=hs2;let(u',e1,ru):=rv.get hx;rw[hu]at e1;cases e1;have hpe:=AC (eM he);let(oi,vsi,ei,di):=cZ.1.obj;have ei2:=(hs2.2 it (mM hei)).trans ei;let(oi0,_,ei0,_):=hi.obj;have k1:∀b o,b≠e->s.heap.get? b=!o->(s.heap.update e λ_=>_).get? b=!o:=λb o hb q=>(hU s.heap (λ_=>({ cls:=.type "enumerate",dict:=none,data:=.fields ([.none,.bool false,.ref it,rawInt ((i:Int)+1),.none,u].toArray),slots:=([].toArray)}:Obj)) (mM hb)).trans q
  have I1:=I.turned (t':=s.toks) k1 f0 f1 f3 f4 f5;have k2:∀b o,b≠it->(s.heap.update e λ_=>_).get? b=!o->((s.heap.update e λ_=>({ cls:=.type "enumerate",dict:=none,data:=.fields ([.none,.bool false,.ref it,rawInt ((i:Int)+1),.none,u].toArray),slots:=([].toArray)}:Obj)).update it λ_=>oi).get? b=!o:=λb o hb q=>(hU _ (λ_=>oi) (mM hb)).trans q
  have I2:=I1.turned (t':=tk+1) k2 g0 g1 g3 g4 g5;have hse:(s.heap.update e λ_=>({ cls:=.type "enumerate",dict:=none,data:=.fields ([.none,.bool false,.ref it,rawInt ((i:Int)+1),.none,u].toArray),slots:=([].toArray)}:Obj)).get? e=!_:=nV _ he rfl
  have k3:∀b o,((s.heap.update e λ_=>({ cls:=.type "enumerate",dict:=none,data:=.fields ([.none,.bool false,.ref it,rawInt ((i:Int)+1),.none,u].toArray),slots:=([].toArray)}:Obj)).update it λ_=>oi).get? b=!o->h2.get? b=!o:=λb o q=>by
   by_cases hb:b=it
   .
    subst hb;have z:=nV (λ_=>oi) (k1 b oi0 (mM hei) ei0) (xL di)
    rw[z]at q;cases q;show ei2
   .
    rw[hU _ _ (mM hb)]at q;by_cases hb2:b=e
    . subst hb2;rw[hse]at q;cases q;show he2
    . rw[hU _ _ (mM hb2)]at q;show (hs2.2 b hb2).trans (hkp b o hb2 hb q)
  have hsz2:((s.heap.update e λ_=>({ cls:=.type "enumerate",dict:=none,data:=.fields ([.none,.bool false,.ref it,rawInt ((i:Int)+1),.none,u].toArray),slots:=([].toArray)}:Obj)).update it λ_=>oi).objs.size<=s⁻¹:=by rw[BC,BC];show eA _
  have I3:=I2.laid (o:=.tup [.int i,x]) (t':=tk+1) k3 hsz2 #[by rw[oQ];exact 2<=16777216;decide,[.int i tk,u],.cons #[tk,rfl] (.cons ru .nil),#[_,(hs2.2 _ hpe).trans ht,#[rfl,_,rfl],rfl]]
  have hfr:=I.hok.fresh (eA _);apply#[.ref s⁻¹,_,I3,rfl,#[_,x,λys hy=>by rw[hy.inj I hq];show hx,hfr,rfl,rfl],#[#[u,he2],cZ.1.keep λo q=>(hs2.2 it (mM hei)).trans q],λb hb=>?_]
  have hbn:b≠s⁻¹:=λz=>by
   rcases dS.mp hb with rfl |hb
   . show hpe z.symm
   . cases fR.mp hb;show absurd (eM ei0) (by rw[z];show nK _)
  rw[az hbn];show (hf b hb).1
 done:=by
  intro X hP hw hK hc i aj s σ H E I hf st hg;subst hP hw hK;let((old,he),hi):=st;let(xs,hq,hx):=hg;let(aA,rv,hat,hz):=hq.real I;let(g0,g1,g2,g3,g4,g5):=hf it ⋯;have hai:a≠it:=λz=>by
   subst z;cases tp with
   |true=>let(o,e1,e2,_):=(show s.heap.IsTuple a aA.toArray from hat);let(o',e3,e4,_):=(show s.heap.IsTupleIter a a i from hi);rw[e1]at e3;cases e3;rw[e2]at e4;show absurd e4 ⋯
   |false=>let(o,e1,e2,_):=(show s.heap.IsList a aA.toArray from hat);let(o',e3,e4,_):=(show s.heap.IsListIter a a i from hi);rw[e1]at e3;cases e3;rw[e2]at e4;show absurd e4 ⋯
  have hl:i=aA.length:=by rw[<- rv.length];show hx.symm
  subst hl;show wpAny_pyNext_enum_endD (mJ (A:=X.A.in1) (I.ok.hd hc) hai aA) he #[hi,hat] λh' eb=>#[rfl,I.turned (λb o hb q=>eb b o hb q) g0 g1 g3 g4 g5]
 self:=λA i s Q E st h=>by
  let((old,he),_):=st;show wpAny_pyIter_enum he h
section
abbrev nL(l:List D):List D:=l.zipIdx.map λp=>.tup [.int (p.2:Nat),p.1]
def Em{l:List D}{n:Nat}{d:D}(h:(nL l)[n]?=!d):∃x,l[n]?=!x/\d=.tup [.int n,x]:=by
 delta nL at h;rw[pV]at h;cases e:l.zipIdx[n]? with
 |none=>rw[e]at h;symm
 |some q=>
  rw[e]at h;symm;rw[List.getElem?_zipIdx]at e;cases e2:l[n]? with
  |none=>rw[e2]at e;cases e
  |some x=>rw[e2]at e;cases e;show#[x,rfl,by simp]
def En(l:List D):(nL l).length=l.length:=by simp[nL]
def Oj{d:D}{l:List D}(hK:z.K=X.K)(ha:cY X z [e] g [.dat d] g1)(hs:bV d=!l)(hg:Gl X "enumerate")(hm:X.mg "enumerate"=none)(cZ:starEach [e] X.env=[(false,eval e X.env)]) :
  fG X z (.Tuple es k pos) (.Call (.Name "enumerate" p) [e] [] rp) g (nL l) g1:=by
 apply fG.of λaj s σ As M H Post I stt kk=>?_
 apply Call_ (g8 I hg hm boot_enumerate (oI (ha.run I stt λvs us s1 H1 aQ M1 I1 r1 q1 q2 q3=>?_) cZ rfl))
 cases q3 with
 |dat rp0 R=>
  cases R;let(u,rfl,ru):=vals1 r1;have main:∀(tp:Bool) (a:Addr) (xs:List V) (aA:List Value),u=.ref a->Z4 tp s1.heap a aA->aJ z.K M1 H1 l xs->(∀M2 H2,au M1 H1 M2 H2->rm tp X.K H2 a xs)->
    (∀Q:Value->Shared->Prop,(∀h',IsEnum h' (s1⁻¹+1) s1⁻¹ 0 .none->Gr tp h' s1⁻¹ a 0->h'.objs.size=s1⁻¹+2->(∀b o,s1.heap.get? b=!o->h'.get? b=!o)->Q (.ref (s1⁻¹+1)) { s1 with heap:=h'})->
     wpAny (~~~2) X.A (call (.type "enumerate") [.ref a]) Q X.xe s1)->wpAny (~~~2) X.A (call (.type "enumerate") [u]) Post X.xe s1:=λtp a xs aA hu hat rr hsq hcall=>by
   subst hu;apply hcall _ λh' he hi jK hk=>kk _ _ λR kR=>?_
   apply wpAny_pyIter_enum he ?_;have I2:=I1.kept (t':=s1.toks) hk;apply#[_,[s1⁻¹+1,s1⁻¹],_,Ite tp X.K a,H1,rfl,I2,El _ _ a (Nat.succ_ne_self _),#[#[_,he],hi],λb hb=>?_,kR _ H1 aQ M1 q1 q2 λM2 H2 aM=>?_]
   .
    rcases dS.mp hb with rfl |hb
    . show I1.yL (AT _) (I1.hok.fresh (AT _))
    . cases fR.mp hb;show I1.yL (eA _) (I1.hok.fresh (eA _))
   .
    have Gm:=rr.stay aM;apply#[λn d hd=>?_,xs,hsq M2 H2 aM,by rw[En];show rr.length.symm]
    let(x,e1,rfl):=Em hd;let(v,e2,e3):=Gm.get e1;apply#[#[xs,v,hsq M2 H2 aM,e2],λy H' hy z' g' σ' aE hz' s'=>?_]
    let(p,y',w1,w3,rfl,rfl):=hy;have w2:=w1 xs (hsq M2 H2 aM);rw[e2]at w2;cases w2;apply#[s'.laid w3,au.laid w3,.tup (.inl #[s'.fresh w3,.inl aC]) (.cons (.int _) (.cons (e3.stay (au.laid w3)) .nil))]
  cases rp0 with
  |@lst _ a xs hb rr=>cases hs;cases ru;let(aA,rv,pl,hz):=I1.list (cg.of hb.2);show main false a xs aA rfl pl.isList rr (λM2 H2 aM=>cg.of (aM _ _ hb.2 hb.1).1) λQ h=>call_enumerate_list pl.isList h
  |@tup _ a xs hb rr=>
   cases hs;cases ru;let(aA,rv,pl,hz):=I1.tuple (hK▸hb.sq);apply main true a xs aA rfl pl rr (λM2 H2 aM=>?_) λQ h=>zz pl h
   have:TupAt z.K M2 H2 a xs:=by
    rcases hb with ⟨na,hr⟩ |hk
    . show .inl (aM.rd na hr)
    . show .inr hk
   show hK▸this.sq
  |@fix _ a xs hb rr=>
   cases hs;cases ru;let(aA,rv,pl,hz):=I1.list (hK▸hb.sq);apply main false a xs aA rfl pl.isList rr (λM2 H2 aM=>?_) λQ h=>call_enumerate_list pl.isList h
   have:nu z.K M2 H2 a xs:=by
    rcases hb with ⟨na,o,hr⟩ |hk
    . show .inl #[(aM _ _ hr na).2,o,(aM _ _ hr na).1]
    . show .inr hk
   show hK▸this.sq
  |_=>cases hs
end
open L2 PySem.W SeqAt
end Ev
namespace HT
open PySem PyProof.Rows
section
def zA(n:Nat):Builtin.Slice.slicePlaces ((n:Int) - 1) (-1) (-1)=n:=by delta Builtin.Slice.slicePlaces;split <;> lia
def mK{sl:Addr}{vs:Value}{n:Nat}{Q:Int×Int×Nat->Shared->Prop}(hs:s.heap.IsSliceOf sl .none .none vs)(ps:IsPart vs (!(-1)))
  (h:Q ((n:Int) - 1,-1,n) s):wpAny (model prog w) A (Builtin.Slice.sliceApplied (.ref sl) (pure (n:Int))) Q E s:=by
 let(os,hos,hcs,hds):=id hs;apply aS (aS (mP hos hds rfl (aS (mP hos hds rfl (aS (mP hos hds rfl (d5 ?_)))))));apply aS (jU ps ?_);apply aS (slicePart_none (aS (slicePart_none (aS (d5 ?_)))));exact wpAny _ _ (match Builtin.Slice.sliceAdjust none none (-1) (n:Int)with | (lo,hi)=>pure (lo,(-1:Int),Builtin.Slice.slicePlaces lo hi (-1))) _ _ s
 exact wpAny _ _ (pure ((n:Int) - 1,(-1:Int),Builtin.Slice.slicePlaces ((n:Int) - 1) (-1) (-1))) _ _ s;rw[zA];show d5 h
def Jh(xs:Array Value):((List.range xs.size).filterMap λ(m:Nat)=>xs[(((xs.size:Int) - 1)+(m:Int) * -1).toNat]?).toArray=xs.toList.reverse.toArray:=by
 have e:(λ(m:Nat)=>xs[(((xs.size:Int) - 1)+(m:Int) * -1).toNat]?)=λm=>xs[xs.size - 1 - m]?:=by
  funext m
  congr 1
  lia
 rw[e];have e2:(List.range xs.size).filterMap (λm=>xs[xs.size - 1 - m]?)=((List.range xs.size).map λk=>xs.size - 1 - k).filterMap (xs[·]?):=by rw[List.filterMap_map];rfl
 rw[e2,PySem.W.krv_range,List.filterMap_reverse,PySem.W.krv_all]
def lz(ht:IsTup s.heap t ak)(hs:s.heap.IsSliceOf sl .none .none vs)(ps:IsPart vs (!(-1)))
  (h:Q (.ref s⁻¹) { s with heap:=s.heap.push { cls:=.type "tuple",data:=.seq ak.toList.reverse.toArray}})
  (jK:ak.size<=sizeLine):wpAny (model prog w) A (getItem (.ref t) (.ref sl)) Q E s:=by
 have kN:sizeOk (.seq ak.toList.reverse.toArray):=by exact ak.toList.reverse.toArray.size<=sizeLine;rw[dL,BE];show jK
 let(os,hos,hcs,hds):=id hs;have Zc:s.TypeIs (.ref sl) "slice" :=#[os,hos,hcs];delta getItem
 try with_reducible apply mE ?_
 first |apply aS (d5 ?_) |skip
 apply aS (wpAny_sequenceKey ht.typeIs ⋯ ?_);apply aS (sT ht.typeIs oP
  (wP oP ht.typeIs entry_tuple_getitem ?_ (args_tuple_getitem _ _)))
 exact wpAny _ _ (Builtin.Tuple.tupleItemsOf (.ref t) >>= _) _ _ s;apply aS (tupleItemsOf_ ht ?_);apply aS (DE Zc ?_);apply aS (mK hs ps ?_);exact wpAny _ _ (if ((ak.size:Int) - 1==0&&(-1:Int)==1&&ak.size==ak.size)=true then _ else _) _ _ s
 rw[lL (by intro q;rw[eQ,eQ]at q;show absurd (eq_of_beq q.1.2) ⋯),Jh]
 first
  |show aS (nS (d5 #[_,rfl,d5 h]) kN)
  |show aS (nS (aS (d5 (d5 #[_,rfl,d5 h]))) kN)
  |show aS (aS (nS (d5 (d5 #[_,rfl,d5 h])) kN))
  |show aS (aS (nS (d5 #[_,rfl,d5 h]) kN))
end
end HT
namespace Ev
open L2
section
meta abbrev m1(j:Nat)(p1 p3:Pos):Expr:=.UnaryOp .USub (.Constant (.int 1) j p1) p3
def Ji{e:Expr}{te:TE}{r:V->Hp->VK->Prop}(he:PE X e te)
  (hr:∀(aj: ~~~1) (s:Shared) (σ:L2.St) (H:Hp) (x:V) (v vs:Value) (sl:Addr) (Q:VK),L2.Inv X aj σ H s->RelV x v->s.heap.IsSliceOf sl .none .none vs->IsPart vs (!(-1))->r x H Q->
   ∃T id,typeLookup (.type T) "__getitem__"=pure (!(.builtin id))/\s.TypeIs v T/\wpAny (~~~2) X.A (getItem v (.ref sl)) (EP X aj σ Q) X.xe s)
  (pm:∀(aj: ~~~1) (s:Shared) (σ:L2.St) (H:Hp),L2.Inv X aj σ H s->wpAny (~~~2) X.A (eval (m1 j p1 p3) X.env) (λu s'=>L2.Inv X aj σ H s'/\IsPart u (!(-1))) X.xe s) :
  PE X (.Subscript e (.Slice none none (!(m1 j p1 p3)) p2) pos) (λσ H Q=>te σ H λx H1=>r x H1 Q):=by
 intro aj s σ H Q I h;apply Subscript_ (bY (he aj s σ H _ I h) ?_);rintro v s1 ⟨x,H1,I1,r1,q1⟩;apply wpAny_Slice ?_;apply d5 (d5 ?_);apply PySem.evalPart_some_step (bY (pm aj s1 σ H1 I1) ?_);rintro u s2 ⟨I2,pu⟩;have I4:L2.Inv X aj σ H1 { s2 with heap:=s2.heap.push { cls:=.type "slice",data:=.fields ([.none,.none,u].toArray)}}:=I2.kept λb ob q=>dA _ q
 let(T,id,hT,ht,hg):=hr aj { s2 with heap:=s2.heap.push { cls:=.type "slice",data:=.fields ([.none,.none,u].toArray)}} σ H1 x v u s2⁻¹ Q I4 r1 (Heap.IsSliceOf.new ..) pu q1;show tail_any ht hT hg (by with_unfolding_all rfl)
def pm1(aj: ~~~1)(s:Shared)(σ:L2.St)(H:Hp)(I:L2.Inv X aj σ H s):wpAny (~~~2) X.A (eval (m1 j p1 p3) X.env) (λu s'=>L2.Inv X aj σ H s'/\IsPart u (!(-1))) X.xe s:=
 bY ((Q9 G0 (GD)) aj s σ H (λv H'=>v=.int (-1)/\H'=H) I #[1,rfl,rfl,rfl]) (by
  rintro u s' ⟨v,H',I',r,e1,e2⟩;subst e1 e2;let(t,rfl):=r;show#[I',.int _ t])
def Ol{r:R}{l:List D}(hK:z.K=X.K)(h:aD X z a g r g1)(hp:pk r g1=!(.lst l)):aD X z (.Subscript a (.Slice none none (!(m1 j p1 p3)) p2) pos) g (.new l.reverse) g1:=by
 let(t,q,k):=h;apply#[_,Ji (r:=λx H Q=>∃b xs,x=.ref b/\cg X.K H b xs/\∀p,H p=none->Q (.ref p) (upd H p (.lst xs.reverse))) q (λaj s σ H x v vs sl Q I rx hs ps hx=>?_) pm1,λσ As M H Q s kk=>k σ As M H _ s λv H1 aQ M1 s1 dc R=>?_]
 .
  let(b,xs,rfl,hx,hq):=hx;cases rx;let(aA,r,ht,hz):=I.list hx;have aN:=r.length;apply#["list",_,slot_list_getitem.lookup,ht.isList.typeIs,?_];apply wpAny_getItem_list_slice ht.isList hs .none .none ps ⋯ ?_ (by rw[dL,<- aN];show hz)
  rw[PySem.W.krv_pick];apply#[.ref s⁻¹,_,I.laid (λb ob q=>dA _ q) (eA _) ?_,rfl,hq _ (I.hok.fresh (eA _))]
  show#[by rw[BE];show hz,aA.reverse,0,r.reverse,eD _ rfl]
 .
  let(b,xs,rfl,e1,e2):=(s1.pk (au.refl _ _) R hp).list;apply#[b,xs,rfl,cg.of e1,λp hp=>?_]
  show kk _ _ aQ (p::M1) (s1.aU hp) (dc.trans (au.aU hp)) #[p,xs.reverse,rfl,dC,λhA=>s1.fresh hp (s1.sub p hA),s1.cD hp,aC,e2.reverse.stay (au.aU hp)]
def Om{l:List D}(hK:z.K=X.K)(h:aD X z a g (.dat (.tup l)) g1):aD X z (.Subscript a (.Slice none none (!(m1 j p1 p3)) p2) pos) g (.dat (.tup l.reverse)) g1:=by
 let(t,q,k):=h;apply#[_,Ji (r:=λx H Q=>∃b xs,x=.ref b/\gF X.K H b xs/\∀p,H p=none->Q (.ref p) (upd H p (.tup xs.reverse))) q (λaj s σ H x v vs sl Q I rx hs ps hx=>?_) pm1,λσ As M H Q s kk=>k σ As M H _ s λv H1 aQ M1 s1 dc R=>?_]
 .
  let(b,xs,rfl,hx,hq):=hx;cases rx;let(aA,r,ht,hz):=I.tuple hx;have aN:=r.length;apply#["tuple",_,PyProof.Rows.slot_tuple_getitem.lookup,ht.typeIs,?_];apply HT.lz ht hs ps ?_ (by rw[dL,<- aN];show hz)
  apply#[.ref s⁻¹,_,I.laid (λb ob q=>dA _ q) (eA _) ?_,rfl,hq _ (I.hok.fresh (eA _))]
  show#[by rw[BE];show hz,aA.reverse,r.reverse,gj.new _ _]
 .
  cases R with
  |@tup _ b xs e1 e2=>show#[b,xs,rfl,hK▸e1.sq,λp hp=>kk _ _ aQ M1 (s1.laid hp) (dc.trans (au.laid hp)) (.tup (.inl #[s1.fresh hp,.inl aC]) (e2.reverse.stay (au.laid hp)))]
def Vc:aD X z (.Dict [] [] pos) g (.dat .emp) g:=by
 apply#[λσ H Q=>∀p,H p=none->Q (.ref p) (upd H p (.dK [])),λaj s σ H Q I h=>wpAny_Dict_empty #[.ref s⁻¹,_,I.laid (λb ob q=>dA _ q) (eA _) ?_,rfl,h _ (I.hok.fresh (eA _))],λσ As M H Q s k p hp=>k _ _ As M (s.laid hp) (au.laid hp) (.emp (s.fresh hp) aC)]
 apply#[wT _,?_,[],?_,Heap.DictOf.new _]
 .
  have h1:=(I.ok.mod.glob.keeps I.bk).lt;apply CD.mpr λq=>?_
  have q:=eq_of_beq q;rw[q]at h1;show absurd h1 ⋯
 . show .nil
end
open L2 PySem.W SeqAt
section
structure X6(r tI tO i j a b:Addr):Prop where
 n1:tI≠r/\tO≠r/\i≠r/\j≠r/\a≠r/\b≠r
 n2:tI≠tO/\i≠tO/\j≠tO/\a≠tO/\b≠tO
 n3:tI≠i/\tI≠j/\i≠j
 n4:a≠i/\b≠i/\a≠j/\b≠j
section
def Jj{Q:Value->Shared->Prop}(N:X6 r tI tO i j a b)(D1:Draws prog w A i [i,a] n f S1)(D2:Draws prog w A j [j,b] m g S2)(hk1:k<n)(hk2:k<m)
  (er:IsZip s.heap r tI tO .none) (eI:IsPair s.heap tI (.ref i) (.ref j)) (eO:IsPair s.heap tO c d) (t1:S1 k s.heap) (t2:S2 k s.heap)
  (hQ:∀u v h' tk,f k u->g k v->IsZip h' r tI tO (rawInt s⁻¹)->IsPair h' tO u v->S1 (k+1) h'->S2 (k+1) h'->IsPair h' s⁻¹ u v->h'.objs.size=s⁻¹+1->
   (∀x o,x≠r->x≠tO->x≠i->x≠j->s.heap.get? x=!o->h'.get? x=!o)->Q (.ref s⁻¹) { s with heap:=h',toks:=tk}) :
  wpAny (model prog w) A (Builtin.«zip.__next__» #[[.ref r],[]]) (λfin s'=>∃v,fin=.done (.ret v)/\Q v s') E s:=by
 let((p1,p2,p3,p4,p5,p6),(q1,q2,q3,q4,q5),(u1,u2,u3),(v1,v2,v3,v4)):=N;apply aS (m:=field (.ref r) 2) (mP er rfl rfl ?_);apply aS (mP er rfl rfl (aS (u7 eI rfl ?_)));apply aS ?_;apply aS (mP er rfl rfl (d5 ?_));apply aS (DL (aS (mP er rfl rfl (aS (AE er ⋯ λha L1 ka=>?_)))))
 replace L1:IsZip ha r tI tO .ellipsis:=L1;apply aS ?_;have t1a:=D1.frame k _ _ t1 λx hx o e=>(ka.2 x (by rcases dS.mp hx with z |z;show z▸p3;show (fR.mp z)▸p5)).trans e
 have t2a:=D2.frame k _ _ t2 λx hx o e=>(ka.2 x (by rcases dS.mp hx with z |z;show z▸p4;show (fR.mp z)▸p6)).trans e
 apply aS (aS (C5 (aS (D1.item k { s with heap:=ha} _ _ hk1 t1a λu hb tk1 fu t1b kb=>d5 ?_))))
 have Z5:=(kb.2 _ (mM q2)).trans ((ka.2 _ p2).trans eO);apply aS (u7 Z5 rfl (aS (wpAny_updateSeq_pair Z5 λhc eOc kc=>?_)))
 replace eOc:IsPair hc tO u d:=eOc;apply aS (CO (d5 ?_));have t1c:=D1.frame _ _ _ t1b λx hx o e=>(kc.2 x (by rcases dS.mp hx with z |z;show z▸q2;show (fR.mp z)▸q4)).trans e
 have t2c:=D2.frame k _ _ t2a λx hx o e=>by
  have hx:x=j\/x=b:=by rcases dS.mp hx with z |z;show .inl z;show .inr (fR.mp z)
  rw[kc.2 x (by rcases hx with rfl |rfl;show q3;show q5),kb.2 x (by rcases hx with rfl |rfl;show mM u3;show v2)]
  show e
 apply aS (aS (C5 (aS (D2.item k { s with heap:=hc,toks:=tk1} _ _ hk2 t2c λv hd tk2 gv t2d kd=>d5 ?_))))
 have eOd:=(kd.2 _ (mM q3)).trans eOc;apply aS (u7 eOd rfl (aS (wpAny_updateSeq_pair eOd λhe eOe ke=>?_)))
 replace eOe:IsPair he tO u v:=eOe;apply aS (CO (d5 (d5 ?_)));apply aS (u7 eOe rfl (aS (wpAny_newTuple ?_)));have sz:he.objs.size=s⁻¹:=by rw[ke.1,kd.1,kc.1,kb.1];show ka.1
 have ere:IsZip he r tI tO .ellipsis:=by exact he.get? r=_;rw[ke.2 _ (mM p2),kd.2 _ (mM p4),kc.2 _ (mM p2),kb.2 _ (mM p3)];show L1
 have old:∀x o,x≠r->x≠tO->x≠i->x≠j->s.heap.get? x=!o->he.get? x=!o:=λx o x1 x2 x3 x4 e=>by
  rw[ke.2 _ x2,kd.2 _ x4,kc.2 _ x2,kb.2 _ x3];show (ka.2 _ x1).trans e
 have t1e:=D1.frame _ _ _ t1c λx hx o e=>by
  have hx:x=i\/x=a:=by rcases dS.mp hx with z |z;show .inl z;show .inr (fR.mp z)
  rw[ke.2 x (by rcases hx with rfl |rfl;show q2;show q4),kd.2 x (by rcases hx with rfl |rfl;show u3;show v3)]
  show e
 have t2e:=D2.frame _ _ _ t2d λx hx o e=>(ke.2 x (by rcases dS.mp hx with z |z;show z▸q3;show (fR.mp z)▸q5)).trans e
 apply aS ?_;have erf:IsZip (he.push { cls:=.type "tuple",data:=.seq ([u,v].toArray)}) r tI tO .ellipsis:=dA _ ere;apply aS (AE erf ⋯ λhg erg kg=>?_)
 replace erg:IsZip hg r tI tO (rawInt he.objs.size):=erg;apply AE erg ⋯ λhh erh kh=>?_
 replace erh:IsZip hh r tI tO (rawInt he.objs.size):=erh;have up:∀x o,x≠r->he.get? x=!o->hh.get? x=!o:=λx o x1 e=>by rw[kh.2 _ x1,kg.2 _ x1];show dA _ e
 have rlt:=eM ere;have new:IsPair hh he.objs.size u v:=by exact hh.get? _=_;rw[kh.2 _ (AC rlt),kg.2 _ (AC rlt)];show eD _ rfl
 have szh:hh.objs.size=he.objs.size+1:=by rw[kh.1,kg.1,qS]
 have fr1:∀x o,x=i\/x=a->he.get? x=!o->hh.get? x=!o:=λx o hx e=>up x o (by rcases hx with rfl |rfl;show p3;show p5) e
 have fr2:∀x o,x=j\/x=b->he.get? x=!o->hh.get? x=!o:=λx o hx e=>up x o (by rcases hx with rfl |rfl;show p4;show p6) e
 rw[sz]at erh new szh;apply d5 #[_,rfl,?_];rw[sz];show hQ u v hh tk2 fu gv erh (up _ _ p2 eOe) (D1.frame _ _ _ t1e λx hx o e=>fr1 x o (by rcases dS.mp hx with z |z;show .inl z;show .inr (fR.mp z)) e)
  (D2.frame _ _ _ t2e λx hx o e=>fr2 x o (by rcases dS.mp hx with z |z;show .inl z;show .inr (fR.mp z)) e) new szh λx o x1 x2 x3 x4 e=>up x o x1 (old x o x1 x2 x3 x4 e)
def Oo(N:X6 r tI tO i j a b)(D1:Draws prog w A i [i,a] n f S1)(D2:Draws prog w A j [j,b] m g S2)(hk:k=n\/(k<n/\k=m))
  (er:IsZip s.heap r tI tO .none) (eI:IsPair s.heap tI (.ref i) (.ref j)) (eO:IsPair s.heap tO c d) (t1:S1 k s.heap) (t2:S2 k s.heap)
  (hE:∀h' e tk,(∀x o,x≠r->x≠tO->x≠i->x≠j->s.heap.get? x=!o->h'.get? x=!o)->(∃o,h'.get? e=!o/\o.cls=.type "StopIteration")->E (.ref e) { s with heap:=h',toks:=tk}) :
  wpAny (model prog w) A (Builtin.«zip.__next__» #[[.ref r],[]]) Q E s:=by
 let((p1,p2,p3,p4,p5,p6),(q1,q2,q3,q4,q5),(u1,u2,u3),(v1,v2,v3,v4)):=N;apply aS (m:=field (.ref r) 2) (mP er rfl rfl ?_);apply aS (mP er rfl rfl (aS (u7 eI rfl ?_)));apply aS ?_;apply aS (mP er rfl rfl (d5 ?_));apply aS (DL (aS (mP er rfl rfl (aS (AE er ⋯ λha L1 ka=>?_)))))
 replace L1:IsZip ha r tI tO .ellipsis:=L1;apply aS ?_;have t1a:=D1.frame k _ _ t1 λx hx o e=>(ka.2 x (by rcases dS.mp hx with z |z;show z▸p3;show (fR.mp z)▸p5)).trans e
 have t2a:=D2.frame k _ _ t2 λx hx o e=>(ka.2 x (by rcases dS.mp hx with z |z;show z▸p4;show (fR.mp z)▸p6)).trans e
 have stop:∀(hb:Heap) (e:Addr) (tk:Nat),IsZip hb r tI tO .ellipsis->(∃o,hb.get? e=!o/\o.cls=.type "StopIteration")->e≠r:=by rintro hb e tk z ⟨o,h1,h2⟩ q;rw[q,z]at h1;cases h1;show absurd (show Value.type "zip"=.type "StopIteration" from h2) ⋯
 rcases hk with rfl |⟨hk1,rfl⟩
 .
  apply aS (aS (C5 (aS (D1.done { s with heap:=ha} _ _ t1a λhb e kb ex=>?_))))
  have erb:=kb _ _ (mM p3) L1;have ner:=stop hb e s.toks erb ex;let(oe,x1,x2):=ex;apply AE erb ⋯ λhc _ kc=>?_
  show hE hc e s.toks (λx o y1 y2 y3 y4 z=>(kc.2 _ y1).trans (kb _ _ y3 ((ka.2 _ y1).trans z))) #[oe,(kc.2 _ ner).trans x1,x2]
 .
  apply aS (aS (C5 (aS (D1.item k { s with heap:=ha} _ _ hk1 t1a λu hb tk1 fu t1b kb=>d5 ?_))))
  have Z5:=(kb.2 _ (mM q2)).trans ((ka.2 _ p2).trans eO);apply aS (u7 Z5 rfl (aS (wpAny_updateSeq_pair Z5 λhc eOc kc=>?_)))
  apply aS (CO (d5 ?_));have t2c:=D2.frame k _ _ t2a λx hx o e=>by
   have hx:x=j\/x=b:=by rcases dS.mp hx with z |z;show .inl z;show .inr (fR.mp z)
   rw[kc.2 x (by rcases hx with rfl |rfl;show q3;show q5),kb.2 x (by rcases hx with rfl |rfl;show mM u3;show v2)]
   show e
  apply aS (aS (C5 (aS (D2.done { s with heap:=hc,toks:=tk1} _ _ t2c λhd e kd ex=>?_))))
  have erd:=kd _ _ (mM p4) (by rw[kc.2 _ (mM p2),kb.2 _ (mM p3)];show L1)
  have ner:=stop hd e s.toks erd ex;let(oe,x1,x2):=ex;apply AE erd ⋯ λhe _ ke=>?_
  show hE he e tk1 (λx o y1 y2 y3 y4 z=>(ke.2 _ y1).trans (kd _ _ y4 (by rw[kc.2 _ y2,kb.2 _ y3];show (ka.2 _ y1).trans z))) #[oe,(ke.2 _ ner).trans x1,x2]
end
section
def Jk{Q:Option Value->Shared->Prop}(N:X6 r tI tO i j a b)(D1:Draws prog w A.in1 i [i,a] n f S1)(D2:Draws prog w A.in1 j [j,b] m g S2)(hk1:k<n)(hk2:k<m)
  (er:IsZip s.heap r tI tO .none) (eI:IsPair s.heap tI (.ref i) (.ref j)) (eO:IsPair s.heap tO c d) (t1:S1 k s.heap) (t2:S2 k s.heap)
  (hQ:∀u v h' tk,f k u->g k v->IsZip h' r tI tO (rawInt s⁻¹)->IsPair h' tO u v->S1 (k+1) h'->S2 (k+1) h'->IsPair h' s⁻¹ u v->h'.objs.size=s⁻¹+1->
   (∀x o,x≠r->x≠tO->x≠i->x≠j->s.heap.get? x=!o->h'.get? x=!o)->Q (!(.ref s⁻¹)) { s with heap:=h',toks:=tk}):wpAny (model prog w) A (pyNext (.ref r)) Q E s:=by
 have ty:s.TypeIs (.ref r) "zip" :=#[_,er,rfl];show aS (wpAny_attempt (sT ty F.slot_zip_next (wP F.slot_zip_next ty F.entry_zip_next
  (Jj N D1 D2 hk1 hk2 er eI eO t1 t2 λu v h' tk b1 b2 b3 b4 b5 b6 b7 b8 b9=>d5 (hQ u v h' tk b1 b2 b3 b4 b5 b6 b7 b8 b9)) (F.args_zip_next_1 _))))
def wN(N:X6 r tI tO i j a b)(D1:Draws prog w A.in1 i [i,a] n f S1)(D2:Draws prog w A.in1 j [j,b] m g S2)(hk:k=n\/(k<n/\k=m))
  (er:IsZip s.heap r tI tO .none) (eI:IsPair s.heap tI (.ref i) (.ref j)) (eO:IsPair s.heap tO c d) (t1:S1 k s.heap) (t2:S2 k s.heap)
  (hQ:∀h' tk,(∀x o,x≠r->x≠tO->x≠i->x≠j->s.heap.get? x=!o->h'.get? x=!o)->Q none { s with heap:=h',toks:=tk}):wpAny (model prog w) A (pyNext (.ref r)) Q E s:=by
 have ty:s.TypeIs (.ref r) "zip" :=#[_,er,rfl];apply aS (wpAny_attempt (sT ty F.slot_zip_next (wP F.slot_zip_next ty F.entry_zip_next
  (Oo N D1 D2 hk er eI eO t1 t2 λh' e tk kp ex=>?_) (F.args_zip_next_1 _))))
 let(o,x1,x2):=ex;show aS (wpAny_isInstance #[o,x1,x2] isSubtype_stop (d5 (hQ _ tk kp)))
end
end
open L2 PySem.W SeqAt
section
def Inv.Vd{h':Heap}{t':Nat}{ch:List Addr}(I:L2.Inv X aj σ H s)(hf:∀b∈ch,kK X aj H b)(k:∀b o,b∉ch->s.heap.get? b=!o->h'.get? b=!o):L2.Inv X aj σ H { s with heap:=h',toks:=t'}:=by
 have nH:∀b u,H b=!u->b∉ch:=λb u e z=>by rw[(hf b z).1]at e;cases e
 apply I.step (λb hb=>?_) (λb o _ _ hc e _=>k b o hc e) (λb o _ _ hc e _=>#[o.slots,k b o hc e]) (λ_ _ _ _ n=>n) (λb o hc e=>#[o,k b o hc e]) (λ_ _ e=>e) (λ_ _ _ e=>e) (λb ps e=>#[([].toArray),by rw[e];simp]) (λm hm=>?_) (λb u e=>?_) I.bare
 . let(f0,f1,f2,f3,f4,f5):=hf b hb;show#[f3,f1,f4,f5]
 . let(o,es,ep,ho,rr):=hm;show#[o,es,ep,k _ o (λz=>(hf _ z).2.1 rfl) ho,rr]
 .
  apply (I.hok b u e).stay (λc w hc q=>k c w (λz=>?_) q) (λ_ q=>q) λ_ _ q=>q
  rcases hc with rfl |hc
  . show nH _ _ e z
  . show nH _ _ hc z
def Inv.Ve{h':Heap}{t':Nat}{ch:List Addr}{xs:List V}{aA:List Value}(I:L2.Inv X aj σ H s)(hf:∀b∈ch,kK X aj H b)(k:∀b o,b∉ch->s.heap.get? b=!o->h'.get? b=!o)(hz:xs.length<=sizeLine)(rv:Vals xs aA)(ht:gj h' s⁻¹ aA.toArray) :
  L2.Inv X aj σ (upd H s⁻¹ (.tup xs)) { s with heap:=h',toks:=t'}:=by
 have nH:∀b u,H b=!u->b∉ch:=λb u e z=>by rw[(hf b z).1]at e;cases e
 have fr:=I.hok.fresh (eA _);have nn:∀b u,H b=!u->b≠s⁻¹:=λb u e z=>by rw[z,fr]at e;cases e
 apply I.step (λb hb=>?_) (λb o _ _ hc e _=>k b o hc e) (λb o _ _ hc e _=>#[o.slots,k b o hc e]) (λb o _ e n=>by rw[az (kS (eM e))];show n) (λb o hc e=>#[o,k b o hc e]) (λb _ e=>by rw[az (nn _ _ e)];show e) (λb _ _ e=>by rw[az (nn _ _ e)];show e) (λb ps e=>#[([].toArray),by rw[az (nn _ _ e),e];simp]) (λm hm=>?_) (λb u e=>?_) I.bare
 . let(f0,f1,f2,f3,f4,f5):=hf b hb;show#[f3,f1,f4,f5]
 . let(o,es,ep,ho,rr):=hm;show#[o,es,ep,k _ o (λz=>(hf _ z).2.1 rfl) ho,rr]
 .
  by_cases hb:b=s⁻¹
  . subst hb;rw[aC]at e;cases e;show#[hz,aA,rv,ht]
  .
   rw[az hb]at e;apply (I.hok b u e).stay (λc w hc q=>k c w (λz=>?_) q) (λc q=>by rw[az (nn _ _ q)];show q) λc _ q=>by rw[az (nn _ _ q)];show q
   rcases hc with rfl |hc
   . show nH _ _ e z
   . show nH _ _ hc z
end
def rm.Rm(I:L2.Inv X aj σ H s)(h:rm tp X.K H u us)(f:kK X aj H c):u≠c:=λz=>by
 subst z;have inK:∀o,X.K.lookup u=!o->False:=λo e=>by
  have e0:=I.ok.mod.Gj u o e;rcases f.2.2.2.1 with q |q
  . show I.ok.vR u o e0 q
  . show absurd (fA (eM (I.ok.bs u o e0).1) q) (nK _)
 cases tp with
 |true=>
  rcases (show gF X.K H u us from h)with (h |⟨o,h⟩) |h
  . rw[f.1]at h;symm
  . rw[f.1]at h;symm
  . let(o,_,_,h,_):=h;show inK _ h
 |false=>
  rcases (show cg X.K H u us from h)with (h |⟨o,h⟩) |h
  . rw[f.1]at h;symm
  . rw[f.1]at h;symm
  . let(o,_,_,h,_):=h;show inK _ h
abbrev Itz(tp:Bool)(K:Frag)(a b:Addr):It:=
 #[λi H=>∃xs ys x y,rm tp K H a xs/\rm tp K H b ys/\xs[i]?=!x/\ys[i]?=!y,λi H x H'=>∃p u v,(∀xs,rm tp K H a xs->xs[i]?=!u)/\(∀ys,rm tp K H b ys->ys[i]?=!v)/\H p=none/\x=.ref p/\H'=upd H p (.tup [u,v]),
  λi H=>∃xs ys,rm tp K H a xs/\rm tp K H b ys/\(i=xs.length\/(i<xs.length/\i=ys.length))]
def Jl{P:Program}{w:World}{K:Frag}{tp:Bool}{es:List Expr}{k:Nat}{pos:Pos}(r tI tO i j a b:Addr)(A1:tI≠r/\tO≠r/\i≠r/\j≠r)(A2:tI≠tO/\i≠tO/\j≠tO)(A3:tI≠i/\tI≠j/\i≠j) :
  Turn P w K (.Tuple es k pos) (Itz tp K a b) [r,tI,tO,i,j] r (λn h=>IsZip h r tI tO .none/\IsPair h tI (.ref i) (.ref j)/\(∃c d,IsPair h tO c d)/\Gr tp h i a n/\Gr tp h j b n) where
 mem:=by simp
 obj:=λn h st x hx=>by
  let(er,eI,(c,d,eO),t1,t2):=st;simp only[dS,l9,A7]at hx;rcases hx with rfl |rfl |rfl |rfl |rfl
  . show#[_,er,λv z=>nomatch (show Data.fields _=Data.cell v from z)]
  . show#[_,eI,λv z=>nomatch (show Data.seq _ _=Data.cell v from z)]
  . show#[_,eO,λv z=>nomatch (show Data.seq _ _=Data.cell v from z)]
  . let(o,vs,e1,e2):=t1.obj;show#[o,e1,λv z=>by rw[e2]at z;cases z]
  . let(o,vs,e1,e2):=t2.obj;show#[o,e1,λv z=>by rw[e2]at z;cases z]
 keep:=λn h h' st kp=>by
  let(er,eI,(c,d,eO),t1,t2):=st;show#[kp r ⋯ _ er,kp tI ⋯ _ eI,#[c,d,kp tO ⋯ _ eO],t1.keep λo q=>kp i ⋯ o q,t2.keep λo q=>kp j ⋯ o q]
 item:=by
  intro X hP hw hK hc n aj s σ H E I hf st hg;subst hP hw hK;let(er,eI,(c,d,eO),t1,t2):=st;let(xs,ys,x,y,qx,qy,gx,gy):=hg;let(Z6,rx,Z7,zx):=qx.real I;let(Z8,ry,Z9,zy):=qy.real I;have nf:∀{u:Addr}{us:List V}{c:Addr},rm tp X.K H u us->c∈[r,tI,tO,i,j]->u≠c:=λh hc=>rm.Rm I h (hf _ hc)
  have N:X6 r tI tO i j a b:=#[#[A1.1,A1.2.1,A1.2.2.1,A1.2.2.2,nf qx ⋯,nf qy ⋯],#[A2.1,A2.2.1,A2.2.2,nf qx ⋯,nf qy ⋯],A3,#[nf qx ⋯,nf qy ⋯,nf qx ⋯,nf qy ⋯]];have l1:n<Z6.length:=by rw[<- rx.length];show (dE.mp gx).1
  have l2:n<Z8.length:=by rw[<- ry.length];show (dE.mp gy).1
  apply Jk N (mJ (A:=X.A.in1) (I.ok.hd hc) (nf qx ⋯) Z6) (mJ (A:=X.A.in1) (I.ok.hd hc) (nf qy ⋯) Z8) l1 l2 er eI eO #[t1,Z7] #[t2,Z9] λu v h1 tk fu gv L1 eO1 s1 s2 new sz kp=>#[_,rfl,?_]
  apply wpAny_letOwnedTupleGo_zip L1 λh2 er2 k2=>?_
  let(u',e1,ru):=rx.get gx;let(v',e2,rv):=ry.get gy;rw[fu]at e1;cases e1;rw[gv]at e2;cases e2;have pr:=AC (eM er);have kk:∀x o,x∉[r,tO,i,j]->s.heap.get? x=!o->h2.get? x=!o:=λx o hx e=>by
   simp only[dS,l9,A7,not_or]at hx;show (k2.2 x hx.1).trans (kp x o hx.1 hx.2.1 hx.2.2.1 hx.2.2.2 e)
  have J:=Inv.Ve (t':=tk) I (λc hc=>hf c (by simp only[dS,l9]at hc ⊢;rcases hc with h |h |h |h <;> simp[h])) kk (by rw[oQ];exact 2<=16777216;decide) (.cons ru (.cons rv .nil)) #[_,(k2.2 _ pr).trans new,#[rfl,_,rfl],rfl]
  have eI2:=kk _ _ (by simp[A1.1,A2.1,A3.1,A3.2.1]) eI
  apply#[.ref s⁻¹,_,J,rfl,#[_,x,y,λzs hz=>by rw[hz.inj I qx];show gx,λzs hz=>by rw[hz.inj I qy];show gy,I.hok.fresh (eA _),rfl,rfl],#[er2,eI2,#[u,v,(k2.2 _ A1.2.1).trans eO1],s1.1.keep λo q=>(k2.2 _ A1.2.2.1).trans q,s2.1.keep λo q=>(k2.2 _ A1.2.2.2).trans q],λc hc=>?_]
  have hcn:c≠s⁻¹:=λz=>by
   have:∃o,s.heap.get? c=!o:=by
    simp only[dS,l9,A7]at hc;rcases hc with rfl |rfl |rfl |rfl |rfl
    . show#[_,er]
    . show#[_,eI]
    . show#[_,eO]
    . let(o,_,e,_):=t1.obj;show#[o,e]
    . let(o,_,e,_):=t2.obj;show#[o,e]
   let(o,e):=this;show absurd (eM e) (by rw[z];show nK _)
  rw[az hcn];show (hf c hc).1
 done:=by
  intro X hP hw hK hc n aj s σ H E I hf st hg;subst hP hw hK;let(er,eI,(c,d,eO),t1,t2):=st;let(xs,ys,qx,qy,hn):=hg;let(Z6,rx,Z7,zx):=qx.real I;let(Z8,ry,Z9,zy):=qy.real I;have nf:∀{u:Addr}{us:List V}{c:Addr},rm tp X.K H u us->c∈[r,tI,tO,i,j]->u≠c:=λh hc=>rm.Rm I h (hf _ hc)
  have N:X6 r tI tO i j a b:=#[#[A1.1,A1.2.1,A1.2.2.1,A1.2.2.2,nf qx ⋯,nf qy ⋯],#[A2.1,A2.2.1,A2.2.2,nf qx ⋯,nf qy ⋯],A3,#[nf qx ⋯,nf qy ⋯,nf qx ⋯,nf qy ⋯]];apply wN N (mJ (A:=X.A.in1) (I.ok.hd hc) (nf qx ⋯) Z6) (mJ (A:=X.A.in1) (I.ok.hd hc) (nf qy ⋯) Z8) (by rw[<- rx.length,<- ry.length];show hn) er eI eO #[t1,Z7] #[t2,Z9] λh1 tk kp=>#[rfl,?_]
  show Inv.Vd I (ch:=[r,tO,i,j]) (λc hc=>hf c (by simp only[dS,l9]at hc ⊢;rcases hc with h |h |h |h <;> simp[h])) λx o hx e=>by
   simp only[dS,l9,A7,not_or]at hx;show kp x o hx.1 hx.2.1 hx.2.2.1 hx.2.2.2 e
 self:=λA n s Q E st h=>wpAny_pyIter_zip st.1 h
open L2 PySem.W SeqAt
section
meta abbrev zT1(h:Heap)(a:Addr):Heap:=h.push { cls:=.type "tuple_iterator",data:=.fields ([.ref a,.int 0 0].toArray)}
meta abbrev zT2(h:Heap)(a b:Addr):Heap:=(zT1 h a).push { cls:=.type "tuple_iterator",data:=.fields ([.ref b,.int 0 0].toArray)}
meta abbrev zT3(h:Heap)(a b:Addr):Heap:=(zT2 h a b).push { cls:=.type "tuple",data:=.seq ([.ref h.objs.size,.ref (zT1 h a).objs.size].toArray)}
meta abbrev zT4(h:Heap)(a b:Addr):Heap:=(zT3 h a b).push { cls:=.type "tuple",data:=.seq ([.none,.none].toArray)}
meta abbrev X7 (h:Heap) (a b:Addr):Heap:=(zT4 h a b).push { cls:=.type "zip",data:=.fields ([.none,.bool false,.bool false,.ref (zT2 h a b).objs.size,.ref (zT3 h a b).objs.size].toArray)}
def zB(a b:Addr)(xs ys:Array Value) :
  Meets (Builtin.«zip.__new__» #[[.type "zip",.ref a,.ref b],[]]) (λ_ R s=>s.heap.IsTuple a xs/\s.heap.IsTuple b ys/\R (.ok (.ret (.ref (zT4 s.heap a b).objs.size))) { s with heap:=X7 s.heap a b}):=
 .of_wp λprog w A R s h=>by
  let(hp,g,d,tk,os):=s;let(ta,tb,h):=h;have hsub:=sub_zip;have T1:Heap.IsTuple (Shared.heap #[hp,g,d,tk,os]) a xs:=ta;have T2:Heap.IsTuple (Shared.heap #[zT1 hp a,g,d,tk,os]) b ys:=by let(o,e,rr):=tb;show#[o,dA _ e,rr]
  wp_walk using x5 T1,x5 T2
  show#[_,rfl,h]
def Eo(ta:s.heap.IsTuple a xs)(tb:s.heap.IsTuple b ys)
  (h:∀h',IsZip h' (s⁻¹+4) (s⁻¹+2) (s⁻¹+3) .none->IsPair h' (s⁻¹+2) (.ref s⁻¹) (.ref (s⁻¹+1))->
   IsPair h' (s⁻¹+3) .none .none->h'.IsTupleIter s⁻¹ a 0->h'.IsTupleIter (s⁻¹+1) b 0->h'.objs.size=s⁻¹+5->
   (∀c o,s.heap.get? c=!o->h'.get? c=!o)->Q (.ref (s⁻¹+4)) { s with heap:=h'}) :
  wpAny (model prog w) A (call (.type "zip") [.ref a,.ref b]) Q E s:=by
 apply callType_new F.called_zip ⋯ (F.typeCall_zip_2 _ _) (F.newCall_zip_2 _ _) (λobj=>F.args_object_init_3 obj _ _) F.entry_zip_new (zB a b xs ys) #[ta,tb,?_]
 have s1:(zT1 s.heap a).objs.size=s⁻¹+1:=qS ..;have s2:(zT2 s.heap a b).objs.size=s⁻¹+2:=by rw[qS,s1]
 have s3:(zT3 s.heap a b).objs.size=s⁻¹+3:=by rw[qS,s2]
 have s4:(zT4 s.heap a b).objs.size=s⁻¹+4:=by rw[qS,s3]
 have o5:(X7 s.heap a b).get? (zT4 s.heap a b).objs.size=!_:=eD _ rfl;have o4:(X7 s.heap a b).get? (zT3 s.heap a b).objs.size=!_:=dA _ (eD _ rfl);have o3:(X7 s.heap a b).get? (zT2 s.heap a b).objs.size=!_:=dA _ (dA _ (eD _ rfl));have o2:(X7 s.heap a b).get? (zT1 s.heap a).objs.size=!_:=dA _ (dA _ (dA _ (eD _ rfl)));have o1:(X7 s.heap a b).get? s⁻¹=!_:=dA _ (dA _ (dA _ (dA _ (eD _ rfl))));rw[s4]at o5 ⊢
 rw[s2,s3]at o5;rw[s2,s1]at o3;rw[s3]at o4;rw[s1]at o2;show#[#[_,o5,rfl],h _ o5 o3 o4 #[_,o1,rfl,rfl] #[_,o2,rfl,rfl] (by rw[qS,s4]) λc o e=>dA _ (dA _ (dA _ (dA _ (dA _ e))))]
end
abbrev uI(l m:List D):List D:=(l.zip m).map λp=>.tup [p.1,p.2]
def Jm{l m:List D}{n:Nat}{d:D}(h:(uI l m)[n]?=!d):∃x y,l[n]?=!x/\m[n]?=!y/\d=.tup [x,y]:=by
 delta uI at h;rw[pV]at h;cases e:(l.zip m)[n]? with
 |none=>rw[e]at h;symm
 |some q=>rw[e]at h;symm;let(h1,h2):=List.getElem?_zip_eq_some.mp e;show#[q.1,q.2,h1,h2,rfl]
def Jo(l m:List D):(uI l m).length=min l.length m.length:=by simp[uI]
section
abbrev isTup:D->Bool
 |.tup _=>true
 |_=>false
def Rep.sqX{K:Frag}{M:List Addr}{H:Hp}{d:D}{v:V}{l:List D}(r:Rep K M H d v)(h:bV d=!l):∃a xs,v=.ref a/\aJ K M H l xs/\∀M2 H2,au M H M2 H2->rm (isTup d) K H2 a xs:=by
 cases r with
 |@lst _ a xs hb rr=>symm;show#[a,xs,rfl,rr,λM2 H2 st=>cg.of (st _ _ hb.2 hb.1).1]
 |@tup _ a xs hb rr=>
  symm;apply#[a,xs,rfl,rr,λM2 H2 st=>?_]
  have:TupAt K M2 H2 a xs:=by
   rcases hb with ⟨na,hr⟩ |hk
   . show .inl (st.rd na hr)
   . show .inr hk
  show this.sq
 |@fix _ a xs hb rr=>
  symm;apply#[a,xs,rfl,rr,λM2 H2 st=>?_]
  have:nu K M2 H2 a xs:=by
   rcases hb with ⟨na,o,hr⟩ |hk
   . show .inl #[(st _ _ hr na).2,o,(st _ _ hr na).1]
   . show .inr hk
  show this.sq
 |_=>symm
def Ep(ta:Z4 tp s.heap a xs)(tb:Z4 tp s.heap b ys)
  (h:∀h',IsZip h' (s⁻¹+4) (s⁻¹+2) (s⁻¹+3) .none->IsPair h' (s⁻¹+2) (.ref s⁻¹) (.ref (s⁻¹+1))->
   IsPair h' (s⁻¹+3) .none .none->Gr tp h' s⁻¹ a 0->Gr tp h' (s⁻¹+1) b 0->h'.objs.size=s⁻¹+5->
   (∀c o,s.heap.get? c=!o->h'.get? c=!o)->Q (.ref (s⁻¹+4)) { s with heap:=h'}):wpAny (model prog w) A (call (.type "zip") [.ref a,.ref b]) Q E s:=by
 cases tp with
 |true=>show Eo ta tb h
 |false=>show call_zip_2 ta tb h
def Vf{d1 d2:D}{l m:List D}(hK:z.K=X.K)(ha:cY X z [e1,e2] g [.dat d1,.dat d2] g1)(h1:bV d1=!l)(h2:bV d2=!m)(hkd:isTup d1=isTup d2)(hg:Gl X "zip")(hm:X.mg "zip"=none)(cZ:starEach [e1,e2] X.env=(false,eval e1 X.env)::starEach [e2] X.env)(lP:(backTo rp (starEach [e2] X.env)).any (·.1)=false) :
  fG X z (.Tuple es k pos) (.Call (.Name "zip" p) [e1,e2] [] rp) g (uI l m) g1:=by
 apply fG.of λaj s σ As M H Post I stt kk=>?_
 apply Call_ (g8 I hg hm boot_zip (oI (ha.run I stt λvs us s1 H1 aQ M1 I1 r1 q1 q2 q3=>?_) cZ lP))
 cases q3 with
 |dat rp1 R=>cases R with
  |dat rp2 R=>
   cases R;let(u1,u2,rfl,ru1,ru2):=vals2 r1;let(a,xs,rfl,rr1,sq1):=rp1.sqX h1;let(b,ys,rfl,Gm,sq2):=rp2.sqX h2;cases ru1;cases ru2;rw[<- hkd]at sq2;have sa:=hK▸sq1 M1 H1 (au.refl _ _);have sb:=hK▸sq2 M1 H1 (au.refl _ _);let(Z6,_,Z7,_):=sa.real I1;let(Z8,_,Z9,_):=sb.real I1;apply Ep Z7 Z9 λh' er eI eO t1 t2 jK hk=>kk _ _ λR kR=>?_
   apply wpAny_pyIter_zip er ?_;have I2:=I1.kept (t':=s1.toks) hk;apply#[_,[s1⁻¹+4,s1⁻¹+2,s1⁻¹+3,s1⁻¹,s1⁻¹+1],_,Itz (isTup d1) X.K a b,H1,rfl,I2,Jl (s1⁻¹+4) (s1⁻¹+2) (s1⁻¹+3) s1⁻¹ (s1⁻¹+1) a b (by apply#[?_,?_,?_,?_] <;> (intro q;have q:=q;lia)) (by apply#[?_,?_,?_] <;> (intro q;have q:=q;lia)) (by apply#[?_,?_,?_] <;> (intro q;have q:=q;lia)),#[er,eI,#[_,_,eO],t1,t2],λc hc=>?_,kR _ H1 aQ M1 q1 q2 λM2 H2 aM=>?_]
   .
    have hle:s1⁻¹<=c:=by simp only[dS,l9,A7]at hc;rcases hc with rfl |rfl |rfl |rfl |rfl <;> lia
    show I1.yL hle (I1.hok.fresh hle)
   .
    have s1':=hK▸sq1 M2 H2 aM;have s2':=hK▸sq2 M2 H2 aM;have R1:=rr1.stay aM;have R2:=Gm.stay aM;apply#[λn d hd=>?_,xs,ys,s1',s2',?_]
    .
     let(x,y,f1,f2,rfl):=Jm hd;let(vx,e2,e3):=R1.get f1;let(vy,e4,e5):=R2.get f2;apply#[#[xs,ys,vx,vy,s1',s2',e2,e4],λw H' hy z' g' σ' aE hz' s'=>?_]
     let(p,u,v,w1,w2,w3,rfl,rfl):=hy;have w1:=w1 xs s1';have w2:=w2 ys s2';rw[e2]at w1;cases w1;rw[e4]at w2;cases w2;show#[s'.laid w3,au.laid w3,.tup (.inl #[s'.fresh w3,.inl aC]) (.cons (e3.stay (au.laid w3)) (.cons (e5.stay (au.laid w3)) .nil))]
    . rw[Jo,rr1.length,Gm.length];lia
end
end Ev
namespace L2
abbrev BJ(T:List Addr)(H:Hp):Prop:=∀b,(b∈T/\H b=!(.ni ([].toArray)))\/(b∉T/\(H b=none\/∃o xs,H b=!(.fT o (.lst xs))))
def Er{P:Program}{w:World}{K:Frag}{mg mb:Str->Option Value}{CX:Di}{k:Nat}{fa a:Addr}{fd:FuncData}{x:Str}{sp:Sp}{s₁:Shared}{vs:List Value}{ns: ~~~0}{T:List Addr}
  (KX:K.In s₁.heap) (hT:∀q∈T,(∃c,s₁.heap.TableAt c q ([].toArray))/\K.lookup q=none) (hns:s₁.heap.Ns mainGlobals mg) (hb:s₁.heap.Ns builtinsNs mb) (hbb:∀x:Str,x≠ "__name__" ->mb x=bootBuiltins x) (hlim:s₁.heap.NoLimit) (hg:s₁.gens = ([].toArray))
  (ha:s₁.heap.get? a=some { cls:=.type "list",data:=.seq vs.toArray}) (hi:IntsAre vs ns) (hl:ns.length<=sizeLine) (hr:cO k callerA)
  (F:∀base:Heap,K.In base->base.Ns mainGlobals mg->jT P w K mg base CX k fa fd [x] sp) (hbind:∀(s:Shared) (u:Value),BindsTo s fd #[[u],[]] [(x,u)])
  (XT:∀H:Hp,BJ T H->cg K H a (ns.map V.int)->sp [.ref a] H (λv _=>v=.bl true) λ_ _ _=>False)
  (hCX:∀H e s',CX [] H s₁ (λ_ _ _=>False) e s'->False) :
  codeAny (model P w) callerA (.call (.ref fa) #[[.ref a],[]]) (λr s'=>r=.ok (.ret (.bool true))/\OldK s₁.heap s'.heap/\s'.os=s₁.os/\AllBare s'.gens) s₁:=by
 have rv:=sr hi;have lenV:=hi.length;have aT:a∉T:=λh=>by
  let((c,_,e),_):=hT a h;rw[ha]at e;cases e
 have core:∀H:Hp,BJ T H->cg K H a (ns.map V.int)->lT P w H s₁.heap->(∀b,H b≠none->b=a\/b∈T)->(H a≠none->K.lookup a=none)->
   codeAny (model P w) callerA (.call (.ref fa) #[[.ref a],[]]) (λr s'=>r=.ok (.ret (.bool true))/\OldK s₁.heap s'.heap/\s'.os=s₁.os/\AllBare s'.gens) s₁:=by
  intro H hO hS hok hA hK;have BK:∀{b:Addr}{o:Obj},s₁.heap.get? b=!o->H b=none->(tR s₁.heap H).get? b=!o:=λe n=>Gz e n
  have Za:∀{b:Addr}{o:Obj}{es:Array DictEntry}{ep:Nat},s₁.heap.get? b=!o->o.data=.dict es ep->H b=none:=λ{b o es ep} e d=>by
   cases q:H b with
   |none=>rfl
   |some u=>
    rcases hA b (by rw[q];simp)with e' |e'
    . subst e';rw[ha]at e;cases e;have d':=d;cases d'
    . let((c,_,e2),_):=hT b e';rw[e]at e2;cases e2;have d':=d;cases d'
  have nsK:∀{b:Addr}{m:Str->Option Value},s₁.heap.Ns b m->(tR s₁.heap H).Ns b m:=λ{b m} #[o,es,ep,e,d,r]=>#[o,es,ep,BK e (Za e d),d,r]
  have Ro:K.In (tR s₁.heap H):=λb o e=>BK (KX b o e) (by
   cases q:H b with
   |none=>rfl
   |some u=>
    rcases hA b (by rw[q];simp)with e' |e'
    . subst e';rw[hK (by rw[q];simp)]at e;cases e
    .
     rw[(hT b e').2]at e;cases e)
  have hM:Mod K mg (tR s₁.heap H):=#[Ro,nsK hns,#[mb,nsK hb,hbb],let #[mc,h1,h2]:=hlim;#[mc,nsK h1,h2]]
  have e0:G6 P w K mg (tR s₁.heap H) callerA [] s₁ H:=#[rfl,hM,λb o e=>Mi e,Nat.le_of_eq (Dc _ _),trivial,λb hb=>absurd (show b∈([]:List Addr)from hb) ⋯,hok,.of_eq hg]
  apply BF ((F _ Ro (nsK hns)).run callerA [] s₁ H #[[.ref a],[]] [.ref a] [.ref a] _ _ hr e0 (hbind s₁ (.ref a)) (.cons rfl .nil) (XT H hO hS)) λr s' h=>?_
  cases r with
  |error e=>show (hCX H e s' h).elim
  |ok fl=>
   cases fl with
   |next=>show False.elim h
   |brk=>show False.elim h
   |cont=>show False.elim h
   |ret u=>
    let(v,H',os,bare,un,Oq,r',q):=h;have q':=q;subst q';obtain rfl:u=Value.bool true:=r';have tabs:∀b∈T,∀o,s₁.heap.get? b=!o->∃more,o={ cls:=.none,data:=.fields ([].toArray)}/\s'.heap.get? b=some { cls:=.none,data:=.fields more}:=λb hb o e=>by
     let((c,_,e2),_):=hT b hb;rw[e]at e2;cases e2;rcases hO b with ⟨_,z⟩ |⟨z,_⟩
     . let(more,z2):=un.kI b _ z;show#[_,rfl,Oq b _ z2]
     . show absurd hb z
    have rest:∀b,b∉T->∀o,s₁.heap.get? b=!o->s'.heap.get? b=!o:=λb hb o e=>by
     cases q:H b with
     |none=>show un.keep b o e q (by intro z;show absurd (show b∈([]:List Addr)from z) ⋯) ⋯
     |some u=>
      rcases hO b with ⟨z,_⟩ |⟨_,z⟩
      . show absurd z hb
      .
       rcases z with z |⟨ob,xs,z⟩
       . rw[q]at z;cases z
       . have z2:=un.kG b ob _ z;let(e1,_):=hok b _ z;let(e2,_):=Oq b _ z2;rw[e]at e1;cases e1;show e2
    apply#[rfl,#[λb o e=>?_,λb o e=>?_],os,bare]
    .
     by_cases hb:b∈T
     . let(more,rfl,e2):=tabs b hb o e;let((c,t),_):=hT b hb;show .inr (.inl #[t.isCodeTable,rfl,([].toArray),more,rfl,by rw[e2];simp])
     . show .inl (rest b hb o e)
    .
     by_cases hb:b∈T
     . let(more,rfl,e2):=tabs b hb o e;show#[_,e2]
     . show#[_,rest b hb o e]
 have Jp:∀b∈T,s₁.heap.get? b=some { cls:=.none,data:=.fields ([].toArray)}:=λb hb=>by
  let((c,_,e2),_):=hT b hb;show e2
 cases hk:K.lookup a with
 |some o=>
  have e:=KX a o hk;rw[ha]at e;cases e;apply core (λb=>if b∈T then some (.ni ([].toArray))else none) (λb=>?_) (.inr #[_,vs.toArray,_,hk,rfl,rfl,rfl,by rw[dL,lenV];show hl,by simpa using rv]) (λb u z=>?_) (λb z=>?_) λz=>absurd (lL aT) z
  .
   by_cases hb:b∈T
   . show .inl #[hb,i7 hb]
   . show .inr #[hb,.inl (lL hb)]
  .
   by_cases hb:b∈T
   . have z':=(i7 hb).symm.trans z;cases z';show Jp b hb
   . have z':=(lL hb).symm.trans z;cases z'
  .
   by_cases hb:b∈T
   . show .inr hb
   . show absurd (lL hb) z
 |none=>
  apply core (λb=>if b∈T then some (.ni ([].toArray))else if b=a then some (.fT { cls:=.type "list",data:=.seq vs.toArray} (.lst (ns.map V.int)))else none) (λb=>?_) (.inl (.inr #[{ cls:=.type "list",data:=.seq vs.toArray},(lL aT).trans (i7 rfl)])) (λb u z=>?_) (λb z=>?_) λ_=>hk
  .
   by_cases hb:b∈T
   . show .inl #[hb,i7 hb]
   .
    apply .inr #[hb,?_];by_cases hb2:b=a
    . show .inr #[_,_,(lL hb).trans (i7 hb2)]
    . show .inl ((lL hb).trans (lL hb2))
  .
   by_cases hb:b∈T
   . have z':=(i7 hb).symm.trans z;cases z';show Jp b hb
   .
    have z1:=(lL hb).symm.trans z;by_cases hb2:b=a
    . have z':=(i7 hb2).symm.trans z1;cases z';subst hb2;show#[ha,by rw[eJ];show hl,vs,_,rv,ha]
    . have z':=(lL hb2).symm.trans z1;cases z'
  .
   by_cases hb:b∈T
   . show .inr hb
   .
    by_cases hb2:b=a
    . show .inl hb2
    . show absurd ((lL hb).trans (lL hb2)) z
end L2
namespace Ev
open L2
meta abbrev mL(p:Addr)(o:Obj):HO:=.ext λh=>h.get? p=!o
section
def S.grow(s:S z g σ As M H){q:Addr}{qn:Str}{ps:Array Value}{pos:Pos}{c:Addr}(hq:(q,qn)∈z.T)(hu:∀p∈z.T,p.1=q->p.2=qn)(hp:H q=!(.ni ps))(ht:TriplesOk ps.toList)(hc:H c=!(iO qn c))
  (ok:TriplesOk (ps ++ ([rawInt pos.line,rawInt pos.col,.ref c].toArray)).toList) (am:∀pos' cv,codeAmong pos' (ps ++ ([rawInt pos.line,rawInt pos.col,.ref c].toArray)).toList=!cv->codeAmong pos' ps.toList=!cv\/cv=.ref c) :
  S z g σ As M (upd H q (.ni (ps ++ ([rawInt pos.line,rawInt pos.col,.ref c].toArray)))) where
 sl:=s.sl.stay (au.write (s.iU _ (s.tm _ hq))) λa ha u e=>by
  rcases s.live a (s.sub a ha)with ⟨o,e2,gr⟩ |e2
  . rw[az (λz=>by rw[z,hp]at e2;cases e2;show gr)];show e
  .
   show absurd e2 (λw=>by
    have:∃xs,H a=!(.lst xs):=by
     have key:∀{g:G}{σ:Sg}{As:List Addr},Slots z.K M H g σ As->∀a∈As,∃xs,H a=!(.lst xs):=λq=>by
      induction q with
      |nil=>intro a h;symm
      |no _ ih=>show ih
      |dat _ _ ih=>show ih
      |own e _ _ ih=>intro a h;rcases dS.mp h with rfl |h;show#[_,e];show ih a h
     show key s.sl a ha
    let(xs,e3):=this;show s.Rg e3 w)
 nd:=s.nd
 sub:=s.sub
 own:=s.own
 live:=λm hm=>by
  rcases s.live m hm with ⟨o,e,gr⟩ |e
  . show .inl #[o,by rw[az (λz=>by rw[z,hp]at e;cases e;show gr)];show e,gr]
  . show .inr e
 keep:=λb u e hb hT=>by
  rw[az (λz=>hT (by rw[z];show gN.mpr #[_,hq,rfl]))];show s.keep b u e hb hT
 iU:=s.iU
 m0:=s.m0
 bm:=s.bm
 jz:=s.jz
 tab:=λp h=>by
  have lam:∀d X8,H d=!(iO X8 d)->upd H q (.ni (ps ++ ([rawInt pos.line,rawInt pos.col,.ref c].toArray))) d=!(iO X8 d):=λd X8 e=>by
   rw[az (λz=>by rw[z,hp]at e;cases e)];show e
  by_cases e:p.1=q
  .
   let(p1,p2):=p;have e1:p1=q:=e;have e2:p2=qn:=hu _ h e;subst e1;subst e2;apply#[_,aC,ok,λpos' cv ec=>?_]
   rcases am pos' cv ec with ec |rfl
   . let(ps',h1,_,h3):=s.tab _ h;have h1:H p1=!(.ni ps'):=h1;rw[hp]at h1;cases h1;let(d,e1,e2):=h3 pos' cv ec;show#[d,e1,lam d _ e2]
   . show#[c,rfl,lam c _ hc]
  .
   let(ps',h1,h2,h3):=s.tab p h;apply#[ps',by rw[az e];show h1,h2,λpos' cv ec=>?_]
   let(d,e1,e2):=h3 pos' cv ec;show#[d,e1,lam d _ e2]
 tm:=s.tm
 tt:=s.tt
end
def uJ(h:TriplesOk l):TriplesOk (l++[.int i a,.int j b,v]):=by
 fun_induction TriplesOk l with
 |case1=>trivial
 |case2 _ _ _ _ _ rest ih=>show ih h
 |case3=>show h.elim
def zC(h:TriplesOk l)(e:codeAmong pos (l++[.int i a,.int j b,v])=!cv):codeAmong pos l=!cv\/cv=v:=by
 fun_induction TriplesOk l with
 |case1=>
  simp only[AV,codeAmong]at e;split at e
  . show .inr (o6 e).symm
  . cases e
 |case2 line _ col _ c rest ih=>
  simp only[List.cons_append,codeAmong]at e ⊢
  split at e
  . ext q;rw[i7 q];show .inl e
  . ext q;rw[lL q];show ih h e
 |case3=>show h.elim
section
def BL(hok:lT P w H h)(hq:H q=!(.ni ps))(hq':H' q=!(.ni (ps++more)))(k:∀b o,b≠q->h.get? b=!o->h'.get? b=!o)(tq:∃o,h'.get? q=!o)
  (kH:∀b,b<h.objs.size->b≠q->H' b=H b):Un fs [] H H' h h' where
 keep:=λb o e n _ _=>k b o (λz=>by rw[z,hq]at n;cases n) e
 slot:=λb o e n _ _=>#[o.slots,k b o (λz=>by rw[z,hq]at n;cases n) e]
 free:=λb o e n _=>by rw[kH b (eM e) (λz=>by rw[z,hq]at n;cases n)];show n
 there:=λb o e _=>by
  by_cases hb:b=q
  . subst hb;show tq
  . show#[o,k b o hb e]
 tups:=λb xs e=>by rw[kH b (hok.lt e) (λz=>by rw[z,hq]at e;cases e)];show e
 kG:=λb o u e=>by rw[kH b (hok.lt e) (λz=>by rw[z,hq]at e;cases e)];show e
 kI:=λb ps' e=>by
  by_cases hb:b=q
  . subst hb;rw[hq]at e;cases e;show#[_,hq']
  . rw[kH b (hok.lt e) hb];show#[([].toArray),by rw[e];simp]
end
section
def Jq(e:h.get? p=!o):cX P w H h p (mL p o):=#[e,#[o,e],λ_ _ e k=>k _ e]
def Ot(e:h.CodeRec (.ref c) q):cX P w H h c (iO q c):=by
 apply#[e,?_,λh1 h2 e k=>?_]
 . let(c',o,vs,t,e1,e2,_):=e;cases e1;show#[o,e2]
 . let(c',o,vs,t,e1,e2,e3):=e;cases e1;show#[c,o,vs,t,rfl,k _ e2,e3]
def Jr(I:L2.Inv X aj σ H s)(hs:S z g σ As M H)(hq:(q,qn)∈z.T)(hu:∀p∈z.T,p.1=q->p.2=qn)(hcode:X.env.code=.ref c)(C:PySem.W.CodeHd X.base c q)(hqn:X.env.qual ++ "<lambda>"=qn)
  (hb:X.base.BuiltinsAt X.mg q) (hqm:mainGlobals≠q) (hdef:defaultsOf params X.env=([],[])) (B:aO X.env.scope scope)
  (h:∀(p c':Addr) (jr:Value) (cl:List (Str×Addr)) (H':Hp) (s':Shared),L2.Inv X aj σ H' s'->S z g σ As M H'->au M H M H'->p∉M->
   H' p=!(mL p (PySem.W.kla_obj "<lambda>" qn params body scope cl ((X.mg "__name__").getD .none) c' jr))->H' c'=!(iO qn c')->
   (∀x c,cl.lookup x=!c->X.env.cells.lookup x=!c/\(x,NameKind.free)∈scope.names)->(∀y∈scope.names,y.2=.free->∃c,cl.lookup y.1=!c)->(∀b xs,H b=!(.lst xs)->H' b=!(.lst xs))->Q (.ref p) s') :
  wpAny (~~~2) X.A (eval (.Lambda params body scope pos) X.env) Q E s:=by
 apply PySem.W.kla_eval hdef ?_;rw[hqn];let(ps,hp,ht,hcs):=hs.tab _ hq;have hP:=I.hok q _ hp;let(cl,hcl,Es,Ou):=pJ λy hy e=>I.ok.has y.1 (by
  rcases B.free y hy e with e |e
  . show .inl e
  .
   show .inr e)
 have qlt:=eM hP;cases hf:codeAmong pos ps.toList with
 |some cv=>
  let(c',rfl,hc'):=hcs pos cv hf;apply PySem.W.kla_makeFunctionHit hcl I.ok.glob (I.ok.mod.glob.keeps I.bk) hcode (C.keeps I.bk) hP ht hf (hb.keeps I.bk) λjr h' tk hk jK=>?_
  have hk2:∀b o,s.heap.get? b=!o->(h'.push (PySem.W.kla_obj "<lambda>" qn params body scope cl ((X.mg "__name__").getD .none) c' jr)).get? b=!o:=λb o e=>dA _ (hk b o e)
  have fr:=I.hok.fresh jK;have kH:∀b,b<s⁻¹->b≠q->upd H h'.objs.size (mL h'.objs.size (PySem.W.kla_obj "<lambda>" qn params body scope cl ((X.mg "__name__").getD .none) c' jr)) b=H b:=λb hb _=>az (kS (fA hb jK))
  have X8:=kS (fA qlt jK);apply h _ c' jr cl (upd H h'.objs.size (mL h'.objs.size (PySem.W.kla_obj "<lambda>" qn params body scope cl ((X.mg "__name__").getD .none) c' jr))) _ (I.call' rfl
   (BL (more:=([].toArray)) I.hok hp (by rw[az X8,hp];simp) (λb o _ e=>hk2 b o e) #[_,hk2 _ _ hP] kH) (I.hok.laid hk2 jK (Jq (eD _ rfl))) I.bare λb z=>nomatch z) (hs.laid fr) (au.laid fr) (hs.fresh fr) aC ?_ Es Ou λb xs e=>by rw[az (aK e fr)];show e
  rw[az (λz=>by rw[z,fr]at hc';cases hc')];show hc'
 |none=>
  apply PySem.W.kla_makeFunction hcl I.ok.glob (I.ok.mod.glob.keeps I.bk) hcode (C.keeps I.bk) hP ht hf hqm (hb.keeps I.bk) λc' jr h' tk hx hc1 hc2 hcr hP'=>?_
  have jK:=DD (Nat.lt_of_le_of_lt hc1 hc2);have hk2:∀b o,b≠q->s.heap.get? b=!o->(h'.push (PySem.W.kla_obj "<lambda>" qn params body scope cl ((X.mg "__name__").getD .none) c' jr)).get? b=!o:=λb o ne e=>dA _ (hx b o ne e)
  have frc:=I.hok.fresh hc1;have frp:=I.hok.fresh jK;have qc:=kS (fA qlt hc1);have qp:=kS (fA qlt jK);have cp:=kS hc2;have s1:=hs.laid (o:=iO qn c') frc;have e1:upd H c' (iO qn c') q=!(.ni ps):=by rw[az qc];show hp
  have s2:=s1.grow (pos:=pos) hq hu e1 ht aC (by rw[Array.toList_append];show uJ ht) (λpos' cv e=>zC ht (by rw[Array.toList_append]at e;show e))
  have frp2:upd (upd H c' (iO qn c')) q (.ni (ps ++ ([rawInt pos.line,rawInt pos.col,.ref c'].toArray))) h'.objs.size=none:=by rw[az qp.symm,az cp.symm];show frp
  have s3:=s2.laid (o:=mL h'.objs.size (PySem.W.kla_obj "<lambda>" qn params body scope cl ((X.mg "__name__").getD .none) c' jr)) frp2;have kH:∀b,b<s⁻¹->b≠q->upd (upd (upd H c' (iO qn c')) q (.ni (ps ++ ([rawInt pos.line,rawInt pos.col,.ref c'].toArray)))) h'.objs.size (mL h'.objs.size (PySem.W.kla_obj "<lambda>" qn params body scope cl ((X.mg "__name__").getD .none) c' jr)) b=H b:=λb hb ne=>by
   rw[az (kS (fA hb jK)),az ne,az (kS (fA hb hc1))]
  have hq3:upd (upd (upd H c' (iO qn c')) q (.ni (ps ++ ([rawInt pos.line,rawInt pos.col,.ref c'].toArray)))) h'.objs.size (mL h'.objs.size (PySem.W.kla_obj "<lambda>" qn params body scope cl ((X.mg "__name__").getD .none) c' jr)) q=!(.ni (ps ++ ([rawInt pos.line,rawInt pos.col,.ref c'].toArray))):=by rw[az qp];show aC
  have hc3:upd (upd (upd H c' (iO qn c')) q (.ni (ps ++ ([rawInt pos.line,rawInt pos.col,.ref c'].toArray)))) h'.objs.size (mL h'.objs.size (PySem.W.kla_obj "<lambda>" qn params body scope cl ((X.mg "__name__").getD .none) c' jr)) c'=!(iO qn c'):=by rw[az cp,az qc.symm];show aC
  have hP2:=dA (PySem.W.kla_obj "<lambda>" qn params body scope cl ((X.mg "__name__").getD .none) c' jr) hP';have Oq:lT X.prog X.w (upd (upd (upd H c' (iO qn c')) q (.ni (ps ++ ([rawInt pos.line,rawInt pos.col,.ref c'].toArray)))) h'.objs.size (mL h'.objs.size (PySem.W.kla_obj "<lambda>" qn params body scope cl ((X.mg "__name__").getD .none) c' jr))) (h'.push (PySem.W.kla_obj "<lambda>" qn params body scope cl ((X.mg "__name__").getD .none) c' jr)):=λb u e=>by
   by_cases b1:b=h'.objs.size
   . subst b1;rw[aC]at e;cases e;show Jq (eD _ rfl)
   .
    by_cases b2:b=q
    . subst b2;rw[hq3]at e;cases e;show hP2
    .
     by_cases b3:b=c'
     .
      subst b3;rw[hc3]at e;cases e;show Ot (by
       let(d,o,vs,t,e1,e2,e3):=hcr;show#[d,o,vs,t,e1,dA _ e2,e3])
     .
      rw[az b1,az b2,az b3]at e;apply (I.hok b u e).stay (λd o hd eo=>hk2 d o (λz=>?_) eo) (λd ed=>?_) λd xs ed=>?_
      .
       rcases hd with hd |hd
       . show b2 (hd▸z)
       . rw[z,hp]at hd;cases hd
      . rw[kH d (I.hok.lt ed) (λz=>by rw[z,hp]at ed;cases ed)];show ed
      . rw[kH d (I.hok.lt ed) (λz=>by rw[z,hp]at ed;cases ed)];show ed
  apply h _ c' jr cl _ _ (I.call' rfl
   (BL I.hok hp hq3 hk2 #[_,hP2] kH) Oq I.bare λb z=>nomatch z) s3 ?_ (hs.fresh frp) aC hc3 Es Ou λb xs e=>by rw[az (aK e frp),az (λz=>by rw[z,hp]at e;cases e),az (aK e frc)];show e
  show ((au.laid frc).trans (au.write (hs.iU _ (hs.tm _ hq)))).trans (au.laid frp2)
end
abbrev wO(X:Cx)(N:List Str)(qual:Str)(scope:Scope)(p:Addr)(cd:Value)(cl:List (Str×Addr))(s:Shared)(H:Hp)(xe:Value->Shared->Prop):Cx where
 prog:=X.prog
 w:=X.w
 K:=X.K
 mg:=X.mg
 base:=X.base
 A:=X.A.deeper (PySem.W.envX qual scope s⁻¹ p cd cl)
 N:=N
 s₀:=s
 H₀:=H
 env:=PySem.W.envX qual scope s⁻¹ p cd cl
 outer:=X.stack
 stack:=PySem.W.envX qual scope s⁻¹ p cd cl::X.stack
 ex:=[]
 calm:=true
 fn:=λ_=>false
 pn:=[]
 xe:=xe
structure ou(N:List Str)(σ:Sg)(scope:Scope)(cl:List (Str×Addr))(H:Hp)(h:Heap):Prop where
 inj:∀x y c,cl.lookup x=!c->cl.lookup y=!c->x=y
 has:∀x,scope.names.lookup x=some .cell\/scope.names.lookup x=some .free->∃c,cl.lookup x=!c
 cell:∀x c,cl.lookup x=!c->H c=none/\∃v,h.IsCell c v
 loc:∀(i:Nat) (x:Str) (v:V),N[i]?=!x->σ[i]?=!(!v)->iR scope x->scope.names.lookup x=some .free/\∃u c,RelV v u/\cl.lookup x=!c/\h.IsCell c (!u)
 len:σ.length=N.length
section
def Ov(I:L2.Inv X aj σ H s)(hc:X.calm=true)(hk:scope.kind=.function)(C:ou N σ0 scope cl H s.heap)(hk₁:∀b o,s.heap.get? b=!o->h₁.get? b=!o)(hns:h₁.Ns s⁻¹ m) :
  L2.Inv (wO X N qual scope p cd cl s H xe) [] σ0 H { s with heap:=h₁,toks:=tk}:=by
 have e0:=I.Mu;apply#[#[e0.mod,hk,rfl,rfl,eA _,C.inj,C.has,(λ_ _ h=>nomatch h),λ_=>I.ok.hd hc,Around.frames_deeper e0.frames,.inr #[rfl,rfl],(λb z=>nomatch z),e0.bs,e0.GC,(λ_ _ _ z=>nomatch z),(λb z=>nomatch z),e0.kJ,e0.Ml],
  rfl,e0.bare,Un.kept hk₁,#[m,hns,λi x v h1 h2 h3=>?_],λx c e=>?_,e0.hok.fresh (eA _),λx c e=>(C.cell x c e).1,(λp hp=>nomatch hp),e0.hok.kept hk₁,C.len]
 . let(f,u,c,r,e1,e2):=C.loc i x v h1 h2 h3;show#[u,r,.inr #[.inr f,c,e1,e2.keeps hk₁]]
 . let(v,q):=(C.cell x c e).2;show#[v,q.keeps hk₁]
def Js{z:Z}{g g':G}{As M:List Addr}{body:Expr}{params:Arguments}{pm jr:Value}{c' C:Addr}{R:Result->Shared->Prop}(I:L2.Inv X aj σ H s)(hc:X.calm=true)(hroom:X.A.depth<recursionLimit)
  (hp:s.heap.get? p=!(PySem.W.kla_obj "<lambda>" qual params body scope cl pm c' jr)) (hcr:s.heap.CodeRec (.ref c') qual) (hpar:bindArgs (PySem.W.kla_fn "<lambda>" qual params body scope cl pm (.ref c') jr) #[[],[]]=pure [])
  (hco:scope.isCoroutine=false) (hgen:scope.isGenerator=false) (hk:scope.kind=.function) (hnc:∀x∈scope.names,x.2≠.cell) (Cl:ou N σ0 scope cl H s.heap) (hS:S z g σ0 As M H)
  (hb:∀xe,PassesOwn (~~~2) (X.A.deeper (PySem.W.envX qual scope s⁻¹ p (.ref c') cl)) (PySem.W.envX qual scope s⁻¹ p (.ref c') cl) xe->Gq (wO X N qual scope p (.ref c') cl s H xe) z body g C g')
  (hR:∀x H1 aQ M1 s'',Gp X.prog X.w X.stack H s (λc o h=>c=.ref C/\o=none/\h=H1) (.ref x) s''->S z g' σ0 aQ M1 H1->au M H M1 H1->R (.error (.ref x)) s'') :
  codeAny (~~~2) X.A (.call (.ref p) #[[],[]]) R s:=by
 apply PySem.W.kla_callFunE hroom hp rfl hco hgen rfl hcr ?_;rw[hpar];apply d5 (wpAny_newFunctionEnv hnc (λy hy=>nomatch hy) (λh₁ hns hsb=>#[(I.nolimit).fresh _ hsb,?_]) hk)
 have hk₁:∀b o,s.heap.get? b=!o->h₁.get? b=!o:=λb o e=>hsb.extBut b o (kS (eM e)) (dA _ e)
 apply PySem.W.kla_codeExpr ?_;let(t,q,k):=hb (λe' s'=>wpAny (~~~2) (X.A.deeper (PySem.W.envX qual scope s⁻¹ p (.ref c') cl)) (leaving (PySem.W.envX qual scope s⁻¹ p (.ref c') cl) e') (λ_ s''=>R (.error e') s'') (λe'' s''=>R (.error e'') s'') s') PassesOwn.leaving
 have J:=Ov (N:=N) (qual:=qual) (p:=p) (cd:=.ref c') (σ0:=σ0) (tk:=s.toks+([]:List (Str×Value)).length) (xe:=λe' s'=>wpAny (~~~2) (X.A.deeper (PySem.W.envX qual scope s⁻¹ p (.ref c') cl)) (leaving (PySem.W.envX qual scope s⁻¹ p (.ref c') cl) e') (λ_ s''=>R (.error e') s'') (λe'' s''=>R (.error e'') s'') s') I hc hk Cl hk₁ hns
 apply l6 (q [] _ σ0 H (λ_ _=>False) J (k σ0 As M H _ hS λpins1 s1 H1 aQ M1 x I1 S1 st fl=>?_)) (λv s' h=>?_) λ_ _ h=>h
 . show sH I1 rfl rfl rfl fl λs'' cx=>hR x H1 aQ M1 s'' cx S1 st
 . let(_,_,_,_,h):=h;show h.elim
end
section
def Inv.cnl(I:L2.Inv X [] σ H s):∀y c,X.env.cells.lookup y=!c->c≠X.env.locals:=λy c e q=>by
 let(v,o,h1,h2):=I.cell y c e;let(m,(o',es,ep,h3,h4,_),_):=I.loc;rw[q,h3]at h1;cases h1;rw[h4]at h2;cases h2
def Inv.touch(I:L2.Inv X [] σ H s)(hp:X.pn=[])(hT:X.s₀.heap.get? T=none)(hH:H T=none)(hf:∃o vs,s.heap.get? T=!o/\o.data=.fields vs)(k:∀b o,b≠T->s.heap.get? b=!o->h'.get? b=!o)(kT:∃o,h'.get? T=!o) :
  L2.Inv X [] σ H { s with heap:=h'}:=by
 let(oT,ts,eT,dT):=hf;have Ow:∀b o,X.s₀.heap.get? b=!o->b≠T:=λb o e q=>by rw[q,hT]at e;cases e
 have neD:∀b o,s.heap.get? b=!o->(∀vs,o.data≠.fields vs)->b≠T:=λb o e d q=>by rw[q,eT]at e;cases e;show d _ dT
 have cellK:∀c v,s.heap.IsCell c v->h'.IsCell c v:=by rintro c v ⟨o,e,d⟩;show#[o,k c o (neD c o e λvs q=>by rw[d]at q;cases q) e,d]
 let(m,(o,es,ep,e,d,r),hlk):=I.loc;apply#[I.ok,I.os,I.bare,#[λb o e n hb hx=>?_,λb o e n hb hx=>?_,I.base.free,λb o e hx=>?_,I.base.tups,I.base.kG,I.base.kI],#[m,#[o,es,ep,k _ _ (neD _ _ e λvs q=>by rw[d]at q;cases q) e,d,r],λi y v h1 h2 h3=>?_],λy c e=>?_,I.free,I.d9,λp hp2=>?_,λb u e=>?_,I.len]
 . show k b o (Ow b o e) (I.base.keep b o e n hb hx)
 . let(sl,e1):=I.base.slot b o e n hb hx;show#[sl,k b _ (Ow b o e) e1]
 . let(o',e1):=I.base.there b o e hx;show#[o',k b _ (Ow b o e) e1]
 . let(u,r,q):=hlk i y v h1 h2 h3;show#[u,r,q.imp id (by rintro⟨q1,c,q2,q3⟩;show#[q1,c,q2,cellK c _ q3])]
 . let(v,q):=I.cell y c e;show#[v,cellK c v q]
 . rw[hp]at hp2;cases hp2
 .
  apply (I.hok b u e).stay (λc w hc q=>k c w (λz=>?_) q) (λ_ q=>q) λ_ _ q=>q
  subst z;rcases hc with rfl |hc
  . rw[hH]at e;cases e
  . rw[hH]at hc;cases hc
def wQ(I:L2.Inv X [] σ H s)(hp:X.pn=[])(fl:vN X.s₀.heap x C H s.heap)(h:∀s',L2.Inv X [] σ H s'->vN X.s₀.heap x C H s'.heap->Q () s') :
  wpAny M A (setFlight (.ref x) none) Q E s:=by
 let((oe,vs,he,hc,bZ,hd,jK,hT),X3,X4):=id fl;rcases hT with hT |⟨T,oT,ts,h1,U4,hTn,hTH,LW,L0,h3⟩
 . apply aS (mP he hd hT ?_);show d5 (h s I fl)
 .
  apply aS (mP he hd h1 ?_);apply Bz LW L0 (At.mp h3).1 ?_;have other:∀b,b≠T->(s.heap.update T (Obj.mapFields (·.setIfInBounds 3 Value.none))).get? b=s.heap.get? b:=λb hb=>hU _ _ (mM hb)
  have hTd':=yB L0 (·.setIfInBounds 3 Value.none);have UJ:=nV (Obj.mapFields (·.setIfInBounds 3 Value.none)) LW (xL hTd');apply h _ (Inv.touch I hp hTn hTH #[oT,ts,LW,L0] (λb o hb e=>(other b hb).trans e) #[_,UJ]) #[#[oe,vs,(other x (mM U4)).trans he,hc,bZ,hd,jK,.inr #[T,_,_,h1,U4,hTn,hTH,UJ,hTd',?_]],X3,X4]
  have:=(At.mp h3).1;simp[this]
def Inv.Vg(I:L2.Inv X [] σ H s)(hp:X.pn=[])(fl:vN X.s₀.heap x C H s.heap):L2.Inv X [] σ (upd H x (za C x)) s:=by
 let((oe,vs,he,hc,bZ,hd,jK,hT),X3,X4):=id fl;have Ow:∀b o,X.s₀.heap.get? b=!o->b≠x:=λb o e q=>by rw[q,X3]at e;cases e
 have neD:∀b o,s.heap.get? b=!o->(∀vs,o.data≠.fields vs)->b≠x:=λb o e d q=>by rw[q,he]at e;cases e;show d _ hd
 have neH:∀b u,H b=!u->b≠x:=λb u e q=>by rw[q,X4]at e;cases e
 apply#[I.ok,I.os,I.bare,#[I.base.keep,I.base.slot,λb o e n hx=>?_,I.base.there,λb xs e=>?_,λb o u e=>?_,λb ps e=>?_],I.loc,I.cell,?_,λy c e=>?_,λp hp2=>?_,λb u e=>?_,I.len]
 . rw[az (Ow b o e)];show I.base.free b o e n hx
 . have:=I.base.tups b xs e;rw[az (neH _ _ this)];show this
 . have:=I.base.kG b o u e;rw[az (neH _ _ this)];show this
 . let(more,this):=I.base.kI b ps e;show#[more,by rw[az (neH _ _ this)];show this]
 . let(m,(o,es,ep,e,d,_),_):=I.loc;rw[az (neD _ _ e λvs q=>by rw[d]at q;cases q)];show I.free
 . let(v,o,e1,d):=I.cell y c e;rw[az (neD _ _ e1 λvs q=>by rw[d]at q;cases q)];show I.d9 y c e
 . rw[hp]at hp2;cases hp2
 .
  by_cases hb:b=x
  .
   subst hb;rw[aC]at e;cases e;apply#[#[oe,he,hc,?_,bZ],#[oe,he],by rintro h1 h2 ⟨o,q,r⟩ k;show#[o,k o q,r]]
   delta PySem.W.notCls;rw[hd]
  . rw[az hb]at e;show (I.hok b u e).stay (λ_ _ _ q=>q) (λc q=>by rw[az (neH _ _ q)];show q) λc xs q=>by rw[az (neH _ _ q)];show q
meta abbrev Cx.marked(X:Cx)(e:Value)(E:Value->Shared->Prop):Cx:={ X with A:=X.A.mark (!e),calm:=false,xe:=E}
def Inv.marked(I:L2.Inv X aj σ H s)(e:Value)(E:Value->Shared->Prop):L2.Inv (Cx.marked X e E) aj σ H s:=
 #[#[I.ok.mod,I.ok.kind,I.ok.glob,I.ok.blt,I.ok.above,I.ok.inj,I.ok.has,I.ok.R5,(λh=>nomatch h),I.ok.frames,I.ok.stk,I.ok.XR,I.ok.bs,I.ok.GC,I.ok.vR,I.ok.yJ,I.ok.kJ,I.ok.Ml],I.os,I.bare,I.base,I.loc,I.cell,I.free,I.d9,I.pin,I.hok,I.len]
def Inv.unmarked(ok:X.Ok)(I:L2.Inv (Cx.marked X e E) aj σ H s):L2.Inv X aj σ H s:=
 #[ok,I.os,I.bare,I.base,I.loc,I.cell,I.free,I.d9,I.pin,I.hok,I.len]
def Inv.gone(I:L2.Inv X [] σ H s)(hp:X.pn=[])(hN:X.N.Nodup)(hi:X.N[i]?=!n)(hlk:∀(j:Nat) (y:Str) (v:V),X.N[j]?=!y->σ[j]?=!(!v)->iR X.env.scope y->∃u,RelV v u/\Look X.env s.heap m y u)
  {h':Heap}{w:Option Value}{tk:Nat} (hn':h'.Ns X.env.locals (λy=>if y=n then w else m y)) (hs:Heap.SameBut X.env.locals s.heap h'):L2.Inv X [] (σ.set i none) H { s with heap:=h',toks:=tk}:=by
 have Ow:∀b o,X.s₀.heap.get? b=!o->b≠X.env.locals:=λb o e=>kS (fA (eM e) I.ok.above)
 apply#[I.ok,I.os,I.bare,#[λb o e n hb hx=>?_,λb o e n hb hx=>?_,I.base.free,λb o e hx=>?_,I.base.tups,I.base.kG,I.base.kI],#[_,hn',λj y v h1 h2 h3=>?_],λy c e=>?_,I.free,I.d9,λp hp2=>?_,λb u e=>?_,by rw[n0];show I.len]
 . show (hs.2 b (Ow b o e)).trans (I.base.keep b o e n hb hx)
 . let(sl,e1):=I.base.slot b o e n hb hx;show#[sl,(hs.2 b (Ow b o e)).trans e1]
 . let(o',e1):=I.base.there b o e hx;show#[o',(hs.2 b (Ow b o e)).trans e1]
 .
  by_cases hj:j=i
  .
   subst hj;have hl:j<σ.length:=by rw[I.len];show (dE.mp h1).1
   rw[fI hl]at h2;cases h2
  .
   rw[eR (mM hj)]at h2;let(u,r,q):=hlk j y v h1 h2 h3;apply#[u,r,?_];have hyn:y≠n:=λq=>hj (oZ hN h1 (q▸hi))
   rcases q with ⟨k,e⟩ |⟨k,c,e,z⟩
   . show .inl #[k,by exact (if y=n then w else m y)=!u;rw[lL hyn];show e]
   . show .inr #[k,c,e,z.sameBut hs (Inv.cnl I y c e)]
 . let(v,q):=I.cell y c e;show#[v,q.sameBut hs (Inv.cnl I y c e)]
 . rw[hp]at hp2;cases hp2
 .
  apply (I.hok b u e).stay (λc w hc q=>(hs.2 c (λz=>?_)).trans q) (λ_ q=>q) λ_ _ q=>q
  subst z;rcases hc with hc |hc
  . rw[<- hc,I.free]at e;cases e
  . rw[I.free]at hc;cases hc
end
end Ev
namespace PySem
section
def jH{h:Heap}{g:Array GenState}{d:Drawn}{t:Nat}{os:OsState}{e:Addr}{oe:Obj}{Q:Bool->Shared->Prop}
  (hC:h.get? C=!(excClassObj nm q C N bs bm hdct sn sub ab col dd k0 k1 k2 k3 k5 newId)) (hD:h.get? D=!(excClassObj nm' q' D N' bs' bm' hdct' sn' sub' ab' col' dd' k0' k1' k2' k3' k5' newId'))
  (he:h.get? e=!oe) (hcls:oe.cls=.ref C) (hbase:bm'.contains (.type "BaseException")=true) (hup:(Value.ref C::bm).contains (.ref D)=true)
  (hq:Q true #[h,g,d,t,os]):wpAny M A (excMatches (.ref e) (.ref D)) Q E #[h,g,d,t,os]:=by
 have hcB:(Value.ref D::bm').contains (.type "BaseException")=true:=by rw[List.contains_cons,hbase,Bool.or_true]
 have f:=tc_notTuple;delta excMatches
 repeat (first | (with_reducible apply wpAny_loadPart_at he ?_;rw[hcls]) |with_reducible apply wpAny_loadPart_at hD ?_ | (with_reducible apply wpAny_isSubtype_exc hD ?_;rw[hcB]) | (with_reducible apply wpAny_isSubtype_exc hC ?_;rw[hup]) |wp_step)
 show hq
end
end PySem
namespace Ev
open L2
abbrev uK(K:Frag)(C D:Addr):Bool:=match K.lookup C with
 |!#[_,_,.cls cd,_]=>cd.mro.contains (.ref D)
 |_=>false
section
variable{x C D:Addr}
def Et(I:L2.Inv X [] σ H s)(hp:X.pn=[])(cZ:X.stack=X.env::X.outer)(hf:X.env.frame=!X.env.locals)(hex:X.ex=[])(fl:vN X.s₀.heap x C H s.heap)(hN:X.N.Nodup)
  (hg:Gl X ke) (hm:X.mg ke=!(.ref D)) (jR:(ke==(~~~3))=false) (qC:fU X.K C) (qD:fU X.K D) (up:uK X.K C D=true)
  (hie:X.N[ie]?=!en) (len:X.env.scope.names.lookup en=some .local) (den:(en==(~~~3))=false) (cen:(en==("__classdict__":Str))=false)
  (hir:X.N[ir]?=!er) (ler:Loc X.env.scope er) (fer:X.fn er=true\/X.env.scope.names.lookup er=some .local) (hsw:swapsWith (.Name en wR) (!(.Name er wU)) cG.line X.env=pure false)
  (h:∀s',L2.Inv X [] (((σ.set ie (!(.ref x))).set ir (!(.ref x))).set ie none) (upd H x (za C x)) s'->Q .next s') :
  wpAny (~~~2) X.A (noteFrame (.ref x) X.env) (λ_ s2=>wpAny (~~~2) X.A (setFlight (.ref x) none) (λ_ s3=>wpAny (~~~2) X.A (handleBy (.ref x) X.env [.ExceptHandler (!(.Name ke kp)) (!en) [.Assign [.Name er wU] (.Name en wR) cG] qY]) Q E s3) E s2) E s:=by
 apply Ef I hp cZ hf hex fl λs2 I2 fl2=>?_
 apply wpAny_handleBy_cons (codeAny_handlers_test ?_) (by intro q;cases q)
 apply fW (X:=Cx.marked X (.ref x) E) (Inv.marked I2 _ _) hg hm ?_ jR;let(bm,N,nm,qn,bs,hdct,sn,sub,ab,col,dd,k0,k1,k2,k3,k5,mN,hC,_,_,TC):=uF I2.nj qC;let(bm',N',nm',X8,bs',hdct',sn',sub',ab',col',dd',k0',k1',k2',k3',k5',mN',hD,_,_,TD):=uF I2.nj qD;let((oe,vs,he,hc,_),_):=id fl2;have hup:(Value.ref C::bm).contains (.ref D)=true:=by
  delta uK at up;split at up
  . ext cd _ ho;have:=(I2.nj _ _ ho).symm.trans hC;cases this;show up
  . cases up
 let(hh,gg,dr,tt,oo):=s2;apply jH hC hD he hc (TD.hasType ⋯) hup ?_;apply codeAny_handlers_suite_as ?_;apply wQ I2 hp fl2 λs3 I3 BP=>?_
 have I4:=Inv.Vg I3 hp BP;apply o7 I4 hN hie (.inl len) (v:=.ref x) rfl (λs5 I5=>?_) (.inr len)
 have hl:ie<σ.length:=by rw[I.len];show (dE.mp hie).1
 apply l6 (((Az (pg (X:=Cx.marked X (.ref x) (λ_ _=>False)) hN hir ler (cN hie (.inl len) den cen) hsw fer)) [] s5 _ _ { nx:=λσ' H'=>σ'=(σ.set ie (!(.ref x))).set ir (!(.ref x))/\H'=upd H x (za C x),rt:=λ_ _=>False} (Inv.marked I5 _ _) #[.ref x,fI hl,rfl,rfl])) (λf s6 q=>?_) λ_ _ z=>False.elim z
 cases f with
 |next=>
  let(σ',H',I6,rfl,rfl):=q;have I7:=Inv.unmarked I.ok I6;let(m,hn,hlk):=id I7.loc;apply wpAny_nameGoes_keeps (m:=m) len hn (by rw[I.ok.kind];rfl) λh' w hn' hs=>?_
  show h _ (Inv.gone I7 hp hN hie hlk hn' hs)
 |ret v=>let(_,_,_,_,_,q):=q;show q.elim
 |brk=>let(_,_,_,q):=q;show q.elim
 |cont=>let(_,_,_,q):=q;show q.elim
end
meta abbrev zN(z:Z)(M:List Addr)(H:Hp):Z:=#[z.K,H,M,[],z.T]
abbrev noOwn:Slot->Slot
 |.own _=>.no
 |s=>s
section
variable{g g':G}
def Slots.noOwn{K:Frag}(q:Slots K M H g σ As):Slots K M H (g.map Ev.noOwn) σ []:=by
 induction q with
 |nil=>show .nil
 |no _ ih=>show .no ih
 |dat r _ ih=>show .dat r ih
 |own _ _ _ ih=>show .no ih
def Slots.nos'{K:Frag}(σ:Sg):Slots K M H (List.replicate σ.length .no) σ []:=by
 induction σ with
 |nil=>show .nil
 |cons v σ ih=>show .no ih
def Eu{i:Nat}{l:List D}(h:(g.map Ev.noOwn)[i]?=!(.own l)):False:=by
 rw[pV]at h;cases e:g[i]? with
 |none=>rw[e]at h;symm
 |some u=>rw[e]at h;cases u <;> symm
def S.into(s:S z g σ As M H)(sl:Slots z.K M H gn σn [])(hn:∀(i:Nat) (l:List D),gn[i]?≠!(.own l)):S (zN z M H) gn σn [] M H where
 sl:=sl
 nd:=u4
 sub:=λa h=>nomatch h
 own:=λi a l e _=>absurd e (hn i l)
 live:=s.live
 keep:=λb o e _ _=>e
 iU:=λ_ h=>h
 m0:=λm hm=>by
  rcases s.live m hm with ⟨o,e,_⟩ |e
  . intro q;rw[show H m=none from q]at e;cases e
  . let(q,hq,rfl):=gN.mp e;let(ps,h1,_):=s.tab q hq;intro z;rw[show H q.1=none from z]at h1;cases h1
 bm:=λb h=>nomatch h
 jz:=λp h=>nomatch h
 tab:=s.tab
 tm:=λp h=>s.iU _ (s.tm p h)
 tt:=s.tt
def S.after(s:S z g σ As M H)(hA:As=[])(s1:S (zN z M H) g' σ0 aQ M1 H1)(st:au M H M1 H1):S z g σ As M1 H1 where
 sl:=s.sl.stay st (λa h=>by rw[hA]at h;symm)
 nd:=s.nd
 sub:=λa h=>by rw[hA]at h;symm
 own:=s.own
 live:=s1.live
 keep:=λb o e hb ht=>s1.keep b o (s.keep b o e hb ht) (λh=>nomatch h) ht
 iU:=λm hm=>s1.iU m (s.iU m hm)
 m0:=s.m0
 bm:=s.bm
 jz:=s.jz
 tab:=s1.tab
 tm:=s.tm
 tt:=s.tt
def Slots.iI{K:Frag}{i:Nat}{v:Option V}(q:Slots K M H g σ As)(e:g[i]?=some .no):Slots K M H g (σ.set i v) As:=by
 induction q generalizing i with
 |nil=>show .nil
 |no q ih=>cases i with
  |zero=>show .no q
  |succ i=>show .no (ih e)
 |dat r q ih=>cases i with
  |zero=>cases e
  |succ i=>show .dat r (ih e)
 |own a b q ih=>cases i with
  |zero=>cases e
  |succ i=>show .own a b (ih e)
def S.iI(s:S z g σ As M H)(e:g[i]?=some .no):S z g (σ.set i v) As M H where
 sl:=s.sl.iI e
 nd:=s.nd
 sub:=s.sub
 own:=λj a l e1 e2=>s.own j a l e1 (by
  rw[eR (λq=>by rw[<- q,e]at e1;cases e1)]at e2;show e2)
 live:=s.live
 keep:=s.keep
 iU:=s.iU
 m0:=s.m0
 bm:=s.bm
 jz:=λp hp=>by
  let(h1,l,h2):=s.jz p hp;show#[by rw[eR (λq=>by rw[<- q,e]at h2;cases h2)];show h1,l,h2]
 tab:=s.tab
 tm:=s.tm
 tt:=s.tt
end
def BR(I:L2.Inv X aj σ H s)(B:aO X.env.scope scope)(nl:∀y∈scope.names,y.2≠.local)
  (Es:∀x c,cl.lookup x=!c->X.env.cells.lookup x=!c/\(x,NameKind.free)∈scope.names) (Ou:∀y∈scope.names,y.2=.free->∃c,cl.lookup y.1=!c):ou X.N σ scope cl H s.heap where
 inj:=λx y c h1 h2=>I.ok.inj x y c (Es x c h1).1 (Es y c h2).1
 has:=λx h=>by
  rcases h with h |h
  . show absurd rfl (B.ur _ (L2.mem_of_lookup h))
  . show Ou _ (L2.mem_of_lookup h) rfl
 cell:=λx c h=>#[I.d9 x c (Es x c h).1,I.cell x c (Es x c h).1]
 loc:=λi x v h1 h2 h3=>by
  have hf:scope.names.lookup x=some .free:=by
   rcases h3 with h3 |h3 |h3
   . show absurd rfl (nl _ (L2.mem_of_lookup h3))
   . show absurd rfl (B.ur _ (L2.mem_of_lookup h3))
   . show h3
  have hv:=B.free _ (L2.mem_of_lookup hf) rfl;let(m,_,hlk):=I.loc;let(u,r,q):=hlk i x v h1 h2 (.inr hv);let(c2,e2):=Ou _ (L2.mem_of_lookup hf) rfl;rcases q with ⟨k,_⟩ |⟨_,c,e,z⟩
  . have k:X.env.scope.names.lookup x=some .local:=k;rcases hv with hv |hv <;> (have hv:X.env.scope.names.lookup x=_:=hv;rw[k]at hv;cases hv)
  . have:=(Es _ _ e2).1;have this:X.env.cells.lookup x=!c2:=this;rw[e]at this;cases this;show#[hf,u,c2,r,e2,z]
 len:=I.len
def ou.un(c:ou N σ scope cl H h)(u:Un fs [] H H' h h'):ou N σ scope cl H' h':=by
 have key:∀x a v,cl.lookup x=!a->h.IsCell a v->h'.IsCell a v:=by rintro x a v e ⟨o,e1,d⟩;let(sl,e2):=u.any e1 (c.cell x a e).1 ⋯;show#[_,e2,d]
 apply#[c.inj,c.has,λx a e=>?_,λi x v h1 h2 h3=>?_,c.len]
 . let(hn,v,o,e1,d):=c.cell x a e;show#[u.free a o e1 hn ⋯,v,key x a v e #[o,e1,d]]
 . let(f,w,a,r,e,z):=c.loc i x v h1 h2 h3;show#[f,w,a,r,e,key x a _ e z]
section
variable{C D p c':Addr}
 {N:List Str}{qn:Str}{scope:Scope}{cl:List (Str×Addr)}{body:Expr}{params:Arguments}{pm jr:Value}{g0 Ju:G}
meta abbrev Jv (y ke en er:Str) (py bw qX kp wU wR cG qY jq:Pos):Stmt:=.Try [.Expr (.Call (.Name y py) [] [] bw) qX] [.ExceptHandler (!(.Name ke kp)) (!en) [.Assign [.Name er wU] (.Name en wR) cG] qY] [] [] jq
structure Rp(X:Cx)(C D:Addr)(y ke en er:Str)(iy ie ir:Nat):Prop where
 pn:X.pn=[]
 st:X.stack=X.env::X.outer
 fr:X.env.frame=!X.env.locals
 ex:X.ex=[]
 calm:X.calm=true
 nd:X.N.Nodup
 gk:Gl X ke
 mg:X.mg ke=!(.ref D)
 dk:(ke==(~~~3))=false
 qC:fU X.K C
 qD:fU X.K D
 up:uK X.K C D=true
 kC:Ht X.K C
 ie:X.N[ie]?=!en
 le:X.env.scope.names.lookup en=some .local
 de:(en==(~~~3))=false
 ce:(en==("__classdict__":Str))=false
 ir:X.N[ir]?=!er
 lr:Loc X.env.scope er
 fn:X.fn er=true\/X.env.scope.names.lookup er=some .local
 iy:X.N[iy]?=!y
 vy:iR X.env.scope y
 dy:(y==(~~~3))=false
 cy:(y==("__classdict__":Str))=false
 room:X.A.depth<recursionLimit
structure fh(params:Arguments)(scope:Scope):Prop where
 co:scope.isCoroutine=false
 gen:scope.isGenerator=false
 kind:scope.kind=.function
 nc:∀x∈scope.names,x.2≠.cell
 nl:∀x∈scope.names,x.2≠.local
 par:params=#[[],[],none,[],[],none,[]]
def fh.bind(h:fh params scope):bindArgs (PySem.W.kla_fn "<lambda>" qn params body scope cl pm (.ref c') jr) #[[],[]]=pure []:=by rw[h.par];rfl
def Vh{aj: ~~~1}{i:Nat}{x:Str}{v:V}{pos:Pos}{E:Value->Shared->Prop}{Q:Value->Shared->Prop}(I:L2.Inv X aj σ H s)(hN:X.N[i]?=!x)(hv:iR X.env.scope x)(hd:(x==(~~~3))=false)(bZ:(x==("__classdict__":Str))=false)(e:σ[i]?=!(!v))(h:∀u,RelV v u->Q u s) :
  wpAny (~~~2) X.A (eval (.Name x pos) X.env) Q E s:=by
 let(m,hn,hl):=I.loc;let(u,r,l):=hl i x v hN e hv;have fin:Q u s:=h u r;rcases l with ⟨hk,hm⟩ |⟨hk,c,hc,hcell⟩
 . show DI (wpAny_loadName_local I.ok.kind hk hn hm fin) hd
 .
  rcases hk with hk |hk
  . show DI (wpAny_loadName_cell I.ok.kind hk hc hcell fin) hd
  . show DI (wpAny_loadName_free I.ok.kind hk hc hcell fin bZ) hd
def Ox(T:Rp X C D y ke en er iy ie ir)(L:fh params scope)(I:L2.Inv X [] σ H s)(hS:S zf gf σ [] M H)(hK:zf.K=X.K)(hsw:swapsWith (.Name en wR) (!(.Name er wU)) cG.line X.env=pure false)(hsx:swapsWith (.Call (.Name y py) [] [] bw) none qX.line X.env=pure false)
  (hy:σ[iy]?=!(!(.ref p))) (fy:gf[ie]?=some .no) (hbr:ir∉zf.bor) (hnr:ie≠ir)
  (hp:H p=!(mL p (PySem.W.kla_obj "<lambda>" qn params body scope cl pm c' jr))) (hc':H c'=!(iO qn c')) (Cl:ou N σ0 scope cl H s.heap) (hs0:Slots zf.K M H g0 σ0 []) (hn0:∀(i:Nat) (l:List Ev.D),g0[i]?≠!(.own l))
  (hb:∀xe,PassesOwn (~~~2) (X.A.deeper (PySem.W.envX qn scope s⁻¹ p (.ref c') cl)) (PySem.W.envX qn scope s⁻¹ p (.ref c') cl) xe->Gq (wO X N qn scope p (.ref c') cl s H xe) (zN zf M H) body g0 C Ju)
  (h:∀s' σ' H' M' aE,L2.Inv X [] σ' H' s'->S zf (gf.set ir (.dat (.nq C))) σ' aE M' H'->au M H M' H'->Q .next s') :
  wpAny (~~~2) X.A (exec (Jv y ke en er py bw qX kp wU wR cG qY jq) X.env) Q X.xe s:=by
 apply wpAny_Try_except (BA (l6 (wpAny_Expr_any (Q:=λ_ _=>False) ?_ I.quiet hsx) (λ_ _ z=>False.elim z) λ_ _ z=>z))
 have hpo:s.heap.get? p=!(PySem.W.kla_obj "<lambda>" qn params body scope cl pm c' jr):=(I.hok p _ hp).1;have hcr:s.heap.CodeRec (.ref c') qn:=(I.hok c' _ hc').1;apply u8 (Vh I T.iy T.vy T.dy T.cy hy λu r=>?_)
 cases r;apply PySem.W.callWith_F0 #[_,_,_,_,hpo] (DJ (BF (Js (R:=λr s'=>∃x H1 aQ M1,r=.error (.ref x)/\Gp X.prog X.w X.stack H s (λc o h=>c=.ref C/\o=none/\h=H1) (.ref x) s'/\S (zN zf M H) Ju σ0 aQ M1 H1/\au M H M1 H1) I T.calm T.room hpo hcr L.bind L.co L.gen L.kind L.nc Cl (S.into hS hs0 hn0) hb
  λx H1 aQ M1 s'' cx S1 st=>#[x,H1,aQ,M1,rfl,cx,S1,st]) λr s1 #[x,H1,aQ,M1,e,cx,S1,st]=>?_))
 subst e;let(x',C',H',e,I1,fl,e1,_,e3):=Im T.ex I cx;cases e;cases e1;subst e3;apply Et I1 T.pn T.st T.fr T.ex fl T.nd T.gk T.mg T.dk T.qC T.qD T.up T.ie T.le T.de T.ce T.ir T.lr T.fn hsw λs' I'=>?_
 have s2:=S.after hS rfl S1 st;have s3:=s2.laid (o:=za C x) fl.no;have s4:S zf gf (σ.set ie (!(.ref x))) [] M1 (upd H' x (za C x)):=s3.iI fy;let(Bs,s5):=s4.jX (i:=ir) (d:=.nq C) (v:=.ref x) hbr (hK▸.nq T.kC (s2.fresh fl.no) aC);have s6:S zf (gf.set ir (.dat (.nq C))) (((σ.set ie (!(.ref x))).set ir (!(.ref x))).set ie none) Bs M1 (upd H' x (za C x)):=s5.iI (by rw[eR (mM hnr)];show fy)
 show h s' _ _ M1 Bs I' s6 (st.trans (au.laid fl.no))
end
end Ev
namespace L2
def fn_at{CX:Di}{P:Program}{w:World}{K:Frag}{mg:Str->Option Value}{base:Heap}{k:Nat}{f:Addr}{name qual:Str}{params:Arguments}{body:List Stmt}{scope:Scope}{dV kV doc pm bO ct oc:Value}{an od:Option Addr}
  {osl:Array (Option Value)}{N ps:List Str}{A:Around}{outer:List Env}{s:Shared}{H:Hp}{args:Args}{us:List Value}{vs:List V}{Q:VK}{E:XK} (lk:K.lookup f=!#[oc,od,.func (PySem.W.fnOf name qual params body scope dV kV doc pm an bO ct),osl]) (bZ:PySem.W.codeIn K bO qual=true) (S:cI N ps scope)
  (hr:cO (k+1) A) (e0:G6 P w K mg base A outer s H) (hb:BindsTo s (PySem.W.fnOf name qual params body scope dV kV doc pm an bO ct) args (ps.zip us)) (r:Vals vs us) (hl:vs.length=ps.length)
  (hbody:∀s1,Inv (g9 CX P w K mg base N qual scope f bO A outer s H E) [] (start N vs) H s1->wpAny (model P w) (A.deeper (envOfC qual scope s⁻¹ f bO)) (execs body (envOfC qual scope s⁻¹ f bO)) (SP (g9 CX P w K mg base N qual scope f bO A outer s H E) [] { nx:=λ_ H'=>Q .non H',rt:=Q}) (g9 CX P w K mg base N qual scope f bO A outer s H E).xe s1) :
  codeAny (model P w) A (.call (.ref f) args) (CR CX outer P w H s Q E) s:=by
 have KX:K.In s.heap:=e0.mod.Gj.keeps λb o e=>(e0.bs b o e).1
 have lim:s.heap.NoLimit:=e0.mod.nolimit.keeps λb o e=>(e0.bs b o e).1
 have hkind:∀y∈ps.zip us,scope.names.lookup y.1=some .local\/(scope.names.lookup y.1=some .cell/\((cellsFrom (s⁻¹+1) scope.names []).lookup y.1).isSome=true):=by
  rintro⟨n,v⟩ hy;rcases S.par n (C8 hy).1 with q |q
  . show .inl q
  . show .inr #[q,Cn _ _ _ (.inl q)]
 apply codeAny_call_function hr.depth (KX _ _ lk) rfl S.co S.gen rfl (PySem.W.codeRec_of KX bZ) (hb _ _ _ _ ?_);apply wpAny_newFunctionEnv_cells S.kind hkind λenv he s1 x=>?_
 subst he;apply#[lim.keeps x.toInCall.keep,codeAny_func ?_];have I:Inv (g9 CX P w K mg base N qual scope f bO A outer s H E) [] (start N vs) H s1:=se S hr.hd e0 hl r x;apply l6 (hbody s1 I) (λfl s' hs=>?_) λe s' hs=>hs
 have fin:∀{σ':St}{H':Hp}{v:V}{u:Value},Inv (g9 CX P w K mg base N qual scope f bO A outer s H E) [] σ' H' s'->RelV v u->Q v H'->CE outer P w H s Q u s':=
  λ{σ' H' v u} J rv q=>#[v,H',J.os,J.bare,J.base,J.hok,rv,q]
 cases fl with
 |ret u=>let(v,σ',H',J,rv,q):=hs;show fin J rv q
 |next=>let(σ',H',J,q):=hs;show fin (v:=V.non) (u:=Value.none) J rfl q
 |brk=>let(_,_,_,q):=hs;show False.elim q
 |cont=>let(_,_,_,q):=hs;show False.elim q
end L2
namespace Ev
open L2
structure Vi(K:Frag)(mg:Str->Option Value)(sc:Scope)(N:List Str)(C D:Addr)(y ke en er:Str)(ie ir:Nat):Prop where
 nd:N.Nodup
 gk:sc.names.lookup ke=some .globalImplicit
 mg:mg ke=!(.ref D)
 dk:(ke==(~~~3))=false
 qC:fU K C
 qD:fU K D
 up:uK K C D=true
 kC:Ht K C
 eN:N[ie]?=!en
 le:sc.names.lookup en=some .local
 de:(en==(~~~3))=false
 ce:(en==("__classdict__":Str))=false
 rN:N[ir]?=!er
 lr:Loc sc er
 yN:N[0]?=!y
 vy:iR sc y
 dy:(y==(~~~3))=false
 cy:(y==("__classdict__":Str))=false
 ne:ie≠ir
 ie0:ie≠0
 ir0:ir≠0
def Vi.try{P:Program}{w:World}{K:Frag}{mg:Str->Option Value}{base:Heap}{N:List Str}{qual:Str}{sc:Scope}{f:Addr}{cd:Value}{A:Around}{outer:List Env}{s:Shared}{H:Hp}{E:XK}{C D:Addr}{y ke en er:Str}{ie ir k:Nat}
  (T:Vi K mg sc N C D y ke en er ie ir) (hr:cO k (A.deeper (envOfC qual sc s⁻¹ f cd))):Rp (g9 yX P w K mg base N qual sc f cd A outer s H E) C D y ke en er 0 ie ir:=
 #[rfl,rfl,rfl,rfl,rfl,T.nd,T.gk,T.mg,T.dk,T.qC,T.qD,T.up,T.kC,T.eN,T.le,T.de,T.ce,T.rN,T.lr,.inl rfl,T.yN,T.vy,T.dy,T.cy,by have:=hr.dp;exact (A.deeper (envOfC qual sc s⁻¹ f cd)).depth<_;lia]
structure ql(X:Cx)(qn:Str)(q c:Addr):Prop where
 hq:(q,qn)∈dz X.K
 hu:∀p∈dz X.K,p.1=q->p.2=qn
 hcode:X.env.code=.ref c
 hC:∀b:Heap,X.K.In b->PySem.W.CodeHd b c q
 hqn:X.env.qual ++ "<lambda>"=qn
 hbi:∀b:Heap,X.K.In b->b.BuiltinsAt X.mg q
 hqm:mainGlobals≠q
structure Lt where
 params:Arguments
 body:Expr
 scope:Scope
 pos:Pos
meta abbrev Lt.ex(l:Lt):Expr:=.Lambda l.params l.body l.scope l.pos
abbrev jN(X:Cx)(qn:Str)(M:List Addr)(H:Hp)(l:Lt)(v:V):Prop:=∃p c' jr cl,v=.ref p/\p∉M/\c'∉M/\H p=!(mL p (PySem.W.kla_obj "<lambda>" qn l.params l.body l.scope cl ((X.mg "__name__").getD .none) c' jr))/\H c'=!(iO qn c')/\
 (∀x c,cl.lookup x=!c->X.env.cells.lookup x=!c/\(x,NameKind.free)∈l.scope.names)/\∀y∈l.scope.names,y.2=.free->∃c,cl.lookup y.1=!c
def jN.stay(st:au M H M' H')(h:jN X qn M H l v):jN X qn M' H' l v:=by let(p,c',jr,cl,e,n1,n2,h1,h2,h3):=h;show#[p,c',jr,cl,e,(st _ _ h1 n1).2,(st _ _ h2 n2).2,(st _ _ h1 n1).1,(st _ _ h2 n2).1,h3]
inductive dI(X:Cx)(qn:Str)(M:List Addr)(H:Hp):List Lt->List V->Prop
 |nil:dI X qn M H [] []
 |cons {l:Lt}{ls:List Lt}{v:V}{vs:List V}:jN X qn M H l v->dI X qn M H ls vs->dI X qn M H (l::ls) (v::vs)
def dI.stay(st:au M H M' H')(h:dI X qn M H l v):dI X qn M' H' l v:=by
 induction h with
 |nil=>show .nil
 |cons a _ ih=>show .cons (a.stay st) ih
def dI.push(h:dI X qn M H l v)(e:jN X qn M H x y):dI X qn M H (l++[x]) (v++[y]):=by
 induction h with
 |nil=>show .cons e .nil
 |cons a _ ih=>show .cons a ih
def dI.get(h:dI X qn M H l v):∀{i:Nat}{x:Lt},l[i]?=!x->∃y,v[i]?=!y/\jN X qn M H x y:=by
 induction h with
 |nil=>intro i x e;cases e
 |cons a _ ih=>intro i x e;cases i with
  |zero=>cases (show some _=!x from e);show#[_,rfl,a]
  |succ i=>show ih e
def dI.length(h:dI X qn M H l v):l.length=v.length:=by
 induction h with
 |nil=>rfl
 |cons _ _ ih=>show congrArg (· + 1) ih
section
def S.ext(s:S z g σ As M H)(h:H a=!(.ext f)):a∉M:=λhm=>by
 rcases s.live a hm with ⟨o,e,gr⟩ |e
 . rw[h]at e;cases e;show gr
 . let(q,hq,rfl):=gN.mp e;let(ps,h1,_):=s.tab q hq;rw[h]at h1;cases h1
def S.zD(s:S z g σ As M H)(hm:a∈M)(hA:a∉As)(h0:z.H0 a=none)(h:H a=!(.lst xs)):S z g σ As M (upd H a (.lst xs')):=s.Tv hm hA h0 h trivial trivial
abbrev tLam(X:Cx)(z:Z)(g:G)(qn:Str)(l:Lt):TE:=λσ H Q=>∃As M,S z g σ As M H/\∀v H',S z g σ As M H'->au M H M H'->jN X qn M H' l v->(∀b xs,H b=!(.lst xs)->H' b=!(.lst xs))->Q v H'
def zE(hK:z.K=X.K)(mk:ql X qn q c)(B:aO X.env.scope l.scope)(L:fh l.params l.scope):PE X l.ex (tLam X z g qn l):=by rintro aj s σ H Q I ⟨As,M,hs,hQ⟩;show Jr I hs (by rw[hs.tt,hK];show mk.hq) (by rw[hs.tt,hK];show mk.hu) mk.hcode (mk.hC _ I.ok.mod.Gj) mk.hqn (mk.hbi _ I.ok.mod.Gj) mk.hqm (by rw[L.par];rfl) B λp c' jr cl H' s' I' S' st' np h1 h2 c1 c2 kl=>#[.ref p,H',I',rfl,hQ _ H' S' st' #[p,c',jr,cl,rfl,np,S'.ext h2,h1,h2,c1,c2] kl]
end
section
variable{st:Stmt}{rest:List Stmt}{f C D p c':Addr}
def Vj(hK:z.K=X.K)(hr:cO (k+2) X.A)(hcalm:X.calm=true)(Ff:LQ X.K fx qual st f fd)(cZ:bH st=.Assign [.Name er Ew] (.Constant .none j np) Yb::Jv y ke en er py cpos0 qX kp wU wR cG qY jq::rest)(Sc:cI Nf [y] (aH st))
  (hbd:L2.Binds X.K fd [y] []) (T:Vi X.K X.mg (aH st) Nf C D y ke en er ie ir) (L:fh params scope)
  (hbE:∀(Xf:Cx) (s:Shared) (H:Hp) (xe:Value->Shared->Prop) (zl:Z),Xf.prog=X.prog->Xf.w=X.w->Xf.K=X.K->Xf.mg=X.mg->Xf.base=X.base->cO (k+1) Xf.A->Xf.calm=true->PassesOwn (model Xf.prog Xf.w) (Xf.A.deeper (PySem.W.envX qn scope s⁻¹ p (.ref c') cl)) (PySem.W.envX qn scope s⁻¹ p (.ref c') cl) xe->zl.K=X.K->zl.bor=[]->Gq (wO Xf N qn scope p (.ref c') cl s H xe) zl body g0 C Ju)
  (hrest:∀(bO:Value) (A:Around) (outer:List Env) (s:Shared) (H:Hp) (E:XK),PySem.W.codeIn X.K bO qual=true->cO k (A.deeper (envOfC qual (aH st) s⁻¹ f bO))->∀zf:Z,zf.K=X.K->zf.bor=[]->eX (g9 yX X.prog X.w X.K X.mg X.base Nf qual (aH st) f bO A outer s H E).tW zf rest ((List.replicate Nf.length .no).set ir (.dat (.nq C))) (.rt r) g3)
  (ho:dF [] g3 r=!r') (I1:L2.Inv X aj σ H s) (S1:S z g σ As M H) (hp1:H p=!(mL p (PySem.W.kla_obj "<lambda>" qn params body scope cl pm c' jr))) (hc1:H c'=!(iO qn c')) (Cl0:ou N σ0 scope cl H s.heap) (hs0:Slots z.K M H g0 σ0 []) (hn0:∀(i:Nat) (l:List Ev.D),g0[i]?≠!(.own l))
  {us:List Value} (rv:Vals [.ref p] us) {E:Value->Shared->Prop}{Q:Value->Shared->Prop} (hQ:∀u v H' s' aE M',L2.Inv X aj σ H' s'->RelV v u->S z g σ aE M' H'->au M H M' H'->dB z g σ aE M' H' r' v->Q u s'):wpAny (~~~2) X.A (call (.ref f) us) Q E s:=by
 let(oc,od,kV,doc,pm,an,bO,ct,osl,rfl,lk,bZ):=Ff.ex;have aN:us.length=1:=by rw[<- rv.length];rfl
 apply DJ (BF (fn_at (CX:=yX) (Q:=λv H'=>∃aE M',S z g σ aE M' H'/\au M H M' H'/\dB z g σ aE M' H' r' v) (E:=λ_ _ _=>False) lk bZ Sc hr I1.Mu (by have:=hbd s us I1.nj (by rw[mB];show aN);rw[mB]at this;show this) rv rfl λs2 J=>?_) λrr s' hq'=>?_)
 ·
  rw[cZ];have hr1:cO (k+1) (X.A.deeper (envOfC qual (aH st) s⁻¹ f bO)):=hr.deeper _;have hr2:=hr1.mono (AT k);have TT:=T.try (P:=X.prog) (w:=X.w) (base:=X.base) (outer:=X.stack) (H:=H) (E:=λ_ _ _=>False) hr2
  apply BA (l6 ((pg T.nd T.rN T.lr GF rfl (.inl rfl)) [] s2 _ _ { nx:=λσ' H'=>σ'=(start Nf [.ref p]).set ir (some .non)/\H'=H,rt:=λ_ _=>False} (J.wish _) #[rfl,rfl]) (λfl s3 q3=>?_) λ_ _ z=>False.elim z)
  cases fl with
  |ret u=>let(_,_,_,_,_,q):=q3;show q.elim
  |brk=>let(_,_,_,q):=q3;show q.elim
  |cont=>let(_,_,_,q):=q3;show q.elim
  |next=>
   let(σ3,H3,I3,e1,e2):=q3;subst e1 e2;have I3:=I3.dg;have len0:(start Nf [.ref p]).length=Nf.length:=by have:=J.len;show this
   have sl0:Slots z.K M H3 (List.replicate Nf.length .no) (start Nf [.ref p]) []:=by rw[<- len0];show Slots.nos' _
   have own0:∀(i:Nat) (l:List Ev.D),(List.replicate Nf.length Slot.no)[i]?≠!(.own l):=λi l e=>by
    have:=l7 e;rw[yA]at this;cases this.2
   have S3:=S.into S1 sl0 own0;let(j3,S4):=S3.jX (λh=>nomatch h) .non
   have hA4:j3=[]:=by
    have key:∀{g:G}{σ:Sg}{As:List Addr},Slots z.K M H3 g σ As->(∀(i:Nat) (l:List Ev.D),g[i]?≠!(.own l))->As=[]:=λq=>by
     induction q with
     |nil=>intro _;rfl
     |no _ ih=>intro h;show ih λi l e=>h (i+1) l e
     |dat _ _ ih=>intro h;show ih λi l e=>h (i+1) l e
     |own _ _ _ ih=>intro h;show absurd rfl (h 0 _)
    apply key S4.sl λi l e=>?_
    by_cases hi:i=ir
    .
     subst hi;rw[fI (by rw[hV];show (dE.mp T.rN).1)]at e
     cases e
    . rw[eR (mM hi)]at e;show own0 i l e
   subst hA4;have hy:((start Nf [.ref p]).set ir (some .non))[0]?=!(!(.ref p)):=by rw[eR T.ir0];rfl
   have fy:((List.replicate Nf.length Slot.no).set ir (.dat .non))[ie]?=some .no:=by rw[eR (mM T.ne),AO,i7 (dE.mp T.eN).1]
   have un3:=I3.base;have Yc:=hK;apply BA (Ox (σ0:=σ0) TT L I3 S4 Yc rfl rfl hy fy (λh=>nomatch h) T.ne hp1 hc1 (Cl0.un un3) hs0 hn0
    (λxe hx=>hbE _ s3 H3 xe _ rfl rfl rfl rfl rfl hr1 rfl hx hK rfl) λs4 σ4 H4 M4 j3 I4 S5 lW=>?_)
   let(t,pt,kt):=hrest bO X.A X.stack s H3 (λ_ _ _=>False) bZ hr2 (zN z M H3) hK rfl
   rw[List.set_set]at S5;apply pt.tW [] s4 σ4 H4 _ I4 (kt σ4 j3 M4 H4 _ S5 λv σ5 Bs M5 H5 S6 UL R6=>?_)
   let(M6,S7,ZR,R7):=S1.leave .nil rfl u4 S6 (lW.trans UL) R6 rfl ho;show#[_,M6,S7,ZR,R7]
 .
  cases rr with
  |error ev=>show False.elim hq'
  |ok flw=>
   cases flw with
   |ret u=>let(v,H',I',r1,aE,M',a,b,d):=I1.after hq';show hQ u v H' s' aE M' I' r1 a b d
   |next=>show False.elim hq'
   |brk=>show False.elim hq'
   |cont=>show False.elim hq'
end
abbrev zF(Y X:Cx)(z:Z)(g:G)(qn:Str)(l:Lt)(r':R)(f:Addr):Prop:=
 ∀{aj: ~~~1}{σ1 σ0:Sg}{H1:Hp}{s1:Shared}{g1:G}{As A0 M:List Addr}{p c':Addr}{cl:List (Str×Addr)}{pm jr:Value}{us:List Value}{Q E:Value->Shared->Prop},L2.Inv Y aj σ1 H1 s1->S z g1 σ1 As M H1->H1 p=!(mL p (PySem.W.kla_obj "<lambda>" qn l.params l.body l.scope cl pm c' jr))->H1 c'=!(iO qn c')->
  ou X.N σ0 l.scope cl H1 s1.heap->Slots z.K M H1 g σ0 A0->Vals [.ref p] us->(∀u v H' s' aE M',L2.Inv Y aj σ1 H' s'->RelV v u->S z g1 σ1 aE M' H'->au M H1 M' H'->dB z g1 σ1 aE M' H' r' v->Q u s')->wpAny (model Y.prog Y.w) Y.A (call (.ref f) us) Q E s1
section
variable{st:Stmt}
def Oz(hK:z.K=X.K)(Ff:LQ X.K fx qual st f fd)(hg:Gl X fx)(hm:X.mg fx=!(.ref f))(jR:(fx==(~~~3))=false)(mk:ql X qn q c)(B:aO X.env.scope l.scope)(L:fh l.params l.scope)(hcall:zF X X z g qn l r' f):aD X z (.Call (.Name fx fp) [l.ex] [] bw) g r' g:=by
 apply#[λσ H Q=>∃As M,S z g σ As M H/\∀v H' aE M',S z g σ aE M' H'->au M H M' H'->dB z g σ aE M' H' r' v->Q v H',?_,λσ As M H Q s kq=>#[As,M,s,λv H' aE M'=>kq v H' aE M']]
 rintro aj s σ H Q I ⟨As,M,hs,hQ⟩;apply u8 (fW I hg hm ?_ jR);apply AS I.ok.mod.Gj Ff.kp (l6 ((bJ (zE hK mk B L) eU rfl) bw aj s σ H (λvs H'=>∃v,vs=[v]/\S z g σ As M H'/\au M H M H'/\jN X qn M H' l v) I #[As,M,hs,λv H' a b d _=>#[v,rfl,a,b,d]]) (λus s1 q1=>?_) λ_ _ z=>z) rfl rfl
 let(vs,H1,I1,rv,_,rfl,S1,dc,p,c',jr,cl,rfl,np1,nc1,hp1,hc1,Es,Ou):=q1;show#[I1.nj,hcall I1 S1 hp1 hc1 (BR I1 B L.nl Es Ou) S1.sl rv λu v H' s' aE M' I' r1 a b d=>#[v,H',I',r1,hQ v H' aE M' a (dc.trans b) d]]
end
section
def Jw(hw:∀u,RelV w u->u=cv):e9 X (.builtin "isinstance") (λxs H Q=>∃x M d b,xs=[x,w]/\Pk X.K M H d x/\PySem.W.kitOne X.K (Gk d) cv=!b/\Q (.bl b) H):=by intro aj s σ H xs us Q I r h;let(x,M,d,b,rfl,p,e,q):=h;let(u,w',rfl,r1,r2):=vals2 r;obtain rfl:=hw _ r2;show HQ I p r1 e λtk=>#[.bl b,H,I.tok tk,rfl,q]
def Jx(hK:z.K=X.K)(h:aD X z a g r1 g1)(hp:pk r1 g1=!d)(he:∀M H v,Pk X.K M H d v->PySem.W.kitOne X.K (Gk d) cv=!b)
  (hg:Gl X "isinstance") (hm:X.mg "isinstance"=none) (hv:bootBuiltins "isinstance"=!(.builtin "isinstance")) (hw:∀u,RelV w u->u=cv) (pT':PE X (.Name T pT) (tC w))
  (hs:starEach [a,.Name T pT] X.env=(false,eval a X.env)::starEach [.Name T pT] X.env):aD X z (.Call (.Name "isinstance" p) [a,.Name T pT] [] pos) g (.dat (.bl b)) g1:=by
 let(t,q,k):=h;apply#[_,kL (Jw hw) hg hm hv (bJ q (bJ pT' eU) hs) ⋯ ⋯ hs,λσ As M H Q s kk=>k σ As M H _ s λv H' aE M' s' st R=>?_]
 have p:=hK▸s'.pk (au.refl _ _) R hp;show#[v,M',d,b,rfl,p,he _ _ _ p,kk _ H' aE M' s' st (.bl b)]
end
open L2 PySem.W
abbrev fT:Slot->Slot
 |.own l=>.dat (.lst l)
 |s=>s
abbrev flat:D->Bool
 |.non=>true
 |.bl _=>true
 |.int _=>true
 |.str _=>true
 |_=>false
def Rep.flat{K:Frag}{M M':List Addr}{H H':Hp}{d:D}{v:V}(r:Rep K M H d v)(h:Ev.flat d=true):Rep K M' H' d v:=by
 cases r with
 |non=>show .non
 |bl b=>show .bl b
 |int i=>show .int i
 |str x=>show .str x
 |_=>symm
section
variable{g g':G}
def Slots.atA{K:Frag}(q:Slots K M H g σ As){a:Addr}(h:a∈As):∃(i:Nat) (l:List D) (xs:List V),g[i]?=!(Slot.own l)/\σ[i]?=!(!(V.ref a))/\H a=!(.lst xs):=by
 induction q with
 |nil=>symm
 |no _ ih=>let(i,l,xs,h1,h2,h3):=ih h;show#[i+1,l,xs,h1,h2,h3]
 |dat _ _ ih=>let(i,l,xs,h1,h2,h3):=ih h;show#[i+1,l,xs,h1,h2,h3]
 |own e _ _ ih=>
  rcases dS.mp h with rfl |h
  . show#[0,_,_,rfl,rfl,e]
  . let(i,l,xs,h1,h2,h3):=ih h;show#[i+1,l,xs,h1,h2,h3]
def Slots.fT{K:Frag}{M0:List Addr}(q:Slots K M H g σ As)(hl:∀m∈M0,m∈M)(hn:∀a∈As,a∉M0):Slots K M0 H (g.map Ev.fT) σ []:=by
 induction q with
 |nil=>show .nil
 |no _ ih=>show .no (ih hn)
 |dat r _ ih=>show .dat (r.stay (au.less hl)) (ih hn)
 |own e r _ ih=>show .dat (.lst #[hn _ dC,e] (r.stay (au.less hl))) (ih λa ha=>hn a (bP _ ha))
def OD{i:Nat}{l:List D}(h:(g.map Ev.fT)[i]?=!(.own l)):False:=by
 rw[pV]at h;cases e:g[i]? with
 |none=>rw[e]at h;symm
 |some u=>rw[e]at h;cases u <;> symm
def S.h0(s:S z g σ As M H)(hb:z.bor=[])(h:a∈As):z.H0 a=none:=by
 let(i,l,xs,h1,h2,_):=s.sl.atA h;rcases s.own i a l h1 h2 with ⟨q,_⟩ |q
 . rw[hb]at q;cases q
 . show q
def S.Vk(s:S z g σ As M H)(hb:z.bor=[]):S z (g.map Ev.fT) σ [] (M.filter λm=>decide (m∉As)) H where
 sl:=s.sl.fT (λm hm=>(i5.mp hm).1) λa ha hm=>by have:=(i5.mp hm).2;simp at this;show this ha
 nd:=u4
 sub:=λa h=>nomatch h
 own:=λi a l e _=>(OD e).elim
 live:=λm hm=>s.live m (i5.mp hm).1
 keep:=s.keep
 iU:=λm hm=>i5.mpr #[s.iU m hm,by
  have:m∉As:=λh=>s.m0 m hm (s.h0 hb h)
  simpa using this]
 m0:=s.m0
 bm:=s.bm
 jz:=λp hp=>by
  have:p.1∈z.bor:=sK (f:=(·.1)) hp;rw[hb]at this;cases this
 tab:=s.tab
 tm:=s.tm
 tt:=s.tt
def S.thaw(s:S z g σ As M H)(hb:z.bor=[]){g1:G}{σ1:Sg}(s1:S z g1 σ1 aQ M1 H1)(st:au (M.filter λm=>decide (m∉As)) H M1 H1):S z g σ As (As++M1) H1/\au M H (As++M1) H1:=by
 have nA:∀a∈As,a∉M.filter λm=>decide (m∉As):=λa ha hm=>by have:=(i5.mp hm).2;simp at this;show this ha
 have stM:au M H (As++M1) H1:=λb o e hb'=>by
  have h1:=st b o e λhm=>hb' (i5.mp hm).1
  apply#[h1.1,λhm=>?_]
  rcases tP.mp hm with hm |hm
  . show hb' (s.sub b hm)
  . show h1.2 hm
 have lists:∀a∈As,∃xs,H1 a=!(.lst xs):=λa ha=>by
  let(_,_,xs,_,_,e):=s.sl.atA ha;show#[xs,(st a _ e (nA a ha)).1]
 apply#[#[s.sl.stay stM λa ha o e=>(st a o e (nA a ha)).1,s.nd,λa ha=>y0 _ ha,s.own,λm hm=>?_,s1.keep,λm hm=>i8 _ (s1.iU m hm),s.m0,s.bm,s.jz,s1.tab,s.tm,s.tt],stM]
 rcases tP.mp hm with hm |hm
 . let(xs,e):=lists m hm;show .inl #[_,e,trivial]
 . show s1.live m hm
def OJ(hb:z.bor=[])(hf:Ev.flat d=true)(h:aD X z e (g.map Ev.fT) (.dat d) g1):aD X z e g (.dat d) g:=by
 let(t,q,k):=h;apply#[t,q,λσ As M H Q s kk=>k σ [] _ H Q (s.Vk hb) λv H1 aQ M1 s1 st R=>?_]
 let(a,b):=s.thaw hb s1 st;show kk v H1 As _ a b (Rep.flat R hf)
end
abbrev LL(X:Cx)(z:Z)(g:G)(qn:Str)(ic:Nat)(M0:List Addr)(H0:Hp)(ls:List Lt)(σ:Sg)(H:Hp):Prop:=
 ∃As M a vs,S z g σ As M H/\au M0 H0 M H/\σ[ic]?=!(!(.ref a))/\a∈M/\a∉As/\z.H0 a=none/\H a=!(.lst vs)/\dI X qn M H ls vs
def zG(h:n<1000):n<=sizeLine:=by rw[oQ];lia
section
def Ey(hK:z.K=X.K)(mk:ql X qn q c)(B:aO X.env.scope l.scope)(L:fh l.params l.scope)(hN:X.N.Nodup)(hi:X.N[ic]?=!y)(hx:Loc X.env.scope y)(hf:X.fn y=true\/X.env.scope.names.lookup y=some .local)(hg:g[ic]?=some .no) :
  ∃t,PS X (.Assign [.Name y py] (.List [l.ex] lp) pos) t/\∀σ As M H (E:Ends),S z g σ As M H->(∀σ' H',LL X z g qn ic M H [l] σ' H'->E.nx σ' H')->t E σ H:=by
 apply#[_,pg hN hi hx (yR (bJ (zE hK mk B L) eU rfl)) rfl hf,λσ As M H E s kE=>#[As,M,s,λv H' s' st' la kl=>#[zG (show 1<1000 by decide),λp hp=>kE _ _ ?_]]]
 have s2:=s'.aU (xs:=[v]) hp;have hl:ic<σ.length:=by rw[<- s.sl.length];show (dE.mp hg).1
 have aM:au M H' (p::M) (upd H' p (.lst [v])):=au.aU hp;show#[As,p::M,p,[v],s2.iI hg,st'.trans aM,fI hl,dC,λh=>s'.fresh hp (s'.sub p h),s'.cD hp,aC,.cons (la.stay aM) .nil]
def zH(hK:z.K=X.K)(mk:ql X qn q c)(B:aO X.env.scope l.scope)(L:fh l.params l.scope)(hi:X.N[ic]?=!y)(hv:iR X.env.scope y)(hd:(y==(~~~3))=false)(bZ:(y==("__classdict__":Str))=false)(hls:ls.length<1000)(hline:(cG.endLine==bw.line)=true) :
  ∃t,PS X (.Expr (.Call (.Attribute (.Name y pn) "append" cG) [l.ex] [] bw) pos) t/\∀σ H M0 H0 (E:Ends),LL X z g qn ic M0 H0 ls σ H->(∀H',LL X z g qn ic M0 H0 (ls++[l]) σ H'->E.nx σ H')->t E σ H:=by
 apply#[_,oE (vY y7 BM BN jx (cN hi hv hd bZ) (bJ (zE (g:=g) hK mk B L) eU rfl) rfl rfl hline rfl rfl) rfl,λσ H M0 H0 E h kE=>?_]
 let(As,M,a,vs,s,st,e1,hm,hA,h0,ha,la):=h;apply#[.ref a,e1,.inl #[rfl,vs,cg.of ha],As,M,s,λv H' s' st' la' kl=>#[a,vs,v,rfl,rfl,kl a vs ha,by rw[<- la.length,oQ];lia,kE _ ?_]]
 show#[As,M,a,vs++[v],s'.zD hm hA h0 (kl a vs ha),(st.trans st').trans (au.write hm),e1,hm,hA,h0,aC,((la.stay st').push la').stay (au.write hm)]
end
def ou.un'(c:ou N σ scope cl H h)(u:Un fs ex H H' h h')(hx:∀x a,cl.lookup x=!a->a∉ex):ou N σ scope cl H' h':=by
 have key:∀x a v,cl.lookup x=!a->h.IsCell a v->h'.IsCell a v:=by rintro x a v e ⟨o,e1,d⟩;let(sl,e2):=u.any e1 (c.cell x a e).1 (hx x a e);show#[_,e2,d]
 apply#[c.inj,c.has,λx a e=>?_,λi x v h1 h2 h3=>?_,c.len]
 . let(hn,v,o,e1,d):=c.cell x a e;show#[u.free a o e1 hn (hx x a e),v,key x a v e #[o,e1,d]]
 . let(f,w,a,r,e,z):=c.loc i x v h1 h2 h3;show#[f,w,a,r,e,key x a _ e z]
abbrev asD:R->Option D
 |.dat d=>!d
 |.new l=>!(.lst l)
 |.var _=>none
def zI(s:S z g σ As M H)(h:dB z g σ As M H r v)(e:asD r=!d):∃M',S z g σ As M' H/\au M H M' H/\Rep z.K M' H d v:=by
 cases r with
 |dat d'=>cases e;show#[M,s,au.refl _ _,h]
 |var i=>cases e
 |new l=>
  cases e;let(a,xs,rfl,hm,hA,h0,ha,rr):=h;have hM:∀m∈(M.filter λm=>decide (m≠a)),m∈M:=λm hm=>(i5.mp hm).1
  have na:a∉(M.filter λm=>decide (m≠a)):=λhm=>by
   have:=(i5.mp hm).2;simp at this
  show#[_,s.drop h0 hA,au.less hM,.lst #[na,ha] (rr.stay (au.less hM))]
section
abbrev qm(X:Cx)(z:Z)(g:G)(qn:Str)(N':List Str)(iv:Nat)(scope:Scope)(cW:Expr)(l:Lt)(d:D):Prop:=
 ∀(bk:Bk) (σ:Sg),Zj X σ bk->∀(gb:G) (σb:Sg) (Ab Mb:List Addr) (Hb:Hp) (v:V) (A1:List Addr) (Q:VK),S z gb σb Ab Mb Hb->σb[iv]?=!(!v)->Slots z.K Mb Hb g σ A1->jN X qn Mb Hb l v->
  (∀v' H' aE M',S z gb σb aE M' H'->au Mb Hb M' H'->Rep z.K M' H' d v'->Q v' H')->Ig (X.blk N' scope bk) cW σb Hb Q
def Vl{l:Lt}{r':R}{d:D}{v fx qual:Str}{fp vp cp:Pos}{st:Stmt}{f:Addr}{fd:FuncData}(B:aO X.env.scope l.scope)(L:fh l.params l.scope)(Ff:LQ X.K fx qual st f fd)(hm:X.mg fx=!(.ref f))(jR:(fx==(~~~3))=false)
  (hg:∀bk:Bk,Gl (X.blk N' scope bk) fx) {iv:Nat} (hix:N'[iv]?=!v) (hv:∀bk:Bk,iR (X.blk N' scope bk).env.scope v) (hd:(v==(~~~3))=false) (bZ:(v==("__classdict__":Str))=false)
  (hcall:∀bk:Bk,zF (X.blk N' scope bk) X z g qn l r' f) (hr:asD r'=!d):qm X z g qn N' iv scope (.Call (.Name fx fp) [.Name v vp] [] cp) l d:=by
 intro bk σ hbk gb σb Ab Mb Hb v0 A1 Q s0 hσ sl la kQ;apply#[λσ' H' Q'=>∃As M A0,S z gb σ' As M H'/\σ'[iv]?=!(!v0)/\Slots z.K M H' g σ A0/\jN X qn M H' l v0/\∀v' H2 aE M',S z gb σ' aE M' H2->au M H' M' H2->Rep z.K M' H2 d v'->Q' v' H2,?_,Ab,Mb,A1,s0,hσ,sl,la,kQ]
 rintro aj s1 σ' H' Q' I ⟨As,M,A0,S1,hv0,sl0,la0,kQ0⟩;apply u8 (fW I (hg bk) hm ?_ jR);apply AS I.ok.mod.Gj Ff.kp (l6 ((bJ (cN hix (hv bk) hd bZ) eU rfl) cp aj s1 σ' H' (λvs H1=>vs=[v0]/\H1=H') I #[v0,hv0,rfl,rfl]) (λus s2 q1=>?_) λ_ _ z=>z) rfl rfl
 let(vs,H1,I1,rv,rfl,rfl):=q1;let(p,c',jr,cl,rfl,np1,nc1,hp1,hc1,Es,Ou):=la0;let(pins0,I0,f0):=hbk;have C0:=(BR I0 B L.nl Es Ou).un' I1.base λx a e hb=>(f0 a hb).2.2.2.2.1 x a (Es x a e).1 rfl
 apply#[I1.nj,hcall bk I1 S1 hp1 hc1 C0 sl0 rv λu v H' s' aE M' I' r1 a b d'=>?_]
 let(M2,s3,fQ,R3):=zI a d' hr;show#[v,H',I',r1,kQ0 v H' aE M2 s3 (b.trans fQ) R3]
inductive eY(P:Lt->D->Prop):List Lt->List D->Prop
 |nil:eY P [] []
 |cons {l:Lt}{ls:List Lt}{d:D}{ds:List D}:P l d->eY P ls ds->eY P (l::ls) (d::ds)
def eY.get(h:eY P ls ds):∀{i:Nat}{l:Lt},ls[i]?=!l->∃d,ds[i]?=!d/\P l d:=by
 induction h with
 |nil=>intro i l e;cases e
 |cons a _ ih=>intro i l e;cases i with
  |zero=>cases (show some _=!l from e);show#[_,rfl,a]
  |succ i=>show ih e
def eY.length(h:eY P ls ds):ls.length=ds.length:=by
 induction h with
 |nil=>rfl
 |cons _ _ ih=>show congrArg (· + 1) ih
def zJ(hj:j<k)(hN:Names X.N N' scope k)(B:aO X.env.scope scope)(hc:X.calm=true)(hi:X.N[ic]?=!y)(hv:iR X.env.scope y)(hd:(y==(~~~3))=false)(bZ:(y==("__classdict__":Str))=false)
  (hx:∀b:Bk,pY (X.blk N' scope b) x (X.N.length+j)) (BV:g.length=X.N.length) (hls:ls.length<1000) (he:eY (qm X z g qn N' (X.N.length+j) scope cW) ls ds) :
  ∃t,PE X (.ListComp cW [#[.Name x px,.Name y py,[],0]] scope pos) t/\∀σ H M0 H0 Q,LL X z g qn ic M0 H0 ls σ H->Kn z g σ M0 H0 (.new ds) Q->t σ H Q:=by
 apply#[_,Bg B hc hN (tY (cN hi hv hd bZ)) (λb=>#[jv (hx b).nd (hx b).ix (hx b).lc (hx b).fn,pK,pZ]) (λ_=>rfl),λσ H M0 H0 Q h kq=>?_]
 let(As,M,a,vs,s,st,e1,hm,hA,h0,ha,la):=h;have hM:∀m∈(M.filter λm=>decide (m≠a)),m∈M:=λm hm=>(i5.mp hm).1
 have na:a∉(M.filter λm=>decide (m≠a)):=λhm=>by
  have:=(i5.mp hm).2;simp at this
 have s1:=s.drop h0 hA;have dc:=st.trans (au.less hM);have la1:=la.stay (au.less hM);generalize (M.filter λm=>decide (m≠a))=M1 at na s1 dc la1
 apply#[.ref a,e1,a,rfl,#[vs,cg.of ha],λD hD=>?_]
 have hl:=s.sl.length;have hlN:=hl.symm.trans BV;have h0D:=s1.cD hD;have nA:D∉As:=λh=>s1.fresh hD (s1.sub D h)
 have sb:=(s1.aU hD).extend (k:=k) dC nA h0D aC .nil;apply#[λi m σ' H'=>i+m=ls.length/\∃Ab Mb w,S z (g++(List.replicate k .no++[.own (ds.take i)])) σ' Ab Mb H'/\au M1 H Mb H'/\w.length=k/\σ'=σ++(w++[!(.ref D)]),#[ls.length,BO _,_,_,_,sb,au.aU hD,hV,rfl],?_]
 rintro i m σ' H' ⟨ZN,Ab,Mb,w,s2,aM,hw,rfl⟩;have ha2:=aM _ _ ha na;have la2:=la1.stay aM;have nF:∀w:List (Option V),w.length=k->(σ++(w++[!(V.ref D)]))[g.length+k]?=!(!(V.ref D)):=λw hw=>by rw[hl,eC (tS _ _),l5,eC ⋯,hw,BQ];rfl
 have BW:∀l,(g++(List.replicate k Slot.no++[Slot.own l]))[g.length+k]?=!(.own l):=λl=>by rw[eC (tS _ _),l5,eC (by rw[hV];show eA _),hV,BQ];rfl
 cases e:ls[i]? with
 |none=>
  have hi':i=ls.length:=by have:=rV.mp e;lia
  apply .inl #[#[vs,cg.of ha2.1,by rw[<- la.length,hi'];show eA _],?_]
  rw[List.take_of_length_le (by rw[<- he.length,hi'];show eA _)]at s2
  let(b,xs,f1,f2,f3,f4):=s2.sl.at (BW ds);rw[nF w hw]at f1;injection f1 with f1;injection f1 with f1;injection f1 with f1;subst f1;let(A1,s3,m3,n3):=s2.shrink (λp hp=>(dE.mp (s.jz p hp).1).1) ⋯ (BW ds) (nF w hw)
  rw[List.take_append_of_le_length ⋯,List.take_of_length_le ⋯]at s3;show kq _ H' A1 Mb s3 (dc.trans aM) #[D,xs,rfl,m3,n3,h0D,f3,f4]
 |some l=>
  let(v,ev,lv):=la2.get e;let(d,ed,hE):=he.get e;apply .inr #[#[vs,v,cg.of ha2.1,ev],λσ' H'=>∃Ab Mb w,S z (g++(List.replicate k .no++[.own (ds.take (i+1))])) σ' Ab Mb H'/\au M1 H Mb H'/\w.length=k/\σ'=σ++(w++[!(.ref D)]),λDn Dp hN=>#[m - 1,by have:=(dE.mp e).1;lia,by have:=(dE.mp e).1;lia,hN],λx' H2 hx' bk hbk=>?_]
  let(rfl,hy):=hx';have:=hy vs (cg.of ha2.1);rw[ev]at this;cases this;have hw2:(w.set j (!v)).length=k:=by rw[n0];show hw
  have es:(σ++(w++[!(V.ref D)])).set (X.N.length+j) (!v)=σ++(w.set j (!v)++[!(V.ref D)]):=by rw[<- hlN,t7 _ _ (tS _ _),l5,Bi _ _ ⋯]
  have s3:S z (g++(List.replicate k .no++[.own (ds.take i)])) (σ++(w.set j (!v)++[!(V.ref D)])) Ab Mb H2:=by rw[<- es];show s2.iI (by rw[<- BV,eC (tS _ _),l5,d6 (by rw[hV];show hj),AO,i7 hj])
  let(σ1,σ2,A1,A2,c1,c2,c3,c4):=s3.sl.split;let(rfl,_):=List.append_inj c1 (hl.symm.trans c3.length);delta rT Hi;dsimp only;rw[es];apply hE bk σ hbk _ _ Ab Mb H2 v A1 _ s3 (by rw[<- hlN,eC (tS _ _),l5,d6 ⋯,fI ⋯]) c3 lv λv' H3 lR M3 s4 sF R4=>?_
  let(b,xs,f1,f2,f3,f4):=s4.sl.at (BW (ds.take i));rw[nF _ hw2]at f1;injection f1 with f1;injection f1 with f1;injection f1 with f1;subst f1;have ht:ds.take (i+1)=ds.take i++[d]:=by rw[List.take_add_one,ed];rfl
  let(s5,lW):=s4.write (l':=ds.take (i+1)) (BW _) (nF _ hw2) (by rw[ht];show f4.append (.cons R4 .nil))
  have eg:(g++(List.replicate k Slot.no++[Slot.own (ds.take i)])).set (g.length+k) (.own (ds.take (i+1)))=g++(List.replicate k Slot.no++[Slot.own (ds.take (i+1))]):=by rw[t7 _ _ (tS _ _),l5,t7 _ _ (by rw[hV];show eA _),hV,BQ];rfl
  rw[eg]at s5;apply#[xs,f3,?_,lR,M3,_,s5,(aM.trans sF).trans lW,hw2,rfl];rw[<- f4.length,oQ,wE];have:=Nat.min_le_right i ds.length;lia
def wV(hj:j<k)(hN:Names X.N N' scope k)(B:aO X.env.scope scope)(hc:X.calm=true)(hi:X.N[ic]?=!y)(hv:iR X.env.scope y)(hd:(y==(~~~3))=false)(bZ:(y==("__classdict__":Str))=false)
  (hx:∀b:Bk,pY (X.blk N' scope b) x (X.N.length+j)) (hls:ls.length<1000) (he:eY (qm X z g qn N' (X.N.length+j) scope cW) ls ds) :
  ∃t,PE X (.ListComp cW [#[.Name x px,.Name y py,[],0]] scope pos) t/\∀σ H M0 H0 Q,LL X z g qn ic M0 H0 ls σ H->Kn z g σ M0 H0 (.new ds) Q->t σ H Q:=by
 by_cases BV:g.length=X.N.length
 . show zJ hj hN B hc hi hv hd bZ hx BV hls he
 .
  apply#[λσ H Q=>σ.length≠X.N.length,λaj s σ H Q I h=>absurd I.len h,λσ H M0 H0 Q h _ e=>?_]
  let(As,M,a,vs,s,_):=h;show BV (s.sl.length.trans e)
end
inductive Vm(X:Cx):List Stmt->List TS->Prop
 |nil:Vm X [] []
 |cons {s:Stmt}{ss:List Stmt}{t:TS}{ts:List TS}:PS X s t->Vm X ss ts->Vm X (s::ss) (t::ts)
abbrev O1:List TS->TS->TS
 | [],u=>u
 |t::ts,u=>YG t (O1 ts u)
def Vm.pss{X:Cx}{ss rest:List Stmt}{ts:List TS}{u:TS}(h:Vm X ss ts)(hu:tU X rest u):tU X (ss++rest) (O1 ts u):=by
 induction h with
 |nil=>show hu
 |cons a _ ih=>show eu a ih
abbrev oz(X:Cx)(z:Z)(ss:List Stmt)(g:G)(f:Fl)(g':G):Prop:=
 ∃ts,Vm X ss ts/\∀(u:TS) σ As M H (E:Ends),S z g σ As M H->kX z M H { E with nx:=u E} g' f->O1 ts u E σ H
def oz.lift(h:oz X.tW z ss g f g'):oz X z ss g f g':=by
 let(ts,q,k):=h;apply#[ts,?_,k];clear k
 induction q with
 |nil=>show .nil
 |cons a _ ih=>show .cons (λaj s σ H D I hw=>l6 (a aj s σ H D (I.wish _) hw) (λ_ _ q=>q.dg) λ_ _ z=>False.elim z) ih
def oz.bk{X:Cx}{z:Z}{ss rest:List Stmt}{g g1 g':G}{f:Fl}(h:oz X z ss g .nx g1)(h2:eX X z rest g1 f g'):eX X z (ss++rest) g f g':=by let(t2,q2,k2):=h2;let(t,q,k):=h;show#[_,q.pss q2,λσ As M H E s kE=>k t2 σ As M H E s λσ' aE M' H' s' st=>k2 σ' aE M' H' E s' (kE.trans st)]
def oz.end{X:Cx}{z:Z}{ss rest:List Stmt}{g g':G}{f:Fl}(h:oz X z ss g f g')(hn:f≠.nx):eX X z (ss++rest) g f g':=by
 let(t,q,k):=h;apply#[_,q.pss bC,λσ As M H E s kE=>k _ σ As M H E s ?_]
 cases f with
 |nx=>show absurd rfl hn
 |rt r=>show kE
 |bk=>show kE
 |ct=>show kE
def oz.ra{X:Cx}{z:Z}{ss rest:List Stmt}{g g1 g':G}{C:Addr}(h:oz X z ss g .nx g1)(h2:N2 X z rest g1 C g'):N2 X z (ss++rest) g C g':=by let(t2,q2,k2):=h2;let(t,q,k):=h;show#[_,q.pss q2,λσ As M H E s kE=>k t2 σ As M H E s λσ' aE M' H' s' st=>k2 σ' aE M' H' E s' (kE.trans st)]
abbrev LsOk(X:Cx)(z:Z)(qn:Str)(ic:Nat)(ls:List Lt)(st:Stmt)(g:G)(f:Fl)(g':G):Prop:=
 ∃t,PS X st t/\∀σ H M0 H0 (E:Ends),LL X z g qn ic M0 H0 ls σ H->kX z M0 H0 E g' f->t E σ H
inductive zK(y:Str):List Stmt->List Lt->Prop
 |nil:zK y [] []
 |cons {l:Lt}{ls:List Lt}{ss:List Stmt}{pn cG bw pos:Pos}:(cG.endLine==bw.line)=true->zK y ss ls->zK y (.Expr (.Call (.Attribute (.Name y pn) "append" cG) [l.ex] [] bw) pos::ss) (l::ls)
section
variable{st:Stmt}
def zL(hK:z.K=X.K)(mk:ql X qn q c)(hi:X.N[ic]?=!y)(hv:iR X.env.scope y)(hd:(y==(~~~3))=false)(bZ:(y==("__classdict__":Str))=false):∀{ms ls:List Lt},zK y ss ms->(∀m∈ms,aO X.env.scope m.scope/\fh m.params m.scope)->ls.length+ms.length<1000->
  LsOk X z qn ic (ls++ms) st g f g'->∃ts,Vm X (ss++[st]) ts/\∀(u:TS) σ H M0 H0 (E:Ends),LL X z g qn ic M0 H0 ls σ H->kX z M0 H0 { E with nx:=u E} g' f->O1 ts u E σ H:=by
 induction ss with
 |nil=>rintro ms ls ha _ _ ⟨t,q,k⟩;cases ha;rw[mB]at k;show#[[t],.cons q .nil,λu σ H M0 H0 E h kE=>k σ H M0 H0 { E with nx:=u E} h kE]
 |cons s ss ih=>
  intro ms ls ha hm hl hs;cases ha with
  |@cons m ms _ pn cG bw pos' e ha=>
   let(B,L):=hm m dC;let(t1,q1,k1):=zH (z:=z) (g:=g) (ls:=ls) (pos:=pos') (pn:=pn) hK mk B L hi hv hd bZ ⋯ e;let(t2,q2,k2):=ih (ls:=ls++[m]) ha (λm h=>hm m (bP _ h)) (by simp at hl ⊢;lia) (by rw[AI];show hs)
   show#[t1::t2,.cons q1 q2,λu σ H M0 H0 E h kE=>k1 σ H M0 H0 _ h λH' h'=>k2 u σ H' M0 H0 E h' kE]
def nM(hK:z.K=X.K)(mk:ql X qn q c)(hN:X.N.Nodup)(hi:X.N[ic]?=!y)(hx:Loc X.env.scope y)(hf:X.fn y=true\/X.env.scope.names.lookup y=some .local)(hv:iR X.env.scope y)(hd:(y==(~~~3))=false)(bZ:(y==("__classdict__":Str))=false)(hg:g[ic]?=some .no)
  {ss:List Stmt} (ha:zK y ss ls) (hm:∀m∈l::ls,aO X.env.scope m.scope/\fh m.params m.scope) (hl:ls.length<900) (hs:LsOk X z qn ic (l::ls) st g f g'):oz X z (.Assign [.Name y py] (.List [l.ex] lp) pos::(ss++[st])) g f g':=by
 let(B,L):=hm l dC;let(t1,q1,k1):=Ey (z:=z) (g:=g) (py:=py) (lp:=lp) (pos:=pos) hK mk B L hN hi hx hf hg;let(t2,q2,k2):=zL (ls:=[l]) hK mk hi hv hd bZ ha (λm h=>hm m (bP _ h)) (by simp;lia) hs
 show#[t1::t2,.cons q1 q2,λu σ As M H E s kE=>k1 σ As M H _ s λσ' H' h'=>k2 u σ' H' M H E h' kE]
def Jy(h1:∃t,PE X Vn t/\∀σ H M0 H0 Q,LL X z g qn ic M0 H0 ls σ H->Kn z g σ M0 H0 (.new ds) Q->t σ H Q)(h2:aD X z rG g r2 g2)(p2:pk r2 g2=!d2)(ho:nB X z (compareOp op) (.lst ds) d2 (.dat (.bl b)))(hm:behindInMarks op rG=false)
  (hb:eX X z (if b then body else []) g2 f g'):LsOk X z qn ic ls (.If (.Compare Vn [op] [rG] bw) body [] pos) g f g':=by
 let(t1,q1,k1):=h1;let(t2,q2,k2):=h2;let(rr,o,ko):=ho;let(t3,q3,k3):=hb;have go:∀σ H M0 H0 (Q:Bool->Hp->Prop),LL X z g qn ic M0 H0 ls σ H->(∀H' aE M',S z g2 σ aE M' H'->au M0 H0 M' H'->Q b H')->t1 σ H λv1 H1=>t2 σ H1 λv2 H2=>rr v1 v2 H2 λv H3=>∃c,v=.bl c/\Q c H3:=λσ H M0 H0 Q h kQ=>
  k1 σ H M0 H0 _ h λv1 H1 aQ M1 s1 dc R1=>by
   let(M1',s1',Vo,R1'):=zI s1 R1 rfl;show k2 σ aQ M1' H1 _ s1' λv2 H2 bD M2 s2 aM R2=>ko g2 σ bD M2 H2 v1 v2 _ s2 (.of (R1'.stay aM)) (s2.pk (au.refl _ _) R2 p2) λv H' aE M' s' st' R'=>#[b,fX R',kQ H' aE M' s' (((dc.trans Vo).trans aM).trans st')]
 cases b with
 |true=>show#[_,o8 (uc o q1 q2 hm) q3 bC,λσ H M0 H0 E h kE=>go σ H M0 H0 _ h λH' aE M' s' st'=>jV (k3 σ aE M' H' E s' (kE.trans st'))]
 |false=>show#[_,o8 (uc o q1 q2 hm) bC q3,λσ H M0 H0 E h kE=>go σ H M0 H0 _ h λH' aE M' s' st'=>n9 (k3 σ aE M' H' E s' (kE.trans st'))]
def Ez(h1:∃t,PE X Vn t/\∀σ H M0 H0 Q,LL X z g qn ic M0 H0 ls σ H->Kn z g σ M0 H0 (.new ds) Q->t σ H Q)(h2:aD X z rG g r2 g2)(p2:pk r2 g2=!d2)(ho:nB X z (compareOp op) (.lst ds) d2 (.dat (.bl b)))(hm:behindInMarks op rG=false) :
  LsOk X z qn ic ls (.Return (!(.Compare Vn [op] [rG] bw)) pos) g (.rt (.dat (.bl b))) g2:=by
 let(t1,q1,k1):=h1;let(t2,q2,k2):=h2;let(rr,o,ko):=ho;apply#[_,tX (Bb o q1 q2 hm),λσ H M0 H0 E h kE=>k1 σ H M0 H0 _ h λv1 H1 aQ M1 s1 dc R1=>?_]
 let(M1',s1',Vo,R1'):=zI s1 R1 rfl;show k2 σ aQ M1' H1 _ s1' λv2 H2 bD M2 s2 aM R2=>ko g2 σ bD M2 H2 v1 v2 _ s2 (.of (R1'.stay aM)) (s2.pk (au.refl _ _) R2 p2) λv H' aE M' s' st' R'=>kE v σ aE M' H' s' (((dc.trans Vo).trans aM).trans st') R'
end
abbrev Vp(X:Cx)(tg iter:Expr):TI:=λσ H R=>∃wi,PI X tg iter wi/\wi σ H R
def Jz:PI X tg iter (Vp X tg iter):=λaj s σ H R I h=>let #[wi,q,k]:=h;q aj s σ H R I k
section
def JB(hC:∀g b g',uA g b g'->dH X z ifs g b g')(hE:∀g d g',LR g d g'->aD X z cW g (.dat d) g')(hw:fG X z tg iter g2 ak Uv)(ht:iW X z tg T)(cu:last∉T.ix)
  (hcp:jE T last uA LR ak Uv g3) {σ:Sg}{As M:List Addr}{H:Hp}{Nn:Sg->Hp->Prop}{D:Addr} (s:S z g2 σ As M H) (hD:σ[last]?=!(!(.ref D)))
  (k:∀σ' aE M' H',S z g3 σ' aE M' H'->au M H M' H'->σ'[last]?=!(!(.ref D))->vM T.ix σ σ'->Nn σ' H'):Zq (Vp X tg iter) (Ic X tg) (Ie X ifs) (uw D (Ig X cW)) σ H Nn:=by
 let(wi,q,kw):=hw;apply#[wi,q,kw σ As M H _ s λJ H1 aQ M1 s1 dc hJ=>?_]
 apply#[λi m σ' H'=>i+m=ak.length/\∃gb Ab Mb,S z gb σ' Ab Mb H'/\au M1 H1 Mb H'/\vM T.ix σ σ'/\σ'[last]?=!(!(.ref D))/\jE T last uA LR (ak.drop i) gb g3,
  #[ak.length,by lia,_,_,_,s1,au.refl _ _,vM.refl _ _,hD,hcp],?_]
 rintro i m σ' H' ⟨ZN,gb,Ab,Mb,s2,aM,ag,DQ,cp⟩;let(hgo,hstop):=hJ Mb H' aM;cases e:ak[i]? with
 |none=>
  have hi:i=ak.length:=by have:=rV.mp e;lia
  subst hi;rw[BB]at cp;cases cp;show .inl #[hstop,k σ' Ab Mb H' s2 (dc.trans aM) DQ ag]
 |some d=>
  let(go,yl):=hgo i d e;rw[drop_cons e]at cp;have hi:=(dE.mp e).1;apply .inr #[go,λσ' H'=>∃gb Ab Mb,S z gb σ' Ab Mb H'/\au M1 H1 Mb H'/\vM T.ix σ σ'/\σ'[last]?=!(!(.ref D))/\jE T last uA LR (ak.drop (i+1)) gb g3,
   λDn Dp hN=>#[m - 1,by lia,by lia,hN],λx H2 hx=>?_]
  let(s3,fQ,rx):=yl x H2 hx z gb σ' Ab rfl s2;let(t,qt,kt):=ht;cases cp with
  |skip e0 hc rest=>
   apply#[t,qt,kt d gb _ e0 x _ Ab Mb H2 _ s3 rx λσ4 j3 s4 ag4=>?_]
   let(t2,q2,k2):=hC _ _ _ hc;apply#[t2,q2,k2 _ j3 Mb H2 _ s4 λH5 Bs M5 s5 lW=>?_]
   show n9 #[_,Bs,M5,s5,(aM.trans fQ).trans lW,ag.trans ag4,by rw[ag4.2 _ cu];show DQ,rest]
  |take e0 hc he ha hz' rest=>
   apply#[t,qt,kt d gb _ e0 x _ Ab Mb H2 _ s3 rx λσ4 j3 s4 ag4=>?_]
   let(t2,q2,k2):=hC _ _ _ hc;let(t3,q3,k3):=hE _ _ _ he;have NK:σ4[last]?=!(!(V.ref D)):=by rw[ag4.2 _ cu];show DQ
   apply#[t2,q2,k2 _ j3 Mb H2 _ s4 λH5 Bs M5 s5 lW=>jV #[t3,q3,k3 _ Bs M5 H5 _ s5 λv H6 ZQ M6 s6 UL R6=>?_]]
   let(a,xs,f1,f2,f3,f4):=s6.sl.at ha;rw[NK]at f1;injection f1 with f1;injection f1 with f1;injection f1 with f1;subst f1;let(s7,ZR):=s6.write ha NK (f4.append (.cons R6 .nil));show#[xs,f3,by rw[<- f4.length];show hz',_,ZQ,M6,s7,(((aM.trans fQ).trans lW).trans UL).trans ZR,ag.trans ag4,NK,rest]
end
inductive iJ(T:Tg)(uA:G->Bool->G->Prop)(In:G->G->Prop):List D->G->G->Prop
 |nil {g:G}:iJ T uA In [] g g
 |skip:T.set d g=!g1->uA g1 false g2->iJ T uA In l g2 g'->iJ T uA In (d::l) g g'
 |take:T.set d g=!g1->uA g1 true g2->In g2 g3->iJ T uA In l g3 g'->iJ T uA In (d::l) g g'
section
abbrev zM(X:Cx)(z:Z)(N':List Str)(scope:Scope)(tg iter cW:Expr)(ifs:List Expr)(T:Tg)(last:Nat)(g2 g3:G):Prop:=
 ∃ak Uv,(∀bk:Bk,fG (X.blk N' scope bk) z tg iter g2 ak Uv)/\jE T last (λg b g'=>∀bk:Bk,dH (X.blk N' scope bk) z ifs g b g') (λg d g'=>∀bk:Bk,aD (X.blk N' scope bk) z cW g (.dat d) g') ak Uv g3
def nO(hw:fG X z t1 i1 g ak g1)(ht1:∀b:Bk,iW (X.blk N' scope b) z t1 T1)(ht:∀b:Bk,iW (X.blk N' scope b) z tg T)(hT1:∀i∈T1.ix,g1.length<=i/\i<g1.length+k)(hT:∀i∈T.ix,g1.length<=i/\i<g1.length+k)
  (hcp:iJ T1 (λg b g'=>∀bk:Bk,dH (X.blk N' scope bk) z f1 g b g') (zM X z N' scope tg iter cW ifs T (g1.length+k)) ak (gC k g1) gE) (hacc:gE[g1.length+k]?=!(.own acc)) :
  ∃wi,PI X t1 i1 wi/\∀σ As M H Q,S z g σ As M H->Kn z (gE.take g1.length) σ M H (.new acc) Q->su X k wi (λb=>Ic (X.blk N' scope b) t1) (λb=>Ie (X.blk N' scope b) f1) (λD b=>Zq (Vp (X.blk N' scope b) tg iter) (Ic (X.blk N' scope b) tg) (Ie (X.blk N' scope b) ifs) (uw D (Ig (X.blk N' scope b) cW))) σ H Q:=by
 let(wi,q,kw):=hw;apply#[wi,q,λσ As M H Q s kq=>kw σ As M H _ s λJ H1 aQ M1 s1 dc hJ D hD=>?_]
 have hl:=s1.sl.length;have hz:∀p∈z.lent,p.1<σ.length:=λp hp=>(dE.mp (s1.jz p hp).1).1
 have hT1':∀i∈T1.ix,σ.length<=i:=λi hi=>by rw[<- hl];show (hT1 i hi).1
 have UJ:∀i∈T.ix,σ.length<=i:=λi hi=>by rw[<- hl];show (hT i hi).1
 have JC:g1.length+k∉T1.ix:=λh=>nK _ (hT1 _ h).2
 have cu:g1.length+k∉T.ix:=λh=>nK _ (hT _ h).2
 have s1':=s1.aU (xs:=[]) hD;have h0:=s1.cD hD;have nA:D∉aQ:=λh=>s1.fresh hD (s1.sub D h)
 have sb:=s1'.extend (k:=k) dC nA h0 aC .nil;have nF:(σ++(List.replicate k none++[!(V.ref D)]))[g1.length+k]?=!(!(V.ref D)):=by
  rw[hl,eC (tS _ _),l5,eC (by rw[hV];show eA _),hV,BQ]
  rfl
 apply#[λi m σ' H'=>i+m=ak.length/\∃gb Ab Mb τ,S z gb σ' Ab Mb H'/\au M1 H1 Mb H'/\σ'=σ++τ/\σ'[g1.length+k]?=!(!(.ref D))/\iJ T1 (λg b g'=>∀bk:Bk,dH (X.blk N' scope bk) z f1 g b g') (zM X z N' scope tg iter cW ifs T (g1.length+k)) (ak.drop i) gb gE,
  #[ak.length,by lia,_,_,_,_,sb,au.aU hD,rfl,nF,hcp],?_]
 rintro i m σ' H' ⟨ZN,gb,Ab,Mb,τ,s2,aM,rfl,DQ,cp⟩;let(hgo,hstop):=hJ Mb H' aM;cases e:ak[i]? with
 |none=>
  have hi:i=ak.length:=by have:=rV.mp e;lia
  subst hi;rw[BB]at cp;cases cp;apply .inl #[hstop,?_];let(a,xs,f1,f2,f3,f4):=s2.sl.at hacc;rw[DQ]at f1;injection f1 with f1;injection f1 with f1;injection f1 with f1;subst f1;let(A1,s3,m3,n3):=s2.shrink hz ⋯ hacc DQ;rw[<- hl]at s3;show kq _ H' A1 Mb s3 (dc.trans aM) #[D,xs,rfl,m3,n3,h0,f3,f4]
 |some d=>
  let(go,yl):=hgo i d e;rw[drop_cons e]at cp;have hi:=(dE.mp e).1;apply .inr #[go,λσ' H'=>∃gb Ab Mb τ,S z gb σ' Ab Mb H'/\au M1 H1 Mb H'/\σ'=σ++τ/\σ'[g1.length+k]?=!(!(.ref D))/\iJ T1 (λg b g'=>∀bk:Bk,dH (X.blk N' scope bk) z f1 g b g') (zM X z N' scope tg iter cW ifs T (g1.length+k)) (ak.drop (i+1)) gb gE,
   λDn Dp hN=>#[m - 1,by lia,by lia,hN],λx H2 hx bk _=>?_]
  let(s3,fQ,rx):=yl x H2 hx z gb (σ++τ) Ab rfl s2;let(t,qt,kt):=ht1 bk;cases cp with
  |skip e0 hc rest=>
   apply#[t,qt,kt d gb _ e0 x _ Ab Mb H2 _ s3 rx λσ4 j3 s4 ag=>?_]
   let(τ',rfl):=fJ ag hT1';let(t2,q2,k2):=hc bk;apply#[t2,q2,k2 _ j3 Mb H2 _ s4 λH5 Bs M5 s5 lW=>?_]
   apply n9 #[_,Bs,M5,τ',s5,(aM.trans fQ).trans lW,rfl,?_,rest];rw[ag.2 _ JC];show DQ
  |take e0 hc hin rest=>
   let(items2,Uv,hw2,L5):=hin;apply#[t,qt,kt d gb _ e0 x _ Ab Mb H2 _ s3 rx λσ4 j3 s4 ag=>?_]
   let(τ',rfl):=fJ ag hT1';let(t2,q2,k2):=hc bk;have NK:(σ++τ')[g1.length+k]?=!(!(V.ref D)):=by rw[ag.2 _ JC];show DQ
   apply#[t2,q2,k2 _ j3 Mb H2 _ s4 λH5 Bs M5 s5 lW=>jV ?_]
   apply JB (λg b g' h=>h bk) (λg d g' h=>h bk) (hw2 bk) (ht bk) cu L5 s5 NK λσ6 ZQ M6 H6 s6 UL hD6 ag6=>?_
   let(τ6,rfl):=fJ ag6 UJ;show#[_,ZQ,M6,τ6,s6,((aM.trans fQ).trans lW).trans UL,rfl,hD6,rest]
def JD(B:aO X.env.scope scope)(hc:X.calm=true)(hN:Names X.N N' scope k)(hw:fG X z t1 i1 g ak g1)(ht1:∀b:Bk,iW (X.blk N' scope b) z t1 T1)(ht:∀b:Bk,iW (X.blk N' scope b) z tg T)(hT1:∀i∈T1.ix,g1.length<=i/\i<g1.length+k)(hT:∀i∈T.ix,g1.length<=i/\i<g1.length+k)
  (hcp:iJ T1 (λg b g'=>∀bk:Bk,dH (X.blk N' scope bk) z f1 g b g') (zM X z N' scope tg iter cW ifs T (g1.length+k)) ak (gC k g1) gE) (hacc:gE[g1.length+k]?=!(.own acc))
  (hs:∀x,foldedSetIterable i1 X.env x=pure x) (hs2:∀(b:Bk) x,foldedSetIterable iter (X.blk N' scope b).env x=pure x):aD X z (.ListComp cW [#[t1,i1,f1,0],#[tg,iter,ifs,0]] scope pos) g (.new acc) (gE.take g1.length):=by
 let(wi,q,kk):=nO hw ht1 ht hT1 hT hcp hacc;show#[_,Hq B hc hN q (λb=>#[#[mz,mC],Jz,mz,mC,pZ]) hs hs2,kk]
def JF(B:aO X.env.scope scope)(hc:X.calm=true)(hN:Names X.N N' scope k)(hw:fG X z t1 i1 g ak g1)(ht1:∀b:Bk,iW (X.blk N' scope b) z t1 T1)(ht:∀b:Bk,iW (X.blk N' scope b) z tg T)(hT1:∀i∈T1.ix,g1.length<=i/\i<g1.length+k)(hT:∀i∈T.ix,g1.length<=i/\i<g1.length+k)
  (hcp:iJ T1 (λg b g'=>∀bk:Bk,dH (X.blk N' scope bk) z f1 g b g') (zM X z N' scope tg iter cW ifs T (g1.length+k)) ak (gC k g1) gE) (hacc:gE[g1.length+k]?=!(.own acc))
  (Dq:X.N.Nodup) (hy:X.N[i]?=!y) (hl:X.env.scope.names.lookup y=some .local) (hb:i∉z.bor) (hi:i<(gE.take g1.length).length)
  (hsw:swapsWith (.ListComp cW [#[t1,i1,f1,0],#[tg,iter,ifs,0]] scope pos) (!(.Name y py)) gX.line X.env=pure true)
  (hs:∀x,foldedSetIterable i1 X.env x=pure x) (hs2:∀(b:Bk) x,foldedSetIterable iter (X.blk N' scope b).env x=pure x):iz X z (.Assign [.Name y py] (.ListComp cW [#[t1,i1,f1,0],#[tg,iter,ifs,0]] scope pos) gX) g .nx ((gE.take g1.length).set i (.own acc)):=by
 let(wi,q,kk):=nO hw ht1 ht hT1 hT hcp hacc;apply#[_,Hr B hc hN q (λb=>#[#[mz,mC],Jz,mz,mC,pZ]) Dq hy hl hsw hs hs2,λσ As M H E s kE=>kk σ As M H _ s λv H' aE M' s' st R=>?_]
 let(a,xs,rfl,hm,hA,h0,ha,rr):=R;let(bD,s2):=s'.pM hb hi hm hA h0 ha rr;show kE _ bD M' H' s2 st
end
inductive gq(z:Z)(As M:List Addr)(H:Hp):List Addr->List (List D)->Prop
 |nil:gq z As M H [] []
 |cons {p:Addr}{as:List Addr}{xs:List V}{l:List D}{ll:List (List D)}:p∈M->p∉As->z.H0 p=none->H p=!(.lst xs)->aJ z.K M H l xs->gq z As M H as ll->gq z As M H (p::as) (l::ll)
section
def gq.stay(h:gq z As M H as ll)(st:au M H M' H')(k:∀p∈as,p∈M'/\H' p=H p):gq z As M' H' as ll:=by
 induction h with
 |nil=>show .nil
 |cons h1 h2 h3 h4 h5 _ ih=>let(k1,k2):=k _ dC;show .cons k1 h2 h3 (k2.trans h4) (h5.stay st) (ih λp hp=>k p (bP _ hp))
def gq.mem(h:gq z As M H as ll):∀p∈as,p∈M/\p∉As/\z.H0 p=none/\∃xs,H p=!(.lst xs):=by
 induction h with
 |nil=>intro p h;symm
 |cons h1 h2 h3 h4 _ _ ih=>intro p hp;rcases dS.mp hp with rfl |hp;show#[h1,h2,h3,_,h4];show ih p hp
def gq.get(h:gq z As M H as ll):∀{i:Nat}{l:List D},ll[i]?=!l->∃p xs,as[i]?=!p/\H p=!(.lst xs)/\aJ z.K M H l xs:=by
 induction h with
 |nil=>intro i l e;cases e
 |cons h1 h2 h3 h4 h5 _ ih=>intro i l e;cases i with
  |zero=>cases (show some _=!l from e);show#[_,_,rfl,h4,h5]
  |succ i=>show ih e
def gq.push(h:gq z As M H as ll)(h1:p∈M)(h2:p∉As)(h3:z.H0 p=none)(h4:H p=!(.lst xs))(h5:aJ z.K M H l xs):gq z As M H (as++[p]) (ll++[l]):=by
 induction h with
 |nil=>show .cons h1 h2 h3 h4 h5 .nil
 |cons a b c d e _ ih=>show .cons a b c d e ih
def gq.write(h:gq z As M H as ll)(nd:as.Nodup)(r:aJ z.K M (upd H p (.lst xs')) l' xs')(hp:p∈M):∀{i:Nat},as[i]?=!p->gq z As M (upd H p (.lst xs')) as (ll.set i l'):=by
 induction h with
 |nil=>intro i e;cases e
 |@cons q as xs l ll h1 h2 h3 h4 h5 hr ih=>
  intro i e;let(nd1,nd2):=i6.mp nd;cases i with
  |zero=>
   cases (show some q=!p from e)
   show .cons h1 h2 h3 aC r (hr.stay (au.write hp) λx hx=>#[(hr.mem x hx).1,az (λe=>nd1 (e▸hx))])
  |succ i=>
   have hq:q≠p:=λe'=>nd1 (by rw[e'];show l7 (show as[i]?=!p from e))
   show .cons h1 h2 h3 (by rw[az hq];show h4) (h5.stay (au.write hp)) (ih nd2 e)
end
abbrev Rows(z:Z)(g:G)(iy:Nat)(M0:List Addr)(H0:Hp)(ll:List (List D))(σ:Sg)(H:Hp):Prop:=
 ∃As M a as,S z g σ As M H/\au M0 H0 M H/\σ[iy]?=!(!(.ref a))/\a∈M/\a∉As/\z.H0 a=none/\H a=!(.lst (as.map .ref))/\a∉as/\as.Nodup/\gq z As M H as ll
def Rows.iI(h:Rows z g iy M0 H0 ll σ H)(e:g[i]?=some .no)(n:i≠iy):Rows z g iy M0 H0 ll (σ.set i v) H:=by let(As,M,a,as,s,st,e1,h):=h;show#[As,M,a,as,s.iI e,st,by rw[eR n];show e1,h]
section
variable{iy ix iw:Nat}
def BX(hy:X.N[iy]?=!y)(vy:iR X.env.scope y)(dy:(y==(~~~3))=false)(cy:(y==("__classdict__":Str))=false)(hx:X.N[ix]?=!x)(vx:iR X.env.scope x)(dx:(x==(~~~3))=false)(cx:(x==("__classdict__":Str))=false)
  (hw:X.N[iw]?=!w) (vw:iR X.env.scope w) (dw:(w==(~~~3))=false) (cw:(w==("__classdict__":Str))=false) (hline:(cG.endLine==bw.line)=true) :
  ∃t,PS X (.Expr (.Call (.Attribute (.Subscript (.Name y py) (.Name x px) sp) "append" cG) [.Name w pw] [] bw) ep) t/\∀σ H M0 H0 (E:Ends) (ll:List (List D)) (l:List D) (j:Nat) (b:Int),Rows z g iy M0 H0 ll σ H->σ[ix]?=!(!(.int j))->σ[iw]?=!(!(.int b))->ll[j]?=!l->l.length<1000->
   (∀H',Rows z g iy M0 H0 (ll.set j (l++[.int b])) σ H'->E.nx σ H')->t E σ H:=by
 apply#[_,oE (vY y7 BM BN jx (Rb um (cN hy vy dy cy) (cN hx vx dx cx) (λ_ _=>rfl)) (bJ (cN hw vw dw cw) eU rfl) rfl rfl hline rfl rfl) rfl,λσ H M0 H0 E ll l j b h ex ew el hl kE=>?_]
 let(As,M,a,as,s,st,e1,hm,hA,h0,ha,na,nd,rl):=h;let(p,xs,ep,hp,rp):=rl.get el;let(q1,q2,q3,_):=rl.mem p (l7 ep);have hat:gD (as.map V.ref) (j:Int)=!(.ref p):=by
  have hj:=(dE.mp ep).1;delta L2.gD L2.uf;rw[i7 ⋯,i7 (by rw[eJ];lia)]
  exact (as.map V.ref)[j]?=!(.ref p);rw[pV,ep];rfl
 apply#[.ref a,e1,.int j,ex,a,as.map .ref,j,.ref p,rfl,rfl,cg.of ha,hat,.inl #[rfl,xs,cg.of hp],.int b,ew,p,xs,.int b,rfl,rfl,hp,?_,kE _ ?_]
 . rw[<- rp.length,oQ];lia
 .
  have hap:a≠p:=λe=>na (e▸l7 ep)
  apply#[As,M,a,as,s.zD q1 q2 q3 hp,st.trans (au.write q1),e1,hm,hA,h0,by rw[az hap];show ha,na,nd,?_]
  show rl.write nd ((rp.stay (au.write q1)).append (.cons (.int b) .nil)) q1 ep
end
abbrev wW(ll:List (List D)):D->Option (List (List D))
 |.tup [.int a,.int b]=>if 0<=a/\0<=b then match ll[a.toNat]? with
   |some l1=>if l1.length<1000 then match (ll.set a.toNat (l1++[.int b]))[b.toNat]? with
     |some l2=>if l2.length<1000 then some ((ll.set a.toNat (l1++[.int b])).set b.toNat (l2++[.int a]))else none
     |none=>none
    else none
   |none=>none
  else none
 |_=>none
abbrev iY:List D->List (List D)->Option (List (List D))
 | [],ll=>!ll
 |d::l,ll=>match wW ll d with |some Rq=>iY l Rq |none=>none
def JG(h:wW ll d=!Rq):∃(a b:Nat) (l1 l2:List D),d=.tup [.int a,.int b]/\ll[a]?=!l1/\l1.length<1000/\(ll.set a (l1++[.int b]))[b]?=!l2/\l2.length<1000/\Rq=(ll.set a (l1++[.int b])).set b (l2++[.int a]):=by
 delta wW at h;split at h
 .
  ext a b;split at h
  .
   ext h0;obtain⟨a,rfl⟩:∃n:Nat,a=n:=#[a.toNat,by lia]
   obtain⟨b,rfl⟩:∃n:Nat,b=n:=#[b.toNat,by lia]
   split at h
   .
    ext l1 e1;split at h
    .
     ext h1;split at h
     .
      ext l2 e2;split at h
      . ext h2;symm;show#[a,b,l1,l2,rfl,e1,h1,e2,h2,rfl]
      . symm
     . symm
    . symm
   . symm
  . symm
 . symm
def S.BZ:∀(ps:List Addr) {M:List Addr},S z g σ As M H->(∀p∈ps,p∉As/\z.H0 p=none)->∃M',S z g σ As M' H/\(∀m∈M',m∈M)/\∀p∈ps,p∉M'
 | [],M,s,_=>#[M,s,λ_ h=>h,λ_ h=>nomatch h]
 |p::ps,M,s,h=>by
  let(h1,h2):=h p dC;let(M',s',k1,k2):=S.BZ ps (s.drop h2 h1) λq hq=>h q (bP _ hq)
  apply#[M',s',λm hm=>(i5.mp (k1 m hm)).1,λq hq=>?_]
  rcases dS.mp hq with rfl |hq
  . intro hm;have:=(i5.mp (k1 _ hm)).2;simp at this
  . show k2 q hq
def gq.reps(h:gq z As M H as ll)(hM:∀m∈M',m∈M)(n:∀p∈as,p∉M'):aJ z.K M' H (ll.map .lst) (as.map .ref):=by
 induction h with
 |nil=>show .nil
 |cons _ _ _ h4 h5 _ ih=>show .cons (.lst #[n _ dC,h4] (h5.stay (au.less hM))) (ih λp hp=>n p (bP _ hp))
def Rows.trans(st:au M0 H0 M1 H1)(h:Rows z g iy M1 H1 ll σ H):Rows z g iy M0 H0 ll σ H:=by let(As,M,a,as,s,aM,r):=h;show#[As,M,a,as,s,st.trans aM,r]
section
variable{iy ia ib it:Nat}
def JH(hp:PassesOwn (~~~2) X.A X.env X.xe)(hc:X.calm=true)(hK:z.K=X.K)(hy:X.N[iy]?=!y)(vy:iR X.env.scope y)(dy:(y==(~~~3))=false)(cy:(y==("__classdict__":Str))=false)
  (na:pY X a ia) (va:iR X.env.scope a) (da:(a==(~~~3))=false) (ca:(a==("__classdict__":Str))=false) (nb:pY X b ib) (vb:iR X.env.scope b) (db:(b==(~~~3))=false) (cb:(b==("__classdict__":Str))=false)
  (ht:X.N[it]?=!tn) (vt:iR X.env.scope tn) (dt:(tn==(~~~3))=false) (ct:(tn==("__classdict__":Str))=false) (hgt:g[it]?=!(.dat (.tup ah)))
  (hga:g[ia]?=some .no) (hgb:g[ib]?=some .no) (hay:ia≠iy) (hby:ib≠iy) (hab:ia≠ib) (l1:(Rr.endLine==Rt.line)=true) (l2:(Ru.endLine==L5.line)=true)
  {ll0:List (List D)} (hF:iY ah ll0=!L7) :
  ∃t,PS X (.For (.Tuple [.Name a pa,.Name b pb] tk jq) (.Name tn tp) [.Expr (.Call (.Attribute (.Subscript (.Name y y1) (.Name a a1) sp1) "append" Rr) [.Name b b1] [] Rt) ep1,.Expr (.Call (.Attribute (.Subscript (.Name y y2) (.Name b b2) sp2) "append" Ru) [.Name a a2] [] L5) ep2] [] JK) t/\
   ∀M0 H0 σ H (E:Ends),Rows z g iy M0 H0 ll0 σ H->(∀σ' H',Rows z g iy M0 H0 L7 σ' H'->E.nx σ' H')->t E σ H:=by
 let(t1,q1,k1):=BX hy vy dy cy na.ix va da ca nb.ix vb db cb l1;let(t2,q2,k2):=BX hy vy dy cy nb.ix vb db cb na.ix va da ca l2;apply#[_,GZ hp hc (GX (cN ht vt dt ct)) (GL hc (o9 (jv na.nd na.ix na.lc na.fn) (o9 (jv nb.nd nb.ix nb.lc nb.fn) Ba rfl) rfl) rfl rfl) (eu q1 (Az q2)) (λ_=>rfl),λM0 H0 σ H E h kE=>?_]
 let(As,M,ay,as,s,st,h):=h;let(v,ev,rv):=s.sl.sy hgt;cases rv with
 |@tup _ at' xs ha rr=>
  apply#[.ref at',ev,at',rfl,#[xs,hK▸ha.sq],?_];apply#[λi m σ' H'=>i+m=ah.length/\∃ll,Rows z g iy M H ll σ' H'/\iY (ah.drop i) ll=!L7,#[ah.length,BO _,ll0,#[As,M,ay,as,s,au.refl _ _,h],hF],?_]
  rintro i m σ' H' ⟨ZN,ll,hr,hf⟩;let(bD,M2,ay2,as2,s2,aM,h2):=id hr;have ha2:TupAt z.K M2 H' at' xs:=by
   rcases ha with ⟨n,hq⟩ |hq
   . show .inl (aM.rd n hq)
   . show .inr hq
  have Gm:=rr.stay aM;cases e:ah[i]? with
  |none=>
   have hi:i=ah.length:=by have:=rV.mp e;lia
   subst hi;rw[BB]at hf;cases hf;show .inl #[#[xs,hK▸ha2.sq,by rw[<- rr.length];show eA _],kE σ' H' (hr.trans st)]
  |some d=>
   rw[drop_cons e]at hf;have hi:=(dE.mp e).1;let(xd,e1,e2):=Gm.get e;cases hd:wW ll d with
   |none=>
    have hf:(match wW ll d with |some Rq=>iY (ah.drop (i+1)) Rq |none=>none)=!L7:=hf
    rw[hd]at hf;cases hf
   |some Rq=>
    have hf:(match wW ll d with |some Rq=>iY (ah.drop (i+1)) Rq |none=>none)=!L7:=hf
    rw[hd]at hf;let(Yd,Ye,r1,r2,rfl,g1,g2,g3,g4,rfl):=JG hd;cases e2 with
    |@tup _ ad ys had rad=>
     cases rad with
     |cons ra rad=>cases rad with
      |cons rb rad=>
       cases rad;cases ra;cases rb;apply .inr #[#[xs,.ref ad,hK▸ha2.sq,e1],λDn Dp=>∃ll,Rows z g iy M H ll Dn Dp/\iY (ah.drop (i+1)) ll=!L7,λDn Dp hN=>#[m - 1,by lia,by lia,hN],λx H2 hx=>?_]
       let(rfl,hy'):=hx;have:=hy' xs (hK▸ha2.sq);rw[e1]at this;cases this;apply#[ad,_,rfl,hK▸had.sq,rfl,_,_,rfl,_,_,rfl,rfl,?_];have aN:=s2.sl.length.symm;have ila:ia<σ'.length:=by rw[aN];show (dE.mp hga).1
       have ilb:ib<σ'.length:=by rw[aN];show (dE.mp hgb).1
       have hr2:=(hr.iI (v:=!(.int Yd)) hga hay).iI (v:=!(.int Ye)) hgb hby
       have va':((σ'.set ia (!(V.int Yd))).set ib (!(V.int Ye)))[ia]?=!(!(.int Yd)):=by rw[eR (mM hab),fI ila]
       have vb':((σ'.set ia (!(V.int Yd))).set ib (!(V.int Ye)))[ib]?=!(!(.int Ye)):=by rw[fI (by rw[n0];show ilb)]
       show k1 _ _ M H _ ll r1 Yd Ye hr2 va' vb' g1 g2 λH3 hr3=>k2 _ _ M H _ _ r2 Ye Yd hr3 vb' va' g3 g4 λH4 hr4=>#[_,hr4,hf]
end
section
def S.extNo(s:S z g σ As M H)(τ:Sg):S z (g++List.replicate τ.length .no) (σ++τ) As M H:=by
 have hl:=s.sl.length;have q:=s.sl.append (Slots.nos' τ);rw[mB]at q;apply#[q,s.nd,s.sub,λi b l e1 e2=>?_,s.live,s.keep,s.iU,s.m0,s.bm,λp hp=>?_,s.tab,s.tm,s.tt]
 .
  rcases wS i g.length with hi |hi
  . rw[d6 hi]at e1;rw[d6 ⋯]at e2;show s.own i b l e1 e2
  . rw[eC hi]at e1;have:=l7 e1;rw[yA]at this;cases this.2
 . let(q1,l',q2):=s.jz p hp;show#[by rw[d6 (dE.mp q1).1];show q1,l',by rw[d6 (dE.mp q2).1];show q2]
def Slots.nosA{K:Frag}:∀{n:Nat}{τ:Sg}{A:List Addr},Slots K M H (List.replicate n .no) τ A->A=[]
 | 0,_,_,q=>by cases q;rfl
 |n+1,_,_,q=>by
  cases q with
  |no q=>show Slots.nosA q
def S.cutNo{τ:Sg}{n:Nat}(s:S z (g++List.replicate n .no) (σ++τ) As M H)(hl:g.length=σ.length)(hz:∀p∈z.lent,p.1<σ.length):S z g σ As M H:=by
 let(σ1,σ2,A1,A2,h1,h2,h3,h4):=s.sl.split;let(rfl,rfl):=List.append_inj h1 (hl.symm.trans h3.length);have:=Slots.nosA h4;subst this;rw[mB]at h2;subst h2;apply#[h3,s.nd,s.sub,λi b l e1 e2=>?_,s.live,s.keep,s.iU,s.m0,s.bm,λp hp=>?_,s.tab,s.tm,s.tt]
 . have hi:=(dE.mp e1).1;show s.own i b l (by rw[d6 hi];show e1) (by rw[d6 ⋯];show e2)
 . let(c1,l',c2):=s.jz p hp;have Bq:=hz p hp;rw[d6 Bq]at c1;rw[d6 ⋯]at c2;show#[c1,l',c2]
end
section
variable{iy im:Nat}
def EY(hj:j<k)(hN:Names X.N N' scope k)(B:aO X.env.scope scope)(hc:X.calm=true)(hx:∀b:Bk,pY (X.blk N' scope b) x (X.N.length+j))(hgr:Gl X "range")(hmr:X.mg "range"=none)
  (BV:g.length=X.N.length) (hm:X.N[im]?=!mn) (vm:iR X.env.scope mn) (dm:(mn==(~~~3))=false) (cm:(mn==("__classdict__":Str))=false) (hgm:g[im]?=!‹m›) (hm1:m<=1000)
  (Dq:X.N.Nodup) (hy:X.N[iy]?=!y) (hl:X.env.scope.names.lookup y=some .local) (hgy:g[iy]?=some .no)
  (hsw:swapsWith (.ListComp (.List [] lp) [#[.Name x px,.Call (.Name "range" rp) [.Name mn mp] [] Yg,[],0]] scope JL) (!(.Name y py)) ap.line X.env=pure true) :
  ∃t,PS X (.Assign [.Name y py] (.ListComp (.List [] lp) [#[.Name x px,.Call (.Name "range" rp) [.Name mn mp] [] Yg,[],0]] scope JL) ap) t/\∀σ As M H (E:Ends),S z g σ As M H->(∀σ' H',Rows z g iy M H (List.replicate m []) σ' H'->E.nx σ' H')->t E σ H:=by
 apply#[_,Bh B hc hN (rW hgr hmr (bJ (cN hm vm dm cm) eU rfl)) (λb=>#[jv (hx b).nd (hx b).ix (hx b).lc (hx b).fn,pK,yR eU]) Dq hy hl hsw (λ_=>rfl),λσ As M H E s kE=>?_]
 let(v,ev,rv):=s.sl.sy hgm;cases rv;apply#[.int m,ev,(m:Int),rfl,by lia,by lia,λD hD=>?_]
 have aN:=s.sl.length;have h0D:=s.cD hD;have s1:=s.aU (xs:=[]) hD;apply#[λi n σ' H'=>i+n=m/\∃Mb as w,S z (g++List.replicate (k+1) .no) σ' As Mb H'/\au M H Mb H'/\w.length=k/\σ'=σ++(w++[!(.ref D)])/\D∈Mb/\H' D=!(.lst (as.map .ref))/\D∉as/\as.Nodup/\as.length=i/\gq z As Mb H' as (List.replicate i []),#[m,BO _,D::M,[],List.replicate k none,?_,au.aU hD,hV,rfl,dC,aC,(λh=>nomatch h),u4,rfl,.nil],?_]
 . have:=s1.extNo (List.replicate k none++[!(.ref D)]);rw[eP,hV]at this;show this
 .
  rintro i n σ' H' ⟨hin,Mb,as,w,s2,aM,hw,rfl,hDm,hDH,hDn,nd,hal,rl⟩;have nDA:D∉As:=λh=>s.fresh hD (s.sub D h)
  by_cases hi:i<m
  .
   apply .inr #[hi,λσ' H'=>∃Mb as w,S z (g++List.replicate (k+1) .no) σ' As Mb H'/\au M H Mb H'/\w.length=k/\σ'=σ++(w++[!(.ref D)])/\D∈Mb/\H' D=!(.lst (as.map .ref))/\D∉as/\as.Nodup/\as.length=i+1/\gq z As Mb H' as (List.replicate (i+1) []),λDn Dp hN=>#[n - 1,by lia,by lia,hN],λx' H2 hx' bk _=>?_]
   let(rfl,rfl):=hx';have es:(σ++(w++[!(V.ref D)])).set (X.N.length+j) (!(.int (0+(i:Int))))=σ++(w.set j (!(.int (0+(i:Int))))++[!(V.ref D)]):=by rw[<- BV,aN,t7 _ _ (tS _ _),l5,Bi _ _ ⋯]
   have s3:S z (g++List.replicate (k+1) .no) (σ++(w.set j (!(.int (0+(i:Int))))++[!(V.ref D)])) As Mb H2:=by rw[<- es];show s2.iI (by rw[<- BV,eC (tS _ _),AO,i7 ⋯])
   delta rT Hi;dsimp only;rw[i7 rfl];rw[es];apply#[wT _,λp hp=>?_]
   have pD:p≠D:=λe=>by rw[e,hDH]at hp;cases hp
   have pas:∀q∈as,q≠p:=λq hq e=>by
    let(_,_,_,xs,hx):=rl.mem q hq;rw[e,hp]at hx;cases hx
   have hD1:upd H2 p (.lst []) D=!(.lst (as.map .ref)):=by rw[az (mM pD)];show hDH
   have s4:=s3.aU (xs:=[]) hp;have s5:=s4.zD (xs':=as.map .ref++[.ref p]) (bP _ hDm) nDA h0D hD1;have fQ:au Mb H2 (p::Mb) (upd H2 p (.lst [])):=au.aU hp;have sF:au (p::Mb) (upd H2 p (.lst [])) (p::Mb) (upd (upd H2 p (.lst [])) D (.lst (as.map .ref++[.ref p]))):=au.write (bP _ hDm);apply#[as.map .ref,hD1,?_,p::Mb,as++[p],_,s5,(aM.trans fQ).trans sF,by rw[n0];show hw,rfl,bP _ hDm,?_,?_,?_,?_,?_]
   . rw[eJ,oQ];lia
   . rw[aC,v6];rfl
   .
    intro h;rcases tP.mp h with h |h
    . show hDn h
    . show pD (fR.mp h).symm
   .
    apply w8.mpr #[nd,i6.mpr #[by simp,u4],λq hq r hr e=>?_]
    rw[fR.mp hr]at e;show pas q hq e
   . rw[eP,hal];rfl
   .
    have r1:=rl.stay (fQ.trans sF) λq hq=>#[bP _ (rl.mem q hq).1,by rw[az (show q≠D from λe=>hDn (by rw[<- e];show hq)),az (pas q hq)]]
    rw[show List.replicate (i+1) ([]:List Ev.D)=List.replicate i []++[[]]from List.replicate_succ']
    show r1.push dC (λh=>s2.fresh hp (s2.sub p h)) (s2.cD hp) (by rw[az pD];show aC) .nil
  .
   have hi':i=m:=by lia
   subst hi';apply .inl #[eA _,?_];have s3:=s2.cutNo aN λp hp=>(dE.mp (s.jz p hp).1).1
   have hly:iy<σ.length:=by rw[<- aN];show (dE.mp hgy).1
   show kE _ _ #[As,Mb,D,as,s3.iI hgy,aM,fI hly,hDm,nDA,h0D,hDH,hDn,nd,rl]
end
section
variable{iy im ia ib it:Nat}
def zO(hp:PassesOwn (~~~2) X.A X.env X.xe)(hK:z.K=X.K)(hj:j<k)(hN:Names X.N N' scope k)(B:aO X.env.scope scope)(hc:X.calm=true)(hx:∀b:Bk,pY (X.blk N' scope b) x (X.N.length+j))(hgr:Gl X "range")(hmr:X.mg "range"=none)
  (hm:X.N[im]?=!mn) (vm:iR X.env.scope mn) (dm:(mn==(~~~3))=false) (cm:(mn==("__classdict__":Str))=false) (hgm:g[im]?=!‹m›) (hm1:m<=1000)
  (Dq:X.N.Nodup) (hy:X.N[iy]?=!y) (hl:X.env.scope.names.lookup y=some .local) (dy:(y==(~~~3))=false) (cy:(y==("__classdict__":Str))=false) (hgy:g[iy]?=some .no)
  (hsw:swapsWith (.ListComp (.List [] lp) [#[.Name x px,.Call (.Name "range" rp) [.Name mn mp] [] Yg,[],0]] scope JL) (!(.Name y py)) ap.line X.env=pure true)
  (na:pY X a ia) (va:iR X.env.scope a) (da:(a==(~~~3))=false) (ca:(a==("__classdict__":Str))=false) (nb:pY X b ib) (vb:iR X.env.scope b) (db:(b==(~~~3))=false) (cb:(b==("__classdict__":Str))=false)
  (ht:X.N[it]?=!tn) (vt:iR X.env.scope tn) (dt:(tn==(~~~3))=false) (ct:(tn==("__classdict__":Str))=false) (hgt:g[it]?=!(.dat (.tup ah)))
  (hga:g[ia]?=some .no) (hgb:g[ib]?=some .no) (hay:ia≠iy) (hby:ib≠iy) (hab:ia≠ib) (l1:(Rr.endLine==Rt.line)=true) (l2:(Ru.endLine==L5.line)=true) (hF:iY ah (List.replicate m [])=!L7) :
  oz X z [.Assign [.Name y py] (.ListComp (.List [] lp) [#[.Name x px,.Call (.Name "range" rp) [.Name mn mp] [] Yg,[],0]] scope JL) ap,.For (.Tuple [.Name a pa,.Name b pb] tk jq) (.Name tn tp) [.Expr (.Call (.Attribute (.Subscript (.Name y y1) (.Name a a1) sp1) "append" Rr) [.Name b b1] [] Rt) ep1,.Expr (.Call (.Attribute (.Subscript (.Name y y2) (.Name b b2) sp2) "append" Ru) [.Name a a2] [] L5) ep2] [] JK,.Return (!(.Name y yr)) rpos] g (.rt (.dat (.lst (L7.map .lst)))) g:=by
 have vy:iR X.env.scope y:=.inl hl;by_cases BV:g.length=X.N.length
 .
  let(t1,q1,k1):=EY hj hN B hc hx hgr hmr BV hm vm dm cm hgm hm1 Dq hy hl hgy hsw;have q3:PS X (.Return (!(.Name y yr)) rpos) _:=tX (cN hy vy dy cy);have fin:∀M H (E:Ends) σ' H',kX z M H E g (.rt (.dat (.lst (L7.map .lst))))->Rows z g iy M H L7 σ' H'->Yz iy σ' H' E.rt:=λM H E σ' H' kE h=>by
   let(As,M2,ay,as,s,st,e1,hm,hA,h0,ha,nay,nd,rl):=h;let(M3,s3,k3,k4):=S.BZ (ay::as) s λp hp=>by
    rcases dS.mp hp with rfl |hp
    . show#[hA,h0]
    . show#[(rl.mem p hp).2.1,(rl.mem p hp).2.2.1]
   show#[.ref ay,e1,kE _ σ' As M3 H' s3 (st.trans (au.less k3)) (.lst #[k4 _ dC,ha] (rl.reps k3 λp hp=>k4 p (bP _ hp)))]
  have mid:∃t,PS X (.For (.Tuple [.Name a pa,.Name b pb] tk jq) (.Name tn tp) [.Expr (.Call (.Attribute (.Subscript (.Name y y1) (.Name a a1) sp1) "append" Rr) [.Name b b1] [] Rt) ep1,.Expr (.Call (.Attribute (.Subscript (.Name y y2) (.Name b b2) sp2) "append" Ru) [.Name a a2] [] L5) ep2] [] JK) t/\
   ∀M0 H0 σ H (E:Ends),Rows z g iy M0 H0 (List.replicate m []) σ H->(∀σ' H',Rows z g iy M0 H0 L7 σ' H'->E.nx σ' H')->t E σ H:=JH hp hc hK hy vy dy cy na va da ca nb vb db cb ht vt dt ct hgt hga hgb hay hby hab l1 l2 hF
  let(t2,q2,k2):=mid;apply#[[t1,t2,_],.cons q1 (.cons q2 (.cons q3 .nil)),λu σ As M H E s kE=>?_]
  show k1 σ As M H _ s λσ' H' h'=>k2 M H σ' H' _ h' λσ2 H2 h2=>fin M H _ σ2 H2 kE h2
 .
  have no:∀st:Stmt,PS X st (λ_ σ _=>σ.length≠X.N.length):=λst aj s σ H D I h=>absurd I.len h
  show#[[_,_,_],.cons (no _) (.cons (no _) (.cons (no _) .nil)),λu σ As M H E s kE=>λe=>BV (s.sl.length.trans e)]
end
end Ev
namespace HT
open PySem PyProof.Rows
end HT
namespace Ev
open L2
section
variable{X:Cx}{z:Z}{tg iter kx vx:Expr}{scope:Scope}{pos:Pos}{N':List Str}{k:Nat}{T:Tg}{ak:List D}{g g1 gE:G}{ks: ~~~5}{ds:List D}
def JM(ns: ~~~0):(ns.map (Sum.inl:Int->Key)).map kV=ns.map V.int:=by rw[List.map_map];rfl
abbrev atL: ~~~5->List D->~~~0->Option D
 |k::ks,d::ds,n=>if k=n then some d else atL ks ds n
 |_,_,_=>none
def wX{K:Frag}{M:List Addr}{H:Hp}{n: ~~~0}{d:D}:∀{ks: ~~~5}{ds:List D}{vs:List V},aJ K M H ds vs->atL ks ds n=!d->∃v,atK ((ks.map (List.map Sum.inl)).zip vs) (n.map Sum.inl)=!v/\Rep K M H d v
 | [],_,_,_,h=>by symm
 |_::_,[],_,_,h=>by symm
 |k::ks,x::ds,_,r,h=>by
  cases r with
  |cons a b=>
   delta atL at h;delta atK;rw[List.map_cons,BY,List.find?_cons];by_cases e:k=n
   . rw[i7 e]at h;symm;subst e;show#[_,by rw[oC (show (k.map Sum.inl,_).1=k.map (Sum.inl:Int->Key)from rfl)];rfl,a]
   .
    rw[lL e]at h;let(v,v1,v2):=wX b h;apply#[v,?_,v2];rw[show decide ((k.map (Sum.inl:Int->Key),_).1=n.map Sum.inl)=false from oD λq=>e ((List.map_inj_right λa b e=>Sum.inl.inj e).mp q)]
    show v1
def Vq{l:List D}{n: ~~~0}{d:D}(hK:z.K=X.K)(hu:X.A.units+1<cLine)(hi:cK l=!n)(h:atL ks ds n=!d):XZ X z (.Dr ks ds) (.tup l) (.dat d):=by
 apply#[_,MT hu,λg σ As M H v1 v2 Q s q1 q2 kk=>?_]
 let(b,ys,rfl,hb,rb):=q2.tup;have e:=bX rb hi;subst e;cases q1 with
 |of q1=>cases q1 with
  |Dr na ha hl rr=>let(v,e1,e2):=wX rr h;show#[_,b,_,n.map Sum.inl,v,rfl,rfl,ha,by rw[JM];show hK▸hb.sq,e1,kk _ H As M s (au.refl _ _) e2]
end
section
variable{X:Cx}{z:Z}{g g1:G}{pos:Pos}
def Vr(h0:0<=j)(h1:j<=1000000)(h2:i.natAbs<2 ^ 64):nB X z (binaryOp .LShift) (.int i) (.int j) (.dat (.int (i * 2 ^ j.toNat))):=by
 apply#[λx y H Q=>x=.int i/\y=.int j/\Q (.int (i * 2 ^ j.toNat)) H,λaj s σ H x y v u Q I r1 r2 h=>?_,λg σ As M H v1 v2 Q s q1 q2 kk=>#[q1.int,q2.int,kk _ H As M s (au.refl _ _) (.int _)]]
 let(rfl,rfl,q):=h;let(t,rfl):=r1;let(t',rfl):=r2;show lshift_int_small h0 h1 h2 #[.int _,H,I.tok _,#[_,rfl],q]
end
open L2 PySem.W
abbrev fV(n: ~~~0): ~~~5->List Int
 | []=>n
 |m::l=>fV (if HT.lexLt m n then m else n) l
def sP:∀(l: ~~~5) (n m: ~~~0),fV n (l++[m])=if HT.lexLt m (fV n l)then m else fV n l
 | [],_,_=>rfl
 |_::l,_,m=>sP l _ m
meta abbrev Gs (L: ~~~5) (i j:Nat):Bool:=HT.lexLt (L.getD i []) (L.getD j [])
def sQ(n: ~~~0)(l: ~~~5):∀k,k<=l.length->argBest (Gs (n::l)) k<=k/\(n::l).getD (argBest (Gs (n::l)) k) []=fV n (l.take k)
 | 0,_=>#[eA _,rfl]
 |k+1,hk=>by
  let(h0,h1):=sQ n l k (Nat.le_of_succ_le hk);have hlt:k<l.length:=hk;have e:(n::l).getD (k+1) []=l[k]:=by simp[hlt]
  have e2:=List.take_succ_eq_append_getElem hlt;rw[e2,sP,<- h1,<- e];exact (if Gs (n::l) (k+1) (argBest (Gs (n::l)) k)then k+1 else argBest (Gs (n::l)) k)<=k+1/\(n::l).getD (if Gs (n::l) (k+1) (argBest (Gs (n::l)) k)then k+1 else argBest (Gs (n::l)) k) []=_
  split
  . show#[eA _,rfl]
  . show#[Nat.le_succ_of_le h0,rfl]
section
variable{prog:Program}{w:World}{A:Around}{R:Result->Shared->Prop}{I S:Addr}{fp wr:List Addr}{n:Nat}{P:Nat->Value->Prop}{St:Nat->Heap->Prop}{h0:Heap}{bt:Nat->Nat->Bool}
meta abbrev O2(h h':Heap):Prop:=∀b o,h.get? b=!o->h'.get? b=!o
abbrev Ca(prog:Program)(w:World)(A:Around)(h0:Heap)(P:Nat->Value->Prop)(bt:Nat->Nat->Bool):Prop:=
 ∀i j u v (s:Shared) (Q E:Value->Shared->Prop),O2 h0 s.heap->P i u->P j v->Q (.bool (bt i j)) s->wpAny (model prog w) A (richCompare .Lt u v) Q E s
def zP(W:Walks prog w A.in1 I fp wr n P St)(hc:Ca prog w A.in1 h0 P bt)(hS:S∉fp)(hw:∀b o,h0.get? b=!o->b∉wr/\b≠S):∀(k j:Nat) (s:Shared) (v:Value) (c:Nat),n - (j+1)=k->j+1<=n->St (j+1) s.heap->P (argBest bt j) v->O2 h0 s.heap->
   s.heap.get? S=some { cls:=.type "list",dict:=none,data:=.seq ([v,v].toArray) c,slots:=([].toArray)}->(∀u h tk,P (argBest bt (n - 1)) u->O2 h0 h->R (.ok (.ret u)) { s with heap:=h,toks:=tk})->
   codeAny (model prog w) A (.builtin "min.loop" #[[.ref I,.none,.ref S],[]]) R s:=by
 have hSw:S∉wr:=λz=>hS (W.sub _ z)
 have nm:(toString "min" ++ toString ".loop":String) = "min.loop" :=by decide
 intro k
 induction k with
 |zero=>
  intro j s v c hk hj st hp old oS fin;obtain rfl:n=j+1:=by lia
  apply B6 F.entry_min_loop ?_;apply aS (u7 oS rfl ?_);apply aS (wpAny_tryCatch (W.done s _ _ st λh tk kp=>?_))
  apply aS (wpAny_updateSeq (kp S _ hSw oS) rfl (aS (CO (d5 ?_))));show fin v _ tk hp λb o e=>(hU _ _ (mM (hw b o e).2)).trans (kp b o (hw b o e).1 (old b o e))
 |succ k ih=>
  intro j s v c hk hj st hp old oS fin;have hlt:j+1<n:=by lia
  apply B6 F.entry_min_loop ?_;apply aS (u7 oS rfl ?_);apply aS (wpAny_tryCatch (W.item (j+1) s _ _ hlt st λu h tk hu aM kp=>?_))
  have Yh:=kp S _ hSw oS;have Vs:O2 h0 h:=λb o e=>kp b o (hw b o e).1 (old b o e)
  exact wpAny _ _ (tryCatch (holding [u,u] (richCompare .Lt u v >>= _)) _ >>= _) _ _ _;apply aS (wpAny_tryCatch (mE (aS (hc (j+1) (argBest bt j) u v _ _ _ Vs hu hp ?_))));apply aS (mE (nN ?_));apply aS (CO (d5 ?_));cases hb:bt (j+1) (argBest bt j)with
  |true=>
   apply aS (wpAny_updateSeq Yh rfl (aS (CO ?_)));apply d5 #[plainId_quiet CY _,ih (j+1) _ u _ ⋯ hlt (W.frame _ _ _ aM λb hb o e=>?_) (by simp only[argBest,hb];show hu) (λb o e=>?_) (nV _ Yh rfl) fin]
   . show (hU _ _ (λz:S=b=>hS (z▸hb))).trans e
   . show (hU _ _ (mM (hw b o e).2)).trans (Vs b o e)
  |false=>apply aS (CO ?_);show d5 #[plainId_quiet CY _,ih (j+1) _ v c ⋯ hlt aM (by simp only[argBest,hb];show hp) Vs Yh fin]
def wY(W:Walks prog w A.in1 I fp wr n P St)(hc:Ca prog w A.in1 h0 P bt)(hS:S∉fp)(hw:∀b o,h0.get? b=!o->b∉wr/\b≠S)(hn:0<n)(st:St 0 s.heap)(old:O2 h0 s.heap)
  (oS:s.heap.get? S=some { cls:=.type "list",dict:=none,data:=.seq ([].toArray) c,slots:=([].toArray)}) (fin:∀u h tk,P (argBest bt (n - 1)) u->O2 h0 h->R (.ok (.ret u)) { s with heap:=h,toks:=tk}) :
   codeAny (model prog w) A (.builtin "min.loop" #[[.ref I,.none,.ref S],[]]) R s:=by
 have hSw:S∉wr:=λz=>hS (W.sub _ z)
 have nm:(toString "min" ++ toString ".loop":String) = "min.loop" :=by decide
 apply B6 F.entry_min_loop ?_;apply aS (u7 oS rfl ?_);apply aS (wpAny_tryCatch (W.item 0 s _ _ hn st λu h tk hu aM kp=>?_))
 have Yh:=kp S _ hSw oS;exact wpAny _ _ (updateSeq S (λ_=>([u,u].toArray)) >>= _) _ _ _
 apply aS (wpAny_updateSeq Yh rfl ?_);apply d5 #[plainId_quiet CY _,zP W hc hS hw _ 0 _ u _ rfl hn (W.frame _ _ _ aM λb hb o e=>?_) hu (λb o e=>?_) (nV _ Yh rfl) fin]
 . show (hU _ _ (λz:S=b=>hS (z▸hb))).trans e
 . show (hU _ _ (mM (hw b o e).2)).trans (kp b o (hw b o e).1 (old b o e))
def qo
  (h:wpAny (model prog w) A.in1 (pyIter x) (λit t=>∃I fp wr n P St bt,it=.ref I/\Walks prog w A.in1 I fp wr n P St/\St 0 t.heap/\(∀b∈fp,b<t⁻¹)/\0<n/\Ca prog w A.in1 s.heap P bt/\O2 s.heap t.heap/\(∀b o,s.heap.get? b=!o->b∉wr)/\
   ∀v h' tk,P (argBest bt (n - 1)) v->O2 s.heap h'->Q v { t with heap:=h',toks:=tk}) E s) :
  wpAny (model prog w) A (call (.builtin "min") [x]) Q E s:=by
 have nm:(toString "min" ++ toString ".loop":String) = "min.loop" :=by decide
 apply call_function_tree F.kind_min F.plain_min F.entry_min (F.args_min1 _) ?_;apply aS (wpAny_of_eq (show Builtin.Builtins.bindParams "min" ["key", "default"] 0 #[[],[]]=pure [none,none]from rfl) ?_)
 apply aS (d5 ?_);apply aS (l6 h (λit t z=>?_) λ_ _ e=>e)
 let(I,fp,wr,n,P,St,bt,rfl,W,st,hf,hn,hc,old,hw,fin):=z;apply aS (nS ?_);have hS:t⁻¹∉fp:=λz=>nK _ (hf _ z)
 show d5 #[plainId_quiet CY _,wY W hc hS (λb o e=>#[hw b o e,kS (eM (old b o e))]) hn (W.frame _ _ _ st λb _ o e=>dA _ e) (λb o e=>dA _ (old b o e)) (eD _ rfl) fin]
end
section
variable{X:Cx}{z:Z}
def Fb(hc:X.calm=true)(hu:X.A.units+1<cLine):e9 X (.builtin "min") (λxs H Q=>∃(p:Addr) (ys:List V) (n: ~~~0) (l: ~~~5),xs=[.ref p]/\(cg X.K H p ys\/gF X.K H p ys)/\jM X.K H ys (n::l)/\
  ∀i,i<ys.length->(n::l).getD i []=fV n l->Q (ys.getD i .non) H):=by
 intro aj s σ H xs us Q I r h;let(p,ys,n,l,rfl,hp,ht,q):=h;let(u,rfl,rx):=vals1 r;cases rx;have hh:X.A.in1.handled=none:=I.ok.hd hc;have cmp:∀aA:List Value,Vals ys aA->Ca X.prog X.w X.A.in1 s.heap (λi v=>aA.toArray[i]?=!v) (Gs (n::l)):=λaA rv=>by
  intro i j u v s' Q E old hi hj hQ;have t:=ht.real I rv;have hi:aA[i]?=!u:=by simpa using hi
  have hj:aA[j]?=!v:=by simpa using hj
  have li:=(dE.mp hi).1;have lj:=(dE.mp hj).1;let(a,a2,ea,ta,ia):=(t.at li).keep old;let(b,b2,eb,tb,ib):=(t.at lj).keep old;rw[gL,hi]at ea;rw[gL,hj]at eb;obtain rfl:u=.ref a:=ea;obtain rfl:v=.ref b:=eb;show HT.pH ta tb ia ib hu hQ
 have fin:∀(aA:List Value) (v:Value) (h':Heap) (tk:Nat),Vals ys aA->aA.toArray[argBest (Gs (n::l)) (aA.toArray.size - 1)]?=!v->O2 s.heap h'->EP X aj σ Q v { s with heap:=h',toks:=tk}:=λaA v h' tk rv hv hk=>by
  have hl:aA.length=l.length+1:=(ht.real I rv).length;let(b1,b2):=sQ n l l.length (eA _);rw[List.take_length]at b2;rw[dL,hl]at hv;have hv:aA[argBest (Gs (n::l)) l.length]?=!v:=by simpa using hv
  have hy:argBest (Gs (n::l)) l.length<ys.length:=by rw[rv.length];lia
  have rel:=sL rv hy;rw[gL (l:=aA),hv]at rel;show#[_,H,I.kept hk,rel,q _ hy b2]
 have pos:∀aA:List Value,Vals ys aA->0<aA.toArray.size:=λaA rv=>by rw[dL,(ht.real I rv).length];show Nat.succ_pos _
 have ow:∀(b:Addr) (o:Obj),s.heap.get? b=!o->b∉[s⁻¹]:=λb o e hm=>by
  have:b=s⁻¹:=by simpa using hm
  show absurd (eM e) (by rw[this];show nK _)
 have fpl:∀{hlt:p<s⁻¹}{o:Obj},∀b∈[s⁻¹,p],b<(s.heap.push o).objs.size:=λ{hlt o} b hb=>by
  rw[qS];simp only[dS,l9,A7]at hb;rcases hb with rfl |rfl
  . show pE _
  . show AZ hlt
 rcases hp with hp |hp
 .
  let(aA,rv,pl,hz):=I.list hp;have hlt:p<s⁻¹:=by let(_,e,_):=pl.isList;show eM e
  apply qo (AY pl.isList ?_);show#[s⁻¹,_,_,_,_,_,_,rfl,Walks.list hh s⁻¹ p (kS hlt) aA.toArray,#[#[_,eD _ rfl,rfl,rfl],pl.isList.push _],fpl (hlt:=hlt),pos aA rv,cmp aA rv,λb o e=>dA _ e,ow,λv h' tk hP hk=>fin aA v h' tk rv hP hk]
 .
  let(aA,rv,pl,hz):=I.tuple hp;have hlt:p<s⁻¹:=by let(_,e,_):=pl;show eM e
  have Z2:=pl;apply qo (x5 Z2 ?_);show#[s⁻¹,_,_,_,_,_,_,rfl,Walks.tuple hh s⁻¹ p (kS hlt) aA.toArray,#[#[_,eD _ rfl,rfl,rfl],IsTup.keeps Z2 λb o e=>dA _ e],fpl (hlt:=hlt),pos aA rv,cmp aA rv,λb o e=>dA _ e,ow,λv h' tk hP hk=>fin aA v h' tk rv hP hk]
def O4(hc:X.calm=true)(hu:X.A.units+1<cLine)(hK:z.K=X.K)(h:bV d=!l)(hi:lq l=!(n::ns)):CallD X z (.builtin "min") [d] (.dat (.tup ((fV n ns).map .int))):=by
 apply#[_,Fb hc hu,λg σ As M H vs Q s p k=>?_]
 let(v,rfl,pv):=p.one;have main:∀(a:Addr) (xs:List V),aJ z.K M H l xs->(cg X.K H a xs\/gF X.K H a xs)->∃(p:Addr) (ys:List V) (n: ~~~0) (l: ~~~5),[V.ref a]=[.ref p]/\(cg X.K H p ys\/gF X.K H p ys)/\jM X.K H ys (n::l)/\∀i,i<ys.length->(n::l).getD i []=fV n l->Q (ys.getD i .non) H:=λa xs rr hq=>by
  let(t1,t2,t3):=sN rr hi;apply#[a,xs,n,ns,rfl,hq,hK▸t1,λi hl e=>?_]
  have hd:i<l.length:=by rw[rr.length];show hl
  let(v,e1,e2):=rr.get (i:=i) (d:=l[i]) (by simp[hd])
  have q1:l[i]=.tup ((fV n ns).map .int):=by
   have hn:i<(n::ns).length:=by rw[t3,eJ]at hd;show hd
   rw[<- e,gL,lS hn];simp only[t3,List.getElem_map];rfl
  have q2:xs.getD i .non=v:=by rw[gL,e1];rfl
  rw[q2];show k _ _ As M s (au.refl _ _) (q1▸e2)
 cases d with
 |lst m=>symm;let(a,xs,rfl,e1,e2):=pv.list;show main a xs e2 (.inl (cg.of e1))
 |tup m=>symm;let(a,xs,rfl,e1,e2):=pv.tup;show main a xs e2 (.inr (hK▸e1.sq))
 |fix m=>symm;let(a,xs,rfl,e1,e2):=pv.fix;show main a xs e2 (.inl (hK▸e1.sq))
 |_=>symm
end
inductive Bl where
 |len |list |tuple |max |min |str |all |sorted |sum |any |int
 deriving DecidableEq
inductive Mt where
 |count |index
 deriving DecidableEq
set_option genInjectivity false in
inductive Ex where
 |val (d:D) |slot (i:Nat)
 |bin (op:Operator) (a b:Ex) |cmp (op:CmpOp) (a b:Ex) |chain (a:Ex) (ops:List CmpOp) (l:List Ex)
 |neg (a:Ex) |not (a:Ex) |and (l:List Ex) |or (l:List Ex) |ite (c a b:Ex)
 |tup (l:List Ex) |lst (l:List Ex)
 |ix (a b:Ex) |slice (a:Ex) (lo hi:Option Ex)
 |call (f:Nat) (l:List Ex) |blt (b:Bl) (l:List Ex) |wZ (a:Ex) (n:String) |JN (a:Ex) (ns:List String)
 |comp (n k:Nat) (T:Tg) (it:Ex) (c:Option Ex) (e:Ex)
 |gI (n k:Nat) (T1:Tg) (rq:Ex) (c1:Option Ex) (T:Tg) (it:Ex) (c:Option Ex) (e:Ex)
 |bK (a:Ex) |iZ (a b:Ex) |xg (a:Ex)
 |enum (a:Ex) |zip (a b:Ex) |meth (m:Mt) (o e:Ex)
 |rev (a:Ex) |emp |stk |peek (e:Ex)
 |j7 (f ir:Nat) (ca:List Addr) (e:Ex) |sS (a:Ex) (l:List (Addr×Bool)) |refs (f ir:Nat) (ca:List Addr) (es:List Ex)
 |append (i:Nat) (e:Ex) |extend (i:Nat) (e:Ex) |sU (i:Nat) (e:Ex)
set_option genInjectivity false in
inductive Sm where
 |ret (e:Ex) |expr (e:Ex) |set (i:Nat) (e:Ex) |setC (i:Nat) (e:Ex) |tgt (T:Tg) (e:Ex) |item (i:Nat) (j e:Ex)
 |ite (c:Ex) (a b:List Sm) |loop (T:Tg) (it:Ex) (b:List Sm) |while (c:Ex) (b:List Sm) |raise (ci:Nat) (e:Ex) |calls (ic:Nat) (x:Ex) (op:CmpOp) (rhs:Ex) (ret:Bool) (b:List Sm) |rows (im it iy ia ib:Nat) |stuck
structure Fx where
 np:Nat
 n:Nat
 body:List Sm
abbrev Tg.j8:Tg->Bool
 |.tp _=>true
 |.nm _=>false
abbrev JQ(i j:Int):Bool:=(decide (-(2 ^ 64)<i)&&decide (i<2 ^ 64))||(decide (-(2 ^ 64)<j)&&decide (j<2 ^ 64))
abbrev lim:Nat:=16777216
abbrev lA{α:Type}(f:Int->Int->Option α)(a b:D):Option α:=match a with
 |.int i=>(match b with |.int j=>f i j |_=>none)
 |_=>none
abbrev Fc(a b:D):Option R:=match a with
 |.int i=>(match b with |.int j=>!(.dat (.int (i+j))) |_=>none)
 |.lst l=>(match b with |.lst m=>if l.length+m.length<=lim then some (.new (l++m))else none |_=>none)
 |.tup l=>(match b with |.tup m=>if l.length+m.length<=lim then some (.dat (.tup (l++m)))else none |_=>none)
 |_=>none
abbrev JR(a:D)(k:Int):Option R:=match a with
 |.int i=>if JQ i k=true then some (.dat (.int (i * k)))else none
 |.lst l=>if -(2 ^ 63)<=k/\k<2 ^ 63/\l.length * k.toNat<=lim then some (.new (List.replicate k.toNat l).flatten)else none
 |_=>none
abbrev mO(op:Operator)(a b:D):Option R:=match op with
 |.Add=>Fc a b
 |.Sub=>lA (λi j=>!(.dat (.int (i - j)))) a b
 |.Mult=>(match b with |.int k=>JR a k |_=>none)
 |.FloorDiv=>lA (λi j=>if 0<j/\j<1073741824 then some (.dat (.int (i / j)))else none) a b
 |.Mod=>lA (λi j=>if 0<j then some (.dat (.int (i % j)))else none) a b
 |.Pow=>lA (λi j=>if 0<=j/\j<=1000/\i.natAbs<2 ^ 64 then some (.dat (.int (i ^ j.toNat)))else none) a b
 |.LShift=>lA (λi j=>if 0<=j/\j<=1000/\i.natAbs<2 ^ 64 then some (.dat (.int (i * 2 ^ j.toNat)))else none) a b
 |_=>none
abbrev iQ(d1 d2:D):Bool:=jD d1&&jD d2&&decide (dep d1<=190)
abbrev oA(d1:D)(l:List D):Bool:=jD d1&&ig l&&decide (deps l<=190)
abbrev ltF(a b:D):Option Bool:=match a with
 |.int i=>(match b with |.int j=>!(decide (i<j)) |_=>none)
 |.tup l=>(match b with |.tup m=>(match cK l with |some ns=>(match cK m with |some ms=>!(HT.lexLt ns ms) |none=>none) |none=>none) |_=>none)
 |_=>none
abbrev fS(op:CmpOp)(d1 d2:D):Option Bool:=match op with
 |.Eq=>if iQ d1 d2=true then some (cH d1 d2)else none
 |.NotEq=>if iQ d1 d2=true then some ((not (cH d1 d2)))else none
 |.Lt=>ltF d1 d2
 |.LtE=>lA (λi j=>!(decide (i<=j))) d1 d2
 |.Gt=>lA (λi j=>!(decide (i > j))) d1 d2
 |.GtE=>lA (λi j=>!(decide (i ≥ j))) d1 d2
 |.In=>(match bV d2 with |some l=>if oA d1 l=true then some (l.any λd=>cH d d1)else none |none=>none)
 |.NotIn=>(match bV d2 with |some l=>if oA d1 l=true then some ((not (l.any λd=>cH d d1)))else none |none=>none)
 |_=>none
abbrev uL:D->D->Option D
 |.lst l,.int i=>gD l i
 |.fix l,.int i=>gD l i
 |.tup l,.int i=>gD l i
 |.Dr ks ds,.tup l=>(match cK l with |some n=>atL ks ds n |none=>none)
 |_,_=>none
abbrev Vt(b:Bl)(d:D):Option R:=match b with
 |.len=>(match ZK d with |some n=>!‹n› |none=>none)
 |.list=>(match bV d with |some l=>!(.new l) |none=>none)
 |.tuple=>(match bV d with |some l=>!(.dat (.tup l)) |none=>none)
 |.min=>(match bV d with |some l=>(match cK l with |!(n::ns)=>!(.dat (.int (lu n ns))) |_=>(match lq l with |!(n::ns)=>!(.dat (.tup ((fV n ns).map .int))) |_=>none)) |none=>none)
 |.all=>(match d with |.lst l=>(match wj l with |some bs=>!(.dat (.bl (bs.all id))) |none=>none) |_=>none)
 |.sorted=>(match bV d with |some l=>(match cK l with |some ns=>if ns.length<64 then some (.new ((eE ns).map .int))else none |none=>match lq l with |some eL=>if eL.length<64 then some (.new ((bQ bW eL).map λns=>.tup (ns.map .int)))else none |none=>none) |none=>none)
 |_=>none
abbrev bl2(b:Bl)(d e:D):Option R:=match b with
 |.max=>lA (λi j=>!(.dat (.int (if j > i then j else i)))) d e
 |.min=>lA (λi j=>!(.dat (.int (if j<i then j else i)))) d e
 |_=>none
abbrev qq(b:Bl)(ds:List D):Option R:=match ds with
 | [d]=>Vt b d
 | [d,e]=>bl2 b d e
 |_=>none
abbrev mtF:Mt->D->D->Option D
 |.count,_,_=>none
 |.index,d0,d1=>match bV d0 with |some l=>if oA d1 l=true then (match zq d1 l with |some j=>!(.int j) |none=>none)else none |none=>none
abbrev gw(t n:String):Bool:=t==n||(t == "bool" && n == "int")
abbrev isW:Ex->Bool
 |.bK _=>true
 |.iZ _ _=>true
 |.enum _=>true
 |.zip _ _=>true
 |_=>false
structure Rn where
 e:List Nat->Nat->Ex->G->Option (R×G)
 t:List Nat->Nat->Ex->G->Option (Bool×G)
 b:List Nat->Nat->List Sm->G->Option (Fl×G)
 x:List Nat->Nat->Ex->G->Option (Nat×G)
 xt:List Nat->Nat->Ex->G->Option (Nat×G)
 xb:List Nat->Nat->List Sm->G->Option (Nat×G)
abbrev toD(bor:List Nat):R->G->Option (D×G)
 |.dat d,g=>!(d,g)
 |.new l,g=>!(.lst l,g)
 |.var i,g=>if i∈bor then none else match g[i]? with |!(.own l)=>!(.lst l,g.set i (.dat (.lst l))) |_=>none
abbrev norm:R->R
 |.new l=>.dat (.lst l)
 |.dat d=>.dat d
 |.var i=>.var i
section
variable(rn:Rn)(bor:List Nat)(k:Nat)
abbrev gJ(e:Ex)(g:G):Option (D×G):=match rn.e bor k e g with
 |!(r,g1)=>toD bor r g1
 |none=>none
abbrev qu:List Ex->G->Option (List D×G)
 | [],g=>!([],g)
 |e::es,g=>match gJ rn bor k e g with
  |!(d,g1)=>match qu es g1 with
   |!(ds,g2)=>!(d::ds,g2)
   |none=>none
  |none=>none
abbrev argsR:List Ex->G->Option (List R×G)
 | [],g=>!([],g)
 |e::es,g=>match rn.e bor k e g with
  |!(r,g1)=>match argsR es g1 with
   |!(rs,g2)=>!(norm r::rs,g2)
   |none=>none
  |none=>none
abbrev Vu:D->List CmpOp->List Ex->G->Option (Bool×G)
 |d1,[op],[b],g=>match gJ rn bor k b g with
  |!(d2,g1)=>match fS op d1 d2 with |some c=>!(c,g1) |none=>none
  |none=>none
 |d1,op::op'::ops,b::b'::bs,g=>match gJ rn bor k b g with
  |!(d2,g1)=>match fS op d1 d2 with
   |some true=>Vu d2 (op'::ops) (b'::bs) g1
   |some false=>!(false,g1)
   |none=>none
  |none=>none
 |_,_,_,_=>none
abbrev JT:List Ex->G->Option (R×G)
 | [],_=>none
 | [a],g=>rn.e bor k a g
 |a::b::l,g=>match rn.e bor k a g with
  |!(.dat (.bl true),g1)=>JT (b::l) g1
  |!(.dat (.bl false),g1)=>!(.dat (.bl false),g1)
  |_=>none
abbrev orF:List Ex->G->Option (R×G)
 | [],_=>none
 | [a],g=>rn.e bor k a g
 |a::b::l,g=>match rn.e bor k a g with
  |!(.dat (.bl false),g1)=>orF (b::l) g1
  |!(.dat (.bl true),g1)=>!(.dat (.bl true),g1)
  |_=>none
abbrev xh:List Ex->G->Option (Bool×G)
 | [],_=>none
 | [a],g=>rn.t bor k a g
 |a::b::l,g=>match rn.t bor k a g with
  |!(true,g1)=>xh (b::l) g1
  |!(false,g1)=>!(false,g1)
  |none=>none
abbrev JV:List Ex->G->Option (Bool×G)
 | [],_=>none
 | [a],g=>rn.t bor k a g
 |a::b::l,g=>match rn.t bor k a g with
  |!(false,g1)=>JV (b::l) g1
  |!(true,g1)=>!(true,g1)
  |none=>none
abbrev Cb:Option Ex->G->Option (Option Int×G)
 |none,g=>!(none,g)
 |!e,g=>match gJ rn bor k e g with
  |!(.int i,g1)=>!(!i,g1)
  |_=>none
abbrev O5(j:Int):Bool:=decide (-(2 ^ 62)<=j)&&decide (j<2 ^ 62)
abbrev dJ(tp:Bool)(it:Ex)(g:G):Option (List D×G):=match it with
 |.bK a=>match gJ rn bor k a g with
  |!(.int j,g1)=>if O5 j=true then some (cF 0 j.toNat,g1)else none
  |_=>none
 |.iZ a b=>match gJ rn bor k a g with
  |!(.int c,g1)=>match gJ rn bor k b g1 with
   |!(.int j,g2)=>if O5 c=true/\O5 j=true then some (cF c (j - c).toNat,g2)else none
   |_=>none
  |_=>none
 |.zip a b=>if tp=true then match qu rn bor k [a,b] g with
  |!([d1,d2],g1)=>match bV d1,bV d2 with |!l,!m=>if isTup d1=isTup d2 then some (uI l m,g1)else none |_,_=>none
  |_=>none
  else none
 |.enum a=>if tp=true then match gJ rn bor k a g with
  |!(d,g1)=>match bV d with |some l=>!(nL l,g1) |none=>none
  |none=>none
  else none
 |e=>match gJ rn bor k e g with
  |!(.tup l,g1)=>!(l,g1)
  |!(.lst l,g1)=>!(l,g1)
  |!(.fix l,g1)=>!(l,g1)
  |_=>none
abbrev qw:Option Ex->G->Option (Bool×G)
 |none,g=>!(true,g)
 |!c,g=>rn.t bor k c g
abbrev xm(T:Tg)(last:Nat)(c:Option Ex)(e:Ex):List D->G->Option G
 | [],g=>!g
 |d::l,g=>match T.set d g with
  |none=>none
  |some g1=>match qw rn bor k c g1 with
   |none=>none
   |!(false,g2)=>xm T last c e l g2
   |!(true,g2)=>match gJ rn bor k e g2 with
    |none=>none
    |!(x,g3)=>match g3[last]? with
     |!(.own acc)=>if acc.length<lim then xm T last c e l (g3.set last (.own (acc++[x])))else none
     |_=>none
abbrev cz(n kk:Nat)(T:Tg)(it:Ex)(c:Option Ex)(e:Ex)(g:G):Option (List D×G):=match dJ rn bor k T.j8 it g with
 |none=>none
 |!(ak,g1)=>if g1.length=n/\(T.ix.any λi=>decide (i∈bor))=false then match xm rn bor k T (n+kk) c e ak (gC kk g1)with
   |none=>none
   |some gE=>match gE[n+kk]? with
    |!(.own acc)=>!(acc,gE.take n)
    |_=>none
  else none
abbrev xq(T1:Tg)(c1:Option Ex)(T:Tg)(it:Ex)(c:Option Ex)(e:Ex)(last:Nat):List D->G->Option G
 | [],g=>!g
 |d::l,g=>match T1.set d g with
  |none=>none
  |some g1=>match qw rn bor k c1 g1 with
   |none=>none
   |!(false,g2)=>xq T1 c1 T it c e last l g2
   |!(true,g2)=>match dJ rn bor k T.j8 it g2 with
    |none=>none
    |!(ak,g3)=>match xm rn bor k T last c e ak g3 with
     |none=>none
     |some g4=>xq T1 c1 T it c e last l g4
abbrev j9(n kk:Nat)(T1:Tg)(rq:Ex)(c1:Option Ex)(T:Tg)(it:Ex)(c:Option Ex)(e:Ex)(g:G):Option (List D×G):=match dJ rn bor k T1.j8 rq g with
 |none=>none
 |!(ak,g1)=>if g1.length=n/\((T1.ix++T.ix).any λi=>decide (i∈bor))=false then match xq rn bor k T1 c1 T it c e (n+kk) ak (gC kk g1)with
   |none=>none
   |some gE=>match gE[n+kk]? with
    |!(.own acc)=>!(acc,gE.take n)
    |_=>none
  else none
abbrev aR(fx:Fx)(k':Nat)(rs:List R)(g1:G):Option (R×G):=
 if rs.length=fx.np/\((vars 0 rs).map (·.2)).Nodup then match cL rs g1 with
  |none=>none
  |some gs=>match rn.b ((vars 0 rs).map (·.1)) k' fx.body (dG fx.n gs)with
   |!(.rt r,gc)=>match back (vars 0 rs) gc g1 with
    |some gO=>match dF ((vars 0 rs).map (·.1)) gc r with |some r'=>!(r',gO) |none=>none
    |none=>none
   |!(.nx,gc)=>match back (vars 0 rs) gc g1 with
    |some gO=>!(.dat .non,gO)
    |none=>none
   |_=>none
 else none
abbrev JW(fns:List Fx)(f ir:Nat)(ca:List Addr)(e:Ex)(g:G):Option D:=match fns[f]?,k with
 |!fx,k'+2=>match rn.x [] k' e (g.map noOwn)with
  |!(ci,_)=>match ca[ci]? with
   |some C=>match rn.b [] k' (fx.body.drop 2) ((List.replicate fx.n .no).set ir (.dat (.nq C)))with
    |!(.rt r,g3)=>match dF [] g3 r with |some r'=>asD r' |none=>none
    |_=>none
   |none=>none
  |none=>none
 |_,_=>none
abbrev xu(fns:List Fx)(f ir:Nat)(ca:List Addr):List Ex->G->Option (List D)
 | [],_=>![]
 |e::es,g=>match JW rn k fns f ir ca e g with
  |some d=>match xu fns f ir ca es g with |some ds=>!(d::ds) |none=>none
  |none=>none
abbrev bq(fns:List Fx)(e:Ex)(g:G):Option (R×G):=match e with
 |.val d=>!(.dat d,g)
 |.slot i=>match g[i]? with |!(.dat d)=>!(.dat d,g) |!(.own _)=>!(.var i,g) |_=>none
 |.bin op a b=>match argsR rn bor k [a,b] g with
  |!([r1,r2],g2)=>match pk r1 g2,pk r2 g2 with
   |!d1,!d2=>match mO op d1 d2 with |some r=>!(r,g2) |none=>none
   |_,_=>none
  |_=>none
 |.cmp op a b=>match argsR rn bor k [a,b] g with
  |!([r1,r2],g2)=>match pk r1 g2,pk r2 g2 with
   |!d1,!d2=>match fS op d1 d2 with |some c=>!(.dat (.bl c),g2) |none=>none
   |_,_=>none
  |_=>none
 |.chain a ops l=>match gJ rn bor k a g with
  |!(d1,g1)=>match Vu rn bor k d1 ops l g1 with |!(c,g2)=>!(.dat (.bl c),g2) |none=>none
  |none=>none
 |.neg a=>match gJ rn bor k a g with |!(.int i,g1)=>!(.dat (.int (-i)),g1) |_=>none
 |.not a=>match rn.e bor k a g with |!(.dat (.bl c),g1)=>!(.dat (.bl ((not c))),g1) |_=>none
 |.and l=>JT rn bor k l g
 |.or l=>orF rn bor k l g
 |.ite c a b=>match rn.t bor k c g with
  |!(true,g1)=>rn.e bor k a g1
  |!(false,g1)=>rn.e bor k b g1
  |none=>none
 |.tup l=>match qu rn bor k l g with |!(ds,g1)=>if ds.length<=lim then some (.dat (.tup ds),g1)else none |none=>none
 |.lst l=>match qu rn bor k l g with |!(ds,g1)=>if ds.length<=lim then some (.new ds,g1)else none |none=>none
 |.ix a b=>match argsR rn bor k [a,b] g with
  |!([r1,r2],g2)=>match pk r1 g2,pk r2 g2 with
   |!d1,!d2=>match uL d1 d2 with |some d=>!(.dat d,g2) |none=>none
   |_,_=>none
  |_=>none
 |.slice a lo hi=>match rn.e bor k a g with
  |!(r,g1)=>match Cb rn bor k lo g1 with
   |!(i,g2)=>match Cb rn bor k hi g2 with
    |!(j,g3)=>match norm r with
     |.dat (.tup l)=>!(.dat (.tup (j4 l i j)),g3)
     |.dat (.fix l)=>!(.new (j4 l i j),g3)
     |r'=>match pk r' g3 with |!(.lst l)=>!(.new (j4 l i j),g3) |_=>none
    |none=>none
   |none=>none
  |none=>none
 |.call f l=>match fns[f]?,k with
  |!fx,k'+1=>match argsR rn bor k l g with
   |!(rs,g1)=>aR rn fx k' rs g1
   |none=>none
  |_,_=>none
 |.blt b l=>match argsR rn bor k l g with
  |!(rs,g1)=>match v9 rs g1 with
   |some ds=>match qq b ds with |some r=>!(r,g1) |none=>none
   |none=>none
  |none=>none
 |.wZ a n=>match rn.e bor k a g with
  |!(r,g1)=>match pk (norm r) g1 with |some d=>!(.dat (.bl (gw (lZ d) n)),g1) |none=>none
  |none=>none
 |.JN a ns=>match rn.e bor k a g with
  |!(r,g1)=>match pk (norm r) g1 with |some d=>!(.dat (.bl (ns.any (gw (lZ d)))),g1) |none=>none
  |none=>none
 |.comp n kk T it c e=>match cz rn bor k n kk T it c e g with |!(acc,g1)=>!(.new acc,g1) |none=>none
 |.gI n kk T1 rq c1 T it c e=>match j9 rn bor k n kk T1 rq c1 T it c e g with |!(acc,g1)=>!(.new acc,g1) |none=>none
 |.rev a=>match rn.e bor k a g with
  |!(r,g1)=>match norm r with
   |.dat (.tup l)=>!(.dat (.tup l.reverse),g1)
   |r'=>match pk r' g1 with |!(.lst l)=>!(.new l.reverse,g1) |_=>none
  |none=>none
 |.emp=>!(.dat .emp,g)
 |.stk=>none
 |.peek e=>if bor.isEmpty=true then match rn.e [] k e (g.map fT)with |!(.dat d,_)=>if flat d=true then some (.dat d,g)else none |_=>none else none
 |.refs f ir ca es=>match xu rn k fns f ir ca es g with |some ds=>!(.new ds,g) |none=>none
 |.j7 f ir ca e=>match fns[f]?,k with
  |!fx,k'+2=>match rn.x [] k' e (g.map noOwn)with
   |!(ci,_)=>match ca[ci]? with
    |some C=>match rn.b [] k' (fx.body.drop 2) ((List.replicate fx.n .no).set ir (.dat (.nq C)))with
     |!(.rt r,g3)=>match dF [] g3 r with |some r'=>!(r',g) |none=>none
     |_=>none
    |none=>none
   |none=>none
  |_,_=>none
 |.sS a l=>match rn.e bor k a g with
  |!(r,g1)=>match pk (norm r) g1 with
   |!(.nq C)=>match l.lookup C with |some b=>!(.dat (.bl b),g1) |none=>none
   |some .non=>!(.dat (.bl false),g1)
   |_=>none
  |none=>none
 |.append i e=>match g[i]? with
  |!(.own _)=>match gJ rn bor k e g with
   |!(d,g1)=>match g1[i]? with |!(.own l)=>if l.length<lim then some (.dat .non,g1.set i (.own (l++[d])))else none |_=>none
   |none=>none
  |_=>none
 |.extend i e=>match g[i]? with
  |!(.own _)=>match gJ rn bor k e g with
   |!(.lst m,g1)=>match g1[i]? with |!(.own l)=>if l.length+m.length<=lim then some (.dat .non,g1.set i (.own (l++m)))else none |_=>none
   |_=>none
  |_=>none
 |.sU i e=>match g[i]? with
  |!(.own _)=>match gJ rn bor k e g with
   |!(.int j,g1)=>match g1[i]? with
    |!(.own l)=>match uf l.length j with
     |some n=>match l[n]? with |some d=>if l.length<lim then some (.dat d,g1.set i (.own (l.eraseIdx n)))else none |none=>none
     |none=>none
    |_=>none
   |_=>none
  |_=>none
 |.bK _=>none
 |.iZ _ _=>none
 |.enum _=>none
 |.zip _ _=>none
 |.meth m o e=>match rn.e bor k o g with
  |!(r0,g1)=>match pk (norm r0) g1 with
   |some d=>match bV d with
    |some _=>match rn.e bor k e g1 with
     |!(r1,g2)=>match pk (norm r0) g2,pk (norm r1) g2 with
      |!d0,!d1=>match mtF m d0 d1 with |some x=>!(.dat x,g2) |none=>none
      |_,_=>none
     |none=>none
    |none=>none
   |none=>none
  |none=>none
 |.xg a=>match gJ rn bor k a g with
  |!(.int j,g1)=>if O5 j=true/\j.toNat<=lim then some (.new (cF 0 j.toNat),g1)else none
  |_=>none
abbrev stepT(e:Ex)(g:G):Option (Bool×G):=match e with
 |.cmp op a b=>match argsR rn bor k [a,b] g with
  |!([r1,r2],g2)=>match pk r1 g2,pk r2 g2 with
   |!d1,!d2=>match fS op d1 d2 with |some c=>!(c,g2) |none=>none
   |_,_=>none
  |_=>none
 |.chain a ops l=>match gJ rn bor k a g with
  |!(d1,g1)=>Vu rn bor k d1 ops l g1
  |none=>none
 |.not a=>match rn.t bor k a g with |!(c,g1)=>!((not c),g1) |none=>none
 |.and l=>xh rn bor k l g
 |.or l=>JV rn bor k l g
 |.ite _ _ _=>none
 |e=>match rn.e bor k e g with
  |!(r,g1)=>match pk (norm r) g1 with
   |some d=>match NT d with |some c=>!(c,g1) |none=>none
   |none=>none
  |none=>none
abbrev jO(T:Tg)(b:G->Option (Fl×G)):List D->G->Option (Fl×G)
 | [],g=>!(.nx,g)
 |d::l,g=>match T.set d g with
  |none=>none
  |some g0=>match b g0 with
   |none=>none
   |!(.nx,g1)=>jO T b l g1
   |!(.ct,g1)=>jO T b l g1
   |!(.bk,g1)=>!(.nx,g1)
   |!(.rt r,g1)=>!(.rt r,g1)
abbrev Rv(c:G->Option (Bool×G))(b:G->Option (Fl×G)):Nat->G->Option (Fl×G)
 | 0,_=>none
 |n+1,g=>match c g with
  |none=>none
  |!(false,g1)=>!(.nx,g1)
  |!(true,g1)=>match b g1 with
   |none=>none
   |!(.nx,g2)=>Rv c b n g2
   |!(.ct,g2)=>Rv c b n g2
   |!(.bk,g2)=>!(.nx,g2)
   |!(.rt r,g2)=>!(.rt r,g2)
abbrev aF(st:Sm)(g:G):Option (Fl×G):=match st with
 |.ret e=>match rn.e bor k e g with |!(r,g1)=>!(.rt r,g1) |none=>none
 |.expr e=>match rn.e bor k e g with |!(_,g1)=>!(.nx,g1) |none=>none
 |.set i e=>if i∈bor then none else match rn.e bor k e g with
  |!(.new l,g1)=>if i<g1.length then some (.nx,g1.set i (.own l))else none
  |!(r,g1)=>match toD bor r g1 with |!(d,g2)=>!(.nx,g2.set i (.dat d)) |none=>none
  |none=>none
 |.setC i e=>if i∈bor then none else match e with
  |.comp n kk T it c e=>match cz rn bor k n kk T it c e g with
   |!(acc,g1)=>if i<g1.length then some (.nx,g1.set i (.own acc))else none
   |none=>none
  |.gI n kk T1 rq c1 T it c e=>match j9 rn bor k n kk T1 rq c1 T it c e g with
   |!(acc,g1)=>if i<g1.length then some (.nx,g1.set i (.own acc))else none
   |none=>none
  |_=>none
 |.tgt T e=>if T.ix.any (λi=>decide (i∈bor))=true then none else match gJ rn bor k e g with
  |!(d,g1)=>match T.set d g1 with |some g2=>!(.nx,g2) |none=>none
  |none=>none
 |.item i j e=>match gJ rn bor k e g with
  |!(d,g1)=>match g1[i]? with
   |!(.own _)=>match gJ rn bor k j g1 with
    |!(.int n,g2)=>match g2[i]? with
     |!(.own l)=>match uf l.length n with |some m=>!(.nx,g2.set i (.own (l.set m d))) |none=>none
     |_=>none
    |_=>none
   |_=>none
  |none=>none
 |.ite c a b=>match rn.t bor k c g with
  |!(true,g1)=>rn.b bor k a g1
  |!(false,g1)=>rn.b bor k b g1
  |none=>none
 |.loop T it b=>if T.ix.any (λi=>decide (i∈bor))=true then none else match dJ rn bor k T.j8 it g with
  |!(ak,g1)=>jO T (rn.b bor k b) ak g1
  |none=>none
 |.while c b=>Rv (rn.t bor k c) (rn.b bor k b) 100000 g
 |.raise _ _=>none
 |.calls ic x op rhs ret b=>match g[ic]? with
  |some .no=>match rn.e bor k x g with
   |!(.new ds,_)=>match rn.e bor k rhs g with
    |!(r2,g2)=>match pk (norm r2) g2 with
     |some d2=>match fS op (.lst ds) d2 with
      |some c=>if ret=true then some (.rt (.dat (.bl c)),g2)else if c=true then rn.b bor k b g2 else some (.nx,g2)
      |none=>none
     |none=>none
    |none=>none
   |_=>none
  |_=>none
 |.rows im it iy ia ib=>match g[im]?,g[it]? with
  |!‹m›,!(.dat (.tup ah))=>match g[iy]?,g[ia]?,g[ib]? with
   |some .no,some .no,some .no=>if 0<=m/\m<=1000 then match iY ah (List.replicate m.toNat [])with |some ll=>!(.rt (.dat (.lst (ll.map .lst))),g) |none=>none else none
   |_,_,_=>none
  |_,_=>none
 |.stuck=>none
abbrev cM:List Sm->G->Option (Fl×G)
 | [],g=>!(.nx,g)
 |st::rest,g=>match aF rn bor k st g with
  |!(.nx,g1)=>cM rest g1
  |!(f,g1)=>!(f,g1)
  |none=>none
abbrev xW(it:Ex)(g:G):Option (Nat×G):=if isW it=true then none else rn.x bor k it g
abbrev xArgs:List Ex->G->Option (Nat×G)
 | [],_=>none
 |e::es,g=>match rn.x bor k e g with
  |some r=>!r
  |none=>match rn.e bor k e g with
   |!(_,g1)=>xArgs es g1
   |none=>none
abbrev qz(fx:Fx)(k':Nat)(rs:List R)(g1:G):Option (Nat×G):=
 if rs.length=fx.np/\((vars 0 rs).map (·.2)).Nodup then match cL rs g1 with
  |none=>none
  |some gs=>match rn.xb ((vars 0 rs).map (·.1)) k' fx.body (dG fx.n gs)with
   |!(ci,gc)=>match back (vars 0 rs) gc g1 with |some gO=>!(ci,gO) |none=>none
   |none=>none
 else none
abbrev xx(fns:List Fx)(e:Ex)(g:G):Option (Nat×G):=match e with
 |.call f l=>match xArgs rn bor k l g with
  |some r=>!r
  |none=>match fns[f]?,k with
   |!fx,k'+1=>match argsR rn bor k l g with
    |!(rs,g1)=>qz rn fx k' rs g1
    |none=>none
   |_,_=>none
 |_=>none
abbrev mQ(e:Ex)(g:G):Option (Nat×G):=match e with
 |.not a=>rn.xt bor k a g
 |.call f l=>rn.x bor k (.call f l) g
 |_=>none
abbrev jc(st:Sm)(g:G):Option (Nat×G):=match st with
 |.ret e=>rn.x bor k e g
 |.expr e=>rn.x bor k e g
 |.ite c a b=>match rn.xt bor k c g with
  |some r=>!r
  |none=>match rn.t bor k c g with
   |!(true,g1)=>rn.xb bor k a g1
   |!(false,g1)=>rn.xb bor k b g1
   |none=>none
 |.raise ci e=>match gJ rn bor k e g with |!(_,g1)=>!(ci,g1) |none=>none
 |_=>none
abbrev iB:List Sm->G->Option (Nat×G)
 | [],_=>none
 |st::rest,g=>match jc rn bor k st g with
  |some r=>!r
  |none=>match aF rn bor k st g with
   |!(.nx,g1)=>iB rest g1
   |_=>none
end
abbrev step(fns:List Fx)(rn:Rn):Rn:=#[λbor k e g=>bq rn bor k fns e g,λbor k e g=>stepT rn bor k e g,λbor k l g=>cM rn bor k l g,λbor k e g=>xx rn bor k fns e g,λbor k e g=>mQ rn bor k e g,λbor k l g=>iB rn bor k l g]
abbrev rn0:Rn:=#[λ_ _ _ _=>none,λ_ _ _ _=>none,λ_ _ _ _=>none,λ_ _ _ _=>none,λ_ _ _ _=>none,λ_ _ _ _=>none]
abbrev run(fns:List Fx):Nat->Rn
 | 0=>rn0
 |n+1=>step fns (run fns n)
structure Ct where
 N:List Str
 sc:Scope
 df:Bool
 q:Str
structure Fi where
 name:Str
 qual:Str
 st:Stmt
 N:List Str
 ps:List Str
structure Pg where
 fn:List Fi
 ct:List (Str×D)
 bn:List Str
 cls:List Str:=[]
 lam:Bool:=false
 gZ:List Addr:=[]
 kt:Str:=Str.empty
 ups:List (Str×List (Addr×Bool)):=[]
abbrev jI:Str:= "_law_refusals_right.<locals>.<lambda>"
abbrev JX(K:Frag)(mg:Str->Option Value)(bO:Value):Prop:=
 ∃c q,bO=.ref c/\(∀b:Heap,K.In b->PySem.W.CodeHd b c q)/\(q,jI)∈dz K/\(∀b:Heap,K.In b->b.BuiltinsAt mg q)/\mainGlobals≠q
structure uM(P:Pg)(K:Frag)(mg:Str->Option Value):Prop where
 fn:∀(i:Nat) (fi:Fi),P.fn[i]?=!fi->∃f fd,mg fi.name=!(.ref f)/\LQ K fi.name fi.qual fi.st f fd/\cI fi.N fi.ps (aH fi.st)/\L2.Binds K fd fi.ps []/\(fi.name==(~~~3))=false
 ct:∀(x:Str) (d:D),(x,d)∈P.ct->(x==(~~~3))=false/\∃v u,mg x=!u/\RelV v u/\∀M H,Rep K M H d v
 bn:∀x∈P.bn,mg x=none
 cls:∀x∈P.cls,(x==(~~~3))=false/\∃C,mg x=!(.ref C)/\fU K C
 lam:P.lam=true->∀bO,PySem.W.codeIn K bO "_law_refusals_right"=true->JX K mg bO
 gZ:∀(i:Nat) (C:Addr),P.gZ[i]?=!C->∃x,P.cls[i]?=!x/\mg x=!(.ref C)/\fU K C/\Ht K C
 kt:P.lam=true->(P.kt==(~~~3))=false/\∃D,mg P.kt=!(.ref D)/\fU K D/\∀C∈P.gZ,uK K C D=true
 ups:∀(x:Str) (l:List (Addr×Bool)),(x,l)∈P.ups->(x==(~~~3))=false/\∃cv,((mg x=!cv/\∃D,cv=.ref D)\/(x∈P.bn/\x≠ "__name__" /\bootBuiltins x=!cv/\∃n,cv=.type n))/\PySem.W.kitOne K (.type "NoneType") cv=!false/\∀C b,l.lookup C=!b->PySem.W.kitOne K (.ref C) cv=!b
structure bu(P:Pg)(k:Nat)(X:Cx)(c:Ct):Prop where
 N:X.N=c.N
 nd:c.N.Nodup
 Yi:∀x,c.sc.names.lookup x=some .local->X.env.scope.names.lookup x=some .local
 rz:∀x,c.sc.names.lookup x=some .globalImplicit->Gl X x
 fre:∀x,c.sc.names.lookup x=some .cell\/c.sc.names.lookup x=some .free->X.env.scope.names.lookup x=some .cell\/X.env.scope.names.lookup x=some .free
 cel:c.df=true->∀x,c.sc.names.lookup x=some .cell->X.env.scope.names.lookup x=some .cell
 fn:∀x,c.df=true\/c.sc.names.lookup x=some .local->X.fn x=true
 bk:c.df=true->X.env.blockKind=.function
 calm:X.calm=true
 xe:X.xe=λ_ _=>False
 md:uM P X.K X.mg
 room:cO k X.A
 lam:c.q = "_law_refusals_right" ->P.lam=true->X.env.qual ++ "<lambda>"=jI/\JX X.K X.mg X.env.code
abbrev mR(sc:Scope)(x:Str):Bool:=match sc.names.lookup x with |some .local=>true |some .cell=>true |some .free=>true |_=>false
abbrev eZ(c:Ct)(x:Str):Bool:=match c.sc.names.lookup x with |some .local=>true |some .cell=>c.df |_=>false
abbrev cA(x:Str):Bool:=(not ((x==(~~~3))))&&(not ((x==("__classdict__":Str))))
section
def bu.vis(h:bu P k X c)(hv:mR c.sc x=true):iR X.env.scope x:=by
 delta mR at hv;split at hv
 . ext e;show .inl (h.Yi x e)
 . ext e;show (h.fre x (.inl e)).elim (λq=>.inr (.inl q)) λq=>.inr (.inr q)
 . ext e;show (h.fre x (.inr e)).elim (λq=>.inr (.inl q)) λq=>.inr (.inr q)
 . cases hv
def bu.nm(h:bu P k X c)(hi:c.N[i]?=!x)(hs:eZ c x=true):pY X x i:=by
 apply#[h.N▸h.nd,by rw[h.N];show hi,?_,.inl (h.fn x ?_)]
 .
  delta eZ at hs;split at hs
  . ext e;show .inl (h.Yi x e)
  . ext e;show .inr (h.cel hs x e)
  . cases hs
 .
  delta eZ at hs;split at hs
  . ext e;show .inr e
  . show .inl hs
  . cases hs
def bL(h:cA x=true):(x==(~~~3))=false/\(x==("__classdict__":Str))=false:=by delta cA at h;simp only[eQ,CL]at h;show h
def cT{α:Type}{f:Int->Int->Option α}{a b:D}{r:α}(h:lA f a b=!r):∃i j,a=.int i/\b=.int j/\f i j=!r:=by
 delta lA at h;split at h
 .
  split at h
  . show#[_,_,rfl,rfl,h]
  . symm
 . symm
def O6{d1 d2:D}{r:R}(hK:z.K=X.K)(h:Fc d1 d2=!r):nB X z (binaryOp .Add) d1 d2 r:=by
 delta Fc at h;split at h
 .
  split at h
  . symm;show Bm Sy
  . symm
 .
  split at h
  .
   split at h
   . ext hc;symm;show Ud hc
   . symm
  . symm
 .
  split at h
  .
   split at h
   . ext hc;symm;show Nm hK hc
   . symm
  . symm
 . symm
def O7{d1:D}{k:Int}{r:R}(hK:z.K=X.K)(h:JR d1 k=!r):nB X z (binaryOp .Mult) d1 (.int k) r:=by
 delta JR at h;split at h
 .
  split at h
  . ext hc;symm;apply ux SJ ?_;delta JQ at hc;simp only[AK,eQ,l8]at hc;show hc
  . symm
 .
  split at h
  . ext hc;symm;show Ue hc.1 hc.2.1 hc.2.2
  . symm
 . symm
def Vv(hK:z.K=X.K)(h:mO op d1 d2=!r):nB X z (binaryOp op) d1 d2 r:=by
 cases op with
 |Add=>show O6 hK h
 |Sub=>let(i,j,rfl,rfl,h'):=cT h;cases h';show Bm Sz
 |Mult=>
  dsimp only[mO]at h;split at h
  . show O7 hK h
  . symm
 |FloorDiv=>
  let(i,j,rfl,rfl,h'):=cT h;split at h'
  . ext hc;cases h';show ux Ms hc
  . cases h'
 |Mod=>
  let(i,j,rfl,rfl,h'):=cT h;split at h'
  . ext hc;cases h';show ux SM hc
  . cases h'
 |Pow=>
  let(i,j,rfl,rfl,h'):=cT h;split at h'
  . ext hc;cases h';show ux tZ #[hc.1,by have:=hc.2.1;lia,hc.2.2]
  . cases h'
 |LShift=>
  let(i,j,rfl,rfl,h'):=cT h;split at h'
  . ext hc;cases h';show Vr hc.1 (by have:=hc.2.1;lia) hc.2.2
  . cases h'
 |_=>symm
def ki(hK:z.K=X.K)(hr:cO k X.A)(h:fS op d1 d2=!b):nB X z (compareOp op) d1 d2 (.dat (.bl b)):=by
 have hu:=hr.un;cases op with
 |Eq=>
  dsimp only[fS]at h;split at h
  . ext hc;symm;simp only[iQ,eQ]at hc;show ZC hK hc.1.1 hc.1.2 (by have:=hc.2;lia)
  . symm
 |NotEq=>
  dsimp only[fS]at h;split at h
  . ext hc;symm;simp only[iQ,eQ]at hc;show ZF hK hc.1.1 hc.1.2 (by have:=hc.2;lia)
  . symm
 |Lt=>
  dsimp only[fS,ltF]at h;split at h
  .
   split at h
   . symm;show uy Y0
   . symm
  .
   split at h
   .
    split at h
    .
     ext h1;split at h
     . ext h2;symm;show Uj hK ⋯ h1 h2
     . symm
    . symm
   . symm
  . symm
 |LtE=>let(i,j,rfl,rfl,h'):=cT h;cases h';show uy Y3
 |Gt=>let(i,j,rfl,rfl,h'):=cT h;cases h';show uy Y4
 |GtE=>let(i,j,rfl,rfl,h'):=cT h;cases h';show uy Y5
 |In=>
  dsimp only[fS]at h;split at h
  .
   ext hs;split at h
   . ext hc;symm;simp only[oA,eQ]at hc;show ZJ hK hs hc.1.1 hc.1.2 (by have:=hc.2;lia)
   . symm
  . symm
 |NotIn=>
  dsimp only[fS]at h;split at h
  .
   ext hs;split at h
   . ext hc;symm;simp only[oA,eQ]at hc;show HB hK hs hc.1.1 hc.1.2 (by have:=hc.2;lia)
   . symm
  . symm
 |_=>symm
def Vw(hK:z.K=X.K)(hr:X.A.units+1<cLine)(h:uL d1 d2=!d):XZ X z d1 d2 (.dat d):=by
 delta uL at h;split at h
 . show Uh hK h
 . show Ui hK h
 . show Np hK h
 .
  split at h
  . ext e;show Vq hK hr e h
  . symm
 . symm
abbrev blV:Bl->Str×Value
 |.len=>("len",.builtin "len")
 |.list=>("list",.type "list")
 |.tuple=>("tuple",.type "tuple")
 |.max=>("max",.builtin "max")
 |.min=>("min",.builtin "min")
 |.str=>("str",.type "str")
 |.all=>("all",.builtin "all")
 |.any=>("any",.builtin "any")
 |.int=>("int",.type "int")
 |.sorted=>("sorted",.builtin "sorted")
 |.sum=>("sum",.builtin "sum")
def Vx{b:Bl}{d:D}{r:R}(hK:z.K=X.K)(hc:X.calm=true)(hr:X.A.units+6<cLine)(h:Vt b d=!r):CallD X z (blV b).2 [d] r:=by
 cases b <;> dsimp only[Vt]at h
 case len=>
  split at h
  . ext e;symm;show Ul hK e
  . symm
 case list=>
  split at h
  . ext e;symm;show Nq hK e
  . symm
 case tuple=>
  split at h
  . ext e;symm;show HF hK e
  . symm
 case min=>
  split at h
  .
   ext e1;split at h
   . ext e2;symm;show Og hc hK e1 e2
   .
    split at h
    . ext e3;symm;show O4 hc ⋯ hK e1 e3
    . symm
  . symm
 case all=>
  split at h
  .
   split at h
   . ext e;symm;show Up hc e
   . symm
  . symm
 case sorted=>
  split at h
  .
   ext e1;split at h
   .
    ext e2;split at h
    . ext e3;symm;show Eb hK e1 e2 e3
    . symm
   .
    split at h
    .
     ext e2;split at h
     . ext e3;symm;show zo hK e1 e2 e3
     . symm
    . symm
  . symm
 all_goals symm
def Vy{b:Bl}{ds:List D}{r:R}(hK:z.K=X.K)(hc:X.calm=true)(hr:X.A.units+6<cLine)(h:qq b ds=!r):CallD X z (blV b).2 ds r:=by
 delta qq at h;split at h
 . show Vx hK hc hr h
 .
  cases b with
  |max=>let(i,j,rfl,rfl,h'):=cT h;cases h';show Um hc
  |min=>let(i,j,rfl,rfl,h'):=cT h;cases h';show Uo hc
  |_=>symm
 . symm
abbrev mtNm:Mt->Str
 |.count=> "count"
 |.index=> "index"
abbrev zQ:Mt->D->String
 |.count,d=>Z3 d
 |.index,d=>Rl d
def Vz{m:Mt}{d0 d1 x:D}(hK:z.K=X.K)(hr:cO k X.A)(h:mtF m d0 d1=!x):Je X z (zQ m d0) d0 d1 (.dat x):=by
 have hu:=hr.un;delta mtF at h;split at h
 . symm
 .
  split at h
  .
   ext hs;split at h
   .
    ext hc;split at h
    . ext hj;symm;simp only[oA,eQ]at hc;show Jg hK hs hc.1.1 hc.1.2 (by have:=hc.2;lia) hj
    . symm
   . symm
  . symm
def O8(hs:bV d=!l)(he:zQ m d0=zQ m d):PlainAttrs (lZ d)/\PySem.Slot (lZ d) (mtNm m) (zQ m d0)/\typeOf (.builtin (zQ m d0))=pure (.type "method_descriptor"):=by
 rw[he];cases d with
 |tup _=>cases m;show#[F.plainAttrs_tuple,F.slot_tuple_count,F.type_tuple_count];show#[F.plainAttrs_tuple,F.slot_tuple_index,F.type_tuple_index]
 |lst _=>cases m;show#[CS,F.slot_list_count,F.type_list_count];show#[CS,CM,F.type_list_index]
 |fix _=>cases m;show#[CS,F.slot_list_count,F.type_list_count];show#[CS,CM,F.type_list_index]
 |_=>cases hs
def O9(h1:pk r g1=!d)(h2:pk r g2=!d0):zQ m d0=zQ m d:=by
 cases r with
 |dat x=>cases h1;cases h2;rfl
 |new _=>cases h1
 |var i=>
  delta pk at h1 h2;have key:∀{g:G}{d:D},(match g[i]? with |!(.own l)=>!(D.lst l) |!(.dat (.lst l))=>!(.lst l) |_=>none)=!d->∃l,d=.lst l:=λ{g d} h=>by
   split at h
   . symm;show#[_,rfl]
   . symm;show#[_,rfl]
   . symm
  let(l1,rfl):=key h1;let(l2,rfl):=key h2;cases m <;> rfl
abbrev uN:List String:=["int", "bool", "str", "tuple", "list", "dict"]
def xA{K:Frag}{M:List Addr}{H:Hp}{v:V}{d:D}(p:Pk K M H d v){n:String}(hn:n∈uN):PySem.W.kitOne K (Gk d) (.type n)=!(gw (lZ d) n):=by
 cases d with
 |nq C=>
  cases p with
  |of q=>
   cases q with
   |nq k _ _=>apply (k.kit n hn).trans ?_;delta uN at hn;simp only[dS,l9,A7]at hn;rcases hn with rfl |rfl |rfl |rfl |rfl |rfl <;> first |rfl |decide
 |_=>delta uN at hn;simp only[dS,l9,A7]at hn;rcases hn with rfl |rfl |rfl |rfl |rfl |rfl <;> first |rfl |decide
def sV{K:Frag}{M:List Addr}{H:Hp}{v:V}{d:D}(p:Pk K M H d v):∀{ns:List String},(∀n∈ns,n∈uN)->PySem.W.kitAny K (Gk d) (ns.map Value.type)=!(ns.any (gw (lZ d)))
 | [],_=>rfl
 |n::ns,h=>by
  exact (match PySem.W.kitOne K (Gk d) (.type n)with |some true=>!true |some false=>PySem.W.kitAny K (Gk d) (ns.map Value.type) |none=>none)=_
  rw[xA p (h n dC),sV p λm hm=>h m (bP _ hm),List.any_cons]
  cases gw (lZ d) n <;> rfl
end
abbrev qA(sc scope:Scope):Bool:=decide (scope.kind=.function)&&scope.names.all λy=>decide (y.2≠.cell)&&(decide (y.2≠.local)||decide (scope.names.lookup y.1=some .local)) &&
 (decide (y.2≠.free)||(decide (scope.names.lookup y.1=some .free)&&(decide (sc.names.lookup y.1=some .cell)||decide (sc.names.lookup y.1=some .free))))
abbrev jd(N N':List Str)(scope:Scope)(k:Nat):Bool:=decide (N'.length=N.length+(k+1))&&(match N'[N.length+k]? with |some x=>decide (scope.names.lookup x=none) |none=>true) &&
 (List.range N.length).all λi=>match N'[i]? with |some x=>decide (scope.names.lookup x=none)||(decide (N[i]?=!x)&&decide (scope.names.lookup x≠some .local)) |none=>true
inductive Fd(c:Ct):List Expr->List Nat->Prop
 |nil:Fd c [] []
 |cons {x:Str}{i:Nat}{pos:Pos}{es:List Expr}{is:List Nat}:c.N[i]?=!x->eZ c x=true->Fd c es is->Fd c (.Name x pos::es) (i::is)
inductive Fe(P:Pg)(c:Ct):List Expr->List String->Prop
 |nil:Fe P c [] []
 |cons {T:Str}{n:String}{pos:Pos}{es:List Expr}{ns:List String}:T∈P.bn->c.sc.names.lookup T=some .globalImplicit->T=Str.ofString n->n∈uN->Fe P c es ns->Fe P c (.Name T pos::es) (n::ns)
inductive Gu(c:Ct):Expr->Tg->Prop
 |nm:c.N[i]?=!x->eZ c x=true->Gu c (.Name x pos) (.nm i)
 |tp:Fd c es is->Gu c (.Tuple es k pos) (.tp is)
abbrev Pa(c:Ct)(y:Str)(py pos:Pos)(scope:Scope):Bool:=(c.sc.names.lookup y==some .local)&&py.line==pos.line&&(not ((scope.names.any λ(n,k)=>n==y&&(k==.local||k==.cell))))
abbrev nmW(e:Expr):Option Str:=match e with |.Name x _=>!x |_=>none
abbrev tpN(n:Nat)(e:Expr):Bool:=match e with |.Tuple vs _ _=>decide (vs.length=n) |_=>false
abbrev celN(c:Ct)(a:Expr):Bool:=match nmW a with |some x=>decide (c.sc.names.lookup x=some .cell) |none=>false
abbrev Pb(c:Ct)(es:List Expr)(e:Expr):Bool:=tpN es.length e&&(c.df&&es.any (celN c))
inductive zR(R:Expr->Ex->Prop):List Expr->List Ex->Prop
 |nil:zR R [] []
 |cons {e:Expr}{es:List Expr}{x:Ex}{xs:List Ex}:R e x->zR R es xs->zR R (e::es) (x::xs)
inductive Ph(R:Expr->Ex->Prop):Option Expr->Option Ex->Prop
 |none:Ph R Option.none Option.none
 |some {e:Expr}{x:Ex}:R e x->Ph R (Option.some e) (Option.some x)
inductive Cd(R:Expr->Ex->Prop):List Expr->Option Ex->Prop
 |none:Cd R [] Option.none
 |some {e:Expr}{x:Ex}:R e x->Cd R [e] (Option.some x)
inductive xB(P:Pg)(R:Expr->Ex->Prop)(c:Ct):Expr->Ex->Prop
 |seq:R e x->xB P R c e x
 |bK:R a xa->("range":Str)∈P.bn->c.sc.names.lookup ("range":Str)=some .globalImplicit->xB P R c (.Call (.Name "range" p) [a] [] pos) (.bK xa)
 |iZ:R a xa->R b xb->("range":Str)∈P.bn->c.sc.names.lookup ("range":Str)=some .globalImplicit->xB P R c (.Call (.Name "range" p) [a,b] [] pos) (.iZ xa xb)
 |zip:R a xa->R b xb->("zip":Str)∈P.bn->c.sc.names.lookup ("zip":Str)=some .globalImplicit->xB P R c (.Call (.Name "zip" p) [a,b] [] pos) (.zip xa xb)
 |enum:R a xa->("enumerate":Str)∈P.bn->c.sc.names.lookup ("enumerate":Str)=some .globalImplicit->xB P R c (.Call (.Name "enumerate" p) [a] [] pos) (.enum xa)
abbrev zS(e:Expr):Option Str:=match e with |.Name x _=>!x |_=>none
def qB{e:Expr}{x:Str}(h:zS e=!x):∃p,e=.Name x p:=by cases e <;> first | (symm;show#[_,rfl]) |symm
abbrev JZ{α:Type}(l:List α):Option α:=match l with | [a]=>!a |_=>none
def oM{α:Type}{l:List α}{a:α}(h:JZ l=!a):l=[a]:=by
 cases l with
 |nil=>symm
 |cons b l=>cases l with
  |nil=>symm;rfl
  |cons _ _=>symm
abbrev asgV(s:Stmt):Option (List Expr×Expr):=match s with |.Assign ts e _=>!(ts,e) |_=>none
def Pj{s:Stmt}{r:List Expr×Expr}(h:asgV s=!r):∃p,s=.Assign r.1 r.2 p:=by cases s <;> first | (symm;show#[_,rfl]) |symm
abbrev cstV(e:Expr):Option Const:=match e with |.Constant c _ _=>!c |_=>none
def Pn(h:cstV e=!c):∃j p,e=.Constant c j p:=by cases e <;> first | (symm;show#[_,_,rfl]) |symm
abbrev nonV(c:Const):Option Unit:=match c with |.none=>!() |_=>none
def Pp(h:nonV c=!()):c=.none:=by cases c <;> first |rfl |symm
abbrev expV(s:Stmt):Option Expr:=match s with |.Expr e _=>!e |_=>none
def Pq{s:Stmt}{e:Expr}(h:expV s=!e):∃p,s=.Expr e p:=by cases s <;> first | (symm;show#[_,rfl]) |symm
abbrev calV(e:Expr):Option (Expr×List Expr×List Keyword):=match e with |.Call f as ks _=>!(f,as,ks) |_=>none
def Pu{e:Expr}{r:Expr×List Expr×List Keyword}(h:calV e=!r):∃p,e=.Call r.1 r.2.1 r.2.2 p:=by cases e <;> first | (symm;show#[_,rfl]) |symm
abbrev tryV(s:Stmt):Option (List Stmt×List ExceptHandler×List Stmt×List Stmt):=match s with |.Try b h o f _=>!(b,h,o,f) |_=>none
def Pw{s:Stmt}{r:List Stmt×List ExceptHandler×List Stmt×List Stmt}(h:tryV s=!r):∃p,s=.Try r.1 r.2.1 r.2.2.1 r.2.2.2 p:=by cases s <;> first | (symm;show#[_,rfl]) |symm
abbrev J0{α:Type}(l:List α):Option Unit:=match l with | []=>!() |_=>none
def oN{α:Type}{l:List α}(h:J0 l=!()):l=[]:=by cases l with |nil=>rfl |cons _ _=>symm
abbrev hanV(h:ExceptHandler):Option (Expr×Str×List Stmt):=match h with |.ExceptHandler t n b _=>t.bind λt=>n.bind λn=>!(t,n,b)
def Px{h:ExceptHandler}{r:Expr×Str×List Stmt}(e:hanV h=!r):∃p,h=.ExceptHandler (!r.1) (!r.2.1) r.2.2 p:=by
 let(t,n,b,p):=h;cases t with
 |none=>cases e
 |some t=>cases n with
  |none=>cases e
  |some n=>cases e;show#[p,rfl]
abbrev Ce(s:Stmt):Option (Str×Expr):=(asgV s).bind λr=>(JZ r.1).bind λt=>(zS t).bind λx=>!(x,r.2)
def xD{s:Stmt}{r:Str×Expr}(h:Ce s=!r):∃p q,s=.Assign [.Name r.1 p] r.2 q:=by delta Ce at h;simp only[fN]at h;let((ts,e),h1,t,h2,x,h3,h4):=h;cases h4;let(p,rfl):=Pj h1;let(q,rfl):=qB h3;have:=oM h2;subst this;show#[q,p,rfl]
abbrev VB(l:List Stmt):Option Str:=(JZ l).bind λs3=>(expV s3).bind λce=>(calV ce).bind λf=>(J0 f.2.1).bind λ_=>(J0 f.2.2).bind λ_=>zS f.1
def Py{l:List Stmt}{y:Str}(h:VB l=!y):∃py cp ep,l=[.Expr (.Call (.Name y py) [] [] cp) ep]:=by replace h:=fN.1 h;let(s3,h1,h):=h;cases oM h1;clear h1;replace h:=fN.1 h;let(ce,h1,h):=h;let(p,e1):=Pq h1;cases e1;clear h1;replace h:=fN.1 h;let((f1,f2,f3),h1,h):=h;let(q,e1):=Pu h1;cases e1;clear h1;replace h:=fN.1 h;let(_,h1,h):=h;replace h:=fN.1 h;let(_,h2,h):=h;let(r,e1):=qB h;show#[r,q,p,by have a:=oN h1;have b:=oN h2;dsimp only at a b e1 ⊢;rw[a,b,e1]]
abbrev VD(l:List ExceptHandler):Option (Str×Str×Str×Str):=(JZ l).bind λhh=>(hanV hh).bind λu=>(zS u.1).bind λke=>(JZ u.2.2).bind λs4=>(Ce s4).bind λb=>(zS b.2).bind λRx=>!(ke,u.2.1,b.1,Rx)
def Pz{l:List ExceptHandler}{r:Str×Str×Str×Str}(h:VD l=!r):∃kp wU wR ap hp,l=[.ExceptHandler (!(.Name r.1 kp)) (!r.2.1) [.Assign [.Name r.2.2.1 wU] (.Name r.2.2.2 wR) ap] hp]:=by replace h:=fN.1 h;let(hh,h1,h):=h;cases oM h1;clear h1;replace h:=fN.1 h;let((u1,u2,u3),h1,h):=h;let(p,e1):=Px h1;cases e1;clear h1;replace h:=fN.1 h;let(ke,h1,h):=h;let(q,e1):=qB h1;cases e1;clear h1;replace h:=fN.1 h;let(s4,h1,h):=h;cases oM h1;clear h1;replace h:=fN.1 h;let((b1,b2),h1,h):=h;let(m,n,e1):=xD h1;cases e1;clear h1;replace h:=fN.1 h;let(en,h1,h):=h;let(o,e1):=qB h1;cases e1;clear h1;symm;show#[q,m,o,n,p,rfl]
abbrev nonS(s:Stmt):Option Str:=(Ce s).bind λa=>(cstV a.2).bind λc=>(nonV c).bind λ_=>!a.1
def PB(h:nonS s=!x):∃p j np ap,s=.Assign [.Name x p] (.Constant .none j np) ap:=by replace h:=fN.1 h;let((a1,a2),h1,h):=h;let(p,q,e1):=xD h1;cases e1;clear h1;replace h:=fN.1 h;let(c,h1,h):=h;let(j,m,e1):=Pn h1;cases e1;clear h1;replace h:=fN.1 h;let(_,h1,h):=h;cases Pp h1;clear h1;symm;show#[p,j,m,q,rfl]
abbrev tryS(s:Stmt):Option (Str×Str×Str×Str×Str):=(tryV s).bind λt=>(J0 t.2.2.1).bind λ_=>(J0 t.2.2.2).bind λ_=>(VB t.1).bind λy=>(VD t.2.1).bind λu=>!(y,u)
def PJ{s:Stmt}{r:Str×Str×Str×Str×Str}(h:tryS s=!r):∃l hs p,VB l=!r.1/\VD hs=!r.2/\s=.Try l hs [] [] p:=by replace h:=fN.1 h;let((t1,t2,t3,t4),h1,h):=h;let(p,e1):=Pw h1;cases e1;clear h1;replace h:=fN.1 h;let(_,h1,h):=h;cases oN h1;clear h1;replace h:=fN.1 h;let(_,h1,h):=h;cases oN h1;clear h1;replace h:=fN.1 h;let(y,h1,h):=h;replace h:=fN.1 h;let(u,h2,h):=h;symm;show#[t1,t2,p,h1,h2,rfl]
abbrev VF(l:List Stmt):Option (Str×Str×Str×Str×Str×Str):=match l with
 |s1::s2::_=>(nonS s1).bind λa=>(tryS s2).bind λt=>!(a,t)
 |_=>none
def PK(h:VF l=!(er,y,ke,en,L8,Rx)):∃Ew j np Yb py bw qX kp wU wR cG qY jq rest,l=.Assign [.Name er Ew] (.Constant .none j np) Yb::.Try [.Expr (.Call (.Name y py) [] [] bw) qX] [.ExceptHandler (!(.Name ke kp)) (!en) [.Assign [.Name L8 wU] (.Name Rx wR) cG] qY] [] [] jq::rest:=by
 delta VF at h;split at h
 . replace h:=fN.1 h;let(a,h1,h):=h;replace h:=fN.1 h;let(t,h2,h):=h;symm;let(p,j,np,ap,e1):=PB h1;let(l,hs,tp,h3,h4,e2):=PJ h2;let(py,cp,ep,e3):=Py h3;let(kp,wU,wR,ap',hp,e4):=Pz h4;show#[p,j,np,ap,py,cp,ep,kp,wU,wR,ap',hp,tp,_,by rw[e1,e2,e3,e4]]
 . symm
abbrev J1(fi:Fi)(ir:Nat)(kt:Str):Bool:=match VF (bH fi.st)with
 |!(er,y,ke,en,L8,Rx)=>decide ((ke=kt/\L8=er/\Rx=en/\fi.ps=[y])/\((aH fi.st).names.lookup ke=some .globalImplicit/\fi.N[fi.N.idxOf en]?=!en/\(aH fi.st).names.lookup en=some .local)/\(fi.N[ir]?=!er/\fi.N[0]?=!y)/\(fi.N.idxOf en≠ir/\fi.N.idxOf en≠0/\ir≠0))&&((cA en&&cA y)&&(mR (aH fi.st) y&&eZ #[fi.N,aH fi.st,true,fi.qual] er))
 |none=>false
abbrev Fg(params:Arguments)(scope:Scope):Bool:=((not scope.isCoroutine)&&(not scope.isGenerator))&&(decide (scope.kind=.function)&&((scope.names.all λy=>decide (y.2≠.cell)&&decide (y.2≠.local))&&((params.posonlyargs.isEmpty&&params.args.isEmpty)&&(params.vararg.isNone&&(params.kwonlyargs.isEmpty&&(params.kw_defaults.isEmpty&&(params.kwarg.isNone&&params.defaults.isEmpty)))))))
def uO(h:Fg params scope=true):fh params scope:=by let(a,b,c,d,e,f,g):=params;simp only[Fg,eQ,CL,l8,l4,List.isEmpty_iff,Option.isNone_iff_eq_none]at h;let(h,h1,h2,(rfl,rfl),rfl,rfl,rfl,rfl,rfl):=h;show#[h.1,h.2,h1,λx hx=>(h2 x hx).1,λx hx=>(h2 x hx).2,rfl]
meta abbrev p0:Pos:=#[0,0,0,0]
inductive nP(R:Expr->Ex->Prop)(fx:Str)(f ir:Nat)(ca:List Addr):List Lt->List Ex->Prop
 |nil:nP R fx f ir ca [] []
 |cons {l:Lt}{ls:List Lt}{e:Ex}{es:List Ex}:R (.Call (.Name fx p0) [l.ex] [] p0) (.j7 f ir [] e)->nP R fx f ir ca ls es->nP R fx f ir ca (l::ls) (e::es)
structure BlR(c:Ct)(fx:Str)(scope:Scope)(N':List Str)(v:Str)(k j:Nat):Prop where
 lt:j<k
 bl:qA c.sc scope=true
 nm:jd c.N N' scope k=true
 nd:N'.Nodup
 ix:N'[c.N.length+j]?=!v
 st:eZ #[N',scope,false,Str.empty] v=true
 vi:mR scope v=true
 pl:cA v=true
 gl:scope.names.lookup fx=some .globalImplicit
inductive PL(RS:Stmt->Sm->Prop)(ce:Expr):Stmt->Bool->List Sm->Prop
 |ite {s:Stmt}{x:Sm}{pos:Pos}:RS s x->PL RS ce (.If ce [s] [] pos) false [x]
 |ret {pos:Pos}:PL RS ce (.Return (!ce) pos) true []
inductive VG(P:Pg)(R:Expr->Ex->Prop)(RS:Stmt->Sm->Prop)(c:Ct):List Stmt->Sm->Prop
 |rows {y x mn a b tn:Str}{im it iy ia ib:Nat}{scope:Scope}{N':List Str}{k j:Nat}{lp px rp mp Yg JL ap py pa pb jq y1 y2 a1 a2 b1 b2 sp1 sp2 Rr Ru Rt L5 ep1 ep2 JK rpos yr tp:Pos}{tk:Nat} :
   (c.N[im]?=!mn/\mR c.sc mn=true/\cA mn=true)->(c.N[it]?=!tn/\mR c.sc tn=true/\cA tn=true)->(c.N[iy]?=!y/\Pa c y py JL scope=true/\cA y=true)->
   ((c.N[ia]?=!a/\mR c.sc a=true/\cA a=true)/\eZ c a=true)->((c.N[ib]?=!b/\mR c.sc b=true/\cA b=true)/\eZ c b=true)->(ia≠iy/\ib≠iy/\ia≠ib)->
   (j<k/\qA c.sc scope=true/\jd c.N N' scope k=true/\N'.Nodup/\N'[c.N.length+j]?=!x/\eZ #[N',scope,false,Str.empty] x=true)->(("range":Str)∈P.bn/\c.sc.names.lookup ("range":Str)=some .globalImplicit)->(Rr.endLine==Rt.line)=true->(Ru.endLine==L5.line)=true->
   VG P R RS c [.Assign [.Name y py] (.ListComp (.List [] lp) [#[.Name x px,.Call (.Name "range" rp) [.Name mn mp] [] Yg,[],0]] scope JL) ap,.For (.Tuple [.Name a pa,.Name b pb] tk jq) (.Name tn tp) [.Expr (.Call (.Attribute (.Subscript (.Name y y1) (.Name a a1) sp1) "append" Rr) [.Name b b1] [] Rt) ep1,.Expr (.Call (.Attribute (.Subscript (.Name y y2) (.Name b b2) sp2) "append" Ru) [.Name a a2] [] L5) ep2] [] JK,.Return (!(.Name y yr)) rpos] (.rows im it iy ia ib)
 |mk {y v fx:Str}{ic f ir:Nat}{l:Lt}{ls:List Lt}{e:Ex}{es:List Ex}{ss:List Stmt}{st:Stmt}{scope:Scope}{N':List Str}{k j:Nat}{rG:Expr}{op:CmpOp}{rhs:Ex}{ret:Bool}{b:List Sm}{py lp pos fp vp cp tp ip JL cmp:Pos} :
   c.N[ic]?=!y->eZ c y=true->mR c.sc y=true->cA y=true->zK y ss ls->nP R fx f ir P.gZ (l::ls) (e::es)->ls.length<900->BlR c fx scope N' v k j->R rG rhs->behindInMarks op rG=false->
   PL RS (.Compare (.ListComp (.Call (.Name fx fp) [.Name v vp] [] cp) [#[.Name v tp,.Name y ip,[],0]] scope JL) [op] [rG] cmp) st ret b->
   VG P R RS c (.Assign [.Name y py] (.List [l.ex] lp) pos::(ss++[st])) (.calls ic (.refs f ir P.gZ (e::es)) op rhs ret b)
inductive zT(RG:List Stmt->Sm->Prop)(RS:Stmt->Sm->Prop):List Stmt->List Sm->Prop
 |nil:zT RG RS [] []
 |grp {ss rest:List Stmt}{x:Sm}{xs:List Sm}:RG ss x->zT RG RS rest xs->zT RG RS (ss++rest) (x::xs)
 |cons {s:Stmt}{ss:List Stmt}{x:Sm}{xs:List Sm}:RS s x->zT RG RS ss xs->zT RG RS (s::ss) (x::xs)
abbrev xE(k:Scope->Pos->Bool)(e:Expr):Bool:=match e with |.ListComp _ _ s p=>k s p |.DictComp ..=>true |_=>false
def ao{a b:Bool}(h:(a&&b)=true):a=true/\b=true:=by cases a <;> cases b <;> first |show#[rfl,rfl] |symm
def dec{p:Prop} [Decidable p] (h:decide p=true):p:=mI h
def kj(h:((not b))=true):b=false:=by cases b <;> first |rfl |symm
def uP{α:Type}{l:List α}(h:l.isEmpty=true):l=[]:=by cases l with |nil=>rfl |cons _ _=>symm
def two{α:Type}{l:List α}(h:2<=l.length):∃a b m,l=a::b::m:=by
 cases l with
 |nil=>show absurd h (A9 1)
 |cons a l=>cases l with
  |nil=>show absurd h (Nat.not_succ_le_self 1)
  |cons b m=>show#[a,b,m,rfl]
abbrev Yj(c:Ct)(x:Str):Bool:=decide (c.sc.names.lookup x=some .globalImplicit)
abbrev Cg(P:Pg)(c:Ct)(x:Str):Bool:=P.bn.contains x&&Yj c x
def bx(h:Cg P c x=true):x∈P.bn/\c.sc.names.lookup x=some .globalImplicit:=#[AW.mp (ao h).1,dec (ao h).2]
abbrev nm(c:Ct)(i:Nat):Str:=c.N.getD i Str.empty
abbrev mS(c:Ct)(i:Nat):Bool:=decide (c.N[i]?=!(nm c i))&&(mR c.sc (nm c i)&&cA (nm c i))
abbrev stB(c:Ct)(i:Nat):Bool:=decide (c.N[i]?=!(nm c i))&&eZ c (nm c i)
def fL(h:mS c i=true):c.N[i]?=!(nm c i)/\mR c.sc (nm c i)=true/\cA (nm c i)=true:=#[dec (ao h).1,(ao (ao h).2).1,(ao (ao h).2).2]
abbrev bang(x:Str):Str:=#[x.cps.push 33]
abbrev bangs(n:Nat):Str:=#[(List.replicate n 33).toArray]
abbrev je(scope:Scope):List Str:=scope.names.filterMap λy=>if y.2==.local then some y.1 else none
abbrev jf(N:List Str)(scope:Scope):List Str:=(N.map λy=>if scope.names.lookup y==some .local then bang y else y)++je scope++[bangs (N.length+1)]
abbrev uQ:List Str->Bool
 | []=>true
 |x::l=>(not (l.contains x))&&uQ l
def gK:∀{l:List Str},uQ l=true->l.Nodup
 | [],_=>u4
 |x::l,h=>by
  apply i6.mpr #[λhm=>?_,gK (ao h).2]
  have:=(ao h).1;rw[AW.mpr hm]at this;cases this
abbrev kids(e:Expr):List Expr:=match e with
 |.BoolOp _ vs _=>vs
 |.BinOp a _ b _=>[a,b]
 |.UnaryOp _ a _=>[a]
 |.Lambda _ b _ _=>[b]
 |.IfExp t a b _=>[t,a,b]
 |.ListComp e gs _ _=>e::gs.flatMap λg=>g.target::g.iter::g.ifs
 |.DictComp e v gs _ _=>e::v::gs.flatMap λg=>g.target::g.iter::g.ifs
 |.Compare a _ bs _=>a::bs
 |.Call f as ks _=>f::(as++ks.map (·.value))
 |.FormattedValue v _ _ _=>[v]
 |.JoinedStr vs _=>vs
 |.Attribute v _ _=>[v]
 |.Subscript a b _=>[a,b]
 |.List es _=>es
 |.Tuple es _ _=>es
 |.Slice a b s p=>[a.getD (.Name Str.empty p),b.getD (.Name Str.empty p),s.getD (.Name Str.empty p)]
 |_=>[]
abbrev kid(e:Expr)(i:Nat):Expr:=(kids e).getD i e
abbrev xF(e:Expr):Nat:=match e with |.Constant _ k _=>k |.Tuple _ k _=>k |_=>0
abbrev dM(e:Expr):Scope:=match e with |.Lambda _ _ s _=>s |.ListComp _ _ s _=>s |.DictComp _ _ _ s _=>s |_=>aH (.Pass e.pos)
abbrev VH(e:Expr):Arguments:=match e with |.Lambda a _ _ _=>a |_=>default
abbrev opT(e:Expr):Operator:=match e with |.BinOp _ o _ _=>o |_=>.Add
abbrev gP(c:Ct)(t:Expr):Ct:=#[jf c.N (dM t),dM t,false,Str.empty]
abbrev VJ(c:Ct)(t:Expr):Ct:=#[c.N,dM t,false,Str.empty]
abbrev qE(P:Pg)(i:Nat):Str:=match P.fn[i]? with |some fi=>fi.name |none=>Str.empty
def oO(h:P.fn[i]?.isSome=true):∃fi,P.fn[i]?=!fi/\fi.name=qE P i:=by
 delta qE;cases e:P.fn[i]? with
 |none=>rw[e]at h;symm
 |some g=>show#[g,rfl,rfl]
section
variable{R:Expr->Ex->Prop}{s:Ex->Expr->Expr}{f:Ex->Expr->Bool}(hf:∀{x t},f x t=true->R (s x t) x)
include hf
abbrev kr(s:Ex->Expr->Expr)(t:Expr):Nat->List Ex->List Expr
 |_,[]=>[]
 |i,x::xs=>s x (kid t i)::kr s t (i+1) xs
abbrev PN(f:Ex->Expr->Bool)(t:Expr):Nat->List Ex->Bool
 |_,[]=>true
 |i,x::xs=>f x (kid t i)&&PN f t (i+1) xs
def dX(h:PN f t i xs=true):zR R (kr s t i xs) xs:=by
 induction xs generalizing i with
 |nil=>show .nil
 |cons x xs ih=>show .cons (hf (ao h).1) (ih (ao h).2)
abbrev VL(s:Ex->Expr->Expr)(t:Expr)(x:Option Ex):Option Expr:=match x with |some x=>!(s x t) |none=>none
abbrev VM(f:Ex->Expr->Bool)(t:Expr)(x:Option Ex):Bool:=match x with |some x=>f x t |none=>true
def J2(h:VM f t x=true):Ph R (VL s t x) x:=by
 cases x with
 |none=>show .none
 |some x=>show .some (hf h)
abbrev zU(s:Ex->Expr->Expr)(t:Expr)(x:Option Ex):List Expr:=match x with |some x=>[s x t] |none=>[]
def zV(h:VM f t x=true):Cd R (zU s t x) x:=by
 cases x with
 |none=>show .none
 |some x=>show .some (hf h)
end
abbrev xG(s:Ex->Expr->Expr)(x:Ex)(t:Expr):Expr:=match x with
 |.bK a=>.Call (.Name "range" (kid t 0).pos) [s a (kid t 1)] [] t.pos
 |.iZ a b=>.Call (.Name "range" (kid t 0).pos) [s a (kid t 1),s b (kid t 2)] [] t.pos
 |.zip a b=>.Call (.Name "zip" (kid t 0).pos) [s a (kid t 1),s b (kid t 2)] [] t.pos
 |.enum a=>.Call (.Name "enumerate" (kid t 0).pos) [s a (kid t 1)] [] t.pos
 |x=>s x t
abbrev okW(P:Pg)(c:Ct)(f:Ex->Expr->Bool)(x:Ex)(t:Expr):Bool:=match x with
 |.bK a=>Cg P c "range" && f a (kid t 1)
 |.iZ a b=>Cg P c "range" && (f a (kid t 1)&&f b (kid t 2))
 |.zip a b=>Cg P c "zip" && (f a (kid t 1)&&f b (kid t 2))
 |.enum a=>Cg P c "enumerate" && f a (kid t 1)
 |x=>f x t
def uR{P:Pg}{R:Expr->Ex->Prop}{s:Ex->Expr->Expr}{f:Ex->Expr->Bool}(hf:∀{x t},f x t=true->R (s x t) x){c:Ct}{x:Ex}{t:Expr}(h:okW P c f x t=true):xB P R c (xG s x t) x:=by
 cases x
 case bK a=>show .bK (hf (ao h).2) (bx (ao h).1).1 (bx (ao h).1).2
 case iZ a b=>show .iZ (hf (ao (ao h).2).1) (hf (ao (ao h).2).2) (bx (ao h).1).1 (bx (ao h).1).2
 case zip a b=>show .zip (hf (ao (ao h).2).1) (hf (ao (ao h).2).2) (bx (ao h).1).1 (bx (ao h).1).2
 case enum a=>show .enum (hf (ao h).2) (bx (ao h).1).1 (bx (ao h).1).2
 all_goals show .seq (hf h)
abbrev VN(t:Expr):Nat->List String->List Expr
 |_,[]=>[]
 |i,n::ns=>.Name (Str.ofString n) (kid t i).pos::VN t (i+1) ns
abbrev okY(P:Pg)(c:Ct):List String->Bool
 | []=>true
 |n::ns=>(uN.contains n&&Cg P c (Str.ofString n))&&okY P c ns
def VP(h:okY P c ns=true):Fe P c (VN t i ns) ns:=by
 induction ns generalizing i with
 |nil=>show .nil
 |cons n ns ih=>show .cons (bx (ao (ao h).1).2).1 (bx (ao (ao h).1).2).2 rfl (AW.mp (ao (ao h).1).1) (ih (ao h).2)
abbrev zW(c:Ct)(t:Expr):Nat->List Nat->List Expr
 |_,[]=>[]
 |j,i::is=>.Name (nm c i) (kid t j).pos::zW c t (j+1) is
abbrev okN(c:Ct):List Nat->Bool
 | []=>true
 |i::is=>stB c i&&okN c is
def VR(h:okN c is=true):Fd c (zW c t j is) is:=by
 induction is generalizing j with
 |nil=>show .nil
 |cons i is ih=>show .cons (dec (ao (ao h).1).1) (ao (ao h).1).2 (ih (ao h).2)
abbrev uS(c:Ct)(T:Tg)(t:Expr):Expr:=match T with
 |.nm i=>.Name (nm c i) t.pos
 |.tp is=>.Tuple (zW c t 0 is) (xF t) t.pos
def qF(h:okN c T.ix=true):Gu c (uS c T t) T:=by
 cases T with
 |nm i=>show .nm (dec (ao (ao h).1).1) (ao (ao h).1).2
 |tp is=>show .tp (VR h)
abbrev V0(a b:D):Bool:=match a with |.int i=>(match b with |.int j=>decide (i=j) |_=>false) |_=>false
def PX(h:V0 a b=true):a=b:=by
 cases a with
 |int i=>cases b with
  |int j=>show congrArg D.int (dec (show decide (i=j)=true from h))
  |_=>show nt h
 |_=>show nt h
abbrev ctB(y:Str)(d:D):List (Str×D)->Bool
 | []=>false
 |p::l=>(decide (p.1=y)&&V0 p.2 d)||ctB y d l
def V1(h:ctB y d l=true):(y,d)∈l:=by
 induction l with
 |nil=>symm
 |cons p l ih=>
  let(x,d'):=p;have hh:((decide (x=y)&&V0 d' d)||ctB y d l)=true:=h
  rcases AK _ _▸hh with h |h
  . let(h1,h2):=ao h;obtain rfl:=dec h1;rw[PX h2];show dC
  . show bP _ (ih h)
abbrev cstD(d:D):Const:=match d with |.int i=>.int i |.bl b=>.bool b |.str y=>.str y |_=>.none
abbrev cstK(d:D):Bool:=match d with |.int _=>true |.bl _=>true |.str _=>true |.non=>true |_=>false
abbrev uT(d:D)(t:Expr):Expr:=match zS t with |some y=>.Name y t.pos |none=>.Constant (cstD d) (xF t) t.pos
abbrev okV(P:Pg)(c:Ct)(d:D)(t:Expr):Bool:=match zS t with |some y=>Yj c y&&ctB y d P.ct |none=>cstK d
abbrev blK(c:Ct)(t:Expr)(k:Nat):Bool:=qA c.sc (dM t)&&(jd c.N (jf c.N (dM t)) (dM t) k&&uQ (jf c.N (dM t)))
abbrev ixK(c:Ct)(k:Nat)(T:Tg):Bool:=T.ix.all λi=>decide (c.N.length<=i/\i<c.N.length+k)
def zX(h:ixK c k T=true):∀i∈T.ix,c.N.length<=i/\i<c.N.length+k:=λi hi=>dec (l4.mp h i hi)
abbrev o1(x:Option Ex):Nat:=match x with |some _=>1 |none=>0
abbrev V2(P:Pg)(i ir:Nat):Bool:=match P.fn[i]? with |some fi=>J1 fi ir P.kt |none=>false
abbrev Ry(e:Expr):Bool:=match e with |.Call f es ks _=>(zS f).isSome&&((not es.isEmpty)&&ks.isEmpty) |_=>false
def qG{e:Expr}(h:Ry e=true):∃x p a es pos,e=.Call (.Name x p) (a::es) [] pos:=by
 cases e
 case Call f es ks pos=>
  let(h1,h2):=ao (show ((zS f).isSome&&((not es.isEmpty)&&ks.isEmpty))=true from h);let(x,hx):=Option.isSome_iff_exists.mp h1;let(p,rfl):=qB hx;cases es with
  |nil=>cases (ao h2).1
  |cons a es=>rw[uP (ao h2).2];show#[x,p,a,es,pos,rfl]
 all_goals show nt h
abbrev Fj(P:Pg)(s:Ct->Ex->Expr->Expr)(c:Ct)(x:Ex)(t:Expr):Expr:=match x with
 |.val d=>uT d t
 |.slot i=>.Name (nm c i) t.pos
 |.bin op a b=>.BinOp (s c a (kid t 0)) op (s c b (kid t 1)) t.pos
 |.cmp op a b=>.Compare (s c a (kid t 0)) [op] [s c b (kid t 1)] t.pos
 |.chain a ops xs=>.Compare (s c a (kid t 0)) ops (kr (s c) t 1 xs) t.pos
 |.neg a=>.UnaryOp .USub (s c a (kid t 0)) t.pos
 |.not a=>.UnaryOp .Not (s c a (kid t 0)) t.pos
 |.and xs=>.BoolOp .And (kr (s c) t 0 xs) t.pos
 |.or xs=>.BoolOp .Or (kr (s c) t 0 xs) t.pos
 |.ite a b d=>.IfExp (s c a (kid t 0)) (s c b (kid t 1)) (s c d (kid t 2)) t.pos
 |.tup xs=>.Tuple (kr (s c) t 0 xs) (xF t) t.pos
 |.lst xs=>.List (kr (s c) t 0 xs) t.pos
 |.ix a b=>.Subscript (s c a (kid t 0)) (s c b (kid t 1)) t.pos
 |.slice a lo hi=>.Subscript (s c a (kid t 0)) (.Slice (VL (s c) (kid (kid t 1) 0) lo) (VL (s c) (kid (kid t 1) 1) hi) none (kid t 1).pos) t.pos
 |.call i xs=>.Call (.Name (qE P i) (kid t 0).pos) (kr (s c) t 1 xs) [] t.pos
 |.blt b xs=>.Call (.Name (blV b).1 (kid t 0).pos) (kr (s c) t 1 xs) [] t.pos
 |.wZ a n=>.Call (.Name "isinstance" (kid t 0).pos) [s c a (kid t 1),.Name (Str.ofString n) (kid t 2).pos] [] t.pos
 |.JN a ns=>.Call (.Name "isinstance" (kid t 0).pos) [s c a (kid t 1),.Tuple (VN (kid t 2) 0 ns) (xF (kid t 2)) (kid t 2).pos] [] t.pos
 |.comp _ _ T it co xe=>.ListComp (s (gP c t) xe (kid t 0)) [#[uS (gP c t) T (kid t 1),xG (s c) it (kid t 2),zU (s (gP c t)) (kid t 3) co,0]] (dM t) t.pos
 |.gI _ _ T1 rq c1 T it co xe=>.ListComp (s (gP c t) xe (kid t 0)) [#[uS (gP c t) T1 (kid t 1),xG (s c) rq (kid t 2),zU (s (gP c t)) (kid t 3) c1,0],#[uS (gP c t) T (kid t (3+o1 c1)),xG (s (gP c t)) it (kid t (4+o1 c1)),zU (s (gP c t)) (kid t (5+o1 c1)) co,0]] (dM t) t.pos
 |.rev a=>.Subscript (s c a (kid t 0)) (.Slice none none (!(m1 (xF (kid (kid (kid t 1) 2) 0)) (kid (kid (kid t 1) 2) 0).pos (kid (kid t 1) 2).pos)) (kid t 1).pos) t.pos
 |.emp=>.Dict [] [] t.pos
 |.peek xe=>s c xe t
 |.stk=>.BinOp (kid t 0) (opT t) (kid t 1) t.pos
 |.sS a _=>.Call (.Name "isinstance" (kid t 0).pos) [s c a (kid t 1),.Name ((zS (kid t 2)).getD Str.empty) (kid t 2).pos] [] t.pos
 |.j7 i _ _ xb=>.Call (.Name (qE P i) (kid t 0).pos) [.Lambda (VH (kid t 1)) (s (VJ c (kid t 1)) xb (kid (kid t 1) 0)) (dM (kid t 1)) (kid t 1).pos] [] t.pos
 |.xg a=>.Call (.Name "list" (kid t 0).pos) [.Call (.Name "range" (kid (kid t 1) 0).pos) [s c a (kid (kid t 1) 1)] [] (kid t 1).pos] [] t.pos
 |.meth m o x=>.Call (.Attribute (s c o (kid (kid t 0) 0)) (mtNm m) (kid t 0).pos) [s c x (kid t 1)] [] t.pos
 |.append i x=>.Call (.Attribute (.Name (nm c i) (kid (kid t 0) 0).pos) "append" (kid t 0).pos) [s c x (kid t 1)] [] t.pos
 |.extend i x=>.Call (.Attribute (.Name (nm c i) (kid (kid t 0) 0).pos) "extend" (kid t 0).pos) [s c x (kid t 1)] [] t.pos
 |.sU i x=>.Call (.Attribute (.Name (nm c i) (kid (kid t 0) 0).pos) "pop" (kid t 0).pos) [s c x (kid t 1)] [] t.pos
 |_=>t
abbrev V3(t:Expr):Bool:=(kid t 0).pos.endLine==t.pos.line
abbrev ok1(P:Pg)(s:Ct->Ex->Expr->Expr)(f:Ct->Ex->Expr->Bool)(c:Ct)(x:Ex)(t:Expr):Bool:=match x with
 |.val d=>okV P c d t
 |.slot i=>mS c i
 |.bin _ a b=>f c a (kid t 0)&&f c b (kid t 1)
 |.cmp op a b=>f c a (kid t 0)&&(f c b (kid t 1)&&(not (behindInMarks op (s c b (kid t 1)))))
 |.chain a ops xs=>f c a (kid t 0)&&(PN (f c) t 1 xs&&((not (lastMarks ops (kr (s c) t 1 xs)))&&(decide (2<=ops.length)&&decide (2<=xs.length))))
 |.neg a=>f c a (kid t 0)
 |.not a=>f c a (kid t 0)
 |.and xs=>PN (f c) t 0 xs
 |.or xs=>PN (f c) t 0 xs
 |.ite a b d=>f c a (kid t 0)&&(f c b (kid t 1)&&f c d (kid t 2))
 |.tup xs=>PN (f c) t 0 xs
 |.lst xs=>PN (f c) t 0 xs
 |.ix a b=>f c a (kid t 0)&&f c b (kid t 1)
 |.slice a lo hi=>f c a (kid t 0)&&(VM (f c) (kid (kid t 1) 0) lo&&VM (f c) (kid (kid t 1) 1) hi)
 |.call i xs=>P.fn[i]?.isSome&&(Yj c (qE P i)&&(PN (f c) t 1 xs&&(not xs.isEmpty)))
 |.blt b xs=>Cg P c (blV b).1&&(PN (f c) t 1 xs&&(not xs.isEmpty))
 |.wZ a n=>Cg P c "isinstance" && (f c a (kid t 1)&&(uN.contains n&&Cg P c (Str.ofString n)))
 |.JN a ns=>Cg P c "isinstance" && (f c a (kid t 1)&&(decide (ns.length<=100)&&okY P c ns))
 |.comp n k T it co xe=>decide (n=c.N.length)&&(blK c t k&&(okN (gP c t) T.ix&&(ixK c k T&&(okW P c (f c) it (kid t 2)&&(VM (f (gP c t)) (kid t 3) co&&f (gP c t) xe (kid t 0))))))
 |.gI n k T1 rq c1 T it co xe=>decide (n=c.N.length)&&(blK c t k&&((okN (gP c t) T1.ix&&okN (gP c t) T.ix)&&((ixK c k T1&&ixK c k T)&&((okW P c (f c) rq (kid t 2)&&VM (f (gP c t)) (kid t 3) c1)&&((okW P (gP c t) (f (gP c t)) it (kid t (4+o1 c1))&&VM (f (gP c t)) (kid t (5+o1 c1)) co)&&f (gP c t) xe (kid t 0))))))
 |.rev a=>f c a (kid t 0)
 |.emp=>true
 |.peek xe=>Ry (s c xe t)&&f c xe t
 |.stk=>true
 |.sS a l=>Cg P c "isinstance" && (f c a (kid t 1)&&(Yj c ((zS (kid t 2)).getD Str.empty)&&decide (((zS (kid t 2)).getD Str.empty,l)∈P.ups)))
 |.j7 i ir ca xb=>P.fn[i]?.isSome&&((decide (ca=P.gZ)&&Yj c (qE P i)||ca.isEmpty)&&((decide (c.q = "_law_refusals_right")&&P.lam)&&(V2 P i ir&&(qA c.sc (dM (kid t 1))&&(Fg (VH (kid t 1)) (dM (kid t 1))&&f (VJ c (kid t 1)) xb (kid (kid t 1) 0))))))
 |.xg a=>(Cg P c "range" && Cg P c "list")&&f c a (kid (kid t 1) 1)
 |.meth _ o x=>V3 t&&(f c o (kid (kid t 0) 0)&&f c x (kid t 1))
 |.append i x=>V3 t&&(mS c i&&f c x (kid t 1))
 |.extend i x=>V3 t&&(mS c i&&f c x (kid t 1))
 |.sU i x=>V3 t&&(mS c i&&f c x (kid t 1))
 |_=>false
abbrev d8(P:Pg):Nat->Ct->Ex->Expr->Expr
 | 0=>λ_ _ t=>t
 |n+1=>Fj P (d8 P n)
abbrev uU(P:Pg):Nat->Ct->Ex->Expr->Bool
 | 0=>λ_ _ _=>false
 |n+1=>ok1 P (d8 P n) (uU P n)
abbrev Cm(P:Pg)(c:Ct)(e:Expr)(x:Ex):Prop:=∃n t,e=d8 P n c x t/\uU P n c x t=true
def Cm.mk{P:Pg}{n:Nat}{c:Ct}{x:Ex}{t:Expr}(h:uU P n c x t=true):Cm P c (d8 P n c x t) x:=#[n,t,rfl,h]
def Cm.J3(h:Cm P c e x):∃n t,e=Fj P (d8 P n) c x t/\ok1 P (d8 P n) (uU P n) c x t=true:=by
 let(n,t,rfl,h):=h;cases n with
 |zero=>symm
 |succ n=>show#[n,t,rfl,h]
def Cm.notW(h:Cm P c e x):isW x=false:=by let(n,t,_,q):=h.J3;cases x <;> first |rfl |show Bool.noConfusion (show false=true from q)
meta abbrev Gv (P:Pg) (c:Ct) (es:List Expr) (xs:List Ex):Prop:=zR (Cm P c) es xs
meta abbrev CmO (P:Pg) (c:Ct) (e:Option Expr) (x:Option Ex):Prop:=Ph (Cm P c) e x
meta abbrev rH (P:Pg) (c:Ct) (es:List Expr) (x:Option Ex):Prop:=Cd (Cm P c) es x
meta abbrev P0 (P:Pg) (c:Ct) (e:Expr) (x:Ex):Prop:=xB P (Cm P c) c e x
abbrev ek(t:Stmt):List Expr:=match t with
 |.Return o p=>[o.getD (.Name Str.empty p)]
 |.Assign ts e _=>e::ts
 |.AugAssign a _ e _=>[a,e]
 |.For a b _ _ _=>[a,b]
 |.While a _ _ _=>[a]
 |.If a _ _ _=>[a]
 |.Raise o _ p=>[o.getD (.Name Str.empty p)]
 |.Expr e _=>[e]
 |_=>[]
abbrev aG(t:Stmt)(i:Nat):Expr:=(ek t).getD i (.Name Str.empty t.pos)
abbrev Fo(t:Stmt):List Stmt:=match t with |.For _ _ b _ _=>b |.While _ b _ _=>b |.If _ b _ _=>b |_=>[]
abbrev bd1(t:Stmt):List Stmt:=match t with |.If _ _ b _=>b |_=>[]
abbrev sg(l:List Stmt)(i:Nat):Stmt:=l.getD i (.Pass p0)
abbrev noTup(e:Expr):Bool:=match e with |.Tuple _ _ _=>false |_=>true
abbrev V4:Sm->Nat
 |.calls _ x _ _ _ _=>(match x with |.refs _ _ _ es=>es.length+1 |_=>0)
 |.rows _ _ _ _ _=>3
 |_=>0
abbrev rJ(fg:Sm->List Stmt->List Stmt)(fs:Sm->Stmt->Stmt):List Sm->List Stmt->List Stmt
 | [],_=>[]
 |x::xs,ss=>if 0<V4 x then fg x (ss.take (V4 x))++rJ fg fs xs (ss.drop (V4 x))else fs x (sg ss 0)::rJ fg fs xs ss.tail
abbrev Ma(fg:Sm->List Stmt->Bool)(fs:Sm->Stmt->Bool):List Sm->List Stmt->Bool
 | [],_=>true
 |x::xs,ss=>if 0<V4 x then fg x (ss.take (V4 x))&&Ma fg fs xs (ss.drop (V4 x))else fs x (sg ss 0)&&Ma fg fs xs ss.tail
def V5(hg:∀{x ss},kg x ss=true->RG (sg' x ss) x)(hs:∀{x t},ks x t=true->RS (ss' x t) x)(h:Ma kg ks xs ss=true):zT RG RS (rJ sg' ss' xs ss) xs:=by
 induction xs generalizing ss with
 |nil=>show .nil
 |cons x xs ih=>
  delta Ma at h;delta rJ;by_cases hx:0<V4 x
  .
   rw[i7 hx]at h ⊢
   show .grp (hg (ao h).1) (ih (ao h).2)
  .
   rw[lL hx]at h ⊢
   show .cons (hs (ao h).1) (ih (ao h).2)
abbrev rapS(y a b:Str)(t:Stmt):Stmt:=.Expr (.Call (.Attribute (.Subscript (.Name y (kid (kid (kid (aG t 0) 0) 0) 0).pos) (.Name a (kid (kid (kid (aG t 0) 0) 0) 1).pos) (kid (kid (aG t 0) 0) 0).pos) "append" (kid (aG t 0) 0).pos) [.Name b (kid (aG t 0) 1).pos] [] (aG t 0).pos) t.pos
abbrev V6(e:Expr):Str:=(zS e).getD Str.empty
abbrev bvK(c:Ct)(sc:Scope)(x:Str):Bool:=qA c.sc sc&&(jd c.N (jf c.N sc) sc (je sc).length&&(uQ (jf c.N sc)&&(decide ((je sc).idxOf x<(je sc).length/\(jf c.N sc)[c.N.length+(je sc).idxOf x]?=!x)&&eZ #[jf c.N sc,sc,false,Str.empty] x)))
abbrev Rz(c:Ct)(im it iy ia ib:Nat)(ss:List Stmt):List Stmt:=
 [.Assign [.Name (nm c iy) (aG (sg ss 0) 1).pos] (.ListComp (.List [] (kid (aG (sg ss 0) 0) 0).pos) [#[.Name (V6 (kid (aG (sg ss 0) 0) 1)) (kid (aG (sg ss 0) 0) 1).pos,.Call (.Name "range" (kid (kid (aG (sg ss 0) 0) 2) 0).pos) [.Name (nm c im) (kid (kid (aG (sg ss 0) 0) 2) 1).pos] [] (kid (aG (sg ss 0) 0) 2).pos,[],0]] (dM (aG (sg ss 0) 0)) (aG (sg ss 0) 0).pos) (sg ss 0).pos,
 .For (.Tuple [.Name (nm c ia) (kid (aG (sg ss 1) 0) 0).pos,.Name (nm c ib) (kid (aG (sg ss 1) 0) 1).pos] (xF (aG (sg ss 1) 0)) (aG (sg ss 1) 0).pos) (.Name (nm c it) (aG (sg ss 1) 1).pos) [rapS (nm c iy) (nm c ia) (nm c ib) (sg (Fo (sg ss 1)) 0),rapS (nm c iy) (nm c ib) (nm c ia) (sg (Fo (sg ss 1)) 1)] [] (sg ss 1).pos,
 .Return (!(.Name (nm c iy) (aG (sg ss 2) 0).pos)) (sg ss 2).pos]
abbrev RB(P:Pg)(c:Ct)(im it iy ia ib:Nat)(ss:List Stmt):Bool:=decide (ia≠iy/\ib≠iy/\ia≠ib)&&(mS c im&&(mS c it&&((mS c iy&&Pa c (nm c iy) (aG (sg ss 0) 1).pos (aG (sg ss 0) 0).pos (dM (aG (sg ss 0) 0)))&&((mS c ia&&eZ c (nm c ia))&&((mS c ib&&eZ c (nm c ib)) &&
 (bvK c (dM (aG (sg ss 0) 0)) (V6 (kid (aG (sg ss 0) 0) 1))&&(Cg P c "range" && (V3 (aG (sg (Fo (sg ss 1)) 0) 0)&&V3 (aG (sg (Fo (sg ss 1)) 1) 0)))))))))
def J4{P:Pg}{R:Expr->Ex->Prop}{RS:Stmt->Sm->Prop}{c:Ct}{im it iy ia ib:Nat}{ss:List Stmt}(h:RB P c im it iy ia ib ss=true):VG P R RS c (Rz c im it iy ia ib ss) (.rows im it iy ia ib):=by let(h1,a1):=ao h;let(h2,a2):=ao a1;let(h3,a3):=ao a2;let(h4,a4):=ao a3;let(h5,a5):=ao a4;let(h6,a6):=ao a5;let(h7,a7):=ao a6;let(h8,a8):=ao a7;let(k1,k2):=ao (ao h7).2;show .rows (fL h2) (fL h3) #[(fL (ao h4).1).1,(ao h4).2,(fL (ao h4).1).2.2] #[fL (ao h5).1,(ao h5).2] #[fL (ao h6).1,(ao h6).2] (dec h1) #[(dec (ao (ao k2).2).1).1,(ao h7).1,k1,gK (ao k2).1,(dec (ao (ao k2).2).1).2,(ao (ao k2).2).2] (bx h8) (ao a8).1 (ao a8).2
abbrev V7(P:Pg)(m:Nat)(c:Ct)(e:Ex)(t:Expr):Lt:=#[VH t,d8 P m (VJ c t) e (kid t 0),dM t,t.pos]
abbrev lamT(t:Expr):Expr:=.Call (.Name Str.empty p0) [t] [] p0
abbrev V8(P:Pg)(m:Nat)(c:Ct)(i ir:Nat)(e:Ex)(t:Expr):Bool:=uU P (m+1) c (.j7 i ir [] e) (lamT t)
abbrev V9(P:Pg)(m:Nat)(c:Ct)(y:Str):List Ex->List Stmt->List Stmt
 | [],_=>[]
 |e::es,ss=>.Expr (.Call (.Attribute (.Name y (kid (kid (aG (sg ss 0) 0) 0) 0).pos) "append" (kid (aG (sg ss 0) 0) 0).pos) [(V7 P m c e (kid (aG (sg ss 0) 0) 1)).ex] [] (aG (sg ss 0) 0).pos) (sg ss 0).pos::V9 P m c y es ss.tail
abbrev P1(P:Pg)(m:Nat)(c:Ct):List Ex->List Stmt->List Lt
 | [],_=>[]
 |e::es,ss=>V7 P m c e (kid (aG (sg ss 0) 0) 1)::P1 P m c es ss.tail
abbrev P4(P:Pg)(m:Nat)(c:Ct)(i ir:Nat):List Ex->List Stmt->Bool
 | [],_=>true
 |e::es,ss=>(V3 (aG (sg ss 0) 0)&&V8 P m c i ir e (kid (aG (sg ss 0) 0) 1))&&P4 P m c i ir es ss.tail
def P5(h:P4 P m c i ir es ss=true):zK y (V9 P m c y es ss) (P1 P m c es ss)/\nP (Cm P c) (qE P i) i ir P.gZ (P1 P m c es ss) es/\(P1 P m c es ss).length=es.length:=by
 induction es generalizing ss with
 |nil=>show#[.nil,.nil,rfl]
 |cons e es ih=>let(h1,h2):=ao h;let(q1,q2,q3):=ih h2;show#[.cons (ao h1).1 q1,.cons (Cm.mk (ao h1).2) q2,congrArg (· + 1) q3]
abbrev Wa(P:Pg)(m:Nat)(c:Ct)(i:Nat)(y:Str)(op:CmpOp)(rhs:Ex)(t:Expr):Expr:=.Compare (.ListComp (.Call (.Name (qE P i) (kid (kid (kid t 0) 0) 0).pos) [.Name (V6 (kid (kid t 0) 1)) (kid (kid (kid t 0) 0) 1).pos] [] (kid (kid t 0) 0).pos) [#[.Name (V6 (kid (kid t 0) 1)) (kid (kid t 0) 1).pos,.Name y (kid (kid t 0) 2).pos,[],0]] (dM (kid t 0)) (kid t 0).pos) [op] [d8 P m c rhs (kid t 1)] t.pos
abbrev cmK(P:Pg)(m:Nat)(c:Ct)(i:Nat)(op:CmpOp)(rhs:Ex)(t:Expr):Bool:=(bvK c (dM (kid t 0)) (V6 (kid (kid t 0) 1))&&(mR (dM (kid t 0)) (V6 (kid (kid t 0) 1))&&(cA (V6 (kid (kid t 0) 1))&&decide ((dM (kid t 0)).names.lookup (qE P i)=some .globalImplicit))))&&(uU P m c rhs (kid t 1)&&(not (behindInMarks op (d8 P m c rhs (kid t 1)))))
abbrev finS(P:Pg)(m:Nat)(c:Ct)(i:Nat)(y:Str)(op:CmpOp)(rhs:Ex)(fs:Sm->Stmt->Stmt)(ret:Bool)(b:List Sm)(t:Stmt):Stmt:=match ret with
 |true=>.Return (!(Wa P m c i y op rhs (aG t 0))) t.pos
 |false=>.If (Wa P m c i y op rhs (aG t 0)) (match b with |x::_=>[fs x (sg (Fo t) 0)] | []=>[]) [] t.pos
abbrev Wc(ks:Sm->Stmt->Bool)(ret:Bool)(b:List Sm)(t:Stmt):Bool:=match ret with
 |true=>b.isEmpty
 |false=>(match b with |x::l=>l.isEmpty&&ks x (sg (Fo t) 0) | []=>false)
def P6{P:Pg}{m:Nat}{c:Ct}{i:Nat}{y:Str}{op:CmpOp}{rhs:Ex}{RS:Stmt->Sm->Prop}{fs:Sm->Stmt->Stmt}{ks:Sm->Stmt->Bool}(hs:∀{x t},ks x t=true->RS (fs x t) x){ret:Bool}{b:List Sm}{t:Stmt}(h:Wc ks ret b t=true):PL RS (Wa P m c i y op rhs (aG t 0)) (finS P m c i y op rhs fs ret b t) ret b:=by
 cases ret with
 |true=>rw[uP h];show .ret
 |false=>cases b with
  |nil=>symm
  |cons x l=>let(h1,h2):=ao (show (l.isEmpty&&ks x (sg (Fo t) 0))=true from h);rw[uP h1];show .ite (hs h2)
abbrev Wd(P:Pg)(m:Nat)(fs:Sm->Stmt->Stmt)(c:Ct)(x:Sm)(ss:List Stmt):List Stmt:=match x with
 |.rows im it iy ia ib=>Rz c im it iy ia ib ss
 |.calls ic xr op rhs ret b=>(match xr with
  |.refs i _ _ es=>(match es with
   |e::es=>.Assign [.Name (nm c ic) (aG (sg ss 0) 1).pos] (.List [(V7 P m c e (kid (aG (sg ss 0) 0) 0)).ex] (aG (sg ss 0) 0).pos) (sg ss 0).pos::(V9 P m c (nm c ic) es ss.tail++[finS P m c i (nm c ic) op rhs fs ret b (sg ss (es.length+1))])
   | []=>ss)
  |_=>ss)
 |_=>ss
abbrev Wf(P:Pg)(m:Nat)(ks:Sm->Stmt->Bool)(c:Ct)(x:Sm)(ss:List Stmt):Bool:=match x with
 |.rows im it iy ia ib=>RB P c im it iy ia ib ss
 |.calls ic xr op rhs ret b=>(match xr with
  |.refs i ir ca es=>(match es with
   |e::es=>decide (ca=P.gZ)&&((stB c ic&&mS c ic)&&(V8 P m c i ir e (kid (aG (sg ss 0) 0) 0)&&(decide (es.length<900)&&(P4 P m c i ir es ss.tail&&(cmK P m c i op rhs (aG (sg ss (es.length+1)) 0)&&Wc ks ret b (sg ss (es.length+1)))))))
   | []=>false)
  |_=>false)
 |_=>false
def Wg(hs:∀{x t},ks x t=true->RS (fs x t) x)(h:Wf P m ks c x ss=true):VG P (Cm P c) RS c (Wd P m fs c x ss) x:=by
 cases x
 case rows im it iy ia ib=>show J4 h
 case calls ic xr op rhs ret b=>
  cases xr
  case refs i ir ca es=>
   cases es with
   |nil=>symm
   |cons e es=>
    let(h1,a1):=ao (show (decide (ca=P.gZ)&&((stB c ic&&mS c ic)&&(V8 P m c i ir e (kid (aG (sg ss 0) 0) 0)&&(decide (es.length<900)&&(P4 P m c i ir es ss.tail&&(cmK P m c i op rhs (aG (sg ss (es.length+1)) 0)&&Wc ks ret b (sg ss (es.length+1))))))))=true from h);obtain rfl:=dec h1;let(h2,a2):=ao a1;let(h3,a3):=ao a2;let(h4,a4):=ao a3;let(h5,a5):=ao a4;let(h6,h7):=ao a5;let(q1,q2,q3):=P5 h5;let(k1,k2):=ao (ao h6).1;let(k3,k4):=ao (ao k1).2;show .mk (dec (ao (ao h2).1).1) (ao (ao h2).1).2 (fL (ao h2).2).2.1 (fL (ao h2).2).2.2 q1 (.cons (Cm.mk h3) q2) (by rw[q3];show dec h4)
     #[(dec (ao (ao k4).2).1).1,(ao k1).1,k3,gK (ao k4).1,(dec (ao (ao k4).2).1).2,(ao (ao k4).2).2,(ao k2).1,(ao (ao k2).2).1,dec (ao (ao k2).2).2] (.mk (ao (ao h6).2).1) (kj (ao (ao h6).2).2) (P6 hs h7)
  all_goals show nt h
 all_goals show nt h
abbrev srS1(P:Pg)(m:Nat)(fs:Sm->Stmt->Stmt)(c:Ct)(x:Sm)(t:Stmt):Stmt:=match x with
 |.ret x=>.Return (!(d8 P (m+1) c x (aG t 0))) t.pos
 |.expr x=>.Expr (d8 P (m+1) c x (aG t 0)) t.pos
 |.set i x=>.Assign [.Name (nm c i) (aG t 1).pos] (d8 P (m+1) c x (aG t 0)) t.pos
 |.setC i x=>.Assign [.Name (nm c i) (aG t 1).pos] (d8 P (m+1) c x (aG t 0)) t.pos
 |.tgt T x=>.Assign [uS c T (aG t 1)] (d8 P (m+1) c x (aG t 0)) t.pos
 |.item i xj x=>.Assign [.Subscript (.Name (nm c i) (kid (aG t 1) 0).pos) (d8 P (m+1) c xj (kid (aG t 1) 1)) (aG t 1).pos] (d8 P (m+1) c x (aG t 0)) t.pos
 |.ite e a b=>.If (d8 P (m+1) c e (aG t 0)) (rJ (Wd P m fs c) fs a (Fo t)) (rJ (Wd P m fs c) fs b (bd1 t)) t.pos
 |.loop T it b=>.For (uS c T (aG t 0)) (xG (d8 P (m+1) c) it (aG t 1)) (rJ (Wd P m fs c) fs b (Fo t)) [] t.pos
 |.while e b=>.While (d8 P (m+1) c e (aG t 0)) (rJ (Wd P m fs c) fs b (Fo t)) [] t.pos
 |.raise i x=>.Raise (!(.Call (.Name (P.cls.getD i Str.empty) (kid (aG t 0) 0).pos) [d8 P (m+1) c x (kid (aG t 0) 1)] [] (aG t 0).pos)) none t.pos
 |_=>t
abbrev okS1(P:Pg)(m:Nat)(ks:Sm->Stmt->Bool)(c:Ct)(x:Sm)(t:Stmt):Bool:=match x with
 |.ret x=>uU P (m+1) c x (aG t 0)
 |.expr x=>uU P (m+1) c x (aG t 0)&&(not (xE (λ_ _=>true) (d8 P (m+1) c x (aG t 0))))
 |.set i x=>stB c i&&(uU P (m+1) c x (aG t 0)&&(not (xE (λs p=>Pa c (nm c i) (aG t 1).pos p s) (d8 P (m+1) c x (aG t 0)))))
 |.setC i x=>decide (c.N[i]?=!(nm c i))&&(Pa c (nm c i) (aG t 1).pos (aG t 0).pos (dM (aG t 0))&&(uU P (m+1) c x (aG t 0)&&(match x with
  |.comp _ _ _ _ _ _=>true
  |.gI _ _ _ _ _ _ _ _ _=>true
  |_=>false)))
 |.tgt T x=>(match T with |.tp is=>noTup (d8 P (m+1) c x (aG t 0))||Pb c (zW c (aG t 1) 0 is) (d8 P (m+1) c x (aG t 0)) |_=>false)&&(okN c T.ix&&(uU P (m+1) c x (aG t 0)&&(not (xE (λ_ _=>true) (d8 P (m+1) c x (aG t 0))))))
 |.item i xj x=>mS c i&&(uU P (m+1) c xj (kid (aG t 1) 1)&&(uU P (m+1) c x (aG t 0)&&(not (xE (λ_ _=>true) (d8 P (m+1) c x (aG t 0))))))
 |.ite e a b=>uU P (m+1) c e (aG t 0)&&(Ma (Wf P m ks c) ks a (Fo t)&&Ma (Wf P m ks c) ks b (bd1 t))
 |.loop T it b=>okN c T.ix&&(okW P c (uU P (m+1) c) it (aG t 1)&&Ma (Wf P m ks c) ks b (Fo t))
 |.while e b=>uU P (m+1) c e (aG t 0)&&Ma (Wf P m ks c) ks b (Fo t)
 |.raise i x=>decide (P.cls[i]?=!(P.cls.getD i Str.empty))&&(Yj c (P.cls.getD i Str.empty)&&uU P (m+1) c x (kid (aG t 0) 1))
 |.stuck=>true
 |_=>false
abbrev RC(P:Pg)(m:Nat):Nat->Ct->Sm->Stmt->Stmt
 | 0=>λ_ _ t=>t
 |n+1=>λc=>srS1 P m (RC P m n c) c
abbrev RD(P:Pg)(m:Nat):Nat->Ct->Sm->Stmt->Bool
 | 0=>λ_ _ _=>false
 |n+1=>λc=>okS1 P m (RD P m n c) c
abbrev Mf(P:Pg)(c:Ct)(s:Stmt)(x:Sm):Prop:=∃m n t,s=RC P m n c x t/\RD P m n c x t=true
meta abbrev vO (P:Pg) (c:Ct) (ss:List Stmt) (xs:List Sm):Prop:=zT (VG P (Cm P c) (Mf P c) c) (Mf P c) ss xs
def Mf.mk{P:Pg}{m n:Nat}{c:Ct}{x:Sm}{t:Stmt}(h:RD P m n c x t=true):Mf P c (RC P m n c x t) x:=#[m,n,t,rfl,h]
def vO.mk{P:Pg}{m n:Nat}{c:Ct}{xs:List Sm}{ss:List Stmt}(h:Ma (Wf P m (RD P m n c) c) (RD P m n c) xs ss=true):vO P c (rJ (Wd P m (RC P m n c) c) (RC P m n c) xs ss) xs:=V5 (Wg .mk) .mk h
def noC(h:((not (xE (λ_ _=>true) e)))=true):xE (λ_ _=>true) e=false:=kj h
def Mf.J3(h:Mf P c s x):∃m n t,s=srS1 P m (RC P m n c) c x t/\okS1 P m (RD P m n c) c x t=true:=by
 let(m,n,t,rfl,h):=h;cases n with
 |zero=>symm
 |succ n=>show#[m,n,t,rfl,h]
abbrev Mg(e:Expr):Bool:=match e with
 |.Constant .. |.Name .. |.BinOp .. |.Compare .. |.UnaryOp .. |.BoolOp .. |.IfExp .. |.Tuple .. |.List .. |.Subscript .. |.Call .. |.JoinedStr .. |.ListComp .. |.Dict .. |.DictComp ..=>true
 |_=>false
def Cm.Mg(h:Cm P c e x):Mg e=true:=by
 let(n,t,rfl,q):=h.J3;clear h;cases x
 case val d=>exact Ev.Mg (uT d t)=true;delta uT;split <;> rfl
 case peek xe=>let(x,p,a,es,pos,e):=qG (ao q).1;exact Ev.Mg (d8 P n c xe t)=true;rw[e];rfl
 all_goals first |rfl |show Bool.noConfusion (show false=true from q)
section
def Cm.star(h:Cm P c e x)(es:List Expr):starEach (e::es) env=(false,eval e env)::starEach es env:=by have hs:=h.Mg;cases e <;> first |rfl |show Bool.noConfusion (show false=true from hs)
def zR.star(h:Gv P c es xs):starEach es env=es.map λe=>(false,eval e env):=by
 induction es generalizing xs with
 |nil=>rfl
 |cons e es ih=>
  cases h with
  |cons h1 h2=>rw[h1.star,ih h2];rfl
def zR.plain(h:Gv P c es xs):(backTo pos (starEach es env)).any (·.1)=false:=by
 rw[h.star];delta backTo
 induction es generalizing xs with
 |nil=>rfl
 |cons e es ih=>
  cases h with
  |cons h1 h2=>rw[List.map_cons,List.map_cons,List.any_cons,ih h2];rfl
def Cm.folded(h:Cm P c e x)(y:Value):foldedSetIterable e env y=pure y:=by have hs:=h.Mg;cases e <;> first |rfl |show Bool.noConfusion (show false=true from hs)
def xB.folded(h:P0 P c e x)(y:Value):foldedSetIterable e env y=pure y:=by
 cases h with
 |seq h=>show h.folded y
 |bK _ _ _=>rfl
 |iZ _ _ _ _=>rfl
 |enum _ _ _=>rfl
 |zip _ _ _ _=>rfl
def Cm.P7(h:Cm P c e x):uh e:=by have hs:=h.Mg;cases e <;> first |show λ_ _=>rfl |show Bool.noConfusion (show false=true from hs)
end
structure jJ(P:Pg)(rn:Rn):Prop where
 e:∀{X:Cx}{c:Ct}{z:Z}{k:Nat}{x:Ex}{e:Expr}{g g':G}{r:R},bu P k X c->z.K=X.K->Cm P c e x->rn.e z.bor k x g=!(r,g')->aD X z e g r g'
 t:∀{X:Cx}{c:Ct}{z:Z}{k:Nat}{x:Ex}{e:Expr}{g g':G}{b:Bool},bu P k X c->z.K=X.K->Cm P c e x->rn.t z.bor k x g=!(b,g')->cS X z e g b g'
 b:∀{X:Cx}{c:Ct}{z:Z}{k:Nat}{xs:List Sm}{jS:List Stmt}{g g':G}{f:Fl},bu P k X c->c.df=true->z.K=X.K->vO P c jS xs->rn.b z.bor k xs g=!(f,g')->eX X z jS g f g'
 g:∀{X:Cx}{c:Ct}{z:Z}{k:Nat}{f ir:Nat}{l:Lt}{ls:List Lt}{es:List Ex}{fx v:Str}{scope:Scope}{N':List Str}{kb j:Nat}{fp vp cp:Pos}{g g':G}{r:R},bu P k X c->z.K=X.K->nP (Cm P c) fx f ir P.gZ (l::ls) es->BlR c fx scope N' v kb j->rn.e z.bor k (.refs f ir P.gZ es) g=!(r,g')->
  ∃ds,r=.new ds/\(∃q cc,ql X jI q cc)/\(∀m∈l::ls,aO X.env.scope m.scope/\fh m.params m.scope)/\eY (qm X z g jI N' (X.N.length+j) scope (.Call (.Name fx fp) [.Name v vp] [] cp)) (l::ls) ds
def fB(h:jd N N' scope k=true):Names N N' scope k:=by
 delta jd at h;simp only[eQ,l8,l4,t9]at h;let((h1,h2),h3):=h;apply#[h1,λx e=>?_,λi x e hi=>?_]
 . rw[e]at h2;show mI h2
 . have h4:=h3 i hi;rw[e]at h4;simp only[AK,eQ,l8]at h4;show h4
def fY(ct:bu P k X c)(h:qA c.sc scope=true):aO X.env.scope scope:=by
 delta qA at h;simp only[eQ,l8,l4,AK]at h;let(h1,h2):=h;apply#[h1,λy hy=>(h2 y hy).1.1,λy hy e=>?_,λy hy e=>?_,λy hy e=>?_]
 . show ((h2 y hy).1.2).elim (λq=>absurd e q) id
 . show ((h2 y hy).2).elim (λq=>absurd e q) λq=>q.1
 . show ((h2 y hy).2).elim (λq=>absurd e q) λq=>ct.fre _ q.2
def ku{X:Cx}{N':List Str}{scope:Scope}{b:Bk}{x:Str}:(X.blk N' scope b).env.scope.names.lookup x=(scope.names.lookup x).map λk=>if (k==NameKind.free&&X.env.scope.kind==.function&&X.env.kindOf x==some .cell)then NameKind.cell else k:=eV
def bu.blk{P:Pg}{k:Nat}{X:Cx}{c:Ct}{scope:Scope}{N':List Str}(ct:bu P k X c)(hnd:N'.Nodup)(b:Bk):bu P k (X.blk N' scope b) #[N',scope,false,Str.empty]:=by
 apply#[rfl,hnd,λx e=>?_,λx e=>?_,λx e=>?_,λe=>absurd e ⋯,λx e=>?_,λe=>absurd e ⋯,ct.calm,rfl,ct.md,ct.room,λe=>absurd (show Str.empty=("_law_refusals_right":Str)from e) ⋯]
 . have e':=e;rw[ku,e'];rfl
 . have e':=e;exact (X.blk N' scope b).env.scope.names.lookup x=_;rw[ku,e'];rfl
 .
  rw[ku];rcases e with e |e
  . have e':=e;rw[e'];show .inl rfl
  .
   have e':=e;rw[e',B4];by_cases hq:(NameKind.free==NameKind.free&&X.env.scope.kind==.function&&X.env.kindOf x==some .cell)=true
   . rw[i7 hq];show .inl rfl
   . rw[lL hq];show .inr rfl
 .
  rcases e with e |e
  . cases e
  . have e':=e;exact (scope.names.lookup x==some .local)=true;rw[e'];rfl
section
def bA(h:aD X z e g r g'):aD X z e g (norm r) g':=by
 cases r with
 |dat d=>show h
 |new l=>show pN h
 |var i=>show h
def J5(h:aD X z e g r g1)(hd:toD z.bor r g1=!(d,g')):aD X z e g (.dat d) g':=by
 cases r with
 |dat d'=>cases hd;show h
 |new l=>cases hd;show pN h
 |var i=>
  have hd:(if i∈z.bor then none else match g1[i]? with |!(.own l)=>!(D.lst l,g1.set i (.dat (.lst l))) |_=>none)=!(d,g'):=hd
  split at hd
  . cases hd
  .
   ext hb;split at hd
   . ext l hg;cases hd;show Dt h hg hb
   . cases hd
def bB(hS:jJ P rn)(ct:bu P k X c)(hK:z.K=X.K)(hc:Cm P c e x)(h:gJ rn z.bor k x g=!(d,g')):aD X z e g (.dat d) g':=by
 delta gJ at h;split at h
 . ext r g1 e1;show J5 (hS.e ct hK hc e1) h
 . symm
def qH:∀(ds:List D),wc (ds.map R.dat)=!ds
 | []=>rfl
 |d::ds=>by
  exact (match wc (ds.map R.dat)with |some ds=>!(d::ds) |none=>none)=_
  rw[qH ds]
def qI(hS:jJ P rn)(ct:bu P k X c)(hK:z.K=X.K):∀{es:List Expr}{xs:List Ex}{g g':G}{ds:List D},Gv P c es xs->qu rn z.bor k xs g=!(ds,g')->cY X z es g (ds.map .dat) g':=by
 intro es xs g g' ds hc h
 induction hc generalizing g ds with
 |nil=>symm;show eW
 |cons h1 h2 ih=>
  delta qu at h;split at h
  .
   ext d g1 e1;split at h
   . ext ds g2 e2;symm;show dU (bB hS ct hK h1 e1) (ih e2) (h1.star _)
   . symm
  . symm
def qJ(hS:jJ P rn)(ct:bu P k X c)(hK:z.K=X.K):∀{es:List Expr}{xs:List Ex}{g g':G}{rs:List R},Gv P c es xs->argsR rn z.bor k xs g=!(rs,g')->cY X z es g rs g':=by
 intro es xs g g' rs hc h
 induction hc generalizing g rs with
 |nil=>symm;show eW
 |cons h1 h2 ih=>
  delta argsR at h;split at h
  .
   ext r g1 e1;split at h
   .
    ext rs g2 e2;symm;have q:=bA (hS.e ct hK h1 e1);have q2:=ih e2;cases r with
    |dat d=>show dU q q2 (h1.star _)
    |new l=>show dU q q2 (h1.star _)
    |var i=>show Hv q q2 (h1.star _)
   . symm
  . symm
def jB(h:argsR rn bor k [a,b] g=!(rs,g2)):∃r1 r2 g1,rn.e bor k a g=!(r1,g1)/\rn.e bor k b g1=!(r2,g2)/\rs=[norm r1,norm r2]:=by
 delta argsR at h;split at h
 .
  ext r1 g1 e1;delta argsR at h;split at h
  .
   ext rs' g3 e3;split at e3
   . ext r2 g4 e2;cases e3;symm;show#[r1,r2,g1,e1,e2,rfl]
   . cases e3
  . symm
 . symm
def J6(hS:jJ P rn)(ct:bu P k X c)(hK:z.K=X.K):∀{bs:List Expr}{xs:List Ex}{ops:List CmpOp}{g g':G}{d1:D}{b:Bool},Gv P c bs xs->Vu rn z.bor k d1 ops xs g=!(b,g')->uB X z d1 ops bs g b g':=by
 intro bs xs ops g g' d1 b hc h
 induction hc generalizing ops g d1 with
 |nil=>delta Vu at h;split at h <;> first |contradiction |symm
 |cons h1 h2 ih=>
  delta Vu at h;split at h
  .
   ext op x _ e;cases e;cases h2;split at h
   .
    ext d2 g1 e1;split at h
    . ext b e2;symm;show .last (bB hS ct hK h1 e1) (ki hK ct.room e2)
    . symm
   . symm
  .
   ext e;cases e;split at h
   .
    ext d2 g1 e1;split at h
    .
     ext e2;cases h2 with
     |cons h2 h3=>show .link (bB hS ct hK h1 e1) (ki hK ct.room e2) (ih h)
    .
     ext e2;symm;cases h2 with
     |cons h2 h3=>show .stop (bB hS ct hK h1 e1) (ki hK ct.room e2)
    . symm
   . symm
  . symm
def P8(hS:jJ P rn)(ct:bu P k X c)(hK:z.K=X.K):∀{es:List Expr}{xs:List Ex}{g g':G}{r:R},Gv P c es xs->JT rn z.bor k xs g=!(r,g')->aD X z (.BoolOp .And es pos) g r g':=by
 intro es xs g g' b hc h
 induction hc generalizing g with
 |nil=>symm
 |cons h1 h2 ih=>
  cases h2 with
  |nil=>show Hu (hS.e ct hK h1 h)
  |cons h2 h3=>
   delta JT at h;split at h
   . ext g1 e1;show Nh (hS.e ct hK h1 e1) (ih h)
   . ext g1 e1;symm;show Ng (hS.e ct hK h1 e1)
   . symm
def Wh(hS:jJ P rn)(ct:bu P k X c)(hK:z.K=X.K):∀{es:List Expr}{xs:List Ex}{g g':G}{r:R},Gv P c es xs->orF rn z.bor k xs g=!(r,g')->aD X z (.BoolOp .Or es pos) g r g':=by
 intro es xs g g' b hc h
 induction hc generalizing g with
 |nil=>symm
 |cons h1 h2 ih=>
  cases h2 with
  |nil=>show Hu (hS.e ct hK h1 h)
  |cons h2 h3=>
   delta orF at h;split at h
   . ext g1 e1;show T6 (hS.e ct hK h1 e1) (ih h)
   . ext g1 e1;symm;show T5 (hS.e ct hK h1 e1)
   . symm
def J7(hS:jJ P rn)(ct:bu P k X c)(hK:z.K=X.K):∀{es:List Expr}{xs:List Ex}{g g':G}{b:Bool},Gv P c es xs->xh rn z.bor k xs g=!(b,g')->oh X z (.BoolOp .And es pos) g b g':=by
 intro es xs g g' b hc h
 induction hc generalizing g with
 |nil=>symm
 |cons h1 h2 ih=>
  cases h2 with
  |nil=>show M9 (hS.t ct hK h1 h)
  |cons h2 h3=>
   delta xh at h;split at h
   . ext g1 e1;show Nc (hS.t ct hK h1 e1) (ih h)
   . ext g1 e1;symm;show Nb (hS.t ct hK h1 e1)
   . symm
def P9(hS:jJ P rn)(ct:bu P k X c)(hK:z.K=X.K):∀{es:List Expr}{xs:List Ex}{g g':G}{b:Bool},Gv P c es xs->JV rn z.bor k xs g=!(b,g')->oh X z (.BoolOp .Or es pos) g b g':=by
 intro es xs g g' b hc h
 induction hc generalizing g with
 |nil=>symm
 |cons h1 h2 ih=>
  cases h2 with
  |nil=>show TY (hS.t ct hK h1 h)
  |cons h2 h3=>
   delta JV at h;split at h
   . ext g1 e1;show T4 (hS.t ct hK h1 e1) (ih h)
   . ext g1 e1;symm;show T3 (hS.t ct hK h1 e1)
   . symm
def xH(hS:jJ P rn)(ct:bu P k X c)(hK:z.K=X.K)(hc:CmO P c e x)(h:Cb rn z.bor k x g=!(o,g')):uC X z e g o g':=by
 cases hc with
 |none=>symm;show DR
 |@some e' x' hc=>
  have h:(match gJ rn z.bor k x' g with |!(.int i,g1)=>!(!i,g1) |_=>none)=!(o,g'):=h
  split at h
  . ext e1;symm;show DS (bB hS ct hK hc e1)
  . symm
def Ci(ct:bu P k X c)(h:c.sc.names.lookup x=some .globalImplicit):Gl X x:=ct.rz x h
def Qa(h:isW it=false):dJ rn bor k tp it g=match gJ rn bor k it g with |!(.tup l,g1)=>!(l,g1) |!(.lst l,g1)=>!(l,g1) |!(.fix l,g1)=>!(l,g1) |_=>none:=by cases it <;> first |rfl |show Bool.noConfusion (show true=false from h)
def uV(hS:jJ P rn)(ct:bu P k X c)(hK:z.K=X.K)(htp:tp=true->∃es k pos,tg=.Tuple es k pos)(hc:P0 P c iter it)(h:dJ rn z.bor k tp it g=!(ak,g')):fG X z tg iter g ak g':=by
 cases hc with
 |zip ha ha2 hb hg=>
  delta dJ at h;dsimp only at h;split at h
  .
   ext ht;let(es,k0,pos,rfl):=htp ht;split at h
   .
    ext d1 d2 g1 e1;split at h
    .
     ext l m e2 e3;split at h
     . ext e4;symm;show Vf hK (qI hS ct hK (.cons ha (.cons ha2 .nil)) e1) e2 e3 e4 (Ci ct hg) (ct.md.bn _ hb) (ha.star _) (by rw[ha2.star];rfl)
     . symm
    . symm
   . symm
  . symm
 |enum ha hb hg=>
  delta dJ at h;dsimp only at h;split at h
  .
   ext ht;let(es,k0,pos,rfl):=htp ht;split at h
   .
    ext d g1 e1;split at h
    . ext l e2;symm;show Oj hK (dU (bB hS ct hK ha e1) eW (ha.star _)) e2 (Ci ct hg) (ct.md.bn _ hb) (ha.star _)
    . symm
   . symm
  . symm
 |bK ha hb hg=>
  delta dJ at h;dsimp only at h;split at h
  .
   ext j g1 e1;split at h
   . ext hj;symm;simp only[O5,eQ,l8]at hj;show Ny (dU (bB hS ct hK ha e1) eW (ha.star _)) (Ci ct hg) (ct.md.bn _ hb) (by rw[ha.star];rfl) hj.1 hj.2
   . symm
  . symm
 |iZ ha hb' hb hg=>
  delta dJ at h;dsimp only at h;split at h
  .
   ext c0 g1 e1;split at h
   .
    ext j g2 e2;split at h
    . ext hj;symm;simp only[O5,eQ,l8]at hj;show Nz (dU (bB hS ct hK ha e1) (dU (bB hS ct hK hb' e2) eW (hb'.star _)) (ha.star _)) (Ci ct hg) (ct.md.bn _ hb) (by rw[ha.star,hb'.star];rfl) (by rw[hb'.star];rfl) #[hj.1.1,hj.1.2,hj.2.1,hj.2.2]
    . symm
   . symm
  . symm
 |seq hc=>
  have h':=(Qa hc.notW).symm.trans h;split at h'
  . ext e1;cases h';show Ux hK (bB hS ct hK hc e1)
  . ext e1;cases h';show Uy (bB hS ct hK hc e1)
  . ext e1;cases h';show Uz hK (bB hS ct hK hc e1)
  . cases h'
def uW(hS:jJ P rn)(ct:bu P k X c)(hK:z.K=X.K)(hc:rH P c ifs co)(h:qw rn z.bor k co g=!(b,g')):dH X z ifs g b g':=by
 cases hc with
 |none=>symm;show NB
 |some hc=>show NC (hS.t ct hK hc h)
def Cj(h:Gu c tg T):T.j8=true->∃es k pos,tg=.Tuple es k pos:=by
 cases h with
 |nm _ _=>intro e;cases e
 |tp _=>intro _;show#[_,_,_,rfl]
def Wi(ct:bu P k X c)(h:Fd c es is):kY X es is:=by
 induction h with
 |nil=>show .nil
 |cons h1 h2 _ ih=>show .cons (ct.nm h1 h2) ih
def xJ(ct:bu P k X c)(hK:z.K=X.K)(h:Gu c tg T)(hb:∀i∈T.ix,i∉z.bor):iW X z tg T:=by
 cases h with
 |nm h1 h2=>show ZL (ct.nm h1 h2) (hb _ (fR.mpr rfl))
 |tp h1=>show ZM ct.calm hK (Wi ct h1) hb
def uX(hS:jJ P rn){Xb:Bk->Cx}{cb:Ct}(ctb:∀b,bu P k (Xb b) cb)(Ro:∀b,z.K=(Xb b).K){T:Tg}{last:Nat}{ifs:List Expr}{co:Option Ex}{cW:Expr}{xe:Ex}(hi:rH P cb ifs co)(he:Cm P cb cW xe) :
  ∀{ak:List D}{g gE:G},xm rn z.bor k T last co xe ak g=!gE->jE T last (λg b g'=>∀bk:Bk,dH (Xb bk) z ifs g b g') (λg d g'=>∀bk:Bk,aD (Xb bk) z cW g (.dat d) g') ak g gE
 | [],_,_,h=>by symm;show .nil
 |d::l,_,_,h=>by
  delta xm at h;split at h
  . symm
  .
   ext g1 e1;split at h
   . symm
   . ext g2 e2;show .skip e1 (λbk=>uW hS (ctb bk) (Ro bk) hi e2) (uX hS ctb Ro hi he h)
   .
    ext g2 e2;split at h
    . symm
    .
     ext x g3 e3;split at h
     .
      ext acc e4;split at h
      . ext hl;show .take e1 (λbk=>uW hS (ctb bk) (Ro bk) hi e2) (λbk=>bB hS (ctb bk) (Ro bk) he e3) e4 hl (uX hS ctb Ro hi he h)
      . symm
     . symm
end
abbrev jP(P:Pg)(mg:Str->Option Value)(ci:Nat)(C:Addr):Prop:=∃x,P.cls[ci]?=!x/\mg x=!(.ref C)
structure Qc(P:Pg)(k:Nat)(X:Cx)(c:Ct):Prop where
 ct:bu P k X.tW c
 ex:X.ex=[]
 pa:PassesOwn (~~~2) X.A X.env X.xe
structure mU(P:Pg)(rn:Rn):Prop where
 x:∀{X:Cx}{c:Ct}{z:Z}{k:Nat}{x:Ex}{e:Expr}{g g':G}{ci:Nat}{C:Addr},Qc P k X c->z.K=X.K->jP P X.mg ci C->Cm P c e x->rn.x z.bor k x g=!(ci,g')->Gq X z e g C g'
 t:∀{X:Cx}{c:Ct}{z:Z}{k:Nat}{x:Ex}{e:Expr}{g g':G}{ci:Nat}{C:Addr},Qc P k X c->z.K=X.K->jP P X.mg ci C->Cm P c e x->rn.xt z.bor k x g=!(ci,g')->X5 X z e g C g'
 b:∀{X:Cx}{c:Ct}{z:Z}{k:Nat}{xs:List Sm}{jS:List Stmt}{g g':G}{ci:Nat}{C:Addr},Qc P k X c->c.df=true->z.K=X.K->jP P X.mg ci C->vO P c jS xs->rn.xb z.bor k xs g=!(ci,g')->N2 X z jS g C g'
structure Qd(P:Pg)(fi:Fi)(fx:Fx):Prop where
 np:fx.np=fi.ps.length
 n:fx.n=fi.N.length
 body:vO P #[fi.N,aH fi.st,true,fi.qual] (bH fi.st) fx.body
abbrev gQ(P:Pg)(fns:List Fx):Prop:=∀(f:Nat) (fi:Fi) (fx:Fx),P.fn[f]?=!fi->fns[f]?=!fx->Qd P fi fx
def qK{P:Pg}{k:Nat}{prog:Program}{w:World}{K:Frag}{mg:Str->Option Value}{base:Heap}{N ps:List Str}{qual:Str}{scope:Scope}{f:Addr}{bO:Value}{A:Around}{outer:List Env}{s:Shared}{H:Hp}{E:XK}
  (S:cI N ps scope) (md:uM P K mg) (bZ:PySem.W.codeIn K bO qual=true) (hr:cO k (A.deeper (envOfC qual scope s⁻¹ f bO))):bu P k (g9 yX prog w K mg base N qual scope f bO A outer s H E).tW #[N,scope,true,qual]:=by
 apply#[rfl,S.nd,λx e=>e,λx e=>e,λx e=>e,λ_ x e=>e,λx _=>rfl,λ_=>?_,rfl,rfl,md,hr,λe h=>#[by have e:=e;subst e;rfl,md.lam h _ (by have e:=e;show e▸bZ)]]
 exact (if scope.kind.isAnnotationScope then ScopeKind.function else scope.kind)=.function
 rw[S.kind];rfl
section
def J8(hS:jJ P rn){k':Nat}(ct:bu P (k'+1) X c)(hK:z.K=X.K){f:Nat}{fi:Fi}{fx:Fx}(hfi:P.fn[f]?=!fi)(vL:Qd P fi fx)(BV:c.sc.names.lookup fi.name=some .globalImplicit){e:Expr}{es:List Expr}{xs:List Ex}{rs:List R}{g g1 gO:G}{r:R}
  (hc:Gv P c (e::es) xs) (ha:cY X z (e::es) g rs g1) (h:aR rn fx k' rs g1=!(r,gO)):aD X z (.Call (.Name fi.name p) (e::es) [] pos) g r gO:=by
 let(f,fd,hm,hF,Yk,hB,jR):=ct.md.fn _ fi hfi;have F:jT X.prog X.w X.K X.mg X.base yX (k'+1) f fd fi.ps (Rj X.K fi.N fi.ps.length λbor g r g'=>rn.b bor k' fx.body g=!(.rt r,g')\/(rn.b bor k' fx.body g=!(.nx,g')/\r=.dat .non)):=by
  apply Ia hF Yk λbO A outer s H E bZ hr z' g r g' Yc hrun=>?_
  have ct':bu P k' (g9 yX X.prog X.w X.K X.mg X.base fi.N fi.qual (aH fi.st) f bO A outer s H E).tW #[fi.N,aH fi.st,true,fi.qual]:=qK Yk ct.md bZ hr;rcases hrun with h |⟨h,rfl⟩
  . show#[_,hS.b ct' rfl Yc vL.body h,.inl rfl]
  . show#[_,hS.b ct' rfl Yc vL.body h,.inr #[rfl,rfl]]
 have h1:∃h2:Gv P c es xs.tail,starEach (e::es) X.env=(false,eval e X.env)::starEach es X.env:=by
  cases hc with
  |cons h1 h2=>show#[h2,h1.star _]
 let(h2,cZ):=h1;delta aR at h;split at h
 .
  ext hl;split at h
  . symm
  .
   ext gs e1;split at h
   .
    ext r0 gc e2;split at h
    .
     ext gO' e3;split at h
     . ext r' e4;symm;show Br F hK ct.room (ct.rz _ BV) hm hF.kp hB ha (by rw[hl.1,vL.np]) e1 hl.2 (.inl (by rw[<- vL.n];show e2)) e3 e4 jR cZ h2.plain
     . symm
    . symm
   .
    ext gc e2;split at h
    . ext gO' e3;symm;show Br F hK ct.room (ct.rz _ BV) hm hF.kp hB ha (by rw[hl.1,vL.np]) e1 hl.2 (.inr #[by rw[<- vL.n];show e2,rfl]) e3 rfl jR cZ h2.plain
    . symm
   . symm
 . symm
def xK(hS:jJ P rn)(ct:bu P k X c)(hK:z.K=X.K)
  (hnd:N'.Nodup) (hT:Gu #[N',scope,false,Str.empty] tg T) (iC:∀i∈T.ix,c.N.length<=i/\i<c.N.length+kk) (hi:P0 P c iter it) (hf:rH P #[N',scope,false,Str.empty] ifs co) (he:Cm P #[N',scope,false,Str.empty] cW xe)
  (h:cz rn z.bor k c.N.length kk T it co xe g=!(acc,g')) :
  ∃ak g1 gE,fG X z tg iter g ak g1/\(∀b:Bk,iW (X.blk N' scope b) z tg T)/\(∀i∈T.ix,g1.length<=i/\i<g1.length+kk)/\
   jE T (g1.length+kk) (λg b g'=>∀bk:Bk,dH (X.blk N' scope bk) z ifs g b g') (λg d g'=>∀bk:Bk,aD (X.blk N' scope bk) z cW g (.dat d) g') ak (gC kk g1) gE/\gE[g1.length+kk]?=!(.own acc)/\g'=gE.take g1.length:=by
 delta cz at h;split at h
 . symm
 .
  ext ak g1 e1;split at h
  .
   ext hl;split at h
   . symm
   .
    ext gE e2;split at h
    .
     ext acc' e3;symm;let(hl,hb):=hl;rw[<- hl]at e2 e3 iC ⊢
     apply#[ak,g1,gE,uV hS ct hK (Cj hT) hi e1,λb=>xJ (ct.blk hnd b) hK hT λi hi hm=>?_,iC,uX hS (λb=>ct.blk hnd b) (λb=>hK) hf he e2,e3,rfl]
     rw[List.any_eq_false]at hb;show hb i hi (oC hm)
    . symm
  . symm
def uY(hS:jJ P rn)(ct:bu P k X c)(hK:z.K=X.K)(hnd:N'.Nodup)(hT:Gu #[N',scope,false,Str.empty] tg T)(hf1:rH P #[N',scope,false,Str.empty] f1 c1)
  (hi:P0 P #[N',scope,false,Str.empty] iter it) (hf:rH P #[N',scope,false,Str.empty] ifs co) (he:Cm P #[N',scope,false,Str.empty] cW xe):∀{ak:List D}{g gE:G},xq rn z.bor k T1 c1 T it co xe last ak g=!gE->
  iJ T1 (λg b g'=>∀bk:Bk,dH (X.blk N' scope bk) z f1 g b g') (zM X z N' scope tg iter cW ifs T last) ak g gE
 | [],_,_,h=>by symm;show .nil
 |d::l,_,_,h=>by
  delta xq at h;split at h
  . symm
  .
   ext g1 e1;split at h
   . symm
   . ext g2 e2;show .skip e1 (λbk=>uW hS (ct.blk hnd bk) hK hf1 e2) (uY hS ct hK hnd hT hf1 hi hf he h)
   .
    ext g2 e2;split at h
    . symm
    .
     ext items2 g3 e3;split at h
     . symm
     . ext g4 e4;show .take e1 (λbk=>uW hS (ct.blk hnd bk) hK hf1 e2) #[items2,g3,λbk=>uV hS (ct.blk hnd bk) hK (Cj hT) hi e3,uX hS (λb=>ct.blk hnd b) (λb=>hK) hf he e4] (uY hS ct hK hnd hT hf1 hi hf he h)
def sW(hS:jJ P rn)(ct:bu P k X c)(hK:z.K=X.K)
  (hnd:N'.Nodup) (hT1:Gu #[N',scope,false,Str.empty] t1 T1) (hT:Gu #[N',scope,false,Str.empty] tg T) (hTi1:∀i∈T1.ix,c.N.length<=i/\i<c.N.length+kk) (iC:∀i∈T.ix,c.N.length<=i/\i<c.N.length+kk) (hi1:P0 P c i1 rq) (hf1:rH P #[N',scope,false,Str.empty] f1 c1) (hi:P0 P #[N',scope,false,Str.empty] iter it) (hf:rH P #[N',scope,false,Str.empty] ifs co) (he:Cm P #[N',scope,false,Str.empty] cW xe)
  (h:j9 rn z.bor k c.N.length kk T1 rq c1 T it co xe g=!(acc,g')) :
  ∃ak g1 gE,fG X z t1 i1 g ak g1/\(∀b:Bk,iW (X.blk N' scope b) z t1 T1)/\(∀b:Bk,iW (X.blk N' scope b) z tg T)/\(∀i∈T1.ix,g1.length<=i/\i<g1.length+kk)/\(∀i∈T.ix,g1.length<=i/\i<g1.length+kk)/\
   iJ T1 (λg b g'=>∀bk:Bk,dH (X.blk N' scope bk) z f1 g b g') (zM X z N' scope tg iter cW ifs T (g1.length+kk)) ak (gC kk g1) gE/\gE[g1.length+kk]?=!(.own acc)/\g'=gE.take g1.length:=by
 delta j9 at h;split at h
 . symm
 .
  ext ak g1 e1;split at h
  .
   ext hl;split at h
   . symm
   .
    ext gE e2;split at h
    .
     ext acc' e3;symm;let(hl,hb):=hl;rw[<- hl]at e2 e3 iC hTi1 ⊢
     rw[List.any_eq_false]at hb;show#[ak,g1,gE,uV hS ct hK (Cj hT1) hi1 e1,λb=>xJ (ct.blk hnd b) hK hT1 λi hi hm=>hb i (y0 _ hi) (oC hm),λb=>xJ (ct.blk hnd b) hK hT λi hi hm=>hb i (i8 _ hi) (oC hm),hTi1,iC,uY hS ct hK hnd hT hf1 hi hf he e2,e3,rfl]
    . symm
  . symm
end
def Qe{P:Pg}{c:Ct}{er y ke en L8:Str}{Ew np Yb py bw qX kp wU wR cG qY jq:Pos}{j:Nat}{rest:List Stmt}{bd:List Sm}(h:vO P c (.Assign [.Name er Ew] (.Constant .none j np) Yb::Jv y ke en L8 py bw qX kp wU wR cG qY jq::rest) bd):vO P c rest (bd.drop 2):=by
 have nog:∀{s:Stmt}{ss:List Stmt}{x:Sm}{r:List Stmt},VG P (Cm P c) (Mf P c) c ss x->ss++r=s::rest->(∀a b p,s≠.Assign a b p)->False:=λg e n=>by
  cases g <;> (injection e with e1 e2;show n _ _ _ e1.symm)
 generalize hq:(Stmt.Assign [.Name er Ew] (.Constant .none j np) Yb::Jv y ke en L8 py bw qX kp wU wR cG qY jq::rest)=jS at h;cases h with
 |nil=>cases hq
 |grp g _=>cases g <;> (injection hq with e1 e2;injection e1 with e3 e4;cases e4)
 |cons _ h1=>
  injection hq with e1 e2;generalize hq2:(Jv y ke en L8 py bw qX kp wU wR cG qY jq::rest)=aM at e2;subst e2;cases h1 with
  |nil=>cases hq2
  |grp g _=>show (nog g hq2.symm (λa b p e=>nomatch e)).elim
  |cons _ h2=>injection hq2 with e1 e2;subst e2;show h2
section
variable{X:Cx}{c:Ct}
def J9(ct:bu P k X c)(h:Fe P c es ns):p8 X es ns/\∀n∈ns,n∈uN:=by
 induction h with
 |nil=>show#[.nil,λn hn=>nomatch hn]
 |@cons T n pos es ns h1 h2 h3 h4 _ ih=>
  apply#[.cons ?_ ih.1,λm hm=>(dS.mp hm).elim (λe=>e▸h4) (ih.2 m)]
  subst h3;apply#[ct.rz _ h2,ct.md.bn _ h1,?_,?_,?_] <;> (delta uN at h4;simp only[dS,l9,A7]at h4;rcases h4 with rfl |rfl |rfl |rfl |rfl |rfl <;> first |rfl |decide)
def Wj(h:aD X z e g r g1)(hp:pk r g1=!d)(hs:starEach [e] X.env=(false,eval e X.env)::starEach [] X.env):cY X z [e] g [r] g1:=by
 cases r with
 |dat d=>show dU h eW hs
 |new l=>cases hp
 |var i=>show Hv h eW hs
def uZ(hc:Cm P c e x):((backTo bw (starEach [e] X.env)).all (λx=>(not x.1))&&(backToKw bw (keywordEach [] X.env)).all (λx=>x.1.isSome)
   && decide ([e].length+([]:List Keyword).length+(if ([]:List Keyword).isEmpty then 0 else 1)<30))=true:=by
 rw[hc.star];rfl
def Cm.attr(h:Cm P c e x)(m:Str):attributeBase e m env (eval e env)=eval e env:=by
 let(n,t,rfl,hk):=h.J3;clear h;cases x
 case val d=>rw[show Fj P (d8 P n) c (.val d) t=uT d t from rfl];delta uT;split <;> rfl
 case peek xe=>let(x,p,a,es,pos,e):=qG (ao hk).1;rw[show Fj P (d8 P n) c (.peek xe) t=d8 P n c xe t from rfl,e];rfl
 case call i xs=>cases xs with |nil=>cases (ao (ao (ao hk).2).2).2 |cons x xs=>rfl
 case blt b xs=>cases xs with |nil=>cases (ao (ao hk).2).2 |cons x xs=>rfl
 all_goals first |rfl |show Bool.noConfusion (show false=true from hk)
def Cp(hS:jJ P rn)(hX:mU P rn){fns:List Fx}(hF:gQ P fns){k':Nat}{Y:Cx}(md:uM P Y.K Y.mg)(hr:cO (k'+2) Y.A)(hcm:Y.calm=true)(hKY:z.K=Y.K)(Dq:c.N.Nodup)(hN:X.N=c.N){f ir:Nat}{fi:Fi}{l:Lt}{xb:Ex}{g Ju g3:G}{r0 r':R}{fx:Fx}{ci:Nat}{C:Addr}
  (h1:P.fn[f]?=!fi) (h5:P.lam=true) (h6:J1 fi ir P.kt=true) (h8:Fg l.params l.scope=true) (h9:Cm P #[c.N,l.scope,false,Str.empty] l.body xb)
  (e1:fns[f]?=!fx) (e2:rn.x [] k' xb (g.map noOwn)=!(ci,Ju)) (e3:P.gZ[ci]?=!C) (e4:rn.b [] k' (fx.body.drop 2) ((List.replicate fx.n .no).set ir (.dat (.nq C)))=!(.rt r0,g3)) (e5:dF [] g3 r0=!r') {fa:Addr}{fd:FuncData} (F:LQ Y.K fi.name fi.qual fi.st fa fd) (Sc:cI fi.N fi.ps (aH fi.st)) (bd:L2.Binds Y.K fd fi.ps []):zF Y X z g jI l r' fa:=by
 have vL:=hF f fi fx h1 e1;let(xC,c1,c2,qC,kC):=md.gZ ci C e3;let(dk,D,mD,qD,hup):=md.kt h5;have L:=uO h8;delta J1 at h6;split at h6
 .
  ext er y ke en L8 Rx hv;let(Ew,j,np,Yb,py,bw,qX,kp,wU,wR,cG,qY,jq,rest,cZ):=PK hv;let(p1,p2):=ao h6;let((q1,q2,q3,q4),(q5,q6,q7),(q8,q9),q10,q11,q12):=dec p1;subst q1 q2 q3;let(p3,p4):=ao p2;have pe:=bL (ao p3).1;have py':=bL (ao p3).2;have vy:iR (aH fi.st) y:=by
   have:=(ao p4).1;delta mR at this;split at this
   . ext e;show .inl e
   . ext e;show .inr (.inl e)
   . ext e;show .inr (.inr e)
   . cases this
  have lr:Loc (aH fi.st) L8:=by
   have:=(ao p4).2;delta eZ at this;split at this
   . ext e;show .inl e
   . ext e;show .inr e
   . cases this
  have hb:=vL.body;rw[cZ]at hb;have hrs:vO P #[fi.N,aH fi.st,true,fi.qual] rest (fx.body.drop 2):=Qe hb;intro aj σ1 σ0 H1 s1 g1 As A0 M p c' cl pm jr us Q E I1 S1 hp1 hc1 Cl0 sl0 rv hQ;apply Vj (k:=k') (C:=C) (D:=D) (y:=y) (ke:=P.kt) (en:=Rx) (er:=L8) (ie:=fi.N.idxOf Rx) (ir:=ir) (Ju:=Ju) (g3:=g3) (r:=r0) (N:=X.N) hKY hr hcm F cZ (q4▸Sc) (q4▸bd)
   #[Sc.nd,q5,mD,dk,qC,qD,hup C (l7 e3),kC,q6,q7,pe.1,pe.2,q8,lr,q9,vy,py'.1,py'.2,q10,q11,q12] L (λXf s H xe zl a1 a2 a3 a4 a5 hr hc hp hzK hzb=>?_) (λbO A outer s H E bZ hr zf hzK hzb=>?_) e5 I1 S1 hp1 hc1 Cl0 sl0.noOwn (λi l e=>Eu e) rv hQ
  .
   have hci:jP P (wO Xf X.N jI l.scope p (.ref c') cl s H xe).mg ci C:=#[xC,c1,a4▸c2];apply hX.x (c:=#[c.N,l.scope,false,Str.empty]) #[#[hN,Dq,λx e=>e,λx e=>e,λx e=>e,(λe=>nomatch e),λx e=>?_,(λe=>nomatch e),rfl,rfl,?_,hr.deeper _,λe=>absurd (show Str.empty=("_law_refusals_right":Str)from e) ⋯],rfl,hp] (hzK.trans a3.symm) hci h9 (by rw[hzb];show e2)
   .
    rcases e with e |e
    . cases e
    . show absurd rfl (L.nl _ (L2.mem_of_lookup e))
   . exact uM P Xf.K Xf.mg;rw[a3,a4];show md
  .
   have e4':rn.b zf.bor k' (fx.body.drop 2) ((List.replicate fi.N.length .no).set ir (.dat (.nq C)))=!(.rt r0,g3):=by rw[hzb,<- vL.n];show e4
   show hS.b (qK Sc md bZ hr) rfl hzK hrs e4'
 . cases h6
def RJ(ct:bu P k X c)(h4:c.q = "_law_refusals_right")(h5:P.lam=true):∃q cc,ql X jI q cc:=by let(hqn,cc,q,hcode,hC,hq,hbi,hqm):=ct.lam h4 h5;show#[q,cc,hq,λp hp _=>Ds hp,hcode,hC,hqn,hbi,hqm]
def Ka{fx:Str}{l:Lt}{f ir:Nat}{e:Ex}(hc:Cm P c (.Call (.Name fx p0) [l.ex] [] p0) (.j7 f ir [] e)):∃fi,P.fn[f]?=!fi/\fi.name=fx/\c.q = "_law_refusals_right" /\P.lam=true/\J1 fi ir P.kt=true/\qA c.sc l.scope=true/\Fg l.params l.scope=true/\Cm P #[c.N,l.scope,false,Str.empty] l.body e:=by let(n,t,q,h):=hc.J3;let(h1,k1):=ao h;let(h2,k2):=ao k1;let(h3,k3):=ao k2;let(h5,k5):=ao k3;let(fi,e1,e2):=oO h1;delta V2 at h5;rw[e1]at h5;let(a,b,s,p):=l;injection q with q1 q2;injection q1 with q1;injection q2 with q2;injection q2 with q3 q4 q5;subst q1 q3 q4 q5;show#[fi,e1,e2,dec (ao h3).1,(ao h3).2,h5,(ao k5).1,(ao (ao k5).2).1,.mk (ao (ao k5).2).2]
def Qf(hS:jJ P rn)(hX:mU P rn){fns:List Fx}(hF:gQ P fns){k':Nat}(ct:bu P (k'+2) X c)(hK:z.K=X.K){x:Str}{f ir:Nat}{fi:Fi}{params:Arguments}{body:Expr}{scope:Scope}{xb:Ex}{fp lpos pos:Pos}{g Ju g3:G}{r0 r':R}{fx:Fx}{ci:Nat}{C:Addr}
  (h1:P.fn[f]?=!fi) (h2:fi.name=x) (h3:c.sc.names.lookup x=some .globalImplicit) (h4:c.q = "_law_refusals_right") (h5:P.lam=true) (h6:J1 fi ir P.kt=true) (h7:qA c.sc scope=true) (h8:Fg params scope=true) (h9:Cm P #[c.N,scope,false,Str.empty] body xb)
  (e1:fns[f]?=!fx) (e2:rn.x [] k' xb (g.map noOwn)=!(ci,Ju)) (e3:P.gZ[ci]?=!C) (e4:rn.b [] k' (fx.body.drop 2) ((List.replicate fx.n .no).set ir (.dat (.nq C)))=!(.rt r0,g3)) (e5:dF [] g3 r0=!r') :
  aD X z (.Call (.Name x fp) [.Lambda params body scope lpos] [] pos) g r' g:=by
 let(fa,fd,m1,F,Sc,bd,db):=ct.md.fn f fi h1;let(q,cc,mk):=RJ ct h4 h5;subst h2;show Oz (l:=#[params,body,scope,lpos]) hK F (ct.rz _ h3) m1 db mk (fY ct h7) (uO h8) (Cp hS hX hF ct.md ct.room ct.calm hK ct.nd ct.N h1 h5 h6 h8 h9 e1 e2 e3 e4 e5 F Sc bd)
def Qg(hS:jJ P rn)(hX:mU P rn)(hF:gQ P fns)(ct:bu P k X c)(hK:z.K=X.K)(B:BlR c fx scope N' v kb j)(hc:Cm P c (.Call (.Name fx p0) [l.ex] [] p0) (.j7 f ir [] e))(ed:JW rn k fns f ir P.gZ e g=!d) :
  ((∃q cc,ql X jI q cc)/\aO X.env.scope l.scope/\fh l.params l.scope)/\qm X z g jI N' (X.N.length+j) scope (.Call (.Name fx fp) [.Name v vp] [] cp) l d:=by
 let(fi,h1,h2,h4,h5,h6,h7,h8,h9):=Ka hc
 .
  delta JW at ed;split at ed
  .
   ext fxx k' e1;split at ed
   .
    ext ci Ju e2;split at ed
    .
     ext C e3;split at ed
     .
      ext r0 g3 e4;split at ed
      .
       ext r' e5;let(fa,fd,m1,F,Sc,bd,db):=ct.md.fn _ fi h1;subst h2;have Bl:=fY ct h7;have L:=uO h8;let(dv,bO):=bL B.pl;show#[#[RJ ct h4 h5,Bl,L],Vl Bl L F m1 db (λbk=>(ct.blk B.nd bk).rz _ B.gl) (by rw[ct.N];show B.ix) (λbk=>(ct.blk B.nd bk).vis B.vi) dv bO
        (λbk=>Cp (Y:=X.blk N' scope bk) hS hX hF ct.md ct.room ct.calm hK ct.nd ct.N h1 h5 h6 h8 h9 e1 e2 e3 e4 e5 F Sc bd) ed]
      . cases ed
     . cases ed
    . cases ed
   . cases ed
  . cases ed
def Qh(hS:jJ P rn)(hX:mU P rn)(hF:gQ P fns)(ct:bu P k X c)(hK:z.K=X.K)(B:BlR c fx scope N' v kb j) :
  ∀{ls:List Lt}{es:List Ex}{ds:List D},nP (Cm P c) fx f ir P.gZ ls es->xu rn k fns f ir P.gZ es g=!ds->(∀m∈ls,(∃q cc,ql X jI q cc)/\aO X.env.scope m.scope/\fh m.params m.scope)/\eY (qm X z g jI N' (X.N.length+j) scope (.Call (.Name fx fp) [.Name v vp] [] cp)) ls ds:=by
 intro ls es ds hl h
 induction hl generalizing ds with
 |nil=>symm;show#[(λm h=>nomatch h),.nil]
 |cons hc hcs ih=>
  delta xu at h;split at h
  .
   ext d ed;split at h
   . ext ds eds;symm;let(q1,q2):=ih eds;let(q3,q4):=Qg hS hX hF ct hK B hc ed;show#[λm hm=>(dS.mp hm).elim (λe=>e▸q3) (q1 m),.cons q4 q2]
   . symm
  . symm
def Kc(hS:jJ P rn)(hX:mU P rn)(hF:gQ P fns)(ct:bu P k X c)(hK:z.K=X.K)(hl:nP (Cm P c) fx f ir P.gZ (l::ls) es)(B:BlR c fx scope N' v kb j)(h:bq rn z.bor k fns (.refs f ir P.gZ es) g=!(r,g')) :
  ∃ds,r=.new ds/\(∃q cc,ql X jI q cc)/\(∀m∈l::ls,aO X.env.scope m.scope/\fh m.params m.scope)/\eY (qm X z g jI N' (X.N.length+j) scope (.Call (.Name fx fp) [.Name v vp] [] cp)) (l::ls) ds:=by
 delta bq at h;dsimp only at h;split at h
 . ext ds e;symm;let(q1,q2):=Qh hS hX hF ct hK B hl e;show#[ds,rfl,(q1 l dC).1,λm hm=>(q1 m hm).2,q2]
 . symm
abbrev Yl(X:Cx)(z:Z)(e:Expr)(g:G)(o:Option (R×G)):Prop:=∀r g',o=!(r,g')->aD X z e g r g'
def Yl.none:Yl X z e g none:=λ_ _ h=>nomatch h
def Yl.some{e:Expr}{g g':G}{r:R}(h:aD X z e g r g'):Yl X z e g (!(r,g')):=λ_ _ q=>by cases q;show h
def xM(h:uU P (m+1) c (.comp n' kk T it co xe) t=true):n'=c.N.length/\qA c.sc (dM t)=true/\jd c.N (jf c.N (dM t)) (dM t) kk=true/\(jf c.N (dM t)).Nodup/\Gu (gP c t) (uS (gP c t) T (kid t 1)) T/\(∀i∈T.ix,c.N.length<=i/\i<c.N.length+kk)/\P0 P c (xG (d8 P m c) it (kid t 2)) it/\rH P (gP c t) (zU (d8 P m (gP c t)) (kid t 3) co) co/\Cm P (gP c t) (d8 P m (gP c t) xe (kid t 0)) xe:=by let(h1,a1):=ao h;let(h2,a2):=ao a1;let(h3,a3):=ao a2;let(h4,a4):=ao a3;let(h5,a5):=ao a4;show#[dec h1,(ao h2).1,(ao (ao h2).2).1,gK (ao (ao h2).2).2,qF h3,zX h4,uR (R:=Cm P c) .mk h5,zV (R:=Cm P (gP c t)) .mk (ao a5).1,.mk (ao a5).2]
def sX(h:uU P (m+1) c (.gI n' kk T1 rq c1 T it co xe) t=true):n'=c.N.length/\qA c.sc (dM t)=true/\jd c.N (jf c.N (dM t)) (dM t) kk=true/\(jf c.N (dM t)).Nodup/\Gu (gP c t) (uS (gP c t) T1 (kid t 1)) T1/\Gu (gP c t) (uS (gP c t) T (kid t (3+o1 c1))) T/\(∀i∈T1.ix,c.N.length<=i/\i<c.N.length+kk)/\(∀i∈T.ix,c.N.length<=i/\i<c.N.length+kk)/\P0 P c (xG (d8 P m c) rq (kid t 2)) rq/\rH P (gP c t) (zU (d8 P m (gP c t)) (kid t 3) c1) c1/\P0 P (gP c t) (xG (d8 P m (gP c t)) it (kid t (4+o1 c1))) it/\rH P (gP c t) (zU (d8 P m (gP c t)) (kid t (5+o1 c1)) co) co/\Cm P (gP c t) (d8 P m (gP c t) xe (kid t 0)) xe:=by let(h1,a1):=ao h;let(h2,a2):=ao a1;let(h3,a3):=ao a2;let(h4,a4):=ao a3;let(h5,a5):=ao a4;let(h6,h7):=ao a5;show#[dec h1,(ao h2).1,(ao (ao h2).2).1,gK (ao (ao h2).2).2,qF (ao h3).1,qF (ao h3).2,zX (ao h4).1,zX (ao h4).2,uR (R:=Cm P c) .mk (ao h5).1,zV (R:=Cm P (gP c t)) .mk (ao h5).2,uR (R:=Cm P (gP c t)) .mk (ao h6).1,zV (R:=Cm P (gP c t)) .mk (ao h6).2,.mk h7]
def Wk(ct:bu P k X c)(hK:z.K=X.K)(h:okV P c d t=true):aD X z (uT d t) g (.dat d) g:=by
 delta okV at h;delta uT;cases e:zS t with
 |some y=>rw[e]at h;let(hd,v,u,q1,q2,q3):=ct.md.ct _ _ (V1 (ao h).2);show M8 (ct.rz _ (dec (ao h).1)) q1 q2 (hK▸q3) hd
 |none=>
  rw[e]at h;cases d with
  |int i=>show Tw
  |bl i=>show Zx
  |str i=>show TF
  |non=>show Tz
  |_=>show nt h
def Qi(hS:jJ P rn)(hX:mU P rn){fns:List Fx}(hF:gQ P fns)(ct:bu P k X c)(hK:z.K=X.K){e:Expr}{x:Ex}{g:G}(hc:Cm P c e x):Yl X z e g (bq rn z.bor k fns x g):=by
 let(n,t,rfl,hk):=hc.J3;clear hc;cases x
 case val d=>show .some (Wk ct hK hk)
 case slot i=>
  have h1:=(fL hk).1;have h2:=(fL hk).2.1;have h3:=(fL hk).2.2;let(hd,bZ):=bL h3;delta bq;dsimp only;split
  . ext e1;show .some (TJ (by rw[ct.N];show h1) (ct.vis h2) hd bZ e1)
  . ext e1;show .some (M7 (by rw[ct.N];show h1) (ct.vis h2) hd bZ e1)
  . show .none
 case bin op a b=>
  have h1:=(Cm.mk (ao hk).1);have h2:=(Cm.mk (ao hk).2);delta bq;dsimp only;split
  .
   ext r1 r2 g2 e1;let(s1,s2,g1,q1,q2,q3):=jB e1;cases q3;split
   .
    ext d1 d2 p1 p2;split
    . ext r0 e3;show .some (TL (bA (hS.e ct hK h1 q1)) (bA (hS.e ct hK h2 q2)) p1 p2 (Vv hK e3))
    . show .none
   . show .none
  . show .none
 case cmp op a b=>
  have h1:=(Cm.mk (ao hk).1);have h2:=(Cm.mk (ao (ao hk).2).1);have h3:=kj (ao (ao hk).2).2;delta bq;dsimp only;split
  .
   ext r1 r2 g2 e1;let(s1,s2,g1,q1,q2,q3):=jB e1;cases q3;split
   .
    ext d1 d2 p1 p2;split
    . ext r0 e3;show .some (TQ (bA (hS.e ct hK h1 q1)) (bA (hS.e ct hK h2 q2)) p1 p2 (ki hK ct.room e3) h3)
    . show .none
   . show .none
  . show .none
 case chain a ops xs=>
  let(k1,k2):=ao hk;let(k3,k4):=ao k2;let(k5,k6):=ao k4;let(UW,U0,ops,rfl):=two (dec (ao k6).1);let(x1,x2,xs,rfl):=two (dec (ao k6).2);have h1:=Cm.mk k1;have h2:=dX (R:=Cm P c) .mk k3;have h3:=kj k5;delta bq;dsimp only;split
  .
   ext d1 g1 e1;split
   . ext b g2 e2;show .some (Ih (bB hS ct hK h1 e1) (J6 hS ct hK h2 e2) h3)
   . show .none
  . show .none
 case neg a=>
  have h1:=Cm.mk hk;delta bq;dsimp only;split
  . ext i g1 e1;show .some (Zz (bB hS ct hK h1 e1) rfl Uk)
  . show .none
 case not a=>
  have h1:=Cm.mk hk;delta bq;dsimp only;split
  . ext b g1 e1;show .some (T7 (hS.e ct hK h1 e1))
  . show .none
 case and xs=>have h1:=dX (R:=Cm P c) .mk hk;show λ_ _ h=>P8 hS ct hK h1 h
 case or xs=>have h1:=dX (R:=Cm P c) .mk hk;show λ_ _ h=>Wh hS ct hK h1 h
 case ite a b d=>
  have h1:=(Cm.mk (ao hk).1);have h2:=(Cm.mk (ao (ao hk).2).1);have h3:=(Cm.mk (ao (ao hk).2).2);delta bq;dsimp only;split
  . ext g1 e1;show λ_ _ h=>T8 (hS.t ct hK h1 e1) (hS.e ct hK h2 h)
  . ext g1 e1;show λ_ _ h=>T9 (hS.t ct hK h1 e1) (hS.e ct hK h3 h)
  . show .none
 case tup xs=>
  have h1:=dX (R:=Cm P c) .mk hk;delta bq;dsimp only;split
  .
   ext ds g1 e1;split
   . ext hl;show .some (Ua (qI hS ct hK h1 e1) (qH _) hl)
   . show .none
  . show .none
 case lst xs=>
  have h1:=dX (R:=Cm P c) .mk hk;delta bq;dsimp only;split
  .
   ext ds g1 e1;split
   . ext hl;show .some (Ub (qI hS ct hK h1 e1) (qH _) hl)
   . show .none
  . show .none
 case ix a b=>
  have h1:=(Cm.mk (ao hk).1);have h2:=(Cm.mk (ao hk).2);delta bq;dsimp only;split
  .
   ext r1 r2 g2 e1;let(s1,s2,g1,q1,q2,q3):=jB e1;cases q3;split
   .
    ext d1 d2 p1 p2;split
    . ext r0 e3;show .some (Zy (bA (hS.e ct hK h1 q1)) (bA (hS.e ct hK h2 q2)) p1 p2 (Vw hK (by have:=ct.room.units;lia) e3) h2.P7)
    . show .none
   . show .none
  . show .none
 case slice a lo hi=>
  have h1:=(Cm.mk (ao hk).1);have h2:=J2 (R:=Cm P c) .mk (ao (ao hk).2).1;have h3:=J2 (R:=Cm P c) .mk (ao (ao hk).2).2;delta bq;dsimp only;split
  .
   ext r0 g1 e1;have q:=bA (hS.e ct hK h1 e1);split
   .
    ext i g2 e2;have q2:=xH hS ct hK h2 e2;split
    .
     ext j g3 e3;have q3:=xH hS ct hK h3 e3;split
     . ext l e4;rw[e4]at q;show .some (DX hK q q2 q3)
     . ext l e4;rw[e4]at q;show .some (DW hK q q2 q3)
     .
      split
      . ext e5;show .some (DT (d:=.non) hK q q2 q3 e5)
      . show .none
    . show .none
   . show .none
  . show .none
 case call i xs=>
  let(k1,k2):=ao hk;let(k3,k4):=ao k2;let(fi,h1,h2):=oO k1;cases xs with
  |nil=>cases (ao k4).2
  |cons x xs=>
  have h3:=dec k3;have h4:=dX (R:=Cm P c) .mk (ao k4).1;exact Yl X z (.Call (.Name (qE P i) (kid t 0).pos) (kr (d8 P n c) t 1 (x::xs)) [] t.pos) g _;rw[<- h2]at h3 ⊢
  delta bq;dsimp only;split
  .
   ext fx k' ct' vL;split
   . ext rs g1 e1;show λ_ _ h=>J8 hS ct hK h1 (hF _ _ _ h1 vL) h3 h4 (qJ hS ct hK h4 e1) h
   . show .none
  . show .none
 case blt b xs=>
  cases xs with
  |nil=>cases (ao (ao hk).2).2
  |cons x xs=>
  have h2:=(bx (ao hk).1).1;have h3:=(bx (ao hk).1).2;have h4:=dX (R:=Cm P c) .mk (ao (ao hk).2).1;delta bq;dsimp only;split
  .
   ext rs g1 e1;split
   .
    ext ds e2;split
    .
     ext r0 e3;have ha:=qJ hS ct hK h4 e1;have bZ:=Vy hK ct.calm (by have:=ct.room.units;lia) e3
     have cZ:=(Cm.mk (ao (ao (ao hk).2).1).1).star (env:=X.env) (kr (d8 P n c) t 2 xs);have lP:=(dX (R:=Cm P c) .mk (ao (ao (ao hk).2).1).2).plain (env:=X.env) (pos:=t.pos);cases b <;> first |show .some (Hw ha e2 bZ (ct.rz _ h3) (ct.md.bn _ h2) rfl ⋯ ⋯ cZ lP) |show .some (Du ha e2 bZ (ct.rz _ h3) (ct.md.bn _ h2) rfl ⋯ ⋯ cZ lP)
    . show .none
   . show .none
  . show .none
 case wZ a n'=>
  have h1:=Cm.mk (ao (ao hk).2).1;have h2:=(bx (ao hk).1).1;have h3:=(bx (ao hk).1).2;have h4:=(bx (ao (ao (ao hk).2).2).2).1;have h5:=(bx (ao (ao (ao hk).2).2).2).2;have h7:=AW.mp (ao (ao (ao hk).2).2).1;delta bq;dsimp only;split
  .
   ext r0 g1 e1;split
   .
    ext d e2;let(t1,_):=J9 ct (Fe.cons (pos:=(kid t 2).pos) h4 h5 rfl h7 .nil);cases t1 with
    |cons t1 _=>show .some (Uq hK (bA (hS.e ct hK h1 e1)) e2 (λ_ _ _ p=>xA p h7) (ct.rz _ h3) (ct.md.bn _ h2) rfl t1.gl t1.mg t1.bt t1.nn t1.db (h1.star _))
   . show .none
  . show .none
 case JN a ns=>
  have h1:=Cm.mk (ao (ao hk).2).1;have h2:=(bx (ao hk).1).1;have h3:=(bx (ao hk).1).2;have h4:=dec (ao (ao (ao hk).2).2).1;have h5:=VP (t:=kid t 2) (i:=0) (ao (ao (ao hk).2).2).2;delta bq;dsimp only;split
  .
   ext r0 g1 e1;split
   . ext d e2;let(t1,t2):=J9 ct h5;show .some (NZ hK (bA (hS.e ct hK h1 e1)) e2 t1 ⋯ (λ_ _ _ p=>sV p t2) (ct.rz _ h3) (ct.md.bn _ h2) rfl (h1.star _))
   . show .none
  . show .none
 case rev a=>
  have h1:=Cm.mk hk;delta bq;dsimp only;split
  .
   ext r0 g1 e1;have q:=bA (hS.e ct hK h1 e1);split
   . ext l e4;rw[e4]at q;show .some (Om hK q)
   .
    split
    . ext e5;show .some (Ol hK q e5)
    . show .none
  . show .none
 case emp=>show .some (Vc)
 case peek xe=>
  have h1:=Cm.mk (ao hk).2;delta bq;dsimp only;split
  .
   ext hb;have hb:z.bor=[]:=List.isEmpty_iff.mp hb;split
   .
    ext d g1 e1;split
    . ext hf;show .some (OJ hb hf (hS.e ct hK h1 (by rw[hb];show e1)))
    . show .none
   . show .none
  . show .none
 case stk=>show .none
 case sS a l=>
  have h1:=Cm.mk (ao (ao hk).2).1;have h2:=(bx (ao hk).1).1;have h3:=(bx (ao hk).1).2;have h4:=dec (ao (ao (ao hk).2).2).2;have h5:=dec (ao (ao (ao hk).2).2).1;delta bq;dsimp only;let(db,cv,hcv,hn,hC):=ct.md.ups _ _ h4;have cls:∃w:V,(∀u,RelV w u->u=cv)/\PE X (.Name ((zS (kid t 2)).getD Str.empty) (kid t 2).pos) (tC w):=by
   rcases hcv with ⟨m1,D,rfl⟩ |⟨m1,m2,m3,n,rfl⟩
   . show#[.ref D,λu r=>r,Ay (ct.rz _ h5) m1 rfl db]
   . show#[.ty n,λu r=>r,tV (ct.rz _ h5) (ct.md.bn _ m1) m3 rfl m2 db]
  let(w,hw,pw):=cls;split
  .
   ext r0 g1 e1;split
   .
    ext C e2;split
    . ext b e3;show .some (Jx hK (bA (hS.e ct hK h1 e1)) e2 (λ_ _ _ _=>hC C b e3) (ct.rz _ h3) (ct.md.bn _ h2) rfl hw pw (h1.star _))
    . show .none
   . ext e2;show .some (Jx hK (bA (hS.e ct hK h1 e1)) e2 (λ_ _ _ _=>hn) (ct.rz _ h3) (ct.md.bn _ h2) rfl hw pw (h1.star _))
   . show .none
  . show .none
 case j7 i ir ca xb=>
  let(g1,k1):=ao hk;let(g2,k2):=ao k1;let(g3,k3):=ao k2;let(h6,k5):=ao k3;let(fi,h1,h2):=oO g1;delta V2 at h6;rw[h1]at h6;have h3:=(Bool.or_eq_true_iff.mp g2).imp (λh=>(#[dec (ao h).1,dec (ao h).2]:_/\_)) uP
  have h4:=dec (ao g3).1;have h5:=(ao g3).2;have h7:=(ao k5).1;have h8:=(ao (ao k5).2).1;have h9:=Cm.mk (ao (ao k5).2).2;delta bq;dsimp only;split
  .
   ext fx k' e1;split
   .
    ext ci Ju e2;split
    .
     ext C e3;split
     .
      ext r0 g3 e4;split
      .
       ext r' e5;rcases h3 with ⟨rfl,h3⟩ |rfl
       . show .some (Qf hS hX hF ct hK h1 h2 h3 h4 h5 h6 h7 h8 h9 e1 e2 e3 e4 e5)
       . show .some (nomatch e3)
      . show .none
     . show .none
    . show .none
   . show .none
  . show .none
 case comp n' kk T it co xe=>
  let(rfl,h1,h2,h3,h4,h5,h6,h7,h8):=xM hk;delta bq;dsimp only;split
  . ext acc g1 e1;let(ak,g1,gE,w1,w2,w3,w4,w5,rfl):=xK hS ct hK h3 h4 h5 h6 h7 h8 e1;show .some (NP (fY ct h1) ct.calm (by rw[ct.N];show fB h2) w1 w2 w3 w4 w5 λy=>h6.folded y)
  . show .none
 case gI n' kk T1 rq c1 T it co xe=>
  let(rfl,h1,h2,h3,h4,h4',h5,h5',h6,h7,h8,h9,h10):=sX hk;delta bq;dsimp only;split
  . ext acc g1 e1;let(ak,g1,gE,w1,w2,w3,w4,w5,w6,w7,rfl):=sW hS ct hK h3 h4 h4' h5 h5' h6 h7 h8 h9 h10 e1;show .some (JD (fY ct h1) ct.calm (by rw[ct.N];show fB h2) w1 w2 w3 w4 w5 w6 w7 (λy=>h6.folded y) λb y=>h8.folded y)
  . show .none
 case xg a=>
  have h1:=Cm.mk (ao hk).2;have h2:=(bx (ao (ao hk).1).1).1;have h3:=(bx (ao (ao hk).1).1).2;have h4:=(bx (ao (ao hk).1).2).1;have h5:=(bx (ao (ao hk).1).2).2;delta bq;dsimp only;split
  .
   ext j g1 e1;split
   .
    ext hj;let(hj,hl):=hj;simp only[O5,eQ,l8]at hj;have q:=Il (z:=z) (lp:=(kid t 0).pos) (pos:=t.pos) (rg_1 (p:=(kid (kid t 1) 0).pos) (rp:=(kid t 1).pos) (dU (bB hS ct hK h1 e1) eW (h1.star _)) (ct.rz _ h3) (ct.md.bn _ h2) (h1.star _)) ct.calm (ct.rz _ h5) (ct.md.bn _ h4) rfl #[by lia,by lia,hj.1,hj.2] (by rw[Int.sub_zero];show hl)
    rw[Int.sub_zero]at q;show .some (q)
   . show .none
  . show .none
 case meth m o x=>
  have h1:=Cm.mk (ao (ao hk).2).1;have h2:=Cm.mk (ao (ao hk).2).2;have h4:=(ao hk).1;delta bq;dsimp only;split
  .
   ext r0 g1 e1;split
   .
    ext d e2;split
    .
     ext l e3;split
     .
      ext r1 g2 e4;split
      .
       ext d0 d1 p0 p1;split
       . ext x e5;let(q1,q2,q3):=O8 e3 (O9 (m:=_) e2 p0);show .some (Oi hK q1 q2 q3 (bA (hS.e ct hK h1 e1)) e2 e3 (Wj (bA (hS.e ct hK h2 e4)) p1 (h2.star _)) p0 p1 (Vz hK ct.room e5) (h1.attr _) (uZ h2) h4 (h2.star _))
       . show .none
      . show .none
     . show .none
    . show .none
   . show .none
  . show .none
 case append i x=>
  have h1:=(fL (ao (ao hk).2).1).1;have h2:=(fL (ao (ao hk).2).1).2.1;have h3:=(fL (ao (ao hk).2).1).2.2;have h4:=(Cm.mk (ao (ao hk).2).2);have h5:=(ao hk).1;let(hd,bZ):=bL h3;delta bq;dsimp only;split
  .
   ext l0 e0;split
   .
    ext d g1 e1;split
    .
     ext l e2;split
     . ext hl;show .some (DN (by rw[ct.N];show h1) (ct.vis h2) hd bZ e0 (dU (bB hS ct hK h4 e1) eW (h4.star _)) e2 hl rfl (uZ h4) h5 (h4.star _))
     . show .none
    . show .none
   . show .none
  . show .none
 case extend i x=>
  have h1:=(fL (ao (ao hk).2).1).1;have h2:=(fL (ao (ao hk).2).1).2.1;have h3:=(fL (ao (ao hk).2).1).2.2;have h4:=(Cm.mk (ao (ao hk).2).2);have h5:=(ao hk).1;let(hd,bZ):=bL h3;delta bq;dsimp only;split
  .
   ext l0 e0;split
   .
    ext d g1 e1;split
    .
     ext l e2;split
     . ext hl;show .some (Ea (by rw[ct.N];show h1) (ct.vis h2) hd bZ e0 (dU (bB hS ct hK h4 e1) eW (h4.star _)) e2 hl rfl (uZ h4) h5 (h4.star _))
     . show .none
    . show .none
   . show .none
  . show .none
 case sU i x=>
  have h1:=(fL (ao (ao hk).2).1).1;have h2:=(fL (ao (ao hk).2).1).2.1;have h3:=(fL (ao (ao hk).2).1).2.2;have h4:=(Cm.mk (ao (ao hk).2).2);have h5:=(ao hk).1;let(hd,bZ):=bL h3;delta bq;dsimp only;split
  .
   ext l0 e0;split
   .
    ext j g1 e1;split
    .
     ext l e2;split
     .
      ext n e3;split
      .
       ext d e4;split
       . ext hl;show .some (HX (by rw[ct.N];show h1) (ct.vis h2) hd bZ e0 (dU (bB hS ct hK h4 e1) eW (h4.star _)) e2 e3 e4 hl rfl (uZ h4) h5 (h4.star _))
       . show .none
      . show .none
     . show .none
    . show .none
   . show .none
  . show .none
 all_goals show Bool.noConfusion (show false=true from hk)
def Kd(hS:jJ P rn)(hX:mU P rn)(hF:gQ P fns)(ct:bu P k X c)(hK:z.K=X.K)(hc:Cm P c e x)(h:bq rn z.bor k fns x g=!(r,g')):aD X z e g r g':=Qi hS hX hF ct hK hc r g' h
end
section
def Ke(hS:jJ P rn)(ct:bu P k X c)(hK:z.K=X.K)(hc:Cm P c e x)(h:stepT rn z.bor k x g=!(b,g')):cS X z e g b g':=by
 have plain:(match rn.e z.bor k x g with |!(r,g1)=>(match pk (norm r) g1 with |some d=>(match NT d with |some c=>!(c,g1) |none=>none) |none=>none) |none=>none)=!(b,g')->
   (∀whole,isTrue e X.env whole=(do let v <- whole;standAt e.pos;holding [v] (truthy v)))->cS X z e g b g':=by
  intro h he;split at h
  .
   ext r g1 e1;split at h
   .
    ext d e2;split at h
    . ext b' e3;symm;show Ik hK (bA (hS.e ct hK hc e1)) e2 e3 he
    . symm
   . symm
  . symm
 let(n,t,rfl,hk):=hc.J3;cases x
 case cmp op a b=>
  have h1:=Cm.mk (ao hk).1;have h2:=Cm.mk (ao (ao hk).2).1;have h3:=kj (ao (ao hk).2).2;delta stepT at h;dsimp only at h;split at h
  .
   ext r1 r2 g2 e1;let(s1,s2,g1,q1,q2,q3):=jB e1;cases q3;split at h
   .
    ext d1 d2 p1 p2;split at h
    . ext r0 e3;symm;show TV (bA (hS.e ct hK h1 q1)) (bA (hS.e ct hK h2 q2)) p1 p2 (ki hK ct.room e3) h3
    . symm
   . symm
  . symm
 case chain a ops xs=>
  let(k1,k2):=ao hk;let(k3,k4):=ao k2;let(k5,k6):=ao k4;let(UW,U0,ops,rfl):=two (dec (ao k6).1);let(x1,x2,xs,rfl):=two (dec (ao k6).2);have h1:=Cm.mk k1;have h2:=dX (R:=Cm P c) .mk k3;have h3:=kj k5;delta stepT at h;dsimp only at h;split at h
  . ext d1 g1 e1;show Ii (bB hS ct hK h1 e1) (J6 hS ct hK h2 h) h3
  . symm
 case not a=>
  have h1:=Cm.mk hk;delta stepT at h;dsimp only at h;split at h
  . ext b' g1 e1;symm;show TX (hS.t ct hK h1 e1)
  . symm
 case and xs=>show (J7 hS ct hK (dX .mk hk) h).tr
 case or xs=>show (P9 hS ct hK (dX .mk hk) h).tr
 case ite a b d=>symm
 case val d=>show plain h (by rw[show Fj P (d8 P n) c (.val d) t=uT d t from rfl];delta uT;split <;> show λ_=>rfl)
 case peek xe=>show plain h (by let(x,p,a,es,pos,e):=qG (ao hk).1;rw[show Fj P (d8 P n) c (.peek xe) t=d8 P n c xe t from rfl,e];show λ_=>rfl)
 all_goals first |show plain h λ_=>rfl |show Bool.noConfusion (show false=true from hk)
def u5(ct:bu P k X c):PassesOwn (~~~2) X.A X.env X.xe:=by rw[ct.xe];show PassesOwn.never
def qL(hb:∀{g g':G}{f:Fl},b g=!(f,g')->eX X z body g f g'):∀{ak:List D}{g g':G}{f:Fl},jO T b ak g=!(f,g')->fH X z body T ak g f g'
 | [],_,_,_,h=>by symm;show .nil
 |d::l,_,_,_,h=>by
  delta jO at h;split at h
  . symm
  .
   ext g0 e0;split at h
   . symm
   . ext g1 e1;show .next e0 (hb e1) (qL hb h)
   . ext g1 e1;show .cont e0 (hb e1) (qL hb h)
   . ext g1 e1;symm;show .brk e0 (hb e1)
   . ext g1 e1;symm;show .ret e0 (hb e1)
def zY(ht:∀{g g':G}{v:Bool},t g=!(v,g')->cS X z ce g v g')(hb:∀{g g':G}{f:Fl},b g=!(f,g')->eX X z body g f g') :
  ∀{n:Nat}{g g':G}{f:Fl},Rv t b n g=!(f,g')->oq X z ce body n g f g'
 | 0,_,_,_,h=>by symm
 |n+1,_,_,_,h=>by
  delta Rv at h;split at h
  . symm
  . ext g1 e1;symm;show .done (ht e1)
  .
   ext g1 e1;split at h
   . symm
   . ext g2 e2;show .next (ht e1) (hb e2) (zY ht hb h)
   . ext g2 e2;show .cont (ht e1) (hb e2) (zY ht hb h)
   . ext g2 e2;symm;show .brk (ht e1) (hb e2)
   . ext g2 e2;symm;show .ret (ht e1) (hb e2)
def lB(h:Cm P c e x)(hn:xE (λ_ _=>true) e=false)(t:Option Expr)(l:Nat)(env:Env):swapsWith e t l env=pure false:=by have hs:=h.Mg;cases e <;> first |rfl |show Bool.noConfusion (show true=false from hn) |show Bool.noConfusion (show false=true from hs)
def lC(ct:bu P k X c)(jt:c.df=true)(hl:eZ c y=true):swapsWith (.ListComp a b s p) (!(.Name y py)) l X.env=pure (Pa c y py p s):=by
 exact (pure (X.env.blockKind==.function&&X.env.kindOf y==some .local&&py.line==(Expr.ListComp a b s p).pos.line&&(not ((s.names.any λ(n,k)=>n==y&&(k==.local||k==.cell))))):Sem Bool)=_
 rw[ct.bk jt];have e:(X.env.kindOf y==some .local)=(c.sc.names.lookup y==some .local):=by
  delta eZ at hl;split at hl
  . ext e;rw[e];exact (X.env.scope.names.lookup y==_)=_;rw[ct.Yi y e]
  . ext e;rw[e];exact (X.env.scope.names.lookup y==_)=_;rw[ct.cel jt y e]
  . cases hl
 rw[e];rfl
def Fp(ct:bu P k X c)(jt:c.df=true)(hl:eZ c y=true)(h:Cm P c e x)(hn:xE (λs p=>Pa c y py p s) e=false):swapsWith e (!(.Name y py)) l X.env=pure false:=by have hs:=h.Mg;cases e <;> first |rfl |show Bool.noConfusion (show true=false from hn) |show Bool.noConfusion (show false=true from hs) | (rw[lC ct jt hl];show congrArg pure hn)
def Wm{x:Str}{pn gX:Pos}{ix:Expr}{xi:Ex}{X:Cx}(h:Cm P c ix xi):∀v,assign (.Subscript (.Name x pn) ix gX) X.env v=(do
   let ov <- holding [v] (eval (.Name x pn) X.env)
   let iv <- holding [v,ov] (eval ix X.env)
   standAt gX
   holding [v,ov,iv] (setItem ov iv v)
   release [v,ov,iv] []):=by
 have hs:=h.Mg;cases ix <;> first |show λ_=>rfl |show Bool.noConfusion (show false=true from hs)
def Wn(h:Cm P c e x)(hn:∀vs k p,e≠.Tuple vs k p):swappedStores [.Tuple es k0 pt] e env=pure none:=by cases e <;> first |rfl |show absurd rfl (hn _ _ _) |show Bool.noConfusion (show false=true from hs)
def xN{α β:Type}{f:α->Option β}:∀{l:List α}{a:α},a∈l->f a=none->(l.filterMap f).length<l.length
 |b::l,a,h,e=>by
  have hle:=List.length_filterMap_le f l;rcases dS.mp h with rfl |h
  . rw[List.filterMap_cons_none e];show Nat.lt_succ_of_le hle
  .
   have:=xN h e;rw[t5];split
   . show Nat.lt_succ_of_le hle
   . rw[kA];show Nat.succ_lt_succ this
def Wo{es:List Expr}{k0:Nat}{pt:Pos}{e:Expr}(ct:bu P k X c)(h:Pb c es e=true):swappedStores [.Tuple es k0 pt] e X.env=pure none:=by
 let(h1,h2):=ao h;let(h3,h4):=ao h2;let(a,ha,h5):=List.any_eq_true.mp h4;delta celN at h5;split at h5
 .
  ext x ex;obtain⟨px,rfl⟩:∃p,a=.Name x p:=by cases a <;> first | (cases ex;show#[_,rfl]) |cases ex
  have hx:X.env.kindOf x=some .cell:=ct.cel h3 x (mI h5);obtain⟨vs,k2,pt2,rfl⟩:∃vs k p,e=.Tuple vs k p:=by cases e <;> first |show#[_,_,_,rfl] |cases h1
  exact (if _ then _ else _:Sem (Option (List Str)))=_
  split
  . rfl
  .
   exact (if _ then _ else _:Sem (Option (List Str)))=_
   split
   . rfl
   .
    exact (if _ then _ else _:Sem (Option (List Str)))=_
    rw[i7];rw[AK];apply .inl ?_;rw[bne_iff_ne];apply kS (xN ha ?_);simp only[hx];rfl
 . cases h5
def Wq(ct:bu P k X c)(h:Cm P c e x)(hn:(∀vs k p,e≠.Tuple vs k p)\/Pb c es e=true):swappedStores [.Tuple es k0 pt] e X.env=pure none:=
 hn.elim (Wn h) (Wo ct)
def Wr(h:Cm P c e x):swappedStores [.Subscript (.Name y pn) ix gX] e env=pure none:=by cases e <;> first |rfl |show Bool.noConfusion (show false=true from hs)
def qM(hS:jJ P rn)(ct:bu P k X c)(jt:c.df=true)(hK:z.K=X.K)(hc:Mf P c s x)(h:aF rn z.bor k x g=!(f,g')):iz X z s g f g':=by
 let(mm,n,t,rfl,hk):=hc.J3;cases x
 case ret x=>
  have h1:=Cm.mk hk;delta aF at h;dsimp only at h;split at h
  . ext r g1 e1;symm;show Uu (hS.e ct hK h1 e1)
  . symm
 case expr x=>
  have h1:=Cm.mk (ao hk).1;have h2:=noC (ao hk).2;delta aF at h;dsimp only at h;split at h
  . ext r g1 e1;symm;show Nt (hS.e ct hK h1 e1) (lB h1 h2 _ _ _)
  . symm
 case set i x=>
  have h1:=dec (ao (ao hk).1).1;have h2:=(ao (ao hk).1).2;have h3:=Cm.mk (ao (ao hk).2).1;have h4:=kj (ao (ao hk).2).2;have nm:=ct.nm h1 h2;have hsw:swapsWith (d8 P (mm+1) c x (aG t 0)) (!(.Name (Ev.nm c i) (aG t 1).pos)) t.pos.line X.env=pure false:=Fp ct jt h2 h3 h4;delta aF at h;dsimp only at h;split at h
  . symm
  .
   ext hb;split at h
   .
    ext l g1 e1;split at h
    . ext hl;symm;show Nv nm.nd nm.ix nm.lc (hS.e ct hK h3 e1) hl hsw nm.fn hb
    . symm
   .
    ext r g1 _ e1;split at h
    . ext d g2 e2;symm;show Nu nm.nd nm.ix nm.lc (J5 (hS.e ct hK h3 e1) e2) hsw nm.fn hb
    . symm
   . symm
 case setC i x=>
  let(g1,g2):=ao hk;let(h2,g4):=ao g2;let(h3,g6):=ao g4;have h1:=dec g1;cases x
  case comp n' kk T it co xe=>
   have hl:c.sc.names.lookup (Ev.nm c i)=some .local:=by delta Pa at h2;simp only[eQ]at h2;show eq_of_beq h2.1.1
   have cZ:eZ c (Ev.nm c i)=true:=by delta eZ;rw[hl]
   have nm:=ct.nm h1 cZ;delta aF at h;dsimp only at h;split at h
   . symm
   .
    ext hb;split at h
    .
     ext acc g1 e1;split at h
     .
      ext hi;symm;let(rfl,k1,k2,k3,k4,k5,k6,k7,k8):=xM h3
      . let(ak,g1,gE,w1,w2,w3,w4,w5,rfl):=xK hS ct hK k3 k4 k5 k6 k7 k8 e1;show NQ (fY ct k1) ct.calm (by rw[ct.N];show fB k2) w1 w2 w3 w4 w5 nm.nd nm.ix (ct.Yi _ hl) hb hi (by rw[lC ct jt cZ,h2]) λww=>k6.folded ww
     . symm
    . symm
  case gI n' kk T1 rq c1 T it co xe=>
   have hl:c.sc.names.lookup (Ev.nm c i)=some .local:=by delta Pa at h2;simp only[eQ]at h2;show eq_of_beq h2.1.1
   have cZ:eZ c (Ev.nm c i)=true:=by delta eZ;rw[hl]
   have nm:=ct.nm h1 cZ;delta aF at h;dsimp only at h;split at h
   . symm
   .
    ext hb;split at h
    .
     ext acc g1 e1;split at h
     .
      ext hi;symm;let(rfl,k1,k2,k3,k4,k4',k5,k5',k6,k7,k8,k9,k10):=sX h3
      . let(ak,g1,gE,w1,w2,w3,w4,w5,w6,w7,rfl):=sW hS ct hK k3 k4 k4' k5 k5' k6 k7 k8 k9 k10 e1;show JF (fY ct k1) ct.calm (by rw[ct.N];show fB k2) w1 w2 w3 w4 w5 w6 w7 nm.nd nm.ix (ct.Yi _ hl) hb hi (by rw[lC ct jt cZ,h2]) (λww=>k6.folded ww) λb ww=>k8.folded ww
     . symm
    . symm
  all_goals show Bool.noConfusion (show false=true from g6)
 case tgt T x=>
  let(g1,g2):=ao hk;let(g3,g4):=ao g2;have h2:=Cm.mk (ao g4).1;have h4:=noC (ao g4).2;cases T with
  |nm i=>cases g1
  |tp is=>
  have h1:=qF (t:=aG t 1) g3;have h3:(∀vs k p,d8 P (mm+1) c x (aG t 0)≠.Tuple vs k p)\/Pb c (zW c (aG t 1) 0 is) (d8 P (mm+1) c x (aG t 0))=true:=((AK _ _).mp g1).imp (λh vs k p q=>by rw[q]at h;symm) id
  delta aF at h;dsimp only at h;split at h
  . symm
  .
   ext hb;split at h
   .
    ext d g1 e1;split at h
    .
     ext g2 e2;symm;let(tt,q,kt):=xJ ct hK h1 λi hi hm=>hb (by rw[List.any_eq_true];show#[i,hi,oC hm])
     let(te,qe,ke):=bB hS ct hK h2 e1;have hsw:=lB h2 h4 (!(.Tuple (zW c (aG t 1) 0 is) (xF (aG t 1)) (aG t 1).pos)) t.pos.line X.env;have cZ:swappedStores [.Tuple (zW c (aG t 1) 0 is) (xF (aG t 1)) (aG t 1).pos] (d8 P (mm+1) c x (aG t 0)) X.env=pure none:=Wq ct h2 h3;apply#[_,GP qe q hsw cZ rfl,λσ As M H E s k2=>ke σ As M H _ s λv H1 aQ M1 s1 dc R=>?_]
     show kt d g1 _ e2 v σ aQ M1 H1 _ s1 R λσ' aE s' _=>k2 σ' aE M1 H1 s' dc
    . symm
   . symm
 case item i xj x=>
  have h1:=(fL (ao hk).1).1;have h2:=(fL (ao hk).1).2.1;have h3:=(fL (ao hk).1).2.2;have h4:=Cm.mk (ao (ao hk).2).1;have h5:=Cm.mk (ao (ao (ao hk).2).2).1;have h6:=noC (ao (ao (ao hk).2).2).2;let(hd,bZ):=bL h3;delta aF at h;dsimp only at h;split at h
  .
   ext d g1 e1;split at h
   .
    ext l0 e2;split at h
    .
     ext n g2 e3;split at h
     .
      ext l e4;split at h
      . ext m e5;symm;have hsw:=lB h5 h6 (!(.Subscript (.Name (Ev.nm c i) (kid (aG t 1) 0).pos) (d8 P (mm+1) c xj (kid (aG t 1) 1)) (aG t 1).pos)) t.pos.line X.env;have cZ:swappedStores [.Subscript (.Name (Ev.nm c i) (kid (aG t 1) 0).pos) (d8 P (mm+1) c xj (kid (aG t 1) 1)) (aG t 1).pos] (d8 P (mm+1) c x (aG t 0)) X.env=pure none:=Wr h5;show Nx (by rw[ct.N];show h1) (ct.vis h2) hd bZ (bB hS ct hK h5 e1) e2 (bB hS ct hK h4 e3) e4 e5 (Wm h4) hsw cZ rfl
      . symm
     . symm
    . symm
   . symm
  . symm
 case ite e a b=>
  have h1:=Cm.mk (ao hk).1;have h2:=vO.mk (ao (ao hk).2).1;have h3:=vO.mk (ao (ao hk).2).2;delta aF at h;dsimp only at h;split at h
  . ext g1 e1;show Ri (hS.t ct hK h1 e1) (by rw[i7 rfl];show hS.b ct jt hK h2 h)
  . ext g1 e1;show Ri (hS.t ct hK h1 e1) (by rw[lL tJ];show hS.b ct jt hK h3 h)
  . symm
 case loop T it b=>
  have h1:=qF (t:=aG t 0) (ao hk).1;have h2:=uR (R:=Cm P c) .mk (ao (ao hk).2).1;have h3:=vO.mk (ao (ao hk).2).2;delta aF at h;dsimp only at h;split at h
  . symm
  .
   ext hb;split at h
   . ext ak g1 e1;show UG (u5 ct) ct.calm (uV hS ct hK (Cj h1) h2 e1) (xJ ct hK h1 λi hi hm=>hb (by rw[List.any_eq_true];show#[i,hi,oC hm])) (qL (λe=>hS.b ct jt hK h3 e) h) λy=>h2.folded y
   . symm
 case «while» e b=>have h1:=Cm.mk (ao hk).1;have h2:=vO.mk (ao hk).2;show Ij (u5 ct) (zY (λe=>hS.t ct hK h1 e) (λe=>hS.b ct jt hK h2 e) h)
 case raise i x=>symm
 case stuck=>symm
 all_goals show Bool.noConfusion (show false=true from hk)
def zZ(hS:jJ P rn)(ct:bu P k X c)(jt:c.df=true)(hK:z.K=X.K)(h:VG P (Cm P c) (Mf P c) c ss x)(e:aF rn z.bor k x g=!(f,g')):oz X z ss g f g':=by
 cases h with
 |@rows y x mn a b tn im it iy ia ib scope N' kb j lp px rp mp Yg JL ap py pa pb jq y1 y2 a1 a2 b1 b2 sp1 sp2 Rr Ru Rt L5 ep1 ep2 JK rpos yr tp tk h1 h2 h3 h4 h5 h6 h7 h8 h9 h10=>
  delta aF at e;dsimp only at e;split at e
  .
   ext m ah gm gt;split at e
   .
    ext gy ga gb;split at e
    .
     ext hm;split at e
     .
      ext ll hF;cases e;have hl:c.sc.names.lookup y=some .local:=by have:=h3.2.1;delta Pa at this;simp only[eQ]at this;show eq_of_beq this.1.1
      have cZ:eZ c y=true:=by delta eZ;rw[hl]
      obtain⟨m,rfl⟩:∃n:Nat,m=n:=#[m.toNat,by lia]
      let(dm,cm):=bL h1.2.2;let(dt,ct'):=bL h2.2.2;let(dy,cy):=bL h3.2.2;let(da,ca):=bL h4.1.2.2;let(db,cb):=bL h5.1.2.2;have ny:=ct.nm h3.1 cZ;show zO (u5 ct) hK h7.1 (by rw[ct.N];show fB h7.2.2.1) (fY ct h7.2.1) ct.calm (λbk=>(ct.blk h7.2.2.2.1 bk).nm (by rw[ct.N];show h7.2.2.2.2.1) h7.2.2.2.2.2) (ct.rz _ h8.2) (ct.md.bn _ h8.1) (by rw[ct.N];show h1.1) (ct.vis h1.2.1) dm cm gm ⋯ ny.nd ny.ix (ct.Yi _ hl) dy cy gy (by rw[lC ct jt cZ,h3.2.1])
       (ct.nm h4.1.1 h4.2) (ct.vis h4.1.2.1) da ca (ct.nm h5.1.1 h5.2) (ct.vis h5.1.2.1) db cb (by rw[ct.N];show h2.1) (ct.vis h2.2.1) dt ct' gt ga gb h6.1 h6.2.1 h6.2.2 h9 h10 hF
     . cases e
    . cases e
   . cases e
  . cases e
 |@mk y v fx ic fi ir l ls e0 es ss st scope N' kb j rG op rhs ret b py lp pos fp vp cp tp ip JL cmp h1 h2 h3 h4 h5 h6 h7 h8 h9 h10 h11=>
  delta aF at e;dsimp only at e;split at e
  .
   ext hg;split at e
   .
    ext ds gx e1;split at e
    .
     ext r2 g2 e2;split at e
     .
      ext d2 p2;split at e
      .
       ext cc e3;let(ds',hr,(q,cc0,mk),hm,he):=hS.g ct hK h6 h8 e1;cases hr;let(dy,cdy):=bL h4;have hN:X.N[ic]?=!y:=by rw[ct.N];show h1
       have vy:=ct.vis h3;have Ym:=ct.nm h1 h2;have RK:∃t,PE X (.ListComp (.Call (.Name fx fp) [.Name v vp] [] cp) [#[.Name v tp,.Name y ip,[],0]] scope JL) t/\∀σ H M0 H0 Q,LL X z g jI ic M0 H0 (l::ls) σ H->Kn z g σ M0 H0 (.new ds) Q->t σ H Q:=by apply wV h8.lt (by rw[ct.N];show fB h8.nm) (fY ct h8.bl) ct.calm hN vy dy cdy (λbk=>(ct.blk h8.nd bk).nm (by rw[ct.N];show h8.ix) h8.st) (by simp only[kA];lia) he
       have MP:=bA (hS.e ct hK h9 e2);cases h11 with
       |ite hs=>
        apply nM hK mk Ym.nd hN Ym.lc Ym.fn vy dy cdy hg h5 hm h7 (Jy RK MP p2 (ki hK ct.room e3) h10 ?_);cases cc with
        |true=>show hS.b ct jt hK (.cons hs .nil) e
        |false=>cases e;show HS
       |ret=>cases e;show nM hK mk Ym.nd hN Ym.lc Ym.fn vy dy cdy hg h5 hm h7 (Ez RK MP p2 (ki hK ct.room e3) h10)
      . cases e
     . cases e
    . cases e
   . cases e
  . cases e
def Kf(hS:jJ P rn)(ct:bu P k X c)(jt:c.df=true)(hK:z.K=X.K):∀{jS:List Stmt}{xs:List Sm}{g g':G}{f:Fl},vO P c jS xs->cM rn z.bor k xs g=!(f,g')->eX X z jS g f g':=by
 intro jS xs g g' f hc h
 induction hc generalizing g with
 |nil=>symm;show HS
 |grp h1 h2 ih=>
  delta cM at h;split at h
  . ext g1 e1;show (zZ hS ct jt hK h1 e1).bk (ih h)
  . ext hn e1;symm;show (zZ hS ct jt hK h1 e1).end λe=>hn e
  . symm
 |cons h1 h2 ih=>
  delta cM at h;split at h
  . ext g1 e1;show Nr (qM hS ct jt hK h1 e1) (ih h)
  .
   ext hn e1;symm;have q:=qM hS ct jt hK h1 e1;cases f with
   |nx=>show absurd rfl hn
   |rt r=>show Ur q
   |bk=>show Us q
   |ct=>show Ut q
  . symm
end
def Qj{P:Pg}{k:Nat}{prog:Program}{w:World}{K:Frag}{mg:Str->Option Value}{base:Heap}{N ps:List Str}{qual:Str}{scope:Scope}{f:Addr}{bO:Value}{A:Around}{outer:List Env}{s:Shared}{H:Hp}{E:XK}
  (S:cI N ps scope) (md:uM P K mg) (bZ:PySem.W.codeIn K bO qual=true) (hr:cO k (A.deeper (envOfC qual scope s⁻¹ f bO))):Qc P k (g9 (Gp prog w) prog w K mg base N qual scope f bO A outer s H E) #[N,scope,true,qual]:=by
 apply#[#[rfl,S.nd,λx e=>e,λx e=>e,λx e=>e,λ_ x e=>e,λx _=>rfl,λ_=>?_,rfl,rfl,md,hr,λe h=>#[by have e:=e;subst e;rfl,md.lam h _ (by have e:=e;show e▸bZ)]],rfl,PassesOwn.leaving]
 exact (if scope.kind.isAnnotationScope then ScopeKind.function else scope.kind)=.function
 rw[S.kind];rfl
section
def xO(hS:jJ P rn)(hX:mU P rn)(cx:Qc P k X c)(hK:z.K=X.K)(hC:jP P X.mg ci C):∀{es:List Expr}{xs:List Ex}{g g':G},Gv P c es xs->xArgs rn z.bor k xs g=!(ci,g')->ZW X z es g C g':=by
 intro es xs g g' hc h
 induction hc generalizing g with
 |nil=>symm
 |cons h1 h2 ih=>
  delta xArgs at h;split at h
  . ext e1;symm;show N4 (hX.x cx hK hC h1 e1) (h1.star _)
  .
   split at h
   . ext r g1 e1;show N5 (hS.e cx.ct hK h1 e1).lift (ih h) (h1.star _)
   . symm
def Kg(hS:jJ P rn)(hX:mU P rn)(hF:gQ P fns)(cx:Qc P k X c)(hK:z.K=X.K)(hC:jP P X.mg ci C)(hc:Cm P c e x)(h:xx rn z.bor k fns x g=!(ci,g')):Gq X z e g C g':=by
 have ct:=cx.ct;let(n,t,rfl,hk):=hc.J3;cases x
 case call i xs=>
  let(k1,k2):=ao hk;let(k3,k4):=ao k2;let(fi,h1,h2):=oO k1;cases xs with
  |nil=>cases (ao k4).2
  |cons x xs=>
  have h3:=dec k3;have h4:=dX (R:=Cm P c) .mk (ao k4).1;exact Gq X z (.Call (.Name (qE P i) (kid t 0).pos) (kr (d8 P n c) t 1 (x::xs)) [] t.pos) g C g';rw[<- h2]at h3 ⊢
  have cZ:=(Cm.mk (ao (ao k4).1).1).star (env:=X.env) (kr (d8 P n c) t 2 xs);have lP:=(dX .mk (ao (ao k4).1).2).plain (env:=X.env) (pos:=t.pos);let(fa,fd,hm,hFn,Yk,hB,jR):=ct.md.fn _ fi h1;delta xx at h;dsimp only at h;split at h
  .
   ext r e1;symm;cases k with
   |zero=>
    let(tt,q,kk):=xO hS hX cx hK hC h4 e1;apply#[_,?_,λσ As M H Q s ac=>kk σ As M H (λ_ _=>False) s ac]
    intro aj s σ H Q I ht;apply u8 (fW I (ct.rz _ h3) hm ?_ jR);show AS I.ok.mod.Gj hFn.kp (bY (q t.pos aj s σ H _ I ht) (by rintro us s1 ⟨_,_,_,_,h⟩;show h.elim)) cZ lP
   |succ k'=>
    have F:jT X.prog X.w X.K X.mg X.base yX (k'+1) fa fd fi.ps (Rj X.K fi.N fi.ps.length λ_ _ _ _=>False):=Ia hFn Yk λ_ _ _ _ _ _ _ _ _ _ _ _ _ h=>h.elim
    show Ir F (xO hS hX cx hK hC h4 e1) ct.room (ct.rz _ h3) hm hFn.kp hB jR cZ lP
  .
   cases vL:fns[i]? with
   |none=>rw[vL]at h;symm
   |some fx=>
    rw[vL]at h;cases k with
    |zero=>symm
    |succ k'=>
     dsimp only at h;split at h
     .
      ext rs g1 e1;have Ws:=hF _ _ _ h1 vL;have F:jT X.prog X.w X.K X.mg X.base (Gp X.prog X.w) (k'+1) fa fd fi.ps (SpX X.K fi.N fi.ps.length λbor g C g'=>∃ci,jP P X.mg ci C/\rn.xb bor k' fx.body g=!(ci,g')):=by apply U9 hFn Yk ?_;rintro bO A outer s H E bZ hr z' g C g' Yc ⟨ci,hci,hrun⟩;show hX.b (Qj Yk ct.md bZ hr) rfl Yc hci Ws.body hrun
      delta qz at h;split at h
      .
       ext hl;split at h
       . symm
       .
        ext gs e2;split at h
        .
         ext ci' gc e3;split at h
         .
          ext gO e4;symm;have ha:=qJ hS ct hK h4 e1;have ha':cY X z (d8 P n c x (kid t 1)::kr (d8 P n c) t 2 xs) g rs g1:=by
           let(t,q,kk):=ha;apply#[t,λpos aj s σ H Q I hw=>?_,kk]
           show l6 (q pos aj s σ H Q (I.wish _) hw) (by rintro _ _ ⟨v,H',I',r,q⟩;show#[v,H',I'.dg,r,q]) λ_ _ z=>False.elim z
          show N9 F hK cx.ex ct.room (ct.rz _ h3) hm hFn.kp hB ha' (by rw[hl.1,Ws.np]) e2 hl.2 #[ci,hC,by rw[<- Ws.n];show e3] e4 jR cZ lP
         . symm
        . symm
      . symm
     . symm
 all_goals symm
def Fq(hX:mU P rn)(cx:Qc P k X c)(hK:z.K=X.K)(hC:jP P X.mg ci C)(hc:Cm P c e x)(h:mQ rn z.bor k x g=!(ci,g')):X5 X z e g C g':=by
 let(n,t,e,hk):=hc.J3;cases x
 case not a=>subst e;show N3 (hX.t cx hK hC (.mk hk) h)
 case call i l=>show U6 (hX.x cx hK hC hc h) (by rw[e];show λ_=>rfl)
 all_goals symm
def iz.lift{st:Stmt}{g g':G}{f:Fl}(h:iz X.tW z st g f g'):iz X z st g f g':=by
 let(t,q,k):=h;apply#[t,λaj s σ H D I hw=>?_,k]
 show l6 (q aj s σ H D (I.wish _) hw) (λ_ _ q=>q.dg) λ_ _ z=>False.elim z
def Ft(hS:jJ P rn)(hX:mU P rn)(cx:Qc P k X c)(jt:c.df=true)(hK:z.K=X.K)(hC:jP P X.mg ci C)(hc:Mf P c s x)(h:jc rn z.bor k x g=!(ci,g')):U5 X z s g C g':=by
 have ct:=cx.ct;let(mm,n,t,rfl,hk):=hc.J3;cases x
 case ret x=>show U7 (hX.x cx hK hC (.mk hk) h)
 case expr x=>have h1:=Cm.mk (ao hk).1;have h2:=noC (ao hk).2;show N6 (hX.x cx hK hC h1 h) (lB h1 h2 _ _ _)
 case ite e a b=>
  have h1:=Cm.mk (ao hk).1;have h2:=vO.mk (ao (ao hk).2).1;have h3:=vO.mk (ao (ao hk).2).2;delta jc at h;dsimp only at h;split at h
  . ext e1;symm;show U8 (hX.t cx hK hC h1 e1)
  .
   split at h
   . ext g1 e1;show Ip (hS.t ct hK h1 e1).lift (by rw[i7 rfl];show hX.b cx jt hK hC h2 h)
   . ext g1 e1;show Ip (hS.t ct hK h1 e1).lift (by rw[lL tJ];show hX.b cx jt hK hC h3 h)
   . symm
 case raise i x=>
  have h1:=dec (ao hk).1;have h2:=dec (ao (ao hk).2).1;have h3:=Cm.mk (ao (ao hk).2).2;delta jc at h;dsimp only at h;split at h
  .
   ext d g1 e1;symm;let(y,q1,q2):=hC;rw[h1]at q1;cases q1;let(jR,C',q3,q4):=ct.md.cls _ (l7 h1);have e:C'=C:=by have:=q3.symm.trans q2;cases this;rfl
   subst e;show Iq ct.calm cx.ex q4 (ct.rz _ h2) q2 jR (dU (bB hS ct hK h3 e1).lift eW (h3.star _)) (h3.star _)
  . symm
 all_goals symm
def Fv(hS:jJ P rn)(hX:mU P rn)(cx:Qc P k X c)(jt:c.df=true)(hK:z.K=X.K)(hC:jP P X.mg ci C):∀{jS:List Stmt}{xs:List Sm}{g g':G},vO P c jS xs->iB rn z.bor k xs g=!(ci,g')->N2 X z jS g C g':=by
 intro jS xs g g' hc h
 induction hc generalizing g with
 |nil=>symm
 |grp h1 h2 ih=>
  delta iB at h;split at h
  . ext e1;cases h1 <;> cases e1
  .
   split at h
   . ext g1 e1;show ((zZ hS cx.ct jt hK h1 e1).lift).ra (ih h)
   . symm
 |cons h1 h2 ih=>
  delta iB at h;split at h
  . ext e1;symm;show N7 (Ft hS hX cx jt hK hC h1 e1)
  .
   split at h
   . ext g1 e1;show N8 (qM hS cx.ct jt hK h1 e1).lift (ih h)
   . symm
end
def xP(hF:gQ P fns):∀n,jJ P (run fns n)/\mU P (run fns n)
 | 0=>#[#[λ_ _ _ h=>(by symm),λ_ _ _ h=>(by symm),λ_ _ _ _ h=>(by symm),λ_ _ _ _ h=>(by symm)],#[λ_ _ _ _ h=>(by symm),λ_ _ _ _ h=>(by symm),λ_ _ _ _ _ h=>(by symm)]]
 |n+1=>
  let #[a,b]:=xP hF n
  #[#[λct hK hc h=>Kd a b hF ct hK hc h,λct hK hc h=>Ke a ct hK hc h,λct jt hK hc h=>Kf a ct jt hK hc h,λct hK hl B h=>Kc a b hF ct hK hl B h],
  #[λcx hK hC hc h=>Kg a b hF cx hK hC hc h,λcx hK hC hc h=>Fq b cx hK hC hc h,λcx jt hK hC hc h=>Fv a b cx jt hK hC hc h]]
def Qk(hF:gQ P fns)(n:Nat):jJ P (run fns n):=(xP hF n).1
abbrev cB(K:Frag)(mg:Str->Option Value)(fi:Fi):Prop:=
 ∃f fd,mg fi.name=!(.ref f)/\LQ K fi.name fi.qual fi.st f fd/\cI fi.N fi.ps (aH fi.st)/\(∀us:List Value,us.length=fi.ps.length->bindArgs fd #[us,[]]=pure (fi.ps.zip us))/\(fi.name==(~~~3))=false
abbrev Ql(K:Frag)(mg:Str->Option Value)(p:Str×D):Prop:=(p.1==(~~~3))=false/\∃v u,mg p.1=!u/\RelV v u/\∀M H,Rep K M H p.2 v
inductive All{α:Type}(p:α->Prop):List α->Prop
 |nil:All p []
 |cons {a:α}{l:List α}:p a->All p l->All p (a::l)
def All.mem{α:Type}{p:α->Prop}:∀{l:List α},All p l->∀a∈l,p a
 |_,.nil,_,h=>nomatch h
 |_,.cons h t,a,hm=>(dS.mp hm).elim (λe=>e▸h) (All.mem t a)
structure Wt(P:Pg)(K:Frag)(mg:Str->Option Value):Prop where
 lam:P.lam=true->∀bO,PySem.W.codeIn K bO "_law_refusals_right"=true->JX K mg bO
 gZ:∀(i:Nat) (C:Addr),P.gZ[i]?=!C->∃x,P.cls[i]?=!x/\mg x=!(.ref C)/\fU K C/\Ht K C
 kt:P.lam=true->(P.kt==(~~~3))=false/\∃D,mg P.kt=!(.ref D)/\fU K D/\∀C∈P.gZ,uK K C D=true
 ups:∀(x:Str) (l:List (Addr×Bool)),(x,l)∈P.ups->(x==(~~~3))=false/\∃cv,((mg x=!cv/\∃D,cv=.ref D)\/(x∈P.bn/\x≠ "__name__" /\bootBuiltins x=!cv/\∃n,cv=.type n))/\PySem.W.kitOne K (.type "NoneType") cv=!false/\∀C b,l.lookup C=!b->PySem.W.kitOne K (.ref C) cv=!b
def md_mk{P:Pg}{K:Frag}{mg:Str->Option Value}(h1:All (cB K mg) P.fn)(h2:All (Ql K mg) P.ct)(h3:All (λx=>mg x=none) P.bn)(h4:All (λx=>(x==(~~~3))=false/\∃C,mg x=!(.ref C)/\fU K C) P.cls)(h5:Wt P K mg):uM P K mg:=
 #[λi fi e=>let #[f,fd,q1,q2,q3,q4,q5]:=h1.mem fi (l7 e);#[f,fd,q1,q2,q3,.all q4,q5],λx d h=>h2.mem (x,d) h,λx h=>h3.mem x h,λx h=>h4.mem x h,h5.lam,h5.gZ,h5.kt,h5.ups]
abbrev BdOk(fi:Fi):Prop:=∀(kV doc pm:Value) (an:Option Addr) (bO ct:Value) (us:List Value),us.length=fi.ps.length->bindArgs (PySem.W.fnOf fi.name fi.qual (ju fi.st) (bH fi.st) (aH fi.st) .none kV doc pm an bO ct) #[us,[]]=pure (fi.ps.zip us)
section
variable{K:Frag}
def fi_mk{fi:Fi}{oc:Value}{od an:Option Addr}{osl:Array (Option Value)}{kV doc pm bO ct:Value}(X:K.In h)(G:h.Ns mainGlobals mg)(a:PySem.W.nsIn K mainGlobals fi.name=!(!(.ref f)))
  (l:K.lookup f=!#[oc,od,.func (PySem.W.fnOf fi.name fi.qual (ju fi.st) (bH fi.st) (aH fi.st) .none kV doc pm an bO ct),osl]) (c:PySem.W.codeIn K bO fi.qual=true) (k:PySem.W.keepIn K (.ref f)=true)
  (sc:cI fi.N fi.ps (aH fi.st)) (hb:BdOk fi)
  (hd:(fi.name==(~~~3))=false):cB K mg fi:=
 let F:=Tp l c k
 #[f,_,C6 X G a,F,sc,hb kV doc pm an bO ct,hd]
def Kh(X:K.In h)(G:h.Ns mainGlobals mg)(a:PySem.W.nsIn K mainGlobals x=!(!(.int i t)))(hd:(x==(~~~3))=false):Ql K mg (x,.int i):=
 #[hd,.int i,.int i t,C6 X G a,#[t,rfl],λ_ _=>.int i]
def RL(X:K.In h)(G:h.Ns mainGlobals mg)(a:PySem.W.nsIn K mainGlobals x=!(!(.ref C)))(q:fU K C)(hd:(x==(~~~3))=false):(x==(~~~3))=false/\∃C,mg x=!(.ref C)/\fU K C:=
 #[hd,C,C6 X G a,q]
def Wu{P:Pg}{fns:List Fx}{prog:Program}{w:World}{base:Heap}(hF:gQ P fns)(md:uM P K mg){i:Nat}{fi:Fi}{fx:Fx}{x:Str}{fd:FuncData}{n k:Nat}(hfi:P.fn[i]?=!fi)(vL:fns[i]?=!fx)(hp:fi.ps=[x])(F:LQ K fi.name fi.qual fi.st f fd)(sc:cI fi.N fi.ps (aH fi.st)) :
  jT prog w K mg base yX (k+1) f fd [x] (Rj K fi.N 1 λbor g r g'=>(run fns n).b bor k fx.body g=!(.rt r,g')):=by
 have:=Ia (P:=prog) (w:=w) (base:=base) (run:=λbor g r g'=>(run fns n).b bor k fx.body g=!(.rt r,g')) F sc λbO A outer s H E bZ hr z g r g' hK hrun=>
  #[_,(Qk hF n).b (qK sc md bZ hr) rfl hK (hF i fi fx hfi vL).body hrun,.inl rfl]
 rw[hp]at this;show this
def Kl{P:Pg}{fns:List Fx}{prog:Program}{w:World}(hF:gQ P fns)(md:uM P K mg){i:Nat}{fi:Fi}{fx:Fx}{x:Str}{n k:Nat}(hfi:P.fn[i]?=!fi)(vL:fns[i]?=!fx)(hp:fi.ps=[x])(h:cB K mg fi)(hm:mg fi.name=!(.ref f)) :
  ∃fd:FuncData,(∀(s:Shared) (u:Value),BindsTo s fd #[[u],[]] [(x,u)])/\∀base:Heap,K.In base->base.Ns mainGlobals mg->jT prog w K mg base yX (k+1) f fd [x] (Rj K fi.N 1 λbor g r g'=>(run fns n).b bor k fx.body g=!(.rt r,g')):=by
 let(f',fd,q1,q2,q3,q4,q5):=h;rw[hm]at q1;cases q1;apply#[fd,λs u=>.of_eq ?_,λbase _ _=>Wu hF md hfi vL hp q2 q3]
 have:=q4 [u] (by rw[hp];rfl)
 rw[hp]at this;show this
def Wv{N:List Str}{run:List Nat->G->R->G->Prop}(hev:∀ns:List Int,ns.length<=63->∃g',run [] (dG N.length [.dat (.fix (ns.map .int))]) (.dat (.bl true)) g')(K:Frag)(H:Hp)(a:Addr)(ns: ~~~0)(hl:ns.length<=63)(hO:BJ ((dz K).map (·.1)) H)(hS:cg K H a (ns.map V.int)) :
  Rj K N 1 run [.ref a] H (λv _=>v=.bl true) λ_ _ _=>False:=by
 let(g',hg):=hev ns hl;have fx:nu K ((dz K).map (·.1)) H a (ns.map V.int):=by
  rcases hS with h |h
  .
   rcases hO a with ⟨_,z⟩ |⟨na,z⟩
   . rcases h with h |⟨o,h⟩ <;> (rw[z]at h;symm)
   .
    apply .inl #[na,?_];rcases h with h |h
    .
     rcases z with z |⟨o,xs,z⟩
     . rw[z]at h;symm
     . rw[z]at h;symm
    . show h
  . show .inr (.inr h)
 have rr:∀ns:List Int,aJ K ((dz K).map (·.1)) H (ns.map D.int) (ns.map V.int):=λns=>by
  induction ns with
  |nil=>show .nil
  |cons n ns ih=>show .cons (.int n) ih
 have tb:∀p∈dz K,H p.1=!(.ni ([].toArray)):=λp hp=>by
  rcases hO p.1 with ⟨_,z⟩ |⟨z,_⟩
  . show z
  . show absurd (gN.mpr #[p,hp,rfl]) z
 apply#[rfl,#[K,H,(dz K).map (·.1),[],dz K],dG N.length [.dat (.fix (ns.map .int))],g',[],(dz K).map (·.1),.dat (.bl true),rfl,?_,hg,λv σ' aE M' H' s' st R=>fX R]
 apply#[?_,u4,(λa ha=>nomatch ha),λi b l e1 e2=>?_,(λm hm=>.inr hm),(λb o e _ _=>e),(λm hm=>hm),(λm hm=>?_),(λb hb=>nomatch hb),(λp hp=>nomatch hp),(λp hp=>#[([].toArray),tb p hp,trivial,λpos cv e=>nomatch e]),(λp hp=>gN.mpr #[p,hp,rfl]),rfl]
 . show Slots.append (.dat (.fix fx (rr ns)) .nil) (Slots.nos _)
 .
  exfalso;delta dG at e1;cases i with
  |zero=>simp at e1
  |succ i=>rw[eC ⋯]at e1;have:=l7 e1;rw[yA]at this;show absurd this.2 ⋯
 . let(p,hp,rfl):=gN.mp hm;intro z;have z:H p.1=none:=z;rw[tb p hp]at z;cases z
end
meta abbrev Fi.ct(fi:Fi):Ct:=#[fi.N,aH fi.st,true,fi.qual]
abbrev Cq(P:Pg)(fi:Fi)(fx:Fx):List Stmt:=rJ (Wd P 99 (RC P 99 20 fi.ct) fi.ct) (RC P 99 20 fi.ct) fx.body (bH fi.st)
abbrev fxB(P:Pg)(fi:Fi)(fx:Fx):Bool:=decide (fx.np=fi.ps.length)&&(decide (fx.n=fi.N.length)&&Ma (Wf P 99 (RD P 99 20 fi.ct) fi.ct) (RD P 99 20 fi.ct) fx.body (bH fi.st))
def Ww(e:Cq P fi fx=bH fi.st)(h:fxB P fi fx=true):Qd P fi fx:=#[dec (ao h).1,dec (ao (ao h).2).1,Eq.mp (congrArg (λl=>vO P fi.ct l fx.body) e) (vO.mk (ao (ao h).2).2)]
abbrev Qm(P:Pg):List Fi->List Fx->Bool
 |fi::l,fx::r=>fxB P fi fx&&Qm P l r
 |_,_=>true
def Qn(e:List.zipWith (Cq P) l r=l.map λfi=>bH fi.st)(h:Qm P l r=true)(f:Nat)(fi:Fi)(fx:Fx)(h1:l[f]?=!fi)(h2:r[f]?=!fx):Qd P fi fx:=by
 induction l generalizing r f with
 |nil=>cases h1
 |cons a l ih=>cases r with
  |nil=>cases h2
  |cons b r=>
   cases f with
   |zero=>cases h1;cases h2;show Ww (List.cons.inj e).1 (ao h).1
   |succ f=>show ih (List.cons.inj e).2 (ao h).2 f h1 h2
def Wx(h:Qm P P.fn fns=true)(e:List.zipWith (Cq P) P.fn fns=P.fn.map λfi=>bH fi.st):gQ P fns:=λf fi fx h1 h2=>Qn e h f fi fx h1 h2
def len1(h:us.length=1):∃a,us=[a]:=by
 cases us with
 |nil=>symm
 |cons a us=>cases us with
  |nil=>show#[a,rfl]
  |cons _ _=>symm
def len2(h:us.length=2):∃a b,us=[a,b]:=by
 cases us with
 |nil=>symm
 |cons a us=>let(b,rfl):=len1 (BI h);show#[a,b,rfl]
def len3(h:us.length=3):∃a b c,us=[a,b,c]:=by
 cases us with
 |nil=>symm
 |cons a us=>let(b,c,rfl):=len2 (BI h);show#[a,b,c,rfl]
def len4(h:us.length=4):∃a b c d,us=[a,b,c,d]:=by
 cases us with
 |nil=>symm
 |cons a us=>let(b,c,d,rfl):=len3 (BI h);show#[a,b,c,d,rfl]
nonrec abbrev cQ(st:Stmt):Fi:=match st with
 |.FunctionDef name args _ _ _ _ scope _ _ _=>#[name,name,st,(args.args.map (·.arg))++scope.names.filterMap (λy=>if (y.2==.local||y.2==.cell)&&(not ((args.args.map (·.arg)).contains y.1)) then some y.1 else none),args.args.map (·.arg)]
 |st=>#["", "",st,[],[]]
def six{p:Nat->Prop}{m:Nat}(hm:1<=m/\m<=6)(a:p 1)(b:p 2)(c:p 3)(d:p 4)(e:p 5)(f:p 6):p m:=by rcases (by lia:m=1\/m=2\/m=3\/m=4\/m=5\/m=6)with rfl |rfl |rfl |rfl |rfl |rfl <;> assumption
section
def xQ(ds:List D):∀i,vars i (ds.map R.dat)=[]:=by
 induction ds with
 |nil=>intro i;rfl
 |cons d ds ih=>intro i;show ih (i+1)
def xR(ds:List D):cL (ds.map R.dat) g1=!(ds.map .dat):=by
 induction ds with
 |nil=>rfl
 |cons d ds ih=>
  exact (match cL (ds.map R.dat) g1 with |some gs=>!(Slot.dat d::gs) |none=>none)=_
  rw[ih];rfl
abbrev Wy:List D->G
 | []=>[]
 |d::l=>.dat d::Wy l
def Cr(ds:List D):Wy ds=ds.map .dat:=by
 induction ds with
 |nil=>rfl
 |cons d ds ih=>rw[Wy,ih];rfl
abbrev cJ(rn:Rn)(k:Nat)(fx:Fx)(ds:List D):Option R:=match rn.b [] k fx.body (dG fx.n (Wy ds))with
 |!(.rt r,gc)=>dF [] gc r
 |!(.nx,_)=>!(.dat .non)
 |_=>none
def mV(hl:ds.length=fx.np):aR rn fx k (ds.map .dat) g1=(cJ rn k fx ds).map λr=>(r,g1):=by
 delta aR cJ;rw[xQ,xR,Cr];simp only[eJ,hl,List.map_nil];cases rn.b [] k fx.body (dG fx.n (ds.map .dat))with
 |none=>rfl
 |some p=>
  let(f,gc):=p;cases f with
  |nx=>rfl
  |rt r=>simp only[back];cases dF [] gc r <;> rfl
  |bk=>rfl
  |ct=>rfl
abbrev gM(g m:G)(acc:List D):G:=g++(m++[.own acc])
def gR{g m:G}{acc:List D}{i:Nat}(h:i<g.length):(gM g m acc)[i]?=g[i]?:=by delta gM;rw[d6 h]
def dY{g m:G}{acc:List D}{i:Nat}(h:i<m.length):(gM g m acc)[g.length+i]?=m[i]?:=by delta gM;rw[eC ⋯,l5,d6 h]
def fZ:(gM g m acc)[g.length+m.length]?=!(.own acc):=by delta gM;rw[eC ⋯,l5,eC (eA _),BQ];rfl
def iD(h:i<m.length):(gM g m acc).set (g.length+i) s=gM g (m.set i s) acc:=by delta gM;rw[t7 _ _ ⋯,l5,Bi _ _ h]
def gi:(gM g m acc).set (g.length+m.length) (.own acc')=gM g m acc':=by delta gM;rw[t7 _ _ ⋯,l5,t7 _ _ (eA _),BQ];rfl
def oR:(gM g m acc).take g.length=g:=by delta gM;simp
def Cv:gC kk g=gM g (List.replicate kk .no) []:=rfl
def u6{α:Type}(eS:α->D)(f:α->D)(p:α->Bool)(st:α->G->G)(cu:last=g.length+kk)(cZ:∀d m,m.length=kk->(st d m).length=kk) :
  ∀(ak:List α) (m:G) (acc:List D),m.length=kk->acc.length+ak.length<=lim->
  (∀d∈ak,∀m acc,m.length=kk->T.set (eS d) (gM g m acc)=!(gM g (st d m) acc))->
  (∀d∈ak,∀m acc,m.length=kk->qw rn bor k c (gM g (st d m) acc)=!(p d,gM g (st d m) acc))->
  (∀d∈ak,p d=true->∀m acc,m.length=kk->gJ rn bor k e (gM g (st d m) acc)=!(f d,gM g (st d m) acc))->
  ∃m',m'.length=kk/\xm rn bor k T last c e (ak.map eS) (gM g m acc)=!(gM g m' (acc++(ak.filter p).map f))
 | [],m,acc,hm,_,_,_,_=>#[m,hm,by simp[xm]]
 |d::ak,m,acc,hm,hl,hT,hi,he=>by
  rw[kA]at hl;have q1:=hT d dC m acc hm;have q2:=hi d dC m acc hm;have hm':=cZ d m hm;rw[List.map_cons];delta xm;rw[q1];dsimp only;rw[q2];cases hp:p d with
  |false=>
   dsimp only;let(m',w1,w2):=u6 eS f p st cu cZ ak (st d m) acc hm' ⋯ (λx hx=>hT x (bP _ hx)) (λx hx=>hi x (bP _ hx)) (λx hx=>he x (bP _ hx))
   show#[m',w1,by rw[w2,BD,hp];rfl]
  |true=>
   have q3:=he d dC hp m acc hm;dsimp only;rw[q3];dsimp only;have q4:(gM g (st d m) acc)[last]?=!(.own acc):=by rw[cu,<- hm'];show fZ
   rw[q4];dsimp only;rw[i7 ⋯];have q5:(gM g (st d m) acc).set last (.own (acc++[f d]))=gM g (st d m) (acc++[f d]):=by rw[cu,<- hm'];show gi
   rw[q5];let(m',w1,w2):=u6 eS f p st cu cZ ak (st d m) (acc++[f d]) hm' (by rw[eP,t6];lia) (λx hx=>hT x (bP _ hx)) (λx hx=>hi x (bP _ hx)) (λx hx=>he x (bP _ hx))
   apply#[m',w1,?_];rw[w2,BD,hp];simp
def sY{α:Type}{kk nn:Nat}{T:Tg}{it:Ex}{c:Option Ex}{e:Ex}(ak:List α)(eS:α->D)(f:α->D)(p:α->Bool)(st:α->G->G)(hw:dJ rn bor k T.j8 it g=!(ak.map eS,g1))(hn:nn=g1.length)(hb:(T.ix.any λi=>decide (i∈bor))=false)(hl:ak.length<=lim)(cZ:∀d m,m.length=kk->(st d m).length=kk)
  (hT:∀d∈ak,∀m acc,m.length=kk->T.set (eS d) (gM g1 m acc)=!(gM g1 (st d m) acc))
  (hi:∀d∈ak,∀m acc,m.length=kk->qw rn bor k c (gM g1 (st d m) acc)=!(p d,gM g1 (st d m) acc))
  (he:∀d∈ak,p d=true->∀m acc,m.length=kk->gJ rn bor k e (gM g1 (st d m) acc)=!(f d,gM g1 (st d m) acc)) :
  cz rn bor k nn kk T it c e g=!((ak.filter p).map f,g1):=by
 subst hn;let(m',w1,w2):=u6 eS f p st rfl cZ ak (List.replicate kk .no) [] ⋯ (by simpa using hl) hT hi he
 delta cz;rw[hw];dsimp only;rw[i7 #[rfl,hb],Cv,w2];dsimp only;have:(gM g1 m' ([]++(ak.filter p).map f))[g1.length+kk]?=!(.own ([]++(ak.filter p).map f)):=by rw[<- w1];show fZ
 rw[this];rw[oR,AV]
def u9{j kk:Nat}{d:D}{m:G}{acc:List D}(hj:g.length<=j)(hk:j - g.length<m.length):(Tg.nm j).set d (gM g m acc)=!(gM g (m.set (j - g.length) (.dat d)) acc):=by
 exact some ((gM g m acc).set j (.dat d))=_;have:=iD (g:=g) (acc:=acc) (s:=.dat d) hk;rw[show g.length+(j - g.length)=j by lia]at this
 rw[this]
abbrev xS(g:G)(j:Nat)(d:D)(G':G):Prop:=(∀i,i<g.length->G'[i]?=g[i]?)/\G'[j]?=!(.dat d)
def sZ{α:Type}{kk nn j:Nat}{it:Ex}{c:Option Ex}{e:Ex}(ak:List α)(eS:α->D)(p:α->Bool)(f:α->D)(hw:dJ rn bor k false it g=!(ak.map eS,g1))(hn:nn=g1.length)(hj1:g1.length<=j)(hj2:j<g1.length+kk)(hb:j∉bor)(hl:ak.length<=lim)
  (hi:∀a∈ak,∀G',xS g1 j (eS a) G'->qw rn bor k c G'=!(p a,G')) (he:∀a∈ak,p a=true->∀G',xS g1 j (eS a) G'->gJ rn bor k e G'=!(f a,G')) :
  cz rn bor k nn kk (.nm j) it c e g=!((ak.filter p).map f,g1):=by
 have sees:∀(a:α) (m:G) (acc:List D),m.length=kk->xS g1 j (eS a) (gM g1 (m.set (j - g1.length) (.dat (eS a))) acc):=λa m acc hm=>by
  apply#[λi hi=>gR hi,?_]
  have:=dY (g:=g1) (m:=m.set (j - g1.length) (.dat (eS a))) (acc:=acc) (i:=j - g1.length) (by simp;lia)
  rw[show g1.length+(j - g1.length)=j by lia]at this
  rw[this,fI ⋯]
 apply sY ak eS f p (λa m=>m.set (j - g1.length) (.dat (eS a))) hw hn (by simp[Tg.ix,hb]) hl (λd m hm=>by simpa using hm) (λa _ m acc hm=>u9 (kk:=kk) hj1 ⋯) (λa ha m acc hm=>hi a ha _ (sees a m acc hm)) λa ha hp m acc hm=>he a ha hp _ (sees a m acc hm)
def filter_all{α:Type}(l:List α):l.filter (λ_=>true)=l:=List.filter_eq_self.mpr λ_ _=>rfl
def nQ{α:Type}(ak:List α)(eS:α->D)(f:α->D)(hw:dJ rn bor k false it g=!(ak.map eS,g1))(hn:nn=g1.length)(hj1:g1.length<=j)(hj2:j<g1.length+kk)(hb:j∉bor)(hl:ak.length<=lim)
  (he:∀a∈ak,∀G',xS g1 j (eS a) G'->gJ rn bor k e G'=!(f a,G')):cz rn bor k nn kk (.nm j) it none e g=!(ak.map f,g1):=by
 have:=sZ (c:=none) ak eS (λ_=>true) f hw hn hj1 hj2 hb hl (λ_ _ _ _=>rfl) λa ha _ G' hG=>he a ha G' hG
 rw[filter_all]at this;show this
abbrev jg(g:G)(j1 j2:Nat)(d1 d2:D)(G':G):Prop:=(∀i,i<g.length->G'[i]?=g[i]?)/\G'[j1]?=!(.dat d1)/\G'[j2]?=!(.dat d2)
def gI{α:Type}(ak:List α)(bF cC:α->D)(p:α->Bool)(f:α->D)(hw:dJ rn bor k true it g=!(ak.map λa=>.tup [bF a,cC a],g1))(hn:nn=g1.length)(hj1:g1.length<=j1)(hj1':j1<g1.length+kk)(hj2:g1.length<=j2)(hj2':j2<g1.length+kk)(fy:j1≠j2)(hb1:j1∉bor)(hb2:j2∉bor)(hl:ak.length<=lim)
  (hi:∀a∈ak,∀G',jg g1 j1 j2 (bF a) (cC a) G'->qw rn bor k c G'=!(p a,G')) (he:∀a∈ak,p a=true->∀G',jg g1 j1 j2 (bF a) (cC a) G'->gJ rn bor k e G'=!(f a,G')) :
  cz rn bor k nn kk (.tp [j1,j2]) it c e g=!((ak.filter p).map f,g1):=by
 have sees:∀(a:α) (m:G) (acc:List D),m.length=kk->jg g1 j1 j2 (bF a) (cC a) (gM g1 ((m.set (j1 - g1.length) (.dat (bF a))).set (j2 - g1.length) (.dat (cC a))) acc):=λa m acc hm=>by
  apply#[λi hi=>gR hi,?_,?_]
  .
   have:=dY (g:=g1) (m:=(m.set (j1 - g1.length) (.dat (bF a))).set (j2 - g1.length) (.dat (cC a))) (acc:=acc) (i:=j1 - g1.length) (by simp;lia)
   rw[show g1.length+(j1 - g1.length)=j1 by lia]at this
   rw[this,eR ⋯,fI ⋯]
  .
   have:=dY (g:=g1) (m:=(m.set (j1 - g1.length) (.dat (bF a))).set (j2 - g1.length) (.dat (cC a))) (acc:=acc) (i:=j2 - g1.length) (by simp;lia)
   rw[show g1.length+(j2 - g1.length)=j2 by lia]at this
   rw[this,fI (by simp;lia)]
 apply sY ak (λa=>.tup [bF a,cC a]) f p (λa m=>(m.set (j1 - g1.length) (.dat (bF a))).set (j2 - g1.length) (.dat (cC a))) hw hn (by simp[Tg.ix,hb1,hb2]) hl (λd m hm=>by simpa using hm) (λa _ m acc hm=>?_) (λa ha m acc hm=>hi a ha _ (sees a m acc hm)) λa ha hp m acc hm=>he a ha hp _ (sees a m acc hm)
 have q1:=iD (g:=g1) (m:=m) (acc:=acc) (i:=j1 - g1.length) (s:=.dat (bF a)) ⋯;have q2:=iD (g:=g1) (m:=m.set (j1 - g1.length) (.dat (bF a))) (acc:=acc) (i:=j2 - g1.length) (s:=.dat (cC a)) (by simp;lia)
 rw[show g1.length+(j1 - g1.length)=j1 by lia]at q1
 rw[show g1.length+(j2 - g1.length)=j2 by lia]at q2
 exact some (((gM g1 m acc).set j1 (.dat (bF a))).set j2 (.dat (cC a)))=_;rw[q1,q2]
def z8{α:Type}(ak:List α)(bF cC:α->D)(f:α->D)(hw:dJ rn bor k true it g=!(ak.map λa=>.tup [bF a,cC a],g1))(hn:nn=g1.length)(hj1:g1.length<=j1)(hj1':j1<g1.length+kk)(hj2:g1.length<=j2)(hj2':j2<g1.length+kk)(fy:j1≠j2)(hb1:j1∉bor)(hb2:j2∉bor)(hl:ak.length<=lim)
  (he:∀a∈ak,∀G',jg g1 j1 j2 (bF a) (cC a) G'->gJ rn bor k e G'=!(f a,G')):cz rn bor k nn kk (.tp [j1,j2]) it none e g=!(ak.map f,g1):=by
 have:=gI (c:=none) ak bF cC (λ_=>true) f hw hn hj1 hj1' hj2 hj2' fy hb1 hb2 hl (λ_ _ _ _=>rfl) λa ha _ G' hG=>he a ha G' hG
 rw[filter_all]at this;show this
def Cw(I:Nat->G->Prop)(step:∀m g,I (m+1) g->∃g1 g2,c g=!(true,g1)/\b g1=!(.nx,g2)/\I m g2)(fin:∀g,I 0 g->c g=!(false,g)) :
  ∀m N g,m<N->I m g->∃g',I 0 g'/\Rv c b N g=!(.nx,g')
 | 0,N+1,g,_,h=>#[g,h,by delta Rv;rw[fin g h]]
 |m+1,N+1,g,hN,h=>by
  let(g1,g2,q1,q2,q3):=step m g h;let(g',w1,w2):=Cw I step fin m N g2 ⋯ q3;show#[g',w1,by delta Rv;rw[q1];dsimp only;rw[q2];show w2]
def bR{α:Type}(eS:α->D)(I:List α->G->Prop)(step:∀a l g,I (a::l) g->∃g1 g2,T.set (eS a) g=!g1/\b g1=!(.nx,g2)/\I l g2):∀l g,I l g->∃g',I [] g'/\jO T b (l.map eS) g=!(.nx,g')
 | [],g,h=>#[g,h,rfl]
 |a::l,g,h=>by
  let(g1,g2,q1,q2,q3):=step a l g h;let(g',w1,w2):=bR eS I step l g2 q3;show#[g',w1,by rw[List.map_cons];delta jO;rw[q1];dsimp only;rw[q2];show w2]
end
def ints_map(l: ~~~0):cK (l.map .int)=!l:=by
 induction l with
 |nil=>rfl
 |cons a l ih=>simp[cK,ih]
def Qo(l:List Bool):wj (l.map .bl)=!l:=by
 induction l with
 |nil=>rfl
 |cons a l ih=>simp[wj,ih]
def xT(l: ~~~5)(h:∀x∈l,x≠[]):lq (l.map λx=>.tup (x.map .int))=!l:=by
 induction l with
 |nil=>rfl
 |cons a l ih=>
  have ha:=h a dC;cases a with
  |nil=>show absurd rfl ha
  |cons x a=>
   have:=ints_map (x::a);simp only[List.map_cons]at this ⊢
   simp only[lq,this,ih λy hy=>h y (bP _ hy)]
def tD(a: ~~~0)(l: ~~~5):cK ((a::l).map λ(x: ~~~0)=>.tup (x.map .int))=none:=rfl
def Km(l:List D):qq .len [.tup l]=!(.dat (.int l.length)):=rfl
def Ko(l:List D):qq .len [.lst l]=!(.dat (.int l.length)):=rfl
def qN(l:List D):qq .len [.fix l]=!(.dat (.int l.length)):=rfl
def Fw(l:List D):qq .list [.tup l]=!(.new l):=rfl
def Fy(l:List D):qq .list [.lst l]=!(.new l):=rfl
def z9(l:List D):qq .tuple [.lst l]=!(.dat (.tup l)):=rfl
def Aa(l:List D):qq .tuple [.tup l]=!(.dat (.tup l)):=rfl
def Qp(i j:Int):qq .max [.int i,.int j]=!(.dat (.int (if j > i then j else i))):=rfl
def Qq(i j:Int):qq .min [.int i,.int j]=!(.dat (.int (if j<i then j else i))):=rfl
def Wz(l:List Bool):qq .all [.lst (l.map .bl)]=!(.dat (.bl (l.all id))):=by simp only[qq,Vt,Qo]
def xU(l: ~~~0)(h:l.length<64):qq .sorted [.lst (l.map .int)]=!(.new ((eE l).map .int)):=by simp only[qq,Vt,bV,ints_map,h,DB]
def jh(l: ~~~5)(hn:∀x∈l,x≠[])(h:l.length<64):qq .sorted [.lst (l.map λx=>.tup (x.map .int))]=!(.new ((bQ bW l).map λx=>.tup (x.map .int))):=by
 cases l with
 |nil=>rfl
 |cons a l=>have e:=xT (a::l) hn;simp only[qq,Vt,bV,tD,e,h,DB]
def fC:∀a b:List Int,dD (a.map .int) (b.map .int)=decide (a=b)
 | [],[]=>rfl
 | [],_::_=>rfl
 |_::_,[]=>rfl
 |x::a,y::b=>by
  simp only[List.map_cons,dD,fC a b,B9,Bool.decide_and];rfl
def fD(a: ~~~0):ig (a.map .int)=true:=by
 induction a with
 |nil=>rfl
 |cons x a ih=>simp[ig,jD,ih]
def fE(a: ~~~0):deps (a.map .int)=0:=by
 induction a with
 |nil=>rfl
 |cons x a ih=>simp[deps,dep,ih]
def tE(a b: ~~~0):iQ (.tup (a.map .int)) (.tup (b.map .int))=true:=by simp[iQ,jD,fD,dep,fE]
def qO(a b: ~~~0):iQ (.lst (a.map .int)) (.lst (b.map .int))=true:=by simp[iQ,jD,fD,dep,fE]
def WD(a b: ~~~0):fS .Eq (.tup (a.map .int)) (.tup (b.map .int))=!(decide (a=b)):=by simp only[fS,tE,DB,cH,fC]
def Kp(a b: ~~~0):fS .NotEq (.tup (a.map .int)) (.tup (b.map .int))=!((not (decide (a=b)))):=by simp only[fS,tE,DB,cH,fC]
def WK(a b: ~~~0):fS .Eq (.lst (a.map .int)) (.lst (b.map .int))=!(decide (a=b)):=by simp only[fS,qO,DB,cH,fC]
def Kq(a b: ~~~0):fS .NotEq (.lst (a.map .int)) (.lst (b.map .int))=!((not (decide (a=b)))):=by simp only[fS,qO,DB,cH,fC]
def WL(a b:Int):fS .Eq (.int a) (.int b)=!(decide (a=b)):=rfl
def WM(a b:Int):fS .NotEq (.int a) (.int b)=!((not (decide (a=b)))):=rfl
def WN(a b:Int):fS .Lt (.int a) (.int b)=!(decide (a<b)):=rfl
def WQ(a b:Int):fS .LtE (.int a) (.int b)=!(decide (a<=b)):=rfl
def WR(a b:Int):fS .Gt (.int a) (.int b)=!(decide (a > b)):=rfl
def WT(a b:Int):fS .GtE (.int a) (.int b)=!(decide (a ≥ b)):=rfl
def Qs(a b:Int):mO .Add (.int a) (.int b)=!(.dat (.int (a+b))):=rfl
def Qt(a b:Int):mO .Sub (.int a) (.int b)=!(.dat (.int (a - b))):=rfl
def ix_t(l:List D)(i:Int):uL (.tup l) (.int i)=L2.gD l i:=rfl
def ix_l(l:List D)(i:Int):uL (.lst l) (.int i)=L2.gD l i:=rfl
def ix_f(l:List D)(i:Int):uL (.fix l) (.int i)=L2.gD l i:=rfl
def iE{α:Type}(l:List α)(i:Nat)(h:i<l.length):L2.gD l (i:Int)=some l[i]:=by delta L2.gD L2.uf;simp[h]
def xV(l: ~~~0)(i:Nat)(h:i<l.length):L2.gD (l.map D.int) (i:Int)=!(.int l[i]):=by
 rw[iE _ _ (by simpa using h)]
 simp
def is_tup(l:List D):gw (lZ (.tup l)) "tuple"=true:=rfl
def WW(i:Int):gw (lZ (.int i)) "int"=true:=rfl
def Kr(i:Int):gw (lZ (.int i)) "bool"=false:=rfl
def ji(m:Nat):cF 0 m=((List.range m).map λ(k:Nat)=>(k:Int)).map .int:=by simp[cF]
def aq(m:Nat)(h:m<=1000):m<=lim:=i9 h ⋯
def aV(i:Int)(h:0<=i/\i<=1000):O5 i=true:=by delta O5;simp only[eQ];lia
section
def aY(h:fx.np=1):aR rn fx k [.dat d] g1=(cJ rn k fx [d]).map λr=>(r,g1):=mV (ds:=[d]) h.symm
def aP(h:fx.np=2):aR rn fx k [.dat d,.dat e] g1=(cJ rn k fx [d,e]).map λr=>(r,g1):=mV (ds:=[d,e]) h.symm
def lD(h:fx.np=3):aR rn fx k [.dat d,.dat e,.dat f] g1=(cJ rn k fx [d,e,f]).map λr=>(r,g1):=mV (ds:=[d,e,f]) h.symm
end
structure jj(fns:List Fx)(rn:Nat->Rn):Prop where
 e:∀(n:Nat) (bor:List Nat) (k:Nat) (x:Ex) (g:G),(rn (n+1)).e bor k x g=bq (rn n) bor k fns x g
 t:∀(n:Nat) (bor:List Nat) (k:Nat) (x:Ex) (g:G),(rn (n+1)).t bor k x g=stepT (rn n) bor k x g
 b:∀(n:Nat) (bor:List Nat) (k:Nat) (x:List Sm) (g:G),(rn (n+1)).b bor k x g=cM (rn n) bor k x g
 x:∀(n:Nat) (bor:List Nat) (k:Nat) (x:Ex) (g:G),(rn (n+1)).x bor k x g=xx (rn n) bor k fns x g
 xt:∀(n:Nat) (bor:List Nat) (k:Nat) (x:Ex) (g:G),(rn (n+1)).xt bor k x g=mQ (rn n) bor k x g
 xb:∀(n:Nat) (bor:List Nat) (k:Nat) (x:List Sm) (g:G),(rn (n+1)).xb bor k x g=iB (rn n) bor k x g
def Qu(fns:List Fx):jj fns (run fns):=#[λ_ _ _ _ _=>rfl,λ_ _ _ _ _=>rfl,λ_ _ _ _ _=>rfl,λ_ _ _ _ _=>rfl,λ_ _ _ _ _=>rfl,λ_ _ _ _ _=>rfl]
abbrev iK(rn:Rn)(k:Nat)(fx:Fx)(ds:List D):Option Nat:=match rn.xb [] k fx.body (dG fx.n (Wy ds))with
 |!(ci,_)=>!ci
 |none=>none
def mW(hl:ds.length=fx.np):qz rn fx k (ds.map .dat) g1=(iK rn k fx ds).map λr=>(r,g1):=by
 delta qz iK;rw[xQ,xR,Cr];simp only[eJ,hl,List.map_nil];cases rn.xb [] k fx.body (dG fx.n (ds.map .dat))with
 |none=>rfl
 |some p=>rfl
section
def iF(h:fx.np=1):qz rn fx k [.dat d] g1=(iK rn k fx [d]).map λr=>(r,g1):=mW (ds:=[d]) h.symm
def cV(h:fx.np=2):qz rn fx k [.dat d,.dat e] g1=(iK rn k fx [d,e]).map λr=>(r,g1):=mW (ds:=[d,e]) h.symm
def vd(h:fx.np=3):qz rn fx k [.dat d,.dat e,.dat f] g1=(iK rn k fx [d,e,f]).map λr=>(r,g1):=mW (ds:=[d,e,f]) h.symm
end
def evZ:=And.intro @is_tup (And.intro @WW (And.intro @Kr (And.intro @Km (And.intro @Ko (And.intro @Fw (And.intro @Fy (And.intro @z9 (And.intro @Aa (And.intro @Qp (And.intro @Qq (And.intro @Wz (And.intro @WD (And.intro @Kp (And.intro @WK (And.intro @Kq (And.intro @WL (And.intro @WM (And.intro @WN (And.intro @WQ (And.intro @WR (And.intro @WT (And.intro @Qs (And.intro @Qt (And.intro @ix_t (And.intro @ix_l @ix_f)))))))))))))))))))))))))
meta abbrev unfZ{fns rn}(U:jj fns rn):=And.intro U.e (And.intro U.t (And.intro U.b (And.intro U.x (And.intro U.xt U.xb))))
end Ev
set_option hygiene false in
local macro_rules | `(tactic|simp! [$u:term,$ls,*])=>`(tactic|simp[-List.map_map,-List.map_cons,-List.map_nil,Ev.unfZ $u,Ev.evZ,Ev.xx,Ev.mQ,Ev.jc,Ev.iB,Ev.xArgs,Ev.xW,Ev.isW,Ev.cM,Ev.aF,Ev.bq,Ev.stepT,Ev.argsR,Ev.qu,Ev.gJ,Ev.toD,Ev.norm,Ev.pk,Ev.v9,Ev.dG,Ev.dF,Ev.Wy,Ev.JT,Ev.orF,Ev.xh,Ev.JV,Ev.Vu,Ev.NT,$ls,*])
set_option hygiene false in
local macro_rules | `(~~~$x)=>`(Ev.D.tup (List.map Ev.D.int $x))
set_option hygiene false in
local macro_rules|`(∅)=>`((λx=>~~~x))
set_option hygiene false in
local macro_rules|`(~~~5)=>`(List (List Int))
local macro_rules|`(~~~0)=>`(List Int)
local macro_rules|`(~~~3)=>`(("__debug__":Str))
local macro_rules|`(~~~4)=>`([(.ret (.val (.bl false)))])
namespace Ev
abbrev bz:Fx:=#[2,4,[(.ite (.ix ⇑0 ↥1) [(.set 2 (.bin .Mod (.ix ⇑0 ↥0) ⇑1)),(.item 0 ↥0 (.bin .FloorDiv (.ix ⇑0 ↥0) ⇑1)),(.ret ⇑2)] []),(.item 0 ↥0 (.bin .Mod (.bin .Add (.bin .Mult (.ix ⇑0 ↥0) ↥48271) ↥29) ↥2147483647)),(.set 3 (.bin .Mod (.bin .Add (.bin .Add (.bin .Mult (.ix ⇑0 ↥0) (.ix ⇑0 ↥0)) (.bin .Mult ↥39373 (.ix ⇑0 ↥0))) ↥7) ↥2147483629)),(.set 3 (.bin .Mod (.bin .Add (.bin .Mult ⇑3 ⇑3) (.bin .Mult ↥16807 ⇑3)) ↥2147483587)),(.ret (.bin .Mod (.bin .FloorDiv ⇑3 ↥8) ⇑1))]]
abbrev nR:Fx:=#[2,2,[(.ite (.cmp .Lt ⇑1 (.blt .len [⇑0])) [(.ret (.ix ⇑0 ⇑1))] []),(.ret ↥0)]]
abbrev mX(ci:Nat):Fx:=#[2,3,[(.set 2 (.call ci [⇑0,⇑1])),(.ite (.cmp .GtE ⇑2 (.bin .Pow ↥10 ↥18)) [(.ret (.lst [(.bin .Sub ⇑2 (.bin .Pow ↥10 ↥18)),(.val (.bl true))]))] []),(.ret (.lst [(.bin .Mod ⇑2 ↥2147483647),(.val (.bl false))]))]]
abbrev Tn(m:Nat)(t: ~~~0):Prop:=eE t=(List.range m).map λ(k:Nat)=>(k:Int)
def Tn.length(h:Tn m t):t.length=m:=by have:=(dW t).length_eq;rw[h]at this;simpa using this.symm
def Tn.mem(h:Tn m t):x∈t ↔ 0<=x/\x<m:=by
 rw[<- (dW t).mem_iff,h,gN];constructor
 . rintro⟨k,hk,rfl⟩;have:=t9.mp hk;lia
 . rintro⟨h1,h2⟩;show#[x.toNat,t9.mpr ⋯,by lia]
def Tn.of(h:t.Perm ((List.range m).map λ(k:Nat)=>(k:Int))):Tn m t:=by apply (qg h.symm ?_).symm;rw[List.pairwise_map];show List.pairwise_lt_range.imp λh=>by lia
def Tn.perm(h:Tn m t):t.Perm ((List.range m).map λ(k:Nat)=>(k:Int)):=by rw[<- h];show (dW t).symm
abbrev gt(t: ~~~0)(i:Int):Int:=t.getD i.toNat 0
def qP{t: ~~~0}{i:Int}(h:0<=i/\i<t.length):L2.gD (t.map D.int) i=!(.int (gt t i)):=by
 obtain⟨n,rfl⟩:∃n:Nat,i=n:=#[i.toNat,by lia]
 rw[xV t n ⋯];simp[gt,(by lia:n<t.length)]
abbrev nums(m:Nat): ~~~0:=(List.range m).map λ(k:Nat)=>(k:Int)
def eF:x∈nums m ↔ 0<=x/\x<m:=by
 delta nums;rw[gN];constructor
 . rintro⟨k,hk,rfl⟩;have:=t9.mp hk;lia
 . rintro⟨h1,h2⟩;show#[x.toNat,t9.mpr ⋯,by lia]
def cU(m:Nat):(nums m).length=m:=by simp[nums]
def Tn.iG{m:Nat}{t: ~~~0}(h:Tn m t){i:Int}(hi:0<=i/\i<m):0<=gt t i/\gt t i<m:=by
 apply h.mem.mp ?_;have hl:=h.length;have:i.toNat<t.length:=by lia
 delta gt;rw[gL,lS this];show AQ _
def Tn.nodup(h:Tn m t):t.Nodup:=by apply (h.perm.nodup_iff).mpr ?_;rw[List.nodup_iff_pairwise_ne,List.pairwise_map];show List.nodup_range.imp λh=>by lia
def Tn.inj{m:Nat}{t: ~~~0}(h:Tn m t){i j:Int}(hi:0<=i/\i<m)(hj:0<=j/\j<m)(e:gt t i=gt t j):i=j:=by
 have hl:=h.length;have h1:i.toNat<t.length:=by lia
 have h2:j.toNat<t.length:=by lia
 delta gt at e;rw[gL,lS h1,gL,lS h2]at e;have:=(List.getElem_inj h.nodup).mp (show t[i.toNat]=t[j.toNat]from e)
 lia
def jC{α β:Type}{f:α->β}{l:List α}(h:l.Nodup)(hf:∀x∈l,∀y∈l,f x=f y->x=y):(l.map f).Nodup:=by
 induction l with
 |nil=>show u4
 |cons a l ih=>
  let(h1,h2):=i6.mp h;apply i6.mpr #[λhm=>?_,ih h2 λx hx y hy=>hf x (bP _ hx) y (bP _ hy)]
  let(b,hb,e):=gN.mp hm;have:=hf b (bP _ hb) a dC e;show h1 (this▸hb)
def ve(h:b.length=m):(nums m).map (gt b)=b:=by
 subst h;apply CU (by simp[nums]) λi h1 h2=>?_
 simp[nums,gt,h2]
def aB{rn:Rn}{bor:List Nat}{k:Nat}{st:Sm}{rest:List Sm}{g g1:G}(h:aF rn bor k st g=!(.nx,g1)):cM rn bor k (st::rest) g=cM rn bor k rest g1:=by
 conv=>lhs;unfold cM
 rw[h]
meta abbrev St(s:Int)(fl:Bool):Slot:=.own [.int s,.bl fl]
def vf(a b:Int)(h:0<b):mO .Mod (.int a) (.int b)=!(.dat (.int (a % b))):=by simp[mO,lA,h]
def Cy(a b:Int)(h:0<b/\b<1073741824):mO .FloorDiv (.int a) (.int b)=!(.dat (.int (a / b))):=by simp[mO,lA,h]
def lE(a b:Int)(h:(-(2 ^ 64)<a/\a<2 ^ 64)\/(-(2 ^ 64)<b/\b<2 ^ 64)):mO .Mult (.int a) (.int b)=!(.dat (.int (a * b))):=by
 have:JQ a b=true:=by delta JQ;simp only[AK,eQ,l8];show h
 simp[mO,JR,this]
section
variable{ti mi:Nat}(U:jj fns rn)(hT:fns[ti]?=!bz)
include U
def WX(s:Int)(fl:Bool)(m:Int)(hm:0<m/\m<1000):∃r s' s2 s3,0<=r/\r<m/\(rn (n+20)).b [0] k bz.body [St s fl,‹m›,.no,.no]=!(.rt ‹r›,[St s' fl,‹m›,s2,s3]):=by
 have i0:L2.gD [D.int s,D.bl fl] 0=!(.int s):=rfl;have i1:L2.gD [D.int s,D.bl fl] 1=!(.bl fl):=rfl;have x0':L2.uf 2 0=!0:=rfl;cases fl with
 |true=>apply#[s % m,s / m,.dat (.int (s % m)),.no,Int.emod_nonneg _ ⋯,Int.emod_lt_of_pos _ hm.1,?_];delta bz;simp! [U,i0,i1,x0',vf _ _ hm.1,Cy _ _ (show 0<m/\m<1073741824 by lia)]
 |false=>generalize hs1:(s * 48271+29) % 2147483647=s1;have j0:L2.gD [D.int s1,D.bl false] 0=!(.int s1):=rfl;generalize hs2:(s1 * s1+39373 * s1+7) % 2147483629=s2;generalize hs3:(s2 * s2+16807 * s2) % 2147483587=s3;apply#[s3 / 8 % m,s1,.no,‹s3›,Int.emod_nonneg _ ⋯,Int.emod_lt_of_pos _ hm.1,?_];delta bz;simp! [U,i0,i1,x0',vf,lE s 48271 (.inr ⋯),hs1,j0,lE s1 s1 (.inl ⋯),lE 39373 s1 (.inl ⋯),hs2,lE s2 s2 (.inl ⋯),lE 16807 s2 (.inl ⋯),hs3,Cy _ _ (show (0:Int)<8/\(8:Int)<1073741824 by decide),hm.1]
def bM(hi:g[i]?=!(St s fl))(hm:0<m/\m<1000):∃r s',0<=r/\r<m/\aR (rn (n+20)) bz k [.var i,‹m›] g=!(‹r›,g.set i (St s' fl)):=by let(r,s',s2,s3,h1,h2,h):=WX U s fl m hm;apply#[r,s',h1,h2,?_];have hp:dG bz.n [St s fl,‹m›]=[St s fl,‹m›,.no,.no]:=rfl;delta aR;simp only[vars,cL,hi,List.map_cons,List.map_nil];rw[hp,h];rfl
omit U in
def Ks(a: ~~~0):fS .NotEq (.lst (a.map .int)) (.lst [])=!((not (decide (a=[])))):=Kq a []
omit U in
def WY(h:i<l):L2.uf l (i:Int)=!i:=by delta L2.uf;rw[i7 ⋯,i7 ⋯];simp
omit U in
def tF:∀(l: ~~~0) (j:Nat),(l.map D.int).eraseIdx j=(l.eraseIdx j).map .int
 | [],_=>rfl
 |_::_,0=>rfl
 |a::l,j+1=>by simp[tF l j]
omit U in
def xX:∀(l: ~~~0) (j:Nat) (h:j<l.length),([l[j]]++l.eraseIdx j).Perm l
 |a::l,0,_=>xI _
 |a::l,j+1,h=>(List.Perm.swap a _ _).trans ((xX l j (by simpa using h)).cons a)
end
section
variable{ci:Nat}(U:jj fns rn)(hC:fns[ci]?=!nR)
include U hC
omit U hC in
def tZ:mO .Pow (.int 10) (.int 18)=!(.dat (.int (10 ^ 18))):=by rfl
def Ku(ns: ~~~0)(hl:ns.length<=1000)(j:Nat):∃(s:Int) (fl:Bool),cJ (rn (n+40)) (k+1) (mX ci) [.fix (ns.map .int),.int j]=!(.new [.int s,.bl fl]):=by
 obtain⟨v,q⟩:∃v:Int,∀n,cJ (rn (n+20)) k nR [.fix (ns.map .int),.int j]=!‹v›:=by
  by_cases h:j<ns.length
  .
   apply#[ns[j],λn=>?_]
   have h':(j:Int)<ns.length:=by lia
   have:=xV ns j h;delta cJ nR;simp! [U,qN,h',this]
  .
   apply#[0,λn=>?_]
   have h' : ¬ (j:Int)<ns.length:=by lia
   delta cJ nR;simp! [U,qN,h']
 by_cases hv:(1000000000000000000:Int)<=v
 . apply#[v - 1000000000000000000,true,?_];delta cJ mX;simp! [U,hC,aP (fx:=nR) rfl,q,tZ,hv,aq 2 ⋯]
 . apply#[v % 2147483647,false,?_];delta cJ mX;simp! [U,hC,aP (fx:=nR) rfl,q,tZ,hv,aq 2 ⋯,vf]
end
abbrev bG:Fx:=#[1,1,[(.ret (.and [(.wZ ⇑0 "int"),(.not (.wZ ⇑0 "bool"))]))]]
abbrev bN(w:Nat):Fx:=#[3,3,[(.ret (.and [(.call w [⇑0]),(.chain ⇑1 [.LtE,.LtE] [⇑0,⇑2])]))]]
abbrev isInt:D->Bool
 |.int _=>true
 |_=>false
abbrev mY(lo hi:Int):D->Bool
 |.int i=>decide (lo<=i/\i<=hi)
 |_=>false
def tG:∀{l:List D},l.all isInt=true->∃t:List Int,l=t.map .int
 | [],_=>#[[],rfl]
 |d::l,h=>by
  rw[List.all_cons,eQ]at h;let(t,rfl):=tG h.2;cases d with
  |int i=>show#[i::t,rfl]
  |_=>cases h.1
def Cz{l:List D}{lo hi r:Int}(h:0<=r/\r<l.length)(a:l.all (mY lo hi)=true):∃v:Int,(lo<=v/\v<=hi)/\L2.gD l r=!(.int v):=by
 obtain⟨j,rfl⟩:∃j:Nat,r=j:=#[r.toNat,by lia]
 have hj:j<l.length:=by lia
 have b:=l4.mp a _ (AQ hj);have q:=iE l j hj;generalize l[j]=x at b q;cases x with
 |int v=>show#[v,mI b,q]
 |_=>cases b
section
variable{w wi mw it ci cj:Nat}(U:jj fns rn)
include U
def eG(d:D):cJ (rn (n+6)) k bG [d]=!(.dat (.bl (isInt d))):=by
 have e:isInt d=(gw (lZ d) "int" && (not (gw (lZ d) "bool"))):=by cases d <;> rfl
 rw[e];delta cJ bG;cases h:gw (lZ d) "int" <;> simp! [U,h]
variable(hW:fns[w]?=!bG)
include hW
def mZ(d:D)(lo hi:Int):cJ (rn (n+14)) (k+1) (bN w) [d,.int lo,.int hi]=!(.dat (.bl (mY lo hi d))):=by
 have no (e:isInt d=false):cJ (rn (n+14)) (k+1) (bN w) [d,.int lo,.int hi]=!(.dat (.bl false)):=by delta cJ bN;simp! [U,hW,aY (fx:=bG) rfl,eG U,e]
 delta cJ bN;cases d with
 |int i=>
  clear no;by_cases h1:lo<=i
  .
   by_cases h2:i<=hi
   . simp! [U,hW,aY (fx:=bG) rfl,eG U,isInt,mY,h1,h2]
   . simp! [U,hW,aY (fx:=bG) rfl,eG U,isInt,mY,h1,h2]
  . simp! [U,hW,aY (fx:=bG) rfl,eG U,isInt,mY,h1]
 |_=>show no rfl
end
abbrev gA(wi:Nat):Fx:=#[2,2,[(.ite (.or [(.not (.wZ ⇑1 "tuple")),(.cmp .NotEq (.blt .len [⇑1]) ↥2)]) (~~~4) []),(.ret (.and [(.blt .all [(.comp 2 2 (.nm 3) ⇑1 none (.call wi [⇑3,↥0,(.bin .Sub ⇑0 ↥1)]))]),(.cmp .Lt (.ix ⇑1 ↥0) (.ix ⇑1 ↥1))]))]]
abbrev rK:Fx:=#[1,1,[(.ret (.blt .all [(.comp 1 2 (.nm 2) (.iZ ↥1 (.blt .len [⇑0])) none (.cmp .Lt (.ix ⇑0 (.bin .Sub ⇑2 ↥1)) (.ix ⇑0 ⇑2)))]))]]
abbrev dN(wi it ri:Nat):Fx:=#[1,3,[(.ite (.or [(.not (.wZ ⇑0 "tuple")),(.cmp .NotEq (.blt .len [⇑0]) ↥2)]) (~~~4) []),(.tgt (.tp [1,2]) ⇑0),(.ite (.or [(.not (.call wi [⇑1,↥1,↥6])),(.not (.wZ ⇑2 "tuple"))]) (~~~4) []),(.ret (.and [(.blt .all [(.comp 3 2 (.nm 4) ⇑2 none (.call it [⇑1,⇑4]))]),(.call ri [⇑2])]))]]
abbrev aL(iw ci:Nat):Fx:=#[1,1,[(.ite (.not (.call iw [⇑0])) [(.raise ci (.val (.str (PySem.Str.ofString "no web"))))] [])]]
abbrev W(m:Nat)(ah: ~~~5):D:=.tup [.int m,.tup (ah.map ∅)]
structure Wb(m:Nat)(ah: ~~~5):Prop where
 tie:∀x∈ah,∃a b:Int,x=[a,b]/\0<=a/\a<b/\b<m
 ris:ah.Pairwise λx y=>HT.lexLt x y=true
 len:ah.length<=15
def Fz(l: ~~~5):ig (l.map ∅)=true:=by
 induction l with
 |nil=>rfl
 |cons x l ih=>simp[ig,jD,fD,ih]
def FG(l: ~~~5):deps (l.map ∅)<=1:=by
 induction l with
 |nil=>simp[deps]
 |cons x l ih=>simp[deps,dep,fE];lia
def tH:∀a b:List (~~~0),dD (a.map ∅) (b.map ∅)=decide (a=b)
 | [],[]=>rfl
 | [],_::_=>rfl
 |_::_,[]=>rfl
 |x::a,y::b=>by
  simp only[List.map_cons,dD,cH,fC,tH a b,B9,Bool.decide_and]
def W0(m m':Nat)(a b: ~~~5):iQ (W m a) (W m' b)=true:=by have:=FG a;simp[iQ,W,jD,ig,Fz,dep,deps];lia
def eqD_W(m:Nat)(a b: ~~~5):cH (W m a) (W m b)=decide (a=b):=by simp[W,cH,dD,tH]
section
variable{wh wi it ri iw ci:Nat}(U:jj fns rn)
include U
variable(hW:fns[wh]?=!bG)(hI:fns[wi]?=!(bN wh))
include hW hI
def Kv(m:Nat)(a b:Int)(h:0<=a/\a<b/\b<m):cJ (rn (n+40)) (k+3) (gA wi) [.int m,~~~[a,b]]=!(.dat (.bl true)):=by
 have w:=λn k=>nQ (rn:=rn (n+24)) (bor:=[]) (k:=k+2) (g:=[‹m›,.dat (~~~[a,b])]) (g1:=[‹m›,.dat (~~~[a,b])]) (kk:=2) (nn:=2) (j:=3) (it:=.slot 1) (e:=.call wi [⇑3,↥0,(.bin .Sub ⇑0 ↥1)]) [a,b] .int (λ_=>.bl true) (by simp! [U,dJ]) rfl ⋯ ⋯ ⋯ (aq _ ⋯) λx hx G' hG=>by
  have h0:=hG.1 0 ⋯;have hx':(0:Int)<=x/\x<=m - 1:=by simp only[dS,l9]at hx;lia
  simp! [U,hG.2,h0,hI,lD (fx:=bN wh) rfl,mZ U hW,mY,hx']
 have e1:[a,b].map (λ_=>D.bl true)=([true,true]).map .bl:=rfl
 have i0:L2.gD ([a,b].map D.int) 0=!(.int a):=rfl;have i1:L2.gD ([a,b].map D.int) 1=!(.int b):=rfl;delta cJ gA;simp! [U,w,e1,i0,i1,h]
omit hW hI in
def W2(m:Nat)(ah: ~~~5)(h:Wb m ah):cJ (rn (n+40)) k rK [.tup (ah.map ∅)]=!(.dat (.bl true)):=by
 have hl:=h.len;have w:=λn k=>nQ (rn:=rn (n+16)) (bor:=[]) (k:=k) (g:=[.dat (.tup (ah.map ∅))]) (g1:=[.dat (.tup (ah.map ∅))]) (kk:=2) (nn:=1) (j:=2) (it:=.iZ ↥1 (.blt .len [⇑0])) (e:=.cmp .Lt (.ix ⇑0 (.bin .Sub ⇑2 ↥1)) (.ix ⇑0 ⇑2)) (List.range (ah.length - 1)) (λ(k:Nat)=>.int (1+k:Int)) (λ_=>.bl true) (by
   have e:((ah.length:Int) - 1).toNat=ah.length - 1:=by lia
   simp! [U,dJ,aV 1 ⋯,aV (ah.length:Int) ⋯,e,cF]) rfl ⋯ ⋯ ⋯ (aq _ (by simp;lia)) λj hj G' hG=>by
  have h0:G'[0]?=!(.dat (.tup (ah.map ∅))):=hG.1 0 ⋯
  have hj':=t9.mp hj;have j1:L2.gD (ah.map ∅) (1+(j:Int) - 1)=!(~~~(ah[j]'⋯)):=by rw[show (1+(j:Int) - 1)=((j:Nat):Int)by lia,iE _ _ (by simp;lia)];simp
  have j2:L2.gD (ah.map ∅) (1+(j:Int))=!(~~~(ah[j+1]'⋯)):=by rw[show (1+(j:Int))=((j+1:Nat):Int)by lia,iE _ _ (by simp;lia)];simp
  have hlt:HT.lexLt (ah[j]'⋯) (ah[j+1]'⋯)=true:=List.pairwise_iff_getElem.mp h.ris j (j+1) ⋯ ⋯ ⋯;have hc:fS .Lt (~~~(ah[j]'⋯)) (~~~(ah[j+1]'⋯))=!true:=by simp only[fS,ltF,ints_map,hlt]
  simp! [U,hG.2,h0,j1,j2,hc]
 have e1:(List.range (ah.length - 1)).map (λ_=>D.bl true)=((List.range (ah.length - 1)).map λ_=>true).map .bl:=by rw[List.map_map];rfl
 have e2:((List.range (ah.length - 1)).map λ_=>true).all id=true:=by simp
 delta cJ rK;simp! [U,w,e1,e2]
variable(iC:fns[it]?=!(gA wi))(hR:fns[ri]?=!rK)
include iC hR
def xY(m:Nat)(ah: ~~~5)(hm:1<=m/\m<=6)(h:Wb m ah):cJ (rn (n+60)) (k+5) (dN wi it ri) [W m ah]=!(.dat (.bl true)):=by
 have hl:=h.len;have w:=λn k=>nQ (rn:=rn (n+50)) (bor:=[]) (k:=k+4) (g:=[.dat (W m ah),‹m›,.dat (.tup (ah.map ∅))]) (g1:=[.dat (W m ah),‹m›,.dat (.tup (ah.map ∅))]) (kk:=2) (nn:=3) (j:=4) (it:=.slot 2) (e:=.call it [⇑1,⇑4]) ah ∅ (λ_=>.bl true) (by simp! [U,dJ]) rfl ⋯ ⋯ ⋯ (aq _ ⋯) λx hx G' hG=>by
  have h1:=hG.1 1 ⋯;let(a,b,rfl,hab):=h.tie x hx;simp! [U,hG.2,h1,iC,aP (fx:=gA wi) rfl,Kv U hW hI m a b hab]
 have e1:ah.map (λ_=>D.bl true)=(ah.map λ_=>true).map .bl:=by rw[List.map_map];rfl
 have e2:(ah.map λ_=>true).all id=true:=by simp
 have q:=λn k=>W2 U (n:=n) (k:=k) m ah h
 have ty:gw (lZ (W m ah)) "tuple"=true:=rfl;have bl:qq .len [W m ah]=!‹2›:=rfl;have st:∀s1 s2,Tg.set (.tp [1,2]) (W m ah) [.dat (W m ah),s1,s2]=![.dat (W m ah),‹m›,.dat (.tup (ah.map ∅))]:=λ_ _=>rfl
 delta cJ dN;simp! [U,ty,bl,st,hI,lD (fx:=bN wh) rfl,mZ U hW,mY,(show (1:Int)<=m/\(m:Int)<=6 by lia),w,e1,e2,hR,aY (fx:=rK) rfl,q]
variable(jQ:fns[iw]?=!(dN wi it ri))
include jQ
def kB(m:Nat)(ah: ~~~5)(hm:1<=m/\m<=6)(h:Wb m ah):cJ (rn (n+70)) (k+6) (aL iw ci) [W m ah]=!(.dat .non):=by delta cJ aL;simp! [U,jQ,aY (fx:=dN wi it ri) rfl,xY U hW hI iC hR m ah hm h]
omit U hW hI iC hR jQ in
def nU{rn:Rn}{bor:List Nat}{k:Nat}:∀(l:List Sm) (g:G),(∀st∈l,∀g,jc rn bor k st g=none)->iB rn bor k l g=none
 | [],_,_=>rfl
 |st::l,g,h=>by
  delta iB;rw[h st dC];dsimp only;split
  . show nU l _ λs hs=>h s (bP _ hs)
  . rfl
omit hW hI iC hR jQ in
def W3(d:D):iK (rn (n+60)) k (dN wi it ri) [d]=none:=by
 have rf:∀g,(rn (n+59)).xb [] k (~~~4) g=none:=λg=>by simp! [U,U.e]
 have r0:∀g,(rn (n+59)).xb [] k [] g=none:=λg=>by simp! [U,U.e]
 delta iK dN;rw[U.xb,nU];intro st hs g;simp only[dS,l9,A7]at hs;rcases hs with rfl |rfl |rfl |rfl
 . simp only[jc,U.xt,mQ,rf,r0];split <;> first |rfl | (split <;> rfl)
 . simp! [U,U.e]
 . simp only[jc,U.xt,mQ,rf,r0];split <;> first |rfl | (split <;> rfl)
 . simp! [U,U.e]
def Kw(m:Nat)(ah: ~~~5)(hm:1<=m/\m<=6)(h:Wb m ah):iK (rn (n+70)) (k+6) (aL iw ci) [W m ah]=none:=by delta iK aL;simp! [U,jQ,iF (fx:=dN wi it ri) rfl,W3 U,aY (fx:=dN wi it ri) rfl,xY U hW hI iC hR m ah hm h]
end
abbrev tm(t: ~~~0)(x: ~~~0): ~~~0:=if gt t (gt x 0)<gt t (gt x 1)then [gt t (gt x 0),gt t (gt x 1)]else [gt t (gt x 1),gt t (gt x 0)]
abbrev tw(t: ~~~0)(ah: ~~~5): ~~~5:=bQ bW (ah.map (tm t))
def bf(a b:Int):gt [a,b] 0=a/\gt [a,b] 1=b:=#[rfl,rfl]
def dO(t: ~~~0)(a b:Int):tm t [a,b]=if gt t a<gt t b then [gt t a,gt t b]else [gt t b,gt t a]:=rfl
abbrev Pr(m:Nat)(x: ~~~0):Prop:=∃a b:Int,x=[a,b]/\0<=a/\a<b/\b<m
def Ky(h:Tn m t)(hx:Pr m x):Pr m (tm t x):=by
 let(a,b,rfl,h1,h2,h3):=hx;have ha:=h.iG (i:=a) ⋯;have hb:=h.iG (i:=b) ⋯;have fy:gt t a≠gt t b:=λe=>by have:=h.inj ⋯ ⋯ e;lia
 rw[dO];split
 . show#[_,_,rfl,by lia,by lia,by lia]
 . show#[_,_,rfl,by lia,by lia,by lia]
def vg(h:Tn m t)(hx:Pr m x)(hy:Pr m y)(e:tm t x=tm t y):x=y:=by
 let(a,b,rfl,h1,h2,h3):=hx;let(c,d,rfl,h4,h5,h6):=hy;rw[dO,dO]at e;have i1:∀i j:Int,(0<=i/\i<m)->(0<=j/\j<m)->gt t i=gt t j->i=j:=λi j hi hj e=>h.inj hi hj e
 split at e <;> split at e <;> simp only[B9,and_true]at e
 .
  have:=i1 a c ⋯ ⋯ e.1;have:=i1 b d ⋯ ⋯ e.2
  subst_vars;rfl
 . have:=i1 a d ⋯ ⋯ e.1;have:=i1 b c ⋯ ⋯ e.2;lia
 . have:=i1 b c ⋯ ⋯ e.1;have:=i1 a d ⋯ ⋯ e.2;lia
 .
  have:=i1 b d ⋯ ⋯ e.1;have:=i1 a c ⋯ ⋯ e.2
  subst_vars;rfl
def W4(ht:Tn m t)(hu:Tn m u)(hx:Pr m x):tm u (tm t x)=tm (t.map (gt u)) x:=by
 let(a,b,rfl,h1,h2,h3):=hx;have hl:=ht.length;have e:∀i:Int,(0<=i/\i<m)->gt (t.map (gt u)) i=gt u (gt t i):=λi hi=>by
  have h1:i.toNat<t.length:=by lia
  delta gt;simp[h1]
 rw[dO t,dO,e a ⋯,e b ⋯];have ha:=ht.iG (i:=a) ⋯;have hb:=ht.iG (i:=b) ⋯;have fy:gt t a≠gt t b:=λq=>by have:=ht.inj ⋯ ⋯ q;lia
 have hne2:gt u (gt t a)≠gt u (gt t b):=λq=>fy (hu.inj ha hb q)
 split
 . rw[dO]
 . rw[dO];split <;> split <;> first |rfl |lia
def gB(h:l.Nodup):(bQ bW l).Pairwise λx y=>HT.lexLt x y=true:=by
 have h1:=fj (O:=bW) l;have h2:(bQ bW l).Nodup:=(bE l).nodup_iff.mpr h;apply (h1.and h2).imp λ{x y} #[q1,q2]=>?_
 cases e:HT.lexLt x y with
 |true=>rfl
 |false=>show absurd (mG x y e q1) q2
def Wb.nodup(h:Wb m ah):ah.Nodup:=by show h.ris.imp λ{x y} q e=>by rw[e,mF]at q;cases q
def Ad(h:l.Perm l'):bQ bW l=bQ bW l':=iA ((bE l).trans h) (fj l)
def Kz(h:Wb m ah)(ht:Tn m t)(hu:Tn m u):tw u (tw t ah)=tw (t.map (gt u)) ah:=by
 delta tw;rw[Ad ((bE (ah.map (tm t))).map (tm u)),List.map_map]
 congr 1
 show nE λx hx=>W4 ht hu (h.tie x hx)
def RM(h:Wb m ah)(ht:∀i:Int,0<=i/\i<m->gt t i=i):tw t ah=ah:=by
 delta tw;have e:ah.map (tm t)=ah:=by
  conv=>rhs;rw[<- List.map_id ah]
  apply nE λx hx=>?_
  let(a,b,rfl,h1,h2,h3):=h.tie x hx;rw[dO,ht a ⋯,ht b ⋯,i7 h2];rfl
 rw[e];apply (iA (xI _) (h.ris.imp λ{x y} q=>?_)).symm
 show j5.le_of_lt q
abbrev Qv(m a:Nat): ~~~5:=(List.range (m - (a+1))).map λ(j:Nat)=>[(a:Int),(a:Int)+1+(j:Int)]
abbrev pacc(m j:Nat): ~~~5:=((List.range j).map (Qv m)).flatten
def tK(m j:Nat):pacc m (j+1)=pacc m j++Qv m j:=by simp[pacc,List.range_succ]
def xZ(m:Nat):∀j,(pacc m j).length<=j * m
 | 0=>by simp[pacc]
 |j+1=>by
  rw[tK,eP];have:=xZ m j;have h2:(Qv m j).length<=m:=by simp[Qv]
  lia
abbrev prs(m:Nat): ~~~5:=pacc m m
abbrev okP(m:Nat):Bool:=(prs m).all (λx=>match x with | [a,b]=>decide (0<=a)&&decide (a<b)&&decide (b<m) |_=>false)&&decide ((prs m).Nodup)&&decide ((prs m).length<=15)
def Qw{m:Nat}(hm:1<=m/\m<=6):okP m=true:=by refine six hm <;> decide +kernel
def W5(hm:1<=m/\m<=6):(∀x∈prs m,Pr m x)/\(prs m).Nodup/\(prs m).length<=15:=by
 have:=Qw hm;delta okP at this;simp only[eQ,l8,l4]at this;let((h1,h2),h3):=this;apply#[λx hx=>?_,h2,h3]
 have:=h1 x hx;split at this
 . ext a b;simp only[eQ,l8]at this;show#[a,b,rfl,this.1.1,this.1.2,this.2]
 . cases this
def Qx(a b:Int):qq .sorted [.lst [.int a,.int b]]=!(.new ((eE [a,b]).map .int)):=xU [a,b] ⋯
abbrev eH(i:Nat):Fx:=#[2,2,[(.ite (.JN ⇑1 ["tuple", "list"]) [(.ite (.or [(.cmp .NotEq (.wZ ⇑0 "tuple") (.wZ ⇑1 "tuple")),(.cmp .NotEq (.wZ ⇑0 "list") (.wZ ⇑1 "list"))]) (~~~4) []),(.ite (.cmp .NotEq (.blt .len [⇑0]) (.blt .len [⇑1])) (~~~4) []),(.ret (.blt .all [(.comp 2 3 (.tp [3,4]) (.zip ⇑0 ⇑1) none (.call i [⇑3,⇑4]))]))] []),(.ret (.and [(.cmp .Eq ⇑0 ⇑1),(.cmp .Eq (.wZ ⇑0 "bool") (.wZ ⇑1 "bool"))]))]]
def oU{l:List D}{r:Int}(h:0<=r/\r<l.length):∃x∈l,L2.gD l r=!x:=by
 obtain⟨j,rfl⟩:∃j:Nat,r=j:=#[r.toNat,by lia]
 have hj:j<l.length:=by lia
 show#[l[j],AQ hj,iE l j hj]
def lF(l m:List D)(h:l.length+m.length<=1000):mO .Add (.tup l) (.tup m)=!(.dat (.tup (l++m))):=by
 exact (if l.length+m.length<=lim then _ else _)=_
 rw[i7 (aq _ h)]
def lG(l m:List D)(h:l.length+m.length<=1000):mO .Add (.lst l) (.lst m)=!(.new (l++m)):=by
 exact (if l.length+m.length<=lim then _ else _)=_
 rw[i7 (aq _ h)]
abbrev Sd:Nat->D->Prop
 |_,.int _=>True
 |_,.bl _=>True
 |_,.str _=>True
 |_,.non=>True
 |c+1,.tup l=>l.length<=1000/\∀x∈l,Sd c x
 |c+1,.lst l=>l.length<=1000/\∀x∈l,Sd c x
 |_,_=>False
def x6:∀l:List D,uI l l=l.map λa=>D.tup [a,a]
 | []=>rfl
 |a::l=>by
  exact D.tup [a,a]::uI l l=_;rw[x6 l];rfl
section
variable(U:jj fns rn)
include U
def x8(hS:fns[i]?=!(eH i))(ih:∀n k d,Sd c d->cJ (rn (n+20 * c+20)) (k+c) (eH i) [d,d]=!(.dat (.bl true)))(hw:∀n k,dJ (rn (n+2)) [] k true (.zip ⇑0 ⇑1) [.dat d,.dat d]=!(uI l l,[.dat d,.dat d]))(hl:l.length<=1000)(h:∀x∈l,Sd c x):∀n k,cz (rn (n+20 * c+23)) [] (k+c+1) 2 3 (.tp [3,4]) (.zip ⇑0 ⇑1) none (.call i [⇑3,⇑4]) [.dat d,.dat d]=!((l.map λ_=>true).map .bl,[.dat d,.dat d]):=λn k=>by
 rw[List.map_map];show z8 l id id _ (by rw[hw (n+20 * c+21)];rw[x6];rfl) rfl ⋯ ⋯ ⋯ ⋯ ⋯ ⋯ ⋯ (aq _ hl) λa ha G' hG=>by
  have h1:=hG.2.1;have h2:=hG.2.2;have q:=ih (n+2) k a (h a ha);rw[show n+2+20 * c+20=n+20 * c+22 by lia]at q
  simp! [U,h1,h2,hS,aP (fx:=eH i) rfl,q]
def gS(d:D)(h:Sd 0 d):cJ (rn (n+20)) k (eH i) [d,d]=!(.dat (.bl true)):=by
 cases d with
 |int j=>delta cJ eH;simp! [U,lZ,gw,fS,iQ,cH,jD,dep]
 |bl j=>delta cJ eH;simp! [U,lZ,gw,fS,iQ,cH,jD,dep]
 |str j=>delta cJ eH;simp! [U,lZ,gw,fS,iQ,cH,jD,dep]
 |non=>delta cJ eH;simp! [U,lZ,gw,fS,iQ,cH,jD,dep]
 |_=>show h.elim
def oV(hS:fns[i]?=!(eH i)):∀(c n k:Nat) (d:D),Sd c d->cJ (rn (n+20 * c+20)) (k+c) (eH i) [d,d]=!(.dat (.bl true))
 | 0,n,k,d,h=>gS U d h
 |c+1,n,k,d,h=>by
  have ih:=oV hS c;rw[show n+20 * (c+1)+20=n+20 * c+40 by lia,show k+(c+1)=k+c+1 by lia]
  cases d with
  |int j=>show gS U _ trivial
  |bl j=>show gS U _ trivial
  |str j=>show gS U _ trivial
  |non=>show gS U _ trivial
  |tup l=>
   have w:=x8 U hS ih (d:=.tup l) (λn k=>by simp! [U,dJ,bV]) h.1 h.2
   have w':=w (n+13) k;rw[show n+13+20 * c+23=n+20 * c+36 by lia]at w'
   delta cJ eH;simp! [U,lZ,gw,fS,iQ,cH,jD,dep,w']
  |lst l=>
   have w:=x8 U hS ih (d:=.lst l) (λn k=>by simp! [U,dJ,bV]) h.1 h.2
   have w':=w (n+13) k;rw[show n+13+20 * c+23=n+20 * c+36 by lia]at w'
   delta cJ eH;simp! [U,lZ,gw,fS,iQ,cH,jD,dep,w']
  |_=>show h.elim
end
abbrev dZ:Fx:=#[2,5,[(.set 2 (.lst [])),(.loop (.tp [3,4]) (.ix ⇑0 ↥1) [(.expr (.append 2 (.tup [(.blt .min [(.ix ⇑1 ⇑3),(.ix ⇑1 ⇑4)]),(.blt .max [(.ix ⇑1 ⇑3),(.ix ⇑1 ⇑4)])])))]),(.ret (.tup [(.ix ⇑0 ↥0),(.blt .tuple [(.blt .sorted [⇑2])])]))]]
abbrev iL(ti:Nat):Fx:=#[2,4,[(.set 2 (.xg ⇑1)),(.set 3 (.lst [])),(.while (.cmp .NotEq ⇑2 (.lst [])) [(.expr (.append 3 (.sU 2 (.call ti [⇑0,(.blt .len [⇑2])]))))]),(.ret (.blt .tuple [⇑3]))]]
abbrev x9(ti:Nat):List Sm:=[(.expr (.append 3 (.tup [(.ix (.lst [(.call ti [⇑0,⇑4]),(.bin .Sub ⇑4 ↥1),↥0,(.blt .max [↥0,(.bin .Sub ⇑4 ↥2)])]) ⇑2),⇑4])))]
abbrev iM(ti na mi:Nat):Fx:=#[2,5,[(.set 2 (.call ti [⇑0,↥4])),(.set 3 (.lst [])),(.loop (.nm 4) (.iZ ↥1 ⇑1) (x9 ti)),(.ret (.call na [(.tup [⇑1,(.blt .tuple [⇑3])]),(.call mi [⇑0,⇑1])]))]]
def mm_tm{m:Nat}{t: ~~~0}(ht:Tn m t){a b:Int}(h:0<=a/\a<b/\b<m):[if gt t b<gt t a then gt t b else gt t a,if gt t b > gt t a then gt t b else gt t a]=tm t [a,b]:=by
 have fy:gt t a≠gt t b:=λe=>by have:=ht.inj ⋯ ⋯ e;lia
 rw[dO];by_cases q:gt t a<gt t b
 . rw[lL ⋯,i7 ⋯,i7 q]
 . rw[i7 ⋯,lL ⋯,lL q]
section
variable{bor:List Nat}{k n:Nat}{g g1:G}{rn:Nat->Rn}{fns:List Fx}{ti na mi:Nat}(U:jj fns rn)
include U
def qQ(m:Nat)(hm:m<=6)(l: ~~~5)(hl:∀x∈l,Pr m x)(hn:l.length<=60)(t: ~~~0)(ht:Tn m t):cJ (rn (n+20)) k dZ [.tup [.int m,.tup (l.map ∅)],~~~t]=!(.dat (W m (bQ bW (l.map (tm t))))):=by
 have tl:=ht.length;let(g',(dn,a3,a4,h1,rfl),h3):=bR (T:=.tp [3,4]) (b:=(rn (n+19)).b [] k [(.expr (.append 2 (.tup [(.blt .min [(.ix ⇑1 ⇑3),(.ix ⇑1 ⇑4)]),(.blt .max [(.ix ⇑1 ⇑3),(.ix ⇑1 ⇑4)])])))]) (λx:List Int=>~~~x)
  (I:=λrest g=>∃(dn: ~~~5) (a3 a4:Slot),l=dn++rest/\g=[.dat (.tup [.int m,.tup (l.map ∅)]),.dat (~~~t),.own ((dn.map (tm t)).map ∅),a3,a4])
  (step:=λx rest g h=>by
   let(dn,a3,a4,h1,rfl):=h;let(a,b,rfl,hab):=hl x (by rw[h1];simp)
   have i1:L2.gD (t.map D.int) a=!(.int (gt t a)):=qP ⋯;have i2:L2.gD (t.map D.int) b=!(.int (gt t b)):=qP ⋯;have hdl:=fA (pE _) (aq (dn.length+1) (by rw[h1,eP]at hn;lia))
   apply#[[.dat (.tup [.int m,.tup (l.map ∅)]),.dat (~~~t),.own ((dn.map (tm t)).map ∅),‹a›,‹b›],[.dat (.tup [.int m,.tup (l.map ∅)]),.dat (~~~t),.own (((dn++[[a,b]]).map (tm t)).map ∅),‹a›,‹b›],rfl,?_,dn++[[a,b]],_,_,by rw[h1,AI];rfl,rfl]
   rw[v6,v6,List.map_singleton,<- mm_tm ht hab];simp! [U,i1,i2,hdl,aq 2 ⋯];rfl) l [.dat (.tup [.int m,.tup (l.map ∅)]),.dat (~~~t),.own [],.no,.no] #[[],.no,.no,rfl,rfl]
 rw[mB]at h1;subst h1;have bs:=jh (l.map (tm t)) (λx hx e=>by
  let(y,hy,rfl):=gN.mp hx;let(a,b,e',_):=Ky ht (hl y hy);rw[e']at e;cases e) (by rw[eJ];lia)
 have i0:L2.gD [D.int (m:Int),.tup (l.map ∅)] 0=!(.int m):=rfl
 have i1:L2.gD [D.int (m:Int),.tup (l.map ∅)] 1=!(.tup (l.map ∅)):=rfl
 delta cJ dZ;simp! [U,Tg.j8,dJ,i0,i1,h3,bs];rfl
variable(hT:fns[ti]?=!bz)
include hT
def vh(m:Nat)(hi:g[i]?=!(St s fl))(hm:m<=10):∃(row: ~~~0) (s':Int),Tn m row/\aR (rn (n+50)) (iL ti) (k+1) [.var i,‹m›] g=!(.dat (~~~row),g.set i (St s' fl)):=by
 have hlm:=cU m;have loop:=Cw (c:=(rn (n+49)).t [0] (k+1) (.cmp .NotEq ⇑2 (.lst []))) (b:=(rn (n+49)).b [0] (k+1) [(.expr (.append 3 (.sU 2 (.call ti [⇑0,(.blt .len [⇑2])]))))])
  (I:=λq g=>∃(s:Int) (left gY: ~~~0),left.length=q/\(gY++left).Perm (nums m)/\g=[St s fl,‹m›,.own (left.map .int),.own (gY.map .int)])
  (step:=λq g h=>by
   let(s,left,gY,h1,h2,rfl):=h;have aN:=h2.length_eq;rw[eP]at aN;let(r,s',q1,q2,q3):=bM U (n:=n+25) (k:=k) (g:=[St s fl,‹m›,.own (left.map .int),.own (gY.map .int)]) (i:=0) (m:=(left.length:Int)) rfl ⋯;obtain⟨j,rfl⟩:∃j:Nat,r=j:=#[r.toNat,by lia]
   have hj:j<left.length:=by lia
   have e1:(left.map D.int)[j]?=!(.int left[j]):=by simp[hj]
   have e2:=tF left j;have z1:=fA (pE _) (aq (left.length+1) ⋯);have z2:=fA (pE _) (aq (gY.length+1) ⋯);have fy:left≠[]:=λe=>by rw[e]at hj;show absurd hj (AJ _)
   apply#[[St s fl,‹m›,.own (left.map .int),.own (gY.map .int)],[St s' fl,‹m›,.own ((left.eraseIdx j).map .int),.own ((gY++[left[j]]).map .int)],by simp! [U,Ks,fy],?_,s',left.eraseIdx j,gY++[left[j]],?_,?_,rfl]
   . have DP:=q3;simp! [U,hT,DP,WY hj,e1,e2,z1,z2];simp
   . rw[List.length_eraseIdx_of_lt hj];lia
   .
    apply List.Perm.trans ?_ h2;rw[AI];apply List.Perm.append_left _ ?_;show xX left j hj)
  (fin:=λg h=>by
   let(s,left,gY,h1,h2,rfl):=h;have:=List.eq_nil_of_length_eq_zero h1;simp! [U,Ks,this])
 let(g',(s',left,gY,q1,q2,rfl),q3):=loop m 100000 [St s fl,‹m›,.own ((nums m).map .int),.own []] ⋯ #[s,nums m,[],hlm,by simp,rfl]
 have hnil:=List.eq_nil_of_length_eq_zero q1;subst hnil;rw[mB]at q2;apply#[gY,s',Tn.of q2,?_];have hr:cF 0 m=(nums m).map .int:=ji m;have hp:dG (iL ti).n [St s fl,‹m›]=[St s fl,‹m›,.no,.no]:=rfl;have body:(rn (n+50)).b [0] (k+1) (iL ti).body [St s fl,‹m›,.no,.no]=!(.rt (.dat (~~~gY)),[St s' fl,‹m›,.own [],.own (gY.map .int)]):=by delta iL;simp! [U,aV m ⋯,aq m ⋯,hr,q3]
 delta aR;simp only[vars,cL,hi,List.map_cons,List.map_nil];rw[hp,body];rfl
variable(hN:fns[na]?=!dZ)(hM:fns[mi]?=!(iL ti))
include hN hM
def vj(m:Nat)(hm:1<=m/\m<=6)(hi:g[i]?=!(St s fl)):∃(ah: ~~~5) (s':Int),Wb m ah/\ah.length<=5/\aR (rn (n+70)) (iM ti na mi) (k+3) [.var i,‹m›] g=!(.dat (W m ah),g.set i (St s' fl)):=by
 let(w,s1,w1,w2,q1):=bM U (n:=n+48) (k:=k+2) (g:=[St s fl,‹m›,.no,.no,.no]) (i:=0) (s:=s) (fl:=fl) (m:=4) rfl ⋯;have qZ:=q1;have e1:aF (rn (n+69)) [0] (k+3) (.set 2 (.call ti [⇑0,↥4])) [St s fl,‹m›,.no,.no,.no]=!(.nx,[St s1 fl,‹m›,‹w›,.no,.no]):=by simp! [U,hT,qZ]
 have e2:aF (rn (n+69)) [0] (k+3) (.set 3 (.lst [])) [St s1 fl,‹m›,‹w›,.no,.no]=!(.nx,[St s1 fl,‹m›,‹w›,.own [],.no]):=by simp! [U,aq 0 ⋯]
 let(g',(j,ah,s2,a4,h0,h1,h2,h3,h4,rfl),hq):=bR (T:=.nm 4) (b:=(rn (n+69)).b [0] (k+3) (x9 ti)) (λ(j:Nat)=>D.int (1+(j:Int)))
  (I:=λl g=>∃(j:Nat) (ah: ~~~5) (s2:Int) (a4:Slot),j<m/\l=List.range' j (m - 1 - j)/\ah.length<=j/\(∀x∈ah,∃a b:Int,x=[a,b]/\0<=a/\a<b/\b<=j)/\ah.Nodup/\g=[St s2 fl,‹m›,‹w›,.own (ah.map ∅),a4])
  (step:=λa l g h=>by
   let(j,ah,s2,a4,h0,h1,h2,h3,h4,rfl):=h;have Qy:j<m - 1:=by
    rcases wS j (m - 1)with h |h
    . show h
    . rw[AF h]at h1;cases h1
   have hc:List.range' j (m - 1 - j)=j::List.range' (j+1) (m - 1 - (j+1)):=by rw[show m - 1 - j=(m - 1 - (j+1))+1 by lia,AB]
   rw[hc]at h1;injection h1 with e1 e2;subst e1 e2;obtain⟨z,hz⟩:∃z:Int,z=1+(a:Int):=#[_,rfl];rw[<- hz];let(r,s3,r1,r2,q):=bM U (n:=n+43) (k:=k+2) (g:=[St s2 fl,‹m›,‹w›,.own (ah.map ∅),‹z›]) (i:=0) (s:=s2) (m:=z) rfl ⋯
   have q':=q;obtain⟨v,hv,h5⟩:∃v:Int,(0<=v/\v<z)/\L2.gD [D.int r,.int (z - 1),.int 0,.int (if 2<z then z - 2 else 0)] w=!(.int v):=by
    have:w=0\/w=1\/w=2\/w=3:=by lia
    rcases this with rfl |rfl |rfl |rfl
    . show#[r,by lia,rfl]
    . show#[z - 1,by lia,rfl]
    . show#[0,by lia,rfl]
    . show#[_,by split <;> lia,rfl]
   have z2:=fA (pE _) (aq (ah.length+1) ⋯);apply#[[St s2 fl,‹m›,‹w›,.own (ah.map ∅),‹z›],[St s3 fl,‹m›,‹w›,.own ((ah++[[v,z]]).map ∅),‹z›],rfl,?_,a+1,ah++[[v,z]],s3,_,by lia,rfl,by simp;lia,?_,?_,rfl]
   . rw[v6];delta x9;simp! [U,hT,q',h5,z2,aq 4 ⋯,aq 2 ⋯];rfl
   .
    intro x hx;rcases tP.mp hx with hx |hx
    . let(p,q,e,h):=h3 x hx;show#[p,q,e,by lia,by lia,by lia]
    . rw[fR]at hx;show#[v,z,hx,by lia,by lia,by lia]
   .
    apply w8.mpr #[h4,by simp,λx hx y hy e=>?_]
    rw[fR]at hy;subst e hy;let(p,q,e,h):=h3 _ hx;lia) (List.range' 0 (m - 1)) [St s1 fl,‹m›,‹w›,.own [],.no] #[0,[],s1,.no,by lia,rfl,by simp,by simp,u4,rfl]
 have hr:cF 1 (m - 1)=(List.range' 0 (m - 1)).map λ(x:Nat)=>D.int (1+(x:Int)):=by delta cF;rw[y6]
 have e3:aF (rn (n+69)) [0] (k+3) (.loop (.nm 4) (.iZ ↥1 ⇑1) (x9 ti)) [St s1 fl,‹m›,‹w›,.own [],.no]=!(.nx,[St s2 fl,‹m›,‹w›,.own (ah.map ∅),a4]):=by
  have e:((m:Int) - 1).toNat=m - 1:=by lia
  generalize hb:(rn (n+69)).b [0] (k+3) (x9 ti)=bb at hq;simp! [U,Tg.ix,dJ,aV 1 ⋯,aV m ⋯,hr,hb,hq]
 have hp:∀x∈ah,Pr m x:=λx hx=>by let(p,q,e,h):=h3 x hx;show#[p,q,e,by lia,by lia,by lia]
 let(row,s3,Ae,q4):=vh U hT (n:=n+17) (k:=k+1) (g:=[St s2 fl,‹m›,‹w›,.own (ah.map ∅),a4]) (i:=0) (s:=s2) (fl:=fl) m rfl ⋯
 have W6:=q4;have q5:=λn k=>qQ U (n:=n) (k:=k) m ⋯ ah hp ⋯ row Ae
 have e4:aF (rn (n+69)) [0] (k+3) (.ret (.call na [(.tup [⇑1,(.blt .tuple [⇑3])]),(.call mi [⇑0,⇑1])])) [St s2 fl,‹m›,‹w›,.own (ah.map ∅),a4]=!(.rt (.dat (W m (bQ bW (ah.map (tm row))))),[St s3 fl,‹m›,‹w›,.own (ah.map ∅),a4]):=by simp! [U,aq 2 ⋯,hM,W6,hN,aP (fx:=dZ) rfl,q5]
 have aN:(bQ bW (ah.map (tm row))).length=ah.length:=by rw[(bE _).length_eq,eJ]
 apply#[bQ bW (ah.map (tm row)),s3,#[λx hx=>?_,gB (jC h4 λx hx y hy e=>vg Ae (hp x hx) (hp y hy) e),by lia],by lia,?_]
 . let(y,hy,rfl):=gN.mp ((bE (O:=bW) _).mem_iff.mp hx);show Ky Ae (hp y hy)
 .
  have hpd:dG (iM ti na mi).n [St s fl,‹m›]=[St s fl,‹m›,.no,.no,.no]:=rfl;have body:(rn (n+70)).b [0] (k+3) (iM ti na mi).body [St s fl,‹m›,.no,.no,.no]=!(.rt (.dat (W m (bQ bW (ah.map (tm row))))),[St s3 fl,‹m›,‹w›,.own (ah.map ∅),a4]):=by delta iM;rw[U.b,aB e1,aB e2,aB e3];delta cM;rw[e4]
  delta aR;simp only[vars,cL,hi,List.map_cons,List.map_nil];rw[hpd,body];rfl
end
abbrev KC(ti:Nat):Sm:=.set 1 (.ix (.lst [↥6,↥5,↥4,↥6,↥3,↥5,↥2,↥1]) (.call ti [⇑0,↥8]))
abbrev KD:Ex:=.tup [⇑4,⇑11]
abbrev KH(ti:Nat):Option Ex:=!(.cmp .Lt (.call ti [⇑0,↥4]) (.bin .Add ⇑2 ↥1))
abbrev nW(ti:Nat):List Sm:=[(.expr (.extend 3 (.comp 10 2 (.nm 11) (.iZ (.bin .Add ⇑4 ↥1) ⇑1) (KH ti) KD)))]
abbrev Yn(ti:Nat):Sm:=.ite (.cmp .Lt ⇑2 ↥3) [(.loop (.nm 4) (.bK ⇑1) (nW ti)),(.ret (.tup [⇑1,(.blt .tuple [⇑3])]))] []
abbrev FH(tr:Nat):Sm:=.ite (.cmp .Eq ⇑2 ↥3) [(.ret (.call tr [⇑0,⇑1]))] []
abbrev w2b(ti tr:Nat):List Sm:=[(.set 6 (.call tr [⇑0,⇑1])),(.tgt (.tp [4,5]) (.blt .sorted [(.lst [(.call ti [⇑0,⇑1]),(.call ti [⇑0,⇑1])])])),(.setC 3 (.comp 10 2 (.nm 11) (.ix ⇑6 ↥1) (!(.cmp .NotEq ⇑11 (.tup [⇑4,⇑5]))) ⇑11)),(.ite (.and [(.cmp .Lt ⇑4 ⇑5),(.cmp .Eq (.blt .len [⇑3]) (.blt .len [(.ix ⇑6 ↥1)]))]) [(.expr (.append 3 (.tup [⇑4,⇑5])))] []),(.ret (.tup [⇑1,(.blt .tuple [(.blt .sorted [⇑3])])]))]
abbrev tL(ti tr:Nat):Sm:=.ite (.cmp .Eq ⇑2 ↥4) (w2b ti tr) []
abbrev w2c:Sm:=.setC 9 (.comp 10 3 (.tp [11,12]) (.ix ⇑8 ↥1) none (.tup [(.bin .Add ⇑7 ⇑11),(.bin .Add ⇑7 ⇑12)]))
abbrev w2r(na mi:Nat):Sm:=.ret (.call na [(.tup [(.bin .Mult ↥2 ⇑7),(.bin .Add (.ix ⇑8 ↥1) (.blt .tuple [⇑9]))]),(.call mi [⇑0,(.bin .Mult ↥2 ⇑7)])])
abbrev qR(ti na mi tr:Nat):Fx:=#[1,10,[(KC ti),(.set 2 (.call ti [⇑0,↥6])),(.set 3 (.lst [])),(Yn ti),(FH tr),(tL ti tr),(.set 7 (.bin .Add ↥1 (.call ti [⇑0,↥3]))),(.set 8 (.call tr [⇑0,⇑7])),w2c,(w2r na mi)]]
def W7{α:Type}(eS f:α->D)(gs:Int->G)(hn:∀s,(gs s).length=nn)(hj1:nn<=j)(hj2:j<nn+kk) :
  ∀(ak:List α) (s:Int) (m:G) (acc:List D),m.length=kk->acc.length+ak.length<=lim->
  (∀a∈ak,∀s m acc,m.length=kk->m[j - nn]?=!(.dat (eS a))->∃b s',qw rn bor k c (gM (gs s) m acc)=!(b,gM (gs s') m acc))->
  (∀a∈ak,∀s m acc,m.length=kk->m[j - nn]?=!(.dat (eS a))->gJ rn bor k e (gM (gs s) m acc)=!(f a,gM (gs s) m acc))->
  ∃(sub:List α) (s':Int) (m':G),sub.Sublist ak/\m'.length=kk/\xm rn bor k (.nm j) (nn+kk) c e (ak.map eS) (gM (gs s) m acc)=!(gM (gs s') m' (acc++sub.map f))
 | [],s,m,acc,hm,_,_,_=>#[[],s,m,CF _,hm,by simp[xm]]
 |a::ak,s,m,acc,hm,hl,hc,he=>by
  rw[kA]at hl;have Qy:j - nn<m.length:=by lia
  have q1:(Tg.nm j).set (eS a) (gM (gs s) m acc)=!(gM (gs s) (m.set (j - nn) (.dat (eS a))) acc):=by
   have:=u9 (g:=gs s) (kk:=kk) (d:=eS a) (m:=m) (acc:=acc) (by rw[hn];show hj1) (by rw[hn];show Qy)
   rw[hn]at this;show this
  have hm':(m.set (j - nn) (.dat (eS a))).length=kk:=by simpa using hm
  have hg:(m.set (j - nn) (.dat (eS a)))[j - nn]?=!(.dat (eS a)):=by rw[fI Qy]
  let(b,s',q2):=hc a dC s _ acc hm' hg;rw[List.map_cons];delta xm;rw[q1];dsimp only;rw[q2];cases b with
  |false=>
   let(sub,s2,m2,w1,w2,w3):=W7 eS f gs hn hj1 hj2 ak s' _ acc hm' ⋯ (λx hx=>hc x (bP _ hx)) (λx hx=>he x (bP _ hx))
   show#[sub,s2,m2,w1.cons a,w2,w3]
  |true=>
   dsimp only;rw[he a dC s' _ acc hm' hg];dsimp only;have q4:(gM (gs s') (m.set (j - nn) (.dat (eS a))) acc)[nn+kk]?=!(.own acc):=by have:=fZ (g:=gs s') (m:=m.set (j - nn) (.dat (eS a))) (acc:=acc);rw[hn,hm']at this;show this
   rw[q4];dsimp only;rw[i7 ⋯];have q5:(gM (gs s') (m.set (j - nn) (.dat (eS a))) acc).set (nn+kk) (.own (acc++[f a]))=gM (gs s') (m.set (j - nn) (.dat (eS a))) (acc++[f a]):=by have:=gi (g:=gs s') (m:=m.set (j - nn) (.dat (eS a))) (acc:=acc) (acc':=acc++[f a]);rw[hn,hm']at this;show this
   rw[q5];let(sub,s2,m2,w1,w2,w3):=W7 eS f gs hn hj1 hj2 ak s' _ (acc++[f a]) hm' (by rw[eP,t6];lia) (λx hx=>hc x (bP _ hx)) (λx hx=>he x (bP _ hx))
   apply#[a::sub,s2,m2,w1.cons_cons a,w2,?_];rw[w3];simp
def W8{α:Type}(ak:List α)(eS f:α->D)(gs:Int->G)(hn:∀s,(gs s).length=nn)(hj1:nn<=j)(hj2:j<nn+kk)(hw:dJ rn bor k false it g=!(ak.map eS,gs s))(hb:j∉bor)(hl:ak.length<=lim)
  (hc:∀a∈ak,∀s m acc,m.length=kk->m[j - nn]?=!(.dat (eS a))->∃b s',qw rn bor k c (gM (gs s) m acc)=!(b,gM (gs s') m acc))
  (he:∀a∈ak,∀s m acc,m.length=kk->m[j - nn]?=!(.dat (eS a))->gJ rn bor k e (gM (gs s) m acc)=!(f a,gM (gs s) m acc)) :
  ∃(sub:List α) (s':Int),sub.Sublist ak/\cz rn bor k nn kk (.nm j) it c e g=!(sub.map f,gs s'):=by
 let(sub,s',m',w1,w2,w3):=W7 eS f gs hn hj1 hj2 ak s (List.replicate kk .no) [] ⋯ (by simpa using hl) hc he
 apply#[sub,s',w1,?_];delta cz;rw[show (Tg.nm j).j8=false from rfl,hw]
 dsimp only;rw[i7 #[hn s,by simp[Tg.ix,hb]],Cv,w3]
 dsimp only;have:(gM (gs s') m' ([]++sub.map f))[nn+kk]?=!(.own ([]++sub.map f)):=by have:=fZ (g:=gs s') (m:=m') (acc:=[]++sub.map f);rw[hn,w2]at this;show this
 rw[this];have ht:=oR (g:=gs s') (m:=m') (acc:=[]++sub.map f);rw[hn]at ht;rw[ht,AV]
def W9{m:Nat}(hm:1<=m/\m<=6):(prs m).Pairwise λx y=>HT.lexLt x y=true:=by refine six hm <;> decide +kernel
def Wb.Qz(hm:1<=m/\m<=6)(h:l.Sublist (prs m)):Wb m l:=by let(h1,_,h3):=W5 hm;show#[λx hx=>h1 x (h.subset hx),(W9 hm).sublist h,i9 h.length_le h3]
section
variable{bor:List Nat}{k n:Nat}{g g1:G}{rn:Nat->Rn}{fns:List Fx}{ti na mi tr:Nat}(U:jj fns rn)(hT:fns[ti]?=!bz)
include U hT
nonrec abbrev f2(s:Int)(fl:Bool)(a1 a2 a3 a4 a5 a6 a7 a8 a9:Slot):G:=[St s fl,a1,a2,a3,a4,a5,a6,a7,a8,a9]
def Xa(s:Int)(fl:Bool)(m:Nat)(hm:1<=m/\m<=6)(w:Int):∃(l: ~~~5) (s':Int) (a4:Slot),l.Sublist (prs m)/\aF (rn (n+98)) [0] (k+5) (.loop (.nm 4) (.bK ⇑1) (nW ti)) (f2 s fl ‹m› ‹w› (.own []) .no .no .no .no .no .no)=!(.nx,f2 s' fl ‹m› ‹w› (.own (l.map ∅)) a4 .no .no .no .no .no):=by
 let(g',(j,l,s',a4,h0,h1,h2,rfl),h3):=bR (T:=.nm 4) (b:=(rn (n+98)).b [0] (k+5) (nW ti)) (λ(j:Nat)=>D.int (j:Int))
  (I:=λr g=>∃(j:Nat) (l: ~~~5) (s':Int) (a4:Slot),j<=m/\r=List.range' j (m - j)/\l.Sublist (pacc m j)/\g=f2 s' fl ‹m› ‹w› (.own (l.map ∅)) a4 .no .no .no .no .no)
  (step:=λa r g h=>by
   let(j,l,s',a4,h0,h1,h2,rfl):=h;have Qy:j<m:=by
    rcases wS j m with h |h
    . show h
    . rw[AF h]at h1;cases h1
   have hc:List.range' j (m - j)=j::List.range' (j+1) (m - (j+1)):=by rw[show m - j=(m - (j+1))+1 by lia,AB]
   rw[hc]at h1;injection h1 with e1 e2;subst e1 e2;have aN:l.length<=36:=i9 h2.length_le (i9 (xZ m a) (i9 (Nat.mul_le_mul (show a<=6 by lia) hm.2) ⋯))
   let(sub,s2,hs,hq):=W8 (rn:=rn (n+95)) (bor:=[0]) (k:=k+5) (kk:=2) (nn:=10) (j:=11) (it:=.iZ (.bin .Add ⇑4 ↥1) ⇑1) (c:=KH ti) (e:=KD) (s:=s') (g:=f2 s' fl ‹m› ‹w› (.own (l.map ∅)) ‹a› .no .no .no .no .no) (List.range (m - (a+1))) (λi=>D.int ((a:Int)+1+(i:Int))) (λi=>D.tup [.int (a:Int),.int ((a:Int)+1+(i:Int))]) (λs=>f2 s fl ‹m› ‹w› (.own (l.map ∅)) ‹a› .no .no .no .no .no) (λ_=>rfl) ⋯ ⋯ (by
     have e:((m:Int) - ((a:Int)+1)).toNat=m - (a+1):=by lia
     delta f2;simp! [U,dJ,aV ((a:Int)+1) ⋯,aV m ⋯,e,cF]) ⋯ (aq _ (by simp;lia))
    (λx _ s mm acc h1 h2=>by
     let(r,s2,r1,r2,q):=bM U (g:=gM (f2 s fl ‹m› ‹w› (.own (l.map ∅)) ‹a› .no .no .no .no .no) mm acc) (i:=0) (m:=4) rfl ⋯
     have q':aR (rn (n+93)) bz (k+4) [.var 0,‹4›] (gM (f2 s fl ‹m› ‹w› (.own (l.map ∅)) ‹a› .no .no .no .no .no) mm acc)=!(‹r›,gM (f2 s2 fl ‹m› ‹w› (.own (l.map ∅)) ‹a› .no .no .no .no .no) mm acc):=q
     have g0:∀s,(gM (f2 s fl ‹m› ‹w› (.own (l.map ∅)) ‹a› .no .no .no .no .no) mm acc)[0]?=!(St s fl):=λ_=>rfl
     have g2:∀s,(gM (f2 s fl ‹m› ‹w› (.own (l.map ∅)) ‹a› .no .no .no .no .no) mm acc)[2]?=!‹w›:=λ_=>rfl
     apply#[decide (r<w+1),s2,?_];simp! [U,KH,qw,hT,g0,g2,q'])
    (λx _ s mm acc h1 h2=>by
     have g4:∀s,(gM (f2 s fl ‹m› ‹w› (.own (l.map ∅)) ‹a› .no .no .no .no .no) mm acc)[4]?=!‹a›:=λ_=>rfl
     have g11:(gM (f2 s fl ‹m› ‹w› (.own (l.map ∅)) ‹a› .no .no .no .no .no) mm acc)[11]?=!(.dat (.int ((a:Int)+1+(x:Int)))):=by
      have:=dY (g:=f2 s fl ‹m› ‹w› (.own (l.map ∅)) ‹a› .no .no .no .no .no) (m:=mm) (acc:=acc) (i:=1) ⋯
      show this.trans h2
     simp! [U,KD,g4,g11,aq 2 ⋯])
   have hsub:(l++sub.map λ(i:Nat)=>[(a:Int),(a:Int)+1+(i:Int)]).Sublist (pacc m (a+1)):=by rw[tK];show h2.append (hs.map _)
   have es:sub.map (λ(i:Nat)=>D.tup [.int (a:Int),.int ((a:Int)+1+(i:Int))])=(sub.map λ(i:Nat)=>[(a:Int),(a:Int)+1+(i:Int)]).map λx=>~~~x:=by rw[List.map_map];rfl
   rw[es]at hq;have hl2:(sub.map λ(i:Nat)=>[(a:Int),(a:Int)+1+(i:Int)]).length<=6:=by rw[eJ];show i9 hs.length_le (by simp;lia)
   generalize hS:(sub.map λ(i:Nat)=>[(a:Int),(a:Int)+1+(i:Int)])=ss at hq hsub hl2
   have z:l.length+ss.length<=lim:=aq _ ⋯;apply#[f2 s' fl ‹m› ‹w› (.own (l.map ∅)) ‹a› .no .no .no .no .no,f2 s2 fl ‹m› ‹w› (.own ((l++ss).map ∅)) ‹a› .no .no .no .no .no,rfl,?_,a+1,l++ss,s2,_,by lia,rfl,hsub,rfl]
   delta nW;delta f2 at hq ⊢
   simp! [U,hq,z]) (List.range' 0 m) (f2 s fl ‹m› ‹w› (.own []) .no .no .no .no .no .no) #[0,[],s,.no,by lia,rfl,CF _,rfl]
 have hj:j=m:=by
  have:(List.range' j (m - j)).length=0:=by rw[<- h1];rfl
  rw[Cc]at this;lia
 subst hj;have hr:cF 0 j=(List.range' 0 j).map λ(x:Nat)=>D.int (x:Int):=by delta cF;rw[y6];show nE λx _=>by rw[Int.zero_add]
 apply#[l,s',a4,h2,?_];generalize hb:(rn (n+98)).b [0] (k+5) (nW ti)=bb at h3;delta f2 at h3 ⊢
 simp! [U,Tg.ix,dJ,aV j ⋯,hr,hb,h3]
end
section
variable{bor:List Nat}{k n:Nat}{g g1:G}{rn:Nat->Rn}{fns:List Fx}{ti na mi tr:Nat}(U:jj fns rn)(hT:fns[ti]?=!bz)
include U hT
variable(hN:fns[na]?=!dZ)(hM:fns[mi]?=!(iL ti))(hR:fns[tr]?=!(iM ti na mi))
include hN hM hR
def Xc(s:Int)(fl:Bool)(m:Nat)(hm:1<=m/\m<=6):∃(ah: ~~~5) (s':Int) (g':G),Wb m ah/\g'[0]?=!(St s' fl)/\(rn (n+99)).b [0] (k+5) (w2b ti tr) (f2 s fl ‹m› ‹4› (.own []) .no .no .no .no .no .no)=!(.rt (.dat (W m ah)),g'):=by
 let(ah,s1,ht,tl,q1):=vj U hT hN hM (n:=n+27) (k:=k+1) (g:=f2 s fl ‹m› ‹4› (.own []) .no .no .no .no .no .no) (i:=0) (s:=s) (fl:=fl) m hm rfl;have qZ:aR (rn (n+97)) (iM ti na mi) (k+4) [.var 0,‹m›] [St s fl,‹m›,‹4›,.own [],.no,.no,.no,.no,.no,.no]=!(.dat (W m ah),[St s1 fl,‹m›,‹4›,.own [],.no,.no,.no,.no,.no,.no]):=q1;have e1:aF (rn (n+98)) [0] (k+5) (.set 6 (.call tr [⇑0,⇑1])) [St s fl,‹m›,‹4›,.own [],.no,.no,.no,.no,.no,.no]=!(.nx,[St s1 fl,‹m›,‹4›,.own [],.no,.no,.dat (W m ah),.no,.no,.no]):=by simp! [U,hR,qZ]
 let(r1,s2,a1,a2,q2):=bM U (n:=n+75) (k:=k+4) (g:=[St s1 fl,‹m›,‹4›,.own [],.no,.no,.dat (W m ah),.no,.no,.no]) (i:=0) (s:=s1) (fl:=fl) (m:=(m:Int)) rfl ⋯;have yI:aR (rn (n+95)) bz (k+4) [.var 0,‹m›] [St s1 fl,‹m›,‹4›,.own [],.no,.no,.dat (W m ah),.no,.no,.no]=!(‹r1›,[St s2 fl,‹m›,‹4›,.own [],.no,.no,.dat (W m ah),.no,.no,.no]):=q2;let(r2,s3,a3,a4,q3):=bM U (n:=n+75) (k:=k+4) (g:=[St s2 fl,‹m›,‹4›,.own [],.no,.no,.dat (W m ah),.no,.no,.no]) (i:=0) (s:=s2) (fl:=fl) (m:=(m:Int)) rfl ⋯;have DP:aR (rn (n+95)) bz (k+4) [.var 0,‹m›] [St s2 fl,‹m›,‹4›,.own [],.no,.no,.dat (W m ah),.no,.no,.no]=!(‹r2›,[St s3 fl,‹m›,‹4›,.own [],.no,.no,.dat (W m ah),.no,.no,.no]):=q3;obtain⟨a,b,hab,he⟩:∃a b:Int,(0<=a/\a<=b/\b<m)/\eE [r1,r2]=[a,b]:=by
  rw[show eE [r1,r2]=if r1<=r2 then [r1,r2]else [r2,r1]by simp only[eE,ins]]
  split
  . show#[r1,r2,by lia,rfl]
  . show#[r2,r1,by lia,rfl]
 have bs:qq .sorted [.lst [.int r1,.int r2]]=!(.new [.int a,.int b]):=by rw[Qx,he];rfl
 have st:Tg.set (.tp [4,5]) (.lst [.int a,.int b]) [St s3 fl,‹m›,‹4›,.own [],.no,.no,.dat (W m ah),.no,.no,.no]=![St s3 fl,‹m›,‹4›,.own [],‹a›,‹b›,.dat (W m ah),.no,.no,.no]:=rfl;have e2:aF (rn (n+98)) [0] (k+5) (.tgt (.tp [4,5]) (.blt .sorted [(.lst [(.call ti [⇑0,⇑1]),(.call ti [⇑0,⇑1])])])) [St s1 fl,‹m›,‹4›,.own [],.no,.no,.dat (W m ah),.no,.no,.no]=!(.nx,[St s3 fl,‹m›,‹4›,.own [],‹a›,‹b›,.dat (W m ah),.no,.no,.no]):=by simp! [U,hT,yI,DP,bs,st,Tg.ix,aq 2 ⋯]
 have i1:uL (W m ah) (.int 1)=!(.tup (ah.map ∅)):=rfl
 have w3:=sZ (rn:=rn (n+98)) (bor:=[0]) (k:=k+5) (g:=[St s3 fl,‹m›,‹4›,.own [],‹a›,‹b›,.dat (W m ah),.no,.no,.no]) (g1:=[St s3 fl,‹m›,‹4›,.own [],‹a›,‹b›,.dat (W m ah),.no,.no,.no]) (kk:=2) (nn:=10) (j:=11) (it:=.ix ⇑6 ↥1) (c:=!(.cmp .NotEq ⇑11 (.tup [⇑4,⇑5]))) (e:=.slot 11) ah ∅ (λx=>(not (decide (x=[a,b])))) ∅ (by simp! [U,dJ,i1]) rfl ⋯ ⋯ ⋯ (aq _ ⋯)
  (λx _ G' hG=>by
   have h4:G'[4]?=!‹a›:=hG.1 4 ⋯;have h5:G'[5]?=!‹b›:=hG.1 5 ⋯;have cn:fS .NotEq (~~~x) (.tup [.int a,.int b])=!((not (decide (x=[a,b])))):=Kp x [a,b];simp! [U,qw,hG.2,h4,h5,cn,aq 2 ⋯])
  (λx _ _ G' hG=>by simp! [U,hG.2])
 generalize hF:(ah.filter λx=>(not (decide (x=[a,b]))))=BP at w3
 have e3:aF (rn (n+98)) [0] (k+5) (.setC 3 (.comp 10 2 (.nm 11) (.ix ⇑6 ↥1) (!(.cmp .NotEq ⇑11 (.tup [⇑4,⇑5]))) ⇑11)) [St s3 fl,‹m›,‹4›,.own [],‹a›,‹b›,.dat (W m ah),.no,.no,.no]=!(.nx,[St s3 fl,‹m›,‹4›,.own (BP.map ∅),‹a›,‹b›,.dat (W m ah),.no,.no,.no]):=by simp only[aF,w3];simp
 have fs:BP.Sublist ah:=by rw[<- hF];show List.filter_sublist
 have hfl:=fs.length_le;have z3:BP.length<lim:=fA (pE _) (aq (BP.length+1) ⋯);obtain⟨l,hl,e4⟩:∃l:List (~~~0),((∀x∈l,Pr m x)/\l.Nodup/\l.length<=15)/\aF (rn (n+98)) [0] (k+5) (.ite (.and [(.cmp .Lt ⇑4 ⇑5),(.cmp .Eq (.blt .len [⇑3]) (.blt .len [(.ix ⇑6 ↥1)]))]) [(.expr (.append 3 (.tup [⇑4,⇑5])))] []) [St s3 fl,‹m›,‹4›,.own (BP.map ∅),‹a›,‹b›,.dat (W m ah),.no,.no,.no]=!(.nx,[St s3 fl,‹m›,‹4›,.own (l.map ∅),‹a›,‹b›,.dat (W m ah),.no,.no,.no]):=by
  by_cases h1:a<b
  .
   by_cases h2:BP.length=ah.length
   .
    have h2':((BP.length:Nat):Int)=ah.length:=by lia
    have eq:BP=ah:=fs.eq_of_length h2;apply#[BP++[[a,b]],#[λx hx=>?_,?_,by simp;lia],?_]
    .
     rcases tP.mp hx with hx |hx
     . show ht.tie x (fs.subset hx)
     . rw[fR]at hx;show#[a,b,hx,by lia,h1,by lia]
    .
     apply w8.mpr #[fs.nodup ht.nodup,by simp,λx hx y hy e=>?_]
     rw[fR]at hy;subst e hy;rw[<- hF]at hx;have:=(i5.mp hx).2;simp at this
    . rw[v6];simp! [U,h1,i1,h2',z3,aq 2 ⋯];rfl
   .
    have h2' : ¬ ((BP.length:Nat):Int)=ah.length:=by lia
    apply#[BP,#[λx hx=>ht.tie x (fs.subset hx),fs.nodup ht.nodup,by lia],?_]
    simp! [U,h1,i1,h2,h2']
  .
   apply#[BP,#[λx hx=>ht.tie x (fs.subset hx),fs.nodup ht.nodup,by lia],?_]
   simp! [U,h1]
 have bs2:=jh l (λx hx e=>by let(a,b,e',_):=hl.1 x hx;rw[e']at e;cases e) ⋯
 have e5:aF (rn (n+98)) [0] (k+5) (.ret (.tup [⇑1,(.blt .tuple [(.blt .sorted [⇑3])])])) [St s3 fl,‹m›,‹4›,.own (l.map ∅),‹a›,‹b›,.dat (W m ah),.no,.no,.no]=!(.rt (.dat (W m (bQ bW l))),[St s3 fl,‹m›,‹4›,.own (l.map ∅),‹a›,‹b›,.dat (W m ah),.no,.no,.no]):=by simp! [U,bs2,aq 2 ⋯];rfl
 have hp:=bE (O:=bW) l;apply#[bQ bW l,s3,[St s3 fl,‹m›,‹4›,.own (l.map ∅),‹a›,‹b›,.dat (W m ah),.no,.no,.no],#[λx hx=>hl.1 x (hp.mem_iff.mp hx),gB hl.2.1,by rw[hp.length_eq];show hl.2.2],rfl,?_]
 delta w2b f2;rw[U.b,aB e1,aB e2,aB e3,aB e4];delta cM;rw[e5]
end
section
variable{bor:List Nat}{k n:Nat}{g g1:G}{rn:Nat->Rn}{fns:List Fx}{ti na mi tr:Nat}(U:jj fns rn)(hT:fns[ti]?=!bz)
include U hT
variable(hN:fns[na]?=!dZ)(hM:fns[mi]?=!(iL ti))(hR:fns[tr]?=!(iM ti na mi))
include hN hM hR
abbrev w2h(ti na mi tr:Nat):List Sm:=[(.set 7 (.bin .Add ↥1 (.call ti [⇑0,↥3]))),(.set 8 (.call tr [⇑0,⇑7])),w2c,(w2r na mi)]
abbrev sh(h:Nat)(x: ~~~0): ~~~0:=[(h:Int)+gt x 0,(h:Int)+gt x 1]
omit U hT hN hM hR in
def Xd(h:Nat)(hx:Pr m x)(hy:Pr m y)(e:sh h x=sh h y):x=y:=by
 let(a,b,rfl,_):=hx;let(c,d,rfl,_):=hy;delta sh at e;rw[(bf a b).1,(bf a b).2,(bf c d).1,(bf c d).2]at e;simp only[B9,and_true]at e;let(e1,e2):=e;have:a=c:=by lia
 have:b=d:=by lia
 subst a b;rfl
def Xe(s:Int)(fl:Bool)(m w:Int):∃(M:Nat) (ah: ~~~5) (s':Int) (g':G),(1<=M/\M<=6)/\Wb M ah/\g'[0]?=!(St s' fl)/\cM (rn (n+99)) [0] (k+5) (w2h ti na mi tr) (f2 s fl ‹m› ‹w› (.own []) .no .no .no .no .no .no)=!(.rt (.dat (W M ah)),g'):=by
 let(r,s1,a1,a2,q1):=bM U (n:=n+77) (k:=k+4) (g:=[St s fl,‹m›,‹w›,.own [],.no,.no,.no,.no,.no,.no]) (i:=0) (s:=s) (fl:=fl) (m:=3) rfl ⋯;have qZ:aR (rn (n+97)) bz (k+4) [.var 0,‹3›] [St s fl,‹m›,‹w›,.own [],.no,.no,.no,.no,.no,.no]=!(‹r›,[St s1 fl,‹m›,‹w›,.own [],.no,.no,.no,.no,.no,.no]):=q1;obtain⟨h,hr,h1,h2⟩:∃h:Nat,1+r=(h:Int)/\1<=h/\h<=3:=#[(1+r).toNat,by lia,by lia,by lia]
 have e1:aF (rn (n+99)) [0] (k+5) (.set 7 (.bin .Add ↥1 (.call ti [⇑0,↥3]))) [St s fl,‹m›,‹w›,.own [],.no,.no,.no,.no,.no,.no]=!(.nx,[St s1 fl,‹m›,‹w›,.own [],.no,.no,.no,‹h›,.no,.no]):=by simp! [U,hT,qZ,hr]
 let(ah,s2,ht,tl,q2):=vj U hT hN hM (n:=n+28) (k:=k+1) (g:=[St s1 fl,‹m›,‹w›,.own [],.no,.no,.no,‹h›,.no,.no]) (i:=0) (s:=s1) (fl:=fl) h ⋯ rfl;have yI:aR (rn (n+98)) (iM ti na mi) (k+4) [.var 0,‹h›] [St s1 fl,‹m›,‹w›,.own [],.no,.no,.no,‹h›,.no,.no]=!(.dat (W h ah),[St s2 fl,‹m›,‹w›,.own [],.no,.no,.no,‹h›,.no,.no]):=q2;have e2:aF (rn (n+99)) [0] (k+5) (.set 8 (.call tr [⇑0,⇑7])) [St s1 fl,‹m›,‹w›,.own [],.no,.no,.no,‹h›,.no,.no]=!(.nx,[St s2 fl,‹m›,‹w›,.own [],.no,.no,.no,‹h›,.dat (W h ah),.no]):=by simp! [U,hR,yI]
 have i1:uL (W h ah) (.int 1)=!(.tup (ah.map ∅)):=rfl
 have w3:=z8 (rn:=rn (n+99)) (bor:=[0]) (k:=k+5) (g:=[St s2 fl,‹m›,‹w›,.own [],.no,.no,.no,‹h›,.dat (W h ah),.no]) (g1:=[St s2 fl,‹m›,‹w›,.own [],.no,.no,.no,‹h›,.dat (W h ah),.no]) (kk:=3) (nn:=10) (j1:=11) (j2:=12) (it:=.ix ⇑8 ↥1) (e:=.tup [(.bin .Add ⇑7 ⇑11),(.bin .Add ⇑7 ⇑12)]) ah (λx=>.int (gt x 0)) (λx=>.int (gt x 1)) (λx=>~~~(sh h x)) (by
   have e:ah.map ∅=ah.map λx=>.tup [.int (gt x 0),.int (gt x 1)]:=nE λx hx=>by
    let(a,b,rfl,_):=ht.tie x hx;rfl
   simp! [U,dJ,i1,<- e]) rfl ⋯ ⋯ ⋯ ⋯ ⋯ ⋯ ⋯ (aq _ ⋯) λx hx G' hG=>by
  have h7:G'[7]?=!‹h›:=hG.1 7 ⋯;have h5:=hG.2.1;have h6:=hG.2.2;delta sh;simp! [U,h7,h5,h6,aq 2 ⋯];rfl
 have e3:aF (rn (n+99)) [0] (k+5) w2c [St s2 fl,‹m›,‹w›,.own [],.no,.no,.no,‹h›,.dat (W h ah),.no]=!(.nx,[St s2 fl,‹m›,‹w›,.own [],.no,.no,.no,‹h›,.dat (W h ah),.own ((ah.map (sh h)).map ∅)]):=by delta w2c;simp only[aF,w3];simp
 obtain⟨M,hM2⟩:∃M:Nat,M=2 * h:=#[_,rfl];have e2h:(2:Int) * (h:Int)=(M:Int):=by lia
 have hp:∀x∈ah++ah.map (sh h),Pr M x:=λx hx=>by
  rcases tP.mp hx with hx |hx
  . let(a,b,e,h):=ht.tie x hx;show#[a,b,e,by lia,by lia,by lia]
  . let(y,hy,rfl):=gN.mp hx;let(a,b,rfl,hh):=ht.tie y hy;show#[(h:Int)+a,(h:Int)+b,rfl,by lia,by lia,by lia]
 have nd:(ah++ah.map (sh h)).Nodup:=by
  apply w8.mpr #[ht.nodup,jC ht.nodup λx hx y hy e=>Xd h (ht.tie x hx) (ht.tie y hy) e,λx hx y hy e=>?_]
  let(z,hz,rfl):=gN.mp hy;let(a,b,e1,h1):=ht.tie x hx;let(c,d,e2,h2):=ht.tie z hz;subst e1 e2;delta sh at e;rw[(bf c d).1,(bf c d).2]at e;simp only[B9,and_true]at e;lia
 have hln:(ah++ah.map (sh h)).length=ah.length+ah.length:=by simp
 let(row,s3,Ae,q4):=vh U hT (n:=n+47) (k:=k+3) (g:=[St s2 fl,‹m›,‹w›,.own [],.no,.no,.no,‹h›,.dat (W h ah),.own ((ah.map (sh h)).map ∅)]) (i:=0) (s:=s2) (fl:=fl) M rfl ⋯
 have W6:aR (rn (n+97)) (iL ti) (k+4) [.var 0,‹M›] [St s2 fl,‹m›,‹w›,.own [],.no,.no,.no,‹h›,.dat (W h ah),.own ((ah.map (sh h)).map ∅)]=!(.dat (~~~row),[St s3 fl,‹m›,‹w›,.own [],.no,.no,.no,‹h›,.dat (W h ah),.own ((ah.map (sh h)).map ∅)]):=q4
 have q5:=λn k=>qQ U (n:=n) (k:=k) M ⋯ (ah++ah.map (sh h)) hp ⋯ row Ae
 rw[v6]at q5;have z:ah.length+ah.length<=lim:=aq _ ⋯;have om:mO .Mult (.int 2) (.int h)=!‹M›:=by
  rw[<- e2h];have c:JQ 2 (h:Int)=true:=by obtain rfl |rfl |rfl:h=1\/h=2\/h=3:=⋯ <;> decide
  simp only[mO,JR,c,DB]
 have oa:mO .Add (.tup (ah.map ∅)) (.tup ((ah.map (sh h)).map ∅))=!(.dat (.tup ((ah.map ∅)++(ah.map (sh h)).map ∅))):=by simp only[mO,Fc];rw[i7 (by simpa using z)]
 have e4:aF (rn (n+99)) [0] (k+5) (w2r na mi) [St s2 fl,‹m›,‹w›,.own [],.no,.no,.no,‹h›,.dat (W h ah),.own ((ah.map (sh h)).map ∅)]=!(.rt (.dat (W M (bQ bW ((ah++ah.map (sh h)).map (tm row))))),[St s3 fl,‹m›,‹w›,.own [],.no,.no,.no,‹h›,.dat (W h ah),.own ((ah.map (sh h)).map ∅)]):=by delta w2r;simp! [U,aq 2 ⋯,om,oa,i1,hM,W6,hN,aP (fx:=dZ) rfl,q5,z]
 have aN:(bQ bW ((ah++ah.map (sh h)).map (tm row))).length=ah.length+ah.length:=by rw[(bE (O:=bW) _).length_eq,eJ,hln]
 apply#[M,bQ bW ((ah++ah.map (sh h)).map (tm row)),s3,[St s3 fl,‹m›,‹w›,.own [],.no,.no,.no,‹h›,.dat (W h ah),.own ((ah.map (sh h)).map ∅)],by lia,#[λx hx=>?_,gB (jC nd λx hx y hy e=>vg Ae (hp x hx) (hp y hy) e),by lia],rfl,?_]
 . let(y,hy,rfl):=gN.mp ((bE (O:=bW) _).mem_iff.mp hx);show Ky Ae (hp y hy)
 . delta w2h f2;rw[aB e1,aB e2,aB e3];delta cM;rw[e4]
end
section
variable{bor:List Nat}{k n:Nat}{g g1:G}{rn:Nat->Rn}{fns:List Fx}{ti na mi tr:Nat}(U:jj fns rn)(hT:fns[ti]?=!bz)
include U hT
variable(hN:fns[na]?=!dZ)(hM:fns[mi]?=!(iL ti))(hR:fns[tr]?=!(iM ti na mi))
include hN hM hR
def QB(hi:g[i]?=!(St s fl)):∃(m:Nat) (ah: ~~~5) (s':Int),(1<=m/\m<=6)/\Wb m ah/\aR (rn (n+100)) (qR ti na mi tr) (k+5) [.var i] g=!(.dat (W m ah),g.set i (St s' fl)):=by
 let(r,s1,a1,a2,q1):=bM U (n:=n+77) (k:=k+4) (g:=f2 s fl .no .no .no .no .no .no .no .no .no) (i:=0) (s:=s) (fl:=fl) (m:=8) rfl ⋯;have qZ:aR (rn (n+97)) bz (k+4) [.var 0,‹8›] [St s fl,.no,.no,.no,.no,.no,.no,.no,.no,.no]=!(‹r›,[St s1 fl,.no,.no,.no,.no,.no,.no,.no,.no,.no]):=q1;let(v,hv,hr):=Cz (l:=[D.int 6,.int 5,.int 4,.int 6,.int 3,.int 5,.int 2,.int 1]) (lo:=1) (hi:=6) #[a1,a2] rfl;obtain⟨m,rfl⟩:∃m:Nat,v=m:=#[v.toNat,by lia]
 have hm:1<=m/\m<=6:=by lia
 have e1:aF (rn (n+99)) [0] (k+5) (KC ti) (f2 s fl .no .no .no .no .no .no .no .no .no)=!(.nx,f2 s1 fl ‹m› .no .no .no .no .no .no .no .no):=by delta KC f2;simp! [U,hT,qZ,hr,aq 8 ⋯]
 let(w,s2,w1,w2,q2):=bM U (n:=n+78) (k:=k+4) (g:=f2 s1 fl ‹m› .no .no .no .no .no .no .no .no) (i:=0) (s:=s1) (fl:=fl) (m:=6) rfl ⋯;have yI:aR (rn (n+98)) bz (k+4) [.var 0,‹6›] [St s1 fl,‹m›,.no,.no,.no,.no,.no,.no,.no,.no]=!(‹w›,[St s2 fl,‹m›,.no,.no,.no,.no,.no,.no,.no,.no]):=q2;have e2:aF (rn (n+99)) [0] (k+5) (.set 2 (.call ti [⇑0,↥6])) (f2 s1 fl ‹m› .no .no .no .no .no .no .no .no)=!(.nx,f2 s2 fl ‹m› ‹w› .no .no .no .no .no .no .no):=by delta f2;simp! [U,hT,yI]
 have e3:aF (rn (n+99)) [0] (k+5) (.set 3 (.lst [])) (f2 s2 fl ‹m› ‹w› .no .no .no .no .no .no .no)=!(.nx,f2 s2 fl ‹m› ‹w› (.own []) .no .no .no .no .no .no):=by delta f2;simp! [U,aq 0 ⋯]
 obtain⟨M,ah,s3,g',hM2,hw,g0,hq⟩:∃(M:Nat) (ah: ~~~5) (s':Int) (g':G),(1<=M/\M<=6)/\Wb M ah/\g'[0]?=!(St s' fl)/\cM (rn (n+99)) [0] (k+5) ((Yn ti)::(FH tr)::(tL ti tr)::w2h ti na mi tr) (f2 s2 fl ‹m› ‹w› (.own []) .no .no .no .no .no .no)=!(.rt (.dat (W M ah)),g'):=by
  by_cases c1:w<3
  .
   let(l,s3,a4,hs,hq):=Xa U hT (n:=n) (k:=k) s2 fl m hm w;apply#[m,l,s3,f2 s3 fl ‹m› ‹w› (.own (l.map ∅)) a4 .no .no .no .no .no,hm,Wb.Qz hm hs,rfl,?_]
   have hb:(rn (n+99)).b [0] (k+5) [(.loop (.nm 4) (.bK ⇑1) (nW ti)),(.ret (.tup [⇑1,(.blt .tuple [⇑3])]))] (f2 s2 fl ‹m› ‹w› (.own []) .no .no .no .no .no .no)=!(.rt (.dat (W m l)),f2 s3 fl ‹m› ‹w› (.own (l.map ∅)) a4 .no .no .no .no .no):=by rw[U.b,aB hq];delta f2;simp! [U,aq 2 ⋯];rfl
   delta cM;have:aF (rn (n+99)) [0] (k+5) (Yn ti) (f2 s2 fl ‹m› ‹w› (.own []) .no .no .no .no .no .no)=!(.rt (.dat (W m l)),f2 s3 fl ‹m› ‹w› (.own (l.map ∅)) a4 .no .no .no .no .no):=by
    delta Yn;generalize ([(.loop (.nm 4) (.bK ⇑1) (nW ti)),(.ret (.tup [⇑1,(.blt .tuple [⇑3])]))]:List Sm)=bb at hb ⊢
    rw[U.b]at hb;delta f2 at hb ⊢
    simp! [U,c1,hb]
   rw[this]
  .
   have e4:aF (rn (n+99)) [0] (k+5) (Yn ti) (f2 s2 fl ‹m› ‹w› (.own []) .no .no .no .no .no .no)=!(.nx,f2 s2 fl ‹m› ‹w› (.own []) .no .no .no .no .no .no):=by delta Yn;generalize ([(.loop (.nm 4) (.bK ⇑1) (nW ti)),(.ret (.tup [⇑1,(.blt .tuple [⇑3])]))]:List Sm)=bb;delta f2;simp! [U,c1]
   rw[aB e4];by_cases c2:w=3
   .
    subst c2;let(ah,s3,ht,tl,q3):=vj U hT hN hM (n:=n+27) (k:=k+1) (g:=f2 s2 fl ‹m› ‹3› (.own []) .no .no .no .no .no .no) (i:=0) (s:=s2) (fl:=fl) m hm rfl;have DP:aR (rn (n+97)) (iM ti na mi) (k+4) [.var 0,‹m›] [St s2 fl,‹m›,‹3›,.own [],.no,.no,.no,.no,.no,.no]=!(.dat (W m ah),[St s3 fl,‹m›,‹3›,.own [],.no,.no,.no,.no,.no,.no]):=q3;apply#[m,ah,s3,f2 s3 fl ‹m› ‹3› (.own []) .no .no .no .no .no .no,hm,ht,rfl,?_];have:aF (rn (n+99)) [0] (k+5) (FH tr) (f2 s2 fl ‹m› ‹3› (.own []) .no .no .no .no .no .no)=!(.rt (.dat (W m ah)),f2 s3 fl ‹m› ‹3› (.own []) .no .no .no .no .no .no):=by delta FH f2;simp! [U,hR,DP]
    delta cM;rw[this]
   .
    have e5:aF (rn (n+99)) [0] (k+5) (FH tr) (f2 s2 fl ‹m› ‹w› (.own []) .no .no .no .no .no .no)=!(.nx,f2 s2 fl ‹m› ‹w› (.own []) .no .no .no .no .no .no):=by delta FH f2;simp! [U,c2]
    rw[aB e5];by_cases c3:w=4
    .
     subst c3;let(ah,s3,g',ht,hg,q3):=Xc U hT hN hM hR (n:=n) (k:=k) s2 fl m hm;apply#[m,ah,s3,g',hm,ht,hg,?_];have:aF (rn (n+99)) [0] (k+5) (tL ti tr) (f2 s2 fl ‹m› ‹4› (.own []) .no .no .no .no .no .no)=!(.rt (.dat (W m ah)),g'):=by
      delta tL;generalize w2b ti tr=bb at q3 ⊢
      rw[U.b]at q3;delta f2 at q3 ⊢
      simp! [U,q3]
     delta cM;rw[this]
    .
     have e6:aF (rn (n+99)) [0] (k+5) (tL ti tr) (f2 s2 fl ‹m› ‹w› (.own []) .no .no .no .no .no .no)=!(.nx,f2 s2 fl ‹m› ‹w› (.own []) .no .no .no .no .no .no):=by delta tL;generalize w2b ti tr=bb;delta f2;simp! [U,c3]
     rw[aB e6];show Xe U hT hN hM hR (n:=n) (k:=k) s2 fl m w
 apply#[M,ah,s3,hM2,hw,?_];have hpd:dG (qR ti na mi tr).n [St s fl]=f2 s fl .no .no .no .no .no .no .no .no .no:=rfl;have body:(rn (n+100)).b [0] (k+5) (qR ti na mi tr).body (f2 s fl .no .no .no .no .no .no .no .no .no)=!(.rt (.dat (W M ah)),g'):=by delta qR;rw[U.b,aB e1,aB e2,aB e3];show hq
 delta aR;simp only[vars,cL,hi,List.map_cons,List.map_nil];rw[i7 #[rfl,by simp],hpd,body]
 simp only[back,g0,dF]
end
def qT{α:Type}(l:List α)(i j:Option Int):(j4 l i j).length<=l.length:=by delta j4;rw[wE,List.length_drop];lia
def KJ:mO .Pow (.int 10) (.int 29)=!(.dat (.int (10 ^ 29))):=by rfl
abbrev yc:D->Prop
 |.tup l=>l.length<=40
 |_=>True
abbrev Af(i j:Int): ~~~0:=if i<j then [i,j]else [j,i]
def jk{i j:Int}(h:i≠j):Af i j=Af j i:=by delta Af;split <;> split <;> first |rfl |lia
def KN(t: ~~~0)(a b:Int):tm t [a,b]=Af (gt t a) (gt t b):=dO t a b
def kD{i j:Int}(h:i<j):Af i j=[i,j]:=i7 h
def Xg{m:Nat}{i j:Int}(hi:0<=i/\i<m)(hj:0<=j/\j<m)(h:i≠j):Pr m (Af i j):=by
 delta Af;split
 . show#[_,_,rfl,by lia,by lia,by lia]
 . show#[_,_,rfl,by lia,by lia,by lia]
def CG{m:Nat}{t: ~~~0}(ht:Tn m t){i j:Int}(hi:0<=i/\i<m)(hj:0<=j/\j<m)(h:i≠j):tm t (Af i j)=Af (gt t i) (gt t j):=by
 by_cases hl:i<j
 . rw[kD hl,KN]
 . rw[jk h,kD (show j<i by lia),KN,jk λe=>h (ht.inj hj hi e).symm]
abbrev Xh(i:Int)(x: ~~~0):Option Int:=if gt x 0=i then some (gt x 1)else if gt x 1=i then some (gt x 0)else none
abbrev nb(i:Int)(ah: ~~~5): ~~~0:=ah.filterMap (Xh i)
abbrev has(i:Int)(x: ~~~0):Bool:=decide (gt x 0=i)||decide (gt x 1=i)
def KQ(i:Int)(ah: ~~~5):(nb i ah).length=ah.countP (has i):=by
 induction ah with
 |nil=>rfl
 |cons x l ih=>
  delta nb at ih ⊢
  by_cases h1:gt x 0=i
  . simp[Xh,has,h1,ih]
  .
   by_cases h2:gt x 1=i
   . simp[Xh,has,h1,h2,ih]
   . simp[Xh,has,h1,h2,ih]
def vn{m:Nat}{ah: ~~~5}(h:Wb m ah)(i y:Int):y∈nb i ah ↔ Af i y∈ah:=by
 delta nb;rw[BU];constructor
 .
  rintro⟨x,hx,e⟩;let(a,b,rfl,h1,h2,h3):=h.tie x hx;delta Xh at e;rw[(bf a b).1,(bf a b).2]at e;split at e
  . ext q;cases e;subst q;rw[kD h2];show hx
  .
   split at e
   . ext q;cases e;subst q;rw[jk ⋯,kD h2];show hx
   . cases e
 .
  intro hx;apply#[_,hx,?_];delta Af at hx ⊢
  delta Xh;split
  . rw[(bf i y).1,(bf i y).2,i7 rfl]
  . ext q;rw[lL q]at hx;let(a,b,e,h1,h2,h3):=h.tie _ hx;injection e with e1 e2;injection e2 with e2 _;rw[(bf y i).1,(bf y i).2,lL ⋯,i7 rfl]
abbrev QC(r h t: ~~~0):Bool:=decide (h.length=t.length)&&r.zipIdx.all λp=>decide ((p.2:Int)∈h)==decide (p.1∈t)
abbrev vo(ah aI: ~~~5)(r: ~~~0)(x:Int):Bool:=QC r (nb (r.length:Int) ah) (nb x aI)
abbrev good(ah aI: ~~~5)(t: ~~~0):Bool:=(List.range t.length).all λi=>vo ah aI (t.take i) (t.getD i 0)
def FJ(ah aI: ~~~5)(r: ~~~0)(x:Int):good ah aI (r++[x])=(good ah aI r&&vo ah aI r x):=by
 delta good;rw[eP,t6,List.range_succ,List.all_append]
 congr 1
 .
  rw[B5,l4,l4];apply forall_congr' λi=>forall_congr' λhi=>?_
  have hi:=t9.mp hi;rw[List.take_append_of_le_length ⋯,gL,gL,d6 hi]
 . simp[gL]
abbrev ext(m:Nat)(l: ~~~5): ~~~5:=l.flatMap λr=>((nums m).filter λx=>(not (decide (x∈r)))).map λx=>r++[x]
abbrev bh(m:Nat):Nat->List (~~~0)
 | 0=>[[]]
 |s+1=>ext m (bh m s)
abbrev turnsOf(m:Nat): ~~~5:=bh m m
abbrev KR(m:Nat)(ah aI: ~~~5)(l: ~~~5): ~~~5:=l.flatMap λr=>((nums m).filter λx=>(not (decide (x∈r)))&&vo ah aI r x).map λx=>r++[x]
def yd(m:Nat)(ah aI: ~~~5)(l: ~~~5):KR m ah aI (l.filter (good ah aI))=(ext m l).filter (good ah aI):=by
 induction l with
 |nil=>rfl
 |cons r l ih=>
  delta KR ext at ih ⊢
  rw[y8,List.filter_append,<- ih,BD];have e:(((nums m).filter λx=>(not (decide (x∈r)))).map λx=>r++[x]).filter (good ah aI)=if good ah aI r=true then ((nums m).filter λx=>(not (decide (x∈r)))&&vo ah aI r x).map λx=>r++[x]else []:=by
   rw[List.filter_map];have:(good ah aI ∘ λx=>r++[x])=λx=>good ah aI r&&vo ah aI r x:=funext λx=>FJ ah aI r x
   rw[this,List.filter_filter];split
   .
    ext h
    congr 1
    apply List.filter_congr λx _=>?_
    rw[h,Bool.true_and,Bool.and_comm]
   .
    ext h;have hf:good ah aI r=false:=by simpa using h
    rw[DC,List.filter_eq_nil_iff];intro x _;rw[hf];simp
  rw[e];split
  . rw[y8]
  . rfl
def jm(m:Nat):∀s,(bh m s).length<=m ^ s
 | 0=>eA 1
 |s+1=>by
  have ih:=jm m s;have:∀l:List (~~~0),(ext m l).length<=l.length * m:=λl=>by
   induction l with
   |nil=>simp[ext]
   |cons r l ih=>
    delta ext at ih ⊢
    rw[y8,eP,eJ,kA];have:=t8 (λx=>(not (decide (x∈r)))) (nums m)
    rw[cU]at this;lia
  show i9 (this _) (Nat.mul_le_mul_right m ih)
abbrev QD(m:Nat):Bool:=(turnsOf m).all (λt=>decide (eE t=nums m))&&decide ((turnsOf m).length<=720)
def okT1:QD 1=true:=by decide +kernel
def okT2:QD 2=true:=by decide +kernel
def okT3:QD 3=true:=by decide +kernel
def okT4:QD 4=true:=by decide +kernel
def okT5:QD 5=true:=by decide +kernel
def okT6:QD 6=true:=by decide +kernel
def iH(hm:1<=m/\m<=6):(∀t∈turnsOf m,Tn m t)/\(turnsOf m).length<=720:=by
 have k:QD m=true:=six (p:=λm=>QD m=true) hm okT1 okT2 okT3 okT4 okT5 okT6
 delta QD at k;simp only[eQ,l4,l8]at k;show#[λt ht=>k.1 t ht,k.2]
def KS{m:Nat}{ah aI: ~~~5}{t: ~~~0}(h:Wb m ah)(h':Wb m aI)(ht:Tn m t):good ah aI t=true ↔ tw t ah=aI:=by
 have hl:=ht.length;have g1:good ah aI t=true ↔ ∀i:Nat,i<m->((nb (i:Int) ah).length=(nb (gt t i) aI).length/\∀j:Nat,j<i->((j:Int)∈nb (i:Int) ah ↔ gt t j∈nb (gt t i) aI)):=by
  delta good vo QC;simp only[l4,t9,hl,eQ,l8];apply forall_congr' λi=>forall_congr' λhi=>?_
  have e1:(t.take i).length=i:=by rw[wE];lia
  have e2:t.getD i 0=gt t i:=by simp[gt]
  rw[e1,e2];apply and_congr Iff.rfl #[λq j hj=>?_,λq p hp=>?_]
  .
   have hjl:j<t.length:=by lia
   have:=q (t[j],j) (by rw[List.mem_zipIdx_iff_getElem?];simp[hj])
   have e3:gt t j=t[j]:=by simp[gt,hjl]
   rw[e3];simpa using this
  .
   let(y,j):=p;rw[List.mem_zipIdx_iff_getElem?]at hp;rw[List.getElem?_take]at hp;split at hp
   .
    ext hj;have hjl:j<t.length:=by lia
    have e3:gt t j=t[j]:=by simp[gt,hjl]
    rw[lS hjl]at hp;cases hp;have:=q j hj;rw[e3]at this;simpa using this
   . cases hp
 rw[g1];have hp:=bE (O:=bW) (ah.map (tm t));constructor
 .
  intro q;have key:∀i j:Int,(0<=i/\i<m)->(0<=j/\j<m)->i≠j->(Af i j∈ah ↔ Af (gt t i) (gt t j)∈aI):=λi j hi hj fy=>by
   have lt:∀i j:Int,(0<=i/\i<m)->(0<=j/\j<m)->j<i->(Af i j∈ah ↔ Af (gt t i) (gt t j)∈aI):=λi j hi hj hlt=>by
    have:=(q i.toNat ⋯).2 j.toNat ⋯;rw[Int.toNat_of_nonneg hi.1,Int.toNat_of_nonneg hj.1,vn h,vn h']at this;show this
   rcases Int.lt_or_gt_of_ne fy with hlt |hlt
   .
    rw[jk fy,jk λe=>fy (ht.inj hi hj e)]
    show lt j i hj hi hlt
   . show lt i j hi hj hlt
  apply (iA (List.Perm.symm ?_) (h'.ris.imp λ{x y} q=>j5.le_of_lt q)).symm
  apply (List.perm_ext_iff_of_nodup (jC h.nodup λx hx y hy e=>vg ht (h.tie x hx) (h.tie y hy) e) h'.nodup).mpr λx=>?_
  rw[gN];constructor
  .
   rintro⟨y,hy,rfl⟩;let(a,b,rfl,h1,h2,h3):=h.tie y hy;have:=(key a b ⋯ ⋯ ⋯).mp (by rw[kD h2];show hy)
   show this
  .
   intro hx;let(c,d,rfl,h1,h2,h3):=h'.tie x hx;have surj:∀c:Int,0<=c/\c<m->∃a:Int,(0<=a/\a<m)/\gt t a=c:=λc hc=>by
    let(j,hj,e):=List.getElem_of_mem (ht.mem.mpr hc);show#[j,by lia,by simp[gt,hj,e]]
   let(a,ha,rfl):=surj c ⋯;let(b,hb,rfl):=surj d ⋯;have fy:a≠b:=λe=>by rw[e]at h2;lia
   have:=(key a b ha hb fy).mpr (by rw[kD h2];show hx)
   show#[_,this,by rw[CG ht ha hb fy,kD h2]]
 .
  rintro rfl i hi;have hi':0<=(i:Int)/\(i:Int)<m:=by lia
  constructor
  .
   rw[KQ,KQ];delta tw;rw[hp.countP_eq,List.countP_map];apply (List.countP_congr λx hx=>?_)
   let(a,b,rfl,h1,h2,h3):=h.tie x hx;have inj:∀j:Int,0<=j/\j<m->(gt t j=gt t i ↔ j=i):=λj hj=>#[λe=>ht.inj hj hi' e,λe=>by rw[e]]
   exact has i [a,b]=true ↔ has (gt t i) (tm t [a,b])=true;rw[dO];delta has;have ia:=inj a ⋯;have ib:=inj b ⋯;split
   . rw[(bf a b).1,(bf a b).2,(bf (gt t a) (gt t b)).1,(bf (gt t a) (gt t b)).2];simp[ia,ib]
   . rw[(bf a b).2,(bf (gt t b) (gt t a)).1,(bf (gt t b) (gt t a)).2];simp[ia,ib];show Or.comm
  .
   intro j hj;have hj':0<=(j:Int)/\(j:Int)<m:=by lia
   have fy:(i:Int)≠j:=by lia
   rw[vn h,vn h',<- CG ht hi' hj' fy];delta tw;rw[hp.mem_iff,gN];constructor
   . intro hx;show#[_,hx,rfl]
   . rintro⟨y,hy,e⟩;rw[<- vg ht (h.tie y hy) (Xg hi' hj' fy) e];show hy
section
def qU{α:Type}(eS:α->D)(f:α->D)(p:α->Bool)(st:α->G->G)(I:G->Prop)(hI:∀m,I m->m.length=kk)(cu:last=g.length+kk)(cZ:∀d m,I m->I (st d m)) :
  ∀(ak:List α) (m:G) (acc:List D),I m->acc.length+ak.length<=lim->
  (∀d∈ak,∀m acc,I m->T.set (eS d) (gM g m acc)=!(gM g (st d m) acc))->
  (∀d∈ak,∀m acc,I m->qw rn bor k c (gM g (st d m) acc)=!(p d,gM g (st d m) acc))->
  (∀d∈ak,p d=true->∀m acc,I m->gJ rn bor k e (gM g (st d m) acc)=!(f d,gM g (st d m) acc))->
  ∃m',I m'/\xm rn bor k T last c e (ak.map eS) (gM g m acc)=!(gM g m' (acc++(ak.filter p).map f))
 | [],m,acc,hm,_,_,_,_=>#[m,hm,by simp[xm]]
 |d::ak,m,acc,hm,hl,hT,hi,he=>by
  rw[kA]at hl;have q1:=hT d dC m acc hm;have q2:=hi d dC m acc hm;have hm':=cZ d m hm;have hk:=hI _ hm';rw[List.map_cons];delta xm;rw[q1];dsimp only;rw[q2];cases hp:p d with
  |false=>
   dsimp only;let(m',w1,w2):=qU eS f p st I hI cu cZ ak (st d m) acc hm' ⋯ (λx hx=>hT x (bP _ hx)) (λx hx=>hi x (bP _ hx)) (λx hx=>he x (bP _ hx))
   show#[m',w1,by rw[w2,BD,hp];rfl]
  |true=>
   have q3:=he d dC hp m acc hm;dsimp only;rw[q3];dsimp only;have q4:(gM g (st d m) acc)[last]?=!(.own acc):=by rw[cu,<- hk];show fZ
   rw[q4];dsimp only;rw[i7 ⋯];have q5:(gM g (st d m) acc).set last (.own (acc++[f d]))=gM g (st d m) (acc++[f d]):=by rw[cu,<- hk];show gi
   rw[q5];let(m',w1,w2):=qU eS f p st I hI cu cZ ak (st d m) (acc++[f d]) hm' (by rw[eP,t6];lia) (λx hx=>hT x (bP _ hx)) (λx hx=>hi x (bP _ hx)) (λx hx=>he x (bP _ hx))
   apply#[m',w1,?_];rw[w2,BD,hp];simp
def tM{α β:Type}(bF:α->D)(ys:α->List β)(cC:β->D)(p:α->β->Bool)(f:α->β->D)(hn:nn=g.length)(cu:last=g.length+kk)(h11:g.length<=j1)(h12:j1<g.length+kk)(h21:g.length<=j2)(h22:j2<g.length+kk)(fy:j1≠j2) :
  ∀(xs:List α) (m:G) (acc:List D),m.length=kk->acc.length+(xs.flatMap ys).length<=lim->
  (∀a∈xs,∀G',xS g j1 (bF a) G'->dJ rn bor k false it G'=!((ys a).map cC,G'))->
  (∀a∈xs,∀b∈ys a,∀G',jg g j1 j2 (bF a) (cC b) G'->qw rn bor k c G'=!(p a b,G'))->
  (∀a∈xs,∀b∈ys a,p a b=true->∀G',jg g j1 j2 (bF a) (cC b) G'->gJ rn bor k e G'=!(f a b,G'))->
  ∃m',m'.length=kk/\xq rn bor k (.nm j1) none (.nm j2) it c e last (xs.map bF) (gM g m acc)=!(gM g m' (acc++xs.flatMap λa=>((ys a).filter (p a)).map (f a)))
 | [],m,acc,hm,_,_,_,_=>#[m,hm,by simp[xq]]
 |a::xs,m,acc,hm,hl,hw,hi,he=>by
  rw[y8,eP]at hl;have q1:(Tg.nm j1).set (bF a) (gM g m acc)=!(gM g (m.set (j1 - g.length) (.dat (bF a))) acc):=u9 (kk:=kk) h11 ⋯;have hm1:(m.set (j1 - g.length) (.dat (bF a))).length=kk:=by simpa using hm
  have sees:∀(m:G) (acc:List D),m.length=kk->m[j1 - g.length]?=!(.dat (bF a))->xS g j1 (bF a) (gM g m acc):=λm acc hm hg=>by
   apply#[λi hi=>gR hi,?_]
   have:=dY (g:=g) (m:=m) (acc:=acc) (i:=j1 - g.length) ⋯;rw[show g.length+(j1 - g.length)=j1 by lia]at this
   rw[this,hg]
  have uz:(m.set (j1 - g.length) (.dat (bF a)))[j1 - g.length]?=!(.dat (bF a)):=by rw[fI ⋯]
  have q2:=hw a dC _ (sees _ acc hm1 uz);have RN:∀(b:β) (m:G) (acc:List D),(m.length=kk/\m[j1 - g.length]?=!(.dat (bF a)))->jg g j1 j2 (bF a) (cC b) (gM g (m.set (j2 - g.length) (.dat (cC b))) acc):=λb m acc hm=>by
   let(s1,s2):=sees (m.set (j2 - g.length) (.dat (cC b))) acc (by simpa using hm.1) (by rw[eR ⋯];show hm.2)
   apply#[s1,s2,?_];have:=dY (g:=g) (m:=m.set (j2 - g.length) (.dat (cC b))) (acc:=acc) (i:=j2 - g.length) (by rw[n0];lia)
   rw[show g.length+(j2 - g.length)=j2 by lia]at this
   rw[this,fI (by rw[hm.1];lia)]
  let(m2,w1,w2):=qU cC (f a) (p a) (λb m=>m.set (j2 - g.length) (.dat (cC b))) (λm=>m.length=kk/\m[j1 - g.length]?=!(.dat (bF a))) (λ_ h=>h.1) cu (λb m h=>#[by simpa using h.1,by rw[eR ⋯];show h.2]) (ys a) (m.set (j1 - g.length) (.dat (bF a))) acc #[hm1,uz] ⋯
   (λb _ m acc h=>u9 (kk:=kk) h21 (by have:=h.1;lia)) (λb hb m acc h=>hi a dC b hb _ (RN b m acc h)) λb hb hp m acc h=>he a dC b hb hp _ (RN b m acc h)
  have hf:=t8 (p a) (ys a);let(m3,v1,v2):=tM bF ys cC p f hn cu h11 h12 h21 h22 fy xs m2 (acc++((ys a).filter (p a)).map (f a)) w1.1 (by rw[eP,eJ];lia) (λx hx=>hw x (bP _ hx)) (λx hx=>hi x (bP _ hx)) (λx hx=>he x (bP _ hx))
  apply#[m3,v1,?_];rw[List.map_cons];delta xq;rw[q1];dsimp only[qw,Tg.j8];rw[q2];dsimp only;rw[w2];dsimp only;rw[v2,y8,AI]
def QF{α β:Type}(xs:List α)(bF:α->D)(ys:α->List β)(cC:β->D)(p:α->β->Bool)(f:α->β->D)(hw1:dJ rn bor k false rq g=!(xs.map bF,g1))(hn:nn=g1.length)(h11:g1.length<=j1)(h12:j1<g1.length+kk)(h21:g1.length<=j2)(h22:j2<g1.length+kk)(fy:j1≠j2)(hb1:j1∉bor)(hb2:j2∉bor)(hl:(xs.flatMap ys).length<=lim)
  (hw:∀a∈xs,∀G',xS g1 j1 (bF a) G'->dJ rn bor k false it G'=!((ys a).map cC,G'))
  (hi:∀a∈xs,∀b∈ys a,∀G',jg g1 j1 j2 (bF a) (cC b) G'->qw rn bor k c G'=!(p a b,G'))
  (he:∀a∈xs,∀b∈ys a,p a b=true->∀G',jg g1 j1 j2 (bF a) (cC b) G'->gJ rn bor k e G'=!(f a b,G')) :
  j9 rn bor k nn kk (.nm j1) rq none (.nm j2) it c e g=!(xs.flatMap λa=>((ys a).filter (p a)).map (f a),g1):=by
 subst hn;let(m',w1,w2):=tM bF ys cC p f rfl rfl h11 h12 h21 h22 fy xs (List.replicate kk .no) [] ⋯ (by simpa using hl) hw hi he
 delta j9;rw[show Tg.j8 (.nm j1)=false from rfl,hw1]
 dsimp only;rw[i7 #[rfl,by simp[Tg.ix,hb1,hb2]],Cv,w2]
 dsimp only;have:∀acc,(gM g1 m' acc)[g1.length+kk]?=!(.own acc):=λacc=>by rw[<- w1];show fZ
 rw[this];rw[oR,AV]
def yf{α β:Type}(ys:List β):∀xs:List α,(xs.flatMap λ_=>ys).length=xs.length * ys.length
 | []=>by simp
 |_::xs=>by rw[y8,eP,yf ys xs,kA,Nat.succ_mul,Nat.add_comm]
def Xi{α β:Type}(xs:List α)(bF:α->D)(ys:List β)(cC:β->D)(p:α->β->Bool)(f:α->β->D)(hw1:dJ rn bor k false rq g=!(xs.map bF,g1))(hn:nn=g1.length)(h11:g1.length<=j1)(h12:j1<g1.length+kk)(h21:g1.length<=j2)(h22:j2<g1.length+kk)(fy:j1≠j2)(hb1:j1∉bor)(hb2:j2∉bor)(hl:xs.length * ys.length<=lim)
  (hw:∀a∈xs,∀G',xS g1 j1 (bF a) G'->dJ rn bor k false it G'=!(ys.map cC,G'))
  (hi:∀a∈xs,∀b∈ys,∀G',jg g1 j1 j2 (bF a) (cC b) G'->qw rn bor k c G'=!(p a b,G'))
  (he:∀a∈xs,∀b∈ys,p a b=true->∀G',jg g1 j1 j2 (bF a) (cC b) G'->gJ rn bor k e G'=!(f a b,G')) :
  j9 rn bor k nn kk (.nm j1) rq none (.nm j2) it c e g=!(xs.flatMap λa=>(ys.filter (p a)).map (f a),g1):=QF xs bF (λ_=>ys) cC p f hw1 hn h11 h12 h21 h22 fy hb1 hb2 (by rw[yf];show hl) hw hi he
end
def rL(F:Nat->~~~0)(a:Nat)(v: ~~~0):((List.range m).map λi=>(F i).map D.int).set a (v.map .int)=(List.range m).map λi=>(if i=a then v else F i).map D.int:=by
 apply CU ⋯ λi h1 h2=>?_
 rw[List.getElem_set];simp only[List.getElem_map,List.getElem_range];by_cases h:a=i
 . subst h;simp
 . rw[lL h,lL λe=>h e.symm]
def yg:∀(ah: ~~~5) (F:Nat->~~~0) (c:Nat),(∀x∈ah,Pr m x)->(∀i,(F i).length<=c)->c+ah.length<=900->
  iY (ah.map ∅) ((List.range m).map λi=>(F i).map D.int)=!((List.range m).map λi=>(F i++nb (i:Int) ah).map D.int)
 | [],F,c,_,_,_=>by simp[iY,nb]
 |x::ah,F,c,hx,hF,hc=>by
  let(a,b,rfl,h1,h2,h3):=hx x dC;obtain⟨a,rfl⟩:∃n:Nat,a=n:=#[a.toNat,by lia]
  obtain⟨b,rfl⟩:∃n:Nat,b=n:=#[b.toNat,by lia]
  rw[kA]at hc;have ga:((List.range m).map λi=>(F i).map D.int)[a]?=!((F a).map D.int):=by rw[pV,Dx ⋯];rfl
  have la:((F a).map D.int).length<1000:=by rw[eJ];have:=hF a;lia
  have e1:(F a).map D.int++[.int b]=(F a++[(b:Int)]).map D.int:=by rw[v6];rfl
  have gb:((List.range m).map λi=>(if i=a then F a++[(b:Int)]else F i).map D.int)[b]?=!((F b).map D.int):=by rw[pV,Dx ⋯];simp only[B4];rw[lL ⋯]
  have lb:((F b).map D.int).length<1000:=by rw[eJ];have:=hF b;lia
  have e2:(F b).map D.int++[.int a]=(F b++[(a:Int)]).map D.int:=by rw[v6];rfl
  have q:wW ((List.range m).map λi=>(F i).map D.int) (.tup [.int a,.int b])=!((List.range m).map λi=>(if i=b then F b++[(a:Int)]else if i=a then F a++[(b:Int)]else F i).map D.int):=by
   delta wW;dsimp only;rw[i7 (show (0:Int)<=a/\(0:Int)<=b by lia)]
   simp only[w9,ga,la,DB,e1,rL,gb,lb,e2]
  have ih:=yg ah (λi=>if i=b then F b++[(a:Int)]else if i=a then F a++[(b:Int)]else F i) (c+1) (λx hx'=>hx x (bP _ hx')) (λi=>by
   have:=hF a;have:=hF b;have:=hF i;split
   . simp;lia
   .
    split
    . simp;lia
    .
     lia) ⋯
  have e3:List.map ∅ ([(a:Int),(b:Int)]::ah)=.tup [.int a,.int b]::ah.map λx=>~~~x:=rfl
  rw[e3];delta iY;rw[q];dsimp only;rw[ih]
  congr 1
  apply nE λi hi=>?_
  congr 1
  delta nb;rw[t5];delta Xh;rw[(bf (a:Int) b).1,(bf (a:Int) b).2];by_cases q1:i=a
  . subst q1;rw[lL ⋯];simp
  .
   by_cases q2:i=b
   . subst q2;rw[i7 rfl,lL ⋯];simp
   . rw[lL q2,lL q1,lL ⋯,lL ⋯]
abbrev nX:Fx:=#[2,5,[(.rows 0 1 2 3 4)]]
abbrev nY:Fx:=#[3,3,[(.ite (.cmp .NotEq (.blt .len [⇑1]) (.blt .len [⇑2])) (~~~4) []),(.ret (.blt .all [(.comp 3 3 (.tp [4,5]) (.enum ⇑0) none (.cmp .Eq (.cmp .In ⇑4 ⇑1) (.cmp .In ⇑5 ⇑2)))]))]]
abbrev fM(ro fi:Nat):Fx:=#[2,7,[(.set 2 (.ix ⇑0 ↥0)),(.set 3 (.call ro [⇑2,(.ix ⇑0 ↥1)])),(.set 4 (.call ro [⇑2,(.ix ⇑1 ↥1)])),(.set 5 (.lst [(.tup [])])),(.loop (.nm 6) (.bK ⇑2) [(.setC 5 (.gI 7 3 (.nm 8) ⇑5 none (.nm 9) (.bK ⇑2) (!(.and [(.cmp .NotIn ⇑9 ⇑8),(.call fi [⇑8,(.ix ⇑3 ⇑6),(.ix ⇑4 ⇑9)])])) (.bin .Add ⇑8 (.tup [⇑9]))))]),(.ret ⇑5)]]
abbrev Rw(m:Nat)(ah: ~~~5):D:=.lst ((List.range m).map λ(i:Nat)=>.lst ((nb (i:Int) ah).map .int))
section
variable{ro fi:Nat}(U:jj fns rn)
include U
def CJ(m:Nat)(hm:m<=6)(ah: ~~~5)(h:Wb m ah):cJ (rn (n+5)) k nX [.int m,.tup (ah.map ∅)]=!(.dat (Rw m ah)):=by
 have q:=yg ah (λ_=>[]) 0 h.tie (λ_=>eA 0) (by have:=h.len;lia)
 have e:(List.range m).map (λi=>List.map D.int ((λ_=>[]) i: ~~~0))=List.replicate m []:=by rw[List.eq_replicate_iff];simp
 rw[e]at q;have h0:(0:Int)<=m/\(m:Int)<=1000:=by lia
 delta cJ nX;simp! [U,q,h0];delta Rw;simp
omit U in
def Xj(x:Int)(l: ~~~0):fS .In (.int x) (.lst (l.map .int))=!(decide (x∈l)):=by
 have h:oA (.int x) (l.map .int)=true:=by simp[oA,jD,fD,fE]
 simp only[fS,bV,h,DB]
 congr 1
 rw[B5];simp[cH]
omit U in
def ng(x:Int)(l: ~~~0):fS .NotIn (.int x) (~~~l)=!((not (decide (x∈l)))):=by
 have h:oA (.int x) (l.map .int)=true:=by simp[oA,jD,fD,fE]
 simp only[fS,bV,h,DB]
 congr 2
 rw[B5];simp[cH]
omit U in
def Xk(a b:Bool):fS .Eq (.bl a) (.bl b)=!(a==b):=rfl
omit U in
def FN:∀(l: ~~~0) ,nL (l.map .int)=l.zipIdx.map λp=>.tup [.int (p.2:Int),.int p.1]:=by intro l;delta nL;rw[List.zipIdx_map,List.map_map];rfl
def QG(r h t: ~~~0)(hr:r.length<=1000):cJ (rn (n+20)) k nY [~~~r,.lst (h.map .int),.lst (t.map .int)]=!(.dat (.bl (QC r h t))):=by
 have w:=λn k=>z8 (rn:=rn (n+10)) (bor:=[]) (k:=k) (g:=[.dat (~~~r),.dat (.lst (h.map .int)),.dat (.lst (t.map .int))]) (g1:=[.dat (~~~r),.dat (.lst (h.map .int)),.dat (.lst (t.map .int))]) (kk:=3) (nn:=3) (j1:=4) (j2:=5) (it:=.enum ⇑0) (e:=.cmp .Eq (.cmp .In ⇑4 ⇑1) (.cmp .In ⇑5 ⇑2)) r.zipIdx (λp=>.int (p.2:Int)) (λp=>.int p.1) (λp=>.bl (decide ((p.2:Int)∈h)==decide (p.1∈t))) (by simp! [U,dJ,bV,FN]) rfl ⋯ ⋯ ⋯ ⋯ ⋯ ⋯ ⋯ (aq _ (by simpa using hr)) λp hp G' hG=>by
  have h1:=hG.1 1 ⋯;have h2:=hG.1 2 ⋯;simp! [U,hG.2.1,hG.2.2,h1,h2,Xj,Xk]
 have e1:r.zipIdx.map (λp=>D.bl (decide ((p.2:Int)∈h)==decide (p.1∈t)))=(r.zipIdx.map λp=>decide ((p.2:Int)∈h)==decide (p.1∈t)).map .bl:=by rw[List.map_map];rfl
 have e2:(r.zipIdx.map λp=>decide ((p.2:Int)∈h)==decide (p.1∈t)).all id=r.zipIdx.all λp=>decide ((p.2:Int)∈h)==decide (p.1∈t):=by rw[List.all_map];rfl
 delta cJ nY QC;by_cases hl:h.length=t.length
 . simp! [U,w,e1,hl]
 .
  have hl' : ¬ (h.length:Int)=t.length:=by lia
  simp! [U,hl,hl']
variable(hR:fns[ro]?=!nX)(hF:fns[fi]?=!nY)
include hR hF
def up_ok(m s:Nat)(hm:m<=6)(hs:s<m)(ah aI: ~~~5)(l: ~~~5)(hl:l.length<=50000)(hr:∀r∈l,r.length=s)(d0 d1:D):aF (rn (n+40)) [] (k+1) (.setC 5 (.gI 7 3 (.nm 8) ⇑5 none (.nm 9) (.bK ⇑2) (!(.and [(.cmp .NotIn ⇑9 ⇑8),(.call fi [⇑8,(.ix ⇑3 ⇑6),(.ix ⇑4 ⇑9)])])) (.bin .Add ⇑8 (.tup [⇑9])))) [.dat d0,.dat d1,‹m›,.dat (Rw m ah),.dat (Rw m aI),.own (l.map λr=>~~~r),‹s›]=!(.nx,[.dat d0,.dat d1,‹m›,.dat (Rw m ah),.dat (Rw m aI),.own ((KR m ah aI l).map λr=>~~~r),‹s›]):=by
 have hg:cF 0 m=(nums m).map .int:=ji m;have w:=Xi (rn:=rn (n+40)) (bor:=[]) (k:=k+1) (g:=[.dat d0,.dat d1,‹m›,.dat (Rw m ah),.dat (Rw m aI),.own (l.map λr=>~~~r),‹s›]) (g1:=[.dat d0,.dat d1,‹m›,.dat (Rw m ah),.dat (Rw m aI),.dat (.lst (l.map λr=>~~~r)),‹s›]) (nn:=7) (kk:=3) (j1:=8) (j2:=9) (rq:=.slot 5) (it:=.bK ⇑2) (c:=!(.and [(.cmp .NotIn ⇑9 ⇑8),(.call fi [⇑8,(.ix ⇑3 ⇑6),(.ix ⇑4 ⇑9)])])) (e:=.bin .Add ⇑8 (.tup [⇑9])) l (λr=>~~~r) (nums m) .int (λr x=>(not (decide (x∈r)))&&vo ah aI r x) (λr x=>~~~(r++[x])) (by simp! [U,dJ]) rfl ⋯ ⋯ ⋯ ⋯ ⋯ ⋯ ⋯ (by
   rw[cU];have:=Nat.mul_le_mul hl hm;show i9 this ⋯) (λr hr G' hG=>by
   have h2:=hG.1 2 ⋯;simp! [U,dJ,h2,aV m ⋯,hg]) (λr hr' x hx G' hG=>by
   have h3:=hG.1 3 ⋯;have h4:=hG.1 4 ⋯;have h6:=hG.1 6 ⋯;have hx':=eF.mp hx;have i3:uL (Rw m ah) (.int s)=!(.lst ((nb (s:Int) ah).map .int)):=by
    exact L2.gD _ _=_;rw[iE _ _ (by simpa using hs)]
    simp
   have i4:uL (Rw m aI) (.int x)=!(.lst ((nb x aI).map .int)):=by
    obtain⟨x,rfl⟩:∃n:Nat,x=n:=#[x.toNat,by lia]
    exact L2.gD _ _=_;rw[iE _ _ (by simp;lia)]
    simp
   have f:=λn k=>QG U (n:=n) (k:=k) r (nb (s:Int) ah) (nb x aI) (by rw[hr r hr'];lia)
   delta vo;rw[hr r hr'];by_cases hin:x∈r
   . simp! [U,qw,hG.2.1,hG.2.2,ng,hin]
   .
    simp! [U,qw,hG.2.1,hG.2.2,h3,h4,h6,i3,i4,ng,hin,hF,lD (fx:=nY) rfl,f]) λr hr' x hx _ G' hG=>by
   have o:mO .Add (~~~r) (.tup [.int x])=!(.dat (~~~(r++[x]))):=by
    have hlr:(List.map D.int r).length+[D.int x].length<=lim:=aq _ (by rw[eJ,hr r hr'];simp;lia)
    simp only[mO,Fc,hlr,v6];rfl
   simp! [U,hG.2.1,hG.2.2,o,aq 1 ⋯]
 have e:(l.flatMap λr=>((nums m).filter λx=>(not (decide (x∈r)))&&vo ah aI r x).map λx=>~~~(r++[x]))=(KR m ah aI l).map λr=>~~~r:=by
  delta KR;rw[List.map_flatMap]
  congr 1
  funext r
  rw[List.map_map];rfl
 rw[e]at w;simp only[aF,w];simp
def Ag(m:Nat)(hm:1<=m/\m<=6)(ah aI: ~~~5)(h:Wb m ah)(h':Wb m aI):cJ (rn (n+60)) (k+2) (fM ro fi) [W m ah,W m aI]=!(.new (((turnsOf m).filter (good ah aI)).map λr=>~~~r)):=by
 have len:∀s r,r∈bh m s->r.length=s:=λs=>by
  induction s with
  |zero=>intro r hr;cases fR.mp hr;rfl
  |succ s ih=>intro r hr;let(q,hq,hr):=List.mem_flatMap.mp hr;let(x,_,rfl):=gN.mp hr;rw[eP,ih q hq];rfl
 have big:∀s,s<=m->(bh m s).length<=50000:=λs hs=>i9 (jm m s) (i9 (Nat.pow_le_pow_left hm.2 s) (i9 (Nat.pow_le_pow_right ⋯ (show s<=6 by lia)) ⋯))
 have loop:=bR (T:=.nm 6) (b:=(rn (n+59)).b [] (k+2) [(.setC 5 (.gI 7 3 (.nm 8) ⇑5 none (.nm 9) (.bK ⇑2) (!(.and [(.cmp .NotIn ⇑9 ⇑8),(.call fi [⇑8,(.ix ⇑3 ⇑6),(.ix ⇑4 ⇑9)])])) (.bin .Add ⇑8 (.tup [⇑9]))))]) (λ(j:Nat)=>D.int (j:Int))
  (I:=λl g=>∃(j:Nat) (s6:Slot),j<=m/\l=List.range' j (m - j)/\g=[.dat (W m ah),.dat (W m aI),‹m›,.dat (Rw m ah),.dat (Rw m aI),.own (((bh m j).filter (good ah aI)).map λr=>~~~r),s6])
  (step:=λa l g h=>by
   let(j,s6,h0,h1,rfl):=h;have Qy:j<m:=by
    rcases wS j m with h |h
    . show h
    . rw[AF h]at h1;cases h1
   have hc:List.range' j (m - j)=j::List.range' (j+1) (m - (j+1)):=by rw[show m - j=(m - (j+1))+1 by lia,AB]
   rw[hc]at h1;injection h1 with e1 e2;subst e1 e2;have q:=up_ok U hR hF (n:=n+18) (k:=k+1) m a hm.2 Qy ah aI ((bh m a).filter (good ah aI)) (i9 (t8 _ _) (big a ⋯)) (λr hr=>len a r (i5.mp hr).1) (W m ah) (W m aI)
   rw[yd]at q;apply#[_,_,rfl,?_,a+1,‹a›,by lia,rfl,rfl]
   rw[U.b];show (aB q).trans rfl)
 let(g',(j,s6,h0,h1,rfl),h2):=loop (List.range' 0 m) [.dat (W m ah),.dat (W m aI),‹m›,.dat (Rw m ah),.dat (Rw m aI),.own [~~~[]],.no] #[0,.no,by lia,rfl,rfl]
 have hj:j=m:=by
  have:(List.range' j (m - j)).length=0:=by rw[<- h1];rfl
  rw[Cc]at this;lia
 subst hj;have hr:cF 0 j=(List.range' 0 j).map λ(x:Nat)=>D.int (x:Int):=by delta cF;rw[y6];show nE λx _=>by rw[Int.zero_add]
 have i0:uL (W j ah) (.int 0)=!(.int j):=rfl;have i1:uL (W j ah) (.int 1)=!(.tup (ah.map ∅)):=rfl
 have i2:uL (W j aI) (.int 1)=!(.tup (aI.map ∅)):=rfl
 have r1:=λn k=>CJ U (n:=n) (k:=k) j hm.2 ah h
 have r2:=λn k=>CJ U (n:=n) (k:=k) j hm.2 aI h'
 have t0:D.tup [] = ~~~[]:=rfl;delta cJ fM turnsOf;simp! [U,i0,i1,i2,hR,aP (fx:=nX) rfl,r1,r2,aq 1 ⋯,dJ,aV j ⋯,hr,t0,h2]
end
abbrev Ah(mw tt:Nat):Fx:=#[1,1,[(.expr (.call mw [⇑0])),(.ret (.call tt [⇑0,⇑0]))]]
abbrev fF:Fx:=#[1,5,[(.set 1 (.lst [(.tup [])])),(.loop (.nm 2) (.bK ⇑0) [(.set 3 (.lst [])),(.loop (.nm 4) ⇑1 [(.expr (.extend 3 (.comp 5 2 (.nm 6) (.bK ⇑0) (!(.cmp .NotIn ⇑6 ⇑4)) (.bin .Add ⇑4 (.tup [⇑6])))))]),(.set 1 ⇑3)]),(.ret ⇑1)]]
abbrev led(m:Nat)(ah: ~~~5)(m':Nat)(aI: ~~~5): ~~~5:=(turnsOf m).filter λt=>decide (m=m'/\tw t ah=aI)
abbrev hdD: ~~~5->D
 | []=>.non
 |t::_=>~~~t
def KY(hm:1<=m/\m<=6)(h:Wb m ah)(h':Wb m aI):(turnsOf m).filter (good ah aI)=led m ah m aI:=by
 apply List.filter_congr λt ht=>?_
 rw[B5,KS h h' ((iH hm).1 t ht),l8];show#[λe=>#[rfl,e],λe=>e.2]
def KZ(m:Nat)(l: ~~~5)(r: ~~~0):ext m (l++[r])=ext m l++((nums m).filter λx=>(not (decide (x∈r)))).map λx=>r++[x]:=by delta ext;rw[List.flatMap_append,List.flatMap_singleton]
section
variable{wh wi it ri iw ci mw ro fi tt:Nat}(U:jj fns rn)
include U
def lawUp(m:Nat)(hm:m<=6)(l: ~~~5)(hl:l.length<=50000)(hr:∀r∈l,r.length<=10)(d1:D)(s2 a4:Slot):∃b4,jO (.nm 4) ((rn (n+20)).b [] k [(.expr (.extend 3 (.comp 5 2 (.nm 6) (.bK ⇑0) (!(.cmp .NotIn ⇑6 ⇑4)) (.bin .Add ⇑4 (.tup [⇑6])))))]) (l.map λr=>~~~r) [‹m›,.dat d1,s2,.own [],a4]=!(.nx,[‹m›,.dat d1,s2,.own ((ext m l).map λr=>~~~r),b4]):=by
 have hg:cF 0 m=(nums m).map .int:=ji m;have bnd:∀l:List (~~~0),(ext m l).length<=l.length * 6:=λl=>by
  induction l with
  |nil=>simp[ext]
  |cons r l ih=>
   delta ext at ih ⊢
   rw[y8,eP,eJ,kA];have:=t8 (λx=>(not (decide (x∈r)))) (nums m)
   rw[cU]at this;lia
 have loop:=bR (T:=.nm 4) (b:=(rn (n+20)).b [] k [(.expr (.extend 3 (.comp 5 2 (.nm 6) (.bK ⇑0) (!(.cmp .NotIn ⇑6 ⇑4)) (.bin .Add ⇑4 (.tup [⇑6])))))]) (λr=>~~~r)
  (I:=λrest g=>∃(pre: ~~~5) (s4:Slot),pre++rest=l/\g=[‹m›,.dat d1,s2,.own ((ext m pre).map λr=>~~~r),s4])
  (step:=λr rest g h=>by
   let(pre,s4,e0,rfl):=h;have hrl:=hr r (by rw[<- e0];simp)
   have lP:pre.length<=50000:=by rw[<- e0,eP]at hl;lia
   have w:=sZ (rn:=rn (n+17)) (bor:=[]) (k:=k) (g:=[‹m›,.dat d1,s2,.own ((ext m pre).map λr=>~~~r),.dat (~~~r)]) (g1:=[‹m›,.dat d1,s2,.own ((ext m pre).map λr=>~~~r),.dat (~~~r)]) (kk:=2) (nn:=5) (j:=6) (it:=.bK ⇑0) (c:=!(.cmp .NotIn ⇑6 ⇑4)) (e:=.bin .Add ⇑4 (.tup [⇑6])) (nums m) .int (λx=>(not (decide (x∈r)))) (λx=>~~~(r++[x])) (by simp! [U,dJ,aV m ⋯,hg]) rfl ⋯ ⋯ ⋯ (aq _ (by rw[cU];lia)) (λx hx G' hG=>by
     have h4:=hG.1 4 ⋯;simp! [U,qw,hG.2,h4,ng]) λx hx _ G' hG=>by
     have h4:=hG.1 4 ⋯;have o:mO .Add (~~~r) (.tup [.int x])=!(.dat (~~~(r++[x]))):=by
      have hlr:(List.map D.int r).length+[D.int x].length<=lim:=aq _ (by rw[eJ];simp;lia)
      simp only[mO,Fc,hlr,v6];rfl
     simp! [U,hG.2,h4,o,aq 1 ⋯]
   have e3:(((nums m).filter λx=>(not (decide (x∈r)))).map λx=>~~~(r++[x]))=(((nums m).filter λx=>(not (decide (x∈r)))).map λx=>r++[x]).map λr=>~~~r:=by rw[List.map_map];rfl
   rw[e3]at w;have z:(ext m pre).length+((nums m).filter λx=>(not (decide (x∈r)))).length<=lim:=by
    have h1:=bnd pre;have h2:=t8 (λx=>(not (decide (x∈r)))) (nums m)
    rw[cU]at h2;show i9 (show _<=400000 by lia) ⋯
   apply#[_,[‹m›,.dat d1,s2,.own ((ext m (pre++[r])).map λr=>~~~r),.dat (~~~r)],rfl,?_,pre++[r],_,by rw[<- e0];simp,rfl]
   rw[KZ];simp! [U,w,z])
 let(g',(pre,s4,e0,rfl),q):=loop l [‹m›,.dat d1,s2,.own [],a4] #[[],a4,rfl,rfl];rw[mB]at e0;subst e0;show#[s4,q]
def yh(m:Nat)(hm:1<=m/\m<=6):cJ (rn (n+40)) k fF [.int m]=!(.dat (.lst ((turnsOf m).map λr=>~~~r))):=by
 have len:∀s r,r∈bh m s->r.length=s:=λs=>by
  induction s with
  |zero=>intro r hr;cases fR.mp hr;rfl
  |succ s ih=>intro r hr;let(q,hq,hr):=List.mem_flatMap.mp hr;let(x,_,rfl):=gN.mp hr;rw[eP,ih q hq];rfl
 have big:∀s,s<=m->(bh m s).length<=50000:=λs hs=>i9 (jm m s) (i9 (Nat.pow_le_pow_left hm.2 s) (i9 (Nat.pow_le_pow_right ⋯ (show s<=6 by lia)) ⋯))
 have loop:=bR (T:=.nm 2) (b:=(rn (n+39)).b [] k [(.set 3 (.lst [])),(.loop (.nm 4) ⇑1 [(.expr (.extend 3 (.comp 5 2 (.nm 6) (.bK ⇑0) (!(.cmp .NotIn ⇑6 ⇑4)) (.bin .Add ⇑4 (.tup [⇑6])))))]),(.set 1 ⇑3)]) (λ(j:Nat)=>D.int (j:Int))
  (I:=λl g=>∃(j:Nat) (s1 s2 s3 s4:Slot),j<=m/\l=List.range' j (m - j)/\g=[‹m›,s1,s2,s3,s4]/\(s1=.dat (.lst ((bh m j).map λr=>~~~r))\/(j=0/\s1=.own ((bh m j).map λr=>~~~r))))
  (step:=λa l g h=>by
   let(j,s1,s2,s3,s4,h0,h1,rfl,h3):=h;have Qy:j<m:=by
    rcases wS j m with h |h
    . show h
    . rw[AF h]at h1;cases h1
   have hc:List.range' j (m - j)=j::List.range' (j+1) (m - (j+1)):=by rw[show m - j=(m - (j+1))+1 by lia,AB]
   rw[hc]at h1;injection h1 with e1 e2;subst e1 e2;let(b4,q):=lawUp U m hm.2 (bh m a) (big a ⋯) (λr hr=>by rw[len a r hr];lia) (.lst ((bh m a).map λr=>~~~r)) ‹a› s4
   apply#[_,[‹m›,.dat (.lst ((bh m (a+1)).map λr=>~~~r)),‹a›,.dat (.lst ((bh m (a+1)).map λr=>~~~r)),b4],rfl,?_,a+1,_,_,_,_,by lia,rfl,rfl,.inl rfl]
   have q':jO (.nm 4) ((rn (n+38)).b [] k [(.expr (.extend 3 (.comp 5 2 (.nm 6) (.bK ⇑0) (!(.cmp .NotIn ⇑6 ⇑4)) (.bin .Add ⇑4 (.tup [⇑6])))))]) ((bh m a).map λr=>~~~r) [‹m›,.dat (.lst ((bh m a).map λr=>~~~r)),‹a›,.own [],s4]=!(.nx,[‹m›,.dat (.lst ((bh m a).map λr=>~~~r)),‹a›,.own ((bh m (a+1)).map λr=>~~~r),b4]):=q
   generalize hb:(rn (n+38)).b [] k [(.expr (.extend 3 (.comp 5 2 (.nm 6) (.bK ⇑0) (!(.cmp .NotIn ⇑6 ⇑4)) (.bin .Add ⇑4 (.tup [⇑6])))))]=bb at q';rcases h3 with rfl |⟨rfl,rfl⟩
   . simp! [U,Tg.ix,dJ,hb,q']
   .
    simp! [U,Tg.ix,dJ,hb];simp at q';simp[q'])
 let(g',(j,s1,s2,s3,s4,h0,h1,rfl,h3),h2):=loop (List.range' 0 m) [‹m›,.own [~~~[]],.no,.no,.no] #[0,_,_,_,_,by lia,rfl,rfl,.inr #[rfl,rfl]]
 have hj:j=m:=by
  have:(List.range' j (m - j)).length=0:=by rw[<- h1];rfl
  rw[Cc]at this;lia
 subst hj;obtain rfl:=h3.resolve_right λe=>by lia
 have hr:cF 0 j=(List.range' 0 j).map λ(x:Nat)=>D.int (x:Int):=by delta cF;rw[y6];show nE λx _=>by rw[Int.zero_add]
 have t0:D.tup [] = ~~~[]:=rfl;delta cJ fF turnsOf;simp! [U,aq 1 ⋯,dJ,aV j ⋯,hr,t0,h2]
variable(hW:fns[wh]?=!bG)(hI:fns[wi]?=!(bN wh))(iC:fns[it]?=!(gA wi))(nZ:fns[ri]?=!rK)(jQ:fns[iw]?=!(dN wi it ri))(lH:fns[mw]?=!(aL iw ci))(hR:fns[ro]?=!nX)(hF:fns[fi]?=!nY)(hTT:fns[tt]?=!(fM ro fi))
include hW hI iC nZ jQ lH hR hF hTT
def K1(m:Nat)(hm:1<=m/\m<=6)(ah: ~~~5)(h:Wb m ah):cJ (rn (n+90)) (k+8) (Ah mw tt) [W m ah]=!(.new ((led m ah m ah).map λr=>~~~r)):=by
 have q1:=λn k=>kB (ci:=ci) U hW hI iC nZ jQ (n:=n) (k:=k) m ah hm h
 have q3:=λn k=>Ag U hR hF (n:=n) (k:=k) m hm ah ah h h
 rw[KY hm h h]at q3;delta cJ Ah;simp! [U,lH,aY (fx:=aL iw ci) rfl,q1,hTT,aP (fx:=fM ro fi) rfl,q3]
end
abbrev inv(m:Nat)(t: ~~~0): ~~~0:=(List.range m).map λ(k:Nat)=>(t.idxOf (k:Int):Int)
def K3(t: ~~~0)(x:Int)(h:x∈t):mtF .index (~~~t) (.int x)=!(.int (t.idxOf x:Nat)):=by
 have e:∀t:List Int,x∈t->zq (.int x) (t.map .int)=!(t.idxOf x):=λt=>by
  induction t with
  |nil=>intro h;symm
  |cons a t ih=>
   intro h;rw[List.map_cons];delta zq;by_cases ha:a=x
   .
    subst ha;rw[i7 (by simp[cH])]
    simp[List.idxOf_cons]
   .
    rw[lL (by simp[cH,ha])]
    have hx:=(dS.mp h).resolve_left λz=>ha z.symm
    rw[ih hx];have hb:(a==x)=false:=by simpa using ha
    simp[List.idxOf_cons,hb]
 have ho:oA (.int x) (t.map .int)=true:=by simp[oA,jD,fD,fE]
 delta mtF;simp only[bV,ho,DB,e t h]
abbrev bT(mw wi:Nat):Fx:=#[2,2,[(.expr (.call mw [⇑0])),(.ite (.or [(.not (.wZ ⇑1 "tuple")),(.cmp .NotEq (.blt .len [⇑1]) (.ix ⇑0 ↥0))]) (~~~4) []),(.ret (.blt .all [(.comp 2 2 (.nm 3) ⇑1 none (.call wi [⇑3,↥0,(.bin .Sub ↥4 ↥1)]))]))]]
abbrev bS(am ci:Nat):Fx:=#[2,2,[(.ite (.not (.call am [⇑0,⇑1])) [(.raise ci (.val (.str (PySem.Str.ofString "no marks of the web"))))] [])]]
abbrev eK(w:Nat):Fx:=#[2,2,[(.ite (.or [(.not (.wZ ⇑1 "tuple")),(.cmp .NotEq (.blt .len [⇑1]) (.ix ⇑0 ↥0))]) (~~~4) []),(.ret (.blt .all [(.comp 2 2 (.nm 3) ⇑1 none (.and [(.call w [⇑3]),(.chain ↥0 [.LtE,.LtE] [⇑3,↥3])]))]))]]
abbrev lI(lt na:Nat):Fx:=#[1,1,[(.ret (.comp 1 2 (.nm 2) (.call lt [(.ix ⇑0 ↥0)]) (!(.cmp .Eq (.call na [⇑0,⇑2]) ⇑0)) ⇑2))]]
abbrev kF(m:Nat):D->Bool
 |.tup l=>decide (l.length=m)&&l.all (mY 0 3)
 |_=>false
def CK(h:l.length=m):kF m (.tup l)=l.all (mY 0 3):=by exact (decide (l.length=m)&&l.all (mY 0 3))=_;rw[oC h,Bool.true_and]
def yi(h : ¬ l.length=m):kF m (.tup l)=false:=by exact (decide (l.length=m)&&l.all (mY 0 3))=_;rw[oD h,Bool.false_and]
def Xl(m:Nat)(a b: ~~~5):fS .Eq (W m a) (W m b)=!(decide (a=b)):=by simp only[fS,W0,DB,eqD_W]
section
variable{k n:Nat}{g g1:G}{rn:Nat->Rn}{fns:List Fx}{w wi it ri iw mw ci cj am lt na:Nat}(U:jj fns rn)(hW:fns[w]?=!bG)
include U
def FP(hL:fns[lt]?=!fF)(hN:fns[na]?=!dZ)(m:Nat)(hm:1<=m/\m<=6)(ah: ~~~5)(h:Wb m ah):cJ (rn (n+60)) (k+2) (lI lt na) [W m ah]=!(.new ((led m ah m ah).map λr=>~~~r)):=by
 have i0:∀m ah,uL (W m ah) (.int 0)=!(.int m):=λ_ _=>rfl
 have q1:=λn k=>yh U (n:=n) (k:=k) m hm
 have tn:=iH hm;have o:∀n k,cz (rn (n+50)) [] (k+2) 1 2 (.nm 2) (.call lt [(.ix ⇑0 ↥0)]) (!(.cmp .Eq (.call na [⇑0,⇑2]) ⇑0)) ⇑2 [.dat (W m ah)]=!((led m ah m ah).map λr=>~~~r,[.dat (W m ah)]):=λn k=>by
  have:=sZ (rn:=rn (n+50)) (bor:=[]) (k:=k+2) (g:=[.dat (W m ah)]) (g1:=[.dat (W m ah)]) (kk:=2) (nn:=1) (j:=2) (it:=.call lt [(.ix ⇑0 ↥0)]) (c:=!(.cmp .Eq (.call na [⇑0,⇑2]) ⇑0)) (e:=.slot 2) (turnsOf m) (λr=>~~~r) (λt=>decide (m=m/\tw t ah=ah)) (λr=>~~~r) (by simp! [U,dJ,i0,hL,aY (fx:=fF) rfl,q1]) rfl ⋯ ⋯ ⋯ (aq _ (by have:=tn.2;lia)) (λa ha G' hG=>by
   have h0:G'[0]?=!(.dat (W m ah)):=hG.1 0 ⋯;have h2:=hG.2;have q2:=λn k=>qQ U (n:=n) (k:=k) m hm.2 ah h.tie (i9 h.len ⋯) a (tn.1 a ha)
   have q3:∀n k,cJ (rn (n+20)) k dZ [W m ah,~~~a]=!(.dat (W m (tw a ah))):=q2;simp! [U,qw,h0,h2,hN,aP (fx:=dZ) rfl,q3,Xl]) (λa ha _ G' hG=>by
   have h2:=hG.2;simp! [U,h2])
  show this
 delta cJ lI;simp! [U,o]
include hW
def Ai(m:Nat)(ah: ~~~5)(d:D)(hd:yc d):cJ (rn (n+40)) (k+2) (eK w) [W m ah,d]=!(.dat (.bl (kF m d))):=by
 have i0:∀m ah,uL (W m ah) (.int 0)=!(.int m):=λ_ _=>rfl
 have no (e:gw (lZ d) "tuple"=false):cJ (rn (n+40)) (k+2) (eK w) [W m ah,d]=!(.dat (.bl false)):=by delta cJ eK;simp! [U,e]
 cases d with
 |tup l=>
  clear no;have hd:l.length<=40:=hd;by_cases c1:l.length=m
  .
   have K4:(l.length:Int)=m:=by lia
   have o:∀n k,cz (rn (n+20)) [] (k+2) 2 2 (.nm 3) ⇑1 none (.and [(.call w [⇑3]),(.chain ↥0 [.LtE,.LtE] [⇑3,↥3])]) [.dat (W m ah),.dat (.tup l)]=!((l.map (mY 0 3)).map .bl,[.dat (W m ah),.dat (.tup l)]):=λn k=>by
    rw[List.map_map];have:=nQ (rn:=rn (n+20)) (bor:=[]) (k:=k+2) (g:=[.dat (W m ah),.dat (.tup l)]) (g1:=[.dat (W m ah),.dat (.tup l)]) (kk:=2) (nn:=2) (j:=3) (it:=.slot 1) (e:=.and [(.call w [⇑3]),(.chain ↥0 [.LtE,.LtE] [⇑3,↥3])]) l id (λx=>.bl (mY 0 3 x)) (by simp! [U,dJ]) rfl ⋯ ⋯ ⋯ (aq _ ⋯) λa _ G' hG=>by
     have h2:=hG.2;simp only[id]at h2;cases a with
     |int i=>
      by_cases h3:0<=i
      .
       by_cases h4:i<=3
       . have:mY 0 3 (.int i)=true:=oC ⋯;simp! [U,h2,hW,aY (fx:=bG) rfl,eG U,isInt,this,h3,h4]
       . have:mY 0 3 (.int i)=false:=oD ⋯;simp! [U,h2,hW,aY (fx:=bG) rfl,eG U,isInt,this,h3,h4]
      . have:mY 0 3 (.int i)=false:=oD ⋯;simp! [U,h2,hW,aY (fx:=bG) rfl,eG U,isInt,this,h3]
     |_=>simp! [U,h2,hW,aY (fx:=bG) rfl,eG U,isInt,mY]
    show this
   have ea:(l.map (mY 0 3)).all id=l.all (mY 0 3):=by simp[List.all_map]
   rw[CK c1];delta cJ eK;simp! [U,i0,K4,o,ea]
  .
   have K4 : ¬ (l.length:Int)=m:=by lia
   rw[yi c1];delta cJ eK;simp! [U,i0,K4]
 |_=>show no rfl
def yj(hI:fns[wi]?=!(bN w))(x:D)(l:List D)(hd:l.length<=40):cz (rn (n+20)) [] (k+2) 2 2 (.nm 3) ⇑1 none (.call wi [⇑3,↥0,(.bin .Sub ↥4 ↥1)]) [.dat x,.dat (.tup l)]=!((l.map (mY 0 3)).map .bl,[.dat x,.dat (.tup l)]):=by
 rw[List.map_map];have:=nQ (rn:=rn (n+20)) (bor:=[]) (k:=k+2) (g:=[.dat x,.dat (.tup l)]) (g1:=[.dat x,.dat (.tup l)]) (kk:=2) (nn:=2) (j:=3) (it:=.slot 1) (e:=.call wi [⇑3,↥0,(.bin .Sub ↥4 ↥1)]) l id (λx=>.bl (mY 0 3 x)) (by simp! [U,dJ]) rfl ⋯ ⋯ ⋯ (aq _ ⋯) λa _ G' hG=>by
  have h2:=hG.2;simp only[id]at h2;simp! [U,h2,hI,lD (fx:=bN w) rfl,mZ U hW]
 show this
variable(hI:fns[wi]?=!(bN w))(iC:fns[it]?=!(gA wi))(nZ:fns[ri]?=!rK)(jQ:fns[iw]?=!(dN wi it ri))(lH:fns[mw]?=!(aL iw ci))
include hI iC nZ jQ lH
def oW(m:Nat)(ah: ~~~5)(hm:1<=m/\m<=6)(h:Wb m ah)(d:D)(hd:yc d):cJ (rn (n+80)) (k+7) (bT mw wi) [W m ah,d]=!(.dat (.bl (kF m d))):=by
 have i0:∀m ah,uL (W m ah) (.int 0)=!(.int m):=λ_ _=>rfl
 have q1:=λn k=>kB (ci:=ci) U hW hI iC nZ jQ (n:=n) (k:=k) m ah hm h
 have no (e:gw (lZ d) "tuple"=false):cJ (rn (n+80)) (k+7) (bT mw wi) [W m ah,d]=!(.dat (.bl false)):=by delta cJ bT;simp! [U,lH,aY (fx:=aL iw ci) rfl,q1,e]
 cases d with
 |tup l=>
  clear no;have hd:l.length<=40:=hd;by_cases c1:l.length=m
  .
   have K4:(l.length:Int)=m:=by lia
   have o:=λn k=>yj U hW hI (n:=n) (k:=k) (W m ah) l hd
   have ea:(l.map (mY 0 3)).all id=l.all (mY 0 3):=by simp[List.all_map]
   rw[CK c1];delta cJ bT;simp! [U,lH,aY (fx:=aL iw ci) rfl,q1,i0,K4,o,ea]
  .
   have K4 : ¬ (l.length:Int)=m:=by lia
   rw[yi c1];delta cJ bT;simp! [U,lH,aY (fx:=aL iw ci) rfl,q1,i0,K4]
 |_=>show no rfl
end
abbrev fO:Fx:=#[2,2,[(.ret (.blt .tuple [(.comp 2 2 (.nm 3) (.bK (.blt .len [⇑1])) none (.ix ⇑0 (.meth .index ⇑1 ⇑3)))]))]]
abbrev CN:List Sm:=[(.item 2 (.ix ⇑1 ⇑3) (.ix ⇑0 ⇑3))]
abbrev lJ:Fx:=#[2,4,[(.set 2 (.bin .Mult (.lst [(.val .non)]) (.blt .len [⇑0]))),(.loop (.nm 3) (.bK (.blt .len [⇑0])) CN),(.ret (.blt .tuple [⇑2]))]]
abbrev mon(m:Nat)(a t: ~~~0): ~~~0:=(nums m).map λx=>gt a (t.idxOf x:Nat)
abbrev jo(m:Nat)(a t: ~~~0)(j:Nat):List D:=(nums m).map λx=>if t.idxOf x<j then D.int (gt a (t.idxOf x:Nat))else .non
def vq(m:Nat)(a t: ~~~0):(mon m a t).length=m:=by rw[mon,eJ,cU]
def Xm(m:Nat)(a t: ~~~0):jo m a t 0=List.replicate m .non:=by
 delta jo;rw[List.eq_replicate_iff];apply#[by rw[eJ,cU],λx hx=>?_]
 let(y,_,rfl):=gN.mp hx;rw[lL (AJ _)]
def Xn(ht:Tn m t):jo m a t m=(mon m a t).map .int:=by
 delta jo mon;rw[List.map_map];apply nE λx hx=>?_
 have h1:=AX (ht.mem.mpr (eF.mp hx));rw[ht.length]at h1;rw[i7 h1];rfl
def K5(ht:Tn m t)(hj:j<m):t.idxOf (gt t (j:Int))=j:=by
 have hl:=ht.length;have e:gt t (j:Int)=t[j]'⋯:=by delta gt;rw[w9,gL,lS ⋯];rfl
 rw[e];show ht.nodup.idxOf_getElem j ⋯
def K6(ht:Tn m t)(hj:j<m):(jo m a t j).set (gt t (j:Int)).toNat (.int (gt a (j:Int)))=jo m a t (j+1):=by
 have hg:=ht.iG (i:=(j:Int)) ⋯;delta jo nums;rw[List.map_map,List.map_map];apply CU ⋯ λi h1 h2=>?_
 rw[List.getElem_set];simp only[List.getElem_map,List.getElem_range,Function.comp];have hi:i<m:=by simpa using h2
 by_cases e:(gt t (j:Int)).toNat=i
 .
  have e1:(i:Int)=gt t (j:Int):=by lia
  rw[i7 e,e1,K5 ht hj,i7 (pE j)]
 .
  rw[lL e];have fy:t.idxOf (i:Int)≠j:=λq=>e (by
   have hm:(i:Int)∈t:=ht.mem.mpr ⋯;have h3:=AX hm;have:t[t.idxOf (i:Int)]=(i:Int):=List.getElem_idxOf h3;have e2:gt t (j:Int)=(i:Int):=by delta gt;rw[w9,<- q,gL,lS h3];show this
   rw[e2];rfl)
  by_cases c:t.idxOf (i:Int)<j
  . rw[i7 c,i7 ⋯]
  . rw[lL c,lL ⋯]
def K7(N:Nat)(hN:N<=6):mO .Mult (.lst [.non]) (.int N)=!(.new (List.replicate N .non)):=by
 cases N with
 |zero=>rfl
 |succ N=>show six (p:=λN=>mO .Mult (.lst [.non]) (.int N)=!(.new (List.replicate N .non))) #[Nat.succ_pos _,hN] rfl rfl rfl rfl rfl rfl
section
variable{k n:Nat}{g g1:G}{rn:Nat->Rn}{fns:List Fx}(U:jj fns rn)
include U
def qV(m:Nat)(hm:m<=6)(a t: ~~~0)(ha:a.length=m)(ht:Tn m t):cJ (rn (n+20)) k fO [~~~a,~~~t]=!(.dat (~~~(mon m a t))):=by
 have hr:cF 0 m=(nums m).map .int:=ji m;have hl:=ht.length;have w:=λn k=>nQ (rn:=rn (n+10)) (bor:=[]) (k:=k) (g:=[.dat (~~~a),.dat (~~~t)]) (g1:=[.dat (~~~a),.dat (~~~t)]) (kk:=2) (nn:=2) (j:=3) (it:=.bK (.blt .len [⇑1])) (e:=.ix ⇑0 (.meth .index ⇑1 ⇑3)) (nums m) .int (λx=>.int (gt a (t.idxOf x:Nat))) (by simp! [U,dJ,hl,aV m ⋯,hr]) rfl ⋯ ⋯ ⋯ (aq _ (by rw[cU];lia)) λx hx G' hG=>by
  have h0:G'[0]?=!(.dat (~~~a)):=hG.1 0 ⋯;have h1:G'[1]?=!(.dat (~~~t)):=hG.1 1 ⋯;have hx':=ht.mem.mpr (eF.mp hx);have h3:=AX hx';simp! [U,hG.2,h0,h1,bV,K3 t x hx',qP (t:=a) (i:=(t.idxOf x:Nat)) ⋯]
 delta cJ fO;simp! [U,w];delta mon;rw[List.map_map];rfl
def oX(m:Nat)(hm:m<=6)(a t: ~~~0)(ha:a.length=m)(ht:Tn m t):cJ (rn (n+20)) k lJ [~~~a,~~~t]=!(.dat (~~~(mon m a t))):=by
 have hl:=ht.length;have hr:cF 0 m=(List.range m).map λ(j:Nat)=>D.int (j:Int):=by rw[ji,List.map_map];rfl
 have loop:=bR (T:=.nm 3) (b:=(rn (n+19)).b [] k CN) (λ(j:Nat)=>D.int (j:Int))
  (I:=λl g=>∃(j:Nat) (s3:Slot),j<=m/\l=List.range' j (m - j)/\g=[.dat (~~~a),.dat (~~~t),.own (jo m a t j),s3])
  (step:=λx l g h=>by
   let(j,s3,h0,h1,rfl):=h;have Qy:j<m:=by
    rcases wS j m with h |h
    . show h
    . rw[AF h]at h1;cases h1
   have hc:List.range' j (m - j)=j::List.range' (j+1) (m - (j+1)):=by rw[show m - j=(m - (j+1))+1 by lia,AB]
   rw[hc]at h1;injection h1 with e1 e2;subst e1 e2;have hg:=ht.iG (i:=(x:Int)) ⋯;have i1:=qP (t:=a) (i:=(x:Int)) ⋯;have i2:=qP (t:=t) (i:=(x:Int)) ⋯;have jl:(jo m a t x).length=m:=by rw[jo,eJ,cU]
   have i3:L2.uf (jo m a t x).length (gt t (x:Int))=some (gt t (x:Int)).toNat:=by delta L2.uf;rw[jl,i7 hg.1,i7 hg.2]
   have st:=K6 (a:=a) ht Qy;apply#[_,_,rfl,?_,x+1,‹x›,by lia,rfl,rfl]
   delta CN;simp! [U,i1,i2,i3,st])
  (List.range m) [.dat (~~~a),.dat (~~~t),.own (jo m a t 0),.no] #[0,.no,wT _,y6,rfl]
 have om:=K7 m hm;rw[<- Xm m a t]at om;let(g',(j,s3,h0,h1,rfl),h2):=loop;have hj:j=m:=by
  have:(List.range' j (m - j)).length=0:=by rw[<- h1];rfl
  rw[Cc]at this;lia
 subst hj;generalize hz:jo j a t 0=z at om h2;have hv:(a.length:Int)=j:=by lia
 have e1:∀(v:Int),(a.length:Int)=v->mO .Mult (.lst [.non]) (.int v)=!(.new z)->aF (rn (n+19)) [] k (.set 2 (.bin .Mult (.lst [(.val .non)]) (.blt .len [⇑0]))) [.dat (~~~a),.dat (~~~t),.no,.no]=!(.nx,[.dat (~~~a),.dat (~~~t),.own z,.no]):=λv hv om=>by
  simp! [U,aq 1 ⋯,hv,om]
 have e2:aF (rn (n+19)) [] k (.loop (.nm 3) (.bK (.blt .len [⇑0])) CN) [.dat (~~~a),.dat (~~~t),.own z,.no]=!(.nx,[.dat (~~~a),.dat (~~~t),.own (jo j a t j),s3]):=by simp! [U,Tg.ix,Tg.j8,dJ,hv,aV j ⋯,hr,h2]
 have e3:=Xn (a:=a) ht;have e4:cM (rn (n+19)) [] k [(.ret (.blt .tuple [⇑2]))] [.dat (~~~a),.dat (~~~t),.own (jo j a t j),s3]=!(.rt (.dat (~~~(mon j a t))),[.dat (~~~a),.dat (~~~t),.own (jo j a t j),s3]):=by simp! [U,e3]
 have e5:(rn (n+20)).b [] k lJ.body [.dat (~~~a),.dat (~~~t),.no,.no]=!(.rt (.dat (~~~(mon j a t))),[.dat (~~~a),.dat (~~~t),.own (jo j a t j),s3]):=by rw[U.b];show (aB (e1 j hv om)).trans ((aB e2).trans e4)
 delta cJ;rw[show dG lJ.n (Wy [~~~a,~~~t])=[.dat (~~~a),.dat (~~~t),.no,.no]from rfl,e5]
 rfl
end
abbrev aX(mm ow mo:Nat):Fx:=#[3,4,[(.expr (.call mm [⇑0,⇑1])),(.expr (.call mm [⇑0,⇑2])),(.setC 3 (.comp 4 2 (.nm 5) (.call ow [⇑0]) (!(.cmp .Eq (.call mo [⇑1,⇑5]) ⇑2)) ⇑5)),(.ret (.ite ⇑3 (.ix ⇑3 ↥0) (.val .non)))]]
abbrev dP(mm ow mo:Nat):Fx:=#[2,2,[(.expr (.call mm [⇑0,⇑1])),(.ret (.blt .min [(.comp 2 2 (.nm 3) (.call ow [⇑0]) none (.call mo [⇑1,⇑3]))]))]]
abbrev Mk(m:Nat)(a: ~~~0):Prop:=kF m (~~~a)=true
def Mk.length(h:Mk m a):a.length=m:=by have h:(decide ((a.map D.int).length=m)&&(a.map D.int).all (mY 0 3))=true:=h;rw[eQ,l8,eJ]at h;show h.1
def Mk.few(h:Mk m a)(hm:m<=6):yc (~~~a):=by exact (a.map D.int).length<=40;rw[eJ,h.length];lia
def d7(hm:1<=m/\m<=6)(h:t∈led m ah m ah):Tn m t:=(iH hm).1 t (i5.mp h).1
def lK(hm:1<=m/\m<=6)(ah: ~~~5):(led m ah m ah).length<=720:=i9 (t8 _ _) (iH hm).2
def ym(n: ~~~0)(l: ~~~5)(h:∀x∈n::l,x≠[]):qq .min [.lst ((n::l).map ∅)]=!(.dat (~~~(fV n l))):=by have e:=xT (n::l) h;have e2:=tD n l;simp only[qq,Vt,bV,e2,e]
section
variable{k n:Nat}{g g1:G}{rn:Nat->Rn}{fns:List Fx}{w wi it ri iw mw ci cj am mm mo ow tt ro fi:Nat}(U:jj fns rn)(hW:fns[w]?=!bG)(hI:fns[wi]?=!(bN w))(iC:fns[it]?=!(gA wi))(nZ:fns[ri]?=!rK)(jQ:fns[iw]?=!(dN wi it ri))(lH:fns[mw]?=!(aL iw ci))(Gw:fns[am]?=!(bT mw wi))(Xo:fns[mm]?=!(bS am cj))(hMO:fns[mo]?=!fO)
include U hW hI iC nZ jQ lH
def RP(m:Nat)(ah: ~~~5)(hm:1<=m/\m<=6)(h:Wb m ah)(d:D)(hd:yc d):iK (rn (n+80)) (k+7) (bT mw wi) [W m ah,d]=none:=by
 have i0:∀m ah,uL (W m ah) (.int 0)=!(.int m):=λ_ _=>rfl
 have q1:=λn k=>kB (ci:=ci) U hW hI iC nZ jQ (n:=n) (k:=k) m ah hm h
 have q2:=λn k=>Kw (ci:=ci) U hW hI iC nZ jQ (n:=n) (k:=k) m ah hm h
 have no (e:gw (lZ d) "tuple"=false):iK (rn (n+80)) (k+7) (bT mw wi) [W m ah,d]=none:=by delta iK bT;simp! [U,lH,aY (fx:=aL iw ci) rfl,iF (fx:=aL iw ci) rfl,q1,q2,e]
 cases d with
 |tup l=>
  by_cases c1:l.length=m
  .
   have K4:(l.length:Int)=m:=by lia
   have o:=λn k=>yj U hW hI (n:=n) (k:=k) (W m ah) l hd
   delta iK bT;simp! [U,lH,aY (fx:=aL iw ci) rfl,iF (fx:=aL iw ci) rfl,q1,q2,i0,K4,o]
  .
   have K4 : ¬ (l.length:Int)=m:=by lia
   delta iK bT;simp! [U,lH,aY (fx:=aL iw ci) rfl,iF (fx:=aL iw ci) rfl,q1,q2,i0,K4]
 |_=>show no rfl
include Gw
def lM(m:Nat)(ah: ~~~5)(hm:1<=m/\m<=6)(h:Wb m ah)(d:D)(hd:yc d)(hk:kF m d=true):cJ (rn (n+90)) (k+8) (bS am cj) [W m ah,d]=!(.dat .non):=by
 have q:=λn k=>oW U hW hI iC nZ jQ lH (n:=n) (k:=k) m ah hm h d hd
 rw[hk]at q;delta cJ bS;simp! [U,Gw,aP (fx:=bT mw wi) rfl,q]
def Xp(m:Nat)(ah: ~~~5)(hm:1<=m/\m<=6)(h:Wb m ah)(d:D)(hd:yc d)(hk:kF m d=true):iK (rn (n+90)) (k+8) (bS am cj) [W m ah,d]=none:=by
 have q:=λn k=>oW U hW hI iC nZ jQ lH (n:=n) (k:=k) m ah hm h d hd
 have q2:=λn k=>RP U hW hI iC nZ jQ lH (n:=n) (k:=k) m ah hm h d hd
 rw[hk]at q;delta iK bS;simp! [U,Gw,aP (fx:=bT mw wi) rfl,cV (fx:=bT mw wi) rfl,q,q2]
def vA(m:Nat)(ah: ~~~5)(hm:1<=m/\m<=6)(h:Wb m ah)(d:D)(hd:yc d)(hk:kF m d=false):iK (rn (n+90)) (k+8) (bS am cj) [W m ah,d]=!cj:=by
 have q:=λn k=>oW U hW hI iC nZ jQ lH (n:=n) (k:=k) m ah hm h d hd
 have q2:=λn k=>RP U hW hI iC nZ jQ lH (n:=n) (k:=k) m ah hm h d hd
 rw[hk]at q;delta iK bS;simp! [U,Gw,aP (fx:=bT mw wi) rfl,cV (fx:=bT mw wi) rfl,q,q2]
include Xo
def yp(m:Nat)(ah: ~~~5)(hm:1<=m/\m<=6)(h:Wb m ah)(d e:D)(hd:yc d)(hk:kF m d=false):iK (rn (n+100)) (k+9) (aX mm ow mo) [W m ah,d,e]=!cj:=by
 have q:=λn k=>vA U hW hI iC nZ jQ lH Gw (cj:=cj) (n:=n) (k:=k) m ah hm h d hd hk
 delta iK aX;simp! [U,Xo,cV (fx:=bS am cj) rfl,q]
def vB(m:Nat)(ah: ~~~5)(hm:1<=m/\m<=6)(h:Wb m ah)(a d:D)(ha:yc a)(hka:kF m a=true)(hd:yc d)(hk:kF m d=false):iK (rn (n+100)) (k+9) (aX mm ow mo) [W m ah,a,d]=!cj:=by
 have q:=λn k=>vA U hW hI iC nZ jQ lH Gw (cj:=cj) (n:=n) (k:=k) m ah hm h d hd hk
 have q1:=λn k=>lM U hW hI iC nZ jQ lH Gw (cj:=cj) (n:=n) (k:=k) m ah hm h a ha hka
 have q2:=λn k=>Xp U hW hI iC nZ jQ lH Gw (cj:=cj) (n:=n) (k:=k) m ah hm h a ha hka
 delta iK aX;simp! [U,Xo,cV (fx:=bS am cj) rfl,aP (fx:=bS am cj) rfl,q1,q2,q]
def K8(m:Nat)(ah: ~~~5)(hm:1<=m/\m<=6)(h:Wb m ah)(d:D)(hd:yc d)(hk:kF m d=false):iK (rn (n+100)) (k+9) (dP mm ow mo) [W m ah,d]=!cj:=by
 have q:=λn k=>vA U hW hI iC nZ jQ lH Gw (cj:=cj) (n:=n) (k:=k) m ah hm h d hd hk
 delta iK dP;simp! [U,Xo,cV (fx:=bS am cj) rfl,q]
variable(hR:fns[ro]?=!nX)(hF:fns[fi]?=!nY)(hTT:fns[tt]?=!(fM ro fi))(hOW:fns[ow]?=!(Ah mw tt))
include hMO hR hF hTT hOW
def vC(m:Nat)(ah: ~~~5)(hm:1<=m/\m<=6)(h:Wb m ah)(a b: ~~~0)(ha:Mk m a)(hb:Mk m b):cJ (rn (n+110)) (k+9) (aX mm ow mo) [W m ah,~~~a,~~~b]=!(.dat (hdD ((led m ah m ah).filter λt=>decide (mon m a t=b)))):=by
 have q1:=λn k=>lM U hW hI iC nZ jQ lH Gw (cj:=cj) (n:=n) (k:=k) m ah hm h _ (ha.few hm.2) ha
 have q2:=λn k=>lM U hW hI iC nZ jQ lH Gw (cj:=cj) (n:=n) (k:=k) m ah hm h _ (hb.few hm.2) hb
 have q3:=λn k=>K1 U hW hI iC nZ jQ lH hR hF hTT (n:=n) (k:=k) m hm ah h
 have o:∀n k,cz (rn (n+100)) [] (k+9) 4 2 (.nm 5) (.call ow [⇑0]) (!(.cmp .Eq (.call mo [⇑1,⇑5]) ⇑2)) ⇑5 [.dat (W m ah),.dat (~~~a),.dat (~~~b),.no]=!(((led m ah m ah).filter λt=>decide (mon m a t=b)).map λr=>~~~r,[.dat (W m ah),.dat (~~~a),.dat (~~~b),.no]):=λn k=>by
  have:=sZ (rn:=rn (n+100)) (bor:=[]) (k:=k+9) (g:=[.dat (W m ah),.dat (~~~a),.dat (~~~b),.no]) (g1:=[.dat (W m ah),.dat (~~~a),.dat (~~~b),.no]) (kk:=2) (j:=5) (it:=.call ow [⇑0]) (c:=!(.cmp .Eq (.call mo [⇑1,⇑5]) ⇑2)) (e:=.slot 5) (led m ah m ah) (λr=>~~~r) (λt=>decide (mon m a t=b)) (λr=>~~~r) (by simp! [U,dJ,hOW,aY (fx:=Ah mw tt) rfl,q3]) rfl ⋯ ⋯ ⋯ (aq _ (by have:=lK hm ah;lia)) (λt ht G' hG=>by
   have h1:=hG.1 1 ⋯;have h3:=hG.1 2 ⋯;have h2:=hG.2;have q4:=λn k=>qV U (n:=n) (k:=k) m hm.2 a t ha.length (d7 hm ht)
   simp! [U,qw,h1,h2,h3,hMO,aP (fx:=fO) rfl,q4]) (λt ht _ G' hG=>by
   have h2:=hG.2;simp! [U,h2])
  show this
 delta cJ aX;cases hl:(led m ah m ah).filter λt=>decide (mon m a t=b)with
 |nil=>rw[hl]at o;simp! [U,Xo,aP (fx:=bS am cj) rfl,q1,q2,o];rfl
 |cons t l=>
  rw[hl]at o;have a0:L2.gD ((t::l).map λr=>~~~r) 0=!(~~~t):=by simp[L2.gD,L2.uf]
  simp! [U,Xo,aP (fx:=bS am cj) rfl,q1,q2,o,a0];rfl
def FQ(m:Nat)(ah: ~~~5)(hm:1<=m/\m<=6)(h:Wb m ah)(a: ~~~0)(ha:Mk m a)(x: ~~~0)(l: ~~~5)(e:(led m ah m ah).map (mon m a)=x::l):cJ (rn (n+110)) (k+9) (dP mm ow mo) [W m ah,~~~a]=!(.dat (~~~(fV x l))):=by
 have q1:=λn k=>lM U hW hI iC nZ jQ lH Gw (cj:=cj) (n:=n) (k:=k) m ah hm h _ (ha.few hm.2) ha
 have q3:=λn k=>K1 U hW hI iC nZ jQ lH hR hF hTT (n:=n) (k:=k) m hm ah h
 have o:∀n k,cz (rn (n+100)) [] (k+9) 2 2 (.nm 3) (.call ow [⇑0]) none (.call mo [⇑1,⇑3]) [.dat (W m ah),.dat (~~~a)]=!((x::l).map λr=>~~~r,[.dat (W m ah),.dat (~~~a)]):=λn k=>by
  rw[<- e,List.map_map];have:=nQ (rn:=rn (n+100)) (bor:=[]) (k:=k+9) (g:=[.dat (W m ah),.dat (~~~a)]) (g1:=[.dat (W m ah),.dat (~~~a)]) (kk:=2) (j:=3) (it:=.call ow [⇑0]) (e:=.call mo [⇑1,⇑3]) (led m ah m ah) (λr=>~~~r) (λt=>~~~(mon m a t)) (by simp! [U,dJ,hOW,aY (fx:=Ah mw tt) rfl,q3]) rfl ⋯ ⋯ ⋯ (aq _ (by have:=lK hm ah;lia)) (λt ht G' hG=>by
   have h1:=hG.1 1 ⋯;have h2:=hG.2;have q4:=λn k=>qV U (n:=n) (k:=k) m hm.2 a t ha.length (d7 hm ht)
   simp! [U,h1,h2,hMO,aP (fx:=fO) rfl,q4])
  show this
 have fy:∀y∈x::l,y≠[]:=λy hy=>by
  rw[<- e]at hy;let(t,_,rfl):=gN.mp hy;intro c;have:=vq m a t;rw[c]at this;have:(0:Nat)=m:=this;lia
 have mn:=ym x l fy;delta cJ dP;simp! [U,Xo,aP (fx:=bS am cj) rfl,q1,o,mn]
end
section
variable{rn:Rn}{bor:List Nat}{k:Nat}
def FT(h:i<g.length):(gM g m acc).set i s=gM (g.set i s) m acc:=by delta gM;rw[Bi _ _ h]
def yq{i j last kk:Nat}{fl:Bool}{e:Ex}{P:D->Prop}(g:G)(hi:i<g.length)(cu:last=g.length+kk)(hj1:g.length<=j)(hj2:j<g.length+kk)
  (he:∀s G',G'[i]?=!(St s fl)->(∀i',i'≠i->i'<g.length->G'[i']?=g[i']?)->∃d s',P d/\gJ rn bor k e G'=!(d,G'.set i (St s' fl))) :
  ∀(ak:List D) (s:Int) (m:G) (acc:List D),m.length=kk->acc.length+ak.length<=lim->∃ds s' m',m'.length=kk/\ds.length=ak.length/\(∀d∈ds,P d)/\xm rn bor k (.nm j) last none e ak (gM (g.set i (St s fl)) m acc)=!(gM (g.set i (St s' fl)) m' (acc++ds))
 | [],s,m,acc,hm,_=>#[[],s,m,hm,rfl,(λ_ h=>nomatch h),by rw[mB];rfl]
 |x::ak,s,m,acc,hm,hl=>by
  rw[kA]at hl;have hg:(g.set i (St s fl)).length=g.length:=n0;have q1:Tg.set (.nm j) x (gM (g.set i (St s fl)) m acc)=!(gM (g.set i (St s fl)) (m.set (j - g.length) (.dat x)) acc):=by
   exact some ((gM (g.set i (St s fl)) m acc).set j (.dat x))=_;have:=iD (g:=g.set i (St s fl)) (m:=m) (acc:=acc) (i:=j - g.length) (s:=.dat x) ⋯;rw[hg,show g.length+(j - g.length)=j by lia]at this
   rw[this]
  let(d,s1,hd,q2):=he s (gM (g.set i (St s fl)) (m.set (j - g.length) (.dat x)) acc) (by rw[gR ⋯,fI hi]) λi' h1 h2=>by rw[gR ⋯,eR (mM h1)]
  rw[FT ⋯,List.set_set]at q2;have hm':(m.set (j - g.length) (Slot.dat x)).length=kk:=by rw[n0];show hm
  let(ds,s',m',w1,w2,w3,w4):=yq g hi cu hj1 hj2 he ak s1 (m.set (j - g.length) (.dat x)) (acc++[d]) hm' (by rw[eP,t6];lia)
  apply#[d::ds,s',m',w1,by rw[kA,kA,w2],λy hy=>(dS.mp hy).elim (λe=>e▸hd) (w3 y),?_]
  have uz:(g.set i (St s1 fl)).length=g.length:=n0;have q4:(gM (g.set i (St s1 fl)) (m.set (j - g.length) (.dat x)) acc)[last]?=!(.own acc):=by rw[cu,<- hm',<- uz];show fZ
  have q5:(gM (g.set i (St s1 fl)) (m.set (j - g.length) (.dat x)) acc).set last (.own (acc++[d]))=gM (g.set i (St s1 fl)) (m.set (j - g.length) (.dat x)) (acc++[d]):=by rw[cu,<- hm',<- uz];show gi
  delta xm;rw[q1];dsimp only[qw];rw[q2];dsimp only;rw[q4];dsimp only;rw[i7 ⋯,q5,w4,AI];rfl
def tN{i j nn kk:Nat}{fl:Bool}{it e:Ex}{P:D->Prop}(g:G)(s:Int)(hg:g[i]?=!(St s fl))(ak:List D)(hw:dJ rn bor k false it g=!(ak,g))(hn:nn=g.length)(hj1:g.length<=j)(hj2:j<g.length+kk)(hb:j∉bor)(hl:ak.length<=lim)
  (he:∀s G',G'[i]?=!(St s fl)->(∀i',i'≠i->i'<g.length->G'[i']?=g[i']?)->∃d s',P d/\gJ rn bor k e G'=!(d,G'.set i (St s' fl))) :
  ∃ds s',ds.length=ak.length/\(∀d∈ds,P d)/\cz rn bor k nn kk (.nm j) it none e g=!(ds,g.set i (St s' fl)):=by
 subst hn;have hi:i<g.length:=(dE.mp hg).1;let(ds,s',m',w1,w2,w3,w4):=yq g hi rfl hj1 hj2 he ak s (List.replicate kk .no) [] ⋯ (by simpa using hl)
 have e0:g.set i (St s fl)=g:=by
  refine List.ext_getElem?;intro a;by_cases h:a=i
  . subst h;rw[fI hi,hg]
  . rw[eR (mM h)]
 rw[e0]at w4;apply#[ds,s',w2,w3,?_];have uz:(g.set i (St s' fl)).length=g.length:=n0;have q4:(gM (g.set i (St s' fl)) m' ([]++ds))[g.length+kk]?=!(.own ds):=by have:=fZ (g:=g.set i (St s' fl)) (m:=m') (acc:=[]++ds);rw[uz,w1]at this;show this
 have q5:(gM (g.set i (St s' fl)) m' ([]++ds)).take g.length=g.set i (St s' fl):=by rw[<- uz];show oR
 delta cz;rw[show Tg.j8 (.nm j)=false from rfl,hw]
 dsimp only;rw[i7 #[rfl,by simpa [Tg.ix]using hb],Cv,w4]
 dsimp only;rw[q4];dsimp only;rw[q5]
end
abbrev gU(ti:Nat):Fx:=#[1,2,[(.set 1 (.lst [(.val .non),↥0,(.tup []),(.tup [↥0,(.tup [])]),(.tup [↥7,(.tup [])]),(.tup [(.val (.bl true)),(.tup [])]),(.tup [↥2,(.lst [])]),(.lst [↥2,(.tup [])]),(.tup [↥2,(.tup [(.tup [↥1,↥0])])]),(.tup [↥2,(.tup [(.tup [↥0,↥0])])])])),(.set 1 (.bin .Add ⇑1 (.lst [(.tup [↥3,(.tup [(.tup [↥0,↥2]),(.tup [↥0,↥1])])]),(.tup [↥2,(.tup [(.tup [↥0,↥1]),(.tup [↥0,↥1])])]),(.tup [↥2,(.tup [(.tup [↥0,↥1,↥1])])]),(.tup [↥2,(.tup [(.tup [↥0,(.val (.bl true))])])]),(.tup [↥2])]))),(.set 1 (.bin .Add ⇑1 (.lst [(.tup [↥2,(.tup [(.tup [↥0,↥2])])]),(.val (.str (PySem.Str.ofString "2:"))),.emp,(.tup [↥2,(.tup [(.lst [↥0,↥1])])]),(.tup [↥2,(.tup []),(.tup [])]),(.tup [↥2,(.val .non)]),(.tup [(.val (.str (PySem.Str.ofString "2"))),(.tup [])])]))),(.ret (.ix ⇑1 (.call ti [⇑0,↥22])))]]
abbrev Xq:List D:=[.non,(.int 0),(.tup []),(.tup [(.int 0),(.tup [])]),(.tup [(.int 7),(.tup [])]),(.tup [(.bl true),(.tup [])]),(.tup [(.int 2),(.lst [])]),(.lst [(.int 2),(.tup [])]),(.tup [(.int 2),(.tup [(.tup [(.int 1),(.int 0)])])]),(.tup [(.int 2),(.tup [(.tup [(.int 0),(.int 0)])])])]
abbrev Xr:List D:=[(.tup [(.int 3),(.tup [(.tup [(.int 0),(.int 2)]),(.tup [(.int 0),(.int 1)])])]),(.tup [(.int 2),(.tup [(.tup [(.int 0),(.int 1)]),(.tup [(.int 0),(.int 1)])])]),(.tup [(.int 2),(.tup [(.tup [(.int 0),(.int 1),(.int 1)])])]),(.tup [(.int 2),(.tup [(.tup [(.int 0),(.bl true)])])]),(.tup [(.int 2)])]
abbrev bq3:List D:=[(.tup [(.int 2),(.tup [(.tup [(.int 0),(.int 2)])])]),(.str (PySem.Str.ofString "2:")),.emp,(.tup [(.int 2),(.tup [(.lst [(.int 0),(.int 1)])])]),(.tup [(.int 2),(.tup []),(.tup [])]),(.tup [(.int 2),.non]),(.tup [(.str (PySem.Str.ofString "2")),(.tup [])])]
abbrev fP:List D:=Xq++Xr++bq3
section
variable{k n:Nat}{g g1:G}{rn:Nat->Rn}{fns:List Fx}{ti:Nat}(U:jj fns rn)(hT:fns[ti]?=!bz)
include U hT
def QH(hi:g[i]?=!(St s fl)):∃(d:D) (s':Int),d∈fP/\aR (rn (n+60)) (gU ti) (k+1) [.var i] g=!(.dat d,g.set i (St s' fl)):=by
 have l0:=aq 0 ⋯;have l1:=aq 1 ⋯;have l2:=aq 2 ⋯;have l3:=aq 3 ⋯;have e1:aF (rn (n+59)) [0] (k+1) (match (gU ti).body with |s::_=>s | []=>.stuck) [St s fl,.no]=!(.nx,[St s fl,.own Xq]):=by delta gU;simp! [U,l1];rfl
 have e2:aF (rn (n+59)) [0] (k+1) (match (gU ti).body with |_::s::_=>s |_=>.stuck) [St s fl,.own Xq]=!(.nx,[St s fl,.own (Xq++Xr)]):=by have o:=lG Xq Xr ⋯;have hb:Xr=[(.tup [(.int 3),(.tup [(.tup [(.int 0),(.int 2)]),(.tup [(.int 0),(.int 1)])])]),(.tup [(.int 2),(.tup [(.tup [(.int 0),(.int 1)]),(.tup [(.int 0),(.int 1)])])]),(.tup [(.int 2),(.tup [(.tup [(.int 0),(.int 1),(.int 1)])])]),(.tup [(.int 2),(.tup [(.tup [(.int 0),(.bl true)])])]),(.tup [(.int 2)])]:=rfl;delta gU;simp! [U,l1,l2,l3,aq Xr.length ⋯,<- hb,o]
 have e3:aF (rn (n+59)) [0] (k+1) (match (gU ti).body with |_::_::s::_=>s |_=>.stuck) [St s fl,.own (Xq++Xr)]=!(.nx,[St s fl,.own fP]):=by have o:=lG (Xq++Xr) bq3 ⋯;have hb:bq3=[(.tup [(.int 2),(.tup [(.tup [(.int 0),(.int 2)])])]),(.str (PySem.Str.ofString "2:")),.emp,(.tup [(.int 2),(.tup [(.lst [(.int 0),(.int 1)])])]),(.tup [(.int 2),(.tup []),(.tup [])]),(.tup [(.int 2),.non]),(.tup [(.str (PySem.Str.ofString "2")),(.tup [])])]:=rfl;delta gU fP;simp! [U,l1,l2,l3,aq bq3.length ⋯,<- hb,o]
 let(r,s1,r1,r2,q):=bM U (n:=n+37) (k:=k) (g:=[St s fl,.own fP]) (i:=0) (m:=22) rfl ⋯;have q':=q;let(d,hd,ed):=oU (l:=fP) #[r1,r2];apply#[d,s1,hd,?_];have e4:aF (rn (n+59)) [0] (k+1) (.ret (.ix ⇑1 (.call ti [⇑0,↥22]))) [St s fl,.own fP]=!(.rt (.dat d),[St s1 fl,.own fP]):=by simp! [U,hT,q',ed]
 have body:(rn (n+60)).b [0] (k+1) (gU ti).body [St s fl,.no]=!(.rt (.dat d),[St s1 fl,.own fP]):=by
  delta gU at e1 e2 e3 ⊢
  rw[U.b,aB e1,aB e2,aB e3];delta cM;rw[e4]
 have hp:dG (gU ti).n [St s fl]=[St s fl,.no]:=rfl;delta aR;simp only[vars,cL,hi,List.map_cons,List.map_nil];rw[hp,body];rfl
end
end Ev
namespace aZ
open Ev
abbrev gZ:List PySem.Addr:=[37,157]
abbrev Yo:Fx:=#[1,4,[(.set 1 (.val .non)),.stuck,(.set 3 (.lst [(.sS ⇑1 [(37,true),(157,false)]),(.sS ⇑1 [(37,false),(157,false)]),(.sS ⇑1 [(37,false),(157,false)])])),(.set 3 (.bin .Add ⇑3 (.lst [(.sS ⇑1 [(37,false),(157,false)]),(.sS ⇑1 [(37,false),(157,false)]),(.sS ⇑1 [(37,false),(157,false)])]))),(.set 3 (.bin .Add ⇑3 (.lst [(.sS ⇑1 [(37,false),(157,false)]),(.sS ⇑1 [(37,false),(157,false)]),(.sS ⇑1 [(37,false),(157,false)])]))),(.set 3 (.bin .Add ⇑3 (.lst [(.sS ⇑1 [(37,false),(157,false)]),(.sS ⇑1 [(37,false),(157,false)]),(.sS ⇑1 [(37,false),(157,false)])]))),(.set 3 (.bin .Add ⇑3 (.lst [(.sS ⇑1 [(37,false),(157,false)]),(.sS ⇑1 [(37,false),(157,false)]),(.sS ⇑1 [(37,false),(157,true)])]))),(.ite (.not (.sS ⇑1 [(37,true),(157,true)])) [(.ret (.val .non))] []),(.ret (.comp 4 2 (.nm 5) (.bK ↥15) (!(.ix ⇑3 ⇑5)) ⇑5))]]
abbrev b0:Sm:=.set 2 (.call 16 [⇑0,(.bin .Add (.blt .len [⇑1]) ↥1)])
abbrev b1:Sm:=.set 3 (.ix (.lst [↥4,(.neg ↥1),(.val (.bl true)),(.val .non),(.val (.str (PySem.Str.ofString "0"))),(.tup [↥0]),↥3,(.val (.bl false)),(.bin .Pow ↥10 ↥29),↥1]) (.call 16 [⇑0,↥10]))
abbrev b2:Sm:=.set 4 (.lst [(.bin .Add (.bin .Add (.slice ⇑1 none (!⇑2)) (.tup [⇑3])) (.slice ⇑1 (!(.bin .Add ⇑2 ↥1)) none)),(.bin .Add (.bin .Add (.slice ⇑1 none (!⇑2)) (.tup [⇑3])) (.slice ⇑1 (!⇑2) none)),(.bin .Add (.slice ⇑1 none (!⇑2)) (.slice ⇑1 (!(.bin .Add ⇑2 ↥1)) none))])
abbrev b3:Sm:=.set 4 (.bin .Add ⇑4 (.lst [(.blt .list [⇑1]),(.rev ⇑1),(.val .non),.emp,↥0,(.tup []),(.bin .Add ⇑1 ⇑1)]))
abbrev b4:Sm:=.ret (.ix ⇑4 (.ix (.lst [↥0,↥0,↥0,↥1,↥2,↥3,↥4,↥5,↥6,↥7,↥8,↥9]) (.call 16 [⇑0,↥12])))
abbrev Xs:Fx:=#[2,5,[b0,b1,b2,b3,b4]]
abbrev r0:Sm:=.ite (.cmp .NotEq (.j7 15 1 gZ (.call 14 [⇑1,⇑3])) (.lst [↥14])) (~~~4) []
abbrev r1:Sm:=.ite (.cmp .NotEq (.j7 15 1 gZ (.call 13 [⇑1,⇑3,⇑2])) (.lst [↥14])) (~~~4) []
abbrev r2:Sm:=.ite (.cmp .NotEq (.j7 15 1 gZ (.call 13 [⇑1,⇑2,⇑3])) (.lst [↥14])) (~~~4) []
abbrev r3:Sm:=.set 5 (.call 17 [⇑0])
abbrev r4:Sm:=.calls 4 (.refs 15 1 gZ [(.call 10 [⇑5,⇑3]),(.call 14 [⇑5,⇑3]),(.call 13 [⇑5,⇑3,⇑3])]) .Eq (.bin .Mult (.lst [(.lst [↥0])]) ↥3) true []
abbrev Xu:Fx:=#[4,6,[r0,r1,r2,r3,r4]]
abbrev s1:Sm:=.set 2 (.call 19 [⇑0,⇑1])
abbrev s2:Sm:=.set 3 (.call 23 [⇑2])
abbrev s3:Sm:=.set 4 (.call 25 [⇑3])
abbrev s4:Sm:=.set 5 (.blt .tuple [(.comp 11 2 (.nm 12) (.bK (.ix ⇑3 ↥0)) none (.call 16 [⇑2,(.bin .Add ↥1 (.call 16 [⇑2,↥4]))]))])
abbrev s5:Sm:=.set 6 (.call 26 [⇑5,(.ix ⇑4 (.call 16 [⇑2,(.blt .len [⇑4])]))])
abbrev yt:List Sm:=[(.set 8 (.call 29 [⇑3,⇑7])),(.ite (.not (.peek (.call 30 [(.call 10 [⇑3,⇑7]),⇑8]))) (~~~4) []),(.ite (.and [(.not ⇑8),(.not (.call 31 [⇑2,⇑3,⇑5,⇑7]))]) (~~~4) [])]
abbrev s6:Sm:=.loop (.nm 7) (.bin .Add (.lst [⇑5]) (.comp 11 2 (.nm 12) (.bK ↥4) none (.call 27 [⇑2,⇑5]))) yt
abbrev yu:List Sm:=[(.set 10 (.ix (.bin .Add (.comp 11 2 (.nm 12) ⇑4 (!(.cmp .Eq (.call 26 [⇑5,⇑12]) ⇑9)) ⇑12) (.lst [(.val .non)])) ↥0)),(.ite (.not (.peek (.call 30 [(.call 13 [⇑3,⇑5,⇑9]),⇑10]))) (~~~4) [])]
abbrev s7:Sm:=.loop (.nm 9) (.lst [⇑6,⇑5,(.call 26 [⇑5,(.call 21 [⇑2,(.ix ⇑3 ↥0)])])]) yu
abbrev s8:Sm:=.ite (.not (.peek (.call 30 [(.call 14 [⇑3,⇑6]),(.blt .min [(.comp 11 2 (.nm 12) ⇑4 none (.call 26 [⇑5,⇑12]))])]))) (~~~4) []
abbrev yw:List Sm:=[s1,s2,s3,s4,s5,s6,s7,s8]
abbrev Yp:Fx:=#[1,11,[(.loop (.nm 1) (.bK (.blt .max [↥1,(.blt .min [(.blt .len [⇑0]),↥4])])) yw),(.ret (.val (.bl true)))]]
abbrev fns:List Fx:=[bG,bN 0,dN 1 3 4,gA 1,rK,aL 2 0,nX,Ah 5 8,fM 6 9,nY,bT 5 1,bS 10 1,fO,aX 11 7 12,dP 11 7 12,Yo,bz,gU 16,nR,mX 18,dZ,iL 16,iM 16 20 21,qR 16 20 21 22,fF,lI 24 20,lJ,Xs,bG,eK 28,eH 30,Xu,Yp]
def c0:fns[0]?=!(bG):=rfl
def c1:fns[1]?=!(bN 0):=rfl
def c2:fns[2]?=!(dN 1 3 4):=rfl
def c3:fns[3]?=!(gA 1):=rfl
def c4:fns[4]?=!(rK):=rfl
def c5:fns[5]?=!(aL 2 0):=rfl
def c6:fns[6]?=!(nX):=rfl
def c7:fns[7]?=!(Ah 5 8):=rfl
def c8:fns[8]?=!(fM 6 9):=rfl
def c9:fns[9]?=!(nY):=rfl
def QJ:fns[10]?=!(bT 5 1):=rfl
def Xv:fns[11]?=!(bS 10 1):=rfl
def c12:fns[12]?=!(fO):=rfl
def c13:fns[13]?=!(aX 11 7 12):=rfl
def c14:fns[14]?=!(dP 11 7 12):=rfl
def c15:fns[15]?=!(Yo):=rfl
def c16:fns[16]?=!(bz):=rfl
def c17:fns[17]?=!(gU 16):=rfl
def c18:fns[18]?=!(nR):=rfl
def c19:fns[19]?=!(mX 18):=rfl
def c20:fns[20]?=!(dZ):=rfl
def c21:fns[21]?=!(iL 16):=rfl
def c22:fns[22]?=!(iM 16 20 21):=rfl
def c23:fns[23]?=!(qR 16 20 21 22):=rfl
def c24:fns[24]?=!(fF):=rfl
def c25:fns[25]?=!(lI 24 20):=rfl
def c26:fns[26]?=!(lJ):=rfl
def c27:fns[27]?=!(Xs):=rfl
def c28:fns[28]?=!(bG):=rfl
def c29:fns[29]?=!(eK 28):=rfl
def Yq:fns[30]?=!(eH 30):=rfl
def c31:fns[31]?=!(Xu):=rfl
end aZ
namespace Ev
def n5(m:Nat):∀(s:Nat) (r: ~~~0),r.length=s->r.Nodup->(∀x∈r,x∈nums m)->r∈bh m s
 | 0,r,h,_,_=>by
  rw[List.length_eq_zero_iff.mp h];show Cf []
 |s+1,r,h,hn,hm=>by
  obtain⟨a,x,rfl⟩:∃a x,r=a++[x]:=#[r.dropLast,r.getLast (by rintro rfl;symm),(List.dropLast_concat_getLast _).symm]
  rw[eP,t6]at h;rw[w8]at hn;delta bh ext;rw[List.mem_flatMap];apply#[a,n5 m s a ⋯ hn.1 λy hy=>hm y (y0 _ hy),?_]
  rw[gN];apply#[x,i5.mpr #[hm x (i8 _ (Cf x)),?_],rfl];rw[CL,decide_eq_false_iff_not];show λhx=>hn.2.2 x hx x (Cf x) rfl
def yx(h:Tn m t):t∈turnsOf m:=n5 m m t h.length h.nodup λx hx=>eF.mpr (h.mem.mp hx)
def Aj(h:x∈t):gt t (t.idxOf x:Nat)=x:=by have hl:=yY.mpr h;delta gt;rw[w9,gL,lS hl];show List.getElem_idxOf hl
def Tn.then(ht:Tn m t)(hu:Tn m u):Tn m (t.map (gt u)):=by apply Tn.of ?_;have h1:(t.map (gt u)).Perm ((nums m).map (gt u)):=ht.perm.map _;rw[ve hu.length]at h1;show h1.trans hu.perm
def oY(hm:1<=m/\m<=6):t∈led m ah m ah ↔ Tn m t/\tw t ah=ah:=by
 constructor
 . intro h;show#[d7 hm h,(mI (i5.mp h).2).2]
 . intro h;show i5.mpr #[yx h.1,oC #[rfl,h.2]]
def gt_then{m:Nat}{s t: ~~~0}(hs:Tn m s){i:Int}(hi:0<=i/\i<m):gt (s.map (gt t)) i=gt t (gt s i):=by
 have hl:=hs.length;have hi':i.toNat<s.length:=by lia
 delta gt;simp[hi']
def Xw(ht:Tn m t):Tn m (inv m t)/\∀i:Int,0<=i/\i<m->gt (inv m t) (gt t i)=i:=by
 have hl:=ht.length;have idx:∀i:Int,0<=i/\i<m->(t.idxOf (gt t i):Int)=i:=λi hi=>by
  have hx:gt t i∈t:=ht.mem.mpr (ht.iG hi);have:=yY.mpr hx;show ht.inj ⋯ hi (Aj hx)
 have g:∀x:Int,0<=x/\x<m->gt (inv m t) x=(t.idxOf x:Nat):=λx h=>by
  have:x.toNat<m:=by lia
  delta gt inv;simp[this];rw[show max x 0=x by lia]
 have im:inv m t=(nums m).map λx=>(t.idxOf x:Int):=by delta inv nums;rw[List.map_map];rfl
 apply#[?_,λi hi=>by rw[g _ (ht.iG hi)];show idx i hi]
 apply Tn.of ?_;have h1:(t.map λx=>(t.idxOf x:Int)).Perm ((nums m).map λx=>(t.idxOf x:Int)):=ht.perm.map _
 rw[<- im]at h1;have h2:(t.map λx=>(t.idxOf x:Int))=nums m:=by
  conv=>lhs;arg 2;rw[<- ve hl]
  rw[List.map_map]
  conv=>rhs;rw[<- List.map_id (nums m)]
  apply nE λx hx=>?_
  show idx x (eF.mp hx)
 rw[h2]at h1;show h1.symm
def K9(hm:1<=m/\m<=6)(h:Wb m ah)(hs:s∈led m ah m ah)(ht:t∈led m ah m ah):s.map (gt t)∈led m ah m ah:=by
 rw[oY hm]at hs ht ⊢
 apply#[hs.1.then ht.1,?_]
 rw[<- Kz h hs.1 ht.1,hs.2,ht.2]
def La{m:Nat}(hm:1<=m/\m<=6){ah: ~~~5}(h:Wb m ah){s u: ~~~0}(hs:s∈led m ah m ah)(hu:u∈led m ah m ah):∃t∈led m ah m ah,s.map (gt t)=u:=by
 rw[oY hm]at hs hu;let(hv,XX):=Xw hs.1;have e1:tw (inv m s) ah=ah:=by
  conv=>lhs;arg 2;rw[<- hs.2]
  rw[Kz h hs.1 hv];show RM h λi hi=>by rw[gt_then hs.1 hi];show XX i hi
 apply#[(inv m s).map (gt u),(oY hm).mpr #[hv.then hu.1,by rw[<- Kz h hv hu.1,e1,hu.2]],?_]
 have hl:=hs.1.length;have hul:=hu.1.length
 conv=>rhs;rw[<- ve hul]
 conv=>lhs;arg 2;rw[<- ve hl]
 rw[List.map_map];apply nE λi hi=>?_
 have hi:=eF.mp hi;exact gt ((inv m s).map (gt u)) (gt s i)=gt u i;rw[gt_then hv (hs.1.iG hi),XX i hi]
def Xx(hm:1<=m/\m<=6)(h:Wb m ah):nums m∈led m ah m ah:=by
 apply (oY hm).mpr #[Tn.of (xI _),RM h λi hi=>?_]
 have:i.toNat<m:=by lia
 delta gt nums;simp[this];lia
def Xy{m:Nat}{a s: ~~~0}{y:Int}(h:0<=y/\y<m):gt (mon m a s) y=gt a (s.idxOf y:Nat):=by
 have hy:y.toNat<m:=by lia
 delta mon nums
 conv=>lhs;unfold gt
 simp[hy];rw[show max y 0=y by lia]
 simp[gt]
def CP{m:Nat}{a s t: ~~~0}(hs:Tn m s)(ht:Tn m t):mon m (mon m a s) t=mon m a (s.map (gt t)):=by
 exact (nums m).map (λx=>gt (mon m a s) (t.idxOf x:Nat))=(nums m).map λx=>gt a ((s.map (gt t)).idxOf x:Nat)
 apply nE λx hx=>?_
 have hx:=eF.mp hx;have hsl:=hs.length;have htl:=ht.length;have m1:=ht.mem.mpr hx;have l1:=yY.mpr m1;have m2:((t.idxOf x:Nat):Int)∈s:=hs.mem.mpr ⋯;have l2:=yY.mpr m2;have e:gt (s.map (gt t)) ((s.idxOf ((t.idxOf x:Nat):Int):Nat):Int)=x:=by rw[gt_then hs ⋯,Aj m2,Aj m1]
 have e2:=K5 (hs.then ht) (j:=s.idxOf ((t.idxOf x:Nat):Int)) ⋯
 rw[e]at e2;rw[Xy ⋯,e2]
def Mk.mon(h:Mk m a)(ht:Tn m t):Mk m (mon m a t):=by
 have ha:=h.length;have htl:=ht.length;have h0:(decide ((a.map D.int).length=m)&&(a.map D.int).all (mY 0 3))=true:=h;rw[eQ]at h0;exact (decide (((Ev.mon m a t).map D.int).length=m)&&((Ev.mon m a t).map D.int).all (mY 0 3))=true;rw[eQ,l8,eJ];apply#[vq m a t,l4.mpr λy hy=>?_]
 let(z,hz,rfl):=gN.mp hy;let(x,hx,rfl):=gN.mp hz;have l1:=yY.mpr (ht.mem.mpr (eF.mp hx));apply l4.mp h0.2 _ (sK ?_);delta gt;rw[w9,gL,lS ⋯];show AQ _
def lN:∀(l: ~~~5) (n: ~~~0),fV n l∈n::l
 | [],n=>dC
 |x::l,n=>by
  have ih:=lN l (if HT.lexLt x n then x else n)
  exact fV (if HT.lexLt x n then x else n) l∈_
  rcases dS.mp ih with e |e
  .
   rw[e];split
   . show bP _ dC
   . show dC
  . show bP _ (bP _ e)
def lO{α:Type}{O:j5 α}{a b c:α}(h1:O.le a b)(h2:O.le b c):O.le a c:=by
 exact O.lt c a=false;cases e:O.lt c a with
 |false=>rfl
 |true=>
  have h2':O.lt c b=false:=h2;cases e2:O.lt a b with
  |true=>rw[O.tr _ _ _ e e2]at h2';cases h2'
  |false=>rw[<- O.tot a b e2 h1,e]at h2';cases h2'
def vD:∀(l: ~~~5) (n: ~~~0),∀y∈n::l,bW.le (fV n l) y
 | [],n,y,hy=>by
  cases fR.mp hy;show bW.irr _
 |x::l,n,y,hy=>by
  have ih:=vD l (if HT.lexLt x n then x else n)
  exact bW.le (fV (if HT.lexLt x n then x else n) l) y
  have hd:=ih _ dC;rcases dS.mp hy with rfl |hy
  .
   by_cases c:HT.lexLt x y=true
   .
    rw[i7 c]at hd ⊢
    apply lO hd ?_;exact bW.lt y x=false;cases e:bW.lt y x with
    |false=>rfl
    |true=>show absurd (bW.tr _ _ _ e c) (by rw[bW.irr];show tJ)
   .
    rw[lL c]at hd ⊢
    show hd
  .
   rcases dS.mp hy with rfl |hy
   .
    by_cases c:HT.lexLt y n=true
    .
     rw[i7 c]at hd ⊢
     show hd
    .
     rw[lL c]at hd ⊢
     show lO hd (show bW.lt y n=false from CD.mpr c)
   . show ih y (bP _ hy)
def FW(h:∀z,z∈x::l ↔ z∈y::k):fV x l=fV y k:=
 bW.tot _ _ (vD k y _ ((h _).mp (lN l x))) (vD l x _ ((h _).mpr (lN k y)))
def QK(hm:1<=m/\m<=6)(h:Wb m ah)(hs:s∈led m ah m ah)(z: ~~~0):z∈(led m ah m ah).map (mon m (mon m a s)) ↔ z∈(led m ah m ah).map (mon m a):=by
 rw[gN,gN];constructor
 . rintro⟨t,ht,rfl⟩;show#[_,K9 hm h hs ht,(CP (d7 hm hs) (d7 hm ht)).symm]
 . rintro⟨u,hu,rfl⟩;let(t,ht,e):=La hm h hs hu;show#[t,ht,by rw[CP (d7 hm hs) (d7 hm ht),e]]
end Ev
namespace aZ
open Ev
section
variable{k n:Nat}{g g1:G}{rn:Nat->Rn}(U:jj fns rn)
include U
def Lb(t: ~~~0)(ht:t.length<=6)(hi:g[i]?=!(St s fl)):∃(d:D) (s':Int),yc d/\aR (rn (n+60)) Xs (k+1) [.var i,.dat (~~~t)] g=!(.dat d,g.set i (St s' fl)):=by
 have hml:(t.map D.int).length=t.length:=eJ _;let(p,s1,p1,p2,q1):=bM U (n:=n+38) (k:=k) (g:=[St s fl,.dat (~~~t),.no,.no,.no]) (i:=0) (s:=s) (fl:=fl) (m:=(t.length:Int)+1) rfl ⋯;have qZ:aR (rn (n+58)) bz k [.var 0,.dat (.int ((t.length:Int)+1))] [St s fl,.dat (~~~t),.no,.no,.no]=!(‹p›,[St s1 fl,.dat (~~~t),.no,.no,.no]):=q1;obtain⟨pn,rfl⟩:∃pn:Nat,p=pn:=#[p.toNat,by lia]
 have e1:aF (rn (n+59)) [0] (k+1) b0 [St s fl,.dat (~~~t),.no,.no,.no]=!(.nx,[St s1 fl,.dat (~~~t),‹pn›,.no,.no]):=by delta b0;simp! [U,c16,qZ]
 let(r,s3,r1,r2,q3):=bM U (n:=n+37) (k:=k) (g:=[St s1 fl,.dat (~~~t),‹pn›,.no,.no]) (i:=0) (s:=s1) (fl:=fl) (m:=10) rfl ⋯;have DP:aR (rn (n+57)) bz k [.var 0,‹10›] [St s1 fl,.dat (~~~t),‹pn›,.no,.no]=!(‹r›,[St s3 fl,.dat (~~~t),‹pn›,.no,.no]):=q3;let(o,ho,eo):=oU (l:=[D.int 4,.int (-1),.bl true,.non,.str (PySem.Str.ofString "0"),.tup [.int 0],.int 3,.bl false,.int 100000000000000000000000000000,.int 1]) (r:=r) #[r1,r2];have e2:aF (rn (n+59)) [0] (k+1) b1 [St s1 fl,.dat (~~~t),‹pn›,.no,.no]=!(.nx,[St s3 fl,.dat (~~~t),‹pn›,.dat o,.no]):=by delta b1;simp! [U,c16,DP,KJ,aq 1 ⋯,aq 10 ⋯,eo]
 generalize hA:j4 (t.map D.int) none (!(pn:Int))=A;generalize hB:j4 (t.map D.int) (!((pn:Int)+1)) none=B;generalize hC:j4 (t.map D.int) (!(pn:Int)) none=C;have pA:A.length<=6:=by rw[<- hA];show i9 (qT _ _ _) ⋯
 have pB:B.length<=6:=by rw[<- hB];show i9 (qT _ _ _) ⋯
 have pC:C.length<=6:=by rw[<- hC];show i9 (qT _ _ _) ⋯
 have pO:(A++[o]).length<=7:=by simp;lia
 have e3:aF (rn (n+59)) [0] (k+1) b2 [St s3 fl,.dat (~~~t),‹pn›,.dat o,.no]=!(.nx,[St s3 fl,.dat (~~~t),‹pn›,.dat o,.own [D.tup (A++[o]++B),.tup (A++[o]++C),.tup (A++B)]]):=by delta b2;simp! [U,Cb,hA,hB,hC,lF A [o] (by simp;lia),lF (A++[o]) B ⋯,lF (A++[o]) C ⋯,lF A B ⋯,aq 1 ⋯,aq 3 ⋯]
 generalize hZ:[D.tup (A++[o]++B),.tup (A++[o]++C),.tup (A++B)]=Z at e3;have zl:Z.length=3:=by rw[<- hZ];rfl
 generalize hY:[D.lst (t.map D.int),.tup (t.map D.int).reverse,.non,.emp,.int 0,.tup [],.tup (t.map D.int++t.map D.int)]=Y;have yl:Y.length=7:=by rw[<- hY];rfl
 have e4:aF (rn (n+59)) [0] (k+1) b3 [St s3 fl,.dat (~~~t),‹pn›,.dat o,.own Z]=!(.nx,[St s3 fl,.dat (~~~t),‹pn›,.dat o,.own (Z++Y)]):=by delta b3;simp! [U,aq 7 ⋯,aq 0 ⋯,lF (t.map D.int) (t.map D.int) ⋯,hY,aq Y.length ⋯,lG Z Y ⋯]
 let(r',s4,w1,w2,q4):=bM U (n:=n+36) (k:=k) (g:=[St s3 fl,.dat (~~~t),‹pn›,.dat o,.own (Z++Y)]) (i:=0) (s:=s3) (fl:=fl) (m:=12) rfl ⋯;have W6:aR (rn (n+56)) bz k [.var 0,‹12›] [St s3 fl,.dat (~~~t),‹pn›,.dat o,.own (Z++Y)]=!(‹r'›,[St s4 fl,.dat (~~~t),‹pn›,.dat o,.own (Z++Y)]):=q4;let(v,hv,ev1):=Cz (l:=[D.int 0,.int 0,.int 0,.int 1,.int 2,.int 3,.int 4,.int 5,.int 6,.int 7,.int 8,.int 9]) (lo:=0) (hi:=9) #[w1,w2] rfl;let(d,hd,ed):=oU (l:=Z++Y) (r:=v) #[hv.1,by rw[eP,zl,yl];lia]
 have e5:aF (rn (n+59)) [0] (k+1) b4 [St s3 fl,.dat (~~~t),‹pn›,.dat o,.own (Z++Y)]=!(.rt (.dat d),[St s4 fl,.dat (~~~t),‹pn›,.dat o,.own (Z++Y)]):=by delta b4;simp! [U,c16,W6,aq 12 ⋯,ev1,ed]
 have hf:yc d:=by
  rw[<- hZ,<- hY]at hd;simp only[tP,dS,l9,A7]at hd;rcases hd with (rfl |rfl |rfl) | (rfl |rfl |rfl |rfl |rfl |rfl |rfl)
  . exact (A++[o]++B).length<=40;rw[eP];lia
  . exact (A++[o]++C).length<=40;rw[eP];lia
  . exact (A++B).length<=40;rw[eP];lia
  . trivial
  . exact (t.map D.int).reverse.length<=40;rw[BE];lia
  . trivial
  . trivial
  . trivial
  . show wT _
  . exact (t.map D.int++t.map D.int).length<=40;rw[eP];lia
 apply#[d,s4,hf,?_];have hp:dG Xs.n [St s fl,.dat (~~~t)]=[St s fl,.dat (~~~t),.no,.no,.no]:=rfl;have body:(rn (n+60)).b [0] (k+1) Xs.body [St s fl,.dat (~~~t),.no,.no,.no]=!(.rt (.dat d),[St s4 fl,.dat (~~~t),‹pn›,.dat o,.own (Z++Y)]):=by delta Xs;rw[U.b,aB e1,aB e2,aB e3,aB e4];delta cM;rw[e5]
 delta aR;simp only[vars,cL,hi,List.map_cons,List.map_nil];rw[i7 #[rfl,by simp],hp,body]
 rfl
end
end aZ
namespace aZ
open Ev
abbrev Lc(rn:Rn)(k:Nat)(C:Nat)(c:Int):Prop:=∃r g3,rn.b [] k (Yo.body.drop 2) ((List.replicate Yo.n .no).set 1 (.dat (.nq C)))=!(.rt r,g3)/\dF [] g3 r=!(.new [.int c])
structure Fk(rn:Nat->Rn)(n k:Nat):Prop where
 bd1:∀d∈fP,iK (rn (n+121)) (k+8) (aL 2 0) [d]=!0
 bd2:∀d∈fP,iK (rn (n+115)) (k+6) (aL 2 0) [d]=!0
 a0:Lc (rn (n+124)) (k+10) 37 0
 a1:Lc (rn (n+123)) (k+10) 157 14
section
variable{k n:Nat}{g g1:G}{rn:Nat->Rn}(U:jj fns rn)(F:Fk rn n k)
include U
omit U in
def vE{rn:Rn}{k:Nat}{e:Ex}{g g':G}{ci C:Nat}{c:Int}(hx:rn.x [] k e (g.map noOwn)=!(ci,g'))(hc:gZ[ci]?=!C)(hr:Lc rn k C c):JW rn (k+2) fns 15 1 gZ e g=!(.lst [.int c]):=by let(r,g3,h1,h2):=hr;delta JW;simp only[c15,hx,hc,h1,h2];rfl
def QL(hx:(rn L).x [] (k+10) e (g.map noOwn)=!(ci,g'))(hc:gZ[ci]?=!C)(hr:Lc (rn L) (k+10) C c):(rn (L+1)).e bor (k+12) (.j7 15 1 gZ e) g=!(.new [.int c],g):=by let(r,g3,h1,h2):=hr;rw[U.e];simp only[bq,c15,hx,hc,h1,h2]
include F
def z10(b d:D)(hb:b∈fP):iK (rn (n+123)) (k+9) (bT 5 1) [b,d]=!0:=by have y:=F.bd1 b hb;delta iK bT;simp! [U,c5,iF (fx:=aL 2 0) rfl,y]
def z14(b d:D)(hb:b∈fP):iK (rn (n+123)) (k+9) (dP 11 7 12) [b,d]=!0:=by have y:=F.bd2 b hb;delta iK dP;simp! [U,Xv,cV (fx:=bS 10 1) rfl];delta iK bS;simp! [U,QJ,cV (fx:=bT 5 1) rfl];delta iK bT;simp! [U,c5,iF (fx:=aL 2 0) rfl,y]
def z13(b d e:D)(hb:b∈fP):iK (rn (n+123)) (k+9) (aX 11 7 12) [b,d,e]=!0:=by have y:=F.bd2 b hb;delta iK aX;simp! [U,Xv,cV (fx:=bS 10 1) rfl];delta iK bS;simp! [U,QJ,cV (fx:=bT 5 1) rfl];delta iK bT;simp! [U,c5,iF (fx:=aL 2 0) rfl,y]
def Ak(x0:(rn (n+123)).x [] (k+10) e (GG.map noOwn)=!(1,g')):aF (rn (n+125)) [0] (k+12) (.ite (.cmp .NotEq (.j7 15 1 gZ e) (.lst [↥14])) (~~~4) []) GG=!(.nx,GG):=by
 have r0:(rn (n+124)).e [0] (k+12) (.j7 15 1 gZ e) GG=!(.new [.int 14],GG):=QL U (L:=n+123) (k:=k) x0 rfl F.a1;have l0:(rn (n+124)).e [0] (k+12) (.lst [↥14]) GG=!(.new [.int 14],GG):=by simp! [U,aq 1 ⋯]
 have b0:(rn (n+125)).b [0] (k+12) [] GG=!(.nx,GG):=by rw[U.b];rfl
 have t0:(rn (n+125)).t [0] (k+12) (.cmp .NotEq (.j7 15 1 gZ e) (.lst [↥14])) GG=!(false,GG):=by
  rw[U.t];have cm:fS .NotEq (.lst [.int 14]) (.lst [.int 14])=!false:=by simp[fS,iQ,cH,dD,jD,ig,dep,deps]
  simp only[stepT,argsR,r0,l0,norm,pk,cm]
 simp only[aF,t0,b0]
def refusals{i:Nat}{s:Int}{fl:Bool}(m:Nat)(hm:1<=m/\m<=6)(ah: ~~~5)(h:Wb m ah)(a: ~~~0)(ha:Mk m a)(d:D)(hd:yc d)(hk:kF m d=false)(hi:g[i]?=!(St s fl)):∃s',aR (rn (n+126)) Xu (k+12) [.var i,.dat (W m ah),.dat (~~~a),.dat d] g=!(.dat (.bl true),g.set i (St s' fl)):=by
 have y1:=λn k=>K8 U c0 c1 c3 c4 c2 c5 QJ Xv (ow:=7) (mo:=12) (n:=n) (k:=k) m ah hm h d hd hk
 have y2:=λn k=>yp U c0 c1 c3 c4 c2 c5 QJ Xv (ow:=7) (mo:=12) (n:=n) (k:=k) m ah hm h d (~~~a) hd hk
 have y3:=λn k=>vB U c0 c1 c3 c4 c2 c5 QJ Xv (ow:=7) (mo:=12) (n:=n) (k:=k) m ah hm h (~~~a) d (ha.few hm.2) ha hd hk
 have nz:List.map noOwn [St s fl,.dat (W m ah),.dat (~~~a),.dat d,.no,.no]=[.no,.dat (W m ah),.dat (~~~a),.dat d,.no,.no]:=rfl;have e0:aF (rn (n+125)) [0] (k+12) r0 [St s fl,.dat (W m ah),.dat (~~~a),.dat d,.no,.no]=!(.nx,[St s fl,.dat (W m ah),.dat (~~~a),.dat d,.no,.no]):=Ak U F (g':=[.no,.dat (W m ah),.dat (~~~a),.dat d,.no,.no]) (by
  rw[nz];simp! [U,c14,cV (fx:=dP 11 7 12) rfl,y1])
 have e1:aF (rn (n+125)) [0] (k+12) r1 [St s fl,.dat (W m ah),.dat (~~~a),.dat d,.no,.no]=!(.nx,[St s fl,.dat (W m ah),.dat (~~~a),.dat d,.no,.no]):=Ak U F (g':=[.no,.dat (W m ah),.dat (~~~a),.dat d,.no,.no]) (by
  rw[nz];simp! [U,c13,vd (fx:=aX 11 7 12) rfl,y2])
 have e2:aF (rn (n+125)) [0] (k+12) r2 [St s fl,.dat (W m ah),.dat (~~~a),.dat d,.no,.no]=!(.nx,[St s fl,.dat (W m ah),.dat (~~~a),.dat d,.no,.no]):=Ak U F (g':=[.no,.dat (W m ah),.dat (~~~a),.dat d,.no,.no]) (by
  rw[nz];simp! [U,c13,vd (fx:=aX 11 7 12) rfl,y3])
 let(b,s1,hb,q1):=QH U c16 (n:=n+64) (k:=k+10) (g:=[St s fl,.dat (W m ah),.dat (~~~a),.dat d,.no,.no]) (i:=0) (s:=s) (fl:=fl) rfl;have qZ:aR (rn (n+124)) (gU 16) (k+11) [.var 0] [St s fl,.dat (W m ah),.dat (~~~a),.dat d,.no,.no]=!(.dat b,[St s1 fl,.dat (W m ah),.dat (~~~a),.dat d,.no,.no]):=q1;have e3:aF (rn (n+125)) [0] (k+12) r3 [St s fl,.dat (W m ah),.dat (~~~a),.dat d,.no,.no]=!(.nx,[St s1 fl,.dat (W m ah),.dat (~~~a),.dat d,.no,.dat b]):=by delta r3;simp! [U,c17,qZ]
 have nz2:List.map noOwn [St s1 fl,.dat (W m ah),.dat (~~~a),.dat d,.no,.dat b]=[.no,.dat (W m ah),.dat (~~~a),.dat d,.no,.dat b]:=rfl;generalize hG:[St s1 fl,.dat (W m ah),.dat (~~~a),.dat d,.no,.dat b]=GG at nz2 e3;have g4:GG[4]?=some .no:=by rw[<- hG];rfl
 have w1:(rn (n+124)).x [] (k+10) (.call 10 [⇑5,⇑3]) (GG.map noOwn)=!(0,[.no,.dat (W m ah),.dat (~~~a),.dat d,.no,.dat b]):=by rw[nz2];simp! [U,QJ,cV (fx:=bT 5 1) rfl,z10 U F b d hb]
 have w2:(rn (n+124)).x [] (k+10) (.call 14 [⇑5,⇑3]) (GG.map noOwn)=!(0,[.no,.dat (W m ah),.dat (~~~a),.dat d,.no,.dat b]):=by rw[nz2];simp! [U,c14,cV (fx:=dP 11 7 12) rfl,z14 U F b d hb]
 have w3:(rn (n+124)).x [] (k+10) (.call 13 [⇑5,⇑3,⇑3]) (GG.map noOwn)=!(0,[.no,.dat (W m ah),.dat (~~~a),.dat d,.no,.dat b]):=by rw[nz2];simp! [U,c13,vd (fx:=aX 11 7 12) rfl,z13 U F b d d hb]
 have hc0:gZ[0]?=!37:=rfl;have rs:(rn (n+125)).e [0] (k+12) (.refs 15 1 gZ [(.call 10 [⇑5,⇑3]),(.call 14 [⇑5,⇑3]),(.call 13 [⇑5,⇑3,⇑3])]) GG=!(.new [.lst [.int 0],.lst [.int 0],.lst [.int 0]],GG):=by rw[U.e];simp only[bq,xu,vE w1 hc0 F.a0,vE w2 hc0 F.a0,vE w3 hc0 F.a0]
 have rt:(rn (n+125)).e [0] (k+12) (.bin .Mult (.lst [(.lst [↥0])]) ↥3) GG=!(.new [.lst [.int 0],.lst [.int 0],.lst [.int 0]],GG):=by have o:mO .Mult (.lst [.lst [.int 0]]) (.int 3)=!(.new [.lst [.int 0],.lst [.int 0],.lst [.int 0]]):=rfl;simp! [U,aq 1 ⋯,o]
 have cm:fS .Eq (.lst [.lst [.int 0],.lst [.int 0],.lst [.int 0]]) (.lst [.lst [.int 0],.lst [.int 0],.lst [.int 0]])=!true:=by simp[fS,iQ,cH,dD,jD,ig,dep,deps]
 apply#[s1,?_];have hp:dG Xu.n [St s fl,.dat (W m ah),.dat (~~~a),.dat d]=[St s fl,.dat (W m ah),.dat (~~~a),.dat d,.no,.no]:=rfl;have body:(rn (n+126)).b [0] (k+12) Xu.body [St s fl,.dat (W m ah),.dat (~~~a),.dat d,.no,.no]=!(.rt (.dat (.bl true)),GG):=by delta Xu;rw[U.b,aB e0,aB e1,aB e2,aB e3];delta cM r4 aF;simp only[g4,rs,rt,norm,pk,cm];rfl
 subst hG;delta aR;simp only[vars,cL,hi,List.map_cons,List.map_nil];rw[i7 #[rfl,by simp],hp,body]
 rfl
end
end aZ
namespace aZ
open Ev
abbrev Sm3(d:D):Prop:=∃x:Int,d=.int x/\0<=x/\x<=3
def Ld(ds:List D)(hl:ds.length=m)(h:∀d∈ds,Sm3 d):∃a:List Int,ds=a.map .int/\Mk m a:=by
 have hb:ds.all isInt=true:=l4.mpr λd hd=>by let(x,rfl,_):=h d hd;rfl
 let(a,rfl):=tG hb;apply#[a,rfl,?_];exact (decide ((a.map D.int).length=m)&&(a.map D.int).all (mY 0 3))=true;rw[oC hl,Bool.true_and,l4];intro d hd;let(x,rfl,h1):=h d hd;show oC h1
section
variable{k n:Nat}{g g1:G}{rn:Nat->Rn}(U:jj fns rn)
include U
def s4_ok(A0 A1 a5 a6 a7 a8 a9 a10 A4:Slot)(s:Int)(fl:Bool)(m:Nat)(hm:1<=m/\m<=6)(ah: ~~~5):∃(a: ~~~0) (s':Int),Mk m a/\aF (rn (n+134)) [] (k+13) s4 [A0,A1,St s fl,.dat (W m ah),A4,a5,a6,a7,a8,a9,a10]=!(.nx,[A0,A1,St s' fl,.dat (W m ah),A4,.dat (~~~a),a6,a7,a8,a9,a10]):=by
 have i0:uL (W m ah) (.int 0)=!(.int m):=rfl;let(ds,s3,d1,d2,d3):=tN (rn:=rn (n+132)) (bor:=[]) (k:=k+13) (i:=2) (j:=12) (nn:=11) (kk:=2) (fl:=fl) (it:=.bK (.ix ⇑3 ↥0)) (e:=.call 16 [⇑2,(.bin .Add ↥1 (.call 16 [⇑2,↥4]))]) (P:=Sm3) [A0,A1,St s fl,.dat (W m ah),A4,a5,a6,a7,a8,a9,a10] s rfl (cF 0 m) (by simp! [U,dJ,i0,aV m ⋯]) rfl (show 11<=12 by decide) (show 12<11+2 by decide) ⋯ (aq _ (by simp[cF];lia))
  (λs G' h0 hG=>by
   let(r,s1,r1,r2,q2):=bM U (n:=n+109) (k:=k+12) (g:=G') (i:=2) (s:=s) (fl:=fl) (m:=4) h0 ⋯;have yI:aR (rn (n+129)) bz (k+12) [.var 2,‹4›] G'=!(‹r›,G'.set 2 (St s1 fl)):=q2;have h1:(G'.set 2 (St s1 fl))[2]?=!(St s1 fl):=by rw[fI (dE.mp h0).1]
   let(v,s2,v1,v2,q3):=bM U (n:=n+111) (k:=k+12) (g:=G'.set 2 (St s1 fl)) (i:=2) (s:=s1) (fl:=fl) (m:=1+r) h1 ⋯;have DP:aR (rn (n+131)) bz (k+12) [.var 2,.dat (.int (1+r))] (G'.set 2 (St s1 fl))=!(‹v›,G'.set 2 (St s2 fl)):=by rw[q3,List.set_set]
   apply#[.int v,s2,#[v,rfl,v1,by lia],?_]
   simp! [U,c16,h0,yI,DP])
 have dl:ds.length=m:=by rw[d1];simp[cF]
 let(a,rfl,ha):=Ld ds dl d2;apply#[a,s3,ha,?_];have d3':cz (rn (n+132)) [] (k+13) 11 2 (.nm 12) (.bK (.ix ⇑3 ↥0)) none (.call 16 [⇑2,(.bin .Add ↥1 (.call 16 [⇑2,↥4]))]) [A0,A1,St s fl,.dat (W m ah),A4,a5,a6,a7,a8,a9,a10]=!(a.map .int,[A0,A1,St s3 fl,.dat (W m ah),A4,a5,a6,a7,a8,a9,a10]):=d3;delta s4;simp! [U,d3']
def s5_ok(A0 A1 a6 a7 a8 a9 a10:Slot)(s:Int)(fl:Bool)(m:Nat)(hm:1<=m/\m<=6)(ah: ~~~5)(h:Wb m ah)(a: ~~~0)(ha:Mk m a):∃(u: ~~~0) (s':Int),u∈led m ah m ah/\aF (rn (n+134)) [] (k+13) s5 [A0,A1,St s fl,.dat (W m ah),.own ((led m ah m ah).map λr=>~~~r),.dat (~~~a),a6,a7,a8,a9,a10]=!(.nx,[A0,A1,St s' fl,.dat (W m ah),.own ((led m ah m ah).map λr=>~~~r),.dat (~~~a),.dat (~~~(mon m a u)),a7,a8,a9,a10]):=by
 have hp:0<(led m ah m ah).length:=List.length_pos_of_mem (Xx hm h);have hl:=lK hm ah;let(r,s1,r1,r2,q):=bM U (n:=n+111) (k:=k+12) (g:=[A0,A1,St s fl,.dat (W m ah),.own ((led m ah m ah).map λr=>~~~r),.dat (~~~a),a6,a7,a8,a9,a10]) (i:=2) (s:=s) (fl:=fl) (m:=((led m ah m ah).length:Int)) rfl ⋯
 have q':aR (rn (n+131)) bz (k+12) [.var 2,.dat (.int ((led m ah m ah).length:Int))] [A0,A1,St s fl,.dat (W m ah),.own ((led m ah m ah).map λr=>~~~r),.dat (~~~a),a6,a7,a8,a9,a10]=!(‹r›,[A0,A1,St s1 fl,.dat (W m ah),.own ((led m ah m ah).map λr=>~~~r),.dat (~~~a),a6,a7,a8,a9,a10]):=q
 let(d,hd,ed):=oU (l:=(led m ah m ah).map λr=>~~~r) (r:=r) #[r1,by rw[eJ];show r2]
 let(u,hu,rfl):=gN.mp hd;have q2:=λn k=>oX U (n:=n) (k:=k) m hm.2 a u ha.length (d7 hm hu)
 apply#[u,s1,hu,?_];have ll:((led m ah m ah).map λr=>~~~r).length=(led m ah m ah).length:=eJ _
 generalize hL:((led m ah m ah).map λr=>~~~r)=L at q' ed ll
 rw[<- ll]at q';delta s5;simp! [U,c16,q',ed,c26,aP (fx:=lJ) rfl,q2]
end
end aZ
namespace aZ
open Ev
section
variable{k n:Nat}{g g1:G}{rn:Nat->Rn}(U:jj fns rn)(F:Fk rn (n+3) k)
include U F
def thing(A0 A1 A4 A6 a8 a9 a10:Slot)(s:Int)(fl:Bool)(m:Nat)(hm:1<=m/\m<=6)(ah: ~~~5)(h:Wb m ah)(a: ~~~0)(ha:Mk m a)(d:D)(hd:yc d):∃(s':Int) (b8:Slot),(rn (n+134)).b [] (k+13) yt [A0,A1,St s fl,.dat (W m ah),A4,.dat (~~~a),A6,.dat d,a8,a9,a10]=!(.nx,[A0,A1,St s' fl,.dat (W m ah),A4,.dat (~~~a),A6,.dat d,b8,a9,a10]):=by
 have q1:=λn k=>Ai U c28 (n:=n) (k:=k) m ah d hd
 have q2:=λn k=>oW U c0 c1 c3 c4 c2 c5 (n:=n) (k:=k) m ah hm h d hd
 have q3:=λn k=>oV U Yq 0 n k (.bl (kF m d)) trivial
 simp only[Nat.reduceMul,Nat.add_assoc,Nat.reduceAdd,Nat.add_zero]at q3;generalize hB:kF m d=B at q1 q2 q3;have e1:∀A2,aF (rn (n+133)) [] (k+13) (.set 8 (.call 29 [⇑3,⇑7])) [A0,A1,A2,.dat (W m ah),A4,.dat (~~~a),A6,.dat d,a8,a9,a10]=!(.nx,[A0,A1,A2,.dat (W m ah),A4,.dat (~~~a),A6,.dat d,.dat (.bl B),a9,a10]):=λA2=>by
  simp! [U,c29,aP (fx:=eK 28) rfl,q1]
 have e2:∀A2 A5,aF (rn (n+133)) [] (k+13) (.ite (.not (.peek (.call 30 [(.call 10 [⇑3,⇑7]),⇑8]))) (~~~4) []) [A0,A1,A2,.dat (W m ah),A4,A5,A6,.dat d,.dat (.bl B),a9,a10]=!(.nx,[A0,A1,A2,.dat (W m ah),A4,A5,A6,.dat d,.dat (.bl B),a9,a10]):=λA2 A5=>by
  have hz:List.map fT [A0,A1,A2,.dat (W m ah),A4,A5,A6,.dat d,.dat (.bl B),a9,a10]=[fT A0,fT A1,fT A2,.dat (W m ah),fT A4,fT A5,fT A6,.dat d,.dat (.bl B),fT a9,fT a10]:=rfl;simp! [U,hz,QJ,aP (fx:=bT 5 1) rfl,q2,Yq,aP (fx:=eH 30) rfl,q3,flat]
 cases B with
 |true=>
  apply#[s,.dat (.bl true),?_];have e3:∀A2 A5,aF (rn (n+133)) [] (k+13) (.ite (.and [(.not ⇑8),(.not (.call 31 [⇑2,⇑3,⇑5,⇑7]))]) (~~~4) []) [A0,A1,A2,.dat (W m ah),A4,A5,A6,.dat d,.dat (.bl true),a9,a10]=!(.nx,[A0,A1,A2,.dat (W m ah),A4,A5,A6,.dat d,.dat (.bl true),a9,a10]):=λA2 A5=>by
   simp! [U,U.e]
  delta yt;rw[U.b,aB (e1 _),aB (e2 _ _),aB (e3 _ _)];rfl
 |false=>
  let(s1,q4):=refusals U F (g:=[A0,A1,St s fl,.dat (W m ah),A4,.dat (~~~a),A6,.dat d,.dat (.bl false),a9,a10]) (i:=2) (s:=s) (fl:=fl) m hm ah h a ha d hd hB rfl;have W6:aR (rn (n+129)) Xu (k+12) [.var 2,.dat (W m ah),.dat (~~~a),.dat d] [A0,A1,St s fl,.dat (W m ah),A4,.dat (~~~a),A6,.dat d,.dat (.bl false),a9,a10]=!(.dat (.bl true),[A0,A1,St s1 fl,.dat (W m ah),A4,.dat (~~~a),A6,.dat d,.dat (.bl false),a9,a10]):=q4;have e3:aF (rn (n+133)) [] (k+13) (.ite (.and [(.not ⇑8),(.not (.call 31 [⇑2,⇑3,⇑5,⇑7]))]) (~~~4) []) [A0,A1,St s fl,.dat (W m ah),A4,.dat (~~~a),A6,.dat d,.dat (.bl false),a9,a10]=!(.nx,[A0,A1,St s1 fl,.dat (W m ah),A4,.dat (~~~a),A6,.dat d,.dat (.bl false),a9,a10]):=by simp! [U,c31,W6]
  apply#[s1,.dat (.bl false),?_];delta yt;rw[U.b,aB (e1 _),aB (e2 _ _),aB e3];rfl
omit U F in
def hd_sd(hm:m<=6):∀(l: ~~~5),(∀t∈l,t.length=m)->Sd 1 (hdD l)
 | [],_=>trivial
 |t::l,h=>#[by rw[eJ,h t dC];lia,λx hx=>by let(i,_,rfl):=gN.mp hx;trivial]
omit F in
def later(A0 A1 A2 A4 A6 a7 a8 a10:Slot)(m:Nat)(hm:1<=m/\m<=6)(ah: ~~~5)(h:Wb m ah)(a b: ~~~0)(ha:Mk m a)(hb:Mk m b)(hA4:A4=.own ((led m ah m ah).map λr=>~~~r)\/A4=.dat (.lst ((led m ah m ah).map λr=>~~~r))):∃(rM:Slot),(rn (n+134)).b [] (k+13) yu [A0,A1,A2,.dat (W m ah),A4,.dat (~~~a),A6,a7,a8,.dat (~~~b),a10]=!(.nx,[A0,A1,A2,.dat (W m ah),.dat (.lst ((led m ah m ah).map λr=>~~~r)),.dat (~~~a),A6,a7,a8,.dat (~~~b),rM]):=by
 have hl:=lK hm ah;have o:∀n k,cz (rn (n+100)) [] (k+9) 11 2 (.nm 12) ⇑4 (!(.cmp .Eq (.call 26 [⇑5,⇑12]) ⇑9)) ⇑12 [A0,A1,A2,.dat (W m ah),A4,.dat (~~~a),A6,a7,a8,.dat (~~~b),a10]=!(((led m ah m ah).filter λt=>decide (mon m a t=b)).map λr=>~~~r,[A0,A1,A2,.dat (W m ah),.dat (.lst ((led m ah m ah).map λr=>~~~r)),.dat (~~~a),A6,a7,a8,.dat (~~~b),a10]):=λn k=>by
  have:=sZ (rn:=rn (n+100)) (bor:=[]) (k:=k+9) (g:=[A0,A1,A2,.dat (W m ah),A4,.dat (~~~a),A6,a7,a8,.dat (~~~b),a10]) (g1:=[A0,A1,A2,.dat (W m ah),.dat (.lst ((led m ah m ah).map λr=>~~~r)),.dat (~~~a),A6,a7,a8,.dat (~~~b),a10]) (kk:=2) (nn:=11) (j:=12) (it:=.slot 4) (c:=!(.cmp .Eq (.call 26 [⇑5,⇑12]) ⇑9)) (e:=.slot 12) (led m ah m ah) (λr=>~~~r) (λt=>decide (mon m a t=b)) (λr=>~~~r) (by rcases hA4 with rfl |rfl <;> simp! [U,dJ]) rfl ⋯ ⋯ ⋯ (aq _ ⋯) (λt ht G' hG=>by
   have h5:G'[5]?=!(.dat (~~~a)):=hG.1 5 ⋯;have h9:G'[9]?=!(.dat (~~~b)):=hG.1 9 ⋯;have h2:=hG.2;have q4:=λn k=>oX U (n:=n) (k:=k) m hm.2 a t ha.length (d7 hm ht)
   simp! [U,qw,h5,h2,h9,c26,aP (fx:=lJ) rfl,q4]) (λt ht _ G' hG=>by
   have h2:=hG.2;simp! [U,h2])
  show this
 have q1:=λn k=>vC U c0 c1 c3 c4 c2 c5 QJ Xv c12 c6 c9 c8 c7 (n:=n) (k:=k) m ah hm h a b ha hb
 have fl:=i9 (t8 (λt=>decide (mon m a t=b)) (led m ah m ah)) hl
 have sd:=hd_sd hm.2 ((led m ah m ah).filter λt=>decide (mon m a t=b)) λt ht=>(d7 hm (i5.mp ht).1).length
 generalize hZ:((led m ah m ah).filter λt=>decide (mon m a t=b))=Z at o q1 sd fl
 have ad:=lG (Z.map λr=>~~~r) [D.non] (by simp;lia)
 have hd0:L2.gD ((Z.map λr=>~~~r)++[D.non]) 0=!(hdD Z):=by
  cases Z with
  |nil=>rfl
  |cons t l=>simp[L2.gD,L2.uf,hdD];rw[i7 ⋯];rfl
 have q3:=λn k=>oV U Yq 1 n k _ sd
 simp only[Nat.reduceMul,Nat.add_assoc,Nat.reduceAdd]at q3;generalize hdD Z=dd at q1 q3 hd0;generalize Z.map (λr=>~~~r)=ZZ at o ad hd0
 have e1:aF (rn (n+133)) [] (k+13) (.set 10 (.ix (.bin .Add (.comp 11 2 (.nm 12) ⇑4 (!(.cmp .Eq (.call 26 [⇑5,⇑12]) ⇑9)) ⇑12) (.lst [(.val .non)])) ↥0)) [A0,A1,A2,.dat (W m ah),A4,.dat (~~~a),A6,a7,a8,.dat (~~~b),a10]=!(.nx,[A0,A1,A2,.dat (W m ah),.dat (.lst ((led m ah m ah).map λr=>~~~r)),.dat (~~~a),A6,a7,a8,.dat (~~~b),.dat dd]):=by simp! [U,o,aq 1 ⋯,ad,hd0]
 have e2:∀A4,aF (rn (n+133)) [] (k+13) (.ite (.not (.peek (.call 30 [(.call 13 [⇑3,⇑5,⇑9]),⇑10]))) (~~~4) []) [A0,A1,A2,.dat (W m ah),A4,.dat (~~~a),A6,a7,a8,.dat (~~~b),.dat dd]=!(.nx,[A0,A1,A2,.dat (W m ah),A4,.dat (~~~a),A6,a7,a8,.dat (~~~b),.dat dd]):=λA4=>by
  have hz:List.map fT [A0,A1,A2,.dat (W m ah),A4,.dat (~~~a),A6,a7,a8,.dat (~~~b),.dat dd]=[fT A0,fT A1,fT A2,.dat (W m ah),fT A4,.dat (~~~a),fT A6,fT a7,fT a8,.dat (~~~b),.dat dd]:=rfl;simp! [U,hz,c13,lD (fx:=aX 11 7 12) rfl,q1,Yq,aP (fx:=eH 30) rfl,q3,flat]
 apply#[.dat dd,?_];delta yu;rw[U.b,aB e1,aB (e2 _)];rfl
end
end aZ
namespace aZ
open Ev
section
variable{k n:Nat}{g g1:G}{rn:Nat->Rn}(U:jj fns rn)
include U
def s8_ok(A0 A1 A2 a7 a8 a9 a10:Slot)(m:Nat)(hm:1<=m/\m<=6)(ah: ~~~5)(h:Wb m ah)(a u: ~~~0)(ha:Mk m a)(hu:u∈led m ah m ah):aF (rn (n+134)) [] (k+13) s8 [A0,A1,A2,.dat (W m ah),.dat (.lst ((led m ah m ah).map λr=>~~~r)),.dat (~~~a),.dat (~~~(mon m a u)),a7,a8,a9,a10]=!(.nx,[A0,A1,A2,.dat (W m ah),.dat (.lst ((led m ah m ah).map λr=>~~~r)),.dat (~~~a),.dat (~~~(mon m a u)),a7,a8,a9,a10]):=by
 have hl:=lK hm ah;have hp:(led m ah m ah)≠[]:=List.ne_nil_of_mem hu;obtain⟨y,l,ey⟩:∃y l,(led m ah m ah).map (mon m a)=y::l:=by
  cases e:(led m ah m ah).map (mon m a)with
  |nil=>show absurd (DC.mp e) hp
  |cons y l=>show#[y,l,rfl]
 obtain⟨x,l',ex⟩:∃x l',(led m ah m ah).map (mon m (mon m a u))=x::l':=by
  cases e:(led m ah m ah).map (mon m (mon m a u))with
  |nil=>show absurd (DC.mp e) hp
  |cons y l=>show#[y,l,rfl]
 have em:fV x l'=fV y l:=FW λz=>by rw[<- ex,<- ey];show QK hm h hu z
 have hc:=ha.mon (d7 hm hu);have q1:=λn k=>FQ U c0 c1 c3 c4 c2 c5 QJ Xv c12 c6 c9 c8 c7 (n:=n) (k:=k) m ah hm h (mon m a u) hc x l' ex
 rw[em]at q1;have o:∀n k (B0 B1 B2 b6 b7 b8 b9 rM:Slot),cz (rn (n+100)) [] (k+9) 11 2 (.nm 12) ⇑4 none (.call 26 [⇑5,⇑12]) [B0,B1,B2,.dat (W m ah),.dat (.lst ((led m ah m ah).map λr=>~~~r)),.dat (~~~a),b6,b7,b8,b9,rM]=!((y::l).map λr=>~~~r,[B0,B1,B2,.dat (W m ah),.dat (.lst ((led m ah m ah).map λr=>~~~r)),.dat (~~~a),b6,b7,b8,b9,rM]):=λn k B0 B1 B2 b6 b7 b8 b9 rM=>by
  rw[<- ey,List.map_map];have:=nQ (rn:=rn (n+100)) (bor:=[]) (k:=k+9) (g:=[B0,B1,B2,.dat (W m ah),.dat (.lst ((led m ah m ah).map λr=>~~~r)),.dat (~~~a),b6,b7,b8,b9,rM]) (g1:=[B0,B1,B2,.dat (W m ah),.dat (.lst ((led m ah m ah).map λr=>~~~r)),.dat (~~~a),b6,b7,b8,b9,rM]) (kk:=2) (nn:=11) (j:=12) (it:=.slot 4) (e:=.call 26 [⇑5,⇑12]) (led m ah m ah) (λr=>~~~r) (λt=>~~~(mon m a t)) (by simp! [U,dJ]) rfl ⋯ ⋯ ⋯ (aq _ ⋯) (λt ht G' hG=>by
   have h5:G'[5]?=!(.dat (~~~a)):=hG.1 5 ⋯;have h2:=hG.2;have q4:=λn k=>oX U (n:=n) (k:=k) m hm.2 a t ha.length (d7 hm ht)
   simp! [U,h5,h2,c26,aP (fx:=lJ) rfl,q4])
  show this
 have fy:∀z∈y::l,z≠[]/\z.length=m:=λz hz=>by
  rw[<- ey]at hz;let(t,_,rfl):=gN.mp hz;have:=vq m a t;show#[λc=>by rw[c]at this;have:(0:Nat)=m:=this;lia,this]
 have mn:=ym y l λz hz=>(fy z hz).1
 have sd:Sd 1 (~~~(fV y l)):=#[by rw[eJ,(fy _ (lN l y)).2];lia,λx hx=>by let(i,_,rfl):=gN.mp hx;trivial]
 have q3:=λn k=>oV U Yq 1 n k _ sd
 simp only[Nat.reduceMul,Nat.add_assoc,Nat.reduceAdd]at q3;generalize ~~~(fV y l)=dd at q1 q3 mn;generalize ((y::l).map λr=>~~~r)=ZZ at o mn
 generalize mon m a u=c at q1;generalize ((led m ah m ah).map λr=>~~~r)=LL at o
 have hz:List.map fT [A0,A1,A2,.dat (W m ah),.dat (.lst LL),.dat (~~~a),.dat (~~~c),a7,a8,a9,a10]=[fT A0,fT A1,fT A2,.dat (W m ah),.dat (.lst LL),.dat (~~~a),.dat (~~~c),fT a7,fT a8,fT a9,fT a10]:=rfl;delta s8;simp! [U,hz,c14,aP (fx:=dP 11 7 12) rfl,q1,o,mn,Yq,aP (fx:=eH 30) rfl,q3,flat]
end
end aZ
namespace aZ
open Ev
section
variable{k n:Nat}{g g1:G}{rn:Nat->Rn}(U:jj fns rn)(F:Fk rn (n+3) k)
include U F
def s6_ok(A0 A1 A4 A6 a7 a8 a9 a10:Slot)(s:Int)(fl:Bool)(m:Nat)(hm:1<=m/\m<=6)(ah: ~~~5)(h:Wb m ah)(a: ~~~0)(ha:Mk m a):∃(s':Int) (b7 b8:Slot),aF (rn (n+134)) [] (k+13) s6 [A0,A1,St s fl,.dat (W m ah),A4,.dat (~~~a),A6,a7,a8,a9,a10]=!(.nx,[A0,A1,St s' fl,.dat (W m ah),A4,.dat (~~~a),A6,b7,b8,a9,a10]):=by
 have hal:=ha.length;let(ds,s3,d1,d2,d3):=tN (rn:=rn (n+132)) (bor:=[]) (k:=k+13) (i:=2) (j:=12) (nn:=11) (kk:=2) (fl:=fl) (it:=.bK ↥4) (e:=.call 27 [⇑2,⇑5]) (P:=yc) [A0,A1,St s fl,.dat (W m ah),A4,.dat (~~~a),A6,a7,a8,a9,a10] s rfl (cF 0 4) (by simp! [U,dJ,aV 4 ⋯]) rfl (show 11<=12 by decide) (show 12<11+2 by decide) ⋯ (aq _ ⋯)
  (λs G' h0 hG=>by
   have h5:G'[5]?=!(.dat (~~~a)):=hG 5 ⋯ (show 5<11 by decide)
   let(d,s',hd,q):=Lb U (n:=n+71) (k:=k+11) (g:=G') (i:=2) (s:=s) (fl:=fl) a ⋯ h0;have q':aR (rn (n+131)) Xs (k+12) [.var 2,.dat (~~~a)] G'=!(.dat d,G'.set 2 (St s' fl)):=q;apply#[d,s',hd,?_];simp! [U,c27,h0,h5,q'])
 have d3':cz (rn (n+132)) [] (k+13) 11 2 (.nm 12) (.bK ↥4) none (.call 27 [⇑2,⇑5]) [A0,A1,St s fl,.dat (W m ah),A4,.dat (~~~a),A6,a7,a8,a9,a10]=!(ds,[A0,A1,St s3 fl,.dat (W m ah),A4,.dat (~~~a),A6,a7,a8,a9,a10]):=d3;have dl:ds.length=4:=d1;have o:=lG [~~~a] ds (by simp;lia)
 have hw:dJ (rn (n+134)) [] (k+13) false (.bin .Add (.lst [⇑5]) (.comp 11 2 (.nm 12) (.bK ↥4) none (.call 27 [⇑2,⇑5]))) [A0,A1,St s fl,.dat (W m ah),A4,.dat (~~~a),A6,a7,a8,a9,a10]=!([~~~a]++ds,[A0,A1,St s3 fl,.dat (W m ah),A4,.dat (~~~a),A6,a7,a8,a9,a10]):=by generalize ~~~a=ta at d3' o;delta dJ;simp! [U,d3',aq 1 ⋯,o]
 let(g',(_,s4,b7,b8,rfl),h3):=bR (T:=.nm 7) (b:=(rn (n+134)).b [] (k+13) yt) (λd:D=>d)
  (I:=λl g=>(∀d∈l,yc d)/\∃(s:Int) (b7 b8:Slot),g=[A0,A1,St s fl,.dat (W m ah),A4,.dat (~~~a),A6,b7,b8,a9,a10])
  (step:=λd l g hh=>by
   let(h0,s,b7,b8,rfl):=hh;let(s',b8',q):=thing U F A0 A1 A4 A6 b8 a9 a10 s fl m hm ah h a ha d (h0 d dC);show#[_,_,rfl,q,λx hx=>h0 x (bP _ hx),s',_,_,rfl]) ([~~~a]++ds) [A0,A1,St s3 fl,.dat (W m ah),A4,.dat (~~~a),A6,a7,a8,a9,a10] #[λd hd=>by
    rcases tP.mp hd with hd |hd
    . cases fR.mp hd;show ha.few hm.2
    .
     show d2 d hd,s3,a7,a8,rfl]
 rw[List.map_id']at h3;apply#[s4,b7,b8,?_];delta s6;simp only[aF,Tg.ix,Tg.j8,hw,h3];simp
omit F in
def s7_ok(A0 A1 a7 a8 a9 a10:Slot)(s:Int)(fl:Bool)(m:Nat)(hm:1<=m/\m<=6)(ah: ~~~5)(h:Wb m ah)(a c: ~~~0)(ha:Mk m a)(hc:Mk m c):∃(s':Int) (b9 rM:Slot),aF (rn (n+134)) [] (k+13) s7 [A0,A1,St s fl,.dat (W m ah),.own ((led m ah m ah).map λr=>~~~r),.dat (~~~a),.dat (~~~c),a7,a8,a9,a10]=!(.nx,[A0,A1,St s' fl,.dat (W m ah),.dat (.lst ((led m ah m ah).map λr=>~~~r)),.dat (~~~a),.dat (~~~c),a7,a8,b9,rM]):=by
 have i0:uL (W m ah) (.int 0)=!(.int m):=rfl;let(v,s1,hv,q1):=vh U c16 (n:=n+81) (k:=k+11) (g:=[A0,A1,St s fl,.dat (W m ah),.own ((led m ah m ah).map λr=>~~~r),.dat (~~~a),.dat (~~~c),a7,a8,a9,a10]) (i:=2) (s:=s) (fl:=fl) m rfl ⋯
 have qZ:aR (rn (n+131)) (iL 16) (k+12) [.var 2,‹m›] [A0,A1,St s fl,.dat (W m ah),.own ((led m ah m ah).map λr=>~~~r),.dat (~~~a),.dat (~~~c),a7,a8,a9,a10]=!(.dat (~~~v),[A0,A1,St s1 fl,.dat (W m ah),.own ((led m ah m ah).map λr=>~~~r),.dat (~~~a),.dat (~~~c),a7,a8,a9,a10]):=q1
 have q2:=λn k=>oX U (n:=n) (k:=k) m hm.2 a v ha.length hv
 have hw:dJ (rn (n+134)) [] (k+13) false (.lst [⇑6,⇑5,(.call 26 [⇑5,(.call 21 [⇑2,(.ix ⇑3 ↥0)])])]) [A0,A1,St s fl,.dat (W m ah),.own ((led m ah m ah).map λr=>~~~r),.dat (~~~a),.dat (~~~c),a7,a8,a9,a10]=!([~~~c,~~~a,~~~(mon m a v)],[A0,A1,St s1 fl,.dat (W m ah),.own ((led m ah m ah).map λr=>~~~r),.dat (~~~a),.dat (~~~c),a7,a8,a9,a10]):=by delta dJ;simp! [U,i0,c21,qZ,c26,aP (fx:=lJ) rfl,q2,aq 3 ⋯]
 let(g',(_,A4,b9,rM,_,hA,rfl),h3):=bR (T:=.nm 9) (b:=(rn (n+134)).b [] (k+13) yu) (λb:List Int=>~~~b)
  (I:=λl g=>(∀b∈l,Mk m b)/\∃(A4 b9 rM:Slot),(A4=.own ((led m ah m ah).map λr=>~~~r)\/A4=.dat (.lst ((led m ah m ah).map λr=>~~~r)))/\(l.length<=2->A4=.dat (.lst ((led m ah m ah).map λr=>~~~r)))/\g=[A0,A1,St s1 fl,.dat (W m ah),A4,.dat (~~~a),.dat (~~~c),a7,a8,b9,rM])
  (step:=λb l g hh=>by
   let(h0,A4,b9,rM,hA,_,rfl):=hh;let(b10',q):=later U (n:=n) (k:=k) A0 A1 (St s1 fl) A4 (.dat (~~~c)) a7 a8 rM m hm ah h a b ha (h0 b dC) hA;show#[_,_,rfl,q,λx hx=>h0 x (bP _ hx),_,_,_,.inr rfl,λ_=>rfl,rfl]) [c,a,mon m a v] [A0,A1,St s1 fl,.dat (W m ah),.own ((led m ah m ah).map λr=>~~~r),.dat (~~~a),.dat (~~~c),a7,a8,a9,a10] #[λb hb=>by
    simp only[dS,l9,A7]at hb;rcases hb with rfl |rfl |rfl
    . show hc
    . show ha
    .
     show ha.mon hv,_,a9,a10,.inl rfl,λe=>absurd (show 3<=2 from e) ⋯,rfl]
 rw[hA ⋯]at h3;have h3':jO (.nm 9) ((rn (n+134)).b [] (k+13) yu) [~~~c,~~~a,~~~(mon m a v)] _=_:=h3;apply#[s1,b9,rM,?_];delta s7;simp only[aF,Tg.ix,Tg.j8,hw,h3'];simp
end
end aZ
namespace aZ
open Ev
section
variable{k n:Nat}{g g1:G}{rn:Nat->Rn}(U:jj fns rn)(F:Fk rn (n+3) k)
include U F
def cell(ns: ~~~0)(hl:ns.length<=63)(j:Nat)(a2 a3 a4 a5 a6 a7 a8 a9 a10:Slot):∃b2 b3 b4 b5 b6 b7 b8 b9 rM,(rn (n+135)).b [] (k+13) yw [.dat (.fix (ns.map .int)),‹j›,a2,a3,a4,a5,a6,a7,a8,a9,a10]=!(.nx,[.dat (.fix (ns.map .int)),‹j›,b2,b3,b4,b5,b6,b7,b8,b9,rM]):=by
 let(s,fl,q1):=Ku U c18 (n:=n+93) (k:=k+11) ns ⋯ j;generalize hA0:Slot.dat (.fix (ns.map .int))=A0;generalize hA1:Slot.dat (.int (j:Int))=A1;have e1:aF (rn (n+134)) [] (k+13) s1 [A0,A1,a2,a3,a4,a5,a6,a7,a8,a9,a10]=!(.nx,[A0,A1,St s fl,a3,a4,a5,a6,a7,a8,a9,a10]):=by subst hA0 hA1;delta s1;simp! [U,c19,aP (fx:=mX 18) rfl,q1]
 let(m,ah,z2,hm,h,q2):=QB U c16 c20 c21 c22 (n:=n+33) (k:=k+7) (g:=[A0,A1,St s fl,a3,a4,a5,a6,a7,a8,a9,a10]) (i:=2) (s:=s) (fl:=fl) rfl;have yI:aR (rn (n+133)) (qR 16 20 21 22) (k+12) [.var 2] [A0,A1,St s fl,a3,a4,a5,a6,a7,a8,a9,a10]=!(.dat (W m ah),[A0,A1,St z2 fl,a3,a4,a5,a6,a7,a8,a9,a10]):=q2;have e2:aF (rn (n+134)) [] (k+13) s2 [A0,A1,St s fl,a3,a4,a5,a6,a7,a8,a9,a10]=!(.nx,[A0,A1,St z2 fl,.dat (W m ah),a4,a5,a6,a7,a8,a9,a10]):=by delta s2;simp! [U,c23,yI]
 have q3:=λn k=>FP U c24 c20 (n:=n) (k:=k) m hm ah h
 have e3:∀A2,aF (rn (n+134)) [] (k+13) s3 [A0,A1,A2,.dat (W m ah),a4,a5,a6,a7,a8,a9,a10]=!(.nx,[A0,A1,A2,.dat (W m ah),.own ((led m ah m ah).map λr=>~~~r),a5,a6,a7,a8,a9,a10]):=λA2=>by
  delta s3;simp! [U,c25,aY (fx:=lI 24 20) rfl,q3]
 let(a,z4,ha,e4):=s4_ok U (n:=n) (k:=k) A0 A1 a5 a6 a7 a8 a9 a10 (.own ((led m ah m ah).map λr=>~~~r)) z2 fl m hm ah
 let(u,z5,hu,e5):=s5_ok U (n:=n) (k:=k) A0 A1 a6 a7 a8 a9 a10 z4 fl m hm ah h a ha;let(z6,b7,b8,e6):=s6_ok U F A0 A1 (.own ((led m ah m ah).map λr=>~~~r)) (.dat (~~~(mon m a u))) a7 a8 a9 a10 z5 fl m hm ah h a ha
 let(z7,b9,rM,e7):=s7_ok U (n:=n) (k:=k) A0 A1 b7 b8 a9 a10 z6 fl m hm ah h a (mon m a u) ha (ha.mon (d7 hm hu));have e8:=s8_ok U (n:=n) (k:=k) A0 A1 (St z7 fl) b7 b8 b9 rM m hm ah h a u ha hu;apply#[St z7 fl,.dat (W m ah),.dat (.lst ((led m ah m ah).map λr=>~~~r)),.dat (~~~a),.dat (~~~(mon m a u)),b7,b8,b9,rM,?_]
 delta yw;rw[U.b,aB e1,aB e2,aB (e3 _),aB e4,aB e5,aB e6,aB e7,aB e8];rfl
def whole(ns: ~~~0)(hl:ns.length<=63):∃g',(rn (n+136)).b [] (k+13) Yp.body [.dat (.fix (ns.map .int)),.no,.no,.no,.no,.no,.no,.no,.no,.no,.no]=!(.rt (.dat (.bl true)),g'):=by
 have loop:=bR (T:=.nm 1) (b:=(rn (n+135)).b [] (k+13) yw) (λ(j:Nat)=>D.int (0+(j:Int)))
  (I:=λ(l:List Nat) g=>∃(s1 s2 s3 s4 s5 s6 s7 s8 s9 Yr:Slot),g=[.dat (.fix (ns.map .int)),s1,s2,s3,s4,s5,s6,s7,s8,s9,Yr])
  (step:=λa l g h=>by
   let(s1,s2,s3,s4,s5,s6,s7,s8,s9,Yr,rfl):=h;rw[Int.zero_add];let(b2,b3,b4,b5,b6,b7,b8,b9,rM,q):=cell U F ns hl a s2 s3 s4 s5 s6 s7 s8 s9 Yr;show#[_,_,rfl,q,_,_,_,_,_,_,_,_,_,_,rfl])
 obtain⟨M,hM,hM2⟩:∃M:Nat,M<=8/\(if ((if (4:Int)<ns.length then 4 else (ns.length:Int))) > 1 then (if (4:Int)<ns.length then 4 else (ns.length:Int))else 1)=(M:Int):=by
  apply#[(if ((if (4:Int)<ns.length then 4 else (ns.length:Int))) > 1 then (if (4:Int)<ns.length then 4 else (ns.length:Int))else 1).toNat,?_,?_]
  . split <;> (try split) <;> lia
  . split <;> (try split) <;> lia
 let(g2,(s1,s2,s3,s4,s5,s6,s7,s8,s9,Yr,rfl),h4):=loop (List.range M) [.dat (.fix (ns.map .int)),.no,.no,.no,.no,.no,.no,.no,.no,.no,.no] #[_,_,_,_,_,_,_,_,_,_,rfl];have hv:gJ (rn (n+135)) [] (k+13) (.blt .max [↥1,(.blt .min [(.blt .len [⇑0]),↥4])]) [.dat (.fix (ns.map .int)),.no,.no,.no,.no,.no,.no,.no,.no,.no,.no]=!(.int (M:Int),[.dat (.fix (ns.map .int)),.no,.no,.no,.no,.no,.no,.no,.no,.no,.no]):=by rw[<- hM2];simp! [U,qN]
 have hw:dJ (rn (n+135)) [] (k+13) false (.bK (.blt .max [↥1,(.blt .min [(.blt .len [⇑0]),↥4])])) [.dat (.fix (ns.map .int)),.no,.no,.no,.no,.no,.no,.no,.no,.no,.no]=!((List.range M).map λ(x:Nat)=>D.int (0+(x:Int)),[.dat (.fix (ns.map .int)),.no,.no,.no,.no,.no,.no,.no,.no,.no,.no]):=by delta dJ;dsimp only;rw[hv];dsimp only;rw[i7 (aV M ⋯),w9];rfl
 have e1:aF (rn (n+135)) [] (k+13) (.loop (.nm 1) (.bK (.blt .max [↥1,(.blt .min [(.blt .len [⇑0]),↥4])])) yw) [.dat (.fix (ns.map .int)),.no,.no,.no,.no,.no,.no,.no,.no,.no,.no]=!(.nx,[.dat (.fix (ns.map .int)),s1,s2,s3,s4,s5,s6,s7,s8,s9,Yr]):=by simp only[aF,Tg.ix,Tg.j8,hw,h4];simp
 apply#[[.dat (.fix (ns.map .int)),s1,s2,s3,s4,s5,s6,s7,s8,s9,Yr],?_];delta Yp;rw[U.b,aB e1];simp! [U,U.e]
end
end aZ
namespace aZ
open Ev
abbrev rfB(rn:Rn)(k:Nat)(C:Nat)(c:Int):Bool:=match rn.b [] k (Yo.body.drop 2) ((List.replicate Yo.n .no).set 1 (.dat (.nq C)))with
 |!(.rt r,g3)=>(match dF [] g3 r with |!(.new [.int c'])=>decide (c'=c) |_=>false)
 |_=>false
def Le(h:rfB rn k C c=true):Lc rn k C c:=by
 delta rfB at h;split at h
 .
  ext r g3 e;split at h
  . ext c' e2;rw[mI h]at e2;show#[r,g3,e,e2]
  . symm
 . symm
def bad_1:(fP.all λd=>decide (iK (run fns (0+3+121)) (0+8) (aL 2 0) [d]=!0))=true:=by decide +kernel
def bad_2:(fP.all λd=>decide (iK (run fns (0+3+115)) (0+6) (aL 2 0) [d]=!0))=true:=by decide +kernel
def Xz:Fk (run fns) (0+3) 0:=#[λd hd=>mI (l4.mp bad_1 d hd),λd hd=>mI (l4.mp bad_2 d hd),Le (by decide +kernel),Le (by decide +kernel)]
abbrev kk:Nat:=13
abbrev fuel:Nat:=136
def hev(ns: ~~~0)(hl:ns.length<=63):∃g',(run fns fuel).b [] kk Yp.body (dG 11 [.dat (.fix (ns.map .int))])=!(.rt (.dat (.bl true)),g'):=whole (Qu fns) Xz ns hl
end aZ
namespace Ev
open L2
abbrev strV:Value->Bool
 |.str _ _=>true
 |_=>false
abbrev QM:Value->Bool
 |.int _ _=>true
 |_=>false
abbrev RQ:Value->Bool
 |.bool _=>true
 |_=>false
abbrev QS(n:String):Value->Bool
 |.type m=>decide (m=n)
 |_=>false
abbrev XC(q:Addr):Option Value->Bool
 |!(.ref p)=>decide (p=q)
 |_=>false
def vF(h:QS n v=true):v=.type n:=by
 delta QS at h;split at h
 . rw[mI h]
 . symm
def QT(h:XC q v=true):v=!(.ref q):=by
 delta XC at h;split at h
 . rw[mI h]
 . symm
abbrev codeOk(K:Frag)(c q:Addr):Bool:=match K.lookup c with
 |some o=>(match o.data with
  |.fields vs=>QS "code" o.cls&&XC q vs[11]?&&strV (vs.getD 18 .none)&&QM (vs.getD 7 .none)&&RQ (vs.getD 9 .none)&&QM (vs.getD 10 .none)&&decide (c≠q)
  |_=>false)
 |none=>false
def tQ{K:Frag}{h:Heap}{c q:Addr}(X:K.In h)(e:codeOk K c q=true):PySem.W.CodeHd h c q/\∃o vs,h.get? c=!o/\o.cls=.type "code" /\o.data=.fields vs/\vs[11]?=!(.ref q):=by
 delta codeOk at e;split at e
 .
  ext o ho;split at e
  .
   ext vs hv;simp only[eQ,l8]at e;let((((((e1,e2),e3),e4),e5),e6),e7):=e;have r:=QT e2;have d:vs.getD 11 .none=.ref q:=by rw[Ap,r];rfl
   delta strV at e3;split at e3
   .
    ext file tf h3;delta QM at e4;split at e4
    .
     ext fl tg h4;delta RQ at e5;split at e5
     .
      ext b h5;delta QM at e6;split at e6
      . ext tx tt h6;show#[#[o,vs,file,tf,fl,tg,b,tx,tt,X _ _ ho,vF e1,hv,r,d,h3,h4,h5,h6,e7],o,vs,X _ _ ho,vF e1,hv,r]
      . cases e6
     . cases e5
    . cases e4
   . cases e3
  . cases e
 . cases e
abbrev Lf(K:Frag)(c:Addr):Bool:=K.all λp=>decide (p.1=c)||(not (PySem.W.codeIn [p] (.ref p.1) "_law_refusals_right"))
def lookup_mem{β:Type}:∀{l:List (Addr×β)}{a:Addr}{b:β},l.lookup a=!b->(a,b)∈l
 | [],_,_,h=>by symm
 | (x,y)::l,a,b,h=>by
  rw[sR]at h;by_cases e:a=x
  . subst e;simp at h;subst h;show dC
  .
   have:(a==x)=false:=by simpa using e
   rw[this]at h;show bP _ (lookup_mem h)
abbrev XD(K:Frag)(bm q:Addr):Bool:=match K.lookup bm with
 |!#[c,!d,.plain,_]=>QS "module" c&&decide (d=builtinsNs)&&decide (bm≠builtinsNs)&&decide (bm≠mainGlobals)&&decide (bm≠q)
 |_=>false
def XF{K:Frag}{mg:Str->Option Value}{h:Heap}{c q bm:Addr}(X:K.In h)(G:h.Ns mainGlobals mg)(e1:Lf K c=true)(e2:codeOk K c q=true)(e3:dz K=[(q,jI)])(e4:PySem.W.nsIn K mainGlobals "__builtins__"=!(!(.ref bm)))(e5:XD K bm q=true)(e6:mainGlobals≠q) :
  ∀bO,PySem.W.codeIn K bO "_law_refusals_right"=true->JX K mg bO:=λbO hc=>by
 cases bO with
 |ref c'=>
  cases hl:K.lookup c' with
  |none=>delta PySem.W.codeIn at hc;simp only[hl]at hc;cases hc
  |some o=>
   have hm:=lookup_mem hl;have e0:PySem.W.codeIn [(c',o)] (.ref c') "_law_refusals_right"=PySem.W.codeIn K (.ref c') "_law_refusals_right" :=by
    have h1:List.lookup c' [(c',o)]=!o:=by simp
    delta PySem.W.codeIn;simp only[hl,h1]
   have ec:c'=c:=by have:=l4.mp e1 _ hm;rw[e0,hc]at this;simpa using this
   subst ec;apply#[c',q,rfl,λb hb=>(tQ hb e2).1,by rw[e3];show dC,λb hb=>?_,e6]
   delta XD at e5;split at e5
   . ext cc d sl hb2;simp only[eQ,l8]at e5;let((((f1,f2),f3),f4),f5):=e5;show#[bm,_,C6 X G e4,f3,f4,f5,hb _ _ hb2,vF f1,by rw[f2],rfl]
   . cases e5
 |_=>cases hc
def yy{q:Addr}{K:Params->Frag}{w:World}{h:Heap}(e:(K w.params).lookup q=none)(Y:PySem.W.InK (rQ q K) w h):(K w.params).In h:=λa o ho=>by
 apply Y a o ?_;exact List.lookup a ((q,_)::K w.params)=_;rw[sR];have:(a==q)=false:=by
  by_cases z:a=q
  . rw[z,e]at ho;cases ho
  . simpa using z
 rw[this];show ho
def FZ{c q:Addr}{K:Params->Frag}{w:World}{h:Heap}(e:(K w.params).lookup q=none)(e2:codeOk (K w.params) c q=true)(Y:PySem.W.InK (rQ q K) w h):∀p∈[q],(∃c,h.TableAt c p ([].toArray))/\(K w.params).lookup p=none:=λp hp=>by
 cases fR.mp hp;apply#[#[c,(tQ (yy e Y) e2).2,Y _ _ ?_],e];exact List.lookup q ((q,_)::K w.params)=_;simp
def Lg{l:PySem.W.OpenLaw}{n k:Nat}{q:Program}{loose:List Str}{XP:(Str->Option Value)->Heap->Prop}{YP:World->Heap->Prop}{d:DefRec}{K:Params->Frag}{CX:Di}{sp:Frag->Sp}{x:Str}{T:List Addr}
  (hn:l.most=!n) (hn2:n<=sizeLine) (jt:d.params.defaults=[]) (hr:cO k callerA)
  (hY:∀(w:World) (h:Heap),YP w h->(K w.params).In h) (hT:∀(w:World) (h:Heap),YP w h->∀q∈T,(∃c,h.TableAt c q ([].toArray))/\(K w.params).lookup q=none)
  (F:∀(w:World) (mg:Str->Option Value) (fa:Addr) (h:Heap),(K w.params).In h->h.Ns mainGlobals mg->mg d.name=!(.ref fa)->
   ∃fd:FuncData,(∀(s:Shared) (u:Value),BindsTo s fd #[[u],[]] [(x,u)])/\
    ∀base:Heap,(K w.params).In base->base.Ns mainGlobals mg->jT l.prog w (K w.params) mg base CX k fa fd [x] (sp (K w.params)))
  (XT:∀(w:World) (H:Hp) (a:Addr) (ns: ~~~0),ns.length<=n->BJ T H->cg (K w.params) H a (ns.map V.int)->sp (K w.params) [.ref a] H (λv _=>v=.bl true) λ_ _ _=>False)
  (hCX:∀(H:Hp) (s:Shared) (e:Value) (s':Shared),CX [] H s (λ_ _ _=>False) e s'->False) :
  PySem.W.WalkO q loose XP YP l.row.toRowW d [] (λf vs=>PySem.call f vs):=by
 apply Att.v5 hn jt λw s₀ s₁ mg mb fa o pm cd doc a vs ns G Y ho hd bZ hmg hobj hints aN hg=>?_
 have KX:=hY w _ Y;let(fd,hb,hF):=F w mg fa _ KX G.T.g hmg;show Er KX (hT w _ Y) G.T.g G.T.b G.T.builtins G.T.nolimit hg hobj hints (i9 aN hn2) hr hF hb (λH hO hS=>XT w H a ns aN hO hS) λH e s'=>hCX H s₁ e s'
abbrev kitF(K:Frag)(C:Addr):Bool:=["int", "bool", "str", "tuple", "list", "dict"].all λn=>decide (PySem.W.kitOne K (.ref C) (.type n)=!false)
def Lh{K:Frag}{C:Addr}(h1:PySem.W.findIn K (.ref C) "__getattribute__"=!(!(.builtin "BaseException.__getattribute__")))(h8:PySem.W.findIn K (.ref C) "__getattr__"=!none)(h9:PySem.W.mroIn K C (.type "BaseException")=!true)(h2:PySem.W.hasDictIn K C=true)(h3:PySem.W.findIn K (.ref C) "__class__"=!(!(.builtin "object.__class__")))(h4:PySem.W.specialIn K (.builtin "object.__class__") "__get__"=!(!(.builtin "getset_descriptor.__get__")))(h5:PySem.W.takesIn K (.builtin "object.__class__")=!true)(h6:PySem.W.mroIn K C (.type "object")=!true)(h7:kitF K C=true):Ht K C:=
 #[h1,h8,h9,h2,h3,h4,h5,h6,λn hn=>mI (l4.mp h7 n hn)]
abbrev gW(K:Frag)(cv:Value)(l:List (Addr×Bool)):Bool:=decide (PySem.W.kitOne K (.type "NoneType") cv=!false)&&l.all λp=>decide (PySem.W.kitOne K (.ref p.1) cv=!p.2)
def bU{P:Pg}{K:Frag}{mg:Str->Option Value}{h:Heap}{x:Str}{l:List (Addr×Bool)}{D:Addr}(X:K.In h)(G:h.Ns mainGlobals mg)(e1:(x==(~~~3))=false)(e2:PySem.W.nsIn K mainGlobals x=!(!(.ref D)))(e3:gW K (.ref D) l=true) :
  (x==(~~~3))=false/\∃cv,((mg x=!cv/\∃D,cv=.ref D)\/(x∈P.bn/\x≠ "__name__" /\bootBuiltins x=!cv/\∃n,cv=.type n))/\PySem.W.kitOne K (.type "NoneType") cv=!false/\∀C b,l.lookup C=!b->PySem.W.kitOne K (.ref C) cv=!b:=by
 delta gW at e3;rw[eQ]at e3;show#[e1,.ref D,.inl #[C6 X G e2,D,rfl],mI e3.1,λC b hl=>mI (l4.mp e3.2 _ (lookup_mem hl))]
def Li{P:Pg}{K:Frag}{mg:Str->Option Value}{x:Str}{l:List (Addr×Bool)}{n:String}(e1:(x==(~~~3))=false)(e2:x∈P.bn)(e4:x≠ "__name__")(e5:bootBuiltins x=!(.type n))(e3:gW K (.type n) l=true) :
  (x==(~~~3))=false/\∃cv,((mg x=!cv/\∃D,cv=.ref D)\/(x∈P.bn/\x≠ "__name__" /\bootBuiltins x=!cv/\∃n,cv=.type n))/\PySem.W.kitOne K (.type "NoneType") cv=!false/\∀C b,l.lookup C=!b->PySem.W.kitOne K (.ref C) cv=!b:=by
 delta gW at e3;rw[eQ]at e3;show#[e1,.type n,.inr #[e2,e4,e5,n,rfl],mI e3.1,λC b hl=>mI (l4.mp e3.2 _ (lookup_mem hl))]
def lm_mk{P:Pg}{K:Frag}{mg:Str->Option Value}(h1:∀bO,PySem.W.codeIn K bO "_law_refusals_right"=true->JX K mg bO)(h2:All (λp:Str×Addr=>mg p.1=!(.ref p.2)/\fU K p.2/\Ht K p.2) (P.cls.zip P.gZ))(hl:P.gZ.length<=P.cls.length)
  (h3:(P.kt==(~~~3))=false/\∃D,mg P.kt=!(.ref D)/\fU K D/\All (λC=>uK K C D=true) P.gZ)
  (h4:All (λp:Str×List (Addr×Bool)=>(p.1==(~~~3))=false/\∃cv,((mg p.1=!cv/\∃D,cv=.ref D)\/(p.1∈P.bn/\p.1≠ "__name__" /\bootBuiltins p.1=!cv/\∃n,cv=.type n))/\PySem.W.kitOne K (.type "NoneType") cv=!false/\∀C b,p.2.lookup C=!b->PySem.W.kitOne K (.ref C) cv=!b) P.ups):Wt P K mg:=
 #[λ_=>h1,λi C e=>by
  have hi:=(dE.mp e).1;have hi2:i<P.cls.length:=by lia
  apply#[P.cls[i],lS hi2,?_];have:=h2.mem (P.cls[i],C) (l7 (by rw[List.getElem?_zip_eq_some];show#[lS hi2,e]))
  show this,λ_=>let #[a,D,b,c,d]:=h3;#[a,D,b,c,λC hC=>d.mem C hC],λx l h=>h4.mem (x,l) h]
end Ev
namespace aZ
open L2 Ev
nonrec abbrev f0:Fi:=cQ (st 18)
nonrec abbrev f1:Fi:=cQ (st 19)
nonrec abbrev f2:Fi:=cQ (st 22)
nonrec abbrev f3:Fi:=cQ (st 23)
nonrec abbrev f4:Fi:=cQ (st 24)
nonrec abbrev f5:Fi:=cQ (st 25)
nonrec abbrev f6:Fi:=cQ (st 26)
nonrec abbrev f7:Fi:=cQ (st 28)
nonrec abbrev f8:Fi:=cQ (st 29)
nonrec abbrev f9:Fi:=cQ (st 30)
nonrec abbrev f10:Fi:=cQ (st 33)
nonrec abbrev f11:Fi:=cQ (st 34)
nonrec abbrev f12:Fi:=cQ (st 35)
nonrec abbrev f13:Fi:=cQ (st 36)
nonrec abbrev f14:Fi:=cQ (st 37)
nonrec abbrev f15:Fi:=cQ (st 39)
nonrec abbrev f16:Fi:=cQ (st 40)
nonrec abbrev f17:Fi:=cQ (st 41)
nonrec abbrev f18:Fi:=cQ (st 42)
nonrec abbrev f19:Fi:=cQ (st 43)
nonrec abbrev f20:Fi:=cQ (st 44)
nonrec abbrev f21:Fi:=cQ (st 45)
nonrec abbrev f22:Fi:=cQ (st 46)
nonrec abbrev f23:Fi:=cQ (st 47)
nonrec abbrev f24:Fi:=cQ (st 48)
nonrec abbrev f25:Fi:=cQ (st 49)
nonrec abbrev f26:Fi:=cQ (st 50)
nonrec abbrev f27:Fi:=cQ (st 51)
nonrec abbrev f28:Fi:=cQ (st 52)
nonrec abbrev f29:Fi:=cQ (st 53)
nonrec abbrev f30:Fi:=cQ (st 54)
nonrec abbrev f31:Fi:=cQ (st 55)
nonrec abbrev f32:Fi:=cQ (st 56)
abbrev ups:List (Str×List (Addr×Bool)):=[("NoWeb",[(37,true),(157,false)]),("NoNumber",[(37,false),(157,false)]),("NoTurn",[(37,false),(157,false)]),("NoKind",[(37,false),(157,false)]),("NoPlace",[(37,false),(157,false)]),("NoTie",[(37,false),(157,false)]),("NoNumbers",[(37,false),(157,false)]),("NoTree",[(37,false),(157,false)]),("NoCode",[(37,false),(157,false)]),("NoCounts",[(37,false),(157,false)]),("NoMarks",[(37,false),(157,true)]),("NoText",[(37,false),(157,false)]),("NoLine",[(37,false),(157,false)]),("NoDeed",[(37,false),(157,false)]),("TooGreat",[(37,false),(157,false)]),("ValueError",[(37,true),(157,true)])]
nonrec abbrev P:Pg:=#[[f0,f1,f2,f3,f4,f5,f6,f7,f8,f9,f10,f11,f12,f13,f14,f15,f16,f17,f18,f19,f20,f21,f22,f23,f24,f25,f26,f27,f28,f29,f30,f31,f32],[("MOST_PLACES",.int 6),("SORTS",.int 4)],["ValueError", "all", "bool", "enumerate", "int", "isinstance", "len", "list", "max", "min", "range", "sorted", "tuple", "zip"],["NoWeb", "NoMarks"],true,[37,157], "KindError",ups]
def XH:Qm P P.fn fns=true:=by decide +kernel
def fns_eq:List.zipWith (Cq P) P.fn fns=P.fn.map (λfi=>bH fi.st):=by kernel_rfl
def nLaw:f32.N.length=11:=rfl
def hevF:∀ns:List Int,ns.length<=63->∃g',(run fns fuel).b [] kk Yp.body (dG f32.N.length [.dat (.fix (ns.map .int))])=!(.rt (.dat (.bl true)),g'):=by rw[nLaw];show hev
def CQ(P:Params):dz (K P)=[(¬401,jI)]:=by kernel_rfl
def Lj(P:Params):(K P).lookup (¬401)=none:=by kernel_rfl
def CT(P:Params):codeOk (K P) (¬403) (¬401)=true:=by kernel_rfl
def QV(P:Params):Lf (K P) (¬403)=true:=by kernel_rfl
def bm_ok(P:Params):XD (K P) (¬4) (¬401)=true:=by kernel_rfl
def Lk(P:Params):Ht (K P) (¬37):=Lh (by kernel_rfl) (by kernel_rfl) (by kernel_rfl) (by kernel_rfl) (by kernel_rfl) (by kernel_rfl) (by kernel_rfl) (by kernel_rfl) (by kernel_rfl)
def yz(P:Params):fU (K P) (¬37):=by kernel_rfl
def Ln(P:Params):uK (K P) (¬37) (¬24)=true:=by kernel_rfl
def Al(P:Params):Ht (K P) (¬157):=Lh (by kernel_rfl) (by kernel_rfl) (by kernel_rfl) (by kernel_rfl) (by kernel_rfl) (by kernel_rfl) (by kernel_rfl) (by kernel_rfl) (by kernel_rfl)
def qW(P:Params):fU (K P) (¬157):=by kernel_rfl
def Am(P:Params):uK (K P) (¬157) (¬24)=true:=by kernel_rfl
def vG(P:Params):fU (K P) (¬24):=by kernel_rfl
def Lp(P:Params):gW (K P) (.ref (¬37)) [(37,true),(157,false)]=true:=by kernel_rfl
def yC(P:Params):gW (K P) (.ref (¬49)) [(37,false),(157,false)]=true:=by kernel_rfl
def Ga(P:Params):gW (K P) (.ref (¬61)) [(37,false),(157,false)]=true:=by kernel_rfl
def Gb(P:Params):gW (K P) (.ref (¬73)) [(37,false),(157,false)]=true:=by kernel_rfl
def Ao(P:Params):gW (K P) (.ref (¬85)) [(37,false),(157,false)]=true:=by kernel_rfl
def Lq(P:Params):gW (K P) (.ref (¬97)) [(37,false),(157,false)]=true:=by kernel_rfl
def vH(P:Params):gW (K P) (.ref (¬109)) [(37,false),(157,false)]=true:=by kernel_rfl
def Gd(P:Params):gW (K P) (.ref (¬121)) [(37,false),(157,false)]=true:=by kernel_rfl
def Ge(P:Params):gW (K P) (.ref (¬133)) [(37,false),(157,false)]=true:=by kernel_rfl
def yD(P:Params):gW (K P) (.ref (¬145)) [(37,false),(157,false)]=true:=by kernel_rfl
def Aq(P:Params):gW (K P) (.ref (¬157)) [(37,false),(157,true)]=true:=by kernel_rfl
def Gf(P:Params):gW (K P) (.ref (¬169)) [(37,false),(157,false)]=true:=by kernel_rfl
def Gg(P:Params):gW (K P) (.ref (¬181)) [(37,false),(157,false)]=true:=by kernel_rfl
def Gh(P:Params):gW (K P) (.ref (¬193)) [(37,false),(157,false)]=true:=by kernel_rfl
def yE(P:Params):gW (K P) (.ref (¬212)) [(37,false),(157,false)]=true:=by kernel_rfl
def rO(P:Params):gW (K P) (.type "ValueError") [(37,true),(157,true)]=true:=by kernel_rfl
end aZ
open PySem PySem.W PyProof.Rows
set_option maxHeartbeats 0 in
theorem PySem.Challenge.cw_websbykind_k85_marks_known_holds : PySem.Challenge.rw_websbykind_k85_marks_known.Holds := by
 w_on
 apply PySem.W.holds_law (by decide +kernel) λsaid=>?_
 apply PySem.W.holds_open (q:=aZ.qv) (loose:=[]) (Xt:=λs=>xlAt aZ.qv [] s&&recOk (OpenRow.toRowW PySem.Challenge.rw_websbykind_k85_marks_known.row).records s) (XP:=XL aZ.qv []) (Yf:=λs=>aZ.as2.map s.heap.get?) (Ya:=λw=>(Ev.rQ 401 aZ.K w.params).map λp:Nat×Obj=>!p.2) (YP:=InK (Ev.rQ 401 aZ.K)) (N:=8000) aZ.hl (InK.of aZ.Yt) InK.keeps (λs e=>xl_of s (Bool.and_eq_true_iff.mp e).1) XL.keeps (by rfl) (by rfl) (by rfl) (λs e=>recFacts_of (Bool.and_eq_true_iff.mp e).2) (by rfl) (by first |assumption |decide +kernel) (by decide +kernel) #[rfl,rfl,rfl,rfl,rfl,by decide +kernel] ?hw ?hc
 (case hw=>w_witness2)
 k_fill
 apply Ev.Lg (l:=PySem.Challenge.rw_websbykind_k85_marks_known) (n:=63) (k:=aZ.kk+1) (x:= "_law_script") (CX:=L2.yX) (K:=aZ.K) (T:=[401]) (sp:=λK=>Ev.Rj K aZ.f32.N 1 λbor g r g'=>(Ev.run aZ.fns aZ.fuel).b bor aZ.kk aZ.Yp.body g=!(.rt r,g')) rfl ⋯ rfl #[rfl,by decide,by decide] (λw h Y=>Ev.yy (aZ.Lj _) Y) (λw h Y=>Ev.FZ (aZ.Lj _) (aZ.CT _) Y) ?F ?S ?C
 case F=>
  intro w mg fa h KX G hmg
  have mm:Ev.cB (L2.KOf KX) mg aZ.f0/\Ev.cB (L2.KOf KX) mg aZ.f1/\Ev.cB (L2.KOf KX) mg aZ.f2/\Ev.cB (L2.KOf KX) mg aZ.f3/\Ev.cB (L2.KOf KX) mg aZ.f4/\Ev.cB (L2.KOf KX) mg aZ.f5/\Ev.cB (L2.KOf KX) mg aZ.f6/\Ev.cB (L2.KOf KX) mg aZ.f7/\Ev.cB (L2.KOf KX) mg aZ.f8/\Ev.cB (L2.KOf KX) mg aZ.f9/\Ev.cB (L2.KOf KX) mg aZ.f10/\Ev.cB (L2.KOf KX) mg aZ.f11/\Ev.cB (L2.KOf KX) mg aZ.f12/\Ev.cB (L2.KOf KX) mg aZ.f13/\Ev.cB (L2.KOf KX) mg aZ.f14/\Ev.cB (L2.KOf KX) mg aZ.f15/\Ev.cB (L2.KOf KX) mg aZ.f16/\Ev.cB (L2.KOf KX) mg aZ.f17/\Ev.cB (L2.KOf KX) mg aZ.f18/\Ev.cB (L2.KOf KX) mg aZ.f19/\Ev.cB (L2.KOf KX) mg aZ.f20/\Ev.cB (L2.KOf KX) mg aZ.f21/\Ev.cB (L2.KOf KX) mg aZ.f22/\Ev.cB (L2.KOf KX) mg aZ.f23/\Ev.cB (L2.KOf KX) mg aZ.f24/\Ev.cB (L2.KOf KX) mg aZ.f25/\Ev.cB (L2.KOf KX) mg aZ.f26/\Ev.cB (L2.KOf KX) mg aZ.f27/\Ev.cB (L2.KOf KX) mg aZ.f28/\Ev.cB (L2.KOf KX) mg aZ.f29/\Ev.cB (L2.KOf KX) mg aZ.f30/\Ev.cB (L2.KOf KX) mg aZ.f31/\Ev.cB (L2.KOf KX) mg aZ.f32:=by
   apply#[?_,?_,?_,?_,?_,?_,?_,?_,?_,?_,?_,?_,?_,?_,?_,?_,?_,?_,?_,?_,?_,?_,?_,?_,?_,?_,?_,?_,?_,?_,?_,?_,?_] <;> (
    dsimp only[L2.KOf]
    show Ev.fi_mk (by assumption) (by assumption) (by k_is) (by k_is) (by k_is) (by k_is) #[rfl,rfl,rfl,by decide +kernel,by decide +kernel,by decide +kernel,by decide +kernel] (λ_ _ _ _ _ _ us hl=>by first | (let(_,e):=Ev.len1 hl;subst e;rfl) | (let(_,_,e):=Ev.len2 hl;subst e;rfl) | (let(_,_,_,e):=Ev.len3 hl;subst e;rfl) | (let(_,_,_,_,e):=Ev.len4 hl;subst e;rfl)) ⋯)
  let(m0,m1,m2,m3,m4,m5,m6,m7,m8,m9,m10,m11,m12,m13,m14,m15,m16,m17,m18,m19,m20,m21,m22,m23,m24,m25,m26,m27,m28,m29,m30,m31,m32):=mm
  have rP:Ev.Ql (L2.KOf KX) mg ("MOST_PLACES",.int 6):=by
   dsimp only[L2.KOf]
   refine' Ev.Kh KX G ?a ⋯
   (case a=>k_is)
  have QW:Ev.Ql (L2.KOf KX) mg ("SORTS",.int 4):=by
   dsimp only[L2.KOf]
   refine' Ev.Kh KX G ?a ⋯
   (case a=>k_is)
  have vI:mg "ValueError"=none:=mg_none_of KX G (by k_is)
  have b_all:mg "all"=none:=mg_none_of KX G (by k_is)
  have XJ:mg "bool"=none:=mg_none_of KX G (by k_is)
  have yF:mg "enumerate"=none:=mg_none_of KX G (by k_is)
  have b_int:mg "int"=none:=mg_none_of KX G (by k_is)
  have vJ:mg "isinstance"=none:=mg_none_of KX G (by k_is)
  have b_len:mg "len"=none:=mg_none_of KX G (by k_is)
  have XM:mg "list"=none:=mg_none_of KX G (by k_is)
  have b_max:mg "max"=none:=mg_none_of KX G (by k_is)
  have b_min:mg "min"=none:=mg_none_of KX G (by k_is)
  have QX:mg "range"=none:=mg_none_of KX G (by k_is)
  have Lr:mg "sorted"=none:=mg_none_of KX G (by k_is)
  have QZ:mg "tuple"=none:=mg_none_of KX G (by k_is)
  have b_zip:mg "zip"=none:=mg_none_of KX G (by k_is)
  have vK:PySem.W.nsIn (L2.KOf KX) mainGlobals "NoWeb"=!(!(.ref 37)):=by dsimp only[L2.KOf];k_is
  have nh:PySem.W.nsIn (L2.KOf KX) mainGlobals "NoMarks"=!(!(.ref 157)):=by dsimp only[L2.KOf];k_is
  have yG:PySem.W.nsIn (L2.KOf KX) mainGlobals "KindError"=!(!(.ref 24)):=by dsimp only[L2.KOf];k_is
  have Ar:PySem.W.nsIn (L2.KOf KX) mainGlobals "NoNumber"=!(!(.ref 49)):=by dsimp only[L2.KOf];k_is
  have Ls:PySem.W.nsIn (L2.KOf KX) mainGlobals "NoTurn"=!(!(.ref 61)):=by dsimp only[L2.KOf];k_is
  have Lv:PySem.W.nsIn (L2.KOf KX) mainGlobals "NoKind"=!(!(.ref 73)):=by dsimp only[L2.KOf];k_is
  have Gi:PySem.W.nsIn (L2.KOf KX) mainGlobals "NoPlace"=!(!(.ref 85)):=by dsimp only[L2.KOf];k_is
  have Q5:PySem.W.nsIn (L2.KOf KX) mainGlobals "NoTie"=!(!(.ref 97)):=by dsimp only[L2.KOf];k_is
  have yH:PySem.W.nsIn (L2.KOf KX) mainGlobals "NoNumbers"=!(!(.ref 109)):=by dsimp only[L2.KOf];k_is
  have Lw:PySem.W.nsIn (L2.KOf KX) mainGlobals "NoTree"=!(!(.ref 121)):=by dsimp only[L2.KOf];k_is
  have Lx:PySem.W.nsIn (L2.KOf KX) mainGlobals "NoCode"=!(!(.ref 133)):=by dsimp only[L2.KOf];k_is
  have Au:PySem.W.nsIn (L2.KOf KX) mainGlobals "NoCounts"=!(!(.ref 145)):=by dsimp only[L2.KOf];k_is
  have Ly:PySem.W.nsIn (L2.KOf KX) mainGlobals "NoText"=!(!(.ref 169)):=by dsimp only[L2.KOf];k_is
  have Lz:PySem.W.nsIn (L2.KOf KX) mainGlobals "NoLine"=!(!(.ref 181)):=by dsimp only[L2.KOf];k_is
  have LC:PySem.W.nsIn (L2.KOf KX) mainGlobals "NoDeed"=!(!(.ref 193)):=by dsimp only[L2.KOf];k_is
  have Av:PySem.W.nsIn (L2.KOf KX) mainGlobals "TooGreat"=!(!(.ref 212)):=by dsimp only[L2.KOf];k_is
  have n_b:PySem.W.nsIn (L2.KOf KX) mainGlobals "__builtins__"=!(!(.ref 4)):=by dsimp only[L2.KOf];k_is
  have lm:Ev.Wt aZ.P (L2.KOf KX) mg:=Ev.lm_mk (Ev.XF KX G (aZ.QV _) (aZ.CT _) (aZ.CQ _) n_b (aZ.bm_ok _) ⋯) (.cons #[mg_of KX G vK,aZ.yz _,aZ.Lk _] (.cons #[mg_of KX G nh,aZ.qW _,aZ.Al _] .nil)) ⋯ #[by decide,24,mg_of KX G yG,aZ.vG _,(.cons (aZ.Ln _) (.cons (aZ.Am _) .nil))] (.cons (Ev.bU KX G ⋯ vK (aZ.Lp _)) (.cons (Ev.bU KX G ⋯ Ar (aZ.yC _)) (.cons (Ev.bU KX G ⋯ Ls (aZ.Ga _)) (.cons (Ev.bU KX G ⋯ Lv (aZ.Gb _)) (.cons (Ev.bU KX G ⋯ Gi (aZ.Ao _)) (.cons (Ev.bU KX G ⋯ Q5 (aZ.Lq _)) (.cons (Ev.bU KX G ⋯ yH (aZ.vH _)) (.cons (Ev.bU KX G ⋯ Lw (aZ.Gd _)) (.cons (Ev.bU KX G ⋯ Lx (aZ.Ge _)) (.cons (Ev.bU KX G ⋯ Au (aZ.yD _)) (.cons (Ev.bU KX G ⋯ nh (aZ.Aq _)) (.cons (Ev.bU KX G ⋯ Ly (aZ.Gf _)) (.cons (Ev.bU KX G ⋯ Lz (aZ.Gg _)) (.cons (Ev.bU KX G ⋯ LC (aZ.Gh _)) (.cons (Ev.bU KX G ⋯ Av (aZ.yE _)) (.cons (Ev.Li ⋯ ⋯ ⋯ rfl (aZ.rO _)) .nil))))))))))))))))
  have md:Ev.uM aZ.P (L2.KOf KX) mg:=Ev.md_mk (.cons m0 (.cons m1 (.cons m2 (.cons m3 (.cons m4 (.cons m5 (.cons m6 (.cons m7 (.cons m8 (.cons m9 (.cons m10 (.cons m11 (.cons m12 (.cons m13 (.cons m14 (.cons m15 (.cons m16 (.cons m17 (.cons m18 (.cons m19 (.cons m20 (.cons m21 (.cons m22 (.cons m23 (.cons m24 (.cons m25 (.cons m26 (.cons m27 (.cons m28 (.cons m29 (.cons m30 (.cons m31 (.cons m32 .nil))))))))))))))))))))))))))))))))) (.cons rP (.cons QW .nil)) (.cons vI (.cons b_all (.cons XJ (.cons yF (.cons b_int (.cons vJ (.cons b_len (.cons XM (.cons b_max (.cons b_min (.cons QX (.cons Lr (.cons QZ (.cons b_zip .nil)))))))))))))) (.cons (Ev.RL KX G vK (aZ.yz _) ⋯) (.cons (Ev.RL KX G nh (aZ.qW _) ⋯) .nil)) lm
  show Ev.Kl (Ev.Wx aZ.XH aZ.fns_eq) md (i:=32) (fi:=aZ.f32) rfl rfl rfl m32 hmg
 case S=>show λw H a ns hl hO hS=>Ev.Wv aZ.hevF (aZ.K w.params) H a ns hl (by rw[aZ.CQ];show hO) hS
 case C=>show λ_ _ _ _ z=>z
