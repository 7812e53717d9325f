import PyProof.Rows.All
import Wide.All
import OpenK.AllK
import Wide.FinOn
import Lean
import PyProof.EqAt
import PyProof.EqKinds
import PyProof.TupleCall
import PySem.Challenge.RW_websbykind_k10_pairs_turned
set_option Elab.async false
set_option linter.all false
set_option compiler.extract_closed false
set_option bootstrap.genMatcherCode false
set_option genSizeOf false
set_option maxHeartbeats 4000000
set_option maxRecDepth 100000
set_option autoImplicit true
open PySem PySem.Spec PyProof.Rows
open PySem.W (Frag)
noncomputable section
local macro_rules | `(⋯)=>`(by first |decide |lia |simp)
local macro_rules | `($x⁻¹)=>`(($x).heap.objs.size)
local macro_rules|`(⇑$x)=>`((.slot $x))
local macro_rules|`(↥$x)=>`((.val (.int $x)))
local macro_rules|`(‹$x›)=>`((.dat (.int $x)))
set_option hygiene false in
local macro_rules|`(~~~5)=>`(List (List Int))
local macro_rules|`(~~~0)=>`(List Int)
set_option hygiene false in
local macro_rules|`(~~~1)=>`(List (Addr×Obj))
set_option hygiene false in
local macro_rules|`(~~~2)=>`(model X.prog X.w)
local macro_rules|`(~~~3)=>`(("__debug__":Str))
set_option hygiene false in
local macro_rules|`(~~~7)=>`(Inv X ah Y H s)
set_option hygiene false in
local macro_rules|`(tactic|symm)=>`(tactic|cases h)
abbrev aS:=@PySem.wpAny_bind
abbrev bP:=@PySem.Heap.get?_push_of_some
abbrev dA:=@List.mem_cons_of_mem
abbrev dC:=@List.mem_cons_self
abbrev dE:=@List.size_toArray
abbrev dL:=@List.getElem?_eq_some_iff
abbrev dS:=@PySem.wpAny_pure
abbrev d5:=@Bool.and_eq_true
abbrev eA:=@List.mem_cons
abbrev eC:=@Nat.le_refl
abbrev eD:=@Nat.lt_of_lt_of_le
abbrev eJ:=@List.length_append
abbrev eM:=@PySem.Heap.get?_push_size
abbrev eP:=@List.getElem?_append_left
abbrev eQ:=@PySem.Heap.lt_size
abbrev eR:=@decide_eq_true_eq
abbrev fA:=@List.length_map
abbrev fI:=@Option.bind_eq_some_iff
abbrev fN:=@List.getElem?_set_ne
abbrev fR:=@List.getElem?_append_right
abbrev gL:=@if_pos
abbrev gN:=@List.mem_map
abbrev hU:=@if_neg
abbrev hV:=@List.mem_singleton
abbrev i3:=@List.nodup_cons
abbrev i4:=@List.all_eq_true
abbrev i5:=@List.mem_append_right
abbrev i6:=@PySem.Heap.get?_update_other
abbrev i7:=@Nat.ne_of_lt
abbrev i8:=@List.getElem?_set_self
abbrev i9:=@List.getD_eq_getElem?_getD
abbrev kA:=@Nat.le_trans
abbrev kS:=@Bool.false_ne_true
abbrev lL:=@PySem.wpAny_mono
abbrev lS:=@List.mem_filter
abbrev l4:=@List.length_cons
abbrev l5:=@List.not_mem_nil
abbrev l6:=@List.length_replicate
abbrev l7:=@PySem.wpAny_holding
abbrev l8:=@List.mem_of_getElem?
abbrev l9:=@PySem.wpAny_newObj_type
abbrev mB:=@of_decide_eq_true
abbrev mE:=@List.getElem?_eq_getElem
abbrev mI:=@PySem.wpAny_field
abbrev mM:=@PySem.wpAny_truthy_bool
abbrev mP:=@Nat.lt_succ_self
abbrev nE:=@Nat.lt_irrefl
abbrev nK:=@List.append_nil
abbrev nN:=@PyProof.Rows.callWith_type1
abbrev nS:=@PyProof.Rows.slot_tuple_getitem
abbrev nV:=@Ne.symm
abbrev n0:=@List.length_singleton
abbrev oC:=@Array.length_toList
abbrev oD:=@Option.some.inj
abbrev oI:=@List.getElem?_take_of_lt
abbrev oP:=@PySem.Heap.get?_update_self
abbrev oQ:=@List.replicate_succ
abbrev o6:=@List.map_congr_left
abbrev pE:=@List.lookup_cons
abbrev pV:=@PySem.wpAny_callSpecial?_slot
abbrev qS:=@List.mem_append_left
abbrev rV:=@PySem.sizeLine_eq
abbrev sB:=@decide_eq_false
abbrev sK:=@decide_eq_true
abbrev sR:=@PySem.Heap.size_push
abbrev sT:=@List.getElem?_eq_none_iff
abbrev tJ:=@List.filterMap_cons
abbrev tP:=@List.mem_map_of_mem
abbrev tS:=@List.flatten_cons
abbrev t7:=@List.nodup_nil
abbrev t8:=@PySem.wpAny_seqItems
abbrev t9:=@List.mem_append
abbrev u7:=@Nat.zero_le
abbrev u8:=@PySem.W.kia_one
abbrev vS:=@Nat.add_sub_cancel_left
abbrev v0:=@List.length_take
abbrev v6:=@PySem.wpAny_call_entry
abbrev wE:=@List.mem_range
abbrev wP:=@PySem.wpAny_Call_Name_kw
abbrev wS:=@List.mem_replicate
abbrev wT:=@PySem.Obj.data_mapFields
abbrev xI:=@PySem.wpAny_standAt
abbrev xL:=@or_false
abbrev x0:=@Nat.lt_or_ge
abbrev x5:=@List.Perm.refl
abbrev yA:=@List.getElem?_map
abbrev yB:=@List.length_nil
abbrev yY:=@List.length_set
abbrev y6:=@List.nil_append
abbrev y7:=@Array.getD_eq_getD_getElem?
abbrev y8:=@Bool.or_eq_true
abbrev An:=@if_true
abbrev Ap:=@Array.getElem?_eq_some_iff
abbrev At:=@PySem.F.slot_tuple_iterator_next
abbrev AA:=@PySem.F.plain_min_loop
abbrev AB:=@List.pairwise_cons
abbrev AC:=@PySem.Obj.isFreed_of_fields
abbrev AD:=@PySem.wpAny_setField_rec
abbrev AE:=@PySem.wpAny_passesOwn
abbrev AF:=@List.append_assoc
abbrev AG:=@List.Sublist.refl
abbrev AH:=@List.nodup_append
abbrev AI:=@List.map_append
abbrev AJ:=@Nat.ne_of_gt
abbrev AK:=@PySem.mem_of_lookup
abbrev AL:=@Nat.lt_of_succ_lt_succ
abbrev AM:=@PySem.wpAny_pyIter_tuple
abbrev AO:=@List.zip_cons_cons
abbrev AQ:=@Bool.false_eq_true
abbrev AR:=@List.dropLast_concat_getLast
abbrev AS:=@List.getElem?_eq_none
abbrev AT:=@List.contains_iff_mem
abbrev AU:=@PySem.wpAny_pyIter_list
abbrev AV:=@Nat.lt_succ_of_lt
abbrev AW:=@Bool.not_eq_true'
abbrev AX:=@Int.toNat_natCast
abbrev AY:=@Array.perm_iff_toList_perm
abbrev AZ:=@Nat.not_succ_le_zero
abbrev A4:=@List.range_eq_range'
abbrev A5:=@PySem.wpAny_setField
abbrev A6:=@PySem.wpAny_execs_cons
abbrev A7:=@List.drop_length
abbrev A8:=@List.filter_cons
abbrev A9:=@List.length_reverse
abbrev Bi:=@PySem.codeAny_mono
abbrev Bz:=@PySem.F.args_tuple_add_2
abbrev BA:=@PySem.W.callWith_K
abbrev BB:=@List.of_mem_zip
abbrev BC:=@PySem.F.entry_tuple_add
abbrev BD:=@Nat.not_lt_zero
abbrev BE:=@PySem.F.plainAttrs_list
abbrev BF:=@PySem.codeAny_builtin
abbrev BH:=@Array.Perm.refl
abbrev BI:=@Nat.lt_of_le_of_lt
abbrev BM:=@Nat.lt_of_lt_of_eq
abbrev BN:=@Int.emod_lt_of_pos
abbrev BO:=@List.mem_singleton_self
abbrev BQ:=@Option.map_eq_some_iff
abbrev BS:=@PySem.W.cellsFrom_some
abbrev BU:=@PySem.F.slot_tuple_add
abbrev B0:=@Nat.le_of_succ_le_succ
abbrev B1:=@List.reverse_cons
abbrev B2:=@Nat.le_succ
abbrev B3:=@PySem.W.kitx_list
abbrev B5:=@PySem.W.kitx_dict
abbrev B6:=@PySem.wpAny_letGo
abbrev B8:=@Nat.succ.inj
abbrev B9:=@List.take_append_drop
abbrev Cc:=@List.set_append_right
abbrev Cf:=@Nat.sub_eq_zero_of_le
abbrev Cn:=@beq_self_eq_true
abbrev Co:=@List.getElem_mem
abbrev Cs:=@List.range'_succ
abbrev CC:=@PySem.wpAny_newList
abbrev CF:=@PySem.wpAny_onRaise
abbrev CH:=@PySem.W.mg_of
abbrev CI:=@PySem.wpAny_rule
abbrev CL:=@beq_eq_false_iff_ne
abbrev CS:=@Option.map_some
abbrev CY:=@Int.emod_nonneg
abbrev C0:=@Nat.le_of_lt
abbrev C1:=@if_false
abbrev C2:=@PySem.wpAny_typeOf
abbrev C5:=@PySem.wpAny_Name
abbrev C6:=@PySem.wpAny_call
theorem nt{p:Prop}(h:false=true):p:=Bool.noConfusion h
namespace L2
def iT(s:Stmt):Arguments:=match s with
 |.FunctionDef _ a _ _ _ _ _ _ _ _=>a
 |_=>{ posonlyargs:=[],args:=[],vararg:=none,kwonlyargs:=[],kw_defaults:=[],kwarg:=none,defaults:=[]}
def bA(s:Stmt):List Stmt:=match s with
 |.FunctionDef _ _ b _ _ _ _ _ _ _=>b
 |_=>[]
def aF(s:Stmt):Scope:=match s with
 |.FunctionDef _ _ _ _ _ _ sc _ _ _=>sc
 |_=>{ kind:=.function,names:=[],isGenerator:=false,isCoroutine:=false}
end L2
namespace Ev
open L2
noncomputable def qT(q:Addr)(K:Params->Frag)(P:Params):Frag:=(q,{ cls:=.none,data:=.fields #[]})::K P
section
open PySem.W
noncomputable def Kq(tb:String->Option Builtin)(p:Program)(w:World)(n₀:Nat)(ann:Option Value):Nat->SharedT->Thread->Option SharedT
 | 0,_,_=>none
 |n+1,s,t=>match through t with
  |true=>some s
  |false=>match stepOk n₀ ann t with
   |false=>none
   |true=>match stepT (denote tb) p w s t with
    |some (s',t')=>Kq tb p w n₀ ann n s' t'
    |none=>none
theorem zK{tb:String->Option Builtin}{p:Program}{w:World}{n₀:Nat}{ann:Option Value}:∀{n:Nat}{s s':SharedT}{t:Thread},Kq tb p w n₀ ann n s t=some s'->topRun tb p w n₀ ann n s.abs t=some s'.abs
 | 0,_,_,_,h=>by symm
 |n+1,s,s',t,h=>by
  unfold Kq at h;unfold topRun;cases he:through t with
  |true=>rw[he]at h;symm;rfl
  |false=>
   rw[he]at h;cases hk:stepOk n₀ ann t with
   |false=>rw[hk]at h;symm
   |true=>
    rw[hk]at h;cases hs:stepT (denote tb) p w s t with
    |none=>rw[hs]at h;symm
    |some r=>obtain⟨s₂,t₂⟩:=r;rw[hs]at h;rw[stepT_spec hs];exact zK h
noncomputable def P4:BT->Nat->List Obj->BT
 |t,_,[]=>t
 |t,n,o::os=>P4 (t.ins n o) (n+1) os
noncomputable def Fj(P:Params):BT:=P4 .nil 0 (boot_heap P).objs.toList
theorem Fo(P:Params):absHeap (Fj P) 11 (boot_heap P).life=boot_heap P:=by kernel_rfl
noncomputable abbrev AN (P:Params):Option Value:=(boot_heap P).nsMap mainGlobals "__annotations__"
theorem BG{p q:Program}{loose:List Str}{Xt:Shared->Bool}{α:Type}{Yf:Shared->α}{Ya:World->α}{N:Nat}{ann:Option Value}
  (e:opening p=plainProg p.main.scope.names) (hN:Nat.ble 600 N=true) (f:∀s,fenceModules? p s=some s) (ha:∀P,AN P=ann)
  (run:∀(w:World) (os:OsState),(Kq treeTable p w 11 ann N ⟨Fj w.params,11,(boot_heap w.params).life,#[],boot_drawn,boot_toks,os⟩ (topStub p)).map (λs=>
   (staticsOk (importedModules p.main.body) (boot_heap w.params) s.abs.heap&&namesBound p s.abs.heap&&gensDone s.abs&&laidKept (boot_heap w.params) s.abs.heap,openSeen q loose (importedModules p.main.body) Xt true s.abs,Yf s.abs))=some (true,openGood q loose,Ya w)):LeftO p q loose Xt Yf Ya N:=λw=>by
 obtain⟨⟨h,gs,d,k,os⟩,e1,e2⟩:=BQ.mp (boot_open e hN f w);obtain⟨rfl,rfl,rfl,rfl⟩:h=boot_heap w.params/\gs=Array.mk []/\d=boot_drawn/\k=boot_toks:=by simpa using e2
 obtain⟨s,r1,r2⟩:=BQ.mp (run w os);obtain⟨l1,l2,l3⟩:_/\_/\_:=by simpa only[Prod.mk.injEq]using r2
 have r:=zK r1;unfold openEnds;rw[e1];show (topFrom treeTable p w N _).map _=_;have z0:((boot_heap w.params).isNs mainGlobals&&(Array.mk []:Array GenState).size==0)=true:=by kernel_rfl
 have t:topFrom treeTable p w N ⟨boot_heap w.params,Array.mk [],boot_drawn,boot_toks,os⟩=some s.abs:=by
  unfold topFrom;dsimp only;rw[z0];have r':topRun treeTable p w (boot_heap w.params).objs.size ((boot_heap w.params).nsMap mainGlobals "__annotations__") N ⟨boot_heap w.params,Array.mk [],boot_drawn,boot_toks,os⟩ (topStub p)=some s.abs:=by
   have:=ha w.params;unfold AN at this;rw[this];have z:SharedT.abs ⟨Fj w.params,11,(boot_heap w.params).life,#[],boot_drawn,boot_toks,os⟩=⟨boot_heap w.params,Array.mk [],boot_drawn,boot_toks,os⟩:=by unfold SharedT.abs;dsimp only;rw[Fo]
   rw[z]at r;exact r
  rw[r'];show (match staticsOk (importedModules p.main.body) (boot_heap w.params) s.abs.heap&&namesBound p s.abs.heap&&gensDone s.abs&&laidKept (boot_heap w.params) s.abs.heap with |true=>_ |false=>_)=_
  rw[l1]
 rw[t];exact congrArg some (Prod.ext l2 l3)
theorem Xc(P:Params):AN P=some (.ref 6):=by kernel_rfl
end
end Ev
namespace aX
open L2 Ev
def st(j:Nat):Stmt:=PySem.Challenge.pw_websbykind_k10_pairs_turned.main.body.getD j (.Pass ⟨0,0,0,0⟩)
noncomputable def de(P:Params)(s:Str)(t:Tok)(v:Value):DictEntry:=⟨PyData.keyHash P s,.str s t,v⟩
noncomputable def co(vs:Array Value):Obj:=⟨.type "code",none,.fields vs,#[]⟩
noncomputable def fo(j:Nat)(n:Str)(kV doc pm:Value)(an:Option Addr)(bD ct:Value):Obj:=⟨.type "function",none,.func (PySem.W.fnOf n n (iT (st j)) (bA (st j)) (aF (st j)) .none kV doc pm an bD ct),#[]⟩
noncomputable def ce(n:Str)(b a s r t u:Nat):Obj:=⟨.type "type",none,.cls ⟨n,[.ref b],[.ref a,.ref b,.type "ValueError",.type "Exception",.type "BaseException",.type "object"],s,n,true,[],[],false,none,false⟩,#[some (.ref r),none,some (.str n t),some (.str n u),some (.builtin "ValueError.__new__"),some (.bool true)]⟩
def cd(n:Str)(t l p r:Nat)(x y z:Value)(u:Nat):Obj:=co #[.str n t,.str n (t+1),.str "/claim/cut.py" (t+2),.int l 0,.int p 0,.int 0 0,.int 0 0,.int 3 0,.ref r,.bool true,.int 181 0,.ref (r+1),.none,x,y,z,.int u 0,.int l 0,.str "/claim/cut.py" (u+1)]
def fq(j:Nat)(n:Str)(m:Value)(c:Addr):Obj:=fo j n .none .none m none (.ref c) .none
def m0:Value:=.str "websbykind.whole" 378
def m1:Value:=.str "websbykind.webs" 405
def m2:Value:=.str "websbykind.pairs" 491
def m3:Value:=.str "law_websbykind_k10_pairs_turned" 515
def K(P:Params):Frag:=
 (nat_lit 3,⟨.type "dict",none,.dict #[de P "__name__" 165 (.str "law_websbykind_k10_pairs_turned" 515),de P "__doc__" 166 (.none),de P "__package__" 167 (.none),de P "__loader__" 168 (.builtin "__main__.__loader__#opaque"),de P "__spec__" 169 (.none),de P "__annotations__" 170 (.ref 6),de P "__builtins__" 171 (.ref 4),de P "__file__" 173 (.str "/claim/cut.py" 172),de P "__cached__" 174 (.none),de P "KindError" 206 (.ref 24),de P "NoWeb" 222 (.ref 37),de P "NoNumber" 238 (.ref 49),de P "NoTurn" 254 (.ref 61),de P "NoKind" 270 (.ref 73),de P "NoPlace" 286 (.ref 85),de P "NoTie" 302 (.ref 97),de P "NoText" 318 (.ref 109),de P "NoLine" 334 (.ref 121),de P "NoDeed" 350 (.ref 133),de P "TooGreat" 377 (.ref 152),de P "is_whole" 386 (.ref 161),de P "is_within" 395 (.ref 168),de P "must_be_within" 404 (.ref 175),de P "MOST_PLACES" 408 (.int 6 407),de P "is_web" 414 (.ref 180),de P "is_tie" 420 (.ref 185),de P "is_rising" 426 (.ref 190),de P "must_be_web" 433 (.ref 197),de P "is_turn" 439 (.ref 202),de P "must_be_turn" 447 (.ref 209),de P "turned" 455 (.ref 216),de P "led_on" 461 (.ref 221),de P "tie_of" 469 (.ref 228),de P "pairs_of" 475 (.ref 233),de P "rounds_along" 481 (.ref 238),de P "round_from" 490 (.ref 245),de P "pair_rounds" 500 (.ref 252),de P "rounds_of_pairs" 506 (.ref 257),de P "stands" 514 (.ref 264),de P "_law_cell_at" 524 (.ref 271),de P "_law_state" 533 (.ref 278),de P "_law_take" 543 (.ref 285),de P "_law_pairs" 549 (.ref 290),de P "_law_mixed_row" 559 (.ref 297),de P "_law_web" 565 (.ref 302),de P "_law_turn" 576 (.ref 309),de P "_law_turned" 582 (.ref 314),de P "_law_pair_rounds" 593 (.ref 321),de P "_law_whole" 600 (.ref 328),de P "_law_is_turn" 606 (.ref 333),de P "_law_bent_turn" 619 (.ref 340),de P "_law_bad_web" 627 (.ref 347),de P "_law_bad_number" 635 (.ref 354),de P "_law_same" 641 (.ref 359),de P "_law_refused" 647 (.ref 364),de P "law" 667 (.ref 371)] 56,#[]⟩) ::
 (nat_lit 4,⟨.type "module",(some 0),.plain,#[]⟩) ::
 (nat_lit 24,⟨.type "type",none,.cls ⟨"KindError",[.type "ValueError"],[.ref 24,.type "ValueError",.type "Exception",.type "BaseException",.type "object"],23, "KindError",true,[],[.ref 37,.ref 49,.ref 61,.ref 73,.ref 85,.ref 97,.ref 109,.ref 121,.ref 133,.ref 152],false,none,false⟩,#[some (.ref 15),none,some (.str "KindError" 189),some (.str "KindError" 197),some (.builtin "ValueError.__new__"),some (.bool true)]⟩) ::
 (nat_lit 23,⟨.type "dict",none,.dict #[de P "__module__" 196 (.str "websbykind.errors" 187),de P "__firstlineno__" 200 (.int 2 199),de P "__static_attributes__" 201 (.ref 22),de P "__weakref__" 203 (.ref 25),de P "__doc__" 204 (.none)] 3,#[]⟩) ::
 (nat_lit 37,ce "NoWeb" 24 37 36 28 207 215) ::
 (nat_lit 36,⟨.type "dict",none,.dict #[de P "__module__" 214 (.str "websbykind.errors" 187),de P "__firstlineno__" 218 (.int 4 217),de P "__static_attributes__" 219 (.ref 35),de P "__doc__" 220 (.none)] 2,#[]⟩) ::
 (nat_lit 49,ce "NoNumber" 24 49 48 40 223 231) ::
 (nat_lit 48,⟨.type "dict",none,.dict #[de P "__module__" 230 (.str "websbykind.errors" 187),de P "__firstlineno__" 234 (.int 6 233),de P "__static_attributes__" 235 (.ref 47),de P "__doc__" 236 (.none)] 2,#[]⟩) ::
 (nat_lit 61,ce "NoTurn" 24 61 60 52 239 247) ::
 (nat_lit 60,⟨.type "dict",none,.dict #[de P "__module__" 246 (.str "websbykind.errors" 187),de P "__firstlineno__" 250 (.int 8 249),de P "__static_attributes__" 251 (.ref 59),de P "__doc__" 252 (.none)] 2,#[]⟩) ::
 (nat_lit 73,ce "NoKind" 24 73 72 64 255 263) ::
 (nat_lit 85,ce "NoPlace" 24 85 84 76 271 279) ::
 (nat_lit 97,ce "NoTie" 24 97 96 88 287 295) ::
 (nat_lit 109,ce "NoText" 24 109 108 100 303 311) ::
 (nat_lit 121,ce "NoLine" 24 121 120 112 319 327) ::
 (nat_lit 133,ce "NoDeed" 24 133 132 124 335 343) ::
 (nat_lit 152,ce "TooGreat" 24 152 151 136 351 359) ::
 (nat_lit 160,cd "is_whole" 380 28 1 155 (.ref 157) (.ref 158) (.ref 159) 384) ::
 (nat_lit 161,fq 13 "is_whole" m0 160) ::
 (nat_lit 167,cd "is_within" 387 30 3 162 (.ref 164) (.ref 165) (.ref 166) 393) ::
 (nat_lit 168,fq 14 "is_within" m0 167) ::
 (nat_lit 174,cd "must_be_within" 396 32 3 169 (.ref 171) (.ref 172) (.ref 173) 402) ::
 (nat_lit 175,fq 15 "must_be_within" m0 174) ::
 (nat_lit 179,cd "is_web" 409 37 1 176 .none .none (.ref 178) 412) ::
 (nat_lit 180,fq 18 "is_web" m1 179) ::
 (nat_lit 184,cd "is_tie" 415 44 2 181 .none .none (.ref 183) 418) ::
 (nat_lit 185,fq 19 "is_tie" m1 184) ::
 (nat_lit 189,cd "is_rising" 421 48 1 186 .none .none (.ref 188) 424) ::
 (nat_lit 190,fq 20 "is_rising" m1 189) ::
 (nat_lit 196,cd "must_be_web" 427 50 1 191 (.ref 193) (.ref 194) (.ref 195) 431) ::
 (nat_lit 197,fq 21 "must_be_web" m1 196) ::
 (nat_lit 201,cd "is_turn" 434 53 2 198 .none .none (.ref 200) 437) ::
 (nat_lit 202,fq 22 "is_turn" m1 201) ::
 (nat_lit 208,cd "must_be_turn" 440 58 2 203 (.ref 205) (.ref 206) (.ref 207) 445) ::
 (nat_lit 209,fq 23 "must_be_turn" m1 208) ::
 (nat_lit 215,cd "turned" 448 61 2 210 (.ref 212) (.ref 213) (.ref 214) 453) ::
 (nat_lit 216,fq 24 "turned" m1 215) ::
 (nat_lit 220,cd "led_on" 456 65 2 217 .none .none (.ref 219) 459) ::
 (nat_lit 221,fq 25 "led_on" m1 220) ::
 (nat_lit 227,cd "tie_of" 462 68 2 222 (.ref 224) (.ref 225) (.ref 226) 467) ::
 (nat_lit 228,fq 26 "tie_of" m1 227) ::
 (nat_lit 232,cd "pairs_of" 470 70 1 229 .none .none (.ref 231) 473) ::
 (nat_lit 233,fq 27 "pairs_of" m1 232) ::
 (nat_lit 237,cd "rounds_along" 476 72 2 234 .none .none (.ref 236) 479) ::
 (nat_lit 238,fq 28 "rounds_along" m1 237) ::
 (nat_lit 244,cd "round_from" 482 75 2 239 (.ref 241) (.ref 242) (.ref 243) 488) ::
 (nat_lit 245,fq 29 "round_from" m1 244) ::
 (nat_lit 251,cd "pair_rounds" 493 81 2 246 (.ref 248) (.ref 249) (.ref 250) 498) ::
 (nat_lit 252,fq 31 "pair_rounds" m2 251) ::
 (nat_lit 256,cd "rounds_of_pairs" 501 84 1 253 .none .none (.ref 255) 504) ::
 (nat_lit 257,fq 32 "rounds_of_pairs" m2 256) ::
 (nat_lit 263,cd "stands" 507 87 2 258 (.ref 260) (.ref 261) (.ref 262) 512) ::
 (nat_lit 264,fq 33 "stands" m2 263) ::
 (nat_lit 270,cd "_law_cell_at" 517 90 2 265 (.ref 267) (.ref 268) (.ref 269) 522) ::
 (nat_lit 271,fq 35 "_law_cell_at" m3 270) ::
 (nat_lit 277,cd "_law_state" 525 94 2 272 (.ref 274) (.ref 275) (.ref 276) 531) ::
 (nat_lit 278,fq 36 "_law_state" m3 277) ::
 (nat_lit 284,cd "_law_take" 534 99 2 279 (.ref 281) (.ref 282) (.ref 283) 541) ::
 (nat_lit 285,fq 37 "_law_take" m3 284) ::
 (nat_lit 289,cd "_law_pairs" 544 108 1 286 .none .none (.ref 288) 547) ::
 (nat_lit 290,fq 38 "_law_pairs" m3 289) ::
 (nat_lit 296,cd "_law_mixed_row" 550 113 2 291 (.ref 293) (.ref 294) (.ref 295) 557) ::
 (nat_lit 297,fq 39 "_law_mixed_row" m3 296) ::
 (nat_lit 301,cd "_law_web" 560 119 2 298 .none .none (.ref 300) 563) ::
 (nat_lit 302,fq 40 "_law_web" m3 301) ::
 (nat_lit 308,cd "_law_turn" 566 133 2 303 (.ref 305) (.ref 306) (.ref 307) 574) ::
 (nat_lit 309,fq 41 "_law_turn" m3 308) ::
 (nat_lit 313,cd "_law_turned" 577 142 2 310 .none .none (.ref 312) 580) ::
 (nat_lit 314,fq 42 "_law_turned" m3 313) ::
 (nat_lit 320,cd "_law_pair_rounds" 583 144 1 315 (.ref 317) (.ref 318) (.ref 319) 591) ::
 (nat_lit 321,fq 43 "_law_pair_rounds" m3 320) ::
 (nat_lit 327,cd "_law_whole" 594 155 1 322 (.ref 324) (.ref 325) (.ref 326) 598) ::
 (nat_lit 328,fq 44 "_law_whole" m3 327) ::
 (nat_lit 332,cd "_law_is_turn" 601 157 2 329 .none .none (.ref 331) 604) ::
 (nat_lit 333,fq 45 "_law_is_turn" m3 332) ::
 (nat_lit 339,cd "_law_bent_turn" 607 161 2 334 (.ref 336) (.ref 337) (.ref 338) 617) ::
 (nat_lit 340,fq 46 "_law_bent_turn" m3 339) ::
 (nat_lit 346,cd "_law_bad_web" 620 168 1 341 (.ref 343) (.ref 344) (.ref 345) 625) ::
 (nat_lit 347,fq 47 "_law_bad_web" m3 346) ::
 (nat_lit 353,cd "_law_bad_number" 628 173 2 348 (.ref 350) (.ref 351) (.ref 352) 633) ::
 (nat_lit 354,fq 48 "_law_bad_number" m3 353) ::
 (nat_lit 358,cd "_law_same" 636 175 2 355 .none .none (.ref 357) 639) ::
 (nat_lit 359,fq 49 "_law_same" m3 358) ::
 (nat_lit 363,cd "_law_refused" 642 183 1 360 .none .none (.ref 362) 645) ::
 (nat_lit 364,fq 50 "_law_refused" m3 363) ::
 (nat_lit 370,cd "law" 648 197 1 365 (.ref 367) (.ref 368) (.ref 369) 665) ::
 (nat_lit 371,fq 51 "law" m3 370)::[]
noncomputable def as:List Addr:=nat_lit 3::nat_lit 4::nat_lit 24::nat_lit 23::nat_lit 37::nat_lit 36::nat_lit 49::nat_lit 48::nat_lit 61::nat_lit 60::nat_lit 73::nat_lit 85::nat_lit 97::nat_lit 109::nat_lit 121::nat_lit 133::nat_lit 152::nat_lit 160::nat_lit 161::nat_lit 167::nat_lit 168::nat_lit 174::nat_lit 175::nat_lit 179::nat_lit 180::nat_lit 184::nat_lit 185::nat_lit 189::nat_lit 190::nat_lit 196::nat_lit 197::nat_lit 201::nat_lit 202::nat_lit 208::nat_lit 209::nat_lit 215::nat_lit 216::nat_lit 220::nat_lit 221::nat_lit 227::nat_lit 228::nat_lit 232::nat_lit 233::nat_lit 237::nat_lit 238::nat_lit 244::nat_lit 245::nat_lit 251::nat_lit 252::nat_lit 256::nat_lit 257::nat_lit 263::nat_lit 264::nat_lit 270::nat_lit 271::nat_lit 277::nat_lit 278::nat_lit 284::nat_lit 285::nat_lit 289::nat_lit 290::nat_lit 296::nat_lit 297::nat_lit 301::nat_lit 302::nat_lit 308::nat_lit 309::nat_lit 313::nat_lit 314::nat_lit 320::nat_lit 321::nat_lit 327::nat_lit 328::nat_lit 332::nat_lit 333::nat_lit 339::nat_lit 340::nat_lit 346::nat_lit 347::nat_lit 353::nat_lit 354::nat_lit 358::nat_lit 359::nat_lit 363::nat_lit 364::nat_lit 370::nat_lit 371::[]
def as2:List Addr:=nat_lit 366::as
noncomputable def qv:Program:={ PySem.Challenge.pw_websbykind_k10_pairs_turned with main:={ PySem.Challenge.pw_websbykind_k10_pairs_turned.main with body:=[st 1,st 2,st 3,st 4,st 5,st 6,st 7,st 8,st 9,st 10,st 11,st 13,st 14,st 15,st 17,st 18,st 19,st 20,st 21,st 22,st 23,st 24,st 25,st 26,st 27,st 28,st 29,st 31,st 32,st 33,st 35,st 36,st 37,st 38,st 39,st 40,st 41,st 42,st 43,st 44,st 45,st 46,st 47,st 48,st 49,st 50,st 51]}}
theorem Xd(P:Params):as2=(qT 366 K P).map (·.1):=by kernel_rfl
theorem op:PySem.W.opening PySem.Challenge.rw_websbykind_k10_pairs_turned.row.prog=PySem.W.plainProg PySem.Challenge.rw_websbykind_k10_pairs_turned.row.prog.main.scope.names:=by kernel_rfl
theorem fe:∀s,PySem.fenceModules? PySem.Challenge.rw_websbykind_k10_pairs_turned.row.prog s=some s:=λs=>by kernel_rfl
theorem hl:PySem.W.LeftO PySem.Challenge.rw_websbykind_k10_pairs_turned.row.prog qv [] (λs=>PySem.W.xlAt qv [] s&&PySem.W.recOk (PySem.W.OpenRow.toRowW PySem.Challenge.rw_websbykind_k10_pairs_turned.row).records s) (λs=>as2.map s.heap.get?) (λw=>(qT 366 K w.params).map λp:Nat×Obj=>some p.2) 8000:=BG op ⋯ fe Xc λw os=>by kernel_rfl
end aX
namespace Ev
open PySem PySem.W
end Ev
namespace L2
abbrev Key:=Sum Int Str
noncomputable def qU:Key->Value->Bool
 |.inl k,v=>Value.isInt k v
 |.inr x,v=>Value.isStrOf x v
noncomputable def keyH(w:World):Key->Int
 |.inl k=>hashInt k
 |.inr x=>hashStr w x
theorem bB:∀{k:Key}{v:Value},qU k v=true->(∃i t,k=Sum.inl i/\v=Value.int i t)\/(∃x t,k=Sum.inr x/\v=Value.str x t)
 |.inl i,v,h=>by
  obtain⟨t,e⟩:=Value.isInt_shape (k:=i) (v:=v) h;exact .inl ⟨i,t,rfl,e⟩
 |.inr x,v,h=>by
  obtain⟨t,e⟩:=Value.isStrOf_shape (x:=x) (v:=v) h;exact .inr ⟨x,t,rfl,e⟩
theorem BJ(i:Int)(t:Tok):qU (.inl i) (.int i t)=true:=by simp[qU,Value.isInt]
theorem BK(x:Str)(t:Tok):qU (.inr x) (.str x t)=true:=by simp[qU,Value.isStrOf]
theorem QF(a b:Int):decide ((Sum.inl a:Key)=Sum.inl b)=(a==b):=by
 by_cases e:a=b
 . subst e;simp
 .
  have h : ¬ (Sum.inl a:Key)=Sum.inl b:=λq=>e (Sum.inl.inj q)
  rw[sB h];exact (CL.mpr e).symm
theorem QG(a b:Str):decide ((Sum.inr a:Key)=Sum.inr b)=decide (a=b):=by
 by_cases e:a=b
 . subst e;simp
 .
  have h : ¬ (Sum.inr a:Key)=Sum.inr b:=λq=>e (Sum.inr.inj q)
  rw[sB h,sB e]
theorem QH(a:Int)(b:Str):decide ((Sum.inl a:Key)=Sum.inr b)=false:=sB (λq=>nomatch q)
theorem QJ(a:Str)(b:Int):decide ((Sum.inr a:Key)=Sum.inl b)=false:=sB (λq=>nomatch q)
def gI(prog:Program)(w:World):PySem.KeyKind prog w Key where
 is:=qU
 hash:=keyH w
 inj:=λv a b ha hb=>by
  rcases bB ha with ⟨i,t,rfl,rfl⟩ |⟨x,t,rfl,rfl⟩
  .
   rcases bB hb with ⟨j,u,rfl,e⟩ |⟨y,u,rfl,e⟩
   . injection e with e1 _;rw[e1]
   . exact nomatch e
  .
   rcases bB hb with ⟨j,u,rfl,e⟩ |⟨y,u,rfl,e⟩
   . exact nomatch e
   . injection e with e1 _;rw[e1]
 byValue:=λk v h=>by
  rcases bB h with ⟨i,t,rfl,rfl⟩ |⟨x,t,rfl,rfl⟩ <;> rfl
 pyHash:=λhv h=>by
  rcases bB hv with ⟨i,t,rfl,rfl⟩ |⟨x,t,rfl,rfl⟩
  . exact wpAny_pyHash_int h
  . exact wpAny_pyHash_str h
 eqBool:=λhu hv h=>by
  rcases bB hu with ⟨i,t,rfl,rfl⟩ |⟨x,t,rfl,rfl⟩
  .
   rcases bB hv with ⟨j,u,rfl,rfl⟩ |⟨y,u,rfl,rfl⟩
   . rw[QF]at h;exact wpAny_eqBool_int h
   . rw[QH]at h;exact SeqAt.EqAt.int_str i t y u _ _ _ _ h
  .
   rcases bB hv with ⟨j,u,rfl,rfl⟩ |⟨y,u,rfl,rfl⟩
   . rw[QJ]at h;exact SeqAt.EqAt.str_int x t j u _ _ _ _ h
   . rw[QG]at h;exact wpAny_eqBool_str h
 «strs»:=λk x t v h=>by
  rcases bB h with ⟨i,u,rfl,e⟩ |⟨y,u,rfl,e⟩
  . exact nomatch e
  . injection e with e1 _;subst e1;cases v <;> rfl
theorem vh(prog:Program)(w:World)(i:Int)(t:Tok):(gI prog w).is (.inl i) (.int i t)=true:=BJ i t
theorem vj(prog:Program)(w:World)(x:Str)(t:Tok):(gI prog w).is (.inr x) (.str x t)=true:=BK x t
inductive V where
 |non |bl (b:Bool) |int (i:Int) |str (x:Str) |QK (b:Array UInt8) |flt (b:UInt64) |ref (a:Addr) |ty (n:String)
 deriving DecidableEq
noncomputable def RelV:V->Value->Prop
 |.non,u=>u=Value.none
 |.bl b,u=>u=Value.bool b
 |.int i,u=>∃t,u=Value.int i t
 |.str x,u=>∃t,u=Value.str x t
 |.QK b,u=>∃t,u=Value.bytes b t
 |.flt b,u=>∃t,u=Value.float b t
 |.ref a,u=>u=Value.ref a
 |.ty n,u=>u=Value.type n
abbrev Vals:List V->List Value->Prop:=Paired RelV
theorem Vals.length{xs:List V}{us:List Value}(r:Vals xs us):xs.length=us.length:=Paired.length r
theorem Vals.get:∀{xs:List V}{us:List Value}{i:Nat}{x:V},Vals xs us->xs[i]?=some x->∃u,us[i]?=some u/\RelV x u
 |_,_,_,_,.nil,e=>by simp at e
 |_,_,0,_,.cons r _,e=>by simp at e;subst e;exact⟨_,rfl,r⟩
 |_,_,i+1,x,.cons _ t,e=>by
  obtain⟨u,h1,h2⟩:=Vals.get (i:=i) (x:=x) t (by simpa using e)
  exact⟨u,by simpa using h1,h2⟩
theorem Vals.set{x:V}{u:Value}(r:RelV x u):∀{xs:List V}{us:List Value} (i:Nat),Vals xs us->Vals (xs.set i x) (us.set i u)
 |_,_,_,.nil=>.nil
 |_,_,0,.cons _ t=>.cons r t
 |_,_,i+1,.cons q t=>.cons q (Vals.set r i t)
theorem Vals.append:∀{xs ys:List V}{us ws:List Value},Vals xs us->Vals ys ws->Vals (xs++ys) (us++ws)
 |_,_,_,_,.nil,s=>s
 |_,_,_,_,.cons r t,s=>.cons r (Vals.append t s)
theorem Vals.take:∀{xs:List V}{us:List Value} (n:Nat),Vals xs us->Vals (xs.take n) (us.take n)
 |_,_,0,_=>.nil
 |_,_,_+1,.nil=>.nil
 |_,_,n+1,.cons r t=>.cons r (Vals.take n t)
theorem Vals.drop:∀{xs:List V}{us:List Value} (n:Nat),Vals xs us->Vals (xs.drop n) (us.drop n)
 |_,_,0,r=>r
 |_,_,_+1,.nil=>.nil
 |_,_,n+1,.cons _ t=>Vals.drop n t
def Xe:Option V->Option Value->Prop
 |some v,some u=>RelV v u
 |none,none=>True
 |_,_=>False
def KV{κ:Type}:List (κ×V)->List (κ×Value)->Prop:=Paired λ(p:κ×V) (q:κ×Value)=>p.1=q.1/\RelV p.2 q.2
noncomputable def kV:Key->V
 |.inl i=>.int i
 |.inr x=>.str x
inductive HO where
 |lst (xs:List V)
 |tup (xs:List V)
 |dK (dN:List (Key×V)) |dT (dN:List (List Key×V))
 |set (S:Int->Bool) (n:Nat)
 |ins (C dx:Addr) (fs:List (Str×V))
 |own (x:Addr)
 |xd (fs:List (Str×V))
 |met (f x:Addr)
 |rng (lo hi:Int)
 |iU (o:Obj) (u:HO)
 |kW (ps:Array Value)
 |ext (φ:Heap->Prop)
abbrev Hp:=Addr->Option HO
noncomputable def upd(H:Hp)(a:Addr)(o:HO):Hp:=λb=>if b=a then some o else H b
theorem aE:upd H a o a=some o:=by unfold upd;rw[gL rfl]
theorem az(h:b≠a):upd H a o b=H b:=by unfold upd;rw[hU h]
theorem aI{H:Hp}{a b:Addr}{o:HO}(h:H a=some o)(h':H b=none):a≠b:=by intro e;subst e;rw[h]at h';cases h'
def fE(h:Heap)(a:Addr)(its:Array Value):Prop:=∃o,h.get? a=some o/\(o.cls=.type "tuple" /\∃n,o.data=.seq its n)/\o.dict=none
theorem fE.tup{h:Heap}{a:Addr}{its:Array Value}(x:fE h a its):IsTup h a its:=let ⟨o,e,c,_⟩:=x;⟨o,e,c⟩
theorem fE.new(h:Heap)(its:Array Value):fE (h.push { cls:=.type "tuple",data:=.seq its}) h.objs.size its:=⟨_,eM _ rfl,⟨rfl,_,rfl⟩,rfl⟩
section
variable(P:Program)(w:World)
def cM(H:Hp)(h:Heap)(a:Addr):HO->Prop
 |.lst xs=>xs.length<=sizeLine/\∃(its:List Value) (n:Nat),Vals xs its/\h.get? a=some { cls:=.type "list",data:=.seq its.toArray n}
 |.tup xs=>xs.length<=sizeLine/\∃its:List Value,Vals xs its/\fE h a its.toArray
 |.dK dN=>dN.length<=sizeLine/\(a==sysModules)=false/\∃vs,KV dN vs/\h.DictOf (gI P w) a vs
 |.dT dN=>dN.length<=sizeLine/\(a==sysModules)=false/\∃xs:List (List Key×Addr×Value),
   Paired (λ(p:List Key×V) (q:List Key×Addr×Value)=>p.1=q.1/\H q.2.1=some (.tup (p.1.map kV))/\RelV p.2 q.2.2) dN xs/\
   ∃o es ep,h.get? a=some o/\o.ExactDict/\o.data=.dict es ep/\es.toList=xs.map (entryOfKey (tupleKind (gI P w)))/\(xs.map (·.1)).Nodup
 |.set S n=>h.SetOf (intKind P w) a S n
 |.ins C dx fs=>H dx=some (.own a)/\fs.length<=1000/\dx≠a/\h.get? a=some (PySem.W.instObj C dx)/\
   ∃mA,h.Ns1 dx mA/\(∀f,Xe (fs.lookup f) (mA f))/\PySem.Within mA (fs.map (·.1))
 |.own _=>∃o,h.get? a=some o
 |.xd fs=>∃mA,h.Ns1 a mA/\∀f,Xe (fs.lookup f) (mA f)
 |.rng lo hi=>∃t u v,h.get? a=some { cls:=.type "range",data:=.fields #[.int lo t,.int hi u,.int 1 v]}
 |.iU o u=>h.get? a=some o/\cM H h a u
 |.kW ps=>h.get? a=some { cls:=.none,data:=.fields ps}
 |.met f x=>h.get? a=some (PySem.W.methodObj (.ref f) (.ref x))
 |.ext φ=>φ h/\(∃o,h.get? a=some o)/\∀h1 h2:Heap,φ h1->(∀o,h1.get? a=some o->h2.get? a=some o)->φ h2
def kX(H:Hp)(h:Heap):Prop:=∀a o,H a=some o->cM P w H h a o
end
section
variable{P:Program}{w:World}{H H':Hp}{h h':Heap}{a:Addr}{o:HO}
theorem cM.lt(x:cM P w H h a o):a<h.objs.size:=by
 cases o with
 |lst xs=>obtain⟨_,_,_,_,e⟩:=x;exact eQ e
 |tup xs=>obtain⟨_,_,_,_,e,_⟩:=x;exact eQ e
 |dK dN=>obtain⟨_,_,_,_,o,_,_,e,_⟩:=x;exact eQ e
 |dT dN=>obtain⟨_,_,_,_,o,_,_,e,_⟩:=x;exact eQ e
 |set S n=>obtain⟨o,_,_,_,e,_⟩:=x;exact eQ e
 |ins C dx fs=>obtain⟨_,_,_,e,_⟩:=x;exact eQ e
 |own y=>obtain⟨_,e⟩:=x;exact eQ e
 |xd fs=>obtain⟨_,⟨_,_,_,e,_⟩,_⟩:=x;exact eQ e
 |rng lo hi=>obtain⟨_,_,_,e⟩:=x;exact eQ e
 |iU ob u=>obtain⟨e,_⟩:=x;exact eQ e
 |kW ps=>exact eQ (show h.get? a=some _ from x)
 |met f y=>exact eQ (show h.get? a=some _ from x)
 |ext φ=>obtain⟨_,⟨_,e⟩,_⟩:=x;exact eQ e
theorem Paired.QL{α β:Type}{F G:α->β->Prop}:∀{l₁:List α}{l₂:List β},Paired F l₁ l₂->(∀a b,F a b->G a b)->Paired G l₁ l₂
 |_,_,.nil,_=>.nil
 |_,_,.cons r t,f=>.cons (f _ _ r) (Paired.QL t f)
theorem cM.stay(x:cM P w H h a o)(k:∀b u,(b=a\/H b=some (.own a))->h.get? b=some u->h'.get? b=some u)
  (ho:∀b,H b=some (.own a)->H' b=some (.own a)) (ht:∀b xs,H b=some (.tup xs)->H' b=some (.tup xs)):cM P w H' h' a o:=by
 induction o with
 |lst xs=>obtain⟨z,its,n,r,e⟩:=x;exact⟨z,its,n,r,k _ _ (.inl rfl) e⟩
 |tup xs=>obtain⟨z,its,r,ob,e,c⟩:=x;exact⟨z,its,r,ob,k _ _ (.inl rfl) e,c⟩
 |dK dN=>obtain⟨z,y,vs,r,ob,es,ep,e,c⟩:=x;exact⟨z,y,vs,r,ob,es,ep,k _ _ (.inl rfl) e,c⟩
 |dT dN=>obtain⟨z,y,xs,r,ob,es,ep,e,c⟩:=x;exact⟨z,y,xs,Paired.QL r λp q z=>⟨z.1,ht _ _ z.2.1,z.2.2⟩,ob,es,ep,k _ _ (.inl rfl) e,c⟩
 |set S n=>obtain⟨ob,es,ep,t,e,c⟩:=x;exact⟨ob,es,ep,t,k _ _ (.inl rfl) e,c⟩
 |ins C dx fs=>obtain⟨d,z,ne,e,mA,⟨od,es,ep,e2,c⟩,r⟩:=x;exact⟨ho _ d,z,ne,k _ _ (.inl rfl) e,mA,⟨od,es,ep,k _ _ (.inr d) e2,c⟩,r⟩
 |own y=>obtain⟨ob,e⟩:=x;exact⟨ob,k _ _ (.inl rfl) e⟩
 |xd fs=>obtain⟨mA,⟨od,es,ep,e,c⟩,r⟩:=x;exact⟨mA,⟨od,es,ep,k _ _ (.inl rfl) e,c⟩,r⟩
 |rng lo hi=>obtain⟨t,u,v,e⟩:=x;exact⟨t,u,v,k _ _ (.inl rfl) e⟩
 |iU ob u ih=>obtain⟨e,q⟩:=x;exact⟨k _ _ (.inl rfl) e,ih q⟩
 |kW ps=>have e:h.get? a=some { cls:=.none,data:=.fields ps}:=x;show h'.get? a=some { cls:=.none,data:=.fields ps};exact k a _ (.inl rfl) e
 |met f y=>have e:h.get? a=some (PySem.W.methodObj (.ref f) (.ref y)):=x;show h'.get? a=some (PySem.W.methodObj (.ref f) (.ref y));exact k a _ (.inl rfl) e
 |ext φ=>obtain⟨p,⟨o,e⟩,st⟩:=x;exact⟨st _ _ p λo q=>k _ _ (.inl rfl) q,⟨o,k _ _ (.inl rfl) e⟩,st⟩
theorem kX.lt(x:kX P w H h)(e:H a=some o):a<h.objs.size:=(x a o e).lt
theorem kX.fresh(x:kX P w H h)(e:h.objs.size<=a):H a=none:=by
 cases q:H a with
 |none=>rfl
 |some u=>exact absurd (eD (x.lt q) e) (nE _)
theorem kX.kept(x:kX P w H h)(k:∀b u,h.get? b=some u->h'.get? b=some u):kX P w H h':=λa o e=>
 (x a o e).stay (λb u _ q=>k b u q) (λ_ q=>q) λ_ _ q=>q
theorem kX.laid(x:kX P w H h)(k:∀b u,h.get? b=some u->h'.get? b=some u)(hp:h.objs.size<=a)(new:cM P w (upd H a o) h' a o):kX P w (upd H a o) h':=λb u e=>by
 have hn:=x.fresh hp;by_cases hb:b=a
 . subst hb;rw[aE]at e;cases e;exact new
 . rw[az hb]at e;exact (x b u e).stay (λc v _ q=>k c v q) (λc q=>by rw[az (aI q hn)];exact q) λc xs q=>by rw[az (aI q hn)];exact q
end
def Rd(H:Hp)(a:Addr)(u:HO):Prop:=H a=some u\/∃o,H a=some (.iU o u)
theorem Rd.ok{P:Program}{w:World}{H:Hp}{h:Heap}{a:Addr}{u:HO}(r:Rd H a u)(x:kX P w H h):cM P w H h a u:=by
 rcases r with r |⟨o,r⟩
 . exact x a u r
 . obtain⟨_,q⟩:=x a _ r;exact q
noncomputable def Mut:Option HO->Prop
 |some (.lst _)=>True
 |some (.dK _)=>True
 |some (.dT _)=>True
 |some (.set _ _)=>True
 |some (.ins _ _ _)=>True
 |some (.ext _)=>True
 |_=>False
section
variable{P:Program}{w:World}{H:Hp}{h h':Heap}{x e:Addr}{o':HO}
theorem kX.write(ok:kX P w H h)(mu:Mut (H x))(he:e=x\/H e=some (.own x))(k:∀b u,b≠e->h.get? b=some u->h'.get? b=some u)(Ws:∃u,h'.get? e=some u)
  (new:cM P w (upd H x o') h' x o'):kX P w (upd H x o') h':=λb u q=>by
 have Xg:∀c y,H c=some (.own y)->c≠x:=λc y r z=>by subst z;rw[r]at mu;exact mu
 have ntup:∀c xs,H c=some (.tup xs)->c≠x:=λc xs r z=>by subst z;rw[r]at mu;exact mu
 by_cases hb:b=x
 . subst hb;rw[aE]at q;cases q;exact new
 .
  rw[az hb]at q;by_cases QM:b=e
  .
   have q':H b=some (.own x):=by
    rcases he with z |z
    . exact absurd (QM.trans z) hb
    . rw[QM];exact z
   rw[q]at q';cases q';obtain⟨v,hv⟩:=Ws;exact⟨v,by rw[QM];exact hv⟩
  .
   refine (ok b u q).stay (λc v hc r=>k c v ?_ r) (λc r=>by rw[az (Xg c b r)];exact r) λc xs r=>by rw[az (ntup c xs r)];exact r
   rcases hc with rfl |hc
   . exact QM
   .
    rintro rfl;rcases he with z |z
    . exact Xg c b hc z
    . rw[hc]at z;cases z;exact hb rfl
end
structure Un(fs ex:List Addr)(H H':Hp)(h h':Heap):Prop where
 keep:∀b o,h.get? b=some o->H b=none->b∉fs->b∉ex->h'.get? b=some o
 slot:∀b o,h.get? b=some o->H b=none->b∈fs->b∉ex->∃sl,h'.get? b=some { o with slots:=sl}
 free:∀b o,h.get? b=some o->H b=none->b∉ex->H' b=none
 there:∀b o,h.get? b=some o->b∉ex->∃o',h'.get? b=some o'
 tups:∀b xs,H b=some (.tup xs)->H' b=some (.tup xs)
 jS:∀b o u,H b=some (.iU o u)->H' b=some (.iU o u)
 jT:∀b ps,H b=some (.kW ps)->∃more,H' b=some (.kW (ps++more))
section
variable{fs fs' ex ex':List Addr}{H H1 H2:Hp}{h h1 h2 h':Heap}{a x e:Addr}{o:HO}
theorem Un.any(u:Un fs ex H H1 h h1){b:Addr}{ob:Obj}(q:h.get? b=some ob)(n:H b=none)(hx:b∉ex):∃sl,h1.get? b=some { ob with slots:=sl}:=by
 by_cases hb:b∈fs
 . exact u.slot b ob q n hb hx
 . exact⟨ob.slots,u.keep b ob q n hb hx⟩
theorem Un.kept(k:∀b u,h.get? b=some u->h'.get? b=some u):Un fs ex H H h h':=
 ⟨λb ob q _ _ _=>k b ob q,λb ob q _ _ _=>⟨ob.slots,k b ob q⟩,λ_ _ _ n _=>n,λb ob q _=>⟨ob,k b ob q⟩,λ_ _ q=>q,λ_ _ _ q=>q,λ_ ps q=>⟨#[],by rw[q];simp⟩⟩
theorem Un.refl:Un fs ex H H h h:=Un.kept λ_ _ q=>q
theorem Un.laid(k:∀b u,h.get? b=some u->h'.get? b=some u)(hp:h.objs.size<=a)(hn:H a=none):Un fs ex H (upd H a o) h h' where
 keep:=λb u q _ _ _=>k b u q
 slot:=λb u q _ _ _=>⟨u.slots,k b u q⟩
 free:=λb u q n _=>by rw[az (i7 (eD (eQ q) hp))];exact n
 there:=λb u q _=>⟨u,k b u q⟩
 tups:=λb xs q=>by rw[az (aI q hn)];exact q
 jS:=λb u xs q=>by rw[az (aI q hn)];exact q
 jT:=λb ps q=>⟨#[],by rw[az (aI q hn),q];simp⟩
theorem Un.write(mu:Mut (H x))(he:e=x\/H e=some (.own x))(k:∀b u,b≠e->h.get? b=some u->h'.get? b=some u)(Ws:∃u,h'.get? e=some u):Un fs ex H (upd H x o) h h':=by
 have hx:∀b,H b=none->b≠x:=λb n z=>by subst z;rw[n]at mu;exact mu
 have hb:∀b,H b=none->b≠e:=λb n z=>by
  subst z;rcases he with r |r
  . exact hx b n r
  . rw[n]at r;cases r
 have hm:∀b u,H b=some u->¬ Mut (some u)->b≠x:=λb u q nm z=>by subst z;rw[q]at mu;exact nm mu
 refine⟨λb u q n _ _=>k b u (hb b n) q,λb u q n _ _=>⟨u.slots,k b u (hb b n) q⟩,λb u q n _=>by rw[az (hx b n)];exact n,λb u q _=>?_,
  λb xs q=>by rw[az (hm b _ q λz=>z)];exact q,λb u xs q=>by rw[az (hm b _ q λz=>z)];exact q,λb ps q=>⟨#[],by rw[az (hm b _ q λz=>z),q];simp⟩⟩
 by_cases QM:b=e
 . subst QM;exact Ws
 . exact⟨u,k b u QM q⟩
end
noncomputable def trk(h:Heap)(H:Hp):List Addr:=(List.range h.objs.size).filter λa=>(H a).isSome
def sN(h:Heap)(H:Hp):Heap:=PySem.W.hideAll h (trk h H)
theorem BL(h:Heap)(H:Hp):(sN h H).objs.size=h.objs.size:=PySem.W.hideAll_size _ _
theorem Fp(e:h.get? b=some o)(n:H b=none):(sN h H).get? b=some o:=
 PySem.W.hideAll_get _ e λhm=>by
  have q:(H b).isSome=true:=(lS.mp hm).2;rw[n]at q;simp at q
theorem Kr(e:(sN h H).get? b=some o):h.get? b=some o/\H b=none:=by
 have e':h.get? b=some o:=PySem.W.of_hideAll (trk h H) e;refine⟨e',?_⟩;cases q:H b with
 |none=>rfl
 |some x=>
  have hm:b∈trk h H:=lS.mpr ⟨wE.mpr (eQ e'),by simp[q]⟩
  have z:(sN h H).get? b=none:=PySem.W.hideAll_none (trk h H) hm;rw[z]at e;cases e
noncomputable def Ks(g h:Heap)(L:Addr): ~~~1:=(List.range h.objs.size).filterMap λa=>if a=L\/(g.get? a).isSome=true then none else (h.get? a).map λo=>(a,o)
def rest(g h:Heap)(L d:Addr): ~~~1:=(Ks g h L).filter λp=>decide (p.1≠d)
structure Mod(K:Frag)(mg:Str->Option Value)(base:Heap):Prop where
 Fq:K.In base
 glob:base.Ns mainGlobals mg
 blt:∃mb,base.Ns builtinsNs mb/\∀x:Str,x≠ "__name__" ->mb x=bootBuiltins x
 nolimit:base.NoLimit
structure Cx where
 prog:Program
 w:World
 K:Frag
 mg:Str->Option Value
 base:Heap
 A:Around
 N:List Str
 s₀:Shared
 H₀:Hp
 env:Env
 outer:List Env
 stack:List Env
 ex:List Addr
 fn:Str->Bool
 calm:Bool
 pn:List (Addr×Obj)
 xe:Value->Shared->Prop
noncomputable def frs(l:List Env):List Addr:=l.filterMap (·.frame)
abbrev Cx.fs(X:Cx):List Addr:=frs X.outer
def uW(sc:Scope)(x:Str):Prop:=sc.names.lookup x=some .local\/sc.names.lookup x=some .cell\/sc.names.lookup x=some .free
def Loc(sc:Scope)(x:Str):Prop:=sc.names.lookup x=some .local\/sc.names.lookup x=some .cell
def Look(env:Env)(h:Heap)(m:Str->Option Value)(x:Str)(u:Value):Prop:=
 (env.kindOf x=some .local/\m x=some u)\/((env.kindOf x=some .cell\/env.kindOf x=some .free)/\∃c,env.cells.lookup x=some c/\h.IsCell c (some u))
structure Cx.Ok(X:Cx):Prop where
 mod:Mod X.K X.mg X.base
 kind:X.env.scope.kind=.function
 glob:X.env.globals=mainGlobals
 blt:X.env.builtins=builtinsNs
 above:X.s₀⁻¹<=X.env.locals
 inj:∀x y c,X.env.cells.lookup x=some c->X.env.cells.lookup y=some c->x=y
 has:∀x,(X.env.kindOf x=some .cell\/X.env.kindOf x=some .free)->∃c,X.env.cells.lookup x=some c
 QS:∀x c,X.fn x=true->X.env.cells.lookup x=some c->X.s₀⁻¹<=c
 hd:X.calm=true->X.A.handled=none
 frames:X.A.frames=some X.stack
 stk:X.stack=X.outer\/(X.stack=X.env::X.outer/\X.env.frame=some X.env.locals)
 Wt:∀b∈X.ex,b≠X.env.locals/\∀x c,X.env.cells.lookup x=some c->c≠b
 bs:∀b o,X.base.get? b=some o->X.s₀.heap.get? b=some o/\X.H₀ b=none
 Ft:X.base.objs.size<=X.s₀⁻¹
 vm:∀b o,X.base.get? b=some o->b∉X.ex
 x6:∀b∈X.ex,b∉X.fs
 jU:X.s₀.heap.FunFrames X.base X.outer
 Ku:∀b∈X.fs,X.H₀ b=none
structure Inv(X:Cx)(ah: ~~~1)(Y:List (Option V))(H:Hp)(s:Shared):Prop where
 ok:X.Ok
 os:s.os=X.s₀.os
 bare:AllBare s.gens
 base:Un X.fs X.ex X.H₀ H X.s₀.heap s.heap
 loc:∃m,s.heap.Ns X.env.locals m/\∀(i:Nat) (x:Str) (v:V),X.N[i]?=some x->Y[i]?=some (some v)->uW X.env.scope x->∃u,RelV v u/\Look X.env s.heap m x u
 cell:∀x c,X.env.cells.lookup x=some c->∃v,s.heap.IsCell c v
 free:H X.env.locals=none
 dQ:∀x c,X.env.cells.lookup x=some c->H c=none
 pin:∀p∈X.pn++ah,s.heap.get? p.1=some p.2/\H p.1=none/\p.1≠X.env.locals/\p.1∉X.fs/\∀v,p.2.data≠.cell v
 hok:kX X.prog X.w H s.heap
 len:Y.length=X.N.length
section
variable{X:Cx}{ah: ~~~1}{Y:List (Option V)}{H H':Hp}{s:Shared}{h':Heap}
theorem Cx.Ok.nofr(ok:X.Ok)(e:X.base.get? b=some o):b∉X.fs:=λhb=>by
 have:=(ok.jU.mem hb).1;rw[e]at this;cases this
theorem Inv.bs(I: ~~~7):∀b o,X.base.get? b=some o->s.heap.get? b=some o/\H b=none:=λb o e=>
 ⟨I.base.keep b o (I.ok.bs b o e).1 (I.ok.bs b o e).2 (I.ok.nofr e) (I.ok.vm b o e),I.base.free b o (I.ok.bs b o e).1 (I.ok.bs b o e).2 (I.ok.vm b o e)⟩
theorem Inv.bk(I: ~~~7):∀b o,X.base.get? b=some o->s.heap.get? b=some o:=λb o e=>(I.bs b o e).1
theorem Inv.mod(I: ~~~7):Mod X.K X.mg X.base:=I.ok.mod
theorem Inv.nk(I: ~~~7):X.K.In s.heap:=I.ok.mod.Fq.keeps I.bk
theorem Inv.nolimit(I: ~~~7):s.heap.NoLimit:=I.ok.mod.nolimit.keeps I.bk
theorem Inv.lt(I: ~~~7):X.env.locals<s⁻¹:=let ⟨_,hn,_⟩:=I.loc;hn.lt
theorem Inv.sz(I: ~~~7):X.s₀⁻¹<=s⁻¹:=kA I.ok.above (C0 I.lt)
theorem Inv.nofs(I: ~~~7)(h:s⁻¹<=a):a∉X.fs:=λhb=>by
 obtain⟨_,o,ho,_⟩:=I.ok.jU.mem hb;exact absurd (eD (eQ ho) (kA I.sz h)) (nE _)
theorem Inv.QT(I: ~~~7):∀x c,X.env.cells.lookup x=some c->c≠X.env.locals:=λx c e z=>by
 obtain⟨v,o,ho,hd⟩:=I.cell x c e;obtain⟨m,⟨o',es,ep,ho',hd',_⟩,_⟩:=I.loc;rw[z,ho']at ho;cases ho;rw[hd']at hd;cases hd
theorem Inv.jU(I: ~~~7):s.heap.FunFrames X.base X.outer:=by
 have all:∀(l:List Env),(∀b∈frs l,b∈X.fs)->X.s₀.heap.FunFrames X.base l->s.heap.FunFrames X.base l:=by
  intro l
  induction l with
  |nil=>intro _ _;trivial
  |cons env r ih=>
   intro hs hl;obtain⟨hk,⟨L,o,hf,hn,ho,hd⟩,hr⟩:=hl;have hL:L∈X.fs:=hs L (by unfold frs;rw[tJ,hf];exact dC)
   obtain⟨sl,e⟩:=I.base.slot L o ho (I.ok.Ku L hL) hL λz=>I.ok.x6 L z hL
   exact⟨hk,⟨L,_,hf,hn,e,hd⟩,ih (λb hb=>hs b (by unfold frs;rw[tJ,hf];exact dA _ hb)) hr⟩
 exact all X.outer (λ_ hb=>hb) I.ok.jU
theorem Inv.stack(I: ~~~7):s.heap.FunFrames X.base X.stack:=by
 rcases I.ok.stk with e |⟨e,hf⟩
 . rw[e];exact I.jU
 .
  rw[e];obtain⟨m,hn,_⟩:=I.loc;refine .cons (by rw[I.ok.kind];decide) hf hn ?_ I.jU
  exact Heap.get?_none_of_le (kA I.ok.Ft I.ok.above)
theorem Inv.x8(I: ~~~7):∀b∈frs X.stack,b∈X.env.locals::X.fs:=λb hb=>by
 rcases I.ok.stk with e |⟨e,hf⟩
 . rw[e]at hb;exact dA _ hb
 . rw[e]at hb;unfold frs at hb;rw[tJ,hf]at hb;exact hb
theorem Inv.sO(I: ~~~7):∀b∈frs X.stack,H b=none:=λb hb=>by
 rcases eA.mp (I.x8 b hb)with e |hb
 . rw[e];exact I.free
 . obtain⟨_,o,ho,_⟩:=I.ok.jU.mem hb;exact I.base.free b o ho (I.ok.Ku b hb) λz=>I.ok.x6 b z hb
theorem Inv.step{g':Array GenState}{t':Nat}{d':Drawn}{ch:List Addr}(I: ~~~7)
  (hch:∀b∈ch,(b∈X.ex\/X.s₀⁻¹<=b)/\b≠X.env.locals/\(∀x c,X.env.cells.lookup x=some c->c≠b)/\∀p∈X.pn++ah,p.1≠b)
  (keep:∀b o,b≠X.env.locals->b∉X.fs->b∉ch->s.heap.get? b=some o->H b=none->h'.get? b=some o)
  (slot:∀b o,b≠X.env.locals->b∈X.fs->b∉ch->s.heap.get? b=some o->H b=none->∃sl,h'.get? b=some { o with slots:=sl}) (free:∀b o,b∉ch->s.heap.get? b=some o->H b=none->H' b=none)
  (there:∀b o,b∉ch->s.heap.get? b=some o->∃o',h'.get? b=some o')
  (tups:∀b xs,H b=some (.tup xs)->H' b=some (.tup xs)) (jS:∀b o u,H b=some (.iU o u)->H' b=some (.iU o u)) (jT:∀b ps,H b=some (.kW ps)->∃more,H' b=some (.kW (ps++more)))
  (ns:∀m,s.heap.Ns X.env.locals m->h'.Ns X.env.locals m) (hok:kX X.prog X.w H' h') (hg:AllBare g') :
  Inv X ah Y H' { s with heap:=h',gens:=g',drawn:=d',toks:=t'}:=by
 have neL:∀b o,X.s₀.heap.get? b=some o->b≠X.env.locals:=λb o e=>i7 (eD (eQ e) I.ok.above)
 have neC:∀b o,X.s₀.heap.get? b=some o->b∉X.ex->b∉ch:=λb o e hx hb=>by
  rcases (hch b hb).1 with z |z
  . exact hx z
  . exact absurd (eD (eQ e) z) (nE _)
 have cellK:∀x c,X.env.cells.lookup x=some c->∀v,s.heap.IsCell c v->h'.IsCell c v:=λx c e v ⟨o,ho,hd⟩=>by
  have Xh:c∉ch:=λz=>(hch c z).2.2.1 x c e rfl
  by_cases hc:c∈X.fs
  . obtain⟨sl,q⟩:=slot c o (I.QT x c e) hc Xh ho (I.dQ x c e);exact⟨_,q,hd⟩
  . exact⟨o,keep c o (I.QT x c e) hc Xh ho (I.dQ x c e),hd⟩
 refine⟨I.ok,I.os,hg,⟨λb o e n hb hx=>?_,λb o e n hb hx=>?_,λb o e n hx=>?_,λb o e hx=>?_,λb xs e=>tups b xs (I.base.tups b xs e),λb o xs e=>jS b o xs (I.base.jS b o xs e),λb ps e=>?_⟩,?_,λx c e=>?_,?_,λx c e=>?_,λp hp=>?_,hok,I.len⟩
 . exact keep b o (neL b o e) hb (neC b o e hx) (I.base.keep b o e n hb hx) (I.base.free b o e n hx)
 . obtain⟨sl,e1⟩:=I.base.slot b o e n hb hx;obtain⟨sl',e2⟩:=slot b _ (neL b o e) hb (neC b o e hx) e1 (I.base.free b o e n hx);exact⟨sl',e2⟩
 . obtain⟨o',e1⟩:=I.base.there b o e hx;exact free b o' (neC b o e hx) e1 (I.base.free b o e n hx)
 . obtain⟨o',e1⟩:=I.base.there b o e hx;exact there b o' (neC b o e hx) e1
 . obtain⟨m1,e1⟩:=I.base.jT b ps e;obtain⟨m2,e2⟩:=jT b _ e1;exact⟨m1++m2,by rw[e2,Array.append_assoc]⟩
 .
  obtain⟨m,hn,hl⟩:=I.loc;refine⟨m,ns m hn,λi x v e1 e2 e3=>?_⟩
  obtain⟨u,r,l⟩:=hl i x v e1 e2 e3;refine⟨u,r,?_⟩;rcases l with l |⟨k,c,e,z⟩
  . exact .inl l
  . exact .inr ⟨k,c,e,cellK x c e _ z⟩
 . obtain⟨v,z⟩:=I.cell x c e;exact⟨v,cellK x c e v z⟩
 . obtain⟨m,⟨o,_,_,ho,_⟩,_⟩:=I.loc;exact free _ o (λz=>(hch _ z).2.1 rfl) ho I.free
 . obtain⟨v,o,ho,hd⟩:=I.cell x c e;exact free c o (λz=>(hch c z).2.2.1 x c e rfl) ho (I.dQ x c e)
 .
  obtain⟨e,n,ne,nf,d⟩:=I.pin p hp;have Xh:p.1∉ch:=λz=>(hch p.1 z).2.2.2 p hp rfl
  exact⟨keep p.1 p.2 ne nf Xh e n,free p.1 p.2 Xh e n,ne,nf,d⟩
theorem Inv.un{t':Nat}(I: ~~~7)(u:Un X.fs [] H H' s.heap h')(hok:kX X.prog X.w H' h'):Inv X ah Y H' { s with heap:=h',toks:=t'}:=by
 obtain⟨m,⟨o,es,ep,ho,r⟩,_⟩:=id I.loc;obtain⟨sl,hL⟩:=u.any ho I.free ⋯;exact I.step (g':=s.gens) (d':=s.drawn) (ch:=[]) (λ_ z=>nomatch z) (λb o _ hb _ e n=>u.keep b o e n hb ⋯) (λb o _ hb _ e n=>u.slot b o e n hb ⋯) (λb o _ e n=>u.free b o e n ⋯) (λb o _ e=>u.there b o e ⋯) u.tups u.jS u.jT (λm' hm=>by
  obtain⟨o',es',Kv,ho',r'⟩:=hm;rw[ho]at ho';cases ho';exact⟨_,es',Kv,hL,r'⟩) hok I.bare
theorem Inv.call{g':Array GenState}{t':Nat}{d':Drawn}{ch:List Addr}(I: ~~~7)(u:Un (frs X.stack) ch H H' s.heap h')(hok:kX X.prog X.w H' h')(hg:AllBare g')
  (hch:∀b∈ch,(b∈X.ex\/X.s₀⁻¹<=b)/\b≠X.env.locals/\(∀x c,X.env.cells.lookup x=some c->c≠b)/\∀p∈X.pn++ah,p.1≠b) :
  Inv X ah Y H' { s with heap:=h',gens:=g',drawn:=d',toks:=t'}:=by
 obtain⟨m,⟨o,es,ep,ho,r⟩,_⟩:=id I.loc;obtain⟨sl,hL⟩:=u.any ho I.free λz=>(hch _ z).2.1 rfl
 exact I.step (ch:=ch) hch (λb o hL hb hc e n=>u.keep b o e n (λz=>(eA.mp (I.x8 b z)).elim hL hb) hc) (λb o _ _ hc e n=>u.any e n hc) (λb o hc e n=>u.free b o e n hc) (λb o hc e=>u.there b o e hc) u.tups u.jS u.jT (λm' hm=>by
  obtain⟨o',es',Kv,ho',r'⟩:=hm;rw[ho]at ho';cases ho';exact⟨_,es',Kv,hL,r'⟩) hok hg
theorem Inv.turned{t':Nat}{it:Addr}(I: ~~~7)(k:∀b o,b≠it->s.heap.get? b=some o->h'.get? b=some o)(hn:H it=none)(hL:it≠X.env.locals)
  (h1:it∈X.ex\/X.s₀⁻¹<=it) (h2:∀x c,X.env.cells.lookup x=some c->c≠it) (h3:∀p∈X.pn++ah,p.1≠it):Inv X ah Y H { s with heap:=h',toks:=t'}:=by
 have nit:∀b u,H b=some u->b≠it:=λb u e z=>by rw[z,hn]at e;cases e
 refine I.step (g':=s.gens) (d':=s.drawn) (ch:=[it]) (λb hb=>?_) (λb o _ _ hc e _=>k b o (λz=>hc (by simp[z])) e) (λb o _ _ hc e _=>⟨o.slots,k b o (λz=>hc (by simp[z])) e⟩) (λ_ _ _ _ n=>n)
  (λb o hc e=>⟨o,k b o (λz=>hc (by simp[z])) e⟩) (λ_ _ e=>e) (λ_ _ _ e=>e) (λb ps e=>⟨#[],by rw[e];simp⟩) (λm hm=>?_) (λb u e=>?_) I.bare
 .
  have e:b=it:=by simpa using hb
  subst e;exact⟨h1,hL,h2,h3⟩
 . obtain⟨o,es,ep,ho,r⟩:=hm;exact⟨o,es,ep,k _ o (nV hL) ho,r⟩
 .
  refine (I.hok b u e).stay (λc v hc q=>k c v ?_ q) (λ_ q=>q) λ_ _ q=>q
  rcases hc with z |z
  . rw[z];exact nit b u e
  . exact nit c _ z
theorem Inv.tok(I: ~~~7)(t:Nat):Inv X ah Y H { s with toks:=t}:=I.un (h':=s.heap) (t':=t) Un.refl I.hok
theorem Inv.kept{t':Nat}(I: ~~~7)(k:∀b u,s.heap.get? b=some u->h'.get? b=some u):Inv X ah Y H { s with heap:=h',toks:=t'}:=I.un (Un.kept k) (I.hok.kept k)
theorem Inv.laid{a:Addr}{o:HO}{t':Nat}(I: ~~~7)(k:∀b u,s.heap.get? b=some u->h'.get? b=some u)(hp:s⁻¹<=a)(new:cM X.prog X.w (upd H a o) h' a o) :
  Inv X ah Y (upd H a o) { s with heap:=h',toks:=t'}:=I.un (Un.laid k hp (I.hok.fresh hp)) (I.hok.laid k hp new)
theorem Inv.write(I: ~~~7)(mu:Mut (H x))(he:e=x\/H e=some (.own x))(k:∀b u,b≠e->s.heap.get? b=some u->h'.get? b=some u)(Ws:∃u,h'.get? e=some u)
  (new:cM X.prog X.w (upd H x o) h' x o):Inv X ah Y (upd H x o) { s with heap:=h',toks:=t'}:=I.un (Un.write mu he k Ws) (I.hok.write mu he k Ws new)
theorem Inv.zL(I: ~~~7)(h:∀p∈Xi,s.heap.get? p.1=some p.2/\H p.1=none/\p.1≠X.env.locals/\p.1∉X.fs/\∀v,p.2.data≠.cell v):Inv X Xi Y H s:=
 ⟨I.ok,I.os,I.bare,I.base,I.loc,I.cell,I.free,I.dQ,λp hp=>(t9.mp hp).elim (λz=>I.pin p (qS _ z)) (h p),I.hok,I.len⟩
theorem nX{N:List Str}(hN:N.Nodup){i j:Nat}{x:Str}(a:N[i]?=some x)(b:N[j]?=some x):i=j:=by obtain⟨h1,e1⟩:=dL.mp a;obtain⟨h2,e2⟩:=dL.mp b;exact (List.getElem_inj hN).mp (e1.trans e2.symm)
theorem kY{M:Model}{A:Around}{E:Value->Shared->Prop}{i:Nat}{x:Str}{v:V}{u:Value}{Q:Unit->Shared->Prop}(I: ~~~7)(hN:X.N.Nodup)(hi:X.N[i]?=some x)(hx:Loc X.env.scope x)(r:RelV v u)
  (h:∀s',Inv X ah (Y.set i (some v)) H s'->(∃a,Heap.SameBut a s.heap s'.heap/\(a=X.env.locals\/X.env.cells.lookup x=some a))->Q () s') (hf:X.fn x=true\/X.env.scope.names.lookup x=some .local:=by first |exact .inl rfl |exact .inr rfl |assumption):wpAny M A (storeName X.env x u) Q E s:=by
 obtain⟨m,hn,hl⟩:=id I.loc;have hcls:(X.env.scope.kind==.class||(X.env.scope.kind==.module&&X.env.locals != X.env.globals))=false:=by rw[I.ok.kind];rfl
 have Xj:i<Y.length:=by rw[I.len];exact (dL.mp hi).1
 have QT:=I.QT;have tracked:∀{a:Addr}{h':Heap},(∃o,s.heap.get? a=some o/\H a=none)->Heap.SameBut a s.heap h'->kX X.prog X.w H h':=λ{a h'} ha hs b ob e=>by
  obtain⟨_,_,hfree⟩:=ha;refine (I.hok b ob e).stay (λc w' hc q=>(hs.2 c ?_).trans q) (λ_ q=>q) λ_ _ q=>q
  rintro rfl;rcases hc with rfl |hc
  . rw[hfree]at e;cases e
  . rw[hfree]at hc;cases hc
 rcases hx with hk |hk
 .
  refine wpAny_storeName_local hk hn (λh' hn' hs=>?_) hcls
  obtain⟨oL,_,_,hoL,_⟩:=id hn;refine h _ ⟨I.ok,I.os,I.bare,⟨λb o e n hb hx=>?_,λb o e n hb hx=>?_,I.base.free,λb o e hx=>?_,I.base.tups,I.base.jS,I.base.jT⟩,⟨_,hn',λj y v' e1 e2 e3=>?_⟩,λy c e=>?_,I.free,I.dQ,λp hp=>?_,tracked ⟨oL,hoL,I.free⟩ hs,by simpa using I.len⟩ ⟨_,hs,.inl rfl⟩
  . exact (hs.2 b (i7 (eD (eQ e) I.ok.above))).trans (I.base.keep b o e n hb hx)
  . obtain⟨sl,e1⟩:=I.base.slot b o e n hb hx;exact⟨sl,(hs.2 b (i7 (eD (eQ e) I.ok.above))).trans e1⟩
  . obtain⟨o',e1⟩:=I.base.there b o e hx;exact⟨o',(hs.2 b (i7 (eD (eQ e) I.ok.above))).trans e1⟩
  .
   by_cases hj:j=i
   . subst hj;rw[hi]at e1;cases e1;rw[i8 Xj]at e2;cases e2;exact⟨u,r,.inl ⟨hk,by simp⟩⟩
   .
    rw[fN (nV hj)]at e2;obtain⟨u',r',q⟩:=hl j y v' e1 e2 e3;refine⟨u',r',?_⟩;rcases q with ⟨k,e⟩ |⟨k,c,e,z⟩
    .
     refine .inl ⟨k,?_⟩;have:y≠x:=λe=>hj (nX hN e1 (e▸hi))
     simp[this,e]
    . exact .inr ⟨k,c,e,z.sameBut hs (QT y c e)⟩
  . obtain⟨w',z⟩:=I.cell y c e;exact⟨w',z.sameBut hs (QT y c e)⟩
  . obtain⟨e,n,ne,nf,d⟩:=I.pin p hp;exact⟨(hs.2 p.1 ne).trans e,n,ne,nf,d⟩
 .
  have hfn:X.fn x=true:=by
   rcases hf with z |z
   . exact z
   . rw[z]at hk;cases hk
  obtain⟨c,hc⟩:=I.ok.has x (.inl hk);obtain⟨w',z⟩:=I.cell x c hc;refine wpAny_storeName_cell I.ok.kind hk hc z (λh' hc' hs=>?_)
  obtain⟨oc,hoc,hocd⟩:=id z;refine h { s with heap:=h'} ⟨I.ok,I.os,I.bare,⟨λb o e n hb hx=>?_,λb o e n hb hx=>?_,I.base.free,λb o e hx=>?_,I.base.tups,I.base.jS,I.base.jT⟩,⟨m,hn.sameBut hs (nV (QT x c hc)),λj y v' e1 e2 e3=>?_⟩,λy c' e=>?_,I.free,I.dQ,λp hp=>?_,tracked ⟨oc,hoc,I.dQ x c hc⟩ hs,by simpa using I.len⟩ ⟨c,hs,.inr hc⟩
  . exact (hs.2 b (i7 (eD (eQ e) (I.ok.QS x c hfn hc)))).trans (I.base.keep b o e n hb hx)
  . obtain⟨sl,e1⟩:=I.base.slot b o e n hb hx;exact⟨sl,(hs.2 b (i7 (eD (eQ e) (I.ok.QS x c hfn hc)))).trans e1⟩
  . obtain⟨o',e1⟩:=I.base.there b o e hx;exact⟨o',(hs.2 b (i7 (eD (eQ e) (I.ok.QS x c hfn hc)))).trans e1⟩
  .
   by_cases hj:j=i
   . subst hj;rw[hi]at e1;cases e1;rw[i8 Xj]at e2;cases e2;exact⟨u,r,.inr ⟨.inl hk,c,hc,hc'⟩⟩
   .
    rw[fN (nV hj)]at e2;obtain⟨u',r',q⟩:=hl j y v' e1 e2 e3;refine⟨u',r',?_⟩;rcases q with q |⟨k,c',e,z'⟩
    . exact .inl q
    . refine .inr ⟨k,c',e,z'.sameBut hs ?_⟩;rintro rfl;exact hj (nX hN e1 (I.ok.inj _ _ _ e hc▸hi))
  .
   by_cases hcc:c'=c
   . subst hcc;exact⟨_,hc'⟩
   . obtain⟨w2,z2⟩:=I.cell y c' e;exact⟨w2,z2.sameBut hs hcc⟩
  . obtain⟨e,n,ne,nf,d⟩:=I.pin p hp;refine⟨(hs.2 p.1 ?_).trans e,n,ne,nf,d⟩;intro q;rw[q,hoc]at e;have q':oc=p.2:=oD e;exact d w' (by rw[<- q'];exact hocd)
theorem iD{M:Model}{A:Around}{E:Value->Shared->Prop}{i:Nat}{x:Str}{v:V}{u:Value}{Q:Unit->Shared->Prop}(I: ~~~7)(hN:X.N.Nodup)(hi:X.N[i]?=some x)(hx:Loc X.env.scope x)(r:RelV v u)
  (h:∀s',Inv X ah (Y.set i (some v)) H s'->Q () s') (hf:X.fn x=true\/X.env.scope.names.lookup x=some .local:=by first |exact .inl rfl |exact .inr rfl |assumption):wpAny M A (storeName X.env x u) Q E s:=
 kY I hN hi hx r (λs' I' _=>h s' I') hf
theorem Inv.call'(I: ~~~7)(ho:s'.os=s.os)(u:Un (frs X.stack) ch H H' s.heap s'.heap)(hok:kX X.prog X.w H' s'.heap)(hg:AllBare s'.gens)
  (hch:∀b∈ch,(b∈X.ex\/X.s₀⁻¹<=b)/\b≠X.env.locals/\(∀x c,X.env.cells.lookup x=some c->c≠b)/\∀p∈X.pn++ah,p.1≠b):Inv X ah Y H' s':=by
 obtain⟨h',g',d',t',o'⟩:=s';have e:o'=s.os:=ho;subst e;exact I.call (g':=g') (t':=t') (d':=d') u hok hg hch
end
abbrev XK:=Value->Option Addr->Hp->Prop
abbrev St:=List (Option V)
abbrev VK:=V->Hp->Prop
abbrev TE:=St->Hp->VK->Prop
abbrev TT:=St->Hp->(Bool->Hp->Prop)->Prop
abbrev TA:=St->Hp->(List V->Hp->Prop)->Prop
structure Ends where
 nx:St->Hp->Prop
 rt:VK
 bk:St->Hp->Prop:=λ_ _=>False
 ct:St->Hp->Prop:=λ_ _=>False
abbrev TS:=Ends->St->Hp->Prop
def EP(X:Cx)(ah: ~~~1)(Y:St)(Q:VK)(u:Value)(s':Shared):Prop:=∃v H',Inv X ah Y H' s'/\RelV v u/\Q v H'
def TP(X:Cx)(ah: ~~~1)(Y:St)(Q:Bool->Hp->Prop)(b:Bool)(s':Shared):Prop:=∃H',Inv X ah Y H' s'/\Q b H'
def AP(X:Cx)(ah: ~~~1)(Y:St)(Q:List V->Hp->Prop)(us:List Value)(s':Shared):Prop:=∃vs H',Inv X ah Y H' s'/\Vals vs us/\Q vs H'
def SP(X:Cx)(ah: ~~~1)(D:Ends)(f:Flow)(s':Shared):Prop:=
 match f with
 |.next=>∃σ' H',Inv X ah σ' H' s'/\D.nx σ' H'
 |.brk=>∃σ' H',Inv X ah σ' H' s'/\D.bk σ' H'
 |.cont=>∃σ' H',Inv X ah σ' H' s'/\D.ct σ' H'
 |.ret u=>∃v σ' H',Inv X ah σ' H' s'/\RelV v u/\D.rt v H'
def PE(X:Cx)(e:Expr)(t:TE):Prop:=
 ∀(ah: ~~~1) (s:Shared) (Y:St) (H:Hp) (Q:VK),Inv X ah Y H s->t Y H Q->wpAny (~~~2) X.A (eval e X.env) (EP X ah Y Q) X.xe s
def PT(X:Cx)(e:Expr)(t:TT):Prop:=
 ∀(ah: ~~~1) (s:Shared) (Y:St) (H:Hp) (Q:Bool->Hp->Prop),Inv X ah Y H s->t Y H Q->wpAny (~~~2) X.A (isTrue e X.env (eval e X.env)) (TP X ah Y Q) X.xe s
def PW(X:Cx)(e:Expr)(t:TT):Prop:=
 ∀(whole:Sem Value) (ah: ~~~1) (s:Shared) (Y:St) (H:Hp) (Q:Bool->Hp->Prop),Inv X ah Y H s->t Y H Q->wpAny (~~~2) X.A (isTrue e X.env whole) (TP X ah Y Q) X.xe s
theorem PW.pt{X:Cx}{e:Expr}{t:TT}(h:PW X e t):PT X e t:=h _
def PA(X:Cx)(es:List Expr)(t:TA):Prop:=
 ∀(pos:Pos) (ah: ~~~1) (s:Shared) (Y:St) (H:Hp) (Q:List V->Hp->Prop),Inv X ah Y H s->t Y H Q->wpAny (~~~2) X.A (spliced (backTo pos (starEach es X.env))) (AP X ah Y Q) X.xe s
def PS(X:Cx)(st:Stmt)(t:TS):Prop:=
 ∀(ah: ~~~1) (s:Shared) (Y:St) (H:Hp) (D:Ends),Inv X ah Y H s->t D Y H->wpAny (~~~2) X.A (exec st X.env) (SP X ah D) X.xe s
def sP(X:Cx)(st:List Stmt)(t:TS):Prop:=
 ∀(ah: ~~~1) (s:Shared) (Y:St) (H:Hp) (D:Ends),Inv X ah Y H s->t D Y H->wpAny (~~~2) X.A (execs st X.env) (SP X ah D) X.xe s
theorem bK{α:Type}{t:Sem α}{Q Q':α->Shared->Prop}{M:Model}{A:Around}{E:Value->Shared->Prop}{s:Shared}(h:wpAny M A t Q E s)(hQ:∀a s,Q a s->Q' a s):wpAny M A t Q' E s:=lL h hQ λ_ _ x=>x
section
variable{X:Cx}
theorem bin{a b:Expr}{ta tb:TE}(ha:PE X a ta)(hb:PE X b tb){ah: ~~~1}{s:Shared}{Y:St}{H:Hp}{R:V->V->Hp->Prop}(I: ~~~7)(h:ta Y H λx H1=>tb Y H1 λy H2=>R x y H2)
  {α:Type}{Q:α->Shared->Prop}{f:Value->Value->Sem α}
  (hf:∀v u s2 x y H2,Inv X ah Y H2 s2->RelV x v->RelV y u->R x y H2->wpAny (~~~2) X.A (f v u) Q X.xe s2) :
  wpAny (~~~2) X.A (eval a X.env) (λv s₁=>wpAny (~~~2) X.A (eval b X.env) (λu s₂=>wpAny (~~~2) X.A (f v u) Q X.xe s₂) X.xe s₁) X.xe s:=by
 refine bK (ha ah s Y H _ I h) λv s1 ⟨x,H1,I1,r1,q1⟩=>?_
 refine bK (hb ah s1 Y H1 _ I1 q1) λu s2 ⟨y,H2,I2,r2,q2⟩=>?_
 exact hf v u s2 x y H2 I2 r1 r2 q2
def tVar(i:Nat):TE:=λY H Q=>∃v,Y[i]?=some (some v)/\Q v H
def tC(v:V):TE:=λ_ H Q=>Q v H
theorem gJ(hN:X.N[i]?=some x)(hv:uW X.env.scope x)(hd:(x==(~~~3))=false:=by decide)(bN:(x==("__classdict__":Str))=false:=by decide):PE X (.Name x pos) (tVar i):=by
 intro ah s Y H Q I h;obtain⟨v,e,h⟩:=h;obtain⟨m,hn,hl⟩:=I.loc;obtain⟨u,r,l⟩:=hl i x v hN e hv;have fin:EP X ah Y Q u s:=⟨v,H,I,r,h⟩;rcases l with ⟨hk,hm⟩ |⟨hk,c,hc,hcell⟩
 . exact C5 (wpAny_loadName_local I.ok.kind hk hn hm fin) hd
 .
  rcases hk with hk |hk
  . exact C5 (wpAny_loadName_cell I.ok.kind hk hc hcell fin) hd
  . exact C5 (wpAny_loadName_free I.ok.kind hk hc hcell fin bN) hd
theorem Fv{i j pos}:PE X (.Constant (.int i) j pos) (tC (.int i)):=λ_ _ _ H _ I h=>wpAny_Constant_int ⟨.int i,H,I.tok _,⟨_,rfl⟩,h⟩
theorem Xk{b j pos}:PE X (.Constant (.bool b) j pos) (tC (.bl b)):=λ_ _ _ H _ I h=>Constant_bool ⟨.bl b,H,I,rfl,h⟩
theorem Fw{j pos}:PE X (.Constant .none j pos) (tC .non):=λ_ _ _ H _ I h=>Constant_none ⟨.non,H,I,rfl,h⟩
theorem QV{x j pos}:PE X (.Constant (.str x) j pos) (tC (.str x)):=λ_ _ _ H _ I h=>Calls.Constant_str ⟨.str x,H,I.tok _,⟨_,rfl⟩,h⟩
def Gl(X:Cx)(x:Str):Prop:=X.env.kindOf x=some .globalImplicit
theorem gK{E:Value->Shared->Prop}{ah: ~~~1}{s:Shared}{Y:St}{H:Hp}{x:Str}{u:Value}{pos:Pos}{Q:Value->Shared->Prop}(I: ~~~7)(hg:Gl X x)(hm:X.mg x=some u)(h:Q u s)
  (hd:(x==(~~~3))=false:=by decide):wpAny (~~~2) X.A (eval (.Name x pos) X.env) Q E s:=
 Calls.Name_function_global I.ok.kind hg (Calls.loadGlobal_global (by rw[I.ok.glob];exact I.mod.glob.keeps I.bk) hm h) hd
theorem gP{E:Value->Shared->Prop}{ah: ~~~1}{s:Shared}{Y:St}{H:Hp}{x:Str}{u:Value}{pos:Pos}{Q:Value->Shared->Prop}(I: ~~~7)(hg:Gl X x)(hm:X.mg x=none)(hv:bootBuiltins x=some u)(h:Q u s)
  (hn:x≠ "__name__" :=by decide) (hd:(x==(~~~3))=false:=by decide):wpAny (~~~2) X.A (eval (.Name x pos) X.env) Q E s:=by
 obtain⟨mb,h1,h2⟩:=I.mod.blt;exact Calls.Name_function_global I.ok.kind hg (Calls.loadGlobal_builtin (by rw[I.ok.glob];exact I.mod.glob.keeps I.bk) hm (by rw[I.ok.blt];exact h1.keeps I.bk) ((h2 x hn).trans hv) h) hd
theorem zM(hg:Gl X x)(hm:X.mg x=some u)(r:RelV v u)(hd:(x==(~~~3))=false:=by decide):PE X (.Name x pos) (tC v):=
 λ_ _ _ H _ I h=>gK I hg hm ⟨v,H,I,r,h⟩ hd
theorem sQ(hg:Gl X x)(hm:X.mg x=none)(hv:bootBuiltins x=some u)(r:RelV v u)(hn:x≠ "__name__" :=by decide)(hd:(x==(~~~3))=false:=by decide):PE X (.Name x pos) (tC v):=
 λ_ _ _ H _ I h=>gP I hg hm hv ⟨v,H,I,r,h⟩ hn hd
variable{a b:Expr}{ta tb:TE}{pos:Pos}
def tB(t:TE):TT:=λY H Q=>t Y H λx H1=>∃c,x=.bl c/\Q c H1
theorem QW{e:Expr}{t:TE}(h:PE X e t)(he:∀whole,isTrue e X.env whole=(do let v <- whole;standAt e.pos;holding [v] (truthy v)):=by intro _;rfl):PT X e (tB t):=by
 intro ah s Y H Q I hw;refine isTrue_plain (bK (h ah s Y H _ I hw) λv s1 ⟨x,H1,I1,r1,q1⟩=>?_) (he _)
 obtain⟨d,rfl,q⟩:=q1;cases r1;exact mM ⟨H1,I1,q⟩
variable{tA tB':TT}{rest:List Expr}
noncomputable def tAnd(t u:TT):TT:=λY H Q=>t Y H λc H1=>if c=true then u Y H1 Q else Q false H1
noncomputable def tOr(t u:TT):TT:=λY H Q=>t Y H λc H1=>if c=true then Q true H1 else u Y H1 Q
def tNot(t:TT):TT:=λY H Q=>t Y H λc H1=>Q (!c) H1
theorem pw_and1(ha:PT X a tA):PW X (.BoolOp .And [a] pos) tA:=by
 intro wh ah s Y H Q I h;refine isTrue_and (bK (ha ah s Y H Q I h) λc s1 e=>?_)
 cases c with
 |true=>exact isTrue_and_nil e
 |false=>exact e
theorem pw_or1(ha:PT X a tA):PW X (.BoolOp .Or [a] pos) tA:=by
 intro wh ah s Y H Q I h;refine isTrue_or (bK (ha ah s Y H Q I h) λc s1 e=>?_)
 cases c with
 |false=>exact isTrue_or_nil e
 |true=>exact e
theorem pw_and(ha:PT X a tA)(hb:PW X (.BoolOp .And (b::rest) pos) tB'):PW X (.BoolOp .And (a::b::rest) pos) (tAnd tA tB'):=by
 intro wh ah s Y H Q I h;refine isTrue_and (bK (ha ah s Y H _ I h) λc s1 ⟨H1,I1,q1⟩=>?_)
 cases c with
 |true=>exact hb wh ah s1 Y H1 Q I1 q1
 |false=>exact⟨H1,I1,q1⟩
theorem pw_or(ha:PT X a tA)(hb:PW X (.BoolOp .Or (b::rest) pos) tB'):PW X (.BoolOp .Or (a::b::rest) pos) (tOr tA tB'):=by
 intro wh ah s Y H Q I h;refine isTrue_or (bK (ha ah s Y H _ I h) λc s1 ⟨H1,I1,q1⟩=>?_)
 cases c with
 |true=>exact⟨H1,I1,q1⟩
 |false=>exact hb wh ah s1 Y H1 Q I1 q1
theorem Fy(ha:PT X a tA):PT X (.UnaryOp .Not a pos) (tNot tA):=by intro ah s Y H Q I h;exact isTrue_not (ha ah s Y H (λc H1=>Q (!c) H1) I h)
noncomputable def Xl(ta tb:TE):TE:=λY H Q=>ta Y H λx H1=>∃c,x=.bl c/\if c=true then tb Y H1 Q else Q (.bl false) H1
noncomputable def tOrV(ta tb:TE):TE:=λY H Q=>ta Y H λx H1=>∃c,x=.bl c/\if c=true then Q (.bl true) H1 else tb Y H1 Q
def Xm(ta:TE):TE:=λY H Q=>ta Y H λx H1=>∃c,x=.bl c/\Q (.bl (!c)) H1
theorem QX{op}(h:PE X a t):PE X (.BoolOp op [a] pos) t:=λah s Y H Q I hw=>BoolOp_one (h ah s Y H Q I hw)
theorem Fz(ha:PE X a ta)(hb:PE X (.BoolOp .And (b::rest) pos) tb):PE X (.BoolOp .And (a::b::rest) pos) (Xl ta tb):=by
 intro ah s Y H Q I h;refine BoolOp_and (bK (ha ah s Y H _ I h) λv s1 ⟨x,H1,I1,r1,q1⟩=>?_)
 obtain⟨c,rfl,q1⟩:=q1;cases r1;refine mM ?_;cases c with
 |true=>exact hb ah s1 Y H1 Q I1 q1
 |false=>exact⟨.bl false,H1,I1,rfl,q1⟩
theorem P5(ha:PE X a ta)(hb:PE X (.BoolOp .Or (b::rest) pos) tb):PE X (.BoolOp .Or (a::b::rest) pos) (tOrV ta tb):=by
 intro ah s Y H Q I h;refine BoolOp_or (bK (ha ah s Y H _ I h) λv s1 ⟨x,H1,I1,r1,q1⟩=>?_)
 obtain⟨c,rfl,q1⟩:=q1;cases r1;refine mM ?_;cases c with
 |false=>exact hb ah s1 Y H1 Q I1 q1
 |true=>exact⟨.bl true,H1,I1,rfl,q1⟩
theorem QZ(ha:PE X a ta):PE X (.UnaryOp .Not a pos) (Xm ta):=by
 intro ah s Y H Q I h;refine UnaryOp_ (bK (ha ah s Y H _ I h) λv s1 ⟨x,H1,I1,r1,q1⟩=>?_)
 obtain⟨c,rfl,q1⟩:=q1;cases r1;exact not_of (mM ⟨.bl (!c),H1,I1,rfl,q1⟩)
noncomputable def tIf(t:TT)(ta tb:TE):TE:=λY H Q=>t Y H λc H1=>if c=true then ta Y H1 Q else tb Y H1 Q
theorem vn{c:Expr}(hc:PT X c tA)(ha:PE X a ta)(hb:PE X b tb):PE X (.IfExp c a b pos) (tIf tA ta tb):=by
 intro ah s Y H Q I h;refine wpAny_IfExp (bK (hc ah s Y H _ I h) λd s1 ⟨H1,I1,q1⟩=>?_)
 cases d with
 |true=>exact ha ah s1 Y H1 Q I1 q1
 |false=>exact hb ah s1 Y H1 Q I1 q1
end
def cz(K:Frag)(H:Hp)(a:Addr)(xs:List V):Prop:=
 Rd H a (.lst xs)\/
  ∃(o:Obj) (its:Array Value) (n:Nat),K.lookup a=some o/\o.cls=.type "list" /\o.dict=none/\o.data=.seq its n/\its.size<=sizeLine/\Vals xs its.toList
def fP(K:Frag)(H:Hp)(a:Addr)(xs:List V):Prop:=
 Rd H a (.tup xs)\/
  ∃(o:Obj) (its:Array Value) (n:Nat),K.lookup a=some o/\o.cls=.type "tuple" /\o.data=.seq its n/\its.size<=sizeLine/\Vals xs its.toList
noncomputable def absV:Value->Option V
 |.none=>some .non
 |.bool b=>some (.bl b)
 |.int i _=>some (.int i)
 |.str x _=>some (.str x)
 |.bytes b _=>some (.QK b)
 |.float b _=>some (.flt b)
 |.ref a=>some (.ref a)
 |.type n=>some (.ty n)
 |_=>none
theorem RelV.abs(r:RelV x u):absV u=some x:=by
 cases x with
 |non=>cases r;rfl
 |bl _=>cases r;rfl
 |int _=>obtain⟨t,rfl⟩:=r;rfl
 |str _=>obtain⟨t,rfl⟩:=r;rfl
 |QK _=>obtain⟨t,rfl⟩:=r;rfl
 |flt _=>obtain⟨t,rfl⟩:=r;rfl
 |ref _=>cases r;rfl
 |ty _=>cases r;rfl
theorem RelV.inj{x y:V}{u:Value}(r:RelV x u)(q:RelV y u):x=y:=oD (r.abs.symm.trans q.abs)
theorem Vals.inj:∀{xs ys:List V}{us:List Value},Vals xs us->Vals ys us->xs=ys
 |_,_,_,.nil,.nil=>rfl
 |_,_,_,.cons r t,.cons r' t'=>by rw[r.inj r',Vals.inj t t']
section
variable{X:Cx}{ah: ~~~1}{Y:St}{H:Hp}{s:Shared}{a:Addr}{xs ys:List V}
theorem cz.of{K:Frag}(h:H a=some (.lst xs)):cz K H a xs:=.inl (.inl h)
theorem Inv.list(I: ~~~7)(h:cz X.K H a xs):∃its:List Value,Vals xs its/\PlainL s.heap a its.toArray/\xs.length<=sizeLine:=by
 rcases h with h |⟨o,its,n,hk,hc,hd,hs,hz,r⟩
 . obtain⟨z,its,n,r,e⟩:=h.ok I.hok;exact⟨its,r,⟨_,n,e,rfl,rfl,rfl⟩,z⟩
 .
  refine⟨its.toList,r,⟨o,n,I.nk a o hk,hc,hd,by simpa using hs⟩,?_⟩
  have e:=r.length;simp only[oC]at e;lia
theorem Inv.tuple(I: ~~~7)(h:fP X.K H a xs):∃its:List Value,Vals xs its/\IsTup s.heap a its.toArray/\xs.length<=sizeLine:=by
 rcases h with h |⟨o,its,n,hk,hc,hs,hz,r⟩
 . obtain⟨z,its,r,p⟩:=h.ok I.hok;exact⟨its,r,p.tup,z⟩
 .
  refine⟨its.toList,r,⟨o,I.nk a o hk,hc,n,by simpa using hs⟩,?_⟩
  have e:=r.length;simp only[oC]at e;lia
theorem Inv.vo(I: ~~~7)(h:cz X.K H a xs)(h':cz X.K H a ys):xs=ys:=by
 obtain⟨its,r,⟨o,n,e,_,_,d⟩,_⟩:=I.list h;obtain⟨its',r',⟨o',n',e',_,_,d'⟩,_⟩:=I.list h';rw[e]at e';cases e';rw[d]at d';injection d' with d1 _;have:its=its':=by simpa using congrArg Array.toList d1
 subst this;exact r.inj r'
theorem Inv.qV(I: ~~~7)(h:fP X.K H a xs)(h':fP X.K H a ys):xs=ys:=by
 obtain⟨its,r,⟨o,e,_,n,d⟩,_⟩:=I.tuple h;obtain⟨its',r',⟨o',e',_,n',d'⟩,_⟩:=I.tuple h';rw[e]at e';cases e';rw[d]at d';injection d' with d1 _;have:its=its':=by simpa using congrArg Array.toList d1
 subst this;exact r.inj r'
end
abbrev Cx.wish(X:Cx)(E:Value->Shared->Prop):Cx:={ X with xe:=E}
abbrev Cx.kZ(X:Cx):Cx:=X.wish λ_ _=>False
theorem Cx.Ok.wish{X:Cx}(ok:X.Ok)(E:Value->Shared->Prop):(X.wish E).Ok:=
 ⟨ok.mod,ok.kind,ok.glob,ok.blt,ok.above,ok.inj,ok.has,ok.QS,ok.hd,ok.frames,ok.stk,ok.Wt,ok.bs,ok.Ft,ok.vm,ok.x6,ok.jU,ok.Ku⟩
theorem Cx.Ok.cR{X:Cx}{E:Value->Shared->Prop}(ok:(X.wish E).Ok):X.Ok:=
 ⟨ok.mod,ok.kind,ok.glob,ok.blt,ok.above,ok.inj,ok.has,ok.QS,ok.hd,ok.frames,ok.stk,ok.Wt,ok.bs,ok.Ft,ok.vm,ok.x6,ok.jU,ok.Ku⟩
section
variable{X:Cx}{ah: ~~~1}{Y:St}{H:Hp}{s:Shared}{E:Value->Shared->Prop}
theorem Inv.wish(I: ~~~7)(E:Value->Shared->Prop):Inv (X.wish E) ah Y H s:=⟨I.ok.wish E,I.os,I.bare,I.base,I.loc,I.cell,I.free,I.dQ,I.pin,I.hok,I.len⟩
theorem Inv.cR(I:Inv (X.wish E) ah Y H s):Inv X ah Y H s:=⟨I.ok.cR,I.os,I.bare,I.base,I.loc,I.cell,I.free,I.dQ,I.pin,I.hok,I.len⟩
theorem SP.cR(h:SP (X.wish E) ah D f s'):SP X ah D f s':=by
 cases f with
 |next=>obtain⟨σ',H',I,q⟩:=h;exact⟨σ',H',I.cR,q⟩
 |brk=>obtain⟨σ',H',I,q⟩:=h;exact⟨σ',H',I.cR,q⟩
 |cont=>obtain⟨σ',H',I,q⟩:=h;exact⟨σ',H',I.cR,q⟩
 |ret u=>obtain⟨v,σ',H',I,r,q⟩:=h;exact⟨v,σ',H',I.cR,r,q⟩
theorem PE.kZ(h:PE X.kZ e t):PE X e t:=λah s Y H Q I hw=>
 lL (h ah s Y H Q (I.wish _) hw) (λ_ _ ⟨v,H',I',r,q⟩=>⟨v,H',I'.cR,r,q⟩) λ_ _ z=>False.elim z
theorem PT.kZ(h:PT X.kZ e t):PT X e t:=λah s Y H Q I hw=>
 lL (h ah s Y H Q (I.wish _) hw) (λ_ _ ⟨H',I',q⟩=>⟨H',I'.cR,q⟩) λ_ _ z=>False.elim z
theorem sP.kZ{st:List Stmt}{t:TS}(h:sP X.kZ st t):sP X st t:=λah s Y H D I hw=>
 lL (h ah s Y H D (I.wish _) hw) (λ_ _ q=>q.cR) λ_ _ z=>False.elim z
end
section
variable{X:Cx}{st:Stmt}{rest:List Stmt}{t u:TS}{e:Expr}{te:TE}{pos:Pos}
def Xn:TS:=λD Y H=>D.nx Y H
def Xo(t u:TS):TS:=λD Y H=>t { D with nx:=u D} Y H
theorem Kw:sP X [] Xn:=λ_ _ Y H _ I h=>wpAny_execs_nil ⟨Y,H,I,h⟩
theorem eL(h1:PS X st t)(h2:sP X rest u):sP X (st::rest) (Xo t u):=by
 intro ah s Y H D I h;refine A6 (bK (h1 ah s Y H { D with nx:=u D} I h) λf s1 q=>?_)
 cases f with
 |next=>obtain⟨σ',H',I',q⟩:=q;exact h2 ah s1 σ' H' D I' q
 |ret v=>exact q
 |brk=>exact q
 |cont=>exact q
theorem Ky(h1:PS X st t):sP X [st] t:=by
 intro ah s Y H D I h;refine A6 (bK (h1 ah s Y H D I h) λf s1 q=>?_)
 cases f with
 |next=>exact wpAny_execs_nil q
 |ret v=>exact q
 |brk=>exact q
 |cont=>exact q
theorem Inv.quiet{ah: ~~~1}{Y:St}{H:Hp}{s:Shared}(I: ~~~7):interactive X.env=false:=by simp[interactive,I.ok.kind]
def Xp(te:TE):TS:=λD Y H=>te Y H λ_ H1=>D.nx Y H1
theorem zO(he:PE X e te)(hs:swapsWith e none pos.line X.env=pure false:=by rfl):PS X (.Expr e pos) (Xp te):=by intro ah s Y H D I h;exact wpAny_Expr_any (bK (he ah s Y H _ I h) λv s1 ⟨x,H1,I1,r1,q1⟩=>⟨Y,H1,I1,q1⟩) I.quiet hs
def tRet(te:TE):TS:=λD Y H=>te Y H D.rt
theorem FG(he:PE X e te):PS X (.Return (some e) pos) (tRet te):=by intro ah s Y H D I h;exact wpAny_Return_some (bK (he ah s Y H _ I h) λv s1 ⟨x,H1,I1,r1,q1⟩=>⟨x,Y,H1,I1,r1,q1⟩)
noncomputable def tIfS(c:TT)(t u:TS):TS:=λD Y H=>c Y H λb H1=>if b=true then t D Y H1 else u D Y H1
theorem vp{c:Expr}{a b:List Stmt}{tc:TT}(hc:PT X c tc)(ha:sP X a t)(hb:sP X b u):PS X (.If c a b pos) (tIfS tc t u):=by
 intro ah s Y H D I h;refine wpAny_If (bK (hc ah s Y H _ I h) λd s1 ⟨H1,I1,q1⟩=>?_)
 cases d with
 |true=>exact ha ah s1 Y H1 D I1 q1
 |false=>exact hb ah s1 Y H1 D I1 q1
def Q5:TS:=λ_ _ _=>False
theorem bF:sP X jR Q5:=λ_ _ _ _ _ _ h=>h.elim
end
abbrev TG:=V->St->Hp->(St->Hp->Prop)->Prop
abbrev P6:=List V->St->Hp->(St->Hp->Prop)->Prop
def PG(X:Cx)(target:Expr)(t:TG):Prop:=
 ∀(ah: ~~~1) (s:Shared) (Y:St) (H:Hp) (v:V) (u:Value) (Q:St->Hp->Prop),Inv X ah Y H s->RelV v u->t v Y H Q->
  wpAny (~~~2) X.A (assign target X.env u) (λ_ s'=>∃σ' H',Inv X ah σ' H' s'/\Q σ' H') X.xe s
def Wu(X:Cx)(ts:List Expr)(t:P6):Prop:=
 ∀(ah: ~~~1) (s:Shared) (Y:St) (H:Hp) (vs:List V) (us:List Value) (Q:St->Hp->Prop),Inv X ah Y H s->Vals vs us->t vs Y H Q->
  wpAny (~~~2) X.A (assignInOrder ((assignEach ts X.env).map (·.2)) us) (λ_ s'=>∃σ' H',Inv X ah σ' H' s'/\Q σ' H') X.xe s
abbrev Q6:=V->V->V->Hp->(Hp->Prop)->Prop
def Xq(X:Cx)(t:Q6):Prop:=
 ∀(ah: ~~~1) (s:Shared) (Y:St) (H:Hp) (o i v:V) (ov iv u:Value) (Q:Hp->Prop),Inv X ah Y H s->RelV o ov->RelV i iv->RelV v u->t o i v H Q->
  wpAny (~~~2) X.A (setItem ov iv u) (λ_ s'=>∃H',Inv X ah Y H' s'/\Q H') X.xe s
section
variable{X:Cx}{pos:Pos}
def zP(i:Nat):TG:=λv Y H Q=>Q (Y.set i (some v)) H
theorem zQ(hN:X.N.Nodup)(hi:X.N[i]?=some x)(hx:Loc X.env.scope x)(hf:X.fn x=true\/X.env.scope.names.lookup x=some .local:=by first |exact .inl rfl |exact .inr rfl |assumption):PG X (.Name x pos) (zP i):=by intro ah s Y H v u Q I r h;exact wpAny_assign_Name (iD I hN hi hx r (λs' I'=>⟨_,H,I',h⟩) hf)
def gNil:P6:=λvs Y H Q=>vs=[]/\Q Y H
noncomputable def Xr(t:TG)(u:P6):P6:=λvs Y H Q=>∃v r,vs=v::r/\t v Y H λσ' H'=>u r σ' H' Q
theorem zR:Wu X [] gNil:=by intro ah s Y H vs us Q I r h;obtain⟨e,h⟩:=h;subst e;cases r;exact assignInOrder_nil ⟨Y,H,I,h⟩
theorem nY{e:Expr}{es:List Expr}{t:TG}{u:P6}(h1:PG X e t)(h2:Wu X es u)
  (hs:(assignEach (e::es) X.env).map (·.2)=assign e X.env::(assignEach es X.env).map (·.2):=by rfl):Wu X (e::es) (Xr t u):=by
 intro ah s Y H vs us Q I r h;obtain⟨v,vr,e1,h⟩:=h;subst e1;cases r with
 |cons r rr=>
  rw[hs];refine assignInOrder_cons (bK (h1 ah s Y H _ _ _ I r h) λ_ s1 ⟨σ1,H1,I1,q1⟩=>?_)
  exact h2 ah s1 σ1 H1 _ _ Q I1 rr q1
def gTup(K:Frag)(n:Nat)(t:P6):TG:=λv Y H Q=>∃a xs,v=.ref a/\fP K H a xs/\xs.length=n/\t xs Y H Q
theorem FH(hc:X.calm=true)(h:Wu X es t)
  (hn:(assignEach es X.env).length=n:=by rfl) (dg:(assignEach es X.env).findIdx? (·.1)=none:=by rfl):PG X (.Tuple es k pos) (gTup X.K n t):=by
 intro ah s Y H v u Q I r hw;obtain⟨a,xs,e1,hq,hl,hw⟩:=hw;subst e1;cases r;obtain⟨its,rv,ht,hz⟩:=I.tuple hq;refine assign_Tuple_tuple (I.ok.hd hc) ht (by simp[hn,<- hl,rv.length]) dg λh' hx=>?_
 have I1:Inv X ah Y H { s with heap:=h'}:=I.kept (t':=s.toks) λb o e=>hx b o (i7 (eQ e)) e
 exact h ah _ Y H xs _ Q I1 (by simpa using rv) hw
noncomputable def gSub(to ti:TE)(t:Q6):TG:=λv Y H Q=>to Y H λo H1=>ti Y H1 λi H2=>t o i v H2 λH3=>Q Y H3
theorem x9{o i:Expr}{to ti:TE}{t:Q6}(ho:PE X o to)(hi:PE X i ti)(hs:Xq X t)
  (ha:∀v,assign (.Subscript o i pos) X.env v=(do
   let ov <- holding [v] (eval o X.env)
   let iv <- holding [v,ov] (eval i X.env)
   standAt pos
   holding [v,ov,iv] (setItem ov iv v)
   release [v,ov,iv] []):=by intro _;rfl):PG X (.Subscript o i pos) (gSub to ti t):=by
 intro ah s Y H v u Q I r h;rw[ha];refine aS (l7 (bK (ho ah s Y H _ I h) λov s1 ⟨x,H1,I1,r1,q1⟩=>?_))
 refine aS (l7 (bK (hi ah s1 Y H1 _ I1 q1) λiv s2 ⟨y,H2,I2,r2,q2⟩=>?_))
 refine aS (xI (aS (l7 (bK (hs ah s2 Y H2 x y v ov iv u _ I2 r1 r2 r q2) λ_ s3 ⟨H3,I3,q3⟩=>?_))))
 exact wpAny_release ⟨Y,H3,I3,q3⟩
def Kz(te:TE)(g:TG):TS:=λD Y H=>te Y H λx H1=>g x Y H1 D.nx
theorem yc{tg e:Expr}{te:TE}{g:TG}(he:PE X e te)(hg:PG X tg g)(hs:swapsWithSole [tg] e pos.line X.env=pure false:=by rfl)(hw:swappedStores [tg] e X.env=pure none:=by rfl)
  (h1:(assignEach [tg] X.env).map (·.2)=[assign tg X.env]:=by rfl):PS X (.Assign [tg] e pos) (Kz te g):=by
 intro ah s Y H D I h;refine wpAny_Assign_stores (bK (he ah s Y H _ I h) λv s1 ⟨x,H1,I1,r1,q1⟩=>?_) hs hw
 rw[h1];exact bK (hg ah s1 Y H1 x v _ I1 r1 q1) λ_ s2 q=>q
theorem sS{i:Nat}{x:Str}{e:Expr}{te:TE}{pos':Pos}(hN:X.N.Nodup)(hi:X.N[i]?=some x)(hx:Loc X.env.scope x)(he:PE X e te)(hs:swapsWith e (some (.Name x pos')) pos.line X.env=pure false:=by rfl)(hf:X.fn x=true\/X.env.scope.names.lookup x=some .local:=by first |exact .inl rfl |exact .inr rfl |assumption) :
  PS X (.Assign [.Name x pos'] e pos) (Kz te (zP i)):=by
 intro ah s Y H D I h;refine wpAny_Assign_Name (bK (he ah s Y H _ I h) λv s1 ⟨y,H1,I1,r1,q1⟩=>?_) hs
 exact iD I1 hN hi hx r1 (λs2 I2=>⟨_,H1,I2,q1⟩) hf
noncomputable def tPar(i j:Nat)(ta:TA):TS:=λD Y H=>ta Y H λvs H1=>∃v w,vs=[v,w]/\D.nx ((Y.set i (some v)).set j (some w)) H1
theorem Q7{i j:Nat}{x y:Str}{a b:Expr}{ta:TA}{px py pt:Pos}{kt k2 J3}(hc:X.calm=true)(hN:X.N.Nodup)(hi:X.N[i]?=some x)(hj:X.N[j]?=some y)(hij:i≠j)
  (hx:X.env.scope.names.lookup x=some .local) (hy:X.env.scope.names.lookup y=some .local) (ha:PA X [a,b] ta)
  (hw:swappedStores [.Tuple [.Name x px,.Name y py] kt pt] (.Tuple [a,b] k2 J3) X.env=pure (some [x,y]))
  (hs:swapsWithSole [.Tuple [.Name x px,.Name y py] kt pt] (.Tuple [a,b] k2 J3) pos.line X.env=pure false:=by rfl) :
  PS X (.Assign [.Tuple [.Name x px,.Name y py] kt pt] (.Tuple [a,b] k2 J3) pos) (tPar i j ta):=by
 intro ah s Y H D I h;rw[exec_Assign_arm];refine aS (xI ?_);rw[hs];refine aS (dS ?_);rw[hU ⋯];refine aS (Tuple_ (bK (ha _ ah s Y H _ I h) λus s1 ⟨vs,H1,I1,r1,q1⟩=>?_))
 obtain⟨v,w,e1,q1⟩:=q1;subst e1;obtain⟨u1,u2,rfl,rv,rw'⟩:∃u1 u2,us=[u1,u2]/\RelV v u1/\RelV w u2:=by
  cases r1 with
  |cons p q=>
   cases q with
   |cons p' q'=>cases q';exact⟨_,_,rfl,p,p'⟩
 refine l9 ?_ (by show 2<=sizeLine;decide)
 have I2:Inv X ah Y H1 { s1 with heap:=s1.heap.push { cls:=.type "tuple",data:=.seq [u1,u2].toArray}}:=I1.kept (t':=s1.toks) λb o e=>bP _ e
 rw[hw];refine aS (dS ?_);show wpAny (~~~2) X.A (do rule "assign.swapped-stores";let items <- unpackItems (.ref s1⁻¹) 2 none;assignInOrder [λv=>bindName X.env y v,λv=>bindName X.env x v] items.reverse;pure Flow.next) _ _ _
 refine aS (CI (aS (unpackItems_tuple (items:=#[u1,u2]) (I.ok.hd hc) (IsTup.new s1.heap _) λh' hx'=>?_)))
 have I3:=I2.kept (h':=h') (t':=s1.toks) λb o e=>hx' b o (i7 (eQ e)) e
 show wpAny _ _ (assignInOrder [λv=>bindName X.env y v,λv=>bindName X.env x v] [u2,u1] >>= λ_=>pure Flow.next) _ _ _
 refine aS (assignInOrder_cons (wpAny_bindName (iD I3 hN hj (.inl hy) rw' (λs2 I4=>?_) (.inr hy))))
 refine assignInOrder_cons (wpAny_bindName (iD I4 hN hi (.inl hx) rv (λs3 I5=>assignInOrder_nil (dS ?_)) (.inr hx)))
 rw[List.set_comm _ _ (nV hij)]at I5;exact⟨_,H1,I5,q1⟩
end
section
variable{X:Cx}{pos:Pos}
noncomputable def Q8(c:TT)(tb:TS):TS:=λD Y H=>∃W:Nat->St->Hp->Prop,(∃m,W m Y H)/\∀m Y H,W m Y H->
 c Y H λb H1=>if b=true then ∃N:St->Hp->Prop,(∀σ' H',N σ' H'->∃m',m'<m/\W m' σ' H')/\tb { D with nx:=N,ct:=N,bk:=D.nx} Y H1 else D.nx Y H1
theorem FJ{c:Expr}{body:List Stmt}{tc:TT}{tb:TS}(hp:PassesOwn (~~~2) X.A X.env X.xe)(hc:PT X c tc)(hb:sP X body tb):PS X (.While c body [] pos) (Q8 tc tb):=by
 intro ah s Y H D I h;obtain⟨W,⟨m0,w0⟩,turn⟩:=h;refine wpAny_While (codeAny_whileLoop (λn s'=>∃σ' H',Inv X ah σ' H' s'/\W n σ' H') ?_ m0 ⟨Y,H,I,w0⟩)
 rintro n s1 ⟨σ1,H1,I1,w1⟩;refine AE hp (bK (hc ah s1 σ1 H1 _ I1 (turn n σ1 H1 w1)) λb s2 ⟨H2,I2,q2⟩=>?_)
 cases b with
 |true=>
  obtain⟨N,hN,q2⟩:=q2;rw[gL rfl];refine AE hp (bK (hb ah s2 σ1 H2 _ I2 q2) λf s3 q3=>?_)
  cases f with
  |next=>obtain⟨σ3,H3,I3,n3⟩:=q3;obtain⟨m',hm,w3⟩:=hN σ3 H3 n3;exact⟨m',hm,σ3,H3,I3,w3⟩
  |cont=>obtain⟨σ3,H3,I3,n3⟩:=q3;obtain⟨m',hm,w3⟩:=hN σ3 H3 n3;exact⟨m',hm,σ3,H3,I3,w3⟩
  |brk=>exact q3
  |ret v=>exact q3
 |false=>rw[hU kS];exact wpAny_execs_nil ⟨σ1,H2,I2,q2⟩
end
structure It where
 go:Nat->Hp->Prop
 Xs:Nat->Hp->V->Hp->Prop
 stop:Nat->Hp->Prop
def jV(X:Cx)(ah: ~~~1)(H:Hp)(b:Addr):Prop:=
 H b=none/\b≠X.env.locals/\b∉X.fs/\(b∈X.ex\/X.s₀⁻¹<=b)/\(∀x c,X.env.cells.lookup x=some c->c≠b)/\∀p∈X.pn++ah,p.1≠b
theorem Inv.BP{X:Cx}{ah: ~~~1}{Y:St}{H H':Hp}{s:Shared}{b:Addr}(I: ~~~7)(hb:s⁻¹<=b)(hn:H' b=none):jV X ah H' b:=by
 refine⟨hn,AJ (eD I.lt hb),I.nofs hb,.inr (kA I.sz hb),λx c e z=>?_,λp hp z=>?_⟩
 . obtain⟨v,q⟩:=I.cell x c e;exact absurd (eD q.lt (by rw[z];exact hb)) (nE _)
 . exact absurd (eD (eQ (I.pin p hp).1) (by rw[z];exact hb)) (nE _)
structure Turn(P:Program)(w:World)(K:Frag)(tg:Expr)(J:It)(fp:List Addr)(it:Addr)(tn:Nat->Heap->Prop):Prop where
 mem:it∈fp
 obj:∀i h,tn i h->∀b∈fp,∃o,h.get? b=some o/\∀v,o.data≠.cell v
 keep:∀i h h',tn i h->(∀b∈fp,∀o,h.get? b=some o->h'.get? b=some o)->tn i h'
 item:∀(X:Cx),X.prog=P->X.w=w->X.K=K->X.calm=true->∀(i:Nat) (ah: ~~~1) (s:Shared) (Y:St) (H:Hp) (E:Value->Shared->Prop),Inv X ah Y H s->(∀b∈fp,jV X ah H b)->tn i s.heap->J.go i H->
  wpAny (model P w) X.A (pyNext (.ref it)) (λr s1=>∃u,r=some u/\
   wpAny (model P w) X.A (letOwnedTupleGo tg (.ref it) u) (λ_ s2=>∃x H',Inv X ah Y H' s2/\RelV x u/\J.Xs i H x H'/\tn (i+1) s2.heap/\∀b∈fp,H' b=none) E s1) E s
 done:∀(X:Cx),X.prog=P->X.w=w->X.K=K->X.calm=true->∀(i:Nat) (ah: ~~~1) (s:Shared) (Y:St) (H:Hp) (E:Value->Shared->Prop),Inv X ah Y H s->(∀b∈fp,jV X ah H b)->tn i s.heap->J.stop i H->
  wpAny (model P w) X.A (pyNext (.ref it)) (λr s1=>r=none/\Inv X ah Y H s1) E s
 self:∀(A:Around) (i:Nat) (s:Shared) (Q:Value->Shared->Prop) (E:Value->Shared->Prop),tn i s.heap->Q (.ref it) s->wpAny (model P w) A (pyIter (.ref it)) Q E s
abbrev TI:=St->Hp->(It->Hp->Prop)->Prop
def PIE(X:Cx)(ah: ~~~1)(Y:St)(tg:Expr)(R:It->Hp->Prop)(itv:Value)(s2:Shared):Prop:=
 ∃(it:Addr) (fp:List Addr) (tn:Nat->Heap->Prop) (J:It) (H':Hp),itv=.ref it/\Inv X ah Y H' s2/\Turn X.prog X.w X.K tg J fp it tn/\tn 0 s2.heap/\(∀b∈fp,jV X ah H' b)/\R J H'
def PI(X:Cx)(tg iter:Expr)(wi:TI):Prop:=
 ∀(ah: ~~~1) (s:Shared) (Y:St) (H:Hp) (R:It->Hp->Prop),Inv X ah Y H s->wi Y H R->
  wpAny (~~~2) X.A (eval iter X.env) (λv s1=>wpAny (~~~2) X.A (pyIter v) (PIE X ah Y tg R) X.xe s1) X.xe s
theorem zS(ho:s.heap.get? it=some o)(hc:o.cls=.type n)(hd:o.data=.fields vs)
  (hn:["enumerate", "zip", "dict_itemiterator", "dict_reverseitemiterator", "odict_iterator", "itertools.zip_longest", "itertools.pairwise"].contains n=false) (hQ:Q () s):wpAny M A (letOwnedTupleGo tg (.ref it) u) Q E s:=by
 unfold letOwnedTupleGo;cases tg <;> first
  |exact dS hQ
  | (cases u <;> first
    |exact dS hQ
    | (refine aS (wpAny_load ho ?_)
       rw[hc,hd];show wpAny M A (if (["enumerate", "zip", "dict_itemiterator", "dict_reverseitemiterator", "odict_iterator", "itertools.zip_longest", "itertools.pairwise"].contains n&&vs[0]?==some (rawInt _))=true then _ else _) Q E s
       rw[hU (by intro h;rw[hn,Bool.false_and]at h;symm)]
       exact dS hQ))
def Itl(K:Frag)(a:Addr):It:=
 ⟨λi H=>∃xs x,cz K H a xs/\xs[i]?=some x,λi H x H'=>H'=H/\∀xs,cz K H a xs->xs[i]?=some x,λi H=>∃xs,cz K H a xs/\xs.length<=i⟩
def Itt(K:Frag)(a:Addr):It:=
 ⟨λi H=>∃xs x,fP K H a xs/\xs[i]?=some x,λi H x H'=>H'=H/\∀xs,fP K H a xs->xs[i]?=some x,λi H=>∃xs,fP K H a xs/\xs.length<=i⟩
noncomputable def Q9(lo:Int)(n:Nat):It:=⟨λi _=>i<n,λi H x H'=>H'=H/\x=.int (lo+i),λi _=>n<=i⟩
theorem BR{P:Program}{w:World}{K:Frag}{tg:Expr}(a it:Addr):Turn P w K tg (Itl K a) [it] it (λi h=>h.IsListIter it a i) where
 mem:=by simp
 obj:=λi h st b hb=>by
  have e:b=it:=by simpa using hb
  subst e;obtain⟨o,e,c,d⟩:=st;exact⟨o,e,λv z=>by rw[d]at z;cases z⟩
 keep:=λi h h' st k=>st.at λo e=>k it ⋯ o e
 item:=by
  intro X hP hw hK hc i ah s Y H E I hf st hg;subst hP hw hK;obtain⟨xs,x,hq,hx⟩:=hg;obtain⟨its,rv,p,hz⟩:=I.list hq;obtain⟨u,hu,ru⟩:=rv.get hx;obtain⟨f0,f1,f2,f3,f4,f5⟩:=hf it ⋯;refine wpAny_pyNext_list_item st p.isList (x:=u) (by simpa using hu) λh' st' sb=>?_
  have I1:Inv X ah Y H { s with heap:=h'}:=I.turned (t':=s.toks) (λb o hb e=>(sb.2 b hb).trans e) f0 f1 f3 f4 f5
  obtain⟨o,e,c,d⟩:=id st';exact⟨u,rfl,zS (s:={ s with heap:=h'}) e c d ⋯ ⟨x,H,I1,ru,⟨rfl,λys hy=>by rw[I.vo hy hq];exact hx⟩,st',λb hb=>(hf b hb).1⟩⟩
 done:=by intro X hP hw hK hc i ah s Y H E I hf st hg;subst hP hw hK;obtain⟨xs,hq,hx⟩:=hg;obtain⟨its,rv,p,hz⟩:=I.list hq;obtain⟨f0,f1,f2,f3,f4,f5⟩:=hf it ⋯;have hl:=rv.length;exact wpAny_pyNext_list_end (I.ok.hd hc) st p.isList (by simp;lia) λh' eb=>⟨rfl,I.turned (t':=s.toks) (λb o hb e=>eb b o hb e) f0 f1 f3 f4 f5⟩
 self:=λ_ _ _ _ _ st h=>wpAny_pyIter_listiter st h
theorem yd{P:Program}{w:World}{K:Frag}{tg:Expr}(a it:Addr):Turn P w K tg (Itt K a) [it] it (λi h=>h.IsTupleIter it a i) where
 mem:=by simp
 obj:=λi h st b hb=>by
  have e:b=it:=by simpa using hb
  subst e;obtain⟨o,e,c,d⟩:=st;exact⟨o,e,λv z=>by rw[d]at z;cases z⟩
 keep:=λi h h' st k=>st.at λo e=>k it ⋯ o e
 item:=by
  intro X hP hw hK hc i ah s Y H E I hf st hg;subst hP hw hK;obtain⟨xs,x,hq,hx⟩:=hg;obtain⟨its,rv,p,hz⟩:=I.tuple hq;obtain⟨u,hu,ru⟩:=rv.get hx;obtain⟨f0,f1,f2,f3,f4,f5⟩:=hf it ⋯;refine wpAny_pyNext_tuple_item st (show s.heap.IsTuple a its.toArray from p) (x:=u) (by simpa using hu) λh' st' sb=>?_
  have I1:Inv X ah Y H { s with heap:=h'}:=I.turned (t':=s.toks) (λb o hb e=>(sb.2 b hb).trans e) f0 f1 f3 f4 f5
  obtain⟨o,e,c,d⟩:=id st';exact⟨u,rfl,zS (s:={ s with heap:=h'}) e c d ⋯ ⟨x,H,I1,ru,⟨rfl,λys hy=>by rw[I.qV hy hq];exact hx⟩,st',λb hb=>(hf b hb).1⟩⟩
 done:=by intro X hP hw hK hc i ah s Y H E I hf st hg;subst hP hw hK;obtain⟨xs,hq,hx⟩:=hg;obtain⟨its,rv,p,hz⟩:=I.tuple hq;obtain⟨f0,f1,f2,f3,f4,f5⟩:=hf it ⋯;have hl:=rv.length;exact wpAny_pyNext_tuple_end (I.ok.hd hc) st (show s.heap.IsTuple a its.toArray from p) (by simp;lia) λh' eb=>⟨rfl,I.turned (t':=s.toks) (λb o hb e=>eb b o hb e) f0 f1 f3 f4 f5⟩
 self:=λ_ _ _ _ _ st h=>wpAny_pyIter_tupleiter st h
theorem yf{P:Program}{w:World}{K:Frag}{tg:Expr}(it:Addr)(lo:Int)(n:Nat):Turn P w K tg (Q9 lo n) [it] it (λi h=>IsRangeIter h it (lo+(i:Nat) * 1) ((n:Int) - (i:Nat)) 1) where
 mem:=by simp
 obj:=λi h st b hb=>by
  have e:b=it:=by simpa using hb
  subst e;exact⟨_,st,λv z=>by
   have z':Data.fields _=Data.cell v:=z;cases z'⟩
 keep:=λi h h' st k=>k it ⋯ _ st
 item:=by
  intro X hP hw hK hc i ah s Y H E I hf st hg;subst hP hw hK;obtain⟨f0,f1,f2,f3,f4,f5⟩:=hf it ⋯;have W:=Walks.range (prog:=X.prog) (w:=X.w) (I.ok.hd hc) it lo 1 n;refine W.item i s _ _ hg st λv h' tk hv st' kk=>?_
  obtain⟨t,rfl⟩:=hv;have I1:Inv X ah Y H { s with heap:=h',toks:=tk}:=I.turned (λb o hb e=>kk b o (by simpa using hb) e) f0 f1 f3 f4 f5
  refine⟨_,rfl,zS (s:={ s with heap:=h',toks:=tk}) (n:= "range_iterator") st' rfl rfl ⋯ ⟨.int (lo+i),H,I1,⟨t,?_⟩,⟨rfl,rfl⟩,st',λb hb=>(hf b hb).1⟩⟩
  rw[Int.mul_one]
 done:=by intro X hP hw hK hc i ah s Y H E I hf st hg;subst hP hw hK;obtain⟨f0,f1,f2,f3,f4,f5⟩:=hf it ⋯;exact wpAny_pyNext_range_end (I.ok.hd hc) st (by have:n<=i:=hg;lia) λh' eb=>⟨rfl,I.turned (t':=s.toks) (λb o hb e=>eb b o hb e) f0 f1 f3 f4 f5⟩
 self:=λ_ _ _ _ _ st h=>wpAny_pyIter_rangeiter st h
section
variable{X:Cx}{tg:Expr}
def Xu(K:Frag)(tl:TE):TI:=λY H R=>tl Y H λx H1=>∃a,x=.ref a/\(∃xs,cz K H1 a xs)/\R (Itl K a) H1
def iTup(K:Frag)(tl:TE):TI:=λY H R=>tl Y H λx H1=>∃a,x=.ref a/\(∃xs,fP K H1 a xs)/\R (Itt K a) H1
theorem zT{l:Expr}{tl:TE}(hl:PE X l tl):PI X tg l (Xu X.K tl):=by
 intro ah s Y H R I h;refine bK (hl ah s Y H _ I h) λv s1 ⟨x,H1,I1,r1,q1⟩=>?_
 obtain⟨a,e,⟨xs,hq⟩,q⟩:=q1;subst e;cases r1;obtain⟨its,rv,p,hz⟩:=I1.list hq;refine AU p.isList ?_;refine⟨s1⁻¹,[s1⁻¹],_,_,H1,rfl,I1.kept (t':=s1.toks) λb o e=>bP _ e,BR a _,⟨_,eM _ rfl,rfl,rfl⟩,λb hb=>?_,q⟩
 have e:b=s1⁻¹:=by simpa using hb
 subst e;exact I1.BP (eC _) (I1.hok.fresh (eC _))
theorem Ra{l:Expr}{tl:TE}(hl:PE X l tl):PI X tg l (iTup X.K tl):=by
 intro ah s Y H R I h;refine bK (hl ah s Y H _ I h) λv s1 ⟨x,H1,I1,r1,q1⟩=>?_
 obtain⟨a,e,⟨xs,hq⟩,q⟩:=q1;subst e;cases r1;obtain⟨its,rv,p,hz⟩:=I1.tuple hq;refine AM (show s1.heap.IsTuple a its.toArray from p) ?_
 refine⟨s1⁻¹,[s1⁻¹],_,_,H1,rfl,I1.kept (t':=s1.toks) λb o e=>bP _ e,yd a _,⟨_,eM _ rfl,rfl,rfl⟩,λb hb=>?_,q⟩
 have e:b=s1⁻¹:=by simpa using hb
 subst e;exact I1.BP (eC _) (I1.hok.fresh (eC _))
theorem vq{ah: ~~~1}{Y:St}{H:Hp}{s:Shared}{R:It->Hp->Prop}{E:Value->Shared->Prop}{lo hi:Int}{t u v:Tok}{tk:Nat}(I: ~~~7)(h1 : -(2 ^ 62)<=lo)(h2:lo<2 ^ 62)(h3 : -(2 ^ 62)<=hi)(h4:hi<2 ^ 62)
  (q:R (Q9 lo (hi - lo).toNat) H):wpAny (~~~2) X.A (pyIter (.ref s⁻¹)) (PIE X ah Y tg R) E { s with heap:=s.heap.push { cls:=.type "range",data:=.fields #[.int lo t,.int hi u,.int 1 v]},toks:=tk}:=by
 refine wpAny_pyIter_range (IsRange.new ..) (small_one h1 h2 h3 h4) ?_;have I1:Inv X ah Y H { s with heap:=s.heap.push { cls:=.type "range",data:=.fields #[.int lo t,.int hi u,.int 1 v]},toks:=tk}:=I.kept λb o e=>bP _ e
 refine⟨(s.heap.push { cls:=.type "range",data:=.fields #[.int lo t,.int hi u,.int 1 v]}).objs.size,[(s.heap.push { cls:=.type "range",data:=.fields #[.int lo t,.int hi u,.int 1 v]}).objs.size],_,_,H,rfl,
  I1.kept (t':=tk) λb o e=>bP _ e,yf _ lo (hi - lo).toNat,?_,λb hb=>?_,q⟩
 .
  have e1:lo+((0:Nat):Int) * 1=lo:=by simp
  have e2:(((hi - lo).toNat:Nat):Int) - ((0:Nat):Int)=Builtin.Range.rangeSize lo hi 1:=by rw[rangeSize_one];split <;> lia
  show IsRangeIter _ _ (lo+((0:Nat):Int) * 1) ((((hi - lo).toNat:Nat):Int) - ((0:Nat):Int)) 1;rw[e1,e2];exact eM _ rfl
 .
  have e:b=(s.heap.push { cls:=.type "range",data:=.fields #[.int lo t,.int hi u,.int 1 v]}).objs.size:=by simpa using hb
  subst e;exact I1.BP (eC _) (I1.hok.fresh (eC _))
def Xv(ta:TA):TI:=λY H R=>ta Y H λvs H1=>∃j:Int,vs=[.int j]/\-(2 ^ 62)<=j/\j<2 ^ 62/\R (Q9 0 j.toNat) H1
def Xw(ta:TA):TI:=λY H R=>ta Y H λvs H1=>∃i j:Int,vs=[.int i,.int j]/\(-(2 ^ 62)<=i/\i<2 ^ 62/\-(2 ^ 62)<=j/\j<2 ^ 62)/\R (Q9 i (j - i).toNat) H1
theorem BV{a:Expr}{ta:TA}{p pos:Pos}(hg:Gl X "range")(hm:X.mg "range"=none)(ha:PA X [a] ta)(hs:starEach [a] X.env=[(false,eval a X.env)]:=by rfl):PI X tg (.Call (.Name "range" p) [a] [] pos) (Xv ta):=by
 intro ah s Y H R I h;refine Call_ (gP I hg hm boot_range (nN (bK (ha pos ah s Y H _ I h) λus s1 ⟨vs,H1,I1,r1,q1⟩=>?_) hs rfl))
 obtain⟨j,e,q1,q2,q⟩:=q1;subst e;cases r1 with
 |cons r rr=>cases rr;obtain⟨t,rfl⟩:=r;exact call_range_1 (vq I1 ⋯ ⋯ q1 q2 (by simpa using q))
theorem BW{a b:Expr}{ta:TA}{p pos:Pos}(hg:Gl X "range")(hm:X.mg "range"=none)(ha:PA X [a,b] ta)(hs:starEach [a,b] X.env=[(false,eval a X.env),(false,eval b X.env)]:=by rfl)(hs2:starEach [b] X.env=[(false,eval b X.env)]:=by rfl) :
  PI X tg (.Call (.Name "range" p) [a,b] [] pos) (Xw ta):=by
 intro ah s Y H R I h;refine Call_ (gP I hg hm boot_range (nN (bK (ha pos ah s Y H _ I h) λus s1 ⟨vs,H1,I1,r1,q1⟩=>?_) (by rw[hs,hs2]) (by rw[hs2];rfl)))
 obtain⟨i,j,e,⟨q1,q2,q3,q4⟩,q⟩:=q1;subst e;cases r1 with
 |cons r rr=>
  cases rr with
  |cons r' rr=>cases rr;obtain⟨t,rfl⟩:=r;obtain⟨t',rfl⟩:=r';exact call_range_2 (vq I1 q1 q2 q3 q4 q)
noncomputable def tFor(wi:TI)(g:TG)(tb:TS):TS:=λD Y H=>wi Y H λJ H1=>∃W:Nat->Nat->St->Hp->Prop,(∃m,W 0 m Y H1)/\∀i m Y H,W i m Y H->
 (J.stop i H/\D.nx Y H)\/(J.go i H/\∃N:St->Hp->Prop,(∀σ' H',N σ' H'->∃m',m'<m/\W (i+1) m' σ' H')/\∀x H',J.Xs i H x H'->g x Y H' λσ2 H2=>tb { D with nx:=N,ct:=N,bk:=D.nx} σ2 H2)
noncomputable def lg(fp:List Addr)(h:Heap): ~~~1:=fp.filterMap λb=>(h.get? b).map λo=>(b,o)
theorem dB{fp:List Addr}{h:Heap}{b:Addr}{o:Obj}(hb:b∈fp)(e:h.get? b=some o):(b,o)∈lg fp h:=List.mem_filterMap.mpr ⟨b,hb,by rw[e];rfl⟩
theorem BX(hp:p∈lg fp h):p.1∈fp/\h.get? p.1=some p.2:=by
 obtain⟨b,hb,e⟩:=List.mem_filterMap.mp hp;cases q:h.get? b with
 |none=>rw[q]at e;cases e
 |some o=>rw[q]at e;have e':(b,o)=p:=oD e;subst e';exact⟨hb,q⟩
theorem Inv.pinned{ah: ~~~1}{Y:St}{H:Hp}{s:Shared}{fp:List Addr}(I: ~~~7)(hf:∀b∈fp,jV X ah H b)(ho:∀b∈fp,∃o,s.heap.get? b=some o/\∀v,o.data≠.cell v):Inv X (ah++lg fp s.heap) Y H s:=
 I.zL λp hp=>(t9.mp hp).elim (λz=>I.pin p (i5 _ z)) λz=>by
  obtain⟨hb,e⟩:=BX z;obtain⟨f0,f1,f2,_⟩:=hf p.1 hb;obtain⟨o,e',d⟩:=ho p.1 hb;rw[e]at e';cases e';exact⟨e,f0,f1,f2,d⟩
theorem Inv.iE{ah pl: ~~~1}{Y:St}{H:Hp}{s:Shared}(I:Inv X (ah++pl) Y H s):Inv X ah Y H s:=I.zL λp hp=>I.pin p (i5 _ (qS _ hp))
theorem Rb{iter:Expr}{body:List Stmt}{wi:TI}{g:TG}{tb:TS}{pos:Pos}(hp:PassesOwn (~~~2) X.A X.env X.xe)(hc:X.calm=true)(hi:PI X tg iter wi)(hg:PG X tg g)(hb:sP X body tb)
  (hs:∀x,foldedSetIterable iter X.env x=pure x:=by intro _;rfl):PS X (.For tg iter body [] pos) (tFor wi g tb):=by
 intro ah s Y H D I h;refine wpAny_For (bK (hi ah s Y H _ I h) λv s1 h1=>bK h1 λitv s2 h2=>?_) hs
 obtain⟨it,fp,tn,J,H2,e,I2,T,aK,f2,W,⟨m0,w0⟩,turn⟩:=h2;subst e;have stat:∀{H':Hp},(∀b∈fp,H' b=none)->∀b∈fp,jV X ah H' b:=λhn b hb=>⟨hn b hb,(f2 b hb).2⟩
 refine codeAny_forLoop_any (λn s'=>∃i σ' H',Inv X ah σ' H' s'/\tn i s'.heap/\(∀b∈fp,H' b=none)/\W i n σ' H') ?_ m0 ⟨0,Y,H2,I2,aK,λb hb=>(f2 b hb).1,w0⟩
 rintro n s3 ⟨i,σ3,H3,I3,eE,P7,w3⟩;rcases turn i n σ3 H3 w3 with ⟨stop,qn⟩ |⟨go,N,hN,step⟩
 .
  refine AE hp (bK (T.done X rfl rfl rfl hc i ah s3 σ3 H3 X.xe I3 (stat P7) eE stop) λr s4 ⟨hr,I4⟩=>?_)
  subst hr;exact wpAny_execs_nil ⟨σ3,H3,I4,qn⟩
 .
  refine AE hp (bK (T.item X rfl rfl rfl hc i ah s3 σ3 H3 X.xe I3 (stat P7) eE go) λr s4 ⟨u,hr,h4⟩=>?_)
  subst hr;refine AE hp (bK h4 λ_ s5 ⟨x,H5,I5,r5,y5,jW,Xx⟩=>?_)
  have Xy:=I5.pinned (stat Xx) (T.obj _ _ jW);refine AE hp (bK (hg _ s5 σ3 H5 x u _ Xy r5 (step x H5 y5)) λ_ s6 ⟨σ6,H6,I6,q6⟩=>?_)
  refine AE hp (bK (hb _ s6 σ6 H6 _ I6 q6) λf s7 q7=>?_)
  have again:∀{σ7:St}{H7:Hp},Inv X (ah++lg fp s5.heap) σ7 H7 s7->N σ7 H7->∃m,m<n/\∃i σ' H',Inv X ah σ' H' s7/\tn i s7.heap/\(∀b∈fp,H' b=none)/\W i m σ' H':=λ{σ7 H7} I7 n7=>by
   obtain⟨m',hm,w7⟩:=hN σ7 H7 n7;refine⟨m',hm,i+1,σ7,H7,I7.iE,T.keep _ _ _ jW λb hb o e=>(I7.pin (b,o) (i5 _ (i5 _ (dB hb e)))).1,λb hb=>?_,w7⟩
   obtain⟨o,e,d⟩:=T.obj _ _ jW b hb;exact (I7.pin (b,o) (i5 _ (i5 _ (dB hb e)))).2.1
  cases f with
  |next=>obtain⟨σ7,H7,I7,n7⟩:=q7;exact again I7 n7
  |cont=>obtain⟨σ7,H7,I7,n7⟩:=q7;exact again I7 n7
  |brk=>obtain⟨σ7,H7,I7,q7⟩:=q7;exact⟨σ7,H7,I7.iE,q7⟩
  |ret v=>obtain⟨x7,σ7,H7,I7,r7,q7⟩:=q7;exact⟨x7,σ7,H7,I7.iE,r7,q7⟩
end
abbrev R2:=V->V->Hp->VK->Prop
def mV(X:Cx)(f:Value->Value->Sem Value)(r:R2):Prop:=
 ∀(ah: ~~~1) (s:Shared) (Y:St) (H:Hp) (x y:V) (v u:Value) (Q:VK),Inv X ah Y H s->RelV x v->RelV y u->r x y H Q->
  wpAny (~~~2) X.A (f v u) (EP X ah Y Q) X.xe s
def UnR(X:Cx)(f:Value->Sem Value)(r:V->Hp->VK->Prop):Prop:=
 ∀(ah: ~~~1) (s:Shared) (Y:St) (H:Hp) (x:V) (v:Value) (Q:VK),Inv X ah Y H s->RelV x v->r x H Q->
  wpAny (~~~2) X.A (f v) (EP X ah Y Q) X.xe s
def d8(X:Cx)(f:Value)(r:List V->Hp->VK->Prop):Prop:=
 ∀(ah: ~~~1) (s:Shared) (Y:St) (H:Hp) (xs:List V) (us:List Value) (Q:VK),Inv X ah Y H s->Vals xs us->r xs H Q->
  wpAny (~~~2) X.A (call f us) (EP X ah Y Q) X.xe s
def TruR(X:Cx)(r:V->Hp->(Bool->Hp->Prop)->Prop):Prop:=
 ∀(ah: ~~~1) (s:Shared) (Y:St) (H:Hp) (x:V) (v:Value) (Q:Bool->Hp->Prop),Inv X ah Y H s->RelV x v->r x H Q->
  wpAny (~~~2) X.A (truthy v) (TP X ah Y Q) X.xe s
noncomputable def tOp(r:R2)(ta tb:TE):TE:=λY H Q=>ta Y H λx H1=>tb Y H1 λy H2=>r x y H2 Q
def tUn(r:V->Hp->VK->Prop)(ta:TE):TE:=λY H Q=>ta Y H λx H1=>r x H1 Q
noncomputable def rI(C:Int->Int->Prop)(g:Int->Int->V):R2:=λx y H Q=>∃i j,x=.int i/\y=.int j/\C i j/\Q (g i j) H
noncomputable def J4(g:Int->Int->V):R2:=λx y H Q=>∃i j,x=.int i/\y=.int j/\Q (g i j) H
def rU(g:Int->V):V->Hp->VK->Prop:=λx H Q=>∃i,x=.int i/\Q (g i) H
section
variable{X:Cx}{a b c:Expr}{ta tb tc:TE}{pos:Pos}
theorem Rc(ha:PE X a ta)(hb:PE X b tb){ah: ~~~1}{s:Shared}{Y:St}{H:Hp}{R:V->V->Hp->Prop}(I: ~~~7)
  (h:ta Y H λx H1=>tb Y H1 λy H2=>R x y H2) {Q:Value->Shared->Prop}{f:Value->Value->Sem Value}
  (hf:∀v u s2 x y H2,Inv X ah Y H2 s2->RelV x v->RelV y u->R x y H2->wpAny (~~~2) X.A (f v u) Q X.xe s2) :
  wpAny (~~~2) X.A (eval a X.env) (λv s₁=>wpAny (~~~2) X.A (eval b X.env) (λu s₂=>wpAny (~~~2) X.A (f v u) Q X.xe s₂) X.xe s₁) X.xe s:=by
 refine bK (ha ah s Y H _ I h) λv s1 ⟨x,H1,I1,r1,q1⟩=>?_
 refine bK (hb ah s1 Y H1 _ I1 q1) λu s2 ⟨y,H2,I2,r2,q2⟩=>?_
 exact hf v u s2 x y H2 I2 r1 r2 q2
theorem Xz{op:Operator}{r:R2}(ho:mV X (binaryOp op) r)(ha:PE X a ta)(hb:PE X b tb):PE X (.BinOp a op b pos) (tOp r ta tb):=by intro ah s Y H Q I h;exact wpAny_BinOp (Rc ha hb I h λv u s2 x y H2 I2 rx ry q=>ho ah s2 Y H2 x y v u Q I2 rx ry q)
theorem P8{op:UnaryOp}{r:V->Hp->VK->Prop}(ho:UnR X (unaryOp op) r)(ha:PE X a ta):PE X (.UnaryOp op a pos) (tUn r ta):=by intro ah s Y H Q I h;exact UnaryOp_ (bK (ha ah s Y H _ I h) λv s1 ⟨x,H1,I1,r1,q1⟩=>ho ah s1 Y H1 x v Q I1 r1 q1)
theorem opI{f:Value->Value->Sem Value}{C:Int->Int->Prop}{g:Int->Int->Int}
  (rule:∀(i j:Int) (t u:Tok) (s:Shared) (Q:Value->Shared->Prop) (E:Value->Shared->Prop),C i j->Q (.int (g i j) s.toks) { s with toks:=s.toks+1}->wpAny (~~~2) X.A (f (.int i t) (.int j u)) Q E s) :
  mV X f (rI C λi j=>.int (g i j)):=by
 intro ah s Y H x y v u Q I rx ry h;obtain⟨i,j,rfl,rfl,hc,q⟩:=h;obtain⟨t,rfl⟩:=rx;obtain⟨t',rfl⟩:=ry;exact rule i j t t' s _ _ hc ⟨.int (g i j),H,I.tok _,⟨_,rfl⟩,q⟩
theorem XC{f:Value->Value->Sem Value}{g:Int->Int->Int}
  (rule:∀(i j:Int) (t u:Tok) (s:Shared) (Q:Value->Shared->Prop) (E:Value->Shared->Prop),Q (.int (g i j) s.toks) { s with toks:=s.toks+1}->wpAny (~~~2) X.A (f (.int i t) (.int j u)) Q E s) :
  mV X f (J4 λi j=>.int (g i j)):=by
 intro ah s Y H x y v u Q I rx ry h;obtain⟨i,j,rfl,rfl,q⟩:=h;obtain⟨t,rfl⟩:=rx;obtain⟨t',rfl⟩:=ry;exact rule i j t t' s _ _ ⟨.int (g i j),H,I.tok _,⟨_,rfl⟩,q⟩
theorem KC{f:Value->Value->Sem Value}{g:Int->Int->Bool}
  (rule:∀(i j:Int) (t u:Tok) (s:Shared) (Q:Value->Shared->Prop) (E:Value->Shared->Prop),Q (.bool (g i j)) s->wpAny (~~~2) X.A (f (.int i t) (.int j u)) Q E s) :
  mV X f (J4 λi j=>.bl (g i j)):=by
 intro ah s Y H x y v u Q I rx ry h;obtain⟨i,j,rfl,rfl,q⟩:=h;obtain⟨t,rfl⟩:=rx;obtain⟨t',rfl⟩:=ry;exact rule i j t t' s _ _ ⟨.bl (g i j),H,I,rfl,q⟩
def CDiv(i j:Int):Prop:=0<j/\j<1073741824
def CPow(i j:Int):Prop:=0<=j/\j<=1000000/\i.natAbs<2 ^ 64
def Rf(i j:Int):Prop:=(-(2 ^ 64)<i/\i<2 ^ 64)\/(-(2 ^ 64)<j/\j<2 ^ 64)
theorem Rf.ok{i j:Int}(h:Rf i j):IntMulOk i j:=by
 rcases h with ⟨h1,h2⟩ |⟨h1,h2⟩
 . exact .of_left (intBits_le_64 h1 h2)
 . exact .of_right (intBits_le_64 h1 h2)
theorem Rg:mV X (binaryOp .Add) (J4 λi j=>.int (i+j)):=XC λ_ _ _ _ _ _ _ q=>add_int q
theorem Rh:mV X (binaryOp .Sub) (J4 λi j=>.int (i - j)):=XC λ_ _ _ _ _ _ _ q=>sub_int q
theorem Ri:mV X (binaryOp .Mult) (rI Rf λi j=>.int (i * j)):=opI λ_ _ _ _ _ _ _ hc q=>mul_int q hc.ok
theorem KD:mV X (binaryOp .FloorDiv) (rI CDiv λi j=>.int (i / j)):=opI λi j _ _ _ _ _ hc q=>by
 have h1:(0:Int)<j:=hc.1;have h2:j<1073741824:=hc.2;exact floordiv_int ⋯ (by rw[Int.fdiv_eq_ediv_of_nonneg i ⋯];exact q) (.inl (PyProof.noPylong_small ⋯))
theorem Rj:mV X (binaryOp .Mod) (rI (λ_ j=>0<j) λi j=>.int (i % j)):=opI λi j _ _ _ _ _ hc q=>by
 have h1:(0:Int)<j:=hc;exact mod_int' ⋯ (by rw[Int.fmod_eq_emod_of_nonneg i ⋯];exact q)
theorem sU:mV X (binaryOp .Pow) (rI CPow λi j=>.int (i ^ j.toNat)):=opI λ_ _ _ _ _ _ _ hc q=>pow_int_small hc.1 hc.2.1 hc.2.2 q
theorem unI{f:Value->Sem Value}{g:Int->Int}
  (rule:∀(i:Int) (t:Tok) (s:Shared) (Q:Value->Shared->Prop) (E:Value->Shared->Prop),Q (.int (g i) s.toks) { s with toks:=s.toks+1}->wpAny (~~~2) X.A (f (.int i t)) Q E s) :
  UnR X f (rU λi=>.int (g i)):=by
 intro ah s Y H x v Q I rx h;obtain⟨i,rfl,q⟩:=h;obtain⟨t,rfl⟩:=rx;exact rule i t s _ _ ⟨.int (g i),H,I.tok _,⟨_,rfl⟩,q⟩
theorem FN:UnR X (unaryOp .USub) (rU λi=>.int (-i)):=unI λ_ _ _ _ _ q=>neg_int q
end
section
variable{X:Cx}{a b c:Expr}{ta tb tc:TE}{pos:Pos}
theorem XD:mV X (compareOp .Lt) (J4 λi j=>.bl (decide (i<j))):=KC λ_ _ _ _ _ _ _ q=>lt_int q
theorem XF:mV X (compareOp .LtE) (J4 λi j=>.bl (decide (i<=j))):=KC λ_ _ _ _ _ _ _ q=>le_int q
theorem XH:mV X (compareOp .Gt) (J4 λi j=>.bl (decide (j<i))):=KC λ_ _ _ _ _ _ _ q=>gt_int q
theorem XJ:mV X (compareOp .GtE) (J4 λi j=>.bl (decide (j<=i))):=KC λ_ _ _ _ _ _ _ q=>ge_int q
theorem sV{op:CmpOp}{r:R2}(ho:mV X (compareOp op) r)(ha:PE X a ta)(hb:PE X b tb)(hm:behindInMarks op b=false):PE X (.Compare a [op] [b] pos) (tOp r ta tb):=by intro ah s Y H Q I h;exact wpAny_Compare1 (Rc ha hb I h λv u s2 x y H2 I2 rx ry q=>ho ah s2 Y H2 x y v u Q I2 rx ry q) hm
def XM(t:TE):TT:=λY H Q=>t Y H λx H'=>∃k,x=.bl k/\Q k H'
theorem KH{op:CmpOp}{r:R2}(ho:mV X (compareOp op) r)(ha:PE X a ta)(hb:PE X b tb)(hm:behindInMarks op b=false):PT X (.Compare a [op] [b] pos) (XM (tOp r ta tb)):=by
 intro ah s Y H Q I h;refine wpAny_isTrue_Compare1 (bK (ha ah s Y H _ I h) λv s1 ⟨x,H1,I1,r1,q1⟩=>bK (hb ah s1 Y H1 _ I1 q1) λu s2 ⟨y,H2,I2,r2,q2⟩=>
  bK (ho ah s2 Y H2 x y v u _ I2 r1 r2 q2) λc s3 ⟨z,H3,I3,r3,k,e,q3⟩=>?_) hm
 subst e;cases r3;exact mM ⟨H3,I3,q3⟩
def XQ(K:Frag)(x:V)(H:Hp)(k:Bool):Prop:=
 match x with
 |.non=>k=false
 |.bl b=>k=b
 |.int i=>k=(i != 0)
 |.str y=>y.length<=sizeLine/\k=((y.length:Int) != 0)
 |.QK y=>y.size<=sizeLine/\k=((y.size:Int) != 0)
 |.ref p=>(∃xs,cz K H p xs/\k=!xs.isEmpty)\/(∃xs,fP K H p xs/\k=!xs.isEmpty)\/∃dN,H p=some (.dK dN)/\k=!dN.isEmpty
 |_=>False
theorem yg{κ:Type}{dN:List (κ×V)}{vs:List (κ×Value)}(r:KV dN vs):(!vs.isEmpty)=!dN.isEmpty:=by cases r <;> rfl
theorem nZ{xs:List V}{its:List Value}(r:Vals xs its):(!its.toArray.isEmpty)=!xs.isEmpty:=by cases r <;> simp
theorem n5:(sizeLine:Nat)<2 ^ 63:=by rw[rV];decide
theorem Rk:TruR X (λx H Q=>∃k,XQ X.K x H k/\Q k H):=by
 intro ah s Y H x v Q I rx h;obtain⟨k,e,q⟩:=h;have hl:=n5;have hs:sizeLine=16777216:=rV;cases x with
 |non=>cases rx;have e':k=false:=e;subst e';exact truthy_none ⟨H,I,q⟩
 |bl b=>cases rx;have e':k=b:=e;subst e';exact mM ⟨H,I,q⟩
 |int i=>obtain⟨t,rfl⟩:=rx;have e':k=(i != 0):=e;subst e';exact PySem.P.truthy_int ⟨H,I,q⟩
 |str y=>obtain⟨t,rfl⟩:=rx;obtain⟨hy,e'⟩:y.length<=sizeLine/\k=((y.length:Int) != 0):=e;subst e';exact PySem.P.truthy_str ⋯ ⟨H,I.tok _,q⟩
 |QK y=>obtain⟨t,rfl⟩:=rx;obtain⟨hy,e'⟩:y.size<=sizeLine/\k=((y.size:Int) != 0):=e;subst e';exact PySem.W.truthy_bytes ⋯ ⟨H,I.tok _,q⟩
 |ref p=>
  cases rx;have e':(∃xs,cz X.K H p xs/\k=!xs.isEmpty)\/(∃xs,fP X.K H p xs/\k=!xs.isEmpty)\/∃dN,H p=some (.dK dN)/\k=!dN.isEmpty:=e;rcases e' with ⟨xs,hx,e'⟩ |⟨xs,hx,e'⟩ |⟨dN,hx,e'⟩
  . subst e';obtain⟨its,r,pl,hz⟩:=I.list hx;have aJ:=r.length;exact wpAny_truthy_list pl.isList (by simp only[dE];lia) ⟨H,I.tok _,by rw[nZ r];exact q⟩
  . subst e';obtain⟨its,r,pl,hz⟩:=I.tuple hx;have aJ:=r.length;exact truthy_tuple pl (by simp only[dE];lia) ⟨H,I.tok _,by rw[nZ r];exact q⟩
  . subst e';obtain⟨hz,hS,vs,r,m⟩:dN.length<=sizeLine/\(p==sysModules)=false/\∃vs,KV dN vs/\s.heap.DictOf (gI X.prog X.w) p vs:=I.hok p _ hx;have aJ:dN.length=vs.length:=Paired.length r;exact wpAny_truthy_dict hS m ⋯ ⟨H,I.tok _,by rw[yg r];exact q⟩
 |_=>exact (show False from e).elim
theorem FP(ha:PE X a ta)(he:∀whole,isTrue a X.env whole=(do let v <- whole;standAt a.pos;holding [v] (truthy v))) :
  PT X a (λY H Q=>ta Y H λx H'=>∃k,XQ X.K x H' k/\Q k H'):=by
 intro ah s Y H Q I h;exact isTrue_plain (bK (ha ah s Y H _ I h) λv s1 ⟨x,H1,I1,r1,q1⟩=>Rk ah s1 Y H1 x v Q I1 r1 q1) (he _)
theorem vals1(r:Vals [x] us):∃u,us=[u]/\RelV x u:=by
 cases r with
 |cons r1 r2=>cases r2;exact⟨_,rfl,r1⟩
theorem vals2(r:Vals [x,y] us):∃u w',us=[u,w']/\RelV x u/\RelV y w':=by
 cases r with
 |cons r1 r2=>
  cases r2 with
  |cons r3 r4=>cases r4;exact⟨_,_,rfl,r1,r3⟩
theorem BZ(hc:X.calm=true):d8 X (.builtin "max") (λxs H Q=>∃i j,xs=[.int i,.int j]/\Q (.int (if j > i then j else i)) H):=by
 intro ah s Y H xs us Q I r h;obtain⟨i,j,rfl,q⟩:=h;obtain⟨u,w',rfl,⟨t,rfl⟩,⟨t',rfl⟩⟩:=vals2 r;refine max_two_ints (I.ok.hd hc) λh' tk k=>⟨_,H,I.kept k,?_,q⟩
 by_cases hj:j > i
 . rw[gL hj,gL hj];exact⟨_,rfl⟩
 . rw[hU hj,hU hj];exact⟨_,rfl⟩
theorem Ca(hc:X.calm=true):d8 X (.builtin "min") (λxs H Q=>∃i j,xs=[.int i,.int j]/\Q (.int (if j<i then j else i)) H):=by
 intro ah s Y H xs us Q I r h;obtain⟨i,j,rfl,q⟩:=h;obtain⟨u,w',rfl,⟨t,rfl⟩,⟨t',rfl⟩⟩:=vals2 r;refine min_two_ints (I.ok.hd hc) λh' tk k=>⟨_,H,I.kept k,?_,q⟩
 by_cases hj:j<i
 . rw[gL hj,gL hj];exact⟨_,rfl⟩
 . rw[hU hj,hU hj];exact⟨_,rfl⟩
def LenV(K:Frag)(x:V)(H:Hp)(n:Nat):Prop:=
 match x with
 |.str y=>y.length<=sizeLine/\n=y.length
 |.QK y=>y.size<=sizeLine/\n=y.size
 |.ref p=>(∃xs,cz K H p xs/\n=xs.length)\/∃xs,fP K H p xs/\n=xs.length
 |_=>False
theorem FQ:d8 X (.builtin "len") (λxs H Q=>∃x n,xs=[x]/\LenV X.K x H n/\Q (.int n) H):=by
 intro ah s Y H xs us Q I r h;obtain⟨x,n,rfl,e,q⟩:=h;obtain⟨u,rfl,rx⟩:=vals1 r;have hl:=n5;have hs:sizeLine=16777216:=rV;cases x with
 |str y=>obtain⟨t,rfl⟩:=rx;obtain⟨hy,e'⟩:y.length<=sizeLine/\n=y.length:=e;subst e';exact len_str ⋯ ⟨.int _,H,I.tok _,⟨_,rfl⟩,q⟩
 |QK y=>obtain⟨t,rfl⟩:=rx;obtain⟨hy,e'⟩:y.size<=sizeLine/\n=y.size:=e;subst e';exact PySem.W.len_bytes ⋯ ⟨.int _,H,I.tok _,⟨_,rfl⟩,q⟩
 |ref p=>
  cases rx;have e':(∃xs,cz X.K H p xs/\n=xs.length)\/∃xs,fP X.K H p xs/\n=xs.length:=e;rcases e' with ⟨xs,hx,e'⟩ |⟨xs,hx,e'⟩
  . subst e';obtain⟨its,r',pl,hz⟩:=I.list hx;have aJ:=r'.length;exact Calls.call_len_list pl.isList (by simp only[dE];lia) ⟨.int xs.length,H,I.tok _,⟨_,by simp only[dE];rw[aJ]⟩,q⟩
  . subst e';obtain⟨its,r',pl,hz⟩:=I.tuple hx;have aJ:=r'.length;exact len_tuple pl (by simp only[dE];lia) ⟨.int xs.length,H,I.tok _,⟨_,by simp only[dE];rw[aJ]⟩,q⟩
 |_=>exact (show False from e).elim
end
structure bS(k:Nat)(A:Around):Prop where
 hd:A.handled=none
 dp:A.depth+3 * k+5<recursionLimit
 un:A.units+16 * k+200<cLine
theorem bS.mono{j k:Nat}{A:Around}(r:bS k A)(h:j<=k):bS j A:=⟨r.hd,by have:=r.dp;lia,by have:=r.un;lia⟩
theorem bS.deeper(r:bS (k+1) A)(env:Env):bS k (A.deeper env):=
 ⟨r.hd,by have:=r.dp;show A.depth+1+3 * k+5<_;lia,by have:=r.un;show A.units+3+16 * k+200<_;lia⟩
theorem bS.depth{k:Nat}{A:Around}(r:bS k A):A.depth<recursionLimit:=by have:=r.dp;lia
theorem bS.units{k:Nat}{A:Around}(r:bS k A):A.units+64<cLine:=by have:=r.un;lia
theorem bS.Rl{k:Nat}{A:Around}(r:bS k A):A.units<cLine:=by have:=r.un;lia
def tNil:TA:=λ_ H Q=>Q [] H
noncomputable def XR(ta:TE)(tr:TA):TA:=λY H Q=>ta Y H λx H1=>tr Y H1 λxs H2=>Q (x::xs) H2
section
variable{X:Cx}{e:Expr}{es:List Expr}{te:TE}{t:TA}{pos:Pos}
theorem lq:PA X [] tNil:=λ_ _ _ _ H Q I h=>Calls.spliced_nil ⟨[],H,I,.nil,h⟩
theorem cD(ha:PE X e te)(hr:PA X es t)(hs:starEach (e::es) X.env=(false,eval e X.env)::starEach es X.env:=by rfl):PA X (e::es) (XR te t):=by
 intro pos ah s Y H Q I h;rw[hs];show wpAny _ _ (spliced ((false,eval e X.env)::backTo pos (starEach es X.env))) _ _ s;refine Calls.spliced_cons (bK (ha ah s Y H _ I h) λu s1 ⟨x,H1,I1,r1,q1⟩=>?_)
 exact bK (hr pos ah s1 Y H1 _ I1 q1) λus s2 ⟨xs,H2,I2,r2,q2⟩=>⟨x::xs,H2,I2,.cons r1 r2,q2⟩
def tTup(t:TA):TE:=λY H Q=>t Y H λxs H1=>xs.length<=sizeLine/\∀p,H1 p=none->Q (.ref p) (upd H1 p (.tup xs))
def tLst(t:TA):TE:=λY H Q=>t Y H λxs H1=>xs.length<=sizeLine/\∀p,H1 p=none->Q (.ref p) (upd H1 p (.lst xs))
theorem yh{x1}(h:PA X es t):PE X (.Tuple es x1 pos) (tTup t):=by
 intro ah s Y H Q I hq;refine wpAny_Tuple_spliced (bK (h pos ah s Y H _ I hq) λus s1 ⟨xs,H1,I1,r,z,q⟩=>⟨by rw[<- r.length];exact z,?_⟩)
 have hf:H1 s1⁻¹=none:=I1.hok.fresh (eC _);refine⟨.ref s1⁻¹,upd H1 s1⁻¹ (.tup xs),I1.laid (t':=s1.toks) (λb u e=>bP _ e) (eC _) ?_,rfl,q _ hf⟩
 exact⟨z,us,r,⟨_,eM _ rfl,⟨rfl,_,rfl⟩,rfl⟩⟩
theorem Rm(h:PA X es t):PE X (.List es pos) (tLst t):=by
 intro ah s Y H Q I hq;refine wpAny_List_spliced (bK (h pos ah s Y H _ I hq) λus s1 ⟨xs,H1,I1,r,z,q⟩=>⟨by rw[<- r.length];exact z,?_⟩)
 have hf:H1 s1⁻¹=none:=I1.hok.fresh (eC _);refine⟨.ref s1⁻¹,upd H1 s1⁻¹ (.lst xs),I1.laid (t':=s1.toks) (λb u e=>bP _ e) (eC _) ?_,rfl,q _ hf⟩
 exact⟨z,us,0,r,eM _ rfl⟩
end
abbrev Sp:=List V->Hp->VK->XK->Prop
abbrev Cb:=List Env->Hp->Shared->XK->Value->Shared->Prop
structure FT(P:Program)(w:World)(K:Frag)(mg:Str->Option Value)(base:Heap)(A:Around)(outer:List Env)(s:Shared)(H:Hp):Prop where
 frames:A.frames=some outer
 mod:Mod K mg base
 bs:∀b o,base.get? b=some o->s.heap.get? b=some o/\H b=none
 Ft:base.objs.size<=s⁻¹
 jU:s.heap.FunFrames base outer
 Ku:∀b∈frs outer,H b=none
 hok:kX P w H s.heap
 bare:AllBare s.gens
def CE(outer:List Env)(P:Program)(w:World)(H:Hp)(s:Shared)(Q:VK)(u:Value)(s':Shared):Prop:=
 ∃v H',s'.os=s.os/\AllBare s'.gens/\Un (frs outer) [] H H' s.heap s'.heap/\kX P w H' s'.heap/\RelV v u/\Q v H'
def CR(CX:Cb)(outer:List Env)(P:Program)(w:World)(H:Hp)(s:Shared)(Q:VK)(E:XK)(r:Result)(s':Shared):Prop:=
 match r with
 |.ok (.ret u)=>CE outer P w H s Q u s'
 |.ok _=>False
 |.error e=>CX outer H s E e s'
structure ji(P:Program)(w:World)(K:Frag)(mg:Str->Option Value)(base:Heap)(CX:Cb)(k:Nat)(f:Addr)(fd:FuncData)(ps:List Str)(sp:Sp):Prop where
 len:∀vs H Q E,sp vs H Q E->vs.length=ps.length
 run:∀(A:Around) (outer:List Env) (s:Shared) (H:Hp) (args:Args) (us:List Value) (vs:List V) (Q:VK) (E:XK),bS k A->FT P w K mg base A outer s H->BindsTo s fd args (ps.zip us)->Vals vs us->sp vs H Q E->
  codeAny (model P w) A (.call (.ref f) args) (CR CX outer P w H s Q E) s
section
variable{X:Cx}{ah: ~~~1}{Y:St}{H:Hp}{s s':Shared}
theorem Inv.KJ(I: ~~~7):FT X.prog X.w X.K X.mg X.base X.A X.stack s H:=
 ⟨I.ok.frames,I.ok.mod,I.bs,kA I.ok.Ft I.sz,I.stack,I.sO,I.hok,I.bare⟩
theorem Inv.after(I: ~~~7)(h:CE X.stack X.prog X.w H s Q u s'):EP X ah Y Q u s':=by obtain⟨v,H',os,bare,un,hok,r,q⟩:=h;obtain⟨hh,g,d,t,os'⟩:=s';obtain rfl:os'=s.os:=os;exact⟨v,H',I.call (h':=hh) (g':=g) (d':=d) (t':=t) (ch:=[]) un hok bare (λb z=>absurd z ⋯),r,q⟩
end
noncomputable def XS(sp:Sp)(kP:List V)(E:XK)(t:TA):TE:=λY H Q=>t Y H λvs H1=>sp (vs++kP) H1 Q E
def Binds(K:Frag)(fd:FuncData)(ps:List Str)(ds:List Value):Prop:=
 ∀(s:Shared) (us:List Value),K.In s.heap->(us++ds).length=ps.length->BindsTo s fd ⟨us,[]⟩ (ps.zip (us++ds))
theorem Binds.all{K:Frag}{fd:FuncData}{ps:List Str}(h:∀us:List Value,us.length=ps.length->bindArgs fd ⟨us,[]⟩=pure (ps.zip us)):Binds K fd ps []:=λs us _ hl=>by
 rw[nK]at hl ⊢
 exact .of_eq (h us hl)
def Passes(CX:Cb)(X:Cx)(E:XK):Prop:=∀(ah: ~~~1) (Y:St) (H:Hp) (s:Shared) (e:Value) (s':Shared),Inv X ah Y H s->CX X.stack H s E e s'->X.xe e s'
section
variable{X:Cx}{CX:Cb}{k:Nat}{f C:Addr}{fd:FuncData}{ps:List Str}{sp:Sp}{kP:List V}{ds:List Value}{E:XK}{x m:Str}{p pos ez:Pos}{e o:Expr}{es:List Expr}{ta:TE}{t:TA}
theorem Ro{ah: ~~~1}{Y:St}{H:Hp}{s:Shared}{Q:VK}{us:List Value}{vs:List V}(F:ji X.prog X.w X.K X.mg X.base CX k f fd ps sp)(hr:bS k X.A)(hb:Binds X.K fd ps ds)(hd:Vals kP ds)(hx:Passes CX X E)
  (I: ~~~7) (r:Vals vs us) (h:sp (vs++kP) H Q E):wpAny (~~~2) X.A (call (.ref f) us) (EP X ah Y Q) X.xe s:=by
 have r2:Vals (vs++kP) (us++ds):=r.append hd;have hl:(us++ds).length=ps.length:=by rw[<- r2.length];exact F.len _ _ _ _ h
 refine C6 (Bi (F.run X.A X.stack s H ⟨us,[]⟩ (us++ds) (vs++kP) Q E hr I.KJ (hb s us I.nk hl) r2 h) λr s' hq=>?_)
 cases r with
 |error e=>exact hx ah Y H s e s' I hq
 |ok fl=>
  cases fl with
  |ret u=>exact I.after hq
  |next=>exact False.elim hq
  |brk=>exact False.elim hq
  |cont=>exact False.elim hq
theorem zU(F:ji X.prog X.w X.K X.mg X.base CX k f fd ps sp)(hr:bS k X.A)(hg:Gl X x)(hm:X.mg x=some (.ref f))(hk:PySem.W.keepIn X.K (.ref f)=true)(hb:Binds X.K fd ps ds)(hd:Vals kP ds)(hx:Passes CX X E)
  (ha:PA X (e::es) t) (jQ:(x==(~~~3))=false:=by decide) (he:starEach (e::es) X.env=(false,eval e X.env)::starEach es X.env:=by rfl) (g8:(backTo pos (starEach es X.env)).any (·.1)=false:=by rfl) :
  PE X (.Call (.Name x p) (e::es) [] pos) (XS sp kP E t):=by
 intro ah s Y H Q I h;refine wP (gK I hg hm ?_ jQ);refine BA (h₀:=X.base) I.ok.mod.Fq hk (bK (ha pos ah s Y H _ I h) λus s1 ⟨vs,H1,I1,r,q⟩=>⟨I1.nk,?_⟩) he g8
 exact Ro F hr hb hd hx I1 r q
end
structure bV(N P:List Str)(sc:Scope):Prop where
 kind:sc.kind=.function
 co:sc.isCoroutine=false
 gen:sc.isGenerator=false
 nd:N.Nodup
 pre:N.take P.length=P
 par:∀x∈P,sc.names.lookup x=some .local\/sc.names.lookup x=some .cell
 Rp:∀y∈sc.names,y.2≠.free
theorem qW{kindOf:Str->Option NameKind}{x:Str}:∀{binds:List (Str×Value)}{m:Str->Option Value},(∀v,(x,v)∉binds)->bindL kindOf binds m x=m x
 | [],_,_=>rfl
 | (n,v)::r,m,h=>by
  unfold bindL;rw[qW λw hw=>h w (dA _ hw)]
  split
  .
   have:x≠n:=by rintro rfl;exact h v dC
   simp[this]
  . rfl
theorem qX{kindOf:Str->Option NameKind}{x:Str}:∀{binds:List (Str×Value)}{m:Str->Option Value},(∀v,(x,v)∉binds)->bindC kindOf binds m x=m x
 | [],_,_=>rfl
 | (n,v)::r,m,h=>by
  unfold bindC;rw[qX λw hw=>h w (dA _ hw)]
  split
  . rfl
  .
   have:x≠n:=by rintro rfl;exact h v dC
   simp[this]
theorem qY{kindOf:Str->Option NameKind}{x:Str}{v:Value}:∀{P:List Str}{vs:List Value}{i:Nat}{m:Str->Option Value},P.Nodup->P[i]?=some x->vs[i]?=some v->kindOf x=some .local->
  bindL kindOf (P.zip vs) m x=some v
 | [],_,_,_,_,h,_,_=>by simp at h
 |_::_,[],_,_,_,_,h,_=>by simp at h
 |p::P,w::vs,0,m,nd,h1,h2,hk=>by
  simp at h1 h2;subst h1;subst h2;show bindL kindOf ((p,w)::P.zip vs) m p=_;unfold bindL;rw[qW λv hv=>(i3.mp nd).1 (BB hv).1,gL hk]
  simp
 |p::P,w::vs,i+1,m,nd,h1,h2,hk=>by
  show bindL kindOf ((p,w)::P.zip vs) m x=_;unfold bindL;exact qY (i:=i) (i3.mp nd).2 (by simpa using h1) (by simpa using h2) hk
theorem qZ{kindOf:Str->Option NameKind}{x:Str}{v:Value}:∀{P:List Str}{vs:List Value}{i:Nat}{m:Str->Option Value},P.Nodup->P[i]?=some x->vs[i]?=some v->kindOf x≠some .local->
  bindC kindOf (P.zip vs) m x=some v
 | [],_,_,_,_,h,_,_=>by simp at h
 |_::_,[],_,_,_,_,h,_=>by simp at h
 |p::P,w::vs,0,m,nd,h1,h2,hk=>by
  simp at h1 h2;subst h1;subst h2;show bindC kindOf ((p,w)::P.zip vs) m p=_;unfold bindC;rw[qX λv hv=>(i3.mp nd).1 (BB hv).1,hU hk]
  simp
 |p::P,w::vs,i+1,m,nd,h1,h2,hk=>by
  show bindC kindOf ((p,w)::P.zip vs) m x=_;unfold bindC;exact qZ (i:=i) (i3.mp nd).2 (by simpa using h1) (by simpa using h2) hk
noncomputable def start(N:List Str)(vs:List V):St:=vs.map some++List.replicate (N.length - vs.length) none
noncomputable def fF(CX:Cb)(P:Program)(w:World)(K:Frag)(mg:Str->Option Value)(base:Heap)(N:List Str)(qual:Str)(scope:Scope)(f:Addr)(cd:Value)(A:Around)(outer:List Env)(s:Shared)(H:Hp)(E:XK):Cx where
 prog:=P
 w:=w
 K:=K
 mg:=mg
 base:=base
 A:=A.deeper (envOfC qual scope s⁻¹ f cd)
 N:=N
 s₀:=s
 H₀:=H
 env:=envOfC qual scope s⁻¹ f cd
 outer:=outer
 stack:=envOfC qual scope s⁻¹ f cd::outer
 ex:=[]
 calm:=true
 fn:=λ_=>true
 pn:=[]
 xe:=λe s'=>wpAny (model P w) (A.deeper (envOfC qual scope s⁻¹ f cd)) (leaving (envOfC qual scope s⁻¹ f cd) e) (λ_ s''=>CX outer H s E e s'') (λe' s''=>CX outer H s E e' s'') s'
theorem vt{sc:Scope}{n:Nat}{x:Str}(h:sc.names.lookup x=some .cell):∃c,(cellsFrom n sc.names []).lookup x=some c:=by have q:=BS sc.names n [] (.inl h);exact Option.isSome_iff_exists.mp q
theorem rm{CX:Cb}{P:Program}{w:World}{K:Frag}{mg:Str->Option Value}{base:Heap}{N ps:List Str}{qual:Str}{scope:Scope}{f:Addr}{cd:Value}{A:Around}{outer:List Env}{s s1:Shared}{H:Hp}{E:XK}{us:List Value}{vs:List V}
  (S:bV N ps scope) (hd:A.handled=none) (e0:FT P w K mg base A outer s H) (hl:vs.length=ps.length) (r:Vals vs us)
  (x:InCallC s s⁻¹ (bindL (envOfC qual scope s⁻¹ f cd).kindOf (ps.zip us) λ_=>none) (cellsFrom (s⁻¹+1) scope.names []) (bindC (envOfC qual scope s⁻¹ f cd).kindOf (ps.zip us) λ_=>none) s1) :
  Inv (fF CX P w K mg base N qual scope f cd A outer s H E) [] (start N vs) H s1:=by
 have g8:ps.length<=N.length:=by have:=congrArg List.length S.pre;rw[v0]at this;lia
 obtain⟨h1,tk,rfl,hk⟩:=x.done;have XT:∀b:Addr,b∉(fF CX P w K mg base N qual scope f cd A outer s H E).ex:=λb z=>absurd (show b∈([]:List Addr)from z) ⋯
 refine⟨⟨e0.mod,S.kind,rfl,rfl,eC _,λy z c h1 h2=>?_,λy hy=>?_,λy c _ h=>?_,λ_=>hd,Around.frames_deeper e0.frames,.inr ⟨rfl,rfl⟩,λb z=>absurd z (XT b),e0.bs,e0.Ft,λb _ _=>XT b,λb z=>absurd z (XT b),e0.jU,e0.Ku⟩,
  rfl,e0.bare,Un.kept hk,⟨_,x.toInCall.ns,λi y v h1 h2 h3=>?_⟩,λy c h=>⟨_,x.cell y c h⟩,e0.hok.fresh (eC _),λy c h=>?_,λp hp=>absurd (show p∈([]: ~~~1)from hp) ⋯,e0.hok.kept hk,?_⟩
 . exact name_of_addr x.apart (AK h1) (AK h2)
 .
  have hy:scope.names.lookup y=some .cell\/scope.names.lookup y=some .free:=hy;rcases hy with hy |hy
  . exact vt hy
  . exact absurd rfl (S.Rp _ (AK hy))
 . exact C0 (x.above y c (AK h))
 .
  have hi:i<vs.length:=by
   unfold start at h2;by_cases hi:i<vs.length
   . exact hi
   .
    rw[fR (by simpa using hi)]at h2
    rw[List.getElem?_replicate]at h2;split at h2 <;> cases h2
  have ha:vs[i]?=some v:=by
   unfold start at h2;rw[eP (by simpa using hi),yA]at h2
   cases e:vs[i]? with
   |none=>rw[e]at h2;cases h2
   |some a=>rw[e]at h2;cases h2;rfl
  obtain⟨u,hu,rv⟩:=r.get ha;have hp:ps[i]?=some y:=by rw[<- S.pre,oI ⋯];exact h1
  have ndP:ps.Nodup:=by rw[<- S.pre];exact S.nd.sublist (List.take_sublist _ _)
  refine⟨u,rv,?_⟩;rcases S.par y (l8 hp)with k |k
  . exact .inl ⟨k,qY ndP hp hu k⟩
  .
   obtain⟨c,e⟩:=vt (n:=s⁻¹+1) k;refine .inr ⟨.inl k,c,e,?_⟩;have q:=x.cell y c e;rw[qZ ndP hp hu (by show scope.names.lookup y≠_;rw[k];decide)]at q
   exact q
 . exact e0.hok.fresh (C0 (x.above y c (AK h)))
 . unfold start;show _=N.length;rw[eJ,fA,l6];lia
theorem P9{CX:Cb}{P:Program}{w:World}{K:Frag}{mg:Str->Option Value}{base:Heap}{k:Nat}{f:Addr}{name qual:Str}{params:Arguments}{body:List Stmt}{scope:Scope}{dV kV doc pm bD ct oc:Value}{an od:Option Addr}
  {osl:Array (Option Value)}{N ps:List Str}{sp:Sp} (lk:K.lookup f=some ⟨oc,od,.func (PySem.W.fnOf name qual params body scope dV kV doc pm an bD ct),osl⟩) (bN:PySem.W.codeIn K bD qual=true) (S:bV N ps scope)
  (len:∀vs H Q E,sp vs H Q E->vs.length=ps.length)
  (hbody:∀(A:Around) (outer:List Env) (s:Shared) (H:Hp) (vs:List V) (Q:VK) (E:XK),bS k (A.deeper (envOfC qual scope s⁻¹ f bD))->sp vs H Q E->
   ∃t,sP (fF CX P w K mg base N qual scope f bD A outer s H E) body t/\t { nx:=λ_ H'=>Q .non H',rt:=Q} (start N vs) H) :
  ji P w K mg base CX (k+1) f (PySem.W.fnOf name qual params body scope dV kV doc pm an bD ct) ps sp:=by
 refine⟨len,λA outer s H args us vs Q E hr e0 hb r Wv=>?_⟩
 have hl:=len _ _ _ _ Wv;have KX:K.In s.heap:=e0.mod.Fq.keeps λb o e=>(e0.bs b o e).1
 have lim:s.heap.NoLimit:=e0.mod.nolimit.keeps λb o e=>(e0.bs b o e).1
 have hkind:∀y∈ps.zip us,scope.names.lookup y.1=some .local\/(scope.names.lookup y.1=some .cell/\((cellsFrom (s⁻¹+1) scope.names []).lookup y.1).isSome=true):=λ⟨n,v⟩ hy=>by
  rcases S.par n (BB hy).1 with q |q
  . exact .inl q
  . exact .inr ⟨q,BS _ _ _ (.inl q)⟩
 refine codeAny_call_function hr.depth (KX _ _ lk) rfl S.co S.gen rfl (PySem.W.codeRec_of KX bN) (hb _ _ _ _ ?_);refine wpAny_newFunctionEnv_cells S.kind hkind λenv he s1 x=>?_
 subst he;refine⟨lim.keeps x.toInCall.keep,codeAny_func ?_⟩;obtain⟨t,ht,hq⟩:=hbody A outer s H vs Q E (hr.deeper _) Wv;have I:Inv (fF CX P w K mg base N qual scope f bD A outer s H E) [] (start N vs) H s1:=rm S hr.hd e0 hl r x;refine lL (ht [] s1 (start N vs) H _ I hq) (λfl s' hs=>?_) λe s' hs=>hs
 have fin:∀{σ':St}{H':Hp}{v:V}{u:Value},Inv (fF CX P w K mg base N qual scope f bD A outer s H E) [] σ' H' s'->RelV v u->Q v H'->CE outer P w H s Q u s':=
  λ{σ' H' v u} J rv q=>⟨v,H',J.os,J.bare,J.base,J.hok,rv,q⟩
 cases fl with
 |ret u=>obtain⟨v,σ',H',J,rv,q⟩:=hs;exact fin J rv q
 |next=>obtain⟨σ',H',J,q⟩:=hs;exact fin (v:=V.non) (u:=Value.none) J rfl q
 |brk=>obtain⟨_,_,_,q⟩:=hs;exact False.elim q
 |cont=>obtain⟨_,_,_,q⟩:=hs;exact False.elim q
section
variable{X:Cx}{x:Str}{p pos:Pos}{e:Expr}{es:List Expr}{t:TA}{id T:String}{r:List V->Hp->VK->Prop}
noncomputable def tCB(r:List V->Hp->VK->Prop)(t:TA):TE:=λY H Q=>t Y H λvs H1=>r vs H1 Q
theorem jX(hc:d8 X (.builtin id) r)(hg:Gl X x)(hm:X.mg x=none)(hv:bootBuiltins x=some (.builtin id))(ha:PA X (e::es) t)(hn:x≠ "__name__" :=by decide)(jQ:(x==(~~~3))=false:=by decide)
  (he:starEach (e::es) X.env=(false,eval e X.env)::starEach es X.env:=by rfl) (g8:(backTo pos (starEach es X.env)).any (·.1)=false:=by rfl):PE X (.Call (.Name x p) (e::es) [] pos) (tCB r t):=by
 intro ah s Y H Q I h;refine wP (gP I hg hm hv ?_ hn jQ);exact PyProof.Rows.callWith_builtin1 (bK (ha pos ah s Y H _ I h) λus s1 ⟨vs,H1,I1,r1,q1⟩=>hc ah s1 Y H1 vs us Q I1 r1 q1) he g8
theorem Cd(hc:d8 X (.type T) r)(hg:Gl X x)(hm:X.mg x=none)(hv:bootBuiltins x=some (.type T))(ha:PA X (e::es) t)(hn:x≠ "__name__" :=by decide)(jQ:(x==(~~~3))=false:=by decide)
  (he:starEach (e::es) X.env=(false,eval e X.env)::starEach es X.env:=by rfl) (g8:(backTo pos (starEach es X.env)).any (·.1)=false:=by rfl):PE X (.Call (.Name x p) (e::es) [] pos) (tCB r t):=by
 intro ah s Y H Q I h;refine wP (gP I hg hm hv ?_ hn jQ);exact nN (bK (ha pos ah s Y H _ I h) λus s1 ⟨vs,H1,I1,r1,q1⟩=>hc ah s1 Y H1 vs us Q I1 r1 q1) he g8
end
end L2
namespace HT
open PySem PyProof.Rows
noncomputable def lexLt: ~~~0->~~~0->Bool
 | [],[]=>false
 | [],_::_=>true
 |_::_,[]=>false
 |x::xs,y::ys=>if x=y then lexLt xs ys else decide (x<y)
theorem dD(x y:Int)(xs ys: ~~~0):lexLt (x::xs) (y::ys)=if x=y then lexLt xs ys else decide (x<y):=rfl
theorem qB:lexLt [] []=false:=rfl
theorem n6(y:Int)(ys: ~~~0):lexLt [] (y::ys)=true:=rfl
theorem n8(x:Int)(xs: ~~~0):lexLt (x::xs) []=false:=rfl
theorem FW(A:Around)(s:Shared)(a:Int)(t:Tok)(c:Int)(u:Tok):∃e,SeqAt.EqAt A s (.int a t) (.int c u) e/\(e=true ↔ a=c):=
 ⟨(a==c),SeqAt.EqAt.int_int a t c u,by simp⟩
theorem FZ(A:Around)(s:Shared)(a:Int)(t:Tok)(c:Int)(u:Tok)(prog:Program)(w:World)(E:Value->Shared->Prop)(Q:Value->Shared->Prop)(h:Q (.bool (decide (a<c))) s) :
  wpAny (model prog w) A (richCompare .Lt (.int a t) (.int c u)) Q E s:=
 (PyProof.Rows.lt_int h:wpAny (model prog w) A (compareOp .Lt (.int a t) (.int c u)) Q E s)
section
open PySem.SeqAt
open PySem.AutoSeq1 (wpAny_loadPart')
open PySem.MeetsSeq PySem.MeetsSeq2 PySem.MeetsSeq3
theorem qE(l b:Addr)(items items2:Array Value)(n n2:Nat)(dd dd2:Option Addr)(sl sl2:Array (Option Value))(ns ms: ~~~0)(hi:IntsAre items.toList ns)(hj:IntsAre items2.toList ms) :
  Meets (Builtin.«tuple.__lt__» ⟨[.ref l,.ref b],[]⟩)
   (λ_ R s=>s.heap.get? l=some { cls:=.type "tuple",dict:=dd,data:=.seq items n,slots:=sl}/\s.heap.get? b=some { cls:=.type "tuple",dict:=dd2,data:=.seq items2 n2,slots:=sl2}/\
    R (.ok (.ret (.bool (lexLt ns ms)))) s):=
 .of_wp λprog w A R s h=>by
  obtain⟨hp,g,d,tk,os⟩:=s;obtain⟨hl,hb,h⟩:=h;have f2:=AutoSeq1.sub_tuple_tuple;have z1:items.size=ns.length:=by rw[<- hi.length];simp
  have z2:items2.size=ms.length:=by rw[<- hj.length];simp
  wp_walk using wpAny_loadPart' hl,wpAny_loadPart' hb,wpAny_forIn_list _ (λrest b s'=>b.1=none/\s'=⟨hp,g,d,tk,os⟩/\∃(vs ws:List Value) (ns' ms': ~~~0),rest=vs.zip ws/\
   IntsAre vs ns'/\IntsAre ws ms'/\ns'.length+items2.size=ms'.length+items.size/\R (.ok (.ret (.bool (lexLt ns' ms')))) ⟨hp,g,d,tk,os⟩) _
  case turn=>
   rintro⟨y,x⟩ rest b s' ⟨hb',rfl,vs,ws,ns',ms',hz,hvi,hwi,aJ,hR⟩;cases hvi with
   |nil=>rw[List.zip_nil_left]at hz;cases hz
   |cons a t hvi'=>
    cases hwi with
    |nil=>rw[List.zip_nil_right]at hz;cases hz
    |cons c u hwi'=>
     rw[AO]at hz;injection hz with hyx hrest;injection hyx with hy hx;subst hy hx;rw[dD]at hR;simp only[l4]at aJ;obtain⟨e,he,hiff⟩:=FW A.in1 ⟨hp,g,d,tk,os⟩ a t c u;refine aS (he prog w _ _ ?_);cases e with
     |true=>
      rw[gL (hiff.mp rfl)]at hR
      wp_walk
      exact⟨rfl,rfl,_,_,_,_,hrest,hvi',hwi',by lia,hR⟩
     |false=>
      rw[hU (λq=>absurd (hiff.mpr q) kS)]at hR
      have hri:=FZ A.in1 ⟨hp,g,d,tk,os⟩ a t c u prog w
      wp_walk using hri
      exact⟨_,rfl,by simpa using hR⟩
  case fin=>
   rintro⟨b1,b2⟩ s' ⟨hb',rfl,vs,ws,ns',ms',hz,hvi,hwi,aJ,hR⟩;simp only at hb';subst hb';have hv:lexLt ns' ms'=decide (items.size<items2.size):=by
    cases hvi with
    |nil=>
     cases hwi with
     |nil=>simp only[yB]at aJ;rw[qB];exact (sB ⋯).symm
     |cons c u hw=>simp only[yB,l4]at aJ;rw[n6];exact (sK ⋯).symm
    |cons a t hv=>
     cases hwi with
     |nil=>simp only[yB,l4]at aJ;rw[n8];exact (sB ⋯).symm
     |cons c u hw=>rw[AO]at hz;cases hz
   rw[hv]at hR
   wp_walk
   exact⟨_,rfl,by simpa [Builtin.Tuple.tupleCompareSizes]using hR⟩
  case h=>exact⟨rfl,rfl,items.toList,items2.toList,ns,ms,rfl,hi,hj,by lia,h⟩
end
section
variable{prog:Program}{w:World}{A:Around}{E:Value->Shared->Prop}{s:Shared}
theorem n9(hl:IsTup s.heap l items)(hb:IsTup s.heap b items2)(hi:IntsAre items.toList ns)(hj:IntsAre items2.toList ms)
  (hu:A.units<cLine) (h:Q (.bool (lexLt ns ms)) s):wpAny (model prog w) A (compareOp .Lt (.ref l) (.ref b)) Q E s:=by
 obtain⟨⟨cls,dd,data,sl⟩,ho,hc,n,hd⟩:=id hl;obtain⟨⟨XX,dd2,data2,sl2⟩,ho2,hc2,n2,hd2⟩:=id hb;simp only at hc hd hc2 hd2;subst hc hd hc2 hd2;exact richCompare_meets_room (op:=.Lt) ⟨_,ho,rfl⟩ ⟨_,ho2,rfl⟩ PySem.F.slot_tuple_lt PySem.F.entry_tuple_lt (PySem.F.args_tuple_lt_2 _ _) (qE l b items items2 n n2 dd dd2 sl sl2 ns ms hi hj)
  ⟨ho,ho2,show Value.bool (lexLt ns ms)≠Value.notImplemented/\Q (.bool (lexLt ns ms)) s from⟨(λx=>nomatch x),h⟩⟩ hu
theorem KN(ht:IsTup s.heap t vs.toArray)(hb:IsTup s.heap b ws.toArray)(hv:vs≠[])
  (h1:ws=[]->Q (.ref t) s) (h2:ws≠[]->Q (.ref s⁻¹) { s with heap:=s.heap.push { cls:=.type "tuple",data:=.seq (vs++ws).toArray}})
  (jP:vs.length+ws.length<=sizeLine):wpAny (model prog w) A (binaryOp .Add (.ref t) (.ref b)) Q E s:=by
 obtain⟨⟨cls,dd,data,sl⟩,ho,hc,n,hd⟩:=id ht;obtain⟨⟨XX,dd2,data2,sl2⟩,ho2,hc2,n2,hd2⟩:=id hb;simp only at hc hd hc2 hd2;subst hc hd hc2 hd2;have e:vs.toArray++ws.toArray=(vs++ws).toArray:=by simp
 by_cases hw:ws=[]
 .
  exact concat_meets ⟨_,ho,rfl⟩ ⟨_,ho2,rfl⟩ noFill_tuple_add seq_tuple_add BU BC (Bz _ _)
   (tuple_addW1 t b vs.toArray ws.toArray n n2 dd dd2 sl sl2 (by simpa using hv) (by simp[hw])) ⟨ho,ho2,h1 hw⟩
 .
  refine concat_meets ⟨_,ho,rfl⟩ ⟨_,ho2,rfl⟩ noFill_tuple_add seq_tuple_add BU BC (Bz _ _)
   (tuple_addW2 t b vs.toArray ws.toArray n n2 dd dd2 sl sl2 (by simpa using hv) (by simpa using hw) (by rw[dE,dE];exact jP)) ⟨ho,ho2,?_⟩
  rw[e];exact h2 hw
noncomputable def bR(n d:Nat):Option Int->Nat
 |none=>d
 |some v=>if v<0 then (v+(n:Int)).toNat else min v.toNat n
theorem Rq(n d:Nat)(hd:d<=n)(o:Option Int):bR n d o<=n:=by
 cases o with
 |none=>exact hd
 |some v=>
  show (if v<0 then (v+(n:Int)).toNat else min v.toNat n)<=n
  by_cases hv:v<0
  . rw[gL hv];lia
  . rw[hU hv];exact Nat.min_le_right _ _
theorem zV(v:Int)(n d:Nat):(if v<0 then max (v+(n:Int)) 0 else min v (n:Int))=((bR n d (some v):Nat):Int):=by
 show (if v<0 then max (v+(n:Int)) 0 else min v (n:Int))=(((if v<0 then (v+(n:Int)).toNat else min v.toNat n):Nat):Int)
 by_cases hv:v<0
 . simp only[gL hv];lia
 . simp only[hU hv];lia
theorem yi(lo hi:Option Int)(n:Nat):Builtin.Slice.sliceAdjust lo hi 1 (n:Int)=(((bR n 0 lo:Nat):Int),((bR n n hi:Nat):Int)):=by
 have h1 : ¬ ((1:Int)<0):=by lia
 unfold Builtin.Slice.sliceAdjust;simp only[h1,C1];refine Prod.ext ?_ ?_
 .
  cases lo with
  |none=>rfl
  |some v=>exact zV v n 0
 .
  cases hi with
  |none=>rfl
  |some v=>exact zV v n n
theorem yj(i j:Nat):Builtin.Slice.slicePlaces (i:Int) (j:Int) 1=j - i:=by
 unfold Builtin.Slice.slicePlaces;have h1:(1:Int) > 0:=by lia
 simp only[h1,An,Int.ediv_one];split <;> lia
theorem jx(p:IsPart v o)(h:Q o s):wpAny (model prog w) A (Builtin.Slice.slicePartIndex v) Q E s:=by
 cases p with
 |none=>exact slicePart_none h
 |int i t=>exact slicePart_int h
theorem fQ{sl:Addr}{vl vu:Value}{lo hi:Option Int}{n:Nat}{Q:Int×Int×Nat->Shared->Prop}(hs:s.heap.IsSliceOf sl vl vu .none)(pl:IsPart vl lo)(pu:IsPart vu hi)
  (h:Q (((bR n 0 lo:Nat):Int),1,bR n n hi - bR n 0 lo) s):wpAny (model prog w) A (Builtin.Slice.sliceApplied (.ref sl) (pure (n:Int))) Q E s:=by
 obtain⟨os,hos,hcs,hds⟩:=id hs;unfold Builtin.Slice.sliceApplied Builtin.Slice.sliceFields;refine aS (aS (mI hos hds (x:=vl) rfl (aS (mI hos hds (x:=vu) rfl (aS (mI hos hds (x:=.none) rfl (dS ?_)))))));refine aS (slicePart_none ?_);show wpAny _ _ (if ((1:Int)==0)=true then _ else _) _ _ s
 rw[hU ⋯];refine aS (jx pl (aS (jx pu (aS (dS ?_)))));show wpAny _ _ (match Builtin.Slice.sliceAdjust lo hi 1 (n:Int)with | (lo,hi)=>pure (lo,(1:Int),Builtin.Slice.slicePlaces lo hi 1)) _ _ s
 rw[yi lo hi n];show wpAny _ _ (pure (((bR n 0 lo:Nat):Int),(1:Int),Builtin.Slice.slicePlaces ((bR n 0 lo:Nat):Int) ((bR n n hi:Nat):Int) 1)) _ _ s;rw[yj];exact dS h
theorem Ga(xs:Array Value)(i k:Nat):((List.range k).filterMap λ(m:Nat)=>xs[((i:Int)+(m:Int) * 1).toNat]?).toArray=((xs.toList.drop i).take k).toArray:=by
 have e:(λ(m:Nat)=>xs[((i:Int)+(m:Int) * 1).toNat]?)=λm=>xs[i+m]?:=by
  funext m
  have:((i:Int)+(m:Int) * 1).toNat=i+m:=by lia
  rw[this]
 rw[e];have:=pick_run xs i k;rw[List.filterMap_map]at this;have e2:((λx=>xs[x]?) ∘ λx=>i+x)=λm=>xs[i+m]?:=rfl
 rw[e2]at this;rw[this]
theorem jY{t sl:Addr}{items:Array Value}{vl vu:Value}{lo hi:Option Int}{Q:Value->Shared->Prop}(ht:IsTup s.heap t items)(hs:s.heap.IsSliceOf sl vl vu .none)(pl:IsPart vl lo)(pu:IsPart vu hi)
  (hw : ¬ (bR items.size 0 lo=0/\bR items.size items.size hi=items.size))
  (h:Q (.ref s⁻¹) { s with heap:=s.heap.push { cls:=.type "tuple",data:=.seq ((items.toList.drop (bR items.size 0 lo)).take (bR items.size items.size hi - bR items.size 0 lo)).toArray}})
  (jP:items.size<=sizeLine):wpAny (model prog w) A (getItem (.ref t) (.ref sl)) Q E s:=by
 have jZ:sizeOk (.seq ((items.toList.drop (bR items.size 0 lo)).take (bR items.size items.size hi - bR items.size 0 lo)).toArray):=by show ((items.toList.drop (bR items.size 0 lo)).take (bR items.size items.size hi - bR items.size 0 lo)).toArray.size<=sizeLine;rw[dE,v0,List.length_drop,oC];lia
 have hj:bR items.size items.size hi<=items.size:=Rq _ _ (eC _) hi;obtain⟨os,hos,hcs,hds⟩:=id hs;have XZ:s.TypeIs (.ref sl) "slice" :=⟨os,hos,hcs⟩;unfold getItem
 try with_reducible refine l7 ?_
 first |refine aS (dS ?_) |skip
 refine aS (wpAny_sequenceKey ht.typeIs ⋯ ?_);refine aS (pV (name:=Str.ofString "__getitem__") ht.typeIs nS
  (v6 nS ht.typeIs entry_tuple_getitem ?_ (args_tuple_getitem _ _)))
 show wpAny _ _ (Builtin.Tuple.tupleItemsOf (.ref t) >>= _) _ _ s;refine aS (tupleItemsOf_ ht ?_);refine aS (C2 XZ ?_);rw[gL ⋯];refine aS (fQ hs pl pu ?_);have hno : ¬ ((((bR items.size 0 lo:Nat):Int)==0&&(1:Int)==1&&(bR items.size items.size hi - bR items.size 0 lo)==items.size)=true):=by intro q;rw[d5,d5]at q;have q1:((bR items.size 0 lo:Nat):Int)=0:=eq_of_beq q.1.1;have q2:bR items.size items.size hi - bR items.size 0 lo=items.size:=eq_of_beq q.2;exact hw ⟨by lia,by lia⟩
 show wpAny _ _ (if (((bR items.size 0 lo:Nat):Int)==0&&(1:Int)==1&&(bR items.size items.size hi - bR items.size 0 lo)==items.size)=true then _ else _) _ _ s
 rw[hU hno,Ga]
 first
  |exact aS (m:=Builtin.Tuple.tupleExact _) (l9 (dS ⟨_,rfl,dS h⟩) jZ)
  |exact aS (m:=Builtin.Tuple.tupleExact _) (l9 (aS (dS (dS ⟨_,rfl,dS h⟩))) jZ)
  |exact aS (aS (m:=Builtin.Tuple.tupleExact _) (l9 (dS (dS ⟨_,rfl,dS h⟩)) jZ))
  |exact aS (aS (m:=Builtin.Tuple.tupleExact _) (l9 (dS ⟨_,rfl,dS h⟩) jZ))
end
end HT
namespace L2
abbrev TO:=St->Hp->(Option Int->Hp->Prop)->Prop
def PO(X:Cx)(e:Option Expr)(t:TO):Prop:=
 ∀(ah: ~~~1) (s:Shared) (Y:St) (H:Hp) (Q:Option Int->Hp->Prop),Inv X ah Y H s->t Y H Q->
  wpAny (~~~2) X.A (evalPart e X.env) (λu s'=>∃o H',Inv X ah Y H' s'/\IsPart u o/\Q o H') X.xe s
def KQ:TO:=λ_ H Q=>Q none H
def X3(t:TE):TO:=λY H Q=>t Y H λx H1=>∃i,x=.int i/\Q (some i) H1
theorem intsAre_of:∀{us:List Value},Vals (ns.map V.int) us->IntsAre us ns:=by
 induction ns with
 |nil=>intro us r;rw[List.map_nil]at r;cases r;exact .nil
 |cons n ns ih=>
  intro us r;rw[List.map_cons]at r;cases r with
  |cons r1 r2=>obtain⟨t,e⟩:=r1;subst e;exact .cons n t (ih r2)
section
variable{X:Cx}{e:Expr}{te:TE}{lo hi:Option Expr}{tl th:TO}{pos p2:Pos}
theorem KR:PO X none KQ:=by intro ah s Y H Q I h;rw[evalPart_none];exact dS ⟨none,H,I,.none,h⟩
theorem KS(h:PE X e te):PO X (some e) (X3 te):=by
 intro ah s Y H Q I hw;rw[evalPart_some];refine bK (h ah s Y H _ I hw) λu s1 ⟨x,H1,I1,r1,q1⟩=>?_
 obtain⟨i,rfl,q⟩:=q1;obtain⟨t,rfl⟩:=r1;exact⟨some i,H1,I1,.int i t,q⟩
def SlR(X:Cx)(r:V->Option Int->Option Int->Hp->VK->Prop):Prop:=
 ∀(ah: ~~~1) (s:Shared) (Y:St) (H:Hp) (x:V) (v vl vu:Value) (lo hi:Option Int) (sl:Addr) (Q:VK),Inv X ah Y H s->RelV x v->s.heap.IsSliceOf sl vl vu .none->IsPart vl lo->IsPart vu hi->r x lo hi H Q->
  ∃T id,typeLookup (.type T) "__getitem__"=pure (some (.builtin id))/\s.TypeIs v T/\wpAny (~~~2) X.A (getItem v (.ref sl)) (EP X ah Y Q) X.xe s
noncomputable def tSl(r:V->Option Int->Option Int->Hp->VK->Prop)(te:TE)(tl th:TO):TE:=λY H Q=>te Y H λx H1=>tl Y H1 λl H2=>th Y H2 λu H3=>r x l u H3 Q
theorem oh{r:V->Option Int->Option Int->Hp->VK->Prop}(hr:SlR X r)(he:PE X e te)(hl:PO X lo tl)(hu:PO X hi th):PE X (.Subscript e (.Slice lo hi none p2) pos) (tSl r te tl th):=by
 intro ah s Y H Q I h;refine Subscript_ (bK (he ah s Y H _ I h) λv s1 ⟨x,H1,I1,r1,q1⟩=>?_)
 refine wpAny_Slice (bK (hl ah s1 Y H1 _ I1 q1) λvl s2 ⟨l,H2,I2,pl,q2⟩=>bK (hu ah s2 Y H2 _ I2 q2) λvu s3 ⟨u,H3,I3,pu,q3⟩=>?_)
 rw[evalPart_none];refine dS ?_;have I4:Inv X ah Y H3 { s3 with heap:=s3.heap.push { cls:=.type "slice",data:=.fields #[vl,vu,.none]}}:=I3.kept (t':=s3.toks) λb ob q=>bP _ q
 obtain⟨T,id,hT,ht,hg⟩:=hr ah { s3 with heap:=s3.heap.push { cls:=.type "slice",data:=.fields #[vl,vu,.none]}} Y H3 x v vl vu l u s3⁻¹ Q I4 r1 (Heap.IsSliceOf.new ..) pl pu q3;show wpAny (~~~2) X.A (subscriptTail e (.Slice lo hi none p2) v (.ref s3⁻¹)) (EP X ah Y Q) X.xe { s3 with heap:=s3.heap.push { cls:=.type "slice",data:=.fields #[vl,vu,.none]}};exact tail_any (ops:=[.ref s3⁻¹,v]) ht hT hg (by with_unfolding_all rfl)
def sW(xs:List V)(lo hi:Option Int):List V:=(xs.drop (HT.bR xs.length 0 lo)).take (HT.bR xs.length xs.length hi - HT.bR xs.length 0 lo)
theorem mq(xs:List V)(lo hi:Option Int):(sW xs lo hi).length<=xs.length:=by unfold sW;rw[v0,List.length_drop];lia
def rSlT(K:Frag):V->Option Int->Option Int->Hp->VK->Prop:=λx lo hi H Q=>∃a xs,x=.ref a/\fP K H a xs/\
 ¬ (HT.bR xs.length 0 lo=0/\HT.bR xs.length xs.length hi=xs.length)/\∀p,H p=none->Q (.ref p) (upd H p (.tup (sW xs lo hi)))
theorem Rr:SlR X (rSlT X.K):=by
 intro ah s Y H x v vl vu lo hi sl Q I rx hs pl pu h;obtain⟨a,xs,rfl,hx,hw,q⟩:=h;cases rx;obtain⟨its,r,ht,hz⟩:=I.tuple hx;have aJ:its.toArray.size=xs.length:=by rw[dE];exact r.length.symm
 refine⟨"tuple",_,PyProof.Rows.slot_tuple_getitem.lookup,ht.typeIs,?_⟩;refine HT.jY ht hs pl pu (by rw[aJ];exact hw) ?_ (by rw[aJ];exact hz)
 rw[aJ];refine⟨.ref s⁻¹,_,I.laid (t':=s.toks) (o:=.tup (sW xs lo hi)) (λb ob q=>bP _ q) (eC _) ?_,rfl,q _ (I.hok.fresh (eC _))⟩
 exact⟨kA (mq xs lo hi) hz,_,(r.drop (HT.bR xs.length 0 lo)).take (HT.bR xs.length xs.length hi - HT.bR xs.length 0 lo),fE.new _ _⟩
def rLtT(K:Frag):R2:=λx y H Q=>∃a b ns ms,x=.ref a/\y=.ref b/\fP K H a (ns.map V.int)/\fP K H b (ms.map V.int)/\Q (.bl (HT.lexLt ns ms)) H
theorem Rt(hu:X.A.units<cLine):mV X (compareOp .Lt) (rLtT X.K):=by intro ah s Y H x y v u Q I rx ry h;obtain⟨a,b,ns,ms,rfl,rfl,ha,hb,q⟩:=h;cases rx;cases ry;obtain⟨its,r1,p1,_⟩:=I.tuple ha;obtain⟨kO,r2,p2,_⟩:=I.tuple hb;have i1:IntsAre its.toArray.toList ns:=intsAre_of r1;have i2:IntsAre kO.toArray.toList ms:=intsAre_of r2;exact HT.n9 p1 p2 i1 i2 hu ⟨.bl (HT.lexLt ns ms),H,I,rfl,q⟩
def X4(K:Frag):R2:=λx y H Q=>∃a b xs ys,x=.ref a/\y=.ref b/\fP K H a xs/\fP K H b ys/\xs≠[]/\xs.length+ys.length<=sizeLine/\
 (ys=[]->Q (.ref a) H)/\(ys≠[]->∀p,H p=none->Q (.ref p) (upd H p (.tup (xs++ys))))
theorem Vals.sX(r:Vals xs us):us=[] ↔ xs=[]:=by
 cases r with
 |nil=>simp
 |cons _ _=>simp
theorem KY:mV X (binaryOp .Add) (X4 X.K):=by
 intro ah s Y H x y v u Q I rx ry h;obtain⟨a,b,xs,ys,rfl,rfl,ha,hb,hx,hz,q1,q2⟩:=h;cases rx;cases ry;obtain⟨its,r1,p1,_⟩:=I.tuple ha;obtain⟨kO,r2,p2,_⟩:=I.tuple hb;refine HT.KN p1 p2 (λz=>hx (r1.sX.mp z)) (λz=>⟨.ref a,H,I,rfl,q1 (r2.sX.mp z)⟩) (λz=>?_) (by rw[<- r1.length,<- r2.length];exact hz)
 refine⟨.ref s⁻¹,_,I.laid (t':=s.toks) (o:=.tup (xs++ys)) (λb ob q=>bP _ q) (eC _) ?_,rfl,q2 (λw=>z (r2.sX.mpr w)) _ (I.hok.fresh (eC _))⟩
 exact⟨by rw[eJ];exact hz,_,r1.append r2,fE.new _ _⟩
end
noncomputable def nq(n:Nat)(i:Int):Option Nat:=if 0<=i then (if i<n then some i.toNat else none)else if -(n:Int)<=i then some (i+n).toNat else none
def fG{α:Type}(xs:List α)(i:Int):Option α:=(nq xs.length i).bind λj=>xs[j]?
theorem sY(h:nq n i=some j):seqIndex? i n=some j/\j<n/\-(n:Int)<=i/\i<n:=by
 unfold nq at h;by_cases h0:0<=i
 .
  rw[gL h0]at h;by_cases h1:i<n
  . rw[gL h1]at h;have e:i.toNat=j:=oD h;exact⟨by rw[seqIndex_of h0 h1,e],by lia,by lia,h1⟩
  . rw[hU h1]at h;symm
 .
  rw[hU h0]at h;by_cases h1 : -(n:Int)<=i
  . rw[gL h1]at h;have e:(i+n).toNat=j:=oD h;exact⟨by rw[seqIndex_neg ⋯ h1,e],by lia,h1,by lia⟩
  . rw[hU h1]at h;symm
theorem zW{α:Type}{xs:List α}{i:Int}{v:α}(h:fG xs i=some v):∃j,seqIndex? i xs.length=some j/\xs[j]?=some v/\j<xs.length/\-(xs.length:Int)<=i/\i<xs.length:=by
 unfold fG at h;cases e:nq xs.length i with
 |none=>rw[e]at h;symm
 |some j=>rw[e]at h;obtain⟨h1,h2,h3,h4⟩:=sY e;exact⟨j,h1,h,h2,h3,h4⟩
def sZ(b:Expr):Prop:=∀o i,subscripted b false o i=operate [o,i] (getItem o i)
def X5(X:Cx)(r:R2):Prop:=
 ∀(value slice:Expr) (ah: ~~~1) (s:Shared) (Y:St) (H:Hp) (x y:V) (v u:Value) (Q:VK),Inv X ah Y H s->RelV x v->RelV y u->r x y H Q->
  subscripted slice false v u=operate [v,u] (getItem v u)->wpAny (~~~2) X.A (subscriptTail value slice v u) (EP X ah Y Q) X.xe s
def MtR(X:Cx)(id:String)(r:V->List V->Hp->VK->Prop):Prop:=
 ∀(ah: ~~~1) (s:Shared) (Y:St) (H:Hp) (x:V) (xs:List V) (v:Value) (us:List Value) (Q:VK),Inv X ah Y H s->RelV x v->Vals xs us->r x xs H Q->
  wpAny (~~~2) X.A (call (.builtin id) (v::us)) (EP X ah Y Q) X.xe s
section
variable{X:Cx}{a b:Expr}{ta tb:TE}{pos:Pos}
theorem X6{r:R2}(hr:X5 X r)(ha:PE X a ta)(hb:PE X b tb)(hs:sZ b):PE X (.Subscript a b pos) (tOp r ta tb):=by intro ah s Y H Q I h;exact Subscript_ (Rc ha hb I h λv u s2 x y H2 I2 rx ry q=>hr a b ah s2 Y H2 x y v u Q I2 rx ry q (hs _ _))
def rIxL(K:Frag):R2:=λx y H Q=>∃p xs i v,x=.ref p/\y=.int i/\cz K H p xs/\fG xs i=some v/\Q v H
def rIxT(K:Frag):R2:=λx y H Q=>∃p xs i v,x=.ref p/\y=.int i/\fP K H p xs/\fG xs i=some v/\Q v H
theorem zX:X5 X (rIxL X.K):=by
 intro value slice ah s Y H x y v u Q I rx ry h hs;obtain⟨p,xs,i,z,rfl,rfl,hq,he,q⟩:=h;cases rx;obtain⟨t,rfl⟩:=ry;obtain⟨its,r,pl,hz⟩:=I.list hq;obtain⟨j,h1,h2,h3,h4,h5⟩:=zW he;obtain⟨w,ew,rw'⟩:=r.get h2;have hl:=r.length;have hn:=n5;have fin:EP X ah Y Q w s:=⟨z,H,I,rw',q⟩;by_cases h0:0<=i
 .
  have hj:i.toNat=j:=by rw[seqIndex_of h0 h5]at h1;exact oD h1
  exact item_listR pl.isList h0 ⋯ (by rw[hj];simpa using ew) fin hs
 .
  have hj:(i+(its.toArray.size:Int)).toNat=j:=by rw[seqIndex_neg ⋯ h4]at h1;rw[dE,<- hl];exact oD h1
  exact subscriptTail_builtinR (x:=w) pl.isList.typeIs slot_list_getitem.lookup
   (wpAny_getItem_list_neg (Q:=λr s'=>r=w/\EP X ah Y Q r s') pl.isList ⋯ (by rw[dE] <;> lia) ⋯ (by rw[hj];simpa using ew) ⟨rfl,fin⟩) hs
theorem Ru:X5 X (rIxT X.K):=by
 intro value slice ah s Y H x y v u Q I rx ry h hs;obtain⟨p,xs,i,z,rfl,rfl,hq,he,q⟩:=h;cases rx;obtain⟨t,rfl⟩:=ry;obtain⟨its,r,pl,hz⟩:=I.tuple hq;obtain⟨j,h1,h2,h3,h4,h5⟩:=zW he;obtain⟨w,ew,rw'⟩:=r.get h2;have hl:=r.length;have hn:=n5;have fin:EP X ah Y Q w s:=⟨z,H,I,rw',q⟩;exact subscriptTail_builtinR (x:=w) pl.typeIs slot_tuple_getitem.lookup
  (getItem_tuple (j:=j) (Q:=λr s'=>r=w/\EP X ah Y Q r s') pl ⋯ ⋯ (by rw[dE,<- hl];exact h1) (by simpa using ew) ⟨rfl,fin⟩) hs
theorem ym(its:List Value)(n j:Nat)(u:Value):Obj.mapSeq (·.setIfInBounds j u) { cls:=.type "list",data:=.seq its.toArray n}={ cls:=.type "list",data:=.seq (its.set j u).toArray n}:=by simp[Obj.mapSeq]
theorem Inv.lst{ah: ~~~1}{Y:St}{H:Hp}{s:Shared}{p:Addr}{xs:List V}(I: ~~~7)(h:H p=some (.lst xs)) :
  ∃(its:List Value) (n:Nat),Vals xs its/\s.heap.get? p=some { cls:=.type "list",data:=.seq its.toArray n}/\xs.length<=sizeLine:=by
 obtain⟨z,its,n,r,e⟩:=I.hok p _ h;exact⟨its,n,r,e,z⟩
theorem Inv.Rv{ah: ~~~1}{Y:St}{H:Hp}{s:Shared}{p:Addr}{xs ys:List V}{its its':List Value}{n n':Nat}{f:Obj->Obj}(I: ~~~7)(h:H p=some (.lst xs))
  (ho:s.heap.get? p=some { cls:=.type "list",data:=.seq its.toArray n}) (hf:f { cls:=.type "list",data:=.seq its.toArray n}={ cls:=.type "list",data:=.seq its'.toArray n'}) (r:Vals ys its') (hz:ys.length<=sizeLine) (t:Nat) :
  Inv X ah Y (upd H p (.lst ys)) { s with heap:=s.heap.update p f,toks:=t}:=by
 have e:(s.heap.update p f).get? p=some { cls:=.type "list",data:=.seq its'.toArray n'}:=by rw[oP f ho (by rw[hf] <;> rfl),hf]
 refine I.write (x:=p) (e:=p) (by rw[h];trivial) (.inl rfl) (λb u hb q=>(i6 _ _ (nV hb)).trans q) ⟨_,e⟩ ?_
 exact⟨hz,its',n',r,e⟩
def X7:V->V->V->Hp->(Hp->Prop)->Prop:=λo i v H Q=>∃p xs k j,o=.ref p/\i=.int k/\H p=some (.lst xs)/\nq xs.length k=some j/\Q (upd H p (.lst (xs.set j v)))
theorem set_list:Xq X X7:=by
 intro ah s Y H o i v ov iv u Q I ro ri rv h;obtain⟨p,xs,k,j,rfl,rfl,hp,hj,q⟩:=h;cases ro;obtain⟨t,rfl⟩:=ri;obtain⟨its,n,r,ho,hz⟩:=I.lst hp;obtain⟨h1,h2,h3,h4⟩:=sY hj;have hl:=r.length;have hn:=n5;have I':Inv X ah Y (upd H p (.lst (xs.set j v))) { s with heap:=s.heap.update p (Obj.mapSeq (·.setIfInBounds j u))}:=
  I.Rv hp ho (ym its n j u) (r.set rv j) (by rw[yY];exact hz) s.toks
 by_cases h0:0<=k
 .
  have hk:k.toNat=j:=by rw[seqIndex_of h0 h4]at h1;exact oD h1
  exact PySem.W.ki_setAt ho h0 ⋯ (by rw[dE,<- hl];exact h4) (by rw[hk];exact⟨_,I',q⟩)
 .
  have hk:(k+(its.toArray.size:Int)).toNat=j:=by rw[seqIndex_neg ⋯ h3]at h1;rw[dE,<- hl];exact oD h1
  exact PySem.W.ki_setBack ho ⋯ (by rw[dE,<- hl];exact h3) ⋯ (by rw[hk];exact⟨_,I',q⟩)
theorem tD(lo hi:Option Int)(n:Nat):(sliceBounds lo hi none n).1=((HT.bR n 0 lo:Nat):Int)/\(sliceBounds lo hi none n).2.1=((HT.bR n n hi:Nat):Int)/\(sliceBounds lo hi none n).2.2=1:=by
 refine⟨?_,?_,rfl⟩
 .
  cases lo with
  |none=>simp[sliceBounds,HT.bR]
  |some i=>
   simp only[sliceBounds,HT.bR,Option.getD_none,show (1:Int) > 0 by decide,An]
   by_cases h:i<0
   . simp only[h,An] <;> lia
   . simp only[h,C1] <;> lia
 .
  cases hi with
  |none=>simp[sliceBounds,HT.bR]
  |some i=>
   simp only[sliceBounds,HT.bR,Option.getD_none,show (1:Int) > 0 by decide,An]
   by_cases h:i<0
   . simp only[h,An] <;> lia
   . simp only[h,C1] <;> lia
theorem qF(its:List Value)(lo hi:Option Int):slicePick its.toArray lo hi none=((its.drop (HT.bR its.length 0 lo)).take (HT.bR its.length its.length hi - HT.bR its.length 0 lo)).toArray:=by obtain⟨h1,h2,h3⟩:=tD lo hi its.toArray.size;unfold slicePick;rw[h1,h2,h3];simp only[sliceRange_one,pick_run,dE] <;> rfl
def rSlL(K:Frag):V->Option Int->Option Int->Hp->VK->Prop:=λx lo hi H Q=>∃a xs,x=.ref a/\cz K H a xs/\∀p,H p=none->Q (.ref p) (upd H p (.lst (sW xs lo hi)))
theorem zY:SlR X (rSlL X.K):=by
 intro ah s Y H x v vl vu lo hi sl Q I rx hs pl pu h;obtain⟨a,xs,rfl,hx,q⟩:=h;cases rx;obtain⟨its,r,ht,hz⟩:=I.list hx;have aJ:=r.length;refine⟨"list",_,slot_list_getitem.lookup,ht.isList.typeIs,?_⟩;refine wpAny_getItem_list_slice ht.isList hs pl pu .none ⋯ ?_ (by rw[dE] <;> lia)
 rw[qF,<- aJ];refine⟨.ref s⁻¹,_,I.laid (t':=s.toks) (o:=.lst (sW xs lo hi)) (λb ob q=>bP _ q) (eC _) ?_,rfl,q _ (I.hok.fresh (eC _))⟩
 exact⟨kA (mq xs lo hi) hz,_,0,(r.drop (HT.bR xs.length 0 lo)).take (HT.bR xs.length xs.length hi - HT.bR xs.length 0 lo),eM _ rfl⟩
theorem tE:d8 X (.type "list") (λxs H Q=>∃p ys,xs=[.ref p]/\(cz X.K H p ys\/fP X.K H p ys)/\∀l,H l=none->Q (.ref l) (upd H l (.lst ys))):=by
 intro ah s Y H xs us Q I r h;obtain⟨p,ys,rfl,hq,q⟩:=h;obtain⟨u,rfl,rx⟩:=vals1 r;cases rx;have fin:∀(its:List Value),Vals ys its->ys.length<=sizeLine->∀(h':Heap) (c':Nat),(∀b o',s.heap.get? b=some o'->h'.get? b=some o')->
   h'.get? s⁻¹=some { cls:=.type "list",dict:=none,data:=.seq its.toArray c',slots:=#[]}->EP X ah Y Q (.ref s⁻¹) { s with heap:=h'}:=λits r' hz h' c' kp e=>
  ⟨.ref s⁻¹,_,I.laid (t':=s.toks) kp (eC _) (show cM X.prog X.w _ h' _ (.lst ys)from⟨hz,its,c',r',e⟩),rfl,q _ (I.hok.fresh (eC _))⟩
 rcases hq with hq |hq
 . obtain⟨its,r',pl,hz⟩:=I.list hq;have aJ:=r'.length;obtain⟨o,ho,hc,n,hd⟩:=pl.isList;exact call_list_seq p (.inl rfl) ho hc hd (λh' c' kp e=>fin its r' hz h' c' kp e) (by simp only[dE] <;> lia)
 . obtain⟨its,r',pl,hz⟩:=I.tuple hq;have aJ:=r'.length;obtain⟨o,ho,hc,n,hd⟩:=pl;exact call_list_seq p (.inr rfl) ho hc hd (λh' c' kp e=>fin its r' hz h' c' kp e) (by simp only[dE] <;> lia)
theorem qG:d8 X (.type "tuple") (λxs H Q=>∃p ys,xs=[.ref p]/\((cz X.K H p ys/\∀l,H l=none->Q (.ref l) (upd H l (.tup ys)))\/(fP X.K H p ys/\Q (.ref p) H))):=by
 intro ah s Y H xs us Q I r h;obtain⟨p,ys,rfl,h⟩:=h;obtain⟨u,rfl,rx⟩:=vals1 r;cases rx;rcases h with ⟨hq,q⟩ |⟨hq,q⟩
 .
  obtain⟨its,r',pl,hz⟩:=I.list hq;have aJ:=r'.length;refine call_tuple_list pl.isList (λh' kp=>?_) (by simp only[dE] <;> lia)
  have I1:Inv X ah Y H { s with heap:=h'}:=I.kept (t':=s.toks) kp;have I2:Inv X ah Y (upd H h'.objs.size (.tup ys)) { s with heap:=h'.push { cls:=.type "tuple",data:=.seq its.toArray}}:=
   I1.laid (t':=s.toks) (λb o e=>bP _ e) (eC _) (show cM X.prog X.w _ _ _ (.tup ys)from⟨hz,its,r',fE.new _ _⟩)
  exact⟨.ref h'.objs.size,_,I2,rfl,q _ (I1.hok.fresh (eC _))⟩
 . obtain⟨its,r',pl,hz⟩:=I.tuple hq;exact call_tuple_same pl ⟨.ref p,H,I,rfl,q⟩
def tyV(K:Frag)(T:String)(x:V)(H:Hp):Prop:=match x with
 |.str _=>T = "str"
 |.int _=>T = "int"
 |.ref p=>(T = "list" /\∃xs,cz K H p xs)\/(T = "tuple" /\∃o,K.lookup p=some o/\o.cls=.type "tuple" /\o.dict=none)\/
   (T = "dict" /\((∃dN,H p=some (.dK dN))\/∃dN,H p=some (.dT dN)))\/(T = "set" /\∃S n,H p=some (.set S n))
 |_=>False
theorem Rw{ah: ~~~1}{Y:St}{H:Hp}{s:Shared}{T:String}{x:V}{v:Value}(I: ~~~7)(r:RelV x v)(ty:tyV X.K T x H) :
  s.TypeIs v T/\∀a,v=.ref a->∃ob,s.heap.get? a=some ob/\ob.dict=none:=by
 cases x with
 |str z=>
  obtain⟨t,rfl⟩:=r;cases (show T = "str" from ty)
  exact⟨typeIs_str s z t,λ_ e=>nomatch e⟩
 |int i=>
  obtain⟨t,rfl⟩:=r;cases (show T = "int" from ty)
  exact⟨typeIs_int s i t,λ_ e=>nomatch e⟩
 |ref p=>
  cases r;rcases ty with ⟨rfl,xs,hq⟩ |⟨rfl,o,hk,hc,hd⟩ |⟨rfl,hk⟩ |⟨rfl,S,n,hk⟩
  .
   obtain⟨its,_,pl,_⟩:=I.list hq;refine⟨pl.isList.typeIs,λa e=>?_⟩
   cases e;obtain⟨o,n,e,c,hd,_⟩:=pl;exact⟨o,e,hd⟩
  .
   refine⟨⟨o,I.nk p o hk,hc⟩,λa e=>?_⟩
   cases e;exact⟨o,I.nk _ o hk,hd⟩
  .
   have z:∃o,s.heap.get? p=some o/\o.ExactDict:=by
    rcases hk with ⟨dN,hk⟩ |⟨dN,hk⟩
    . obtain⟨_,_,_,_,o,_,_,e,ex,_⟩:=I.hok p _ hk;exact⟨o,e,ex⟩
    . obtain⟨_,_,_,_,o,_,_,e,ex,_⟩:=I.hok p _ hk;exact⟨o,e,ex⟩
   obtain⟨o,e,ex⟩:=z;refine⟨⟨o,e,ex.1⟩,λa e2=>?_⟩
   cases e2;exact⟨o,e,ex.2.1⟩
  .
   obtain⟨o,_,_,_,e,ex,_⟩:=I.hok p _ hk;refine⟨⟨o,e,ex.1⟩,λa e2=>?_⟩
   cases e2;exact⟨o,e,ex.2.1⟩
 |_=>exact False.elim ty
def tBM(K:Frag)(T:String)(r:V->List V->Hp->VK->Prop)(to:TE)(t:TA):TE:=λY H Q=>to Y H λx H1=>tyV K T x H1/\t Y H1 λxs H2=>r x xs H2 Q
variable{o e:Expr}{es:List Expr}{to:TE}{t:TA}{name:Str}{ez bM:Pos}{T id:String}{r:V->List V->Hp->VK->Prop}
theorem Gb(pa:PlainAttrs T)(slot:Slot T name id)(hty:typeOf (.builtin id)=pure (.type "method_descriptor"))(hm:MtR X id r)(ho:PE X o to)(ha:PA X (e::es) t)
  (hbase:attributeBase o name X.env (eval o X.env)=eval o X.env:=by rfl)
  (hfew:((backTo bM (starEach (e::es) X.env)).all (λx=>!x.1)&&(backToKw bM (keywordEach [] X.env)).all (λx=>x.1.isSome)
   && decide ((e::es).length+([]:List Keyword).length+(if ([]:List Keyword).isEmpty then 0 else 1)<30))=true:=by rfl)
  (hline:(ez.endLine==bM.line)=true:=by rfl) (hs:starEach (e::es) X.env=(false,eval e X.env)::starEach es X.env:=by rfl) (hplain:(backTo bM (starEach es X.env)).any (·.1)=false:=by rfl) :
  PE X (.Call (.Attribute o name ez) (e::es) [] bM) (tBM X.K T r to t):=by
 intro ah s Y H Q I h;refine wpAny_Call_method_late hbase hfew hline rfl (bK (ho ah s Y H _ I h) λv s1 ⟨x,H1,I1,r1,ty,q1⟩=>?_)
 obtain⟨h1,h2⟩:=Rw I1 r1 ty;refine⟨T,id,pa,slot,hty,h1,h2,?_⟩;have hA:=ha bM ah s1 Y H1 _ I1 q1;rw[hs]at hA ⊢
 refine Calls.callWith_builtin (by show (false||(backTo bM (starEach es X.env)).any (·.1))=false;rw[hplain] <;> rfl) (Calls.evalArgs_plain ?_)
 exact bK hA λus s2 ⟨vs,H2,I2,r2,q2⟩=>hm ah s2 Y H2 x vs v us Q I2 r1 r2 q2
/- xs.append(e),list.index on a module's tuple .. are MtR facts of 06m -/
end
def MtM(X:Cx)(id:String)(r:V->List V->Hp->VK->Prop):Prop:=
 ∀(ah: ~~~1) (s:Shared) (Y:St) (H:Hp) (x:V) (xs:List V) (v:Value) (us:List Value) (Q:VK),Inv X ah Y H s->RelV x v->Vals xs us->r x xs H Q->
  wpAny (~~~2) X.A (call (.builtin id) (v::us)) (EP X ah Y Q) X.xe s
theorem Vals.one:∀{x:V}{us:List Value},Vals [x] us->∃u,us=[u]/\RelV x u
 |_,_,.cons r .nil=>⟨_,rfl,r⟩
theorem Vals.eraseIdx:∀{xs:List V}{us:List Value} (i:Nat),Vals xs us->Vals (xs.eraseIdx i) (us.eraseIdx i)
 |_,_,_,.nil=>.nil
 |_,_,0,.cons _ t=>t
 |_,_,i+1,.cons r t=>.cons r (Vals.eraseIdx i t)
theorem Vals.reverse{xs:List V}{us:List Value}(h:Vals xs us):Vals xs.reverse us.reverse:=by
 induction h with
 |nil=>exact .nil
 |cons r t ih=>rw[B1,B1];exact Vals.append ih (.cons r .nil)
theorem Vals.rep(h:Vals xs us):∀k:Nat,Vals (List.replicate k xs).flatten (List.replicate k us).flatten
 | 0=>.nil
 |k+1=>by
  rw[oQ,oQ,tS,tS];exact Vals.append h (Vals.rep h k)
theorem rq{α:Type}:∀(l:List α) (i:Nat),(l.eraseIdx i).length<=l.length
 | [],_=>eC _
 |_::_,0=>B2 _
 |_::r,i+1=>Nat.succ_le_succ (rq r i)
theorem foldl_rep(its:List Value):∀(k:Nat) (acc:List Value),
  List.foldl (λx1 x2=>x1++x2) acc.toArray (List.replicate k its.toArray)=(acc++(List.replicate k its).flatten).toArray
 | 0,acc=>by simp
 |k+1,acc=>by
  have e:acc.toArray++its.toArray=(acc++its).toArray:=by simp
  have e2:(acc++its)++(List.replicate k its).flatten=acc++(List.replicate (k+1) its).flatten:=by rw[oQ,tS,AF]
  rw[<- e2,<- foldl_rep its k (acc++its),<- e,oQ,List.foldl_cons]
section
variable{X:Cx}{ah: ~~~1}{Y:St}{H:Hp}{s:Shared}{l b:Addr}{xs ys zs:List V}
theorem Inv.Rx{its its':List Value}{n:Nat}{f:Array Value->Array Value}{t':Nat}(I: ~~~7)(hH:H l=some (.lst xs))
  (e:s.heap.get? l=some { cls:=.type "list",data:=.seq its.toArray n}) (hf:f its.toArray=its'.toArray) (hv:Vals ys its') (hz:ys.length<=sizeLine) :
  Inv X ah Y (upd H l (.lst ys)) { s with heap:=s.heap.update l (Obj.mapSeq f),toks:=t'}:=by
 have q:=PySem.IsL.update e f;rw[hf]at q;refine I.write (x:=l) (e:=l) (by rw[hH];exact trivial) (.inl rfl) (λb' u hb hu=>(i6 s.heap (Obj.mapSeq f) (nV hb)).trans hu) ⟨_,q⟩ ?_
 exact⟨hz,its',_,hv,q⟩
theorem Inv.X8(I: ~~~7)(hv:Vals ys its)(hz:ys.length<=sizeLine) :
  Inv X ah Y (upd H s⁻¹ (.lst ys)) { s with heap:=s.heap.push { cls:=.type "list",data:=.seq its.toArray},toks:=t'}:=
 I.laid (λ_ _ q=>bP _ q) (eC _) ⟨hz,its,0,hv,eM _ rfl⟩
theorem Inv.fresh(I: ~~~7):H s⁻¹=none:=I.hok.fresh (eC _)
theorem Inv.yp(I: ~~~7)(hH:H l=some (.lst xs)):xs.length<=sizeLine/\∃(its:List Value) (n:Nat),Vals xs its/\xs.length=its.length/\s.heap.get? l=some { cls:=.type "list",data:=.seq its.toArray n}:=by obtain⟨z,its,n,r,e⟩:=I.hok l _ hH;exact⟨z,its,n,r,r.length,e⟩
theorem vA(h:n<=sizeLine):Builtin.List.listTooLong n=false:=by unfold Builtin.List.listTooLong;exact sB ⋯
end
section
variable{X:Cx}
def KZ:V->List V->Hp->VK->Prop:=λx vs H Q=>∃l xs y,x=.ref l/\vs=[y]/\H l=some (.lst xs)/\xs.length<sizeLine/\Q .non (upd H l (.lst (xs++[y])))
theorem rz:MtM X "list.append" KZ:=by
 intro ah s Y H x vs v us Q I rx rv h;obtain⟨l,xs,y,rfl,rfl,hH,hz,q⟩:=h;cases rx;obtain⟨u,rfl,ru⟩:=rv.one;obtain⟨z,its,n,r,hl,e⟩:=I.yp hH;refine call_meets F.slot_list_append ⟨_,e,rfl⟩ F.entry_list_append (F.args_list_append_2 _ _) (PySem.list_append l its.toArray n u (by rw[dE];lia)) ⟨e,?_⟩
 refine⟨.non,_,I.Rx (its':=its++[u]) hH e ⋯ (r.append (.cons ru .nil)) ?_,rfl,q⟩;rw[eJ,n0];lia
def K1:V->List V->Hp->VK->Prop:=λx vs H Q=>∃l b xs zs,x=.ref l/\vs=[.ref b]/\H l=some (.lst xs)/\H b=some (.lst zs)/\xs.length+zs.length<=sizeLine/\Q .non (upd H l (.lst (xs++zs)))
theorem Ce:MtM X "list.extend" K1:=by
 intro ah s Y H x vs v us Q I rx rv h;obtain⟨l,b,xs,zs,rfl,rfl,hH,hB,hz,q⟩:=h;cases rx;obtain⟨u,rfl,ru⟩:=rv.one;cases ru;obtain⟨z,its,n,r,hl,e⟩:=I.yp hH;obtain⟨z2,kO,n2,r2,hl2,e2⟩:=I.yp hB;have jP:its.toArray.size+kO.toArray.size<=sizeLine:=by rw[dE,dE];lia
 have Gd : ¬ (!its.toArray.isEmpty&&Builtin.List.listTooLong (its.toArray.size+kO.toArray.size))=true:=by rw[vA jP,Bool.and_false];exact kS
 refine call_meets F.slot_list_extend ⟨_,e,rfl⟩ F.entry_list_extend (F.args_list_extend_2 _ _)
  (AutoSeq1.list_extend_list_list_0 l its.toArray n b kO.toArray n2 Gd (by rw[dE];lia) ⋯) ⟨e,e2,?_⟩
 refine⟨.non,_,I.Rx (its':=its++kO) hH e ⋯ (r.append r2) ?_,rfl,q⟩;rw[eJ];lia
def Ry:V->List V->Hp->VK->Prop:=λx vs H Q=>∃l xs i k y,x=.ref l/\vs=[.int i]/\H l=some (.lst xs)/\-(2 ^ 63)<=i/\i<2 ^ 63/\seqIndex? i xs.length=some k/\xs[k]?=some y/\Q y (upd H l (.lst (xs.eraseIdx k)))
theorem Ge:MtM X "list.pop" Ry:=by
 intro ah s Y H x vs v us Q I rx rv h;obtain⟨l,xs,i,k,y,rfl,rfl,hH,h1,h2,hk,hy,q⟩:=h;cases rx;obtain⟨u,rfl,ru⟩:=rv.one;obtain⟨t,rfl⟩:=ru;obtain⟨z,its,n,r,hl,e⟩:=I.yp hH;obtain⟨w,hw,rw'⟩:=r.get hy;refine call_meets F.slot_list_pop ⟨_,e,rfl⟩ F.entry_list_pop (F.args_list_pop_2 _ _)
  (MeetsSeq.list_pop_at l its.toArray n i t k w (fitsIndex_both h1 h2) (by rw[dE,<- hl];exact hk) (by rw[<- Array.getElem?_toList];exact hw) (by rw[dE];lia)) ⟨e,?_⟩
 refine⟨y,_,I.Rx (its':=its.eraseIdx k) hH e ?_ (r.eraseIdx k) ?_,rw',q⟩
 . show its.toArray.eraseIdxIfInBounds k=(its.eraseIdx k).toArray;rw[List.eraseIdxIfInBounds_toArray]
 . have:=rq xs k;lia
def rCat:R2:=λx y H Q=>∃l b xs zs,x=.ref l/\y=.ref b/\H l=some (.lst xs)/\H b=some (.lst zs)/\xs.length+zs.length<=sizeLine/\∀p,H p=none->Q (.ref p) (upd H p (.lst (xs++zs)))
theorem Rz:mV X (binaryOp .Add) rCat:=by
 intro ah s Y H x y v u Q I rx ry h;obtain⟨l,b,xs,zs,rfl,rfl,hH,hB,hz,q⟩:=h;cases rx;cases ry;obtain⟨z,its,n,r,hl,e⟩:=I.yp hH;obtain⟨z2,kO,n2,r2,hl2,e2⟩:=I.yp hB;refine PySem.P.add_list e e2 ?_ (by rw[dE,dE];lia)
 have ea:its.toArray++kO.toArray=(its++kO).toArray:=by simp
 rw[ea];exact⟨.ref _,_,I.X8 (t':=s.toks) (r.append r2) (by rw[eJ];lia),rfl,q _ I.fresh⟩
def rRep:R2:=λx y H Q=>∃l k xs,x=.ref l/\y=.int k/\H l=some (.lst xs)/\-(2 ^ 63)<=k/\k<2 ^ 63/\xs.length * k.toNat<=sizeLine/\
 ∀p,H p=none->Q (.ref p) (upd H p (.lst (List.replicate k.toNat xs).flatten))
theorem len_rep{α:Type}(xs:List α)(k:Nat):(List.replicate k xs).flatten.length=k * xs.length:=by
 induction k with
 |zero=>simp
 |succ k ih=>rw[oQ,tS,eJ,ih,Nat.succ_mul,Nat.add_comm]
theorem RB:mV X (binaryOp .Mult) rRep:=by
 intro ah s Y H x y v u Q I rx ry h;obtain⟨l,k,xs,rfl,rfl,hH,h1,h2,hz,q⟩:=h;cases rx;obtain⟨t,rfl⟩:=ry;obtain⟨z,its,n,r,hl,e⟩:=I.yp hH;have aJ:its.toArray.size * k.toNat<=sizeLine:=by rw[dE,<- hl];exact hz
 have hcap : ¬ its.toArray.size * k.toNat > (2 ^ 63 - 1) / 8:=by
  have:(sizeLine:Nat)<=(2 ^ 63 - 1) / 8:=by decide
  lia
 have hfit : ¬ (!Builtin.List.listFitsIndex k)=true:=by rw[fitsIndex_both h1 h2];exact kS
 have Gd : ¬ Builtin.List.listTooLong (its.toArray.size * k.toNat)=true:=by rw[vA aJ];exact kS
 have hnew:List.foldl (λx1 x2=>x1++x2) #[] (List.replicate (if its.toArray.isEmpty=true then 0 else k.toNat) its.toArray)=(List.replicate k.toNat its).flatten.toArray:=by
  have f0:∀m:Nat,List.foldl (λx1 x2=>x1++x2) #[] (List.replicate m its.toArray)=(List.replicate m its).flatten.toArray:=λm=>by
   have:=foldl_rep its m [];rw[y6]at this;exact this
  rw[f0];cases its with
  |nil=>simp
  |cons a r'=>rw[hU ⋯]
 refine wpAny_binaryOp_repeat_ref (T:= "list") (U:= "int") ⋯ ⟨_,e,rfl⟩ (λs'=>typeIs_int s' k t) noFill_list_mul F.fills_int_mul F.slot_int_rmul repeat_list F.slot_int_index.lookup
  (call_meets F.slot_int_rmul (typeIs_int s k t) F.entry_int_rmul (F.args_int_rmul_2 _ _) (int___rmul___int_list k t l its.toArray n)
   ⟨e,rfl,⟨_,e,rfl⟩,call_meets F.slot_list_mul ⟨_,e,rfl⟩ F.entry_list_mul (F.args_list_mul_2 _ _) (AutoListH.list___mul___list_int_3 l its.toArray n k t hfit hcap Gd) ⟨e,?_⟩⟩)
 rw[hnew];exact⟨.ref _,_,I.X8 (t':=s.toks) (r.rep k.toNat) (by rw[len_rep,Nat.mul_comm];exact hz),rfl,q _ I.fresh⟩
end
end L2
namespace Att
open PySem PySem.W PySem.Calls PyProof.Rows
theorem mW:∀(ns: ~~~0) (vs:List Value),WellAll P h vs (ns.map WData.int)->IntsAre vs ns:=by
 intro ns
 induction ns with
 |nil=>intro vs w;rw[List.map_nil]at w;cases w;exact .nil
 |cons n ns ih=>
  intro vs w;rw[List.map_cons]at w;cases w with
  |cons a b=>cases a;exact .cons _ _ (ih _ b)
theorem Cg{l:OpenLaw}{n:Nat}(hn:l.most=some n){P:Params}{h:Heap}{args:List WData}{vals:List Value}
  (hpre:l.row.toRowW.claim.pre args=true) (hwl:WellAll P h vals args) :
  ∃a vs ns,vals=[Value.ref a]/\args=[WData.list (ns.map WData.int)]/\h.get? a=some { cls:=.type "list",data:=.seq vs.toArray}/\IntsAre vs ns/\ns.length<=n:=by
 have hsh:WShape.hasAll [] args [.list .int]=true:=(pre_splitW hpre).1;have hc:l.pre.holds [] { args:=args}=true:=(pre_splitW hpre).2;obtain⟨d,r,rfl,h1,h2⟩:=hasAllW_cons hsh;obtain rfl:=hasAllW_nil h2;obtain⟨xs,rfl,h3⟩:=hasW_list h1;obtain⟨ns,rfl⟩:=items_int h3;have aJ:ns.length<=n:=by
  unfold OpenLaw.pre at hc;have h4:(WTm.not (.lt (.lit (.int (n:Int))) (.len (.arg 0)))).holds [] { args:=[.list (ns.map .int)]}=true:=by have h4:=(holds_andW hc).1;rw[hn]at h4;exact h4
  have h5:=condW_of h4 (w_not (w_lt w_lit (w_len_list (w_arg rfl))));rw[fA]at h5;refine Nat.le_of_not_lt λq=>?_
  have q':(n:Int)<((ns.length:Nat):Int):=by lia
  first
   | (rw[sK q']at h5;exact absurd h5 ⋯)
   | (simp at h5;lia)
 cases hwl with
 |cons w1 w2=>
  cases w2;cases w1 with
  |list ho hall=>exact⟨_,_,ns,rfl,rfl,ho,mW ns _ hall,aJ⟩
theorem Ci(l:OpenLaw)(args:List WData):l.row.toRowW.claim.post args (.bool true) args=true:=
 postW_of (r:=l.row.toRowW) (X:=(true==true))
  (show WShape.has [] (.bool true) .bool=true by first |rfl |decide |simp[WShape.has,WShape.arms,WShape.armsAll])
  (show (WTm.eq .res (.lit (.bool true))).value [] { args:=args,res:=some (.bool true),after:=args}=some (.bool (true==true))from w_eq_bool (w_res rfl) w_lit) rfl
theorem vB{l:OpenLaw}{n:Nat}{q:Program}{loose:List Str}{XP:(Str->Option Value)->Heap->Prop}{YP:World->Heap->Prop}{d:DefRec}
  (hn:l.most=some n) (iB:d.params.defaults=[])
  (call:∀(w:World) (s₀ s₁:Shared) (mg mb:Str->Option Value) (fa:Addr) (o:Obj) (pm cd doc:Value) (a:Addr) (vs:List Value) (ns: ~~~0),
   Ground q loose [] XP w s₀ mg mb s₁.heap->YP w s₁.heap->
   s₁.heap.get? fa=some o->o.data=.func (docDef d.name d.params d.body d.scope pm cd doc)->s₁.heap.CodeRec cd d.name->mg d.name=some (.ref fa)->
   s₁.heap.get? a=some { cls:=.type "list",data:=.seq vs.toArray}->IntsAre vs ns->ns.length<=n->s₁.gens = #[]->
   codeAny (model l.prog w) callerA (.call (.ref fa) ⟨[.ref a],[]⟩) (λr s'=>r=.ok (.ret (.bool true))/\OldK s₁.heap s'.heap/\s'.os=s₁.os/\AllBare s'.gens) s₁) :
  WalkO q loose XP YP l.row.toRowW d [] (λf vs=>PySem.call f vs):=by
 intro w s₀ s₁ mg mb G qqq fa o pm cd doc dV kV ho hd bN hD hmg hg args vals as hpre hlay hrd hwl hlo;obtain rfl:dV=.none:=Dflts.none hD iB;obtain rfl:kV=.none:=Dflts.noKw hD;obtain⟨a,vs,ns,rfl,rfl,hobj,hints,aJ⟩:=Cg hn hpre hwl;refine enter_call (Bi (call w s₀ s₁ mg mb fa o pm cd doc a vs ns G qqq ho (fd_plain hd) bN hmg hobj hints aJ hg) λr s' hq=>?_)
 obtain⟨rfl,h2,h3,h4⟩:=hq;exact⟨.inl ⟨.bool true,.bool true,[],rfl,λ_=>rfl,.bool true,Ci l _,λ_=>⟨List.Pairwise.nil,λ_ hm=>(nomatch hm)⟩⟩,h2,h3,h4⟩
end Att
namespace L2
theorem lu:∀{vs:List Value}{ns: ~~~0},IntsAre vs ns->Vals (ns.map V.int) vs
 |_,_,.nil=>.nil
 |_,_,.cons n t h=>.cons ⟨t,rfl⟩ (lu h)
abbrev KOf{K:Frag}{h:Heap}(_:K.In h):Frag:=K
abbrev uX:Cb:=λ_ _ _ _ _ _=>False
abbrev E0:XK:=λ_ _ _=>False
theorem Qa:Passes uX X E0:=λ_ _ _ _ _ _ _ h=>h.elim
structure K3(K:Frag)(x qual:Str)(st:Stmt)(f:Addr)(fd:FuncData):Prop where
 ex:∃(oc:Value) (od:Option Addr) (kV doc pm:Value) (an:Option Addr) (bD ct:Value) (osl:Array (Option Value)),
  fd=PySem.W.fnOf x qual (iT st) (bA st) (aF st) .none kV doc pm an bD ct/\K.lookup f=some ⟨oc,od,.func fd,osl⟩/\PySem.W.codeIn K bD qual=true
 kp:PySem.W.keepIn K (.ref f)=true
section
variable{P:Program}{w:World}{K:Frag}{mg:Str->Option Value}{base:Heap}
theorem RC{x qual:Str}{st:Stmt}{f:Addr}{oc:Value}{od an:Option Addr}{osl:Array (Option Value)}{kV doc pm bD ct:Value}(l:K.lookup f=some ⟨oc,od,.func (PySem.W.fnOf x qual (iT st) (bA st) (aF st) .none kV doc pm an bD ct),osl⟩)
  (c:PySem.W.codeIn K bD qual=true) (k:PySem.W.keepIn K (.ref f)=true):K3 K x qual st f (PySem.W.fnOf x qual (iT st) (bA st) (aF st) .none kV doc pm an bD ct):=⟨⟨oc,od,kV,doc,pm,an,bD,ct,osl,rfl,l,c⟩,k⟩
end
theorem oq{A B:Prop}(h:B):if false=true then A else B:=by rw[hU kS];exact h
theorem j3{A B:Prop}(h:A):if true=true then A else B:=by rw[gL rfl];exact h
noncomputable def Cx.block(X:Cx)(N:List Str)(scope:Scope)(cl:List (Str×Addr))(C:Addr)(s₀:Shared)(H₀:Hp)(fp:List Addr):Cx:=
 { X with N:=N,s₀:=s₀,H₀:=H₀,env:=compEnvC scope cl C X.env,outer:=X.stack,ex:=fp,fn:=λx=>scope.names.lookup x==some .local,pn:=[],xe:=λ_ _=>False}
structure Bk where
 cl:List (Str×Addr)
 C:Addr
 s₀:Shared
 H₀:Hp
 fp:List Addr
abbrev Cx.blk (X:Cx) (N:List Str) (scope:Scope) (b:Bk):Cx:=X.block N scope b.cl b.C b.s₀ b.H₀ b.fp
structure bu(sc scope:Scope):Prop where
 kind:scope.kind=.function
 tF:∀y∈scope.names,y.2≠.cell
 uniq:∀y∈scope.names,y.2=.local->scope.names.lookup y.1=some .local
 Yb:∀y∈scope.names,y.2=.free->scope.names.lookup y.1=some .free
 free:∀y∈scope.names,y.2=.free->sc.names.lookup y.1=some .cell\/sc.names.lookup y.1=some .free
theorem mem_of_lookup{α:Type}{x:Str}{v:α}:∀{l:List (Str×α)},l.lookup x=some v->(x,v)∈l
 | [],h=>by simp at h
 | (n,k)::r,h=>by
  cases hx:x==n with
  |true=>
   simp only[pE,hx]at h;symm;have e:x=n:=by simpa using hx
   subst e;exact dC
  |false=>simp only[pE,hx]at h;exact dA _ (mem_of_lookup h)
theorem iF{env:Env}{x:Str}:∀{names:List (Str×NameKind)},
  (names.map λ(n,k)=>if (k==NameKind.free&&env.scope.kind==.function&&env.kindOf n==some .cell)then (n,NameKind.cell)else (n,k)).lookup x
   = (names.lookup x).map λk=>if (k==NameKind.free&&env.scope.kind==.function&&env.kindOf x==some .cell)then NameKind.cell else k
 | []=>rfl
 | (n,k)::r=>by
  have ih:=@iF env x r;show List.lookup x ((if (k==NameKind.free&&env.scope.kind==.function&&env.kindOf n==some .cell)=true then (n,NameKind.cell)else (n,k))::_)=_
  cases hx:x==n with
  |true=>
   have e:x=n:=by simpa using hx
   subst e;by_cases hc:(k==NameKind.free&&env.scope.kind==.function&&env.kindOf x==some .cell)=true
   . rw[gL hc];simp only[pE,hx,CS,gL hc]
   . rw[hU hc];simp only[pE,hx,CS,hU hc]
  |false=>
   by_cases hc:(k==NameKind.free&&env.scope.kind==.function&&env.kindOf n==some .cell)=true
   . rw[gL hc];simp only[pE,hx];exact ih
   . rw[hU hc];simp only[pE,hx];exact ih
theorem ou(h:∀y∈scope.names,y.2=.free->∃c,env.cells.lookup y.1=some c) :
  ∃cl,closureFor scope env=pure cl/\(∀x c,cl.lookup x=some c->env.cells.lookup x=some c/\(x,NameKind.free)∈scope.names)/\∀y∈scope.names,y.2=.free->∃c,cl.lookup y.1=some c:=by
 have key:∀(names:List (Str×NameKind)) (acc:List (Str×Addr)),(∀y∈names,y.2=.free->∃c,env.cells.lookup y.1=some c)->
   ∃cl,(forIn names acc λ(x:Str×NameKind) (cs:List (Str×Addr))=>(match x with | (name,kind)=>if (kind==.free)=true then (do let c <- cellOf env name;pure (ForInStep.yield ((name,c)::cs)))else pure (ForInStep.yield cs):Sem (ForInStep (List (Str×Addr)))))=pure cl/\
    (∀x c,cl.lookup x=some c->acc.lookup x=some c\/(env.cells.lookup x=some c/\(x,NameKind.free)∈names))/\(∀y∈names,y.2=.free->∃c,cl.lookup y.1=some c)/\∀x c,acc.lookup x=some c->∃c',cl.lookup x=some c':=by
  intro names
  induction names with
  |nil=>intro acc _;exact⟨acc,rfl,λx c e=>.inl e,(λy hy=>nomatch hy),λx c e=>⟨c,e⟩⟩
  |cons y r ih=>
   intro acc hf;obtain⟨n,k⟩:=y;rw[List.forIn_cons];by_cases hk:(k==NameKind.free)=true
   .
    obtain⟨c,hc⟩:=hf (n,k) dC (by simpa using hk)
    have hc':env.cells.lookup n=some c:=hc;obtain⟨cl,e,h1,h2,h3⟩:=ih ((n,c)::acc) λy hy=>hf y (dA _ hy)
    refine⟨cl,?_,λx c' q=>?_,λy hy hyf=>?_,λx c' q=>?_⟩
    .
     have ec:cellOf env n=pure c:=by unfold cellOf;rw[hc']
     show ((if (k==NameKind.free)=true then (do let c <- cellOf env n;pure (ForInStep.yield ((n,c)::acc)))else pure (ForInStep.yield acc)) >>= _)=_
     rw[gL hk,ec];exact e
    .
     rcases h1 x c' q with z |⟨z1,z2⟩
     .
      cases hx:x==n with
      |true=>
       simp only[pE,hx]at z;cases z;have e:x=n:=by simpa using hx
       subst e;have ek:k=NameKind.free:=by simpa using hk
       subst ek;exact .inr ⟨hc',dC⟩
      |false=>simp only[pE,hx]at z;exact .inl z
     . exact .inr ⟨z1,dA _ z2⟩
    .
     rcases eA.mp hy with rfl |hy
     . exact h3 n c ⋯
     . exact h2 y hy hyf
    .
     cases hx:x==n with
     |true=>
      have e:x=n:=by simpa using hx
      subst e;exact h3 x c ⋯
     |false=>exact h3 x c' (by simp only[pE,hx];exact q)
   .
    obtain⟨cl,e,h1,h2,h3⟩:=ih acc λy hy=>hf y (dA _ hy)
    refine⟨cl,?_,λx c' q=>?_,λy hy hyf=>?_,h3⟩
    .
     show ((if (k==NameKind.free)=true then (do let c <- cellOf env n;pure (ForInStep.yield ((n,c)::acc)))else pure (ForInStep.yield acc)) >>= _)=_
     rw[hU hk];exact e
    .
     rcases h1 x c' q with z |⟨z1,z2⟩
     . exact .inl z
     . exact .inr ⟨z1,dA _ z2⟩
    .
     rcases eA.mp hy with rfl |hy
     . exact absurd hyf (by simpa using hk)
     . exact h2 y hy hyf
 obtain⟨cl,e,h1,h2,_⟩:=key scope.names [] h;refine⟨cl,?_,λx c q=>?_,h2⟩
 . exact (congrArg (λ(m:Sem (List (Str×Addr)))=>m >>= λcs=>pure cs) e:_)
 .
  rcases h1 x c q with z |z
  . simp at z
  . exact z
def j4(X:Cx)(ifs:List Expr)(t:TT):Prop:=
 ∀(ah: ~~~1) (s:Shared) (Y:St) (H:Hp) (Q:Bool->Hp->Prop),Inv X ah Y H s->t Y H Q->
  wpAny (~~~2) X.A (forIn ifs true λc r=>if r=true then do let ok <- isTrue c X.env (eval c X.env);pure (ForInStep.yield ok)else pure (ForInStep.yield r)) (TP X ah Y Q) X.xe s
def Gf:TT:=λ_ H Q=>Q true H
theorem vC:j4 X [] Gf:=λ_ _ _ H _ I h=>wpAny_tests_nil ⟨H,I,h⟩
theorem Gg(h:PT X c t):j4 X [c] t:=λah s Y H Q I hw=>wpAny_tests_one (h ah s Y H Q I hw)
noncomputable def tG(e target iter:Expr)(ifs:List Expr)(d:Nat)(it acc:Value)(env:Env)(em:Sem Unit):Sem Fin:=do
 standAt iter.pos
 match <- pyNext it with
 |none=>pure (.done .next)
 |some v=>
  letOwnedTupleGo target it v
  assign target env v
  let mut ok:=true
  for c in ifs do
   if ok then ok <- isTrue c env (eval c env)
  if ok then em
  again (.compLoop e d it acc env)
def Cu(ce:Expr):Prop:=∀(prog:Program) (w:World) (A:Around) (d:Nat) (it acc:Value) (env:Env),A.under (.compLoop ce d it acc env)=A/\(model prog w).den (.compLoop ce d it acc env)=(compTurn ce d it acc env).onRaise (λx=>do noteFrame x env;theTreesLotGoes x)
theorem j5{prog:Program}{w:World}{A:Around}{R:Result->Shared->Prop}{s:Shared}{ce target iter:Expr}{ifs:List Expr}{d:Nat}{it acc:Value}{env:Env}{em:Sem Unit}(hu:Cu ce)(ht:compTurn ce d it acc env=tG ce target iter ifs d it acc env em)(I:Nat->Shared->Prop)
  (turn:∀n s,I n s->wpAny (model prog w) A (pyNext it) (λr s₁=>match r with
   |none=>R (.ok .next) s₁
   |some v=>wpAny (model prog w) A (letOwnedTupleGo target it v) (λ_ s₁'=>wpAny (model prog w) A (assign target env v) (λ_ s₂=>
     wpAny (model prog w) A (forIn ifs true λc r=>if r=true then do let ok <- isTrue c env (eval c env);pure (ForInStep.yield ok)else pure (ForInStep.yield r)) (λok s₃=>
      if ok=true then wpAny (model prog w) A em (λ_ s₅=>∃m,m<n/\I m s₅) (λ_ _=>False) s₃
      else ∃m,m<n/\I m s₃) (λ_ _=>False) s₂) (λ_ _=>False) s₁') (λ_ _=>False) s₁) (λ_ _=>False) s)
  (n:Nat) (h:I n s) :
  codeAny (model prog w) A (.compLoop ce d it acc env) R s:=by
 refine codeAny_loop rfl I (λn s hI=>?_) n h
 rw[(hu prog w A d it acc env).1,(hu prog w A d it acc env).2];refine wpAny_noted ?_;rw[ht];refine aS (xI (aS (lL (turn n s hI) (λr s₁ h₁=>?_) λ_ _ h'=>h'.elim)))
 cases r with
 |none=>exact dS h₁
 |some v=>
  refine aS (lL h₁ (λ_ s₁' h₁'=>?_) λ_ _ h'=>h'.elim)
  refine aS (lL h₁' (λ_ s₂ h₂=>aS (lL h₂ (λok s₃ h₃=>?_) λ_ _ h'=>h'.elim)) λ_ _ h'=>h'.elim)
  cases ok with
  |false=>exact dS ⟨rfl,h₃⟩
  |true=>exact aS (lL h₃ (λ_ s₅ h₅=>dS ⟨rfl,h₅⟩) λ_ _ h'=>h'.elim)
abbrev TU:=St->Hp->(St->Hp->Prop)->Prop
def PU(X:Cx)(m:Sem Unit)(t:TU):Prop:=
 ∀(ah: ~~~1) (s:Shared) (Y:St) (H:Hp) (Q:St->Hp->Prop),Inv X ah Y H s->t Y H Q->wpAny (~~~2) X.A m (λ_ s'=>∃σ' H',Inv X ah σ' H' s'/\Q σ' H') (λ_ _=>False) s
def tH(D:Addr)(te:TE):TU:=λY H Q=>te Y H λv H5=>∃ys,H5 D=some (.lst ys)/\ys.length<sizeLine/\Q Y (upd H5 D (.lst (ys++[v])))
theorem yq(he:PE X cC te)(hx:X.xe=λ_ _=>False):PU X (do let _ <- call (.builtin "list.append") [.ref D,<- eval cC X.env]) (tH D te):=by
 intro ah s Y H Q I h;have he:=he ah s Y H _ I h;rw[hx]at he;refine aS (lL he (λy s8 ⟨v,H8,I8,r8,ys,hD8,hz8,q8⟩=>?_) λ_ _ z=>z)
 have ma:=rz ah s8 Y H8 (.ref D) [v] (.ref D) [y] (λ_ H9=>Q Y H9) I8 rfl (.cons r8 .nil) ⟨_,ys,v,rfl,rfl,hD8,hz8,q8⟩
 rw[hx]at ma;exact aS (lL ma (λ_ s9 ⟨_,H9,I9,_,q9⟩=>dS ⟨Y,H9,I9,q9⟩) λ_ _ z=>z)
noncomputable def σC(k:Nat)(D:Addr)(Y:St):St:=Y++(List.replicate k none++[some (.ref D)])
def BkIn(X:Cx)(Y:St)(b:Bk):Prop:=∃ah,Inv X ah Y b.H₀ b.s₀/\∀a∈b.fp,jV X ah b.H₀ a
def K4(u0:HO)(X:Cx)(k:Nat)(g:Bk->TG)(tt:Bk->TT)(te:Addr->Bk->TU)(J:It)(D:Addr)(Y:St)(H1:Hp)(Q:VK):Prop:=
 ∃W:Nat->Nat->St->Hp->Prop,(∃m,W 0 m (σC k D Y) (upd H1 D u0))/\∀i m σ' H',W i m σ' H'->
  (J.stop i H'/\Q (.ref D) H')\/(J.go i H'/\∃Nn:St->Hp->Prop,(∀K5 K6,Nn K5 K6->∃m',m'<m/\W (i+1) m' K5 K6)/\∀x H2,J.Xs i H' x H2->∀bk:Bk,BkIn X Y bk->g bk x σ' H2 λσ2 H3=>tt bk σ2 H3 λb H4=>
   if b=true then te D bk σ2 H4 Nn else Nn σ2 H4)
noncomputable def tK(u0:HO)(X:Cx)(k:Nat)(wi:TI)(g:Bk->TG)(tt:Bk->TT)(te:Addr->Bk->TU):TE:=λY H Q=>wi Y H λJ H1=>∀D,H1 D=none->K4 u0 X k g tt te J D Y H1 Q
abbrev rA:=tK (.lst [])
structure Ck(X:Cx)(ce tg iter:Expr)(ifs:List Expr)(rest:List Comprehension)(new:Sem Value)(u0:HO)(em:Value->Env->Sem Unit):Prop where
 cls:clausesOf ce=⟨tg,iter,ifs,0⟩::rest
 und:Cu ce
 turn:∀it D env,compTurn ce 0 it (.ref D) env=tG ce tg iter ifs 0 it (.ref D) env (em (.ref D) env)
 new:∃o0:Obj,o0.isFreed=false/\(∀{A:Around}{E Q:Value->Shared->Prop}{s:Shared},Q (.ref s⁻¹) { s with heap:=s.heap.push o0}->wpAny (~~~2) A new Q E s)/\
  ∀(H:Hp) (h:Heap) (a:Addr),h.get? a=some o0->(a==sysModules)=false->cM X.prog X.w H h a u0
 start:∀{A:Around}{R:Result->Shared->Prop}{s:Shared}{it acc:Value}{env:Env},codeAny (~~~2) A (.compLoop ce 0 it acc env) R s->
  wpAny (~~~2) A (pyIter it) (λit' s'=>codeAny (~~~2) A (.compLoop ce 0 it' acc env) R s') (notedBy (~~~2) A env λx s'=>R (.error x) s') s->codeAny (~~~2) A (.compStart ce 0 it acc env) R s
theorem nu{X:Cx}{cC tg iter:Expr}{ifs:List Expr}{rest:List Comprehension}{scope:Scope}{pos:Pos}{em:Value->Env->Sem Unit}(h:∀it acc env,compTurn (.ListComp cC (⟨tg,iter,ifs,0⟩::rest) scope pos) 0 it acc env=tG (.ListComp cC (⟨tg,iter,ifs,0⟩::rest) scope pos) tg iter ifs 0 it acc env (em acc env)) :
  Ck X (.ListComp cC (⟨tg,iter,ifs,0⟩::rest) scope pos) tg iter ifs rest (newList []) (.lst []) em where
 cls:=rfl
 und:=λ_ _ _ _ _ _ _=>⟨rfl,rfl⟩
 turn:=λit D env=>h it (.ref D) env
 new:=⟨_,rfl,λh=>l9 h,λ_ _ _ e _=>⟨u7 _,[],_,.nil,e⟩⟩
 start:=codeAny_compStart_list
structure Names(N N':List Str)(scope:Scope)(k:Nat):Prop where
 len:N'.length=N.length+(k+1)
 last:∀x,N'[N.length+k]?=some x->scope.names.lookup x=none
 old:∀i x,N'[i]?=some x->i<N.length->scope.names.lookup x=none\/(N[i]?=some x/\scope.names.lookup x≠some .local)
theorem dZ:(relabel scope env).names.lookup x=(scope.names.lookup x).map λk=>if (k==NameKind.free&&env.scope.kind==.function&&env.kindOf x==some .cell)then NameKind.cell else k:=iF
section
variable{X:Cx}
theorem oz(B:bu X.env.scope scope)(h:(compEnvC scope cl C X.env).kindOf x=some .cell\/(compEnvC scope cl C X.env).kindOf x=some .free) :
  (x,NameKind.free)∈scope.names:=by
 have e:(compEnvC scope cl C X.env).kindOf x=(scope.names.lookup x).map λk=>if (k==NameKind.free&&X.env.scope.kind==.function&&X.env.kindOf x==some .cell)then NameKind.cell else k:=dZ
 rw[e]at h;cases q:scope.names.lookup x with
 |none=>rw[q]at h;rcases h with h |h <;> symm
 |some k=>
  have hm:=mem_of_lookup q;cases k with
  |free=>exact hm
  |cell=>exact absurd rfl (B.tF _ hm)
  |_=>rw[q]at h;rcases h with h |h <;> (simp at h)
theorem Gh(B:bu X.env.scope scope)(I: ~~~7)(hC:s⁻¹<=C)
  (hf:∀b∈fp,jV X ah H b) (hfs:∀b∈fp,b<s⁻¹)
  (hcl:∀x c,cl.lookup x=some c->X.env.cells.lookup x=some c/\(x,NameKind.free)∈scope.names) (K7:∀y∈scope.names,y.2=.free->∃c,cl.lookup y.1=some c):(X.block N' scope cl C s H fp).Ok where
 mod:=I.ok.mod
 kind:=B.kind
 glob:=I.ok.glob
 blt:=I.ok.blt
 above:=hC
 inj:=λx y c h1 h2=>I.ok.inj x y c (hcl x c h1).1 (hcl y c h2).1
 has:=λx h=>K7 _ (oz (cl:=cl) (C:=C) B h) rfl
 QS:=λx c h1 h2=>by
  have e:scope.names.lookup x=some .local:=by have:(scope.names.lookup x==some NameKind.local)=true:=h1;simpa using this
  have h3:=(hcl x c h2).2;have q:=B.Yb _ h3 rfl;rw[e]at q;cases q
 hd:=I.ok.hd
 frames:=I.ok.frames
 stk:=.inl rfl
 Wt:=λb hb=>⟨i7 (eD (hfs b hb) hC),λx c e=>(hf b hb).2.2.2.2.1 x c (hcl x c e).1⟩
 bs:=I.bs
 Ft:=kA I.ok.Ft I.sz
 vm:=λb o e hb=>by
  obtain⟨_,_,_,h3,_⟩:=hf b hb;rcases h3 with h3 |h3
  . exact I.ok.vm b o e h3
  . exact absurd (eD (eQ e) (kA I.ok.Ft h3)) (nE _)
 x6:=λb hb hm=>by
  rcases eA.mp (I.x8 b hm)with e |e
  . exact (hf b hb).2.1 e
  . exact (hf b hb).2.2.1 e
 jU:=I.stack
 Ku:=I.sO
theorem fS{ah: ~~~1}{Y:St}{H:Hp}{s:Shared}{N':List Str}{k:Nat}{wi:TI}{g:Bk->TG}{tt:Bk->TT}{tu:Addr->Bk->TU}{ce:Expr}{rest:List Comprehension}{new:Sem Value}{u0:HO}{cp:Pos}{em:Value->Env->Sem Unit}{use:Option (Value->Sem Unit)}{Q:Value->Shared->Prop}{Q0:VK}
  (B:bu X.env.scope scope) (hc:X.calm=true) (hN:Names X.N N' scope k) (hi:PI X tg iter wi) (ck:Ck X ce tg iter ifs rest new u0 em)
  (hin:∀(b:Bk) (D:Addr),PG (X.blk N' scope b) tg (g b)/\j4 (X.blk N' scope b) ifs (tt b)/\PU (X.blk N' scope b) (em (.ref D) (X.blk N' scope b).env) (tu D b))
  (hs:∀x,foldedSetIterable iter X.env x=pure x) (I: ~~~7) (h:tK u0 X k wi g tt tu Y H Q0)
  (fin:∀s' H' D C m,Inv X ah Y H' s'->jV X ah H' C->s'.heap.Ns C m->Q0 (.ref D) H'->compPost (~~~2) X.A X.xe use Q (.ref D) C (.ok .next) s') :
  wpAny (~~~2) X.A (comprehension ce scope X.env cp new false (eval iter X.env) use) Q X.xe s:=by
 obtain⟨cl,hclos,hcl,K7⟩:=ou (scope:=scope) (env:=X.env) λy hy hf=>I.ok.has y.1 (B.free y hy hf)
 refine wpAny_comprehension_free ck.cls hs hclos B.kind B.uniq (bK (hi ah s Y H _ I h) λxv s₁ h₁=>bK h₁ λitv s₂ h₂=>?_)
 obtain⟨it,fp,tn,J,H2,rfl,I2,T,aK,f2,hW⟩:=h₂;obtain⟨o0,fr0,new0,ok0⟩:=ck.new;refine new0 (wpAny_newFunctionEnv B.tF (by intro y hy;simp at hy) (λh₁ RD K8=>?_) B.kind)
 dsimp only at RD K8 ⊢
 generalize hH2:s₂.heap.push o0=P2 at RD K8 ⊢
 have hC:P2.objs.size=s₂⁻¹+1:=by rw[<- hH2,sR]
 have hDC:s₂⁻¹≠P2.objs.size:=by rw[hC];exact i7 (mP _)
 have RJ:s₂⁻¹<=P2.objs.size:=by rw[hC];exact B2 _
 have old:∀b o,s₂.heap.get? b=some o->h₁.get? b=some o:=λb o e=>K8.extBut b o (i7 (by rw[hC];exact AV (eQ e))) (bP _ (hH2▸bP _ e))
 have hD0:H2 s₂⁻¹=none:=I2.hok.fresh (eC _);have hC0:H2 P2.objs.size=none:=I2.hok.fresh RJ;have nsys:(s₂⁻¹==sysModules)=false:=by
  have h1:mainGlobals<s₂⁻¹:=(I2.ok.mod.glob.keeps I2.bk).lt;refine Bool.eq_false_iff.mpr λq=>?_
  have q:=eq_of_beq q;rw[q]at h1;exact absurd h1 ⋯
 have fps:∀b∈fp,b<s₂⁻¹:=λb hb=>by
  obtain⟨o,e,_⟩:=T.obj _ _ aK b hb;exact eQ e
 have ok':=Gh (N':=N') (cl:=cl) B I2 RJ f2 fps hcl K7;obtain⟨W,⟨m0,w0⟩,turn⟩:=hW s₂⁻¹ hD0;have fsub:∀b∈fp,b∉frs X.stack:=λb hb=>ok'.x6 b hb
 obtain⟨hg,ht,he⟩:=hin ⟨cl,P2.objs.size,s₂,H2,fp⟩ s₂⁻¹;have I0:Inv (X.block N' scope cl P2.objs.size s₂ H2 fp) [] (σC k s₂⁻¹ Y) (upd H2 s₂⁻¹ u0) { s₂ with heap:=h₁,toks:=s₂.toks+([]:List (Str×Value)).length}:=by
  refine⟨ok',rfl,I2.bare,Un.laid old (eC _) hD0,⟨_,RD,λi x v e1 e2 e3=>?_⟩,λx c e=>?_,?_,λx c e=>?_,λp hp=>?_,I2.hok.laid old (eC _) ?_,?_⟩
  .
   have Yc:(compEnvC scope cl P2.objs.size X.env).kindOf x=some .local\/(compEnvC scope cl P2.objs.size X.env).kindOf x=some .cell\/(compEnvC scope cl P2.objs.size X.env).kindOf x=some .free:=e3;have ek:(compEnvC scope cl P2.objs.size X.env).kindOf x=(scope.names.lookup x).map λk=>if (k==NameKind.free&&X.env.scope.kind==.function&&X.env.kindOf x==some .cell)then NameKind.cell else k:=dZ
   have Xj:i<Y.length:=by
    rcases x0 i Y.length with z |z
    . exact z
    .
     exfalso;unfold σC at e2;rw[fR z]at e2;rcases x0 (i - Y.length) k with z2 |z2
     .
      rw[eP (by rw[l6];exact z2)]at e2
      have:=l8 e2;rw[wS]at this;exact absurd this.2 ⋯
     .
      rw[fR (by rw[l6];exact z2),l6]at e2
      have z3:i - Y.length - k=0:=by
       rcases Nat.eq_zero_or_pos (i - Y.length - k)with q |q
       . exact q
       . rw[AS (Nat.succ_le_of_lt q)]at e2;cases e2
      have z4:i=X.N.length+k:=by rw[<- I2.len];lia
      have hn:=hN.last x (by rw[<- z4];exact e1)
      rw[ek,hn]at Yc;rcases Yc with q |q |q <;> cases q
   have Ww:Y[i]?=some (some v):=by unfold σC at e2;rw[eP Xj]at e2;exact e2
   have hiN:i<X.N.length:=by rw[<- I2.len];exact Xj
   rcases hN.old i x e1 hiN with z |⟨z,z2⟩
   . rw[ek,z]at Yc;rcases Yc with q |q |q <;> cases q
   .
    have hfree:(compEnvC scope cl P2.objs.size X.env).kindOf x=some .cell\/(compEnvC scope cl P2.objs.size X.env).kindOf x=some .free:=by
     rcases Yc with q |q
     .
      exfalso;rw[ek]at q;cases hq:scope.names.lookup x with
      |none=>rw[hq]at q;cases q
      |some kk=>
       rw[hq]at q;cases kk with
       | «local»=>exact z2 hq
       |free=>simp only[CS,Option.some.injEq]at q;split at q <;> cases q
       |_=>simp at q
     . exact q
    have hm:=oz (cl:=cl) (C:=P2.objs.size) B hfree;obtain⟨c,hc1⟩:=K7 _ hm rfl;have Yd:cl.lookup x=some c:=hc1;have hc2:=(hcl x c Yd).1;obtain⟨m2,hn2,hl2⟩:=I2.loc;have hvis:uW X.env.scope x:=(B.free _ hm rfl).elim (λa=>.inr (.inl a)) λa=>.inr (.inr a)
    obtain⟨u,ru,lk⟩:=hl2 i x v z Ww hvis;refine⟨u,ru,.inr ⟨hfree,c,Yd,?_⟩⟩;rcases lk with ⟨q1,_⟩ |⟨_,c',q1,q2⟩
    .
     exfalso;have K9:X.env.scope.names.lookup x=some .local:=q1;rcases B.free _ hm rfl with y |y
     . have y':X.env.scope.names.lookup x=some .cell:=y;rw[K9]at y';cases y'
     . have y':X.env.scope.names.lookup x=some .free:=y;rw[K9]at y';cases y'
    . rw[hc2]at q1;cases q1;obtain⟨o,ho,hd⟩:=q2;exact⟨o,old _ _ ho,hd⟩
  . obtain⟨v,o,ho,hd⟩:=I2.cell x c (hcl x c e).1;exact⟨v,o,old _ _ ho,hd⟩
  . show upd H2 s₂⁻¹ u0 P2.objs.size=none;rw[az (nV hDC)];exact hC0
  . have q:=I2.dQ x c (hcl x c e).1;obtain⟨v,z⟩:=I2.cell x c (hcl x c e).1;rw[az (i7 z.lt)];exact q
  . exact absurd (show p∈([]: ~~~1)from hp) ⋯
  . exact ok0 _ _ _ (K8.extBut _ _ hDC (bP _ (hH2▸eM _ fr0))) nsys
  . show (σC k s₂⁻¹ Y).length=N'.length;unfold σC;rw[eJ,eJ,l6,hN.len,I2.len];rfl
 have stat:∀{H':Hp},(∀b∈fp,H' b=none)->∀b∈fp,jV (X.block N' scope cl P2.objs.size s₂ H2 fp) [] H' b:=λhn b hb=>
  ⟨hn b hb,(ok'.Wt b hb).1,fsub b hb,.inl hb,λx c e=>(ok'.Wt b hb).2 x c e,λp hp=>absurd (show p∈([]: ~~~1)from hp) ⋯⟩
 have loop:∀s₃:Shared,s₃={ s₂ with heap:=h₁,toks:=s₂.toks+([]:List (Str×Value)).length}->
   codeAny (~~~2) X.A (.compLoop ce 0 (.ref it) (.ref s₂⁻¹) (compEnvC scope cl P2.objs.size X.env))
    (compPost (~~~2) X.A X.xe use Q (.ref s₂⁻¹) P2.objs.size) s₃:=by
  rintro s₃ rfl;refine j5 ck.und (ck.turn _ _ _) (λn s'=>∃i σ' H',Inv (X.block N' scope cl P2.objs.size s₂ H2 fp) [] σ' H' s'/\tn i s'.heap/\(∀b∈fp,H' b=none)/\W i n σ' H') ?_ m0
   ⟨0,_,_,I0,T.keep _ _ _ aK λb hb o e=>old b o e,λb hb=>?_,w0⟩
  .
   rintro n s3 ⟨i,σ3,H3,I3,eE,P7,w3⟩;rcases turn i n σ3 H3 w3 with ⟨stop,qn⟩ |⟨go,Nn,hNn,step⟩
   .
    refine bK (T.done (X.block N' scope cl P2.objs.size s₂ H2 fp) rfl rfl rfl hc i [] s3 σ3 H3 (λ_ _=>False) I3 (stat P7) eE stop) λr s4 ⟨hr,I4⟩=>?_
    subst hr;obtain⟨m,hm,_⟩:=id I4.loc;have I5:Inv X ah Y H3 s4:=I2.call' (ch:=fp) I4.os I4.base I4.hok I4.bare λb hb=>⟨(f2 b hb).2.2.2.1,(f2 b hb).2.1,(f2 b hb).2.2.2.2.1,(f2 b hb).2.2.2.2.2⟩
    exact fin s4 H3 _ _ m I5 (I2.BP RJ I4.free) hm qn
   .
    refine bK (T.item (X.block N' scope cl P2.objs.size s₂ H2 fp) rfl rfl rfl hc i [] s3 σ3 H3 (λ_ _=>False) I3 (stat P7) eE go) λr s4 ⟨u,hr,h4⟩=>?_
    subst hr;refine bK h4 λ_ s5 ⟨x,H5,I5,r5,y5,jW,Xx⟩=>?_
    have Xy:=I5.pinned (stat Xx) (T.obj _ _ jW);have again:∀{σ7:St}{H7:Hp}{s7:Shared},Inv (X.block N' scope cl P2.objs.size s₂ H2 fp) ([]++lg fp s5.heap) σ7 H7 s7->Nn σ7 H7->∃m,m<n/\∃i σ' H',Inv (X.block N' scope cl P2.objs.size s₂ H2 fp) [] σ' H' s7/\tn i s7.heap/\(∀b∈fp,H' b=none)/\W i m σ' H':=λ{σ7 H7 s7} I7 n7=>by
     obtain⟨m',hm,w7⟩:=hNn σ7 H7 n7;refine⟨m',hm,i+1,σ7,H7,I7.iE,T.keep _ _ _ jW λb hb o e=>(I7.pin (b,o) (i5 _ (i5 _ (dB hb e)))).1,λb hb=>?_,w7⟩
     obtain⟨o,e,d⟩:=T.obj _ _ jW b hb;exact (I7.pin (b,o) (i5 _ (i5 _ (dB hb e)))).2.1
    refine bK (hg _ s5 σ3 H5 x u _ Xy r5 (step x H5 y5 ⟨cl,P2.objs.size,s₂,H2,fp⟩ ⟨ah,I2,f2⟩)) λ_ s6 ⟨σ6,H6,I6,q6⟩=>?_
    refine bK (ht _ s6 σ6 H6 _ I6 q6) λb s7 ⟨H7,I7,q7⟩=>?_
    cases b with
    |false=>
     rw[hU kS]at q7 ⊢
     exact again I7 q7
    |true=>
     rw[gL rfl]at q7 ⊢
     exact lL (he _ s7 σ6 H7 _ I7 q7) (λ_ s9 ⟨σ9,H9,I9,q9⟩=>again I9 q9) λ_ _ z=>z
  . show upd H2 s₂⁻¹ u0 b=none;rw[az (i7 (fps b hb))];exact (f2 b hb).1
 refine ck.start (loop _ rfl) (T.self _ 0 _ _ _ ?_ (loop _ rfl));exact T.keep _ _ _ aK λb hb o e=>old b o e
theorem La{N':List Str}{k:Nat}{wi:TI}{g:Bk->TG}{tt:Bk->TT}{te:Bk->TE}(B:bu X.env.scope scope)(hc:X.calm=true)(hN:Names X.N N' scope k)(hi:PI X tg iter wi)
  (hin:∀b:Bk,PG (X.blk N' scope b) tg (g b)/\j4 (X.blk N' scope b) ifs (tt b)/\PE (X.blk N' scope b) cC (te b))
  (hs:∀x,foldedSetIterable iter X.env x=pure x:=by intro _;rfl):PE X (.ListComp cC [⟨tg,iter,ifs,0⟩] scope pos) (rA X k wi g tt λD b=>tH D (te b)):=by
 intro ah s Y H Q I h;rw[eval_ListComp];refine fS (use:=none) B hc hN hi (nu (rest:=[]) (em:=λacc env=>do let _ <- call (.builtin "list.append") [acc,<- eval cC env]) λ_ _ _=>rfl) (λb D=>⟨(hin b).1,(hin b).2.1,yq (hin b).2.2 rfl⟩) hs I h λs' H' D C m I' f' hn q=>?_
 refine⟨m,hn,λh' sb=>⟨.ref D,H',?_,rfl,q⟩⟩
 obtain⟨f0,f1,f2,f3,f4,f5⟩:=f';exact I'.turned (t':=s'.toks) (λb o hb e=>(sb.2 b hb).trans e) f0 f1 f3 f4 f5
theorem Lb{N':List Str}{k:Nat}{wi:TI}{g:Bk->TG}{tt:Bk->TT}{te:Bk->TE}{i:Nat}{y:Str}{py dw:Pos}(B:bu X.env.scope scope)(hc:X.calm=true)(hN:Names X.N N' scope k)(hi:PI X tg iter wi)
  (hin:∀b:Bk,PG (X.blk N' scope b) tg (g b)/\j4 (X.blk N' scope b) ifs (tt b)/\PE (X.blk N' scope b) cC (te b))
  (Lc:X.N.Nodup) (hy:X.N[i]?=some y) (hl:X.env.scope.names.lookup y=some .local)
  (hsw:swapsWith (.ListComp cC [⟨tg,iter,ifs,0⟩] scope pos) (some (.Name y py)) dw.line X.env=pure true)
  (hs:∀x,foldedSetIterable iter X.env x=pure x:=by intro _;rfl):PS X (.Assign [.Name y py] (.ListComp cC [⟨tg,iter,ifs,0⟩] scope pos) dw) (Kz (rA X k wi g tt λD b=>tH D (te b)) (zP i)):=by
 intro ah s Y H D0 I h;rw[exec_Assign_Name_used _ _ _ _ hsw];refine aS (xI (aS ?_));show wpAny _ X.A (do let _ <- comprehension (.ListComp cC [⟨tg,iter,ifs,0⟩] scope pos) scope X.env _ (newList []) false (eval iter X.env) (some (assign (.Name y py) X.env))) _ _ s
 refine aS (lL (fS (use:=some (assign (.Name y py) X.env)) (Q:=λ_ s'=>SP X ah D0 .next s') B hc hN hi (nu (rest:=[]) (em:=λacc env=>do let _ <- call (.builtin "list.append") [acc,<- eval cC env]) λ_ _ _=>rfl) (λb D=>⟨(hin b).1,(hin b).2.1,yq (hin b).2.2 rfl⟩) hs I h λs' H' D C m I' f' hn q=>?_) (λ_ s' hq=>dS (dS hq)) λ_ _ e=>e)
 refine wpAny_assign_Name (kY I' Lc hy (.inl hl) (v:=.ref D) rfl (λs2 I2 hsb=>?_) (.inr hl))
 obtain⟨f0,f1,f2,f3,f4,f5⟩:=f';obtain⟨a,sb,ha⟩:=hsb;have nC:C≠a:=by
  rcases ha with e |e
  . rw[e];exact f1
  . exact nV (f4 _ _ e)
 refine⟨m,hn.sameBut sb nC,λh' sb'=>⟨_,H',?_,q⟩⟩
 exact I2.turned (t':=s2.toks) (λb o hb e=>(sb'.2 b hb).trans e) f0 f1 f3 f4 f5
end
section
theorem jy
  (h0:codeAny (model prog w) A (.compLoop (.ListComp cC [⟨t1,i1,f1,0⟩,⟨target,iter,ifs,0⟩] scope pos) 1 it acc env) R s)
  (h:wpAny (model prog w) A (pyIter it) (λit' s'=>codeAny (model prog w) A (.compLoop (.ListComp cC [⟨t1,i1,f1,0⟩,⟨target,iter,ifs,0⟩] scope pos) 1 it' acc env) R s') (λ_ _=>False) s) :
  codeAny (model prog w) A (.compStart (.ListComp cC [⟨t1,i1,f1,0⟩,⟨target,iter,ifs,0⟩] scope pos) 1 it acc env) R s:=by
 refine codeAny_of_tree ?_;show wpAny _ _ ((compStart (.ListComp cC [⟨t1,i1,f1,0⟩,⟨target,iter,ifs,0⟩] scope pos) 1 it acc env).onRaise (λx=>do noteFrame x env;standAt theWindowsPlace)) _ _ s
 refine wpAny_notedAt ?_;unfold compStart;show wpAny _ _ (ask >>= _) _ _ s;refine aS (wpAny_askSetting (wpAny_ite ?_));split
 .
  first
   |exact aS (dS (dS (And.intro rfl h0)))
   |exact dS (And.intro rfl h0)
 .
  first
   |exact aS (CI (aS (xI (aS (lL h (λit' s' h'=>dS (And.intro rfl h')) λ_ _ x=>x.elim)))))
   | (refine aS (CI ?_);show wpAny _ _ (standAt iter.pos >>= _) _ _ s;exact aS (xI (aS (lL h (λit' s' h'=>dS (And.intro rfl h')) λ_ _ x=>x.elim))))
end
noncomputable def Cj(cC t1 i1 tg iter:Expr)(f1 ifs:List Expr)(scope:Scope)(pos:Pos)(acc:Value)(env:Env):Sem Unit:=do
 let x <- eval iter env
 standAt iter.pos
 let x <- foldedSetIterable iter env x
 let _ <- runOwn (.compStart (.ListComp cC [⟨t1,i1,f1,0⟩,⟨tg,iter,ifs,0⟩] scope pos) 1 (<- holding [x] (pyIter x)) acc env) env
noncomputable def Ye(wi:TI)(g:TG)(tt:TT)(tu:TU):TU:=λY H Q=>wi Y H λJ H1=>∃W:Nat->Nat->St->Hp->Prop,(∃m,W 0 m Y H1)/\∀i m σ' H',W i m σ' H'->
 (J.stop i H'/\Q σ' H')\/(J.go i H'/\∃Nn:St->Hp->Prop,(∀K5 K6,Nn K5 K6->∃m',m'<m/\W (i+1) m' K5 K6)/\∀x H2,J.Xs i H' x H2->g x σ' H2 λσ2 H3=>tt σ2 H3 λb H4=>if b=true then tu σ2 H4 Nn else Nn σ2 H4)
theorem Qc(hc:X.calm=true)(hx:X.xe=λ_ _=>False)(hi:PI X tg iter wi)(hg:PG X tg g)(ht:j4 X ifs tt)(he:PE X cC te)(hs:∀x,foldedSetIterable iter X.env x=pure x) :
  PU X (Cj cC t1 i1 tg iter f1 ifs scope pos (.ref D) X.env) (Ye wi g tt (tH D te)):=by
 intro ah s Y H Q I h;have hi:=hi ah s Y H _ I h;rw[hx]at hi;unfold Cj;refine aS (lL hi (λv s1 h1=>?_) λ_ _ z=>z)
 refine aS (xI ?_);rw[hs v];refine aS (dS ?_);refine aS (l7 (lL h1 (λitv s2 h2=>?_) λ_ _ z=>z))
 obtain⟨it,fp,tn,J,H2,rfl,I2,T,aK,f2,W,⟨m0,w0⟩,turn⟩:=h2;have stat:∀{H':Hp},(∀b∈fp,H' b=none)->∀b∈fp,jV X ah H' b:=λhn b hb=>⟨hn b hb,(f2 b hb).2⟩
 have loop:codeAny (~~~2) X.A (.compLoop (.ListComp cC [⟨t1,i1,f1,0⟩,⟨tg,iter,ifs,0⟩] scope pos) 1 (.ref it) (.ref D) X.env) (λr s'=>match r with |.ok f=>∃σ' H',Inv X ah σ' H' s'/\Q σ' H' |.error e=>False) s2:=by
  refine j5 (λ_ _ _ _ _ _ _=>⟨rfl,rfl⟩) (target:=tg) (iter:=iter) (ifs:=ifs) (em:=do let _ <- call (.builtin "list.append") [.ref D,<- eval cC X.env]) rfl (λn s'=>∃i σ' H',Inv X ah σ' H' s'/\tn i s'.heap/\(∀b∈fp,H' b=none)/\W i n σ' H') ?_ m0 ⟨0,Y,H2,I2,aK,λb hb=>(f2 b hb).1,w0⟩
  rintro n s3 ⟨i,σ3,H3,I3,eE,P7,w3⟩;rcases turn i n σ3 H3 w3 with ⟨stop,qn⟩ |⟨go,Nn,hN,step⟩
  .
   refine bK (T.done X rfl rfl rfl hc i ah s3 σ3 H3 (λ_ _=>False) I3 (stat P7) eE stop) λr s4 ⟨hr,I4⟩=>?_
   subst hr;exact⟨σ3,H3,I4,qn⟩
  .
   refine bK (T.item X rfl rfl rfl hc i ah s3 σ3 H3 (λ_ _=>False) I3 (stat P7) eE go) λr s4 ⟨u,hr,h4⟩=>?_
   subst hr;refine bK h4 λ_ s5 ⟨x,H5,I5,r5,y5,jW,Xx⟩=>?_
   have Xy:=I5.pinned (stat Xx) (T.obj _ _ jW);have again:∀{σ7:St}{H7:Hp}{s7:Shared},Inv X (ah++lg fp s5.heap) σ7 H7 s7->Nn σ7 H7->∃m,m<n/\∃i σ' H',Inv X ah σ' H' s7/\tn i s7.heap/\(∀b∈fp,H' b=none)/\W i m σ' H':=λ{σ7 H7 s7} I7 n7=>by
    obtain⟨m',hm,w7⟩:=hN σ7 H7 n7;refine⟨m',hm,i+1,σ7,H7,I7.iE,T.keep _ _ _ jW λb hb o e=>(I7.pin (b,o) (i5 _ (i5 _ (dB hb e)))).1,λb hb=>?_,w7⟩
    obtain⟨o,e,d⟩:=T.obj _ _ jW b hb;exact (I7.pin (b,o) (i5 _ (i5 _ (dB hb e)))).2.1
   have hg:=hg _ s5 σ3 H5 x u _ Xy r5 (step x H5 y5);rw[hx]at hg;refine bK hg λ_ s6 ⟨σ6,H6,I6,q6⟩=>?_
   have ht:=ht _ s6 σ6 H6 _ I6 q6;rw[hx]at ht;refine bK ht λb s7 ⟨H7,I7,q7⟩=>?_
   cases b with
   |false=>
    rw[hU kS]at q7 ⊢
    exact again I7 q7
   |true=>
    rw[gL rfl]at q7 ⊢
    exact lL (yq he hx _ s7 σ6 H7 _ I7 q7) (λ_ s9 ⟨σ9,H9,I9,q9⟩=>again I9 q9) λ_ _ z=>z
 have start:=jy loop (T.self _ 0 _ _ _ aK loop);refine aS (wpAny_runOwn (Bi start λr s' hr=>?_))
 cases r with
 |error e=>exact hr.elim
 |ok f=>exact dS hr
theorem vD:compTurn (.ListComp cC [⟨t1,i1,f1,0⟩,⟨tg,iter,ifs,0⟩] scope pos) 0 it acc env=tG (.ListComp cC [⟨t1,i1,f1,0⟩,⟨tg,iter,ifs,0⟩] scope pos) t1 i1 f1 0 it acc env (Cj cC t1 i1 tg iter f1 ifs scope pos acc env):=by
 show (standAt i1.pos >>= λ_=>pyNext it >>= λr=>_)=(standAt i1.pos >>= λ_=>pyNext it >>= λr=>_)
 congr 1;funext _;congr 1;funext r
 cases r with
 |none=>rfl
 |some v=>
  show (letOwnedTupleGo t1 it v >>= λ_=>assign t1 env v >>= λ_=>_ >>= λok=>_)=(letOwnedTupleGo t1 it v >>= λ_=>assign t1 env v >>= λ_=>_ >>= λok=>_)
  congr 1;funext _;congr 1;funext _;congr 1;funext ok
  cases ok with
  |false=>rfl
  |true=>unfold Cj;simp only[bind_assoc,An];rfl
section
theorem Gi{N':List Str}{k:Nat}{w1:TI}{w2:Bk->TI}{g1 g2:Bk->TG}{Yg Yh:Bk->TT}{te:Bk->TE}(B:bu X.env.scope scope)(hc:X.calm=true)(hN:Names X.N N' scope k)(hi:PI X t1 i1 w1)
  (hin:∀b:Bk,(PG (X.blk N' scope b) t1 (g1 b)/\j4 (X.blk N' scope b) f1 (Yg b))/\PI (X.blk N' scope b) tg iter (w2 b)/\PG (X.blk N' scope b) tg (g2 b)/\j4 (X.blk N' scope b) ifs (Yh b)/\PE (X.blk N' scope b) cC (te b))
  (hs:∀x,foldedSetIterable i1 X.env x=pure x) (hs2:∀(b:Bk) x,foldedSetIterable iter (X.blk N' scope b).env x=pure x) :
  PE X (.ListComp cC [⟨t1,i1,f1,0⟩,⟨tg,iter,ifs,0⟩] scope pos) (rA X k w1 g1 Yg λD b=>Ye (w2 b) (g2 b) (Yh b) (tH D (te b))):=by
 intro ah s Y H Q I h;rw[eval_ListComp];refine fS (use:=none) B hc hN hi (nu (rest:=[⟨tg,iter,ifs,0⟩]) (em:=λacc env=>Cj cC t1 i1 tg iter f1 ifs scope pos acc env) λ_ _ _=>vD) (λb D=>⟨(hin b).1.1,(hin b).1.2,Qc hc rfl (hin b).2.1 (hin b).2.2.1 (hin b).2.2.2.1 (hin b).2.2.2.2 (hs2 b)⟩) hs I h λs' H' D C m I' f' hn q=>?_
 refine⟨m,hn,λh' sb=>⟨.ref D,H',?_,rfl,q⟩⟩
 obtain⟨f0,f1,f2,f3,f4,f5⟩:=f';exact I'.turned (t':=s'.toks) (λb o hb e=>(sb.2 b hb).trans e) f0 f1 f3 f4 f5
theorem Gj{N':List Str}{k:Nat}{w1:TI}{w2:Bk->TI}{g1 g2:Bk->TG}{Yg Yh:Bk->TT}{te:Bk->TE}{i:Nat}{y:Str}{py dw:Pos}(B:bu X.env.scope scope)(hc:X.calm=true)(hN:Names X.N N' scope k)(hi:PI X t1 i1 w1)
  (hin:∀b:Bk,(PG (X.blk N' scope b) t1 (g1 b)/\j4 (X.blk N' scope b) f1 (Yg b))/\PI (X.blk N' scope b) tg iter (w2 b)/\PG (X.blk N' scope b) tg (g2 b)/\j4 (X.blk N' scope b) ifs (Yh b)/\PE (X.blk N' scope b) cC (te b))
  (Lc:X.N.Nodup) (hy:X.N[i]?=some y) (hl:X.env.scope.names.lookup y=some .local)
  (hsw:swapsWith (.ListComp cC [⟨t1,i1,f1,0⟩,⟨tg,iter,ifs,0⟩] scope pos) (some (.Name y py)) dw.line X.env=pure true)
  (hs:∀x,foldedSetIterable i1 X.env x=pure x) (hs2:∀(b:Bk) x,foldedSetIterable iter (X.blk N' scope b).env x=pure x) :
  PS X (.Assign [.Name y py] (.ListComp cC [⟨t1,i1,f1,0⟩,⟨tg,iter,ifs,0⟩] scope pos) dw) (Kz (rA X k w1 g1 Yg λD b=>Ye (w2 b) (g2 b) (Yh b) (tH D (te b))) (zP i)):=by
 intro ah s Y H D0 I h;rw[exec_Assign_Name_used _ _ _ _ hsw];refine aS (xI (aS ?_));show wpAny _ X.A (do let _ <- comprehension (.ListComp cC [⟨t1,i1,f1,0⟩,⟨tg,iter,ifs,0⟩] scope pos) scope X.env _ (newList []) false (eval i1 X.env) (some (assign (.Name y py) X.env))) _ _ s
 refine aS (lL (fS (use:=some (assign (.Name y py) X.env)) (Q:=λ_ s'=>SP X ah D0 .next s') B hc hN hi (nu (rest:=[⟨tg,iter,ifs,0⟩]) (em:=λacc env=>Cj cC t1 i1 tg iter f1 ifs scope pos acc env) λ_ _ _=>vD) (λb D=>⟨(hin b).1.1,(hin b).1.2,Qc hc rfl (hin b).2.1 (hin b).2.2.1 (hin b).2.2.2.1 (hin b).2.2.2.2 (hs2 b)⟩) hs I h λs' H' D C m I' f' hn q=>?_) (λ_ s' hq=>dS (dS hq)) λ_ _ e=>e)
 refine wpAny_assign_Name (kY I' Lc hy (.inl hl) (v:=.ref D) rfl (λs2 I2 hsb=>?_) (.inr hl))
 obtain⟨f0,f1,f2,f3,f4,f5⟩:=f';obtain⟨a,sb,ha⟩:=hsb;have nC:C≠a:=by
  rcases ha with e |e
  . rw[e];exact f1
  . exact nV (f4 _ _ e)
 refine⟨m,hn.sameBut sb nC,λh' sb'=>⟨_,H',?_,q⟩⟩
 exact I2.turned (t':=s2.toks) (λb o hb e=>(sb'.2 b hb).trans e) f0 f1 f3 f4 f5
end
section
variable{X:Cx}{ah: ~~~1}{Y:St}{H:Hp}{s:Shared}
abbrev tKd (X:Cx):=tupleKind (gI X.prog X.w)
theorem lz:∀{ks:List Key}{its:List Value},Vals (ks.map kV) its->PySem.ItemsAre (gI X.prog X.w) ks its
 | [],_,.nil=>.nil
 |.inl i::ks,_,.cons h r=>by obtain⟨t,rfl⟩:=h;exact .cons (vh _ _ _ _) (lz r)
 |.inr x::ks,_,.cons h r=>by obtain⟨t,rfl⟩:=h;exact .cons (vj _ _ _ _) (lz r)
theorem Inv.yr{a:Addr}{ks:List Key}(I: ~~~7)(h:fP X.K H a (ks.map kV)):(tKd X).is s.heap ks a:=by obtain⟨its,r,⟨o,e,c,n,d⟩,_⟩:=I.tuple h;exact⟨o,its.toArray,n,e,c,d,by simpa using lz r⟩
theorem jz{α β:Type}{F:α->β->Prop}:∀{l:List α}{m:List β},Paired F l m->∀b∈m,∃a∈l,F a b
 |_,_,.cons h r,b,hb=>(eA.mp hb).elim (λe=>⟨_,dC,e▸h⟩) λe=>let ⟨a,h1,h2⟩:=jz r b e;⟨a,dA _ h1,h2⟩
noncomputable def atK{α:Type}(l:List (List Key×α))(ks:List Key):Option α:=(l.find? λp=>decide (p.1=ks)).map (·.2)
theorem mz{F:List Key×V->List Key×Addr×Value->Prop}(hF:∀p q,F p q->p.1=q.1/\RelV p.2 q.2.2){ks:List Key}{v:V}:∀{l:List (List Key×V)}{m:List (List Key×Addr×Value)},Paired F l m->atK l ks=some v->∃p,atKey m ks=some p/\RelV v p.2
 | (k,x)::l,(k',a,u)::m,.cons h r,e=>by
  obtain⟨e1,e2⟩:=hF _ _ h;have e1:k=k':=e1;subst e1;unfold atK at e;unfold atKey;rw[List.find?_cons]at e ⊢
  by_cases hk:k=ks
  .
   rw[show decide (k=ks)=true from sK hk]at e ⊢
   cases e;exact⟨(a,u),rfl,e2⟩
  .
   rw[show decide (k=ks)=false from sB hk]at e ⊢
   exact mz hF r e
theorem Inv.Qd{d:Addr}{dN:List (List Key×V)}(I: ~~~7)(h:H d=some (.dT dN)):∃xs,s.heap.DictOfH (tKd X) d xs/\Paired (λ(p:List Key×V) (q:List Key×Addr×Value)=>p.1=q.1/\H q.2.1=some (.tup (p.1.map kV))/\RelV p.2 q.2.2) dN xs/\dN.length<=sizeLine/\(d==sysModules)=false:=by
 obtain⟨hz,hs,xs,pr,o,es,ep,e1,e2,e3,e4,e5⟩:=(show cM X.prog X.w H s.heap d (.dT dN)from I.hok d _ h);refine⟨xs,⟨o,es,ep,e1,e2,e3,e4,λx hx=>?_,e5⟩,pr,hz,hs⟩
 obtain⟨p,_,q1,q2,_⟩:=jz pr x hx;rw[<- q1];exact I.yr (.inl (.inl q2))
def rIxD(K:Frag):R2:=λx y H Q=>∃p a dN ks v,x=.ref p/\y=.ref a/\H p=some (.dT dN)/\fP K H a (ks.map kV)/\atK dN ks=some v/\Q v H
theorem Ld(hu:X.A.units+1<cLine):X5 X (rIxD X.K):=by
 intro value slice ah s Y H x y v u Q I rx ry h hs;obtain⟨p,a,dN,ks,z,rfl,rfl,hp,ha,he,q⟩:=h;cases rx;cases ry;obtain⟨xs,dh,pr,hz,hy⟩:=I.Qd hp;obtain⟨w,w1,w2⟩:=mz (λ_ _ h=>⟨h.1,h.2.2⟩) pr he
 have fin:EP X ah Y Q w.2 { s with toks:=s.toks+(tKd X).draws ks}:=⟨z,H,I.tok _,w2,q⟩;exact subscriptTail_builtinR (x:=w.2) dh.typeIs slot_dict_getitem.lookup (wpAny_getItem_heap (Q:=λr s'=>r=w.2/\EP X ah Y Q r s') (tupleKind_room_in1 hu) (I.yr ha) dh w1 ⟨rfl,fin⟩) hs
def RK(D:Addr)(tk tv:TE):TU:=λY H Q=>tk Y H λk H4=>tv Y H4 λv H5=>∃(dN:List (List Key×V)) (a:Addr) (ks:List Key),k=.ref a/\H5 D=some (.dT dN)/\H5 a=some (.tup (ks.map kV))/\ks∉dN.map (·.1)/\dN.length<sizeLine/\Q Y (upd H5 D (.dT (dN++[(ks,v)])))
noncomputable abbrev Qe (kx vx:Expr) (acc:Value) (env:Env):Sem Unit:=do
 let kv <- eval kx env
 let vv <- holding [kv] (eval vx env)
 standAt { kx.pos with endLine:=vx.pos.endLine,endCol:=vx.pos.endCol}
 match acc with
 |.ref D=>holding [kv,vv] (dictSet D kv vv)
 |_=>pure ()
theorem RL{D:Addr}{kx vx:Expr}{tk tv:TE}(hu:X.A.units<cLine)(hk:PE X kx tk)(hv:PE X vx tv)(hx:X.xe=λ_ _=>False):PU X (Qe kx vx (.ref D) X.env) (RK D tk tv):=by
 intro ah s Y H Q I h;have hk:=hk ah s Y H _ I h;rw[hx]at hk;refine aS (lL hk (λkv s4 ⟨k,H4,I4,r4,q4⟩=>?_) λ_ _ z=>z)
 have hv:=hv ah s4 Y H4 _ I4 q4;rw[hx]at hv;refine aS (l7 (lL hv (λvv s5 ⟨v,H5,I5,r5,dN,a,ks,e0,hD,ha,hn,hz,q⟩=>?_) λ_ _ z=>z))
 subst e0;cases r4;refine aS (xI (l7 ?_));obtain⟨xs,dh,pr,_,hy⟩:=I5.Qd hD;have aJ:dN.length=xs.length:=Paired.length pr;have hno:atKey xs ks=none:=by
  cases e:atKey xs ks with
  |none=>rfl
  |some p=>exfalso;obtain⟨x,x1,x2⟩:=BQ.mp e;obtain⟨y,y1,y2,_⟩:=jz pr x (List.mem_of_find?_eq_some x1);have x3:=List.find?_some x1;exact hn (gN.mpr ⟨y,y1,y2.trans (mB x3)⟩)
 refine wpAny_dictSet_heap (knd:=tKd X) (show X.A.units<cLine from hu) (I5.yr (.inl (.inl ha))) dh (λh' m' sb=>?_) ⋯
 rw[storedH_new hno]at m';obtain⟨o,es,ep,f1,f2,f3,f4,f5,f6⟩:=m';have ne:∀{b:Addr}{ys:List V},H5 b=some (.tup ys)->b≠D:=λe z=>by rw[z,hD]at e;cases e
 refine⟨Y,_,I5.write (o:=.dT (dN++[(ks,v)])) (by rw[hD];trivial) (.inl rfl) (λb u hb e=>(sb.2 b hb).trans e) ⟨o,f1⟩ ?_,q⟩
 refine⟨by rw[eJ];exact hz,hy,xs++[(ks,a,vv)],?_,o,es,ep,f1,f2,f3,f4,f6⟩
 refine Paired.snoc (Paired.QL pr λp q ⟨g1,g2,g3⟩=>⟨g1,by rw[az (ne g2)];exact g2,g3⟩) ⟨rfl,by rw[az (ne ha)];exact ha,r5⟩
end
section
variable{X:Cx}{tg iter kx vx:Expr}{ifs:List Expr}{scope:Scope}{pos:Pos}
theorem Le:Ck X (.DictComp kx vx [⟨tg,iter,ifs,0⟩] scope pos) tg iter ifs [] newDict (.dT []) (Qe kx vx) where
 cls:=rfl
 und:=λ_ _ _ _ _ _ _=>⟨rfl,rfl⟩
 turn:=λit D env=>compTurn_dict kx vx tg iter ifs scope pos it D env
 new:=⟨_,rfl,λh=>l9 h,λ_ _ _ e y=>⟨u7 _,y,[],.nil,_,#[],0,e,⟨rfl,rfl,rfl⟩,rfl,rfl,t7⟩⟩
 start:=codeAny_compStart_dict
theorem Gk{N':List Str}{k:Nat}{wi:TI}{g:Bk->TG}{tt:Bk->TT}{tk tv:Bk->TE}(B:bu X.env.scope scope)(hc:X.calm=true)(hu:X.A.units<cLine)(hN:Names X.N N' scope k)(hi:PI X tg iter wi)
  (hin:∀b:Bk,PG (X.blk N' scope b) tg (g b)/\j4 (X.blk N' scope b) ifs (tt b)/\PE (X.blk N' scope b) kx (tk b)/\PE (X.blk N' scope b) vx (tv b))
  (hs:∀x,foldedSetIterable iter X.env x=pure x:=by intro _;rfl):PE X (.DictComp kx vx [⟨tg,iter,ifs,0⟩] scope pos) (tK (.dT []) X k wi g tt λD b=>RK D (tk b) (tv b)):=by
 intro ah s Y H Q I h;rw[arm_eval_DictComp];refine fS (use:=none) B hc hN hi Le (λb D=>⟨(hin b).1,(hin b).2.1,RL hu (hin b).2.2.1 (hin b).2.2.2 rfl⟩) hs I h λs' H' D C m I' f' hn q=>?_
 refine⟨m,hn,λh' sb=>⟨.ref D,H',?_,rfl,q⟩⟩
 obtain⟨f0,f1,f2,f3,f4,f5⟩:=f';exact I'.turned (t':=s'.toks) (λb o hb e=>(sb.2 b hb).trans e) f0 f1 f3 f4 f5
end
end L2
namespace Ev
open L2
inductive D where
 |non |bl (b:Bool) |int (i:Int) |str (x:Str) |tup (l:List D) |lst (l:List D) |fix (l:List D) |emp |mC (C:Addr) |tL (ks: ~~~5) (ds:List D)
 deriving Inhabited
inductive Slot where
 |no |dat (d:D) |own (l:List D)
 deriving Inhabited
inductive R where
 |dat (d:D) |new (l:List D) |var (i:Nat)
 deriving Inhabited
abbrev G:=List Slot
abbrev Sg:=L2.St
abbrev K0:Hp:=λ_=>none
def LstAt(M:List Addr)(H:Hp)(a:Addr)(xs:List V):Prop:=a∉M/\H a=some (.lst xs)
def oA(K:Frag)(M:List Addr)(H:Hp)(a:Addr)(xs:List V):Prop:=(a∉M/\∃o,H a=some (.iU o (.lst xs)))\/cz K K0 a xs
def TupAt(K:Frag)(M:List Addr)(H:Hp)(a:Addr)(xs:List V):Prop:=(a∉M/\Rd H a (.tup xs))\/(fP K K0 a xs/\∃o,K.lookup a=some o/\o.dict=none)
theorem rd0(h:Rd K0 a u):False:=by rcases h with h |⟨o,h⟩ <;> symm
theorem oA.sq{K:Frag}{M:List Addr}{H:Hp}{a:Addr}{xs:List V}(h:oA K M H a xs):cz K H a xs:=by
 rcases h with ⟨_,o,h⟩ |h |h
 . exact .inl (.inr ⟨o,h⟩)
 . exact (rd0 h).elim
 . exact .inr h
theorem TupAt.sq{K:Frag}{M:List Addr}{H:Hp}{a:Addr}{xs:List V}(h:TupAt K M H a xs):fP K H a xs:=by
 rcases h with ⟨_,h⟩ |⟨h |h,_⟩
 . exact .inl h
 . exact (rd0 h).elim
 . exact .inr h
noncomputable abbrev yt(C a:Addr):HO:=.ext λh=>∃o,h.get? a=some o/\o.cls=.ref C/\PySem.W.notCls o=true/\o.dict=none
structure EY(K:Frag)(C:Addr):Prop where
 gga:PySem.W.findIn K (.ref C) "__getattribute__"=some (some (.builtin "BaseException.__getattribute__"))
 gat:PySem.W.findIn K (.ref C) "__getattr__"=some none
 bas:PySem.W.mroIn K C (.type "BaseException")=some true
 dct:PySem.W.hasDictIn K C=true
 cls:PySem.W.findIn K (.ref C) "__class__"=some (some (.builtin "object.__class__"))
 spc:PySem.W.specialIn K (.builtin "object.__class__") "__get__"=some (some (.builtin "getset_descriptor.__get__"))
 tks:PySem.W.takesIn K (.builtin "object.__class__")=some true
 mro:PySem.W.mroIn K C (.type "object")=some true
 kit:∀n∈["int", "bool", "str", "tuple", "list", "dict"],PySem.W.kitOne K (.ref C) (.type n)=some false
noncomputable abbrev Gm(ks: ~~~5)(vs:List V):HO:=.dT ((ks.map (List.map Sum.inl)).zip vs)
def Grw:HO->Prop
 |.lst _ |.dT _=>True
 |_=>False
mutual
inductive Rep(K:Frag)(M:List Addr)(H:Hp):D->V->Prop
 |non:Rep K M H .non .non
 |bl (b:Bool):Rep K M H (.bl b) (.bl b)
 |int (i:Int):Rep K M H (.int i) (.int i)
 |str (x:Str):Rep K M H (.str x) (.str x)
 |tup {l:List D}{a:Addr}{xs:List V}:TupAt K M H a xs->aH K M H l xs->Rep K M H (.tup l) (.ref a)
 |lst {l:List D}{a:Addr}{xs:List V}:LstAt M H a xs->aH K M H l xs->Rep K M H (.lst l) (.ref a)
 |fix {l:List D}{a:Addr}{xs:List V}:oA K M H a xs->aH K M H l xs->Rep K M H (.fix l) (.ref a)
 |emp:a∉M->H a=some (.dK [])->Rep K M H .emp (.ref a)
 |mC:EY K C->a∉M->H a=some (yt C a)->Rep K M H (.mC C) (.ref a)
 |tL {ks: ~~~5}{ds:List D}{a:Addr}{vs:List V}:a∉M->H a=some (Gm ks vs)->ks.length=vs.length->aH K M H ds vs->Rep K M H (.tL ks ds) (.ref a)
inductive aH(K:Frag)(M:List Addr)(H:Hp):List D->List V->Prop
 |nil:aH K M H [] []
 |cons {d:D}{ds:List D}{x:V}{xs:List V}:Rep K M H d x->aH K M H ds xs->aH K M H (d::ds) (x::xs)
end
def ao(M:List Addr)(H:Hp)(M':List Addr)(H':Hp):Prop:=∀b o,H b=some o->b∉M->H' b=some o/\b∉M'
theorem ao.rd(h:ao M H M' H')(n:a∉M)(r:Rd H a u):a∉M'/\Rd H' a u:=by
 rcases r with r |⟨o,r⟩
 . exact⟨(h _ _ r n).2,.inl (h _ _ r n).1⟩
 . exact⟨(h _ _ r n).2,.inr ⟨o,(h _ _ r n).1⟩⟩
theorem Rep.stay{K:Frag}{M M':List Addr}{H H':Hp}(h:ao M H M' H'){d:D}{v:V}(r:Rep K M H d v):Rep K M' H' d v:=by
 refine Rep.rec (motive_1:=λd v _=>Rep K M' H' d v) (motive_2:=λds vs _=>aH K M' H' ds vs) .non .bl .int .str (λt _ q=>?_) (λt _ q=>?_) (λt _ q=>?_) (λn r=>.emp (h _ _ r n).2 (h _ _ r n).1) (λx n r=>.mC x (h _ _ r n).2 (h _ _ r n).1) (λn r l _ q=>.tL (h _ _ r n).2 (h _ _ r n).1 l q) .nil (λ_ _ a b=>.cons a b) r
 .
  rcases t with t |t
  . exact .tup (.inl (h.rd t.1 t.2)) q
  . exact .tup (.inr t) q
 . exact .lst ⟨(h _ _ t.2 t.1).2,(h _ _ t.2 t.1).1⟩ q
 .
  rcases t with ⟨n,o,r⟩ |t
  . exact .fix (.inl ⟨(h _ _ r n).2,o,(h _ _ r n).1⟩) q
  . exact .fix (.inr t) q
theorem aH.stay{K:Frag}{M M':List Addr}{H H':Hp}(h:ao M H M' H'):∀{ds:List D}{vs:List V},aH K M H ds vs->aH K M' H' ds vs:=by
 intro ds
 induction ds with
 |nil=>intro vs q;cases q;exact .nil
 |cons d ds ih=>intro vs q;cases q with |cons a b=>exact .cons (a.stay h) (ih b)
theorem ao.refl(M:List Addr)(H:Hp):ao M H M H:=λ_ _ e n=>⟨e,n⟩
theorem ao.trans(a:ao M H M1 H1)(b:ao M1 H1 M2 H2):ao M H M2 H2:=λc o e n=>b c o (a c o e n).1 (a c o e n).2
theorem ao.less(h:∀m∈M',m∈M):ao M H M' H:=λ_ _ e n=>⟨e,λz=>n (h _ z)⟩
theorem ao.laid(hp:H p=none):ao M H M (upd H p o):=λb u e n=>⟨by rw[az (aI e hp)];exact e,n⟩
theorem ao.aY(hp:H p=none):ao M H (p::M) (upd H p o):=λb u e n=>
 ⟨by rw[az (aI e hp)];exact e,λz=>(eA.mp z).elim (λq=>aI e hp q) n⟩
theorem ao.write(hp:p∈M):ao M H M (upd H p o):=λb u e n=>⟨by rw[az (λq=>n (by rw[q];exact hp))];exact e,n⟩
theorem aH.length{K:Frag}{M:List Addr}{H:Hp}{ds:List D}{vs:List V}(r:aH K M H ds vs):ds.length=vs.length:=by
 induction ds generalizing vs with
 |nil=>cases r;rfl
 |cons d ds ih=>cases r with |cons a b=>exact congrArg (· + 1) (ih b)
theorem aH.append{K:Frag}{M:List Addr}{H:Hp}{ds es:List D}{vs ws:List V}(r:aH K M H ds vs)(s:aH K M H es ws):aH K M H (ds++es) (vs++ws):=by
 induction ds generalizing vs with
 |nil=>cases r;exact s
 |cons d ds ih=>cases r with |cons a b=>exact .cons a (ih b)
theorem aH.get{K:Frag}{M:List Addr}{H:Hp}{ds:List D}{vs:List V}{i:Nat}{d:D}(r:aH K M H ds vs)(e:ds[i]?=some d):∃v,vs[i]?=some v/\Rep K M H d v:=by
 induction ds generalizing vs i with
 |nil=>exact nomatch (show none=some d from e)
 |cons d' ds ih=>cases r with |cons a b=>cases i with
  |zero=>cases (show some d'=some d from e);exact⟨_,rfl,a⟩
  |succ i=>obtain⟨v,h⟩:=ih (i:=i) b e;exact⟨v,h⟩
theorem aH.set{K:Frag}{M:List Addr}{H:Hp}{d:D}{v:V}(r:Rep K M H d v){ds:List D}{vs:List V}(i:Nat)(q:aH K M H ds vs):aH K M H (ds.set i d) (vs.set i v):=by
 induction ds generalizing vs i with
 |nil=>cases q;exact .nil
 |cons d' ds ih=>cases q with |cons a b=>cases i with
  |zero=>exact .cons r b
  |succ i=>exact .cons a (ih i b)
theorem aH.take{K:Frag}{M:List Addr}{H:Hp}{ds:List D}{vs:List V}(n:Nat)(q:aH K M H ds vs):aH K M H (ds.take n) (vs.take n):=by
 induction ds generalizing vs n with
 |nil=>cases q;rw[List.take_nil,List.take_nil];exact .nil
 |cons d' ds ih=>cases q with |cons a b=>cases n with
  |zero=>exact .nil
  |succ n=>exact .cons a (ih n b)
theorem aH.drop{K:Frag}{M:List Addr}{H:Hp}{ds:List D}{vs:List V}(n:Nat)(q:aH K M H ds vs):aH K M H (ds.drop n) (vs.drop n):=by
 induction ds generalizing vs n with
 |nil=>cases q;rw[List.drop_nil,List.drop_nil];exact .nil
 |cons d' ds ih=>cases q with |cons a b=>cases n with
  |zero=>exact .cons a b
  |succ n=>exact ih n b
theorem aH.reverse{K:Frag}{M:List Addr}{H:Hp}{ds:List D}{vs:List V}(q:aH K M H ds vs):aH K M H ds.reverse vs.reverse:=by
 induction ds generalizing vs with
 |nil=>cases q;exact .nil
 |cons d ds ih=>cases q with |cons a b=>rw[B1,B1];exact (ih b).append (.cons a .nil)
inductive Slots(K:Frag)(M:List Addr)(H:Hp):G->Sg->List Addr->Prop
 |nil:Slots K M H [] [] []
 |no:Slots K M H g Y As->Slots K M H (.no::g) (v::Y) As
 |dat {g:G}{Y:Sg}{As:List Addr}{v:V}{d:D}:Rep K M H d v->Slots K M H g Y As->Slots K M H (.dat d::g) (some v::Y) As
 |own {g:G}{Y:Sg}{As:List Addr}{a:Addr}{xs:List V}{ds:List D}:H a=some (.lst xs)->aH K M H ds xs->Slots K M H g Y As->Slots K M H (.own ds::g) (some (.ref a)::Y) (a::As)
theorem Slots.stay{K:Frag}{M M':List Addr}{H H':Hp}(h:ao M H M' H'){g:G}{Y:Sg}{As:List Addr}(k:∀a∈As,∀o,H a=some o->H' a=some o)(q:Slots K M H g Y As):Slots K M' H' g Y As:=by
 induction q with
 |nil=>exact .nil
 |no q ih=>exact .no (ih k)
 |dat r q ih=>exact .dat (r.stay h) (ih k)
 |own e r q ih=>exact .own (k _ dC _ e) (r.stay h) (ih λa ha=>k a (dA _ ha))
noncomputable def cI(K:Frag):List (Addr×Str):=K.filterMap λp=>match p.2.data with
 |.fields vs=>(match vs.toList with
  |_::.str n _::_=>if (n==("law":Str))=true then (match vs.toList[11]? with
   |some (Value.ref q)=>if (K.lookup q).isNone=true then some (q,("law.<locals>.<lambda>":Str))else none
   |_=>none)else none
  |_=>none)
 |_=>none
theorem Cp{K:Frag}{p:Addr×Str}(h:p∈cI K):p.2 = "law.<locals>.<lambda>" :=by
 unfold cI at h;obtain⟨q,_,e⟩:=List.mem_filterMap.mp h;split at e
 .
  split at e
  .
   split at e
   .
    split at e
    .
     split at e
     . cases e;rfl
     . cases e
    . cases e
   . cases e
  . cases e
 . cases e
structure Z where
 K:Frag
 H0:Hp
 M0:List Addr
 lent:List (Nat×Addr)
 T:List (Addr×Str)
abbrev g9(q:Str)(c:Addr):HO:=.ext λh=>h.CodeRec (.ref c) q
def TabOk(H:Hp)(p:Addr×Str):Prop:=∃ps:Array Value,H p.1=some (.kW ps)/\TriplesOk ps.toList/\∀pos cv,codeAmong pos ps.toList=some cv->∃c,cv=.ref c/\H c=some (g9 p.2 c)
noncomputable abbrev Z.TA(z:Z):List Addr:=z.T.map (·.1)
theorem TabOk.keep{H H':Hp}{p:Addr×Str}(t:TabOk H p)(k:∀b o,H b=some o->¬ Grw o->H' b=some o):TabOk H' p:=by obtain⟨ps,h1,h2,h3⟩:=t;exact⟨ps,k _ _ h1 id,h2,λpos cv e=>let ⟨c,e1,e2⟩:=h3 pos cv e;⟨c,e1,k _ _ e2 id⟩⟩
noncomputable abbrev Z.B(z:Z):List Addr:=z.lent.map (·.2)
noncomputable abbrev Z.bor(z:Z):List Nat:=z.lent.map (·.1)
structure S(z:Z)(g:G)(Y:Sg)(As M:List Addr)(H:Hp):Prop where
 sl:Slots z.K M H g Y As
 nd:As.Nodup
 sub:∀a∈As,a∈M
 own:∀(i:Nat) (a:Addr) (l:List D),g[i]?=some (.own l)->Y[i]?=some (some (.ref a))->(i∈z.bor/\a∈z.B)\/z.H0 a=none
 live:∀m∈M,(∃o,H m=some o/\Grw o)\/m∈z.TA
 keep:∀b o,z.H0 b=some o->b∉z.B->b∉z.TA->H b=some o
 iG:∀m∈z.M0,m∈M
 m0:∀m∈z.M0,z.H0 m≠none
 bm:∀b∈z.B,b∈z.M0
 jj:∀p∈z.lent,Y[p.1]?=some (some (.ref p.2))/\∃l,g[p.1]?=some (.own l)
 tab:∀p∈z.T,TabOk H p
 tm:∀p∈z.T,p.1∈z.M0
 tt:z.T=cI z.K
section
variable{g:G}
theorem S.fresh(s:S z g Y As M H)(hp:H p=none):p∉M:=λhm=>by
 rcases s.live p hm with ⟨o,e,_⟩ |e
 . rw[hp]at e;cases e
 . obtain⟨q,hq,rfl⟩:=gN.mp e;obtain⟨ps,h1,_⟩:=s.tab q hq;rw[hp]at h1;cases h1
theorem S.Qf(s:S z g Y As M H)(hp:H p=some (.lst xs)):p∉z.TA:=λe=>by
 obtain⟨q,hq,rfl⟩:=gN.mp e;obtain⟨ps,h1,_⟩:=s.tab q hq;rw[hp]at h1;cases h1
theorem S.cS(s:S z g Y As M H)(hp:H p=none):z.H0 p=none:=by
 cases e:z.H0 p with
 |none=>rfl
 |some o=>
  by_cases hb:p∈z.B
  . exact absurd (s.iG _ (s.bm _ hb)) (s.fresh hp)
  .
   by_cases ht:p∈z.TA
   . obtain⟨q,hq,rfl⟩:=gN.mp ht;exact absurd (s.iG _ (s.tm q hq)) (s.fresh hp)
   . rw[s.keep p o e hb ht]at hp;cases hp
theorem S.laid(s:S z g Y As M H){p:Addr}{o:HO}(hp:H p=none):S z g Y As M (upd H p o) where
 sl:=s.sl.stay (ao.laid hp) λa _ u e=>by rw[az (aI e hp)];exact e
 nd:=s.nd
 sub:=s.sub
 own:=s.own
 live:=λm hm=>by
  rcases s.live m hm with ⟨o,e,gr⟩ |e
  . exact .inl ⟨o,by rw[az (aI e hp)];exact e,gr⟩
  . exact .inr e
 keep:=λb u e hb ht=>by rw[az (aI (s.keep b u e hb ht) hp)];exact s.keep b u e hb ht
 iG:=s.iG
 m0:=s.m0
 bm:=s.bm
 jj:=s.jj
 tab:=λp h=>(s.tab p h).keep λb u e _=>by rw[az (aI e hp)];exact e
 tm:=s.tm
 tt:=s.tt
theorem S.Yi(s:S z g Y As M H){p:Addr}{u0:HO}(gu:Grw u0)(hp:H p=none):S z g Y As (p::M) (upd H p u0) where
 sl:=s.sl.stay (ao.aY hp) λa _ u e=>by rw[az (aI e hp)];exact e
 nd:=s.nd
 sub:=λa ha=>dA _ (s.sub a ha)
 own:=s.own
 live:=λm hm=>by
  rcases eA.mp hm with rfl |hm
  . exact .inl ⟨_,aE,gu⟩
  .
   rcases s.live m hm with ⟨o,e,gr⟩ |e
   . exact .inl ⟨o,by rw[az (aI e hp)];exact e,gr⟩
   . exact .inr e
 keep:=λb u e hb ht=>by rw[az (aI (s.keep b u e hb ht) hp)];exact s.keep b u e hb ht
 iG:=λm hm=>dA _ (s.iG m hm)
 m0:=s.m0
 bm:=s.bm
 jj:=s.jj
 tab:=λp h=>(s.tab p h).keep λb u e _=>by rw[az (aI e hp)];exact e
 tm:=s.tm
 tt:=s.tt
theorem S.aY(s:S z g Y As M H){p:Addr}{xs:List V}(hp:H p=none):S z g Y As (p::M) (upd H p (.lst xs)):=s.Yi trivial hp
theorem S.drop(s:S z g Y As M H)(h0:z.H0 p=none)(hA:p∉As):S z g Y As (M.filter λm=>decide (m≠p)) H where
 sl:=s.sl.stay (ao.less λm hm=>(lS.mp hm).1) λ_ _ _ e=>e
 nd:=s.nd
 sub:=λa ha=>lS.mpr ⟨s.sub a ha,by have:a≠p:=λe=>hA (e▸ha);simpa using this⟩
 own:=s.own
 live:=λm hm=>s.live m (lS.mp hm).1
 keep:=s.keep
 iG:=λm hm=>lS.mpr ⟨s.iG m hm,by have:m≠p:=λe=>s.m0 m hm (e▸h0);simpa using this⟩
 m0:=s.m0
 bm:=s.bm
 jj:=s.jj
 tab:=s.tab
 tm:=s.tm
 tt:=s.tt
end
def dz(z:Z)(g:G)(Y:Sg)(As M:List Addr)(H:Hp):R->V->Prop
 |.dat d,v=>Rep z.K M H d v
 |.new l,v=>∃a xs,v=.ref a/\a∈M/\a∉As/\z.H0 a=none/\H a=some (.lst xs)/\aH z.K M H l xs
 |.var i,v=>∃l,g[i]?=some (.own l)/\Y[i]?=some (some v)
inductive Pk(K:Frag)(M:List Addr)(H:Hp):D->V->Prop
 |of:Rep K M H d v->Pk K M H d v
 |lst {l:List D}{a:Addr}{xs:List V}:H a=some (.lst xs)->aH K M H l xs->Pk K M H (.lst l) (.ref a)
theorem Pk.list{K:Frag}{M:List Addr}{H:Hp}{l:List D}{v:V}(h:Pk K M H (.lst l) v):∃a xs,v=.ref a/\H a=some (.lst xs)/\aH K M H l xs:=by
 cases h with
 |of r=>cases r with |lst h1 h2=>exact⟨_,_,rfl,h1.2,h2⟩
 |lst h1 h2=>exact⟨_,_,rfl,h1,h2⟩
theorem Slots.at{K:Frag}{M:List Addr}{H:Hp}{g:G}{Y:Sg}{As:List Addr}{i:Nat}{l:List D}(q:Slots K M H g Y As)(e:g[i]?=some (.own l)):∃a xs,Y[i]?=some (some (.ref a))/\a∈As/\H a=some (.lst xs)/\aH K M H l xs:=by
 induction q generalizing i with
 |nil=>exact nomatch (show none=some (Slot.own l)from e)
 |no q ih=>cases i with
  |zero=>exact nomatch (show some Slot.no=some (Slot.own l)from e)
  |succ i=>exact ih e
 |dat r q ih=>cases i with
  |zero=>exact nomatch (show some (Slot.dat _)=some (Slot.own l)from e)
  |succ i=>exact ih e
 |own h r q ih=>cases i with
  |zero=>cases (show some (Slot.own _)=some (Slot.own l)from e);exact⟨_,_,rfl,dC,h,r⟩
  |succ i=>obtain⟨a,xs,h1,h2,h3⟩:=ih e;exact⟨a,xs,h1,dA _ h2,h3⟩
theorem Slots.zZ{K:Frag}{M:List Addr}{H:Hp}{g:G}{Y:Sg}{As:List Addr}{i:Nat}{d:D}(q:Slots K M H g Y As)(e:g[i]?=some (.dat d)):∃v,Y[i]?=some (some v)/\Rep K M H d v:=by
 induction q generalizing i with
 |nil=>exact nomatch (show none=some (Slot.dat d)from e)
 |no q ih=>cases i with
  |zero=>exact nomatch (show some Slot.no=some (Slot.dat d)from e)
  |succ i=>exact ih e
 |dat r q ih=>cases i with
  |zero=>cases (show some (Slot.dat _)=some (Slot.dat d)from e);exact⟨_,rfl,r⟩
  |succ i=>exact ih e
 |own h r q ih=>cases i with
  |zero=>exact nomatch (show some (Slot.own _)=some (Slot.dat d)from e)
  |succ i=>exact ih e
theorem Slots.length{K:Frag}{M:List Addr}{H:Hp}{g:G}{Y:Sg}{As:List Addr}(q:Slots K M H g Y As):g.length=Y.length:=by
 induction q with
 |nil=>rfl
 |no q ih=>exact congrArg (· + 1) ih
 |dat r q ih=>exact congrArg (· + 1) ih
 |own h r q ih=>exact congrArg (· + 1) ih
theorem Slots.gQ{K:Frag}{M:List Addr}{H:Hp}{d:D}{v:V}(r:Rep K M H d v){g:G}{Y:Sg}{As:List Addr}(i:Nat)(q:Slots K M H g Y As):∃aB,Slots K M H (g.set i (.dat d)) (Y.set i (some v)) aB/\aB.Sublist As:=by
 induction q generalizing i with
 |nil=>exact⟨[],.nil,.slnil⟩
 |no q ih=>cases i with
  |zero=>exact⟨_,.dat r q,AG _⟩
  |succ i=>obtain⟨aB,h1,h2⟩:=ih i;exact⟨aB,.no h1,h2⟩
 |dat r' q ih=>cases i with
  |zero=>exact⟨_,.dat r q,AG _⟩
  |succ i=>obtain⟨aB,h1,h2⟩:=ih i;exact⟨aB,.dat r' h1,h2⟩
 |own e r' q ih=>cases i with
  |zero=>exact⟨_,.dat r q,List.sublist_cons_self _ _⟩
  |succ i=>obtain⟨aB,h1,h2⟩:=ih i;exact⟨_::aB,.own e r' h1,h2.cons₂ _⟩
theorem Slots.freeze{K:Frag}{M M':List Addr}{H:Hp}(hM:∀m∈M',m∈M){g:G}{Y:Sg}{As:List Addr}{i:Nat}{l:List D}{a:Addr}(q:Slots K M H g Y As)(e:g[i]?=some (.own l))(e2:Y[i]?=some (some (.ref a)))(na:a∉M')(nd:As.Nodup) :
  ∃aB,Slots K M' H (g.set i (.dat (.lst l))) Y aB/\aB.Sublist As/\a∉aB:=by
 induction q generalizing i with
 |nil=>exact nomatch (show none=some (Slot.own l)from e)
 |no q ih=>cases i with
  |zero=>exact nomatch (show some Slot.no=some (Slot.own l)from e)
  |succ i=>obtain⟨aB,h1,h2,h3⟩:=ih e e2 nd;exact⟨aB,.no h1,h2,h3⟩
 |dat r q ih=>cases i with
  |zero=>exact nomatch (show some (Slot.dat _)=some (Slot.own l)from e)
  |succ i=>obtain⟨aB,h1,h2,h3⟩:=ih e e2 nd;exact⟨aB,.dat (r.stay (ao.less hM)) h1,h2,h3⟩
 |@own g Y As b xs ds h r q ih=>cases i with
  |zero=>
   cases (show some (Slot.own _)=some (Slot.own l)from e)
   cases (show some (some (V.ref b))=some (some (V.ref a))from e2)
   exact⟨_,.dat (.lst ⟨na,h⟩ (r.stay (ao.less hM))) (q.stay (ao.less hM) λ_ _ _ e=>e),List.sublist_cons_self _ _,(i3.mp nd).1⟩
  |succ i=>
   obtain⟨aB,h1,h2,h3⟩:=ih e e2 (i3.mp nd).2;refine⟨b::aB,.own h (r.stay (ao.less hM)) h1,h2.cons₂ _,λhm=>?_⟩
   rcases eA.mp hm with z |z
   .
    obtain⟨c,xs,z1,z2,_⟩:=q.at (i:=i) e;cases (show some (some (V.ref c))=some (some (V.ref a))from z1.symm.trans e2)
    exact (i3.mp nd).1 (by rw[<- z];exact z2)
   . exact h3 z
theorem Slots.change{K:Frag}{M:List Addr}{H H':Hp}{l':List D}{a:Addr}{xs':List V}(st:ao M H M H')(ha:H' a=some (.lst xs'))(r':aH K M H' l' xs'){g:G}{Y:Sg}{As:List Addr}{i:Nat}{l:List D}(q:Slots K M H g Y As)(e:g[i]?=some (.own l))(e2:Y[i]?=some (some (.ref a)))(nd:As.Nodup)
  (k:∀b∈As,b≠a->∀o,H b=some o->H' b=some o):Slots K M H' (g.set i (.own l')) Y As:=by
 induction q generalizing i with
 |nil=>exact nomatch (show none=some (Slot.own l)from e)
 |no q ih=>cases i with
  |zero=>exact nomatch (show some Slot.no=some (Slot.own l)from e)
  |succ i=>exact .no (ih e e2 nd k)
 |dat r q ih=>cases i with
  |zero=>exact nomatch (show some (Slot.dat _)=some (Slot.own l)from e)
  |succ i=>exact .dat (r.stay st) (ih e e2 nd k)
 |@own g Y As b xs ds h r q ih=>cases i with
  |zero=>
   cases (show some (some (V.ref b))=some (some (V.ref a))from e2)
   exact .own ha r' (q.stay st λc hc o e=>k c (dA _ hc) (λz=>(i3.mp nd).1 (by rw[<- z];exact hc)) o e)
  |succ i=>
   refine .own (k b dC (λz=>?_) _ h) (r.stay st) (ih e e2 (i3.mp nd).2 λc hc=>k c (dA _ hc))
   obtain⟨c,xs,z1,z2,_⟩:=q.at (i:=i) e;cases (show some (some (V.ref c))=some (some (V.ref a))from z1.symm.trans e2)
   exact (i3.mp nd).1 (by rw[z];exact z2)
section
variable{g:G}
theorem fT(h:(g.set i (.dat d))[j]?=some (.own l)):g[j]?=some (.own l)/\j≠i:=by
 by_cases e:i=j
 .
  subst e;by_cases hi:i<g.length
  . rw[i8 hi]at h;symm
  . rw[sT.mpr (by rw[yY];lia)]at h;symm
 . rw[fN e]at h;exact⟨h,nV e⟩
theorem S.freeze(s:S z g Y As M H){i:Nat}{l:List D}(hg:g[i]?=some (.own l))(hb:i∉z.bor):∃aB M',S z (g.set i (.dat (.lst l))) Y aB M' H/\ao M H M' H:=by
 obtain⟨a,xs,e1,e2,e3,e4⟩:=s.sl.at hg;have h0:z.H0 a=none:=(s.own i a l hg e1).elim (λq=>absurd q.1 hb) id
 have hM:∀m∈(M.filter λm=>decide (m≠a)),m∈M:=λm hm=>(lS.mp hm).1
 have na:a∉(M.filter λm=>decide (m≠a)):=λhm=>by
  have:=(lS.mp hm).2;simp at this
 obtain⟨aB,q1,q2,q3⟩:=s.sl.freeze hM hg e1 na s.nd;refine⟨aB,_,⟨q1,s.nd.sublist q2,λb hb=>lS.mpr ⟨s.sub b (q2.subset hb),?_⟩,λj b l' h1 h2=>s.own j b l' (fT h1).1 h2,λm hm=>s.live m (hM m hm),s.keep,λm hm=>lS.mpr ⟨s.iG m hm,?_⟩,s.m0,s.bm,λp hp=>⟨(s.jj p hp).1,?_⟩,s.tab,s.tm,s.tt⟩,ao.less hM⟩
 rotate_left 2
 .
  have:i≠p.1:=λe=>hb (by rw[e];exact tP (f:=(·.1)) hp)
  rw[fN this];exact (s.jj p hp).2
 .
  have:b≠a:=λe=>q3 (e▸hb)
  simpa using this
 .
  have:m≠a:=λe=>s.m0 m hm (e▸h0)
  simpa using this
theorem S.write(s:S z g Y As M H){i:Nat}{l l':List D}{a:Addr}{xs':List V}(hg:g[i]?=some (.own l))(e1:Y[i]?=some (some (.ref a)))(r:aH z.K M H l' xs'):S z (g.set i (.own l')) Y As M (upd H a (.lst xs'))/\ao M H M (upd H a (.lst xs')):=by
 obtain⟨b,xs,e2,e3,e4,e5⟩:=s.sl.at hg;rw[e1]at e2;injection e2 with e2;injection e2 with e2;injection e2 with e2;subst e2;have st:ao M H M (upd H a (.lst xs')):=ao.write (s.sub a e3);refine⟨⟨s.sl.change st aE (r.stay st) hg e1 s.nd (λb _ ne o e=>by rw[az ne];exact e),s.nd,s.sub,λj b l2 h1 h2=>?_,λm hm=>?_,λb o e hb ht=>?_,s.iG,s.m0,s.bm,λp hp=>⟨(s.jj p hp).1,?_⟩,λp h=>(s.tab p h).keep λb u e nl=>?_,s.tm,s.tt⟩,st⟩
 rotate_left 3
 .
  by_cases hj:i=p.1
  . rw[<- hj];exact⟨l',i8 (dL.mp hg).1⟩
  . rw[fN hj];exact (s.jj p hp).2
 .
  have:b≠a:=λz2=>by subst z2;rw[e4]at e;cases e;exact nl trivial
  rw[az this];exact e
 .
  by_cases hj:i=j
  . subst hj;exact s.own i b l hg h2
  . rw[fN hj]at h1;exact s.own j b l2 h1 h2
 .
  by_cases hm2:m=a
  . subst hm2;exact .inl ⟨_,aE,trivial⟩
  .
   rcases s.live m hm with ⟨o,e,gr⟩ |e
   . exact .inl ⟨o,by rw[az hm2];exact e,gr⟩
   . exact .inr e
 .
  have q:=s.keep b o e hb ht;have:b≠a:=λz2=>by
   subst z2;rcases s.own i b l hg e1 with w |w
   . exact hb w.2
   . rw[w]at e;cases e
  rw[az this];exact q
theorem S.gQ(s:S z g Y As M H)(hb:i∉z.bor)(r:Rep z.K M H d v):∃aB,S z (g.set i (.dat d)) (Y.set i (some v)) aB M H:=by
 obtain⟨aB,h1,h2⟩:=s.sl.gQ r i;refine⟨aB,h1,s.nd.sublist h2,λa ha=>s.sub a (h2.subset ha),λj b l h3 h4=>?_,s.live,s.keep,s.iG,s.m0,s.bm,λp hp=>?_,s.tab,s.tm,s.tt⟩
 rotate_left
 .
  have:i≠p.1:=λe=>hb (by rw[e];exact tP (f:=(·.1)) hp)
  rw[fN this,fN this];exact s.jj p hp
 obtain⟨h5,h6⟩:=fT h3;rw[fN (nV h6)]at h4;exact s.own j b l h5 h4
theorem Slots.oB{K:Frag}{a:Addr}{xs:List V}{l:List D}(h:H a=some (.lst xs))(r:aH K M H l xs){g:G}{Y:Sg}{As:List Addr}(i:Nat)(q:Slots K M H g Y As)(hi:i<g.length):∃aB,Slots K M H (g.set i (.own l)) (Y.set i (some (.ref a))) aB/\(∀b∈aB,b=a\/b∈As)/\(As.Nodup->a∉As->aB.Nodup):=by
 induction q generalizing i with
 |nil=>exact absurd hi (BD _)
 |no q ih=>cases i with
  |zero=>exact⟨_,.own h r q,λb hb=>eA.mp hb,λnd na=>i3.mpr ⟨na,nd⟩⟩
  |succ i=>obtain⟨aB,h1,h2,h3⟩:=ih i (AL hi);exact⟨aB,.no h1,h2,h3⟩
 |dat r' q ih=>cases i with
  |zero=>exact⟨_,.own h r q,λb hb=>eA.mp hb,λnd na=>i3.mpr ⟨na,nd⟩⟩
  |succ i=>obtain⟨aB,h1,h2,h3⟩:=ih i (AL hi);exact⟨aB,.dat r' h1,h2,h3⟩
 |@own g Y As c ys ds e r' q ih=>cases i with
  |zero=>exact⟨_,.own h r q,λb hb=>(eA.mp hb).imp id (dA _),λnd na=>i3.mpr ⟨λz=>na (dA _ z),(i3.mp nd).2⟩⟩
  |succ i=>obtain⟨aB,h1,h2,h3⟩:=ih i (AL hi);exact⟨c::aB,.own e r' h1,λb hb=>(eA.mp hb).elim (λz=>.inr (z▸dC)) λz=>(h2 b z).imp id (dA _),λnd na=>i3.mpr ⟨λz=>(h2 c z).elim (λw=>na (w▸dC)) (i3.mp nd).1,h3 (i3.mp nd).2 λw=>na (dA _ w)⟩⟩
theorem S.oB(s:S z g Y As M H){i:Nat}{l:List D}{a:Addr}{xs:List V}(hb:i∉z.bor)(hi:i<g.length)(hm:a∈M)(hA:a∉As)(h0:z.H0 a=none)(h:H a=some (.lst xs))(r:aH z.K M H l xs):∃aB,S z (g.set i (.own l)) (Y.set i (some (.ref a))) aB M H:=by
 obtain⟨aB,h1,h2,h3⟩:=s.sl.oB h r i hi;refine⟨aB,h1,h3 s.nd hA,λb hb=>(h2 b hb).elim (λe=>e▸hm) (s.sub b),λj b l2 h4 h5=>?_,s.live,s.keep,s.iG,s.m0,s.bm,λp hp=>?_,s.tab,s.tm,s.tt⟩
 rotate_left
 .
  have:i≠p.1:=λe=>hb (by rw[e];exact tP (f:=(·.1)) hp)
  rw[fN this,fN this];exact s.jj p hp
 by_cases hj:i=j
 .
  subst hj;rw[i8 (by rw[<- s.sl.length];exact hi)]at h5
  injection h5 with h5;injection h5 with h5;injection h5 with h5;subst h5;exact .inr h0
 . rw[fN hj]at h4 h5;exact s.own j b l2 h4 h5
end
abbrev Kn (z:Z) (g':G) (Y:Sg) (M:List Addr) (H:Hp) (r:R) (Q:VK):Prop:=
 ∀v H' aB M',S z g' Y aB M' H'->ao M H M' H'->dz z g' Y aB M' H' r v->Q v H'
def aA(X:Cx)(z:Z)(e:Expr)(g:G)(r:R)(g':G):Prop:=
 ∃t,PE X e t/\∀Y As M H Q,S z g Y As M H->Kn z g' Y M H r Q->t Y H Q
def cA(X:Cx)(z:Z)(e:Expr)(g:G)(b:Bool)(g':G):Prop:=
 ∃t,PT X e t/\∀Y As M H (Q:Bool->Hp->Prop),S z g Y As M H->(∀H' aB M',S z g' Y aB M' H'->ao M H M' H'->Q b H')->t Y H Q
def nB(X:Cx)(z:Z)(f:Value->Value->Sem Value)(d1 d2:D)(res:R):Prop:=
 ∃r:R2,mV X f r/\∀g Y As M H v1 v2 Q,S z g Y As M H->Pk z.K M H d1 v1->Pk z.K M H d2 v2->Kn z g Y M H res Q->r v1 v2 H Q
def Wx(X:Cx)(z:Z)(d1 d2:D)(res:R):Prop:=
 ∃r:R2,X5 X r/\∀g Y As M H v1 v2 Q,S z g Y As M H->Pk z.K M H d1 v1->Pk z.K M H d2 v2->Kn z g Y M H res Q->r v1 v2 H Q
def UnD(X:Cx)(z:Z)(f:Value->Sem Value)(d:D)(res:R):Prop:=
 ∃r:V->Hp->VK->Prop,UnR X f r/\∀g Y As M H v Q,S z g Y As M H->Pk z.K M H d v->Kn z g Y M H res Q->r v H Q
noncomputable def pk:R->G->Option D
 |.dat d,_=>some d
 |.new _,_=>none
 |.var i,g=>match g[i]? with |some (.own l)=>some (.lst l) |some (.dat (.lst l))=>some (.lst l) |_=>none
section
theorem S.pk(s:S z g2 Y As M2 H2)(st:ao M1 H1 M2 H2)(q:dz z g1 Y aL M1 H1 r v)(h:pk r g2=some d):Pk z.K M2 H2 d v:=by
 cases r with
 |dat d'=>have e:d'=d:=oD h;subst e;exact .of (Rep.stay st q)
 |new l=>symm
 |var i=>
  obtain⟨l,h1,h2⟩:=q;unfold Ev.pk at h;dsimp only at h;split at h
  . rename_i l' hg;have e:=oD h;subst e;obtain⟨a,xs,e1,e2,e3,e4⟩:=s.sl.at hg;rw[h2]at e1;injection e1 with e1;injection e1 with e1;subst e1;exact .lst e3 e4
  . rename_i l' hg;have e:=oD h;subst e;obtain⟨w,e1,e2⟩:=s.sl.zZ hg;rw[h2]at e1;injection e1 with e1;injection e1 with e1;exact .of (e1▸e2)
  . symm
theorem RM{i j}:aA X z (.Constant (.int i) j pos) g ‹i› g:=⟨_,Fv,λY As M H Q s k=>k _ _ _ _ s (ao.refl _ _) (.int i)⟩
theorem Yj{i j}:aA X z (.Constant (.bool i) j pos) g (.dat (.bl i)) g:=⟨_,Xk,λY As M H Q s k=>k _ _ _ _ s (ao.refl _ _) (.bl i)⟩
theorem RN{j}:aA X z (.Constant .none j pos) g (.dat .non) g:=⟨_,Fw,λY As M H Q s k=>k _ _ _ _ s (ao.refl _ _) .non⟩
theorem RP{x j}:aA X z (.Constant (.str x) j pos) g (.dat (.str x)) g:=⟨_,QV,λY As M H Q s k=>k _ _ _ _ s (ao.refl _ _) (.str x)⟩
theorem RQ{i:Nat}{x:Str}(hN:X.N[i]?=some x)(hv:uW X.env.scope x)(hd:(x==(~~~3))=false)(bN:(x==("__classdict__":Str))=false)(hg:g[i]?=some (.dat d)):aA X z (.Name x pos) g (.dat d) g:=
 ⟨_,gJ hN hv hd bN,λY As M H Q s k=>let ⟨v,e,r⟩:=s.sl.zZ hg;⟨v,e,k v H As M s (ao.refl _ _) r⟩⟩
theorem Lf(hN:X.N[i]?=some x)(hv:uW X.env.scope x)(hd:(x==(~~~3))=false)(bN:(x==("__classdict__":Str))=false)(hg:g[i]?=some (.own l)):aA X z (.Name x pos) g (.var i) g:=
 ⟨_,gJ hN hv hd bN,λY As M H Q s k=>let ⟨a,xs,e,r⟩:=s.sl.at hg;⟨_,e,k _ H As M s (ao.refl _ _) ⟨l,hg,e⟩⟩⟩
theorem Lg(hg:Gl X x)(hm:X.mg x=some u)(r:RelV v u)(hr:∀M H,Rep z.K M H d v)(hd:(x==(~~~3))=false):aA X z (.Name x pos) g (.dat d) g:=
 ⟨_,zM hg hm r hd,λY As M H Q s k=>k _ H As M s (ao.refl _ _) (hr M H)⟩
theorem oE(h:aA X z e g (.new l) g'):aA X z e g (.dat (.lst l)) g':=by
 obtain⟨t,p,q⟩:=h;refine⟨t,p,λY As M H Q s k=>q Y As M H Q s λv H' aB M' s' st r=>?_⟩
 obtain⟨a,xs,rfl,hm,hA,h0,ha,rr⟩:=r;have hM:∀m∈(M'.filter λm=>decide (m≠a)),m∈M':=λm hm=>(lS.mp hm).1
 have na:a∉(M'.filter λm=>decide (m≠a)):=λhm=>by
  have:=(lS.mp hm).2;simp at this
 exact k _ H' aB _ (s'.drop h0 hA) (st.trans (ao.less hM)) (.lst ⟨na,ha⟩ (rr.stay (ao.less hM)))
theorem Cq(h:aA X z e g (.var i) g1)(hg:g1[i]?=some (.own l))(hb:i∉z.bor):aA X z e g (.dat (.lst l)) (g1.set i (.dat (.lst l))):=by
 obtain⟨t,p,q⟩:=h;refine⟨t,p,λY As M H Q s k=>q Y As M H Q s λv H' aB M' s' st r=>?_⟩
 obtain⟨l',h1,h2⟩:=r;obtain⟨bx,M2,s2,aK⟩:=s'.freeze hg hb;have hi:i<g1.length:=(dL.mp hg).1;obtain⟨v',e1,e2⟩:=s2.sl.zZ (i:=i) (d:=.lst l) (by rw[i8 hi])
 rw[h2]at e1;injection e1 with e1;injection e1 with e1;subst e1;exact k _ H' bx M2 s2 (st.trans aK) e2
theorem RT(h1:aA X z a g r1 g1)(h2:aA X z b g1 r2 g2)(p1:pk r1 g2=some d1)(p2:pk r2 g2=some d2)(ho:nB X z (binaryOp op) d1 d2 r):aA X z (.BinOp a op b pos) g r g2:=by
 obtain⟨t1,q1,k1⟩:=h1;obtain⟨t2,q2,k2⟩:=h2;obtain⟨rr,o,ko⟩:=ho;exact⟨_,Xz o q1 q2,λY As M H Q s k=>k1 Y As M H _ s λv1 H1 aL M1 s1 cP R1=>k2 Y aL M1 H1 _ s1 λv2 H2 bx M2 s2 aK R2=>
  ko g2 Y bx M2 H2 v1 v2 Q s2 (s2.pk aK R1 p1) (s2.pk (ao.refl _ _) R2 p2) λv H' aB M' s' st' R'=>k v H' aB M' s' (cP.trans (aK.trans st')) R'⟩
theorem RV(h1:aA X z a g r1 g1)(h2:aA X z b g1 r2 g2)(p1:pk r1 g2=some d1)(p2:pk r2 g2=some d2)(ho:nB X z (compareOp op) d1 d2 r)(hm:behindInMarks op b=false):aA X z (.Compare a [op] [b] pos) g r g2:=by
 obtain⟨t1,q1,k1⟩:=h1;obtain⟨t2,q2,k2⟩:=h2;obtain⟨rr,o,ko⟩:=ho;exact⟨_,sV o q1 q2 hm,λY As M H Q s k=>k1 Y As M H _ s λv1 H1 aL M1 s1 cP R1=>k2 Y aL M1 H1 _ s1 λv2 H2 bx M2 s2 aK R2=>
  ko g2 Y bx M2 H2 v1 v2 Q s2 (s2.pk aK R1 p1) (s2.pk (ao.refl _ _) R2 p2) λv H' aB M' s' st' R'=>k v H' aB M' s' (cP.trans (aK.trans st')) R'⟩
theorem Yk(h1:aA X z a g r1 g1)(h2:aA X z b g1 r2 g2)(p1:pk r1 g2=some d1)(p2:pk r2 g2=some d2)(ho:Wx X z d1 d2 r)(hs:sZ b):aA X z (.Subscript a b pos) g r g2:=by
 obtain⟨t1,q1,k1⟩:=h1;obtain⟨t2,q2,k2⟩:=h2;obtain⟨rr,o,ko⟩:=ho;exact⟨_,X6 o q1 q2 hs,λY As M H Q s k=>k1 Y As M H _ s λv1 H1 aL M1 s1 cP R1=>k2 Y aL M1 H1 _ s1 λv2 H2 bx M2 s2 aK R2=>
  ko g2 Y bx M2 H2 v1 v2 Q s2 (s2.pk aK R1 p1) (s2.pk (ao.refl _ _) R2 p2) λv H' aB M' s' st' R'=>k v H' aB M' s' (cP.trans (aK.trans st')) R'⟩
theorem Yl(h1:aA X z a g r1 g1)(p1:pk r1 g1=some d1)(ho:UnD X z (unaryOp op) d1 r):aA X z (.UnaryOp op a pos) g r g1:=by obtain⟨t1,q1,k1⟩:=h1;obtain⟨rr,o,ko⟩:=ho;exact⟨_,P8 o q1,λY As M H Q s k=>k1 Y As M H _ s λv1 H1 aL M1 s1 cP R1=>ko g1 Y aL M1 H1 v1 Q s1 (s1.pk (ao.refl _ _) R1 p1) λv H' aB M' s' st' R'=>k v H' aB M' s' (cP.trans st') R'⟩
theorem fU(q:dz z g Y As M H (.dat (.bl c)) v):v=.bl c:=by have q':Rep z.K M H (.bl c) v:=q;cases q';rfl
theorem RW(h1:aA X z a g r1 g1)(h2:aA X z b g1 r2 g2)(p1:pk r1 g2=some d1)(p2:pk r2 g2=some d2)(ho:nB X z (compareOp op) d1 d2 (.dat (.bl c)))(hm:behindInMarks op b=false):cA X z (.Compare a [op] [b] pos) g c g2:=by
 obtain⟨t1,q1,k1⟩:=h1;obtain⟨t2,q2,k2⟩:=h2;obtain⟨rr,o,ko⟩:=ho;exact⟨_,KH o q1 q2 hm,λY As M H Q s k=>k1 Y As M H _ s λv1 H1 aL M1 s1 cP R1=>k2 Y aL M1 H1 _ s1 λv2 H2 bx M2 s2 aK R2=>
  ko g2 Y bx M2 H2 v1 v2 _ s2 (s2.pk aK R1 p1) (s2.pk (ao.refl _ _) R2 p2) λv H' aB M' s' st' R'=>⟨c,fU R',k H' aB M' s' (cP.trans (aK.trans st'))⟩⟩
theorem RX(h:cA X z a g c g'):cA X z (.UnaryOp .Not a pos) g (!c) g':=by obtain⟨t,q,k⟩:=h;exact⟨_,Fy q,λY As M H Q s kk=>k Y As M H _ s λH' aB M' s' st=>kk H' aB M' s' st⟩
def mX(X:Cx)(z:Z)(e:Expr)(g:G)(b:Bool)(g':G):Prop:=
 ∃t,PW X e t/\∀Y As M H (Q:Bool->Hp->Prop),S z g Y As M H->(∀H' aB M',S z g' Y aB M' H'->ao M H M' H'->Q b H')->t Y H Q
theorem mX.tr(h:mX X z e g c g'):cA X z e g c g':=let ⟨t,q,k⟩:=h;⟨t,q.pt,k⟩
theorem Lh(h:cA X z a g c g'):mX X z (.BoolOp .And [a] pos) g c g':=let ⟨t,q,k⟩:=h;⟨t,pw_and1 q,k⟩
theorem RZ(h:cA X z a g c g'):mX X z (.BoolOp .Or [a] pos) g c g':=let ⟨t,q,k⟩:=h;⟨t,pw_or1 q,k⟩
def tNo:TT:=λ_ _ _=>False
theorem pw_never:PW X e tNo:=λ_ _ _ _ _ _ _ h=>h.elim
theorem iH:PE X e (λ_ _ _=>False):=λ_ _ _ _ _ _ h=>h.elim
theorem Li{rest:List Expr}(h:cA X z a g false g1):mX X z (.BoolOp .And (a::b::rest) pos) g false g1:=by obtain⟨t,q,k⟩:=h;exact⟨_,pw_and q pw_never,λY As M H Q s kk=>k Y As M H _ s λH' aB M' s' st=>oq (kk H' aB M' s' st)⟩
theorem Lj{rest:List Expr}{c:Bool}(h:cA X z a g true g1)(h2:mX X z (.BoolOp .And (b::rest) pos) g1 c g2):mX X z (.BoolOp .And (a::b::rest) pos) g c g2:=by obtain⟨t,q,k⟩:=h;obtain⟨t2,q2,k2⟩:=h2;exact⟨_,pw_and q q2,λY As M H Q s kk=>k Y As M H _ s λH' aB M' s' st=>j3 (k2 Y aB M' H' Q s' λH2 bx M2 s2 aK=>kk H2 bx M2 s2 (st.trans aK))⟩
theorem R0{rest:List Expr}(h:cA X z a g true g1):mX X z (.BoolOp .Or (a::b::rest) pos) g true g1:=by obtain⟨t,q,k⟩:=h;exact⟨_,pw_or q pw_never,λY As M H Q s kk=>k Y As M H _ s λH' aB M' s' st=>j3 (kk H' aB M' s' st)⟩
theorem R3{rest:List Expr}{c:Bool}(h:cA X z a g false g1)(h2:mX X z (.BoolOp .Or (b::rest) pos) g1 c g2):mX X z (.BoolOp .Or (a::b::rest) pos) g c g2:=by obtain⟨t,q,k⟩:=h;obtain⟨t2,q2,k2⟩:=h2;exact⟨_,pw_or q q2,λY As M H Q s kk=>k Y As M H _ s λH' aB M' s' st=>oq (k2 Y aB M' H' Q s' λH2 bx M2 s2 aK=>kk H2 bx M2 s2 (st.trans aK))⟩
theorem Gn(h:aA X z a g r g'):aA X z (.BoolOp op [a] pos) g r g':=let ⟨t,q,k⟩:=h;⟨t,QX q,k⟩
theorem Lk{rest:List Expr}(h:aA X z a g (.dat (.bl false)) g1):aA X z (.BoolOp .And (a::b::rest) pos) g (.dat (.bl false)) g1:=by obtain⟨t,q,k⟩:=h;exact⟨_,Fz q iH,λY As M H Q s kk=>k Y As M H _ s λv H' aB M' s' st R=>⟨false,fU R,oq (kk _ H' aB M' s' st (.bl false))⟩⟩
theorem Ln{rest:List Expr}(h:aA X z a g (.dat (.bl true)) g1)(h2:aA X z (.BoolOp .And (b::rest) pos) g1 r g2):aA X z (.BoolOp .And (a::b::rest) pos) g r g2:=by obtain⟨t,q,k⟩:=h;obtain⟨t2,q2,k2⟩:=h2;exact⟨_,Fz q q2,λY As M H Q s kk=>k Y As M H _ s λv H' aB M' s' st R=>⟨true,fU R,j3 (k2 Y aB M' H' Q s' λv2 H2 bx M2 s2 aK=>kk v2 H2 bx M2 s2 (st.trans aK))⟩⟩
theorem R5{rest:List Expr}(h:aA X z a g (.dat (.bl true)) g1):aA X z (.BoolOp .Or (a::b::rest) pos) g (.dat (.bl true)) g1:=by obtain⟨t,q,k⟩:=h;exact⟨_,P5 q iH,λY As M H Q s kk=>k Y As M H _ s λv H' aB M' s' st R=>⟨true,fU R,j3 (kk _ H' aB M' s' st (.bl true))⟩⟩
theorem R8{rest:List Expr}(h:aA X z a g (.dat (.bl false)) g1)(h2:aA X z (.BoolOp .Or (b::rest) pos) g1 r g2):aA X z (.BoolOp .Or (a::b::rest) pos) g r g2:=by obtain⟨t,q,k⟩:=h;obtain⟨t2,q2,k2⟩:=h2;exact⟨_,P5 q q2,λY As M H Q s kk=>k Y As M H _ s λv H' aB M' s' st R=>⟨false,fU R,oq (k2 Y aB M' H' Q s' λv2 H2 bx M2 s2 aK=>kk v2 H2 bx M2 s2 (st.trans aK))⟩⟩
theorem R9(h:aA X z a g (.dat (.bl c)) g1):aA X z (.UnaryOp .Not a pos) g (.dat (.bl (!c))) g1:=by obtain⟨t,q,k⟩:=h;exact⟨_,QZ q,λY As M H Q s kk=>k Y As M H _ s λv H' aB M' s' st R=>⟨c,fU R,kk _ H' aB M' s' st (.bl _)⟩⟩
theorem Se(h:cA X z c g true g1)(h2:aA X z a g1 r g2):aA X z (.IfExp c a b pos) g r g2:=by obtain⟨t,q,k⟩:=h;obtain⟨t2,q2,k2⟩:=h2;exact⟨_,vn q q2 iH,λY As M H Q s kk=>k Y As M H _ s λH' aB M' s' st=>j3 (k2 Y aB M' H' Q s' λv2 H2 bx M2 s2 aK=>kk v2 H2 bx M2 s2 (st.trans aK))⟩
theorem Sf(h:cA X z c g false g1)(h2:aA X z b g1 r g2):aA X z (.IfExp c a b pos) g r g2:=by obtain⟨t,q,k⟩:=h;obtain⟨t2,q2,k2⟩:=h2;exact⟨_,vn q iH q2,λY As M H Q s kk=>k Y As M H _ s λH' aB M' s' st=>oq (k2 Y aB M' H' Q s' λv2 H2 bx M2 s2 aK=>kk v2 H2 bx M2 s2 (st.trans aK))⟩
inductive jA(z:Z)(Y:Sg)(M:List Addr)(H:Hp):List R->List V->Prop
 |nil:jA z Y M H [] []
 |dat {d:D}{v:V}{rs:List R}{vs:List V}:Rep z.K M H d v->jA z Y M H rs vs->jA z Y M H (.dat d::rs) (v::vs)
 |var {i:Nat}{v:V}{rs:List R}{vs:List V}:Y[i]?=some (some v)->jA z Y M H rs vs->jA z Y M H (.var i::rs) (v::vs)
def cQ(X:Cx)(z:Z)(es:List Expr)(g:G)(rs:List R)(g':G):Prop:=
 ∃t,PA X es t/\∀Y As M H (Q:List V->Hp->Prop),S z g Y As M H->(∀vs H' aB M',S z g' Y aB M' H'->ao M H M' H'->jA z Y M' H' rs vs->Q vs H')->t Y H Q
theorem fH:cQ X z [] g [] g:=⟨_,lq,λY As M H Q s k=>k [] H As M s (ao.refl _ _) .nil⟩
theorem cT(h:aA X z e g (.dat d) g1)(h2:cQ X z es g1 rs g2)(hs:starEach (e::es) X.env=(false,eval e X.env)::starEach es X.env):cQ X z (e::es) g (.dat d::rs) g2:=by obtain⟨t,q,k⟩:=h;obtain⟨t2,q2,k2⟩:=h2;exact⟨_,cD q q2 hs,λY As M H Q s kk=>k Y As M H _ s λv H' aB M' s' st R=>k2 Y aB M' H' _ s' λvs H2 bx M2 s2 aK R2=>kk _ H2 bx M2 s2 (st.trans aK) (.dat (Rep.stay aK R) R2)⟩
theorem Sh(h:aA X z e g (.var i) g1)(h2:cQ X z es g1 rs g2)(hs:starEach (e::es) X.env=(false,eval e X.env)::starEach es X.env):cQ X z (e::es) g (.var i::rs) g2:=by obtain⟨t,q,k⟩:=h;obtain⟨t2,q2,k2⟩:=h2;exact⟨_,cD q q2 hs,λY As M H Q s kk=>k Y As M H _ s λv H' aB M' s' st ⟨_,_,R⟩=>k2 Y aB M' H' _ s' λvs H2 bx M2 s2 aK R2=>kk _ H2 bx M2 s2 (st.trans aK) (.var R R2)⟩
inductive Lp(K:Frag)(M:List Addr)(H:Hp):List D->List V->Prop
 |nil:Lp K M H [] []
 |cons {d:D}{v:V}{ds:List D}{vs:List V}:Pk K M H d v->Lp K M H ds vs->Lp K M H (d::ds) (v::vs)
def Cr:List R->G->Option (List D)
 | [],_=>some []
 |r::rs,g=>match pk r g,Cr rs g with
  |some d,some ds=>some (d::ds)
  |_,_=>none
theorem S.Cr(s:S z g Y As M H)(q:jA z Y M H rs vs)(e:Cr rs g=some ds):Lp z.K M H ds vs:=by
 induction q generalizing ds with
 |nil=>cases e;exact .nil
 |@dat d v rs vs r q ih=>
  unfold Ev.Cr at e;cases e2:Ev.Cr rs g with
  |none=>rw[e2]at e;cases e
  |some ds=>rw[e2]at e;cases e;exact .cons (.of r) (ih e2)
 |@var i v rs vs r q ih=>
  unfold Ev.Cr at e;cases e1:Ev.pk (.var i) g with
  |none=>rw[e1]at e;cases e
  |some d=>
   cases e2:Ev.Cr rs g with
   |none=>rw[e1,e2]at e;cases e
   |some ds=>
    rw[e1,e2]at e;cases e;unfold Ev.pk at e1;dsimp only at e1;split at e1
    . rename_i l hg;cases e1;obtain⟨a,xs,h1,h2,h3,h4⟩:=s.sl.at hg;rw[r]at h1;injection h1 with h1;injection h1 with h1;subst h1;exact .cons (.lst h3 h4) (ih e2)
    . rename_i l hg;cases e1;obtain⟨w,h1,h2⟩:=s.sl.zZ hg;rw[r]at h1;injection h1 with h1;injection h1 with h1;exact .cons (.of (h1▸h2)) (ih e2)
    . cases e1
noncomputable def tM:List R->Option (List D)
 | []=>some []
 |.dat d::rs=>match tM rs with |some ds=>some (d::ds) |none=>none
 |_::_=>none
theorem tN(q:jA z Y M H rs vs)(e:tM rs=some ds):aH z.K M H ds vs:=by
 induction q generalizing ds with
 |nil=>cases e;exact .nil
 |@dat d v rs vs r q ih=>
  unfold tM at e;cases e2:tM rs with
  |none=>rw[e2]at e;cases e
  |some ds=>rw[e2]at e;cases e;exact .cons r (ih e2)
 |var _ _ _=>cases e
theorem iI(h:n<=16777216):n<=sizeLine:=by rw[rV];exact h
theorem Si{x1}(h:cQ X z es g rs g')(hd:tM rs=some ds)(hl:ds.length<=16777216):aA X z (.Tuple es x1 pos) g (.dat (.tup ds)) g':=by
 obtain⟨t,q,k⟩:=h;refine⟨_,yh q,λY As M H Q s kk=>k Y As M H _ s λvs H' aB M' s' st R=>?_⟩
 have rr:=tN R hd;refine⟨by rw[<- rr.length];exact iI hl,λp hp=>kk _ _ aB M' (s'.laid hp) (st.trans (ao.laid hp)) (.tup (.inl ⟨s'.fresh hp,.inl aE⟩) (rr.stay (ao.laid hp)))⟩
theorem Sj(h:cQ X z es g rs g')(hd:tM rs=some ds)(hl:ds.length<=16777216):aA X z (.List es pos) g (.new ds) g':=by
 obtain⟨t,q,k⟩:=h;refine⟨_,Rm q,λY As M H Q s kk=>k Y As M H _ s λvs H' aB M' s' st R=>?_⟩
 have rr:=tN R hd;refine⟨by rw[<- rr.length];exact iI hl,λp hp=>kk _ _ aB (p::M') (s'.aY hp) (st.trans (ao.aY hp)) ⟨p,vs,rfl,dC,λhA=>s'.fresh hp (s'.sub p hA),s'.cS hp,aE,rr.stay (ao.aY hp)⟩⟩
def CallD(X:Cx)(z:Z)(f:Value)(ds:List D)(res:R):Prop:=
 ∃r,d8 X f r/\∀g Y As M H vs Q,S z g Y As M H->Lp z.K M H ds vs->Kn z g Y M H res Q->r vs H Q
theorem eS{x:Str}{id:String}{p:Pos}{es:List Expr}{rs:List R}{ds:List D}(h:cQ X z (e::es) g rs g')(hp:Cr rs g'=some ds)(hc:CallD X z (.builtin id) ds r)(hg:Gl X x)(hm:X.mg x=none)(hv:bootBuiltins x=some (.builtin id))(hn:x≠ "__name__")(jQ:(x==(~~~3))=false)
  (he:starEach (e::es) X.env=(false,eval e X.env)::starEach es X.env) (g8:(backTo pos (starEach es X.env)).any (·.1)=false):aA X z (.Call (.Name x p) (e::es) [] pos) g r g':=by
 obtain⟨t,q,k⟩:=h;obtain⟨rr,c,kc⟩:=hc;exact⟨_,jX c hg hm hv q hn jQ he g8,λY As M H Q s kk=>k Y As M H _ s λvs H' aB M' s' st R=>kc g' Y aB M' H' vs Q s' (s'.Cr R hp) λv H2 bx M2 s2 aK R2=>kk v H2 bx M2 s2 (st.trans aK) R2⟩
theorem lA(h:cQ X z (e::es) g rs g')(hp:Cr rs g'=some ds)(hc:CallD X z (.type T) ds r)(hg:Gl X x)(hm:X.mg x=none)(hv:bootBuiltins x=some (.type T))(hn:x≠ "__name__")(jQ:(x==(~~~3))=false)
  (he:starEach (e::es) X.env=(false,eval e X.env)::starEach es X.env) (g8:(backTo pos (starEach es X.env)).any (·.1)=false):aA X z (.Call (.Name x p) (e::es) [] pos) g r g':=by
 obtain⟨t,q,k⟩:=h;obtain⟨rr,c,kc⟩:=hc;exact⟨_,Cd c hg hm hv q hn jQ he g8,λY As M H Q s kk=>k Y As M H _ s λvs H' aB M' s' st R=>kc g' Y aB M' H' vs Q s' (s'.Cr R hp) λv H2 bx M2 s2 aK R2=>kk v H2 bx M2 s2 (st.trans aK) R2⟩
end
mutual
noncomputable def bW:D->D->Bool
 |.non,.non=>true
 |.bl a,.bl b=>a==b
 |.bl a,.int j=>(if a then 1 else 0)==j
 |.int i,.bl b=>i==(if b then 1 else 0)
 |.int i,.int j=>i==j
 |.str x,.str y=>x==y
 |.tup l,.tup m=>dj l m
 |.lst l,.lst m=>dj l m
 |.lst l,.fix m=>dj l m
 |.fix l,.lst m=>dj l m
 |.fix l,.fix m=>dj l m
 |_,_=>false
noncomputable def dj:List D->List D->Bool
 | [],[]=>true
 |a::l,b::m=>bW a b&&dj l m
 |_,_=>false
end
mutual
noncomputable def dep:D->Nat
 |.tup l=>deps l+1
 |.lst l=>deps l+1
 |.fix l=>deps l+1
 |_=>0
noncomputable def deps:List D->Nat
 | []=>0
 |d::l=>max (dep d) (deps l)
end
mutual
noncomputable def g5:D->Bool
 |.tup l=>fy l
 |.lst l=>fy l
 |.fix l=>fy l
 |.emp=>false
 |.mC _=>false
 |.tL ..=>false
 |_=>true
noncomputable def fy:List D->Bool
 | []=>true
 |d::l=>g5 d&&fy l
end
mutual
inductive Dv(h:Heap):D->Value->Prop
 |non:Dv h .non .none
 |bl (b:Bool):Dv h (.bl b) (.bool b)
 |int (i:Int) (t:Tok):Dv h (.int i) (.int i t)
 |str (x:Str) (t:Tok):Dv h (.str x) (.str x t)
 |tup {l:List D}{a:Addr}{us:List Value}:IsTup h a us.toArray->nD h l us->Dv h (.tup l) (.ref a)
 |lst {l:List D}{a:Addr}{us:List Value}:h.IsList a us.toArray->nD h l us->Dv h (.lst l) (.ref a)
 |fix {l:List D}{a:Addr}{us:List Value}:h.IsList a us.toArray->nD h l us->Dv h (.fix l) (.ref a)
inductive nD(h:Heap):List D->List Value->Prop
 |nil:nD h [] []
 |cons {d:D}{ds:List D}{u:Value}{us:List Value}:Dv h d u->nD h ds us->nD h (d::ds) (u::us)
end
section
theorem Rep.dv2(I: ~~~7)(q:Rep X.K M H d v):∀u,RelV v u->g5 d=true->Dv s.heap d u:=by
 refine Rep.rec (motive_1:=λd v _=>∀u,RelV v u->g5 d=true->Dv s.heap d u) (motive_2:=λds vs _=>∀us,Vals vs us->fy ds=true->nD s.heap ds us) ?_ ?_ ?_ ?_ ?_ ?_ ?_ ?_ ?_ ?_ ?_ ?_ q
 . intro u r _;cases r;exact .non
 . intro b u r _;cases r;exact .bl b
 . intro i u r _;obtain⟨t,rfl⟩:=r;exact .int i t
 . intro x u r _;obtain⟨t,rfl⟩:=r;exact .str x t
 . intro l a xs h _ ih u r p;cases r;obtain⟨its,rv,ht,hz⟩:=I.tuple h.sq;exact .tup ht (ih _ rv p)
 . intro l a xs h _ ih u r p;cases r;obtain⟨its,rv,ht,hz⟩:=I.list (cz.of h.2);exact .lst ht.isList (ih _ rv p)
 . intro l a xs h _ ih u r p;cases r;obtain⟨its,rv,ht,hz⟩:=I.list h.sq;exact .fix ht.isList (ih _ rv p)
 . intro a _ _ u _ p;exact Bool.noConfusion (show false=true from p)
 . intro C a _ _ _ u _ p;exact Bool.noConfusion (show false=true from p)
 . intro ks ds a vs _ _ _ _ _ u _ p;exact Bool.noConfusion (show false=true from p)
 . intro us r _;cases r;exact .nil
 .
  intro d ds x xs _ _ i1 i2 us r p;cases r with
  |cons r1 r2=>have p:(g5 d&&fy ds)=true:=p;rw[d5]at p;exact .cons (i1 _ r1 p.1) (i2 _ r2 p.2)
theorem Rep.dv(I: ~~~7)(q:Rep X.K M H d v)(r:RelV v u)(p:g5 d=true):Dv s.heap d u:=q.dv2 I u r p
theorem aH.dv(I: ~~~7)(q:aH X.K M H ds vs)(r:Vals vs us)(p:fy ds=true):nD s.heap ds us:=by
 induction ds generalizing vs us with
 |nil=>cases q;cases r;exact .nil
 |cons d ds ih=>cases q with |cons q1 q2=>cases r with |cons r1 r2=>have p:(g5 d&&fy ds)=true:=p;rw[d5]at p;exact .cons (q1.dv I r1 p.1) (ih q2 r2 p.2)
theorem Pk.dv(I: ~~~7)(h:Pk X.K M H d v)(r:RelV v u)(p:g5 d=true):Dv s.heap d u:=by
 cases h with
 |of q=>exact q.dv I r p
 |lst h q=>cases r;obtain⟨its,rv,ht,hz⟩:=I.list (cz.of h);exact .lst ht.isList (aH.dv I q rv (by simpa [g5]using p))
end
theorem nD.length(q:nD h l us):l.length=us.length:=by
 induction l generalizing us with
 |nil=>cases q;rfl
 |cons d l ih=>cases q with |cons a b=>exact congrArg (· + 1) (ih b)
theorem rB{h:Heap}{a:Addr}{us ws:List Value}(x:IsTup h a us.toArray)(y:IsTup h a ws.toArray):us=ws:=by obtain⟨o,e,_,n,d⟩:=x;obtain⟨o',e',_,n',d'⟩:=y;rw[e]at e';cases e';rw[d]at d';injection d' with d1 _;simpa using congrArg Array.toList d1
theorem bT{h:Heap}{a:Addr}{us ws:List Value}(x:h.IsList a us.toArray)(y:h.IsList a ws.toArray):us=ws:=by obtain⟨o,e,_,n,d⟩:=x;obtain⟨o',e',_,n',d'⟩:=y;rw[e]at e';cases e';rw[d]at d';injection d' with d1 _;simpa using congrArg Array.toList d1
theorem dR(x:IsTup h a us)(y:h.IsList a ws):False:=by obtain⟨o,e,c,_⟩:=x;obtain⟨o',e',c',_⟩:=y;rw[e]at e';cases e';rw[c]at c';injection c' with c';exact absurd c' ⋯
theorem Gp{h:Heap}{d1:D}{u:Value}(q:Dv h d1 u):∀d2,Dv h d2 u->bW d1 d2=true:=by
 refine Dv.rec (motive_1:=λd1 u _=>∀d2,Dv h d2 u->bW d1 d2=true) (motive_2:=λl us _=>∀m,nD h m us->dj l m=true) ?_ ?_ ?_ ?_ ?_ ?_ ?_ ?_ ?_ q
 . intro d2 q;cases q;rfl
 . intro b d2 q;cases q;exact Cn b
 . intro i t d2 q;cases q;exact Cn i
 . intro x t d2 q;cases q;exact Cn x
 .
  intro l a us x _ ih d2 q;cases q with
  |tup y q'=>cases rB x y;exact ih _ q'
  |lst y _=>exact (dR x y).elim
  |fix y _=>exact (dR x y).elim
 .
  intro l a us x _ ih d2 q;cases q with
  |tup y _=>exact (dR y x).elim
  |lst y q'=>cases bT x y;exact ih _ q'
  |fix y q'=>cases bT x y;exact ih _ q'
 .
  intro l a us x _ ih d2 q;cases q with
  |tup y _=>exact (dR y x).elim
  |lst y q'=>cases bT x y;exact ih _ q'
  |fix y q'=>cases bT x y;exact ih _ q'
 . intro m q;cases q;rfl
 .
  intro d ds u us _ _ i1 i2 m q;cases q with
  |@cons d' m _ _ b q'=>show (bW d d'&&dj ds m)=true;rw[i1 _ b,i2 _ q'];rfl
theorem Lq(q:Dv h d1 u)(q':Dv h d2 u):bW d1 d2=true:=Gp q d2 q'
def Qg(l m:List D)(j:Nat):Bool:=match l[j]?,m[j]? with |some a,some b=>bW a b |_,_=>false
theorem oF(l m:List D)(h:l.length=m.length):(List.range l.length).all (Qg l m)=dj l m:=by
 induction l generalizing m with
 |nil=>cases m with
  |nil=>rfl
  |cons _ _=>symm
 |cons a l ih=>cases m with
  |nil=>symm
  |cons b m=>rw[l4,List.range_succ_eq_map,List.all_cons,List.all_map];have e:(Qg (a::l) (b::m) ∘ Nat.succ)=Qg l m:=rfl;rw[e,ih m (B8 h)];rfl
theorem oG(l m:List D)(h:l.length≠m.length):dj l m=false:=by
 induction l generalizing m with
 |nil=>cases m with
  |nil=>exact absurd rfl h
  |cons _ _=>rfl
 |cons a l ih=>cases m with
  |nil=>rfl
  |cons b m=>show (bW a b&&dj l m)=false;rw[ih m (λe=>h (congrArg (· + 1) e)),Bool.and_false]
theorem vE(l m:List D):((List.range (min l.length m.length)).all (Qg l m)&&l.length==m.length)=dj l m:=by
 by_cases h:l.length=m.length
 . rw[h,Nat.min_self,<- h,oF l m h];simp
 .
  rw[oG l m h];have:(l.length==m.length)=false:=by simpa using h
  rw[this,Bool.and_false]
theorem oH{l:List D}{j:Nat}{d:D}(e:l[j]?=some d):dep d<=deps l:=by
 induction l generalizing j with
 |nil=>exact nomatch (show none=some d from e)
 |cons d' l ih=>cases j with
  |zero=>cases (show some d'=some d from e);exact Nat.le_max_left _ _
  |succ j=>exact kA (ih (show l[j]?=some d from e)) (Nat.le_max_right _ _)
theorem nD.get{h:Heap}{l:List D}{us:List Value}{j:Nat}{u:Value}(q:nD h l us)(e:us[j]?=some u):∃d,l[j]?=some d/\Dv h d u:=by
 induction l generalizing us j with
 |nil=>cases q;exact nomatch (show none=some u from e)
 |cons d' l ih=>cases q with |@cons _ _ u' us a b=>cases j with
  |zero=>cases (show some u'=some u from e);exact⟨_,rfl,a⟩
  |succ j=>obtain⟨d,h⟩:=ih (j:=j) b e;exact⟨d,h⟩
theorem in1_units(A:Around):A.in1.units=A.units+1:=rfl
section
theorem j6(hl:s.heap.IsList l us.toArray)(hb:s.heap.IsList b ws.toArray)(q:nD s.heap ls us)(q':nD s.heap ms ws)(hu:A.units<cLine)
  (he:∀(j:Nat) d1 d2 u1 u2,ls[j]?=some d1->Dv s.heap d1 u1->Dv s.heap d2 u2->SeqAt.EqAt A.in1 s u1 u2 (bW d1 d2)):SeqAt.RcAt A s (.ref l) (.ref b) (dj ls ms):=by
 have h1:=q.length;have h2:=q'.length;by_cases h:ls.length=ms.length
 .
  rw[<- oF ls ms h];have e:us.toArray.size=ls.length:=by rw[dE,h1]
  rw[<- e];refine SeqAt.RcAt.lists hl hb (by rw[dE,dE];lia) hu λj g1 g2=>?_
  rw[dE]at g1 g2;obtain⟨d1,e1,v1⟩:=q.get (j:=j) (u:=us[j]) (by simp[g1])
  obtain⟨d2,e2,v2⟩:=q'.get (j:=j) (u:=ws[j]) (by simp[g2])
  have:=he j d1 d2 us[j] ws[j] e1 v1 v2;simpa [Qg,e1,e2]using this
 . rw[oG ls ms h];refine SeqAt.RcAt.lists_lengths hl hb ?_ hu;rw[dE,dE];simp only[bne_iff_ne];lia
theorem Cv(hl:IsTup s.heap l us.toArray)(hb:IsTup s.heap b ws.toArray)(q:nD s.heap ls us)(q':nD s.heap ms ws)(hu:A.units<cLine)
  (he:∀(j:Nat) d1 d2 u1 u2,ls[j]?=some d1->Dv s.heap d1 u1->Dv s.heap d2 u2->SeqAt.EqAt A.in1 s u1 u2 (bW d1 d2)):SeqAt.RcAt A s (.ref l) (.ref b) (dj ls ms):=by
 have h1:=q.length;have h2:=q'.length;have e:us.toArray.size=ls.length:=by rw[dE,h1]
 have e':ws.toArray.size=ms.length:=by rw[dE,h2]
 rw[<- vE,<- e,<- e'];refine SeqAt.RcAt.tuples hl hb hu λj g1 g2=>?_
 rw[dE]at g1 g2;obtain⟨d1,e1,v1⟩:=q.get (j:=j) (u:=us[j]) (by simp[g1])
 obtain⟨d2,e2,v2⟩:=q'.get (j:=j) (u:=ws[j]) (by simp[g2])
 have:=he j d1 d2 us[j] ws[j] e1 v1 v2;simpa [Qg,e1,e2]using this
theorem iJ(x:Dv s.heap d1 (.ref l))(y:Dv s.heap d2 (.ref b))(h:SeqAt.RcAt A s (.ref l) (.ref b) (bW d1 d2)):SeqAt.EqAt A s (.ref l) (.ref b) (bW d1 d2):=by
 by_cases e:l=b
 . subst e;rw[Lq x y];exact .same _
 . exact .of_refs e h
end
theorem Gq{s:Shared}:∀(n:Nat) {d1 d2:D}{u1 u2:Value}{A:Around},dep d1<=n->Dv s.heap d1 u1->Dv s.heap d2 u2->A.units+n<cLine->SeqAt.EqAt A s u1 u2 (bW d1 d2)/\SeqAt.RcAt A s u1 u2 (bW d1 d2):=by
 intro n
 induction n with
 |zero=>
  intro d1 d2 u1 u2 A hn x y hu;have aR:A.units<cLine:=by lia
  cases x with
  |tup h q=>exact absurd hn (AZ _)
  |lst h q=>exact absurd hn (AZ _)
  |fix h q=>exact absurd hn (AZ _)
  |non=>
   cases y with
   |non=>exact⟨.same _,.none_none⟩
   |bl c'=>exact⟨.none_bool c',.none_bool c'⟩
   |int c' t'=>exact⟨.none_int c' t',.none_int c' t'⟩
   |str c' t'=>exact⟨.none_str c' t',.none_str c' t'⟩
   |tup h' q'=>exact⟨.none_tuple h' aR,.none_tuple h' aR⟩
   |lst h' q'=>exact⟨.none_list h' aR,.none_list h' aR⟩
   |fix h' q'=>exact⟨.none_list h' aR,.none_list h' aR⟩
  |bl c=>
   cases y with
   |non=>exact⟨.bool_none c,.bool_none c⟩
   |bl c'=>exact⟨.bool_bool c c',.bool_bool c c'⟩
   |int c' t'=>exact⟨.bool_int c c' t',.bool_int c c' t'⟩
   |str c' t'=>exact⟨.bool_str c c' t',.bool_str c c' t'⟩
   |tup h' q'=>exact⟨.bool_tuple c h' aR,.bool_tuple c h' aR⟩
   |lst h' q'=>exact⟨.bool_list c h' aR,.bool_list c h' aR⟩
   |fix h' q'=>exact⟨.bool_list c h' aR,.bool_list c h' aR⟩
  |int c t=>
   cases y with
   |non=>exact⟨.int_none c t,.int_none c t⟩
   |bl c'=>exact⟨.int_bool c t c',.int_bool c t c'⟩
   |int c' t'=>exact⟨.int_int c t c' t',.int_int c t c' t'⟩
   |str c' t'=>exact⟨.int_str c t c' t',.int_str c t c' t'⟩
   |tup h' q'=>exact⟨.int_tuple c t h' aR,.int_tuple c t h' aR⟩
   |lst h' q'=>exact⟨.int_list c t h' aR,.int_list c t h' aR⟩
   |fix h' q'=>exact⟨.int_list c t h' aR,.int_list c t h' aR⟩
  |str c t=>
   cases y with
   |non=>exact⟨.str_none c t,.str_none c t⟩
   |bl c'=>exact⟨.str_bool c t c',.str_bool c t c'⟩
   |int c' t'=>exact⟨.str_int c t c' t',.str_int c t c' t'⟩
   |str c' t'=>exact⟨.str_str c t c' t',.str_str c t c' t'⟩
   |tup h' q'=>exact⟨.str_tuple c t h' aR,.str_tuple c t h' aR⟩
   |lst h' q'=>exact⟨.str_list c t h' aR,.str_list c t h' aR⟩
   |fix h' q'=>exact⟨.str_list c t h' aR,.str_list c t h' aR⟩
 |succ n ih=>
  intro d1 d2 u1 u2 A hn x y hu;have aR:A.units<cLine:=by lia
  have el:∀{l:List D},deps l<=n->∀(j:Nat) d1 d2 u1 u2,l[j]?=some d1->Dv s.heap d1 u1->Dv s.heap d2 u2->SeqAt.EqAt A.in1 s u1 u2 (bW d1 d2):=λhl j d1 d2 u1 u2 e v1 v2=>
   (ih (kA (oH e) hl) v1 v2 (by rw[in1_units];lia)).1
  cases x with
  |@tup l0 a0 us0 h q=>
   have hn':deps l0<=n:=B0 hn;have x:=Dv.tup h q;cases y with
   |tup h' q'=>have r:=Cv h h' q q' aR (el hn');exact⟨iJ x (.tup h' q') r,r⟩
   |lst h' q'=>exact⟨.tuple_list h h' aR,.tuple_list h h' aR⟩
   |fix h' q'=>exact⟨.tuple_list h h' aR,.tuple_list h h' aR⟩
   |non=>exact⟨.tuple_none h aR,.tuple_none h aR⟩
   |bl b=>exact⟨.tuple_bool b h aR,.tuple_bool b h aR⟩
   |int b t=>exact⟨.tuple_int b t h aR,.tuple_int b t h aR⟩
   |str b t=>exact⟨.tuple_str b t h aR,.tuple_str b t h aR⟩
  |@lst l0 a0 us0 h q=>
   have hn':deps l0<=n:=B0 hn;have x:=Dv.lst h q;cases y with
   |tup h' q'=>exact⟨.list_tuple h h' aR,.list_tuple h h' aR⟩
   |lst h' q'=>have r:=j6 h h' q q' aR (el hn');exact⟨iJ x (.lst h' q') r,r⟩
   |fix h' q'=>have r:=j6 h h' q q' aR (el hn');exact⟨iJ x (.fix h' q') r,r⟩
   |non=>exact⟨.list_none h aR,.list_none h aR⟩
   |bl b=>exact⟨.list_bool b h aR,.list_bool b h aR⟩
   |int b t=>exact⟨.list_int b t h aR,.list_int b t h aR⟩
   |str b t=>exact⟨.list_str b t h aR,.list_str b t h aR⟩
  |@fix l0 a0 us0 h q=>
   have hn':deps l0<=n:=B0 hn;have x:=Dv.fix h q;cases y with
   |tup h' q'=>exact⟨.list_tuple h h' aR,.list_tuple h h' aR⟩
   |lst h' q'=>have r:=j6 h h' q q' aR (el hn');exact⟨iJ x (.lst h' q') r,r⟩
   |fix h' q'=>have r:=j6 h h' q q' aR (el hn');exact⟨iJ x (.fix h' q') r,r⟩
   |non=>exact⟨.list_none h aR,.list_none h aR⟩
   |bl b=>exact⟨.list_bool b h aR,.list_bool b h aR⟩
   |int b t=>exact⟨.list_int b t h aR,.list_int b t h aR⟩
   |str b t=>exact⟨.list_str b t h aR,.list_str b t h aR⟩
  |non=>
   cases y with
   |non=>exact⟨.same _,.none_none⟩
   |bl c'=>exact⟨.none_bool c',.none_bool c'⟩
   |int c' t'=>exact⟨.none_int c' t',.none_int c' t'⟩
   |str c' t'=>exact⟨.none_str c' t',.none_str c' t'⟩
   |tup h' q'=>exact⟨.none_tuple h' aR,.none_tuple h' aR⟩
   |lst h' q'=>exact⟨.none_list h' aR,.none_list h' aR⟩
   |fix h' q'=>exact⟨.none_list h' aR,.none_list h' aR⟩
  |bl c=>
   cases y with
   |non=>exact⟨.bool_none c,.bool_none c⟩
   |bl c'=>exact⟨.bool_bool c c',.bool_bool c c'⟩
   |int c' t'=>exact⟨.bool_int c c' t',.bool_int c c' t'⟩
   |str c' t'=>exact⟨.bool_str c c' t',.bool_str c c' t'⟩
   |tup h' q'=>exact⟨.bool_tuple c h' aR,.bool_tuple c h' aR⟩
   |lst h' q'=>exact⟨.bool_list c h' aR,.bool_list c h' aR⟩
   |fix h' q'=>exact⟨.bool_list c h' aR,.bool_list c h' aR⟩
  |int c t=>
   cases y with
   |non=>exact⟨.int_none c t,.int_none c t⟩
   |bl c'=>exact⟨.int_bool c t c',.int_bool c t c'⟩
   |int c' t'=>exact⟨.int_int c t c' t',.int_int c t c' t'⟩
   |str c' t'=>exact⟨.int_str c t c' t',.int_str c t c' t'⟩
   |tup h' q'=>exact⟨.int_tuple c t h' aR,.int_tuple c t h' aR⟩
   |lst h' q'=>exact⟨.int_list c t h' aR,.int_list c t h' aR⟩
   |fix h' q'=>exact⟨.int_list c t h' aR,.int_list c t h' aR⟩
  |str c t=>
   cases y with
   |non=>exact⟨.str_none c t,.str_none c t⟩
   |bl c'=>exact⟨.str_bool c t c',.str_bool c t c'⟩
   |int c' t'=>exact⟨.str_int c t c' t',.str_int c t c' t'⟩
   |str c' t'=>exact⟨.str_str c t c' t',.str_str c t c' t'⟩
   |tup h' q'=>exact⟨.str_tuple c t h' aR,.str_tuple c t h' aR⟩
   |lst h' q'=>exact⟨.str_list c t h' aR,.str_list c t h' aR⟩
   |fix h' q'=>exact⟨.str_list c t h' aR,.str_list c t h' aR⟩
section
variable{K:Frag}
theorem Pk.int{i:Int}(h:Pk K M H (.int i) v):v=.int i:=by cases h with |of r=>cases r;rfl
theorem Pk.bl(h:Pk K M H (.bl i) v):v=.bl i:=by cases h with |of r=>cases r;rfl
theorem Pk.str(h:Pk K M H (.str i) v):v=.str i:=by cases h with |of r=>cases r;rfl
theorem Pk.non(h:Pk K M H .non v):v=.non:=by cases h with |of r=>cases r;rfl
theorem Pk.tup{l:List D}(h:Pk K M H (.tup l) v):∃a xs,v=.ref a/\TupAt K M H a xs/\aH K M H l xs:=by cases h with |of r=>cases r with |tup h1 h2=>exact⟨_,_,rfl,h1,h2⟩
theorem Pk.fix{l:List D}(h:Pk K M H (.fix l) v):∃a xs,v=.ref a/\oA K M H a xs/\aH K M H l xs:=by cases h with |of r=>cases r with |fix h1 h2=>exact⟨_,_,rfl,h1,h2⟩
end
section
theorem z7{f:Value->Value->Sem Value}{k:Int->Int->Int}{i j:Int}(h:mV X f (J4 λi j=>.int (k i j))):nB X z f (.int i) (.int j) (.dat (.int (k i j))):=
 ⟨_,h,λg Y As M H v1 v2 Q s p1 p2 kk=>⟨i,j,p1.int,p2.int,kk _ H As M s (ao.refl _ _) (.int _)⟩⟩
theorem tQ{f:Value->Value->Sem Value}{C:Int->Int->Prop}{k:Int->Int->Int}{i j:Int}(h:mV X f (rI C λi j=>.int (k i j)))(hc:C i j):nB X z f (.int i) (.int j) (.dat (.int (k i j))):=
 ⟨_,h,λg Y As M H v1 v2 Q s p1 p2 kk=>⟨i,j,p1.int,p2.int,hc,kk _ H As M s (ao.refl _ _) (.int _)⟩⟩
theorem tR{f:Value->Value->Sem Value}{k:Int->Int->Bool}{i j:Int}(h:mV X f (J4 λi j=>.bl (k i j))):nB X z f (.int i) (.int j) (.dat (.bl (k i j))):=
 ⟨_,h,λg Y As M H v1 v2 Q s p1 p2 kk=>⟨i,j,p1.int,p2.int,kk _ H As M s (ao.refl _ _) (.bl _)⟩⟩
def Sl(z:Z)(d1 d2:D)(b:Bool):R2:=λx y H Q=>(∃M,Pk z.K M H d1 x/\Pk z.K M H d2 y)/\Q (.bl b) H
theorem Ym(hK:z.K=X.K)(p1:g5 d1=true)(p2:g5 d2=true)(hd:X.A.units+dep d1<cLine):nB X z (compareOp .Eq) d1 d2 (.dat (.bl (bW d1 d2))):=by
 refine⟨Sl z d1 d2 (bW d1 d2),?_,λg Y As M H v1 v2 Q s q1 q2 kk=>⟨⟨M,q1,q2⟩,kk _ H As M s (ao.refl _ _) (.bl _)⟩⟩
 intro ah s Y H x y v u Q I rx ry h;obtain⟨⟨M,q1,q2⟩,q⟩:=h;rw[hK]at q1 q2;exact (Gq (dep d1) (eC _) (q1.dv I rx p1) (q2.dv I ry p2) hd).2 X.prog X.w X.xe _ ⟨.bl _,H,I,rfl,q⟩
section
theorem j7(hl:s.heap.IsList l us.toArray)(hb:s.heap.IsList b ws.toArray)(q:nD s.heap ls us)(q':nD s.heap ms ws)(hu:A.units<cLine)
  (he:∀(j:Nat) d1 d2 u1 u2,ls[j]?=some d1->Dv s.heap d1 u1->Dv s.heap d2 u2->SeqAt.EqAt A.in1 s u1 u2 (bW d1 d2)):SeqAt.RcNeAt A s (.ref l) (.ref b) (!dj ls ms):=by
 have h1:=q.length;have h2:=q'.length;by_cases h:ls.length=ms.length
 .
  rw[<- oF ls ms h];have e:us.toArray.size=ls.length:=by rw[dE,h1]
  rw[<- e];refine SeqAt.RcNeAt.lists hl hb (by rw[dE,dE];lia) hu λj g1 g2=>?_
  rw[dE]at g1 g2;obtain⟨d1,e1,v1⟩:=q.get (j:=j) (u:=us[j]) (by simp[g1])
  obtain⟨d2,e2,v2⟩:=q'.get (j:=j) (u:=ws[j]) (by simp[g2])
  have:=he j d1 d2 us[j] ws[j] e1 v1 v2;simpa [Qg,e1,e2]using this
 . rw[oG ls ms h];refine SeqAt.RcNeAt.lists_lengths hl hb ?_ hu;rw[dE,dE];simp only[bne_iff_ne];lia
theorem Cw(hl:IsTup s.heap l us.toArray)(hb:IsTup s.heap b ws.toArray)(q:nD s.heap ls us)(q':nD s.heap ms ws)(hu:A.units<cLine)
  (he:∀(j:Nat) d1 d2 u1 u2,ls[j]?=some d1->Dv s.heap d1 u1->Dv s.heap d2 u2->SeqAt.EqAt A.in1 s u1 u2 (bW d1 d2)):SeqAt.RcNeAt A s (.ref l) (.ref b) (!dj ls ms):=by
 have h1:=q.length;have h2:=q'.length;have e:us.toArray.size=ls.length:=by rw[dE,h1]
 have e':ws.toArray.size=ms.length:=by rw[dE,h2]
 rw[<- vE,<- e,<- e'];refine SeqAt.RcNeAt.tuples hl hb hu λj g1 g2=>?_
 rw[dE]at g1 g2;obtain⟨d1,e1,v1⟩:=q.get (j:=j) (u:=us[j]) (by simp[g1])
 obtain⟨d2,e2,v2⟩:=q'.get (j:=j) (u:=ws[j]) (by simp[g2])
 have:=he j d1 d2 us[j] ws[j] e1 v1 v2;simpa [Qg,e1,e2]using this
end
theorem Yn(x:Dv s.heap d1 u1)(y:Dv s.heap d2 u2)(hu:A.units+dep d1<cLine):SeqAt.RcNeAt A s u1 u2 (!bW d1 d2):=by
 have aR:A.units<cLine:=by lia
 have el:∀{l:List D},deps l+1<=dep d1->∀(j:Nat) d1 d2 u1 u2,l[j]?=some d1->Dv s.heap d1 u1->Dv s.heap d2 u2->SeqAt.EqAt A.in1 s u1 u2 (bW d1 d2):=λhl j e1 e2 u1 u2 e v1 v2=>
  (Gq (dep e1) (eC _) v1 v2 (by rw[in1_units];have:=oH e;lia)).1
 cases x with
 |tup h q=>
  cases y with
  |tup h' q'=>exact Cw h h' q q' aR (el (by simp[dep]))
  |lst h' q'=>exact .tuple_list h h' aR
  |fix h' q'=>exact .tuple_list h h' aR
  |non=>exact .tuple_none h aR
  |bl b=>exact .tuple_bool b h aR
  |int b t=>exact .tuple_int b t h aR
  |str b t=>exact .tuple_str b t h aR
 |lst h q=>
  cases y with
  |tup h' q'=>exact .list_tuple h h' aR
  |lst h' q'=>exact j7 h h' q q' aR (el (by simp[dep]))
  |fix h' q'=>exact j7 h h' q q' aR (el (by simp[dep]))
  |non=>exact .list_none h aR
  |bl b=>exact .list_bool b h aR
  |int b t=>exact .list_int b t h aR
  |str b t=>exact .list_str b t h aR
 |fix h q=>
  cases y with
  |tup h' q'=>exact .list_tuple h h' aR
  |lst h' q'=>exact j7 h h' q q' aR (el (by simp[dep]))
  |fix h' q'=>exact j7 h h' q q' aR (el (by simp[dep]))
  |non=>exact .list_none h aR
  |bl b=>exact .list_bool b h aR
  |int b t=>exact .list_int b t h aR
  |str b t=>exact .list_str b t h aR
 |non=>
  cases y with
  |non=>exact .none_none
  |bl c'=>exact .none_bool c'
  |int c' t'=>exact .none_int c' t'
  |str c' t'=>exact .none_str c' t'
  |tup h' q'=>exact .none_tuple h' aR
  |lst h' q'=>exact .none_list h' aR
  |fix h' q'=>exact .none_list h' aR
 |bl c=>
  cases y with
  |non=>exact .bool_none c
  |bl c'=>exact .bool_bool c c'
  |int c' t'=>exact .bool_int c c' t'
  |str c' t'=>exact .bool_str c c' t'
  |tup h' q'=>exact .bool_tuple c h' aR
  |lst h' q'=>exact .bool_list c h' aR
  |fix h' q'=>exact .bool_list c h' aR
 |int c t=>
  cases y with
  |non=>exact .int_none c t
  |bl c'=>exact .int_bool c t c'
  |int c' t'=>exact .int_int c t c' t'
  |str c' t'=>exact .int_str c t c' t'
  |tup h' q'=>exact .int_tuple c t h' aR
  |lst h' q'=>exact .int_list c t h' aR
  |fix h' q'=>exact .int_list c t h' aR
 |str c t=>
  cases y with
  |non=>exact .str_none c t
  |bl c'=>exact .str_bool c t c'
  |int c' t'=>exact .str_int c t c' t'
  |str c' t'=>exact .str_str c t c' t'
  |tup h' q'=>exact .str_tuple c t h' aR
  |lst h' q'=>exact .str_list c t h' aR
  |fix h' q'=>exact .str_list c t h' aR
theorem Yo(hK:z.K=X.K)(p1:g5 d1=true)(p2:g5 d2=true)(hd:X.A.units+dep d1<cLine):nB X z (compareOp .NotEq) d1 d2 (.dat (.bl (!bW d1 d2))):=by
 refine⟨Sl z d1 d2 (!bW d1 d2),?_,λg Y As M H v1 v2 Q s q1 q2 kk=>⟨⟨M,q1,q2⟩,kk _ H As M s (ao.refl _ _) (.bl _)⟩⟩
 intro ah s Y H x y v u Q I rx ry h;obtain⟨⟨M,q1,q2⟩,q⟩:=h;rw[hK]at q1 q2;exact Yn (q1.dv I rx p1) (q2.dv I ry p2) hd X.prog X.w X.xe _ ⟨.bl _,H,I,rfl,q⟩
theorem Gr(q:Dv h d u):∀d' x,Dv h d' u->bW d x=bW d' x:=by
 have two:∀{l l':List D} (x:D),(∀m,dj l m=dj l' m)->bW (.lst l) x=bW (.lst l') x/\bW (.fix l) x=bW (.lst l') x/\bW (.lst l) x=bW (.fix l') x/\bW (.fix l) x=bW (.fix l') x:=λx k=>by
  cases x with
  |lst m=>exact⟨k m,k m,k m,k m⟩
  |fix m=>exact⟨k m,k m,k m,k m⟩
  |_=>exact⟨rfl,rfl,rfl,rfl⟩
 refine Dv.rec (motive_1:=λd u _=>∀d' x,Dv h d' u->bW d x=bW d' x) (motive_2:=λl us _=>∀l' m,nD h l' us->dj l m=dj l' m) ?_ ?_ ?_ ?_ ?_ ?_ ?_ ?_ ?_ q
 . intro d' x q;cases q;rfl
 . intro b d' x q;cases q;rfl
 . intro i t d' x q;cases q;rfl
 . intro y t d' x q;cases q;rfl
 .
  intro l a us k _ ih d' x q;cases q with
  |tup y q'=>
   cases rB k y;cases x with
   |tup m=>exact ih _ m q'
   |_=>rfl
  |lst y _=>exact (dR k y).elim
  |fix y _=>exact (dR k y).elim
 .
  intro l a us k _ ih d' x q;cases q with
  |tup y _=>exact (dR y k).elim
  |lst y q'=>cases bT k y;exact (two x λm=>ih _ m q').1
  |fix y q'=>cases bT k y;exact (two x λm=>ih _ m q').2.2.1
 .
  intro l a us k _ ih d' x q;cases q with
  |tup y _=>exact (dR y k).elim
  |lst y q'=>cases bT k y;exact (two x λm=>ih _ m q').2.1
  |fix y q'=>cases bT k y;exact (two x λm=>ih _ m q').2.2.2
 . intro l' m q;cases q;rfl
 .
  intro d ds u us _ _ i1 i2 l' m q;cases q with
  |@cons d' l' _ _ b q'=>cases m with
   |nil=>rfl
   |cons y m=>show (bW d y&&dj ds m)=(bW d' y&&dj l' m);rw[i1 _ y b,i2 _ m q']
theorem Lr(x:D)(q:Dv h d u)(q':Dv h d' u):bW d x=bW d' x:=Gr q d' x q'
open Classical in
def qu(h:Heap)(x:D)(u:Value):Bool:=decide (∃d,Dv h d u/\bW d x=true)
open Classical in
theorem Gs(q:Dv h d u):qu h x u=bW d x:=by
 unfold qu;cases e:bW d x with
 |true=>exact sK ⟨d,q,e⟩
 |false=>refine sB ?_;rintro⟨d',q',e'⟩;rw[Lr x q' q,e]at e';cases e'
theorem iV(q:nD h l us):us.any (qu h x)=l.any λd=>bW d x:=by
 induction l generalizing us with
 |nil=>cases q;rfl
 |cons d l ih=>cases q with |cons a b=>rw[List.any_cons,List.any_cons,Gs a,ih b]
def Yp(z:Z)(d1 d2:D)(b:Bool):R2:=Sl z d1 d2 b
theorem lB{A:Around}{s:Shared}{x:D}{u:Value}{l:List D}{us:List Value}(q:nD s.heap l us)(hx:Dv s.heap x u)(hu:A.units+deps l+1<cLine):∀y,y∈us.toArray->SeqAt.EqAt A.in1 s y u (qu s.heap x y):=by
 intro y hy;have hy':y∈us:=by simpa using hy
 obtain⟨j,hj⟩:=List.getElem?_of_mem hy';obtain⟨d,e,qd⟩:=q.get hj;rw[Gs qd];have:=oH e;exact (Gq (dep d) (eC _) qd hx (by rw[in1_units];lia)).1
noncomputable def dm:D->Option (List D)
 |.lst l=>some l
 |.tup l=>some l
 |.fix l=>some l
 |_=>none
theorem Yq(hK:z.K=X.K)(hs:dm d2=some l)(p1:g5 d1=true)(p2:fy l=true)(hd:X.A.units+deps l+1<cLine):nB X z (compareOp .In) d1 d2 (.dat (.bl (l.any λd=>bW d d1))):=by
 refine⟨Yp z d1 d2 (l.any λd=>bW d d1),?_,λg Y As M H v1 v2 Q s q1 q2 kk=>⟨⟨M,q1,q2⟩,kk _ H As M s (ao.refl _ _) (.bl _)⟩⟩
 intro ah s Y H x y v u Q I rx ry h;obtain⟨⟨M,q1,q2⟩,q⟩:=h;rw[hK]at q1 q2;have hx:=q1.dv I rx p1;cases d2 with
 |lst m=>
  cases hs;obtain⟨a,xs,rfl,ha,rr⟩:=q2.list;cases ry;obtain⟨its,rv,pl,hz⟩:=I.list (cz.of ha);have kP:=rr.dv I rv p2;refine SeqAt.in_listAt (qu s.heap d1) pl.isList (lB kP hx hd) ⟨.bl _,H,I,rfl,?_⟩;rw[show its.toArray.any (qu s.heap d1)=its.any (qu s.heap d1)by simp,iV kP]
  exact q
 |fix m=>
  cases hs;obtain⟨a,xs,rfl,ha,rr⟩:=q2.fix;cases ry;obtain⟨its,rv,pl,hz⟩:=I.list ha.sq;have kP:=rr.dv I rv p2;refine SeqAt.in_listAt (qu s.heap d1) pl.isList (lB kP hx hd) ⟨.bl _,H,I,rfl,?_⟩;rw[show its.toArray.any (qu s.heap d1)=its.any (qu s.heap d1)by simp,iV kP]
  exact q
 |tup m=>
  cases hs;obtain⟨a,xs,rfl,ha,rr⟩:=q2.tup;cases ry;obtain⟨its,rv,pl,hz⟩:=I.tuple ha.sq;have kP:=rr.dv I rv p2;refine SeqAt.in_tupleAt (qu s.heap d1) pl (lB kP hx hd) ⟨.bl _,H,I,rfl,?_⟩;rw[show its.toArray.any (qu s.heap d1)=its.any (qu s.heap d1)by simp,iV kP]
  exact q
 |_=>cases hs
theorem Gu(hK:z.K=X.K)(hs:dm d2=some l)(p1:g5 d1=true)(p2:fy l=true)(hd:X.A.units+deps l+1<cLine):nB X z (compareOp .NotIn) d1 d2 (.dat (.bl (!l.any λd=>bW d d1))):=by
 refine⟨Yp z d1 d2 (!l.any λd=>bW d d1),?_,λg Y As M H v1 v2 Q s q1 q2 kk=>⟨⟨M,q1,q2⟩,kk _ H As M s (ao.refl _ _) (.bl _)⟩⟩
 intro ah s Y H x y v u Q I rx ry h;obtain⟨⟨M,q1,q2⟩,q⟩:=h;rw[hK]at q1 q2;have hx:=q1.dv I rx p1;cases d2 with
 |lst m=>
  cases hs;obtain⟨a,xs,rfl,ha,rr⟩:=q2.list;cases ry;obtain⟨its,rv,pl,hz⟩:=I.list (cz.of ha);have kP:=rr.dv I rv p2;refine SeqAt.notIn_listAt (qu s.heap d1) pl.isList (lB kP hx hd) ⟨.bl _,H,I,rfl,?_⟩;rw[show its.toArray.any (qu s.heap d1)=its.any (qu s.heap d1)by simp,iV kP]
  exact q
 |fix m=>
  cases hs;obtain⟨a,xs,rfl,ha,rr⟩:=q2.fix;cases ry;obtain⟨its,rv,pl,hz⟩:=I.list ha.sq;have kP:=rr.dv I rv p2;refine SeqAt.notIn_listAt (qu s.heap d1) pl.isList (lB kP hx hd) ⟨.bl _,H,I,rfl,?_⟩;rw[show its.toArray.any (qu s.heap d1)=its.any (qu s.heap d1)by simp,iV kP]
  exact q
 |tup m=>
  cases hs;obtain⟨a,xs,rfl,ha,rr⟩:=q2.tup;cases ry;obtain⟨its,rv,pl,hz⟩:=I.tuple ha.sq;have kP:=rr.dv I rv p2;refine SeqAt.notIn_tupleAt (qu s.heap d1) pl (lB kP hx hd) ⟨.bl _,H,I,rfl,?_⟩;rw[show its.toArray.any (qu s.heap d1)=its.any (qu s.heap d1)by simp,iV kP]
  exact q
 |_=>cases hs
theorem Sq(h:l.length+m.length<=16777216):nB X z (binaryOp .Add) (.lst l) (.lst m) (.new (l++m)):=by
 refine⟨_,Rz,λg Y As M H v1 v2 Q s q1 q2 kk=>?_⟩
 obtain⟨a,xs,rfl,ha,ra⟩:=q1.list;obtain⟨b,ys,rfl,hb,rb⟩:=q2.list;refine⟨a,b,xs,ys,rfl,rfl,ha,hb,by rw[<- ra.length,<- rb.length];exact iI h,λp hp=>?_⟩
 exact kk _ _ As (p::M) (s.aY hp) (ao.aY hp) ⟨p,_,rfl,dC,λhA=>s.fresh hp (s.sub p hA),s.cS hp,aE,(ra.append rb).stay (ao.aY hp)⟩
theorem Ss(h1 : -(2 ^ 63)<=k)(h2:k<2 ^ 63)(h:l.length * k.toNat<=16777216):nB X z (binaryOp .Mult) (.lst l) (.int k) (.new (List.replicate k.toNat l).flatten):=by
 refine⟨_,RB,λg Y As M H v1 v2 Q s q1 q2 kk=>?_⟩
 obtain⟨a,xs,rfl,ha,ra⟩:=q1.list;have rr:∀n,aH z.K M H (List.replicate n l).flatten (List.replicate n xs).flatten:=λn=>by
  induction n with
  |zero=>simp;exact .nil
  |succ n ih=>rw[oQ,oQ,tS,tS];exact ra.append ih
 refine⟨a,k,xs,rfl,q2.int,ha,h1,h2,by rw[<- ra.length];exact iI h,λp hp=>?_⟩
 exact kk _ _ As (p::M) (s.aY hp) (ao.aY hp) ⟨p,_,rfl,dC,λhA=>s.fresh hp (s.sub p hA),s.cS hp,aE,(rr _).stay (ao.aY hp)⟩
def Sv(K:Frag):R2:=λx y H Q=>∃a b xs ys,x=.ref a/\y=.ref b/\fP K H a xs/\fP K H b ys/\xs.length+ys.length<=sizeLine/\
 (xs=[]->Q (.ref b) H)/\(xs≠[]->ys=[]->Q (.ref a) H)/\(xs≠[]->ys≠[]->∀p,H p=none->Q (.ref p) (upd H p (.tup (xs++ys))))
theorem Gv:mV X (binaryOp .Add) (Sv X.K):=by
 intro ah s Y H x y v u Q I rx ry h;obtain⟨a,b,xs,ys,rfl,rfl,ha,hb,hz,q0,q1,q2⟩:=h;by_cases hx:xs=[]
 .
  subst hx;cases rx;cases ry;obtain⟨its,r1,p1,_⟩:=I.tuple ha;obtain⟨kO,r2,p2,_⟩:=I.tuple hb;cases r1;obtain⟨⟨cls,dd,data,sl⟩,ho,hc,n,hd⟩:=id p1;obtain⟨⟨XX,dd2,data2,sl2⟩,ho2,hc2,n2,hd2⟩:=id p2;simp only at hc hd hc2 hd2;subst hc hd hc2 hd2;exact concat_meets ⟨_,ho,rfl⟩ ⟨_,ho2,rfl⟩ noFill_tuple_add seq_tuple_add BU BC (Bz _ _)
   (tuple_addW0 a b #[] kO.toArray n n2 dd dd2 sl sl2 ⋯) ⟨ho,ho2,⟨.ref b,H,I,rfl,q0 rfl⟩⟩
 . exact KY ah s Y H (.ref a) (.ref b) v u Q I rx ry ⟨a,b,xs,ys,rfl,rfl,ha,hb,hx,hz,q1 hx,q2 hx⟩
theorem Ls(hK:z.K=X.K)(h:l.length+m.length<=16777216):nB X z (binaryOp .Add) (.tup l) (.tup m) (.dat (.tup (l++m))):=by
 refine⟨_,Gv,λg Y As M H v1 v2 Q s q1 q2 kk=>?_⟩
 obtain⟨a,xs,rfl,ha,ra⟩:=q1.tup;obtain⟨b,ys,rfl,hb,rb⟩:=q2.tup;have la:=ra.length;have lb:=rb.length;refine⟨a,b,xs,ys,rfl,rfl,hK▸ha.sq,hK▸hb.sq,by rw[<- la,<- lb];exact iI h,λe=>?_,λe1 e2=>?_,λe1 e2 p hp=>?_⟩
 .
  subst e;cases l with
  |nil=>exact kk _ H As M s (ao.refl _ _) (.tup hb rb)
  |cons _ _=>simp at la
 .
  subst e2;cases m with
  |nil=>rw[nK]at kk;exact kk _ H As M s (ao.refl _ _) (.tup ha ra)
  |cons _ _=>simp at lb
 . exact kk _ _ As M (s.laid hp) (ao.laid hp) (.tup (.inl ⟨s.fresh hp,.inl aE⟩) ((ra.append rb).stay (ao.laid hp)))
theorem oJ{K:Frag}{M:List Addr}{H:Hp}{l:List D}{xs:List V}{i:Int}{d:D}(r:aH K M H l xs)(h:fG l i=some d):∃v,fG xs i=some v/\Rep K M H d v:=by
 unfold fG at h ⊢
 rw[<- r.length];cases e:nq l.length i with
 |none=>rw[e]at h;symm
 |some j=>rw[e]at h;have h':l[j]?=some d:=h;obtain⟨v,h1,h2⟩:=r.get h';exact⟨v,h1,h2⟩
theorem Sw{l:List D}{i:Int}{d:D}(hK:z.K=X.K)(h:fG l i=some d):Wx X z (.lst l) (.int i) (.dat d):=by
 refine⟨_,zX,λg Y As M H v1 v2 Q s q1 q2 kk=>?_⟩
 obtain⟨a,xs,rfl,ha,ra⟩:=q1.list;obtain⟨v,e,r⟩:=oJ ra h;exact⟨a,xs,i,v,rfl,q2.int,cz.of ha,e,kk _ H As M s (ao.refl _ _) r⟩
theorem Sx{l:List D}{i:Int}{d:D}(hK:z.K=X.K)(h:fG l i=some d):Wx X z (.fix l) (.int i) (.dat d):=by
 refine⟨_,zX,λg Y As M H v1 v2 Q s q1 q2 kk=>?_⟩
 obtain⟨a,xs,rfl,ha,ra⟩:=q1.fix;obtain⟨v,e,r⟩:=oJ ra h;exact⟨a,xs,i,v,rfl,q2.int,hK▸ha.sq,e,kk _ H As M s (ao.refl _ _) r⟩
theorem Lv{l:List D}{i:Int}{d:D}(hK:z.K=X.K)(h:fG l i=some d):Wx X z (.tup l) (.int i) (.dat d):=by
 refine⟨_,Ru,λg Y As M H v1 v2 Q s q1 q2 kk=>?_⟩
 obtain⟨a,xs,rfl,ha,ra⟩:=q1.tup;obtain⟨v,e,r⟩:=oJ ra h;exact⟨a,xs,i,v,rfl,q2.int,hK▸ha.sq,e,kk _ H As M s (ao.refl _ _) r⟩
noncomputable def bq:List D->Option (~~~0)
 | []=>some []
 |.int i::l=>match bq l with |some ns=>some (i::ns) |none=>none
 |_::_=>none
theorem bG{K:Frag}{M:List Addr}{H:Hp}{l:List D}{xs:List V}{ns: ~~~0}(q:aH K M H l xs)(e:bq l=some ns):xs=ns.map V.int:=by
 induction l generalizing xs ns with
 |nil=>cases q;cases e;rfl
 |cons d l ih=>cases q with |cons r q=>cases d with
  |int i=>
   have e:(match bq l with |some ns=>some (i::ns) |none=>none)=some ns:=e
   cases e2:bq l with
   |none=>rw[e2]at e;cases e
   |some ns=>rw[e2]at e;cases e;cases r;rw[List.map_cons,ih q e2]
  |_=>cases e
theorem Sy{l m:List D}{ns ms: ~~~0}(hK:z.K=X.K)(hu:X.A.units<cLine)(h1:bq l=some ns)(h2:bq m=some ms):nB X z (compareOp .Lt) (.tup l) (.tup m) (.dat (.bl (HT.lexLt ns ms))):=by
 refine⟨_,Rt hu,λg Y As M H v1 v2 Q s q1 q2 kk=>?_⟩
 obtain⟨a,xs,rfl,ha,ra⟩:=q1.tup;obtain⟨b,ys,rfl,hb,rb⟩:=q2.tup;have e1:=bG ra h1;have e2:=bG rb h2;subst e1 e2;exact⟨a,b,ns,ms,rfl,rfl,hK▸ha.sq,hK▸hb.sq,kk _ H As M s (ao.refl _ _) (.bl _)⟩
theorem Sz:UnD X z (unaryOp .USub) (.int i) (.dat (.int (-i))):=⟨_,FN,λg Y As M H v Q s p k=>⟨i,p.int,k _ H As M s (ao.refl _ _) (.int _)⟩⟩
end
section
theorem Lp.one{K:Frag}{M:List Addr}{H:Hp}{d:D}{vs:List V}(h:Lp K M H [d] vs):∃v,vs=[v]/\Pk K M H d v:=by cases h with |cons p q=>cases q;exact⟨_,rfl,p⟩
theorem Lp.two{K:Frag}{M:List Addr}{H:Hp}{d e:D}{vs:List V}(h:Lp K M H [d,e] vs):∃v w,vs=[v,w]/\Pk K M H d v/\Pk K M H e w:=by cases h with |cons p q=>cases q with |cons p' q'=>cases q';exact⟨_,_,rfl,p,p'⟩
noncomputable def Yr:D->Option Nat
 |.lst l=>some l.length
 |.tup l=>some l.length
 |.fix l=>some l.length
 |_=>none
theorem SJ{d:D}{n:Nat}(hK:z.K=X.K)(h:Yr d=some n):CallD X z (.builtin "len") [d] ‹n›:=by
 refine⟨_,FQ,λg Y As M H vs Q s p k=>?_⟩
 obtain⟨v,rfl,pv⟩:=p.one;refine⟨v,n,rfl,?_,k _ H As M s (ao.refl _ _) (.int _)⟩;cases d with
 |lst l=>symm;obtain⟨a,xs,rfl,ha,r⟩:=pv.list;exact .inl ⟨xs,cz.of ha,r.length⟩
 |fix l=>symm;obtain⟨a,xs,rfl,ha,r⟩:=pv.fix;exact .inl ⟨xs,hK▸ha.sq,r.length⟩
 |tup l=>symm;obtain⟨a,xs,rfl,ha,r⟩:=pv.tup;exact .inr ⟨xs,hK▸ha.sq,r.length⟩
 |_=>symm
theorem Lw{d:D}{l:List D}(hK:z.K=X.K)(h:dm d=some l):CallD X z (.type "list") [d] (.new l):=by
 refine⟨_,tE,λg Y As M H vs Q s p k=>?_⟩
 obtain⟨v,rfl,pv⟩:=p.one;have fin:∀xs,aH z.K M H l xs->∀p,H p=none->Q (.ref p) (upd H p (.lst xs)):=λxs r p hp=>
  k _ _ As (p::M) (s.aY hp) (ao.aY hp) ⟨p,xs,rfl,dC,λhA=>s.fresh hp (s.sub p hA),s.cS hp,aE,r.stay (ao.aY hp)⟩
 cases d with
 |lst m=>symm;obtain⟨a,xs,rfl,ha,r⟩:=pv.list;exact⟨a,xs,rfl,.inl (cz.of ha),fin xs r⟩
 |fix m=>symm;obtain⟨a,xs,rfl,ha,r⟩:=pv.fix;exact⟨a,xs,rfl,.inl (hK▸ha.sq),fin xs r⟩
 |tup m=>symm;obtain⟨a,xs,rfl,ha,r⟩:=pv.tup;exact⟨a,xs,rfl,.inr (hK▸ha.sq),fin xs r⟩
 |_=>symm
theorem Gw{d:D}{l:List D}(hK:z.K=X.K)(h:dm d=some l):CallD X z (.type "tuple") [d] (.dat (.tup l)):=by
 refine⟨_,qG,λg Y As M H vs Q s p k=>?_⟩
 obtain⟨v,rfl,pv⟩:=p.one;have fin:∀xs,aH z.K M H l xs->∀p,H p=none->Q (.ref p) (upd H p (.tup xs)):=λxs r p hp=>
  k _ _ As M (s.laid hp) (ao.laid hp) (.tup (.inl ⟨s.fresh hp,.inl aE⟩) (r.stay (ao.laid hp)))
 cases d with
 |lst m=>symm;obtain⟨a,xs,rfl,ha,r⟩:=pv.list;exact⟨a,xs,rfl,.inl ⟨cz.of ha,fin xs r⟩⟩
 |fix m=>symm;obtain⟨a,xs,rfl,ha,r⟩:=pv.fix;exact⟨a,xs,rfl,.inl ⟨hK▸ha.sq,fin xs r⟩⟩
 |tup m=>symm;obtain⟨a,xs,rfl,ha,r⟩:=pv.tup;exact⟨a,xs,rfl,.inr ⟨hK▸ha.sq,k _ H As M s (ao.refl _ _) (.tup ha r)⟩⟩
 |_=>symm
theorem SM{i j:Int}(hc:X.calm=true):CallD X z (.builtin "max") [.int i,.int j] (.dat (.int (if j > i then j else i))):=by
 refine⟨_,BZ hc,λg Y As M H vs Q s p k=>?_⟩
 obtain⟨v,w,rfl,p1,p2⟩:=p.two;exact⟨i,j,by rw[p1.int,p2.int],k _ H As M s (ao.refl _ _) (.int _)⟩
theorem SN{i j:Int}(hc:X.calm=true):CallD X z (.builtin "min") [.int i,.int j] (.dat (.int (if j<i then j else i))):=by
 refine⟨_,Ca hc,λg Y As M H vs Q s p k=>?_⟩
 obtain⟨v,w,rfl,p1,p2⟩:=p.two;exact⟨i,j,by rw[p1.int,p2.int],k _ H As M s (ao.refl _ _) (.int _)⟩
end
section
theorem oK(hc:X.calm=true):d8 X (.builtin "all") (λxs H Q=>∃(p:Addr) (bs:List Bool),xs=[.ref p]/\cz X.K H p (bs.map V.bl)/\Q (.bl (bs.all id)) H):=by
 intro ah s Y H xs us Q I r h;obtain⟨p,bs,rfl,hp,q⟩:=h;obtain⟨u,rfl,rx⟩:=vals1 r;cases rx;obtain⟨its,rv,pl,hz⟩:=I.list hp;have hlt:p<s⁻¹:=by obtain⟨_,e,_⟩:=pl.isList;exact eQ e
 have aJ:its.length=bs.length:=by rw[<- rv.length,fA]
 have up:∀b o,s.heap.get? b=some o->(s.heap.push { cls:=.type "list_iterator",data:=.fields #[.ref p,.int 0 0]}).get? b=some o:=λb o e=>bP _ e
 refine call_all_walk (AU pl.isList ?_);refine⟨s⁻¹,_,_,_,_,_,λi=>bs.getD i true,rfl,Walks.list (A:=X.A.in1) (show X.A.in1.handled=none from I.ok.hd hc) s⁻¹ p (i7 hlt) its.toArray,⟨⟨_,eM _ rfl,rfl,rfl⟩,pl.isList.push _⟩,?_,λh' tk hk=>?_⟩
 .
  intro i v s' Q' E' hv hq;have hv':its[i]?=some v:=by simpa using hv
  have hi:i<bs.length:=by rw[<- aJ];exact (dL.mp hv').1
  obtain⟨w,e1,e2⟩:=rv.get (i:=i) (x:=V.bl bs[i]) (by simp[hi])
  rw[hv']at e1;cases e1;cases e2;refine mM ?_;have:bs.getD i true=bs[i]:=by simp[List.getD,hi]
  rw[<- this];exact hq
 .
  have I1:L2.Inv X ah Y H { s with heap:=h',toks:=tk}:=I.kept λb o e=>hk b o (λhm=>by
   have:b=s⁻¹:=by simpa using hm
   exact absurd (eQ e) (by rw[this];exact nE _)) (up b o e)
  refine⟨.bl (bs.all id),H,I1,?_,q⟩;have e:(List.range its.toArray.size).all (λi=>bs.getD i true)=bs.all id:=by
   rw[dE,aJ];rw[Bool.eq_iff_iff];simp only[i4,wE,id];constructor
   . intro h b hb;obtain⟨j,hj⟩:=List.getElem?_of_mem hb;have hj':=(dL.mp hj).1;have:=h j hj';simpa [List.getD,hj]using this
   . intro h i hi;have:=h bs[i] (Co hi);simpa [List.getD,hi]using this
  rw[e];rfl
noncomputable def vF:List D->Option (List Bool)
 | []=>some []
 |.bl b::l=>match vF l with |some bs=>some (b::bs) |none=>none
 |_::_=>none
theorem Gx{K:Frag}{M:List Addr}{H:Hp}{l:List D}{xs:List V}{ns:List Bool}(q:aH K M H l xs)(e:vF l=some ns):xs=ns.map V.bl:=by
 induction l generalizing xs ns with
 |nil=>cases q;cases e;rfl
 |cons d l ih=>cases q with |cons r q=>cases d with
  |bl i=>
   have e:(match vF l with |some ns=>some (i::ns) |none=>none)=some ns:=e
   cases e2:vF l with
   |none=>rw[e2]at e;cases e
   |some ns=>rw[e2]at e;cases e;cases r;rw[List.map_cons,ih q e2]
  |_=>cases e
theorem SQ{l:List D}{bs:List Bool}(hc:X.calm=true)(h:vF l=some bs):CallD X z (.builtin "all") [.lst l] (.dat (.bl (bs.all id))):=by
 refine⟨_,oK hc,λg Y As M H vs Q s p k=>?_⟩
 obtain⟨v,rfl,pv⟩:=p.one;obtain⟨a,xs,rfl,ha,r⟩:=pv.list;have e:=Gx r h;subst e;exact⟨a,bs,rfl,cz.of ha,k _ H As M s (ao.refl _ _) (.bl _)⟩
end
noncomputable def tT:D->String
 |.non=> "NoneType" |.bl _=> "bool" |.int _=> "int" |.str _=> "str" |.tup _=> "tuple" |.lst _=> "list" |.fix _=> "list" |.emp=> "dict" |.mC _=> "" |.tL ..=> "dict"
def Fb:D->Value
 |.mC C=>.ref C
 |d=>.type (tT d)
theorem Cy{M:Model}{A:Around}{E:Value->Shared->Prop}{K:Frag}{x C:Addr}{ox:Obj}{nv:Value}{Q:Unit->Shared->Prop}{s:Shared}(X:K.In s.heap)(I:PySem.W.InstAt s.heap x ox C none)(hb:PySem.W.mroIn K C (.type "BaseException")=some true)(hq:Q () s) :
  wpAny M A (checkBuiltinCall "BaseException.__getattribute__" ⟨[.ref x,nv],[]⟩) Q E s:=by
 have kd:builtinKind "BaseException.__getattribute__"=some .slot:=by decide +kernel
 have sd:splitId "BaseException.__getattribute__"=some ("BaseException", "__getattribute__"):=by decide +kernel
 have ha:=F.args_bexc_ga (.ref x) nv;obtain⟨hv,ge,dr,tk,o'⟩:=s;have l0:=I.type (M:=M);have l1:=PySem.W.looks_mroIn (M:=M) X hb;simp only[checkBuiltinCall,kd,sd];unfold isInstance;refine aS (aS (l0.at (l1.at ?_)))
 repeat (any_goals (first |assumption |wp_step))
theorem Gy{prog:Program}{w:World}{A:Around}{E:Value->Shared->Prop}{K:Frag}{x C:Addr}{ox:Obj}{name:Str}{g a:Value}{Q:Option Value->Shared->Prop}{s:Shared}(X:K.In s.heap)(I:PySem.W.InstAt s.heap x ox C none)
  (hga:PySem.W.findIn K (.ref C) "__getattribute__"=some (some (.builtin "BaseException.__getattribute__"))) (hk:PySem.W.findIn K (.ref C) "__getattr__"=some none) (hb:PySem.W.mroIn K C (.type "BaseException")=some true) (hf:PySem.W.findObj K C none name=some (.bind g a))
  (h:wpAny (model prog w) A.in1 (call g [a,.ref x,.ref C]) (λv s'=>wpAny (model prog w) A (handedOut v) (λv s''=>Q (some v) s'') (λ_ _=>False) s') (λ_ _=>False) { s with toks:=s.toks+1}) :
  wpAny (model prog w) A (getAttr? (.ref x) name) Q E s:=by
 obtain⟨hv,ge,dr,tk,o'⟩:=s;have l0:=I.type (M:=model prog w);have l1:=PySem.W.looks_findIn (M:=model prog w) X hga;have l2:=PySem.W.looks_findIn (M:=model prog w) X hk;have l3:=PySem.W.looks_find (M:=model prog w) X I hf;have f3:=F.excAttr_ValueError.ga.bind (.ref x);unfold getAttr? getAttrBy? getAttrBy;refine aS (wpAny_mkText (aS (wpAny_attempt (l7 (aS (l0.at (aS (l1.at ?_))))))));show wpAny _ _ (getAttrByItsOwn _ _ _ _ _ _) _ _ _;unfold getAttrByItsOwn;refine aS (l2.at (aS (wpAny_attempt (l7 ?_))));show wpAny _ _ (boundAndCalled _ _ _) _ _ _;unfold boundAndCalled;rw[f3];refine aS (dS (C6 (codeAny_call_builtin F.excAttr_ValueError.ga.plain F.entry_bexc_ga (Cy X I hb ?_))));refine aS (dS (aS (dS (aS (l0.at (aS (l3.at ?_)))))));show wpAny _ _ (Builtin.ObjectAttr.bindTo _ _ _ _) _ _ _;show wpAny _ _ (holding [a] (call g [a,.ref x,.ref C]) >>= ret) _ _ _;refine aS (l7 (lL h (λv s' z=>dS ?_) λ_ _ z=>z.elim))
 exact lL z (λv s'' hv=>dS hv) (λ_ _ z=>z.elim)
theorem lC{K:Frag}{C:Addr}(k:EY K C):∃c d cd sl,K.lookup C=some ⟨c,d,.cls cd,sl⟩/\PySem.W.clsIn K C=some cd:=by
 obtain⟨cd,hc,_⟩:=PySem.W.any_some k.dct;have hc':=hc;unfold PySem.W.clsIn at hc;split at hc
 . rename_i c d cd' sl ho;cases hc;exact⟨c,d,cd,sl,ho,hc'⟩
 . cases hc
theorem vG{K:Frag}{x C:Addr}(k:EY K C):PySem.W.KitX K (.ref x) (.ref C) (λh=>∃ox,PySem.W.InstAt h x ox C none) where
 ty:=λ_ _ _ ⟨_,I⟩=>I.type
 it:=λ_ _ X _=>by
  obtain⟨c,d,cd,sl,ho,_⟩:=lC k;intro A' Q' E' s' kp q;unfold isType loadHead;refine aS ?_;refine wpAny_loadPart (kp _ _ (X _ _ ho)) ?_;exact dS q
 ne:=λh tp dd its n sl X htp=>by
  obtain⟨c,d,cd,sl',ho,_⟩:=lC k;cases q:(Value.ref C==Value.ref tp)with
  |false=>rfl
  |true=>have e:C=tp:=Value.ref.inj (beq_iff_eq.mp q);subst e;have y:=(X _ _ ho).symm.trans htp;cases y
 ca:=λ{prog w A E Q s} X ⟨ox,I⟩ h=>by
  obtain⟨_,_,cd,_,_,hc⟩:=lC k;have hf:PySem.W.findObj K C none "__class__"=some (.bind (.builtin "getset_descriptor.__get__") (.builtin "object.__class__")):=by unfold PySem.W.findObj;rw[hc,Option.bind_some,k.cls,Option.bind_some];simp[k.spc,k.tks]
  refine Gy X I k.gga k.gat k.bas hf (C6 ?_);exact PySem.W.class_get (s:={ s with toks:=s.toks+1}) (ox:=ox) (od:=none) X I k.mro (PySem.W.handed_on rfl h)
section
theorem Gz(I:L2.Inv X ah Y H s)(p:Pk X.K M H d v)(r:RelV v u)
  (e:PySem.W.kitOne X.K (Fb d) c=some b) (h:∀tk,Q (.bool b) { s with toks:=tk}):wpAny (~~~2) A (call (.builtin "isinstance") [u,c]) Q E s:=by
 cases d with
 |non=>have q:=p.non;subst q;cases r;exact u8 PySem.W.kitx_none I.nk True.intro e (λz=>nomatch z) h
 |bl y=>have q:=p.bl;subst q;cases r;exact u8 PySem.W.kitx_bool I.nk True.intro e (λz=>nomatch z) h
 |int i=>have q:=p.int;subst q;obtain⟨t,rfl⟩:=r;exact u8 PySem.W.kitx_int I.nk True.intro e (λz=>nomatch z) h
 |str y=>have q:=p.str;subst q;obtain⟨t,rfl⟩:=r;exact u8 PySem.W.kitx_str I.nk True.intro e (λz=>nomatch z) h
 |tup l=>obtain⟨a,xs,rfl,ha,_⟩:=p.tup;cases r;obtain⟨its,_,⟨o,h1,h2,_⟩,_⟩:=I.tuple ha.sq;exact u8 PySem.W.kitx_tuple I.nk ⟨o,h1,h2⟩ e (λz=>nomatch z) h
 |lst l=>obtain⟨a,xs,rfl,ha,_⟩:=p.list;cases r;obtain⟨its,_,pl,_⟩:=I.list (cz.of ha);obtain⟨o,h1,h2,_⟩:=pl.isList;exact u8 B3 I.nk ⟨o,h1,h2⟩ e (λz=>nomatch z) h
 |fix l=>obtain⟨a,xs,rfl,ha,_⟩:=p.fix;cases r;obtain⟨its,_,pl,_⟩:=I.list ha.sq;obtain⟨o,h1,h2,_⟩:=pl.isList;exact u8 B3 I.nk ⟨o,h1,h2⟩ e (λz=>nomatch z) h
 |emp=>
  cases p with
  |of q=>
   cases q with
   |emp _ ha=>cases r;obtain⟨_,_,vs,_,o,es,ep,h1,h2,_⟩:=I.hok _ _ ha;exact u8 B5 I.nk ⟨o,h1,h2.1⟩ e (λz=>nomatch z) h
 |mC C=>
  cases p with
  |of q=>
   cases q with
   |mC k _ ha=>cases r;obtain⟨⟨o,h1,h2,h3,h4⟩,_⟩:=I.hok _ _ ha;exact u8 (vG k) I.nk ⟨o,h1,h2,h3,by rw[h4];trivial⟩ e (λz=>nomatch z) h
 |tL ks ds=>
  cases p with
  |of q=>
   cases q with
   |tL _ ha _ _=>cases r;obtain⟨_,_,vs,_,o,es,ep,h1,h2,_⟩:=I.hok _ _ ha;exact u8 B5 I.nk ⟨o,h1,h2.1⟩ e (λz=>nomatch z) h
theorem GC:d8 X (.builtin "isinstance") (λxs H Q=>∃x n M d b,xs=[x,.ty n]/\Pk X.K M H d x/\PySem.W.kitOne X.K (Fb d) (.type n)=some b/\Q (.bl b) H):=by intro ah s Y H xs us Q I r h;obtain⟨x,n,M,d,b,rfl,p,e,q⟩:=h;obtain⟨u,w',rfl,r1,r2⟩:=vals2 r;cases r2;exact Gz I p r1 e λtk=>⟨.bl b,H,I.tok tk,rfl,q⟩
theorem SX(hK:z.K=X.K)(h:aA X z a g r1 g1)(hp:pk r1 g1=some d)(he:∀M H v,Pk X.K M H d v->PySem.W.kitOne X.K (Fb d) (.type n)=some b)
  (hg:Gl X "isinstance") (hm:X.mg "isinstance"=none) (hv:bootBuiltins "isinstance"=some (.builtin "isinstance")) (gT:Gl X T) (mT:X.mg T=none) (vT:bootBuiltins T=some (.type n)) (nT:T≠ "__name__") (dT:(T==(~~~3))=false)
  (hs:starEach [a,.Name T pT] X.env=(false,eval a X.env)::starEach [.Name T pT] X.env):aA X z (.Call (.Name "isinstance" p) [a,.Name T pT] [] pos) g (.dat (.bl b)) g1:=by
 obtain⟨t,q,k⟩:=h;have pT':PE X (.Name T pT) (tC (.ty n)):=sQ gT mT vT rfl nT dT;refine⟨_,jX GC hg hm hv (cD q (cD pT' lq) hs) ⋯ ⋯ hs,λY As M H Q s kk=>k Y As M H _ s λv H' aB M' s' st R=>?_⟩
 have p:=hK▸s'.pk (ao.refl _ _) R hp;exact⟨v,n,M',d,b,rfl,p,he _ _ _ p,kk _ H' aB M' s' st (.bl b)⟩
end
inductive Fl where
 |nx |rt (r:R) |bk |ct
def rC(z:Z)(M:List Addr)(H:Hp)(E:Ends)(g':G):Fl->Prop
 |.nx=>∀σ' aB M' H',S z g' σ' aB M' H'->ao M H M' H'->E.nx σ' H'
 |.bk=>∀σ' aB M' H',S z g' σ' aB M' H'->ao M H M' H'->E.bk σ' H'
 |.ct=>∀σ' aB M' H',S z g' σ' aB M' H'->ao M H M' H'->E.ct σ' H'
 |.rt r=>∀v σ' aB M' H',S z g' σ' aB M' H'->ao M H M' H'->dz z g' σ' aB M' H' r v->E.rt v H'
def fJ(X:Cx)(z:Z)(st:Stmt)(g:G)(f:Fl)(g':G):Prop:=
 ∃t,PS X st t/\∀Y As M H E,S z g Y As M H->rC z M H E g' f->t E Y H
def eu(X:Cx)(z:Z)(jR:List Stmt)(g:G)(f:Fl)(g':G):Prop:=
 ∃t,sP X jR t/\∀Y As M H E,S z g Y As M H->rC z M H E g' f->t E Y H
section
variable{st:Stmt}
theorem rC.trans(st:ao M H M1 H1)(h:rC z M H E g' f):rC z M1 H1 E g' f:=by
 cases f with
 |nx=>exact λσ' aB M' H' s' st'=>h σ' aB M' H' s' (st.trans st')
 |bk=>exact λσ' aB M' H' s' st'=>h σ' aB M' H' s' (st.trans st')
 |ct=>exact λσ' aB M' H' s' st'=>h σ' aB M' H' s' (st.trans st')
 |rt r=>exact λv σ' aB M' H' s' st' R=>h v σ' aB M' H' s' (st.trans st') R
theorem S0:eu X z [] g .nx g:=⟨_,Kw,λY As M H E s k=>k Y As M H s (ao.refl _ _)⟩
theorem Lx(h1:fJ X z st g .nx g1)(h2:eu X z jR g1 f g2):eu X z (st::jR) g f g2:=by obtain⟨t1,q1,k1⟩:=h1;obtain⟨t2,q2,k2⟩:=h2;exact⟨_,eL q1 q2,λY As M H E s k=>k1 Y As M H _ s λσ' aB M' H' s' st'=>k2 σ' aB M' H' E s' (k.trans st')⟩
theorem S8(h1:fJ X z st g (.rt r) g1):eu X z (st::jR) g (.rt r) g1:=by obtain⟨t1,q1,k1⟩:=h1;exact⟨_,eL q1 bF,λY As M H E s k=>k1 Y As M H _ s k⟩
theorem S9(h1:fJ X z st g .bk g1):eu X z (st::jR) g .bk g1:=by obtain⟨t1,q1,k1⟩:=h1;exact⟨_,eL q1 bF,λY As M H E s k=>k1 Y As M H _ s k⟩
theorem Tc(h1:fJ X z st g .ct g1):eu X z (st::jR) g .ct g1:=by obtain⟨t1,q1,k1⟩:=h1;exact⟨_,eL q1 bF,λY As M H E s k=>k1 Y As M H _ s k⟩
theorem Td(h:aA X z e g r g1):fJ X z (.Return (some e) pos) g (.rt r) g1:=by obtain⟨t,q,k⟩:=h;exact⟨_,FG q,λY As M H E s kk=>k Y As M H _ s λv H' aB M' s' st R=>kk v Y aB M' H' s' st R⟩
theorem Ly(h:aA X z e g r g1)(hs:swapsWith e none pos.line X.env=pure false):fJ X z (.Expr e pos) g .nx g1:=by obtain⟨t,q,k⟩:=h;exact⟨_,zO q hs,λY As M H E s kk=>k Y As M H _ s λv H' aB M' s' st R=>kk Y aB M' H' s' st⟩
theorem Qh(h:cA X z c g v g1)(h2:eu X z (if v then a else b) g1 f g2):fJ X z (.If c a b pos) g f g2:=by
 obtain⟨t,q,k⟩:=h;obtain⟨t2,q2,k2⟩:=h2;cases v with
 |true=>exact⟨_,vp q q2 bF,λY As M H E s kk=>k Y As M H _ s λH' aB M' s' st=>j3 (k2 Y aB M' H' E s' (kk.trans st))⟩
 |false=>exact⟨_,vp q bF q2,λY As M H E s kk=>k Y As M H _ s λH' aB M' s' st=>oq (k2 Y aB M' H' E s' (kk.trans st))⟩
theorem Lz(hN:X.N.Nodup)(hi:X.N[i]?=some x)(hx:Loc X.env.scope x)(h:aA X z e g (.dat d) g1)(hs:swapsWith e (some (.Name x pos')) pos.line X.env=pure false)(hf:X.fn x=true\/X.env.scope.names.lookup x=some .local)(hb:i∉z.bor) :
  fJ X z (.Assign [.Name x pos'] e pos) g .nx (g1.set i (.dat d)):=by
 obtain⟨t,q,k⟩:=h;refine⟨_,sS hN hi hx q hs hf,λY As M H E s kk=>k Y As M H _ s λv H' aB M' s' st R=>?_⟩
 obtain⟨bx,s2⟩:=s'.gQ (i:=i) hb R;exact kk _ bx M' H' s2 st
theorem LC(hN:X.N.Nodup)(hi:X.N[i]?=some x)(hx:Loc X.env.scope x)(h:aA X z e g (.new l) g1)(hl:i<g1.length)(hs:swapsWith e (some (.Name x pos')) pos.line X.env=pure false)(hf:X.fn x=true\/X.env.scope.names.lookup x=some .local)(hb:i∉z.bor) :
  fJ X z (.Assign [.Name x pos'] e pos) g .nx (g1.set i (.own l)):=by
 obtain⟨t,q,k⟩:=h;refine⟨_,sS hN hi hx q hs hf,λY As M H E s kk=>k Y As M H _ s λv H' aB M' s' st R=>?_⟩
 obtain⟨a,xs,rfl,hm,hA,h0,ha,rr⟩:=R;obtain⟨bx,s2⟩:=s'.oB hb hl hm hA h0 ha rr;exact kk _ bx M' H' s2 st
end
def tAny(X:Cx)(jR:List Stmt):TS:=λE Y H=>∃t,sP X jR t/\t E Y H
theorem z8{X:Cx}{jR:List Stmt}:sP X jR (tAny X jR):=λah s Y H E I h=>let ⟨t,q,k⟩:=h;q ah s Y H E I k
section
theorem drop_cons{α:Type}{l:List α}{n:Nat}{a:α}(h:l[n]?=some a):l.drop n=a::l.drop (n+1):=by obtain⟨h1,h2⟩:=dL.mp h;rw[List.drop_eq_getElem_cons h1,h2]
end
noncomputable def cJ(lo:Int)(n:Nat):List D:=(List.range n).map λ(k:Nat)=>D.int (lo+(k:Int))
section
theorem GD{lo:Int}{n k:Nat}(h:k<n):(cJ lo n)[k]?=some (.int (lo+(k:Int))):=by unfold cJ;rw[yA,List.getElem?_range h];rfl
theorem vH{lo:Int}{n:Nat}:(cJ lo n).length=n:=by unfold cJ;simp
theorem Cz(h:cQ X z [a] g [‹j›] g1)(hg:Gl X "range")(hm:X.mg "range"=none)(hs:starEach [a] X.env=[(false,eval a X.env)])(h1 : -(2 ^ 62)<=j)(h2:j<2 ^ 62) :
  ∃wi,PI X tg (.Call (.Name "range" p) [a] [] rp) wi/\∀Y As M H (Q:It->Hp->Prop),S z g Y As M H->(∀H' aB M',S z g1 Y aB M' H'->ao M H M' H'->Q (Q9 0 j.toNat) H')->wi Y H Q:=by
 obtain⟨t,q,k⟩:=h;refine⟨_,BV hg hm q hs,λY As M H Q s kk=>k Y As M H _ s λvs H' aB M' s' st R=>?_⟩
 cases R with
 |dat r R=>cases R;cases r;exact⟨j,rfl,h1,h2,kk H' aB M' s' st⟩
theorem CG(h:cQ X z [a,b] g [‹c›,‹j›] g1)(hg:Gl X "range")(hm:X.mg "range"=none)(hs:starEach [a,b] X.env=[(false,eval a X.env),(false,eval b X.env)])(hs2:starEach [b] X.env=[(false,eval b X.env)])
  (h1 : -(2 ^ 62)<=c/\c<2 ^ 62/\-(2 ^ 62)<=j/\j<2 ^ 62) {tg:Expr} :
  ∃wi,PI X tg (.Call (.Name "range" p) [a,b] [] rp) wi/\∀Y As M H (Q:It->Hp->Prop),S z g Y As M H->(∀H' aB M',S z g1 Y aB M' H'->ao M H M' H'->Q (Q9 c (j - c).toNat) H')->wi Y H Q:=by
 obtain⟨t,q,k⟩:=h;refine⟨_,BW hg hm q hs hs2,λY As M H Q s kk=>k Y As M H _ s λvs H' aB M' s' st R=>?_⟩
 cases R with
 |dat r R=>cases R with |dat r2 R=>cases R;cases r;cases r2;exact⟨c,j,rfl,h1,kk H' aB M' s' st⟩
end
section
theorem CJ(hN:X.N[i]?=some x)(hv:uW X.env.scope x)(hd:(x==(~~~3))=false)(bN:(x==("__classdict__":Str))=false)(hg:g[i]?=some (.own l0))(h:cQ X z [e] g [.dat d] g1)(yu:g1[i]?=some (.own l))(hl:l.length<16777216)
  (hbase:attributeBase (.Name x pn) "append" X.env (eval (.Name x pn) X.env)=eval (.Name x pn) X.env)
  (hfew:((backTo bM (starEach [e] X.env)).all (λx=>!x.1)&&(backToKw bM (keywordEach [] X.env)).all (λx=>x.1.isSome)
   && decide ([e].length+([]:List Keyword).length+(if ([]:List Keyword).isEmpty then 0 else 1)<30))=true)
  (hline:(ez.endLine==bM.line)=true) (hs:starEach [e] X.env=(false,eval e X.env)::starEach [] X.env):aA X z (.Call (.Attribute (.Name x pn) "append" ez) [e] [] bM) g (.dat .non) (g1.set i (.own (l++[d]))):=by
 obtain⟨t,q,k⟩:=h;refine⟨_,Gb BE PySem.F.slot_list_append PySem.F.type_list_append rz (gJ hN hv hd bN) q hbase hfew hline hs rfl,λY As M H Q s kk=>?_⟩
 obtain⟨a,xs,e1,e2,e3,e4⟩:=s.sl.at hg;refine⟨.ref a,e1,.inl ⟨rfl,xs,cz.of e3⟩,k Y As M H _ s λvs H' aB M' s' st R=>?_⟩
 obtain⟨b,ys,f1,f2,f3,f4⟩:=s'.sl.at yu;rw[e1]at f1;injection f1 with f1;injection f1 with f1;injection f1 with f1;subst f1;cases R with
 |dat r R=>
  cases R;refine⟨a,ys,_,rfl,rfl,f3,by rw[<- f4.length,rV];exact hl,?_⟩
  obtain⟨s2,aK⟩:=s'.write yu e1 (f4.append (.cons r .nil));exact kk _ _ aB M' s2 (st.trans aK) .non
end
section
theorem LK(hN:X.N[i]?=some x)(hv:uW X.env.scope x)(hd:(x==(~~~3))=false)(bN:(x==("__classdict__":Str))=false)(h:aA X z e g (.dat d) g1)(yu:g1[i]?=some (.own l0))(h2:aA X z ix g1 ‹k› g2)(Ys:g2[i]?=some (.own l))(hj:nq l.length k=some j)
  (ha:∀v,assign (.Subscript (.Name x pn) ix dw) X.env v=(do
   let ov <- holding [v] (eval (.Name x pn) X.env)
   let iv <- holding [v,ov] (eval ix X.env)
   standAt dw
   holding [v,ov,iv] (setItem ov iv v)
   release [v,ov,iv] []))
  (hs:swapsWithSole [.Subscript (.Name x pn) ix dw] e pos.line X.env=pure false) (hw:swappedStores [.Subscript (.Name x pn) ix dw] e X.env=pure none)
  (h1:(assignEach [.Subscript (.Name x pn) ix dw] X.env).map (·.2)=[assign (.Subscript (.Name x pn) ix dw) X.env]) :
  fJ X z (.Assign [.Subscript (.Name x pn) ix dw] e pos) g .nx (g2.set i (.own (l.set j d))):=by
 obtain⟨t,q,kk⟩:=h;obtain⟨t2,q2,k2⟩:=h2;refine⟨_,yc q (x9 (gJ hN hv hd bN) q2 set_list ha) hs hw h1,λY As M H E s kE=>kk Y As M H _ s λv H1 aL M1 s1 cP R1=>?_⟩
 obtain⟨a,xs,e1,e2,e3,e4⟩:=s1.sl.at yu;refine⟨.ref a,e1,k2 Y aL M1 H1 _ s1 λw H2 bx M2 s2 aK R2=>?_⟩
 obtain⟨b,ys,f1,f2,f3,f4⟩:=s2.sl.at Ys;rw[e1]at f1;injection f1 with f1;injection f1 with f1;injection f1 with f1;subst f1;have R2':Rep z.K M2 H2 (.int k) w:=R2;cases R2';refine⟨a,ys,k,j,rfl,rfl,f3,by rw[<- f4.length];exact hj,?_⟩
 obtain⟨s3,eE⟩:=s2.write Ys e1 (aH.set (Rep.stay aK R1) j f4);exact kE Y bx M2 _ s3 (cP.trans (aK.trans eE))
theorem aH.eraseIdx{K:Frag}{M:List Addr}{H:Hp}:∀{ds:List D}{vs:List V} (n:Nat),aH K M H ds vs->aH K M H (ds.eraseIdx n) (vs.eraseIdx n)
 |_,_,_,.nil=>.nil
 |_,_,0,.cons _ t=>t
 |_,_,n+1,.cons r t=>.cons r (aH.eraseIdx n t)
theorem GF(hN:X.N[i]?=some x)(hv:uW X.env.scope x)(hd:(x==(~~~3))=false)(bN:(x==("__classdict__":Str))=false)(hg:g[i]?=some (.own l0))(h:cQ X z [e] g [‹k›] g1)(yu:g1[i]?=some (.own l))(hk:nq l.length k=some j)(hy:l[j]?=some d)(hl:l.length<16777216)
  (hbase:attributeBase (.Name x pn) "pop" X.env (eval (.Name x pn) X.env)=eval (.Name x pn) X.env)
  (hfew:((backTo bM (starEach [e] X.env)).all (λx=>!x.1)&&(backToKw bM (keywordEach [] X.env)).all (λx=>x.1.isSome)
   && decide ([e].length+([]:List Keyword).length+(if ([]:List Keyword).isEmpty then 0 else 1)<30))=true)
  (hline:(ez.endLine==bM.line)=true) (hs:starEach [e] X.env=(false,eval e X.env)::starEach [] X.env):aA X z (.Call (.Attribute (.Name x pn) "pop" ez) [e] [] bM) g (.dat d) (g1.set i (.own (l.eraseIdx j))):=by
 obtain⟨t,q,k0⟩:=h;refine⟨_,Gb BE PySem.F.slot_list_pop PySem.F.type_list_pop Ge (gJ hN hv hd bN) q hbase hfew hline hs rfl,λY As M H Q s kk=>?_⟩
 obtain⟨a,xs,e1,e2,e3,e4⟩:=s.sl.at hg;refine⟨.ref a,e1,.inl ⟨rfl,xs,cz.of e3⟩,k0 Y As M H _ s λvs H' aB M' s' st R=>?_⟩
 obtain⟨b,ys,f1,f2,f3,f4⟩:=s'.sl.at yu;rw[e1]at f1;injection f1 with f1;injection f1 with f1;injection f1 with f1;subst f1;cases R with
 |dat r R=>
  cases R;cases r;obtain⟨h1,h2,h3,h4⟩:=sY hk;obtain⟨v,g1',Te⟩:=f4.get hy;obtain⟨s2,aK⟩:=s'.write yu e1 (aH.eraseIdx j f4);refine⟨a,ys,k,j,v,rfl,rfl,f3,by lia,by lia,by rw[<- f4.length];exact h1,g1',?_⟩
  exact kk _ _ aB M' s2 (st.trans aK) (Te.stay aK)
end
noncomputable def bY:List R->G->Option G
 | [],_=>some []
 |.dat d::rs,g=>match bY rs g with |some gs=>some (.dat d::gs) |none=>none
 |.var i::rs,g=>match g[i]? with
  |some (.own l)=>match bY rs g with |some gs=>some (.own l::gs) |none=>none
  |_=>none
 |.new _::_,_=>none
noncomputable def vars:Nat->List R->List (Nat×Nat)
 |_,[]=>[]
 |j,.var i::rs=>(j,i)::vars (j+1) rs
 |j,.dat _::rs=>vars (j+1) rs
 |j,.new _::rs=>vars (j+1) rs
noncomputable def back:List (Nat×Nat)->G->G->Option G
 | [],_,g=>some g
 | (j,i)::ps,gc,g=>match gc[j]? with
  |some (.own l)=>back ps gc (g.set i (.own l))
  |_=>none
def d7(bor:List Nat)(g':G):R->Option R
 |.dat d=>some (.dat d)
 |.new l=>some (.new l)
 |.var j=>if j∈bor then none else match g'[j]? with |some (.own l)=>some (.new l) |_=>none
noncomputable def adr(Y:Sg)(i:Nat):Addr:=match Y[i]? with |some (some (.ref a))=>a |_=>0
theorem jB(h:Y[i]?=some (some (.ref a))):adr Y i=a:=by unfold adr;rw[h]
def cg(Y:Sg)(ps:List (Nat×Nat)):List (Nat×Addr):=ps.map λp=>(p.1,adr Y p.2)
noncomputable def cU(n:Nat)(gs:G):G:=gs++List.replicate (n - gs.length) .no
theorem Slots.append{K:Frag}{M:List Addr}{H:Hp}{g1 g2:G}{σ1 σ2:Sg}{A1 A2:List Addr}(p:Slots K M H g1 σ1 A1)(q:Slots K M H g2 σ2 A2):Slots K M H (g1++g2) (σ1++σ2) (A1++A2):=by
 induction p with
 |nil=>exact q
 |no p ih=>exact .no ih
 |dat r p ih=>exact .dat r ih
 |own e r p ih=>exact .own e r ih
theorem Slots.nos{K:Frag}{M:List Addr}{H:Hp}:∀(n:Nat),Slots K M H (List.replicate n .no) (List.replicate n none) []
 | 0=>.nil
 |n+1=>by rw[oQ,oQ];exact .no (Slots.nos n)
section
theorem Slots.z9{K:Frag}{g:G}{Y:Sg}{As:List Addr}{i j:Nat}{a:Addr}{l l':List D}(q:Slots K M H g Y As)(nd:As.Nodup)(e1:g[i]?=some (.own l))(e2:g[j]?=some (.own l'))(e3:Y[i]?=some (some (.ref a)))(e4:Y[j]?=some (some (.ref a))):i=j:=by
 induction q generalizing i j with
 |nil=>exact nomatch (show none=some (Slot.own l)from e1)
 |no q ih=>cases i with
  |zero=>exact nomatch (show some Slot.no=some (Slot.own l)from e1)
  |succ i=>cases j with
   |zero=>exact nomatch (show some Slot.no=some (Slot.own l')from e2)
   |succ j=>exact congrArg (· + 1) (ih nd e1 e2 e3 e4)
 |dat r q ih=>cases i with
  |zero=>exact nomatch (show some (Slot.dat _)=some (Slot.own l)from e1)
  |succ i=>cases j with
   |zero=>exact nomatch (show some (Slot.dat _)=some (Slot.own l')from e2)
   |succ j=>exact congrArg (· + 1) (ih nd e1 e2 e3 e4)
 |@own g Y As b xs ds h r q ih=>
  have no:∀{i:Nat}{l:List D},g[i]?=some (.own l)->Y[i]?=some (some (.ref a))->b=a->False:=λ{i l} e1 e3 e=>by
   obtain⟨c,xs,h1,h2,_⟩:=q.at e1;cases (show some (some (V.ref c))=some (some (V.ref a))from h1.symm.trans e3)
   exact (i3.mp nd).1 (e▸h2)
  cases i with
  |zero=>cases j with
   |zero=>rfl
   |succ j=>cases (show some (some (V.ref b))=some (some (V.ref a))from e3);exact (no e2 e4 rfl).elim
  |succ i=>cases j with
   |zero=>cases (show some (some (V.ref b))=some (some (V.ref a))from e4);exact (no e1 e3 rfl).elim
   |succ j=>exact congrArg (· + 1) (ih (i3.mp nd).2 e1 e2 e3 e4)
theorem oM(s:S z g Y As M H)(j:Nat)(q:jA z Y M H rs vs)(e:bY rs g=some gs) :
  gs.length=vs.length/\Slots z.K M H gs (vs.map some) ((cg Y (vars j rs)).map (·.2))/\
  (∀p∈cg Y (vars j rs),∃n l,p.1=j+n/\gs[n]?=some (.own l)/\vs[n]?=some (.ref p.2))/\
  (∀n l a,gs[n]?=some (.own l)->vs[n]?=some (.ref a)->(j+n,a)∈cg Y (vars j rs))/\
  (∀p∈vars j rs,∃l a,g[p.2]?=some (.own l)/\Y[p.2]?=some (some (.ref a))/\a∈As):=by
 induction q generalizing gs j with
 |nil=>cases e;exact⟨rfl,.nil,(λp hp=>nomatch hp),(λn l a h=>by simp at h),(λp hp=>nomatch hp)⟩
 |@dat d v rs vs r q ih=>
  unfold bY at e;cases e2:bY rs g with
  |none=>rw[e2]at e;cases e
  |some gs=>
   rw[e2]at e;cases e;obtain⟨h1,h2,h3,h4,h5⟩:=ih (j+1) e2;refine⟨by simp[h1],.dat r h2,λp hp=>?_,λn l a e1 e3=>?_,h5⟩
   . obtain⟨n,l,q1,q2,q3⟩:=h3 p hp;exact⟨n+1,l,by lia,by simpa using q2,by simpa using q3⟩
   .
    cases n with
    |zero=>simp at e1
    |succ n=>
     have:=h4 n l a (by simpa using e1) (by simpa using e3)
     rw[show j+(n+1)=j+1+n by lia]
     exact this
 |@var i v rs vs r q ih=>
  unfold bY at e;split at e
  .
   rename_i l hg;cases e2:bY rs g with
   |none=>rw[e2]at e;cases e
   |some gs=>
    rw[e2]at e;cases e;obtain⟨h1,h2,h3,h4,h5⟩:=ih (j+1) e2;obtain⟨a,xs,f1,f2,f3,f4⟩:=s.sl.at hg;have ea:adr Y i=a:=jB f1;rw[r]at f1;injection f1 with f1;injection f1 with f1;subst f1;have el:cg Y (vars j (.var i::rs))=(j,a)::cg Y (vars (j+1) rs):=by show (j,adr Y i)::cg Y (vars (j+1) rs)=_;rw[ea]
    rw[el];refine⟨by simp[h1],.own f3 f4 h2,λp hp=>?_,λn l' b e1 e3=>?_,λp hp=>?_⟩
    .
     rcases eA.mp hp with rfl |hp
     . exact⟨0,l,rfl,rfl,rfl⟩
     . obtain⟨n,l,q1,q2,q3⟩:=h3 p hp;exact⟨n+1,l,by lia,by simpa using q2,by simpa using q3⟩
    .
     cases n with
     |zero=>
      have e4:a=b:=by simpa using e3
      subst e4;exact dC
     |succ n=>
      have:=h4 n l' b (by simpa using e1) (by simpa using e3)
      rw[show j+(n+1)=j+1+n by lia]
      exact dA _ this
    .
     rcases eA.mp (show p∈(j,i)::vars (j+1) rs from hp)with rfl |hp
     . exact⟨l,a,hg,r,f2⟩
     . exact h5 p hp
  . cases e
theorem rD{α β:Type}{f:α->β}:∀{l:List α},l.Nodup->(∀a∈l,∀b∈l,f a=f b->a=b)->(l.map f).Nodup
 | [],_,_=>t7
 |x::l,nd,h=>by
  rw[List.map_cons];refine i3.mpr ⟨λhm=>?_,rD (i3.mp nd).2 λa ha b hb=>h a (dA _ ha) b (dA _ hb)⟩
  obtain⟨y,hy,e⟩:=gN.mp hm;have:=h y (dA _ hy) x dC e;exact (i3.mp nd).1 (this▸hy)
def rE(z:Z)(Y:Sg)(M:List Addr)(H:Hp)(rs:List R):Z:=⟨z.K,H,M,cg Y (vars 0 rs),z.T⟩
theorem lD:(rE z Y M H rs).bor=(vars 0 rs).map (·.1):=by show (cg Y (vars 0 rs)).map (·.1)=_;unfold cg;rw[List.map_map];rfl
theorem S.enter(s:S z g Y As M H){rs:List R}{vs:List V}{gs:G}{N:List Str}(r:jA z Y M H rs vs)(e:bY rs g=some gs)(nd:((vars 0 rs).map (·.2)).Nodup) :
  S (rE z Y M H rs) (cU N.length gs) (start N vs) ((cg Y (vars 0 rs)).map (·.2)) M H:=by
 obtain⟨h1,h2,h3,h4,h5⟩:=oM s 0 r e;have eB:(cg Y (vars 0 rs)).map (·.2)=((vars 0 rs).map (·.2)).map (adr Y):=by unfold cg;rw[List.map_map,List.map_map];rfl
 have mem:∀b∈(cg Y (vars 0 rs)).map (·.2),b∈As:=λb hb=>by
  rw[eB]at hb;obtain⟨i,hi,e⟩:=gN.mp hb;obtain⟨p,hp,e'⟩:=gN.mp hi;obtain⟨l,a,q1,q2,q3⟩:=h5 p hp;subst e';rw[jB q2]at e;subst e;exact q3
 have pre:∀{n:Nat}{o:Slot},gs[n]?=some o->(cU N.length gs)[n]?=some o:=λ{n o} q=>by
  unfold cU;rw[eP (dL.mp q).1];exact q
 have ownB:∀(n:Nat) (l:List D),(cU N.length gs)[n]?=some (.own l)->gs[n]?=some (.own l):=λn l q=>by
  unfold cU at q;rcases x0 n gs.length with h |h
  . rw[eP h]at q;exact q
  . rw[fR h]at q;have:=l8 q;rw[wS]at this;exact absurd this.2 ⋯
 have st:∀{n:Nat}{v:V},vs[n]?=some v->(start N vs)[n]?=some (some v):=λ{n v} q=>by
  unfold L2.start;rw[eP (by rw[fA];exact (dL.mp q).1),yA,q]
  rfl
 have st':∀{n:Nat}{v:V},(start N vs)[n]?=some (some v)->vs[n]?=some v:=λ{n v} q=>by
  unfold L2.start at q;rcases x0 n vs.length with h |h
  .
   rw[eP (by rw[fA];exact h),yA]at q
   cases e:vs[n]? with
   |none=>rw[e]at q;cases q
   |some w=>rw[e]at q;injection q with q
  .
   rw[fR (by rw[fA];exact h)]at q
   have:=l8 q;rw[wS]at this;exact absurd this.2 ⋯
 refine⟨?_,?_,λa ha=>s.sub a (mem a ha),λn a l q1 q2=>.inl ?_,s.live,λb o e _ _=>e,λm hm=>hm,λm hm=>?_,λb hb=>s.sub b (mem b hb),λp hp=>?_,s.tab,λp hp=>s.iG _ (s.tm p hp),s.tt⟩
 .
  have q:=h2.append (Slots.nos (K:=z.K) (M:=M) (H:=H) (N.length - gs.length));rw[nK]at q;have e':start N vs=vs.map some++List.replicate (N.length - gs.length) none:=by unfold L2.start;rw[h1]
  rw[e'];exact q
 .
  rw[eB];refine rD nd λi hi j hj e=>?_
  obtain⟨p,hp,rfl⟩:=gN.mp hi;obtain⟨p',vI,rfl⟩:=gN.mp hj;obtain⟨l,a,q1,q2,q3⟩:=h5 p hp;obtain⟨l',a',K9,GJ,Qi⟩:=h5 p' vI;rw[jB q2,jB GJ]at e;subst e;exact s.sl.z9 s.nd q1 K9 q2 GJ
 . have hm:=h4 n l a (ownB n l q1) (st' q2);rw[Nat.zero_add]at hm;exact⟨tP (f:=(·.1)) hm,tP (f:=(·.2)) hm⟩
 . exact λe=>s.fresh e hm
 . obtain⟨n,l,q1,q2,q3⟩:=h3 p hp;rw[Nat.zero_add]at q1;rw[q1];exact⟨st q3,l,pre q2⟩
theorem Slots.transfer{K:Frag}{M M2:List Addr}{H H':Hp}(st:ao M H M2 H'){g g2:G}{Y:Sg}{As:List Addr}(q:Slots K M H g Y As)(hl:g2.length=g.length)
  (h1:∀(i:Nat) (l:List D) (a:Addr),g[i]?=some (.own l)->Y[i]?=some (some (.ref a))->∃l' xs',g2[i]?=some (.own l')/\H' a=some (.lst xs')/\aH K M2 H' l' xs')
  (h2:∀(i:Nat) (o:Slot),g[i]?=some o->(∀l,o≠.own l)->g2[i]?=some o):Slots K M2 H' g2 Y As:=by
 induction q generalizing g2 with
 |nil=>cases g2 with
  |nil=>exact .nil
  |cons a b=>cases hl
 |no q ih=>cases g2 with
  |nil=>cases hl
  |cons a b=>
   cases (show some a=some Slot.no from h2 0 .no rfl (λl z=>nomatch z))
   exact .no (ih (B8 hl) (λi l a e1 e2=>h1 (i+1) l a e1 e2) λi o e1 e2=>h2 (i+1) o e1 e2)
 |@dat g Y As v d r q ih=>cases g2 with
  |nil=>cases hl
  |cons a b=>
   cases (show some a=some (Slot.dat d)from h2 0 (.dat d) rfl (λl z=>nomatch z))
   exact .dat (r.stay st) (ih (B8 hl) (λi l a e1 e2=>h1 (i+1) l a e1 e2) λi o e1 e2=>h2 (i+1) o e1 e2)
 |@own g Y As a0 xs ds e0 r q ih=>cases g2 with
  |nil=>cases hl
  |cons a b=>
   obtain⟨l',xs',e1,e2,e3⟩:=h1 0 _ a0 rfl rfl;cases (show some a=some (Slot.own l')from e1)
   exact .own e2 e3 (ih (B8 hl) (λi l a e1 e2=>h1 (i+1) l a e1 e2) λi o e1 e2=>h2 (i+1) o e1 e2)
theorem rF:∀{ps:List (Nat×Nat)}{g gO:G},back ps gc g=some gO->(ps.map (·.2)).Nodup->gO.length=g.length/\
  (∀i,i∉ps.map (·.2)->gO[i]?=g[i]?)/\∀p∈ps,p.2<g.length->∃l,gc[p.1]?=some (.own l)/\gO[p.2]?=some (.own l)
 | [],g,gO,e,_=>by cases e;exact⟨rfl,λ_ _=>rfl,λp hp=>nomatch hp⟩
 | (j,i)::ps,g,gO,e,nd=>by
  unfold back at e;split at e
  .
   rename_i l hg;obtain⟨h1,h2,h3⟩:=rF e (i3.mp nd).2;refine⟨by rw[h1,yY],λk hk=>?_,λp hp hlt=>?_⟩
   .
    have n1:k∉ps.map (·.2):=λz=>hk (dA _ z)
    have n2:i≠k:=λz=>hk (z▸dC)
    rw[h2 k n1,fN n2]
   .
    rcases eA.mp hp with rfl |hp
    . refine⟨l,hg,?_⟩;have hlt':i<g.length:=hlt;rw[h2 i (i3.mp nd).1,i8 hlt']
    . exact h3 p hp (by rw[yY];exact hlt)
  . cases e
theorem S.leave(s:S z g Y As M H){rs:List R}{vs:List V}{gs gc gO:G}{σc:Sg}{Ac Mc:List Addr}{Hc:Hp}{r r':R}{v:V}(rw':jA z Y M H rs vs)(e:bY rs g=some gs)(nd:((vars 0 rs).map (·.2)).Nodup)
  (sc:S (rE z Y M H rs) gc σc Ac Mc Hc) (st:ao M H Mc Hc) (q:dz (rE z Y M H rs) gc σc Ac Mc Hc r v) (hb:back (vars 0 rs) gc g=some gO) (hr:d7 ((vars 0 rs).map (·.1)) gc r=some r') :
  ∃M2,S z gO Y As M2 Hc/\ao M H M2 Hc/\dz z gO Y As M2 Hc r' v:=by
 obtain⟨h1,h2,h3,h4,h5⟩:=oM s 0 rw' e;obtain⟨b1,b2,b3⟩:=rF hb nd;have hM:∀m∈M,m∈Mc:=sc.iG;have core:∀M2:List Addr,(∀m∈M,m∈M2)->(∀m∈M2,m∈Mc)->ao M H M2 Hc->S z gO Y As M2 Hc:=by
  intro M2 m1 m2 aK;refine⟨s.sl.transfer aK b1 (λi l a e1 e2=>?_) (λi o e1 e2=>?_),s.nd,λa ha=>m1 a (s.sub a ha),λi a l e1 e2=>?_,λm hm=>sc.live m (m2 m hm),λb o e1 e2 et=>?_,λm hm=>m1 m (s.iG m hm),s.m0,s.bm,λp hp=>⟨(s.jj p hp).1,?_⟩,sc.tab,s.tm,s.tt⟩
  .
   by_cases hi:i∈(vars 0 rs).map (·.2)
   .
    obtain⟨p,hp,rfl⟩:=gN.mp hi;obtain⟨l',q1,q2⟩:=b3 p hp (dL.mp e1).1;have hl:(p.1,adr Y p.2)∈cg Y (vars 0 rs):=tP (f:=λp:Nat×Nat=>(p.1,adr Y p.2)) hp
    obtain⟨c1,c2⟩:=sc.jj _ hl;obtain⟨a',xs,d1,d2,d3,d4⟩:=sc.sl.at q1;rw[c1]at d1;injection d1 with d1;injection d1 with d1;injection d1 with d1;rw[jB e2]at d1;subst d1;exact⟨l',xs,q2,d3,aH.stay (ao.less m2) d4⟩
   .
    obtain⟨a',xs,d1,d2,d3,d4⟩:=s.sl.at e1;rw[e2]at d1;injection d1 with d1;injection d1 with d1;injection d1 with d1;subst d1;refine⟨l,xs,by rw[b2 i hi];exact e1,sc.keep a _ d3 (λhB=>?_) (s.Qf d3),d4.stay aK⟩
    obtain⟨p,hp,ep⟩:=gN.mp (show a∈(cg Y (vars 0 rs)).map (·.2)from hB);obtain⟨p',vI,rfl⟩:=gN.mp hp;obtain⟨l2,a2,q1,q2,q3⟩:=h5 p' vI;have Kv:adr Y p'.2=a:=ep;rw[jB q2]at Kv;subst Kv;have:=s.sl.z9 s.nd e1 q1 e2 q2;exact hi (this▸tP (f:=(·.2)) vI)
  .
   refine (b2 i λhi=>?_).trans e1
   obtain⟨p,hp,rfl⟩:=gN.mp hi;obtain⟨l2,a2,q1,q2,q3⟩:=h5 p hp;rw[e1]at q1;injection q1 with q1;exact e2 l2 q1
  .
   by_cases hi:i∈(vars 0 rs).map (·.2)
   . obtain⟨p,hp,rfl⟩:=gN.mp hi;obtain⟨l2,a2,q1,q2,q3⟩:=h5 p hp;exact s.own p.2 a l2 q1 e2
   . rw[b2 i hi]at e1;exact s.own i a l e1 e2
  .
   have e3:=s.keep b o e1 e2 et;refine sc.keep b o e3 (λhB=>?_) et
   obtain⟨p,hp,ep⟩:=gN.mp (show b∈(cg Y (vars 0 rs)).map (·.2)from hB);obtain⟨p',vI,rfl⟩:=gN.mp hp;obtain⟨l2,a2,q1,q2,q3⟩:=h5 p' vI;have Kv:adr Y p'.2=b:=ep;rw[jB q2]at Kv;subst Kv;rcases s.own p'.2 a2 l2 q1 q2 with w |w
   . exact e2 w.2
   . rw[w]at e1;cases e1
  .
   by_cases hi:p.1∈(vars 0 rs).map (·.2)
   . obtain⟨p',vI,e'⟩:=gN.mp hi;have e'':p'.2=p.1:=e';obtain⟨l2,a2,q1,q2,q3⟩:=h5 p' vI;obtain⟨l',K9,GJ⟩:=b3 p' vI (dL.mp q1).1;exact⟨l',by rw[<- e''];exact GJ⟩
   . rw[b2 p.1 hi];exact (s.jj p hp).2
 have new:∀(a:Addr) (xs:List V) (l:List D),v=.ref a->a∈Mc->H a=none->Hc a=some (.lst xs)->aH z.K Mc Hc l xs->∃M2,S z gO Y As M2 Hc/\ao M H M2 Hc/\dz z gO Y As M2 Hc (.new l) v:=by
  intro a xs l ev hm h0 hx rr;have m2:∀m∈a::M,m∈Mc:=λm hm'=>(eA.mp hm').elim (λe=>e▸hm) (hM m)
  have aK:ao M H (a::M) Hc:=st.trans (ao.less m2);refine⟨a::M,core _ (λm hm'=>dA _ hm') m2 aK,aK,a,xs,ev,dC,λhA=>?_,s.cS h0,hx,rr.stay (ao.less m2)⟩
  exact s.fresh h0 (s.sub a hA)
 cases r with
 |dat d=>cases hr;have aK:ao M H M Hc:=st.trans (ao.less hM);exact⟨M,core M (λm h=>h) hM aK,aK,Rep.stay (ao.less hM) q⟩
 |new l=>cases hr;obtain⟨a,xs,rfl,c1,c2,c3,c4,c5⟩:=q;exact new a xs l rfl c1 c3 c4 c5
 |var j=>
  obtain⟨l,q1,q2⟩:=q;have hr:(if j∈(vars 0 rs).map (·.1)then none else match gc[j]? with |some (.own l)=>some (R.new l) |_=>none)=some r':=hr
  split at hr
  . cases hr
  .
   rename_i hj;rw[q1]at hr;cases hr;obtain⟨a,xs,d1,d2,d3,d4⟩:=sc.sl.at q1;rw[q2]at d1;injection d1 with d1;injection d1 with d1;subst d1;refine new a xs l rfl (sc.sub a d2) ?_ d3 d4;rcases sc.own j a l q1 q2 with w |w
   . have w':=w.1;rw[lD]at w';exact absurd w' hj
   . exact w
end
theorem jA.length(q:jA z Y M H rs vs):vs.length=rs.length:=by
 induction q with
 |nil=>rfl
 |dat r q ih=>exact congrArg (· + 1) ih
 |var r q ih=>exact congrArg (· + 1) ih
def LQ(K:Frag)(N:List Str)(np:Nat)(run:List Nat->G->R->G->Prop):Sp:=λvs H Q _=>
 vs.length=np/\∃(z:Z) (g g':G) (As M:List Addr) (r:R),z.K=K/\S z g (start N vs) As M H/\run z.bor g r g'/\
  ∀v σ' aB M' H',S z g' σ' aB M' H'->ao M H M' H'->dz z g' σ' aB M' H' r v->Q v H'
section
variable{run:List Nat->G->R->G->Prop}
theorem Aa(F:ji X.prog X.w X.K X.mg X.base uX k f fd ps (LQ X.K N ps.length run))(hK:z.K=X.K)(hr:bS k X.A)(hg:Gl X x)(hm:X.mg x=some (.ref f))(hk:PySem.W.keepIn X.K (.ref f)=true)(hb:Binds X.K fd ps [])
  (ha:cQ X z (e::es) g rs g1) (aJ:rs.length=ps.length) (hl:bY rs g1=some gs) (nd:((vars 0 rs).map (·.2)).Nodup) (hrun:run ((vars 0 rs).map (·.1)) (cU N.length gs) r gc) (GK:back (vars 0 rs) gc g1=some gO) (ho:d7 ((vars 0 rs).map (·.1)) gc r=some r')
  (jQ:(x==(~~~3))=false) (he:starEach (e::es) X.env=(false,eval e X.env)::starEach es X.env) (g8:(backTo pos (starEach es X.env)).any (·.1)=false) :
  aA X z (.Call (.Name x p) (e::es) [] pos) g r' gO:=by
 obtain⟨t,q,kk⟩:=ha;refine⟨_,zU F hr hg hm hk hb .nil Qa q jQ he g8,λY As M H Q s kq=>kk Y As M H _ s λvs H1 aL M1 s1 cP R1=>?_⟩
 have hv:vs.length=rs.length:=R1.length;have ee:=s1.enter (N:=N) R1 hl nd;refine⟨by rw[nK,hv];exact aJ,rE z Y M1 H1 rs,cU N.length gs,gc,_,M1,r,hK,by rw[nK];exact ee,by rw[lD];exact hrun,λv σ' aB M' H' s' st' R'=>?_⟩
 obtain⟨M2,s2,aK,R2⟩:=s1.leave R1 hl nd s' st' R' GK ho;exact kq v H' aL M2 s2 (cP.trans aK) R2
theorem Ad{P:Program}{w:World}{K:Frag}{mg:Str->Option Value}{base:Heap}{qual:Str}{st:Stmt}(F:K3 K x qual st f fd)(Sc:bV N ps (aF st))
  (h:∀(bD:Value) (A:Around) (outer:List Env) (s:Shared) (H:Hp) (E:XK),PySem.W.codeIn K bD qual=true->bS k (A.deeper (envOfC qual (aF st) s⁻¹ f bD))->
   ∀(z:Z) (g:G) (r:R) (g':G),z.K=K->run z.bor g r g'->∃fl,eu (fF uX P w K mg base N qual (aF st) f bD A outer s H E).kZ z (bA st) g fl g'/\(fl=.rt r\/(fl=.nx/\r=.dat .non))) :
  ji P w K mg base uX (k+1) f fd ps (LQ K N ps.length run):=by
 obtain⟨oc,od,kV,doc,pm,an,bD,ct,osl,rfl,lk,bN⟩:=F.ex;refine P9 lk bN Sc (λvs H Q E q=>q.1) λA outer s H vs Q E hr ⟨_,z,g,g',As,M,r,hK,hs,hrun,hQ⟩=>?_
 obtain⟨fl,⟨t,q,kk⟩,hfl⟩:=h bD A outer s H E bN hr z g r g' hK hrun;refine⟨t,q.kZ,kk _ As M H _ hs ?_⟩;rcases hfl with rfl |⟨rfl,rfl⟩
 . exact λv σ' aB M' H' s' st' R'=>hQ v σ' aB M' H' s' st' R'
 . exact λσ' aB M' H' s' st'=>hQ .non σ' aB M' H' s' st' .non
end
inductive Tg where
 |nm (i:Nat) |tp (is:List Nat)
noncomputable def lE:List Nat->List D->G->G
 |i::is,d::ds,g=>lE is ds (g.set i (.dat d))
 | [],_,g=>g
 |_::_,[],g=>g
noncomputable def Tg.ix:Tg->List Nat
 |.nm i=>[i]
 |.tp is=>is
def Tg.set:Tg->D->G->Option G
 |.nm i,d,g=>some (g.set i (.dat d))
 |.tp is,.tup ds,g=>if ds.length=is.length then some (lE is ds g)else none
 |.tp is,.lst ds,g=>if ds.length=is.length then some (lE is ds g)else none
 |.tp _,_,_=>none
def uY(is:List Nat)(Y σ':Sg):Prop:=σ'.length=Y.length/\∀j,j∉is->σ'[j]?=Y[j]?
theorem uY.refl(is:List Nat)(Y:Sg):uY is Y Y:=⟨rfl,λ_ _=>rfl⟩
theorem uY.trans{is:List Nat}{Y σ1 σ2:Sg}(a:uY is Y σ1)(b:uY is σ1 σ2):uY is Y σ2:=⟨b.1.trans a.1,λj h=>(b.2 j h).trans (a.2 j h)⟩
theorem uY.mono(h:∀i∈is,i∈js)(a:uY is Y σ'):uY js Y σ':=⟨a.1,λj hj=>a.2 j λz=>hj (h j z)⟩
def fV(X:Cx)(z:Z)(tg:Expr)(T:Tg):Prop:=∃t,PG X tg t/\∀d g g',T.set d g=some g'->∀v Y As M H (Q:Sg->Hp->Prop),S z g Y As M H->Rep z.K M H d v->(∀σ' aB,S z g' σ' aB M H->uY T.ix Y σ'->Q σ' H)->t v Y H Q
structure Tf(X:Cx)(x:Str)(i:Nat):Prop where
 nd:X.N.Nodup
 ix:X.N[i]?=some x
 lc:Loc X.env.scope x
 fn:X.fn x=true\/X.env.scope.names.lookup x=some .local
section
theorem Yt(h:Tf X x i)(hb:i∉z.bor):fV X z (.Name x pos) (.nm i):=
 ⟨_,zQ h.nd h.ix h.lc h.fn,λd g g' e v Y As M H Q s r k=>by
  cases e;obtain⟨aB,s'⟩:=s.gQ (i:=i) hb r;exact k _ aB s' ⟨by rw[yY],λj hj=>by rw[fN (λe=>hj (by rw[<- e];exact hV.mpr rfl))]⟩⟩
inductive j8(X:Cx):List Expr->List Nat->Prop
 |nil:j8 X [] []
 |cons {x:Str}{p:Pos}{i:Nat}{es:List Expr}{is:List Nat}:Tf X x i->j8 X es is->j8 X (.Name x p::es) (i::is)
theorem j8.plain(h:j8 X es is):(assignEach es X.env).length=is.length/\(assignEach es X.env).findIdx? (·.1)=none:=by
 induction h with
 |nil=>exact⟨rfl,rfl⟩
 |cons _ _ ih=>
  refine⟨?_,?_⟩
  . show (assignEach _ X.env).length+1=_;rw[ih.1];rfl
  . show List.findIdx? _ ((false,assign _ X.env)::assignEach _ X.env)=none;rw[List.findIdx?_cons,ih.2];rfl
theorem j8.pgs(h:j8 X es is)(hb:∀i∈is,i∉z.bor):∃t,Wu X es t/\∀ds vs g Y As M H (Q:Sg->Hp->Prop),ds.length=is.length->S z g Y As M H->aH z.K M H ds vs->(∀σ' aB,S z (lE is ds g) σ' aB M H->uY is Y σ'->Q σ' H)->t vs Y H Q:=by
 induction h with
 |nil=>
  refine⟨_,zR,λds vs g Y As M H Q hl s r k=>?_⟩
  cases r with
  |nil=>exact⟨rfl,k Y As s (uY.refl _ _)⟩
  |cons _ _=>simp at hl
 |@cons x p i es is hn hs ih=>
  obtain⟨t,q,kk⟩:=ih λj hj=>hb j (dA _ hj)
  refine⟨_,nY (zQ hn.nd hn.ix hn.lc hn.fn) q rfl,λds vs g Y As M H Q hl s r k=>?_⟩
  cases r with
  |nil=>simp at hl
  |@cons d ds v vs r rs=>
   obtain⟨aL,s1⟩:=s.gQ (i:=i) (hb i dC) r;refine⟨v,vs,rfl,kk ds vs _ _ aL M H Q (by simpa using hl) s1 rs λσ' aB s' a=>k σ' aB s' ?_⟩
   refine uY.trans ⟨by rw[yY],λj hj=>?_⟩ (a.mono λj hj=>dA _ hj)
   rw[fN (λe=>hj (by rw[<- e];exact dC))]
theorem yw{prog:Program}{w:World}{A:Around}{E:Value->Shared->Prop}{it l:Addr}{xs:Array Value}(ne:l≠it)(n:Nat):∀(i:Nat) (s:Shared) (Q:List Value->Shared->Prop),s.heap.IsListIter it l i->s.heap.IsList l xs->i+n=xs.size->
  (∀h',h'.IsListIter it l xs.size->Heap.SameBut it s.heap h'->Q (xs.toList.drop i) { s with heap:=h'})->wpAny (model prog w) A (draw (.ref it) n) Q E s:=by
 induction n with
 |zero=>
  intro i s Q hit _ hi k;have e:xs.toList.drop i=[]:=List.drop_eq_nil_of_le (by rw[oC];lia)
  have q:=k s.heap (by rw[<- hi];exact hit) (Heap.SameBut.refl ..)
  rw[e]at q;exact dS q
 |succ n ih=>
  intro i s Q hit hl hi k;have hlt:i<xs.size:=by lia
  refine aS (wpAny_pyNext_list_item hit hl (x:=xs[i]) (by simp[hlt]) λh1 b1 c1=>?_)
  refine aS (l7 (ih (i+1) _ _ b1 (hl.extBut c1.extBut ne) ⋯ λh2 b2 c2=>dS ?_))
  have q:=k h2 b2 (c1.trans c2);rw[List.drop_eq_getElem_cons (by rw[oC];exact hlt)]at q
  exact q
theorem vJ{prog:Program}{w:World}{A:Around}{E:Value->Shared->Prop}{s:Shared}{l:Addr}{xs:Array Value}{Q:List Value->Shared->Prop}(hh:A.handled=none)(hl:s.heap.IsList l xs)
  (k:∀h',Heap.ExtBut s⁻¹ s.heap h'->Q xs.toList { s with heap:=h'}):wpAny (model prog w) A (unpackItems (.ref l) xs.size none) Q E s:=by
 have ne:l≠s⁻¹:=by obtain⟨o,ho,_⟩:=hl;exact i7 (eQ ho)
 unfold unpackItems;refine aS ?_;unfold notIterableAtAll;refine aS (wpAny_specialOf hl.typeIs slot_list_iter.lookup ?_);refine dS ?_;simp only[AQ,C1];refine aS (l7 (AU hl ?_));refine aS (l7 (yw ne xs.size 0 _ _ ⟨_,eM _ rfl,rfl,rfl⟩ (hl.push _) (Nat.zero_add _) λh1 b1 c1=>?_))
 rw[List.drop_zero,hU ⋯];refine aS (l7 (wpAny_pyNext_list_end hh b1 ((hl.push _).extBut c1.extBut ne) ⋯ λh2 e2=>?_))
 simp only[Option.isSome_none,AQ,C1];exact dS (k h2 λb o nb e=>e2 b o nb (c1.extBut b o nb (bP _ e)))
def gSeq(K:Frag)(n:Nat)(t:P6):TG:=λv Y H Q=>∃a xs,v=.ref a/\(fP K H a xs\/cz K H a xs)/\xs.length=n/\t xs Y H Q
theorem Ti{es:List Expr}{k:Nat}{t:P6}{n:Nat}(hc:X.calm=true)(h:Wu X es t)(hn:(assignEach es X.env).length=n)(dg:(assignEach es X.env).findIdx? (·.1)=none):PG X (.Tuple es k pos) (gSeq X.K n t):=by
 intro ah s Y H v u Q I r hw;obtain⟨a,xs,e1,hq,hl,hw⟩:=hw;rcases hq with hq |hq
 . exact FH hc h hn dg ah s Y H v u Q I r ⟨a,xs,e1,hq,hl,hw⟩
 .
  subst e1;cases r;obtain⟨its,rv,pl,hz⟩:=I.list hq;rw[assign_Tuple];refine aS (xI ?_);unfold unpack;rw[dg,show (assignEach es X.env).length=its.toArray.size by rw[hn,<- hl,rv.length,dE]]
  refine aS (l7 (vJ (I.ok.hd hc) pl.isList λh' hx=>?_))
  have I1:L2.Inv X ah Y H { s with heap:=h'}:=I.kept (t':=s.toks) λb o e=>hx b o (i7 (eQ e)) e
  exact h ah _ Y H xs _ Q I1 (by simpa using rv) hw
theorem Yu(hc:X.calm=true)(hK:z.K=X.K)(h:j8 X es is)(hb:∀i∈is,i∉z.bor):fV X z (.Tuple es k pos) (.tp is):=by
 obtain⟨t,q,kk⟩:=h.pgs (z:=z) hb;refine⟨_,Ti (n:=is.length) hc q h.plain.1 h.plain.2,λd g g' e v Y As M H Q s r k=>?_⟩
 cases d with
 |tup ds=>
  have e:(if ds.length=is.length then some (lE is ds g)else none)=some g':=e
  by_cases hl:ds.length=is.length
  .
   rw[gL hl]at e;cases e;cases r with
   |@tup _ a xs ha rr=>exact⟨a,xs,rfl,.inl (hK▸ha.sq),by rw[<- rr.length];exact hl,kk ds xs g Y As M H Q hl s rr k⟩
  . rw[hU hl]at e;cases e
 |lst ds=>
  have e:(if ds.length=is.length then some (lE is ds g)else none)=some g':=e
  by_cases hl:ds.length=is.length
  .
   rw[gL hl]at e;cases e;cases r with
   |@lst _ a xs ha rr=>exact⟨a,xs,rfl,.inr (cz.of ha.2),by rw[<- rr.length];exact hl,kk ds xs g Y As M H Q hl s rr k⟩
  . rw[hU hl]at e;cases e
 |_=>cases e
def Jt(J:It)(items:List D)(K:Frag)(M1:List Addr)(H1:Hp):Prop:=
 ∀M2 H2,ao M1 H1 M2 H2->(∀n d,items[n]?=some d->J.go n H2/\∀x H',J.Xs n H2 x H'->∀(z:Z) g Y As,z.K=K->S z g Y As M2 H2->S z g Y As M2 H'/\ao M2 H2 M2 H'/\Rep K M2 H' d x)/\J.stop items.length H2
def dU(X:Cx)(z:Z)(tg iter:Expr)(g:G)(items:List D)(g1:G):Prop:=
 ∃wi,PI X tg iter wi/\∀Y As M H (R:It->Hp->Prop),S z g Y As M H->(∀J H' aB M',S z g1 Y aB M' H'->ao M H M' H'->Jt J items z.K M' H'->R J H')->wi Y H R
theorem Tj(hK:z.K=X.K)(h:aA X z iter g (.dat (.tup l)) g1):dU X z tg iter g l g1:=by
 obtain⟨t,q,k⟩:=h;refine⟨_,Ra q,λY As M H R s kk=>k Y As M H _ s λv H1 aL M1 s1 cP r=>?_⟩
 have r':Rep z.K M1 H1 (.tup l) v:=r;cases r' with
 |@tup _ a xs ha rr=>
  refine⟨a,rfl,⟨xs,hK▸ha.sq⟩,kk _ H1 aL M1 s1 cP λM2 H2 aK=>?_⟩
  have r2:=Rep.stay aK (Rep.tup ha rr);have ha2:TupAt z.K M2 H2 a xs:=by
   rcases ha with ⟨na,hr⟩ |hk
   . exact .inl (aK.rd na hr)
   . exact .inr hk
  have Qj:=rr.stay aK;refine⟨λn d hd=>?_,xs,hK▸ha2.sq,by rw[rr.length];exact eC _⟩
  obtain⟨x,e1,e2⟩:=Qj.get hd;refine⟨⟨xs,x,hK▸ha2.sq,e1⟩,λy H' hy z' g' σ' aB _ s'=>?_⟩
  obtain⟨rfl,hy⟩:=hy;have:=hy xs (hK▸ha2.sq);rw[e1]at this;cases this;exact⟨s',ao.refl _ _,e2⟩
theorem Tp(h:aA X z iter g (.dat (.lst l)) g1):dU X z tg iter g l g1:=by
 obtain⟨t,q,k⟩:=h;refine⟨_,zT q,λY As M H R s kk=>k Y As M H _ s λv H1 aL M1 s1 cP r=>?_⟩
 have r':Rep z.K M1 H1 (.lst l) v:=r;cases r' with
 |@lst _ a xs ha rr=>
  refine⟨a,rfl,⟨xs,cz.of ha.2⟩,kk _ H1 aL M1 s1 cP λM2 H2 aK=>?_⟩
  have ha2:=(aK _ _ ha.2 ha.1).1;have Qj:=rr.stay aK;refine⟨λn d hd=>?_,xs,cz.of ha2,by rw[rr.length];exact eC _⟩
  obtain⟨x,e1,e2⟩:=Qj.get hd;refine⟨⟨xs,x,cz.of ha2,e1⟩,λy H' hy z' g' σ' aB _ s'=>?_⟩
  obtain⟨rfl,hy⟩:=hy;have:=hy xs (cz.of ha2);rw[e1]at this;cases this;exact⟨s',ao.refl _ _,e2⟩
theorem Tq(hK:z.K=X.K)(h:aA X z iter g (.dat (.fix l)) g1):dU X z tg iter g l g1:=by
 obtain⟨t,q,k⟩:=h;refine⟨_,zT q,λY As M H R s kk=>k Y As M H _ s λv H1 aL M1 s1 cP r=>?_⟩
 have r':Rep z.K M1 H1 (.fix l) v:=r;cases r' with
 |@fix _ a xs ha rr=>
  refine⟨a,rfl,⟨xs,hK▸ha.sq⟩,kk _ H1 aL M1 s1 cP λM2 H2 aK=>?_⟩
  have ha2:oA z.K M2 H2 a xs:=by
   rcases ha with ⟨na,o,hr⟩ |hk
   . exact .inl ⟨(aK _ _ hr na).2,o,(aK _ _ hr na).1⟩
   . exact .inr hk
  have Qj:=rr.stay aK;refine⟨λn d hd=>?_,xs,hK▸ha2.sq,by rw[rr.length];exact eC _⟩
  obtain⟨x,e1,e2⟩:=Qj.get hd;refine⟨⟨xs,x,hK▸ha2.sq,e1⟩,λy H' hy z' g' σ' aB _ s'=>?_⟩
  obtain⟨rfl,hy⟩:=hy;have:=hy xs (hK▸ha2.sq);rw[e1]at this;cases this;exact⟨s',ao.refl _ _,e2⟩
theorem GL{lo:Int}{n:Nat}{K:Frag}{M:List Addr}{H:Hp}:Jt (Q9 lo n) (cJ lo n) K M H:=λM2 H2 _=>by
 refine⟨λk d hd=>?_,?_⟩
 .
  have hk:k<n:=by have:=(dL.mp hd).1;rw[vH]at this;exact this
  rw[GD hk]at hd;cases hd;refine⟨hk,λx H' hx z' g' σ' aB _ s'=>?_⟩
  obtain⟨rfl,rfl⟩:=hx;exact⟨s',ao.refl _ _,.int _⟩
 . show n<=(cJ lo n).length;rw[vH];exact eC _
theorem LR(h:cQ X z [a] g [‹j›] g1)(hg:Gl X "range")(hm:X.mg "range"=none)(hs:starEach [a] X.env=[(false,eval a X.env)])(h1 : -(2 ^ 62)<=j)(h2:j<2 ^ 62) :
  dU X z tg (.Call (.Name "range" p) [a] [] rp) g (cJ 0 j.toNat) g1:=by
 obtain⟨wi,q,k⟩:=Cz (p:=p) (rp:=rp) h hg hm hs h1 h2 (tg:=tg);exact⟨wi,q,λY As M H R s kk=>k Y As M H _ s λH' aB M' s' st=>kk _ H' aB M' s' st GL⟩
theorem LW(h:cQ X z [a,b] g [‹c›,‹j›] g1)(hg:Gl X "range")(hm:X.mg "range"=none)(hs:starEach [a,b] X.env=[(false,eval a X.env),(false,eval b X.env)])(hs2:starEach [b] X.env=[(false,eval b X.env)])
  (h1 : -(2 ^ 62)<=c/\c<2 ^ 62/\-(2 ^ 62)<=j/\j<2 ^ 62):dU X z tg (.Call (.Name "range" p) [a,b] [] rp) g (cJ c (j - c).toNat) g1:=by
 obtain⟨wi,q,k⟩:=CG (p:=p) (rp:=rp) h hg hm hs hs2 h1 (tg:=tg);exact⟨wi,q,λY As M H R s kk=>k Y As M H _ s λH' aB M' s' st=>kk _ H' aB M' s' st GL⟩
inductive eU(X:Cx)(z:Z)(body:List Stmt)(T:Tg):List D->G->Fl->G->Prop
 |nil {g:G}:eU X z body T [] g .nx g
 |next {d:D}{l:List D}{g g0 g1 g2:G}{f:Fl}:T.set d g=some g0->eu X z body g0 .nx g1->eU X z body T l g1 f g2->eU X z body T (d::l) g f g2
 |cont {d:D}{l:List D}{g g0 g1 g2:G}{f:Fl}:T.set d g=some g0->eu X z body g0 .ct g1->eU X z body T l g1 f g2->eU X z body T (d::l) g f g2
 |brk {d:D}{l:List D}{g g0 g1:G}:T.set d g=some g0->eu X z body g0 .bk g1->eU X z body T (d::l) g .nx g1
 |ret {d:D}{l:List D}{g g0 g1:G}{r:R}:T.set d g=some g0->eu X z body g0 (.rt r) g1->eU X z body T (d::l) g (.rt r) g1
theorem Tr(hp:PassesOwn (~~~2) X.A X.env X.xe)(hc:X.calm=true)(hw:dU X z tg iter g items g1)(ht:fV X z tg T)(hb:eU X z body T items g1 f g')(hs:∀y,foldedSetIterable iter X.env y=pure y) :
  fJ X z (.For tg iter body [] pos) g f g':=by
 obtain⟨wi,q,k⟩:=hw;obtain⟨t,qt,kt⟩:=ht;refine⟨_,Rb hp hc q qt z8 hs,λY As M H E s kk=>k Y As M H _ s λJ H1 aL M1 s1 cP hJ=>?_⟩
 refine⟨λi m σ2 H2=>i+m=items.length/\∃g2 bx M2,S z g2 σ2 bx M2 H2/\ao M1 H1 M2 H2/\eU X z body T (items.drop i) g2 f g',⟨items.length,by lia,g1,aL,M1,s1,ao.refl _ _,by simpa using hb⟩,?_⟩
 rintro i m σ2 H2 ⟨him,g2,bx,M2,s2,aK,lo⟩;obtain⟨hgo,hstop⟩:=hJ M2 H2 aK;cases e:items[i]? with
 |none=>
  have hi:i=items.length:=by have:=sT.mp e;lia
  subst hi;rw[A7]at lo;refine .inl ⟨hstop,?_⟩;cases lo;exact kk σ2 bx M2 H2 s2 (cP.trans aK)
 |some d=>
  obtain⟨go,yl⟩:=hgo i d e;rw[drop_cons e]at lo;have hi:i<items.length:=(dL.mp e).1;refine .inr ⟨go,λσ' H'=>∃g3 mF M3,S z g3 σ' mF M3 H'/\ao M1 H1 M3 H'/\eU X z body T (items.drop (i+1)) g3 f g',λσ' H' ⟨g3,mF,M3,w1,w2,w3⟩=>⟨m - 1,by lia,by lia,g3,mF,M3,w1,w2,w3⟩,λx H' hx=>?_⟩
  obtain⟨s3,eE,rx⟩:=yl x H' hx z g2 σ2 bx rfl s2;have kk':=(kk.trans cP).trans (aK.trans eE);have Yv:=aK.trans eE;cases lo with
  |next e0 b h=>
   refine kt d g2 _ e0 x σ2 bx M2 H' _ s3 rx λσ' aB s' _=>?_
   obtain⟨t,q,kb⟩:=b;exact⟨t,q,kb _ aB M2 H' _ s' λσ4 iK M4 H4 s4 uZ=>⟨_,iK,M4,s4,Yv.trans uZ,h⟩⟩
  |cont e0 b h=>
   refine kt d g2 _ e0 x σ2 bx M2 H' _ s3 rx λσ' aB s' _=>?_
   obtain⟨t,q,kb⟩:=b;exact⟨t,q,kb _ aB M2 H' _ s' λσ4 iK M4 H4 s4 uZ=>⟨_,iK,M4,s4,Yv.trans uZ,h⟩⟩
  |brk e0 b=>
   refine kt d g2 _ e0 x σ2 bx M2 H' _ s3 rx λσ' aB s' _=>?_
   obtain⟨t,q,kb⟩:=b;exact⟨t,q,kb _ aB M2 H' _ s' λσ4 iK M4 H4 s4 uZ=>kk' σ4 iK M4 H4 s4 uZ⟩
  |ret e0 b=>
   refine kt d g2 _ e0 x σ2 bx M2 H' _ s3 rx λσ' aB s' _=>?_
   obtain⟨t,q,kb⟩:=b;exact⟨t,q,kb _ aB M2 H' _ s' λv σ4 iK M4 H4 s4 uZ R=>kk' v σ4 iK M4 H4 s4 uZ R⟩
end
noncomputable def gC(k:Nat)(g:G):G:=g++(List.replicate k .no++[.own []])
def cV(X:Cx)(z:Z)(ifs:List Expr)(g:G)(b:Bool)(g':G):Prop:=
 ∃t,j4 X ifs t/\∀Y As M H (Q:Bool->Hp->Prop),S z g Y As M H->(∀H' aB M',S z g' Y aB M' H'->ao M H M' H'->Q b H')->t Y H Q
theorem L0:cV X z [] g true g:=⟨_,vC,λY As M H Q s k=>k H As M s (ao.refl _ _)⟩
theorem L1(h:cA X z c g b g'):cV X z [c] g b g':=let ⟨t,q,k⟩:=h;⟨t,Gg q,k⟩
inductive jk(T:Tg)(last:Nat)(tU:G->Bool->G->Prop)(J5:G->D->G->Prop):List D->G->G->Prop
 |nil {g:G}:jk T last tU J5 [] g g
 |skip:T.set d g=some g1->tU g1 false g2->jk T last tU J5 l g2 g'->jk T last tU J5 (d::l) g g'
 |take:T.set d g=some g1->tU g1 true g2->J5 g2 e g3->g3[last]?=some (.own acc)->acc.length<16777216->jk T last tU J5 l (g3.set last (.own (acc++[e]))) g'->jk T last tU J5 (d::l) g g'
section
theorem S.extend(s:S z g Y As M H)(hm:a∈M)(hA:a∉As)(h0:z.H0 a=none)(h:H a=some (.lst xs))(r:aH z.K M H l xs) :
  S z (g++(List.replicate k .no++[.own l])) (Y++(List.replicate k none++[some (.ref a)])) (As++([]++[a])) M H:=by
 have hl:=s.sl.length;refine⟨s.sl.append ((Slots.nos k).append (.own h r .nil)),?_,λb hb=>?_,λi b l' e1 e2=>?_,s.live,s.keep,s.iG,s.m0,s.bm,λp hp=>?_,s.tab,s.tm,s.tt⟩
 .
  rw[y6];refine AH.mpr ⟨s.nd,i3.mpr ⟨by simp,t7⟩,λx hx y hy e=>?_⟩
  rw[hV.mp hy]at e;exact hA (e▸hx)
 .
  rcases t9.mp hb with q |q
  . exact s.sub b q
  . rw[y6]at q;rw[hV.mp q];exact hm
 .
  rcases x0 i g.length with hi |hi
  . rw[eP hi]at e1;rw[eP ⋯]at e2;exact s.own i b l' e1 e2
  .
   rw[fR hi]at e1;rw[fR ⋯]at e2;rcases x0 (i - g.length) k with hk |hk
   .
    rw[eP (by rw[l6];exact hk)]at e1
    have:=l8 e1;rw[wS]at this;exact absurd this.2 ⋯
   .
    rw[fR (by rw[l6];lia),l6]at e2
    have e3:i - Y.length - k=0:=by
     rcases Nat.eq_zero_or_pos (i - Y.length - k)with q |q
     . exact q
     . rw[AS (Nat.succ_le_of_lt q)]at e2;cases e2
    rw[e3]at e2;have e4:some (some (V.ref a))=some (some (V.ref b)):=e2;injection e4 with e4;injection e4 with e4;injection e4 with e4;exact .inr (e4▸h0)
 . obtain⟨q1,l',q2⟩:=s.jj p hp;exact⟨by rw[eP (dL.mp q1).1];exact q1,l',by rw[eP (dL.mp q2).1];exact q2⟩
theorem Slots.split{K:Frag}{g1 g2:G}{Y:Sg}{As:List Addr}(q:Slots K M H (g1++g2) Y As):∃σ1 σ2 A1 A2,Y=σ1++σ2/\As=A1++A2/\Slots K M H g1 σ1 A1/\Slots K M H g2 σ2 A2:=by
 induction g1 generalizing Y As with
 |nil=>exact⟨[],_,[],_,rfl,rfl,.nil,q⟩
 |cons o g1 ih=>cases q with
  |no q=>obtain⟨s1,s2,a1,a2,rfl,rfl,h1,h2⟩:=ih q;exact⟨_::s1,s2,a1,a2,rfl,rfl,.no h1,h2⟩
  |dat r q=>obtain⟨s1,s2,a1,a2,rfl,rfl,h1,h2⟩:=ih q;exact⟨_::s1,s2,a1,a2,rfl,rfl,.dat r h1,h2⟩
  |own e r q=>obtain⟨s1,s2,a1,a2,rfl,rfl,h1,h2⟩:=ih q;exact⟨_::s1,s2,_::a1,a2,rfl,rfl,.own e r h1,h2⟩
theorem S.shrink{gb:G}{τ:Sg}{l:List D}{i:Nat}{a:Addr}(s:S z gb (Y++τ) As M H)(hz:∀p∈z.lent,p.1<Y.length)(hi:Y.length<=i)(e1:gb[i]?=some (.own l))(e2:(Y++τ)[i]?=some (some (.ref a))) :
  ∃A1,S z (gb.take Y.length) Y A1 M H/\a∈M/\a∉A1:=by
 have hl:=s.sl.length;rw[eJ]at hl;have q:=s.sl;rw[<- B9 Y.length gb]at q;obtain⟨σ1,σ2,A1,A2,h1,h2,h3,h4⟩:=q.split;have l1:=h3.length;rw[v0,Nat.min_eq_left ⋯]at l1;obtain⟨rfl,rfl⟩:=List.append_inj h1 l1;subst h2;have hA2:a∈A2:=by
  obtain⟨b,xs,f1,f2,_⟩:=h4.at (i:=i - Y.length) (l:=l) (by rw[List.getElem?_drop,Nat.add_sub_cancel' hi];exact e1)
  rw[fR hi]at e2;rw[e2]at f1;injection f1 with f1;injection f1 with f1;injection f1 with f1;exact f1▸f2
 have tk:∀(j:Nat) (o:Slot),(gb.take Y.length)[j]?=some o->gb[j]?=some o/\j<Y.length:=λj o e=>by
  have hj:=(dL.mp e).1;rw[v0]at hj;have hj':j<Y.length:=eD hj (Nat.min_le_left _ _);rw[oI hj']at e;exact⟨e,hj'⟩
 refine⟨A1,⟨h3,(AH.mp s.nd).1,λb hb=>s.sub b (qS _ hb),λj b l' c1 c2=>?_,s.live,s.keep,s.iG,s.m0,s.bm,λp hp=>?_,s.tab,s.tm,s.tt⟩,s.sub a (i5 _ hA2),λhA=>(AH.mp s.nd).2.2 a hA a hA2 rfl⟩
 . obtain⟨c3,c4⟩:=tk j _ c1;exact s.own j b l' c3 (by rw[eP c4];exact c2)
 . obtain⟨c1,l',c2⟩:=s.jj p hp;have vI:=hz p hp;rw[eP vI]at c1;exact⟨c1,l',by rw[oI vI];exact c2⟩
theorem dF(h:uY is (Y++τ) σ')(hi:∀i∈is,Y.length<=i):∃τ',σ'=Y++τ':=by
 refine⟨σ'.drop Y.length,?_⟩;have e:σ'.take Y.length=Y:=by
  apply List.ext_getElem?;intro j;rcases x0 j Y.length with hj |hj
  . rw[oI hj,h.2 j (λz=>Nat.not_lt.mpr (hi j z) hj),eP hj]
  . rw[AS (by rw[v0];exact kA (Nat.min_le_left _ _) hj),AS hj]
 have:=(B9 Y.length σ').symm;rw[e]at this;exact this
end
section
def CK(X:Cx)(tg:Expr):TG:=λv Y H Q=>∃t,PG X tg t/\t v Y H Q
theorem jC:PG X tg (CK X tg):=λah s Y H v u Q I r h=>let ⟨t,q,k⟩:=h;q ah s Y H v u Q I r k
def GP(X:Cx)(ifs:List Expr):TT:=λY H Q=>∃t,j4 X ifs t/\t Y H Q
theorem lF:j4 X ifs (GP X ifs):=λah s Y H Q I h=>let ⟨t,q,k⟩:=h;q ah s Y H Q I k
def CN(X:Cx)(e:Expr):TE:=λY H Q=>∃t,PE X e t/\t Y H Q
theorem lG:PE X e (CN X e):=λah s Y H Q I h=>let ⟨t,q,k⟩:=h;q ah s Y H Q I k
theorem oN(hw:dU X z tg iter g items g1)(ht:∀b:Bk,fV (X.blk N' scope b) z tg T)(hT:∀i∈T.ix,g1.length<=i/\i<g1.length+k)
  (hcp:jk T (g1.length+k) (λg b g'=>∀bk:Bk,cV (X.blk N' scope bk) z ifs g b g') (λg d g'=>∀bk:Bk,aA (X.blk N' scope bk) z cC g (.dat d) g') items (gC k g1) gE) (hacc:gE[g1.length+k]?=some (.own acc)) :
  ∃wi,PI X tg iter wi/\∀Y As M H Q,S z g Y As M H->Kn z (gE.take g1.length) Y M H (.new acc) Q->rA X k wi (λb=>CK (X.blk N' scope b) tg) (λb=>GP (X.blk N' scope b) ifs) (λD b=>tH D (CN (X.blk N' scope b) cC)) Y H Q:=by
 obtain⟨wi,q,kw⟩:=hw;refine⟨wi,q,λY As M H Q s kq=>kw Y As M H _ s λJ H1 aL M1 s1 cP hJ D hD=>?_⟩
 have hl:g1.length=Y.length:=s1.sl.length;have hz:∀p∈z.lent,p.1<Y.length:=λp hp=>(dL.mp (s1.jj p hp).1).1
 have L5:∀i∈T.ix,Y.length<=i:=λi hi=>by rw[<- hl];exact (hT i hi).1
 have cN:g1.length+k∉T.ix:=λh=>nE _ (hT _ h).2
 have s1':=s1.aY (xs:=[]) hD;have h0:z.H0 D=none:=s1.cS hD;have nA:D∉aL:=λh=>s1.fresh hD (s1.sub D h)
 have sb:=s1'.extend (k:=k) (l:=[]) dC nA h0 aE .nil;have GQ:(Y++(List.replicate k none++[some (V.ref D)]))[g1.length+k]?=some (some (V.ref D)):=by
  rw[hl,fR (Nat.le_add_right _ _),vS,fR (by rw[l6];exact eC _),l6,Nat.sub_self]
  rfl
 refine⟨λi m σ' H'=>i+m=items.length/\∃gb Ab Mb τ,S z gb σ' Ab Mb H'/\ao M1 H1 Mb H'/\σ'=Y++τ/\σ'[g1.length+k]?=some (some (.ref D))/\jk T (g1.length+k) (λg b g'=>∀bk:Bk,cV (X.blk N' scope bk) z ifs g b g') (λg d g'=>∀bk:Bk,aA (X.blk N' scope bk) z cC g (.dat d) g') (items.drop i) gb gE,
  ⟨items.length,by lia,_,_,_,_,sb,ao.aY hD,rfl,GQ,hcp⟩,?_⟩
 rintro i m σ' H' ⟨him,gb,Ab,Mb,τ,s2,aK,rfl,CP,cp⟩;obtain⟨hgo,hstop⟩:=hJ Mb H' aK;cases e:items[i]? with
 |none=>
  have hi:i=items.length:=by have:=sT.mp e;lia
  subst hi;rw[A7]at cp;cases cp;refine .inl ⟨hstop,?_⟩;obtain⟨a,xs,f1,f2,f3,f4⟩:=s2.sl.at hacc;rw[CP]at f1;injection f1 with f1;injection f1 with f1;injection f1 with f1;subst f1;obtain⟨A1,s3,m3,n3⟩:=s2.shrink hz ⋯ hacc CP;rw[<- hl]at s3;exact kq _ H' A1 Mb s3 (cP.trans aK) ⟨D,xs,rfl,m3,n3,h0,f3,f4⟩
 |some d=>
  obtain⟨go,yl⟩:=hgo i d e;rw[drop_cons e]at cp;have hi:i<items.length:=(dL.mp e).1;refine .inr ⟨go,λσ' H'=>∃gb Ab Mb τ,S z gb σ' Ab Mb H'/\ao M1 H1 Mb H'/\σ'=Y++τ/\σ'[g1.length+k]?=some (some (.ref D))/\jk T (g1.length+k) (λg b g'=>∀bk:Bk,cV (X.blk N' scope bk) z ifs g b g') (λg d g'=>∀bk:Bk,aA (X.blk N' scope bk) z cC g (.dat d) g') (items.drop (i+1)) gb gE,
   λK5 K6 hN=>⟨m - 1,by lia,by lia,hN⟩,λx H2 hx bk _=>?_⟩
  obtain⟨s3,eE,rx⟩:=yl x H2 hx z gb (Y++τ) Ab rfl s2;obtain⟨t,qt,kt⟩:=ht bk;cases cp with
  |skip e0 hc rest=>
   refine⟨t,qt,kt d gb _ e0 x _ Ab Mb H2 _ s3 rx λσ4 iK s4 ag=>?_⟩
   obtain⟨τ',rfl⟩:=dF ag L5;obtain⟨t2,q2,k2⟩:=hc bk;refine⟨t2,q2,k2 _ iK Mb H2 _ s4 λH5 xV M5 s5 jW=>?_⟩
   refine oq ⟨_,xV,M5,τ',s5,(aK.trans eE).trans jW,rfl,?_,rest⟩;rw[ag.2 _ cN];exact CP
  |take e0 hc he ha hz' rest=>
   refine⟨t,qt,kt d gb _ e0 x _ Ab Mb H2 _ s3 rx λσ4 iK s4 ag=>?_⟩
   obtain⟨τ',rfl⟩:=dF ag L5;obtain⟨t2,q2,k2⟩:=hc bk;obtain⟨t3,q3,k3⟩:=he bk;have L7:(Y++τ')[g1.length+k]?=some (some (V.ref D)):=by rw[ag.2 _ cN];exact CP
   refine⟨t2,q2,k2 _ iK Mb H2 _ s4 λH5 xV M5 s5 jW=>j3 ⟨t3,q3,k3 _ xV M5 H5 _ s5 λv H6 Tt M6 s6 J6 R6=>?_⟩⟩
   obtain⟨a,xs,f1,f2,f3,f4⟩:=s6.sl.at ha;rw[L7]at f1;injection f1 with f1;injection f1 with f1;injection f1 with f1;subst f1;obtain⟨s7,Yw⟩:=s6.write ha L7 (f4.append (.cons R6 .nil));refine⟨xs,f3,by rw[<- f4.length,rV];exact hz',_,Tt,M6,τ',s7,(((aK.trans eE).trans jW).trans J6).trans Yw,rfl,L7,rest⟩
theorem L8(B:bu X.env.scope scope)(hc:X.calm=true)(hN:Names X.N N' scope k)(hw:dU X z tg iter g items g1)(ht:∀b:Bk,fV (X.blk N' scope b) z tg T)(hT:∀i∈T.ix,g1.length<=i/\i<g1.length+k)
  (hcp:jk T (g1.length+k) (λg b g'=>∀bk:Bk,cV (X.blk N' scope bk) z ifs g b g') (λg d g'=>∀bk:Bk,aA (X.blk N' scope bk) z cC g (.dat d) g') items (gC k g1) gE) (hacc:gE[g1.length+k]?=some (.own acc))
  (hs:∀x,foldedSetIterable iter X.env x=pure x):aA X z (.ListComp cC [⟨tg,iter,ifs,0⟩] scope pos) g (.new acc) (gE.take g1.length):=by
 obtain⟨wi,q,kk⟩:=oN hw ht hT hcp hacc;exact⟨_,La B hc hN q (λb=>⟨jC,lF,lG⟩) hs,kk⟩
theorem Ma(B:bu X.env.scope scope)(hc:X.calm=true)(hN:Names X.N N' scope k)(hw:dU X z tg iter g items g1)(ht:∀b:Bk,fV (X.blk N' scope b) z tg T)(hT:∀i∈T.ix,g1.length<=i/\i<g1.length+k)
  (hcp:jk T (g1.length+k) (λg b g'=>∀bk:Bk,cV (X.blk N' scope bk) z ifs g b g') (λg d g'=>∀bk:Bk,aA (X.blk N' scope bk) z cC g (.dat d) g') items (gC k g1) gE) (hacc:gE[g1.length+k]?=some (.own acc))
  (Lc:X.N.Nodup) (hy:X.N[i]?=some y) (hl:X.env.scope.names.lookup y=some .local) (hb:i∉z.bor) (hi:i<(gE.take g1.length).length)
  (hsw:swapsWith (.ListComp cC [⟨tg,iter,ifs,0⟩] scope pos) (some (.Name y py)) dw.line X.env=pure true)
  (hs:∀x,foldedSetIterable iter X.env x=pure x):fJ X z (.Assign [.Name y py] (.ListComp cC [⟨tg,iter,ifs,0⟩] scope pos) dw) g .nx ((gE.take g1.length).set i (.own acc)):=by
 obtain⟨wi,q,kk⟩:=oN hw ht hT hcp hacc;refine⟨_,Lb B hc hN q (λb=>⟨jC,lF,lG⟩) Lc hy hl hsw hs,λY As M H E s kE=>kk Y As M H _ s λv H' aB M' s' st R=>?_⟩
 obtain⟨a,xs,rfl,hm,hA,h0,ha,rr⟩:=R;obtain⟨bx,s2⟩:=s'.oB hb hi hm hA h0 ha rr;exact kE _ bx M' H' s2 st
end
section
theorem aA.run(he:aA X z e g r g1)(I:L2.Inv X ah Y H s)(st:S z g Y As M H)
  (k:∀v u s1 H1 aL M1,L2.Inv X ah Y H1 s1->RelV v u->S z g1 Y aL M1 H1->ao M H M1 H1->dz z g1 Y aL M1 H1 r v->Post u s1):wpAny (~~~2) X.A (eval e X.env) Post X.xe s:=by
 obtain⟨t,q,kt⟩:=he;exact bK (q ah s Y H (λv H1=>∃aL M1,S z g1 Y aL M1 H1/\ao M H M1 H1/\dz z g1 Y aL M1 H1 r v) I (kt Y As M H _ st λv H1 aL M1 s1 cP R=>⟨aL,M1,s1,cP,R⟩)) λu s1 ⟨v,H1,I1,r1,aL,M1,q1,q2,q3⟩=>k v u s1 H1 aL M1 I1 r1 q1 q2 q3
theorem nB.run(ho:nB X z f d1 d2 r)(I:L2.Inv X ah Y H s)(st:S z g Y As M H)(p1:Pk z.K M H d1 v1)(p2:Pk z.K M H d2 v2)(r1:RelV v1 u1)(r2:RelV v2 u2)
  (k:∀v u s1 H1 aL M1,L2.Inv X ah Y H1 s1->RelV v u->S z g Y aL M1 H1->ao M H M1 H1->dz z g Y aL M1 H1 r v->Post u s1):wpAny (~~~2) X.A (f u1 u2) Post X.xe s:=by
 obtain⟨rr,o,ko⟩:=ho;exact bK (o ah s Y H v1 v2 u1 u2 (λv H1=>∃aL M1,S z g Y aL M1 H1/\ao M H M1 H1/\dz z g Y aL M1 H1 r v) I r1 r2 (ko g Y As M H v1 v2 _ st p1 p2 λv H1 aL M1 s1 cP R=>⟨aL,M1,s1,cP,R⟩)) λu s1 ⟨v,H1,I1,r1,aL,M1,q1,q2,q3⟩=>k v u s1 H1 aL M1 I1 r1 q1 q2 q3
theorem aA.of (h:∀(ah: ~~~1) (s:Shared) (Y:Sg) (As M:List Addr) (H:Hp) (Post:Value->Shared->Prop),L2.Inv X ah Y H s->S z g Y As M H->
  (∀v u s1 H1 aL M1,L2.Inv X ah Y H1 s1->RelV v u->S z g1 Y aL M1 H1->ao M H M1 H1->dz z g1 Y aL M1 H1 r v->Post u s1)->wpAny (~~~2) X.A (eval e X.env) Post X.xe s):aA X z e g r g1:=
 ⟨λY H Q=>∃As M,S z g Y As M H/\Kn z g1 Y M H r Q,λah s Y H Q I ⟨As,M,st,k⟩=>h ah s Y As M H _ I st λv u s1 H1 aL M1 I1 r1 q1 q2 q3=>⟨v,H1,I1,r1,k v H1 aL M1 q1 q2 q3⟩,λY As M H Q s k=>⟨As,M,s,k⟩⟩
theorem cA.of (h:∀(ah: ~~~1) (s:Shared) (Y:Sg) (As M:List Addr) (H:Hp) (Post:Bool->Shared->Prop),L2.Inv X ah Y H s->S z g Y As M H->
  (∀s1 H1 aL M1,L2.Inv X ah Y H1 s1->S z g1 Y aL M1 H1->ao M H M1 H1->Post b s1)->wpAny (~~~2) X.A (isTrue e X.env (eval e X.env)) Post X.xe s):cA X z e g b g1:=
 ⟨λY H Q=>∃As M,S z g Y As M H/\(∀H' aB M',S z g1 Y aB M' H'->ao M H M' H'->Q b H'),λah s Y H Q I ⟨As,M,st,k⟩=>h ah s Y As M H _ I st λs1 H1 aL M1 I1 q1 q2=>⟨H1,I1,k H1 aL M1 q1 q2⟩,λY As M H Q s k=>⟨As,M,s,k⟩⟩
inductive tV(X:Cx)(z:Z):D->List CmpOp->List Expr->G->Bool->G->Prop
 |last {d1 d2:D}{op:CmpOp}{b:Expr}{g g1:G}{c:Bool}:aA X z b g (.dat d2) g1->nB X z (compareOp op) d1 d2 (.dat (.bl c))->tV X z d1 [op] [b] g c g1
 |stop {d1 d2:D}{op op':CmpOp}{ops:List CmpOp}{b b':Expr}{bs:List Expr}{g g1:G}:aA X z b g (.dat d2) g1->nB X z (compareOp op) d1 d2 (.dat (.bl false))->tV X z d1 (op::op'::ops) (b::b'::bs) g false g1
 |link {d1 d2:D}{op op':CmpOp}{ops:List CmpOp}{b b':Expr}{bs:List Expr}{g g1 g2:G}{c:Bool}:aA X z b g (.dat d2) g1->nB X z (compareOp op) d1 d2 (.dat (.bl true))->tV X z d2 (op'::ops) (b'::bs) g1 c g2->tV X z d1 (op::op'::ops) (b::b'::bs) g c g2
theorem Tv(h:tV X z d1 ops bs g c g'):∀(ah: ~~~1) (s:Shared) (Y:Sg) (H:Hp) (As M:List Addr) (Post:Value->Shared->Prop) (v1:V) (u1:Value),L2.Inv X ah Y H s->S z g Y As M H->Rep z.K M H d1 v1->RelV v1 u1->
  (∀s1 H' aB M',L2.Inv X ah Y H' s1->S z g' Y aB M' H'->ao M H M' H'->Post (.bool c) s1)->wpAny (~~~2) X.A (compareChain pos u1 ops (evalEach bs X.env)) Post X.xe s:=by
 induction h with
 |@last d1 d2 op b g g1 c he ho=>
  intro ah s Y H As M Post v1 u1 I st r rv k;show wpAny _ X.A (compareChain pos u1 [op] [eval b X.env]) _ _ s;refine chain_last (he.run I st λv u s1 H1 aL M1 I1 r1 q1 q2 q3=>ho.run I1 q1 (.of (r.stay q2)) (.of q3) rv r1 λv' u' s2 H2 bx M2 I2 r2 p1 p2 p3=>?_)
  rw[fU p3]at r2;cases r2;exact k s2 H2 bx M2 I2 p1 (q2.trans p2)
 |@stop d1 d2 op op' ops b b' bs g g1 he ho=>
  intro ah s Y H As M Post v1 u1 I st r rv k;show wpAny _ X.A (compareChain pos u1 (op::op'::ops) (eval b X.env::eval b' X.env::evalEach bs X.env)) _ _ s;refine chain_link (he.run I st λv u s1 H1 aL M1 I1 r1 q1 q2 q3=>ho.run I1 q1 (.of (r.stay q2)) (.of q3) rv r1 λv' u' s2 H2 bx M2 I2 r2 p1 p2 p3=>?_)
  rw[fU p3]at r2;cases r2;exact mM (ite_ff (k s2 H2 bx M2 I2 p1 (q2.trans p2)))
 |@link d1 d2 op op' ops b b' bs g g1 g2 c he ho hch ih=>
  intro ah s Y H As M Post v1 u1 I st r rv k;show wpAny _ X.A (compareChain pos u1 (op::op'::ops) (eval b X.env::eval b' X.env::evalEach bs X.env)) _ _ s;refine chain_link (he.run I st λv u s1 H1 aL M1 I1 r1 q1 q2 q3=>ho.run I1 q1 (.of (r.stay q2)) (.of q3) rv r1 λv' u' s2 H2 bx M2 I2 r2 p1 p2 p3=>?_)
  rw[fU p3]at r2;cases r2;exact mM (ite_tt (ih ah s2 Y H2 bx M2 Post v u I2 p1 (Rep.stay p2 q3) r1 λs3 H3 mF M3 I3 w1 w2=>k s3 H3 mF M3 I3 w1 ((q2.trans p2).trans w2)))
theorem Mf(h:tV X z d1 ops bs g c g'):∀(ah: ~~~1) (s:Shared) (Y:Sg) (H:Hp) (As M:List Addr) (Post:Bool->Shared->Prop) (v1:V) (u1:Value),L2.Inv X ah Y H s->S z g Y As M H->Rep z.K M H d1 v1->RelV v1 u1->
  (∀s1 H' aB M',L2.Inv X ah Y H' s1->S z g' Y aB M' H'->ao M H M' H'->Post c s1)->wpAny (~~~2) X.A (testChain pos u1 ops (evalEach bs X.env)) Post X.xe s:=by
 induction h with
 |@last d1 d2 op b g g1 c he ho=>
  intro ah s Y H As M Post v1 u1 I st r rv k;show wpAny _ X.A (testChain pos u1 [op] [eval b X.env]) _ _ s;refine test_last (he.run I st λv u s1 H1 aL M1 I1 r1 q1 q2 q3=>ho.run I1 q1 (.of (r.stay q2)) (.of q3) rv r1 λv' u' s2 H2 bx M2 I2 r2 p1 p2 p3=>?_)
  rw[fU p3]at r2;cases r2;exact mM (k s2 H2 bx M2 I2 p1 (q2.trans p2))
 |@stop d1 d2 op op' ops b b' bs g g1 he ho=>
  intro ah s Y H As M Post v1 u1 I st r rv k;show wpAny _ X.A (testChain pos u1 (op::op'::ops) (eval b X.env::eval b' X.env::evalEach bs X.env)) _ _ s;refine test_link (he.run I st λv u s1 H1 aL M1 I1 r1 q1 q2 q3=>ho.run I1 q1 (.of (r.stay q2)) (.of q3) rv r1 λv' u' s2 H2 bx M2 I2 r2 p1 p2 p3=>?_)
  rw[fU p3]at r2;cases r2;exact mM (ite_ff (k s2 H2 bx M2 I2 p1 (q2.trans p2)))
 |@link d1 d2 op op' ops b b' bs g g1 g2 c he ho hch ih=>
  intro ah s Y H As M Post v1 u1 I st r rv k;show wpAny _ X.A (testChain pos u1 (op::op'::ops) (eval b X.env::eval b' X.env::evalEach bs X.env)) _ _ s;refine test_link (he.run I st λv u s1 H1 aL M1 I1 r1 q1 q2 q3=>ho.run I1 q1 (.of (r.stay q2)) (.of q3) rv r1 λv' u' s2 H2 bx M2 I2 r2 p1 p2 p3=>?_)
  rw[fU p3]at r2;cases r2;exact mM (ite_tt (ih ah s2 Y H2 bx M2 Post v u I2 p1 (Rep.stay p2 q3) r1 λs3 H3 mF M3 I3 w1 w2=>k s3 H3 mF M3 I3 w1 ((q2.trans p2).trans w2)))
theorem GR(ha:aA X z a g (.dat d1) g1)(h:tV X z d1 (Tw::Tz::ops) (b1::b2::bs) g1 c g2)(hm:lastMarks (Tw::Tz::ops) (b1::b2::bs)=false):aA X z (.Compare a (Tw::Tz::ops) (b1::b2::bs) pos) g (.dat (.bl c)) g2:=
 aA.of λah s Y As M H Post I st k=>Compare_chain (ha.run I st λv u s1 H1 aL M1 I1 r1 q1 q2 q3=>Tv h ah s1 Y H1 aL M1 Post v u I1 q1 q3 r1 λs2 H2 bx M2 I2 p1 p2=>k (.bl c) (.bool c) s2 H2 bx M2 I2 rfl p1 (q2.trans p2) (.bl c)) hm
theorem GX(ha:aA X z a g (.dat d1) g1)(h:tV X z d1 (Tw::Tz::ops) (b1::b2::bs) g1 c g2)(hm:lastMarks (Tw::Tz::ops) (b1::b2::bs)=false):cA X z (.Compare a (Tw::Tz::ops) (b1::b2::bs) pos) g c g2:=
 cA.of λah s Y As M H Post I st k=>isTrue_chain (ha.run I st λv u s1 H1 aL M1 I1 r1 q1 q2 q3=>Mf h ah s1 Y H1 aL M1 Post v u I1 q1 q3 r1 λs2 H2 bx M2 I2 p1 p2=>k s2 H2 bx M2 I2 p1 (q2.trans p2)) hm
inductive mY(X:Cx)(z:Z)(c:Expr)(body:List Stmt):Nat->G->Fl->G->Prop
 |done {n:Nat}{g g1:G}:cA X z c g false g1->mY X z c body n g .nx g1
 |next {n:Nat}{g g1 g2 g3:G}{f:Fl}:cA X z c g true g1->eu X z body g1 .nx g2->mY X z c body n g2 f g3->mY X z c body (n+1) g f g3
 |cont {n:Nat}{g g1 g2 g3:G}{f:Fl}:cA X z c g true g1->eu X z body g1 .ct g2->mY X z c body n g2 f g3->mY X z c body (n+1) g f g3
 |brk {n:Nat}{g g1 g2:G}:cA X z c g true g1->eu X z body g1 .bk g2->mY X z c body n g .nx g2
 |ret {n:Nat}{g g1 g2:G}{r:R}:cA X z c g true g1->eu X z body g1 (.rt r) g2->mY X z c body n g (.rt r) g2
def Yx(X:Cx)(e:Expr):TT:=λY H Q=>∃t,PT X e t/\t Y H Q
theorem TF{e:Expr}:PT X e (Yx X e):=λah s Y H Q I h=>let ⟨t,q,k⟩:=h;q ah s Y H Q I k
theorem GZ{ce:Expr}{body:List Stmt}{n:Nat}{f:Fl}{g':G}(hp:PassesOwn (~~~2) X.A X.env X.xe)(h:mY X z ce body n g f g'):fJ X z (.While ce body [] pos) g f g':=by
 refine⟨_,FJ hp TF z8,λY As M H E s k=>?_⟩
 refine⟨λm σ2 H2=>∃g2 bx M2,S z g2 σ2 bx M2 H2/\ao M H M2 H2/\mY X z ce body m g2 f g',⟨n,g,As,M,s,ao.refl _ _,h⟩,?_⟩
 rintro m σ2 H2 ⟨g2,bx,M2,s2,aK,w⟩;cases w with
 |done hc=>obtain⟨t,q,kt⟩:=hc;exact⟨t,q,kt σ2 bx M2 H2 _ s2 λH3 mF M3 s3 eE=>oq (k σ2 mF M3 H3 s3 (aK.trans eE))⟩
 |@next m' _ g3 g4 _ _ hc hb w'=>
  obtain⟨t,q,kt⟩:=hc;obtain⟨tb,qb,kb⟩:=hb;refine⟨t,q,kt σ2 bx M2 H2 _ s2 λH3 mF M3 s3 eE=>j3 ⟨λσ' H'=>∃g2 bx M2,S z g2 σ' bx M2 H'/\ao M H M2 H'/\mY X z ce body m' g2 f g',λσ' H' hN=>⟨m',mP _,hN⟩,tb,qb,kb σ2 mF M3 H3 _ s3 λσ4 iK M4 H4 s4 uZ=>?_⟩⟩
  exact⟨g4,iK,M4,s4,(aK.trans eE).trans uZ,w'⟩
 |@cont m' _ g3 g4 _ _ hc hb w'=>
  obtain⟨t,q,kt⟩:=hc;obtain⟨tb,qb,kb⟩:=hb;refine⟨t,q,kt σ2 bx M2 H2 _ s2 λH3 mF M3 s3 eE=>j3 ⟨λσ' H'=>∃g2 bx M2,S z g2 σ' bx M2 H'/\ao M H M2 H'/\mY X z ce body m' g2 f g',λσ' H' hN=>⟨m',mP _,hN⟩,tb,qb,kb σ2 mF M3 H3 _ s3 λσ4 iK M4 H4 s4 uZ=>?_⟩⟩
  exact⟨g4,iK,M4,s4,(aK.trans eE).trans uZ,w'⟩
 |brk hc hb=>obtain⟨t,q,kt⟩:=hc;obtain⟨tb,qb,kb⟩:=hb;exact⟨t,q,kt σ2 bx M2 H2 _ s2 λH3 mF M3 s3 eE=>j3 ⟨λ_ _=>False,λσ' H' hN=>hN.elim,tb,qb,kb σ2 mF M3 H3 _ s3 λσ4 iK M4 H4 s4 uZ=>k σ4 iK M4 H4 s4 ((aK.trans eE).trans uZ)⟩⟩
 |ret hc hb=>obtain⟨t,q,kt⟩:=hc;obtain⟨tb,qb,kb⟩:=hb;exact⟨t,q,kt σ2 bx M2 H2 _ s2 λH3 mF M3 s3 eE=>j3 ⟨λ_ _=>False,λσ' H' hN=>hN.elim,tb,qb,kb σ2 mF M3 H3 _ s3 λv σ4 iK M4 H4 s4 uZ R=>k v σ4 iK M4 H4 s4 ((aK.trans eE).trans uZ) R⟩⟩
noncomputable def Mg:D->Option Bool
 |.bl b=>some b
 |.non=>some false
 |.int i=>some (i != 0)
 |.lst l=>some (!l.isEmpty)
 |.tup l=>some (!l.isEmpty)
 |.fix l=>some (!l.isEmpty)
 |_=>none
end
end Ev
namespace HT
section
theorem jl{t sl:Addr}{items:Array Value}{vl vu:Value}{lo hi:Option Int}{Q:Value->Shared->Prop}(ht:IsTup s.heap t items)(hs:s.heap.IsSliceOf sl vl vu .none)(pl:IsPart vl lo)(pu:IsPart vu hi)
  (hw:bR items.size 0 lo=0/\bR items.size items.size hi=items.size)
  (h:Q (.ref t) s):wpAny (model prog w) A (getItem (.ref t) (.ref sl)) Q E s:=by
 obtain⟨os,hos,hcs,hds⟩:=id hs;have XZ:s.TypeIs (.ref sl) "slice" :=⟨os,hos,hcs⟩;unfold getItem
 try with_reducible refine l7 ?_
 first |refine aS (dS ?_) |skip
 refine aS (wpAny_sequenceKey ht.typeIs ⋯ ?_);refine aS (pV (name:=Str.ofString "__getitem__") ht.typeIs nS
  (v6 nS ht.typeIs entry_tuple_getitem ?_ (args_tuple_getitem _ _)))
 show wpAny _ _ (Builtin.Tuple.tupleItemsOf (.ref t) >>= _) _ _ s;refine aS (tupleItemsOf_ ht ?_);refine aS (C2 XZ ?_);rw[gL ⋯];refine aS (fQ hs pl pu ?_);have hyes:(((bR items.size 0 lo:Nat):Int)==0&&(1:Int)==1&&(bR items.size items.size hi - bR items.size 0 lo)==items.size)=true:=by rw[hw.1,hw.2];simp
 show wpAny _ _ (if (((bR items.size 0 lo:Nat):Int)==0&&(1:Int)==1&&(bR items.size items.size hi - bR items.size 0 lo)==items.size)=true then _ else _) _ _ s
 rw[gL hyes];refine aS (m:=Builtin.Tuple.tupleIsExact _) (aS (C2 ht.typeIs (dS ?_)));rw[gL ⋯];exact aS (CI (dS ⟨_,rfl,dS h⟩))
end
end HT
namespace Ev
open L2
def gR{α:Type}(xs:List α)(lo hi:Option Int):List α:=(xs.drop (HT.bR xs.length 0 lo)).take (HT.bR xs.length xs.length hi - HT.bR xs.length 0 lo)
theorem yx{α:Type}{xs:List α}{lo hi:Option Int}(h:HT.bR xs.length 0 lo=0/\HT.bR xs.length xs.length hi=xs.length):gR xs lo hi=xs:=by unfold gR;rw[h.1,h.2,List.drop_zero,Nat.sub_zero,List.take_length]
section
variable{lo hi:Option Expr}
def rSlA(K:Frag):V->Option Int->Option Int->Hp->VK->Prop:=λx lo hi H Q=>∃a xs,x=.ref a/\fP K H a xs/\
 ((HT.bR xs.length 0 lo=0/\HT.bR xs.length xs.length hi=xs.length/\Q (.ref a) H)\/(¬ (HT.bR xs.length 0 lo=0/\HT.bR xs.length xs.length hi=xs.length)/\∀p,H p=none->Q (.ref p) (upd H p (.tup (sW xs lo hi)))))
theorem Mh:SlR X (rSlA X.K):=by
 intro ah s Y H x v vl vu lo hi sl Q I rx hs pl pu h;obtain⟨a,xs,rfl,hx,h⟩:=h;rcases h with ⟨h1,h2,q⟩ |⟨h1,q⟩
 .
  cases rx;obtain⟨its,r,ht,hz⟩:=I.tuple hx;have aJ:its.toArray.size=xs.length:=by rw[dE];exact r.length.symm
  refine⟨"tuple",_,PyProof.Rows.slot_tuple_getitem.lookup,ht.typeIs,?_⟩;exact HT.jl ht hs pl pu (by rw[aJ];exact⟨h1,h2⟩) ⟨.ref a,H,I,rfl,q⟩
 . exact Rr ah s Y H (.ref a) v vl vu lo hi sl Q I rx hs pl pu ⟨a,xs,rfl,hx,h1,q⟩
def tW(X:Cx)(z:Z)(e:Option Expr)(g:G)(o:Option Int)(g':G):Prop:=
 ∃t,PO X e t/\∀Y As M H (Q:Option Int->Hp->Prop),S z g Y As M H->(∀H' aB M',S z g' Y aB M' H'->ao M H M' H'->Q o H')->t Y H Q
theorem CQ:tW X z none g none g:=⟨_,KR,λY As M H Q s k=>k H As M s (ao.refl _ _)⟩
theorem CT(h:aA X z e g ‹i› g1):tW X z (some e) g (some i) g1:=by
 obtain⟨t,q,k⟩:=h;refine⟨_,KS q,λY As M H Q s kk=>k Y As M H _ s λv H' aB M' s' st R=>?_⟩
 have R':Rep z.K M' H' (.int i) v:=R;cases R';exact⟨i,rfl,kk H' aB M' s' st⟩
theorem aH.cut{K:Frag}{M:List Addr}{H:Hp}{ds:List D}{vs:List V}(r:aH K M H ds vs)(l u:Option Int):aH K M H (gR ds l u) (sW vs l u):=by unfold gR sW;rw[r.length];exact aH.take _ (aH.drop _ r)
theorem CV{r:R}{l:List D}{d:D}{i j:Option Int}(hK:z.K=X.K)(h:aA X z a g r g1)(h1:tW X z lo g1 i g2)(h2:tW X z hi g2 j g3)(hp:pk r g3=some (.lst l)):aA X z (.Subscript a (.Slice lo hi none p2) pos) g (.new (gR l i j)) g3:=by
 obtain⟨t,q,k⟩:=h;obtain⟨t1,q1,k1⟩:=h1;obtain⟨t2,q2,k2⟩:=h2;refine⟨_,oh zY q q1 q2,λY As M H Q s kk=>k Y As M H _ s λv H1 aL M1 s1 cP R=>k1 Y aL M1 H1 _ s1 λH2 bx M2 s2 aK=>k2 Y bx M2 H2 _ s2 λH3 mF M3 s3 eE=>?_⟩
 obtain⟨b,xs,rfl,e1,e2⟩:=(s3.pk (aK.trans eE) R hp).list;refine⟨b,xs,rfl,cz.of e1,λp hp=>?_⟩
 exact kk _ _ mF (p::M3) (s3.aY hp) (((cP.trans aK).trans eE).trans (ao.aY hp)) ⟨p,_,rfl,dC,λhA=>s3.fresh hp (s3.sub p hA),s3.cS hp,aE,(e2.cut i j).stay (ao.aY hp)⟩
theorem CW(hK:z.K=X.K)(h:aA X z a g (.dat (.fix l)) g1)(h1:tW X z lo g1 i g2)(h2:tW X z hi g2 j g3):aA X z (.Subscript a (.Slice lo hi none p2) pos) g (.new (gR l i j)) g3:=by
 obtain⟨t,q,k⟩:=h;obtain⟨t1,q1,k1⟩:=h1;obtain⟨t2,q2,k2⟩:=h2;refine⟨_,oh zY q q1 q2,λY As M H Q s kk=>k Y As M H _ s λv H1 aL M1 s1 cP R=>k1 Y aL M1 H1 _ s1 λH2 bx M2 s2 aK=>k2 Y bx M2 H2 _ s2 λH3 mF M3 s3 eE=>?_⟩
 have R':Rep z.K M3 H3 (.fix l) v:=Rep.stay (aK.trans eE) R;cases R' with
 |@fix _ b xs e1 e2=>
  refine⟨b,xs,rfl,hK▸e1.sq,λp hp=>?_⟩
  exact kk _ _ mF (p::M3) (s3.aY hp) (((cP.trans aK).trans eE).trans (ao.aY hp)) ⟨p,_,rfl,dC,λhA=>s3.fresh hp (s3.sub p hA),s3.cS hp,aE,(e2.cut i j).stay (ao.aY hp)⟩
theorem CZ(hK:z.K=X.K)(h:aA X z a g (.dat (.tup l)) g1)(h1:tW X z lo g1 i g2)(h2:tW X z hi g2 j g3):aA X z (.Subscript a (.Slice lo hi none p2) pos) g (.dat (.tup (gR l i j))) g3:=by
 obtain⟨t,q,k⟩:=h;obtain⟨t1,q1,k1⟩:=h1;obtain⟨t2,q2,k2⟩:=h2;refine⟨_,oh Mh q q1 q2,λY As M H Q s kk=>k Y As M H _ s λv H1 aL M1 s1 cP R=>k1 Y aL M1 H1 _ s1 λH2 bx M2 s2 aK=>k2 Y bx M2 H2 _ s2 λH3 mF M3 s3 eE=>?_⟩
 have R':Rep z.K M3 H3 (.tup l) v:=Rep.stay (aK.trans eE) R;cases R' with
 |@tup _ b xs e1 e2=>
  refine⟨b,xs,rfl,hK▸e1.sq,?_⟩;by_cases hw:HT.bR xs.length 0 i=0/\HT.bR xs.length xs.length j=xs.length
  .
   refine .inl ⟨hw.1,hw.2,kk _ _ mF M3 s3 ((cP.trans aK).trans eE) ?_⟩;have e:gR l i j=l:=yx (by rw[e2.length];exact hw)
   rw[e];exact .tup e1 e2
  . exact .inr ⟨hw,λp hp=>kk _ _ mF M3 (s3.laid hp) (((cP.trans aK).trans eE).trans (ao.laid hp)) (.tup (.inl ⟨s3.fresh hp,.inl aE⟩) ((e2.cut i j).stay (ao.laid hp)))⟩
theorem G0(hK:z.K=X.K)(h:aA X z e g r g1)(hp:pk r g1=some d)(hb:Mg d=some b)(he:∀whole,isTrue e X.env whole=(do let v <- whole;standAt e.pos;holding [v] (truthy v))):cA X z e g b g1:=by
 obtain⟨t,q,k⟩:=h;refine⟨_,FP q he,λY As M H Q s kk=>k Y As M H _ s λv H1 aL M1 s1 cP R=>⟨b,?_,kk H1 aL M1 s1 cP⟩⟩
 have p:=s1.pk (ao.refl _ _) R hp;cases d with
 |non=>rw[p.non];cases hb;rfl
 |bl c=>rw[p.bl];cases hb;rfl
 |int i=>rw[p.int];cases hb;rfl
 |str x=>cases hb
 |emp=>cases hb
 |mC _=>cases hb
 |tL _ _=>cases hb
 |lst l=>obtain⟨a,xs,rfl,e1,e2⟩:=p.list;cases hb;refine .inl ⟨xs,cz.of e1,?_⟩;cases e2 <;> rfl
 |tup l=>obtain⟨a,xs,rfl,e1,e2⟩:=p.tup;cases hb;refine .inr (.inl ⟨xs,hK▸e1.sq,?_⟩);cases e2 <;> rfl
 |fix l=>obtain⟨a,xs,rfl,e1,e2⟩:=p.fix;cases hb;refine .inl ⟨xs,hK▸e1.sq,?_⟩;cases e2 <;> rfl
end
section
theorem TJ(I:L2.Inv X ah Y H s)(p:Pk X.K M H d v)(r:RelV v u):∃Hh,PySem.W.KitX X.K u (Fb d) Hh/\Hh s.heap/\u≠.builtin "__main__.__loader__#opaque" :=by
 cases d with
 |non=>have q:=p.non;subst q;cases r;exact⟨_,PySem.W.kitx_none,True.intro,λz=>nomatch z⟩
 |bl y=>have q:=p.bl;subst q;cases r;exact⟨_,PySem.W.kitx_bool,True.intro,λz=>nomatch z⟩
 |int i=>have q:=p.int;subst q;obtain⟨t,rfl⟩:=r;exact⟨_,PySem.W.kitx_int,True.intro,λz=>nomatch z⟩
 |str y=>have q:=p.str;subst q;obtain⟨t,rfl⟩:=r;exact⟨_,PySem.W.kitx_str,True.intro,λz=>nomatch z⟩
 |tup l=>obtain⟨a,xs,rfl,ha,_⟩:=p.tup;cases r;obtain⟨its,_,⟨o,h1,h2,_⟩,_⟩:=I.tuple ha.sq;exact⟨_,PySem.W.kitx_tuple,⟨o,h1,h2⟩,λz=>nomatch z⟩
 |lst l=>obtain⟨a,xs,rfl,ha,_⟩:=p.list;cases r;obtain⟨its,_,pl,_⟩:=I.list (cz.of ha);obtain⟨o,h1,h2,_⟩:=pl.isList;exact⟨_,B3,⟨o,h1,h2⟩,λz=>nomatch z⟩
 |fix l=>obtain⟨a,xs,rfl,ha,_⟩:=p.fix;cases r;obtain⟨its,_,pl,_⟩:=I.list ha.sq;obtain⟨o,h1,h2,_⟩:=pl.isList;exact⟨_,B3,⟨o,h1,h2⟩,λz=>nomatch z⟩
 |emp=>
  cases p with
  |of q=>
   cases q with
   |emp _ ha=>cases r;obtain⟨_,_,vs,_,o,es,ep,h1,h2,_⟩:=I.hok _ _ ha;exact⟨_,B5,⟨o,h1,h2.1⟩,λz=>nomatch z⟩
 |mC C=>
  cases p with
  |of q=>
   cases q with
   |mC k _ ha=>cases r;obtain⟨⟨o,h1,h2,h3,h4⟩,_⟩:=I.hok _ _ ha;exact⟨_,vG k,⟨o,h1,h2,h3,by rw[h4];trivial⟩,λz=>nomatch z⟩
 |tL ks ds=>
  cases p with
  |of q=>
   cases q with
   |tL _ ha _ _=>cases r;obtain⟨_,_,vs,_,o,es,ep,h1,h2,_⟩:=I.hok _ _ ha;exact⟨_,B5,⟨o,h1,h2.1⟩,λz=>nomatch z⟩
theorem Ae:∀{ns:List String}{us:List Value},Vals (ns.map V.ty) us->us=ns.map Value.type
 | [],_,r=>by rw[List.map_nil]at r;cases r;rfl
 |n::ns,_,r=>by
  rw[List.map_cons]at r;cases r with
  |cons r1 r2=>cases r1;rw[Ae r2];rfl
theorem Dc:d8 X (.builtin "isinstance") (λxs H Q=>∃(x:V) (p:Addr) (ns:List String) (M:List Addr) (d:D) (b:Bool),xs=[x,.ref p]/\Pk X.K M H d x/\fP X.K H p (ns.map V.ty)/\PySem.W.kitAny X.K (Fb d) (ns.map Value.type)=some b/\Q (.bl b) H):=by intro ah s Y H xs us Q I r h;obtain⟨x,p,ns,M,d,b,rfl,pk,hp,e,q⟩:=h;obtain⟨u,w',rfl,r1,r2⟩:=vals2 r;cases r2;obtain⟨Hh,Zk,hH,hx⟩:=TJ I pk r1;obtain⟨its,rv,⟨o,h1,h2,n,h3⟩,_⟩:=I.tuple hp;rw[Ae rv]at h3;obtain⟨c,dd,dt,sl⟩:=o;have h2':c=.type "tuple" :=h2;have h3':dt=.seq (ns.map Value.type).toArray n:=h3;subst h2' h3';exact PySem.W.kia_tup Zk I.nk hH h1 e hx λtk=>⟨.bl b,H,I.tok tk,rfl,q⟩
structure TyOk(X:Cx)(T:Str)(n:String):Prop where
 gl:Gl X T
 mg:X.mg T=none
 bt:bootBuiltins T=some (.type n)
 nn:T≠ "__name__"
 db:(T==(~~~3))=false
inductive oO(X:Cx):List Expr->List String->Prop
 |nil:oO X [] []
 |cons {T:Str}{n:String}{p:Pos}{es:List Expr}{ns:List String}:TyOk X T n->oO X es ns->oO X (.Name T p::es) (n::ns)
theorem oO.pa(h:oO X es ns):∃t,PA X es t/\∀Y H (Q:List V->Hp->Prop),Q (ns.map V.ty) H->t Y H Q:=by
 induction h with
 |nil=>exact⟨_,lq,λY H Q q=>q⟩
 |@cons T n p es ns h _ ih=>obtain⟨t,q,k⟩:=ih;have pT:PE X (.Name T p) (tC (.ty n)):=sQ h.gl h.mg h.bt rfl h.nn h.db;exact⟨_,cD pT q rfl,λY H Q hq=>k Y H _ hq⟩
theorem Mi(hK:z.K=X.K)(h:aA X z a g r1 g1)(hp:pk r1 g1=some d)(ht:oO X es ns)(hl:ns.length<=16777216)(he:∀M H v,Pk X.K M H d v->PySem.W.kitAny X.K (Fb d) (ns.map Value.type)=some b)
  (hg:Gl X "isinstance") (hm:X.mg "isinstance"=none) (hv:bootBuiltins "isinstance"=some (.builtin "isinstance"))
  (hs:starEach [a,.Tuple es k pT] X.env=(false,eval a X.env)::starEach [.Tuple es k pT] X.env):aA X z (.Call (.Name "isinstance" p) [a,.Tuple es k pT] [] pos) g (.dat (.bl b)) g1:=by
 obtain⟨t,q,kk⟩:=h;obtain⟨tt,qt,kt⟩:=ht.pa;refine⟨_,jX Dc hg hm hv (cD q (cD (yh qt) lq) hs) ⋯ ⋯ hs,λY As M H Q s kq=>kk Y As M H _ s λv H' aB M' s' st R=>kt Y H' _ ⟨by rw[fA];exact iI hl,λa ha=>?_⟩⟩
 have s2:=s'.laid (o:=.tup (ns.map V.ty)) ha;have pp:=s'.pk (ao.refl _ _) R hp;refine⟨v,a,ns,M',d,b,rfl,?_,.inl (.inl aE),he _ _ _ (hK▸pp),kq _ _ aB M' s2 (st.trans (ao.laid ha)) (.bl b)⟩;rw[<- hK];cases pp with
 |of r=>exact .of (r.stay (ao.laid ha))
 |lst e1 e2=>exact .lst (by rw[az (aI e1 ha)];exact e1) (e2.stay (ao.laid ha))
theorem Dd(hN:X.N[i]?=some x)(hv:uW X.env.scope x)(hd:(x==(~~~3))=false)(bN:(x==("__classdict__":Str))=false)(hg:g[i]?=some (.own l0))(h:cQ X z [e] g [.dat (.lst m)] g1)(yu:g1[i]?=some (.own l))(hl:l.length+m.length<=16777216)
  (hbase:attributeBase (.Name x pn) "extend" X.env (eval (.Name x pn) X.env)=eval (.Name x pn) X.env)
  (hfew:((backTo bM (starEach [e] X.env)).all (λx=>!x.1)&&(backToKw bM (keywordEach [] X.env)).all (λx=>x.1.isSome)
   && decide ([e].length+([]:List Keyword).length+(if ([]:List Keyword).isEmpty then 0 else 1)<30))=true)
  (hline:(ez.endLine==bM.line)=true) (hs:starEach [e] X.env=(false,eval e X.env)::starEach [] X.env):aA X z (.Call (.Attribute (.Name x pn) "extend" ez) [e] [] bM) g (.dat .non) (g1.set i (.own (l++m))):=by
 obtain⟨t,q,k⟩:=h;refine⟨_,Gb BE PySem.F.slot_list_extend PySem.F.type_list_extend Ce (gJ hN hv hd bN) q hbase hfew hline hs rfl,λY As M H Q s kk=>?_⟩
 obtain⟨a,xs,e1,e2,e3,e4⟩:=s.sl.at hg;refine⟨.ref a,e1,.inl ⟨rfl,xs,cz.of e3⟩,k Y As M H _ s λvs H' aB M' s' st R=>?_⟩
 obtain⟨b,ys,f1,f2,f3,f4⟩:=s'.sl.at yu;rw[e1]at f1;injection f1 with f1;injection f1 with f1;injection f1 with f1;subst f1;cases R with
 |dat r R=>
  cases R;cases r with
  |@lst _ c zs hc rr=>
   refine⟨a,c,ys,zs,rfl,rfl,f3,hc.2,by rw[<- f4.length,<- rr.length,rV];exact hl,?_⟩
   obtain⟨s2,aK⟩:=s'.write yu e1 (f4.append rr);exact kk _ _ aB M' s2 (st.trans aK) .non
end
noncomputable def ins(a:Int): ~~~0->List Int
 | []=>[a]
 |b::l=>if a<=b then a::b::l else b::ins a l
def bO: ~~~0->List Int
 | []=>[]
 |a::l=>ins a (bO l)
theorem oR(a:Int):∀l:List Int,(ins a l).Perm (a::l)
 | []=>x5 _
 |b::l=>by
  unfold ins;split
  . exact x5 _
  . exact ((oR a l).cons b).trans (List.Perm.swap a b l)
theorem dG:∀l:List Int,(bO l).Perm l
 | []=>x5 _
 |a::l=>(oR a _).trans ((dG l).cons a)
theorem oU(a:Int):∀{l: ~~~0},l.Pairwise (· <= ·)->(ins a l).Pairwise (· <= ·)
 | [],_=>List.pairwise_singleton _ _
 |b::l,h=>by
  obtain⟨h1,h2⟩:=AB.mp h;unfold ins;split
  .
   rename_i hab;refine AB.mpr ⟨λx hx=>?_,h⟩
   rcases eA.mp hx with rfl |hx
   . exact hab
   . exact Int.le_trans hab (h1 x hx)
  .
   rename_i hab;refine AB.mpr ⟨λx hx=>?_,oU a h2⟩
   rcases eA.mp ((oR a l).mem_iff.mp hx)with rfl |hx
   . lia
   . exact h1 x hx
theorem j9:∀l:List Int,(bO l).Pairwise (· <= ·)
 | []=>List.Pairwise.nil
 |a::l=>oU a (j9 l)
theorem oV(hp:m.Perm l)(hs:m.Pairwise (· <= ·)):m=bO l:=
 (hp.trans (dG l).symm).eq_of_pairwise (λx y _ _ h1 h2=>Int.le_antisymm h1 h2) hs (j9 l)
section
theorem jr(hl:IsTup s.heap l vs.toArray)
  (h:Q vs { s with heap:=(s.heap.push (seqObj "list" #[] 0)).update s⁻¹ (Obj.mapSeq (· ++ vs.toArray))}) (jP:vs.length<=sizeLine) :
  wpAny (model prog w) A (collect (.ref l)) Q E s:=by
 obtain⟨o,ho,hc,n,hd⟩:=id hl;unfold collect;refine aS (wpAny_runValue (BF entry_proto_collect' ?_));show wpAny _ _ (do again (.builtin "list.__iadd__" ⟨[<- newList [],.ref l],[]⟩)) _ _ s
 refine aS (CC (dS ⟨Code.quiet_builtin _ (by decide +kernel),BF entry_list_iadd' ?_⟩))
 show wpAny _ _ (Builtin.List.listExtendWith (.ref s⁻¹) (.ref l) (.ref s⁻¹)) _ _ { s with heap:=s.heap.push (seqObj "list" #[] 0)};unfold Builtin.List.listExtendWith;have ho':(s.heap.push (seqObj "list" #[] 0)).get? l=some o:=bP _ ho;refine aS (C2 (T:= "tuple") ⟨o,ho',hc⟩ ?_);have ht:(Value.type "tuple" == Value.type "tuple")=true:=by rfl
 rw[gL (by rw[ht];simp)]
 refine aS (listItems_at ho' hd ?_);refine aS (listItems_at (xs:=#[]) (n:=0) (eM _ rfl) rfl ?_);rw[hU ⋯];refine aS (listUpdate_at (xs:=#[]) (n:=0) (eM _ rfl) rfl ?_ (u7 _) (by show (#[]++vs.toArray).size<=sizeLine+1;simp only[Array.size_append,dE,yB];lia))
 refine dS ?_;show wpAny (model prog w) A (do
   let o <- load s⁻¹
   match o.data with
   |.seq xs _=>pure xs.toList
   |_=>unsupported "internal:collect") Q E { s with heap:=(s.heap.push (seqObj "list" #[] 0)).update s⁻¹ (Obj.mapSeq (· ++ vs.toArray))}
 refine aS (wpAny_load (get?_update_seq (eM _ rfl) _) ?_);show wpAny _ _ (pure ((#[]:Array Value)++vs.toArray).toList) Q E _;rw[show ((#[]:Array Value)++vs.toArray).toList=vs by simp]
 exact dS h
theorem tX(hl:IsTup s.heap l vs.toArray)(hI:IntsAre vs ns)(h64:vs.length<64)
  (h:∀(out:Array Value) (ns': ~~~0),IntsAre out.toList ns'->ns'.Perm ns->ns'.Pairwise (· <= ·)->Q (.ref (s⁻¹+1)) { s with heap:=sortedAll s.heap vs out}) :
  wpAny (model prog w) A (call (.builtin "sorted") [.ref l]) Q E s:=by
 refine Calls.call_function_entry kind_sorted plain_sorted entry_sorted (args_sorted1 _) ?_;unfold Builtin.«sorted»;refine aS (m:=checkCount "sorted" 1 1 _) (dS ?_);refine aS (jr hl ?_ (by rw[rV];lia))
 refine aS (CC ?_);have jP:((s.heap.push (seqObj "list" #[] 0)).update s⁻¹ (Obj.mapSeq (· ++ vs.toArray))).objs.size=s⁻¹+1:=by rw[Heap.size_update,size_push']
 have hoL:(((s.heap.push (seqObj "list" #[] 0)).update s⁻¹ (Obj.mapSeq (· ++ vs.toArray))).push (seqObj "list" vs.toArray 0)).get? (s⁻¹+1)=some (seqObj "list" vs.toArray 0):=by rw[<- jP];exact eM _ rfl
 show wpAny _ _ _ _ _ { s with heap:=((s.heap.push (seqObj "list" #[] 0)).update s⁻¹ (Obj.mapSeq (· ++ vs.toArray))).push (seqObj "list" vs.toArray 0)};rw[jP];refine aS (l7 (v6 slot_list_sort ⟨_,hoL,rfl⟩ entry_list_sort (list_sort_tree hoL hI h64 λout ns' a1 a2 a3=>⟨_,rfl,?_⟩) (args_list_sort _)))
 exact dS ⟨_,rfl,h out ns' a1 a2 a3⟩
end
section
theorem vK:d8 X (.builtin "sorted") (λxs H Q=>∃p ns,xs=[.ref p]/\(cz X.K H p (ns.map V.int)\/fP X.K H p (ns.map V.int))/\ns.length<64/\∀q,H q=none->Q (.ref q) (upd H q (.lst ((bO ns).map V.int)))):=by
 intro ah s Y H xs us Q I r h;obtain⟨p,ns,rfl,hq,hl,q⟩:=h;obtain⟨u,rfl,rx⟩:=vals1 r;cases rx;have fin:∀(vs:List Value) (out:Array Value) (ns': ~~~0),IntsAre out.toList ns'->ns'.Perm ns->ns'.Pairwise (· <= ·)->EP X ah Y Q (.ref (s⁻¹+1)) { s with heap:=sortedAll s.heap vs out}:=λvs out ns' a1 a2 a3=>by
  have e:=oV a2 a3;subst e;obtain⟨ep,he⟩:=sortedAll_at s.heap vs out;have aJ:(bO ns).length=ns.length:=(dG ns).length_eq;refine⟨.ref (s⁻¹+1),_,I.laid (t':=s.toks) (o:=.lst ((bO ns).map V.int)) (λb o e=>sortedAll_old e) (B2 _) ?_,rfl,q _ (I.hok.fresh (B2 _))⟩
  refine⟨by rw[fA,aJ,rV];lia,out.toList,ep,lu a1,?_⟩
  rw[he]
 rcases hq with hq |hq
 . obtain⟨its,r',pl,hz⟩:=I.list hq;have aJ:=r'.length;rw[fA]at aJ;exact sorted_ints pl.isList (intsAre_of r') ⋯ λout ns' a1 a2 a3=>fin its out ns' a1 a2 a3
 . obtain⟨its,r',pl,hz⟩:=I.tuple hq;have aJ:=r'.length;rw[fA]at aJ;exact tX pl (intsAre_of r') ⋯ λout ns' a1 a2 a3=>fin its out ns' a1 a2 a3
theorem rG{K:Frag}{M:List Addr}{H:Hp}:∀ns:List Int,aH K M H (ns.map D.int) (ns.map V.int)
 | []=>.nil
 |n::ns=>.cons (.int n) (rG ns)
theorem De(hK:z.K=X.K)(h:dm d=some l)(hi:bq l=some ns)(hl:ns.length<64):CallD X z (.builtin "sorted") [d] (.new ((bO ns).map .int)):=by
 refine⟨_,vK,λg Y As M H vs Q s p k=>?_⟩
 obtain⟨v,rfl,pv⟩:=p.one;have fin:∀q,H q=none->Q (.ref q) (upd H q (.lst ((bO ns).map V.int))):=λq hq=>k _ _ As (q::M) (s.aY hq) (ao.aY hq) ⟨q,_,rfl,dC,λhA=>s.fresh hq (s.sub q hA),s.cS hq,aE,rG _⟩
 cases d with
 |lst m=>symm;obtain⟨a,xs,rfl,e1,e2⟩:=pv.list;have:=bG e2 hi;subst this;exact⟨a,ns,rfl,.inl (cz.of e1),hl,fin⟩
 |tup m=>symm;obtain⟨a,xs,rfl,e1,e2⟩:=pv.tup;have:=bG e2 hi;subst this;exact⟨a,ns,rfl,.inr (hK▸e1.sq),hl,fin⟩
 |fix m=>symm;obtain⟨a,xs,rfl,e1,e2⟩:=pv.fix;have:=bG e2 hi;subst this;exact⟨a,ns,rfl,.inl (hK▸e1.sq),hl,fin⟩
 |_=>symm
end
section
def Yy(X:Cx)(z:Z)(e:Expr)(g:G)(lo hi:Int)(g1:G):Prop:=
 ∀(ah: ~~~1) (s:Shared) (Y:Sg) (As M:List Addr) (H:Hp) (Post:Value->Shared->Prop),L2.Inv X ah Y H s->S z g Y As M H->
  (∀r s1 H1 aL M1 t u v,L2.Inv X ah Y H1 s1->S z g1 Y aL M1 H1->ao M H M1 H1->IsRange s1.heap r lo hi 1 t u v->Post (.ref r) s1)->wpAny (~~~2) X.A (eval e X.env) Post X.xe s
theorem cQ.run(ha:cQ X z es g rs g1)(I:L2.Inv X ah Y H s)(st:S z g Y As M H)
  (k:∀vs us s1 H1 aL M1,L2.Inv X ah Y H1 s1->Vals vs us->S z g1 Y aL M1 H1->ao M H M1 H1->jA z Y M1 H1 rs vs->Post us s1):wpAny (~~~2) X.A (spliced (backTo pos (starEach es X.env))) Post X.xe s:=by
 obtain⟨t,q,kt⟩:=ha;exact bK (q pos ah s Y H (λvs H1=>∃aL M1,S z g1 Y aL M1 H1/\ao M H M1 H1/\jA z Y M1 H1 rs vs) I (kt Y As M H _ st λvs H1 aL M1 s1 cP R=>⟨aL,M1,s1,cP,R⟩)) λus s1 ⟨vs,H1,I1,r1,aL,M1,q1,q2,q3⟩=>k vs us s1 H1 aL M1 I1 r1 q1 q2 q3
theorem rg_1(h:cQ X z [a] g [‹j›] g1)(hg:Gl X "range")(hm:X.mg "range"=none)(hs:starEach [a] X.env=[(false,eval a X.env)]):Yy X z (.Call (.Name "range" p) [a] [] rp) g 0 j g1:=by
 intro ah s Y As M H Post I st k;refine Call_ (gP I hg hm boot_range (nN (h.run I st λvs us s1 H1 aL M1 I1 r1 q1 q2 q3=>?_) hs rfl))
 cases q3 with
 |dat r R=>
  cases R;cases r;cases r1 with
  |cons r rr=>cases rr;obtain⟨t,rfl⟩:=r;exact call_range_1 (k _ _ H1 aL M1 _ _ _ (I1.kept λb o e=>bP _ e) q1 q2 (IsRange.new ..))
noncomputable def yy(lo:Int)(n:Nat):List V:=(List.range n).map λ(k:Nat)=>V.int (lo+(k:Int))
theorem Df{lo:Int}{n:Nat}{acc:Array Value}(h:ItemsOf (λi v=>∃t,v=Value.int (lo+(i:Int) * 1) t) acc n):Vals (yy lo n) acc.toList:=by
 have key:∀(m:Nat) (l:List Value) (o:Nat),l.length=m->(∀j v,l[j]?=some v->∃t,v=Value.int (lo+((o+j:Nat):Int)) t)->Vals ((List.range' o m).map λ(k:Nat)=>V.int (lo+(k:Int))) l:=by
  intro m
  induction m with
  |zero=>intro l o hl _;cases l with
   |nil=>exact .nil
   |cons _ _=>simp at hl
  |succ m ih=>
   intro l o hl hv;cases l with
   |nil=>simp at hl
   |cons v l=>
    rw[Cs,List.map_cons];obtain⟨t,e⟩:=hv 0 v rfl;refine .cons ⟨t,by rw[e];rfl⟩ (ih l (o+1) (by simpa using hl) λj w hw=>?_)
    obtain⟨t',e'⟩:=hv (j+1) w (by simpa using hw)
    exact⟨t',by rw[e',show o+(j+1)=o+1+j by lia]⟩
 unfold yy;rw[A4];refine key n acc.toList 0 (by rw[oC];exact h.1) λj v hv=>?_
 obtain⟨t,e⟩:=h.2 j v (by rw[<- Array.getElem?_toList];exact hv)
 exact⟨t,by rw[e,Nat.zero_add,Int.mul_one]⟩
theorem Dg{K:Frag}{M:List Addr}{H:Hp}(lo:Int)(n:Nat):aH K M H (cJ lo n) (yy lo n):=by
 unfold cJ yy
 induction List.range n with
 |nil=>exact .nil
 |cons k l ih=>exact .cons (.int _) ih
theorem G3{e:Expr}{lo hi:Int}(h:Yy X z e g lo hi g1)(hc:X.calm=true)(hg:Gl X "list")(hm:X.mg "list"=none)(hs:starEach [e] X.env=[(false,eval e X.env)])(h1 : -(2 ^ 62)<=lo/\lo<2 ^ 62/\-(2 ^ 62)<=hi/\hi<2 ^ 62)(hl:(hi - lo).toNat<=16777216) :
  aA X z (.Call (.Name "list" lp) [e] [] pos) g (.new (cJ lo (hi - lo).toNat)) g1:=by
 refine aA.of λah s Y As M H Post I st k=>?_
 refine Call_ (gP I hg hm (by rfl:bootBuiltins ("list":Str)=some (.type "list")) (nN ?_ hs rfl))
 rw[hs];show wpAny _ _ (spliced ((false,eval e X.env)::[])) _ _ s;refine Calls.spliced_cons (h ah s Y As M H _ I st λr s1 H1 aL M1 t u v I1 q1 q2 hr=>Calls.spliced_nil ?_)
 have hn:Builtin.Range.rangeSize lo hi 1=(((hi - lo).toNat:Nat):Int):=by rw[rangeSize_one];split <;> lia
 refine call_list_range (I1.ok.hd hc) hr (small_one h1.1 h1.2.1 h1.2.2.1 h1.2.2.2) hn hl λh' tk acc' c' hk hS' hacc=>?_
 have hf:H1 s1⁻¹=none:=I1.hok.fresh (eC _);have s2:=q1.aY (xs:=yy lo (hi - lo).toNat) hf;have vv:=Df hacc;have I2:L2.Inv X ah Y (upd H1 s1⁻¹ (.lst (yy lo (hi - lo).toNat))) { s1 with heap:=h',toks:=tk}:=
  I1.laid (t':=tk) hk (eC _) (show cM X.prog X.w _ h' _ (.lst (yy lo (hi - lo).toNat))from⟨by rw[vv.length,oC,hacc.1];exact iI hl,acc'.toList,c',vv,by simpa using hS'⟩)
 exact k (.ref s1⁻¹) _ _ _ aL (s1⁻¹::M1) I2 rfl s2 (q2.trans (ao.aY hf)) ⟨_,_,rfl,dC,λhA=>q1.fresh hf (q1.sub _ hA),q1.cS hf,aE,Dg _ _⟩
end
section
theorem tY{ns: ~~~0}{its:List Value}(r:Vals (ns.map V.int) its){i:Nat}{v:Value}(h:its[i]?=some v):∃t,v=.int (ns.getD i 0) t:=by
 have hi:i<ns.length:=by have:=(dL.mp h).1;have e:=r.length;rw[fA]at e;lia
 obtain⟨w,e1,e2⟩:=r.get (i:=i) (x:=V.int ns[i]) (by simp[hi])
 rw[h]at e1;cases e1;obtain⟨t,e⟩:=e2;exact⟨t,by rw[e];simp[List.getD,hi]⟩
end
theorem oW(o:Obj)(f):(o.mapFields f).dict=o.dict:=by obtain⟨c,d,dt,sl⟩:=o;cases dt <;> rfl
structure u6(h₀:Heap)(x C:Addr)(H:Hp)(h:Heap):Prop where
 obj:∃oe vs,h.get? x=some oe/\oe.cls=.ref C/\oe.dict=none/\oe.data=.fields vs/\1<vs.size/\(vs[1]?=some .none\/∃T oT ts,vs[1]?=some (.ref T)/\T≠x/\h₀.get? T=none/\H T=none/\h.get? T=some oT/\oT.data=.fields ts/\ts[3]?=some .none)
 new:h₀.get? x=none
 no:H x=none
section
theorem ki
  (hfr:A.frames=some (env::outer)) (hl:s.heap.FunFrames base (env::outer)) (hf:env.frame=some L) (he:s.heap.get? x=some oe) (hd:oe.data=.fields vs) (jP:1<vs.size)
  (h:∀h',(∀b o,b∉frs (env::outer)->b≠x->s.heap.get? b=some o->h'.get? b=some o)->(∀b o,b∈frs (env::outer)->s.heap.get? b=some o->∃sl,h'.get? b=some { o with slots:=sl})->
   (∃Fc vs' oT ts,h'.get? x=some Fc/\Fc.cls=oe.cls/\Fc.dict=oe.dict/\Fc.data=.fields vs'/\1<vs'.size/\vs'[1]?=some (.ref s⁻¹)/\h'.get? s⁻¹=some oT/\oT.data=.fields ts/\ts[3]?=some .none)->Q () { s with heap:=h'}) :
  wpAny M A (do let a <- frameOf env;let pl <- entryPlaceOf L hadNext;let b <- EntryCells.newEntry head a .none (rawInt L) .none pl;setField (.ref x) 1 b) (λ_ s'=>wpAny M A (setFlight (.ref x) none) Q E s') E s:=by
 have hx:x∉(env::outer).filterMap (·.frame):=λhm=>by
  obtain⟨_,o,ho,hnf⟩:=hl.mem hm;rw[he]at ho;cases ho;exact hnf vs hd
 refine aS (wpAny_frameOf_fun hfr hl hf λh₁ hs₁=>?_)
 refine aS (wpAny_entryPlaceOf λpl g8=>?_)
 unfold EntryCells.newEntry newFields;refine aS (l9 ?_ (g8.sizeOk5 _ _ _ _ _));have he₁:h₁.get? x=some oe:=(hs₁.2.1 x hx).trans he;generalize hO:({ cls:=.type "traceback",dict:=none,data:=.fields ([head,.ref L,.none,rawInt L,.none]++(if pl.isEmpty then List.replicate 6 Value.none else pl)).toArray}:Obj)=O
 have he₂:=bP (h:=h₁) O he₁;have hsz₁:h₁.objs.size=s⁻¹:=hs₁.1;have hT₂:(h₁.push O).get? h₁.objs.size=some O:=eM _ (by rw[<- hO];rfl)
 refine A5 he₂ hd jP ?_;have TL:h₁.objs.size≠x:=AJ (eQ he₁);have hd₃:=wT hd (·.setIfInBounds 1 (Value.ref h₁.objs.size));have he₃:=oP (Obj.mapFields (·.setIfInBounds 1 (Value.ref h₁.objs.size))) he₂ (AC hd₃);have hT₃:=(i6 (h₁.push O) (Obj.mapFields (·.setIfInBounds 1 (Value.ref h₁.objs.size))) (nV TL)).trans hT₂;have hdO:O.data=.fields ([head,.ref L,.none,rawInt L,.none]++(if pl.isEmpty then List.replicate 6 Value.none else pl)).toArray:=by rw[<- hO]
 unfold setFlight;refine aS (mI he₃ hd₃ (x:=.ref h₁.objs.size) (by simp[jP]) ?_)
 rw[gL (show (Value.ref h₁.objs.size != Value.none)=true from by simp)]
 refine A5 hT₃ hdO (by simp only[dE,eJ,l4,yB] <;> lia) (h _ ?_ ?_ ?_)
 . intro b o hb Mj ho;have Yz:h₁.get? b=some o:=(hs₁.2.1 b hb).trans ho;rw[i6 _ _ (AJ (eQ Yz)),i6 _ _ (nV Mj)];exact bP _ Yz
 .
  intro b o hb ho;obtain⟨sl,Yz⟩:=hs₁.2.2 b o ho;have Mj:b≠x:=λq=>hx (q▸hb)
  refine⟨sl,?_⟩;rw[i6 _ _ (AJ (eQ Yz)),i6 _ _ (nV Mj)];exact bP _ Yz
 .
  rw[<- hsz₁];refine⟨_,_,_,_,(i6 _ _ TL).trans he₃,Obj.cls_mapFields _ _,oW _ _,hd₃,by simp[jP],by simp[jP],oP _ hT₃ (AC (wT hdO _)),wT hdO _,?_⟩
  first
   | (simp;done)
   | (rcases g8 with rfl |⟨_,_,_,_,_,_,_,rfl⟩ <;> simp)
theorem qH
  (hfr:A.frames=some (env::outer)) (hl:s.heap.FunFrames base (env::outer)) (hf:env.frame=some L) (fl:u6 h₀ x C H s.heap) (hn:h₀.get? s⁻¹=none) (hH:∀b,s⁻¹<=b->H b=none)
  (h:∀h',(∀b o,b∉frs (env::outer)->(h₀.get? b=none->H b=none->∀vs,o.data≠.fields vs)->s.heap.get? b=some o->h'.get? b=some o)->(∀b o,b∈frs (env::outer)->s.heap.get? b=some o->∃sl,h'.get? b=some { o with slots:=sl})->
   u6 h₀ x C H h'->(∀b o,s.heap.get? b=some o->∃o',h'.get? b=some o')->Q () { s with heap:=h'}):wpAny M A (noteFrame (.ref x) env) (λ_ s'=>wpAny M A (setFlight (.ref x) none) Q E s') E s:=by
 obtain⟨⟨oe,vs,he,hc,bN,hd,jP,hT⟩,Wy,Wz⟩:=fl;have hxf:x∉frs (env::outer):=λhm=>by
  obtain⟨_,o,ho,hnf⟩:=hl.mem hm;rw[he]at ho;cases ho;exact hnf vs hd
 have fin:∀(T0:Addr) (h1 h':Heap),(∀b,b≠T0->h1.get? b=s.heap.get? b)->(T0=x\/(h₀.get? T0=none/\H T0=none/\T0∉frs (env::outer)/\∃oT ts,s.heap.get? T0=some oT/\oT.data=.fields ts))->(∀o,s.heap.get? T0=some o->∃o',h1.get? T0=some o')->h1.objs.size=s⁻¹->
   (∀b o,b∉frs (env::outer)->b≠x->h1.get? b=some o->h'.get? b=some o)->(∀b o,b∈frs (env::outer)->h1.get? b=some o->∃sl,h'.get? b=some { o with slots:=sl})->
   (∃Fc vs' oT ts,h'.get? x=some Fc/\Fc.cls=oe.cls/\Fc.dict=oe.dict/\Fc.data=.fields vs'/\1<vs'.size/\vs'[1]?=some (.ref h1.objs.size)/\h'.get? h1.objs.size=some oT/\oT.data=.fields ts/\ts[3]?=some .none)->Q () { s with heap:=h'}:=by
  intro T0 h1 h' a1 a2 a2' a3 k1 k2 ⟨Fc,vs',oT,ts,e1,e2,Ww,e3,e4,e5,e6,e7,e8⟩;have hTf:T0∉frs (env::outer):=a2.elim (λq=>q▸hxf) λq=>q.2.2.1
  refine h h' (λb o hb hH' ho=>?_) (λb o hb ho=>?_) ⟨⟨Fc,vs',e1,e2.trans hc,Ww.trans bN,e3,e4,.inr ⟨h1.objs.size,oT,ts,e5,?_,?_,?_,e6,e7,e8⟩⟩,Wy,Wz⟩ λb o ho=>?_
  .
   have Mj:b≠x:=λq=>by
    subst q;rw[he]at ho;cases ho;exact hH' Wy Wz vs hd
   have hbT:b≠T0:=λq=>a2.elim (λz=>Mj (q.trans z)) λ⟨z1,z2,_,oT,ts,z3,z4⟩=>by
    subst q;rw[z3]at ho;cases ho;exact hH' z1 z2 ts z4
   exact k1 b o hb Mj ((a1 b hbT).trans ho)
  . exact k2 b o hb ((a1 b (λq=>hTf (q▸hb))).trans ho)
  . rw[a3];exact AJ (eQ he)
  . rw[a3];exact hn
  . rw[a3];exact hH _ (eC _)
  .
   by_cases Mj:b=x
   . exact⟨Fc,Mj▸e1⟩
   .
    have h1b:∃o1,h1.get? b=some o1:=by
     by_cases hbT:b=T0
     . subst hbT;exact a2' o ho
     . exact⟨o,(a1 b hbT).trans ho⟩
    obtain⟨o1,Qk⟩:=h1b;by_cases hb:b∈frs (env::outer)
    . obtain⟨sl,q⟩:=k2 b o1 hb Qk;exact⟨_,q⟩
    . exact⟨o1,k1 b o1 hb Mj Qk⟩
 unfold noteFrame;simp only[hf];rcases hT with hT |⟨T,oT,ts,h1,TL,hTn,hTH,J7,J8,h3⟩
 . refine aS (mI he hd hT ?_);rw[hU ⋯];exact ki hfr hl hf he hd jP λh' k1 k2 k3=>fin x s.heap h' (λ_ _=>rfl) (.inl rfl) (λo ho=>⟨o,ho⟩) rfl k1 k2 k3
 .
  refine aS (mI he hd h1 ?_);rw[gL (show (Value.ref T != Value.none)=true from by simp)]
  refine aS (mI J7 J8 h3 ?_);rw[hU (show ¬ ((Value.none==rawInt L)=true)from by simp[rawInt])]
  refine aS (A5 J7 J8 (Ap.mp h3).1 ?_);have other:∀b,b≠T->(s.heap.update T (Obj.mapFields (·.setIfInBounds 3 Value.none))).get? b=s.heap.get? b:=λb hb=>i6 _ _ (nV hb)
  have hTf:T∉frs (env::outer):=λhm=>by
   obtain⟨_,o,ho,hnf⟩:=hl.mem hm;rw[J7]at ho;cases ho;exact hnf ts J8
  have rec':∀b o,s.heap.get? b=some o->(∀vs,o.data≠.fields vs)->b≠T:=λb o hb hnf q=>by
   rw[q,J7]at hb;cases hb;exact hnf ts J8
  refine ki hfr (hl.of_keeps λb o hb hnf=>⟨o,(other b (rec' b o hb hnf)).trans hb,rfl⟩) hf ((other x (nV TL)).trans he) hd jP λh' k1 k2 k3=>?_
  exact fin T _ h' other (.inr ⟨hTn,hTH,hTf,oT,ts,J7,J8⟩) (λo ho=>⟨_,oP _ J7 (AC (wT J8 _))⟩) (Heap.size_update ..) k1 k2 k3
end
theorem u6.mono(f:u6 h₁ x C H h)(hm:∀b o,h₀.get? b=some o->∃o',h₁.get? b=some o'):u6 h₀ x C H h:=by
 have no:∀b,h₁.get? b=none->h₀.get? b=none:=λb hb=>by
  cases e:h₀.get? b with
  |none=>rfl
  |some o=>obtain⟨o',e'⟩:=hm b o e;rw[hb]at e';cases e'
 obtain⟨⟨oe,vs,h1,h2,h2',h3,h4,h5⟩,h6,h7⟩:=f;exact⟨⟨oe,vs,h1,h2,h2',h3,h4,h5.imp id λ⟨T,oT,ts,q1,q2,q3,q4⟩=>⟨T,oT,ts,q1,q2,no T q3,q4⟩⟩,no x h6,h7⟩
def Fd(P:Program)(w:World):Cb:=λouter H s E e s'=>∃x C H',e=.ref x/\s'.os=s.os/\AllBare s'.gens/\Un (frs outer) [] H H' s.heap s'.heap/\kX P w H' s'.heap/\u6 s.heap x C H' s'.heap/\E (.ref C) none H'
theorem G4(hx:X.ex=[])(I:L2.Inv X ah Y H s)(h:Fd X.prog X.w X.stack H s E e s') :
  ∃x C H',e=.ref x/\L2.Inv X ah Y H' s'/\u6 X.s₀.heap x C H' s'.heap/\E (.ref C) none H':=by
 obtain⟨x,C,H',rfl,h1,h2,h3,h4,h5,h6⟩:=h;exact⟨x,C,H',rfl,I.call' h1 h3 h4 h2 (λb z=>absurd z ⋯),h5.mono λb o e=>I.base.there b o e (by rw[hx];simp),h6⟩
section
theorem vL(I:L2.Inv X ah Y H' s')(dg:X.stack=X.env::X.outer)(hf:X.env.frame=some X.env.locals)(hex:X.ex=[])(fl:u6 X.s₀.heap x C H' s'.heap)
  (h:∀h'',(∀b o,b∉frs (X.env::X.outer)->(X.s₀.heap.get? b=none->H' b=none->∀vs,o.data≠.fields vs)->s'.heap.get? b=some o->h''.get? b=some o)->(∀b o,b∈frs (X.env::X.outer)->s'.heap.get? b=some o->∃sl,h''.get? b=some { o with slots:=sl})->
   Un (frs X.outer) [] X.H₀ H' X.s₀.heap h''->kX X.prog X.w H' h''->u6 X.s₀.heap x C H' h''->Q () { s' with heap:=h''}) :
  wpAny (~~~2) X.A (noteFrame (.ref x) X.env) (λ_ s2=>wpAny (~~~2) X.A (setFlight (.ref x) none) Q E' s2) E' s':=by
 have hl:=I.stack;rw[dg]at hl;have ub:Un (frs X.outer) [] X.H₀ H' X.s₀.heap s'.heap:=hex▸I.base;have hsf:=I.sO;rw[dg]at hsf;refine qH (L:=X.env.locals) (I.ok.frames.trans (by rw[dg])) hl hf fl (Heap.get?_none_of_le I.sz) (λb hb=>I.hok.fresh hb) λh'' k1 k2 k3 k4=>?_
 have hin:∀b,b∈frs X.outer->b∈frs (X.env::X.outer):=λb hb=>by
  unfold frs;rw[tJ,hf];exact dA _ hb
 have hno:∀b o,X.s₀.heap.get? b=some o->b∉frs X.outer->b∉frs (X.env::X.outer):=λb o ho hb hm=>by
  unfold frs at hm;rw[tJ,hf]at hm;rcases eA.mp hm with e |hm
  . rw[e]at ho;exact nE _ (eD (eQ ho) I.ok.above)
  . exact hb hm
 have hlt:∀b o (ob:Obj),X.s₀.heap.get? b=some o->(X.s₀.heap.get? b=none->H' b=none->∀vs,ob.data≠.fields vs):=λb o ob ho hb=>by rw[ho]at hb;cases hb
 refine h h'' k1 k2 ⟨λb o q n hb hx=>?_,λb o q n hb hx=>?_,ub.free,λb o q hx=>?_,ub.tups,ub.jS,ub.jT⟩ (λa o e=>?_) k3
 . exact k1 b o (hno b o q hb) (hlt b o _ q) (ub.keep b o q n hb hx)
 . obtain⟨sl,e1⟩:=ub.slot b o q n hb hx;obtain⟨sl',e2⟩:=k2 b _ (hin b hb) e1;exact⟨sl',e2⟩
 . obtain⟨o',e1⟩:=ub.there b o q hx;exact k4 b o' e1
 .
  refine (I.hok a o e).stay (λb u hb q=>?_) (λ_ q=>q) λ_ _ q=>q
  have ht:H' b≠none:=by
   rcases hb with rfl |hb
   . rw[e];simp
   . rw[hb];simp
  exact k1 b u (λhm=>ht (hsf b hm)) (λ_ z=>absurd z ht) q
theorem rH(I:L2.Inv X ah Y H' s')(dg:X.stack=X.env::X.outer)(hf:X.env.frame=some X.env.locals)(hex:X.ex=[])(fl:u6 X.s₀.heap x C H' s'.heap)
  (h:∀s'',Fd X.prog X.w X.outer X.H₀ X.s₀ (λc o h=>c=.ref C/\o=none/\h=H') (.ref x) s''->Q () s'') :
  wpAny (~~~2) X.A (leaving X.env (.ref x)) Q E' s':=by
 unfold leaving;exact aS (vL I dg hf hex fl λh'' _ _ u k f=>h _ ⟨x,C,H',rfl,I.os,I.bare,u,k,f,rfl,rfl,rfl⟩)
theorem Dh(I:L2.Inv X [] Y H' s')(hp:X.pn=[])(dg:X.stack=X.env::X.outer)(hf:X.env.frame=some X.env.locals)(hex:X.ex=[])(fl:u6 X.s₀.heap x C H' s'.heap)
  (h:∀s'',L2.Inv X [] Y H' s''->u6 X.s₀.heap x C H' s''.heap->Q () s'') :
  wpAny (~~~2) X.A (noteFrame (.ref x) X.env) (λ_ s2=>wpAny (~~~2) X.A (setFlight (.ref x) none) Q E' s2) E' s':=by
 refine vL I dg hf hex fl λh'' k1 k2 u k f=>h _ ?_ f
 have cellK:∀c v,s'.heap.IsCell c v->h''.IsCell c v:=λc v ⟨o,e,d⟩=>by
  by_cases hb:c∈frs (X.env::X.outer)
  . obtain⟨sl,e2⟩:=k2 c o hb e;exact⟨_,e2,d⟩
  . exact⟨o,k1 c o hb (λ_ _ vs q=>by rw[d]at q;cases q) e,d⟩
 have hlm:X.env.locals∈frs (X.env::X.outer):=by unfold frs;rw[tJ,hf];exact dC
 obtain⟨m,hn,hlk⟩:=I.loc;refine⟨I.ok,I.os,I.bare,hex▸u,⟨m,?_,λi y v h1 h2 h3=>?_⟩,λy c e=>?_,I.free,I.dQ,λp hp2=>?_,k,I.len⟩
 . obtain⟨o,es,ep,e,d,r⟩:=hn;obtain⟨sl,e2⟩:=k2 _ o hlm e;exact⟨_,es,ep,e2,d,r⟩
 . obtain⟨u,r,q⟩:=hlk i y v h1 h2 h3;refine⟨u,r,q.imp id λ⟨q1,c,q2,q3⟩=>⟨q1,c,q2,cellK c _ q3⟩⟩
 . obtain⟨v,q⟩:=I.cell y c e;exact⟨v,cellK c v q⟩
 . rw[hp]at hp2;cases hp2
end
theorem G5{P:Program}{w:World}{K:Frag}{mg:Str->Option Value}{base:Heap}{N:List Str}{qual:Str}{scope:Scope}{f:Addr}{cd:Value}{A:Around}{outer:List Env}{s:Shared}{H:Hp}{E:XK}{ah: ~~~1}{Y:Sg}{H':Hp}{s':Shared}{x C:Addr}
  (I:L2.Inv (fF (Fd P w) P w K mg base N qual scope f cd A outer s H E) ah Y H' s') (fl:u6 s.heap x C H' s'.heap) (hE:E (.ref C) none H'):(fF (Fd P w) P w K mg base N qual scope f cd A outer s H E).xe (.ref x) s':=
 rH I rfl rfl rfl fl λs'' ⟨y,D,H2,e,h1,h2,h3,h4,h5,e1,e2,e3⟩=>by
  cases e;cases e1;subst e3;exact⟨x,C,H2,rfl,h1,h2,h3,h4,h5,hE⟩
def Acc(X:Cx)(z:Z)(g':G)(M:List Addr)(H:Hp)(C:Addr)(Y:Sg):Prop:=
 ∀ah s1 H1 aL M1 x,L2.Inv X ah Y H1 s1->S z g' Y aL M1 H1->ao M H M1 H1->u6 X.s₀.heap x C H1 s1.heap->X.xe (.ref x) s1
def Di(X:Cx)(z:Z)(g':G)(M:List Addr)(H:Hp)(C:Addr):Prop:=∀Y,Acc X z g' M H C Y
theorem Acc.trans(st:ao M H M1 H1)(h:Acc X z g' M H C Y):Acc X z g' M1 H1 C Y:=λah s1 H2 aL M2 x I s st' fl=>h ah s1 H2 aL M2 x I s (st.trans st') fl
theorem Di.trans(st:ao M H M1 H1)(h:Di X z g' M H C):Di X z g' M1 H1 C:=λY=>(h Y).trans st
def u9(X:Cx)(z:Z)(e:Expr)(g:G)(C:Addr)(g':G):Prop:=∃t,PE X e t/\∀Y As M H Q,S z g Y As M H->Acc X z g' M H C Y->t Y H Q
def WD(X:Cx)(z:Z)(e:Expr)(g:G)(C:Addr)(g':G):Prop:=∃t,PT X e t/\∀Y As M H Q,S z g Y As M H->Acc X z g' M H C Y->t Y H Q
def YB(X:Cx)(z:Z)(es:List Expr)(g:G)(C:Addr)(g':G):Prop:=∃t,PA X es t/\∀Y As M H Q,S z g Y As M H->Acc X z g' M H C Y->t Y H Q
def TQ(X:Cx)(z:Z)(st:Stmt)(g:G)(C:Addr)(g':G):Prop:=∃t,PS X st t/\∀Y As M H E,S z g Y As M H->Di X z g' M H C->t E Y H
def Mk(X:Cx)(z:Z)(jR:List Stmt)(g:G)(C:Addr)(g':G):Prop:=∃t,sP X jR t/\∀Y As M H E,S z g Y As M H->Di X z g' M H C->t E Y H
section
variable{st:Stmt}
theorem aA.lift(h:aA X.kZ z e g r g'):aA X z e g r g':=let ⟨t,q,k⟩:=h;⟨t,q.kZ,k⟩
theorem cA.lift(h:cA X.kZ z e g v g'):cA X z e g v g':=let ⟨t,q,k⟩:=h;⟨t,q.kZ,k⟩
theorem Ml(h:u9 X z a g C g')(hm:behindInMarks op b=false):u9 X z (.Compare a [op] [b] pos) g C g':=by obtain⟨t,q,k⟩:=h;exact⟨_,sV (r:=λ_ _ _ _=>False) (λ_ _ _ _ _ _ _ _ _ _ _ _ h=>h.elim) q iH hm,λY As M H Q s ac=>k Y As M H _ s ac⟩
theorem Mm(h1:aA X z a g r g1)(h:u9 X z b g1 C g')(hm:behindInMarks op b=false):u9 X z (.Compare a [op] [b] pos) g C g':=by obtain⟨t1,q1,k1⟩:=h1;obtain⟨t,q,k⟩:=h;exact⟨_,sV (r:=λ_ _ _ _=>False) (λ_ _ _ _ _ _ _ _ _ _ _ _ h=>h.elim) q1 q hm,λY As M H Q s ac=>k1 Y As M H _ s λv H1 aL M1 s1 cP R1=>k Y aL M1 H1 _ s1 (ac.trans cP)⟩
theorem TV(h:u9 X z e g C g')(he:∀whole,isTrue e X.env whole=(do let v <- whole;standAt e.pos;holding [v] (truthy v))):WD X z e g C g':=by obtain⟨t,q,k⟩:=h;exact⟨_,QW q he,λY As M H Q s ac=>k Y As M H _ s ac⟩
theorem Mp(h:WD X z a g C g'):WD X z (.UnaryOp .Not a pos) g C g':=by obtain⟨t,q,k⟩:=h;exact⟨_,Fy q,λY As M H Q s ac=>k Y As M H _ s ac⟩
theorem Mq(h:u9 X z e g C g')(hs:starEach (e::es) X.env=(false,eval e X.env)::starEach es X.env):YB X z (e::es) g C g':=by
 obtain⟨t,q,k⟩:=h;have pn:PA X es (λ_ _ _=>False):=λ_ _ _ _ _ _ _ h=>h.elim
 exact⟨_,cD q pn hs,λY As M H Q s ac=>k Y As M H _ s ac⟩
theorem Mr(h1:aA X z e g r g1)(h:YB X z es g1 C g')(hs:starEach (e::es) X.env=(false,eval e X.env)::starEach es X.env):YB X z (e::es) g C g':=by obtain⟨t1,q1,k1⟩:=h1;obtain⟨t,q,k⟩:=h;exact⟨_,cD q1 q hs,λY As M H Q s ac=>k1 Y As M H _ s λv H1 aL M1 s1 cP R1=>k Y aL M1 H1 _ s1 (ac.trans cP)⟩
theorem TX(h:u9 X z e g C g'):TQ X z (.Return (some e) pos) g C g':=by obtain⟨t,q,k⟩:=h;exact⟨_,FG q,λY As M H E s ac=>k Y As M H _ s (ac Y)⟩
theorem Ms(h:u9 X z e g C g')(hs:swapsWith e none pos.line X.env=pure false):TQ X z (.Expr e pos) g C g':=by obtain⟨t,q,k⟩:=h;exact⟨_,zO q hs,λY As M H E s ac=>k Y As M H _ s (ac Y)⟩
theorem TY(h:WD X z c g C g'):TQ X z (.If c x y pos) g C g':=by obtain⟨t,q,k⟩:=h;exact⟨_,vp q bF bF,λY As M H E s ac=>k Y As M H _ s (ac Y)⟩
theorem G6(h1:cA X z c g v g1)(h:Mk X z (if v then x else y) g1 C g'):TQ X z (.If c x y pos) g C g':=by
 obtain⟨t1,q1,k1⟩:=h1;obtain⟨t,q,k⟩:=h;cases v with
 |true=>exact⟨_,vp q1 q bF,λY As M H E s ac=>k1 Y As M H _ s λH' aB M' s' st=>j3 (k Y aB M' H' _ s' (ac.trans st))⟩
 |false=>exact⟨_,vp q1 bF q,λY As M H E s ac=>k1 Y As M H _ s λH' aB M' s' st=>oq (k Y aB M' H' _ s' (ac.trans st))⟩
theorem Mt(h:TQ X z st g C g'):Mk X z (st::jR) g C g':=by obtain⟨t,q,k⟩:=h;exact⟨_,eL q bF,λY As M H E s ac=>k Y As M H _ s ac⟩
theorem Mu(h1:fJ X z st g .nx g1)(h:Mk X z jR g1 C g'):Mk X z (st::jR) g C g':=by obtain⟨t1,q1,k1⟩:=h1;obtain⟨t,q,k⟩:=h;exact⟨_,eL q1 q,λY As M H E s ac=>k1 Y As M H _ s λσ' aB M' H' s' st'=>k σ' aB M' H' E s' (ac.trans st')⟩
end
def SpX(K:Frag)(N:List Str)(np:Nat)(run:List Nat->G->Addr->G->Prop):Sp:=λvs H _ E=>
 vs.length=np/\∃(z:Z) (g g':G) (As M:List Addr) (C:Addr),z.K=K/\S z g (L2.start N vs) As M H/\run z.bor g C g'/\∀σ' aB M' H',S z g' σ' aB M' H'->ao M H M' H'->E (.ref C) none H'
section
variable{run:List Nat->G->Addr->G->Prop}
theorem T3{P:Program}{w:World}{K:Frag}{mg:Str->Option Value}{base:Heap}{qual:Str}{st:Stmt}(F:K3 K x qual st f fd)(Sc:bV N ps (aF st))
  (h:∀(bD:Value) (A:Around) (outer:List Env) (s:Shared) (H:Hp) (E:XK),PySem.W.codeIn K bD qual=true->bS k (A.deeper (envOfC qual (aF st) s⁻¹ f bD))->
   ∀(z:Z) (g:G) (C:Addr) (g':G),z.K=K->run z.bor g C g'->Mk (fF (Fd P w) P w K mg base N qual (aF st) f bD A outer s H E) z (bA st) g C g') :
  ji P w K mg base (Fd P w) (k+1) f fd ps (SpX K N ps.length run):=by
 obtain⟨oc,od,kV,doc,pm,an,bD,ct,osl,rfl,lk,bN⟩:=F.ex;refine P9 lk bN Sc (λvs H Q E q=>q.1) λA outer s H vs Q E hr ⟨_,z,g,g',As,M,C,hK,hs,hrun,hQ⟩=>?_
 obtain⟨t,q,kk⟩:=h bD A outer s H E bN hr z g C g' hK hrun;exact⟨t,q,kk _ As M H _ hs λY ah s1 H1 aL M1 y I s' st' fl=>G5 I fl (hQ Y aL M1 H1 s' st')⟩
theorem Mv(F:ji X.prog X.w X.K X.mg X.base (Fd X.prog X.w) k f fd ps (SpX X.K N ps.length run))(hK:z.K=X.K)(hex:X.ex=[])(hr:bS k X.A)(hg:Gl X x)(hm:X.mg x=some (.ref f))(hk:PySem.W.keepIn X.K (.ref f)=true)(hb:L2.Binds X.K fd ps [])
  (ha:cQ X z (e::es) g rs g1) (aJ:rs.length=ps.length) (hl:bY rs g1=some gs) (nd:((vars 0 rs).map (·.2)).Nodup) (hrun:run ((vars 0 rs).map (·.1)) (cU N.length gs) C gc) (GK:back (vars 0 rs) gc g1=some gO)
  (jQ:(x==(~~~3))=false) (he:starEach (e::es) X.env=(false,eval e X.env)::starEach es X.env) (g8:(backTo pos (starEach es X.env)).any (·.1)=false) :
  u9 X z (.Call (.Name x p) (e::es) [] pos) g C gO:=by
 refine⟨λY H Q=>∃As M,S z g Y As M H/\Acc X z gO M H C Y,λah s Y H Q I ⟨As,M,hs,ac⟩=>?_,λY As M H Q s ac=>⟨As,M,s,ac⟩⟩
 refine wP (gK I hg hm ?_ jQ);refine BA (h₀:=X.base) I.ok.mod.Fq hk (ha.run (pos:=pos) I hs λvs us s1 H1 aL M1 I1 r1 q1 q2 R1=>⟨I1.nk,?_⟩) he g8
 have hv:vs.length=rs.length:=R1.length;have hl2:(us++[]).length=ps.length:=by rw[nK,<- r1.length,hv,aJ]
 have ee:=q1.enter (N:=N) R1 hl nd;refine C6 (Bi (F.run X.A X.stack s1 H1 ⟨us,[]⟩ (us++[]) (vs++[]) (λ_ _=>False) (λcls _ H'=>cls=.ref C/\∃bx M2,S z gO Y bx M2 H'/\ao M H M2 H') hr I1.KJ (hb s1 us I1.nk hl2) (by rw[nK,nK];exact r1) ?_) λr s' hq=>?_)
 .
  rw[nK];refine⟨by rw[hv,aJ],rE z Y M1 H1 rs,cU N.length gs,gc,_,M1,C,hK,ee,by rw[lD];exact hrun,λσ' aB M' H' s' st'=>⟨rfl,?_⟩⟩
  obtain⟨M2,s2,aK,_⟩:=q1.leave (r:=.dat .non) (v:=.non) R1 hl nd s' st' .non GK rfl;exact⟨aL,M2,s2,q2.trans aK⟩
 .
  cases r with
  |error ev=>
   have hq:Fd X.prog X.w X.stack H1 s1 (λcls _ H'=>cls=.ref C/\∃bx M2,S z gO Y bx M2 H'/\ao M H M2 H') ev s':=hq
   obtain⟨y,C',H',rfl,I',fl,hC,bx,M2,s2,aK⟩:=G4 hex I1 hq;cases hC;exact ac ah s' H' bx M2 y I' s2 aK fl
  |ok flw=>
   cases flw with
   |ret u=>
    have hq:CE X.stack X.prog X.w H1 s1 (λ_ _=>False) u s':=hq
    obtain⟨_,_,_,_,_,_,_,q⟩:=hq;exact q.elim
   |next=>exact False.elim hq
   |brk=>exact False.elim hq
   |cont=>exact False.elim hq
end
noncomputable def veM:List Value:=[.type "ValueError",.type "Exception",.type "BaseException",.type "object"]
abbrev eV(K:Frag)(C:Addr):Prop:=PySem.W.excIn K C veM "ValueError.__new__"=true
theorem tZ{K:Frag}{h:Heap}{C:Addr}(X:K.In h)(q:eV K C) :
  ∃bm N nm qn bs hdct sn sub ab col dd k0 k1 k2 k3 k5 mN,h.get? C=some (excClassObj nm qn C N bs bm hdct sn sub ab col dd k0 k1 k2 k3 k5 "ValueError.__new__")/\h.Ns N mN/\mN "__init__"=none/\OwnTail h veM bm:=by
 unfold eV PySem.W.excIn at q;split at q
 .
  rename_i dd cd sl ho;split at q
  .
   rename_i C' bm k0 k1 k2 k3 n k5 hm hs;simp only[d5,beq_iff_eq,AW]at q;obtain⟨⟨⟨⟨⟨rfl,rfl⟩,YC⟩,ht⟩,hok⟩,hni⟩:=q;obtain⟨nm,bs,mro,ns,qn,hd,sn,sub,ab,col,del⟩:=cd;dsimp only at hm YC hok hni;subst hm YC;have hsl:sl = #[k0,k1,k2,k3,some (.builtin "ValueError.__new__"),k5]:=by obtain⟨l⟩:=sl;simp only at hs;rw[hs]
   subst hsl;exact⟨bm,ns,nm,qn,bs,hd,sn,sub,ab,col,dd,k0,k1,k2,k3,k5,_,X _ _ ho,.of_isNs (PySem.W.isNs_of_in X hok),PySem.W.nsMap_none_of_in X hok hni,PySem.W.tail_of_in X ht⟩
  . cases q
 . cases q
theorem vM(x:cM P w H h a o):∃ob,h.get? a=some ob:=by
 induction o with
 |lst xs=>obtain⟨_,_,_,_,e⟩:=x;exact⟨_,e⟩
 |tup xs=>obtain⟨_,_,_,ob,e,_⟩:=x;exact⟨_,e⟩
 |dK dN=>obtain⟨_,_,_,_,o,_,_,e,_⟩:=x;exact⟨_,e⟩
 |dT dN=>obtain⟨_,_,_,_,o,_,_,e,_⟩:=x;exact⟨_,e⟩
 |set S n=>obtain⟨o,_,_,_,e,_⟩:=x;exact⟨_,e⟩
 |ins C dx fs=>obtain⟨_,_,_,e,_⟩:=x;exact⟨_,e⟩
 |own y=>exact x
 |xd fs=>obtain⟨mA,⟨o,_,_,e,_⟩,_⟩:=x;exact⟨_,e⟩
 |rng lo hi=>obtain⟨_,_,_,e⟩:=x;exact⟨_,e⟩
 |iU o u ih=>exact⟨_,x.1⟩
 |kW ps=>exact⟨_,x⟩
 |met f y=>exact⟨_,x⟩
 |ext φ=>exact x.2.1
section
theorem G7(hc:X.calm=true)(hex:X.ex=[])(hq:eV X.K C)(hg:Gl X x)(hm:X.mg x=some (.ref C))(jQ:(x==(~~~3))=false)(ha:cQ X z [m] g [.dat d] g1)(hs:starEach [m] X.env=[(false,eval m X.env)]) :
  TQ X z (.Raise (some (.Call (.Name x np) [m] [] bM)) none pos) g C g1:=by
 refine⟨λ_ Y H=>∃As M,S z g Y As M H/\Di X z g1 M H C,λah s Y H E I ⟨As,M,st,ac⟩=>?_,λY As M H E s ac=>⟨As,M,s,ac⟩⟩
 obtain⟨bm,N,nm,qn,bs,hdct,sn,sub,ab,col,dd,k0,k1,k2,k3,k5,mN,hC,hN,hni,T⟩:=tZ I.ok.mod.Fq hq;refine wpAny_Raise_call_subU (Bn:= "ValueError") (C:=C) (nm:=nm) (q:=qn) (N:=N) (bs:=bs) (bm:=bm) (hdct:=hdct) (sn:=sn) (sub:=sub) (ab:=ab) (col:=col) (dd:=dd) (k0:=k0) (k1:=k1) (k2:=k2) (k3:=k3) (k5:=k5) PySem.F.excBase_ValueError ⋯ PySem.F.excBase_ValueError (T.hasType ⋯) (I.ok.hd hc) (by rw[hs];rfl) hni (gK I hg hm ⟨rfl,?_⟩ jQ)
 rw[hs];refine Calls.evalArgs_plain (x:=eval m X.env) (rest:=[]) ?_;have e1:spliced ((false,eval m X.env)::[])=spliced (backTo bM (starEach [m] X.env)):=by rw[hs];rfl
 rw[e1];refine (ha.run I st λvs us s1 H1 aL M1 I1 r1 q1 q2 R1=>?_)
 refine⟨rfl,?_,I1.bk _ _ hC,hN.keeps I1.bk,T.keeps I1.bk,λh' e hme=>?_⟩
 . show us.length<=sizeLine;have:=r1.length;rw[R1.length]at this;rw[<- this,rV];exact (by decide:(1:Nat)<=16777216)
 .
  have I2:L2.Inv X ah Y H1 { s1 with heap:=h'}:=I1.kept (t':=s1.toks) hme.keeps;have iC:H1 e=none:=by
   cases q:H1 e with
   |none=>rfl
   |some o=>obtain⟨ob,ho⟩:=vM (I1.hok e o q);have hn:=hme.new;rw[ho]at hn;cases hn
  refine ac Y ah _ H1 aL M1 e I2 q1 q2 ?_;obtain⟨t,ht,_,_⟩:=hme.there;refine⟨⟨_,_,ht,rfl,rfl,rfl,by simp,.inl ⋯⟩,?_,iC⟩
  cases q:X.s₀.heap.get? e with
  |none=>rfl
  |some o=>
   obtain⟨ob,ho⟩:=I1.base.there e o q (by rw[hex];simp)
   have hn:=hme.new;rw[ho]at hn;cases hn
end
section
inductive vN(X:Cx)(z:Z):Str->List Expr->G->Str->G->Prop
 |nil {out:Str}{g:G}:vN X z out [] g out g
 |con {out y r:Str}{j:Nat}{p:Pos}{es:List Expr}{g g':G}:(out++y).length<=16777216->vN X z (out++y) es g r g'->vN X z out (.Constant (.str y) j p::es) g r g'
 |int {out r:Str}{i:Int}{v:Expr}{p:Pos}{es:List Expr}{g g1 g':G}:aA X z v g ‹i› g1->i.natAbs.log2<1920->(out++(toString i:Str)).length<=16777216->vN X z (out++(toString i:Str)) es g1 r g'->vN X z out (.FormattedValue v (-1) none p::es) g r g'
theorem T4(h:vN X z out es g r g'):out.length<=16777216->∀(ah: ~~~1) (s:Shared) (Y:Sg) (As M:List Addr) (H:Hp) (Post:Value->Shared->Prop),L2.Inv X ah Y H s->S z g Y As M H->
  (∀t s1 H1 aL M1,L2.Inv X ah Y H1 s1->S z g' Y aL M1 H1->ao M H M1 H1->Post (.str r t) s1)->wpAny (~~~2) X.A (joinParts out (evalEach es X.env)) Post X.xe s:=by
 induction h with
 |@nil out g=>intro hl ah s Y As M H Post I st k;exact joinParts_nil (k _ _ H As M (I.tok _) st (ao.refl _ _)) (iI hl)
 |@con out y r j p es g g' hl' _ ih=>intro hl ah s Y As M H Post I st k;show wpAny _ _ (joinParts out (eval (.Constant (.str y) j p) X.env::evalEach es X.env)) _ _ s;refine joinParts_cons (Calls.Constant_str ⟨iI hl',?_⟩);exact ih hl' ah _ Y As M H Post (I.tok _) st k
 |@int out r i v p es g g1 g' he hd hl' _ ih=>
  intro hl ah s Y As M H Post I st k;show wpAny _ _ (joinParts out (eval (.FormattedValue v (-1) none p) X.env::evalEach es X.env)) _ _ s;refine joinParts_cons (FormattedValue_plain (he.run I st λw u s1 H1 aL M1 I1 r1 q1 q2 q3=>?_))
  have Qi:Rep z.K M1 H1 (.int i) w:=q3;cases Qi;obtain⟨t,rfl⟩:=r1;refine formatField_int_small hd ?_;exact⟨iI hl',ih hl' ah _ Y aL M1 H1 Post (I1.tok _) q1 λt s2 H2 bx M2 I2 p1 p2=>k t s2 H2 bx M2 I2 p1 (q2.trans p2)⟩
theorem Mw(h:vN X z Str.empty (e1::e2::es) g r g'):aA X z (.JoinedStr (e1::e2::es) pos) g (.dat (.str r)) g':=
 aA.of λah s Y As M H Post I st k=>JoinedStr_many (T4 h ⋯ ah s Y As M H Post I st λt s1 H1 aL M1 I1 q1 q2=>k (.str r) (.str r t) s1 H1 aL M1 I1 ⟨t,rfl⟩ q1 q2 (.str r))
end
section
theorem G8(F:ji X.prog X.w X.K X.mg X.base uX k f fd ps sp)(h:YB X z (e::es) g C g')(hr:bS k X.A)(hg:Gl X x)(hm:X.mg x=some (.ref f))(hk:PySem.W.keepIn X.K (.ref f)=true)(hb:L2.Binds X.K fd ps [])
  (jQ:(x==(~~~3))=false) (he:starEach (e::es) X.env=(false,eval e X.env)::starEach es X.env) (g8:(backTo pos (starEach es X.env)).any (·.1)=false):u9 X z (.Call (.Name x p) (e::es) [] pos) g C g':=by
 obtain⟨t,q,kk⟩:=h;exact⟨_,zU F hr hg hm hk hb .nil Qa q jQ he g8,λY As M H Q s ac=>kk Y As M H _ s ac⟩
end
open PySem PySem.W PyProof.Rows
noncomputable def ig{α:Type}(lt:Nat->Nat->Bool):KasT α->α
 |.ret a=>a
 |.ask i j k=>ig lt (k (lt i j))
theorem eF{α β:Type}(lt:Nat->Nat->Bool)(f:α->KasT β):∀t:KasT α,ig lt (t.bind f)=ig lt (f (ig lt t))
 |.ret _=>rfl
 |.ask i j k=>eF lt f (k (lt i j))
structure kj(α:Type) where
 lt:α->α->Bool
 irr:∀a,lt a a=false
 tr:∀a b c,lt a b=true->lt b c=true->lt a c=true
 tot:∀a b,lt a b=false->lt b a=false->a=b
namespace kj
variable{α:Type}(O:kj α)
def le(a b:α):Prop:=O.lt b a=false
variable{O}
theorem le_refl(a:α):O.le a a:=O.irr a
theorem le_of_lt(h:O.lt a b=true):O.le a b:=by
 unfold le;cases e:O.lt b a
 . rfl
 . have:=O.tr _ _ _ h e;rw[O.irr]at this;cases this
theorem rJ(h1:O.le a b)(h2:O.le b c):O.le a c:=by
 unfold le at *;cases e:O.lt c a with
 |false=>rfl
 |true=>
  exfalso;cases e1:O.lt a b with
  |true=>have:=O.tr _ _ _ e e1;rw[h2]at this;cases this
  |false=>have hab:=O.tot a b e1 h1;subst hab;rw[h2]at e;cases e
theorem Af(h1:O.le a b)(h2:O.le b a):a=b:=O.tot a b h2 h1
end kj
section
variable{α:Type}
noncomputable def dO(key:Nat->α)(p:Array Nat)(i:Nat):α:=key (p.getD i 0)
def jm(O:kj α)(key:Nat->α)(p:Array Nat)(n:Nat):Prop:=∀i j,i<=j->j<n->O.le (dO key p i) (dO key p j)
def iL(O:kj α)(key:Nat->α)(p:Array Nat)(n:Nat):Prop:=∀i j,i<=j->j<n->O.le (dO key p j) (dO key p i)
noncomputable def nF(O:kj α)(key:Nat->α)(i j:Nat):Bool:=O.lt (key i) (key j)
theorem getD_some{p q:Array Nat}{i j:Nat}(h:p[i]?=q[j]?):p.getD i 0=q.getD j 0:=by rw[y7,y7,h]
theorem nG{p:Array Nat}{i j:Nat}(hj:j<=p.size)(k:Nat):dO key (kas_rev p i j) k=if i<=k/\k<j then dO key p (i+j - 1 - k)else dO key p k:=by
 have e:=getElem?_mirror_all (i:=i) hj k;unfold dO kas_rev;split
 . rename_i h;rw[gL h]at e;rw[getD_some e]
 . rename_i h;rw[hU h]at e;rw[getD_some e]
theorem Mx{p:Array Nat}{src d:Nat}(hs:src<p.size)(hd:d<=src)(k:Nat):dO key (bubble p src d) k=if k=src - d then dO key p src else if src - d<k/\k<=src then dO key p (k - 1)else dO key p k:=by
 have e:=getElem?_bubble hs d hd k;unfold dO;by_cases h1:k=src - d
 . rw[gL h1]at e ⊢;rw[getD_some e]
 .
  rw[hU h1]at e ⊢
  by_cases h2:src - d<k/\k<=src
  . rw[gL h2]at e ⊢;rw[getD_some e]
  . rw[hU h2]at e ⊢;rw[getD_some e]
theorem jm.ext(h:jm O key p n)(hl:O.lt (dO key p n) (dO key p (n - 1))=false)(h1:1<=n):jm O key p (n+1):=by
 intro i j hij hj;by_cases e:j<n
 . exact h i j hij e
 .
  have:j=n:=by lia
  subst this;by_cases e2:i=j
  . subst e2;exact kj.le_refl _
  . exact kj.rJ (h i (j - 1) ⋯ ⋯) hl
theorem yz:∀(f n:Nat),1<=n->jm O key p n->∃m,ig (nF O key) (kas_asc p f n)=m/\n<=m/\m<=n+f/\jm O key p m/\(m<n+f->O.lt (dO key p m) (dO key p (m - 1))=true)
 | 0,n,_,h=>⟨n,rfl,eC _,eC _,h,λz=>absurd z (nE _)⟩
 |f+1,n,h1,h=>by
  unfold kas_asc;show ∃m,ig (nF O key) (if nF O key (p.getD n 0) (p.getD (n - 1) 0)=true then KasT.ret n else kas_asc p f (n+1))=m/\_
  cases e:nF O key (p.getD n 0) (p.getD (n - 1) 0)with
  |true=>exact⟨n,rfl,eC _,by lia,h,λ_=>e⟩
  |false=>obtain⟨m,q1,q2,q3,q4,q5⟩:=yz f (n+1) ⋯ (h.ext e h1);exact⟨m,q1,by lia,by lia,q4,λz=>q5 ⋯⟩
theorem iL.ext(h:iL O key p n)(hl:O.le (dO key p n) (dO key p (n - 1)))(h1:1<=n):iL O key p (n+1):=by
 intro i j hij hj;by_cases e:j<n
 . exact h i j hij e
 .
  have:j=n:=by lia
  subst this;by_cases e2:i=j
  . subst e2;exact kj.le_refl _
  . exact kj.rJ hl (h i (j - 1) ⋯ ⋯)
theorem iL.T5(h:iL O key p n)(hk:∀k,dO key p' k=dO key p k):iL O key p' n:=λi j a b=>by rw[hk,hk];exact h i j a b
def YD(key:Nat->α)(p:Array Nat)(n q:Nat):Prop:=q+1<=n/\∀k,n - (q+1)<=k->k<n->dO key p k=dO key p (n - 1)
theorem Ag(h:YD key p n q)(hz:n<=p.size)(k:Nat):dO key (kas_rev p (n - (q+1)) n) k=dO key p k:=by
 rw[nG hz];split
 . rename_i hk;have hq:=h.1;rw[h.2 k hk.1 hk.2,h.2 (n - (q+1)+n - 1 - k) ⋯ ⋯]
 . rfl
theorem nI:∀(f:Nat) (p:Array Nat) (n q:Nat),1<=n->n+f<=p.size->iL O key p n->YD key p n q->
  ∃p' m q',ig (nF O key) (kas_desc f p n q)=(p',m,q')/\p'.Perm p/\n<=m/\m<=n+f/\iL O key p' m/\YD key p' m q'
 | 0,p,n,q,_,_,h,hq=>⟨p,n,q,rfl,BH _,eC _,eC _,h,hq⟩
 |f+1,p,n,q,h1,hz,h,hq=>by
  unfold kas_desc;show ∃p' m q',ig (nF O key) (if nF O key (p.getD n 0) (p.getD (n - 1) 0)=true then (if q > 0 then kas_desc f (kas_rev p (n - (q+1)) n) (n+1) 0 else kas_desc f p (n+1) 0)
   else .ask (p.getD (n - 1) 0) (p.getD n 0) λd=>if d=true then .ret (p,n,q)else kas_desc f p (n+1) (q+1))=(p',m,q')/\_
  cases e:nF O key (p.getD n 0) (p.getD (n - 1) 0)with
  |true=>
   rw[gL rfl];have hl:O.le (dO key p n) (dO key p (n - 1)):=kj.le_of_lt e;have one:∀p':Array Nat,YD key p' (n+1) 0:=λp'=>⟨by lia,λk a b=>by have:k=n:=⋯;subst this;rfl⟩
   by_cases hq0:q > 0
   .
    rw[gL hq0];have hk:=Ag hq (by lia:n<=p.size)
    have hF:iL O key (kas_rev p (n - (q+1)) n) (n+1):=(h.ext hl h1).T5 hk;obtain⟨p',m,q',r1,r2,r3,r4,r5,r6⟩:=nI f (kas_rev p (n - (q+1)) n) (n+1) 0 ⋯ (by rw[kas_rev_size];lia) hF (one _)
    exact⟨p',m,q',r1,r2.trans (mirror_perm _ _ _ _),by lia,by lia,r5,r6⟩
   . rw[hU hq0];obtain⟨p',m,q',r1,r2,r3,r4,r5,r6⟩:=nI f p (n+1) 0 ⋯ ⋯ (h.ext hl h1) (one _);exact⟨p',m,q',r1,r2,by lia,by lia,r5,r6⟩
  |false=>
   rw[hU kS];show ∃p' m q',ig (nF O key) (if nF O key (p.getD (n - 1) 0) (p.getD n 0)=true then .ret (p,n,q)else kas_desc f p (n+1) (q+1))=(p',m,q')/\_
   cases e2:nF O key (p.getD (n - 1) 0) (p.getD n 0)with
   |true=>exact⟨p,n,q,rfl,BH _,eC _,by lia,h,hq⟩
   |false=>
    rw[hU kS];have he:dO key p n=dO key p (n - 1):=O.tot _ _ e e2;have hq':YD key p (n+1) (q+1):=⟨by have:=hq.1;lia,λk a b=>by
     show dO key p k=dO key p n;by_cases hk:k=n
     . subst hk;rfl
     .
      rw[he];exact hq.2 k ⋯ ⋯⟩
    obtain⟨p',m,q',r1,r2,r3,r4,r5,r6⟩:=nI f p (n+1) (q+1) ⋯ ⋯ (h.ext (by rw[he];exact kj.le_refl _) h1) hq'
    exact⟨p',m,q',r1,r2,by lia,by lia,r5,r6⟩
theorem G9(h:iL O key p n)(hz:n<=p.size):jm O key (kas_rev p 0 n) n:=λi j a b=>by
 rw[nG hz,nG hz,gL ⟨by lia,by lia⟩,gL ⟨by lia,by lia⟩]
 exact h _ _ ⋯ ⋯
theorem vO(h1:1<=n)(hn:n<=nrem)(hz:nrem<=p.size)(h:iL O key p n):∃m p',ig (nF O key) (kas_tail3 n nrem p)=(m,p')/\p'.Perm p/\1<=m/\m<=nrem/\jm O key p' m:=by unfold kas_tail3;rw[eF];obtain⟨m,q1,q2,q3,q4,_⟩:=yz (O:=O) (key:=key) (p:=kas_rev p 0 n) (nrem - n) n h1 (G9 h ⋯);rw[q1];exact⟨m,_,rfl,mirror_perm _ _ _ _,by lia,by lia,q4⟩
theorem mG(h1:1<=n)(hn:n+1<=nrem)(hz:nrem<=p.size)(h:iL O key p (n+1)):∃m p',ig (nF O key) (kas_descPart n nrem p)=(m,p')/\p'.Perm p/\1<=m/\m<=nrem/\jm O key p' m:=by
 unfold kas_descPart;rw[eF];obtain⟨p',m,q',r1,r2,r3,r4,r5,r6⟩:=nI (O:=O) (key:=key) (nrem - (n+1)) p (n+1) 0 ⋯ ⋯ h ⟨by lia,λk a b=>by have:k=n:=⋯;subst this;rfl⟩
 rw[r1];dsimp only;have hs:p'.size=p.size:=r2.size_eq;by_cases hq:q' > 0
 .
  rw[gL hq];have hk:=Ag r6 (by lia:m<=p'.size)
  obtain⟨m',p2,s1,s2,s3,s4,s5⟩:=vO (nrem:=nrem) ⋯ ⋯ (by rw[kas_rev_size];lia) (r5.T5 hk)
  exact⟨m',p2,s1,(s2.trans (mirror_perm _ _ _ _)).trans r2,s3,s4,s5⟩
 . rw[hU hq];obtain⟨m',p2,s1,s2,s3,s4,s5⟩:=vO (nrem:=nrem) ⋯ ⋯ ⋯ r5;exact⟨m',p2,s1,s2.trans r2,s3,s4,s5⟩
theorem Hf(h1:1<=n)(hz:n<=p.size):∃m p',ig (nF O key) (kas_count n p)=(m,p')/\p'.Perm p/\1<=m/\m<=n/\jm O key p' m:=by
 unfold kas_count;rw[eF];obtain⟨m,q1,q2,q3,q4,q5⟩:=yz (O:=O) (key:=key) (p:=p) (n - 1) 1 (eC _) (λi j a b=>by have e1:i=0:=⋯;have e2:j=0:=⋯;subst e1;subst e2;exact kj.le_refl _)
 rw[q1];by_cases e1:(m==n)=true
 . rw[gL e1];exact⟨m,p,rfl,BH _,q2,by lia,q4⟩
 .
  rw[hU e1];have hm:m<n:=by
   have:m≠n:=λz=>e1 (by rw[z];exact Cn _)
   lia
  have hlt:=q5 ⋯;by_cases e2:m > 1
  .
   rw[gL e2];show ∃m' p',ig (nF O key) (if nF O key (p.getD 0 0) (p.getD (m - 1) 0)=true then KasT.ret (m,p)else kas_descPart m n (kas_rev p 0 m))=(m',p')/\_
   cases e3:nF O key (p.getD 0 0) (p.getD (m - 1) 0)with
   |true=>exact⟨m,p,rfl,BH _,q2,by lia,q4⟩
   |false=>
    rw[hU kS];have eq0:∀k,k<m->dO key p k=dO key p (m - 1):=λk hk=>by
     refine kj.Af (O:=O) (q4 k (m - 1) ⋯ ⋯) ?_;exact kj.rJ (show O.le (dO key p (m - 1)) (dO key p 0)from e3) (q4 0 k ⋯ hk)
    have hk:∀k,dO key (kas_rev p 0 m) k=dO key p k:=λk=>by
     rw[nG ⋯];split
     . rw[eq0 _ ⋯,eq0 k ⋯]
     . rfl
    have hF:iL O key (kas_rev p 0 m) (m+1):=by
     refine iL.T5 (p:=p) (iL.ext (λi j a b=>?_) (kj.le_of_lt hlt) ⋯) hk
     rw[eq0 i ⋯,eq0 j b];exact kj.le_refl _
    obtain⟨m',p2,s1,s2,s3,s4,s5⟩:=mG (O:=O) (key:=key) (p:=kas_rev p 0 m) q2 (by lia:m+1<=n) (by rw[kas_rev_size];exact hz) hF
    exact⟨m',p2,s1,s2.trans (mirror_perm _ _ _ _),s3,s4,s5⟩
  .
   rw[hU e2];have hF:iL O key p (m+1):=iL.ext (λi j a b=>by have e1:i=0:=⋯;have e2:j=0:=⋯;subst e1;subst e2;exact kj.le_refl _) (kj.le_of_lt hlt) q2
   exact mG q2 ⋯ hz hF
theorem oX(hR:jm O key p k):∀(f l r:Nat),l<=r->r<=k->r - l<=f->(∀i,i<l->O.le (dO key p i) (dO key p k))->(∀i,r<=i->i<k->O.lt (dO key p k) (dO key p i)=true)->
  ∃m,ig (nF O key) (kas_place p k f l r)=m/\m<=k/\(∀i,i<m->O.le (dO key p i) (dO key p k))/\∀i,m<=i->i<k->O.lt (dO key p k) (dO key p i)=true
 | 0,l,r,h1,h2,h3,h4,h5=>⟨l,rfl,by lia,h4,λi a b=>h5 i ⋯ b⟩
 |f+1,l,r,h1,h2,h3,h4,h5=>by
  unfold kas_place;by_cases e:l ≥ r
  . rw[gL e];exact⟨l,rfl,by lia,h4,λi a b=>h5 i ⋯ b⟩
  .
   rw[hU e];show ∃m,ig (nF O key) (if nF O key (p.getD k 0) (p.getD ((l+r) / 2) 0)=true then kas_place p k f l ((l+r) / 2)else kas_place p k f ((l+r) / 2+1) r)=m/\_
   cases e2:nF O key (p.getD k 0) (p.getD ((l+r) / 2) 0)with
   |true=>
    rw[gL rfl];refine oX hR f l ((l+r) / 2) ⋯ ⋯ ⋯ h4 λi a b=>?_
    by_cases hi:r<=i
    . exact h5 i hi b
    .
     have q:O.le (dO key p ((l+r) / 2)) (dO key p i):=hR _ _ a b;cases e3:O.lt (dO key p k) (dO key p i)with
     |true=>rfl
     |false=>
      have:=kj.rJ q (show O.le (dO key p i) (dO key p k)from e3)
      have Ww:O.lt (dO key p k) (dO key p ((l+r) / 2))=true:=e2;unfold kj.le at this;rw[this]at Ww;cases Ww
   |false=>
    rw[hU kS];refine oX hR f ((l+r) / 2+1) r ⋯ h2 ⋯ (λi a=>?_) h5
    exact kj.rJ (hR i ((l+r) / 2) ⋯ ⋯) e2
theorem Hg:∀(f:Nat) (p:Array Nat) (k:Nat),k+f<=p.size->jm O key p k->∃p',ig (nF O key) (kas_bin f p k)=p'/\p'.Perm p/\jm O key p' (k+f)
 | 0,p,k,_,h=>⟨p,rfl,BH _,h⟩
 |f+1,p,k,hz,h=>by
  unfold kas_bin;rw[eF];obtain⟨l,q1,q2,q3,q4⟩:=oX h k 0 k (u7 _) (eC _) ⋯ (λi a=>absurd a (BD _)) (λi a b=>absurd (BI a b) (nE _))
  rw[q1];have hk:=λi=>Mx (key:=key) (p:=p) (src:=k) (d:=k - l) ⋯ ⋯ i
  have hR:jm O key (bubble p k (k - l)) (k+1):=λi j a b=>by
   rw[hk,hk];have e:k - (k - l)=l:=by lia
   rw[e];by_cases i1:i=l
   .
    rw[gL i1];by_cases j1:j=l
    . rw[gL j1];exact kj.le_refl _
    .
     rw[hU j1,gL ⟨by lia,by lia⟩]
     exact kj.le_of_lt (q4 (j - 1) ⋯ ⋯)
   .
    rw[hU i1];by_cases i2:l<i/\i<=k
    .
     rw[gL i2,hU ⋯,gL ⟨by lia,by lia⟩]
     exact h _ _ ⋯ ⋯
    .
     rw[hU i2];by_cases j1:j=l
     . rw[gL j1];exact q3 i ⋯
     .
      rw[hU j1];by_cases j2:l<j/\j<=k
      . rw[gL j2];exact h _ _ ⋯ ⋯
      . rw[hU j2];exact h _ _ a ⋯
  obtain⟨p',s1,s2,s3⟩:=Hg f (bubble p k (k - l)) (k+1) (by rw[bubble_size];lia) hR
  exact⟨p',s1,s2.trans (bubble_perm _ _ _),by rw[show k+(f+1)=k+1+f by lia];exact s3⟩
theorem My(h1:1<=n):∃p,ig (nF O key) (kas_sort n)=p/\p.Perm (List.range n).toArray/\jm O key p n:=by
 unfold kas_sort;rw[eF];obtain⟨m,p,q1,q2,q3,q4,q5⟩:=Hf (O:=O) (key:=key) (p:=(List.range n).toArray) h1 ⋯;rw[q1];dsimp only;have hs:p.size=n:=by rw[q2.size_eq];simp
 have e:max m 1=m:=by lia
 rw[e];by_cases hm:m<n
 . rw[gL hm];obtain⟨p',s1,s2,s3⟩:=Hg (O:=O) (key:=key) (n - m) p m ⋯ q5;exact⟨p',s1,s2.trans q2,by rw[show m+(n - m)=n by lia]at s3;exact s3⟩
 .
  rw[hU hm];have:m=n:=by lia
  subst this;exact⟨p,rfl,q2,q5⟩
end
noncomputable def Ah{α:Type}(n:Nat)(P:α->Prop):KasT α->Prop
 |.ret a=>P a
 |.ask i j k=>i<n/\j<n/\∀b,Ah n P (k b)
theorem Ah.bind{α β:Type}{n:Nat}{P:α->Prop}{Q:β->Prop}{f:α->KasT β}:∀{t:KasT α},Ah n P t->(∀a,P a->Ah n Q (f a))->Ah n Q (t.bind f)
 |.ret a,h,hf=>hf a h
 |.ask _ _ _,h,hf=>⟨h.1,h.2.1,λb=>(h.2.2 b).bind hf⟩
theorem vP{α:Type}{n:Nat}{P:α->Prop}{lt:Nat->Nat->Bool}{cmp:Nat->Nat->(Bool->Shared->Prop)->Shared->Prop}{Q:α->Shared->Prop}{s:Shared}(hc:∀i j C,i<n->j<n->C (lt i j) s->cmp i j C s):∀t:KasT α,Ah n P t->Q (ig lt t) s->t.kasWp cmp Q s
 |.ret _,_,h=>h
 |.ask i j k,ok,h=>hc i j _ ok.1 ok.2.1 (vP hc (k (lt i j)) (ok.2.2 _) h)
def oY(n:Nat)(p:Array Nat):Prop:=0<n/\∀x∈p.toList,x<n
theorem oY.at(h:oY n p)(i:Nat):p.getD i 0<n:=by
 rw[y7];cases e:p[i]? with
 |none=>exact h.1
 |some x=>exact h.2 x (by rw[Ap]at e;obtain⟨hi,rfl⟩:=e;simp)
theorem oY.perm(h:oY n p)(e:p'.Perm p):oY n p':=⟨h.1,λx hx=>h.2 x ((AY.mp e).mem_iff.mp hx)⟩
theorem oY.rev(h:oY n p)(i j:Nat):oY n (kas_rev p i j):=h.perm (mirror_perm _ _ _ _)
theorem oY.bub(h:oY n p)(i j:Nat):oY n (bubble p i j):=h.perm (bubble_perm _ _ _)
section
theorem yC(h:oY N p):∀f n,Ah N (λ_=>True) (kas_asc p f n)
 | 0,_=>trivial
 |f+1,n=>⟨h.at _,h.at _,λb=>by cases b <;> first |exact trivial |exact yC h f (n+1)⟩
theorem nJ:∀f p n q,oY N p->Ah N (λr=>oY N r.1) (kas_desc f p n q)
 | 0,_,_,_,h=>h
 |f+1,p,n,q,h=>by
  refine⟨h.at _,h.at _,λb=>?_⟩
  dsimp only;cases b with
  |true=>
   rw[gL rfl];by_cases hq:q > 0
   . rw[gL hq];exact nJ f _ _ _ (h.rev _ _)
   . rw[hU hq];exact nJ f _ _ _ h
  |false=>
   rw[hU kS];refine⟨h.at _,h.at _,λd=>?_⟩
   cases d with
   |true=>exact h
   |false=>exact nJ f _ _ _ h
theorem vQ{p:Array Nat}{n nrem:Nat}(h:oY N p):Ah N (λr=>oY N r.2) (kas_tail3 n nrem p):=(yC (h.rev 0 n) _ _).bind λ_ _=>h.rev 0 n
theorem mH{p:Array Nat}{n nrem:Nat}(h:oY N p):Ah N (λr=>oY N r.2) (kas_descPart n nrem p):=by
 refine (nJ _ _ _ _ h).bind λr hr=>?_
 by_cases hq:r.2.2 > 0
 . rw[gL hq];exact vQ (oY.rev hr _ _)
 . rw[hU hq];exact vQ hr
theorem Hi{p:Array Nat}{n:Nat}(h:oY N p):Ah N (λr=>oY N r.2) (kas_count n p):=by
 refine (yC h _ _).bind λm _=>?_
 by_cases e1:(m==n)=true
 . rw[gL e1];exact h
 .
  rw[hU e1];by_cases e2:m > 1
  .
   rw[gL e2];refine⟨h.at _,h.at _,λb=>?_⟩
   cases b with
   |true=>exact h
   |false=>exact mH (h.rev _ _)
  . rw[hU e2];exact mH h
theorem oZ(h:oY N p):∀f l r,Ah N (λ_=>True) (kas_place p k f l r)
 | 0,_,_=>trivial
 |f+1,l,r=>by
  unfold kas_place;by_cases e:l ≥ r
  . rw[gL e];exact trivial
  .
   rw[hU e];refine⟨h.at _,h.at _,λb=>?_⟩
   cases b with
   |true=>exact oZ h f _ _
   |false=>exact oZ h f _ _
theorem Hj:∀f p k,oY N p->Ah N (λ_=>True) (kas_bin f p k)
 | 0,_,_,_=>trivial
 |f+1,p,k,h=>(oZ h _ _ _).bind λl _=>Hj f _ _ (h.bub _ _)
theorem Mz{n:Nat}(h:0<n):Ah n (λ_=>True) (kas_sort n):=by
 refine (Hi (p:=(List.range n).toArray) ⟨h,λx hx=>by simpa using hx⟩).bind λr hr=>?_
 by_cases e:r.1<n
 . rw[gL e];exact Hj _ _ _ hr
 . rw[hU e];exact trivial
end
open L2 PySem.W
section
variable{α:Type}{key:Nat->α}
noncomputable def dH(s:Shared)(a:Addr)(vs:List Value):Shared:={ s with heap:=((s.heap.update a (Obj.mapSeq λ_=>#[])).push (seqObj "tuple" vs.toArray 0)).push (seqObj "list" #[] 0)}
theorem vR(hb:b≠a)(h:s.heap.get? b=some o):(dH s a vs).heap.get? b=some o:=
 bP _ (bP _ ((i6 s.heap _ hb.symm).trans h))
theorem Hl(ho:s.heap.get? a=some (seqObj "list" vs.toArray n))(h2:2<=vs.length)(h64:vs.length<64)
  (hk:∀Q:SortKind->Shared->Prop,Q κ (dH s a vs)->wpAny (model prog w) A (keyKind' vs.toArray) Q (λ_ _=>False) (dH s a vs))
  (hc:∀i j C,i<vs.length->j<vs.length->C (nF O key i j) (dH s a vs)->kas_ask prog w A κ vs i j C (dH s a vs))
  (h:∀p:Array Nat,p.Perm (List.range vs.length).toArray->jm O key p vs.length->P (.done (.ret .none)) { s with heap:=sortedHeap s.heap a vs (p.toList.map λi=>vs.getD i Value.none).toArray}) :
  wpAny (model prog w) A (Builtin.«list.sort» ⟨[.ref a],[]⟩) P E s:=by
 obtain⟨e1,Qk⟩:∃e1,(s.heap.update a (Obj.mapSeq λ_=>#[])).get? a=some (seqObj "list" #[] e1):=⟨_,get?_update_seq ho (λ_=>#[])⟩
 have YF:(dH s a vs).heap.get? a=some (seqObj "list" #[] e1):=bP _ (bP _ Qk);have hz:vs.length<=sizeLine:=(by rw[rV];lia)
 rw[list_sort_plain];refine aS (listItems_at ho rfl (aS (listUpdate_at ho rfl (aS (seqEpoch_at Qk rfl (aS (wpAny_newTuple (aS (CC (l7 ?_) (u7 _))) (by show vs.length<=_;exact hz))))) (by simpa using hz) (u7 _))))
 show wpAny (model prog w) A _ P E (dH s a vs);have hn : ¬ vs.toArray.size<2:=by rw[dE];lia
 dsimp only;rw[hU hn,hU hn];refine aS (lL (hk (λk s0=>k=κ/\s0=dH s a vs) ⟨rfl,rfl⟩) ?_ λ_ _ z=>z.elim)
 rintro _ _ ⟨rfl,rfl⟩;obtain⟨p0,q1,q2,q3⟩:=My (O:=O) (key:=key) (n:=vs.length) ⋯;refine aS (lL (kat_run (ks:=vs) (vs:=vs) (E:=E) (Q:=λst' s'=>s'=dH s a vs/\failedOf st'=none/\(arrOf st').map (·.2)=(p0.toList.map λi=>vs.getD i Value.none).toArray) (G:=λp s'=>s'=dH s a vs/\p=p0)
  rfl h2 h64 (λp st' s' _ har hf hg=>?_) (vP hc _ (Mz ⋯) ⟨rfl,q1⟩)) ?_ λ_ _ z=>z)
 . obtain⟨rfl,rfl⟩:=hg;exact⟨rfl,hf,kat_snds rfl har⟩
 .
  rintro⟨⟨⟩,st'⟩ s' ⟨rfl,hf,hout⟩;dsimp only at hf hout ⊢
  have aJ:(p0.toList.map λi=>vs.getD i Value.none).length=vs.length:=by rw[fA,oC,q2.size_eq];simp
  rw[hout];refine aS (seqEpoch_at YF rfl (aS (listUpdate_at YF rfl ?_ (u7 _) (by show (List.toArray _).size<=_;rw[dE,aJ];lia))))
  rw[hf];simp only[bne_self_eq_false,AQ,C1];exact dS (h p0 q2 q3)
theorem Ai{β:Type}:∀l:List β,(l.zip l).map (·.2)=l
 | []=>rfl
 |x::l=>by rw[AO,List.map_cons,Ai l]
theorem Ho(ho:s.heap.get? a=some (seqObj "list" vs.toArray n))(h2:vs.length<2)
  (h:P (.done (.ret .none)) { s with heap:=sortedHeap s.heap a vs vs.toArray}):wpAny (model prog w) A (Builtin.«list.sort» ⟨[.ref a],[]⟩) P E s:=by
 obtain⟨e1,Qk⟩:∃e1,(s.heap.update a (Obj.mapSeq λ_=>#[])).get? a=some (seqObj "list" #[] e1):=⟨_,get?_update_seq ho (λ_=>#[])⟩
 have YF:(dH s a vs).heap.get? a=some (seqObj "list" #[] e1):=bP _ (bP _ Qk);have hz:vs.length<=sizeLine:=(by rw[rV];lia)
 rw[list_sort_plain];refine aS (listItems_at ho rfl (aS (listUpdate_at ho rfl (aS (seqEpoch_at Qk rfl (aS (wpAny_newTuple (aS (CC (l7 ?_) (u7 _))) (by show vs.length<=_;exact hz))))) (by simpa using hz) (u7 _))))
 show wpAny (model prog w) A _ P E (dH s a vs);have hn:vs.toArray.size<2:=by rw[dE];lia
 dsimp only;rw[gL hn,gL hn];refine aS (dS ?_);rw[StateT.run_pure];refine aS (dS ?_);dsimp only;have hout:(arrOf (SortSt.mk' general' (vs.toArray.zip vs.toArray) #[] 7 none)).map (·.2)=vs.toArray:=by show (vs.toArray.zip vs.toArray).map (·.2)=vs.toArray;apply Array.toList_inj.mp;simp only[Array.toList_map,Array.toList_zip,List.toList_toArray];exact Ai vs
 rw[hout];refine aS (seqEpoch_at YF rfl (aS (listUpdate_at YF rfl ?_ (u7 _) (by show vs.toArray.size<=_;rw[dE];lia))))
 show wpAny _ _ (if (e1 != e1)=true then _ else _) _ _ _
 rw[hU ⋯];exact dS h
noncomputable def Hq(h:Heap)(vs:List Value):Heap:=((h.push (seqObj "list" #[] 0)).update h.objs.size (Obj.mapSeq (· ++ vs.toArray))).push (seqObj "list" vs.toArray 0)
theorem rK(h:Heap)(vs:List Value):((h.push (seqObj "list" #[] 0)).update h.objs.size (Obj.mapSeq (· ++ vs.toArray))).objs.size=h.objs.size+1:=(Heap.size_update ..).trans (size_push' ..)
theorem uc(h:Heap)(vs:List Value):(Hq h vs).get? (h.objs.size+1)=some (seqObj "list" vs.toArray 0):=by have:=eM ((h.push (seqObj "list" #[] 0)).update h.objs.size (Obj.mapSeq (· ++ vs.toArray))) (o:=seqObj "list" vs.toArray 0) rfl;rw[rK]at this;exact this
theorem vU(e:h.get? b=some o):(Hq h vs).get? b=some o/\b≠h.objs.size+1:=by have hb:b<h.objs.size:=eQ e;refine⟨bP _ ?_,i7 (AV hb)⟩;rw[i6 _ _ (AJ hb)];exact bP _ e
theorem Dj(hl:s.heap.IsList l vs.toArray\/IsTup s.heap l vs.toArray)(hz:vs.length<=sizeLine)
  (h:wpAny (model prog w) A.in1.in1 (Builtin.«list.sort» ⟨[.ref (s⁻¹+1)],[]⟩) (λf s'=>f=.done (.ret .none)/\Q (.ref (s⁻¹+1)) s') E { s with heap:=Hq s.heap vs}) :
  wpAny (model prog w) A (call (.builtin "sorted") [.ref l]) Q E s:=by
 refine Calls.call_function_entry kind_sorted plain_sorted entry_sorted (args_sorted1 _) ?_;unfold Builtin.«sorted»;have go:wpAny (model prog w) A.in1 (collect (.ref l)) (λvs' s'=>vs'=vs/\s'={ s with heap:=(s.heap.push (seqObj "list" #[] 0)).update s⁻¹ (Obj.mapSeq (· ++ vs.toArray))}) E s:=by
  rcases hl with hl |hl
  . exact collect_list hl ⟨rfl,rfl⟩ hz
  . exact jr hl ⟨rfl,rfl⟩ hz
 refine aS (m:=checkCount "sorted" 1 1 _) (dS (aS (lL go ?_ λ_ _ z=>z)))
 rintro _ _ ⟨rfl,rfl⟩;refine aS (CC ?_ hz);show wpAny _ _ _ _ _ { s with heap:=Hq s.heap _};rw[rK];refine aS (l7 (v6 slot_list_sort ⟨_,uc _ _,rfl⟩ entry_list_sort (lL h (λf s' hf=>⟨_,hf.1,?_⟩) λ_ _ z=>z) (args_list_sort _)))
 exact dS ⟨_,rfl,hf.2⟩
end
theorem rL:∀a:List Int,HT.lexLt a a=false
 | []=>rfl
 |x::a=>by rw[HT.dD,gL rfl,rL a]
theorem vV:∀a b c:List Int,HT.lexLt a b=true->HT.lexLt b c=true->HT.lexLt a c=true
 | [],[],_,h,_=>by symm
 |_::_,[],_,h,_=>by symm
 |_,_::_,[],_,h=>by symm
 | [],_::_,_::_,_,_=>rfl
 |x::a,y::b,z::c,h1,h2=>by
  rw[HT.dD]at h1 h2 ⊢
  by_cases e1:x=y
  .
   rw[gL e1]at h1;subst e1;by_cases e2:x=z
   .
    rw[gL e2]at h2 ⊢
    exact vV a b c h1 h2
   .
    rw[hU e2]at h2 ⊢
    exact h2
  .
   rw[hU e1]at h1;have h1':=mB h1;by_cases e2:y=z
   . rw[gL e2]at h2;subst e2;rw[hU e1];exact h1
   . rw[hU e2]at h2;have h2':=mB h2;rw[hU ⋯];exact sK ⋯
theorem lH:∀a b:List Int,HT.lexLt a b=false->HT.lexLt b a=false->a=b
 | [],[],_,_=>rfl
 | [],_::_,h,_=>by symm
 |_::_,[],_,h=>by symm
 |x::a,y::b,h1,h2=>by
  rw[HT.dD]at h1 h2;by_cases e:x=y
  . subst e;rw[gL rfl]at h1 h2;rw[lH a b h1 h2]
  .
   rw[hU e]at h1;rw[hU (λz=>e z.symm)]at h2
   have:=of_decide_eq_false h1;have:=of_decide_eq_false h2;lia
def fW:kj (~~~0):=⟨HT.lexLt,rL,vV,lH⟩
section
variable{α:Type}(O:kj α)
noncomputable def Dk(a:α):List α->List α
 | []=>[a]
 |b::l=>if O.lt b a then b::Dk a l else a::b::l
def cO:List α->List α
 | []=>[]
 |a::l=>Dk O a (cO l)
variable{O}
theorem lI(a:α):∀l:List α,(Dk O a l).Perm (a::l)
 | []=>x5 _
 |b::l=>by
  unfold Dk;split
  . exact ((lI a l).cons b).trans (List.Perm.swap a b l)
  . exact x5 _
theorem cK:∀l:List α,(cO O l).Perm l
 | []=>x5 _
 |a::l=>(lI a _).trans ((cK l).cons a)
theorem mJ(a:α):∀{l:List α},l.Pairwise O.le->(Dk O a l).Pairwise O.le
 | [],_=>List.pairwise_singleton _ _
 |b::l,h=>by
  obtain⟨h1,h2⟩:=AB.mp h;unfold Dk;cases e:O.lt b a with
  |true=>
   rw[gL rfl];refine AB.mpr ⟨λx hx=>?_,mJ a h2⟩
   rcases eA.mp ((lI a l).mem_iff.mp hx)with rfl |hx
   . exact kj.le_of_lt e
   . exact h1 x hx
  |false=>
   rw[hU kS];refine AB.mpr ⟨λx hx=>?_,h⟩
   rcases eA.mp hx with rfl |hx
   . exact e
   . exact kj.rJ (show O.le a b from e) (h1 x hx)
theorem gS:∀l:List α,(cO O l).Pairwise O.le
 | []=>List.Pairwise.nil
 |a::l=>mJ a (gS l)
theorem yD(hp:m.Perm l)(hs:m.Pairwise O.le):m=cO O l:=
 (hp.trans (cK l).symm).eq_of_pairwise (λx y _ _ h1 h2=>kj.Af h1 h2) hs (gS l)
theorem eW{β:Type}(ks:List β)(d:β):(List.range ks.length).map (λi=>ks.getD i d)=ks:=by
 refine List.ext_getElem ⋯ λi h1 h2=>?_
 simp[mE h2]
theorem vW(hp:p.Perm (List.range ks.length).toArray)(hr:jm O (λi=>ks.getD i d) p ks.length):p.toList.map (λi=>ks.getD i d)=cO O ks:=by
 have hl:=AY.mp hp;refine yD ((hl.map _).trans (by rw[List.toList_toArray,eW])) ?_
 rw[List.pairwise_iff_getElem];intro i j hi hj hij;have hs:p.size=ks.length:=by rw[hp.size_eq];simp
 rw[fA,oC]at hi hj;have:=hr i j (C0 hij) ⋯;unfold dO at this;have e1:p.getD i 0=p[i]:=by simp[Array.getD,hi]
 have e2:p.getD j 0=p[j]:=by simp[Array.getD,hj]
 rw[e1,e2]at this;simpa using this
end
open L2 PySem.W
section
theorem Hr(hv:IntsAre vs ns):∀{ws:List Value}{ms: ~~~0} (i:Nat),IntsAre ws ms->fin=decide (ns.length<ms.length)->Q (HT.lexLt ns ms) s->KatLex prog w A true fin Q (vs.zip ws) i s:=by
 induction hv with
 |nil=>
  intro ws ms i hu hf h;rw[List.zip_nil_left];refine kat_nil ?_;rw[hf];cases hu with
  |nil=>exact h
  |cons _=>exact h
 |@cons n t vs ns hv ih=>
  intro ws ms i hu hf h;cases hu with
  |nil=>rw[List.zip_nil_right];refine kat_nil ?_;rw[hf];exact h
  |@cons m t' us ms hu=>
   rw[AO];refine kat_cons (wpAny_eqBool_int (kat_go (λe=>?_) (λe=>?_)))
   .
    have e':n=m:=eq_of_beq e;refine kat_yes (ih (i+1) hu (by rw[hf];simp) ?_)
    rw[HT.dD,gL e']at h;exact h
   .
    have e':n≠m:=λq=>by rw[q]at e;simp at e
    rw[HT.dD,hU e']at h;refine kat_no ?_;cases i with
    |zero=>exact oneLt_int h
    |succ i=>exact kat_one _ _ (lt_int h)
def Hs(h:Heap)(v:Value)(ns: ~~~0):Prop:=∃a items,v=.ref a/\IsTup h a items/\IntsAre items.toList ns
theorem Hs.keep(x:Hs h v ns)(k:∀b o,h.get? b=some o->h'.get? b=some o):Hs h' v ns:=let ⟨a,its,e,t,i⟩:=x;⟨a,its,e,t.keeps k,i⟩
inductive TupIs(h:Heap):List Value->List (~~~0)->Prop
 |nil:TupIs h [] []
 |cons {v:Value}{ns: ~~~0}{vs:List Value}{dY: ~~~5}:Hs h v ns->TupIs h vs dY->TupIs h (v::vs) (ns::dY)
theorem TupIs.keep(k:∀b o,h.get? b=some o->h'.get? b=some o)(t:TupIs h vs dY):TupIs h' vs dY:=by
 induction t with
 |nil=>exact .nil
 |cons a b ih=>exact .cons (a.keep k) ih
theorem TupIs.length(t:TupIs h vs dY):vs.length=dY.length:=by
 induction t with
 |nil=>rfl
 |cons a b ih=>exact congrArg (· + 1) ih
theorem TupIs.at(t:TupIs h vs dY)(hi:i<vs.length):Hs h (vs.getD i .none) (dY.getD i []):=by
 induction t generalizing i with
 |nil=>exact absurd hi (BD _)
 |cons a b ih=>cases i with
  |zero=>exact a
  |succ i=>exact ih (AL hi)
theorem TupIs.firsts(t:TupIs h vs dY)(iC:∀ns∈dY,ns≠[]):∃fs:List Value,KatTups h vs fs/\fs.length=vs.length/\∀v∈fs,∃i t,v=.int i t:=by
 induction t with
 |nil=>exact⟨[],.nil,rfl,λ_ z=>nomatch z⟩
 |@cons v ns vs dY a b ih=>
  obtain⟨fs,q1,q2,q3⟩:=ih λns hn=>iC ns (dA _ hn)
  obtain⟨a,items,e,⟨o,e1,e2,n,e3⟩,hi⟩:=a;subst e;obtain⟨items⟩:=items;cases items with
  |nil=>
   cases ns with
   |nil=>exact absurd rfl (iC [] dC)
   |cons _ _=>cases hi
  |cons v items=>
   cases ns with
   |nil=>cases hi
   |cons m ns=>cases hi;exact⟨_::fs,KatTups.cons e1 e2 e3 rfl q1,by rw[l4,l4,q2],λv hv=>(eA.mp hv).elim (λz=>⟨_,_,z⟩) (q3 v)⟩
theorem Dl:Looks M h (typeOf (.int i t)) (.type "int"):=.now
theorem vX(hl:s.heap.IsList l vs.toArray\/IsTup s.heap l vs.toArray)(ht:TupIs s.heap vs dY)(iC:∀ns∈dY,ns≠[])(h64:vs.length<64)
  (h:∀p:List Nat,p.Perm (List.range vs.length)->p.map (λi=>dY.getD i [])=cO fW dY->Q (.ref (s⁻¹+1)) { s with heap:=sortedAll s.heap vs (p.map λi=>vs.getD i Value.none).toArray}) :
  wpAny (model prog w) A (call (.builtin "sorted") [.ref l]) Q E s:=by
 have hz:vs.length<=sizeLine:=by rw[rV];lia
 refine Dj hl hz ?_;have aJ:=ht.length;by_cases h2:vs.length<2
 .
  refine Ho (uc _ _) h2 ⟨rfl,?_⟩;have:=h (List.range vs.length) (x5 _) (by
   rw[aJ,eW]
   match dY,aJ with
   | [],_=>rfl
   | [x],_=>rfl
   |_::_::_,hl2=>rw[hl2,l4,l4]at h2;lia)
  rw[eW]at this;exact this
 .
  have keep:∀b o,s.heap.get? b=some o->(dH { s with heap:=Hq s.heap vs} (s⁻¹+1) vs).heap.get? b=some o:=λb o e=>vR (vU (vs:=vs) e).2 (vU e).1
  have ht':=ht.keep keep;refine Hl (κ:=tuples' true) (O:=fW) (key:=λi=>dY.getD i []) (uc _ _) ⋯ h64 (λQ' hq=>?_) (λi j C hi hj hC=>?_) λp hp hr=>⟨rfl,?_⟩
  . obtain⟨fs,q1,q2,q3⟩:=ht'.firsts iC;exact kat_kind (T:=.type "int") q1 ⋯ (λv hv=>by obtain⟨i,t,rfl⟩:=q3 v hv;exact Dl) ⋯ hq
  . obtain⟨a,its,e,⟨o,e1,e2,n,e3⟩,q⟩:=ht'.at hi;obtain⟨b,kO,e',⟨o2,e4,e5,n2,e6⟩,q'⟩:=ht'.at hj;show wpAny _ _ (keyLt' (tuples' true) (vs.getD i Value.none) (vs.getD j Value.none)) C _ _;rw[e,e'];refine kat_lt e1 e3 e4 e6 (Hr q 0 q' ?_ hC);rw[<- q.length,<- q'.length];simp
  . rw[aJ]at hp hr;exact h p.toList (by rw[aJ];exact (AY.mp hp).trans ⋯) (vW hp hr)
end
section
def kr:List D->Option (~~~5)
 | []=>some []
 |.tup l::ds=>match bq l,kr ds with |some (n::ns),some dY=>some ((n::ns)::dY) |_,_=>none
 |_::_=>none
inductive jt(K:Frag)(H:Hp):List V->List (~~~0)->Prop
 |nil:jt K H [] []
 |cons {a:Addr}{ns: ~~~0}{vs:List V}{dY: ~~~5}:fP K H a (ns.map V.int)->jt K H vs dY->jt K H (.ref a::vs) (ns::dY)
theorem jt.real(I:L2.Inv X ah Y H s)(t:jt X.K H xs dY):∀{its:List Value},Vals xs its->TupIs s.heap its dY:=by
 induction t with
 |nil=>intro its r;cases r;exact .nil
 |cons q _ ih=>
  intro its r;cases r with
  |cons r rs=>cases r;obtain⟨kO,r2,p,_⟩:=I.tuple q;exact .cons ⟨_,_,rfl,p,by simpa using intsAre_of r2⟩ (ih rs)
theorem rM(h:Vals xs us):∀{i:Nat},i<xs.length->RelV (xs.getD i .non) (us.getD i .none):=by
 induction h with
 |nil=>intro i hi;exact absurd hi (BD _)
 |cons r _ ih=>
  intro i hi;cases i with
  |zero=>exact r
  |succ i=>exact ih (by simpa using hi)
theorem rO(h:Vals xs us):∀{p:List Nat},(∀i∈p,i<xs.length)->Vals (p.map λi=>xs.getD i .non) (p.map λi=>us.getD i .none)
 | [],_=>.nil
 |i::p,hp=>.cons (rM h (hp i dC)) (rO h λj hj=>hp j (dA _ hj))
theorem ud:d8 X (.builtin "sorted") (λxs H Q=>∃p ys dY,xs=[.ref p]/\(cz X.K H p ys\/fP X.K H p ys)/\jt X.K H ys dY/\(∀ns∈dY,ns≠[])/\ys.length<64/\
  ∀q (o:List Nat),H q=none->(∀i∈o,i<ys.length)->o.map (λi=>dY.getD i [])=cO fW dY->Q (.ref q) (upd H q (.lst (o.map λi=>ys.getD i .non)))):=by
 intro ah s Y H xs us Q I r h;obtain⟨p,ys,dY,rfl,hq,ht,iC,hl,q⟩:=h;obtain⟨u,rfl,rx⟩:=vals1 r;cases rx;have fin:∀its:List Value,Vals ys its->(s.heap.IsList p its.toArray\/IsTup s.heap p its.toArray)->wpAny (~~~2) X.A (call (.builtin "sorted") [.ref p]) (EP X ah Y Q) X.xe s:=λits r' pl=>by
  have aJ:=r'.length;refine vX pl (ht.real I r') iC ⋯ λo ho hs=>?_
  obtain⟨ep,he⟩:=sortedAll_at s.heap its (o.map λi=>its.getD i Value.none).toArray
  have hin:∀i∈o,i<ys.length:=λi hi=>by rw[aJ];exact wE.mp (ho.mem_iff.mp hi)
  have hol:o.length=ys.length:=by rw[ho.length_eq,List.length_range,aJ]
  refine⟨.ref (s⁻¹+1),_,I.laid (t':=s.toks) (o:=.lst (o.map λi=>ys.getD i .non)) (λb ob e=>sortedAll_old e) (B2 _) ?_,rfl,q _ o (I.hok.fresh (B2 _)) hin hs⟩
  refine⟨by rw[fA,rV];lia,_,ep,rO r' hin,he⟩
 rcases hq with hq |hq
 . obtain⟨its,r',pl,hz⟩:=I.list hq;exact fin its r' (.inl pl.isList)
 . obtain⟨its,r',pl,hz⟩:=I.tuple hq;exact fin its r' (.inr pl)
theorem MF(e:bq l=some ns):l=ns.map .int:=by
 induction l generalizing ns with
 |nil=>cases e;rfl
 |cons d l ih=>cases d with
  |int i=>
   have e:(match bq l with |some ns=>some (i::ns) |none=>none)=some ns:=e
   cases e2:bq l with
   |none=>rw[e2]at e;cases e
   |some ms=>rw[e2]at e;cases e;rw[List.map_cons,<- ih e2]
  |_=>cases e
theorem rP{K:Frag}{M:List Addr}{H:Hp}{l:List D}{xs:List V}{dY: ~~~5}(q:aH K M H l xs)(e:kr l=some dY):jt K H xs dY/\(∀ns∈dY,ns≠[])/\l=dY.map λns=>.tup (ns.map .int):=by
 induction l generalizing xs dY with
 |nil=>cases q;cases e;exact⟨.nil,λ_ z=>(nomatch z),rfl⟩
 |cons d l ih=>cases q with |cons r q=>cases d with
  |tup m=>
   unfold kr at e;split at e
   .
    rename_i n ns dY e1 e2;cases e;obtain⟨t1,t2,t3⟩:=ih q e2;cases r with
    |tup ha rr=>
     have:=bG rr e1;subst this;refine⟨.cons ha.sq t1,λx hx=>(eA.mp hx).elim (λz=>by rw[z];exact List.cons_ne_nil _ _) (t2 x),?_⟩
     rw[List.map_cons,<- t3,MF e1]
   . cases e
  |_=>cases e
theorem aH.pick{K:Frag}{M:List Addr}{H:Hp}{ds:List D}{vs:List V}(h:aH K M H ds vs):∀{o:List Nat},(∀i∈o,i<vs.length)->aH K M H (o.map λi=>ds.getD i .non) (o.map λi=>vs.getD i .non)
 | [],_=>.nil
 |i::o,ho=>by
  refine .cons ?_ (h.pick λj hj=>ho j (dA _ hj))
  have hi:=ho i dC;have hd:i<ds.length:=by rw[h.length];exact hi
  obtain⟨v,e1,e2⟩:=h.get (i:=i) (d:=ds[i]) (by simp[hd])
  have q1:ds.getD i .non=ds[i]:=by simp[hd]
  have q2:vs.getD i .non=v:=by rw[i9,e1];rfl
  show Rep K M H (ds.getD i .non) (vs.getD i .non);rw[q1,q2];exact e2
theorem yE{d:D}{l:List D}{dY: ~~~5}(hK:z.K=X.K)(h:dm d=some l)(hi:kr l=some dY)(hl:dY.length<64):CallD X z (.builtin "sorted") [d] (.new ((cO fW dY).map λns=>.tup (ns.map .int))):=by
 refine⟨_,ud,λg Y As M H vs Q s p k=>?_⟩
 obtain⟨v,rfl,pv⟩:=p.one;have main:∀(a:Addr) (xs:List V),aH z.K M H l xs->(cz X.K H a xs\/fP X.K H a xs)->∃p ys dY,[V.ref a]=[.ref p]/\(cz X.K H p ys\/fP X.K H p ys)/\jt X.K H ys dY/\(∀ns∈dY,ns≠[])/\ys.length<64/\
   ∀q (o:List Nat),H q=none->(∀i∈o,i<ys.length)->o.map (λi=>dY.getD i [])=cO fW dY->Q (.ref q) (upd H q (.lst (o.map λi=>ys.getD i .non))):=λa xs rr hq=>by
  obtain⟨t1,t2,t3⟩:=rP rr hi;have aJ:xs.length=dY.length:=by rw[<- rr.length,t3,fA]
  refine⟨a,xs,dY,rfl,hq,hK▸t1,t2,by lia,λq o hf hin hs=>?_⟩
  have e:((cO fW dY).map λns=>D.tup (ns.map .int))=o.map λi=>l.getD i .non:=by
   rw[<- hs,List.map_map];refine o6 λi hi=>?_
   have:i<dY.length:=by rw[<- aJ];exact hin i hi
   rw[t3];simp[this]
  have rr':=(rr.pick hin).stay (ao.aY (o:=.lst (o.map λi=>xs.getD i .non)) hf)
  refine k _ _ As (q::M) (s.aY hf) (ao.aY hf) ⟨q,_,rfl,dC,λhA=>s.fresh hf (s.sub q hA),s.cS hf,aE,?_⟩
  rw[e];exact rr'
 cases d with
 |lst m=>symm;obtain⟨a,xs,rfl,e1,e2⟩:=pv.list;exact main a xs e2 (.inl (cz.of e1))
 |tup m=>symm;obtain⟨a,xs,rfl,e1,e2⟩:=pv.tup;exact main a xs e2 (.inr (hK▸e1.sq))
 |fix m=>symm;obtain⟨a,xs,rfl,e1,e2⟩:=pv.fix;exact main a xs e2 (.inl (hK▸e1.sq))
 |_=>symm
end
open L2 PySem.W
noncomputable def jD(n:Int): ~~~0->Int
 | []=>n
 |m::l=>jD (if m<n then m else n) l
theorem Aj:∀(l: ~~~0) (n:Int),jD n l<=n/\(∀x∈l,jD n l<=x)/\(jD n l=n\/jD n l∈l)
 | [],n=>⟨Int.le_refl _,λ_ z=>(nomatch z),.inl rfl⟩
 |m::l,n=>by
  obtain⟨h1,h2,h3⟩:=Aj l (if m<n then m else n)
  unfold jD;refine⟨?_,λx hx=>?_,?_⟩
  . split at h1 <;> split <;> lia
  .
   rcases eA.mp hx with rfl |hx
   . split at h1 <;> split <;> lia
   . exact h2 x hx
  .
   rcases h3 with h3 |h3
   .
    by_cases hm:m<n
    . rw[gL hm]at h3 ⊢;exact .inr (by rw[h3];exact dC)
    . rw[hU hm]at h3 ⊢;exact .inl h3
   . exact .inr (dA _ h3)
theorem Ht(n:Int)(l: ~~~0):(n::l).getD (argBest (λi j=>decide ((n::l).getD i 0<(n::l).getD j 0)) l.length) 0=jD n l:=by
 obtain⟨h1,h2⟩:=argBest_lt (λi=>(n::l).getD i 0) l.length
 obtain⟨m1,m2,m3⟩:=Aj l n;generalize argBest (λi j=>decide ((n::l).getD i 0<(n::l).getD j 0)) l.length=k at h1 h2 ⊢
 have hmem:(n::l).getD k 0∈n::l:=by
  have:k<(n::l).length:=by rw[l4];lia
  rw[i9,mE this];exact Co _
 have a:jD n l<=(n::l).getD k 0:=by
  rcases eA.mp hmem with e |e
  . rw[e];exact m1
  . exact m2 _ e
 have b:(n::l).getD k 0<=jD n l:=by
  have:jD n l∈n::l:=m3.elim (λe=>by rw[e];exact dC) (dA _)
  obtain⟨j,hj,e⟩:=List.getElem_of_mem this;have q:=h2 j (by rw[l4]at hj;lia)
  rw[show (n::l).getD j 0=jD n l by rw[i9,mE hj];exact e]at q
  exact q
 lia
section
variable{X:Cx}{z:Z}
theorem rQ{h h':Heap}{o:Obj}(hk:∀b ob,b∉[h.objs.size]->(h.push o).get? b=some ob->h'.get? b=some ob):∀b ob,h.get? b=some ob->h'.get? b=some ob:=λb ob e=>
 hk b ob (λhm=>by
  have:b=h.objs.size:=by simpa using hm
  exact absurd (eQ e) (by rw[this];exact nE _)) (bP _ e)
theorem Dm(hc:X.calm=true):d8 X (.builtin "min") (λxs H Q=>∃(p:Addr) (n:Int) (l: ~~~0),xs=[.ref p]/\(cz X.K H p ((n::l).map V.int)\/fP X.K H p ((n::l).map V.int))/\Q (.int (jD n l)) H):=by
 intro ah s Y H xs us Q I r h;obtain⟨p,n,l,rfl,hp,q⟩:=h;obtain⟨u,rfl,rx⟩:=vals1 r;cases rx;have hh:X.A.in1.handled=none:=I.ok.hd hc;have fin:∀(its:List Value) (v:Value) (h':Heap) (tk:Nat),Vals ((n::l).map V.int) its->its[argBest (λi j=>decide ((n::l).getD i 0<(n::l).getD j 0)) (its.length - 1)]?=some v->(∀b o,s.heap.get? b=some o->h'.get? b=some o)->EP X ah Y Q v { s with heap:=h',toks:=tk}:=by
  intro its v h' tk rv hv hk;have aJ:its.length=l.length+1:=by rw[<- rv.length,fA,l4]
  rw[aJ,Nat.add_sub_cancel]at hv;obtain⟨t,rfl⟩:=tY rv hv;exact⟨.int (jD n l),H,I.kept hk,⟨t,by rw[Ht]⟩,q⟩
 rcases hp with hp |hp
 .
  obtain⟨its,rv,pl,hz⟩:=I.list hp;have hlt:p<s⁻¹:=by obtain⟨_,e,_⟩:=pl.isList;exact eQ e
  refine call_min_walk (AU pl.isList ?_);refine⟨s⁻¹,_,_,_,_,_,_,rfl,Walks.list (A:=X.A.in1) hh s⁻¹ p (i7 hlt) its.toArray,⟨⟨_,eM _ rfl,rfl,rfl⟩,pl.isList.push _⟩,λb hb=>?_,by rw[dE,<- rv.length,fA];exact Nat.succ_pos _,CmpOf.ints_lt (λi=>(n::l).getD i 0) (λi v hv=>tY rv (by simpa using hv)),λv h' tk hP hk=>fin its v h' tk rv (by simpa using hP) (rQ hk)⟩
  simp only[eA,l5,xL]at hb;rcases hb with rfl |rfl
  . exact BM (mP _) (sR _ _).symm
  . exact BM (AV hlt) (sR _ _).symm
 .
  obtain⟨its,rv,pl,hz⟩:=I.tuple hp;have hlt:p<s⁻¹:=by obtain⟨_,e,_⟩:=pl;exact eQ e
  have YG:s.heap.IsTuple p its.toArray:=pl;refine call_min_walk (AM YG ?_);refine⟨s⁻¹,_,_,_,_,_,_,rfl,Walks.tuple (A:=X.A.in1) hh s⁻¹ p (i7 hlt) its.toArray,⟨⟨_,eM _ rfl,rfl,rfl⟩,IsTup.keeps YG λb o e=>bP _ e⟩,λb hb=>?_,by rw[dE,<- rv.length,fA];exact Nat.succ_pos _,CmpOf.ints_lt (λi=>(n::l).getD i 0) (λi v hv=>tY rv (by simpa using hv)),λv h' tk hP hk=>fin its v h' tk rv (by simpa using hP) (rQ hk)⟩
  simp only[eA,l5,xL]at hb;rcases hb with rfl |rfl
  . exact BM (mP _) (sR _ _).symm
  . exact BM (AV hlt) (sR _ _).symm
theorem Hu(hK:z.K=X.K)(h:dm d=some l)(hi:bq l=some ns)(pv:Pk z.K M H d v):∃a,v=.ref a/\(cz X.K H a (ns.map V.int)\/fP X.K H a (ns.map V.int)):=by
 cases d with
 |lst m=>symm;obtain⟨a,xs,rfl,e1,e2⟩:=pv.list;have:=bG e2 hi;subst this;exact⟨a,rfl,.inl (cz.of e1)⟩
 |tup m=>symm;obtain⟨a,xs,rfl,e1,e2⟩:=pv.tup;have:=bG e2 hi;subst this;exact⟨a,rfl,.inr (hK▸e1.sq)⟩
 |fix m=>symm;obtain⟨a,xs,rfl,e1,e2⟩:=pv.fix;have:=bG e2 hi;subst this;exact⟨a,rfl,.inl (hK▸e1.sq)⟩
 |_=>symm
theorem MJ(hc:X.calm=true)(hK:z.K=X.K)(h:dm d=some l)(hi:bq l=some (n::ns)):CallD X z (.builtin "min") [d] (.dat (.int (jD n ns))):=by
 refine⟨_,Dm hc,λg Y As M H vs Q s p k=>?_⟩
 obtain⟨v,rfl,pv⟩:=p.one;obtain⟨a,rfl,q⟩:=Hu hK h hi pv;exact⟨a,n,ns,rfl,q,k _ _ As M s (ao.refl _ _) (.int _)⟩
end
open L2 PySem.W
open L2 PySem.W SeqAt
open L2 PySem.W SeqAt
open L2 PySem.W SeqAt
open L2 PySem.W SeqAt
noncomputable def Its(lo c:Int)(n:Nat):It:=⟨λi _=>i<n,λi H x H'=>H'=H/\x=.int (lo+i * c),λi _=>n<=i⟩
theorem Dn{P:Program}{w:World}{K:Frag}{tg:Expr}(it:Addr)(lo c:Int)(n:Nat):Turn P w K tg (Its lo c n) [it] it (λi h=>IsRangeIter h it (lo+(i:Nat) * c) ((n:Int) - (i:Nat)) c) where
 mem:=by simp
 obj:=λi h st b hb=>by
  cases hV.mp hb;exact⟨_,st,λv z=>nomatch (show Data.fields _=Data.cell v from z)⟩
 keep:=λi h h' st k=>k it ⋯ _ st
 item:=by
  intro X hP hw hK hc i ah s Y H E I hf st hg;subst hP hw hK;obtain⟨f0,f1,f2,f3,f4,f5⟩:=hf it ⋯;refine (Walks.range (prog:=X.prog) (w:=X.w) (I.ok.hd hc) it lo c n).item i s _ _ hg st λv h' tk hv st' kk=>?_
  obtain⟨t,rfl⟩:=hv;refine⟨_,rfl,zS (s:={ s with heap:=h',toks:=tk}) (n:= "range_iterator") st' rfl rfl ⋯ ⟨.int (lo+i * c),H,?_,⟨t,rfl⟩,⟨rfl,rfl⟩,st',λb hb=>(hf b hb).1⟩⟩
  exact I.turned (λb o hb e=>kk b o (by simpa using hb) e) f0 f1 f3 f4 f5
 done:=by intro X hP hw hK hc i ah s Y H E I hf st hg;subst hP hw hK;obtain⟨f0,f1,f2,f3,f4,f5⟩:=hf it ⋯;exact wpAny_pyNext_range_end (I.ok.hd hc) st (by have:n<=i:=hg;lia) λh' eb=>⟨rfl,I.turned (t':=s.toks) (λb o hb e=>eb b o hb e) f0 f1 f3 f4 f5⟩
 self:=λ_ _ _ _ _ st h=>wpAny_pyIter_rangeiter st h
noncomputable def qI(lo c:Int)(n:Nat):List D:=(List.range n).map λ(k:Nat)=>D.int (lo+(k:Int) * c)
theorem vY(lo c:Int)(n:Nat):(qI lo c n).length=n:=by simp[qI]
theorem Hv{lo c:Int}{n k:Nat}(h:k<n):(qI lo c n)[k]?=some (.int (lo+(k:Int) * c)):=by simp[qI,h]
theorem T6{lo c:Int}{n:Nat}{K:Frag}{M:List Addr}{H:Hp}:Jt (Its lo c n) (qI lo c n) K M H:=λM2 H2 _=>by
 refine⟨λk d hd=>?_,?_⟩
 .
  have hk:k<n:=by have:=(dL.mp hd).1;rw[vY]at this;exact this
  rw[Hv hk]at hd;cases hd;refine⟨hk,λx H' hx z' g' σ' aB _ s'=>?_⟩
  obtain⟨rfl,rfl⟩:=hx;exact⟨s',ao.refl _ _,.int _⟩
 . show n<=(qI lo c n).length;rw[vY];exact eC _
noncomputable def lJ(lo hi c:Int):Nat:=if lo<hi then ((hi - lo - 1) / c+1).toNat else 0
theorem Ak{lo hi c:Int}(hc:0<c):Builtin.Range.rangeSize lo hi c=(lJ lo hi c:Int):=by
 unfold Builtin.Range.rangeSize lJ;rw[gL hc];split
 . have:0<=(hi - lo - 1) / c:=Int.ediv_nonneg ⋯ ⋯;lia
 . rfl
theorem yF{a b c:Int}(h1 : -(2 ^ 30)<=a/\a<2 ^ 30)(h2 : -(2 ^ 30)<=b/\b<2 ^ 30)(h3:0<c/\c<2 ^ 30):Builtin.Range.small a b c=true:=by
 have hn:=Ak (lo:=a) (hi:=b) h3.1;unfold Builtin.Range.small;rw[hn];have hb:(lJ a b c:Int)<=2 ^ 31+1:=by
  unfold lJ;split
  . have:(b - a - 1) / c<=b - a - 1:=Int.ediv_le_self _ ⋯;lia
  . decide
 have hm:(lJ a b c:Int) * c<=(2 ^ 31+1) * 2 ^ 30:=Int.mul_le_mul hb ⋯ ⋯ ⋯;have hm0:0<=(lJ a b c:Int) * c:=Int.mul_nonneg ⋯ ⋯;have hc0:c > 0:=h3.1;simp only[Builtin.Range.rangeFitsLong,d5,y8,eR,beq_iff_eq,hc0,An];lia
section
theorem dU.of (h:∀(ah: ~~~1) (s:Shared) (Y:Sg) (As M:List Addr) (H:Hp) (Post:Value->Shared->Prop),L2.Inv X ah Y H s->S z g Y As M H->
  (∀v s1,(∀(R:It->Hp->Prop),(∀J H' aB M',S z g1 Y aB M' H'->ao M H M' H'->Jt J items z.K M' H'->R J H')->wpAny (~~~2) X.A (pyIter v) (PIE X ah Y tg R) X.xe s1)->Post v s1)->wpAny (~~~2) X.A (eval iter X.env) Post X.xe s):dU X z tg iter g items g1:=
 ⟨λY H R=>∃As M,S z g Y As M H/\(∀J H' aB M',S z g1 Y aB M' H'->ao M H M' H'->Jt J items z.K M' H'->R J H'),λah s Y H R I ⟨As,M,st,k⟩=>h ah s Y As M H _ I st λv s1 q=>q R k,λY As M H R s k=>⟨As,M,s,k⟩⟩
theorem MK{lo hi st:Int}(h:cQ X z [a,b,c] g [‹lo›,‹hi›,‹st›] g1)(hg:Gl X "range")(hm:X.mg "range"=none)(hs:starEach [a,b,c] X.env=(false,eval a X.env)::starEach [b,c] X.env)(g8:(backTo rp (starEach [b,c] X.env)).any (·.1)=false)
  (h1 : -(2 ^ 30)<=lo/\lo<2 ^ 30) (h2 : -(2 ^ 30)<=hi/\hi<2 ^ 30) (h3:0<st/\st<2 ^ 30):dU X z tg (.Call (.Name "range" p) [a,b,c] [] rp) g (qI lo st (lJ lo hi st)) g1:=by
 refine dU.of λah s Y As M H Post I stt k=>?_
 refine Call_ (gP I hg hm boot_range (nN (h.run I stt λvs us s1 H1 aL M1 I1 r1 q1 q2 q3=>?_) hs g8))
 cases q3 with
 |dat r R=>
  cases R with
  |dat r' R=>
   cases R with
   |dat r'' R=>
    cases R;cases r;cases r';cases r'';cases r1 with
    |cons r rr=>
     cases rr with
     |cons r' rr=>
      cases rr with
      |cons r'' rr=>
       cases rr;obtain⟨t,rfl⟩:=r;obtain⟨t',rfl⟩:=r';obtain⟨t'',rfl⟩:=r'';refine call_range_3 ⋯ (k _ _ λR kR=>?_) (.inl (PyProof.noPylong_small ⋯))
       refine wpAny_pyIter_range (IsRange.new ..) (yF h1 h2 h3) ?_;generalize hh:s1.heap.push { cls:=.type "range",data:=.fields #[.int lo t,.int hi t',.int st t'']}=hp;have I2:L2.Inv X ah Y H1 { s1 with heap:=hp}:=I1.kept λb o e=>hh▸bP _ e
       refine⟨hp.objs.size,[hp.objs.size],_,Its lo st (lJ lo hi st),H1,rfl,I2.kept (t':=s1.toks) λb o e=>bP _ e,Dn _ lo st _,?_,λb hb=>?_,kR _ H1 aL M1 q1 q2 T6⟩
       .
        show IsRangeIter _ _ (lo+((0:Nat):Int) * st) (((lJ lo hi st:Nat):Int) - ((0:Nat):Int)) st;rw[show lo+((0:Nat):Int) * st=lo by simp,show ((lJ lo hi st:Nat):Int) - ((0:Nat):Int)=Builtin.Range.rangeSize lo hi st by rw[Ak h3.1];simp]
        exact eM _ rfl
       . cases hV.mp hb;exact I2.BP (eC _) (I2.hok.fresh (eC _))
end
open L2 PySem.W SeqAt
section
theorem yG(hit:s.heap.IsTupleIter it t i)(ht:s.heap.IsTuple t items)(hx:items[i]?=some x)(hQ:∀h',h'.IsTupleIter it t (i+1)->Heap.SameBut it s.heap h'->Q x { s with heap:=h'}):wpAny (model prog w) A (Builtin.SmallTypes.nextOf (.ref it)) Q E s:=by
 obtain⟨o,ho,hc,hd⟩:=id hit;obtain⟨ol,hol,_,nl,hdl⟩:=ht;unfold Builtin.SmallTypes.nextOf;refine aS (pV (name:=Str.ofString "__next__") hit.typeIs At (v6 At hit.typeIs F.entry_tuple_iterator_next ?_ (F.args_tuple_iterator_next_1 _)));show wpAny _ _ (field (.ref it) 0 >>= _) _ _ s;refine aS (mI ho hd (x:=.ref t) rfl ?_);show wpAny _ _ (if (Value.ref t==Value.none)=true then _ else _) _ _ s
 rw[hU (show ¬ ((Value.ref t==Value.none)=true)from kS)]
 show wpAny _ _ (field (.ref it) 1 >>= _) _ _ s;refine aS (mI ho hd (x:=.int i 0) rfl ?_);show wpAny _ _ (seqItems? (.ref t) >>= _) _ _ s;refine aS (t8 hol hdl ?_);simp only[AX,hx];refine aS (A5 ho hd ⋯ (dS ⟨x,rfl,dS (hQ _ ⟨_,oP _ ho (AC (wT hd _)),(Obj.cls_mapFields ..).trans hc,?_⟩ (Heap.SameBut.update ..))⟩));rw[wT hd];simp[rawInt]
theorem qJ(hh:A.handled=none)(hit:s.heap.IsTupleIter it t i)(ht:s.heap.IsTuple t items)(hx:items[i]?=none)
  (hE:∀h' e,Heap.ExtBut it s.heap h'->(∃o,h'.get? e=some o/\o.cls=.type "StopIteration")->E (.ref e) { s with heap:=h'}):wpAny (model prog w) A (Builtin.SmallTypes.nextOf (.ref it)) Q E s:=by
 obtain⟨o,ho,hc,hd⟩:=id hit;obtain⟨ol,hol,_,nl,hdl⟩:=ht;unfold Builtin.SmallTypes.nextOf;refine aS (pV (name:=Str.ofString "__next__") hit.typeIs At (v6 At hit.typeIs F.entry_tuple_iterator_next ?_ (F.args_tuple_iterator_next_1 _)));show wpAny _ _ (field (.ref it) 0 >>= _) _ _ s;refine aS (mI ho hd (x:=.ref t) rfl ?_);show wpAny _ _ (if (Value.ref t==Value.none)=true then _ else _) _ _ s
 rw[hU (show ¬ ((Value.ref t==Value.none)=true)from kS)]
 show wpAny _ _ (field (.ref it) 1 >>= _) _ _ s;refine aS (mI ho hd (x:=.int i 0) rfl ?_);show wpAny _ _ (seqItems? (.ref t) >>= _) _ _ s;refine aS (t8 hol hdl ?_);simp only[AX,hx];refine aS (CI (aS (A5 ho hd ⋯ ?_)));show wpAny _ _ (newExc (.type "StopIteration") [] >>= _) _ _ _;refine aS ?_;simp only[newExc,newTuple];refine aS (l9 (aS (m:=firstArgMember _ _) (wpAny_of_eq (a:=Value.none) (by first |rfl | (simp only[firstArgMember];rfl)) (l9 ?_ (by size_fits)))) (by size_fits))
 simp only[raiseNew];refine aS (wpAny_handled ?_)
 first |rw[show A.in1.handled=none from hh] |rw[hh]
 exact aS (dS (wpAny_throw (hE _ _ (((Heap.SameBut.update ..).extBut.push _).push _) ⟨_,eM _ rfl,rfl⟩)))
theorem T7(hh:A.handled=none)(it t:Addr)(iC:t≠it)(items:Array Value):Draws prog w A it [it,t] items.size (λi v=>items[i]?=some v) (λi h=>h.IsTupleIter it t i/\h.IsTuple t items) where
 live:=λ_ _ st=>let ⟨o,ho,_⟩:=st.1;⟨o,ho⟩
 frame:=λ_ _ _ st hk=>by
  obtain⟨⟨o,ho,r⟩,⟨o',ho',r'⟩⟩:=st;exact⟨⟨o,hk it ⋯ o ho,r⟩,⟨o',hk t ⋯ o' ho',r'⟩⟩
 item:=λi s Q E hi st hQ=>yG st.1 st.2 (x:=items[i]) (by simp[hi]) λh' hit' hs'=>hQ _ h' s.toks (by simp[hi]) ⟨hit',IsTup.extBut st.2 hs'.extBut iC⟩ hs'
 done:=λs Q E st hE=>qJ hh st.1 st.2 ⋯ hE
end
open L2 PySem.W SeqAt
def rR(tp:Bool)(K:Frag)(H:Hp)(a:Addr)(xs:List V):Prop:=match tp with |true=>fP K H a xs |false=>cz K H a xs
def J9(tp:Bool)(h:Heap)(it a:Addr)(i:Nat):Prop:=match tp with |true=>h.IsTupleIter it a i |false=>h.IsListIter it a i
def AtX(tp:Bool)(h:Heap)(a:Addr)(its:List Value):Prop:=match tp with |true=>h.IsTuple a its.toArray |false=>h.IsList a its.toArray
section
theorem rR.real(I:L2.Inv X ah Y H s)(h:rR tp X.K H a xs):∃its:List Value,Vals xs its/\AtX tp s.heap a its/\xs.length<=sizeLine:=by
 cases tp with
 |true=>exact I.tuple h
 |false=>obtain⟨its,r,pl,hz⟩:=I.list h;exact⟨its,r,pl.isList,hz⟩
theorem rR.inj(I:L2.Inv X ah Y H s)(h:rR tp X.K H a xs)(h':rR tp X.K H a ys):xs=ys:=by
 cases tp with
 |true=>exact I.qV h h'
 |false=>exact I.vo h h'
theorem J9.obj(x:J9 tp h it a i):∃o vs,h.get? it=some o/\o.data=.fields vs:=by
 cases tp with
 |true=>obtain⟨o,e,_,d⟩:=(show h.IsTupleIter it a i from x);exact⟨o,_,e,d⟩
 |false=>obtain⟨o,e,_,d⟩:=(show h.IsListIter it a i from x);exact⟨o,_,e,d⟩
theorem J9.keep(x:J9 tp h it a i)(k:∀o,h.get? it=some o->h'.get? it=some o):J9 tp h' it a i:=by
 cases tp with
 |true=>obtain⟨o,e,d⟩:=(show h.IsTupleIter it a i from x);exact⟨o,k o e,d⟩
 |false=>obtain⟨o,e,d⟩:=(show h.IsListIter it a i from x);exact⟨o,k o e,d⟩
theorem uf(hh:A.handled=none)(iC:a≠it)(its:List Value):Draws prog w A it [it,a] its.length (λi v=>its[i]?=some v) (λi h=>J9 tp h it a i/\AtX tp h a its):=by
 cases tp with
 |true=>have:=T7 (prog:=prog) (w:=w) hh it a iC its.toArray;simp only[dE,List.getElem?_toArray]at this;exact this
 |false=>have:=Draws.list (prog:=prog) (w:=w) hh it a iC its.toArray;simp only[dE,List.getElem?_toArray]at this;exact this
end
open L2 PySem.W SeqAt
section
theorem T8(hc:X.calm=true)(hN:X.N.Nodup)(hi:X.N[i]?=some x)(hj:X.N[j]?=some y)(hij:i≠j)(hx:X.env.scope.names.lookup x=some .local)(hy:X.env.scope.names.lookup y=some .local)
  (ha:cQ X z [a,b] g [.dat d1,.dat d2] g1) (hbi:i∉z.bor) (hbj:j∉z.bor) (hw:swappedStores [.Tuple [.Name x px,.Name y py] kt pt] (.Tuple [a,b] k2 J3) X.env=pure (some [x,y])) (hs:swapsWithSole [.Tuple [.Name x px,.Name y py] kt pt] (.Tuple [a,b] k2 J3) pos.line X.env=pure false) :
  fJ X z (.Assign [.Tuple [.Name x px,.Name y py] kt pt] (.Tuple [a,b] k2 J3) pos) g .nx ((g1.set i (.dat d1)).set j (.dat d2)):=by
 obtain⟨t,q,k⟩:=ha;refine⟨_,Q7 hc hN hi hj hij hx hy q hw hs,λY As M H E s kk=>k Y As M H _ s λvs H' aB M' s' st R=>?_⟩
 cases R with
 |dat r R=>
  cases R with
  |dat r' R=>cases R;obtain⟨bx,s2⟩:=s'.gQ (i:=i) hbi r;obtain⟨mF,s3⟩:=s2.gQ (i:=j) hbj r';exact⟨_,_,rfl,kk _ mF M' H' s3 st⟩
theorem Dp(hc:X.calm=true)(hK:z.K=X.K)(hN:X.N[i]?=some x)(hv:uW X.env.scope x)(hd:(x==(~~~3))=false)(bN:(x==("__classdict__":Str))=false)
  (hN2:X.N[j]?=some y) (hv2:uW X.env.scope y) (hd2:(y==(~~~3))=false) (T9:(y==("__classdict__":Str))=false)
  (h:aA X z e g (.dat (.tup [d1,d2])) g1) (yu:g1[i]?=some (.own l0)) (h2:aA X z ix g1 ‹n1› g2) (Ys:g2[i]?=some (.own l)) (hj:nq l.length n1=some m1)
  (hg3:(g2.set i (.own (l.set m1 d1)))[j]?=some (.own l1)) (h3:aA X z YH (g2.set i (.own (l.set m1 d1))) ‹n2› g3) (hg4:g3[j]?=some (.own l2)) (hj2:nq l2.length n2=some m2)
  (ha:∀v,assign (.Subscript (.Name x pn) ix dw) X.env v=(do
   let ov <- holding [v] (eval (.Name x pn) X.env)
   let iv <- holding [v,ov] (eval ix X.env)
   standAt dw
   holding [v,ov,iv] (setItem ov iv v)
   release [v,ov,iv] []))
  (ha2:∀v,assign (.Subscript (.Name y WK) YH rS) X.env v=(do
   let ov <- holding [v] (eval (.Name y WK) X.env)
   let iv <- holding [v,ov] (eval YH X.env)
   standAt rS
   holding [v,ov,iv] (setItem ov iv v)
   release [v,ov,iv] []))
  (hs:swapsWithSole [.Tuple [.Subscript (.Name x pn) ix dw,.Subscript (.Name y WK) YH rS] kt pt] e pos.line X.env=pure false) (hw:swappedStores [.Tuple [.Subscript (.Name x pn) ix dw,.Subscript (.Name y WK) YH rS] kt pt] e X.env=pure none) :
  fJ X z (.Assign [.Tuple [.Subscript (.Name x pn) ix dw,.Subscript (.Name y WK) YH rS] kt pt] e pos) g .nx (g3.set j (.own (l2.set m2 d2))):=by
 obtain⟨t,q,k⟩:=h;obtain⟨t2,q2,YJ⟩:=h2;obtain⟨t3,q3,k3⟩:=h3;refine⟨_,yc q (FH (n:=2) hc (nY (x9 (gJ hN hv hd bN) q2 set_list ha) (nY (x9 (gJ hN2 hv2 hd2 T9) q3 set_list ha2) zR rfl) rfl) rfl rfl) hs hw rfl,λY As M H E s kE=>k Y As M H _ s λv H1 aL M1 s1 cP R1=>?_⟩
 have R1':Rep z.K M1 H1 (.tup [d1,d2]) v:=R1;cases R1' with
 |@tup _ a xs ha rr=>
  cases rr with
  |@cons _ _ v1 _ r1 rr=>
   cases rr with
   |@cons _ _ v2 _ r2 rr=>
    cases rr;refine⟨a,_,rfl,hK▸ha.sq,rfl,v1,_,rfl,?_⟩;obtain⟨p,ys,e1,e2,e3,e4⟩:=s1.sl.at yu;refine⟨.ref p,e1,YJ Y aL M1 H1 _ s1 λw H2 bx M2 s2 aK R2=>?_⟩
    obtain⟨p',ys',f1,f2,f3,f4⟩:=s2.sl.at Ys;rw[e1]at f1;injection f1 with f1;injection f1 with f1;injection f1 with f1;subst f1;have R2':Rep z.K M2 H2 (.int n1) w:=R2;cases R2';refine⟨p,ys',n1,m1,rfl,rfl,f3,by rw[<- f4.length];exact hj,?_⟩
    obtain⟨s3,eE⟩:=s2.write Ys e1 (aH.set (Rep.stay aK r1) m1 f4);refine⟨v2,[],rfl,?_⟩;obtain⟨p2,zs,e5,e6,e7,e8⟩:=s3.sl.at hg3;refine⟨.ref p2,e5,k3 Y bx M2 _ _ s3 λw' H4 iK M4 s4 uZ R4=>?_⟩
    obtain⟨p2',zs',f5,f6,f7,f8⟩:=s4.sl.at hg4;rw[e5]at f5;injection f5 with f5;injection f5 with f5;injection f5 with f5;subst f5;have R4':Rep z.K M4 H4 (.int n2) w':=R4;cases R4';refine⟨p2,zs',n2,m2,rfl,rfl,f7,by rw[<- f8.length];exact hj2,?_⟩
    obtain⟨s5,jW⟩:=s4.write hg4 e5 (aH.set (Rep.stay (aK.trans (eE.trans uZ)) r2) m2 f8);exact⟨rfl,kE Y iK M4 _ s5 (cP.trans (aK.trans (eE.trans (uZ.trans jW))))⟩
end
end Ev
namespace HT
open PySem PyProof.Rows
section
theorem yH(n:Nat):Builtin.Slice.sliceAdjust none none (-1) (n:Int)=((n:Int) - 1,-1):=rfl
theorem yI(n:Nat):Builtin.Slice.slicePlaces ((n:Int) - 1) (-1) (-1)=n:=by
 unfold Builtin.Slice.slicePlaces;rw[hU ⋯,show (- -1:Int)=1 from by decide,Int.ediv_one]
 split <;> lia
theorem lK{sl:Addr}{vs:Value}{n:Nat}{Q:Int×Int×Nat->Shared->Prop}(hs:s.heap.IsSliceOf sl .none .none vs)(ps:IsPart vs (some (-1)))
  (h:Q ((n:Int) - 1,-1,n) s):wpAny (model prog w) A (Builtin.Slice.sliceApplied (.ref sl) (pure (n:Int))) Q E s:=by
 obtain⟨os,hos,hcs,hds⟩:=id hs;unfold Builtin.Slice.sliceApplied Builtin.Slice.sliceFields;refine aS (aS (mI hos hds (x:=.none) rfl (aS (mI hos hds (x:=.none) rfl (aS (mI hos hds (x:=vs) rfl (dS ?_)))))));refine aS (jx ps ?_);show wpAny _ _ (if ((-1:Int)==0)=true then _ else _) _ _ s
 rw[hU ⋯];refine aS (slicePart_none (aS (slicePart_none (aS (dS ?_)))));show wpAny _ _ (match Builtin.Slice.sliceAdjust none none (-1) (n:Int)with | (lo,hi)=>pure (lo,(-1:Int),Builtin.Slice.slicePlaces lo hi (-1))) _ _ s
 rw[yH n];show wpAny _ _ (pure ((n:Int) - 1,(-1:Int),Builtin.Slice.slicePlaces ((n:Int) - 1) (-1) (-1))) _ _ s;rw[yI];exact dS h
theorem Hw(xs:Array Value):((List.range xs.size).filterMap λ(m:Nat)=>xs[(((xs.size:Int) - 1)+(m:Int) * -1).toNat]?).toArray=xs.toList.reverse.toArray:=by
 have e:(λ(m:Nat)=>xs[(((xs.size:Int) - 1)+(m:Int) * -1).toNat]?)=λm=>xs[xs.size - 1 - m]?:=by
  funext m
  congr 1
  lia
 rw[e];have e2:(List.range xs.size).filterMap (λm=>xs[xs.size - 1 - m]?)=((List.range xs.size).map λk=>xs.size - 1 - k).filterMap (xs[·]?):=by rw[List.filterMap_map];rfl
 rw[e2,PySem.W.krv_range,List.filterMap_reverse,PySem.W.krv_all]
theorem ku(ht:IsTup s.heap t items)(hs:s.heap.IsSliceOf sl .none .none vs)(ps:IsPart vs (some (-1)))
  (h:Q (.ref s⁻¹) { s with heap:=s.heap.push { cls:=.type "tuple",data:=.seq items.toList.reverse.toArray}})
  (jP:items.size<=sizeLine):wpAny (model prog w) A (getItem (.ref t) (.ref sl)) Q E s:=by
 have jZ:sizeOk (.seq items.toList.reverse.toArray):=by show items.toList.reverse.toArray.size<=sizeLine;rw[dE,A9,oC];exact jP
 obtain⟨os,hos,hcs,hds⟩:=id hs;have XZ:s.TypeIs (.ref sl) "slice" :=⟨os,hos,hcs⟩;unfold getItem
 try with_reducible refine l7 ?_
 first |refine aS (dS ?_) |skip
 refine aS (wpAny_sequenceKey ht.typeIs ⋯ ?_);refine aS (pV (name:=Str.ofString "__getitem__") ht.typeIs nS
  (v6 nS ht.typeIs entry_tuple_getitem ?_ (args_tuple_getitem _ _)))
 show wpAny _ _ (Builtin.Tuple.tupleItemsOf (.ref t) >>= _) _ _ s;refine aS (tupleItemsOf_ ht ?_);refine aS (C2 XZ ?_);rw[gL ⋯];refine aS (lK hs ps ?_);show wpAny _ _ (if ((items.size:Int) - 1==0&&(-1:Int)==1&&items.size==items.size)=true then _ else _) _ _ s
 rw[hU (by intro q;rw[d5,d5]at q;exact absurd (eq_of_beq q.1.2) ⋯),Hw]
 first
  |exact aS (m:=Builtin.Tuple.tupleExact _) (l9 (dS ⟨_,rfl,dS h⟩) jZ)
  |exact aS (m:=Builtin.Tuple.tupleExact _) (l9 (aS (dS (dS ⟨_,rfl,dS h⟩))) jZ)
  |exact aS (aS (m:=Builtin.Tuple.tupleExact _) (l9 (dS (dS ⟨_,rfl,dS h⟩)) jZ))
  |exact aS (aS (m:=Builtin.Tuple.tupleExact _) (l9 (dS ⟨_,rfl,dS h⟩) jZ))
end
end HT
namespace Ev
open L2
section
noncomputable abbrev m1(j:Nat)(p1 p3:Pos):Expr:=.UnaryOp .USub (.Constant (.int 1) j p1) p3
theorem Hx{e:Expr}{te:TE}{r:V->Hp->VK->Prop}(he:PE X e te)
  (hr:∀(ah: ~~~1) (s:Shared) (Y:L2.St) (H:Hp) (x:V) (v vs:Value) (sl:Addr) (Q:VK),L2.Inv X ah Y H s->RelV x v->s.heap.IsSliceOf sl .none .none vs->IsPart vs (some (-1))->r x H Q->
   ∃T id,typeLookup (.type T) "__getitem__"=pure (some (.builtin id))/\s.TypeIs v T/\wpAny (~~~2) X.A (getItem v (.ref sl)) (EP X ah Y Q) X.xe s)
  (pm:∀(ah: ~~~1) (s:Shared) (Y:L2.St) (H:Hp),L2.Inv X ah Y H s->wpAny (~~~2) X.A (eval (m1 j p1 p3) X.env) (λu s'=>L2.Inv X ah Y H s'/\IsPart u (some (-1))) X.xe s) :
  PE X (.Subscript e (.Slice none none (some (m1 j p1 p3)) p2) pos) (λY H Q=>te Y H λx H1=>r x H1 Q):=by
 intro ah s Y H Q I h;refine Subscript_ (bK (he ah s Y H _ I h) λv s1 ⟨x,H1,I1,r1,q1⟩=>?_)
 refine wpAny_Slice ?_;rw[evalPart_none];refine dS (dS ?_);refine PySem.evalPart_some_step (bK (pm ah s1 Y H1 I1) λu s2 ⟨I2,pu⟩=>?_)
 have I4:L2.Inv X ah Y H1 { s2 with heap:=s2.heap.push { cls:=.type "slice",data:=.fields #[.none,.none,u]}}:=I2.kept (t':=s2.toks) λb ob q=>bP _ q
 obtain⟨T,id,hT,ht,hg⟩:=hr ah { s2 with heap:=s2.heap.push { cls:=.type "slice",data:=.fields #[.none,.none,u]}} Y H1 x v u s2⁻¹ Q I4 r1 (Heap.IsSliceOf.new ..) pu q1;show wpAny (~~~2) X.A (subscriptTail e (.Slice none none (some (m1 j p1 p3)) p2) v (.ref s2⁻¹)) (EP X ah Y Q) X.xe { s2 with heap:=s2.heap.push { cls:=.type "slice",data:=.fields #[.none,.none,u]}};exact tail_any (ops:=[v,.ref s2⁻¹]) ht hT hg (by with_unfolding_all rfl)
theorem pm1(ah: ~~~1)(s:Shared)(Y:L2.St)(H:Hp)(I:L2.Inv X ah Y H s):wpAny (~~~2) X.A (eval (m1 j p1 p3) X.env) (λu s'=>L2.Inv X ah Y H s'/\IsPart u (some (-1))) X.xe s:=
 bK ((P8 (pos:=p3) FN (Fv (i:=1) (j:=j) (pos:=p1))) ah s Y H (λv H'=>v=.int (-1)/\H'=H) I ⟨1,rfl,rfl,rfl⟩) λu s' ⟨v,H',I',r,e1,e2⟩=>by
  subst e1 e2;obtain⟨t,rfl⟩:=r;exact⟨I',.int _ t⟩
theorem MN{r:R}{l:List D}(hK:z.K=X.K)(h:aA X z a g r g1)(hp:pk r g1=some (.lst l)):aA X z (.Subscript a (.Slice none none (some (m1 j p1 p3)) p2) pos) g (.new l.reverse) g1:=by
 obtain⟨t,q,k⟩:=h;refine⟨_,Hx (r:=λx H Q=>∃b xs,x=.ref b/\cz X.K H b xs/\∀p,H p=none->Q (.ref p) (upd H p (.lst xs.reverse))) q (λah s Y H x v vs sl Q I rx hs ps hx=>?_) pm1,λY As M H Q s kk=>k Y As M H _ s λv H1 aL M1 s1 cP R=>?_⟩
 .
  obtain⟨b,xs,rfl,hx,hq⟩:=hx;cases rx;obtain⟨its,r,ht,hz⟩:=I.list hx;have aJ:=r.length;refine⟨"list",_,slot_list_getitem.lookup,ht.isList.typeIs,?_⟩;refine wpAny_getItem_list_slice ht.isList hs .none .none ps ⋯ ?_ (by rw[dE,<- aJ];exact hz)
  rw[PySem.W.krv_pick];refine⟨.ref s⁻¹,_,I.laid (t':=s.toks) (o:=.lst xs.reverse) (λb ob q=>bP _ q) (eC _) ?_,rfl,hq _ (I.hok.fresh (eC _))⟩
  exact⟨by rw[A9];exact hz,its.reverse,0,r.reverse,eM _ rfl⟩
 .
  obtain⟨b,xs,rfl,e1,e2⟩:=(s1.pk (ao.refl _ _) R hp).list;refine⟨b,xs,rfl,cz.of e1,λp hp=>?_⟩
  exact kk _ _ aL (p::M1) (s1.aY hp) (cP.trans (ao.aY hp)) ⟨p,xs.reverse,rfl,dC,λhA=>s1.fresh hp (s1.sub p hA),s1.cS hp,aE,e2.reverse.stay (ao.aY hp)⟩
theorem MP{l:List D}(hK:z.K=X.K)(h:aA X z a g (.dat (.tup l)) g1):aA X z (.Subscript a (.Slice none none (some (m1 j p1 p3)) p2) pos) g (.dat (.tup l.reverse)) g1:=by
 obtain⟨t,q,k⟩:=h;refine⟨_,Hx (r:=λx H Q=>∃b xs,x=.ref b/\fP X.K H b xs/\∀p,H p=none->Q (.ref p) (upd H p (.tup xs.reverse))) q (λah s Y H x v vs sl Q I rx hs ps hx=>?_) pm1,λY As M H Q s kk=>k Y As M H _ s λv H1 aL M1 s1 cP R=>?_⟩
 .
  obtain⟨b,xs,rfl,hx,hq⟩:=hx;cases rx;obtain⟨its,r,ht,hz⟩:=I.tuple hx;have aJ:=r.length;refine⟨"tuple",_,PyProof.Rows.slot_tuple_getitem.lookup,ht.typeIs,?_⟩;refine HT.ku ht hs ps ?_ (by rw[dE,<- aJ];exact hz)
  refine⟨.ref s⁻¹,_,I.laid (t':=s.toks) (o:=.tup xs.reverse) (λb ob q=>bP _ q) (eC _) ?_,rfl,hq _ (I.hok.fresh (eC _))⟩
  exact⟨by rw[A9];exact hz,its.reverse,r.reverse,fE.new _ _⟩
 .
  cases R with
  |@tup _ b xs e1 e2=>exact⟨b,xs,rfl,hK▸e1.sq,λp hp=>kk _ _ aL M1 (s1.laid hp) (cP.trans (ao.laid hp)) (.tup (.inl ⟨s1.fresh hp,.inl aE⟩) (e2.reverse.stay (ao.laid hp)))⟩
theorem Ua:aA X z (.Dict [] [] pos) g (.dat .emp) g:=by
 refine⟨λY H Q=>∀p,H p=none->Q (.ref p) (upd H p (.dK [])),λah s Y H Q I h=>wpAny_Dict_empty ⟨.ref s⁻¹,_,I.laid (t':=s.toks) (o:=.dK []) (λb ob q=>bP _ q) (eC _) ?_,rfl,h _ (I.hok.fresh (eC _))⟩,λY As M H Q s k p hp=>k _ _ As M (s.laid hp) (ao.laid hp) (.emp (s.fresh hp) aE)⟩
 refine⟨u7 _,?_,[],?_,Heap.DictOf.new _⟩
 .
  have h1:mainGlobals<s⁻¹:=(I.ok.mod.glob.keeps I.bk).lt;refine Bool.eq_false_iff.mpr λq=>?_
  have q:=eq_of_beq q;rw[q]at h1;exact absurd h1 ⋯
 . exact .nil
end
open L2 PySem.W SeqAt
section
structure WL(r tI tO i j a b:Addr):Prop where
 n1:tI≠r/\tO≠r/\i≠r/\j≠r/\a≠r/\b≠r
 n2:tI≠tO/\i≠tO/\j≠tO/\a≠tO/\b≠tO
 n3:tI≠i/\tI≠j/\i≠j
 n4:a≠i/\b≠i/\a≠j/\b≠j
section
theorem Hy{Q:Value->Shared->Prop}(N:WL r tI tO i j a b)(D1:Draws prog w A i [i,a] n f S1)(D2:Draws prog w A j [j,b] m g S2)(hk1:k<n)(hk2:k<m)
  (er:IsZip s.heap r tI tO .none) (eI:IsPair s.heap tI (.ref i) (.ref j)) (eO:IsPair s.heap tO c d) (t1:S1 k s.heap) (t2:S2 k s.heap)
  (hQ:∀u v h' tk,f k u->g k v->IsZip h' r tI tO (rawInt s⁻¹)->IsPair h' tO u v->S1 (k+1) h'->S2 (k+1) h'->IsPair h' s⁻¹ u v->h'.objs.size=s⁻¹+1->
   (∀x o,x≠r->x≠tO->x≠i->x≠j->s.heap.get? x=some o->h'.get? x=some o)->Q (.ref s⁻¹) { s with heap:=h',toks:=tk}) :
  wpAny (model prog w) A (Builtin.«zip.__next__» ⟨[.ref r],[]⟩) (λfin s'=>∃v,fin=.done (.ret v)/\Q v s') E s:=by
 obtain⟨⟨p1,p2,p3,p4,p5,p6⟩,⟨q1,q2,q3,q4,q5⟩,⟨u1,u2,u3⟩,⟨v1,v2,v3,v4⟩⟩:=N;refine aS (m:=field (.ref r) 2) (mI er rfl (x:=.bool false) rfl ?_);refine aS (m:=field (.ref r) 3) (mI er rfl (x:=.ref tI) rfl (aS (t8 eI rfl ?_)));refine aS (m:=Builtin.SmallTypes.ownedTupleIsFree (.ref r)) ?_;unfold Builtin.SmallTypes.ownedTupleIsFree;refine aS (mI er rfl (x:=.none) rfl (dS ?_));simp only[An];refine aS (CI (aS (mI er rfl (x:=.ref tO) rfl (aS (AD er ⋯ λha Ka ka=>?_)))))
 replace Ka:IsZip ha r tI tO .ellipsis:=Ka;refine aS ?_;simp only[List.zipIdx_cons,List.zipIdx_nil,List.forIn_cons,List.forIn_nil];have t1a:S1 k ha:=D1.frame k _ _ t1 λx hx o e=>(ka.2 x (by rcases eA.mp hx with z |z;exact z▸p3;exact (hV.mp z)▸p5)).trans e
 have t2a:S2 k ha:=D2.frame k _ _ t2 λx hx o e=>(ka.2 x (by rcases eA.mp hx with z |z;exact z▸p4;exact (hV.mp z)▸p6)).trans e
 refine aS (aS (CF (aS (m:=Builtin.SmallTypes.nextOf (.ref i)) (D1.item k { s with heap:=ha} _ _ hk1 t1a λu hb MT fu t1b kb=>dS ?_))))
 have kb:Heap.SameBut i ha hb:=kb;have YK:IsPair hb tO c d:=(kb.2 _ (nV q2)).trans ((ka.2 _ p2).trans eO);refine aS (t8 (s:={ s with heap:=hb,toks:=MT}) YK rfl (aS (wpAny_updateSeq_pair (s:={ s with heap:=hb,toks:=MT}) YK λhc eOc kc=>?_)))
 replace eOc:IsPair hc tO u d:=eOc;have kc:Heap.SameBut tO hb hc:=kc;refine aS (B6 (dS ?_));have t1c:S1 (k+1) hc:=D1.frame _ _ _ t1b λx hx o e=>(kc.2 x (by rcases eA.mp hx with z |z;exact z▸q2;exact (hV.mp z)▸q4)).trans e
 have t2c:S2 k hc:=D2.frame k _ _ t2a λx hx o e=>by
  have hx:x=j\/x=b:=by rcases eA.mp hx with z |z;exact .inl z;exact .inr (hV.mp z)
  rw[kc.2 x (by rcases hx with rfl |rfl;exact q3;exact q5),kb.2 x (by rcases hx with rfl |rfl;exact nV u3;exact v2)]
  exact e
 refine aS (aS (CF (aS (m:=Builtin.SmallTypes.nextOf (.ref j)) (D2.item k { s with heap:=hc,toks:=MT} _ _ hk2 t2c λv hd tk2 gv t2d kd=>dS ?_))))
 have kd:Heap.SameBut j hc hd:=kd;have eOd:IsPair hd tO u d:=(kd.2 _ (nV q3)).trans eOc;refine aS (t8 (s:={ s with heap:=hd,toks:=tk2}) eOd rfl (aS (wpAny_updateSeq_pair (s:={ s with heap:=hd,toks:=tk2}) eOd λhe eOe ke=>?_)))
 replace eOe:IsPair he tO u v:=eOe;have ke:Heap.SameBut tO hd he:=ke;refine aS (B6 (dS (dS ?_)));refine aS (t8 (s:={ s with heap:=he,toks:=tk2}) eOe rfl (aS (wpAny_newTuple ?_)));have sz:he.objs.size=s⁻¹:=by rw[ke.1,kd.1,kc.1,kb.1];exact ka.1
 have ere:IsZip he r tI tO .ellipsis:=by show he.get? r=_;rw[ke.2 _ (nV p2),kd.2 _ (nV p4),kc.2 _ (nV p2),kb.2 _ (nV p3)];exact Ka
 have old:∀x o,x≠r->x≠tO->x≠i->x≠j->s.heap.get? x=some o->he.get? x=some o:=λx o x1 x2 x3 x4 e=>by
  rw[ke.2 _ x2,kd.2 _ x4,kc.2 _ x2,kb.2 _ x3];exact (ka.2 _ x1).trans e
 have t1e:S1 (k+1) he:=D1.frame _ _ _ t1c λx hx o e=>by
  have hx:x=i\/x=a:=by rcases eA.mp hx with z |z;exact .inl z;exact .inr (hV.mp z)
  rw[ke.2 x (by rcases hx with rfl |rfl;exact q2;exact q4),kd.2 x (by rcases hx with rfl |rfl;exact u3;exact v3)]
  exact e
 have t2e:S2 (k+1) he:=D2.frame _ _ _ t2d λx hx o e=>(ke.2 x (by rcases eA.mp hx with z |z;exact z▸q3;exact (hV.mp z)▸q5)).trans e
 refine aS (m:=Builtin.SmallTypes.ownedTupleHandOut (.ref r) (.ref he.objs.size)) ?_;unfold Builtin.SmallTypes.ownedTupleHandOut;have erf:IsZip (he.push { cls:=.type "tuple",data:=.seq #[u,v]}) r tI tO .ellipsis:=bP _ ere;refine aS (AD erf ⋯ λhg erg kg=>?_)
 replace erg:IsZip hg r tI tO (rawInt he.objs.size):=erg;refine AD erg ⋯ λhh erh kh=>?_
 replace erh:IsZip hh r tI tO (rawInt he.objs.size):=erh;have kg:Heap.SameBut r (he.push { cls:=.type "tuple",data:=.seq #[u,v]}) hg:=kg;have kh:Heap.SameBut r hg hh:=kh;have up:∀x o,x≠r->he.get? x=some o->hh.get? x=some o:=λx o x1 e=>by rw[kh.2 _ x1,kg.2 _ x1];exact bP _ e
 have rlt:r<he.objs.size:=eQ ere;have new:IsPair hh he.objs.size u v:=by show hh.get? _=_;rw[kh.2 _ (AJ rlt),kg.2 _ (AJ rlt)];exact eM _ rfl
 have szh:hh.objs.size=he.objs.size+1:=by rw[kh.1,kg.1,sR]
 have fr1:∀x o,x=i\/x=a->he.get? x=some o->hh.get? x=some o:=λx o hx e=>up x o (by rcases hx with rfl |rfl;exact p3;exact p5) e
 have fr2:∀x o,x=j\/x=b->he.get? x=some o->hh.get? x=some o:=λx o hx e=>up x o (by rcases hx with rfl |rfl;exact p4;exact p6) e
 rw[sz]at erh new szh;refine dS ⟨_,rfl,?_⟩;show Q (.ref he.objs.size) _;rw[sz];exact hQ u v hh tk2 fu gv erh (up _ _ p2 eOe) (D1.frame _ _ _ t1e λx hx o e=>fr1 x o (by rcases eA.mp hx with z |z;exact .inl z;exact .inr (hV.mp z)) e)
  (D2.frame _ _ _ t2e λx hx o e=>fr2 x o (by rcases eA.mp hx with z |z;exact .inl z;exact .inr (hV.mp z)) e) new szh λx o x1 x2 x3 x4 e=>up x o x1 (old x o x1 x2 x3 x4 e)
theorem M7(N:WL r tI tO i j a b)(D1:Draws prog w A i [i,a] n f S1)(D2:Draws prog w A j [j,b] m g S2)(hk:k=n\/(k<n/\k=m))
  (er:IsZip s.heap r tI tO .none) (eI:IsPair s.heap tI (.ref i) (.ref j)) (eO:IsPair s.heap tO c d) (t1:S1 k s.heap) (t2:S2 k s.heap)
  (hE:∀h' e tk,(∀x o,x≠r->x≠tO->x≠i->x≠j->s.heap.get? x=some o->h'.get? x=some o)->(∃o,h'.get? e=some o/\o.cls=.type "StopIteration")->E (.ref e) { s with heap:=h',toks:=tk}) :
  wpAny (model prog w) A (Builtin.«zip.__next__» ⟨[.ref r],[]⟩) Q E s:=by
 obtain⟨⟨p1,p2,p3,p4,p5,p6⟩,⟨q1,q2,q3,q4,q5⟩,⟨u1,u2,u3⟩,⟨v1,v2,v3,v4⟩⟩:=N;refine aS (m:=field (.ref r) 2) (mI er rfl (x:=.bool false) rfl ?_);refine aS (m:=field (.ref r) 3) (mI er rfl (x:=.ref tI) rfl (aS (t8 eI rfl ?_)));refine aS (m:=Builtin.SmallTypes.ownedTupleIsFree (.ref r)) ?_;unfold Builtin.SmallTypes.ownedTupleIsFree;refine aS (mI er rfl (x:=.none) rfl (dS ?_));simp only[An];refine aS (CI (aS (mI er rfl (x:=.ref tO) rfl (aS (AD er ⋯ λha Ka ka=>?_)))))
 replace Ka:IsZip ha r tI tO .ellipsis:=Ka;refine aS ?_;simp only[List.zipIdx_cons,List.zipIdx_nil,List.forIn_cons,List.forIn_nil];have t1a:S1 k ha:=D1.frame k _ _ t1 λx hx o e=>(ka.2 x (by rcases eA.mp hx with z |z;exact z▸p3;exact (hV.mp z)▸p5)).trans e
 have t2a:S2 k ha:=D2.frame k _ _ t2 λx hx o e=>(ka.2 x (by rcases eA.mp hx with z |z;exact z▸p4;exact (hV.mp z)▸p6)).trans e
 have stop:∀(hb:Heap) (e:Addr) (tk:Nat),IsZip hb r tI tO .ellipsis->(∃o,hb.get? e=some o/\o.cls=.type "StopIteration")->e≠r:=λhb e tk z ⟨o,h1,h2⟩ q=>by
  rw[q,z]at h1;cases h1;exact absurd (show Value.type "zip"=.type "StopIteration" from h2) ⋯
 rcases hk with rfl |⟨hk1,rfl⟩
 .
  refine aS (aS (CF (aS (m:=Builtin.SmallTypes.nextOf (.ref i)) (D1.done { s with heap:=ha} _ _ t1a λhb e kb ex=>?_))))
  have kb:Heap.ExtBut i ha hb:=kb;have erb:IsZip hb r tI tO .ellipsis:=kb _ _ (nV p3) Ka;have ner:=stop hb e s.toks erb ex;obtain⟨oe,x1,x2⟩:=ex;refine AD (s:={ s with heap:=hb}) erb ⋯ λhc _ kc=>?_
  have kc:Heap.SameBut r hb hc:=kc;exact hE hc e s.toks (λx o y1 y2 y3 y4 z=>(kc.2 _ y1).trans (kb _ _ y3 ((ka.2 _ y1).trans z))) ⟨oe,(kc.2 _ ner).trans x1,x2⟩
 .
  refine aS (aS (CF (aS (m:=Builtin.SmallTypes.nextOf (.ref i)) (D1.item k { s with heap:=ha} _ _ hk1 t1a λu hb MT fu t1b kb=>dS ?_))))
  have kb:Heap.SameBut i ha hb:=kb;have YK:IsPair hb tO c d:=(kb.2 _ (nV q2)).trans ((ka.2 _ p2).trans eO);refine aS (t8 (s:={ s with heap:=hb,toks:=MT}) YK rfl (aS (wpAny_updateSeq_pair (s:={ s with heap:=hb,toks:=MT}) YK λhc eOc kc=>?_)))
  have kc:Heap.SameBut tO hb hc:=kc;refine aS (B6 (dS ?_));have t2c:S2 k hc:=D2.frame k _ _ t2a λx hx o e=>by
   have hx:x=j\/x=b:=by rcases eA.mp hx with z |z;exact .inl z;exact .inr (hV.mp z)
   rw[kc.2 x (by rcases hx with rfl |rfl;exact q3;exact q5),kb.2 x (by rcases hx with rfl |rfl;exact nV u3;exact v2)]
   exact e
  refine aS (aS (CF (aS (m:=Builtin.SmallTypes.nextOf (.ref j)) (D2.done { s with heap:=hc,toks:=MT} _ _ t2c λhd e kd ex=>?_))))
  have kd:Heap.ExtBut j hc hd:=kd;have erd:IsZip hd r tI tO .ellipsis:=kd _ _ (nV p4) (by rw[kc.2 _ (nV p2),kb.2 _ (nV p3)];exact Ka)
  have ner:=stop hd e s.toks erd ex;obtain⟨oe,x1,x2⟩:=ex;refine AD (s:={ s with heap:=hd,toks:=MT}) erd ⋯ λhe _ ke=>?_
  have ke:Heap.SameBut r hd he:=ke;exact hE he e MT (λx o y1 y2 y3 y4 z=>(ke.2 _ y1).trans (kd _ _ y4 (by rw[kc.2 _ y2,kb.2 _ y3];exact (ka.2 _ y1).trans z))) ⟨oe,(ke.2 _ ner).trans x1,x2⟩
end
section
theorem Hz{Q:Option Value->Shared->Prop}(N:WL r tI tO i j a b)(D1:Draws prog w A.in1 i [i,a] n f S1)(D2:Draws prog w A.in1 j [j,b] m g S2)(hk1:k<n)(hk2:k<m)
  (er:IsZip s.heap r tI tO .none) (eI:IsPair s.heap tI (.ref i) (.ref j)) (eO:IsPair s.heap tO c d) (t1:S1 k s.heap) (t2:S2 k s.heap)
  (hQ:∀u v h' tk,f k u->g k v->IsZip h' r tI tO (rawInt s⁻¹)->IsPair h' tO u v->S1 (k+1) h'->S2 (k+1) h'->IsPair h' s⁻¹ u v->h'.objs.size=s⁻¹+1->
   (∀x o,x≠r->x≠tO->x≠i->x≠j->s.heap.get? x=some o->h'.get? x=some o)->Q (some (.ref s⁻¹)) { s with heap:=h',toks:=tk}):wpAny (model prog w) A (pyNext (.ref r)) Q E s:=by
 have ty:s.TypeIs (.ref r) "zip" :=⟨_,er,rfl⟩;unfold pyNext;exact aS (wpAny_attempt (pV (name:=Str.ofString "__next__") ty F.slot_zip_next (v6 F.slot_zip_next ty F.entry_zip_next
  (Hy N D1 D2 hk1 hk2 er eI eO t1 t2 λu v h' tk b1 b2 b3 b4 b5 b6 b7 b8 b9=>dS (hQ u v h' tk b1 b2 b3 b4 b5 b6 b7 b8 b9)) (F.args_zip_next_1 _))))
theorem vZ(N:WL r tI tO i j a b)(D1:Draws prog w A.in1 i [i,a] n f S1)(D2:Draws prog w A.in1 j [j,b] m g S2)(hk:k=n\/(k<n/\k=m))
  (er:IsZip s.heap r tI tO .none) (eI:IsPair s.heap tI (.ref i) (.ref j)) (eO:IsPair s.heap tO c d) (t1:S1 k s.heap) (t2:S2 k s.heap)
  (hQ:∀h' tk,(∀x o,x≠r->x≠tO->x≠i->x≠j->s.heap.get? x=some o->h'.get? x=some o)->Q none { s with heap:=h',toks:=tk}):wpAny (model prog w) A (pyNext (.ref r)) Q E s:=by
 have ty:s.TypeIs (.ref r) "zip" :=⟨_,er,rfl⟩;unfold pyNext;refine aS (wpAny_attempt (pV (name:=Str.ofString "__next__") ty F.slot_zip_next (v6 F.slot_zip_next ty F.entry_zip_next
  (M7 N D1 D2 hk er eI eO t1 t2 λh' e tk kp ex=>?_) (F.args_zip_next_1 _))))
 obtain⟨o,x1,x2⟩:=ex;exact aS (wpAny_isInstance (T:= "StopIteration") (b:=true) ⟨o,x1,x2⟩ isSubtype_stop (dS (hQ _ tk kp)))
end
end
open L2 PySem.W SeqAt
section
theorem Inv.Ub{h':Heap}{t':Nat}{ch:List Addr}(I:L2.Inv X ah Y H s)(hf:∀b∈ch,jV X ah H b)(k:∀b o,b∉ch->s.heap.get? b=some o->h'.get? b=some o):L2.Inv X ah Y H { s with heap:=h',toks:=t'}:=by
 have nH:∀b u,H b=some u->b∉ch:=λb u e z=>by rw[(hf b z).1]at e;cases e
 refine I.step (g':=s.gens) (d':=s.drawn) (ch:=ch) (λb hb=>?_) (λb o _ _ hc e _=>k b o hc e) (λb o _ _ hc e _=>⟨o.slots,k b o hc e⟩) (λ_ _ _ _ n=>n) (λb o hc e=>⟨o,k b o hc e⟩) (λ_ _ e=>e) (λ_ _ _ e=>e) (λb ps e=>⟨#[],by rw[e];simp⟩) (λm hm=>?_) (λb u e=>?_) I.bare
 . obtain⟨f0,f1,f2,f3,f4,f5⟩:=hf b hb;exact⟨f3,f1,f4,f5⟩
 . obtain⟨o,es,ep,ho,rr⟩:=hm;exact⟨o,es,ep,k _ o (λz=>(hf _ z).2.1 rfl) ho,rr⟩
 .
  refine (I.hok b u e).stay (λc w hc q=>k c w (λz=>?_) q) (λ_ q=>q) λ_ _ q=>q
  rcases hc with rfl |hc
  . exact nH _ _ e z
  . exact nH _ _ hc z
theorem Inv.Uc{h':Heap}{t':Nat}{ch:List Addr}{xs:List V}{its:List Value}(I:L2.Inv X ah Y H s)(hf:∀b∈ch,jV X ah H b)(k:∀b o,b∉ch->s.heap.get? b=some o->h'.get? b=some o)(hz:xs.length<=sizeLine)(rv:Vals xs its)(ht:fE h' s⁻¹ its.toArray) :
  L2.Inv X ah Y (upd H s⁻¹ (.tup xs)) { s with heap:=h',toks:=t'}:=by
 have nH:∀b u,H b=some u->b∉ch:=λb u e z=>by rw[(hf b z).1]at e;cases e
 have fr:H s⁻¹=none:=I.hok.fresh (eC _);have nn:∀b u,H b=some u->b≠s⁻¹:=λb u e z=>by rw[z,fr]at e;cases e
 refine I.step (g':=s.gens) (d':=s.drawn) (ch:=ch) (λb hb=>?_) (λb o _ _ hc e _=>k b o hc e) (λb o _ _ hc e _=>⟨o.slots,k b o hc e⟩) (λb o _ e n=>by rw[az (i7 (eQ e))];exact n) (λb o hc e=>⟨o,k b o hc e⟩) (λb _ e=>by rw[az (nn _ _ e)];exact e) (λb _ _ e=>by rw[az (nn _ _ e)];exact e) (λb ps e=>⟨#[],by rw[az (nn _ _ e),e];simp⟩) (λm hm=>?_) (λb u e=>?_) I.bare
 . obtain⟨f0,f1,f2,f3,f4,f5⟩:=hf b hb;exact⟨f3,f1,f4,f5⟩
 . obtain⟨o,es,ep,ho,rr⟩:=hm;exact⟨o,es,ep,k _ o (λz=>(hf _ z).2.1 rfl) ho,rr⟩
 .
  by_cases hb:b=s⁻¹
  . subst hb;rw[aE]at e;cases e;exact⟨hz,its,rv,ht⟩
  .
   rw[az hb]at e;refine (I.hok b u e).stay (λc w hc q=>k c w (λz=>?_) q) (λc q=>by rw[az (nn _ _ q)];exact q) λc _ q=>by rw[az (nn _ _ q)];exact q
   rcases hc with rfl |hc
   . exact nH _ _ e z
   . exact nH _ _ hc z
end
theorem rR.Ql(I:L2.Inv X ah Y H s)(h:rR tp X.K H u us)(f:jV X ah H c):u≠c:=λz=>by
 subst z;have inK:∀o,X.K.lookup u=some o->False:=λo e=>by
  have e0:=I.ok.mod.Fq u o e;rcases f.2.2.2.1 with q |q
  . exact I.ok.vm u o e0 q
  . exact absurd (eD (eQ (I.ok.bs u o e0).1) q) (nE _)
 cases tp with
 |true=>
  rcases (show fP X.K H u us from h)with (h |⟨o,h⟩) |h
  . rw[f.1]at h;symm
  . rw[f.1]at h;symm
  . obtain⟨o,_,_,h,_⟩:=h;exact inK _ h
 |false=>
  rcases (show cz X.K H u us from h)with (h |⟨o,h⟩) |h
  . rw[f.1]at h;symm
  . rw[f.1]at h;symm
  . obtain⟨o,_,_,h,_⟩:=h;exact inK _ h
noncomputable def Itz(tp:Bool)(K:Frag)(a b:Addr):It:=
 ⟨λi H=>∃xs ys x y,rR tp K H a xs/\rR tp K H b ys/\xs[i]?=some x/\ys[i]?=some y,λi H x H'=>∃p u v,(∀xs,rR tp K H a xs->xs[i]?=some u)/\(∀ys,rR tp K H b ys->ys[i]?=some v)/\H p=none/\x=.ref p/\H'=upd H p (.tup [u,v]),
  λi H=>∃xs ys,rR tp K H a xs/\rR tp K H b ys/\(i=xs.length\/(i<xs.length/\i=ys.length))⟩
theorem HB{P:Program}{w:World}{K:Frag}{tp:Bool}{es:List Expr}{k:Nat}{pos:Pos}(r tI tO i j a b:Addr)(A1:tI≠r/\tO≠r/\i≠r/\j≠r)(A2:tI≠tO/\i≠tO/\j≠tO)(A3:tI≠i/\tI≠j/\i≠j) :
  Turn P w K (.Tuple es k pos) (Itz tp K a b) [r,tI,tO,i,j] r (λn h=>IsZip h r tI tO .none/\IsPair h tI (.ref i) (.ref j)/\(∃c d,IsPair h tO c d)/\J9 tp h i a n/\J9 tp h j b n) where
 mem:=by simp
 obj:=λn h st x hx=>by
  obtain⟨er,eI,⟨c,d,eO⟩,t1,t2⟩:=st;simp only[eA,l5,xL]at hx;rcases hx with rfl |rfl |rfl |rfl |rfl
  . exact⟨_,er,λv z=>nomatch (show Data.fields _=Data.cell v from z)⟩
  . exact⟨_,eI,λv z=>nomatch (show Data.seq _ _=Data.cell v from z)⟩
  . exact⟨_,eO,λv z=>nomatch (show Data.seq _ _=Data.cell v from z)⟩
  . obtain⟨o,vs,e1,e2⟩:=t1.obj;exact⟨o,e1,λv z=>by rw[e2]at z;cases z⟩
  . obtain⟨o,vs,e1,e2⟩:=t2.obj;exact⟨o,e1,λv z=>by rw[e2]at z;cases z⟩
 keep:=λn h h' st kp=>by
  obtain⟨er,eI,⟨c,d,eO⟩,t1,t2⟩:=st;exact⟨kp r ⋯ _ er,kp tI ⋯ _ eI,⟨c,d,kp tO ⋯ _ eO⟩,t1.keep λo q=>kp i ⋯ o q,t2.keep λo q=>kp j ⋯ o q⟩
 item:=by
  intro X hP hw hK hc n ah s Y H E I hf st hg;subst hP hw hK;obtain⟨er,eI,⟨c,d,eO⟩,t1,t2⟩:=st;obtain⟨xs,ys,x,y,qx,qy,gx,gy⟩:=hg;obtain⟨YL,rx,YM,zx⟩:=qx.real I;obtain⟨YQ,ry,YS,zy⟩:=qy.real I;have nf:∀{u:Addr}{us:List V}{c:Addr},rR tp X.K H u us->c∈[r,tI,tO,i,j]->u≠c:=λh hc=>rR.Ql I h (hf _ hc)
  have N:WL r tI tO i j a b:=⟨⟨A1.1,A1.2.1,A1.2.2.1,A1.2.2.2,nf qx ⋯,nf qy ⋯⟩,⟨A2.1,A2.2.1,A2.2.2,nf qx ⋯,nf qy ⋯⟩,A3,⟨nf qx ⋯,nf qy ⋯,nf qx ⋯,nf qy ⋯⟩⟩;have l1:n<YL.length:=by rw[<- rx.length];exact (dL.mp gx).1
  have l2:n<YQ.length:=by rw[<- ry.length];exact (dL.mp gy).1
  refine Hz (A:=X.A) N (uf (tp:=tp) (A:=X.A.in1) (I.ok.hd hc) (nf qx ⋯) YL) (uf (tp:=tp) (A:=X.A.in1) (I.ok.hd hc) (nf qy ⋯) YQ) l1 l2 er eI eO ⟨t1,YM⟩ ⟨t2,YS⟩ λu v h1 tk fu gv Ka eO1 s1 s2 new sz kp=>⟨_,rfl,?_⟩
  refine wpAny_letOwnedTupleGo_zip (s:={ s with heap:=h1,toks:=tk}) Ka λh2 er2 k2=>?_
  have k2:Heap.SameBut r h1 h2:=k2;obtain⟨u',e1,ru⟩:=rx.get gx;obtain⟨v',e2,rv⟩:=ry.get gy;rw[fu]at e1;cases e1;rw[gv]at e2;cases e2;have pr:s⁻¹≠r:=AJ (eQ er);have kk:∀x o,x∉[r,tO,i,j]->s.heap.get? x=some o->h2.get? x=some o:=λx o hx e=>by
   simp only[eA,l5,xL,not_or]at hx;exact (k2.2 x hx.1).trans (kp x o hx.1 hx.2.1 hx.2.2.1 hx.2.2.2 e)
  have J:=Inv.Uc (t':=tk) (xs:=[x,y]) (its:=[u,v]) I (ch:=[r,tO,i,j]) (λc hc=>hf c (by simp only[eA,l5,xL]at hc ⊢;rcases hc with h |h |h |h <;> simp[h])) kk (by rw[rV];show 2<=16777216;decide) (.cons ru (.cons rv .nil)) ⟨_,(k2.2 _ pr).trans new,⟨rfl,_,rfl⟩,rfl⟩
  have eI2:IsPair h2 tI (.ref i) (.ref j):=kk _ _ (by simp[A1.1,A2.1,A3.1,A3.2.1]) eI
  refine⟨.ref s⁻¹,_,J,rfl,⟨_,x,y,λzs hz=>by rw[hz.inj I qx];exact gx,λzs hz=>by rw[hz.inj I qy];exact gy,I.hok.fresh (eC _),rfl,rfl⟩,⟨er2,eI2,⟨u,v,(k2.2 _ A1.2.1).trans eO1⟩,s1.1.keep λo q=>(k2.2 _ A1.2.2.1).trans q,s2.1.keep λo q=>(k2.2 _ A1.2.2.2).trans q⟩,λc hc=>?_⟩
  have hcn:c≠s⁻¹:=λz=>by
   have:∃o,s.heap.get? c=some o:=by
    simp only[eA,l5,xL]at hc;rcases hc with rfl |rfl |rfl |rfl |rfl
    . exact⟨_,er⟩
    . exact⟨_,eI⟩
    . exact⟨_,eO⟩
    . obtain⟨o,_,e,_⟩:=t1.obj;exact⟨o,e⟩
    . obtain⟨o,_,e,_⟩:=t2.obj;exact⟨o,e⟩
   obtain⟨o,e⟩:=this;exact absurd (eQ e) (by rw[z];exact nE _)
  rw[az hcn];exact (hf c hc).1
 done:=by
  intro X hP hw hK hc n ah s Y H E I hf st hg;subst hP hw hK;obtain⟨er,eI,⟨c,d,eO⟩,t1,t2⟩:=st;obtain⟨xs,ys,qx,qy,hn⟩:=hg;obtain⟨YL,rx,YM,zx⟩:=qx.real I;obtain⟨YQ,ry,YS,zy⟩:=qy.real I;have nf:∀{u:Addr}{us:List V}{c:Addr},rR tp X.K H u us->c∈[r,tI,tO,i,j]->u≠c:=λh hc=>rR.Ql I h (hf _ hc)
  have N:WL r tI tO i j a b:=⟨⟨A1.1,A1.2.1,A1.2.2.1,A1.2.2.2,nf qx ⋯,nf qy ⋯⟩,⟨A2.1,A2.2.1,A2.2.2,nf qx ⋯,nf qy ⋯⟩,A3,⟨nf qx ⋯,nf qy ⋯,nf qx ⋯,nf qy ⋯⟩⟩;refine vZ (A:=X.A) N (uf (tp:=tp) (A:=X.A.in1) (I.ok.hd hc) (nf qx ⋯) YL) (uf (tp:=tp) (A:=X.A.in1) (I.ok.hd hc) (nf qy ⋯) YQ) (by rw[<- rx.length,<- ry.length];exact hn) er eI eO ⟨t1,YM⟩ ⟨t2,YS⟩ λh1 tk kp=>⟨rfl,?_⟩
  exact Inv.Ub (t':=tk) I (ch:=[r,tO,i,j]) (λc hc=>hf c (by simp only[eA,l5,xL]at hc ⊢;rcases hc with h |h |h |h <;> simp[h])) λx o hx e=>by
   simp only[eA,l5,xL,not_or]at hx;exact kp x o hx.1 hx.2.1 hx.2.2.1 hx.2.2.2 e
 self:=λA n s Q E st h=>wpAny_pyIter_zip st.1 h
open L2 PySem.W SeqAt
section
noncomputable abbrev YT(h:Heap)(a:Addr):Heap:=h.push { cls:=.type "tuple_iterator",data:=.fields #[.ref a,.int 0 0]}
abbrev zT2(h:Heap)(a b:Addr):Heap:=(YT h a).push { cls:=.type "tuple_iterator",data:=.fields #[.ref b,.int 0 0]}
abbrev zT3(h:Heap)(a b:Addr):Heap:=(zT2 h a b).push { cls:=.type "tuple",data:=.seq #[.ref h.objs.size,.ref (YT h a).objs.size]}
abbrev zT4(h:Heap)(a b:Addr):Heap:=(zT3 h a b).push { cls:=.type "tuple",data:=.seq #[.none,.none]}
abbrev WM (h:Heap) (a b:Addr):Heap:=(zT4 h a b).push { cls:=.type "zip",data:=.fields #[.none,.bool false,.bool false,.ref (zT2 h a b).objs.size,.ref (zT3 h a b).objs.size]}
theorem yJ(a b:Addr)(xs ys:Array Value) :
  Meets (Builtin.«zip.__new__» ⟨[.type "zip",.ref a,.ref b],[]⟩) (λ_ R s=>s.heap.IsTuple a xs/\s.heap.IsTuple b ys/\R (.ok (.ret (.ref (zT4 s.heap a b).objs.size))) { s with heap:=WM s.heap a b}):=
 .of_wp λprog w A R s h=>by
  obtain⟨hp,g,d,tk,os⟩:=s;obtain⟨ta,tb,h⟩:=h;have hsub:=sub_zip;have T1:Heap.IsTuple (Shared.heap ⟨hp,g,d,tk,os⟩) a xs:=ta;have T2:Heap.IsTuple (Shared.heap ⟨YT hp a,g,d,tk,os⟩) b ys:=by obtain⟨o,e,rr⟩:=tb;exact⟨o,bP _ e,rr⟩
  wp_walk using AM T1,AM T2
  exact⟨_,rfl,h⟩
theorem Dq(ta:s.heap.IsTuple a xs)(tb:s.heap.IsTuple b ys)
  (h:∀h',IsZip h' (s⁻¹+4) (s⁻¹+2) (s⁻¹+3) .none->IsPair h' (s⁻¹+2) (.ref s⁻¹) (.ref (s⁻¹+1))->
   IsPair h' (s⁻¹+3) .none .none->h'.IsTupleIter s⁻¹ a 0->h'.IsTupleIter (s⁻¹+1) b 0->h'.objs.size=s⁻¹+5->
   (∀c o,s.heap.get? c=some o->h'.get? c=some o)->Q (.ref (s⁻¹+4)) { s with heap:=h'}) :
  wpAny (model prog w) A (call (.type "zip") [.ref a,.ref b]) Q E s:=by
 refine callType_new F.called_zip ⋯ (F.typeCall_zip_2 _ _) (F.newCall_zip_2 _ _) (λobj=>F.args_object_init_3 obj _ _) F.entry_zip_new (yJ a b xs ys) ⟨ta,tb,?_⟩
 have s1:(YT s.heap a).objs.size=s⁻¹+1:=sR ..;have s2:(zT2 s.heap a b).objs.size=s⁻¹+2:=by rw[sR,s1]
 have s3:(zT3 s.heap a b).objs.size=s⁻¹+3:=by rw[sR,s2]
 have s4:(zT4 s.heap a b).objs.size=s⁻¹+4:=by rw[sR,s3]
 have o5:(WM s.heap a b).get? (zT4 s.heap a b).objs.size=some _:=eM _ rfl;have o4:(WM s.heap a b).get? (zT3 s.heap a b).objs.size=some _:=bP _ (eM _ rfl);have o3:(WM s.heap a b).get? (zT2 s.heap a b).objs.size=some _:=bP _ (bP _ (eM _ rfl));have o2:(WM s.heap a b).get? (YT s.heap a).objs.size=some _:=bP _ (bP _ (bP _ (eM _ rfl)));have o1:(WM s.heap a b).get? s⁻¹=some _:=bP _ (bP _ (bP _ (bP _ (eM _ rfl))));show _/\_;rw[s4]at o5 ⊢
 rw[s2,s3]at o5;rw[s2,s1]at o3;rw[s3]at o4;rw[s1]at o2;exact⟨⟨_,o5,rfl⟩,h _ o5 o3 o4 ⟨_,o1,rfl,rfl⟩ ⟨_,o2,rfl,rfl⟩ (by rw[sR,s4]) λc o e=>bP _ (bP _ (bP _ (bP _ (bP _ e))))⟩
end
noncomputable def ug(l m:List D):List D:=(l.zip m).map λp=>.tup [p.1,p.2]
theorem HD{l m:List D}{n:Nat}{d:D}(h:(ug l m)[n]?=some d):∃x y,l[n]?=some x/\m[n]?=some y/\d=.tup [x,y]:=by
 unfold ug at h;rw[yA]at h;cases e:(l.zip m)[n]? with
 |none=>rw[e]at h;symm
 |some q=>rw[e]at h;symm;obtain⟨h1,h2⟩:=List.getElem?_zip_eq_some.mp e;exact⟨q.1,q.2,h1,h2,rfl⟩
theorem HF(l m:List D):(ug l m).length=min l.length m.length:=by simp[ug]
section
def isTup:D->Bool
 |.tup _=>true
 |_=>false
theorem Rep.sqX{K:Frag}{M:List Addr}{H:Hp}{d:D}{v:V}{l:List D}(r:Rep K M H d v)(h:dm d=some l):∃a xs,v=.ref a/\aH K M H l xs/\∀M2 H2,ao M H M2 H2->rR (isTup d) K H2 a xs:=by
 cases r with
 |@lst _ a xs hb rr=>symm;exact⟨a,xs,rfl,rr,λM2 H2 st=>cz.of (st _ _ hb.2 hb.1).1⟩
 |@tup _ a xs hb rr=>
  symm;refine⟨a,xs,rfl,rr,λM2 H2 st=>?_⟩
  have:TupAt K M2 H2 a xs:=by
   rcases hb with ⟨na,hr⟩ |hk
   . exact .inl (st.rd na hr)
   . exact .inr hk
  exact this.sq
 |@fix _ a xs hb rr=>
  symm;refine⟨a,xs,rfl,rr,λM2 H2 st=>?_⟩
  have:oA K M2 H2 a xs:=by
   rcases hb with ⟨na,o,hr⟩ |hk
   . exact .inl ⟨(st _ _ hr na).2,o,(st _ _ hr na).1⟩
   . exact .inr hk
  exact this.sq
 |_=>symm
theorem Dr(ta:AtX tp s.heap a xs)(tb:AtX tp s.heap b ys)
  (h:∀h',IsZip h' (s⁻¹+4) (s⁻¹+2) (s⁻¹+3) .none->IsPair h' (s⁻¹+2) (.ref s⁻¹) (.ref (s⁻¹+1))->
   IsPair h' (s⁻¹+3) .none .none->J9 tp h' s⁻¹ a 0->J9 tp h' (s⁻¹+1) b 0->h'.objs.size=s⁻¹+5->
   (∀c o,s.heap.get? c=some o->h'.get? c=some o)->Q (.ref (s⁻¹+4)) { s with heap:=h'}):wpAny (model prog w) A (call (.type "zip") [.ref a,.ref b]) Q E s:=by
 cases tp with
 |true=>exact Dq ta tb h
 |false=>exact call_zip_2 ta tb h
theorem Ud{d1 d2:D}{l m:List D}(hK:z.K=X.K)(ha:cQ X z [e1,e2] g [.dat d1,.dat d2] g1)(h1:dm d1=some l)(h2:dm d2=some m)(hkd:isTup d1=isTup d2)(hg:Gl X "zip")(hm:X.mg "zip"=none)(dg:starEach [e1,e2] X.env=(false,eval e1 X.env)::starEach [e2] X.env)(g8:(backTo rp (starEach [e2] X.env)).any (·.1)=false) :
  dU X z (.Tuple es k pos) (.Call (.Name "zip" p) [e1,e2] [] rp) g (ug l m) g1:=by
 refine dU.of λah s Y As M H Post I stt kk=>?_
 refine Call_ (gP I hg hm boot_zip (nN (ha.run I stt λvs us s1 H1 aL M1 I1 r1 q1 q2 q3=>?_) dg g8))
 cases q3 with
 |dat rp1 R=>cases R with
  |dat rp2 R=>
   cases R;obtain⟨u1,u2,rfl,ru1,ru2⟩:=vals2 r1;obtain⟨a,xs,rfl,rr1,sq1⟩:=rp1.sqX h1;obtain⟨b,ys,rfl,Qj,sq2⟩:=rp2.sqX h2;cases ru1;cases ru2;rw[<- hkd]at sq2;have sa:rR (isTup d1) X.K H1 a xs:=hK▸sq1 M1 H1 (ao.refl _ _);have sb:rR (isTup d1) X.K H1 b ys:=hK▸sq2 M1 H1 (ao.refl _ _);obtain⟨YL,_,YM,_⟩:=sa.real I1;obtain⟨YQ,_,YS,_⟩:=sb.real I1;refine Dr YM YS λh' er eI eO t1 t2 jP hk=>kk _ _ λR kR=>?_
   refine wpAny_pyIter_zip er ?_;have I2:L2.Inv X ah Y H1 { s1 with heap:=h'}:=I1.kept (t':=s1.toks) hk;refine⟨_,[s1⁻¹+4,s1⁻¹+2,s1⁻¹+3,s1⁻¹,s1⁻¹+1],_,Itz (isTup d1) X.K a b,H1,rfl,I2,HB (s1⁻¹+4) (s1⁻¹+2) (s1⁻¹+3) s1⁻¹ (s1⁻¹+1) a b (by refine⟨?_,?_,?_,?_⟩ <;> (intro q;have q:(_:Nat)=_:=q;lia)) (by refine⟨?_,?_,?_⟩ <;> (intro q;have q:(_:Nat)=_:=q;lia)) (by refine⟨?_,?_,?_⟩ <;> (intro q;have q:(_:Nat)=_:=q;lia)),⟨er,eI,⟨_,_,eO⟩,t1,t2⟩,λc hc=>?_,kR _ H1 aL M1 q1 q2 λM2 H2 aK=>?_⟩
   .
    have hle:s1⁻¹<=c:=by simp only[eA,l5,xL]at hc;rcases hc with rfl |rfl |rfl |rfl |rfl <;> lia
    exact I1.BP hle (I1.hok.fresh hle)
   .
    have s1':=hK▸sq1 M2 H2 aK;have s2':=hK▸sq2 M2 H2 aK;have R1:=rr1.stay aK;have R2:=Qj.stay aK;refine⟨λn d hd=>?_,xs,ys,s1',s2',?_⟩
    .
     obtain⟨x,y,f1,f2,rfl⟩:=HD hd;obtain⟨vx,e2,e3⟩:=R1.get f1;obtain⟨vy,e4,e5⟩:=R2.get f2;refine⟨⟨xs,ys,vx,vy,s1',s2',e2,e4⟩,λw H' hy z' g' σ' aB hz' s'=>?_⟩
     obtain⟨p,u,v,w1,w2,w3,rfl,rfl⟩:=hy;have w1:=w1 xs s1';have w2:=w2 ys s2';rw[e2]at w1;cases w1;rw[e4]at w2;cases w2;exact⟨s'.laid w3,ao.laid w3,.tup (.inl ⟨s'.fresh w3,.inl aE⟩) (.cons (e3.stay (ao.laid w3)) (.cons (e5.stay (ao.laid w3)) .nil))⟩
    . rw[HF,rr1.length,Qj.length];lia
end
end Ev
namespace L2
def Al(T:List Addr)(H:Hp):Prop:=∀b,(b∈T/\H b=some (.kW #[]))\/(b∉T/\(H b=none\/∃o xs,H b=some (.iU o (.lst xs))))
theorem Ds{P:Program}{w:World}{K:Frag}{mg mb:Str->Option Value}{CX:Cb}{k:Nat}{fa a:Addr}{fd:FuncData}{x:Str}{sp:Sp}{s₁:Shared}{vs:List Value}{ns: ~~~0}{T:List Addr}
  (KX:K.In s₁.heap) (hT:∀q∈T,(∃c,s₁.heap.TableAt c q #[])/\K.lookup q=none) (hns:s₁.heap.Ns mainGlobals mg) (hb:s₁.heap.Ns builtinsNs mb) (hbb:∀x:Str,x≠ "__name__" ->mb x=bootBuiltins x) (hlim:s₁.heap.NoLimit) (hg:s₁.gens = #[])
  (ha:s₁.heap.get? a=some { cls:=.type "list",data:=.seq vs.toArray}) (hi:IntsAre vs ns) (hl:ns.length<=sizeLine) (hr:bS k callerA)
  (F:∀base:Heap,K.In base->base.Ns mainGlobals mg->ji P w K mg base CX k fa fd [x] sp) (hbind:∀(s:Shared) (u:Value),BindsTo s fd ⟨[u],[]⟩ [(x,u)])
  (Wv:∀H:Hp,Al T H->cz K H a (ns.map V.int)->sp [.ref a] H (λv _=>v=.bl true) λ_ _ _=>False)
  (hCX:∀H e s',CX [] H s₁ (λ_ _ _=>False) e s'->False) :
  codeAny (model P w) callerA (.call (.ref fa) ⟨[.ref a],[]⟩) (λr s'=>r=.ok (.ret (.bool true))/\OldK s₁.heap s'.heap/\s'.os=s₁.os/\AllBare s'.gens) s₁:=by
 have rv:=lu hi;have lenV:=hi.length;have aT:a∉T:=λh=>by
  obtain⟨⟨c,_,e⟩,_⟩:=hT a h;rw[ha]at e;cases e
 have core:∀H:Hp,Al T H->cz K H a (ns.map V.int)->kX P w H s₁.heap->(∀b,H b≠none->b=a\/b∈T)->(H a≠none->K.lookup a=none)->
   codeAny (model P w) callerA (.call (.ref fa) ⟨[.ref a],[]⟩) (λr s'=>r=.ok (.ret (.bool true))/\OldK s₁.heap s'.heap/\s'.os=s₁.os/\AllBare s'.gens) s₁:=by
  intro H hO hS hok hA hK;have Am:∀{b:Addr}{o:Obj},s₁.heap.get? b=some o->H b=none->(sN s₁.heap H).get? b=some o:=λe n=>Fp e n
  have XT:∀{b:Addr}{o:Obj}{es:Array DictEntry}{ep:Nat},s₁.heap.get? b=some o->o.data=.dict es ep->H b=none:=λ{b o es ep} e d=>by
   cases q:H b with
   |none=>rfl
   |some u=>
    rcases hA b (by rw[q];simp)with e' |e'
    . subst e';rw[ha]at e;cases e;have d':Data.seq vs.toArray _=Data.dict es ep:=d;cases d'
    . obtain⟨⟨c,_,e2⟩,_⟩:=hT b e';rw[e]at e2;cases e2;have d':Data.fields #[]=Data.dict es ep:=d;cases d'
  have nsK:∀{b:Addr}{m:Str->Option Value},s₁.heap.Ns b m->(sN s₁.heap H).Ns b m:=λ{b m} ⟨o,es,ep,e,d,r⟩=>⟨o,es,ep,Am e (XT e d),d,r⟩
  have Qm:K.In (sN s₁.heap H):=λb o e=>Am (KX b o e) (by
   cases q:H b with
   |none=>rfl
   |some u=>
    rcases hA b (by rw[q];simp)with e' |e'
    . subst e';rw[hK (by rw[q];simp)]at e;cases e
    .
     rw[(hT b e').2]at e;cases e)
  have hM:Mod K mg (sN s₁.heap H):=⟨Qm,nsK hns,⟨mb,nsK hb,hbb⟩,let ⟨mc,h1,h2⟩:=hlim;⟨mc,nsK h1,h2⟩⟩
  have e0:FT P w K mg (sN s₁.heap H) callerA [] s₁ H:=⟨rfl,hM,λb o e=>Kr e,Nat.le_of_eq (BL _ _),trivial,λb hb=>absurd (show b∈([]:List Addr)from hb) ⋯,hok,.of_eq hg⟩
  refine Bi ((F _ Qm (nsK hns)).run callerA [] s₁ H ⟨[.ref a],[]⟩ [.ref a] [.ref a] _ _ hr e0 (hbind s₁ (.ref a)) (.cons rfl .nil) (Wv H hO hS)) λr s' h=>?_
  cases r with
  |error e=>exact (hCX H e s' h).elim
  |ok fl=>
   cases fl with
   |next=>exact False.elim h
   |brk=>exact False.elim h
   |cont=>exact False.elim h
   |ret u=>
    obtain⟨v,H',os,bare,un,M8,r',q⟩:=h;have q':v=.bl true:=q;subst q';obtain rfl:u=Value.bool true:=r';have tabs:∀b∈T,∀o,s₁.heap.get? b=some o->∃more,o={ cls:=.none,data:=.fields #[]}/\s'.heap.get? b=some { cls:=.none,data:=.fields more}:=λb hb o e=>by
     obtain⟨⟨c,_,e2⟩,_⟩:=hT b hb;rw[e]at e2;cases e2;rcases hO b with ⟨_,z⟩ |⟨z,_⟩
     . obtain⟨more,z2⟩:=un.jT b _ z;exact⟨_,rfl,M8 b _ z2⟩
     . exact absurd hb z
    have rest:∀b,b∉T->∀o,s₁.heap.get? b=some o->s'.heap.get? b=some o:=λb hb o e=>by
     cases q:H b with
     |none=>exact un.keep b o e q (by intro z;exact absurd (show b∈([]:List Addr)from z) ⋯) ⋯
     |some u=>
      rcases hO b with ⟨z,_⟩ |⟨_,z⟩
      . exact absurd z hb
      .
       rcases z with z |⟨ob,xs,z⟩
       . rw[q]at z;cases z
       . have z2:=un.jS b ob _ z;obtain⟨e1,_⟩:=hok b _ z;obtain⟨e2,_⟩:=M8 b _ z2;rw[e]at e1;cases e1;exact e2
    refine⟨rfl,⟨λb o e=>?_,λb o e=>?_⟩,os,bare⟩
    .
     by_cases hb:b∈T
     . obtain⟨more,rfl,e2⟩:=tabs b hb o e;obtain⟨⟨c,t⟩,_⟩:=hT b hb;exact .inr (.inl ⟨t.isCodeTable,rfl,#[],more,rfl,by rw[e2];simp⟩)
     . exact .inl (rest b hb o e)
    .
     by_cases hb:b∈T
     . obtain⟨more,rfl,e2⟩:=tabs b hb o e;exact⟨_,e2⟩
     . exact⟨_,rest b hb o e⟩
 have HJ:∀b∈T,s₁.heap.get? b=some { cls:=.none,data:=.fields #[]}:=λb hb=>by
  obtain⟨⟨c,_,e2⟩,_⟩:=hT b hb;exact e2
 cases hk:K.lookup a with
 |some o=>
  have e:=KX a o hk;rw[ha]at e;cases e;refine core (λb=>if b∈T then some (.kW #[])else none) (λb=>?_) (.inr ⟨_,vs.toArray,_,hk,rfl,rfl,rfl,by rw[dE,lenV];exact hl,by simpa using rv⟩) (λb u z=>?_) (λb z=>?_) λz=>absurd (hU aT) z
  .
   by_cases hb:b∈T
   . exact .inl ⟨hb,gL hb⟩
   . exact .inr ⟨hb,.inl (hU hb)⟩
  .
   by_cases hb:b∈T
   . have z':=(gL hb).symm.trans z;cases z';exact HJ b hb
   . have z':=(hU hb).symm.trans z;cases z'
  .
   by_cases hb:b∈T
   . exact .inr hb
   . exact absurd (hU hb) z
 |none=>
  refine core (λb=>if b∈T then some (.kW #[])else if b=a then some (.iU { cls:=.type "list",data:=.seq vs.toArray} (.lst (ns.map V.int)))else none) (λb=>?_) (.inl (.inr ⟨{ cls:=.type "list",data:=.seq vs.toArray},(hU aT).trans (gL rfl)⟩)) (λb u z=>?_) (λb z=>?_) λ_=>hk
  .
   by_cases hb:b∈T
   . exact .inl ⟨hb,gL hb⟩
   .
    refine .inr ⟨hb,?_⟩;by_cases hb2:b=a
    . exact .inr ⟨_,_,(hU hb).trans (gL hb2)⟩
    . exact .inl ((hU hb).trans (hU hb2))
  .
   by_cases hb:b∈T
   . have z':=(gL hb).symm.trans z;cases z';exact HJ b hb
   .
    have z1:=(hU hb).symm.trans z;by_cases hb2:b=a
    . have z':=(gL hb2).symm.trans z1;cases z';subst hb2;exact⟨ha,by rw[fA];exact hl,vs,_,rv,ha⟩
    . have z':=(hU hb2).symm.trans z1;cases z'
  .
   by_cases hb:b∈T
   . exact .inr hb
   .
    by_cases hb2:b=a
    . exact .inl hb2
    . exact absurd ((hU hb).trans (hU hb2)) z
end L2
namespace Ev
open L2
abbrev lM(p:Addr)(o:Obj):HO:=.ext λh=>h.get? p=some o
section
theorem S.grow(s:S z g Y As M H){q:Addr}{qn:Str}{ps:Array Value}{pos:Pos}{c:Addr}(hq:(q,qn)∈z.T)(hu:∀p∈z.T,p.1=q->p.2=qn)(hp:H q=some (.kW ps))(ht:TriplesOk ps.toList)(hc:H c=some (g9 qn c))
  (ok:TriplesOk (ps ++ #[rawInt pos.line,rawInt pos.col,.ref c]).toList) (am:∀pos' cv,codeAmong pos' (ps ++ #[rawInt pos.line,rawInt pos.col,.ref c]).toList=some cv->codeAmong pos' ps.toList=some cv\/cv=.ref c) :
  S z g Y As M (upd H q (.kW (ps ++ #[rawInt pos.line,rawInt pos.col,.ref c]))) where
 sl:=s.sl.stay (ao.write (s.iG _ (s.tm _ hq))) λa ha u e=>by
  rcases s.live a (s.sub a ha)with ⟨o,e2,gr⟩ |e2
  . rw[az (λz=>by rw[z,hp]at e2;cases e2;exact gr)];exact e
  .
   exact absurd e2 (λw=>by
    have:∃xs,H a=some (.lst xs):=by
     have key:∀{g:G}{Y:Sg}{As:List Addr},Slots z.K M H g Y As->∀a∈As,∃xs,H a=some (.lst xs):=λq=>by
      induction q with
      |nil=>intro a h;symm
      |no _ ih=>exact ih
      |dat _ _ ih=>exact ih
      |own e _ _ ih=>intro a h;rcases eA.mp h with rfl |h;exact⟨_,e⟩;exact ih a h
     exact key s.sl a ha
    obtain⟨xs,e3⟩:=this;exact s.Qf e3 w)
 nd:=s.nd
 sub:=s.sub
 own:=s.own
 live:=λm hm=>by
  rcases s.live m hm with ⟨o,e,gr⟩ |e
  . exact .inl ⟨o,by rw[az (λz=>by rw[z,hp]at e;cases e;exact gr)];exact e,gr⟩
  . exact .inr e
 keep:=λb u e hb hT=>by
  rw[az (λz=>hT (by rw[z];exact gN.mpr ⟨_,hq,rfl⟩))];exact s.keep b u e hb hT
 iG:=s.iG
 m0:=s.m0
 bm:=s.bm
 jj:=s.jj
 tab:=λp h=>by
  have lam:∀d WN,H d=some (g9 WN d)->upd H q (.kW (ps ++ #[rawInt pos.line,rawInt pos.col,.ref c])) d=some (g9 WN d):=λd WN e=>by
   rw[az (λz=>by rw[z,hp]at e;cases e)];exact e
  by_cases e:p.1=q
  .
   obtain⟨p1,p2⟩:=p;have e1:p1=q:=e;have e2:p2=qn:=hu _ h e;subst e1;subst e2;refine⟨_,aE,ok,λpos' cv ec=>?_⟩
   rcases am pos' cv ec with ec |rfl
   . obtain⟨ps',h1,_,h3⟩:=s.tab _ h;have h1:H p1=some (.kW ps'):=h1;rw[hp]at h1;cases h1;obtain⟨d,e1,e2⟩:=h3 pos' cv ec;exact⟨d,e1,lam d _ e2⟩
   . exact⟨c,rfl,lam c _ hc⟩
  .
   obtain⟨ps',h1,h2,h3⟩:=s.tab p h;refine⟨ps',by rw[az e];exact h1,h2,λpos' cv ec=>?_⟩
   obtain⟨d,e1,e2⟩:=h3 pos' cv ec;exact⟨d,e1,lam d _ e2⟩
 tm:=s.tm
 tt:=s.tt
end
theorem uh(h:TriplesOk l):TriplesOk (l++[.int i a,.int j b,v]):=by
 fun_induction TriplesOk l with
 |case1=>trivial
 |case2 _ _ _ _ _ rest ih=>exact ih h
 |case3=>exact h.elim
theorem yK(h:TriplesOk l)(e:codeAmong pos (l++[.int i a,.int j b,v])=some cv):codeAmong pos l=some cv\/cv=v:=by
 fun_induction TriplesOk l with
 |case1=>
  simp only[y6,codeAmong]at e;split at e
  . exact .inr (oD e).symm
  . cases e
 |case2 line _ col _ c rest ih=>
  simp only[List.cons_append,codeAmong]at e ⊢
  split at e
  . rename_i q;rw[gL q];exact .inl e
  . rename_i q;rw[hU q];exact ih h e
 |case3=>exact h.elim
section
theorem Ao(hok:kX P w H h)(hq:H q=some (.kW ps))(hq':H' q=some (.kW (ps++more)))(k:∀b o,b≠q->h.get? b=some o->h'.get? b=some o)(tq:∃o,h'.get? q=some o)
  (kH:∀b,b<h.objs.size->b≠q->H' b=H b):Un fs [] H H' h h' where
 keep:=λb o e n _ _=>k b o (λz=>by rw[z,hq]at n;cases n) e
 slot:=λb o e n _ _=>⟨o.slots,k b o (λz=>by rw[z,hq]at n;cases n) e⟩
 free:=λb o e n _=>by rw[kH b (eQ e) (λz=>by rw[z,hq]at n;cases n)];exact n
 there:=λb o e _=>by
  by_cases hb:b=q
  . subst hb;exact tq
  . exact⟨o,k b o hb e⟩
 tups:=λb xs e=>by rw[kH b (hok.lt e) (λz=>by rw[z,hq]at e;cases e)];exact e
 jS:=λb o u e=>by rw[kH b (hok.lt e) (λz=>by rw[z,hq]at e;cases e)];exact e
 jT:=λb ps' e=>by
  by_cases hb:b=q
  . subst hb;rw[hq]at e;cases e;exact⟨_,hq'⟩
  . rw[kH b (hok.lt e) hb];exact⟨#[],by rw[e];simp⟩
end
section
theorem HN(e:h.get? p=some o):cM P w H h p (lM p o):=⟨e,⟨o,e⟩,λ_ _ e k=>k _ e⟩
theorem M9(e:h.CodeRec (.ref c) q):cM P w H h c (g9 q c):=by
 refine⟨e,?_,λh1 h2 e k=>?_⟩
 . obtain⟨c',o,vs,t,e1,e2,_⟩:=e;cases e1;exact⟨o,e2⟩
 . obtain⟨c',o,vs,t,e1,e2,e3⟩:=e;cases e1;exact⟨c,o,vs,t,rfl,k _ e2,e3⟩
theorem HQ(I:L2.Inv X ah Y H s)(hs:S z g Y As M H)(hq:(q,qn)∈z.T)(hu:∀p∈z.T,p.1=q->p.2=qn)(hcode:X.env.code=.ref c)(C:PySem.W.CodeHd X.base c q)(hqn:X.env.qual ++ "<lambda>"=qn)
  (hb:X.base.BuiltinsAt X.mg q) (YW:mainGlobals≠q) (hdef:defaultsOf params X.env=([],[])) (B:bu X.env.scope scope)
  (h:∀(p c':Addr) (jh:Value) (cl:List (Str×Addr)) (H':Hp) (s':Shared),L2.Inv X ah Y H' s'->S z g Y As M H'->ao M H M H'->p∉M->
   H' p=some (lM p (PySem.W.kla_obj "<lambda>" qn params body scope cl ((X.mg "__name__").getD .none) c' jh))->H' c'=some (g9 qn c')->
   (∀x c,cl.lookup x=some c->X.env.cells.lookup x=some c/\(x,NameKind.free)∈scope.names)->(∀y∈scope.names,y.2=.free->∃c,cl.lookup y.1=some c)->(∀b xs,H b=some (.lst xs)->H' b=some (.lst xs))->Q (.ref p) s') :
  wpAny (~~~2) X.A (eval (.Lambda params body scope pos) X.env) Q E s:=by
 refine PySem.W.kla_eval hdef ?_;rw[hqn];obtain⟨ps,hp,ht,hcs⟩:=hs.tab _ hq;have hp:H q=some (.kW ps):=hp;have hP:s.heap.get? q=some (PySem.W.tabObj ps):=I.hok q _ hp;obtain⟨cl,hcl,Kc,Ue⟩:=ou (scope:=scope) (env:=X.env) λy hy e=>I.ok.has y.1 (by
  rcases B.free y hy e with e |e
  . exact .inl e
  .
   exact .inr e)
 have qlt:q<s⁻¹:=eQ hP;cases hf:codeAmong pos ps.toList with
 |some cv=>
  obtain⟨c',rfl,hc'⟩:=hcs pos cv hf;refine PySem.W.kla_makeFunctionHit hcl I.ok.glob (I.ok.mod.glob.keeps I.bk) hcode (C.keeps I.bk) hP ht hf (hb.keeps I.bk) λjh h' tk hk jP=>?_
  have hk2:∀b o,s.heap.get? b=some o->(h'.push (PySem.W.kla_obj "<lambda>" qn params body scope cl ((X.mg "__name__").getD .none) c' jh)).get? b=some o:=λb o e=>bP _ (hk b o e)
  have fr:H h'.objs.size=none:=I.hok.fresh jP;have kH:∀b,b<s⁻¹->b≠q->upd H h'.objs.size (lM h'.objs.size (PySem.W.kla_obj "<lambda>" qn params body scope cl ((X.mg "__name__").getD .none) c' jh)) b=H b:=λb hb _=>az (i7 (eD hb jP))
  have WN:q≠h'.objs.size:=i7 (eD qlt jP);refine h _ c' jh cl (upd H h'.objs.size (lM h'.objs.size (PySem.W.kla_obj "<lambda>" qn params body scope cl ((X.mg "__name__").getD .none) c' jh))) _ (I.call' (s':={ s with heap:=h'.push (PySem.W.kla_obj "<lambda>" qn params body scope cl ((X.mg "__name__").getD .none) c' jh),toks:=tk}) (ch:=[]) rfl
   (Ao (more:=#[]) I.hok hp (by rw[az WN,hp];simp) (λb o _ e=>hk2 b o e) ⟨_,hk2 _ _ hP⟩ kH) (I.hok.laid hk2 jP (HN (eM _ rfl))) I.bare λb z=>nomatch z) (hs.laid fr) (ao.laid fr) (hs.fresh fr) aE ?_ Kc Ue λb xs e=>by rw[az (aI e fr)];exact e
  rw[az (λz=>by rw[z,fr]at hc';cases hc')];exact hc'
 |none=>
  refine PySem.W.kla_makeFunction hcl I.ok.glob (I.ok.mod.glob.keeps I.bk) hcode (C.keeps I.bk) hP ht hf YW (hb.keeps I.bk) λc' jh h' tk hx hc1 hc2 YX hP'=>?_
  have jP:s⁻¹<=h'.objs.size:=C0 (BI hc1 hc2);have hk2:∀b o,b≠q->s.heap.get? b=some o->(h'.push (PySem.W.kla_obj "<lambda>" qn params body scope cl ((X.mg "__name__").getD .none) c' jh)).get? b=some o:=λb o ne e=>bP _ (hx b o ne e)
  have frc:H c'=none:=I.hok.fresh hc1;have frp:H h'.objs.size=none:=I.hok.fresh jP;have qc:q≠c':=i7 (eD qlt hc1);have qp:q≠h'.objs.size:=i7 (eD qlt jP);have cp:c'≠h'.objs.size:=i7 hc2;have s1:=hs.laid (o:=g9 qn c') frc;have e1:upd H c' (g9 qn c') q=some (.kW ps):=by rw[az qc];exact hp
  have s2:=s1.grow (pos:=pos) hq hu e1 ht aE (by rw[Array.toList_append];exact uh ht) (λpos' cv e=>yK ht (by rw[Array.toList_append]at e;exact e))
  have YZ:upd (upd H c' (g9 qn c')) q (.kW (ps ++ #[rawInt pos.line,rawInt pos.col,.ref c'])) h'.objs.size=none:=by rw[az qp.symm,az cp.symm];exact frp
  have s3:=s2.laid (o:=lM h'.objs.size (PySem.W.kla_obj "<lambda>" qn params body scope cl ((X.mg "__name__").getD .none) c' jh)) YZ;have kH:∀b,b<s⁻¹->b≠q->upd (upd (upd H c' (g9 qn c')) q (.kW (ps ++ #[rawInt pos.line,rawInt pos.col,.ref c']))) h'.objs.size (lM h'.objs.size (PySem.W.kla_obj "<lambda>" qn params body scope cl ((X.mg "__name__").getD .none) c' jh)) b=H b:=λb hb ne=>by
   rw[az (i7 (eD hb jP)),az ne,az (i7 (eD hb hc1))]
  have hq3:upd (upd (upd H c' (g9 qn c')) q (.kW (ps ++ #[rawInt pos.line,rawInt pos.col,.ref c']))) h'.objs.size (lM h'.objs.size (PySem.W.kla_obj "<lambda>" qn params body scope cl ((X.mg "__name__").getD .none) c' jh)) q=some (.kW (ps ++ #[rawInt pos.line,rawInt pos.col,.ref c'])):=by rw[az qp];exact aE
  have hc3:upd (upd (upd H c' (g9 qn c')) q (.kW (ps ++ #[rawInt pos.line,rawInt pos.col,.ref c']))) h'.objs.size (lM h'.objs.size (PySem.W.kla_obj "<lambda>" qn params body scope cl ((X.mg "__name__").getD .none) c' jh)) c'=some (g9 qn c'):=by rw[az cp,az qc.symm];exact aE
  have hP2:=bP (PySem.W.kla_obj "<lambda>" qn params body scope cl ((X.mg "__name__").getD .none) c' jh) hP';have M8:kX X.prog X.w (upd (upd (upd H c' (g9 qn c')) q (.kW (ps ++ #[rawInt pos.line,rawInt pos.col,.ref c']))) h'.objs.size (lM h'.objs.size (PySem.W.kla_obj "<lambda>" qn params body scope cl ((X.mg "__name__").getD .none) c' jh))) (h'.push (PySem.W.kla_obj "<lambda>" qn params body scope cl ((X.mg "__name__").getD .none) c' jh)):=λb u e=>by
   by_cases b1:b=h'.objs.size
   . subst b1;rw[aE]at e;cases e;exact HN (eM _ rfl)
   .
    by_cases b2:b=q
    . subst b2;rw[hq3]at e;cases e;exact hP2
    .
     by_cases b3:b=c'
     .
      subst b3;rw[hc3]at e;cases e;exact M9 (by
       obtain⟨d,o,vs,t,e1,e2,e3⟩:=YX;exact⟨d,o,vs,t,e1,bP _ e2,e3⟩)
     .
      rw[az b1,az b2,az b3]at e;refine (I.hok b u e).stay (λd o hd eo=>hk2 d o (λz=>?_) eo) (λd ed=>?_) λd xs ed=>?_
      .
       rcases hd with hd |hd
       . exact b2 (hd▸z)
       . rw[z,hp]at hd;cases hd
      . rw[kH d (I.hok.lt ed) (λz=>by rw[z,hp]at ed;cases ed)];exact ed
      . rw[kH d (I.hok.lt ed) (λz=>by rw[z,hp]at ed;cases ed)];exact ed
  refine h _ c' jh cl _ _ (I.call' (s':={ s with heap:=h'.push (PySem.W.kla_obj "<lambda>" qn params body scope cl ((X.mg "__name__").getD .none) c' jh),toks:=tk}) (ch:=[]) rfl
   (Ao I.hok hp hq3 hk2 ⟨_,hP2⟩ kH) M8 I.bare λb z=>nomatch z) s3 ?_ (hs.fresh frp) aE hc3 Kc Ue λb xs e=>by rw[az (aI e frp),az (λz=>by rw[z,hp]at e;cases e),az (aI e frc)];exact e
  exact ((ao.laid frc).trans (ao.write (hs.iG _ (hs.tm _ hq)))).trans (ao.laid YZ)
end
noncomputable def v5(X:Cx)(N:List Str)(qual:Str)(scope:Scope)(p:Addr)(cd:Value)(cl:List (Str×Addr))(s:Shared)(H:Hp)(xe:Value->Shared->Prop):Cx where
 prog:=X.prog
 w:=X.w
 K:=X.K
 mg:=X.mg
 base:=X.base
 A:=X.A.deeper (PySem.W.envX qual scope s⁻¹ p cd cl)
 N:=N
 s₀:=s
 H₀:=H
 env:=PySem.W.envX qual scope s⁻¹ p cd cl
 outer:=X.stack
 stack:=PySem.W.envX qual scope s⁻¹ p cd cl::X.stack
 ex:=[]
 calm:=true
 fn:=λ_=>false
 pn:=[]
 xe:=xe
structure um(N:List Str)(Y:Sg)(scope:Scope)(cl:List (Str×Addr))(H:Hp)(h:Heap):Prop where
 inj:∀x y c,cl.lookup x=some c->cl.lookup y=some c->x=y
 has:∀x,scope.names.lookup x=some .cell\/scope.names.lookup x=some .free->∃c,cl.lookup x=some c
 cell:∀x c,cl.lookup x=some c->H c=none/\∃v,h.IsCell c v
 loc:∀(i:Nat) (x:Str) (v:V),N[i]?=some x->Y[i]?=some (some v)->uW scope x->scope.names.lookup x=some .free/\∃u c,RelV v u/\cl.lookup x=some c/\h.IsCell c (some u)
 len:Y.length=N.length
section
theorem Nb(I:L2.Inv X ah Y H s)(hc:X.calm=true)(hk:scope.kind=.function)(C:um N σ0 scope cl H s.heap)(hk₁:∀b o,s.heap.get? b=some o->h₁.get? b=some o)(hns:h₁.Ns s⁻¹ m) :
  L2.Inv (v5 X N qual scope p cd cl s H xe) [] σ0 H { s with heap:=h₁,toks:=tk}:=by
 have e0:=I.KJ;refine⟨⟨e0.mod,hk,rfl,rfl,eC _,C.inj,C.has,(λ_ _ h=>nomatch h),λ_=>I.ok.hd hc,Around.frames_deeper e0.frames,.inr ⟨rfl,rfl⟩,(λb z=>nomatch z),e0.bs,e0.Ft,(λ_ _ _ z=>nomatch z),(λb z=>nomatch z),e0.jU,e0.Ku⟩,
  rfl,e0.bare,Un.kept hk₁,⟨m,hns,λi x v h1 h2 h3=>?_⟩,λx c e=>?_,e0.hok.fresh (eC _),λx c e=>(C.cell x c e).1,(λp hp=>nomatch hp),e0.hok.kept hk₁,C.len⟩
 . obtain⟨f,u,c,r,e1,e2⟩:=C.loc i x v h1 h2 h3;exact⟨u,r,.inr ⟨.inr f,c,e1,e2.keeps hk₁⟩⟩
 . obtain⟨v,q⟩:=(C.cell x c e).2;exact⟨v,q.keeps hk₁⟩
theorem HR{z:Z}{g g':G}{As M:List Addr}{body:Expr}{params:Arguments}{pm jh:Value}{c' C:Addr}{R:Result->Shared->Prop}(I:L2.Inv X ah Y H s)(hc:X.calm=true)(hroom:X.A.depth<recursionLimit)
  (hp:s.heap.get? p=some (PySem.W.kla_obj "<lambda>" qual params body scope cl pm c' jh)) (YX:s.heap.CodeRec (.ref c') qual) (hpar:bindArgs (PySem.W.kla_fn "<lambda>" qual params body scope cl pm (.ref c') jh) ⟨[],[]⟩=pure [])
  (hco:scope.isCoroutine=false) (hgen:scope.isGenerator=false) (hk:scope.kind=.function) (hnc:∀x∈scope.names,x.2≠.cell) (Cl:um N σ0 scope cl H s.heap) (hS:S z g σ0 As M H)
  (hb:∀xe,PassesOwn (~~~2) (X.A.deeper (PySem.W.envX qual scope s⁻¹ p (.ref c') cl)) (PySem.W.envX qual scope s⁻¹ p (.ref c') cl) xe->u9 (v5 X N qual scope p (.ref c') cl s H xe) z body g C g')
  (hR:∀x H1 aL M1 s'',Fd X.prog X.w X.stack H s (λc o h=>c=.ref C/\o=none/\h=H1) (.ref x) s''->S z g' σ0 aL M1 H1->ao M H M1 H1->R (.error (.ref x)) s'') :
  codeAny (~~~2) X.A (.call (.ref p) ⟨[],[]⟩) R s:=by
 refine PySem.W.kla_callFunE hroom hp rfl hco hgen rfl YX ?_;rw[hpar];refine dS (wpAny_newFunctionEnv hnc (λy hy=>nomatch hy) (λh₁ hns hsb=>⟨(I.nolimit).fresh _ hsb,?_⟩) hk)
 have hk₁:∀b o,s.heap.get? b=some o->h₁.get? b=some o:=λb o e=>hsb.extBut b o (i7 (eQ e)) (bP _ e)
 refine PySem.W.kla_codeExpr ?_;obtain⟨t,q,k⟩:=hb (λe' s'=>wpAny (~~~2) (X.A.deeper (PySem.W.envX qual scope s⁻¹ p (.ref c') cl)) (leaving (PySem.W.envX qual scope s⁻¹ p (.ref c') cl) e') (λ_ s''=>R (.error e') s'') (λe'' s''=>R (.error e'') s'') s') PassesOwn.leaving
 have J:=Nb (N:=N) (qual:=qual) (p:=p) (cd:=.ref c') (σ0:=σ0) (tk:=s.toks+([]:List (Str×Value)).length) (xe:=λe' s'=>wpAny (~~~2) (X.A.deeper (PySem.W.envX qual scope s⁻¹ p (.ref c') cl)) (leaving (PySem.W.envX qual scope s⁻¹ p (.ref c') cl) e') (λ_ s''=>R (.error e') s'') (λe'' s''=>R (.error e'') s'') s') I hc hk Cl hk₁ hns
 refine lL (q [] _ σ0 H (λ_ _=>False) J (k σ0 As M H _ hS λpins1 s1 H1 aL M1 x I1 S1 st fl=>?_)) (λv s' h=>?_) λ_ _ h=>h
 . exact rH I1 rfl rfl rfl fl λs'' cx=>hR x H1 aL M1 s'' cx S1 st
 . obtain⟨_,_,_,_,h⟩:=h;exact h.elim
end
section
theorem Inv.cnl(I:L2.Inv X [] Y H s):∀y c,X.env.cells.lookup y=some c->c≠X.env.locals:=λy c e q=>by
 obtain⟨v,o,h1,h2⟩:=I.cell y c e;obtain⟨m,⟨o',es,ep,h3,h4,_⟩,_⟩:=I.loc;rw[q,h3]at h1;cases h1;rw[h4]at h2;cases h2
theorem Inv.touch(I:L2.Inv X [] Y H s)(hp:X.pn=[])(hT:X.s₀.heap.get? T=none)(hH:H T=none)(hf:∃o vs,s.heap.get? T=some o/\o.data=.fields vs)(k:∀b o,b≠T->s.heap.get? b=some o->h'.get? b=some o)(kT:∃o,h'.get? T=some o) :
  L2.Inv X [] Y H { s with heap:=h'}:=by
 obtain⟨oT,ts,eT,dT⟩:=hf;have Nc:∀b o,X.s₀.heap.get? b=some o->b≠T:=λb o e q=>by rw[q,hT]at e;cases e
 have Y0:∀b o,s.heap.get? b=some o->(∀vs,o.data≠.fields vs)->b≠T:=λb o e d q=>by rw[q,eT]at e;cases e;exact d _ dT
 have cellK:∀c v,s.heap.IsCell c v->h'.IsCell c v:=λc v ⟨o,e,d⟩=>⟨o,k c o (Y0 c o e λvs q=>by rw[d]at q;cases q) e,d⟩
 obtain⟨m,⟨o,es,ep,e,d,r⟩,hlk⟩:=I.loc;refine⟨I.ok,I.os,I.bare,⟨λb o e n hb hx=>?_,λb o e n hb hx=>?_,I.base.free,λb o e hx=>?_,I.base.tups,I.base.jS,I.base.jT⟩,⟨m,⟨o,es,ep,k _ _ (Y0 _ _ e λvs q=>by rw[d]at q;cases q) e,d,r⟩,λi y v h1 h2 h3=>?_⟩,λy c e=>?_,I.free,I.dQ,λp hp2=>?_,λb u e=>?_,I.len⟩
 . exact k b o (Nc b o e) (I.base.keep b o e n hb hx)
 . obtain⟨sl,e1⟩:=I.base.slot b o e n hb hx;exact⟨sl,k b _ (Nc b o e) e1⟩
 . obtain⟨o',e1⟩:=I.base.there b o e hx;exact⟨o',k b _ (Nc b o e) e1⟩
 . obtain⟨u,r,q⟩:=hlk i y v h1 h2 h3;exact⟨u,r,q.imp id λ⟨q1,c,q2,q3⟩=>⟨q1,c,q2,cellK c _ q3⟩⟩
 . obtain⟨v,q⟩:=I.cell y c e;exact⟨v,cellK c v q⟩
 . rw[hp]at hp2;cases hp2
 .
  refine (I.hok b u e).stay (λc w hc q=>k c w (λz=>?_) q) (λ_ q=>q) λ_ _ q=>q
  subst z;rcases hc with rfl |hc
  . rw[hH]at e;cases e
  . rw[hH]at hc;cases hc
theorem v7(I:L2.Inv X [] Y H s)(hp:X.pn=[])(fl:u6 X.s₀.heap x C H s.heap)(h:∀s',L2.Inv X [] Y H s'->u6 X.s₀.heap x C H s'.heap->Q () s') :
  wpAny M A (setFlight (.ref x) none) Q E s:=by
 obtain⟨⟨oe,vs,he,hc,bN,hd,jP,hT⟩,Wy,Wz⟩:=id fl;unfold setFlight;rcases hT with hT |⟨T,oT,ts,h1,TL,hTn,hTH,J7,J8,h3⟩
 . refine aS (mI he hd hT ?_);rw[hU ⋯];exact dS (h s I fl)
 .
  refine aS (mI he hd h1 ?_);rw[gL (show (Value.ref T != Value.none)=true from by simp)]
  refine A5 J7 J8 (Ap.mp h3).1 ?_;have other:∀b,b≠T->(s.heap.update T (Obj.mapFields (·.setIfInBounds 3 Value.none))).get? b=s.heap.get? b:=λb hb=>i6 _ _ (nV hb)
  have Y3:=wT J8 (·.setIfInBounds 3 Value.none);have L5:=oP (Obj.mapFields (·.setIfInBounds 3 Value.none)) J7 (AC Y3);refine h _ (Inv.touch I hp hTn hTH ⟨oT,ts,J7,J8⟩ (λb o hb e=>(other b hb).trans e) ⟨_,L5⟩) ⟨⟨oe,vs,(other x (nV TL)).trans he,hc,bN,hd,jP,.inr ⟨T,_,_,h1,TL,hTn,hTH,L5,Y3,?_⟩⟩,Wy,Wz⟩
  have:=(Ap.mp h3).1;simp[this]
theorem Inv.Ug(I:L2.Inv X [] Y H s)(hp:X.pn=[])(fl:u6 X.s₀.heap x C H s.heap):L2.Inv X [] Y (upd H x (yt C x)) s:=by
 obtain⟨⟨oe,vs,he,hc,bN,hd,jP,hT⟩,Wy,Wz⟩:=id fl;have Nc:∀b o,X.s₀.heap.get? b=some o->b≠x:=λb o e q=>by rw[q,Wy]at e;cases e
 have Y0:∀b o,s.heap.get? b=some o->(∀vs,o.data≠.fields vs)->b≠x:=λb o e d q=>by rw[q,he]at e;cases e;exact d _ hd
 have Y4:∀b u,H b=some u->b≠x:=λb u e q=>by rw[q,Wz]at e;cases e
 refine⟨I.ok,I.os,I.bare,⟨I.base.keep,I.base.slot,λb o e n hx=>?_,I.base.there,λb xs e=>?_,λb o u e=>?_,λb ps e=>?_⟩,I.loc,I.cell,?_,λy c e=>?_,λp hp2=>?_,λb u e=>?_,I.len⟩
 . rw[az (Nc b o e)];exact I.base.free b o e n hx
 . have:=I.base.tups b xs e;rw[az (Y4 _ _ this)];exact this
 . have:=I.base.jS b o u e;rw[az (Y4 _ _ this)];exact this
 . obtain⟨more,this⟩:=I.base.jT b ps e;exact⟨more,by rw[az (Y4 _ _ this)];exact this⟩
 . obtain⟨m,⟨o,es,ep,e,d,_⟩,_⟩:=I.loc;rw[az (Y0 _ _ e λvs q=>by rw[d]at q;cases q)];exact I.free
 . obtain⟨v,o,e1,d⟩:=I.cell y c e;rw[az (Y0 _ _ e1 λvs q=>by rw[d]at q;cases q)];exact I.dQ y c e
 . rw[hp]at hp2;cases hp2
 .
  by_cases hb:b=x
  .
   subst hb;rw[aE]at e;cases e;refine⟨⟨oe,he,hc,?_,bN⟩,⟨oe,he⟩,λh1 h2 ⟨o,q,r⟩ k=>⟨o,k o q,r⟩⟩
   unfold PySem.W.notCls;rw[hd]
  . rw[az hb]at e;exact (I.hok b u e).stay (λ_ _ _ q=>q) (λc q=>by rw[az (Y4 _ _ q)];exact q) λc xs q=>by rw[az (Y4 _ _ q)];exact q
abbrev Cx.marked(X:Cx)(e:Value)(E:Value->Shared->Prop):Cx:={ X with A:=X.A.mark (some e),calm:=false,xe:=E}
theorem Inv.marked(I:L2.Inv X ah Y H s)(e:Value)(E:Value->Shared->Prop):L2.Inv (Cx.marked X e E) ah Y H s:=
 ⟨⟨I.ok.mod,I.ok.kind,I.ok.glob,I.ok.blt,I.ok.above,I.ok.inj,I.ok.has,I.ok.QS,(λh=>nomatch h),I.ok.frames,I.ok.stk,I.ok.Wt,I.ok.bs,I.ok.Ft,I.ok.vm,I.ok.x6,I.ok.jU,I.ok.Ku⟩,I.os,I.bare,I.base,I.loc,I.cell,I.free,I.dQ,I.pin,I.hok,I.len⟩
theorem Inv.unmarked(ok:X.Ok)(I:L2.Inv (Cx.marked X e E) ah Y H s):L2.Inv X ah Y H s:=
 ⟨ok,I.os,I.bare,I.base,I.loc,I.cell,I.free,I.dQ,I.pin,I.hok,I.len⟩
theorem Inv.gone(I:L2.Inv X [] Y H s)(hp:X.pn=[])(hN:X.N.Nodup)(hi:X.N[i]?=some n)(hlk:∀(j:Nat) (y:Str) (v:V),X.N[j]?=some y->Y[j]?=some (some v)->uW X.env.scope y->∃u,RelV v u/\Look X.env s.heap m y u)
  {h':Heap}{w:Option Value}{tk:Nat} (hn':h'.Ns X.env.locals (λy=>if y=n then w else m y)) (hs:Heap.SameBut X.env.locals s.heap h'):L2.Inv X [] (Y.set i none) H { s with heap:=h',toks:=tk}:=by
 have Nc:∀b o,X.s₀.heap.get? b=some o->b≠X.env.locals:=λb o e=>i7 (eD (eQ e) I.ok.above)
 refine⟨I.ok,I.os,I.bare,⟨λb o e n hb hx=>?_,λb o e n hb hx=>?_,I.base.free,λb o e hx=>?_,I.base.tups,I.base.jS,I.base.jT⟩,⟨_,hn',λj y v h1 h2 h3=>?_⟩,λy c e=>?_,I.free,I.dQ,λp hp2=>?_,λb u e=>?_,by rw[yY];exact I.len⟩
 . exact (hs.2 b (Nc b o e)).trans (I.base.keep b o e n hb hx)
 . obtain⟨sl,e1⟩:=I.base.slot b o e n hb hx;exact⟨sl,(hs.2 b (Nc b o e)).trans e1⟩
 . obtain⟨o',e1⟩:=I.base.there b o e hx;exact⟨o',(hs.2 b (Nc b o e)).trans e1⟩
 .
  by_cases hj:j=i
  .
   subst hj;have hl:j<Y.length:=by rw[I.len];exact (dL.mp h1).1
   rw[i8 hl]at h2;cases h2
  .
   rw[fN (nV hj)]at h2;obtain⟨u,r,q⟩:=hlk j y v h1 h2 h3;refine⟨u,r,?_⟩;have hyn:y≠n:=λq=>hj (nX hN h1 (q▸hi))
   rcases q with ⟨k,e⟩ |⟨k,c,e,z⟩
   . exact .inl ⟨k,by show (if y=n then w else m y)=some u;rw[hU hyn];exact e⟩
   . exact .inr ⟨k,c,e,z.sameBut hs (Inv.cnl I y c e)⟩
 . obtain⟨v,q⟩:=I.cell y c e;exact⟨v,q.sameBut hs (Inv.cnl I y c e)⟩
 . rw[hp]at hp2;cases hp2
 .
  refine (I.hok b u e).stay (λc w hc q=>(hs.2 c (λz=>?_)).trans q) (λ_ q=>q) λ_ _ q=>q
  subst z;rcases hc with hc |hc
  . rw[<- hc,I.free]at e;cases e
  . rw[I.free]at hc;cases hc
end
end Ev
namespace PySem
section
theorem jo{h:Heap}{g:Array GenState}{d:Drawn}{t:Nat}{os:OsState}{e:Addr}{oe:Obj}{Q:Bool->Shared->Prop}
  (hC:h.get? C=some (excClassObj nm q C N bs bm hdct sn sub ab col dd k0 k1 k2 k3 k5 newId)) (hD:h.get? D=some (excClassObj nm' q' D N' bs' bm' Y5 sn' sub' ab' col' dd' k0' k1' YJ k3' k5' newId'))
  (he:h.get? e=some oe) (hcls:oe.cls=.ref C) (hbase:bm'.contains (.type "BaseException")=true) (hup:(Value.ref C::bm).contains (.ref D)=true)
  (hq:Q true ⟨h,g,d,t,os⟩):wpAny M A (excMatches (.ref e) (.ref D)) Q E ⟨h,g,d,t,os⟩:=by
 have hcB:(Value.ref D::bm').contains (.type "BaseException")=true:=by rw[List.contains_cons,hbase,Bool.or_true]
 have f:=tc_notTuple;unfold excMatches
 repeat (first | (with_reducible refine wpAny_loadPart_at he ?_;rw[hcls]) |with_reducible refine wpAny_loadPart_at hD ?_ | (with_reducible refine wpAny_isSubtype_exc hD ?_;rw[hcB]) | (with_reducible refine wpAny_isSubtype_exc hC ?_;rw[hup]) |wp_step)
 exact hq
end
end PySem
namespace Ev
open L2
noncomputable def qK(K:Frag)(C D:Addr):Bool:=match K.lookup C with
 |some ⟨_,_,.cls cd,_⟩=>cd.mro.contains (.ref D)
 |_=>false
section
variable{x C D:Addr}
theorem Dt(I:L2.Inv X [] Y H s)(hp:X.pn=[])(dg:X.stack=X.env::X.outer)(hf:X.env.frame=some X.env.locals)(hex:X.ex=[])(fl:u6 X.s₀.heap x C H s.heap)(hN:X.N.Nodup)
  (hg:Gl X ke) (hm:X.mg ke=some (.ref D)) (jQ:(ke==(~~~3))=false) (qC:eV X.K C) (qD:eV X.K D) (up:qK X.K C D=true)
  (hie:X.N[ie]?=some en) (len:X.env.scope.names.lookup en=some .local) (den:(en==(~~~3))=false) (cen:(en==("__classdict__":Str))=false)
  (hir:X.N[ir]?=some er) (ler:Loc X.env.scope er) (fer:X.fn er=true\/X.env.scope.names.lookup er=some .local) (hsw:swapsWith (.Name en v8) (some (.Name er v9)) ez.line X.env=pure false)
  (h:∀s',L2.Inv X [] (((Y.set ie (some (.ref x))).set ir (some (.ref x))).set ie none) (upd H x (yt C x)) s'->Q .next s') :
  wpAny (~~~2) X.A (noteFrame (.ref x) X.env) (λ_ s2=>wpAny (~~~2) X.A (setFlight (.ref x) none) (λ_ s3=>wpAny (~~~2) X.A (handleBy (.ref x) X.env [.ExceptHandler (some (.Name ke kp)) (some en) [.Assign [.Name er v9] (.Name en v8) ez] qq]) Q E s3) E s2) E s:=by
 refine Dh I hp dg hf hex fl λs2 I2 fl2=>?_
 refine wpAny_handleBy_cons (codeAny_handlers_test ?_) (by intro q;cases q)
 refine gK (X:=Cx.marked X (.ref x) E) (Inv.marked I2 _ _) hg hm ?_ jQ;obtain⟨bm,N,nm,qn,bs,hdct,sn,sub,ab,col,dd,k0,k1,k2,k3,k5,mN,hC,_,_,TC⟩:=tZ I2.nk qC;obtain⟨bm',N',nm',WN,bs',Y5,sn',sub',ab',col',dd',k0',k1',YJ,k3',k5',mN',hD,_,_,TD⟩:=tZ I2.nk qD;obtain⟨⟨oe,vs,he,hc,_⟩,_⟩:=id fl2;have hup:(Value.ref C::bm).contains (.ref D)=true:=by
  unfold qK at up;split at up
  . rename_i cd _ ho;have:=(I2.nk _ _ ho).symm.trans hC;cases this;exact up
  . cases up
 obtain⟨hh,gg,dr,tt,oo⟩:=s2;refine jo hC hD he hc (TD.hasType ⋯) hup ?_;refine codeAny_handlers_suite_as ?_;refine v7 I2 hp fl2 λs3 I3 fl3=>?_
 have I4:=Inv.Ug I3 hp fl3;refine iD I4 hN hie (.inl len) (v:=.ref x) rfl (λs5 I5=>?_) (.inr len)
 have hl:ie<Y.length:=by rw[I.len];exact (dL.mp hie).1
 refine lL (((Ky (sS (X:=Cx.marked X (.ref x) (λ_ _=>False)) hN hir ler (gJ hie (.inl len) den cen) hsw fer)) [] s5 _ _ { nx:=λσ' H'=>σ'=(Y.set ie (some (.ref x))).set ir (some (.ref x))/\H'=upd H x (yt C x),rt:=λ_ _=>False} (Inv.marked I5 _ _) ⟨.ref x,i8 hl,rfl,rfl⟩)) (λf s6 q=>?_) λ_ _ z=>False.elim z
 cases f with
 |next=>
  obtain⟨σ',H',I6,rfl,rfl⟩:=q;have I7:=Inv.unmarked I.ok I6;obtain⟨m,hn,hlk⟩:=id I7.loc;refine wpAny_nameGoes_keeps (m:=m) len hn (by rw[I.ok.kind];rfl) λh' w hn' hs=>?_
  exact h _ (Inv.gone I7 hp hN hie hlk hn' hs)
 |ret v=>obtain⟨_,_,_,_,_,q⟩:=q;exact q.elim
 |brk=>obtain⟨_,_,_,q⟩:=q;exact q.elim
 |cont=>obtain⟨_,_,_,q⟩:=q;exact q.elim
end
noncomputable abbrev zN(z:Z)(M:List Addr)(H:Hp):Z:=⟨z.K,H,M,[],z.T⟩
def noOwn:Slot->Slot
 |.own _=>.no
 |s=>s
section
variable{g g':G}
theorem Slots.noOwn{K:Frag}(q:Slots K M H g Y As):Slots K M H (g.map Ev.noOwn) Y []:=by
 induction q with
 |nil=>exact .nil
 |no _ ih=>exact .no ih
 |dat r _ ih=>exact .dat r ih
 |own _ _ _ ih=>exact .no ih
theorem Slots.nos'{K:Frag}(Y:Sg):Slots K M H (List.replicate Y.length .no) Y []:=by
 induction Y with
 |nil=>exact .nil
 |cons v Y ih=>exact .no ih
theorem Du{i:Nat}{l:List D}(h:(g.map Ev.noOwn)[i]?=some (.own l)):False:=by
 rw[yA]at h;cases e:g[i]? with
 |none=>rw[e]at h;symm
 |some u=>rw[e]at h;cases u <;> symm
theorem S.into(s:S z g Y As M H)(sl:Slots z.K M H gn σn [])(hn:∀(i:Nat) (l:List D),gn[i]?≠some (.own l)):S (zN z M H) gn σn [] M H where
 sl:=sl
 nd:=t7
 sub:=λa h=>nomatch h
 own:=λi a l e _=>absurd e (hn i l)
 live:=s.live
 keep:=λb o e _ _=>e
 iG:=λ_ h=>h
 m0:=λm hm=>by
  rcases s.live m hm with ⟨o,e,_⟩ |e
  . intro q;rw[show H m=none from q]at e;cases e
  . obtain⟨q,hq,rfl⟩:=gN.mp e;obtain⟨ps,h1,_⟩:=s.tab q hq;intro z;rw[show H q.1=none from z]at h1;cases h1
 bm:=λb h=>nomatch h
 jj:=λp h=>nomatch h
 tab:=s.tab
 tm:=λp h=>s.iG _ (s.tm p h)
 tt:=s.tt
theorem S.after(s:S z g Y As M H)(hA:As=[])(s1:S (zN z M H) g' σ0 aL M1 H1)(st:ao M H M1 H1):S z g Y As M1 H1 where
 sl:=s.sl.stay st (λa h=>by rw[hA]at h;symm)
 nd:=s.nd
 sub:=λa h=>by rw[hA]at h;symm
 own:=s.own
 live:=s1.live
 keep:=λb o e hb ht=>s1.keep b o (s.keep b o e hb ht) (λh=>nomatch h) ht
 iG:=λm hm=>s1.iG m (s.iG m hm)
 m0:=s.m0
 bm:=s.bm
 jj:=s.jj
 tab:=s1.tab
 tm:=s.tm
 tt:=s.tt
theorem Slots.Aq{K:Frag}{i:Nat}{v:Option V}(q:Slots K M H g Y As)(e:g[i]?=some .no):Slots K M H g (Y.set i v) As:=by
 induction q generalizing i with
 |nil=>exact .nil
 |no q ih=>cases i with
  |zero=>exact .no q
  |succ i=>exact .no (ih e)
 |dat r q ih=>cases i with
  |zero=>cases e
  |succ i=>exact .dat r (ih e)
 |own a b q ih=>cases i with
  |zero=>cases e
  |succ i=>exact .own a b (ih e)
theorem S.Aq(s:S z g Y As M H)(e:g[i]?=some .no):S z g (Y.set i v) As M H where
 sl:=s.sl.Aq e
 nd:=s.nd
 sub:=s.sub
 own:=λj a l e1 e2=>s.own j a l e1 (by
  rw[fN (λq=>by rw[<- q,e]at e1;cases e1)]at e2;exact e2)
 live:=s.live
 keep:=s.keep
 iG:=s.iG
 m0:=s.m0
 bm:=s.bm
 jj:=λp hp=>by
  obtain⟨h1,l,h2⟩:=s.jj p hp;exact⟨by rw[fN (λq=>by rw[<- q,e]at h2;cases h2)];exact h1,l,h2⟩
 tab:=s.tab
 tm:=s.tm
 tt:=s.tt
end
theorem Ng(I:L2.Inv X ah Y H s)(B:bu X.env.scope scope)(nl:∀y∈scope.names,y.2≠.local)
  (Kc:∀x c,cl.lookup x=some c->X.env.cells.lookup x=some c/\(x,NameKind.free)∈scope.names) (Ue:∀y∈scope.names,y.2=.free->∃c,cl.lookup y.1=some c):um X.N Y scope cl H s.heap where
 inj:=λx y c h1 h2=>I.ok.inj x y c (Kc x c h1).1 (Kc y c h2).1
 has:=λx h=>by
  rcases h with h |h
  . exact absurd rfl (B.tF _ (L2.mem_of_lookup h))
  . exact Ue _ (L2.mem_of_lookup h) rfl
 cell:=λx c h=>⟨I.dQ x c (Kc x c h).1,I.cell x c (Kc x c h).1⟩
 loc:=λi x v h1 h2 h3=>by
  have hf:scope.names.lookup x=some .free:=by
   rcases h3 with h3 |h3 |h3
   . exact absurd rfl (nl _ (L2.mem_of_lookup h3))
   . exact absurd rfl (B.tF _ (L2.mem_of_lookup h3))
   . exact h3
  have hv:=B.free _ (L2.mem_of_lookup hf) rfl;obtain⟨m,_,hlk⟩:=I.loc;obtain⟨u,r,q⟩:=hlk i x v h1 h2 (.inr hv);obtain⟨c2,e2⟩:=Ue _ (L2.mem_of_lookup hf) rfl;rcases q with ⟨k,_⟩ |⟨_,c,e,z⟩
  . have k:X.env.scope.names.lookup x=some .local:=k;rcases hv with hv |hv <;> (have hv:X.env.scope.names.lookup x=_:=hv;rw[k]at hv;cases hv)
  . have:=(Kc _ _ e2).1;have this:X.env.cells.lookup x=some c2:=this;rw[e]at this;cases this;exact⟨hf,u,c2,r,e2,z⟩
 len:=I.len
theorem um.un(c:um N Y scope cl H h)(u:Un fs [] H H' h h'):um N Y scope cl H' h':=by
 have key:∀x a v,cl.lookup x=some a->h.IsCell a v->h'.IsCell a v:=λx a v e ⟨o,e1,d⟩=>by
  obtain⟨sl,e2⟩:=u.any e1 (c.cell x a e).1 ⋯;exact⟨_,e2,d⟩
 refine⟨c.inj,c.has,λx a e=>?_,λi x v h1 h2 h3=>?_,c.len⟩
 . obtain⟨hn,v,o,e1,d⟩:=c.cell x a e;exact⟨u.free a o e1 hn ⋯,v,key x a v e ⟨o,e1,d⟩⟩
 . obtain⟨f,w,a,r,e,z⟩:=c.loc i x v h1 h2 h3;exact⟨f,w,a,r,e,key x a _ e z⟩
section
variable{C D p c':Addr}
 {N:List Str}{qn:Str}{scope:Scope}{cl:List (Str×Addr)}{body:Expr}{params:Arguments}{pm jh:Value}{g0 Kd:G}
noncomputable abbrev HS (y ke en er:Str) (py bM qo kp v9 v8 ez qq qm:Pos):Stmt:=.Try [.Expr (.Call (.Name y py) [] [] bM) qo] [.ExceptHandler (some (.Name ke kp)) (some en) [.Assign [.Name er v9] (.Name en v8) ez] qq] [] [] qm
structure Qn(X:Cx)(C D:Addr)(y ke en er:Str)(iy ie ir:Nat):Prop where
 pn:X.pn=[]
 st:X.stack=X.env::X.outer
 fr:X.env.frame=some X.env.locals
 ex:X.ex=[]
 calm:X.calm=true
 nd:X.N.Nodup
 gk:Gl X ke
 mg:X.mg ke=some (.ref D)
 dk:(ke==(~~~3))=false
 qC:eV X.K C
 qD:eV X.K D
 up:qK X.K C D=true
 kC:EY X.K C
 ie:X.N[ie]?=some en
 le:X.env.scope.names.lookup en=some .local
 de:(en==(~~~3))=false
 ce:(en==("__classdict__":Str))=false
 ir:X.N[ir]?=some er
 lr:Loc X.env.scope er
 fn:X.fn er=true\/X.env.scope.names.lookup er=some .local
 iy:X.N[iy]?=some y
 vy:uW X.env.scope y
 dy:(y==(~~~3))=false
 cy:(y==("__classdict__":Str))=false
 room:X.A.depth<recursionLimit
structure o7(params:Arguments)(scope:Scope):Prop where
 co:scope.isCoroutine=false
 gen:scope.isGenerator=false
 kind:scope.kind=.function
 nc:∀x∈scope.names,x.2≠.cell
 nl:∀x∈scope.names,x.2≠.local
 par:params=⟨[],[],none,[],[],none,[]⟩
theorem o7.bind(h:o7 params scope):bindArgs (PySem.W.kla_fn "<lambda>" qn params body scope cl pm (.ref c') jh) ⟨[],[]⟩=pure []:=by rw[h.par];rfl
theorem Uh{ah: ~~~1}{i:Nat}{x:Str}{v:V}{pos:Pos}{E:Value->Shared->Prop}{Q:Value->Shared->Prop}(I:L2.Inv X ah Y H s)(hN:X.N[i]?=some x)(hv:uW X.env.scope x)(hd:(x==(~~~3))=false)(bN:(x==("__classdict__":Str))=false)(e:Y[i]?=some (some v))(h:∀u,RelV v u->Q u s) :
  wpAny (~~~2) X.A (eval (.Name x pos) X.env) Q E s:=by
 obtain⟨m,hn,hl⟩:=I.loc;obtain⟨u,r,l⟩:=hl i x v hN e hv;have fin:Q u s:=h u r;rcases l with ⟨hk,hm⟩ |⟨hk,c,hc,hcell⟩
 . exact C5 (wpAny_loadName_local I.ok.kind hk hn hm fin) hd
 .
  rcases hk with hk |hk
  . exact C5 (wpAny_loadName_cell I.ok.kind hk hc hcell fin) hd
  . exact C5 (wpAny_loadName_free I.ok.kind hk hc hcell fin bN) hd
theorem Nh(T:Qn X C D y ke en er iy ie ir)(L:o7 params scope)(I:L2.Inv X [] Y H s)(hS:S zf gf Y [] M H)(hK:zf.K=X.K)(hsw:swapsWith (.Name en v8) (some (.Name er v9)) ez.line X.env=pure false)(hsx:swapsWith (.Call (.Name y py) [] [] bM) none qo.line X.env=pure false)
  (hy:Y[iy]?=some (some (.ref p))) (iC:gf[ie]?=some .no) (hbr:ir∉zf.bor) (hnr:ie≠ir)
  (hp:H p=some (lM p (PySem.W.kla_obj "<lambda>" qn params body scope cl pm c' jh))) (hc':H c'=some (g9 qn c')) (Cl:um N σ0 scope cl H s.heap) (hs0:Slots zf.K M H g0 σ0 []) (hn0:∀(i:Nat) (l:List Ev.D),g0[i]?≠some (.own l))
  (hb:∀xe,PassesOwn (~~~2) (X.A.deeper (PySem.W.envX qn scope s⁻¹ p (.ref c') cl)) (PySem.W.envX qn scope s⁻¹ p (.ref c') cl) xe->u9 (v5 X N qn scope p (.ref c') cl s H xe) (zN zf M H) body g0 C Kd)
  (h:∀s' σ' H' M' aB,L2.Inv X [] σ' H' s'->S zf (gf.set ir (.dat (.mC C))) σ' aB M' H'->ao M H M' H'->Q .next s') :
  wpAny (~~~2) X.A (exec (HS y ke en er py bM qo kp v9 v8 ez qq qm) X.env) Q X.xe s:=by
 refine wpAny_Try_except (A6 (lL (wpAny_Expr_any (Q:=λ_ _=>False) ?_ I.quiet hsx) (λ_ _ z=>False.elim z) λ_ _ z=>z))
 have hpo:s.heap.get? p=some (PySem.W.kla_obj "<lambda>" qn params body scope cl pm c' jh):=(I.hok p _ hp).1;have YX:s.heap.CodeRec (.ref c') qn:=(I.hok c' _ hc').1;refine wP (Uh I T.iy T.vy T.dy T.cy hy λu r=>?_)
 cases r;refine PySem.W.callWith_F0 ⟨_,_,_,_,hpo⟩ (C6 (Bi (HR (R:=λr s'=>∃x H1 aL M1,r=.error (.ref x)/\Fd X.prog X.w X.stack H s (λc o h=>c=.ref C/\o=none/\h=H1) (.ref x) s'/\S (zN zf M H) Kd σ0 aL M1 H1/\ao M H M1 H1) I T.calm T.room hpo YX L.bind L.co L.gen L.kind L.nc Cl (S.into hS hs0 hn0) hb
  λx H1 aL M1 s'' cx S1 st=>⟨x,H1,aL,M1,rfl,cx,S1,st⟩) λr s1 ⟨x,H1,aL,M1,e,cx,S1,st⟩=>?_))
 subst e;obtain⟨x',C',H',e,I1,fl,e1,_,e3⟩:=G4 T.ex I cx;cases e;cases e1;subst e3;refine Dt I1 T.pn T.st T.fr T.ex fl T.nd T.gk T.mg T.dk T.qC T.qD T.up T.ie T.le T.de T.ce T.ir T.lr T.fn hsw λs' I'=>?_
 have s2:=S.after hS rfl S1 st;have s3:=s2.laid (o:=yt C x) fl.no;have s4:S zf gf (Y.set ie (some (.ref x))) [] M1 (upd H' x (yt C x)):=s3.Aq iC;obtain⟨xV,s5⟩:=s4.gQ (i:=ir) (d:=.mC C) (v:=.ref x) hbr (hK▸.mC T.kC (s2.fresh fl.no) aE);have s6:S zf (gf.set ir (.dat (.mC C))) (((Y.set ie (some (.ref x))).set ir (some (.ref x))).set ie none) xV M1 (upd H' x (yt C x)):=s5.Aq (by rw[fN (nV hnr)];exact iC)
 exact h s' _ _ M1 xV I' s6 (st.trans (ao.laid fl.no))
end
end Ev
namespace L2
theorem Y6{CX:Cb}{P:Program}{w:World}{K:Frag}{mg:Str->Option Value}{base:Heap}{k:Nat}{f:Addr}{name qual:Str}{params:Arguments}{body:List Stmt}{scope:Scope}{dV kV doc pm bD ct oc:Value}{an od:Option Addr}
  {osl:Array (Option Value)}{N ps:List Str}{A:Around}{outer:List Env}{s:Shared}{H:Hp}{args:Args}{us:List Value}{vs:List V}{Q:VK}{E:XK} (lk:K.lookup f=some ⟨oc,od,.func (PySem.W.fnOf name qual params body scope dV kV doc pm an bD ct),osl⟩) (bN:PySem.W.codeIn K bD qual=true) (S:bV N ps scope)
  (hr:bS (k+1) A) (e0:FT P w K mg base A outer s H) (hb:BindsTo s (PySem.W.fnOf name qual params body scope dV kV doc pm an bD ct) args (ps.zip us)) (r:Vals vs us) (hl:vs.length=ps.length)
  (hbody:∀s1,Inv (fF CX P w K mg base N qual scope f bD A outer s H E) [] (start N vs) H s1->wpAny (model P w) (A.deeper (envOfC qual scope s⁻¹ f bD)) (execs body (envOfC qual scope s⁻¹ f bD)) (SP (fF CX P w K mg base N qual scope f bD A outer s H E) [] { nx:=λ_ H'=>Q .non H',rt:=Q}) (fF CX P w K mg base N qual scope f bD A outer s H E).xe s1) :
  codeAny (model P w) A (.call (.ref f) args) (CR CX outer P w H s Q E) s:=by
 have KX:K.In s.heap:=e0.mod.Fq.keeps λb o e=>(e0.bs b o e).1
 have lim:s.heap.NoLimit:=e0.mod.nolimit.keeps λb o e=>(e0.bs b o e).1
 have hkind:∀y∈ps.zip us,scope.names.lookup y.1=some .local\/(scope.names.lookup y.1=some .cell/\((cellsFrom (s⁻¹+1) scope.names []).lookup y.1).isSome=true):=λ⟨n,v⟩ hy=>by
  rcases S.par n (BB hy).1 with q |q
  . exact .inl q
  . exact .inr ⟨q,BS _ _ _ (.inl q)⟩
 refine codeAny_call_function hr.depth (KX _ _ lk) rfl S.co S.gen rfl (PySem.W.codeRec_of KX bN) (hb _ _ _ _ ?_);refine wpAny_newFunctionEnv_cells S.kind hkind λenv he s1 x=>?_
 subst he;refine⟨lim.keeps x.toInCall.keep,codeAny_func ?_⟩;have I:Inv (fF CX P w K mg base N qual scope f bD A outer s H E) [] (start N vs) H s1:=rm S hr.hd e0 hl r x;refine lL (hbody s1 I) (λfl s' hs=>?_) λe s' hs=>hs
 have fin:∀{σ':St}{H':Hp}{v:V}{u:Value},Inv (fF CX P w K mg base N qual scope f bD A outer s H E) [] σ' H' s'->RelV v u->Q v H'->CE outer P w H s Q u s':=
  λ{σ' H' v u} J rv q=>⟨v,H',J.os,J.bare,J.base,J.hok,rv,q⟩
 cases fl with
 |ret u=>obtain⟨v,σ',H',J,rv,q⟩:=hs;exact fin J rv q
 |next=>obtain⟨σ',H',J,q⟩:=hs;exact fin (v:=V.non) (u:=Value.none) J rfl q
 |brk=>obtain⟨_,_,_,q⟩:=hs;exact False.elim q
 |cont=>obtain⟨_,_,_,q⟩:=hs;exact False.elim q
end L2
namespace Ev
open L2
structure Ui(K:Frag)(mg:Str->Option Value)(sc:Scope)(N:List Str)(C D:Addr)(y ke en er:Str)(ie ir:Nat):Prop where
 nd:N.Nodup
 gk:sc.names.lookup ke=some .globalImplicit
 mg:mg ke=some (.ref D)
 dk:(ke==(~~~3))=false
 qC:eV K C
 qD:eV K D
 up:qK K C D=true
 kC:EY K C
 eN:N[ie]?=some en
 le:sc.names.lookup en=some .local
 de:(en==(~~~3))=false
 ce:(en==("__classdict__":Str))=false
 rN:N[ir]?=some er
 lr:Loc sc er
 yN:N[0]?=some y
 vy:uW sc y
 dy:(y==(~~~3))=false
 cy:(y==("__classdict__":Str))=false
 ne:ie≠ir
 ie0:ie≠0
 ir0:ir≠0
theorem Ui.try{P:Program}{w:World}{K:Frag}{mg:Str->Option Value}{base:Heap}{N:List Str}{qual:Str}{sc:Scope}{f:Addr}{cd:Value}{A:Around}{outer:List Env}{s:Shared}{H:Hp}{E:XK}{C D:Addr}{y ke en er:Str}{ie ir k:Nat}
  (T:Ui K mg sc N C D y ke en er ie ir) (hr:bS k (A.deeper (envOfC qual sc s⁻¹ f cd))):Qn (fF uX P w K mg base N qual sc f cd A outer s H E) C D y ke en er 0 ie ir:=
 ⟨rfl,rfl,rfl,rfl,rfl,T.nd,T.gk,T.mg,T.dk,T.qC,T.qD,T.up,T.kC,T.eN,T.le,T.de,T.ce,T.rN,T.lr,.inl rfl,T.yN,T.vy,T.dy,T.cy,by have:=hr.dp;show (A.deeper (envOfC qual sc s⁻¹ f cd)).depth<_;lia⟩
structure Uj(X:Cx)(qn:Str)(q c:Addr):Prop where
 hq:(q,qn)∈cI X.K
 hu:∀p∈cI X.K,p.1=q->p.2=qn
 hcode:X.env.code=.ref c
 hC:∀b:Heap,X.K.In b->PySem.W.CodeHd b c q
 hqn:X.env.qual ++ "<lambda>"=qn
 hbi:∀b:Heap,X.K.In b->b.BuiltinsAt X.mg q
 YW:mainGlobals≠q
structure Lt where
 params:Arguments
 body:Expr
 scope:Scope
 pos:Pos
noncomputable abbrev Lt.ex(l:Lt):Expr:=.Lambda l.params l.body l.scope l.pos
def Qo(X:Cx)(qn:Str)(M:List Addr)(H:Hp)(l:Lt)(v:V):Prop:=∃p c' jh cl,v=.ref p/\p∉M/\c'∉M/\H p=some (lM p (PySem.W.kla_obj "<lambda>" qn l.params l.body l.scope cl ((X.mg "__name__").getD .none) c' jh))/\H c'=some (g9 qn c')/\
 (∀x c,cl.lookup x=some c->X.env.cells.lookup x=some c/\(x,NameKind.free)∈l.scope.names)/\∀y∈l.scope.names,y.2=.free->∃c,cl.lookup y.1=some c
section
theorem S.ext(s:S z g Y As M H)(h:H a=some (.ext f)):a∉M:=λhm=>by
 rcases s.live a hm with ⟨o,e,gr⟩ |e
 . rw[h]at e;cases e;exact gr
 . obtain⟨q,hq,rfl⟩:=gN.mp e;obtain⟨ps,h1,_⟩:=s.tab q hq;rw[h]at h1;cases h1
noncomputable def tLam(X:Cx)(z:Z)(g:G)(qn:Str)(l:Lt):TE:=λY H Q=>∃As M,S z g Y As M H/\∀v H',S z g Y As M H'->ao M H M H'->Qo X qn M H' l v->(∀b xs,H b=some (.lst xs)->H' b=some (.lst xs))->Q v H'
theorem Uk(hK:z.K=X.K)(mk:Uj X qn q c)(B:bu X.env.scope l.scope)(L:o7 l.params l.scope):PE X l.ex (tLam X z g qn l):=by intro ah s Y H Q I ⟨As,M,hs,hQ⟩;exact HQ I hs (by rw[hs.tt,hK];exact mk.hq) (by rw[hs.tt,hK];exact mk.hu) mk.hcode (mk.hC _ I.ok.mod.Fq) mk.hqn (mk.hbi _ I.ok.mod.Fq) mk.YW (by rw[L.par];rfl) B λp c' jh cl H' s' I' S' st' np h1 h2 c1 c2 kl=>⟨.ref p,H',I',rfl,hQ _ H' S' st' ⟨p,c',jh,cl,rfl,np,S'.ext h2,h1,h2,c1,c2⟩ kl⟩
end
section
variable{st:Stmt}{rest:List Stmt}{f C D p c':Addr}
theorem Ul(hK:z.K=X.K)(hr:bS (k+2) X.A)(hcalm:X.calm=true)(Ff:K3 X.K fx qual st f fd)(dg:bA st=.Assign [.Name er Dw] (.Constant .none j np) WQ::HS y ke en er py cpos0 qo kp v9 v8 ez qq qm::rest)(Sc:bV Nf [y] (aF st))
  (hbd:L2.Binds X.K fd [y] []) (T:Ui X.K X.mg (aF st) Nf C D y ke en er ie ir) (L:o7 params scope)
  (hbE:∀(Xf:Cx) (s:Shared) (H:Hp) (xe:Value->Shared->Prop) (zl:Z),Xf.prog=X.prog->Xf.w=X.w->Xf.K=X.K->Xf.mg=X.mg->Xf.base=X.base->bS (k+1) Xf.A->Xf.calm=true->PassesOwn (model Xf.prog Xf.w) (Xf.A.deeper (PySem.W.envX qn scope s⁻¹ p (.ref c') cl)) (PySem.W.envX qn scope s⁻¹ p (.ref c') cl) xe->zl.K=X.K->zl.bor=[]->u9 (v5 Xf N qn scope p (.ref c') cl s H xe) zl body g0 C Kd)
  (hrest:∀(bD:Value) (A:Around) (outer:List Env) (s:Shared) (H:Hp) (E:XK),PySem.W.codeIn X.K bD qual=true->bS k (A.deeper (envOfC qual (aF st) s⁻¹ f bD))->∀zf:Z,zf.K=X.K->zf.bor=[]->eu (fF uX X.prog X.w X.K X.mg X.base Nf qual (aF st) f bD A outer s H E).kZ zf rest ((List.replicate Nf.length .no).set ir (.dat (.mC C))) (.rt r) g3)
  (ho:d7 [] g3 r=some r') (I1:L2.Inv X ah Y H s) (S1:S z g Y As M H) (hp1:H p=some (lM p (PySem.W.kla_obj "<lambda>" qn params body scope cl pm c' jh))) (hc1:H c'=some (g9 qn c')) (Cl0:um N σ0 scope cl H s.heap) (hs0:Slots z.K M H g0 σ0 []) (hn0:∀(i:Nat) (l:List Ev.D),g0[i]?≠some (.own l))
  {us:List Value} (rv:Vals [.ref p] us) {E:Value->Shared->Prop}{Q:Value->Shared->Prop} (hQ:∀u v H' s' aB M',L2.Inv X ah Y H' s'->RelV v u->S z g Y aB M' H'->ao M H M' H'->dz z g Y aB M' H' r' v->Q u s'):wpAny (~~~2) X.A (call (.ref f) us) Q E s:=by
 obtain⟨oc,od,kV,doc,pm,an,bD,ct,osl,rfl,lk,bN⟩:=Ff.ex;have aJ:us.length=1:=by rw[<- rv.length];rfl
 refine C6 (Bi (Y6 (CX:=uX) (k:=k+1) (N:=Nf) (Q:=λv H'=>∃aB M',S z g Y aB M' H'/\ao M H M' H'/\dz z g Y aB M' H' r' v) (E:=λ_ _ _=>False) lk bN Sc hr I1.KJ (by have:=hbd s us I1.nk (by rw[nK];exact aJ);rw[nK]at this;exact this) rv rfl λs2 J=>?_) λrr s' hq'=>?_)
 ·
  rw[dg];have hr1:bS (k+1) (X.A.deeper (envOfC qual (aF st) s⁻¹ f bD)):=hr.deeper _;have hr2:bS k (X.A.deeper (envOfC qual (aF st) s⁻¹ f bD)):=hr1.mono (B2 k);have TT:=T.try (P:=X.prog) (w:=X.w) (base:=X.base) (qual:=qual) (f:=f) (cd:=bD) (A:=X.A) (outer:=X.stack) (s:=s) (H:=H) (E:=λ_ _ _=>False) hr2
  have hNl:0<Nf.length:=(dL.mp T.yN).1;refine A6 (lL ((sS (X:=(fF uX X.prog X.w X.K X.mg X.base Nf qual (aF st) f bD X.A X.stack s H (λ_ _ _=>False)).wish λ_ _=>False) T.nd T.rN T.lr Fw rfl (.inl rfl)) [] s2 _ _ { nx:=λσ' H'=>σ'=(start Nf [.ref p]).set ir (some .non)/\H'=H,rt:=λ_ _=>False} (J.wish _) ⟨rfl,rfl⟩) (λfl s3 q3=>?_) λ_ _ z=>False.elim z)
  cases fl with
  |ret u=>obtain⟨_,_,_,_,_,q⟩:=q3;exact q.elim
  |brk=>obtain⟨_,_,_,q⟩:=q3;exact q.elim
  |cont=>obtain⟨_,_,_,q⟩:=q3;exact q.elim
  |next=>
   obtain⟨σ3,H3,I3,e1,e2⟩:=q3;subst e1 e2;have I3:=I3.cR;have len0:(start Nf [.ref p]).length=Nf.length:=by have:=J.len;exact this
   have sl0:Slots z.K M H3 (List.replicate Nf.length .no) (start Nf [.ref p]) []:=by rw[<- len0];exact Slots.nos' _
   have Y7:∀(i:Nat) (l:List Ev.D),(List.replicate Nf.length Slot.no)[i]?≠some (.own l):=λi l e=>by
    have:=l8 e;rw[wS]at this;cases this.2
   have S3:S (zN z M H3) (List.replicate Nf.length .no) (start Nf [.ref p]) [] M H3:=S.into S1 sl0 Y7;obtain⟨iK,S4⟩:=S3.gQ (i:=ir) (d:=.non) (v:=.non) (λh=>nomatch h) .non
   have hA4:iK=[]:=by
    have key:∀{g:G}{Y:Sg}{As:List Addr},Slots z.K M H3 g Y As->(∀(i:Nat) (l:List Ev.D),g[i]?≠some (.own l))->As=[]:=λq=>by
     induction q with
     |nil=>intro _;rfl
     |no _ ih=>intro h;exact ih λi l e=>h (i+1) l e
     |dat _ _ ih=>intro h;exact ih λi l e=>h (i+1) l e
     |own _ _ _ ih=>intro h;exact absurd rfl (h 0 _)
    refine key S4.sl λi l e=>?_
    by_cases hi:i=ir
    .
     subst hi;rw[i8 (by rw[l6];exact (dL.mp T.rN).1)]at e
     cases e
    . rw[fN (nV hi)]at e;exact Y7 i l e
   subst hA4;have hy:((start Nf [.ref p]).set ir (some .non))[0]?=some (some (.ref p)):=by rw[fN T.ir0];rfl
   have iC:((List.replicate Nf.length Slot.no).set ir (.dat .non))[ie]?=some .no:=by rw[fN (nV T.ne),List.getElem?_replicate,gL (dL.mp T.eN).1]
   have un3:Un (frs X.stack) [] H3 H3 s.heap s3.heap:=I3.base;have WR:(zN z M H3).K=(fF uX X.prog X.w X.K X.mg X.base Nf qual (aF st) f bD X.A X.stack s H3 (λ_ _ _=>False)).K:=hK
   refine A6 (Nh (zf:=zN z M H3) (g0:=g0) (σ0:=σ0) (N:=N) TT L I3 S4 WR rfl rfl hy iC (λh=>nomatch h) T.ne hp1 hc1 (Cl0.un un3) hs0 hn0
    (λxe hx=>hbE _ s3 H3 xe _ rfl rfl rfl rfl rfl hr1 rfl hx hK rfl) λs4 σ4 H4 M4 iK I4 S5 jW=>?_)
   obtain⟨t,pt,kt⟩:=hrest bD X.A X.stack s H3 (λ_ _ _=>False) bN hr2 (zN z M H3) hK rfl
   rw[List.set_set]at S5;refine pt.kZ [] s4 σ4 H4 _ I4 (kt σ4 iK M4 H4 _ S5 λv σ5 xV M5 H5 S6 J6 R6=>?_)
   obtain⟨M6,S7,Yw,R7⟩:=S1.leave (rs:=[]) (vs:=[]) (gs:=[]) (gO:=g) .nil rfl t7 S6 (jW.trans J6) R6 rfl ho;exact⟨_,M6,S7,Yw,R7⟩
 .
  cases rr with
  |error ev=>exact False.elim hq'
  |ok flw=>
   cases flw with
   |ret u=>
    obtain⟨v,H',I',r1,aB,M',a,b,d⟩:=I1.after (Q:=λv H'=>∃aB M',S z g Y aB M' H'/\ao M H M' H'/\dz z g Y aB M' H' r' v) hq'
    exact hQ u v H' s' aB M' I' r1 a b d
   |next=>exact False.elim hq'
   |brk=>exact False.elim hq'
   |cont=>exact False.elim hq'
end
def HW(qqq X:Cx)(z:Z)(g:G)(qn:Str)(l:Lt)(r':R)(f:Addr):Prop:=
 ∀{ah: ~~~1}{σ1 σ0:Sg}{H1:Hp}{s1:Shared}{g1:G}{As A0 M:List Addr}{p c':Addr}{cl:List (Str×Addr)}{pm jh:Value}{us:List Value}{Q E:Value->Shared->Prop},L2.Inv qqq ah σ1 H1 s1->S z g1 σ1 As M H1->H1 p=some (lM p (PySem.W.kla_obj "<lambda>" qn l.params l.body l.scope cl pm c' jh))->H1 c'=some (g9 qn c')->
  um X.N σ0 l.scope cl H1 s1.heap->Slots z.K M H1 g σ0 A0->Vals [.ref p] us->(∀u v H' s' aB M',L2.Inv qqq ah σ1 H' s'->RelV v u->S z g1 σ1 aB M' H'->ao M H1 M' H'->dz z g1 σ1 aB M' H' r' v->Q u s')->wpAny (model qqq.prog qqq.w) qqq.A (call (.ref f) us) Q E s1
section
variable{st:Stmt}
theorem Ni(hK:z.K=X.K)(Ff:K3 X.K fx qual st f fd)(hg:Gl X fx)(hm:X.mg fx=some (.ref f))(jQ:(fx==(~~~3))=false)(mk:Uj X qn q c)(B:bu X.env.scope l.scope)(L:o7 l.params l.scope)(hcall:HW X X z g qn l r' f):aA X z (.Call (.Name fx fp) [l.ex] [] bM) g r' g:=by
 refine⟨λY H Q=>∃As M,S z g Y As M H/\∀v H' aB M',S z g Y aB M' H'->ao M H M' H'->dz z g Y aB M' H' r' v->Q v H',λah s Y H Q I ⟨As,M,hs,hQ⟩=>?_,λY As M H Q s kq=>⟨As,M,s,λv H' aB M'=>kq v H' aB M'⟩⟩
 refine wP (gK I hg hm ?_ jQ);refine BA (h₀:=X.base) I.ok.mod.Fq Ff.kp (lL ((cD (Uk (z:=z) (g:=g) hK mk B L) lq rfl) bM ah s Y H (λvs H'=>∃v,vs=[v]/\S z g Y As M H'/\ao M H M H'/\Qo X qn M H' l v) I ⟨As,M,hs,λv H' a b d _=>⟨v,rfl,a,b,d⟩⟩) (λus s1 q1=>?_) λ_ _ z=>z) rfl rfl
 obtain⟨vs,H1,I1,rv,_,rfl,S1,cP,p,c',jh,cl,rfl,np1,nc1,hp1,hc1,Kc,Ue⟩:=q1;exact⟨I1.nk,hcall I1 S1 hp1 hc1 (Ng I1 B L.nl Kc Ue) S1.sl rv λu v H' s' aB M' I' r1 a b d=>⟨v,H',I',r1,hQ v H' aB M' a (cP.trans b) d⟩⟩
end
section
theorem HX(hw:∀u,RelV w u->u=cv):d8 X (.builtin "isinstance") (λxs H Q=>∃x M d b,xs=[x,w]/\Pk X.K M H d x/\PySem.W.kitOne X.K (Fb d) cv=some b/\Q (.bl b) H):=by intro ah s Y H xs us Q I r h;obtain⟨x,M,d,b,rfl,p,e,q⟩:=h;obtain⟨u,w',rfl,r1,r2⟩:=vals2 r;obtain rfl:=hw _ r2;exact Gz I p r1 e λtk=>⟨.bl b,H,I.tok tk,rfl,q⟩
theorem HY(hK:z.K=X.K)(h:aA X z a g r1 g1)(hp:pk r1 g1=some d)(he:∀M H v,Pk X.K M H d v->PySem.W.kitOne X.K (Fb d) cv=some b)
  (hg:Gl X "isinstance") (hm:X.mg "isinstance"=none) (hv:bootBuiltins "isinstance"=some (.builtin "isinstance")) (hw:∀u,RelV w u->u=cv) (pT':PE X (.Name T pT) (tC w))
  (hs:starEach [a,.Name T pT] X.env=(false,eval a X.env)::starEach [.Name T pT] X.env):aA X z (.Call (.Name "isinstance" p) [a,.Name T pT] [] pos) g (.dat (.bl b)) g1:=by
 obtain⟨t,q,k⟩:=h;refine⟨_,jX (HX hw) hg hm hv (cD q (cD pT' lq) hs) ⋯ ⋯ hs,λY As M H Q s kk=>k Y As M H _ s λv H' aB M' s' st R=>?_⟩
 have p:=hK▸s'.pk (ao.refl _ _) R hp;exact⟨v,M',d,b,rfl,p,he _ _ _ p,kk _ H' aB M' s' st (.bl b)⟩
end
open L2 PySem.W
noncomputable def iU:Slot->Slot
 |.own l=>.dat (.lst l)
 |s=>s
noncomputable def flat:D->Bool
 |.non=>true
 |.bl _=>true
 |.int _=>true
 |.str _=>true
 |_=>false
theorem Rep.flat{K:Frag}{M M':List Addr}{H H':Hp}{d:D}{v:V}(r:Rep K M H d v)(h:Ev.flat d=true):Rep K M' H' d v:=by
 cases r with
 |non=>exact .non
 |bl b=>exact .bl b
 |int i=>exact .int i
 |str x=>exact .str x
 |_=>symm
section
variable{g g':G}
theorem Slots.atA{K:Frag}(q:Slots K M H g Y As){a:Addr}(h:a∈As):∃(i:Nat) (l:List D) (xs:List V),g[i]?=some (Slot.own l)/\Y[i]?=some (some (V.ref a))/\H a=some (.lst xs):=by
 induction q with
 |nil=>symm
 |no _ ih=>obtain⟨i,l,xs,h1,h2,h3⟩:=ih h;exact⟨i+1,l,xs,h1,h2,h3⟩
 |dat _ _ ih=>obtain⟨i,l,xs,h1,h2,h3⟩:=ih h;exact⟨i+1,l,xs,h1,h2,h3⟩
 |own e _ _ ih=>
  rcases eA.mp h with rfl |h
  . exact⟨0,_,_,rfl,rfl,e⟩
  . obtain⟨i,l,xs,h1,h2,h3⟩:=ih h;exact⟨i+1,l,xs,h1,h2,h3⟩
theorem Slots.iU{K:Frag}{M0:List Addr}(q:Slots K M H g Y As)(hl:∀m∈M0,m∈M)(hn:∀a∈As,a∉M0):Slots K M0 H (g.map Ev.iU) Y []:=by
 induction q with
 |nil=>exact .nil
 |no _ ih=>exact .no (ih hn)
 |dat r _ ih=>exact .dat (r.stay (ao.less hl)) (ih hn)
 |own e r _ ih=>exact .dat (.lst ⟨hn _ dC,e⟩ (r.stay (ao.less hl))) (ih λa ha=>hn a (dA _ ha))
theorem Nj{i:Nat}{l:List D}(h:(g.map Ev.iU)[i]?=some (.own l)):False:=by
 rw[yA]at h;cases e:g[i]? with
 |none=>rw[e]at h;symm
 |some u=>rw[e]at h;cases u <;> symm
theorem S.h0(s:S z g Y As M H)(hb:z.bor=[])(h:a∈As):z.H0 a=none:=by
 obtain⟨i,l,xs,h1,h2,_⟩:=s.sl.atA h;rcases s.own i a l h1 h2 with ⟨q,_⟩ |q
 . rw[hb]at q;cases q
 . exact q
theorem S.Um(s:S z g Y As M H)(hb:z.bor=[]):S z (g.map Ev.iU) Y [] (M.filter λm=>decide (m∉As)) H where
 sl:=s.sl.iU (λm hm=>(lS.mp hm).1) λa ha hm=>by have:=(lS.mp hm).2;simp at this;exact this ha
 nd:=t7
 sub:=λa h=>nomatch h
 own:=λi a l e _=>(Nj e).elim
 live:=λm hm=>s.live m (lS.mp hm).1
 keep:=s.keep
 iG:=λm hm=>lS.mpr ⟨s.iG m hm,by
  have:m∉As:=λh=>s.m0 m hm (s.h0 hb h)
  simpa using this⟩
 m0:=s.m0
 bm:=s.bm
 jj:=λp hp=>by
  have:p.1∈z.bor:=tP (f:=(·.1)) hp;rw[hb]at this;cases this
 tab:=s.tab
 tm:=s.tm
 tt:=s.tt
theorem S.thaw(s:S z g Y As M H)(hb:z.bor=[]){g1:G}{σ1:Sg}(s1:S z g1 σ1 aL M1 H1)(st:ao (M.filter λm=>decide (m∉As)) H M1 H1):S z g Y As (As++M1) H1/\ao M H (As++M1) H1:=by
 have nA:∀a∈As,a∉M.filter λm=>decide (m∉As):=λa ha hm=>by have:=(lS.mp hm).2;simp at this;exact this ha
 have stM:ao M H (As++M1) H1:=λb o e hb'=>by
  have h1:=st b o e λhm=>hb' (lS.mp hm).1
  refine⟨h1.1,λhm=>?_⟩
  rcases t9.mp hm with hm |hm
  . exact hb' (s.sub b hm)
  . exact h1.2 hm
 have lists:∀a∈As,∃xs,H1 a=some (.lst xs):=λa ha=>by
  obtain⟨_,_,xs,_,_,e⟩:=s.sl.atA ha;exact⟨xs,(st a _ e (nA a ha)).1⟩
 refine⟨⟨s.sl.stay stM λa ha o e=>(st a o e (nA a ha)).1,s.nd,λa ha=>qS _ ha,s.own,λm hm=>?_,s1.keep,λm hm=>i5 _ (s1.iG m hm),s.m0,s.bm,s.jj,s1.tab,s.tm,s.tt⟩,stM⟩
 rcases t9.mp hm with hm |hm
 . obtain⟨xs,e⟩:=lists m hm;exact .inl ⟨_,e,trivial⟩
 . exact s1.live m hm
theorem Nk(hb:z.bor=[])(hf:Ev.flat d=true)(h:aA X z e (g.map Ev.iU) (.dat d) g1):aA X z e g (.dat d) g:=by
 obtain⟨t,q,k⟩:=h;refine⟨t,q,λY As M H Q s kk=>k Y [] _ H Q (s.Um hb) λv H1 aL M1 s1 st R=>?_⟩
 obtain⟨a,b⟩:=s.thaw hb s1 st;exact kk v H1 As _ a b (Rep.flat R hf)
end
inductive WT(X:Cx):List Stmt->List TS->Prop
 |nil:WT X [] []
 |cons {s:Stmt}{ss:List Stmt}{t:TS}{ts:List TS}:PS X s t->WT X ss ts->WT X (s::ss) (t::ts)
def Uo:List TS->TS->TS
 | [],u=>u
 |t::ts,u=>Xo t (Uo ts u)
theorem WT.pss{X:Cx}{ss rest:List Stmt}{ts:List TS}{u:TS}(h:WT X ss ts)(hu:sP X rest u):sP X (ss++rest) (Uo ts u):=by
 induction h with
 |nil=>exact hu
 |cons a _ ih=>exact eL a ih
def qL(X:Cx)(z:Z)(ss:List Stmt)(g:G)(f:Fl)(g':G):Prop:=
 ∃ts,WT X ss ts/\∀(u:TS) Y As M H (E:Ends),S z g Y As M H->rC z M H { E with nx:=u E} g' f->Uo ts u E Y H
theorem qL.lift(h:qL X.kZ z ss g f g'):qL X z ss g f g':=by
 obtain⟨ts,q,k⟩:=h;refine⟨ts,?_,k⟩;clear k
 induction q with
 |nil=>exact .nil
 |cons a _ ih=>exact .cons (λah s Y H D I hw=>lL (a ah s Y H D (I.wish _) hw) (λ_ _ q=>q.cR) λ_ _ z=>False.elim z) ih
theorem qL.bk{X:Cx}{z:Z}{ss rest:List Stmt}{g g1 g':G}{f:Fl}(h:qL X z ss g .nx g1)(h2:eu X z rest g1 f g'):eu X z (ss++rest) g f g':=by obtain⟨t2,q2,k2⟩:=h2;obtain⟨t,q,k⟩:=h;exact⟨_,q.pss q2,λY As M H E s kE=>k t2 Y As M H E s λσ' aB M' H' s' st=>k2 σ' aB M' H' E s' (kE.trans st)⟩
theorem qL.end{X:Cx}{z:Z}{ss rest:List Stmt}{g g':G}{f:Fl}(h:qL X z ss g f g')(hn:f≠.nx):eu X z (ss++rest) g f g':=by
 obtain⟨t,q,k⟩:=h;refine⟨_,q.pss bF,λY As M H E s kE=>k _ Y As M H E s ?_⟩
 cases f with
 |nx=>exact absurd rfl hn
 |rt r=>exact kE
 |bk=>exact kE
 |ct=>exact kE
theorem qL.ra{X:Cx}{z:Z}{ss rest:List Stmt}{g g1 g':G}{C:Addr}(h:qL X z ss g .nx g1)(h2:Mk X z rest g1 C g'):Mk X z (ss++rest) g C g':=by obtain⟨t2,q2,k2⟩:=h2;obtain⟨t,q,k⟩:=h;exact⟨_,q.pss q2,λY As M H E s kE=>k t2 Y As M H E s λσ' aB M' H' s' st=>k2 σ' aB M' H' E s' (kE.trans st)⟩
def Up(X:Cx)(tg iter:Expr):TI:=λY H R=>∃wi,PI X tg iter wi/\wi Y H R
theorem Ia:PI X tg iter (Up X tg iter):=λah s Y H R I h=>let ⟨wi,q,k⟩:=h;q ah s Y H R I k
section
theorem Ib(hC:∀g b g',tU g b g'->cV X z ifs g b g')(hE:∀g d g',J5 g d g'->aA X z cC g (.dat d) g')(hw:dU X z tg iter g2 items Te)(ht:fV X z tg T)(cN:last∉T.ix)
  (hcp:jk T last tU J5 items Te g3) {Y:Sg}{As M:List Addr}{H:Hp}{Nn:Sg->Hp->Prop}{D:Addr} (s:S z g2 Y As M H) (hD:Y[last]?=some (some (.ref D)))
  (k:∀σ' aB M' H',S z g3 σ' aB M' H'->ao M H M' H'->σ'[last]?=some (some (.ref D))->uY T.ix Y σ'->Nn σ' H'):Ye (Up X tg iter) (CK X tg) (GP X ifs) (tH D (CN X cC)) Y H Nn:=by
 obtain⟨wi,q,kw⟩:=hw;refine⟨wi,q,kw Y As M H _ s λJ H1 aL M1 s1 cP hJ=>?_⟩
 refine⟨λi m σ' H'=>i+m=items.length/\∃gb Ab Mb,S z gb σ' Ab Mb H'/\ao M1 H1 Mb H'/\uY T.ix Y σ'/\σ'[last]?=some (some (.ref D))/\jk T last tU J5 (items.drop i) gb g3,
  ⟨items.length,by lia,_,_,_,s1,ao.refl _ _,uY.refl _ _,hD,hcp⟩,?_⟩
 rintro i m σ' H' ⟨him,gb,Ab,Mb,s2,aK,ag,CP,cp⟩;obtain⟨hgo,hstop⟩:=hJ Mb H' aK;cases e:items[i]? with
 |none=>
  have hi:i=items.length:=by have:=sT.mp e;lia
  subst hi;rw[A7]at cp;cases cp;exact .inl ⟨hstop,k σ' Ab Mb H' s2 (cP.trans aK) CP ag⟩
 |some d=>
  obtain⟨go,yl⟩:=hgo i d e;rw[drop_cons e]at cp;have hi:i<items.length:=(dL.mp e).1;refine .inr ⟨go,λσ' H'=>∃gb Ab Mb,S z gb σ' Ab Mb H'/\ao M1 H1 Mb H'/\uY T.ix Y σ'/\σ'[last]?=some (some (.ref D))/\jk T last tU J5 (items.drop (i+1)) gb g3,
   λK5 K6 hN=>⟨m - 1,by lia,by lia,hN⟩,λx H2 hx=>?_⟩
  obtain⟨s3,eE,rx⟩:=yl x H2 hx z gb σ' Ab rfl s2;obtain⟨t,qt,kt⟩:=ht;cases cp with
  |skip e0 hc rest=>
   refine⟨t,qt,kt d gb _ e0 x _ Ab Mb H2 _ s3 rx λσ4 iK s4 Y8=>?_⟩
   obtain⟨t2,q2,k2⟩:=hC _ _ _ hc;refine⟨t2,q2,k2 _ iK Mb H2 _ s4 λH5 xV M5 s5 jW=>?_⟩
   exact oq ⟨_,xV,M5,s5,(aK.trans eE).trans jW,ag.trans Y8,by rw[Y8.2 _ cN];exact CP,rest⟩
  |take e0 hc he ha hz' rest=>
   refine⟨t,qt,kt d gb _ e0 x _ Ab Mb H2 _ s3 rx λσ4 iK s4 Y8=>?_⟩
   obtain⟨t2,q2,k2⟩:=hC _ _ _ hc;obtain⟨t3,q3,k3⟩:=hE _ _ _ he;have L7:σ4[last]?=some (some (V.ref D)):=by rw[Y8.2 _ cN];exact CP
   refine⟨t2,q2,k2 _ iK Mb H2 _ s4 λH5 xV M5 s5 jW=>j3 ⟨t3,q3,k3 _ xV M5 H5 _ s5 λv H6 Tt M6 s6 J6 R6=>?_⟩⟩
   obtain⟨a,xs,f1,f2,f3,f4⟩:=s6.sl.at ha;rw[L7]at f1;injection f1 with f1;injection f1 with f1;injection f1 with f1;subst f1;obtain⟨s7,Yw⟩:=s6.write ha L7 (f4.append (.cons R6 .nil));exact⟨xs,f3,by rw[<- f4.length,rV];exact hz',_,Tt,M6,s7,(((aK.trans eE).trans jW).trans J6).trans Yw,ag.trans Y8,L7,rest⟩
end
inductive g7(T:Tg)(tU:G->Bool->G->Prop)(In:G->G->Prop):List D->G->G->Prop
 |nil {g:G}:g7 T tU In [] g g
 |skip:T.set d g=some g1->tU g1 false g2->g7 T tU In l g2 g'->g7 T tU In (d::l) g g'
 |take:T.set d g=some g1->tU g1 true g2->In g2 g3->g7 T tU In l g3 g'->g7 T tU In (d::l) g g'
section
def yL(X:Cx)(z:Z)(N':List Str)(scope:Scope)(tg iter cC:Expr)(ifs:List Expr)(T:Tg)(last:Nat)(g2 g3:G):Prop:=
 ∃items Te,(∀bk:Bk,dU (X.blk N' scope bk) z tg iter g2 items Te)/\jk T last (λg b g'=>∀bk:Bk,cV (X.blk N' scope bk) z ifs g b g') (λg d g'=>∀bk:Bk,aA (X.blk N' scope bk) z cC g (.dat d) g') items Te g3
theorem mK(hw:dU X z t1 i1 g items g1)(ht1:∀b:Bk,fV (X.blk N' scope b) z t1 T1)(ht:∀b:Bk,fV (X.blk N' scope b) z tg T)(hT1:∀i∈T1.ix,g1.length<=i/\i<g1.length+k)(hT:∀i∈T.ix,g1.length<=i/\i<g1.length+k)
  (hcp:g7 T1 (λg b g'=>∀bk:Bk,cV (X.blk N' scope bk) z f1 g b g') (yL X z N' scope tg iter cC ifs T (g1.length+k)) items (gC k g1) gE) (hacc:gE[g1.length+k]?=some (.own acc)) :
  ∃wi,PI X t1 i1 wi/\∀Y As M H Q,S z g Y As M H->Kn z (gE.take g1.length) Y M H (.new acc) Q->rA X k wi (λb=>CK (X.blk N' scope b) t1) (λb=>GP (X.blk N' scope b) f1) (λD b=>Ye (Up (X.blk N' scope b) tg iter) (CK (X.blk N' scope b) tg) (GP (X.blk N' scope b) ifs) (tH D (CN (X.blk N' scope b) cC))) Y H Q:=by
 obtain⟨wi,q,kw⟩:=hw;refine⟨wi,q,λY As M H Q s kq=>kw Y As M H _ s λJ H1 aL M1 s1 cP hJ D hD=>?_⟩
 have hl:g1.length=Y.length:=s1.sl.length;have hz:∀p∈z.lent,p.1<Y.length:=λp hp=>(dL.mp (s1.jj p hp).1).1
 have Y9:∀i∈T1.ix,Y.length<=i:=λi hi=>by rw[<- hl];exact (hT1 i hi).1
 have L5:∀i∈T.ix,Y.length<=i:=λi hi=>by rw[<- hl];exact (hT i hi).1
 have Ic:g1.length+k∉T1.ix:=λh=>nE _ (hT1 _ h).2
 have cN:g1.length+k∉T.ix:=λh=>nE _ (hT _ h).2
 have s1':=s1.aY (xs:=[]) hD;have h0:z.H0 D=none:=s1.cS hD;have nA:D∉aL:=λh=>s1.fresh hD (s1.sub D h)
 have sb:=s1'.extend (k:=k) (l:=[]) dC nA h0 aE .nil;have GQ:(Y++(List.replicate k none++[some (V.ref D)]))[g1.length+k]?=some (some (V.ref D)):=by
  rw[hl,fR (Nat.le_add_right _ _),vS,fR (by rw[l6];exact eC _),l6,Nat.sub_self]
  rfl
 refine⟨λi m σ' H'=>i+m=items.length/\∃gb Ab Mb τ,S z gb σ' Ab Mb H'/\ao M1 H1 Mb H'/\σ'=Y++τ/\σ'[g1.length+k]?=some (some (.ref D))/\g7 T1 (λg b g'=>∀bk:Bk,cV (X.blk N' scope bk) z f1 g b g') (yL X z N' scope tg iter cC ifs T (g1.length+k)) (items.drop i) gb gE,
  ⟨items.length,by lia,_,_,_,_,sb,ao.aY hD,rfl,GQ,hcp⟩,?_⟩
 rintro i m σ' H' ⟨him,gb,Ab,Mb,τ,s2,aK,rfl,CP,cp⟩;obtain⟨hgo,hstop⟩:=hJ Mb H' aK;cases e:items[i]? with
 |none=>
  have hi:i=items.length:=by have:=sT.mp e;lia
  subst hi;rw[A7]at cp;cases cp;refine .inl ⟨hstop,?_⟩;obtain⟨a,xs,f1,f2,f3,f4⟩:=s2.sl.at hacc;rw[CP]at f1;injection f1 with f1;injection f1 with f1;injection f1 with f1;subst f1;obtain⟨A1,s3,m3,n3⟩:=s2.shrink hz ⋯ hacc CP;rw[<- hl]at s3;exact kq _ H' A1 Mb s3 (cP.trans aK) ⟨D,xs,rfl,m3,n3,h0,f3,f4⟩
 |some d=>
  obtain⟨go,yl⟩:=hgo i d e;rw[drop_cons e]at cp;have hi:i<items.length:=(dL.mp e).1;refine .inr ⟨go,λσ' H'=>∃gb Ab Mb τ,S z gb σ' Ab Mb H'/\ao M1 H1 Mb H'/\σ'=Y++τ/\σ'[g1.length+k]?=some (some (.ref D))/\g7 T1 (λg b g'=>∀bk:Bk,cV (X.blk N' scope bk) z f1 g b g') (yL X z N' scope tg iter cC ifs T (g1.length+k)) (items.drop (i+1)) gb gE,
   λK5 K6 hN=>⟨m - 1,by lia,by lia,hN⟩,λx H2 hx bk _=>?_⟩
  obtain⟨s3,eE,rx⟩:=yl x H2 hx z gb (Y++τ) Ab rfl s2;obtain⟨t,qt,kt⟩:=ht1 bk;cases cp with
  |skip e0 hc rest=>
   refine⟨t,qt,kt d gb _ e0 x _ Ab Mb H2 _ s3 rx λσ4 iK s4 ag=>?_⟩
   obtain⟨τ',rfl⟩:=dF ag Y9;obtain⟨t2,q2,k2⟩:=hc bk;refine⟨t2,q2,k2 _ iK Mb H2 _ s4 λH5 xV M5 s5 jW=>?_⟩
   refine oq ⟨_,xV,M5,τ',s5,(aK.trans eE).trans jW,rfl,?_,rest⟩;rw[ag.2 _ Ic];exact CP
  |take e0 hc hin rest=>
   obtain⟨items2,Te,hw2,cp2⟩:=hin;refine⟨t,qt,kt d gb _ e0 x _ Ab Mb H2 _ s3 rx λσ4 iK s4 ag=>?_⟩
   obtain⟨τ',rfl⟩:=dF ag Y9;obtain⟨t2,q2,k2⟩:=hc bk;have L7:(Y++τ')[g1.length+k]?=some (some (V.ref D)):=by rw[ag.2 _ Ic];exact CP
   refine⟨t2,q2,k2 _ iK Mb H2 _ s4 λH5 xV M5 s5 jW=>j3 ?_⟩
   refine Ib (λg b g' h=>h bk) (λg d g' h=>h bk) (hw2 bk) (ht bk) cN cp2 s5 L7 λσ6 Tt M6 H6 s6 J6 WW ag6=>?_
   obtain⟨τ6,rfl⟩:=dF ag6 L5;exact⟨_,Tt,M6,τ6,s6,((aK.trans eE).trans jW).trans J6,rfl,WW,rest⟩
theorem Ie(B:bu X.env.scope scope)(hc:X.calm=true)(hN:Names X.N N' scope k)(hw:dU X z t1 i1 g items g1)(ht1:∀b:Bk,fV (X.blk N' scope b) z t1 T1)(ht:∀b:Bk,fV (X.blk N' scope b) z tg T)(hT1:∀i∈T1.ix,g1.length<=i/\i<g1.length+k)(hT:∀i∈T.ix,g1.length<=i/\i<g1.length+k)
  (hcp:g7 T1 (λg b g'=>∀bk:Bk,cV (X.blk N' scope bk) z f1 g b g') (yL X z N' scope tg iter cC ifs T (g1.length+k)) items (gC k g1) gE) (hacc:gE[g1.length+k]?=some (.own acc))
  (hs:∀x,foldedSetIterable i1 X.env x=pure x) (hs2:∀(b:Bk) x,foldedSetIterable iter (X.blk N' scope b).env x=pure x):aA X z (.ListComp cC [⟨t1,i1,f1,0⟩,⟨tg,iter,ifs,0⟩] scope pos) g (.new acc) (gE.take g1.length):=by
 obtain⟨wi,q,kk⟩:=mK hw ht1 ht hT1 hT hcp hacc;exact⟨_,Gi B hc hN q (λb=>⟨⟨jC,lF⟩,Ia,jC,lF,lG⟩) hs hs2,kk⟩
theorem Ig(B:bu X.env.scope scope)(hc:X.calm=true)(hN:Names X.N N' scope k)(hw:dU X z t1 i1 g items g1)(ht1:∀b:Bk,fV (X.blk N' scope b) z t1 T1)(ht:∀b:Bk,fV (X.blk N' scope b) z tg T)(hT1:∀i∈T1.ix,g1.length<=i/\i<g1.length+k)(hT:∀i∈T.ix,g1.length<=i/\i<g1.length+k)
  (hcp:g7 T1 (λg b g'=>∀bk:Bk,cV (X.blk N' scope bk) z f1 g b g') (yL X z N' scope tg iter cC ifs T (g1.length+k)) items (gC k g1) gE) (hacc:gE[g1.length+k]?=some (.own acc))
  (Lc:X.N.Nodup) (hy:X.N[i]?=some y) (hl:X.env.scope.names.lookup y=some .local) (hb:i∉z.bor) (hi:i<(gE.take g1.length).length)
  (hsw:swapsWith (.ListComp cC [⟨t1,i1,f1,0⟩,⟨tg,iter,ifs,0⟩] scope pos) (some (.Name y py)) dw.line X.env=pure true)
  (hs:∀x,foldedSetIterable i1 X.env x=pure x) (hs2:∀(b:Bk) x,foldedSetIterable iter (X.blk N' scope b).env x=pure x):fJ X z (.Assign [.Name y py] (.ListComp cC [⟨t1,i1,f1,0⟩,⟨tg,iter,ifs,0⟩] scope pos) dw) g .nx ((gE.take g1.length).set i (.own acc)):=by
 obtain⟨wi,q,kk⟩:=mK hw ht1 ht hT1 hT hcp hacc;refine⟨_,Gj B hc hN q (λb=>⟨⟨jC,lF⟩,Ia,jC,lF,lG⟩) Lc hy hl hsw hs hs2,λY As M H E s kE=>kk Y As M H _ s λv H' aB M' s' st R=>?_⟩
 obtain⟨a,xs,rfl,hm,hA,h0,ha,rr⟩:=R;obtain⟨bx,s2⟩:=s'.oB hb hi hm hA h0 ha rr;exact kE _ bx M' H' s2 st
end
inductive Nm(z:Z)(As M:List Addr)(H:Hp):List Addr->List (List D)->Prop
 |nil:Nm z As M H [] []
 |cons {p:Addr}{as:List Addr}{xs:List V}{l:List D}{ll:List (List D)}:p∈M->p∉As->z.H0 p=none->H p=some (.lst xs)->aH z.K M H l xs->Nm z As M H as ll->Nm z As M H (p::as) (l::ll)
def Rows(z:Z)(g:G)(iy:Nat)(M0:List Addr)(H0:Hp)(ll:List (List D))(Y:Sg)(H:Hp):Prop:=
 ∃As M a as,S z g Y As M H/\ao M0 H0 M H/\Y[iy]?=some (some (.ref a))/\a∈M/\a∉As/\z.H0 a=none/\H a=some (.lst (as.map .ref))/\a∉as/\as.Nodup/\Nm z As M H as ll
end Ev
namespace HT
open PySem PyProof.Rows
end HT
namespace Ev
open L2
mutual
noncomputable def iM:D->Bool
 |.tup l=>fK l
 |.lst l=>fK l
 |.fix l=>fK l
 |.tL ..=>false
 |_=>true
noncomputable def fK:List D->Bool
 | []=>true
 |d::l=>iM d&&fK l
end
def jE:G->Bool
 | []=>true
 |.no::g=>jE g
 |.dat d::g=>iM d&&jE g
 |.own l::g=>fK l&&jE g
theorem wc:∀{l m:List D},fK l=true->fK m=true->fK (l++m)=true
 | [],_,_,h=>h
 |d::l,_,h,k=>by
  have h:(iM d&&fK l)=true:=h;rw[d5]at h;show (iM d&&fK (l++_))=true;rw[h.1,wc h.2 k];rfl
section
variable{K:Frag}{M:List Addr}{H:Hp}{q:Addr}{dN:List (List Key×V)}{u:HO}
theorem Rep.Ih(hq:H q=some (.dT dN)){d:D}{v:V}(r:Rep K M H d v):iM d=true->Rep K M (upd H q u) d v:=by
 have ne:∀{b:Addr}{o:HO},H b=some o->(∀l,o≠.dT l)->upd H q u b=some o:=λ{b o} e n=>by
  rw[az (λz=>by rw[z,hq]at e;cases e;exact n _ rfl)];exact e
 refine Rep.rec (motive_1:=λd v _=>iM d=true->Rep K M (upd H q u) d v) (motive_2:=λds vs _=>fK ds=true->aH K M (upd H q u) ds vs) (λ_=>.non) (λb _=>.bl b) (λi _=>.int i) (λx _=>.str x) (λt _ ih h=>?_) (λt _ ih h=>?_) (λt _ ih h=>?_) (λn r _=>.emp n (ne r λ_ e=>nomatch e)) (λx n r _=>.mC x n (ne r λ_ e=>nomatch e)) (λ_ _ _ _ _ h=>Bool.noConfusion (show false=true from h)) (λ_=>.nil) (λ_ _ i1 i2 h=>?_) r
 .
  rcases t with ⟨n,t |⟨o,t⟩⟩ |t
  . exact .tup (.inl ⟨n,.inl (ne t λ_ e=>nomatch e)⟩) (ih h)
  . exact .tup (.inl ⟨n,.inr ⟨o,ne t λ_ e=>nomatch e⟩⟩) (ih h)
  . exact .tup (.inr t) (ih h)
 . exact .lst ⟨t.1,ne t.2 λ_ e=>nomatch e⟩ (ih h)
 .
  rcases t with ⟨n,o,t⟩ |t
  . exact .fix (.inl ⟨n,o,ne t λ_ e=>nomatch e⟩) (ih h)
  . exact .fix (.inr t) (ih h)
 . have h:(iM _&&fK _)=true:=h;rw[d5]at h;exact .cons (i1 h.1) (i2 h.2)
theorem aH.Ih(hq:H q=some (.dT dN)):∀{ds:List D}{vs:List V},aH K M H ds vs->fK ds=true->aH K M (upd H q u) ds vs
 | [],_,r,_=>by cases r;exact .nil
 |d::ds,_,r,h=>by
  have h:(iM d&&fK ds)=true:=h;rw[d5]at h;cases r with
  |cons a b=>exact .cons (a.Ih hq h.1) (b.Ih hq h.2)
theorem Slots.Ih(hq:H q=some (.dT dN)){g:G}{Y:Sg}{As:List Addr}(s:Slots K M H g Y As):jE g=true->Slots K M (upd H q u) g Y As:=by
 induction s with
 |nil=>exact λ_=>.nil
 |no _ ih=>exact λh=>.no (ih h)
 |@dat g Y As v d r _ ih=>intro h;have h:(iM d&&jE g)=true:=h;rw[d5]at h;exact .dat (r.Ih hq h.1) (ih h.2)
 |@own g Y As a xs ds e r _ ih=>intro h;have h:(fK ds&&jE g)=true:=h;rw[d5]at h;exact .own (by rw[az (λz=>by rw[z,hq]at e;cases e)];exact e) (aH.Ih hq r h.1) (ih h.2)
end
section
variable{z:Z}{g:G}{Y:Sg}{As M:List Addr}{H:Hp}
theorem S.Ih(s:S z g Y As M H){q:Addr}{dN:List (List Key×V)}{u:HO}(hq:H q=some (.dT dN))(hn:q∉M)(h0:z.H0 q=none)(h:jE g=true):S z g Y As M (upd H q u) where
 sl:=s.sl.Ih hq h
 nd:=s.nd
 sub:=s.sub
 own:=s.own
 live:=λm hm=>by
  rcases s.live m hm with ⟨o,e,gr⟩ |e
  . exact .inl ⟨o,by rw[az (λ(z:m=q)=>hn (by rw[<- z];exact hm))];exact e,gr⟩
  . exact .inr e
 keep:=λb o e hb ht=>by rw[az (λz=>by rw[z,h0]at e;cases e)];exact s.keep b o e hb ht
 iG:=s.iG
 m0:=s.m0
 bm:=s.bm
 jj:=s.jj
 tab:=λp hp=>(s.tab p hp).keep λb o e n=>by rw[az (λz=>by rw[z,hq]at e;cases e;exact n trivial)];exact e
 tm:=s.tm
 tt:=s.tt
noncomputable def gD(k:Nat)(g:G):G:=g++List.replicate (k+1) .no
theorem wg{K:Frag}:∀τ:Sg,Slots K M H (List.replicate τ.length .no) τ []
 | []=>.nil
 |_::τ=>.no (wg τ)
theorem S.wide(s:S z g Y As M H)(τ:Sg):S z (g++List.replicate τ.length .no) (Y++τ) As M H:=by
 have q:=s.sl.append (wg (K:=z.K) (M:=M) (H:=H) τ);rw[nK]at q;have hl:=s.sl.length;refine⟨q,s.nd,s.sub,λi b l e1 e2=>?_,s.live,s.keep,s.iG,s.m0,s.bm,λp hp=>?_,s.tab,s.tm,s.tt⟩
 .
  rcases x0 i g.length with hi |hi
  . rw[eP hi]at e1;rw[eP ⋯]at e2;exact s.own i b l e1 e2
  . rw[fR hi]at e1;have:=l8 e1;rw[wS]at this;exact absurd this.2 ⋯
 . obtain⟨q1,l,q2⟩:=s.jj p hp;exact⟨by rw[eP (dL.mp q1).1];exact q1,l,by rw[eP (dL.mp q2).1];exact q2⟩
theorem S.narrow{gb:G}{τ:Sg}(s:S z gb (Y++τ) As M H)(hz:∀p∈z.lent,p.1<Y.length):∃A1,S z (gb.take Y.length) Y A1 M H/\∀a∈A1,a∈As:=by
 have hl:=s.sl.length;rw[eJ]at hl;have q:=s.sl;rw[<- B9 Y.length gb]at q;obtain⟨σ1,σ2,A1,A2,h1,h2,h3,h4⟩:=q.split;have l1:=h3.length;rw[v0,Nat.min_eq_left ⋯]at l1;obtain⟨rfl,rfl⟩:=List.append_inj h1 l1;subst h2;have tk:∀(j:Nat) (o:Slot),(gb.take Y.length)[j]?=some o->gb[j]?=some o/\j<Y.length:=λj o e=>by
  have hj:=(dL.mp e).1;rw[v0]at hj;have hj':j<Y.length:=eD hj (Nat.min_le_left _ _);rw[oI hj']at e;exact⟨e,hj'⟩
 refine⟨A1,⟨h3,(AH.mp s.nd).1,λb hb=>s.sub b (qS _ hb),λj b l c1 c2=>?_,s.live,s.keep,s.iG,s.m0,s.bm,λp hp=>?_,s.tab,s.tm,s.tt⟩,λa ha=>qS _ ha⟩
 . obtain⟨c3,c4⟩:=tk j _ c1;exact s.own j b l c3 (by rw[eP c4];exact c2)
 . obtain⟨c1,l,c2⟩:=s.jj p hp;have vI:=hz p hp;rw[eP vI]at c1;exact⟨c1,l,by rw[oI vI];exact c2⟩
end
section
variable{X:Cx}{z:Z}{tg iter kx vx:Expr}{scope:Scope}{pos:Pos}{N':List Str}{k:Nat}{T:Tg}{items:List D}{g g1 gE:G}{ks: ~~~5}{ds:List D}
def yM(X:Cx)(z:Z)(e:Expr)(g:G)(ns: ~~~0)(g':G):Prop:=
 ∃t,PE X e t/\∀Y As M H (Q:VK),S z g Y As M H->(∀a H' aB M',S z g' Y aB M' H'->ao M H M' H'->a∉M'->H' a=some (.tup (ns.map V.int))->Q (.ref a) H')->t Y H Q
theorem Uq{es:List Expr}{rs:List R}{l:List D}{ns: ~~~0}{x1}{g':G}(h:cQ X z es g rs g')(hd:tM rs=some l)(hi:bq l=some ns)(hl:l.length<=16777216):yM X z (.Tuple es x1 pos) g ns g':=by
 obtain⟨t,q,k⟩:=h;refine⟨_,yh q,λY As M H Q s kk=>k Y As M H _ s λvs H' aB M' s' st R=>?_⟩
 have rr:=tN R hd;have e:=bG rr hi;subst e;exact⟨by rw[<- rr.length];exact iI hl,λp hp=>kk p _ aB M' (s'.laid hp) (st.trans (ao.laid hp)) (s'.fresh hp) aE⟩
inductive uo(T:Tg)(EvK:G->~~~0->G->Prop)(EvV:G->D->G->Prop):List D->List (~~~0)->List D->G->List (~~~0)->List D->G->Prop
 |nil {ks: ~~~5}{ds:List D}{g:G}:uo T EvK EvV [] ks ds g ks ds g
 |cons {d x:D}{rest ds ds':List D}{ks ks': ~~~5}{ns: ~~~0}{g g1 g2 g3 g':G}:T.set d g=some g1->EvK g1 ns g2->EvV g2 x g3->ns∉ks->ks.length<16777216->jE g3=true->iM x=true->
   uo T EvK EvV rest (ks++[ns]) (ds++[x]) g3 ks' ds' g'->uo T EvK EvV (d::rest) ks ds g ks' ds' g'
theorem Np{ns: ~~~0}{ks: ~~~5}{vs:List V}(h:ns∉ks):ns.map Sum.inl∉(((ks.map (List.map Sum.inl)).zip vs).map (·.1):List (List Key)):=λhm=>by
 obtain⟨p,p1,p2⟩:=gN.mp hm;obtain⟨n,n1,n2⟩:=gN.mp (BB (a:=p.1) (b:=p.2) p1).1;rw[p2]at n2;exact h ((List.map_inj_right λa b e=>Sum.inl.inj e).mp n2▸n1)
theorem wj(ns: ~~~0):(ns.map (Sum.inl:Int->Key)).map kV=ns.map V.int:=by rw[List.map_map];rfl
theorem yO(hw:dU X z tg iter g items g1)(ht:∀b:Bk,fV (X.blk N' scope b) z tg T)(hT:∀i∈T.ix,g1.length<=i/\i<g1.length+k)
  (hcp:uo T (λg ns g'=>∀bk:Bk,yM (X.blk N' scope bk) z kx g ns g') (λg d g'=>∀bk:Bk,aA (X.blk N' scope bk) z vx g (.dat d) g') items [] [] (gD k g1) ks ds gE) :
  ∃wi,PI X tg iter wi/\∀Y As M H Q,S z g Y As M H->Kn z (gE.take g1.length) Y M H (.dat (.tL ks ds)) Q->tK (.dT []) X k wi (λb=>CK (X.blk N' scope b) tg) (λ_=>Gf) (λD b=>RK D (CN (X.blk N' scope b) kx) (CN (X.blk N' scope b) vx)) Y H Q:=by
 obtain⟨wi,q,kw⟩:=hw;refine⟨wi,q,λY As M H Q s kq=>kw Y As M H _ s λJ H1 aL M1 s1 cP hJ D hD=>?_⟩
 have hl:g1.length=Y.length:=s1.sl.length;have hz:∀p∈z.lent,p.1<Y.length:=λp hp=>(dL.mp (s1.jj p hp).1).1
 have L5:∀i∈T.ix,Y.length<=i:=λi hi=>by rw[<- hl];exact (hT i hi).1
 have h0:z.H0 D=none:=s1.cS hD;have sb:=(s1.laid (o:=Gm [] []) hD).wide (List.replicate k none++[some (V.ref D)]);rw[show (List.replicate k (none:Option V)++[some (V.ref D)]).length=k+1 by simp]at sb
 have pass:∀{M2:List Addr}{H2:Hp}{u:HO},ao M1 H1 M2 H2->ao M1 H1 M2 (upd H2 D u):=λst b o e n=>⟨by rw[az (aI e hD)];exact (st b o e n).1,(st b o e n).2⟩
 refine⟨λi m σ' H'=>i+m=items.length/\∃gb Ab Mb τ ka da vs,S z gb σ' Ab Mb H'/\ao M1 H1 Mb H'/\σ'=Y++τ/\D∉Mb/\H' D=some (Gm ka vs)/\ka.length=vs.length/\aH z.K Mb H' da vs/\fK da=true/\
   uo T (λg ns g'=>∀bk:Bk,yM (X.blk N' scope bk) z kx g ns g') (λg d g'=>∀bk:Bk,aA (X.blk N' scope bk) z vx g (.dat d) g') (items.drop i) ka da gb ks ds gE,
  ⟨items.length,by lia,_,_,_,_,[],[],[],sb,ao.laid hD,rfl,s1.fresh hD,aE,rfl,.nil,rfl,hcp⟩,?_⟩
 rintro i m σ' H' ⟨him,gb,Ab,Mb,τ,ka,da,vs,s2,aK,rfl,hm,hH,hkl,rr,nda,cp⟩;obtain⟨hgo,hstop⟩:=hJ Mb H' aK;cases e:items[i]? with
 |none=>
  have hi:i=items.length:=by have:=sT.mp e;lia
  subst hi;rw[A7]at cp;cases cp;refine .inl ⟨hstop,?_⟩;obtain⟨A1,s3,n3⟩:=s2.narrow hz;rw[<- hl]at s3;exact kq _ H' A1 Mb s3 (cP.trans aK) (.tL hm hH hkl rr)
 |some d=>
  obtain⟨go,yl⟩:=hgo i d e;rw[drop_cons e]at cp;have hi:i<items.length:=(dL.mp e).1;refine .inr ⟨go,λσ' H'=>∃gb Ab Mb τ ka da vs,S z gb σ' Ab Mb H'/\ao M1 H1 Mb H'/\σ'=Y++τ/\D∉Mb/\H' D=some (Gm ka vs)/\ka.length=vs.length/\aH z.K Mb H' da vs/\fK da=true/\
   uo T (λg ns g'=>∀bk:Bk,yM (X.blk N' scope bk) z kx g ns g') (λg d g'=>∀bk:Bk,aA (X.blk N' scope bk) z vx g (.dat d) g') (items.drop (i+1)) ka da gb ks ds gE,
   λK5 K6 hN=>⟨m - 1,by lia,by lia,hN⟩,λx H2 hx bk _=>?_⟩
  obtain⟨s3,eE,rx⟩:=yl x H2 hx z gb (Y++τ) Ab rfl s2;obtain⟨t,qt,kt⟩:=ht bk;cases cp with
  |cons e0 hk hv hn hz' ng nx rest=>
   refine⟨t,qt,kt d gb _ e0 x _ Ab Mb H2 _ s3 rx λσ4 iK s4 ag=>?_⟩
   dsimp only[Gf];rw[gL rfl];obtain⟨τ',rfl⟩:=dF ag L5;obtain⟨t2,q2,k2⟩:=hk bk;obtain⟨t3,q3,k3⟩:=hv bk;refine⟨t2,q2,k2 _ iK Mb H2 _ s4 λa H5 xV M5 s5 jW na ha=>⟨t3,q3,k3 _ xV M5 H5 _ s5 λv H6 Tt M6 s6 J6 R6=>?_⟩⟩
   have stA:=(eE.trans jW).trans J6;obtain⟨WW,nD6⟩:=stA D _ hH hm;refine⟨_,a,_,rfl,WW,by rw[wj];exact (J6 a _ ha na).1,Np hn,?_,_,Tt,M6,τ',_,_,vs++[v],s6.Ih WW nD6 h0 ng,pass ((aK.trans stA)),rfl,nD6,?_,?_,?_,wc nda ?_,rest⟩
   . rw[List.length_zip,fA,<- hkl,Nat.min_self,rV];exact hz'
   .
    rw[aE];unfold Gm;rw[AI,List.zip_append (by rw[fA];exact hkl)]
    rfl
   . rw[eJ,eJ,hkl];rfl
   . exact aH.append (aH.Ih WW (rr.stay stA) nda) (.cons (R6.Ih WW nx) .nil)
   . show (iM _&&fK [])=true;rw[nx];rfl
theorem Ii(B:bu X.env.scope scope)(hc:X.calm=true)(hu:X.A.units<cLine)(hN:Names X.N N' scope k)(hw:dU X z tg iter g items g1)(ht:∀b:Bk,fV (X.blk N' scope b) z tg T)(hT:∀i∈T.ix,g1.length<=i/\i<g1.length+k)
  (hcp:uo T (λg ns g'=>∀bk:Bk,yM (X.blk N' scope bk) z kx g ns g') (λg d g'=>∀bk:Bk,aA (X.blk N' scope bk) z vx g (.dat d) g') items [] [] (gD k g1) ks ds gE)
  (hs:∀x,foldedSetIterable iter X.env x=pure x):aA X z (.DictComp kx vx [⟨tg,iter,[],0⟩] scope pos) g (.dat (.tL ks ds)) (gE.take g1.length):=by
 obtain⟨wi,q,kk⟩:=yO hw ht hT hcp;exact⟨_,Gk B hc hu hN q (λb=>⟨jC,vC,lG,lG⟩) hs,kk⟩
noncomputable def Qp: ~~~5->List D->~~~0->Option D
 |k::ks,d::ds,n=>if k=n then some d else Qp ks ds n
 |_,_,_=>none
theorem wk{K:Frag}{M:List Addr}{H:Hp}{n: ~~~0}{d:D}:∀{ks: ~~~5}{ds:List D}{vs:List V},aH K M H ds vs->Qp ks ds n=some d->∃v,atK ((ks.map (List.map Sum.inl)).zip vs) (n.map Sum.inl)=some v/\Rep K M H d v
 | [],_,_,_,h=>by symm
 |_::_,[],_,_,h=>by symm
 |k::ks,x::ds,_,r,h=>by
  cases r with
  |cons a b=>
   unfold Qp at h;unfold atK;rw[List.map_cons,AO,List.find?_cons];by_cases e:k=n
   . rw[gL e]at h;symm;subst e;exact⟨_,by rw[sK (show (k.map Sum.inl,_).1=k.map (Sum.inl:Int->Key)from rfl)];rfl,a⟩
   .
    rw[hU e]at h;obtain⟨v,v1,v2⟩:=wk b h;refine⟨v,?_,v2⟩;rw[show decide ((k.map (Sum.inl:Int->Key),_).1=n.map Sum.inl)=false from sB λq=>e ((List.map_inj_right λa b e=>Sum.inl.inj e).mp q)]
    exact v1
theorem Ur{l:List D}{n: ~~~0}{d:D}(hK:z.K=X.K)(hu:X.A.units+1<cLine)(hi:bq l=some n)(h:Qp ks ds n=some d):Wx X z (.tL ks ds) (.tup l) (.dat d):=by
 refine⟨_,Ld hu,λg Y As M H v1 v2 Q s q1 q2 kk=>?_⟩
 obtain⟨b,ys,rfl,hb,rb⟩:=q2.tup;have e:=bG rb hi;subst e;cases q1 with
 |of q1=>cases q1 with
  |tL na ha hl rr=>obtain⟨v,e1,e2⟩:=wk rr h;exact⟨_,b,_,n.map Sum.inl,v,rfl,rfl,ha,by rw[wj];exact hK▸hb.sq,e1,kk _ H As M s (ao.refl _ _) e2⟩
end
section
variable{X:Cx}{z:Z}{g g1:G}{pos:Pos}
theorem Us{i j:Int}(h0:0<=j)(h1:j<=1000000)(h2:i.natAbs<2 ^ 64):nB X z (binaryOp .LShift) (.int i) (.int j) (.dat (.int (i * 2 ^ j.toNat))):=by
 refine⟨λx y H Q=>x=.int i/\y=.int j/\Q (.int (i * 2 ^ j.toNat)) H,λah s Y H x y v u Q I r1 r2 h=>?_,λg Y As M H v1 v2 Q s q1 q2 kk=>⟨q1.int,q2.int,kk _ H As M s (ao.refl _ _) (.int _)⟩⟩
 obtain⟨rfl,rfl,q⟩:=h;obtain⟨t,rfl⟩:=r1;obtain⟨t',rfl⟩:=r2;exact lshift_int_small h0 h1 h2 ⟨.int _,H,I.tok _,⟨_,rfl⟩,q⟩
end
open L2 PySem.W
def mZ(n: ~~~0): ~~~5->List Int
 | []=>n
 |m::l=>mZ (if HT.lexLt m n then m else n) l
theorem rT:∀(l: ~~~5) (n m: ~~~0),mZ n (l++[m])=if HT.lexLt m (mZ n l)then m else mZ n l
 | [],_,_=>rfl
 |_::l,_,m=>rT l _ m
abbrev Dy (L: ~~~5) (i j:Nat):Bool:=HT.lexLt (L.getD i []) (L.getD j [])
theorem rW(n: ~~~0)(l: ~~~5):∀k,k<=l.length->argBest (Dy (n::l)) k<=k/\(n::l).getD (argBest (Dy (n::l)) k) []=mZ n (l.take k)
 | 0,_=>⟨eC _,rfl⟩
 |k+1,hk=>by
  obtain⟨h0,h1⟩:=rW n l k (Nat.le_of_succ_le hk);have hlt:k<l.length:=hk;have e:(n::l).getD (k+1) []=l[k]:=by simp[hlt]
  have e2:l.take (k+1)=l.take k++[l[k]]:=List.take_succ_eq_append_getElem hlt;rw[e2,rT,<- h1,<- e];show (if Dy (n::l) (k+1) (argBest (Dy (n::l)) k)then k+1 else argBest (Dy (n::l)) k)<=k+1/\(n::l).getD (if Dy (n::l) (k+1) (argBest (Dy (n::l)) k)then k+1 else argBest (Dy (n::l)) k) []=_
  unfold Dy;split
  . exact⟨eC _,rfl⟩
  . exact⟨Nat.le_succ_of_le h0,rfl⟩
section
variable{prog:Program}{w:World}{A:Around}{R:Result->Shared->Prop}{I S:Addr}{fp wr:List Addr}{n:Nat}{P:Nat->Value->Prop}{St:Nat->Heap->Prop}{h0:Heap}{bt:Nat->Nat->Bool}
abbrev Nq(h h':Heap):Prop:=∀b o,h.get? b=some o->h'.get? b=some o
def Ar(prog:Program)(w:World)(A:Around)(h0:Heap)(P:Nat->Value->Prop)(bt:Nat->Nat->Bool):Prop:=
 ∀i j u v (s:Shared) (Q E:Value->Shared->Prop),Nq h0 s.heap->P i u->P j v->Q (.bool (bt i j)) s->wpAny (model prog w) A (richCompare .Lt u v) Q E s
theorem yP(W:Walks prog w A.in1 I fp wr n P St)(hc:Ar prog w A.in1 h0 P bt)(hS:S∉fp)(hw:∀b o,h0.get? b=some o->b∉wr/\b≠S):∀(k j:Nat) (s:Shared) (v:Value) (c:Nat),n - (j+1)=k->j+1<=n->St (j+1) s.heap->P (argBest bt j) v->Nq h0 s.heap->
   s.heap.get? S=some { cls:=.type "list",dict:=none,data:=.seq #[v,v] c,slots:=#[]}->(∀u h tk,P (argBest bt (n - 1)) u->Nq h0 h->R (.ok (.ret u)) { s with heap:=h,toks:=tk})->
   codeAny (model prog w) A (.builtin "min.loop" ⟨[.ref I,.none,.ref S],[]⟩) R s:=by
 have hSw:S∉wr:=λz=>hS (W.sub _ z)
 have nm:(toString "min" ++ toString ".loop":String) = "min.loop" :=by decide
 intro k
 induction k with
 |zero=>
  intro j s v c hk hj st hp old oS fin;obtain rfl:n=j+1:=by lia
  refine BF F.entry_min_loop ?_;rw[Around.under_plainId AA _];refine aS (t8 oS rfl ?_);refine aS (wpAny_tryCatch (W.done s _ _ st λh tk kp=>?_))
  refine aS (wpAny_updateSeq (kp S _ hSw oS) rfl (aS (B6 (dS ?_))));exact fin v _ tk hp λb o e=>(i6 _ _ (nV (hw b o e).2)).trans (kp b o (hw b o e).1 (old b o e))
 |succ k ih=>
  intro j s v c hk hj st hp old oS fin;have hlt:j+1<n:=by lia
  refine BF F.entry_min_loop ?_;rw[Around.under_plainId AA _];refine aS (t8 oS rfl ?_);refine aS (wpAny_tryCatch (W.item (j+1) s _ _ hlt st λu h tk hu aK kp=>?_))
  have WX:=kp S _ hSw oS;have Ut:Nq h0 h:=λb o e=>kp b o (hw b o e).1 (old b o e)
  show wpAny _ _ (tryCatch (holding [u,u] (richCompare .Lt u v >>= _)) _ >>= _) _ _ _;refine aS (wpAny_tryCatch (l7 (aS (hc (j+1) (argBest bt j) u v _ _ _ Ut hu hp ?_))));refine aS (l7 (mM ?_));refine aS (B6 (dS ?_));cases hb:bt (j+1) (argBest bt j)with
  |true=>
   simp only[An];refine aS (wpAny_updateSeq WX rfl (aS (B6 ?_)));rw[nm];refine dS ⟨plainId_quiet AA _,ih (j+1) _ u _ ⋯ hlt (W.frame _ _ _ aK λb hb o e=>?_) (by simp only[argBest,hb,An];exact hu) (λb o e=>?_) (oP _ WX rfl) fin⟩
   . exact (i6 _ _ (λz:S=b=>hS (z▸hb))).trans e
   . exact (i6 _ _ (nV (hw b o e).2)).trans (Ut b o e)
  |false=>simp only[AQ,C1];refine aS (B6 ?_);rw[nm];exact dS ⟨plainId_quiet AA _,ih (j+1) _ v c ⋯ hlt aK (by simp only[argBest,hb,AQ,C1];exact hp) Ut WX fin⟩
theorem wm(W:Walks prog w A.in1 I fp wr n P St)(hc:Ar prog w A.in1 h0 P bt)(hS:S∉fp)(hw:∀b o,h0.get? b=some o->b∉wr/\b≠S)(hn:0<n){s:Shared}{c:Nat}(st:St 0 s.heap)(old:Nq h0 s.heap)
  (oS:s.heap.get? S=some { cls:=.type "list",dict:=none,data:=.seq #[] c,slots:=#[]}) (fin:∀u h tk,P (argBest bt (n - 1)) u->Nq h0 h->R (.ok (.ret u)) { s with heap:=h,toks:=tk}) :
   codeAny (model prog w) A (.builtin "min.loop" ⟨[.ref I,.none,.ref S],[]⟩) R s:=by
 have hSw:S∉wr:=λz=>hS (W.sub _ z)
 have nm:(toString "min" ++ toString ".loop":String) = "min.loop" :=by decide
 refine BF F.entry_min_loop ?_;rw[Around.under_plainId AA _];refine aS (t8 oS rfl ?_);refine aS (wpAny_tryCatch (W.item 0 s _ _ hn st λu h tk hu aK kp=>?_))
 have WX:=kp S _ hSw oS;show wpAny _ _ (updateSeq S (λ_=>#[u,u]) >>= _) _ _ _
 refine aS (wpAny_updateSeq WX rfl ?_);rw[nm];refine dS ⟨plainId_quiet AA _,yP W hc hS hw _ 0 _ u _ rfl hn (W.frame _ _ _ aK λb hb o e=>?_) hu (λb o e=>?_) (oP _ WX rfl) fin⟩
 . exact (i6 _ _ (λz:S=b=>hS (z▸hb))).trans e
 . exact (i6 _ _ (nV (hw b o e).2)).trans (kp b o (hw b o e).1 (old b o e))
theorem o8{x:Value}{Q E:Value->Shared->Prop}{s:Shared}
  (h:wpAny (model prog w) A.in1 (pyIter x) (λit t=>∃I fp wr n P St bt,it=.ref I/\Walks prog w A.in1 I fp wr n P St/\St 0 t.heap/\(∀b∈fp,b<t⁻¹)/\0<n/\Ar prog w A.in1 s.heap P bt/\Nq s.heap t.heap/\(∀b o,s.heap.get? b=some o->b∉wr)/\
   ∀v h' tk,P (argBest bt (n - 1)) v->Nq s.heap h'->Q v { t with heap:=h',toks:=tk}) E s) :
  wpAny (model prog w) A (call (.builtin "min") [x]) Q E s:=by
 have nm:(toString "min" ++ toString ".loop":String) = "min.loop" :=by decide
 refine call_function_tree F.kind_min F.plain_min F.entry_min (F.args_min1 _) ?_;refine aS (wpAny_of_eq (show Builtin.Builtins.bindParams "min" ["key", "default"] 0 ⟨[],[]⟩=pure [none,none]from rfl) ?_)
 refine aS (dS ?_);refine aS (lL h (λit t z=>?_) λ_ _ e=>e)
 obtain⟨I,fp,wr,n,P,St,bt,rfl,W,st,hf,hn,hc,old,hw,fin⟩:=z;refine aS (l9 ?_);have hS:t⁻¹∉fp:=λz=>nE _ (hf _ z)
 rw[nm];exact dS ⟨plainId_quiet AA _,wm W hc hS (λb o e=>⟨hw b o e,i7 (eQ (old b o e))⟩) hn (W.frame _ _ _ st λb _ o e=>bP _ e) (λb o e=>bP _ (old b o e)) (eM _ rfl) fin⟩
end
section
variable{X:Cx}{z:Z}
theorem Dz(hc:X.calm=true)(hu:X.A.units+1<cLine):d8 X (.builtin "min") (λxs H Q=>∃(p:Addr) (ys:List V) (n: ~~~0) (l: ~~~5),xs=[.ref p]/\(cz X.K H p ys\/fP X.K H p ys)/\jt X.K H ys (n::l)/\
  ∀i,i<ys.length->(n::l).getD i []=mZ n l->Q (ys.getD i .non) H):=by
 intro ah s Y H xs us Q I r h;obtain⟨p,ys,n,l,rfl,hp,ht,q⟩:=h;obtain⟨u,rfl,rx⟩:=vals1 r;cases rx;have hh:X.A.in1.handled=none:=I.ok.hd hc;have cmp:∀its:List Value,Vals ys its->Ar X.prog X.w X.A.in1 s.heap (λi v=>its.toArray[i]?=some v) (Dy (n::l)):=λits rv=>by
  intro i j u v s' Q E old hi hj hQ;have t:=ht.real I rv;have hi:its[i]?=some u:=by simpa using hi
  have hj:its[j]?=some v:=by simpa using hj
  have li:=(dL.mp hi).1;have lj:=(dL.mp hj).1;obtain⟨a,a2,ea,ta,ia⟩:=(t.at li).keep old;obtain⟨b,b2,eb,tb,ib⟩:=(t.at lj).keep old;rw[i9,hi]at ea;rw[i9,hj]at eb;obtain rfl:u=.ref a:=ea;obtain rfl:v=.ref b:=eb;exact HT.n9 ta tb ia ib hu hQ
 have fin:∀(its:List Value) (v:Value) (h':Heap) (tk:Nat),Vals ys its->its.toArray[argBest (Dy (n::l)) (its.toArray.size - 1)]?=some v->Nq s.heap h'->EP X ah Y Q v { s with heap:=h',toks:=tk}:=λits v h' tk rv hv hk=>by
  have hl:its.length=l.length+1:=(ht.real I rv).length;obtain⟨b1,b2⟩:=rW n l l.length (eC _);rw[List.take_length]at b2;rw[dE,hl,Nat.add_sub_cancel]at hv;have hv:its[argBest (Dy (n::l)) l.length]?=some v:=by simpa using hv
  have hy:argBest (Dy (n::l)) l.length<ys.length:=by rw[rv.length];lia
  have rel:=rM rv hy;rw[i9 (l:=its),hv]at rel;exact⟨_,H,I.kept hk,rel,q _ hy b2⟩
 have pos:∀its:List Value,Vals ys its->0<its.toArray.size:=λits rv=>by rw[dE,(ht.real I rv).length];exact Nat.succ_pos _
 have ow:∀(b:Addr) (o:Obj),s.heap.get? b=some o->b∉[s⁻¹]:=λb o e hm=>by
  have:b=s⁻¹:=by simpa using hm
  exact absurd (eQ e) (by rw[this];exact nE _)
 have fpl:∀{hlt:p<s⁻¹}{o:Obj},∀b∈[s⁻¹,p],b<(s.heap.push o).objs.size:=λ{hlt o} b hb=>by
  rw[sR];simp only[eA,l5,xL]at hb;rcases hb with rfl |rfl
  . exact mP _
  . exact AV hlt
 rcases hp with hp |hp
 .
  obtain⟨its,rv,pl,hz⟩:=I.list hp;have hlt:p<s⁻¹:=by obtain⟨_,e,_⟩:=pl.isList;exact eQ e
  refine o8 (AU pl.isList ?_);exact⟨s⁻¹,_,_,_,_,_,_,rfl,Walks.list (A:=X.A.in1) hh s⁻¹ p (i7 hlt) its.toArray,⟨⟨_,eM _ rfl,rfl,rfl⟩,pl.isList.push _⟩,fpl (hlt:=hlt),pos its rv,cmp its rv,λb o e=>bP _ e,ow,λv h' tk hP hk=>fin its v h' tk rv hP hk⟩
 .
  obtain⟨its,rv,pl,hz⟩:=I.tuple hp;have hlt:p<s⁻¹:=by obtain⟨_,e,_⟩:=pl;exact eQ e
  have YG:s.heap.IsTuple p its.toArray:=pl;refine o8 (AM YG ?_);exact⟨s⁻¹,_,_,_,_,_,_,rfl,Walks.tuple (A:=X.A.in1) hh s⁻¹ p (i7 hlt) its.toArray,⟨⟨_,eM _ rfl,rfl,rfl⟩,IsTup.keeps YG λb o e=>bP _ e⟩,fpl (hlt:=hlt),pos its rv,cmp its rv,λb o e=>bP _ e,ow,λv h' tk hP hk=>fin its v h' tk rv hP hk⟩
theorem Nr{d:D}{l:List D}{n: ~~~0}{ns: ~~~5}(hc:X.calm=true)(hu:X.A.units+1<cLine)(hK:z.K=X.K)(h:dm d=some l)(hi:kr l=some (n::ns)):CallD X z (.builtin "min") [d] (.dat (.tup ((mZ n ns).map .int))):=by
 refine⟨_,Dz hc hu,λg Y As M H vs Q s p k=>?_⟩
 obtain⟨v,rfl,pv⟩:=p.one;have main:∀(a:Addr) (xs:List V),aH z.K M H l xs->(cz X.K H a xs\/fP X.K H a xs)->∃(p:Addr) (ys:List V) (n: ~~~0) (l: ~~~5),[V.ref a]=[.ref p]/\(cz X.K H p ys\/fP X.K H p ys)/\jt X.K H ys (n::l)/\∀i,i<ys.length->(n::l).getD i []=mZ n l->Q (ys.getD i .non) H:=λa xs rr hq=>by
  obtain⟨t1,t2,t3⟩:=rP rr hi;refine⟨a,xs,n,ns,rfl,hq,hK▸t1,λi hl e=>?_⟩
  have hd:i<l.length:=by rw[rr.length];exact hl
  obtain⟨v,e1,e2⟩:=rr.get (i:=i) (d:=l[i]) (by simp[hd])
  have q1:l[i]=.tup ((mZ n ns).map .int):=by
   have hn:i<(n::ns).length:=by rw[t3,fA]at hd;exact hd
   rw[<- e,i9,mE hn];simp only[t3,List.getElem_map];rfl
  have q2:xs.getD i .non=v:=by rw[i9,e1];rfl
  rw[q2];exact k _ _ As M s (ao.refl _ _) (q1▸e2)
 cases d with
 |lst m=>symm;obtain⟨a,xs,rfl,e1,e2⟩:=pv.list;exact main a xs e2 (.inl (cz.of e1))
 |tup m=>symm;obtain⟨a,xs,rfl,e1,e2⟩:=pv.tup;exact main a xs e2 (.inr (hK▸e1.sq))
 |fix m=>symm;obtain⟨a,xs,rfl,e1,e2⟩:=pv.fix;exact main a xs e2 (.inl (hK▸e1.sq))
 |_=>symm
end
inductive Bl where
 |len |list |tuple |max |min |str |all |sorted |sum |any
 deriving DecidableEq
set_option genInjectivity false in
inductive Ex where
 |val (d:D) |slot (i:Nat)
 |bin (op:Operator) (a b:Ex) |cmp (op:CmpOp) (a b:Ex) |chain (a:Ex) (ops:List CmpOp) (l:List Ex)
 |neg (a:Ex) |not (a:Ex) |and (l:List Ex) |or (l:List Ex) |ite (c a b:Ex)
 |tup (l:List Ex) |lst (l:List Ex)
 |ix (a b:Ex) |slice (a:Ex) (lo hi:Option Ex)
 |call (f:Nat) (l:List Ex) |blt (b:Bl) (l:List Ex) |vd (a:Ex) (n:String) |Ij (a:Ex) (ns:List String)
 |comp (n k:Nat) (T:Tg) (it:Ex) (c:Option Ex) (e:Ex)
 |wu (n k:Nat) (T:Tg) (it:Ex) (ks:List Ex) (v:Ex)
 |iN (n k:Nat) (T1:Tg) (qw:Ex) (c1:Option Ex) (T:Tg) (it:Ex) (c:Option Ex) (e:Ex)
 |fX (a:Ex) |fL (a b:Ex) |fY (a:Ex)
 |nh (a b c:Ex) |zip (a b:Ex)
 |DG (l:List (Bool×Ex))
 |rev (a:Ex) |emp |stk |peek (e:Ex)
 |o9 (f ir:Nat) (ca:List Addr) (e:Ex) |yQ (a:Ex) (l:List (Addr×Bool))
 |append (i:Nat) (e:Ex) |extend (i:Nat) (e:Ex) |rX (i:Nat) (e:Ex)
set_option genInjectivity false in
inductive Sm where
 |ret (e:Ex) |expr (e:Ex) |set (i:Nat) (e:Ex) |setC (i:Nat) (e:Ex) |tgt (T:Tg) (e:Ex) |item (i:Nat) (j e:Ex)
 |par (i j:Nat) (a b:Ex) |items2 (i:Nat) (x:Ex) (j:Nat) (y:Ex) (e:Ex)
 |ite (c:Ex) (a b:List Sm) |loop (T:Tg) (it:Ex) (b:List Sm) |while (c:Ex) (b:List Sm) |raise (ci:Nat) (e:Ex) |stuck
structure Fx where
 np:Nat
 n:Nat
 body:List Sm
noncomputable def Tg.gU:Tg->Bool
 |.tp _=>true
 |.nm _=>false
noncomputable def Nt(i j:Int):Bool:=(decide (-(2 ^ 64)<i)&&decide (i<2 ^ 64))||(decide (-(2 ^ 64)<j)&&decide (j<2 ^ 64))
def lim:Nat:=16777216
noncomputable def kB{α:Type}(f:Int->Int->Option α)(a b:D):Option α:=match a with
 |.int i=>(match b with |.int j=>f i j |_=>none)
 |_=>none
noncomputable def Uu(a b:D):Option R:=match a with
 |.int i=>(match b with |.int j=>some (.dat (.int (i+j))) |_=>none)
 |.lst l=>(match b with |.lst m=>if l.length+m.length<=lim then some (.new (l++m))else none |_=>none)
 |.tup l=>(match b with |.tup m=>if l.length+m.length<=lim then some (.dat (.tup (l++m)))else none |_=>none)
 |_=>none
def Nu(a:D)(k:Int):Option R:=match a with
 |.int i=>if Nt i k=true then some (.dat (.int (i * k)))else none
 |.lst l=>if -(2 ^ 63)<=k/\k<2 ^ 63/\l.length * k.toNat<=lim then some (.new (List.replicate k.toNat l).flatten)else none
 |_=>none
def ve(op:Operator)(a b:D):Option R:=match op with
 |.Add=>Uu a b
 |.Sub=>kB (λi j=>some (.dat (.int (i - j)))) a b
 |.Mult=>(match b with |.int k=>Nu a k |_=>none)
 |.FloorDiv=>kB (λi j=>if 0<j/\j<1073741824 then some (.dat (.int (i / j)))else none) a b
 |.Mod=>kB (λi j=>if 0<j then some (.dat (.int (i % j)))else none) a b
 |.Pow=>kB (λi j=>if 0<=j/\j<=1000/\i.natAbs<2 ^ 64 then some (.dat (.int (i ^ j.toNat)))else none) a b
 |.LShift=>kB (λi j=>if 0<=j/\j<=1000/\i.natAbs<2 ^ 64 then some (.dat (.int (i * 2 ^ j.toNat)))else none) a b
 |_=>none
def fZ(d1 d2:D):Bool:=g5 d1&&g5 d2&&decide (dep d1<=190)
def wz(d1:D)(l:List D):Bool:=g5 d1&&fy l&&decide (deps l<=190)
def ltF(a b:D):Option Bool:=match a with
 |.int i=>(match b with |.int j=>some (decide (i<j)) |_=>none)
 |.tup l=>(match b with |.tup m=>(match bq l with |some ns=>(match bq m with |some ms=>some (HT.lexLt ns ms) |none=>none) |none=>none) |_=>none)
 |_=>none
def fz(op:CmpOp)(d1 d2:D):Option Bool:=match op with
 |.Eq=>if fZ d1 d2=true then some (bW d1 d2)else none
 |.NotEq=>if fZ d1 d2=true then some (!bW d1 d2)else none
 |.Lt=>ltF d1 d2
 |.LtE=>kB (λi j=>some (decide (i<=j))) d1 d2
 |.Gt=>kB (λi j=>some (decide (i > j))) d1 d2
 |.GtE=>kB (λi j=>some (decide (i ≥ j))) d1 d2
 |.In=>(match dm d2 with |some l=>if wz d1 l=true then some (l.any λd=>bW d d1)else none |none=>none)
 |.NotIn=>(match dm d2 with |some l=>if wz d1 l=true then some (!l.any λd=>bW d d1)else none |none=>none)
 |_=>none
def xX:D->D->Option D
 |.lst l,.int i=>fG l i
 |.fix l,.int i=>fG l i
 |.tup l,.int i=>fG l i
 |.tL ks ds,.tup l=>(match bq l with |some n=>Qp ks ds n |none=>none)
 |_,_=>none
def Qq(b:Bl)(d:D):Option R:=match b with
 |.len=>(match Yr d with |some n=>some ‹n› |none=>none)
 |.list=>(match dm d with |some l=>some (.new l) |none=>none)
 |.tuple=>(match dm d with |some l=>some (.dat (.tup l)) |none=>none)
 |.min=>(match dm d with |some l=>(match bq l with |some (n::ns)=>some (.dat (.int (jD n ns))) |_=>(match kr l with |some (n::ns)=>some (.dat (.tup ((mZ n ns).map .int))) |_=>none)) |none=>none)
 |.all=>(match d with |.lst l=>(match vF l with |some bs=>some (.dat (.bl (bs.all id))) |none=>none) |_=>none)
 |.sorted=>(match dm d with |some l=>(match bq l with |some ns=>if ns.length<64 then some (.new ((bO ns).map .int))else none |none=>match kr l with |some dY=>if dY.length<64 then some (.new ((cO fW dY).map λns=>.tup (ns.map .int)))else none |none=>none) |none=>none)
 |_=>none
def bl2(b:Bl)(d e:D):Option R:=match b with
 |.max=>kB (λi j=>some (.dat (.int (if j > i then j else i)))) d e
 |.min=>kB (λi j=>some (.dat (.int (if j<i then j else i)))) d e
 |_=>none
def mL(b:Bl)(ds:List D):Option R:=match ds with
 | [d]=>Qq b d
 | [d,e]=>bl2 b d e
 |_=>none
noncomputable def iu(t n:String):Bool:=t==n||(t == "bool" && n == "int")
noncomputable def isW:Ex->Bool
 |.fX _=>true
 |.fL _ _=>true
 |.nh _ _ _=>true
 |.zip _ _=>true
 |_=>false
structure Rn where
 e:List Nat->Nat->Ex->G->Option (R×G)
 t:List Nat->Nat->Ex->G->Option (Bool×G)
 b:List Nat->Nat->List Sm->G->Option (Fl×G)
 x:List Nat->Nat->Ex->G->Option (Nat×G)
 xt:List Nat->Nat->Ex->G->Option (Nat×G)
 xb:List Nat->Nat->List Sm->G->Option (Nat×G)
noncomputable def toD(bor:List Nat):R->G->Option (D×G)
 |.dat d,g=>some (d,g)
 |.new l,g=>some (.lst l,g)
 |.var i,g=>if i∈bor then none else match g[i]? with |some (.own l)=>some (.lst l,g.set i (.dat (.lst l))) |_=>none
noncomputable def norm:R->R
 |.new l=>.dat (.lst l)
 |.dat d=>.dat d
 |.var i=>.var i
section
variable(rn:Rn)(bor:List Nat)(k:Nat)
noncomputable def dI(e:Ex)(g:G):Option (D×G):=match rn.e bor k e g with
 |some (r,g1)=>toD bor r g1
 |none=>none
noncomputable def ju:List Ex->G->Option (List D×G)
 | [],g=>some ([],g)
 |e::es,g=>match dI rn bor k e g with
  |some (d,g1)=>match ju es g1 with
   |some (ds,g2)=>some (d::ds,g2)
   |none=>none
  |none=>none
def argsR:List Ex->G->Option (List R×G)
 | [],g=>some ([],g)
 |e::es,g=>match rn.e bor k e g with
  |some (r,g1)=>match argsR es g1 with
   |some (rs,g2)=>some (norm r::rs,g2)
   |none=>none
  |none=>none
def Fe:D->List CmpOp->List Ex->G->Option (Bool×G)
 |d1,[op],[b],g=>match dI rn bor k b g with
  |some (d2,g1)=>match fz op d1 d2 with |some c=>some (c,g1) |none=>none
  |none=>none
 |d1,op::op'::ops,b::b'::bs,g=>match dI rn bor k b g with
  |some (d2,g1)=>match fz op d1 d2 with
   |some true=>Fe d2 (op'::ops) (b'::bs) g1
   |some false=>some (false,g1)
   |none=>none
  |none=>none
 |_,_,_,_=>none
def Ik:List Ex->G->Option (R×G)
 | [],_=>none
 | [a],g=>rn.e bor k a g
 |a::b::l,g=>match rn.e bor k a g with
  |some (.dat (.bl true),g1)=>Ik (b::l) g1
  |some (.dat (.bl false),g1)=>some (.dat (.bl false),g1)
  |_=>none
def Za:List Ex->G->Option (R×G)
 | [],_=>none
 | [a],g=>rn.e bor k a g
 |a::b::l,g=>match rn.e bor k a g with
  |some (.dat (.bl false),g1)=>Za (b::l) g1
  |some (.dat (.bl true),g1)=>some (.dat (.bl true),g1)
  |_=>none
def wA:List Ex->G->Option (Bool×G)
 | [],_=>none
 | [a],g=>rn.t bor k a g
 |a::b::l,g=>match rn.t bor k a g with
  |some (true,g1)=>wA (b::l) g1
  |some (false,g1)=>some (false,g1)
  |none=>none
def Il:List Ex->G->Option (Bool×G)
 | [],_=>none
 | [a],g=>rn.t bor k a g
 |a::b::l,g=>match rn.t bor k a g with
  |some (false,g1)=>Il (b::l) g1
  |some (true,g1)=>some (true,g1)
  |none=>none
noncomputable def rY:Option Ex->G->Option (Option Int×G)
 |none,g=>some (none,g)
 |some e,g=>match dI rn bor k e g with
  |some (.int i,g1)=>some (some i,g1)
  |_=>none
noncomputable def Nv(j:Int):Bool:=decide (-(2 ^ 62)<=j)&&decide (j<2 ^ 62)
noncomputable def wB(j:Int):Bool:=decide (-(2 ^ 30)<=j)&&decide (j<2 ^ 30)
def dW(tp:Bool)(it:Ex)(g:G):Option (List D×G):=match it with
 |.fX a=>match dI rn bor k a g with
  |some (.int j,g1)=>if Nv j=true then some (cJ 0 j.toNat,g1)else none
  |_=>none
 |.fL a b=>match dI rn bor k a g with
  |some (.int c,g1)=>match dI rn bor k b g1 with
   |some (.int j,g2)=>if Nv c=true/\Nv j=true then some (cJ c (j - c).toNat,g2)else none
   |_=>none
  |_=>none
 |.nh a b c=>match dI rn bor k a g with
  |some (.int i,g1)=>match dI rn bor k b g1 with
   |some (.int j,g2)=>match dI rn bor k c g2 with
    |some (.int s,g3)=>if wB i=true/\wB j=true/\wB s=true/\0<s then some (qI i s (lJ i j s),g3)else none
    |_=>none
   |_=>none
  |_=>none
 |.zip a b=>if tp=true then match ju rn bor k [a,b] g with
  |some ([d1,d2],g1)=>match dm d1,dm d2 with |some l,some m=>if isTup d1=isTup d2 then some (ug l m,g1)else none |_,_=>none
  |_=>none
  else none
 |e=>match dI rn bor k e g with
  |some (.tup l,g1)=>some (l,g1)
  |some (.lst l,g1)=>some (l,g1)
  |some (.fix l,g1)=>some (l,g1)
  |_=>none
def vf:Option Ex->G->Option (Bool×G)
 |none,g=>some (true,g)
 |some c,g=>rn.t bor k c g
def yR(T:Tg)(last:Nat)(c:Option Ex)(e:Ex):List D->G->Option G
 | [],g=>some g
 |d::l,g=>match T.set d g with
  |none=>none
  |some g1=>match vf rn bor k c g1 with
   |none=>none
   |some (false,g2)=>yR T last c e l g2
   |some (true,g2)=>match dI rn bor k e g2 with
    |none=>none
    |some (x,g3)=>match g3[last]? with
     |some (.own acc)=>if acc.length<lim then yR T last c e l (g3.set last (.own (acc++[x])))else none
     |_=>none
def eX(n kk:Nat)(T:Tg)(it:Ex)(c:Option Ex)(e:Ex)(g:G):Option (List D×G):=match dW rn bor k T.gU it g with
 |none=>none
 |some (items,g1)=>if g1.length=n/\(T.ix.any λi=>decide (i∈bor))=false then match yR rn bor k T (n+kk) c e items (gC kk g1)with
   |none=>none
   |some gE=>match gE[n+kk]? with
    |some (.own acc)=>some (acc,gE.take n)
    |_=>none
  else none
def Uv(T:Tg)(ks:List Ex)(v:Ex):List D->List (~~~0)->List D->G->Option ((List (~~~0)×List D)×G)
 | [],ka,da,g=>some ((ka,da),g)
 |d::l,ka,da,g=>match T.set d g with
  |none=>none
  |some g1=>match ju rn bor k ks g1 with
   |none=>none
   |some (m,g2)=>match bq m with
    |none=>none
    |some ns=>match dI rn bor k v g2 with
     |none=>none
     |some (x,g3)=>if ((ka.all λk=>!decide (k=ns))&&(jE g3&&iM x))=true/\ka.length<lim/\m.length<=lim then Uv T ks v l (ka++[ns]) (da++[x]) g3 else none
def pg(n kk:Nat)(T:Tg)(it:Ex)(ks:List Ex)(v:Ex)(g:G):Option ((List (~~~0)×List D)×G):=match dW rn bor k T.gU it g with
 |none=>none
 |some (items,g1)=>if g1.length=n/\(T.ix.any λi=>decide (i∈bor))=false then match Uv rn bor k T ks v items [] [] (gD kk g1)with
   |none=>none
   |some (p,gE)=>some (p,gE.take n)
  else none
def wC(T1:Tg)(c1:Option Ex)(T:Tg)(it:Ex)(c:Option Ex)(e:Ex)(last:Nat):List D->G->Option G
 | [],g=>some g
 |d::l,g=>match T1.set d g with
  |none=>none
  |some g1=>match vf rn bor k c1 g1 with
   |none=>none
   |some (false,g2)=>wC T1 c1 T it c e last l g2
   |some (true,g2)=>match dW rn bor k T.gU it g2 with
    |none=>none
    |some (items,g3)=>match yR rn bor k T last c e items g3 with
     |none=>none
     |some g4=>wC T1 c1 T it c e last l g4
def lN(n kk:Nat)(T1:Tg)(qw:Ex)(c1:Option Ex)(T:Tg)(it:Ex)(c:Option Ex)(e:Ex)(g:G):Option (List D×G):=match dW rn bor k T1.gU qw g with
 |none=>none
 |some (items,g1)=>if g1.length=n/\((T1.ix++T.ix).any λi=>decide (i∈bor))=false then match wC rn bor k T1 c1 T it c e (n+kk) items (gC kk g1)with
   |none=>none
   |some gE=>match gE[n+kk]? with
    |some (.own acc)=>some (acc,gE.take n)
    |_=>none
  else none
def aM(fx:Fx)(k':Nat)(rs:List R)(g1:G):Option (R×G):=
 if rs.length=fx.np/\((vars 0 rs).map (·.2)).Nodup then match bY rs g1 with
  |none=>none
  |some gs=>match rn.b ((vars 0 rs).map (·.1)) k' fx.body (cU fx.n gs)with
   |some (.rt r,gc)=>match back (vars 0 rs) gc g1 with
    |some gO=>match d7 ((vars 0 rs).map (·.1)) gc r with |some r'=>some (r',gO) |none=>none
    |none=>none
   |some (.nx,gc)=>match back (vars 0 rs) gc g1 with
    |some gO=>some (.dat .non,gO)
    |none=>none
   |_=>none
 else none
def yS:Str->List (Bool×Ex)->G->Option (Str×G)
 |out,[],g=>some (out,g)
 |out,(false,.val (.str y))::es,g=>if (out++y).length<=lim then yS (out++y) es g else none
 |out,(true,e)::es,g=>match dI rn bor k e g with
  |some (.int i,g1)=>if i.natAbs.log2<1920/\(out++(toString i:Str)).length<=lim then yS (out++(toString i:Str)) es g1 else none
  |_=>none
 |_,_,_=>none
def aO(fns:List Fx)(e:Ex)(g:G):Option (R×G):=match e with
 |.val d=>some (.dat d,g)
 |.slot i=>match g[i]? with |some (.dat d)=>some (.dat d,g) |some (.own _)=>some (.var i,g) |_=>none
 |.bin op a b=>match argsR rn bor k [a,b] g with
  |some ([r1,r2],g2)=>match pk r1 g2,pk r2 g2 with
   |some d1,some d2=>match ve op d1 d2 with |some r=>some (r,g2) |none=>none
   |_,_=>none
  |_=>none
 |.cmp op a b=>match argsR rn bor k [a,b] g with
  |some ([r1,r2],g2)=>match pk r1 g2,pk r2 g2 with
   |some d1,some d2=>match fz op d1 d2 with |some c=>some (.dat (.bl c),g2) |none=>none
   |_,_=>none
  |_=>none
 |.chain a ops l=>match dI rn bor k a g with
  |some (d1,g1)=>match Fe rn bor k d1 ops l g1 with |some (c,g2)=>some (.dat (.bl c),g2) |none=>none
  |none=>none
 |.neg a=>match dI rn bor k a g with |some (.int i,g1)=>some (.dat (.int (-i)),g1) |_=>none
 |.not a=>match rn.e bor k a g with |some (.dat (.bl c),g1)=>some (.dat (.bl (!c)),g1) |_=>none
 |.and l=>Ik rn bor k l g
 |.or l=>Za rn bor k l g
 |.ite c a b=>match rn.t bor k c g with
  |some (true,g1)=>rn.e bor k a g1
  |some (false,g1)=>rn.e bor k b g1
  |none=>none
 |.tup l=>match ju rn bor k l g with |some (ds,g1)=>if ds.length<=lim then some (.dat (.tup ds),g1)else none |none=>none
 |.lst l=>match ju rn bor k l g with |some (ds,g1)=>if ds.length<=lim then some (.new ds,g1)else none |none=>none
 |.ix a b=>match argsR rn bor k [a,b] g with
  |some ([r1,r2],g2)=>match pk r1 g2,pk r2 g2 with
   |some d1,some d2=>match xX d1 d2 with |some d=>some (.dat d,g2) |none=>none
   |_,_=>none
  |_=>none
 |.slice a lo hi=>match rn.e bor k a g with
  |some (r,g1)=>match rY rn bor k lo g1 with
   |some (i,g2)=>match rY rn bor k hi g2 with
    |some (j,g3)=>match norm r with
     |.dat (.tup l)=>some (.dat (.tup (gR l i j)),g3)
     |.dat (.fix l)=>some (.new (gR l i j),g3)
     |r'=>match pk r' g3 with |some (.lst l)=>some (.new (gR l i j),g3) |_=>none
    |none=>none
   |none=>none
  |none=>none
 |.call f l=>match fns[f]?,k with
  |some fx,k'+1=>match argsR rn bor k l g with
   |some (rs,g1)=>aM rn fx k' rs g1
   |none=>none
  |_,_=>none
 |.blt b l=>match argsR rn bor k l g with
  |some (rs,g1)=>match Cr rs g1 with
   |some ds=>match mL b ds with |some r=>some (r,g1) |none=>none
   |none=>none
  |none=>none
 |.vd a n=>match rn.e bor k a g with
  |some (r,g1)=>match pk (norm r) g1 with |some d=>some (.dat (.bl (iu (tT d) n)),g1) |none=>none
  |none=>none
 |.Ij a ns=>match rn.e bor k a g with
  |some (r,g1)=>match pk (norm r) g1 with |some d=>some (.dat (.bl (ns.any (iu (tT d)))),g1) |none=>none
  |none=>none
 |.comp n kk T it c e=>match eX rn bor k n kk T it c e g with |some (acc,g1)=>some (.new acc,g1) |none=>none
 |.wu n kk T it ks v=>match pg rn bor k n kk T it ks v g with |some (p,g1)=>some (.dat (.tL p.1 p.2),g1) |none=>none
 |.iN n kk T1 qw c1 T it c e=>match lN rn bor k n kk T1 qw c1 T it c e g with |some (acc,g1)=>some (.new acc,g1) |none=>none
 |.rev a=>match rn.e bor k a g with
  |some (r,g1)=>match norm r with
   |.dat (.tup l)=>some (.dat (.tup l.reverse),g1)
   |r'=>match pk r' g1 with |some (.lst l)=>some (.new l.reverse,g1) |_=>none
  |none=>none
 |.emp=>some (.dat .emp,g)
 |.stk=>none
 |.peek e=>if bor.isEmpty=true then match rn.e [] k e (g.map iU)with |some (.dat d,_)=>if flat d=true then some (.dat d,g)else none |_=>none else none
 |.o9 f ir ca e=>match fns[f]?,k with
  |some fx,k'+2=>match rn.x [] k' e (g.map noOwn)with
   |some (ci,_)=>match ca[ci]? with
    |some C=>match rn.b [] k' (fx.body.drop 2) ((List.replicate fx.n .no).set ir (.dat (.mC C)))with
     |some (.rt r,g3)=>match d7 [] g3 r with |some r'=>some (r',g) |none=>none
     |_=>none
    |none=>none
   |none=>none
  |_,_=>none
 |.yQ a l=>match rn.e bor k a g with
  |some (r,g1)=>match pk (norm r) g1 with
   |some (.mC C)=>match l.lookup C with |some b=>some (.dat (.bl b),g1) |none=>none
   |some .non=>some (.dat (.bl false),g1)
   |_=>none
  |none=>none
 |.append i e=>match g[i]? with
  |some (.own _)=>match dI rn bor k e g with
   |some (d,g1)=>match g1[i]? with |some (.own l)=>if l.length<lim then some (.dat .non,g1.set i (.own (l++[d])))else none |_=>none
   |none=>none
  |_=>none
 |.extend i e=>match g[i]? with
  |some (.own _)=>match dI rn bor k e g with
   |some (.lst m,g1)=>match g1[i]? with |some (.own l)=>if l.length+m.length<=lim then some (.dat .non,g1.set i (.own (l++m)))else none |_=>none
   |_=>none
  |_=>none
 |.rX i e=>match g[i]? with
  |some (.own _)=>match dI rn bor k e g with
   |some (.int j,g1)=>match g1[i]? with
    |some (.own l)=>match nq l.length j with
     |some n=>match l[n]? with |some d=>if l.length<lim then some (.dat d,g1.set i (.own (l.eraseIdx n)))else none |none=>none
     |none=>none
    |_=>none
   |_=>none
  |_=>none
 |.DG l=>match l with
  |_::_::_=>match yS rn bor k Str.empty l g with |some (r,g1)=>some (.dat (.str r),g1) |none=>none
  |_=>none
 |.fX _=>none
 |.fL _ _=>none
 |.nh _ _ _=>none
 |.zip _ _=>none
 |.fY a=>match dI rn bor k a g with
  |some (.int j,g1)=>if Nv j=true/\j.toNat<=lim then some (.new (cJ 0 j.toNat),g1)else none
  |_=>none
def stepT(e:Ex)(g:G):Option (Bool×G):=match e with
 |.cmp op a b=>match argsR rn bor k [a,b] g with
  |some ([r1,r2],g2)=>match pk r1 g2,pk r2 g2 with
   |some d1,some d2=>match fz op d1 d2 with |some c=>some (c,g2) |none=>none
   |_,_=>none
  |_=>none
 |.chain a ops l=>match dI rn bor k a g with
  |some (d1,g1)=>Fe rn bor k d1 ops l g1
  |none=>none
 |.not a=>match rn.t bor k a g with |some (c,g1)=>some (!c,g1) |none=>none
 |.and l=>wA rn bor k l g
 |.or l=>Il rn bor k l g
 |.ite _ _ _=>none
 |e=>match rn.e bor k e g with
  |some (r,g1)=>match pk (norm r) g1 with
   |some d=>match Mg d with |some c=>some (c,g1) |none=>none
   |none=>none
  |none=>none
def eY(T:Tg)(b:G->Option (Fl×G)):List D->G->Option (Fl×G)
 | [],g=>some (.nx,g)
 |d::l,g=>match T.set d g with
  |none=>none
  |some g0=>match b g0 with
   |none=>none
   |some (.nx,g1)=>eY T b l g1
   |some (.ct,g1)=>eY T b l g1
   |some (.bk,g1)=>some (.nx,g1)
   |some (.rt r,g1)=>some (.rt r,g1)
noncomputable def xY(c:G->Option (Bool×G))(b:G->Option (Fl×G)):Nat->G->Option (Fl×G)
 | 0,_=>none
 |n+1,g=>match c g with
  |none=>none
  |some (false,g1)=>some (.nx,g1)
  |some (true,g1)=>match b g1 with
   |none=>none
   |some (.nx,g2)=>xY c b n g2
   |some (.ct,g2)=>xY c b n g2
   |some (.bk,g2)=>some (.nx,g2)
   |some (.rt r,g2)=>some (.rt r,g2)
def aG(st:Sm)(g:G):Option (Fl×G):=match st with
 |.ret e=>match rn.e bor k e g with |some (r,g1)=>some (.rt r,g1) |none=>none
 |.expr e=>match rn.e bor k e g with |some (_,g1)=>some (.nx,g1) |none=>none
 |.set i e=>if i∈bor then none else match rn.e bor k e g with
  |some (.new l,g1)=>if i<g1.length then some (.nx,g1.set i (.own l))else none
  |some (r,g1)=>match toD bor r g1 with |some (d,g2)=>some (.nx,g2.set i (.dat d)) |none=>none
  |none=>none
 |.setC i e=>if i∈bor then none else match e with
  |.comp n kk T it c e=>match eX rn bor k n kk T it c e g with
   |some (acc,g1)=>if i<g1.length then some (.nx,g1.set i (.own acc))else none
   |none=>none
  |.iN n kk T1 qw c1 T it c e=>match lN rn bor k n kk T1 qw c1 T it c e g with
   |some (acc,g1)=>if i<g1.length then some (.nx,g1.set i (.own acc))else none
   |none=>none
  |_=>none
 |.tgt T e=>if T.ix.any (λi=>decide (i∈bor))=true then none else match dI rn bor k e g with
  |some (d,g1)=>match T.set d g1 with |some g2=>some (.nx,g2) |none=>none
  |none=>none
 |.item i j e=>match dI rn bor k e g with
  |some (d,g1)=>match g1[i]? with
   |some (.own _)=>match dI rn bor k j g1 with
    |some (.int n,g2)=>match g2[i]? with
     |some (.own l)=>match nq l.length n with |some m=>some (.nx,g2.set i (.own (l.set m d))) |none=>none
     |_=>none
    |_=>none
   |_=>none
  |none=>none
 |.par i j a b=>if i∈bor then none else if j∈bor then none else match ju rn bor k [a,b] g with
  |some ([d1,d2],g1)=>some (.nx,(g1.set i (.dat d1)).set j (.dat d2))
  |_=>none
 |.items2 i x j y e=>match dI rn bor k e g with
  |some (.tup [d1,d2],g1)=>match g1[i]? with
   |some (.own _)=>match dI rn bor k x g1 with
    |some (.int n1,g2)=>match g2[i]? with
     |some (.own l)=>match nq l.length n1 with
      |some m1=>match (g2.set i (.own (l.set m1 d1)))[j]? with
       |some (.own _)=>match dI rn bor k y (g2.set i (.own (l.set m1 d1)))with
        |some (.int n2,g3)=>match g3[j]? with
         |some (.own l2)=>match nq l2.length n2 with |some m2=>some (.nx,g3.set j (.own (l2.set m2 d2))) |none=>none
         |_=>none
        |_=>none
       |_=>none
      |none=>none
     |_=>none
    |_=>none
   |_=>none
  |_=>none
 |.ite c a b=>match rn.t bor k c g with
  |some (true,g1)=>rn.b bor k a g1
  |some (false,g1)=>rn.b bor k b g1
  |none=>none
 |.loop T it b=>if T.ix.any (λi=>decide (i∈bor))=true then none else match dW rn bor k T.gU it g with
  |some (items,g1)=>eY T (rn.b bor k b) items g1
  |none=>none
 |.while c b=>xY (rn.t bor k c) (rn.b bor k b) 100000 g
 |.raise _ _=>none
 |.stuck=>none
def fD:List Sm->G->Option (Fl×G)
 | [],g=>some (.nx,g)
 |st::rest,g=>match aG rn bor k st g with
  |some (.nx,g1)=>fD rest g1
  |some (f,g1)=>some (f,g1)
  |none=>none
def xW(it:Ex)(g:G):Option (Nat×G):=if isW it=true then none else rn.x bor k it g
def xArgs:List Ex->G->Option (Nat×G)
 | [],_=>none
 |e::es,g=>match rn.x bor k e g with
  |some r=>some r
  |none=>match rn.e bor k e g with
   |some (_,g1)=>xArgs es g1
   |none=>none
def pq(fx:Fx)(k':Nat)(rs:List R)(g1:G):Option (Nat×G):=
 if rs.length=fx.np/\((vars 0 rs).map (·.2)).Nodup then match bY rs g1 with
  |none=>none
  |some gs=>match rn.xb ((vars 0 rs).map (·.1)) k' fx.body (cU fx.n gs)with
   |some (ci,gc)=>match back (vars 0 rs) gc g1 with |some gO=>some (ci,gO) |none=>none
   |none=>none
 else none
def wD(fns:List Fx)(e:Ex)(g:G):Option (Nat×G):=match e with
 |.cmp _ a b=>xArgs rn bor k [a,b] g
 |.call f l=>match xArgs rn bor k l g with
  |some r=>some r
  |none=>match fns[f]?,k with
   |some fx,k'+1=>match argsR rn bor k l g with
    |some (rs,g1)=>pq rn fx k' rs g1
    |none=>none
   |_,_=>none
 |_=>none
def lO(e:Ex)(g:G):Option (Nat×G):=match e with
 |.not a=>rn.xt bor k a g
 |.call f l=>rn.x bor k (.call f l) g
 |_=>none
noncomputable def gW(st:Sm)(g:G):Option (Nat×G):=match st with
 |.ret e=>rn.x bor k e g
 |.expr e=>rn.x bor k e g
 |.ite c a b=>match rn.xt bor k c g with
  |some r=>some r
  |none=>match rn.t bor k c g with
   |some (true,g1)=>rn.xb bor k a g1
   |some (false,g1)=>rn.xb bor k b g1
   |none=>none
 |.raise ci e=>match dI rn bor k e g with |some (_,g1)=>some (ci,g1) |none=>none
 |_=>none
def eZ:List Sm->G->Option (Nat×G)
 | [],_=>none
 |st::rest,g=>match gW rn bor k st g with
  |some r=>some r
  |none=>match aG rn bor k st g with
   |some (.nx,g1)=>eZ rest g1
   |_=>none
end
def step(fns:List Fx)(rn:Rn):Rn:=⟨λbor k e g=>aO rn bor k fns e g,λbor k e g=>stepT rn bor k e g,λbor k l g=>fD rn bor k l g,λbor k e g=>wD rn bor k fns e g,λbor k e g=>lO rn bor k e g,λbor k l g=>eZ rn bor k l g⟩
noncomputable def rn0:Rn:=⟨λ_ _ _ _=>none,λ_ _ _ _=>none,λ_ _ _ _=>none,λ_ _ _ _=>none,λ_ _ _ _=>none,λ_ _ _ _=>none⟩
def run(fns:List Fx):Nat->Rn
 | 0=>rn0
 |n+1=>step fns (run fns n)
structure Ct where
 N:List Str
 sc:Scope
 df:Bool
 q:Str
structure Fi where
 name:Str
 qual:Str
 st:Stmt
 N:List Str
 ps:List Str
structure Pg where
 fn:List Fi
 ct:List (Str×D)
 bn:List Str
 cls:List Str:=[]
 lam:Bool:=false
 nj:List Addr:=[]
 kt:Str:=Str.empty
 ups:List (Str×List (Addr×Bool)):=[]
def yT:Str:= "law.<locals>.<lambda>"
def Im(K:Frag)(mg:Str->Option Value)(bD:Value):Prop:=
 ∃c q,bD=.ref c/\(∀b:Heap,K.In b->PySem.W.CodeHd b c q)/\(q,yT)∈cI K/\(∀b:Heap,K.In b->b.BuiltinsAt mg q)/\mainGlobals≠q
structure uq(P:Pg)(K:Frag)(mg:Str->Option Value):Prop where
 fn:∀(i:Nat) (fi:Fi),P.fn[i]?=some fi->∃f fd,mg fi.name=some (.ref f)/\K3 K fi.name fi.qual fi.st f fd/\bV fi.N fi.ps (aF fi.st)/\L2.Binds K fd fi.ps []/\(fi.name==(~~~3))=false
 ct:∀(x:Str) (d:D),(x,d)∈P.ct->(x==(~~~3))=false/\∃v u,mg x=some u/\RelV v u/\∀M H,Rep K M H d v
 bn:∀x∈P.bn,mg x=none
 cls:∀x∈P.cls,(x==(~~~3))=false/\∃C,mg x=some (.ref C)/\eV K C
 lam:P.lam=true->∀bD,PySem.W.codeIn K bD "law"=true->Im K mg bD
 nj:∀(i:Nat) (C:Addr),P.nj[i]?=some C->∃x,P.cls[i]?=some x/\mg x=some (.ref C)/\eV K C/\EY K C
 kt:P.lam=true->(P.kt==(~~~3))=false/\∃D,mg P.kt=some (.ref D)/\eV K D/\∀C∈P.nj,qK K C D=true
 ups:∀(x:Str) (l:List (Addr×Bool)),(x,l)∈P.ups->(x==(~~~3))=false/\∃cv,((mg x=some cv/\∃D,cv=.ref D)\/(x∈P.bn/\x≠ "__name__" /\bootBuiltins x=some cv/\∃n,cv=.type n))/\PySem.W.kitOne K (.type "NoneType") cv=some false/\∀C b,l.lookup C=some b->PySem.W.kitOne K (.ref C) cv=some b
structure aW(P:Pg)(k:Nat)(X:Cx)(c:Ct):Prop where
 N:X.N=c.N
 nd:c.N.Nodup
 Uw:∀x,c.sc.names.lookup x=some .local->X.env.scope.names.lookup x=some .local
 kQ:∀x,c.sc.names.lookup x=some .globalImplicit->Gl X x
 fre:∀x,c.sc.names.lookup x=some .cell\/c.sc.names.lookup x=some .free->X.env.scope.names.lookup x=some .cell\/X.env.scope.names.lookup x=some .free
 cel:c.df=true->∀x,c.sc.names.lookup x=some .cell->X.env.scope.names.lookup x=some .cell
 fn:∀x,c.df=true\/c.sc.names.lookup x=some .local->X.fn x=true
 bk:c.df=true->X.env.blockKind=.function
 calm:X.calm=true
 xe:X.xe=λ_ _=>False
 md:uq P X.K X.mg
 room:bS k X.A
 lam:c.q = "law" ->P.lam=true->X.env.qual ++ "<lambda>"=yT/\Im X.K X.mg X.env.code
noncomputable def DK(sc:Scope)(x:Str):Bool:=match sc.names.lookup x with |some .local=>true |some .cell=>true |some .free=>true |_=>false
noncomputable def jF(c:Ct)(x:Str):Bool:=match c.sc.names.lookup x with |some .local=>true |some .cell=>c.df |_=>false
noncomputable def iW(x:Str):Bool:=!(x==(~~~3))&&!(x==("__classdict__":Str))
section
theorem aW.vis(h:aW P k X c)(hv:DK c.sc x=true):uW X.env.scope x:=by
 unfold DK at hv;split at hv
 . rename_i e;exact .inl (h.Uw x e)
 . rename_i e;exact (h.fre x (.inl e)).elim (λq=>.inr (.inl q)) λq=>.inr (.inr q)
 . rename_i e;exact (h.fre x (.inr e)).elim (λq=>.inr (.inl q)) λq=>.inr (.inr q)
 . cases hv
theorem aW.nm(h:aW P k X c)(hi:c.N[i]?=some x)(hs:jF c x=true):Tf X x i:=by
 refine⟨h.N▸h.nd,by rw[h.N];exact hi,?_,.inl (h.fn x ?_)⟩
 .
  unfold jF at hs;split at hs
  . rename_i e;exact .inl (h.Uw x e)
  . rename_i e;exact .inr (h.cel hs x e)
  . cases hs
 .
  unfold jF at hs;split at hs
  . rename_i e;exact .inr e
  . exact .inl hs
  . cases hs
theorem cW(h:iW x=true):(x==(~~~3))=false/\(x==("__classdict__":Str))=false:=by unfold iW at h;simp only[d5,AW]at h;exact h
theorem cB{α:Type}{f:Int->Int->Option α}{a b:D}{r:α}(h:kB f a b=some r):∃i j,a=.int i/\b=.int j/\f i j=some r:=by
 unfold kB at h;split at h
 .
  split at h
  . exact⟨_,_,rfl,rfl,h⟩
  . symm
 . symm
theorem Nx{d1 d2:D}{r:R}(hK:z.K=X.K)(h:Uu d1 d2=some r):nB X z (binaryOp .Add) d1 d2 r:=by
 unfold Uu at h;split at h
 .
  split at h
  . symm;exact z7 Rg
  . symm
 .
  split at h
  .
   split at h
   . rename_i hc;symm;exact Sq hc
   . symm
  . symm
 .
  split at h
  .
   split at h
   . rename_i hc;symm;exact Ls hK hc
   . symm
  . symm
 . symm
theorem Ny{d1:D}{k:Int}{r:R}(hK:z.K=X.K)(h:Nu d1 k=some r):nB X z (binaryOp .Mult) d1 (.int k) r:=by
 unfold Nu at h;split at h
 .
  split at h
  . rename_i hc;symm;refine tQ Ri ?_;unfold Nt at hc;simp only[y8,d5,eR]at hc;exact hc
  . symm
 .
  split at h
  . rename_i hc;symm;exact Ss hc.1 hc.2.1 hc.2.2
  . symm
 . symm
theorem Ux(hK:z.K=X.K)(h:ve op d1 d2=some r):nB X z (binaryOp op) d1 d2 r:=by
 cases op with
 |Add=>exact Nx hK h
 |Sub=>obtain⟨i,j,rfl,rfl,h'⟩:=cB h;cases h';exact z7 Rh
 |Mult=>
  dsimp only[ve]at h;split at h
  . exact Ny hK h
  . symm
 |FloorDiv=>
  obtain⟨i,j,rfl,rfl,h'⟩:=cB h;split at h'
  . rename_i hc;cases h';exact tQ KD hc
  . cases h'
 |Mod=>
  obtain⟨i,j,rfl,rfl,h'⟩:=cB h;split at h'
  . rename_i hc;cases h';exact tQ Rj hc
  . cases h'
 |Pow=>
  obtain⟨i,j,rfl,rfl,h'⟩:=cB h;split at h'
  . rename_i hc;cases h';exact tQ sU ⟨hc.1,by have:=hc.2.1;lia,hc.2.2⟩
  . cases h'
 |LShift=>
  obtain⟨i,j,rfl,rfl,h'⟩:=cB h;split at h'
  . rename_i hc;cases h';exact Us hc.1 (by have:=hc.2.1;lia) hc.2.2
  . cases h'
 |_=>symm
theorem pD(hK:z.K=X.K)(hr:bS k X.A)(h:fz op d1 d2=some b):nB X z (compareOp op) d1 d2 (.dat (.bl b)):=by
 have hu:=hr.un;cases op with
 |Eq=>
  dsimp only[fz]at h;split at h
  . rename_i hc;symm;simp only[fZ,d5,eR]at hc;exact Ym hK hc.1.1 hc.1.2 (by have:=hc.2;lia)
  . symm
 |NotEq=>
  dsimp only[fz]at h;split at h
  . rename_i hc;symm;simp only[fZ,d5,eR]at hc;exact Yo hK hc.1.1 hc.1.2 (by have:=hc.2;lia)
  . symm
 |Lt=>
  dsimp only[fz,ltF]at h;split at h
  .
   split at h
   . symm;exact tR XD
   . symm
  .
   split at h
   .
    split at h
    .
     rename_i h1;split at h
     . rename_i h2;symm;exact Sy hK ⋯ h1 h2
     . symm
    . symm
   . symm
  . symm
 |LtE=>obtain⟨i,j,rfl,rfl,h'⟩:=cB h;cases h';exact tR XF
 |Gt=>obtain⟨i,j,rfl,rfl,h'⟩:=cB h;cases h';exact tR XH
 |GtE=>obtain⟨i,j,rfl,rfl,h'⟩:=cB h;cases h';exact tR XJ
 |In=>
  dsimp only[fz]at h;split at h
  .
   rename_i hs;split at h
   . rename_i hc;symm;simp only[wz,d5,eR]at hc;exact Yq hK hs hc.1.1 hc.1.2 (by have:=hc.2;lia)
   . symm
  . symm
 |NotIn=>
  dsimp only[fz]at h;split at h
  .
   rename_i hs;split at h
   . rename_i hc;symm;simp only[wz,d5,eR]at hc;exact Gu hK hs hc.1.1 hc.1.2 (by have:=hc.2;lia)
   . symm
  . symm
 |_=>symm
theorem Uy{d1 d2 d:D}(hK:z.K=X.K)(hr:X.A.units+1<cLine)(h:xX d1 d2=some d):Wx X z d1 d2 (.dat d):=by
 unfold xX at h;split at h
 . exact Sw hK h
 . exact Sx hK h
 . exact Lv hK h
 .
  split at h
  . rename_i e;exact Ur hK hr e h
  . symm
 . symm
noncomputable def blV:Bl->Str×Value
 |.len=>("len",.builtin "len")
 |.list=>("list",.type "list")
 |.tuple=>("tuple",.type "tuple")
 |.max=>("max",.builtin "max")
 |.min=>("min",.builtin "min")
 |.str=>("str",.type "str")
 |.all=>("all",.builtin "all")
 |.any=>("any",.builtin "any")
 |.sorted=>("sorted",.builtin "sorted")
 |.sum=>("sum",.builtin "sum")
theorem Uz{b:Bl}{d:D}{r:R}(hK:z.K=X.K)(hc:X.calm=true)(hr:X.A.units+6<cLine)(h:Qq b d=some r):CallD X z (blV b).2 [d] r:=by
 cases b <;> dsimp only[Qq]at h
 case len=>
  split at h
  . rename_i e;symm;exact SJ hK e
  . symm
 case list=>
  split at h
  . rename_i e;symm;exact Lw hK e
  . symm
 case tuple=>
  split at h
  . rename_i e;symm;exact Gw hK e
  . symm
 case min=>
  split at h
  .
   rename_i e1;split at h
   . rename_i e2;symm;exact MJ hc hK e1 e2
   .
    split at h
    . rename_i e3;symm;exact Nr hc ⋯ hK e1 e3
    . symm
  . symm
 case all=>
  split at h
  .
   split at h
   . rename_i e;symm;exact SQ hc e
   . symm
  . symm
 case sorted=>
  split at h
  .
   rename_i e1;split at h
   .
    rename_i e2;split at h
    . rename_i e3;symm;exact De hK e1 e2 e3
    . symm
   .
    split at h
    .
     rename_i e2;split at h
     . rename_i e3;symm;exact yE hK e1 e2 e3
     . symm
    . symm
  . symm
 all_goals symm
theorem UG{b:Bl}{ds:List D}{r:R}(hK:z.K=X.K)(hc:X.calm=true)(hr:X.A.units+6<cLine)(h:mL b ds=some r):CallD X z (blV b).2 ds r:=by
 unfold mL at h;split at h
 . exact Uz hK hc hr h
 .
  cases b with
  |max=>obtain⟨i,j,rfl,rfl,h'⟩:=cB h;cases h';exact SM hc
  |min=>obtain⟨i,j,rfl,rfl,h'⟩:=cB h;cases h';exact SN hc
  |_=>symm
 . symm
noncomputable def ur:List String:=["int", "bool", "str", "tuple", "list", "dict"]
theorem wF{K:Frag}{M:List Addr}{H:Hp}{v:V}{d:D}(p:Pk K M H d v){n:String}(hn:n∈ur):PySem.W.kitOne K (Fb d) (.type n)=some (iu (tT d) n):=by
 cases d with
 |mC C=>
  cases p with
  |of q=>
   cases q with
   |mC k _ _=>refine (k.kit n hn).trans ?_;unfold ur at hn;simp only[eA,l5,xL]at hn;rcases hn with rfl |rfl |rfl |rfl |rfl |rfl <;> first |rfl |decide
 |_=>unfold ur at hn;simp only[eA,l5,xL]at hn;rcases hn with rfl |rfl |rfl |rfl |rfl |rfl <;> first |rfl |decide
theorem rZ{K:Frag}{M:List Addr}{H:Hp}{v:V}{d:D}(p:Pk K M H d v):∀{ns:List String},(∀n∈ns,n∈ur)->PySem.W.kitAny K (Fb d) (ns.map Value.type)=some (ns.any (iu (tT d)))
 | [],_=>rfl
 |n::ns,h=>by
  show (match PySem.W.kitOne K (Fb d) (.type n)with |some true=>some true |some false=>PySem.W.kitAny K (Fb d) (ns.map Value.type) |none=>none)=_
  rw[wF p (h n dC),rZ p λm hm=>h m (dA _ hm),List.any_cons]
  cases iu (tT d) n <;> rfl
end
noncomputable def yU(sc scope:Scope):Bool:=decide (scope.kind=.function)&&scope.names.all λy=>decide (y.2≠.cell)&&(decide (y.2≠.local)||decide (scope.names.lookup y.1=some .local)) &&
 (decide (y.2≠.free)||(decide (scope.names.lookup y.1=some .free)&&(decide (sc.names.lookup y.1=some .cell)||decide (sc.names.lookup y.1=some .free))))
noncomputable def pF(N N':List Str)(scope:Scope)(k:Nat):Bool:=decide (N'.length=N.length+(k+1))&&(match N'[N.length+k]? with |some x=>decide (scope.names.lookup x=none) |none=>true) &&
 (List.range N.length).all λi=>match N'[i]? with |some x=>decide (scope.names.lookup x=none)||(decide (N[i]?=some x)&&decide (scope.names.lookup x≠some .local)) |none=>true
inductive DN(c:Ct):List Expr->List Nat->Prop
 |nil:DN c [] []
 |cons {x:Str}{i:Nat}{pos:Pos}{es:List Expr}{is:List Nat}:c.N[i]?=some x->jF c x=true->DN c es is->DN c (.Name x pos::es) (i::is)
inductive DP(P:Pg)(c:Ct):List Expr->List String->Prop
 |nil:DP P c [] []
 |cons {T:Str}{n:String}{pos:Pos}{es:List Expr}{ns:List String}:T∈P.bn->c.sc.names.lookup T=some .globalImplicit->T=Str.ofString n->n∈ur->DP P c es ns->DP P c (.Name T pos::es) (n::ns)
inductive DQ(c:Ct):Expr->Tg->Prop
 |nm:c.N[i]?=some x->jF c x=true->DQ c (.Name x pos) (.nm i)
 |tp {es:List Expr}{is:List Nat}{k:Nat}{pos:Pos}:DN c es is->DQ c (.Tuple es k pos) (.tp is)
noncomputable def UJ(c:Ct)(x y:Str)(px py:Pos)(a b:Expr):Bool:=(c.sc.names.lookup x==some .local)&&(c.sc.names.lookup y==some .local)&&py.line==px.line&&!(x==y)&&!(foldedForSure 8 a&&foldedForSure 8 b)&&!(constantsAlone 8 a&&constantsAlone 8 b)&&c.df
noncomputable def WY(c:Ct)(y:Str)(py pos:Pos)(scope:Scope):Bool:=(c.sc.names.lookup y==some .local)&&py.line==pos.line&&!(scope.names.any λ(n,k)=>n==y&&(k==.local||k==.cell))
noncomputable def nmW(e:Expr):Option Str:=match e with |.Name x _=>some x |_=>none
noncomputable def tpN(n:Nat)(e:Expr):Bool:=match e with |.Tuple vs _ _=>decide (vs.length=n) |_=>false
def Zb(c:Ct)(a:Expr):Bool:=match nmW a with |some x=>decide (c.sc.names.lookup x=some .cell) |none=>false
def Nz(c:Ct)(es:List Expr)(e:Expr):Bool:=tpN es.length e&&(c.df&&es.any (Zb c))
inductive wG(R:Expr->Ex->Prop):List Expr->List Ex->Prop
 |nil:wG R [] []
 |cons {e:Expr}{es:List Expr}{x:Ex}{xs:List Ex}:R e x->wG R es xs->wG R (e::es) (x::xs)
inductive wH(R:Expr->Ex->Prop):List Expr->List (Bool×Ex)->Prop
 |nil:wH R [] []
 |con {y:Str}{j:Nat}{p:Pos}{es:List Expr}{l:List (Bool×Ex)}:wH R es l->wH R (.Constant (.str y) j p::es) ((false,.val (.str y))::l)
 |fmt:R v x->wH R es l->wH R (.FormattedValue v (-1) Option.none p::es) ((true,x)::l)
inductive NB(R:Expr->Ex->Prop):Option Expr->Option Ex->Prop
 |none:NB R Option.none Option.none
 |some {e:Expr}{x:Ex}:R e x->NB R (Option.some e) (Option.some x)
inductive Au(R:Expr->Ex->Prop):List Expr->Option Ex->Prop
 |none:Au R [] Option.none
 |some {e:Expr}{x:Ex}:R e x->Au R [e] (Option.some x)
inductive wI(P:Pg)(R:Expr->Ex->Prop)(c:Ct):Expr->Ex->Prop
 |seq:R e x->wI P R c e x
 |fX:R a xa->("range":Str)∈P.bn->c.sc.names.lookup ("range":Str)=some .globalImplicit->wI P R c (.Call (.Name "range" p) [a] [] pos) (.fX xa)
 |fL:R a xa->R b xb->("range":Str)∈P.bn->c.sc.names.lookup ("range":Str)=some .globalImplicit->wI P R c (.Call (.Name "range" p) [a,b] [] pos) (.fL xa xb)
 |nh:R a xa->R b xb->R s xs->("range":Str)∈P.bn->c.sc.names.lookup ("range":Str)=some .globalImplicit->wI P R c (.Call (.Name "range" p) [a,b,s] [] pos) (.nh xa xb xs)
 |zip:R a xa->R b xb->("zip":Str)∈P.bn->c.sc.names.lookup ("zip":Str)=some .globalImplicit->wI P R c (.Call (.Name "zip" p) [a,b] [] pos) (.zip xa xb)
noncomputable def Av(e:Expr):Option Str:=match e with |.Name x _=>some x |_=>none
theorem pG{e:Expr}{x:Str}(h:Av e=some x):∃p,e=.Name x p:=by cases e <;> first | (symm;exact⟨_,rfl⟩) |symm
noncomputable def Io{α:Type}(l:List α):Option α:=match l with | [a]=>some a |_=>none
theorem nL{α:Type}{l:List α}{a:α}(h:Io l=some a):l=[a]:=by
 cases l with
 |nil=>symm
 |cons b l=>cases l with
  |nil=>symm;rfl
  |cons _ _=>symm
noncomputable def Zc(s:Stmt):Option (List Expr×Expr):=match s with |.Assign ts e _=>some (ts,e) |_=>none
theorem NC{s:Stmt}{r:List Expr×Expr}(h:Zc s=some r):∃p,s=.Assign r.1 r.2 p:=by cases s <;> first | (symm;exact⟨_,rfl⟩) |symm
noncomputable def Zd(e:Expr):Option Const:=match e with |.Constant c _ _=>some c |_=>none
theorem NK(h:Zd e=some c):∃j p,e=.Constant c j p:=by cases e <;> first | (symm;exact⟨_,_,rfl⟩) |symm
noncomputable def Ze(c:Const):Option Unit:=match c with |.none=>some () |_=>none
theorem NP(h:Ze c=some ()):c=.none:=by cases c <;> first |rfl |symm
noncomputable def Zf(s:Stmt):Option Expr:=match s with |.Expr e _=>some e |_=>none
theorem NQ{s:Stmt}{e:Expr}(h:Zf s=some e):∃p,s=.Expr e p:=by cases s <;> first | (symm;exact⟨_,rfl⟩) |symm
noncomputable def Zg(e:Expr):Option (Expr×List Expr×List Keyword):=match e with |.Call f as ks _=>some (f,as,ks) |_=>none
theorem NR{e:Expr}{r:Expr×List Expr×List Keyword}(h:Zg e=some r):∃p,e=.Call r.1 r.2.1 r.2.2 p:=by cases e <;> first | (symm;exact⟨_,rfl⟩) |symm
noncomputable def Zh(s:Stmt):Option (List Stmt×List ExceptHandler×List Stmt×List Stmt):=match s with |.Try b h o f _=>some (b,h,o,f) |_=>none
theorem NT{s:Stmt}{r:List Stmt×List ExceptHandler×List Stmt×List Stmt}(h:Zh s=some r):∃p,s=.Try r.1 r.2.1 r.2.2.1 r.2.2.2 p:=by cases s <;> first | (symm;exact⟨_,rfl⟩) |symm
noncomputable def Ip{α:Type}(l:List α):Option Unit:=match l with | []=>some () |_=>none
theorem nM{α:Type}{l:List α}(h:Ip l=some ()):l=[]:=by cases l with |nil=>rfl |cons _ _=>symm
noncomputable def Zi(h:ExceptHandler):Option (Expr×Str×List Stmt):=match h with |.ExceptHandler t n b _=>t.bind λt=>n.bind λn=>some (t,n,b)
theorem NX{h:ExceptHandler}{r:Expr×Str×List Stmt}(e:Zi h=some r):∃p,h=.ExceptHandler (some r.1) (some r.2.1) r.2.2 p:=by
 obtain⟨t,n,b,p⟩:=h;cases t with
 |none=>cases e
 |some t=>cases n with
  |none=>cases e
  |some n=>cases e;exact⟨p,rfl⟩
def Aw(s:Stmt):Option (Str×Expr):=(Zc s).bind λr=>(Io r.1).bind λt=>(Av t).bind λx=>some (x,r.2)
theorem wJ{s:Stmt}{r:Str×Expr}(h:Aw s=some r):∃p q,s=.Assign [.Name r.1 p] r.2 q:=by unfold Aw at h;simp only[fI]at h;obtain⟨⟨ts,e⟩,h1,t,h2,x,h3,h4⟩:=h;cases h4;obtain⟨p,rfl⟩:=NC h1;obtain⟨q,rfl⟩:=pG h3;have:=nL h2;dsimp only at this;subst this;exact⟨q,p,rfl⟩
def UL(l:List Stmt):Option Str:=(Io l).bind λs3=>(Zf s3).bind λce=>(Zg ce).bind λf=>(Ip f.2.1).bind λ_=>(Ip f.2.2).bind λ_=>Av f.1
theorem NZ{l:List Stmt}{y:Str}(h:UL l=some y):∃py cp ep,l=[.Expr (.Call (.Name y py) [] [] cp) ep]:=by replace h:=fI.1 h;obtain⟨s3,h1,h⟩:=h;cases nL h1;clear h1;replace h:=fI.1 h;obtain⟨ce,h1,h⟩:=h;obtain⟨p,e1⟩:=NQ h1;cases e1;clear h1;replace h:=fI.1 h;obtain⟨⟨f1,f2,f3⟩,h1,h⟩:=h;obtain⟨q,e1⟩:=NR h1;cases e1;clear h1;replace h:=fI.1 h;obtain⟨_,h1,h⟩:=h;replace h:=fI.1 h;obtain⟨_,h2,h⟩:=h;obtain⟨r,e1⟩:=pG h;exact⟨r,q,p,by have a:=nM h1;have b:=nM h2;dsimp only at a b e1 ⊢;rw[a,b,e1]⟩
def UT(l:List ExceptHandler):Option (Str×Str×Str×Str):=(Io l).bind λhh=>(Zi hh).bind λu=>(Av u.1).bind λke=>(Io u.2.2).bind λs4=>(Aw s4).bind λb=>(Av b.2).bind λQs=>some (ke,u.2.1,b.1,Qs)
theorem N1{l:List ExceptHandler}{r:Str×Str×Str×Str}(h:UT l=some r):∃kp v9 v8 ap hp,l=[.ExceptHandler (some (.Name r.1 kp)) (some r.2.1) [.Assign [.Name r.2.2.1 v9] (.Name r.2.2.2 v8) ap] hp]:=by replace h:=fI.1 h;obtain⟨hh,h1,h⟩:=h;cases nL h1;clear h1;replace h:=fI.1 h;obtain⟨⟨u1,u2,u3⟩,h1,h⟩:=h;obtain⟨p,e1⟩:=NX h1;cases e1;clear h1;replace h:=fI.1 h;obtain⟨ke,h1,h⟩:=h;obtain⟨q,e1⟩:=pG h1;cases e1;clear h1;replace h:=fI.1 h;obtain⟨s4,h1,h⟩:=h;cases nL h1;clear h1;replace h:=fI.1 h;obtain⟨⟨b1,b2⟩,h1,h⟩:=h;obtain⟨m,n,e1⟩:=wJ h1;cases e1;clear h1;replace h:=fI.1 h;obtain⟨en,h1,h⟩:=h;obtain⟨o,e1⟩:=pG h1;cases e1;clear h1;symm;exact⟨q,m,o,n,p,rfl⟩
def Zj(s:Stmt):Option Str:=(Aw s).bind λa=>(Zd a.2).bind λc=>(Ze c).bind λ_=>some a.1
theorem N2(h:Zj s=some x):∃p j np ap,s=.Assign [.Name x p] (.Constant .none j np) ap:=by replace h:=fI.1 h;obtain⟨⟨a1,a2⟩,h1,h⟩:=h;obtain⟨p,q,e1⟩:=wJ h1;cases e1;clear h1;replace h:=fI.1 h;obtain⟨c,h1,h⟩:=h;obtain⟨j,m,e1⟩:=NK h1;cases e1;clear h1;replace h:=fI.1 h;obtain⟨_,h1,h⟩:=h;cases NP h1;clear h1;symm;exact⟨p,j,m,q,rfl⟩
def Zm(s:Stmt):Option (Str×Str×Str×Str×Str):=(Zh s).bind λt=>(Ip t.2.2.1).bind λ_=>(Ip t.2.2.2).bind λ_=>(UL t.1).bind λy=>(UT t.2.1).bind λu=>some (y,u)
theorem N3{s:Stmt}{r:Str×Str×Str×Str×Str}(h:Zm s=some r):∃l hs p,UL l=some r.1/\UT hs=some r.2/\s=.Try l hs [] [] p:=by replace h:=fI.1 h;obtain⟨⟨t1,t2,t3,t4⟩,h1,h⟩:=h;obtain⟨p,e1⟩:=NT h1;cases e1;clear h1;replace h:=fI.1 h;obtain⟨_,h1,h⟩:=h;cases nM h1;clear h1;replace h:=fI.1 h;obtain⟨_,h1,h⟩:=h;cases nM h1;clear h1;replace h:=fI.1 h;obtain⟨y,h1,h⟩:=h;replace h:=fI.1 h;obtain⟨u,h2,h⟩:=h;symm;exact⟨t1,t2,p,h1,h2,rfl⟩
def UW(l:List Stmt):Option (Str×Str×Str×Str×Str×Str):=match l with
 |s1::s2::_=>(Zj s1).bind λa=>(Zm s2).bind λt=>some (a,t)
 |_=>none
theorem N4(h:UW l=some (er,y,ke,en,Ke,Qs)):∃Dw j np WQ py bM qo kp v9 v8 ez qq qm rest,l=.Assign [.Name er Dw] (.Constant .none j np) WQ::.Try [.Expr (.Call (.Name y py) [] [] bM) qo] [.ExceptHandler (some (.Name ke kp)) (some en) [.Assign [.Name Ke v9] (.Name Qs v8) ez] qq] [] [] qm::rest:=by
 unfold UW at h;split at h
 . replace h:=fI.1 h;obtain⟨a,h1,h⟩:=h;replace h:=fI.1 h;obtain⟨t,h2,h⟩:=h;symm;obtain⟨p,j,np,ap,e1⟩:=N2 h1;obtain⟨l,hs,tp,h3,h4,e2⟩:=N3 h2;obtain⟨py,cp,ep,e3⟩:=NZ h3;obtain⟨kp,v9,v8,ap',hp,e4⟩:=N1 h4;exact⟨p,j,np,ap,py,cp,ep,kp,v9,v8,ap',hp,tp,_,by rw[e1,e2,e3,e4]⟩
 . symm
def N5(fi:Fi)(ir:Nat)(kt:Str):Bool:=match UW (bA fi.st)with
 |some (er,y,ke,en,Ke,Qs)=>decide ((ke=kt/\Ke=er/\Qs=en/\fi.ps=[y])/\((aF fi.st).names.lookup ke=some .globalImplicit/\fi.N[fi.N.idxOf en]?=some en/\(aF fi.st).names.lookup en=some .local)/\(fi.N[ir]?=some er/\fi.N[0]?=some y)/\(fi.N.idxOf en≠ir/\fi.N.idxOf en≠0/\ir≠0))&&((iW en&&iW y)&&(DK (aF fi.st) y&&jF ⟨fi.N,aF fi.st,true,fi.qual⟩ er))
 |none=>false
noncomputable def Iq(params:Arguments)(scope:Scope):Bool:=match params with
 |⟨[],[],none,[],[],none,[]⟩=>(!scope.isCoroutine&&!scope.isGenerator)&&(decide (scope.kind=.function)&&scope.names.all λy=>decide (y.2≠.cell)&&decide (y.2≠.local))
 |_=>false
theorem Ax(h:Iq params scope=true):o7 params scope:=by
 unfold Iq at h;split at h
 . simp only[d5,AW,eR,i4]at h;exact⟨h.1.1,h.1.2,h.2.1,λx hx=>(h.2.2 x hx).1,λx hx=>(h.2.2 x hx).2,rfl⟩
 . symm
abbrev p0:Pos:=⟨0,0,0,0⟩
inductive CmG(P:Pg)(R:Expr->Ex->Prop)(RS:Stmt->Sm->Prop)(c:Ct):List Stmt->Sm->Prop
inductive yV(RG:List Stmt->Sm->Prop)(RS:Stmt->Sm->Prop):List Stmt->List Sm->Prop
 |nil:yV RG RS [] []
 |grp {ss rest:List Stmt}{x:Sm}{xs:List Sm}:RG ss x->yV RG RS rest xs->yV RG RS (ss++rest) (x::xs)
 |cons {s:Stmt}{ss:List Stmt}{x:Sm}{xs:List Sm}:RS s x->yV RG RS ss xs->yV RG RS (s::ss) (x::xs)
noncomputable def uv(k:Scope->Pos->Bool)(e:Expr):Bool:=match e with |.ListComp _ _ s p=>k s p |.DictComp ..=>true |_=>false
theorem aj{a b:Bool}(h:(a&&b)=true):a=true/\b=true:=by cases a <;> cases b <;> first |exact⟨rfl,rfl⟩ |symm
theorem dec{p:Prop} [Decidable p] (h:decide p=true):p:=mB h
theorem jG{b:Bool}(h:(!b)=true):b=false:=by cases b <;> first |rfl |symm
theorem Ir{α:Type}{l:List α}(h:l.isEmpty=true):l=[]:=by cases l with |nil=>rfl |cons _ _=>symm
theorem two{α:Type}{l:List α}(h:2<=l.length):∃a b m,l=a::b::m:=by
 cases l with
 |nil=>exact absurd h (AZ 1)
 |cons a l=>cases l with
  |nil=>exact absurd h (Nat.not_succ_le_self 1)
  |cons b m=>exact⟨a,b,m,rfl⟩
noncomputable def W0(c:Ct)(x:Str):Bool:=decide (c.sc.names.lookup x=some .globalImplicit)
def DR(P:Pg)(c:Ct)(x:Str):Bool:=P.bn.contains x&&W0 c x
theorem bh{P:Pg}{c:Ct}{x:Str}(h:DR P c x=true):x∈P.bn/\c.sc.names.lookup x=some .globalImplicit:=⟨AT.mp (aj h).1,dec (aj h).2⟩
noncomputable def nm(c:Ct)(i:Nat):Str:=c.N.getD i Str.empty
def wK(c:Ct)(i:Nat):Bool:=decide (c.N[i]?=some (nm c i))&&(DK c.sc (nm c i)&&iW (nm c i))
def stB(c:Ct)(i:Nat):Bool:=decide (c.N[i]?=some (nm c i))&&jF c (nm c i)
theorem fM{c:Ct}{i:Nat}(h:wK c i=true):c.N[i]?=some (nm c i)/\DK c.sc (nm c i)=true/\iW (nm c i)=true:=⟨dec (aj h).1,(aj (aj h).2).1,(aj (aj h).2).2⟩
def bang(x:Str):Str:=⟨x.cps.push 33⟩
def Zn(n:Nat):Str:=⟨(List.replicate n 33).toArray⟩
noncomputable def Iu(scope:Scope):List Str:=scope.names.filterMap λy=>if y.2==.local then some y.1 else none
def pH(N:List Str)(scope:Scope):List Str:=(N.map λy=>if scope.names.lookup y==some .local then bang y else y)++Iu scope++[Zn (N.length+1)]
noncomputable def uw:List Str->Bool
 | []=>true
 |x::l=>!l.contains x&&uw l
theorem iX:∀{l:List Str},uw l=true->l.Nodup
 | [],_=>t7
 |x::l,h=>by
  have h:(!l.contains x&&uw l)=true:=h;refine i3.mpr ⟨λhm=>?_,iX (aj h).2⟩
  have:=(aj h).1;rw[AT.mpr hm]at this;cases this
noncomputable def kids(e:Expr):List Expr:=match e with
 |.BoolOp _ vs _=>vs
 |.BinOp a _ b _=>[a,b]
 |.UnaryOp _ a _=>[a]
 |.Lambda _ b _ _=>[b]
 |.IfExp t a b _=>[t,a,b]
 |.ListComp e gs _ _=>e::gs.flatMap λg=>g.target::g.iter::g.ifs
 |.DictComp e v gs _ _=>e::v::gs.flatMap λg=>g.target::g.iter::g.ifs
 |.Compare a _ bs _=>a::bs
 |.Call f as ks _=>f::(as++ks.map (·.value))
 |.FormattedValue v _ _ _=>[v]
 |.JoinedStr vs _=>vs
 |.Attribute v _ _=>[v]
 |.Subscript a b _=>[a,b]
 |.List es _=>es
 |.Tuple es _ _=>es
 |.Slice a b s p=>[a.getD (.Name Str.empty p),b.getD (.Name Str.empty p),s.getD (.Name Str.empty p)]
 |_=>[]
def kid(e:Expr)(i:Nat):Expr:=(kids e).getD i e
noncomputable def iz(e:Expr):Nat:=match e with |.Constant _ k _=>k |.Tuple _ k _=>k |_=>0
noncomputable def fB(e:Expr):Scope:=match e with |.Lambda _ _ s _=>s |.ListComp _ _ s _=>s |.DictComp _ _ _ s _=>s |_=>aF (.Pass e.pos)
noncomputable def Zo(e:Expr):Arguments:=match e with |.Lambda a _ _ _=>a |_=>default
noncomputable def opT(e:Expr):Operator:=match e with |.BinOp _ o _ _=>o |_=>.Add
def eG(c:Ct)(t:Expr):Ct:=⟨pH c.N (fB t),fB t,false,Str.empty⟩
def Zq(c:Ct)(t:Expr):Ct:=⟨c.N,fB t,false,Str.empty⟩
noncomputable def wL(P:Pg)(i:Nat):Str:=match P.fn[i]? with |some fi=>fi.name |none=>Str.empty
theorem ux{P:Pg}{i:Nat}(h:P.fn[i]?.isSome=true):∃fi,P.fn[i]?=some fi/\fi.name=wL P i:=by
 unfold wL;cases e:P.fn[i]? with
 |none=>rw[e]at h;symm
 |some g=>exact⟨g,rfl,rfl⟩
section
variable{R:Expr->Ex->Prop}{s:Ex->Expr->Expr}{f:Ex->Expr->Bool}(hf:∀{x t},f x t=true->R (s x t) x)
include hf
noncomputable def jq(s:Ex->Expr->Expr)(t:Expr):Nat->List Ex->List Expr
 |_,[]=>[]
 |i,x::xs=>s x (kid t i)::jq s t (i+1) xs
noncomputable def Kf(f:Ex->Expr->Bool)(t:Expr):Nat->List Ex->Bool
 |_,[]=>true
 |i,x::xs=>f x (kid t i)&&Kf f t (i+1) xs
theorem cX{i:Nat}{xs:List Ex}(h:Kf f t i xs=true):wG R (jq s t i xs) xs:=by
 induction xs generalizing i with
 |nil=>exact .nil
 |cons x xs ih=>exact .cons (hf (aj h).1) (ih (aj h).2)
noncomputable def U0(s:Ex->Expr->Expr)(t:Expr)(x:Option Ex):Option Expr:=match x with |some x=>some (s x t) |none=>none
noncomputable def U1(f:Ex->Expr->Bool)(t:Expr)(x:Option Ex):Bool:=match x with |some x=>f x t |none=>true
theorem Iv{x:Option Ex}(h:U1 f t x=true):NB R (U0 s t x) x:=by
 cases x with
 |none=>exact .none
 |some x=>exact .some (hf h)
noncomputable def yW(s:Ex->Expr->Expr)(t:Expr)(x:Option Ex):List Expr:=match x with |some x=>[s x t] |none=>[]
theorem yX{x:Option Ex}(h:U1 f t x=true):Au R (yW s t x) x:=by
 cases x with
 |none=>exact .none
 |some x=>exact .some (hf h)
noncomputable def U3(x:Ex):Str:=match x with |.val d=>(match d with |.str y=>y |_=>Str.empty) |_=>Str.empty
noncomputable def Zr(x:Ex):Bool:=match x with |.val d=>(match d with |.str _=>true |_=>false) |_=>false
omit hf in
theorem N6{x:Ex}(h:Zr x=true):x=.val (.str (U3 x)):=by
 cases x
 case val d=>cases d <;> first |rfl |exact nt h
 all_goals exact nt h
def U4(s:Ex->Expr->Expr)(t:Expr):Nat->List (Bool×Ex)->List Expr
 |_,[]=>[]
 |i,p::l=>(if p.1=true then .FormattedValue (s p.2 (kid (kid t i) 0)) (-1) none (kid t i).pos else .Constant (.str (U3 p.2)) (iz (kid t i)) (kid t i).pos)::U4 s t (i+1) l
def okF(f:Ex->Expr->Bool)(t:Expr):Nat->List (Bool×Ex)->Bool
 |_,[]=>true
 |i,p::l=>(if p.1=true then f p.2 (kid (kid t i) 0)else Zr p.2)&&okF f t (i+1) l
theorem U5{i:Nat}{l:List (Bool×Ex)}(h:okF f t i l=true):wH R (U4 s t i l) l:=by
 induction l generalizing i with
 |nil=>exact .nil
 |cons p l ih=>
  obtain⟨b,x⟩:=p;obtain⟨h1,h2⟩:=aj h;cases b with
  |true=>exact .fmt (hf h1) (ih h2)
  |false=>have e:=N6 h1;have q:=wH.con (y:=U3 x) (j:=iz (kid t i)) (p:=(kid t i).pos) (ih (i:=i+1) h2);rw[<- e]at q;exact q
end
noncomputable def uy(s:Ex->Expr->Expr)(x:Ex)(t:Expr):Expr:=match x with
 |.fX a=>.Call (.Name "range" (kid t 0).pos) [s a (kid t 1)] [] t.pos
 |.fL a b=>.Call (.Name "range" (kid t 0).pos) [s a (kid t 1),s b (kid t 2)] [] t.pos
 |.nh a b d=>.Call (.Name "range" (kid t 0).pos) [s a (kid t 1),s b (kid t 2),s d (kid t 3)] [] t.pos
 |.zip a b=>.Call (.Name "zip" (kid t 0).pos) [s a (kid t 1),s b (kid t 2)] [] t.pos
 |x=>s x t
def W2(P:Pg)(c:Ct)(f:Ex->Expr->Bool)(x:Ex)(t:Expr):Bool:=match x with
 |.fX a=>DR P c "range" && f a (kid t 1)
 |.fL a b=>DR P c "range" && (f a (kid t 1)&&f b (kid t 2))
 |.nh a b d=>DR P c "range" && (f a (kid t 1)&&(f b (kid t 2)&&f d (kid t 3)))
 |.zip a b=>DR P c "zip" && (f a (kid t 1)&&f b (kid t 2))
 |x=>f x t
theorem pI{P:Pg}{R:Expr->Ex->Prop}{s:Ex->Expr->Expr}{f:Ex->Expr->Bool}(hf:∀{x t},f x t=true->R (s x t) x){c:Ct}{x:Ex}{t:Expr}(h:W2 P c f x t=true):wI P R c (uy s x t) x:=by
 cases x
 case fX a=>exact .fX (hf (aj h).2) (bh (aj h).1).1 (bh (aj h).1).2
 case fL a b=>exact .fL (hf (aj (aj h).2).1) (hf (aj (aj h).2).2) (bh (aj h).1).1 (bh (aj h).1).2
 case nh a b d=>exact .nh (hf (aj (aj h).2).1) (hf (aj (aj (aj h).2).2).1) (hf (aj (aj (aj h).2).2).2) (bh (aj h).1).1 (bh (aj h).1).2
 case zip a b=>exact .zip (hf (aj (aj h).2).1) (hf (aj (aj h).2).2) (bh (aj h).1).1 (bh (aj h).1).2
 all_goals exact .seq (hf h)
noncomputable def U6(t:Expr):Nat->List String->List Expr
 |_,[]=>[]
 |i,n::ns=>.Name (Str.ofString n) (kid t i).pos::U6 t (i+1) ns
def okY(P:Pg)(c:Ct):List String->Bool
 | []=>true
 |n::ns=>(ur.contains n&&DR P c (Str.ofString n))&&okY P c ns
theorem U7{P:Pg}{c:Ct}{t:Expr}{i:Nat}{ns:List String}(h:okY P c ns=true):DP P c (U6 t i ns) ns:=by
 induction ns generalizing i with
 |nil=>exact .nil
 |cons n ns ih=>exact .cons (bh (aj (aj h).1).2).1 (bh (aj (aj h).1).2).2 rfl (AT.mp (aj (aj h).1).1) (ih (aj h).2)
noncomputable def wM(c:Ct)(t:Expr):Nat->List Nat->List Expr
 |_,[]=>[]
 |j,i::is=>.Name (nm c i) (kid t j).pos::wM c t (j+1) is
def okN(c:Ct):List Nat->Bool
 | []=>true
 |i::is=>stB c i&&okN c is
theorem U8{c:Ct}{t:Expr}{j:Nat}{is:List Nat}(h:okN c is=true):DN c (wM c t j is) is:=by
 induction is generalizing j with
 |nil=>exact .nil
 |cons i is ih=>exact .cons (dec (aj (aj h).1).1) (aj (aj h).1).2 (ih (aj h).2)
def qM(c:Ct)(T:Tg)(t:Expr):Expr:=match T with
 |.nm i=>.Name (nm c i) t.pos
 |.tp is=>.Tuple (wM c t 0 is) (iz t) t.pos
theorem lP{c:Ct}{T:Tg}{t:Expr}(h:okN c T.ix=true):DQ c (qM c T t) T:=by
 cases T with
 |nm i=>exact .nm (dec (aj (aj h).1).1) (aj (aj h).1).2
 |tp is=>exact .tp (U8 h)
noncomputable def U9(a b:D):Bool:=match a with |.int i=>(match b with |.int j=>decide (i=j) |_=>false) |_=>false
theorem N7(h:U9 a b=true):a=b:=by
 cases a with
 |int i=>cases b with
  |int j=>exact congrArg D.int (dec (show decide (i=j)=true from h))
  |_=>exact nt h
 |_=>exact nt h
def ctB(y:Str)(d:D):List (Str×D)->Bool
 | []=>false
 |p::l=>(decide (p.1=y)&&U9 p.2 d)||ctB y d l
theorem Va{y:Str}{d:D}{l:List (Str×D)}(h:ctB y d l=true):(y,d)∈l:=by
 induction l with
 |nil=>symm
 |cons p l ih=>
  obtain⟨x,d'⟩:=p;have hh:((decide (x=y)&&U9 d' d)||ctB y d l)=true:=h
  rcases y8 _ _▸hh with h |h
  . obtain⟨h1,h2⟩:=aj h;obtain rfl:=dec h1;rw[N7 h2];exact dC
  . exact dA _ (ih h)
noncomputable def cstD(d:D):Const:=match d with |.int i=>.int i |.bl b=>.bool b |.str y=>.str y |_=>.none
noncomputable def cstK(d:D):Bool:=match d with |.int _=>true |.bl _=>true |.str _=>true |.non=>true |_=>false
def yZ(d:D)(t:Expr):Expr:=match Av t with |some y=>.Name y t.pos |none=>.Constant (cstD d) (iz t) t.pos
def okV(P:Pg)(c:Ct)(d:D)(t:Expr):Bool:=match Av t with |some y=>W0 c y&&ctB y d P.ct |none=>cstK d
def blK(c:Ct)(t:Expr)(k:Nat):Bool:=yU c.sc (fB t)&&(pF c.N (pH c.N (fB t)) (fB t) k&&uw (pH c.N (fB t)))
def Zt(c:Ct)(k:Nat)(T:Tg):Bool:=T.ix.all λi=>decide (c.N.length<=i/\i<c.N.length+k)
theorem uz{c:Ct}{k:Nat}{T:Tg}(h:Zt c k T=true):∀i∈T.ix,c.N.length<=i/\i<c.N.length+k:=λi hi=>dec (i4.mp h i hi)
def o1(x:Option Ex):Nat:=match x with |some _=>1 |none=>0
def Zu(P:Pg)(i ir:Nat):Bool:=match P.fn[i]? with |some fi=>N5 fi ir P.kt |none=>false
def Qt(e:Expr):Bool:=match e with |.Call f es ks _=>(Av f).isSome&&(!es.isEmpty&&ks.isEmpty) |_=>false
theorem wN{e:Expr}(h:Qt e=true):∃x p a es pos,e=.Call (.Name x p) (a::es) [] pos:=by
 cases e
 case Call f es ks pos=>
  obtain⟨h1,h2⟩:=aj (show ((Av f).isSome&&(!es.isEmpty&&ks.isEmpty))=true from h);obtain⟨x,hx⟩:=Option.isSome_iff_exists.mp h1;obtain⟨p,rfl⟩:=pG hx;cases es with
  |nil=>cases (aj h2).1
  |cons a es=>rw[Ir (aj h2).2];exact⟨x,p,a,es,pos,rfl⟩
 all_goals exact nt h
def N8(P:Pg)(s:Ct->Ex->Expr->Expr)(c:Ct)(x:Ex)(t:Expr):Expr:=match x with
 |.val d=>yZ d t
 |.slot i=>.Name (nm c i) t.pos
 |.bin op a b=>.BinOp (s c a (kid t 0)) op (s c b (kid t 1)) t.pos
 |.cmp op a b=>.Compare (s c a (kid t 0)) [op] [s c b (kid t 1)] t.pos
 |.chain a ops xs=>.Compare (s c a (kid t 0)) ops (jq (s c) t 1 xs) t.pos
 |.neg a=>.UnaryOp .USub (s c a (kid t 0)) t.pos
 |.not a=>.UnaryOp .Not (s c a (kid t 0)) t.pos
 |.and xs=>.BoolOp .And (jq (s c) t 0 xs) t.pos
 |.or xs=>.BoolOp .Or (jq (s c) t 0 xs) t.pos
 |.ite a b d=>.IfExp (s c a (kid t 0)) (s c b (kid t 1)) (s c d (kid t 2)) t.pos
 |.tup xs=>.Tuple (jq (s c) t 0 xs) (iz t) t.pos
 |.lst xs=>.List (jq (s c) t 0 xs) t.pos
 |.ix a b=>.Subscript (s c a (kid t 0)) (s c b (kid t 1)) t.pos
 |.slice a lo hi=>.Subscript (s c a (kid t 0)) (.Slice (U0 (s c) (kid (kid t 1) 0) lo) (U0 (s c) (kid (kid t 1) 1) hi) none (kid t 1).pos) t.pos
 |.call i xs=>.Call (.Name (wL P i) (kid t 0).pos) (jq (s c) t 1 xs) [] t.pos
 |.blt b xs=>.Call (.Name (blV b).1 (kid t 0).pos) (jq (s c) t 1 xs) [] t.pos
 |.vd a n=>.Call (.Name "isinstance" (kid t 0).pos) [s c a (kid t 1),.Name (Str.ofString n) (kid t 2).pos] [] t.pos
 |.Ij a ns=>.Call (.Name "isinstance" (kid t 0).pos) [s c a (kid t 1),.Tuple (U6 (kid t 2) 0 ns) (iz (kid t 2)) (kid t 2).pos] [] t.pos
 |.comp _ _ T it co xe=>.ListComp (s (eG c t) xe (kid t 0)) [⟨qM (eG c t) T (kid t 1),uy (s c) it (kid t 2),yW (s (eG c t)) (kid t 3) co,0⟩] (fB t) t.pos
 |.wu _ _ T it ks xv=>.DictComp (.Tuple (jq (s (eG c t)) (kid t 0) 0 ks) (iz (kid t 0)) (kid t 0).pos) (s (eG c t) xv (kid t 1)) [⟨qM (eG c t) T (kid t 2),uy (s c) it (kid t 3),[],0⟩] (fB t) t.pos
 |.iN _ _ T1 qw c1 T it co xe=>.ListComp (s (eG c t) xe (kid t 0)) [⟨qM (eG c t) T1 (kid t 1),uy (s c) qw (kid t 2),yW (s (eG c t)) (kid t 3) c1,0⟩,⟨qM (eG c t) T (kid t (3+o1 c1)),uy (s (eG c t)) it (kid t (4+o1 c1)),yW (s (eG c t)) (kid t (5+o1 c1)) co,0⟩] (fB t) t.pos
 |.rev a=>.Subscript (s c a (kid t 0)) (.Slice none none (some (m1 (iz (kid (kid (kid t 1) 2) 0)) (kid (kid (kid t 1) 2) 0).pos (kid (kid t 1) 2).pos)) (kid t 1).pos) t.pos
 |.emp=>.Dict [] [] t.pos
 |.peek xe=>s c xe t
 |.stk=>.BinOp (kid t 0) (opT t) (kid t 1) t.pos
 |.yQ a _=>.Call (.Name "isinstance" (kid t 0).pos) [s c a (kid t 1),.Name ((Av (kid t 2)).getD Str.empty) (kid t 2).pos] [] t.pos
 |.o9 i _ _ xb=>.Call (.Name (wL P i) (kid t 0).pos) [.Lambda (Zo (kid t 1)) (s (Zq c (kid t 1)) xb (kid (kid t 1) 0)) (fB (kid t 1)) (kid t 1).pos] [] t.pos
 |.fY a=>.Call (.Name "list" (kid t 0).pos) [.Call (.Name "range" (kid (kid t 1) 0).pos) [s c a (kid (kid t 1) 1)] [] (kid t 1).pos] [] t.pos
 |.DG l=>.JoinedStr (U4 (s c) t 0 l) t.pos
 |.append i x=>.Call (.Attribute (.Name (nm c i) (kid (kid t 0) 0).pos) "append" (kid t 0).pos) [s c x (kid t 1)] [] t.pos
 |.extend i x=>.Call (.Attribute (.Name (nm c i) (kid (kid t 0) 0).pos) "extend" (kid t 0).pos) [s c x (kid t 1)] [] t.pos
 |.rX i x=>.Call (.Attribute (.Name (nm c i) (kid (kid t 0) 0).pos) "pop" (kid t 0).pos) [s c x (kid t 1)] [] t.pos
 |_=>t
noncomputable def lnB(t:Expr):Bool:=(kid t 0).pos.endLine==t.pos.line
def ok1(P:Pg)(s:Ct->Ex->Expr->Expr)(f:Ct->Ex->Expr->Bool)(c:Ct)(x:Ex)(t:Expr):Bool:=match x with
 |.val d=>okV P c d t
 |.slot i=>wK c i
 |.bin _ a b=>f c a (kid t 0)&&f c b (kid t 1)
 |.cmp op a b=>f c a (kid t 0)&&(f c b (kid t 1)&&!behindInMarks op (s c b (kid t 1)))
 |.chain a ops xs=>f c a (kid t 0)&&(Kf (f c) t 1 xs&&(!lastMarks ops (jq (s c) t 1 xs)&&(decide (2<=ops.length)&&decide (2<=xs.length))))
 |.neg a=>f c a (kid t 0)
 |.not a=>f c a (kid t 0)
 |.and xs=>Kf (f c) t 0 xs
 |.or xs=>Kf (f c) t 0 xs
 |.ite a b d=>f c a (kid t 0)&&(f c b (kid t 1)&&f c d (kid t 2))
 |.tup xs=>Kf (f c) t 0 xs
 |.lst xs=>Kf (f c) t 0 xs
 |.ix a b=>f c a (kid t 0)&&f c b (kid t 1)
 |.slice a lo hi=>f c a (kid t 0)&&(U1 (f c) (kid (kid t 1) 0) lo&&U1 (f c) (kid (kid t 1) 1) hi)
 |.call i xs=>P.fn[i]?.isSome&&(W0 c (wL P i)&&(Kf (f c) t 1 xs&&!xs.isEmpty))
 |.blt b xs=>DR P c (blV b).1&&(Kf (f c) t 1 xs&&!xs.isEmpty)
 |.vd a n=>DR P c "isinstance" && (f c a (kid t 1)&&(ur.contains n&&DR P c (Str.ofString n)))
 |.Ij a ns=>DR P c "isinstance" && (f c a (kid t 1)&&(decide (ns.length<=100)&&okY P c ns))
 |.wu n k T it ks xv=>decide (n=c.N.length)&&(blK c t k&&(okN (eG c t) T.ix&&(Zt c k T&&(W2 P c (f c) it (kid t 3)&&(Kf (f (eG c t)) (kid t 0) 0 ks&&f (eG c t) xv (kid t 1))))))
 |.comp n k T it co xe=>decide (n=c.N.length)&&(blK c t k&&(okN (eG c t) T.ix&&(Zt c k T&&(W2 P c (f c) it (kid t 2)&&(U1 (f (eG c t)) (kid t 3) co&&f (eG c t) xe (kid t 0))))))
 |.iN n k T1 qw c1 T it co xe=>decide (n=c.N.length)&&(blK c t k&&((okN (eG c t) T1.ix&&okN (eG c t) T.ix)&&((Zt c k T1&&Zt c k T)&&((W2 P c (f c) qw (kid t 2)&&U1 (f (eG c t)) (kid t 3) c1)&&((W2 P (eG c t) (f (eG c t)) it (kid t (4+o1 c1))&&U1 (f (eG c t)) (kid t (5+o1 c1)) co)&&f (eG c t) xe (kid t 0))))))
 |.rev a=>f c a (kid t 0)
 |.emp=>true
 |.peek xe=>Qt (s c xe t)&&f c xe t
 |.stk=>true
 |.yQ a l=>DR P c "isinstance" && (f c a (kid t 1)&&(W0 c ((Av (kid t 2)).getD Str.empty)&&decide (((Av (kid t 2)).getD Str.empty,l)∈P.ups)))
 |.o9 i ir ca xb=>P.fn[i]?.isSome&&((decide (ca=P.nj)&&W0 c (wL P i)||ca.isEmpty)&&((decide (c.q = "law")&&P.lam)&&(Zu P i ir&&(yU c.sc (fB (kid t 1))&&(Iq (Zo (kid t 1)) (fB (kid t 1))&&f (Zq c (kid t 1)) xb (kid (kid t 1) 0))))))
 |.fY a=>(DR P c "range" && DR P c "list")&&f c a (kid (kid t 1) 1)
 |.DG l=>okF (f c) t 0 l
 |.append i x=>lnB t&&(wK c i&&f c x (kid t 1))
 |.extend i x=>lnB t&&(wK c i&&f c x (kid t 1))
 |.rX i x=>lnB t&&(wK c i&&f c x (kid t 1))
 |_=>false
def cE(P:Pg):Nat->Ct->Ex->Expr->Expr
 | 0=>λ_ _ t=>t
 |n+1=>N8 P (cE P n)
def qz(P:Pg):Nat->Ct->Ex->Expr->Bool
 | 0=>λ_ _ _=>false
 |n+1=>ok1 P (cE P n) (qz P n)
def Cm(P:Pg)(c:Ct)(e:Expr)(x:Ex):Prop:=∃n t,e=cE P n c x t/\qz P n c x t=true
theorem Cm.mk{P:Pg}{n:Nat}{c:Ct}{x:Ex}{t:Expr}(h:qz P n c x t=true):Cm P c (cE P n c x t) x:=⟨n,t,rfl,h⟩
theorem Cm.N9{P:Pg}{c:Ct}{e:Expr}{x:Ex}(h:Cm P c e x):∃n t,e=N8 P (cE P n) c x t/\ok1 P (cE P n) (qz P n) c x t=true:=by
 obtain⟨n,t,rfl,h⟩:=h;cases n with
 |zero=>symm
 |succ n=>exact⟨n,t,rfl,h⟩
theorem Cm.notW{P:Pg}{c:Ct}{e:Expr}{x:Ex}(h:Cm P c e x):isW x=false:=by obtain⟨n,t,_,q⟩:=h.N9;clear h;cases x <;> first |rfl |exact Bool.noConfusion (show false=true from q)
abbrev Ay (P:Pg) (c:Ct) (es:List Expr) (xs:List Ex):Prop:=wG (Cm P c) es xs
abbrev CmF (P:Pg) (c:Ct) (es:List Expr) (l:List (Bool×Ex)):Prop:=wH (Cm P c) es l
abbrev CmO (P:Pg) (c:Ct) (e:Option Expr) (x:Option Ex):Prop:=NB (Cm P c) e x
abbrev qN (P:Pg) (c:Ct) (es:List Expr) (x:Option Ex):Prop:=Au (Cm P c) es x
abbrev Kg (P:Pg) (c:Ct) (e:Expr) (x:Ex):Prop:=wI P (Cm P c) c e x
noncomputable def ek(t:Stmt):List Expr:=match t with
 |.Return o p=>[o.getD (.Name Str.empty p)]
 |.Assign ts e _=>e::ts
 |.AugAssign a _ e _=>[a,e]
 |.For a b _ _ _=>[a,b]
 |.While a _ _ _=>[a]
 |.If a _ _ _=>[a]
 |.Raise o _ p=>[o.getD (.Name Str.empty p)]
 |.Expr e _=>[e]
 |_=>[]
def aD(t:Stmt)(i:Nat):Expr:=(ek t).getD i (.Name Str.empty t.pos)
noncomputable def W3(t:Stmt):List Stmt:=match t with |.For _ _ b _ _=>b |.While _ b _ _=>b |.If _ b _ _=>b |_=>[]
noncomputable def bd1(t:Stmt):List Stmt:=match t with |.If _ _ b _=>b |_=>[]
noncomputable def sg(l:List Stmt)(i:Nat):Stmt:=l.getD i (.Pass p0)
noncomputable def Zv(e:Expr):Bool:=match e with |.Tuple _ _ _=>false |_=>true
def Vb:Sm->Nat
 |_=>0
def qO(fg:Sm->List Stmt->List Stmt)(fs:Sm->Stmt->Stmt):List Sm->List Stmt->List Stmt
 | [],_=>[]
 |x::xs,ss=>if 0<Vb x then fg x (ss.take (Vb x))++qO fg fs xs (ss.drop (Vb x))else fs x (sg ss 0)::qO fg fs xs ss.tail
def Kh(fg:Sm->List Stmt->Bool)(fs:Sm->Stmt->Bool):List Sm->List Stmt->Bool
 | [],_=>true
 |x::xs,ss=>if 0<Vb x then fg x (ss.take (Vb x))&&Kh fg fs xs (ss.drop (Vb x))else fs x (sg ss 0)&&Kh fg fs xs ss.tail
theorem Vc{RG:List Stmt->Sm->Prop}{RS:Stmt->Sm->Prop}{sg':Sm->List Stmt->List Stmt}{kg:Sm->List Stmt->Bool}{ss':Sm->Stmt->Stmt}{ks:Sm->Stmt->Bool}(hg:∀{x ss},kg x ss=true->RG (sg' x ss) x)(hs:∀{x t},ks x t=true->RS (ss' x t) x){xs:List Sm}{ss:List Stmt}(h:Kh kg ks xs ss=true):yV RG RS (qO sg' ss' xs ss) xs:=by
 induction xs generalizing ss with
 |nil=>exact .nil
 |cons x xs ih=>
  unfold Kh at h;unfold qO;by_cases hx:0<Vb x
  .
   rw[gL hx]at h ⊢
   exact .grp (hg (aj h).1) (ih (aj h).2)
  .
   rw[hU hx]at h ⊢
   exact .cons (hs (aj h).1) (ih (aj h).2)
noncomputable def Vd(P:Pg)(m:Nat)(fs:Sm->Stmt->Stmt)(c:Ct)(x:Sm)(ss:List Stmt):List Stmt:=match x with
 |_=>ss
noncomputable def Ve(P:Pg)(m:Nat)(ks:Sm->Stmt->Bool)(c:Ct)(x:Sm)(ss:List Stmt):Bool:=match x with
 |_=>false
theorem Vf{P:Pg}{m:Nat}{RS:Stmt->Sm->Prop}{fs:Sm->Stmt->Stmt}{ks:Sm->Stmt->Bool}(hs:∀{x t},ks x t=true->RS (fs x t) x){c:Ct}{x:Sm}{ss:List Stmt}(h:Ve P m ks c x ss=true):CmG P (Cm P c) RS c (Vd P m fs c x ss) x:=by
 cases x
 all_goals exact nt h
def Zw(P:Pg)(m:Nat)(fs:Sm->Stmt->Stmt)(c:Ct)(x:Sm)(t:Stmt):Stmt:=match x with
 |.ret x=>.Return (some (cE P (m+1) c x (aD t 0))) t.pos
 |.expr x=>.Expr (cE P (m+1) c x (aD t 0)) t.pos
 |.set i x=>.Assign [.Name (nm c i) (aD t 1).pos] (cE P (m+1) c x (aD t 0)) t.pos
 |.setC i x=>.Assign [.Name (nm c i) (aD t 1).pos] (cE P (m+1) c x (aD t 0)) t.pos
 |.tgt T x=>.Assign [qM c T (aD t 1)] (cE P (m+1) c x (aD t 0)) t.pos
 |.item i xj x=>.Assign [.Subscript (.Name (nm c i) (kid (aD t 1) 0).pos) (cE P (m+1) c xj (kid (aD t 1) 1)) (aD t 1).pos] (cE P (m+1) c x (aD t 0)) t.pos
 |.par i j a b=>.Assign [.Tuple [.Name (nm c i) (kid (aD t 1) 0).pos,.Name (nm c j) (kid (aD t 1) 1).pos] (iz (aD t 1)) (aD t 1).pos] (.Tuple [cE P (m+1) c a (kid (aD t 0) 0),cE P (m+1) c b (kid (aD t 0) 1)] (iz (aD t 0)) (aD t 0).pos) t.pos
 |.items2 i x j y e=>.Assign [.Tuple [.Subscript (.Name (nm c i) (kid (kid (aD t 1) 0) 0).pos) (cE P (m+1) c x (kid (kid (aD t 1) 0) 1)) (kid (aD t 1) 0).pos,.Subscript (.Name (nm c j) (kid (kid (aD t 1) 1) 0).pos) (cE P (m+1) c y (kid (kid (aD t 1) 1) 1)) (kid (aD t 1) 1).pos] (iz (aD t 1)) (aD t 1).pos] (cE P (m+1) c e (aD t 0)) t.pos
 |.ite e a b=>.If (cE P (m+1) c e (aD t 0)) (qO (Vd P m fs c) fs a (W3 t)) (qO (Vd P m fs c) fs b (bd1 t)) t.pos
 |.loop T it b=>.For (qM c T (aD t 0)) (uy (cE P (m+1) c) it (aD t 1)) (qO (Vd P m fs c) fs b (W3 t)) [] t.pos
 |.while e b=>.While (cE P (m+1) c e (aD t 0)) (qO (Vd P m fs c) fs b (W3 t)) [] t.pos
 |.raise i x=>.Raise (some (.Call (.Name (P.cls.getD i Str.empty) (kid (aD t 0) 0).pos) [cE P (m+1) c x (kid (aD t 0) 1)] [] (aD t 0).pos)) none t.pos
 |_=>t
def Zx(P:Pg)(m:Nat)(ks:Sm->Stmt->Bool)(c:Ct)(x:Sm)(t:Stmt):Bool:=match x with
 |.ret x=>qz P (m+1) c x (aD t 0)
 |.expr x=>qz P (m+1) c x (aD t 0)&&!uv (λ_ _=>true) (cE P (m+1) c x (aD t 0))
 |.set i x=>stB c i&&(qz P (m+1) c x (aD t 0)&&!uv (λs p=>WY c (nm c i) (aD t 1).pos p s) (cE P (m+1) c x (aD t 0)))
 |.setC i x=>decide (c.N[i]?=some (nm c i))&&(WY c (nm c i) (aD t 1).pos (aD t 0).pos (fB (aD t 0))&&(qz P (m+1) c x (aD t 0)&&(match x with
  |.comp _ _ _ _ _ _=>true
  |.iN _ _ _ _ _ _ _ _ _=>true
  |_=>false)))
 |.tgt T x=>(match T with |.tp is=>Zv (cE P (m+1) c x (aD t 0))||Nz c (wM c (aD t 1) 0 is) (cE P (m+1) c x (aD t 0)) |_=>false)&&(okN c T.ix&&(qz P (m+1) c x (aD t 0)&&!uv (λ_ _=>true) (cE P (m+1) c x (aD t 0))))
 |.item i xj x=>wK c i&&(qz P (m+1) c xj (kid (aD t 1) 1)&&(qz P (m+1) c x (aD t 0)&&!uv (λ_ _=>true) (cE P (m+1) c x (aD t 0))))
 |.par i j a b=>decide (c.N[i]?=some (nm c i)/\c.N[j]?=some (nm c j)/\i≠j)&&(UJ c (nm c i) (nm c j) (kid (aD t 1) 0).pos (kid (aD t 1) 1).pos (cE P (m+1) c a (kid (aD t 0) 0)) (cE P (m+1) c b (kid (aD t 0) 1))&&(qz P (m+1) c a (kid (aD t 0) 0)&&qz P (m+1) c b (kid (aD t 0) 1)))
 |.items2 i x j y e=>(wK c i&&wK c j)&&((qz P (m+1) c x (kid (kid (aD t 1) 0) 1)&&qz P (m+1) c y (kid (kid (aD t 1) 1) 1))&&(qz P (m+1) c e (aD t 0)&&!uv (λ_ _=>true) (cE P (m+1) c e (aD t 0))))
 |.ite e a b=>qz P (m+1) c e (aD t 0)&&(Kh (Ve P m ks c) ks a (W3 t)&&Kh (Ve P m ks c) ks b (bd1 t))
 |.loop T it b=>okN c T.ix&&(W2 P c (qz P (m+1) c) it (aD t 1)&&Kh (Ve P m ks c) ks b (W3 t))
 |.while e b=>qz P (m+1) c e (aD t 0)&&Kh (Ve P m ks c) ks b (W3 t)
 |.raise i x=>decide (P.cls[i]?=some (P.cls.getD i Str.empty))&&(W0 c (P.cls.getD i Str.empty)&&qz P (m+1) c x (kid (aD t 0) 1))
 |.stuck=>true
def Qu(P:Pg)(m:Nat):Nat->Ct->Sm->Stmt->Stmt
 | 0=>λ_ _ t=>t
 |n+1=>λc=>Zw P m (Qu P m n c) c
def Qv(P:Pg)(m:Nat):Nat->Ct->Sm->Stmt->Bool
 | 0=>λ_ _ _=>false
 |n+1=>λc=>Zx P m (Qv P m n c) c
def Kl(P:Pg)(c:Ct)(s:Stmt)(x:Sm):Prop:=∃m n t,s=Qu P m n c x t/\Qv P m n c x t=true
abbrev vg (P:Pg) (c:Ct) (ss:List Stmt) (xs:List Sm):Prop:=yV (CmG P (Cm P c) (Kl P c) c) (Kl P c) ss xs
theorem Kl.mk{P:Pg}{m n:Nat}{c:Ct}{x:Sm}{t:Stmt}(h:Qv P m n c x t=true):Kl P c (Qu P m n c x t) x:=⟨m,n,t,rfl,h⟩
theorem vg.mk{P:Pg}{m n:Nat}{c:Ct}{xs:List Sm}{ss:List Stmt}(h:Kh (Ve P m (Qv P m n c) c) (Qv P m n c) xs ss=true):vg P c (qO (Vd P m (Qu P m n c) c) (Qu P m n c) xs ss) xs:=Vc (Vf .mk) .mk h
theorem Zy{e:Expr}(h:(!uv (λ_ _=>true) e)=true):uv (λ_ _=>true) e=false:=jG h
theorem Kl.N9{P:Pg}{c:Ct}{s:Stmt}{x:Sm}(h:Kl P c s x):∃m n t,s=Zw P m (Qu P m n c) c x t/\Zx P m (Qv P m n c) c x t=true:=by
 obtain⟨m,n,t,rfl,h⟩:=h;cases n with
 |zero=>symm
 |succ n=>exact⟨m,n,t,rfl,h⟩
noncomputable def Az(e:Expr):Bool:=match e with
 |.Constant .. |.Name .. |.BinOp .. |.Compare .. |.UnaryOp .. |.BoolOp .. |.IfExp .. |.Tuple .. |.List .. |.Subscript .. |.Call .. |.JoinedStr .. |.ListComp .. |.Dict .. |.DictComp ..=>true
 |_=>false
theorem Cm.Az{P:Pg}{c:Ct}{e:Expr}{x:Ex}(h:Cm P c e x):Az e=true:=by
 obtain⟨n,t,rfl,q⟩:=h.N9;clear h;cases x
 case val d=>show Ev.Az (yZ d t)=true;unfold yZ;split <;> rfl
 case peek xe=>obtain⟨x,p,a,es,pos,e⟩:=wN (aj q).1;show Ev.Az (cE P n c xe t)=true;rw[e];rfl
 all_goals first |rfl |exact Bool.noConfusion (show false=true from q)
section
theorem Cm.star(h:Cm P c e x)(es:List Expr):starEach (e::es) env=(false,eval e env)::starEach es env:=by have hs:=h.Az;cases e <;> first |rfl |exact Bool.noConfusion (show false=true from hs)
theorem wG.star(h:Ay P c es xs):starEach es env=es.map λe=>(false,eval e env):=by
 induction es generalizing xs with
 |nil=>rfl
 |cons e es ih=>
  cases h with
  |cons h1 h2=>rw[h1.star,ih h2];rfl
theorem wG.plain(h:Ay P c es xs):(backTo pos (starEach es env)).any (·.1)=false:=by
 rw[h.star];unfold backTo
 induction es generalizing xs with
 |nil=>rfl
 |cons e es ih=>
  cases h with
  |cons h1 h2=>rw[List.map_cons,List.map_cons,List.any_cons,ih h2];rfl
theorem Cm.folded(h:Cm P c e x)(y:Value):foldedSetIterable e env y=pure y:=by have hs:=h.Az;cases e <;> first |rfl |exact Bool.noConfusion (show false=true from hs)
theorem wI.folded(h:Kg P c e x)(y:Value):foldedSetIterable e env y=pure y:=by
 cases h with
 |seq h=>exact h.folded y
 |fX _ _ _=>rfl
 |fL _ _ _ _=>rfl
 |nh _ _ _ _ _=>rfl
 |zip _ _ _ _=>rfl
theorem Cm.Oa(h:Cm P c e x):sZ e:=by have hs:=h.Az;cases e <;> first |exact λ_ _=>rfl |exact Bool.noConfusion (show false=true from hs)
end
structure iY(P:Pg)(rn:Rn):Prop where
 e:∀{X:Cx}{c:Ct}{z:Z}{k:Nat}{x:Ex}{e:Expr}{g g':G}{r:R},aW P k X c->z.K=X.K->Cm P c e x->rn.e z.bor k x g=some (r,g')->aA X z e g r g'
 t:∀{X:Cx}{c:Ct}{z:Z}{k:Nat}{x:Ex}{e:Expr}{g g':G}{b:Bool},aW P k X c->z.K=X.K->Cm P c e x->rn.t z.bor k x g=some (b,g')->cA X z e g b g'
 b:∀{X:Cx}{c:Ct}{z:Z}{k:Nat}{xs:List Sm}{jR:List Stmt}{g g':G}{f:Fl},aW P k X c->c.df=true->z.K=X.K->vg P c jR xs->rn.b z.bor k xs g=some (f,g')->eu X z jR g f g'
theorem gi(h:pF N N' scope k=true):Names N N' scope k:=by
 unfold pF at h;simp only[d5,eR,i4,wE]at h;obtain⟨⟨h1,h2⟩,h3⟩:=h;refine⟨h1,λx e=>?_,λi x e hi=>?_⟩
 . rw[e]at h2;exact mB h2
 . have h4:=h3 i hi;rw[e]at h4;simp only[y8,d5,eR]at h4;exact h4
theorem iZ(ct:aW P k X c)(h:yU c.sc scope=true):bu X.env.scope scope:=by
 unfold yU at h;simp only[d5,eR,i4,y8]at h;obtain⟨h1,h2⟩:=h;refine⟨h1,λy hy=>(h2 y hy).1.1,λy hy e=>?_,λy hy e=>?_,λy hy e=>?_⟩
 . exact ((h2 y hy).1.2).elim (λq=>absurd e q) id
 . exact ((h2 y hy).2).elim (λq=>absurd e q) λq=>q.1
 . exact ((h2 y hy).2).elim (λq=>absurd e q) λq=>ct.fre _ q.2
theorem jH{X:Cx}{N':List Str}{scope:Scope}{b:Bk}{x:Str}:(X.blk N' scope b).env.scope.names.lookup x=(scope.names.lookup x).map λk=>if (k==NameKind.free&&X.env.scope.kind==.function&&X.env.kindOf x==some .cell)then NameKind.cell else k:=dZ
theorem aW.blk{P:Pg}{k:Nat}{X:Cx}{c:Ct}{scope:Scope}{N':List Str}(ct:aW P k X c)(hnd:N'.Nodup)(b:Bk):aW P k (X.blk N' scope b) ⟨N',scope,false,Str.empty⟩:=by
 refine⟨rfl,hnd,λx e=>?_,λx e=>?_,λx e=>?_,λe=>absurd e ⋯,λx e=>?_,λe=>absurd e ⋯,ct.calm,rfl,ct.md,ct.room,λe=>absurd (show Str.empty=("law":Str)from e) ⋯⟩
 . have e':scope.names.lookup x=some .local:=e;rw[jH,e'];rfl
 . have e':scope.names.lookup x=some .globalImplicit:=e;show (X.blk N' scope b).env.scope.names.lookup x=_;rw[jH,e'];rfl
 .
  rw[jH];rcases e with e |e
  . have e':scope.names.lookup x=some .cell:=e;rw[e'];exact .inl rfl
  .
   have e':scope.names.lookup x=some .free:=e;rw[e',CS];by_cases hq:(NameKind.free==NameKind.free&&X.env.scope.kind==.function&&X.env.kindOf x==some .cell)=true
   . rw[gL hq];exact .inl rfl
   . rw[hU hq];exact .inr rfl
 .
  rcases e with e |e
  . cases e
  . have e':scope.names.lookup x=some .local:=e;show (scope.names.lookup x==some .local)=true;rw[e'];rfl
section
theorem bE(h:aA X z e g r g'):aA X z e g (norm r) g':=by
 cases r with
 |dat d=>exact h
 |new l=>exact oE h
 |var i=>exact h
theorem Iw(h:aA X z e g r g1)(hd:toD z.bor r g1=some (d,g')):aA X z e g (.dat d) g':=by
 cases r with
 |dat d'=>cases hd;exact h
 |new l=>cases hd;exact oE h
 |var i=>
  have hd:(if i∈z.bor then none else match g1[i]? with |some (.own l)=>some (D.lst l,g1.set i (.dat (.lst l))) |_=>none)=some (d,g'):=hd
  split at hd
  . cases hd
  .
   rename_i hb;split at hd
   . rename_i l hg;cases hd;exact Cq h hg hb
   . cases hd
theorem aP(hS:iY P rn)(ct:aW P k X c)(hK:z.K=X.K)(hc:Cm P c e x)(h:dI rn z.bor k x g=some (d,g')):aA X z e g (.dat d) g':=by
 unfold dI at h;split at h
 . rename_i r g1 e1;exact Iw (hS.e ct hK hc e1) h
 . symm
theorem kD:∀(ds:List D),tM (ds.map R.dat)=some ds
 | []=>rfl
 |d::ds=>by
  show (match tM (ds.map R.dat)with |some ds=>some (d::ds) |none=>none)=_
  rw[kD ds]
theorem gj(hS:iY P rn)(ct:aW P k X c)(hK:z.K=X.K):∀{es:List Expr}{xs:List Ex}{g g':G}{ds:List D},Ay P c es xs->ju rn z.bor k xs g=some (ds,g')->cQ X z es g (ds.map .dat) g'
 |_,_,_,_,_,.nil,h=>by symm;exact fH
 |_,_,_,_,_,.cons h1 h2,h=>by
  unfold ju at h;split at h
  .
   rename_i d g1 e1;split at h
   . rename_i ds g2 e2;symm;exact cT (aP hS ct hK h1 e1) (gj hS ct hK h2 e2) (h1.star _)
   . symm
  . symm
theorem kF(hS:iY P rn)(ct:aW P k X c)(hK:z.K=X.K):∀{es:List Expr}{xs:List Ex}{g g':G}{rs:List R},Ay P c es xs->argsR rn z.bor k xs g=some (rs,g')->cQ X z es g rs g'
 |_,_,_,_,_,.nil,h=>by symm;exact fH
 |_,_,_,_,_,.cons h1 h2,h=>by
  unfold argsR at h;split at h
  .
   rename_i r g1 e1;split at h
   .
    rename_i rs g2 e2;symm;have q:=bE (hS.e ct hK h1 e1);have q2:=kF hS ct hK h2 e2;cases r with
    |dat d=>exact cT q q2 (h1.star _)
    |new l=>exact cT q q2 (h1.star _)
    |var i=>exact Sh q q2 (h1.star _)
   . symm
  . symm
theorem jc(h:argsR rn bor k [a,b] g=some (rs,g2)):∃r1 r2 g1,rn.e bor k a g=some (r1,g1)/\rn.e bor k b g1=some (r2,g2)/\rs=[norm r1,norm r2]:=by
 unfold argsR at h;split at h
 .
  rename_i r1 g1 e1;unfold argsR at h;split at h
  .
   rename_i rs' g3 e3;split at e3
   . rename_i r2 g4 e2;unfold argsR at e3;cases e3;symm;exact⟨r1,r2,g1,e1,e2,rfl⟩
   . cases e3
  . symm
 . symm
theorem y9(hS:iY P rn)(ct:aW P k X c)(hK:z.K=X.K):∀{bs:List Expr}{xs:List Ex}{ops:List CmpOp}{g g':G}{d1:D}{b:Bool},Ay P c bs xs->Fe rn z.bor k d1 ops xs g=some (b,g')->tV X z d1 ops bs g b g'
 |_,_,[],_,_,_,_,.nil,h=>by symm
 |_,_,[_],_,_,_,_,.nil,h=>by unfold Fe at h;symm
 |_,_,_::_::_,_,_,_,_,.nil,h=>by unfold Fe at h;symm
 |_,_,[],_,_,_,_,.cons _ _,h=>by unfold Fe at h;symm
 |_,_,[op],_,_,d1,_,.cons h1 .nil,h=>by
  unfold Fe at h;split at h
  .
   rename_i d2 g1 e1;split at h
   . rename_i b e2;symm;exact .last (aP hS ct hK h1 e1) (pD hK ct.room e2)
   . symm
  . symm
 |_,_,op::op'::ops,_,_,d1,_,.cons h1 .nil,h=>by unfold Fe at h;symm
 |_,_,[op],_,_,d1,_,.cons h1 (.cons h2 h3),h=>by unfold Fe at h;symm
 |_,_,op::op'::ops,_,_,d1,_,.cons h1 (.cons h2 h3),h=>by
  unfold Fe at h;split at h
  .
   rename_i d2 g1 e1;split at h
   . rename_i e2;exact .link (aP hS ct hK h1 e1) (pD hK ct.room e2) (y9 hS ct hK (.cons h2 h3) h)
   . rename_i e2;symm;exact .stop (aP hS ct hK h1 e1) (pD hK ct.room e2)
   . symm
  . symm
theorem za(hS:iY P rn)(ct:aW P k X c)(hK:z.K=X.K):∀{es:List Expr}{l:List (Bool×Ex)}{out r:Str}{g g':G},CmF P c es l->yS rn z.bor k out l g=some (r,g')->vN X z out es g r g'
 |_,_,_,_,_,_,.nil,h=>by symm;exact .nil
 |_,_,_,_,_,_,.con h1,h=>by
  unfold yS at h;split at h
  . rename_i hl;exact .con hl (za hS ct hK h1 h)
  . symm
 |_,_,_,_,_,_,.fmt h1 h2,h=>by
  unfold yS at h;split at h
  .
   rename_i i g1 e1;split at h
   . rename_i hl;exact .int (aP hS ct hK h1 e1) hl.1 hl.2 (za hS ct hK h2 h)
   . symm
  . symm
variable{pos:Pos}
theorem Ba(hS:iY P rn)(ct:aW P k X c)(hK:z.K=X.K):∀{es:List Expr}{xs:List Ex}{g g':G}{r:R},Ay P c es xs->Ik rn z.bor k xs g=some (r,g')->aA X z (.BoolOp .And es pos) g r g'
 |_,_,_,_,_,.nil,h=>by symm
 |_,_,_,_,_,.cons h1 .nil,h=>Gn (hS.e ct hK h1 h)
 |_,_,_,_,_,.cons h1 (.cons h2 h3),h=>by
  unfold Ik at h;split at h
  . rename_i g1 e1;exact Ln (hS.e ct hK h1 e1) (Ba hS ct hK (.cons h2 h3) h)
  . rename_i g1 e1;symm;exact Lk (hS.e ct hK h1 e1)
  . symm
theorem Iz(hS:iY P rn)(ct:aW P k X c)(hK:z.K=X.K):∀{es:List Expr}{xs:List Ex}{g g':G}{r:R},Ay P c es xs->Za rn z.bor k xs g=some (r,g')->aA X z (.BoolOp .Or es pos) g r g'
 |_,_,_,_,_,.nil,h=>by symm
 |_,_,_,_,_,.cons h1 .nil,h=>Gn (hS.e ct hK h1 h)
 |_,_,_,_,_,.cons h1 (.cons h2 h3),h=>by
  unfold Za at h;split at h
  . rename_i g1 e1;exact R8 (hS.e ct hK h1 e1) (Iz hS ct hK (.cons h2 h3) h)
  . rename_i g1 e1;symm;exact R5 (hS.e ct hK h1 e1)
  . symm
theorem wO(hS:iY P rn)(ct:aW P k X c)(hK:z.K=X.K):∀{es:List Expr}{xs:List Ex}{g g':G}{b:Bool},Ay P c es xs->wA rn z.bor k xs g=some (b,g')->mX X z (.BoolOp .And es pos) g b g'
 |_,_,_,_,_,.nil,h=>by symm
 |_,_,_,_,_,.cons h1 .nil,h=>Lh (hS.t ct hK h1 h)
 |_,_,_,_,_,.cons h1 (.cons h2 h3),h=>by
  unfold wA at h;split at h
  . rename_i g1 e1;exact Lj (hS.t ct hK h1 e1) (wO hS ct hK (.cons h2 h3) h)
  . rename_i g1 e1;symm;exact Li (hS.t ct hK h1 e1)
  . symm
theorem Bb(hS:iY P rn)(ct:aW P k X c)(hK:z.K=X.K):∀{es:List Expr}{xs:List Ex}{g g':G}{b:Bool},Ay P c es xs->Il rn z.bor k xs g=some (b,g')->mX X z (.BoolOp .Or es pos) g b g'
 |_,_,_,_,_,.nil,h=>by symm
 |_,_,_,_,_,.cons h1 .nil,h=>RZ (hS.t ct hK h1 h)
 |_,_,_,_,_,.cons h1 (.cons h2 h3),h=>by
  unfold Il at h;split at h
  . rename_i g1 e1;exact R3 (hS.t ct hK h1 e1) (Bb hS ct hK (.cons h2 h3) h)
  . rename_i g1 e1;symm;exact R0 (hS.t ct hK h1 e1)
  . symm
theorem wQ(hS:iY P rn)(ct:aW P k X c)(hK:z.K=X.K)(hc:CmO P c e x)(h:rY rn z.bor k x g=some (o,g')):tW X z e g o g':=by
 cases hc with
 |none=>symm;exact CQ
 |@some e' x' hc=>
  have h:(match dI rn z.bor k x' g with |some (.int i,g1)=>some (some i,g1) |_=>none)=some (o,g'):=h
  split at h
  . rename_i e1;symm;exact CT (aP hS ct hK hc e1)
  . symm
theorem Bc(ct:aW P k X c)(h:c.sc.names.lookup x=some .globalImplicit):Gl X x:=ct.kQ x h
theorem Ob{tp:Bool}{bor:List Nat}{it:Ex}{g:G}(h:isW it=false):dW rn bor k tp it g=match dI rn bor k it g with |some (.tup l,g1)=>some (l,g1) |some (.lst l,g1)=>some (l,g1) |some (.fix l,g1)=>some (l,g1) |_=>none:=by cases it <;> first |rfl |exact Bool.noConfusion (show true=false from h)
theorem pJ(hS:iY P rn)(ct:aW P k X c)(hK:z.K=X.K)(htp:tp=true->∃es k pos,tg=.Tuple es k pos)(hc:Kg P c iter it)(h:dW rn z.bor k tp it g=some (items,g')):dU X z tg iter g items g':=by
 cases hc with
 |nh ha hb' hs' hb hg=>
  unfold dW at h;dsimp only at h;split at h
  .
   rename_i c0 g1 e1;split at h
   .
    rename_i j g2 e2;split at h
    .
     rename_i st g3 e3;split at h
     . rename_i hj;symm;simp only[wB,d5,eR]at hj;exact MK (cT (aP hS ct hK ha e1) (cT (aP hS ct hK hb' e2) (cT (aP hS ct hK hs' e3) fH (hs'.star _)) (hb'.star _)) (ha.star _)) (Bc ct hg) (ct.md.bn _ hb) (ha.star _) (wG.plain (.cons hb' (.cons hs' .nil))) hj.1 hj.2.1 ⟨hj.2.2.2,hj.2.2.1.2⟩
     . symm
    . symm
   . symm
  . symm
 |zip ha ha2 hb hg=>
  unfold dW at h;dsimp only at h;split at h
  .
   rename_i ht;obtain⟨es,k0,pos,rfl⟩:=htp ht;split at h
   .
    rename_i d1 d2 g1 e1;split at h
    .
     rename_i l m e2 e3;split at h
     . rename_i e4;symm;exact Ud hK (gj hS ct hK (.cons ha (.cons ha2 .nil)) e1) e2 e3 e4 (Bc ct hg) (ct.md.bn _ hb) (ha.star _) (by rw[ha2.star];rfl)
     . symm
    . symm
   . symm
  . symm
 |fX ha hb hg=>
  unfold dW at h;dsimp only at h;split at h
  .
   rename_i j g1 e1;split at h
   . rename_i hj;symm;simp only[Nv,d5,eR]at hj;exact LR (cT (aP hS ct hK ha e1) fH (ha.star _)) (Bc ct hg) (ct.md.bn _ hb) (by rw[ha.star];rfl) hj.1 hj.2
   . symm
  . symm
 |fL ha hb' hb hg=>
  unfold dW at h;dsimp only at h;split at h
  .
   rename_i c0 g1 e1;split at h
   .
    rename_i j g2 e2;split at h
    . rename_i hj;symm;simp only[Nv,d5,eR]at hj;exact LW (cT (aP hS ct hK ha e1) (cT (aP hS ct hK hb' e2) fH (hb'.star _)) (ha.star _)) (Bc ct hg) (ct.md.bn _ hb) (by rw[ha.star,hb'.star];rfl) (by rw[hb'.star];rfl) ⟨hj.1.1,hj.1.2,hj.2.1,hj.2.2⟩
    . symm
   . symm
  . symm
 |seq hc=>
  have h':=(Ob hc.notW).symm.trans h;split at h'
  . rename_i e1;cases h';exact Tj hK (aP hS ct hK hc e1)
  . rename_i e1;cases h';exact Tp (aP hS ct hK hc e1)
  . rename_i e1;cases h';exact Tq hK (aP hS ct hK hc e1)
  . cases h'
theorem uA(hS:iY P rn)(ct:aW P k X c)(hK:z.K=X.K)(hc:qN P c ifs co)(h:vf rn z.bor k co g=some (b,g')):cV X z ifs g b g':=by
 cases hc with
 |none=>symm;exact L0
 |some hc=>exact L1 (hS.t ct hK hc h)
theorem wR(h:DQ c tg T):T.gU=true->∃es k pos,tg=.Tuple es k pos:=by
 cases h with
 |nm _ _=>intro e;cases e
 |tp _=>intro _;exact⟨_,_,_,rfl⟩
theorem Vg(ct:aW P k X c)(h:DN c es is):j8 X es is:=by
 induction h with
 |nil=>exact .nil
 |cons h1 h2 _ ih=>exact .cons (ct.nm h1 h2) ih
theorem r9(ct:aW P k X c)(hK:z.K=X.K)(h:DQ c tg T)(hb:∀i∈T.ix,i∉z.bor):fV X z tg T:=by
 cases h with
 |nm h1 h2=>exact Yt (ct.nm h1 h2) (hb _ (hV.mpr rfl))
 |tp h1=>exact Yu ct.calm hK (Vg ct h1) hb
theorem uB(hS:iY P rn){Xb:Bk->Cx}{cb:Ct}(Zz:∀b,aW P k (Xb b) cb)(Qm:∀b,z.K=(Xb b).K){T:Tg}{last:Nat}{ifs:List Expr}{co:Option Ex}{cC:Expr}{xe:Ex}(hi:qN P cb ifs co)(he:Cm P cb cC xe) :
  ∀{items:List D}{g gE:G},yR rn z.bor k T last co xe items g=some gE->jk T last (λg b g'=>∀bk:Bk,cV (Xb bk) z ifs g b g') (λg d g'=>∀bk:Bk,aA (Xb bk) z cC g (.dat d) g') items g gE
 | [],_,_,h=>by symm;exact .nil
 |d::l,_,_,h=>by
  unfold yR at h;split at h
  . symm
  .
   rename_i g1 e1;split at h
   . symm
   . rename_i g2 e2;exact .skip e1 (λbk=>uA hS (Zz bk) (Qm bk) hi e2) (uB hS Zz Qm hi he h)
   .
    rename_i g2 e2;split at h
    . symm
    .
     rename_i x g3 e3;split at h
     .
      rename_i acc e4;split at h
      . rename_i hl;exact .take e1 (λbk=>uA hS (Zz bk) (Qm bk) hi e2) (λbk=>aP hS (Zz bk) (Qm bk) he e3) e4 hl (uB hS Zz Qm hi he h)
      . symm
     . symm
end
def iO(P:Pg)(mg:Str->Option Value)(ci:Nat)(C:Addr):Prop:=∃x,P.cls[ci]?=some x/\mg x=some (.ref C)
structure Km(P:Pg)(k:Nat)(X:Cx)(c:Ct):Prop where
 ct:aW P k X.kZ c
 ex:X.ex=[]
 pa:PassesOwn (~~~2) X.A X.env X.xe
structure pK(P:Pg)(rn:Rn):Prop where
 x:∀{X:Cx}{c:Ct}{z:Z}{k:Nat}{x:Ex}{e:Expr}{g g':G}{ci:Nat}{C:Addr},Km P k X c->z.K=X.K->iO P X.mg ci C->Cm P c e x->rn.x z.bor k x g=some (ci,g')->u9 X z e g C g'
 t:∀{X:Cx}{c:Ct}{z:Z}{k:Nat}{x:Ex}{e:Expr}{g g':G}{ci:Nat}{C:Addr},Km P k X c->z.K=X.K->iO P X.mg ci C->Cm P c e x->rn.xt z.bor k x g=some (ci,g')->WD X z e g C g'
 b:∀{X:Cx}{c:Ct}{z:Z}{k:Nat}{xs:List Sm}{jR:List Stmt}{g g':G}{ci:Nat}{C:Addr},Km P k X c->c.df=true->z.K=X.K->iO P X.mg ci C->vg P c jR xs->rn.xb z.bor k xs g=some (ci,g')->Mk X z jR g C g'
structure Oc(P:Pg)(fi:Fi)(fx:Fx):Prop where
 np:fx.np=fi.ps.length
 n:fx.n=fi.N.length
 body:vg P ⟨fi.N,aF fi.st,true,fi.qual⟩ (bA fi.st) fx.body
def jv(P:Pg)(fns:List Fx):Prop:=∀(f:Nat) (fi:Fi) (fx:Fx),P.fn[f]?=some fi->fns[f]?=some fx->Oc P fi fx
theorem pL{P:Pg}{k:Nat}{prog:Program}{w:World}{K:Frag}{mg:Str->Option Value}{base:Heap}{N ps:List Str}{qual:Str}{scope:Scope}{f:Addr}{bD:Value}{A:Around}{outer:List Env}{s:Shared}{H:Hp}{E:XK}
  (S:bV N ps scope) (md:uq P K mg) (bN:PySem.W.codeIn K bD qual=true) (hr:bS k (A.deeper (envOfC qual scope s⁻¹ f bD))):aW P k (fF uX prog w K mg base N qual scope f bD A outer s H E).kZ ⟨N,scope,true,qual⟩:=by
 refine⟨rfl,S.nd,λx e=>e,λx e=>e,λx e=>e,λ_ x e=>e,λx _=>rfl,λ_=>?_,rfl,rfl,md,hr,λe h=>⟨by have e:qual = "law" :=e;subst e;rfl,md.lam h _ (by have e:qual = "law" :=e;exact e▸bN)⟩⟩
 show (if scope.kind.isAnnotationScope then ScopeKind.function else scope.kind)=.function
 rw[S.kind];rfl
section
theorem IK(hS:iY P rn){k':Nat}(ct:aW P (k'+1) X c)(hK:z.K=X.K){f:Nat}{fi:Fi}{fx:Fx}(ZC:P.fn[f]?=some fi)(uV:Oc P fi fx)(hgl:c.sc.names.lookup fi.name=some .globalImplicit){e:Expr}{es:List Expr}{xs:List Ex}{rs:List R}{g g1 gO:G}{r:R}
  (hc:Ay P c (e::es) xs) (ha:cQ X z (e::es) g rs g1) (h:aM rn fx k' rs g1=some (r,gO)):aA X z (.Call (.Name fi.name p) (e::es) [] pos) g r gO:=by
 obtain⟨f,fd,hm,hF,Vh,hB,jQ⟩:=ct.md.fn _ fi ZC;have F:ji X.prog X.w X.K X.mg X.base uX (k'+1) f fd fi.ps (LQ X.K fi.N fi.ps.length λbor g r g'=>rn.b bor k' fx.body g=some (.rt r,g')\/(rn.b bor k' fx.body g=some (.nx,g')/\r=.dat .non)):=by
  refine Ad hF Vh λbD A outer s H E bN hr z' g r g' WR hrun=>?_
  have ct':aW P k' (fF uX X.prog X.w X.K X.mg X.base fi.N fi.qual (aF fi.st) f bD A outer s H E).kZ ⟨fi.N,aF fi.st,true,fi.qual⟩:=pL Vh ct.md bN hr;rcases hrun with h |⟨h,rfl⟩
  . exact⟨_,hS.b ct' rfl WR uV.body h,.inl rfl⟩
  . exact⟨_,hS.b ct' rfl WR uV.body h,.inr ⟨rfl,rfl⟩⟩
 have h1:∃h2:Ay P c es xs.tail,starEach (e::es) X.env=(false,eval e X.env)::starEach es X.env:=by
  cases hc with
  |cons h1 h2=>exact⟨h2,h1.star _⟩
 obtain⟨h2,dg⟩:=h1;unfold aM at h;split at h
 .
  rename_i hl;split at h
  . symm
  .
   rename_i gs e1;split at h
   .
    rename_i r0 gc e2;split at h
    .
     rename_i gO' e3;split at h
     . rename_i r' e4;symm;exact Aa F hK ct.room (ct.kQ _ hgl) hm hF.kp hB ha (by rw[hl.1,uV.np]) e1 hl.2 (.inl (by rw[<- uV.n];exact e2)) e3 e4 jQ dg h2.plain
     . symm
    . symm
   .
    rename_i gc e2;split at h
    . rename_i gO' e3;symm;exact Aa F hK ct.room (ct.kQ _ hgl) hm hF.kp hB ha (by rw[hl.1,uV.np]) e1 hl.2 (.inr ⟨by rw[<- uV.n];exact e2,rfl⟩) e3 rfl jQ dg h2.plain
    . symm
   . symm
 . symm
theorem wU(hS:iY P rn)(ct:aW P k X c)(hK:z.K=X.K)
  (hnd:N'.Nodup) (hT:DQ ⟨N',scope,false,Str.empty⟩ tg T) (se:∀i∈T.ix,c.N.length<=i/\i<c.N.length+kk) (hi:Kg P c iter it) (hf:qN P ⟨N',scope,false,Str.empty⟩ ifs co) (he:Cm P ⟨N',scope,false,Str.empty⟩ cC xe)
  (h:eX rn z.bor k c.N.length kk T it co xe g=some (acc,g')) :
  ∃items g1 gE,dU X z tg iter g items g1/\(∀b:Bk,fV (X.blk N' scope b) z tg T)/\(∀i∈T.ix,g1.length<=i/\i<g1.length+kk)/\
   jk T (g1.length+kk) (λg b g'=>∀bk:Bk,cV (X.blk N' scope bk) z ifs g b g') (λg d g'=>∀bk:Bk,aA (X.blk N' scope bk) z cC g (.dat d) g') items (gC kk g1) gE/\gE[g1.length+kk]?=some (.own acc)/\g'=gE.take g1.length:=by
 unfold eX at h;split at h
 . symm
 .
  rename_i items g1 e1;split at h
  .
   rename_i hl;split at h
   . symm
   .
    rename_i gE e2;split at h
    .
     rename_i acc' e3;symm;obtain⟨hl,hb⟩:=hl;rw[<- hl]at e2 e3 se ⊢
     refine⟨items,g1,gE,pJ hS ct hK (wR hT) hi e1,λb=>r9 (ct.blk hnd b) hK hT λi hi hm=>?_,se,uB hS (λb=>ct.blk hnd b) (λb=>hK) hf he e2,e3,rfl⟩
     rw[List.any_eq_false]at hb;exact hb i hi (sK hm)
    . symm
  . symm
theorem IV(hS:iY P rn)(ct:aW P k X c)(hK:z.K=X.K){vx:Expr}{ZD:List Expr}{scope:Scope}{N':List Str}{T:Tg}{xv:Ex}{ks:List Ex}{kk:Nat}{kp:Pos}(hnd:N'.Nodup)
  (hk:Ay P ⟨N',scope,false,Str.empty⟩ ZD ks) (hv:Cm P ⟨N',scope,false,Str.empty⟩ vx xv):∀{items:List D}{ka: ~~~5}{da:List D}{g gE:G}{p: ~~~5×List D},Uv rn z.bor k T ks xv items ka da g=some (p,gE)->
  uo T (λg ns g'=>∀bk:Bk,yM (X.blk N' scope bk) z (.Tuple ZD kk kp) g ns g') (λg d g'=>∀bk:Bk,aA (X.blk N' scope bk) z vx g (.dat d) g') items ka da g p.1 p.2 gE
 | [],_,_,_,_,_,h=>by symm;exact .nil
 |d::l,ka,_,_,_,_,h=>by
  unfold Uv at h;split at h
  . symm
  .
   rename_i g1 e0;split at h
   . symm
   .
    rename_i m g2 e1;split at h
    . symm
    .
     rename_i ns e2;split at h
     . symm
     .
      rename_i x g3 e3;split at h
      .
       rename_i hc;obtain⟨h1,h2,h3⟩:=hc;have h1:=aj h1;refine .cons e0 (λbk=>Uq (gj hS (ct.blk hnd bk) hK hk e1) (kD _) e2 h3) (λbk=>aP hS (ct.blk hnd bk) hK hv e3) (λhm=>?_) h2 (aj h1.2).1 (aj h1.2).2 (IV hS ct hK hnd hk hv h)
       have:=i4.mp h1.1 ns hm;simp at this
      . symm
theorem DS(hS:iY P rn)(ct:aW P k X c)(hK:z.K=X.K){tg iter vx:Expr}{ZD:List Expr}{scope:Scope}{N':List Str}{kk kt:Nat}{kp:Pos}{T:Tg}{it xv:Ex}{ks:List Ex}{g g':G}{p: ~~~5×List D}
  (hnd:N'.Nodup) (hT:DQ ⟨N',scope,false,Str.empty⟩ tg T) (se:∀i∈T.ix,c.N.length<=i/\i<c.N.length+kk) (hi:Kg P c iter it) (hk:Ay P ⟨N',scope,false,Str.empty⟩ ZD ks) (hv:Cm P ⟨N',scope,false,Str.empty⟩ vx xv)
  (h:pg rn z.bor k c.N.length kk T it ks xv g=some (p,g')) :
  ∃items g1 gE,dU X z tg iter g items g1/\(∀b:Bk,fV (X.blk N' scope b) z tg T)/\(∀i∈T.ix,g1.length<=i/\i<g1.length+kk)/\
   uo T (λg ns g'=>∀bk:Bk,yM (X.blk N' scope bk) z (.Tuple ZD kt kp) g ns g') (λg d g'=>∀bk:Bk,aA (X.blk N' scope bk) z vx g (.dat d) g') items [] [] (gD kk g1) p.1 p.2 gE/\g'=gE.take g1.length:=by
 unfold pg at h;split at h
 . symm
 .
  rename_i items g1 e1;split at h
  .
   rename_i hl;split at h
   . symm
   .
    rename_i q gE e2;symm;obtain⟨hl,hb⟩:=hl;rw[<- hl]at se ⊢
    refine⟨items,g1,gE,pJ hS ct hK (wR hT) hi e1,λb=>r9 (ct.blk hnd b) hK hT λi hi hm=>?_,se,IV hS ct hK hnd hk hv e2,rfl⟩
    rw[List.any_eq_false]at hb;exact hb i hi (sK hm)
  . symm
theorem uC(hS:iY P rn)(ct:aW P k X c)(hK:z.K=X.K)(hnd:N'.Nodup)(hT:DQ ⟨N',scope,false,Str.empty⟩ tg T)(hf1:qN P ⟨N',scope,false,Str.empty⟩ f1 c1)
  (hi:Kg P ⟨N',scope,false,Str.empty⟩ iter it) (hf:qN P ⟨N',scope,false,Str.empty⟩ ifs co) (he:Cm P ⟨N',scope,false,Str.empty⟩ cC xe):∀{items:List D}{g gE:G},wC rn z.bor k T1 c1 T it co xe last items g=some gE->
  g7 T1 (λg b g'=>∀bk:Bk,cV (X.blk N' scope bk) z f1 g b g') (yL X z N' scope tg iter cC ifs T last) items g gE
 | [],_,_,h=>by symm;exact .nil
 |d::l,_,_,h=>by
  unfold wC at h;split at h
  . symm
  .
   rename_i g1 e1;split at h
   . symm
   . rename_i g2 e2;exact .skip e1 (λbk=>uA hS (ct.blk hnd bk) hK hf1 e2) (uC hS ct hK hnd hT hf1 hi hf he h)
   .
    rename_i g2 e2;split at h
    . symm
    .
     rename_i items2 g3 e3;split at h
     . symm
     . rename_i g4 e4;exact .take e1 (λbk=>uA hS (ct.blk hnd bk) hK hf1 e2) ⟨items2,g3,λbk=>pJ hS (ct.blk hnd bk) hK (wR hT) hi e3,uB hS (λb=>ct.blk hnd b) (λb=>hK) hf he e4⟩ (uC hS ct hK hnd hT hf1 hi hf he h)
theorem sf(hS:iY P rn)(ct:aW P k X c)(hK:z.K=X.K)
  (hnd:N'.Nodup) (hT1:DQ ⟨N',scope,false,Str.empty⟩ t1 T1) (hT:DQ ⟨N',scope,false,Str.empty⟩ tg T) (ZF:∀i∈T1.ix,c.N.length<=i/\i<c.N.length+kk) (se:∀i∈T.ix,c.N.length<=i/\i<c.N.length+kk) (hi1:Kg P c i1 qw) (hf1:qN P ⟨N',scope,false,Str.empty⟩ f1 c1) (hi:Kg P ⟨N',scope,false,Str.empty⟩ iter it) (hf:qN P ⟨N',scope,false,Str.empty⟩ ifs co) (he:Cm P ⟨N',scope,false,Str.empty⟩ cC xe)
  (h:lN rn z.bor k c.N.length kk T1 qw c1 T it co xe g=some (acc,g')) :
  ∃items g1 gE,dU X z t1 i1 g items g1/\(∀b:Bk,fV (X.blk N' scope b) z t1 T1)/\(∀b:Bk,fV (X.blk N' scope b) z tg T)/\(∀i∈T1.ix,g1.length<=i/\i<g1.length+kk)/\(∀i∈T.ix,g1.length<=i/\i<g1.length+kk)/\
   g7 T1 (λg b g'=>∀bk:Bk,cV (X.blk N' scope bk) z f1 g b g') (yL X z N' scope tg iter cC ifs T (g1.length+kk)) items (gC kk g1) gE/\gE[g1.length+kk]?=some (.own acc)/\g'=gE.take g1.length:=by
 unfold lN at h;split at h
 . symm
 .
  rename_i items g1 e1;split at h
  .
   rename_i hl;split at h
   . symm
   .
    rename_i gE e2;split at h
    .
     rename_i acc' e3;symm;obtain⟨hl,hb⟩:=hl;rw[<- hl]at e2 e3 se ZF ⊢
     rw[List.any_eq_false]at hb;exact⟨items,g1,gE,pJ hS ct hK (wR hT1) hi1 e1,λb=>r9 (ct.blk hnd b) hK hT1 λi hi hm=>hb i (qS _ hi) (sK hm),λb=>r9 (ct.blk hnd b) hK hT λi hi hm=>hb i (i5 _ hi) (sK hm),ZF,se,uC hS ct hK hnd hT hf1 hi hf he e2,e3,rfl⟩
    . symm
  . symm
end
theorem Od{P:Pg}{c:Ct}{er y ke en Ke:Str}{Dw np WQ py bM qo kp v9 v8 ez qq qm:Pos}{j:Nat}{rest:List Stmt}{bd:List Sm}(h:vg P c (.Assign [.Name er Dw] (.Constant .none j np) WQ::HS y ke en Ke py bM qo kp v9 v8 ez qq qm::rest) bd):vg P c rest (bd.drop 2):=by
 have nog:∀{s:Stmt}{ss:List Stmt}{x:Sm}{r:List Stmt},CmG P (Cm P c) (Kl P c) c ss x->ss++r=s::rest->(∀a b p,s≠.Assign a b p)->False:=λg e n=>by
  cases g <;> (injection e with e1 e2;exact n _ _ _ e1.symm)
 generalize hq:(Stmt.Assign [.Name er Dw] (.Constant .none j np) WQ::HS y ke en Ke py bM qo kp v9 v8 ez qq qm::rest)=jR at h;cases h with
 |nil=>cases hq
 |grp g _=>cases g <;> (injection hq with e1 e2;injection e1 with e3 e4;cases e4)
 |cons _ h1=>
  injection hq with e1 e2;generalize hq2:(HS y ke en Ke py bM qo kp v9 v8 ez qq qm::rest)=aK at e2;subst e2;cases h1 with
  |nil=>cases hq2
  |grp g _=>exact (nog g hq2.symm (λa b p e=>nomatch e)).elim
  |cons _ h2=>injection hq2 with e1 e2;subst e2;exact h2
section
variable{X:Cx}{c:Ct}
theorem IW(ct:aW P k X c){es:List Expr}{ns:List String}(h:DP P c es ns):oO X es ns/\∀n∈ns,n∈ur:=by
 induction h with
 |nil=>exact⟨.nil,λn hn=>nomatch hn⟩
 |@cons T n pos es ns h1 h2 h3 h4 _ ih=>
  refine⟨.cons ?_ ih.1,λm hm=>(eA.mp hm).elim (λe=>e▸h4) (ih.2 m)⟩
  subst h3;refine⟨ct.kQ _ h2,ct.md.bn _ h1,?_,?_,?_⟩ <;> (unfold ur at h4;simp only[eA,l5,xL]at h4;rcases h4 with rfl |rfl |rfl |rfl |rfl |rfl <;> first |rfl |decide)
theorem zb{e:Expr}{x:Ex}{bM:Pos}(hc:Cm P c e x):((backTo bM (starEach [e] X.env)).all (λx=>!x.1)&&(backToKw bM (keywordEach [] X.env)).all (λx=>x.1.isSome)
   && decide ([e].length+([]:List Keyword).length+(if ([]:List Keyword).isEmpty then 0 else 1)<30))=true:=by
 rw[hc.star];rfl
theorem Oe(hS:iY P rn)(hX:pK P rn){fns:List Fx}(hF:jv P fns){k':Nat}{qqq:Cx}(md:uq P qqq.K qqq.mg)(hr:bS (k'+2) qqq.A)(hcm:qqq.calm=true)(hKY:z.K=qqq.K)(Lc:c.N.Nodup)(hN:X.N=c.N){f ir:Nat}{fi:Fi}{l:Lt}{xb:Ex}{g Kd g3:G}{r0 r':R}{fx:Fx}{ci:Nat}{C:Addr}
  (h1:P.fn[f]?=some fi) (h5:P.lam=true) (h6:N5 fi ir P.kt=true) (h8:Iq l.params l.scope=true) (h9:Cm P ⟨c.N,l.scope,false,Str.empty⟩ l.body xb)
  (e1:fns[f]?=some fx) (e2:rn.x [] k' xb (g.map noOwn)=some (ci,Kd)) (e3:P.nj[ci]?=some C) (e4:rn.b [] k' (fx.body.drop 2) ((List.replicate fx.n .no).set ir (.dat (.mC C)))=some (.rt r0,g3)) (e5:d7 [] g3 r0=some r') {fa:Addr}{fd:FuncData} (F:K3 qqq.K fi.name fi.qual fi.st fa fd) (Sc:bV fi.N fi.ps (aF fi.st)) (bd:L2.Binds qqq.K fd fi.ps []):HW qqq X z g yT l r' fa:=by
 have uV:=hF f fi fx h1 e1;obtain⟨xC,c1,c2,qC,kC⟩:=md.nj ci C e3;obtain⟨dk,D,mD,qD,hup⟩:=md.kt h5;have L:=Ax h8;unfold N5 at h6;split at h6
 .
  rename_i er y ke en Ke Qs hv;obtain⟨Dw,j,np,WQ,py,bM,qo,kp,v9,v8,ez,qq,qm,rest,dg⟩:=N4 hv;obtain⟨p1,p2⟩:=aj h6;obtain⟨⟨q1,q2,q3,q4⟩,⟨q5,q6,q7⟩,⟨q8,q9⟩,q10,q11,q12⟩:=dec p1;subst q1 q2 q3;obtain⟨p3,p4⟩:=aj p2;have pe:=cW (aj p3).1;have py':=cW (aj p3).2;have vy:uW (aF fi.st) y:=by
   have:=(aj p4).1;unfold DK at this;split at this
   . rename_i e;exact .inl e
   . rename_i e;exact .inr (.inl e)
   . rename_i e;exact .inr (.inr e)
   . cases this
  have lr:Loc (aF fi.st) Ke:=by
   have:=(aj p4).2;unfold jF at this;split at this
   . rename_i e;exact .inl e
   . rename_i e;exact .inr e
   . cases this
  have hb:=uV.body;rw[dg]at hb;have hrs:vg P ⟨fi.N,aF fi.st,true,fi.qual⟩ rest (fx.body.drop 2):=Od hb;intro ah σ1 σ0 H1 s1 g1 As A0 M p c' cl pm jh us Q E I1 S1 hp1 hc1 Cl0 sl0 rv hQ;refine Ul (k:=k') (C:=C) (D:=D) (y:=y) (ke:=P.kt) (en:=Qs) (er:=Ke) (ie:=fi.N.idxOf Qs) (ir:=ir) (Kd:=Kd) (g3:=g3) (r:=r0) (N:=X.N) hKY hr hcm F dg (q4▸Sc) (q4▸bd)
   ⟨Sc.nd,q5,mD,dk,qC,qD,hup C (l8 e3),kC,q6,q7,pe.1,pe.2,q8,lr,q9,vy,py'.1,py'.2,q10,q11,q12⟩ L (λXf s H xe zl a1 a2 a3 a4 a5 hr hc hp hzK hzb=>?_) (λbD A outer s H E bN hr zf hzK hzb=>?_) e5 I1 S1 hp1 hc1 Cl0 sl0.noOwn (λi l e=>Du e) rv hQ
  .
   have hci:iO P (v5 Xf X.N yT l.scope p (.ref c') cl s H xe).mg ci C:=⟨xC,c1,a4▸c2⟩;refine hX.x (c:=⟨c.N,l.scope,false,Str.empty⟩) ⟨⟨hN,Lc,λx e=>e,λx e=>e,λx e=>e,(λe=>nomatch e),λx e=>?_,(λe=>nomatch e),rfl,rfl,?_,hr.deeper _,λe=>absurd (show Str.empty=("law":Str)from e) ⋯⟩,rfl,hp⟩ (hzK.trans a3.symm) hci h9 (by rw[hzb];exact e2)
   .
    rcases e with e |e
    . cases e
    . exact absurd rfl (L.nl _ (L2.mem_of_lookup e))
   . show uq P Xf.K Xf.mg;rw[a3,a4];exact md
  .
   have e4':rn.b zf.bor k' (fx.body.drop 2) ((List.replicate fi.N.length .no).set ir (.dat (.mC C)))=some (.rt r0,g3):=by rw[hzb,<- uV.n];exact e4
   exact hS.b (pL Sc md bN hr) rfl hzK hrs e4'
 . cases h6
theorem ZG(ct:aW P k X c)(h4:c.q = "law")(h5:P.lam=true):∃q cc,Uj X yT q cc:=by obtain⟨hqn,cc,q,hcode,hC,hq,hbi,YW⟩:=ct.lam h4 h5;exact⟨q,cc,hq,λp hp _=>Cp hp,hcode,hC,hqn,hbi,YW⟩
theorem Og(hS:iY P rn)(hX:pK P rn){fns:List Fx}(hF:jv P fns){k':Nat}(ct:aW P (k'+2) X c)(hK:z.K=X.K){x:Str}{f ir:Nat}{fi:Fi}{params:Arguments}{body:Expr}{scope:Scope}{xb:Ex}{fp ZJ pos:Pos}{g Kd g3:G}{r0 r':R}{fx:Fx}{ci:Nat}{C:Addr}
  (h1:P.fn[f]?=some fi) (h2:fi.name=x) (h3:c.sc.names.lookup x=some .globalImplicit) (h4:c.q = "law") (h5:P.lam=true) (h6:N5 fi ir P.kt=true) (h7:yU c.sc scope=true) (h8:Iq params scope=true) (h9:Cm P ⟨c.N,scope,false,Str.empty⟩ body xb)
  (e1:fns[f]?=some fx) (e2:rn.x [] k' xb (g.map noOwn)=some (ci,Kd)) (e3:P.nj[ci]?=some C) (e4:rn.b [] k' (fx.body.drop 2) ((List.replicate fx.n .no).set ir (.dat (.mC C)))=some (.rt r0,g3)) (e5:d7 [] g3 r0=some r') :
  aA X z (.Call (.Name x fp) [.Lambda params body scope ZJ] [] pos) g r' g:=by
 obtain⟨fa,fd,m1,F,Sc,bd,db⟩:=ct.md.fn f fi h1;obtain⟨q,cc,mk⟩:=ZG ct h4 h5;subst h2;exact Ni (l:=⟨params,body,scope,ZJ⟩) hK F (ct.kQ _ h3) m1 db mk (iZ ct h7) (Ax h8) (Oe hS hX hF ct.md ct.room ct.calm hK ct.nd ct.N h1 h5 h6 h8 h9 e1 e2 e3 e4 e5 F Sc bd)
def W4(X:Cx)(z:Z)(e:Expr)(g:G)(o:Option (R×G)):Prop:=∀r g',o=some (r,g')->aA X z e g r g'
theorem W4.none{e:Expr}{g:G}:W4 X z e g none:=λ_ _ h=>nomatch h
theorem W4.some{e:Expr}{g g':G}{r:R}(h:aA X z e g r g'):W4 X z e g (some (r,g')):=λ_ _ q=>by cases q;exact h
theorem wV{m n' kk:Nat}{T:Tg}{it xe:Ex}{co:Option Ex}{t:Expr}(h:qz P (m+1) c (.comp n' kk T it co xe) t=true):n'=c.N.length/\yU c.sc (fB t)=true/\pF c.N (pH c.N (fB t)) (fB t) kk=true/\(pH c.N (fB t)).Nodup/\DQ (eG c t) (qM (eG c t) T (kid t 1)) T/\(∀i∈T.ix,c.N.length<=i/\i<c.N.length+kk)/\Kg P c (uy (cE P m c) it (kid t 2)) it/\qN P (eG c t) (yW (cE P m (eG c t)) (kid t 3) co) co/\Cm P (eG c t) (cE P m (eG c t) xe (kid t 0)) xe:=by obtain⟨h1,a1⟩:=aj h;obtain⟨h2,a2⟩:=aj a1;obtain⟨h3,a3⟩:=aj a2;obtain⟨h4,a4⟩:=aj a3;obtain⟨h5,a5⟩:=aj a4;exact⟨dec h1,(aj h2).1,(aj (aj h2).2).1,iX (aj (aj h2).2).2,lP h3,uz h4,pI (R:=Cm P c) .mk h5,yX (R:=Cm P (eG c t)) .mk (aj a5).1,.mk (aj a5).2⟩
theorem sr{m n' kk:Nat}{T1 T:Tg}{qw it xe:Ex}{c1 co:Option Ex}{t:Expr}(h:qz P (m+1) c (.iN n' kk T1 qw c1 T it co xe) t=true):n'=c.N.length/\yU c.sc (fB t)=true/\pF c.N (pH c.N (fB t)) (fB t) kk=true/\(pH c.N (fB t)).Nodup/\DQ (eG c t) (qM (eG c t) T1 (kid t 1)) T1/\DQ (eG c t) (qM (eG c t) T (kid t (3+o1 c1))) T/\(∀i∈T1.ix,c.N.length<=i/\i<c.N.length+kk)/\(∀i∈T.ix,c.N.length<=i/\i<c.N.length+kk)/\Kg P c (uy (cE P m c) qw (kid t 2)) qw/\qN P (eG c t) (yW (cE P m (eG c t)) (kid t 3) c1) c1/\Kg P (eG c t) (uy (cE P m (eG c t)) it (kid t (4+o1 c1))) it/\qN P (eG c t) (yW (cE P m (eG c t)) (kid t (5+o1 c1)) co) co/\Cm P (eG c t) (cE P m (eG c t) xe (kid t 0)) xe:=by obtain⟨h1,a1⟩:=aj h;obtain⟨h2,a2⟩:=aj a1;obtain⟨h3,a3⟩:=aj a2;obtain⟨h4,a4⟩:=aj a3;obtain⟨h5,a5⟩:=aj a4;obtain⟨h6,h7⟩:=aj a5;exact⟨dec h1,(aj h2).1,(aj (aj h2).2).1,iX (aj (aj h2).2).2,lP (aj h3).1,lP (aj h3).2,uz (aj h4).1,uz (aj h4).2,pI (R:=Cm P c) .mk (aj h5).1,yX (R:=Cm P (eG c t)) .mk (aj h5).2,pI (R:=Cm P (eG c t)) .mk (aj h6).1,yX (R:=Cm P (eG c t)) .mk (aj h6).2,.mk h7⟩
theorem Vi(ct:aW P k X c)(hK:z.K=X.K){d:D}{t:Expr}{g:G}(h:okV P c d t=true):aA X z (yZ d t) g (.dat d) g:=by
 unfold okV at h;unfold yZ;cases e:Av t with
 |some y=>rw[e]at h;obtain⟨hd,v,u,q1,q2,q3⟩:=ct.md.ct _ _ (Va (aj h).2);exact Lg (ct.kQ _ (dec (aj h).1)) q1 q2 (hK▸q3) hd
 |none=>
  rw[e]at h;cases d with
  |int i=>exact RM
  |bl i=>exact Yj
  |str i=>exact RP
  |non=>exact RN
  |_=>exact nt h
theorem Oh(hS:iY P rn)(hX:pK P rn){fns:List Fx}(hF:jv P fns)(ct:aW P k X c)(hK:z.K=X.K){e:Expr}{x:Ex}{g:G}(hc:Cm P c e x):W4 X z e g (aO rn z.bor k fns x g):=by
 obtain⟨n,t,rfl,hk⟩:=hc.N9;clear hc;cases x
 case val d=>exact .some (Vi ct hK hk)
 case slot i=>
  have h1:=(fM hk).1;have h2:=(fM hk).2.1;have h3:=(fM hk).2.2;obtain⟨hd,bN⟩:=cW h3;unfold aO;dsimp only;split
  . rename_i e1;exact .some (RQ (by rw[ct.N];exact h1) (ct.vis h2) hd bN e1)
  . rename_i e1;exact .some (Lf (by rw[ct.N];exact h1) (ct.vis h2) hd bN e1)
  . exact .none
 case bin op a b=>
  have h1:=(Cm.mk (aj hk).1);have h2:=(Cm.mk (aj hk).2);unfold aO;dsimp only;split
  .
   rename_i r1 r2 g2 e1;obtain⟨s1,s2,g1,q1,q2,q3⟩:=jc e1;cases q3;split
   .
    rename_i d1 d2 p1 p2;split
    . rename_i r0 e3;exact .some (RT (bE (hS.e ct hK h1 q1)) (bE (hS.e ct hK h2 q2)) p1 p2 (Ux hK e3))
    . exact .none
   . exact .none
  . exact .none
 case cmp op a b=>
  have h1:=(Cm.mk (aj hk).1);have h2:=(Cm.mk (aj (aj hk).2).1);have h3:=jG (aj (aj hk).2).2;unfold aO;dsimp only;split
  .
   rename_i r1 r2 g2 e1;obtain⟨s1,s2,g1,q1,q2,q3⟩:=jc e1;cases q3;split
   .
    rename_i d1 d2 p1 p2;split
    . rename_i r0 e3;exact .some (RV (bE (hS.e ct hK h1 q1)) (bE (hS.e ct hK h2 q2)) p1 p2 (pD hK ct.room e3) h3)
    . exact .none
   . exact .none
  . exact .none
 case chain a ops xs=>
  obtain⟨k1,k2⟩:=aj hk;obtain⟨k3,k4⟩:=aj k2;obtain⟨k5,k6⟩:=aj k4;obtain⟨Tw,Tz,ops,rfl⟩:=two (dec (aj k6).1);obtain⟨x1,x2,xs,rfl⟩:=two (dec (aj k6).2);have h1:=Cm.mk k1;have h2:=cX (R:=Cm P c) .mk k3;have h3:=jG k5;unfold aO;dsimp only;split
  .
   rename_i d1 g1 e1;split
   . rename_i b g2 e2;exact .some (GR (aP hS ct hK h1 e1) (y9 hS ct hK h2 e2) h3)
   . exact .none
  . exact .none
 case neg a=>
  have h1:=Cm.mk hk;unfold aO;dsimp only;split
  . rename_i i g1 e1;exact .some (Yl (aP hS ct hK h1 e1) rfl Sz)
  . exact .none
 case not a=>
  have h1:=Cm.mk hk;unfold aO;dsimp only;split
  . rename_i b g1 e1;exact .some (R9 (hS.e ct hK h1 e1))
  . exact .none
 case and xs=>have h1:=cX (R:=Cm P c) .mk hk;exact λ_ _ h=>Ba hS ct hK h1 h
 case or xs=>have h1:=cX (R:=Cm P c) .mk hk;exact λ_ _ h=>Iz hS ct hK h1 h
 case ite a b d=>
  have h1:=(Cm.mk (aj hk).1);have h2:=(Cm.mk (aj (aj hk).2).1);have h3:=(Cm.mk (aj (aj hk).2).2);unfold aO;dsimp only;split
  . rename_i g1 e1;exact λ_ _ h=>Se (hS.t ct hK h1 e1) (hS.e ct hK h2 h)
  . rename_i g1 e1;exact λ_ _ h=>Sf (hS.t ct hK h1 e1) (hS.e ct hK h3 h)
  . exact .none
 case tup xs=>
  have h1:=cX (R:=Cm P c) .mk hk;unfold aO;dsimp only;split
  .
   rename_i ds g1 e1;split
   . rename_i hl;exact .some (Si (gj hS ct hK h1 e1) (kD _) hl)
   . exact .none
  . exact .none
 case lst xs=>
  have h1:=cX (R:=Cm P c) .mk hk;unfold aO;dsimp only;split
  .
   rename_i ds g1 e1;split
   . rename_i hl;exact .some (Sj (gj hS ct hK h1 e1) (kD _) hl)
   . exact .none
  . exact .none
 case ix a b=>
  have h1:=(Cm.mk (aj hk).1);have h2:=(Cm.mk (aj hk).2);unfold aO;dsimp only;split
  .
   rename_i r1 r2 g2 e1;obtain⟨s1,s2,g1,q1,q2,q3⟩:=jc e1;cases q3;split
   .
    rename_i d1 d2 p1 p2;split
    . rename_i r0 e3;exact .some (Yk (bE (hS.e ct hK h1 q1)) (bE (hS.e ct hK h2 q2)) p1 p2 (Uy hK (by have:=ct.room.units;lia) e3) h2.Oa)
    . exact .none
   . exact .none
  . exact .none
 case slice a lo hi=>
  have h1:=(Cm.mk (aj hk).1);have h2:=Iv (R:=Cm P c) .mk (aj (aj hk).2).1;have h3:=Iv (R:=Cm P c) .mk (aj (aj hk).2).2;unfold aO;dsimp only;split
  .
   rename_i r0 g1 e1;have q:=bE (hS.e ct hK h1 e1);split
   .
    rename_i i g2 e2;have q2:=wQ hS ct hK h2 e2;split
    .
     rename_i j g3 e3;have q3:=wQ hS ct hK h3 e3;split
     . rename_i l e4;rw[e4]at q;exact .some (CZ hK q q2 q3)
     . rename_i l e4;rw[e4]at q;exact .some (CW hK q q2 q3)
     .
      split
      . rename_i e5;exact .some (CV (d:=.non) hK q q2 q3 e5)
      . exact .none
    . exact .none
   . exact .none
  . exact .none
 case call i xs=>
  obtain⟨k1,k2⟩:=aj hk;obtain⟨k3,k4⟩:=aj k2;obtain⟨fi,h1,h2⟩:=ux k1;cases xs with
  |nil=>cases (aj k4).2
  |cons x xs=>
  have h3:=dec k3;have h4:=cX (R:=Cm P c) .mk (aj k4).1;show W4 X z (.Call (.Name (wL P i) (kid t 0).pos) (jq (cE P n c) t 1 (x::xs)) [] t.pos) g _;rw[<- h2]at h3 ⊢
  unfold aO;dsimp only;split
  .
   rename_i fx k' ct' uV;split
   . rename_i rs g1 e1;exact λ_ _ h=>IK hS ct hK h1 (hF _ _ _ h1 uV) h3 h4 (kF hS ct hK h4 e1) h
   . exact .none
  . exact .none
 case blt b xs=>
  cases xs with
  |nil=>cases (aj (aj hk).2).2
  |cons x xs=>
  have h2:=(bh (aj hk).1).1;have h3:=(bh (aj hk).1).2;have h4:=cX (R:=Cm P c) .mk (aj (aj hk).2).1;unfold aO;dsimp only;split
  .
   rename_i rs g1 e1;split
   .
    rename_i ds e2;split
    .
     rename_i r0 e3;have ha:=kF hS ct hK h4 e1;have bN:=UG hK ct.calm (by have:=ct.room.units;lia) e3
     have dg:=(Cm.mk (aj (aj (aj hk).2).1).1).star (env:=X.env) (jq (cE P n c) t 2 xs);have g8:=(cX (R:=Cm P c) .mk (aj (aj (aj hk).2).1).2).plain (env:=X.env) (pos:=t.pos);cases b with
     |len=>exact .some (eS ha e2 bN (ct.kQ _ h3) (ct.md.bn _ h2) rfl ⋯ ⋯ dg g8)
     |list=>exact .some (lA ha e2 bN (ct.kQ _ h3) (ct.md.bn _ h2) rfl ⋯ ⋯ dg g8)
     |tuple=>exact .some (lA ha e2 bN (ct.kQ _ h3) (ct.md.bn _ h2) rfl ⋯ ⋯ dg g8)
     |max=>exact .some (eS ha e2 bN (ct.kQ _ h3) (ct.md.bn _ h2) rfl ⋯ ⋯ dg g8)
     |min=>exact .some (eS ha e2 bN (ct.kQ _ h3) (ct.md.bn _ h2) rfl ⋯ ⋯ dg g8)
     |str=>exact .some (lA ha e2 bN (ct.kQ _ h3) (ct.md.bn _ h2) rfl ⋯ ⋯ dg g8)
     |all=>exact .some (eS ha e2 bN (ct.kQ _ h3) (ct.md.bn _ h2) rfl ⋯ ⋯ dg g8)
     |any=>exact .some (eS ha e2 bN (ct.kQ _ h3) (ct.md.bn _ h2) rfl ⋯ ⋯ dg g8)
     |sorted=>exact .some (eS ha e2 bN (ct.kQ _ h3) (ct.md.bn _ h2) rfl ⋯ ⋯ dg g8)
     |sum=>exact .some (eS ha e2 bN (ct.kQ _ h3) (ct.md.bn _ h2) rfl ⋯ ⋯ dg g8)
    . exact .none
   . exact .none
  . exact .none
 case vd a n'=>
  have h1:=Cm.mk (aj (aj hk).2).1;have h2:=(bh (aj hk).1).1;have h3:=(bh (aj hk).1).2;have h4:=(bh (aj (aj (aj hk).2).2).2).1;have h5:=(bh (aj (aj (aj hk).2).2).2).2;have h7:=AT.mp (aj (aj (aj hk).2).2).1;unfold aO;dsimp only;split
  .
   rename_i r0 g1 e1;split
   .
    rename_i d e2;obtain⟨t1,_⟩:=IW ct (DP.cons (pos:=(kid t 2).pos) h4 h5 rfl h7 .nil);cases t1 with
    |cons t1 _=>exact .some (SX hK (bE (hS.e ct hK h1 e1)) e2 (λ_ _ _ p=>wF p h7) (ct.kQ _ h3) (ct.md.bn _ h2) rfl t1.gl t1.mg t1.bt t1.nn t1.db (h1.star _))
   . exact .none
  . exact .none
 case Ij a ns=>
  have h1:=Cm.mk (aj (aj hk).2).1;have h2:=(bh (aj hk).1).1;have h3:=(bh (aj hk).1).2;have h4:=dec (aj (aj (aj hk).2).2).1;have h5:=U7 (t:=kid t 2) (i:=0) (aj (aj (aj hk).2).2).2;unfold aO;dsimp only;split
  .
   rename_i r0 g1 e1;split
   . rename_i d e2;obtain⟨t1,t2⟩:=IW ct h5;exact .some (Mi hK (bE (hS.e ct hK h1 e1)) e2 t1 ⋯ (λ_ _ _ p=>rZ p t2) (ct.kQ _ h3) (ct.md.bn _ h2) rfl (h1.star _))
   . exact .none
  . exact .none
 case rev a=>
  have h1:=Cm.mk hk;unfold aO;dsimp only;split
  .
   rename_i r0 g1 e1;have q:=bE (hS.e ct hK h1 e1);split
   . rename_i l e4;rw[e4]at q;exact .some (MP hK q)
   .
    split
    . rename_i e5;exact .some (MN hK q e5)
    . exact .none
  . exact .none
 case emp=>exact .some (Ua)
 case peek xe=>
  have h1:=Cm.mk (aj hk).2;unfold aO;dsimp only;split
  .
   rename_i hb;have hb:z.bor=[]:=List.isEmpty_iff.mp hb;split
   .
    rename_i d g1 e1;split
    . rename_i hf;exact .some (Nk hb hf (hS.e ct hK h1 (by rw[hb];exact e1)))
    . exact .none
   . exact .none
  . exact .none
 case stk=>exact .none
 case yQ a l=>
  have h1:=Cm.mk (aj (aj hk).2).1;have h2:=(bh (aj hk).1).1;have h3:=(bh (aj hk).1).2;have h4:=dec (aj (aj (aj hk).2).2).2;have h5:=dec (aj (aj (aj hk).2).2).1;unfold aO;dsimp only;obtain⟨db,cv,hcv,hn,hC⟩:=ct.md.ups _ _ h4;have cls:∃w:V,(∀u,RelV w u->u=cv)/\PE X (.Name ((Av (kid t 2)).getD Str.empty) (kid t 2).pos) (tC w):=by
   rcases hcv with ⟨m1,D,rfl⟩ |⟨m1,m2,m3,n,rfl⟩
   . exact⟨.ref D,λu r=>r,zM (ct.kQ _ h5) m1 rfl db⟩
   . exact⟨.ty n,λu r=>r,sQ (ct.kQ _ h5) (ct.md.bn _ m1) m3 rfl m2 db⟩
  obtain⟨w,hw,pw⟩:=cls;split
  .
   rename_i r0 g1 e1;split
   .
    rename_i C e2;split
    . rename_i b e3;exact .some (HY hK (bE (hS.e ct hK h1 e1)) e2 (λ_ _ _ _=>hC C b e3) (ct.kQ _ h3) (ct.md.bn _ h2) rfl hw pw (h1.star _))
    . exact .none
   . rename_i e2;exact .some (HY hK (bE (hS.e ct hK h1 e1)) e2 (λ_ _ _ _=>hn) (ct.kQ _ h3) (ct.md.bn _ h2) rfl hw pw (h1.star _))
   . exact .none
  . exact .none
 case o9 i ir ca xb=>
  obtain⟨g1,k1⟩:=aj hk;obtain⟨g2,k2⟩:=aj k1;obtain⟨g3,k3⟩:=aj k2;obtain⟨h6,k5⟩:=aj k3;obtain⟨fi,h1,h2⟩:=ux g1;unfold Zu at h6;rw[h1]at h6;have h3:=(Bool.or_eq_true_iff.mp g2).imp (λh=>(⟨dec (aj h).1,dec (aj h).2⟩:_/\_)) Ir
  have h4:=dec (aj g3).1;have h5:=(aj g3).2;have h7:=(aj k5).1;have h8:=(aj (aj k5).2).1;have h9:=Cm.mk (aj (aj k5).2).2;unfold aO;dsimp only;split
  .
   rename_i fx k' e1;split
   .
    rename_i ci Kd e2;split
    .
     rename_i C e3;split
     .
      rename_i r0 g3 e4;split
      .
       rename_i r' e5;rcases h3 with ⟨rfl,h3⟩ |rfl
       . exact .some (Og hS hX hF ct hK h1 h2 h3 h4 h5 h6 h7 h8 h9 e1 e2 e3 e4 e5)
       . exact .some (nomatch e3)
      . exact .none
     . exact .none
    . exact .none
   . exact .none
  . exact .none
 case comp n' kk T it co xe=>
  obtain⟨rfl,h1,h2,h3,h4,h5,h6,h7,h8⟩:=wV hk;unfold aO;dsimp only;split
  . rename_i acc g1 e1;obtain⟨items,g1,gE,w1,w2,w3,w4,w5,rfl⟩:=wU hS ct hK h3 h4 h5 h6 h7 h8 e1;exact .some (L8 (iZ ct h1) ct.calm (by rw[ct.N];exact gi h2) w1 w2 w3 w4 w5 λy=>h6.folded y)
  . exact .none
 case wu n' k T it ks xv=>
  obtain⟨u1,a1⟩:=aj hk;obtain⟨u2,a2⟩:=aj a1;obtain⟨u3,a3⟩:=aj a2;obtain⟨u4,a4⟩:=aj a3;obtain⟨u5,a5⟩:=aj a4;obtain rfl:=dec u1;have h1:=(aj u2).1;have h2:=(aj (aj u2).2).1;have h3:=iX (aj (aj u2).2).2;have h4:=lP (t:=kid t 2) u3;have h5:=uz u4;have h6:=pI (R:=Cm P c) .mk u5;have h7:=cX (R:=Cm P (eG c t)) .mk (aj a5).1;have h8:=(Cm.mk (aj a5).2);unfold aO;dsimp only;split
  . rename_i p g1 e1;obtain⟨items,g1,gE,w1,w2,w3,w4,rfl⟩:=DS hS ct hK h3 h4 h5 h6 h7 h8 e1;exact .some (Ii (iZ ct h1) ct.calm ct.room.Rl (by rw[ct.N];exact gi h2) w1 w2 w3 w4 λy=>h6.folded y)
  . exact .none
 case iN n' kk T1 qw c1 T it co xe=>
  obtain⟨rfl,h1,h2,h3,h4,h4',h5,h5',h6,h7,h8,h9,h10⟩:=sr hk;unfold aO;dsimp only;split
  . rename_i acc g1 e1;obtain⟨items,g1,gE,w1,w2,w3,w4,w5,w6,w7,rfl⟩:=sf hS ct hK h3 h4 h4' h5 h5' h6 h7 h8 h9 h10 e1;exact .some (Ie (iZ ct h1) ct.calm (by rw[ct.N];exact gi h2) w1 w2 w3 w4 w5 w6 w7 (λy=>h6.folded y) λb y=>h8.folded y)
  . exact .none
 case fY a=>
  have h1:=Cm.mk (aj hk).2;have h2:=(bh (aj (aj hk).1).1).1;have h3:=(bh (aj (aj hk).1).1).2;have h4:=(bh (aj (aj hk).1).2).1;have h5:=(bh (aj (aj hk).1).2).2;unfold aO;dsimp only;split
  .
   rename_i j g1 e1;split
   .
    rename_i hj;obtain⟨hj,hl⟩:=hj;simp only[Nv,d5,eR]at hj;have q:=G3 (z:=z) (lp:=(kid t 0).pos) (pos:=t.pos) (rg_1 (p:=(kid (kid t 1) 0).pos) (rp:=(kid t 1).pos) (cT (aP hS ct hK h1 e1) fH (h1.star _)) (ct.kQ _ h3) (ct.md.bn _ h2) (h1.star _)) ct.calm (ct.kQ _ h5) (ct.md.bn _ h4) rfl ⟨by lia,by lia,hj.1,hj.2⟩ (by rw[Int.sub_zero];exact hl)
    rw[Int.sub_zero]at q;exact .some (q)
   . exact .none
  . exact .none
 case DG l=>
  have h1:=U5 (R:=Cm P c) .mk hk;unfold aO;dsimp only;split
  .
   split
   . rename_i e1;exact .some (Mw (za hS ct hK h1 e1))
   . exact .none
  . exact .none
 case append i x=>
  have h1:=(fM (aj (aj hk).2).1).1;have h2:=(fM (aj (aj hk).2).1).2.1;have h3:=(fM (aj (aj hk).2).1).2.2;have h4:=(Cm.mk (aj (aj hk).2).2);have h5:=(aj hk).1;obtain⟨hd,bN⟩:=cW h3;unfold aO;dsimp only;split
  .
   rename_i l0 e0;split
   .
    rename_i d g1 e1;split
    .
     rename_i l e2;split
     . rename_i hl;exact .some (CJ (by rw[ct.N];exact h1) (ct.vis h2) hd bN e0 (cT (aP hS ct hK h4 e1) fH (h4.star _)) e2 hl rfl (zb h4) h5 (h4.star _))
     . exact .none
    . exact .none
   . exact .none
  . exact .none
 case extend i x=>
  have h1:=(fM (aj (aj hk).2).1).1;have h2:=(fM (aj (aj hk).2).1).2.1;have h3:=(fM (aj (aj hk).2).1).2.2;have h4:=(Cm.mk (aj (aj hk).2).2);have h5:=(aj hk).1;obtain⟨hd,bN⟩:=cW h3;unfold aO;dsimp only;split
  .
   rename_i l0 e0;split
   .
    rename_i d g1 e1;split
    .
     rename_i l e2;split
     . rename_i hl;exact .some (Dd (by rw[ct.N];exact h1) (ct.vis h2) hd bN e0 (cT (aP hS ct hK h4 e1) fH (h4.star _)) e2 hl rfl (zb h4) h5 (h4.star _))
     . exact .none
    . exact .none
   . exact .none
  . exact .none
 case rX i x=>
  have h1:=(fM (aj (aj hk).2).1).1;have h2:=(fM (aj (aj hk).2).1).2.1;have h3:=(fM (aj (aj hk).2).1).2.2;have h4:=(Cm.mk (aj (aj hk).2).2);have h5:=(aj hk).1;obtain⟨hd,bN⟩:=cW h3;unfold aO;dsimp only;split
  .
   rename_i l0 e0;split
   .
    rename_i j g1 e1;split
    .
     rename_i l e2;split
     .
      rename_i n e3;split
      .
       rename_i d e4;split
       . rename_i hl;exact .some (GF (by rw[ct.N];exact h1) (ct.vis h2) hd bN e0 (cT (aP hS ct hK h4 e1) fH (h4.star _)) e2 e3 e4 hl rfl (zb h4) h5 (h4.star _))
       . exact .none
      . exact .none
     . exact .none
    . exact .none
   . exact .none
  . exact .none
 all_goals exact Bool.noConfusion (show false=true from hk)
theorem Ja(hS:iY P rn)(hX:pK P rn){fns:List Fx}(hF:jv P fns)(ct:aW P k X c)(hK:z.K=X.K){e:Expr}{x:Ex}{g g':G}{r:R}(hc:Cm P c e x)(h:aO rn z.bor k fns x g=some (r,g')):aA X z e g r g':=Oh hS hX hF ct hK hc r g' h
end
section
theorem Jb(hS:iY P rn)(ct:aW P k X c)(hK:z.K=X.K){e:Expr}{x:Ex}{g g':G}{b:Bool}(hc:Cm P c e x)(h:stepT rn z.bor k x g=some (b,g')):cA X z e g b g':=by
 have plain:(match rn.e z.bor k x g with |some (r,g1)=>(match pk (norm r) g1 with |some d=>(match Mg d with |some c=>some (c,g1) |none=>none) |none=>none) |none=>none)=some (b,g')->
   (∀whole,isTrue e X.env whole=(do let v <- whole;standAt e.pos;holding [v] (truthy v)))->cA X z e g b g':=by
  intro h he;split at h
  .
   rename_i r g1 e1;split at h
   .
    rename_i d e2;split at h
    . rename_i b' e3;symm;exact G0 hK (bE (hS.e ct hK hc e1)) e2 e3 he
    . symm
   . symm
  . symm
 obtain⟨n,t,rfl,hk⟩:=hc.N9;cases x
 case cmp op a b=>
  have h1:=Cm.mk (aj hk).1;have h2:=Cm.mk (aj (aj hk).2).1;have h3:=jG (aj (aj hk).2).2;unfold stepT at h;dsimp only at h;split at h
  .
   rename_i r1 r2 g2 e1;obtain⟨s1,s2,g1,q1,q2,q3⟩:=jc e1;cases q3;split at h
   .
    rename_i d1 d2 p1 p2;split at h
    . rename_i r0 e3;symm;exact RW (bE (hS.e ct hK h1 q1)) (bE (hS.e ct hK h2 q2)) p1 p2 (pD hK ct.room e3) h3
    . symm
   . symm
  . symm
 case chain a ops xs=>
  obtain⟨k1,k2⟩:=aj hk;obtain⟨k3,k4⟩:=aj k2;obtain⟨k5,k6⟩:=aj k4;obtain⟨Tw,Tz,ops,rfl⟩:=two (dec (aj k6).1);obtain⟨x1,x2,xs,rfl⟩:=two (dec (aj k6).2);have h1:=Cm.mk k1;have h2:=cX (R:=Cm P c) .mk k3;have h3:=jG k5;unfold stepT at h;dsimp only at h;split at h
  . rename_i d1 g1 e1;exact GX (aP hS ct hK h1 e1) (y9 hS ct hK h2 h) h3
  . symm
 case not a=>
  have h1:=Cm.mk hk;unfold stepT at h;dsimp only at h;split at h
  . rename_i b' g1 e1;symm;exact RX (hS.t ct hK h1 e1)
  . symm
 case and xs=>exact (wO hS ct hK (cX (R:=Cm P c) .mk hk) h).tr
 case or xs=>exact (Bb hS ct hK (cX (R:=Cm P c) .mk hk) h).tr
 case ite a b d=>symm
 case val d=>exact plain h (by rw[show N8 P (cE P n) c (.val d) t=yZ d t from rfl];unfold yZ;split <;> exact λ_=>rfl)
 case peek xe=>exact plain h (by obtain⟨x,p,a,es,pos,e⟩:=wN (aj hk).1;rw[show N8 P (cE P n) c (.peek xe) t=cE P n c xe t from rfl,e];exact λ_=>rfl)
 all_goals first |exact plain h λ_=>rfl |exact Bool.noConfusion (show false=true from hk)
theorem Bd(ct:aW P k X c):PassesOwn (~~~2) X.A X.env X.xe:=by rw[ct.xe];exact PassesOwn.never
theorem pM{T:Tg}{body:List Stmt}{b:G->Option (Fl×G)}(hb:∀{g g':G}{f:Fl},b g=some (f,g')->eu X z body g f g'):∀{items:List D}{g g':G}{f:Fl},eY T b items g=some (f,g')->eU X z body T items g f g'
 | [],_,_,_,h=>by symm;exact .nil
 |d::l,_,_,_,h=>by
  unfold eY at h;split at h
  . symm
  .
   rename_i g0 e0;split at h
   . symm
   . rename_i g1 e1;exact .next e0 (hb e1) (pM hb h)
   . rename_i g1 e1;exact .cont e0 (hb e1) (pM hb h)
   . rename_i g1 e1;symm;exact .brk e0 (hb e1)
   . rename_i g1 e1;symm;exact .ret e0 (hb e1)
theorem zc{ce:Expr}{body:List Stmt}{t:G->Option (Bool×G)}{b:G->Option (Fl×G)}(ht:∀{g g':G}{v:Bool},t g=some (v,g')->cA X z ce g v g')(hb:∀{g g':G}{f:Fl},b g=some (f,g')->eu X z body g f g') :
  ∀{n:Nat}{g g':G}{f:Fl},xY t b n g=some (f,g')->mY X z ce body n g f g'
 | 0,_,_,_,h=>by symm
 |n+1,_,_,_,h=>by
  unfold xY at h;split at h
  . symm
  . rename_i g1 e1;symm;exact .done (ht e1)
  .
   rename_i g1 e1;split at h
   . symm
   . rename_i g2 e2;exact .next (ht e1) (hb e2) (zc ht hb h)
   . rename_i g2 e2;exact .cont (ht e1) (hb e2) (zc ht hb h)
   . rename_i g2 e2;symm;exact .brk (ht e1) (hb e2)
   . rename_i g2 e2;symm;exact .ret (ht e1) (hb e2)
theorem iP{P:Pg}{c:Ct}{e:Expr}{x:Ex}(h:Cm P c e x)(hn:uv (λ_ _=>true) e=false)(t:Option Expr)(l:Nat)(env:Env):swapsWith e t l env=pure false:=by have hs:=h.Az;cases e <;> first |rfl |exact Bool.noConfusion (show true=false from hn) |exact Bool.noConfusion (show false=true from hs)
theorem pN(ct:aW P k X c)(iB:c.df=true){a:Expr}{b:List Comprehension}{s:Scope}{p py:Pos}{y:Str}{l:Nat}(hl:jF c y=true):swapsWith (.ListComp a b s p) (some (.Name y py)) l X.env=pure (WY c y py p s):=by
 show (pure (X.env.blockKind==.function&&X.env.kindOf y==some .local&&py.line==(Expr.ListComp a b s p).pos.line&&!(s.names.any λ(n,k)=>n==y&&(k==.local||k==.cell))):Sem Bool)=_
 rw[ct.bk iB];have e:(X.env.kindOf y==some .local)=(c.sc.names.lookup y==some .local):=by
  unfold jF at hl;split at hl
  . rename_i e;rw[e];show (X.env.scope.names.lookup y==_)=_;rw[ct.Uw y e]
  . rename_i e;rw[e];show (X.env.scope.names.lookup y==_)=_;rw[ct.cel iB y e]
  . cases hl
 rw[e];rfl
theorem DT(ct:aW P k X c)(iB:c.df=true){e:Expr}{x:Ex}{y:Str}{py:Pos}{l:Nat}(hl:jF c y=true)(h:Cm P c e x)(hn:uv (λs p=>WY c y py p s) e=false):swapsWith e (some (.Name y py)) l X.env=pure false:=by have hs:=h.Az;cases e <;> first |rfl |exact Bool.noConfusion (show true=false from hn) |exact Bool.noConfusion (show false=true from hs) | (rw[pN ct iB hl];exact congrArg pure hn)
def Vj:Expr->Bool
 |.Starred ..=>true
 |_=>false
theorem Jc{e:Expr}{x:Ex}(h:Cm P c e x):Vj e=false:=by have hs:=h.Az;cases e <;> first |rfl |exact Bool.noConfusion (show false=true from hs)
theorem Jd{e:Expr}{xe:Ex}{x y:Str}{ix iy:Expr}{pn WK dw rS pt:Pos}{kt:Nat}{env:Env}(h:Cm P c e xe):swappedStores [.Tuple [.Subscript (.Name x pn) ix dw,.Subscript (.Name y WK) iy rS] kt pt] e env=pure none:=by
 have hs:=h.Az;cases e with
 |Tuple es k p=>
  show (if _ then _ else _:Sem (Option (List Str)))=_
  split
  . rfl
  .
   split
   . rfl
   . exact gL rfl
 |_=>first |rfl |exact Bool.noConfusion (show false=true from hs)
theorem zg{x:Str}{pn dw:Pos}{ix:Expr}{xi:Ex}{X:Cx}(h:Cm P c ix xi):∀v,assign (.Subscript (.Name x pn) ix dw) X.env v=(do
   let ov <- holding [v] (eval (.Name x pn) X.env)
   let iv <- holding [v,ov] (eval ix X.env)
   standAt dw
   holding [v,ov,iv] (setItem ov iv v)
   release [v,ov,iv] []):=by
 have hs:=h.Az;cases ix <;> first |exact λ_=>rfl |exact Bool.noConfusion (show false=true from hs)
theorem Vk{es:List Expr}{k0:Nat}{pt:Pos}{e:Expr}{x:Ex}{env:Env}(h:Cm P c e x)(hn:∀vs k p,e≠.Tuple vs k p):swappedStores [.Tuple es k0 pt] e env=pure none:=by have hs:=h.Az;cases e <;> first |rfl |exact absurd rfl (hn _ _ _) |exact Bool.noConfusion (show false=true from hs)
theorem wW{α β:Type}{f:α->Option β}:∀{l:List α}{a:α},a∈l->f a=none->(l.filterMap f).length<l.length
 |b::l,a,h,e=>by
  have hle:=List.length_filterMap_le f l;rcases eA.mp h with rfl |h
  . rw[List.filterMap_cons_none e,l4];exact Nat.lt_succ_of_le hle
  .
   have:=wW h e;rw[l4,tJ];split
   . exact Nat.lt_succ_of_le hle
   . rw[l4];exact Nat.succ_lt_succ this
theorem Vl{es:List Expr}{k0:Nat}{pt:Pos}{e:Expr}(ct:aW P k X c)(h:Nz c es e=true):swappedStores [.Tuple es k0 pt] e X.env=pure none:=by
 obtain⟨h1,h2⟩:=aj h;obtain⟨h3,h4⟩:=aj h2;obtain⟨a,ha,h5⟩:=List.any_eq_true.mp h4;unfold Zb at h5;split at h5
 .
  rename_i x ex;obtain⟨px,rfl⟩:∃p,a=.Name x p:=by cases a <;> first | (cases ex;exact⟨_,rfl⟩) |cases ex
  have hx:X.env.kindOf x=some .cell:=ct.cel h3 x (mB h5);obtain⟨vs,k2,J3,rfl⟩:∃vs k p,e=.Tuple vs k p:=by cases e <;> first |exact⟨_,_,_,rfl⟩ |cases h1
  show (if _ then _ else _:Sem (Option (List Str)))=_
  split
  . rfl
  .
   show (if _ then _ else _:Sem (Option (List Str)))=_
   split
   . rfl
   .
    show (if _ then _ else _:Sem (Option (List Str)))=_
    rw[gL];rw[y8];refine .inl ?_;rw[bne_iff_ne];refine i7 (wW ha ?_);simp only[hx];rfl
 . cases h5
theorem Vm{es:List Expr}{k0:Nat}{pt:Pos}{e:Expr}{x:Ex}(ct:aW P k X c)(h:Cm P c e x)(hn:(∀vs k p,e≠.Tuple vs k p)\/Nz c es e=true):swappedStores [.Tuple es k0 pt] e X.env=pure none:=
 hn.elim (Vk h) (Vl ct)
theorem Vn{y:Str}{pn dw:Pos}{ix e:Expr}{x:Ex}{env:Env}(h:Cm P c e x):swappedStores [.Subscript (.Name y pn) ix dw] e env=pure none:=by have hs:=h.Az;cases e <;> first |rfl |exact Bool.noConfusion (show false=true from hs)
theorem Vo{x y:Str}{a b:Expr}{px py pt J3:Pos}{kt k2:Nat}{xa xb:Ex}(ct:aW P k X c)(h:UJ c x y px py a b=true)(ca:Cm P c a xa)(cb:Cm P c b xb):X.env.scope.names.lookup x=some .local/\X.env.scope.names.lookup y=some .local/\
  swappedStores [.Tuple [.Name x px,.Name y py] kt pt] (.Tuple [a,b] k2 J3) X.env=pure (some [x,y]):=by
 unfold UJ at h;simp only[d5]at h;obtain⟨⟨⟨⟨⟨⟨h1,h2⟩,h3⟩,h4⟩,h5⟩,h6⟩,h7⟩:=h;have e1:=ct.Uw x (eq_of_beq h1);have e2:=ct.Uw y (eq_of_beq h2);refine⟨e1,e2,?_⟩;have hb:=ct.bk h7;have sa:=Jc ca;have sb:=Jc cb;have k1:X.env.kindOf x=some .local:=e1;have YJ:X.env.kindOf y=some .local:=e2;have hxy:(y==x)=false:=by
  simp only[AW]at h4;rw[CL]at h4 ⊢
  exact λe=>h4 e.symm
 have h3':py.line=px.line:=eq_of_beq h3;show (if _ then _ else _:Sem (Option (List Str)))=_
 rw[hU (by rw[hb];simp)]
 show (if _ then _ else _:Sem (Option (List Str)))=_
 rw[hU (by show ¬ ((Vj a||(Vj b||false))=true);rw[sa,sb];decide)]
 show (if _ then _ else _:Sem (Option (List Str)))=_
 dsimp only;generalize hq:List.filterMap _ [Expr.Name x px,Expr.Name y py]=ns;have hn:ns=[x,y]:=by rw[<- hq];have l0:(([Expr.Name x px,Expr.Name y py].head?.map (·.pos.line)).getD 0)=px.line:=rfl;simp[tJ,k1,YJ,h3',Expr.pos]
 subst hn;have hd:[x,y].eraseDups.length=2:=by have iC:y≠x:=CL.mp hxy;simp[List.eraseDups_cons,A8,iC]
 rw[hU (by rw[hd];simp)]
 show (if _ then _ else _:Sem (Option (List Str)))=_
 rw[hU (by show ¬ ((foldedForSure 8 a&&(foldedForSure 8 b&&true))=true);rw[Bool.and_true];intro z;rw[z]at h5;exact absurd h5 ⋯)]
 show (if _ then _ else _:Sem (Option (List Str)))=_
 rw[hU (by show ¬ ((constantsAlone 8 a&&(constantsAlone 8 b&&true))=true);rw[Bool.and_true];intro z;rw[z]at h6;exact absurd h6 ⋯)]
theorem pP(hS:iY P rn)(ct:aW P k X c)(iB:c.df=true)(hK:z.K=X.K){s:Stmt}{x:Sm}{g g':G}{f:Fl}(hc:Kl P c s x)(h:aG rn z.bor k x g=some (f,g')):fJ X z s g f g':=by
 obtain⟨mm,n,t,rfl,hk⟩:=hc.N9;clear hc;cases x
 case ret x=>
  have h1:=Cm.mk hk;unfold aG at h;dsimp only at h;split at h
  . rename_i r g1 e1;symm;exact Td (hS.e ct hK h1 e1)
  . symm
 case expr x=>
  have h1:=Cm.mk (aj hk).1;have h2:=Zy (aj hk).2;unfold aG at h;dsimp only at h;split at h
  . rename_i r g1 e1;symm;exact Ly (hS.e ct hK h1 e1) (iP h1 h2 _ _ _)
  . symm
 case set i x=>
  have h1:=dec (aj (aj hk).1).1;have h2:=(aj (aj hk).1).2;have h3:=Cm.mk (aj (aj hk).2).1;have h4:=jG (aj (aj hk).2).2;have nm:=ct.nm h1 h2;have hsw:swapsWith (cE P (mm+1) c x (aD t 0)) (some (.Name (Ev.nm c i) (aD t 1).pos)) t.pos.line X.env=pure false:=DT ct iB h2 h3 h4;unfold aG at h;dsimp only at h;split at h
  . symm
  .
   rename_i hb;split at h
   .
    rename_i l g1 e1;split at h
    . rename_i hl;symm;exact LC nm.nd nm.ix nm.lc (hS.e ct hK h3 e1) hl hsw nm.fn hb
    . symm
   .
    rename_i r g1 _ e1;split at h
    . rename_i d g2 e2;symm;exact Lz nm.nd nm.ix nm.lc (Iw (hS.e ct hK h3 e1) e2) hsw nm.fn hb
    . symm
   . symm
 case setC i x=>
  obtain⟨g1,g2⟩:=aj hk;obtain⟨h2,g4⟩:=aj g2;obtain⟨h3,g6⟩:=aj g4;have h1:=dec g1;clear hk g1 g2 g4;cases x
  case comp n' kk T it co xe=>
   have hl:c.sc.names.lookup (Ev.nm c i)=some .local:=by unfold WY at h2;simp only[d5]at h2;exact eq_of_beq h2.1.1
   have dg:jF c (Ev.nm c i)=true:=by unfold jF;rw[hl]
   have nm:=ct.nm h1 dg;unfold aG at h;dsimp only at h;split at h
   . symm
   .
    rename_i hb;split at h
    .
     rename_i acc g1 e1;split at h
     .
      rename_i hi;symm;obtain⟨rfl,k1,k2,k3,k4,k5,k6,k7,k8⟩:=wV h3
      . obtain⟨items,g1,gE,w1,w2,w3,w4,w5,rfl⟩:=wU hS ct hK k3 k4 k5 k6 k7 k8 e1;exact Ma (iZ ct k1) ct.calm (by rw[ct.N];exact gi k2) w1 w2 w3 w4 w5 nm.nd nm.ix (ct.Uw _ hl) hb hi (by rw[pN ct iB dg,h2]) λww=>k6.folded ww
     . symm
    . symm
  case iN n' kk T1 qw c1 T it co xe=>
   have hl:c.sc.names.lookup (Ev.nm c i)=some .local:=by unfold WY at h2;simp only[d5]at h2;exact eq_of_beq h2.1.1
   have dg:jF c (Ev.nm c i)=true:=by unfold jF;rw[hl]
   have nm:=ct.nm h1 dg;unfold aG at h;dsimp only at h;split at h
   . symm
   .
    rename_i hb;split at h
    .
     rename_i acc g1 e1;split at h
     .
      rename_i hi;symm;obtain⟨rfl,k1,k2,k3,k4,k4',k5,k5',k6,k7,k8,k9,k10⟩:=sr h3
      . obtain⟨items,g1,gE,w1,w2,w3,w4,w5,w6,w7,rfl⟩:=sf hS ct hK k3 k4 k4' k5 k5' k6 k7 k8 k9 k10 e1;exact Ig (iZ ct k1) ct.calm (by rw[ct.N];exact gi k2) w1 w2 w3 w4 w5 w6 w7 nm.nd nm.ix (ct.Uw _ hl) hb hi (by rw[pN ct iB dg,h2]) (λww=>k6.folded ww) λb ww=>k8.folded ww
     . symm
    . symm
  all_goals exact Bool.noConfusion (show false=true from g6)
 case tgt T x=>
  obtain⟨g1,g2⟩:=aj hk;obtain⟨g3,g4⟩:=aj g2;have h2:=Cm.mk (aj g4).1;have h4:=Zy (aj g4).2;clear hk g2;cases T with
  |nm i=>cases g1
  |tp is=>
  have h1:=lP (t:=aD t 1) g3;have h3:(∀vs k p,cE P (mm+1) c x (aD t 0)≠.Tuple vs k p)\/Nz c (wM c (aD t 1) 0 is) (cE P (mm+1) c x (aD t 0))=true:=((y8 _ _).mp g1).imp (λh vs k p q=>by rw[q]at h;symm) id
  unfold aG at h;dsimp only at h;split at h
  . symm
  .
   rename_i hb;split at h
   .
    rename_i d g1 e1;split at h
    .
     rename_i g2 e2;symm;obtain⟨tt,q,kt⟩:=r9 (z:=z) ct hK h1 λi hi hm=>hb (by rw[List.any_eq_true];exact⟨i,hi,sK hm⟩)
     obtain⟨te,qe,ke⟩:=aP hS ct hK h2 e1;have hsw:swapsWithSole [.Tuple (wM c (aD t 1) 0 is) (iz (aD t 1)) (aD t 1).pos] (cE P (mm+1) c x (aD t 0)) t.pos.line X.env=pure false:=iP h2 h4 (some (.Tuple (wM c (aD t 1) 0 is) (iz (aD t 1)) (aD t 1).pos)) t.pos.line X.env;have dg:swappedStores [.Tuple (wM c (aD t 1) 0 is) (iz (aD t 1)) (aD t 1).pos] (cE P (mm+1) c x (aD t 0)) X.env=pure none:=Vm ct h2 h3;refine⟨_,yc qe q hsw dg rfl,λY As M H E s k2=>ke Y As M H _ s λv H1 aL M1 s1 cP R=>?_⟩
     exact kt d g1 _ e2 v Y aL M1 H1 _ s1 R λσ' aB s' _=>k2 σ' aB M1 H1 s' cP
    . symm
   . symm
 case item i xj x=>
  have h1:=(fM (aj hk).1).1;have h2:=(fM (aj hk).1).2.1;have h3:=(fM (aj hk).1).2.2;have h4:=Cm.mk (aj (aj hk).2).1;have h5:=Cm.mk (aj (aj (aj hk).2).2).1;have h6:=Zy (aj (aj (aj hk).2).2).2;obtain⟨hd,bN⟩:=cW h3;unfold aG at h;dsimp only at h;split at h
  .
   rename_i d g1 e1;split at h
   .
    rename_i l0 e2;split at h
    .
     rename_i n g2 e3;split at h
     .
      rename_i l e4;split at h
      . rename_i m e5;symm;have hsw:swapsWithSole [.Subscript (.Name (Ev.nm c i) (kid (aD t 1) 0).pos) (cE P (mm+1) c xj (kid (aD t 1) 1)) (aD t 1).pos] (cE P (mm+1) c x (aD t 0)) t.pos.line X.env=pure false:=iP h5 h6 (some (.Subscript (.Name (Ev.nm c i) (kid (aD t 1) 0).pos) (cE P (mm+1) c xj (kid (aD t 1) 1)) (aD t 1).pos)) t.pos.line X.env;have dg:swappedStores [.Subscript (.Name (Ev.nm c i) (kid (aD t 1) 0).pos) (cE P (mm+1) c xj (kid (aD t 1) 1)) (aD t 1).pos] (cE P (mm+1) c x (aD t 0)) X.env=pure none:=Vn h5;exact LK (by rw[ct.N];exact h1) (ct.vis h2) hd bN (aP hS ct hK h5 e1) e2 (aP hS ct hK h4 e3) e4 e5 (zg h4) hsw dg rfl
      . symm
     . symm
    . symm
   . symm
  . symm
 case par i j a b=>
  have h1:=(dec (aj hk).1).1;have h2:=(dec (aj hk).1).2.1;have h3:=(dec (aj hk).1).2.2;have h4:=(aj (aj hk).2).1;have h5:=Cm.mk (aj (aj (aj hk).2).2).1;have h6:=Cm.mk (aj (aj (aj hk).2).2).2;unfold aG at h;dsimp only at h;split at h
  . symm
  .
   rename_i hbi;split at h
   . symm
   .
    rename_i hbj;split at h
    . rename_i d1 d2 g1 e1;symm;obtain⟨w1,w2,w3⟩:=Vo (k2:=iz (aD t 0)) (kt:=iz (aD t 1)) (pt:=(aD t 1).pos) (J3:=(aD t 0).pos) ct h4 h5 h6;exact T8 ct.calm (ct.N▸ct.nd) (by rw[ct.N];exact h1) (by rw[ct.N];exact h2) h3 w1 w2 (gj hS ct hK (.cons h5 (.cons h6 .nil)) e1) hbi hbj w3 rfl
    . symm
 case items2 i x j y e=>
  obtain⟨g1,g2⟩:=aj hk;obtain⟨g3,g4⟩:=aj g2;have h1:=(fM (aj g1).1).1;have h2:=(fM (aj g1).1).2.1;have h3:=(fM (aj g1).1).2.2;have h4:=(fM (aj g1).2).1;have h5:=(fM (aj g1).2).2.1;have h6:=(fM (aj g1).2).2.2;have h7:=Cm.mk (aj g3).1;have h8:=Cm.mk (aj g3).2;have h9:=Cm.mk (aj g4).1;have h10:=Zy (aj g4).2;obtain⟨hd,bN⟩:=cW h3;obtain⟨hd2,T9⟩:=cW h6;unfold aG at h;dsimp only at h;split at h
  .
   rename_i d1 d2 g1 e1;split at h
   .
    rename_i l0 e2;split at h
    .
     rename_i n1 g2 e3;split at h
     .
      rename_i l e4;split at h
      .
       rename_i m1 e5;split at h
       .
        rename_i l1 e6;split at h
        .
         rename_i n2 g3 e7;split at h
         .
          rename_i l2 e8;split at h
          . rename_i m2 e9;symm;have hsw:swapsWithSole [.Tuple [.Subscript (.Name (Ev.nm c i) (kid (kid (aD t 1) 0) 0).pos) (cE P (mm+1) c x (kid (kid (aD t 1) 0) 1)) (kid (aD t 1) 0).pos,.Subscript (.Name (Ev.nm c j) (kid (kid (aD t 1) 1) 0).pos) (cE P (mm+1) c y (kid (kid (aD t 1) 1) 1)) (kid (aD t 1) 1).pos] (iz (aD t 1)) (aD t 1).pos] (cE P (mm+1) c e (aD t 0)) t.pos.line X.env=pure false:=iP h9 h10 (some (.Tuple [.Subscript (.Name (Ev.nm c i) (kid (kid (aD t 1) 0) 0).pos) (cE P (mm+1) c x (kid (kid (aD t 1) 0) 1)) (kid (aD t 1) 0).pos,.Subscript (.Name (Ev.nm c j) (kid (kid (aD t 1) 1) 0).pos) (cE P (mm+1) c y (kid (kid (aD t 1) 1) 1)) (kid (aD t 1) 1).pos] (iz (aD t 1)) (aD t 1).pos)) t.pos.line X.env;exact Dp ct.calm hK (by rw[ct.N];exact h1) (ct.vis h2) hd bN (by rw[ct.N];exact h4) (ct.vis h5) hd2 T9 (aP hS ct hK h9 e1) e2 (aP hS ct hK h7 e3) e4 e5 e6 (aP hS ct hK h8 e7) e8 e9 (zg h7) (zg h8) hsw (Jd h9)
          . symm
         . symm
        . symm
       . symm
      . symm
     . symm
    . symm
   . symm
  . symm
 case ite e a b=>
  have h1:=Cm.mk (aj hk).1;have h2:=vg.mk (aj (aj hk).2).1;have h3:=vg.mk (aj (aj hk).2).2;unfold aG at h;dsimp only at h;split at h
  . rename_i g1 e1;exact Qh (hS.t ct hK h1 e1) (by rw[gL rfl];exact hS.b ct iB hK h2 h)
  . rename_i g1 e1;exact Qh (hS.t ct hK h1 e1) (by rw[hU kS];exact hS.b ct iB hK h3 h)
  . symm
 case loop T it b=>
  have h1:=lP (t:=aD t 0) (aj hk).1;have h2:=pI (R:=Cm P c) .mk (aj (aj hk).2).1;have h3:=vg.mk (aj (aj hk).2).2;unfold aG at h;dsimp only at h;split at h
  . symm
  .
   rename_i hb;split at h
   . rename_i items g1 e1;exact Tr (Bd ct) ct.calm (pJ hS ct hK (wR h1) h2 e1) (r9 ct hK h1 λi hi hm=>hb (by rw[List.any_eq_true];exact⟨i,hi,sK hm⟩)) (pM (λe=>hS.b ct iB hK h3 e) h) λy=>h2.folded y
   . symm
 case «while» e b=>have h1:=Cm.mk (aj hk).1;have h2:=vg.mk (aj hk).2;exact GZ (Bd ct) (zc (λe=>hS.t ct hK h1 e) (λe=>hS.b ct iB hK h2 e) h)
 case raise i x=>symm
 case stuck=>symm
 all_goals exact Bool.noConfusion (show false=true from hk)
theorem zh(hS:iY P rn)(ct:aW P k X c)(iB:c.df=true)(hK:z.K=X.K){ss:List Stmt}{x:Sm}{g g':G}{f:Fl}(h:CmG P (Cm P c) (Kl P c) c ss x)(e:aG rn z.bor k x g=some (f,g')):qL X z ss g f g':=by
 cases h with
theorem pQ(hS:iY P rn)(ct:aW P k X c)(iB:c.df=true)(hK:z.K=X.K):∀{jR:List Stmt}{xs:List Sm}{g g':G}{f:Fl},vg P c jR xs->fD rn z.bor k xs g=some (f,g')->eu X z jR g f g'
 |_,_,_,_,_,.nil,h=>by symm;exact S0
 |_,_,_,_,f,.grp h1 h2,h=>by
  unfold fD at h;split at h
  . rename_i g1 e1;exact (zh hS ct iB hK h1 e1).bk (pQ hS ct iB hK h2 h)
  . rename_i hn e1;symm;exact (zh hS ct iB hK h1 e1).end λe=>hn e
  . symm
 |_,_,_,_,f,.cons h1 h2,h=>by
  unfold fD at h;split at h
  . rename_i g1 e1;exact Lx (pP hS ct iB hK h1 e1) (pQ hS ct iB hK h2 h)
  .
   rename_i hn e1;symm;have q:=pP hS ct iB hK h1 e1;cases f with
   |nx=>exact absurd rfl hn
   |rt r=>exact S8 q
   |bk=>exact S9 q
   |ct=>exact Tc q
  . symm
end
theorem Oi{P:Pg}{k:Nat}{prog:Program}{w:World}{K:Frag}{mg:Str->Option Value}{base:Heap}{N ps:List Str}{qual:Str}{scope:Scope}{f:Addr}{bD:Value}{A:Around}{outer:List Env}{s:Shared}{H:Hp}{E:XK}
  (S:bV N ps scope) (md:uq P K mg) (bN:PySem.W.codeIn K bD qual=true) (hr:bS k (A.deeper (envOfC qual scope s⁻¹ f bD))):Km P k (fF (Fd prog w) prog w K mg base N qual scope f bD A outer s H E) ⟨N,scope,true,qual⟩:=by
 refine⟨⟨rfl,S.nd,λx e=>e,λx e=>e,λx e=>e,λ_ x e=>e,λx _=>rfl,λ_=>?_,rfl,rfl,md,hr,λe h=>⟨by have e:qual = "law" :=e;subst e;rfl,md.lam h _ (by have e:qual = "law" :=e;exact e▸bN)⟩⟩,rfl,PassesOwn.leaving⟩
 show (if scope.kind.isAnnotationScope then ScopeKind.function else scope.kind)=.function
 rw[S.kind];rfl
section
theorem pR(hS:iY P rn)(hX:pK P rn)(cx:Km P k X c)(hK:z.K=X.K)(hC:iO P X.mg ci C):∀{es:List Expr}{xs:List Ex}{g g':G},Ay P c es xs->xArgs rn z.bor k xs g=some (ci,g')->YB X z es g C g'
 |_,_,_,_,.nil,h=>by symm
 |_,_,_,_,.cons h1 h2,h=>by
  unfold xArgs at h;split at h
  . rename_i e1;symm;exact Mq (hX.x cx hK hC h1 e1) (h1.star _)
  .
   split at h
   . rename_i r g1 e1;exact Mr (hS.e (X:=X.kZ) cx.ct hK h1 e1).lift (pR hS hX cx hK hC h2 h) (h1.star _)
   . symm
theorem xTwo(hS:iY P rn)(hX:pK P rn)(cx:Km P k X c)(hK:z.K=X.K)(hC:iO P X.mg ci C){a b:Expr}{xa xb:Ex}{g g':G}(ha:Cm P c a xa)(hb:Cm P c b xb)(h:xArgs rn z.bor k [xa,xb] g=some (ci,g')):u9 X z a g C g'\/∃r g1,aA X z a g r g1/\u9 X z b g1 C g':=by
 unfold xArgs at h;split at h
 . rename_i e1;symm;exact .inl (hX.x cx hK hC ha e1)
 .
  split at h
  .
   rename_i r g1 e1;unfold xArgs at h;split at h
   . rename_i e2;symm;exact .inr ⟨r,g1,(hS.e (X:=X.kZ) cx.ct hK ha e1).lift,hX.x cx hK hC hb e2⟩
   .
    split at h
    . symm
    . symm
  . symm
theorem Je(hS:iY P rn)(hX:pK P rn){fns:List Fx}(hF:jv P fns)(cx:Km P k X c)(hK:z.K=X.K)(hC:iO P X.mg ci C){e:Expr}{x:Ex}{g g':G}(hc:Cm P c e x)(h:wD rn z.bor k fns x g=some (ci,g')):u9 X z e g C g':=by
 have ct:=cx.ct;obtain⟨n,t,rfl,hk⟩:=hc.N9;clear hc;cases x
 case cmp op a b=>
  have h1:=Cm.mk (aj hk).1;have h2:=Cm.mk (aj (aj hk).2).1;have h3:=jG (aj (aj hk).2).2;rcases xTwo hS hX cx hK hC h1 h2 h with q |⟨r,g1,q1,q2⟩
  . exact Ml q h3
  . exact Mm q1 q2 h3
 case call i xs=>
  obtain⟨k1,k2⟩:=aj hk;obtain⟨k3,k4⟩:=aj k2;obtain⟨fi,h1,h2⟩:=ux k1;cases xs with
  |nil=>cases (aj k4).2
  |cons x xs=>
  have h3:=dec k3;have h4:=cX (R:=Cm P c) .mk (aj k4).1;show u9 X z (.Call (.Name (wL P i) (kid t 0).pos) (jq (cE P n c) t 1 (x::xs)) [] t.pos) g C g';rw[<- h2]at h3 ⊢
  have dg:=(Cm.mk (aj (aj k4).1).1).star (env:=X.env) (jq (cE P n c) t 2 xs);have g8:=(cX (R:=Cm P c) .mk (aj (aj k4).1).2).plain (env:=X.env) (pos:=t.pos);obtain⟨fa,fd,hm,W5,Vh,hB,jQ⟩:=ct.md.fn _ fi h1;unfold wD at h;dsimp only at h;split at h
  .
   rename_i r e1;symm;cases k with
   |zero=>
    have F:ji X.prog X.w X.K X.mg X.base uX (0+1) fa fd fi.ps (LQ X.K fi.N fi.ps.length λ_ _ _ _=>False):=Ad W5 Vh λ_ _ _ _ _ _ _ _ _ _ _ _ _ h=>h.elim
    obtain⟨tt,q,kk⟩:=pR hS hX cx hK hC h4 e1;refine⟨_,?_,λY As M H Q s ac=>kk Y As M H (λ_ _=>False) s ac⟩
    intro ah s Y H Q I ht;refine wP (gK I (ct.kQ _ h3) hm ?_ jQ);exact BA (h₀:=X.base) I.ok.mod.Fq W5.kp (bK (q t.pos ah s Y H _ I ht) λus s1 ⟨_,_,_,_,h⟩=>h.elim) dg g8
   |succ k'=>
    have F:ji X.prog X.w X.K X.mg X.base uX (k'+1) fa fd fi.ps (LQ X.K fi.N fi.ps.length λ_ _ _ _=>False):=Ad W5 Vh λ_ _ _ _ _ _ _ _ _ _ _ _ _ h=>h.elim
    exact G8 F (pR hS hX cx hK hC h4 e1) ct.room (ct.kQ _ h3) hm W5.kp hB jQ dg g8
  .
   cases uV:fns[i]? with
   |none=>rw[uV]at h;symm
   |some fx=>
    rw[uV]at h;cases k with
    |zero=>symm
    |succ k'=>
     dsimp only at h;split at h
     .
      rename_i rs g1 e1;have Vp:=hF _ _ _ h1 uV;have F:ji X.prog X.w X.K X.mg X.base (Fd X.prog X.w) (k'+1) fa fd fi.ps (SpX X.K fi.N fi.ps.length λbor g C g'=>∃ci,iO P X.mg ci C/\rn.xb bor k' fx.body g=some (ci,g')):=by
       refine T3 W5 Vh λbD A outer s H E bN hr z' g C g' WR ⟨ci,hci,hrun⟩=>?_
       exact hX.b (Oi Vh ct.md bN hr) rfl WR hci Vp.body hrun
      unfold pq at h;split at h
      .
       rename_i hl;split at h
       . symm
       .
        rename_i gs e2;split at h
        .
         rename_i ci' gc e3;split at h
         .
          rename_i gO e4;symm;have ha:=kF hS (X:=X.kZ) ct hK h4 e1;have ha':cQ X z (cE P n c x (kid t 1)::jq (cE P n c) t 2 xs) g rs g1:=by
           obtain⟨t,q,kk⟩:=ha;refine⟨t,λpos ah s Y H Q I hw=>?_,kk⟩
           exact lL (q pos ah s Y H Q (I.wish _) hw) (λ_ _ ⟨v,H',I',r,q⟩=>⟨v,H',I'.cR,r,q⟩) λ_ _ z=>False.elim z
          exact Mv F hK cx.ex ct.room (ct.kQ _ h3) hm W5.kp hB ha' (by rw[hl.1,Vp.np]) e2 hl.2 ⟨ci,hC,by rw[<- Vp.n];exact e3⟩ e4 jQ dg g8
         . symm
        . symm
      . symm
     . symm
 all_goals symm
theorem DW(hX:pK P rn)(cx:Km P k X c)(hK:z.K=X.K)(hC:iO P X.mg ci C){e:Expr}{x:Ex}{g g':G}(hc:Cm P c e x)(h:lO rn z.bor k x g=some (ci,g')):WD X z e g C g':=by
 obtain⟨n,t,e,hk⟩:=hc.N9;cases x
 case not a=>subst e;exact Mp (hX.t cx hK hC (.mk (P:=P) (n:=n) hk) h)
 case call i l=>exact TV (hX.x cx hK hC hc h) (by rw[e];exact λ_=>rfl)
 all_goals symm
theorem fJ.lift{st:Stmt}{g g':G}{f:Fl}(h:fJ X.kZ z st g f g'):fJ X z st g f g':=by
 obtain⟨t,q,k⟩:=h;refine⟨t,λah s Y H D I hw=>?_,k⟩
 exact lL (q ah s Y H D (I.wish _) hw) (λ_ _ q=>q.cR) λ_ _ z=>False.elim z
theorem DX(hS:iY P rn)(hX:pK P rn)(cx:Km P k X c)(iB:c.df=true)(hK:z.K=X.K)(hC:iO P X.mg ci C){s:Stmt}{x:Sm}{g g':G}(hc:Kl P c s x)(h:gW rn z.bor k x g=some (ci,g')):TQ X z s g C g':=by
 have ct:=cx.ct;obtain⟨mm,n,t,rfl,hk⟩:=hc.N9;clear hc;cases x
 case ret x=>exact TX (hX.x cx hK hC (.mk hk) h)
 case expr x=>have h1:=Cm.mk (aj hk).1;have h2:=Zy (aj hk).2;exact Ms (hX.x cx hK hC h1 h) (iP h1 h2 _ _ _)
 case ite e a b=>
  have h1:=Cm.mk (aj hk).1;have h2:=vg.mk (aj (aj hk).2).1;have h3:=vg.mk (aj (aj hk).2).2;unfold gW at h;dsimp only at h;split at h
  . rename_i e1;symm;exact TY (hX.t cx hK hC h1 e1)
  .
   split at h
   . rename_i g1 e1;exact G6 (v:=true) (hS.t (X:=X.kZ) ct hK h1 e1).lift (by rw[gL rfl];exact hX.b cx iB hK hC h2 h)
   . rename_i g1 e1;exact G6 (v:=false) (hS.t (X:=X.kZ) ct hK h1 e1).lift (by rw[hU kS];exact hX.b cx iB hK hC h3 h)
   . symm
 case raise i x=>
  have h1:=dec (aj hk).1;have h2:=dec (aj (aj hk).2).1;have h3:=Cm.mk (aj (aj hk).2).2;unfold gW at h;dsimp only at h;split at h
  .
   rename_i d g1 e1;symm;obtain⟨y,q1,q2⟩:=hC;rw[h1]at q1;cases q1;obtain⟨jQ,C',q3,q4⟩:=ct.md.cls _ (l8 h1);have e:C'=C:=by have:=q3.symm.trans q2;cases this;rfl
   subst e;exact G7 ct.calm cx.ex q4 (ct.kQ _ h2) q2 jQ (cT (aP hS (X:=X.kZ) ct hK h3 e1).lift fH (h3.star _)) (h3.star _)
  . symm
 all_goals symm
theorem lQ(hS:iY P rn)(hX:pK P rn)(cx:Km P k X c)(iB:c.df=true)(hK:z.K=X.K)(hC:iO P X.mg ci C):∀{jR:List Stmt}{xs:List Sm}{g g':G},vg P c jR xs->eZ rn z.bor k xs g=some (ci,g')->Mk X z jR g C g'
 |_,_,_,_,.nil,h=>by symm
 |_,_,_,_,.grp h1 h2,h=>by
  unfold eZ at h;split at h
  . rename_i e1;cases h1 <;> cases e1
  .
   split at h
   . rename_i g1 e1;exact ((zh (X:=X.kZ) hS cx.ct iB hK h1 e1).lift).ra (lQ hS hX cx iB hK hC h2 h)
   . symm
 |_,_,_,_,.cons h1 h2,h=>by
  unfold eZ at h;split at h
  . rename_i e1;symm;exact Mt (DX hS hX cx iB hK hC h1 e1)
  .
   split at h
   . rename_i g1 e1;exact Mu (pP (X:=X.kZ) hS cx.ct iB hK h1 e1).lift (lQ hS hX cx iB hK hC h2 h)
   . symm
end
theorem wX{P:Pg}{fns:List Fx}(hF:jv P fns):∀n,iY P (run fns n)/\pK P (run fns n)
 | 0=>⟨⟨λ_ _ _ h=>(by symm),λ_ _ _ h=>(by symm),λ_ _ _ _ h=>(by symm)⟩,⟨λ_ _ _ _ h=>(by symm),λ_ _ _ _ h=>(by symm),λ_ _ _ _ _ h=>(by symm)⟩⟩
 |n+1=>
  let ⟨a,b⟩:=wX hF n
  ⟨⟨λct hK hc h=>Ja a b hF ct hK hc h,λct hK hc h=>Jb a ct hK hc h,λct iB hK hc h=>pQ a ct iB hK hc h⟩,
  ⟨λcx hK hC hc h=>Je a b hF cx hK hC hc h,λcx hK hC hc h=>DW b cx hK hC hc h,λcx iB hK hC hc h=>lQ a b cx iB hK hC hc h⟩⟩
theorem Oj{P:Pg}{fns:List Fx}(hF:jv P fns)(n:Nat):iY P (run fns n):=(wX hF n).1
def bJ(K:Frag)(mg:Str->Option Value)(fi:Fi):Prop:=
 ∃f fd,mg fi.name=some (.ref f)/\K3 K fi.name fi.qual fi.st f fd/\bV fi.N fi.ps (aF fi.st)/\(∀us:List Value,us.length=fi.ps.length->bindArgs fd ⟨us,[]⟩=pure (fi.ps.zip us))/\(fi.name==(~~~3))=false
def Vq(K:Frag)(mg:Str->Option Value)(p:Str×D):Prop:=(p.1==(~~~3))=false/\∃v u,mg p.1=some u/\RelV v u/\∀M H,Rep K M H p.2 v
inductive All{α:Type}(p:α->Prop):List α->Prop
 |nil:All p []
 |cons {a:α}{l:List α}:p a->All p l->All p (a::l)
theorem All.mem{α:Type}{p:α->Prop}:∀{l:List α},All p l->∀a∈l,p a
 |_,.nil,_,h=>nomatch h
 |_,.cons h t,a,hm=>(eA.mp hm).elim (λe=>e▸h) (All.mem t a)
structure Vr(P:Pg)(K:Frag)(mg:Str->Option Value):Prop where
 lam:P.lam=true->∀bD,PySem.W.codeIn K bD "law"=true->Im K mg bD
 nj:∀(i:Nat) (C:Addr),P.nj[i]?=some C->∃x,P.cls[i]?=some x/\mg x=some (.ref C)/\eV K C/\EY K C
 kt:P.lam=true->(P.kt==(~~~3))=false/\∃D,mg P.kt=some (.ref D)/\eV K D/\∀C∈P.nj,qK K C D=true
 ups:∀(x:Str) (l:List (Addr×Bool)),(x,l)∈P.ups->(x==(~~~3))=false/\∃cv,((mg x=some cv/\∃D,cv=.ref D)\/(x∈P.bn/\x≠ "__name__" /\bootBuiltins x=some cv/\∃n,cv=.type n))/\PySem.W.kitOne K (.type "NoneType") cv=some false/\∀C b,l.lookup C=some b->PySem.W.kitOne K (.ref C) cv=some b
theorem ZK{P:Pg}{K:Frag}{mg:Str->Option Value}(h1:All (bJ K mg) P.fn)(h2:All (Vq K mg) P.ct)(h3:All (λx=>mg x=none) P.bn)(h4:All (λx=>(x==(~~~3))=false/\∃C,mg x=some (.ref C)/\eV K C) P.cls)(h5:Vr P K mg):uq P K mg:=
 ⟨λi fi e=>let ⟨f,fd,q1,q2,q3,q4,q5⟩:=h1.mem fi (l8 e);⟨f,fd,q1,q2,q3,.all q4,q5⟩,λx d h=>h2.mem (x,d) h,λx h=>h3.mem x h,λx h=>h4.mem x h,h5.lam,h5.nj,h5.kt,h5.ups⟩
def BdOk(fi:Fi):Prop:=∀(kV doc pm:Value) (an:Option Addr) (bD ct:Value) (us:List Value),us.length=fi.ps.length->bindArgs (PySem.W.fnOf fi.name fi.qual (iT fi.st) (bA fi.st) (aF fi.st) .none kV doc pm an bD ct) ⟨us,[]⟩=pure (fi.ps.zip us)
section
variable{K:Frag}
theorem ZL{fi:Fi}{oc:Value}{od an:Option Addr}{osl:Array (Option Value)}{kV doc pm bD ct:Value}(X:K.In h)(G:h.Ns mainGlobals mg)(a:PySem.W.nsIn K mainGlobals fi.name=some (some (.ref f)))
  (l:K.lookup f=some ⟨oc,od,.func (PySem.W.fnOf fi.name fi.qual (iT fi.st) (bA fi.st) (aF fi.st) .none kV doc pm an bD ct),osl⟩) (c:PySem.W.codeIn K bD fi.qual=true) (k:PySem.W.keepIn K (.ref f)=true)
  (sc:bV fi.N fi.ps (aF fi.st)) (hb:BdOk fi)
  (hd:(fi.name==(~~~3))=false):bJ K mg fi:=
 let F:=RC (x:=fi.name) (qual:=fi.qual) (st:=fi.st) l c k
 ⟨f,_,CH X G a,F,sc,hb kV doc pm an bD ct,hd⟩
theorem Vs{x:Str}{i:Int}{t:Tok}(X:K.In h)(G:h.Ns mainGlobals mg)(a:PySem.W.nsIn K mainGlobals x=some (some (.int i t)))(hd:(x==(~~~3))=false):Vq K mg (x,.int i):=
 ⟨hd,.int i,.int i t,CH X G a,⟨t,rfl⟩,λ_ _=>.int i⟩
theorem Jf{x:Str}{C:Addr}(X:K.In h)(G:h.Ns mainGlobals mg)(a:PySem.W.nsIn K mainGlobals x=some (some (.ref C)))(q:eV K C)(hd:(x==(~~~3))=false):(x==(~~~3))=false/\∃C,mg x=some (.ref C)/\eV K C:=
 ⟨hd,C,CH X G a,q⟩
theorem Vt{P:Pg}{fns:List Fx}{prog:Program}{w:World}{base:Heap}(hF:jv P fns)(md:uq P K mg){i:Nat}{fi:Fi}{fx:Fx}{x:Str}{fd:FuncData}{n k:Nat}(ZC:P.fn[i]?=some fi)(uV:fns[i]?=some fx)(hp:fi.ps=[x])(F:K3 K fi.name fi.qual fi.st f fd)(sc:bV fi.N fi.ps (aF fi.st)) :
  ji prog w K mg base uX (k+1) f fd [x] (LQ K fi.N 1 λbor g r g'=>(run fns n).b bor k fx.body g=some (.rt r,g')):=by
 have:=Ad (P:=prog) (w:=w) (mg:=mg) (base:=base) (k:=k) (N:=fi.N) (ps:=fi.ps) (run:=λbor g r g'=>(run fns n).b bor k fx.body g=some (.rt r,g')) F sc λbD A outer s H E bN hr z g r g' hK hrun=>
  ⟨_,(Oj hF n).b (pL sc md bN hr) rfl hK (hF i fi fx ZC uV).body hrun,.inl rfl⟩
 rw[hp]at this;exact this
theorem Jg{P:Pg}{fns:List Fx}{prog:Program}{w:World}(hF:jv P fns)(md:uq P K mg){i:Nat}{fi:Fi}{fx:Fx}{x:Str}{n k:Nat}(ZC:P.fn[i]?=some fi)(uV:fns[i]?=some fx)(hp:fi.ps=[x])(h:bJ K mg fi)(hm:mg fi.name=some (.ref f)) :
  ∃fd:FuncData,(∀(s:Shared) (u:Value),BindsTo s fd ⟨[u],[]⟩ [(x,u)])/\∀base:Heap,K.In base->base.Ns mainGlobals mg->ji prog w K mg base uX (k+1) f fd [x] (LQ K fi.N 1 λbor g r g'=>(run fns n).b bor k fx.body g=some (.rt r,g')):=by
 obtain⟨f',fd,q1,q2,q3,q4,q5⟩:=h;rw[hm]at q1;cases q1;refine⟨fd,λs u=>.of_eq ?_,λbase _ _=>Vt hF md ZC uV hp q2 q3⟩
 have:=q4 [u] (by rw[hp];rfl)
 rw[hp]at this;exact this
theorem Vu{N:List Str}{run:List Nat->G->R->G->Prop}(hev:∀ns:List Int,ns.length<=63->∃g',run [] (cU N.length [.dat (.fix (ns.map .int))]) (.dat (.bl true)) g')(K:Frag)(H:Hp)(a:Addr)(ns: ~~~0)(hl:ns.length<=63)(hO:Al ((cI K).map (·.1)) H)(hS:cz K H a (ns.map V.int)) :
  LQ K N 1 run [.ref a] H (λv _=>v=.bl true) λ_ _ _=>False:=by
 obtain⟨g',hg⟩:=hev ns hl;have fx:oA K ((cI K).map (·.1)) H a (ns.map V.int):=by
  rcases hS with h |h
  .
   rcases hO a with ⟨_,z⟩ |⟨na,z⟩
   . rcases h with h |⟨o,h⟩ <;> (rw[z]at h;symm)
   .
    refine .inl ⟨na,?_⟩;rcases h with h |h
    .
     rcases z with z |⟨o,xs,z⟩
     . rw[z]at h;symm
     . rw[z]at h;symm
    . exact h
  . exact .inr (.inr h)
 have rr:∀ns:List Int,aH K ((cI K).map (·.1)) H (ns.map D.int) (ns.map V.int):=λns=>by
  induction ns with
  |nil=>exact .nil
  |cons n ns ih=>exact .cons (.int n) ih
 have tb:∀p∈cI K,H p.1=some (.kW #[]):=λp hp=>by
  rcases hO p.1 with ⟨_,z⟩ |⟨z,_⟩
  . exact z
  . exact absurd (gN.mpr ⟨p,hp,rfl⟩) z
 refine⟨rfl,⟨K,H,(cI K).map (·.1),[],cI K⟩,cU N.length [.dat (.fix (ns.map .int))],g',[],(cI K).map (·.1),.dat (.bl true),rfl,?_,hg,λv σ' aB M' H' s' st R=>fU R⟩
 refine⟨?_,t7,(λa ha=>nomatch ha),λi b l e1 e2=>?_,(λm hm=>.inr hm),(λb o e _ _=>e),(λm hm=>hm),(λm hm=>?_),(λb hb=>nomatch hb),(λp hp=>nomatch hp),(λp hp=>⟨#[],tb p hp,trivial,λpos cv e=>nomatch e⟩),(λp hp=>gN.mpr ⟨p,hp,rfl⟩),rfl⟩
 . exact Slots.append (A1:=[]) (.dat (.fix fx (rr ns)) .nil) (Slots.nos _)
 .
  exfalso;unfold cU at e1;cases i with
  |zero=>simp at e1
  |succ i=>rw[fR ⋯]at e1;have:=l8 e1;rw[wS]at this;exact absurd this.2 ⋯
 . obtain⟨p,hp,rfl⟩:=gN.mp hm;intro z;have z:H p.1=none:=z;rw[tb p hp]at z;cases z
end
noncomputable abbrev Fi.ct(fi:Fi):Ct:=⟨fi.N,aF fi.st,true,fi.qual⟩
def Be(P:Pg)(fi:Fi)(fx:Fx):List Stmt:=qO (Vd P 99 (Qu P 99 20 fi.ct) fi.ct) (Qu P 99 20 fi.ct) fx.body (bA fi.st)
def fxB(P:Pg)(fi:Fi)(fx:Fx):Bool:=decide (fx.np=fi.ps.length)&&(decide (fx.n=fi.N.length)&&Kh (Ve P 99 (Qv P 99 20 fi.ct) fi.ct) (Qv P 99 20 fi.ct) fx.body (bA fi.st))
theorem Vv{P:Pg}{fi:Fi}{fx:Fx}(e:Be P fi fx=bA fi.st)(h:fxB P fi fx=true):Oc P fi fx:=⟨dec (aj h).1,dec (aj (aj h).2).1,Eq.mp (congrArg (λl=>vg P fi.ct l fx.body) e) (vg.mk (aj (aj h).2).2)⟩
def Jh(P:Pg):List Fi->List Fx->Bool
 |fi::l,fx::r=>fxB P fi fx&&Jh P l r
 |_,_=>true
theorem Ol{P:Pg}{l:List Fi}{r:List Fx}(e:List.zipWith (Be P) l r=l.map λfi=>bA fi.st)(h:Jh P l r=true)(f:Nat)(fi:Fi)(fx:Fx)(h1:l[f]?=some fi)(h2:r[f]?=some fx):Oc P fi fx:=by
 induction l generalizing r f with
 |nil=>cases h1
 |cons a l ih=>cases r with
  |nil=>cases h2
  |cons b r=>
   have h:(fxB P a b&&Jh P l r)=true:=h;cases f with
   |zero=>cases h1;cases h2;exact Vv (List.cons.inj e).1 (aj h).1
   |succ f=>exact ih (List.cons.inj e).2 (aj h).2 f h1 h2
theorem Vw{P:Pg}{fns:List Fx}(h:Jh P P.fn fns=true)(e:List.zipWith (Be P) P.fn fns=P.fn.map λfi=>bA fi.st):jv P fns:=λf fi fx h1 h2=>Ol e h f fi fx h1 h2
theorem ZM{us:List Value}(h:us.length=1):∃a,us=[a]:=by
 cases us with
 |nil=>symm
 |cons a us=>cases us with
  |nil=>exact⟨a,rfl⟩
  |cons _ _=>symm
theorem ZN{us:List Value}(h:us.length=2):∃a b,us=[a,b]:=by
 cases us with
 |nil=>symm
 |cons a us=>obtain⟨b,rfl⟩:=ZM (B8 h);exact⟨a,b,rfl⟩
theorem len3{us:List Value}(h:us.length=3):∃a b c,us=[a,b,c]:=by
 cases us with
 |nil=>symm
 |cons a us=>obtain⟨b,c,rfl⟩:=ZN (B8 h);exact⟨a,b,c,rfl⟩
def bU(st:Stmt):Fi:=match st with
 |.FunctionDef name args _ _ _ _ scope _ _ _=>⟨name,name,st,(args.args.map (·.arg))++scope.names.filterMap (λy=>if (y.2==.local||y.2==.cell)&&!(args.args.map (·.arg)).contains y.1 then some y.1 else none),args.args.map (·.arg)⟩
 |st=>⟨"", "",st,[],[]⟩
section
theorem wY(ds:List D):∀i,vars i (ds.map R.dat)=[]:=by
 induction ds with
 |nil=>intro i;rfl
 |cons d ds ih=>intro i;exact ih (i+1)
theorem wZ(ds:List D):bY (ds.map R.dat) g1=some (ds.map .dat):=by
 induction ds with
 |nil=>rfl
 |cons d ds ih=>
  show (match bY (ds.map R.dat) g1 with |some gs=>some (Slot.dat d::gs) |none=>none)=_
  rw[ih];rfl
noncomputable def Vx:List D->G
 | []=>[]
 |d::l=>.dat d::Vx l
theorem Bf(ds:List D):Vx ds=ds.map .dat:=by
 induction ds with
 |nil=>rfl
 |cons d ds ih=>rw[Vx,ih];rfl
def bL(rn:Rn)(k:Nat)(fx:Fx)(ds:List D):Option R:=match rn.b [] k fx.body (cU fx.n (Vx ds))with
 |some (.rt r,gc)=>d7 [] gc r
 |some (.nx,_)=>some (.dat .non)
 |_=>none
theorem lR{fx:Fx}{ds:List D}(hl:ds.length=fx.np):aM rn fx k (ds.map .dat) g1=(bL rn k fx ds).map λr=>(r,g1):=by
 unfold aM bL;rw[wY,wZ,Bf];simp only[fA,hl,List.map_nil,t7,and_self,An];cases rn.b [] k fx.body (cU fx.n (ds.map .dat))with
 |none=>rfl
 |some p=>
  obtain⟨f,gc⟩:=p;cases f with
  |nx=>rfl
  |rt r=>simp only[back];cases d7 [] gc r <;> rfl
  |bk=>rfl
  |ct=>rfl
noncomputable def gM(g m:G)(acc:List D):G:=g++(m++[.own acc])
theorem lT{g m:G}{acc:List D}{i:Nat}(h:i<g.length):(gM g m acc)[i]?=g[i]?:=by unfold gM;rw[eP h]
theorem dJ{g m:G}{acc:List D}{i:Nat}(h:i<m.length):(gM g m acc)[g.length+i]?=m[i]?:=by unfold gM;rw[fR ⋯,vS,eP h]
theorem jd{g m:G}{acc:List D}:(gM g m acc)[g.length+m.length]?=some (.own acc):=by unfold gM;rw[fR ⋯,vS,fR (eC _),Nat.sub_self];rfl
theorem jI{g m:G}{acc:List D}{i:Nat}{s:Slot}(h:i<m.length):(gM g m acc).set (g.length+i) s=gM g (m.set i s) acc:=by unfold gM;rw[Cc _ _ ⋯,vS,List.set_append_left _ _ h]
theorem iQ{g m:G}{acc acc':List D}:(gM g m acc).set (g.length+m.length) (.own acc')=gM g m acc':=by unfold gM;rw[Cc _ _ ⋯,vS,Cc _ _ (eC _),Nat.sub_self];rfl
theorem uD{g m:G}{acc:List D}:(gM g m acc).take g.length=g:=by unfold gM;simp
theorem Ji{kk:Nat}:gC kk g=gM g (List.replicate kk .no) []:=rfl
theorem uE{α:Type}{T:Tg}{last kk:Nat}{c:Option Ex}{e:Ex}(cH:α->D)(f:α->D)(p:α->Bool)(st:α->G->G)(cN:last=g.length+kk)(dg:∀d m,m.length=kk->(st d m).length=kk) :
  ∀(items:List α) (m:G) (acc:List D),m.length=kk->acc.length+items.length<=lim->
  (∀d∈items,∀m acc,m.length=kk->T.set (cH d) (gM g m acc)=some (gM g (st d m) acc))->
  (∀d∈items,∀m acc,m.length=kk->vf rn bor k c (gM g (st d m) acc)=some (p d,gM g (st d m) acc))->
  (∀d∈items,p d=true->∀m acc,m.length=kk->dI rn bor k e (gM g (st d m) acc)=some (f d,gM g (st d m) acc))->
  ∃m',m'.length=kk/\yR rn bor k T last c e (items.map cH) (gM g m acc)=some (gM g m' (acc++(items.filter p).map f))
 | [],m,acc,hm,_,_,_,_=>⟨m,hm,by simp[yR]⟩
 |d::items,m,acc,hm,hl,hT,hi,he=>by
  rw[l4]at hl;have q1:=hT d dC m acc hm;have q2:=hi d dC m acc hm;have hm':=dg d m hm;rw[List.map_cons];unfold yR;rw[q1];dsimp only;rw[q2];cases hp:p d with
  |false=>
   dsimp only;obtain⟨m',w1,w2⟩:=uE cH f p st cN dg items (st d m) acc hm' ⋯ (λx hx=>hT x (dA _ hx)) (λx hx=>hi x (dA _ hx)) (λx hx=>he x (dA _ hx))
   exact⟨m',w1,by rw[w2,A8,hp];rfl⟩
  |true=>
   have q3:=he d dC hp m acc hm;dsimp only;rw[q3];dsimp only;have q4:(gM g (st d m) acc)[last]?=some (.own acc):=by rw[cN,<- hm'];exact jd
   rw[q4];dsimp only;rw[gL ⋯];have q5:(gM g (st d m) acc).set last (.own (acc++[f d]))=gM g (st d m) (acc++[f d]):=by rw[cN,<- hm'];exact iQ
   rw[q5];obtain⟨m',w1,w2⟩:=uE cH f p st cN dg items (st d m) (acc++[f d]) hm' (by rw[eJ,n0];lia) (λx hx=>hT x (dA _ hx)) (λx hx=>hi x (dA _ hx)) (λx hx=>he x (dA _ hx))
   refine⟨m',w1,?_⟩;rw[w2,A8,hp];simp
theorem su{α:Type}{kk nn:Nat}{T:Tg}{it:Ex}{c:Option Ex}{e:Ex}(items:List α)(cH:α->D)(f:α->D)(p:α->Bool)(st:α->G->G)(hw:dW rn bor k T.gU it g=some (items.map cH,g1))(hn:nn=g1.length)(hb:(T.ix.any λi=>decide (i∈bor))=false)(hl:items.length<=lim)(dg:∀d m,m.length=kk->(st d m).length=kk)
  (hT:∀d∈items,∀m acc,m.length=kk->T.set (cH d) (gM g1 m acc)=some (gM g1 (st d m) acc))
  (hi:∀d∈items,∀m acc,m.length=kk->vf rn bor k c (gM g1 (st d m) acc)=some (p d,gM g1 (st d m) acc))
  (he:∀d∈items,p d=true->∀m acc,m.length=kk->dI rn bor k e (gM g1 (st d m) acc)=some (f d,gM g1 (st d m) acc)) :
  eX rn bor k nn kk T it c e g=some ((items.filter p).map f,g1):=by
 subst hn;obtain⟨m',w1,w2⟩:=uE (rn:=rn) (bor:=bor) (k:=k) (g:=g1) (last:=g1.length+kk) cH f p st rfl dg items (List.replicate kk .no) [] ⋯ (by simpa using hl) hT hi he
 unfold eX;rw[hw];dsimp only;rw[gL ⟨rfl,hb⟩,Ji,w2];dsimp only;have:(gM g1 m' ([]++(items.filter p).map f))[g1.length+kk]?=some (.own ([]++(items.filter p).map f)):=by rw[<- w1];exact jd
 rw[this];dsimp only;rw[uD,y6]
theorem uF{j kk:Nat}{d:D}{m:G}{acc:List D}(hj:g.length<=j)(hk:j - g.length<m.length):(Tg.nm j).set d (gM g m acc)=some (gM g (m.set (j - g.length) (.dat d)) acc):=by
 show some ((gM g m acc).set j (.dat d))=_;have:=jI (g:=g) (acc:=acc) (s:=.dat d) hk;rw[show g.length+(j - g.length)=j by lia]at this
 rw[this]
def zj(g:G)(j:Nat)(d:D)(G':G):Prop:=(∀i,i<g.length->G'[i]?=g[i]?)/\G'[j]?=some (.dat d)
theorem Bg{α:Type}{kk nn j:Nat}{it:Ex}{c:Option Ex}{e:Ex}(items:List α)(cH:α->D)(p:α->Bool)(f:α->D)(hw:dW rn bor k false it g=some (items.map cH,g1))(hn:nn=g1.length)(hj1:g1.length<=j)(hj2:j<g1.length+kk)(hb:j∉bor)(hl:items.length<=lim)
  (hi:∀a∈items,∀G',zj g1 j (cH a) G'->vf rn bor k c G'=some (p a,G')) (he:∀a∈items,p a=true->∀G',zj g1 j (cH a) G'->dI rn bor k e G'=some (f a,G')) :
  eX rn bor k nn kk (.nm j) it c e g=some ((items.filter p).map f,g1):=by
 have sees:∀(a:α) (m:G) (acc:List D),m.length=kk->zj g1 j (cH a) (gM g1 (m.set (j - g1.length) (.dat (cH a))) acc):=λa m acc hm=>by
  refine⟨λi hi=>lT hi,?_⟩
  have:=dJ (g:=g1) (m:=m.set (j - g1.length) (.dat (cH a))) (acc:=acc) (i:=j - g1.length) (by simp;lia)
  rw[show g1.length+(j - g1.length)=j by lia]at this
  rw[this,i8 ⋯]
 refine su (T:=.nm j) items cH f p (λa m=>m.set (j - g1.length) (.dat (cH a))) hw hn (by simp[Tg.ix,hb]) hl (λd m hm=>by simpa using hm) (λa _ m acc hm=>uF (kk:=kk) hj1 ⋯) (λa ha m acc hm=>hi a ha _ (sees a m acc hm)) λa ha hp m acc hm=>he a ha hp _ (sees a m acc hm)
theorem filter_all{α:Type}(l:List α):l.filter (λ_=>true)=l:=List.filter_eq_self.mpr λ_ _=>rfl
theorem sy{α:Type}{kk nn j:Nat}{it:Ex}{e:Ex}(items:List α)(cH:α->D)(f:α->D)(hw:dW rn bor k false it g=some (items.map cH,g1))(hn:nn=g1.length)(hj1:g1.length<=j)(hj2:j<g1.length+kk)(hb:j∉bor)(hl:items.length<=lim)
  (he:∀a∈items,∀G',zj g1 j (cH a) G'->dI rn bor k e G'=some (f a,G')):eX rn bor k nn kk (.nm j) it none e g=some (items.map f,g1):=by
 have:=Bg (c:=none) items cH (λ_=>true) f hw hn hj1 hj2 hb hl (λ_ _ _ _=>rfl) λa ha _ G' hG=>he a ha G' hG
 rw[filter_all]at this;exact this
def kG(g:G)(j1 j2:Nat)(d1 d2:D)(G':G):Prop:=(∀i,i<g.length->G'[i]?=g[i]?)/\G'[j1]?=some (.dat d1)/\G'[j2]?=some (.dat d2)
theorem iN{α:Type}{kk nn j1 j2:Nat}{it:Ex}{c:Option Ex}{e:Ex}(items:List α)(bI cL:α->D)(p:α->Bool)(f:α->D)(hw:dW rn bor k true it g=some (items.map λa=>.tup [bI a,cL a],g1))(hn:nn=g1.length)(hj1:g1.length<=j1)(ZP:j1<g1.length+kk)(hj2:g1.length<=j2)(ZQ:j2<g1.length+kk)(iC:j1≠j2)(hb1:j1∉bor)(hb2:j2∉bor)(hl:items.length<=lim)
  (hi:∀a∈items,∀G',kG g1 j1 j2 (bI a) (cL a) G'->vf rn bor k c G'=some (p a,G')) (he:∀a∈items,p a=true->∀G',kG g1 j1 j2 (bI a) (cL a) G'->dI rn bor k e G'=some (f a,G')) :
  eX rn bor k nn kk (.tp [j1,j2]) it c e g=some ((items.filter p).map f,g1):=by
 have sees:∀(a:α) (m:G) (acc:List D),m.length=kk->kG g1 j1 j2 (bI a) (cL a) (gM g1 ((m.set (j1 - g1.length) (.dat (bI a))).set (j2 - g1.length) (.dat (cL a))) acc):=λa m acc hm=>by
  refine⟨λi hi=>lT hi,?_,?_⟩
  .
   have:=dJ (g:=g1) (m:=(m.set (j1 - g1.length) (.dat (bI a))).set (j2 - g1.length) (.dat (cL a))) (acc:=acc) (i:=j1 - g1.length) (by simp;lia)
   rw[show g1.length+(j1 - g1.length)=j1 by lia]at this
   rw[this,fN ⋯,i8 ⋯]
  .
   have:=dJ (g:=g1) (m:=(m.set (j1 - g1.length) (.dat (bI a))).set (j2 - g1.length) (.dat (cL a))) (acc:=acc) (i:=j2 - g1.length) (by simp;lia)
   rw[show g1.length+(j2 - g1.length)=j2 by lia]at this
   rw[this,i8 (by simp;lia)]
 refine su (T:=.tp [j1,j2]) items (λa=>.tup [bI a,cL a]) f p (λa m=>(m.set (j1 - g1.length) (.dat (bI a))).set (j2 - g1.length) (.dat (cL a))) hw hn (by simp[Tg.ix,hb1,hb2]) hl (λd m hm=>by simpa using hm) (λa _ m acc hm=>?_) (λa ha m acc hm=>hi a ha _ (sees a m acc hm)) λa ha hp m acc hm=>he a ha hp _ (sees a m acc hm)
 have q1:=jI (g:=g1) (m:=m) (acc:=acc) (i:=j1 - g1.length) (s:=.dat (bI a)) ⋯;have q2:=jI (g:=g1) (m:=m.set (j1 - g1.length) (.dat (bI a))) (acc:=acc) (i:=j2 - g1.length) (s:=.dat (cL a)) (by simp;lia)
 rw[show g1.length+(j1 - g1.length)=j1 by lia]at q1
 rw[show g1.length+(j2 - g1.length)=j2 by lia]at q2
 show some (((gM g1 m acc).set j1 (.dat (bI a))).set j2 (.dat (cL a)))=_;rw[q1,q2]
theorem zm{α:Type}{kk nn j1 j2:Nat}{it:Ex}{e:Ex}(items:List α)(bI cL:α->D)(f:α->D)(hw:dW rn bor k true it g=some (items.map λa=>.tup [bI a,cL a],g1))(hn:nn=g1.length)(hj1:g1.length<=j1)(ZP:j1<g1.length+kk)(hj2:g1.length<=j2)(ZQ:j2<g1.length+kk)(iC:j1≠j2)(hb1:j1∉bor)(hb2:j2∉bor)(hl:items.length<=lim)
  (he:∀a∈items,∀G',kG g1 j1 j2 (bI a) (cL a) G'->dI rn bor k e G'=some (f a,G')):eX rn bor k nn kk (.tp [j1,j2]) it none e g=some (items.map f,g1):=by
 have:=iN (c:=none) items bI cL (λ_=>true) f hw hn hj1 ZP hj2 ZQ iC hb1 hb2 hl (λ_ _ _ _=>rfl) λa ha _ G' hG=>he a ha G' hG
 rw[filter_all]at this;exact this
theorem Bh{c:G->Option (Bool×G)}{b:G->Option (Fl×G)}(I:Nat->G->Prop)(step:∀m g,I (m+1) g->∃g1 g2,c g=some (true,g1)/\b g1=some (.nx,g2)/\I m g2)(fin:∀g,I 0 g->c g=some (false,g)) :
  ∀m N g,m<N->I m g->∃g',I 0 g'/\xY c b N g=some (.nx,g')
 | 0,N+1,g,_,h=>⟨g,h,by unfold xY;rw[fin g h]⟩
 |m+1,N+1,g,hN,h=>by
  obtain⟨g1,g2,q1,q2,q3⟩:=step m g h;obtain⟨g',w1,w2⟩:=Bh I step fin m N g2 ⋯ q3;exact⟨g',w1,by unfold xY;rw[q1];dsimp only;rw[q2];exact w2⟩
theorem eH{α:Type}{T:Tg}{b:G->Option (Fl×G)}(cH:α->D)(I:List α->G->Prop)(step:∀a l g,I (a::l) g->∃g1 g2,T.set (cH a) g=some g1/\b g1=some (.nx,g2)/\I l g2):∀l g,I l g->∃g',I [] g'/\eY T b (l.map cH) g=some (.nx,g')
 | [],g,h=>⟨g,h,rfl⟩
 |a::l,g,h=>by
  obtain⟨g1,g2,q1,q2,q3⟩:=step a l g h;obtain⟨g',w1,w2⟩:=eH cH I step l g2 q3;exact⟨g',w1,by rw[List.map_cons];unfold eY;rw[q1];dsimp only;rw[q2];exact w2⟩
end
theorem ints_map(l: ~~~0):bq (l.map .int)=some l:=by
 induction l with
 |nil=>rfl
 |cons a l ih=>simp[bq,ih]
theorem Om(l:List Bool):vF (l.map .bl)=some l:=by
 induction l with
 |nil=>rfl
 |cons a l ih=>simp[vF,ih]
theorem xg(l: ~~~5)(h:∀x∈l,x≠[]):kr (l.map λx=>.tup (x.map .int))=some l:=by
 induction l with
 |nil=>rfl
 |cons a l ih=>
  have ha:=h a dC;cases a with
  |nil=>exact absurd rfl ha
  |cons x a=>
   have:=ints_map (x::a);simp only[List.map_cons]at this ⊢
   simp only[kr,this,ih λy hy=>h y (dA _ hy)]
theorem sA(a: ~~~0)(l: ~~~5):bq ((a::l).map λ(x: ~~~0)=>.tup (x.map .int))=none:=rfl
theorem Jj(l:List D):mL .len [.tup l]=some (.dat (.int l.length)):=rfl
theorem Jk(l:List D):mL .len [.lst l]=some (.dat (.int l.length)):=rfl
theorem pS(l:List D):mL .len [.fix l]=some (.dat (.int l.length)):=rfl
theorem DY(l:List D):mL .list [.tup l]=some (.new l):=rfl
theorem Ea(l:List D):mL .list [.lst l]=some (.new l):=rfl
theorem zo(l:List D):mL .tuple [.lst l]=some (.dat (.tup l)):=rfl
theorem zp(l:List D):mL .tuple [.tup l]=some (.dat (.tup l)):=rfl
theorem Oo(i j:Int):mL .max [.int i,.int j]=some (.dat (.int (if j > i then j else i))):=rfl
theorem Oq(i j:Int):mL .min [.int i,.int j]=some (.dat (.int (if j<i then j else i))):=rfl
theorem pU(l:List Bool):mL .all [.lst (l.map .bl)]=some (.dat (.bl (l.all id))):=by simp only[mL,Qq,Om]
theorem iR(l: ~~~0)(h:l.length<64):mL .sorted [.lst (l.map .int)]=some (.new ((bO l).map .int)):=by simp only[mL,Qq,dm,ints_map,h,An]
theorem iS(l: ~~~0)(h:l.length<64):mL .sorted [.tup (l.map .int)]=some (.new ((bO l).map .int)):=by simp only[mL,Qq,dm,ints_map,h,An]
theorem cY(l: ~~~5)(hn:∀x∈l,x≠[])(h:l.length<64):mL .sorted [.lst (l.map λx=>.tup (x.map .int))]=some (.new ((cO fW l).map λx=>.tup (x.map .int))):=by
 cases l with
 |nil=>rfl
 |cons a l=>have e:=xg (a::l) hn;simp only[mL,Qq,dm,sA,e,h,An]
theorem eK:∀a b:List Int,dj (a.map .int) (b.map .int)=decide (a=b)
 | [],[]=>rfl
 | [],_::_=>rfl
 |_::_,[]=>rfl
 |x::a,y::b=>by
  simp only[List.map_cons,dj,bW,eK a b,List.cons.injEq,Bool.decide_and];rfl
theorem dM(a: ~~~0):fy (a.map .int)=true:=by
 induction a with
 |nil=>rfl
 |cons x a ih=>simp[fy,g5,ih]
theorem je(a: ~~~0):deps (a.map .int)=0:=by
 induction a with
 |nil=>rfl
 |cons x a ih=>simp[deps,dep,ih]
theorem sC(a b: ~~~0):fZ (.tup (a.map .int)) (.tup (b.map .int))=true:=by simp[fZ,g5,dM,dep,je]
theorem pW(a b: ~~~0):fZ (.lst (a.map .int)) (.lst (b.map .int))=true:=by simp[fZ,g5,dM,dep,je]
theorem Vy(a b: ~~~0):fz .Eq (.tup (a.map .int)) (.tup (b.map .int))=some (decide (a=b)):=by simp only[fz,sC,An,bW,eK]
theorem Vz(a b: ~~~0):fz .NotEq (.tup (a.map .int)) (.tup (b.map .int))=some (!decide (a=b)):=by simp only[fz,sC,An,bW,eK]
theorem VB(a b: ~~~0):fz .Eq (.lst (a.map .int)) (.lst (b.map .int))=some (decide (a=b)):=by simp only[fz,pW,An,bW,eK]
theorem Jl(a b: ~~~0):fz .NotEq (.lst (a.map .int)) (.lst (b.map .int))=some (!decide (a=b)):=by simp only[fz,pW,An,bW,eK]
theorem VD(a b:Int):fz .Eq (.int a) (.int b)=some (decide (a=b)):=rfl
theorem VF(a b:Int):fz .NotEq (.int a) (.int b)=some (!decide (a=b)):=rfl
theorem VG(a b:Int):fz .Lt (.int a) (.int b)=some (decide (a<b)):=rfl
theorem VH(a b:Int):fz .LtE (.int a) (.int b)=some (decide (a<=b)):=rfl
theorem VJ(a b:Int):fz .Gt (.int a) (.int b)=some (decide (a > b)):=rfl
theorem VL(a b:Int):fz .GtE (.int a) (.int b)=some (decide (a ≥ b)):=rfl
theorem Ot(a b:Int):ve .Add (.int a) (.int b)=some (.dat (.int (a+b))):=rfl
theorem Ou(a b:Int):ve .Sub (.int a) (.int b)=some (.dat (.int (a - b))):=rfl
theorem ix_t(l:List D)(i:Int):xX (.tup l) (.int i)=L2.fG l i:=rfl
theorem ix_l(l:List D)(i:Int):xX (.lst l) (.int i)=L2.fG l i:=rfl
theorem ix_f(l:List D)(i:Int):xX (.fix l) (.int i)=L2.fG l i:=rfl
theorem nO{α:Type}(l:List α)(i:Nat)(h:i<l.length):L2.fG l (i:Int)=some l[i]:=by unfold L2.fG L2.nq;rw[gL ⋯,gL ⋯];simp[h]
theorem xh(l: ~~~0)(i:Nat)(h:i<l.length):L2.fG (l.map D.int) (i:Int)=some (.int l[i]):=by
 rw[nO _ _ (by simpa using h)]
 simp
theorem is_tup(l:List D):iu (tT (.tup l)) "tuple"=true:=rfl
theorem VM(i:Int):iu (tT (.int i)) "int"=true:=rfl
theorem Jm(i:Int):iu (tT (.int i)) "bool"=false:=rfl
theorem kI(m:Nat):cJ 0 m=((List.range m).map λ(k:Nat)=>(k:Int)).map .int:=by simp[cJ]
theorem ak(m:Nat)(h:m<=1000):m<=lim:=kA h ⋯
theorem aN(i:Int)(h:0<=i/\i<=1000):Nv i=true:=by unfold Nv;simp only[d5,eR];lia
section
theorem bw{fx:Fx}{d:D}(h:fx.np=1):aM rn fx k [.dat d] g1=(bL rn k fx [d]).map λr=>(r,g1):=lR (ds:=[d]) h.symm
theorem aU{fx:Fx}{d e:D}(h:fx.np=2):aM rn fx k [.dat d,.dat e] g1=(bL rn k fx [d,e]).map λr=>(r,g1):=lR (ds:=[d,e]) h.symm
theorem cZ{fx:Fx}{d e f:D}(h:fx.np=3):aM rn fx k [.dat d,.dat e,.dat f] g1=(bL rn k fx [d,e,f]).map λr=>(r,g1):=lR (ds:=[d,e,f]) h.symm
end
structure kJ(fns:List Fx)(rn:Nat->Rn):Prop where
 e:∀(n:Nat) (bor:List Nat) (k:Nat) (x:Ex) (g:G),(rn (n+1)).e bor k x g=aO (rn n) bor k fns x g
 t:∀(n:Nat) (bor:List Nat) (k:Nat) (x:Ex) (g:G),(rn (n+1)).t bor k x g=stepT (rn n) bor k x g
 b:∀(n:Nat) (bor:List Nat) (k:Nat) (x:List Sm) (g:G),(rn (n+1)).b bor k x g=fD (rn n) bor k x g
 x:∀(n:Nat) (bor:List Nat) (k:Nat) (x:Ex) (g:G),(rn (n+1)).x bor k x g=wD (rn n) bor k fns x g
 xt:∀(n:Nat) (bor:List Nat) (k:Nat) (x:Ex) (g:G),(rn (n+1)).xt bor k x g=lO (rn n) bor k x g
 xb:∀(n:Nat) (bor:List Nat) (k:Nat) (x:List Sm) (g:G),(rn (n+1)).xb bor k x g=eZ (rn n) bor k x g
theorem Ov(fns:List Fx):kJ fns (run fns):=⟨λ_ _ _ _ _=>rfl,λ_ _ _ _ _=>rfl,λ_ _ _ _ _=>rfl,λ_ _ _ _ _=>rfl,λ_ _ _ _ _=>rfl,λ_ _ _ _ _=>rfl⟩
def fO(rn:Rn)(k:Nat)(fx:Fx)(ds:List D):Option Nat:=match rn.xb [] k fx.body (cU fx.n (Vx ds))with
 |some (ci,_)=>some ci
 |none=>none
theorem lU{rn:Rn}{k:Nat}{g1:G}{fx:Fx}{ds:List D}(hl:ds.length=fx.np):pq rn fx k (ds.map .dat) g1=(fO rn k fx ds).map λr=>(r,g1):=by
 unfold pq fO;rw[wY,wZ,Bf];simp only[fA,hl,List.map_nil,t7,and_self,An];cases rn.xb [] k fx.body (cU fx.n (ds.map .dat))with
 |none=>rfl
 |some p=>rfl
section
theorem uG{fx:Fx}{d:D}(h:fx.np=1):pq rn fx k [.dat d] g1=(fO rn k fx [d]).map λr=>(r,g1):=lU (ds:=[d]) h.symm
theorem cF{fx:Fx}{d e:D}(h:fx.np=2):pq rn fx k [.dat d,.dat e] g1=(fO rn k fx [d,e]).map λr=>(r,g1):=lU (ds:=[d,e]) h.symm
theorem jf{fx:Fx}{d e f:D}(h:fx.np=3):pq rn fx k [.dat d,.dat e,.dat f] g1=(fO rn k fx [d,e,f]).map λr=>(r,g1):=lU (ds:=[d,e,f]) h.symm
end
abbrev evZ:=And.intro @is_tup (And.intro @VM (And.intro @Jm (And.intro @Jj (And.intro @Jk (And.intro @DY (And.intro @Ea (And.intro @zo (And.intro @zp (And.intro @Oo (And.intro @Oq (And.intro @pU (And.intro @Vy (And.intro @Vz (And.intro @VB (And.intro @Jl (And.intro @VD (And.intro @VF (And.intro @VG (And.intro @VH (And.intro @VJ (And.intro @VL (And.intro @Ot (And.intro @Ou (And.intro @ix_t (And.intro @ix_l @ix_f)))))))))))))))))))))))))
abbrev unfZ{fns rn}(U:kJ fns rn):=And.intro U.e (And.intro U.t (And.intro U.b (And.intro U.x (And.intro U.xt U.xb))))
end Ev
set_option hygiene false in
local macro_rules | `(tactic|simp! [$u:term,$ls,*])=>`(tactic|simp[-List.map_map,-List.map_cons,-List.map_nil,Ev.unfZ $u,Ev.evZ,Ev.wD,Ev.lO,Ev.gW,Ev.eZ,Ev.xArgs,Ev.xW,Ev.isW,Ev.fD,Ev.aG,Ev.aO,Ev.stepT,Ev.argsR,Ev.ju,Ev.dI,Ev.toD,Ev.norm,Ev.pk,Ev.Cr,Ev.cU,Ev.d7,Ev.Vx,Ev.Ik,Ev.Za,Ev.wA,Ev.Il,Ev.Fe,Ev.Mg,$ls,*])
set_option hygiene false in
local macro_rules | `(~~~$x)=>`(Ev.D.tup (List.map Ev.D.int $x))
set_option hygiene false in
local macro_rules|`(∅)=>`((λx=>~~~x))
set_option hygiene false in
local macro_rules|`(~~~5)=>`(List (List Int))
local macro_rules|`(~~~0)=>`(List Int)
local macro_rules|`(~~~3)=>`(("__debug__":Str))
local macro_rules|`(~~~4)=>`([(.ret (.val (.bl false)))])
namespace Ev
noncomputable def bz:Fx:=⟨2,4,[(.ite (.ix ⇑0 ↥1) [(.set 2 (.bin .Mod (.ix ⇑0 ↥0) ⇑1)),(.item 0 ↥0 (.bin .FloorDiv (.ix ⇑0 ↥0) ⇑1)),(.ret ⇑2)] []),(.item 0 ↥0 (.bin .Mod (.bin .Add (.bin .Mult (.ix ⇑0 ↥0) ↥48271) ↥29) ↥2147483647)),(.set 3 (.bin .Mod (.bin .Add (.bin .Add (.bin .Mult (.ix ⇑0 ↥0) (.ix ⇑0 ↥0)) (.bin .Mult ↥39373 (.ix ⇑0 ↥0))) ↥7) ↥2147483629)),(.set 3 (.bin .Mod (.bin .Add (.bin .Mult ⇑3 ⇑3) (.bin .Mult ↥16807 ⇑3)) ↥2147483587)),(.ret (.bin .Mod (.bin .FloorDiv ⇑3 ↥8) ⇑1))]⟩
noncomputable def lV(ti:Nat):Fx:=⟨2,4,[(.set 2 (.blt .list [⇑1])),(.set 3 (.lst [])),(.while (.cmp .NotEq ⇑2 (.lst [])) [(.expr (.append 3 (.rX 2 (.call ti [⇑0,(.blt .len [⇑2])]))))]),(.ret ⇑3)]⟩
noncomputable def kK(ti mi:Nat):Fx:=⟨2,5,[(.set 2 (.call mi [⇑0,(.fY ⇑1)])),(.ite (.cmp .Gt (.call ti [⇑0,↥3]) ↥0) [(.ret (.blt .tuple [⇑2]))] []),(.set 3 (.fY ⇑1)),(.loop (.nm 4) (.nh ↥0 (.bin .Sub ⇑1 ↥1) ↥2) [(.ite (.cmp .Eq (.call ti [⇑0,↥2]) ↥1) [(.items2 3 (.ix ⇑2 ⇑4) 3 (.ix ⇑2 (.bin .Add ⇑4 ↥1)) (.tup [(.ix ⇑2 (.bin .Add ⇑4 ↥1)),(.ix ⇑2 ⇑4)]))] [])]),(.ret (.blt .tuple [⇑3]))]⟩
noncomputable def mO:Fx:=⟨2,2,[(.ite (.cmp .Lt ⇑1 (.blt .len [⇑0])) [(.ret (.ix ⇑0 ⇑1))] []),(.ret ↥0)]⟩
noncomputable def lW(ci:Nat):Fx:=⟨2,3,[(.set 2 (.call ci [⇑0,⇑1])),(.ite (.cmp .GtE ⇑2 (.bin .Pow ↥10 ↥18)) [(.ret (.lst [(.bin .Sub ⇑2 (.bin .Pow ↥10 ↥18)),(.val (.bl true))]))] []),(.ret (.lst [(.bin .Mod ⇑2 ↥2147483647),(.val (.bl false))]))]⟩
def Tn(m:Nat)(t: ~~~0):Prop:=bO t=(List.range m).map λ(k:Nat)=>(k:Int)
theorem Tn.length{m:Nat}{t: ~~~0}(h:Tn m t):t.length=m:=by have:=(dG t).length_eq;rw[h]at this;simpa using this.symm
theorem Tn.mem{m:Nat}{t: ~~~0}(h:Tn m t){x:Int}:x∈t ↔ 0<=x/\x<m:=by
 rw[<- (dG t).mem_iff,h,gN];constructor
 . rintro⟨k,hk,rfl⟩;have:=wE.mp hk;lia
 . rintro⟨h1,h2⟩;exact⟨x.toNat,wE.mpr ⋯,by lia⟩
theorem Tn.of{m:Nat}{t: ~~~0}(h:t.Perm ((List.range m).map λ(k:Nat)=>(k:Int))):Tn m t:=by refine (oV h.symm ?_).symm;rw[List.pairwise_map];exact List.pairwise_lt_range.imp λh=>by lia
theorem Tn.perm{m:Nat}{t: ~~~0}(h:Tn m t):t.Perm ((List.range m).map λ(k:Nat)=>(k:Int)):=by rw[<- h];exact (dG t).symm
noncomputable def gt(t: ~~~0)(i:Int):Int:=t.getD i.toNat 0
theorem cu{t: ~~~0}{i:Int}(h:0<=i/\i<t.length):L2.fG (t.map D.int) i=some (.int (gt t i)):=by
 obtain⟨n,rfl⟩:∃n:Nat,i=n:=⟨i.toNat,by lia⟩
 rw[xh t n ⋯];simp[gt,(by lia:n<t.length)]
noncomputable def nums(m:Nat): ~~~0:=(List.range m).map λ(k:Nat)=>(k:Int)
theorem gq{m:Nat}{x:Int}:x∈nums m ↔ 0<=x/\x<m:=by
 unfold nums;rw[gN];constructor
 . rintro⟨k,hk,rfl⟩;have:=wE.mp hk;lia
 . rintro⟨h1,h2⟩;exact⟨x.toNat,wE.mpr ⋯,by lia⟩
theorem xm(m:Nat):(nums m).length=m:=by simp[nums]
theorem Tn.uH{m:Nat}{t: ~~~0}(h:Tn m t){i:Int}(hi:0<=i/\i<m):0<=gt t i/\gt t i<m:=by
 refine h.mem.mp ?_;have hl:=h.length;have:i.toNat<t.length:=by lia
 unfold gt;rw[i9,mE this];exact Co _
theorem Tn.nodup{m:Nat}{t: ~~~0}(h:Tn m t):t.Nodup:=by refine (h.perm.nodup_iff).mpr ?_;rw[List.nodup_iff_pairwise_ne,List.pairwise_map];exact List.nodup_range.imp λh=>by lia
theorem Tn.inj{m:Nat}{t: ~~~0}(h:Tn m t){i j:Int}(hi:0<=i/\i<m)(hj:0<=j/\j<m)(e:gt t i=gt t j):i=j:=by
 have hl:=h.length;have h1:i.toNat<t.length:=by lia
 have h2:j.toNat<t.length:=by lia
 unfold gt at e;rw[i9,mE h1,i9,mE h2]at e;have:=(List.getElem_inj h.nodup).mp (show t[i.toNat]=t[j.toNat]from e)
 lia
theorem Eb{α β:Type}{f:α->β}{l:List α}(h:l.Nodup)(hf:∀x∈l,∀y∈l,f x=f y->x=y):(l.map f).Nodup:=by
 induction l with
 |nil=>exact t7
 |cons a l ih=>
  obtain⟨h1,h2⟩:=i3.mp h;rw[List.map_cons];refine i3.mpr ⟨λhm=>?_,ih h2 λx hx y hy=>hf x (dA _ hx) y (dA _ hy)⟩
  obtain⟨b,hb,e⟩:=gN.mp hm;have:=hf b (dA _ hb) a dC e;exact h1 (this▸hb)
theorem uI(m:Nat):Tn m (nums m):=Tn.of (x5 _)
theorem Ow{m:Nat}{i:Int}(h:0<=i/\i<m):gt (nums m) i=i:=by
 have:i.toNat<m:=by lia
 unfold gt nums;simp[this];lia
theorem Jo{m:Nat}{b: ~~~0}(h:b.length=m):(nums m).map (gt b)=b:=by
 subst h;refine List.ext_getElem (by simp[nums]) λi h1 h2=>?_
 simp[nums,gt,h2]
theorem Bj{α:Type}{l:List α}{p:α->Bool}(c k:Nat)(hc:0<c)(hl:l.length<=c * k)(h:∀i,i<k->(((l.drop (c * i)).take c).all p)=true):l.all p=true:=by
 refine i4.mpr λx hx=>?_
 obtain⟨j,hj,rfl⟩:=List.getElem_of_mem hx;have hi:j / c<k:=Nat.div_lt_of_lt_mul (eD hj hl);refine i4.mp (h (j / c) hi) _ (l8 (i:=j % c) ?_);rw[oI (Nat.mod_lt _ hc),List.getElem?_drop,Nat.div_add_mod,mE hj]
theorem aC{rn:Rn}{bor:List Nat}{k:Nat}{st:Sm}{rest:List Sm}{g g1:G}(h:aG rn bor k st g=some (.nx,g1)):fD rn bor k (st::rest) g=fD rn bor k rest g1:=by
 conv=>lhs;unfold fD
 rw[h]
noncomputable abbrev St(s:Int)(fl:Bool):Slot:=.own [.int s,.bl fl]
theorem nP(a b:Int)(h:0<b):ve .Mod (.int a) (.int b)=some (.dat (.int (a % b))):=by simp[ve,kB,h]
theorem uJ(a b:Int)(h:0<b/\b<1073741824):ve .FloorDiv (.int a) (.int b)=some (.dat (.int (a / b))):=by simp[ve,kB,h]
theorem kL(a b:Int)(h:(-(2 ^ 64)<a/\a<2 ^ 64)\/(-(2 ^ 64)<b/\b<2 ^ 64)):ve .Mult (.int a) (.int b)=some (.dat (.int (a * b))):=by
 have:Nt a b=true:=by unfold Nt;simp only[y8,d5,eR];exact h
 simp[ve,Nu,this]
section
variable{ti mi:Nat}(U:kJ fns rn)(hT:fns[ti]?=some bz)
include U
theorem VN(s:Int)(fl:Bool)(m:Int)(hm:0<m/\m<1000):∃r s' s2 s3,0<=r/\r<m/\(rn (n+20)).b [0] k bz.body [St s fl,‹m›,.no,.no]=some (.rt ‹r›,[St s' fl,‹m›,s2,s3]):=by
 have i0:L2.fG [D.int s,D.bl fl] 0=some (.int s):=rfl;have i1:L2.fG [D.int s,D.bl fl] 1=some (.bl fl):=rfl;have x0':L2.nq 2 0=some 0:=rfl;cases fl with
 |true=>refine⟨s % m,s / m,.dat (.int (s % m)),.no,CY _ ⋯,BN _ hm.1,?_⟩;unfold bz;simp! [U,i0,i1,x0',nP _ _ hm.1,uJ _ _ (show 0<m/\m<1073741824 by lia)]
 |false=>
  generalize hs1:(s * 48271+29) % 2147483647=s1;have h1:0<=s1/\s1<2147483647:=by rw[<- hs1];exact⟨CY _ ⋯,BN _ ⋯⟩
  have j0:L2.fG [D.int s1,D.bl false] 0=some (.int s1):=rfl;generalize hs2:(s1 * s1+39373 * s1+7) % 2147483629=s2;have h2:0<=s2/\s2<2147483629:=by rw[<- hs2];exact⟨CY _ ⋯,BN _ ⋯⟩
  generalize hs3:(s2 * s2+16807 * s2) % 2147483587=s3;refine⟨s3 / 8 % m,s1,.no,‹s3›,CY _ ⋯,BN _ hm.1,?_⟩;unfold bz;simp! [U,i0,i1,x0',nP,kL s 48271 (.inr ⋯),hs1,j0,kL s1 s1 (.inl ⋯),kL 39373 s1 (.inl ⋯),hs2,kL s2 s2 (.inl ⋯),kL 16807 s2 (.inl ⋯),hs3,uJ _ _ (show (0:Int)<8/\(8:Int)<1073741824 by decide),hm.1]
theorem bQ{i:Nat}{s:Int}{fl:Bool}{m:Int}(hi:g[i]?=some (St s fl))(hm:0<m/\m<1000):∃r s',0<=r/\r<m/\aM (rn (n+20)) bz k [.var i,‹m›] g=some (‹r›,g.set i (St s' fl)):=by
 obtain⟨r,s',s2,s3,h1,h2,h⟩:=VN U (n:=n) (k:=k) s fl m hm;refine⟨r,s',h1,h2,?_⟩;have hp:cU bz.n [St s fl,‹m›]=[St s fl,‹m›,.no,.no]:=rfl;unfold aM;simp only[vars,bY,hi,List.map_cons,List.map_nil];rw[gL ⟨rfl,by simp⟩,hp,h]
 rfl
omit U in
theorem Jp(a: ~~~0):fz .NotEq (.lst (a.map .int)) (.lst [])=some (!decide (a=[])):=Jl a []
omit U in
theorem pX{l i:Nat}(h:i<l):L2.nq l (i:Int)=some i:=by unfold L2.nq;rw[gL ⋯,gL ⋯];simp
omit U in
theorem sD:∀(l: ~~~0) (j:Nat),(l.map D.int).eraseIdx j=(l.eraseIdx j).map .int
 | [],_=>rfl
 |_::_,0=>rfl
 |a::l,j+1=>by simp[sD l j]
omit U in
theorem xq:∀(l: ~~~0) (j:Nat) (h:j<l.length),([l[j]]++l.eraseIdx j).Perm l
 |a::l,0,_=>x5 _
 |a::l,j+1,h=>(List.Perm.swap a _ _).trans ((xq l j (by simpa using h)).cons a)
include hT in
theorem Jq{i:Nat}{s:Int}{fl:Bool}(th: ~~~0)(hi:g[i]?=some (St s fl))(hl:th.length<=10):∃(row: ~~~0) (s':Int),row.Perm th/\aM (rn (n+50)) (lV ti) (k+1) [.var i,.dat (.lst (th.map .int))] g=some (.new (row.map .int),g.set i (St s' fl)):=by
 have loop:=Bh (c:=(rn (n+49)).t [0] (k+1) (.cmp .NotEq ⇑2 (.lst []))) (b:=(rn (n+49)).b [0] (k+1) [(.expr (.append 3 (.rX 2 (.call ti [⇑0,(.blt .len [⇑2])]))))])
  (I:=λm g=>∃(s:Int) (left aV: ~~~0),left.length=m/\(aV++left).Perm th/\g=[St s fl,.dat (.lst (th.map .int)),.own (left.map .int),.own (aV.map .int)])
  (step:=λm g h=>by
   obtain⟨s,left,aV,h1,h2,rfl⟩:=h;have aJ:=h2.length_eq;rw[eJ]at aJ;obtain⟨r,s',q1,q2,q3⟩:=bQ U (n:=n+25) (k:=k) (g:=[St s fl,.dat (.lst (th.map .int)),.own (left.map .int),.own (aV.map .int)]) (i:=0) (s:=s) (fl:=fl) (m:=(left.length:Int)) rfl ⋯;obtain⟨j,rfl⟩:∃j:Nat,r=j:=⟨r.toNat,by lia⟩
   have hj:j<left.length:=by lia
   have e1:(left.map D.int)[j]?=some (.int left[j]):=by simp[hj]
   have e2:(left.map D.int).eraseIdx j=(left.eraseIdx j).map .int:=sD left j;have z1:left.length<lim:=eD (mP _) (ak (left.length+1) ⋯);have z2:aV.length<lim:=eD (mP _) (ak (aV.length+1) ⋯);have iC:left≠[]:=λe=>by rw[e]at hj;exact absurd hj (BD _)
   refine⟨[St s fl,.dat (.lst (th.map .int)),.own (left.map .int),.own (aV.map .int)],[St s' fl,.dat (.lst (th.map .int)),.own ((left.eraseIdx j).map .int),.own ((aV++[left[j]]).map .int)],by simp! [U,Jp,iC],?_,s',left.eraseIdx j,aV++[left[j]],?_,?_,rfl⟩
   . have Qi:aM (rn (n+45)) bz k [.var 0,.dat (.int (left.length:Int))] [St s fl,.dat (.lst (th.map .int)),.own (left.map .int),.own (aV.map .int)]=some (‹j›,[St s' fl,.dat (.lst (th.map .int)),.own (left.map .int),.own (aV.map .int)]):=q3;simp! [U,hT,Qi,pX hj,e1,e2,z1,z2];simp
   . rw[List.length_eraseIdx_of_lt hj];lia
   .
    refine List.Perm.trans ?_ h2;rw[AF];refine List.Perm.append_left _ ?_;exact xq left j hj)
  (fin:=λg h=>by
   obtain⟨s,left,aV,h1,h2,rfl⟩:=h;have:left=[]:=List.eq_nil_of_length_eq_zero h1;simp! [U,Jp,this])
 obtain⟨g',⟨s',left,aV,q1,q2,rfl⟩,q3⟩:=loop th.length 100000 [St s fl,.dat (.lst (th.map .int)),.own (th.map .int),.own []] ⋯ ⟨s,th,[],rfl,by simp,rfl⟩
 have hnil:left=[]:=List.eq_nil_of_length_eq_zero q1;subst hnil;rw[nK]at q2;refine⟨aV,s',q2,?_⟩;have hp:cU (lV ti).n [St s fl,.dat (.lst (th.map .int))]=[St s fl,.dat (.lst (th.map .int)),.no,.no]:=rfl;have body:(rn (n+50)).b [0] (k+1) (lV ti).body [St s fl,.dat (.lst (th.map .int)),.no,.no]=some (.rt (.var 3),[St s' fl,.dat (.lst (th.map .int)),.own [],.own (aV.map .int)]):=by unfold lV;simp! [U,q3]
 unfold aM;simp only[vars,bY,hi,List.map_cons,List.map_nil];rw[gL ⟨rfl,by simp⟩,hp,body]
 rfl
omit U in
theorem Ox{m:Nat}{f: ~~~0}(h:Tn m f){p q:Int}(hp:0<=p/\p<m)(hq:0<=q/\q<m)(iC:p≠q)(e1:gt f p=p)(e2:gt f q=q) :
  Tn m ((f.set p.toNat q).set q.toNat p)/\∀x:Int,0<=x/\x<m->x≠p->x≠q->gt ((f.set p.toNat q).set q.toNat p) x=gt f x:=by
 have hl:=h.length;have hget:∀x:Int,0<=x/\x<m->gt ((f.set p.toNat q).set q.toNat p) x=if x=q then p else if x=p then q else gt f x:=λx hx=>by
  have hx':x.toNat<f.length:=by lia
  unfold gt;rw[i9,List.getElem?_set,List.getElem?_set];by_cases Qw:x=q
  . subst Qw;simp[hx']
  .
   have n1:q.toNat≠x.toNat:=by lia
   rw[hU n1,hU Qw];by_cases VP:x=p
   . subst VP;simp[hx']
   .
    have n2:p.toNat≠x.toNat:=by lia
    rw[hU n2,hU VP,i9]
 refine⟨?_,λx hx n1 n2=>by rw[hget x hx,hU n2,hU n1]⟩
 have aJ:((f.set p.toNat q).set q.toNat p).length=m:=by simp[hl]
 have em:((f.set p.toNat q).set q.toNat p)=(nums m).map (gt ((f.set p.toNat q).set q.toNat p)):=(Jo aJ).symm;have ex:∀x∈nums m,gt ((f.set p.toNat q).set q.toNat p) x=(λy:Int=>if y=p then q else if y=q then p else y) (gt f x):=λx hx=>by
  have hx':=gq.mp hx;rw[hget x hx'];dsimp only;by_cases Qw:x=q
  . rw[gL Qw,Qw,e2,hU (nV iC),gL rfl]
  .
   by_cases VP:x=p
   . rw[hU Qw,gL VP,VP,e1,gL rfl]
   .
    have a1:gt f x≠p:=λz=>VP (h.inj hx' hp (z.trans e1.symm))
    have a2:gt f x≠q:=λz=>Qw (h.inj hx' hq (z.trans e2.symm))
    rw[hU Qw,hU VP,hU a1,hU a2]
 rw[em,o6 ex];have e3:(nums m).map (λx=>(λy:Int=>if y=p then q else if y=q then p else y) (gt f x))=f.map λy:Int=>if y=p then q else if y=q then p else y:=by
  conv=>rhs;rw[<- Jo hl,List.map_map]
  rfl
 rw[e3];refine Tn.of ?_;refine (h.perm.map _).trans ?_;have inj:∀x y:Int,(if x=p then q else if x=q then p else x)=(if y=p then q else if y=q then p else y)->x=y:=λx y z=>by
  split at z <;> split at z <;> (try split at z) <;> (try split at z) <;> lia
 refine (List.perm_ext_iff_of_nodup (Eb (uI m).nodup λx _ y _ z=>inj x y z) (uI m).nodup).mpr λx=>?_
 rw[gN];constructor
 .
  rintro⟨y,hy,rfl⟩;have:=gq.mp hy;refine gq.mpr ?_;split
  . exact hq
  .
   split
   . exact hp
   . exact this
 .
  intro hx;have hx':=gq.mp hx;refine⟨if x=p then q else if x=q then p else x,gq.mpr ?_,?_⟩
  .
   split
   . exact hq
   .
    split
    . exact hp
    . exact hx'
  .
   by_cases z1:x=p
   . rw[gL z1,hU (nV iC),gL rfl];exact z1.symm
   .
    by_cases z2:x=q
    . rw[hU z1,gL z2,gL rfl];exact z2.symm
    . rw[hU z1,hU z2,hU z1,hU z2]
end
section
variable{ti mi:Nat}(U:kJ fns rn)(hT:fns[ti]?=some bz)(hM:fns[mi]?=some (lV ti))
include U hT hM
theorem Oz{i:Nat}{s:Int}{fl:Bool}(m:Nat)(hm:1<=m/\m<=6)(hi:g[i]?=some (St s fl)):∃(t: ~~~0) (s':Int),Tn m t/\aM (rn (n+80)) (kK ti mi) (k+2) [.var i,‹m›] g=some (.dat (~~~t),g.set i (St s' fl)):=by
 have hr:cJ 0 m=(nums m).map .int:=kI m;have hl:=xm m;obtain⟨row,s1,xr,q1⟩:=Jq U hT (n:=n+28) (k:=k) (g:=[St s fl,‹m›,.no,.no,.no]) (i:=0) (s:=s) (fl:=fl) (nums m) rfl ⋯;have hR:Tn m row:=Tn.of xr;have hRl:=hR.length;have K9:aM (rn (n+78)) (lV ti) (k+1) [.var 0,.dat (.lst ((nums m).map .int))] [St s fl,‹m›,.no,.no,.no]=some (.new (row.map .int),[St s1 fl,‹m›,.no,.no,.no]):=q1;have cP:aG (rn (n+79)) [0] (k+2) (.set 2 (.call mi [⇑0,(.fY ⇑1)])) [St s fl,‹m›,.no,.no,.no]=some (.nx,[St s1 fl,‹m›,.own (row.map .int),.no,.no]):=by simp! [U,hM,K9,aN m ⋯,ak m ⋯,hr]
 obtain⟨r,s2,r1,r2,q2⟩:=bQ U (n:=n+57) (k:=k+1) (g:=[St s1 fl,‹m›,.own (row.map .int),.no,.no]) (i:=0) (s:=s1) (fl:=fl) (m:=3) rfl ⋯;have GJ:aM (rn (n+77)) bz (k+1) [.var 0,‹3›] [St s1 fl,‹m›,.own (row.map .int),.no,.no]=some (‹r›,[St s2 fl,‹m›,.own (row.map .int),.no,.no]):=q2;have hp:cU (kK ti mi).n [St s fl,‹m›]=[St s fl,‹m›,.no,.no,.no]:=rfl;have fin:∀(t: ~~~0) (s':Int) (a b c:Slot),Tn m t->(rn (n+80)).b [0] (k+2) (kK ti mi).body [St s fl,‹m›,.no,.no,.no]=some (.rt (.dat (~~~t)),[St s' fl,‹m›,a,b,c])->∃(t: ~~~0) (s':Int),Tn m t/\aM (rn (n+80)) (kK ti mi) (k+2) [.var i,‹m›] g=some (.dat (~~~t),g.set i (St s' fl)):=λt s' a b c ht hb=>by
  refine⟨t,s',ht,?_⟩;unfold aM;simp only[vars,bY,hi,List.map_cons,List.map_nil];rw[gL ⟨rfl,by simp⟩,hp,hb]
  rfl
 by_cases hr0:r > 0
 . refine fin row s2 (.own (row.map .int)) .no .no hR ?_;unfold kK;rw[U.b];rw[aC cP];simp! [U,hT,GJ,hr0]
 .
  have aK:aG (rn (n+79)) [0] (k+2) (.ite (.cmp .Gt (.call ti [⇑0,↥3]) ↥0) [(.ret (.blt .tuple [⇑2]))] []) [St s1 fl,‹m›,.own (row.map .int),.no,.no]=some (.nx,[St s2 fl,‹m›,.own (row.map .int),.no,.no]):=by simp! [U,hT,GJ,hr0]
  have eE:aG (rn (n+79)) [0] (k+2) (.set 3 (.fY ⇑1)) [St s2 fl,‹m›,.own (row.map .int),.no,.no]=some (.nx,[St s2 fl,‹m›,.own (row.map .int),.own ((nums m).map .int),.no]):=by simp! [U,aN m ⋯,ak m ⋯,hr]
  generalize hN:lJ 0 ((m:Int) - 1) 2=N;have hN2:∀j,j<N->2 * j+1<m:=λj hj=>by
   rw[<- hN]at hj;unfold lJ at hj;split at hj
   . lia
   . lia
  have loop:=eH (T:=.nm 4) (b:=(rn (n+79)).b [0] (k+2) [(.ite (.cmp .Eq (.call ti [⇑0,↥2]) ↥1) [(.items2 3 (.ix ⇑2 ⇑4) 3 (.ix ⇑2 (.bin .Add ⇑4 ↥1)) (.tup [(.ix ⇑2 (.bin .Add ⇑4 ↥1)),(.ix ⇑2 ⇑4)]))] [])]) (λ(j:Nat)=>D.int ((j:Int) * 2))
   (I:=λl g=>∃(j:Nat) (s:Int) (f: ~~~0) (s4:Slot),l=List.range' j (N - j)/\Tn m f/\(∀p:Nat,2 * j<=p->p<m->gt f (gt row p)=gt row p)/\g=[St s fl,‹m›,.own (row.map .int),.own (f.map .int),s4])
   (step:=λa l g h=>by
    obtain⟨j,s,f,s4,h1,h2,h3,rfl⟩:=h;have hjN:j<N:=by
     rcases x0 j N with h |h
     . exact h
     . rw[Cf h]at h1;cases h1
    have hc:List.range' j (N - j)=j::List.range' (j+1) (N - (j+1)):=by rw[show N - j=(N - (j+1))+1 by lia,Cs]
    rw[hc]at h1;injection h1 with e1 e2;subst e1 e2;have hj2:=hN2 a hjN;obtain⟨z,hz⟩:∃z:Int,z=(a:Int) * 2:=⟨_,rfl⟩;rw[<- hz];obtain⟨r,s',r1,r2,q⟩:=bQ U (n:=n+56) (k:=k+1) (g:=[St s fl,‹m›,.own (row.map .int),.own (f.map .int),‹z›]) (i:=0) (s:=s) (fl:=fl) (m:=2) rfl ⋯;have q':aM (rn (n+76)) bz (k+1) [.var 0,‹2›] [St s fl,‹m›,.own (row.map .int),.own (f.map .int),‹z›]=some (‹r›,[St s' fl,‹m›,.own (row.map .int),.own (f.map .int),‹z›]):=q;by_cases hr1:r=1
    .
     have hfl:=h2.length;have p1:=hR.uH (i:=((2 * a:Nat):Int)) ⋯;have p2:=hR.uH (i:=((2 * a+1:Nat):Int)) ⋯;have iC:gt row ((2 * a:Nat):Int)≠gt row ((2 * a+1:Nat):Int):=λz=>by have:=hR.inj ⋯ ⋯ z;lia
     obtain⟨x1,x2⟩:=Ox h2 p1 p2 iC (h3 (2 * a) ⋯ ⋯) (h3 (2 * a+1) ⋯ ⋯);have a1:L2.fG (row.map D.int) z=some (.int (gt row ((2 * a:Nat):Int))):=by rw[hz,show (a:Int) * 2=((2 * a:Nat):Int)by lia];exact cu ⋯
     have a2:L2.fG (row.map D.int) (z+1)=some (.int (gt row ((2 * a+1:Nat):Int))):=by rw[hz,show (a:Int) * 2+1=((2 * a+1:Nat):Int)by lia];exact cu ⋯
     have n1:∀p:Nat,2 * (a+1)<=p->p<m->gt row p≠gt row ((2 * a:Nat):Int)/\gt row p≠gt row ((2 * a+1:Nat):Int):=λp h1 h2=>⟨λz=>by have:=hR.inj ⋯ ⋯ z;lia,λz=>by have:=hR.inj ⋯ ⋯ z;lia⟩
     generalize gt row ((2 * a:Nat):Int)=p at p1 iC x1 x2 a1 n1;generalize gt row ((2 * a+1:Nat):Int)=q at p2 iC x1 x2 a2 n1;obtain⟨pn,rfl⟩:∃pn:Nat,p=pn:=⟨p.toNat,by lia⟩
     obtain⟨qn,rfl⟩:∃qn:Nat,q=qn:=⟨q.toNat,by lia⟩
     refine⟨[St s fl,‹m›,.own (row.map .int),.own (f.map .int),‹z›],[St s' fl,‹m›,.own (row.map .int),.own (((f.set pn qn).set qn pn).map .int),‹z›],rfl,?_,a+1,s',_,_,rfl,(by simpa only[AX]using x1),?_,rfl⟩
     . have l1:L2.nq f.length (pn:Int)=some pn:=pX ⋯;have l2:L2.nq f.length (qn:Int)=some qn:=pX ⋯;simp! [U,hT,q',hr1,a1,a2,l1,l2,ak 2 ⋯]
     . intro p hp1 hp2;have hx:=n1 p hp1 hp2;have hg:=x2 (gt row p) (hR.uH ⋯) hx.1 hx.2;simp only[AX]at hg;rw[hg];exact h3 p ⋯ hp2
    .
     refine⟨[St s fl,‹m›,.own (row.map .int),.own (f.map .int),‹z›],[St s' fl,‹m›,.own (row.map .int),.own (f.map .int),‹z›],rfl,?_,a+1,s',f,_,rfl,h2,λp hp=>h3 p ⋯,rfl⟩
     simp! [U,hT,q',hr1])
  obtain⟨g',⟨j,s3,f,s4,w1,w2,w3,rfl⟩,w4⟩:=loop (List.range' 0 N) [St s2 fl,‹m›,.own (row.map .int),.own ((nums m).map .int),.no] ⟨0,s2,nums m,.no,rfl,uI m,λp _ hp=>Ow (hR.uH ⋯),rfl⟩
  refine fin f s3 (.own (row.map .int)) (.own (f.map .int)) s4 w2 ?_;have sd:qI 0 2 N=(List.range' 0 N).map λ(j:Nat)=>D.int ((j:Int) * 2):=by unfold qI;rw[A4];exact o6 λj _=>by rw[Int.zero_add]
  have o1:wB ((m:Int) - 1)=true:=by unfold wB;simp;lia
  have o2:wB 0=true:=rfl;have o3:wB 2=true:=rfl;unfold kK;rw[U.b,aC cP,aC aK,aC eE];simp! [U,Tg.ix,Tg.gU,dW,o1,o2,o3,hN,sd,w4]
end
section
variable{ci:Nat}(U:kJ fns rn)(hC:fns[ci]?=some mO)
include U hC
omit U hC in
theorem sU:ve .Pow (.int 10) (.int 18)=some (.dat (.int (10 ^ 18))):=by rfl
theorem Jr(ns: ~~~0)(hl:ns.length<=1000)(j:Nat):∃(s:Int) (fl:Bool),bL (rn (n+40)) (k+1) (lW ci) [.fix (ns.map .int),.int j]=some (.new [.int s,.bl fl]):=by
 obtain⟨v,q⟩:∃v:Int,∀n,bL (rn (n+20)) k mO [.fix (ns.map .int),.int j]=some ‹v›:=by
  by_cases h:j<ns.length
  .
   refine⟨ns[j],λn=>?_⟩
   have h':(j:Int)<ns.length:=by lia
   have:=xh ns j h;unfold bL mO;simp! [U,pS,h',this]
  .
   refine⟨0,λn=>?_⟩
   have h' : ¬ (j:Int)<ns.length:=by lia
   unfold bL mO;simp! [U,pS,h']
 by_cases hv:(1000000000000000000:Int)<=v
 . refine⟨v - 1000000000000000000,true,?_⟩;unfold bL lW;simp! [U,hC,aU (fx:=mO) rfl,q,sU,hv,ak 2 ⋯]
 . refine⟨v % 2147483647,false,?_⟩;unfold bL lW;simp! [U,hC,aU (fx:=mO) rfl,q,sU,hv,ak 2 ⋯,nP]
end
noncomputable def bH:Fx:=⟨1,1,[(.ret (.and [(.vd ⇑0 "int"),(.not (.vd ⇑0 "bool"))]))]⟩
noncomputable def aZ(w:Nat):Fx:=⟨3,3,[(.ret (.and [(.call w [⇑0]),(.chain ⇑1 [.LtE,.LtE] [⇑0,⇑2])]))]⟩
def isInt:D->Bool
 |.int _=>true
 |_=>false
noncomputable def xu(lo hi:Int):D->Bool
 |.int i=>decide (lo<=i/\i<=hi)
 |_=>false
def pY(m:Nat):D->Bool
 |.tup l=>match bq l with
  |some t=>decide (bO t=nums m)
  |none=>false
 |_=>false
def qP:D->Prop
 |.tup l=>l.length<=20/\∀x∈l,g5 x=true/\dep x<=5
 |_=>True
theorem lX:∀{l:List D},l.all isInt=true->∃t:List Int,l=t.map .int
 | [],_=>⟨[],rfl⟩
 |d::l,h=>by
  rw[List.all_cons,d5]at h;obtain⟨t,rfl⟩:=lX h.2;cases d with
  |int i=>exact⟨i::t,rfl⟩
  |_=>cases h.1
theorem xx:∀{l:List D},l.all isInt=false->bq l=none
 | [],h=>by symm
 |d::l,h=>by
  cases d with
  |int i=>
   have:l.all isInt=false:=by simpa [isInt]using h
   show (match bq l with |some ns=>some (i::ns) |none=>none)=none
   rw[xx this]
  |_=>rfl
theorem pZ:∀{l:List D},(∀x∈l,g5 x=true)->fy l=true
 | [],_=>rfl
 |d::l,h=>by
  show (g5 d&&fy l)=true;rw[h d dC,pZ λx hx=>h x (dA _ hx)]
  rfl
theorem p7{c:Nat}:∀{l:List D},(∀x∈l,dep x<=c)->deps l<=c
 | [],_=>u7 _
 |d::l,h=>by
  have h1:=h d dC;have h2:=p7 λx hx=>h x (dA _ hx)
  show max (dep d) (deps l)<=c;lia
theorem VR{l:List D}(h:∀x∈l,g5 x=true/\dep x<=5):fz .NotEq (.lst l) (.lst [])=some (!l.isEmpty):=by
 have h1:fy l=true:=pZ λx hx=>(h x hx).1
 have h2:deps l<=5:=p7 λx hx=>(h x hx).2
 have h3:dep (.lst l)<=190:=by show deps l+1<=190;lia
 have:fZ (.lst l) (.lst [])=true:=by simp only[fZ,g5,h1,fy,Bool.and_true,Bool.true_and,eR];exact h3
 simp only[fz,this,An,bW];cases l <;> rfl
section
variable{w wi mw it ci cj:Nat}(U:kJ fns rn)
include U
theorem gw(d:D):bL (rn (n+6)) k bH [d]=some (.dat (.bl (isInt d))):=by unfold bL bH;cases d <;> simp! [U,iu,tT,isInt]
variable(hW:fns[w]?=some bH)
include hW
theorem gA(d:D)(lo hi:Int):bL (rn (n+14)) (k+1) (aZ w) [d,.int lo,.int hi]=some (.dat (.bl (xu lo hi d))):=by
 unfold bL aZ;cases d with
 |int i=>
  by_cases h1:lo<=i
  .
   by_cases h2:i<=hi
   . simp! [U,hW,bw (fx:=bH) rfl,gw U,isInt,xu,h1,h2]
   . simp! [U,hW,bw (fx:=bH) rfl,gw U,isInt,xu,h1,h2]
  . simp! [U,hW,bw (fx:=bH) rfl,gw U,isInt,xu,h1]
 |_=>simp! [U,hW,bw (fx:=bH) rfl,gw U,isInt,xu]
omit U hW in
theorem zq{rn:Rn}{bor:List Nat}{k:Nat}{e:Ex}{rest:List Sm}{g:G}:eZ rn bor k (.ret e::rest) g=rn.x bor k e g:=by
 unfold eZ;simp only[gW];cases rn.x bor k e g with
 |some r=>rfl
 |none=>
  simp only[aG];cases rn.e bor k e g with
  |none=>rfl
  |some p=>rfl
omit hW in
theorem Bm(d1 d2 d3:D):fO (rn (n+14)) k (aZ w) [d1,d2,d3]=none:=by unfold fO aZ;rw[U.xb,zq];simp! [U,U.e]
end
noncomputable def bZ(i ci:Nat):Fx:=⟨3,3,[(.ite (.not (.call i [⇑0,⇑1,⇑2])) [(.raise ci (.DG [(false,(.val (.str (PySem.Str.ofString "no whole number from ")))),(true,⇑1),(false,(.val (.str (PySem.Str.ofString " to ")))),(true,⇑2)]))] [])]⟩
noncomputable def bf(mw w:Nat):Fx:=⟨2,2,[(.expr (.call mw [⇑0,↥1,↥6])),(.ite (.or [(.not (.vd ⇑1 "tuple")),(.not (.blt .all [(.comp 2 2 (.nm 3) ⇑1 none (.call w [⇑3]))]))]) (~~~4) []),(.ret (.cmp .Eq (.blt .sorted [⇑1]) (.fY ⇑0)))]⟩
noncomputable def aQ(it ci:Nat):Fx:=⟨2,2,[(.ite (.not (.call it [⇑0,⇑1])) [(.raise ci (.DG [(false,(.val (.str (PySem.Str.ofString "no turn of ")))),(true,⇑0)]))] [])]⟩
noncomputable def dX(w:Nat):Fx:=⟨2,2,[(.ite (.or [(.not (.vd ⇑1 "tuple")),(.cmp .NotEq (.comp 2 2 (.nm 3) ⇑1 (some (.not (.call w [⇑3]))) ⇑3) (.lst []))]) (~~~4) []),(.ret (.cmp .Eq (.blt .sorted [⇑1]) (.fY ⇑0)))]⟩
section
variable{k n:Nat}{g g1:G}{rn:Nat->Rn}{fns:List Fx}{w wi mw it ci cj:Nat}(U:kJ fns rn)
include U
variable(hW:fns[w]?=some bH)
include hW
variable(hI:fns[wi]?=some (aZ w))
include hI
theorem Bo(d:D)(lo hi:Int)(h:xu lo hi d=true):bL (rn (n+24)) (k+2) (bZ wi ci) [d,.int lo,.int hi]=some (.dat .non):=by unfold bL bZ;simp! [U,hI,cZ (fx:=aZ w) rfl,gA U hW,h]
theorem Qx(d:D)(lo hi:Int)(h:xu lo hi d=true):fO (rn (n+24)) (k+2) (bZ wi ci) [d,.int lo,.int hi]=none:=by unfold fO bZ;simp! [U,hI,jf (fx:=aZ w) rfl,Bm U,cZ (fx:=aZ w) rfl,gA U hW,h]
theorem V0(d:D)(h:xu 1 6 d=false):fO (rn (n+24)) (k+2) (bZ wi ci) [d,.int 1,.int 6]=some ci:=by
 have e:∀(n k:Nat),yS (rn (n+1)) [] k PySem.Str.empty [(false,(.val (.str (PySem.Str.ofString "no whole number from ")))),(true,⇑1),(false,(.val (.str (PySem.Str.ofString " to ")))),(true,⇑2)] [.dat d,‹1›,‹6›]=some (PySem.Str.ofString "no whole number from 1 to 6",[.dat d,‹1›,‹6›]):=λn k=>by
  simp only[yS,dI,U.e,aO,toD];rfl
 unfold fO bZ;simp! [U,hI,jf (fx:=aZ w) rfl,Bm U,cZ (fx:=aZ w) rfl,gA U hW,h,e]
end
section
variable{k n:Nat}{g g1:G}{rn:Nat->Rn}{fns:List Fx}{w wi mw it ci cj:Nat}(U:kJ fns rn)(hW:fns[w]?=some bH)
include U hW
theorem V1{d0:D}(l:List D)(h:l.length<=lim):eX (rn (n+12)) [] (k+1) 2 2 (.nm 3) ⇑1 none (.call w [.slot 3]) [.dat d0,.dat (.tup l)]=some ((l.map isInt).map .bl,[.dat d0,.dat (.tup l)]):=by
 rw[List.map_map];have:=sy (rn:=rn (n+12)) (bor:=[]) (k:=k+1) (g:=[.dat d0,.dat (.tup l)]) (g1:=[.dat d0,.dat (.tup l)]) (kk:=2) (nn:=2) (j:=3) (it:=.slot 1) (e:=.call w [.slot 3]) l id (λx=>.bl (isInt x)) (by simp! [U,dW]) rfl ⋯ ⋯ ⋯ h λa _ G' hG=>by
  have h2:=hG.2;simp only[id]at h2;simp! [U,h2,hW,bw (fx:=bH) rfl,gw U]
 exact this
theorem others{d0:D}(l:List D)(h:l.length<=lim):eX (rn (n+12)) [] (k+1) 2 2 (.nm 3) ⇑1 (some (.not (.call w [.slot 3]))) ⇑3 [.dat d0,.dat (.tup l)]=some (l.filter λx=>!isInt x,[.dat d0,.dat (.tup l)]):=by
 have:=Bg (rn:=rn (n+12)) (bor:=[]) (k:=k+1) (g:=[.dat d0,.dat (.tup l)]) (g1:=[.dat d0,.dat (.tup l)]) (kk:=2) (nn:=2) (j:=3) (it:=.slot 1) (c:=some (.not (.call w [.slot 3]))) (e:=.slot 3) l id (λx=>!isInt x) id (by simp! [U,dW]) rfl ⋯ ⋯ ⋯ h (λa _ G' hG=>by
  have h2:=hG.2;simp only[id]at h2;simp! [U,vf,h2,hW,bw (fx:=bH) rfl,gw U]) λa _ _ G' hG=>by
  have h2:=hG.2;simp only[id]at h2;simp! [U,h2]
 rw[List.map_id]at this;exact this
omit U hW in
theorem Ec(l:List D):(l.map isInt).all id=l.all isInt:=by simp[List.all_map]
omit U hW in
theorem lY(m:Nat)(t: ~~~0):pY m (~~~t)=decide (bO t=nums m):=by
 show (match bq (t.map .int)with |some t=>decide (bO t=nums m) |none=>false)=_
 rw[ints_map]
omit U hW in
theorem Bp(m:Nat){l:List D}(h:l.all isInt=false):pY m (.tup l)=false:=by
 show (match bq l with |some t=>decide (bO t=nums m) |none=>false)=_
 rw[xx h]
omit U hW in
theorem filter_none{l:List D}(h:l.all isInt=true):(l.filter λx=>!isInt x)=[]:=by rw[List.filter_eq_nil_iff];intro x hx;rw[i4.mp h x hx];simp
omit U hW in
theorem filter_some{l:List D}(h:l.all isInt=false):(l.filter λx=>!isInt x).isEmpty=false:=by
 cases e:(l.filter λx=>!isInt x)with
 |cons a b=>rfl
 |nil=>
  rw[List.filter_eq_nil_iff]at e;have:l.all isInt=true:=i4.mpr λx hx=>by
   have:=e x hx;cases z:isInt x
   . rw[z]at this;exact absurd rfl this
   . rfl
  rw[this]at h;symm
theorem zu(m:Nat)(hm:1<=m/\m<=6)(d:D)(hd:qP d):bL (rn (n+40)) (k+4) (dX w) [.int m,d]=some (.dat (.bl (pY m d))):=by
 cases d with
 |tup l=>
  obtain⟨h1,h2⟩:=hd;have o:=λn k=>others U hW (n:=n) (k:=k) (d0:=.int m) l (ak _ ⋯)
  cases e:l.all isInt with
  |true=>
   rw[filter_none e]at o;obtain⟨t,rfl⟩:=lX e;have hl:t.length<64:=by have:=fA (as:=t) D.int;lia
   have hr:cJ 0 m=(nums m).map .int:=kI m;rw[lY];have c0:fz .NotEq (.lst []) (.lst [])=some false:=rfl;unfold bL dX;simp! [U,o,c0,iS t hl,aN m ⋯,ak m ⋯,hr]
  |false=>
   have c0:fz .NotEq (.lst (l.filter λx=>!isInt x)) (.lst [])=some true:=by
    rw[VR λx hx=>h2 x (lS.mp hx).1,filter_some e]
    rfl
   rw[Bp m e];unfold bL dX;simp! [U,o,c0]
 |_=>unfold bL dX;simp! [U,iu,tT,pY]
variable(hI:fns[wi]?=some (aZ w))(hM:fns[mw]?=some (bZ wi ci))
include hI hM
theorem Js(m:Nat)(hm:1<=m/\m<=6)(d:D)(hd:iu (tT d) "tuple"=false):bL (rn (n+40)) (k+4) (bf mw w) [.int m,d]=some (.dat (.bl false))/\fO (rn (n+40)) (k+4) (bf mw w) [.int m,d]=none:=by
 have hi:xu 1 6 (.int m)=true:=by show decide ((1:Int)<=m/\(m:Int)<=6)=true;rw[eR];lia
 have mu:=λn k=>Bo U hW hI (n:=n) (k:=k) (ci:=ci) (.int m) 1 6 hi
 have mx:=λn k=>Qx U hW hI (n:=n) (k:=k) (ci:=ci) (.int m) 1 6 hi
 unfold bL fO bf;constructor
 . simp! [U,hM,cZ (fx:=bZ wi ci) rfl,mu,hd]
 . simp! [U,hM,cZ (fx:=bZ wi ci) rfl,mu,jf (fx:=bZ wi ci) rfl,mx,hd]
theorem jg(m:Nat)(hm:1<=m/\m<=6)(d:D)(hd:qP d):bL (rn (n+40)) (k+4) (bf mw w) [.int m,d]=some (.dat (.bl (pY m d)))/\fO (rn (n+40)) (k+4) (bf mw w) [.int m,d]=none:=by
 have hi:xu 1 6 (.int m)=true:=by show decide ((1:Int)<=m/\(m:Int)<=6)=true;rw[eR];lia
 have mu:=λn k=>Bo U hW hI (n:=n) (k:=k) (ci:=ci) (.int m) 1 6 hi
 have mx:=λn k=>Qx U hW hI (n:=n) (k:=k) (ci:=ci) (.int m) 1 6 hi
 cases d with
 |tup l=>
  obtain⟨h1,h2⟩:=hd;have o:=λn k=>V1 U hW (n:=n) (k:=k) (d0:=.int m) l (ak _ ⋯)
  have ha:=Ec l;cases e:l.all isInt with
  |true=>
   rw[e]at ha;obtain⟨t,rfl⟩:=lX e;have hl:t.length<64:=by have:=fA (as:=t) D.int;lia
   have hr:cJ 0 m=(nums m).map .int:=kI m;rw[lY];unfold bL fO bf;constructor
   . simp! [U,hM,cZ (fx:=bZ wi ci) rfl,mu,o,pU,ha,iS t hl,aN m ⋯,ak m ⋯,hr]
   . simp! [U,hM,cZ (fx:=bZ wi ci) rfl,mu,jf (fx:=bZ wi ci) rfl,mx,o,pU,ha,iS t hl,aN m ⋯,ak m ⋯,hr]
  |false=>
   rw[e]at ha;rw[Bp m e];unfold bL fO bf;constructor
   . simp! [U,hM,cZ (fx:=bZ wi ci) rfl,mu,o,pU,ha]
   . simp! [U,hM,cZ (fx:=bZ wi ci) rfl,mu,jf (fx:=bZ wi ci) rfl,mx,o,pU,ha]
 |_=>exact Js U hW hI hM m hm _ rfl
theorem Ju(b d:D)(h:xu 1 6 b=false):fO (rn (n+40)) (k+4) (bf mw w) [b,d]=some ci:=by
 have mx:=λn k=>V0 U hW hI (n:=n) (k:=k) (ci:=ci) b h
 unfold fO bf;simp! [U,hM,jf (fx:=bZ wi ci) rfl,mx]
variable(hT:fns[it]?=some (bf mw w))
include hT
theorem xA(b d:D)(h:xu 1 6 b=false):fO (rn (n+50)) (k+5) (aQ it cj) [b,d]=some ci:=by
 have q:=λn k=>Ju U hW hI hM (n:=n) (k:=k) b d h
 unfold fO aQ;simp! [U,hT,cF (fx:=bf mw w) rfl,q]
theorem mQ(m:Nat)(hm:1<=m/\m<=6)(d:D)(hd:qP d)(h:pY m d=false):fO (rn (n+50)) (k+5) (aQ it cj) [.int m,d]=some cj:=by
 have q1:=λn k=>(jg U hW hI hM (n:=n) (k:=k) m hm d hd).1
 have q2:=λn k=>(jg U hW hI hM (n:=n) (k:=k) m hm d hd).2
 rw[h]at q1;have e:∃x,∀(n k:Nat),yS (rn (n+1)) [] k PySem.Str.empty [(false,(.val (.str (PySem.Str.ofString "no turn of ")))),(true,⇑0)] [‹m›,.dat d]=some (x,[‹m›,.dat d]):=by
  obtain⟨h1,h2⟩:=hm
  match m,h1,h2 with
  | 1,_,_=>exact⟨_,λn k=>by simp only[yS,dI,U.e,aO,toD];rfl⟩
  | 2,_,_=>exact⟨_,λn k=>by simp only[yS,dI,U.e,aO,toD];rfl⟩
  | 3,_,_=>exact⟨_,λn k=>by simp only[yS,dI,U.e,aO,toD];rfl⟩
  | 4,_,_=>exact⟨_,λn k=>by simp only[yS,dI,U.e,aO,toD];rfl⟩
  | 5,_,_=>exact⟨_,λn k=>by simp only[yS,dI,U.e,aO,toD];rfl⟩
  | 6,_,_=>exact⟨_,λn k=>by simp only[yS,dI,U.e,aO,toD];rfl⟩
 obtain⟨x,e⟩:=e;unfold fO aQ;simp! [U,hT,cF (fx:=bf mw w) rfl,aU (fx:=bf mw w) rfl,q1,q2,e]
end
noncomputable def d9(i:Nat):Fx:=⟨2,2,[(.ite (.Ij ⇑1 ["tuple", "list"]) [(.ite (.or [(.cmp .NotEq (.vd ⇑0 "tuple") (.vd ⇑1 "tuple")),(.cmp .NotEq (.vd ⇑0 "list") (.vd ⇑1 "list"))]) (~~~4) []),(.ite (.cmp .NotEq (.blt .len [⇑0]) (.blt .len [⇑1])) (~~~4) []),(.ret (.blt .all [(.comp 2 3 (.tp [3,4]) (.zip ⇑0 ⇑1) none (.call i [⇑3,⇑4]))]))] []),(.ret (.and [(.cmp .Eq ⇑0 ⇑1),(.cmp .Eq (.vd ⇑0 "bool") (.vd ⇑1 "bool"))]))]⟩
theorem nQ{l:List D}{r:Int}(h:0<=r/\r<l.length):∃x∈l,L2.fG l r=some x:=by
 obtain⟨j,rfl⟩:∃j:Nat,r=j:=⟨r.toNat,by lia⟩
 have hj:j<l.length:=by lia
 exact⟨l[j],Co hj,nO l j hj⟩
theorem kM(l m:List D)(h:l.length+m.length<=1000):ve .Add (.tup l) (.tup m)=some (.dat (.tup (l++m))):=by
 show (if l.length+m.length<=lim then _ else _)=_
 rw[gL (ak _ h)]
theorem nR(l m:List D)(h:l.length+m.length<=1000):ve .Add (.lst l) (.lst m)=some (.new (l++m)):=by
 show (if l.length+m.length<=lim then _ else _)=_
 rw[gL (ak _ h)]
noncomputable def Sd:Nat->D->Prop
 |_,.int _=>True
 |_,.bl _=>True
 |_,.str _=>True
 |_,.non=>True
 |c+1,.tup l=>l.length<=1000/\∀x∈l,Sd c x
 |c+1,.lst l=>l.length<=1000/\∀x∈l,Sd c x
 |_,_=>False
theorem xB:∀l:List D,ug l l=l.map λa=>D.tup [a,a]
 | []=>rfl
 |a::l=>by
  show D.tup [a,a]::ug l l=_;rw[xB l];rfl
theorem all_true{α:Type}(l:List α):(l.map λ_=>true).all id=true:=by simp
section
variable(U:kJ fns rn)
include U
theorem xD{c:Nat}(hS:fns[i]?=some (d9 i))(ih:∀n k d,Sd c d->bL (rn (n+20 * c+20)) (k+c) (d9 i) [d,d]=some (.dat (.bl true))){d:D}{l:List D}(hw:∀n k,dW (rn (n+2)) [] k true (.zip ⇑0 ⇑1) [.dat d,.dat d]=some (ug l l,[.dat d,.dat d]))(hl:l.length<=1000)(h:∀x∈l,Sd c x):∀n k,eX (rn (n+20 * c+23)) [] (k+c+1) 2 3 (.tp [3,4]) (.zip ⇑0 ⇑1) none (.call i [⇑3,⇑4]) [.dat d,.dat d]=some ((l.map λ_=>true).map .bl,[.dat d,.dat d]):=λn k=>by
 rw[List.map_map];exact zm (rn:=rn (n+20 * c+23)) (bor:=[]) (k:=k+c+1) (g:=[.dat d,.dat d]) (g1:=[.dat d,.dat d]) (kk:=3) (nn:=2) (j1:=3) (j2:=4) l id id _ (by rw[hw (n+20 * c+21)];rw[xB];rfl) rfl ⋯ ⋯ ⋯ ⋯ ⋯ ⋯ ⋯ (ak _ hl) λa ha G' hG=>by
  have h1:=hG.2.1;have h2:=hG.2.2;simp only[id]at h1 h2;have q:=ih (n+2) k a (h a ha);rw[show n+2+20 * c+20=n+20 * c+22 by lia]at q
  simp! [U,h1,h2,hS,aU (fx:=d9 i) rfl,q]
theorem gB(d:D)(h:Sd 0 d):bL (rn (n+20)) k (d9 i) [d,d]=some (.dat (.bl true)):=by
 cases d with
 |int j=>unfold bL d9;simp! [U,tT,iu,fz,fZ,bW,g5,dep]
 |bl j=>unfold bL d9;simp! [U,tT,iu,fz,fZ,bW,g5,dep]
 |str j=>unfold bL d9;simp! [U,tT,iu,fz,fZ,bW,g5,dep]
 |non=>unfold bL d9;simp! [U,tT,iu,fz,fZ,bW,g5,dep]
 |_=>exact h.elim
theorem uK(hS:fns[i]?=some (d9 i)):∀(c n k:Nat) (d:D),Sd c d->bL (rn (n+20 * c+20)) (k+c) (d9 i) [d,d]=some (.dat (.bl true))
 | 0,n,k,d,h=>gB U d h
 |c+1,n,k,d,h=>by
  have ih:=uK hS c;rw[show n+20 * (c+1)+20=n+20 * c+40 by lia,show k+(c+1)=k+c+1 by lia]
  cases d with
  |int j=>exact gB U _ trivial
  |bl j=>exact gB U _ trivial
  |str j=>exact gB U _ trivial
  |non=>exact gB U _ trivial
  |tup l=>
   have w:=xD U hS ih (d:=.tup l) (l:=l) (λn k=>by simp! [U,dW,dm,isTup]) h.1 h.2
   have w':=w (n+13) k;rw[show n+13+20 * c+23=n+20 * c+36 by lia]at w'
   unfold bL d9;simp! [U,tT,iu,fz,fZ,bW,g5,dep,w',all_true]
  |lst l=>
   have w:=xD U hS ih (d:=.lst l) (l:=l) (λn k=>by simp! [U,dW,dm,isTup]) h.1 h.2
   have w':=w (n+13) k;rw[show n+13+20 * c+23=n+20 * c+36 by lia]at w'
   unfold bL d9;simp! [U,tT,iu,fz,fZ,bW,g5,dep,w',all_true]
  |_=>exact h.elim
end
noncomputable def p8(ti:Nat):Fx:=⟨2,7,[(.par 2 3 (.call ti [⇑0,(.blt .len [⇑1])]) (.call ti [⇑0,(.blt .len [⇑1])])),(.set 4 (.ix (.lst [(.ix ⇑1 ⇑3),(.blt .len [⇑1]),(.neg ↥1),(.val (.bl true)),(.val .non),(.val (.str (PySem.Str.ofString "0"))),(.tup [↥0]),(.bin .Pow ↥10 ↥29),(.val (.bl false))]) (.call ti [⇑0,↥9]))),(.set 5 (.blt .list [⇑1])),(.items2 5 ⇑2 5 ⇑3 (.tup [(.ix ⇑1 ⇑3),(.ix ⇑1 ⇑2)])),(.set 6 (.lst [(.bin .Add (.bin .Add (.slice ⇑1 none (some ⇑2)) (.tup [⇑4])) (.slice ⇑1 (some (.bin .Add ⇑2 ↥1)) none)),(.bin .Add (.slice ⇑1 none (some ⇑2)) (.slice ⇑1 (some (.bin .Add ⇑2 ↥1)) none)),(.bin .Add (.bin .Add (.slice ⇑1 none (some ⇑2)) (.tup [⇑4])) (.slice ⇑1 (some ⇑2) none)),(.blt .list [⇑1]),(.val .non)])),(.ret (.ix (.bin .Add ⇑6 (.lst [(.blt .tuple [⇑5]),(.rev ⇑1),(.bin .Add (.slice ⇑1 (some ⇑2) none) (.slice ⇑1 none (some ⇑2))),.emp,↥0,(.tup [⇑1]),⇑1,(.tup [])])) (.call ti [⇑0,↥13])))]⟩
noncomputable def gX(ti:Nat):Fx:=⟨2,2,[(.ret (.ix (.lst [↥0,(.bin .Add ⇑1 ↥1),(.neg ↥1),(.val (.bl true)),(.val .non),(.val (.str (PySem.Str.ofString "2"))),(.tup [↥2]),(.bin .Pow ↥10 ↥29),(.lst [↥1]),(.bin .Add ⇑1 ↥2)]) (.call ti [⇑0,↥10])))]⟩
theorem p9{α:Type}(l:List α)(i j:Option Int):(gR l i j).length<=l.length:=by unfold gR;rw[v0,List.length_drop];lia
theorem qa{α:Type}{l:List α}{i j:Option Int}{x:α}(h:x∈gR l i j):x∈l:=List.mem_of_mem_drop (List.mem_of_mem_take h)
def Pl(x:D):Prop:=g5 x=true/\dep x<=5
theorem Pl.int(i:Int):Pl (.int i):=⟨rfl,u7 _⟩
theorem Pl.ints{t: ~~~0}{x:D}(h:x∈t.map D.int):Pl x:=by obtain⟨i,_,rfl⟩:=gN.mp h;exact .int i
theorem Pl.tup{t: ~~~0}:Pl (~~~t):=by refine⟨dM t,?_⟩;show deps (t.map .int)+1<=5;rw[je];decide
theorem xE:ve .Pow (.int 10) (.int 29)=some (.dat (.int (10 ^ 29))):=by rfl
section
variable{k n:Nat}{g g1:G}{rn:Nat->Rn}{fns:List Fx}{ti:Nat}(U:kJ fns rn)(hT:fns[ti]?=some bz)
include U hT
theorem Ed{i:Nat}{s:Int}{fl:Bool}(hi:g[i]?=some (St s fl)):∃(b:D) (s':Int),xu 1 6 b=false/\aM (rn (n+60)) (gX ti) (k+1) [.var i,‹6›] g=some (.dat b,g.set i (St s' fl)):=by
 obtain⟨r,s',r1,r2,q⟩:=bQ U (n:=n+37) (k:=k) (g:=[St s fl,‹6›]) (i:=0) (s:=s) (fl:=fl) (m:=10) rfl ⋯;have q':aM (rn (n+57)) bz k [.var 0,‹10›] [St s fl,‹6›]=some (‹r›,[St s' fl,‹6›]):=q;obtain⟨b,hb,e⟩:=nQ (l:=[D.int 0,.int 7,.int (-1),.bl true,.non,.str (PySem.Str.ofString "2"),.tup [.int 2],.int 100000000000000000000000000000,.lst [.int 1],.int 8]) (r:=r) ⟨r1,r2⟩;refine⟨b,s',?_,?_⟩
 . simp only[eA,l5,xL]at hb;rcases hb with rfl |rfl |rfl |rfl |rfl |rfl |rfl |rfl |rfl |rfl <;> rfl
 .
  have body:(rn (n+60)).b [0] (k+1) (gX ti).body [St s fl,‹6›]=some (.rt (.dat b),[St s' fl,‹6›]):=by unfold gX;simp! [U,hT,q',xE,ak 1 ⋯,ak 10 ⋯,e]
  have hp:cU (gX ti).n [St s fl,‹6›]=[St s fl,‹6›]:=rfl;unfold aM;simp only[vars,bY,hi,List.map_cons,List.map_nil];rw[gL ⟨rfl,by simp⟩,hp,body]
  rfl
theorem OD{i:Nat}{s:Int}{fl:Bool}(m:Nat)(hm:1<=m/\m<=6)(t: ~~~0)(ht:Tn m t)(hi:g[i]?=some (St s fl)):∃(d:D) (s':Int),qP d/\aM (rn (n+60)) (p8 ti) (k+1) [.var i,.dat (~~~t)] g=some (.dat d,g.set i (St s' fl)):=by
 have hl:=ht.length;have hml:(t.map D.int).length=m:=by rw[fA,hl]
 obtain⟨p,s1,p1,p2,q1⟩:=bQ U (n:=n+38) (k:=k) (g:=[St s fl,.dat (~~~t),.no,.no,.no,.no,.no]) (i:=0) (s:=s) (fl:=fl) (m:=(t.length:Int)) rfl ⋯;have K9:aM (rn (n+58)) bz k [.var 0,.dat (.int (t.length:Int))] [St s fl,.dat (~~~t),.no,.no,.no,.no,.no]=some (‹p›,[St s1 fl,.dat (~~~t),.no,.no,.no,.no,.no]):=q1;obtain⟨q,s2,p3,p4,q2⟩:=bQ U (n:=n+38) (k:=k) (g:=[St s1 fl,.dat (~~~t),.no,.no,.no,.no,.no]) (i:=0) (s:=s1) (fl:=fl) (m:=(t.length:Int)) rfl ⋯;have GJ:aM (rn (n+58)) bz k [.var 0,.dat (.int (t.length:Int))] [St s1 fl,.dat (~~~t),.no,.no,.no,.no,.no]=some (‹q›,[St s2 fl,.dat (~~~t),.no,.no,.no,.no,.no]):=q2;have e1:aG (rn (n+59)) [0] (k+1) (.par 2 3 (.call ti [⇑0,(.blt .len [⇑1])]) (.call ti [⇑0,(.blt .len [⇑1])])) [St s fl,.dat (~~~t),.no,.no,.no,.no,.no]=some (.nx,[St s2 fl,.dat (~~~t),‹p›,‹q›,.no,.no,.no]):=by simp! [U,hT,K9,GJ]
 obtain⟨r,s3,r1,r2,q3⟩:=bQ U (n:=n+37) (k:=k) (g:=[St s2 fl,.dat (~~~t),‹p›,‹q›,.no,.no,.no]) (i:=0) (s:=s2) (fl:=fl) (m:=9) rfl ⋯;have Qi:aM (rn (n+57)) bz k [.var 0,‹9›] [St s2 fl,.dat (~~~t),‹p›,‹q›,.no,.no,.no]=some (‹r›,[St s3 fl,.dat (~~~t),‹p›,‹q›,.no,.no,.no]):=q3;have ap:=cu (t:=t) (i:=p) ⟨p1,p2⟩;have aq:=cu (t:=t) (i:=q) ⟨p3,p4⟩;obtain⟨o,ho,eo⟩:=nQ (l:=[.int (gt t q),.int (t.length:Int),.int (-1),.bl true,.non,.str (PySem.Str.ofString "0"),.tup [.int 0],.int 100000000000000000000000000000,.bl false]) (r:=r) ⟨r1,r2⟩;have hop:Pl o:=by simp only[eA,l5,xL]at ho;rcases ho with rfl |rfl |rfl |rfl |rfl |rfl |rfl |rfl |rfl <;> exact⟨rfl,by first |exact u7 _ |decide⟩
 have e2:aG (rn (n+59)) [0] (k+1) (.set 4 (.ix (.lst [(.ix ⇑1 ⇑3),(.blt .len [⇑1]),(.neg ↥1),(.val (.bl true)),(.val .non),(.val (.str (PySem.Str.ofString "0"))),(.tup [↥0]),(.bin .Pow ↥10 ↥29),(.val (.bl false))]) (.call ti [⇑0,↥9]))) [St s2 fl,.dat (~~~t),‹p›,‹q›,.no,.no,.no]=some (.nx,[St s3 fl,.dat (~~~t),‹p›,‹q›,.dat o,.no,.no]):=by simp! [U,hT,Qi,aq,xE,ak 1 ⋯,ak 9 ⋯,eo]
 have e3:aG (rn (n+59)) [0] (k+1) (.set 5 (.blt .list [⇑1])) [St s3 fl,.dat (~~~t),‹p›,‹q›,.dat o,.no,.no]=some (.nx,[St s3 fl,.dat (~~~t),‹p›,‹q›,.dat o,.own (t.map .int),.no]):=by simp! [U,U.e]
 obtain⟨pn,rfl⟩:∃pn:Nat,p=pn:=⟨p.toNat,by lia⟩
 obtain⟨qn,rfl⟩:∃qn:Nat,q=qn:=⟨q.toNat,by lia⟩
 have l1:L2.nq t.length (pn:Int)=some pn:=pX ⋯;have l2:L2.nq t.length (qn:Int)=some qn:=pX ⋯;generalize hv:((t.map D.int).set pn (.int (gt t qn))).set qn (.int (gt t pn))=ex;have hex:ex.length<=6/\∀x∈ex,Pl x:=by
  rw[<- hv];refine⟨by simp;lia,λx hx=>?_⟩
  rcases List.mem_or_eq_of_mem_set hx with hx |rfl
  .
   rcases List.mem_or_eq_of_mem_set hx with hx |rfl
   . exact .ints hx
   . exact .int _
  . exact .int _
 have e4:aG (rn (n+59)) [0] (k+1) (.items2 5 ⇑2 5 ⇑3 (.tup [(.ix ⇑1 ⇑3),(.ix ⇑1 ⇑2)])) [St s3 fl,.dat (~~~t),‹pn›,‹qn›,.dat o,.own (t.map .int),.no]=some (.nx,[St s3 fl,.dat (~~~t),‹pn›,‹qn›,.dat o,.own ex,.no]):=by rw[<- hv];simp! [U,ap,aq,l1,l2,ak 2 ⋯]
 generalize hA:gR (t.map D.int) none (some (pn:Int))=A;generalize hB:gR (t.map D.int) (some ((pn:Int)+1)) none=B;generalize hC:gR (t.map D.int) (some (pn:Int)) none=C;have pA:A.length<=6/\∀x∈A,Pl x:=by rw[<- hA];exact⟨kA (p9 _ _ _) ⋯,λx hx=>.ints (qa hx)⟩
 have pB:B.length<=6/\∀x∈B,Pl x:=by rw[<- hB];exact⟨kA (p9 _ _ _) ⋯,λx hx=>.ints (qa hx)⟩
 have pC:C.length<=6/\∀x∈C,Pl x:=by rw[<- hC];exact⟨kA (p9 _ _ _) ⋯,λx hx=>.ints (qa hx)⟩
 have cat:∀{a b:List D}{x y:Nat},(a.length<=x/\∀z∈a,Pl z)->(b.length<=y/\∀z∈b,Pl z)->((a++b).length<=x+y/\∀z∈a++b,Pl z):=λha hb=>⟨by rw[eJ];lia,λz hz=>(t9.mp hz).elim (ha.2 z) (hb.2 z)⟩
 have pO:([o]:List D).length<=1/\∀x∈[o],Pl x:=⟨eC _,λx hx=>by cases hV.mp hx;exact hop⟩
 have pAO:=cat pA pO;have V2:=cat pAO pB;have V3:=cat pAO pC;have pAB:=cat pA pB;have pCA:=cat pC pA;have e5:aG (rn (n+59)) [0] (k+1) (.set 6 (.lst [(.bin .Add (.bin .Add (.slice ⇑1 none (some ⇑2)) (.tup [⇑4])) (.slice ⇑1 (some (.bin .Add ⇑2 ↥1)) none)),(.bin .Add (.slice ⇑1 none (some ⇑2)) (.slice ⇑1 (some (.bin .Add ⇑2 ↥1)) none)),(.bin .Add (.bin .Add (.slice ⇑1 none (some ⇑2)) (.tup [⇑4])) (.slice ⇑1 (some ⇑2) none)),(.blt .list [⇑1]),(.val .non)])) [St s3 fl,.dat (~~~t),‹pn›,‹qn›,.dat o,.own ex,.no]=some (.nx,[St s3 fl,.dat (~~~t),‹pn›,‹qn›,.dat o,.own ex,.own [.tup (A++[o]++B),.tup (A++B),.tup (A++[o]++C),.lst (t.map .int),.non]]):=by simp! [U,rY,hA,hB,hC,kM A [o] (by have:=pAO.1;rw[eJ]at this;lia),kM (A++[o]) B (by have:=V2.1;rw[eJ]at this;lia),kM (A++[o]) C (by have:=V3.1;rw[eJ]at this;lia),kM A B (by have:=pAB.1;rw[eJ]at this;lia),ak 1 ⋯,ak 5 ⋯]
 generalize hZ:[D.tup (A++[o]++B),.tup (A++B),.tup (A++[o]++C),.lst (t.map .int),.non]=Z at e5;have zl:Z.length=5:=by rw[<- hZ];rfl
 obtain⟨r',s4,w1,w2,q4⟩:=bQ U (n:=n+37) (k:=k) (g:=[St s3 fl,.dat (~~~t),‹pn›,‹qn›,.dat o,.own ex,.own Z]) (i:=0) (s:=s3) (fl:=fl) (m:=13) rfl ⋯;have q4':aM (rn (n+57)) bz k [.var 0,‹13›] [St s3 fl,.dat (~~~t),‹pn›,‹qn›,.dat o,.own ex,.own Z]=some (‹r'›,[St s4 fl,.dat (~~~t),‹pn›,‹qn›,.dat o,.own ex,.own Z]):=q4;generalize hY:[D.tup ex,.tup (t.map D.int).reverse,.tup (C++A),.emp,.int 0,.tup [~~~t],~~~t,.tup []]=qqq;have yl:qqq.length=8:=by rw[<- hY];rfl
 obtain⟨d,hd,ed⟩:=nQ (l:=Z++qqq) (r:=r') ⟨w1,by rw[eJ,zl,yl];exact w2⟩
 have e6:aG (rn (n+59)) [0] (k+1) (.ret (.ix (.bin .Add ⇑6 (.lst [(.blt .tuple [⇑5]),(.rev ⇑1),(.bin .Add (.slice ⇑1 (some ⇑2) none) (.slice ⇑1 none (some ⇑2))),.emp,↥0,(.tup [⇑1]),⇑1,(.tup [])])) (.call ti [⇑0,↥13]))) [St s3 fl,.dat (~~~t),‹pn›,‹qn›,.dat o,.own ex,.own Z]=some (.rt (.dat d),[St s4 fl,.dat (~~~t),‹pn›,‹qn›,.dat o,.own ex,.own Z]):=by simp! [U,rY,hA,hC,kM C A (by have:=pCA.1;rw[eJ]at this;lia),ak 1 ⋯,ak 8 ⋯,ak 0 ⋯,hT,q4',hY,ak qqq.length ⋯,nR Z qqq ⋯,ed]
 have hf:qP d:=by
  have pT:(t.map D.int).length<=20/\∀x∈t.map D.int,Pl x:=⟨by lia,λx hx=>.ints hx⟩
  rw[<- hZ,<- hY]at hd;simp only[t9,eA,l5,xL]at hd;rcases hd with (rfl |rfl |rfl |rfl |rfl) | (rfl |rfl |rfl |rfl |rfl |rfl |rfl |rfl)
  . exact⟨kA V2.1 ⋯,V2.2⟩
  . exact⟨kA pAB.1 ⋯,pAB.2⟩
  . exact⟨kA V3.1 ⋯,V3.2⟩
  . trivial
  . trivial
  . exact⟨kA hex.1 ⋯,hex.2⟩
  . exact⟨by rw[A9];exact pT.1,λx hx=>pT.2 x (List.mem_reverse.mp hx)⟩
  . exact⟨kA pCA.1 ⋯,pCA.2⟩
  . trivial
  . trivial
  . exact⟨by simp,λx hx=>by cases hV.mp hx;exact Pl.tup⟩
  . exact pT
  . exact⟨by decide,λx hx=>by cases hx⟩
 refine⟨d,s4,hf,?_⟩;have hp:cU (p8 ti).n [St s fl,.dat (~~~t)]=[St s fl,.dat (~~~t),.no,.no,.no,.no,.no]:=rfl;have body:(rn (n+60)).b [0] (k+1) (p8 ti).body [St s fl,.dat (~~~t),.no,.no,.no,.no,.no]=some (.rt (.dat d),[St s4 fl,.dat (~~~t),‹pn›,‹qn›,.dat o,.own ex,.own Z]):=by unfold p8;rw[U.b,aC e1,aC e2,aC e3,aC e4,aC e5];unfold fD;rw[e6]
 unfold aM;simp only[vars,bY,hi,List.map_cons,List.map_nil];rw[gL ⟨rfl,by simp⟩,hp,body]
 rfl
end
noncomputable def jJ:Fx:=⟨2,3,[(.set 2 (.lst [⇑1])),(.while (.cmp .NotEq (.ix ⇑0 (.ix ⇑2 (.neg ↥1))) ⇑1) [(.expr (.append 2 (.ix ⇑0 (.ix ⇑2 (.neg ↥1)))))]),(.ret (.blt .tuple [⇑2]))]⟩
noncomputable def jK(rf:Nat):Fx:=⟨2,3,[(.setC 2 (.comp 3 2 (.nm 4) ⇑1 none (.call rf [⇑0,⇑4]))),(.ret (.comp 3 2 (.nm 4) ⇑2 (some (.cmp .Eq (.ix ⇑4 ↥0) (.blt .min [⇑4]))) ⇑4))]⟩
noncomputable def OJ(mt al:Nat):Fx:=⟨2,2,[(.expr (.call mt [⇑0,⇑1])),(.ret (.call al [⇑1,(.fY ⇑0)]))]⟩
noncomputable def Ef:Fx:=⟨2,2,[(.ret (.ite (.cmp .Lt ⇑0 ⇑1) (.tup [⇑0,⇑1]) (.tup [⇑1,⇑0])))]⟩
noncomputable def Jv(pa al ti:Nat):Fx:=⟨1,2,[(.set 1 (.call pa [(.blt .len [⇑0])])),(.ret (.call al [(.wu 2 3 (.tp [3,4]) ⇑1 [⇑3,⇑4] (.call ti [(.ix ⇑0 ⇑3),(.ix ⇑0 ⇑4)])),⇑1]))]⟩
noncomputable def dc(l: ~~~5): ~~~0:=l.getLastD []
theorem gF{l: ~~~5}(h:l≠[]):dc l∈l:=by unfold dc;rw[List.getLastD_eq_getLast?,List.getLast?_eq_some_getLast h];exact List.getLast_mem h
theorem gG(l: ~~~5)(h:l≠[]):L2.fG (l.map ∅) (-1)=some (~~~(dc l)):=by
 obtain⟨a,x,rfl⟩:∃a x,l=a++[x]:=⟨l.dropLast,l.getLast h,(AR h).symm⟩;unfold L2.fG L2.nq dc;have hz:(List.map ∅ (a++[x])).length=a.length+1:=by simp
 rw[hz,hU ⋯,gL ⋯,show (-1+((a.length+1:Nat):Int)).toNat=a.length by lia]
 simp
def Fg(nx: ~~~0->~~~0)(s: ~~~0):Nat->List (~~~0)->Option (~~~5)
 | 0,acc=>if nx (dc acc)=s then some acc else none
 |f+1,acc=>if nx (dc acc)=s then some acc else Fg nx s f (acc++[nx (dc acc)])
def lZ(nx: ~~~0->~~~0)(s: ~~~0): ~~~5:=(Fg nx s 40 [s]).getD []
def zz(r: ~~~5):Bool:=match r with
 | []=>false
 |n::l=>decide (n=mZ n l)
def xF(nx: ~~~0->~~~0)(ps: ~~~5):List (~~~5):=(ps.map (lZ nx)).filter zz
def iA(u: ~~~0)(p: ~~~0): ~~~0:=match p with
 | [a,b]=>if gt u a<gt u b then [gt u a,gt u b]else [gt u b,gt u a]
 |_=>[]
def Bq(nx: ~~~0->~~~0)(ps: ~~~5):Bool:=ps.all λp=>decide (nx p∈ps)&&(match Fg nx p 40 [p]with |some r=>!r.isEmpty&&decide (r.length<=41) |none=>false)&&!p.isEmpty
theorem Br{nx: ~~~0->~~~0}{ps: ~~~5}(hc:∀p∈ps,nx p∈ps){s: ~~~0}{r: ~~~5}:∀(f:Nat) (acc: ~~~5),acc≠[]->(∀x∈acc,x∈ps)->Fg nx s f acc=some r->∀x∈r,x∈ps
 | 0,acc,_,h,e=>by
  unfold Fg at e;split at e
  . cases e;exact h
  . cases e
 |f+1,acc,ha,h,e=>by
  unfold Fg at e;split at e
  . cases e;exact h
  . exact Br hc f _ ⋯ (λx hx=>(t9.mp hx).elim (h x) λz=>by rw[hV.mp z];exact hc _ (h _ (gF ha))) e
theorem Bs(f: ~~~0->D):∀{ps: ~~~5}{p: ~~~0},p∈ps->Qp ps (ps.map f) p=some (f p)
 |q::ps,p,h=>by
  unfold Qp;rw[List.map_cons];by_cases e:q=p
  . simp[e]
  . simp only[e,C1];exact Bs f ((eA.mp h).resolve_left λz=>e z.symm)
theorem O1(n: ~~~0)(l: ~~~5)(h:∀x∈n::l,x≠[]):mL .min [.tup ((n::l).map ∅)]=some (.dat (~~~(mZ n l))):=by have e:=xg (n::l) h;have e2:=sA n l;simp only[mL,Qq,dm,e2,e]
section
variable{k n:Nat}{g g1:G}{rn:Nat->Rn}{fns:List Fx}{pa al ti rf:Nat}(U:kJ fns rn)
include U
theorem O2(L:D)(nx: ~~~0->~~~0)(ps: ~~~5)(hix:∀p∈ps,xX L (~~~p)=some (~~~(nx p)))(hcl:∀p∈ps,nx p∈ps)(s: ~~~0)(r: ~~~5):∀(f N:Nat) (acc: ~~~5),f<N->acc≠[]->(∀x∈acc,x∈ps)->acc.length+f<=100->Fg nx s f acc=some r->
  xY ((rn (n+12)).t [] k (.cmp .NotEq (.ix ⇑0 (.ix ⇑2 (.neg ↥1))) ⇑1)) ((rn (n+12)).b [] k [(.expr (.append 2 (.ix ⇑0 (.ix ⇑2 (.neg ↥1)))))]) N [.dat L,.dat (~~~s),.own (acc.map ∅)]=some (.nx,[.dat L,.dat (~~~s),.own (r.map ∅)]):=by
 have test:∀acc:List (~~~0),acc≠[]->(∀x∈acc,x∈ps)->(rn (n+12)).t [] k (.cmp .NotEq (.ix ⇑0 (.ix ⇑2 (.neg ↥1))) ⇑1) [.dat L,.dat (~~~s),.own (acc.map ∅)]=some (!decide (nx (dc acc)=s),[.dat L,.dat (~~~s),.own (acc.map ∅)]):=λacc h1 h2=>by
  have hx:=hix (dc acc) (h2 _ (gF h1));simp! [U,gG acc h1,hx]
 intro f
 induction f with
 |zero=>
  intro N acc hN h1 h2 h3 hr;obtain⟨N,rfl⟩:∃N',N=N'+1:=⟨N - 1,by lia⟩
  unfold Fg at hr;split at hr
  . rename_i e;cases hr;unfold xY;rw[test _ h1 h2];simp[e]
  . cases hr
 |succ f ih=>
  intro N acc hN h1 h2 h3 hr;obtain⟨N,rfl⟩:∃N',N=N'+1:=⟨N - 1,by lia⟩
  unfold Fg at hr;have hx:=h2 (dc acc) (gF h1);split at hr
  . rename_i e;cases hr;unfold xY;rw[test _ h1 h2];simp[e]
  .
   rename_i e;unfold xY;rw[test acc h1 h2];simp only[e,decide_false,Bool.not_false];have hb:(rn (n+12)).b [] k [(.expr (.append 2 (.ix ⇑0 (.ix ⇑2 (.neg ↥1)))))] [.dat L,.dat (~~~s),.own (acc.map ∅)]=some (.nx,[.dat L,.dat (~~~s),.own ((acc++[nx (dc acc)]).map ∅)]):=by have hlt:acc.length<lim:=eD (mP _) (ak (acc.length+1) ⋯);simp! [U,gG acc h1,hix (dc acc) hx,hlt];simp
   rw[hb];dsimp only;refine ih N (acc++[nx (dc acc)]) ⋯ ⋯ (λx hx'=>?_) (by rw[eJ,n0];lia) hr
   rcases t9.mp hx' with hx' |hx'
   . exact h2 x hx'
   . cases hV.mp hx';exact hcl _ hx
theorem Eg(L:D)(nx: ~~~0->~~~0)(ps: ~~~5)(hix:∀p∈ps,xX L (~~~p)=some (~~~(nx p)))(hcl:∀p∈ps,nx p∈ps)(s: ~~~0)(hs:s∈ps)(r: ~~~5)(hr:Fg nx s 40 [s]=some r):bL (rn (n+20)) k jJ [L,~~~s]=some (.dat (.tup (r.map ∅))):=by
 have w:=λn k=>O2 U (n:=n) (k:=k) L nx ps hix hcl s r 40 100000 [s] ⋯ ⋯ (by simpa using hs) ⋯ hr
 have e:List.map ∅ [s]=[~~~s]:=rfl
 simp only[e]at w;unfold bL jJ;simp! [U,w,ak 1 ⋯]
omit U in
theorem gH{nx: ~~~0->~~~0}{ps: ~~~5}(h:Bq nx ps=true){p: ~~~0}(hp:p∈ps):nx p∈ps/\Fg nx p 40 [p]=some (lZ nx p)/\lZ nx p≠[]/\(∀x∈lZ nx p,x∈ps)/\(lZ nx p).length<=41/\p≠[]:=by
 have:=i4.mp h p hp;simp only[d5,eR]at this;obtain⟨⟨h1,h2⟩,h3⟩:=this;unfold lZ;cases e:Fg nx p 40 [p]with
 |none=>rw[e]at h2;cases h2
 |some r=>
  rw[e]at h2;simp only[d5,eR]at h2;obtain⟨h4,h6⟩:=h2;have hc:∀q∈ps,nx q∈ps:=λq hq=>by
   have:=i4.mp h q hq;simp only[d5,eR]at this;exact this.1.1
  have h5:∀x∈r,x∈ps:=Br hc 40 [p] ⋯ (by simpa using hp) e
  exact⟨h1,rfl,λz=>(by rw[show r=[]from z]at h4;cases h4),h5,h6,λz=>(by rw[z]at h3;cases h3)⟩
variable(hR:fns[rf]?=some jJ)
include hR
theorem Eh(L:D)(nx: ~~~0->~~~0)(ps: ~~~5)(hix:∀p∈ps,xX L (~~~p)=some (~~~(nx p)))(hg:Bq nx ps=true)(hl:ps.length<=100):bL (rn (n+40)) (k+1) (jK rf) [L,.lst (ps.map ∅)]=some (.new ((xF nx ps).map λr=>.tup (r.map ∅))):=by
 have hcl:∀p∈ps,nx p∈ps:=λp hp=>(gH hg hp).1
 have w1:=λn k=>sy (rn:=rn (n+30)) (bor:=[]) (k:=k+1) (g:=[.dat L,.dat (.lst (ps.map ∅)),.no]) (g1:=[.dat L,.dat (.lst (ps.map ∅)),.no]) (kk:=2) (nn:=3) (j:=4) (it:=.slot 1) (e:=.call rf [⇑0,⇑4]) ps ∅ (λs=>D.tup ((lZ nx s).map ∅)) (by simp! [U,dW]) rfl ⋯ ⋯ ⋯ (ak _ ⋯) λs hs G' hG=>by
  have h0:G'[0]?=some (.dat L):=hG.1 0 ⋯;simp! [U,hG.2,h0,hR,aU (fx:=jJ) rfl,Eg U L nx ps hix hcl s hs _ (gH hg hs).2.1]
 have w2:=λn k=>Bg (rn:=rn (n+30)) (bor:=[]) (k:=k+1) (g:=[.dat L,.dat (.lst (ps.map ∅)),.own ((ps.map (lZ nx)).map λr=>.tup (r.map ∅))]) (g1:=[.dat L,.dat (.lst (ps.map ∅)),.dat (.lst ((ps.map (lZ nx)).map λr=>.tup (r.map ∅)))]) (kk:=2) (nn:=3) (j:=4) (it:=.slot 2) (c:=some (.cmp .Eq (.ix ⇑4 ↥0) (.blt .min [⇑4]))) (e:=.slot 4) (ps.map (lZ nx)) (λr=>D.tup (r.map ∅)) zz (λr=>D.tup (r.map ∅)) (by simp! [U,dW]) rfl ⋯ ⋯ ⋯ (ak _ (by rw[fA];lia)) (λr hr G' hG=>by
   obtain⟨s,hs,rfl⟩:=gN.mp hr;obtain⟨_,_,q2,q3,_,_⟩:=gH hg hs;cases e:lZ nx s with
   |nil=>exact absurd e q2
   |cons a l=>
    have h4:=hG.2;rw[e]at h4;have ha:L2.fG ((a::l).map ∅) 0=some (~~~a):=by simp[L2.fG,L2.nq]
    have hm:=O1 a l (λx hx=>(gH hg (q3 x (e▸hx))).2.2.2.2.2)
    simp! [U,vf,h4,ha,hm,zz]) (λr hr _ G' hG=>by simp! [U,hG.2])
 have e1:ps.map (λs=>D.tup ((lZ nx s).map ∅))=(ps.map (lZ nx)).map λr=>.tup (r.map ∅):=by rw[List.map_map];rfl
 unfold bL jK;simp! [U,w1,e1,w2];rfl
omit hR
theorem O4(x y:Int):bL (rn (n+8)) k Ef [.int x,.int y]=some (.dat (~~~(if x<y then [x,y]else [y,x]))):=by
 unfold bL Ef;by_cases h:x<y
 . simp! [U,h,ak 2 ⋯];rfl
 . simp! [U,h,ak 2 ⋯];rfl
variable(hT:fns[ti]?=some Ef)
include hT
theorem sE(m:Nat)(u: ~~~0)(hu:u.length=m)(xZ: ~~~5)(hp:∀p∈xZ,∃a b:Int,p=[a,b]/\0<=a/\a<m/\0<=b/\b<m):∀(ps ka: ~~~5) (a2 a3 a4 a5:Slot),(∀p∈ps,p∈xZ)->(ka++ps).Nodup->(ka++ps).length<=100->jE [a2,a5]=true->∃b3 b4:Slot,
  Uv (rn (n+20)) [] (k+1) (.tp [3,4]) [⇑3,⇑4] (.call ti [(.ix ⇑0 ⇑3),(.ix ⇑0 ⇑4)]) (ps.map ∅) ka (ka.map λp=>~~~(iA u p)) [.dat (~~~u),.dat (.lst (xZ.map ∅)),a2,a3,a4,a5]=some ((ka++ps,(ka++ps).map λp=>~~~(iA u p)),[.dat (~~~u),.dat (.lst (xZ.map ∅)),a2,b3,b4,a5])
 | [],ka,a2,a3,a4,a5,_,_,_,_=>⟨a3,a4,by rw[nK];rfl⟩
 |p::ps,ka,a2,a3,a4,a5,h1,h2,h3,h4=>by
  obtain⟨a,b,e,ha,ha2,hb,hb2⟩:=hp p (h1 p dC);subst e;have h2':((ka++[[a,b]])++ps).Nodup:=by rw[AF];exact h2
  obtain⟨b3,b4,ih⟩:=sE m u hu xZ hp ps (ka++[[a,b]]) a2 ‹a› ‹b› a5 (λp hp=>h1 p (dA _ hp)) h2' (by rw[AF];exact h3) h4
  refine⟨b3,b4,?_⟩;have hn:(ka.all λk=>!decide (k=[a,b]))=true:=by rw[i4];intro x hx;rw[AH]at h2;have:=h2.2.2 x hx [a,b] dC;simp[this]
  have hlk:ka.length<lim:=eD (mP _) (ak (ka.length+1) (by rw[eJ]at h3;lia))
  have nl:∀l:List Int,fK (l.map D.int)=true:=λl=>by induction l with |nil=>rfl |cons x l ih=>rw[List.map_cons];exact ih
  have nl2:fK (xZ.map ∅)=true:=by
   clear h1 h2 h3 hp ih h2'
   induction xZ with
   |nil=>rfl
   |cons x l ih=>rw[List.map_cons];show (iM (~~~x)&&fK _)=true;rw[ih];simp[iM,nl]
  have ng:jE [.dat (~~~u),.dat (.lst (xZ.map ∅)),a2,‹a›,‹b›,a5]=true:=by
   have h5:jE [a2]=true/\jE [a5]=true:=by cases a2 <;> cases a5 <;> simp_all [jE]
   cases a2 <;> cases a5 <;> simp_all [jE,iM]
  have x1:(rn (n+20)).e [] (k+1) (.call ti [(.ix ⇑0 ⇑3),(.ix ⇑0 ⇑4)]) [.dat (~~~u),.dat (.lst (xZ.map ∅)),a2,‹a›,‹b›,a5]=some (.dat (~~~(iA u [a,b])),[.dat (~~~u),.dat (.lst (xZ.map ∅)),a2,‹a›,‹b›,a5]):=by have t1:=O4 U (n:=n+11) (k:=k) (gt u a) (gt u b);simp! [U,cu (t:=u) (i:=a) ⋯,cu (t:=u) (i:=b) ⋯,hT,aU (fx:=Ef) rfl,t1,iA]
  have nx:iM (~~~(iA u [a,b]))=true:=by simp[iM,nl]
  have st:Tg.set (.tp [3,4]) (~~~[a,b]) [.dat (~~~u),.dat (.lst (xZ.map ∅)),a2,a3,a4,a5]=some [.dat (~~~u),.dat (.lst (xZ.map ∅)),a2,‹a›,‹b›,a5]:=rfl
  have ar:ju (rn (n+20)) [] (k+1) [⇑3,⇑4] [.dat (~~~u),.dat (.lst (xZ.map ∅)),a2,‹a›,‹b›,a5]=some ([.int a,.int b],[.dat (~~~u),.dat (.lst (xZ.map ∅)),a2,‹a›,‹b›,a5]):=by simp! [U,U.e]
  have ii:bq [.int a,.int b]=some [a,b]:=rfl;have evd:dI (rn (n+20)) [] (k+1) (.call ti [(.ix ⇑0 ⇑3),(.ix ⇑0 ⇑4)]) [.dat (~~~u),.dat (.lst (xZ.map ∅)),a2,‹a›,‹b›,a5]=some (~~~(iA u [a,b]),[.dat (~~~u),.dat (.lst (xZ.map ∅)),a2,‹a›,‹b›,a5]):=by unfold dI;rw[x1];rfl
  rw[List.map_cons];unfold Uv;rw[st];dsimp only;rw[ar];dsimp only;rw[ii];dsimp only;rw[evd];dsimp only;rw[gL ⟨by rw[hn,ng,nx];rfl,hlk,ak 2 ⋯⟩]
  rw[AI]at ih;rw[AF]at ih;exact ih
variable(hA:fns[al]?=some (jK rf)){O5:Fx}(hP:fns[pa]?=some O5)
include hA hR hP
theorem V4(m:Nat)(hm:1<=m/\m<=9)(u: ~~~0)(hu:u.length=m)(ps: ~~~5)(hps:bL (rn (n+58)) (k+1) O5 [.int m]=some (.new (ps.map ∅)))(hnp:O5.np=1)(hp:∀p∈ps,∃a b:Int,p=[a,b]/\0<=a/\a<m/\0<=b/\b<m)(hnd:ps.Nodup)(hl:ps.length<=100)(hg:Bq (iA u) ps=true) :
  bL (rn (n+60)) (k+2) (Jv pa al ti) [~~~u]=some (.new ((xF (iA u) ps).map λr=>.tup (r.map ∅))):=by
 obtain⟨b3,b4,d⟩:=sE U hT (n:=n+37) (k:=k+1) m u hu ps hp ps [] .no .no .no .no (λ_ h=>h) hnd hl rfl
 have d':pg (rn (n+57)) [] (k+2) 2 3 (.tp [3,4]) ⇑1 [⇑3,⇑4] (.call ti [(.ix ⇑0 ⇑3),(.ix ⇑0 ⇑4)]) [.dat (~~~u),.own (ps.map ∅)]=some ((ps,ps.map λp=>~~~(iA u p)),[.dat (~~~u),.dat (.lst (ps.map ∅))]):=by
  have hw:dW (rn (n+57)) [] (k+2) true ⇑1 [.dat (~~~u),.own (ps.map ∅)]=some (ps.map ∅,[.dat (~~~u),.dat (.lst (ps.map ∅))]):=by simp! [U,dW]
  unfold pg;rw[show Tg.gU (.tp [3,4])=true from rfl,hw]
  dsimp only;rw[gL ⟨rfl,rfl⟩];have dd:Uv (rn (n+57)) [] (k+2) (.tp [3,4]) [⇑3,⇑4] (.call ti [(.ix ⇑0 ⇑3),(.ix ⇑0 ⇑4)]) (ps.map ∅) [] [] (gD 3 [.dat (~~~u),.dat (.lst (ps.map ∅))])=_:=d
  rw[dd];rfl
 have a1:=Eh U hR (n:=n+18) (k:=k) (.tL ps (ps.map λp=>~~~(iA u p))) (iA u) ps (λp vI=>by
  show (match bq (p.map .int)with |some n=>Qp ps (ps.map λp=>~~~(iA u p)) n |none=>none)=_
  rw[ints_map];exact Bs (λp=>~~~(iA u p)) vI) hg hl
 unfold bL Jv;simp! [U,hu,hP,bw (fx:=O5) hnp,hps,d',hA,aU (fx:=jK rf) rfl,a1]
end
noncomputable def O6:Ex:=.or [(.cmp .Lt (.blt .len [⇑4]) ↥2),(.cmp .NotEq (.ix ⇑4 (.neg ↥1)) ⇑3)]
noncomputable def O7:List Sm:=[(.expr (.append 4 (.blt .tuple [(.blt .sorted [(.lst [(.ix ⇑0 (.ix (.ix ⇑4 (.neg ↥1)) ↥0)),(.ix ⇑0 (.ix (.ix ⇑4 (.neg ↥1)) ↥1))])])])))]
noncomputable def W6:List Sm:=[(.set 4 (.lst [⇑3])),(.while O6 O7),(.ite (.cmp .NotIn ⇑3 ⇑2) [(.expr (.append 1 (.blt .tuple [(.slice ⇑4 none (some (.neg ↥1)))])))] []),(.set 2 (.bin .Add ⇑2 ⇑4))]
noncomputable def Ei(pa:Nat):Fx:=⟨1,5,[(.set 1 (.lst [])),(.set 2 (.lst [])),(.loop (.nm 3) (.call pa [(.blt .len [⇑0])]) W6),(.ret ⇑1)]⟩
def fC(u: ~~~0)(p: ~~~0): ~~~0:=match p with
 | [a,b]=>bO [gt u a,gt u b]
 |_=>[]
def Qy(nx: ~~~0->~~~0)(s: ~~~0):Nat->List (~~~0)->Option (~~~5)
 | 0,acc=>if acc.length<2\/dc acc≠s then none else some acc
 |f+1,acc=>if acc.length<2\/dc acc≠s then Qy nx s f (acc++[nx (dc acc)])else some acc
def jL(nx: ~~~0->~~~0)(s: ~~~0): ~~~5:=(Qy nx s 40 [s]).getD []
def ZS(l: ~~~5)(x: ~~~0):Bool:=(l.map ∅).any λd=>bW d (~~~x)
def mh(nx: ~~~0->~~~0): ~~~5->List (~~~5)->List (~~~0)->List (~~~5)
 | [],aV,_=>aV
 |p::ps,aV,seen=>mh nx ps (if ZS seen p then aV else aV++[(jL nx p).dropLast]) (seen++jL nx p)
def Bt(nx: ~~~0->~~~0)(ps: ~~~5):Bool:=ps.all λp=>decide (nx p∈ps)&&(match Qy nx p 40 [p]with |some r=>!r.isEmpty&&decide (r.length<=41) |none=>false)
theorem qg{nx: ~~~0->~~~0}{ps: ~~~5}(h:Bt nx ps=true){p: ~~~0}(hp:p∈ps):nx p∈ps/\Qy nx p 40 [p]=some (jL nx p)/\jL nx p≠[]/\(jL nx p).length<=41:=by
 have:=i4.mp h p hp;simp only[d5,eR]at this;obtain⟨h1,h2⟩:=this;unfold jL;cases e:Qy nx p 40 [p]with
 |none=>rw[e]at h2;cases h2
 |some r=>rw[e]at h2;simp only[d5,eR]at h2;obtain⟨h4,h6⟩:=h2;exact⟨h1,rfl,λz=>(by rw[show r=[]from z]at h4;cases h4),h6⟩
theorem Ej(l: ~~~5)(x: ~~~0):fz .NotIn (~~~x) (.lst (l.map ∅))=some (!ZS l x):=by
 have h2:fy (l.map λr=>~~~r)=true:=pZ λx hx=>by obtain⟨r,_,rfl⟩:=gN.mp hx;simp[g5,dM]
 have h3:deps (l.map λr=>~~~r)<=5:=p7 λx hx=>by obtain⟨r,_,rfl⟩:=gN.mp hx;exact Pl.tup.2
 have h:wz (~~~x) (l.map ∅)=true:=by simp only[wz,g5,dM,h2,d5,eR,true_and];lia
 simp only[fz,dm,h,An];rfl
theorem Jw(l: ~~~5)(h:l≠[]):gR (l.map ∅) none (some (-1))=(l.dropLast).map λx=>~~~x:=by
 obtain⟨a,x,rfl⟩:∃a x,l=a++[x]:=⟨l.dropLast,l.getLast h,(AR h).symm⟩;have hz:(List.map ∅ (a++[x])).length=a.length+1:=by simp
 have e1:HT.bR (a.length+1) 0 none=0:=rfl;have e2:HT.bR (a.length+1) (a.length+1) (some (-1))=a.length:=by unfold HT.bR;simp;lia
 unfold gR;rw[hz,e1,e2];simp
section
variable{k n:Nat}{g g1:G}{rn:Nat->Rn}{fns:List Fx}{pa:Nat}(U:kJ fns rn)
include U
theorem ZT(m:Nat)(u: ~~~0)(hu:u.length=m)(ps: ~~~5)(hp:∀p∈ps,∃a b:Int,p=[a,b]/\0<=a/\a<m/\0<=b/\b<m)(hcl:∀p∈ps,fC u p∈ps)(s: ~~~0)(r: ~~~5)(a1 a2:Slot):∀(f N:Nat) (acc: ~~~5),f<N->acc≠[]->(∀x∈acc,x∈ps)->acc.length+f<=100->Qy (fC u) s f acc=some r->
  xY ((rn (n+12)).t [] k O6) ((rn (n+12)).b [] k O7) N [.dat (~~~u),a1,a2,.dat (~~~s),.own (acc.map ∅)]=some (.nx,[.dat (~~~u),a1,a2,.dat (~~~s),.own (r.map ∅)]):=by
 have test:∀acc:List (~~~0),acc≠[]->(rn (n+12)).t [] k O6 [.dat (~~~u),a1,a2,.dat (~~~s),.own (acc.map ∅)]=some (decide (acc.length<2\/dc acc≠s),[.dat (~~~u),a1,a2,.dat (~~~s),.own (acc.map ∅)]):=λacc h1=>by
  unfold O6;by_cases h2:acc.length<2
  .
   have h2':(acc.length:Int)<2:=by lia
   simp! [U,gG acc h1,h2,h2']
  .
   have h2' : ¬ (acc.length:Int)<2:=by lia
   simp! [U,gG acc h1,h2,h2']
 have body:∀acc:List (~~~0),acc≠[]->(∀x∈acc,x∈ps)->acc.length<=100->(rn (n+12)).b [] k O7 [.dat (~~~u),a1,a2,.dat (~~~s),.own (acc.map ∅)]=some (.nx,[.dat (~~~u),a1,a2,.dat (~~~s),.own ((acc++[fC u (dc acc)]).map ∅)]):=λacc h1 h2 h3=>by
  obtain⟨a,b,e,ha,ha2,hb,hb2⟩:=hp _ (h2 _ (gF h1));have hlt:acc.length<lim:=eD (mP _) (ak (acc.length+1) ⋯);have l1:=gG acc h1;have i0:L2.fG (List.map D.int [a,b]) 0=some (.int a):=rfl;have i1:L2.fG (List.map D.int [a,b]) 1=some (.int b):=rfl;have so:mL .sorted [.lst [.int (gt u a),.int (gt u b)]]=some (.new ((bO [gt u a,gt u b]).map .int)):=iR [gt u a,gt u b] ⋯;rw[e]at l1;unfold O7;simp! [U,l1,i0,i1,cu (t:=u) (i:=a) ⋯,cu (t:=u) (i:=b) ⋯,so,hlt,ak 2 ⋯,e,fC];simp
 intro f
 induction f with
 |zero=>
  intro N acc hN h1 h2 h3 hr;obtain⟨N,rfl⟩:∃N',N=N'+1:=⟨N - 1,by lia⟩
  unfold Qy at hr;split at hr
  . cases hr
  . rename_i e;cases hr;unfold xY;rw[test _ h1];simp[e]
 |succ f ih=>
  intro N acc hN h1 h2 h3 hr;obtain⟨N,rfl⟩:∃N',N=N'+1:=⟨N - 1,by lia⟩
  unfold Qy at hr;split at hr
  .
   rename_i e;unfold xY;rw[test _ h1];simp only[e,decide_true];rw[body acc h1 h2 ⋯];dsimp only;refine ih N (acc++[fC u (dc acc)]) ⋯ ⋯ (λx hx'=>?_) (by rw[eJ,n0];lia) hr
   rcases t9.mp hx' with hx' |hx'
   . exact h2 x hx'
   . cases hV.mp hx';exact hcl _ (h2 _ (gF h1))
  . rename_i e;cases hr;unfold xY;rw[test _ h1];simp[e]
theorem Ek(m:Nat)(u: ~~~0)(hu:u.length=m)(ps: ~~~5)(hp:∀p∈ps,∃a b:Int,p=[a,b]/\0<=a/\a<m/\0<=b/\b<m)(hg:Bt (fC u) ps=true)(s: ~~~0)(hs:s∈ps)(aV:List (~~~5))(seen: ~~~5)(hf:aV.length<=100)(hsn:seen.length<=5000)(a4:Slot) :
  (rn (n+20)).b [] k W6 [.dat (~~~u),.own (aV.map λr=>.tup (r.map ∅)),.own (seen.map ∅),.dat (~~~s),a4]=some (.nx,[.dat (~~~u),.own ((if ZS seen s then aV else aV++[(jL (fC u) s).dropLast]).map λr=>.tup (r.map ∅)),.own ((seen++jL (fC u) s).map ∅),.dat (~~~s),.own ((jL (fC u) s).map ∅)]):=by
 obtain⟨q1,q2,q3,q4⟩:=qg hg hs;have w:=ZT U (n:=n+7) (k:=k) m u hu ps hp (λp hp=>(qg hg hp).1) s _ (.own (aV.map λr=>.tup (r.map ∅))) (.own (seen.map ∅)) 40 100000 [s] ⋯ ⋯ (by simpa using hs) ⋯ q2
 have e:List.map ∅ [s]=[~~~s]:=rfl
 rw[e]at w;have ni:=Ej seen s;have cl:=Jw _ q3;have hlt:aV.length<lim:=eD (mP _) (ak (aV.length+1) ⋯);have ad:ve .Add (.lst (seen.map ∅)) (.lst ((jL (fC u) s).map ∅))=some (.new ((seen++jL (fC u) s).map ∅)):=by
  show (if (seen.map ∅).length+((jL (fC u) s).map ∅).length<=lim then _ else _)=_
  rw[fA,fA,gL (by unfold lim;lia),AI]
 unfold W6;by_cases hi:ZS seen s=true
 . simp! [U,ak 1 ⋯,w,ni,hi,ad]
 . have hi:=Bool.eq_false_iff.mpr hi;simp! [U,ak 1 ⋯,w,ni,hi,ad,rY,cl,hlt];simp
variable{O5:Fx}(hP:fns[pa]?=some O5)
include hP
theorem V5(m:Nat)(hm:1<=m/\m<=9)(u: ~~~0)(hu:u.length=m)(ps: ~~~5)(hps:bL (rn (n+38)) k O5 [.int m]=some (.new (ps.map ∅)))(hnp:O5.np=1)(hp:∀p∈ps,∃a b:Int,p=[a,b]/\0<=a/\a<m/\0<=b/\b<m)(hl:ps.length<=100)(hg:Bt (fC u) ps=true) :
  bL (rn (n+40)) (k+1) (Ei pa) [~~~u]=some (.new ((mh (fC u) ps [] []).map λr=>.tup (r.map ∅))):=by
 have loop:∀(qs: ~~~5) (aV:List (~~~5)) (seen: ~~~5) (a3 a4:Slot),(∀p∈qs,p∈ps)->aV.length+qs.length<=100->seen.length+41 * qs.length<=5000->∃b2 b3 b4:Slot,
   eY (.nm 3) ((rn (n+39)).b [] (k+1) W6) (qs.map ∅) [.dat (~~~u),.own (aV.map λr=>.tup (r.map ∅)),.own (seen.map ∅),a3,a4]=some (.nx,[.dat (~~~u),.own ((mh (fC u) qs aV seen).map λr=>.tup (r.map ∅)),b2,b3,b4]):=by
  intro qs
  induction qs with
  |nil=>intro aV seen a3 a4 _ _ _;exact⟨_,_,_,rfl⟩
  |cons p qs ih=>
   intro aV seen a3 a4 h1 h2 h3;rw[l4]at h2 h3;obtain⟨_,_,_,q4⟩:=qg hg (h1 p dC);have t:=Ek U (n:=n+19) (k:=k+1) m u hu ps hp hg p (h1 p dC) aV seen ⋯ ⋯ a4;obtain⟨b2,b3,b4,r⟩:=ih (if ZS seen p then aV else aV++[(jL (fC u) p).dropLast]) (seen++jL (fC u) p) (.dat (~~~p)) (.own ((jL (fC u) p).map ∅)) (λq hq=>h1 q (dA _ hq)) (by split <;> (try rw[eJ,n0]) <;> lia) (by rw[eJ];lia)
   refine⟨b2,b3,b4,?_⟩;rw[List.map_cons];unfold eY;have st:Tg.set (.nm 3) (~~~p) [.dat (~~~u),.own (aV.map λr=>.tup (r.map ∅)),.own (seen.map ∅),a3,a4]=some [.dat (~~~u),.own (aV.map λr=>.tup (r.map ∅)),.own (seen.map ∅),.dat (~~~p),a4]:=rfl
   rw[st];dsimp only;rw[t];exact r
 obtain⟨b2,b3,b4,lp⟩:=loop ps [] [] .no .no (λ_ h=>h) (by simpa using hl) (by simp;lia)
 have hw:dW (rn (n+39)) [] (k+1) false (.call pa [(.blt .len [⇑0])]) [.dat (~~~u),.own [],.own [],.no,.no]=some (ps.map ∅,[.dat (~~~u),.own [],.own [],.no,.no]):=by simp! [U,dW,hu,hP,bw (fx:=O5) hnp,hps]
 have e3:aG (rn (n+39)) [] (k+1) (.loop (.nm 3) (.call pa [(.blt .len [⇑0])]) W6) [.dat (~~~u),.own [],.own [],.no,.no]=some (.nx,[.dat (~~~u),.own ((mh (fC u) ps [] []).map λr=>.tup (r.map ∅)),b2,b3,b4]):=by
  have lp':eY (.nm 3) ((rn (n+39)).b [] (k+1) W6) (ps.map ∅) [.dat (~~~u),.own [],.own [],.no,.no]=some (.nx,[.dat (~~~u),.own ((mh (fC u) ps [] []).map λr=>.tup (r.map ∅)),b2,b3,b4]):=lp
  simp only[aG,Tg.ix,Tg.gU,hw,lp'];simp
 have e1:aG (rn (n+39)) [] (k+1) (.set 1 (.lst [])) [.dat (~~~u),.no,.no,.no,.no]=some (.nx,[.dat (~~~u),.own [],.no,.no,.no]):=by simp! [U,ak 0 ⋯]
 have e2:aG (rn (n+39)) [] (k+1) (.set 2 (.lst [])) [.dat (~~~u),.own [],.no,.no,.no]=some (.nx,[.dat (~~~u),.own [],.own [],.no,.no]):=by simp! [U,ak 0 ⋯]
 have pd:cU 5 (Vx [~~~u])=[.dat (~~~u),.no,.no,.no,.no]:=rfl;unfold bL Ei;dsimp only;rw[pd,U.b,aC e1,aC e2,aC e3];simp! [U,U.e]
end
noncomputable def jM(wi:Nat):Fx:=⟨2,2,[(.ite (.or [(.not (.vd ⇑1 "tuple")),(.cmp .NotEq (.blt .len [⇑1]) ↥2)]) (~~~4) []),(.ret (.and [(.blt .all [(.comp 2 2 (.nm 3) ⇑1 none (.call wi [⇑3,↥0,(.bin .Sub ⇑0 ↥1)]))]),(.cmp .Lt (.ix ⇑1 ↥0) (.ix ⇑1 ↥1))]))]⟩
noncomputable def zA:Fx:=⟨1,1,[(.ret (.blt .all [(.comp 1 2 (.nm 2) (.fL ↥1 (.blt .len [⇑0])) none (.cmp .Lt (.ix ⇑0 (.bin .Sub ⇑2 ↥1)) (.ix ⇑0 ⇑2)))]))]⟩
noncomputable def fc(wi it ri:Nat):Fx:=⟨1,3,[(.ite (.or [(.not (.vd ⇑0 "tuple")),(.cmp .NotEq (.blt .len [⇑0]) ↥2)]) (~~~4) []),(.tgt (.tp [1,2]) ⇑0),(.ite (.or [(.not (.call wi [⇑1,↥1,↥6])),(.not (.vd ⇑2 "tuple"))]) (~~~4) []),(.ret (.and [(.blt .all [(.comp 3 2 (.nm 4) ⇑2 none (.call it [⇑1,⇑4]))]),(.call ri [⇑2])]))]⟩
noncomputable def bC(iw ci:Nat):Fx:=⟨1,1,[(.ite (.not (.call iw [⇑0])) [(.raise ci (.val (.str (PySem.Str.ofString "no web"))))] [])]⟩
noncomputable def W(m:Nat)(au: ~~~5):D:=.tup [.int m,.tup (au.map ∅)]
structure Wb(m:Nat)(au: ~~~5):Prop where
 tie:∀x∈au,∃a b:Int,x=[a,b]/\0<=a/\a<b/\b<m
 ris:au.Pairwise λx y=>HT.lexLt x y=true
 len:au.length<=15
theorem sF(l: ~~~5):fy (l.map ∅)=true:=by
 induction l with
 |nil=>rfl
 |cons x l ih=>simp[fy,g5,dM,ih]
theorem sG(l: ~~~5):deps (l.map ∅)<=1:=by
 induction l with
 |nil=>simp[deps]
 |cons x l ih=>simp[deps,dep,je];lia
theorem sH:∀a b:List (~~~0),dj (a.map ∅) (b.map ∅)=decide (a=b)
 | [],[]=>rfl
 | [],_::_=>rfl
 |_::_,[]=>rfl
 |x::a,y::b=>by
  simp only[List.map_cons,dj,bW,eK,sH a b,List.cons.injEq,Bool.decide_and]
theorem V6(m m':Nat)(a b: ~~~5):fZ (W m a) (W m' b)=true:=by have:=sG a;simp[fZ,W,g5,fy,sF,dep,deps];lia
theorem ZV(m:Nat)(a b: ~~~5):bW (W m a) (W m b)=decide (a=b):=by simp[W,bW,dj,sH]
section
variable{wh wi it ri iw ci:Nat}(U:kJ fns rn)
include U
variable(hW:fns[wh]?=some bH)(hI:fns[wi]?=some (aZ wh))
include hW hI
theorem Jx(m:Nat)(a b:Int)(h:0<=a/\a<b/\b<m):bL (rn (n+40)) (k+3) (jM wi) [.int m,~~~[a,b]]=some (.dat (.bl true)):=by
 have w:=λn k=>sy (rn:=rn (n+24)) (bor:=[]) (k:=k+2) (g:=[‹m›,.dat (~~~[a,b])]) (g1:=[‹m›,.dat (~~~[a,b])]) (kk:=2) (nn:=2) (j:=3) (it:=.slot 1) (e:=.call wi [⇑3,↥0,(.bin .Sub ⇑0 ↥1)]) [a,b] .int (λ_=>.bl true) (by simp! [U,dW]) rfl ⋯ ⋯ ⋯ (ak _ ⋯) λx hx G' hG=>by
  have h0:G'[0]?=some ‹m›:=hG.1 0 ⋯;have hx':(0:Int)<=x/\x<=m - 1:=by simp only[eA,l5,xL]at hx;lia
  simp! [U,hG.2,h0,hI,cZ (fx:=aZ wh) rfl,gA U hW,xu,hx']
 have e1:[a,b].map (λ_=>D.bl true)=([true,true]).map .bl:=rfl
 have i0:L2.fG ([a,b].map D.int) 0=some (.int a):=rfl;have i1:L2.fG ([a,b].map D.int) 1=some (.int b):=rfl;unfold bL jM;simp! [U,w,e1,i0,i1,h]
omit hW hI in
theorem V7(m:Nat)(au: ~~~5)(h:Wb m au):bL (rn (n+40)) k zA [.tup (au.map ∅)]=some (.dat (.bl true)):=by
 have hl:=h.len;have w:=λn k=>sy (rn:=rn (n+16)) (bor:=[]) (k:=k) (g:=[.dat (.tup (au.map ∅))]) (g1:=[.dat (.tup (au.map ∅))]) (kk:=2) (nn:=1) (j:=2) (it:=.fL ↥1 (.blt .len [⇑0])) (e:=.cmp .Lt (.ix ⇑0 (.bin .Sub ⇑2 ↥1)) (.ix ⇑0 ⇑2)) (List.range (au.length - 1)) (λ(k:Nat)=>.int (1+k:Int)) (λ_=>.bl true) (by
   have e:((au.length:Int) - 1).toNat=au.length - 1:=by lia
   simp! [U,dW,aN 1 ⋯,aN (au.length:Int) ⋯,e,cJ]) rfl ⋯ ⋯ ⋯ (ak _ (by simp;lia)) λj hj G' hG=>by
  have h0:G'[0]?=some (.dat (.tup (au.map ∅))):=hG.1 0 ⋯
  have hj':=wE.mp hj;have j1:L2.fG (au.map ∅) (1+(j:Int) - 1)=some (~~~(au[j]'⋯)):=by rw[show (1+(j:Int) - 1)=((j:Nat):Int)by lia,nO _ _ (by simp;lia)];simp
  have j2:L2.fG (au.map ∅) (1+(j:Int))=some (~~~(au[j+1]'⋯)):=by rw[show (1+(j:Int))=((j+1:Nat):Int)by lia,nO _ _ (by simp;lia)];simp
  have hlt:HT.lexLt (au[j]'⋯) (au[j+1]'⋯)=true:=List.pairwise_iff_getElem.mp h.ris j (j+1) ⋯ ⋯ ⋯;have hc:fz .Lt (~~~(au[j]'⋯)) (~~~(au[j+1]'⋯))=some true:=by simp only[fz,ltF,ints_map,hlt]
  simp! [U,hG.2,h0,j1,j2,hc]
 have e1:(List.range (au.length - 1)).map (λ_=>D.bl true)=((List.range (au.length - 1)).map λ_=>true).map .bl:=by rw[List.map_map];rfl
 have e2:((List.range (au.length - 1)).map λ_=>true).all id=true:=by simp
 unfold bL zA;simp! [U,w,e1,e2]
variable(se:fns[it]?=some (jM wi))(hR:fns[ri]?=some zA)
include se hR
theorem xG(m:Nat)(au: ~~~5)(hm:1<=m/\m<=6)(h:Wb m au):bL (rn (n+60)) (k+5) (fc wi it ri) [W m au]=some (.dat (.bl true)):=by
 have hl:=h.len;have w:=λn k=>sy (rn:=rn (n+50)) (bor:=[]) (k:=k+4) (g:=[.dat (W m au),‹m›,.dat (.tup (au.map ∅))]) (g1:=[.dat (W m au),‹m›,.dat (.tup (au.map ∅))]) (kk:=2) (nn:=3) (j:=4) (it:=.slot 2) (e:=.call it [⇑1,⇑4]) au ∅ (λ_=>.bl true) (by simp! [U,dW]) rfl ⋯ ⋯ ⋯ (ak _ ⋯) λx hx G' hG=>by
  have h1:G'[1]?=some ‹m›:=hG.1 1 ⋯;obtain⟨a,b,rfl,hab⟩:=h.tie x hx;simp! [U,hG.2,h1,se,aU (fx:=jM wi) rfl,Jx U hW hI m a b hab]
 have e1:au.map (λ_=>D.bl true)=(au.map λ_=>true).map .bl:=by rw[List.map_map];rfl
 have e2:(au.map λ_=>true).all id=true:=by simp
 have q:=λn k=>V7 U (n:=n) (k:=k) m au h
 have ty:iu (tT (W m au)) "tuple"=true:=rfl;have bl:mL .len [W m au]=some ‹2›:=rfl;have st:∀s1 s2,Tg.set (.tp [1,2]) (W m au) [.dat (W m au),s1,s2]=some [.dat (W m au),‹m›,.dat (.tup (au.map ∅))]:=λ_ _=>rfl
 unfold bL fc;simp! [U,ty,bl,Tg.ix,st,hI,cZ (fx:=aZ wh) rfl,gA U hW,xu,(show (1:Int)<=m/\(m:Int)<=6 by lia),w,e1,e2,hR,bw (fx:=zA) rfl,q]
variable(Ko:fns[iw]?=some (fc wi it ri))
include Ko
theorem qh(m:Nat)(au: ~~~5)(hm:1<=m/\m<=6)(h:Wb m au):bL (rn (n+70)) (k+6) (bC iw ci) [W m au]=some (.dat .non):=by unfold bL bC;simp! [U,Ko,bw (fx:=fc wi it ri) rfl,xG U hW hI se hR m au hm h]
omit U hW hI se hR Ko in
theorem mR{rn:Rn}{bor:List Nat}{k:Nat}:∀(l:List Sm) (g:G),(∀st∈l,∀g,gW rn bor k st g=none)->eZ rn bor k l g=none
 | [],_,_=>rfl
 |st::l,g,h=>by
  unfold eZ;rw[h st dC];dsimp only;split
  . exact mR l _ λs hs=>h s (dA _ hs)
  . rfl
omit hW hI se hR Ko in
theorem V8(d:D):fO (rn (n+60)) k (fc wi it ri) [d]=none:=by
 have rf:∀g,(rn (n+59)).xb [] k (~~~4) g=none:=λg=>by simp! [U,U.e]
 have r0:∀g,(rn (n+59)).xb [] k [] g=none:=λg=>by simp! [U,U.e]
 unfold fO fc;rw[U.xb,mR];intro st hs g;simp only[eA,l5,xL]at hs;rcases hs with rfl |rfl |rfl |rfl
 . simp only[gW,U.xt,lO,rf,r0];split <;> first |rfl | (split <;> rfl)
 . simp! [U,U.e]
 . simp only[gW,U.xt,lO,rf,r0];split <;> first |rfl | (split <;> rfl)
 . simp! [U,U.e]
theorem Jy(m:Nat)(au: ~~~5)(hm:1<=m/\m<=6)(h:Wb m au):fO (rn (n+70)) (k+6) (bC iw ci) [W m au]=none:=by unfold fO bC;simp! [U,Ko,uG (fx:=fc wi it ri) rfl,V8 U,bw (fx:=fc wi it ri) rfl,xG U hW hI se hR m au hm h]
end
def tm(t: ~~~0)(x: ~~~0): ~~~0:=if gt t (gt x 0)<gt t (gt x 1)then [gt t (gt x 0),gt t (gt x 1)]else [gt t (gt x 1),gt t (gt x 0)]
def tw(t: ~~~0)(au: ~~~5): ~~~5:=cO fW (au.map (tm t))
theorem nU(a b:Int):gt [a,b] 0=a/\gt [a,b] 1=b:=⟨rfl,rfl⟩
theorem Bu(t: ~~~0)(a b:Int):tm t [a,b]=if gt t a<gt t b then [gt t a,gt t b]else [gt t b,gt t a]:=rfl
def Pr(m:Nat)(x: ~~~0):Prop:=∃a b:Int,x=[a,b]/\0<=a/\a<b/\b<m
theorem jw{l: ~~~5}(h:l.Nodup):(cO fW l).Pairwise λx y=>HT.lexLt x y=true:=by
 have h1:=gS (O:=fW) l;have h2:(cO fW l).Nodup:=(cK l).nodup_iff.mpr h;rw[List.nodup_iff_pairwise_ne]at h2;refine (h1.and h2).imp λ{x y} ⟨q1,q2⟩=>?_
 cases e:HT.lexLt x y with
 |true=>rfl
 |false=>exact absurd (lH x y e q1) q2
def oth(i:Int)(x: ~~~0):Option Int:=if gt x 0=i then some (gt x 1)else if gt x 1=i then some (gt x 0)else none
def nb(i:Int)(au: ~~~5): ~~~0:=au.filterMap (oth i)
noncomputable def has(i:Int)(x: ~~~0):Bool:=decide (gt x 0=i)||decide (gt x 1=i)
def ext(m:Nat)(l: ~~~5): ~~~5:=l.flatMap λr=>((nums m).filter λx=>!decide (x∈r)).map λx=>r++[x]
def nW(m:Nat):Nat->List (~~~0)
 | 0=>[[]]
 |s+1=>ext m (nW m s)
def turnsOf(m:Nat): ~~~5:=nW m m
def Qz(m:Nat):Bool:=(turnsOf m).all (λt=>decide (bO t=nums m))&&decide ((turnsOf m).length<=720)
theorem okT1:Qz 1=true:=by decide +kernel
theorem okT2:Qz 2=true:=by decide +kernel
theorem okT3:Qz 3=true:=by decide +kernel
theorem okT4:Qz 4=true:=by decide +kernel
theorem okT5:Qz 5=true:=by decide +kernel
theorem okT6:Qz 6=true:=by decide +kernel
theorem zB{m:Nat}(hm:1<=m/\m<=6):(∀t∈turnsOf m,Tn m t)/\(turnsOf m).length<=720:=by
 have k:Qz m=true:=by
  obtain⟨h1,h2⟩:=hm
  match m,h1,h2 with
  | 1,_,_=>exact okT1
  | 2,_,_=>exact okT2
  | 3,_,_=>exact okT3
  | 4,_,_=>exact okT4
  | 5,_,_=>exact okT5
  | 6,_,_=>exact okT6
 unfold Qz at k;simp only[d5,i4,eR]at k;exact⟨λt ht=>k.1 t ht,k.2⟩
section
theorem qi{α:Type}{T:Tg}{last kk:Nat}{c:Option Ex}{e:Ex}(cH:α->D)(f:α->D)(p:α->Bool)(st:α->G->G)(I:G->Prop)(hI:∀m,I m->m.length=kk)(cN:last=g.length+kk)(dg:∀d m,I m->I (st d m)) :
  ∀(items:List α) (m:G) (acc:List D),I m->acc.length+items.length<=lim->
  (∀d∈items,∀m acc,I m->T.set (cH d) (gM g m acc)=some (gM g (st d m) acc))->
  (∀d∈items,∀m acc,I m->vf rn bor k c (gM g (st d m) acc)=some (p d,gM g (st d m) acc))->
  (∀d∈items,p d=true->∀m acc,I m->dI rn bor k e (gM g (st d m) acc)=some (f d,gM g (st d m) acc))->
  ∃m',I m'/\yR rn bor k T last c e (items.map cH) (gM g m acc)=some (gM g m' (acc++(items.filter p).map f))
 | [],m,acc,hm,_,_,_,_=>⟨m,hm,by simp[yR]⟩
 |d::items,m,acc,hm,hl,hT,hi,he=>by
  rw[l4]at hl;have q1:=hT d dC m acc hm;have q2:=hi d dC m acc hm;have hm':=dg d m hm;have hk:=hI _ hm';rw[List.map_cons];unfold yR;rw[q1];dsimp only;rw[q2];cases hp:p d with
  |false=>
   dsimp only;obtain⟨m',w1,w2⟩:=qi cH f p st I hI cN dg items (st d m) acc hm' ⋯ (λx hx=>hT x (dA _ hx)) (λx hx=>hi x (dA _ hx)) (λx hx=>he x (dA _ hx))
   exact⟨m',w1,by rw[w2,A8,hp];rfl⟩
  |true=>
   have q3:=he d dC hp m acc hm;dsimp only;rw[q3];dsimp only;have q4:(gM g (st d m) acc)[last]?=some (.own acc):=by rw[cN,<- hk];exact jd
   rw[q4];dsimp only;rw[gL ⋯];have q5:(gM g (st d m) acc).set last (.own (acc++[f d]))=gM g (st d m) (acc++[f d]):=by rw[cN,<- hk];exact iQ
   rw[q5];obtain⟨m',w1,w2⟩:=qi cH f p st I hI cN dg items (st d m) (acc++[f d]) hm' (by rw[eJ,n0];lia) (λx hx=>hT x (dA _ hx)) (λx hx=>hi x (dA _ hx)) (λx hx=>he x (dA _ hx))
   refine⟨m',w1,?_⟩;rw[w2,A8,hp];simp
theorem sI{α β:Type}{kk nn j1 j2 last:Nat}{it:Ex}{c:Option Ex}{e:Ex}(bI:α->D)(ys:α->List β)(cL:β->D)(p:α->β->Bool)(f:α->β->D)(hn:nn=g.length)(cN:last=g.length+kk)(h11:g.length<=j1)(h12:j1<g.length+kk)(h21:g.length<=j2)(h22:j2<g.length+kk)(iC:j1≠j2) :
  ∀(xs:List α) (m:G) (acc:List D),m.length=kk->acc.length+(xs.flatMap ys).length<=lim->
  (∀a∈xs,∀G',zj g j1 (bI a) G'->dW rn bor k false it G'=some ((ys a).map cL,G'))->
  (∀a∈xs,∀b∈ys a,∀G',kG g j1 j2 (bI a) (cL b) G'->vf rn bor k c G'=some (p a b,G'))->
  (∀a∈xs,∀b∈ys a,p a b=true->∀G',kG g j1 j2 (bI a) (cL b) G'->dI rn bor k e G'=some (f a b,G'))->
  ∃m',m'.length=kk/\wC rn bor k (.nm j1) none (.nm j2) it c e last (xs.map bI) (gM g m acc)=some (gM g m' (acc++xs.flatMap λa=>((ys a).filter (p a)).map (f a)))
 | [],m,acc,hm,_,_,_,_=>⟨m,hm,by simp[wC]⟩
 |a::xs,m,acc,hm,hl,hw,hi,he=>by
  rw[List.flatMap_cons,eJ]at hl;have q1:(Tg.nm j1).set (bI a) (gM g m acc)=some (gM g (m.set (j1 - g.length) (.dat (bI a))) acc):=uF (kk:=kk) h11 ⋯;have hm1:(m.set (j1 - g.length) (.dat (bI a))).length=kk:=by simpa using hm
  have sees:∀(m:G) (acc:List D),m.length=kk->m[j1 - g.length]?=some (.dat (bI a))->zj g j1 (bI a) (gM g m acc):=λm acc hm hg=>by
   refine⟨λi hi=>lT hi,?_⟩
   have:=dJ (g:=g) (m:=m) (acc:=acc) (i:=j1 - g.length) ⋯;rw[show g.length+(j1 - g.length)=j1 by lia]at this
   rw[this,hg]
  have yu:(m.set (j1 - g.length) (.dat (bI a)))[j1 - g.length]?=some (.dat (bI a)):=by rw[i8 ⋯]
  have q2:=hw a dC _ (sees _ acc hm1 yu);have QB:∀(b:β) (m:G) (acc:List D),(m.length=kk/\m[j1 - g.length]?=some (.dat (bI a)))->kG g j1 j2 (bI a) (cL b) (gM g (m.set (j2 - g.length) (.dat (cL b))) acc):=λb m acc hm=>by
   obtain⟨s1,s2⟩:=sees (m.set (j2 - g.length) (.dat (cL b))) acc (by simpa using hm.1) (by rw[fN ⋯];exact hm.2)
   refine⟨s1,s2,?_⟩;have:=dJ (g:=g) (m:=m.set (j2 - g.length) (.dat (cL b))) (acc:=acc) (i:=j2 - g.length) (by rw[yY,hm.1];lia)
   rw[show g.length+(j2 - g.length)=j2 by lia]at this
   rw[this,i8 (by rw[hm.1];lia)]
  obtain⟨m2,w1,w2⟩:=qi (rn:=rn) (bor:=bor) (k:=k) (g:=g) (T:=.nm j2) (last:=last) (kk:=kk) (c:=c) (e:=e) cL (f a) (p a) (λb m=>m.set (j2 - g.length) (.dat (cL b))) (λm=>m.length=kk/\m[j1 - g.length]?=some (.dat (bI a))) (λ_ h=>h.1) cN (λb m h=>⟨by simpa using h.1,by rw[fN ⋯];exact h.2⟩) (ys a) (m.set (j1 - g.length) (.dat (bI a))) acc ⟨hm1,yu⟩ ⋯
   (λb _ m acc h=>uF (kk:=kk) h21 (by have:=h.1;lia)) (λb hb m acc h=>hi a dC b hb _ (QB b m acc h)) λb hb hp m acc h=>he a dC b hb hp _ (QB b m acc h)
  have hf:=List.length_filter_le (p a) (ys a);obtain⟨m3,v1,v2⟩:=sI bI ys cL p f hn cN h11 h12 h21 h22 iC xs m2 (acc++((ys a).filter (p a)).map (f a)) w1.1 (by rw[eJ,fA];lia) (λx hx=>hw x (dA _ hx)) (λx hx=>hi x (dA _ hx)) (λx hx=>he x (dA _ hx))
  refine⟨m3,v1,?_⟩;rw[List.map_cons];unfold wC;rw[q1];dsimp only[vf,Tg.gU];rw[q2];dsimp only;rw[w2];dsimp only;rw[v2,List.flatMap_cons,AF]
theorem O8{α β:Type}{kk nn j1 j2:Nat}{qw it:Ex}{c:Option Ex}{e:Ex}(xs:List α)(bI:α->D)(ys:α->List β)(cL:β->D)(p:α->β->Bool)(f:α->β->D)(hw1:dW rn bor k false qw g=some (xs.map bI,g1))(hn:nn=g1.length)(h11:g1.length<=j1)(h12:j1<g1.length+kk)(h21:g1.length<=j2)(h22:j2<g1.length+kk)(iC:j1≠j2)(hb1:j1∉bor)(hb2:j2∉bor)(hl:(xs.flatMap ys).length<=lim)
  (hw:∀a∈xs,∀G',zj g1 j1 (bI a) G'->dW rn bor k false it G'=some ((ys a).map cL,G'))
  (hi:∀a∈xs,∀b∈ys a,∀G',kG g1 j1 j2 (bI a) (cL b) G'->vf rn bor k c G'=some (p a b,G'))
  (he:∀a∈xs,∀b∈ys a,p a b=true->∀G',kG g1 j1 j2 (bI a) (cL b) G'->dI rn bor k e G'=some (f a b,G')) :
  lN rn bor k nn kk (.nm j1) qw none (.nm j2) it c e g=some (xs.flatMap λa=>((ys a).filter (p a)).map (f a),g1):=by
 subst hn;obtain⟨m',w1,w2⟩:=sI (rn:=rn) (bor:=bor) (k:=k) (g:=g1) (it:=it) (c:=c) (e:=e) (last:=g1.length+kk) bI ys cL p f rfl rfl h11 h12 h21 h22 iC xs (List.replicate kk .no) [] ⋯ (by simpa using hl) hw hi he
 unfold lN;rw[show Tg.gU (.nm j1)=false from rfl,hw1]
 dsimp only;rw[gL ⟨rfl,by simp[Tg.ix,hb1,hb2]⟩,Ji,w2]
 dsimp only;have:∀acc,(gM g1 m' acc)[g1.length+kk]?=some (.own acc):=λacc=>by rw[<- w1];exact jd
 rw[this];dsimp only;rw[uD,y6]
end
noncomputable def ZW:Fx:=⟨3,3,[(.ite (.cmp .NotEq (.blt .len [⇑1]) (.blt .len [⇑2])) (~~~4) []),(.ret (.blt .all [(.comp 3 3 (.tp [4,5]) (.rev ⇑0) none (.cmp .Eq (.cmp .In ⇑4 ⇑1) (.cmp .In ⇑5 ⇑2)))]))]⟩
noncomputable def fh:Fx:=⟨2,2,[(.ret (.tup [(.ix ⇑0 ↥0),(.blt .tuple [(.blt .sorted [(.comp 2 3 (.tp [3,4]) (.ix ⇑0 ↥1) none (.blt .tuple [(.blt .sorted [(.lst [(.ix ⇑1 ⇑3),(.ix ⇑1 ⇑4)])])]))])])]))]⟩
noncomputable def bX(ti:Nat):Fx:=⟨1,2,[(.set 1 (.lst [(.val .non),↥0,(.tup []),(.tup [↥7,(.tup [])]),(.tup [↥0,(.tup [])]),(.tup [(.neg ↥1),(.tup [])]),(.tup [(.val (.bl true)),(.tup [])]),(.tup [↥2,(.lst [])]),(.lst [↥2,(.tup [])]),(.tup [↥2,(.tup [(.tup [↥1,↥0])])]),(.tup [↥2,(.tup [(.tup [↥0,↥0])])]),.emp])),(.set 1 (.bin .Add ⇑1 (.lst [(.tup [↥2,(.tup [(.tup [↥0,↥1]),(.tup [↥0,↥1])])]),(.tup [↥3,(.tup [(.tup [↥0,↥2]),(.tup [↥0,↥1])])]),(.tup [↥2,(.tup [(.tup [↥0,↥2])])]),(.tup [↥2,(.tup [(.tup [↥0,(.val (.bl true))])])]),(.tup [↥2,(.tup [(.tup [↥0,↥1,↥1])])])]))),(.set 1 (.bin .Add ⇑1 (.lst [(.tup [↥2,(.tup [↥0,↥1])]),(.tup [↥2,(.val .non)]),(.tup [↥2,(.tup []),(.tup [])]),(.tup [↥2]),(.tup [↥2,(.tup [(.lst [↥0,↥1])])]),(.tup [↥2,(.tup [(.val .non)])]),(.tup [(.val (.str (PySem.Str.ofString "2"))),(.tup [])]),(.val (.str (PySem.Str.ofString "2:")))]))),(.ret (.ix ⇑1 (.call ti [⇑0,↥25])))]⟩
theorem V9(a b:Int):bO [a,b]=if a<b then [a,b]else [b,a]:=by
 show (if a<=b then [a,b]else [b,a])=_
 by_cases h:a<b
 . rw[gL ⋯,gL h]
 .
  by_cases e:a=b
  . subst e;rw[gL ⋯,hU h]
  . rw[hU ⋯,hU h]
noncomputable def zC:List D:=[.non,.int 0,.tup [],.tup [.int 7,.tup []],.tup [.int 0,.tup []],.tup [.int (-1),.tup []],.tup [.bl true,.tup []],.tup [.int 2,.lst []],.lst [.int 2,.tup []],.tup [.int 2,.tup [.tup [.int 1,.int 0]]],.tup [.int 2,.tup [.tup [.int 0,.int 0]]],.emp]
noncomputable def zD:List D:=[.tup [.int 2,.tup [.tup [.int 0,.int 1],.tup [.int 0,.int 1]]],.tup [.int 3,.tup [.tup [.int 0,.int 2],.tup [.int 0,.int 1]]],.tup [.int 2,.tup [.tup [.int 0,.int 2]]],.tup [.int 2,.tup [.tup [.int 0,.bl true]]],.tup [.int 2,.tup [.tup [.int 0,.int 1,.int 1]]]]
noncomputable def O9:List D:=[.tup [.int 2,.tup [.int 0,.int 1]],.tup [.int 2,.non],.tup [.int 2,.tup [],.tup []],.tup [.int 2],.tup [.int 2,.tup [.lst [.int 0,.int 1]]],.tup [.int 2,.tup [.non]],.tup [.str (PySem.Str.ofString "2"),.tup []],.str (PySem.Str.ofString "2:")]
def mj:List D:=zC++zD++O9
section
variable{ti:Nat}(U:kJ fns rn)
include U
theorem uL(m:Nat)(au: ~~~5)(t: ~~~0)(h:Wb m au)(ht:Tn m t):bL (rn (n+20)) k fh [W m au,~~~t]=some (.dat (W m (tw t au))):=by
 have hl:=h.len;have htl:=ht.length;have i0:xX (W m au) (.int 0)=some (.int m):=rfl;have i1:xX (W m au) (.int 1)=some (.tup (au.map ∅)):=rfl
 have w:=λn k=>zm (rn:=rn (n+12)) (bor:=[]) (k:=k) (g:=[.dat (W m au),.dat (~~~t)]) (g1:=[.dat (W m au),.dat (~~~t)]) (kk:=3) (nn:=2) (j1:=3) (j2:=4) (it:=.ix ⇑0 ↥1) (e:=.blt .tuple [(.blt .sorted [(.lst [(.ix ⇑1 ⇑3),(.ix ⇑1 ⇑4)])])]) au (λx=>.int (gt x 0)) (λx=>.int (gt x 1)) (λx=>~~~(tm t x)) (by
   have e:au.map ∅=au.map λx=>.tup [.int (gt x 0),.int (gt x 1)]:=o6 λx hx=>by
    obtain⟨a,b,rfl,_⟩:=h.tie x hx;rfl
   simp! [U,dW,i1,<- e]) rfl ⋯ ⋯ ⋯ ⋯ ⋯ ⋯ ⋯ (ak _ ⋯) λx hx G' hG=>by
  have h1:G'[1]?=some (.dat (~~~t)):=hG.1 1 ⋯;obtain⟨a,b,rfl,h2,h3,h4⟩:=h.tie x hx;have h5:=hG.2.1;have h6:=hG.2.2;rw[(nU a b).1]at h5;rw[(nU a b).2]at h6;have so:mL .sorted [.lst [.int (gt t a),.int (gt t b)]]=some (.new ((tm t [a,b]).map .int)):=by rw[Bu,<- V9];exact iR [gt t a,gt t b] ⋯
  simp! [U,h5,h6,h1,cu (t:=t) (i:=a) ⋯,cu (t:=t) (i:=b) ⋯,so,ak 2 ⋯]
 have e1:au.map (λx=>~~~(tm t x))=(au.map (tm t)).map λx=>~~~x:=by rw[List.map_map];rfl
 have e2:=cY (au.map (tm t)) (λx hx=>by obtain⟨y,_,rfl⟩:=gN.mp hx;unfold tm;split <;> simp) (by simp;lia)
 unfold bL fh;simp! [U,i0,w,e1,e2,ak 2 ⋯];rfl
variable(hT:fns[ti]?=some bz)
include hT
theorem El{i:Nat}{s:Int}{fl:Bool}(hi:g[i]?=some (St s fl)):∃(d:D) (s':Int),d∈mj/\aM (rn (n+60)) (bX ti) (k+1) [.var i] g=some (.dat d,g.set i (St s' fl)):=by
 have l0:=ak 0 ⋯;have l1:=ak 1 ⋯;have l2:=ak 2 ⋯;have l3:=ak 3 ⋯;have e1:aG (rn (n+59)) [0] (k+1) (match (bX ti).body with |s::_=>s | []=>.stuck) [St s fl,.no]=some (.nx,[St s fl,.own zC]):=by unfold bX;simp! [U,l0,l1,l2,l3,ak 12 ⋯];rfl
 have e2:aG (rn (n+59)) [0] (k+1) (match (bX ti).body with |_::s::_=>s |_=>.stuck) [St s fl,.own zC]=some (.nx,[St s fl,.own (zC++zD)]):=by have o:=nR zC zD ⋯;have hb:zD=[.tup [.int 2,.tup [.tup [.int 0,.int 1],.tup [.int 0,.int 1]]],.tup [.int 3,.tup [.tup [.int 0,.int 2],.tup [.int 0,.int 1]]],.tup [.int 2,.tup [.tup [.int 0,.int 2]]],.tup [.int 2,.tup [.tup [.int 0,.bl true]]],.tup [.int 2,.tup [.tup [.int 0,.int 1,.int 1]]]]:=rfl;unfold bX;simp! [U,l0,l1,l2,l3,ak zD.length ⋯,<- hb,o]
 have e3:aG (rn (n+59)) [0] (k+1) (match (bX ti).body with |_::_::s::_=>s |_=>.stuck) [St s fl,.own (zC++zD)]=some (.nx,[St s fl,.own mj]):=by have o:=nR (zC++zD) O9 ⋯;have hb:O9=[.tup [.int 2,.tup [.int 0,.int 1]],.tup [.int 2,.non],.tup [.int 2,.tup [],.tup []],.tup [.int 2],.tup [.int 2,.tup [.lst [.int 0,.int 1]]],.tup [.int 2,.tup [.non]],.tup [.str (PySem.Str.ofString "2"),.tup []],.str (PySem.Str.ofString "2:")]:=rfl;unfold bX mj;simp! [U,l0,l1,l2,l3,ak O9.length ⋯,<- hb,o]
 obtain⟨r,s1,r1,r2,q⟩:=bQ U (n:=n+37) (k:=k) (g:=[St s fl,.own mj]) (i:=0) (s:=s) (fl:=fl) (m:=25) rfl ⋯;have q':aM (rn (n+57)) bz k [.var 0,‹25›] [St s fl,.own mj]=some (‹r›,[St s1 fl,.own mj]):=q;obtain⟨d,hd,ed⟩:=nQ (l:=mj) (r:=r) ⟨r1,r2⟩;refine⟨d,s1,hd,?_⟩;have e4:aG (rn (n+59)) [0] (k+1) (.ret (.ix ⇑1 (.call ti [⇑0,↥25]))) [St s fl,.own mj]=some (.rt (.dat d),[St s1 fl,.own mj]):=by simp! [U,hT,q',ed]
 have body:(rn (n+60)).b [0] (k+1) (bX ti).body [St s fl,.no]=some (.rt (.dat d),[St s1 fl,.own mj]):=by
  unfold bX at e1 e2 e3 ⊢
  rw[U.b,aC e1,aC e2,aC e3];unfold fD;rw[e4]
 have hp:cU (bX ti).n [St s fl]=[St s fl,.no]:=rfl;unfold aM;simp only[vars,bY,hi,List.map_cons,List.map_nil];rw[gL ⟨rfl,by simp⟩,hp,body]
 rfl
end
noncomputable def fj:Fx:=⟨1,3,[(.set 1 (.lst [])),(.loop (.nm 2) (.fX ⇑0) [(.expr (.extend 1 (.comp 3 2 (.nm 4) (.fL (.bin .Add ⇑2 ↥1) ⇑0) none (.tup [⇑2,⇑4]))))]),(.ret ⇑1)]⟩
noncomputable def Pa(ti:Nat):Option Ex:=some (.cmp .Lt (.call ti [⇑0,↥8]) (.ix (.lst [↥2,↥4,↥6]) (.bin .Mod ⇑3 ↥3)))
noncomputable def Pb:List Sm:=[(.expr (.append 4 (.blt .tuple [(.blt .sorted [(.lst [(.ix ⇑5 ⇑6),(.ix ⇑5 (.ix (.lst [(.bin .Sub ⇑6 ↥1),(.bin .Sub ⇑6 ↥1),↥0,(.bin .FloorDiv ⇑6 ↥2)]) (.bin .Sub ⇑3 ↥3)))])])])))]
noncomputable def Jz:Sm:=.ite (.and [(.cmp .Eq ⇑3 ↥4),(.cmp .Gt ⇑2 ↥2)]) [(.expr (.append 4 (.blt .tuple [(.blt .sorted [(.lst [(.ix ⇑5 ↥0),(.ix ⇑5 (.bin .Sub ⇑2 ↥1))])])])))] []
noncomputable def Ph(ti:Nat):Option Ex:=some (.cmp .Eq (.call ti [⇑0,↥12]) ↥0)
noncomputable def Pj:Option Ex:=some (.cmp .NotEq (.cmp .In ⇑9 ⇑4) (.cmp .In ⇑9 ⇑7))
noncomputable def Wa(ti:Nat):Sm:=.set 2 (.blt .max [↥1,(.bin .Sub ⇑1 (.ix (.lst [↥0,↥4,↥1,↥0,↥2,↥1,↥3,⇑1]) (.call ti [⇑0,↥8])))])
def Pn(ti pi:Nat):Sm:=.ite (.cmp .Gt ⇑3 ↥2) [(.set 4 (.lst [])),(.loop (.nm 6) (.fL ↥1 ⇑2) Pb),Jz,(.set 7 (.comp 8 2 (.nm 9) (.call pi [⇑2]) (Ph ti) ⇑9)),(.set 4 (.comp 8 2 (.nm 9) (.call pi [⇑2]) Pj ⇑9))] []
def zE(ti pi mi:Nat):Fx:=⟨2,8,[(Wa ti),(.set 3 (.call ti [⇑0,↥7])),(.set 4 (.comp 8 2 (.nm 9) (.call pi [⇑2]) (Pa ti) ⇑9)),(.set 5 (.call mi [⇑0,(.fY ⇑2)])),(Pn ti pi),(.ret (.tup [⇑2,(.blt .tuple [(.blt .sorted [⇑4])])]))]⟩
noncomputable def qj(m a:Nat): ~~~5:=(List.range (m - (a+1))).map λ(j:Nat)=>[(a:Int),(a:Int)+1+(j:Int)]
def pacc(m j:Nat): ~~~5:=((List.range j).map (qj m)).flatten
theorem sJ(m j:Nat):pacc m (j+1)=pacc m j++qj m j:=by simp[pacc,List.range_succ]
theorem xH(m:Nat):∀j,(pacc m j).length<=j * m
 | 0=>by simp[pacc]
 |j+1=>by
  rw[sJ,eJ,Nat.succ_mul];have:=xH m j;have h2:(qj m j).length<=m:=by simp[qj]
  lia
def prs(m:Nat): ~~~5:=pacc m m
def okP(m:Nat):Bool:=(prs m).all (λx=>match x with | [a,b]=>decide (0<=a)&&decide (a<b)&&decide (b<m) |_=>false)&&decide ((prs m).Nodup)&&decide ((prs m).length<=15)
theorem Pp{m:Nat}(hm:1<=m/\m<=6):okP m=true:=by
 obtain⟨h1,h2⟩:=hm
 match m,h1,h2 with
 | 1,_,_=>decide +kernel
 | 2,_,_=>decide +kernel
 | 3,_,_=>decide +kernel
 | 4,_,_=>decide +kernel
 | 5,_,_=>decide +kernel
 | 6,_,_=>decide +kernel
theorem gY{m:Nat}(hm:1<=m/\m<=6):(∀x∈prs m,Pr m x)/\(prs m).Nodup/\(prs m).length<=15:=by
 have:=Pp hm;unfold okP at this;simp only[d5,eR,i4]at this;obtain⟨⟨h1,h2⟩,h3⟩:=this;refine⟨λx hx=>?_,h2,h3⟩
 have:=h1 x hx;split at this
 . rename_i a b;simp only[d5,eR]at this;exact⟨a,b,rfl,this.1.1,this.1.2,this.2⟩
 . cases this
theorem Wb.Wc{m:Nat}(hm:1<=m/\m<=6){l: ~~~5}(h:l.Sublist (prs m)):Wb m (cO fW l):=by
 obtain⟨h1,h2,h3⟩:=gY hm;have hp:=cK (O:=fW) l;refine⟨λx hx=>h1 x (h.subset (hp.mem_iff.mp hx)),jw (h.nodup h2),?_⟩
 rw[hp.length_eq];exact kA h.length_le h3
section
variable{ti pi mi:Nat}(U:kJ fns rn)(hT:fns[ti]?=some bz)(hP:fns[pi]?=some fj)(hM:fns[mi]?=some (lV ti))
include U
theorem kN(m:Nat)(hm:1<=m/\m<=6):bL (rn (n+30)) k fj [.int m]=some (.new ((prs m).map ∅)):=by
 have loop:=eH (T:=.nm 2) (b:=(rn (n+29)).b [] k [(.expr (.extend 1 (.comp 3 2 (.nm 4) (.fL (.bin .Add ⇑2 ↥1) ⇑0) none (.tup [⇑2,⇑4]))))]) (λ(j:Nat)=>D.int (j:Int))
  (I:=λl g=>∃(j:Nat) (s2:Slot),j<=m/\l=List.range' j (m - j)/\g=[‹m›,.own ((pacc m j).map ∅),s2])
  (step:=λa l g h=>by
   obtain⟨j,s2,h0,h1,rfl⟩:=h;have hjm:j<m:=by
    rcases x0 j m with h |h
    . exact h
    . rw[Cf h]at h1;cases h1
   have hc:List.range' j (m - j)=j::List.range' (j+1) (m - (j+1)):=by rw[show m - j=(m - (j+1))+1 by lia,Cs]
   rw[hc]at h1;injection h1 with e1 e2;subst e1 e2;have aJ:(pacc m a).length<=36:=kA (xH m a) (kA (Nat.mul_le_mul (show a<=6 by lia) hm.2) ⋯)
   have hlr:(qj m a).length<=6:=by simp[qj];lia
   have w:=sy (rn:=rn (n+26)) (bor:=[]) (k:=k) (g:=[‹m›,.own ((pacc m a).map ∅),‹a›]) (g1:=[‹m›,.own ((pacc m a).map ∅),‹a›]) (kk:=2) (nn:=3) (j:=4) (it:=.fL (.bin .Add ⇑2 ↥1) ⇑0) (e:=.tup [⇑2,⇑4]) (List.range (m - (a+1))) (λ(j:Nat)=>.int ((a:Int)+1+(j:Int))) (λ(j:Nat)=>.tup [.int (a:Int),.int ((a:Int)+1+(j:Int))]) (by
     have e:((m:Int) - ((a:Int)+1)).toNat=m - (a+1):=by lia
     simp! [U,dW,aN ((a:Int)+1) ⋯,aN m ⋯,e,cJ]) rfl ⋯ ⋯ ⋯ (ak _ (by simp;lia)) λx hx G' hG=>by
    have h2:G'[2]?=some ‹a›:=hG.1 2 ⋯;simp! [U,hG.2,h2,ak 2 ⋯]
   have e3:(List.range (m - (a+1))).map (λ(j:Nat)=>D.tup [.int (a:Int),.int ((a:Int)+1+(j:Int))])=(qj m a).map λx=>~~~x:=by unfold qj;rw[List.map_map];rfl
   rw[e3]at w;have z:(pacc m a).length+(qj m a).length<=lim:=ak _ ⋯;refine⟨[‹m›,.own ((pacc m a).map ∅),‹a›],[‹m›,.own ((pacc m (a+1)).map ∅),‹a›],rfl,?_,a+1,_,by lia,rfl,rfl⟩
   rw[sJ,AI];simp! [U,w,z])
 obtain⟨g',⟨j,s2,h0,h1,rfl⟩,h2⟩:=loop (List.range' 0 m) [‹m›,.own [],.no] ⟨0,.no,by lia,rfl,rfl⟩
 have hj:j=m:=by
  have:(List.range' j (m - j)).length=0:=by rw[<- h1];rfl
  rw[List.length_range']at this;lia
 subst hj;have hr:cJ 0 j=(List.range' 0 j).map λ(x:Nat)=>D.int (x:Int):=by unfold cJ;rw[A4];exact o6 λx _=>by rw[Int.zero_add]
 unfold bL fj;simp! [U,Tg.ix,Tg.gU,dW,aN j ⋯,hr,h2];rfl
end
theorem cpS{rn:Rn}{bor:List Nat}{k:Nat}{α:Type}{kk nn j:Nat}{c:Option Ex}(cH:α->D)(gs:Int->G)(hn:∀s,(gs s).length=nn)(hj1:nn<=j)(hj2:j<nn+kk) :
  ∀(items:List α) (s:Int) (m:G) (acc:List D),m.length=kk->acc.length+items.length<=lim->
  (∀a∈items,∀s m acc,m.length=kk->m[j - nn]?=some (.dat (cH a))->∃b s',vf rn bor k c (gM (gs s) m acc)=some (b,gM (gs s') m acc))->
  (∀a∈items,∀s m acc,m.length=kk->m[j - nn]?=some (.dat (cH a))->dI rn bor k (.slot j) (gM (gs s) m acc)=some (cH a,gM (gs s) m acc))->
  ∃(sub:List α) (s':Int) (m':G),sub.Sublist items/\m'.length=kk/\yR rn bor k (.nm j) (nn+kk) c (.slot j) (items.map cH) (gM (gs s) m acc)=some (gM (gs s') m' (acc++sub.map cH))
 | [],s,m,acc,hm,_,_,_=>⟨[],s,m,AG _,hm,by simp[yR]⟩
 |a::items,s,m,acc,hm,hl,hc,he=>by
  rw[l4]at hl;have hjm:j - nn<m.length:=by lia
  have q1:(Tg.nm j).set (cH a) (gM (gs s) m acc)=some (gM (gs s) (m.set (j - nn) (.dat (cH a))) acc):=by
   have:=uF (g:=gs s) (kk:=kk) (j:=j) (d:=cH a) (m:=m) (acc:=acc) (by rw[hn];exact hj1) (by rw[hn];exact hjm)
   rw[hn]at this;exact this
  have hm':(m.set (j - nn) (.dat (cH a))).length=kk:=by simpa using hm
  have hg:(m.set (j - nn) (.dat (cH a)))[j - nn]?=some (.dat (cH a)):=by rw[i8 hjm]
  obtain⟨b,s',q2⟩:=hc a dC s _ acc hm' hg;rw[List.map_cons];unfold yR;rw[q1];dsimp only;rw[q2];cases b with
  |false=>
   dsimp only;obtain⟨sub,s2,m2,w1,w2,w3⟩:=cpS cH gs hn hj1 hj2 items s' _ acc hm' ⋯ (λx hx=>hc x (dA _ hx)) (λx hx=>he x (dA _ hx))
   exact⟨sub,s2,m2,w1.cons a,w2,w3⟩
  |true=>
   dsimp only;rw[he a dC s' _ acc hm' hg];dsimp only;have q4:(gM (gs s') (m.set (j - nn) (.dat (cH a))) acc)[nn+kk]?=some (.own acc):=by have:=jd (g:=gs s') (m:=m.set (j - nn) (.dat (cH a))) (acc:=acc);rw[hn,hm']at this;exact this
   rw[q4];dsimp only;rw[gL ⋯];have q5:(gM (gs s') (m.set (j - nn) (.dat (cH a))) acc).set (nn+kk) (.own (acc++[cH a]))=gM (gs s') (m.set (j - nn) (.dat (cH a))) (acc++[cH a]):=by have:=iQ (g:=gs s') (m:=m.set (j - nn) (.dat (cH a))) (acc:=acc) (acc':=acc++[cH a]);rw[hn,hm']at this;exact this
   rw[q5];obtain⟨sub,s2,m2,w1,w2,w3⟩:=cpS cH gs hn hj1 hj2 items s' _ (acc++[cH a]) hm' (by rw[eJ,n0];lia) (λx hx=>hc x (dA _ hx)) (λx hx=>he x (dA _ hx))
   refine⟨a::sub,s2,m2,w1.cons_cons a,w2,?_⟩;rw[w3];simp
theorem QC{rn:Rn}{bor:List Nat}{k:Nat}{α:Type}{kk nn j:Nat}{it:Ex}{c:Option Ex}{s:Int}{g:G}(items:List α)(cH:α->D)(gs:Int->G)(hn:∀s,(gs s).length=nn)(hj1:nn<=j)(hj2:j<nn+kk)(hw:dW rn bor k false it g=some (items.map cH,gs s))(hb:j∉bor)(hl:items.length<=lim)
  (hc:∀a∈items,∀s m acc,m.length=kk->m[j - nn]?=some (.dat (cH a))->∃b s',vf rn bor k c (gM (gs s) m acc)=some (b,gM (gs s') m acc))
  (he:∀a∈items,∀s m acc,m.length=kk->m[j - nn]?=some (.dat (cH a))->dI rn bor k (.slot j) (gM (gs s) m acc)=some (cH a,gM (gs s) m acc)) :
  ∃(sub:List α) (s':Int),sub.Sublist items/\eX rn bor k nn kk (.nm j) it c (.slot j) g=some (sub.map cH,gs s'):=by
 obtain⟨sub,s',m',w1,w2,w3⟩:=cpS (rn:=rn) (bor:=bor) (k:=k) (c:=c) cH gs hn hj1 hj2 items s (List.replicate kk .no) [] ⋯ (by simpa using hl) hc he
 refine⟨sub,s',w1,?_⟩;unfold eX;rw[show (Tg.nm j).gU=false from rfl,hw]
 dsimp only;rw[gL ⟨hn s,by simp[Tg.ix,hb]⟩,Ji,w3]
 dsimp only;have:(gM (gs s') m' ([]++sub.map cH))[nn+kk]?=some (.own ([]++sub.map cH)):=by have:=jd (g:=gs s') (m:=m') (acc:=[]++sub.map cH);rw[hn,w2]at this;exact this
 rw[this];dsimp only;have ht:=uD (g:=gs s') (m:=m') (acc:=[]++sub.map cH);rw[hn]at ht;rw[ht,y6]
section
variable{ti pi mi:Nat}(U:kJ fns rn)(hT:fns[ti]?=some bz)(hP:fns[pi]?=some fj)(hM:fns[mi]?=some (lV ti))
include U
theorem sl9{f:G}{m:G}{acc:List D}{d:D}{j nn:Nat}(hf:f.length=nn)(hj:nn<=j)(hm:m[j - nn]?=some (.dat d)):dI (rn (n+1)) bor k (.slot j) (gM f m acc)=some (d,gM f m acc):=by
 have hlt:=(dL.mp hm).1;have:(gM f m acc)[j]?=some (.dat d):=by
  have:=dJ (g:=f) (m:=m) (acc:=acc) (i:=j - nn) hlt;rw[hf,show nn+(j - nn)=j by lia]at this
  rw[this,hm]
 simp! [U,this]
def fr(s:Int)(fl:Bool)(a2 a3 a4 a5 a6 a7:Slot):G:=[St s fl,‹6›,a2,a3,a4,a5,a6,a7]
include hT in
theorem w1(s:Int)(fl:Bool):∃(m:Nat) (s':Int),(1<=m/\m<=6)/\aG (rn (n+40)) [0] (k+3) (Wa ti) (fr s fl .no .no .no .no .no .no)=some (.nx,fr s' fl ‹m› .no .no .no .no .no):=by
 obtain⟨r,s',r1,r2,q⟩:=bQ U (n:=n+16) (k:=k+2) (g:=fr s fl .no .no .no .no .no .no) (i:=0) (s:=s) (fl:=fl) (m:=8) rfl ⋯;have q':aM (rn (n+36)) bz (k+2) [.var 0,‹8›] [St s fl,‹6›,.no,.no,.no,.no,.no,.no]=some (‹r›,[St s' fl,‹6›,.no,.no,.no,.no,.no,.no]):=q;obtain⟨v,hv,h0⟩:∃v:Int,(0<=v/\v<=6)/\L2.fG [D.int 0,.int 4,.int 1,.int 0,.int 2,.int 1,.int 3,.int 6] r=some (.int v):=by
  have:r=0\/r=1\/r=2\/r=3\/r=4\/r=5\/r=6\/r=7:=by lia
  rcases this with rfl |rfl |rfl |rfl |rfl |rfl |rfl |rfl <;> exact⟨_,by decide,rfl⟩
 refine⟨(if 6 - v > 1 then 6 - v else 1).toNat,s',?_,?_⟩
 . split <;> lia
 .
  have e:(((if 6 - v > 1 then 6 - v else 1).toNat:Nat):Int)=if 6 - v > 1 then 6 - v else 1:=by split <;> lia
  rw[e];unfold fr Wa;simp! [U,hT,q',h0,ak 8 ⋯]
include hT in
theorem w2(s:Int)(fl:Bool)(a2:Slot):∃(w:Int) (s':Int),(0<=w/\w<7)/\aG (rn (n+40)) [0] (k+3) (.set 3 (.call ti [⇑0,↥7])) (fr s fl a2 .no .no .no .no .no)=some (.nx,fr s' fl a2 ‹w› .no .no .no .no):=by obtain⟨r,s',r1,r2,q⟩:=bQ U (n:=n+19) (k:=k+2) (g:=fr s fl a2 .no .no .no .no .no) (i:=0) (s:=s) (fl:=fl) (m:=7) rfl ⋯;refine⟨r,s',⟨r1,r2⟩,?_⟩;have q':aM (rn (n+39)) bz (k+2) [.var 0,‹7›] [St s fl,‹6›,a2,.no,.no,.no,.no,.no]=some (‹r›,[St s' fl,‹6›,a2,.no,.no,.no,.no,.no]):=q;unfold fr;simp! [U,hT,q']
include hT hP in
theorem w3(s:Int)(fl:Bool)(m:Nat)(hm:1<=m/\m<=6)(w:Int)(hw:0<=w/\w<7):∃(sub: ~~~5) (s':Int),sub.Sublist (prs m)/\aG (rn (n+60)) [0] (k+3) (.set 4 (.comp 8 2 (.nm 9) (.call pi [⇑2]) (Pa ti) ⇑9)) (fr s fl ‹m› ‹w› .no .no .no .no)=some (.nx,fr s' fl ‹m› ‹w› (.own (sub.map ∅)) .no .no .no):=by
 have Kp:=λn k=>kN U (n:=n) (k:=k) m hm
 obtain⟨_,_,aJ⟩:=gY hm;obtain⟨v,hv⟩:∃v:Int,L2.fG [D.int 2,.int 4,.int 6] (w % 3)=some (.int v):=by
  have:w % 3=0\/w % 3=1\/w % 3=2:=by lia
  rcases this with e |e |e <;> rw[e] <;> exact⟨_,rfl⟩
 obtain⟨sub,s',h1,h2⟩:=QC (rn:=rn (n+59)) (bor:=[0]) (k:=k+3) (kk:=2) (nn:=8) (j:=9) (it:=.call pi [⇑2]) (c:=Pa ti) (s:=s) (g:=fr s fl ‹m› ‹w› .no .no .no .no) (prs m) ∅ (λs=>fr s fl ‹m› ‹w› .no .no .no .no) (λ_=>rfl) ⋯ ⋯ (by unfold fr;simp! [U,dW,hP,bw (fx:=fj) rfl,Kp]) ⋯ (ak _ ⋯) (λa _ s mm acc h1 h2=>by
   obtain⟨r,s',r1,r2,q⟩:=bQ U (n:=n+37) (k:=k+2) (g:=gM (fr s fl ‹m› ‹w› .no .no .no .no) mm acc) (i:=0) (s:=s) (fl:=fl) (m:=8) rfl ⋯;have q':aM (rn (n+57)) bz (k+2) [.var 0,‹8›] (gM (fr s fl ‹m› ‹w› .no .no .no .no) mm acc)=some (‹r›,gM (fr s' fl ‹m› ‹w› .no .no .no .no) mm acc):=q;have g0:∀s,(gM (fr s fl ‹m› ‹w› .no .no .no .no) mm acc)[0]?=some (St s fl):=λ_=>rfl
   have g3:∀s,(gM (fr s fl ‹m› ‹w› .no .no .no .no) mm acc)[3]?=some ‹w›:=λ_=>rfl
   refine⟨decide (r<v),s',?_⟩;simp! [U,Pa,vf,hT,g0,g3,q',nP w 3 ⋯,hv,ak 3 ⋯]) (λa _ s mm acc h1 h2=>sl9 U (n:=n+58) (nn:=8) rfl ⋯ h2)
 refine⟨sub,s',h1,?_⟩;simp only[aG,U.e,aO,h2];simp[fr]
end
def ZX(l: ~~~5)(x: ~~~0):Bool:=(l.map ∅).any λd=>bW d (~~~x)
theorem Wd(l: ~~~5)(x: ~~~0):fz .In (~~~x) (.lst (l.map ∅))=some (ZX l x):=by
 have h:wz (~~~x) (l.map ∅)=true:=by have:=sG l;simp only[wz,g5,dM,sF,d5,eR,true_and];lia
 simp only[fz,dm,h,An];rfl
theorem Wf(a b:Bool):fz .NotEq (.bl a) (.bl b)=some (!(a==b)):=rfl
theorem Bv(a b:Int):mL .sorted [.lst [.int a,.int b]]=some (.new ((bO [a,b]).map .int)):=iR [a,b] ⋯
section
variable{ti pi mi:Nat}(U:kJ fns rn)(hT:fns[ti]?=some bz)(hP:fns[pi]?=some fj)(hM:fns[mi]?=some (lV ti))
include U
include hT hM in
theorem w4(s:Int)(fl:Bool)(m:Nat)(hm:1<=m/\m<=6)(a3 a4:Slot):∃(row: ~~~0) (s':Int),row.length=m/\aG (rn (n+60)) [0] (k+3) (.set 5 (.call mi [⇑0,(.fY ⇑2)])) (fr s fl ‹m› a3 a4 .no .no .no)=some (.nx,fr s' fl ‹m› a3 a4 (.own (row.map .int)) .no .no):=by
 have hr:cJ 0 m=(nums m).map .int:=kI m;have hl:=xm m;obtain⟨row,s',xr,q⟩:=Jq U hT (n:=n+9) (k:=k+1) (g:=fr s fl ‹m› a3 a4 .no .no .no) (i:=0) (s:=s) (fl:=fl) (nums m) rfl ⋯;have q':aM (rn (n+59)) (lV ti) (k+2) [.var 0,.dat (.lst ((nums m).map .int))] [St s fl,‹6›,‹m›,a3,a4,.no,.no,.no]=some (.new (row.map .int),[St s' fl,‹6›,‹m›,a3,a4,.no,.no,.no]):=q;refine⟨row,s',by rw[xr.length_eq,hl],?_⟩
 unfold fr;simp! [U,hM,q',aN m ⋯,ak m ⋯,hr]
theorem w5(s:Int)(fl:Bool)(m:Nat)(hm:1<=m/\m<=6)(w:Int)(hw:3<=w/\w<7)(row: ~~~0)(xr:row.length=m)(a6 a7:Slot):∃(au: ~~~5) (a6':Slot),au.length<=m/\aG (rn (n+60)) [0] (k+3) (.loop (.nm 6) (.fL ↥1 ⇑2) Pb) (fr s fl ‹m› ‹w› (.own []) (.own (row.map .int)) a6 a7)=some (.nx,fr s fl ‹m› ‹w› (.own (au.map ∅)) (.own (row.map .int)) a6' a7):=by
 have loop:=eH (T:=.nm 6) (b:=(rn (n+60)).b [0] (k+3) Pb) (λ(j:Nat)=>D.int (1+(j:Int)))
  (I:=λl g=>∃(j:Nat) (au: ~~~5) (s6:Slot),j<m/\l=List.range' j (m - 1 - j)/\au.length<=j/\g=fr s fl ‹m› ‹w› (.own (au.map ∅)) (.own (row.map .int)) s6 a7)
  (step:=λa l g h=>by
   obtain⟨j,au,s6,h0,h1,h2,rfl⟩:=h;have hjm:j<m - 1:=by
    rcases x0 j (m - 1)with h |h
    . exact h
    . rw[Cf h]at h1;cases h1
   have hc:List.range' j (m - 1 - j)=j::List.range' (j+1) (m - 1 - (j+1)):=by rw[show m - 1 - j=(m - 1 - (j+1))+1 by lia,Cs]
   rw[hc]at h1;injection h1 with e1 e2;subst e1 e2;obtain⟨z,hz⟩:∃z:Int,z=1+(a:Int):=⟨_,rfl⟩;rw[<- hz];obtain⟨v,hv,h3⟩:∃v:Int,(0<=v/\v<m)/\L2.fG [D.int (z - 1),.int (z - 1),.int 0,.int (z / 2)] (w - 3)=some (.int v):=by
    have:w=3\/w=4\/w=5\/w=6:=by lia
    rcases this with rfl |rfl |rfl |rfl
    . exact⟨z - 1,by lia,rfl⟩
    . exact⟨z - 1,by lia,rfl⟩
    . exact⟨0,by lia,rfl⟩
    . exact⟨z / 2,by lia,rfl⟩
   have a1:L2.fG (row.map D.int) z=some (.int (gt row z)):=cu ⋯;have a2:L2.fG (row.map D.int) v=some (.int (gt row v)):=cu ⋯;have z2:au.length<lim:=eD (mP _) (ak (au.length+1) ⋯);refine⟨fr s fl ‹m› ‹w› (.own (au.map ∅)) (.own (row.map .int)) ‹z› a7,fr s fl ‹m› ‹w› (.own ((au++[bO [gt row z,gt row v]]).map ∅)) (.own (row.map .int)) ‹z› a7,rfl,?_,a+1,_,_,by lia,rfl,by rw[eJ,n0];lia,rfl⟩
   rw[AI];unfold fr Pb;simp! [U,a1,a2,h3,uJ _ _ (show (0:Int)<2/\(2:Int)<1073741824 by decide),Bv,z2,ak 4 ⋯,ak 2 ⋯]
   rfl)
 obtain⟨g',⟨j,au,s6,h0,h1,h2,rfl⟩,h3⟩:=loop (List.range' 0 (m - 1)) (fr s fl ‹m› ‹w› (.own []) (.own (row.map .int)) a6 a7) ⟨0,[],a6,by lia,rfl,by simp,rfl⟩
 have hr:cJ 1 (m - 1)=(List.range' 0 (m - 1)).map λ(x:Nat)=>D.int (1+(x:Int)):=by unfold cJ;rw[A4]
 refine⟨au,s6,by lia,?_⟩
 have e:((m:Int) - 1).toNat=m - 1:=by lia
 unfold fr at h3 ⊢
 simp! [U,Tg.ix,Tg.gU,dW,aN 1 ⋯,aN m ⋯,e,hr,h3]
theorem w6(s:Int)(fl:Bool)(m:Nat)(hm:1<=m/\m<=6)(w:Int)(row: ~~~0)(xr:row.length=m)(au: ~~~5)(ht:au.length<=m)(a6 a7:Slot):∃(ZZ: ~~~5),aG (rn (n+60)) [0] (k+3) Jz (fr s fl ‹m› ‹w› (.own (au.map ∅)) (.own (row.map .int)) a6 a7)=some (.nx,fr s fl ‹m› ‹w› (.own (ZZ.map ∅)) (.own (row.map .int)) a6 a7):=by
 by_cases h4:w=4
 .
  by_cases h5:(m:Int) > 2
  . have a1:L2.fG (row.map D.int) 0=some (.int (gt row 0)):=cu ⋯;have a2:L2.fG (row.map D.int) ((m:Int) - 1)=some (.int (gt row ((m:Int) - 1))):=cu ⋯;have z2:au.length<lim:=eD (mP _) (ak (au.length+1) ⋯);have h6:(2:Int)<m:=h5;refine⟨au++[bO [gt row 0,gt row ((m:Int) - 1)]],?_⟩;rw[AI];unfold fr Jz;subst h4;simp! [U,a1,a2,h5,h6,Bv,z2,ak 2 ⋯];rfl
  . have h6 : ¬ (2:Int)<m:=h5;refine⟨au,?_⟩;unfold fr Jz;subst h4;simp! [U,h5,h6]
 . refine⟨au,?_⟩;unfold fr Jz;simp! [U,h4]
include hT hP in
theorem w7(s:Int)(fl:Bool)(m:Nat)(hm:1<=m/\m<=6)(a3 a4 a5 a6:Slot):∃(sub: ~~~5) (s':Int),aG (rn (n+60)) [0] (k+3) (.set 7 (.comp 8 2 (.nm 9) (.call pi [⇑2]) (Ph ti) ⇑9)) (fr s fl ‹m› a3 a4 a5 a6 .no)=some (.nx,fr s' fl ‹m› a3 a4 a5 a6 (.own (sub.map ∅))):=by
 have Kp:=λn k=>kN U (n:=n) (k:=k) m hm
 obtain⟨_,_,aJ⟩:=gY hm;obtain⟨sub,s',h1,h2⟩:=QC (rn:=rn (n+59)) (bor:=[0]) (k:=k+3) (kk:=2) (nn:=8) (j:=9) (it:=.call pi [⇑2]) (c:=Ph ti) (s:=s) (g:=fr s fl ‹m› a3 a4 a5 a6 .no) (prs m) ∅ (λs=>fr s fl ‹m› a3 a4 a5 a6 .no) (λ_=>rfl) ⋯ ⋯ (by unfold fr;simp! [U,dW,hP,bw (fx:=fj) rfl,Kp]) ⋯ (ak _ ⋯) (λa _ s mm acc h1 h2=>by
   obtain⟨r,s',r1,r2,q⟩:=bQ U (n:=n+37) (k:=k+2) (g:=gM (fr s fl ‹m› a3 a4 a5 a6 .no) mm acc) (i:=0) (s:=s) (fl:=fl) (m:=12) rfl ⋯;have q':aM (rn (n+57)) bz (k+2) [.var 0,‹12›] (gM (fr s fl ‹m› a3 a4 a5 a6 .no) mm acc)=some (‹r›,gM (fr s' fl ‹m› a3 a4 a5 a6 .no) mm acc):=q;have g0:∀s,(gM (fr s fl ‹m› a3 a4 a5 a6 .no) mm acc)[0]?=some (St s fl):=λ_=>rfl
   refine⟨decide (r=0),s',?_⟩;simp! [U,Ph,vf,hT,g0,q']) (λa _ s mm acc h1 h2=>sl9 U (n:=n+58) (nn:=8) rfl ⋯ h2)
 refine⟨sub,s',?_⟩;simp only[aG,U.e,aO,h2];simp[fr]
include hP in
theorem w8(s:Int)(fl:Bool)(m:Nat)(hm:1<=m/\m<=6)(au odd: ~~~5)(a3 a5 a6:Slot):∃(sub: ~~~5),sub.Sublist (prs m)/\aG (rn (n+60)) [0] (k+3) (.set 4 (.comp 8 2 (.nm 9) (.call pi [⇑2]) Pj ⇑9)) (fr s fl ‹m› a3 (.own (au.map ∅)) a5 a6 (.own (odd.map ∅)))=some (.nx,fr s fl ‹m› a3 (.own (sub.map ∅)) a5 a6 (.own (odd.map ∅))):=by
 have Kp:=λn k=>kN U (n:=n) (k:=k) m hm
 obtain⟨_,_,aJ⟩:=gY hm;have w:=Bg (rn:=rn (n+59)) (bor:=[0]) (k:=k+3) (g:=fr s fl ‹m› a3 (.own (au.map ∅)) a5 a6 (.own (odd.map ∅))) (g1:=fr s fl ‹m› a3 (.own (au.map ∅)) a5 a6 (.own (odd.map ∅))) (kk:=2) (nn:=8) (j:=9) (it:=.call pi [⇑2]) (c:=Pj) (e:=.slot 9) (prs m) ∅ (λx=>!(ZX au x==ZX odd x)) ∅ (by unfold fr;simp! [U,dW,hP,bw (fx:=fj) rfl,Kp]) rfl (by simp[fr]) (by simp[fr]) ⋯ (ak _ ⋯)
  (λa _ G' hG=>by
   have h4:G'[4]?=some (.own (au.map ∅)):=hG.1 4 (by simp[fr])
   have h7:G'[7]?=some (.own (odd.map ∅)):=hG.1 7 (by simp[fr])
   simp! [U,Pj,vf,hG.2,h4,h7,Wd,Wf])
  (λa _ _ G' hG=>by simp! [U,hG.2])
 refine⟨(prs m).filter λx=>!(ZX au x==ZX odd x),List.filter_sublist,?_⟩
 simp only[aG,U.e,aO,w];simp[fr]
end
section
variable{ti pi mi:Nat}(U:kJ fns rn)(hT:fns[ti]?=some bz)(hP:fns[pi]?=some fj)(hM:fns[mi]?=some (lV ti))
include U
include hT hP in
theorem w9(s:Int)(fl:Bool)(m:Nat)(hm:1<=m/\m<=6)(w:Int)(hw:0<=w/\w<7)(row: ~~~0)(xr:row.length=m)(uM: ~~~5)(hs:uM.Sublist (prs m)):∃(sub: ~~~5) (s':Int) (a6 a7:Slot),sub.Sublist (prs m)/\aG (rn (n+62)) [0] (k+3) (Pn ti pi) (fr s fl ‹m› ‹w› (.own (uM.map ∅)) (.own (row.map .int)) .no .no)=some (.nx,fr s' fl ‹m› ‹w› (.own (sub.map ∅)) (.own (row.map .int)) a6 a7):=by
 by_cases hw2:w > 2
 .
  obtain⟨t1,a6,h1,q1⟩:=w5 U (n:=n+1) (k:=k) s fl m hm w ⋯ row xr .no .no;obtain⟨t2,q2⟩:=w6 U (n:=n+1) (k:=k) s fl m hm w row xr t1 h1 a6 .no;obtain⟨odd,s',q3⟩:=w7 U hT hP (n:=n+1) (k:=k) s fl m hm ‹w› (.own (t2.map ∅)) (.own (row.map .int)) a6
  obtain⟨sub,h4,q4⟩:=w8 U hP (n:=n+1) (k:=k) s' fl m hm t2 odd ‹w› (.own (row.map .int)) a6;refine⟨sub,s',a6,.own (odd.map ∅),h4,?_⟩
  have ht:(rn (n+62)).t [0] (k+3) (.cmp .Gt ⇑3 ↥2) (fr s fl ‹m› ‹w› (.own (uM.map ∅)) (.own (row.map .int)) .no .no)=some (true,fr s fl ‹m› ‹w› (.own (uM.map ∅)) (.own (row.map .int)) .no .no):=by unfold fr;simp! [U,hw2]
  have q0:aG (rn (n+61)) [0] (k+3) (.set 4 (.lst [])) (fr s fl ‹m› ‹w› (.own (uM.map ∅)) (.own (row.map .int)) .no .no)=some (.nx,fr s fl ‹m› ‹w› (.own []) (.own (row.map .int)) .no .no):=by unfold fr;simp! [U,U.e]
  unfold Pn;rw[aG];rw[ht];dsimp only;rw[U.b];rw[aC q0,aC q1,aC q2,aC q3,aC q4];rfl
 . refine⟨uM,s,.no,.no,hs,?_⟩;unfold fr Pn;simp! [U,hw2]
include hT hP hM in
theorem Wg{i:Nat}{s:Int}{fl:Bool}(hi:g[i]?=some (St s fl)):∃(m:Nat) (au: ~~~5) (s':Int),(1<=m/\m<=6)/\Wb m au/\aM (rn (n+80)) (zE ti pi mi) (k+3) [.var i,‹6›] g=some (.dat (W m au),g.set i (St s' fl)):=by
 obtain⟨m,s1,hm,q1⟩:=w1 U hT (n:=n+39) (k:=k) s fl;obtain⟨w,s2,hw,q2⟩:=w2 U hT (n:=n+39) (k:=k) s1 fl ‹m›;obtain⟨uM,s3,h3,q3⟩:=w3 U hT hP (n:=n+19) (k:=k) s2 fl m hm w hw;obtain⟨row,s4,h4,q4⟩:=w4 U hT hM (n:=n+19) (k:=k) s3 fl m hm ‹w› (.own (uM.map ∅))
 obtain⟨sub,s5,a6,a7,h5,q5⟩:=w9 U hT hP (n:=n+17) (k:=k) s4 fl m hm w hw row h4 uM h3;obtain⟨p1,p2,p3⟩:=gY hm;have hso:=cY sub (λx hx=>by obtain⟨a,b,rfl,_⟩:=p1 x (h5.subset hx);exact List.cons_ne_nil _ _) (BI (kA h5.length_le p3) ⋯)
 refine⟨m,cO fW sub,s5,hm,Wb.Wc hm h5,?_⟩;have hp:cU (zE ti pi mi).n [St s fl,‹6›]=fr s fl .no .no .no .no .no .no:=rfl;have body:(rn (n+80)).b [0] (k+3) (zE ti pi mi).body (fr s fl .no .no .no .no .no .no)=some (.rt (.dat (W m (cO fW sub))),fr s5 fl ‹m› ‹w› (.own (sub.map ∅)) (.own (row.map .int)) a6 a7):=by unfold zE;rw[U.b,aC q1,aC q2,aC q3,aC q4,aC q5];unfold fr;simp! [U,hso,ak 2 ⋯];rfl
 unfold aM;simp only[vars,bY,hi,List.map_cons,List.map_nil];rw[gL ⟨rfl,by simp⟩,hp,body]
 rfl
end
theorem mS(m:Nat):∀(s:Nat) (r: ~~~0),r.length=s->r.Nodup->(∀x∈r,x∈nums m)->r∈nW m s
 | 0,r,h,_,_=>by
  rw[List.length_eq_zero_iff.mp h];exact BO []
 |s+1,r,h,hn,hm=>by
  obtain⟨a,x,rfl⟩:∃a x,r=a++[x]:=⟨r.dropLast,r.getLast (by rintro rfl;symm),(AR _).symm⟩
  rw[eJ,n0]at h;rw[AH]at hn;unfold nW ext;rw[List.mem_flatMap];refine⟨a,mS m s a ⋯ hn.1 λy hy=>hm y (qS _ hy),?_⟩
  rw[gN];refine⟨x,lS.mpr ⟨hm x (i5 _ (BO x)),?_⟩,rfl⟩;rw[AW,decide_eq_false_iff_not];exact λhx=>hn.2.2 x hx x (BO x) rfl
theorem xJ{m:Nat}{t: ~~~0}(h:Tn m t):t∈turnsOf m:=mS m m t h.length h.nodup λx hx=>gq.mpr (h.mem.mp hx)
noncomputable def JB(nx: ~~~0->~~~0): ~~~5->Bool
 |x::y::l=>decide (y=nx x)&&JB nx (y::l)
 |_=>true
def gZ(m:Nat)(t: ~~~0):List (~~~5):=xF (iA t) (prs m)
def Pq(m:Nat)(t: ~~~0):Bool:=Bq (iA t) (prs m)&&decide ((gZ m t).flatten.Nodup)&&((prs m).all λp=>(gZ m t).any λr=>decide (p∈r)&&decide (iA t p∈r)&&r.any λq=>decide (iA t q=p))&&(gZ m t).all (JB (iA t))&&decide ((gZ m t).length<=15)
theorem JC{α:Type}{l r:List (List α)}(h:l.Sublist r):l.flatten.Sublist r.flatten:=by
 induction h with
 |slnil=>exact AG _
 |cons a _ ih=>rw[tS];exact ih.trans (List.sublist_append_right _ _)
 |cons_cons a _ ih=>rw[tS,tS];exact (AG a).append ih
theorem zF{m:Nat}{t: ~~~0}(hm:1<=m/\m<=6)(ok:Pq m t=true){l:List (~~~5)}(h:l.Sublist (gZ m t)):Wb m (cO fW l.flatten):=by
 unfold Pq at ok;simp only[d5,eR]at ok;obtain⟨⟨⟨⟨o1,o2⟩,o3⟩,o4⟩,o5⟩:=ok;have hs:l.flatten.Sublist (gZ m t).flatten:=JC h;have hn:=hs.nodup o2;have hg:∀x∈l.flatten,x∈prs m:=λx hx=>by
  obtain⟨r,hr,hx⟩:=List.mem_flatten.mp (hs.subset hx);unfold gZ xF at hr;obtain⟨p,hpp,rfl⟩:=gN.mp (lS.mp hr).1;exact (gH o1 hpp).2.2.2.1 x hx
 have hp:=cK (O:=fW) l.flatten;refine⟨λx hx=>(gY hm).1 x (hg x (hp.mem_iff.mp hx)),jw hn,?_⟩
 rw[hp.length_eq];exact kA (hn.length_le_of_subset hg) (gY hm).2.2
noncomputable def kP: ~~~0->~~~0->Int
 |_,[]=>1
 |b,a::l=>a * (((b++[a]).count a:Nat):Int) * kP (b++[a]) l
noncomputable def Z0:Fx:=⟨1,1,[(.ret (.blt .all [(.comp 1 2 (.nm 2) (.fL ↥1 (.blt .len [⇑0])) none (.cmp .GtE (.ix ⇑0 (.bin .Sub ⇑2 ↥1)) (.ix ⇑0 ⇑2)))]))]⟩
noncomputable def Pu(mw w fa:Nat):Fx:=⟨2,2,[(.expr (.call mw [⇑0,↥1,↥9])),(.ite (.not (.vd ⇑1 "tuple")) (~~~4) []),(.ite (.not (.blt .all [(.comp 2 2 (.nm 3) ⇑1 none (.and [(.call w [⇑3]),(.cmp .GtE ⇑3 ↥1)]))])) (~~~4) []),(.ret (.and [(.cmp .Eq (.blt .sum [⇑1]) ⇑0),(.call fa [⇑1])]))]⟩
noncomputable def Pw:Fx:=⟨1,1,[(.ret (.iN 1 3 (.nm 2) (.fX ⇑0) none (.nm 3) (.fL (.bin .Add ⇑2 ↥1) ⇑0) none (.tup [⇑2,⇑3])))]⟩
section
variable{k n:Nat}{rn:Nat->Rn}{fns:List Fx}(U:kJ fns rn)
include U
theorem Wh(m:Nat)(hm:m<=9)(hl:(prs m).length<=100):bL (rn (n+20)) k Pw [.int m]=some (.new ((prs m).map ∅)):=by
 have e0:(prs m).map ∅=(List.range m).flatMap λa=>((List.range (m - (a+1))).map λ(b:Nat)=>(a:Int)+1+(b:Int)).map λy=>~~~[(a:Int),y]:=by
  unfold prs pacc qj;rw[List.map_flatten,List.map_map,List.flatMap]
  congr 1
  refine o6 λa _=>?_
  show List.map _ (List.map _ _)=_;rw[List.map_map,List.map_map];rfl
 have hl':((List.range m).flatMap λa=>(List.range (m - (a+1))).map λ(b:Nat)=>(a:Int)+1+(b:Int)).length<=lim:=by
  refine ak _ (kA (Nat.le_of_eq ?_) (kA hl ⋯));unfold prs pacc qj;rw[List.flatMap,List.length_flatten,List.length_flatten,List.map_map,List.map_map]
  congr 1
  refine o6 λa _=>?_
  simp
 have w:=O8 (rn:=rn (n+18)) (bor:=[]) (k:=k) (g:=[‹m›]) (g1:=[‹m›]) (kk:=3) (nn:=1) (j1:=2) (j2:=3) (qw:=.fX ⇑0) (it:=.fL (.bin .Add ⇑2 ↥1) ⇑0) (c:=none) (e:=.tup [⇑2,⇑3]) (List.range m) (λ(a:Nat)=>D.int (a:Int)) (λa=>(List.range (m - (a+1))).map λ(b:Nat)=>(a:Int)+1+(b:Int)) D.int (λ_ _=>true) (λa y=>~~~[(a:Int),y]) (by
  have hr:cJ 0 m=(List.range m).map λ(j:Nat)=>D.int (j:Int):=by unfold cJ;exact o6 λx _=>by rw[Int.zero_add]
  simp! [U,dW,aN (m:Int) ⋯,hr]) rfl ⋯ ⋯ ⋯ ⋯ ⋯ ⋯ ⋯ hl' (λa ha G' hG=>by
  have h0:G'[0]?=some ‹m›:=hG.1 0 ⋯;have h2:=hG.2;rw[wE]at ha;have e1:((m:Int) - ((a:Int)+1)).toNat=m - (a+1):=by lia
  have e2:cJ ((a:Int)+1) (m - (a+1))=((List.range (m - (a+1))).map λ(b:Nat)=>(a:Int)+1+(b:Int)).map .int:=by unfold cJ;rw[List.map_map];rfl
  simp! [U,dW,h0,h2,aN (m:Int) ⋯,aN ((a:Int)+1) ⋯,e1,e2]) (λa _ b _ G' _=>rfl) (λa ha b hb _ G' hG=>by
  have h1:=hG.2.1;have h2:=hG.2.2;simp! [U,h1,h2];rfl)
 simp only[filter_all]at w;rw[e0];unfold bL Pw;simp! [U,w]
end
noncomputable def uN:Fx:=⟨2,2,[(.ret (.ite (.cmp .Lt ⇑0 ⇑1) (.tup [⇑0,⇑1]) (.tup [⇑1,⇑0])))]⟩
noncomputable def Em(to:Nat):Fx:=⟨2,4,[(.tgt (.tp [2,3]) ⇑0),(.ret (.tup [⇑2,(.blt .tuple [(.blt .sorted [(.comp 4 3 (.tp [5,6]) ⇑3 none (.call to [(.ix ⇑1 ⇑5),(.ix ⇑1 ⇑6)]))])])]))]⟩
noncomputable def cG(mb mt le:Nat):Fx:=⟨2,2,[(.expr (.call mb [⇑0])),(.expr (.call mt [(.ix ⇑0 ↥0),⇑1])),(.ret (.call le [⇑0,⇑1]))]⟩
section
variable{k n:Nat}{g g1:G}{rn:Nat->Rn}{fns:List Fx}{wh wi it ri iw ci cj cw mw tu mt mb le to:Nat}(U:kJ fns rn)
include U
theorem JD(a b:Int):bL (rn (n+8)) k uN [.int a,.int b]=some (.dat (~~~(if a<b then [a,b]else [b,a]))):=by
 unfold bL uN;by_cases h:a<b
 . simp! [U,h,ak 2 ⋯];simp
 . simp! [U,h,ak 2 ⋯];simp
variable(hTo:fns[to]?=some uN)
include hTo in
theorem Wi(m:Nat)(au: ~~~5)(t: ~~~0)(h:Wb m au)(ht:Tn m t):bL (rn (n+40)) (k+2) (Em to) [W m au,~~~t]=some (.dat (W m (tw t au))):=by
 have hl:=h.len;have htl:=ht.length;have st:∀s1 s2,Tg.set (.tp [2,3]) (W m au) [.dat (W m au),.dat (~~~t),s1,s2]=some [.dat (W m au),.dat (~~~t),‹m›,.dat (.tup (au.map ∅))]:=λ_ _=>rfl
 have w:=λn k=>zm (rn:=rn (n+16)) (bor:=[]) (k:=k+1) (g:=[.dat (W m au),.dat (~~~t),‹m›,.dat (.tup (au.map ∅))]) (g1:=[.dat (W m au),.dat (~~~t),‹m›,.dat (.tup (au.map ∅))]) (kk:=3) (nn:=4) (j1:=5) (j2:=6) (it:=.slot 3) (e:=.call to [(.ix ⇑1 ⇑5),(.ix ⇑1 ⇑6)]) au (λx=>.int (gt x 0)) (λx=>.int (gt x 1)) (λx=>~~~(tm t x)) (by
   have e:au.map ∅=au.map λx=>.tup [.int (gt x 0),.int (gt x 1)]:=o6 λx hx=>by
    obtain⟨a,b,rfl,_⟩:=h.tie x hx;rfl
   simp! [U,dW,<- e]) rfl ⋯ ⋯ ⋯ ⋯ ⋯ ⋯ ⋯ (ak _ ⋯) λx hx G' hG=>by
  have h1:G'[1]?=some (.dat (~~~t)):=hG.1 1 ⋯;obtain⟨a,b,rfl,h2,h3,h4⟩:=h.tie x hx;have h5:=hG.2.1;have h6:=hG.2.2;rw[(nU a b).1]at h5;rw[(nU a b).2]at h6;simp! [U,h5,h6,h1,cu (t:=t) (i:=a) ⋯,cu (t:=t) (i:=b) ⋯,hTo,aU (fx:=uN) rfl,JD U,Bu]
 have e1:au.map (λx=>~~~(tm t x))=(au.map (tm t)).map λx=>~~~x:=by rw[List.map_map];rfl
 have e2:=cY (au.map (tm t)) (λx hx=>by obtain⟨y,_,rfl⟩:=gN.mp hx;unfold tm;split <;> simp) (by simp;lia)
 unfold bL Em;simp! [U,Tg.ix,st,w,e1,e2,ak 2 ⋯];rfl
variable(hW:fns[wh]?=some bH)(hI:fns[wi]?=some (aZ wh))(hM:fns[mw]?=some (bZ wi ci))(hT:fns[tu]?=some (bf mw wh))(ZR:fns[mt]?=some (aQ tu cj))
include hW hI hM hT
theorem qk(m:Nat)(t: ~~~0)(hm:1<=m/\m<=6)(h:Tn m t):bL (rn (n+48)) (k+5) (aQ tu cj) [.int m,~~~t]=some (.dat .non)/\fO (rn (n+48)) (k+5) (aQ tu cj) [.int m,~~~t]=none:=by
 have hl:=h.length;have hf:qP (~~~t):=⟨by rw[fA];lia,λx hx=>Pl.ints hx⟩
 have q:=λn k=>(jg U hW hI hM (n:=n) (k:=k) m hm (~~~t) hf).1
 have q2:=λn k=>(jg U hW hI hM (n:=n) (k:=k) m hm (~~~t) hf).2
 have e:pY m (~~~t)=true:=by rw[lY,eR];exact h
 rw[e]at q;constructor
 . unfold bL aQ;simp! [U,hT,aU (fx:=bf mw wh) rfl,q]
 . unfold fO aQ;simp! [U,hT,aU (fx:=bf mw wh) rfl,cF (fx:=bf mw wh) rfl,q,q2]
include ZR
variable(se:fns[it]?=some (jM wi))(hRi:fns[ri]?=some zA)(Ko:fns[iw]?=some (fc wi it ri))(hMW:fns[mb]?=some (bC iw cw))(hLe:fns[le]?=some (Em to))
include se hRi Ko hMW
include hLe hTo in
theorem En(m:Nat)(au: ~~~5)(t: ~~~0)(hm:1<=m/\m<=6)(h:Wb m au)(ht:Tn m t):bL (rn (n+90)) (k+8) (cG mb mt le) [W m au,~~~t]=some (.dat (W m (tw t au))):=by
 have i0:xX (W m au) (.int 0)=some (.int m):=rfl;have q1:=λn k=>(qk U hW hI hM hT (cj:=cj) (n:=n) (k:=k) m t hm ht).1
 have q3:=λn k=>qh (ci:=cw) U hW hI se hRi Ko (n:=n) (k:=k) m au hm h
 have q4:=λn k=>Wi U hTo (n:=n) (k:=k) m au t h ht
 unfold bL cG;simp! [U,hMW,bw (fx:=bC iw cw) rfl,q3,i0,ZR,aU (fx:=aQ tu cj) rfl,q1,hLe,aU (fx:=Em to) rfl,q4]
theorem JF(m:Nat)(au: ~~~5)(hm:1<=m/\m<=6)(h:Wb m au)(d:D)(hd:qP d)(hn:pY m d=false):fO (rn (n+90)) (k+8) (cG mb mt le) [W m au,d]=some cj:=by
 have i0:xX (W m au) (.int 0)=some (.int m):=rfl;have q:=λn k=>mQ U hW hI hM hT (cj:=cj) (n:=n) (k:=k) m hm d hd hn
 have q3:=λn k=>qh (ci:=cw) U hW hI se hRi Ko (n:=n) (k:=k) m au hm h
 have q4:=λn k=>Jy (ci:=cw) U hW hI se hRi Ko (n:=n) (k:=k) m au hm h
 unfold fO cG;simp! [U,hMW,bw (fx:=bC iw cw) rfl,uG (fx:=bC iw cw) rfl,q3,q4,i0,ZR,cF (fx:=aQ tu cj) rfl,q]
end
end Ev
namespace aX
open Ev
noncomputable def nj:List PySem.Addr:=[37,49,61]
noncomputable def JG:Fx:=⟨2,2,[(.expr (.call 8 [⇑0,⇑1])),(.ret (.call 16 [⇑1]))]⟩
noncomputable def JH:Fx:=⟨2,2,[(.ret (.cmp .Eq (.call 9 [⇑0,⇑1]) ⇑0))]⟩
noncomputable def W7:Fx:=⟨1,5,[(.set 1 (.val .non)),.stuck,(.set 3 (.lst [(.yQ ⇑1 [(37,true),(49,false),(61,false)]),(.yQ ⇑1 [(37,false),(49,true),(61,false)]),(.yQ ⇑1 [(37,false),(49,false),(61,true)])])),(.set 3 (.bin .Add ⇑3 (.lst [(.yQ ⇑1 [(37,false),(49,false),(61,false)]),(.yQ ⇑1 [(37,false),(49,false),(61,false)]),(.yQ ⇑1 [(37,false),(49,false),(61,false)])]))),(.set 3 (.bin .Add ⇑3 (.lst [(.yQ ⇑1 [(37,false),(49,false),(61,false)]),(.yQ ⇑1 [(37,false),(49,false),(61,false)]),(.yQ ⇑1 [(37,false),(49,false),(61,false)])]))),(.expr (.append 3 (.yQ ⇑1 [(37,false),(49,false),(61,false)]))),(.ite (.not (.yQ ⇑1 [(37,true),(49,true),(61,true)])) [(.ret (.val .non))] []),(.setC 4 (.comp 5 2 (.nm 6) (.fX ↥10) (some (.ix ⇑3 ⇑6)) ⇑6)),(.ret (.ite (.cmp .Eq ⇑4 (.lst [↥9])) .stk ⇑4))]⟩
noncomputable def Bw:List Sm:=[(.set 6 (.call 15 [(.ix ⇑13 ↥0),⇑3])),(.ite (.not (.peek (.call 32 [⇑6,⇑4]))) (~~~4) []),(.expr (.append 6 (.tup [])))]
noncomputable def xK:List Sm:=[(.set 7 (.bin .Add ⇑7 (.bin .Mult (.blt .list [⇑8]) (.call 20 [⇑2,↥2]))))]
noncomputable def xM:List Sm:=[(.ite (.not (.peek (.call 32 [(.call 17 [⇑9,⇑3]),(.cmp .Eq (.call 25 [⇑9,⇑3]) ⇑9)]))) (~~~4) [])]
noncomputable def v1:Sm:=.ite (.cmp .NotEq (.o9 33 1 nj (.call 15 [(.ix ⇑13 ↥0),⇑11])) (.lst [↥2])) (~~~4) []
def v2:Sm:=.ite (.cmp .NotEq (.o9 33 1 nj (.call 17 [⇑13,⇑11])) (.lst [↥2])) (~~~4) []
noncomputable def s1:Sm:=.set 2 (.call 19 [⇑0,⇑1])
noncomputable def s2:Sm:=.set 13 (.call 23 [⇑2,↥6])
noncomputable def s3:Sm:=.set 3 (.call 24 [⇑2,(.ix ⇑13 ↥0)])
def s4:Sm:=.set 4 (.call 26 [⇑3])
def s5:Sm:=.loop (.nm 5) (.fX ↥2) Bw
def s6:Sm:=.set 7 (.lst [])
noncomputable def s7:Sm:=.loop (.nm 8) ⇑4 xK
def s8:Sm:=.loop (.nm 9) (.lst [⇑13,(.tup [(.ix ⇑13 ↥0),(.blt .tuple [(.blt .sorted [⇑7])])]),(.tup [(.ix ⇑13 ↥0),(.tup [])])]) xM
noncomputable def s9:Sm:=.tgt (.tp [11,10,12]) (.tup [(.call 29 [⇑2,⇑3]),(.call 31 [⇑2,↥6]),(.call 30 [⇑2])])
def Z1:Sm:=.ite (.not (.call 28 [(.ix ⇑13 ↥0),⇑11])) [v1,v2] []
def s11:Sm:=.ite (.cmp .NotEq (.o9 33 1 nj (.call 15 [⇑10,⇑11])) (.lst [↥1])) (~~~4) []
def s12:Sm:=.ite (.cmp .NotEq (.o9 33 1 nj (.call 17 [⇑12,⇑11])) (.lst [↥0])) (~~~4) []
noncomputable def xN:List Sm:=[s1,s2,s3,s4,s5,s6,s7,s8,s9,Z1,s11,s12]
def W8:Fx:=⟨1,14,[(.loop (.nm 1) (.fX (.blt .max [↥1,(.blt .min [(.blt .len [⇑0]),↥8])])) xN),(.ret (.val (.bl true)))]⟩
def fns:List Fx:=[bH,aZ 0,bZ 1 1,fc 1 4 5,jM 1,zA,bC 3 0,bf 2 0,aQ 7 2,cG 6 8 10,Em 11,Ef,Pw,jK 14,jJ,JG,Jv 12 13 11,JH,mO,lW 18,bz,fj,lV 20,zE 20 21 22,kK 20 22,fh,Ei 21,bH,dX 27,p8 20,bX 20,gX 20,d9 32,W7,W8]
theorem c0:fns[0]?=some (bH):=rfl
theorem c1:fns[1]?=some (aZ 0):=rfl
theorem c2:fns[2]?=some (bZ 1 1):=rfl
theorem c3:fns[3]?=some (fc 1 4 5):=rfl
theorem c4:fns[4]?=some (jM 1):=rfl
theorem c5:fns[5]?=some (zA):=rfl
theorem c6:fns[6]?=some (bC 3 0):=rfl
theorem c7:fns[7]?=some (bf 2 0):=rfl
theorem c8:fns[8]?=some (aQ 7 2):=rfl
theorem c9:fns[9]?=some (cG 6 8 10):=rfl
theorem c10:fns[10]?=some (Em 11):=rfl
theorem c11:fns[11]?=some (Ef):=rfl
theorem c12:fns[12]?=some (Pw):=rfl
theorem c13:fns[13]?=some (jK 14):=rfl
theorem c14:fns[14]?=some (jJ):=rfl
theorem c15:fns[15]?=some (JG):=rfl
theorem c16:fns[16]?=some (Jv 12 13 11):=rfl
theorem c17:fns[17]?=some (JH):=rfl
theorem c18:fns[18]?=some (mO):=rfl
theorem c19:fns[19]?=some (lW 18):=rfl
theorem W9:fns[20]?=some (bz):=rfl
theorem c21:fns[21]?=some (fj):=rfl
theorem c22:fns[22]?=some (lV 20):=rfl
theorem c23:fns[23]?=some (zE 20 21 22):=rfl
theorem c24:fns[24]?=some (kK 20 22):=rfl
theorem c25:fns[25]?=some (fh):=rfl
theorem c26:fns[26]?=some (Ei 21):=rfl
theorem c27:fns[27]?=some (bH):=rfl
theorem c28:fns[28]?=some (dX 27):=rfl
theorem c29:fns[29]?=some (p8 20):=rfl
theorem c30:fns[30]?=some (bX 20):=rfl
theorem c31:fns[31]?=some (gX 20):=rfl
theorem c32:fns[32]?=some (d9 32):=rfl
theorem c33:fns[33]?=some (W7):=rfl
end aX
namespace aX
open Ev
noncomputable abbrev kU(l:List (~~~5)):List D:=l.map λr=>.tup (r.map ∅)
def qA(m:Nat)(t: ~~~0):Bool:=Pq m t&&Bt (fC t) (prs m)&&decide (mh (fC t) (prs m) [] []=gZ m t)
def zG(rn:Rn)(k:Nat)(C:Nat)(c:Int):Prop:=∃r g3,rn.b [] k (W7.body.drop 2) ((List.replicate W7.n .no).set 1 (.dat (.mC C)))=some (.rt r,g3)/\d7 [] g3 r=some (.new [.int c])
structure Fk(rn:Nat->Rn)(n k:Nat):Prop where
 bd:∀d∈mj,fO (rn (n+121)) (k+8) (bC 3 0) [d]=some 0
 a0:zG (rn (n+127)) (k+11) 37 0
 a1:zG (rn (n+127)) (k+11) 49 1
 a2:zG (rn (n+127)) (k+11) 61 2
 b2:zG (rn (n+126)) (k+11) 61 2
theorem pr2{m:Nat}(hm:1<=m/\m<=6):(∀p∈prs m,∃a b:Int,p=[a,b]/\0<=a/\a<m/\0<=b/\b<m)/\(prs m).Nodup/\(prs m).length<=15:=by
 obtain⟨h1,h2,h3⟩:=gY hm;refine⟨λp hp=>?_,h2,h3⟩
 obtain⟨a,b,e,h4,h5,h6⟩:=h1 p hp;exact⟨a,b,e,h4,by lia,by lia,h6⟩
section
variable{k n:Nat}{g g1:G}{rn:Nat->Rn}(U:kJ fns rn)
include U
theorem q9(m:Nat)(au: ~~~5)(t: ~~~0)(hm:1<=m/\m<=6)(h:Wb m au)(ht:Tn m t):bL (rn (n+90)) (k+8) (cG 6 8 10) [W m au,~~~t]=some (.dat (W m (tw t au))):=En U c11 c0 c1 c2 c7 c8 c4 c5 c3 c6 c10 m au t hm h ht
theorem JK(m:Nat)(a b: ~~~5):fz .Eq (W m a) (W m b)=some (decide (a=b)):=by
 show (if fZ (W m a) (W m b)=true then some (bW (W m a) (W m b))else none)=_
 rw[gL (V6 m m _ _),ZV]
theorem q17(m:Nat)(au: ~~~5)(t: ~~~0)(hm:1<=m/\m<=6)(h:Wb m au)(ht:Tn m t):bL (rn (n+95)) (k+9) JH [W m au,~~~t]=some (.dat (.bl (decide (tw t au=au)))):=by
 have q:=λn k=>q9 U (n:=n) (k:=k) m au t hm h ht
 have e:=JK U m (tw t au) au;unfold bL JH;simp! [U,c9,aU (fx:=cG 6 8 10) rfl,q,e]
theorem q15(m:Nat)(t: ~~~0)(hm:1<=m/\m<=6)(ht:Tn m t)(ok:Pq m t=true):bL (rn (n+66)) (k+6) JG [.int m,~~~t]=some (.new (kU (gZ m t))):=by
 unfold Pq at ok;simp only[d5]at ok;obtain⟨f1,f2,f3⟩:=pr2 hm;have qp:=λn k=>Wh U (n:=n) (k:=k) m ⋯ ⋯
 have q1:=λn k=>V4 U c14 c11 c13 c12 (n:=n) (k:=k) m ⟨hm.1,by lia⟩ t ht.length (prs m) (qp _ _) rfl f1 f2 ⋯ ok.1.1.1.1
 have q0:=λn k=>(qk U c0 c1 c2 c7 (cj:=2) (n:=n) (k:=k) m t hm ht).1
 unfold bL JG gZ;simp! [U,c8,aU (fx:=aQ 7 2) rfl,q0,c16,bw (fx:=Jv 12 13 11) rfl,q1]
theorem q26(m:Nat)(t: ~~~0)(hm:1<=m/\m<=6)(ht:Tn m t)(ok:qA m t=true):bL (rn (n+60)) (k+1) (Ei 21) [~~~t]=some (.new (kU (gZ m t))):=by
 unfold qA at ok;simp only[d5,eR]at ok;obtain⟨f1,f2,f3⟩:=pr2 hm;have qp:=λn k=>kN U (n:=n) (k:=k) m hm
 have q:=V5 U c21 (n:=n+20) (k:=k) m ⟨hm.1,by lia⟩ t ht.length (prs m) (qp (n+28) k) rfl f1 ⋯ ok.1.2
 rw[ok.2]at q;exact q
theorem Px{L:Nat}{bor:List Nat}{e:Ex}{g g':G}{ci C:Nat}{c:Int}(hx:(rn L).x [] (k+11) e (g.map noOwn)=some (ci,g'))(hc:nj[ci]?=some C)(hr:zG (rn L) (k+11) C c):(rn (L+1)).e bor (k+13) (.o9 33 1 nj e) g=some (.new [.int c],g):=by obtain⟨r,g3,h1,h2⟩:=hr;rw[U.e];simp only[aO,c33,hx,hc,h1,h2]
theorem Z2(m:Nat)(hm:1<=m/\m<=6)(d:D)(hd:qP d)(h:pY m d=false):fO (rn (n+60)) (k+6) JG [.int m,d]=some 2:=by
 have q:=λn k=>mQ U c0 c1 c2 c7 (cj:=2) (n:=n) (k:=k) m hm d hd h
 unfold fO JG;simp! [U,c8,cF (fx:=aQ 7 2) rfl,q]
theorem Z3(b d:D)(h:xu 1 6 b=false):fO (rn (n+60)) (k+6) JG [b,d]=some 1:=by
 have q:=λn k=>xA U c0 c1 c2 c7 (cj:=2) (n:=n) (k:=k) b d h
 unfold fO JG;simp! [U,c8,cF (fx:=aQ 7 2) rfl,q]
theorem Z4(m:Nat)(au: ~~~5)(hm:1<=m/\m<=6)(hw:Wb m au)(d:D)(hd:qP d)(h:pY m d=false):fO (rn (n+100)) (k+9) JH [W m au,d]=some 2:=by
 have q:=λn k=>JF (le:=10) U c0 c1 c2 c7 c8 c4 c5 c3 c6 (n:=n) (k:=k) m au hm hw d hd h
 unfold fO JH;simp! [U,c9,cF (fx:=cG 6 8 10) rfl,q]
end
end aX
namespace aX
open Ev
noncomputable abbrev fr(a0 a1 a2 a3 a4 a5 a6 a7 a8 a9 a10 a11 a12 a13:Slot):G:=[a0,a1,a2,a3,a4,a5,a6,a7,a8,a9,a10,a11,a12,a13]
section
variable{k n:Nat}{g g1:G}{rn:Nat->Rn}(U:kJ fns rn)
include U
theorem Py(l:List (~~~5))(h1:l.length<=15)(h2:∀r∈l,r.length<=41/\∀x∈r,x.length<=2):Sd 3 (.lst (kU l)):=by
 refine⟨by rw[fA];lia,λd hd=>?_⟩
 obtain⟨r,hr,rfl⟩:=gN.mp hd;obtain⟨h3,h4⟩:=h2 r hr;refine⟨by rw[fA];lia,λd hd=>?_⟩
 obtain⟨x,hx,rfl⟩:=gN.mp hd;have:=h4 x hx;refine⟨by rw[fA];lia,λd hd=>?_⟩
 obtain⟨y,hy,rfl⟩:=gN.mp hd;trivial
theorem lap(m:Nat)(hm:1<=m/\m<=6)(au: ~~~5)(t: ~~~0)(ht:Tn m t)(ok:Pq m t=true)(hs:Sd 3 (.lst (kU (gZ m t))))(a0 a1 a2 a5 a6 a7 a8 a9 a10 a11 a12:Slot):∃b6,(rn (n+129)).b [] (k+13) Bw (fr a0 a1 a2 (.dat (~~~t)) (.own (kU (gZ m t))) a5 a6 a7 a8 a9 a10 a11 a12 (.dat (W m au)))=some (.nx,fr a0 a1 a2 (.dat (~~~t)) (.own (kU (gZ m t))) a5 b6 a7 a8 a9 a10 a11 a12 (.dat (W m au))):=by
 have i0:xX (W m au) (.int 0)=some (.int m):=rfl;have q1:=λn k=>q15 U (n:=n) (k:=k) m t hm ht ok
 have q2:=λn k=>uK U c32 3 n k _ hs
 simp only[Nat.reduceMul,Nat.add_assoc,Nat.reduceAdd]at q2;have hl:(kU (gZ m t)).length<lim:=BI hs.1 ⋯;generalize kU (gZ m t)=L at q1 q2 hl;refine⟨.own (L++[.tup []]),?_⟩;unfold Bw;simp! [U,i0,c15,aU (fx:=JG) rfl,q1,iU,c32,aU (fx:=d9 32) rfl,q2,flat,ak 0 ⋯,hl]
theorem Pz(l:List D)(r:Int)(h:r=0\/r=1)(hl:l.length<=1000):ve .Mult (.lst l) (.int r)=some (.new (if r=1 then l else [])):=by
 have e:∀z:Int,z=0\/z=1->(List.replicate z.toNat l).flatten=if z=1 then l else []:=λz hz=>by
  rcases hz with rfl |rfl
  . rfl
  . simp
 show (if -(2 ^ 63)<=r/\r<2 ^ 63/\l.length * r.toNat<=lim then some (R.new (List.replicate r.toNat l).flatten)else none)=_
 rw[gL,e r h];refine⟨by lia,by lia,?_⟩
 have:r.toNat<=1:=by lia
 exact kA (Nat.mul_le_mul_left _ this) (ak _ ⋯)
theorem row1(s:Int)(fl:Bool)(r: ~~~5)(acc: ~~~5)(hr:r.length<=41)(ha:acc.length<=800)(a0 a1 a3 a4 a5 a6 a9 a10 a11 a12 a13:Slot):∃(s':Int) (b:Bool),(rn (n+129)).b [] (k+13) xK (fr a0 a1 (St s fl) a3 a4 a5 a6 (.own (acc.map ∅)) (.dat (.tup (r.map ∅))) a9 a10 a11 a12 a13)=some (.nx,fr a0 a1 (St s' fl) a3 a4 a5 a6 (.own ((acc++if b then r else []).map ∅)) (.dat (.tup (r.map ∅))) a9 a10 a11 a12 a13):=by
 obtain⟨z,s',z1,z2,q⟩:=bQ U (n:=n+105) (k:=k+12) (g:=fr a0 a1 (St s fl) a3 a4 a5 a6 (.own (acc.map ∅)) (.dat (.tup (r.map ∅))) a9 a10 a11 a12 a13) (i:=2) (s:=s) (fl:=fl) (m:=2) rfl ⋯
 have q':aM (rn (n+125)) bz (k+12) [.var 2,‹2›] (fr a0 a1 (St s fl) a3 a4 a5 a6 (.own (acc.map ∅)) (.dat (.tup (r.map ∅))) a9 a10 a11 a12 a13)=some (‹z›,fr a0 a1 (St s' fl) a3 a4 a5 a6 (.own (acc.map ∅)) (.dat (.tup (r.map ∅))) a9 a10 a11 a12 a13):=q
 have mr:=Pz U (r.map ∅) z ⋯ (by rw[fA];lia)
 refine⟨s',decide (z=1),?_⟩;have e:(acc++if (decide (z=1))=true then r else []).map ∅=acc.map ∅++if z=1 then r.map ∅else []:=by rw[AI];by_cases hz:z=1 <;> simp[hz]
 rw[e];have o:ve .Add (.lst (acc.map ∅)) (.lst (if z=1 then r.map ∅else []))=some (.new (acc.map ∅++if z=1 then r.map ∅else [])):=nR _ _ (by
  rw[fA];split
  . rw[fA];lia
  .
   simp only[yB];lia)
 generalize (if z=1 then r.map ∅else ([]:List D))=X at mr o
 generalize acc.map ∅=A at q' o
 generalize r.map ∅=B at q' mr
 unfold xK;simp! [U,W9,q',mr,o]
theorem rows(fl:Bool)(a0 a1 a3 a4 a5 a6 a9 a10 a11 a12 a13:Slot):∀(ls:List (~~~5)) (s:Int) (acc: ~~~5) (a8:Slot),(∀r∈ls,r.length<=41)->acc.length+41 * ls.length<=800->∃(s':Int) (ch:List (~~~5)) (b8:Slot),ch.Sublist ls/\eY (.nm 8) ((rn (n+129)).b [] (k+13) xK) (kU ls) (fr a0 a1 (St s fl) a3 a4 a5 a6 (.own (acc.map ∅)) a8 a9 a10 a11 a12 a13)=some (.nx,fr a0 a1 (St s' fl) a3 a4 a5 a6 (.own ((acc++ch.flatten).map ∅)) b8 a9 a10 a11 a12 a13)
 | [],s,acc,a8,_,_=>⟨s,[],a8,AG _,by rw[List.flatten_nil,nK];rfl⟩
 |r::ls,s,acc,a8,h1,h2=>by
  rw[l4]at h2;have hr:=h1 r dC;obtain⟨s1,b,q⟩:=row1 U (n:=n) (k:=k) s fl r acc hr ⋯ a0 a1 a3 a4 a5 a6 a9 a10 a11 a12 a13;obtain⟨s',ch,b8,c1,c2⟩:=rows fl a0 a1 a3 a4 a5 a6 a9 a10 a11 a12 a13 ls s1 (acc++if b=true then r else []) (.dat (.tup (r.map ∅))) (λx hx=>h1 x (dA _ hx)) (by
   rw[eJ];split
   . lia
   .
    simp only[yB];lia)
  have hs:Tg.set (.nm 8) (.tup (r.map ∅)) (fr a0 a1 (St s fl) a3 a4 a5 a6 (.own (acc.map ∅)) a8 a9 a10 a11 a12 a13)=some (fr a0 a1 (St s fl) a3 a4 a5 a6 (.own (acc.map ∅)) (.dat (.tup (r.map ∅))) a9 a10 a11 a12 a13):=rfl
  refine⟨s',if b=true then r::ch else ch,b8,?_,?_⟩
  .
   split
   . exact c1.cons₂ r
   . exact c1.cons r
  .
   show eY (.nm 8) _ (.tup (r.map ∅)::kU ls) _=_
   unfold eY;rw[hs];dsimp only;rw[q];dsimp only;rw[c2]
   congr 4
   cases b with
   |true=>simp
   |false=>simp
theorem one1(m:Nat)(hm:1<=m/\m<=6)(t: ~~~0)(ht:Tn m t)(w: ~~~5)(hw:Wb m w)(a0 a1 a2 a4 a5 a6 a7 a8 a10 a11 a12 a13:Slot):(rn (n+129)).b [] (k+13) xM (fr a0 a1 a2 (.dat (~~~t)) a4 a5 a6 a7 a8 (.dat (W m w)) a10 a11 a12 a13)=some (.nx,fr a0 a1 a2 (.dat (~~~t)) a4 a5 a6 a7 a8 (.dat (W m w)) a10 a11 a12 a13):=by
 have q1:=λn k=>q17 U (n:=n) (k:=k) m w t hm hw ht
 have q2:=λn k=>uL U (n:=n) (k:=k) m w t hw ht
 have e:=JK U m (tw t w) w;have q3:=λn k=>uK U c32 0 n k (.bl (decide (tw t w=w))) trivial
 simp only[Nat.reduceMul,Nat.add_assoc,Nat.reduceAdd,Nat.add_zero]at q3;generalize decide (tw t w=w)=b at q1 e q3;have hz:List.map iU (fr a0 a1 a2 (.dat (~~~t)) a4 a5 a6 a7 a8 (.dat (W m w)) a10 a11 a12 a13)=fr (iU a0) (iU a1) (iU a2) (.dat (~~~t)) (iU a4) (iU a5) (iU a6) (iU a7) (iU a8) (.dat (W m w)) (iU a10) (iU a11) (iU a12) (iU a13):=rfl;unfold xM;simp! [U,hz,c17,aU (fx:=JH) rfl,q1,c25,aU (fx:=fh) rfl,q2,e,c32,aU (fx:=d9 32) rfl,q3,flat]
end
end aX
namespace aX
open Ev
section
variable{k n:Nat}{g g1:G}{rn:Nat->Rn}(U:kJ fns rn)(F:Fk rn n k)
include U
theorem uO{L:Nat}{e:Ex}{GG g':G}{ci C:Nat}{c:Int}(hx:(rn (L+1)).x [] (k+11) e (GG.map noOwn)=some (ci,g'))(hc:nj[ci]?=some C)(hr:zG (rn (L+1)) (k+11) C c):aG (rn (L+3)) [] (k+13) (.ite (.cmp .NotEq (.o9 33 1 nj e) (.lst [(.val (.int c))])) (~~~4) []) GG=some (.nx,GG):=by
 have r0:=Px U (k:=k) (bor:=[]) hx hc hr;have l0:(rn (L+1+1)).e [] (k+13) (.lst [(.val (.int c))]) GG=some (.new [.int c],GG):=by simp! [U,ak 1 ⋯]
 have b0:(rn (L+3)).b [] (k+13) [] GG=some (.nx,GG):=by rw[U.b];rfl
 have t0:(rn (L+3)).t [] (k+13) (.cmp .NotEq (.o9 33 1 nj e) (.lst [(.val (.int c))])) GG=some (false,GG):=by
  rw[U.t];have cm:fz .NotEq (.lst [.int c]) (.lst [.int c])=some false:=by simp[fz,fZ,bW,dj,g5,fy,dep,deps]
  simp only[stepT,argsR,r0,l0,norm,pk,cm]
 simp only[aG,t0,b0]
theorem Z5{d e:D}(y:fO (rn (n+121)) (k+8) (bC 3 0) [d]=some 0):fO (rn (n+126)) (k+10) JH [d,e]=some 0:=by
 have f0:fO (rn (n+123)) (k+9) (cG 6 8 10) [d,e]=some 0:=by unfold fO cG;simp! [U,c6,uG (fx:=bC 3 0) rfl,y]
 unfold fO JH;simp! [U,c9,cF (fx:=cG 6 8 10) rfl,f0]
include F
theorem refusals(m:Nat)(hm:1<=m/\m<=6)(au: ~~~5)(h:Wb m au)(b d w:D)(hb:xu 1 6 b=false)(hd:qP d)(hw:w∈mj)(a0 a1 a2 a3 a4 a5 a6 a7 a8 a9:Slot)(rest:List Sm) :
  fD (rn (n+129)) [] (k+13) (Z1::s11::s12::rest) (fr a0 a1 a2 a3 a4 a5 a6 a7 a8 a9 (.dat b) (.dat d) (.dat w) (.dat (W m au)))=fD (rn (n+129)) [] (k+13) rest (fr a0 a1 a2 a3 a4 a5 a6 a7 a8 a9 (.dat b) (.dat d) (.dat w) (.dat (W m au))):=by
 have i0:xX (W m au) (.int 0)=some (.int m):=rfl;generalize hG:fr a0 a1 a2 a3 a4 a5 a6 a7 a8 a9 (.dat b) (.dat d) (.dat w) (.dat (W m au))=GG;have nz:List.map noOwn GG=fr (noOwn a0) (noOwn a1) (noOwn a2) (noOwn a3) (noOwn a4) (noOwn a5) (noOwn a6) (noOwn a7) (noOwn a8) (noOwn a9) (.dat b) (.dat d) (.dat w) (.dat (W m au)):=by rw[<- hG];rfl
 have g11:GG[11]?=some (.dat d):=by rw[<- hG];rfl
 have g13:GG[13]?=some (.dat (W m au)):=by rw[<- hG];rfl
 have y1:=λn k=>Z3 U (n:=n) (k:=k) b d hb
 have e11:aG (rn (n+129)) [] (k+13) s11 GG=some (.nx,GG):=by refine uO U (L:=n+126) (ci:=1) (g':=GG.map noOwn) ?_ rfl F.a1;rw[nz];simp! [U,c15,cF (fx:=JG) rfl,y1]
 have y0:=Z5 U (n:=n) (k:=k) (e:=d) (F.bd w hw);have e12:aG (rn (n+129)) [] (k+13) s12 GG=some (.nx,GG):=by refine uO U (L:=n+126) (ci:=0) (g':=GG.map noOwn) ?_ rfl F.a0;rw[nz];simp! [U,c17,cF (fx:=JH) rfl,y0]
 have Kp:=λn k=>zu U c27 (n:=n) (k:=k) m hm d hd
 have e10:aG (rn (n+129)) [] (k+13) Z1 GG=some (.nx,GG):=by
  cases hi:pY m d with
  |true=>
   rw[hi]at Kp;have b0:(rn (n+129)).b [] (k+13) [] GG=some (.nx,GG):=by rw[U.b];rfl
   unfold Z1;generalize hv:[v1,v2]=vv;simp! [U,g11,g13,i0,c28,aU (fx:=dX 27) rfl,Kp]
  |false=>
   rw[hi]at Kp;have z1:=λn k=>Z2 U (n:=n) (k:=k) m hm d hd hi
   have z2:=λn k=>Z4 U (n:=n) (k:=k) m au hm h d hd hi
   have f1:aG (rn (n+128)) [] (k+13) v1 GG=some (.nx,GG):=by refine uO U (L:=n+125) (ci:=2) (g':=GG.map noOwn) ?_ rfl F.b2;rw[nz];simp! [U,i0,c15,cF (fx:=JG) rfl,z1]
   have f2:aG (rn (n+128)) [] (k+13) v2 GG=some (.nx,GG):=by refine uO U (L:=n+125) (ci:=2) (g':=GG.map noOwn) ?_ rfl F.b2;rw[nz];simp! [U,c17,cF (fx:=JH) rfl,z2]
   have bb:(rn (n+129)).b [] (k+13) [v1,v2] GG=some (.nx,GG):=by rw[U.b,aC f1,aC f2];rfl
   unfold Z1;generalize [v1,v2]=vv at bb;have tt:(rn (n+129)).t [] (k+13) (.not (.call 28 [(.ix ⇑13 ↥0),⇑11])) GG=some (true,GG):=by simp! [U,g11,g13,i0,c28,aU (fx:=dX 27) rfl,Kp]
   simp only[aG,tt,bb]
 rw[aC e10,aC e11,aC e12]
end
end aX
namespace aX
open Ev
section
variable{k n:Nat}{g g1:G}{rn:Nat->Rn}(U:kJ fns rn)(F:Fk rn n k)(hT:∀m:Nat,1<=m/\m<=6->∀t,Tn m t->qA m t=true)
include U F hT
theorem cell(ns: ~~~0)(hl:ns.length<=63)(j:Nat)(a2 a3 a4 a5 a6 a7 a8 a9 a10 a11 a12 a13:Slot):∃b2 b3 b4 b5 b6 b7 b8 b9 b10 b11 b12 b13,(rn (n+130)).b [] (k+13) xN (fr (.dat (.fix (ns.map .int))) ‹j› a2 a3 a4 a5 a6 a7 a8 a9 a10 a11 a12 a13)=some (.nx,fr (.dat (.fix (ns.map .int))) ‹j› b2 b3 b4 b5 b6 b7 b8 b9 b10 b11 b12 b13):=by
 obtain⟨s,fl,q1⟩:=Jr U c18 (n:=n+88) (k:=k+11) ns ⋯ j;generalize hA0:Slot.dat (.fix (ns.map .int))=A0;generalize hA1:Slot.dat (.int (j:Int))=A1;have e1:aG (rn (n+129)) [] (k+13) s1 (fr A0 A1 a2 a3 a4 a5 a6 a7 a8 a9 a10 a11 a12 a13)=some (.nx,fr A0 A1 (St s fl) a3 a4 a5 a6 a7 a8 a9 a10 a11 a12 a13):=by subst hA0 hA1;unfold s1;simp! [U,c19,aU (fx:=lW 18) rfl,q1]
 obtain⟨m,au,z1,hm,h,q2⟩:=Wg U W9 c21 c22 (n:=n+48) (k:=k+9) (g:=fr A0 A1 (St s fl) a3 a4 a5 a6 a7 a8 a9 a10 a11 a12 a13) (i:=2) (s:=s) (fl:=fl) rfl;have GJ:aM (rn (n+128)) (zE 20 21 22) (k+12) [.var 2,‹6›] (fr A0 A1 (St s fl) a3 a4 a5 a6 a7 a8 a9 a10 a11 a12 a13)=some (.dat (W m au),fr A0 A1 (St z1 fl) a3 a4 a5 a6 a7 a8 a9 a10 a11 a12 a13):=q2;have e2:aG (rn (n+129)) [] (k+13) s2 (fr A0 A1 (St s fl) a3 a4 a5 a6 a7 a8 a9 a10 a11 a12 a13)=some (.nx,fr A0 A1 (St z1 fl) a3 a4 a5 a6 a7 a8 a9 a10 a11 a12 (.dat (W m au))):=by unfold s2;simp! [U,c23,GJ]
 have i0:xX (W m au) (.int 0)=some (.int m):=rfl;obtain⟨t,z2,ht,q3⟩:=Oz U W9 c22 (n:=n+48) (k:=k+10) (g:=fr A0 A1 (St z1 fl) a3 a4 a5 a6 a7 a8 a9 a10 a11 a12 (.dat (W m au))) (i:=2) (s:=z1) (fl:=fl) m hm rfl;have Qi:aM (rn (n+128)) (kK 20 22) (k+12) [.var 2,‹m›] (fr A0 A1 (St z1 fl) a3 a4 a5 a6 a7 a8 a9 a10 a11 a12 (.dat (W m au)))=some (.dat (~~~t),fr A0 A1 (St z2 fl) a3 a4 a5 a6 a7 a8 a9 a10 a11 a12 (.dat (W m au))):=q3;have e3:aG (rn (n+129)) [] (k+13) s3 (fr A0 A1 (St z1 fl) a3 a4 a5 a6 a7 a8 a9 a10 a11 a12 (.dat (W m au)))=some (.nx,fr A0 A1 (St z2 fl) (.dat (~~~t)) a4 a5 a6 a7 a8 a9 a10 a11 a12 (.dat (W m au))):=by unfold s3;simp! [U,i0,c24,Qi]
 have tok:=hT m hm t ht;have ok:Pq m t=true:=by unfold qA at tok;simp only[d5]at tok;exact tok.1.1
 have o5:(gZ m t).length<=15:=by have:=ok;unfold Pq at this;simp only[d5,eR]at this;exact this.2
 have rl:∀r∈gZ m t,r.length<=41/\∀x∈r,x.length<=2:=λr hr=>by
  have:=ok;unfold Pq at this;simp only[d5]at this;unfold gZ xF at hr;obtain⟨p,hpp,rfl⟩:=gN.mp (lS.mp hr).1;have g:=gH this.1.1.1.1 hpp;refine⟨g.2.2.2.2.1,λx hx=>?_⟩
  obtain⟨a,b,rfl,_⟩:=(gY hm).1 x (g.2.2.2.1 x hx);exact eC _
 have q4:=λn k=>q26 U (n:=n) (k:=k) m t hm ht tok
 have e4:aG (rn (n+129)) [] (k+13) s4 (fr A0 A1 (St z2 fl) (.dat (~~~t)) a4 a5 a6 a7 a8 a9 a10 a11 a12 (.dat (W m au)))=some (.nx,fr A0 A1 (St z2 fl) (.dat (~~~t)) (.own (kU (gZ m t))) a5 a6 a7 a8 a9 a10 a11 a12 (.dat (W m au))):=by unfold s4;generalize kU (gZ m t)=L at q4;simp! [U,c26,bw (fx:=Ei 21) rfl,q4]
 have sd:=Py U (gZ m t) o5 rl;obtain⟨b6,l1⟩:=lap U (n:=n) (k:=k) m hm au t ht ok sd A0 A1 (St z2 fl) ‹0› a6 a7 a8 a9 a10 a11 a12;obtain⟨d6,l2⟩:=lap U (n:=n) (k:=k) m hm au t ht ok sd A0 A1 (St z2 fl) ‹1› b6 a7 a8 a9 a10 a11 a12;have e5:aG (rn (n+129)) [] (k+13) s5 (fr A0 A1 (St z2 fl) (.dat (~~~t)) (.own (kU (gZ m t))) a5 a6 a7 a8 a9 a10 a11 a12 (.dat (W m au)))=some (.nx,fr A0 A1 (St z2 fl) (.dat (~~~t)) (.own (kU (gZ m t))) ‹1› d6 a7 a8 a9 a10 a11 a12 (.dat (W m au))):=by
  generalize Slot.own (kU (gZ m t))=B4 at l1 l2;have hw:dW (rn (n+129)) [] (k+13) false (.fX ↥2) (fr A0 A1 (St z2 fl) (.dat (~~~t)) B4 a5 a6 a7 a8 a9 a10 a11 a12 (.dat (W m au)))=some ([.int 0,.int 1],fr A0 A1 (St z2 fl) (.dat (~~~t)) B4 a5 a6 a7 a8 a9 a10 a11 a12 (.dat (W m au))):=by have rr:cJ 0 2=[.int 0,.int 1]:=rfl;simp! [U,dW,aN 2 ⋯,rr]
  generalize hb:(rn (n+129)).b [] (k+13) Bw=bb at l1 l2;unfold s5;simp only[aG,Tg.ix,Tg.gU,hw,hb];simp[eY,Tg.set,l1,l2]
 have e6:aG (rn (n+129)) [] (k+13) s6 (fr A0 A1 (St z2 fl) (.dat (~~~t)) (.own (kU (gZ m t))) ‹1› d6 a7 a8 a9 a10 a11 a12 (.dat (W m au)))=some (.nx,fr A0 A1 (St z2 fl) (.dat (~~~t)) (.own (kU (gZ m t))) ‹1› d6 (.own []) a8 a9 a10 a11 a12 (.dat (W m au))):=by unfold s6;generalize Slot.own (kU (gZ m t))=B4;simp! [U,ak 0 ⋯]
 obtain⟨z3,ch,b8,hch,q7⟩:=rows U (n:=n) (k:=k) fl A0 A1 (.dat (~~~t)) (.dat (.lst (kU (gZ m t)))) ‹1› d6 a9 a10 a11 a12 (.dat (W m au)) (gZ m t) z2 [] a8 (λr hr=>(rl r hr).1) (by simp only[yB];lia)
 rw[y6]at q7;have hcw:=zF hm ok hch;have e7:aG (rn (n+129)) [] (k+13) s7 (fr A0 A1 (St z2 fl) (.dat (~~~t)) (.own (kU (gZ m t))) ‹1› d6 (.own []) a8 a9 a10 a11 a12 (.dat (W m au)))=some (.nx,fr A0 A1 (St z3 fl) (.dat (~~~t)) (.dat (.lst (kU (gZ m t)))) ‹1› d6 (.own (ch.flatten.map ∅)) b8 a9 a10 a11 a12 (.dat (W m au))):=by
  have hw:dW (rn (n+129)) [] (k+13) false ⇑4 (fr A0 A1 (St z2 fl) (.dat (~~~t)) (.own (kU (gZ m t))) ‹1› d6 (.own []) a8 a9 a10 a11 a12 (.dat (W m au)))=some (kU (gZ m t),fr A0 A1 (St z2 fl) (.dat (~~~t)) (.dat (.lst (kU (gZ m t)))) ‹1› d6 (.own []) a8 a9 a10 a11 a12 (.dat (W m au))):=by generalize kU (gZ m t)=L;simp! [U,dW]
  generalize hb:(rn (n+129)).b [] (k+13) xK=bb at q7;have q7':eY (.nm 8) bb (kU (gZ m t)) (fr A0 A1 (St z2 fl) (.dat (~~~t)) (.dat (.lst (kU (gZ m t)))) ‹1› d6 (.own []) a8 a9 a10 a11 a12 (.dat (W m au)))=_:=q7;unfold s7;simp only[aG,Tg.ix,Tg.gU,hw,hb,q7'];simp
 generalize hB4:Slot.dat (.lst (kU (gZ m t)))=B4 at e7;have w0:Wb m []:=⟨(λ_ hx=>nomatch hx),List.Pairwise.nil,u7 _⟩
 have so:=cY ch.flatten (λx hx=>by
  obtain⟨a,b,rfl,_⟩:=hcw.tie x ((cK _).mem_iff.mpr hx);exact List.cons_ne_nil _ _) (by have:=hcw.len;rw[(cK (O:=fW) ch.flatten).length_eq]at this;lia)
 have e8:∃b9,aG (rn (n+129)) [] (k+13) s8 (fr A0 A1 (St z3 fl) (.dat (~~~t)) B4 ‹1› d6 (.own (ch.flatten.map ∅)) b8 a9 a10 a11 a12 (.dat (W m au)))=some (.nx,fr A0 A1 (St z3 fl) (.dat (~~~t)) B4 ‹1› d6 (.own (ch.flatten.map ∅)) b8 b9 a10 a11 a12 (.dat (W m au))):=by
  generalize cO fW ch.flatten=cw at hcw so;generalize ch.flatten.map ∅=C at so
  have hw:dW (rn (n+129)) [] (k+13) false (.lst [⇑13,(.tup [(.ix ⇑13 ↥0),(.blt .tuple [(.blt .sorted [⇑7])])]),(.tup [(.ix ⇑13 ↥0),(.tup [])])]) (fr A0 A1 (St z3 fl) (.dat (~~~t)) B4 ‹1› d6 (.own C) b8 a9 a10 a11 a12 (.dat (W m au)))=some ([au,cw,[]].map (W m),fr A0 A1 (St z3 fl) (.dat (~~~t)) B4 ‹1› d6 (.own C) b8 a9 a10 a11 a12 (.dat (W m au))):=by
   have e1:W m cw=.tup [.int m,.tup (cw.map ∅)]:=rfl
   have e2:W m []=.tup [.int m,.tup []]:=rfl;have e3:[au,cw,[]].map (W m)=[W m au,.tup [.int m,.tup (cw.map ∅)],.tup [.int m,.tup []]]:=rfl
   rw[e3];simp! [U,dW,i0,so,ak 0 ⋯,ak 2 ⋯,ak 3 ⋯]
  obtain⟨g',⟨_,b9,rfl⟩,lp⟩:=eH (T:=.nm 9) (b:=(rn (n+129)).b [] (k+13) xM) (W m)
   (I:=λl g=>(∀w∈l,Wb m w)/\∃b9:Slot,g=fr A0 A1 (St z3 fl) (.dat (~~~t)) B4 ‹1› d6 (.own C) b8 b9 a10 a11 a12 (.dat (W m au)))
   (step:=λw l g hh=>by
    obtain⟨h1,b9,rfl⟩:=hh;exact⟨_,_,rfl,one1 U (n:=n) (k:=k) m hm t ht w (h1 w dC) A0 A1 _ B4 _ d6 _ b8 a10 a11 a12 _,λx hx=>h1 x (dA _ hx),_,rfl⟩) [au,cw,[]] (fr A0 A1 (St z3 fl) (.dat (~~~t)) B4 ‹1› d6 (.own C) b8 a9 a10 a11 a12 (.dat (W m au))) ⟨λw hw=>by
     simp only[eA,l5,xL]at hw;rcases hw with rfl |rfl |rfl
     . exact h
     . exact hcw
     .
      exact w0,_,rfl⟩
  refine⟨b9,?_⟩;generalize hb:(rn (n+129)).b [] (k+13) xM=bb at lp;unfold s8;simp only[aG,Tg.ix,Tg.gU,hw,hb,lp];simp
 obtain⟨b9,e8⟩:=e8;generalize hB7:Slot.own (ch.flatten.map ∅)=B7 at e7 e8
 obtain⟨d,z4,hd,q9⟩:=OD U W9 (n:=n+67) (k:=k+11) (g:=fr A0 A1 (St z3 fl) (.dat (~~~t)) B4 ‹1› d6 B7 b8 b9 a10 a11 a12 (.dat (W m au))) (i:=2) (s:=z3) (fl:=fl) m hm t ht rfl;have q9':aM (rn (n+127)) (p8 20) (k+12) [.var 2,.dat (~~~t)] (fr A0 A1 (St z3 fl) (.dat (~~~t)) B4 ‹1› d6 B7 b8 b9 a10 a11 a12 (.dat (W m au)))=some (.dat d,fr A0 A1 (St z4 fl) (.dat (~~~t)) B4 ‹1› d6 B7 b8 b9 a10 a11 a12 (.dat (W m au))):=q9;obtain⟨b,z5,hb,q10⟩:=Ed U W9 (n:=n+67) (k:=k+11) (g:=fr A0 A1 (St z4 fl) (.dat (~~~t)) B4 ‹1› d6 B7 b8 b9 a10 a11 a12 (.dat (W m au))) (i:=2) (s:=z4) (fl:=fl) rfl;have q10':aM (rn (n+127)) (gX 20) (k+12) [.var 2,‹6›] (fr A0 A1 (St z4 fl) (.dat (~~~t)) B4 ‹1› d6 B7 b8 b9 a10 a11 a12 (.dat (W m au)))=some (.dat b,fr A0 A1 (St z5 fl) (.dat (~~~t)) B4 ‹1› d6 B7 b8 b9 a10 a11 a12 (.dat (W m au))):=q10;obtain⟨w,z6,hw,q11⟩:=El U W9 (n:=n+67) (k:=k+11) (g:=fr A0 A1 (St z5 fl) (.dat (~~~t)) B4 ‹1› d6 B7 b8 b9 a10 a11 a12 (.dat (W m au))) (i:=2) (s:=z5) (fl:=fl) rfl;have q11':aM (rn (n+127)) (bX 20) (k+12) [.var 2] (fr A0 A1 (St z5 fl) (.dat (~~~t)) B4 ‹1› d6 B7 b8 b9 a10 a11 a12 (.dat (W m au)))=some (.dat w,fr A0 A1 (St z6 fl) (.dat (~~~t)) B4 ‹1› d6 B7 b8 b9 a10 a11 a12 (.dat (W m au))):=q11;have e9:aG (rn (n+129)) [] (k+13) s9 (fr A0 A1 (St z3 fl) (.dat (~~~t)) B4 ‹1› d6 B7 b8 b9 a10 a11 a12 (.dat (W m au)))=some (.nx,fr A0 A1 (St z6 fl) (.dat (~~~t)) B4 ‹1› d6 B7 b8 b9 (.dat b) (.dat d) (.dat w) (.dat (W m au))):=by have st:Tg.set (.tp [11,10,12]) (.tup [d,b,w]) (fr A0 A1 (St z6 fl) (.dat (~~~t)) B4 ‹1› d6 B7 b8 b9 a10 a11 a12 (.dat (W m au)))=some (fr A0 A1 (St z6 fl) (.dat (~~~t)) B4 ‹1› d6 B7 b8 b9 (.dat b) (.dat d) (.dat w) (.dat (W m au))):=rfl;unfold s9;simp! [U,Tg.ix,c29,q9',c31,q10',c30,q11',ak 3 ⋯,st]
 have e10:=refusals U F m hm au h b d w hb hd hw A0 A1 (St z6 fl) (.dat (~~~t)) B4 ‹1› d6 B7 b8 b9 [];refine⟨St z6 fl,.dat (~~~t),B4,‹1›,d6,B7,b8,b9,.dat b,.dat d,.dat w,.dat (W m au),?_⟩;unfold xN;rw[U.b,aC e1,aC e2,aC e3,aC e4,aC e5,aC e6,aC e7,aC e8,aC e9,e10];rfl
theorem whole(ns: ~~~0)(hl:ns.length<=63):∃g',(rn (n+131)).b [] (k+13) W8.body (fr (.dat (.fix (ns.map .int))) .no .no .no .no .no .no .no .no .no .no .no .no .no)=some (.rt (.dat (.bl true)),g'):=by
 have loop:=eH (T:=.nm 1) (b:=(rn (n+130)).b [] (k+13) xN) (λ(j:Nat)=>D.int (0+(j:Int)))
  (I:=λ(l:List Nat) g=>∃(a1 a2 a3 a4 a5 a6 a7 a8 a9 a10 a11 a12 a13:Slot),g=fr (.dat (.fix (ns.map .int))) a1 a2 a3 a4 a5 a6 a7 a8 a9 a10 a11 a12 a13)
  (step:=λa l g h=>by
   obtain⟨a1,a2,a3,a4,a5,a6,a7,a8,a9,a10,a11,a12,a13,rfl⟩:=h;rw[Int.zero_add];obtain⟨b2,b3,b4,b5,b6,b7,b8,b9,b10,b11,b12,b13,q⟩:=cell U F hT ns hl a a2 a3 a4 a5 a6 a7 a8 a9 a10 a11 a12 a13;exact⟨_,_,rfl,q,_,_,_,_,_,_,_,_,_,_,_,_,_,rfl⟩)
 obtain⟨M,hM,hM2⟩:∃M:Nat,M<=8/\(if ((if (8:Int)<ns.length then 8 else (ns.length:Int))) > 1 then (if (8:Int)<ns.length then 8 else (ns.length:Int))else 1)=(M:Int):=by
  refine⟨(if ((if (8:Int)<ns.length then 8 else (ns.length:Int))) > 1 then (if (8:Int)<ns.length then 8 else (ns.length:Int))else 1).toNat,?_,?_⟩
  . split <;> (try split) <;> lia
  . split <;> (try split) <;> lia
 obtain⟨g2,⟨a1,a2,a3,a4,a5,a6,a7,a8,a9,a10,a11,a12,a13,rfl⟩,h4⟩:=loop (List.range M) (fr (.dat (.fix (ns.map .int))) .no .no .no .no .no .no .no .no .no .no .no .no .no) ⟨_,_,_,_,_,_,_,_,_,_,_,_,_,rfl⟩;have hv:dI (rn (n+130)) [] (k+13) (.blt .max [↥1,(.blt .min [(.blt .len [⇑0]),↥8])]) (fr (.dat (.fix (ns.map .int))) .no .no .no .no .no .no .no .no .no .no .no .no .no)=some (.int (M:Int),fr (.dat (.fix (ns.map .int))) .no .no .no .no .no .no .no .no .no .no .no .no .no):=by rw[<- hM2];simp! [U,pS]
 have hw:dW (rn (n+130)) [] (k+13) false (.fX (.blt .max [↥1,(.blt .min [(.blt .len [⇑0]),↥8])])) (fr (.dat (.fix (ns.map .int))) .no .no .no .no .no .no .no .no .no .no .no .no .no)=some ((List.range M).map λ(x:Nat)=>D.int (0+(x:Int)),fr (.dat (.fix (ns.map .int))) .no .no .no .no .no .no .no .no .no .no .no .no .no):=by unfold dW;dsimp only;rw[hv];dsimp only;rw[gL (aN M ⋯),AX];rfl
 have e1:aG (rn (n+130)) [] (k+13) (.loop (.nm 1) (.fX (.blt .max [↥1,(.blt .min [(.blt .len [⇑0]),↥8])])) xN) (fr (.dat (.fix (ns.map .int))) .no .no .no .no .no .no .no .no .no .no .no .no .no)=some (.nx,fr (.dat (.fix (ns.map .int))) a1 a2 a3 a4 a5 a6 a7 a8 a9 a10 a11 a12 a13):=by simp only[aG,Tg.ix,Tg.gU,hw,h4];simp
 refine⟨fr (.dat (.fix (ns.map .int))) a1 a2 a3 a4 a5 a6 a7 a8 a9 a10 a11 a12 a13,?_⟩;unfold W8;rw[U.b,aC e1];simp! [U,U.e]
end
end aX
namespace aX
open Ev
theorem t1:([1,2,3,4].all λm=>(turnsOf m).all (qA m))=true:=by decide +kernel
theorem t5_0:(((turnsOf 5).drop (60 * 0)).take 60).all (qA 5)=true:=by decide +kernel
theorem t5_1:(((turnsOf 5).drop (60 * 1)).take 60).all (qA 5)=true:=by decide +kernel
theorem t6_0:(((turnsOf 6).drop (60 * 0)).take 60).all (qA 6)=true:=by decide +kernel
theorem t6_1:(((turnsOf 6).drop (60 * 1)).take 60).all (qA 6)=true:=by decide +kernel
theorem t6_2:(((turnsOf 6).drop (60 * 2)).take 60).all (qA 6)=true:=by decide +kernel
theorem t6_3:(((turnsOf 6).drop (60 * 3)).take 60).all (qA 6)=true:=by decide +kernel
theorem t6_4:(((turnsOf 6).drop (60 * 4)).take 60).all (qA 6)=true:=by decide +kernel
theorem t6_5:(((turnsOf 6).drop (60 * 5)).take 60).all (qA 6)=true:=by decide +kernel
theorem t6_6:(((turnsOf 6).drop (60 * 6)).take 60).all (qA 6)=true:=by decide +kernel
theorem t6_7:(((turnsOf 6).drop (60 * 7)).take 60).all (qA 6)=true:=by decide +kernel
theorem t6_8:(((turnsOf 6).drop (60 * 8)).take 60).all (qA 6)=true:=by decide +kernel
theorem t6_9:(((turnsOf 6).drop (60 * 9)).take 60).all (qA 6)=true:=by decide +kernel
theorem Z6:(((turnsOf 6).drop (60 * 10)).take 60).all (qA 6)=true:=by decide +kernel
theorem Z7:(((turnsOf 6).drop (60 * 11)).take 60).all (qA 6)=true:=by decide +kernel
theorem t5:(turnsOf 5).all (qA 5)=true:=Bj 60 2 ⋯ (by decide +kernel) λi hi=>by
 match i,hi with
 | 0,_=>exact t5_0
 | 1,_=>exact t5_1
theorem t6:(turnsOf 6).all (qA 6)=true:=Bj 60 12 ⋯ (zB ⋯).2 λi hi=>by
 match i,hi with
 | 0,_=>exact t6_0
 | 1,_=>exact t6_1
 | 2,_=>exact t6_2
 | 3,_=>exact t6_3
 | 4,_=>exact t6_4
 | 5,_=>exact t6_5
 | 6,_=>exact t6_6
 | 7,_=>exact t6_7
 | 8,_=>exact t6_8
 | 9,_=>exact t6_9
 | 10,_=>exact Z6
 | 11,_=>exact Z7
theorem tk(m:Nat)(hm:1<=m/\m<=6)(t: ~~~0)(ht:Tn m t):qA m t=true:=by
 have h:=xJ ht;by_cases h5:m=5
 . subst h5;exact i4.mp t5 t h
 by_cases h6:m=6
 . subst h6;exact i4.mp t6 t h
 exact i4.mp (i4.mp t1 m (by simp only[eA,l5,xL];lia)) t h
def rfB(rn:Rn)(k:Nat)(C:Nat)(c:Int):Bool:=match rn.b [] k (W7.body.drop 2) ((List.replicate W7.n .no).set 1 (.dat (.mC C)))with
 |some (.rt r,g3)=>(match d7 [] g3 r with |some (.new [.int c'])=>decide (c'=c) |_=>false)
 |_=>false
theorem uP{rn:Rn}{k C:Nat}{c:Int}(h:rfB rn k C c=true):zG rn k C c:=by
 unfold rfB at h;split at h
 .
  rename_i r g3 e;split at h
  . rename_i c' e2;rw[mB h]at e2;exact⟨r,g3,e,e2⟩
  . symm
 . symm
theorem PB:(mj.all λd=>decide (fO (run fns (0+121)) (0+8) (bC 3 0) [d]=some 0))=true:=by decide +kernel
theorem Wj:Fk (run fns) 0 0:=⟨λd hd=>mB (i4.mp PB d hd),uP (by decide +kernel),uP (by decide +kernel),uP (by decide +kernel),uP (by decide +kernel)⟩
def kk:Nat:=13
def fuel:Nat:=131
theorem hev(ns: ~~~0)(hl:ns.length<=63):∃g',(run fns fuel).b [] kk W8.body (cU 14 [.dat (.fix (ns.map .int))])=some (.rt (.dat (.bl true)),g'):=whole (Ov fns) Wj tk ns hl
end aX
namespace Ev
open L2
def Z8:Value->Bool
 |.str _ _=>true
 |_=>false
def PJ:Value->Bool
 |.int _ _=>true
 |_=>false
def QD:Value->Bool
 |.bool _=>true
 |_=>false
noncomputable def PK(n:String):Value->Bool
 |.type m=>decide (m=n)
 |_=>false
noncomputable def Wk(q:Addr):Option Value->Bool
 |some (.ref p)=>decide (p=q)
 |_=>false
theorem uQ{n:String}{v:Value}(h:PK n v=true):v=.type n:=by
 unfold PK at h;split at h
 . rw[mB h]
 . symm
theorem PL{q:Addr}{v:Option Value}(h:Wk q v=true):v=some (.ref q):=by
 unfold Wk at h;split at h
 . rw[mB h]
 . symm
def codeOk(K:Frag)(c q:Addr):Bool:=match K.lookup c with
 |some o=>(match o.data with
  |.fields vs=>PK "code" o.cls&&Wk q vs[11]?&&Z8 (vs.getD 18 .none)&&PJ (vs.getD 7 .none)&&QD (vs.getD 9 .none)&&PJ (vs.getD 10 .none)&&decide (c≠q)
  |_=>false)
 |none=>false
theorem sL{K:Frag}{h:Heap}{c q:Addr}(X:K.In h)(e:codeOk K c q=true):PySem.W.CodeHd h c q/\∃o vs,h.get? c=some o/\o.cls=.type "code" /\o.data=.fields vs/\vs[11]?=some (.ref q):=by
 unfold codeOk at e;split at e
 .
  rename_i o ho;split at e
  .
   rename_i vs hv;simp only[d5,eR]at e;obtain⟨⟨⟨⟨⟨⟨e1,e2⟩,e3⟩,e4⟩,e5⟩,e6⟩,e7⟩:=e;have r:=PL e2;have d:vs.getD 11 .none=.ref q:=by rw[y7,r];rfl
   unfold Z8 at e3;split at e3
   .
    rename_i file tf h3;unfold PJ at e4;split at e4
    .
     rename_i fl tg h4;unfold QD at e5;split at e5
     .
      rename_i b h5;unfold PJ at e6;split at e6
      . rename_i tx tt h6;exact⟨⟨o,vs,file,tf,fl,tg,b,tx,tt,X _ _ ho,uQ e1,hv,r,d,h3,h4,h5,h6,e7⟩,o,vs,X _ _ ho,uQ e1,hv,r⟩
      . cases e6
     . cases e5
    . cases e4
   . cases e3
  . cases e
 . cases e
noncomputable def JL(K:Frag)(c:Addr):Bool:=K.all λp=>decide (p.1=c)||!PySem.W.codeIn [p] (.ref p.1) "law"
theorem lookup_mem{β:Type}:∀{l:List (Addr×β)}{a:Addr}{b:β},l.lookup a=some b->(a,b)∈l
 | [],_,_,h=>by symm
 | (x,y)::l,a,b,h=>by
  rw[pE]at h;by_cases e:a=x
  . subst e;simp at h;subst h;exact dC
  .
   have:(a==x)=false:=by simpa using e
   rw[this]at h;exact dA _ (lookup_mem h)
noncomputable def Wm(K:Frag)(bm q:Addr):Bool:=match K.lookup bm with
 |some ⟨c,some d,.plain,_⟩=>PK "module" c&&decide (d=builtinsNs)&&decide (bm≠builtinsNs)&&decide (bm≠mainGlobals)&&decide (bm≠q)
 |_=>false
theorem Wn{K:Frag}{mg:Str->Option Value}{h:Heap}{c q bm:Addr}(X:K.In h)(G:h.Ns mainGlobals mg)(e1:JL K c=true)(e2:codeOk K c q=true)(e3:cI K=[(q,yT)])(e4:PySem.W.nsIn K mainGlobals "__builtins__"=some (some (.ref bm)))(e5:Wm K bm q=true)(e6:mainGlobals≠q) :
  ∀bD,PySem.W.codeIn K bD "law"=true->Im K mg bD:=λbD hc=>by
 cases bD with
 |ref c'=>
  cases hl:K.lookup c' with
  |none=>unfold PySem.W.codeIn at hc;simp only[hl]at hc;cases hc
  |some o=>
   have hm:=lookup_mem hl;have e0:PySem.W.codeIn [(c',o)] (.ref c') "law"=PySem.W.codeIn K (.ref c') "law" :=by
    have h1:List.lookup c' [(c',o)]=some o:=by simp
    unfold PySem.W.codeIn;simp only[hl,h1]
   have ec:c'=c:=by have:=i4.mp e1 _ hm;dsimp only at this;rw[e0,hc]at this;simpa using this
   subst ec;refine⟨c',q,rfl,λb hb=>(sL hb e2).1,by rw[e3];exact dC,λb hb=>?_,e6⟩
   unfold Wm at e5;split at e5
   . rename_i cc d sl hb2;simp only[d5,eR]at e5;obtain⟨⟨⟨⟨f1,f2⟩,f3⟩,f4⟩,f5⟩:=e5;exact⟨bm,_,CH X G e4,f3,f4,f5,hb _ _ hb2,uQ f1,by rw[f2],rfl⟩
   . cases e5
 |_=>cases hc
theorem xO{q:Addr}{K:Params->Frag}{w:World}{h:Heap}(e:(K w.params).lookup q=none)(qqq:PySem.W.InK (qT q K) w h):(K w.params).In h:=λa o ho=>by
 refine qqq a o ?_;show List.lookup a ((q,_)::K w.params)=_;rw[pE];have:(a==q)=false:=by
  by_cases z:a=q
  . rw[z,e]at ho;cases ho
  . simpa using z
 rw[this];exact ho
theorem Eo{c q:Addr}{K:Params->Frag}{w:World}{h:Heap}(e:(K w.params).lookup q=none)(e2:codeOk (K w.params) c q=true)(qqq:PySem.W.InK (qT q K) w h):∀p∈[q],(∃c,h.TableAt c p #[])/\(K w.params).lookup p=none:=λp hp=>by
 cases hV.mp hp;refine⟨⟨c,(sL (xO e qqq) e2).2,qqq _ _ ?_⟩,e⟩;show List.lookup q ((q,_)::K w.params)=_;simp
theorem JM{l:PySem.W.OpenLaw}{n k:Nat}{q:Program}{loose:List Str}{XP:(Str->Option Value)->Heap->Prop}{YP:World->Heap->Prop}{d:DefRec}{K:Params->Frag}{CX:Cb}{sp:Frag->Sp}{x:Str}{T:List Addr}
  (hn:l.most=some n) (hn2:n<=sizeLine) (iB:d.params.defaults=[]) (hr:bS k callerA)
  (hY:∀(w:World) (h:Heap),YP w h->(K w.params).In h) (hT:∀(w:World) (h:Heap),YP w h->∀q∈T,(∃c,h.TableAt c q #[])/\(K w.params).lookup q=none)
  (F:∀(w:World) (mg:Str->Option Value) (fa:Addr) (h:Heap),(K w.params).In h->h.Ns mainGlobals mg->mg d.name=some (.ref fa)->
   ∃fd:FuncData,(∀(s:Shared) (u:Value),BindsTo s fd ⟨[u],[]⟩ [(x,u)])/\
    ∀base:Heap,(K w.params).In base->base.Ns mainGlobals mg->ji l.prog w (K w.params) mg base CX k fa fd [x] (sp (K w.params)))
  (Wv:∀(w:World) (H:Hp) (a:Addr) (ns: ~~~0),ns.length<=n->Al T H->cz (K w.params) H a (ns.map V.int)->sp (K w.params) [.ref a] H (λv _=>v=.bl true) λ_ _ _=>False)
  (hCX:∀(H:Hp) (s:Shared) (e:Value) (s':Shared),CX [] H s (λ_ _ _=>False) e s'->False) :
  PySem.W.WalkO q loose XP YP l.row.toRowW d [] (λf vs=>PySem.call f vs):=by
 refine Att.vB hn iB λw s₀ s₁ mg mb fa o pm cd doc a vs ns G qqq ho hd bN hmg hobj hints aJ hg=>?_
 have KX:=hY w _ qqq;obtain⟨fd,hb,hF⟩:=F w mg fa _ KX G.T.g hmg;exact Ds KX (hT w _ qqq) G.T.g G.T.b G.T.builtins G.T.nolimit hg hobj hints (kA aJ hn2) hr hF hb (λH hO hS=>Wv w H a ns aJ hO hS) λH e s'=>hCX H s₁ e s'
noncomputable def kitF(K:Frag)(C:Addr):Bool:=["int", "bool", "str", "tuple", "list", "dict"].all λn=>decide (PySem.W.kitOne K (.ref C) (.type n)=some false)
theorem zH{K:Frag}{C:Addr}(h1:PySem.W.findIn K (.ref C) "__getattribute__"=some (some (.builtin "BaseException.__getattribute__")))(h8:PySem.W.findIn K (.ref C) "__getattr__"=some none)(h9:PySem.W.mroIn K C (.type "BaseException")=some true)(h2:PySem.W.hasDictIn K C=true)(h3:PySem.W.findIn K (.ref C) "__class__"=some (some (.builtin "object.__class__")))(h4:PySem.W.specialIn K (.builtin "object.__class__") "__get__"=some (some (.builtin "getset_descriptor.__get__")))(h5:PySem.W.takesIn K (.builtin "object.__class__")=some true)(h6:PySem.W.mroIn K C (.type "object")=some true)(h7:kitF K C=true):EY K C:=
 ⟨h1,h8,h9,h2,h3,h4,h5,h6,λn hn=>mB (i4.mp h7 n hn)⟩
noncomputable def jN(K:Frag)(cv:Value)(l:List (Addr×Bool)):Bool:=decide (PySem.W.kitOne K (.type "NoneType") cv=some false)&&l.all λp=>decide (PySem.W.kitOne K (.ref p.1) cv=some p.2)
theorem dP{P:Pg}{K:Frag}{mg:Str->Option Value}{h:Heap}{x:Str}{l:List (Addr×Bool)}{D:Addr}(X:K.In h)(G:h.Ns mainGlobals mg)(e1:(x==(~~~3))=false)(e2:PySem.W.nsIn K mainGlobals x=some (some (.ref D)))(e3:jN K (.ref D) l=true) :
  (x==(~~~3))=false/\∃cv,((mg x=some cv/\∃D,cv=.ref D)\/(x∈P.bn/\x≠ "__name__" /\bootBuiltins x=some cv/\∃n,cv=.type n))/\PySem.W.kitOne K (.type "NoneType") cv=some false/\∀C b,l.lookup C=some b->PySem.W.kitOne K (.ref C) cv=some b:=by
 unfold jN at e3;rw[d5]at e3;exact⟨e1,.ref D,.inl ⟨CH X G e2,D,rfl⟩,mB e3.1,λC b hl=>mB (i4.mp e3.2 _ (lookup_mem hl))⟩
theorem JN{P:Pg}{K:Frag}{mg:Str->Option Value}{x:Str}{l:List (Addr×Bool)}{n:String}(e1:(x==(~~~3))=false)(e2:x∈P.bn)(e4:x≠ "__name__")(e5:bootBuiltins x=some (.type n))(e3:jN K (.type n) l=true) :
  (x==(~~~3))=false/\∃cv,((mg x=some cv/\∃D,cv=.ref D)\/(x∈P.bn/\x≠ "__name__" /\bootBuiltins x=some cv/\∃n,cv=.type n))/\PySem.W.kitOne K (.type "NoneType") cv=some false/\∀C b,l.lookup C=some b->PySem.W.kitOne K (.ref C) cv=some b:=by
 unfold jN at e3;rw[d5]at e3;exact⟨e1,.type n,.inr ⟨e2,e4,e5,n,rfl⟩,mB e3.1,λC b hl=>mB (i4.mp e3.2 _ (lookup_mem hl))⟩
theorem Z9{P:Pg}{K:Frag}{mg:Str->Option Value}(h1:∀bD,PySem.W.codeIn K bD "law"=true->Im K mg bD)(h2:All (λp:Str×Addr=>mg p.1=some (.ref p.2)/\eV K p.2/\EY K p.2) (P.cls.zip P.nj))(hl:P.nj.length<=P.cls.length)
  (h3:(P.kt==(~~~3))=false/\∃D,mg P.kt=some (.ref D)/\eV K D/\All (λC=>qK K C D=true) P.nj)
  (h4:All (λp:Str×List (Addr×Bool)=>(p.1==(~~~3))=false/\∃cv,((mg p.1=some cv/\∃D,cv=.ref D)\/(p.1∈P.bn/\p.1≠ "__name__" /\bootBuiltins p.1=some cv/\∃n,cv=.type n))/\PySem.W.kitOne K (.type "NoneType") cv=some false/\∀C b,p.2.lookup C=some b->PySem.W.kitOne K (.ref C) cv=some b) P.ups):Vr P K mg:=
 ⟨λ_=>h1,λi C e=>by
  have hi:i<P.nj.length:=(dL.mp e).1;have hi2:i<P.cls.length:=by lia
  refine⟨P.cls[i],mE hi2,?_⟩;have:=h2.mem (P.cls[i],C) (l8 (i:=i) (by rw[List.getElem?_zip_eq_some];exact⟨mE hi2,e⟩))
  exact this,λ_=>let ⟨a,D,b,c,d⟩:=h3;⟨a,D,b,c,λC hC=>d.mem C hC⟩,λx l h=>h4.mem (x,l) h⟩
end Ev
namespace aX
open L2 Ev
def f0:Fi:=bU (st 13)
def f1:Fi:=bU (st 14)
def f2:Fi:=bU (st 15)
def f3:Fi:=bU (st 18)
def f4:Fi:=bU (st 19)
def f5:Fi:=bU (st 20)
def f6:Fi:=bU (st 21)
def f7:Fi:=bU (st 22)
def f8:Fi:=bU (st 23)
def f9:Fi:=bU (st 24)
def f10:Fi:=bU (st 25)
def f11:Fi:=bU (st 26)
def f12:Fi:=bU (st 27)
def f13:Fi:=bU (st 28)
def f14:Fi:=bU (st 29)
def f15:Fi:=bU (st 31)
def f16:Fi:=bU (st 32)
def f17:Fi:=bU (st 33)
def f18:Fi:=bU (st 35)
def f19:Fi:=bU (st 36)
def f20:Fi:=bU (st 37)
def f21:Fi:=bU (st 38)
def f22:Fi:=bU (st 39)
def f23:Fi:=bU (st 40)
def f24:Fi:=bU (st 41)
def f25:Fi:=bU (st 42)
def f26:Fi:=bU (st 43)
def f27:Fi:=bU (st 44)
def f28:Fi:=bU (st 45)
def f29:Fi:=bU (st 46)
def f30:Fi:=bU (st 47)
def f31:Fi:=bU (st 48)
def f32:Fi:=bU (st 49)
def f33:Fi:=bU (st 50)
def Xa:Fi:=bU (st 51)
noncomputable def ups:List (Str×List (Addr×Bool)):=[("NoWeb",[(37,true),(49,false),(61,false)]),("NoNumber",[(37,false),(49,true),(61,false)]),("NoTurn",[(37,false),(49,false),(61,true)]),("NoKind",[(37,false),(49,false),(61,false)]),("NoPlace",[(37,false),(49,false),(61,false)]),("NoTie",[(37,false),(49,false),(61,false)]),("NoText",[(37,false),(49,false),(61,false)]),("NoLine",[(37,false),(49,false),(61,false)]),("NoDeed",[(37,false),(49,false),(61,false)]),("TooGreat",[(37,false),(49,false),(61,false)]),("ValueError",[(37,true),(49,true),(61,true)])]
def P:Pg:=⟨[f0,f1,f2,f3,f4,f5,f6,f7,f8,f9,f10,f11,f12,f13,f14,f15,f16,f17,f18,f19,f20,f21,f22,f23,f24,f25,f26,f27,f28,f29,f30,f31,f32,f33,Xa],[("MOST_PLACES",.int 6)],["ValueError", "all", "bool", "int", "isinstance", "len", "list", "max", "min", "range", "sorted", "tuple", "zip"],["NoWeb", "NoNumber", "NoTurn"],true,[37,49,61], "KindError",ups⟩
theorem Wo:Jh P P.fn fns=true:=by decide +kernel
theorem fns_eq:List.zipWith (Be P) P.fn fns=P.fn.map (λfi=>bA fi.st):=by kernel_rfl
theorem nLaw:Xa.N.length=14:=rfl
theorem hevF:∀ns:List Int,ns.length<=63->∃g',(run fns fuel).b [] kk W8.body (cU Xa.N.length [.dat (.fix (ns.map .int))])=some (.rt (.dat (.bl true)),g'):=by rw[nLaw];exact hev
theorem Bx(P:Params):cI (K P)=[(nat_lit 366,yT)]:=by kernel_rfl
theorem JQ(P:Params):(K P).lookup (nat_lit 366)=none:=by kernel_rfl
theorem By(P:Params):codeOk (K P) (nat_lit 370) (nat_lit 366)=true:=by kernel_rfl
theorem PN(P:Params):JL (K P) (nat_lit 370)=true:=by kernel_rfl
theorem aac(P:Params):Wm (K P) (nat_lit 4) (nat_lit 366)=true:=by kernel_rfl
theorem JR(P:Params):EY (K P) (nat_lit 37):=zH (by kernel_rfl) (by kernel_rfl) (by kernel_rfl) (by kernel_rfl) (by kernel_rfl) (by kernel_rfl) (by kernel_rfl) (by kernel_rfl) (by kernel_rfl)
theorem xP(P:Params):eV (K P) (nat_lit 37):=by kernel_rfl
theorem JT(P:Params):qK (K P) (nat_lit 37) (nat_lit 24)=true:=by kernel_rfl
theorem xQ(P:Params):EY (K P) (nat_lit 49):=zH (by kernel_rfl) (by kernel_rfl) (by kernel_rfl) (by kernel_rfl) (by kernel_rfl) (by kernel_rfl) (by kernel_rfl) (by kernel_rfl) (by kernel_rfl)
theorem mU(P:Params):eV (K P) (nat_lit 49):=by kernel_rfl
theorem xR(P:Params):qK (K P) (nat_lit 49) (nat_lit 24)=true:=by kernel_rfl
theorem Ep(P:Params):EY (K P) (nat_lit 61):=zH (by kernel_rfl) (by kernel_rfl) (by kernel_rfl) (by kernel_rfl) (by kernel_rfl) (by kernel_rfl) (by kernel_rfl) (by kernel_rfl) (by kernel_rfl)
theorem sM(P:Params):eV (K P) (nat_lit 61):=by kernel_rfl
theorem Er(P:Params):qK (K P) (nat_lit 61) (nat_lit 24)=true:=by kernel_rfl
theorem uR(P:Params):eV (K P) (nat_lit 24):=by kernel_rfl
theorem JV(P:Params):jN (K P) (.ref (nat_lit 37)) [(37,true),(49,false),(61,false)]=true:=by kernel_rfl
theorem xS(P:Params):jN (K P) (.ref (nat_lit 49)) [(37,false),(49,true),(61,false)]=true:=by kernel_rfl
theorem Es(P:Params):jN (K P) (.ref (nat_lit 61)) [(37,false),(49,false),(61,true)]=true:=by kernel_rfl
theorem Et(P:Params):jN (K P) (.ref (nat_lit 73)) [(37,false),(49,false),(61,false)]=true:=by kernel_rfl
theorem zI(P:Params):jN (K P) (.ref (nat_lit 85)) [(37,false),(49,false),(61,false)]=true:=by kernel_rfl
theorem JW(P:Params):jN (K P) (.ref (nat_lit 97)) [(37,false),(49,false),(61,false)]=true:=by kernel_rfl
theorem Eu(P:Params):jN (K P) (.ref (nat_lit 109)) [(37,false),(49,false),(61,false)]=true:=by kernel_rfl
theorem Ew(P:Params):jN (K P) (.ref (nat_lit 121)) [(37,false),(49,false),(61,false)]=true:=by kernel_rfl
theorem Ey(P:Params):jN (K P) (.ref (nat_lit 133)) [(37,false),(49,false),(61,false)]=true:=by kernel_rfl
theorem xT(P:Params):jN (K P) (.ref (nat_lit 152)) [(37,false),(49,false),(61,false)]=true:=by kernel_rfl
theorem qQ(P:Params):jN (K P) (.type "ValueError") [(37,true),(49,true),(61,true)]=true:=by kernel_rfl
end aX
open PySem PySem.W PyProof.Rows
set_option maxHeartbeats 0 in
theorem PySem.Challenge.cw_websbykind_k10_pairs_turned_holds : PySem.Challenge.rw_websbykind_k10_pairs_turned.Holds := by
 w_on
 refine PySem.W.holds_law (by decide +kernel) λsaid=>?_
 refine PySem.W.holds_open (q:=aX.qv) (loose:=[]) (Xt:=λs=>xlAt aX.qv [] s&&recOk (OpenRow.toRowW PySem.Challenge.rw_websbykind_k10_pairs_turned.row).records s) (XP:=XL aX.qv []) (Yf:=λs=>aX.as2.map s.heap.get?) (Ya:=λw=>(Ev.qT 366 aX.K w.params).map λp:Nat×Obj=>some p.2) (YP:=InK (Ev.qT 366 aX.K)) (N:=8000) aX.hl (InK.of aX.Xd) InK.keeps (λs e=>xl_of s (Bool.and_eq_true_iff.mp e).1) XL.keeps (by rfl) (by rfl) (by rfl) (λs e=>recFacts_of (Bool.and_eq_true_iff.mp e).2) (by rfl) (by first |assumption |decide +kernel) (by decide +kernel) ⟨rfl,rfl,rfl,rfl,rfl,by decide +kernel⟩ ?hw ?hc
 (case hw=>w_witness2)
 k_fill
 refine Ev.JM (l:=PySem.Challenge.rw_websbykind_k10_pairs_turned) (n:=63) (k:=aX.kk+1) (x:= "_law_script") (CX:=L2.uX) (K:=aX.K) (T:=[366]) (sp:=λK=>Ev.LQ K aX.Xa.N 1 λbor g r g'=>(Ev.run aX.fns aX.fuel).b bor aX.kk aX.W8.body g=some (.rt r,g')) rfl ⋯ rfl ⟨rfl,by decide,by decide⟩ (λw h qqq=>Ev.xO (aX.JQ _) qqq) (λw h qqq=>Ev.Eo (aX.JQ _) (aX.By _) qqq) ?F ?S ?C
 case F=>
  intro w mg fa h KX G hmg
  have mm:Ev.bJ (L2.KOf KX) mg aX.f0/\Ev.bJ (L2.KOf KX) mg aX.f1/\Ev.bJ (L2.KOf KX) mg aX.f2/\Ev.bJ (L2.KOf KX) mg aX.f3/\Ev.bJ (L2.KOf KX) mg aX.f4/\Ev.bJ (L2.KOf KX) mg aX.f5/\Ev.bJ (L2.KOf KX) mg aX.f6/\Ev.bJ (L2.KOf KX) mg aX.f7/\Ev.bJ (L2.KOf KX) mg aX.f8/\Ev.bJ (L2.KOf KX) mg aX.f9/\Ev.bJ (L2.KOf KX) mg aX.f10/\Ev.bJ (L2.KOf KX) mg aX.f11/\Ev.bJ (L2.KOf KX) mg aX.f12/\Ev.bJ (L2.KOf KX) mg aX.f13/\Ev.bJ (L2.KOf KX) mg aX.f14/\Ev.bJ (L2.KOf KX) mg aX.f15/\Ev.bJ (L2.KOf KX) mg aX.f16/\Ev.bJ (L2.KOf KX) mg aX.f17/\Ev.bJ (L2.KOf KX) mg aX.f18/\Ev.bJ (L2.KOf KX) mg aX.f19/\Ev.bJ (L2.KOf KX) mg aX.f20/\Ev.bJ (L2.KOf KX) mg aX.f21/\Ev.bJ (L2.KOf KX) mg aX.f22/\Ev.bJ (L2.KOf KX) mg aX.f23/\Ev.bJ (L2.KOf KX) mg aX.f24/\Ev.bJ (L2.KOf KX) mg aX.f25/\Ev.bJ (L2.KOf KX) mg aX.f26/\Ev.bJ (L2.KOf KX) mg aX.f27/\Ev.bJ (L2.KOf KX) mg aX.f28/\Ev.bJ (L2.KOf KX) mg aX.f29/\Ev.bJ (L2.KOf KX) mg aX.f30/\Ev.bJ (L2.KOf KX) mg aX.f31/\Ev.bJ (L2.KOf KX) mg aX.f32/\Ev.bJ (L2.KOf KX) mg aX.f33/\Ev.bJ (L2.KOf KX) mg aX.Xa:=by
   refine⟨?_,?_,?_,?_,?_,?_,?_,?_,?_,?_,?_,?_,?_,?_,?_,?_,?_,?_,?_,?_,?_,?_,?_,?_,?_,?_,?_,?_,?_,?_,?_,?_,?_,?_,?_⟩ <;> (
    dsimp only[L2.KOf]
    exact Ev.ZL (by assumption) (by assumption) (by k_is) (by k_is) (by k_is) (by k_is) ⟨rfl,rfl,rfl,by decide +kernel,by decide +kernel,by decide +kernel,by decide +kernel⟩ (λ_ _ _ _ _ _ us hl=>by first | (obtain⟨_,e⟩:=Ev.ZM hl;subst e;rfl) | (obtain⟨_,_,e⟩:=Ev.ZN hl;subst e;rfl) | (obtain⟨_,_,_,e⟩:=Ev.len3 hl;subst e;rfl) | (obtain⟨_,_,_,_,e⟩:=Ev.len4 hl;subst e;rfl)) ⋯)
  obtain⟨m0,m1,m2,m3,m4,m5,m6,m7,m8,m9,m10,m11,m12,m13,m14,m15,m16,m17,m18,m19,m20,m21,m22,m23,m24,m25,m26,m27,m28,m29,m30,m31,m32,m33,m34⟩:=mm
  have qR:Ev.Vq (L2.KOf KX) mg ("MOST_PLACES",.int 6):=by
   dsimp only[L2.KOf]
   refine' Ev.Vs KX G ?a ⋯
   (case a=>k_is)
  have uS:mg "ValueError"=none:=mg_none_of KX G (by k_is)
  have aad:mg "all"=none:=mg_none_of KX G (by k_is)
  have Wq:mg "bool"=none:=mg_none_of KX G (by k_is)
  have aae:mg "int"=none:=mg_none_of KX G (by k_is)
  have uT:mg "isinstance"=none:=mg_none_of KX G (by k_is)
  have aaf:mg "len"=none:=mg_none_of KX G (by k_is)
  have Wr:mg "list"=none:=mg_none_of KX G (by k_is)
  have aag:mg "max"=none:=mg_none_of KX G (by k_is)
  have aah:mg "min"=none:=mg_none_of KX G (by k_is)
  have PX:mg "range"=none:=mg_none_of KX G (by k_is)
  have JX:mg "sorted"=none:=mg_none_of KX G (by k_is)
  have P0:mg "tuple"=none:=mg_none_of KX G (by k_is)
  have aai:mg "zip"=none:=mg_none_of KX G (by k_is)
  have uU:PySem.W.nsIn (L2.KOf KX) mainGlobals "NoWeb"=some (some (.ref 37)):=by dsimp only[L2.KOf];k_is
  have jO:PySem.W.nsIn (L2.KOf KX) mainGlobals "NoNumber"=some (some (.ref 49)):=by dsimp only[L2.KOf];k_is
  have ql:PySem.W.nsIn (L2.KOf KX) mainGlobals "NoTurn"=some (some (.ref 61)):=by dsimp only[L2.KOf];k_is
  have xU:PySem.W.nsIn (L2.KOf KX) mainGlobals "KindError"=some (some (.ref 24)):=by dsimp only[L2.KOf];k_is
  have JZ:PySem.W.nsIn (L2.KOf KX) mainGlobals "NoKind"=some (some (.ref 73)):=by dsimp only[L2.KOf];k_is
  have Ez:PySem.W.nsIn (L2.KOf KX) mainGlobals "NoPlace"=some (some (.ref 85)):=by dsimp only[L2.KOf];k_is
  have P1:PySem.W.nsIn (L2.KOf KX) mainGlobals "NoTie"=some (some (.ref 97)):=by dsimp only[L2.KOf];k_is
  have J0:PySem.W.nsIn (L2.KOf KX) mainGlobals "NoText"=some (some (.ref 109)):=by dsimp only[L2.KOf];k_is
  have J1:PySem.W.nsIn (L2.KOf KX) mainGlobals "NoLine"=some (some (.ref 121)):=by dsimp only[L2.KOf];k_is
  have J2:PySem.W.nsIn (L2.KOf KX) mainGlobals "NoDeed"=some (some (.ref 133)):=by dsimp only[L2.KOf];k_is
  have zJ:PySem.W.nsIn (L2.KOf KX) mainGlobals "TooGreat"=some (some (.ref 152)):=by dsimp only[L2.KOf];k_is
  have n_b:PySem.W.nsIn (L2.KOf KX) mainGlobals "__builtins__"=some (some (.ref 4)):=by dsimp only[L2.KOf];k_is
  have lm:Ev.Vr aX.P (L2.KOf KX) mg:=Ev.Z9 (Ev.Wn KX G (aX.PN _) (aX.By _) (aX.Bx _) n_b (aX.aac _) ⋯) (.cons ⟨mg_of KX G uU,aX.xP _,aX.JR _⟩ (.cons ⟨mg_of KX G jO,aX.mU _,aX.xQ _⟩ (.cons ⟨mg_of KX G ql,aX.sM _,aX.Ep _⟩ .nil))) ⋯ ⟨by decide,24,mg_of KX G xU,aX.uR _,(.cons (aX.JT _) (.cons (aX.xR _) (.cons (aX.Er _) .nil)))⟩ (.cons (Ev.dP KX G ⋯ uU (aX.JV _)) (.cons (Ev.dP KX G ⋯ jO (aX.xS _)) (.cons (Ev.dP KX G ⋯ ql (aX.Es _)) (.cons (Ev.dP KX G ⋯ JZ (aX.Et _)) (.cons (Ev.dP KX G ⋯ Ez (aX.zI _)) (.cons (Ev.dP KX G ⋯ P1 (aX.JW _)) (.cons (Ev.dP KX G ⋯ J0 (aX.Eu _)) (.cons (Ev.dP KX G ⋯ J1 (aX.Ew _)) (.cons (Ev.dP KX G ⋯ J2 (aX.Ey _)) (.cons (Ev.dP KX G ⋯ zJ (aX.xT _)) (.cons (Ev.JN ⋯ ⋯ ⋯ rfl (aX.qQ _)) .nil)))))))))))
  have md:Ev.uq aX.P (L2.KOf KX) mg:=Ev.ZK (.cons m0 (.cons m1 (.cons m2 (.cons m3 (.cons m4 (.cons m5 (.cons m6 (.cons m7 (.cons m8 (.cons m9 (.cons m10 (.cons m11 (.cons m12 (.cons m13 (.cons m14 (.cons m15 (.cons m16 (.cons m17 (.cons m18 (.cons m19 (.cons m20 (.cons m21 (.cons m22 (.cons m23 (.cons m24 (.cons m25 (.cons m26 (.cons m27 (.cons m28 (.cons m29 (.cons m30 (.cons m31 (.cons m32 (.cons m33 (.cons m34 .nil))))))))))))))))))))))))))))))))))) (.cons qR .nil) (.cons uS (.cons aad (.cons Wq (.cons aae (.cons uT (.cons aaf (.cons Wr (.cons aag (.cons aah (.cons PX (.cons JX (.cons P0 (.cons aai .nil))))))))))))) (.cons (Ev.Jf KX G uU (aX.xP _) ⋯) (.cons (Ev.Jf KX G jO (aX.mU _) ⋯) (.cons (Ev.Jf KX G ql (aX.sM _) ⋯) .nil))) lm
  exact Ev.Jg (Ev.Vw aX.Wo aX.fns_eq) md (i:=34) (fi:=aX.Xa) rfl rfl rfl m34 hmg
 case S=>exact λw H a ns hl hO hS=>Ev.Vu aX.hevF (aX.K w.params) H a ns hl (by rw[aX.Bx];exact hO) hS
 case C=>exact λ_ _ _ _ z=>z
