import PyProof.Rows.All
import Wide.All
import OpenK.AllK
import Wide.FinOn
import Lean
import PyProof.EqAt
import PyProof.EqKinds
import PyProof.TupleCall
import PySem.Challenge.RW_websbykind_k11_webs_that_stand
set_option Elab.async false
set_option linter.all false
set_option compiler.extract_closed false
set_option bootstrap.genMatcherCode false
set_option genSizeOf false
set_option maxHeartbeats 4000000
set_option maxRecDepth 100000
set_option autoImplicit true
open PySem PySem.Spec PyProof.Rows
open PySem.W (Frag)
noncomputable section
local macro_rules | `(⋯)=>`(by first |decide |lia |simp)
local macro_rules | `($x⁻¹)=>`(($x).heap.objs.size)
abbrev aS:=@PySem.wpAny_bind
abbrev bP:=@PySem.Heap.get?_push_of_some
abbrev dA:=@List.mem_cons_of_mem
abbrev dC:=@List.getElem?_eq_some_iff
abbrev dE:=@List.size_toArray
abbrev dL:=@List.mem_cons_self
abbrev dS:=@Bool.and_eq_true
abbrev d0:=@PySem.wpAny_pure
abbrev d5:=@List.mem_cons
abbrev d6:=@List.length_map
abbrev eA:=@PySem.Heap.get?_push_size
abbrev eC:=@List.getElem?_append_right
abbrev eD:=@List.getElem?_append_left
abbrev eJ:=@Nat.le_refl
abbrev eM:=@PySem.Heap.lt_size
abbrev eP:=@List.all_eq_true
abbrev eQ:=@Nat.lt_of_lt_of_le
abbrev eR:=@decide_eq_true_eq
abbrev fA:=@Option.bind_eq_some_iff
abbrev fI:=@List.length_replicate
abbrev fN:=@List.getElem?_set_ne
abbrev fR:=@List.length_append
abbrev gL:=@if_pos
abbrev gN:=@PySem.Heap.get?_update_other
abbrev hU:=@Nat.ne_of_lt
abbrev hV:=@List.nodup_cons
abbrev hZ:=@if_neg
abbrev i3:=@List.mem_append_right
abbrev i4:=@List.getElem?_set_self
abbrev i5:=@Bool.false_ne_true
abbrev i6:=@List.mem_singleton
abbrev i7:=@List.not_mem_nil
abbrev i8:=@List.mem_map
abbrev i9:=@PySem.wpAny_mono
abbrev kA:=@of_decide_eq_true
abbrev lL:=@List.mem_filter
abbrev lS:=@PySem.wpAny_holding
abbrev l4:=@Nat.add_sub_cancel_left
abbrev l5:=@List.length_cons
abbrev l6:=@List.mem_of_getElem?
abbrev l7:=@PySem.wpAny_newObj_type
abbrev l8:=@PySem.wpAny_field
abbrev l9:=@Nat.lt_irrefl
abbrev mB:=@PySem.sizeLine_eq
abbrev mE:=@List.getD_eq_getElem?_getD
abbrev mI:=@PySem.wpAny_truthy_bool
abbrev mM:=@Nat.lt_succ_self
abbrev mP:=@decide_eq_false
abbrev nE:=@PySem.Heap.size_push
abbrev nK:=@List.getElem?_eq_none_iff
abbrev nN:=@List.append_nil
abbrev nS:=@PyProof.Rows.slot_tuple_getitem
abbrev nV:=@List.length_singleton
abbrev n0:=@Array.length_toList
abbrev oC:=@Option.some.inj
abbrev oD:=@decide_eq_true
abbrev oI:=@Ne.symm
abbrev oP:=@PyProof.Rows.callWith_type1
abbrev oQ:=@PySem.Heap.get?_update_self
abbrev o6:=@List.replicate_succ
abbrev pE:=@List.lookup_cons
abbrev pV:=@PySem.wpAny_callSpecial?_slot
abbrev qS:=@Nat.le_trans
abbrev rV:=@PySem.wpAny_Call_Name_kw
abbrev sB:=@List.length_take
abbrev sK:=@List.mem_map_of_mem
abbrev sR:=@List.getElem?_map
abbrev sT:=@List.getElem?_take_of_lt
abbrev tJ:=@List.getElem?_eq_getElem
abbrev tP:=@PySem.wpAny_seqItems
abbrev tS:=@PySem.W.kia_one
abbrev t0:=@Nat.lt_of_lt_of_eq
abbrev t5:=@List.map_append
abbrev t6:=@List.mem_append_left
abbrev t7:=@PySem.wpAny_call_entry
abbrev t8:=@or_false
abbrev t9:=@List.length_reverse
abbrev u4:=@List.nodup_nil
abbrev u7:=@List.length_set
abbrev u8:=@List.set_append_right
abbrev vS:=@List.mem_replicate
abbrev v6:=@PySem.Obj.data_mapFields
abbrev wE:=@Nat.zero_le
abbrev wP:=@Nat.le_add_right
abbrev wS:=@Nat.lt_succ_of_lt
abbrev wT:=@List.filterMap_cons
abbrev w8:=@List.mem_append
abbrev w9:=@Array.getD_eq_getD_getElem?
abbrev xI:=@Array.getElem?_eq_some_iff
abbrev xL:=@PySem.F.slot_tuple_iterator_next
abbrev yA:=@PySem.F.plain_min_loop
abbrev yB:=@PySem.wpAny_standAt
abbrev yY:=@PySem.wpAny_pyIter_tuple
abbrev y0:=@List.zip_cons_cons
abbrev y6:=@List.pairwise_cons
abbrev y7:=@PySem.Obj.isFreed_of_fields
abbrev y8:=@PySem.wpAny_setField_rec
abbrev An:=@List.mem_range
abbrev Ap:=@PySem.wpAny_passesOwn
abbrev At:=@PySem.wpAny_pyIter_list
abbrev AA:=@List.flatten_cons
abbrev AB:=@Nat.ne_of_gt
abbrev AC:=@PySem.mem_of_lookup
abbrev AD:=@List.drop_length
abbrev AE:=@List.Perm.refl
abbrev AF:=@Nat.lt_of_succ_lt_succ
abbrev AG:=@PySem.W.callWith_K
abbrev AH:=@Bool.false_eq_true
abbrev AI:=@if_true
abbrev AJ:=@Nat.lt_or_ge
abbrev AK:=@List.getElem?_eq_none
abbrev AL:=@List.take_append_drop
abbrev AM:=@Bool.or_eq_true
abbrev AO:=@List.contains_iff_mem
abbrev AQ:=@List.append_assoc
abbrev AR:=@List.nodup_append
abbrev AS:=@Int.toNat_natCast
abbrev AT:=@List.sum_cons
abbrev AU:=@Array.perm_iff_toList_perm
abbrev AV:=@PySem.wpAny_setField
abbrev AW:=@PySem.wpAny_execs_cons
abbrev AX:=@Nat.le_succ
abbrev AY:=@PySem.codeAny_mono
abbrev AZ:=@PySem.F.args_tuple_add_2
abbrev A4:=@Nat.sub_self
abbrev A5:=@List.of_mem_zip
abbrev A6:=@List.getElem?_replicate
abbrev A7:=@List.length_nil
abbrev A8:=@PySem.F.entry_tuple_add
abbrev A9:=@List.nil_append
abbrev Bi:=@Nat.not_lt_zero
abbrev Bz:=@PySem.F.plainAttrs_list
abbrev BA:=@PySem.codeAny_builtin
abbrev BB:=@PySem.wpAny_newList
abbrev BC:=@Array.Perm.refl
abbrev BD:=@of_decide_eq_false
abbrev BE:=@Int.emod_lt_of_pos
abbrev BF:=@Option.map_eq_some_iff
abbrev BH:=@PySem.W.cellsFrom_some
abbrev BI:=@PySem.F.slot_tuple_add
abbrev BN:=@Nat.le_of_succ_le_succ
abbrev BO:=@List.reverse_cons
abbrev BQ:=@PySem.W.kitx_list
abbrev BS:=@PySem.W.kitx_dict
abbrev BU:=@PySem.wpAny_letGo
abbrev BY:=@PySem.wpAny_typeOf
abbrev B0:=@Nat.succ.inj
abbrev B1:=@beq_self_eq_true
abbrev B2:=@PySem.Heap.size_update
abbrev B4:=@Nat.not_succ_le_zero
abbrev B8:=@PySem.wpAny_onRaise
abbrev B9:=@PySem.W.mg_of
abbrev Cc:=@PySem.wpAny_rule
abbrev Cs:=@Option.map_some
abbrev CB:=@Int.emod_nonneg
abbrev CC:=@Nat.le_of_lt
abbrev CD:=@if_false
abbrev CF:=@Nat.zero_add
abbrev CI:=@Bool.and_false
abbrev CL:=@List.drop_zero
abbrev CO:=@List.drop_drop
abbrev CS:=@PySem.wpAny_Name
abbrev CU:=@PySem.wpAny_call
theorem nt{p:Prop}(h:false=true):p:=Bool.noConfusion h
namespace L2
def iJ(s:Stmt):Arguments:=match s with
 |.FunctionDef _ a _ _ _ _ _ _ _ _=>a
 |_=>{ posonlyargs:=[],args:=[],vararg:=none,kwonlyargs:=[],kw_defaults:=[],kwarg:=none,defaults:=[]}
def bB(s:Stmt):List Stmt:=match s with
 |.FunctionDef _ _ b _ _ _ _ _ _ _=>b
 |_=>[]
def aC(s:Stmt):Scope:=match s with
 |.FunctionDef _ _ _ _ _ _ sc _ _ _=>sc
 |_=>{ kind:=.function,names:=[],isGenerator:=false,isCoroutine:=false}
end L2
namespace Ev
open L2
noncomputable def qJ(q:Addr)(K:Params->Frag)(P:Params):Frag:=(q,{ cls:=.none,data:=.fields #[]})::K P
section
open PySem.W
noncomputable def J3(tb:String->Option Builtin)(p:Program)(w:World)(n₀:Nat)(ann:Option Value):Nat->SharedT->Thread->Option SharedT
 | 0,_,_=>none
 |n+1,s,t=>match through t with
  |true=>some s
  |false=>match stepOk n₀ ann t with
   |false=>none
   |true=>match stepT (denote tb) p w s t with
    |some (s',t')=>J3 tb p w n₀ ann n s' t'
    |none=>none
theorem yZ{tb:String->Option Builtin}{p:Program}{w:World}{n₀:Nat}{ann:Option Value}:∀{n:Nat}{s s':SharedT}{t:Thread},J3 tb p w n₀ ann n s t=some s'->topRun tb p w n₀ ann n s.abs t=some s'.abs
 | 0,_,_,_,h=>by cases h
 |n+1,s,s',t,h=>by
  unfold J3 at h;unfold topRun;cases he:through t with
  |true=>rw[he]at h;cases h;rfl
  |false=>
   rw[he]at h;cases hk:stepOk n₀ ann t with
   |false=>rw[hk]at h;cases h
   |true=>
    rw[hk]at h;cases hs:stepT (denote tb) p w s t with
    |none=>rw[hs]at h;cases h
    |some r=>obtain⟨s₂,t₂⟩:=r;rw[hs]at h;rw[stepT_spec hs];exact yZ h
noncomputable def Ph:BT->Nat->List Obj->BT
 |t,_,[]=>t
 |t,n,o::os=>Ph (t.ins n o) (n+1) os
noncomputable def Ec(P:Params):BT:=Ph .nil 0 (boot_heap P).objs.toList
theorem Ed(P:Params):absHeap (Ec P) 11 (boot_heap P).life=boot_heap P:=by kernel_rfl
noncomputable abbrev AN (P:Params):Option Value:=(boot_heap P).nsMap mainGlobals "__annotations__"
theorem Au{p q:Program}{loose:List Str}{Xt:Shared->Bool}{α:Type}{Yf:Shared->α}{Ya:World->α}{N:Nat}{ann:Option Value}
  (e:opening p=plainProg p.main.scope.names) (hN:Nat.ble 600 N=true) (f:∀s,fenceModules? p s=some s) (ha:∀P,AN P=ann)
  (run:∀(w:World) (os:OsState),(J3 treeTable p w 11 ann N ⟨Ec w.params,11,(boot_heap w.params).life,#[],boot_drawn,boot_toks,os⟩ (topStub p)).map (λs=>
   (staticsOk (importedModules p.main.body) (boot_heap w.params) s.abs.heap&&namesBound p s.abs.heap&&gensDone s.abs&&laidKept (boot_heap w.params) s.abs.heap,openSeen q loose (importedModules p.main.body) Xt true s.abs,Yf s.abs))=some (true,openGood q loose,Ya w)):LeftO p q loose Xt Yf Ya N:=λw=>by
 obtain⟨⟨h,gs,d,k,os⟩,e1,e2⟩:=BF.mp (boot_open e hN f w);obtain⟨rfl,rfl,rfl,rfl⟩:h=boot_heap w.params/\gs=Array.mk []/\d=boot_drawn/\k=boot_toks:=by simpa using e2
 obtain⟨s,r1,r2⟩:=BF.mp (run w os);obtain⟨l1,l2,l3⟩:_/\_/\_:=by simpa only[Prod.mk.injEq]using r2
 have r:=yZ r1;unfold openEnds;rw[e1];show (topFrom treeTable p w N _).map _=_;have z0:((boot_heap w.params).isNs mainGlobals&&(Array.mk []:Array GenState).size==0)=true:=by kernel_rfl
 have t:topFrom treeTable p w N ⟨boot_heap w.params,Array.mk [],boot_drawn,boot_toks,os⟩=some s.abs:=by
  unfold topFrom;dsimp only;rw[z0];have r':topRun treeTable p w (boot_heap w.params).objs.size ((boot_heap w.params).nsMap mainGlobals "__annotations__") N ⟨boot_heap w.params,Array.mk [],boot_drawn,boot_toks,os⟩ (topStub p)=some s.abs:=by
   have:=ha w.params;unfold AN at this;rw[this];have z:SharedT.abs ⟨Ec w.params,11,(boot_heap w.params).life,#[],boot_drawn,boot_toks,os⟩=⟨boot_heap w.params,Array.mk [],boot_drawn,boot_toks,os⟩:=by unfold SharedT.abs;dsimp only;rw[Ed]
   rw[z]at r;exact r
  rw[r'];show (match staticsOk (importedModules p.main.body) (boot_heap w.params) s.abs.heap&&namesBound p s.abs.heap&&gensDone s.abs&&laidKept (boot_heap w.params) s.abs.heap with |true=>_ |false=>_)=_
  rw[l1]
 rw[t];exact congrArg some (Prod.ext l2 l3)
theorem W3(P:Params):AN P=some (.ref 6):=by kernel_rfl
end
end Ev
namespace bu
open L2 Ev
def st(j:Nat):Stmt:=PySem.Challenge.pw_websbykind_k11_webs_that_stand.main.body.getD j (.Pass ⟨0,0,0,0⟩)
noncomputable def de(P:Params)(s:Str)(t:Tok)(v:Value):DictEntry:=⟨PyData.keyHash P s,.str s t,v⟩
noncomputable def co(vs:Array Value):Obj:=⟨.type "code",none,.fields vs,#[]⟩
noncomputable def fo(j:Nat)(n:Str)(kV doc pm:Value)(an:Option Addr)(bE ct:Value):Obj:=⟨.type "function",none,.func (PySem.W.fnOf n n (iJ (st j)) (bB (st j)) (aC (st j)) .none kV doc pm an bE ct),#[]⟩
noncomputable def ce(n:Str)(b a s r t u:Nat):Obj:=⟨.type "type",none,.cls ⟨n,[.ref b],[.ref a,.ref b,.type "ValueError",.type "Exception",.type "BaseException",.type "object"],s,n,true,[],[],false,none,false⟩,#[some (.ref r),none,some (.str n t),some (.str n u),some (.builtin "ValueError.__new__"),some (.bool true)]⟩
def cd(n:Str)(t l p r:Nat)(x y z:Value)(u:Nat):Obj:=co #[.str n t,.str n (t+1),.str "/claim/cut.py" (t+2),.int l 0,.int p 0,.int 0 0,.int 0 0,.int 3 0,.ref r,.bool true,.int 181 0,.ref (r+1),.none,x,y,z,.int u 0,.int l 0,.str "/claim/cut.py" (u+1)]
def fq(j:Nat)(n:Str)(m:Value)(c:Addr):Obj:=fo j n .none .none m none (.ref c) .none
def m0:Value:=.str "websbykind.whole" 378
def m1:Value:=.str "websbykind.kinds" 415
def m2:Value:=.str "websbykind.webs" 439
def m3:Value:=.str "websbykind.pairs" 470
def m4:Value:=.str "law_websbykind_k11_webs_that_stand" 508
def K(P:Params):Frag:=
 (nat_lit 3,⟨.type "dict",none,.dict #[de P "__name__" 165 (.str "law_websbykind_k11_webs_that_stand" 508),de P "__doc__" 166 (.none),de P "__package__" 167 (.none),de P "__loader__" 168 (.builtin "__main__.__loader__#opaque"),de P "__spec__" 169 (.none),de P "__annotations__" 170 (.ref 6),de P "__builtins__" 171 (.ref 4),de P "__file__" 173 (.str "/claim/cut.py" 172),de P "__cached__" 174 (.none),de P "KindError" 206 (.ref 24),de P "NoWeb" 222 (.ref 37),de P "NoNumber" 238 (.ref 49),de P "NoTurn" 254 (.ref 61),de P "NoKind" 270 (.ref 73),de P "NoPlace" 286 (.ref 85),de P "NoTie" 302 (.ref 97),de P "NoText" 318 (.ref 109),de P "NoLine" 334 (.ref 121),de P "NoDeed" 350 (.ref 133),de P "TooGreat" 377 (.ref 152),de P "is_whole" 386 (.ref 161),de P "is_within" 395 (.ref 168),de P "must_be_within" 404 (.ref 175),de P "times_itself" 414 (.ref 182),de P "MOST_NAMES" 418 (.int 9 417),de P "is_kind" 424 (.ref 187),de P "is_falling" 430 (.ref 192),de P "must_be_kind" 438 (.ref 199),de P "tie_of" 448 (.ref 206),de P "pairs_of" 454 (.ref 211),de P "rounds_along" 460 (.ref 216),de P "round_from" 469 (.ref 223),de P "rounds_of_pairs" 477 (.ref 228),de P "pair_lengths" 483 (.ref 233),de P "turn_with" 493 (.ref 240),de P "standing_many" 501 (.ref 247),de P "standing_by_ties" 507 (.ref 252),de P "_law_cell_at" 517 (.ref 259),de P "_law_state" 526 (.ref 266),de P "_law_kinds" 532 (.ref 271),de P "_law_some_turn" 542 (.ref 278),de P "_law_pairs" 548 (.ref 283),de P "_law_pair_rounds" 559 (.ref 290),de P "_law_turned" 565 (.ref 295),de P "_law_take" 575 (.ref 302),de P "_law_bad_number" 583 (.ref 309),de P "_law_same" 589 (.ref 314),de P "_law_refused" 595 (.ref 319),de P "_law_by_ties" 607 (.ref 326),de P "_law_gone" 613 (.ref 331),de P "law" 619 (.ref 336)] 51,#[]⟩) ::
 (nat_lit 4,⟨.type "module",(some 0),.plain,#[]⟩) ::
 (nat_lit 24,⟨.type "type",none,.cls ⟨"KindError",[.type "ValueError"],[.ref 24,.type "ValueError",.type "Exception",.type "BaseException",.type "object"],23, "KindError",true,[],[.ref 37,.ref 49,.ref 61,.ref 73,.ref 85,.ref 97,.ref 109,.ref 121,.ref 133,.ref 152],false,none,false⟩,#[some (.ref 15),none,some (.str "KindError" 189),some (.str "KindError" 197),some (.builtin "ValueError.__new__"),some (.bool true)]⟩) ::
 (nat_lit 23,⟨.type "dict",none,.dict #[de P "__module__" 196 (.str "websbykind.errors" 187),de P "__firstlineno__" 200 (.int 2 199),de P "__static_attributes__" 201 (.ref 22),de P "__weakref__" 203 (.ref 25),de P "__doc__" 204 (.none)] 3,#[]⟩) ::
 (nat_lit 37,ce "NoWeb" 24 37 36 28 207 215) ::
 (nat_lit 49,ce "NoNumber" 24 49 48 40 223 231) ::
 (nat_lit 48,⟨.type "dict",none,.dict #[de P "__module__" 230 (.str "websbykind.errors" 187),de P "__firstlineno__" 234 (.int 6 233),de P "__static_attributes__" 235 (.ref 47),de P "__doc__" 236 (.none)] 2,#[]⟩) ::
 (nat_lit 61,ce "NoTurn" 24 61 60 52 239 247) ::
 (nat_lit 73,ce "NoKind" 24 73 72 64 255 263) ::
 (nat_lit 72,⟨.type "dict",none,.dict #[de P "__module__" 262 (.str "websbykind.errors" 187),de P "__firstlineno__" 266 (.int 10 265),de P "__static_attributes__" 267 (.ref 71),de P "__doc__" 268 (.none)] 2,#[]⟩) ::
 (nat_lit 85,ce "NoPlace" 24 85 84 76 271 279) ::
 (nat_lit 97,ce "NoTie" 24 97 96 88 287 295) ::
 (nat_lit 109,ce "NoText" 24 109 108 100 303 311) ::
 (nat_lit 121,ce "NoLine" 24 121 120 112 319 327) ::
 (nat_lit 133,ce "NoDeed" 24 133 132 124 335 343) ::
 (nat_lit 152,ce "TooGreat" 24 152 151 136 351 359) ::
 (nat_lit 160,cd "is_whole" 380 28 1 155 (.ref 157) (.ref 158) (.ref 159) 384) ::
 (nat_lit 161,fq 13 "is_whole" m0 160) ::
 (nat_lit 167,cd "is_within" 387 30 3 162 (.ref 164) (.ref 165) (.ref 166) 393) ::
 (nat_lit 168,fq 14 "is_within" m0 167) ::
 (nat_lit 174,cd "must_be_within" 396 32 3 169 (.ref 171) (.ref 172) (.ref 173) 402) ::
 (nat_lit 175,fq 15 "must_be_within" m0 174) ::
 (nat_lit 181,cd "times_itself" 405 35 2 176 (.ref 178) (.ref 179) (.ref 180) 412) ::
 (nat_lit 182,fq 16 "times_itself" m0 181) ::
 (nat_lit 186,cd "is_kind" 419 42 2 183 .none .none (.ref 185) 422) ::
 (nat_lit 187,fq 19 "is_kind" m1 186) ::
 (nat_lit 191,cd "is_falling" 425 49 1 188 .none .none (.ref 190) 428) ::
 (nat_lit 192,fq 20 "is_falling" m1 191) ::
 (nat_lit 198,cd "must_be_kind" 431 51 2 193 (.ref 195) (.ref 196) (.ref 197) 436) ::
 (nat_lit 199,fq 21 "must_be_kind" m1 198) ::
 (nat_lit 205,cd "tie_of" 441 55 2 200 (.ref 202) (.ref 203) (.ref 204) 446) ::
 (nat_lit 206,fq 23 "tie_of" m2 205) ::
 (nat_lit 210,cd "pairs_of" 449 57 1 207 .none .none (.ref 209) 452) ::
 (nat_lit 211,fq 24 "pairs_of" m2 210) ::
 (nat_lit 215,cd "rounds_along" 455 59 2 212 .none .none (.ref 214) 458) ::
 (nat_lit 216,fq 25 "rounds_along" m2 215) ::
 (nat_lit 222,cd "round_from" 461 62 2 217 (.ref 219) (.ref 220) (.ref 221) 467) ::
 (nat_lit 223,fq 26 "round_from" m2 222) ::
 (nat_lit 227,cd "rounds_of_pairs" 472 68 1 224 .none .none (.ref 226) 475) ::
 (nat_lit 228,fq 28 "rounds_of_pairs" m3 227) ::
 (nat_lit 232,cd "pair_lengths" 478 71 2 229 .none .none (.ref 231) 481) ::
 (nat_lit 233,fq 29 "pair_lengths" m3 232) ::
 (nat_lit 239,cd "turn_with" 484 74 1 234 (.ref 236) (.ref 237) (.ref 238) 491) ::
 (nat_lit 240,fq 30 "turn_with" m3 239) ::
 (nat_lit 246,cd "standing_many" 494 81 2 241 (.ref 243) (.ref 244) (.ref 245) 499) ::
 (nat_lit 247,fq 31 "standing_many" m3 246) ::
 (nat_lit 251,cd "standing_by_ties" 502 83 2 248 .none .none (.ref 250) 505) ::
 (nat_lit 252,fq 32 "standing_by_ties" m3 251) ::
 (nat_lit 258,cd "_law_cell_at" 510 90 2 253 (.ref 255) (.ref 256) (.ref 257) 515) ::
 (nat_lit 259,fq 34 "_law_cell_at" m4 258) ::
 (nat_lit 265,cd "_law_state" 518 94 2 260 (.ref 262) (.ref 263) (.ref 264) 524) ::
 (nat_lit 266,fq 35 "_law_state" m4 265) ::
 (nat_lit 270,cd "_law_kinds" 527 99 2 267 .none .none (.ref 269) 530) ::
 (nat_lit 271,fq 36 "_law_kinds" m4 270) ::
 (nat_lit 277,cd "_law_some_turn" 533 106 1 272 (.ref 274) (.ref 275) (.ref 276) 540) ::
 (nat_lit 278,fq 37 "_law_some_turn" m4 277) ::
 (nat_lit 282,cd "_law_pairs" 543 112 1 279 .none .none (.ref 281) 546) ::
 (nat_lit 283,fq 38 "_law_pairs" m4 282) ::
 (nat_lit 289,cd "_law_pair_rounds" 549 117 1 284 (.ref 286) (.ref 287) (.ref 288) 557) ::
 (nat_lit 290,fq 39 "_law_pair_rounds" m4 289) ::
 (nat_lit 294,cd "_law_turned" 560 128 2 291 .none .none (.ref 293) 563) ::
 (nat_lit 295,fq 40 "_law_turned" m4 294) ::
 (nat_lit 301,cd "_law_take" 566 130 2 296 (.ref 298) (.ref 299) (.ref 300) 573) ::
 (nat_lit 302,fq 41 "_law_take" m4 301) ::
 (nat_lit 308,cd "_law_bad_number" 576 139 2 303 (.ref 305) (.ref 306) (.ref 307) 581) ::
 (nat_lit 309,fq 42 "_law_bad_number" m4 308) ::
 (nat_lit 313,cd "_law_same" 584 141 2 310 .none .none (.ref 312) 587) ::
 (nat_lit 314,fq 43 "_law_same" m4 313) ::
 (nat_lit 318,cd "_law_refused" 590 149 1 315 .none .none (.ref 317) 593) ::
 (nat_lit 319,fq 44 "_law_refused" m4 318) ::
 (nat_lit 325,cd "_law_by_ties" 596 163 2 320 (.ref 322) (.ref 323) (.ref 324) 605) ::
 (nat_lit 326,fq 45 "_law_by_ties" m4 325) ::
 (nat_lit 330,cd "_law_gone" 608 171 2 327 .none .none (.ref 329) 611) ::
 (nat_lit 331,fq 46 "_law_gone" m4 330) ::
 (nat_lit 335,cd "law" 614 180 1 332 .none .none (.ref 334) 617) ::
 (nat_lit 336,fq 47 "law" m4 335)::[]
noncomputable def as:List Addr:=nat_lit 3::nat_lit 4::nat_lit 24::nat_lit 23::nat_lit 37::nat_lit 49::nat_lit 48::nat_lit 61::nat_lit 73::nat_lit 72::nat_lit 85::nat_lit 97::nat_lit 109::nat_lit 121::nat_lit 133::nat_lit 152::nat_lit 160::nat_lit 161::nat_lit 167::nat_lit 168::nat_lit 174::nat_lit 175::nat_lit 181::nat_lit 182::nat_lit 186::nat_lit 187::nat_lit 191::nat_lit 192::nat_lit 198::nat_lit 199::nat_lit 205::nat_lit 206::nat_lit 210::nat_lit 211::nat_lit 215::nat_lit 216::nat_lit 222::nat_lit 223::nat_lit 227::nat_lit 228::nat_lit 232::nat_lit 233::nat_lit 239::nat_lit 240::nat_lit 246::nat_lit 247::nat_lit 251::nat_lit 252::nat_lit 258::nat_lit 259::nat_lit 265::nat_lit 266::nat_lit 270::nat_lit 271::nat_lit 277::nat_lit 278::nat_lit 282::nat_lit 283::nat_lit 289::nat_lit 290::nat_lit 294::nat_lit 295::nat_lit 301::nat_lit 302::nat_lit 308::nat_lit 309::nat_lit 313::nat_lit 314::nat_lit 318::nat_lit 319::nat_lit 325::nat_lit 326::nat_lit 330::nat_lit 331::nat_lit 335::nat_lit 336::[]
def as2:List Addr:=nat_lit 333::as
noncomputable def qv:Program:={ PySem.Challenge.pw_websbykind_k11_webs_that_stand with main:={ PySem.Challenge.pw_websbykind_k11_webs_that_stand.main with body:=[st 1,st 2,st 3,st 4,st 5,st 6,st 7,st 8,st 9,st 10,st 11,st 13,st 14,st 15,st 16,st 18,st 19,st 20,st 21,st 23,st 24,st 25,st 26,st 28,st 29,st 30,st 31,st 32,st 34,st 35,st 36,st 37,st 38,st 39,st 40,st 41,st 42,st 43,st 44,st 45,st 46,st 47]}}
theorem W4(P:Params):as2=(qJ 333 K P).map (·.1):=by kernel_rfl
theorem op:PySem.W.opening PySem.Challenge.rw_websbykind_k11_webs_that_stand.row.prog=PySem.W.plainProg PySem.Challenge.rw_websbykind_k11_webs_that_stand.row.prog.main.scope.names:=by kernel_rfl
theorem fe:∀s,PySem.fenceModules? PySem.Challenge.rw_websbykind_k11_webs_that_stand.row.prog s=some s:=λs=>by kernel_rfl
theorem hl:PySem.W.LeftO PySem.Challenge.rw_websbykind_k11_webs_that_stand.row.prog qv [] (λs=>PySem.W.xlAt qv [] s&&PySem.W.recOk (PySem.W.OpenRow.toRowW PySem.Challenge.rw_websbykind_k11_webs_that_stand.row).records s) (λs=>as2.map s.heap.get?) (λw=>(qJ 333 K w.params).map λp:Nat×Obj=>some p.2) 8000:=Au op ⋯ fe W3 λw os=>by kernel_rfl
end bu
namespace Ev
open PySem PySem.W
end Ev
namespace L2
abbrev Key:=Sum Int Str
noncomputable def qK:Key->Value->Bool
 |.inl k,v=>Value.isInt k v
 |.inr x,v=>Value.isStrOf x v
noncomputable def keyH(w:World):Key->Int
 |.inl k=>hashInt k
 |.inr x=>hashStr w x
theorem bC:∀{k:Key}{v:Value},qK k v=true->(∃i t,k=Sum.inl i/\v=Value.int i t)\/(∃x t,k=Sum.inr x/\v=Value.str x t)
 |.inl i,v,h=>by
  obtain⟨t,e⟩:=Value.isInt_shape (k:=i) (v:=v) h;exact .inl ⟨i,t,rfl,e⟩
 |.inr x,v,h=>by
  obtain⟨t,e⟩:=Value.isStrOf_shape (x:=x) (v:=v) h;exact .inr ⟨x,t,rfl,e⟩
theorem Av(i:Int)(t:Tok):qK (.inl i) (.int i t)=true:=by simp[qK,Value.isInt]
theorem Aw(x:Str)(t:Tok):qK (.inr x) (.str x t)=true:=by simp[qK,Value.isStrOf]
theorem Qv(a b:Int):decide ((Sum.inl a:Key)=Sum.inl b)=(a==b):=by
 by_cases e:a=b
 . subst e;simp
 .
  have h : ¬ (Sum.inl a:Key)=Sum.inl b:=λq=>e (Sum.inl.inj q)
  rw[mP h];exact (beq_eq_false_iff_ne.mpr e).symm
theorem Qw(a b:Str):decide ((Sum.inr a:Key)=Sum.inr b)=decide (a=b):=by
 by_cases e:a=b
 . subst e;simp
 .
  have h : ¬ (Sum.inr a:Key)=Sum.inr b:=λq=>e (Sum.inr.inj q)
  rw[mP h,mP e]
theorem Qx(a:Int)(b:Str):decide ((Sum.inl a:Key)=Sum.inr b)=false:=mP (λq=>nomatch q)
theorem Qy(a:Str)(b:Int):decide ((Sum.inr a:Key)=Sum.inl b)=false:=mP (λq=>nomatch q)
def fY(prog:Program)(w:World):PySem.KeyKind prog w Key where
 is:=qK
 hash:=keyH w
 inj:=λv a b ha hb=>by
  rcases bC ha with ⟨i,t,rfl,rfl⟩ |⟨x,t,rfl,rfl⟩
  .
   rcases bC hb with ⟨j,u,rfl,e⟩ |⟨y,u,rfl,e⟩
   . injection e with e1 _;rw[e1]
   . exact nomatch e
  .
   rcases bC hb with ⟨j,u,rfl,e⟩ |⟨y,u,rfl,e⟩
   . exact nomatch e
   . injection e with e1 _;rw[e1]
 byValue:=λk v h=>by
  rcases bC h with ⟨i,t,rfl,rfl⟩ |⟨x,t,rfl,rfl⟩ <;> rfl
 pyHash:=λhv h=>by
  rcases bC hv with ⟨i,t,rfl,rfl⟩ |⟨x,t,rfl,rfl⟩
  . exact wpAny_pyHash_int h
  . exact wpAny_pyHash_str h
 eqBool:=λhu hv h=>by
  rcases bC hu with ⟨i,t,rfl,rfl⟩ |⟨x,t,rfl,rfl⟩
  .
   rcases bC hv with ⟨j,u,rfl,rfl⟩ |⟨y,u,rfl,rfl⟩
   . rw[Qv]at h;exact wpAny_eqBool_int h
   . rw[Qx]at h;exact SeqAt.EqAt.int_str i t y u _ _ _ _ h
  .
   rcases bC hv with ⟨j,u,rfl,rfl⟩ |⟨y,u,rfl,rfl⟩
   . rw[Qy]at h;exact SeqAt.EqAt.str_int x t j u _ _ _ _ h
   . rw[Qw]at h;exact wpAny_eqBool_str h
 «strs»:=λk x t v h=>by
  rcases bC h with ⟨i,u,rfl,e⟩ |⟨y,u,rfl,e⟩
  . exact nomatch e
  . injection e with e1 _;subst e1;cases v <;> rfl
theorem uP(prog:Program)(w:World)(i:Int)(t:Tok):(fY prog w).is (.inl i) (.int i t)=true:=Av i t
theorem uQ(prog:Program)(w:World)(x:Str)(t:Tok):(fY prog w).is (.inr x) (.str x t)=true:=Aw x t
inductive V where
 |non |bl (b:Bool) |int (i:Int) |str (x:Str) |Qz (b:Array UInt8) |flt (b:UInt64) |ref (a:Addr) |ty (n:String)
 deriving DecidableEq
noncomputable def RelV:V->Value->Prop
 |.non,u=>u=Value.none
 |.bl b,u=>u=Value.bool b
 |.int i,u=>∃t,u=Value.int i t
 |.str x,u=>∃t,u=Value.str x t
 |.Qz b,u=>∃t,u=Value.bytes b t
 |.flt b,u=>∃t,u=Value.float b t
 |.ref a,u=>u=Value.ref a
 |.ty n,u=>u=Value.type n
abbrev Vals:List V->List Value->Prop:=Paired RelV
theorem Vals.length{xs:List V}{us:List Value}(r:Vals xs us):xs.length=us.length:=Paired.length r
theorem Vals.get:∀{xs:List V}{us:List Value}{i:Nat}{x:V},Vals xs us->xs[i]?=some x->∃u,us[i]?=some u/\RelV x u
 |_,_,_,_,.nil,e=>by simp at e
 |_,_,0,_,.cons r _,e=>by simp at e;subst e;exact⟨_,rfl,r⟩
 |_,_,i+1,x,.cons _ t,e=>by
  obtain⟨u,h1,h2⟩:=Vals.get (i:=i) (x:=x) t (by simpa using e)
  exact⟨u,by simpa using h1,h2⟩
theorem Vals.set{x:V}{u:Value}(r:RelV x u):∀{xs:List V}{us:List Value} (i:Nat),Vals xs us->Vals (xs.set i x) (us.set i u)
 |_,_,_,.nil=>.nil
 |_,_,0,.cons _ t=>.cons r t
 |_,_,i+1,.cons q t=>.cons q (Vals.set r i t)
theorem Vals.append:∀{xs ys:List V}{us ws:List Value},Vals xs us->Vals ys ws->Vals (xs++ys) (us++ws)
 |_,_,_,_,.nil,s=>s
 |_,_,_,_,.cons r t,s=>.cons r (Vals.append t s)
theorem Vals.take:∀{xs:List V}{us:List Value} (n:Nat),Vals xs us->Vals (xs.take n) (us.take n)
 |_,_,0,_=>.nil
 |_,_,_+1,.nil=>.nil
 |_,_,n+1,.cons r t=>.cons r (Vals.take n t)
theorem Vals.drop:∀{xs:List V}{us:List Value} (n:Nat),Vals xs us->Vals (xs.drop n) (us.drop n)
 |_,_,0,r=>r
 |_,_,_+1,.nil=>.nil
 |_,_,n+1,.cons _ t=>Vals.drop n t
def W5:Option V->Option Value->Prop
 |some v,some u=>RelV v u
 |none,none=>True
 |_,_=>False
def KV{κ:Type}:List (κ×V)->List (κ×Value)->Prop:=Paired λ(p:κ×V) (q:κ×Value)=>p.1=q.1/\RelV p.2 q.2
noncomputable def kV:Key->V
 |.inl i=>.int i
 |.inr x=>.str x
inductive HO where
 |lst (xs:List V)
 |tup (xs:List V)
 |dK (dc:List (Key×V)) |dT (dc:List (List Key×V))
 |set (S:Int->Bool) (n:Nat)
 |ins (C dx:Addr) (fs:List (Str×V))
 |own (x:Addr)
 |xd (fs:List (Str×V))
 |met (f x:Addr)
 |rng (lo hi:Int)
 |cB (o:Obj) (u:HO)
 |kN (ps:Array Value)
 |ext (φ:Heap->Prop)
abbrev Hp:=Addr->Option HO
noncomputable def upd(H:Hp)(a:Addr)(o:HO):Hp:=λb=>if b=a then some o else H b
theorem aA:upd H a o a=some o:=by unfold upd;rw[gL rfl]
theorem aq(h:b≠a):upd H a o b=H b:=by unfold upd;rw[hZ h]
theorem aF{H:Hp}{a b:Addr}{o:HO}(h:H a=some o)(h':H b=none):a≠b:=by intro e;subst e;rw[h]at h';cases h'
def fc(h:Heap)(a:Addr)(its:Array Value):Prop:=∃o,h.get? a=some o/\(o.cls=.type "tuple" /\∃n,o.data=.seq its n)/\o.dict=none
theorem fc.tup{h:Heap}{a:Addr}{its:Array Value}(x:fc h a its):IsTup h a its:=let ⟨o,e,c,_⟩:=x;⟨o,e,c⟩
theorem fc.new(h:Heap)(its:Array Value):fc (h.push { cls:=.type "tuple",data:=.seq its}) h.objs.size its:=⟨_,eA _ rfl,⟨rfl,_,rfl⟩,rfl⟩
section
variable(P:Program)(w:World)
def cI(H:Hp)(h:Heap)(a:Addr):HO->Prop
 |.lst xs=>xs.length<=sizeLine/\∃(its:List Value) (n:Nat),Vals xs its/\h.get? a=some { cls:=.type "list",data:=.seq its.toArray n}
 |.tup xs=>xs.length<=sizeLine/\∃its:List Value,Vals xs its/\fc h a its.toArray
 |.dK dc=>dc.length<=sizeLine/\(a==sysModules)=false/\∃vs,KV dc vs/\h.DictOf (fY P w) a vs
 |.dT dc=>dc.length<=sizeLine/\(a==sysModules)=false/\∃xs:List (List Key×Addr×Value),
   Paired (λ(p:List Key×V) (q:List Key×Addr×Value)=>p.1=q.1/\H q.2.1=some (.tup (p.1.map kV))/\RelV p.2 q.2.2) dc xs/\
   ∃o es ep,h.get? a=some o/\o.ExactDict/\o.data=.dict es ep/\es.toList=xs.map (entryOfKey (tupleKind (fY P w)))/\(xs.map (·.1)).Nodup
 |.set S n=>h.SetOf (intKind P w) a S n
 |.ins C dx fs=>H dx=some (.own a)/\fs.length<=1000/\dx≠a/\h.get? a=some (PySem.W.instObj C dx)/\
   ∃mA,h.Ns1 dx mA/\(∀f,W5 (fs.lookup f) (mA f))/\PySem.Within mA (fs.map (·.1))
 |.own _=>∃o,h.get? a=some o
 |.xd fs=>∃mA,h.Ns1 a mA/\∀f,W5 (fs.lookup f) (mA f)
 |.rng lo hi=>∃t u v,h.get? a=some { cls:=.type "range",data:=.fields #[.int lo t,.int hi u,.int 1 v]}
 |.cB o u=>h.get? a=some o/\cI H h a u
 |.kN ps=>h.get? a=some { cls:=.none,data:=.fields ps}
 |.met f x=>h.get? a=some (PySem.W.methodObj (.ref f) (.ref x))
 |.ext φ=>φ h/\(∃o,h.get? a=some o)/\∀h1 h2:Heap,φ h1->(∀o,h1.get? a=some o->h2.get? a=some o)->φ h2
def kO(H:Hp)(h:Heap):Prop:=∀a o,H a=some o->cI P w H h a o
end
section
variable{P:Program}{w:World}{H H':Hp}{h h':Heap}{a:Addr}{o:HO}
theorem cI.lt(x:cI P w H h a o):a<h.objs.size:=by
 cases o with
 |lst xs=>obtain⟨_,_,_,_,e⟩:=x;exact eM e
 |tup xs=>obtain⟨_,_,_,_,e,_⟩:=x;exact eM e
 |dK dc=>obtain⟨_,_,_,_,o,_,_,e,_⟩:=x;exact eM e
 |dT dc=>obtain⟨_,_,_,_,o,_,_,e,_⟩:=x;exact eM e
 |set S n=>obtain⟨o,_,_,_,e,_⟩:=x;exact eM e
 |ins C dx fs=>obtain⟨_,_,_,e,_⟩:=x;exact eM e
 |own y=>obtain⟨_,e⟩:=x;exact eM e
 |xd fs=>obtain⟨_,⟨_,_,_,e,_⟩,_⟩:=x;exact eM e
 |rng lo hi=>obtain⟨_,_,_,e⟩:=x;exact eM e
 |cB ob u=>obtain⟨e,_⟩:=x;exact eM e
 |kN ps=>exact eM (show h.get? a=some _ from x)
 |met f y=>exact eM (show h.get? a=some _ from x)
 |ext φ=>obtain⟨_,⟨_,e⟩,_⟩:=x;exact eM e
theorem Paired.QB{α β:Type}{F G:α->β->Prop}:∀{l₁:List α}{l₂:List β},Paired F l₁ l₂->(∀a b,F a b->G a b)->Paired G l₁ l₂
 |_,_,.nil,_=>.nil
 |_,_,.cons r t,f=>.cons (f _ _ r) (Paired.QB t f)
theorem cI.stay(x:cI P w H h a o)(k:∀b u,(b=a\/H b=some (.own a))->h.get? b=some u->h'.get? b=some u)
  (ho:∀b,H b=some (.own a)->H' b=some (.own a)) (ht:∀b xs,H b=some (.tup xs)->H' b=some (.tup xs)):cI P w H' h' a o:=by
 induction o with
 |lst xs=>obtain⟨z,its,n,r,e⟩:=x;exact⟨z,its,n,r,k _ _ (.inl rfl) e⟩
 |tup xs=>obtain⟨z,its,r,ob,e,c⟩:=x;exact⟨z,its,r,ob,k _ _ (.inl rfl) e,c⟩
 |dK dc=>obtain⟨z,y,vs,r,ob,es,ep,e,c⟩:=x;exact⟨z,y,vs,r,ob,es,ep,k _ _ (.inl rfl) e,c⟩
 |dT dc=>obtain⟨z,y,xs,r,ob,es,ep,e,c⟩:=x;exact⟨z,y,xs,Paired.QB r λp q z=>⟨z.1,ht _ _ z.2.1,z.2.2⟩,ob,es,ep,k _ _ (.inl rfl) e,c⟩
 |set S n=>obtain⟨ob,es,ep,t,e,c⟩:=x;exact⟨ob,es,ep,t,k _ _ (.inl rfl) e,c⟩
 |ins C dx fs=>obtain⟨d,z,ne,e,mA,⟨od,es,ep,e2,c⟩,r⟩:=x;exact⟨ho _ d,z,ne,k _ _ (.inl rfl) e,mA,⟨od,es,ep,k _ _ (.inr d) e2,c⟩,r⟩
 |own y=>obtain⟨ob,e⟩:=x;exact⟨ob,k _ _ (.inl rfl) e⟩
 |xd fs=>obtain⟨mA,⟨od,es,ep,e,c⟩,r⟩:=x;exact⟨mA,⟨od,es,ep,k _ _ (.inl rfl) e,c⟩,r⟩
 |rng lo hi=>obtain⟨t,u,v,e⟩:=x;exact⟨t,u,v,k _ _ (.inl rfl) e⟩
 |cB ob u ih=>obtain⟨e,q⟩:=x;exact⟨k _ _ (.inl rfl) e,ih q⟩
 |kN ps=>have e:h.get? a=some { cls:=.none,data:=.fields ps}:=x;show h'.get? a=some { cls:=.none,data:=.fields ps};exact k a _ (.inl rfl) e
 |met f y=>have e:h.get? a=some (PySem.W.methodObj (.ref f) (.ref y)):=x;show h'.get? a=some (PySem.W.methodObj (.ref f) (.ref y));exact k a _ (.inl rfl) e
 |ext φ=>obtain⟨p,⟨o,e⟩,st⟩:=x;exact⟨st _ _ p λo q=>k _ _ (.inl rfl) q,⟨o,k _ _ (.inl rfl) e⟩,st⟩
theorem kO.lt(x:kO P w H h)(e:H a=some o):a<h.objs.size:=(x a o e).lt
theorem kO.fresh(x:kO P w H h)(e:h.objs.size<=a):H a=none:=by
 cases q:H a with
 |none=>rfl
 |some u=>exact absurd (eQ (x.lt q) e) (l9 _)
theorem kO.kept(x:kO P w H h)(k:∀b u,h.get? b=some u->h'.get? b=some u):kO P w H h':=λa o e=>
 (x a o e).stay (λb u _ q=>k b u q) (λ_ q=>q) λ_ _ q=>q
theorem kO.laid(x:kO P w H h)(k:∀b u,h.get? b=some u->h'.get? b=some u)(hp:h.objs.size<=a)(new:cI P w (upd H a o) h' a o):kO P w (upd H a o) h':=λb u e=>by
 have hn:=x.fresh hp;by_cases hb:b=a
 . subst hb;rw[aA]at e;cases e;exact new
 . rw[aq hb]at e;exact (x b u e).stay (λc v _ q=>k c v q) (λc q=>by rw[aq (aF q hn)];exact q) λc xs q=>by rw[aq (aF q hn)];exact q
end
def Rd(H:Hp)(a:Addr)(u:HO):Prop:=H a=some u\/∃o,H a=some (.cB o u)
theorem Rd.ok{P:Program}{w:World}{H:Hp}{h:Heap}{a:Addr}{u:HO}(r:Rd H a u)(x:kO P w H h):cI P w H h a u:=by
 rcases r with r |⟨o,r⟩
 . exact x a u r
 . obtain⟨_,q⟩:=x a _ r;exact q
noncomputable def Mut:Option HO->Prop
 |some (.lst _)=>True
 |some (.dK _)=>True
 |some (.dT _)=>True
 |some (.set _ _)=>True
 |some (.ins _ _ _)=>True
 |some (.ext _)=>True
 |_=>False
section
variable{P:Program}{w:World}{H:Hp}{h h':Heap}{x e:Addr}{o':HO}
theorem kO.write(ok:kO P w H h)(mu:Mut (H x))(he:e=x\/H e=some (.own x))(k:∀b u,b≠e->h.get? b=some u->h'.get? b=some u)(Wd:∃u,h'.get? e=some u)
  (new:cI P w (upd H x o') h' x o'):kO P w (upd H x o') h':=λb u q=>by
 have W6:∀c y,H c=some (.own y)->c≠x:=λc y r z=>by subst z;rw[r]at mu;exact mu
 have ntup:∀c xs,H c=some (.tup xs)->c≠x:=λc xs r z=>by subst z;rw[r]at mu;exact mu
 by_cases hb:b=x
 . subst hb;rw[aA]at q;cases q;exact new
 .
  rw[aq hb]at q;by_cases QC:b=e
  .
   have q':H b=some (.own x):=by
    rcases he with z |z
    . exact absurd (QC.trans z) hb
    . rw[QC];exact z
   rw[q]at q';cases q';obtain⟨v,hv⟩:=Wd;exact⟨v,by rw[QC];exact hv⟩
  .
   refine (ok b u q).stay (λc v hc r=>k c v ?_ r) (λc r=>by rw[aq (W6 c b r)];exact r) λc xs r=>by rw[aq (ntup c xs r)];exact r
   rcases hc with rfl |hc
   . exact QC
   .
    rintro rfl;rcases he with z |z
    . exact W6 c b hc z
    . rw[hc]at z;cases z;exact hb rfl
end
structure Un(fs ex:List Addr)(H H':Hp)(h h':Heap):Prop where
 keep:∀b o,h.get? b=some o->H b=none->b∉fs->b∉ex->h'.get? b=some o
 slot:∀b o,h.get? b=some o->H b=none->b∈fs->b∉ex->∃sl,h'.get? b=some { o with slots:=sl}
 free:∀b o,h.get? b=some o->H b=none->b∉ex->H' b=none
 there:∀b o,h.get? b=some o->b∉ex->∃o',h'.get? b=some o'
 tups:∀b xs,H b=some (.tup xs)->H' b=some (.tup xs)
 jP:∀b o u,H b=some (.cB o u)->H' b=some (.cB o u)
 jQ:∀b ps,H b=some (.kN ps)->∃more,H' b=some (.kN (ps++more))
section
variable{fs fs' ex ex':List Addr}{H H1 H2:Hp}{h h1 h2 h':Heap}{a x e:Addr}{o:HO}
theorem Un.any(u:Un fs ex H H1 h h1){b:Addr}{ob:Obj}(q:h.get? b=some ob)(n:H b=none)(hx:b∉ex):∃sl,h1.get? b=some { ob with slots:=sl}:=by
 by_cases hb:b∈fs
 . exact u.slot b ob q n hb hx
 . exact⟨ob.slots,u.keep b ob q n hb hx⟩
theorem Un.kept(k:∀b u,h.get? b=some u->h'.get? b=some u):Un fs ex H H h h':=
 ⟨λb ob q _ _ _=>k b ob q,λb ob q _ _ _=>⟨ob.slots,k b ob q⟩,λ_ _ _ n _=>n,λb ob q _=>⟨ob,k b ob q⟩,λ_ _ q=>q,λ_ _ _ q=>q,λ_ ps q=>⟨#[],by rw[q];simp⟩⟩
theorem Un.refl:Un fs ex H H h h:=Un.kept λ_ _ q=>q
theorem Un.laid(k:∀b u,h.get? b=some u->h'.get? b=some u)(hp:h.objs.size<=a)(hn:H a=none):Un fs ex H (upd H a o) h h' where
 keep:=λb u q _ _ _=>k b u q
 slot:=λb u q _ _ _=>⟨u.slots,k b u q⟩
 free:=λb u q n _=>by rw[aq (hU (eQ (eM q) hp))];exact n
 there:=λb u q _=>⟨u,k b u q⟩
 tups:=λb xs q=>by rw[aq (aF q hn)];exact q
 jP:=λb u xs q=>by rw[aq (aF q hn)];exact q
 jQ:=λb ps q=>⟨#[],by rw[aq (aF q hn),q];simp⟩
theorem Un.write(mu:Mut (H x))(he:e=x\/H e=some (.own x))(k:∀b u,b≠e->h.get? b=some u->h'.get? b=some u)(Wd:∃u,h'.get? e=some u):Un fs ex H (upd H x o) h h':=by
 have hx:∀b,H b=none->b≠x:=λb n z=>by subst z;rw[n]at mu;exact mu
 have hb:∀b,H b=none->b≠e:=λb n z=>by
  subst z;rcases he with r |r
  . exact hx b n r
  . rw[n]at r;cases r
 have hm:∀b u,H b=some u->¬ Mut (some u)->b≠x:=λb u q nm z=>by subst z;rw[q]at mu;exact nm mu
 refine⟨λb u q n _ _=>k b u (hb b n) q,λb u q n _ _=>⟨u.slots,k b u (hb b n) q⟩,λb u q n _=>by rw[aq (hx b n)];exact n,λb u q _=>?_,
  λb xs q=>by rw[aq (hm b _ q λz=>z)];exact q,λb u xs q=>by rw[aq (hm b _ q λz=>z)];exact q,λb ps q=>⟨#[],by rw[aq (hm b _ q λz=>z),q];simp⟩⟩
 by_cases QC:b=e
 . subst QC;exact Wd
 . exact⟨u,k b u QC q⟩
end
noncomputable def trk(h:Heap)(H:Hp):List Addr:=(List.range h.objs.size).filter λa=>(H a).isSome
def sA(h:Heap)(H:Hp):Heap:=PySem.W.hideAll h (trk h H)
theorem Ax(h:Heap)(H:Hp):(sA h H).objs.size=h.objs.size:=PySem.W.hideAll_size _ _
theorem Ef(e:h.get? b=some o)(n:H b=none):(sA h H).get? b=some o:=
 PySem.W.hideAll_get _ e λhm=>by
  have q:(H b).isSome=true:=(lL.mp hm).2;rw[n]at q;simp at q
theorem J4(e:(sA h H).get? b=some o):h.get? b=some o/\H b=none:=by
 have e':h.get? b=some o:=PySem.W.of_hideAll (trk h H) e;refine⟨e',?_⟩;cases q:H b with
 |none=>rfl
 |some x=>
  have hm:b∈trk h H:=lL.mpr ⟨An.mpr (eM e'),by simp[q]⟩
  have z:(sA h H).get? b=none:=PySem.W.hideAll_none (trk h H) hm;rw[z]at e;cases e
noncomputable def J5(g h:Heap)(L:Addr):List (Addr×Obj):=(List.range h.objs.size).filterMap λa=>if a=L\/(g.get? a).isSome=true then none else (h.get? a).map λo=>(a,o)
def rest(g h:Heap)(L d:Addr):List (Addr×Obj):=(J5 g h L).filter λp=>decide (p.1≠d)
structure Mod(K:Frag)(mg:Str->Option Value)(base:Heap):Prop where
 DP:K.In base
 glob:base.Ns mainGlobals mg
 blt:∃mb,base.Ns builtinsNs mb/\∀x:Str,x≠ "__name__" ->mb x=bootBuiltins x
 nolimit:base.NoLimit
structure Cx where
 prog:Program
 w:World
 K:Frag
 mg:Str->Option Value
 base:Heap
 A:Around
 N:List Str
 s₀:Shared
 H₀:Hp
 env:Env
 outer:List Env
 stack:List Env
 ex:List Addr
 fn:Str->Bool
 calm:Bool
 pn:List (Addr×Obj)
 xe:Value->Shared->Prop
def frs(l:List Env):List Addr:=l.filterMap (·.frame)
abbrev Cx.fs(X:Cx):List Addr:=frs X.outer
def qk(sc:Scope)(x:Str):Prop:=sc.names.lookup x=some .local\/sc.names.lookup x=some .cell\/sc.names.lookup x=some .free
def Loc(sc:Scope)(x:Str):Prop:=sc.names.lookup x=some .local\/sc.names.lookup x=some .cell
def Look(env:Env)(h:Heap)(m:Str->Option Value)(x:Str)(u:Value):Prop:=
 (env.kindOf x=some .local/\m x=some u)\/((env.kindOf x=some .cell\/env.kindOf x=some .free)/\∃c,env.cells.lookup x=some c/\h.IsCell c (some u))
structure Cx.Ok(X:Cx):Prop where
 mod:Mod X.K X.mg X.base
 kind:X.env.scope.kind=.function
 glob:X.env.globals=mainGlobals
 blt:X.env.builtins=builtinsNs
 above:X.s₀⁻¹<=X.env.locals
 inj:∀x y c,X.env.cells.lookup x=some c->X.env.cells.lookup y=some c->x=y
 has:∀x,(X.env.kindOf x=some .cell\/X.env.kindOf x=some .free)->∃c,X.env.cells.lookup x=some c
 QD:∀x c,X.fn x=true->X.env.cells.lookup x=some c->X.s₀⁻¹<=c
 hd:X.calm=true->X.A.handled=none
 frames:X.A.frames=some X.stack
 stk:X.stack=X.outer\/(X.stack=X.env::X.outer/\X.env.frame=some X.env.locals)
 Wf:∀b∈X.ex,b≠X.env.locals/\∀x c,X.env.cells.lookup x=some c->c≠b
 bs:∀b o,X.base.get? b=some o->X.s₀.heap.get? b=some o/\X.H₀ b=none
 Eg:X.base.objs.size<=X.s₀⁻¹
 uR:∀b o,X.base.get? b=some o->b∉X.ex
 xA:∀b∈X.ex,b∉X.fs
 jR:X.s₀.heap.FunFrames X.base X.outer
 J6:∀b∈X.fs,X.H₀ b=none
structure Inv(X:Cx)(ah:List (Addr×Obj))(σ:List (Option V))(H:Hp)(s:Shared):Prop where
 ok:X.Ok
 os:s.os=X.s₀.os
 bare:AllBare s.gens
 base:Un X.fs X.ex X.H₀ H X.s₀.heap s.heap
 loc:∃m,s.heap.Ns X.env.locals m/\∀(i:Nat) (x:Str) (v:V),X.N[i]?=some x->σ[i]?=some (some v)->qk X.env.scope x->∃u,RelV v u/\Look X.env s.heap m x u
 cell:∀x c,X.env.cells.lookup x=some c->∃v,s.heap.IsCell c v
 free:H X.env.locals=none
 dz:∀x c,X.env.cells.lookup x=some c->H c=none
 pin:∀p∈X.pn++ah,s.heap.get? p.1=some p.2/\H p.1=none/\p.1≠X.env.locals/\p.1∉X.fs/\∀v,p.2.data≠.cell v
 hok:kO X.prog X.w H s.heap
 len:σ.length=X.N.length
section
variable{X:Cx}{ah:List (Addr×Obj)}{σ:List (Option V)}{H H':Hp}{s:Shared}{h':Heap}
theorem Cx.Ok.nofr(ok:X.Ok)(e:X.base.get? b=some o):b∉X.fs:=λhb=>by
 have:=(ok.jR.mem hb).1;rw[e]at this;cases this
theorem Inv.bs(I:Inv X ah σ H s):∀b o,X.base.get? b=some o->s.heap.get? b=some o/\H b=none:=λb o e=>
 ⟨I.base.keep b o (I.ok.bs b o e).1 (I.ok.bs b o e).2 (I.ok.nofr e) (I.ok.uR b o e),I.base.free b o (I.ok.bs b o e).1 (I.ok.bs b o e).2 (I.ok.uR b o e)⟩
theorem Inv.bk(I:Inv X ah σ H s):∀b o,X.base.get? b=some o->s.heap.get? b=some o:=λb o e=>(I.bs b o e).1
theorem Inv.mod(I:Inv X ah σ H s):Mod X.K X.mg X.base:=I.ok.mod
theorem Inv.mR(I:Inv X ah σ H s):X.K.In s.heap:=I.ok.mod.DP.keeps I.bk
theorem Inv.nolimit(I:Inv X ah σ H s):s.heap.NoLimit:=I.ok.mod.nolimit.keeps I.bk
theorem Inv.lt(I:Inv X ah σ H s):X.env.locals<s⁻¹:=let ⟨_,hn,_⟩:=I.loc;hn.lt
theorem Inv.sz(I:Inv X ah σ H s):X.s₀⁻¹<=s⁻¹:=qS I.ok.above (CC I.lt)
theorem Inv.nofs(I:Inv X ah σ H s)(h:s⁻¹<=a):a∉X.fs:=λhb=>by
 obtain⟨_,o,ho,_⟩:=I.ok.jR.mem hb;exact absurd (eQ (eM ho) (qS I.sz h)) (l9 _)
theorem Inv.QF(I:Inv X ah σ H s):∀x c,X.env.cells.lookup x=some c->c≠X.env.locals:=λx c e z=>by
 obtain⟨v,o,ho,hd⟩:=I.cell x c e;obtain⟨m,⟨o',es,ep,ho',hd',_⟩,_⟩:=I.loc;rw[z,ho']at ho;cases ho;rw[hd']at hd;cases hd
theorem Inv.jR(I:Inv X ah σ H s):s.heap.FunFrames X.base X.outer:=by
 have all:∀(l:List Env),(∀b∈frs l,b∈X.fs)->X.s₀.heap.FunFrames X.base l->s.heap.FunFrames X.base l:=by
  intro l
  induction l with
  |nil=>intro _ _;trivial
  |cons env r ih=>
   intro hs hl;obtain⟨hk,⟨L,o,hf,hn,ho,hd⟩,hr⟩:=hl;have hL:L∈X.fs:=hs L (by unfold frs;rw[wT,hf];exact dL)
   obtain⟨sl,e⟩:=I.base.slot L o ho (I.ok.J6 L hL) hL λz=>I.ok.xA L z hL
   exact⟨hk,⟨L,_,hf,hn,e,hd⟩,ih (λb hb=>hs b (by unfold frs;rw[wT,hf];exact dA _ hb)) hr⟩
 exact all X.outer (λ_ hb=>hb) I.ok.jR
theorem Inv.stack(I:Inv X ah σ H s):s.heap.FunFrames X.base X.stack:=by
 rcases I.ok.stk with e |⟨e,hf⟩
 . rw[e];exact I.jR
 .
  rw[e];obtain⟨m,hn,_⟩:=I.loc;refine .cons (by rw[I.ok.kind];decide) hf hn ?_ I.jR
  exact Heap.get?_none_of_le (qS I.ok.Eg I.ok.above)
theorem Inv.xB(I:Inv X ah σ H s):∀b∈frs X.stack,b∈X.env.locals::X.fs:=λb hb=>by
 rcases I.ok.stk with e |⟨e,hf⟩
 . rw[e]at hb;exact dA _ hb
 . rw[e]at hb;unfold frs at hb;rw[wT,hf]at hb;exact hb
theorem Inv.sC(I:Inv X ah σ H s):∀b∈frs X.stack,H b=none:=λb hb=>by
 rcases d5.mp (I.xB b hb)with e |hb
 . rw[e];exact I.free
 . obtain⟨_,o,ho,_⟩:=I.ok.jR.mem hb;exact I.base.free b o ho (I.ok.J6 b hb) λz=>I.ok.xA b z hb
theorem Inv.step{g':Array GenState}{t':Nat}{d':Drawn}{ch:List Addr}(I:Inv X ah σ H s)
  (hch:∀b∈ch,(b∈X.ex\/X.s₀⁻¹<=b)/\b≠X.env.locals/\(∀x c,X.env.cells.lookup x=some c->c≠b)/\∀p∈X.pn++ah,p.1≠b)
  (keep:∀b o,b≠X.env.locals->b∉X.fs->b∉ch->s.heap.get? b=some o->H b=none->h'.get? b=some o)
  (slot:∀b o,b≠X.env.locals->b∈X.fs->b∉ch->s.heap.get? b=some o->H b=none->∃sl,h'.get? b=some { o with slots:=sl}) (free:∀b o,b∉ch->s.heap.get? b=some o->H b=none->H' b=none)
  (there:∀b o,b∉ch->s.heap.get? b=some o->∃o',h'.get? b=some o')
  (tups:∀b xs,H b=some (.tup xs)->H' b=some (.tup xs)) (jP:∀b o u,H b=some (.cB o u)->H' b=some (.cB o u)) (jQ:∀b ps,H b=some (.kN ps)->∃more,H' b=some (.kN (ps++more)))
  (ns:∀m,s.heap.Ns X.env.locals m->h'.Ns X.env.locals m) (hok:kO X.prog X.w H' h') (hg:AllBare g') :
  Inv X ah σ H' { s with heap:=h',gens:=g',drawn:=d',toks:=t'}:=by
 have neL:∀b o,X.s₀.heap.get? b=some o->b≠X.env.locals:=λb o e=>hU (eQ (eM e) I.ok.above)
 have neC:∀b o,X.s₀.heap.get? b=some o->b∉X.ex->b∉ch:=λb o e hx hb=>by
  rcases (hch b hb).1 with z |z
  . exact hx z
  . exact absurd (eQ (eM e) z) (l9 _)
 have cellK:∀x c,X.env.cells.lookup x=some c->∀v,s.heap.IsCell c v->h'.IsCell c v:=λx c e v ⟨o,ho,hd⟩=>by
  have W7:c∉ch:=λz=>(hch c z).2.2.1 x c e rfl
  by_cases hc:c∈X.fs
  . obtain⟨sl,q⟩:=slot c o (I.QF x c e) hc W7 ho (I.dz x c e);exact⟨_,q,hd⟩
  . exact⟨o,keep c o (I.QF x c e) hc W7 ho (I.dz x c e),hd⟩
 refine⟨I.ok,I.os,hg,⟨λb o e n hb hx=>?_,λb o e n hb hx=>?_,λb o e n hx=>?_,λb o e hx=>?_,λb xs e=>tups b xs (I.base.tups b xs e),λb o xs e=>jP b o xs (I.base.jP b o xs e),λb ps e=>?_⟩,?_,λx c e=>?_,?_,λx c e=>?_,λp hp=>?_,hok,I.len⟩
 . exact keep b o (neL b o e) hb (neC b o e hx) (I.base.keep b o e n hb hx) (I.base.free b o e n hx)
 . obtain⟨sl,e1⟩:=I.base.slot b o e n hb hx;obtain⟨sl',e2⟩:=slot b _ (neL b o e) hb (neC b o e hx) e1 (I.base.free b o e n hx);exact⟨sl',e2⟩
 . obtain⟨o',e1⟩:=I.base.there b o e hx;exact free b o' (neC b o e hx) e1 (I.base.free b o e n hx)
 . obtain⟨o',e1⟩:=I.base.there b o e hx;exact there b o' (neC b o e hx) e1
 . obtain⟨m1,e1⟩:=I.base.jQ b ps e;obtain⟨m2,e2⟩:=jQ b _ e1;exact⟨m1++m2,by rw[e2,Array.append_assoc]⟩
 .
  obtain⟨m,hn,hl⟩:=I.loc;refine⟨m,ns m hn,λi x v e1 e2 e3=>?_⟩
  obtain⟨u,r,l⟩:=hl i x v e1 e2 e3;refine⟨u,r,?_⟩;rcases l with l |⟨k,c,e,z⟩
  . exact .inl l
  . exact .inr ⟨k,c,e,cellK x c e _ z⟩
 . obtain⟨v,z⟩:=I.cell x c e;exact⟨v,cellK x c e v z⟩
 . obtain⟨m,⟨o,_,_,ho,_⟩,_⟩:=I.loc;exact free _ o (λz=>(hch _ z).2.1 rfl) ho I.free
 . obtain⟨v,o,ho,hd⟩:=I.cell x c e;exact free c o (λz=>(hch c z).2.2.1 x c e rfl) ho (I.dz x c e)
 .
  obtain⟨e,n,ne,nf,d⟩:=I.pin p hp;have W7:p.1∉ch:=λz=>(hch p.1 z).2.2.2 p hp rfl
  exact⟨keep p.1 p.2 ne nf W7 e n,free p.1 p.2 W7 e n,ne,nf,d⟩
theorem Inv.un{t':Nat}(I:Inv X ah σ H s)(u:Un X.fs [] H H' s.heap h')(hok:kO X.prog X.w H' h'):Inv X ah σ H' { s with heap:=h',toks:=t'}:=by
 obtain⟨m,⟨o,es,ep,ho,r⟩,_⟩:=id I.loc;obtain⟨sl,hL⟩:=u.any ho I.free ⋯;exact I.step (g':=s.gens) (d':=s.drawn) (ch:=[]) (λ_ z=>nomatch z) (λb o _ hb _ e n=>u.keep b o e n hb ⋯) (λb o _ hb _ e n=>u.slot b o e n hb ⋯) (λb o _ e n=>u.free b o e n ⋯) (λb o _ e=>u.there b o e ⋯) u.tups u.jP u.jQ (λm' hm=>by
  obtain⟨o',es',J7,ho',r'⟩:=hm;rw[ho]at ho';cases ho';exact⟨_,es',J7,hL,r'⟩) hok I.bare
theorem Inv.call{g':Array GenState}{t':Nat}{d':Drawn}{ch:List Addr}(I:Inv X ah σ H s)(u:Un (frs X.stack) ch H H' s.heap h')(hok:kO X.prog X.w H' h')(hg:AllBare g')
  (hch:∀b∈ch,(b∈X.ex\/X.s₀⁻¹<=b)/\b≠X.env.locals/\(∀x c,X.env.cells.lookup x=some c->c≠b)/\∀p∈X.pn++ah,p.1≠b) :
  Inv X ah σ H' { s with heap:=h',gens:=g',drawn:=d',toks:=t'}:=by
 obtain⟨m,⟨o,es,ep,ho,r⟩,_⟩:=id I.loc;obtain⟨sl,hL⟩:=u.any ho I.free λz=>(hch _ z).2.1 rfl
 exact I.step (ch:=ch) hch (λb o hL hb hc e n=>u.keep b o e n (λz=>(d5.mp (I.xB b z)).elim hL hb) hc) (λb o _ _ hc e n=>u.any e n hc) (λb o hc e n=>u.free b o e n hc) (λb o hc e=>u.there b o e hc) u.tups u.jP u.jQ (λm' hm=>by
  obtain⟨o',es',J7,ho',r'⟩:=hm;rw[ho]at ho';cases ho';exact⟨_,es',J7,hL,r'⟩) hok hg
theorem Inv.turned{t':Nat}{it:Addr}(I:Inv X ah σ H s)(k:∀b o,b≠it->s.heap.get? b=some o->h'.get? b=some o)(hn:H it=none)(hL:it≠X.env.locals)
  (h1:it∈X.ex\/X.s₀⁻¹<=it) (h2:∀x c,X.env.cells.lookup x=some c->c≠it) (h3:∀p∈X.pn++ah,p.1≠it):Inv X ah σ H { s with heap:=h',toks:=t'}:=by
 have nit:∀b u,H b=some u->b≠it:=λb u e z=>by rw[z,hn]at e;cases e
 refine I.step (g':=s.gens) (d':=s.drawn) (ch:=[it]) (λb hb=>?_) (λb o _ _ hc e _=>k b o (λz=>hc (by simp[z])) e) (λb o _ _ hc e _=>⟨o.slots,k b o (λz=>hc (by simp[z])) e⟩) (λ_ _ _ _ n=>n)
  (λb o hc e=>⟨o,k b o (λz=>hc (by simp[z])) e⟩) (λ_ _ e=>e) (λ_ _ _ e=>e) (λb ps e=>⟨#[],by rw[e];simp⟩) (λm hm=>?_) (λb u e=>?_) I.bare
 .
  have e:b=it:=by simpa using hb
  subst e;exact⟨h1,hL,h2,h3⟩
 . obtain⟨o,es,ep,ho,r⟩:=hm;exact⟨o,es,ep,k _ o (oI hL) ho,r⟩
 .
  refine (I.hok b u e).stay (λc v hc q=>k c v ?_ q) (λ_ q=>q) λ_ _ q=>q
  rcases hc with z |z
  . rw[z];exact nit b u e
  . exact nit c _ z
theorem Inv.tok(I:Inv X ah σ H s)(t:Nat):Inv X ah σ H { s with toks:=t}:=I.un (h':=s.heap) (t':=t) Un.refl I.hok
theorem Inv.kept{t':Nat}(I:Inv X ah σ H s)(k:∀b u,s.heap.get? b=some u->h'.get? b=some u):Inv X ah σ H { s with heap:=h',toks:=t'}:=I.un (Un.kept k) (I.hok.kept k)
theorem Inv.laid{a:Addr}{o:HO}{t':Nat}(I:Inv X ah σ H s)(k:∀b u,s.heap.get? b=some u->h'.get? b=some u)(hp:s⁻¹<=a)(new:cI X.prog X.w (upd H a o) h' a o) :
  Inv X ah σ (upd H a o) { s with heap:=h',toks:=t'}:=I.un (Un.laid k hp (I.hok.fresh hp)) (I.hok.laid k hp new)
theorem Inv.write(I:Inv X ah σ H s)(mu:Mut (H x))(he:e=x\/H e=some (.own x))(k:∀b u,b≠e->s.heap.get? b=some u->h'.get? b=some u)(Wd:∃u,h'.get? e=some u)
  (new:cI X.prog X.w (upd H x o) h' x o):Inv X ah σ (upd H x o) { s with heap:=h',toks:=t'}:=I.un (Un.write mu he k Wd) (I.hok.write mu he k Wd new)
theorem Inv.y9(I:Inv X ah σ H s)(h:∀p∈W8,s.heap.get? p.1=some p.2/\H p.1=none/\p.1≠X.env.locals/\p.1∉X.fs/\∀v,p.2.data≠.cell v):Inv X W8 σ H s:=
 ⟨I.ok,I.os,I.bare,I.base,I.loc,I.cell,I.free,I.dz,λp hp=>(w8.mp hp).elim (λz=>I.pin p (t6 _ z)) (h p),I.hok,I.len⟩
theorem nU{N:List Str}(hN:N.Nodup){i j:Nat}{x:Str}(a:N[i]?=some x)(b:N[j]?=some x):i=j:=by obtain⟨h1,e1⟩:=dC.mp a;obtain⟨h2,e2⟩:=dC.mp b;exact (List.getElem_inj hN).mp (e1.trans e2.symm)
theorem kU{M:Model}{A:Around}{E:Value->Shared->Prop}{i:Nat}{x:Str}{v:V}{u:Value}{Q:Unit->Shared->Prop}(I:Inv X ah σ H s)(hN:X.N.Nodup)(hi:X.N[i]?=some x)(hx:Loc X.env.scope x)(r:RelV v u)
  (h:∀s',Inv X ah (σ.set i (some v)) H s'->(∃a,Heap.SameBut a s.heap s'.heap/\(a=X.env.locals\/X.env.cells.lookup x=some a))->Q () s') (hf:X.fn x=true\/X.env.scope.names.lookup x=some .local:=by first |exact .inl rfl |exact .inr rfl |assumption):wpAny M A (storeName X.env x u) Q E s:=by
 obtain⟨m,hn,hl⟩:=id I.loc;have hcls:(X.env.scope.kind==.class||(X.env.scope.kind==.module&&X.env.locals != X.env.globals))=false:=by rw[I.ok.kind];rfl
 have W9:i<σ.length:=by rw[I.len];exact (dC.mp hi).1
 have QF:=I.QF;have tracked:∀{a:Addr}{h':Heap},(∃o,s.heap.get? a=some o/\H a=none)->Heap.SameBut a s.heap h'->kO X.prog X.w H h':=λ{a h'} ha hs b ob e=>by
  obtain⟨_,_,hfree⟩:=ha;refine (I.hok b ob e).stay (λc w' hc q=>(hs.2 c ?_).trans q) (λ_ q=>q) λ_ _ q=>q
  rintro rfl;rcases hc with rfl |hc
  . rw[hfree]at e;cases e
  . rw[hfree]at hc;cases hc
 rcases hx with hk |hk
 .
  refine wpAny_storeName_local hk hn (λh' hn' hs=>?_) hcls
  obtain⟨oL,_,_,hoL,_⟩:=id hn;refine h _ ⟨I.ok,I.os,I.bare,⟨λb o e n hb hx=>?_,λb o e n hb hx=>?_,I.base.free,λb o e hx=>?_,I.base.tups,I.base.jP,I.base.jQ⟩,⟨_,hn',λj y v' e1 e2 e3=>?_⟩,λy c e=>?_,I.free,I.dz,λp hp=>?_,tracked ⟨oL,hoL,I.free⟩ hs,by simpa using I.len⟩ ⟨_,hs,.inl rfl⟩
  . exact (hs.2 b (hU (eQ (eM e) I.ok.above))).trans (I.base.keep b o e n hb hx)
  . obtain⟨sl,e1⟩:=I.base.slot b o e n hb hx;exact⟨sl,(hs.2 b (hU (eQ (eM e) I.ok.above))).trans e1⟩
  . obtain⟨o',e1⟩:=I.base.there b o e hx;exact⟨o',(hs.2 b (hU (eQ (eM e) I.ok.above))).trans e1⟩
  .
   by_cases hj:j=i
   . subst hj;rw[hi]at e1;cases e1;rw[i4 W9]at e2;cases e2;exact⟨u,r,.inl ⟨hk,by simp⟩⟩
   .
    rw[fN (oI hj)]at e2;obtain⟨u',r',q⟩:=hl j y v' e1 e2 e3;refine⟨u',r',?_⟩;rcases q with ⟨k,e⟩ |⟨k,c,e,z⟩
    .
     refine .inl ⟨k,?_⟩;have:y≠x:=λe=>hj (nU hN e1 (e▸hi))
     simp[this,e]
    . exact .inr ⟨k,c,e,z.sameBut hs (QF y c e)⟩
  . obtain⟨w',z⟩:=I.cell y c e;exact⟨w',z.sameBut hs (QF y c e)⟩
  . obtain⟨e,n,ne,nf,d⟩:=I.pin p hp;exact⟨(hs.2 p.1 ne).trans e,n,ne,nf,d⟩
 .
  have hfn:X.fn x=true:=by
   rcases hf with z |z
   . exact z
   . rw[z]at hk;cases hk
  obtain⟨c,hc⟩:=I.ok.has x (.inl hk);obtain⟨w',z⟩:=I.cell x c hc;refine wpAny_storeName_cell I.ok.kind hk hc z (λh' hc' hs=>?_)
  obtain⟨oc,hoc,hocd⟩:=id z;refine h { s with heap:=h'} ⟨I.ok,I.os,I.bare,⟨λb o e n hb hx=>?_,λb o e n hb hx=>?_,I.base.free,λb o e hx=>?_,I.base.tups,I.base.jP,I.base.jQ⟩,⟨m,hn.sameBut hs (oI (QF x c hc)),λj y v' e1 e2 e3=>?_⟩,λy c' e=>?_,I.free,I.dz,λp hp=>?_,tracked ⟨oc,hoc,I.dz x c hc⟩ hs,by simpa using I.len⟩ ⟨c,hs,.inr hc⟩
  . exact (hs.2 b (hU (eQ (eM e) (I.ok.QD x c hfn hc)))).trans (I.base.keep b o e n hb hx)
  . obtain⟨sl,e1⟩:=I.base.slot b o e n hb hx;exact⟨sl,(hs.2 b (hU (eQ (eM e) (I.ok.QD x c hfn hc)))).trans e1⟩
  . obtain⟨o',e1⟩:=I.base.there b o e hx;exact⟨o',(hs.2 b (hU (eQ (eM e) (I.ok.QD x c hfn hc)))).trans e1⟩
  .
   by_cases hj:j=i
   . subst hj;rw[hi]at e1;cases e1;rw[i4 W9]at e2;cases e2;exact⟨u,r,.inr ⟨.inl hk,c,hc,hc'⟩⟩
   .
    rw[fN (oI hj)]at e2;obtain⟨u',r',q⟩:=hl j y v' e1 e2 e3;refine⟨u',r',?_⟩;rcases q with q |⟨k,c',e,z'⟩
    . exact .inl q
    . refine .inr ⟨k,c',e,z'.sameBut hs ?_⟩;rintro rfl;exact hj (nU hN e1 (I.ok.inj _ _ _ e hc▸hi))
  .
   by_cases hcc:c'=c
   . subst hcc;exact⟨_,hc'⟩
   . obtain⟨w2,z2⟩:=I.cell y c' e;exact⟨w2,z2.sameBut hs hcc⟩
  . obtain⟨e,n,ne,nf,d⟩:=I.pin p hp;refine⟨(hs.2 p.1 ?_).trans e,n,ne,nf,d⟩;intro q;rw[q,hoc]at e;have q':oc=p.2:=oC e;exact d w' (by rw[<- q'];exact hocd)
theorem jS{M:Model}{A:Around}{E:Value->Shared->Prop}{i:Nat}{x:Str}{v:V}{u:Value}{Q:Unit->Shared->Prop}(I:Inv X ah σ H s)(hN:X.N.Nodup)(hi:X.N[i]?=some x)(hx:Loc X.env.scope x)(r:RelV v u)
  (h:∀s',Inv X ah (σ.set i (some v)) H s'->Q () s') (hf:X.fn x=true\/X.env.scope.names.lookup x=some .local:=by first |exact .inl rfl |exact .inr rfl |assumption):wpAny M A (storeName X.env x u) Q E s:=
 kU I hN hi hx r (λs' I' _=>h s' I') hf
theorem Inv.call'(I:Inv X ah σ H s)(ho:s'.os=s.os)(u:Un (frs X.stack) ch H H' s.heap s'.heap)(hok:kO X.prog X.w H' s'.heap)(hg:AllBare s'.gens)
  (hch:∀b∈ch,(b∈X.ex\/X.s₀⁻¹<=b)/\b≠X.env.locals/\(∀x c,X.env.cells.lookup x=some c->c≠b)/\∀p∈X.pn++ah,p.1≠b):Inv X ah σ H' s':=by
 obtain⟨h',g',d',t',o'⟩:=s';have e:o'=s.os:=ho;subst e;exact I.call (g':=g') (t':=t') (d':=d') u hok hg hch
end
abbrev XK:=Value->Option Addr->Hp->Prop
abbrev St:=List (Option V)
abbrev VK:=V->Hp->Prop
abbrev TE:=St->Hp->VK->Prop
abbrev TT:=St->Hp->(Bool->Hp->Prop)->Prop
abbrev TA:=St->Hp->(List V->Hp->Prop)->Prop
structure Ends where
 nx:St->Hp->Prop
 rt:VK
 bk:St->Hp->Prop:=λ_ _=>False
 ct:St->Hp->Prop:=λ_ _=>False
abbrev TS:=Ends->St->Hp->Prop
def EP(X:Cx)(ah:List (Addr×Obj))(σ:St)(Q:VK)(u:Value)(s':Shared):Prop:=∃v H',Inv X ah σ H' s'/\RelV v u/\Q v H'
def TP(X:Cx)(ah:List (Addr×Obj))(σ:St)(Q:Bool->Hp->Prop)(b:Bool)(s':Shared):Prop:=∃H',Inv X ah σ H' s'/\Q b H'
def AP(X:Cx)(ah:List (Addr×Obj))(σ:St)(Q:List V->Hp->Prop)(us:List Value)(s':Shared):Prop:=∃vs H',Inv X ah σ H' s'/\Vals vs us/\Q vs H'
def SP(X:Cx)(ah:List (Addr×Obj))(D:Ends)(f:Flow)(s':Shared):Prop:=
 match f with
 |.next=>∃σ' H',Inv X ah σ' H' s'/\D.nx σ' H'
 |.brk=>∃σ' H',Inv X ah σ' H' s'/\D.bk σ' H'
 |.cont=>∃σ' H',Inv X ah σ' H' s'/\D.ct σ' H'
 |.ret u=>∃v σ' H',Inv X ah σ' H' s'/\RelV v u/\D.rt v H'
def PE(X:Cx)(e:Expr)(t:TE):Prop:=
 ∀(ah:List (Addr×Obj)) (s:Shared) (σ:St) (H:Hp) (Q:VK),Inv X ah σ H s->t σ H Q->wpAny (model X.prog X.w) X.A (eval e X.env) (EP X ah σ Q) X.xe s
def PT(X:Cx)(e:Expr)(t:TT):Prop:=
 ∀(ah:List (Addr×Obj)) (s:Shared) (σ:St) (H:Hp) (Q:Bool->Hp->Prop),Inv X ah σ H s->t σ H Q->wpAny (model X.prog X.w) X.A (isTrue e X.env (eval e X.env)) (TP X ah σ Q) X.xe s
def PW(X:Cx)(e:Expr)(t:TT):Prop:=
 ∀(whole:Sem Value) (ah:List (Addr×Obj)) (s:Shared) (σ:St) (H:Hp) (Q:Bool->Hp->Prop),Inv X ah σ H s->t σ H Q->wpAny (model X.prog X.w) X.A (isTrue e X.env whole) (TP X ah σ Q) X.xe s
theorem PW.pt{X:Cx}{e:Expr}{t:TT}(h:PW X e t):PT X e t:=h _
def PA(X:Cx)(es:List Expr)(t:TA):Prop:=
 ∀(pos:Pos) (ah:List (Addr×Obj)) (s:Shared) (σ:St) (H:Hp) (Q:List V->Hp->Prop),Inv X ah σ H s->t σ H Q->wpAny (model X.prog X.w) X.A (spliced (backTo pos (starEach es X.env))) (AP X ah σ Q) X.xe s
def PS(X:Cx)(st:Stmt)(t:TS):Prop:=
 ∀(ah:List (Addr×Obj)) (s:Shared) (σ:St) (H:Hp) (D:Ends),Inv X ah σ H s->t D σ H->wpAny (model X.prog X.w) X.A (exec st X.env) (SP X ah D) X.xe s
def sD(X:Cx)(st:List Stmt)(t:TS):Prop:=
 ∀(ah:List (Addr×Obj)) (s:Shared) (σ:St) (H:Hp) (D:Ends),Inv X ah σ H s->t D σ H->wpAny (model X.prog X.w) X.A (execs st X.env) (SP X ah D) X.xe s
theorem bJ{α:Type}{t:Sem α}{Q Q':α->Shared->Prop}{M:Model}{A:Around}{E:Value->Shared->Prop}{s:Shared}(h:wpAny M A t Q E s)(hQ:∀a s,Q a s->Q' a s):wpAny M A t Q' E s:=i9 h hQ λ_ _ x=>x
section
variable{X:Cx}
theorem bin{a b:Expr}{ta tb:TE}(ha:PE X a ta)(hb:PE X b tb){ah:List (Addr×Obj)}{s:Shared}{σ:St}{H:Hp}{R:V->V->Hp->Prop}(I:Inv X ah σ H s)(h:ta σ H λx H1=>tb σ H1 λy H2=>R x y H2)
  {α:Type}{Q:α->Shared->Prop}{f:Value->Value->Sem α}
  (hf:∀v u s2 x y H2,Inv X ah σ H2 s2->RelV x v->RelV y u->R x y H2->wpAny (model X.prog X.w) X.A (f v u) Q X.xe s2) :
  wpAny (model X.prog X.w) X.A (eval a X.env) (λv s₁=>wpAny (model X.prog X.w) X.A (eval b X.env) (λu s₂=>wpAny (model X.prog X.w) X.A (f v u) Q X.xe s₂) X.xe s₁) X.xe s:=by
 refine bJ (ha ah s σ H _ I h) λv s1 ⟨x,H1,I1,r1,q1⟩=>?_
 refine bJ (hb ah s1 σ H1 _ I1 q1) λu s2 ⟨y,H2,I2,r2,q2⟩=>?_
 exact hf v u s2 x y H2 I2 r1 r2 q2
def Xa(i:Nat):TE:=λσ H Q=>∃v,σ[i]?=some (some v)/\Q v H
def tC(v:V):TE:=λ_ H Q=>Q v H
theorem fZ(hN:X.N[i]?=some x)(hv:qk X.env.scope x)(hd:(x==("__debug__":Str))=false:=by decide)(bH:(x==("__classdict__":Str))=false:=by decide):PE X (.Name x pos) (Xa i):=by
 intro ah s σ H Q I h;obtain⟨v,e,h⟩:=h;obtain⟨m,hn,hl⟩:=I.loc;obtain⟨u,r,l⟩:=hl i x v hN e hv;have fin:EP X ah σ Q u s:=⟨v,H,I,r,h⟩;rcases l with ⟨hk,hm⟩ |⟨hk,c,hc,hcell⟩
 . exact CS (wpAny_loadName_local I.ok.kind hk hn hm fin) hd
 .
  rcases hk with hk |hk
  . exact CS (wpAny_loadName_cell I.ok.kind hk hc hcell fin) hd
  . exact CS (wpAny_loadName_free I.ok.kind hk hc hcell fin bH) hd
theorem Eh{i j pos}:PE X (.Constant (.int i) j pos) (tC (.int i)):=λ_ _ _ H _ I h=>wpAny_Constant_int ⟨.int i,H,I.tok _,⟨_,rfl⟩,h⟩
theorem Xc{b j pos}:PE X (.Constant (.bool b) j pos) (tC (.bl b)):=λ_ _ _ H _ I h=>Constant_bool ⟨.bl b,H,I,rfl,h⟩
theorem Ei{j pos}:PE X (.Constant .none j pos) (tC .non):=λ_ _ _ H _ I h=>Constant_none ⟨.non,H,I,rfl,h⟩
theorem QG{x j pos}:PE X (.Constant (.str x) j pos) (tC (.str x)):=λ_ _ _ H _ I h=>Calls.Constant_str ⟨.str x,H,I.tok _,⟨_,rfl⟩,h⟩
def Gl(X:Cx)(x:Str):Prop:=X.env.kindOf x=some .globalImplicit
theorem eU{E:Value->Shared->Prop}{ah:List (Addr×Obj)}{s:Shared}{σ:St}{H:Hp}{x:Str}{u:Value}{pos:Pos}{Q:Value->Shared->Prop}(I:Inv X ah σ H s)(hg:Gl X x)(hm:X.mg x=some u)(h:Q u s)
  (hd:(x==("__debug__":Str))=false:=by decide):wpAny (model X.prog X.w) X.A (eval (.Name x pos) X.env) Q E s:=
 Calls.Name_function_global I.ok.kind hg (Calls.loadGlobal_global (by rw[I.ok.glob];exact I.mod.glob.keeps I.bk) hm h) hd
theorem gi{E:Value->Shared->Prop}{ah:List (Addr×Obj)}{s:Shared}{σ:St}{H:Hp}{x:Str}{u:Value}{pos:Pos}{Q:Value->Shared->Prop}(I:Inv X ah σ H s)(hg:Gl X x)(hm:X.mg x=none)(hv:bootBuiltins x=some u)(h:Q u s)
  (hn:x≠ "__name__" :=by decide) (hd:(x==("__debug__":Str))=false:=by decide):wpAny (model X.prog X.w) X.A (eval (.Name x pos) X.env) Q E s:=by
 obtain⟨mb,h1,h2⟩:=I.mod.blt;exact Calls.Name_function_global I.ok.kind hg (Calls.loadGlobal_builtin (by rw[I.ok.glob];exact I.mod.glob.keeps I.bk) hm (by rw[I.ok.blt];exact h1.keeps I.bk) ((h2 x hn).trans hv) h) hd
theorem za(hg:Gl X x)(hm:X.mg x=some u)(r:RelV v u)(hd:(x==("__debug__":Str))=false:=by decide):PE X (.Name x pos) (tC v):=
 λ_ _ _ H _ I h=>eU I hg hm ⟨v,H,I,r,h⟩ hd
theorem sE(hg:Gl X x)(hm:X.mg x=none)(hv:bootBuiltins x=some u)(r:RelV v u)(hn:x≠ "__name__" :=by decide)(hd:(x==("__debug__":Str))=false:=by decide):PE X (.Name x pos) (tC v):=
 λ_ _ _ H _ I h=>gi I hg hm hv ⟨v,H,I,r,h⟩ hn hd
variable{a b:Expr}{ta tb:TE}{pos:Pos}
def tB(t:TE):TT:=λσ H Q=>t σ H λx H1=>∃c,x=.bl c/\Q c H1
theorem QH{e:Expr}{t:TE}(h:PE X e t)(he:∀whole,isTrue e X.env whole=(do let v <- whole;standAt e.pos;holding [v] (truthy v)):=by intro _;rfl):PT X e (tB t):=by
 intro ah s σ H Q I hw;refine isTrue_plain (bJ (h ah s σ H _ I hw) λv s1 ⟨x,H1,I1,r1,q1⟩=>?_) (he _)
 obtain⟨d,rfl,q⟩:=q1;cases r1;exact mI ⟨H1,I1,q⟩
variable{tA tB':TT}{rest:List Expr}
noncomputable def tAnd(t u:TT):TT:=λσ H Q=>t σ H λc H1=>if c=true then u σ H1 Q else Q false H1
noncomputable def tOr(t u:TT):TT:=λσ H Q=>t σ H λc H1=>if c=true then Q true H1 else u σ H1 Q
def tNot(t:TT):TT:=λσ H Q=>t σ H λc H1=>Q (!c) H1
theorem pw_and1(ha:PT X a tA):PW X (.BoolOp .And [a] pos) tA:=by
 intro wh ah s σ H Q I h;refine isTrue_and (bJ (ha ah s σ H Q I h) λc s1 e=>?_)
 cases c with
 |true=>exact isTrue_and_nil e
 |false=>exact e
theorem pw_or1(ha:PT X a tA):PW X (.BoolOp .Or [a] pos) tA:=by
 intro wh ah s σ H Q I h;refine isTrue_or (bJ (ha ah s σ H Q I h) λc s1 e=>?_)
 cases c with
 |false=>exact isTrue_or_nil e
 |true=>exact e
theorem pw_and(ha:PT X a tA)(hb:PW X (.BoolOp .And (b::rest) pos) tB'):PW X (.BoolOp .And (a::b::rest) pos) (tAnd tA tB'):=by
 intro wh ah s σ H Q I h;refine isTrue_and (bJ (ha ah s σ H _ I h) λc s1 ⟨H1,I1,q1⟩=>?_)
 cases c with
 |true=>exact hb wh ah s1 σ H1 Q I1 q1
 |false=>exact⟨H1,I1,q1⟩
theorem pw_or(ha:PT X a tA)(hb:PW X (.BoolOp .Or (b::rest) pos) tB'):PW X (.BoolOp .Or (a::b::rest) pos) (tOr tA tB'):=by
 intro wh ah s σ H Q I h;refine isTrue_or (bJ (ha ah s σ H _ I h) λc s1 ⟨H1,I1,q1⟩=>?_)
 cases c with
 |true=>exact⟨H1,I1,q1⟩
 |false=>exact hb wh ah s1 σ H1 Q I1 q1
theorem Ej(ha:PT X a tA):PT X (.UnaryOp .Not a pos) (tNot tA):=by intro ah s σ H Q I h;exact isTrue_not (ha ah s σ H (λc H1=>Q (!c) H1) I h)
noncomputable def Xd(ta tb:TE):TE:=λσ H Q=>ta σ H λx H1=>∃c,x=.bl c/\if c=true then tb σ H1 Q else Q (.bl false) H1
noncomputable def tOrV(ta tb:TE):TE:=λσ H Q=>ta σ H λx H1=>∃c,x=.bl c/\if c=true then Q (.bl true) H1 else tb σ H1 Q
def Xe(ta:TE):TE:=λσ H Q=>ta σ H λx H1=>∃c,x=.bl c/\Q (.bl (!c)) H1
theorem QJ{op}(h:PE X a t):PE X (.BoolOp op [a] pos) t:=λah s σ H Q I hw=>BoolOp_one (h ah s σ H Q I hw)
theorem Ek(ha:PE X a ta)(hb:PE X (.BoolOp .And (b::rest) pos) tb):PE X (.BoolOp .And (a::b::rest) pos) (Xd ta tb):=by
 intro ah s σ H Q I h;refine BoolOp_and (bJ (ha ah s σ H _ I h) λv s1 ⟨x,H1,I1,r1,q1⟩=>?_)
 obtain⟨c,rfl,q1⟩:=q1;cases r1;refine mI ?_;cases c with
 |true=>exact hb ah s1 σ H1 Q I1 q1
 |false=>exact⟨.bl false,H1,I1,rfl,q1⟩
theorem Pj(ha:PE X a ta)(hb:PE X (.BoolOp .Or (b::rest) pos) tb):PE X (.BoolOp .Or (a::b::rest) pos) (tOrV ta tb):=by
 intro ah s σ H Q I h;refine BoolOp_or (bJ (ha ah s σ H _ I h) λv s1 ⟨x,H1,I1,r1,q1⟩=>?_)
 obtain⟨c,rfl,q1⟩:=q1;cases r1;refine mI ?_;cases c with
 |false=>exact hb ah s1 σ H1 Q I1 q1
 |true=>exact⟨.bl true,H1,I1,rfl,q1⟩
theorem QK(ha:PE X a ta):PE X (.UnaryOp .Not a pos) (Xe ta):=by
 intro ah s σ H Q I h;refine UnaryOp_ (bJ (ha ah s σ H _ I h) λv s1 ⟨x,H1,I1,r1,q1⟩=>?_)
 obtain⟨c,rfl,q1⟩:=q1;cases r1;exact not_of (mI ⟨.bl (!c),H1,I1,rfl,q1⟩)
noncomputable def tIf(t:TT)(ta tb:TE):TE:=λσ H Q=>t σ H λc H1=>if c=true then ta σ H1 Q else tb σ H1 Q
theorem uS{c:Expr}(hc:PT X c tA)(ha:PE X a ta)(hb:PE X b tb):PE X (.IfExp c a b pos) (tIf tA ta tb):=by
 intro ah s σ H Q I h;refine wpAny_IfExp (bJ (hc ah s σ H _ I h) λd s1 ⟨H1,I1,q1⟩=>?_)
 cases d with
 |true=>exact ha ah s1 σ H1 Q I1 q1
 |false=>exact hb ah s1 σ H1 Q I1 q1
end
def bN(K:Frag)(H:Hp)(a:Addr)(xs:List V):Prop:=
 Rd H a (.lst xs)\/
  ∃(o:Obj) (its:Array Value) (n:Nat),K.lookup a=some o/\o.cls=.type "list" /\o.dict=none/\o.data=.seq its n/\its.size<=sizeLine/\Vals xs its.toList
def fC(K:Frag)(H:Hp)(a:Addr)(xs:List V):Prop:=
 Rd H a (.tup xs)\/
  ∃(o:Obj) (its:Array Value) (n:Nat),K.lookup a=some o/\o.cls=.type "tuple" /\o.data=.seq its n/\its.size<=sizeLine/\Vals xs its.toList
noncomputable def absV:Value->Option V
 |.none=>some .non
 |.bool b=>some (.bl b)
 |.int i _=>some (.int i)
 |.str x _=>some (.str x)
 |.bytes b _=>some (.Qz b)
 |.float b _=>some (.flt b)
 |.ref a=>some (.ref a)
 |.type n=>some (.ty n)
 |_=>none
theorem RelV.abs(r:RelV x u):absV u=some x:=by
 cases x with
 |non=>cases r;rfl
 |bl _=>cases r;rfl
 |int _=>obtain⟨t,rfl⟩:=r;rfl
 |str _=>obtain⟨t,rfl⟩:=r;rfl
 |Qz _=>obtain⟨t,rfl⟩:=r;rfl
 |flt _=>obtain⟨t,rfl⟩:=r;rfl
 |ref _=>cases r;rfl
 |ty _=>cases r;rfl
theorem RelV.inj{x y:V}{u:Value}(r:RelV x u)(q:RelV y u):x=y:=oC (r.abs.symm.trans q.abs)
theorem Vals.inj:∀{xs ys:List V}{us:List Value},Vals xs us->Vals ys us->xs=ys
 |_,_,_,.nil,.nil=>rfl
 |_,_,_,.cons r t,.cons r' t'=>by rw[r.inj r',Vals.inj t t']
section
variable{X:Cx}{ah:List (Addr×Obj)}{σ:St}{H:Hp}{s:Shared}{a:Addr}{xs ys:List V}
theorem bN.of{K:Frag}(h:H a=some (.lst xs)):bN K H a xs:=.inl (.inl h)
theorem Inv.list(I:Inv X ah σ H s)(h:bN X.K H a xs):∃its:List Value,Vals xs its/\PlainL s.heap a its.toArray/\xs.length<=sizeLine:=by
 rcases h with h |⟨o,its,n,hk,hc,hd,hs,hz,r⟩
 . obtain⟨z,its,n,r,e⟩:=h.ok I.hok;exact⟨its,r,⟨_,n,e,rfl,rfl,rfl⟩,z⟩
 .
  refine⟨its.toList,r,⟨o,n,I.mR a o hk,hc,hd,by simpa using hs⟩,?_⟩
  have e:=r.length;simp only[n0]at e;lia
theorem Inv.tuple(I:Inv X ah σ H s)(h:fC X.K H a xs):∃its:List Value,Vals xs its/\IsTup s.heap a its.toArray/\xs.length<=sizeLine:=by
 rcases h with h |⟨o,its,n,hk,hc,hs,hz,r⟩
 . obtain⟨z,its,r,p⟩:=h.ok I.hok;exact⟨its,r,p.tup,z⟩
 .
  refine⟨its.toList,r,⟨o,I.mR a o hk,hc,n,by simpa using hs⟩,?_⟩
  have e:=r.length;simp only[n0]at e;lia
theorem Inv.uT(I:Inv X ah σ H s)(h:bN X.K H a xs)(h':bN X.K H a ys):xs=ys:=by
 obtain⟨its,r,⟨o,n,e,_,_,d⟩,_⟩:=I.list h;obtain⟨its',r',⟨o',n',e',_,_,d'⟩,_⟩:=I.list h';rw[e]at e';cases e';rw[d]at d';injection d' with d1 _;have:its=its':=by simpa using congrArg Array.toList d1
 subst this;exact r.inj r'
theorem Inv.qL(I:Inv X ah σ H s)(h:fC X.K H a xs)(h':fC X.K H a ys):xs=ys:=by
 obtain⟨its,r,⟨o,e,_,n,d⟩,_⟩:=I.tuple h;obtain⟨its',r',⟨o',e',_,n',d'⟩,_⟩:=I.tuple h';rw[e]at e';cases e';rw[d]at d';injection d' with d1 _;have:its=its':=by simpa using congrArg Array.toList d1
 subst this;exact r.inj r'
end
abbrev Cx.wish(X:Cx)(E:Value->Shared->Prop):Cx:={ X with xe:=E}
abbrev Cx.iS(X:Cx):Cx:=X.wish λ_ _=>False
theorem Cx.Ok.wish{X:Cx}(ok:X.Ok)(E:Value->Shared->Prop):(X.wish E).Ok:=
 ⟨ok.mod,ok.kind,ok.glob,ok.blt,ok.above,ok.inj,ok.has,ok.QD,ok.hd,ok.frames,ok.stk,ok.Wf,ok.bs,ok.Eg,ok.uR,ok.xA,ok.jR,ok.J6⟩
theorem Cx.Ok.cg{X:Cx}{E:Value->Shared->Prop}(ok:(X.wish E).Ok):X.Ok:=
 ⟨ok.mod,ok.kind,ok.glob,ok.blt,ok.above,ok.inj,ok.has,ok.QD,ok.hd,ok.frames,ok.stk,ok.Wf,ok.bs,ok.Eg,ok.uR,ok.xA,ok.jR,ok.J6⟩
section
variable{X:Cx}{ah:List (Addr×Obj)}{σ:St}{H:Hp}{s:Shared}{E:Value->Shared->Prop}
theorem Inv.wish(I:Inv X ah σ H s)(E:Value->Shared->Prop):Inv (X.wish E) ah σ H s:=⟨I.ok.wish E,I.os,I.bare,I.base,I.loc,I.cell,I.free,I.dz,I.pin,I.hok,I.len⟩
theorem Inv.cg(I:Inv (X.wish E) ah σ H s):Inv X ah σ H s:=⟨I.ok.cg,I.os,I.bare,I.base,I.loc,I.cell,I.free,I.dz,I.pin,I.hok,I.len⟩
theorem SP.cg(h:SP (X.wish E) ah D f s'):SP X ah D f s':=by
 cases f with
 |next=>obtain⟨σ',H',I,q⟩:=h;exact⟨σ',H',I.cg,q⟩
 |brk=>obtain⟨σ',H',I,q⟩:=h;exact⟨σ',H',I.cg,q⟩
 |cont=>obtain⟨σ',H',I,q⟩:=h;exact⟨σ',H',I.cg,q⟩
 |ret u=>obtain⟨v,σ',H',I,r,q⟩:=h;exact⟨v,σ',H',I.cg,r,q⟩
theorem PE.iS(h:PE X.iS e t):PE X e t:=λah s σ H Q I hw=>
 i9 (h ah s σ H Q (I.wish _) hw) (λ_ _ ⟨v,H',I',r,q⟩=>⟨v,H',I'.cg,r,q⟩) λ_ _ z=>False.elim z
theorem PT.iS(h:PT X.iS e t):PT X e t:=λah s σ H Q I hw=>
 i9 (h ah s σ H Q (I.wish _) hw) (λ_ _ ⟨H',I',q⟩=>⟨H',I'.cg,q⟩) λ_ _ z=>False.elim z
theorem sD.iS{st:List Stmt}{t:TS}(h:sD X.iS st t):sD X st t:=λah s σ H D I hw=>
 i9 (h ah s σ H D (I.wish _) hw) (λ_ _ q=>q.cg) λ_ _ z=>False.elim z
end
section
variable{X:Cx}{st:Stmt}{rest:List Stmt}{t u:TS}{e:Expr}{te:TE}{pos:Pos}
def Xg:TS:=λD σ H=>D.nx σ H
def Xh(t u:TS):TS:=λD σ H=>t { D with nx:=u D} σ H
theorem J8:sD X [] Xg:=λ_ _ σ H _ I h=>wpAny_execs_nil ⟨σ,H,I,h⟩
theorem dY(h1:PS X st t)(h2:sD X rest u):sD X (st::rest) (Xh t u):=by
 intro ah s σ H D I h;refine AW (bJ (h1 ah s σ H { D with nx:=u D} I h) λf s1 q=>?_)
 cases f with
 |next=>obtain⟨σ',H',I',q⟩:=q;exact h2 ah s1 σ' H' D I' q
 |ret v=>exact q
 |brk=>exact q
 |cont=>exact q
theorem J9(h1:PS X st t):sD X [st] t:=by
 intro ah s σ H D I h;refine AW (bJ (h1 ah s σ H D I h) λf s1 q=>?_)
 cases f with
 |next=>exact wpAny_execs_nil q
 |ret v=>exact q
 |brk=>exact q
 |cont=>exact q
theorem Inv.quiet{ah:List (Addr×Obj)}{σ:St}{H:Hp}{s:Shared}(I:Inv X ah σ H s):interactive X.env=false:=by simp[interactive,I.ok.kind]
def Xi(te:TE):TS:=λD σ H=>te σ H λ_ H1=>D.nx σ H1
theorem sF(he:PE X e te)(hs:swapsWith e none pos.line X.env=pure false:=by rfl):PS X (.Expr e pos) (Xi te):=by intro ah s σ H D I h;exact wpAny_Expr_any (bJ (he ah s σ H _ I h) λv s1 ⟨x,H1,I1,r1,q1⟩=>⟨σ,H1,I1,q1⟩) I.quiet hs
def tRet(te:TE):TS:=λD σ H=>te σ H D.rt
theorem xD(he:PE X e te):PS X (.Return (some e) pos) (tRet te):=by intro ah s σ H D I h;exact wpAny_Return_some (bJ (he ah s σ H _ I h) λv s1 ⟨x,H1,I1,r1,q1⟩=>⟨x,σ,H1,I1,r1,q1⟩)
noncomputable def tIfS(c:TT)(t u:TS):TS:=λD σ H=>c σ H λb H1=>if b=true then t D σ H1 else u D σ H1
theorem nW{c:Expr}{a b:List Stmt}{tc:TT}(hc:PT X c tc)(ha:sD X a t)(hb:sD X b u):PS X (.If c a b pos) (tIfS tc t u):=by
 intro ah s σ H D I h;refine wpAny_If (bJ (hc ah s σ H _ I h) λd s1 ⟨H1,I1,q1⟩=>?_)
 cases d with
 |true=>exact ha ah s1 σ H1 D I1 q1
 |false=>exact hb ah s1 σ H1 D I1 q1
def QL:TS:=λ_ _ _=>False
theorem bz:sD X jq QL:=λ_ _ _ _ _ _ h=>h.elim
end
abbrev TG:=V->St->Hp->(St->Hp->Prop)->Prop
abbrev Pn:=List V->St->Hp->(St->Hp->Prop)->Prop
def PG(X:Cx)(target:Expr)(t:TG):Prop:=
 ∀(ah:List (Addr×Obj)) (s:Shared) (σ:St) (H:Hp) (v:V) (u:Value) (Q:St->Hp->Prop),Inv X ah σ H s->RelV v u->t v σ H Q->
  wpAny (model X.prog X.w) X.A (assign target X.env u) (λ_ s'=>∃σ' H',Inv X ah σ' H' s'/\Q σ' H') X.xe s
def Wg(X:Cx)(ts:List Expr)(t:Pn):Prop:=
 ∀(ah:List (Addr×Obj)) (s:Shared) (σ:St) (H:Hp) (vs:List V) (us:List Value) (Q:St->Hp->Prop),Inv X ah σ H s->Vals vs us->t vs σ H Q->
  wpAny (model X.prog X.w) X.A (assignInOrder ((assignEach ts X.env).map (·.2)) us) (λ_ s'=>∃σ' H',Inv X ah σ' H' s'/\Q σ' H') X.xe s
abbrev QM:=V->V->V->Hp->(Hp->Prop)->Prop
def Xj(X:Cx)(t:QM):Prop:=
 ∀(ah:List (Addr×Obj)) (s:Shared) (σ:St) (H:Hp) (o i v:V) (ov iv u:Value) (Q:Hp->Prop),Inv X ah σ H s->RelV o ov->RelV i iv->RelV v u->t o i v H Q->
  wpAny (model X.prog X.w) X.A (setItem ov iv u) (λ_ s'=>∃H',Inv X ah σ H' s'/\Q H') X.xe s
abbrev TIp:=V->V->Hp->VK->Prop
def PIp(X:Cx)(op:Operator)(t:TIp):Prop:=
 ∀(ah:List (Addr×Obj)) (s:Shared) (σ:St) (H:Hp) (x y:V) (v u:Value) (Q:VK),Inv X ah σ H s->RelV x v->RelV y u->t x y H Q->
  wpAny (model X.prog X.w) X.A (inplaceOp op v u) (EP X ah σ Q) X.xe s
section
variable{X:Cx}{pos:Pos}
def uU(i:Nat):TG:=λv σ H Q=>Q (σ.set i (some v)) H
theorem sG(hN:X.N.Nodup)(hi:X.N[i]?=some x)(hx:Loc X.env.scope x)(hf:X.fn x=true\/X.env.scope.names.lookup x=some .local:=by first |exact .inl rfl |exact .inr rfl |assumption):PG X (.Name x pos) (uU i):=by intro ah s σ H v u Q I r h;exact wpAny_assign_Name (jS I hN hi hx r (λs' I'=>⟨_,H,I',h⟩) hf)
def gNil:Pn:=λvs σ H Q=>vs=[]/\Q σ H
noncomputable def Xk(t:TG)(u:Pn):Pn:=λvs σ H Q=>∃v r,vs=v::r/\t v σ H λσ' H'=>u r σ' H' Q
theorem Ka:Wg X [] gNil:=by intro ah s σ H vs us Q I r h;obtain⟨e,h⟩:=h;subst e;cases r;exact assignInOrder_nil ⟨σ,H,I,h⟩
theorem El{e:Expr}{es:List Expr}{t:TG}{u:Pn}(h1:PG X e t)(h2:Wg X es u)
  (hs:(assignEach (e::es) X.env).map (·.2)=assign e X.env::(assignEach es X.env).map (·.2):=by rfl):Wg X (e::es) (Xk t u):=by
 intro ah s σ H vs us Q I r h;obtain⟨v,vr,e1,h⟩:=h;subst e1;cases r with
 |cons r rr=>
  rw[hs];refine assignInOrder_cons (bJ (h1 ah s σ H _ _ _ I r h) λ_ s1 ⟨σ1,H1,I1,q1⟩=>?_)
  exact h2 ah s1 σ1 H1 _ _ Q I1 rr q1
def gTup(K:Frag)(n:Nat)(t:Pn):TG:=λv σ H Q=>∃a xs,v=.ref a/\fC K H a xs/\xs.length=n/\t xs σ H Q
theorem QS(hc:X.calm=true)(h:Wg X es t)
  (hn:(assignEach es X.env).length=n:=by rfl) (cA:(assignEach es X.env).findIdx? (·.1)=none:=by rfl):PG X (.Tuple es k pos) (gTup X.K n t):=by
 intro ah s σ H v u Q I r hw;obtain⟨a,xs,e1,hq,hl,hw⟩:=hw;subst e1;cases r;obtain⟨its,rv,ht,hz⟩:=I.tuple hq;refine assign_Tuple_tuple (I.ok.hd hc) ht (by simp[hn,<- hl,rv.length]) cA λh' hx=>?_
 have I1:Inv X ah σ H { s with heap:=h'}:=I.kept (t':=s.toks) λb o e=>hx b o (hU (eM e)) e
 exact h ah _ σ H xs _ Q I1 (by simpa using rv) hw
noncomputable def gSub(to ti:TE)(t:QM):TG:=λv σ H Q=>to σ H λo H1=>ti σ H1 λi H2=>t o i v H2 λH3=>Q σ H3
theorem QT{o i:Expr}{to ti:TE}{t:QM}(ho:PE X o to)(hi:PE X i ti)(hs:Xj X t)
  (ha:∀v,assign (.Subscript o i pos) X.env v=(do
   let ov <- holding [v] (eval o X.env)
   let iv <- holding [v,ov] (eval i X.env)
   standAt pos
   holding [v,ov,iv] (setItem ov iv v)
   release [v,ov,iv] []):=by intro _;rfl):PG X (.Subscript o i pos) (gSub to ti t):=by
 intro ah s σ H v u Q I r h;rw[ha];refine aS (lS (bJ (ho ah s σ H _ I h) λov s1 ⟨x,H1,I1,r1,q1⟩=>?_))
 refine aS (lS (bJ (hi ah s1 σ H1 _ I1 q1) λiv s2 ⟨y,H2,I2,r2,q2⟩=>?_))
 refine aS (yB (aS (lS (bJ (hs ah s2 σ H2 x y v ov iv u _ I2 r1 r2 r q2) λ_ s3 ⟨H3,I3,q3⟩=>?_))))
 exact wpAny_release ⟨σ,H3,I3,q3⟩
def Kc(te:TE)(g:TG):TS:=λD σ H=>te σ H λx H1=>g x σ H1 D.nx
theorem QV{tg e:Expr}{te:TE}{g:TG}(he:PE X e te)(hg:PG X tg g)(hs:swapsWithSole [tg] e pos.line X.env=pure false:=by rfl)(hw:swappedStores [tg] e X.env=pure none:=by rfl)
  (h1:(assignEach [tg] X.env).map (·.2)=[assign tg X.env]:=by rfl):PS X (.Assign [tg] e pos) (Kc te g):=by
 intro ah s σ H D I h;refine wpAny_Assign_stores (bJ (he ah s σ H _ I h) λv s1 ⟨x,H1,I1,r1,q1⟩=>?_) hs hw
 rw[h1];exact bJ (hg ah s1 σ H1 x v _ I1 r1 q1) λ_ s2 q=>q
theorem nX{i:Nat}{x:Str}{e:Expr}{te:TE}{pos':Pos}(hN:X.N.Nodup)(hi:X.N[i]?=some x)(hx:Loc X.env.scope x)(he:PE X e te)(hs:swapsWith e (some (.Name x pos')) pos.line X.env=pure false:=by rfl)(hf:X.fn x=true\/X.env.scope.names.lookup x=some .local:=by first |exact .inl rfl |exact .inr rfl |assumption) :
  PS X (.Assign [.Name x pos'] e pos) (Kc te (uU i)):=by
 intro ah s σ H D I h;refine wpAny_Assign_Name (bJ (he ah s σ H _ I h) λv s1 ⟨y,H1,I1,r1,q1⟩=>?_) hs
 exact jS I1 hN hi hx r1 (λs2 I2=>⟨_,H1,I2,q1⟩) hf
noncomputable def tAug(i:Nat)(te:TE)(ti:TIp):TS:=λD σ H=>∃x,σ[i]?=some (some x)/\te σ H λy H1=>ti x y H1 λz H2=>D.nx (σ.set i (some z)) H2
theorem Em{i:Nat}{x:Str}{e:Expr}{te:TE}{op:Operator}{ti:TIp}{pos':Pos}(hN:X.N.Nodup)(hi:X.N[i]?=some x)(hx:Loc X.env.scope x)(he:PE X e te)(ho:PIp X op ti)(hf:X.fn x=true\/X.env.scope.names.lookup x=some .local:=by first |exact .inl rfl |exact .inr rfl |assumption) :
  PS X (.AugAssign (.Name x pos') op e pos) (tAug i te ti):=by
 intro ah s σ H D I h;obtain⟨v,e1,h⟩:=h;obtain⟨m,hn,hl⟩:=I.loc;have vis:qk X.env.scope x:=by rcases hx with k |k;exact .inl k;exact .inr (.inl k)
 obtain⟨u,r,l⟩:=hl i x v hi e1 vis;refine wpAny_AugAssign_Name ?_;have go:wpAny (model X.prog X.w) X.A (eval e X.env) (λw s₂=>wpAny (model X.prog X.w) X.A (inplaceOp op u w) (λr s₃=>wpAny (model X.prog X.w) X.A (storeName X.env x r) (λ_=>SP X ah D .next) X.xe s₃) X.xe s₂) X.xe s:=by
  refine bJ (he ah s σ H _ I h) λw s1 ⟨y,H1,I1,r1,q1⟩=>?_
  refine bJ (ho ah s1 σ H1 v y u w _ I1 r r1 q1) λz s2 ⟨zv,H2,I2,r2,q2⟩=>?_
  exact jS I2 hN hi hx r2 (λs3 I3=>⟨_,H2,I3,q2⟩) hf
 rcases l with ⟨hk,hm⟩ |⟨hk,c,hc,hcell⟩
 . exact wpAny_loadName_local I.ok.kind hk hn hm go
 .
  rcases hk with hk |hk
  . exact wpAny_loadName_cell I.ok.kind hk hc hcell go
  .
   rcases hx with k |k
   . have:X.env.scope.names.lookup x=some .free:=hk;rw[k]at this;cases this
   . have:X.env.scope.names.lookup x=some .free:=hk;rw[k]at this;cases this
end
section
variable{X:Cx}{pos:Pos}
noncomputable def QW(c:TT)(tb:TS):TS:=λD σ H=>∃W:Nat->St->Hp->Prop,(∃m,W m σ H)/\∀m σ H,W m σ H->
 c σ H λb H1=>if b=true then ∃N:St->Hp->Prop,(∀σ' H',N σ' H'->∃m',m'<m/\W m' σ' H')/\tb { D with nx:=N,ct:=N,bk:=D.nx} σ H1 else D.nx σ H1
theorem En{c:Expr}{body:List Stmt}{tc:TT}{tb:TS}(hp:PassesOwn (model X.prog X.w) X.A X.env X.xe)(hc:PT X c tc)(hb:sD X body tb):PS X (.While c body [] pos) (QW tc tb):=by
 intro ah s σ H D I h;obtain⟨W,⟨m0,w0⟩,turn⟩:=h;refine wpAny_While (codeAny_whileLoop (λn s'=>∃σ' H',Inv X ah σ' H' s'/\W n σ' H') ?_ m0 ⟨σ,H,I,w0⟩)
 rintro n s1 ⟨σ1,H1,I1,w1⟩;refine Ap hp (bJ (hc ah s1 σ1 H1 _ I1 (turn n σ1 H1 w1)) λb s2 ⟨H2,I2,q2⟩=>?_)
 cases b with
 |true=>
  obtain⟨N,hN,q2⟩:=q2;rw[gL rfl];refine Ap hp (bJ (hb ah s2 σ1 H2 _ I2 q2) λf s3 q3=>?_)
  cases f with
  |next=>obtain⟨σ3,H3,I3,n3⟩:=q3;obtain⟨m',hm,w3⟩:=hN σ3 H3 n3;exact⟨m',hm,σ3,H3,I3,w3⟩
  |cont=>obtain⟨σ3,H3,I3,n3⟩:=q3;obtain⟨m',hm,w3⟩:=hN σ3 H3 n3;exact⟨m',hm,σ3,H3,I3,w3⟩
  |brk=>exact q3
  |ret v=>exact q3
 |false=>rw[hZ i5];exact wpAny_execs_nil ⟨σ1,H2,I2,q2⟩
end
structure It where
 go:Nat->Hp->Prop
 Xl:Nat->Hp->V->Hp->Prop
 stop:Nat->Hp->Prop
def jT(X:Cx)(ah:List (Addr×Obj))(H:Hp)(b:Addr):Prop:=
 H b=none/\b≠X.env.locals/\b∉X.fs/\(b∈X.ex\/X.s₀⁻¹<=b)/\(∀x c,X.env.cells.lookup x=some c->c≠b)/\∀p∈X.pn++ah,p.1≠b
theorem Inv.Eo{X:Cx}{ah:List (Addr×Obj)}{σ:St}{H H':Hp}{s:Shared}{b:Addr}(I:Inv X ah σ H s)(hb:s⁻¹<=b)(hn:H' b=none):jT X ah H' b:=by
 refine⟨hn,AB (eQ I.lt hb),I.nofs hb,.inr (qS I.sz hb),λx c e z=>?_,λp hp z=>?_⟩
 . obtain⟨v,q⟩:=I.cell x c e;exact absurd (eQ q.lt (by rw[z];exact hb)) (l9 _)
 . exact absurd (eQ (eM (I.pin p hp).1) (by rw[z];exact hb)) (l9 _)
structure Turn(P:Program)(w:World)(K:Frag)(tg:Expr)(J:It)(fp:List Addr)(it:Addr)(tn:Nat->Heap->Prop):Prop where
 mem:it∈fp
 obj:∀i h,tn i h->∀b∈fp,∃o,h.get? b=some o/\∀v,o.data≠.cell v
 keep:∀i h h',tn i h->(∀b∈fp,∀o,h.get? b=some o->h'.get? b=some o)->tn i h'
 item:∀(X:Cx),X.prog=P->X.w=w->X.K=K->X.calm=true->∀(i:Nat) (ah:List (Addr×Obj)) (s:Shared) (σ:St) (H:Hp) (E:Value->Shared->Prop),Inv X ah σ H s->(∀b∈fp,jT X ah H b)->tn i s.heap->J.go i H->
  wpAny (model P w) X.A (pyNext (.ref it)) (λr s1=>∃u,r=some u/\
   wpAny (model P w) X.A (letOwnedTupleGo tg (.ref it) u) (λ_ s2=>∃x H',Inv X ah σ H' s2/\RelV x u/\J.Xl i H x H'/\tn (i+1) s2.heap/\∀b∈fp,H' b=none) E s1) E s
 done:∀(X:Cx),X.prog=P->X.w=w->X.K=K->X.calm=true->∀(i:Nat) (ah:List (Addr×Obj)) (s:Shared) (σ:St) (H:Hp) (E:Value->Shared->Prop),Inv X ah σ H s->(∀b∈fp,jT X ah H b)->tn i s.heap->J.stop i H->
  wpAny (model P w) X.A (pyNext (.ref it)) (λr s1=>r=none/\Inv X ah σ H s1) E s
 self:∀(A:Around) (i:Nat) (s:Shared) (Q:Value->Shared->Prop) (E:Value->Shared->Prop),tn i s.heap->Q (.ref it) s->wpAny (model P w) A (pyIter (.ref it)) Q E s
abbrev TI:=St->Hp->(It->Hp->Prop)->Prop
def PIE(X:Cx)(ah:List (Addr×Obj))(σ:St)(tg:Expr)(R:It->Hp->Prop)(itv:Value)(s2:Shared):Prop:=
 ∃(it:Addr) (fp:List Addr) (tn:Nat->Heap->Prop) (J:It) (H':Hp),itv=.ref it/\Inv X ah σ H' s2/\Turn X.prog X.w X.K tg J fp it tn/\tn 0 s2.heap/\(∀b∈fp,jT X ah H' b)/\R J H'
def PI(X:Cx)(tg iter:Expr)(wi:TI):Prop:=
 ∀(ah:List (Addr×Obj)) (s:Shared) (σ:St) (H:Hp) (R:It->Hp->Prop),Inv X ah σ H s->wi σ H R->
  wpAny (model X.prog X.w) X.A (eval iter X.env) (λv s1=>wpAny (model X.prog X.w) X.A (pyIter v) (PIE X ah σ tg R) X.xe s1) X.xe s
theorem Ep(ho:s.heap.get? it=some o)(hc:o.cls=.type n)(hd:o.data=.fields vs)
  (hn:["enumerate", "zip", "dict_itemiterator", "dict_reverseitemiterator", "odict_iterator", "itertools.zip_longest", "itertools.pairwise"].contains n=false) (hQ:Q () s):wpAny M A (letOwnedTupleGo tg (.ref it) u) Q E s:=by
 unfold letOwnedTupleGo;cases tg <;> first
  |exact d0 hQ
  | (cases u <;> first
    |exact d0 hQ
    | (refine aS (wpAny_load ho ?_)
       rw[hc,hd];show wpAny M A (if (["enumerate", "zip", "dict_itemiterator", "dict_reverseitemiterator", "odict_iterator", "itertools.zip_longest", "itertools.pairwise"].contains n&&vs[0]?==some (rawInt _))=true then _ else _) Q E s
       rw[hZ (by intro h;rw[hn,Bool.false_and]at h;cases h)]
       exact d0 hQ))
def Itl(K:Frag)(a:Addr):It:=
 ⟨λi H=>∃xs x,bN K H a xs/\xs[i]?=some x,λi H x H'=>H'=H/\∀xs,bN K H a xs->xs[i]?=some x,λi H=>∃xs,bN K H a xs/\xs.length<=i⟩
def Itt(K:Frag)(a:Addr):It:=
 ⟨λi H=>∃xs x,fC K H a xs/\xs[i]?=some x,λi H x H'=>H'=H/\∀xs,fC K H a xs->xs[i]?=some x,λi H=>∃xs,fC K H a xs/\xs.length<=i⟩
noncomputable def QX(lo:Int)(n:Nat):It:=⟨λi _=>i<n,λi H x H'=>H'=H/\x=.int (lo+i),λi _=>n<=i⟩
theorem Ay{P:Program}{w:World}{K:Frag}{tg:Expr}(a it:Addr):Turn P w K tg (Itl K a) [it] it (λi h=>h.IsListIter it a i) where
 mem:=by simp
 obj:=λi h st b hb=>by
  have e:b=it:=by simpa using hb
  subst e;obtain⟨o,e,c,d⟩:=st;exact⟨o,e,λv z=>by rw[d]at z;cases z⟩
 keep:=λi h h' st k=>st.at λo e=>k it ⋯ o e
 item:=by
  intro X hP hw hK hc i ah s σ H E I hf st hg;subst hP hw hK;obtain⟨xs,x,hq,hx⟩:=hg;obtain⟨its,rv,p,hz⟩:=I.list hq;obtain⟨u,hu,ru⟩:=rv.get hx;obtain⟨f0,f1,f2,f3,f4,f5⟩:=hf it ⋯;refine wpAny_pyNext_list_item st p.isList (x:=u) (by simpa using hu) λh' st' sb=>?_
  have I1:Inv X ah σ H { s with heap:=h'}:=I.turned (t':=s.toks) (λb o hb e=>(sb.2 b hb).trans e) f0 f1 f3 f4 f5
  obtain⟨o,e,c,d⟩:=id st';exact⟨u,rfl,Ep (s:={ s with heap:=h'}) e c d ⋯ ⟨x,H,I1,ru,⟨rfl,λys hy=>by rw[I.uT hy hq];exact hx⟩,st',λb hb=>(hf b hb).1⟩⟩
 done:=by intro X hP hw hK hc i ah s σ H E I hf st hg;subst hP hw hK;obtain⟨xs,hq,hx⟩:=hg;obtain⟨its,rv,p,hz⟩:=I.list hq;obtain⟨f0,f1,f2,f3,f4,f5⟩:=hf it ⋯;have hl:=rv.length;exact wpAny_pyNext_list_end (I.ok.hd hc) st p.isList (by simp;lia) λh' eb=>⟨rfl,I.turned (t':=s.toks) (λb o hb e=>eb b o hb e) f0 f1 f3 f4 f5⟩
 self:=λ_ _ _ _ _ st h=>wpAny_pyIter_listiter st h
theorem xE{P:Program}{w:World}{K:Frag}{tg:Expr}(a it:Addr):Turn P w K tg (Itt K a) [it] it (λi h=>h.IsTupleIter it a i) where
 mem:=by simp
 obj:=λi h st b hb=>by
  have e:b=it:=by simpa using hb
  subst e;obtain⟨o,e,c,d⟩:=st;exact⟨o,e,λv z=>by rw[d]at z;cases z⟩
 keep:=λi h h' st k=>st.at λo e=>k it ⋯ o e
 item:=by
  intro X hP hw hK hc i ah s σ H E I hf st hg;subst hP hw hK;obtain⟨xs,x,hq,hx⟩:=hg;obtain⟨its,rv,p,hz⟩:=I.tuple hq;obtain⟨u,hu,ru⟩:=rv.get hx;obtain⟨f0,f1,f2,f3,f4,f5⟩:=hf it ⋯;refine wpAny_pyNext_tuple_item st (show s.heap.IsTuple a its.toArray from p) (x:=u) (by simpa using hu) λh' st' sb=>?_
  have I1:Inv X ah σ H { s with heap:=h'}:=I.turned (t':=s.toks) (λb o hb e=>(sb.2 b hb).trans e) f0 f1 f3 f4 f5
  obtain⟨o,e,c,d⟩:=id st';exact⟨u,rfl,Ep (s:={ s with heap:=h'}) e c d ⋯ ⟨x,H,I1,ru,⟨rfl,λys hy=>by rw[I.qL hy hq];exact hx⟩,st',λb hb=>(hf b hb).1⟩⟩
 done:=by intro X hP hw hK hc i ah s σ H E I hf st hg;subst hP hw hK;obtain⟨xs,hq,hx⟩:=hg;obtain⟨its,rv,p,hz⟩:=I.tuple hq;obtain⟨f0,f1,f2,f3,f4,f5⟩:=hf it ⋯;have hl:=rv.length;exact wpAny_pyNext_tuple_end (I.ok.hd hc) st (show s.heap.IsTuple a its.toArray from p) (by simp;lia) λh' eb=>⟨rfl,I.turned (t':=s.toks) (λb o hb e=>eb b o hb e) f0 f1 f3 f4 f5⟩
 self:=λ_ _ _ _ _ st h=>wpAny_pyIter_tupleiter st h
theorem xF{P:Program}{w:World}{K:Frag}{tg:Expr}(it:Addr)(lo:Int)(n:Nat):Turn P w K tg (QX lo n) [it] it (λi h=>IsRangeIter h it (lo+(i:Nat) * 1) ((n:Int) - (i:Nat)) 1) where
 mem:=by simp
 obj:=λi h st b hb=>by
  have e:b=it:=by simpa using hb
  subst e;exact⟨_,st,λv z=>by
   have z':Data.fields _=Data.cell v:=z;cases z'⟩
 keep:=λi h h' st k=>k it ⋯ _ st
 item:=by
  intro X hP hw hK hc i ah s σ H E I hf st hg;subst hP hw hK;obtain⟨f0,f1,f2,f3,f4,f5⟩:=hf it ⋯;have W:=Walks.range (prog:=X.prog) (w:=X.w) (I.ok.hd hc) it lo 1 n;refine W.item i s _ _ hg st λv h' tk hv st' kk=>?_
  obtain⟨t,rfl⟩:=hv;have I1:Inv X ah σ H { s with heap:=h',toks:=tk}:=I.turned (λb o hb e=>kk b o (by simpa using hb) e) f0 f1 f3 f4 f5
  refine⟨_,rfl,Ep (s:={ s with heap:=h',toks:=tk}) (n:= "range_iterator") st' rfl rfl ⋯ ⟨.int (lo+i),H,I1,⟨t,?_⟩,⟨rfl,rfl⟩,st',λb hb=>(hf b hb).1⟩⟩
  rw[Int.mul_one]
 done:=by intro X hP hw hK hc i ah s σ H E I hf st hg;subst hP hw hK;obtain⟨f0,f1,f2,f3,f4,f5⟩:=hf it ⋯;exact wpAny_pyNext_range_end (I.ok.hd hc) st (by have:n<=i:=hg;lia) λh' eb=>⟨rfl,I.turned (t':=s.toks) (λb o hb e=>eb b o hb e) f0 f1 f3 f4 f5⟩
 self:=λ_ _ _ _ _ st h=>wpAny_pyIter_rangeiter st h
section
variable{X:Cx}{tg:Expr}
def Pp(K:Frag)(tl:TE):TI:=λσ H R=>tl σ H λx H1=>∃a,x=.ref a/\(∃xs,bN K H1 a xs)/\R (Itl K a) H1
def iTup(K:Frag)(tl:TE):TI:=λσ H R=>tl σ H λx H1=>∃a,x=.ref a/\(∃xs,fC K H1 a xs)/\R (Itt K a) H1
theorem nj{l:Expr}{tl:TE}(hl:PE X l tl):PI X tg l (Pp X.K tl):=by
 intro ah s σ H R I h;refine bJ (hl ah s σ H _ I h) λv s1 ⟨x,H1,I1,r1,q1⟩=>?_
 obtain⟨a,e,⟨xs,hq⟩,q⟩:=q1;subst e;cases r1;obtain⟨its,rv,p,hz⟩:=I1.list hq;refine At p.isList ?_;refine⟨s1⁻¹,[s1⁻¹],_,_,H1,rfl,I1.kept (t':=s1.toks) λb o e=>bP _ e,Ay a _,⟨_,eA _ rfl,rfl,rfl⟩,λb hb=>?_,q⟩
 have e:b=s1⁻¹:=by simpa using hb
 subst e;exact I1.Eo (eJ _) (I1.hok.fresh (eJ _))
theorem QZ{l:Expr}{tl:TE}(hl:PE X l tl):PI X tg l (iTup X.K tl):=by
 intro ah s σ H R I h;refine bJ (hl ah s σ H _ I h) λv s1 ⟨x,H1,I1,r1,q1⟩=>?_
 obtain⟨a,e,⟨xs,hq⟩,q⟩:=q1;subst e;cases r1;obtain⟨its,rv,p,hz⟩:=I1.tuple hq;refine yY (show s1.heap.IsTuple a its.toArray from p) ?_
 refine⟨s1⁻¹,[s1⁻¹],_,_,H1,rfl,I1.kept (t':=s1.toks) λb o e=>bP _ e,xE a _,⟨_,eA _ rfl,rfl,rfl⟩,λb hb=>?_,q⟩
 have e:b=s1⁻¹:=by simpa using hb
 subst e;exact I1.Eo (eJ _) (I1.hok.fresh (eJ _))
theorem uV{ah:List (Addr×Obj)}{σ:St}{H:Hp}{s:Shared}{R:It->Hp->Prop}{E:Value->Shared->Prop}{lo hi:Int}{t u v:Tok}{tk:Nat}(I:Inv X ah σ H s)(h1 : -(2 ^ 62)<=lo)(h2:lo<2 ^ 62)(h3 : -(2 ^ 62)<=hi)(h4:hi<2 ^ 62)
  (q:R (QX lo (hi - lo).toNat) H):wpAny (model X.prog X.w) X.A (pyIter (.ref s⁻¹)) (PIE X ah σ tg R) E { s with heap:=s.heap.push { cls:=.type "range",data:=.fields #[.int lo t,.int hi u,.int 1 v]},toks:=tk}:=by
 refine wpAny_pyIter_range (IsRange.new ..) (small_one h1 h2 h3 h4) ?_;have I1:Inv X ah σ H { s with heap:=s.heap.push { cls:=.type "range",data:=.fields #[.int lo t,.int hi u,.int 1 v]},toks:=tk}:=I.kept λb o e=>bP _ e
 refine⟨(s.heap.push { cls:=.type "range",data:=.fields #[.int lo t,.int hi u,.int 1 v]}).objs.size,[(s.heap.push { cls:=.type "range",data:=.fields #[.int lo t,.int hi u,.int 1 v]}).objs.size],_,_,H,rfl,
  I1.kept (t':=tk) λb o e=>bP _ e,xF _ lo (hi - lo).toNat,?_,λb hb=>?_,q⟩
 .
  have e1:lo+((0:Nat):Int) * 1=lo:=by simp
  have e2:(((hi - lo).toNat:Nat):Int) - ((0:Nat):Int)=Builtin.Range.rangeSize lo hi 1:=by rw[rangeSize_one];split <;> lia
  show IsRangeIter _ _ (lo+((0:Nat):Int) * 1) ((((hi - lo).toNat:Nat):Int) - ((0:Nat):Int)) 1;rw[e1,e2];exact eA _ rfl
 .
  have e:b=(s.heap.push { cls:=.type "range",data:=.fields #[.int lo t,.int hi u,.int 1 v]}).objs.size:=by simpa using hb
  subst e;exact I1.Eo (eJ _) (I1.hok.fresh (eJ _))
def Xm(ta:TA):TI:=λσ H R=>ta σ H λvs H1=>∃j:Int,vs=[.int j]/\-(2 ^ 62)<=j/\j<2 ^ 62/\R (QX 0 j.toNat) H1
def Xn(ta:TA):TI:=λσ H R=>ta σ H λvs H1=>∃i j:Int,vs=[.int i,.int j]/\(-(2 ^ 62)<=i/\i<2 ^ 62/\-(2 ^ 62)<=j/\j<2 ^ 62)/\R (QX i (j - i).toNat) H1
theorem Az{a:Expr}{ta:TA}{p pos:Pos}(hg:Gl X "range")(hm:X.mg "range"=none)(ha:PA X [a] ta)(hs:starEach [a] X.env=[(false,eval a X.env)]:=by rfl):PI X tg (.Call (.Name "range" p) [a] [] pos) (Xm ta):=by
 intro ah s σ H R I h;refine Call_ (gi I hg hm boot_range (oP (bJ (ha pos ah s σ H _ I h) λus s1 ⟨vs,H1,I1,r1,q1⟩=>?_) hs rfl))
 obtain⟨j,e,q1,q2,q⟩:=q1;subst e;cases r1 with
 |cons r rr=>cases rr;obtain⟨t,rfl⟩:=r;exact call_range_1 (uV I1 ⋯ ⋯ q1 q2 (by simpa using q))
theorem Ba{a b:Expr}{ta:TA}{p pos:Pos}(hg:Gl X "range")(hm:X.mg "range"=none)(ha:PA X [a,b] ta)(hs:starEach [a,b] X.env=[(false,eval a X.env),(false,eval b X.env)]:=by rfl)(hs2:starEach [b] X.env=[(false,eval b X.env)]:=by rfl) :
  PI X tg (.Call (.Name "range" p) [a,b] [] pos) (Xn ta):=by
 intro ah s σ H R I h;refine Call_ (gi I hg hm boot_range (oP (bJ (ha pos ah s σ H _ I h) λus s1 ⟨vs,H1,I1,r1,q1⟩=>?_) (by rw[hs,hs2]) (by rw[hs2];rfl)))
 obtain⟨i,j,e,⟨q1,q2,q3,q4⟩,q⟩:=q1;subst e;cases r1 with
 |cons r rr=>
  cases rr with
  |cons r' rr=>cases rr;obtain⟨t,rfl⟩:=r;obtain⟨t',rfl⟩:=r';exact call_range_2 (uV I1 q1 q2 q3 q4 q)
noncomputable def tFor(wi:TI)(g:TG)(tb:TS):TS:=λD σ H=>wi σ H λJ H1=>∃W:Nat->Nat->St->Hp->Prop,(∃m,W 0 m σ H1)/\∀i m σ H,W i m σ H->
 (J.stop i H/\D.nx σ H)\/(J.go i H/\∃N:St->Hp->Prop,(∀σ' H',N σ' H'->∃m',m'<m/\W (i+1) m' σ' H')/\∀x H',J.Xl i H x H'->g x σ H' λσ2 H2=>tb { D with nx:=N,ct:=N,bk:=D.nx} σ2 H2)
noncomputable def kW(fp:List Addr)(h:Heap):List (Addr×Obj):=fp.filterMap λb=>(h.get? b).map λo=>(b,o)
theorem cU{fp:List Addr}{h:Heap}{b:Addr}{o:Obj}(hb:b∈fp)(e:h.get? b=some o):(b,o)∈kW fp h:=List.mem_filterMap.mpr ⟨b,hb,by rw[e];rfl⟩
theorem Bb(hp:p∈kW fp h):p.1∈fp/\h.get? p.1=some p.2:=by
 obtain⟨b,hb,e⟩:=List.mem_filterMap.mp hp;cases q:h.get? b with
 |none=>rw[q]at e;cases e
 |some o=>rw[q]at e;have e':(b,o)=p:=oC e;subst e';exact⟨hb,q⟩
theorem Inv.pinned{ah:List (Addr×Obj)}{σ:St}{H:Hp}{s:Shared}{fp:List Addr}(I:Inv X ah σ H s)(hf:∀b∈fp,jT X ah H b)(ho:∀b∈fp,∃o,s.heap.get? b=some o/\∀v,o.data≠.cell v):Inv X (ah++kW fp s.heap) σ H s:=
 I.y9 λp hp=>(w8.mp hp).elim (λz=>I.pin p (i3 _ z)) λz=>by
  obtain⟨hb,e⟩:=Bb z;obtain⟨f0,f1,f2,_⟩:=hf p.1 hb;obtain⟨o,e',d⟩:=ho p.1 hb;rw[e]at e';cases e';exact⟨e,f0,f1,f2,d⟩
theorem Inv.gY{ah pl:List (Addr×Obj)}{σ:St}{H:Hp}{s:Shared}(I:Inv X (ah++pl) σ H s):Inv X ah σ H s:=I.y9 λp hp=>I.pin p (i3 _ (t6 _ hp))
theorem xG{iter:Expr}{body:List Stmt}{wi:TI}{g:TG}{tb:TS}{pos:Pos}(hp:PassesOwn (model X.prog X.w) X.A X.env X.xe)(hc:X.calm=true)(hi:PI X tg iter wi)(hg:PG X tg g)(hb:sD X body tb)
  (hs:∀x,foldedSetIterable iter X.env x=pure x:=by intro _;rfl):PS X (.For tg iter body [] pos) (tFor wi g tb):=by
 intro ah s σ H D I h;refine wpAny_For (bJ (hi ah s σ H _ I h) λv s1 h1=>bJ h1 λitv s2 h2=>?_) hs
 obtain⟨it,fp,tn,J,H2,e,I2,T,aI,f2,W,⟨m0,w0⟩,turn⟩:=h2;subst e;have stat:∀{H':Hp},(∀b∈fp,H' b=none)->∀b∈fp,jT X ah H' b:=λhn b hb=>⟨hn b hb,(f2 b hb).2⟩
 refine codeAny_forLoop_any (λn s'=>∃i σ' H',Inv X ah σ' H' s'/\tn i s'.heap/\(∀b∈fp,H' b=none)/\W i n σ' H') ?_ m0 ⟨0,σ,H2,I2,aI,λb hb=>(f2 b hb).1,w0⟩
 rintro n s3 ⟨i,σ3,H3,I3,dX,Pq,w3⟩;rcases turn i n σ3 H3 w3 with ⟨stop,qn⟩ |⟨go,N,hN,step⟩
 .
  refine Ap hp (bJ (T.done X rfl rfl rfl hc i ah s3 σ3 H3 X.xe I3 (stat Pq) dX stop) λr s4 ⟨hr,I4⟩=>?_)
  subst hr;exact wpAny_execs_nil ⟨σ3,H3,I4,qn⟩
 .
  refine Ap hp (bJ (T.item X rfl rfl rfl hc i ah s3 σ3 H3 X.xe I3 (stat Pq) dX go) λr s4 ⟨u,hr,h4⟩=>?_)
  subst hr;refine Ap hp (bJ h4 λ_ s5 ⟨x,H5,I5,r5,y5,jU,Xo⟩=>?_)
  have Xp:=I5.pinned (stat Xo) (T.obj _ _ jU);refine Ap hp (bJ (hg _ s5 σ3 H5 x u _ Xp r5 (step x H5 y5)) λ_ s6 ⟨σ6,H6,I6,q6⟩=>?_)
  refine Ap hp (bJ (hb _ s6 σ6 H6 _ I6 q6) λf s7 q7=>?_)
  have again:∀{σ7:St}{H7:Hp},Inv X (ah++kW fp s5.heap) σ7 H7 s7->N σ7 H7->∃m,m<n/\∃i σ' H',Inv X ah σ' H' s7/\tn i s7.heap/\(∀b∈fp,H' b=none)/\W i m σ' H':=λ{σ7 H7} I7 n7=>by
   obtain⟨m',hm,w7⟩:=hN σ7 H7 n7;refine⟨m',hm,i+1,σ7,H7,I7.gY,T.keep _ _ _ jU λb hb o e=>(I7.pin (b,o) (i3 _ (i3 _ (cU hb e)))).1,λb hb=>?_,w7⟩
   obtain⟨o,e,d⟩:=T.obj _ _ jU b hb;exact (I7.pin (b,o) (i3 _ (i3 _ (cU hb e)))).2.1
  cases f with
  |next=>obtain⟨σ7,H7,I7,n7⟩:=q7;exact again I7 n7
  |cont=>obtain⟨σ7,H7,I7,n7⟩:=q7;exact again I7 n7
  |brk=>obtain⟨σ7,H7,I7,q7⟩:=q7;exact⟨σ7,H7,I7.gY,q7⟩
  |ret v=>obtain⟨x7,σ7,H7,I7,r7,q7⟩:=q7;exact⟨x7,σ7,H7,I7.gY,r7,q7⟩
end
abbrev R2:=V->V->Hp->VK->Prop
def kX(X:Cx)(f:Value->Value->Sem Value)(r:R2):Prop:=
 ∀(ah:List (Addr×Obj)) (s:Shared) (σ:St) (H:Hp) (x y:V) (v u:Value) (Q:VK),Inv X ah σ H s->RelV x v->RelV y u->r x y H Q->
  wpAny (model X.prog X.w) X.A (f v u) (EP X ah σ Q) X.xe s
def UnR(X:Cx)(f:Value->Sem Value)(r:V->Hp->VK->Prop):Prop:=
 ∀(ah:List (Addr×Obj)) (s:Shared) (σ:St) (H:Hp) (x:V) (v:Value) (Q:VK),Inv X ah σ H s->RelV x v->r x H Q->
  wpAny (model X.prog X.w) X.A (f v) (EP X ah σ Q) X.xe s
def dB(X:Cx)(f:Value)(r:List V->Hp->VK->Prop):Prop:=
 ∀(ah:List (Addr×Obj)) (s:Shared) (σ:St) (H:Hp) (xs:List V) (us:List Value) (Q:VK),Inv X ah σ H s->Vals xs us->r xs H Q->
  wpAny (model X.prog X.w) X.A (call f us) (EP X ah σ Q) X.xe s
def TruR(X:Cx)(r:V->Hp->(Bool->Hp->Prop)->Prop):Prop:=
 ∀(ah:List (Addr×Obj)) (s:Shared) (σ:St) (H:Hp) (x:V) (v:Value) (Q:Bool->Hp->Prop),Inv X ah σ H s->RelV x v->r x H Q->
  wpAny (model X.prog X.w) X.A (truthy v) (TP X ah σ Q) X.xe s
noncomputable def tOp(r:R2)(ta tb:TE):TE:=λσ H Q=>ta σ H λx H1=>tb σ H1 λy H2=>r x y H2 Q
def tUn(r:V->Hp->VK->Prop)(ta:TE):TE:=λσ H Q=>ta σ H λx H1=>r x H1 Q
noncomputable def rI(C:Int->Int->Prop)(g:Int->Int->V):R2:=λx y H Q=>∃i j,x=.int i/\y=.int j/\C i j/\Q (g i j) H
noncomputable def DQ(g:Int->Int->V):R2:=λx y H Q=>∃i j,x=.int i/\y=.int j/\Q (g i j) H
def rU(g:Int->V):V->Hp->VK->Prop:=λx H Q=>∃i,x=.int i/\Q (g i) H
section
variable{X:Cx}{a b c:Expr}{ta tb tc:TE}{pos:Pos}
theorem Q5(ha:PE X a ta)(hb:PE X b tb){ah:List (Addr×Obj)}{s:Shared}{σ:St}{H:Hp}{R:V->V->Hp->Prop}(I:Inv X ah σ H s)
  (h:ta σ H λx H1=>tb σ H1 λy H2=>R x y H2) {Q:Value->Shared->Prop}{f:Value->Value->Sem Value}
  (hf:∀v u s2 x y H2,Inv X ah σ H2 s2->RelV x v->RelV y u->R x y H2->wpAny (model X.prog X.w) X.A (f v u) Q X.xe s2) :
  wpAny (model X.prog X.w) X.A (eval a X.env) (λv s₁=>wpAny (model X.prog X.w) X.A (eval b X.env) (λu s₂=>wpAny (model X.prog X.w) X.A (f v u) Q X.xe s₂) X.xe s₁) X.xe s:=by
 refine bJ (ha ah s σ H _ I h) λv s1 ⟨x,H1,I1,r1,q1⟩=>?_
 refine bJ (hb ah s1 σ H1 _ I1 q1) λu s2 ⟨y,H2,I2,r2,q2⟩=>?_
 exact hf v u s2 x y H2 I2 r1 r2 q2
theorem Xq{op:Operator}{r:R2}(ho:kX X (binaryOp op) r)(ha:PE X a ta)(hb:PE X b tb):PE X (.BinOp a op b pos) (tOp r ta tb):=by intro ah s σ H Q I h;exact wpAny_BinOp (Q5 ha hb I h λv u s2 x y H2 I2 rx ry q=>ho ah s2 σ H2 x y v u Q I2 rx ry q)
theorem Pr{op:UnaryOp}{r:V->Hp->VK->Prop}(ho:UnR X (unaryOp op) r)(ha:PE X a ta):PE X (.UnaryOp op a pos) (tUn r ta):=by intro ah s σ H Q I h;exact UnaryOp_ (bJ (ha ah s σ H _ I h) λv s1 ⟨x,H1,I1,r1,q1⟩=>ho ah s1 σ H1 x v Q I1 r1 q1)
theorem Xr{f:Value->Value->Sem Value}{C:Int->Int->Prop}{g:Int->Int->Int}
  (rule:∀(i j:Int) (t u:Tok) (s:Shared) (Q:Value->Shared->Prop) (E:Value->Shared->Prop),C i j->Q (.int (g i j) s.toks) { s with toks:=s.toks+1}->wpAny (model X.prog X.w) X.A (f (.int i t) (.int j u)) Q E s) :
  kX X f (rI C λi j=>.int (g i j)):=by
 intro ah s σ H x y v u Q I rx ry h;obtain⟨i,j,rfl,rfl,hc,q⟩:=h;obtain⟨t,rfl⟩:=rx;obtain⟨t',rfl⟩:=ry;exact rule i j t t' s _ _ hc ⟨.int (g i j),H,I.tok _,⟨_,rfl⟩,q⟩
theorem Kd{f:Value->Value->Sem Value}{g:Int->Int->Int}
  (rule:∀(i j:Int) (t u:Tok) (s:Shared) (Q:Value->Shared->Prop) (E:Value->Shared->Prop),Q (.int (g i j) s.toks) { s with toks:=s.toks+1}->wpAny (model X.prog X.w) X.A (f (.int i t) (.int j u)) Q E s) :
  kX X f (DQ λi j=>.int (g i j)):=by
 intro ah s σ H x y v u Q I rx ry h;obtain⟨i,j,rfl,rfl,q⟩:=h;obtain⟨t,rfl⟩:=rx;obtain⟨t',rfl⟩:=ry;exact rule i j t t' s _ _ ⟨.int (g i j),H,I.tok _,⟨_,rfl⟩,q⟩
theorem Ke{f:Value->Value->Sem Value}{g:Int->Int->Bool}
  (rule:∀(i j:Int) (t u:Tok) (s:Shared) (Q:Value->Shared->Prop) (E:Value->Shared->Prop),Q (.bool (g i j)) s->wpAny (model X.prog X.w) X.A (f (.int i t) (.int j u)) Q E s) :
  kX X f (DQ λi j=>.bl (g i j)):=by
 intro ah s σ H x y v u Q I rx ry h;obtain⟨i,j,rfl,rfl,q⟩:=h;obtain⟨t,rfl⟩:=rx;obtain⟨t',rfl⟩:=ry;exact rule i j t t' s _ _ ⟨.bl (g i j),H,I,rfl,q⟩
def CDiv(i j:Int):Prop:=0<j/\j<1073741824
def CPow(i j:Int):Prop:=0<=j/\j<=1000000/\i.natAbs<2 ^ 64
def Kf(i j:Int):Prop:=(-(2 ^ 64)<i/\i<2 ^ 64)\/(-(2 ^ 64)<j/\j<2 ^ 64)
theorem Kf.ok{i j:Int}(h:Kf i j):IntMulOk i j:=by
 rcases h with ⟨h1,h2⟩ |⟨h1,h2⟩
 . exact .of_left (intBits_le_64 h1 h2)
 . exact .of_right (intBits_le_64 h1 h2)
theorem Q6:kX X (binaryOp .Add) (DQ λi j=>.int (i+j)):=Kd λ_ _ _ _ _ _ _ q=>add_int q
theorem Q7:kX X (binaryOp .Sub) (DQ λi j=>.int (i - j)):=Kd λ_ _ _ _ _ _ _ q=>sub_int q
theorem Q8:kX X (binaryOp .Mult) (rI Kf λi j=>.int (i * j)):=Xr λ_ _ _ _ _ _ _ hc q=>mul_int q hc.ok
theorem Kg:kX X (binaryOp .FloorDiv) (rI CDiv λi j=>.int (i / j)):=Xr λi j _ _ _ _ _ hc q=>by
 have h1:(0:Int)<j:=hc.1;have h2:j<1073741824:=hc.2;exact floordiv_int ⋯ (by rw[Int.fdiv_eq_ediv_of_nonneg i ⋯];exact q) (.inl (PyProof.noPylong_small ⋯))
theorem Q9:kX X (binaryOp .Mod) (rI (λ_ j=>0<j) λi j=>.int (i % j)):=Xr λi j _ _ _ _ _ hc q=>by
 have h1:(0:Int)<j:=hc;exact mod_int' ⋯ (by rw[Int.fmod_eq_emod_of_nonneg i ⋯];exact q)
theorem sH:kX X (binaryOp .Pow) (rI CPow λi j=>.int (i ^ j.toNat)):=Xr λ_ _ _ _ _ _ _ hc q=>pow_int_small hc.1 hc.2.1 hc.2.2 q
theorem Kh:kX X (inplaceOp .Add) (DQ λi j=>.int (i+j)):=Kd λ_ _ _ _ _ _ _ q=>iadd_int q
theorem Kl:kX X (inplaceOp .Sub) (DQ λi j=>.int (i - j)):=Kd λ_ _ _ _ _ _ _ q=>isub_int q
theorem Km:kX X (inplaceOp .Mult) (rI Kf λi j=>.int (i * j)):=Xr λ_ _ _ _ _ _ _ hc q=>imul_int q hc.ok
theorem unI{f:Value->Sem Value}{g:Int->Int}
  (rule:∀(i:Int) (t:Tok) (s:Shared) (Q:Value->Shared->Prop) (E:Value->Shared->Prop),Q (.int (g i) s.toks) { s with toks:=s.toks+1}->wpAny (model X.prog X.w) X.A (f (.int i t)) Q E s) :
  UnR X f (rU λi=>.int (g i)):=by
 intro ah s σ H x v Q I rx h;obtain⟨i,rfl,q⟩:=h;obtain⟨t,rfl⟩:=rx;exact rule i t s _ _ ⟨.int (g i),H,I.tok _,⟨_,rfl⟩,q⟩
theorem Er:UnR X (unaryOp .USub) (rU λi=>.int (-i)):=unI λ_ _ _ _ _ q=>neg_int q
end
section
variable{X:Cx}{a b c:Expr}{ta tb tc:TE}{pos:Pos}
theorem Xs:kX X (compareOp .Lt) (DQ λi j=>.bl (decide (i<j))):=Ke λ_ _ _ _ _ _ _ q=>lt_int q
theorem Xu:kX X (compareOp .LtE) (DQ λi j=>.bl (decide (i<=j))):=Ke λ_ _ _ _ _ _ _ q=>le_int q
theorem Xv:kX X (compareOp .Gt) (DQ λi j=>.bl (decide (j<i))):=Ke λ_ _ _ _ _ _ _ q=>gt_int q
theorem Xw:kX X (compareOp .GtE) (DQ λi j=>.bl (decide (j<=i))):=Ke λ_ _ _ _ _ _ _ q=>ge_int q
theorem zb{op:CmpOp}{r:R2}(ho:kX X (compareOp op) r)(ha:PE X a ta)(hb:PE X b tb)(hm:behindInMarks op b=false):PE X (.Compare a [op] [b] pos) (tOp r ta tb):=by intro ah s σ H Q I h;exact wpAny_Compare1 (Q5 ha hb I h λv u s2 x y H2 I2 rx ry q=>ho ah s2 σ H2 x y v u Q I2 rx ry q) hm
def Xx(t:TE):TT:=λσ H Q=>t σ H λx H'=>∃k,x=.bl k/\Q k H'
theorem sI{op:CmpOp}{r:R2}(ho:kX X (compareOp op) r)(ha:PE X a ta)(hb:PE X b tb)(hm:behindInMarks op b=false):PT X (.Compare a [op] [b] pos) (Xx (tOp r ta tb)):=by
 intro ah s σ H Q I h;refine wpAny_isTrue_Compare1 (bJ (ha ah s σ H _ I h) λv s1 ⟨x,H1,I1,r1,q1⟩=>bJ (hb ah s1 σ H1 _ I1 q1) λu s2 ⟨y,H2,I2,r2,q2⟩=>
  bJ (ho ah s2 σ H2 x y v u _ I2 r1 r2 q2) λc s3 ⟨z,H3,I3,r3,k,e,q3⟩=>?_) hm
 subst e;cases r3;exact mI ⟨H3,I3,q3⟩
def Xy(K:Frag)(x:V)(H:Hp)(k:Bool):Prop:=
 match x with
 |.non=>k=false
 |.bl b=>k=b
 |.int i=>k=(i != 0)
 |.str y=>y.length<=sizeLine/\k=((y.length:Int) != 0)
 |.Qz y=>y.size<=sizeLine/\k=((y.size:Int) != 0)
 |.ref p=>(∃xs,bN K H p xs/\k=!xs.isEmpty)\/(∃xs,fC K H p xs/\k=!xs.isEmpty)\/∃dc,H p=some (.dK dc)/\k=!dc.isEmpty
 |_=>False
theorem xH{κ:Type}{dc:List (κ×V)}{vs:List (κ×Value)}(r:KV dc vs):(!vs.isEmpty)=!dc.isEmpty:=by cases r <;> rfl
theorem nY{xs:List V}{its:List Value}(r:Vals xs its):(!its.toArray.isEmpty)=!xs.isEmpty:=by cases r <;> simp
theorem nZ:(sizeLine:Nat)<2 ^ 63:=by rw[mB];decide
theorem Ra:TruR X (λx H Q=>∃k,Xy X.K x H k/\Q k H):=by
 intro ah s σ H x v Q I rx h;obtain⟨k,e,q⟩:=h;have hl:=nZ;have hs:sizeLine=16777216:=mB;cases x with
 |non=>cases rx;have e':k=false:=e;subst e';exact truthy_none ⟨H,I,q⟩
 |bl b=>cases rx;have e':k=b:=e;subst e';exact mI ⟨H,I,q⟩
 |int i=>obtain⟨t,rfl⟩:=rx;have e':k=(i != 0):=e;subst e';exact PySem.P.truthy_int ⟨H,I,q⟩
 |str y=>obtain⟨t,rfl⟩:=rx;obtain⟨hy,e'⟩:y.length<=sizeLine/\k=((y.length:Int) != 0):=e;subst e';exact PySem.P.truthy_str ⋯ ⟨H,I.tok _,q⟩
 |Qz y=>obtain⟨t,rfl⟩:=rx;obtain⟨hy,e'⟩:y.size<=sizeLine/\k=((y.size:Int) != 0):=e;subst e';exact PySem.W.truthy_bytes ⋯ ⟨H,I.tok _,q⟩
 |ref p=>
  cases rx;have e':(∃xs,bN X.K H p xs/\k=!xs.isEmpty)\/(∃xs,fC X.K H p xs/\k=!xs.isEmpty)\/∃dc,H p=some (.dK dc)/\k=!dc.isEmpty:=e;rcases e' with ⟨xs,hx,e'⟩ |⟨xs,hx,e'⟩ |⟨dc,hx,e'⟩
  . subst e';obtain⟨its,r,pl,hz⟩:=I.list hx;have aL:=r.length;exact wpAny_truthy_list pl.isList (by simp only[dE];lia) ⟨H,I.tok _,by rw[nY r];exact q⟩
  . subst e';obtain⟨its,r,pl,hz⟩:=I.tuple hx;have aL:=r.length;exact truthy_tuple pl (by simp only[dE];lia) ⟨H,I.tok _,by rw[nY r];exact q⟩
  . subst e';obtain⟨hz,hS,vs,r,m⟩:dc.length<=sizeLine/\(p==sysModules)=false/\∃vs,KV dc vs/\s.heap.DictOf (fY X.prog X.w) p vs:=I.hok p _ hx;have aL:dc.length=vs.length:=Paired.length r;exact wpAny_truthy_dict hS m ⋯ ⟨H,I.tok _,by rw[xH r];exact q⟩
 |_=>exact (show False from e).elim
theorem Es(ha:PE X a ta)(he:∀whole,isTrue a X.env whole=(do let v <- whole;standAt a.pos;holding [v] (truthy v))) :
  PT X a (λσ H Q=>ta σ H λx H'=>∃k,Xy X.K x H' k/\Q k H'):=by
 intro ah s σ H Q I h;exact isTrue_plain (bJ (ha ah s σ H _ I h) λv s1 ⟨x,H1,I1,r1,q1⟩=>Ra ah s1 σ H1 x v Q I1 r1 q1) (he _)
theorem vals1(r:Vals [x] us):∃u,us=[u]/\RelV x u:=by
 cases r with
 |cons r1 r2=>cases r2;exact⟨_,rfl,r1⟩
theorem vals2(r:Vals [x,y] us):∃u w',us=[u,w']/\RelV x u/\RelV y w':=by
 cases r with
 |cons r1 r2=>
  cases r2 with
  |cons r3 r4=>cases r4;exact⟨_,_,rfl,r1,r3⟩
theorem Bc(hc:X.calm=true):dB X (.builtin "max") (λxs H Q=>∃i j,xs=[.int i,.int j]/\Q (.int (if j > i then j else i)) H):=by
 intro ah s σ H xs us Q I r h;obtain⟨i,j,rfl,q⟩:=h;obtain⟨u,w',rfl,⟨t,rfl⟩,⟨t',rfl⟩⟩:=vals2 r;refine max_two_ints (I.ok.hd hc) λh' tk k=>⟨_,H,I.kept k,?_,q⟩
 by_cases hj:j > i
 . rw[gL hj,gL hj];exact⟨_,rfl⟩
 . rw[hZ hj,hZ hj];exact⟨_,rfl⟩
theorem Bd(hc:X.calm=true):dB X (.builtin "min") (λxs H Q=>∃i j,xs=[.int i,.int j]/\Q (.int (if j<i then j else i)) H):=by
 intro ah s σ H xs us Q I r h;obtain⟨i,j,rfl,q⟩:=h;obtain⟨u,w',rfl,⟨t,rfl⟩,⟨t',rfl⟩⟩:=vals2 r;refine min_two_ints (I.ok.hd hc) λh' tk k=>⟨_,H,I.kept k,?_,q⟩
 by_cases hj:j<i
 . rw[gL hj,gL hj];exact⟨_,rfl⟩
 . rw[hZ hj,hZ hj];exact⟨_,rfl⟩
def LenV(K:Frag)(x:V)(H:Hp)(n:Nat):Prop:=
 match x with
 |.str y=>y.length<=sizeLine/\n=y.length
 |.Qz y=>y.size<=sizeLine/\n=y.size
 |.ref p=>(∃xs,bN K H p xs/\n=xs.length)\/∃xs,fC K H p xs/\n=xs.length
 |_=>False
theorem Et:dB X (.builtin "len") (λxs H Q=>∃x n,xs=[x]/\LenV X.K x H n/\Q (.int n) H):=by
 intro ah s σ H xs us Q I r h;obtain⟨x,n,rfl,e,q⟩:=h;obtain⟨u,rfl,rx⟩:=vals1 r;have hl:=nZ;have hs:sizeLine=16777216:=mB;cases x with
 |str y=>obtain⟨t,rfl⟩:=rx;obtain⟨hy,e'⟩:y.length<=sizeLine/\n=y.length:=e;subst e';exact len_str ⋯ ⟨.int _,H,I.tok _,⟨_,rfl⟩,q⟩
 |Qz y=>obtain⟨t,rfl⟩:=rx;obtain⟨hy,e'⟩:y.size<=sizeLine/\n=y.size:=e;subst e';exact PySem.W.len_bytes ⋯ ⟨.int _,H,I.tok _,⟨_,rfl⟩,q⟩
 |ref p=>
  cases rx;have e':(∃xs,bN X.K H p xs/\n=xs.length)\/∃xs,fC X.K H p xs/\n=xs.length:=e;rcases e' with ⟨xs,hx,e'⟩ |⟨xs,hx,e'⟩
  . subst e';obtain⟨its,r',pl,hz⟩:=I.list hx;have aL:=r'.length;exact Calls.call_len_list pl.isList (by simp only[dE];lia) ⟨.int xs.length,H,I.tok _,⟨_,by simp only[dE];rw[aL]⟩,q⟩
  . subst e';obtain⟨its,r',pl,hz⟩:=I.tuple hx;have aL:=r'.length;exact len_tuple pl (by simp only[dE];lia) ⟨.int xs.length,H,I.tok _,⟨_,by simp only[dE];rw[aL]⟩,q⟩
 |_=>exact (show False from e).elim
end
structure bQ(k:Nat)(A:Around):Prop where
 hd:A.handled=none
 dp:A.depth+3 * k+5<recursionLimit
 un:A.units+16 * k+200<cLine
theorem bQ.mono{j k:Nat}{A:Around}(r:bQ k A)(h:j<=k):bQ j A:=⟨r.hd,by have:=r.dp;lia,by have:=r.un;lia⟩
theorem bQ.deeper(r:bQ (k+1) A)(env:Env):bQ k (A.deeper env):=
 ⟨r.hd,by have:=r.dp;show A.depth+1+3 * k+5<_;lia,by have:=r.un;show A.units+3+16 * k+200<_;lia⟩
theorem bQ.depth{k:Nat}{A:Around}(r:bQ k A):A.depth<recursionLimit:=by have:=r.dp;lia
theorem bQ.units{k:Nat}{A:Around}(r:bQ k A):A.units+64<cLine:=by have:=r.un;lia
theorem bQ.Rb{k:Nat}{A:Around}(r:bQ k A):A.units<cLine:=by have:=r.un;lia
def tNil:TA:=λ_ H Q=>Q [] H
noncomputable def Xz(ta:TE)(tr:TA):TA:=λσ H Q=>ta σ H λx H1=>tr σ H1 λxs H2=>Q (x::xs) H2
section
variable{X:Cx}{e:Expr}{es:List Expr}{te:TE}{t:TA}{pos:Pos}
theorem gj:PA X [] tNil:=λ_ _ _ _ H Q I h=>Calls.spliced_nil ⟨[],H,I,.nil,h⟩
theorem bF(ha:PE X e te)(hr:PA X es t)(hs:starEach (e::es) X.env=(false,eval e X.env)::starEach es X.env:=by rfl):PA X (e::es) (Xz te t):=by
 intro pos ah s σ H Q I h;rw[hs];show wpAny _ _ (spliced ((false,eval e X.env)::backTo pos (starEach es X.env))) _ _ s;refine Calls.spliced_cons (bJ (ha ah s σ H _ I h) λu s1 ⟨x,H1,I1,r1,q1⟩=>?_)
 exact bJ (hr pos ah s1 σ H1 _ I1 q1) λus s2 ⟨xs,H2,I2,r2,q2⟩=>⟨x::xs,H2,I2,.cons r1 r2,q2⟩
def tTup(t:TA):TE:=λσ H Q=>t σ H λxs H1=>xs.length<=sizeLine/\∀p,H1 p=none->Q (.ref p) (upd H1 p (.tup xs))
def tLst(t:TA):TE:=λσ H Q=>t σ H λxs H1=>xs.length<=sizeLine/\∀p,H1 p=none->Q (.ref p) (upd H1 p (.lst xs))
theorem xJ{x1}(h:PA X es t):PE X (.Tuple es x1 pos) (tTup t):=by
 intro ah s σ H Q I hq;refine wpAny_Tuple_spliced (bJ (h pos ah s σ H _ I hq) λus s1 ⟨xs,H1,I1,r,z,q⟩=>⟨by rw[<- r.length];exact z,?_⟩)
 have hf:H1 s1⁻¹=none:=I1.hok.fresh (eJ _);refine⟨.ref s1⁻¹,upd H1 s1⁻¹ (.tup xs),I1.laid (t':=s1.toks) (λb u e=>bP _ e) (eJ _) ?_,rfl,q _ hf⟩
 exact⟨z,us,r,⟨_,eA _ rfl,⟨rfl,_,rfl⟩,rfl⟩⟩
theorem Eu(h:PA X es t):PE X (.List es pos) (tLst t):=by
 intro ah s σ H Q I hq;refine wpAny_List_spliced (bJ (h pos ah s σ H _ I hq) λus s1 ⟨xs,H1,I1,r,z,q⟩=>⟨by rw[<- r.length];exact z,?_⟩)
 have hf:H1 s1⁻¹=none:=I1.hok.fresh (eJ _);refine⟨.ref s1⁻¹,upd H1 s1⁻¹ (.lst xs),I1.laid (t':=s1.toks) (λb u e=>bP _ e) (eJ _) ?_,rfl,q _ hf⟩
 exact⟨z,us,0,r,eA _ rfl⟩
end
abbrev Sp:=List V->Hp->VK->XK->Prop
abbrev Be:=List Env->Hp->Shared->XK->Value->Shared->Prop
structure Ew(P:Program)(w:World)(K:Frag)(mg:Str->Option Value)(base:Heap)(A:Around)(outer:List Env)(s:Shared)(H:Hp):Prop where
 frames:A.frames=some outer
 mod:Mod K mg base
 bs:∀b o,base.get? b=some o->s.heap.get? b=some o/\H b=none
 Eg:base.objs.size<=s⁻¹
 jR:s.heap.FunFrames base outer
 J6:∀b∈frs outer,H b=none
 hok:kO P w H s.heap
 bare:AllBare s.gens
def CE(outer:List Env)(P:Program)(w:World)(H:Hp)(s:Shared)(Q:VK)(u:Value)(s':Shared):Prop:=
 ∃v H',s'.os=s.os/\AllBare s'.gens/\Un (frs outer) [] H H' s.heap s'.heap/\kO P w H' s'.heap/\RelV v u/\Q v H'
def CR(CX:Be)(outer:List Env)(P:Program)(w:World)(H:Hp)(s:Shared)(Q:VK)(E:XK)(r:Result)(s':Shared):Prop:=
 match r with
 |.ok (.ret u)=>CE outer P w H s Q u s'
 |.ok _=>False
 |.error e=>CX outer H s E e s'
structure iT(P:Program)(w:World)(K:Frag)(mg:Str->Option Value)(base:Heap)(CX:Be)(k:Nat)(f:Addr)(fd:FuncData)(ps:List Str)(sp:Sp):Prop where
 len:∀vs H Q E,sp vs H Q E->vs.length=ps.length
 run:∀(A:Around) (outer:List Env) (s:Shared) (H:Hp) (args:Args) (us:List Value) (vs:List V) (Q:VK) (E:XK),bQ k A->Ew P w K mg base A outer s H->BindsTo s fd args (ps.zip us)->Vals vs us->sp vs H Q E->
  codeAny (model P w) A (.call (.ref f) args) (CR CX outer P w H s Q E) s
section
variable{X:Cx}{ah:List (Addr×Obj)}{σ:St}{H:Hp}{s s':Shared}
theorem Inv.Ko(I:Inv X ah σ H s):Ew X.prog X.w X.K X.mg X.base X.A X.stack s H:=
 ⟨I.ok.frames,I.ok.mod,I.bs,qS I.ok.Eg I.sz,I.stack,I.sC,I.hok,I.bare⟩
theorem Inv.after(I:Inv X ah σ H s)(h:CE X.stack X.prog X.w H s Q u s'):EP X ah σ Q u s':=by obtain⟨v,H',os,bare,un,hok,r,q⟩:=h;obtain⟨hh,g,d,t,os'⟩:=s';obtain rfl:os'=s.os:=os;exact⟨v,H',I.call (h':=hh) (g':=g) (d':=d) (t':=t) (ch:=[]) un hok bare (λb z=>absurd z ⋯),r,q⟩
end
noncomputable def XC(sp:Sp)(uW:List V)(E:XK)(t:TA):TE:=λσ H Q=>t σ H λvs H1=>sp (vs++uW) H1 Q E
def Binds(K:Frag)(fd:FuncData)(ps:List Str)(ds:List Value):Prop:=
 ∀(s:Shared) (us:List Value),K.In s.heap->(us++ds).length=ps.length->BindsTo s fd ⟨us,[]⟩ (ps.zip (us++ds))
theorem Binds.all{K:Frag}{fd:FuncData}{ps:List Str}(h:∀us:List Value,us.length=ps.length->bindArgs fd ⟨us,[]⟩=pure (ps.zip us)):Binds K fd ps []:=λs us _ hl=>by
 rw[nN]at hl ⊢
 exact .of_eq (h us hl)
def Passes(CX:Be)(X:Cx)(E:XK):Prop:=∀(ah:List (Addr×Obj)) (σ:St) (H:Hp) (s:Shared) (e:Value) (s':Shared),Inv X ah σ H s->CX X.stack H s E e s'->X.xe e s'
section
variable{X:Cx}{CX:Be}{k:Nat}{f C:Addr}{fd:FuncData}{ps:List Str}{sp:Sp}{uW:List V}{ds:List Value}{E:XK}{x m:Str}{p pos bX:Pos}{e o:Expr}{es:List Expr}{ta:TE}{t:TA}
theorem Rc{ah:List (Addr×Obj)}{σ:St}{H:Hp}{s:Shared}{Q:VK}{us:List Value}{vs:List V}(F:iT X.prog X.w X.K X.mg X.base CX k f fd ps sp)(hr:bQ k X.A)(hb:Binds X.K fd ps ds)(hd:Vals uW ds)(hx:Passes CX X E)
  (I:Inv X ah σ H s) (r:Vals vs us) (h:sp (vs++uW) H Q E):wpAny (model X.prog X.w) X.A (call (.ref f) us) (EP X ah σ Q) X.xe s:=by
 have r2:Vals (vs++uW) (us++ds):=r.append hd;have hl:(us++ds).length=ps.length:=by rw[<- r2.length];exact F.len _ _ _ _ h
 refine CU (AY (F.run X.A X.stack s H ⟨us,[]⟩ (us++ds) (vs++uW) Q E hr I.Ko (hb s us I.mR hl) r2 h) λr s' hq=>?_)
 cases r with
 |error e=>exact hx ah σ H s e s' I hq
 |ok fl=>
  cases fl with
  |ret u=>exact I.after hq
  |next=>exact False.elim hq
  |brk=>exact False.elim hq
  |cont=>exact False.elim hq
theorem zc(F:iT X.prog X.w X.K X.mg X.base CX k f fd ps sp)(hr:bQ k X.A)(hg:Gl X x)(hm:X.mg x=some (.ref f))(hk:PySem.W.keepIn X.K (.ref f)=true)(hb:Binds X.K fd ps ds)(hd:Vals uW ds)(hx:Passes CX X E)
  (ha:PA X (e::es) t) (gX:(x==("__debug__":Str))=false:=by decide) (he:starEach (e::es) X.env=(false,eval e X.env)::starEach es X.env:=by rfl) (dQ:(backTo pos (starEach es X.env)).any (·.1)=false:=by rfl) :
  PE X (.Call (.Name x p) (e::es) [] pos) (XC sp uW E t):=by
 intro ah s σ H Q I h;refine rV (eU I hg hm ?_ gX);refine AG (h₀:=X.base) I.ok.mod.DP hk (bJ (ha pos ah s σ H _ I h) λus s1 ⟨vs,H1,I1,r,q⟩=>⟨I1.mR,?_⟩) he dQ
 exact Rc F hr hb hd hx I1 r q
end
structure bU(N P:List Str)(sc:Scope):Prop where
 kind:sc.kind=.function
 co:sc.isCoroutine=false
 gen:sc.isGenerator=false
 nd:N.Nodup
 pre:N.take P.length=P
 par:∀x∈P,sc.names.lookup x=some .local\/sc.names.lookup x=some .cell
 Rf:∀y∈sc.names,y.2≠.free
theorem qM{kindOf:Str->Option NameKind}{x:Str}:∀{binds:List (Str×Value)}{m:Str->Option Value},(∀v,(x,v)∉binds)->bindL kindOf binds m x=m x
 | [],_,_=>rfl
 | (n,v)::r,m,h=>by
  unfold bindL;rw[qM λw hw=>h w (dA _ hw)]
  split
  .
   have:x≠n:=by rintro rfl;exact h v dL
   simp[this]
  . rfl
theorem qN{kindOf:Str->Option NameKind}{x:Str}:∀{binds:List (Str×Value)}{m:Str->Option Value},(∀v,(x,v)∉binds)->bindC kindOf binds m x=m x
 | [],_,_=>rfl
 | (n,v)::r,m,h=>by
  unfold bindC;rw[qN λw hw=>h w (dA _ hw)]
  split
  . rfl
  .
   have:x≠n:=by rintro rfl;exact h v dL
   simp[this]
theorem qO{kindOf:Str->Option NameKind}{x:Str}{v:Value}:∀{P:List Str}{vs:List Value}{i:Nat}{m:Str->Option Value},P.Nodup->P[i]?=some x->vs[i]?=some v->kindOf x=some .local->
  bindL kindOf (P.zip vs) m x=some v
 | [],_,_,_,_,h,_,_=>by simp at h
 |_::_,[],_,_,_,_,h,_=>by simp at h
 |p::P,w::vs,0,m,nd,h1,h2,hk=>by
  simp at h1 h2;subst h1;subst h2;show bindL kindOf ((p,w)::P.zip vs) m p=_;unfold bindL;rw[qM λv hv=>(hV.mp nd).1 (A5 hv).1,gL hk]
  simp
 |p::P,w::vs,i+1,m,nd,h1,h2,hk=>by
  show bindL kindOf ((p,w)::P.zip vs) m x=_;unfold bindL;exact qO (i:=i) (hV.mp nd).2 (by simpa using h1) (by simpa using h2) hk
theorem qP{kindOf:Str->Option NameKind}{x:Str}{v:Value}:∀{P:List Str}{vs:List Value}{i:Nat}{m:Str->Option Value},P.Nodup->P[i]?=some x->vs[i]?=some v->kindOf x≠some .local->
  bindC kindOf (P.zip vs) m x=some v
 | [],_,_,_,_,h,_,_=>by simp at h
 |_::_,[],_,_,_,_,h,_=>by simp at h
 |p::P,w::vs,0,m,nd,h1,h2,hk=>by
  simp at h1 h2;subst h1;subst h2;show bindC kindOf ((p,w)::P.zip vs) m p=_;unfold bindC;rw[qN λv hv=>(hV.mp nd).1 (A5 hv).1,hZ hk]
  simp
 |p::P,w::vs,i+1,m,nd,h1,h2,hk=>by
  show bindC kindOf ((p,w)::P.zip vs) m x=_;unfold bindC;exact qP (i:=i) (hV.mp nd).2 (by simpa using h1) (by simpa using h2) hk
noncomputable def start(N:List Str)(vs:List V):St:=vs.map some++List.replicate (N.length - vs.length) none
noncomputable def fh(CX:Be)(P:Program)(w:World)(K:Frag)(mg:Str->Option Value)(base:Heap)(N:List Str)(qual:Str)(scope:Scope)(f:Addr)(cd:Value)(A:Around)(outer:List Env)(s:Shared)(H:Hp)(E:XK):Cx where
 prog:=P
 w:=w
 K:=K
 mg:=mg
 base:=base
 A:=A.deeper (envOfC qual scope s⁻¹ f cd)
 N:=N
 s₀:=s
 H₀:=H
 env:=envOfC qual scope s⁻¹ f cd
 outer:=outer
 stack:=envOfC qual scope s⁻¹ f cd::outer
 ex:=[]
 calm:=true
 fn:=λ_=>true
 pn:=[]
 xe:=λe s'=>wpAny (model P w) (A.deeper (envOfC qual scope s⁻¹ f cd)) (leaving (envOfC qual scope s⁻¹ f cd) e) (λ_ s''=>CX outer H s E e s'') (λe' s''=>CX outer H s E e' s'') s'
theorem uX{sc:Scope}{n:Nat}{x:Str}(h:sc.names.lookup x=some .cell):∃c,(cellsFrom n sc.names []).lookup x=some c:=by have q:=BH sc.names n [] (.inl h);exact Option.isSome_iff_exists.mp q
theorem qQ{CX:Be}{P:Program}{w:World}{K:Frag}{mg:Str->Option Value}{base:Heap}{N ps:List Str}{qual:Str}{scope:Scope}{f:Addr}{cd:Value}{A:Around}{outer:List Env}{s s1:Shared}{H:Hp}{E:XK}{us:List Value}{vs:List V}
  (S:bU N ps scope) (hd:A.handled=none) (e0:Ew P w K mg base A outer s H) (hl:vs.length=ps.length) (r:Vals vs us)
  (x:InCallC s s⁻¹ (bindL (envOfC qual scope s⁻¹ f cd).kindOf (ps.zip us) λ_=>none) (cellsFrom (s⁻¹+1) scope.names []) (bindC (envOfC qual scope s⁻¹ f cd).kindOf (ps.zip us) λ_=>none) s1) :
  Inv (fh CX P w K mg base N qual scope f cd A outer s H E) [] (start N vs) H s1:=by
 have dQ:ps.length<=N.length:=by have:=congrArg List.length S.pre;rw[sB]at this;lia
 obtain⟨h1,tk,rfl,hk⟩:=x.done;have XD:∀b:Addr,b∉(fh CX P w K mg base N qual scope f cd A outer s H E).ex:=λb z=>absurd (show b∈([]:List Addr)from z) ⋯
 refine⟨⟨e0.mod,S.kind,rfl,rfl,eJ _,λy z c h1 h2=>?_,λy hy=>?_,λy c _ h=>?_,λ_=>hd,Around.frames_deeper e0.frames,.inr ⟨rfl,rfl⟩,λb z=>absurd z (XD b),e0.bs,e0.Eg,λb _ _=>XD b,λb z=>absurd z (XD b),e0.jR,e0.J6⟩,
  rfl,e0.bare,Un.kept hk,⟨_,x.toInCall.ns,λi y v h1 h2 h3=>?_⟩,λy c h=>⟨_,x.cell y c h⟩,e0.hok.fresh (eJ _),λy c h=>?_,λp hp=>absurd (show p∈([]:List (Addr×Obj))from hp) ⋯,e0.hok.kept hk,?_⟩
 . exact name_of_addr x.apart (AC h1) (AC h2)
 .
  have hy:scope.names.lookup y=some .cell\/scope.names.lookup y=some .free:=hy;rcases hy with hy |hy
  . exact uX hy
  . exact absurd rfl (S.Rf _ (AC hy))
 . exact CC (x.above y c (AC h))
 .
  have hi:i<vs.length:=by
   unfold start at h2;by_cases hi:i<vs.length
   . exact hi
   .
    rw[eC (by simpa using hi)]at h2
    rw[A6]at h2;split at h2 <;> cases h2
  have ha:vs[i]?=some v:=by
   unfold start at h2;rw[eD (by simpa using hi),sR]at h2
   cases e:vs[i]? with
   |none=>rw[e]at h2;cases h2
   |some a=>rw[e]at h2;cases h2;rfl
  obtain⟨u,hu,rv⟩:=r.get ha;have hp:ps[i]?=some y:=by rw[<- S.pre,sT ⋯];exact h1
  have ndP:ps.Nodup:=by rw[<- S.pre];exact S.nd.sublist (List.take_sublist _ _)
  refine⟨u,rv,?_⟩;rcases S.par y (l6 hp)with k |k
  . exact .inl ⟨k,qO ndP hp hu k⟩
  .
   obtain⟨c,e⟩:=uX (n:=s⁻¹+1) k;refine .inr ⟨.inl k,c,e,?_⟩;have q:=x.cell y c e;rw[qP ndP hp hu (by show scope.names.lookup y≠_;rw[k];decide)]at q
   exact q
 . exact e0.hok.fresh (CC (x.above y c (AC h)))
 . unfold start;show _=N.length;rw[fR,d6,fI];lia
theorem Pu{CX:Be}{P:Program}{w:World}{K:Frag}{mg:Str->Option Value}{base:Heap}{k:Nat}{f:Addr}{name qual:Str}{params:Arguments}{body:List Stmt}{scope:Scope}{dV kV doc pm bE ct oc:Value}{an od:Option Addr}
  {osl:Array (Option Value)}{N ps:List Str}{sp:Sp} (lk:K.lookup f=some ⟨oc,od,.func (PySem.W.fnOf name qual params body scope dV kV doc pm an bE ct),osl⟩) (bH:PySem.W.codeIn K bE qual=true) (S:bU N ps scope)
  (len:∀vs H Q E,sp vs H Q E->vs.length=ps.length)
  (hbody:∀(A:Around) (outer:List Env) (s:Shared) (H:Hp) (vs:List V) (Q:VK) (E:XK),bQ k (A.deeper (envOfC qual scope s⁻¹ f bE))->sp vs H Q E->
   ∃t,sD (fh CX P w K mg base N qual scope f bE A outer s H E) body t/\t { nx:=λ_ H'=>Q .non H',rt:=Q} (start N vs) H) :
  iT P w K mg base CX (k+1) f (PySem.W.fnOf name qual params body scope dV kV doc pm an bE ct) ps sp:=by
 refine⟨len,λA outer s H args us vs Q E hr e0 hb r Wh=>?_⟩
 have hl:=len _ _ _ _ Wh;have KX:K.In s.heap:=e0.mod.DP.keeps λb o e=>(e0.bs b o e).1
 have lim:s.heap.NoLimit:=e0.mod.nolimit.keeps λb o e=>(e0.bs b o e).1
 have hkind:∀y∈ps.zip us,scope.names.lookup y.1=some .local\/(scope.names.lookup y.1=some .cell/\((cellsFrom (s⁻¹+1) scope.names []).lookup y.1).isSome=true):=λ⟨n,v⟩ hy=>by
  rcases S.par n (A5 hy).1 with q |q
  . exact .inl q
  . exact .inr ⟨q,BH _ _ _ (.inl q)⟩
 refine codeAny_call_function hr.depth (KX _ _ lk) rfl S.co S.gen rfl (PySem.W.codeRec_of KX bH) (hb _ _ _ _ ?_);refine wpAny_newFunctionEnv_cells S.kind hkind λenv he s1 x=>?_
 subst he;refine⟨lim.keeps x.toInCall.keep,codeAny_func ?_⟩;obtain⟨t,ht,hq⟩:=hbody A outer s H vs Q E (hr.deeper _) Wh;have I:Inv (fh CX P w K mg base N qual scope f bE A outer s H E) [] (start N vs) H s1:=qQ S hr.hd e0 hl r x;refine i9 (ht [] s1 (start N vs) H _ I hq) (λfl s' hs=>?_) λe s' hs=>hs
 have fin:∀{σ':St}{H':Hp}{v:V}{u:Value},Inv (fh CX P w K mg base N qual scope f bE A outer s H E) [] σ' H' s'->RelV v u->Q v H'->CE outer P w H s Q u s':=
  λ{σ' H' v u} J rv q=>⟨v,H',J.os,J.bare,J.base,J.hok,rv,q⟩
 cases fl with
 |ret u=>obtain⟨v,σ',H',J,rv,q⟩:=hs;exact fin J rv q
 |next=>obtain⟨σ',H',J,q⟩:=hs;exact fin (v:=V.non) (u:=Value.none) J rfl q
 |brk=>obtain⟨_,_,_,q⟩:=hs;exact False.elim q
 |cont=>obtain⟨_,_,_,q⟩:=hs;exact False.elim q
section
variable{X:Cx}{x:Str}{p pos:Pos}{e:Expr}{es:List Expr}{t:TA}{id T:String}{r:List V->Hp->VK->Prop}
noncomputable def tCB(r:List V->Hp->VK->Prop)(t:TA):TE:=λσ H Q=>t σ H λvs H1=>r vs H1 Q
theorem gZ(hc:dB X (.builtin id) r)(hg:Gl X x)(hm:X.mg x=none)(hv:bootBuiltins x=some (.builtin id))(ha:PA X (e::es) t)(hn:x≠ "__name__" :=by decide)(gX:(x==("__debug__":Str))=false:=by decide)
  (he:starEach (e::es) X.env=(false,eval e X.env)::starEach es X.env:=by rfl) (dQ:(backTo pos (starEach es X.env)).any (·.1)=false:=by rfl):PE X (.Call (.Name x p) (e::es) [] pos) (tCB r t):=by
 intro ah s σ H Q I h;refine rV (gi I hg hm hv ?_ hn gX);exact PyProof.Rows.callWith_builtin1 (bJ (ha pos ah s σ H _ I h) λus s1 ⟨vs,H1,I1,r1,q1⟩=>hc ah s1 σ H1 vs us Q I1 r1 q1) he dQ
theorem qR(hc:dB X (.type T) r)(hg:Gl X x)(hm:X.mg x=none)(hv:bootBuiltins x=some (.type T))(ha:PA X (e::es) t)(hn:x≠ "__name__" :=by decide)(gX:(x==("__debug__":Str))=false:=by decide)
  (he:starEach (e::es) X.env=(false,eval e X.env)::starEach es X.env:=by rfl) (dQ:(backTo pos (starEach es X.env)).any (·.1)=false:=by rfl):PE X (.Call (.Name x p) (e::es) [] pos) (tCB r t):=by
 intro ah s σ H Q I h;refine rV (gi I hg hm hv ?_ hn gX);exact oP (bJ (ha pos ah s σ H _ I h) λus s1 ⟨vs,H1,I1,r1,q1⟩=>hc ah s1 σ H1 vs us Q I1 r1 q1) he dQ
end
end L2
namespace HT
open PySem PyProof.Rows
noncomputable def lexLt:List Int->List Int->Bool
 | [],[]=>false
 | [],_::_=>true
 |_::_,[]=>false
 |x::xs,y::ys=>if x=y then lexLt xs ys else decide (x<y)
theorem cV(x y:Int)(xs ys:List Int):lexLt (x::xs) (y::ys)=if x=y then lexLt xs ys else decide (x<y):=rfl
theorem ql:lexLt [] []=false:=rfl
theorem n5(y:Int)(ys:List Int):lexLt [] (y::ys)=true:=rfl
theorem n6(x:Int)(xs:List Int):lexLt (x::xs) []=false:=rfl
theorem Ey(A:Around)(s:Shared)(a:Int)(t:Tok)(c:Int)(u:Tok):∃e,SeqAt.EqAt A s (.int a t) (.int c u) e/\(e=true ↔ a=c):=
 ⟨(a==c),SeqAt.EqAt.int_int a t c u,by simp⟩
theorem Ez(A:Around)(s:Shared)(a:Int)(t:Tok)(c:Int)(u:Tok)(prog:Program)(w:World)(E:Value->Shared->Prop)(Q:Value->Shared->Prop)(h:Q (.bool (decide (a<c))) s) :
  wpAny (model prog w) A (richCompare .Lt (.int a t) (.int c u)) Q E s:=
 (PyProof.Rows.lt_int h:wpAny (model prog w) A (compareOp .Lt (.int a t) (.int c u)) Q E s)
section
open PySem.SeqAt
open PySem.AutoSeq1 (wpAny_loadPart')
open PySem.MeetsSeq PySem.MeetsSeq2 PySem.MeetsSeq3
theorem qm(l b:Addr)(aj items2:Array Value)(n n2:Nat)(dd dd2:Option Addr)(sl sl2:Array (Option Value))(ns ms:List Int)(hi:IntsAre aj.toList ns)(hj:IntsAre items2.toList ms) :
  Meets (Builtin.«tuple.__lt__» ⟨[.ref l,.ref b],[]⟩)
   (λ_ R s=>s.heap.get? l=some { cls:=.type "tuple",dict:=dd,data:=.seq aj n,slots:=sl}/\s.heap.get? b=some { cls:=.type "tuple",dict:=dd2,data:=.seq items2 n2,slots:=sl2}/\
    R (.ok (.ret (.bool (lexLt ns ms)))) s):=
 .of_wp λprog w A R s h=>by
  obtain⟨hp,g,d,tk,os⟩:=s;obtain⟨hl,hb,h⟩:=h;have f2:=AutoSeq1.sub_tuple_tuple;have z1:aj.size=ns.length:=by rw[<- hi.length];simp
  have z2:items2.size=ms.length:=by rw[<- hj.length];simp
  wp_walk using wpAny_loadPart' hl,wpAny_loadPart' hb,wpAny_forIn_list _ (λrest b s'=>b.1=none/\s'=⟨hp,g,d,tk,os⟩/\∃(vs ws:List Value) (ns' ms':List Int),rest=vs.zip ws/\
   IntsAre vs ns'/\IntsAre ws ms'/\ns'.length+items2.size=ms'.length+aj.size/\R (.ok (.ret (.bool (lexLt ns' ms')))) ⟨hp,g,d,tk,os⟩) _
  case turn=>
   rintro⟨y,x⟩ rest b s' ⟨hb',rfl,vs,ws,ns',ms',hz,hvi,hwi,aL,hR⟩;cases hvi with
   |nil=>rw[List.zip_nil_left]at hz;cases hz
   |cons a t hvi'=>
    cases hwi with
    |nil=>rw[List.zip_nil_right]at hz;cases hz
    |cons c u hwi'=>
     rw[y0]at hz;injection hz with hyx hrest;injection hyx with hy hx;subst hy hx;rw[cV]at hR;simp only[l5]at aL;obtain⟨e,he,hiff⟩:=Ey A.in1 ⟨hp,g,d,tk,os⟩ a t c u;refine aS (he prog w _ _ ?_);cases e with
     |true=>
      rw[gL (hiff.mp rfl)]at hR
      wp_walk
      exact⟨rfl,rfl,_,_,_,_,hrest,hvi',hwi',by lia,hR⟩
     |false=>
      rw[hZ (λq=>absurd (hiff.mpr q) i5)]at hR
      have hri:=Ez A.in1 ⟨hp,g,d,tk,os⟩ a t c u prog w
      wp_walk using hri
      exact⟨_,rfl,by simpa using hR⟩
  case fin=>
   rintro⟨b1,b2⟩ s' ⟨hb',rfl,vs,ws,ns',ms',hz,hvi,hwi,aL,hR⟩;simp only at hb';subst hb';have hv:lexLt ns' ms'=decide (aj.size<items2.size):=by
    cases hvi with
    |nil=>
     cases hwi with
     |nil=>simp only[A7]at aL;rw[ql];exact (mP ⋯).symm
     |cons c u hw=>simp only[A7,l5]at aL;rw[n5];exact (oD ⋯).symm
    |cons a t hv=>
     cases hwi with
     |nil=>simp only[A7,l5]at aL;rw[n6];exact (mP ⋯).symm
     |cons c u hw=>rw[y0]at hz;cases hz
   rw[hv]at hR
   wp_walk
   exact⟨_,rfl,by simpa [Builtin.Tuple.tupleCompareSizes]using hR⟩
  case h=>exact⟨rfl,rfl,aj.toList,items2.toList,ns,ms,rfl,hi,hj,by lia,h⟩
end
section
variable{prog:Program}{w:World}{A:Around}{E:Value->Shared->Prop}{s:Shared}
theorem xK(hl:IsTup s.heap l aj)(hb:IsTup s.heap b items2)(hi:IntsAre aj.toList ns)(hj:IntsAre items2.toList ms)
  (hu:A.units<cLine) (h:Q (.bool (lexLt ns ms)) s):wpAny (model prog w) A (compareOp .Lt (.ref l) (.ref b)) Q E s:=by
 obtain⟨⟨cls,dd,data,sl⟩,ho,hc,n,hd⟩:=id hl;obtain⟨⟨XF,dd2,data2,sl2⟩,ho2,hc2,n2,hd2⟩:=id hb;simp only at hc hd hc2 hd2;subst hc hd hc2 hd2;exact richCompare_meets_room (op:=.Lt) ⟨_,ho,rfl⟩ ⟨_,ho2,rfl⟩ PySem.F.slot_tuple_lt PySem.F.entry_tuple_lt (PySem.F.args_tuple_lt_2 _ _) (qm l b aj items2 n n2 dd dd2 sl sl2 ns ms hi hj)
  ⟨ho,ho2,show Value.bool (lexLt ns ms)≠Value.notImplemented/\Q (.bool (lexLt ns ms)) s from⟨(λx=>nomatch x),h⟩⟩ hu
theorem Kp(ht:IsTup s.heap t vs.toArray)(hb:IsTup s.heap b ws.toArray)(hv:vs≠[])
  (h1:ws=[]->Q (.ref t) s) (h2:ws≠[]->Q (.ref s⁻¹) { s with heap:=s.heap.push { cls:=.type "tuple",data:=.seq (vs++ws).toArray}})
  (jg:vs.length+ws.length<=sizeLine):wpAny (model prog w) A (binaryOp .Add (.ref t) (.ref b)) Q E s:=by
 obtain⟨⟨cls,dd,data,sl⟩,ho,hc,n,hd⟩:=id ht;obtain⟨⟨XF,dd2,data2,sl2⟩,ho2,hc2,n2,hd2⟩:=id hb;simp only at hc hd hc2 hd2;subst hc hd hc2 hd2;have e:vs.toArray++ws.toArray=(vs++ws).toArray:=by simp
 by_cases hw:ws=[]
 .
  exact concat_meets ⟨_,ho,rfl⟩ ⟨_,ho2,rfl⟩ noFill_tuple_add seq_tuple_add BI A8 (AZ _ _)
   (tuple_addW1 t b vs.toArray ws.toArray n n2 dd dd2 sl sl2 (by simpa using hv) (by simp[hw])) ⟨ho,ho2,h1 hw⟩
 .
  refine concat_meets ⟨_,ho,rfl⟩ ⟨_,ho2,rfl⟩ noFill_tuple_add seq_tuple_add BI A8 (AZ _ _)
   (tuple_addW2 t b vs.toArray ws.toArray n n2 dd dd2 sl sl2 (by simpa using hv) (by simpa using hw) (by rw[dE,dE];exact jg)) ⟨ho,ho2,?_⟩
  rw[e];exact h2 hw
noncomputable def bL(n d:Nat):Option Int->Nat
 |none=>d
 |some v=>if v<0 then (v+(n:Int)).toNat else min v.toNat n
theorem Rg(n d:Nat)(hd:d<=n)(o:Option Int):bL n d o<=n:=by
 cases o with
 |none=>exact hd
 |some v=>
  show (if v<0 then (v+(n:Int)).toNat else min v.toNat n)<=n
  by_cases hv:v<0
  . rw[gL hv];lia
  . rw[hZ hv];exact Nat.min_le_right _ _
theorem zg(v:Int)(n d:Nat):(if v<0 then max (v+(n:Int)) 0 else min v (n:Int))=((bL n d (some v):Nat):Int):=by
 show (if v<0 then max (v+(n:Int)) 0 else min v (n:Int))=(((if v<0 then (v+(n:Int)).toNat else min v.toNat n):Nat):Int)
 by_cases hv:v<0
 . simp only[gL hv];lia
 . simp only[hZ hv];lia
theorem xM(lo hi:Option Int)(n:Nat):Builtin.Slice.sliceAdjust lo hi 1 (n:Int)=(((bL n 0 lo:Nat):Int),((bL n n hi:Nat):Int)):=by
 have h1 : ¬ ((1:Int)<0):=by lia
 unfold Builtin.Slice.sliceAdjust;simp only[h1,CD];refine Prod.ext ?_ ?_
 .
  cases lo with
  |none=>rfl
  |some v=>exact zg v n 0
 .
  cases hi with
  |none=>rfl
  |some v=>exact zg v n n
theorem xN(i j:Nat):Builtin.Slice.slicePlaces (i:Int) (j:Int) 1=j - i:=by
 unfold Builtin.Slice.slicePlaces;have h1:(1:Int) > 0:=by lia
 simp only[h1,AI,Int.ediv_one];split <;> lia
theorem jr(p:IsPart v o)(h:Q o s):wpAny (model prog w) A (Builtin.Slice.slicePartIndex v) Q E s:=by
 cases p with
 |none=>exact slicePart_none h
 |int i t=>exact slicePart_int h
theorem fD{sl:Addr}{vl vu:Value}{lo hi:Option Int}{n:Nat}{Q:Int×Int×Nat->Shared->Prop}(hs:s.heap.IsSliceOf sl vl vu .none)(pl:IsPart vl lo)(pu:IsPart vu hi)
  (h:Q (((bL n 0 lo:Nat):Int),1,bL n n hi - bL n 0 lo) s):wpAny (model prog w) A (Builtin.Slice.sliceApplied (.ref sl) (pure (n:Int))) Q E s:=by
 obtain⟨os,hos,hcs,hds⟩:=id hs;unfold Builtin.Slice.sliceApplied Builtin.Slice.sliceFields;refine aS (aS (l8 hos hds (x:=vl) rfl (aS (l8 hos hds (x:=vu) rfl (aS (l8 hos hds (x:=.none) rfl (d0 ?_)))))));refine aS (slicePart_none ?_);show wpAny _ _ (if ((1:Int)==0)=true then _ else _) _ _ s
 rw[hZ ⋯];refine aS (jr pl (aS (jr pu (aS (d0 ?_)))));show wpAny _ _ (match Builtin.Slice.sliceAdjust lo hi 1 (n:Int)with | (lo,hi)=>pure (lo,(1:Int),Builtin.Slice.slicePlaces lo hi 1)) _ _ s
 rw[xM lo hi n];show wpAny _ _ (pure (((bL n 0 lo:Nat):Int),(1:Int),Builtin.Slice.slicePlaces ((bL n 0 lo:Nat):Int) ((bL n n hi:Nat):Int) 1)) _ _ s;rw[xN];exact d0 h
theorem EY(xs:Array Value)(i k:Nat):((List.range k).filterMap λ(m:Nat)=>xs[((i:Int)+(m:Int) * 1).toNat]?).toArray=((xs.toList.drop i).take k).toArray:=by
 have e:(λ(m:Nat)=>xs[((i:Int)+(m:Int) * 1).toNat]?)=λm=>xs[i+m]?:=by
  funext m
  have:((i:Int)+(m:Int) * 1).toNat=i+m:=by lia
  rw[this]
 rw[e];have:=pick_run xs i k;rw[List.filterMap_map]at this;have e2:((λx=>xs[x]?) ∘ λx=>i+x)=λm=>xs[i+m]?:=rfl
 rw[e2]at this;rw[this]
theorem jV{t sl:Addr}{aj:Array Value}{vl vu:Value}{lo hi:Option Int}{Q:Value->Shared->Prop}(ht:IsTup s.heap t aj)(hs:s.heap.IsSliceOf sl vl vu .none)(pl:IsPart vl lo)(pu:IsPart vu hi)
  (hw : ¬ (bL aj.size 0 lo=0/\bL aj.size aj.size hi=aj.size))
  (h:Q (.ref s⁻¹) { s with heap:=s.heap.push { cls:=.type "tuple",data:=.seq ((aj.toList.drop (bL aj.size 0 lo)).take (bL aj.size aj.size hi - bL aj.size 0 lo)).toArray}})
  (jg:aj.size<=sizeLine):wpAny (model prog w) A (getItem (.ref t) (.ref sl)) Q E s:=by
 have jW:sizeOk (.seq ((aj.toList.drop (bL aj.size 0 lo)).take (bL aj.size aj.size hi - bL aj.size 0 lo)).toArray):=by show ((aj.toList.drop (bL aj.size 0 lo)).take (bL aj.size aj.size hi - bL aj.size 0 lo)).toArray.size<=sizeLine;rw[dE,sB,List.length_drop,n0];lia
 have hj:bL aj.size aj.size hi<=aj.size:=Rg _ _ (eJ _) hi;obtain⟨os,hos,hcs,hds⟩:=id hs;have XH:s.TypeIs (.ref sl) "slice" :=⟨os,hos,hcs⟩;unfold getItem
 try with_reducible refine lS ?_
 first |refine aS (d0 ?_) |skip
 refine aS (wpAny_sequenceKey ht.typeIs ⋯ ?_);refine aS (pV (name:=Str.ofString "__getitem__") ht.typeIs nS
  (t7 nS ht.typeIs entry_tuple_getitem ?_ (args_tuple_getitem _ _)))
 show wpAny _ _ (Builtin.Tuple.tupleItemsOf (.ref t) >>= _) _ _ s;refine aS (tupleItemsOf_ ht ?_);refine aS (BY XH ?_);rw[gL ⋯];refine aS (fD hs pl pu ?_);have hno : ¬ ((((bL aj.size 0 lo:Nat):Int)==0&&(1:Int)==1&&(bL aj.size aj.size hi - bL aj.size 0 lo)==aj.size)=true):=by intro q;rw[dS,dS]at q;have q1:((bL aj.size 0 lo:Nat):Int)=0:=eq_of_beq q.1.1;have q2:bL aj.size aj.size hi - bL aj.size 0 lo=aj.size:=eq_of_beq q.2;exact hw ⟨by lia,by lia⟩
 show wpAny _ _ (if (((bL aj.size 0 lo:Nat):Int)==0&&(1:Int)==1&&(bL aj.size aj.size hi - bL aj.size 0 lo)==aj.size)=true then _ else _) _ _ s
 rw[hZ hno,EY]
 first
  |exact aS (m:=Builtin.Tuple.tupleExact _) (l7 (d0 ⟨_,rfl,d0 h⟩) jW)
  |exact aS (m:=Builtin.Tuple.tupleExact _) (l7 (aS (d0 (d0 ⟨_,rfl,d0 h⟩))) jW)
  |exact aS (aS (m:=Builtin.Tuple.tupleExact _) (l7 (d0 (d0 ⟨_,rfl,d0 h⟩)) jW))
  |exact aS (aS (m:=Builtin.Tuple.tupleExact _) (l7 (d0 ⟨_,rfl,d0 h⟩) jW))
end
end HT
namespace L2
abbrev TO:=St->Hp->(Option Int->Hp->Prop)->Prop
def PO(X:Cx)(e:Option Expr)(t:TO):Prop:=
 ∀(ah:List (Addr×Obj)) (s:Shared) (σ:St) (H:Hp) (Q:Option Int->Hp->Prop),Inv X ah σ H s->t σ H Q->
  wpAny (model X.prog X.w) X.A (evalPart e X.env) (λu s'=>∃o H',Inv X ah σ H' s'/\IsPart u o/\Q o H') X.xe s
def Kq:TO:=λ_ H Q=>Q none H
def XJ(t:TE):TO:=λσ H Q=>t σ H λx H1=>∃i,x=.int i/\Q (some i) H1
theorem intsAre_of:∀{us:List Value},Vals (ns.map V.int) us->IntsAre us ns:=by
 induction ns with
 |nil=>intro us r;rw[List.map_nil]at r;cases r;exact .nil
 |cons n ns ih=>
  intro us r;rw[List.map_cons]at r;cases r with
  |cons r1 r2=>obtain⟨t,e⟩:=r1;subst e;exact .cons n t (ih r2)
section
variable{X:Cx}{e:Expr}{te:TE}{lo hi:Option Expr}{tl th:TO}{pos p2:Pos}
theorem Kr:PO X none Kq:=by intro ah s σ H Q I h;rw[evalPart_none];exact d0 ⟨none,H,I,.none,h⟩
theorem Ks(h:PE X e te):PO X (some e) (XJ te):=by
 intro ah s σ H Q I hw;rw[evalPart_some];refine bJ (h ah s σ H _ I hw) λu s1 ⟨x,H1,I1,r1,q1⟩=>?_
 obtain⟨i,rfl,q⟩:=q1;obtain⟨t,rfl⟩:=r1;exact⟨some i,H1,I1,.int i t,q⟩
def SlR(X:Cx)(r:V->Option Int->Option Int->Hp->VK->Prop):Prop:=
 ∀(ah:List (Addr×Obj)) (s:Shared) (σ:St) (H:Hp) (x:V) (v vl vu:Value) (lo hi:Option Int) (sl:Addr) (Q:VK),Inv X ah σ H s->RelV x v->s.heap.IsSliceOf sl vl vu .none->IsPart vl lo->IsPart vu hi->r x lo hi H Q->
  ∃T id,typeLookup (.type T) "__getitem__"=pure (some (.builtin id))/\s.TypeIs v T/\wpAny (model X.prog X.w) X.A (getItem v (.ref sl)) (EP X ah σ Q) X.xe s
noncomputable def tSl(r:V->Option Int->Option Int->Hp->VK->Prop)(te:TE)(tl th:TO):TE:=λσ H Q=>te σ H λx H1=>tl σ H1 λl H2=>th σ H2 λu H3=>r x l u H3 Q
theorem n8{r:V->Option Int->Option Int->Hp->VK->Prop}(hr:SlR X r)(he:PE X e te)(hl:PO X lo tl)(hu:PO X hi th):PE X (.Subscript e (.Slice lo hi none p2) pos) (tSl r te tl th):=by
 intro ah s σ H Q I h;refine Subscript_ (bJ (he ah s σ H _ I h) λv s1 ⟨x,H1,I1,r1,q1⟩=>?_)
 refine wpAny_Slice (bJ (hl ah s1 σ H1 _ I1 q1) λvl s2 ⟨l,H2,I2,pl,q2⟩=>bJ (hu ah s2 σ H2 _ I2 q2) λvu s3 ⟨u,H3,I3,pu,q3⟩=>?_)
 rw[evalPart_none];refine d0 ?_;have I4:Inv X ah σ H3 { s3 with heap:=s3.heap.push { cls:=.type "slice",data:=.fields #[vl,vu,.none]}}:=I3.kept (t':=s3.toks) λb ob q=>bP _ q
 obtain⟨T,id,hT,ht,hg⟩:=hr ah { s3 with heap:=s3.heap.push { cls:=.type "slice",data:=.fields #[vl,vu,.none]}} σ H3 x v vl vu l u s3⁻¹ Q I4 r1 (Heap.IsSliceOf.new ..) pl pu q3;show wpAny (model X.prog X.w) X.A (subscriptTail e (.Slice lo hi none p2) v (.ref s3⁻¹)) (EP X ah σ Q) X.xe { s3 with heap:=s3.heap.push { cls:=.type "slice",data:=.fields #[vl,vu,.none]}};exact tail_any (ops:=[.ref s3⁻¹,v]) ht hT hg (by with_unfolding_all rfl)
def sJ(xs:List V)(lo hi:Option Int):List V:=(xs.drop (HT.bL xs.length 0 lo)).take (HT.bL xs.length xs.length hi - HT.bL xs.length 0 lo)
theorem lZ(xs:List V)(lo hi:Option Int):(sJ xs lo hi).length<=xs.length:=by unfold sJ;rw[sB,List.length_drop];lia
def rSlT(K:Frag):V->Option Int->Option Int->Hp->VK->Prop:=λx lo hi H Q=>∃a xs,x=.ref a/\fC K H a xs/\
 ¬ (HT.bL xs.length 0 lo=0/\HT.bL xs.length xs.length hi=xs.length)/\∀p,H p=none->Q (.ref p) (upd H p (.tup (sJ xs lo hi)))
theorem Rh:SlR X (rSlT X.K):=by
 intro ah s σ H x v vl vu lo hi sl Q I rx hs pl pu h;obtain⟨a,xs,rfl,hx,hw,q⟩:=h;cases rx;obtain⟨its,r,ht,hz⟩:=I.tuple hx;have aL:its.toArray.size=xs.length:=by rw[dE];exact r.length.symm
 refine⟨"tuple",_,PyProof.Rows.slot_tuple_getitem.lookup,ht.typeIs,?_⟩;refine HT.jV ht hs pl pu (by rw[aL];exact hw) ?_ (by rw[aL];exact hz)
 rw[aL];refine⟨.ref s⁻¹,_,I.laid (t':=s.toks) (o:=.tup (sJ xs lo hi)) (λb ob q=>bP _ q) (eJ _) ?_,rfl,q _ (I.hok.fresh (eJ _))⟩
 exact⟨qS (lZ xs lo hi) hz,_,(r.drop (HT.bL xs.length 0 lo)).take (HT.bL xs.length xs.length hi - HT.bL xs.length 0 lo),fc.new _ _⟩
def XM(K:Frag):R2:=λx y H Q=>∃a b xs ys,x=.ref a/\y=.ref b/\fC K H a xs/\fC K H b ys/\xs≠[]/\xs.length+ys.length<=sizeLine/\
 (ys=[]->Q (.ref a) H)/\(ys≠[]->∀p,H p=none->Q (.ref p) (upd H p (.tup (xs++ys))))
theorem Vals.sL(r:Vals xs us):us=[] ↔ xs=[]:=by
 cases r with
 |nil=>simp
 |cons _ _=>simp
theorem Ku:kX X (binaryOp .Add) (XM X.K):=by
 intro ah s σ H x y v u Q I rx ry h;obtain⟨a,b,xs,ys,rfl,rfl,ha,hb,hx,hz,q1,q2⟩:=h;cases rx;cases ry;obtain⟨its,r1,p1,_⟩:=I.tuple ha;obtain⟨iI,r2,p2,_⟩:=I.tuple hb;refine HT.Kp p1 p2 (λz=>hx (r1.sL.mp z)) (λz=>⟨.ref a,H,I,rfl,q1 (r2.sL.mp z)⟩) (λz=>?_) (by rw[<- r1.length,<- r2.length];exact hz)
 refine⟨.ref s⁻¹,_,I.laid (t':=s.toks) (o:=.tup (xs++ys)) (λb ob q=>bP _ q) (eJ _) ?_,rfl,q2 (λw=>z (r2.sL.mpr w)) _ (I.hok.fresh (eJ _))⟩
 exact⟨by rw[fR];exact hz,_,r1.append r2,fc.new _ _⟩
end
noncomputable def xO(n:Nat)(i:Int):Option Nat:=if 0<=i then (if i<n then some i.toNat else none)else if -(n:Int)<=i then some (i+n).toNat else none
def iK{α:Type}(xs:List α)(i:Int):Option α:=(xO xs.length i).bind λj=>xs[j]?
theorem zh(h:xO n i=some j):seqIndex? i n=some j/\j<n/\-(n:Int)<=i/\i<n:=by
 unfold xO at h;by_cases h0:0<=i
 .
  rw[gL h0]at h;by_cases h1:i<n
  . rw[gL h1]at h;have e:i.toNat=j:=oC h;exact⟨by rw[seqIndex_of h0 h1,e],by lia,by lia,h1⟩
  . rw[hZ h1]at h;cases h
 .
  rw[hZ h0]at h;by_cases h1 : -(n:Int)<=i
  . rw[gL h1]at h;have e:(i+n).toNat=j:=oC h;exact⟨by rw[seqIndex_neg ⋯ h1,e],by lia,h1,by lia⟩
  . rw[hZ h1]at h;cases h
theorem zj{α:Type}{xs:List α}{i:Int}{v:α}(h:iK xs i=some v):∃j,seqIndex? i xs.length=some j/\xs[j]?=some v/\j<xs.length/\-(xs.length:Int)<=i/\i<xs.length:=by
 unfold iK at h;cases e:xO xs.length i with
 |none=>rw[e]at h;cases h
 |some j=>rw[e]at h;obtain⟨h1,h2,h3,h4⟩:=zh e;exact⟨j,h1,h,h2,h3,h4⟩
def sM(b:Expr):Prop:=∀o i,subscripted b false o i=operate [o,i] (getItem o i)
def XQ(X:Cx)(r:R2):Prop:=
 ∀(value slice:Expr) (ah:List (Addr×Obj)) (s:Shared) (σ:St) (H:Hp) (x y:V) (v u:Value) (Q:VK),Inv X ah σ H s->RelV x v->RelV y u->r x y H Q->
  subscripted slice false v u=operate [v,u] (getItem v u)->wpAny (model X.prog X.w) X.A (subscriptTail value slice v u) (EP X ah σ Q) X.xe s
def MtR(X:Cx)(id:String)(r:V->List V->Hp->VK->Prop):Prop:=
 ∀(ah:List (Addr×Obj)) (s:Shared) (σ:St) (H:Hp) (x:V) (xs:List V) (v:Value) (us:List Value) (Q:VK),Inv X ah σ H s->RelV x v->Vals xs us->r x xs H Q->
  wpAny (model X.prog X.w) X.A (call (.builtin id) (v::us)) (EP X ah σ Q) X.xe s
section
variable{X:Cx}{a b:Expr}{ta tb:TE}{pos:Pos}
theorem XR{r:R2}(hr:XQ X r)(ha:PE X a ta)(hb:PE X b tb)(hs:sM b):PE X (.Subscript a b pos) (tOp r ta tb):=by intro ah s σ H Q I h;exact Subscript_ (Q5 ha hb I h λv u s2 x y H2 I2 rx ry q=>hr a b ah s2 σ H2 x y v u Q I2 rx ry q (hs _ _))
def rIxL(K:Frag):R2:=λx y H Q=>∃p xs i v,x=.ref p/\y=.int i/\bN K H p xs/\iK xs i=some v/\Q v H
def rIxT(K:Frag):R2:=λx y H Q=>∃p xs i v,x=.ref p/\y=.int i/\fC K H p xs/\iK xs i=some v/\Q v H
theorem zm:XQ X (rIxL X.K):=by
 intro value slice ah s σ H x y v u Q I rx ry h hs;obtain⟨p,xs,i,z,rfl,rfl,hq,he,q⟩:=h;cases rx;obtain⟨t,rfl⟩:=ry;obtain⟨its,r,pl,hz⟩:=I.list hq;obtain⟨j,h1,h2,h3,h4,h5⟩:=zj he;obtain⟨w,ew,rw'⟩:=r.get h2;have hl:=r.length;have hn:=nZ;have fin:EP X ah σ Q w s:=⟨z,H,I,rw',q⟩;by_cases h0:0<=i
 .
  have hj:i.toNat=j:=by rw[seqIndex_of h0 h5]at h1;exact oC h1
  exact item_listR pl.isList h0 ⋯ (by rw[hj];simpa using ew) fin hs
 .
  have hj:(i+(its.toArray.size:Int)).toNat=j:=by rw[seqIndex_neg ⋯ h4]at h1;rw[dE,<- hl];exact oC h1
  exact subscriptTail_builtinR (x:=w) pl.isList.typeIs slot_list_getitem.lookup
   (wpAny_getItem_list_neg (Q:=λr s'=>r=w/\EP X ah σ Q r s') pl.isList ⋯ (by rw[dE] <;> lia) ⋯ (by rw[hj];simpa using ew) ⟨rfl,fin⟩) hs
theorem Ri:XQ X (rIxT X.K):=by
 intro value slice ah s σ H x y v u Q I rx ry h hs;obtain⟨p,xs,i,z,rfl,rfl,hq,he,q⟩:=h;cases rx;obtain⟨t,rfl⟩:=ry;obtain⟨its,r,pl,hz⟩:=I.tuple hq;obtain⟨j,h1,h2,h3,h4,h5⟩:=zj he;obtain⟨w,ew,rw'⟩:=r.get h2;have hl:=r.length;have hn:=nZ;have fin:EP X ah σ Q w s:=⟨z,H,I,rw',q⟩;exact subscriptTail_builtinR (x:=w) pl.typeIs slot_tuple_getitem.lookup
  (getItem_tuple (j:=j) (Q:=λr s'=>r=w/\EP X ah σ Q r s') pl ⋯ ⋯ (by rw[dE,<- hl];exact h1) (by simpa using ew) ⟨rfl,fin⟩) hs
theorem xP(its:List Value)(n j:Nat)(u:Value):Obj.mapSeq (·.setIfInBounds j u) { cls:=.type "list",data:=.seq its.toArray n}={ cls:=.type "list",data:=.seq (its.set j u).toArray n}:=by simp[Obj.mapSeq]
theorem Inv.lst{ah:List (Addr×Obj)}{σ:St}{H:Hp}{s:Shared}{p:Addr}{xs:List V}(I:Inv X ah σ H s)(h:H p=some (.lst xs)) :
  ∃(its:List Value) (n:Nat),Vals xs its/\s.heap.get? p=some { cls:=.type "list",data:=.seq its.toArray n}/\xs.length<=sizeLine:=by
 obtain⟨z,its,n,r,e⟩:=I.hok p _ h;exact⟨its,n,r,e,z⟩
theorem Inv.Rj{ah:List (Addr×Obj)}{σ:St}{H:Hp}{s:Shared}{p:Addr}{xs ys:List V}{its its':List Value}{n n':Nat}{f:Obj->Obj}(I:Inv X ah σ H s)(h:H p=some (.lst xs))
  (ho:s.heap.get? p=some { cls:=.type "list",data:=.seq its.toArray n}) (hf:f { cls:=.type "list",data:=.seq its.toArray n}={ cls:=.type "list",data:=.seq its'.toArray n'}) (r:Vals ys its') (hz:ys.length<=sizeLine) (t:Nat) :
  Inv X ah σ (upd H p (.lst ys)) { s with heap:=s.heap.update p f,toks:=t}:=by
 have e:(s.heap.update p f).get? p=some { cls:=.type "list",data:=.seq its'.toArray n'}:=by rw[oQ f ho (by rw[hf] <;> rfl),hf]
 refine I.write (x:=p) (e:=p) (by rw[h];trivial) (.inl rfl) (λb u hb q=>(gN _ _ (oI hb)).trans q) ⟨_,e⟩ ?_
 exact⟨hz,its',n',r,e⟩
def XS:V->V->V->Hp->(Hp->Prop)->Prop:=λo i v H Q=>∃p xs k j,o=.ref p/\i=.int k/\H p=some (.lst xs)/\xO xs.length k=some j/\Q (upd H p (.lst (xs.set j v)))
theorem set_list:Xj X XS:=by
 intro ah s σ H o i v ov iv u Q I ro ri rv h;obtain⟨p,xs,k,j,rfl,rfl,hp,hj,q⟩:=h;cases ro;obtain⟨t,rfl⟩:=ri;obtain⟨its,n,r,ho,hz⟩:=I.lst hp;obtain⟨h1,h2,h3,h4⟩:=zh hj;have hl:=r.length;have hn:=nZ;have I':Inv X ah σ (upd H p (.lst (xs.set j v))) { s with heap:=s.heap.update p (Obj.mapSeq (·.setIfInBounds j u))}:=
  I.Rj hp ho (xP its n j u) (r.set rv j) (by rw[u7];exact hz) s.toks
 by_cases h0:0<=k
 .
  have hk:k.toNat=j:=by rw[seqIndex_of h0 h4]at h1;exact oC h1
  exact PySem.W.ki_setAt ho h0 ⋯ (by rw[dE,<- hl];exact h4) (by rw[hk];exact⟨_,I',q⟩)
 .
  have hk:(k+(its.toArray.size:Int)).toNat=j:=by rw[seqIndex_neg ⋯ h3]at h1;rw[dE,<- hl];exact oC h1
  exact PySem.W.ki_setBack ho ⋯ (by rw[dE,<- hl];exact h3) ⋯ (by rw[hk];exact⟨_,I',q⟩)
theorem sN(lo hi:Option Int)(n:Nat):(sliceBounds lo hi none n).1=((HT.bL n 0 lo:Nat):Int)/\(sliceBounds lo hi none n).2.1=((HT.bL n n hi:Nat):Int)/\(sliceBounds lo hi none n).2.2=1:=by
 refine⟨?_,?_,rfl⟩
 .
  cases lo with
  |none=>simp[sliceBounds,HT.bL]
  |some i=>
   simp only[sliceBounds,HT.bL,Option.getD_none,show (1:Int) > 0 by decide,AI]
   by_cases h:i<0
   . simp only[h,AI] <;> lia
   . simp only[h,CD] <;> lia
 .
  cases hi with
  |none=>simp[sliceBounds,HT.bL]
  |some i=>
   simp only[sliceBounds,HT.bL,Option.getD_none,show (1:Int) > 0 by decide,AI]
   by_cases h:i<0
   . simp only[h,AI] <;> lia
   . simp only[h,CD] <;> lia
theorem qo(its:List Value)(lo hi:Option Int):slicePick its.toArray lo hi none=((its.drop (HT.bL its.length 0 lo)).take (HT.bL its.length its.length hi - HT.bL its.length 0 lo)).toArray:=by obtain⟨h1,h2,h3⟩:=sN lo hi its.toArray.size;unfold slicePick;rw[h1,h2,h3];simp only[sliceRange_one,pick_run,dE] <;> rfl
def rSlL(K:Frag):V->Option Int->Option Int->Hp->VK->Prop:=λx lo hi H Q=>∃a xs,x=.ref a/\bN K H a xs/\∀p,H p=none->Q (.ref p) (upd H p (.lst (sJ xs lo hi)))
theorem zo:SlR X (rSlL X.K):=by
 intro ah s σ H x v vl vu lo hi sl Q I rx hs pl pu h;obtain⟨a,xs,rfl,hx,q⟩:=h;cases rx;obtain⟨its,r,ht,hz⟩:=I.list hx;have aL:=r.length;refine⟨"list",_,slot_list_getitem.lookup,ht.isList.typeIs,?_⟩;refine wpAny_getItem_list_slice ht.isList hs pl pu .none ⋯ ?_ (by rw[dE] <;> lia)
 rw[qo,<- aL];refine⟨.ref s⁻¹,_,I.laid (t':=s.toks) (o:=.lst (sJ xs lo hi)) (λb ob q=>bP _ q) (eJ _) ?_,rfl,q _ (I.hok.fresh (eJ _))⟩
 exact⟨qS (lZ xs lo hi) hz,_,0,(r.drop (HT.bL xs.length 0 lo)).take (HT.bL xs.length xs.length hi - HT.bL xs.length 0 lo),eA _ rfl⟩
theorem sO:dB X (.type "list") (λxs H Q=>∃p ys,xs=[.ref p]/\(bN X.K H p ys\/fC X.K H p ys)/\∀l,H l=none->Q (.ref l) (upd H l (.lst ys))):=by
 intro ah s σ H xs us Q I r h;obtain⟨p,ys,rfl,hq,q⟩:=h;obtain⟨u,rfl,rx⟩:=vals1 r;cases rx;have fin:∀(its:List Value),Vals ys its->ys.length<=sizeLine->∀(h':Heap) (c':Nat),(∀b o',s.heap.get? b=some o'->h'.get? b=some o')->
   h'.get? s⁻¹=some { cls:=.type "list",dict:=none,data:=.seq its.toArray c',slots:=#[]}->EP X ah σ Q (.ref s⁻¹) { s with heap:=h'}:=λits r' hz h' c' kp e=>
  ⟨.ref s⁻¹,_,I.laid (t':=s.toks) kp (eJ _) (show cI X.prog X.w _ h' _ (.lst ys)from⟨hz,its,c',r',e⟩),rfl,q _ (I.hok.fresh (eJ _))⟩
 rcases hq with hq |hq
 . obtain⟨its,r',pl,hz⟩:=I.list hq;have aL:=r'.length;obtain⟨o,ho,hc,n,hd⟩:=pl.isList;exact call_list_seq p (.inl rfl) ho hc hd (λh' c' kp e=>fin its r' hz h' c' kp e) (by simp only[dE] <;> lia)
 . obtain⟨its,r',pl,hz⟩:=I.tuple hq;have aL:=r'.length;obtain⟨o,ho,hc,n,hd⟩:=pl;exact call_list_seq p (.inr rfl) ho hc hd (λh' c' kp e=>fin its r' hz h' c' kp e) (by simp only[dE] <;> lia)
theorem qq:dB X (.type "tuple") (λxs H Q=>∃p ys,xs=[.ref p]/\((bN X.K H p ys/\∀l,H l=none->Q (.ref l) (upd H l (.tup ys)))\/(fC X.K H p ys/\Q (.ref p) H))):=by
 intro ah s σ H xs us Q I r h;obtain⟨p,ys,rfl,h⟩:=h;obtain⟨u,rfl,rx⟩:=vals1 r;cases rx;rcases h with ⟨hq,q⟩ |⟨hq,q⟩
 .
  obtain⟨its,r',pl,hz⟩:=I.list hq;have aL:=r'.length;refine call_tuple_list pl.isList (λh' kp=>?_) (by simp only[dE] <;> lia)
  have I1:Inv X ah σ H { s with heap:=h'}:=I.kept (t':=s.toks) kp;have I2:Inv X ah σ (upd H h'.objs.size (.tup ys)) { s with heap:=h'.push { cls:=.type "tuple",data:=.seq its.toArray}}:=
   I1.laid (t':=s.toks) (λb o e=>bP _ e) (eJ _) (show cI X.prog X.w _ _ _ (.tup ys)from⟨hz,its,r',fc.new _ _⟩)
  exact⟨.ref h'.objs.size,_,I2,rfl,q _ (I1.hok.fresh (eJ _))⟩
 . obtain⟨its,r',pl,hz⟩:=I.tuple hq;exact call_tuple_same pl ⟨.ref p,H,I,rfl,q⟩
def tyV(K:Frag)(T:String)(x:V)(H:Hp):Prop:=match x with
 |.str _=>T = "str"
 |.int _=>T = "int"
 |.ref p=>(T = "list" /\∃xs,bN K H p xs)\/(T = "tuple" /\∃o,K.lookup p=some o/\o.cls=.type "tuple" /\o.dict=none)\/
   (T = "dict" /\((∃dc,H p=some (.dK dc))\/∃dc,H p=some (.dT dc)))\/(T = "set" /\∃S n,H p=some (.set S n))
 |_=>False
theorem Rk{ah:List (Addr×Obj)}{σ:St}{H:Hp}{s:Shared}{T:String}{x:V}{v:Value}(I:Inv X ah σ H s)(r:RelV x v)(ty:tyV X.K T x H) :
  s.TypeIs v T/\∀a,v=.ref a->∃ob,s.heap.get? a=some ob/\ob.dict=none:=by
 cases x with
 |str z=>
  obtain⟨t,rfl⟩:=r;cases (show T = "str" from ty)
  exact⟨typeIs_str s z t,λ_ e=>nomatch e⟩
 |int i=>
  obtain⟨t,rfl⟩:=r;cases (show T = "int" from ty)
  exact⟨typeIs_int s i t,λ_ e=>nomatch e⟩
 |ref p=>
  cases r;rcases ty with ⟨rfl,xs,hq⟩ |⟨rfl,o,hk,hc,hd⟩ |⟨rfl,hk⟩ |⟨rfl,S,n,hk⟩
  .
   obtain⟨its,_,pl,_⟩:=I.list hq;refine⟨pl.isList.typeIs,λa e=>?_⟩
   cases e;obtain⟨o,n,e,c,hd,_⟩:=pl;exact⟨o,e,hd⟩
  .
   refine⟨⟨o,I.mR p o hk,hc⟩,λa e=>?_⟩
   cases e;exact⟨o,I.mR _ o hk,hd⟩
  .
   have z:∃o,s.heap.get? p=some o/\o.ExactDict:=by
    rcases hk with ⟨dc,hk⟩ |⟨dc,hk⟩
    . obtain⟨_,_,_,_,o,_,_,e,ex,_⟩:=I.hok p _ hk;exact⟨o,e,ex⟩
    . obtain⟨_,_,_,_,o,_,_,e,ex,_⟩:=I.hok p _ hk;exact⟨o,e,ex⟩
   obtain⟨o,e,ex⟩:=z;refine⟨⟨o,e,ex.1⟩,λa e2=>?_⟩
   cases e2;exact⟨o,e,ex.2.1⟩
  .
   obtain⟨o,_,_,_,e,ex,_⟩:=I.hok p _ hk;refine⟨⟨o,e,ex.1⟩,λa e2=>?_⟩
   cases e2;exact⟨o,e,ex.2.1⟩
 |_=>exact False.elim ty
def tBM(K:Frag)(T:String)(r:V->List V->Hp->VK->Prop)(to:TE)(t:TA):TE:=λσ H Q=>to σ H λx H1=>tyV K T x H1/\t σ H1 λxs H2=>r x xs H2 Q
variable{o e:Expr}{es:List Expr}{to:TE}{t:TA}{name:Str}{bX bh:Pos}{T id:String}{r:V->List V->Hp->VK->Prop}
theorem Fb(pa:PlainAttrs T)(slot:Slot T name id)(hty:typeOf (.builtin id)=pure (.type "method_descriptor"))(hm:MtR X id r)(ho:PE X o to)(ha:PA X (e::es) t)
  (hbase:attributeBase o name X.env (eval o X.env)=eval o X.env:=by rfl)
  (hfew:((backTo bh (starEach (e::es) X.env)).all (λx=>!x.1)&&(backToKw bh (keywordEach [] X.env)).all (λx=>x.1.isSome)
   && decide ((e::es).length+([]:List Keyword).length+(if ([]:List Keyword).isEmpty then 0 else 1)<30))=true:=by rfl)
  (hline:(bX.endLine==bh.line)=true:=by rfl) (hs:starEach (e::es) X.env=(false,eval e X.env)::starEach es X.env:=by rfl) (hplain:(backTo bh (starEach es X.env)).any (·.1)=false:=by rfl) :
  PE X (.Call (.Attribute o name bX) (e::es) [] bh) (tBM X.K T r to t):=by
 intro ah s σ H Q I h;refine wpAny_Call_method_late hbase hfew hline rfl (bJ (ho ah s σ H _ I h) λv s1 ⟨x,H1,I1,r1,ty,q1⟩=>?_)
 obtain⟨h1,h2⟩:=Rk I1 r1 ty;refine⟨T,id,pa,slot,hty,h1,h2,?_⟩;have hA:=ha bh ah s1 σ H1 _ I1 q1;rw[hs]at hA ⊢
 refine Calls.callWith_builtin (by show (false||(backTo bh (starEach es X.env)).any (·.1))=false;rw[hplain] <;> rfl) (Calls.evalArgs_plain ?_)
 exact bJ hA λus s2 ⟨vs,H2,I2,r2,q2⟩=>hm ah s2 σ H2 x vs v us Q I2 r1 r2 q2
/- xs.append(e),list.index on a module's tuple .. are MtR facts of 06m -/
end
def MtM(X:Cx)(id:String)(r:V->List V->Hp->VK->Prop):Prop:=
 ∀(ah:List (Addr×Obj)) (s:Shared) (σ:St) (H:Hp) (x:V) (xs:List V) (v:Value) (us:List Value) (Q:VK),Inv X ah σ H s->RelV x v->Vals xs us->r x xs H Q->
  wpAny (model X.prog X.w) X.A (call (.builtin id) (v::us)) (EP X ah σ Q) X.xe s
theorem Vals.one:∀{x:V}{us:List Value},Vals [x] us->∃u,us=[u]/\RelV x u
 |_,_,.cons r .nil=>⟨_,rfl,r⟩
theorem Vals.reverse{xs:List V}{us:List Value}(h:Vals xs us):Vals xs.reverse us.reverse:=by
 induction h with
 |nil=>exact .nil
 |cons r t ih=>rw[BO,BO];exact Vals.append ih (.cons r .nil)
theorem Vals.rep(h:Vals xs us):∀k:Nat,Vals (List.replicate k xs).flatten (List.replicate k us).flatten
 | 0=>.nil
 |k+1=>by
  rw[o6,o6,AA,AA];exact Vals.append h (Vals.rep h k)
theorem foldl_rep(its:List Value):∀(k:Nat) (acc:List Value),
  List.foldl (λx1 x2=>x1++x2) acc.toArray (List.replicate k its.toArray)=(acc++(List.replicate k its).flatten).toArray
 | 0,acc=>by simp
 |k+1,acc=>by
  have e:acc.toArray++its.toArray=(acc++its).toArray:=by simp
  have e2:(acc++its)++(List.replicate k its).flatten=acc++(List.replicate (k+1) its).flatten:=by rw[o6,AA,AQ]
  rw[<- e2,<- foldl_rep its k (acc++its),<- e,o6,List.foldl_cons]
section
variable{X:Cx}{ah:List (Addr×Obj)}{σ:St}{H:Hp}{s:Shared}{l b:Addr}{xs ys zs:List V}
theorem Inv.Rl{its its':List Value}{n:Nat}{f:Array Value->Array Value}{t':Nat}(I:Inv X ah σ H s)(hH:H l=some (.lst xs))
  (e:s.heap.get? l=some { cls:=.type "list",data:=.seq its.toArray n}) (hf:f its.toArray=its'.toArray) (hv:Vals ys its') (hz:ys.length<=sizeLine) :
  Inv X ah σ (upd H l (.lst ys)) { s with heap:=s.heap.update l (Obj.mapSeq f),toks:=t'}:=by
 have q:=PySem.IsL.update e f;rw[hf]at q;refine I.write (x:=l) (e:=l) (by rw[hH];exact trivial) (.inl rfl) (λb' u hb hu=>(gN s.heap (Obj.mapSeq f) (oI hb)).trans hu) ⟨_,q⟩ ?_
 exact⟨hz,its',_,hv,q⟩
theorem Inv.XT(I:Inv X ah σ H s)(hv:Vals ys its)(hz:ys.length<=sizeLine) :
  Inv X ah σ (upd H s⁻¹ (.lst ys)) { s with heap:=s.heap.push { cls:=.type "list",data:=.seq its.toArray},toks:=t'}:=
 I.laid (λ_ _ q=>bP _ q) (eJ _) ⟨hz,its,0,hv,eA _ rfl⟩
theorem Inv.fresh(I:Inv X ah σ H s):H s⁻¹=none:=I.hok.fresh (eJ _)
theorem Inv.uY(I:Inv X ah σ H s)(hH:H l=some (.lst xs)):xs.length<=sizeLine/\∃(its:List Value) (n:Nat),Vals xs its/\xs.length=its.length/\s.heap.get? l=some { cls:=.type "list",data:=.seq its.toArray n}:=by obtain⟨z,its,n,r,e⟩:=I.hok l _ hH;exact⟨z,its,n,r,r.length,e⟩
theorem n9(h:n<=sizeLine):Builtin.List.listTooLong n=false:=by unfold Builtin.List.listTooLong;exact mP ⋯
end
section
variable{X:Cx}
def Kv:V->List V->Hp->VK->Prop:=λx vs H Q=>∃l xs y,x=.ref l/\vs=[y]/\H l=some (.lst xs)/\xs.length<sizeLine/\Q .non (upd H l (.lst (xs++[y])))
theorem kY:MtM X "list.append" Kv:=by
 intro ah s σ H x vs v us Q I rx rv h;obtain⟨l,xs,y,rfl,rfl,hH,hz,q⟩:=h;cases rx;obtain⟨u,rfl,ru⟩:=rv.one;obtain⟨z,its,n,r,hl,e⟩:=I.uY hH;refine call_meets F.slot_list_append ⟨_,e,rfl⟩ F.entry_list_append (F.args_list_append_2 _ _) (PySem.list_append l its.toArray n u (by rw[dE];lia)) ⟨e,?_⟩
 refine⟨.non,_,I.Rl (its':=its++[u]) hH e ⋯ (r.append (.cons ru .nil)) ?_,rfl,q⟩;rw[fR,nV];lia
def Kw:V->List V->Hp->VK->Prop:=λx vs H Q=>∃l b xs zs,x=.ref l/\vs=[.ref b]/\H l=some (.lst xs)/\H b=some (.lst zs)/\xs.length+zs.length<=sizeLine/\Q .non (upd H l (.lst (xs++zs)))
theorem Bf:MtM X "list.extend" Kw:=by
 intro ah s σ H x vs v us Q I rx rv h;obtain⟨l,b,xs,zs,rfl,rfl,hH,hB,hz,q⟩:=h;cases rx;obtain⟨u,rfl,ru⟩:=rv.one;cases ru;obtain⟨z,its,n,r,hl,e⟩:=I.uY hH;obtain⟨z2,iI,n2,r2,hl2,e2⟩:=I.uY hB;have jg:its.toArray.size+iI.toArray.size<=sizeLine:=by rw[dE,dE];lia
 have uZ : ¬ (!its.toArray.isEmpty&&Builtin.List.listTooLong (its.toArray.size+iI.toArray.size))=true:=by rw[n9 jg,CI];exact i5
 refine call_meets F.slot_list_extend ⟨_,e,rfl⟩ F.entry_list_extend (F.args_list_extend_2 _ _)
  (AutoSeq1.list_extend_list_list_0 l its.toArray n b iI.toArray n2 uZ (by rw[dE];lia) ⋯) ⟨e,e2,?_⟩
 refine⟨.non,_,I.Rl (its':=its++iI) hH e ⋯ (r.append r2) ?_,rfl,q⟩;rw[fR];lia
def rCat:R2:=λx y H Q=>∃l b xs zs,x=.ref l/\y=.ref b/\H l=some (.lst xs)/\H b=some (.lst zs)/\xs.length+zs.length<=sizeLine/\∀p,H p=none->Q (.ref p) (upd H p (.lst (xs++zs)))
theorem Rm:kX X (binaryOp .Add) rCat:=by
 intro ah s σ H x y v u Q I rx ry h;obtain⟨l,b,xs,zs,rfl,rfl,hH,hB,hz,q⟩:=h;cases rx;cases ry;obtain⟨z,its,n,r,hl,e⟩:=I.uY hH;obtain⟨z2,iI,n2,r2,hl2,e2⟩:=I.uY hB;refine PySem.P.add_list e e2 ?_ (by rw[dE,dE];lia)
 have ea:its.toArray++iI.toArray=(its++iI).toArray:=by simp
 rw[ea];exact⟨.ref _,_,I.XT (t':=s.toks) (r.append r2) (by rw[fR];lia),rfl,q _ I.fresh⟩
def rRep:R2:=λx y H Q=>∃l k xs,x=.ref l/\y=.int k/\H l=some (.lst xs)/\-(2 ^ 63)<=k/\k<2 ^ 63/\xs.length * k.toNat<=sizeLine/\
 ∀p,H p=none->Q (.ref p) (upd H p (.lst (List.replicate k.toNat xs).flatten))
theorem len_rep{α:Type}(xs:List α)(k:Nat):(List.replicate k xs).flatten.length=k * xs.length:=by
 induction k with
 |zero=>simp
 |succ k ih=>rw[o6,AA,fR,ih,Nat.succ_mul,Nat.add_comm]
theorem Ro:kX X (binaryOp .Mult) rRep:=by
 intro ah s σ H x y v u Q I rx ry h;obtain⟨l,k,xs,rfl,rfl,hH,h1,h2,hz,q⟩:=h;cases rx;obtain⟨t,rfl⟩:=ry;obtain⟨z,its,n,r,hl,e⟩:=I.uY hH;have aL:its.toArray.size * k.toNat<=sizeLine:=by rw[dE,<- hl];exact hz
 have hcap : ¬ its.toArray.size * k.toNat > (2 ^ 63 - 1) / 8:=by
  have:(sizeLine:Nat)<=(2 ^ 63 - 1) / 8:=by decide
  lia
 have hfit : ¬ (!Builtin.List.listFitsIndex k)=true:=by rw[fitsIndex_both h1 h2];exact i5
 have uZ : ¬ Builtin.List.listTooLong (its.toArray.size * k.toNat)=true:=by rw[n9 aL];exact i5
 have hnew:List.foldl (λx1 x2=>x1++x2) #[] (List.replicate (if its.toArray.isEmpty=true then 0 else k.toNat) its.toArray)=(List.replicate k.toNat its).flatten.toArray:=by
  have f0:∀m:Nat,List.foldl (λx1 x2=>x1++x2) #[] (List.replicate m its.toArray)=(List.replicate m its).flatten.toArray:=λm=>by
   have:=foldl_rep its m [];rw[A9]at this;exact this
  rw[f0];cases its with
  |nil=>simp
  |cons a r'=>rw[hZ ⋯]
 refine wpAny_binaryOp_repeat_ref (T:= "list") (U:= "int") ⋯ ⟨_,e,rfl⟩ (λs'=>typeIs_int s' k t) noFill_list_mul F.fills_int_mul F.slot_int_rmul repeat_list F.slot_int_index.lookup
  (call_meets F.slot_int_rmul (typeIs_int s k t) F.entry_int_rmul (F.args_int_rmul_2 _ _) (int___rmul___int_list k t l its.toArray n)
   ⟨e,rfl,⟨_,e,rfl⟩,call_meets F.slot_list_mul ⟨_,e,rfl⟩ F.entry_list_mul (F.args_list_mul_2 _ _) (AutoListH.list___mul___list_int_3 l its.toArray n k t hfit hcap uZ) ⟨e,?_⟩⟩)
 rw[hnew];exact⟨.ref _,_,I.XT (t':=s.toks) (r.rep k.toNat) (by rw[len_rep,Nat.mul_comm];exact hz),rfl,q _ I.fresh⟩
end
end L2
namespace Att
open PySem PySem.W PySem.Calls PyProof.Rows
theorem mS:∀(ns:List Int) (vs:List Value),WellAll P h vs (ns.map WData.int)->IntsAre vs ns:=by
 intro ns
 induction ns with
 |nil=>intro vs w;rw[List.map_nil]at w;cases w;exact .nil
 |cons n ns ih=>
  intro vs w;rw[List.map_cons]at w;cases w with
  |cons a b=>cases a;exact .cons _ _ (ih _ b)
theorem Bg{l:OpenLaw}{n:Nat}(hn:l.most=some n){P:Params}{h:Heap}{args:List WData}{vals:List Value}
  (hpre:l.row.toRowW.claim.pre args=true) (hwl:WellAll P h vals args) :
  ∃a vs ns,vals=[Value.ref a]/\args=[WData.list (ns.map WData.int)]/\h.get? a=some { cls:=.type "list",data:=.seq vs.toArray}/\IntsAre vs ns/\ns.length<=n:=by
 have hsh:WShape.hasAll [] args [.list .int]=true:=(pre_splitW hpre).1;have hc:l.pre.holds [] { args:=args}=true:=(pre_splitW hpre).2;obtain⟨d,r,rfl,h1,h2⟩:=hasAllW_cons hsh;obtain rfl:=hasAllW_nil h2;obtain⟨xs,rfl,h3⟩:=hasW_list h1;obtain⟨ns,rfl⟩:=items_int h3;have aL:ns.length<=n:=by
  unfold OpenLaw.pre at hc;have h4:(WTm.not (.lt (.lit (.int (n:Int))) (.len (.arg 0)))).holds [] { args:=[.list (ns.map .int)]}=true:=by have h4:=(holds_andW hc).1;rw[hn]at h4;exact h4
  have h5:=condW_of h4 (w_not (w_lt w_lit (w_len_list (w_arg rfl))));rw[d6]at h5;refine Nat.le_of_not_lt λq=>?_
  have q':(n:Int)<((ns.length:Nat):Int):=by lia
  first
   | (rw[oD q']at h5;exact absurd h5 ⋯)
   | (simp at h5;lia)
 cases hwl with
 |cons w1 w2=>
  cases w2;cases w1 with
  |list ho hall=>exact⟨_,_,ns,rfl,rfl,ho,mS ns _ hall,aL⟩
theorem Bh(l:OpenLaw)(args:List WData):l.row.toRowW.claim.post args (.bool true) args=true:=
 postW_of (r:=l.row.toRowW) (X:=(true==true))
  (show WShape.has [] (.bool true) .bool=true by first |rfl |decide |simp[WShape.has,WShape.arms,WShape.armsAll])
  (show (WTm.eq .res (.lit (.bool true))).value [] { args:=args,res:=some (.bool true),after:=args}=some (.bool (true==true))from w_eq_bool (w_res rfl) w_lit) rfl
theorem u5{l:OpenLaw}{n:Nat}{q:Program}{loose:List Str}{XP:(Str->Option Value)->Heap->Prop}{YP:World->Heap->Prop}{d:DefRec}
  (hn:l.most=some n) (fX:d.params.defaults=[])
  (call:∀(w:World) (s₀ s₁:Shared) (mg mb:Str->Option Value) (fa:Addr) (o:Obj) (pm cd doc:Value) (a:Addr) (vs:List Value) (ns:List Int),
   Ground q loose [] XP w s₀ mg mb s₁.heap->YP w s₁.heap->
   s₁.heap.get? fa=some o->o.data=.func (docDef d.name d.params d.body d.scope pm cd doc)->s₁.heap.CodeRec cd d.name->mg d.name=some (.ref fa)->
   s₁.heap.get? a=some { cls:=.type "list",data:=.seq vs.toArray}->IntsAre vs ns->ns.length<=n->s₁.gens = #[]->
   codeAny (model l.prog w) callerA (.call (.ref fa) ⟨[.ref a],[]⟩) (λr s'=>r=.ok (.ret (.bool true))/\OldK s₁.heap s'.heap/\s'.os=s₁.os/\AllBare s'.gens) s₁) :
  WalkO q loose XP YP l.row.toRowW d [] (λf vs=>PySem.call f vs):=by
 intro w s₀ s₁ mg mb G Y fa o pm cd doc dV kV ho hd bH hD hmg hg args vals as hpre hlay hrd hwl hlo;obtain rfl:dV=.none:=Dflts.none hD fX;obtain rfl:kV=.none:=Dflts.noKw hD;obtain⟨a,vs,ns,rfl,rfl,hobj,hints,aL⟩:=Bg hn hpre hwl;refine enter_call (AY (call w s₀ s₁ mg mb fa o pm cd doc a vs ns G Y ho (fd_plain hd) bH hmg hobj hints aL hg) λr s' hq=>?_)
 obtain⟨rfl,h2,h3,h4⟩:=hq;exact⟨.inl ⟨.bool true,.bool true,[],rfl,λ_=>rfl,.bool true,Bh l _,λ_=>⟨List.Pairwise.nil,λ_ hm=>(nomatch hm)⟩⟩,h2,h3,h4⟩
end Att
namespace L2
theorem iL:∀{vs:List Value}{ns:List Int},IntsAre vs ns->Vals (ns.map V.int) vs
 |_,_,.nil=>.nil
 |_,_,.cons n t h=>.cons ⟨t,rfl⟩ (iL h)
abbrev KOf{K:Frag}{h:Heap}(_:K.In h):Frag:=K
abbrev uI:Be:=λ_ _ _ _ _ _=>False
abbrev E0:XK:=λ_ _ _=>False
theorem Pw:Passes uI X E0:=λ_ _ _ _ _ _ _ h=>h.elim
structure JF(K:Frag)(x qual:Str)(st:Stmt)(f:Addr)(fd:FuncData):Prop where
 ex:∃(oc:Value) (od:Option Addr) (kV doc pm:Value) (an:Option Addr) (bE ct:Value) (osl:Array (Option Value)),
  fd=PySem.W.fnOf x qual (iJ st) (bB st) (aC st) .none kV doc pm an bE ct/\K.lookup f=some ⟨oc,od,.func fd,osl⟩/\PySem.W.codeIn K bE qual=true
 kp:PySem.W.keepIn K (.ref f)=true
section
variable{P:Program}{w:World}{K:Frag}{mg:Str->Option Value}{base:Heap}
theorem Rp{x qual:Str}{st:Stmt}{f:Addr}{oc:Value}{od an:Option Addr}{osl:Array (Option Value)}{kV doc pm bE ct:Value}(l:K.lookup f=some ⟨oc,od,.func (PySem.W.fnOf x qual (iJ st) (bB st) (aC st) .none kV doc pm an bE ct),osl⟩)
  (c:PySem.W.codeIn K bE qual=true) (k:PySem.W.keepIn K (.ref f)=true):JF K x qual st f (PySem.W.fnOf x qual (iJ st) (bB st) (aC st) .none kV doc pm an bE ct):=⟨⟨oc,od,kV,doc,pm,an,bE,ct,osl,rfl,l,c⟩,k⟩
end
theorem mU{A B:Prop}(h:B):if false=true then A else B:=by rw[hZ i5];exact h
theorem jt{A B:Prop}(h:A):if true=true then A else B:=by rw[gL rfl];exact h
noncomputable def Cx.block(X:Cx)(N:List Str)(scope:Scope)(cl:List (Str×Addr))(C:Addr)(s₀:Shared)(H₀:Hp)(fp:List Addr):Cx:=
 { X with N:=N,s₀:=s₀,H₀:=H₀,env:=compEnvC scope cl C X.env,outer:=X.stack,ex:=fp,fn:=λx=>scope.names.lookup x==some .local,pn:=[],xe:=λ_ _=>False}
structure Bk where
 cl:List (Str×Addr)
 C:Addr
 s₀:Shared
 H₀:Hp
 fp:List Addr
abbrev Cx.blk (X:Cx) (N:List Str) (scope:Scope) (b:Bk):Cx:=X.block N scope b.cl b.C b.s₀ b.H₀ b.fp
structure aH(sc scope:Scope):Prop where
 kind:scope.kind=.function
 sP:∀y∈scope.names,y.2≠.cell
 uniq:∀y∈scope.names,y.2=.local->scope.names.lookup y.1=some .local
 XX:∀y∈scope.names,y.2=.free->scope.names.lookup y.1=some .free
 free:∀y∈scope.names,y.2=.free->sc.names.lookup y.1=some .cell\/sc.names.lookup y.1=some .free
theorem mem_of_lookup{α:Type}{x:Str}{v:α}:∀{l:List (Str×α)},l.lookup x=some v->(x,v)∈l
 | [],h=>by simp at h
 | (n,k)::r,h=>by
  cases hx:x==n with
  |true=>
   simp only[pE,hx]at h;cases h;have e:x=n:=by simpa using hx
   subst e;exact dL
  |false=>simp only[pE,hx]at h;exact dA _ (mem_of_lookup h)
theorem g5{env:Env}{x:Str}:∀{names:List (Str×NameKind)},
  (names.map λ(n,k)=>if (k==NameKind.free&&env.scope.kind==.function&&env.kindOf n==some .cell)then (n,NameKind.cell)else (n,k)).lookup x
   = (names.lookup x).map λk=>if (k==NameKind.free&&env.scope.kind==.function&&env.kindOf x==some .cell)then NameKind.cell else k
 | []=>rfl
 | (n,k)::r=>by
  have ih:=@g5 env x r;show List.lookup x ((if (k==NameKind.free&&env.scope.kind==.function&&env.kindOf n==some .cell)=true then (n,NameKind.cell)else (n,k))::_)=_
  cases hx:x==n with
  |true=>
   have e:x=n:=by simpa using hx
   subst e;by_cases hc:(k==NameKind.free&&env.scope.kind==.function&&env.kindOf x==some .cell)=true
   . rw[gL hc];simp only[pE,hx,Cs,gL hc]
   . rw[hZ hc];simp only[pE,hx,Cs,hZ hc]
  |false=>
   by_cases hc:(k==NameKind.free&&env.scope.kind==.function&&env.kindOf n==some .cell)=true
   . rw[gL hc];simp only[pE,hx];exact ih
   . rw[hZ hc];simp only[pE,hx];exact ih
theorem oh(h:∀y∈scope.names,y.2=.free->∃c,env.cells.lookup y.1=some c) :
  ∃cl,closureFor scope env=pure cl/\(∀x c,cl.lookup x=some c->env.cells.lookup x=some c/\(x,NameKind.free)∈scope.names)/\∀y∈scope.names,y.2=.free->∃c,cl.lookup y.1=some c:=by
 have key:∀(names:List (Str×NameKind)) (acc:List (Str×Addr)),(∀y∈names,y.2=.free->∃c,env.cells.lookup y.1=some c)->
   ∃cl,(forIn names acc λ(x:Str×NameKind) (cs:List (Str×Addr))=>(match x with | (name,kind)=>if (kind==.free)=true then (do let c <- cellOf env name;pure (ForInStep.yield ((name,c)::cs)))else pure (ForInStep.yield cs):Sem (ForInStep (List (Str×Addr)))))=pure cl/\
    (∀x c,cl.lookup x=some c->acc.lookup x=some c\/(env.cells.lookup x=some c/\(x,NameKind.free)∈names))/\(∀y∈names,y.2=.free->∃c,cl.lookup y.1=some c)/\∀x c,acc.lookup x=some c->∃c',cl.lookup x=some c':=by
  intro names
  induction names with
  |nil=>intro acc _;exact⟨acc,rfl,λx c e=>.inl e,(λy hy=>nomatch hy),λx c e=>⟨c,e⟩⟩
  |cons y r ih=>
   intro acc hf;obtain⟨n,k⟩:=y;rw[List.forIn_cons];by_cases hk:(k==NameKind.free)=true
   .
    obtain⟨c,hc⟩:=hf (n,k) dL (by simpa using hk)
    have hc':env.cells.lookup n=some c:=hc;obtain⟨cl,e,h1,h2,h3⟩:=ih ((n,c)::acc) λy hy=>hf y (dA _ hy)
    refine⟨cl,?_,λx c' q=>?_,λy hy hyf=>?_,λx c' q=>?_⟩
    .
     have ec:cellOf env n=pure c:=by unfold cellOf;rw[hc']
     show ((if (k==NameKind.free)=true then (do let c <- cellOf env n;pure (ForInStep.yield ((n,c)::acc)))else pure (ForInStep.yield acc)) >>= _)=_
     rw[gL hk,ec];exact e
    .
     rcases h1 x c' q with z |⟨z1,z2⟩
     .
      cases hx:x==n with
      |true=>
       simp only[pE,hx]at z;cases z;have e:x=n:=by simpa using hx
       subst e;have ek:k=NameKind.free:=by simpa using hk
       subst ek;exact .inr ⟨hc',dL⟩
      |false=>simp only[pE,hx]at z;exact .inl z
     . exact .inr ⟨z1,dA _ z2⟩
    .
     rcases d5.mp hy with rfl |hy
     . exact h3 n c ⋯
     . exact h2 y hy hyf
    .
     cases hx:x==n with
     |true=>
      have e:x=n:=by simpa using hx
      subst e;exact h3 x c ⋯
     |false=>exact h3 x c' (by simp only[pE,hx];exact q)
   .
    obtain⟨cl,e,h1,h2,h3⟩:=ih acc λy hy=>hf y (dA _ hy)
    refine⟨cl,?_,λx c' q=>?_,λy hy hyf=>?_,h3⟩
    .
     show ((if (k==NameKind.free)=true then (do let c <- cellOf env n;pure (ForInStep.yield ((n,c)::acc)))else pure (ForInStep.yield acc)) >>= _)=_
     rw[hZ hk];exact e
    .
     rcases h1 x c' q with z |⟨z1,z2⟩
     . exact .inl z
     . exact .inr ⟨z1,dA _ z2⟩
    .
     rcases d5.mp hy with rfl |hy
     . exact absurd hyf (by simpa using hk)
     . exact h2 y hy hyf
 obtain⟨cl,e,h1,h2,_⟩:=key scope.names [] h;refine⟨cl,?_,λx c q=>?_,h2⟩
 . exact (congrArg (λ(m:Sem (List (Str×Addr)))=>m >>= λcs=>pure cs) e:_)
 .
  rcases h1 x c q with z |z
  . simp at z
  . exact z
def jX(X:Cx)(ifs:List Expr)(t:TT):Prop:=
 ∀(ah:List (Addr×Obj)) (s:Shared) (σ:St) (H:Hp) (Q:Bool->Hp->Prop),Inv X ah σ H s->t σ H Q->
  wpAny (model X.prog X.w) X.A (forIn ifs true λc r=>if r=true then do let ok <- isTrue c X.env (eval c X.env);pure (ForInStep.yield ok)else pure (ForInStep.yield r)) (TP X ah σ Q) X.xe s
def zp:TT:=λ_ H Q=>Q true H
theorem oq:jX X [] zp:=λ_ _ _ H _ I h=>wpAny_tests_nil ⟨H,I,h⟩
theorem Fc(h:PT X c t):jX X [c] t:=λah s σ H Q I hw=>wpAny_tests_one (h ah s σ H Q I hw)
noncomputable def sQ(e target iter:Expr)(ifs:List Expr)(d:Nat)(it acc:Value)(env:Env)(em:Sem Unit):Sem Fin:=do
 standAt iter.pos
 match <- pyNext it with
 |none=>pure (.done .next)
 |some v=>
  letOwnedTupleGo target it v
  assign target env v
  let mut ok:=true
  for c in ifs do
   if ok then ok <- isTrue c env (eval c env)
  if ok then em
  again (.compLoop e d it acc env)
def Cu(ce:Expr):Prop:=∀(prog:Program) (w:World) (A:Around) (d:Nat) (it acc:Value) (env:Env),A.under (.compLoop ce d it acc env)=A/\(model prog w).den (.compLoop ce d it acc env)=(compTurn ce d it acc env).onRaise (λx=>do noteFrame x env;theTreesLotGoes x)
theorem jY{prog:Program}{w:World}{A:Around}{R:Result->Shared->Prop}{s:Shared}{ce target iter:Expr}{ifs:List Expr}{d:Nat}{it acc:Value}{env:Env}{em:Sem Unit}(hu:Cu ce)(ht:compTurn ce d it acc env=sQ ce target iter ifs d it acc env em)(I:Nat->Shared->Prop)
  (turn:∀n s,I n s->wpAny (model prog w) A (pyNext it) (λr s₁=>match r with
   |none=>R (.ok .next) s₁
   |some v=>wpAny (model prog w) A (letOwnedTupleGo target it v) (λ_ s₁'=>wpAny (model prog w) A (assign target env v) (λ_ s₂=>
     wpAny (model prog w) A (forIn ifs true λc r=>if r=true then do let ok <- isTrue c env (eval c env);pure (ForInStep.yield ok)else pure (ForInStep.yield r)) (λok s₃=>
      if ok=true then wpAny (model prog w) A em (λ_ s₅=>∃m,m<n/\I m s₅) (λ_ _=>False) s₃
      else ∃m,m<n/\I m s₃) (λ_ _=>False) s₂) (λ_ _=>False) s₁') (λ_ _=>False) s₁) (λ_ _=>False) s)
  (n:Nat) (h:I n s) :
  codeAny (model prog w) A (.compLoop ce d it acc env) R s:=by
 refine codeAny_loop rfl I (λn s hI=>?_) n h
 rw[(hu prog w A d it acc env).1,(hu prog w A d it acc env).2];refine wpAny_noted ?_;rw[ht];refine aS (yB (aS (i9 (turn n s hI) (λr s₁ h₁=>?_) λ_ _ h'=>h'.elim)))
 cases r with
 |none=>exact d0 h₁
 |some v=>
  refine aS (i9 h₁ (λ_ s₁' h₁'=>?_) λ_ _ h'=>h'.elim)
  refine aS (i9 h₁' (λ_ s₂ h₂=>aS (i9 h₂ (λok s₃ h₃=>?_) λ_ _ h'=>h'.elim)) λ_ _ h'=>h'.elim)
  cases ok with
  |false=>exact d0 ⟨rfl,h₃⟩
  |true=>exact aS (i9 h₃ (λ_ s₅ h₅=>d0 ⟨rfl,h₅⟩) λ_ _ h'=>h'.elim)
abbrev TU:=St->Hp->(St->Hp->Prop)->Prop
def PU(X:Cx)(m:Sem Unit)(t:TU):Prop:=
 ∀(ah:List (Addr×Obj)) (s:Shared) (σ:St) (H:Hp) (Q:St->Hp->Prop),Inv X ah σ H s->t σ H Q->wpAny (model X.prog X.w) X.A m (λ_ s'=>∃σ' H',Inv X ah σ' H' s'/\Q σ' H') (λ_ _=>False) s
def sS(D:Addr)(te:TE):TU:=λσ H Q=>te σ H λv H5=>∃ys,H5 D=some (.lst ys)/\ys.length<sizeLine/\Q σ (upd H5 D (.lst (ys++[v])))
theorem xQ(he:PE X bI te)(hx:X.xe=λ_ _=>False):PU X (do let _ <- call (.builtin "list.append") [.ref D,<- eval bI X.env]) (sS D te):=by
 intro ah s σ H Q I h;have he:=he ah s σ H _ I h;rw[hx]at he;refine aS (i9 he (λy s8 ⟨v,H8,I8,r8,ys,hD8,hz8,q8⟩=>?_) λ_ _ z=>z)
 have ma:=kY ah s8 σ H8 (.ref D) [v] (.ref D) [y] (λ_ H9=>Q σ H9) I8 rfl (.cons r8 .nil) ⟨_,ys,v,rfl,rfl,hD8,hz8,q8⟩
 rw[hx]at ma;exact aS (i9 ma (λ_ s9 ⟨_,H9,I9,_,q9⟩=>d0 ⟨σ,H9,I9,q9⟩) λ_ _ z=>z)
noncomputable def σC(k:Nat)(D:Addr)(σ:St):St:=σ++(List.replicate k none++[some (.ref D)])
def XZ(X:Cx)(σ:St)(b:Bk):Prop:=∃ah,Inv X ah σ b.H₀ b.s₀/\∀a∈b.fp,jT X ah b.H₀ a
def Ky(u0:HO)(X:Cx)(k:Nat)(g:Bk->TG)(tt:Bk->TT)(te:Addr->Bk->TU)(J:It)(D:Addr)(σ:St)(H1:Hp)(Q:VK):Prop:=
 ∃W:Nat->Nat->St->Hp->Prop,(∃m,W 0 m (σC k D σ) (upd H1 D u0))/\∀i m σ' H',W i m σ' H'->
  (J.stop i H'/\Q (.ref D) H')\/(J.go i H'/\∃Nn:St->Hp->Prop,(∀JG JH,Nn JG JH->∃m',m'<m/\W (i+1) m' JG JH)/\∀x H2,J.Xl i H' x H2->∀bk:Bk,XZ X σ bk->g bk x σ' H2 λσ2 H3=>tt bk σ2 H3 λb H4=>
   if b=true then te D bk σ2 H4 Nn else Nn σ2 H4)
noncomputable def sU(u0:HO)(X:Cx)(k:Nat)(wi:TI)(g:Bk->TG)(tt:Bk->TT)(te:Addr->Bk->TU):TE:=λσ H Q=>wi σ H λJ H1=>∀D,H1 D=none->Ky u0 X k g tt te J D σ H1 Q
abbrev qT:=sU (.lst [])
structure Ck(X:Cx)(ce tg iter:Expr)(ifs:List Expr)(rest:List Comprehension)(new:Sem Value)(u0:HO)(em:Value->Env->Sem Unit):Prop where
 cls:clausesOf ce=⟨tg,iter,ifs,0⟩::rest
 und:Cu ce
 turn:∀it D env,compTurn ce 0 it (.ref D) env=sQ ce tg iter ifs 0 it (.ref D) env (em (.ref D) env)
 new:∃o0:Obj,o0.isFreed=false/\(∀{A:Around}{E Q:Value->Shared->Prop}{s:Shared},Q (.ref s⁻¹) { s with heap:=s.heap.push o0}->wpAny (model X.prog X.w) A new Q E s)/\
  ∀(H:Hp) (h:Heap) (a:Addr),h.get? a=some o0->(a==sysModules)=false->cI X.prog X.w H h a u0
 start:∀{A:Around}{R:Result->Shared->Prop}{s:Shared}{it acc:Value}{env:Env},codeAny (model X.prog X.w) A (.compLoop ce 0 it acc env) R s->
  wpAny (model X.prog X.w) A (pyIter it) (λit' s'=>codeAny (model X.prog X.w) A (.compLoop ce 0 it' acc env) R s') (notedBy (model X.prog X.w) A env λx s'=>R (.error x) s') s->codeAny (model X.prog X.w) A (.compStart ce 0 it acc env) R s
theorem nk{X:Cx}{bI tg iter:Expr}{ifs:List Expr}{rest:List Comprehension}{scope:Scope}{pos:Pos}{em:Value->Env->Sem Unit}(h:∀it acc env,compTurn (.ListComp bI (⟨tg,iter,ifs,0⟩::rest) scope pos) 0 it acc env=sQ (.ListComp bI (⟨tg,iter,ifs,0⟩::rest) scope pos) tg iter ifs 0 it acc env (em acc env)) :
  Ck X (.ListComp bI (⟨tg,iter,ifs,0⟩::rest) scope pos) tg iter ifs rest (newList []) (.lst []) em where
 cls:=rfl
 und:=λ_ _ _ _ _ _ _=>⟨rfl,rfl⟩
 turn:=λit D env=>h it (.ref D) env
 new:=⟨_,rfl,λh=>l7 h,λ_ _ _ e _=>⟨wE _,[],_,.nil,e⟩⟩
 start:=codeAny_compStart_list
structure Names(N N':List Str)(scope:Scope)(k:Nat):Prop where
 len:N'.length=N.length+(k+1)
 last:∀x,N'[N.length+k]?=some x->scope.names.lookup x=none
 old:∀i x,N'[i]?=some x->i<N.length->scope.names.lookup x=none\/(N[i]?=some x/\scope.names.lookup x≠some .local)
theorem dJ:(relabel scope env).names.lookup x=(scope.names.lookup x).map λk=>if (k==NameKind.free&&env.scope.kind==.function&&env.kindOf x==some .cell)then NameKind.cell else k:=g5
section
variable{X:Cx}
theorem ou(B:aH X.env.scope scope)(h:(compEnvC scope cl C X.env).kindOf x=some .cell\/(compEnvC scope cl C X.env).kindOf x=some .free) :
  (x,NameKind.free)∈scope.names:=by
 have e:(compEnvC scope cl C X.env).kindOf x=(scope.names.lookup x).map λk=>if (k==NameKind.free&&X.env.scope.kind==.function&&X.env.kindOf x==some .cell)then NameKind.cell else k:=dJ
 rw[e]at h;cases q:scope.names.lookup x with
 |none=>rw[q]at h;rcases h with h |h <;> cases h
 |some k=>
  have hm:=mem_of_lookup q;cases k with
  |free=>exact hm
  |cell=>exact absurd rfl (B.sP _ hm)
  |_=>rw[q]at h;rcases h with h |h <;> (simp at h)
theorem Fd(B:aH X.env.scope scope)(I:Inv X ah σ H s)(hC:s⁻¹<=C)
  (hf:∀b∈fp,jT X ah H b) (hfs:∀b∈fp,b<s⁻¹)
  (hcl:∀x c,cl.lookup x=some c->X.env.cells.lookup x=some c/\(x,NameKind.free)∈scope.names) (Kz:∀y∈scope.names,y.2=.free->∃c,cl.lookup y.1=some c):(X.block N' scope cl C s H fp).Ok where
 mod:=I.ok.mod
 kind:=B.kind
 glob:=I.ok.glob
 blt:=I.ok.blt
 above:=hC
 inj:=λx y c h1 h2=>I.ok.inj x y c (hcl x c h1).1 (hcl y c h2).1
 has:=λx h=>Kz _ (ou (cl:=cl) (C:=C) B h) rfl
 QD:=λx c h1 h2=>by
  have e:scope.names.lookup x=some .local:=by have:(scope.names.lookup x==some NameKind.local)=true:=h1;simpa using this
  have h3:=(hcl x c h2).2;have q:=B.XX _ h3 rfl;rw[e]at q;cases q
 hd:=I.ok.hd
 frames:=I.ok.frames
 stk:=.inl rfl
 Wf:=λb hb=>⟨hU (eQ (hfs b hb) hC),λx c e=>(hf b hb).2.2.2.2.1 x c (hcl x c e).1⟩
 bs:=I.bs
 Eg:=qS I.ok.Eg I.sz
 uR:=λb o e hb=>by
  obtain⟨_,_,_,h3,_⟩:=hf b hb;rcases h3 with h3 |h3
  . exact I.ok.uR b o e h3
  . exact absurd (eQ (eM e) (qS I.ok.Eg h3)) (l9 _)
 xA:=λb hb hm=>by
  rcases d5.mp (I.xB b hm)with e |e
  . exact (hf b hb).2.1 e
  . exact (hf b hb).2.2.1 e
 jR:=I.stack
 J6:=I.sC
theorem fE{ah:List (Addr×Obj)}{σ:St}{H:Hp}{s:Shared}{N':List Str}{k:Nat}{wi:TI}{g:Bk->TG}{tt:Bk->TT}{tu:Addr->Bk->TU}{ce:Expr}{rest:List Comprehension}{new:Sem Value}{u0:HO}{cp:Pos}{em:Value->Env->Sem Unit}{use:Option (Value->Sem Unit)}{Q:Value->Shared->Prop}{Q0:VK}
  (B:aH X.env.scope scope) (hc:X.calm=true) (hN:Names X.N N' scope k) (hi:PI X tg iter wi) (ck:Ck X ce tg iter ifs rest new u0 em)
  (hin:∀(b:Bk) (D:Addr),PG (X.blk N' scope b) tg (g b)/\jX (X.blk N' scope b) ifs (tt b)/\PU (X.blk N' scope b) (em (.ref D) (X.blk N' scope b).env) (tu D b))
  (hs:∀x,foldedSetIterable iter X.env x=pure x) (I:Inv X ah σ H s) (h:sU u0 X k wi g tt tu σ H Q0)
  (fin:∀s' H' D C m,Inv X ah σ H' s'->jT X ah H' C->s'.heap.Ns C m->Q0 (.ref D) H'->compPost (model X.prog X.w) X.A X.xe use Q (.ref D) C (.ok .next) s') :
  wpAny (model X.prog X.w) X.A (comprehension ce scope X.env cp new false (eval iter X.env) use) Q X.xe s:=by
 obtain⟨cl,hclos,hcl,Kz⟩:=oh (scope:=scope) (env:=X.env) λy hy hf=>I.ok.has y.1 (B.free y hy hf)
 refine wpAny_comprehension_free ck.cls hs hclos B.kind B.uniq (bJ (hi ah s σ H _ I h) λxv s₁ h₁=>bJ h₁ λitv s₂ h₂=>?_)
 obtain⟨it,fp,tn,J,H2,rfl,I2,T,aI,f2,hW⟩:=h₂;obtain⟨o0,fr0,new0,ok0⟩:=ck.new;refine new0 (wpAny_newFunctionEnv B.sP (by intro y hy;simp at hy) (λh₁ Rq KC=>?_) B.kind)
 dsimp only at Rq KC ⊢
 generalize hH2:s₂.heap.push o0=P2 at Rq KC ⊢
 have hC:P2.objs.size=s₂⁻¹+1:=by rw[<- hH2,nE]
 have hDC:s₂⁻¹≠P2.objs.size:=by rw[hC];exact hU (mM _)
 have Rr:s₂⁻¹<=P2.objs.size:=by rw[hC];exact AX _
 have old:∀b o,s₂.heap.get? b=some o->h₁.get? b=some o:=λb o e=>KC.extBut b o (hU (by rw[hC];exact wS (eM e))) (bP _ (hH2▸bP _ e))
 have hD0:H2 s₂⁻¹=none:=I2.hok.fresh (eJ _);have hC0:H2 P2.objs.size=none:=I2.hok.fresh Rr;have nsys:(s₂⁻¹==sysModules)=false:=by
  have h1:mainGlobals<s₂⁻¹:=(I2.ok.mod.glob.keeps I2.bk).lt;refine Bool.eq_false_iff.mpr λq=>?_
  have q:=eq_of_beq q;rw[q]at h1;exact absurd h1 ⋯
 have fps:∀b∈fp,b<s₂⁻¹:=λb hb=>by
  obtain⟨o,e,_⟩:=T.obj _ _ aI b hb;exact eM e
 have ok':=Fd (N':=N') (cl:=cl) B I2 Rr f2 fps hcl Kz;obtain⟨W,⟨m0,w0⟩,turn⟩:=hW s₂⁻¹ hD0;have fsub:∀b∈fp,b∉frs X.stack:=λb hb=>ok'.xA b hb
 obtain⟨hg,ht,he⟩:=hin ⟨cl,P2.objs.size,s₂,H2,fp⟩ s₂⁻¹;have I0:Inv (X.block N' scope cl P2.objs.size s₂ H2 fp) [] (σC k s₂⁻¹ σ) (upd H2 s₂⁻¹ u0) { s₂ with heap:=h₁,toks:=s₂.toks+([]:List (Str×Value)).length}:=by
  refine⟨ok',rfl,I2.bare,Un.laid old (eJ _) hD0,⟨_,Rq,λi x v e1 e2 e3=>?_⟩,λx c e=>?_,?_,λx c e=>?_,λp hp=>?_,I2.hok.laid old (eJ _) ?_,?_⟩
  .
   have X3:(compEnvC scope cl P2.objs.size X.env).kindOf x=some .local\/(compEnvC scope cl P2.objs.size X.env).kindOf x=some .cell\/(compEnvC scope cl P2.objs.size X.env).kindOf x=some .free:=e3;have ek:(compEnvC scope cl P2.objs.size X.env).kindOf x=(scope.names.lookup x).map λk=>if (k==NameKind.free&&X.env.scope.kind==.function&&X.env.kindOf x==some .cell)then NameKind.cell else k:=dJ
   have W9:i<σ.length:=by
    rcases AJ i σ.length with z |z
    . exact z
    .
     exfalso;unfold σC at e2;rw[eC z]at e2;rcases AJ (i - σ.length) k with z2 |z2
     .
      rw[eD (by rw[fI];exact z2)]at e2
      have:=l6 e2;rw[vS]at this;exact absurd this.2 ⋯
     .
      rw[eC (by rw[fI];exact z2),fI]at e2
      have z3:i - σ.length - k=0:=by
       rcases Nat.eq_zero_or_pos (i - σ.length - k)with q |q
       . exact q
       . rw[AK (Nat.succ_le_of_lt q)]at e2;cases e2
      have z4:i=X.N.length+k:=by rw[<- I2.len];lia
      have hn:=hN.last x (by rw[<- z4];exact e1)
      rw[ek,hn]at X3;rcases X3 with q |q |q <;> cases q
   have Fe:σ[i]?=some (some v):=by unfold σC at e2;rw[eD W9]at e2;exact e2
   have hiN:i<X.N.length:=by rw[<- I2.len];exact W9
   rcases hN.old i x e1 hiN with z |⟨z,z2⟩
   . rw[ek,z]at X3;rcases X3 with q |q |q <;> cases q
   .
    have hfree:(compEnvC scope cl P2.objs.size X.env).kindOf x=some .cell\/(compEnvC scope cl P2.objs.size X.env).kindOf x=some .free:=by
     rcases X3 with q |q
     .
      exfalso;rw[ek]at q;cases hq:scope.names.lookup x with
      |none=>rw[hq]at q;cases q
      |some kk=>
       rw[hq]at q;cases kk with
       | «local»=>exact z2 hq
       |free=>simp only[Cs,Option.some.injEq]at q;split at q <;> cases q
       |_=>simp at q
     . exact q
    have hm:=ou (cl:=cl) (C:=P2.objs.size) B hfree;obtain⟨c,hc1⟩:=Kz _ hm rfl;have X4:cl.lookup x=some c:=hc1;have hc2:=(hcl x c X4).1;obtain⟨m2,hn2,hl2⟩:=I2.loc;have hvis:qk X.env.scope x:=(B.free _ hm rfl).elim (λa=>.inr (.inl a)) λa=>.inr (.inr a)
    obtain⟨u,ru,lk⟩:=hl2 i x v z Fe hvis;refine⟨u,ru,.inr ⟨hfree,c,X4,?_⟩⟩;rcases lk with ⟨q1,_⟩ |⟨_,c',q1,q2⟩
    .
     exfalso;have Rt:X.env.scope.names.lookup x=some .local:=q1;rcases B.free _ hm rfl with y |y
     . have y':X.env.scope.names.lookup x=some .cell:=y;rw[Rt]at y';cases y'
     . have y':X.env.scope.names.lookup x=some .free:=y;rw[Rt]at y';cases y'
    . rw[hc2]at q1;cases q1;obtain⟨o,ho,hd⟩:=q2;exact⟨o,old _ _ ho,hd⟩
  . obtain⟨v,o,ho,hd⟩:=I2.cell x c (hcl x c e).1;exact⟨v,o,old _ _ ho,hd⟩
  . show upd H2 s₂⁻¹ u0 P2.objs.size=none;rw[aq (oI hDC)];exact hC0
  . have q:=I2.dz x c (hcl x c e).1;obtain⟨v,z⟩:=I2.cell x c (hcl x c e).1;rw[aq (hU z.lt)];exact q
  . exact absurd (show p∈([]:List (Addr×Obj))from hp) ⋯
  . exact ok0 _ _ _ (KC.extBut _ _ hDC (bP _ (hH2▸eA _ fr0))) nsys
  . show (σC k s₂⁻¹ σ).length=N'.length;unfold σC;rw[fR,fR,fI,hN.len,I2.len];rfl
 have stat:∀{H':Hp},(∀b∈fp,H' b=none)->∀b∈fp,jT (X.block N' scope cl P2.objs.size s₂ H2 fp) [] H' b:=λhn b hb=>
  ⟨hn b hb,(ok'.Wf b hb).1,fsub b hb,.inl hb,λx c e=>(ok'.Wf b hb).2 x c e,λp hp=>absurd (show p∈([]:List (Addr×Obj))from hp) ⋯⟩
 have loop:∀s₃:Shared,s₃={ s₂ with heap:=h₁,toks:=s₂.toks+([]:List (Str×Value)).length}->
   codeAny (model X.prog X.w) X.A (.compLoop ce 0 (.ref it) (.ref s₂⁻¹) (compEnvC scope cl P2.objs.size X.env))
    (compPost (model X.prog X.w) X.A X.xe use Q (.ref s₂⁻¹) P2.objs.size) s₃:=by
  rintro s₃ rfl;refine jY ck.und (ck.turn _ _ _) (λn s'=>∃i σ' H',Inv (X.block N' scope cl P2.objs.size s₂ H2 fp) [] σ' H' s'/\tn i s'.heap/\(∀b∈fp,H' b=none)/\W i n σ' H') ?_ m0
   ⟨0,_,_,I0,T.keep _ _ _ aI λb hb o e=>old b o e,λb hb=>?_,w0⟩
  .
   rintro n s3 ⟨i,σ3,H3,I3,dX,Pq,w3⟩;rcases turn i n σ3 H3 w3 with ⟨stop,qn⟩ |⟨go,Nn,hNn,step⟩
   .
    refine bJ (T.done (X.block N' scope cl P2.objs.size s₂ H2 fp) rfl rfl rfl hc i [] s3 σ3 H3 (λ_ _=>False) I3 (stat Pq) dX stop) λr s4 ⟨hr,I4⟩=>?_
    subst hr;obtain⟨m,hm,_⟩:=id I4.loc;have I5:Inv X ah σ H3 s4:=I2.call' (ch:=fp) I4.os I4.base I4.hok I4.bare λb hb=>⟨(f2 b hb).2.2.2.1,(f2 b hb).2.1,(f2 b hb).2.2.2.2.1,(f2 b hb).2.2.2.2.2⟩
    exact fin s4 H3 _ _ m I5 (I2.Eo Rr I4.free) hm qn
   .
    refine bJ (T.item (X.block N' scope cl P2.objs.size s₂ H2 fp) rfl rfl rfl hc i [] s3 σ3 H3 (λ_ _=>False) I3 (stat Pq) dX go) λr s4 ⟨u,hr,h4⟩=>?_
    subst hr;refine bJ h4 λ_ s5 ⟨x,H5,I5,r5,y5,jU,Xo⟩=>?_
    have Xp:=I5.pinned (stat Xo) (T.obj _ _ jU);have again:∀{σ7:St}{H7:Hp}{s7:Shared},Inv (X.block N' scope cl P2.objs.size s₂ H2 fp) ([]++kW fp s5.heap) σ7 H7 s7->Nn σ7 H7->∃m,m<n/\∃i σ' H',Inv (X.block N' scope cl P2.objs.size s₂ H2 fp) [] σ' H' s7/\tn i s7.heap/\(∀b∈fp,H' b=none)/\W i m σ' H':=λ{σ7 H7 s7} I7 n7=>by
     obtain⟨m',hm,w7⟩:=hNn σ7 H7 n7;refine⟨m',hm,i+1,σ7,H7,I7.gY,T.keep _ _ _ jU λb hb o e=>(I7.pin (b,o) (i3 _ (i3 _ (cU hb e)))).1,λb hb=>?_,w7⟩
     obtain⟨o,e,d⟩:=T.obj _ _ jU b hb;exact (I7.pin (b,o) (i3 _ (i3 _ (cU hb e)))).2.1
    refine bJ (hg _ s5 σ3 H5 x u _ Xp r5 (step x H5 y5 ⟨cl,P2.objs.size,s₂,H2,fp⟩ ⟨ah,I2,f2⟩)) λ_ s6 ⟨σ6,H6,I6,q6⟩=>?_
    refine bJ (ht _ s6 σ6 H6 _ I6 q6) λb s7 ⟨H7,I7,q7⟩=>?_
    cases b with
    |false=>
     rw[hZ i5]at q7 ⊢
     exact again I7 q7
    |true=>
     rw[gL rfl]at q7 ⊢
     exact i9 (he _ s7 σ6 H7 _ I7 q7) (λ_ s9 ⟨σ9,H9,I9,q9⟩=>again I9 q9) λ_ _ z=>z
  . show upd H2 s₂⁻¹ u0 b=none;rw[aq (hU (fps b hb))];exact (f2 b hb).1
 refine ck.start (loop _ rfl) (T.self _ 0 _ _ _ ?_ (loop _ rfl));exact T.keep _ _ _ aI λb hb o e=>old b o e
theorem zq{N':List Str}{k:Nat}{wi:TI}{g:Bk->TG}{tt:Bk->TT}{te:Bk->TE}(B:aH X.env.scope scope)(hc:X.calm=true)(hN:Names X.N N' scope k)(hi:PI X tg iter wi)
  (hin:∀b:Bk,PG (X.blk N' scope b) tg (g b)/\jX (X.blk N' scope b) ifs (tt b)/\PE (X.blk N' scope b) bI (te b))
  (hs:∀x,foldedSetIterable iter X.env x=pure x:=by intro _;rfl):PE X (.ListComp bI [⟨tg,iter,ifs,0⟩] scope pos) (qT X k wi g tt λD b=>sS D (te b)):=by
 intro ah s σ H Q I h;rw[eval_ListComp];refine fE (use:=none) B hc hN hi (nk (rest:=[]) (em:=λacc env=>do let _ <- call (.builtin "list.append") [acc,<- eval bI env]) λ_ _ _=>rfl) (λb D=>⟨(hin b).1,(hin b).2.1,xQ (hin b).2.2 rfl⟩) hs I h λs' H' D C m I' f' hn q=>?_
 refine⟨m,hn,λh' sb=>⟨.ref D,H',?_,rfl,q⟩⟩
 obtain⟨f0,f1,f2,f3,f4,f5⟩:=f';exact I'.turned (t':=s'.toks) (λb o hb e=>(sb.2 b hb).trans e) f0 f1 f3 f4 f5
theorem KD{N':List Str}{k:Nat}{wi:TI}{g:Bk->TG}{tt:Bk->TT}{te:Bk->TE}{i:Nat}{y:Str}{py c9:Pos}(B:aH X.env.scope scope)(hc:X.calm=true)(hN:Names X.N N' scope k)(hi:PI X tg iter wi)
  (hin:∀b:Bk,PG (X.blk N' scope b) tg (g b)/\jX (X.blk N' scope b) ifs (tt b)/\PE (X.blk N' scope b) bI (te b))
  (KH:X.N.Nodup) (hy:X.N[i]?=some y) (hl:X.env.scope.names.lookup y=some .local)
  (hsw:swapsWith (.ListComp bI [⟨tg,iter,ifs,0⟩] scope pos) (some (.Name y py)) c9.line X.env=pure true)
  (hs:∀x,foldedSetIterable iter X.env x=pure x:=by intro _;rfl):PS X (.Assign [.Name y py] (.ListComp bI [⟨tg,iter,ifs,0⟩] scope pos) c9) (Kc (qT X k wi g tt λD b=>sS D (te b)) (uU i)):=by
 intro ah s σ H D0 I h;rw[exec_Assign_Name_used _ _ _ _ hsw];refine aS (yB (aS ?_));show wpAny _ X.A (do let _ <- comprehension (.ListComp bI [⟨tg,iter,ifs,0⟩] scope pos) scope X.env _ (newList []) false (eval iter X.env) (some (assign (.Name y py) X.env))) _ _ s
 refine aS (i9 (fE (use:=some (assign (.Name y py) X.env)) (Q:=λ_ s'=>SP X ah D0 .next s') B hc hN hi (nk (rest:=[]) (em:=λacc env=>do let _ <- call (.builtin "list.append") [acc,<- eval bI env]) λ_ _ _=>rfl) (λb D=>⟨(hin b).1,(hin b).2.1,xQ (hin b).2.2 rfl⟩) hs I h λs' H' D C m I' f' hn q=>?_) (λ_ s' hq=>d0 (d0 hq)) λ_ _ e=>e)
 refine wpAny_assign_Name (kU I' KH hy (.inl hl) (v:=.ref D) rfl (λs2 I2 hsb=>?_) (.inr hl))
 obtain⟨f0,f1,f2,f3,f4,f5⟩:=f';obtain⟨a,sb,ha⟩:=hsb;have nC:C≠a:=by
  rcases ha with e |e
  . rw[e];exact f1
  . exact oI (f4 _ _ e)
 refine⟨m,hn.sameBut sb nC,λh' sb'=>⟨_,H',?_,q⟩⟩
 exact I2.turned (t':=s2.toks) (λb o hb e=>(sb'.2 b hb).trans e) f0 f1 f3 f4 f5
end
section
theorem ju
  (h0:codeAny (model prog w) A (.compLoop (.ListComp bI [⟨t1,i1,f1,0⟩,⟨target,iter,ifs,0⟩] scope pos) 1 it acc env) R s)
  (h:wpAny (model prog w) A (pyIter it) (λit' s'=>codeAny (model prog w) A (.compLoop (.ListComp bI [⟨t1,i1,f1,0⟩,⟨target,iter,ifs,0⟩] scope pos) 1 it' acc env) R s') (λ_ _=>False) s) :
  codeAny (model prog w) A (.compStart (.ListComp bI [⟨t1,i1,f1,0⟩,⟨target,iter,ifs,0⟩] scope pos) 1 it acc env) R s:=by
 refine codeAny_of_tree ?_;show wpAny _ _ ((compStart (.ListComp bI [⟨t1,i1,f1,0⟩,⟨target,iter,ifs,0⟩] scope pos) 1 it acc env).onRaise (λx=>do noteFrame x env;standAt theWindowsPlace)) _ _ s
 refine wpAny_notedAt ?_;unfold compStart;show wpAny _ _ (ask >>= _) _ _ s;refine aS (wpAny_askSetting (wpAny_ite ?_));split
 .
  first
   |exact aS (d0 (d0 (And.intro rfl h0)))
   |exact d0 (And.intro rfl h0)
 .
  first
   |exact aS (Cc (aS (yB (aS (i9 h (λit' s' h'=>d0 (And.intro rfl h')) λ_ _ x=>x.elim)))))
   | (refine aS (Cc ?_);show wpAny _ _ (standAt iter.pos >>= _) _ _ s;exact aS (yB (aS (i9 h (λit' s' h'=>d0 (And.intro rfl h')) λ_ _ x=>x.elim))))
end
noncomputable def Bj(bI t1 i1 tg iter:Expr)(f1 ifs:List Expr)(scope:Scope)(pos:Pos)(acc:Value)(env:Env):Sem Unit:=do
 let x <- eval iter env
 standAt iter.pos
 let x <- foldedSetIterable iter env x
 let _ <- runOwn (.compStart (.ListComp bI [⟨t1,i1,f1,0⟩,⟨tg,iter,ifs,0⟩] scope pos) 1 (<- holding [x] (pyIter x)) acc env) env
noncomputable def X5(wi:TI)(g:TG)(tt:TT)(tu:TU):TU:=λσ H Q=>wi σ H λJ H1=>∃W:Nat->Nat->St->Hp->Prop,(∃m,W 0 m σ H1)/\∀i m σ' H',W i m σ' H'->
 (J.stop i H'/\Q σ' H')\/(J.go i H'/\∃Nn:St->Hp->Prop,(∀JG JH,Nn JG JH->∃m',m'<m/\W (i+1) m' JG JH)/\∀x H2,J.Xl i H' x H2->g x σ' H2 λσ2 H3=>tt σ2 H3 λb H4=>if b=true then tu σ2 H4 Nn else Nn σ2 H4)
theorem Px(hc:X.calm=true)(hx:X.xe=λ_ _=>False)(hi:PI X tg iter wi)(hg:PG X tg g)(ht:jX X ifs tt)(he:PE X bI te)(hs:∀x,foldedSetIterable iter X.env x=pure x) :
  PU X (Bj bI t1 i1 tg iter f1 ifs scope pos (.ref D) X.env) (X5 wi g tt (sS D te)):=by
 intro ah s σ H Q I h;have hi:=hi ah s σ H _ I h;rw[hx]at hi;unfold Bj;refine aS (i9 hi (λv s1 h1=>?_) λ_ _ z=>z)
 refine aS (yB ?_);rw[hs v];refine aS (d0 ?_);refine aS (lS (i9 h1 (λitv s2 h2=>?_) λ_ _ z=>z))
 obtain⟨it,fp,tn,J,H2,rfl,I2,T,aI,f2,W,⟨m0,w0⟩,turn⟩:=h2;have stat:∀{H':Hp},(∀b∈fp,H' b=none)->∀b∈fp,jT X ah H' b:=λhn b hb=>⟨hn b hb,(f2 b hb).2⟩
 have loop:codeAny (model X.prog X.w) X.A (.compLoop (.ListComp bI [⟨t1,i1,f1,0⟩,⟨tg,iter,ifs,0⟩] scope pos) 1 (.ref it) (.ref D) X.env) (λr s'=>match r with |.ok f=>∃σ' H',Inv X ah σ' H' s'/\Q σ' H' |.error e=>False) s2:=by
  refine jY (λ_ _ _ _ _ _ _=>⟨rfl,rfl⟩) (target:=tg) (iter:=iter) (ifs:=ifs) (em:=do let _ <- call (.builtin "list.append") [.ref D,<- eval bI X.env]) rfl (λn s'=>∃i σ' H',Inv X ah σ' H' s'/\tn i s'.heap/\(∀b∈fp,H' b=none)/\W i n σ' H') ?_ m0 ⟨0,σ,H2,I2,aI,λb hb=>(f2 b hb).1,w0⟩
  rintro n s3 ⟨i,σ3,H3,I3,dX,Pq,w3⟩;rcases turn i n σ3 H3 w3 with ⟨stop,qn⟩ |⟨go,Nn,hN,step⟩
  .
   refine bJ (T.done X rfl rfl rfl hc i ah s3 σ3 H3 (λ_ _=>False) I3 (stat Pq) dX stop) λr s4 ⟨hr,I4⟩=>?_
   subst hr;exact⟨σ3,H3,I4,qn⟩
  .
   refine bJ (T.item X rfl rfl rfl hc i ah s3 σ3 H3 (λ_ _=>False) I3 (stat Pq) dX go) λr s4 ⟨u,hr,h4⟩=>?_
   subst hr;refine bJ h4 λ_ s5 ⟨x,H5,I5,r5,y5,jU,Xo⟩=>?_
   have Xp:=I5.pinned (stat Xo) (T.obj _ _ jU);have again:∀{σ7:St}{H7:Hp}{s7:Shared},Inv X (ah++kW fp s5.heap) σ7 H7 s7->Nn σ7 H7->∃m,m<n/\∃i σ' H',Inv X ah σ' H' s7/\tn i s7.heap/\(∀b∈fp,H' b=none)/\W i m σ' H':=λ{σ7 H7 s7} I7 n7=>by
    obtain⟨m',hm,w7⟩:=hN σ7 H7 n7;refine⟨m',hm,i+1,σ7,H7,I7.gY,T.keep _ _ _ jU λb hb o e=>(I7.pin (b,o) (i3 _ (i3 _ (cU hb e)))).1,λb hb=>?_,w7⟩
    obtain⟨o,e,d⟩:=T.obj _ _ jU b hb;exact (I7.pin (b,o) (i3 _ (i3 _ (cU hb e)))).2.1
   have hg:=hg _ s5 σ3 H5 x u _ Xp r5 (step x H5 y5);rw[hx]at hg;refine bJ hg λ_ s6 ⟨σ6,H6,I6,q6⟩=>?_
   have ht:=ht _ s6 σ6 H6 _ I6 q6;rw[hx]at ht;refine bJ ht λb s7 ⟨H7,I7,q7⟩=>?_
   cases b with
   |false=>
    rw[hZ i5]at q7 ⊢
    exact again I7 q7
   |true=>
    rw[gL rfl]at q7 ⊢
    exact i9 (xQ he hx _ s7 σ6 H7 _ I7 q7) (λ_ s9 ⟨σ9,H9,I9,q9⟩=>again I9 q9) λ_ _ z=>z
 have start:=ju loop (T.self _ 0 _ _ _ aI loop);refine aS (wpAny_runOwn (AY start λr s' hr=>?_))
 cases r with
 |error e=>exact hr.elim
 |ok f=>exact d0 hr
theorem u6:compTurn (.ListComp bI [⟨t1,i1,f1,0⟩,⟨tg,iter,ifs,0⟩] scope pos) 0 it acc env=sQ (.ListComp bI [⟨t1,i1,f1,0⟩,⟨tg,iter,ifs,0⟩] scope pos) t1 i1 f1 0 it acc env (Bj bI t1 i1 tg iter f1 ifs scope pos acc env):=by
 show (standAt i1.pos >>= λ_=>pyNext it >>= λr=>_)=(standAt i1.pos >>= λ_=>pyNext it >>= λr=>_)
 congr 1;funext _;congr 1;funext r
 cases r with
 |none=>rfl
 |some v=>
  show (letOwnedTupleGo t1 it v >>= λ_=>assign t1 env v >>= λ_=>_ >>= λok=>_)=(letOwnedTupleGo t1 it v >>= λ_=>assign t1 env v >>= λ_=>_ >>= λok=>_)
  congr 1;funext _;congr 1;funext _;congr 1;funext ok
  cases ok with
  |false=>rfl
  |true=>unfold Bj;simp only[bind_assoc,AI];rfl
section
theorem Fg{N':List Str}{k:Nat}{w1:TI}{w2:Bk->TI}{g1 g2:Bk->TG}{X6 X7:Bk->TT}{te:Bk->TE}(B:aH X.env.scope scope)(hc:X.calm=true)(hN:Names X.N N' scope k)(hi:PI X t1 i1 w1)
  (hin:∀b:Bk,(PG (X.blk N' scope b) t1 (g1 b)/\jX (X.blk N' scope b) f1 (X6 b))/\PI (X.blk N' scope b) tg iter (w2 b)/\PG (X.blk N' scope b) tg (g2 b)/\jX (X.blk N' scope b) ifs (X7 b)/\PE (X.blk N' scope b) bI (te b))
  (hs:∀x,foldedSetIterable i1 X.env x=pure x) (hs2:∀(b:Bk) x,foldedSetIterable iter (X.blk N' scope b).env x=pure x) :
  PE X (.ListComp bI [⟨t1,i1,f1,0⟩,⟨tg,iter,ifs,0⟩] scope pos) (qT X k w1 g1 X6 λD b=>X5 (w2 b) (g2 b) (X7 b) (sS D (te b))):=by
 intro ah s σ H Q I h;rw[eval_ListComp];refine fE (use:=none) B hc hN hi (nk (rest:=[⟨tg,iter,ifs,0⟩]) (em:=λacc env=>Bj bI t1 i1 tg iter f1 ifs scope pos acc env) λ_ _ _=>u6) (λb D=>⟨(hin b).1.1,(hin b).1.2,Px hc rfl (hin b).2.1 (hin b).2.2.1 (hin b).2.2.2.1 (hin b).2.2.2.2 (hs2 b)⟩) hs I h λs' H' D C m I' f' hn q=>?_
 refine⟨m,hn,λh' sb=>⟨.ref D,H',?_,rfl,q⟩⟩
 obtain⟨f0,f1,f2,f3,f4,f5⟩:=f';exact I'.turned (t':=s'.toks) (λb o hb e=>(sb.2 b hb).trans e) f0 f1 f3 f4 f5
theorem Fj{N':List Str}{k:Nat}{w1:TI}{w2:Bk->TI}{g1 g2:Bk->TG}{X6 X7:Bk->TT}{te:Bk->TE}{i:Nat}{y:Str}{py c9:Pos}(B:aH X.env.scope scope)(hc:X.calm=true)(hN:Names X.N N' scope k)(hi:PI X t1 i1 w1)
  (hin:∀b:Bk,(PG (X.blk N' scope b) t1 (g1 b)/\jX (X.blk N' scope b) f1 (X6 b))/\PI (X.blk N' scope b) tg iter (w2 b)/\PG (X.blk N' scope b) tg (g2 b)/\jX (X.blk N' scope b) ifs (X7 b)/\PE (X.blk N' scope b) bI (te b))
  (KH:X.N.Nodup) (hy:X.N[i]?=some y) (hl:X.env.scope.names.lookup y=some .local)
  (hsw:swapsWith (.ListComp bI [⟨t1,i1,f1,0⟩,⟨tg,iter,ifs,0⟩] scope pos) (some (.Name y py)) c9.line X.env=pure true)
  (hs:∀x,foldedSetIterable i1 X.env x=pure x) (hs2:∀(b:Bk) x,foldedSetIterable iter (X.blk N' scope b).env x=pure x) :
  PS X (.Assign [.Name y py] (.ListComp bI [⟨t1,i1,f1,0⟩,⟨tg,iter,ifs,0⟩] scope pos) c9) (Kc (qT X k w1 g1 X6 λD b=>X5 (w2 b) (g2 b) (X7 b) (sS D (te b))) (uU i)):=by
 intro ah s σ H D0 I h;rw[exec_Assign_Name_used _ _ _ _ hsw];refine aS (yB (aS ?_));show wpAny _ X.A (do let _ <- comprehension (.ListComp bI [⟨t1,i1,f1,0⟩,⟨tg,iter,ifs,0⟩] scope pos) scope X.env _ (newList []) false (eval i1 X.env) (some (assign (.Name y py) X.env))) _ _ s
 refine aS (i9 (fE (use:=some (assign (.Name y py) X.env)) (Q:=λ_ s'=>SP X ah D0 .next s') B hc hN hi (nk (rest:=[⟨tg,iter,ifs,0⟩]) (em:=λacc env=>Bj bI t1 i1 tg iter f1 ifs scope pos acc env) λ_ _ _=>u6) (λb D=>⟨(hin b).1.1,(hin b).1.2,Px hc rfl (hin b).2.1 (hin b).2.2.1 (hin b).2.2.2.1 (hin b).2.2.2.2 (hs2 b)⟩) hs I h λs' H' D C m I' f' hn q=>?_) (λ_ s' hq=>d0 (d0 hq)) λ_ _ e=>e)
 refine wpAny_assign_Name (kU I' KH hy (.inl hl) (v:=.ref D) rfl (λs2 I2 hsb=>?_) (.inr hl))
 obtain⟨f0,f1,f2,f3,f4,f5⟩:=f';obtain⟨a,sb,ha⟩:=hsb;have nC:C≠a:=by
  rcases ha with e |e
  . rw[e];exact f1
  . exact oI (f4 _ _ e)
 refine⟨m,hn.sameBut sb nC,λh' sb'=>⟨_,H',?_,q⟩⟩
 exact I2.turned (t':=s2.toks) (λb o hb e=>(sb'.2 b hb).trans e) f0 f1 f3 f4 f5
end
section
variable{X:Cx}{ah:List (Addr×Obj)}{σ:St}{H:Hp}{s:Shared}
abbrev tKd (X:Cx):=tupleKind (fY X.prog X.w)
theorem kZ:∀{ks:List Key}{its:List Value},Vals (ks.map kV) its->PySem.ItemsAre (fY X.prog X.w) ks its
 | [],_,.nil=>.nil
 |.inl i::ks,_,.cons h r=>by obtain⟨t,rfl⟩:=h;exact .cons (uP _ _ _ _) (kZ r)
 |.inr x::ks,_,.cons h r=>by obtain⟨t,rfl⟩:=h;exact .cons (uQ _ _ _ _) (kZ r)
theorem Inv.xR{a:Addr}{ks:List Key}(I:Inv X ah σ H s)(h:fC X.K H a (ks.map kV)):(tKd X).is s.heap ks a:=by obtain⟨its,r,⟨o,e,c,n,d⟩,_⟩:=I.tuple h;exact⟨o,its.toArray,n,e,c,d,by simpa using kZ r⟩
theorem jv{α β:Type}{F:α->β->Prop}:∀{l:List α}{m:List β},Paired F l m->∀b∈m,∃a∈l,F a b
 |_,_,.cons h r,b,hb=>(d5.mp hb).elim (λe=>⟨_,dL,e▸h⟩) λe=>let ⟨a,h1,h2⟩:=jv r b e;⟨a,dA _ h1,h2⟩
noncomputable def atK{α:Type}(l:List (List Key×α))(ks:List Key):Option α:=(l.find? λp=>decide (p.1=ks)).map (·.2)
theorem mh{F:List Key×V->List Key×Addr×Value->Prop}(hF:∀p q,F p q->p.1=q.1/\RelV p.2 q.2.2){ks:List Key}{v:V}:∀{l:List (List Key×V)}{m:List (List Key×Addr×Value)},Paired F l m->atK l ks=some v->∃p,atKey m ks=some p/\RelV v p.2
 | (k,x)::l,(k',a,u)::m,.cons h r,e=>by
  obtain⟨e1,e2⟩:=hF _ _ h;have e1:k=k':=e1;subst e1;unfold atK at e;unfold atKey;rw[List.find?_cons]at e ⊢
  by_cases hk:k=ks
  .
   rw[show decide (k=ks)=true from oD hk]at e ⊢
   cases e;exact⟨(a,u),rfl,e2⟩
  .
   rw[show decide (k=ks)=false from mP hk]at e ⊢
   exact mh hF r e
theorem Inv.Py{d:Addr}{dc:List (List Key×V)}(I:Inv X ah σ H s)(h:H d=some (.dT dc)):∃xs,s.heap.DictOfH (tKd X) d xs/\Paired (λ(p:List Key×V) (q:List Key×Addr×Value)=>p.1=q.1/\H q.2.1=some (.tup (p.1.map kV))/\RelV p.2 q.2.2) dc xs/\dc.length<=sizeLine/\(d==sysModules)=false:=by
 obtain⟨hz,hs,xs,pr,o,es,ep,e1,e2,e3,e4,e5⟩:=(show cI X.prog X.w H s.heap d (.dT dc)from I.hok d _ h);refine⟨xs,⟨o,es,ep,e1,e2,e3,e4,λx hx=>?_,e5⟩,pr,hz,hs⟩
 obtain⟨p,_,q1,q2,_⟩:=jv pr x hx;rw[<- q1];exact I.xR (.inl (.inl q2))
def rIxD(K:Frag):R2:=λx y H Q=>∃p a dc ks v,x=.ref p/\y=.ref a/\H p=some (.dT dc)/\fC K H a (ks.map kV)/\atK dc ks=some v/\Q v H
theorem KJ(hu:X.A.units+1<cLine):XQ X (rIxD X.K):=by
 intro value slice ah s σ H x y v u Q I rx ry h hs;obtain⟨p,a,dc,ks,z,rfl,rfl,hp,ha,he,q⟩:=h;cases rx;cases ry;obtain⟨xs,dh,pr,hz,hy⟩:=I.Py hp;obtain⟨w,w1,w2⟩:=mh (λ_ _ h=>⟨h.1,h.2.2⟩) pr he
 have fin:EP X ah σ Q w.2 { s with toks:=s.toks+(tKd X).draws ks}:=⟨z,H,I.tok _,w2,q⟩;exact subscriptTail_builtinR (x:=w.2) dh.typeIs slot_dict_getitem.lookup (wpAny_getItem_heap (Q:=λr s'=>r=w.2/\EP X ah σ Q r s') (tupleKind_room_in1 hu) (I.xR ha) dh w1 ⟨rfl,fin⟩) hs
def Ru(D:Addr)(tk tv:TE):TU:=λσ H Q=>tk σ H λk H4=>tv σ H4 λv H5=>∃(dc:List (List Key×V)) (a:Addr) (ks:List Key),k=.ref a/\H5 D=some (.dT dc)/\H5 a=some (.tup (ks.map kV))/\ks∉dc.map (·.1)/\dc.length<sizeLine/\Q σ (upd H5 D (.dT (dc++[(ks,v)])))
noncomputable abbrev Pz (kx vx:Expr) (acc:Value) (env:Env):Sem Unit:=do
 let kv <- eval kx env
 let vv <- holding [kv] (eval vx env)
 standAt { kx.pos with endLine:=vx.pos.endLine,endCol:=vx.pos.endCol}
 match acc with
 |.ref D=>holding [kv,vv] (dictSet D kv vv)
 |_=>pure ()
theorem Rv{D:Addr}{kx vx:Expr}{tk tv:TE}(hu:X.A.units<cLine)(hk:PE X kx tk)(hv:PE X vx tv)(hx:X.xe=λ_ _=>False):PU X (Pz kx vx (.ref D) X.env) (Ru D tk tv):=by
 intro ah s σ H Q I h;have hk:=hk ah s σ H _ I h;rw[hx]at hk;refine aS (i9 hk (λkv s4 ⟨k,H4,I4,r4,q4⟩=>?_) λ_ _ z=>z)
 have hv:=hv ah s4 σ H4 _ I4 q4;rw[hx]at hv;refine aS (lS (i9 hv (λvv s5 ⟨v,H5,I5,r5,dc,a,ks,e0,hD,ha,hn,hz,q⟩=>?_) λ_ _ z=>z))
 subst e0;cases r4;refine aS (yB (lS ?_));obtain⟨xs,dh,pr,_,hy⟩:=I5.Py hD;have aL:dc.length=xs.length:=Paired.length pr;have hno:atKey xs ks=none:=by
  cases e:atKey xs ks with
  |none=>rfl
  |some p=>exfalso;obtain⟨x,x1,x2⟩:=BF.mp e;obtain⟨y,y1,y2,_⟩:=jv pr x (List.mem_of_find?_eq_some x1);have x3:=List.find?_some x1;exact hn (i8.mpr ⟨y,y1,y2.trans (kA x3)⟩)
 refine wpAny_dictSet_heap (knd:=tKd X) (show X.A.units<cLine from hu) (I5.xR (.inl (.inl ha))) dh (λh' m' sb=>?_) ⋯
 rw[storedH_new hno]at m';obtain⟨o,es,ep,f1,f2,f3,f4,f5,f6⟩:=m';have ne:∀{b:Addr}{ys:List V},H5 b=some (.tup ys)->b≠D:=λe z=>by rw[z,hD]at e;cases e
 refine⟨σ,_,I5.write (o:=.dT (dc++[(ks,v)])) (by rw[hD];trivial) (.inl rfl) (λb u hb e=>(sb.2 b hb).trans e) ⟨o,f1⟩ ?_,q⟩
 refine⟨by rw[fR];exact hz,hy,xs++[(ks,a,vv)],?_,o,es,ep,f1,f2,f3,f4,f6⟩
 refine Paired.snoc (Paired.QB pr λp q ⟨g1,g2,g3⟩=>⟨g1,by rw[aq (ne g2)];exact g2,g3⟩) ⟨rfl,by rw[aq (ne ha)];exact ha,r5⟩
end
section
variable{X:Cx}{tg iter kx vx:Expr}{ifs:List Expr}{scope:Scope}{pos:Pos}
theorem KN:Ck X (.DictComp kx vx [⟨tg,iter,ifs,0⟩] scope pos) tg iter ifs [] newDict (.dT []) (Pz kx vx) where
 cls:=rfl
 und:=λ_ _ _ _ _ _ _=>⟨rfl,rfl⟩
 turn:=λit D env=>compTurn_dict kx vx tg iter ifs scope pos it D env
 new:=⟨_,rfl,λh=>l7 h,λ_ _ _ e y=>⟨wE _,y,[],.nil,_,#[],0,e,⟨rfl,rfl,rfl⟩,rfl,rfl,u4⟩⟩
 start:=codeAny_compStart_dict
theorem Fo{N':List Str}{k:Nat}{wi:TI}{g:Bk->TG}{tt:Bk->TT}{tk tv:Bk->TE}(B:aH X.env.scope scope)(hc:X.calm=true)(hu:X.A.units<cLine)(hN:Names X.N N' scope k)(hi:PI X tg iter wi)
  (hin:∀b:Bk,PG (X.blk N' scope b) tg (g b)/\jX (X.blk N' scope b) ifs (tt b)/\PE (X.blk N' scope b) kx (tk b)/\PE (X.blk N' scope b) vx (tv b))
  (hs:∀x,foldedSetIterable iter X.env x=pure x:=by intro _;rfl):PE X (.DictComp kx vx [⟨tg,iter,ifs,0⟩] scope pos) (sU (.dT []) X k wi g tt λD b=>Ru D (tk b) (tv b)):=by
 intro ah s σ H Q I h;rw[arm_eval_DictComp];refine fE (use:=none) B hc hN hi KN (λb D=>⟨(hin b).1,(hin b).2.1,Rv hu (hin b).2.2.1 (hin b).2.2.2 rfl⟩) hs I h λs' H' D C m I' f' hn q=>?_
 refine⟨m,hn,λh' sb=>⟨.ref D,H',?_,rfl,q⟩⟩
 obtain⟨f0,f1,f2,f3,f4,f5⟩:=f';exact I'.turned (t':=s'.toks) (λb o hb e=>(sb.2 b hb).trans e) f0 f1 f3 f4 f5
end
end L2
namespace Ev
open L2
inductive D where
 |non |bl (b:Bool) |int (i:Int) |str (x:Str) |tup (l:List D) |lst (l:List D) |fix (l:List D) |emp |lg (C:Addr) |sV (ks:List (List Int)) (ds:List D)
 deriving Inhabited
inductive Slot where
 |no |dat (d:D) |own (l:List D)
 deriving Inhabited
inductive R where
 |dat (d:D) |new (l:List D) |var (i:Nat)
 deriving Inhabited
abbrev G:=List Slot
abbrev Sg:=L2.St
abbrev K0:Hp:=λ_=>none
def LstAt(M:List Addr)(H:Hp)(a:Addr)(xs:List V):Prop:=a∉M/\H a=some (.lst xs)
def oz(K:Frag)(M:List Addr)(H:Hp)(a:Addr)(xs:List V):Prop:=(a∉M/\∃o,H a=some (.cB o (.lst xs)))\/bN K K0 a xs
def TupAt(K:Frag)(M:List Addr)(H:Hp)(a:Addr)(xs:List V):Prop:=(a∉M/\Rd H a (.tup xs))\/(fC K K0 a xs/\∃o,K.lookup a=some o/\o.dict=none)
theorem rd0(h:Rd K0 a u):False:=by rcases h with h |⟨o,h⟩ <;> cases h
theorem oz.sq{K:Frag}{M:List Addr}{H:Hp}{a:Addr}{xs:List V}(h:oz K M H a xs):bN K H a xs:=by
 rcases h with ⟨_,o,h⟩ |h |h
 . exact .inl (.inr ⟨o,h⟩)
 . exact (rd0 h).elim
 . exact .inr h
theorem TupAt.sq{K:Frag}{M:List Addr}{H:Hp}{a:Addr}{xs:List V}(h:TupAt K M H a xs):fC K H a xs:=by
 rcases h with ⟨_,h⟩ |⟨h |h,_⟩
 . exact .inl h
 . exact (rd0 h).elim
 . exact .inr h
noncomputable abbrev xS(C a:Addr):HO:=.ext λh=>∃o,h.get? a=some o/\o.cls=.ref C/\PySem.W.notCls o=true/\o.dict=none
structure Fp(K:Frag)(C:Addr):Prop where
 gga:PySem.W.findIn K (.ref C) "__getattribute__"=some (some (.builtin "BaseException.__getattribute__"))
 gat:PySem.W.findIn K (.ref C) "__getattr__"=some none
 bas:PySem.W.mroIn K C (.type "BaseException")=some true
 dct:PySem.W.hasDictIn K C=true
 cls:PySem.W.findIn K (.ref C) "__class__"=some (some (.builtin "object.__class__"))
 spc:PySem.W.specialIn K (.builtin "object.__class__") "__get__"=some (some (.builtin "getset_descriptor.__get__"))
 tks:PySem.W.takesIn K (.builtin "object.__class__")=some true
 mro:PySem.W.mroIn K C (.type "object")=some true
 kit:∀n∈["int", "bool", "str", "tuple", "list", "dict"],PySem.W.kitOne K (.ref C) (.type n)=some false
noncomputable abbrev Fq(ks:List (List Int))(vs:List V):HO:=.dT ((ks.map (List.map Sum.inl)).zip vs)
def X8:HO->Prop
 |.lst _ |.dT _=>True
 |_=>False
mutual
inductive Rep(K:Frag)(M:List Addr)(H:Hp):D->V->Prop
 |non:Rep K M H .non .non
 |bl (b:Bool):Rep K M H (.bl b) (.bl b)
 |int (i:Int):Rep K M H (.int i) (.int i)
 |str (x:Str):Rep K M H (.str x) (.str x)
 |tup {l:List D}{a:Addr}{xs:List V}:TupAt K M H a xs->aG K M H l xs->Rep K M H (.tup l) (.ref a)
 |lst {l:List D}{a:Addr}{xs:List V}:LstAt M H a xs->aG K M H l xs->Rep K M H (.lst l) (.ref a)
 |fix {l:List D}{a:Addr}{xs:List V}:oz K M H a xs->aG K M H l xs->Rep K M H (.fix l) (.ref a)
 |emp:a∉M->H a=some (.dK [])->Rep K M H .emp (.ref a)
 |lg:Fp K C->a∉M->H a=some (xS C a)->Rep K M H (.lg C) (.ref a)
 |sV {ks:List (List Int)}{ds:List D}{a:Addr}{vs:List V}:a∉M->H a=some (Fq ks vs)->ks.length=vs.length->aG K M H ds vs->Rep K M H (.sV ks ds) (.ref a)
inductive aG(K:Frag)(M:List Addr)(H:Hp):List D->List V->Prop
 |nil:aG K M H [] []
 |cons {d:D}{ds:List D}{x:V}{xs:List V}:Rep K M H d x->aG K M H ds xs->aG K M H (d::ds) (x::xs)
end
def ao(M:List Addr)(H:Hp)(M':List Addr)(H':Hp):Prop:=∀b o,H b=some o->b∉M->H' b=some o/\b∉M'
theorem ao.rd(h:ao M H M' H')(n:a∉M)(r:Rd H a u):a∉M'/\Rd H' a u:=by
 rcases r with r |⟨o,r⟩
 . exact⟨(h _ _ r n).2,.inl (h _ _ r n).1⟩
 . exact⟨(h _ _ r n).2,.inr ⟨o,(h _ _ r n).1⟩⟩
theorem Rep.stay{K:Frag}{M M':List Addr}{H H':Hp}(h:ao M H M' H'){d:D}{v:V}(r:Rep K M H d v):Rep K M' H' d v:=by
 refine Rep.rec (motive_1:=λd v _=>Rep K M' H' d v) (motive_2:=λds vs _=>aG K M' H' ds vs) .non .bl .int .str (λt _ q=>?_) (λt _ q=>?_) (λt _ q=>?_) (λn r=>.emp (h _ _ r n).2 (h _ _ r n).1) (λx n r=>.lg x (h _ _ r n).2 (h _ _ r n).1) (λn r l _ q=>.sV (h _ _ r n).2 (h _ _ r n).1 l q) .nil (λ_ _ a b=>.cons a b) r
 .
  rcases t with t |t
  . exact .tup (.inl (h.rd t.1 t.2)) q
  . exact .tup (.inr t) q
 . exact .lst ⟨(h _ _ t.2 t.1).2,(h _ _ t.2 t.1).1⟩ q
 .
  rcases t with ⟨n,o,r⟩ |t
  . exact .fix (.inl ⟨(h _ _ r n).2,o,(h _ _ r n).1⟩) q
  . exact .fix (.inr t) q
theorem aG.stay{K:Frag}{M M':List Addr}{H H':Hp}(h:ao M H M' H'):∀{ds:List D}{vs:List V},aG K M H ds vs->aG K M' H' ds vs:=by
 intro ds
 induction ds with
 |nil=>intro vs q;cases q;exact .nil
 |cons d ds ih=>intro vs q;cases q with |cons a b=>exact .cons (a.stay h) (ih b)
theorem ao.refl(M:List Addr)(H:Hp):ao M H M H:=λ_ _ e n=>⟨e,n⟩
theorem ao.trans(a:ao M H M1 H1)(b:ao M1 H1 M2 H2):ao M H M2 H2:=λc o e n=>b c o (a c o e n).1 (a c o e n).2
theorem ao.less(h:∀m∈M',m∈M):ao M H M' H:=λ_ _ e n=>⟨e,λz=>n (h _ z)⟩
theorem ao.laid(hp:H p=none):ao M H M (upd H p o):=λb u e n=>⟨by rw[aq (aF e hp)];exact e,n⟩
theorem ao.aR(hp:H p=none):ao M H (p::M) (upd H p o):=λb u e n=>
 ⟨by rw[aq (aF e hp)];exact e,λz=>(d5.mp z).elim (λq=>aF e hp q) n⟩
theorem ao.write(hp:p∈M):ao M H M (upd H p o):=λb u e n=>⟨by rw[aq (λq=>n (by rw[q];exact hp))];exact e,n⟩
theorem aG.length{K:Frag}{M:List Addr}{H:Hp}{ds:List D}{vs:List V}(r:aG K M H ds vs):ds.length=vs.length:=by
 induction ds generalizing vs with
 |nil=>cases r;rfl
 |cons d ds ih=>cases r with |cons a b=>exact congrArg (· + 1) (ih b)
theorem aG.append{K:Frag}{M:List Addr}{H:Hp}{ds es:List D}{vs ws:List V}(r:aG K M H ds vs)(s:aG K M H es ws):aG K M H (ds++es) (vs++ws):=by
 induction ds generalizing vs with
 |nil=>cases r;exact s
 |cons d ds ih=>cases r with |cons a b=>exact .cons a (ih b)
theorem aG.get{K:Frag}{M:List Addr}{H:Hp}{ds:List D}{vs:List V}{i:Nat}{d:D}(r:aG K M H ds vs)(e:ds[i]?=some d):∃v,vs[i]?=some v/\Rep K M H d v:=by
 induction ds generalizing vs i with
 |nil=>exact nomatch (show none=some d from e)
 |cons d' ds ih=>cases r with |cons a b=>cases i with
  |zero=>cases (show some d'=some d from e);exact⟨_,rfl,a⟩
  |succ i=>obtain⟨v,h⟩:=ih (i:=i) b e;exact⟨v,h⟩
theorem aG.set{K:Frag}{M:List Addr}{H:Hp}{d:D}{v:V}(r:Rep K M H d v){ds:List D}{vs:List V}(i:Nat)(q:aG K M H ds vs):aG K M H (ds.set i d) (vs.set i v):=by
 induction ds generalizing vs i with
 |nil=>cases q;exact .nil
 |cons d' ds ih=>cases q with |cons a b=>cases i with
  |zero=>exact .cons r b
  |succ i=>exact .cons a (ih i b)
theorem aG.take{K:Frag}{M:List Addr}{H:Hp}{ds:List D}{vs:List V}(n:Nat)(q:aG K M H ds vs):aG K M H (ds.take n) (vs.take n):=by
 induction ds generalizing vs n with
 |nil=>cases q;rw[List.take_nil,List.take_nil];exact .nil
 |cons d' ds ih=>cases q with |cons a b=>cases n with
  |zero=>exact .nil
  |succ n=>exact .cons a (ih n b)
theorem aG.drop{K:Frag}{M:List Addr}{H:Hp}{ds:List D}{vs:List V}(n:Nat)(q:aG K M H ds vs):aG K M H (ds.drop n) (vs.drop n):=by
 induction ds generalizing vs n with
 |nil=>cases q;rw[List.drop_nil,List.drop_nil];exact .nil
 |cons d' ds ih=>cases q with |cons a b=>cases n with
  |zero=>exact .cons a b
  |succ n=>exact ih n b
theorem aG.reverse{K:Frag}{M:List Addr}{H:Hp}{ds:List D}{vs:List V}(q:aG K M H ds vs):aG K M H ds.reverse vs.reverse:=by
 induction ds generalizing vs with
 |nil=>cases q;exact .nil
 |cons d ds ih=>cases q with |cons a b=>rw[BO,BO];exact (ih b).append (.cons a .nil)
inductive Slots(K:Frag)(M:List Addr)(H:Hp):G->Sg->List Addr->Prop
 |nil:Slots K M H [] [] []
 |no:Slots K M H g σ As->Slots K M H (.no::g) (v::σ) As
 |dat {g:G}{σ:Sg}{As:List Addr}{v:V}{d:D}:Rep K M H d v->Slots K M H g σ As->Slots K M H (.dat d::g) (some v::σ) As
 |own {g:G}{σ:Sg}{As:List Addr}{a:Addr}{xs:List V}{ds:List D}:H a=some (.lst xs)->aG K M H ds xs->Slots K M H g σ As->Slots K M H (.own ds::g) (some (.ref a)::σ) (a::As)
theorem Slots.stay{K:Frag}{M M':List Addr}{H H':Hp}(h:ao M H M' H'){g:G}{σ:Sg}{As:List Addr}(k:∀a∈As,∀o,H a=some o->H' a=some o)(q:Slots K M H g σ As):Slots K M' H' g σ As:=by
 induction q with
 |nil=>exact .nil
 |no q ih=>exact .no (ih k)
 |dat r q ih=>exact .dat (r.stay h) (ih k)
 |own e r q ih=>exact .own (k _ dL _ e) (r.stay h) (ih λa ha=>k a (dA _ ha))
def cF(K:Frag):List (Addr×Str):=K.filterMap λp=>match p.2.data with
 |.fields vs=>(match vs.toList with
  |_::.str n _::_=>if (n==("law":Str))=true then (match vs.toList[11]? with
   |some (Value.ref q)=>if (K.lookup q).isNone=true then some (q,("law.<locals>.<lambda>":Str))else none
   |_=>none)else none
  |_=>none)
 |_=>none
theorem Bm{K:Frag}{p:Addr×Str}(h:p∈cF K):p.2 = "law.<locals>.<lambda>" :=by
 unfold cF at h;obtain⟨q,_,e⟩:=List.mem_filterMap.mp h;split at e
 .
  split at e
  .
   split at e
   .
    split at e
    .
     split at e
     . cases e;rfl
     . cases e
    . cases e
   . cases e
  . cases e
 . cases e
structure Z where
 K:Frag
 H0:Hp
 M0:List Addr
 lent:List (Nat×Addr)
 T:List (Addr×Str)
abbrev gI(q:Str)(c:Addr):HO:=.ext λh=>h.CodeRec (.ref c) q
def TabOk(H:Hp)(p:Addr×Str):Prop:=∃ps:Array Value,H p.1=some (.kN ps)/\TriplesOk ps.toList/\∀pos cv,codeAmong pos ps.toList=some cv->∃c,cv=.ref c/\H c=some (gI p.2 c)
noncomputable abbrev Z.TA(z:Z):List Addr:=z.T.map (·.1)
theorem TabOk.keep{H H':Hp}{p:Addr×Str}(t:TabOk H p)(k:∀b o,H b=some o->¬ X8 o->H' b=some o):TabOk H' p:=by obtain⟨ps,h1,h2,h3⟩:=t;exact⟨ps,k _ _ h1 id,h2,λpos cv e=>let ⟨c,e1,e2⟩:=h3 pos cv e;⟨c,e1,k _ _ e2 id⟩⟩
noncomputable abbrev Z.B(z:Z):List Addr:=z.lent.map (·.2)
abbrev Z.bor(z:Z):List Nat:=z.lent.map (·.1)
structure S(z:Z)(g:G)(σ:Sg)(As M:List Addr)(H:Hp):Prop where
 sl:Slots z.K M H g σ As
 nd:As.Nodup
 sub:∀a∈As,a∈M
 own:∀(i:Nat) (a:Addr) (l:List D),g[i]?=some (.own l)->σ[i]?=some (some (.ref a))->(i∈z.bor/\a∈z.B)\/z.H0 a=none
 live:∀m∈M,(∃o,H m=some o/\X8 o)\/m∈z.TA
 keep:∀b o,z.H0 b=some o->b∉z.B->b∉z.TA->H b=some o
 gJ:∀m∈z.M0,m∈M
 m0:∀m∈z.M0,z.H0 m≠none
 bm:∀b∈z.B,b∈z.M0
 gS:∀p∈z.lent,σ[p.1]?=some (some (.ref p.2))/\∃l,g[p.1]?=some (.own l)
 tab:∀p∈z.T,TabOk H p
 tm:∀p∈z.T,p.1∈z.M0
 tt:z.T=cF z.K
section
variable{g:G}
theorem S.fresh(s:S z g σ As M H)(hp:H p=none):p∉M:=λhm=>by
 rcases s.live p hm with ⟨o,e,_⟩ |e
 . rw[hp]at e;cases e
 . obtain⟨q,hq,rfl⟩:=i8.mp e;obtain⟨ps,h1,_⟩:=s.tab q hq;rw[hp]at h1;cases h1
theorem S.PB(s:S z g σ As M H)(hp:H p=some (.lst xs)):p∉z.TA:=λe=>by
 obtain⟨q,hq,rfl⟩:=i8.mp e;obtain⟨ps,h1,_⟩:=s.tab q hq;rw[hp]at h1;cases h1
theorem S.bR(s:S z g σ As M H)(hp:H p=none):z.H0 p=none:=by
 cases e:z.H0 p with
 |none=>rfl
 |some o=>
  by_cases hb:p∈z.B
  . exact absurd (s.gJ _ (s.bm _ hb)) (s.fresh hp)
  .
   by_cases ht:p∈z.TA
   . obtain⟨q,hq,rfl⟩:=i8.mp ht;exact absurd (s.gJ _ (s.tm q hq)) (s.fresh hp)
   . rw[s.keep p o e hb ht]at hp;cases hp
theorem S.laid(s:S z g σ As M H){p:Addr}{o:HO}(hp:H p=none):S z g σ As M (upd H p o) where
 sl:=s.sl.stay (ao.laid hp) λa _ u e=>by rw[aq (aF e hp)];exact e
 nd:=s.nd
 sub:=s.sub
 own:=s.own
 live:=λm hm=>by
  rcases s.live m hm with ⟨o,e,gr⟩ |e
  . exact .inl ⟨o,by rw[aq (aF e hp)];exact e,gr⟩
  . exact .inr e
 keep:=λb u e hb ht=>by rw[aq (aF (s.keep b u e hb ht) hp)];exact s.keep b u e hb ht
 gJ:=s.gJ
 m0:=s.m0
 bm:=s.bm
 gS:=s.gS
 tab:=λp h=>(s.tab p h).keep λb u e _=>by rw[aq (aF e hp)];exact e
 tm:=s.tm
 tt:=s.tt
theorem S.Yb(s:S z g σ As M H){p:Addr}{u0:HO}(gu:X8 u0)(hp:H p=none):S z g σ As (p::M) (upd H p u0) where
 sl:=s.sl.stay (ao.aR hp) λa _ u e=>by rw[aq (aF e hp)];exact e
 nd:=s.nd
 sub:=λa ha=>dA _ (s.sub a ha)
 own:=s.own
 live:=λm hm=>by
  rcases d5.mp hm with rfl |hm
  . exact .inl ⟨_,aA,gu⟩
  .
   rcases s.live m hm with ⟨o,e,gr⟩ |e
   . exact .inl ⟨o,by rw[aq (aF e hp)];exact e,gr⟩
   . exact .inr e
 keep:=λb u e hb ht=>by rw[aq (aF (s.keep b u e hb ht) hp)];exact s.keep b u e hb ht
 gJ:=λm hm=>dA _ (s.gJ m hm)
 m0:=s.m0
 bm:=s.bm
 gS:=s.gS
 tab:=λp h=>(s.tab p h).keep λb u e _=>by rw[aq (aF e hp)];exact e
 tm:=s.tm
 tt:=s.tt
theorem S.aR(s:S z g σ As M H){p:Addr}{xs:List V}(hp:H p=none):S z g σ As (p::M) (upd H p (.lst xs)):=s.Yb trivial hp
theorem S.Rw(s:S z g σ As M H){a:Addr}{u0 u1:HO}(hm:a∈M)(hA:a∉As)(h0:z.H0 a=none)(h:H a=some u0)(g0:X8 u0)(g1:X8 u1):S z g σ As M (upd H a u1) where
 sl:=s.sl.stay (ao.write hm) λb hb u e=>by rw[aq (show b≠a from λq=>hA (by rw[<- q];exact hb))];exact e
 nd:=s.nd
 sub:=s.sub
 own:=s.own
 live:=λm hm=>by
  by_cases e:m=a
  . subst e;exact .inl ⟨_,aA,g1⟩
  .
   rcases s.live m hm with ⟨o,q,gr⟩ |q
   . exact .inl ⟨o,by rw[aq e];exact q,gr⟩
   . exact .inr q
 keep:=λb o e hb ht=>by rw[aq (λq=>by rw[q,h0]at e;cases e)];exact s.keep b o e hb ht
 gJ:=s.gJ
 m0:=s.m0
 bm:=s.bm
 gS:=s.gS
 tab:=λp hp=>(s.tab p hp).keep λb o e n=>by rw[aq (λq=>by rw[q,h]at e;cases e;exact n g0)];exact e
 tm:=s.tm
 tt:=s.tt
theorem S.drop(s:S z g σ As M H)(h0:z.H0 p=none)(hA:p∉As):S z g σ As (M.filter λm=>decide (m≠p)) H where
 sl:=s.sl.stay (ao.less λm hm=>(lL.mp hm).1) λ_ _ _ e=>e
 nd:=s.nd
 sub:=λa ha=>lL.mpr ⟨s.sub a ha,by have:a≠p:=λe=>hA (e▸ha);simpa using this⟩
 own:=s.own
 live:=λm hm=>s.live m (lL.mp hm).1
 keep:=s.keep
 gJ:=λm hm=>lL.mpr ⟨s.gJ m hm,by have:m≠p:=λe=>s.m0 m hm (e▸h0);simpa using this⟩
 m0:=s.m0
 bm:=s.bm
 gS:=s.gS
 tab:=s.tab
 tm:=s.tm
 tt:=s.tt
end
def cN(z:Z)(g:G)(σ:Sg)(As M:List Addr)(H:Hp):R->V->Prop
 |.dat d,v=>Rep z.K M H d v
 |.new l,v=>∃a xs,v=.ref a/\a∈M/\a∉As/\z.H0 a=none/\H a=some (.lst xs)/\aG z.K M H l xs
 |.var i,v=>∃l,g[i]?=some (.own l)/\σ[i]?=some (some v)
inductive Pk(K:Frag)(M:List Addr)(H:Hp):D->V->Prop
 |of:Rep K M H d v->Pk K M H d v
 |lst {l:List D}{a:Addr}{xs:List V}:H a=some (.lst xs)->aG K M H l xs->Pk K M H (.lst l) (.ref a)
theorem Pk.list{K:Frag}{M:List Addr}{H:Hp}{l:List D}{v:V}(h:Pk K M H (.lst l) v):∃a xs,v=.ref a/\H a=some (.lst xs)/\aG K M H l xs:=by
 cases h with
 |of r=>cases r with |lst h1 h2=>exact⟨_,_,rfl,h1.2,h2⟩
 |lst h1 h2=>exact⟨_,_,rfl,h1,h2⟩
theorem Slots.at{K:Frag}{M:List Addr}{H:Hp}{g:G}{σ:Sg}{As:List Addr}{i:Nat}{l:List D}(q:Slots K M H g σ As)(e:g[i]?=some (.own l)):∃a xs,σ[i]?=some (some (.ref a))/\a∈As/\H a=some (.lst xs)/\aG K M H l xs:=by
 induction q generalizing i with
 |nil=>exact nomatch (show none=some (Slot.own l)from e)
 |no q ih=>cases i with
  |zero=>exact nomatch (show some Slot.no=some (Slot.own l)from e)
  |succ i=>exact ih e
 |dat r q ih=>cases i with
  |zero=>exact nomatch (show some (Slot.dat _)=some (Slot.own l)from e)
  |succ i=>exact ih e
 |own h r q ih=>cases i with
  |zero=>cases (show some (Slot.own _)=some (Slot.own l)from e);exact⟨_,_,rfl,dL,h,r⟩
  |succ i=>obtain⟨a,xs,h1,h2,h3⟩:=ih e;exact⟨a,xs,h1,dA _ h2,h3⟩
theorem Slots.u9{K:Frag}{M:List Addr}{H:Hp}{g:G}{σ:Sg}{As:List Addr}{i:Nat}{d:D}(q:Slots K M H g σ As)(e:g[i]?=some (.dat d)):∃v,σ[i]?=some (some v)/\Rep K M H d v:=by
 induction q generalizing i with
 |nil=>exact nomatch (show none=some (Slot.dat d)from e)
 |no q ih=>cases i with
  |zero=>exact nomatch (show some Slot.no=some (Slot.dat d)from e)
  |succ i=>exact ih e
 |dat r q ih=>cases i with
  |zero=>cases (show some (Slot.dat _)=some (Slot.dat d)from e);exact⟨_,rfl,r⟩
  |succ i=>exact ih e
 |own h r q ih=>cases i with
  |zero=>exact nomatch (show some (Slot.own _)=some (Slot.dat d)from e)
  |succ i=>exact ih e
theorem Slots.length{K:Frag}{M:List Addr}{H:Hp}{g:G}{σ:Sg}{As:List Addr}(q:Slots K M H g σ As):g.length=σ.length:=by
 induction q with
 |nil=>rfl
 |no q ih=>exact congrArg (· + 1) ih
 |dat r q ih=>exact congrArg (· + 1) ih
 |own h r q ih=>exact congrArg (· + 1) ih
theorem Slots.g6{K:Frag}{M:List Addr}{H:Hp}{d:D}{v:V}(r:Rep K M H d v){g:G}{σ:Sg}{As:List Addr}(i:Nat)(q:Slots K M H g σ As):∃az,Slots K M H (g.set i (.dat d)) (σ.set i (some v)) az/\az.Sublist As:=by
 induction q generalizing i with
 |nil=>exact⟨[],.nil,.slnil⟩
 |no q ih=>cases i with
  |zero=>exact⟨_,.dat r q,List.Sublist.refl _⟩
  |succ i=>obtain⟨az,h1,h2⟩:=ih i;exact⟨az,.no h1,h2⟩
 |dat r' q ih=>cases i with
  |zero=>exact⟨_,.dat r q,List.Sublist.refl _⟩
  |succ i=>obtain⟨az,h1,h2⟩:=ih i;exact⟨az,.dat r' h1,h2⟩
 |own e r' q ih=>cases i with
  |zero=>exact⟨_,.dat r q,List.sublist_cons_self _ _⟩
  |succ i=>obtain⟨az,h1,h2⟩:=ih i;exact⟨_::az,.own e r' h1,h2.cons₂ _⟩
theorem Slots.freeze{K:Frag}{M M':List Addr}{H:Hp}(hM:∀m∈M',m∈M){g:G}{σ:Sg}{As:List Addr}{i:Nat}{l:List D}{a:Addr}(q:Slots K M H g σ As)(e:g[i]?=some (.own l))(e2:σ[i]?=some (some (.ref a)))(na:a∉M')(nd:As.Nodup) :
  ∃az,Slots K M' H (g.set i (.dat (.lst l))) σ az/\az.Sublist As/\a∉az:=by
 induction q generalizing i with
 |nil=>exact nomatch (show none=some (Slot.own l)from e)
 |no q ih=>cases i with
  |zero=>exact nomatch (show some Slot.no=some (Slot.own l)from e)
  |succ i=>obtain⟨az,h1,h2,h3⟩:=ih e e2 nd;exact⟨az,.no h1,h2,h3⟩
 |dat r q ih=>cases i with
  |zero=>exact nomatch (show some (Slot.dat _)=some (Slot.own l)from e)
  |succ i=>obtain⟨az,h1,h2,h3⟩:=ih e e2 nd;exact⟨az,.dat (r.stay (ao.less hM)) h1,h2,h3⟩
 |@own g σ As b xs ds h r q ih=>cases i with
  |zero=>
   cases (show some (Slot.own _)=some (Slot.own l)from e)
   cases (show some (some (V.ref b))=some (some (V.ref a))from e2)
   exact⟨_,.dat (.lst ⟨na,h⟩ (r.stay (ao.less hM))) (q.stay (ao.less hM) λ_ _ _ e=>e),List.sublist_cons_self _ _,(hV.mp nd).1⟩
  |succ i=>
   obtain⟨az,h1,h2,h3⟩:=ih e e2 (hV.mp nd).2;refine⟨b::az,.own h (r.stay (ao.less hM)) h1,h2.cons₂ _,λhm=>?_⟩
   rcases d5.mp hm with z |z
   .
    obtain⟨c,xs,z1,z2,_⟩:=q.at (i:=i) e;cases (show some (some (V.ref c))=some (some (V.ref a))from z1.symm.trans e2)
    exact (hV.mp nd).1 (by rw[<- z];exact z2)
   . exact h3 z
theorem Slots.change{K:Frag}{M:List Addr}{H H':Hp}{l':List D}{a:Addr}{xs':List V}(st:ao M H M H')(ha:H' a=some (.lst xs'))(r':aG K M H' l' xs'){g:G}{σ:Sg}{As:List Addr}{i:Nat}{l:List D}(q:Slots K M H g σ As)(e:g[i]?=some (.own l))(e2:σ[i]?=some (some (.ref a)))(nd:As.Nodup)
  (k:∀b∈As,b≠a->∀o,H b=some o->H' b=some o):Slots K M H' (g.set i (.own l')) σ As:=by
 induction q generalizing i with
 |nil=>exact nomatch (show none=some (Slot.own l)from e)
 |no q ih=>cases i with
  |zero=>exact nomatch (show some Slot.no=some (Slot.own l)from e)
  |succ i=>exact .no (ih e e2 nd k)
 |dat r q ih=>cases i with
  |zero=>exact nomatch (show some (Slot.dat _)=some (Slot.own l)from e)
  |succ i=>exact .dat (r.stay st) (ih e e2 nd k)
 |@own g σ As b xs ds h r q ih=>cases i with
  |zero=>
   cases (show some (some (V.ref b))=some (some (V.ref a))from e2)
   exact .own ha r' (q.stay st λc hc o e=>k c (dA _ hc) (λz=>(hV.mp nd).1 (by rw[<- z];exact hc)) o e)
  |succ i=>
   refine .own (k b dL (λz=>?_) _ h) (r.stay st) (ih e e2 (hV.mp nd).2 λc hc=>k c (dA _ hc))
   obtain⟨c,xs,z1,z2,_⟩:=q.at (i:=i) e;cases (show some (some (V.ref c))=some (some (V.ref a))from z1.symm.trans e2)
   exact (hV.mp nd).1 (by rw[z];exact z2)
section
variable{g:G}
theorem fF(h:(g.set i (.dat d))[j]?=some (.own l)):g[j]?=some (.own l)/\j≠i:=by
 by_cases e:i=j
 .
  subst e;by_cases hi:i<g.length
  . rw[i4 hi]at h;cases h
  . rw[nK.mpr (by rw[u7];lia)]at h;cases h
 . rw[fN e]at h;exact⟨h,oI e⟩
theorem S.freeze(s:S z g σ As M H){i:Nat}{l:List D}(hg:g[i]?=some (.own l))(hb:i∉z.bor):∃az M',S z (g.set i (.dat (.lst l))) σ az M' H/\ao M H M' H:=by
 obtain⟨a,xs,e1,e2,e3,e4⟩:=s.sl.at hg;have h0:z.H0 a=none:=(s.own i a l hg e1).elim (λq=>absurd q.1 hb) id
 have hM:∀m∈(M.filter λm=>decide (m≠a)),m∈M:=λm hm=>(lL.mp hm).1
 have na:a∉(M.filter λm=>decide (m≠a)):=λhm=>by
  have:=(lL.mp hm).2;simp at this
 obtain⟨az,q1,q2,q3⟩:=s.sl.freeze hM hg e1 na s.nd;refine⟨az,_,⟨q1,s.nd.sublist q2,λb hb=>lL.mpr ⟨s.sub b (q2.subset hb),?_⟩,λj b l' h1 h2=>s.own j b l' (fF h1).1 h2,λm hm=>s.live m (hM m hm),s.keep,λm hm=>lL.mpr ⟨s.gJ m hm,?_⟩,s.m0,s.bm,λp hp=>⟨(s.gS p hp).1,?_⟩,s.tab,s.tm,s.tt⟩,ao.less hM⟩
 rotate_left 2
 .
  have:i≠p.1:=λe=>hb (by rw[e];exact sK (f:=(·.1)) hp)
  rw[fN this];exact (s.gS p hp).2
 .
  have:b≠a:=λe=>q3 (e▸hb)
  simpa using this
 .
  have:m≠a:=λe=>s.m0 m hm (e▸h0)
  simpa using this
theorem S.write(s:S z g σ As M H){i:Nat}{l l':List D}{a:Addr}{xs':List V}(hg:g[i]?=some (.own l))(e1:σ[i]?=some (some (.ref a)))(r:aG z.K M H l' xs'):S z (g.set i (.own l')) σ As M (upd H a (.lst xs'))/\ao M H M (upd H a (.lst xs')):=by
 obtain⟨b,xs,e2,e3,e4,e5⟩:=s.sl.at hg;rw[e1]at e2;injection e2 with e2;injection e2 with e2;injection e2 with e2;subst e2;have st:ao M H M (upd H a (.lst xs')):=ao.write (s.sub a e3);refine⟨⟨s.sl.change st aA (r.stay st) hg e1 s.nd (λb _ ne o e=>by rw[aq ne];exact e),s.nd,s.sub,λj b l2 h1 h2=>?_,λm hm=>?_,λb o e hb ht=>?_,s.gJ,s.m0,s.bm,λp hp=>⟨(s.gS p hp).1,?_⟩,λp h=>(s.tab p h).keep λb u e nl=>?_,s.tm,s.tt⟩,st⟩
 rotate_left 3
 .
  by_cases hj:i=p.1
  . rw[<- hj];exact⟨l',i4 (dC.mp hg).1⟩
  . rw[fN hj];exact (s.gS p hp).2
 .
  have:b≠a:=λz2=>by subst z2;rw[e4]at e;cases e;exact nl trivial
  rw[aq this];exact e
 .
  by_cases hj:i=j
  . subst hj;exact s.own i b l hg h2
  . rw[fN hj]at h1;exact s.own j b l2 h1 h2
 .
  by_cases hm2:m=a
  . subst hm2;exact .inl ⟨_,aA,trivial⟩
  .
   rcases s.live m hm with ⟨o,e,gr⟩ |e
   . exact .inl ⟨o,by rw[aq hm2];exact e,gr⟩
   . exact .inr e
 .
  have q:=s.keep b o e hb ht;have:b≠a:=λz2=>by
   subst z2;rcases s.own i b l hg e1 with w |w
   . exact hb w.2
   . rw[w]at e;cases e
  rw[aq this];exact q
theorem S.g6(s:S z g σ As M H)(hb:i∉z.bor)(r:Rep z.K M H d v):∃az,S z (g.set i (.dat d)) (σ.set i (some v)) az M H:=by
 obtain⟨az,h1,h2⟩:=s.sl.g6 r i;refine⟨az,h1,s.nd.sublist h2,λa ha=>s.sub a (h2.subset ha),λj b l h3 h4=>?_,s.live,s.keep,s.gJ,s.m0,s.bm,λp hp=>?_,s.tab,s.tm,s.tt⟩
 rotate_left
 .
  have:i≠p.1:=λe=>hb (by rw[e];exact sK (f:=(·.1)) hp)
  rw[fN this,fN this];exact s.gS p hp
 obtain⟨h5,h6⟩:=fF h3;rw[fN (oI h6)]at h4;exact s.own j b l h5 h4
theorem Slots.oA{K:Frag}{a:Addr}{xs:List V}{l:List D}(h:H a=some (.lst xs))(r:aG K M H l xs){g:G}{σ:Sg}{As:List Addr}(i:Nat)(q:Slots K M H g σ As)(hi:i<g.length):∃az,Slots K M H (g.set i (.own l)) (σ.set i (some (.ref a))) az/\(∀b∈az,b=a\/b∈As)/\(As.Nodup->a∉As->az.Nodup):=by
 induction q generalizing i with
 |nil=>exact absurd hi (Bi _)
 |no q ih=>cases i with
  |zero=>exact⟨_,.own h r q,λb hb=>d5.mp hb,λnd na=>hV.mpr ⟨na,nd⟩⟩
  |succ i=>obtain⟨az,h1,h2,h3⟩:=ih i (AF hi);exact⟨az,.no h1,h2,h3⟩
 |dat r' q ih=>cases i with
  |zero=>exact⟨_,.own h r q,λb hb=>d5.mp hb,λnd na=>hV.mpr ⟨na,nd⟩⟩
  |succ i=>obtain⟨az,h1,h2,h3⟩:=ih i (AF hi);exact⟨az,.dat r' h1,h2,h3⟩
 |@own g σ As c ys ds e r' q ih=>cases i with
  |zero=>exact⟨_,.own h r q,λb hb=>(d5.mp hb).imp id (dA _),λnd na=>hV.mpr ⟨λz=>na (dA _ z),(hV.mp nd).2⟩⟩
  |succ i=>obtain⟨az,h1,h2,h3⟩:=ih i (AF hi);exact⟨c::az,.own e r' h1,λb hb=>(d5.mp hb).elim (λz=>.inr (z▸dL)) λz=>(h2 b z).imp id (dA _),λnd na=>hV.mpr ⟨λz=>(h2 c z).elim (λw=>na (w▸dL)) (hV.mp nd).1,h3 (hV.mp nd).2 λw=>na (dA _ w)⟩⟩
theorem S.oA(s:S z g σ As M H){i:Nat}{l:List D}{a:Addr}{xs:List V}(hb:i∉z.bor)(hi:i<g.length)(hm:a∈M)(hA:a∉As)(h0:z.H0 a=none)(h:H a=some (.lst xs))(r:aG z.K M H l xs):∃az,S z (g.set i (.own l)) (σ.set i (some (.ref a))) az M H:=by
 obtain⟨az,h1,h2,h3⟩:=s.sl.oA h r i hi;refine⟨az,h1,h3 s.nd hA,λb hb=>(h2 b hb).elim (λe=>e▸hm) (s.sub b),λj b l2 h4 h5=>?_,s.live,s.keep,s.gJ,s.m0,s.bm,λp hp=>?_,s.tab,s.tm,s.tt⟩
 rotate_left
 .
  have:i≠p.1:=λe=>hb (by rw[e];exact sK (f:=(·.1)) hp)
  rw[fN this,fN this];exact s.gS p hp
 by_cases hj:i=j
 .
  subst hj;rw[i4 (by rw[<- s.sl.length];exact hi)]at h5
  injection h5 with h5;injection h5 with h5;injection h5 with h5;subst h5;exact .inr h0
 . rw[fN hj]at h4 h5;exact s.own j b l2 h4 h5
end
abbrev Kn (z:Z) (g':G) (σ:Sg) (M:List Addr) (H:Hp) (r:R) (Q:VK):Prop:=
 ∀v H' az M',S z g' σ az M' H'->ao M H M' H'->cN z g' σ az M' H' r v->Q v H'
def au(X:Cx)(z:Z)(e:Expr)(g:G)(r:R)(g':G):Prop:=
 ∃t,PE X e t/\∀σ As M H Q,S z g σ As M H->Kn z g' σ M H r Q->t σ H Q
def cC(X:Cx)(z:Z)(e:Expr)(g:G)(b:Bool)(g':G):Prop:=
 ∃t,PT X e t/\∀σ As M H (Q:Bool->Hp->Prop),S z g σ As M H->(∀H' az M',S z g' σ az M' H'->ao M H M' H'->Q b H')->t σ H Q
def mj(X:Cx)(z:Z)(f:Value->Value->Sem Value)(d1 d2:D)(res:R):Prop:=
 ∃r:R2,kX X f r/\∀g σ As M H v1 v2 Q,S z g σ As M H->Pk z.K M H d1 v1->Pk z.K M H d2 v2->Kn z g σ M H res Q->r v1 v2 H Q
def Wi(X:Cx)(z:Z)(d1 d2:D)(res:R):Prop:=
 ∃r:R2,XQ X r/\∀g σ As M H v1 v2 Q,S z g σ As M H->Pk z.K M H d1 v1->Pk z.K M H d2 v2->Kn z g σ M H res Q->r v1 v2 H Q
def UnD(X:Cx)(z:Z)(f:Value->Sem Value)(d:D)(res:R):Prop:=
 ∃r:V->Hp->VK->Prop,UnR X f r/\∀g σ As M H v Q,S z g σ As M H->Pk z.K M H d v->Kn z g σ M H res Q->r v H Q
noncomputable def pk:R->G->Option D
 |.dat d,_=>some d
 |.new _,_=>none
 |.var i,g=>match g[i]? with |some (.own l)=>some (.lst l) |some (.dat (.lst l))=>some (.lst l) |_=>none
section
theorem S.pk(s:S z g2 σ As M2 H2)(st:ao M1 H1 M2 H2)(q:cN z g1 σ aN M1 H1 r v)(h:pk r g2=some d):Pk z.K M2 H2 d v:=by
 cases r with
 |dat d'=>have e:d'=d:=oC h;subst e;exact .of (Rep.stay st q)
 |new l=>cases h
 |var i=>
  obtain⟨l,h1,h2⟩:=q;unfold Ev.pk at h;dsimp only at h;split at h
  . rename_i l' hg;have e:=oC h;subst e;obtain⟨a,xs,e1,e2,e3,e4⟩:=s.sl.at hg;rw[h2]at e1;injection e1 with e1;injection e1 with e1;subst e1;exact .lst e3 e4
  . rename_i l' hg;have e:=oC h;subst e;obtain⟨w,e1,e2⟩:=s.sl.u9 hg;rw[h2]at e1;injection e1 with e1;injection e1 with e1;exact .of (e1▸e2)
  . cases h
theorem Rx{i j}:au X z (.Constant (.int i) j pos) g (.dat (.int i)) g:=⟨_,Eh,λσ As M H Q s k=>k _ _ _ _ s (ao.refl _ _) (.int i)⟩
theorem Yc{i j}:au X z (.Constant (.bool i) j pos) g (.dat (.bl i)) g:=⟨_,Xc,λσ As M H Q s k=>k _ _ _ _ s (ao.refl _ _) (.bl i)⟩
theorem Ry{j}:au X z (.Constant .none j pos) g (.dat .non) g:=⟨_,Ei,λσ As M H Q s k=>k _ _ _ _ s (ao.refl _ _) .non⟩
theorem Rz{x j}:au X z (.Constant (.str x) j pos) g (.dat (.str x)) g:=⟨_,QG,λσ As M H Q s k=>k _ _ _ _ s (ao.refl _ _) (.str x)⟩
theorem RB{i:Nat}{x:Str}(hN:X.N[i]?=some x)(hv:qk X.env.scope x)(hd:(x==("__debug__":Str))=false)(bH:(x==("__classdict__":Str))=false)(hg:g[i]?=some (.dat d)):au X z (.Name x pos) g (.dat d) g:=
 ⟨_,fZ hN hv hd bH,λσ As M H Q s k=>let ⟨v,e,r⟩:=s.sl.u9 hg;⟨v,e,k v H As M s (ao.refl _ _) r⟩⟩
theorem KQ(hN:X.N[i]?=some x)(hv:qk X.env.scope x)(hd:(x==("__debug__":Str))=false)(bH:(x==("__classdict__":Str))=false)(hg:g[i]?=some (.own l)):au X z (.Name x pos) g (.var i) g:=
 ⟨_,fZ hN hv hd bH,λσ As M H Q s k=>let ⟨a,xs,e,r⟩:=s.sl.at hg;⟨_,e,k _ H As M s (ao.refl _ _) ⟨l,hg,e⟩⟩⟩
theorem KR(hg:Gl X x)(hm:X.mg x=some u)(r:RelV v u)(hr:∀M H,Rep z.K M H d v)(hd:(x==("__debug__":Str))=false):au X z (.Name x pos) g (.dat d) g:=
 ⟨_,za hg hm r hd,λσ As M H Q s k=>k _ H As M s (ao.refl _ _) (hr M H)⟩
theorem oB(h:au X z e g (.new l) g'):au X z e g (.dat (.lst l)) g':=by
 obtain⟨t,p,q⟩:=h;refine⟨t,p,λσ As M H Q s k=>q σ As M H Q s λv H' az M' s' st r=>?_⟩
 obtain⟨a,xs,rfl,hm,hA,h0,ha,rr⟩:=r;have hM:∀m∈(M'.filter λm=>decide (m≠a)),m∈M':=λm hm=>(lL.mp hm).1
 have na:a∉(M'.filter λm=>decide (m≠a)):=λhm=>by
  have:=(lL.mp hm).2;simp at this
 exact k _ H' az _ (s'.drop h0 hA) (st.trans (ao.less hM)) (.lst ⟨na,ha⟩ (rr.stay (ao.less hM)))
theorem Bo(h:au X z e g (.var i) g1)(hg:g1[i]?=some (.own l))(hb:i∉z.bor):au X z e g (.dat (.lst l)) (g1.set i (.dat (.lst l))):=by
 obtain⟨t,p,q⟩:=h;refine⟨t,p,λσ As M H Q s k=>q σ As M H Q s λv H' az M' s' st r=>?_⟩
 obtain⟨l',h1,h2⟩:=r;obtain⟨bf,M2,s2,aI⟩:=s'.freeze hg hb;have hi:i<g1.length:=(dC.mp hg).1;obtain⟨v',e1,e2⟩:=s2.sl.u9 (i:=i) (d:=.lst l) (by rw[i4 hi])
 rw[h2]at e1;injection e1 with e1;injection e1 with e1;subst e1;exact k _ H' bf M2 s2 (st.trans aI) e2
theorem RC(h1:au X z a g r1 g1)(h2:au X z b g1 r2 g2)(p1:pk r1 g2=some d1)(p2:pk r2 g2=some d2)(ho:mj X z (binaryOp op) d1 d2 r):au X z (.BinOp a op b pos) g r g2:=by
 obtain⟨t1,q1,k1⟩:=h1;obtain⟨t2,q2,k2⟩:=h2;obtain⟨rr,o,ko⟩:=ho;exact⟨_,Xq o q1 q2,λσ As M H Q s k=>k1 σ As M H _ s λv1 H1 aN M1 s1 cE R1=>k2 σ aN M1 H1 _ s1 λv2 H2 bf M2 s2 aI R2=>
  ko g2 σ bf M2 H2 v1 v2 Q s2 (s2.pk aI R1 p1) (s2.pk (ao.refl _ _) R2 p2) λv H' az M' s' st' R'=>k v H' az M' s' (cE.trans (aI.trans st')) R'⟩
theorem RD(h1:au X z a g r1 g1)(h2:au X z b g1 r2 g2)(p1:pk r1 g2=some d1)(p2:pk r2 g2=some d2)(ho:mj X z (compareOp op) d1 d2 r)(hm:behindInMarks op b=false):au X z (.Compare a [op] [b] pos) g r g2:=by
 obtain⟨t1,q1,k1⟩:=h1;obtain⟨t2,q2,k2⟩:=h2;obtain⟨rr,o,ko⟩:=ho;exact⟨_,zb o q1 q2 hm,λσ As M H Q s k=>k1 σ As M H _ s λv1 H1 aN M1 s1 cE R1=>k2 σ aN M1 H1 _ s1 λv2 H2 bf M2 s2 aI R2=>
  ko g2 σ bf M2 H2 v1 v2 Q s2 (s2.pk aI R1 p1) (s2.pk (ao.refl _ _) R2 p2) λv H' az M' s' st' R'=>k v H' az M' s' (cE.trans (aI.trans st')) R'⟩
theorem Yd(h1:au X z a g r1 g1)(h2:au X z b g1 r2 g2)(p1:pk r1 g2=some d1)(p2:pk r2 g2=some d2)(ho:Wi X z d1 d2 r)(hs:sM b):au X z (.Subscript a b pos) g r g2:=by
 obtain⟨t1,q1,k1⟩:=h1;obtain⟨t2,q2,k2⟩:=h2;obtain⟨rr,o,ko⟩:=ho;exact⟨_,XR o q1 q2 hs,λσ As M H Q s k=>k1 σ As M H _ s λv1 H1 aN M1 s1 cE R1=>k2 σ aN M1 H1 _ s1 λv2 H2 bf M2 s2 aI R2=>
  ko g2 σ bf M2 H2 v1 v2 Q s2 (s2.pk aI R1 p1) (s2.pk (ao.refl _ _) R2 p2) λv H' az M' s' st' R'=>k v H' az M' s' (cE.trans (aI.trans st')) R'⟩
theorem Ye(h1:au X z a g r1 g1)(p1:pk r1 g1=some d1)(ho:UnD X z (unaryOp op) d1 r):au X z (.UnaryOp op a pos) g r g1:=by obtain⟨t1,q1,k1⟩:=h1;obtain⟨rr,o,ko⟩:=ho;exact⟨_,Pr o q1,λσ As M H Q s k=>k1 σ As M H _ s λv1 H1 aN M1 s1 cE R1=>ko g1 σ aN M1 H1 v1 Q s1 (s1.pk (ao.refl _ _) R1 p1) λv H' az M' s' st' R'=>k v H' az M' s' (cE.trans st') R'⟩
theorem eV(q:cN z g σ As M H (.dat (.bl c)) v):v=.bl c:=by have q':Rep z.K M H (.bl c) v:=q;cases q';rfl
theorem RJ(h1:au X z a g r1 g1)(h2:au X z b g1 r2 g2)(p1:pk r1 g2=some d1)(p2:pk r2 g2=some d2)(ho:mj X z (compareOp op) d1 d2 (.dat (.bl c)))(hm:behindInMarks op b=false):cC X z (.Compare a [op] [b] pos) g c g2:=by
 obtain⟨t1,q1,k1⟩:=h1;obtain⟨t2,q2,k2⟩:=h2;obtain⟨rr,o,ko⟩:=ho;exact⟨_,sI o q1 q2 hm,λσ As M H Q s k=>k1 σ As M H _ s λv1 H1 aN M1 s1 cE R1=>k2 σ aN M1 H1 _ s1 λv2 H2 bf M2 s2 aI R2=>
  ko g2 σ bf M2 H2 v1 v2 _ s2 (s2.pk aI R1 p1) (s2.pk (ao.refl _ _) R2 p2) λv H' az M' s' st' R'=>⟨c,eV R',k H' az M' s' (cE.trans (aI.trans st'))⟩⟩
theorem RK(h:cC X z a g c g'):cC X z (.UnaryOp .Not a pos) g (!c) g':=by obtain⟨t,q,k⟩:=h;exact⟨_,Ej q,λσ As M H Q s kk=>k σ As M H _ s λH' az M' s' st=>kk H' az M' s' st⟩
def mV(X:Cx)(z:Z)(e:Expr)(g:G)(b:Bool)(g':G):Prop:=
 ∃t,PW X e t/\∀σ As M H (Q:Bool->Hp->Prop),S z g σ As M H->(∀H' az M',S z g' σ az M' H'->ao M H M' H'->Q b H')->t σ H Q
theorem mV.tr(h:mV X z e g c g'):cC X z e g c g':=let ⟨t,q,k⟩:=h;⟨t,q.pt,k⟩
theorem KS(h:cC X z a g c g'):mV X z (.BoolOp .And [a] pos) g c g':=let ⟨t,q,k⟩:=h;⟨t,pw_and1 q,k⟩
theorem RL(h:cC X z a g c g'):mV X z (.BoolOp .Or [a] pos) g c g':=let ⟨t,q,k⟩:=h;⟨t,pw_or1 q,k⟩
def tNo:TT:=λ_ _ _=>False
theorem pw_never:PW X e tNo:=λ_ _ _ _ _ _ _ h=>h.elim
theorem jZ:PE X e (λ_ _ _=>False):=λ_ _ _ _ _ _ h=>h.elim
theorem KY{rest:List Expr}(h:cC X z a g false g1):mV X z (.BoolOp .And (a::b::rest) pos) g false g1:=by obtain⟨t,q,k⟩:=h;exact⟨_,pw_and q pw_never,λσ As M H Q s kk=>k σ As M H _ s λH' az M' s' st=>mU (kk H' az M' s' st)⟩
theorem KZ{rest:List Expr}{c:Bool}(h:cC X z a g true g1)(h2:mV X z (.BoolOp .And (b::rest) pos) g1 c g2):mV X z (.BoolOp .And (a::b::rest) pos) g c g2:=by obtain⟨t,q,k⟩:=h;obtain⟨t2,q2,k2⟩:=h2;exact⟨_,pw_and q q2,λσ As M H Q s kk=>k σ As M H _ s λH' az M' s' st=>jt (k2 σ az M' H' Q s' λH2 bf M2 s2 aI=>kk H2 bf M2 s2 (st.trans aI))⟩
theorem RM{rest:List Expr}(h:cC X z a g true g1):mV X z (.BoolOp .Or (a::b::rest) pos) g true g1:=by obtain⟨t,q,k⟩:=h;exact⟨_,pw_or q pw_never,λσ As M H Q s kk=>k σ As M H _ s λH' az M' s' st=>jt (kk H' az M' s' st)⟩
theorem RN{rest:List Expr}{c:Bool}(h:cC X z a g false g1)(h2:mV X z (.BoolOp .Or (b::rest) pos) g1 c g2):mV X z (.BoolOp .Or (a::b::rest) pos) g c g2:=by obtain⟨t,q,k⟩:=h;obtain⟨t2,q2,k2⟩:=h2;exact⟨_,pw_or q q2,λσ As M H Q s kk=>k σ As M H _ s λH' az M' s' st=>mU (k2 σ az M' H' Q s' λH2 bf M2 s2 aI=>kk H2 bf M2 s2 (st.trans aI))⟩
theorem Ft(h:au X z a g r g'):au X z (.BoolOp op [a] pos) g r g':=let ⟨t,q,k⟩:=h;⟨t,QJ q,k⟩
theorem K1{rest:List Expr}(h:au X z a g (.dat (.bl false)) g1):au X z (.BoolOp .And (a::b::rest) pos) g (.dat (.bl false)) g1:=by obtain⟨t,q,k⟩:=h;exact⟨_,Ek q jZ,λσ As M H Q s kk=>k σ As M H _ s λv H' az M' s' st R=>⟨false,eV R,mU (kk _ H' az M' s' st (.bl false))⟩⟩
theorem K3{rest:List Expr}(h:au X z a g (.dat (.bl true)) g1)(h2:au X z (.BoolOp .And (b::rest) pos) g1 r g2):au X z (.BoolOp .And (a::b::rest) pos) g r g2:=by obtain⟨t,q,k⟩:=h;obtain⟨t2,q2,k2⟩:=h2;exact⟨_,Ek q q2,λσ As M H Q s kk=>k σ As M H _ s λv H' az M' s' st R=>⟨true,eV R,jt (k2 σ az M' H' Q s' λv2 H2 bf M2 s2 aI=>kk v2 H2 bf M2 s2 (st.trans aI))⟩⟩
theorem RP{rest:List Expr}(h:au X z a g (.dat (.bl true)) g1):au X z (.BoolOp .Or (a::b::rest) pos) g (.dat (.bl true)) g1:=by obtain⟨t,q,k⟩:=h;exact⟨_,Pj q jZ,λσ As M H Q s kk=>k σ As M H _ s λv H' az M' s' st R=>⟨true,eV R,jt (kk _ H' az M' s' st (.bl true))⟩⟩
theorem RQ{rest:List Expr}(h:au X z a g (.dat (.bl false)) g1)(h2:au X z (.BoolOp .Or (b::rest) pos) g1 r g2):au X z (.BoolOp .Or (a::b::rest) pos) g r g2:=by obtain⟨t,q,k⟩:=h;obtain⟨t2,q2,k2⟩:=h2;exact⟨_,Pj q q2,λσ As M H Q s kk=>k σ As M H _ s λv H' az M' s' st R=>⟨false,eV R,mU (k2 σ az M' H' Q s' λv2 H2 bf M2 s2 aI=>kk v2 H2 bf M2 s2 (st.trans aI))⟩⟩
theorem RT(h:au X z a g (.dat (.bl c)) g1):au X z (.UnaryOp .Not a pos) g (.dat (.bl (!c))) g1:=by obtain⟨t,q,k⟩:=h;exact⟨_,QK q,λσ As M H Q s kk=>k σ As M H _ s λv H' az M' s' st R=>⟨c,eV R,kk _ H' az M' s' st (.bl _)⟩⟩
theorem RV(h:cC X z c g true g1)(h2:au X z a g1 r g2):au X z (.IfExp c a b pos) g r g2:=by obtain⟨t,q,k⟩:=h;obtain⟨t2,q2,k2⟩:=h2;exact⟨_,uS q q2 jZ,λσ As M H Q s kk=>k σ As M H _ s λH' az M' s' st=>jt (k2 σ az M' H' Q s' λv2 H2 bf M2 s2 aI=>kk v2 H2 bf M2 s2 (st.trans aI))⟩
theorem RW(h:cC X z c g false g1)(h2:au X z b g1 r g2):au X z (.IfExp c a b pos) g r g2:=by obtain⟨t,q,k⟩:=h;obtain⟨t2,q2,k2⟩:=h2;exact⟨_,uS q jZ q2,λσ As M H Q s kk=>k σ As M H _ s λH' az M' s' st=>mU (k2 σ az M' H' Q s' λv2 H2 bf M2 s2 aI=>kk v2 H2 bf M2 s2 (st.trans aI))⟩
inductive jw(z:Z)(σ:Sg)(M:List Addr)(H:Hp):List R->List V->Prop
 |nil:jw z σ M H [] []
 |dat {d:D}{v:V}{rs:List R}{vs:List V}:Rep z.K M H d v->jw z σ M H rs vs->jw z σ M H (.dat d::rs) (v::vs)
 |var {i:Nat}{v:V}{rs:List R}{vs:List V}:σ[i]?=some (some v)->jw z σ M H rs vs->jw z σ M H (.var i::rs) (v::vs)
def cO(X:Cx)(z:Z)(es:List Expr)(g:G)(rs:List R)(g':G):Prop:=
 ∃t,PA X es t/\∀σ As M H (Q:List V->Hp->Prop),S z g σ As M H->(∀vs H' az M',S z g' σ az M' H'->ao M H M' H'->jw z σ M' H' rs vs->Q vs H')->t σ H Q
theorem fj:cO X z [] g [] g:=⟨_,gj,λσ As M H Q s k=>k [] H As M s (ao.refl _ _) .nil⟩
theorem dM(h:au X z e g (.dat d) g1)(h2:cO X z es g1 rs g2)(hs:starEach (e::es) X.env=(false,eval e X.env)::starEach es X.env):cO X z (e::es) g (.dat d::rs) g2:=by obtain⟨t,q,k⟩:=h;obtain⟨t2,q2,k2⟩:=h2;exact⟨_,bF q q2 hs,λσ As M H Q s kk=>k σ As M H _ s λv H' az M' s' st R=>k2 σ az M' H' _ s' λvs H2 bf M2 s2 aI R2=>kk _ H2 bf M2 s2 (st.trans aI) (.dat (Rep.stay aI R) R2)⟩
theorem Fv(h:au X z e g (.var i) g1)(h2:cO X z es g1 rs g2)(hs:starEach (e::es) X.env=(false,eval e X.env)::starEach es X.env):cO X z (e::es) g (.var i::rs) g2:=by obtain⟨t,q,k⟩:=h;obtain⟨t2,q2,k2⟩:=h2;exact⟨_,bF q q2 hs,λσ As M H Q s kk=>k σ As M H _ s λv H' az M' s' st ⟨_,_,R⟩=>k2 σ az M' H' _ s' λvs H2 bf M2 s2 aI R2=>kk _ H2 bf M2 s2 (st.trans aI) (.var R R2)⟩
inductive K4(K:Frag)(M:List Addr)(H:Hp):List D->List V->Prop
 |nil:K4 K M H [] []
 |cons {d:D}{v:V}{ds:List D}{vs:List V}:Pk K M H d v->K4 K M H ds vs->K4 K M H (d::ds) (v::vs)
def vd:List R->G->Option (List D)
 | [],_=>some []
 |r::rs,g=>match pk r g,vd rs g with
  |some d,some ds=>some (d::ds)
  |_,_=>none
theorem S.vd(s:S z g σ As M H)(q:jw z σ M H rs vs)(e:vd rs g=some ds):K4 z.K M H ds vs:=by
 induction q generalizing ds with
 |nil=>cases e;exact .nil
 |@dat d v rs vs r q ih=>
  unfold Ev.vd at e;cases e2:Ev.vd rs g with
  |none=>rw[e2]at e;cases e
  |some ds=>rw[e2]at e;cases e;exact .cons (.of r) (ih e2)
 |@var i v rs vs r q ih=>
  unfold Ev.vd at e;cases e1:Ev.pk (.var i) g with
  |none=>rw[e1]at e;cases e
  |some d=>
   cases e2:Ev.vd rs g with
   |none=>rw[e1,e2]at e;cases e
   |some ds=>
    rw[e1,e2]at e;cases e;unfold Ev.pk at e1;dsimp only at e1;split at e1
    . rename_i l hg;cases e1;obtain⟨a,xs,h1,h2,h3,h4⟩:=s.sl.at hg;rw[r]at h1;injection h1 with h1;injection h1 with h1;subst h1;exact .cons (.lst h3 h4) (ih e2)
    . rename_i l hg;cases e1;obtain⟨w,h1,h2⟩:=s.sl.u9 hg;rw[r]at h1;injection h1 with h1;injection h1 with h1;exact .cons (.of (h1▸h2)) (ih e2)
    . cases e1
noncomputable def sW:List R->Option (List D)
 | []=>some []
 |.dat d::rs=>match sW rs with |some ds=>some (d::ds) |none=>none
 |_::_=>none
theorem sX(q:jw z σ M H rs vs)(e:sW rs=some ds):aG z.K M H ds vs:=by
 induction q generalizing ds with
 |nil=>cases e;exact .nil
 |@dat d v rs vs r q ih=>
  unfold sW at e;cases e2:sW rs with
  |none=>rw[e2]at e;cases e
  |some ds=>rw[e2]at e;cases e;exact .cons r (ih e2)
 |var _ _ _=>cases e
theorem g7(h:n<=16777216):n<=sizeLine:=by rw[mB];exact h
theorem RX{x1}(h:cO X z es g rs g')(hd:sW rs=some ds)(hl:ds.length<=16777216):au X z (.Tuple es x1 pos) g (.dat (.tup ds)) g':=by
 obtain⟨t,q,k⟩:=h;refine⟨_,xJ q,λσ As M H Q s kk=>k σ As M H _ s λvs H' az M' s' st R=>?_⟩
 have rr:=sX R hd;refine⟨by rw[<- rr.length];exact g7 hl,λp hp=>kk _ _ az M' (s'.laid hp) (st.trans (ao.laid hp)) (.tup (.inl ⟨s'.fresh hp,.inl aA⟩) (rr.stay (ao.laid hp)))⟩
theorem RZ(h:cO X z es g rs g')(hd:sW rs=some ds)(hl:ds.length<=16777216):au X z (.List es pos) g (.new ds) g':=by
 obtain⟨t,q,k⟩:=h;refine⟨_,Eu q,λσ As M H Q s kk=>k σ As M H _ s λvs H' az M' s' st R=>?_⟩
 have rr:=sX R hd;refine⟨by rw[<- rr.length];exact g7 hl,λp hp=>kk _ _ az (p::M') (s'.aR hp) (st.trans (ao.aR hp)) ⟨p,vs,rfl,dL,λhA=>s'.fresh hp (s'.sub p hA),s'.bR hp,aA,rr.stay (ao.aR hp)⟩⟩
def CallD(X:Cx)(z:Z)(f:Value)(ds:List D)(res:R):Prop:=
 ∃r,dB X f r/\∀g σ As M H vs Q,S z g σ As M H->K4 z.K M H ds vs->Kn z g σ M H res Q->r vs H Q
theorem dZ{x:Str}{id:String}{p:Pos}{es:List Expr}{rs:List R}{ds:List D}(h:cO X z (e::es) g rs g')(hp:vd rs g'=some ds)(hc:CallD X z (.builtin id) ds r)(hg:Gl X x)(hm:X.mg x=none)(hv:bootBuiltins x=some (.builtin id))(hn:x≠ "__name__")(gX:(x==("__debug__":Str))=false)
  (he:starEach (e::es) X.env=(false,eval e X.env)::starEach es X.env) (dQ:(backTo pos (starEach es X.env)).any (·.1)=false):au X z (.Call (.Name x p) (e::es) [] pos) g r g':=by
 obtain⟨t,q,k⟩:=h;obtain⟨rr,c,kc⟩:=hc;exact⟨_,gZ c hg hm hv q hn gX he dQ,λσ As M H Q s kk=>k σ As M H _ s λvs H' az M' s' st R=>kc g' σ az M' H' vs Q s' (s'.vd R hp) λv H2 bf M2 s2 aI R2=>kk v H2 bf M2 s2 (st.trans aI) R2⟩
theorem lq(h:cO X z (e::es) g rs g')(hp:vd rs g'=some ds)(hc:CallD X z (.type T) ds r)(hg:Gl X x)(hm:X.mg x=none)(hv:bootBuiltins x=some (.type T))(hn:x≠ "__name__")(gX:(x==("__debug__":Str))=false)
  (he:starEach (e::es) X.env=(false,eval e X.env)::starEach es X.env) (dQ:(backTo pos (starEach es X.env)).any (·.1)=false):au X z (.Call (.Name x p) (e::es) [] pos) g r g':=by
 obtain⟨t,q,k⟩:=h;obtain⟨rr,c,kc⟩:=hc;exact⟨_,qR c hg hm hv q hn gX he dQ,λσ As M H Q s kk=>k σ As M H _ s λvs H' az M' s' st R=>kc g' σ az M' H' vs Q s' (s'.vd R hp) λv H2 bf M2 s2 aI R2=>kk v H2 bf M2 s2 (st.trans aI) R2⟩
end
mutual
noncomputable def cM:D->D->Bool
 |.non,.non=>true
 |.bl a,.bl b=>a==b
 |.bl a,.int j=>(if a then 1 else 0)==j
 |.int i,.bl b=>i==(if b then 1 else 0)
 |.int i,.int j=>i==j
 |.str x,.str y=>x==y
 |.tup l,.tup m=>dN l m
 |.lst l,.lst m=>dN l m
 |.lst l,.fix m=>dN l m
 |.fix l,.lst m=>dN l m
 |.fix l,.fix m=>dN l m
 |_,_=>false
noncomputable def dN:List D->List D->Bool
 | [],[]=>true
 |a::l,b::m=>cM a b&&dN l m
 |_,_=>false
end
mutual
noncomputable def dep:D->Nat
 |.tup l=>deps l+1
 |.lst l=>deps l+1
 |.fix l=>deps l+1
 |_=>0
noncomputable def deps:List D->Nat
 | []=>0
 |d::l=>max (dep d) (deps l)
end
mutual
noncomputable def jh:D->Bool
 |.tup l=>iU l
 |.lst l=>iU l
 |.fix l=>iU l
 |.emp=>false
 |.lg _=>false
 |.sV ..=>false
 |_=>true
noncomputable def iU:List D->Bool
 | []=>true
 |d::l=>jh d&&iU l
end
mutual
inductive Dv(h:Heap):D->Value->Prop
 |non:Dv h .non .none
 |bl (b:Bool):Dv h (.bl b) (.bool b)
 |int (i:Int) (t:Tok):Dv h (.int i) (.int i t)
 |str (x:Str) (t:Tok):Dv h (.str x) (.str x t)
 |tup {l:List D}{a:Addr}{us:List Value}:IsTup h a us.toArray->nq h l us->Dv h (.tup l) (.ref a)
 |lst {l:List D}{a:Addr}{us:List Value}:h.IsList a us.toArray->nq h l us->Dv h (.lst l) (.ref a)
 |fix {l:List D}{a:Addr}{us:List Value}:h.IsList a us.toArray->nq h l us->Dv h (.fix l) (.ref a)
inductive nq(h:Heap):List D->List Value->Prop
 |nil:nq h [] []
 |cons {d:D}{ds:List D}{u:Value}{us:List Value}:Dv h d u->nq h ds us->nq h (d::ds) (u::us)
end
section
theorem Rep.dv2(I:Inv X ah σ H s)(q:Rep X.K M H d v):∀u,RelV v u->jh d=true->Dv s.heap d u:=by
 refine Rep.rec (motive_1:=λd v _=>∀u,RelV v u->jh d=true->Dv s.heap d u) (motive_2:=λds vs _=>∀us,Vals vs us->iU ds=true->nq s.heap ds us) ?_ ?_ ?_ ?_ ?_ ?_ ?_ ?_ ?_ ?_ ?_ ?_ q
 . intro u r _;cases r;exact .non
 . intro b u r _;cases r;exact .bl b
 . intro i u r _;obtain⟨t,rfl⟩:=r;exact .int i t
 . intro x u r _;obtain⟨t,rfl⟩:=r;exact .str x t
 . intro l a xs h _ ih u r p;cases r;obtain⟨its,rv,ht,hz⟩:=I.tuple h.sq;exact .tup ht (ih _ rv p)
 . intro l a xs h _ ih u r p;cases r;obtain⟨its,rv,ht,hz⟩:=I.list (bN.of h.2);exact .lst ht.isList (ih _ rv p)
 . intro l a xs h _ ih u r p;cases r;obtain⟨its,rv,ht,hz⟩:=I.list h.sq;exact .fix ht.isList (ih _ rv p)
 . intro a _ _ u _ p;exact Bool.noConfusion (show false=true from p)
 . intro C a _ _ _ u _ p;exact Bool.noConfusion (show false=true from p)
 . intro ks ds a vs _ _ _ _ _ u _ p;exact Bool.noConfusion (show false=true from p)
 . intro us r _;cases r;exact .nil
 .
  intro d ds x xs _ _ i1 i2 us r p;cases r with
  |cons r1 r2=>have p:(jh d&&iU ds)=true:=p;rw[dS]at p;exact .cons (i1 _ r1 p.1) (i2 _ r2 p.2)
theorem Rep.dv(I:Inv X ah σ H s)(q:Rep X.K M H d v)(r:RelV v u)(p:jh d=true):Dv s.heap d u:=q.dv2 I u r p
theorem aG.dv(I:Inv X ah σ H s)(q:aG X.K M H ds vs)(r:Vals vs us)(p:iU ds=true):nq s.heap ds us:=by
 induction ds generalizing vs us with
 |nil=>cases q;cases r;exact .nil
 |cons d ds ih=>cases q with |cons q1 q2=>cases r with |cons r1 r2=>have p:(jh d&&iU ds)=true:=p;rw[dS]at p;exact .cons (q1.dv I r1 p.1) (ih q2 r2 p.2)
theorem Pk.dv(I:Inv X ah σ H s)(h:Pk X.K M H d v)(r:RelV v u)(p:jh d=true):Dv s.heap d u:=by
 cases h with
 |of q=>exact q.dv I r p
 |lst h q=>cases r;obtain⟨its,rv,ht,hz⟩:=I.list (bN.of h);exact .lst ht.isList (aG.dv I q rv (by simpa [jh]using p))
end
theorem nq.length(q:nq h l us):l.length=us.length:=by
 induction l generalizing us with
 |nil=>cases q;rfl
 |cons d l ih=>cases q with |cons a b=>exact congrArg (· + 1) (ih b)
theorem qU{h:Heap}{a:Addr}{us ws:List Value}(x:IsTup h a us.toArray)(y:IsTup h a ws.toArray):us=ws:=by obtain⟨o,e,_,n,d⟩:=x;obtain⟨o',e',_,n',d'⟩:=y;rw[e]at e';cases e';rw[d]at d';injection d' with d1 _;simpa using congrArg Array.toList d1
theorem bS{h:Heap}{a:Addr}{us ws:List Value}(x:h.IsList a us.toArray)(y:h.IsList a ws.toArray):us=ws:=by obtain⟨o,e,_,n,d⟩:=x;obtain⟨o',e',_,n',d'⟩:=y;rw[e]at e';cases e';rw[d]at d';injection d' with d1 _;simpa using congrArg Array.toList d1
theorem dD(x:IsTup h a us)(y:h.IsList a ws):False:=by obtain⟨o,e,c,_⟩:=x;obtain⟨o',e',c',_⟩:=y;rw[e]at e';cases e';rw[c]at c';injection c' with c';exact absurd c' ⋯
theorem Fw{h:Heap}{d1:D}{u:Value}(q:Dv h d1 u):∀d2,Dv h d2 u->cM d1 d2=true:=by
 refine Dv.rec (motive_1:=λd1 u _=>∀d2,Dv h d2 u->cM d1 d2=true) (motive_2:=λl us _=>∀m,nq h m us->dN l m=true) ?_ ?_ ?_ ?_ ?_ ?_ ?_ ?_ ?_ q
 . intro d2 q;cases q;rfl
 . intro b d2 q;cases q;exact B1 b
 . intro i t d2 q;cases q;exact B1 i
 . intro x t d2 q;cases q;exact B1 x
 .
  intro l a us x _ ih d2 q;cases q with
  |tup y q'=>cases qU x y;exact ih _ q'
  |lst y _=>exact (dD x y).elim
  |fix y _=>exact (dD x y).elim
 .
  intro l a us x _ ih d2 q;cases q with
  |tup y _=>exact (dD y x).elim
  |lst y q'=>cases bS x y;exact ih _ q'
  |fix y q'=>cases bS x y;exact ih _ q'
 .
  intro l a us x _ ih d2 q;cases q with
  |tup y _=>exact (dD y x).elim
  |lst y q'=>cases bS x y;exact ih _ q'
  |fix y q'=>cases bS x y;exact ih _ q'
 . intro m q;cases q;rfl
 .
  intro d ds u us _ _ i1 i2 m q;cases q with
  |@cons d' m _ _ b q'=>show (cM d d'&&dN ds m)=true;rw[i1 _ b,i2 _ q'];rfl
theorem K5(q:Dv h d1 u)(q':Dv h d2 u):cM d1 d2=true:=Fw q d2 q'
def PJ(l m:List D)(j:Nat):Bool:=match l[j]?,m[j]? with |some a,some b=>cM a b |_,_=>false
theorem oE(l m:List D)(h:l.length=m.length):(List.range l.length).all (PJ l m)=dN l m:=by
 induction l generalizing m with
 |nil=>cases m with
  |nil=>rfl
  |cons _ _=>cases h
 |cons a l ih=>cases m with
  |nil=>cases h
  |cons b m=>rw[l5,List.range_succ_eq_map,List.all_cons,List.all_map];have e:(PJ (a::l) (b::m) ∘ Nat.succ)=PJ l m:=rfl;rw[e,ih m (B0 h)];rfl
theorem oF(l m:List D)(h:l.length≠m.length):dN l m=false:=by
 induction l generalizing m with
 |nil=>cases m with
  |nil=>exact absurd rfl h
  |cons _ _=>rfl
 |cons a l ih=>cases m with
  |nil=>rfl
  |cons b m=>show (cM a b&&dN l m)=false;rw[ih m (λe=>h (congrArg (· + 1) e)),CI]
theorem ve(l m:List D):((List.range (min l.length m.length)).all (PJ l m)&&l.length==m.length)=dN l m:=by
 by_cases h:l.length=m.length
 . rw[h,Nat.min_self,<- h,oE l m h];simp
 .
  rw[oF l m h];have:(l.length==m.length)=false:=by simpa using h
  rw[this,CI]
theorem oG{l:List D}{j:Nat}{d:D}(e:l[j]?=some d):dep d<=deps l:=by
 induction l generalizing j with
 |nil=>exact nomatch (show none=some d from e)
 |cons d' l ih=>cases j with
  |zero=>cases (show some d'=some d from e);exact Nat.le_max_left _ _
  |succ j=>exact qS (ih (show l[j]?=some d from e)) (Nat.le_max_right _ _)
theorem nq.get{h:Heap}{l:List D}{us:List Value}{j:Nat}{u:Value}(q:nq h l us)(e:us[j]?=some u):∃d,l[j]?=some d/\Dv h d u:=by
 induction l generalizing us j with
 |nil=>cases q;exact nomatch (show none=some u from e)
 |cons d' l ih=>cases q with |@cons _ _ u' us a b=>cases j with
  |zero=>cases (show some u'=some u from e);exact⟨_,rfl,a⟩
  |succ j=>obtain⟨d,h⟩:=ih (j:=j) b e;exact⟨d,h⟩
theorem in1_units(A:Around):A.in1.units=A.units+1:=rfl
section
theorem j3(hl:s.heap.IsList l us.toArray)(hb:s.heap.IsList b ws.toArray)(q:nq s.heap ls us)(q':nq s.heap ms ws)(hu:A.units<cLine)
  (he:∀(j:Nat) d1 d2 u1 u2,ls[j]?=some d1->Dv s.heap d1 u1->Dv s.heap d2 u2->SeqAt.EqAt A.in1 s u1 u2 (cM d1 d2)):SeqAt.RcAt A s (.ref l) (.ref b) (dN ls ms):=by
 have h1:=q.length;have h2:=q'.length;by_cases h:ls.length=ms.length
 .
  rw[<- oE ls ms h];have e:us.toArray.size=ls.length:=by rw[dE,h1]
  rw[<- e];refine SeqAt.RcAt.lists hl hb (by rw[dE,dE];lia) hu λj g1 g2=>?_
  rw[dE]at g1 g2;obtain⟨d1,e1,v1⟩:=q.get (j:=j) (u:=us[j]) (by simp[g1])
  obtain⟨d2,e2,v2⟩:=q'.get (j:=j) (u:=ws[j]) (by simp[g2])
  have:=he j d1 d2 us[j] ws[j] e1 v1 v2;simpa [PJ,e1,e2]using this
 . rw[oF ls ms h];refine SeqAt.RcAt.lists_lengths hl hb ?_ hu;rw[dE,dE];simp only[bne_iff_ne];lia
theorem Bp(hl:IsTup s.heap l us.toArray)(hb:IsTup s.heap b ws.toArray)(q:nq s.heap ls us)(q':nq s.heap ms ws)(hu:A.units<cLine)
  (he:∀(j:Nat) d1 d2 u1 u2,ls[j]?=some d1->Dv s.heap d1 u1->Dv s.heap d2 u2->SeqAt.EqAt A.in1 s u1 u2 (cM d1 d2)):SeqAt.RcAt A s (.ref l) (.ref b) (dN ls ms):=by
 have h1:=q.length;have h2:=q'.length;have e:us.toArray.size=ls.length:=by rw[dE,h1]
 have e':ws.toArray.size=ms.length:=by rw[dE,h2]
 rw[<- ve,<- e,<- e'];refine SeqAt.RcAt.tuples hl hb hu λj g1 g2=>?_
 rw[dE]at g1 g2;obtain⟨d1,e1,v1⟩:=q.get (j:=j) (u:=us[j]) (by simp[g1])
 obtain⟨d2,e2,v2⟩:=q'.get (j:=j) (u:=ws[j]) (by simp[g2])
 have:=he j d1 d2 us[j] ws[j] e1 v1 v2;simpa [PJ,e1,e2]using this
theorem g8(x:Dv s.heap d1 (.ref l))(y:Dv s.heap d2 (.ref b))(h:SeqAt.RcAt A s (.ref l) (.ref b) (cM d1 d2)):SeqAt.EqAt A s (.ref l) (.ref b) (cM d1 d2):=by
 by_cases e:l=b
 . subst e;rw[K5 x y];exact .same _
 . exact .of_refs e h
end
theorem Fy{s:Shared}:∀(n:Nat) {d1 d2:D}{u1 u2:Value}{A:Around},dep d1<=n->Dv s.heap d1 u1->Dv s.heap d2 u2->A.units+n<cLine->SeqAt.EqAt A s u1 u2 (cM d1 d2)/\SeqAt.RcAt A s u1 u2 (cM d1 d2):=by
 intro n
 induction n with
 |zero=>
  intro d1 d2 u1 u2 A hn x y hu;have aU:A.units<cLine:=by lia
  cases x with
  |tup h q=>exact absurd hn (B4 _)
  |lst h q=>exact absurd hn (B4 _)
  |fix h q=>exact absurd hn (B4 _)
  |non=>
   cases y with
   |non=>exact⟨.same _,.none_none⟩
   |bl c'=>exact⟨.none_bool c',.none_bool c'⟩
   |int c' t'=>exact⟨.none_int c' t',.none_int c' t'⟩
   |str c' t'=>exact⟨.none_str c' t',.none_str c' t'⟩
   |tup h' q'=>exact⟨.none_tuple h' aU,.none_tuple h' aU⟩
   |lst h' q'=>exact⟨.none_list h' aU,.none_list h' aU⟩
   |fix h' q'=>exact⟨.none_list h' aU,.none_list h' aU⟩
  |bl c=>
   cases y with
   |non=>exact⟨.bool_none c,.bool_none c⟩
   |bl c'=>exact⟨.bool_bool c c',.bool_bool c c'⟩
   |int c' t'=>exact⟨.bool_int c c' t',.bool_int c c' t'⟩
   |str c' t'=>exact⟨.bool_str c c' t',.bool_str c c' t'⟩
   |tup h' q'=>exact⟨.bool_tuple c h' aU,.bool_tuple c h' aU⟩
   |lst h' q'=>exact⟨.bool_list c h' aU,.bool_list c h' aU⟩
   |fix h' q'=>exact⟨.bool_list c h' aU,.bool_list c h' aU⟩
  |int c t=>
   cases y with
   |non=>exact⟨.int_none c t,.int_none c t⟩
   |bl c'=>exact⟨.int_bool c t c',.int_bool c t c'⟩
   |int c' t'=>exact⟨.int_int c t c' t',.int_int c t c' t'⟩
   |str c' t'=>exact⟨.int_str c t c' t',.int_str c t c' t'⟩
   |tup h' q'=>exact⟨.int_tuple c t h' aU,.int_tuple c t h' aU⟩
   |lst h' q'=>exact⟨.int_list c t h' aU,.int_list c t h' aU⟩
   |fix h' q'=>exact⟨.int_list c t h' aU,.int_list c t h' aU⟩
  |str c t=>
   cases y with
   |non=>exact⟨.str_none c t,.str_none c t⟩
   |bl c'=>exact⟨.str_bool c t c',.str_bool c t c'⟩
   |int c' t'=>exact⟨.str_int c t c' t',.str_int c t c' t'⟩
   |str c' t'=>exact⟨.str_str c t c' t',.str_str c t c' t'⟩
   |tup h' q'=>exact⟨.str_tuple c t h' aU,.str_tuple c t h' aU⟩
   |lst h' q'=>exact⟨.str_list c t h' aU,.str_list c t h' aU⟩
   |fix h' q'=>exact⟨.str_list c t h' aU,.str_list c t h' aU⟩
 |succ n ih=>
  intro d1 d2 u1 u2 A hn x y hu;have aU:A.units<cLine:=by lia
  have el:∀{l:List D},deps l<=n->∀(j:Nat) d1 d2 u1 u2,l[j]?=some d1->Dv s.heap d1 u1->Dv s.heap d2 u2->SeqAt.EqAt A.in1 s u1 u2 (cM d1 d2):=λhl j d1 d2 u1 u2 e v1 v2=>
   (ih (qS (oG e) hl) v1 v2 (by rw[in1_units];lia)).1
  cases x with
  |@tup l0 a0 us0 h q=>
   have hn':deps l0<=n:=BN hn;have x:=Dv.tup h q;cases y with
   |tup h' q'=>have r:=Bp h h' q q' aU (el hn');exact⟨g8 x (.tup h' q') r,r⟩
   |lst h' q'=>exact⟨.tuple_list h h' aU,.tuple_list h h' aU⟩
   |fix h' q'=>exact⟨.tuple_list h h' aU,.tuple_list h h' aU⟩
   |non=>exact⟨.tuple_none h aU,.tuple_none h aU⟩
   |bl b=>exact⟨.tuple_bool b h aU,.tuple_bool b h aU⟩
   |int b t=>exact⟨.tuple_int b t h aU,.tuple_int b t h aU⟩
   |str b t=>exact⟨.tuple_str b t h aU,.tuple_str b t h aU⟩
  |@lst l0 a0 us0 h q=>
   have hn':deps l0<=n:=BN hn;have x:=Dv.lst h q;cases y with
   |tup h' q'=>exact⟨.list_tuple h h' aU,.list_tuple h h' aU⟩
   |lst h' q'=>have r:=j3 h h' q q' aU (el hn');exact⟨g8 x (.lst h' q') r,r⟩
   |fix h' q'=>have r:=j3 h h' q q' aU (el hn');exact⟨g8 x (.fix h' q') r,r⟩
   |non=>exact⟨.list_none h aU,.list_none h aU⟩
   |bl b=>exact⟨.list_bool b h aU,.list_bool b h aU⟩
   |int b t=>exact⟨.list_int b t h aU,.list_int b t h aU⟩
   |str b t=>exact⟨.list_str b t h aU,.list_str b t h aU⟩
  |@fix l0 a0 us0 h q=>
   have hn':deps l0<=n:=BN hn;have x:=Dv.fix h q;cases y with
   |tup h' q'=>exact⟨.list_tuple h h' aU,.list_tuple h h' aU⟩
   |lst h' q'=>have r:=j3 h h' q q' aU (el hn');exact⟨g8 x (.lst h' q') r,r⟩
   |fix h' q'=>have r:=j3 h h' q q' aU (el hn');exact⟨g8 x (.fix h' q') r,r⟩
   |non=>exact⟨.list_none h aU,.list_none h aU⟩
   |bl b=>exact⟨.list_bool b h aU,.list_bool b h aU⟩
   |int b t=>exact⟨.list_int b t h aU,.list_int b t h aU⟩
   |str b t=>exact⟨.list_str b t h aU,.list_str b t h aU⟩
  |non=>
   cases y with
   |non=>exact⟨.same _,.none_none⟩
   |bl c'=>exact⟨.none_bool c',.none_bool c'⟩
   |int c' t'=>exact⟨.none_int c' t',.none_int c' t'⟩
   |str c' t'=>exact⟨.none_str c' t',.none_str c' t'⟩
   |tup h' q'=>exact⟨.none_tuple h' aU,.none_tuple h' aU⟩
   |lst h' q'=>exact⟨.none_list h' aU,.none_list h' aU⟩
   |fix h' q'=>exact⟨.none_list h' aU,.none_list h' aU⟩
  |bl c=>
   cases y with
   |non=>exact⟨.bool_none c,.bool_none c⟩
   |bl c'=>exact⟨.bool_bool c c',.bool_bool c c'⟩
   |int c' t'=>exact⟨.bool_int c c' t',.bool_int c c' t'⟩
   |str c' t'=>exact⟨.bool_str c c' t',.bool_str c c' t'⟩
   |tup h' q'=>exact⟨.bool_tuple c h' aU,.bool_tuple c h' aU⟩
   |lst h' q'=>exact⟨.bool_list c h' aU,.bool_list c h' aU⟩
   |fix h' q'=>exact⟨.bool_list c h' aU,.bool_list c h' aU⟩
  |int c t=>
   cases y with
   |non=>exact⟨.int_none c t,.int_none c t⟩
   |bl c'=>exact⟨.int_bool c t c',.int_bool c t c'⟩
   |int c' t'=>exact⟨.int_int c t c' t',.int_int c t c' t'⟩
   |str c' t'=>exact⟨.int_str c t c' t',.int_str c t c' t'⟩
   |tup h' q'=>exact⟨.int_tuple c t h' aU,.int_tuple c t h' aU⟩
   |lst h' q'=>exact⟨.int_list c t h' aU,.int_list c t h' aU⟩
   |fix h' q'=>exact⟨.int_list c t h' aU,.int_list c t h' aU⟩
  |str c t=>
   cases y with
   |non=>exact⟨.str_none c t,.str_none c t⟩
   |bl c'=>exact⟨.str_bool c t c',.str_bool c t c'⟩
   |int c' t'=>exact⟨.str_int c t c' t',.str_int c t c' t'⟩
   |str c' t'=>exact⟨.str_str c t c' t',.str_str c t c' t'⟩
   |tup h' q'=>exact⟨.str_tuple c t h' aU,.str_tuple c t h' aU⟩
   |lst h' q'=>exact⟨.str_list c t h' aU,.str_list c t h' aU⟩
   |fix h' q'=>exact⟨.str_list c t h' aU,.str_list c t h' aU⟩
section
variable{K:Frag}
theorem Pk.int{i:Int}(h:Pk K M H (.int i) v):v=.int i:=by cases h with |of r=>cases r;rfl
theorem Pk.bl(h:Pk K M H (.bl i) v):v=.bl i:=by cases h with |of r=>cases r;rfl
theorem Pk.str(h:Pk K M H (.str i) v):v=.str i:=by cases h with |of r=>cases r;rfl
theorem Pk.non(h:Pk K M H .non v):v=.non:=by cases h with |of r=>cases r;rfl
theorem Pk.tup{l:List D}(h:Pk K M H (.tup l) v):∃a xs,v=.ref a/\TupAt K M H a xs/\aG K M H l xs:=by cases h with |of r=>cases r with |tup h1 h2=>exact⟨_,_,rfl,h1,h2⟩
theorem Pk.fix{l:List D}(h:Pk K M H (.fix l) v):∃a xs,v=.ref a/\oz K M H a xs/\aG K M H l xs:=by cases h with |of r=>cases r with |fix h1 h2=>exact⟨_,_,rfl,h1,h2⟩
end
section
theorem nu{f:Value->Value->Sem Value}{k:Int->Int->Int}{i j:Int}(h:kX X f (DQ λi j=>.int (k i j))):mj X z f (.int i) (.int j) (.dat (.int (k i j))):=
 ⟨_,h,λg σ As M H v1 v2 Q s p1 p2 kk=>⟨i,j,p1.int,p2.int,kk _ H As M s (ao.refl _ _) (.int _)⟩⟩
theorem oH{f:Value->Value->Sem Value}{C:Int->Int->Prop}{k:Int->Int->Int}{i j:Int}(h:kX X f (rI C λi j=>.int (k i j)))(hc:C i j):mj X z f (.int i) (.int j) (.dat (.int (k i j))):=
 ⟨_,h,λg σ As M H v1 v2 Q s p1 p2 kk=>⟨i,j,p1.int,p2.int,hc,kk _ H As M s (ao.refl _ _) (.int _)⟩⟩
theorem sY{f:Value->Value->Sem Value}{k:Int->Int->Bool}{i j:Int}(h:kX X f (DQ λi j=>.bl (k i j))):mj X z f (.int i) (.int j) (.dat (.bl (k i j))):=
 ⟨_,h,λg σ As M H v1 v2 Q s p1 p2 kk=>⟨i,j,p1.int,p2.int,kk _ H As M s (ao.refl _ _) (.bl _)⟩⟩
def R0(z:Z)(d1 d2:D)(b:Bool):R2:=λx y H Q=>(∃M,Pk z.K M H d1 x/\Pk z.K M H d2 y)/\Q (.bl b) H
theorem Yg(hK:z.K=X.K)(p1:jh d1=true)(p2:jh d2=true)(hd:X.A.units+dep d1<cLine):mj X z (compareOp .Eq) d1 d2 (.dat (.bl (cM d1 d2))):=by
 refine⟨R0 z d1 d2 (cM d1 d2),?_,λg σ As M H v1 v2 Q s q1 q2 kk=>⟨⟨M,q1,q2⟩,kk _ H As M s (ao.refl _ _) (.bl _)⟩⟩
 intro ah s σ H x y v u Q I rx ry h;obtain⟨⟨M,q1,q2⟩,q⟩:=h;rw[hK]at q1 q2;exact (Fy (dep d1) (eJ _) (q1.dv I rx p1) (q2.dv I ry p2) hd).2 X.prog X.w X.xe _ ⟨.bl _,H,I,rfl,q⟩
section
theorem j4(hl:s.heap.IsList l us.toArray)(hb:s.heap.IsList b ws.toArray)(q:nq s.heap ls us)(q':nq s.heap ms ws)(hu:A.units<cLine)
  (he:∀(j:Nat) d1 d2 u1 u2,ls[j]?=some d1->Dv s.heap d1 u1->Dv s.heap d2 u2->SeqAt.EqAt A.in1 s u1 u2 (cM d1 d2)):SeqAt.RcNeAt A s (.ref l) (.ref b) (!dN ls ms):=by
 have h1:=q.length;have h2:=q'.length;by_cases h:ls.length=ms.length
 .
  rw[<- oE ls ms h];have e:us.toArray.size=ls.length:=by rw[dE,h1]
  rw[<- e];refine SeqAt.RcNeAt.lists hl hb (by rw[dE,dE];lia) hu λj g1 g2=>?_
  rw[dE]at g1 g2;obtain⟨d1,e1,v1⟩:=q.get (j:=j) (u:=us[j]) (by simp[g1])
  obtain⟨d2,e2,v2⟩:=q'.get (j:=j) (u:=ws[j]) (by simp[g2])
  have:=he j d1 d2 us[j] ws[j] e1 v1 v2;simpa [PJ,e1,e2]using this
 . rw[oF ls ms h];refine SeqAt.RcNeAt.lists_lengths hl hb ?_ hu;rw[dE,dE];simp only[bne_iff_ne];lia
theorem Bq(hl:IsTup s.heap l us.toArray)(hb:IsTup s.heap b ws.toArray)(q:nq s.heap ls us)(q':nq s.heap ms ws)(hu:A.units<cLine)
  (he:∀(j:Nat) d1 d2 u1 u2,ls[j]?=some d1->Dv s.heap d1 u1->Dv s.heap d2 u2->SeqAt.EqAt A.in1 s u1 u2 (cM d1 d2)):SeqAt.RcNeAt A s (.ref l) (.ref b) (!dN ls ms):=by
 have h1:=q.length;have h2:=q'.length;have e:us.toArray.size=ls.length:=by rw[dE,h1]
 have e':ws.toArray.size=ms.length:=by rw[dE,h2]
 rw[<- ve,<- e,<- e'];refine SeqAt.RcNeAt.tuples hl hb hu λj g1 g2=>?_
 rw[dE]at g1 g2;obtain⟨d1,e1,v1⟩:=q.get (j:=j) (u:=us[j]) (by simp[g1])
 obtain⟨d2,e2,v2⟩:=q'.get (j:=j) (u:=ws[j]) (by simp[g2])
 have:=he j d1 d2 us[j] ws[j] e1 v1 v2;simpa [PJ,e1,e2]using this
end
theorem Yh(x:Dv s.heap d1 u1)(y:Dv s.heap d2 u2)(hu:A.units+dep d1<cLine):SeqAt.RcNeAt A s u1 u2 (!cM d1 d2):=by
 have aU:A.units<cLine:=by lia
 have el:∀{l:List D},deps l+1<=dep d1->∀(j:Nat) d1 d2 u1 u2,l[j]?=some d1->Dv s.heap d1 u1->Dv s.heap d2 u2->SeqAt.EqAt A.in1 s u1 u2 (cM d1 d2):=λhl j e1 e2 u1 u2 e v1 v2=>
  (Fy (dep e1) (eJ _) v1 v2 (by rw[in1_units];have:=oG e;lia)).1
 cases x with
 |tup h q=>
  cases y with
  |tup h' q'=>exact Bq h h' q q' aU (el (by simp[dep]))
  |lst h' q'=>exact .tuple_list h h' aU
  |fix h' q'=>exact .tuple_list h h' aU
  |non=>exact .tuple_none h aU
  |bl b=>exact .tuple_bool b h aU
  |int b t=>exact .tuple_int b t h aU
  |str b t=>exact .tuple_str b t h aU
 |lst h q=>
  cases y with
  |tup h' q'=>exact .list_tuple h h' aU
  |lst h' q'=>exact j4 h h' q q' aU (el (by simp[dep]))
  |fix h' q'=>exact j4 h h' q q' aU (el (by simp[dep]))
  |non=>exact .list_none h aU
  |bl b=>exact .list_bool b h aU
  |int b t=>exact .list_int b t h aU
  |str b t=>exact .list_str b t h aU
 |fix h q=>
  cases y with
  |tup h' q'=>exact .list_tuple h h' aU
  |lst h' q'=>exact j4 h h' q q' aU (el (by simp[dep]))
  |fix h' q'=>exact j4 h h' q q' aU (el (by simp[dep]))
  |non=>exact .list_none h aU
  |bl b=>exact .list_bool b h aU
  |int b t=>exact .list_int b t h aU
  |str b t=>exact .list_str b t h aU
 |non=>
  cases y with
  |non=>exact .none_none
  |bl c'=>exact .none_bool c'
  |int c' t'=>exact .none_int c' t'
  |str c' t'=>exact .none_str c' t'
  |tup h' q'=>exact .none_tuple h' aU
  |lst h' q'=>exact .none_list h' aU
  |fix h' q'=>exact .none_list h' aU
 |bl c=>
  cases y with
  |non=>exact .bool_none c
  |bl c'=>exact .bool_bool c c'
  |int c' t'=>exact .bool_int c c' t'
  |str c' t'=>exact .bool_str c c' t'
  |tup h' q'=>exact .bool_tuple c h' aU
  |lst h' q'=>exact .bool_list c h' aU
  |fix h' q'=>exact .bool_list c h' aU
 |int c t=>
  cases y with
  |non=>exact .int_none c t
  |bl c'=>exact .int_bool c t c'
  |int c' t'=>exact .int_int c t c' t'
  |str c' t'=>exact .int_str c t c' t'
  |tup h' q'=>exact .int_tuple c t h' aU
  |lst h' q'=>exact .int_list c t h' aU
  |fix h' q'=>exact .int_list c t h' aU
 |str c t=>
  cases y with
  |non=>exact .str_none c t
  |bl c'=>exact .str_bool c t c'
  |int c' t'=>exact .str_int c t c' t'
  |str c' t'=>exact .str_str c t c' t'
  |tup h' q'=>exact .str_tuple c t h' aU
  |lst h' q'=>exact .str_list c t h' aU
  |fix h' q'=>exact .str_list c t h' aU
theorem Yi(hK:z.K=X.K)(p1:jh d1=true)(p2:jh d2=true)(hd:X.A.units+dep d1<cLine):mj X z (compareOp .NotEq) d1 d2 (.dat (.bl (!cM d1 d2))):=by
 refine⟨R0 z d1 d2 (!cM d1 d2),?_,λg σ As M H v1 v2 Q s q1 q2 kk=>⟨⟨M,q1,q2⟩,kk _ H As M s (ao.refl _ _) (.bl _)⟩⟩
 intro ah s σ H x y v u Q I rx ry h;obtain⟨⟨M,q1,q2⟩,q⟩:=h;rw[hK]at q1 q2;exact Yh (q1.dv I rx p1) (q2.dv I ry p2) hd X.prog X.w X.xe _ ⟨.bl _,H,I,rfl,q⟩
theorem Fz(q:Dv h d u):∀d' x,Dv h d' u->cM d x=cM d' x:=by
 have two:∀{l l':List D} (x:D),(∀m,dN l m=dN l' m)->cM (.lst l) x=cM (.lst l') x/\cM (.fix l) x=cM (.lst l') x/\cM (.lst l) x=cM (.fix l') x/\cM (.fix l) x=cM (.fix l') x:=λx k=>by
  cases x with
  |lst m=>exact⟨k m,k m,k m,k m⟩
  |fix m=>exact⟨k m,k m,k m,k m⟩
  |_=>exact⟨rfl,rfl,rfl,rfl⟩
 refine Dv.rec (motive_1:=λd u _=>∀d' x,Dv h d' u->cM d x=cM d' x) (motive_2:=λl us _=>∀l' m,nq h l' us->dN l m=dN l' m) ?_ ?_ ?_ ?_ ?_ ?_ ?_ ?_ ?_ q
 . intro d' x q;cases q;rfl
 . intro b d' x q;cases q;rfl
 . intro i t d' x q;cases q;rfl
 . intro y t d' x q;cases q;rfl
 .
  intro l a us k _ ih d' x q;cases q with
  |tup y q'=>
   cases qU k y;cases x with
   |tup m=>exact ih _ m q'
   |_=>rfl
  |lst y _=>exact (dD k y).elim
  |fix y _=>exact (dD k y).elim
 .
  intro l a us k _ ih d' x q;cases q with
  |tup y _=>exact (dD y k).elim
  |lst y q'=>cases bS k y;exact (two x λm=>ih _ m q').1
  |fix y q'=>cases bS k y;exact (two x λm=>ih _ m q').2.2.1
 .
  intro l a us k _ ih d' x q;cases q with
  |tup y _=>exact (dD y k).elim
  |lst y q'=>cases bS k y;exact (two x λm=>ih _ m q').2.1
  |fix y q'=>cases bS k y;exact (two x λm=>ih _ m q').2.2.2
 . intro l' m q;cases q;rfl
 .
  intro d ds u us _ _ i1 i2 l' m q;cases q with
  |@cons d' l' _ _ b q'=>cases m with
   |nil=>rfl
   |cons y m=>show (cM d y&&dN ds m)=(cM d' y&&dN l' m);rw[i1 _ y b,i2 _ m q']
theorem K6(x:D)(q:Dv h d u)(q':Dv h d' u):cM d x=cM d' x:=Fz q d' x q'
open Classical in
def Br(h:Heap)(x:D)(u:Value):Bool:=decide (∃d,Dv h d u/\cM d x=true)
open Classical in
theorem FG(q:Dv h d u):Br h x u=cM d x:=by
 unfold Br;cases e:cM d x with
 |true=>exact oD ⟨d,q,e⟩
 |false=>refine mP ?_;rintro⟨d',q',e'⟩;rw[K6 x q' q,e]at e';cases e'
theorem sZ(q:nq h l us):us.any (Br h x)=l.any λd=>cM d x:=by
 induction l generalizing us with
 |nil=>cases q;rfl
 |cons d l ih=>cases q with |cons a b=>rw[List.any_cons,List.any_cons,FG a,ih b]
def rInD(z:Z)(d1 d2:D)(b:Bool):R2:=R0 z d1 d2 b
theorem xT{A:Around}{s:Shared}{x:D}{u:Value}{l:List D}{us:List Value}(q:nq s.heap l us)(hx:Dv s.heap x u)(hu:A.units+deps l+1<cLine):∀y,y∈us.toArray->SeqAt.EqAt A.in1 s y u (Br s.heap x y):=by
 intro y hy;have hy':y∈us:=by simpa using hy
 obtain⟨j,hj⟩:=List.getElem?_of_mem hy';obtain⟨d,e,qd⟩:=q.get hj;rw[FG qd];have:=oG e;exact (Fy (dep d) (eJ _) qd hx (by rw[in1_units];lia)).1
noncomputable def cG:D->Option (List D)
 |.lst l=>some l
 |.tup l=>some l
 |.fix l=>some l
 |_=>none
theorem FH(hK:z.K=X.K)(hs:cG d2=some l)(p1:jh d1=true)(p2:iU l=true)(hd:X.A.units+deps l+1<cLine):mj X z (compareOp .NotIn) d1 d2 (.dat (.bl (!l.any λd=>cM d d1))):=by
 refine⟨rInD z d1 d2 (!l.any λd=>cM d d1),?_,λg σ As M H v1 v2 Q s q1 q2 kk=>⟨⟨M,q1,q2⟩,kk _ H As M s (ao.refl _ _) (.bl _)⟩⟩
 intro ah s σ H x y v u Q I rx ry h;obtain⟨⟨M,q1,q2⟩,q⟩:=h;rw[hK]at q1 q2;have hx:=q1.dv I rx p1;cases d2 with
 |lst m=>
  cases hs;obtain⟨a,xs,rfl,ha,rr⟩:=q2.list;cases ry;obtain⟨its,rv,pl,hz⟩:=I.list (bN.of ha);have uW:=rr.dv I rv p2;refine SeqAt.notIn_listAt (Br s.heap d1) pl.isList (xT uW hx hd) ⟨.bl _,H,I,rfl,?_⟩;rw[show its.toArray.any (Br s.heap d1)=its.any (Br s.heap d1)by simp,sZ uW]
  exact q
 |fix m=>
  cases hs;obtain⟨a,xs,rfl,ha,rr⟩:=q2.fix;cases ry;obtain⟨its,rv,pl,hz⟩:=I.list ha.sq;have uW:=rr.dv I rv p2;refine SeqAt.notIn_listAt (Br s.heap d1) pl.isList (xT uW hx hd) ⟨.bl _,H,I,rfl,?_⟩;rw[show its.toArray.any (Br s.heap d1)=its.any (Br s.heap d1)by simp,sZ uW]
  exact q
 |tup m=>
  cases hs;obtain⟨a,xs,rfl,ha,rr⟩:=q2.tup;cases ry;obtain⟨its,rv,pl,hz⟩:=I.tuple ha.sq;have uW:=rr.dv I rv p2;refine SeqAt.notIn_tupleAt (Br s.heap d1) pl (xT uW hx hd) ⟨.bl _,H,I,rfl,?_⟩;rw[show its.toArray.any (Br s.heap d1)=its.any (Br s.heap d1)by simp,sZ uW]
  exact q
 |_=>cases hs
theorem R5(h:l.length+m.length<=16777216):mj X z (binaryOp .Add) (.lst l) (.lst m) (.new (l++m)):=by
 refine⟨_,Rm,λg σ As M H v1 v2 Q s q1 q2 kk=>?_⟩
 obtain⟨a,xs,rfl,ha,ra⟩:=q1.list;obtain⟨b,ys,rfl,hb,rb⟩:=q2.list;refine⟨a,b,xs,ys,rfl,rfl,ha,hb,by rw[<- ra.length,<- rb.length];exact g7 h,λp hp=>?_⟩
 exact kk _ _ As (p::M) (s.aR hp) (ao.aR hp) ⟨p,_,rfl,dL,λhA=>s.fresh hp (s.sub p hA),s.bR hp,aA,(ra.append rb).stay (ao.aR hp)⟩
theorem R8(h1 : -(2 ^ 63)<=k)(h2:k<2 ^ 63)(h:l.length * k.toNat<=16777216):mj X z (binaryOp .Mult) (.lst l) (.int k) (.new (List.replicate k.toNat l).flatten):=by
 refine⟨_,Ro,λg σ As M H v1 v2 Q s q1 q2 kk=>?_⟩
 obtain⟨a,xs,rfl,ha,ra⟩:=q1.list;have rr:∀n,aG z.K M H (List.replicate n l).flatten (List.replicate n xs).flatten:=λn=>by
  induction n with
  |zero=>simp;exact .nil
  |succ n ih=>rw[o6,o6,AA,AA];exact ra.append ih
 refine⟨a,k,xs,rfl,q2.int,ha,h1,h2,by rw[<- ra.length];exact g7 h,λp hp=>?_⟩
 exact kk _ _ As (p::M) (s.aR hp) (ao.aR hp) ⟨p,_,rfl,dL,λhA=>s.fresh hp (s.sub p hA),s.bR hp,aA,(rr _).stay (ao.aR hp)⟩
def R9(K:Frag):R2:=λx y H Q=>∃a b xs ys,x=.ref a/\y=.ref b/\fC K H a xs/\fC K H b ys/\xs.length+ys.length<=sizeLine/\
 (xs=[]->Q (.ref b) H)/\(xs≠[]->ys=[]->Q (.ref a) H)/\(xs≠[]->ys≠[]->∀p,H p=none->Q (.ref p) (upd H p (.tup (xs++ys))))
theorem FJ:kX X (binaryOp .Add) (R9 X.K):=by
 intro ah s σ H x y v u Q I rx ry h;obtain⟨a,b,xs,ys,rfl,rfl,ha,hb,hz,q0,q1,q2⟩:=h;by_cases hx:xs=[]
 .
  subst hx;cases rx;cases ry;obtain⟨its,r1,p1,_⟩:=I.tuple ha;obtain⟨iI,r2,p2,_⟩:=I.tuple hb;cases r1;obtain⟨⟨cls,dd,data,sl⟩,ho,hc,n,hd⟩:=id p1;obtain⟨⟨XF,dd2,data2,sl2⟩,ho2,hc2,n2,hd2⟩:=id p2;simp only at hc hd hc2 hd2;subst hc hd hc2 hd2;exact concat_meets ⟨_,ho,rfl⟩ ⟨_,ho2,rfl⟩ noFill_tuple_add seq_tuple_add BI A8 (AZ _ _)
   (tuple_addW0 a b #[] iI.toArray n n2 dd dd2 sl sl2 ⋯) ⟨ho,ho2,⟨.ref b,H,I,rfl,q0 rfl⟩⟩
 . exact Ku ah s σ H (.ref a) (.ref b) v u Q I rx ry ⟨a,b,xs,ys,rfl,rfl,ha,hb,hx,hz,q1 hx,q2 hx⟩
theorem K7(hK:z.K=X.K)(h:l.length+m.length<=16777216):mj X z (binaryOp .Add) (.tup l) (.tup m) (.dat (.tup (l++m))):=by
 refine⟨_,FJ,λg σ As M H v1 v2 Q s q1 q2 kk=>?_⟩
 obtain⟨a,xs,rfl,ha,ra⟩:=q1.tup;obtain⟨b,ys,rfl,hb,rb⟩:=q2.tup;have la:=ra.length;have lb:=rb.length;refine⟨a,b,xs,ys,rfl,rfl,hK▸ha.sq,hK▸hb.sq,by rw[<- la,<- lb];exact g7 h,λe=>?_,λe1 e2=>?_,λe1 e2 p hp=>?_⟩
 .
  subst e;cases l with
  |nil=>exact kk _ H As M s (ao.refl _ _) (.tup hb rb)
  |cons _ _=>simp at la
 .
  subst e2;cases m with
  |nil=>rw[nN]at kk;exact kk _ H As M s (ao.refl _ _) (.tup ha ra)
  |cons _ _=>simp at lb
 . exact kk _ _ As M (s.laid hp) (ao.laid hp) (.tup (.inl ⟨s.fresh hp,.inl aA⟩) ((ra.append rb).stay (ao.laid hp)))
theorem oJ{K:Frag}{M:List Addr}{H:Hp}{l:List D}{xs:List V}{i:Int}{d:D}(r:aG K M H l xs)(h:iK l i=some d):∃v,iK xs i=some v/\Rep K M H d v:=by
 unfold iK at h ⊢
 rw[<- r.length];cases e:xO l.length i with
 |none=>rw[e]at h;cases h
 |some j=>rw[e]at h;have h':l[j]?=some d:=h;obtain⟨v,h1,h2⟩:=r.get h';exact⟨v,h1,h2⟩
theorem Se{l:List D}{i:Int}{d:D}(hK:z.K=X.K)(h:iK l i=some d):Wi X z (.lst l) (.int i) (.dat d):=by
 refine⟨_,zm,λg σ As M H v1 v2 Q s q1 q2 kk=>?_⟩
 obtain⟨a,xs,rfl,ha,ra⟩:=q1.list;obtain⟨v,e,r⟩:=oJ ra h;exact⟨a,xs,i,v,rfl,q2.int,bN.of ha,e,kk _ H As M s (ao.refl _ _) r⟩
theorem Sf{l:List D}{i:Int}{d:D}(hK:z.K=X.K)(h:iK l i=some d):Wi X z (.fix l) (.int i) (.dat d):=by
 refine⟨_,zm,λg σ As M H v1 v2 Q s q1 q2 kk=>?_⟩
 obtain⟨a,xs,rfl,ha,ra⟩:=q1.fix;obtain⟨v,e,r⟩:=oJ ra h;exact⟨a,xs,i,v,rfl,q2.int,hK▸ha.sq,e,kk _ H As M s (ao.refl _ _) r⟩
theorem K8{l:List D}{i:Int}{d:D}(hK:z.K=X.K)(h:iK l i=some d):Wi X z (.tup l) (.int i) (.dat d):=by
 refine⟨_,Ri,λg σ As M H v1 v2 Q s q1 q2 kk=>?_⟩
 obtain⟨a,xs,rfl,ha,ra⟩:=q1.tup;obtain⟨v,e,r⟩:=oJ ra h;exact⟨a,xs,i,v,rfl,q2.int,hK▸ha.sq,e,kk _ H As M s (ao.refl _ _) r⟩
noncomputable def aW:List D->Option (List Int)
 | []=>some []
 |.int i::l=>match aW l with |some ns=>some (i::ns) |none=>none
 |_::_=>none
theorem aV{K:Frag}{M:List Addr}{H:Hp}{l:List D}{xs:List V}{ns:List Int}(q:aG K M H l xs)(e:aW l=some ns):xs=ns.map V.int:=by
 induction l generalizing xs ns with
 |nil=>cases q;cases e;rfl
 |cons d l ih=>cases q with |cons r q=>cases d with
  |int i=>
   have e:(match aW l with |some ns=>some (i::ns) |none=>none)=some ns:=e
   cases e2:aW l with
   |none=>rw[e2]at e;cases e
   |some ns=>rw[e2]at e;cases e;cases r;rw[List.map_cons,ih q e2]
  |_=>cases e
theorem Sh:UnD X z (unaryOp .USub) (.int i) (.dat (.int (-i))):=⟨_,Er,λg σ As M H v Q s p k=>⟨i,p.int,k _ H As M s (ao.refl _ _) (.int _)⟩⟩
end
section
theorem K4.one{K:Frag}{M:List Addr}{H:Hp}{d:D}{vs:List V}(h:K4 K M H [d] vs):∃v,vs=[v]/\Pk K M H d v:=by cases h with |cons p q=>cases q;exact⟨_,rfl,p⟩
theorem K4.two{K:Frag}{M:List Addr}{H:Hp}{d e:D}{vs:List V}(h:K4 K M H [d,e] vs):∃v w,vs=[v,w]/\Pk K M H d v/\Pk K M H e w:=by cases h with |cons p q=>cases q with |cons p' q'=>cases q';exact⟨_,_,rfl,p,p'⟩
noncomputable def Yj:D->Option Nat
 |.lst l=>some l.length
 |.tup l=>some l.length
 |.fix l=>some l.length
 |_=>none
theorem Si{d:D}{n:Nat}(hK:z.K=X.K)(h:Yj d=some n):CallD X z (.builtin "len") [d] (.dat (.int n)):=by
 refine⟨_,Et,λg σ As M H vs Q s p k=>?_⟩
 obtain⟨v,rfl,pv⟩:=p.one;refine⟨v,n,rfl,?_,k _ H As M s (ao.refl _ _) (.int _)⟩;cases d with
 |lst l=>cases h;obtain⟨a,xs,rfl,ha,r⟩:=pv.list;exact .inl ⟨xs,bN.of ha,r.length⟩
 |fix l=>cases h;obtain⟨a,xs,rfl,ha,r⟩:=pv.fix;exact .inl ⟨xs,hK▸ha.sq,r.length⟩
 |tup l=>cases h;obtain⟨a,xs,rfl,ha,r⟩:=pv.tup;exact .inr ⟨xs,hK▸ha.sq,r.length⟩
 |_=>cases h
theorem K9{d:D}{l:List D}(hK:z.K=X.K)(h:cG d=some l):CallD X z (.type "list") [d] (.new l):=by
 refine⟨_,sO,λg σ As M H vs Q s p k=>?_⟩
 obtain⟨v,rfl,pv⟩:=p.one;have fin:∀xs,aG z.K M H l xs->∀p,H p=none->Q (.ref p) (upd H p (.lst xs)):=λxs r p hp=>
  k _ _ As (p::M) (s.aR hp) (ao.aR hp) ⟨p,xs,rfl,dL,λhA=>s.fresh hp (s.sub p hA),s.bR hp,aA,r.stay (ao.aR hp)⟩
 cases d with
 |lst m=>cases h;obtain⟨a,xs,rfl,ha,r⟩:=pv.list;exact⟨a,xs,rfl,.inl (bN.of ha),fin xs r⟩
 |fix m=>cases h;obtain⟨a,xs,rfl,ha,r⟩:=pv.fix;exact⟨a,xs,rfl,.inl (hK▸ha.sq),fin xs r⟩
 |tup m=>cases h;obtain⟨a,xs,rfl,ha,r⟩:=pv.tup;exact⟨a,xs,rfl,.inr (hK▸ha.sq),fin xs r⟩
 |_=>cases h
theorem FN{d:D}{l:List D}(hK:z.K=X.K)(h:cG d=some l):CallD X z (.type "tuple") [d] (.dat (.tup l)):=by
 refine⟨_,qq,λg σ As M H vs Q s p k=>?_⟩
 obtain⟨v,rfl,pv⟩:=p.one;have fin:∀xs,aG z.K M H l xs->∀p,H p=none->Q (.ref p) (upd H p (.tup xs)):=λxs r p hp=>
  k _ _ As M (s.laid hp) (ao.laid hp) (.tup (.inl ⟨s.fresh hp,.inl aA⟩) (r.stay (ao.laid hp)))
 cases d with
 |lst m=>cases h;obtain⟨a,xs,rfl,ha,r⟩:=pv.list;exact⟨a,xs,rfl,.inl ⟨bN.of ha,fin xs r⟩⟩
 |fix m=>cases h;obtain⟨a,xs,rfl,ha,r⟩:=pv.fix;exact⟨a,xs,rfl,.inl ⟨hK▸ha.sq,fin xs r⟩⟩
 |tup m=>cases h;obtain⟨a,xs,rfl,ha,r⟩:=pv.tup;exact⟨a,xs,rfl,.inr ⟨hK▸ha.sq,k _ H As M s (ao.refl _ _) (.tup ha r)⟩⟩
 |_=>cases h
theorem Sj{i j:Int}(hc:X.calm=true):CallD X z (.builtin "max") [.int i,.int j] (.dat (.int (if j > i then j else i))):=by
 refine⟨_,Bc hc,λg σ As M H vs Q s p k=>?_⟩
 obtain⟨v,w,rfl,p1,p2⟩:=p.two;exact⟨i,j,by rw[p1.int,p2.int],k _ H As M s (ao.refl _ _) (.int _)⟩
theorem Sl{i j:Int}(hc:X.calm=true):CallD X z (.builtin "min") [.int i,.int j] (.dat (.int (if j<i then j else i))):=by
 refine⟨_,Bd hc,λg σ As M H vs Q s p k=>?_⟩
 obtain⟨v,w,rfl,p1,p2⟩:=p.two;exact⟨i,j,by rw[p1.int,p2.int],k _ H As M s (ao.refl _ _) (.int _)⟩
end
section
theorem oK(hc:X.calm=true):dB X (.builtin "all") (λxs H Q=>∃(p:Addr) (bs:List Bool),xs=[.ref p]/\bN X.K H p (bs.map V.bl)/\Q (.bl (bs.all id)) H):=by
 intro ah s σ H xs us Q I r h;obtain⟨p,bs,rfl,hp,q⟩:=h;obtain⟨u,rfl,rx⟩:=vals1 r;cases rx;obtain⟨its,rv,pl,hz⟩:=I.list hp;have hlt:p<s⁻¹:=by obtain⟨_,e,_⟩:=pl.isList;exact eM e
 have aL:its.length=bs.length:=by rw[<- rv.length,d6]
 have up:∀b o,s.heap.get? b=some o->(s.heap.push { cls:=.type "list_iterator",data:=.fields #[.ref p,.int 0 0]}).get? b=some o:=λb o e=>bP _ e
 refine call_all_walk (At pl.isList ?_);refine⟨s⁻¹,_,_,_,_,_,λi=>bs.getD i true,rfl,Walks.list (A:=X.A.in1) (show X.A.in1.handled=none from I.ok.hd hc) s⁻¹ p (hU hlt) its.toArray,⟨⟨_,eA _ rfl,rfl,rfl⟩,pl.isList.push _⟩,?_,λh' tk hk=>?_⟩
 .
  intro i v s' Q' E' hv hq;have hv':its[i]?=some v:=by simpa using hv
  have hi:i<bs.length:=by rw[<- aL];exact (dC.mp hv').1
  obtain⟨w,e1,e2⟩:=rv.get (i:=i) (x:=V.bl bs[i]) (by simp[hi])
  rw[hv']at e1;cases e1;cases e2;refine mI ?_;have:bs.getD i true=bs[i]:=by simp[List.getD,hi]
  rw[<- this];exact hq
 .
  have I1:L2.Inv X ah σ H { s with heap:=h',toks:=tk}:=I.kept λb o e=>hk b o (λhm=>by
   have:b=s⁻¹:=by simpa using hm
   exact absurd (eM e) (by rw[this];exact l9 _)) (up b o e)
  refine⟨.bl (bs.all id),H,I1,?_,q⟩;have e:(List.range its.toArray.size).all (λi=>bs.getD i true)=bs.all id:=by
   rw[dE,aL];rw[Bool.eq_iff_iff];simp only[eP,An,id];constructor
   . intro h b hb;obtain⟨j,hj⟩:=List.getElem?_of_mem hb;have hj':=(dC.mp hj).1;have:=h j hj';simpa [List.getD,hj]using this
   . intro h i hi;have:=h bs[i] (List.getElem_mem hi);simpa [List.getD,hi]using this
  rw[e];rfl
noncomputable def vf:List D->Option (List Bool)
 | []=>some []
 |.bl b::l=>match vf l with |some bs=>some (b::bs) |none=>none
 |_::_=>none
theorem FP{K:Frag}{M:List Addr}{H:Hp}{l:List D}{xs:List V}{ns:List Bool}(q:aG K M H l xs)(e:vf l=some ns):xs=ns.map V.bl:=by
 induction l generalizing xs ns with
 |nil=>cases q;cases e;rfl
 |cons d l ih=>cases q with |cons r q=>cases d with
  |bl i=>
   have e:(match vf l with |some ns=>some (i::ns) |none=>none)=some ns:=e
   cases e2:vf l with
   |none=>rw[e2]at e;cases e
   |some ns=>rw[e2]at e;cases e;cases r;rw[List.map_cons,ih q e2]
  |_=>cases e
theorem Sq{l:List D}{bs:List Bool}(hc:X.calm=true)(h:vf l=some bs):CallD X z (.builtin "all") [.lst l] (.dat (.bl (bs.all id))):=by
 refine⟨_,oK hc,λg σ As M H vs Q s p k=>?_⟩
 obtain⟨v,rfl,pv⟩:=p.one;obtain⟨a,xs,rfl,ha,r⟩:=pv.list;have e:=FP r h;subst e;exact⟨a,bs,rfl,bN.of ha,k _ H As M s (ao.refl _ _) (.bl _)⟩
end
noncomputable def uJ:D->String
 |.non=> "NoneType" |.bl _=> "bool" |.int _=> "int" |.str _=> "str" |.tup _=> "tuple" |.lst _=> "list" |.fix _=> "list" |.emp=> "dict" |.lg _=> "" |.sV ..=> "dict"
def DR:D->Value
 |.lg C=>.ref C
 |d=>.type (uJ d)
theorem Bs{M:Model}{A:Around}{E:Value->Shared->Prop}{K:Frag}{x C:Addr}{ox:Obj}{nv:Value}{Q:Unit->Shared->Prop}{s:Shared}(X:K.In s.heap)(I:PySem.W.InstAt s.heap x ox C none)(hb:PySem.W.mroIn K C (.type "BaseException")=some true)(hq:Q () s) :
  wpAny M A (checkBuiltinCall "BaseException.__getattribute__" ⟨[.ref x,nv],[]⟩) Q E s:=by
 have kd:builtinKind "BaseException.__getattribute__"=some .slot:=by decide +kernel
 have sd:splitId "BaseException.__getattribute__"=some ("BaseException", "__getattribute__"):=by decide +kernel
 have ha:=F.args_bexc_ga (.ref x) nv;obtain⟨hv,ge,dr,tk,o'⟩:=s;have l0:=I.type (M:=M);have l1:=PySem.W.looks_mroIn (M:=M) X hb;simp only[checkBuiltinCall,kd,sd];unfold isInstance;refine aS (aS (l0.at (l1.at ?_)))
 repeat (any_goals (first |assumption |wp_step))
theorem FQ{prog:Program}{w:World}{A:Around}{E:Value->Shared->Prop}{K:Frag}{x C:Addr}{ox:Obj}{name:Str}{g a:Value}{Q:Option Value->Shared->Prop}{s:Shared}(X:K.In s.heap)(I:PySem.W.InstAt s.heap x ox C none)
  (hga:PySem.W.findIn K (.ref C) "__getattribute__"=some (some (.builtin "BaseException.__getattribute__"))) (hk:PySem.W.findIn K (.ref C) "__getattr__"=some none) (hb:PySem.W.mroIn K C (.type "BaseException")=some true) (hf:PySem.W.findObj K C none name=some (.bind g a))
  (h:wpAny (model prog w) A.in1 (call g [a,.ref x,.ref C]) (λv s'=>wpAny (model prog w) A (handedOut v) (λv s''=>Q (some v) s'') (λ_ _=>False) s') (λ_ _=>False) { s with toks:=s.toks+1}) :
  wpAny (model prog w) A (getAttr? (.ref x) name) Q E s:=by
 obtain⟨hv,ge,dr,tk,o'⟩:=s;have l0:=I.type (M:=model prog w);have l1:=PySem.W.looks_findIn (M:=model prog w) X hga;have l2:=PySem.W.looks_findIn (M:=model prog w) X hk;have l3:=PySem.W.looks_find (M:=model prog w) X I hf;have f3:=F.excAttr_ValueError.ga.bind (.ref x);unfold getAttr? getAttrBy? getAttrBy;refine aS (wpAny_mkText (aS (wpAny_attempt (lS (aS (l0.at (aS (l1.at ?_))))))));show wpAny _ _ (getAttrByItsOwn _ _ _ _ _ _) _ _ _;unfold getAttrByItsOwn;refine aS (l2.at (aS (wpAny_attempt (lS ?_))));show wpAny _ _ (boundAndCalled _ _ _) _ _ _;unfold boundAndCalled;rw[f3];refine aS (d0 (CU (codeAny_call_builtin F.excAttr_ValueError.ga.plain F.entry_bexc_ga (Bs X I hb ?_))));refine aS (d0 (aS (d0 (aS (l0.at (aS (l3.at ?_)))))));show wpAny _ _ (Builtin.ObjectAttr.bindTo _ _ _ _) _ _ _;show wpAny _ _ (holding [a] (call g [a,.ref x,.ref C]) >>= ret) _ _ _;refine aS (lS (i9 h (λv s' z=>d0 ?_) λ_ _ z=>z.elim))
 exact i9 z (λv s'' hv=>d0 hv) (λ_ _ z=>z.elim)
theorem lu{K:Frag}{C:Addr}(k:Fp K C):∃c d cd sl,K.lookup C=some ⟨c,d,.cls cd,sl⟩/\PySem.W.clsIn K C=some cd:=by
 obtain⟨cd,hc,_⟩:=PySem.W.any_some k.dct;have hc':=hc;unfold PySem.W.clsIn at hc;split at hc
 . rename_i c d cd' sl ho;cases hc;exact⟨c,d,cd,sl,ho,hc'⟩
 . cases hc
theorem vg{K:Frag}{x C:Addr}(k:Fp K C):PySem.W.KitX K (.ref x) (.ref C) (λh=>∃ox,PySem.W.InstAt h x ox C none) where
 ty:=λ_ _ _ ⟨_,I⟩=>I.type
 it:=λ_ _ X _=>by
  obtain⟨c,d,cd,sl,ho,_⟩:=lu k;intro A' Q' E' s' kp q;unfold isType loadHead;refine aS ?_;refine wpAny_loadPart (kp _ _ (X _ _ ho)) ?_;exact d0 q
 ne:=λh tp dd its n sl X htp=>by
  obtain⟨c,d,cd,sl',ho,_⟩:=lu k;cases q:(Value.ref C==Value.ref tp)with
  |false=>rfl
  |true=>have e:C=tp:=Value.ref.inj (beq_iff_eq.mp q);subst e;have y:=(X _ _ ho).symm.trans htp;cases y
 ca:=λ{prog w A E Q s} X ⟨ox,I⟩ h=>by
  obtain⟨_,_,cd,_,_,hc⟩:=lu k;have hf:PySem.W.findObj K C none "__class__"=some (.bind (.builtin "getset_descriptor.__get__") (.builtin "object.__class__")):=by unfold PySem.W.findObj;rw[hc,Option.bind_some,k.cls,Option.bind_some];simp[k.spc,k.tks]
  refine FQ X I k.gga k.gat k.bas hf (CU ?_);exact PySem.W.class_get (s:={ s with toks:=s.toks+1}) (ox:=ox) (od:=none) X I k.mro (PySem.W.handed_on rfl h)
section
theorem FT(I:L2.Inv X ah σ H s)(p:Pk X.K M H d v)(r:RelV v u)
  (e:PySem.W.kitOne X.K (DR d) c=some b) (h:∀tk,Q (.bool b) { s with toks:=tk}):wpAny (model X.prog X.w) A (call (.builtin "isinstance") [u,c]) Q E s:=by
 cases d with
 |non=>have q:=p.non;subst q;cases r;exact tS PySem.W.kitx_none I.mR True.intro e (λz=>nomatch z) h
 |bl y=>have q:=p.bl;subst q;cases r;exact tS PySem.W.kitx_bool I.mR True.intro e (λz=>nomatch z) h
 |int i=>have q:=p.int;subst q;obtain⟨t,rfl⟩:=r;exact tS PySem.W.kitx_int I.mR True.intro e (λz=>nomatch z) h
 |str y=>have q:=p.str;subst q;obtain⟨t,rfl⟩:=r;exact tS PySem.W.kitx_str I.mR True.intro e (λz=>nomatch z) h
 |tup l=>obtain⟨a,xs,rfl,ha,_⟩:=p.tup;cases r;obtain⟨its,_,⟨o,h1,h2,_⟩,_⟩:=I.tuple ha.sq;exact tS PySem.W.kitx_tuple I.mR ⟨o,h1,h2⟩ e (λz=>nomatch z) h
 |lst l=>obtain⟨a,xs,rfl,ha,_⟩:=p.list;cases r;obtain⟨its,_,pl,_⟩:=I.list (bN.of ha);obtain⟨o,h1,h2,_⟩:=pl.isList;exact tS BQ I.mR ⟨o,h1,h2⟩ e (λz=>nomatch z) h
 |fix l=>obtain⟨a,xs,rfl,ha,_⟩:=p.fix;cases r;obtain⟨its,_,pl,_⟩:=I.list ha.sq;obtain⟨o,h1,h2,_⟩:=pl.isList;exact tS BQ I.mR ⟨o,h1,h2⟩ e (λz=>nomatch z) h
 |emp=>
  cases p with
  |of q=>
   cases q with
   |emp _ ha=>cases r;obtain⟨_,_,vs,_,o,es,ep,h1,h2,_⟩:=I.hok _ _ ha;exact tS BS I.mR ⟨o,h1,h2.1⟩ e (λz=>nomatch z) h
 |lg C=>
  cases p with
  |of q=>
   cases q with
   |lg k _ ha=>cases r;obtain⟨⟨o,h1,h2,h3,h4⟩,_⟩:=I.hok _ _ ha;exact tS (vg k) I.mR ⟨o,h1,h2,h3,by rw[h4];trivial⟩ e (λz=>nomatch z) h
 |sV ks ds=>
  cases p with
  |of q=>
   cases q with
   |sV _ ha _ _=>cases r;obtain⟨_,_,vs,_,o,es,ep,h1,h2,_⟩:=I.hok _ _ ha;exact tS BS I.mR ⟨o,h1,h2.1⟩ e (λz=>nomatch z) h
theorem FW:dB X (.builtin "isinstance") (λxs H Q=>∃x n M d b,xs=[x,.ty n]/\Pk X.K M H d x/\PySem.W.kitOne X.K (DR d) (.type n)=some b/\Q (.bl b) H):=by intro ah s σ H xs us Q I r h;obtain⟨x,n,M,d,b,rfl,p,e,q⟩:=h;obtain⟨u,w',rfl,r1,r2⟩:=vals2 r;cases r2;exact FT I p r1 e λtk=>⟨.bl b,H,I.tok tk,rfl,q⟩
theorem Ss(hK:z.K=X.K)(h:au X z a g r1 g1)(hp:pk r1 g1=some d)(he:∀M H v,Pk X.K M H d v->PySem.W.kitOne X.K (DR d) (.type n)=some b)
  (hg:Gl X "isinstance") (hm:X.mg "isinstance"=none) (hv:bootBuiltins "isinstance"=some (.builtin "isinstance")) (gT:Gl X T) (mT:X.mg T=none) (vT:bootBuiltins T=some (.type n)) (nT:T≠ "__name__") (dT:(T==("__debug__":Str))=false)
  (hs:starEach [a,.Name T pT] X.env=(false,eval a X.env)::starEach [.Name T pT] X.env):au X z (.Call (.Name "isinstance" p) [a,.Name T pT] [] pos) g (.dat (.bl b)) g1:=by
 obtain⟨t,q,k⟩:=h;have pT':PE X (.Name T pT) (tC (.ty n)):=sE gT mT vT rfl nT dT;refine⟨_,gZ FW hg hm hv (bF q (bF pT' gj) hs) ⋯ ⋯ hs,λσ As M H Q s kk=>k σ As M H _ s λv H' az M' s' st R=>?_⟩
 have p:=hK▸s'.pk (ao.refl _ _) R hp;exact⟨v,n,M',d,b,rfl,p,he _ _ _ p,kk _ H' az M' s' st (.bl b)⟩
end
inductive Fl where
 |nx |rt (r:R) |bk |ct
def mq(z:Z)(M:List Addr)(H:Hp)(E:Ends)(g':G):Fl->Prop
 |.nx=>∀σ' az M' H',S z g' σ' az M' H'->ao M H M' H'->E.nx σ' H'
 |.bk=>∀σ' az M' H',S z g' σ' az M' H'->ao M H M' H'->E.bk σ' H'
 |.ct=>∀σ' az M' H',S z g' σ' az M' H'->ao M H M' H'->E.ct σ' H'
 |.rt r=>∀v σ' az M' H',S z g' σ' az M' H'->ao M H M' H'->cN z g' σ' az M' H' r v->E.rt v H'
def fy(X:Cx)(z:Z)(st:Stmt)(g:G)(f:Fl)(g':G):Prop:=
 ∃t,PS X st t/\∀σ As M H E,S z g σ As M H->mq z M H E g' f->t E σ H
def cH(X:Cx)(z:Z)(jq:List Stmt)(g:G)(f:Fl)(g':G):Prop:=
 ∃t,sD X jq t/\∀σ As M H E,S z g σ As M H->mq z M H E g' f->t E σ H
section
variable{st:Stmt}
theorem mq.trans(st:ao M H M1 H1)(h:mq z M H E g' f):mq z M1 H1 E g' f:=by
 cases f with
 |nx=>exact λσ' az M' H' s' st'=>h σ' az M' H' s' (st.trans st')
 |bk=>exact λσ' az M' H' s' st'=>h σ' az M' H' s' (st.trans st')
 |ct=>exact λσ' az M' H' s' st'=>h σ' az M' H' s' (st.trans st')
 |rt r=>exact λv σ' az M' H' s' st' R=>h v σ' az M' H' s' (st.trans st') R
theorem FZ:cH X z [] g .nx g:=⟨_,J8,λσ As M H E s k=>k σ As M H s (ao.refl _ _)⟩
theorem La(h1:fy X z st g .nx g1)(h2:cH X z jq g1 f g2):cH X z (st::jq) g f g2:=by obtain⟨t1,q1,k1⟩:=h1;obtain⟨t2,q2,k2⟩:=h2;exact⟨_,dY q1 q2,λσ As M H E s k=>k1 σ As M H _ s λσ' az M' H' s' st'=>k2 σ' az M' H' E s' (k.trans st')⟩
theorem Sv(h1:fy X z st g (.rt r) g1):cH X z (st::jq) g (.rt r) g1:=by obtain⟨t1,q1,k1⟩:=h1;exact⟨_,dY q1 bz,λσ As M H E s k=>k1 σ As M H _ s k⟩
theorem Sw(h1:fy X z st g .bk g1):cH X z (st::jq) g .bk g1:=by obtain⟨t1,q1,k1⟩:=h1;exact⟨_,dY q1 bz,λσ As M H E s k=>k1 σ As M H _ s k⟩
theorem Sx(h1:fy X z st g .ct g1):cH X z (st::jq) g .ct g1:=by obtain⟨t1,q1,k1⟩:=h1;exact⟨_,dY q1 bz,λσ As M H E s k=>k1 σ As M H _ s k⟩
theorem Sy(h:au X z e g r g1):fy X z (.Return (some e) pos) g (.rt r) g1:=by obtain⟨t,q,k⟩:=h;exact⟨_,xD q,λσ As M H E s kk=>k σ As M H _ s λv H' az M' s' st R=>kk v σ az M' H' s' st R⟩
theorem Lb(h:au X z e g r g1)(hs:swapsWith e none pos.line X.env=pure false):fy X z (.Expr e pos) g .nx g1:=by obtain⟨t,q,k⟩:=h;exact⟨_,sF q hs,λσ As M H E s kk=>k σ As M H _ s λv H' az M' s' st R=>kk σ az M' H' s' st⟩
theorem PK(h:cC X z c g v g1)(h2:cH X z (if v then a else b) g1 f g2):fy X z (.If c a b pos) g f g2:=by
 obtain⟨t,q,k⟩:=h;obtain⟨t2,q2,k2⟩:=h2;cases v with
 |true=>exact⟨_,nW q q2 bz,λσ As M H E s kk=>k σ As M H _ s λH' az M' s' st=>jt (k2 σ az M' H' E s' (kk.trans st))⟩
 |false=>exact⟨_,nW q bz q2,λσ As M H E s kk=>k σ As M H _ s λH' az M' s' st=>mU (k2 σ az M' H' E s' (kk.trans st))⟩
theorem Lc(hN:X.N.Nodup)(hi:X.N[i]?=some x)(hx:Loc X.env.scope x)(h:au X z e g (.dat d) g1)(hs:swapsWith e (some (.Name x pos')) pos.line X.env=pure false)(hf:X.fn x=true\/X.env.scope.names.lookup x=some .local)(hb:i∉z.bor) :
  fy X z (.Assign [.Name x pos'] e pos) g .nx (g1.set i (.dat d)):=by
 obtain⟨t,q,k⟩:=h;refine⟨_,nX hN hi hx q hs hf,λσ As M H E s kk=>k σ As M H _ s λv H' az M' s' st R=>?_⟩
 obtain⟨bf,s2⟩:=s'.g6 (i:=i) hb R;exact kk _ bf M' H' s2 st
theorem Ld(hN:X.N.Nodup)(hi:X.N[i]?=some x)(hx:Loc X.env.scope x)(h:au X z e g (.new l) g1)(hl:i<g1.length)(hs:swapsWith e (some (.Name x pos')) pos.line X.env=pure false)(hf:X.fn x=true\/X.env.scope.names.lookup x=some .local)(hb:i∉z.bor) :
  fy X z (.Assign [.Name x pos'] e pos) g .nx (g1.set i (.own l)):=by
 obtain⟨t,q,k⟩:=h;refine⟨_,nX hN hi hx q hs hf,λσ As M H E s kk=>k σ As M H _ s λv H' az M' s' st R=>?_⟩
 obtain⟨a,xs,rfl,hm,hA,h0,ha,rr⟩:=R;obtain⟨bf,s2⟩:=s'.oA hb hl hm hA h0 ha rr;exact kk _ bf M' H' s2 st
end
def tAny(X:Cx)(jq:List Stmt):TS:=λE σ H=>∃t,sD X jq t/\t E σ H
theorem nB{X:Cx}{jq:List Stmt}:sD X jq (tAny X jq):=λah s σ H E I h=>let ⟨t,q,k⟩:=h;q ah s σ H E I k
section
theorem drop_cons{α:Type}{l:List α}{n:Nat}{a:α}(h:l[n]?=some a):l.drop n=a::l.drop (n+1):=by obtain⟨h1,h2⟩:=dC.mp h;rw[List.drop_eq_getElem_cons h1,h2]
end
noncomputable def gK(lo:Int)(n:Nat):List D:=(List.range n).map λ(k:Nat)=>D.int (lo+(k:Int))
section
theorem Ga{lo:Int}{n k:Nat}(h:k<n):(gK lo n)[k]?=some (.int (lo+(k:Int))):=by unfold gK;rw[sR,List.getElem?_range h];rfl
theorem vh{lo:Int}{n:Nat}:(gK lo n).length=n:=by unfold gK;simp
theorem Bt(h:cO X z [a] g [.dat (.int j)] g1)(hg:Gl X "range")(hm:X.mg "range"=none)(hs:starEach [a] X.env=[(false,eval a X.env)])(h1 : -(2 ^ 62)<=j)(h2:j<2 ^ 62) :
  ∃wi,PI X tg (.Call (.Name "range" p) [a] [] rp) wi/\∀σ As M H (Q:It->Hp->Prop),S z g σ As M H->(∀H' az M',S z g1 σ az M' H'->ao M H M' H'->Q (QX 0 j.toNat) H')->wi σ H Q:=by
 obtain⟨t,q,k⟩:=h;refine⟨_,Az hg hm q hs,λσ As M H Q s kk=>k σ As M H _ s λvs H' az M' s' st R=>?_⟩
 cases R with
 |dat r R=>cases R;cases r;exact⟨j,rfl,h1,h2,kk H' az M' s' st⟩
theorem Bu(h:cO X z [a,b] g [.dat (.int c),.dat (.int j)] g1)(hg:Gl X "range")(hm:X.mg "range"=none)(hs:starEach [a,b] X.env=[(false,eval a X.env),(false,eval b X.env)])(hs2:starEach [b] X.env=[(false,eval b X.env)])
  (h1 : -(2 ^ 62)<=c/\c<2 ^ 62/\-(2 ^ 62)<=j/\j<2 ^ 62) {tg:Expr} :
  ∃wi,PI X tg (.Call (.Name "range" p) [a,b] [] rp) wi/\∀σ As M H (Q:It->Hp->Prop),S z g σ As M H->(∀H' az M',S z g1 σ az M' H'->ao M H M' H'->Q (QX c (j - c).toNat) H')->wi σ H Q:=by
 obtain⟨t,q,k⟩:=h;refine⟨_,Ba hg hm q hs hs2,λσ As M H Q s kk=>k σ As M H _ s λvs H' az M' s' st R=>?_⟩
 cases R with
 |dat r R=>cases R with |dat r2 R=>cases R;cases r;cases r2;exact⟨c,j,rfl,h1,kk H' az M' s' st⟩
end
section
theorem Bv(hN:X.N[i]?=some x)(hv:qk X.env.scope x)(hd:(x==("__debug__":Str))=false)(bH:(x==("__classdict__":Str))=false)(hg:g[i]?=some (.own l0))(h:cO X z [e] g [.dat d] g1)(JK:g1[i]?=some (.own l))(hl:l.length<16777216)
  (hbase:attributeBase (.Name x pn) "append" X.env (eval (.Name x pn) X.env)=eval (.Name x pn) X.env)
  (hfew:((backTo bh (starEach [e] X.env)).all (λx=>!x.1)&&(backToKw bh (keywordEach [] X.env)).all (λx=>x.1.isSome)
   && decide ([e].length+([]:List Keyword).length+(if ([]:List Keyword).isEmpty then 0 else 1)<30))=true)
  (hline:(bX.endLine==bh.line)=true) (hs:starEach [e] X.env=(false,eval e X.env)::starEach [] X.env):au X z (.Call (.Attribute (.Name x pn) "append" bX) [e] [] bh) g (.dat .non) (g1.set i (.own (l++[d]))):=by
 obtain⟨t,q,k⟩:=h;refine⟨_,Fb Bz PySem.F.slot_list_append PySem.F.type_list_append kY (fZ hN hv hd bH) q hbase hfew hline hs rfl,λσ As M H Q s kk=>?_⟩
 obtain⟨a,xs,e1,e2,e3,e4⟩:=s.sl.at hg;refine⟨.ref a,e1,.inl ⟨rfl,xs,bN.of e3⟩,k σ As M H _ s λvs H' az M' s' st R=>?_⟩
 obtain⟨b,ys,f1,f2,f3,f4⟩:=s'.sl.at JK;rw[e1]at f1;injection f1 with f1;injection f1 with f1;injection f1 with f1;subst f1;cases R with
 |dat r R=>
  cases R;refine⟨a,ys,_,rfl,rfl,f3,by rw[<- f4.length,mB];exact hl,?_⟩
  obtain⟨s2,aI⟩:=s'.write JK e1 (f4.append (.cons r .nil));exact kk _ _ az M' s2 (st.trans aI) .non
end
section
theorem Le(hN:X.N[i]?=some x)(hv:qk X.env.scope x)(hd:(x==("__debug__":Str))=false)(bH:(x==("__classdict__":Str))=false)(h:au X z e g (.dat d) g1)(JK:g1[i]?=some (.own l0))(h2:au X z ix g1 (.dat (.int k)) g2)(hg2:g2[i]?=some (.own l))(hj:xO l.length k=some j)
  (ha:∀v,assign (.Subscript (.Name x pn) ix c9) X.env v=(do
   let ov <- holding [v] (eval (.Name x pn) X.env)
   let iv <- holding [v,ov] (eval ix X.env)
   standAt c9
   holding [v,ov,iv] (setItem ov iv v)
   release [v,ov,iv] []))
  (hs:swapsWithSole [.Subscript (.Name x pn) ix c9] e pos.line X.env=pure false) (hw:swappedStores [.Subscript (.Name x pn) ix c9] e X.env=pure none)
  (h1:(assignEach [.Subscript (.Name x pn) ix c9] X.env).map (·.2)=[assign (.Subscript (.Name x pn) ix c9) X.env]) :
  fy X z (.Assign [.Subscript (.Name x pn) ix c9] e pos) g .nx (g2.set i (.own (l.set j d))):=by
 obtain⟨t,q,kk⟩:=h;obtain⟨t2,q2,k2⟩:=h2;refine⟨_,QV q (QT (fZ hN hv hd bH) q2 set_list ha) hs hw h1,λσ As M H E s kE=>kk σ As M H _ s λv H1 aN M1 s1 cE R1=>?_⟩
 obtain⟨a,xs,e1,e2,e3,e4⟩:=s1.sl.at JK;refine⟨.ref a,e1,k2 σ aN M1 H1 _ s1 λw H2 bf M2 s2 aI R2=>?_⟩
 obtain⟨b,ys,f1,f2,f3,f4⟩:=s2.sl.at hg2;rw[e1]at f1;injection f1 with f1;injection f1 with f1;injection f1 with f1;subst f1;have R2':Rep z.K M2 H2 (.int k) w:=R2;cases R2';refine⟨a,ys,k,j,rfl,rfl,f3,by rw[<- f4.length];exact hj,?_⟩
 obtain⟨s3,dX⟩:=s2.write hg2 e1 (aG.set (Rep.stay aI R1) j f4);exact kE σ bf M2 _ s3 (cE.trans (aI.trans dX))
end
noncomputable def dF:List R->G->Option G
 | [],_=>some []
 |.dat d::rs,g=>match dF rs g with |some gs=>some (.dat d::gs) |none=>none
 |.var i::rs,g=>match g[i]? with
  |some (.own l)=>match dF rs g with |some gs=>some (.own l::gs) |none=>none
  |_=>none
 |.new _::_,_=>none
noncomputable def vars:Nat->List R->List (Nat×Nat)
 |_,[]=>[]
 |j,.var i::rs=>(j,i)::vars (j+1) rs
 |j,.dat _::rs=>vars (j+1) rs
 |j,.new _::rs=>vars (j+1) rs
noncomputable def back:List (Nat×Nat)->G->G->Option G
 | [],_,g=>some g
 | (j,i)::ps,gc,g=>match gc[j]? with
  |some (.own l)=>back ps gc (g.set i (.own l))
  |_=>none
noncomputable def cW(bor:List Nat)(g':G):R->Option R
 |.dat d=>some (.dat d)
 |.new l=>some (.new l)
 |.var j=>if j∈bor then none else match g'[j]? with |some (.own l)=>some (.new l) |_=>none
noncomputable def adr(σ:Sg)(i:Nat):Addr:=match σ[i]? with |some (some (.ref a))=>a |_=>0
theorem jx(h:σ[i]?=some (some (.ref a))):adr σ i=a:=by unfold adr;rw[h]
def cu(σ:Sg)(ps:List (Nat×Nat)):List (Nat×Addr):=ps.map λp=>(p.1,adr σ p.2)
noncomputable def dG(n:Nat)(gs:G):G:=gs++List.replicate (n - gs.length) .no
theorem Slots.append{K:Frag}{M:List Addr}{H:Hp}{g1 g2:G}{σ1 σ2:Sg}{A1 A2:List Addr}(p:Slots K M H g1 σ1 A1)(q:Slots K M H g2 σ2 A2):Slots K M H (g1++g2) (σ1++σ2) (A1++A2):=by
 induction p with
 |nil=>exact q
 |no p ih=>exact .no ih
 |dat r p ih=>exact .dat r ih
 |own e r p ih=>exact .own e r ih
theorem Slots.nos{K:Frag}{M:List Addr}{H:Hp}:∀(n:Nat),Slots K M H (List.replicate n .no) (List.replicate n none) []
 | 0=>.nil
 |n+1=>by rw[o6,o6];exact .no (Slots.nos n)
section
theorem Slots.zu{K:Frag}{g:G}{σ:Sg}{As:List Addr}{i j:Nat}{a:Addr}{l l':List D}(q:Slots K M H g σ As)(nd:As.Nodup)(e1:g[i]?=some (.own l))(e2:g[j]?=some (.own l'))(e3:σ[i]?=some (some (.ref a)))(e4:σ[j]?=some (some (.ref a))):i=j:=by
 induction q generalizing i j with
 |nil=>exact nomatch (show none=some (Slot.own l)from e1)
 |no q ih=>cases i with
  |zero=>exact nomatch (show some Slot.no=some (Slot.own l)from e1)
  |succ i=>cases j with
   |zero=>exact nomatch (show some Slot.no=some (Slot.own l')from e2)
   |succ j=>exact congrArg (· + 1) (ih nd e1 e2 e3 e4)
 |dat r q ih=>cases i with
  |zero=>exact nomatch (show some (Slot.dat _)=some (Slot.own l)from e1)
  |succ i=>cases j with
   |zero=>exact nomatch (show some (Slot.dat _)=some (Slot.own l')from e2)
   |succ j=>exact congrArg (· + 1) (ih nd e1 e2 e3 e4)
 |@own g σ As b xs ds h r q ih=>
  have no:∀{i:Nat}{l:List D},g[i]?=some (.own l)->σ[i]?=some (some (.ref a))->b=a->False:=λ{i l} e1 e3 e=>by
   obtain⟨c,xs,h1,h2,_⟩:=q.at e1;cases (show some (some (V.ref c))=some (some (V.ref a))from h1.symm.trans e3)
   exact (hV.mp nd).1 (e▸h2)
  cases i with
  |zero=>cases j with
   |zero=>rfl
   |succ j=>cases (show some (some (V.ref b))=some (some (V.ref a))from e3);exact (no e2 e4 rfl).elim
  |succ i=>cases j with
   |zero=>cases (show some (some (V.ref b))=some (some (V.ref a))from e4);exact (no e1 e3 rfl).elim
   |succ j=>exact congrArg (· + 1) (ih (hV.mp nd).2 e1 e2 e3 e4)
theorem oM(s:S z g σ As M H)(j:Nat)(q:jw z σ M H rs vs)(e:dF rs g=some gs) :
  gs.length=vs.length/\Slots z.K M H gs (vs.map some) ((cu σ (vars j rs)).map (·.2))/\
  (∀p∈cu σ (vars j rs),∃n l,p.1=j+n/\gs[n]?=some (.own l)/\vs[n]?=some (.ref p.2))/\
  (∀n l a,gs[n]?=some (.own l)->vs[n]?=some (.ref a)->(j+n,a)∈cu σ (vars j rs))/\
  (∀p∈vars j rs,∃l a,g[p.2]?=some (.own l)/\σ[p.2]?=some (some (.ref a))/\a∈As):=by
 induction q generalizing gs j with
 |nil=>cases e;exact⟨rfl,.nil,(λp hp=>nomatch hp),(λn l a h=>by simp at h),(λp hp=>nomatch hp)⟩
 |@dat d v rs vs r q ih=>
  unfold dF at e;cases e2:dF rs g with
  |none=>rw[e2]at e;cases e
  |some gs=>
   rw[e2]at e;cases e;obtain⟨h1,h2,h3,h4,h5⟩:=ih (j+1) e2;refine⟨by simp[h1],.dat r h2,λp hp=>?_,λn l a e1 e3=>?_,h5⟩
   . obtain⟨n,l,q1,q2,q3⟩:=h3 p hp;exact⟨n+1,l,by lia,by simpa using q2,by simpa using q3⟩
   .
    cases n with
    |zero=>simp at e1
    |succ n=>
     have:=h4 n l a (by simpa using e1) (by simpa using e3)
     rw[show j+(n+1)=j+1+n by lia]
     exact this
 |@var i v rs vs r q ih=>
  unfold dF at e;split at e
  .
   rename_i l hg;cases e2:dF rs g with
   |none=>rw[e2]at e;cases e
   |some gs=>
    rw[e2]at e;cases e;obtain⟨h1,h2,h3,h4,h5⟩:=ih (j+1) e2;obtain⟨a,xs,f1,f2,f3,f4⟩:=s.sl.at hg;have ea:adr σ i=a:=jx f1;rw[r]at f1;injection f1 with f1;injection f1 with f1;subst f1;have el:cu σ (vars j (.var i::rs))=(j,a)::cu σ (vars (j+1) rs):=by show (j,adr σ i)::cu σ (vars (j+1) rs)=_;rw[ea]
    rw[el];refine⟨by simp[h1],.own f3 f4 h2,λp hp=>?_,λn l' b e1 e3=>?_,λp hp=>?_⟩
    .
     rcases d5.mp hp with rfl |hp
     . exact⟨0,l,rfl,rfl,rfl⟩
     . obtain⟨n,l,q1,q2,q3⟩:=h3 p hp;exact⟨n+1,l,by lia,by simpa using q2,by simpa using q3⟩
    .
     cases n with
     |zero=>
      have e4:a=b:=by simpa using e3
      subst e4;exact dL
     |succ n=>
      have:=h4 n l' b (by simpa using e1) (by simpa using e3)
      rw[show j+(n+1)=j+1+n by lia]
      exact dA _ this
    .
     rcases d5.mp (show p∈(j,i)::vars (j+1) rs from hp)with rfl |hp
     . exact⟨l,a,hg,r,f2⟩
     . exact h5 p hp
  . cases e
theorem qV{α β:Type}{f:α->β}:∀{l:List α},l.Nodup->(∀a∈l,∀b∈l,f a=f b->a=b)->(l.map f).Nodup
 | [],_,_=>u4
 |x::l,nd,h=>by
  rw[List.map_cons];refine hV.mpr ⟨λhm=>?_,qV (hV.mp nd).2 λa ha b hb=>h a (dA _ ha) b (dA _ hb)⟩
  obtain⟨y,hy,e⟩:=i8.mp hm;have:=h y (dA _ hy) x dL e;exact (hV.mp nd).1 (this▸hy)
def qW(z:Z)(σ:Sg)(M:List Addr)(H:Hp)(rs:List R):Z:=⟨z.K,H,M,cu σ (vars 0 rs),z.T⟩
theorem lz:(qW z σ M H rs).bor=(vars 0 rs).map (·.1):=by show (cu σ (vars 0 rs)).map (·.1)=_;unfold cu;rw[List.map_map];rfl
theorem S.enter(s:S z g σ As M H){rs:List R}{vs:List V}{gs:G}{N:List Str}(r:jw z σ M H rs vs)(e:dF rs g=some gs)(nd:((vars 0 rs).map (·.2)).Nodup) :
  S (qW z σ M H rs) (dG N.length gs) (start N vs) ((cu σ (vars 0 rs)).map (·.2)) M H:=by
 obtain⟨h1,h2,h3,h4,h5⟩:=oM s 0 r e;have eB:(cu σ (vars 0 rs)).map (·.2)=((vars 0 rs).map (·.2)).map (adr σ):=by unfold cu;rw[List.map_map,List.map_map];rfl
 have mem:∀b∈(cu σ (vars 0 rs)).map (·.2),b∈As:=λb hb=>by
  rw[eB]at hb;obtain⟨i,hi,e⟩:=i8.mp hb;obtain⟨p,hp,e'⟩:=i8.mp hi;obtain⟨l,a,q1,q2,q3⟩:=h5 p hp;subst e';rw[jx q2]at e;subst e;exact q3
 have pre:∀{n:Nat}{o:Slot},gs[n]?=some o->(dG N.length gs)[n]?=some o:=λ{n o} q=>by
  unfold dG;rw[eD (dC.mp q).1];exact q
 have ownB:∀(n:Nat) (l:List D),(dG N.length gs)[n]?=some (.own l)->gs[n]?=some (.own l):=λn l q=>by
  unfold dG at q;rcases AJ n gs.length with h |h
  . rw[eD h]at q;exact q
  . rw[eC h]at q;have:=l6 q;rw[vS]at this;exact absurd this.2 ⋯
 have st:∀{n:Nat}{v:V},vs[n]?=some v->(start N vs)[n]?=some (some v):=λ{n v} q=>by
  unfold L2.start;rw[eD (by rw[d6];exact (dC.mp q).1),sR,q]
  rfl
 have st':∀{n:Nat}{v:V},(start N vs)[n]?=some (some v)->vs[n]?=some v:=λ{n v} q=>by
  unfold L2.start at q;rcases AJ n vs.length with h |h
  .
   rw[eD (by rw[d6];exact h),sR]at q
   cases e:vs[n]? with
   |none=>rw[e]at q;cases q
   |some w=>rw[e]at q;injection q with q
  .
   rw[eC (by rw[d6];exact h)]at q
   have:=l6 q;rw[vS]at this;exact absurd this.2 ⋯
 refine⟨?_,?_,λa ha=>s.sub a (mem a ha),λn a l q1 q2=>.inl ?_,s.live,λb o e _ _=>e,λm hm=>hm,λm hm=>?_,λb hb=>s.sub b (mem b hb),λp hp=>?_,s.tab,λp hp=>s.gJ _ (s.tm p hp),s.tt⟩
 .
  have q:=h2.append (Slots.nos (K:=z.K) (M:=M) (H:=H) (N.length - gs.length));rw[nN]at q;have e':start N vs=vs.map some++List.replicate (N.length - gs.length) none:=by unfold L2.start;rw[h1]
  rw[e'];exact q
 .
  rw[eB];refine qV nd λi hi j hj e=>?_
  obtain⟨p,hp,rfl⟩:=i8.mp hi;obtain⟨p',vj,rfl⟩:=i8.mp hj;obtain⟨l,a,q1,q2,q3⟩:=h5 p hp;obtain⟨l',a',Rt,Wj,q3'⟩:=h5 p' vj;rw[jx q2,jx Wj]at e;subst e;exact s.sl.zu s.nd q1 Rt q2 Wj
 . have hm:=h4 n l a (ownB n l q1) (st' q2);rw[CF]at hm;exact⟨sK (f:=(·.1)) hm,sK (f:=(·.2)) hm⟩
 . exact λe=>s.fresh e hm
 . obtain⟨n,l,q1,q2,q3⟩:=h3 p hp;rw[CF]at q1;rw[q1];exact⟨st q3,l,pre q2⟩
theorem Slots.transfer{K:Frag}{M M2:List Addr}{H H':Hp}(st:ao M H M2 H'){g g2:G}{σ:Sg}{As:List Addr}(q:Slots K M H g σ As)(hl:g2.length=g.length)
  (h1:∀(i:Nat) (l:List D) (a:Addr),g[i]?=some (.own l)->σ[i]?=some (some (.ref a))->∃l' xs',g2[i]?=some (.own l')/\H' a=some (.lst xs')/\aG K M2 H' l' xs')
  (h2:∀(i:Nat) (o:Slot),g[i]?=some o->(∀l,o≠.own l)->g2[i]?=some o):Slots K M2 H' g2 σ As:=by
 induction q generalizing g2 with
 |nil=>cases g2 with
  |nil=>exact .nil
  |cons a b=>cases hl
 |no q ih=>cases g2 with
  |nil=>cases hl
  |cons a b=>
   cases (show some a=some Slot.no from h2 0 .no rfl (λl z=>nomatch z))
   exact .no (ih (B0 hl) (λi l a e1 e2=>h1 (i+1) l a e1 e2) λi o e1 e2=>h2 (i+1) o e1 e2)
 |@dat g σ As v d r q ih=>cases g2 with
  |nil=>cases hl
  |cons a b=>
   cases (show some a=some (Slot.dat d)from h2 0 (.dat d) rfl (λl z=>nomatch z))
   exact .dat (r.stay st) (ih (B0 hl) (λi l a e1 e2=>h1 (i+1) l a e1 e2) λi o e1 e2=>h2 (i+1) o e1 e2)
 |@own g σ As a0 xs ds e0 r q ih=>cases g2 with
  |nil=>cases hl
  |cons a b=>
   obtain⟨l',xs',e1,e2,e3⟩:=h1 0 _ a0 rfl rfl;cases (show some a=some (Slot.own l')from e1)
   exact .own e2 e3 (ih (B0 hl) (λi l a e1 e2=>h1 (i+1) l a e1 e2) λi o e1 e2=>h2 (i+1) o e1 e2)
theorem qX:∀{ps:List (Nat×Nat)}{g gO:G},back ps gc g=some gO->(ps.map (·.2)).Nodup->gO.length=g.length/\
  (∀i,i∉ps.map (·.2)->gO[i]?=g[i]?)/\∀p∈ps,p.2<g.length->∃l,gc[p.1]?=some (.own l)/\gO[p.2]?=some (.own l)
 | [],g,gO,e,_=>by cases e;exact⟨rfl,λ_ _=>rfl,λp hp=>nomatch hp⟩
 | (j,i)::ps,g,gO,e,nd=>by
  unfold back at e;split at e
  .
   rename_i l hg;obtain⟨h1,h2,h3⟩:=qX e (hV.mp nd).2;refine⟨by rw[h1,u7],λk hk=>?_,λp hp hlt=>?_⟩
   .
    have n1:k∉ps.map (·.2):=λz=>hk (dA _ z)
    have n2:i≠k:=λz=>hk (z▸dL)
    rw[h2 k n1,fN n2]
   .
    rcases d5.mp hp with rfl |hp
    . refine⟨l,hg,?_⟩;have hlt':i<g.length:=hlt;rw[h2 i (hV.mp nd).1,i4 hlt']
    . exact h3 p hp (by rw[u7];exact hlt)
  . cases e
theorem S.leave(s:S z g σ As M H){rs:List R}{vs:List V}{gs gc gO:G}{σc:Sg}{Ac Mc:List Addr}{Hc:Hp}{r r':R}{v:V}(rw':jw z σ M H rs vs)(e:dF rs g=some gs)(nd:((vars 0 rs).map (·.2)).Nodup)
  (sc:S (qW z σ M H rs) gc σc Ac Mc Hc) (st:ao M H Mc Hc) (q:cN (qW z σ M H rs) gc σc Ac Mc Hc r v) (hb:back (vars 0 rs) gc g=some gO) (hr:cW ((vars 0 rs).map (·.1)) gc r=some r') :
  ∃M2,S z gO σ As M2 Hc/\ao M H M2 Hc/\cN z gO σ As M2 Hc r' v:=by
 obtain⟨h1,h2,h3,h4,h5⟩:=oM s 0 rw' e;obtain⟨b1,b2,b3⟩:=qX hb nd;have hM:∀m∈M,m∈Mc:=sc.gJ;have core:∀M2:List Addr,(∀m∈M,m∈M2)->(∀m∈M2,m∈Mc)->ao M H M2 Hc->S z gO σ As M2 Hc:=by
  intro M2 m1 m2 aI;refine⟨s.sl.transfer aI b1 (λi l a e1 e2=>?_) (λi o e1 e2=>?_),s.nd,λa ha=>m1 a (s.sub a ha),λi a l e1 e2=>?_,λm hm=>sc.live m (m2 m hm),λb o e1 e2 et=>?_,λm hm=>m1 m (s.gJ m hm),s.m0,s.bm,λp hp=>⟨(s.gS p hp).1,?_⟩,sc.tab,s.tm,s.tt⟩
  .
   by_cases hi:i∈(vars 0 rs).map (·.2)
   .
    obtain⟨p,hp,rfl⟩:=i8.mp hi;obtain⟨l',q1,q2⟩:=b3 p hp (dC.mp e1).1;have hl:(p.1,adr σ p.2)∈cu σ (vars 0 rs):=sK (f:=λp:Nat×Nat=>(p.1,adr σ p.2)) hp
    obtain⟨c1,c2⟩:=sc.gS _ hl;obtain⟨a',xs,d1,d2,d3,d4⟩:=sc.sl.at q1;rw[c1]at d1;injection d1 with d1;injection d1 with d1;injection d1 with d1;rw[jx e2]at d1;subst d1;exact⟨l',xs,q2,d3,aG.stay (ao.less m2) d4⟩
   .
    obtain⟨a',xs,d1,d2,d3,d4⟩:=s.sl.at e1;rw[e2]at d1;injection d1 with d1;injection d1 with d1;injection d1 with d1;subst d1;refine⟨l,xs,by rw[b2 i hi];exact e1,sc.keep a _ d3 (λhB=>?_) (s.PB d3),d4.stay aI⟩
    obtain⟨p,hp,ep⟩:=i8.mp (show a∈(cu σ (vars 0 rs)).map (·.2)from hB);obtain⟨p',vj,rfl⟩:=i8.mp hp;obtain⟨l2,a2,q1,q2,q3⟩:=h5 p' vj;have J7:adr σ p'.2=a:=ep;rw[jx q2]at J7;subst J7;have:=s.sl.zu s.nd e1 q1 e2 q2;exact hi (this▸sK (f:=(·.2)) vj)
  .
   refine (b2 i λhi=>?_).trans e1
   obtain⟨p,hp,rfl⟩:=i8.mp hi;obtain⟨l2,a2,q1,q2,q3⟩:=h5 p hp;rw[e1]at q1;injection q1 with q1;exact e2 l2 q1
  .
   by_cases hi:i∈(vars 0 rs).map (·.2)
   . obtain⟨p,hp,rfl⟩:=i8.mp hi;obtain⟨l2,a2,q1,q2,q3⟩:=h5 p hp;exact s.own p.2 a l2 q1 e2
   . rw[b2 i hi]at e1;exact s.own i a l e1 e2
  .
   have e3:=s.keep b o e1 e2 et;refine sc.keep b o e3 (λhB=>?_) et
   obtain⟨p,hp,ep⟩:=i8.mp (show b∈(cu σ (vars 0 rs)).map (·.2)from hB);obtain⟨p',vj,rfl⟩:=i8.mp hp;obtain⟨l2,a2,q1,q2,q3⟩:=h5 p' vj;have J7:adr σ p'.2=b:=ep;rw[jx q2]at J7;subst J7;rcases s.own p'.2 a2 l2 q1 q2 with w |w
   . exact e2 w.2
   . rw[w]at e1;cases e1
  .
   by_cases hi:p.1∈(vars 0 rs).map (·.2)
   . obtain⟨p',vj,e'⟩:=i8.mp hi;have e'':p'.2=p.1:=e';obtain⟨l2,a2,q1,q2,q3⟩:=h5 p' vj;obtain⟨l',Rt,Wj⟩:=b3 p' vj (dC.mp q1).1;exact⟨l',by rw[<- e''];exact Wj⟩
   . rw[b2 p.1 hi];exact (s.gS p hp).2
 have new:∀(a:Addr) (xs:List V) (l:List D),v=.ref a->a∈Mc->H a=none->Hc a=some (.lst xs)->aG z.K Mc Hc l xs->∃M2,S z gO σ As M2 Hc/\ao M H M2 Hc/\cN z gO σ As M2 Hc (.new l) v:=by
  intro a xs l ev hm h0 hx rr;have m2:∀m∈a::M,m∈Mc:=λm hm'=>(d5.mp hm').elim (λe=>e▸hm) (hM m)
  have aI:ao M H (a::M) Hc:=st.trans (ao.less m2);refine⟨a::M,core _ (λm hm'=>dA _ hm') m2 aI,aI,a,xs,ev,dL,λhA=>?_,s.bR h0,hx,rr.stay (ao.less m2)⟩
  exact s.fresh h0 (s.sub a hA)
 cases r with
 |dat d=>cases hr;have aI:ao M H M Hc:=st.trans (ao.less hM);exact⟨M,core M (λm h=>h) hM aI,aI,Rep.stay (ao.less hM) q⟩
 |new l=>cases hr;obtain⟨a,xs,rfl,c1,c2,c3,c4,c5⟩:=q;exact new a xs l rfl c1 c3 c4 c5
 |var j=>
  obtain⟨l,q1,q2⟩:=q;have hr:(if j∈(vars 0 rs).map (·.1)then none else match gc[j]? with |some (.own l)=>some (R.new l) |_=>none)=some r':=hr
  split at hr
  . cases hr
  .
   rename_i hj;rw[q1]at hr;cases hr;obtain⟨a,xs,d1,d2,d3,d4⟩:=sc.sl.at q1;rw[q2]at d1;injection d1 with d1;injection d1 with d1;subst d1;refine new a xs l rfl (sc.sub a d2) ?_ d3 d4;rcases sc.own j a l q1 q2 with w |w
   . have w':=w.1;rw[lz]at w';exact absurd w' hj
   . exact w
end
theorem jw.length(q:jw z σ M H rs vs):vs.length=rs.length:=by
 induction q with
 |nil=>rfl
 |dat r q ih=>exact congrArg (· + 1) ih
 |var r q ih=>exact congrArg (· + 1) ih
def Lf(K:Frag)(N:List Str)(np:Nat)(run:List Nat->G->R->G->Prop):Sp:=λvs H Q _=>
 vs.length=np/\∃(z:Z) (g g':G) (As M:List Addr) (r:R),z.K=K/\S z g (start N vs) As M H/\run z.bor g r g'/\
  ∀v σ' az M' H',S z g' σ' az M' H'->ao M H M' H'->cN z g' σ' az M' H' r v->Q v H'
section
variable{run:List Nat->G->R->G->Prop}
theorem zA(F:iT X.prog X.w X.K X.mg X.base uI k f fd ps (Lf X.K N ps.length run))(hK:z.K=X.K)(hr:bQ k X.A)(hg:Gl X x)(hm:X.mg x=some (.ref f))(hk:PySem.W.keepIn X.K (.ref f)=true)(hb:Binds X.K fd ps [])
  (ha:cO X z (e::es) g rs g1) (aL:rs.length=ps.length) (hl:dF rs g1=some gs) (nd:((vars 0 rs).map (·.2)).Nodup) (hrun:run ((vars 0 rs).map (·.1)) (dG N.length gs) r gc) (Gb:back (vars 0 rs) gc g1=some gO) (ho:cW ((vars 0 rs).map (·.1)) gc r=some r')
  (gX:(x==("__debug__":Str))=false) (he:starEach (e::es) X.env=(false,eval e X.env)::starEach es X.env) (dQ:(backTo pos (starEach es X.env)).any (·.1)=false) :
  au X z (.Call (.Name x p) (e::es) [] pos) g r' gO:=by
 obtain⟨t,q,kk⟩:=ha;refine⟨_,zc F hr hg hm hk hb .nil Pw q gX he dQ,λσ As M H Q s kq=>kk σ As M H _ s λvs H1 aN M1 s1 cE R1=>?_⟩
 have hv:vs.length=rs.length:=R1.length;have ee:=s1.enter (N:=N) R1 hl nd;refine⟨by rw[nN,hv];exact aL,qW z σ M1 H1 rs,dG N.length gs,gc,_,M1,r,hK,by rw[nN];exact ee,by rw[lz];exact hrun,λv σ' az M' H' s' st' R'=>?_⟩
 obtain⟨M2,s2,aI,R2⟩:=s1.leave R1 hl nd s' st' R' Gb ho;exact kq v H' aN M2 s2 (cE.trans aI) R2
theorem zB{P:Program}{w:World}{K:Frag}{mg:Str->Option Value}{base:Heap}{qual:Str}{st:Stmt}(F:JF K x qual st f fd)(Sc:bU N ps (aC st))
  (h:∀(bE:Value) (A:Around) (outer:List Env) (s:Shared) (H:Hp) (E:XK),PySem.W.codeIn K bE qual=true->bQ k (A.deeper (envOfC qual (aC st) s⁻¹ f bE))->
   ∀(z:Z) (g:G) (r:R) (g':G),z.K=K->run z.bor g r g'->∃fl,cH (fh uI P w K mg base N qual (aC st) f bE A outer s H E).iS z (bB st) g fl g'/\(fl=.rt r\/(fl=.nx/\r=.dat .non))) :
  iT P w K mg base uI (k+1) f fd ps (Lf K N ps.length run):=by
 obtain⟨oc,od,kV,doc,pm,an,bE,ct,osl,rfl,lk,bH⟩:=F.ex;refine Pu lk bH Sc (λvs H Q E q=>q.1) λA outer s H vs Q E hr ⟨_,z,g,g',As,M,r,hK,hs,hrun,hQ⟩=>?_
 obtain⟨fl,⟨t,q,kk⟩,hfl⟩:=h bE A outer s H E bH hr z g r g' hK hrun;refine⟨t,q.iS,kk _ As M H _ hs ?_⟩;rcases hfl with rfl |⟨rfl,rfl⟩
 . exact λv σ' az M' H' s' st' R'=>hQ v σ' az M' H' s' st' R'
 . exact λσ' az M' H' s' st'=>hQ .non σ' az M' H' s' st' .non
end
inductive Tg where
 |nm (i:Nat) |tp (is:List Nat)
noncomputable def lA:List Nat->List D->G->G
 |i::is,d::ds,g=>lA is ds (g.set i (.dat d))
 | [],_,g=>g
 |_::_,[],g=>g
noncomputable def Tg.ix:Tg->List Nat
 |.nm i=>[i]
 |.tp is=>is
def Tg.set:Tg->D->G->Option G
 |.nm i,d,g=>some (g.set i (.dat d))
 |.tp is,.tup ds,g=>if ds.length=is.length then some (lA is ds g)else none
 |.tp is,.lst ds,g=>if ds.length=is.length then some (lA is ds g)else none
 |.tp _,_,_=>none
def uK(is:List Nat)(σ σ':Sg):Prop:=σ'.length=σ.length/\∀j,j∉is->σ'[j]?=σ[j]?
theorem uK.refl(is:List Nat)(σ:Sg):uK is σ σ:=⟨rfl,λ_ _=>rfl⟩
theorem uK.trans{is:List Nat}{σ σ1 σ2:Sg}(a:uK is σ σ1)(b:uK is σ1 σ2):uK is σ σ2:=⟨b.1.trans a.1,λj h=>(b.2 j h).trans (a.2 j h)⟩
theorem uK.mono(h:∀i∈is,i∈js)(a:uK is σ σ'):uK js σ σ':=⟨a.1,λj hj=>a.2 j λz=>hj (h j z)⟩
def eu(X:Cx)(z:Z)(tg:Expr)(T:Tg):Prop:=∃t,PG X tg t/\∀d g g',T.set d g=some g'->∀v σ As M H (Q:Sg->Hp->Prop),S z g σ As M H->Rep z.K M H d v->(∀σ' az,S z g' σ' az M H->uK T.ix σ σ'->Q σ' H)->t v σ H Q
structure xU(X:Cx)(x:Str)(i:Nat):Prop where
 nd:X.N.Nodup
 ix:X.N[i]?=some x
 lc:Loc X.env.scope x
 fn:X.fn x=true\/X.env.scope.names.lookup x=some .local
section
theorem Yk(h:xU X x i)(hb:i∉z.bor):eu X z (.Name x pos) (.nm i):=
 ⟨_,sG h.nd h.ix h.lc h.fn,λd g g' e v σ As M H Q s r k=>by
  cases e;obtain⟨az,s'⟩:=s.g6 (i:=i) hb r;exact k _ az s' ⟨by rw[u7],λj hj=>by rw[fN (λe=>hj (by rw[<- e];exact i6.mpr rfl))]⟩⟩
inductive j5(X:Cx):List Expr->List Nat->Prop
 |nil:j5 X [] []
 |cons {x:Str}{p:Pos}{i:Nat}{es:List Expr}{is:List Nat}:xU X x i->j5 X es is->j5 X (.Name x p::es) (i::is)
theorem j5.plain(h:j5 X es is):(assignEach es X.env).length=is.length/\(assignEach es X.env).findIdx? (·.1)=none:=by
 induction h with
 |nil=>exact⟨rfl,rfl⟩
 |cons _ _ ih=>
  refine⟨?_,?_⟩
  . show (assignEach _ X.env).length+1=_;rw[ih.1];rfl
  . show List.findIdx? _ ((false,assign _ X.env)::assignEach _ X.env)=none;rw[List.findIdx?_cons,ih.2];rfl
theorem j5.pgs(h:j5 X es is)(hb:∀i∈is,i∉z.bor):∃t,Wg X es t/\∀ds vs g σ As M H (Q:Sg->Hp->Prop),ds.length=is.length->S z g σ As M H->aG z.K M H ds vs->(∀σ' az,S z (lA is ds g) σ' az M H->uK is σ σ'->Q σ' H)->t vs σ H Q:=by
 induction h with
 |nil=>
  refine⟨_,Ka,λds vs g σ As M H Q hl s r k=>?_⟩
  cases r with
  |nil=>exact⟨rfl,k σ As s (uK.refl _ _)⟩
  |cons _ _=>simp at hl
 |@cons x p i es is hn hs ih=>
  obtain⟨t,q,kk⟩:=ih λj hj=>hb j (dA _ hj)
  refine⟨_,El (sG hn.nd hn.ix hn.lc hn.fn) q rfl,λds vs g σ As M H Q hl s r k=>?_⟩
  cases r with
  |nil=>simp at hl
  |@cons d ds v vs r rs=>
   obtain⟨aN,s1⟩:=s.g6 (i:=i) (hb i dL) r;refine⟨v,vs,rfl,kk ds vs _ _ aN M H Q (by simpa using hl) s1 rs λσ' az s' a=>k σ' az s' ?_⟩
   refine uK.trans ⟨by rw[u7],λj hj=>?_⟩ (a.mono λj hj=>dA _ hj)
   rw[fN (λe=>hj (by rw[<- e];exact dL))]
theorem xV{prog:Program}{w:World}{A:Around}{E:Value->Shared->Prop}{it l:Addr}{xs:Array Value}(ne:l≠it)(n:Nat):∀(i:Nat) (s:Shared) (Q:List Value->Shared->Prop),s.heap.IsListIter it l i->s.heap.IsList l xs->i+n=xs.size->
  (∀h',h'.IsListIter it l xs.size->Heap.SameBut it s.heap h'->Q (xs.toList.drop i) { s with heap:=h'})->wpAny (model prog w) A (draw (.ref it) n) Q E s:=by
 induction n with
 |zero=>
  intro i s Q hit _ hi k;have e:xs.toList.drop i=[]:=List.drop_eq_nil_of_le (by rw[n0];lia)
  have q:=k s.heap (by rw[<- hi];exact hit) (Heap.SameBut.refl ..)
  rw[e]at q;exact d0 q
 |succ n ih=>
  intro i s Q hit hl hi k;have hlt:i<xs.size:=by lia
  refine aS (wpAny_pyNext_list_item hit hl (x:=xs[i]) (by simp[hlt]) λh1 b1 c1=>?_)
  refine aS (lS (ih (i+1) _ _ b1 (hl.extBut c1.extBut ne) ⋯ λh2 b2 c2=>d0 ?_))
  have q:=k h2 b2 (c1.trans c2);rw[List.drop_eq_getElem_cons (by rw[n0];exact hlt)]at q
  exact q
theorem vm{prog:Program}{w:World}{A:Around}{E:Value->Shared->Prop}{s:Shared}{l:Addr}{xs:Array Value}{Q:List Value->Shared->Prop}(hh:A.handled=none)(hl:s.heap.IsList l xs)
  (k:∀h',Heap.ExtBut s⁻¹ s.heap h'->Q xs.toList { s with heap:=h'}):wpAny (model prog w) A (unpackItems (.ref l) xs.size none) Q E s:=by
 have ne:l≠s⁻¹:=by obtain⟨o,ho,_⟩:=hl;exact hU (eM ho)
 unfold unpackItems;refine aS ?_;unfold notIterableAtAll;refine aS (wpAny_specialOf hl.typeIs slot_list_iter.lookup ?_);refine d0 ?_;simp only[AH,CD];refine aS (lS (At hl ?_));refine aS (lS (xV ne xs.size 0 _ _ ⟨_,eA _ rfl,rfl,rfl⟩ (hl.push _) (CF _) λh1 b1 c1=>?_))
 rw[CL,hZ ⋯];refine aS (lS (wpAny_pyNext_list_end hh b1 ((hl.push _).extBut c1.extBut ne) ⋯ λh2 e2=>?_))
 simp only[Option.isSome_none,AH,CD];exact d0 (k h2 λb o nb e=>e2 b o nb (c1.extBut b o nb (bP _ e)))
def gSeq(K:Frag)(n:Nat)(t:Pn):TG:=λv σ H Q=>∃a xs,v=.ref a/\(fC K H a xs\/bN K H a xs)/\xs.length=n/\t xs σ H Q
theorem Sz{es:List Expr}{k:Nat}{t:Pn}{n:Nat}(hc:X.calm=true)(h:Wg X es t)(hn:(assignEach es X.env).length=n)(cA:(assignEach es X.env).findIdx? (·.1)=none):PG X (.Tuple es k pos) (gSeq X.K n t):=by
 intro ah s σ H v u Q I r hw;obtain⟨a,xs,e1,hq,hl,hw⟩:=hw;rcases hq with hq |hq
 . exact QS hc h hn cA ah s σ H v u Q I r ⟨a,xs,e1,hq,hl,hw⟩
 .
  subst e1;cases r;obtain⟨its,rv,pl,hz⟩:=I.list hq;rw[assign_Tuple];refine aS (yB ?_);unfold unpack;rw[cA,show (assignEach es X.env).length=its.toArray.size by rw[hn,<- hl,rv.length,dE]]
  refine aS (lS (vm (I.ok.hd hc) pl.isList λh' hx=>?_))
  have I1:L2.Inv X ah σ H { s with heap:=h'}:=I.kept (t':=s.toks) λb o e=>hx b o (hU (eM e)) e
  exact h ah _ σ H xs _ Q I1 (by simpa using rv) hw
theorem Yl(hc:X.calm=true)(hK:z.K=X.K)(h:j5 X es is)(hb:∀i∈is,i∉z.bor):eu X z (.Tuple es k pos) (.tp is):=by
 obtain⟨t,q,kk⟩:=h.pgs (z:=z) hb;refine⟨_,Sz (n:=is.length) hc q h.plain.1 h.plain.2,λd g g' e v σ As M H Q s r k=>?_⟩
 cases d with
 |tup ds=>
  have e:(if ds.length=is.length then some (lA is ds g)else none)=some g':=e
  by_cases hl:ds.length=is.length
  .
   rw[gL hl]at e;cases e;cases r with
   |@tup _ a xs ha rr=>exact⟨a,xs,rfl,.inl (hK▸ha.sq),by rw[<- rr.length];exact hl,kk ds xs g σ As M H Q hl s rr k⟩
  . rw[hZ hl]at e;cases e
 |lst ds=>
  have e:(if ds.length=is.length then some (lA is ds g)else none)=some g':=e
  by_cases hl:ds.length=is.length
  .
   rw[gL hl]at e;cases e;cases r with
   |@lst _ a xs ha rr=>exact⟨a,xs,rfl,.inr (bN.of ha.2),by rw[<- rr.length];exact hl,kk ds xs g σ As M H Q hl s rr k⟩
  . rw[hZ hl]at e;cases e
 |_=>cases e
def Jt(J:It)(aj:List D)(K:Frag)(M1:List Addr)(H1:Hp):Prop:=
 ∀M2 H2,ao M1 H1 M2 H2->(∀n d,aj[n]?=some d->J.go n H2/\∀x H',J.Xl n H2 x H'->∀(z:Z) g σ As,z.K=K->S z g σ As M2 H2->S z g σ As M2 H'/\ao M2 H2 M2 H'/\Rep K M2 H' d x)/\J.stop aj.length H2
def cX(X:Cx)(z:Z)(tg iter:Expr)(g:G)(aj:List D)(g1:G):Prop:=
 ∃wi,PI X tg iter wi/\∀σ As M H (R:It->Hp->Prop),S z g σ As M H->(∀J H' az M',S z g1 σ az M' H'->ao M H M' H'->Jt J aj z.K M' H'->R J H')->wi σ H R
theorem SJ(hK:z.K=X.K)(h:au X z iter g (.dat (.tup l)) g1):cX X z tg iter g l g1:=by
 obtain⟨t,q,k⟩:=h;refine⟨_,QZ q,λσ As M H R s kk=>k σ As M H _ s λv H1 aN M1 s1 cE r=>?_⟩
 have r':Rep z.K M1 H1 (.tup l) v:=r;cases r' with
 |@tup _ a xs ha rr=>
  refine⟨a,rfl,⟨xs,hK▸ha.sq⟩,kk _ H1 aN M1 s1 cE λM2 H2 aI=>?_⟩
  have r2:=Rep.stay aI (Rep.tup ha rr);have ha2:TupAt z.K M2 H2 a xs:=by
   rcases ha with ⟨na,hr⟩ |hk
   . exact .inl (aI.rd na hr)
   . exact .inr hk
  have PL:=rr.stay aI;refine⟨λn d hd=>?_,xs,hK▸ha2.sq,by rw[rr.length];exact eJ _⟩
  obtain⟨x,e1,e2⟩:=PL.get hd;refine⟨⟨xs,x,hK▸ha2.sq,e1⟩,λy H' hy z' g' σ' az _ s'=>?_⟩
  obtain⟨rfl,hy⟩:=hy;have:=hy xs (hK▸ha2.sq);rw[e1]at this;cases this;exact⟨s',ao.refl _ _,e2⟩
theorem SM(h:au X z iter g (.dat (.lst l)) g1):cX X z tg iter g l g1:=by
 obtain⟨t,q,k⟩:=h;refine⟨_,nj q,λσ As M H R s kk=>k σ As M H _ s λv H1 aN M1 s1 cE r=>?_⟩
 have r':Rep z.K M1 H1 (.lst l) v:=r;cases r' with
 |@lst _ a xs ha rr=>
  refine⟨a,rfl,⟨xs,bN.of ha.2⟩,kk _ H1 aN M1 s1 cE λM2 H2 aI=>?_⟩
  have ha2:=(aI _ _ ha.2 ha.1).1;have PL:=rr.stay aI;refine⟨λn d hd=>?_,xs,bN.of ha2,by rw[rr.length];exact eJ _⟩
  obtain⟨x,e1,e2⟩:=PL.get hd;refine⟨⟨xs,x,bN.of ha2,e1⟩,λy H' hy z' g' σ' az _ s'=>?_⟩
  obtain⟨rfl,hy⟩:=hy;have:=hy xs (bN.of ha2);rw[e1]at this;cases this;exact⟨s',ao.refl _ _,e2⟩
theorem SN(hK:z.K=X.K)(h:au X z iter g (.dat (.fix l)) g1):cX X z tg iter g l g1:=by
 obtain⟨t,q,k⟩:=h;refine⟨_,nj q,λσ As M H R s kk=>k σ As M H _ s λv H1 aN M1 s1 cE r=>?_⟩
 have r':Rep z.K M1 H1 (.fix l) v:=r;cases r' with
 |@fix _ a xs ha rr=>
  refine⟨a,rfl,⟨xs,hK▸ha.sq⟩,kk _ H1 aN M1 s1 cE λM2 H2 aI=>?_⟩
  have ha2:oz z.K M2 H2 a xs:=by
   rcases ha with ⟨na,o,hr⟩ |hk
   . exact .inl ⟨(aI _ _ hr na).2,o,(aI _ _ hr na).1⟩
   . exact .inr hk
  have PL:=rr.stay aI;refine⟨λn d hd=>?_,xs,hK▸ha2.sq,by rw[rr.length];exact eJ _⟩
  obtain⟨x,e1,e2⟩:=PL.get hd;refine⟨⟨xs,x,hK▸ha2.sq,e1⟩,λy H' hy z' g' σ' az _ s'=>?_⟩
  obtain⟨rfl,hy⟩:=hy;have:=hy xs (hK▸ha2.sq);rw[e1]at this;cases this;exact⟨s',ao.refl _ _,e2⟩
theorem Gd{lo:Int}{n:Nat}{K:Frag}{M:List Addr}{H:Hp}:Jt (QX lo n) (gK lo n) K M H:=λM2 H2 _=>by
 refine⟨λk d hd=>?_,?_⟩
 .
  have hk:k<n:=by have:=(dC.mp hd).1;rw[vh]at this;exact this
  rw[Ga hk]at hd;cases hd;refine⟨hk,λx H' hx z' g' σ' az _ s'=>?_⟩
  obtain⟨rfl,rfl⟩:=hx;exact⟨s',ao.refl _ _,.int _⟩
 . show n<=(gK lo n).length;rw[vh];exact eJ _
theorem Lg(h:cO X z [a] g [.dat (.int j)] g1)(hg:Gl X "range")(hm:X.mg "range"=none)(hs:starEach [a] X.env=[(false,eval a X.env)])(h1 : -(2 ^ 62)<=j)(h2:j<2 ^ 62) :
  cX X z tg (.Call (.Name "range" p) [a] [] rp) g (gK 0 j.toNat) g1:=by
 obtain⟨wi,q,k⟩:=Bt (p:=p) (rp:=rp) h hg hm hs h1 h2 (tg:=tg);exact⟨wi,q,λσ As M H R s kk=>k σ As M H _ s λH' az M' s' st=>kk _ H' az M' s' st Gd⟩
theorem Lh(h:cO X z [a,b] g [.dat (.int c),.dat (.int j)] g1)(hg:Gl X "range")(hm:X.mg "range"=none)(hs:starEach [a,b] X.env=[(false,eval a X.env),(false,eval b X.env)])(hs2:starEach [b] X.env=[(false,eval b X.env)])
  (h1 : -(2 ^ 62)<=c/\c<2 ^ 62/\-(2 ^ 62)<=j/\j<2 ^ 62):cX X z tg (.Call (.Name "range" p) [a,b] [] rp) g (gK c (j - c).toNat) g1:=by
 obtain⟨wi,q,k⟩:=Bu (p:=p) (rp:=rp) h hg hm hs hs2 h1 (tg:=tg);exact⟨wi,q,λσ As M H R s kk=>k σ As M H _ s λH' az M' s' st=>kk _ H' az M' s' st Gd⟩
inductive eE(X:Cx)(z:Z)(body:List Stmt)(T:Tg):List D->G->Fl->G->Prop
 |nil {g:G}:eE X z body T [] g .nx g
 |next {d:D}{l:List D}{g g0 g1 g2:G}{f:Fl}:T.set d g=some g0->cH X z body g0 .nx g1->eE X z body T l g1 f g2->eE X z body T (d::l) g f g2
 |cont {d:D}{l:List D}{g g0 g1 g2:G}{f:Fl}:T.set d g=some g0->cH X z body g0 .ct g1->eE X z body T l g1 f g2->eE X z body T (d::l) g f g2
 |brk {d:D}{l:List D}{g g0 g1:G}:T.set d g=some g0->cH X z body g0 .bk g1->eE X z body T (d::l) g .nx g1
 |ret {d:D}{l:List D}{g g0 g1:G}{r:R}:T.set d g=some g0->cH X z body g0 (.rt r) g1->eE X z body T (d::l) g (.rt r) g1
theorem SQ(hp:PassesOwn (model X.prog X.w) X.A X.env X.xe)(hc:X.calm=true)(hw:cX X z tg iter g aj g1)(ht:eu X z tg T)(hb:eE X z body T aj g1 f g')(hs:∀y,foldedSetIterable iter X.env y=pure y) :
  fy X z (.For tg iter body [] pos) g f g':=by
 obtain⟨wi,q,k⟩:=hw;obtain⟨t,qt,kt⟩:=ht;refine⟨_,xG hp hc q qt nB hs,λσ As M H E s kk=>k σ As M H _ s λJ H1 aN M1 s1 cE hJ=>?_⟩
 refine⟨λi m σ2 H2=>i+m=aj.length/\∃g2 bf M2,S z g2 σ2 bf M2 H2/\ao M1 H1 M2 H2/\eE X z body T (aj.drop i) g2 f g',⟨aj.length,by lia,g1,aN,M1,s1,ao.refl _ _,by simpa using hb⟩,?_⟩
 rintro i m σ2 H2 ⟨Wk,g2,bf,M2,s2,aI,lo⟩;obtain⟨hgo,hstop⟩:=hJ M2 H2 aI;cases e:aj[i]? with
 |none=>
  have hi:i=aj.length:=by have:=nK.mp e;lia
  subst hi;rw[AD]at lo;refine .inl ⟨hstop,?_⟩;cases lo;exact kk σ2 bf M2 H2 s2 (cE.trans aI)
 |some d=>
  obtain⟨go,yl⟩:=hgo i d e;rw[drop_cons e]at lo;have hi:i<aj.length:=(dC.mp e).1;refine .inr ⟨go,λσ' H'=>∃g3 ji M3,S z g3 σ' ji M3 H'/\ao M1 H1 M3 H'/\eE X z body T (aj.drop (i+1)) g3 f g',λσ' H' ⟨g3,ji,M3,w1,w2,w3⟩=>⟨m - 1,by lia,by lia,g3,ji,M3,w1,w2,w3⟩,λx H' hx=>?_⟩
  obtain⟨s3,dX,rx⟩:=yl x H' hx z g2 σ2 bf rfl s2;have kk':=(kk.trans cE).trans (aI.trans dX);have Bw:=aI.trans dX;cases lo with
  |next e0 b h=>
   refine kt d g2 _ e0 x σ2 bf M2 H' _ s3 rx λσ' az s' _=>?_
   obtain⟨t,q,kb⟩:=b;exact⟨t,q,kb _ az M2 H' _ s' λσ4 gP M4 H4 s4 qu=>⟨_,gP,M4,s4,Bw.trans qu,h⟩⟩
  |cont e0 b h=>
   refine kt d g2 _ e0 x σ2 bf M2 H' _ s3 rx λσ' az s' _=>?_
   obtain⟨t,q,kb⟩:=b;exact⟨t,q,kb _ az M2 H' _ s' λσ4 gP M4 H4 s4 qu=>⟨_,gP,M4,s4,Bw.trans qu,h⟩⟩
  |brk e0 b=>
   refine kt d g2 _ e0 x σ2 bf M2 H' _ s3 rx λσ' az s' _=>?_
   obtain⟨t,q,kb⟩:=b;exact⟨t,q,kb _ az M2 H' _ s' λσ4 gP M4 H4 s4 qu=>kk' σ4 gP M4 H4 s4 qu⟩
  |ret e0 b=>
   refine kt d g2 _ e0 x σ2 bf M2 H' _ s3 rx λσ' az s' _=>?_
   obtain⟨t,q,kb⟩:=b;exact⟨t,q,kb _ az M2 H' _ s' λv σ4 gP M4 H4 s4 qu R=>kk' v σ4 gP M4 H4 s4 qu R⟩
end
noncomputable def gC(k:Nat)(g:G):G:=g++(List.replicate k .no++[.own []])
def cP(X:Cx)(z:Z)(ifs:List Expr)(g:G)(b:Bool)(g':G):Prop:=
 ∃t,jX X ifs t/\∀σ As M H (Q:Bool->Hp->Prop),S z g σ As M H->(∀H' az M',S z g' σ az M' H'->ao M H M' H'->Q b H')->t σ H Q
theorem Li:cP X z [] g true g:=⟨_,oq,λσ As M H Q s k=>k H As M s (ao.refl _ _)⟩
theorem Lj(h:cC X z c g b g'):cP X z [c] g b g':=let ⟨t,q,k⟩:=h;⟨t,Fc q,k⟩
inductive iV(T:Tg)(last:Nat)(tD:G->Bool->G->Prop)(JL:G->D->G->Prop):List D->G->G->Prop
 |nil {g:G}:iV T last tD JL [] g g
 |skip:T.set d g=some g1->tD g1 false g2->iV T last tD JL l g2 g'->iV T last tD JL (d::l) g g'
 |take:T.set d g=some g1->tD g1 true g2->JL g2 e g3->g3[last]?=some (.own acc)->acc.length<16777216->iV T last tD JL l (g3.set last (.own (acc++[e]))) g'->iV T last tD JL (d::l) g g'
section
theorem S.extend(s:S z g σ As M H)(hm:a∈M)(hA:a∉As)(h0:z.H0 a=none)(h:H a=some (.lst xs))(r:aG z.K M H l xs) :
  S z (g++(List.replicate k .no++[.own l])) (σ++(List.replicate k none++[some (.ref a)])) (As++([]++[a])) M H:=by
 have hl:=s.sl.length;refine⟨s.sl.append ((Slots.nos k).append (.own h r .nil)),?_,λb hb=>?_,λi b l' e1 e2=>?_,s.live,s.keep,s.gJ,s.m0,s.bm,λp hp=>?_,s.tab,s.tm,s.tt⟩
 .
  rw[A9];refine AR.mpr ⟨s.nd,hV.mpr ⟨by simp,u4⟩,λx hx y hy e=>?_⟩
  rw[i6.mp hy]at e;exact hA (e▸hx)
 .
  rcases w8.mp hb with q |q
  . exact s.sub b q
  . rw[A9]at q;rw[i6.mp q];exact hm
 .
  rcases AJ i g.length with hi |hi
  . rw[eD hi]at e1;rw[eD ⋯]at e2;exact s.own i b l' e1 e2
  .
   rw[eC hi]at e1;rw[eC ⋯]at e2;rcases AJ (i - g.length) k with hk |hk
   .
    rw[eD (by rw[fI];exact hk)]at e1
    have:=l6 e1;rw[vS]at this;exact absurd this.2 ⋯
   .
    rw[eC (by rw[fI];lia),fI]at e2
    have e3:i - σ.length - k=0:=by
     rcases Nat.eq_zero_or_pos (i - σ.length - k)with q |q
     . exact q
     . rw[AK (Nat.succ_le_of_lt q)]at e2;cases e2
    rw[e3]at e2;have e4:some (some (V.ref a))=some (some (V.ref b)):=e2;injection e4 with e4;injection e4 with e4;injection e4 with e4;exact .inr (e4▸h0)
 . obtain⟨q1,l',q2⟩:=s.gS p hp;exact⟨by rw[eD (dC.mp q1).1];exact q1,l',by rw[eD (dC.mp q2).1];exact q2⟩
theorem Slots.split{K:Frag}{g1 g2:G}{σ:Sg}{As:List Addr}(q:Slots K M H (g1++g2) σ As):∃σ1 σ2 A1 A2,σ=σ1++σ2/\As=A1++A2/\Slots K M H g1 σ1 A1/\Slots K M H g2 σ2 A2:=by
 induction g1 generalizing σ As with
 |nil=>exact⟨[],_,[],_,rfl,rfl,.nil,q⟩
 |cons o g1 ih=>cases q with
  |no q=>obtain⟨s1,s2,a1,a2,rfl,rfl,h1,h2⟩:=ih q;exact⟨_::s1,s2,a1,a2,rfl,rfl,.no h1,h2⟩
  |dat r q=>obtain⟨s1,s2,a1,a2,rfl,rfl,h1,h2⟩:=ih q;exact⟨_::s1,s2,a1,a2,rfl,rfl,.dat r h1,h2⟩
  |own e r q=>obtain⟨s1,s2,a1,a2,rfl,rfl,h1,h2⟩:=ih q;exact⟨_::s1,s2,_::a1,a2,rfl,rfl,.own e r h1,h2⟩
theorem S.shrink{gb:G}{τ:Sg}{l:List D}{i:Nat}{a:Addr}(s:S z gb (σ++τ) As M H)(hz:∀p∈z.lent,p.1<σ.length)(hi:σ.length<=i)(e1:gb[i]?=some (.own l))(e2:(σ++τ)[i]?=some (some (.ref a))) :
  ∃A1,S z (gb.take σ.length) σ A1 M H/\a∈M/\a∉A1:=by
 have hl:=s.sl.length;rw[fR]at hl;have q:=s.sl;rw[<- AL σ.length gb]at q;obtain⟨σ1,σ2,A1,A2,h1,h2,h3,h4⟩:=q.split;have l1:=h3.length;rw[sB,Nat.min_eq_left ⋯]at l1;obtain⟨rfl,rfl⟩:=List.append_inj h1 l1;subst h2;have hA2:a∈A2:=by
  obtain⟨b,xs,f1,f2,_⟩:=h4.at (i:=i - σ.length) (l:=l) (by rw[List.getElem?_drop,Nat.add_sub_cancel' hi];exact e1)
  rw[eC hi]at e2;rw[e2]at f1;injection f1 with f1;injection f1 with f1;injection f1 with f1;exact f1▸f2
 have tk:∀(j:Nat) (o:Slot),(gb.take σ.length)[j]?=some o->gb[j]?=some o/\j<σ.length:=λj o e=>by
  have hj:=(dC.mp e).1;rw[sB]at hj;have hj':j<σ.length:=eQ hj (Nat.min_le_left _ _);rw[sT hj']at e;exact⟨e,hj'⟩
 refine⟨A1,⟨h3,(AR.mp s.nd).1,λb hb=>s.sub b (t6 _ hb),λj b l' c1 c2=>?_,s.live,s.keep,s.gJ,s.m0,s.bm,λp hp=>?_,s.tab,s.tm,s.tt⟩,s.sub a (i3 _ hA2),λhA=>(AR.mp s.nd).2.2 a hA a hA2 rfl⟩
 . obtain⟨c3,c4⟩:=tk j _ c1;exact s.own j b l' c3 (by rw[eD c4];exact c2)
 . obtain⟨c1,l',c2⟩:=s.gS p hp;have vj:=hz p hp;rw[eD vj]at c1;exact⟨c1,l',by rw[sT vj];exact c2⟩
theorem cY(h:uK is (σ++τ) σ')(hi:∀i∈is,σ.length<=i):∃τ',σ'=σ++τ':=by
 refine⟨σ'.drop σ.length,?_⟩;have e:σ'.take σ.length=σ:=by
  apply List.ext_getElem?;intro j;rcases AJ j σ.length with hj |hj
  . rw[sT hj,h.2 j (λz=>Nat.not_lt.mpr (hi j z) hj),eD hj]
  . rw[AK (by rw[sB];exact qS (Nat.min_le_left _ _) hj),AK hj]
 have:=(AL σ.length σ').symm;rw[e]at this;exact this
end
section
def Bx(X:Cx)(tg:Expr):TG:=λv σ H Q=>∃t,PG X tg t/\t v σ H Q
theorem g9:PG X tg (Bx X tg):=λah s σ H v u Q I r h=>let ⟨t,q,k⟩:=h;q ah s σ H v u Q I r k
def Ge(X:Cx)(ifs:List Expr):TT:=λσ H Q=>∃t,jX X ifs t/\t σ H Q
theorem lB:jX X ifs (Ge X ifs):=λah s σ H Q I h=>let ⟨t,q,k⟩:=h;q ah s σ H Q I k
def vn(X:Cx)(e:Expr):TE:=λσ H Q=>∃t,PE X e t/\t σ H Q
theorem jy:PE X e (vn X e):=λah s σ H Q I h=>let ⟨t,q,k⟩:=h;q ah s σ H Q I k
theorem oN(hw:cX X z tg iter g aj g1)(ht:∀b:Bk,eu (X.blk N' scope b) z tg T)(hT:∀i∈T.ix,g1.length<=i/\i<g1.length+k)
  (hcp:iV T (g1.length+k) (λg b g'=>∀bk:Bk,cP (X.blk N' scope bk) z ifs g b g') (λg d g'=>∀bk:Bk,au (X.blk N' scope bk) z bI g (.dat d) g') aj (gC k g1) gE) (hacc:gE[g1.length+k]?=some (.own acc)) :
  ∃wi,PI X tg iter wi/\∀σ As M H Q,S z g σ As M H->Kn z (gE.take g1.length) σ M H (.new acc) Q->qT X k wi (λb=>Bx (X.blk N' scope b) tg) (λb=>Ge (X.blk N' scope b) ifs) (λD b=>sS D (vn (X.blk N' scope b) bI)) σ H Q:=by
 obtain⟨wi,q,kw⟩:=hw;refine⟨wi,q,λσ As M H Q s kq=>kw σ As M H _ s λJ H1 aN M1 s1 cE hJ D hD=>?_⟩
 have hl:g1.length=σ.length:=s1.sl.length;have hz:∀p∈z.lent,p.1<σ.length:=λp hp=>(dC.mp (s1.gS p hp).1).1
 have Lk:∀i∈T.ix,σ.length<=i:=λi hi=>by rw[<- hl];exact (hT i hi).1
 have gF:g1.length+k∉T.ix:=λh=>l9 _ (hT _ h).2
 have s1':=s1.aR (xs:=[]) hD;have h0:z.H0 D=none:=s1.bR hD;have nA:D∉aN:=λh=>s1.fresh hD (s1.sub D h)
 have sb:=s1'.extend (k:=k) (l:=[]) dL nA h0 aA .nil;have mz:(σ++(List.replicate k none++[some (V.ref D)]))[g1.length+k]?=some (some (V.ref D)):=by
  rw[hl,eC (wP _ _),l4,eC (by rw[fI];exact eJ _),fI,A4]
  rfl
 refine⟨λi m σ' H'=>i+m=aj.length/\∃gb Ab Mb τ,S z gb σ' Ab Mb H'/\ao M1 H1 Mb H'/\σ'=σ++τ/\σ'[g1.length+k]?=some (some (.ref D))/\iV T (g1.length+k) (λg b g'=>∀bk:Bk,cP (X.blk N' scope bk) z ifs g b g') (λg d g'=>∀bk:Bk,au (X.blk N' scope bk) z bI g (.dat d) g') (aj.drop i) gb gE,
  ⟨aj.length,by lia,_,_,_,_,sb,ao.aR hD,rfl,mz,hcp⟩,?_⟩
 rintro i m σ' H' ⟨Wk,gb,Ab,Mb,τ,s2,aI,rfl,By,cp⟩;obtain⟨hgo,hstop⟩:=hJ Mb H' aI;cases e:aj[i]? with
 |none=>
  have hi:i=aj.length:=by have:=nK.mp e;lia
  subst hi;rw[AD]at cp;cases cp;refine .inl ⟨hstop,?_⟩;obtain⟨a,xs,f1,f2,f3,f4⟩:=s2.sl.at hacc;rw[By]at f1;injection f1 with f1;injection f1 with f1;injection f1 with f1;subst f1;obtain⟨A1,s3,m3,n3⟩:=s2.shrink hz ⋯ hacc By;rw[<- hl]at s3;exact kq _ H' A1 Mb s3 (cE.trans aI) ⟨D,xs,rfl,m3,n3,h0,f3,f4⟩
 |some d=>
  obtain⟨go,yl⟩:=hgo i d e;rw[drop_cons e]at cp;have hi:i<aj.length:=(dC.mp e).1;refine .inr ⟨go,λσ' H'=>∃gb Ab Mb τ,S z gb σ' Ab Mb H'/\ao M1 H1 Mb H'/\σ'=σ++τ/\σ'[g1.length+k]?=some (some (.ref D))/\iV T (g1.length+k) (λg b g'=>∀bk:Bk,cP (X.blk N' scope bk) z ifs g b g') (λg d g'=>∀bk:Bk,au (X.blk N' scope bk) z bI g (.dat d) g') (aj.drop (i+1)) gb gE,
   λJG JH hN=>⟨m - 1,by lia,by lia,hN⟩,λx H2 hx bk _=>?_⟩
  obtain⟨s3,dX,rx⟩:=yl x H2 hx z gb (σ++τ) Ab rfl s2;obtain⟨t,qt,kt⟩:=ht bk;cases cp with
  |skip e0 hc rest=>
   refine⟨t,qt,kt d gb _ e0 x _ Ab Mb H2 _ s3 rx λσ4 gP s4 ag=>?_⟩
   obtain⟨τ',rfl⟩:=cY ag Lk;obtain⟨t2,q2,k2⟩:=hc bk;refine⟨t2,q2,k2 _ gP Mb H2 _ s4 λH5 xq M5 s5 jU=>?_⟩
   refine mU ⟨_,xq,M5,τ',s5,(aI.trans dX).trans jU,rfl,?_,rest⟩;rw[ag.2 _ gF];exact By
  |take e0 hc he ha hz' rest=>
   refine⟨t,qt,kt d gb _ e0 x _ Ab Mb H2 _ s3 rx λσ4 gP s4 ag=>?_⟩
   obtain⟨τ',rfl⟩:=cY ag Lk;obtain⟨t2,q2,k2⟩:=hc bk;obtain⟨t3,q3,k3⟩:=he bk;have Ln:(σ++τ')[g1.length+k]?=some (some (V.ref D)):=by rw[ag.2 _ gF];exact By
   refine⟨t2,q2,k2 _ gP Mb H2 _ s4 λH5 xq M5 s5 jU=>jt ⟨t3,q3,k3 _ xq M5 H5 _ s5 λv H6 SX M6 s6 JM R6=>?_⟩⟩
   obtain⟨a,xs,f1,f2,f3,f4⟩:=s6.sl.at ha;rw[Ln]at f1;injection f1 with f1;injection f1 with f1;injection f1 with f1;subst f1;obtain⟨s7,Ym⟩:=s6.write ha Ln (f4.append (.cons R6 .nil));refine⟨xs,f3,by rw[<- f4.length,mB];exact hz',_,SX,M6,τ',s7,(((aI.trans dX).trans jU).trans JM).trans Ym,rfl,Ln,rest⟩
theorem Lp(B:aH X.env.scope scope)(hc:X.calm=true)(hN:Names X.N N' scope k)(hw:cX X z tg iter g aj g1)(ht:∀b:Bk,eu (X.blk N' scope b) z tg T)(hT:∀i∈T.ix,g1.length<=i/\i<g1.length+k)
  (hcp:iV T (g1.length+k) (λg b g'=>∀bk:Bk,cP (X.blk N' scope bk) z ifs g b g') (λg d g'=>∀bk:Bk,au (X.blk N' scope bk) z bI g (.dat d) g') aj (gC k g1) gE) (hacc:gE[g1.length+k]?=some (.own acc))
  (hs:∀x,foldedSetIterable iter X.env x=pure x):au X z (.ListComp bI [⟨tg,iter,ifs,0⟩] scope pos) g (.new acc) (gE.take g1.length):=by
 obtain⟨wi,q,kk⟩:=oN hw ht hT hcp hacc;exact⟨_,zq B hc hN q (λb=>⟨g9,lB,jy⟩) hs,kk⟩
theorem Lq(B:aH X.env.scope scope)(hc:X.calm=true)(hN:Names X.N N' scope k)(hw:cX X z tg iter g aj g1)(ht:∀b:Bk,eu (X.blk N' scope b) z tg T)(hT:∀i∈T.ix,g1.length<=i/\i<g1.length+k)
  (hcp:iV T (g1.length+k) (λg b g'=>∀bk:Bk,cP (X.blk N' scope bk) z ifs g b g') (λg d g'=>∀bk:Bk,au (X.blk N' scope bk) z bI g (.dat d) g') aj (gC k g1) gE) (hacc:gE[g1.length+k]?=some (.own acc))
  (KH:X.N.Nodup) (hy:X.N[i]?=some y) (hl:X.env.scope.names.lookup y=some .local) (hb:i∉z.bor) (hi:i<(gE.take g1.length).length)
  (hsw:swapsWith (.ListComp bI [⟨tg,iter,ifs,0⟩] scope pos) (some (.Name y py)) c9.line X.env=pure true)
  (hs:∀x,foldedSetIterable iter X.env x=pure x):fy X z (.Assign [.Name y py] (.ListComp bI [⟨tg,iter,ifs,0⟩] scope pos) c9) g .nx ((gE.take g1.length).set i (.own acc)):=by
 obtain⟨wi,q,kk⟩:=oN hw ht hT hcp hacc;refine⟨_,KD B hc hN q (λb=>⟨g9,lB,jy⟩) KH hy hl hsw hs,λσ As M H E s kE=>kk σ As M H _ s λv H' az M' s' st R=>?_⟩
 obtain⟨a,xs,rfl,hm,hA,h0,ha,rr⟩:=R;obtain⟨bf,s2⟩:=s'.oA hb hi hm hA h0 ha rr;exact kE _ bf M' H' s2 st
end
section
theorem au.run(he:au X z e g r g1)(I:L2.Inv X ah σ H s)(st:S z g σ As M H)
  (k:∀v u s1 H1 aN M1,L2.Inv X ah σ H1 s1->RelV v u->S z g1 σ aN M1 H1->ao M H M1 H1->cN z g1 σ aN M1 H1 r v->Post u s1):wpAny (model X.prog X.w) X.A (eval e X.env) Post X.xe s:=by
 obtain⟨t,q,kt⟩:=he;exact bJ (q ah s σ H (λv H1=>∃aN M1,S z g1 σ aN M1 H1/\ao M H M1 H1/\cN z g1 σ aN M1 H1 r v) I (kt σ As M H _ st λv H1 aN M1 s1 cE R=>⟨aN,M1,s1,cE,R⟩)) λu s1 ⟨v,H1,I1,r1,aN,M1,q1,q2,q3⟩=>k v u s1 H1 aN M1 I1 r1 q1 q2 q3
theorem mj.run(ho:mj X z f d1 d2 r)(I:L2.Inv X ah σ H s)(st:S z g σ As M H)(p1:Pk z.K M H d1 v1)(p2:Pk z.K M H d2 v2)(r1:RelV v1 u1)(r2:RelV v2 u2)
  (k:∀v u s1 H1 aN M1,L2.Inv X ah σ H1 s1->RelV v u->S z g σ aN M1 H1->ao M H M1 H1->cN z g σ aN M1 H1 r v->Post u s1):wpAny (model X.prog X.w) X.A (f u1 u2) Post X.xe s:=by
 obtain⟨rr,o,ko⟩:=ho;exact bJ (o ah s σ H v1 v2 u1 u2 (λv H1=>∃aN M1,S z g σ aN M1 H1/\ao M H M1 H1/\cN z g σ aN M1 H1 r v) I r1 r2 (ko g σ As M H v1 v2 _ st p1 p2 λv H1 aN M1 s1 cE R=>⟨aN,M1,s1,cE,R⟩)) λu s1 ⟨v,H1,I1,r1,aN,M1,q1,q2,q3⟩=>k v u s1 H1 aN M1 I1 r1 q1 q2 q3
theorem au.of (h:∀(ah:List (Addr×Obj)) (s:Shared) (σ:Sg) (As M:List Addr) (H:Hp) (Post:Value->Shared->Prop),L2.Inv X ah σ H s->S z g σ As M H->
  (∀v u s1 H1 aN M1,L2.Inv X ah σ H1 s1->RelV v u->S z g1 σ aN M1 H1->ao M H M1 H1->cN z g1 σ aN M1 H1 r v->Post u s1)->wpAny (model X.prog X.w) X.A (eval e X.env) Post X.xe s):au X z e g r g1:=
 ⟨λσ H Q=>∃As M,S z g σ As M H/\Kn z g1 σ M H r Q,λah s σ H Q I ⟨As,M,st,k⟩=>h ah s σ As M H _ I st λv u s1 H1 aN M1 I1 r1 q1 q2 q3=>⟨v,H1,I1,r1,k v H1 aN M1 q1 q2 q3⟩,λσ As M H Q s k=>⟨As,M,s,k⟩⟩
theorem cC.of (h:∀(ah:List (Addr×Obj)) (s:Shared) (σ:Sg) (As M:List Addr) (H:Hp) (Post:Bool->Shared->Prop),L2.Inv X ah σ H s->S z g σ As M H->
  (∀s1 H1 aN M1,L2.Inv X ah σ H1 s1->S z g1 σ aN M1 H1->ao M H M1 H1->Post b s1)->wpAny (model X.prog X.w) X.A (isTrue e X.env (eval e X.env)) Post X.xe s):cC X z e g b g1:=
 ⟨λσ H Q=>∃As M,S z g σ As M H/\(∀H' az M',S z g1 σ az M' H'->ao M H M' H'->Q b H'),λah s σ H Q I ⟨As,M,st,k⟩=>h ah s σ As M H _ I st λs1 H1 aN M1 I1 q1 q2=>⟨H1,I1,k H1 aN M1 q1 q2⟩,λσ As M H Q s k=>⟨As,M,s,k⟩⟩
inductive tE(X:Cx)(z:Z):D->List CmpOp->List Expr->G->Bool->G->Prop
 |last {d1 d2:D}{op:CmpOp}{b:Expr}{g g1:G}{c:Bool}:au X z b g (.dat d2) g1->mj X z (compareOp op) d1 d2 (.dat (.bl c))->tE X z d1 [op] [b] g c g1
 |stop {d1 d2:D}{op op':CmpOp}{ops:List CmpOp}{b b':Expr}{bs:List Expr}{g g1:G}:au X z b g (.dat d2) g1->mj X z (compareOp op) d1 d2 (.dat (.bl false))->tE X z d1 (op::op'::ops) (b::b'::bs) g false g1
 |link {d1 d2:D}{op op':CmpOp}{ops:List CmpOp}{b b':Expr}{bs:List Expr}{g g1 g2:G}{c:Bool}:au X z b g (.dat d2) g1->mj X z (compareOp op) d1 d2 (.dat (.bl true))->tE X z d2 (op'::ops) (b'::bs) g1 c g2->tE X z d1 (op::op'::ops) (b::b'::bs) g c g2
theorem S0(h:tE X z d1 ops bs g c g'):∀(ah:List (Addr×Obj)) (s:Shared) (σ:Sg) (H:Hp) (As M:List Addr) (Post:Value->Shared->Prop) (v1:V) (u1:Value),L2.Inv X ah σ H s->S z g σ As M H->Rep z.K M H d1 v1->RelV v1 u1->
  (∀s1 H' az M',L2.Inv X ah σ H' s1->S z g' σ az M' H'->ao M H M' H'->Post (.bool c) s1)->wpAny (model X.prog X.w) X.A (compareChain pos u1 ops (evalEach bs X.env)) Post X.xe s:=by
 induction h with
 |@last d1 d2 op b g g1 c he ho=>
  intro ah s σ H As M Post v1 u1 I st r rv k;show wpAny _ X.A (compareChain pos u1 [op] [eval b X.env]) _ _ s;refine chain_last (he.run I st λv u s1 H1 aN M1 I1 r1 q1 q2 q3=>ho.run I1 q1 (.of (r.stay q2)) (.of q3) rv r1 λv' u' s2 H2 bf M2 I2 r2 p1 p2 p3=>?_)
  rw[eV p3]at r2;cases r2;exact k s2 H2 bf M2 I2 p1 (q2.trans p2)
 |@stop d1 d2 op op' ops b b' bs g g1 he ho=>
  intro ah s σ H As M Post v1 u1 I st r rv k;show wpAny _ X.A (compareChain pos u1 (op::op'::ops) (eval b X.env::eval b' X.env::evalEach bs X.env)) _ _ s;refine chain_link (he.run I st λv u s1 H1 aN M1 I1 r1 q1 q2 q3=>ho.run I1 q1 (.of (r.stay q2)) (.of q3) rv r1 λv' u' s2 H2 bf M2 I2 r2 p1 p2 p3=>?_)
  rw[eV p3]at r2;cases r2;exact mI (ite_ff (k s2 H2 bf M2 I2 p1 (q2.trans p2)))
 |@link d1 d2 op op' ops b b' bs g g1 g2 c he ho hch ih=>
  intro ah s σ H As M Post v1 u1 I st r rv k;show wpAny _ X.A (compareChain pos u1 (op::op'::ops) (eval b X.env::eval b' X.env::evalEach bs X.env)) _ _ s;refine chain_link (he.run I st λv u s1 H1 aN M1 I1 r1 q1 q2 q3=>ho.run I1 q1 (.of (r.stay q2)) (.of q3) rv r1 λv' u' s2 H2 bf M2 I2 r2 p1 p2 p3=>?_)
  rw[eV p3]at r2;cases r2;exact mI (ite_tt (ih ah s2 σ H2 bf M2 Post v u I2 p1 (Rep.stay p2 q3) r1 λs3 H3 ji M3 I3 w1 w2=>k s3 H3 ji M3 I3 w1 ((q2.trans p2).trans w2)))
theorem Lr(h:tE X z d1 ops bs g c g'):∀(ah:List (Addr×Obj)) (s:Shared) (σ:Sg) (H:Hp) (As M:List Addr) (Post:Bool->Shared->Prop) (v1:V) (u1:Value),L2.Inv X ah σ H s->S z g σ As M H->Rep z.K M H d1 v1->RelV v1 u1->
  (∀s1 H' az M',L2.Inv X ah σ H' s1->S z g' σ az M' H'->ao M H M' H'->Post c s1)->wpAny (model X.prog X.w) X.A (testChain pos u1 ops (evalEach bs X.env)) Post X.xe s:=by
 induction h with
 |@last d1 d2 op b g g1 c he ho=>
  intro ah s σ H As M Post v1 u1 I st r rv k;show wpAny _ X.A (testChain pos u1 [op] [eval b X.env]) _ _ s;refine test_last (he.run I st λv u s1 H1 aN M1 I1 r1 q1 q2 q3=>ho.run I1 q1 (.of (r.stay q2)) (.of q3) rv r1 λv' u' s2 H2 bf M2 I2 r2 p1 p2 p3=>?_)
  rw[eV p3]at r2;cases r2;exact mI (k s2 H2 bf M2 I2 p1 (q2.trans p2))
 |@stop d1 d2 op op' ops b b' bs g g1 he ho=>
  intro ah s σ H As M Post v1 u1 I st r rv k;show wpAny _ X.A (testChain pos u1 (op::op'::ops) (eval b X.env::eval b' X.env::evalEach bs X.env)) _ _ s;refine test_link (he.run I st λv u s1 H1 aN M1 I1 r1 q1 q2 q3=>ho.run I1 q1 (.of (r.stay q2)) (.of q3) rv r1 λv' u' s2 H2 bf M2 I2 r2 p1 p2 p3=>?_)
  rw[eV p3]at r2;cases r2;exact mI (ite_ff (k s2 H2 bf M2 I2 p1 (q2.trans p2)))
 |@link d1 d2 op op' ops b b' bs g g1 g2 c he ho hch ih=>
  intro ah s σ H As M Post v1 u1 I st r rv k;show wpAny _ X.A (testChain pos u1 (op::op'::ops) (eval b X.env::eval b' X.env::evalEach bs X.env)) _ _ s;refine test_link (he.run I st λv u s1 H1 aN M1 I1 r1 q1 q2 q3=>ho.run I1 q1 (.of (r.stay q2)) (.of q3) rv r1 λv' u' s2 H2 bf M2 I2 r2 p1 p2 p3=>?_)
  rw[eV p3]at r2;cases r2;exact mI (ite_tt (ih ah s2 σ H2 bf M2 Post v u I2 p1 (Rep.stay p2 q3) r1 λs3 H3 ji M3 I3 w1 w2=>k s3 H3 ji M3 I3 w1 ((q2.trans p2).trans w2)))
theorem Gf(ha:au X z a g (.dat d1) g1)(h:tE X z d1 (Ls::Lv::ops) (b1::b2::bs) g1 c g2)(hm:lastMarks (Ls::Lv::ops) (b1::b2::bs)=false):au X z (.Compare a (Ls::Lv::ops) (b1::b2::bs) pos) g (.dat (.bl c)) g2:=
 au.of λah s σ As M H Post I st k=>Compare_chain (ha.run I st λv u s1 H1 aN M1 I1 r1 q1 q2 q3=>S0 h ah s1 σ H1 aN M1 Post v u I1 q1 q3 r1 λs2 H2 bf M2 I2 p1 p2=>k (.bl c) (.bool c) s2 H2 bf M2 I2 rfl p1 (q2.trans p2) (.bl c)) hm
theorem Gg(ha:au X z a g (.dat d1) g1)(h:tE X z d1 (Ls::Lv::ops) (b1::b2::bs) g1 c g2)(hm:lastMarks (Ls::Lv::ops) (b1::b2::bs)=false):cC X z (.Compare a (Ls::Lv::ops) (b1::b2::bs) pos) g c g2:=
 cC.of λah s σ As M H Post I st k=>isTrue_chain (ha.run I st λv u s1 H1 aN M1 I1 r1 q1 q2 q3=>Lr h ah s1 σ H1 aN M1 Post v u I1 q1 q3 r1 λs2 H2 bf M2 I2 p1 p2=>k s2 H2 bf M2 I2 p1 (q2.trans p2)) hm
inductive mW(X:Cx)(z:Z)(c:Expr)(body:List Stmt):Nat->G->Fl->G->Prop
 |done {n:Nat}{g g1:G}:cC X z c g false g1->mW X z c body n g .nx g1
 |next {n:Nat}{g g1 g2 g3:G}{f:Fl}:cC X z c g true g1->cH X z body g1 .nx g2->mW X z c body n g2 f g3->mW X z c body (n+1) g f g3
 |cont {n:Nat}{g g1 g2 g3:G}{f:Fl}:cC X z c g true g1->cH X z body g1 .ct g2->mW X z c body n g2 f g3->mW X z c body (n+1) g f g3
 |brk {n:Nat}{g g1 g2:G}:cC X z c g true g1->cH X z body g1 .bk g2->mW X z c body n g .nx g2
 |ret {n:Nat}{g g1 g2:G}{r:R}:cC X z c g true g1->cH X z body g1 (.rt r) g2->mW X z c body n g (.rt r) g2
def Yn(X:Cx)(e:Expr):TT:=λσ H Q=>∃t,PT X e t/\t σ H Q
theorem S8{e:Expr}:PT X e (Yn X e):=λah s σ H Q I h=>let ⟨t,q,k⟩:=h;q ah s σ H Q I k
theorem Gh{ce:Expr}{body:List Stmt}{n:Nat}{f:Fl}{g':G}(hp:PassesOwn (model X.prog X.w) X.A X.env X.xe)(h:mW X z ce body n g f g'):fy X z (.While ce body [] pos) g f g':=by
 refine⟨_,En hp S8 nB,λσ As M H E s k=>?_⟩
 refine⟨λm σ2 H2=>∃g2 bf M2,S z g2 σ2 bf M2 H2/\ao M H M2 H2/\mW X z ce body m g2 f g',⟨n,g,As,M,s,ao.refl _ _,h⟩,?_⟩
 rintro m σ2 H2 ⟨g2,bf,M2,s2,aI,w⟩;cases w with
 |done hc=>obtain⟨t,q,kt⟩:=hc;exact⟨t,q,kt σ2 bf M2 H2 _ s2 λH3 ji M3 s3 dX=>mU (k σ2 ji M3 H3 s3 (aI.trans dX))⟩
 |@next m' _ g3 g4 _ _ hc hb w'=>
  obtain⟨t,q,kt⟩:=hc;obtain⟨tb,qb,kb⟩:=hb;refine⟨t,q,kt σ2 bf M2 H2 _ s2 λH3 ji M3 s3 dX=>jt ⟨λσ' H'=>∃g2 bf M2,S z g2 σ' bf M2 H'/\ao M H M2 H'/\mW X z ce body m' g2 f g',λσ' H' hN=>⟨m',mM _,hN⟩,tb,qb,kb σ2 ji M3 H3 _ s3 λσ4 gP M4 H4 s4 qu=>?_⟩⟩
  exact⟨g4,gP,M4,s4,(aI.trans dX).trans qu,w'⟩
 |@cont m' _ g3 g4 _ _ hc hb w'=>
  obtain⟨t,q,kt⟩:=hc;obtain⟨tb,qb,kb⟩:=hb;refine⟨t,q,kt σ2 bf M2 H2 _ s2 λH3 ji M3 s3 dX=>jt ⟨λσ' H'=>∃g2 bf M2,S z g2 σ' bf M2 H'/\ao M H M2 H'/\mW X z ce body m' g2 f g',λσ' H' hN=>⟨m',mM _,hN⟩,tb,qb,kb σ2 ji M3 H3 _ s3 λσ4 gP M4 H4 s4 qu=>?_⟩⟩
  exact⟨g4,gP,M4,s4,(aI.trans dX).trans qu,w'⟩
 |brk hc hb=>obtain⟨t,q,kt⟩:=hc;obtain⟨tb,qb,kb⟩:=hb;exact⟨t,q,kt σ2 bf M2 H2 _ s2 λH3 ji M3 s3 dX=>jt ⟨λ_ _=>False,λσ' H' hN=>hN.elim,tb,qb,kb σ2 ji M3 H3 _ s3 λσ4 gP M4 H4 s4 qu=>k σ4 gP M4 H4 s4 ((aI.trans dX).trans qu)⟩⟩
 |ret hc hb=>obtain⟨t,q,kt⟩:=hc;obtain⟨tb,qb,kb⟩:=hb;exact⟨t,q,kt σ2 bf M2 H2 _ s2 λH3 ji M3 s3 dX=>jt ⟨λ_ _=>False,λσ' H' hN=>hN.elim,tb,qb,kb σ2 ji M3 H3 _ s3 λv σ4 gP M4 H4 s4 qu R=>k v σ4 gP M4 H4 s4 ((aI.trans dX).trans qu) R⟩⟩
noncomputable def Lw:D->Option Bool
 |.bl b=>some b
 |.non=>some false
 |.int i=>some (i != 0)
 |.lst l=>some (!l.isEmpty)
 |.tup l=>some (!l.isEmpty)
 |.fix l=>some (!l.isEmpty)
 |_=>none
end
end Ev
namespace HT
section
theorem iW{t sl:Addr}{aj:Array Value}{vl vu:Value}{lo hi:Option Int}{Q:Value->Shared->Prop}(ht:IsTup s.heap t aj)(hs:s.heap.IsSliceOf sl vl vu .none)(pl:IsPart vl lo)(pu:IsPart vu hi)
  (hw:bL aj.size 0 lo=0/\bL aj.size aj.size hi=aj.size)
  (h:Q (.ref t) s):wpAny (model prog w) A (getItem (.ref t) (.ref sl)) Q E s:=by
 obtain⟨os,hos,hcs,hds⟩:=id hs;have XH:s.TypeIs (.ref sl) "slice" :=⟨os,hos,hcs⟩;unfold getItem
 try with_reducible refine lS ?_
 first |refine aS (d0 ?_) |skip
 refine aS (wpAny_sequenceKey ht.typeIs ⋯ ?_);refine aS (pV (name:=Str.ofString "__getitem__") ht.typeIs nS
  (t7 nS ht.typeIs entry_tuple_getitem ?_ (args_tuple_getitem _ _)))
 show wpAny _ _ (Builtin.Tuple.tupleItemsOf (.ref t) >>= _) _ _ s;refine aS (tupleItemsOf_ ht ?_);refine aS (BY XH ?_);rw[gL ⋯];refine aS (fD hs pl pu ?_);have hyes:(((bL aj.size 0 lo:Nat):Int)==0&&(1:Int)==1&&(bL aj.size aj.size hi - bL aj.size 0 lo)==aj.size)=true:=by rw[hw.1,hw.2];simp
 show wpAny _ _ (if (((bL aj.size 0 lo:Nat):Int)==0&&(1:Int)==1&&(bL aj.size aj.size hi - bL aj.size 0 lo)==aj.size)=true then _ else _) _ _ s
 rw[gL hyes];refine aS (m:=Builtin.Tuple.tupleIsExact _) (aS (BY ht.typeIs (d0 ?_)));rw[gL ⋯];exact aS (Cc (d0 ⟨_,rfl,d0 h⟩))
end
end HT
namespace Ev
open L2
def eL{α:Type}(xs:List α)(lo hi:Option Int):List α:=(xs.drop (HT.bL xs.length 0 lo)).take (HT.bL xs.length xs.length hi - HT.bL xs.length 0 lo)
theorem xW{α:Type}{xs:List α}{lo hi:Option Int}(h:HT.bL xs.length 0 lo=0/\HT.bL xs.length xs.length hi=xs.length):eL xs lo hi=xs:=by unfold eL;rw[h.1,h.2,CL,Nat.sub_zero,List.take_length]
section
variable{lo hi:Option Expr}
def rSlA(K:Frag):V->Option Int->Option Int->Hp->VK->Prop:=λx lo hi H Q=>∃a xs,x=.ref a/\fC K H a xs/\
 ((HT.bL xs.length 0 lo=0/\HT.bL xs.length xs.length hi=xs.length/\Q (.ref a) H)\/(¬ (HT.bL xs.length 0 lo=0/\HT.bL xs.length xs.length hi=xs.length)/\∀p,H p=none->Q (.ref p) (upd H p (.tup (sJ xs lo hi)))))
theorem Lx:SlR X (rSlA X.K):=by
 intro ah s σ H x v vl vu lo hi sl Q I rx hs pl pu h;obtain⟨a,xs,rfl,hx,h⟩:=h;rcases h with ⟨h1,h2,q⟩ |⟨h1,q⟩
 .
  cases rx;obtain⟨its,r,ht,hz⟩:=I.tuple hx;have aL:its.toArray.size=xs.length:=by rw[dE];exact r.length.symm
  refine⟨"tuple",_,PyProof.Rows.slot_tuple_getitem.lookup,ht.typeIs,?_⟩;exact HT.iW ht hs pl pu (by rw[aL];exact⟨h1,h2⟩) ⟨.ref a,H,I,rfl,q⟩
 . exact Rh ah s σ H (.ref a) v vl vu lo hi sl Q I rx hs pl pu ⟨a,xs,rfl,hx,h1,q⟩
def tF(X:Cx)(z:Z)(e:Option Expr)(g:G)(o:Option Int)(g':G):Prop:=
 ∃t,PO X e t/\∀σ As M H (Q:Option Int->Hp->Prop),S z g σ As M H->(∀H' az M',S z g' σ az M' H'->ao M H M' H'->Q o H')->t σ H Q
theorem BG:tF X z none g none g:=⟨_,Kr,λσ As M H Q s k=>k H As M s (ao.refl _ _)⟩
theorem BJ(h:au X z e g (.dat (.int i)) g1):tF X z (some e) g (some i) g1:=by
 obtain⟨t,q,k⟩:=h;refine⟨_,Ks q,λσ As M H Q s kk=>k σ As M H _ s λv H' az M' s' st R=>?_⟩
 have R':Rep z.K M' H' (.int i) v:=R;cases R';exact⟨i,rfl,kk H' az M' s' st⟩
theorem aG.cut{K:Frag}{M:List Addr}{H:Hp}{ds:List D}{vs:List V}(r:aG K M H ds vs)(l u:Option Int):aG K M H (eL ds l u) (sJ vs l u):=by unfold eL sJ;rw[r.length];exact aG.take _ (aG.drop _ r)
theorem BK{r:R}{l:List D}{d:D}{i j:Option Int}(hK:z.K=X.K)(h:au X z a g r g1)(h1:tF X z lo g1 i g2)(h2:tF X z hi g2 j g3)(hp:pk r g3=some (.lst l)):au X z (.Subscript a (.Slice lo hi none p2) pos) g (.new (eL l i j)) g3:=by
 obtain⟨t,q,k⟩:=h;obtain⟨t1,q1,k1⟩:=h1;obtain⟨t2,q2,k2⟩:=h2;refine⟨_,n8 zo q q1 q2,λσ As M H Q s kk=>k σ As M H _ s λv H1 aN M1 s1 cE R=>k1 σ aN M1 H1 _ s1 λH2 bf M2 s2 aI=>k2 σ bf M2 H2 _ s2 λH3 ji M3 s3 dX=>?_⟩
 obtain⟨b,xs,rfl,e1,e2⟩:=(s3.pk (aI.trans dX) R hp).list;refine⟨b,xs,rfl,bN.of e1,λp hp=>?_⟩
 exact kk _ _ ji (p::M3) (s3.aR hp) (((cE.trans aI).trans dX).trans (ao.aR hp)) ⟨p,_,rfl,dL,λhA=>s3.fresh hp (s3.sub p hA),s3.bR hp,aA,(e2.cut i j).stay (ao.aR hp)⟩
theorem BL(hK:z.K=X.K)(h:au X z a g (.dat (.fix l)) g1)(h1:tF X z lo g1 i g2)(h2:tF X z hi g2 j g3):au X z (.Subscript a (.Slice lo hi none p2) pos) g (.new (eL l i j)) g3:=by
 obtain⟨t,q,k⟩:=h;obtain⟨t1,q1,k1⟩:=h1;obtain⟨t2,q2,k2⟩:=h2;refine⟨_,n8 zo q q1 q2,λσ As M H Q s kk=>k σ As M H _ s λv H1 aN M1 s1 cE R=>k1 σ aN M1 H1 _ s1 λH2 bf M2 s2 aI=>k2 σ bf M2 H2 _ s2 λH3 ji M3 s3 dX=>?_⟩
 have R':Rep z.K M3 H3 (.fix l) v:=Rep.stay (aI.trans dX) R;cases R' with
 |@fix _ b xs e1 e2=>
  refine⟨b,xs,rfl,hK▸e1.sq,λp hp=>?_⟩
  exact kk _ _ ji (p::M3) (s3.aR hp) (((cE.trans aI).trans dX).trans (ao.aR hp)) ⟨p,_,rfl,dL,λhA=>s3.fresh hp (s3.sub p hA),s3.bR hp,aA,(e2.cut i j).stay (ao.aR hp)⟩
theorem BP(hK:z.K=X.K)(h:au X z a g (.dat (.tup l)) g1)(h1:tF X z lo g1 i g2)(h2:tF X z hi g2 j g3):au X z (.Subscript a (.Slice lo hi none p2) pos) g (.dat (.tup (eL l i j))) g3:=by
 obtain⟨t,q,k⟩:=h;obtain⟨t1,q1,k1⟩:=h1;obtain⟨t2,q2,k2⟩:=h2;refine⟨_,n8 Lx q q1 q2,λσ As M H Q s kk=>k σ As M H _ s λv H1 aN M1 s1 cE R=>k1 σ aN M1 H1 _ s1 λH2 bf M2 s2 aI=>k2 σ bf M2 H2 _ s2 λH3 ji M3 s3 dX=>?_⟩
 have R':Rep z.K M3 H3 (.tup l) v:=Rep.stay (aI.trans dX) R;cases R' with
 |@tup _ b xs e1 e2=>
  refine⟨b,xs,rfl,hK▸e1.sq,?_⟩;by_cases hw:HT.bL xs.length 0 i=0/\HT.bL xs.length xs.length j=xs.length
  .
   refine .inl ⟨hw.1,hw.2,kk _ _ ji M3 s3 ((cE.trans aI).trans dX) ?_⟩;have e:eL l i j=l:=xW (by rw[e2.length];exact hw)
   rw[e];exact .tup e1 e2
  . exact .inr ⟨hw,λp hp=>kk _ _ ji M3 (s3.laid hp) (((cE.trans aI).trans dX).trans (ao.laid hp)) (.tup (.inl ⟨s3.fresh hp,.inl aA⟩) ((e2.cut i j).stay (ao.laid hp)))⟩
theorem Gi(hK:z.K=X.K)(h:au X z e g r g1)(hp:pk r g1=some d)(hb:Lw d=some b)(he:∀whole,isTrue e X.env whole=(do let v <- whole;standAt e.pos;holding [v] (truthy v))):cC X z e g b g1:=by
 obtain⟨t,q,k⟩:=h;refine⟨_,Es q he,λσ As M H Q s kk=>k σ As M H _ s λv H1 aN M1 s1 cE R=>⟨b,?_,kk H1 aN M1 s1 cE⟩⟩
 have p:=s1.pk (ao.refl _ _) R hp;cases d with
 |non=>rw[p.non];cases hb;rfl
 |bl c=>rw[p.bl];cases hb;rfl
 |int i=>rw[p.int];cases hb;rfl
 |str x=>cases hb
 |emp=>cases hb
 |lg _=>cases hb
 |sV _ _=>cases hb
 |lst l=>obtain⟨a,xs,rfl,e1,e2⟩:=p.list;cases hb;refine .inl ⟨xs,bN.of e1,?_⟩;cases e2 <;> rfl
 |tup l=>obtain⟨a,xs,rfl,e1,e2⟩:=p.tup;cases hb;refine .inr (.inl ⟨xs,hK▸e1.sq,?_⟩);cases e2 <;> rfl
 |fix l=>obtain⟨a,xs,rfl,e1,e2⟩:=p.fix;cases hb;refine .inl ⟨xs,hK▸e1.sq,?_⟩;cases e2 <;> rfl
theorem S9(hn:xU X x i)(hb:i∉z.bor)(h:au X z e g (.dat d2) g1)(hg:g[i]?=some (.dat d1))(ho:mj X z (inplaceOp op) d1 d2 (.dat d)) :
  fy X z (.AugAssign (.Name x pos') op e pos) g .nx (g1.set i (.dat d)):=by
 obtain⟨t,q,k⟩:=h;obtain⟨rr,o,ko⟩:=ho;refine⟨_,Em hn.nd hn.ix hn.lc q (show PIp X op rr from λah s σ H x y v u Q I r1 r2 hq=>o ah s σ H x y v u Q I r1 r2 hq) hn.fn,λσ As M H E s kk=>?_⟩
 obtain⟨v1,e1,r1⟩:=s.sl.u9 hg;refine⟨v1,e1,k σ As M H _ s λv2 H1 aN M1 s1 cE R=>ko g1 σ aN M1 H1 v1 v2 _ s1 (.of (r1.stay cE)) (.of R) λv H2 bf M2 s2 aI R2=>?_⟩
 obtain⟨ji,s3⟩:=s2.g6 (i:=i) hb R2;exact kk _ ji M2 H2 s3 (cE.trans aI)
end
section
theorem Tc(I:L2.Inv X ah σ H s)(p:Pk X.K M H d v)(r:RelV v u):∃Hh,PySem.W.KitX X.K u (DR d) Hh/\Hh s.heap/\u≠.builtin "__main__.__loader__#opaque" :=by
 cases d with
 |non=>have q:=p.non;subst q;cases r;exact⟨_,PySem.W.kitx_none,True.intro,λz=>nomatch z⟩
 |bl y=>have q:=p.bl;subst q;cases r;exact⟨_,PySem.W.kitx_bool,True.intro,λz=>nomatch z⟩
 |int i=>have q:=p.int;subst q;obtain⟨t,rfl⟩:=r;exact⟨_,PySem.W.kitx_int,True.intro,λz=>nomatch z⟩
 |str y=>have q:=p.str;subst q;obtain⟨t,rfl⟩:=r;exact⟨_,PySem.W.kitx_str,True.intro,λz=>nomatch z⟩
 |tup l=>obtain⟨a,xs,rfl,ha,_⟩:=p.tup;cases r;obtain⟨its,_,⟨o,h1,h2,_⟩,_⟩:=I.tuple ha.sq;exact⟨_,PySem.W.kitx_tuple,⟨o,h1,h2⟩,λz=>nomatch z⟩
 |lst l=>obtain⟨a,xs,rfl,ha,_⟩:=p.list;cases r;obtain⟨its,_,pl,_⟩:=I.list (bN.of ha);obtain⟨o,h1,h2,_⟩:=pl.isList;exact⟨_,BQ,⟨o,h1,h2⟩,λz=>nomatch z⟩
 |fix l=>obtain⟨a,xs,rfl,ha,_⟩:=p.fix;cases r;obtain⟨its,_,pl,_⟩:=I.list ha.sq;obtain⟨o,h1,h2,_⟩:=pl.isList;exact⟨_,BQ,⟨o,h1,h2⟩,λz=>nomatch z⟩
 |emp=>
  cases p with
  |of q=>
   cases q with
   |emp _ ha=>cases r;obtain⟨_,_,vs,_,o,es,ep,h1,h2,_⟩:=I.hok _ _ ha;exact⟨_,BS,⟨o,h1,h2.1⟩,λz=>nomatch z⟩
 |lg C=>
  cases p with
  |of q=>
   cases q with
   |lg k _ ha=>cases r;obtain⟨⟨o,h1,h2,h3,h4⟩,_⟩:=I.hok _ _ ha;exact⟨_,vg k,⟨o,h1,h2,h3,by rw[h4];trivial⟩,λz=>nomatch z⟩
 |sV ks ds=>
  cases p with
  |of q=>
   cases q with
   |sV _ ha _ _=>cases r;obtain⟨_,_,vs,_,o,es,ep,h1,h2,_⟩:=I.hok _ _ ha;exact⟨_,BS,⟨o,h1,h2.1⟩,λz=>nomatch z⟩
theorem zC:∀{ns:List String}{us:List Value},Vals (ns.map V.ty) us->us=ns.map Value.type
 | [],_,r=>by rw[List.map_nil]at r;cases r;rfl
 |n::ns,_,r=>by
  rw[List.map_cons]at r;cases r with
  |cons r1 r2=>cases r1;rw[zC r2];rfl
theorem BR:dB X (.builtin "isinstance") (λxs H Q=>∃(x:V) (p:Addr) (ns:List String) (M:List Addr) (d:D) (b:Bool),xs=[x,.ref p]/\Pk X.K M H d x/\fC X.K H p (ns.map V.ty)/\PySem.W.kitAny X.K (DR d) (ns.map Value.type)=some b/\Q (.bl b) H):=by intro ah s σ H xs us Q I r h;obtain⟨x,p,ns,M,d,b,rfl,pk,hp,e,q⟩:=h;obtain⟨u,w',rfl,r1,r2⟩:=vals2 r;cases r2;obtain⟨Hh,Zk,hH,hx⟩:=Tc I pk r1;obtain⟨its,rv,⟨o,h1,h2,n,h3⟩,_⟩:=I.tuple hp;rw[zC rv]at h3;obtain⟨c,dd,dt,sl⟩:=o;have h2':c=.type "tuple" :=h2;have h3':dt=.seq (ns.map Value.type).toArray n:=h3;subst h2' h3';exact PySem.W.kia_tup Zk I.mR hH h1 e hx λtk=>⟨.bl b,H,I.tok tk,rfl,q⟩
structure TyOk(X:Cx)(T:Str)(n:String):Prop where
 gl:Gl X T
 mg:X.mg T=none
 bt:bootBuiltins T=some (.type n)
 nn:T≠ "__name__"
 db:(T==("__debug__":Str))=false
inductive oO(X:Cx):List Expr->List String->Prop
 |nil:oO X [] []
 |cons {T:Str}{n:String}{p:Pos}{es:List Expr}{ns:List String}:TyOk X T n->oO X es ns->oO X (.Name T p::es) (n::ns)
theorem oO.pa(h:oO X es ns):∃t,PA X es t/\∀σ H (Q:List V->Hp->Prop),Q (ns.map V.ty) H->t σ H Q:=by
 induction h with
 |nil=>exact⟨_,gj,λσ H Q q=>q⟩
 |@cons T n p es ns h _ ih=>obtain⟨t,q,k⟩:=ih;have pT:PE X (.Name T p) (tC (.ty n)):=sE h.gl h.mg h.bt rfl h.nn h.db;exact⟨_,bF pT q rfl,λσ H Q hq=>k σ H _ hq⟩
theorem Ly(hK:z.K=X.K)(h:au X z a g r1 g1)(hp:pk r1 g1=some d)(ht:oO X es ns)(hl:ns.length<=16777216)(he:∀M H v,Pk X.K M H d v->PySem.W.kitAny X.K (DR d) (ns.map Value.type)=some b)
  (hg:Gl X "isinstance") (hm:X.mg "isinstance"=none) (hv:bootBuiltins "isinstance"=some (.builtin "isinstance"))
  (hs:starEach [a,.Tuple es k pT] X.env=(false,eval a X.env)::starEach [.Tuple es k pT] X.env):au X z (.Call (.Name "isinstance" p) [a,.Tuple es k pT] [] pos) g (.dat (.bl b)) g1:=by
 obtain⟨t,q,kk⟩:=h;obtain⟨tt,qt,kt⟩:=ht.pa;refine⟨_,gZ BR hg hm hv (bF q (bF (xJ qt) gj) hs) ⋯ ⋯ hs,λσ As M H Q s kq=>kk σ As M H _ s λv H' az M' s' st R=>kt σ H' _ ⟨by rw[d6];exact g7 hl,λa ha=>?_⟩⟩
 have s2:=s'.laid (o:=.tup (ns.map V.ty)) ha;have pp:=s'.pk (ao.refl _ _) R hp;refine⟨v,a,ns,M',d,b,rfl,?_,.inl (.inl aA),he _ _ _ (hK▸pp),kq _ _ az M' s2 (st.trans (ao.laid ha)) (.bl b)⟩;rw[<- hK];cases pp with
 |of r=>exact .of (r.stay (ao.laid ha))
 |lst e1 e2=>exact .lst (by rw[aq (aF e1 ha)];exact e1) (e2.stay (ao.laid ha))
theorem BV(hN:X.N[i]?=some x)(hv:qk X.env.scope x)(hd:(x==("__debug__":Str))=false)(bH:(x==("__classdict__":Str))=false)(hg:g[i]?=some (.own l0))(h:cO X z [e] g [.dat (.lst m)] g1)(JK:g1[i]?=some (.own l))(hl:l.length+m.length<=16777216)
  (hbase:attributeBase (.Name x pn) "extend" X.env (eval (.Name x pn) X.env)=eval (.Name x pn) X.env)
  (hfew:((backTo bh (starEach [e] X.env)).all (λx=>!x.1)&&(backToKw bh (keywordEach [] X.env)).all (λx=>x.1.isSome)
   && decide ([e].length+([]:List Keyword).length+(if ([]:List Keyword).isEmpty then 0 else 1)<30))=true)
  (hline:(bX.endLine==bh.line)=true) (hs:starEach [e] X.env=(false,eval e X.env)::starEach [] X.env):au X z (.Call (.Attribute (.Name x pn) "extend" bX) [e] [] bh) g (.dat .non) (g1.set i (.own (l++m))):=by
 obtain⟨t,q,k⟩:=h;refine⟨_,Fb Bz PySem.F.slot_list_extend PySem.F.type_list_extend Bf (fZ hN hv hd bH) q hbase hfew hline hs rfl,λσ As M H Q s kk=>?_⟩
 obtain⟨a,xs,e1,e2,e3,e4⟩:=s.sl.at hg;refine⟨.ref a,e1,.inl ⟨rfl,xs,bN.of e3⟩,k σ As M H _ s λvs H' az M' s' st R=>?_⟩
 obtain⟨b,ys,f1,f2,f3,f4⟩:=s'.sl.at JK;rw[e1]at f1;injection f1 with f1;injection f1 with f1;injection f1 with f1;subst f1;cases R with
 |dat r R=>
  cases R;cases r with
  |@lst _ c zs hc rr=>
   refine⟨a,c,ys,zs,rfl,rfl,f3,hc.2,by rw[<- f4.length,<- rr.length,mB];exact hl,?_⟩
   obtain⟨s2,aI⟩:=s'.write JK e1 (f4.append rr);exact kk _ _ az M' s2 (st.trans aI) .non
end
noncomputable def ins(a:Int):List Int->List Int
 | []=>[a]
 |b::l=>if a<=b then a::b::l else b::ins a l
def bY:List Int->List Int
 | []=>[]
 |a::l=>ins a (bY l)
theorem oR(a:Int):∀l:List Int,(ins a l).Perm (a::l)
 | []=>AE _
 |b::l=>by
  unfold ins;split
  . exact AE _
  . exact ((oR a l).cons b).trans (List.Perm.swap a b l)
theorem cZ:∀l:List Int,(bY l).Perm l
 | []=>AE _
 |a::l=>(oR a _).trans ((cZ l).cons a)
theorem oU(a:Int):∀{l:List Int},l.Pairwise (· <= ·)->(ins a l).Pairwise (· <= ·)
 | [],_=>List.pairwise_singleton _ _
 |b::l,h=>by
  obtain⟨h1,h2⟩:=y6.mp h;unfold ins;split
  .
   rename_i hab;refine y6.mpr ⟨λx hx=>?_,h⟩
   rcases d5.mp hx with rfl |hx
   . exact hab
   . exact Int.le_trans hab (h1 x hx)
  .
   rename_i hab;refine y6.mpr ⟨λx hx=>?_,oU a h2⟩
   rcases d5.mp ((oR a l).mem_iff.mp hx)with rfl |hx
   . lia
   . exact h1 x hx
theorem j6:∀l:List Int,(bY l).Pairwise (· <= ·)
 | []=>List.Pairwise.nil
 |a::l=>oU a (j6 l)
theorem oV(hp:m.Perm l)(hs:m.Pairwise (· <= ·)):m=bY l:=
 (hp.trans (cZ l).symm).eq_of_pairwise (λx y _ _ h1 h2=>Int.le_antisymm h1 h2) hs (j6 l)
section
theorem fz(hl:IsTup s.heap l vs.toArray)
  (h:Q vs { s with heap:=(s.heap.push (seqObj "list" #[] 0)).update s⁻¹ (Obj.mapSeq (· ++ vs.toArray))}) (jg:vs.length<=sizeLine) :
  wpAny (model prog w) A (collect (.ref l)) Q E s:=by
 obtain⟨o,ho,hc,n,hd⟩:=id hl;unfold collect;refine aS (wpAny_runValue (BA entry_proto_collect' ?_));show wpAny _ _ (do again (.builtin "list.__iadd__" ⟨[<- newList [],.ref l],[]⟩)) _ _ s
 refine aS (BB (d0 ⟨Code.quiet_builtin _ (by decide +kernel),BA entry_list_iadd' ?_⟩))
 show wpAny _ _ (Builtin.List.listExtendWith (.ref s⁻¹) (.ref l) (.ref s⁻¹)) _ _ { s with heap:=s.heap.push (seqObj "list" #[] 0)};unfold Builtin.List.listExtendWith;have ho':(s.heap.push (seqObj "list" #[] 0)).get? l=some o:=bP _ ho;refine aS (BY (T:= "tuple") ⟨o,ho',hc⟩ ?_);have ht:(Value.type "tuple" == Value.type "tuple")=true:=by rfl
 rw[gL (by rw[ht];simp)]
 refine aS (listItems_at ho' hd ?_);refine aS (listItems_at (xs:=#[]) (n:=0) (eA _ rfl) rfl ?_);rw[hZ ⋯];refine aS (listUpdate_at (xs:=#[]) (n:=0) (eA _ rfl) rfl ?_ (wE _) (by show (#[]++vs.toArray).size<=sizeLine+1;simp only[Array.size_append,dE,A7];lia))
 refine d0 ?_;show wpAny (model prog w) A (do
   let o <- load s⁻¹
   match o.data with
   |.seq xs _=>pure xs.toList
   |_=>unsupported "internal:collect") Q E { s with heap:=(s.heap.push (seqObj "list" #[] 0)).update s⁻¹ (Obj.mapSeq (· ++ vs.toArray))}
 refine aS (wpAny_load (get?_update_seq (eA _ rfl) _) ?_);show wpAny _ _ (pure ((#[]:Array Value)++vs.toArray).toList) Q E _;rw[show ((#[]:Array Value)++vs.toArray).toList=vs by simp]
 exact d0 h
theorem tG(hl:IsTup s.heap l vs.toArray)(hI:IntsAre vs ns)(h64:vs.length<64)
  (h:∀(out:Array Value) (ns':List Int),IntsAre out.toList ns'->ns'.Perm ns->ns'.Pairwise (· <= ·)->Q (.ref (s⁻¹+1)) { s with heap:=sortedAll s.heap vs out}) :
  wpAny (model prog w) A (call (.builtin "sorted") [.ref l]) Q E s:=by
 refine Calls.call_function_entry kind_sorted plain_sorted entry_sorted (args_sorted1 _) ?_;unfold Builtin.«sorted»;refine aS (m:=checkCount "sorted" 1 1 _) (d0 ?_);refine aS (fz hl ?_ (by rw[mB];lia))
 refine aS (BB ?_);have jg:((s.heap.push (seqObj "list" #[] 0)).update s⁻¹ (Obj.mapSeq (· ++ vs.toArray))).objs.size=s⁻¹+1:=by rw[B2,size_push']
 have hoL:(((s.heap.push (seqObj "list" #[] 0)).update s⁻¹ (Obj.mapSeq (· ++ vs.toArray))).push (seqObj "list" vs.toArray 0)).get? (s⁻¹+1)=some (seqObj "list" vs.toArray 0):=by rw[<- jg];exact eA _ rfl
 show wpAny _ _ _ _ _ { s with heap:=((s.heap.push (seqObj "list" #[] 0)).update s⁻¹ (Obj.mapSeq (· ++ vs.toArray))).push (seqObj "list" vs.toArray 0)};rw[jg];refine aS (lS (t7 slot_list_sort ⟨_,hoL,rfl⟩ entry_list_sort (list_sort_tree hoL hI h64 λout ns' a1 a2 a3=>⟨_,rfl,?_⟩) (args_list_sort _)))
 exact d0 ⟨_,rfl,h out ns' a1 a2 a3⟩
end
section
theorem vo:dB X (.builtin "sorted") (λxs H Q=>∃p ns,xs=[.ref p]/\(bN X.K H p (ns.map V.int)\/fC X.K H p (ns.map V.int))/\ns.length<64/\∀q,H q=none->Q (.ref q) (upd H q (.lst ((bY ns).map V.int)))):=by
 intro ah s σ H xs us Q I r h;obtain⟨p,ns,rfl,hq,hl,q⟩:=h;obtain⟨u,rfl,rx⟩:=vals1 r;cases rx;have fin:∀(vs:List Value) (out:Array Value) (ns':List Int),IntsAre out.toList ns'->ns'.Perm ns->ns'.Pairwise (· <= ·)->EP X ah σ Q (.ref (s⁻¹+1)) { s with heap:=sortedAll s.heap vs out}:=λvs out ns' a1 a2 a3=>by
  have e:=oV a2 a3;subst e;obtain⟨ep,he⟩:=sortedAll_at s.heap vs out;have aL:(bY ns).length=ns.length:=(cZ ns).length_eq;refine⟨.ref (s⁻¹+1),_,I.laid (t':=s.toks) (o:=.lst ((bY ns).map V.int)) (λb o e=>sortedAll_old e) (AX _) ?_,rfl,q _ (I.hok.fresh (AX _))⟩
  refine⟨by rw[d6,aL,mB];lia,out.toList,ep,iL a1,?_⟩
  rw[he]
 rcases hq with hq |hq
 . obtain⟨its,r',pl,hz⟩:=I.list hq;have aL:=r'.length;rw[d6]at aL;exact sorted_ints pl.isList (intsAre_of r') ⋯ λout ns' a1 a2 a3=>fin its out ns' a1 a2 a3
 . obtain⟨its,r',pl,hz⟩:=I.tuple hq;have aL:=r'.length;rw[d6]at aL;exact tG pl (intsAre_of r') ⋯ λout ns' a1 a2 a3=>fin its out ns' a1 a2 a3
theorem lC{K:Frag}{M:List Addr}{H:Hp}:∀ns:List Int,aG K M H (ns.map D.int) (ns.map V.int)
 | []=>.nil
 |n::ns=>.cons (.int n) (lC ns)
theorem BW(hK:z.K=X.K)(h:cG d=some l)(hi:aW l=some ns)(hl:ns.length<64):CallD X z (.builtin "sorted") [d] (.new ((bY ns).map .int)):=by
 refine⟨_,vo,λg σ As M H vs Q s p k=>?_⟩
 obtain⟨v,rfl,pv⟩:=p.one;have fin:∀q,H q=none->Q (.ref q) (upd H q (.lst ((bY ns).map V.int))):=λq hq=>k _ _ As (q::M) (s.aR hq) (ao.aR hq) ⟨q,_,rfl,dL,λhA=>s.fresh hq (s.sub q hA),s.bR hq,aA,lC _⟩
 cases d with
 |lst m=>cases h;obtain⟨a,xs,rfl,e1,e2⟩:=pv.list;have:=aV e2 hi;subst this;exact⟨a,ns,rfl,.inl (bN.of e1),hl,fin⟩
 |tup m=>cases h;obtain⟨a,xs,rfl,e1,e2⟩:=pv.tup;have:=aV e2 hi;subst this;exact⟨a,ns,rfl,.inr (hK▸e1.sq),hl,fin⟩
 |fix m=>cases h;obtain⟨a,xs,rfl,e1,e2⟩:=pv.fix;have:=aV e2 hi;subst this;exact⟨a,ns,rfl,.inl (hK▸e1.sq),hl,fin⟩
 |_=>cases h
end
section
def Yo(X:Cx)(z:Z)(e:Expr)(g:G)(lo hi:Int)(g1:G):Prop:=
 ∀(ah:List (Addr×Obj)) (s:Shared) (σ:Sg) (As M:List Addr) (H:Hp) (Post:Value->Shared->Prop),L2.Inv X ah σ H s->S z g σ As M H->
  (∀r s1 H1 aN M1 t u v,L2.Inv X ah σ H1 s1->S z g1 σ aN M1 H1->ao M H M1 H1->IsRange s1.heap r lo hi 1 t u v->Post (.ref r) s1)->wpAny (model X.prog X.w) X.A (eval e X.env) Post X.xe s
theorem cO.run(ha:cO X z es g rs g1)(I:L2.Inv X ah σ H s)(st:S z g σ As M H)
  (k:∀vs us s1 H1 aN M1,L2.Inv X ah σ H1 s1->Vals vs us->S z g1 σ aN M1 H1->ao M H M1 H1->jw z σ M1 H1 rs vs->Post us s1):wpAny (model X.prog X.w) X.A (spliced (backTo pos (starEach es X.env))) Post X.xe s:=by
 obtain⟨t,q,kt⟩:=ha;exact bJ (q pos ah s σ H (λvs H1=>∃aN M1,S z g1 σ aN M1 H1/\ao M H M1 H1/\jw z σ M1 H1 rs vs) I (kt σ As M H _ st λvs H1 aN M1 s1 cE R=>⟨aN,M1,s1,cE,R⟩)) λus s1 ⟨vs,H1,I1,r1,aN,M1,q1,q2,q3⟩=>k vs us s1 H1 aN M1 I1 r1 q1 q2 q3
theorem rg_2(h:cO X z [a,b] g [.dat (.int c),.dat (.int j)] g1)(hg:Gl X "range")(hm:X.mg "range"=none)(hs:starEach [a,b] X.env=[(false,eval a X.env),(false,eval b X.env)])(hs2:starEach [b] X.env=[(false,eval b X.env)]):Yo X z (.Call (.Name "range" p) [a,b] [] rp) g c j g1:=by
 intro ah s σ As M H Post I st k;refine Call_ (gi I hg hm boot_range (oP (h.run I st λvs us s1 H1 aN M1 I1 r1 q1 q2 q3=>?_) (by rw[hs,hs2]) (by rw[hs2];rfl)))
 cases q3 with
 |dat r R=>
  cases R with
  |dat r' R=>
   cases R;cases r;cases r';cases r1 with
   |cons r rr=>
    cases rr with
    |cons r' rr=>cases rr;obtain⟨t,rfl⟩:=r;obtain⟨t',rfl⟩:=r';exact call_range_2 (k _ _ H1 aN M1 _ _ _ (I1.kept λb o e=>bP _ e) q1 q2 (IsRange.new ..))
noncomputable def xX(lo:Int)(n:Nat):List V:=(List.range n).map λ(k:Nat)=>V.int (lo+(k:Int))
theorem BX{lo:Int}{n:Nat}{acc:Array Value}(h:ItemsOf (λi v=>∃t,v=Value.int (lo+(i:Int) * 1) t) acc n):Vals (xX lo n) acc.toList:=by
 have key:∀(m:Nat) (l:List Value) (o:Nat),l.length=m->(∀j v,l[j]?=some v->∃t,v=Value.int (lo+((o+j:Nat):Int)) t)->Vals ((List.range' o m).map λ(k:Nat)=>V.int (lo+(k:Int))) l:=by
  intro m
  induction m with
  |zero=>intro l o hl _;cases l with
   |nil=>exact .nil
   |cons _ _=>simp at hl
  |succ m ih=>
   intro l o hl hv;cases l with
   |nil=>simp at hl
   |cons v l=>
    rw[List.range'_succ,List.map_cons];obtain⟨t,e⟩:=hv 0 v rfl;refine .cons ⟨t,by rw[e];rfl⟩ (ih l (o+1) (by simpa using hl) λj w hw=>?_)
    obtain⟨t',e'⟩:=hv (j+1) w (by simpa using hw)
    exact⟨t',by rw[e',show o+(j+1)=o+1+j by lia]⟩
 unfold xX;rw[List.range_eq_range'];refine key n acc.toList 0 (by rw[n0];exact h.1) λj v hv=>?_
 obtain⟨t,e⟩:=h.2 j v (by rw[<- Array.getElem?_toList];exact hv)
 exact⟨t,by rw[e,CF,Int.mul_one]⟩
theorem BZ{K:Frag}{M:List Addr}{H:Hp}(lo:Int)(n:Nat):aG K M H (gK lo n) (xX lo n):=by
 unfold gK xX
 induction List.range n with
 |nil=>exact .nil
 |cons k l ih=>exact .cons (.int _) ih
theorem Gj{e:Expr}{lo hi:Int}(h:Yo X z e g lo hi g1)(hc:X.calm=true)(hg:Gl X "list")(hm:X.mg "list"=none)(hs:starEach [e] X.env=[(false,eval e X.env)])(h1 : -(2 ^ 62)<=lo/\lo<2 ^ 62/\-(2 ^ 62)<=hi/\hi<2 ^ 62)(hl:(hi - lo).toNat<=16777216) :
  au X z (.Call (.Name "list" lp) [e] [] pos) g (.new (gK lo (hi - lo).toNat)) g1:=by
 refine au.of λah s σ As M H Post I st k=>?_
 refine Call_ (gi I hg hm (by rfl:bootBuiltins ("list":Str)=some (.type "list")) (oP ?_ hs rfl))
 rw[hs];show wpAny _ _ (spliced ((false,eval e X.env)::[])) _ _ s;refine Calls.spliced_cons (h ah s σ As M H _ I st λr s1 H1 aN M1 t u v I1 q1 q2 hr=>Calls.spliced_nil ?_)
 have hn:Builtin.Range.rangeSize lo hi 1=(((hi - lo).toNat:Nat):Int):=by rw[rangeSize_one];split <;> lia
 refine call_list_range (I1.ok.hd hc) hr (small_one h1.1 h1.2.1 h1.2.2.1 h1.2.2.2) hn hl λh' tk acc' c' hk hS' hacc=>?_
 have hf:H1 s1⁻¹=none:=I1.hok.fresh (eJ _);have s2:=q1.aR (xs:=xX lo (hi - lo).toNat) hf;have vv:=BX hacc;have I2:L2.Inv X ah σ (upd H1 s1⁻¹ (.lst (xX lo (hi - lo).toNat))) { s1 with heap:=h',toks:=tk}:=
  I1.laid (t':=tk) hk (eJ _) (show cI X.prog X.w _ h' _ (.lst (xX lo (hi - lo).toNat))from⟨by rw[vv.length,n0,hacc.1];exact g7 hl,acc'.toList,c',vv,by simpa using hS'⟩)
 exact k (.ref s1⁻¹) _ _ _ aN (s1⁻¹::M1) I2 rfl s2 (q2.trans (ao.aR hf)) ⟨_,_,rfl,dL,λhA=>q1.fresh hf (q1.sub _ hA),q1.bR hf,aA,BZ _ _⟩
end
section
theorem j7{ns:List Int}{its:List Value}(r:Vals (ns.map V.int) its){i:Nat}{v:Value}(h:its[i]?=some v):∃t,v=.int (ns.getD i 0) t:=by
 have hi:i<ns.length:=by have:=(dC.mp h).1;have e:=r.length;rw[d6]at e;lia
 obtain⟨w,e1,e2⟩:=r.get (i:=i) (x:=V.int ns[i]) (by simp[hi])
 rw[h]at e1;cases e1;obtain⟨t,e⟩:=e2;exact⟨t,by rw[e];simp[List.getD,hi]⟩
theorem Gk(hc:X.calm=true):dB X (.builtin "sum") (λxs H Q=>∃(p:Addr) (ns:List Int),xs=[.ref p]/\(bN X.K H p (ns.map V.int)\/fC X.K H p (ns.map V.int))/\Q (.int ns.sum) H):=by
 intro ah s σ H xs us Q I r h;obtain⟨p,ns,rfl,hp,q⟩:=h;obtain⟨u,rfl,rx⟩:=vals1 r;cases rx;have hh:X.A.in1.handled=none:=I.ok.hd hc;have fin:∀(o:Obj) (s':Shared) (t':Tok) (its:List Value),Vals (ns.map V.int) its->Moved [s⁻¹] (λa b=>b=a) { s with heap:=s.heap.push o} s'->EP X ah σ Q (.int (preSum (λi=>ns.getD i 0) its.toArray.size) t') s':=by
  intro o s' t' its rv hm;obtain⟨h',g',d',tk',os'⟩:=s';obtain⟨m1,m2,m3,m4,m5⟩:=hm;have e1:g'=s.gens:=m2;have e2:d'=s.drawn:=m3;have e3:os'=s.os:=m4;subst e1 e2 e3;have aL:its.length=ns.length:=by rw[<- rv.length,d6]
  have I1:L2.Inv X ah σ H { s with heap:=h',toks:=tk'}:=I.kept λb ob e=>m1 b ob (λhm=>by
   have:b=s⁻¹:=by simpa using hm
   exact absurd (eM e) (by rw[this];exact l9 _)) (bP _ e)
  refine⟨.int ns.sum,H,I1,⟨t',?_⟩,q⟩;rw[preSum_getD,dE,aL,List.take_length]
 rcases hp with hp |hp
 .
  obtain⟨its,rv,pl,hz⟩:=I.list hp;have hlt:p<s⁻¹:=by obtain⟨_,e,_⟩:=pl.isList;exact eM e
  refine call_sum_walkAnyS (At pl.isList ?_);refine⟨s⁻¹,_,_,_,_,_,_,λi=>ns.getD i 0,rfl,(Walks.list (A:=X.A.in1) hh s⁻¹ p (hU hlt) its.toArray).toS,⟨⟨_,eA _ rfl,rfl,rfl⟩,pl.isList.push _⟩,λb hb=>?_,λi v hv=>j7 rv (by simpa using hv),λs' t' hm=>fin _ s' t' its rv hm⟩
  simp only[d5,i7,t8]at hb;rcases hb with rfl |rfl
  . exact t0 (mM _) (nE _ _).symm
  . exact t0 (wS hlt) (nE _ _).symm
 .
  obtain⟨its,rv,pl,hz⟩:=I.tuple hp;have hlt:p<s⁻¹:=by obtain⟨_,e,_⟩:=pl;exact eM e
  have PN:s.heap.IsTuple p its.toArray:=pl;refine call_sum_walkAnyS (yY PN ?_);refine⟨s⁻¹,_,_,_,_,_,_,λi=>ns.getD i 0,rfl,(Walks.tuple (A:=X.A.in1) hh s⁻¹ p (hU hlt) its.toArray).toS,⟨⟨_,eA _ rfl,rfl,rfl⟩,?_⟩,λb hb=>?_,λi v hv=>j7 rv (by simpa using hv),λs' t' hm=>fin _ s' t' its rv hm⟩
  . exact IsTup.keeps PN λb o e=>bP _ e
  .
   simp only[d5,i7,t8]at hb;rcases hb with rfl |rfl
   . exact t0 (mM _) (nE _ _).symm
   . exact t0 (wS hlt) (nE _ _).symm
theorem Td(hc:X.calm=true)(hK:z.K=X.K)(h:cG d=some l)(hi:aW l=some ns):CallD X z (.builtin "sum") [d] (.dat (.int ns.sum)):=by
 refine⟨_,Gk hc,λg σ As M H vs Q s p k=>?_⟩
 obtain⟨v,rfl,pv⟩:=p.one;have fin:Q (.int ns.sum) H:=k _ _ As M s (ao.refl _ _) (.int _);cases d with
 |lst m=>cases h;obtain⟨a,xs,rfl,e1,e2⟩:=pv.list;have:=aV e2 hi;subst this;exact⟨a,ns,rfl,.inl (bN.of e1),fin⟩
 |tup m=>cases h;obtain⟨a,xs,rfl,e1,e2⟩:=pv.tup;have:=aV e2 hi;subst this;exact⟨a,ns,rfl,.inr (hK▸e1.sq),fin⟩
 |fix m=>cases h;obtain⟨a,xs,rfl,e1,e2⟩:=pv.fix;have:=aV e2 hi;subst this;exact⟨a,ns,rfl,.inl (hK▸e1.sq),fin⟩
 |_=>cases h
end
theorem oW(o:Obj)(f):(o.mapFields f).dict=o.dict:=by obtain⟨c,d,dt,sl⟩:=o;cases dt <;> rfl
structure uL(h₀:Heap)(x C:Addr)(H:Hp)(h:Heap):Prop where
 obj:∃oe vs,h.get? x=some oe/\oe.cls=.ref C/\oe.dict=none/\oe.data=.fields vs/\1<vs.size/\(vs[1]?=some .none\/∃T oT ts,vs[1]?=some (.ref T)/\T≠x/\h₀.get? T=none/\H T=none/\h.get? T=some oT/\oT.data=.fields ts/\ts[3]?=some .none)
 new:h₀.get? x=none
 no:H x=none
section
theorem j8
  (hfr:A.frames=some (env::outer)) (hl:s.heap.FunFrames base (env::outer)) (hf:env.frame=some L) (he:s.heap.get? x=some oe) (hd:oe.data=.fields vs) (jg:1<vs.size)
  (h:∀h',(∀b o,b∉frs (env::outer)->b≠x->s.heap.get? b=some o->h'.get? b=some o)->(∀b o,b∈frs (env::outer)->s.heap.get? b=some o->∃sl,h'.get? b=some { o with slots:=sl})->
   (∃DS vs' oT ts,h'.get? x=some DS/\DS.cls=oe.cls/\DS.dict=oe.dict/\DS.data=.fields vs'/\1<vs'.size/\vs'[1]?=some (.ref s⁻¹)/\h'.get? s⁻¹=some oT/\oT.data=.fields ts/\ts[3]?=some .none)->Q () { s with heap:=h'}) :
  wpAny M A (do let a <- frameOf env;let pl <- entryPlaceOf L hadNext;let b <- EntryCells.newEntry head a .none (rawInt L) .none pl;setField (.ref x) 1 b) (λ_ s'=>wpAny M A (setFlight (.ref x) none) Q E s') E s:=by
 have hx:x∉(env::outer).filterMap (·.frame):=λhm=>by
  obtain⟨_,o,ho,hnf⟩:=hl.mem hm;rw[he]at ho;cases ho;exact hnf vs hd
 refine aS (wpAny_frameOf_fun hfr hl hf λh₁ hs₁=>?_)
 refine aS (wpAny_entryPlaceOf λpl dQ=>?_)
 unfold EntryCells.newEntry newFields;refine aS (l7 ?_ (dQ.sizeOk5 _ _ _ _ _));have he₁:h₁.get? x=some oe:=(hs₁.2.1 x hx).trans he;generalize hO:({ cls:=.type "traceback",dict:=none,data:=.fields ([head,.ref L,.none,rawInt L,.none]++(if pl.isEmpty then List.replicate 6 Value.none else pl)).toArray}:Obj)=O
 have he₂:=bP (h:=h₁) O he₁;have hsz₁:h₁.objs.size=s⁻¹:=hs₁.1;have hT₂:(h₁.push O).get? h₁.objs.size=some O:=eA _ (by rw[<- hO];rfl)
 refine AV he₂ hd jg ?_;have Te:h₁.objs.size≠x:=AB (eM he₁);have hd₃:=v6 hd (·.setIfInBounds 1 (Value.ref h₁.objs.size));have he₃:=oQ (Obj.mapFields (·.setIfInBounds 1 (Value.ref h₁.objs.size))) he₂ (y7 hd₃);have hT₃:=(gN (h₁.push O) (Obj.mapFields (·.setIfInBounds 1 (Value.ref h₁.objs.size))) (oI Te)).trans hT₂;have hdO:O.data=.fields ([head,.ref L,.none,rawInt L,.none]++(if pl.isEmpty then List.replicate 6 Value.none else pl)).toArray:=by rw[<- hO]
 unfold setFlight;refine aS (l8 he₃ hd₃ (x:=.ref h₁.objs.size) (by simp[jg]) ?_)
 rw[gL (show (Value.ref h₁.objs.size != Value.none)=true from by simp)]
 refine AV hT₃ hdO (by simp only[dE,fR,l5,A7] <;> lia) (h _ ?_ ?_ ?_)
 . intro b o hb Lz ho;have Yp:h₁.get? b=some o:=(hs₁.2.1 b hb).trans ho;rw[gN _ _ (AB (eM Yp)),gN _ _ (oI Lz)];exact bP _ Yp
 .
  intro b o hb ho;obtain⟨sl,Yp⟩:=hs₁.2.2 b o ho;have Lz:b≠x:=λq=>hx (q▸hb)
  refine⟨sl,?_⟩;rw[gN _ _ (AB (eM Yp)),gN _ _ (oI Lz)];exact bP _ Yp
 .
  rw[<- hsz₁];refine⟨_,_,_,_,(gN _ _ Te).trans he₃,Obj.cls_mapFields _ _,oW _ _,hd₃,by simp[jg],by simp[jg],oQ _ hT₃ (y7 (v6 hdO _)),v6 hdO _,?_⟩
  first
   | (simp;done)
   | (rcases dQ with rfl |⟨_,_,_,_,_,_,_,rfl⟩ <;> simp)
theorem qw
  (hfr:A.frames=some (env::outer)) (hl:s.heap.FunFrames base (env::outer)) (hf:env.frame=some L) (fl:uL h₀ x C H s.heap) (hn:h₀.get? s⁻¹=none) (hH:∀b,s⁻¹<=b->H b=none)
  (h:∀h',(∀b o,b∉frs (env::outer)->(h₀.get? b=none->H b=none->∀vs,o.data≠.fields vs)->s.heap.get? b=some o->h'.get? b=some o)->(∀b o,b∈frs (env::outer)->s.heap.get? b=some o->∃sl,h'.get? b=some { o with slots:=sl})->
   uL h₀ x C H h'->(∀b o,s.heap.get? b=some o->∃o',h'.get? b=some o')->Q () { s with heap:=h'}):wpAny M A (noteFrame (.ref x) env) (λ_ s'=>wpAny M A (setFlight (.ref x) none) Q E s') E s:=by
 obtain⟨⟨oe,vs,he,hc,bH,hd,jg,hT⟩,Wm,Wn⟩:=fl;have hxf:x∉frs (env::outer):=λhm=>by
  obtain⟨_,o,ho,hnf⟩:=hl.mem hm;rw[he]at ho;cases ho;exact hnf vs hd
 have fin:∀(T0:Addr) (h1 h':Heap),(∀b,b≠T0->h1.get? b=s.heap.get? b)->(T0=x\/(h₀.get? T0=none/\H T0=none/\T0∉frs (env::outer)/\∃oT ts,s.heap.get? T0=some oT/\oT.data=.fields ts))->(∀o,s.heap.get? T0=some o->∃o',h1.get? T0=some o')->h1.objs.size=s⁻¹->
   (∀b o,b∉frs (env::outer)->b≠x->h1.get? b=some o->h'.get? b=some o)->(∀b o,b∈frs (env::outer)->h1.get? b=some o->∃sl,h'.get? b=some { o with slots:=sl})->
   (∃DS vs' oT ts,h'.get? x=some DS/\DS.cls=oe.cls/\DS.dict=oe.dict/\DS.data=.fields vs'/\1<vs'.size/\vs'[1]?=some (.ref h1.objs.size)/\h'.get? h1.objs.size=some oT/\oT.data=.fields ts/\ts[3]?=some .none)->Q () { s with heap:=h'}:=by
  intro T0 h1 h' a1 a2 a2' a3 k1 k2 ⟨DS,vs',oT,ts,e1,e2,Fe,e3,e4,e5,e6,e7,e8⟩;have hTf:T0∉frs (env::outer):=a2.elim (λq=>q▸hxf) λq=>q.2.2.1
  refine h h' (λb o hb hH' ho=>?_) (λb o hb ho=>?_) ⟨⟨DS,vs',e1,e2.trans hc,Fe.trans bH,e3,e4,.inr ⟨h1.objs.size,oT,ts,e5,?_,?_,?_,e6,e7,e8⟩⟩,Wm,Wn⟩ λb o ho=>?_
  .
   have Lz:b≠x:=λq=>by
    subst q;rw[he]at ho;cases ho;exact hH' Wm Wn vs hd
   have hbT:b≠T0:=λq=>a2.elim (λz=>Lz (q.trans z)) λ⟨z1,z2,_,oT,ts,z3,z4⟩=>by
    subst q;rw[z3]at ho;cases ho;exact hH' z1 z2 ts z4
   exact k1 b o hb Lz ((a1 b hbT).trans ho)
  . exact k2 b o hb ((a1 b (λq=>hTf (q▸hb))).trans ho)
  . rw[a3];exact AB (eM he)
  . rw[a3];exact hn
  . rw[a3];exact hH _ (eJ _)
  .
   by_cases Lz:b=x
   . exact⟨DS,Lz▸e1⟩
   .
    have h1b:∃o1,h1.get? b=some o1:=by
     by_cases hbT:b=T0
     . subst hbT;exact a2' o ho
     . exact⟨o,(a1 b hbT).trans ho⟩
    obtain⟨o1,PX⟩:=h1b;by_cases hb:b∈frs (env::outer)
    . obtain⟨sl,q⟩:=k2 b o1 hb PX;exact⟨_,q⟩
    . exact⟨o1,k1 b o1 hb Lz PX⟩
 unfold noteFrame;simp only[hf];rcases hT with hT |⟨T,oT,ts,h1,Te,hTn,hTH,JN,JQ,h3⟩
 . refine aS (l8 he hd hT ?_);rw[hZ ⋯];exact j8 hfr hl hf he hd jg λh' k1 k2 k3=>fin x s.heap h' (λ_ _=>rfl) (.inl rfl) (λo ho=>⟨o,ho⟩) rfl k1 k2 k3
 .
  refine aS (l8 he hd h1 ?_);rw[gL (show (Value.ref T != Value.none)=true from by simp)]
  refine aS (l8 JN JQ h3 ?_);rw[hZ (show ¬ ((Value.none==rawInt L)=true)from by simp[rawInt])]
  refine aS (AV JN JQ (xI.mp h3).1 ?_);have other:∀b,b≠T->(s.heap.update T (Obj.mapFields (·.setIfInBounds 3 Value.none))).get? b=s.heap.get? b:=λb hb=>gN _ _ (oI hb)
  have hTf:T∉frs (env::outer):=λhm=>by
   obtain⟨_,o,ho,hnf⟩:=hl.mem hm;rw[JN]at ho;cases ho;exact hnf ts JQ
  have rec':∀b o,s.heap.get? b=some o->(∀vs,o.data≠.fields vs)->b≠T:=λb o hb hnf q=>by
   rw[q,JN]at hb;cases hb;exact hnf ts JQ
  refine j8 hfr (hl.of_keeps λb o hb hnf=>⟨o,(other b (rec' b o hb hnf)).trans hb,rfl⟩) hf ((other x (oI Te)).trans he) hd jg λh' k1 k2 k3=>?_
  exact fin T _ h' other (.inr ⟨hTn,hTH,hTf,oT,ts,JN,JQ⟩) (λo ho=>⟨_,oQ _ JN (y7 (v6 JQ _))⟩) (B2 ..) k1 k2 k3
end
theorem uL.mono(f:uL h₁ x C H h)(hm:∀b o,h₀.get? b=some o->∃o',h₁.get? b=some o'):uL h₀ x C H h:=by
 have no:∀b,h₁.get? b=none->h₀.get? b=none:=λb hb=>by
  cases e:h₀.get? b with
  |none=>rfl
  |some o=>obtain⟨o',e'⟩:=hm b o e;rw[hb]at e';cases e'
 obtain⟨⟨oe,vs,h1,h2,h2',h3,h4,h5⟩,h6,h7⟩:=f;exact⟨⟨oe,vs,h1,h2,h2',h3,h4,h5.imp id λ⟨T,oT,ts,q1,q2,q3,q4⟩=>⟨T,oT,ts,q1,q2,no T q3,q4⟩⟩,no x h6,h7⟩
noncomputable def DT(P:Program)(w:World):Be:=λouter H s E e s'=>∃x C H',e=.ref x/\s'.os=s.os/\AllBare s'.gens/\Un (frs outer) [] H H' s.heap s'.heap/\kO P w H' s'.heap/\uL s.heap x C H' s'.heap/\E (.ref C) none H'
theorem Gm(hx:X.ex=[])(I:L2.Inv X ah σ H s)(h:DT X.prog X.w X.stack H s E e s') :
  ∃x C H',e=.ref x/\L2.Inv X ah σ H' s'/\uL X.s₀.heap x C H' s'.heap/\E (.ref C) none H':=by
 obtain⟨x,C,H',rfl,h1,h2,h3,h4,h5,h6⟩:=h;exact⟨x,C,H',rfl,I.call' h1 h3 h4 h2 (λb z=>absurd z ⋯),h5.mono λb o e=>I.base.there b o e (by rw[hx];simp),h6⟩
section
theorem vq(I:L2.Inv X ah σ H' s')(cA:X.stack=X.env::X.outer)(hf:X.env.frame=some X.env.locals)(hex:X.ex=[])(fl:uL X.s₀.heap x C H' s'.heap)
  (h:∀h'',(∀b o,b∉frs (X.env::X.outer)->(X.s₀.heap.get? b=none->H' b=none->∀vs,o.data≠.fields vs)->s'.heap.get? b=some o->h''.get? b=some o)->(∀b o,b∈frs (X.env::X.outer)->s'.heap.get? b=some o->∃sl,h''.get? b=some { o with slots:=sl})->
   Un (frs X.outer) [] X.H₀ H' X.s₀.heap h''->kO X.prog X.w H' h''->uL X.s₀.heap x C H' h''->Q () { s' with heap:=h''}) :
  wpAny (model X.prog X.w) X.A (noteFrame (.ref x) X.env) (λ_ s2=>wpAny (model X.prog X.w) X.A (setFlight (.ref x) none) Q E' s2) E' s':=by
 have hl:=I.stack;rw[cA]at hl;have ub:Un (frs X.outer) [] X.H₀ H' X.s₀.heap s'.heap:=hex▸I.base;have hsf:=I.sC;rw[cA]at hsf;refine qw (L:=X.env.locals) (I.ok.frames.trans (by rw[cA])) hl hf fl (Heap.get?_none_of_le I.sz) (λb hb=>I.hok.fresh hb) λh'' k1 k2 k3 k4=>?_
 have hin:∀b,b∈frs X.outer->b∈frs (X.env::X.outer):=λb hb=>by
  unfold frs;rw[wT,hf];exact dA _ hb
 have hno:∀b o,X.s₀.heap.get? b=some o->b∉frs X.outer->b∉frs (X.env::X.outer):=λb o ho hb hm=>by
  unfold frs at hm;rw[wT,hf]at hm;rcases d5.mp hm with e |hm
  . rw[e]at ho;exact l9 _ (eQ (eM ho) I.ok.above)
  . exact hb hm
 have hlt:∀b o (ob:Obj),X.s₀.heap.get? b=some o->(X.s₀.heap.get? b=none->H' b=none->∀vs,ob.data≠.fields vs):=λb o ob ho hb=>by rw[ho]at hb;cases hb
 refine h h'' k1 k2 ⟨λb o q n hb hx=>?_,λb o q n hb hx=>?_,ub.free,λb o q hx=>?_,ub.tups,ub.jP,ub.jQ⟩ (λa o e=>?_) k3
 . exact k1 b o (hno b o q hb) (hlt b o _ q) (ub.keep b o q n hb hx)
 . obtain⟨sl,e1⟩:=ub.slot b o q n hb hx;obtain⟨sl',e2⟩:=k2 b _ (hin b hb) e1;exact⟨sl',e2⟩
 . obtain⟨o',e1⟩:=ub.there b o q hx;exact k4 b o' e1
 .
  refine (I.hok a o e).stay (λb u hb q=>?_) (λ_ q=>q) λ_ _ q=>q
  have ht:H' b≠none:=by
   rcases hb with rfl |hb
   . rw[e];simp
   . rw[hb];simp
  exact k1 b u (λhm=>ht (hsf b hm)) (λ_ z=>absurd z ht) q
theorem qY(I:L2.Inv X ah σ H' s')(cA:X.stack=X.env::X.outer)(hf:X.env.frame=some X.env.locals)(hex:X.ex=[])(fl:uL X.s₀.heap x C H' s'.heap)
  (h:∀s'',DT X.prog X.w X.outer X.H₀ X.s₀ (λc o h=>c=.ref C/\o=none/\h=H') (.ref x) s''->Q () s'') :
  wpAny (model X.prog X.w) X.A (leaving X.env (.ref x)) Q E' s':=by
 unfold leaving;exact aS (vq I cA hf hex fl λh'' _ _ u k f=>h _ ⟨x,C,H',rfl,I.os,I.bare,u,k,f,rfl,rfl,rfl⟩)
theorem Ca(I:L2.Inv X [] σ H' s')(hp:X.pn=[])(cA:X.stack=X.env::X.outer)(hf:X.env.frame=some X.env.locals)(hex:X.ex=[])(fl:uL X.s₀.heap x C H' s'.heap)
  (h:∀s'',L2.Inv X [] σ H' s''->uL X.s₀.heap x C H' s''.heap->Q () s'') :
  wpAny (model X.prog X.w) X.A (noteFrame (.ref x) X.env) (λ_ s2=>wpAny (model X.prog X.w) X.A (setFlight (.ref x) none) Q E' s2) E' s':=by
 refine vq I cA hf hex fl λh'' k1 k2 u k f=>h _ ?_ f
 have cellK:∀c v,s'.heap.IsCell c v->h''.IsCell c v:=λc v ⟨o,e,d⟩=>by
  by_cases hb:c∈frs (X.env::X.outer)
  . obtain⟨sl,e2⟩:=k2 c o hb e;exact⟨_,e2,d⟩
  . exact⟨o,k1 c o hb (λ_ _ vs q=>by rw[d]at q;cases q) e,d⟩
 have hlm:X.env.locals∈frs (X.env::X.outer):=by unfold frs;rw[wT,hf];exact dL
 obtain⟨m,hn,hlk⟩:=I.loc;refine⟨I.ok,I.os,I.bare,hex▸u,⟨m,?_,λi y v h1 h2 h3=>?_⟩,λy c e=>?_,I.free,I.dz,λp hp2=>?_,k,I.len⟩
 . obtain⟨o,es,ep,e,d,r⟩:=hn;obtain⟨sl,e2⟩:=k2 _ o hlm e;exact⟨_,es,ep,e2,d,r⟩
 . obtain⟨u,r,q⟩:=hlk i y v h1 h2 h3;refine⟨u,r,q.imp id λ⟨q1,c,q2,q3⟩=>⟨q1,c,q2,cellK c _ q3⟩⟩
 . obtain⟨v,q⟩:=I.cell y c e;exact⟨v,cellK c v q⟩
 . rw[hp]at hp2;cases hp2
end
theorem Gn{P:Program}{w:World}{K:Frag}{mg:Str->Option Value}{base:Heap}{N:List Str}{qual:Str}{scope:Scope}{f:Addr}{cd:Value}{A:Around}{outer:List Env}{s:Shared}{H:Hp}{E:XK}{ah:List (Addr×Obj)}{σ:Sg}{H':Hp}{s':Shared}{x C:Addr}
  (I:L2.Inv (fh (DT P w) P w K mg base N qual scope f cd A outer s H E) ah σ H' s') (fl:uL s.heap x C H' s'.heap) (hE:E (.ref C) none H'):(fh (DT P w) P w K mg base N qual scope f cd A outer s H E).xe (.ref x) s':=
 qY I rfl rfl rfl fl λs'' ⟨y,D,H2,e,h1,h2,h3,h4,h5,e1,e2,e3⟩=>by
  cases e;cases e1;subst e3;exact⟨x,C,H2,rfl,h1,h2,h3,h4,h5,hE⟩
def Acc(X:Cx)(z:Z)(g':G)(M:List Addr)(H:Hp)(C:Addr)(σ:Sg):Prop:=
 ∀ah s1 H1 aN M1 x,L2.Inv X ah σ H1 s1->S z g' σ aN M1 H1->ao M H M1 H1->uL X.s₀.heap x C H1 s1.heap->X.xe (.ref x) s1
def Cb(X:Cx)(z:Z)(g':G)(M:List Addr)(H:Hp)(C:Addr):Prop:=∀σ,Acc X z g' M H C σ
theorem Acc.trans(st:ao M H M1 H1)(h:Acc X z g' M H C σ):Acc X z g' M1 H1 C σ:=λah s1 H2 aN M2 x I s st' fl=>h ah s1 H2 aN M2 x I s (st.trans st') fl
theorem Cb.trans(st:ao M H M1 H1)(h:Cb X z g' M H C):Cb X z g' M1 H1 C:=λσ=>(h σ).trans st
def zD(X:Cx)(z:Z)(e:Expr)(g:G)(C:Addr)(g':G):Prop:=∃t,PE X e t/\∀σ As M H Q,S z g σ As M H->Acc X z g' M H C σ->t σ H Q
def Wo(X:Cx)(z:Z)(e:Expr)(g:G)(C:Addr)(g':G):Prop:=∃t,PT X e t/\∀σ As M H Q,S z g σ As M H->Acc X z g' M H C σ->t σ H Q
def Tf(X:Cx)(z:Z)(es:List Expr)(g:G)(C:Addr)(g':G):Prop:=∃t,PA X es t/\∀σ As M H Q,S z g σ As M H->Acc X z g' M H C σ->t σ H Q
def LC(X:Cx)(z:Z)(st:Stmt)(g:G)(C:Addr)(g':G):Prop:=∃t,PS X st t/\∀σ As M H E,S z g σ As M H->Cb X z g' M H C->t E σ H
def Gp(X:Cx)(z:Z)(jq:List Stmt)(g:G)(C:Addr)(g':G):Prop:=∃t,sD X jq t/\∀σ As M H E,S z g σ As M H->Cb X z g' M H C->t E σ H
section
variable{st:Stmt}
theorem au.lift(h:au X.iS z e g r g'):au X z e g r g':=let ⟨t,q,k⟩:=h;⟨t,q.iS,k⟩
theorem cC.lift(h:cC X.iS z e g v g'):cC X z e g v g':=let ⟨t,q,k⟩:=h;⟨t,q.iS,k⟩
theorem cH.lift(h:cH X.iS z jq g f g'):cH X z jq g f g':=let ⟨t,q,k⟩:=h;⟨t,q.iS,k⟩
theorem Gq(h:zD X z e g C g')(he:∀whole,isTrue e X.env whole=(do let v <- whole;standAt e.pos;holding [v] (truthy v))):Wo X z e g C g':=by obtain⟨t,q,k⟩:=h;exact⟨_,QH q he,λσ As M H Q s ac=>k σ As M H _ s ac⟩
theorem LK(h:Wo X z a g C g'):Wo X z (.UnaryOp .Not a pos) g C g':=by obtain⟨t,q,k⟩:=h;exact⟨_,Ej q,λσ As M H Q s ac=>k σ As M H _ s ac⟩
theorem LQ(h:zD X z e g C g')(hs:starEach (e::es) X.env=(false,eval e X.env)::starEach es X.env):Tf X z (e::es) g C g':=by
 obtain⟨t,q,k⟩:=h;have pn:PA X es (λ_ _ _=>False):=λ_ _ _ _ _ _ _ h=>h.elim
 exact⟨_,bF q pn hs,λσ As M H Q s ac=>k σ As M H _ s ac⟩
theorem LR(h1:au X z e g r g1)(h:Tf X z es g1 C g')(hs:starEach (e::es) X.env=(false,eval e X.env)::starEach es X.env):Tf X z (e::es) g C g':=by obtain⟨t1,q1,k1⟩:=h1;obtain⟨t,q,k⟩:=h;exact⟨_,bF q1 q hs,λσ As M H Q s ac=>k1 σ As M H _ s λv H1 aN M1 s1 cE R1=>k σ aN M1 H1 _ s1 (ac.trans cE)⟩
theorem Ti(h:zD X z e g C g'):LC X z (.Return (some e) pos) g C g':=by obtain⟨t,q,k⟩:=h;exact⟨_,xD q,λσ As M H E s ac=>k σ As M H _ s (ac σ)⟩
theorem LW(h:zD X z e g C g')(hs:swapsWith e none pos.line X.env=pure false):LC X z (.Expr e pos) g C g':=by obtain⟨t,q,k⟩:=h;exact⟨_,sF q hs,λσ As M H E s ac=>k σ As M H _ s (ac σ)⟩
theorem Tj(h:Wo X z c g C g'):LC X z (.If c x y pos) g C g':=by obtain⟨t,q,k⟩:=h;exact⟨_,nW q bz bz,λσ As M H E s ac=>k σ As M H _ s (ac σ)⟩
theorem Gr(h1:cC X z c g v g1)(h:Gp X z (if v then x else y) g1 C g'):LC X z (.If c x y pos) g C g':=by
 obtain⟨t1,q1,k1⟩:=h1;obtain⟨t,q,k⟩:=h;cases v with
 |true=>exact⟨_,nW q1 q bz,λσ As M H E s ac=>k1 σ As M H _ s λH' az M' s' st=>jt (k σ az M' H' _ s' (ac.trans st))⟩
 |false=>exact⟨_,nW q1 bz q,λσ As M H E s ac=>k1 σ As M H _ s λH' az M' s' st=>mU (k σ az M' H' _ s' (ac.trans st))⟩
theorem L0(h:LC X z st g C g'):Gp X z (st::jq) g C g':=by obtain⟨t,q,k⟩:=h;exact⟨_,dY q bz,λσ As M H E s ac=>k σ As M H _ s ac⟩
theorem L1(h1:fy X z st g .nx g1)(h:Gp X z jq g1 C g'):Gp X z (st::jq) g C g':=by obtain⟨t1,q1,k1⟩:=h1;obtain⟨t,q,k⟩:=h;exact⟨_,dY q1 q,λσ As M H E s ac=>k1 σ As M H _ s λσ' az M' H' s' st'=>k σ' az M' H' E s' (ac.trans st')⟩
end
def SpX(K:Frag)(N:List Str)(np:Nat)(run:List Nat->G->Addr->G->Prop):Sp:=λvs H _ E=>
 vs.length=np/\∃(z:Z) (g g':G) (As M:List Addr) (C:Addr),z.K=K/\S z g (L2.start N vs) As M H/\run z.bor g C g'/\∀σ' az M' H',S z g' σ' az M' H'->ao M H M' H'->E (.ref C) none H'
section
variable{run:List Nat->G->Addr->G->Prop}
theorem Tn{P:Program}{w:World}{K:Frag}{mg:Str->Option Value}{base:Heap}{qual:Str}{st:Stmt}(F:JF K x qual st f fd)(Sc:bU N ps (aC st))
  (h:∀(bE:Value) (A:Around) (outer:List Env) (s:Shared) (H:Hp) (E:XK),PySem.W.codeIn K bE qual=true->bQ k (A.deeper (envOfC qual (aC st) s⁻¹ f bE))->
   ∀(z:Z) (g:G) (C:Addr) (g':G),z.K=K->run z.bor g C g'->Gp (fh (DT P w) P w K mg base N qual (aC st) f bE A outer s H E) z (bB st) g C g') :
  iT P w K mg base (DT P w) (k+1) f fd ps (SpX K N ps.length run):=by
 obtain⟨oc,od,kV,doc,pm,an,bE,ct,osl,rfl,lk,bH⟩:=F.ex;refine Pu lk bH Sc (λvs H Q E q=>q.1) λA outer s H vs Q E hr ⟨_,z,g,g',As,M,C,hK,hs,hrun,hQ⟩=>?_
 obtain⟨t,q,kk⟩:=h bE A outer s H E bH hr z g C g' hK hrun;exact⟨t,q,kk _ As M H _ hs λσ ah s1 H1 aN M1 y I s' st' fl=>Gn I fl (hQ σ aN M1 H1 s' st')⟩
theorem L5(F:iT X.prog X.w X.K X.mg X.base (DT X.prog X.w) k f fd ps (SpX X.K N ps.length run))(hK:z.K=X.K)(hex:X.ex=[])(hr:bQ k X.A)(hg:Gl X x)(hm:X.mg x=some (.ref f))(hk:PySem.W.keepIn X.K (.ref f)=true)(hb:L2.Binds X.K fd ps [])
  (ha:cO X z (e::es) g rs g1) (aL:rs.length=ps.length) (hl:dF rs g1=some gs) (nd:((vars 0 rs).map (·.2)).Nodup) (hrun:run ((vars 0 rs).map (·.1)) (dG N.length gs) C gc) (Gb:back (vars 0 rs) gc g1=some gO)
  (gX:(x==("__debug__":Str))=false) (he:starEach (e::es) X.env=(false,eval e X.env)::starEach es X.env) (dQ:(backTo pos (starEach es X.env)).any (·.1)=false) :
  zD X z (.Call (.Name x p) (e::es) [] pos) g C gO:=by
 refine⟨λσ H Q=>∃As M,S z g σ As M H/\Acc X z gO M H C σ,λah s σ H Q I ⟨As,M,hs,ac⟩=>?_,λσ As M H Q s ac=>⟨As,M,s,ac⟩⟩
 refine rV (eU I hg hm ?_ gX);refine AG (h₀:=X.base) I.ok.mod.DP hk (ha.run (pos:=pos) I hs λvs us s1 H1 aN M1 I1 r1 q1 q2 R1=>⟨I1.mR,?_⟩) he dQ
 have hv:vs.length=rs.length:=R1.length;have hl2:(us++[]).length=ps.length:=by rw[nN,<- r1.length,hv,aL]
 have ee:=q1.enter (N:=N) R1 hl nd;refine CU (AY (F.run X.A X.stack s1 H1 ⟨us,[]⟩ (us++[]) (vs++[]) (λ_ _=>False) (λcls _ H'=>cls=.ref C/\∃bf M2,S z gO σ bf M2 H'/\ao M H M2 H') hr I1.Ko (hb s1 us I1.mR hl2) (by rw[nN,nN];exact r1) ?_) λr s' hq=>?_)
 .
  rw[nN];refine⟨by rw[hv,aL],qW z σ M1 H1 rs,dG N.length gs,gc,_,M1,C,hK,ee,by rw[lz];exact hrun,λσ' az M' H' s' st'=>⟨rfl,?_⟩⟩
  obtain⟨M2,s2,aI,_⟩:=q1.leave (r:=.dat .non) (v:=.non) R1 hl nd s' st' .non Gb rfl;exact⟨aN,M2,s2,q2.trans aI⟩
 .
  cases r with
  |error ev=>
   have hq:DT X.prog X.w X.stack H1 s1 (λcls _ H'=>cls=.ref C/\∃bf M2,S z gO σ bf M2 H'/\ao M H M2 H') ev s':=hq
   obtain⟨y,C',H',rfl,I',fl,hC,bf,M2,s2,aI⟩:=Gm hex I1 hq;cases hC;exact ac ah s' H' bf M2 y I' s2 aI fl
  |ok flw=>
   cases flw with
   |ret u=>
    have hq:CE X.stack X.prog X.w H1 s1 (λ_ _=>False) u s':=hq
    obtain⟨_,_,_,_,_,_,_,q⟩:=hq;exact q.elim
   |next=>exact False.elim hq
   |brk=>exact False.elim hq
   |cont=>exact False.elim hq
end
noncomputable def veM:List Value:=[.type "ValueError",.type "Exception",.type "BaseException",.type "object"]
abbrev eS(K:Frag)(C:Addr):Prop:=PySem.W.excIn K C veM "ValueError.__new__"=true
theorem tH{K:Frag}{h:Heap}{C:Addr}(X:K.In h)(q:eS K C) :
  ∃bm N nm qn bs hdct sn sub ab col dd k0 k1 k2 k3 k5 mN,h.get? C=some (excClassObj nm qn C N bs bm hdct sn sub ab col dd k0 k1 k2 k3 k5 "ValueError.__new__")/\h.Ns N mN/\mN "__init__"=none/\OwnTail h veM bm:=by
 unfold eS PySem.W.excIn at q;split at q
 .
  rename_i dd cd sl ho;split at q
  .
   rename_i C' bm k0 k1 k2 k3 n k5 hm hs;simp only[dS,beq_iff_eq,Bool.not_eq_true']at q;obtain⟨⟨⟨⟨⟨rfl,rfl⟩,Yq⟩,ht⟩,hok⟩,hni⟩:=q;obtain⟨nm,bs,mro,ns,qn,hd,sn,sub,ab,col,del⟩:=cd;dsimp only at hm Yq hok hni;subst hm Yq;have hsl:sl = #[k0,k1,k2,k3,some (.builtin "ValueError.__new__"),k5]:=by obtain⟨l⟩:=sl;simp only at hs;rw[hs]
   subst hsl;exact⟨bm,ns,nm,qn,bs,hd,sn,sub,ab,col,dd,k0,k1,k2,k3,k5,_,X _ _ ho,.of_isNs (PySem.W.isNs_of_in X hok),PySem.W.nsMap_none_of_in X hok hni,PySem.W.tail_of_in X ht⟩
  . cases q
 . cases q
theorem vt(x:cI P w H h a o):∃ob,h.get? a=some ob:=by
 induction o with
 |lst xs=>obtain⟨_,_,_,_,e⟩:=x;exact⟨_,e⟩
 |tup xs=>obtain⟨_,_,_,ob,e,_⟩:=x;exact⟨_,e⟩
 |dK dc=>obtain⟨_,_,_,_,o,_,_,e,_⟩:=x;exact⟨_,e⟩
 |dT dc=>obtain⟨_,_,_,_,o,_,_,e,_⟩:=x;exact⟨_,e⟩
 |set S n=>obtain⟨o,_,_,_,e,_⟩:=x;exact⟨_,e⟩
 |ins C dx fs=>obtain⟨_,_,_,e,_⟩:=x;exact⟨_,e⟩
 |own y=>exact x
 |xd fs=>obtain⟨mA,⟨o,_,_,e,_⟩,_⟩:=x;exact⟨_,e⟩
 |rng lo hi=>obtain⟨_,_,_,e⟩:=x;exact⟨_,e⟩
 |cB o u ih=>exact⟨_,x.1⟩
 |kN ps=>exact⟨_,x⟩
 |met f y=>exact⟨_,x⟩
 |ext φ=>exact x.2.1
section
theorem Gs(hc:X.calm=true)(hex:X.ex=[])(hq:eS X.K C)(hg:Gl X x)(hm:X.mg x=some (.ref C))(gX:(x==("__debug__":Str))=false)(ha:cO X z [m] g [.dat d] g1)(hs:starEach [m] X.env=[(false,eval m X.env)]) :
  LC X z (.Raise (some (.Call (.Name x np) [m] [] bh)) none pos) g C g1:=by
 refine⟨λ_ σ H=>∃As M,S z g σ As M H/\Cb X z g1 M H C,λah s σ H E I ⟨As,M,st,ac⟩=>?_,λσ As M H E s ac=>⟨As,M,s,ac⟩⟩
 obtain⟨bm,N,nm,qn,bs,hdct,sn,sub,ab,col,dd,k0,k1,k2,k3,k5,mN,hC,hN,hni,T⟩:=tH I.ok.mod.DP hq;refine wpAny_Raise_call_subU (Bn:= "ValueError") (C:=C) (nm:=nm) (q:=qn) (N:=N) (bs:=bs) (bm:=bm) (hdct:=hdct) (sn:=sn) (sub:=sub) (ab:=ab) (col:=col) (dd:=dd) (k0:=k0) (k1:=k1) (k2:=k2) (k3:=k3) (k5:=k5) PySem.F.excBase_ValueError ⋯ PySem.F.excBase_ValueError (T.hasType ⋯) (I.ok.hd hc) (by rw[hs];rfl) hni (eU I hg hm ⟨rfl,?_⟩ gX)
 rw[hs];refine Calls.evalArgs_plain (x:=eval m X.env) (rest:=[]) ?_;have e1:spliced ((false,eval m X.env)::[])=spliced (backTo bh (starEach [m] X.env)):=by rw[hs];rfl
 rw[e1];refine (ha.run I st λvs us s1 H1 aN M1 I1 r1 q1 q2 R1=>?_)
 refine⟨rfl,?_,I1.bk _ _ hC,hN.keeps I1.bk,T.keeps I1.bk,λh' e hme=>?_⟩
 . show us.length<=sizeLine;have:=r1.length;rw[R1.length]at this;rw[<- this,mB];exact (by decide:(1:Nat)<=16777216)
 .
  have I2:L2.Inv X ah σ H1 { s1 with heap:=h'}:=I1.kept (t':=s1.toks) hme.keeps;have qI:H1 e=none:=by
   cases q:H1 e with
   |none=>rfl
   |some o=>obtain⟨ob,ho⟩:=vt (I1.hok e o q);have hn:=hme.new;rw[ho]at hn;cases hn
  refine ac σ ah _ H1 aN M1 e I2 q1 q2 ?_;obtain⟨t,ht,_,_⟩:=hme.there;refine⟨⟨_,_,ht,rfl,rfl,rfl,by simp,.inl ⋯⟩,?_,qI⟩
  cases q:X.s₀.heap.get? e with
  |none=>rfl
  |some o=>
   obtain⟨ob,ho⟩:=I1.base.there e o q (by rw[hex];simp)
   have hn:=hme.new;rw[ho]at hn;cases hn
end
section
inductive vA(X:Cx)(z:Z):Str->List Expr->G->Str->G->Prop
 |nil {out:Str}{g:G}:vA X z out [] g out g
 |con {out y r:Str}{j:Nat}{p:Pos}{es:List Expr}{g g':G}:(out++y).length<=16777216->vA X z (out++y) es g r g'->vA X z out (.Constant (.str y) j p::es) g r g'
 |int {out r:Str}{i:Int}{v:Expr}{p:Pos}{es:List Expr}{g g1 g':G}:au X z v g (.dat (.int i)) g1->i.natAbs.log2<1920->(out++(toString i:Str)).length<=16777216->vA X z (out++(toString i:Str)) es g1 r g'->vA X z out (.FormattedValue v (-1) none p::es) g r g'
theorem Tp(h:vA X z out es g r g'):out.length<=16777216->∀(ah:List (Addr×Obj)) (s:Shared) (σ:Sg) (As M:List Addr) (H:Hp) (Post:Value->Shared->Prop),L2.Inv X ah σ H s->S z g σ As M H->
  (∀t s1 H1 aN M1,L2.Inv X ah σ H1 s1->S z g' σ aN M1 H1->ao M H M1 H1->Post (.str r t) s1)->wpAny (model X.prog X.w) X.A (joinParts out (evalEach es X.env)) Post X.xe s:=by
 induction h with
 |@nil out g=>intro hl ah s σ As M H Post I st k;exact joinParts_nil (k _ _ H As M (I.tok _) st (ao.refl _ _)) (g7 hl)
 |@con out y r j p es g g' hl' _ ih=>intro hl ah s σ As M H Post I st k;show wpAny _ _ (joinParts out (eval (.Constant (.str y) j p) X.env::evalEach es X.env)) _ _ s;refine joinParts_cons (Calls.Constant_str ⟨g7 hl',?_⟩);exact ih hl' ah _ σ As M H Post (I.tok _) st k
 |@int out r i v p es g g1 g' he hd hl' _ ih=>
  intro hl ah s σ As M H Post I st k;show wpAny _ _ (joinParts out (eval (.FormattedValue v (-1) none p) X.env::evalEach es X.env)) _ _ s;refine joinParts_cons (FormattedValue_plain (he.run I st λw u s1 H1 aN M1 I1 r1 q1 q2 q3=>?_))
  have q3':Rep z.K M1 H1 (.int i) w:=q3;cases q3';obtain⟨t,rfl⟩:=r1;refine formatField_int_small hd ?_;exact⟨g7 hl',ih hl' ah _ σ aN M1 H1 Post (I1.tok _) q1 λt s2 H2 bf M2 I2 p1 p2=>k t s2 H2 bf M2 I2 p1 (q2.trans p2)⟩
theorem nD(h:vA X z Str.empty (e1::e2::es) g r g'):au X z (.JoinedStr (e1::e2::es) pos) g (.dat (.str r)) g':=
 au.of λah s σ As M H Post I st k=>JoinedStr_many (Tp h ⋯ ah s σ As M H Post I st λt s1 H1 aN M1 I1 q1 q2=>k (.str r) (.str r t) s1 H1 aN M1 I1 ⟨t,rfl⟩ q1 q2 (.str r))
end
section
theorem eF{x:Str}{id:String}(h:Tf X z (e::es) g C g')(hg:Gl X x)(hm:X.mg x=none)(hv:bootBuiltins x=some (.builtin id))(hn:x≠ "__name__")(gX:(x==("__debug__":Str))=false)
  (he:starEach (e::es) X.env=(false,eval e X.env)::starEach es X.env) (dQ:(backTo pos (starEach es X.env)).any (·.1)=false):zD X z (.Call (.Name x p) (e::es) [] pos) g C g':=by
 obtain⟨t,q,k⟩:=h;exact⟨_,gZ (r:=λ_ _ _=>False) (λ_ _ _ _ _ _ _ _ _ h=>h.elim) hg hm hv q hn gX he dQ,λσ As M H Q s ac=>k σ As M H _ s ac⟩
theorem lD(h:Tf X z (e::es) g C g')(hg:Gl X x)(hm:X.mg x=none)(hv:bootBuiltins x=some (.type T))(hn:x≠ "__name__")(gX:(x==("__debug__":Str))=false)
  (he:starEach (e::es) X.env=(false,eval e X.env)::starEach es X.env) (dQ:(backTo pos (starEach es X.env)).any (·.1)=false):zD X z (.Call (.Name x p) (e::es) [] pos) g C g':=by
 obtain⟨t,q,k⟩:=h;exact⟨_,qR (r:=λ_ _ _=>False) (λ_ _ _ _ _ _ _ _ _ h=>h.elim) hg hm hv q hn gX he dQ,λσ As M H Q s ac=>k σ As M H _ s ac⟩
theorem Gu(F:iT X.prog X.w X.K X.mg X.base uI k f fd ps sp)(h:Tf X z (e::es) g C g')(hr:bQ k X.A)(hg:Gl X x)(hm:X.mg x=some (.ref f))(hk:PySem.W.keepIn X.K (.ref f)=true)(hb:L2.Binds X.K fd ps [])
  (gX:(x==("__debug__":Str))=false) (he:starEach (e::es) X.env=(false,eval e X.env)::starEach es X.env) (dQ:(backTo pos (starEach es X.env)).any (·.1)=false):zD X z (.Call (.Name x p) (e::es) [] pos) g C g':=by
 obtain⟨t,q,kk⟩:=h;exact⟨_,zc F hr hg hm hk hb .nil Pw q gX he dQ,λσ As M H Q s ac=>kk σ As M H _ s ac⟩
inductive gq(X:Cx)(z:Z)(body:List Stmt)(T:Tg)(C:Addr):List D->G->G->Prop
 |here {d:D}{l:List D}{g g0 g':G}:T.set d g=some g0->Gp X z body g0 C g'->gq X z body T C (d::l) g g'
 |next {d:D}{l:List D}{g g0 g1 g':G}:T.set d g=some g0->cH X z body g0 .nx g1->gq X z body T C l g1 g'->gq X z body T C (d::l) g g'
 |cont {d:D}{l:List D}{g g0 g1 g':G}:T.set d g=some g0->cH X z body g0 .ct g1->gq X z body T C l g1 g'->gq X z body T C (d::l) g g'
theorem Tq(hp:PassesOwn (model X.prog X.w) X.A X.env X.xe)(hc:X.calm=true)(hw:cX X z tg iter g aj g1)(ht:eu X z tg T)(hb:gq X z body T C aj g1 g')(hs:∀y,foldedSetIterable iter X.env y=pure y) :
  LC X z (.For tg iter body [] pos) g C g':=by
 obtain⟨wi,q,k⟩:=hw;obtain⟨t,qt,kt⟩:=ht;refine⟨_,xG hp hc q qt nB hs,λσ As M H E s ac=>k σ As M H _ s λJ H1 aN M1 s1 cE hJ=>?_⟩
 refine⟨λi m σ2 H2=>i+m=aj.length/\∃g2 bf M2,S z g2 σ2 bf M2 H2/\ao M1 H1 M2 H2/\gq X z body T C (aj.drop i) g2 g',⟨aj.length,by lia,g1,aN,M1,s1,ao.refl _ _,by simpa using hb⟩,?_⟩
 rintro i m σ2 H2 ⟨Wk,g2,bf,M2,s2,aI,lo⟩;obtain⟨hgo,hstop⟩:=hJ M2 H2 aI;cases e:aj[i]? with
 |none=>
  have hi:i=aj.length:=by have:=nK.mp e;lia
  subst hi;rw[AD]at lo;cases lo
 |some d=>
  obtain⟨go,yl⟩:=hgo i d e;rw[drop_cons e]at lo;have hi:i<aj.length:=(dC.mp e).1;refine .inr ⟨go,λσ' H'=>∃g3 ji M3,S z g3 σ' ji M3 H'/\ao M1 H1 M3 H'/\gq X z body T C (aj.drop (i+1)) g3 g',λσ' H' ⟨g3,ji,M3,w1,w2,w3⟩=>⟨m - 1,by lia,by lia,g3,ji,M3,w1,w2,w3⟩,λx H' hx=>?_⟩
  obtain⟨s3,dX,rx⟩:=yl x H' hx z g2 σ2 bf rfl s2;have Bw:=aI.trans dX;cases lo with
  |here e0 b=>
   refine kt d g2 _ e0 x σ2 bf M2 H' _ s3 rx λσ' az s' _=>?_
   obtain⟨t,q,kb⟩:=b;exact⟨t,q,kb _ az M2 H' _ s' (ac.trans (cE.trans Bw))⟩
  |next e0 b h=>
   refine kt d g2 _ e0 x σ2 bf M2 H' _ s3 rx λσ' az s' _=>?_
   obtain⟨t,q,kb⟩:=b;exact⟨t,q,kb _ az M2 H' _ s' λσ4 gP M4 H4 s4 qu=>⟨_,gP,M4,s4,Bw.trans qu,h⟩⟩
  |cont e0 b h=>
   refine kt d g2 _ e0 x σ2 bf M2 H' _ s3 rx λσ' az s' _=>?_
   obtain⟨t,q,kb⟩:=b;exact⟨t,q,kb _ az M2 H' _ s' λσ4 gP M4 H4 s4 qu=>⟨_,gP,M4,s4,Bw.trans qu,h⟩⟩
theorem L7(hp:PassesOwn (model X.prog X.w) X.A X.env X.xe)(hc:X.calm=true)(h:zD X z iter g C g')(hs:∀y,foldedSetIterable iter X.env y=pure y):LC X z (.For tg iter body [] pos) g C g':=by obtain⟨t,q,kk⟩:=h;exact⟨_,xG hp hc (nj q) (g9 (X:=X) (tg:=tg)) nB hs,λσ As M H E s ac=>kk σ As M H _ s (ac σ)⟩
end
open PySem PySem.W PyProof.Rows
noncomputable def gQ{α:Type}(lt:Nat->Nat->Bool):KasT α->α
 |.ret a=>a
 |.ask i j k=>gQ lt (k (lt i j))
theorem dU{α β:Type}(lt:Nat->Nat->Bool)(f:α->KasT β):∀t:KasT α,gQ lt (t.bind f)=gQ lt (f (gQ lt t))
 |.ret _=>rfl
 |.ask i j k=>dU lt f (k (lt i j))
structure j9(α:Type) where
 lt:α->α->Bool
 irr:∀a,lt a a=false
 tr:∀a b c,lt a b=true->lt b c=true->lt a c=true
 tot:∀a b,lt a b=false->lt b a=false->a=b
namespace j9
variable{α:Type}(O:j9 α)
def le(a b:α):Prop:=O.lt b a=false
variable{O}
theorem le_refl(a:α):O.le a a:=O.irr a
theorem le_of_lt(h:O.lt a b=true):O.le a b:=by
 unfold le;cases e:O.lt b a
 . rfl
 . have:=O.tr _ _ _ h e;rw[O.irr]at this;cases this
theorem qZ(h1:O.le a b)(h2:O.le b c):O.le a c:=by
 unfold le at *;cases e:O.lt c a with
 |false=>rfl
 |true=>
  exfalso;cases e1:O.lt a b with
  |true=>have:=O.tr _ _ _ e e1;rw[h2]at this;cases this
  |false=>have hab:=O.tot a b e1 h1;subst hab;rw[h2]at e;cases e
theorem zE(h1:O.le a b)(h2:O.le b a):a=b:=O.tot a b h2 h1
end j9
section
variable{α:Type}
noncomputable def dg(key:Nat->α)(p:Array Nat)(i:Nat):α:=key (p.getD i 0)
def iX(O:j9 α)(key:Nat->α)(p:Array Nat)(n:Nat):Prop:=∀i j,i<=j->j<n->O.le (dg key p i) (dg key p j)
def ig(O:j9 α)(key:Nat->α)(p:Array Nat)(n:Nat):Prop:=∀i j,i<=j->j<n->O.le (dg key p j) (dg key p i)
noncomputable def nF(O:j9 α)(key:Nat->α)(i j:Nat):Bool:=O.lt (key i) (key j)
theorem getD_some{p q:Array Nat}{i j:Nat}(h:p[i]?=q[j]?):p.getD i 0=q.getD j 0:=by rw[w9,w9,h]
theorem nG{p:Array Nat}{i j:Nat}(hj:j<=p.size)(k:Nat):dg key (kas_rev p i j) k=if i<=k/\k<j then dg key p (i+j - 1 - k)else dg key p k:=by
 have e:=getElem?_mirror_all (i:=i) hj k;unfold dg kas_rev;split
 . rename_i h;rw[gL h]at e;rw[getD_some e]
 . rename_i h;rw[hZ h]at e;rw[getD_some e]
theorem L8{p:Array Nat}{src d:Nat}(hs:src<p.size)(hd:d<=src)(k:Nat):dg key (bubble p src d) k=if k=src - d then dg key p src else if src - d<k/\k<=src then dg key p (k - 1)else dg key p k:=by
 have e:=getElem?_bubble hs d hd k;unfold dg;by_cases h1:k=src - d
 . rw[gL h1]at e ⊢;rw[getD_some e]
 .
  rw[hZ h1]at e ⊢
  by_cases h2:src - d<k/\k<=src
  . rw[gL h2]at e ⊢;rw[getD_some e]
  . rw[hZ h2]at e ⊢;rw[getD_some e]
theorem iX.ext(h:iX O key p n)(hl:O.lt (dg key p n) (dg key p (n - 1))=false)(h1:1<=n):iX O key p (n+1):=by
 intro i j hij hj;by_cases e:j<n
 . exact h i j hij e
 .
  have:j=n:=by lia
  subst this;by_cases e2:i=j
  . subst e2;exact j9.le_refl _
  . exact j9.qZ (h i (j - 1) ⋯ ⋯) hl
theorem xY:∀(f n:Nat),1<=n->iX O key p n->∃m,gQ (nF O key) (kas_asc p f n)=m/\n<=m/\m<=n+f/\iX O key p m/\(m<n+f->O.lt (dg key p m) (dg key p (m - 1))=true)
 | 0,n,_,h=>⟨n,rfl,eJ _,eJ _,h,λz=>absurd z (l9 _)⟩
 |f+1,n,h1,h=>by
  unfold kas_asc;show ∃m,gQ (nF O key) (if nF O key (p.getD n 0) (p.getD (n - 1) 0)=true then KasT.ret n else kas_asc p f (n+1))=m/\_
  cases e:nF O key (p.getD n 0) (p.getD (n - 1) 0)with
  |true=>exact⟨n,rfl,eJ _,by lia,h,λ_=>e⟩
  |false=>obtain⟨m,q1,q2,q3,q4,q5⟩:=xY f (n+1) ⋯ (h.ext e h1);exact⟨m,q1,by lia,by lia,q4,λz=>q5 ⋯⟩
theorem ig.ext(h:ig O key p n)(hl:O.le (dg key p n) (dg key p (n - 1)))(h1:1<=n):ig O key p (n+1):=by
 intro i j hij hj;by_cases e:j<n
 . exact h i j hij e
 .
  have:j=n:=by lia
  subst this;by_cases e2:i=j
  . subst e2;exact j9.le_refl _
  . exact j9.qZ hl (h i (j - 1) ⋯ ⋯)
theorem ig.Tr(h:ig O key p n)(hk:∀k,dg key p' k=dg key p k):ig O key p' n:=λi j a b=>by rw[hk,hk];exact h i j a b
def Yr(key:Nat->α)(p:Array Nat)(n q:Nat):Prop:=q+1<=n/\∀k,n - (q+1)<=k->k<n->dg key p k=dg key p (n - 1)
theorem zF(h:Yr key p n q)(hz:n<=p.size)(k:Nat):dg key (kas_rev p (n - (q+1)) n) k=dg key p k:=by
 rw[nG hz];split
 . rename_i hk;have hq:=h.1;rw[h.2 k hk.1 hk.2,h.2 (n - (q+1)+n - 1 - k) ⋯ ⋯]
 . rfl
theorem nI:∀(f:Nat) (p:Array Nat) (n q:Nat),1<=n->n+f<=p.size->ig O key p n->Yr key p n q->
  ∃p' m q',gQ (nF O key) (kas_desc f p n q)=(p',m,q')/\p'.Perm p/\n<=m/\m<=n+f/\ig O key p' m/\Yr key p' m q'
 | 0,p,n,q,_,_,h,hq=>⟨p,n,q,rfl,BC _,eJ _,eJ _,h,hq⟩
 |f+1,p,n,q,h1,hz,h,hq=>by
  unfold kas_desc;show ∃p' m q',gQ (nF O key) (if nF O key (p.getD n 0) (p.getD (n - 1) 0)=true then (if q > 0 then kas_desc f (kas_rev p (n - (q+1)) n) (n+1) 0 else kas_desc f p (n+1) 0)
   else .ask (p.getD (n - 1) 0) (p.getD n 0) λd=>if d=true then .ret (p,n,q)else kas_desc f p (n+1) (q+1))=(p',m,q')/\_
  cases e:nF O key (p.getD n 0) (p.getD (n - 1) 0)with
  |true=>
   rw[gL rfl];have hl:O.le (dg key p n) (dg key p (n - 1)):=j9.le_of_lt e;have one:∀p':Array Nat,Yr key p' (n+1) 0:=λp'=>⟨by lia,λk a b=>by have:k=n:=⋯;subst this;rfl⟩
   by_cases hq0:q > 0
   .
    rw[gL hq0];have hk:=zF hq (by lia:n<=p.size)
    have hF:ig O key (kas_rev p (n - (q+1)) n) (n+1):=(h.ext hl h1).Tr hk;obtain⟨p',m,q',r1,r2,r3,r4,r5,r6⟩:=nI f (kas_rev p (n - (q+1)) n) (n+1) 0 ⋯ (by rw[kas_rev_size];lia) hF (one _)
    exact⟨p',m,q',r1,r2.trans (mirror_perm _ _ _ _),by lia,by lia,r5,r6⟩
   . rw[hZ hq0];obtain⟨p',m,q',r1,r2,r3,r4,r5,r6⟩:=nI f p (n+1) 0 ⋯ ⋯ (h.ext hl h1) (one _);exact⟨p',m,q',r1,r2,by lia,by lia,r5,r6⟩
  |false=>
   rw[hZ i5];show ∃p' m q',gQ (nF O key) (if nF O key (p.getD (n - 1) 0) (p.getD n 0)=true then .ret (p,n,q)else kas_desc f p (n+1) (q+1))=(p',m,q')/\_
   cases e2:nF O key (p.getD (n - 1) 0) (p.getD n 0)with
   |true=>exact⟨p,n,q,rfl,BC _,eJ _,by lia,h,hq⟩
   |false=>
    rw[hZ i5];have he:dg key p n=dg key p (n - 1):=O.tot _ _ e e2;have hq':Yr key p (n+1) (q+1):=⟨by have:=hq.1;lia,λk a b=>by
     show dg key p k=dg key p n;by_cases hk:k=n
     . subst hk;rfl
     .
      rw[he];exact hq.2 k ⋯ ⋯⟩
    obtain⟨p',m,q',r1,r2,r3,r4,r5,r6⟩:=nI f p (n+1) (q+1) ⋯ ⋯ (h.ext (by rw[he];exact j9.le_refl _) h1) hq'
    exact⟨p',m,q',r1,r2,by lia,by lia,r5,r6⟩
theorem Gv(h:ig O key p n)(hz:n<=p.size):iX O key (kas_rev p 0 n) n:=λi j a b=>by
 rw[nG hz,nG hz,gL ⟨by lia,by lia⟩,gL ⟨by lia,by lia⟩]
 exact h _ _ ⋯ ⋯
theorem vB(h1:1<=n)(hn:n<=nrem)(hz:nrem<=p.size)(h:ig O key p n):∃m p',gQ (nF O key) (kas_tail3 n nrem p)=(m,p')/\p'.Perm p/\1<=m/\m<=nrem/\iX O key p' m:=by unfold kas_tail3;rw[dU];obtain⟨m,q1,q2,q3,q4,_⟩:=xY (O:=O) (key:=key) (p:=kas_rev p 0 n) (nrem - n) n h1 (Gv h ⋯);rw[q1];exact⟨m,_,rfl,mirror_perm _ _ _ _,by lia,by lia,q4⟩
theorem mC(h1:1<=n)(hn:n+1<=nrem)(hz:nrem<=p.size)(h:ig O key p (n+1)):∃m p',gQ (nF O key) (kas_descPart n nrem p)=(m,p')/\p'.Perm p/\1<=m/\m<=nrem/\iX O key p' m:=by
 unfold kas_descPart;rw[dU];obtain⟨p',m,q',r1,r2,r3,r4,r5,r6⟩:=nI (O:=O) (key:=key) (nrem - (n+1)) p (n+1) 0 ⋯ ⋯ h ⟨by lia,λk a b=>by have:k=n:=⋯;subst this;rfl⟩
 rw[r1];dsimp only;have hs:p'.size=p.size:=r2.size_eq;by_cases hq:q' > 0
 .
  rw[gL hq];have hk:=zF r6 (by lia:m<=p'.size)
  obtain⟨m',p2,s1,s2,s3,s4,s5⟩:=vB (nrem:=nrem) ⋯ ⋯ (by rw[kas_rev_size];lia) (r5.Tr hk)
  exact⟨m',p2,s1,(s2.trans (mirror_perm _ _ _ _)).trans r2,s3,s4,s5⟩
 . rw[hZ hq];obtain⟨m',p2,s1,s2,s3,s4,s5⟩:=vB (nrem:=nrem) ⋯ ⋯ ⋯ r5;exact⟨m',p2,s1,s2.trans r2,s3,s4,s5⟩
theorem Gw(h1:1<=n)(hz:n<=p.size):∃m p',gQ (nF O key) (kas_count n p)=(m,p')/\p'.Perm p/\1<=m/\m<=n/\iX O key p' m:=by
 unfold kas_count;rw[dU];obtain⟨m,q1,q2,q3,q4,q5⟩:=xY (O:=O) (key:=key) (p:=p) (n - 1) 1 (eJ _) (λi j a b=>by have e1:i=0:=⋯;have e2:j=0:=⋯;subst e1;subst e2;exact j9.le_refl _)
 rw[q1];by_cases e1:(m==n)=true
 . rw[gL e1];exact⟨m,p,rfl,BC _,q2,by lia,q4⟩
 .
  rw[hZ e1];have hm:m<n:=by
   have:m≠n:=λz=>e1 (by rw[z];exact B1 _)
   lia
  have hlt:=q5 ⋯;by_cases e2:m > 1
  .
   rw[gL e2];show ∃m' p',gQ (nF O key) (if nF O key (p.getD 0 0) (p.getD (m - 1) 0)=true then KasT.ret (m,p)else kas_descPart m n (kas_rev p 0 m))=(m',p')/\_
   cases e3:nF O key (p.getD 0 0) (p.getD (m - 1) 0)with
   |true=>exact⟨m,p,rfl,BC _,q2,by lia,q4⟩
   |false=>
    rw[hZ i5];have eq0:∀k,k<m->dg key p k=dg key p (m - 1):=λk hk=>by
     refine j9.zE (O:=O) (q4 k (m - 1) ⋯ ⋯) ?_;exact j9.qZ (show O.le (dg key p (m - 1)) (dg key p 0)from e3) (q4 0 k ⋯ hk)
    have hk:∀k,dg key (kas_rev p 0 m) k=dg key p k:=λk=>by
     rw[nG ⋯];split
     . rw[eq0 _ ⋯,eq0 k ⋯]
     . rfl
    have hF:ig O key (kas_rev p 0 m) (m+1):=by
     refine ig.Tr (p:=p) (ig.ext (λi j a b=>?_) (j9.le_of_lt hlt) ⋯) hk
     rw[eq0 i ⋯,eq0 j b];exact j9.le_refl _
    obtain⟨m',p2,s1,s2,s3,s4,s5⟩:=mC (O:=O) (key:=key) (p:=kas_rev p 0 m) q2 (by lia:m+1<=n) (by rw[kas_rev_size];exact hz) hF
    exact⟨m',p2,s1,s2.trans (mirror_perm _ _ _ _),s3,s4,s5⟩
  .
   rw[hZ e2];have hF:ig O key p (m+1):=ig.ext (λi j a b=>by have e1:i=0:=⋯;have e2:j=0:=⋯;subst e1;subst e2;exact j9.le_refl _) (j9.le_of_lt hlt) q2
   exact mC q2 ⋯ hz hF
theorem oX(hR:iX O key p k):∀(f l r:Nat),l<=r->r<=k->r - l<=f->(∀i,i<l->O.le (dg key p i) (dg key p k))->(∀i,r<=i->i<k->O.lt (dg key p k) (dg key p i)=true)->
  ∃m,gQ (nF O key) (kas_place p k f l r)=m/\m<=k/\(∀i,i<m->O.le (dg key p i) (dg key p k))/\∀i,m<=i->i<k->O.lt (dg key p k) (dg key p i)=true
 | 0,l,r,h1,h2,h3,h4,h5=>⟨l,rfl,by lia,h4,λi a b=>h5 i ⋯ b⟩
 |f+1,l,r,h1,h2,h3,h4,h5=>by
  unfold kas_place;by_cases e:l ≥ r
  . rw[gL e];exact⟨l,rfl,by lia,h4,λi a b=>h5 i ⋯ b⟩
  .
   rw[hZ e];show ∃m,gQ (nF O key) (if nF O key (p.getD k 0) (p.getD ((l+r) / 2) 0)=true then kas_place p k f l ((l+r) / 2)else kas_place p k f ((l+r) / 2+1) r)=m/\_
   cases e2:nF O key (p.getD k 0) (p.getD ((l+r) / 2) 0)with
   |true=>
    rw[gL rfl];refine oX hR f l ((l+r) / 2) ⋯ ⋯ ⋯ h4 λi a b=>?_
    by_cases hi:r<=i
    . exact h5 i hi b
    .
     have q:O.le (dg key p ((l+r) / 2)) (dg key p i):=hR _ _ a b;cases e3:O.lt (dg key p k) (dg key p i)with
     |true=>rfl
     |false=>
      have:=j9.qZ q (show O.le (dg key p i) (dg key p k)from e3)
      have Fe:O.lt (dg key p k) (dg key p ((l+r) / 2))=true:=e2;unfold j9.le at this;rw[this]at Fe;cases Fe
   |false=>
    rw[hZ i5];refine oX hR f ((l+r) / 2+1) r ⋯ h2 ⋯ (λi a=>?_) h5
    exact j9.qZ (hR i ((l+r) / 2) ⋯ ⋯) e2
theorem Gx:∀(f:Nat) (p:Array Nat) (k:Nat),k+f<=p.size->iX O key p k->∃p',gQ (nF O key) (kas_bin f p k)=p'/\p'.Perm p/\iX O key p' (k+f)
 | 0,p,k,_,h=>⟨p,rfl,BC _,h⟩
 |f+1,p,k,hz,h=>by
  unfold kas_bin;rw[dU];obtain⟨l,q1,q2,q3,q4⟩:=oX h k 0 k (wE _) (eJ _) ⋯ (λi a=>absurd a (Bi _)) (λi a b=>absurd (Nat.lt_of_le_of_lt a b) (l9 _))
  rw[q1];have hk:=λi=>L8 (key:=key) (p:=p) (src:=k) (d:=k - l) ⋯ ⋯ i
  have hR:iX O key (bubble p k (k - l)) (k+1):=λi j a b=>by
   rw[hk,hk];have e:k - (k - l)=l:=by lia
   rw[e];by_cases i1:i=l
   .
    rw[gL i1];by_cases j1:j=l
    . rw[gL j1];exact j9.le_refl _
    .
     rw[hZ j1,gL ⟨by lia,by lia⟩]
     exact j9.le_of_lt (q4 (j - 1) ⋯ ⋯)
   .
    rw[hZ i1];by_cases i2:l<i/\i<=k
    .
     rw[gL i2,hZ ⋯,gL ⟨by lia,by lia⟩]
     exact h _ _ ⋯ ⋯
    .
     rw[hZ i2];by_cases j1:j=l
     . rw[gL j1];exact q3 i ⋯
     .
      rw[hZ j1];by_cases j2:l<j/\j<=k
      . rw[gL j2];exact h _ _ ⋯ ⋯
      . rw[hZ j2];exact h _ _ a ⋯
  obtain⟨p',s1,s2,s3⟩:=Gx f (bubble p k (k - l)) (k+1) (by rw[bubble_size];lia) hR
  exact⟨p',s1,s2.trans (bubble_perm _ _ _),by rw[show k+(f+1)=k+1+f by lia];exact s3⟩
theorem Ma(h1:1<=n):∃p,gQ (nF O key) (kas_sort n)=p/\p.Perm (List.range n).toArray/\iX O key p n:=by
 unfold kas_sort;rw[dU];obtain⟨m,p,q1,q2,q3,q4,q5⟩:=Gw (O:=O) (key:=key) (p:=(List.range n).toArray) h1 ⋯;rw[q1];dsimp only;have hs:p.size=n:=by rw[q2.size_eq];simp
 have e:max m 1=m:=by lia
 rw[e];by_cases hm:m<n
 . rw[gL hm];obtain⟨p',s1,s2,s3⟩:=Gx (O:=O) (key:=key) (n - m) p m ⋯ q5;exact⟨p',s1,s2.trans q2,by rw[show m+(n - m)=n by lia]at s3;exact s3⟩
 .
  rw[hZ hm];have:m=n:=by lia
  subst this;exact⟨p,rfl,q2,q5⟩
end
noncomputable def zG{α:Type}(n:Nat)(P:α->Prop):KasT α->Prop
 |.ret a=>P a
 |.ask i j k=>i<n/\j<n/\∀b,zG n P (k b)
theorem zG.bind{α β:Type}{n:Nat}{P:α->Prop}{Q:β->Prop}{f:α->KasT β}:∀{t:KasT α},zG n P t->(∀a,P a->zG n Q (f a))->zG n Q (t.bind f)
 |.ret a,h,hf=>hf a h
 |.ask _ _ _,h,hf=>⟨h.1,h.2.1,λb=>(h.2.2 b).bind hf⟩
theorem vC{α:Type}{n:Nat}{P:α->Prop}{lt:Nat->Nat->Bool}{cmp:Nat->Nat->(Bool->Shared->Prop)->Shared->Prop}{Q:α->Shared->Prop}{s:Shared}(hc:∀i j C,i<n->j<n->C (lt i j) s->cmp i j C s):∀t:KasT α,zG n P t->Q (gQ lt t) s->t.kasWp cmp Q s
 |.ret _,_,h=>h
 |.ask i j k,ok,h=>hc i j _ ok.1 ok.2.1 (vC hc (k (lt i j)) (ok.2.2 _) h)
def oY(n:Nat)(p:Array Nat):Prop:=0<n/\∀x∈p.toList,x<n
theorem oY.at(h:oY n p)(i:Nat):p.getD i 0<n:=by
 rw[w9];cases e:p[i]? with
 |none=>exact h.1
 |some x=>exact h.2 x (by rw[xI]at e;obtain⟨hi,rfl⟩:=e;simp)
theorem oY.perm(h:oY n p)(e:p'.Perm p):oY n p':=⟨h.1,λx hx=>h.2 x ((AU.mp e).mem_iff.mp hx)⟩
theorem oY.rev(h:oY n p)(i j:Nat):oY n (kas_rev p i j):=h.perm (mirror_perm _ _ _ _)
theorem oY.bub(h:oY n p)(i j:Nat):oY n (bubble p i j):=h.perm (bubble_perm _ _ _)
section
theorem xZ(h:oY N p):∀f n,zG N (λ_=>True) (kas_asc p f n)
 | 0,_=>trivial
 |f+1,n=>⟨h.at _,h.at _,λb=>by cases b <;> first |exact trivial |exact xZ h f (n+1)⟩
theorem nJ:∀f p n q,oY N p->zG N (λr=>oY N r.1) (kas_desc f p n q)
 | 0,_,_,_,h=>h
 |f+1,p,n,q,h=>by
  refine⟨h.at _,h.at _,λb=>?_⟩
  dsimp only;cases b with
  |true=>
   rw[gL rfl];by_cases hq:q > 0
   . rw[gL hq];exact nJ f _ _ _ (h.rev _ _)
   . rw[hZ hq];exact nJ f _ _ _ h
  |false=>
   rw[hZ i5];refine⟨h.at _,h.at _,λd=>?_⟩
   cases d with
   |true=>exact h
   |false=>exact nJ f _ _ _ h
theorem vD{p:Array Nat}{n nrem:Nat}(h:oY N p):zG N (λr=>oY N r.2) (kas_tail3 n nrem p):=(xZ (h.rev 0 n) _ _).bind λ_ _=>h.rev 0 n
theorem mF{p:Array Nat}{n nrem:Nat}(h:oY N p):zG N (λr=>oY N r.2) (kas_descPart n nrem p):=by
 refine (nJ _ _ _ _ h).bind λr hr=>?_
 by_cases hq:r.2.2 > 0
 . rw[gL hq];exact vD (oY.rev hr _ _)
 . rw[hZ hq];exact vD hr
theorem Gy{p:Array Nat}{n:Nat}(h:oY N p):zG N (λr=>oY N r.2) (kas_count n p):=by
 refine (xZ h _ _).bind λm _=>?_
 by_cases e1:(m==n)=true
 . rw[gL e1];exact h
 .
  rw[hZ e1];by_cases e2:m > 1
  .
   rw[gL e2];refine⟨h.at _,h.at _,λb=>?_⟩
   cases b with
   |true=>exact h
   |false=>exact mF (h.rev _ _)
  . rw[hZ e2];exact mF h
theorem oZ(h:oY N p):∀f l r,zG N (λ_=>True) (kas_place p k f l r)
 | 0,_,_=>trivial
 |f+1,l,r=>by
  unfold kas_place;by_cases e:l ≥ r
  . rw[gL e];exact trivial
  .
   rw[hZ e];refine⟨h.at _,h.at _,λb=>?_⟩
   cases b with
   |true=>exact oZ h f _ _
   |false=>exact oZ h f _ _
theorem Gz:∀f p k,oY N p->zG N (λ_=>True) (kas_bin f p k)
 | 0,_,_,_=>trivial
 |f+1,p,k,h=>(oZ h _ _ _).bind λl _=>Gz f _ _ (h.bub _ _)
theorem Mf{n:Nat}(h:0<n):zG n (λ_=>True) (kas_sort n):=by
 refine (Gy (p:=(List.range n).toArray) ⟨h,λx hx=>by simpa using hx⟩).bind λr hr=>?_
 by_cases e:r.1<n
 . rw[gL e];exact Gz _ _ _ hr
 . rw[hZ e];exact trivial
end
open L2 PySem.W
section
variable{α:Type}{key:Nat->α}
noncomputable def c7(s:Shared)(a:Addr)(vs:List Value):Shared:={ s with heap:=((s.heap.update a (Obj.mapSeq λ_=>#[])).push (seqObj "tuple" vs.toArray 0)).push (seqObj "list" #[] 0)}
theorem vE(hb:b≠a)(h:s.heap.get? b=some o):(c7 s a vs).heap.get? b=some o:=
 bP _ (bP _ ((gN s.heap _ hb.symm).trans h))
theorem GC(ho:s.heap.get? a=some (seqObj "list" vs.toArray n))(h2:2<=vs.length)(h64:vs.length<64)
  (hk:∀Q:SortKind->Shared->Prop,Q κ (c7 s a vs)->wpAny (model prog w) A (keyKind' vs.toArray) Q (λ_ _=>False) (c7 s a vs))
  (hc:∀i j C,i<vs.length->j<vs.length->C (nF O key i j) (c7 s a vs)->kas_ask prog w A κ vs i j C (c7 s a vs))
  (h:∀p:Array Nat,p.Perm (List.range vs.length).toArray->iX O key p vs.length->P (.done (.ret .none)) { s with heap:=sortedHeap s.heap a vs (p.toList.map λi=>vs.getD i Value.none).toArray}) :
  wpAny (model prog w) A (Builtin.«list.sort» ⟨[.ref a],[]⟩) P E s:=by
 obtain⟨e1,PX⟩:∃e1,(s.heap.update a (Obj.mapSeq λ_=>#[])).get? a=some (seqObj "list" #[] e1):=⟨_,get?_update_seq ho (λ_=>#[])⟩
 have Ys:(c7 s a vs).heap.get? a=some (seqObj "list" #[] e1):=bP _ (bP _ PX);have hz:vs.length<=sizeLine:=(by rw[mB];lia)
 rw[list_sort_plain];refine aS (listItems_at ho rfl (aS (listUpdate_at ho rfl (aS (seqEpoch_at PX rfl (aS (wpAny_newTuple (aS (BB (lS ?_) (wE _))) (by show vs.length<=_;exact hz))))) (by simpa using hz) (wE _))))
 show wpAny (model prog w) A _ P E (c7 s a vs);have hn : ¬ vs.toArray.size<2:=by rw[dE];lia
 dsimp only;rw[hZ hn,hZ hn];refine aS (i9 (hk (λk s0=>k=κ/\s0=c7 s a vs) ⟨rfl,rfl⟩) ?_ λ_ _ z=>z.elim)
 rintro _ _ ⟨rfl,rfl⟩;obtain⟨p0,q1,q2,q3⟩:=Ma (O:=O) (key:=key) (n:=vs.length) ⋯;refine aS (i9 (kat_run (ks:=vs) (vs:=vs) (E:=E) (Q:=λst' s'=>s'=c7 s a vs/\failedOf st'=none/\(arrOf st').map (·.2)=(p0.toList.map λi=>vs.getD i Value.none).toArray) (G:=λp s'=>s'=c7 s a vs/\p=p0)
  rfl h2 h64 (λp st' s' _ har hf hg=>?_) (vC hc _ (Mf ⋯) ⟨rfl,q1⟩)) ?_ λ_ _ z=>z)
 . obtain⟨rfl,rfl⟩:=hg;exact⟨rfl,hf,kat_snds rfl har⟩
 .
  rintro⟨⟨⟩,st'⟩ s' ⟨rfl,hf,hout⟩;dsimp only at hf hout ⊢
  have aL:(p0.toList.map λi=>vs.getD i Value.none).length=vs.length:=by rw[d6,n0,q2.size_eq];simp
  rw[hout];refine aS (seqEpoch_at Ys rfl (aS (listUpdate_at Ys rfl ?_ (wE _) (by show (List.toArray _).size<=_;rw[dE,aL];lia))))
  rw[hf];simp only[bne_self_eq_false,AH,CD];exact d0 (h p0 q2 q3)
theorem zH{β:Type}:∀l:List β,(l.zip l).map (·.2)=l
 | []=>rfl
 |x::l=>by rw[y0,List.map_cons,zH l]
theorem GD(ho:s.heap.get? a=some (seqObj "list" vs.toArray n))(h2:vs.length<2)
  (h:P (.done (.ret .none)) { s with heap:=sortedHeap s.heap a vs vs.toArray}):wpAny (model prog w) A (Builtin.«list.sort» ⟨[.ref a],[]⟩) P E s:=by
 obtain⟨e1,PX⟩:∃e1,(s.heap.update a (Obj.mapSeq λ_=>#[])).get? a=some (seqObj "list" #[] e1):=⟨_,get?_update_seq ho (λ_=>#[])⟩
 have Ys:(c7 s a vs).heap.get? a=some (seqObj "list" #[] e1):=bP _ (bP _ PX);have hz:vs.length<=sizeLine:=(by rw[mB];lia)
 rw[list_sort_plain];refine aS (listItems_at ho rfl (aS (listUpdate_at ho rfl (aS (seqEpoch_at PX rfl (aS (wpAny_newTuple (aS (BB (lS ?_) (wE _))) (by show vs.length<=_;exact hz))))) (by simpa using hz) (wE _))))
 show wpAny (model prog w) A _ P E (c7 s a vs);have hn:vs.toArray.size<2:=by rw[dE];lia
 dsimp only;rw[gL hn,gL hn];refine aS (d0 ?_);rw[StateT.run_pure];refine aS (d0 ?_);dsimp only;have hout:(arrOf (SortSt.mk' general' (vs.toArray.zip vs.toArray) #[] 7 none)).map (·.2)=vs.toArray:=by show (vs.toArray.zip vs.toArray).map (·.2)=vs.toArray;apply Array.toList_inj.mp;simp only[Array.toList_map,Array.toList_zip,List.toList_toArray];exact zH vs
 rw[hout];refine aS (seqEpoch_at Ys rfl (aS (listUpdate_at Ys rfl ?_ (wE _) (by show vs.toArray.size<=_;rw[dE];lia))))
 show wpAny _ _ (if (e1 != e1)=true then _ else _) _ _ _
 rw[hZ ⋯];exact d0 h
noncomputable def GF(h:Heap)(vs:List Value):Heap:=((h.push (seqObj "list" #[] 0)).update h.objs.size (Obj.mapSeq (· ++ vs.toArray))).push (seqObj "list" vs.toArray 0)
theorem rm(h:Heap)(vs:List Value):((h.push (seqObj "list" #[] 0)).update h.objs.size (Obj.mapSeq (· ++ vs.toArray))).objs.size=h.objs.size+1:=(B2 ..).trans (size_push' ..)
theorem tK(h:Heap)(vs:List Value):(GF h vs).get? (h.objs.size+1)=some (seqObj "list" vs.toArray 0):=by have:=eA ((h.push (seqObj "list" #[] 0)).update h.objs.size (Obj.mapSeq (· ++ vs.toArray))) (o:=seqObj "list" vs.toArray 0) rfl;rw[rm]at this;exact this
theorem vF(e:h.get? b=some o):(GF h vs).get? b=some o/\b≠h.objs.size+1:=by have hb:b<h.objs.size:=eM e;refine⟨bP _ ?_,hU (wS hb)⟩;rw[gN _ _ (AB hb)];exact bP _ e
theorem Cd(hl:s.heap.IsList l vs.toArray\/IsTup s.heap l vs.toArray)(hz:vs.length<=sizeLine)
  (h:wpAny (model prog w) A.in1.in1 (Builtin.«list.sort» ⟨[.ref (s⁻¹+1)],[]⟩) (λf s'=>f=.done (.ret .none)/\Q (.ref (s⁻¹+1)) s') E { s with heap:=GF s.heap vs}) :
  wpAny (model prog w) A (call (.builtin "sorted") [.ref l]) Q E s:=by
 refine Calls.call_function_entry kind_sorted plain_sorted entry_sorted (args_sorted1 _) ?_;unfold Builtin.«sorted»;have go:wpAny (model prog w) A.in1 (collect (.ref l)) (λvs' s'=>vs'=vs/\s'={ s with heap:=(s.heap.push (seqObj "list" #[] 0)).update s⁻¹ (Obj.mapSeq (· ++ vs.toArray))}) E s:=by
  rcases hl with hl |hl
  . exact collect_list hl ⟨rfl,rfl⟩ hz
  . exact fz hl ⟨rfl,rfl⟩ hz
 refine aS (m:=checkCount "sorted" 1 1 _) (d0 (aS (i9 go ?_ λ_ _ z=>z)))
 rintro _ _ ⟨rfl,rfl⟩;refine aS (BB ?_ hz);show wpAny _ _ _ _ _ { s with heap:=GF s.heap _};rw[rm];refine aS (lS (t7 slot_list_sort ⟨_,tK _ _,rfl⟩ entry_list_sort (i9 h (λf s' hf=>⟨_,hf.1,?_⟩) λ_ _ z=>z) (args_list_sort _)))
 exact d0 ⟨_,rfl,hf.2⟩
end
theorem rq:∀a:List Int,HT.lexLt a a=false
 | []=>rfl
 |x::a=>by rw[HT.cV,gL rfl,rq a]
theorem vG:∀a b c:List Int,HT.lexLt a b=true->HT.lexLt b c=true->HT.lexLt a c=true
 | [],[],_,h,_=>by cases h
 |_::_,[],_,h,_=>by cases h
 |_,_::_,[],_,h=>by cases h
 | [],_::_,_::_,_,_=>rfl
 |x::a,y::b,z::c,h1,h2=>by
  rw[HT.cV]at h1 h2 ⊢
  by_cases e1:x=y
  .
   rw[gL e1]at h1;subst e1;by_cases e2:x=z
   .
    rw[gL e2]at h2 ⊢
    exact vG a b c h1 h2
   .
    rw[hZ e2]at h2 ⊢
    exact h2
  .
   rw[hZ e1]at h1;have Wq:=kA h1;by_cases e2:y=z
   . rw[gL e2]at h2;subst e2;rw[hZ e1];exact h1
   . rw[hZ e2]at h2;have h2':=kA h2;rw[hZ ⋯];exact oD ⋯
theorem rz:∀a b:List Int,HT.lexLt a b=false->HT.lexLt b a=false->a=b
 | [],[],_,_=>rfl
 | [],_::_,h,_=>by cases h
 |_::_,[],_,h=>by cases h
 |x::a,y::b,h1,h2=>by
  rw[HT.cV]at h1 h2;by_cases e:x=y
  . subst e;rw[gL rfl]at h1 h2;rw[rz a b h1 h2]
  .
   rw[hZ e]at h1;rw[hZ (λz=>e z.symm)]at h2
   have:=BD h1;have:=BD h2;lia
def yc:j9 (List Int):=⟨HT.lexLt,rq,vG,rz⟩
section
variable{α:Type}(O:j9 α)
noncomputable def Ce(a:α):List α->List α
 | []=>[a]
 |b::l=>if O.lt b a then b::Ce a l else a::b::l
def iu:List α->List α
 | []=>[]
 |a::l=>Ce O a (iu l)
variable{O}
theorem lE(a:α):∀l:List α,(Ce O a l).Perm (a::l)
 | []=>AE _
 |b::l=>by
  unfold Ce;split
  . exact ((lE a l).cons b).trans (List.Perm.swap a b l)
  . exact AE _
theorem o7:∀l:List α,(iu O l).Perm l
 | []=>AE _
 |a::l=>(lE a _).trans ((o7 l).cons a)
theorem mG(a:α):∀{l:List α},l.Pairwise O.le->(Ce O a l).Pairwise O.le
 | [],_=>List.pairwise_singleton _ _
 |b::l,h=>by
  obtain⟨h1,h2⟩:=y6.mp h;unfold Ce;cases e:O.lt b a with
  |true=>
   rw[gL rfl];refine y6.mpr ⟨λx hx=>?_,mG a h2⟩
   rcases d5.mp ((lE a l).mem_iff.mp hx)with rfl |hx
   . exact j9.le_of_lt e
   . exact h1 x hx
  |false=>
   rw[hZ i5];refine y6.mpr ⟨λx hx=>?_,h⟩
   rcases d5.mp hx with rfl |hx
   . exact e
   . exact j9.qZ (show O.le a b from e) (h1 x hx)
theorem ki:∀l:List α,(iu O l).Pairwise O.le
 | []=>List.Pairwise.nil
 |a::l=>mG a (ki l)
theorem yd(hp:m.Perm l)(hs:m.Pairwise O.le):m=iu O l:=
 (hp.trans (o7 l).symm).eq_of_pairwise (λx y _ _ h1 h2=>j9.zE h1 h2) hs (ki l)
theorem eG{β:Type}(ks:List β)(d:β):(List.range ks.length).map (λi=>ks.getD i d)=ks:=by
 refine List.ext_getElem ⋯ λi h1 h2=>?_
 simp[tJ h2]
theorem vH(hp:p.Perm (List.range ks.length).toArray)(hr:iX O (λi=>ks.getD i d) p ks.length):p.toList.map (λi=>ks.getD i d)=iu O ks:=by
 have hl:=AU.mp hp;refine yd ((hl.map _).trans (by rw[List.toList_toArray,eG])) ?_
 rw[List.pairwise_iff_getElem];intro i j hi hj hij;have hs:p.size=ks.length:=by rw[hp.size_eq];simp
 rw[d6,n0]at hi hj;have:=hr i j (CC hij) ⋯;unfold dg at this;have e1:p.getD i 0=p[i]:=by simp[Array.getD,hi]
 have e2:p.getD j 0=p[j]:=by simp[Array.getD,hj]
 rw[e1,e2]at this;simpa using this
end
open L2 PySem.W
section
theorem GJ(hv:IntsAre vs ns):∀{ws:List Value}{ms:List Int} (i:Nat),IntsAre ws ms->fin=decide (ns.length<ms.length)->Q (HT.lexLt ns ms) s->KatLex prog w A true fin Q (vs.zip ws) i s:=by
 induction hv with
 |nil=>
  intro ws ms i hu hf h;rw[List.zip_nil_left];refine kat_nil ?_;rw[hf];cases hu with
  |nil=>exact h
  |cons _=>exact h
 |@cons n t vs ns hv ih=>
  intro ws ms i hu hf h;cases hu with
  |nil=>rw[List.zip_nil_right];refine kat_nil ?_;rw[hf];exact h
  |@cons m t' us ms hu=>
   rw[y0];refine kat_cons (wpAny_eqBool_int (kat_go (λe=>?_) (λe=>?_)))
   .
    have e':n=m:=eq_of_beq e;refine kat_yes (ih (i+1) hu (by rw[hf];simp) ?_)
    rw[HT.cV,gL e']at h;exact h
   .
    have e':n≠m:=λq=>by rw[q]at e;simp at e
    rw[HT.cV,hZ e']at h;refine kat_no ?_;cases i with
    |zero=>exact oneLt_int h
    |succ i=>exact kat_one _ _ (lt_int h)
def GK(h:Heap)(v:Value)(ns:List Int):Prop:=∃a aj,v=.ref a/\IsTup h a aj/\IntsAre aj.toList ns
theorem GK.keep(x:GK h v ns)(k:∀b o,h.get? b=some o->h'.get? b=some o):GK h' v ns:=let ⟨a,its,e,t,i⟩:=x;⟨a,its,e,t.keeps k,i⟩
inductive TupIs(h:Heap):List Value->List (List Int)->Prop
 |nil:TupIs h [] []
 |cons {v:Value}{ns:List Int}{vs:List Value}{dw:List (List Int)}:GK h v ns->TupIs h vs dw->TupIs h (v::vs) (ns::dw)
theorem TupIs.keep(k:∀b o,h.get? b=some o->h'.get? b=some o)(t:TupIs h vs dw):TupIs h' vs dw:=by
 induction t with
 |nil=>exact .nil
 |cons a b ih=>exact .cons (a.keep k) ih
theorem TupIs.length(t:TupIs h vs dw):vs.length=dw.length:=by
 induction t with
 |nil=>rfl
 |cons a b ih=>exact congrArg (· + 1) ih
theorem TupIs.at(t:TupIs h vs dw)(hi:i<vs.length):GK h (vs.getD i .none) (dw.getD i []):=by
 induction t generalizing i with
 |nil=>exact absurd hi (Bi _)
 |cons a b ih=>cases i with
  |zero=>exact a
  |succ i=>exact ih (AF hi)
theorem TupIs.firsts(t:TupIs h vs dw)(qI:∀ns∈dw,ns≠[]):∃fs:List Value,KatTups h vs fs/\fs.length=vs.length/\∀v∈fs,∃i t,v=.int i t:=by
 induction t with
 |nil=>exact⟨[],.nil,rfl,λ_ z=>nomatch z⟩
 |@cons v ns vs dw a b ih=>
  obtain⟨fs,q1,q2,q3⟩:=ih λns hn=>qI ns (dA _ hn)
  obtain⟨a,aj,e,⟨o,e1,e2,n,e3⟩,hi⟩:=a;subst e;obtain⟨aj⟩:=aj;cases aj with
  |nil=>
   cases ns with
   |nil=>exact absurd rfl (qI [] dL)
   |cons _ _=>cases hi
  |cons v aj=>
   cases ns with
   |nil=>cases hi
   |cons m ns=>cases hi;exact⟨_::fs,KatTups.cons e1 e2 e3 rfl q1,by rw[l5,l5,q2],λv hv=>(d5.mp hv).elim (λz=>⟨_,_,z⟩) (q3 v)⟩
theorem Cg:Looks M h (typeOf (.int i t)) (.type "int"):=.now
theorem vI(hl:s.heap.IsList l vs.toArray\/IsTup s.heap l vs.toArray)(ht:TupIs s.heap vs dw)(qI:∀ns∈dw,ns≠[])(h64:vs.length<64)
  (h:∀p:List Nat,p.Perm (List.range vs.length)->p.map (λi=>dw.getD i [])=iu yc dw->Q (.ref (s⁻¹+1)) { s with heap:=sortedAll s.heap vs (p.map λi=>vs.getD i Value.none).toArray}) :
  wpAny (model prog w) A (call (.builtin "sorted") [.ref l]) Q E s:=by
 have hz:vs.length<=sizeLine:=by rw[mB];lia
 refine Cd hl hz ?_;have aL:=ht.length;by_cases h2:vs.length<2
 .
  refine GD (tK _ _) h2 ⟨rfl,?_⟩;have:=h (List.range vs.length) (AE _) (by
   rw[aL,eG]
   match dw,aL with
   | [],_=>rfl
   | [x],_=>rfl
   |_::_::_,hl2=>rw[hl2,l5,l5]at h2;lia)
  rw[eG]at this;exact this
 .
  have keep:∀b o,s.heap.get? b=some o->(c7 { s with heap:=GF s.heap vs} (s⁻¹+1) vs).heap.get? b=some o:=λb o e=>vE (vF (vs:=vs) e).2 (vF e).1
  have ht':=ht.keep keep;refine GC (κ:=tuples' true) (O:=yc) (key:=λi=>dw.getD i []) (tK _ _) ⋯ h64 (λQ' hq=>?_) (λi j C hi hj hC=>?_) λp hp hr=>⟨rfl,?_⟩
  . obtain⟨fs,q1,q2,q3⟩:=ht'.firsts qI;exact kat_kind (T:=.type "int") q1 ⋯ (λv hv=>by obtain⟨i,t,rfl⟩:=q3 v hv;exact Cg) ⋯ hq
  . obtain⟨a,its,e,⟨o,e1,e2,n,e3⟩,q⟩:=ht'.at hi;obtain⟨b,iI,e',⟨o2,e4,e5,n2,e6⟩,q'⟩:=ht'.at hj;show wpAny _ _ (keyLt' (tuples' true) (vs.getD i Value.none) (vs.getD j Value.none)) C _ _;rw[e,e'];refine kat_lt e1 e3 e4 e6 (GJ q 0 q' ?_ hC);rw[<- q.length,<- q'.length];simp
  . rw[aL]at hp hr;exact h p.toList (by rw[aL];exact (AU.mp hp).trans ⋯) (vH hp hr)
end
section
def gG:List D->Option (List (List Int))
 | []=>some []
 |.tup l::ds=>match aW l,gG ds with |some (n::ns),some dw=>some ((n::ns)::dw) |_,_=>none
 |_::_=>none
inductive jj(K:Frag)(H:Hp):List V->List (List Int)->Prop
 |nil:jj K H [] []
 |cons {a:Addr}{ns:List Int}{vs:List V}{dw:List (List Int)}:fC K H a (ns.map V.int)->jj K H vs dw->jj K H (.ref a::vs) (ns::dw)
theorem jj.real(I:L2.Inv X ah σ H s)(t:jj X.K H xs dw):∀{its:List Value},Vals xs its->TupIs s.heap its dw:=by
 induction t with
 |nil=>intro its r;cases r;exact .nil
 |cons q _ ih=>
  intro its r;cases r with
  |cons r rs=>cases r;obtain⟨iI,r2,p,_⟩:=I.tuple q;exact .cons ⟨_,_,rfl,p,by simpa using intsAre_of r2⟩ (ih rs)
theorem rA(h:Vals xs us):∀{i:Nat},i<xs.length->RelV (xs.getD i .non) (us.getD i .none):=by
 induction h with
 |nil=>intro i hi;exact absurd hi (Bi _)
 |cons r _ ih=>
  intro i hi;cases i with
  |zero=>exact r
  |succ i=>exact ih (by simpa using hi)
theorem rB(h:Vals xs us):∀{p:List Nat},(∀i∈p,i<xs.length)->Vals (p.map λi=>xs.getD i .non) (p.map λi=>us.getD i .none)
 | [],_=>.nil
 |i::p,hp=>.cons (rA h (hp i dL)) (rB h λj hj=>hp j (dA _ hj))
theorem tL:dB X (.builtin "sorted") (λxs H Q=>∃p ys dw,xs=[.ref p]/\(bN X.K H p ys\/fC X.K H p ys)/\jj X.K H ys dw/\(∀ns∈dw,ns≠[])/\ys.length<64/\
  ∀q (o:List Nat),H q=none->(∀i∈o,i<ys.length)->o.map (λi=>dw.getD i [])=iu yc dw->Q (.ref q) (upd H q (.lst (o.map λi=>ys.getD i .non)))):=by
 intro ah s σ H xs us Q I r h;obtain⟨p,ys,dw,rfl,hq,ht,qI,hl,q⟩:=h;obtain⟨u,rfl,rx⟩:=vals1 r;cases rx;have fin:∀its:List Value,Vals ys its->(s.heap.IsList p its.toArray\/IsTup s.heap p its.toArray)->wpAny (model X.prog X.w) X.A (call (.builtin "sorted") [.ref p]) (EP X ah σ Q) X.xe s:=λits r' pl=>by
  have aL:=r'.length;refine vI pl (ht.real I r') qI ⋯ λo ho hs=>?_
  obtain⟨ep,he⟩:=sortedAll_at s.heap its (o.map λi=>its.getD i Value.none).toArray
  have hin:∀i∈o,i<ys.length:=λi hi=>by rw[aL];exact An.mp (ho.mem_iff.mp hi)
  have hol:o.length=ys.length:=by rw[ho.length_eq,List.length_range,aL]
  refine⟨.ref (s⁻¹+1),_,I.laid (t':=s.toks) (o:=.lst (o.map λi=>ys.getD i .non)) (λb ob e=>sortedAll_old e) (AX _) ?_,rfl,q _ o (I.hok.fresh (AX _)) hin hs⟩
  refine⟨by rw[d6,mB];lia,_,ep,rB r' hin,he⟩
 rcases hq with hq |hq
 . obtain⟨its,r',pl,hz⟩:=I.list hq;exact fin its r' (.inl pl.isList)
 . obtain⟨its,r',pl,hz⟩:=I.tuple hq;exact fin its r' (.inr pl)
theorem Mg(e:aW l=some ns):l=ns.map .int:=by
 induction l generalizing ns with
 |nil=>cases e;rfl
 |cons d l ih=>cases d with
  |int i=>
   have e:(match aW l with |some ns=>some (i::ns) |none=>none)=some ns:=e
   cases e2:aW l with
   |none=>rw[e2]at e;cases e
   |some ms=>rw[e2]at e;cases e;rw[List.map_cons,<- ih e2]
  |_=>cases e
theorem rC{K:Frag}{M:List Addr}{H:Hp}{l:List D}{xs:List V}{dw:List (List Int)}(q:aG K M H l xs)(e:gG l=some dw):jj K H xs dw/\(∀ns∈dw,ns≠[])/\l=dw.map λns=>.tup (ns.map .int):=by
 induction l generalizing xs dw with
 |nil=>cases q;cases e;exact⟨.nil,λ_ z=>(nomatch z),rfl⟩
 |cons d l ih=>cases q with |cons r q=>cases d with
  |tup m=>
   unfold gG at e;split at e
   .
    rename_i n ns dw e1 e2;cases e;obtain⟨t1,t2,t3⟩:=ih q e2;cases r with
    |tup ha rr=>
     have:=aV rr e1;subst this;refine⟨.cons ha.sq t1,λx hx=>(d5.mp hx).elim (λz=>by rw[z];exact List.cons_ne_nil _ _) (t2 x),?_⟩
     rw[List.map_cons,<- t3,Mg e1]
   . cases e
  |_=>cases e
theorem aG.pick{K:Frag}{M:List Addr}{H:Hp}{ds:List D}{vs:List V}(h:aG K M H ds vs):∀{o:List Nat},(∀i∈o,i<vs.length)->aG K M H (o.map λi=>ds.getD i .non) (o.map λi=>vs.getD i .non)
 | [],_=>.nil
 |i::o,ho=>by
  refine .cons ?_ (h.pick λj hj=>ho j (dA _ hj))
  have hi:=ho i dL;have hd:i<ds.length:=by rw[h.length];exact hi
  obtain⟨v,e1,e2⟩:=h.get (i:=i) (d:=ds[i]) (by simp[hd])
  have q1:ds.getD i .non=ds[i]:=by simp[hd]
  have q2:vs.getD i .non=v:=by rw[mE,e1];rfl
  show Rep K M H (ds.getD i .non) (vs.getD i .non);rw[q1,q2];exact e2
theorem yf{d:D}{l:List D}{dw:List (List Int)}(hK:z.K=X.K)(h:cG d=some l)(hi:gG l=some dw)(hl:dw.length<64):CallD X z (.builtin "sorted") [d] (.new ((iu yc dw).map λns=>.tup (ns.map .int))):=by
 refine⟨_,tL,λg σ As M H vs Q s p k=>?_⟩
 obtain⟨v,rfl,pv⟩:=p.one;have main:∀(a:Addr) (xs:List V),aG z.K M H l xs->(bN X.K H a xs\/fC X.K H a xs)->∃p ys dw,[V.ref a]=[.ref p]/\(bN X.K H p ys\/fC X.K H p ys)/\jj X.K H ys dw/\(∀ns∈dw,ns≠[])/\ys.length<64/\
   ∀q (o:List Nat),H q=none->(∀i∈o,i<ys.length)->o.map (λi=>dw.getD i [])=iu yc dw->Q (.ref q) (upd H q (.lst (o.map λi=>ys.getD i .non))):=λa xs rr hq=>by
  obtain⟨t1,t2,t3⟩:=rC rr hi;have aL:xs.length=dw.length:=by rw[<- rr.length,t3,d6]
  refine⟨a,xs,dw,rfl,hq,hK▸t1,t2,by lia,λq o hf hin hs=>?_⟩
  have e:((iu yc dw).map λns=>D.tup (ns.map .int))=o.map λi=>l.getD i .non:=by
   rw[<- hs,List.map_map];refine List.map_congr_left λi hi=>?_
   have:i<dw.length:=by rw[<- aL];exact hin i hi
   rw[t3];simp[this]
  have rr':=(rr.pick hin).stay (ao.aR (o:=.lst (o.map λi=>xs.getD i .non)) hf)
  refine k _ _ As (q::M) (s.aR hf) (ao.aR hf) ⟨q,_,rfl,dL,λhA=>s.fresh hf (s.sub q hA),s.bR hf,aA,?_⟩
  rw[e];exact rr'
 cases d with
 |lst m=>cases h;obtain⟨a,xs,rfl,e1,e2⟩:=pv.list;exact main a xs e2 (.inl (bN.of e1))
 |tup m=>cases h;obtain⟨a,xs,rfl,e1,e2⟩:=pv.tup;exact main a xs e2 (.inr (hK▸e1.sq))
 |fix m=>cases h;obtain⟨a,xs,rfl,e1,e2⟩:=pv.fix;exact main a xs e2 (.inl (hK▸e1.sq))
 |_=>cases h
end
open L2 PySem.W
noncomputable def jz(n:Int):List Int->Int
 | []=>n
 |m::l=>jz (if m<n then m else n) l
theorem zI:∀(l:List Int) (n:Int),jz n l<=n/\(∀x∈l,jz n l<=x)/\(jz n l=n\/jz n l∈l)
 | [],n=>⟨Int.le_refl _,λ_ z=>(nomatch z),.inl rfl⟩
 |m::l,n=>by
  obtain⟨h1,h2,h3⟩:=zI l (if m<n then m else n)
  unfold jz;refine⟨?_,λx hx=>?_,?_⟩
  . split at h1 <;> split <;> lia
  .
   rcases d5.mp hx with rfl |hx
   . split at h1 <;> split <;> lia
   . exact h2 x hx
  .
   rcases h3 with h3 |h3
   .
    by_cases hm:m<n
    . rw[gL hm]at h3 ⊢;exact .inr (by rw[h3];exact dL)
    . rw[hZ hm]at h3 ⊢;exact .inl h3
   . exact .inr (dA _ h3)
theorem GL(n:Int)(l:List Int):(n::l).getD (argBest (λi j=>decide ((n::l).getD i 0<(n::l).getD j 0)) l.length) 0=jz n l:=by
 obtain⟨h1,h2⟩:=argBest_lt (λi=>(n::l).getD i 0) l.length
 obtain⟨m1,m2,m3⟩:=zI l n;generalize argBest (λi j=>decide ((n::l).getD i 0<(n::l).getD j 0)) l.length=k at h1 h2 ⊢
 have hmem:(n::l).getD k 0∈n::l:=by
  have:k<(n::l).length:=by rw[l5];lia
  rw[mE,tJ this];exact List.getElem_mem _
 have a:jz n l<=(n::l).getD k 0:=by
  rcases d5.mp hmem with e |e
  . rw[e];exact m1
  . exact m2 _ e
 have b:(n::l).getD k 0<=jz n l:=by
  have:jz n l∈n::l:=m3.elim (λe=>by rw[e];exact dL) (dA _)
  obtain⟨j,hj,e⟩:=List.getElem_of_mem this;have q:=h2 j (by rw[l5]at hj;lia)
  rw[show (n::l).getD j 0=jz n l by rw[mE,tJ hj];exact e]at q
  exact q
 lia
section
variable{X:Cx}{z:Z}
theorem rD{h h':Heap}{o:Obj}(hk:∀b ob,b∉[h.objs.size]->(h.push o).get? b=some ob->h'.get? b=some ob):∀b ob,h.get? b=some ob->h'.get? b=some ob:=λb ob e=>
 hk b ob (λhm=>by
  have:b=h.objs.size:=by simpa using hm
  exact absurd (eM e) (by rw[this];exact l9 _)) (bP _ e)
theorem Ci(hc:X.calm=true):dB X (.builtin "min") (λxs H Q=>∃(p:Addr) (n:Int) (l:List Int),xs=[.ref p]/\(bN X.K H p ((n::l).map V.int)\/fC X.K H p ((n::l).map V.int))/\Q (.int (jz n l)) H):=by
 intro ah s σ H xs us Q I r h;obtain⟨p,n,l,rfl,hp,q⟩:=h;obtain⟨u,rfl,rx⟩:=vals1 r;cases rx;have hh:X.A.in1.handled=none:=I.ok.hd hc;have fin:∀(its:List Value) (v:Value) (h':Heap) (tk:Nat),Vals ((n::l).map V.int) its->its[argBest (λi j=>decide ((n::l).getD i 0<(n::l).getD j 0)) (its.length - 1)]?=some v->(∀b o,s.heap.get? b=some o->h'.get? b=some o)->EP X ah σ Q v { s with heap:=h',toks:=tk}:=by
  intro its v h' tk rv hv hk;have aL:its.length=l.length+1:=by rw[<- rv.length,d6,l5]
  rw[aL,Nat.add_sub_cancel]at hv;obtain⟨t,rfl⟩:=j7 rv hv;exact⟨.int (jz n l),H,I.kept hk,⟨t,by rw[GL]⟩,q⟩
 rcases hp with hp |hp
 .
  obtain⟨its,rv,pl,hz⟩:=I.list hp;have hlt:p<s⁻¹:=by obtain⟨_,e,_⟩:=pl.isList;exact eM e
  refine call_min_walk (At pl.isList ?_);refine⟨s⁻¹,_,_,_,_,_,_,rfl,Walks.list (A:=X.A.in1) hh s⁻¹ p (hU hlt) its.toArray,⟨⟨_,eA _ rfl,rfl,rfl⟩,pl.isList.push _⟩,λb hb=>?_,by rw[dE,<- rv.length,d6];exact Nat.succ_pos _,CmpOf.ints_lt (λi=>(n::l).getD i 0) (λi v hv=>j7 rv (by simpa using hv)),λv h' tk hP hk=>fin its v h' tk rv (by simpa using hP) (rD hk)⟩
  simp only[d5,i7,t8]at hb;rcases hb with rfl |rfl
  . exact t0 (mM _) (nE _ _).symm
  . exact t0 (wS hlt) (nE _ _).symm
 .
  obtain⟨its,rv,pl,hz⟩:=I.tuple hp;have hlt:p<s⁻¹:=by obtain⟨_,e,_⟩:=pl;exact eM e
  have PN:s.heap.IsTuple p its.toArray:=pl;refine call_min_walk (yY PN ?_);refine⟨s⁻¹,_,_,_,_,_,_,rfl,Walks.tuple (A:=X.A.in1) hh s⁻¹ p (hU hlt) its.toArray,⟨⟨_,eA _ rfl,rfl,rfl⟩,IsTup.keeps PN λb o e=>bP _ e⟩,λb hb=>?_,by rw[dE,<- rv.length,d6];exact Nat.succ_pos _,CmpOf.ints_lt (λi=>(n::l).getD i 0) (λi v hv=>j7 rv (by simpa using hv)),λv h' tk hP hk=>fin its v h' tk rv (by simpa using hP) (rD hk)⟩
  simp only[d5,i7,t8]at hb;rcases hb with rfl |rfl
  . exact t0 (mM _) (nE _ _).symm
  . exact t0 (wS hlt) (nE _ _).symm
theorem vJ(hK:z.K=X.K)(h:cG d=some l)(hi:aW l=some ns)(pv:Pk z.K M H d v):∃a,v=.ref a/\(bN X.K H a (ns.map V.int)\/fC X.K H a (ns.map V.int)):=by
 cases d with
 |lst m=>cases h;obtain⟨a,xs,rfl,e1,e2⟩:=pv.list;have:=aV e2 hi;subst this;exact⟨a,rfl,.inl (bN.of e1)⟩
 |tup m=>cases h;obtain⟨a,xs,rfl,e1,e2⟩:=pv.tup;have:=aV e2 hi;subst this;exact⟨a,rfl,.inr (hK▸e1.sq)⟩
 |fix m=>cases h;obtain⟨a,xs,rfl,e1,e2⟩:=pv.fix;have:=aV e2 hi;subst this;exact⟨a,rfl,.inl (hK▸e1.sq)⟩
 |_=>cases h
theorem Mh(hc:X.calm=true)(hK:z.K=X.K)(h:cG d=some l)(hi:aW l=some (n::ns)):CallD X z (.builtin "min") [d] (.dat (.int (jz n ns))):=by
 refine⟨_,Ci hc,λg σ As M H vs Q s p k=>?_⟩
 obtain⟨v,rfl,pv⟩:=p.one;obtain⟨a,rfl,q⟩:=vJ hK h hi pv;exact⟨a,n,ns,rfl,q,k _ _ As M s (ao.refl _ _) (.int _)⟩
end
open L2 PySem.W
open L2 PySem.W SeqAt
open L2 PySem.W SeqAt
section
theorem vK{prog:Program}{w:World}{A:Around}{E:Value->Shared->Prop}{s:Shared}{l:Addr}{vs:List Value}{ns:List Int}{b:Bool}{Q:Value->Shared->Prop}(hl:IsTup s.heap l vs.toArray)(hI:IntsAre vs ns)(h64:vs.length<64)
  (k:∀(out:Array Value) (ns':List Int),IntsAre out.toList ns'->ns'.Perm ns->Ordered b ns'->Q (.ref (s⁻¹+1)) { s with heap:=sortedAll s.heap vs out}) :
  wpAny (model prog w) A (call (.builtin "sorted") [.ref l] [(Str.ofString "reverse",.bool b)]) Q E s:=by
 refine call_function_entry_kw kind_sorted plain_sorted entry_sorted (args_sorted_rev _ _) ?_;unfold Builtin.«sorted»;refine aS (m:=checkCount "sorted" 1 1 _) (d0 (aS (fz hl (aS (BB ?_)) (by rw[mB];lia))))
 have z:((s.heap.push (seqObj "list" #[] 0)).update s⁻¹ (Obj.mapSeq (· ++ vs.toArray))).objs.size=s⁻¹+1:=by rw[B2,size_push']
 have o:(((s.heap.push (seqObj "list" #[] 0)).update s⁻¹ (Obj.mapSeq (· ++ vs.toArray))).push (seqObj "list" vs.toArray 0)).get? (s⁻¹+1)=some (seqObj "list" vs.toArray 0):=z▸eA _ rfl;show wpAny _ _ _ _ _ { s with heap:=((s.heap.push (seqObj "list" #[] 0)).update s⁻¹ (Obj.mapSeq (· ++ vs.toArray))).push (seqObj "list" vs.toArray 0)};rw[z];exact aS (lS (wpAny_call_entry_kw slot_list_sort ⟨_,o,rfl⟩ entry_list_sort (list_sort_tree_rev o hI h64 λout ns' a1 a2 a3=>⟨_,rfl,d0 ⟨_,rfl,k out ns' a1 a2 a3⟩⟩) (args_list_sort_rev _ _)))
theorem yg{prog:Program}{w:World}{A:Around}{E:Value->Shared->Prop}{s:Shared}{l:Addr}{vs:List Value}{ns:List Int}{b:Bool}{Q:Value->Shared->Prop}(hl:s.heap.IsList l vs.toArray\/IsTup s.heap l vs.toArray)(hI:IntsAre vs ns)(h64:vs.length<64)
  (k:∀(out:Array Value) (ns':List Int),IntsAre out.toList ns'->ns'.Perm ns->Ordered b ns'->Q (.ref (s⁻¹+1)) { s with heap:=sortedAll s.heap vs out}) :
  wpAny (model prog w) A (call (.builtin "sorted") [.ref l] [(Str.ofString "reverse",.bool b)]) Q E s:=hl.elim (λh=>sorted_ints_rev h hI h64 k) λh=>vK h hI h64 k
theorem yh{r:R}{d:D}{l:List D}{ns:List Int}{j:Nat}(hK:z.K=X.K)(ha:cO X z [e] g [r] g1)(hp:pk r g1=some d)(hs:cG d=some l)(hi:aW l=some ns)(hl:ns.length<64)
  (hg:Gl X "sorted") (hm:X.mg "sorted"=none) (cA:starEach [e] X.env=(false,eval e X.env)::starEach [] X.env) :
  au X z (.Call (.Name "sorted" p) [e] [⟨some "reverse",.Constant (.bool true) j kp,kpos⟩] pos) g (.new ((bY ns).reverse.map .int)) g1:=by
 refine au.of λah s σ As M H Post I st k=>?_
 refine rV (gi I hg hm (by rfl:bootBuiltins ("sorted":Str)=some (.builtin "sorted")) (callWith_kw ?_ (by rw[cA];rfl) (by rw[cA];rfl)))
 refine ha.run I st λvs us s1 H1 aN M1 I1 r1 q1 q2 q3=>?_
 have vd:=q1.vd q3 (ds:=[d]) (by unfold vd;rw[hp];rfl)
 obtain⟨v1,rfl,pv1⟩:=vd.one;obtain⟨u1,rfl,ru1⟩:=vals1 r1;refine kws_cons (Constant_bool (kws_nil ?_));have hq:∃q,v1=.ref q/\(bN X.K H1 q (ns.map V.int)\/fC X.K H1 q (ns.map V.int)):=by
  obtain⟨q,rfl,h⟩:=vJ hK hs hi pv1;cases d with
  |lst m=>obtain⟨a,xs,e0,e1,e2⟩:=pv1.list;cases hs;have:=aV e2 hi;subst this;cases e0;exact⟨_,rfl,.inl (bN.of e1)⟩
  |fix m=>obtain⟨a,xs,e0,e1,e2⟩:=pv1.fix;cases hs;have:=aV e2 hi;subst this;cases e0;exact⟨_,rfl,.inl (hK▸e1.sq)⟩
  |tup m=>obtain⟨a,xs,e0,e1,e2⟩:=pv1.tup;cases hs;have:=aV e2 hi;subst this;cases e0;exact⟨_,rfl,.inr (hK▸e1.sq)⟩
  |_=>cases hs
 obtain⟨q,rfl,hq⟩:=hq;cases ru1;obtain⟨its,rv,pl⟩:∃its:List Value,Vals (ns.map V.int) its/\(s1.heap.IsList q its.toArray\/IsTup s1.heap q its.toArray):=by
  rcases hq with hq |hq
  . obtain⟨its,rv,pl,_⟩:=I1.list hq;exact⟨its,rv,.inl pl.isList⟩
  . obtain⟨its,rv,pl,_⟩:=I1.tuple hq;exact⟨its,rv,.inr pl⟩
 have aL:=rv.length;rw[d6]at aL;refine yg (b:=true) pl (intsAre_of rv) ⋯ λout ns' a1 a2 a3=>?_
 have e0:ns'=(bY ns).reverse:=by
  have hr:ns'.reverse.Pairwise (· <= ·):=by rw[List.pairwise_reverse];exact a3
  have:=oV ((List.reverse_perm ns').trans a2) hr;rw[<- this,List.reverse_reverse]
 subst e0;obtain⟨ep,he⟩:=sortedAll_at s1.heap its out;have hf:H1 (s1⁻¹+1)=none:=I1.hok.fresh (AX _);have hlen2:(bY ns).reverse.length=ns.length:=by rw[t9];exact (cZ ns).length_eq
 refine k (.ref (s1⁻¹+1)) _ _ (upd H1 (s1⁻¹+1) (.lst ((bY ns).reverse.map V.int))) aN ((s1⁻¹+1)::M1) (I1.laid (t':=s1.toks) (o:=.lst ((bY ns).reverse.map V.int)) (λb o e=>sortedAll_old e) (AX _) ?_) rfl (q1.aR hf) (q2.trans (ao.aR hf)) ⟨_,_,rfl,dL,λhA=>q1.fresh hf (q1.sub _ hA),q1.bR hf,aA,lC _⟩
 refine⟨by rw[d6,hlen2,mB];lia,out.toList,ep,iL a1,?_⟩
 rw[he]
end
open L2 PySem.W SeqAt
open L2 PySem.W SeqAt
section
theorem cX.of (h:∀(ah:List (Addr×Obj)) (s:Shared) (σ:Sg) (As M:List Addr) (H:Hp) (Post:Value->Shared->Prop),L2.Inv X ah σ H s->S z g σ As M H->
  (∀v s1,(∀(R:It->Hp->Prop),(∀J H' az M',S z g1 σ az M' H'->ao M H M' H'->Jt J aj z.K M' H'->R J H')->wpAny (model X.prog X.w) X.A (pyIter v) (PIE X ah σ tg R) X.xe s1)->Post v s1)->wpAny (model X.prog X.w) X.A (eval iter X.env) Post X.xe s):cX X z tg iter g aj g1:=
 ⟨λσ H R=>∃As M,S z g σ As M H/\(∀J H' az M',S z g1 σ az M' H'->ao M H M' H'->Jt J aj z.K M' H'->R J H'),λah s σ H R I ⟨As,M,st,k⟩=>h ah s σ As M H _ I st λv s1 q=>q R k,λσ As M H R s k=>⟨As,M,s,k⟩⟩
end
open L2 PySem.W SeqAt
section
theorem yi(hit:s.heap.IsTupleIter it t i)(ht:s.heap.IsTuple t aj)(hx:aj[i]?=some x)(hQ:∀h',h'.IsTupleIter it t (i+1)->Heap.SameBut it s.heap h'->Q x { s with heap:=h'}):wpAny (model prog w) A (Builtin.SmallTypes.nextOf (.ref it)) Q E s:=by
 obtain⟨o,ho,hc,hd⟩:=id hit;obtain⟨ol,hol,_,nl,hdl⟩:=ht;unfold Builtin.SmallTypes.nextOf;refine aS (pV (name:=Str.ofString "__next__") hit.typeIs xL (t7 xL hit.typeIs F.entry_tuple_iterator_next ?_ (F.args_tuple_iterator_next_1 _)));show wpAny _ _ (field (.ref it) 0 >>= _) _ _ s;refine aS (l8 ho hd (x:=.ref t) rfl ?_);show wpAny _ _ (if (Value.ref t==Value.none)=true then _ else _) _ _ s
 rw[hZ (show ¬ ((Value.ref t==Value.none)=true)from i5)]
 show wpAny _ _ (field (.ref it) 1 >>= _) _ _ s;refine aS (l8 ho hd (x:=.int i 0) rfl ?_);show wpAny _ _ (seqItems? (.ref t) >>= _) _ _ s;refine aS (tP hol hdl ?_);simp only[AS,hx];refine aS (AV ho hd ⋯ (d0 ⟨x,rfl,d0 (hQ _ ⟨_,oQ _ ho (y7 (v6 hd _)),(Obj.cls_mapFields ..).trans hc,?_⟩ (Heap.SameBut.update ..))⟩));rw[v6 hd];simp[rawInt]
theorem qz(hh:A.handled=none)(hit:s.heap.IsTupleIter it t i)(ht:s.heap.IsTuple t aj)(hx:aj[i]?=none)
  (hE:∀h' e,Heap.ExtBut it s.heap h'->(∃o,h'.get? e=some o/\o.cls=.type "StopIteration")->E (.ref e) { s with heap:=h'}):wpAny (model prog w) A (Builtin.SmallTypes.nextOf (.ref it)) Q E s:=by
 obtain⟨o,ho,hc,hd⟩:=id hit;obtain⟨ol,hol,_,nl,hdl⟩:=ht;unfold Builtin.SmallTypes.nextOf;refine aS (pV (name:=Str.ofString "__next__") hit.typeIs xL (t7 xL hit.typeIs F.entry_tuple_iterator_next ?_ (F.args_tuple_iterator_next_1 _)));show wpAny _ _ (field (.ref it) 0 >>= _) _ _ s;refine aS (l8 ho hd (x:=.ref t) rfl ?_);show wpAny _ _ (if (Value.ref t==Value.none)=true then _ else _) _ _ s
 rw[hZ (show ¬ ((Value.ref t==Value.none)=true)from i5)]
 show wpAny _ _ (field (.ref it) 1 >>= _) _ _ s;refine aS (l8 ho hd (x:=.int i 0) rfl ?_);show wpAny _ _ (seqItems? (.ref t) >>= _) _ _ s;refine aS (tP hol hdl ?_);simp only[AS,hx];refine aS (Cc (aS (AV ho hd ⋯ ?_)));show wpAny _ _ (newExc (.type "StopIteration") [] >>= _) _ _ _;refine aS ?_;simp only[newExc,newTuple];refine aS (l7 (aS (m:=firstArgMember _ _) (wpAny_of_eq (a:=Value.none) (by first |rfl | (simp only[firstArgMember];rfl)) (l7 ?_ (by size_fits)))) (by size_fits))
 simp only[raiseNew];refine aS (wpAny_handled ?_)
 first |rw[show A.in1.handled=none from hh] |rw[hh]
 exact aS (d0 (wpAny_throw (hE _ _ (((Heap.SameBut.update ..).extBut.push _).push _) ⟨_,eA _ rfl,rfl⟩)))
theorem Tt(hh:A.handled=none)(it t:Addr)(qI:t≠it)(aj:Array Value):Draws prog w A it [it,t] aj.size (λi v=>aj[i]?=some v) (λi h=>h.IsTupleIter it t i/\h.IsTuple t aj) where
 live:=λ_ _ st=>let ⟨o,ho,_⟩:=st.1;⟨o,ho⟩
 frame:=λ_ _ _ st hk=>by
  obtain⟨⟨o,ho,r⟩,⟨o',ho',r'⟩⟩:=st;exact⟨⟨o,hk it ⋯ o ho,r⟩,⟨o',hk t ⋯ o' ho',r'⟩⟩
 item:=λi s Q E hi st hQ=>yi st.1 st.2 (x:=aj[i]) (by simp[hi]) λh' hit' hs'=>hQ _ h' s.toks (by simp[hi]) ⟨hit',IsTup.extBut st.2 hs'.extBut qI⟩ hs'
 done:=λs Q E st hE=>qz hh st.1 st.2 ⋯ hE
end
open L2 PySem.W SeqAt
def rE(tp:Bool)(K:Frag)(H:Hp)(a:Addr)(xs:List V):Prop:=match tp with |true=>fC K H a xs |false=>bN K H a xs
def JR(tp:Bool)(h:Heap)(it a:Addr)(i:Nat):Prop:=match tp with |true=>h.IsTupleIter it a i |false=>h.IsListIter it a i
def AtX(tp:Bool)(h:Heap)(a:Addr)(its:List Value):Prop:=match tp with |true=>h.IsTuple a its.toArray |false=>h.IsList a its.toArray
section
theorem rE.real(I:L2.Inv X ah σ H s)(h:rE tp X.K H a xs):∃its:List Value,Vals xs its/\AtX tp s.heap a its/\xs.length<=sizeLine:=by
 cases tp with
 |true=>exact I.tuple h
 |false=>obtain⟨its,r,pl,hz⟩:=I.list h;exact⟨its,r,pl.isList,hz⟩
theorem rE.inj(I:L2.Inv X ah σ H s)(h:rE tp X.K H a xs)(h':rE tp X.K H a ys):xs=ys:=by
 cases tp with
 |true=>exact I.qL h h'
 |false=>exact I.uT h h'
theorem JR.obj(x:JR tp h it a i):∃o vs,h.get? it=some o/\o.data=.fields vs:=by
 cases tp with
 |true=>obtain⟨o,e,_,d⟩:=(show h.IsTupleIter it a i from x);exact⟨o,_,e,d⟩
 |false=>obtain⟨o,e,_,d⟩:=(show h.IsListIter it a i from x);exact⟨o,_,e,d⟩
theorem JR.keep(x:JR tp h it a i)(k:∀o,h.get? it=some o->h'.get? it=some o):JR tp h' it a i:=by
 cases tp with
 |true=>obtain⟨o,e,d⟩:=(show h.IsTupleIter it a i from x);exact⟨o,k o e,d⟩
 |false=>obtain⟨o,e,d⟩:=(show h.IsListIter it a i from x);exact⟨o,k o e,d⟩
theorem tM(hh:A.handled=none)(qI:a≠it)(its:List Value):Draws prog w A it [it,a] its.length (λi v=>its[i]?=some v) (λi h=>JR tp h it a i/\AtX tp h a its):=by
 cases tp with
 |true=>have:=Tt (prog:=prog) (w:=w) hh it a qI its.toArray;simp only[dE,List.getElem?_toArray]at this;exact this
 |false=>have:=Draws.list (prog:=prog) (w:=w) hh it a qI its.toArray;simp only[dE,List.getElem?_toArray]at this;exact this
end
open L2 PySem.W SeqAt
end Ev
namespace HT
open PySem PyProof.Rows
section
theorem yj(n:Nat):Builtin.Slice.sliceAdjust none none (-1) (n:Int)=((n:Int) - 1,-1):=rfl
theorem ym(n:Nat):Builtin.Slice.slicePlaces ((n:Int) - 1) (-1) (-1)=n:=by
 unfold Builtin.Slice.slicePlaces;rw[hZ ⋯,show (- -1:Int)=1 from by decide,Int.ediv_one]
 split <;> lia
theorem lF{sl:Addr}{vs:Value}{n:Nat}{Q:Int×Int×Nat->Shared->Prop}(hs:s.heap.IsSliceOf sl .none .none vs)(ps:IsPart vs (some (-1)))
  (h:Q ((n:Int) - 1,-1,n) s):wpAny (model prog w) A (Builtin.Slice.sliceApplied (.ref sl) (pure (n:Int))) Q E s:=by
 obtain⟨os,hos,hcs,hds⟩:=id hs;unfold Builtin.Slice.sliceApplied Builtin.Slice.sliceFields;refine aS (aS (l8 hos hds (x:=.none) rfl (aS (l8 hos hds (x:=.none) rfl (aS (l8 hos hds (x:=vs) rfl (d0 ?_)))))));refine aS (jr ps ?_);show wpAny _ _ (if ((-1:Int)==0)=true then _ else _) _ _ s
 rw[hZ ⋯];refine aS (slicePart_none (aS (slicePart_none (aS (d0 ?_)))));show wpAny _ _ (match Builtin.Slice.sliceAdjust none none (-1) (n:Int)with | (lo,hi)=>pure (lo,(-1:Int),Builtin.Slice.slicePlaces lo hi (-1))) _ _ s
 rw[yj n];show wpAny _ _ (pure ((n:Int) - 1,(-1:Int),Builtin.Slice.slicePlaces ((n:Int) - 1) (-1) (-1))) _ _ s;rw[ym];exact d0 h
theorem GP(xs:Array Value):((List.range xs.size).filterMap λ(m:Nat)=>xs[(((xs.size:Int) - 1)+(m:Int) * -1).toNat]?).toArray=xs.toList.reverse.toArray:=by
 have e:(λ(m:Nat)=>xs[(((xs.size:Int) - 1)+(m:Int) * -1).toNat]?)=λm=>xs[xs.size - 1 - m]?:=by
  funext m
  congr 1
  lia
 rw[e];have e2:(List.range xs.size).filterMap (λm=>xs[xs.size - 1 - m]?)=((List.range xs.size).map λk=>xs.size - 1 - k).filterMap (xs[·]?):=by rw[List.filterMap_map];rfl
 rw[e2,PySem.W.krv_range,List.filterMap_reverse,PySem.W.krv_all]
theorem kj(ht:IsTup s.heap t aj)(hs:s.heap.IsSliceOf sl .none .none vs)(ps:IsPart vs (some (-1)))
  (h:Q (.ref s⁻¹) { s with heap:=s.heap.push { cls:=.type "tuple",data:=.seq aj.toList.reverse.toArray}})
  (jg:aj.size<=sizeLine):wpAny (model prog w) A (getItem (.ref t) (.ref sl)) Q E s:=by
 have jW:sizeOk (.seq aj.toList.reverse.toArray):=by show aj.toList.reverse.toArray.size<=sizeLine;rw[dE,t9,n0];exact jg
 obtain⟨os,hos,hcs,hds⟩:=id hs;have XH:s.TypeIs (.ref sl) "slice" :=⟨os,hos,hcs⟩;unfold getItem
 try with_reducible refine lS ?_
 first |refine aS (d0 ?_) |skip
 refine aS (wpAny_sequenceKey ht.typeIs ⋯ ?_);refine aS (pV (name:=Str.ofString "__getitem__") ht.typeIs nS
  (t7 nS ht.typeIs entry_tuple_getitem ?_ (args_tuple_getitem _ _)))
 show wpAny _ _ (Builtin.Tuple.tupleItemsOf (.ref t) >>= _) _ _ s;refine aS (tupleItemsOf_ ht ?_);refine aS (BY XH ?_);rw[gL ⋯];refine aS (lF hs ps ?_);show wpAny _ _ (if ((aj.size:Int) - 1==0&&(-1:Int)==1&&aj.size==aj.size)=true then _ else _) _ _ s
 rw[hZ (by intro q;rw[dS,dS]at q;exact absurd (eq_of_beq q.1.2) ⋯),GP]
 first
  |exact aS (m:=Builtin.Tuple.tupleExact _) (l7 (d0 ⟨_,rfl,d0 h⟩) jW)
  |exact aS (m:=Builtin.Tuple.tupleExact _) (l7 (aS (d0 (d0 ⟨_,rfl,d0 h⟩))) jW)
  |exact aS (aS (m:=Builtin.Tuple.tupleExact _) (l7 (d0 (d0 ⟨_,rfl,d0 h⟩)) jW))
  |exact aS (aS (m:=Builtin.Tuple.tupleExact _) (l7 (d0 ⟨_,rfl,d0 h⟩) jW))
end
end HT
namespace Ev
open L2
section
noncomputable abbrev m1(j:Nat)(p1 p3:Pos):Expr:=.UnaryOp .USub (.Constant (.int 1) j p1) p3
theorem GQ{e:Expr}{te:TE}{r:V->Hp->VK->Prop}(he:PE X e te)
  (hr:∀(ah:List (Addr×Obj)) (s:Shared) (σ:L2.St) (H:Hp) (x:V) (v vs:Value) (sl:Addr) (Q:VK),L2.Inv X ah σ H s->RelV x v->s.heap.IsSliceOf sl .none .none vs->IsPart vs (some (-1))->r x H Q->
   ∃T id,typeLookup (.type T) "__getitem__"=pure (some (.builtin id))/\s.TypeIs v T/\wpAny (model X.prog X.w) X.A (getItem v (.ref sl)) (EP X ah σ Q) X.xe s)
  (pm:∀(ah:List (Addr×Obj)) (s:Shared) (σ:L2.St) (H:Hp),L2.Inv X ah σ H s->wpAny (model X.prog X.w) X.A (eval (m1 j p1 p3) X.env) (λu s'=>L2.Inv X ah σ H s'/\IsPart u (some (-1))) X.xe s) :
  PE X (.Subscript e (.Slice none none (some (m1 j p1 p3)) p2) pos) (λσ H Q=>te σ H λx H1=>r x H1 Q):=by
 intro ah s σ H Q I h;refine Subscript_ (bJ (he ah s σ H _ I h) λv s1 ⟨x,H1,I1,r1,q1⟩=>?_)
 refine wpAny_Slice ?_;rw[evalPart_none];refine d0 (d0 ?_);refine PySem.evalPart_some_step (bJ (pm ah s1 σ H1 I1) λu s2 ⟨I2,pu⟩=>?_)
 have I4:L2.Inv X ah σ H1 { s2 with heap:=s2.heap.push { cls:=.type "slice",data:=.fields #[.none,.none,u]}}:=I2.kept (t':=s2.toks) λb ob q=>bP _ q
 obtain⟨T,id,hT,ht,hg⟩:=hr ah { s2 with heap:=s2.heap.push { cls:=.type "slice",data:=.fields #[.none,.none,u]}} σ H1 x v u s2⁻¹ Q I4 r1 (Heap.IsSliceOf.new ..) pu q1;show wpAny (model X.prog X.w) X.A (subscriptTail e (.Slice none none (some (m1 j p1 p3)) p2) v (.ref s2⁻¹)) (EP X ah σ Q) X.xe { s2 with heap:=s2.heap.push { cls:=.type "slice",data:=.fields #[.none,.none,u]}};exact tail_any (ops:=[v,.ref s2⁻¹]) ht hT hg (by with_unfolding_all rfl)
theorem pm1(ah:List (Addr×Obj))(s:Shared)(σ:L2.St)(H:Hp)(I:L2.Inv X ah σ H s):wpAny (model X.prog X.w) X.A (eval (m1 j p1 p3) X.env) (λu s'=>L2.Inv X ah σ H s'/\IsPart u (some (-1))) X.xe s:=
 bJ ((Pr (pos:=p3) Er (Eh (i:=1) (j:=j) (pos:=p1))) ah s σ H (λv H'=>v=.int (-1)/\H'=H) I ⟨1,rfl,rfl,rfl⟩) λu s' ⟨v,H',I',r,e1,e2⟩=>by
  subst e1 e2;obtain⟨t,rfl⟩:=r;exact⟨I',.int _ t⟩
theorem Mi{r:R}{l:List D}(hK:z.K=X.K)(h:au X z a g r g1)(hp:pk r g1=some (.lst l)):au X z (.Subscript a (.Slice none none (some (m1 j p1 p3)) p2) pos) g (.new l.reverse) g1:=by
 obtain⟨t,q,k⟩:=h;refine⟨_,GQ (r:=λx H Q=>∃b xs,x=.ref b/\bN X.K H b xs/\∀p,H p=none->Q (.ref p) (upd H p (.lst xs.reverse))) q (λah s σ H x v vs sl Q I rx hs ps hx=>?_) pm1,λσ As M H Q s kk=>k σ As M H _ s λv H1 aN M1 s1 cE R=>?_⟩
 .
  obtain⟨b,xs,rfl,hx,hq⟩:=hx;cases rx;obtain⟨its,r,ht,hz⟩:=I.list hx;have aL:=r.length;refine⟨"list",_,slot_list_getitem.lookup,ht.isList.typeIs,?_⟩;refine wpAny_getItem_list_slice ht.isList hs .none .none ps ⋯ ?_ (by rw[dE,<- aL];exact hz)
  rw[PySem.W.krv_pick];refine⟨.ref s⁻¹,_,I.laid (t':=s.toks) (o:=.lst xs.reverse) (λb ob q=>bP _ q) (eJ _) ?_,rfl,hq _ (I.hok.fresh (eJ _))⟩
  exact⟨by rw[t9];exact hz,its.reverse,0,r.reverse,eA _ rfl⟩
 .
  obtain⟨b,xs,rfl,e1,e2⟩:=(s1.pk (ao.refl _ _) R hp).list;refine⟨b,xs,rfl,bN.of e1,λp hp=>?_⟩
  exact kk _ _ aN (p::M1) (s1.aR hp) (cE.trans (ao.aR hp)) ⟨p,xs.reverse,rfl,dL,λhA=>s1.fresh hp (s1.sub p hA),s1.bR hp,aA,e2.reverse.stay (ao.aR hp)⟩
theorem Mj{l:List D}(hK:z.K=X.K)(h:au X z a g (.dat (.tup l)) g1):au X z (.Subscript a (.Slice none none (some (m1 j p1 p3)) p2) pos) g (.dat (.tup l.reverse)) g1:=by
 obtain⟨t,q,k⟩:=h;refine⟨_,GQ (r:=λx H Q=>∃b xs,x=.ref b/\fC X.K H b xs/\∀p,H p=none->Q (.ref p) (upd H p (.tup xs.reverse))) q (λah s σ H x v vs sl Q I rx hs ps hx=>?_) pm1,λσ As M H Q s kk=>k σ As M H _ s λv H1 aN M1 s1 cE R=>?_⟩
 .
  obtain⟨b,xs,rfl,hx,hq⟩:=hx;cases rx;obtain⟨its,r,ht,hz⟩:=I.tuple hx;have aL:=r.length;refine⟨"tuple",_,PyProof.Rows.slot_tuple_getitem.lookup,ht.typeIs,?_⟩;refine HT.kj ht hs ps ?_ (by rw[dE,<- aL];exact hz)
  refine⟨.ref s⁻¹,_,I.laid (t':=s.toks) (o:=.tup xs.reverse) (λb ob q=>bP _ q) (eJ _) ?_,rfl,hq _ (I.hok.fresh (eJ _))⟩
  exact⟨by rw[t9];exact hz,its.reverse,r.reverse,fc.new _ _⟩
 .
  cases R with
  |@tup _ b xs e1 e2=>exact⟨b,xs,rfl,hK▸e1.sq,λp hp=>kk _ _ aN M1 (s1.laid hp) (cE.trans (ao.laid hp)) (.tup (.inl ⟨s1.fresh hp,.inl aA⟩) (e2.reverse.stay (ao.laid hp)))⟩
theorem Tv:au X z (.Dict [] [] pos) g (.dat .emp) g:=by
 refine⟨λσ H Q=>∀p,H p=none->Q (.ref p) (upd H p (.dK [])),λah s σ H Q I h=>wpAny_Dict_empty ⟨.ref s⁻¹,_,I.laid (t':=s.toks) (o:=.dK []) (λb ob q=>bP _ q) (eJ _) ?_,rfl,h _ (I.hok.fresh (eJ _))⟩,λσ As M H Q s k p hp=>k _ _ As M (s.laid hp) (ao.laid hp) (.emp (s.fresh hp) aA)⟩
 refine⟨wE _,?_,[],?_,Heap.DictOf.new _⟩
 .
  have h1:mainGlobals<s⁻¹:=(I.ok.mod.glob.keeps I.bk).lt;refine Bool.eq_false_iff.mpr λq=>?_
  have q:=eq_of_beq q;rw[q]at h1;exact absurd h1 ⋯
 . exact .nil
end
open L2 PySem.W SeqAt
section
structure Wr(r tI tO i j a b:Addr):Prop where
 n1:tI≠r/\tO≠r/\i≠r/\j≠r/\a≠r/\b≠r
 n2:tI≠tO/\i≠tO/\j≠tO/\a≠tO/\b≠tO
 n3:tI≠i/\tI≠j/\i≠j
 n4:a≠i/\b≠i/\a≠j/\b≠j
section
theorem GR{Q:Value->Shared->Prop}(N:Wr r tI tO i j a b)(D1:Draws prog w A i [i,a] n f S1)(D2:Draws prog w A j [j,b] m g S2)(hk1:k<n)(hk2:k<m)
  (er:IsZip s.heap r tI tO .none) (eI:IsPair s.heap tI (.ref i) (.ref j)) (eO:IsPair s.heap tO c d) (t1:S1 k s.heap) (t2:S2 k s.heap)
  (hQ:∀u v h' tk,f k u->g k v->IsZip h' r tI tO (rawInt s⁻¹)->IsPair h' tO u v->S1 (k+1) h'->S2 (k+1) h'->IsPair h' s⁻¹ u v->h'.objs.size=s⁻¹+1->
   (∀x o,x≠r->x≠tO->x≠i->x≠j->s.heap.get? x=some o->h'.get? x=some o)->Q (.ref s⁻¹) { s with heap:=h',toks:=tk}) :
  wpAny (model prog w) A (Builtin.«zip.__next__» ⟨[.ref r],[]⟩) (λfin s'=>∃v,fin=.done (.ret v)/\Q v s') E s:=by
 obtain⟨⟨p1,p2,p3,p4,p5,p6⟩,⟨q1,q2,q3,q4,q5⟩,⟨u1,u2,u3⟩,⟨v1,v2,v3,v4⟩⟩:=N;refine aS (m:=field (.ref r) 2) (l8 er rfl (x:=.bool false) rfl ?_);refine aS (m:=field (.ref r) 3) (l8 er rfl (x:=.ref tI) rfl (aS (tP eI rfl ?_)));refine aS (m:=Builtin.SmallTypes.ownedTupleIsFree (.ref r)) ?_;unfold Builtin.SmallTypes.ownedTupleIsFree;refine aS (l8 er rfl (x:=.none) rfl (d0 ?_));simp only[AI];refine aS (Cc (aS (l8 er rfl (x:=.ref tO) rfl (aS (y8 er ⋯ λha JT ka=>?_)))))
 replace JT:IsZip ha r tI tO .ellipsis:=JT;refine aS ?_;simp only[List.zipIdx_cons,List.zipIdx_nil,List.forIn_cons,List.forIn_nil];have t1a:S1 k ha:=D1.frame k _ _ t1 λx hx o e=>(ka.2 x (by rcases d5.mp hx with z |z;exact z▸p3;exact (i6.mp z)▸p5)).trans e
 have t2a:S2 k ha:=D2.frame k _ _ t2 λx hx o e=>(ka.2 x (by rcases d5.mp hx with z |z;exact z▸p4;exact (i6.mp z)▸p6)).trans e
 refine aS (aS (B8 (aS (m:=Builtin.SmallTypes.nextOf (.ref i)) (D1.item k { s with heap:=ha} _ _ hk1 t1a λu hb Mk fu t1b kb=>d0 ?_))))
 have kb:Heap.SameBut i ha hb:=kb;have Yt:IsPair hb tO c d:=(kb.2 _ (oI q2)).trans ((ka.2 _ p2).trans eO);refine aS (tP (s:={ s with heap:=hb,toks:=Mk}) Yt rfl (aS (wpAny_updateSeq_pair (s:={ s with heap:=hb,toks:=Mk}) Yt λhc eOc kc=>?_)))
 replace eOc:IsPair hc tO u d:=eOc;have kc:Heap.SameBut tO hb hc:=kc;refine aS (BU (d0 ?_));have t1c:S1 (k+1) hc:=D1.frame _ _ _ t1b λx hx o e=>(kc.2 x (by rcases d5.mp hx with z |z;exact z▸q2;exact (i6.mp z)▸q4)).trans e
 have t2c:S2 k hc:=D2.frame k _ _ t2a λx hx o e=>by
  have hx:x=j\/x=b:=by rcases d5.mp hx with z |z;exact .inl z;exact .inr (i6.mp z)
  rw[kc.2 x (by rcases hx with rfl |rfl;exact q3;exact q5),kb.2 x (by rcases hx with rfl |rfl;exact oI u3;exact v2)]
  exact e
 refine aS (aS (B8 (aS (m:=Builtin.SmallTypes.nextOf (.ref j)) (D2.item k { s with heap:=hc,toks:=Mk} _ _ hk2 t2c λv hd tk2 gv t2d kd=>d0 ?_))))
 have kd:Heap.SameBut j hc hd:=kd;have eOd:IsPair hd tO u d:=(kd.2 _ (oI q3)).trans eOc;refine aS (tP (s:={ s with heap:=hd,toks:=tk2}) eOd rfl (aS (wpAny_updateSeq_pair (s:={ s with heap:=hd,toks:=tk2}) eOd λhe eOe ke=>?_)))
 replace eOe:IsPair he tO u v:=eOe;have ke:Heap.SameBut tO hd he:=ke;refine aS (BU (d0 (d0 ?_)));refine aS (tP (s:={ s with heap:=he,toks:=tk2}) eOe rfl (aS (wpAny_newTuple ?_)));have sz:he.objs.size=s⁻¹:=by rw[ke.1,kd.1,kc.1,kb.1];exact ka.1
 have ere:IsZip he r tI tO .ellipsis:=by show he.get? r=_;rw[ke.2 _ (oI p2),kd.2 _ (oI p4),kc.2 _ (oI p2),kb.2 _ (oI p3)];exact JT
 have old:∀x o,x≠r->x≠tO->x≠i->x≠j->s.heap.get? x=some o->he.get? x=some o:=λx o x1 x2 x3 x4 e=>by
  rw[ke.2 _ x2,kd.2 _ x4,kc.2 _ x2,kb.2 _ x3];exact (ka.2 _ x1).trans e
 have t1e:S1 (k+1) he:=D1.frame _ _ _ t1c λx hx o e=>by
  have hx:x=i\/x=a:=by rcases d5.mp hx with z |z;exact .inl z;exact .inr (i6.mp z)
  rw[ke.2 x (by rcases hx with rfl |rfl;exact q2;exact q4),kd.2 x (by rcases hx with rfl |rfl;exact u3;exact v3)]
  exact e
 have t2e:S2 (k+1) he:=D2.frame _ _ _ t2d λx hx o e=>(ke.2 x (by rcases d5.mp hx with z |z;exact z▸q3;exact (i6.mp z)▸q5)).trans e
 refine aS (m:=Builtin.SmallTypes.ownedTupleHandOut (.ref r) (.ref he.objs.size)) ?_;unfold Builtin.SmallTypes.ownedTupleHandOut;have erf:IsZip (he.push { cls:=.type "tuple",data:=.seq #[u,v]}) r tI tO .ellipsis:=bP _ ere;refine aS (y8 erf ⋯ λhg erg kg=>?_)
 replace erg:IsZip hg r tI tO (rawInt he.objs.size):=erg;refine y8 erg ⋯ λhh erh kh=>?_
 replace erh:IsZip hh r tI tO (rawInt he.objs.size):=erh;have kg:Heap.SameBut r (he.push { cls:=.type "tuple",data:=.seq #[u,v]}) hg:=kg;have kh:Heap.SameBut r hg hh:=kh;have up:∀x o,x≠r->he.get? x=some o->hh.get? x=some o:=λx o x1 e=>by rw[kh.2 _ x1,kg.2 _ x1];exact bP _ e
 have rlt:r<he.objs.size:=eM ere;have new:IsPair hh he.objs.size u v:=by show hh.get? _=_;rw[kh.2 _ (AB rlt),kg.2 _ (AB rlt)];exact eA _ rfl
 have szh:hh.objs.size=he.objs.size+1:=by rw[kh.1,kg.1,nE]
 have fr1:∀x o,x=i\/x=a->he.get? x=some o->hh.get? x=some o:=λx o hx e=>up x o (by rcases hx with rfl |rfl;exact p3;exact p5) e
 have fr2:∀x o,x=j\/x=b->he.get? x=some o->hh.get? x=some o:=λx o hx e=>up x o (by rcases hx with rfl |rfl;exact p4;exact p6) e
 rw[sz]at erh new szh;refine d0 ⟨_,rfl,?_⟩;show Q (.ref he.objs.size) _;rw[sz];exact hQ u v hh tk2 fu gv erh (up _ _ p2 eOe) (D1.frame _ _ _ t1e λx hx o e=>fr1 x o (by rcases d5.mp hx with z |z;exact .inl z;exact .inr (i6.mp z)) e)
  (D2.frame _ _ _ t2e λx hx o e=>fr2 x o (by rcases d5.mp hx with z |z;exact .inl z;exact .inr (i6.mp z)) e) new szh λx o x1 x2 x3 x4 e=>up x o x1 (old x o x1 x2 x3 x4 e)
theorem Ml(N:Wr r tI tO i j a b)(D1:Draws prog w A i [i,a] n f S1)(D2:Draws prog w A j [j,b] m g S2)(hk:k=n\/(k<n/\k=m))
  (er:IsZip s.heap r tI tO .none) (eI:IsPair s.heap tI (.ref i) (.ref j)) (eO:IsPair s.heap tO c d) (t1:S1 k s.heap) (t2:S2 k s.heap)
  (hE:∀h' e tk,(∀x o,x≠r->x≠tO->x≠i->x≠j->s.heap.get? x=some o->h'.get? x=some o)->(∃o,h'.get? e=some o/\o.cls=.type "StopIteration")->E (.ref e) { s with heap:=h',toks:=tk}) :
  wpAny (model prog w) A (Builtin.«zip.__next__» ⟨[.ref r],[]⟩) Q E s:=by
 obtain⟨⟨p1,p2,p3,p4,p5,p6⟩,⟨q1,q2,q3,q4,q5⟩,⟨u1,u2,u3⟩,⟨v1,v2,v3,v4⟩⟩:=N;refine aS (m:=field (.ref r) 2) (l8 er rfl (x:=.bool false) rfl ?_);refine aS (m:=field (.ref r) 3) (l8 er rfl (x:=.ref tI) rfl (aS (tP eI rfl ?_)));refine aS (m:=Builtin.SmallTypes.ownedTupleIsFree (.ref r)) ?_;unfold Builtin.SmallTypes.ownedTupleIsFree;refine aS (l8 er rfl (x:=.none) rfl (d0 ?_));simp only[AI];refine aS (Cc (aS (l8 er rfl (x:=.ref tO) rfl (aS (y8 er ⋯ λha JT ka=>?_)))))
 replace JT:IsZip ha r tI tO .ellipsis:=JT;refine aS ?_;simp only[List.zipIdx_cons,List.zipIdx_nil,List.forIn_cons,List.forIn_nil];have t1a:S1 k ha:=D1.frame k _ _ t1 λx hx o e=>(ka.2 x (by rcases d5.mp hx with z |z;exact z▸p3;exact (i6.mp z)▸p5)).trans e
 have t2a:S2 k ha:=D2.frame k _ _ t2 λx hx o e=>(ka.2 x (by rcases d5.mp hx with z |z;exact z▸p4;exact (i6.mp z)▸p6)).trans e
 have stop:∀(hb:Heap) (e:Addr) (tk:Nat),IsZip hb r tI tO .ellipsis->(∃o,hb.get? e=some o/\o.cls=.type "StopIteration")->e≠r:=λhb e tk z ⟨o,h1,h2⟩ q=>by
  rw[q,z]at h1;cases h1;exact absurd (show Value.type "zip"=.type "StopIteration" from h2) ⋯
 rcases hk with rfl |⟨hk1,rfl⟩
 .
  refine aS (aS (B8 (aS (m:=Builtin.SmallTypes.nextOf (.ref i)) (D1.done { s with heap:=ha} _ _ t1a λhb e kb ex=>?_))))
  have kb:Heap.ExtBut i ha hb:=kb;have erb:IsZip hb r tI tO .ellipsis:=kb _ _ (oI p3) JT;have ner:=stop hb e s.toks erb ex;obtain⟨oe,x1,x2⟩:=ex;refine y8 (s:={ s with heap:=hb}) erb ⋯ λhc _ kc=>?_
  have kc:Heap.SameBut r hb hc:=kc;exact hE hc e s.toks (λx o y1 y2 y3 y4 z=>(kc.2 _ y1).trans (kb _ _ y3 ((ka.2 _ y1).trans z))) ⟨oe,(kc.2 _ ner).trans x1,x2⟩
 .
  refine aS (aS (B8 (aS (m:=Builtin.SmallTypes.nextOf (.ref i)) (D1.item k { s with heap:=ha} _ _ hk1 t1a λu hb Mk fu t1b kb=>d0 ?_))))
  have kb:Heap.SameBut i ha hb:=kb;have Yt:IsPair hb tO c d:=(kb.2 _ (oI q2)).trans ((ka.2 _ p2).trans eO);refine aS (tP (s:={ s with heap:=hb,toks:=Mk}) Yt rfl (aS (wpAny_updateSeq_pair (s:={ s with heap:=hb,toks:=Mk}) Yt λhc eOc kc=>?_)))
  have kc:Heap.SameBut tO hb hc:=kc;refine aS (BU (d0 ?_));have t2c:S2 k hc:=D2.frame k _ _ t2a λx hx o e=>by
   have hx:x=j\/x=b:=by rcases d5.mp hx with z |z;exact .inl z;exact .inr (i6.mp z)
   rw[kc.2 x (by rcases hx with rfl |rfl;exact q3;exact q5),kb.2 x (by rcases hx with rfl |rfl;exact oI u3;exact v2)]
   exact e
  refine aS (aS (B8 (aS (m:=Builtin.SmallTypes.nextOf (.ref j)) (D2.done { s with heap:=hc,toks:=Mk} _ _ t2c λhd e kd ex=>?_))))
  have kd:Heap.ExtBut j hc hd:=kd;have erd:IsZip hd r tI tO .ellipsis:=kd _ _ (oI p4) (by rw[kc.2 _ (oI p2),kb.2 _ (oI p3)];exact JT)
  have ner:=stop hd e s.toks erd ex;obtain⟨oe,x1,x2⟩:=ex;refine y8 (s:={ s with heap:=hd,toks:=Mk}) erd ⋯ λhe _ ke=>?_
  have ke:Heap.SameBut r hd he:=ke;exact hE he e Mk (λx o y1 y2 y3 y4 z=>(ke.2 _ y1).trans (kd _ _ y4 (by rw[kc.2 _ y2,kb.2 _ y3];exact (ka.2 _ y1).trans z))) ⟨oe,(ke.2 _ ner).trans x1,x2⟩
end
section
theorem GX{Q:Option Value->Shared->Prop}(N:Wr r tI tO i j a b)(D1:Draws prog w A.in1 i [i,a] n f S1)(D2:Draws prog w A.in1 j [j,b] m g S2)(hk1:k<n)(hk2:k<m)
  (er:IsZip s.heap r tI tO .none) (eI:IsPair s.heap tI (.ref i) (.ref j)) (eO:IsPair s.heap tO c d) (t1:S1 k s.heap) (t2:S2 k s.heap)
  (hQ:∀u v h' tk,f k u->g k v->IsZip h' r tI tO (rawInt s⁻¹)->IsPair h' tO u v->S1 (k+1) h'->S2 (k+1) h'->IsPair h' s⁻¹ u v->h'.objs.size=s⁻¹+1->
   (∀x o,x≠r->x≠tO->x≠i->x≠j->s.heap.get? x=some o->h'.get? x=some o)->Q (some (.ref s⁻¹)) { s with heap:=h',toks:=tk}):wpAny (model prog w) A (pyNext (.ref r)) Q E s:=by
 have ty:s.TypeIs (.ref r) "zip" :=⟨_,er,rfl⟩;unfold pyNext;exact aS (wpAny_attempt (pV (name:=Str.ofString "__next__") ty F.slot_zip_next (t7 F.slot_zip_next ty F.entry_zip_next
  (GR N D1 D2 hk1 hk2 er eI eO t1 t2 λu v h' tk b1 b2 b3 b4 b5 b6 b7 b8 b9=>d0 (hQ u v h' tk b1 b2 b3 b4 b5 b6 b7 b8 b9)) (F.args_zip_next_1 _))))
theorem vL(N:Wr r tI tO i j a b)(D1:Draws prog w A.in1 i [i,a] n f S1)(D2:Draws prog w A.in1 j [j,b] m g S2)(hk:k=n\/(k<n/\k=m))
  (er:IsZip s.heap r tI tO .none) (eI:IsPair s.heap tI (.ref i) (.ref j)) (eO:IsPair s.heap tO c d) (t1:S1 k s.heap) (t2:S2 k s.heap)
  (hQ:∀h' tk,(∀x o,x≠r->x≠tO->x≠i->x≠j->s.heap.get? x=some o->h'.get? x=some o)->Q none { s with heap:=h',toks:=tk}):wpAny (model prog w) A (pyNext (.ref r)) Q E s:=by
 have ty:s.TypeIs (.ref r) "zip" :=⟨_,er,rfl⟩;unfold pyNext;refine aS (wpAny_attempt (pV (name:=Str.ofString "__next__") ty F.slot_zip_next (t7 F.slot_zip_next ty F.entry_zip_next
  (Ml N D1 D2 hk er eI eO t1 t2 λh' e tk kp ex=>?_) (F.args_zip_next_1 _))))
 obtain⟨o,x1,x2⟩:=ex;exact aS (wpAny_isInstance (T:= "StopIteration") (b:=true) ⟨o,x1,x2⟩ isSubtype_stop (d0 (hQ _ tk kp)))
end
end
open L2 PySem.W SeqAt
section
theorem Inv.Tw{h':Heap}{t':Nat}{ch:List Addr}(I:L2.Inv X ah σ H s)(hf:∀b∈ch,jT X ah H b)(k:∀b o,b∉ch->s.heap.get? b=some o->h'.get? b=some o):L2.Inv X ah σ H { s with heap:=h',toks:=t'}:=by
 have nH:∀b u,H b=some u->b∉ch:=λb u e z=>by rw[(hf b z).1]at e;cases e
 refine I.step (g':=s.gens) (d':=s.drawn) (ch:=ch) (λb hb=>?_) (λb o _ _ hc e _=>k b o hc e) (λb o _ _ hc e _=>⟨o.slots,k b o hc e⟩) (λ_ _ _ _ n=>n) (λb o hc e=>⟨o,k b o hc e⟩) (λ_ _ e=>e) (λ_ _ _ e=>e) (λb ps e=>⟨#[],by rw[e];simp⟩) (λm hm=>?_) (λb u e=>?_) I.bare
 . obtain⟨f0,f1,f2,f3,f4,f5⟩:=hf b hb;exact⟨f3,f1,f4,f5⟩
 . obtain⟨o,es,ep,ho,rr⟩:=hm;exact⟨o,es,ep,k _ o (λz=>(hf _ z).2.1 rfl) ho,rr⟩
 .
  refine (I.hok b u e).stay (λc w hc q=>k c w (λz=>?_) q) (λ_ q=>q) λ_ _ q=>q
  rcases hc with rfl |hc
  . exact nH _ _ e z
  . exact nH _ _ hc z
theorem Inv.Tz{h':Heap}{t':Nat}{ch:List Addr}{xs:List V}{its:List Value}(I:L2.Inv X ah σ H s)(hf:∀b∈ch,jT X ah H b)(k:∀b o,b∉ch->s.heap.get? b=some o->h'.get? b=some o)(hz:xs.length<=sizeLine)(rv:Vals xs its)(ht:fc h' s⁻¹ its.toArray) :
  L2.Inv X ah σ (upd H s⁻¹ (.tup xs)) { s with heap:=h',toks:=t'}:=by
 have nH:∀b u,H b=some u->b∉ch:=λb u e z=>by rw[(hf b z).1]at e;cases e
 have fr:H s⁻¹=none:=I.hok.fresh (eJ _);have nn:∀b u,H b=some u->b≠s⁻¹:=λb u e z=>by rw[z,fr]at e;cases e
 refine I.step (g':=s.gens) (d':=s.drawn) (ch:=ch) (λb hb=>?_) (λb o _ _ hc e _=>k b o hc e) (λb o _ _ hc e _=>⟨o.slots,k b o hc e⟩) (λb o _ e n=>by rw[aq (hU (eM e))];exact n) (λb o hc e=>⟨o,k b o hc e⟩) (λb _ e=>by rw[aq (nn _ _ e)];exact e) (λb _ _ e=>by rw[aq (nn _ _ e)];exact e) (λb ps e=>⟨#[],by rw[aq (nn _ _ e),e];simp⟩) (λm hm=>?_) (λb u e=>?_) I.bare
 . obtain⟨f0,f1,f2,f3,f4,f5⟩:=hf b hb;exact⟨f3,f1,f4,f5⟩
 . obtain⟨o,es,ep,ho,rr⟩:=hm;exact⟨o,es,ep,k _ o (λz=>(hf _ z).2.1 rfl) ho,rr⟩
 .
  by_cases hb:b=s⁻¹
  . subst hb;rw[aA]at e;cases e;exact⟨hz,its,rv,ht⟩
  .
   rw[aq hb]at e;refine (I.hok b u e).stay (λc w hc q=>k c w (λz=>?_) q) (λc q=>by rw[aq (nn _ _ q)];exact q) λc _ q=>by rw[aq (nn _ _ q)];exact q
   rcases hc with rfl |hc
   . exact nH _ _ e z
   . exact nH _ _ hc z
end
theorem rE.P0(I:L2.Inv X ah σ H s)(h:rE tp X.K H u us)(f:jT X ah H c):u≠c:=λz=>by
 subst z;have inK:∀o,X.K.lookup u=some o->False:=λo e=>by
  have e0:=I.ok.mod.DP u o e;rcases f.2.2.2.1 with q |q
  . exact I.ok.uR u o e0 q
  . exact absurd (eQ (eM (I.ok.bs u o e0).1) q) (l9 _)
 cases tp with
 |true=>
  rcases (show fC X.K H u us from h)with (h |⟨o,h⟩) |h
  . rw[f.1]at h;cases h
  . rw[f.1]at h;cases h
  . obtain⟨o,_,_,h,_⟩:=h;exact inK _ h
 |false=>
  rcases (show bN X.K H u us from h)with (h |⟨o,h⟩) |h
  . rw[f.1]at h;cases h
  . rw[f.1]at h;cases h
  . obtain⟨o,_,_,h,_⟩:=h;exact inK _ h
noncomputable def Itz(tp:Bool)(K:Frag)(a b:Addr):It:=
 ⟨λi H=>∃xs ys x y,rE tp K H a xs/\rE tp K H b ys/\xs[i]?=some x/\ys[i]?=some y,λi H x H'=>∃p u v,(∀xs,rE tp K H a xs->xs[i]?=some u)/\(∀ys,rE tp K H b ys->ys[i]?=some v)/\H p=none/\x=.ref p/\H'=upd H p (.tup [u,v]),
  λi H=>∃xs ys,rE tp K H a xs/\rE tp K H b ys/\(i=xs.length\/(i<xs.length/\i=ys.length))⟩
theorem GZ{P:Program}{w:World}{K:Frag}{tp:Bool}{es:List Expr}{k:Nat}{pos:Pos}(r tI tO i j a b:Addr)(A1:tI≠r/\tO≠r/\i≠r/\j≠r)(A2:tI≠tO/\i≠tO/\j≠tO)(A3:tI≠i/\tI≠j/\i≠j) :
  Turn P w K (.Tuple es k pos) (Itz tp K a b) [r,tI,tO,i,j] r (λn h=>IsZip h r tI tO .none/\IsPair h tI (.ref i) (.ref j)/\(∃c d,IsPair h tO c d)/\JR tp h i a n/\JR tp h j b n) where
 mem:=by simp
 obj:=λn h st x hx=>by
  obtain⟨er,eI,⟨c,d,eO⟩,t1,t2⟩:=st;simp only[d5,i7,t8]at hx;rcases hx with rfl |rfl |rfl |rfl |rfl
  . exact⟨_,er,λv z=>nomatch (show Data.fields _=Data.cell v from z)⟩
  . exact⟨_,eI,λv z=>nomatch (show Data.seq _ _=Data.cell v from z)⟩
  . exact⟨_,eO,λv z=>nomatch (show Data.seq _ _=Data.cell v from z)⟩
  . obtain⟨o,vs,e1,e2⟩:=t1.obj;exact⟨o,e1,λv z=>by rw[e2]at z;cases z⟩
  . obtain⟨o,vs,e1,e2⟩:=t2.obj;exact⟨o,e1,λv z=>by rw[e2]at z;cases z⟩
 keep:=λn h h' st kp=>by
  obtain⟨er,eI,⟨c,d,eO⟩,t1,t2⟩:=st;exact⟨kp r ⋯ _ er,kp tI ⋯ _ eI,⟨c,d,kp tO ⋯ _ eO⟩,t1.keep λo q=>kp i ⋯ o q,t2.keep λo q=>kp j ⋯ o q⟩
 item:=by
  intro X hP hw hK hc n ah s σ H E I hf st hg;subst hP hw hK;obtain⟨er,eI,⟨c,d,eO⟩,t1,t2⟩:=st;obtain⟨xs,ys,x,y,qx,qy,gx,gy⟩:=hg;obtain⟨Yu,rx,Yv,zx⟩:=qx.real I;obtain⟨Yw,ry,Yx,zy⟩:=qy.real I;have nf:∀{u:Addr}{us:List V}{c:Addr},rE tp X.K H u us->c∈[r,tI,tO,i,j]->u≠c:=λh hc=>rE.P0 I h (hf _ hc)
  have N:Wr r tI tO i j a b:=⟨⟨A1.1,A1.2.1,A1.2.2.1,A1.2.2.2,nf qx ⋯,nf qy ⋯⟩,⟨A2.1,A2.2.1,A2.2.2,nf qx ⋯,nf qy ⋯⟩,A3,⟨nf qx ⋯,nf qy ⋯,nf qx ⋯,nf qy ⋯⟩⟩;have l1:n<Yu.length:=by rw[<- rx.length];exact (dC.mp gx).1
  have l2:n<Yw.length:=by rw[<- ry.length];exact (dC.mp gy).1
  refine GX (A:=X.A) N (tM (tp:=tp) (A:=X.A.in1) (I.ok.hd hc) (nf qx ⋯) Yu) (tM (tp:=tp) (A:=X.A.in1) (I.ok.hd hc) (nf qy ⋯) Yw) l1 l2 er eI eO ⟨t1,Yv⟩ ⟨t2,Yx⟩ λu v h1 tk fu gv JT eO1 s1 s2 new sz kp=>⟨_,rfl,?_⟩
  refine wpAny_letOwnedTupleGo_zip (s:={ s with heap:=h1,toks:=tk}) JT λh2 er2 k2=>?_
  have k2:Heap.SameBut r h1 h2:=k2;obtain⟨u',e1,ru⟩:=rx.get gx;obtain⟨v',e2,rv⟩:=ry.get gy;rw[fu]at e1;cases e1;rw[gv]at e2;cases e2;have pr:s⁻¹≠r:=AB (eM er);have kk:∀x o,x∉[r,tO,i,j]->s.heap.get? x=some o->h2.get? x=some o:=λx o hx e=>by
   simp only[d5,i7,t8,not_or]at hx;exact (k2.2 x hx.1).trans (kp x o hx.1 hx.2.1 hx.2.2.1 hx.2.2.2 e)
  have J:=Inv.Tz (t':=tk) (xs:=[x,y]) (its:=[u,v]) I (ch:=[r,tO,i,j]) (λc hc=>hf c (by simp only[d5,i7,t8]at hc ⊢;rcases hc with h |h |h |h <;> simp[h])) kk (by rw[mB];show 2<=16777216;decide) (.cons ru (.cons rv .nil)) ⟨_,(k2.2 _ pr).trans new,⟨rfl,_,rfl⟩,rfl⟩
  have eI2:IsPair h2 tI (.ref i) (.ref j):=kk _ _ (by simp[A1.1,A2.1,A3.1,A3.2.1]) eI
  refine⟨.ref s⁻¹,_,J,rfl,⟨_,x,y,λzs hz=>by rw[hz.inj I qx];exact gx,λzs hz=>by rw[hz.inj I qy];exact gy,I.hok.fresh (eJ _),rfl,rfl⟩,⟨er2,eI2,⟨u,v,(k2.2 _ A1.2.1).trans eO1⟩,s1.1.keep λo q=>(k2.2 _ A1.2.2.1).trans q,s2.1.keep λo q=>(k2.2 _ A1.2.2.2).trans q⟩,λc hc=>?_⟩
  have hcn:c≠s⁻¹:=λz=>by
   have:∃o,s.heap.get? c=some o:=by
    simp only[d5,i7,t8]at hc;rcases hc with rfl |rfl |rfl |rfl |rfl
    . exact⟨_,er⟩
    . exact⟨_,eI⟩
    . exact⟨_,eO⟩
    . obtain⟨o,_,e,_⟩:=t1.obj;exact⟨o,e⟩
    . obtain⟨o,_,e,_⟩:=t2.obj;exact⟨o,e⟩
   obtain⟨o,e⟩:=this;exact absurd (eM e) (by rw[z];exact l9 _)
  rw[aq hcn];exact (hf c hc).1
 done:=by
  intro X hP hw hK hc n ah s σ H E I hf st hg;subst hP hw hK;obtain⟨er,eI,⟨c,d,eO⟩,t1,t2⟩:=st;obtain⟨xs,ys,qx,qy,hn⟩:=hg;obtain⟨Yu,rx,Yv,zx⟩:=qx.real I;obtain⟨Yw,ry,Yx,zy⟩:=qy.real I;have nf:∀{u:Addr}{us:List V}{c:Addr},rE tp X.K H u us->c∈[r,tI,tO,i,j]->u≠c:=λh hc=>rE.P0 I h (hf _ hc)
  have N:Wr r tI tO i j a b:=⟨⟨A1.1,A1.2.1,A1.2.2.1,A1.2.2.2,nf qx ⋯,nf qy ⋯⟩,⟨A2.1,A2.2.1,A2.2.2,nf qx ⋯,nf qy ⋯⟩,A3,⟨nf qx ⋯,nf qy ⋯,nf qx ⋯,nf qy ⋯⟩⟩;refine vL (A:=X.A) N (tM (tp:=tp) (A:=X.A.in1) (I.ok.hd hc) (nf qx ⋯) Yu) (tM (tp:=tp) (A:=X.A.in1) (I.ok.hd hc) (nf qy ⋯) Yw) (by rw[<- rx.length,<- ry.length];exact hn) er eI eO ⟨t1,Yv⟩ ⟨t2,Yx⟩ λh1 tk kp=>⟨rfl,?_⟩
  exact Inv.Tw (t':=tk) I (ch:=[r,tO,i,j]) (λc hc=>hf c (by simp only[d5,i7,t8]at hc ⊢;rcases hc with h |h |h |h <;> simp[h])) λx o hx e=>by
   simp only[d5,i7,t8,not_or]at hx;exact kp x o hx.1 hx.2.1 hx.2.2.1 hx.2.2.2 e
 self:=λA n s Q E st h=>wpAny_pyIter_zip st.1 h
open L2 PySem.W SeqAt
section
noncomputable abbrev Yy(h:Heap)(a:Addr):Heap:=h.push { cls:=.type "tuple_iterator",data:=.fields #[.ref a,.int 0 0]}
abbrev zT2(h:Heap)(a b:Addr):Heap:=(Yy h a).push { cls:=.type "tuple_iterator",data:=.fields #[.ref b,.int 0 0]}
abbrev zT3(h:Heap)(a b:Addr):Heap:=(zT2 h a b).push { cls:=.type "tuple",data:=.seq #[.ref h.objs.size,.ref (Yy h a).objs.size]}
abbrev zT4(h:Heap)(a b:Addr):Heap:=(zT3 h a b).push { cls:=.type "tuple",data:=.seq #[.none,.none]}
abbrev Ws (h:Heap) (a b:Addr):Heap:=(zT4 h a b).push { cls:=.type "zip",data:=.fields #[.none,.bool false,.bool false,.ref (zT2 h a b).objs.size,.ref (zT3 h a b).objs.size]}
theorem yp(a b:Addr)(xs ys:Array Value) :
  Meets (Builtin.«zip.__new__» ⟨[.type "zip",.ref a,.ref b],[]⟩) (λ_ R s=>s.heap.IsTuple a xs/\s.heap.IsTuple b ys/\R (.ok (.ret (.ref (zT4 s.heap a b).objs.size))) { s with heap:=Ws s.heap a b}):=
 .of_wp λprog w A R s h=>by
  obtain⟨hp,g,d,tk,os⟩:=s;obtain⟨ta,tb,h⟩:=h;have hsub:=sub_zip;have T1:Heap.IsTuple (Shared.heap ⟨hp,g,d,tk,os⟩) a xs:=ta;have T2:Heap.IsTuple (Shared.heap ⟨Yy hp a,g,d,tk,os⟩) b ys:=by obtain⟨o,e,rr⟩:=tb;exact⟨o,bP _ e,rr⟩
  wp_walk using yY T1,yY T2
  exact⟨_,rfl,h⟩
theorem Cj(ta:s.heap.IsTuple a xs)(tb:s.heap.IsTuple b ys)
  (h:∀h',IsZip h' (s⁻¹+4) (s⁻¹+2) (s⁻¹+3) .none->IsPair h' (s⁻¹+2) (.ref s⁻¹) (.ref (s⁻¹+1))->
   IsPair h' (s⁻¹+3) .none .none->h'.IsTupleIter s⁻¹ a 0->h'.IsTupleIter (s⁻¹+1) b 0->h'.objs.size=s⁻¹+5->
   (∀c o,s.heap.get? c=some o->h'.get? c=some o)->Q (.ref (s⁻¹+4)) { s with heap:=h'}) :
  wpAny (model prog w) A (call (.type "zip") [.ref a,.ref b]) Q E s:=by
 refine callType_new F.called_zip ⋯ (F.typeCall_zip_2 _ _) (F.newCall_zip_2 _ _) (λobj=>F.args_object_init_3 obj _ _) F.entry_zip_new (yp a b xs ys) ⟨ta,tb,?_⟩
 have s1:(Yy s.heap a).objs.size=s⁻¹+1:=nE ..;have s2:(zT2 s.heap a b).objs.size=s⁻¹+2:=by rw[nE,s1]
 have s3:(zT3 s.heap a b).objs.size=s⁻¹+3:=by rw[nE,s2]
 have s4:(zT4 s.heap a b).objs.size=s⁻¹+4:=by rw[nE,s3]
 have o5:(Ws s.heap a b).get? (zT4 s.heap a b).objs.size=some _:=eA _ rfl;have o4:(Ws s.heap a b).get? (zT3 s.heap a b).objs.size=some _:=bP _ (eA _ rfl);have o3:(Ws s.heap a b).get? (zT2 s.heap a b).objs.size=some _:=bP _ (bP _ (eA _ rfl));have o2:(Ws s.heap a b).get? (Yy s.heap a).objs.size=some _:=bP _ (bP _ (bP _ (eA _ rfl)));have o1:(Ws s.heap a b).get? s⁻¹=some _:=bP _ (bP _ (bP _ (bP _ (eA _ rfl))));show _/\_;rw[s4]at o5 ⊢
 rw[s2,s3]at o5;rw[s2,s1]at o3;rw[s3]at o4;rw[s1]at o2;exact⟨⟨_,o5,rfl⟩,h _ o5 o3 o4 ⟨_,o1,rfl,rfl⟩ ⟨_,o2,rfl,rfl⟩ (by rw[nE,s4]) λc o e=>bP _ (bP _ (bP _ (bP _ (bP _ e))))⟩
end
noncomputable def o8(l m:List D):List D:=(l.zip m).map λp=>.tup [p.1,p.2]
theorem G0{l m:List D}{n:Nat}{d:D}(h:(o8 l m)[n]?=some d):∃x y,l[n]?=some x/\m[n]?=some y/\d=.tup [x,y]:=by
 unfold o8 at h;rw[sR]at h;cases e:(l.zip m)[n]? with
 |none=>rw[e]at h;cases h
 |some q=>rw[e]at h;cases h;obtain⟨h1,h2⟩:=List.getElem?_zip_eq_some.mp e;exact⟨q.1,q.2,h1,h2,rfl⟩
theorem G3(l m:List D):(o8 l m).length=min l.length m.length:=by simp[o8]
section
def isTup:D->Bool
 |.tup _=>true
 |_=>false
theorem Rep.sqX{K:Frag}{M:List Addr}{H:Hp}{d:D}{v:V}{l:List D}(r:Rep K M H d v)(h:cG d=some l):∃a xs,v=.ref a/\aG K M H l xs/\∀M2 H2,ao M H M2 H2->rE (isTup d) K H2 a xs:=by
 cases r with
 |@lst _ a xs hb rr=>cases h;exact⟨a,xs,rfl,rr,λM2 H2 st=>bN.of (st _ _ hb.2 hb.1).1⟩
 |@tup _ a xs hb rr=>
  cases h;refine⟨a,xs,rfl,rr,λM2 H2 st=>?_⟩
  have:TupAt K M2 H2 a xs:=by
   rcases hb with ⟨na,hr⟩ |hk
   . exact .inl (st.rd na hr)
   . exact .inr hk
  exact this.sq
 |@fix _ a xs hb rr=>
  cases h;refine⟨a,xs,rfl,rr,λM2 H2 st=>?_⟩
  have:oz K M2 H2 a xs:=by
   rcases hb with ⟨na,o,hr⟩ |hk
   . exact .inl ⟨(st _ _ hr na).2,o,(st _ _ hr na).1⟩
   . exact .inr hk
  exact this.sq
 |_=>cases h
theorem Cp(ta:AtX tp s.heap a xs)(tb:AtX tp s.heap b ys)
  (h:∀h',IsZip h' (s⁻¹+4) (s⁻¹+2) (s⁻¹+3) .none->IsPair h' (s⁻¹+2) (.ref s⁻¹) (.ref (s⁻¹+1))->
   IsPair h' (s⁻¹+3) .none .none->JR tp h' s⁻¹ a 0->JR tp h' (s⁻¹+1) b 0->h'.objs.size=s⁻¹+5->
   (∀c o,s.heap.get? c=some o->h'.get? c=some o)->Q (.ref (s⁻¹+4)) { s with heap:=h'}):wpAny (model prog w) A (call (.type "zip") [.ref a,.ref b]) Q E s:=by
 cases tp with
 |true=>exact Cj ta tb h
 |false=>exact call_zip_2 ta tb h
theorem TF{d1 d2:D}{l m:List D}(hK:z.K=X.K)(ha:cO X z [e1,e2] g [.dat d1,.dat d2] g1)(h1:cG d1=some l)(h2:cG d2=some m)(hkd:isTup d1=isTup d2)(hg:Gl X "zip")(hm:X.mg "zip"=none)(cA:starEach [e1,e2] X.env=(false,eval e1 X.env)::starEach [e2] X.env)(dQ:(backTo rp (starEach [e2] X.env)).any (·.1)=false) :
  cX X z (.Tuple es k pos) (.Call (.Name "zip" p) [e1,e2] [] rp) g (o8 l m) g1:=by
 refine cX.of λah s σ As M H Post I stt kk=>?_
 refine Call_ (gi I hg hm boot_zip (oP (ha.run I stt λvs us s1 H1 aN M1 I1 r1 q1 q2 q3=>?_) cA dQ))
 cases q3 with
 |dat rp1 R=>cases R with
  |dat rp2 R=>
   cases R;obtain⟨u1,u2,rfl,ru1,ru2⟩:=vals2 r1;obtain⟨a,xs,rfl,rr1,sq1⟩:=rp1.sqX h1;obtain⟨b,ys,rfl,PL,sq2⟩:=rp2.sqX h2;cases ru1;cases ru2;rw[<- hkd]at sq2;have sa:rE (isTup d1) X.K H1 a xs:=hK▸sq1 M1 H1 (ao.refl _ _);have sb:rE (isTup d1) X.K H1 b ys:=hK▸sq2 M1 H1 (ao.refl _ _);obtain⟨Yu,_,Yv,_⟩:=sa.real I1;obtain⟨Yw,_,Yx,_⟩:=sb.real I1;refine Cp Yv Yx λh' er eI eO t1 t2 jg hk=>kk _ _ λR kR=>?_
   refine wpAny_pyIter_zip er ?_;have I2:L2.Inv X ah σ H1 { s1 with heap:=h'}:=I1.kept (t':=s1.toks) hk;refine⟨_,[s1⁻¹+4,s1⁻¹+2,s1⁻¹+3,s1⁻¹,s1⁻¹+1],_,Itz (isTup d1) X.K a b,H1,rfl,I2,GZ (s1⁻¹+4) (s1⁻¹+2) (s1⁻¹+3) s1⁻¹ (s1⁻¹+1) a b (by refine⟨?_,?_,?_,?_⟩ <;> (intro q;have q:(_:Nat)=_:=q;lia)) (by refine⟨?_,?_,?_⟩ <;> (intro q;have q:(_:Nat)=_:=q;lia)) (by refine⟨?_,?_,?_⟩ <;> (intro q;have q:(_:Nat)=_:=q;lia)),⟨er,eI,⟨_,_,eO⟩,t1,t2⟩,λc hc=>?_,kR _ H1 aN M1 q1 q2 λM2 H2 aI=>?_⟩
   .
    have hle:s1⁻¹<=c:=by simp only[d5,i7,t8]at hc;rcases hc with rfl |rfl |rfl |rfl |rfl <;> lia
    exact I1.Eo hle (I1.hok.fresh hle)
   .
    have s1':=hK▸sq1 M2 H2 aI;have s2':=hK▸sq2 M2 H2 aI;have R1:=rr1.stay aI;have R2:=PL.stay aI;refine⟨λn d hd=>?_,xs,ys,s1',s2',?_⟩
    .
     obtain⟨x,y,f1,f2,rfl⟩:=G0 hd;obtain⟨vx,e2,e3⟩:=R1.get f1;obtain⟨vy,e4,e5⟩:=R2.get f2;refine⟨⟨xs,ys,vx,vy,s1',s2',e2,e4⟩,λw H' hy z' g' σ' az hz' s'=>?_⟩
     obtain⟨p,u,v,w1,w2,w3,rfl,rfl⟩:=hy;have w1:=w1 xs s1';have w2:=w2 ys s2';rw[e2]at w1;cases w1;rw[e4]at w2;cases w2;exact⟨s'.laid w3,ao.laid w3,.tup (.inl ⟨s'.fresh w3,.inl aA⟩) (.cons (e3.stay (ao.laid w3)) (.cons (e5.stay (ao.laid w3)) .nil))⟩
    . rw[G3,rr1.length,PL.length];lia
end
end Ev
namespace L2
def zJ(T:List Addr)(H:Hp):Prop:=∀b,(b∈T/\H b=some (.kN #[]))\/(b∉T/\(H b=none\/∃o xs,H b=some (.cB o (.lst xs))))
theorem Cq{P:Program}{w:World}{K:Frag}{mg mb:Str->Option Value}{CX:Be}{k:Nat}{fa a:Addr}{fd:FuncData}{x:Str}{sp:Sp}{s₁:Shared}{vs:List Value}{ns:List Int}{T:List Addr}
  (KX:K.In s₁.heap) (hT:∀q∈T,(∃c,s₁.heap.TableAt c q #[])/\K.lookup q=none) (hns:s₁.heap.Ns mainGlobals mg) (hb:s₁.heap.Ns builtinsNs mb) (hbb:∀x:Str,x≠ "__name__" ->mb x=bootBuiltins x) (hlim:s₁.heap.NoLimit) (hg:s₁.gens = #[])
  (ha:s₁.heap.get? a=some { cls:=.type "list",data:=.seq vs.toArray}) (hi:IntsAre vs ns) (hl:ns.length<=sizeLine) (hr:bQ k callerA)
  (F:∀base:Heap,K.In base->base.Ns mainGlobals mg->iT P w K mg base CX k fa fd [x] sp) (hbind:∀(s:Shared) (u:Value),BindsTo s fd ⟨[u],[]⟩ [(x,u)])
  (Wh:∀H:Hp,zJ T H->bN K H a (ns.map V.int)->sp [.ref a] H (λv _=>v=.bl true) λ_ _ _=>False)
  (hCX:∀H e s',CX [] H s₁ (λ_ _ _=>False) e s'->False) :
  codeAny (model P w) callerA (.call (.ref fa) ⟨[.ref a],[]⟩) (λr s'=>r=.ok (.ret (.bool true))/\OldK s₁.heap s'.heap/\s'.os=s₁.os/\AllBare s'.gens) s₁:=by
 have rv:=iL hi;have lenV:=hi.length;have aT:a∉T:=λh=>by
  obtain⟨⟨c,_,e⟩,_⟩:=hT a h;rw[ha]at e;cases e
 have core:∀H:Hp,zJ T H->bN K H a (ns.map V.int)->kO P w H s₁.heap->(∀b,H b≠none->b=a\/b∈T)->(H a≠none->K.lookup a=none)->
   codeAny (model P w) callerA (.call (.ref fa) ⟨[.ref a],[]⟩) (λr s'=>r=.ok (.ret (.bool true))/\OldK s₁.heap s'.heap/\s'.os=s₁.os/\AllBare s'.gens) s₁:=by
  intro H hO hS hok hA hK;have zK:∀{b:Addr}{o:Obj},s₁.heap.get? b=some o->H b=none->(sA s₁.heap H).get? b=some o:=λe n=>Ef e n
  have XD:∀{b:Addr}{o:Obj}{es:Array DictEntry}{ep:Nat},s₁.heap.get? b=some o->o.data=.dict es ep->H b=none:=λ{b o es ep} e d=>by
   cases q:H b with
   |none=>rfl
   |some u=>
    rcases hA b (by rw[q];simp)with e' |e'
    . subst e';rw[ha]at e;cases e;have d':Data.seq vs.toArray _=Data.dict es ep:=d;cases d'
    . obtain⟨⟨c,_,e2⟩,_⟩:=hT b e';rw[e]at e2;cases e2;have d':Data.fields #[]=Data.dict es ep:=d;cases d'
  have nsK:∀{b:Addr}{m:Str->Option Value},s₁.heap.Ns b m->(sA s₁.heap H).Ns b m:=λ{b m} ⟨o,es,ep,e,d,r⟩=>⟨o,es,ep,zK e (XD e d),d,r⟩
  have P1:K.In (sA s₁.heap H):=λb o e=>zK (KX b o e) (by
   cases q:H b with
   |none=>rfl
   |some u=>
    rcases hA b (by rw[q];simp)with e' |e'
    . subst e';rw[hK (by rw[q];simp)]at e;cases e
    .
     rw[(hT b e').2]at e;cases e)
  have hM:Mod K mg (sA s₁.heap H):=⟨P1,nsK hns,⟨mb,nsK hb,hbb⟩,let ⟨mc,h1,h2⟩:=hlim;⟨mc,nsK h1,h2⟩⟩
  have e0:Ew P w K mg (sA s₁.heap H) callerA [] s₁ H:=⟨rfl,hM,λb o e=>J4 e,Nat.le_of_eq (Ax _ _),trivial,λb hb=>absurd (show b∈([]:List Addr)from hb) ⋯,hok,.of_eq hg⟩
  refine AY ((F _ P1 (nsK hns)).run callerA [] s₁ H ⟨[.ref a],[]⟩ [.ref a] [.ref a] _ _ hr e0 (hbind s₁ (.ref a)) (.cons rfl .nil) (Wh H hO hS)) λr s' h=>?_
  cases r with
  |error e=>exact (hCX H e s' h).elim
  |ok fl=>
   cases fl with
   |next=>exact False.elim h
   |brk=>exact False.elim h
   |cont=>exact False.elim h
   |ret u=>
    obtain⟨v,H',os,bare,un,Mm,r',q⟩:=h;have q':v=.bl true:=q;subst q';obtain rfl:u=Value.bool true:=r';have tabs:∀b∈T,∀o,s₁.heap.get? b=some o->∃more,o={ cls:=.none,data:=.fields #[]}/\s'.heap.get? b=some { cls:=.none,data:=.fields more}:=λb hb o e=>by
     obtain⟨⟨c,_,e2⟩,_⟩:=hT b hb;rw[e]at e2;cases e2;rcases hO b with ⟨_,z⟩ |⟨z,_⟩
     . obtain⟨more,z2⟩:=un.jQ b _ z;exact⟨_,rfl,Mm b _ z2⟩
     . exact absurd hb z
    have rest:∀b,b∉T->∀o,s₁.heap.get? b=some o->s'.heap.get? b=some o:=λb hb o e=>by
     cases q:H b with
     |none=>exact un.keep b o e q (by intro z;exact absurd (show b∈([]:List Addr)from z) ⋯) ⋯
     |some u=>
      rcases hO b with ⟨z,_⟩ |⟨_,z⟩
      . exact absurd z hb
      .
       rcases z with z |⟨ob,xs,z⟩
       . rw[q]at z;cases z
       . have z2:=un.jP b ob _ z;obtain⟨e1,_⟩:=hok b _ z;obtain⟨e2,_⟩:=Mm b _ z2;rw[e]at e1;cases e1;exact e2
    refine⟨rfl,⟨λb o e=>?_,λb o e=>?_⟩,os,bare⟩
    .
     by_cases hb:b∈T
     . obtain⟨more,rfl,e2⟩:=tabs b hb o e;obtain⟨⟨c,t⟩,_⟩:=hT b hb;exact .inr (.inl ⟨t.isCodeTable,rfl,#[],more,rfl,by rw[e2];simp⟩)
     . exact .inl (rest b hb o e)
    .
     by_cases hb:b∈T
     . obtain⟨more,rfl,e2⟩:=tabs b hb o e;exact⟨_,e2⟩
     . exact⟨_,rest b hb o e⟩
 have G4:∀b∈T,s₁.heap.get? b=some { cls:=.none,data:=.fields #[]}:=λb hb=>by
  obtain⟨⟨c,_,e2⟩,_⟩:=hT b hb;exact e2
 cases hk:K.lookup a with
 |some o=>
  have e:=KX a o hk;rw[ha]at e;cases e;refine core (λb=>if b∈T then some (.kN #[])else none) (λb=>?_) (.inr ⟨_,vs.toArray,_,hk,rfl,rfl,rfl,by rw[dE,lenV];exact hl,by simpa using rv⟩) (λb u z=>?_) (λb z=>?_) λz=>absurd (hZ aT) z
  .
   by_cases hb:b∈T
   . exact .inl ⟨hb,gL hb⟩
   . exact .inr ⟨hb,.inl (hZ hb)⟩
  .
   by_cases hb:b∈T
   . have z':=(gL hb).symm.trans z;cases z';exact G4 b hb
   . have z':=(hZ hb).symm.trans z;cases z'
  .
   by_cases hb:b∈T
   . exact .inr hb
   . exact absurd (hZ hb) z
 |none=>
  refine core (λb=>if b∈T then some (.kN #[])else if b=a then some (.cB { cls:=.type "list",data:=.seq vs.toArray} (.lst (ns.map V.int)))else none) (λb=>?_) (.inl (.inr ⟨{ cls:=.type "list",data:=.seq vs.toArray},(hZ aT).trans (gL rfl)⟩)) (λb u z=>?_) (λb z=>?_) λ_=>hk
  .
   by_cases hb:b∈T
   . exact .inl ⟨hb,gL hb⟩
   .
    refine .inr ⟨hb,?_⟩;by_cases hb2:b=a
    . exact .inr ⟨_,_,(hZ hb).trans (gL hb2)⟩
    . exact .inl ((hZ hb).trans (hZ hb2))
  .
   by_cases hb:b∈T
   . have z':=(gL hb).symm.trans z;cases z';exact G4 b hb
   .
    have z1:=(hZ hb).symm.trans z;by_cases hb2:b=a
    . have z':=(gL hb2).symm.trans z1;cases z';subst hb2;exact⟨ha,by rw[d6];exact hl,vs,_,rv,ha⟩
    . have z':=(hZ hb2).symm.trans z1;cases z'
  .
   by_cases hb:b∈T
   . exact .inr hb
   .
    by_cases hb2:b=a
    . exact .inl hb2
    . exact absurd ((hZ hb).trans (hZ hb2)) z
end L2
namespace Ev
open L2
abbrev lG(p:Addr)(o:Obj):HO:=.ext λh=>h.get? p=some o
section
theorem S.grow(s:S z g σ As M H){q:Addr}{qn:Str}{ps:Array Value}{pos:Pos}{c:Addr}(hq:(q,qn)∈z.T)(hu:∀p∈z.T,p.1=q->p.2=qn)(hp:H q=some (.kN ps))(ht:TriplesOk ps.toList)(hc:H c=some (gI qn c))
  (ok:TriplesOk (ps ++ #[rawInt pos.line,rawInt pos.col,.ref c]).toList) (am:∀pos' cv,codeAmong pos' (ps ++ #[rawInt pos.line,rawInt pos.col,.ref c]).toList=some cv->codeAmong pos' ps.toList=some cv\/cv=.ref c) :
  S z g σ As M (upd H q (.kN (ps ++ #[rawInt pos.line,rawInt pos.col,.ref c]))) where
 sl:=s.sl.stay (ao.write (s.gJ _ (s.tm _ hq))) λa ha u e=>by
  rcases s.live a (s.sub a ha)with ⟨o,e2,gr⟩ |e2
  . rw[aq (λz=>by rw[z,hp]at e2;cases e2;exact gr)];exact e
  .
   exact absurd e2 (λw=>by
    have:∃xs,H a=some (.lst xs):=by
     have key:∀{g:G}{σ:Sg}{As:List Addr},Slots z.K M H g σ As->∀a∈As,∃xs,H a=some (.lst xs):=λq=>by
      induction q with
      |nil=>intro a h;cases h
      |no _ ih=>exact ih
      |dat _ _ ih=>exact ih
      |own e _ _ ih=>intro a h;rcases d5.mp h with rfl |h;exact⟨_,e⟩;exact ih a h
     exact key s.sl a ha
    obtain⟨xs,e3⟩:=this;exact s.PB e3 w)
 nd:=s.nd
 sub:=s.sub
 own:=s.own
 live:=λm hm=>by
  rcases s.live m hm with ⟨o,e,gr⟩ |e
  . exact .inl ⟨o,by rw[aq (λz=>by rw[z,hp]at e;cases e;exact gr)];exact e,gr⟩
  . exact .inr e
 keep:=λb u e hb hT=>by
  rw[aq (λz=>hT (by rw[z];exact i8.mpr ⟨_,hq,rfl⟩))];exact s.keep b u e hb hT
 gJ:=s.gJ
 m0:=s.m0
 bm:=s.bm
 gS:=s.gS
 tab:=λp h=>by
  have lam:∀d Wt,H d=some (gI Wt d)->upd H q (.kN (ps ++ #[rawInt pos.line,rawInt pos.col,.ref c])) d=some (gI Wt d):=λd Wt e=>by
   rw[aq (λz=>by rw[z,hp]at e;cases e)];exact e
  by_cases e:p.1=q
  .
   obtain⟨p1,p2⟩:=p;have e1:p1=q:=e;have e2:p2=qn:=hu _ h e;subst e1;subst e2;refine⟨_,aA,ok,λpos' cv ec=>?_⟩
   rcases am pos' cv ec with ec |rfl
   . obtain⟨ps',h1,_,h3⟩:=s.tab _ h;have h1:H p1=some (.kN ps'):=h1;rw[hp]at h1;cases h1;obtain⟨d,e1,e2⟩:=h3 pos' cv ec;exact⟨d,e1,lam d _ e2⟩
   . exact⟨c,rfl,lam c _ hc⟩
  .
   obtain⟨ps',h1,h2,h3⟩:=s.tab p h;refine⟨ps',by rw[aq e];exact h1,h2,λpos' cv ec=>?_⟩
   obtain⟨d,e1,e2⟩:=h3 pos' cv ec;exact⟨d,e1,lam d _ e2⟩
 tm:=s.tm
 tt:=s.tt
end
theorem tN(h:TriplesOk l):TriplesOk (l++[.int i a,.int j b,v]):=by
 fun_induction TriplesOk l with
 |case1=>trivial
 |case2 _ _ _ _ _ rest ih=>exact ih h
 |case3=>exact h.elim
theorem yq(h:TriplesOk l)(e:codeAmong pos (l++[.int i a,.int j b,v])=some cv):codeAmong pos l=some cv\/cv=v:=by
 fun_induction TriplesOk l with
 |case1=>
  simp only[A9,codeAmong]at e;split at e
  . exact .inr (oC e).symm
  . cases e
 |case2 line _ col _ c rest ih=>
  simp only[List.cons_append,codeAmong]at e ⊢
  split at e
  . rename_i q;rw[gL q];exact .inl e
  . rename_i q;rw[hZ q];exact ih h e
 |case3=>exact h.elim
section
theorem zL(hok:kO P w H h)(hq:H q=some (.kN ps))(hq':H' q=some (.kN (ps++more)))(k:∀b o,b≠q->h.get? b=some o->h'.get? b=some o)(tq:∃o,h'.get? q=some o)
  (kH:∀b,b<h.objs.size->b≠q->H' b=H b):Un fs [] H H' h h' where
 keep:=λb o e n _ _=>k b o (λz=>by rw[z,hq]at n;cases n) e
 slot:=λb o e n _ _=>⟨o.slots,k b o (λz=>by rw[z,hq]at n;cases n) e⟩
 free:=λb o e n _=>by rw[kH b (eM e) (λz=>by rw[z,hq]at n;cases n)];exact n
 there:=λb o e _=>by
  by_cases hb:b=q
  . subst hb;exact tq
  . exact⟨o,k b o hb e⟩
 tups:=λb xs e=>by rw[kH b (hok.lt e) (λz=>by rw[z,hq]at e;cases e)];exact e
 jP:=λb o u e=>by rw[kH b (hok.lt e) (λz=>by rw[z,hq]at e;cases e)];exact e
 jQ:=λb ps' e=>by
  by_cases hb:b=q
  . subst hb;rw[hq]at e;cases e;exact⟨_,hq'⟩
  . rw[kH b (hok.lt e) hb];exact⟨#[],by rw[e];simp⟩
end
section
theorem G5(e:h.get? p=some o):cI P w H h p (lG p o):=⟨e,⟨o,e⟩,λ_ _ e k=>k _ e⟩
theorem Mp(e:h.CodeRec (.ref c) q):cI P w H h c (gI q c):=by
 refine⟨e,?_,λh1 h2 e k=>?_⟩
 . obtain⟨c',o,vs,t,e1,e2,_⟩:=e;cases e1;exact⟨o,e2⟩
 . obtain⟨c',o,vs,t,e1,e2,e3⟩:=e;cases e1;exact⟨c,o,vs,t,rfl,k _ e2,e3⟩
theorem G6(I:L2.Inv X ah σ H s)(hs:S z g σ As M H)(hq:(q,qn)∈z.T)(hu:∀p∈z.T,p.1=q->p.2=qn)(hcode:X.env.code=.ref c)(C:PySem.W.CodeHd X.base c q)(hqn:X.env.qual ++ "<lambda>"=qn)
  (hb:X.base.BuiltinsAt X.mg q) (Yz:mainGlobals≠q) (hdef:defaultsOf params X.env=([],[])) (B:aH X.env.scope scope)
  (h:∀(p c':Addr) (gR:Value) (cl:List (Str×Addr)) (H':Hp) (s':Shared),L2.Inv X ah σ H' s'->S z g σ As M H'->ao M H M H'->p∉M->
   H' p=some (lG p (PySem.W.kla_obj "<lambda>" qn params body scope cl ((X.mg "__name__").getD .none) c' gR))->H' c'=some (gI qn c')->
   (∀x c,cl.lookup x=some c->X.env.cells.lookup x=some c/\(x,NameKind.free)∈scope.names)->(∀y∈scope.names,y.2=.free->∃c,cl.lookup y.1=some c)->(∀b xs,H b=some (.lst xs)->H' b=some (.lst xs))->Q (.ref p) s') :
  wpAny (model X.prog X.w) X.A (eval (.Lambda params body scope pos) X.env) Q E s:=by
 refine PySem.W.kla_eval hdef ?_;rw[hqn];obtain⟨ps,hp,ht,hcs⟩:=hs.tab _ hq;have hp:H q=some (.kN ps):=hp;have hP:s.heap.get? q=some (PySem.W.tabObj ps):=I.hok q _ hp;obtain⟨cl,hcl,Cr,Mq⟩:=oh (scope:=scope) (env:=X.env) λy hy e=>I.ok.has y.1 (by
  rcases B.free y hy e with e |e
  . exact .inl e
  .
   exact .inr e)
 have qlt:q<s⁻¹:=eM hP;cases hf:codeAmong pos ps.toList with
 |some cv=>
  obtain⟨c',rfl,hc'⟩:=hcs pos cv hf;refine PySem.W.kla_makeFunctionHit hcl I.ok.glob (I.ok.mod.glob.keeps I.bk) hcode (C.keeps I.bk) hP ht hf (hb.keeps I.bk) λgR h' tk hk jg=>?_
  have hk2:∀b o,s.heap.get? b=some o->(h'.push (PySem.W.kla_obj "<lambda>" qn params body scope cl ((X.mg "__name__").getD .none) c' gR)).get? b=some o:=λb o e=>bP _ (hk b o e)
  have fr:H h'.objs.size=none:=I.hok.fresh jg;have kH:∀b,b<s⁻¹->b≠q->upd H h'.objs.size (lG h'.objs.size (PySem.W.kla_obj "<lambda>" qn params body scope cl ((X.mg "__name__").getD .none) c' gR)) b=H b:=λb hb _=>aq (hU (eQ hb jg))
  have Wt:q≠h'.objs.size:=hU (eQ qlt jg);refine h _ c' gR cl (upd H h'.objs.size (lG h'.objs.size (PySem.W.kla_obj "<lambda>" qn params body scope cl ((X.mg "__name__").getD .none) c' gR))) _ (I.call' (s':={ s with heap:=h'.push (PySem.W.kla_obj "<lambda>" qn params body scope cl ((X.mg "__name__").getD .none) c' gR),toks:=tk}) (ch:=[]) rfl
   (zL (more:=#[]) I.hok hp (by rw[aq Wt,hp];simp) (λb o _ e=>hk2 b o e) ⟨_,hk2 _ _ hP⟩ kH) (I.hok.laid hk2 jg (G5 (eA _ rfl))) I.bare λb z=>nomatch z) (hs.laid fr) (ao.laid fr) (hs.fresh fr) aA ?_ Cr Mq λb xs e=>by rw[aq (aF e fr)];exact e
  rw[aq (λz=>by rw[z,fr]at hc';cases hc')];exact hc'
 |none=>
  refine PySem.W.kla_makeFunction hcl I.ok.glob (I.ok.mod.glob.keeps I.bk) hcode (C.keeps I.bk) hP ht hf Yz (hb.keeps I.bk) λc' gR h' tk hx hc1 hc2 YB hP'=>?_
  have jg:s⁻¹<=h'.objs.size:=CC (Nat.lt_of_le_of_lt hc1 hc2);have hk2:∀b o,b≠q->s.heap.get? b=some o->(h'.push (PySem.W.kla_obj "<lambda>" qn params body scope cl ((X.mg "__name__").getD .none) c' gR)).get? b=some o:=λb o ne e=>bP _ (hx b o ne e)
  have frc:H c'=none:=I.hok.fresh hc1;have frp:H h'.objs.size=none:=I.hok.fresh jg;have qc:q≠c':=hU (eQ qlt hc1);have qp:q≠h'.objs.size:=hU (eQ qlt jg);have cp:c'≠h'.objs.size:=hU hc2;have s1:=hs.laid (o:=gI qn c') frc;have e1:upd H c' (gI qn c') q=some (.kN ps):=by rw[aq qc];exact hp
  have s2:=s1.grow (pos:=pos) hq hu e1 ht aA (by rw[Array.toList_append];exact tN ht) (λpos' cv e=>yq ht (by rw[Array.toList_append]at e;exact e))
  have YC:upd (upd H c' (gI qn c')) q (.kN (ps ++ #[rawInt pos.line,rawInt pos.col,.ref c'])) h'.objs.size=none:=by rw[aq qp.symm,aq cp.symm];exact frp
  have s3:=s2.laid (o:=lG h'.objs.size (PySem.W.kla_obj "<lambda>" qn params body scope cl ((X.mg "__name__").getD .none) c' gR)) YC;have kH:∀b,b<s⁻¹->b≠q->upd (upd (upd H c' (gI qn c')) q (.kN (ps ++ #[rawInt pos.line,rawInt pos.col,.ref c']))) h'.objs.size (lG h'.objs.size (PySem.W.kla_obj "<lambda>" qn params body scope cl ((X.mg "__name__").getD .none) c' gR)) b=H b:=λb hb ne=>by
   rw[aq (hU (eQ hb jg)),aq ne,aq (hU (eQ hb hc1))]
  have hq3:upd (upd (upd H c' (gI qn c')) q (.kN (ps ++ #[rawInt pos.line,rawInt pos.col,.ref c']))) h'.objs.size (lG h'.objs.size (PySem.W.kla_obj "<lambda>" qn params body scope cl ((X.mg "__name__").getD .none) c' gR)) q=some (.kN (ps ++ #[rawInt pos.line,rawInt pos.col,.ref c'])):=by rw[aq qp];exact aA
  have hc3:upd (upd (upd H c' (gI qn c')) q (.kN (ps ++ #[rawInt pos.line,rawInt pos.col,.ref c']))) h'.objs.size (lG h'.objs.size (PySem.W.kla_obj "<lambda>" qn params body scope cl ((X.mg "__name__").getD .none) c' gR)) c'=some (gI qn c'):=by rw[aq cp,aq qc.symm];exact aA
  have hP2:=bP (PySem.W.kla_obj "<lambda>" qn params body scope cl ((X.mg "__name__").getD .none) c' gR) hP';have Mm:kO X.prog X.w (upd (upd (upd H c' (gI qn c')) q (.kN (ps ++ #[rawInt pos.line,rawInt pos.col,.ref c']))) h'.objs.size (lG h'.objs.size (PySem.W.kla_obj "<lambda>" qn params body scope cl ((X.mg "__name__").getD .none) c' gR))) (h'.push (PySem.W.kla_obj "<lambda>" qn params body scope cl ((X.mg "__name__").getD .none) c' gR)):=λb u e=>by
   by_cases b1:b=h'.objs.size
   . subst b1;rw[aA]at e;cases e;exact G5 (eA _ rfl)
   .
    by_cases b2:b=q
    . subst b2;rw[hq3]at e;cases e;exact hP2
    .
     by_cases b3:b=c'
     .
      subst b3;rw[hc3]at e;cases e;exact Mp (by
       obtain⟨d,o,vs,t,e1,e2,e3⟩:=YB;exact⟨d,o,vs,t,e1,bP _ e2,e3⟩)
     .
      rw[aq b1,aq b2,aq b3]at e;refine (I.hok b u e).stay (λd o hd eo=>hk2 d o (λz=>?_) eo) (λd ed=>?_) λd xs ed=>?_
      .
       rcases hd with hd |hd
       . exact b2 (hd▸z)
       . rw[z,hp]at hd;cases hd
      . rw[kH d (I.hok.lt ed) (λz=>by rw[z,hp]at ed;cases ed)];exact ed
      . rw[kH d (I.hok.lt ed) (λz=>by rw[z,hp]at ed;cases ed)];exact ed
  refine h _ c' gR cl _ _ (I.call' (s':={ s with heap:=h'.push (PySem.W.kla_obj "<lambda>" qn params body scope cl ((X.mg "__name__").getD .none) c' gR),toks:=tk}) (ch:=[]) rfl
   (zL I.hok hp hq3 hk2 ⟨_,hP2⟩ kH) Mm I.bare λb z=>nomatch z) s3 ?_ (hs.fresh frp) aA hc3 Cr Mq λb xs e=>by rw[aq (aF e frp),aq (λz=>by rw[z,hp]at e;cases e),aq (aF e frc)];exact e
  exact ((ao.laid frc).trans (ao.write (hs.gJ _ (hs.tm _ hq)))).trans (ao.laid YC)
end
noncomputable def vM(X:Cx)(N:List Str)(qual:Str)(scope:Scope)(p:Addr)(cd:Value)(cl:List (Str×Addr))(s:Shared)(H:Hp)(xe:Value->Shared->Prop):Cx where
 prog:=X.prog
 w:=X.w
 K:=X.K
 mg:=X.mg
 base:=X.base
 A:=X.A.deeper (PySem.W.envX qual scope s⁻¹ p cd cl)
 N:=N
 s₀:=s
 H₀:=H
 env:=PySem.W.envX qual scope s⁻¹ p cd cl
 outer:=X.stack
 stack:=PySem.W.envX qual scope s⁻¹ p cd cl::X.stack
 ex:=[]
 calm:=true
 fn:=λ_=>false
 pn:=[]
 xe:=xe
structure lH(N:List Str)(σ:Sg)(scope:Scope)(cl:List (Str×Addr))(H:Hp)(h:Heap):Prop where
 inj:∀x y c,cl.lookup x=some c->cl.lookup y=some c->x=y
 has:∀x,scope.names.lookup x=some .cell\/scope.names.lookup x=some .free->∃c,cl.lookup x=some c
 cell:∀x c,cl.lookup x=some c->H c=none/\∃v,h.IsCell c v
 loc:∀(i:Nat) (x:Str) (v:V),N[i]?=some x->σ[i]?=some (some v)->qk scope x->scope.names.lookup x=some .free/\∃u c,RelV v u/\cl.lookup x=some c/\h.IsCell c (some u)
 len:σ.length=N.length
section
theorem Mr(I:L2.Inv X ah σ H s)(hc:X.calm=true)(hk:scope.kind=.function)(C:lH N σ0 scope cl H s.heap)(hk₁:∀b o,s.heap.get? b=some o->h₁.get? b=some o)(hns:h₁.Ns s⁻¹ m) :
  L2.Inv (vM X N qual scope p cd cl s H xe) [] σ0 H { s with heap:=h₁,toks:=tk}:=by
 have e0:=I.Ko;refine⟨⟨e0.mod,hk,rfl,rfl,eJ _,C.inj,C.has,(λ_ _ h=>nomatch h),λ_=>I.ok.hd hc,Around.frames_deeper e0.frames,.inr ⟨rfl,rfl⟩,(λb z=>nomatch z),e0.bs,e0.Eg,(λ_ _ _ z=>nomatch z),(λb z=>nomatch z),e0.jR,e0.J6⟩,
  rfl,e0.bare,Un.kept hk₁,⟨m,hns,λi x v h1 h2 h3=>?_⟩,λx c e=>?_,e0.hok.fresh (eJ _),λx c e=>(C.cell x c e).1,(λp hp=>nomatch hp),e0.hok.kept hk₁,C.len⟩
 . obtain⟨f,u,c,r,e1,e2⟩:=C.loc i x v h1 h2 h3;exact⟨u,r,.inr ⟨.inr f,c,e1,e2.keeps hk₁⟩⟩
 . obtain⟨v,q⟩:=(C.cell x c e).2;exact⟨v,q.keeps hk₁⟩
theorem G7{z:Z}{g g':G}{As M:List Addr}{body:Expr}{params:Arguments}{pm gR:Value}{c' C:Addr}{R:Result->Shared->Prop}(I:L2.Inv X ah σ H s)(hc:X.calm=true)(hroom:X.A.depth<recursionLimit)
  (hp:s.heap.get? p=some (PySem.W.kla_obj "<lambda>" qual params body scope cl pm c' gR)) (YB:s.heap.CodeRec (.ref c') qual) (hpar:bindArgs (PySem.W.kla_fn "<lambda>" qual params body scope cl pm (.ref c') gR) ⟨[],[]⟩=pure [])
  (hco:scope.isCoroutine=false) (hgen:scope.isGenerator=false) (hk:scope.kind=.function) (hnc:∀x∈scope.names,x.2≠.cell) (Cl:lH N σ0 scope cl H s.heap) (hS:S z g σ0 As M H)
  (hb:∀xe,PassesOwn (model X.prog X.w) (X.A.deeper (PySem.W.envX qual scope s⁻¹ p (.ref c') cl)) (PySem.W.envX qual scope s⁻¹ p (.ref c') cl) xe->zD (vM X N qual scope p (.ref c') cl s H xe) z body g C g')
  (hR:∀x H1 aN M1 s'',DT X.prog X.w X.stack H s (λc o h=>c=.ref C/\o=none/\h=H1) (.ref x) s''->S z g' σ0 aN M1 H1->ao M H M1 H1->R (.error (.ref x)) s'') :
  codeAny (model X.prog X.w) X.A (.call (.ref p) ⟨[],[]⟩) R s:=by
 refine PySem.W.kla_callFunE hroom hp rfl hco hgen rfl YB ?_;rw[hpar];refine d0 (wpAny_newFunctionEnv hnc (λy hy=>nomatch hy) (λh₁ hns hsb=>⟨(I.nolimit).fresh _ hsb,?_⟩) hk)
 have hk₁:∀b o,s.heap.get? b=some o->h₁.get? b=some o:=λb o e=>hsb.extBut b o (hU (eM e)) (bP _ e)
 refine PySem.W.kla_codeExpr ?_;obtain⟨t,q,k⟩:=hb (λe' s'=>wpAny (model X.prog X.w) (X.A.deeper (PySem.W.envX qual scope s⁻¹ p (.ref c') cl)) (leaving (PySem.W.envX qual scope s⁻¹ p (.ref c') cl) e') (λ_ s''=>R (.error e') s'') (λe'' s''=>R (.error e'') s'') s') PassesOwn.leaving
 have J:=Mr (N:=N) (qual:=qual) (p:=p) (cd:=.ref c') (σ0:=σ0) (tk:=s.toks+([]:List (Str×Value)).length) (xe:=λe' s'=>wpAny (model X.prog X.w) (X.A.deeper (PySem.W.envX qual scope s⁻¹ p (.ref c') cl)) (leaving (PySem.W.envX qual scope s⁻¹ p (.ref c') cl) e') (λ_ s''=>R (.error e') s'') (λe'' s''=>R (.error e'') s'') s') I hc hk Cl hk₁ hns
 refine i9 (q [] _ σ0 H (λ_ _=>False) J (k σ0 As M H _ hS λpins1 s1 H1 aN M1 x I1 S1 st fl=>?_)) (λv s' h=>?_) λ_ _ h=>h
 . exact qY I1 rfl rfl rfl fl λs'' cx=>hR x H1 aN M1 s'' cx S1 st
 . obtain⟨_,_,_,_,h⟩:=h;exact h.elim
end
section
theorem Inv.cnl(I:L2.Inv X [] σ H s):∀y c,X.env.cells.lookup y=some c->c≠X.env.locals:=λy c e q=>by
 obtain⟨v,o,h1,h2⟩:=I.cell y c e;obtain⟨m,⟨o',es,ep,h3,h4,_⟩,_⟩:=I.loc;rw[q,h3]at h1;cases h1;rw[h4]at h2;cases h2
theorem Inv.touch(I:L2.Inv X [] σ H s)(hp:X.pn=[])(hT:X.s₀.heap.get? T=none)(hH:H T=none)(hf:∃o vs,s.heap.get? T=some o/\o.data=.fields vs)(k:∀b o,b≠T->s.heap.get? b=some o->h'.get? b=some o)(kT:∃o,h'.get? T=some o) :
  L2.Inv X [] σ H { s with heap:=h'}:=by
 obtain⟨oT,ts,eT,dT⟩:=hf;have Ms:∀b o,X.s₀.heap.get? b=some o->b≠T:=λb o e q=>by rw[q,hT]at e;cases e
 have YD:∀b o,s.heap.get? b=some o->(∀vs,o.data≠.fields vs)->b≠T:=λb o e d q=>by rw[q,eT]at e;cases e;exact d _ dT
 have cellK:∀c v,s.heap.IsCell c v->h'.IsCell c v:=λc v ⟨o,e,d⟩=>⟨o,k c o (YD c o e λvs q=>by rw[d]at q;cases q) e,d⟩
 obtain⟨m,⟨o,es,ep,e,d,r⟩,hlk⟩:=I.loc;refine⟨I.ok,I.os,I.bare,⟨λb o e n hb hx=>?_,λb o e n hb hx=>?_,I.base.free,λb o e hx=>?_,I.base.tups,I.base.jP,I.base.jQ⟩,⟨m,⟨o,es,ep,k _ _ (YD _ _ e λvs q=>by rw[d]at q;cases q) e,d,r⟩,λi y v h1 h2 h3=>?_⟩,λy c e=>?_,I.free,I.dz,λp hp2=>?_,λb u e=>?_,I.len⟩
 . exact k b o (Ms b o e) (I.base.keep b o e n hb hx)
 . obtain⟨sl,e1⟩:=I.base.slot b o e n hb hx;exact⟨sl,k b _ (Ms b o e) e1⟩
 . obtain⟨o',e1⟩:=I.base.there b o e hx;exact⟨o',k b _ (Ms b o e) e1⟩
 . obtain⟨u,r,q⟩:=hlk i y v h1 h2 h3;exact⟨u,r,q.imp id λ⟨q1,c,q2,q3⟩=>⟨q1,c,q2,cellK c _ q3⟩⟩
 . obtain⟨v,q⟩:=I.cell y c e;exact⟨v,cellK c v q⟩
 . rw[hp]at hp2;cases hp2
 .
  refine (I.hok b u e).stay (λc w hc q=>k c w (λz=>?_) q) (λ_ q=>q) λ_ _ q=>q
  subst z;rcases hc with rfl |hc
  . rw[hH]at e;cases e
  . rw[hH]at hc;cases hc
theorem vN(I:L2.Inv X [] σ H s)(hp:X.pn=[])(fl:uL X.s₀.heap x C H s.heap)(h:∀s',L2.Inv X [] σ H s'->uL X.s₀.heap x C H s'.heap->Q () s') :
  wpAny M A (setFlight (.ref x) none) Q E s:=by
 obtain⟨⟨oe,vs,he,hc,bH,hd,jg,hT⟩,Wm,Wn⟩:=id fl;unfold setFlight;rcases hT with hT |⟨T,oT,ts,h1,Te,hTn,hTH,JN,JQ,h3⟩
 . refine aS (l8 he hd hT ?_);rw[hZ ⋯];exact d0 (h s I fl)
 .
  refine aS (l8 he hd h1 ?_);rw[gL (show (Value.ref T != Value.none)=true from by simp)]
  refine AV JN JQ (xI.mp h3).1 ?_;have other:∀b,b≠T->(s.heap.update T (Obj.mapFields (·.setIfInBounds 3 Value.none))).get? b=s.heap.get? b:=λb hb=>gN _ _ (oI hb)
  have YF:=v6 JQ (·.setIfInBounds 3 Value.none);have Lk:=oQ (Obj.mapFields (·.setIfInBounds 3 Value.none)) JN (y7 YF);refine h _ (Inv.touch I hp hTn hTH ⟨oT,ts,JN,JQ⟩ (λb o hb e=>(other b hb).trans e) ⟨_,Lk⟩) ⟨⟨oe,vs,(other x (oI Te)).trans he,hc,bH,hd,jg,.inr ⟨T,_,_,h1,Te,hTn,hTH,Lk,YF,?_⟩⟩,Wm,Wn⟩
  have:=(xI.mp h3).1;simp[this]
theorem Inv.TJ(I:L2.Inv X [] σ H s)(hp:X.pn=[])(fl:uL X.s₀.heap x C H s.heap):L2.Inv X [] σ (upd H x (xS C x)) s:=by
 obtain⟨⟨oe,vs,he,hc,bH,hd,jg,hT⟩,Wm,Wn⟩:=id fl;have Ms:∀b o,X.s₀.heap.get? b=some o->b≠x:=λb o e q=>by rw[q,Wm]at e;cases e
 have YD:∀b o,s.heap.get? b=some o->(∀vs,o.data≠.fields vs)->b≠x:=λb o e d q=>by rw[q,he]at e;cases e;exact d _ hd
 have YG:∀b u,H b=some u->b≠x:=λb u e q=>by rw[q,Wn]at e;cases e
 refine⟨I.ok,I.os,I.bare,⟨I.base.keep,I.base.slot,λb o e n hx=>?_,I.base.there,λb xs e=>?_,λb o u e=>?_,λb ps e=>?_⟩,I.loc,I.cell,?_,λy c e=>?_,λp hp2=>?_,λb u e=>?_,I.len⟩
 . rw[aq (Ms b o e)];exact I.base.free b o e n hx
 . have:=I.base.tups b xs e;rw[aq (YG _ _ this)];exact this
 . have:=I.base.jP b o u e;rw[aq (YG _ _ this)];exact this
 . obtain⟨more,this⟩:=I.base.jQ b ps e;exact⟨more,by rw[aq (YG _ _ this)];exact this⟩
 . obtain⟨m,⟨o,es,ep,e,d,_⟩,_⟩:=I.loc;rw[aq (YD _ _ e λvs q=>by rw[d]at q;cases q)];exact I.free
 . obtain⟨v,o,e1,d⟩:=I.cell y c e;rw[aq (YD _ _ e1 λvs q=>by rw[d]at q;cases q)];exact I.dz y c e
 . rw[hp]at hp2;cases hp2
 .
  by_cases hb:b=x
  .
   subst hb;rw[aA]at e;cases e;refine⟨⟨oe,he,hc,?_,bH⟩,⟨oe,he⟩,λh1 h2 ⟨o,q,r⟩ k=>⟨o,k o q,r⟩⟩
   unfold PySem.W.notCls;rw[hd]
  . rw[aq hb]at e;exact (I.hok b u e).stay (λ_ _ _ q=>q) (λc q=>by rw[aq (YG _ _ q)];exact q) λc xs q=>by rw[aq (YG _ _ q)];exact q
abbrev Cx.marked(X:Cx)(e:Value)(E:Value->Shared->Prop):Cx:={ X with A:=X.A.mark (some e),calm:=false,xe:=E}
theorem Inv.marked(I:L2.Inv X ah σ H s)(e:Value)(E:Value->Shared->Prop):L2.Inv (Cx.marked X e E) ah σ H s:=
 ⟨⟨I.ok.mod,I.ok.kind,I.ok.glob,I.ok.blt,I.ok.above,I.ok.inj,I.ok.has,I.ok.QD,(λh=>nomatch h),I.ok.frames,I.ok.stk,I.ok.Wf,I.ok.bs,I.ok.Eg,I.ok.uR,I.ok.xA,I.ok.jR,I.ok.J6⟩,I.os,I.bare,I.base,I.loc,I.cell,I.free,I.dz,I.pin,I.hok,I.len⟩
theorem Inv.unmarked(ok:X.Ok)(I:L2.Inv (Cx.marked X e E) ah σ H s):L2.Inv X ah σ H s:=
 ⟨ok,I.os,I.bare,I.base,I.loc,I.cell,I.free,I.dz,I.pin,I.hok,I.len⟩
theorem Inv.gone(I:L2.Inv X [] σ H s)(hp:X.pn=[])(hN:X.N.Nodup)(hi:X.N[i]?=some n)(hlk:∀(j:Nat) (y:Str) (v:V),X.N[j]?=some y->σ[j]?=some (some v)->qk X.env.scope y->∃u,RelV v u/\Look X.env s.heap m y u)
  {h':Heap}{w:Option Value}{tk:Nat} (hn':h'.Ns X.env.locals (λy=>if y=n then w else m y)) (hs:Heap.SameBut X.env.locals s.heap h'):L2.Inv X [] (σ.set i none) H { s with heap:=h',toks:=tk}:=by
 have Ms:∀b o,X.s₀.heap.get? b=some o->b≠X.env.locals:=λb o e=>hU (eQ (eM e) I.ok.above)
 refine⟨I.ok,I.os,I.bare,⟨λb o e n hb hx=>?_,λb o e n hb hx=>?_,I.base.free,λb o e hx=>?_,I.base.tups,I.base.jP,I.base.jQ⟩,⟨_,hn',λj y v h1 h2 h3=>?_⟩,λy c e=>?_,I.free,I.dz,λp hp2=>?_,λb u e=>?_,by rw[u7];exact I.len⟩
 . exact (hs.2 b (Ms b o e)).trans (I.base.keep b o e n hb hx)
 . obtain⟨sl,e1⟩:=I.base.slot b o e n hb hx;exact⟨sl,(hs.2 b (Ms b o e)).trans e1⟩
 . obtain⟨o',e1⟩:=I.base.there b o e hx;exact⟨o',(hs.2 b (Ms b o e)).trans e1⟩
 .
  by_cases hj:j=i
  .
   subst hj;have hl:j<σ.length:=by rw[I.len];exact (dC.mp h1).1
   rw[i4 hl]at h2;cases h2
  .
   rw[fN (oI hj)]at h2;obtain⟨u,r,q⟩:=hlk j y v h1 h2 h3;refine⟨u,r,?_⟩;have hyn:y≠n:=λq=>hj (nU hN h1 (q▸hi))
   rcases q with ⟨k,e⟩ |⟨k,c,e,z⟩
   . exact .inl ⟨k,by show (if y=n then w else m y)=some u;rw[hZ hyn];exact e⟩
   . exact .inr ⟨k,c,e,z.sameBut hs (Inv.cnl I y c e)⟩
 . obtain⟨v,q⟩:=I.cell y c e;exact⟨v,q.sameBut hs (Inv.cnl I y c e)⟩
 . rw[hp]at hp2;cases hp2
 .
  refine (I.hok b u e).stay (λc w hc q=>(hs.2 c (λz=>?_)).trans q) (λ_ q=>q) λ_ _ q=>q
  subst z;rcases hc with hc |hc
  . rw[<- hc,I.free]at e;cases e
  . rw[I.free]at hc;cases hc
end
end Ev
namespace PySem
section
theorem iY{h:Heap}{g:Array GenState}{d:Drawn}{t:Nat}{os:OsState}{e:Addr}{oe:Obj}{Q:Bool->Shared->Prop}
  (hC:h.get? C=some (excClassObj nm q C N bs bm hdct sn sub ab col dd k0 k1 k2 k3 k5 newId)) (hD:h.get? D=some (excClassObj nm' q' D N' bs' bm' YH sn' sub' ab' col' dd' k0' k1' k2' k3' k5' newId'))
  (he:h.get? e=some oe) (hcls:oe.cls=.ref C) (hbase:bm'.contains (.type "BaseException")=true) (hup:(Value.ref C::bm).contains (.ref D)=true)
  (hq:Q true ⟨h,g,d,t,os⟩):wpAny M A (excMatches (.ref e) (.ref D)) Q E ⟨h,g,d,t,os⟩:=by
 have hcB:(Value.ref D::bm').contains (.type "BaseException")=true:=by rw[List.contains_cons,hbase,Bool.or_true]
 have f:=tc_notTuple;unfold excMatches
 repeat (first | (with_reducible refine wpAny_loadPart_at he ?_;rw[hcls]) |with_reducible refine wpAny_loadPart_at hD ?_ | (with_reducible refine wpAny_isSubtype_exc hD ?_;rw[hcB]) | (with_reducible refine wpAny_isSubtype_exc hC ?_;rw[hup]) |wp_step)
 exact hq
end
end PySem
namespace Ev
open L2
noncomputable def tQ(K:Frag)(C D:Addr):Bool:=match K.lookup C with
 |some ⟨_,_,.cls cd,_⟩=>cd.mro.contains (.ref D)
 |_=>false
section
variable{x C D:Addr}
theorem Cv(I:L2.Inv X [] σ H s)(hp:X.pn=[])(cA:X.stack=X.env::X.outer)(hf:X.env.frame=some X.env.locals)(hex:X.ex=[])(fl:uL X.s₀.heap x C H s.heap)(hN:X.N.Nodup)
  (hg:Gl X ke) (hm:X.mg ke=some (.ref D)) (gX:(ke==("__debug__":Str))=false) (qC:eS X.K C) (qD:eS X.K D) (up:tQ X.K C D=true)
  (hie:X.N[ie]?=some en) (len:X.env.scope.names.lookup en=some .local) (den:(en==("__debug__":Str))=false) (cen:(en==("__classdict__":Str))=false)
  (hir:X.N[ir]?=some er) (ler:Loc X.env.scope er) (fer:X.fn er=true\/X.env.scope.names.lookup er=some .local) (hsw:swapsWith (.Name en vO) (some (.Name er vP)) bX.line X.env=pure false)
  (h:∀s',L2.Inv X [] (((σ.set ie (some (.ref x))).set ir (some (.ref x))).set ie none) (upd H x (xS C x)) s'->Q .next s') :
  wpAny (model X.prog X.w) X.A (noteFrame (.ref x) X.env) (λ_ s2=>wpAny (model X.prog X.w) X.A (setFlight (.ref x) none) (λ_ s3=>wpAny (model X.prog X.w) X.A (handleBy (.ref x) X.env [.ExceptHandler (some (.Name ke kp)) (some en) [.Assign [.Name er vP] (.Name en vO) bX] qj]) Q E s3) E s2) E s:=by
 refine Ca I hp cA hf hex fl λs2 I2 fl2=>?_
 refine wpAny_handleBy_cons (codeAny_handlers_test ?_) (by intro q;cases q)
 refine eU (X:=Cx.marked X (.ref x) E) (Inv.marked I2 _ _) hg hm ?_ gX;obtain⟨bm,N,nm,qn,bs,hdct,sn,sub,ab,col,dd,k0,k1,k2,k3,k5,mN,hC,_,_,TC⟩:=tH I2.mR qC;obtain⟨bm',N',nm',Wt,bs',YH,sn',sub',ab',col',dd',k0',k1',k2',k3',k5',mN',hD,_,_,TD⟩:=tH I2.mR qD;obtain⟨⟨oe,vs,he,hc,_⟩,_⟩:=id fl2;have hup:(Value.ref C::bm).contains (.ref D)=true:=by
  unfold tQ at up;split at up
  . rename_i cd _ ho;have:=(I2.mR _ _ ho).symm.trans hC;cases this;exact up
  . cases up
 obtain⟨hh,gg,dr,tt,oo⟩:=s2;refine iY hC hD he hc (TD.hasType ⋯) hup ?_;refine codeAny_handlers_suite_as ?_;refine vN I2 hp fl2 λs3 I3 fl3=>?_
 have I4:=Inv.TJ I3 hp fl3;refine jS I4 hN hie (.inl len) (v:=.ref x) rfl (λs5 I5=>?_) (.inr len)
 have hl:ie<σ.length:=by rw[I.len];exact (dC.mp hie).1
 refine i9 (((J9 (nX (X:=Cx.marked X (.ref x) (λ_ _=>False)) hN hir ler (fZ hie (.inl len) den cen) hsw fer)) [] s5 _ _ { nx:=λσ' H'=>σ'=(σ.set ie (some (.ref x))).set ir (some (.ref x))/\H'=upd H x (xS C x),rt:=λ_ _=>False} (Inv.marked I5 _ _) ⟨.ref x,i4 hl,rfl,rfl⟩)) (λf s6 q=>?_) λ_ _ z=>False.elim z
 cases f with
 |next=>
  obtain⟨σ',H',I6,rfl,rfl⟩:=q;have I7:=Inv.unmarked I.ok I6;obtain⟨m,hn,hlk⟩:=id I7.loc;refine wpAny_nameGoes_keeps (m:=m) len hn (by rw[I.ok.kind];rfl) λh' w hn' hs=>?_
  exact h _ (Inv.gone I7 hp hN hie hlk hn' hs)
 |ret v=>obtain⟨_,_,_,_,_,q⟩:=q;exact q.elim
 |brk=>obtain⟨_,_,_,q⟩:=q;exact q.elim
 |cont=>obtain⟨_,_,_,q⟩:=q;exact q.elim
end
noncomputable abbrev zN(z:Z)(M:List Addr)(H:Hp):Z:=⟨z.K,H,M,[],z.T⟩
def noOwn:Slot->Slot
 |.own _=>.no
 |s=>s
section
variable{g g':G}
theorem Slots.noOwn{K:Frag}(q:Slots K M H g σ As):Slots K M H (g.map Ev.noOwn) σ []:=by
 induction q with
 |nil=>exact .nil
 |no _ ih=>exact .no ih
 |dat r _ ih=>exact .dat r ih
 |own _ _ _ ih=>exact .no ih
theorem Slots.nos'{K:Frag}(σ:Sg):Slots K M H (List.replicate σ.length .no) σ []:=by
 induction σ with
 |nil=>exact .nil
 |cons v σ ih=>exact .no ih
theorem Cw{i:Nat}{l:List D}(h:(g.map Ev.noOwn)[i]?=some (.own l)):False:=by
 rw[sR]at h;cases e:g[i]? with
 |none=>rw[e]at h;cases h
 |some u=>rw[e]at h;cases u <;> cases h
theorem S.into(s:S z g σ As M H)(sl:Slots z.K M H gn σn [])(hn:∀(i:Nat) (l:List D),gn[i]?≠some (.own l)):S (zN z M H) gn σn [] M H where
 sl:=sl
 nd:=u4
 sub:=λa h=>nomatch h
 own:=λi a l e _=>absurd e (hn i l)
 live:=s.live
 keep:=λb o e _ _=>e
 gJ:=λ_ h=>h
 m0:=λm hm=>by
  rcases s.live m hm with ⟨o,e,_⟩ |e
  . intro q;rw[show H m=none from q]at e;cases e
  . obtain⟨q,hq,rfl⟩:=i8.mp e;obtain⟨ps,h1,_⟩:=s.tab q hq;intro z;rw[show H q.1=none from z]at h1;cases h1
 bm:=λb h=>nomatch h
 gS:=λp h=>nomatch h
 tab:=s.tab
 tm:=λp h=>s.gJ _ (s.tm p h)
 tt:=s.tt
theorem S.after(s:S z g σ As M H)(hA:As=[])(s1:S (zN z M H) g' σ0 aN M1 H1)(st:ao M H M1 H1):S z g σ As M1 H1 where
 sl:=s.sl.stay st (λa h=>by rw[hA]at h;cases h)
 nd:=s.nd
 sub:=λa h=>by rw[hA]at h;cases h
 own:=s.own
 live:=s1.live
 keep:=λb o e hb ht=>s1.keep b o (s.keep b o e hb ht) (λh=>nomatch h) ht
 gJ:=λm hm=>s1.gJ m (s.gJ m hm)
 m0:=s.m0
 bm:=s.bm
 gS:=s.gS
 tab:=s1.tab
 tm:=s.tm
 tt:=s.tt
theorem Slots.rF{K:Frag}{i:Nat}{v:Option V}(q:Slots K M H g σ As)(e:g[i]?=some .no):Slots K M H g (σ.set i v) As:=by
 induction q generalizing i with
 |nil=>exact .nil
 |no q ih=>cases i with
  |zero=>exact .no q
  |succ i=>exact .no (ih e)
 |dat r q ih=>cases i with
  |zero=>cases e
  |succ i=>exact .dat r (ih e)
 |own a b q ih=>cases i with
  |zero=>cases e
  |succ i=>exact .own a b (ih e)
theorem S.rF(s:S z g σ As M H)(e:g[i]?=some .no):S z g (σ.set i v) As M H where
 sl:=s.sl.rF e
 nd:=s.nd
 sub:=s.sub
 own:=λj a l e1 e2=>s.own j a l e1 (by
  rw[fN (λq=>by rw[<- q,e]at e1;cases e1)]at e2;exact e2)
 live:=s.live
 keep:=s.keep
 gJ:=s.gJ
 m0:=s.m0
 bm:=s.bm
 gS:=λp hp=>by
  obtain⟨h1,l,h2⟩:=s.gS p hp;exact⟨by rw[fN (λq=>by rw[<- q,e]at h2;cases h2)];exact h1,l,h2⟩
 tab:=s.tab
 tm:=s.tm
 tt:=s.tt
end
theorem zM(I:L2.Inv X ah σ H s)(B:aH X.env.scope scope)(nl:∀y∈scope.names,y.2≠.local)
  (Cr:∀x c,cl.lookup x=some c->X.env.cells.lookup x=some c/\(x,NameKind.free)∈scope.names) (Mq:∀y∈scope.names,y.2=.free->∃c,cl.lookup y.1=some c):lH X.N σ scope cl H s.heap where
 inj:=λx y c h1 h2=>I.ok.inj x y c (Cr x c h1).1 (Cr y c h2).1
 has:=λx h=>by
  rcases h with h |h
  . exact absurd rfl (B.sP _ (L2.mem_of_lookup h))
  . exact Mq _ (L2.mem_of_lookup h) rfl
 cell:=λx c h=>⟨I.dz x c (Cr x c h).1,I.cell x c (Cr x c h).1⟩
 loc:=λi x v h1 h2 h3=>by
  have hf:scope.names.lookup x=some .free:=by
   rcases h3 with h3 |h3 |h3
   . exact absurd rfl (nl _ (L2.mem_of_lookup h3))
   . exact absurd rfl (B.sP _ (L2.mem_of_lookup h3))
   . exact h3
  have hv:=B.free _ (L2.mem_of_lookup hf) rfl;obtain⟨m,_,hlk⟩:=I.loc;obtain⟨u,r,q⟩:=hlk i x v h1 h2 (.inr hv);obtain⟨c2,e2⟩:=Mq _ (L2.mem_of_lookup hf) rfl;rcases q with ⟨k,_⟩ |⟨_,c,e,z⟩
  . have k:X.env.scope.names.lookup x=some .local:=k;rcases hv with hv |hv <;> (have hv:X.env.scope.names.lookup x=_:=hv;rw[k]at hv;cases hv)
  . have:=(Cr _ _ e2).1;have this:X.env.cells.lookup x=some c2:=this;rw[e]at this;cases this;exact⟨hf,u,c2,r,e2,z⟩
 len:=I.len
theorem lH.un(c:lH N σ scope cl H h)(u:Un fs [] H H' h h'):lH N σ scope cl H' h':=by
 have key:∀x a v,cl.lookup x=some a->h.IsCell a v->h'.IsCell a v:=λx a v e ⟨o,e1,d⟩=>by
  obtain⟨sl,e2⟩:=u.any e1 (c.cell x a e).1 ⋯;exact⟨_,e2,d⟩
 refine⟨c.inj,c.has,λx a e=>?_,λi x v h1 h2 h3=>?_,c.len⟩
 . obtain⟨hn,v,o,e1,d⟩:=c.cell x a e;exact⟨u.free a o e1 hn ⋯,v,key x a v e ⟨o,e1,d⟩⟩
 . obtain⟨f,w,a,r,e,z⟩:=c.loc i x v h1 h2 h3;exact⟨f,w,a,r,e,key x a _ e z⟩
section
variable{C D p c':Addr}
 {N:List Str}{qn:Str}{scope:Scope}{cl:List (Str×Addr)}{body:Expr}{params:Arguments}{pm gR:Value}{g0 G8:G}
noncomputable abbrev G9 (y ke en er:Str) (py bh qi kp vP vO bX qj qh:Pos):Stmt:=.Try [.Expr (.Call (.Name y py) [] [] bh) qi] [.ExceptHandler (some (.Name ke kp)) (some en) [.Assign [.Name er vP] (.Name en vO) bX] qj] [] [] qh
structure P4(X:Cx)(C D:Addr)(y ke en er:Str)(iy ie ir:Nat):Prop where
 pn:X.pn=[]
 st:X.stack=X.env::X.outer
 fr:X.env.frame=some X.env.locals
 ex:X.ex=[]
 calm:X.calm=true
 nd:X.N.Nodup
 gk:Gl X ke
 mg:X.mg ke=some (.ref D)
 dk:(ke==("__debug__":Str))=false
 qC:eS X.K C
 qD:eS X.K D
 up:tQ X.K C D=true
 kC:Fp X.K C
 ie:X.N[ie]?=some en
 le:X.env.scope.names.lookup en=some .local
 de:(en==("__debug__":Str))=false
 ce:(en==("__classdict__":Str))=false
 ir:X.N[ir]?=some er
 lr:Loc X.env.scope er
 fn:X.fn er=true\/X.env.scope.names.lookup er=some .local
 iy:X.N[iy]?=some y
 vy:qk X.env.scope y
 dy:(y==("__debug__":Str))=false
 cy:(y==("__classdict__":Str))=false
 room:X.A.depth<recursionLimit
structure dR(params:Arguments)(scope:Scope):Prop where
 co:scope.isCoroutine=false
 gen:scope.isGenerator=false
 kind:scope.kind=.function
 nc:∀x∈scope.names,x.2≠.cell
 nl:∀x∈scope.names,x.2≠.local
 par:params=⟨[],[],none,[],[],none,[]⟩
theorem dR.bind(h:dR params scope):bindArgs (PySem.W.kla_fn "<lambda>" qn params body scope cl pm (.ref c') gR) ⟨[],[]⟩=pure []:=by rw[h.par];rfl
theorem TL{ah:List (Addr×Obj)}{i:Nat}{x:Str}{v:V}{pos:Pos}{E:Value->Shared->Prop}{Q:Value->Shared->Prop}(I:L2.Inv X ah σ H s)(hN:X.N[i]?=some x)(hv:qk X.env.scope x)(hd:(x==("__debug__":Str))=false)(bH:(x==("__classdict__":Str))=false)(e:σ[i]?=some (some v))(h:∀u,RelV v u->Q u s) :
  wpAny (model X.prog X.w) X.A (eval (.Name x pos) X.env) Q E s:=by
 obtain⟨m,hn,hl⟩:=I.loc;obtain⟨u,r,l⟩:=hl i x v hN e hv;have fin:Q u s:=h u r;rcases l with ⟨hk,hm⟩ |⟨hk,c,hc,hcell⟩
 . exact CS (wpAny_loadName_local I.ok.kind hk hn hm fin) hd
 .
  rcases hk with hk |hk
  . exact CS (wpAny_loadName_cell I.ok.kind hk hc hcell fin) hd
  . exact CS (wpAny_loadName_free I.ok.kind hk hc hcell fin bH) hd
theorem Mt(T:P4 X C D y ke en er iy ie ir)(L:dR params scope)(I:L2.Inv X [] σ H s)(hS:S zf gf σ [] M H)(hK:zf.K=X.K)(hsw:swapsWith (.Name en vO) (some (.Name er vP)) bX.line X.env=pure false)(hsx:swapsWith (.Call (.Name y py) [] [] bh) none qi.line X.env=pure false)
  (hy:σ[iy]?=some (some (.ref p))) (qI:gf[ie]?=some .no) (hbr:ir∉zf.bor) (hnr:ie≠ir)
  (hp:H p=some (lG p (PySem.W.kla_obj "<lambda>" qn params body scope cl pm c' gR))) (hc':H c'=some (gI qn c')) (Cl:lH N σ0 scope cl H s.heap) (hs0:Slots zf.K M H g0 σ0 []) (hn0:∀(i:Nat) (l:List Ev.D),g0[i]?≠some (.own l))
  (hb:∀xe,PassesOwn (model X.prog X.w) (X.A.deeper (PySem.W.envX qn scope s⁻¹ p (.ref c') cl)) (PySem.W.envX qn scope s⁻¹ p (.ref c') cl) xe->zD (vM X N qn scope p (.ref c') cl s H xe) (zN zf M H) body g0 C G8)
  (h:∀s' σ' H' M' az,L2.Inv X [] σ' H' s'->S zf (gf.set ir (.dat (.lg C))) σ' az M' H'->ao M H M' H'->Q .next s') :
  wpAny (model X.prog X.w) X.A (exec (G9 y ke en er py bh qi kp vP vO bX qj qh) X.env) Q X.xe s:=by
 refine wpAny_Try_except (AW (i9 (wpAny_Expr_any (Q:=λ_ _=>False) ?_ I.quiet hsx) (λ_ _ z=>False.elim z) λ_ _ z=>z))
 have hpo:s.heap.get? p=some (PySem.W.kla_obj "<lambda>" qn params body scope cl pm c' gR):=(I.hok p _ hp).1;have YB:s.heap.CodeRec (.ref c') qn:=(I.hok c' _ hc').1;refine rV (TL I T.iy T.vy T.dy T.cy hy λu r=>?_)
 cases r;refine PySem.W.callWith_F0 ⟨_,_,_,_,hpo⟩ (CU (AY (G7 (R:=λr s'=>∃x H1 aN M1,r=.error (.ref x)/\DT X.prog X.w X.stack H s (λc o h=>c=.ref C/\o=none/\h=H1) (.ref x) s'/\S (zN zf M H) G8 σ0 aN M1 H1/\ao M H M1 H1) I T.calm T.room hpo YB L.bind L.co L.gen L.kind L.nc Cl (S.into hS hs0 hn0) hb
  λx H1 aN M1 s'' cx S1 st=>⟨x,H1,aN,M1,rfl,cx,S1,st⟩) λr s1 ⟨x,H1,aN,M1,e,cx,S1,st⟩=>?_))
 subst e;obtain⟨x',C',H',e,I1,fl,e1,_,e3⟩:=Gm T.ex I cx;cases e;cases e1;subst e3;refine Cv I1 T.pn T.st T.fr T.ex fl T.nd T.gk T.mg T.dk T.qC T.qD T.up T.ie T.le T.de T.ce T.ir T.lr T.fn hsw λs' I'=>?_
 have s2:=S.after hS rfl S1 st;have s3:=s2.laid (o:=xS C x) fl.no;have s4:S zf gf (σ.set ie (some (.ref x))) [] M1 (upd H' x (xS C x)):=s3.rF qI;obtain⟨xq,s5⟩:=s4.g6 (i:=ir) (d:=.lg C) (v:=.ref x) hbr (hK▸.lg T.kC (s2.fresh fl.no) aA);have s6:S zf (gf.set ir (.dat (.lg C))) (((σ.set ie (some (.ref x))).set ir (some (.ref x))).set ie none) xq M1 (upd H' x (xS C x)):=s5.rF (by rw[fN (oI hnr)];exact qI)
 exact h s' _ _ M1 xq I' s6 (st.trans (ao.laid fl.no))
end
end Ev
namespace L2
theorem YJ{CX:Be}{P:Program}{w:World}{K:Frag}{mg:Str->Option Value}{base:Heap}{k:Nat}{f:Addr}{name qual:Str}{params:Arguments}{body:List Stmt}{scope:Scope}{dV kV doc pm bE ct oc:Value}{an od:Option Addr}
  {osl:Array (Option Value)}{N ps:List Str}{A:Around}{outer:List Env}{s:Shared}{H:Hp}{args:Args}{us:List Value}{vs:List V}{Q:VK}{E:XK} (lk:K.lookup f=some ⟨oc,od,.func (PySem.W.fnOf name qual params body scope dV kV doc pm an bE ct),osl⟩) (bH:PySem.W.codeIn K bE qual=true) (S:bU N ps scope)
  (hr:bQ (k+1) A) (e0:Ew P w K mg base A outer s H) (hb:BindsTo s (PySem.W.fnOf name qual params body scope dV kV doc pm an bE ct) args (ps.zip us)) (r:Vals vs us) (hl:vs.length=ps.length)
  (hbody:∀s1,Inv (fh CX P w K mg base N qual scope f bE A outer s H E) [] (start N vs) H s1->wpAny (model P w) (A.deeper (envOfC qual scope s⁻¹ f bE)) (execs body (envOfC qual scope s⁻¹ f bE)) (SP (fh CX P w K mg base N qual scope f bE A outer s H E) [] { nx:=λ_ H'=>Q .non H',rt:=Q}) (fh CX P w K mg base N qual scope f bE A outer s H E).xe s1) :
  codeAny (model P w) A (.call (.ref f) args) (CR CX outer P w H s Q E) s:=by
 have KX:K.In s.heap:=e0.mod.DP.keeps λb o e=>(e0.bs b o e).1
 have lim:s.heap.NoLimit:=e0.mod.nolimit.keeps λb o e=>(e0.bs b o e).1
 have hkind:∀y∈ps.zip us,scope.names.lookup y.1=some .local\/(scope.names.lookup y.1=some .cell/\((cellsFrom (s⁻¹+1) scope.names []).lookup y.1).isSome=true):=λ⟨n,v⟩ hy=>by
  rcases S.par n (A5 hy).1 with q |q
  . exact .inl q
  . exact .inr ⟨q,BH _ _ _ (.inl q)⟩
 refine codeAny_call_function hr.depth (KX _ _ lk) rfl S.co S.gen rfl (PySem.W.codeRec_of KX bH) (hb _ _ _ _ ?_);refine wpAny_newFunctionEnv_cells S.kind hkind λenv he s1 x=>?_
 subst he;refine⟨lim.keeps x.toInCall.keep,codeAny_func ?_⟩;have I:Inv (fh CX P w K mg base N qual scope f bE A outer s H E) [] (start N vs) H s1:=qQ S hr.hd e0 hl r x;refine i9 (hbody s1 I) (λfl s' hs=>?_) λe s' hs=>hs
 have fin:∀{σ':St}{H':Hp}{v:V}{u:Value},Inv (fh CX P w K mg base N qual scope f bE A outer s H E) [] σ' H' s'->RelV v u->Q v H'->CE outer P w H s Q u s':=
  λ{σ' H' v u} J rv q=>⟨v,H',J.os,J.bare,J.base,J.hok,rv,q⟩
 cases fl with
 |ret u=>obtain⟨v,σ',H',J,rv,q⟩:=hs;exact fin J rv q
 |next=>obtain⟨σ',H',J,q⟩:=hs;exact fin (v:=V.non) (u:=Value.none) J rfl q
 |brk=>obtain⟨_,_,_,q⟩:=hs;exact False.elim q
 |cont=>obtain⟨_,_,_,q⟩:=hs;exact False.elim q
end L2
namespace Ev
open L2
structure TQ(K:Frag)(mg:Str->Option Value)(sc:Scope)(N:List Str)(C D:Addr)(y ke en er:Str)(ie ir:Nat):Prop where
 nd:N.Nodup
 gk:sc.names.lookup ke=some .globalImplicit
 mg:mg ke=some (.ref D)
 dk:(ke==("__debug__":Str))=false
 qC:eS K C
 qD:eS K D
 up:tQ K C D=true
 kC:Fp K C
 eN:N[ie]?=some en
 le:sc.names.lookup en=some .local
 de:(en==("__debug__":Str))=false
 ce:(en==("__classdict__":Str))=false
 rN:N[ir]?=some er
 lr:Loc sc er
 yN:N[0]?=some y
 vy:qk sc y
 dy:(y==("__debug__":Str))=false
 cy:(y==("__classdict__":Str))=false
 ne:ie≠ir
 ie0:ie≠0
 ir0:ir≠0
theorem TQ.try{P:Program}{w:World}{K:Frag}{mg:Str->Option Value}{base:Heap}{N:List Str}{qual:Str}{sc:Scope}{f:Addr}{cd:Value}{A:Around}{outer:List Env}{s:Shared}{H:Hp}{E:XK}{C D:Addr}{y ke en er:Str}{ie ir k:Nat}
  (T:TQ K mg sc N C D y ke en er ie ir) (hr:bQ k (A.deeper (envOfC qual sc s⁻¹ f cd))):P4 (fh uI P w K mg base N qual sc f cd A outer s H E) C D y ke en er 0 ie ir:=
 ⟨rfl,rfl,rfl,rfl,rfl,T.nd,T.gk,T.mg,T.dk,T.qC,T.qD,T.up,T.kC,T.eN,T.le,T.de,T.ce,T.rN,T.lr,.inl rfl,T.yN,T.vy,T.dy,T.cy,by have:=hr.dp;show (A.deeper (envOfC qual sc s⁻¹ f cd)).depth<_;lia⟩
structure o9(X:Cx)(qn:Str)(q c:Addr):Prop where
 hq:(q,qn)∈cF X.K
 hu:∀p∈cF X.K,p.1=q->p.2=qn
 hcode:X.env.code=.ref c
 hC:∀b:Heap,X.K.In b->PySem.W.CodeHd b c q
 hqn:X.env.qual ++ "<lambda>"=qn
 hbi:∀b:Heap,X.K.In b->b.BuiltinsAt X.mg q
 Yz:mainGlobals≠q
structure Lt where
 params:Arguments
 body:Expr
 scope:Scope
 pos:Pos
noncomputable abbrev Lt.ex(l:Lt):Expr:=.Lambda l.params l.body l.scope l.pos
def jk(X:Cx)(qn:Str)(M:List Addr)(H:Hp)(l:Lt)(v:V):Prop:=∃p c' gR cl,v=.ref p/\p∉M/\c'∉M/\H p=some (lG p (PySem.W.kla_obj "<lambda>" qn l.params l.body l.scope cl ((X.mg "__name__").getD .none) c' gR))/\H c'=some (gI qn c')/\
 (∀x c,cl.lookup x=some c->X.env.cells.lookup x=some c/\(x,NameKind.free)∈l.scope.names)/\∀y∈l.scope.names,y.2=.free->∃c,cl.lookup y.1=some c
theorem jk.stay(st:ao M H M' H')(h:jk X qn M H l v):jk X qn M' H' l v:=by obtain⟨p,c',gR,cl,e,n1,n2,h1,h2,h3⟩:=h;exact⟨p,c',gR,cl,e,(st _ _ h1 n1).2,(st _ _ h2 n2).2,(st _ _ h1 n1).1,(st _ _ h2 n2).1,h3⟩
inductive cQ(X:Cx)(qn:Str)(M:List Addr)(H:Hp):List Lt->List V->Prop
 |nil:cQ X qn M H [] []
 |cons {l:Lt}{ls:List Lt}{v:V}{vs:List V}:jk X qn M H l v->cQ X qn M H ls vs->cQ X qn M H (l::ls) (v::vs)
theorem cQ.stay(st:ao M H M' H')(h:cQ X qn M H l v):cQ X qn M' H' l v:=by
 induction h with
 |nil=>exact .nil
 |cons a _ ih=>exact .cons (a.stay st) ih
theorem cQ.push(h:cQ X qn M H l v)(e:jk X qn M H x y):cQ X qn M H (l++[x]) (v++[y]):=by
 induction h with
 |nil=>exact .cons e .nil
 |cons a _ ih=>exact .cons a ih
theorem cQ.get(h:cQ X qn M H l v):∀{i:Nat}{x:Lt},l[i]?=some x->∃y,v[i]?=some y/\jk X qn M H x y:=by
 induction h with
 |nil=>intro i x e;cases e
 |cons a _ ih=>intro i x e;cases i with
  |zero=>cases (show some _=some x from e);exact⟨_,rfl,a⟩
  |succ i=>exact ih (i:=i) e
theorem cQ.length(h:cQ X qn M H l v):l.length=v.length:=by
 induction h with
 |nil=>rfl
 |cons _ _ ih=>exact congrArg (· + 1) ih
section
theorem S.ext(s:S z g σ As M H)(h:H a=some (.ext f)):a∉M:=λhm=>by
 rcases s.live a hm with ⟨o,e,gr⟩ |e
 . rw[h]at e;cases e;exact gr
 . obtain⟨q,hq,rfl⟩:=i8.mp e;obtain⟨ps,h1,_⟩:=s.tab q hq;rw[h]at h1;cases h1
theorem S.TV(s:S z g σ As M H){a:Addr}{xs xs':List V}(hm:a∈M)(hA:a∉As)(h0:z.H0 a=none)(h:H a=some (.lst xs)):S z g σ As M (upd H a (.lst xs')):=s.Rw hm hA h0 h trivial trivial
noncomputable def tLam(X:Cx)(z:Z)(g:G)(qn:Str)(l:Lt):TE:=λσ H Q=>∃As M,S z g σ As M H/\∀v H',S z g σ As M H'->ao M H M H'->jk X qn M H' l v->(∀b xs,H b=some (.lst xs)->H' b=some (.lst xs))->Q v H'
theorem yr(hK:z.K=X.K)(mk:o9 X qn q c)(B:aH X.env.scope l.scope)(L:dR l.params l.scope):PE X l.ex (tLam X z g qn l):=by intro ah s σ H Q I ⟨As,M,hs,hQ⟩;exact G6 I hs (by rw[hs.tt,hK];exact mk.hq) (by rw[hs.tt,hK];exact mk.hu) mk.hcode (mk.hC _ I.ok.mod.DP) mk.hqn (mk.hbi _ I.ok.mod.DP) mk.Yz (by rw[L.par];rfl) B λp c' gR cl H' s' I' S' st' np h1 h2 c1 c2 kl=>⟨.ref p,H',I',rfl,hQ _ H' S' st' ⟨p,c',gR,cl,rfl,np,S'.ext h2,h1,h2,c1,c2⟩ kl⟩
end
section
variable{st:Stmt}{rest:List Stmt}{f C D p c':Addr}
theorem TX(hK:z.K=X.K)(hr:bQ (k+2) X.A)(hcalm:X.calm=true)(Ff:JF X.K fx qual st f fd)(cA:bB st=.Assign [.Name er Cy] (.Constant .none j np) Wu::G9 y ke en er py cpos0 qi kp vP vO bX qj qh::rest)(Sc:bU Nf [y] (aC st))
  (hbd:L2.Binds X.K fd [y] []) (T:TQ X.K X.mg (aC st) Nf C D y ke en er ie ir) (L:dR params scope)
  (hbE:∀(Xf:Cx) (s:Shared) (H:Hp) (xe:Value->Shared->Prop) (zl:Z),Xf.prog=X.prog->Xf.w=X.w->Xf.K=X.K->Xf.mg=X.mg->Xf.base=X.base->bQ (k+1) Xf.A->Xf.calm=true->PassesOwn (model Xf.prog Xf.w) (Xf.A.deeper (PySem.W.envX qn scope s⁻¹ p (.ref c') cl)) (PySem.W.envX qn scope s⁻¹ p (.ref c') cl) xe->zl.K=X.K->zl.bor=[]->zD (vM Xf N qn scope p (.ref c') cl s H xe) zl body g0 C G8)
  (hrest:∀(bE:Value) (A:Around) (outer:List Env) (s:Shared) (H:Hp) (E:XK),PySem.W.codeIn X.K bE qual=true->bQ k (A.deeper (envOfC qual (aC st) s⁻¹ f bE))->∀zf:Z,zf.K=X.K->zf.bor=[]->cH (fh uI X.prog X.w X.K X.mg X.base Nf qual (aC st) f bE A outer s H E).iS zf rest ((List.replicate Nf.length .no).set ir (.dat (.lg C))) (.rt r) g3)
  (ho:cW [] g3 r=some r') (I1:L2.Inv X ah σ H s) (S1:S z g σ As M H) (hp1:H p=some (lG p (PySem.W.kla_obj "<lambda>" qn params body scope cl pm c' gR))) (hc1:H c'=some (gI qn c')) (Cl0:lH N σ0 scope cl H s.heap) (hs0:Slots z.K M H g0 σ0 []) (hn0:∀(i:Nat) (l:List Ev.D),g0[i]?≠some (.own l))
  {us:List Value} (rv:Vals [.ref p] us) {E:Value->Shared->Prop}{Q:Value->Shared->Prop} (hQ:∀u v H' s' az M',L2.Inv X ah σ H' s'->RelV v u->S z g σ az M' H'->ao M H M' H'->cN z g σ az M' H' r' v->Q u s'):wpAny (model X.prog X.w) X.A (call (.ref f) us) Q E s:=by
 obtain⟨oc,od,kV,doc,pm,an,bE,ct,osl,rfl,lk,bH⟩:=Ff.ex;have aL:us.length=1:=by rw[<- rv.length];rfl
 refine CU (AY (YJ (CX:=uI) (k:=k+1) (N:=Nf) (Q:=λv H'=>∃az M',S z g σ az M' H'/\ao M H M' H'/\cN z g σ az M' H' r' v) (E:=λ_ _ _=>False) lk bH Sc hr I1.Ko (by have:=hbd s us I1.mR (by rw[nN];exact aL);rw[nN]at this;exact this) rv rfl λs2 J=>?_) λrr s' hq'=>?_)
 ·
  rw[cA];have hr1:bQ (k+1) (X.A.deeper (envOfC qual (aC st) s⁻¹ f bE)):=hr.deeper _;have hr2:bQ k (X.A.deeper (envOfC qual (aC st) s⁻¹ f bE)):=hr1.mono (AX k);have TT:=T.try (P:=X.prog) (w:=X.w) (base:=X.base) (qual:=qual) (f:=f) (cd:=bE) (A:=X.A) (outer:=X.stack) (s:=s) (H:=H) (E:=λ_ _ _=>False) hr2
  have hNl:0<Nf.length:=(dC.mp T.yN).1;refine AW (i9 ((nX (X:=(fh uI X.prog X.w X.K X.mg X.base Nf qual (aC st) f bE X.A X.stack s H (λ_ _ _=>False)).wish λ_ _=>False) T.nd T.rN T.lr Ei rfl (.inl rfl)) [] s2 _ _ { nx:=λσ' H'=>σ'=(start Nf [.ref p]).set ir (some .non)/\H'=H,rt:=λ_ _=>False} (J.wish _) ⟨rfl,rfl⟩) (λfl s3 q3=>?_) λ_ _ z=>False.elim z)
  cases fl with
  |ret u=>obtain⟨_,_,_,_,_,q⟩:=q3;exact q.elim
  |brk=>obtain⟨_,_,_,q⟩:=q3;exact q.elim
  |cont=>obtain⟨_,_,_,q⟩:=q3;exact q.elim
  |next=>
   obtain⟨σ3,H3,I3,e1,e2⟩:=q3;subst e1 e2;have I3:=I3.cg;have len0:(start Nf [.ref p]).length=Nf.length:=by have:=J.len;exact this
   have YK:Slots z.K M H3 (List.replicate Nf.length .no) (start Nf [.ref p]) []:=by rw[<- len0];exact Slots.nos' _
   have YL:∀(i:Nat) (l:List Ev.D),(List.replicate Nf.length Slot.no)[i]?≠some (.own l):=λi l e=>by
    have:=l6 e;rw[vS]at this;cases this.2
   have S3:S (zN z M H3) (List.replicate Nf.length .no) (start Nf [.ref p]) [] M H3:=S.into S1 YK YL;obtain⟨gP,S4⟩:=S3.g6 (i:=ir) (d:=.non) (v:=.non) (λh=>nomatch h) .non
   have hA4:gP=[]:=by
    have key:∀{g:G}{σ:Sg}{As:List Addr},Slots z.K M H3 g σ As->(∀(i:Nat) (l:List Ev.D),g[i]?≠some (.own l))->As=[]:=λq=>by
     induction q with
     |nil=>intro _;rfl
     |no _ ih=>intro h;exact ih λi l e=>h (i+1) l e
     |dat _ _ ih=>intro h;exact ih λi l e=>h (i+1) l e
     |own _ _ _ ih=>intro h;exact absurd rfl (h 0 _)
    refine key S4.sl λi l e=>?_
    by_cases hi:i=ir
    .
     subst hi;rw[i4 (by rw[fI];exact (dC.mp T.rN).1)]at e
     cases e
    . rw[fN (oI hi)]at e;exact YL i l e
   subst hA4;have hy:((start Nf [.ref p]).set ir (some .non))[0]?=some (some (.ref p)):=by rw[fN T.ir0];rfl
   have qI:((List.replicate Nf.length Slot.no).set ir (.dat .non))[ie]?=some .no:=by rw[fN (oI T.ne),A6,gL (dC.mp T.eN).1]
   have un3:Un (frs X.stack) [] H3 H3 s.heap s3.heap:=I3.base;have Wv:(zN z M H3).K=(fh uI X.prog X.w X.K X.mg X.base Nf qual (aC st) f bE X.A X.stack s H3 (λ_ _ _=>False)).K:=hK
   refine AW (Mt (zf:=zN z M H3) (g0:=g0) (σ0:=σ0) (N:=N) TT L I3 S4 Wv rfl rfl hy qI (λh=>nomatch h) T.ne hp1 hc1 (Cl0.un un3) hs0 hn0
    (λxe hx=>hbE _ s3 H3 xe _ rfl rfl rfl rfl rfl hr1 rfl hx hK rfl) λs4 σ4 H4 M4 gP I4 S5 jU=>?_)
   obtain⟨t,pt,kt⟩:=hrest bE X.A X.stack s H3 (λ_ _ _=>False) bH hr2 (zN z M H3) hK rfl
   rw[List.set_set]at S5;refine pt.iS [] s4 σ4 H4 _ I4 (kt σ4 gP M4 H4 _ S5 λv σ5 xq M5 H5 S6 JM R6=>?_)
   obtain⟨M6,S7,Ym,R7⟩:=S1.leave (rs:=[]) (vs:=[]) (gs:=[]) (gO:=g) .nil rfl u4 S6 (jU.trans JM) R6 rfl ho;exact⟨_,M6,S7,Ym,R7⟩
 .
  cases rr with
  |error ev=>exact False.elim hq'
  |ok flw=>
   cases flw with
   |ret u=>
    obtain⟨v,H',I',r1,az,M',a,b,d⟩:=I1.after (Q:=λv H'=>∃az M',S z g σ az M' H'/\ao M H M' H'/\cN z g σ az M' H' r' v) hq'
    exact hQ u v H' s' az M' I' r1 a b d
   |next=>exact False.elim hq'
   |brk=>exact False.elim hq'
   |cont=>exact False.elim hq'
end
def yt(Y X:Cx)(z:Z)(g:G)(qn:Str)(l:Lt)(r':R)(f:Addr):Prop:=
 ∀{ah:List (Addr×Obj)}{σ1 σ0:Sg}{H1:Hp}{s1:Shared}{g1:G}{As A0 M:List Addr}{p c':Addr}{cl:List (Str×Addr)}{pm gR:Value}{us:List Value}{Q E:Value->Shared->Prop},L2.Inv Y ah σ1 H1 s1->S z g1 σ1 As M H1->H1 p=some (lG p (PySem.W.kla_obj "<lambda>" qn l.params l.body l.scope cl pm c' gR))->H1 c'=some (gI qn c')->
  lH X.N σ0 l.scope cl H1 s1.heap->Slots z.K M H1 g σ0 A0->Vals [.ref p] us->(∀u v H' s' az M',L2.Inv Y ah σ1 H' s'->RelV v u->S z g1 σ1 az M' H'->ao M H1 M' H'->cN z g1 σ1 az M' H' r' v->Q u s')->wpAny (model Y.prog Y.w) Y.A (call (.ref f) us) Q E s1
section
variable{st:Stmt}
theorem Mu(hK:z.K=X.K)(Ff:JF X.K fx qual st f fd)(hg:Gl X fx)(hm:X.mg fx=some (.ref f))(gX:(fx==("__debug__":Str))=false)(mk:o9 X qn q c)(B:aH X.env.scope l.scope)(L:dR l.params l.scope)(hcall:yt X X z g qn l r' f):au X z (.Call (.Name fx fp) [l.ex] [] bh) g r' g:=by
 refine⟨λσ H Q=>∃As M,S z g σ As M H/\∀v H' az M',S z g σ az M' H'->ao M H M' H'->cN z g σ az M' H' r' v->Q v H',λah s σ H Q I ⟨As,M,hs,hQ⟩=>?_,λσ As M H Q s kq=>⟨As,M,s,λv H' az M'=>kq v H' az M'⟩⟩
 refine rV (eU I hg hm ?_ gX);refine AG (h₀:=X.base) I.ok.mod.DP Ff.kp (i9 ((bF (yr (z:=z) (g:=g) hK mk B L) gj rfl) bh ah s σ H (λvs H'=>∃v,vs=[v]/\S z g σ As M H'/\ao M H M H'/\jk X qn M H' l v) I ⟨As,M,hs,λv H' a b d _=>⟨v,rfl,a,b,d⟩⟩) (λus s1 q1=>?_) λ_ _ z=>z) rfl rfl
 obtain⟨vs,H1,I1,rv,_,rfl,S1,cE,p,c',gR,cl,rfl,np1,nc1,hp1,hc1,Cr,Mq⟩:=q1;exact⟨I1.mR,hcall I1 S1 hp1 hc1 (zM I1 B L.nl Cr Mq) S1.sl rv λu v H' s' az M' I' r1 a b d=>⟨v,H',I',r1,hQ v H' az M' a (cE.trans b) d⟩⟩
end
section
theorem Hf(hw:∀u,RelV w u->u=cv):dB X (.builtin "isinstance") (λxs H Q=>∃x M d b,xs=[x,w]/\Pk X.K M H d x/\PySem.W.kitOne X.K (DR d) cv=some b/\Q (.bl b) H):=by intro ah s σ H xs us Q I r h;obtain⟨x,M,d,b,rfl,p,e,q⟩:=h;obtain⟨u,w',rfl,r1,r2⟩:=vals2 r;obtain rfl:=hw _ r2;exact FT I p r1 e λtk=>⟨.bl b,H,I.tok tk,rfl,q⟩
theorem Hg(hK:z.K=X.K)(h:au X z a g r1 g1)(hp:pk r1 g1=some d)(he:∀M H v,Pk X.K M H d v->PySem.W.kitOne X.K (DR d) cv=some b)
  (hg:Gl X "isinstance") (hm:X.mg "isinstance"=none) (hv:bootBuiltins "isinstance"=some (.builtin "isinstance")) (hw:∀u,RelV w u->u=cv) (pT':PE X (.Name T pT) (tC w))
  (hs:starEach [a,.Name T pT] X.env=(false,eval a X.env)::starEach [.Name T pT] X.env):au X z (.Call (.Name "isinstance" p) [a,.Name T pT] [] pos) g (.dat (.bl b)) g1:=by
 obtain⟨t,q,k⟩:=h;refine⟨_,gZ (Hf hw) hg hm hv (bF q (bF pT' gj) hs) ⋯ ⋯ hs,λσ As M H Q s kk=>k σ As M H _ s λv H' az M' s' st R=>?_⟩
 have p:=hK▸s'.pk (ao.refl _ _) R hp;exact⟨v,M',d,b,rfl,p,he _ _ _ p,kk _ H' az M' s' st (.bl b)⟩
end
open L2 PySem.W
noncomputable def cB:Slot->Slot
 |.own l=>.dat (.lst l)
 |s=>s
noncomputable def flat:D->Bool
 |.non=>true
 |.bl _=>true
 |.int _=>true
 |.str _=>true
 |_=>false
theorem Rep.flat{K:Frag}{M M':List Addr}{H H':Hp}{d:D}{v:V}(r:Rep K M H d v)(h:Ev.flat d=true):Rep K M' H' d v:=by
 cases r with
 |non=>exact .non
 |bl b=>exact .bl b
 |int i=>exact .int i
 |str x=>exact .str x
 |_=>cases h
section
variable{g g':G}
theorem Slots.atA{K:Frag}(q:Slots K M H g σ As){a:Addr}(h:a∈As):∃(i:Nat) (l:List D) (xs:List V),g[i]?=some (Slot.own l)/\σ[i]?=some (some (V.ref a))/\H a=some (.lst xs):=by
 induction q with
 |nil=>cases h
 |no _ ih=>obtain⟨i,l,xs,h1,h2,h3⟩:=ih h;exact⟨i+1,l,xs,h1,h2,h3⟩
 |dat _ _ ih=>obtain⟨i,l,xs,h1,h2,h3⟩:=ih h;exact⟨i+1,l,xs,h1,h2,h3⟩
 |own e _ _ ih=>
  rcases d5.mp h with rfl |h
  . exact⟨0,_,_,rfl,rfl,e⟩
  . obtain⟨i,l,xs,h1,h2,h3⟩:=ih h;exact⟨i+1,l,xs,h1,h2,h3⟩
theorem Slots.cB{K:Frag}{M0:List Addr}(q:Slots K M H g σ As)(hl:∀m∈M0,m∈M)(hn:∀a∈As,a∉M0):Slots K M0 H (g.map Ev.cB) σ []:=by
 induction q with
 |nil=>exact .nil
 |no _ ih=>exact .no (ih hn)
 |dat r _ ih=>exact .dat (r.stay (ao.less hl)) (ih hn)
 |own e r _ ih=>exact .dat (.lst ⟨hn _ dL,e⟩ (r.stay (ao.less hl))) (ih λa ha=>hn a (dA _ ha))
theorem Mv{i:Nat}{l:List D}(h:(g.map Ev.cB)[i]?=some (.own l)):False:=by
 rw[sR]at h;cases e:g[i]? with
 |none=>rw[e]at h;cases h
 |some u=>rw[e]at h;cases u <;> cases h
theorem S.h0(s:S z g σ As M H)(hb:z.bor=[])(h:a∈As):z.H0 a=none:=by
 obtain⟨i,l,xs,h1,h2,_⟩:=s.sl.atA h;rcases s.own i a l h1 h2 with ⟨q,_⟩ |q
 . rw[hb]at q;cases q
 . exact q
theorem S.TY(s:S z g σ As M H)(hb:z.bor=[]):S z (g.map Ev.cB) σ [] (M.filter λm=>decide (m∉As)) H where
 sl:=s.sl.cB (λm hm=>(lL.mp hm).1) λa ha hm=>by have:=(lL.mp hm).2;simp at this;exact this ha
 nd:=u4
 sub:=λa h=>nomatch h
 own:=λi a l e _=>(Mv e).elim
 live:=λm hm=>s.live m (lL.mp hm).1
 keep:=s.keep
 gJ:=λm hm=>lL.mpr ⟨s.gJ m hm,by
  have:m∉As:=λh=>s.m0 m hm (s.h0 hb h)
  simpa using this⟩
 m0:=s.m0
 bm:=s.bm
 gS:=λp hp=>by
  have:p.1∈z.bor:=sK (f:=(·.1)) hp;rw[hb]at this;cases this
 tab:=s.tab
 tm:=s.tm
 tt:=s.tt
theorem S.thaw(s:S z g σ As M H)(hb:z.bor=[]){g1:G}{σ1:Sg}(s1:S z g1 σ1 aN M1 H1)(st:ao (M.filter λm=>decide (m∉As)) H M1 H1):S z g σ As (As++M1) H1/\ao M H (As++M1) H1:=by
 have nA:∀a∈As,a∉M.filter λm=>decide (m∉As):=λa ha hm=>by have:=(lL.mp hm).2;simp at this;exact this ha
 have stM:ao M H (As++M1) H1:=λb o e hb'=>by
  have h1:=st b o e λhm=>hb' (lL.mp hm).1
  refine⟨h1.1,λhm=>?_⟩
  rcases w8.mp hm with hm |hm
  . exact hb' (s.sub b hm)
  . exact h1.2 hm
 have lists:∀a∈As,∃xs,H1 a=some (.lst xs):=λa ha=>by
  obtain⟨_,_,xs,_,_,e⟩:=s.sl.atA ha;exact⟨xs,(st a _ e (nA a ha)).1⟩
 refine⟨⟨s.sl.stay stM λa ha o e=>(st a o e (nA a ha)).1,s.nd,λa ha=>t6 _ ha,s.own,λm hm=>?_,s1.keep,λm hm=>i3 _ (s1.gJ m hm),s.m0,s.bm,s.gS,s1.tab,s.tm,s.tt⟩,stM⟩
 rcases w8.mp hm with hm |hm
 . obtain⟨xs,e⟩:=lists m hm;exact .inl ⟨_,e,trivial⟩
 . exact s1.live m hm
theorem Mw(hb:z.bor=[])(hf:Ev.flat d=true)(h:au X z e (g.map Ev.cB) (.dat d) g1):au X z e g (.dat d) g:=by
 obtain⟨t,q,k⟩:=h;refine⟨t,q,λσ As M H Q s kk=>k σ [] _ H Q (s.TY hb) λv H1 aN M1 s1 st R=>?_⟩
 obtain⟨a,b⟩:=s.thaw hb s1 st;exact kk v H1 As _ a b (Rep.flat R hf)
end
def LL(X:Cx)(z:Z)(g:G)(qn:Str)(ic:Nat)(M0:List Addr)(H0:Hp)(ls:List Lt)(σ:Sg)(H:Hp):Prop:=
 ∃As M a vs,S z g σ As M H/\ao M0 H0 M H/\σ[ic]?=some (some (.ref a))/\a∈M/\a∉As/\z.H0 a=none/\H a=some (.lst vs)/\cQ X qn M H ls vs
theorem yu{n:Nat}(h:n<1000):n<=sizeLine:=by rw[mB];lia
section
theorem Cz(hK:z.K=X.K)(mk:o9 X qn q c)(B:aH X.env.scope l.scope)(L:dR l.params l.scope)(hN:X.N.Nodup)(hi:X.N[ic]?=some y)(hx:Loc X.env.scope y)(hf:X.fn y=true\/X.env.scope.names.lookup y=some .local)(hg:g[ic]?=some .no) :
  ∃t,PS X (.Assign [.Name y py] (.List [l.ex] lp) pos) t/\∀σ As M H (E:Ends),S z g σ As M H->(∀σ' H',LL X z g qn ic M H [l] σ' H'->E.nx σ' H')->t E σ H:=by
 refine⟨_,nX hN hi hx (Eu (bF (yr (z:=z) (g:=g) hK mk B L) gj rfl)) rfl hf,λσ As M H E s kE=>⟨As,M,s,λv H' s' st' la kl=>⟨yu (show 1<1000 by decide),λp hp=>kE _ _ ?_⟩⟩⟩
 have s2:=s'.aR (xs:=[v]) hp;have hl:ic<σ.length:=by rw[<- s.sl.length];exact (dC.mp hg).1
 have aI:ao M H' (p::M) (upd H' p (.lst [v])):=ao.aR hp;exact⟨As,p::M,p,[v],s2.rF hg,st'.trans aI,i4 hl,dL,λh=>s'.fresh hp (s'.sub p h),s'.bR hp,aA,.cons (la.stay aI) .nil⟩
theorem yw(hK:z.K=X.K)(mk:o9 X qn q c)(B:aH X.env.scope l.scope)(L:dR l.params l.scope)(hi:X.N[ic]?=some y)(hv:qk X.env.scope y)(hd:(y==("__debug__":Str))=false)(bH:(y==("__classdict__":Str))=false)(hls:ls.length<1000)(hline:(bX.endLine==bh.line)=true) :
  ∃t,PS X (.Expr (.Call (.Attribute (.Name y pn) "append" bX) [l.ex] [] bh) pos) t/\∀σ H M0 H0 (E:Ends),LL X z g qn ic M0 H0 ls σ H->(∀H',LL X z g qn ic M0 H0 (ls++[l]) σ H'->E.nx σ H')->t E σ H:=by
 refine⟨_,sF (Fb Bz PySem.F.slot_list_append PySem.F.type_list_append kY (fZ hi hv hd bH) (bF (yr (z:=z) (g:=g) hK mk B L) gj rfl) rfl rfl hline rfl rfl) rfl,λσ H M0 H0 E h kE=>?_⟩
 obtain⟨As,M,a,vs,s,st,e1,hm,hA,h0,ha,la⟩:=h;refine⟨.ref a,e1,.inl ⟨rfl,vs,bN.of ha⟩,As,M,s,λv H' s' st' la' kl=>⟨a,vs,v,rfl,rfl,kl a vs ha,by rw[<- la.length,mB];lia,kE _ ?_⟩⟩
 exact⟨As,M,a,vs++[v],s'.TV hm hA h0 (kl a vs ha),(st.trans st').trans (ao.write hm),e1,hm,hA,h0,aA,((la.stay st').push la').stay (ao.write hm)⟩
end
theorem lH.un'(c:lH N σ scope cl H h)(u:Un fs ex H H' h h')(hx:∀x a,cl.lookup x=some a->a∉ex):lH N σ scope cl H' h':=by
 have key:∀x a v,cl.lookup x=some a->h.IsCell a v->h'.IsCell a v:=λx a v e ⟨o,e1,d⟩=>by
  obtain⟨sl,e2⟩:=u.any e1 (c.cell x a e).1 (hx x a e);exact⟨_,e2,d⟩
 refine⟨c.inj,c.has,λx a e=>?_,λi x v h1 h2 h3=>?_,c.len⟩
 . obtain⟨hn,v,o,e1,d⟩:=c.cell x a e;exact⟨u.free a o e1 hn (hx x a e),v,key x a v e ⟨o,e1,d⟩⟩
 . obtain⟨f,w,a,r,e,z⟩:=c.loc i x v h1 h2 h3;exact⟨f,w,a,r,e,key x a _ e z⟩
noncomputable def asD:R->Option D
 |.dat d=>some d
 |.new l=>some (.lst l)
 |.var _=>none
theorem yx(s:S z g σ As M H)(h:cN z g σ As M H r v)(e:asD r=some d):∃M',S z g σ As M' H/\ao M H M' H/\Rep z.K M' H d v:=by
 cases r with
 |dat d'=>cases e;exact⟨M,s,ao.refl _ _,h⟩
 |var i=>cases e
 |new l=>
  cases e;obtain⟨a,xs,rfl,hm,hA,h0,ha,rr⟩:=h;have hM:∀m∈(M.filter λm=>decide (m≠a)),m∈M:=λm hm=>(lL.mp hm).1
  have na:a∉(M.filter λm=>decide (m≠a)):=λhm=>by
   have:=(lL.mp hm).2;simp at this
  exact⟨_,s.drop h0 hA,ao.less hM,.lst ⟨na,ha⟩ (rr.stay (ao.less hM))⟩
section
def pg(X:Cx)(z:Z)(g:G)(qn:Str)(N':List Str)(iv:Nat)(scope:Scope)(bI:Expr)(l:Lt)(d:D):Prop:=
 ∀(bk:Bk) (σ:Sg),XZ X σ bk->∀(gb:G) (σb:Sg) (Ab Mb:List Addr) (Hb:Hp) (v:V) (A1:List Addr) (Q:VK),S z gb σb Ab Mb Hb->σb[iv]?=some (some v)->Slots z.K Mb Hb g σ A1->jk X qn Mb Hb l v->
  (∀v' H' az M',S z gb σb az M' H'->ao Mb Hb M' H'->Rep z.K M' H' d v'->Q v' H')->vn (X.blk N' scope bk) bI σb Hb Q
theorem T3{l:Lt}{r':R}{d:D}{v fx qual:Str}{fp vp cp:Pos}{st:Stmt}{f:Addr}{fd:FuncData}(B:aH X.env.scope l.scope)(L:dR l.params l.scope)(Ff:JF X.K fx qual st f fd)(hm:X.mg fx=some (.ref f))(gX:(fx==("__debug__":Str))=false)
  (hg:∀bk:Bk,Gl (X.blk N' scope bk) fx) {iv:Nat} (hix:N'[iv]?=some v) (hv:∀bk:Bk,qk (X.blk N' scope bk).env.scope v) (hd:(v==("__debug__":Str))=false) (bH:(v==("__classdict__":Str))=false)
  (hcall:∀bk:Bk,yt (X.blk N' scope bk) X z g qn l r' f) (hr:asD r'=some d):pg X z g qn N' iv scope (.Call (.Name fx fp) [.Name v vp] [] cp) l d:=by
 intro bk σ hbk gb σb Ab Mb Hb v0 A1 Q s0 hσ sl la kQ;refine⟨λσ' H' Q'=>∃As M A0,S z gb σ' As M H'/\σ'[iv]?=some (some v0)/\Slots z.K M H' g σ A0/\jk X qn M H' l v0/\∀v' H2 az M',S z gb σ' az M' H2->ao M H' M' H2->Rep z.K M' H2 d v'->Q' v' H2,?_,Ab,Mb,A1,s0,hσ,sl,la,kQ⟩
 intro ah s1 σ' H' Q' I ⟨As,M,A0,S1,hv0,YK,la0,kQ0⟩;refine rV (eU I (hg bk) hm ?_ gX);refine AG (h₀:=X.base) I.ok.mod.DP Ff.kp (i9 ((bF (fZ (X:=X.blk N' scope bk) hix (hv bk) hd bH) gj rfl) cp ah s1 σ' H' (λvs H1=>vs=[v0]/\H1=H') I ⟨v0,hv0,rfl,rfl⟩) (λus s2 q1=>?_) λ_ _ z=>z) rfl rfl
 obtain⟨vs,H1,I1,rv,rfl,rfl⟩:=q1;obtain⟨p,c',gR,cl,rfl,np1,nc1,hp1,hc1,Cr,Mq⟩:=la0;obtain⟨pins0,I0,f0⟩:=hbk;have C0:lH X.N σ l.scope cl H1 s2.heap:=(zM I0 B L.nl Cr Mq).un' I1.base λx a e hb=>(f0 a hb).2.2.2.2.1 x a (Cr x a e).1 rfl
 refine⟨I1.mR,hcall bk I1 S1 hp1 hc1 C0 YK rv λu v H' s' az M' I' r1 a b d'=>?_⟩
 obtain⟨M2,s3,dX,R3⟩:=yx a d' hr;exact⟨v,H',I',r1,kQ0 v H' az M2 s3 (b.trans dX) R3⟩
inductive dO(P:Lt->D->Prop):List Lt->List D->Prop
 |nil:dO P [] []
 |cons {l:Lt}{ls:List Lt}{d:D}{ds:List D}:P l d->dO P ls ds->dO P (l::ls) (d::ds)
theorem dO.get(h:dO P ls ds):∀{i:Nat}{l:Lt},ls[i]?=some l->∃d,ds[i]?=some d/\P l d:=by
 induction h with
 |nil=>intro i l e;cases e
 |cons a _ ih=>intro i l e;cases i with
  |zero=>cases (show some _=some l from e);exact⟨_,rfl,a⟩
  |succ i=>exact ih (i:=i) e
theorem dO.length(h:dO P ls ds):ls.length=ds.length:=by
 induction h with
 |nil=>rfl
 |cons _ _ ih=>exact congrArg (· + 1) ih
theorem yy(hj:j<k)(hN:Names X.N N' scope k)(B:aH X.env.scope scope)(hc:X.calm=true)(hi:X.N[ic]?=some y)(hv:qk X.env.scope y)(hd:(y==("__debug__":Str))=false)(bH:(y==("__classdict__":Str))=false)
  (hx:∀b:Bk,xU (X.blk N' scope b) x (X.N.length+j)) (P5:g.length=X.N.length) (hls:ls.length<1000) (he:dO (pg X z g qn N' (X.N.length+j) scope bI) ls ds) :
  ∃t,PE X (.ListComp bI [⟨.Name x px,.Name y py,[],0⟩] scope pos) t/\∀σ H M0 H0 Q,LL X z g qn ic M0 H0 ls σ H->Kn z g σ M0 H0 (.new ds) Q->t σ H Q:=by
 refine⟨_,zq (k:=k) (wi:=Pp X.K (Xa ic)) B hc hN (nj (fZ hi hv hd bH)) (λb=>⟨sG (hx b).nd (hx b).ix (hx b).lc (hx b).fn,oq,jy⟩) (λ_=>rfl),λσ H M0 H0 Q h kq=>?_⟩
 obtain⟨As,M,a,vs,s,st,e1,hm,hA,h0,ha,la⟩:=h;have hM:∀m∈(M.filter λm=>decide (m≠a)),m∈M:=λm hm=>(lL.mp hm).1
 have na:a∉(M.filter λm=>decide (m≠a)):=λhm=>by
  have:=(lL.mp hm).2;simp at this
 have s1:=s.drop h0 hA;have cE:=st.trans (ao.less (H:=H) hM);have la1:=la.stay (ao.less (H:=H) hM);generalize (M.filter λm=>decide (m≠a))=M1 at na s1 cE la1
 refine⟨.ref a,e1,a,rfl,⟨vs,bN.of ha⟩,λD hD=>?_⟩
 have hl:g.length=σ.length:=s.sl.length;have hlN:σ.length=X.N.length:=hl.symm.trans P5;have h0D:z.H0 D=none:=s1.bR hD;have nA:D∉As:=λh=>s1.fresh hD (s1.sub D h)
 have sb:=(s1.aR (xs:=[]) hD).extend (k:=k) (l:=[]) dL nA h0D aA .nil;refine⟨λi m σ' H'=>i+m=ls.length/\∃Ab Mb w,S z (g++(List.replicate k .no++[.own (ds.take i)])) σ' Ab Mb H'/\ao M1 H Mb H'/\w.length=k/\σ'=σ++(w++[some (.ref D)]),⟨ls.length,CF _,_,_,_,sb,ao.aR hD,fI,rfl⟩,?_⟩
 rintro i m σ' H' ⟨Wk,Ab,Mb,w,s2,aI,hw,rfl⟩;have ha2:=aI _ _ ha na;have la2:=la1.stay aI;have mz:∀w:List (Option V),w.length=k->(σ++(w++[some (V.ref D)]))[g.length+k]?=some (some (V.ref D)):=λw hw=>by rw[hl,eC (wP _ _),l4,eC ⋯,hw,A4];rfl
 have zO:∀l,(g++(List.replicate k Slot.no++[Slot.own l]))[g.length+k]?=some (.own l):=λl=>by rw[eC (wP _ _),l4,eC (by rw[fI];exact eJ _),fI,A4];rfl
 cases e:ls[i]? with
 |none=>
  have hi':i=ls.length:=by have:=nK.mp e;lia
  refine .inl ⟨⟨vs,bN.of ha2.1,by rw[<- la.length,hi'];exact eJ _⟩,?_⟩
  rw[List.take_of_length_le (by rw[<- he.length,hi'];exact eJ _)]at s2
  obtain⟨b,xs,f1,f2,f3,f4⟩:=s2.sl.at (zO ds);rw[mz w hw]at f1;injection f1 with f1;injection f1 with f1;injection f1 with f1;subst f1;obtain⟨A1,s3,m3,n3⟩:=s2.shrink (λp hp=>(dC.mp (s.gS p hp).1).1) (i:=g.length+k) ⋯ (zO ds) (mz w hw)
  rw[List.take_append_of_le_length ⋯,List.take_of_length_le ⋯]at s3;exact kq _ H' A1 Mb s3 (cE.trans aI) ⟨D,xs,rfl,m3,n3,h0D,f3,f4⟩
 |some l=>
  obtain⟨v,ev,lv⟩:=la2.get e;obtain⟨d,ed,hE⟩:=he.get e;refine .inr ⟨⟨vs,v,bN.of ha2.1,ev⟩,λσ' H'=>∃Ab Mb w,S z (g++(List.replicate k .no++[.own (ds.take (i+1))])) σ' Ab Mb H'/\ao M1 H Mb H'/\w.length=k/\σ'=σ++(w++[some (.ref D)]),λJG JH hN=>⟨m - 1,by have:=(dC.mp e).1;lia,by have:=(dC.mp e).1;lia,hN⟩,λx' H2 hx' bk hbk=>?_⟩
  obtain⟨rfl,hy⟩:=hx';have:=hy vs (bN.of ha2.1);rw[ev]at this;cases this;have YM:(w.set j (some v)).length=k:=by rw[u7];exact hw
  have es:(σ++(w++[some (V.ref D)])).set (X.N.length+j) (some v)=σ++(w.set j (some v)++[some (V.ref D)]):=by rw[<- hlN,u8 _ _ (wP _ _),l4,List.set_append_left _ _ ⋯]
  have s3:S z (g++(List.replicate k .no++[.own (ds.take i)])) (σ++(w.set j (some v)++[some (V.ref D)])) Ab Mb H2:=by rw[<- es];exact s2.rF (by rw[<- P5,eC (wP _ _),l4,eD (by rw[fI];exact hj),A6,gL hj])
  obtain⟨σ1,σ2,A1,A2,c1,c2,c3,c4⟩:=s3.sl.split;obtain⟨rfl,_⟩:=List.append_inj c1 (hl.symm.trans c3.length);unfold uU zp;dsimp only;rw[gL rfl];show vn _ bI ((σ++(w++[some (V.ref D)])).set (X.N.length+j) (some v)) H2 _;rw[es];refine hE bk σ hbk _ _ Ab Mb H2 v A1 _ s3 (by rw[<- hlN,eC (wP _ _),l4,eD ⋯,i4 ⋯]) c3 lv λv' H3 ji M3 s4 qu R4=>?_
  obtain⟨b,xs,f1,f2,f3,f4⟩:=s4.sl.at (zO (ds.take i));rw[mz _ YM]at f1;injection f1 with f1;injection f1 with f1;injection f1 with f1;subst f1;have ht:ds.take (i+1)=ds.take i++[d]:=by rw[List.take_add_one,ed];rfl
  obtain⟨s5,jU⟩:=s4.write (l':=ds.take (i+1)) (zO _) (mz _ YM) (by rw[ht];exact f4.append (.cons R4 .nil))
  have eg:(g++(List.replicate k Slot.no++[Slot.own (ds.take i)])).set (g.length+k) (.own (ds.take (i+1)))=g++(List.replicate k Slot.no++[Slot.own (ds.take (i+1))]):=by rw[u8 _ _ (wP _ _),l4,u8 _ _ (by rw[fI];exact eJ _),fI,A4];rfl
  rw[eg]at s5;refine⟨xs,f3,?_,ji,M3,_,s5,(aI.trans qu).trans jU,YM,rfl⟩;rw[<- f4.length,mB,sB];have:=Nat.min_le_right i ds.length;rw[<- he.length]at this ⊢
  lia
theorem vQ(hj:j<k)(hN:Names X.N N' scope k)(B:aH X.env.scope scope)(hc:X.calm=true)(hi:X.N[ic]?=some y)(hv:qk X.env.scope y)(hd:(y==("__debug__":Str))=false)(bH:(y==("__classdict__":Str))=false)
  (hx:∀b:Bk,xU (X.blk N' scope b) x (X.N.length+j)) (hls:ls.length<1000) (he:dO (pg X z g qn N' (X.N.length+j) scope bI) ls ds) :
  ∃t,PE X (.ListComp bI [⟨.Name x px,.Name y py,[],0⟩] scope pos) t/\∀σ H M0 H0 Q,LL X z g qn ic M0 H0 ls σ H->Kn z g σ M0 H0 (.new ds) Q->t σ H Q:=by
 by_cases P5:g.length=X.N.length
 . exact yy hj hN B hc hi hv hd bH hx P5 hls he
 .
  refine⟨λσ H Q=>σ.length≠X.N.length,λah s σ H Q I h=>absurd I.len h,λσ H M0 H0 Q h _ e=>?_⟩
  obtain⟨As,M,a,vs,s,_⟩:=h;exact P5 (s.sl.length.trans e)
end
inductive T4(X:Cx):List Stmt->List TS->Prop
 |nil:T4 X [] []
 |cons {s:Stmt}{ss:List Stmt}{t:TS}{ts:List TS}:PS X s t->T4 X ss ts->T4 X (s::ss) (t::ts)
def Mx:List TS->TS->TS
 | [],u=>u
 |t::ts,u=>Xh t (Mx ts u)
theorem T4.pss{X:Cx}{ss rest:List Stmt}{ts:List TS}{u:TS}(h:T4 X ss ts)(hu:sD X rest u):sD X (ss++rest) (Mx ts u):=by
 induction h with
 |nil=>exact hu
 |cons a _ ih=>exact dY a ih
def pq(X:Cx)(z:Z)(ss:List Stmt)(g:G)(f:Fl)(g':G):Prop:=
 ∃ts,T4 X ss ts/\∀(u:TS) σ As M H (E:Ends),S z g σ As M H->mq z M H { E with nx:=u E} g' f->Mx ts u E σ H
theorem pq.lift(h:pq X.iS z ss g f g'):pq X z ss g f g':=by
 obtain⟨ts,q,k⟩:=h;refine⟨ts,?_,k⟩;clear k
 induction q with
 |nil=>exact .nil
 |cons a _ ih=>exact .cons (λah s σ H D I hw=>i9 (a ah s σ H D (I.wish _) hw) (λ_ _ q=>q.cg) λ_ _ z=>False.elim z) ih
theorem pq.bk{X:Cx}{z:Z}{ss rest:List Stmt}{g g1 g':G}{f:Fl}(h:pq X z ss g .nx g1)(h2:cH X z rest g1 f g'):cH X z (ss++rest) g f g':=by obtain⟨t2,q2,k2⟩:=h2;obtain⟨t,q,k⟩:=h;exact⟨_,q.pss q2,λσ As M H E s kE=>k t2 σ As M H E s λσ' az M' H' s' st=>k2 σ' az M' H' E s' (kE.trans st)⟩
theorem pq.end{X:Cx}{z:Z}{ss rest:List Stmt}{g g':G}{f:Fl}(h:pq X z ss g f g')(hn:f≠.nx):cH X z (ss++rest) g f g':=by
 obtain⟨t,q,k⟩:=h;refine⟨_,q.pss bz,λσ As M H E s kE=>k _ σ As M H E s ?_⟩
 cases f with
 |nx=>exact absurd rfl hn
 |rt r=>exact kE
 |bk=>exact kE
 |ct=>exact kE
theorem pq.ra{X:Cx}{z:Z}{ss rest:List Stmt}{g g1 g':G}{C:Addr}(h:pq X z ss g .nx g1)(h2:Gp X z rest g1 C g'):Gp X z (ss++rest) g C g':=by obtain⟨t2,q2,k2⟩:=h2;obtain⟨t,q,k⟩:=h;exact⟨_,q.pss q2,λσ As M H E s kE=>k t2 σ As M H E s λσ' az M' H' s' st=>k2 σ' az M' H' E s' (kE.trans st)⟩
def LsOk(X:Cx)(z:Z)(qn:Str)(ic:Nat)(ls:List Lt)(st:Stmt)(g:G)(f:Fl)(g':G):Prop:=
 ∃t,PS X st t/\∀σ H M0 H0 (E:Ends),LL X z g qn ic M0 H0 ls σ H->mq z M0 H0 E g' f->t E σ H
inductive yz(y:Str):List Stmt->List Lt->Prop
 |nil:yz y [] []
 |cons {l:Lt}{ls:List Lt}{ss:List Stmt}{pn bX bh pos:Pos}:(bX.endLine==bh.line)=true->yz y ss ls->yz y (.Expr (.Call (.Attribute (.Name y pn) "append" bX) [l.ex] [] bh) pos::ss) (l::ls)
section
variable{st:Stmt}
theorem yC(hK:z.K=X.K)(mk:o9 X qn q c)(hi:X.N[ic]?=some y)(hv:qk X.env.scope y)(hd:(y==("__debug__":Str))=false)(bH:(y==("__classdict__":Str))=false):∀{ms ls:List Lt},yz y ss ms->(∀m∈ms,aH X.env.scope m.scope/\dR m.params m.scope)->ls.length+ms.length<1000->
  LsOk X z qn ic (ls++ms) st g f g'->∃ts,T4 X (ss++[st]) ts/\∀(u:TS) σ H M0 H0 (E:Ends),LL X z g qn ic M0 H0 ls σ H->mq z M0 H0 { E with nx:=u E} g' f->Mx ts u E σ H:=by
 induction ss with
 |nil=>intro ms ls ha _ _ ⟨t,q,k⟩;cases ha;rw[nN]at k;exact⟨[t],.cons q .nil,λu σ H M0 H0 E h kE=>k σ H M0 H0 { E with nx:=u E} h kE⟩
 |cons s ss ih=>
  intro ms ls ha hm hl hs;cases ha with
  |@cons m ms _ pn bX bh pos' e ha=>
   obtain⟨B,L⟩:=hm m dL;obtain⟨t1,q1,k1⟩:=yw (z:=z) (g:=g) (ls:=ls) (pos:=pos') (pn:=pn) hK mk B L hi hv hd bH ⋯ e;obtain⟨t2,q2,k2⟩:=ih (ls:=ls++[m]) ha (λm h=>hm m (dA _ h)) (by simp at hl ⊢;lia) (by rw[AQ];exact hs)
   exact⟨t1::t2,.cons q1 q2,λu σ H M0 H0 E h kE=>k1 σ H M0 H0 _ h λH' h'=>k2 u σ H' M0 H0 E h' kE⟩
theorem mH(hK:z.K=X.K)(mk:o9 X qn q c)(hN:X.N.Nodup)(hi:X.N[ic]?=some y)(hx:Loc X.env.scope y)(hf:X.fn y=true\/X.env.scope.names.lookup y=some .local)(hv:qk X.env.scope y)(hd:(y==("__debug__":Str))=false)(bH:(y==("__classdict__":Str))=false)(hg:g[ic]?=some .no)
  {ss:List Stmt} (ha:yz y ss ls) (hm:∀m∈l::ls,aH X.env.scope m.scope/\dR m.params m.scope) (hl:ls.length<900) (hs:LsOk X z qn ic (l::ls) st g f g'):pq X z (.Assign [.Name y py] (.List [l.ex] lp) pos::(ss++[st])) g f g':=by
 obtain⟨B,L⟩:=hm l dL;obtain⟨t1,q1,k1⟩:=Cz (z:=z) (g:=g) (py:=py) (lp:=lp) (pos:=pos) hK mk B L hN hi hx hf hg;obtain⟨t2,q2,k2⟩:=yC (ls:=[l]) hK mk hi hv hd bH ha (λm h=>hm m (dA _ h)) (by simp;lia) hs
 exact⟨t1::t2,.cons q1 q2,λu σ As M H E s kE=>k1 σ As M H _ s λσ' H' h'=>k2 u σ' H' M H E h' kE⟩
theorem Hi(h1:∃t,PE X T5 t/\∀σ H M0 H0 Q,LL X z g qn ic M0 H0 ls σ H->Kn z g σ M0 H0 (.new ds) Q->t σ H Q)(h2:au X z qA g r2 g2)(p2:pk r2 g2=some d2)(ho:mj X z (compareOp op) (.lst ds) d2 (.dat (.bl b)))(hm:behindInMarks op qA=false)
  (hb:cH X z (if b then body else []) g2 f g'):LsOk X z qn ic ls (.If (.Compare T5 [op] [qA] bh) body [] pos) g f g':=by
 obtain⟨t1,q1,k1⟩:=h1;obtain⟨t2,q2,k2⟩:=h2;obtain⟨rr,o,ko⟩:=ho;obtain⟨t3,q3,k3⟩:=hb;have go:∀σ H M0 H0 (Q:Bool->Hp->Prop),LL X z g qn ic M0 H0 ls σ H->(∀H' az M',S z g2 σ az M' H'->ao M0 H0 M' H'->Q b H')->t1 σ H λv1 H1=>t2 σ H1 λv2 H2=>rr v1 v2 H2 λv H3=>∃c,v=.bl c/\Q c H3:=λσ H M0 H0 Q h kQ=>
  k1 σ H M0 H0 _ h λv1 H1 aN M1 s1 cE R1=>by
   obtain⟨M1',s1',T6,R1'⟩:=yx s1 R1 rfl;exact k2 σ aN M1' H1 _ s1' λv2 H2 bf M2 s2 aI R2=>ko g2 σ bf M2 H2 v1 v2 _ s2 (.of (R1'.stay aI)) (s2.pk (ao.refl _ _) R2 p2) λv H' az M' s' st' R'=>⟨b,eV R',kQ H' az M' s' (((cE.trans T6).trans aI).trans st')⟩
 cases b with
 |true=>exact⟨_,nW (sI o q1 q2 hm) q3 bz,λσ H M0 H0 E h kE=>go σ H M0 H0 _ h λH' az M' s' st'=>jt (k3 σ az M' H' E s' (kE.trans st'))⟩
 |false=>exact⟨_,nW (sI o q1 q2 hm) bz q3,λσ H M0 H0 E h kE=>go σ H M0 H0 _ h λH' az M' s' st'=>mU (k3 σ az M' H' E s' (kE.trans st'))⟩
theorem CG(h1:∃t,PE X T5 t/\∀σ H M0 H0 Q,LL X z g qn ic M0 H0 ls σ H->Kn z g σ M0 H0 (.new ds) Q->t σ H Q)(h2:au X z qA g r2 g2)(p2:pk r2 g2=some d2)(ho:mj X z (compareOp op) (.lst ds) d2 (.dat (.bl b)))(hm:behindInMarks op qA=false) :
  LsOk X z qn ic ls (.Return (some (.Compare T5 [op] [qA] bh)) pos) g (.rt (.dat (.bl b))) g2:=by
 obtain⟨t1,q1,k1⟩:=h1;obtain⟨t2,q2,k2⟩:=h2;obtain⟨rr,o,ko⟩:=ho;refine⟨_,xD (zb o q1 q2 hm),λσ H M0 H0 E h kE=>k1 σ H M0 H0 _ h λv1 H1 aN M1 s1 cE R1=>?_⟩
 obtain⟨M1',s1',T6,R1'⟩:=yx s1 R1 rfl;exact k2 σ aN M1' H1 _ s1' λv2 H2 bf M2 s2 aI R2=>ko g2 σ bf M2 H2 v1 v2 _ s2 (.of (R1'.stay aI)) (s2.pk (ao.refl _ _) R2 p2) λv H' az M' s' st' R'=>kE v σ az M' H' s' (((cE.trans T6).trans aI).trans st') R'
end
def T7(X:Cx)(tg iter:Expr):TI:=λσ H R=>∃wi,PI X tg iter wi/\wi σ H R
theorem Hj:PI X tg iter (T7 X tg iter):=λah s σ H R I h=>let ⟨wi,q,k⟩:=h;q ah s σ H R I k
section
theorem Hl(hC:∀g b g',tD g b g'->cP X z ifs g b g')(hE:∀g d g',JL g d g'->au X z bI g (.dat d) g')(hw:cX X z tg iter g2 aj YQ)(ht:eu X z tg T)(gF:last∉T.ix)
  (hcp:iV T last tD JL aj YQ g3) {σ:Sg}{As M:List Addr}{H:Hp}{Nn:Sg->Hp->Prop}{D:Addr} (s:S z g2 σ As M H) (hD:σ[last]?=some (some (.ref D)))
  (k:∀σ' az M' H',S z g3 σ' az M' H'->ao M H M' H'->σ'[last]?=some (some (.ref D))->uK T.ix σ σ'->Nn σ' H'):X5 (T7 X tg iter) (Bx X tg) (Ge X ifs) (sS D (vn X bI)) σ H Nn:=by
 obtain⟨wi,q,kw⟩:=hw;refine⟨wi,q,kw σ As M H _ s λJ H1 aN M1 s1 cE hJ=>?_⟩
 refine⟨λi m σ' H'=>i+m=aj.length/\∃gb Ab Mb,S z gb σ' Ab Mb H'/\ao M1 H1 Mb H'/\uK T.ix σ σ'/\σ'[last]?=some (some (.ref D))/\iV T last tD JL (aj.drop i) gb g3,
  ⟨aj.length,by lia,_,_,_,s1,ao.refl _ _,uK.refl _ _,hD,hcp⟩,?_⟩
 rintro i m σ' H' ⟨Wk,gb,Ab,Mb,s2,aI,ag,By,cp⟩;obtain⟨hgo,hstop⟩:=hJ Mb H' aI;cases e:aj[i]? with
 |none=>
  have hi:i=aj.length:=by have:=nK.mp e;lia
  subst hi;rw[AD]at cp;cases cp;exact .inl ⟨hstop,k σ' Ab Mb H' s2 (cE.trans aI) By ag⟩
 |some d=>
  obtain⟨go,yl⟩:=hgo i d e;rw[drop_cons e]at cp;have hi:i<aj.length:=(dC.mp e).1;refine .inr ⟨go,λσ' H'=>∃gb Ab Mb,S z gb σ' Ab Mb H'/\ao M1 H1 Mb H'/\uK T.ix σ σ'/\σ'[last]?=some (some (.ref D))/\iV T last tD JL (aj.drop (i+1)) gb g3,
   λJG JH hN=>⟨m - 1,by lia,by lia,hN⟩,λx H2 hx=>?_⟩
  obtain⟨s3,dX,rx⟩:=yl x H2 hx z gb σ' Ab rfl s2;obtain⟨t,qt,kt⟩:=ht;cases cp with
  |skip e0 hc rest=>
   refine⟨t,qt,kt d gb _ e0 x _ Ab Mb H2 _ s3 rx λσ4 gP s4 YS=>?_⟩
   obtain⟨t2,q2,k2⟩:=hC _ _ _ hc;refine⟨t2,q2,k2 _ gP Mb H2 _ s4 λH5 xq M5 s5 jU=>?_⟩
   exact mU ⟨_,xq,M5,s5,(aI.trans dX).trans jU,ag.trans YS,by rw[YS.2 _ gF];exact By,rest⟩
  |take e0 hc he ha hz' rest=>
   refine⟨t,qt,kt d gb _ e0 x _ Ab Mb H2 _ s3 rx λσ4 gP s4 YS=>?_⟩
   obtain⟨t2,q2,k2⟩:=hC _ _ _ hc;obtain⟨t3,q3,k3⟩:=hE _ _ _ he;have Ln:σ4[last]?=some (some (V.ref D)):=by rw[YS.2 _ gF];exact By
   refine⟨t2,q2,k2 _ gP Mb H2 _ s4 λH5 xq M5 s5 jU=>jt ⟨t3,q3,k3 _ xq M5 H5 _ s5 λv H6 SX M6 s6 JM R6=>?_⟩⟩
   obtain⟨a,xs,f1,f2,f3,f4⟩:=s6.sl.at ha;rw[Ln]at f1;injection f1 with f1;injection f1 with f1;injection f1 with f1;subst f1;obtain⟨s7,Ym⟩:=s6.write ha Ln (f4.append (.cons R6 .nil));exact⟨xs,f3,by rw[<- f4.length,mB];exact hz',_,SX,M6,s7,(((aI.trans dX).trans jU).trans JM).trans Ym,ag.trans YS,Ln,rest⟩
end
inductive gH(T:Tg)(tD:G->Bool->G->Prop)(In:G->G->Prop):List D->G->G->Prop
 |nil {g:G}:gH T tD In [] g g
 |skip:T.set d g=some g1->tD g1 false g2->gH T tD In l g2 g'->gH T tD In (d::l) g g'
 |take:T.set d g=some g1->tD g1 true g2->In g2 g3->gH T tD In l g3 g'->gH T tD In (d::l) g g'
section
def yD(X:Cx)(z:Z)(N':List Str)(scope:Scope)(tg iter bI:Expr)(ifs:List Expr)(T:Tg)(last:Nat)(g2 g3:G):Prop:=
 ∃aj YQ,(∀bk:Bk,cX (X.blk N' scope bk) z tg iter g2 aj YQ)/\iV T last (λg b g'=>∀bk:Bk,cP (X.blk N' scope bk) z ifs g b g') (λg d g'=>∀bk:Bk,au (X.blk N' scope bk) z bI g (.dat d) g') aj YQ g3
theorem mJ(hw:cX X z t1 i1 g aj g1)(ht1:∀b:Bk,eu (X.blk N' scope b) z t1 T1)(ht:∀b:Bk,eu (X.blk N' scope b) z tg T)(hT1:∀i∈T1.ix,g1.length<=i/\i<g1.length+k)(hT:∀i∈T.ix,g1.length<=i/\i<g1.length+k)
  (hcp:gH T1 (λg b g'=>∀bk:Bk,cP (X.blk N' scope bk) z f1 g b g') (yD X z N' scope tg iter bI ifs T (g1.length+k)) aj (gC k g1) gE) (hacc:gE[g1.length+k]?=some (.own acc)) :
  ∃wi,PI X t1 i1 wi/\∀σ As M H Q,S z g σ As M H->Kn z (gE.take g1.length) σ M H (.new acc) Q->qT X k wi (λb=>Bx (X.blk N' scope b) t1) (λb=>Ge (X.blk N' scope b) f1) (λD b=>X5 (T7 (X.blk N' scope b) tg iter) (Bx (X.blk N' scope b) tg) (Ge (X.blk N' scope b) ifs) (sS D (vn (X.blk N' scope b) bI))) σ H Q:=by
 obtain⟨wi,q,kw⟩:=hw;refine⟨wi,q,λσ As M H Q s kq=>kw σ As M H _ s λJ H1 aN M1 s1 cE hJ D hD=>?_⟩
 have hl:g1.length=σ.length:=s1.sl.length;have hz:∀p∈z.lent,p.1<σ.length:=λp hp=>(dC.mp (s1.gS p hp).1).1
 have YT:∀i∈T1.ix,σ.length<=i:=λi hi=>by rw[<- hl];exact (hT1 i hi).1
 have Lk:∀i∈T.ix,σ.length<=i:=λi hi=>by rw[<- hl];exact (hT i hi).1
 have Ho:g1.length+k∉T1.ix:=λh=>l9 _ (hT1 _ h).2
 have gF:g1.length+k∉T.ix:=λh=>l9 _ (hT _ h).2
 have s1':=s1.aR (xs:=[]) hD;have h0:z.H0 D=none:=s1.bR hD;have nA:D∉aN:=λh=>s1.fresh hD (s1.sub D h)
 have sb:=s1'.extend (k:=k) (l:=[]) dL nA h0 aA .nil;have mz:(σ++(List.replicate k none++[some (V.ref D)]))[g1.length+k]?=some (some (V.ref D)):=by
  rw[hl,eC (wP _ _),l4,eC (by rw[fI];exact eJ _),fI,A4]
  rfl
 refine⟨λi m σ' H'=>i+m=aj.length/\∃gb Ab Mb τ,S z gb σ' Ab Mb H'/\ao M1 H1 Mb H'/\σ'=σ++τ/\σ'[g1.length+k]?=some (some (.ref D))/\gH T1 (λg b g'=>∀bk:Bk,cP (X.blk N' scope bk) z f1 g b g') (yD X z N' scope tg iter bI ifs T (g1.length+k)) (aj.drop i) gb gE,
  ⟨aj.length,by lia,_,_,_,_,sb,ao.aR hD,rfl,mz,hcp⟩,?_⟩
 rintro i m σ' H' ⟨Wk,gb,Ab,Mb,τ,s2,aI,rfl,By,cp⟩;obtain⟨hgo,hstop⟩:=hJ Mb H' aI;cases e:aj[i]? with
 |none=>
  have hi:i=aj.length:=by have:=nK.mp e;lia
  subst hi;rw[AD]at cp;cases cp;refine .inl ⟨hstop,?_⟩;obtain⟨a,xs,f1,f2,f3,f4⟩:=s2.sl.at hacc;rw[By]at f1;injection f1 with f1;injection f1 with f1;injection f1 with f1;subst f1;obtain⟨A1,s3,m3,n3⟩:=s2.shrink hz ⋯ hacc By;rw[<- hl]at s3;exact kq _ H' A1 Mb s3 (cE.trans aI) ⟨D,xs,rfl,m3,n3,h0,f3,f4⟩
 |some d=>
  obtain⟨go,yl⟩:=hgo i d e;rw[drop_cons e]at cp;have hi:i<aj.length:=(dC.mp e).1;refine .inr ⟨go,λσ' H'=>∃gb Ab Mb τ,S z gb σ' Ab Mb H'/\ao M1 H1 Mb H'/\σ'=σ++τ/\σ'[g1.length+k]?=some (some (.ref D))/\gH T1 (λg b g'=>∀bk:Bk,cP (X.blk N' scope bk) z f1 g b g') (yD X z N' scope tg iter bI ifs T (g1.length+k)) (aj.drop (i+1)) gb gE,
   λJG JH hN=>⟨m - 1,by lia,by lia,hN⟩,λx H2 hx bk _=>?_⟩
  obtain⟨s3,dX,rx⟩:=yl x H2 hx z gb (σ++τ) Ab rfl s2;obtain⟨t,qt,kt⟩:=ht1 bk;cases cp with
  |skip e0 hc rest=>
   refine⟨t,qt,kt d gb _ e0 x _ Ab Mb H2 _ s3 rx λσ4 gP s4 ag=>?_⟩
   obtain⟨τ',rfl⟩:=cY ag YT;obtain⟨t2,q2,k2⟩:=hc bk;refine⟨t2,q2,k2 _ gP Mb H2 _ s4 λH5 xq M5 s5 jU=>?_⟩
   refine mU ⟨_,xq,M5,τ',s5,(aI.trans dX).trans jU,rfl,?_,rest⟩;rw[ag.2 _ Ho];exact By
  |take e0 hc hin rest=>
   obtain⟨items2,YQ,YM,cp2⟩:=hin;refine⟨t,qt,kt d gb _ e0 x _ Ab Mb H2 _ s3 rx λσ4 gP s4 ag=>?_⟩
   obtain⟨τ',rfl⟩:=cY ag YT;obtain⟨t2,q2,k2⟩:=hc bk;have Ln:(σ++τ')[g1.length+k]?=some (some (V.ref D)):=by rw[ag.2 _ Ho];exact By
   refine⟨t2,q2,k2 _ gP Mb H2 _ s4 λH5 xq M5 s5 jU=>jt ?_⟩
   refine Hl (λg b g' h=>h bk) (λg d g' h=>h bk) (YM bk) (ht bk) gF cp2 s5 Ln λσ6 SX M6 H6 s6 JM Ww ag6=>?_
   obtain⟨τ6,rfl⟩:=cY ag6 Lk;exact⟨_,SX,M6,τ6,s6,((aI.trans dX).trans jU).trans JM,rfl,Ww,rest⟩
theorem Hq(B:aH X.env.scope scope)(hc:X.calm=true)(hN:Names X.N N' scope k)(hw:cX X z t1 i1 g aj g1)(ht1:∀b:Bk,eu (X.blk N' scope b) z t1 T1)(ht:∀b:Bk,eu (X.blk N' scope b) z tg T)(hT1:∀i∈T1.ix,g1.length<=i/\i<g1.length+k)(hT:∀i∈T.ix,g1.length<=i/\i<g1.length+k)
  (hcp:gH T1 (λg b g'=>∀bk:Bk,cP (X.blk N' scope bk) z f1 g b g') (yD X z N' scope tg iter bI ifs T (g1.length+k)) aj (gC k g1) gE) (hacc:gE[g1.length+k]?=some (.own acc))
  (hs:∀x,foldedSetIterable i1 X.env x=pure x) (hs2:∀(b:Bk) x,foldedSetIterable iter (X.blk N' scope b).env x=pure x):au X z (.ListComp bI [⟨t1,i1,f1,0⟩,⟨tg,iter,ifs,0⟩] scope pos) g (.new acc) (gE.take g1.length):=by
 obtain⟨wi,q,kk⟩:=mJ hw ht1 ht hT1 hT hcp hacc;exact⟨_,Fg B hc hN q (λb=>⟨⟨g9,lB⟩,Hj,g9,lB,jy⟩) hs hs2,kk⟩
theorem Hr(B:aH X.env.scope scope)(hc:X.calm=true)(hN:Names X.N N' scope k)(hw:cX X z t1 i1 g aj g1)(ht1:∀b:Bk,eu (X.blk N' scope b) z t1 T1)(ht:∀b:Bk,eu (X.blk N' scope b) z tg T)(hT1:∀i∈T1.ix,g1.length<=i/\i<g1.length+k)(hT:∀i∈T.ix,g1.length<=i/\i<g1.length+k)
  (hcp:gH T1 (λg b g'=>∀bk:Bk,cP (X.blk N' scope bk) z f1 g b g') (yD X z N' scope tg iter bI ifs T (g1.length+k)) aj (gC k g1) gE) (hacc:gE[g1.length+k]?=some (.own acc))
  (KH:X.N.Nodup) (hy:X.N[i]?=some y) (hl:X.env.scope.names.lookup y=some .local) (hb:i∉z.bor) (hi:i<(gE.take g1.length).length)
  (hsw:swapsWith (.ListComp bI [⟨t1,i1,f1,0⟩,⟨tg,iter,ifs,0⟩] scope pos) (some (.Name y py)) c9.line X.env=pure true)
  (hs:∀x,foldedSetIterable i1 X.env x=pure x) (hs2:∀(b:Bk) x,foldedSetIterable iter (X.blk N' scope b).env x=pure x):fy X z (.Assign [.Name y py] (.ListComp bI [⟨t1,i1,f1,0⟩,⟨tg,iter,ifs,0⟩] scope pos) c9) g .nx ((gE.take g1.length).set i (.own acc)):=by
 obtain⟨wi,q,kk⟩:=mJ hw ht1 ht hT1 hT hcp hacc;refine⟨_,Fj B hc hN q (λb=>⟨⟨g9,lB⟩,Hj,g9,lB,jy⟩) KH hy hl hsw hs hs2,λσ As M H E s kE=>kk σ As M H _ s λv H' az M' s' st R=>?_⟩
 obtain⟨a,xs,rfl,hm,hA,h0,ha,rr⟩:=R;obtain⟨bf,s2⟩:=s'.oA hb hi hm hA h0 ha rr;exact kE _ bf M' H' s2 st
end
inductive My(z:Z)(As M:List Addr)(H:Hp):List Addr->List (List D)->Prop
 |nil:My z As M H [] []
 |cons {p:Addr}{as:List Addr}{xs:List V}{l:List D}{ll:List (List D)}:p∈M->p∉As->z.H0 p=none->H p=some (.lst xs)->aG z.K M H l xs->My z As M H as ll->My z As M H (p::as) (l::ll)
def Rows(z:Z)(g:G)(iy:Nat)(M0:List Addr)(H0:Hp)(ll:List (List D))(σ:Sg)(H:Hp):Prop:=
 ∃As M a as,S z g σ As M H/\ao M0 H0 M H/\σ[iy]?=some (some (.ref a))/\a∈M/\a∉As/\z.H0 a=none/\H a=some (.lst (as.map .ref))/\a∉as/\as.Nodup/\My z As M H as ll
end Ev
namespace HT
open PySem PyProof.Rows
end HT
namespace Ev
open L2
mutual
noncomputable def iz:D->Bool
 |.tup l=>fB l
 |.lst l=>fB l
 |.fix l=>fB l
 |.sV ..=>false
 |_=>true
noncomputable def fB:List D->Bool
 | []=>true
 |d::l=>iz d&&fB l
end
def jA:G->Bool
 | []=>true
 |.no::g=>jA g
 |.dat d::g=>iz d&&jA g
 |.own l::g=>fB l&&jA g
theorem vR:∀{l m:List D},fB l=true->fB m=true->fB (l++m)=true
 | [],_,_,h=>h
 |d::l,_,h,k=>by
  have h:(iz d&&fB l)=true:=h;rw[dS]at h;show (iz d&&fB (l++_))=true;rw[h.1,vR h.2 k];rfl
section
variable{K:Frag}{M:List Addr}{H:Hp}{q:Addr}{dc:List (List Key×V)}{u:HO}
theorem Rep.Hs(hq:H q=some (.dT dc)){d:D}{v:V}(r:Rep K M H d v):iz d=true->Rep K M (upd H q u) d v:=by
 have ne:∀{b:Addr}{o:HO},H b=some o->(∀l,o≠.dT l)->upd H q u b=some o:=λ{b o} e n=>by
  rw[aq (λz=>by rw[z,hq]at e;cases e;exact n _ rfl)];exact e
 refine Rep.rec (motive_1:=λd v _=>iz d=true->Rep K M (upd H q u) d v) (motive_2:=λds vs _=>fB ds=true->aG K M (upd H q u) ds vs) (λ_=>.non) (λb _=>.bl b) (λi _=>.int i) (λx _=>.str x) (λt _ ih h=>?_) (λt _ ih h=>?_) (λt _ ih h=>?_) (λn r _=>.emp n (ne r λ_ e=>nomatch e)) (λx n r _=>.lg x n (ne r λ_ e=>nomatch e)) (λ_ _ _ _ _ h=>Bool.noConfusion (show false=true from h)) (λ_=>.nil) (λ_ _ i1 i2 h=>?_) r
 .
  rcases t with ⟨n,t |⟨o,t⟩⟩ |t
  . exact .tup (.inl ⟨n,.inl (ne t λ_ e=>nomatch e)⟩) (ih h)
  . exact .tup (.inl ⟨n,.inr ⟨o,ne t λ_ e=>nomatch e⟩⟩) (ih h)
  . exact .tup (.inr t) (ih h)
 . exact .lst ⟨t.1,ne t.2 λ_ e=>nomatch e⟩ (ih h)
 .
  rcases t with ⟨n,o,t⟩ |t
  . exact .fix (.inl ⟨n,o,ne t λ_ e=>nomatch e⟩) (ih h)
  . exact .fix (.inr t) (ih h)
 . have h:(iz _&&fB _)=true:=h;rw[dS]at h;exact .cons (i1 h.1) (i2 h.2)
theorem aG.Hs(hq:H q=some (.dT dc)):∀{ds:List D}{vs:List V},aG K M H ds vs->fB ds=true->aG K M (upd H q u) ds vs
 | [],_,r,_=>by cases r;exact .nil
 |d::ds,_,r,h=>by
  have h:(iz d&&fB ds)=true:=h;rw[dS]at h;cases r with
  |cons a b=>exact .cons (a.Hs hq h.1) (b.Hs hq h.2)
theorem Slots.Hs(hq:H q=some (.dT dc)){g:G}{σ:Sg}{As:List Addr}(s:Slots K M H g σ As):jA g=true->Slots K M (upd H q u) g σ As:=by
 induction s with
 |nil=>exact λ_=>.nil
 |no _ ih=>exact λh=>.no (ih h)
 |@dat g σ As v d r _ ih=>intro h;have h:(iz d&&jA g)=true:=h;rw[dS]at h;exact .dat (r.Hs hq h.1) (ih h.2)
 |@own g σ As a xs ds e r _ ih=>intro h;have h:(fB ds&&jA g)=true:=h;rw[dS]at h;exact .own (by rw[aq (λz=>by rw[z,hq]at e;cases e)];exact e) (aG.Hs hq r h.1) (ih h.2)
end
section
variable{z:Z}{g:G}{σ:Sg}{As M:List Addr}{H:Hp}
theorem S.Hs(s:S z g σ As M H){q:Addr}{dc:List (List Key×V)}{u:HO}(hq:H q=some (.dT dc))(hn:q∉M)(h0:z.H0 q=none)(h:jA g=true):S z g σ As M (upd H q u) where
 sl:=s.sl.Hs hq h
 nd:=s.nd
 sub:=s.sub
 own:=s.own
 live:=λm hm=>by
  rcases s.live m hm with ⟨o,e,gr⟩ |e
  . exact .inl ⟨o,by rw[aq (λ(z:m=q)=>hn (by rw[<- z];exact hm))];exact e,gr⟩
  . exact .inr e
 keep:=λb o e hb ht=>by rw[aq (λz=>by rw[z,h0]at e;cases e)];exact s.keep b o e hb ht
 gJ:=s.gJ
 m0:=s.m0
 bm:=s.bm
 gS:=s.gS
 tab:=λp hp=>(s.tab p hp).keep λb o e n=>by rw[aq (λz=>by rw[z,hq]at e;cases e;exact n trivial)];exact e
 tm:=s.tm
 tt:=s.tt
def gD(k:Nat)(g:G):G:=g++List.replicate (k+1) .no
theorem vU{K:Frag}:∀τ:Sg,Slots K M H (List.replicate τ.length .no) τ []
 | []=>.nil
 |_::τ=>.no (vU τ)
theorem S.wide(s:S z g σ As M H)(τ:Sg):S z (g++List.replicate τ.length .no) (σ++τ) As M H:=by
 have q:=s.sl.append (vU (K:=z.K) (M:=M) (H:=H) τ);rw[nN]at q;have hl:=s.sl.length;refine⟨q,s.nd,s.sub,λi b l e1 e2=>?_,s.live,s.keep,s.gJ,s.m0,s.bm,λp hp=>?_,s.tab,s.tm,s.tt⟩
 .
  rcases AJ i g.length with hi |hi
  . rw[eD hi]at e1;rw[eD ⋯]at e2;exact s.own i b l e1 e2
  . rw[eC hi]at e1;have:=l6 e1;rw[vS]at this;exact absurd this.2 ⋯
 . obtain⟨q1,l,q2⟩:=s.gS p hp;exact⟨by rw[eD (dC.mp q1).1];exact q1,l,by rw[eD (dC.mp q2).1];exact q2⟩
theorem S.narrow{gb:G}{τ:Sg}(s:S z gb (σ++τ) As M H)(hz:∀p∈z.lent,p.1<σ.length):∃A1,S z (gb.take σ.length) σ A1 M H/\∀a∈A1,a∈As:=by
 have hl:=s.sl.length;rw[fR]at hl;have q:=s.sl;rw[<- AL σ.length gb]at q;obtain⟨σ1,σ2,A1,A2,h1,h2,h3,h4⟩:=q.split;have l1:=h3.length;rw[sB,Nat.min_eq_left ⋯]at l1;obtain⟨rfl,rfl⟩:=List.append_inj h1 l1;subst h2;have tk:∀(j:Nat) (o:Slot),(gb.take σ.length)[j]?=some o->gb[j]?=some o/\j<σ.length:=λj o e=>by
  have hj:=(dC.mp e).1;rw[sB]at hj;have hj':j<σ.length:=eQ hj (Nat.min_le_left _ _);rw[sT hj']at e;exact⟨e,hj'⟩
 refine⟨A1,⟨h3,(AR.mp s.nd).1,λb hb=>s.sub b (t6 _ hb),λj b l c1 c2=>?_,s.live,s.keep,s.gJ,s.m0,s.bm,λp hp=>?_,s.tab,s.tm,s.tt⟩,λa ha=>t6 _ ha⟩
 . obtain⟨c3,c4⟩:=tk j _ c1;exact s.own j b l c3 (by rw[eD c4];exact c2)
 . obtain⟨c1,l,c2⟩:=s.gS p hp;have vj:=hz p hp;rw[eD vj]at c1;exact⟨c1,l,by rw[sT vj];exact c2⟩
end
section
variable{X:Cx}{z:Z}{tg iter kx vx:Expr}{scope:Scope}{pos:Pos}{N':List Str}{k:Nat}{T:Tg}{aj:List D}{g g1 gE:G}{ks:List (List Int)}{ds:List D}
def yE(X:Cx)(z:Z)(e:Expr)(g:G)(ns:List Int)(g':G):Prop:=
 ∃t,PE X e t/\∀σ As M H (Q:VK),S z g σ As M H->(∀a H' az M',S z g' σ az M' H'->ao M H M' H'->a∉M'->H' a=some (.tup (ns.map V.int))->Q (.ref a) H')->t σ H Q
theorem T8{es:List Expr}{rs:List R}{l:List D}{ns:List Int}{x1}{g':G}(h:cO X z es g rs g')(hd:sW rs=some l)(hi:aW l=some ns)(hl:l.length<=16777216):yE X z (.Tuple es x1 pos) g ns g':=by
 obtain⟨t,q,k⟩:=h;refine⟨_,xJ q,λσ As M H Q s kk=>k σ As M H _ s λvs H' az M' s' st R=>?_⟩
 have rr:=sX R hd;have e:=aV rr hi;subst e;exact⟨by rw[<- rr.length];exact g7 hl,λp hp=>kk p _ az M' (s'.laid hp) (st.trans (ao.laid hp)) (s'.fresh hp) aA⟩
inductive tR(T:Tg)(EvK:G->List Int->G->Prop)(EvV:G->D->G->Prop):List D->List (List Int)->List D->G->List (List Int)->List D->G->Prop
 |nil {ks:List (List Int)}{ds:List D}{g:G}:tR T EvK EvV [] ks ds g ks ds g
 |cons {d x:D}{rest ds ds':List D}{ks ks':List (List Int)}{ns:List Int}{g g1 g2 g3 g':G}:T.set d g=some g1->EvK g1 ns g2->EvV g2 x g3->ns∉ks->ks.length<16777216->jA g3=true->iz x=true->
   tR T EvK EvV rest (ks++[ns]) (ds++[x]) g3 ks' ds' g'->tR T EvK EvV (d::rest) ks ds g ks' ds' g'
theorem Mz{ns:List Int}{ks:List (List Int)}{vs:List V}(h:ns∉ks):ns.map Sum.inl∉(((ks.map (List.map Sum.inl)).zip vs).map (·.1):List (List Key)):=λhm=>by
 obtain⟨p,p1,p2⟩:=i8.mp hm;obtain⟨n,n1,n2⟩:=i8.mp (A5 (a:=p.1) (b:=p.2) p1).1;rw[p2]at n2;exact h ((List.map_inj_right λa b e=>Sum.inl.inj e).mp n2▸n1)
theorem vV(ns:List Int):(ns.map (Sum.inl:Int->Key)).map kV=ns.map V.int:=by rw[List.map_map];rfl
theorem yF(hw:cX X z tg iter g aj g1)(ht:∀b:Bk,eu (X.blk N' scope b) z tg T)(hT:∀i∈T.ix,g1.length<=i/\i<g1.length+k)
  (hcp:tR T (λg ns g'=>∀bk:Bk,yE (X.blk N' scope bk) z kx g ns g') (λg d g'=>∀bk:Bk,au (X.blk N' scope bk) z vx g (.dat d) g') aj [] [] (gD k g1) ks ds gE) :
  ∃wi,PI X tg iter wi/\∀σ As M H Q,S z g σ As M H->Kn z (gE.take g1.length) σ M H (.dat (.sV ks ds)) Q->sU (.dT []) X k wi (λb=>Bx (X.blk N' scope b) tg) (λ_=>zp) (λD b=>Ru D (vn (X.blk N' scope b) kx) (vn (X.blk N' scope b) vx)) σ H Q:=by
 obtain⟨wi,q,kw⟩:=hw;refine⟨wi,q,λσ As M H Q s kq=>kw σ As M H _ s λJ H1 aN M1 s1 cE hJ D hD=>?_⟩
 have hl:g1.length=σ.length:=s1.sl.length;have hz:∀p∈z.lent,p.1<σ.length:=λp hp=>(dC.mp (s1.gS p hp).1).1
 have Lk:∀i∈T.ix,σ.length<=i:=λi hi=>by rw[<- hl];exact (hT i hi).1
 have h0:z.H0 D=none:=s1.bR hD;have sb:=(s1.laid (o:=Fq [] []) hD).wide (List.replicate k none++[some (V.ref D)]);rw[show (List.replicate k (none:Option V)++[some (V.ref D)]).length=k+1 by simp]at sb
 have pass:∀{M2:List Addr}{H2:Hp}{u:HO},ao M1 H1 M2 H2->ao M1 H1 M2 (upd H2 D u):=λst b o e n=>⟨by rw[aq (aF e hD)];exact (st b o e n).1,(st b o e n).2⟩
 refine⟨λi m σ' H'=>i+m=aj.length/\∃gb Ab Mb τ ka da vs,S z gb σ' Ab Mb H'/\ao M1 H1 Mb H'/\σ'=σ++τ/\D∉Mb/\H' D=some (Fq ka vs)/\ka.length=vs.length/\aG z.K Mb H' da vs/\fB da=true/\
   tR T (λg ns g'=>∀bk:Bk,yE (X.blk N' scope bk) z kx g ns g') (λg d g'=>∀bk:Bk,au (X.blk N' scope bk) z vx g (.dat d) g') (aj.drop i) ka da gb ks ds gE,
  ⟨aj.length,by lia,_,_,_,_,[],[],[],sb,ao.laid hD,rfl,s1.fresh hD,aA,rfl,.nil,rfl,hcp⟩,?_⟩
 rintro i m σ' H' ⟨Wk,gb,Ab,Mb,τ,ka,da,vs,s2,aI,rfl,hm,hH,hkl,rr,nda,cp⟩;obtain⟨hgo,hstop⟩:=hJ Mb H' aI;cases e:aj[i]? with
 |none=>
  have hi:i=aj.length:=by have:=nK.mp e;lia
  subst hi;rw[AD]at cp;cases cp;refine .inl ⟨hstop,?_⟩;obtain⟨A1,s3,n3⟩:=s2.narrow hz;rw[<- hl]at s3;exact kq _ H' A1 Mb s3 (cE.trans aI) (.sV hm hH hkl rr)
 |some d=>
  obtain⟨go,yl⟩:=hgo i d e;rw[drop_cons e]at cp;have hi:i<aj.length:=(dC.mp e).1;refine .inr ⟨go,λσ' H'=>∃gb Ab Mb τ ka da vs,S z gb σ' Ab Mb H'/\ao M1 H1 Mb H'/\σ'=σ++τ/\D∉Mb/\H' D=some (Fq ka vs)/\ka.length=vs.length/\aG z.K Mb H' da vs/\fB da=true/\
   tR T (λg ns g'=>∀bk:Bk,yE (X.blk N' scope bk) z kx g ns g') (λg d g'=>∀bk:Bk,au (X.blk N' scope bk) z vx g (.dat d) g') (aj.drop (i+1)) ka da gb ks ds gE,
   λJG JH hN=>⟨m - 1,by lia,by lia,hN⟩,λx H2 hx bk _=>?_⟩
  obtain⟨s3,dX,rx⟩:=yl x H2 hx z gb (σ++τ) Ab rfl s2;obtain⟨t,qt,kt⟩:=ht bk;cases cp with
  |cons e0 hk hv hn hz' ng nx rest=>
   refine⟨t,qt,kt d gb _ e0 x _ Ab Mb H2 _ s3 rx λσ4 gP s4 ag=>?_⟩
   dsimp only[zp];rw[gL rfl];obtain⟨τ',rfl⟩:=cY ag Lk;obtain⟨t2,q2,k2⟩:=hk bk;obtain⟨t3,q3,k3⟩:=hv bk;refine⟨t2,q2,k2 _ gP Mb H2 _ s4 λa H5 xq M5 s5 jU na ha=>⟨t3,q3,k3 _ xq M5 H5 _ s5 λv H6 SX M6 s6 JM R6=>?_⟩⟩
   have stA:=(dX.trans jU).trans JM;obtain⟨Ww,nD6⟩:=stA D _ hH hm;refine⟨_,a,_,rfl,Ww,by rw[vV];exact (JM a _ ha na).1,Mz hn,?_,_,SX,M6,τ',_,_,vs++[v],s6.Hs Ww nD6 h0 ng,pass ((aI.trans stA)),rfl,nD6,?_,?_,?_,vR nda ?_,rest⟩
   . rw[List.length_zip,d6,<- hkl,Nat.min_self,mB];exact hz'
   .
    rw[aA];unfold Fq;rw[t5,List.zip_append (by rw[d6];exact hkl)]
    rfl
   . rw[fR,fR,hkl];rfl
   . exact aG.append (aG.Hs Ww (rr.stay stA) nda) (.cons (R6.Hs Ww nx) .nil)
   . show (iz _&&fB [])=true;rw[nx];rfl
theorem Ht(B:aH X.env.scope scope)(hc:X.calm=true)(hu:X.A.units<cLine)(hN:Names X.N N' scope k)(hw:cX X z tg iter g aj g1)(ht:∀b:Bk,eu (X.blk N' scope b) z tg T)(hT:∀i∈T.ix,g1.length<=i/\i<g1.length+k)
  (hcp:tR T (λg ns g'=>∀bk:Bk,yE (X.blk N' scope bk) z kx g ns g') (λg d g'=>∀bk:Bk,au (X.blk N' scope bk) z vx g (.dat d) g') aj [] [] (gD k g1) ks ds gE)
  (hs:∀x,foldedSetIterable iter X.env x=pure x):au X z (.DictComp kx vx [⟨tg,iter,[],0⟩] scope pos) g (.dat (.sV ks ds)) (gE.take g1.length):=by
 obtain⟨wi,q,kk⟩:=yF hw ht hT hcp;exact⟨_,Fo B hc hu hN q (λb=>⟨g9,oq,jy,jy⟩) hs,kk⟩
noncomputable def P6:List (List Int)->List D->List Int->Option D
 |k::ks,d::ds,n=>if k=n then some d else P6 ks ds n
 |_,_,_=>none
theorem vW{K:Frag}{M:List Addr}{H:Hp}{n:List Int}{d:D}:∀{ks:List (List Int)}{ds:List D}{vs:List V},aG K M H ds vs->P6 ks ds n=some d->∃v,atK ((ks.map (List.map Sum.inl)).zip vs) (n.map Sum.inl)=some v/\Rep K M H d v
 | [],_,_,_,h=>by cases h
 |_::_,[],_,_,h=>by cases h
 |k::ks,x::ds,_,r,h=>by
  cases r with
  |cons a b=>
   unfold P6 at h;unfold atK;rw[List.map_cons,y0,List.find?_cons];by_cases e:k=n
   . rw[gL e]at h;cases h;subst e;exact⟨_,by rw[oD (show (k.map Sum.inl,_).1=k.map (Sum.inl:Int->Key)from rfl)];rfl,a⟩
   .
    rw[hZ e]at h;obtain⟨v,v1,v2⟩:=vW b h;refine⟨v,?_,v2⟩;rw[show decide ((k.map (Sum.inl:Int->Key),_).1=n.map Sum.inl)=false from mP λq=>e ((List.map_inj_right λa b e=>Sum.inl.inj e).mp q)]
    exact v1
theorem T9{l:List D}{n:List Int}{d:D}(hK:z.K=X.K)(hu:X.A.units+1<cLine)(hi:aW l=some n)(h:P6 ks ds n=some d):Wi X z (.sV ks ds) (.tup l) (.dat d):=by
 refine⟨_,KJ hu,λg σ As M H v1 v2 Q s q1 q2 kk=>?_⟩
 obtain⟨b,ys,rfl,hb,rb⟩:=q2.tup;have e:=aV rb hi;subst e;cases q1 with
 |of q1=>cases q1 with
  |sV na ha hl rr=>obtain⟨v,e1,e2⟩:=vW rr h;exact⟨_,b,_,n.map Sum.inl,v,rfl,rfl,ha,by rw[vV];exact hK▸hb.sq,e1,kk _ H As M s (ao.refl _ _) e2⟩
end
section
variable{X:Cx}{z:Z}{g g1:G}{pos:Pos}
def YW:TIp:=λx y H Q=>∃l b xs zs,x=.ref l/\y=.ref b/\H l=some (.lst xs)/\H b=some (.lst zs)/\xs.length+zs.length<=sizeLine/\Q (.ref l) (upd H l (.lst (xs++zs)))
theorem Ua:PIp X .Add YW:=by
 intro ah s σ H x y v u Q I r1 r2 h;obtain⟨l,b,xs,zs,rfl,rfl,hH,hB,hz,q⟩:=h;cases r1;cases r2;obtain⟨z,its,n,r,hl,e⟩:=I.uY hH;obtain⟨z2,iI,n2,r2,hl2,e2⟩:=I.uY hB;have jg:its.toArray.size+iI.toArray.size<=sizeLine:=by rw[dE,dE];lia
 have uZ : ¬ (!its.toArray.isEmpty&&Builtin.List.listTooLong (its.toArray.size+iI.toArray.size))=true:=by rw[n9 jg,CI];exact i5
 have ta:s.TypeIs (.ref l) "list" :=⟨_,e,rfl⟩;have tb:s.TypeIs (.ref b) "list" :=⟨_,e2,rfl⟩;have lk:=PySem.F.slot_list_iadd.lookup;have Ub:fillsInplaceSlot (.type "list") "add" (Operator.Add==.Add)=pure false:=by
  unfold fillsInplaceSlot;show (typeLookup (.type "list") (dunderI "add") >>= λfi=>pure (fi.isSome&&!isSeqSlot fi))=pure false
  rw[lk,pure_bind,show isSeqSlot (some (Value.builtin "list.__iadd__"))=true by decide +kernel]
  rfl
 have hsi:seqSlot? (.type "list") (dunderI "add")=pure (some (.builtin "list.__iadd__")):=PySem.seqSlot_of lk (by decide +kernel)
 unfold inplaceOp;refine lS (aS (BY ta (aS (wpAny_of_eq Ub ?_))));show wpAny _ _ (if false=true then _ else _) _ _ s
 rw[hZ i5];refine aS (wpAny_binaryOp1_none (nm:= "add") ta tb noFill_list_add ?_);refine aS (wpAny_of_eq hsi (aS (Cc ?_)));refine call_meets PySem.F.slot_list_iadd ta PySem.F.entry_list_iadd (PySem.F.args_list_iadd_2 _ _) (AutoSeq1.list___iadd___list_list_0 l its.toArray n b iI.toArray n2 uZ (by rw[dE];lia) ⋯) ⟨e,e2,?_⟩
 refine⟨.ref l,_,I.Rl (its':=its++iI) hH e ⋯ (r.append r2) ?_,rfl,q⟩;rw[fR];lia
theorem MF{i:Nat}{x:Str}{e:Expr}{l0 l m:List D}{pos':Pos}(hn:xU X x i)(h:au X z e g (.dat (.lst m)) g1)(hg:g[i]?=some (.own l0))(JK:g1[i]?=some (.own l))(hl:l.length+m.length<=16777216) :
  fy X z (.AugAssign (.Name x pos') .Add e pos) g .nx (g1.set i (.own (l++m))):=by
 obtain⟨t,q,k⟩:=h;refine⟨_,Em hn.nd hn.ix hn.lc q Ua hn.fn,λσ As M H E s kk=>?_⟩
 obtain⟨a,xs,e1,e2,e3,e4⟩:=s.sl.at hg;refine⟨.ref a,e1,k σ As M H _ s λv H' az M' s' st R=>?_⟩
 obtain⟨b,ys,f1,f2,f3,f4⟩:=s'.sl.at JK;rw[e1]at f1;injection f1 with f1;injection f1 with f1;injection f1 with f1;subst f1;cases R with
 |@lst _ c zs hc rr=>
  refine⟨a,c,ys,zs,rfl,rfl,f3,hc.2,by rw[<- f4.length,<- rr.length,mB];exact hl,?_⟩
  obtain⟨s2,aI⟩:=s'.write JK e1 (f4.append rr);have es:σ.set i (some (V.ref a))=σ:=by
   apply List.ext_getElem?;intro j;by_cases hj:i=j
   . subst hj;rw[i4 (dC.mp e1).1,e1]
   . rw[fN hj]
  rw[es];exact kk _ az M' _ s2 (st.trans aI)
theorem Uc{i j:Int}(h0:0<=j)(h1:j<=1000000)(h2:i.natAbs<2 ^ 64):mj X z (binaryOp .LShift) (.int i) (.int j) (.dat (.int (i * 2 ^ j.toNat))):=by
 refine⟨λx y H Q=>x=.int i/\y=.int j/\Q (.int (i * 2 ^ j.toNat)) H,λah s σ H x y v u Q I r1 r2 h=>?_,λg σ As M H v1 v2 Q s q1 q2 kk=>⟨q1.int,q2.int,kk _ H As M s (ao.refl _ _) (.int _)⟩⟩
 obtain⟨rfl,rfl,q⟩:=h;obtain⟨t,rfl⟩:=r1;obtain⟨t',rfl⟩:=r2;exact lshift_int_small h0 h1 h2 ⟨.int _,H,I.tok _,⟨_,rfl⟩,q⟩
end
open L2 PySem.W
def mX(n:List Int):List (List Int)->List Int
 | []=>n
 |m::l=>mX (if HT.lexLt m n then m else n) l
theorem rG:∀(l:List (List Int)) (n m:List Int),mX n (l++[m])=if HT.lexLt m (mX n l)then m else mX n l
 | [],_,_=>rfl
 |_::l,_,m=>rG l _ m
abbrev CJ (L:List (List Int)) (i j:Nat):Bool:=HT.lexLt (L.getD i []) (L.getD j [])
theorem rH(n:List Int)(l:List (List Int)):∀k,k<=l.length->argBest (CJ (n::l)) k<=k/\(n::l).getD (argBest (CJ (n::l)) k) []=mX n (l.take k)
 | 0,_=>⟨eJ _,rfl⟩
 |k+1,hk=>by
  obtain⟨h0,h1⟩:=rH n l k (Nat.le_of_succ_le hk);have hlt:k<l.length:=hk;have e:(n::l).getD (k+1) []=l[k]:=by simp[hlt]
  have e2:l.take (k+1)=l.take k++[l[k]]:=List.take_succ_eq_append_getElem hlt;rw[e2,rG,<- h1,<- e];show (if CJ (n::l) (k+1) (argBest (CJ (n::l)) k)then k+1 else argBest (CJ (n::l)) k)<=k+1/\(n::l).getD (if CJ (n::l) (k+1) (argBest (CJ (n::l)) k)then k+1 else argBest (CJ (n::l)) k) []=_
  unfold CJ;split
  . exact⟨eJ _,rfl⟩
  . exact⟨Nat.le_succ_of_le h0,rfl⟩
section
variable{prog:Program}{w:World}{A:Around}{R:Result->Shared->Prop}{I S:Addr}{fp wr:List Addr}{n:Nat}{P:Nat->Value->Prop}{St:Nat->Heap->Prop}{h0:Heap}{bt:Nat->Nat->Bool}
abbrev MJ(h h':Heap):Prop:=∀b o,h.get? b=some o->h'.get? b=some o
def zP(prog:Program)(w:World)(A:Around)(h0:Heap)(P:Nat->Value->Prop)(bt:Nat->Nat->Bool):Prop:=
 ∀i j u v (s:Shared) (Q E:Value->Shared->Prop),MJ h0 s.heap->P i u->P j v->Q (.bool (bt i j)) s->wpAny (model prog w) A (richCompare .Lt u v) Q E s
theorem yG(W:Walks prog w A.in1 I fp wr n P St)(hc:zP prog w A.in1 h0 P bt)(hS:S∉fp)(hw:∀b o,h0.get? b=some o->b∉wr/\b≠S):∀(k j:Nat) (s:Shared) (v:Value) (c:Nat),n - (j+1)=k->j+1<=n->St (j+1) s.heap->P (argBest bt j) v->MJ h0 s.heap->
   s.heap.get? S=some { cls:=.type "list",dict:=none,data:=.seq #[v,v] c,slots:=#[]}->(∀u h tk,P (argBest bt (n - 1)) u->MJ h0 h->R (.ok (.ret u)) { s with heap:=h,toks:=tk})->
   codeAny (model prog w) A (.builtin "min.loop" ⟨[.ref I,.none,.ref S],[]⟩) R s:=by
 have hSw:S∉wr:=λz=>hS (W.sub _ z)
 have nm:(toString "min" ++ toString ".loop":String) = "min.loop" :=by decide
 intro k
 induction k with
 |zero=>
  intro j s v c hk hj st hp old oS fin;obtain rfl:n=j+1:=by lia
  refine BA F.entry_min_loop ?_;rw[Around.under_plainId yA _];refine aS (tP oS rfl ?_);refine aS (wpAny_tryCatch (W.done s _ _ st λh tk kp=>?_))
  refine aS (wpAny_updateSeq (kp S _ hSw oS) rfl (aS (BU (d0 ?_))));exact fin v _ tk hp λb o e=>(gN _ _ (oI (hw b o e).2)).trans (kp b o (hw b o e).1 (old b o e))
 |succ k ih=>
  intro j s v c hk hj st hp old oS fin;have hlt:j+1<n:=by lia
  refine BA F.entry_min_loop ?_;rw[Around.under_plainId yA _];refine aS (tP oS rfl ?_);refine aS (wpAny_tryCatch (W.item (j+1) s _ _ hlt st λu h tk hu aI kp=>?_))
  have Wx:=kp S _ hSw oS;have Ud:MJ h0 h:=λb o e=>kp b o (hw b o e).1 (old b o e)
  show wpAny _ _ (tryCatch (holding [u,u] (richCompare .Lt u v >>= _)) _ >>= _) _ _ _;refine aS (wpAny_tryCatch (lS (aS (hc (j+1) (argBest bt j) u v _ _ _ Ud hu hp ?_))));refine aS (lS (mI ?_));refine aS (BU (d0 ?_));cases hb:bt (j+1) (argBest bt j)with
  |true=>
   simp only[AI];refine aS (wpAny_updateSeq Wx rfl (aS (BU ?_)));rw[nm];refine d0 ⟨plainId_quiet yA _,ih (j+1) _ u _ ⋯ hlt (W.frame _ _ _ aI λb hb o e=>?_) (by simp only[argBest,hb,AI];exact hu) (λb o e=>?_) (oQ _ Wx rfl) fin⟩
   . exact (gN _ _ (λz:S=b=>hS (z▸hb))).trans e
   . exact (gN _ _ (oI (hw b o e).2)).trans (Ud b o e)
  |false=>simp only[AH,CD];refine aS (BU ?_);rw[nm];exact d0 ⟨plainId_quiet yA _,ih (j+1) _ v c ⋯ hlt aI (by simp only[argBest,hb,AH,CD];exact hp) Ud Wx fin⟩
theorem vX(W:Walks prog w A.in1 I fp wr n P St)(hc:zP prog w A.in1 h0 P bt)(hS:S∉fp)(hw:∀b o,h0.get? b=some o->b∉wr/\b≠S)(hn:0<n){s:Shared}{c:Nat}(st:St 0 s.heap)(old:MJ h0 s.heap)
  (oS:s.heap.get? S=some { cls:=.type "list",dict:=none,data:=.seq #[] c,slots:=#[]}) (fin:∀u h tk,P (argBest bt (n - 1)) u->MJ h0 h->R (.ok (.ret u)) { s with heap:=h,toks:=tk}) :
   codeAny (model prog w) A (.builtin "min.loop" ⟨[.ref I,.none,.ref S],[]⟩) R s:=by
 have hSw:S∉wr:=λz=>hS (W.sub _ z)
 have nm:(toString "min" ++ toString ".loop":String) = "min.loop" :=by decide
 refine BA F.entry_min_loop ?_;rw[Around.under_plainId yA _];refine aS (tP oS rfl ?_);refine aS (wpAny_tryCatch (W.item 0 s _ _ hn st λu h tk hu aI kp=>?_))
 have Wx:=kp S _ hSw oS;show wpAny _ _ (updateSeq S (λ_=>#[u,u]) >>= _) _ _ _
 refine aS (wpAny_updateSeq Wx rfl ?_);rw[nm];refine d0 ⟨plainId_quiet yA _,yG W hc hS hw _ 0 _ u _ rfl hn (W.frame _ _ _ aI λb hb o e=>?_) hu (λb o e=>?_) (oQ _ Wx rfl) fin⟩
 . exact (gN _ _ (λz:S=b=>hS (z▸hb))).trans e
 . exact (gN _ _ (oI (hw b o e).2)).trans (kp b o (hw b o e).1 (old b o e))
theorem pA{x:Value}{Q E:Value->Shared->Prop}{s:Shared}
  (h:wpAny (model prog w) A.in1 (pyIter x) (λit t=>∃I fp wr n P St bt,it=.ref I/\Walks prog w A.in1 I fp wr n P St/\St 0 t.heap/\(∀b∈fp,b<t⁻¹)/\0<n/\zP prog w A.in1 s.heap P bt/\MJ s.heap t.heap/\(∀b o,s.heap.get? b=some o->b∉wr)/\
   ∀v h' tk,P (argBest bt (n - 1)) v->MJ s.heap h'->Q v { t with heap:=h',toks:=tk}) E s) :
  wpAny (model prog w) A (call (.builtin "min") [x]) Q E s:=by
 have nm:(toString "min" ++ toString ".loop":String) = "min.loop" :=by decide
 refine call_function_tree F.kind_min F.plain_min F.entry_min (F.args_min1 _) ?_;refine aS (wpAny_of_eq (show Builtin.Builtins.bindParams "min" ["key", "default"] 0 ⟨[],[]⟩=pure [none,none]from rfl) ?_)
 refine aS (d0 ?_);refine aS (i9 h (λit t z=>?_) λ_ _ e=>e)
 obtain⟨I,fp,wr,n,P,St,bt,rfl,W,st,hf,hn,hc,old,hw,fin⟩:=z;refine aS (l7 ?_);have hS:t⁻¹∉fp:=λz=>l9 _ (hf _ z)
 rw[nm];exact d0 ⟨plainId_quiet yA _,vX W hc hS (λb o e=>⟨hw b o e,hU (eM (old b o e))⟩) hn (W.frame _ _ _ st λb _ o e=>bP _ e) (λb o e=>bP _ (old b o e)) (eA _ rfl) fin⟩
end
section
variable{X:Cx}{z:Z}
theorem CK(hc:X.calm=true)(hu:X.A.units+1<cLine):dB X (.builtin "min") (λxs H Q=>∃(p:Addr) (ys:List V) (n:List Int) (l:List (List Int)),xs=[.ref p]/\(bN X.K H p ys\/fC X.K H p ys)/\jj X.K H ys (n::l)/\
  ∀i,i<ys.length->(n::l).getD i []=mX n l->Q (ys.getD i .non) H):=by
 intro ah s σ H xs us Q I r h;obtain⟨p,ys,n,l,rfl,hp,ht,q⟩:=h;obtain⟨u,rfl,rx⟩:=vals1 r;cases rx;have hh:X.A.in1.handled=none:=I.ok.hd hc;have cmp:∀its:List Value,Vals ys its->zP X.prog X.w X.A.in1 s.heap (λi v=>its.toArray[i]?=some v) (CJ (n::l)):=λits rv=>by
  intro i j u v s' Q E old hi hj hQ;have t:=ht.real I rv;have hi:its[i]?=some u:=by simpa using hi
  have hj:its[j]?=some v:=by simpa using hj
  have li:=(dC.mp hi).1;have lj:=(dC.mp hj).1;obtain⟨a,a2,ea,ta,ia⟩:=(t.at li).keep old;obtain⟨b,b2,eb,tb,ib⟩:=(t.at lj).keep old;rw[mE,hi]at ea;rw[mE,hj]at eb;obtain rfl:u=.ref a:=ea;obtain rfl:v=.ref b:=eb;exact HT.xK ta tb ia ib hu hQ
 have fin:∀(its:List Value) (v:Value) (h':Heap) (tk:Nat),Vals ys its->its.toArray[argBest (CJ (n::l)) (its.toArray.size - 1)]?=some v->MJ s.heap h'->EP X ah σ Q v { s with heap:=h',toks:=tk}:=λits v h' tk rv hv hk=>by
  have hl:its.length=l.length+1:=(ht.real I rv).length;obtain⟨b1,b2⟩:=rH n l l.length (eJ _);rw[List.take_length]at b2;rw[dE,hl,Nat.add_sub_cancel]at hv;have hv:its[argBest (CJ (n::l)) l.length]?=some v:=by simpa using hv
  have hy:argBest (CJ (n::l)) l.length<ys.length:=by rw[rv.length];lia
  have rel:=rA rv hy;rw[mE (l:=its),hv]at rel;exact⟨_,H,I.kept hk,rel,q _ hy b2⟩
 have pos:∀its:List Value,Vals ys its->0<its.toArray.size:=λits rv=>by rw[dE,(ht.real I rv).length];exact Nat.succ_pos _
 have ow:∀(b:Addr) (o:Obj),s.heap.get? b=some o->b∉[s⁻¹]:=λb o e hm=>by
  have:b=s⁻¹:=by simpa using hm
  exact absurd (eM e) (by rw[this];exact l9 _)
 have fpl:∀{hlt:p<s⁻¹}{o:Obj},∀b∈[s⁻¹,p],b<(s.heap.push o).objs.size:=λ{hlt o} b hb=>by
  rw[nE];simp only[d5,i7,t8]at hb;rcases hb with rfl |rfl
  . exact mM _
  . exact wS hlt
 rcases hp with hp |hp
 .
  obtain⟨its,rv,pl,hz⟩:=I.list hp;have hlt:p<s⁻¹:=by obtain⟨_,e,_⟩:=pl.isList;exact eM e
  refine pA (At pl.isList ?_);exact⟨s⁻¹,_,_,_,_,_,_,rfl,Walks.list (A:=X.A.in1) hh s⁻¹ p (hU hlt) its.toArray,⟨⟨_,eA _ rfl,rfl,rfl⟩,pl.isList.push _⟩,fpl (hlt:=hlt),pos its rv,cmp its rv,λb o e=>bP _ e,ow,λv h' tk hP hk=>fin its v h' tk rv hP hk⟩
 .
  obtain⟨its,rv,pl,hz⟩:=I.tuple hp;have hlt:p<s⁻¹:=by obtain⟨_,e,_⟩:=pl;exact eM e
  have PN:s.heap.IsTuple p its.toArray:=pl;refine pA (yY PN ?_);exact⟨s⁻¹,_,_,_,_,_,_,rfl,Walks.tuple (A:=X.A.in1) hh s⁻¹ p (hU hlt) its.toArray,⟨⟨_,eA _ rfl,rfl,rfl⟩,IsTup.keeps PN λb o e=>bP _ e⟩,fpl (hlt:=hlt),pos its rv,cmp its rv,λb o e=>bP _ e,ow,λv h' tk hP hk=>fin its v h' tk rv hP hk⟩
theorem MK{d:D}{l:List D}{n:List Int}{ns:List (List Int)}(hc:X.calm=true)(hu:X.A.units+1<cLine)(hK:z.K=X.K)(h:cG d=some l)(hi:gG l=some (n::ns)):CallD X z (.builtin "min") [d] (.dat (.tup ((mX n ns).map .int))):=by
 refine⟨_,CK hc hu,λg σ As M H vs Q s p k=>?_⟩
 obtain⟨v,rfl,pv⟩:=p.one;have main:∀(a:Addr) (xs:List V),aG z.K M H l xs->(bN X.K H a xs\/fC X.K H a xs)->∃(p:Addr) (ys:List V) (n:List Int) (l:List (List Int)),[V.ref a]=[.ref p]/\(bN X.K H p ys\/fC X.K H p ys)/\jj X.K H ys (n::l)/\∀i,i<ys.length->(n::l).getD i []=mX n l->Q (ys.getD i .non) H:=λa xs rr hq=>by
  obtain⟨t1,t2,t3⟩:=rC rr hi;refine⟨a,xs,n,ns,rfl,hq,hK▸t1,λi hl e=>?_⟩
  have hd:i<l.length:=by rw[rr.length];exact hl
  obtain⟨v,e1,e2⟩:=rr.get (i:=i) (d:=l[i]) (by simp[hd])
  have q1:l[i]=.tup ((mX n ns).map .int):=by
   have hn:i<(n::ns).length:=by rw[t3,d6]at hd;exact hd
   rw[<- e,mE,tJ hn];simp only[t3,List.getElem_map];rfl
  have q2:xs.getD i .non=v:=by rw[mE,e1];rfl
  rw[q2];exact k _ _ As M s (ao.refl _ _) (q1▸e2)
 cases d with
 |lst m=>cases h;obtain⟨a,xs,rfl,e1,e2⟩:=pv.list;exact main a xs e2 (.inl (bN.of e1))
 |tup m=>cases h;obtain⟨a,xs,rfl,e1,e2⟩:=pv.tup;exact main a xs e2 (.inr (hK▸e1.sq))
 |fix m=>cases h;obtain⟨a,xs,rfl,e1,e2⟩:=pv.fix;exact main a xs e2 (.inl (hK▸e1.sq))
 |_=>cases h
end
inductive Bl where
 |len |list |tuple |max |min |str |all |sorted |sum |any
 deriving DecidableEq
set_option genInjectivity false in
inductive Ex where
 |val (d:D) |slot (i:Nat)
 |bin (op:Operator) (a b:Ex) |cmp (op:CmpOp) (a b:Ex) |chain (a:Ex) (ops:List CmpOp) (l:List Ex)
 |neg (a:Ex) |not (a:Ex) |and (l:List Ex) |or (l:List Ex) |ite (c a b:Ex)
 |tup (l:List Ex) |lst (l:List Ex)
 |ix (a b:Ex) |slice (a:Ex) (lo hi:Option Ex)
 |call (f:Nat) (l:List Ex) |blt (b:Bl) (l:List Ex) |kL (a:Ex) (n:String) |pB (a:Ex) (ns:List String)
 |comp (n k:Nat) (T:Tg) (it:Ex) (c:Option Ex) (e:Ex)
 |iA (n k:Nat) (T:Tg) (it:Ex) (ks:List Ex) (v:Ex)
 |cT (n k:Nat) (T1:Tg) (qB:Ex) (c1:Option Ex) (T:Tg) (it:Ex) (c:Option Ex) (e:Ex)
 |dP (a:Ex) |fG (a b:Ex) |iB (a b:Ex)
 |zip (a b:Ex) |jl (a:Ex)
 |kr (l:List (Bool×Ex))
 |rev (a:Ex) |emp |stk |peek (e:Ex)
 |lI (f ir:Nat) (ca:List Addr) (e:Ex) |rJ (a:Ex) (l:List (Addr×Bool)) |refs (f ir:Nat) (ca:List Addr) (es:List Ex)
 |append (i:Nat) (e:Ex) |extend (i:Nat) (e:Ex)
set_option genInjectivity false in
inductive Sm where
 |ret (e:Ex) |expr (e:Ex) |set (i:Nat) (e:Ex) |setC (i:Nat) (e:Ex) |item (i:Nat) (j e:Ex) |aug (i:Nat) (op:Operator) (e:Ex)
 |ite (c:Ex) (a b:List Sm) |loop (T:Tg) (it:Ex) (b:List Sm) |while (c:Ex) (b:List Sm) |raise (ci:Nat) (e:Ex) |calls (ic:Nat) (x:Ex) (op:CmpOp) (rhs:Ex) (ret:Bool) (b:List Sm) |stuck
structure Fx where
 np:Nat
 n:Nat
 body:List Sm
def Tg.iZ:Tg->Bool
 |.tp _=>true
 |.nm _=>false
noncomputable def CN(i j:Int):Bool:=(decide (-(2 ^ 64)<i)&&decide (i<2 ^ 64))||(decide (-(2 ^ 64)<j)&&decide (j<2 ^ 64))
def lim:Nat:=16777216
noncomputable def ku{α:Type}(f:Int->Int->Option α)(a b:D):Option α:=match a with
 |.int i=>(match b with |.int j=>f i j |_=>none)
 |_=>none
noncomputable def Ue(a b:D):Option R:=match a with
 |.int i=>(match b with |.int j=>some (.dat (.int (i+j))) |_=>none)
 |.lst l=>(match b with |.lst m=>if l.length+m.length<=lim then some (.new (l++m))else none |_=>none)
 |.tup l=>(match b with |.tup m=>if l.length+m.length<=lim then some (.dat (.tup (l++m)))else none |_=>none)
 |_=>none
def MN(a:D)(k:Int):Option R:=match a with
 |.int i=>if CN i k=true then some (.dat (.int (i * k)))else none
 |.lst l=>if -(2 ^ 63)<=k/\k<2 ^ 63/\l.length * k.toNat<=lim then some (.new (List.replicate k.toNat l).flatten)else none
 |_=>none
def mY(op:Operator)(a b:D):Option R:=match op with
 |.Add=>Ue a b
 |.Sub=>ku (λi j=>some (.dat (.int (i - j)))) a b
 |.Mult=>(match b with |.int k=>MN a k |_=>none)
 |.FloorDiv=>ku (λi j=>if 0<j/\j<1073741824 then some (.dat (.int (i / j)))else none) a b
 |.Mod=>ku (λi j=>if 0<j then some (.dat (.int (i % j)))else none) a b
 |.Pow=>ku (λi j=>if 0<=j/\j<=1000/\i.natAbs<2 ^ 64 then some (.dat (.int (i ^ j.toNat)))else none) a b
 |.LShift=>ku (λi j=>if 0<=j/\j<=1000/\i.natAbs<2 ^ 64 then some (.dat (.int (i * 2 ^ j.toNat)))else none) a b
 |_=>none
def Ug:Operator->D->D->Option D
 |.Add,.int i,.int j=>some (.int (i+j))
 |.Sub,.int i,.int j=>some (.int (i - j))
 |.Mult,.int i,.int j=>if CN i j=true then some (.int (i * j))else none
 |_,_,_=>none
def jB(d1 d2:D):Bool:=jh d1&&jh d2&&decide (dep d1<=190)
def MP(d1:D)(l:List D):Bool:=jh d1&&iU l&&decide (deps l<=190)
noncomputable def ltF(a b:D):Option Bool:=match a with
 |.int i=>(match b with |.int j=>some (decide (i<j)) |_=>none)
 |_=>none
def iM(op:CmpOp)(d1 d2:D):Option Bool:=match op with
 |.Eq=>if jB d1 d2=true then some (cM d1 d2)else none
 |.NotEq=>if jB d1 d2=true then some (!cM d1 d2)else none
 |.Lt=>ltF d1 d2
 |.LtE=>ku (λi j=>some (decide (i<=j))) d1 d2
 |.Gt=>ku (λi j=>some (decide (i > j))) d1 d2
 |.GtE=>ku (λi j=>some (decide (i ≥ j))) d1 d2
 |.NotIn=>(match cG d2 with |some l=>if MP d1 l=true then some (!l.any λd=>cM d d1)else none |none=>none)
 |_=>none
def MT:D->D->Option D
 |.lst l,.int i=>iK l i
 |.fix l,.int i=>iK l i
 |.tup l,.int i=>iK l i
 |.sV ks ds,.tup l=>(match aW l with |some n=>P6 ks ds n |none=>none)
 |_,_=>none
def P7(b:Bl)(d:D):Option R:=match b with
 |.len=>(match Yj d with |some n=>some (.dat (.int n)) |none=>none)
 |.list=>(match cG d with |some l=>some (.new l) |none=>none)
 |.tuple=>(match cG d with |some l=>some (.dat (.tup l)) |none=>none)
 |.min=>(match cG d with |some l=>(match aW l with |some (n::ns)=>some (.dat (.int (jz n ns))) |_=>(match gG l with |some (n::ns)=>some (.dat (.tup ((mX n ns).map .int))) |_=>none)) |none=>none)
 |.all=>(match d with |.lst l=>(match vf l with |some bs=>some (.dat (.bl (bs.all id))) |none=>none) |_=>none)
 |.sorted=>(match cG d with |some l=>(match aW l with |some ns=>if ns.length<64 then some (.new ((bY ns).map .int))else none |none=>match gG l with |some dw=>if dw.length<64 then some (.new ((iu yc dw).map λns=>.tup (ns.map .int)))else none |none=>none) |none=>none)
 |.sum=>(match cG d with |some l=>(match aW l with |some ns=>some (.dat (.int ns.sum)) |none=>none) |none=>none)
 |_=>none
def bl2(b:Bl)(d e:D):Option R:=match b with
 |.max=>ku (λi j=>some (.dat (.int (if j > i then j else i)))) d e
 |.min=>ku (λi j=>some (.dat (.int (if j<i then j else i)))) d e
 |_=>none
def pC(b:Bl)(ds:List D):Option R:=match ds with
 | [d]=>P7 b d
 | [d,e]=>bl2 b d e
 |_=>none
noncomputable def jc(t n:String):Bool:=t==n||(t == "bool" && n == "int")
structure Rn where
 e:List Nat->Nat->Ex->G->Option (R×G)
 t:List Nat->Nat->Ex->G->Option (Bool×G)
 b:List Nat->Nat->List Sm->G->Option (Fl×G)
 x:List Nat->Nat->Ex->G->Option (Nat×G)
 xt:List Nat->Nat->Ex->G->Option (Nat×G)
 xb:List Nat->Nat->List Sm->G->Option (Nat×G)
noncomputable def toD(bor:List Nat):R->G->Option (D×G)
 |.dat d,g=>some (d,g)
 |.new l,g=>some (.lst l,g)
 |.var i,g=>if i∈bor then none else match g[i]? with |some (.own l)=>some (.lst l,g.set i (.dat (.lst l))) |_=>none
noncomputable def norm:R->R
 |.new l=>.dat (.lst l)
 |.dat d=>.dat d
 |.var i=>.var i
section
variable(rn:Rn)(bor:List Nat)(k:Nat)
noncomputable def eH(e:Ex)(g:G):Option (D×G):=match rn.e bor k e g with
 |some (r,g1)=>toD bor r g1
 |none=>none
noncomputable def kB:List Ex->G->Option (List D×G)
 | [],g=>some ([],g)
 |e::es,g=>match eH rn bor k e g with
  |some (d,g1)=>match kB es g1 with
   |some (ds,g2)=>some (d::ds,g2)
   |none=>none
  |none=>none
def argsR:List Ex->G->Option (List R×G)
 | [],g=>some ([],g)
 |e::es,g=>match rn.e bor k e g with
  |some (r,g1)=>match argsR es g1 with
   |some (rs,g2)=>some (norm r::rs,g2)
   |none=>none
  |none=>none
def DW:D->List CmpOp->List Ex->G->Option (Bool×G)
 |d1,[op],[b],g=>match eH rn bor k b g with
  |some (d2,g1)=>match iM op d1 d2 with |some c=>some (c,g1) |none=>none
  |none=>none
 |d1,op::op'::ops,b::b'::bs,g=>match eH rn bor k b g with
  |some (d2,g1)=>match iM op d1 d2 with
   |some true=>DW d2 (op'::ops) (b'::bs) g1
   |some false=>some (false,g1)
   |none=>none
  |none=>none
 |_,_,_,_=>none
noncomputable def Hu:List Ex->G->Option (R×G)
 | [],_=>none
 | [a],g=>rn.e bor k a g
 |a::b::l,g=>match rn.e bor k a g with
  |some (.dat (.bl true),g1)=>Hu (b::l) g1
  |some (.dat (.bl false),g1)=>some (.dat (.bl false),g1)
  |_=>none
noncomputable def YX:List Ex->G->Option (R×G)
 | [],_=>none
 | [a],g=>rn.e bor k a g
 |a::b::l,g=>match rn.e bor k a g with
  |some (.dat (.bl false),g1)=>YX (b::l) g1
  |some (.dat (.bl true),g1)=>some (.dat (.bl true),g1)
  |_=>none
noncomputable def vY:List Ex->G->Option (Bool×G)
 | [],_=>none
 | [a],g=>rn.t bor k a g
 |a::b::l,g=>match rn.t bor k a g with
  |some (true,g1)=>vY (b::l) g1
  |some (false,g1)=>some (false,g1)
  |none=>none
noncomputable def Hv:List Ex->G->Option (Bool×G)
 | [],_=>none
 | [a],g=>rn.t bor k a g
 |a::b::l,g=>match rn.t bor k a g with
  |some (false,g1)=>Hv (b::l) g1
  |some (true,g1)=>some (true,g1)
  |none=>none
noncomputable def vZ:Option Ex->G->Option (Option Int×G)
 |none,g=>some (none,g)
 |some e,g=>match eH rn bor k e g with
  |some (.int i,g1)=>some (some i,g1)
  |_=>none
noncomputable def JV(j:Int):Bool:=decide (-(2 ^ 62)<=j)&&decide (j<2 ^ 62)
def fV(tp:Bool)(it:Ex)(g:G):Option (List D×G):=match it with
 |.dP a=>match eH rn bor k a g with
  |some (.int j,g1)=>if JV j=true then some (gK 0 j.toNat,g1)else none
  |_=>none
 |.fG a b=>match eH rn bor k a g with
  |some (.int c,g1)=>match eH rn bor k b g1 with
   |some (.int j,g2)=>if JV c=true/\JV j=true then some (gK c (j - c).toNat,g2)else none
   |_=>none
  |_=>none
 |.zip a b=>if tp=true then match kB rn bor k [a,b] g with
  |some ([d1,d2],g1)=>match cG d1,cG d2 with |some l,some m=>if isTup d1=isTup d2 then some (o8 l m,g1)else none |_,_=>none
  |_=>none
  else none
 |e=>match eH rn bor k e g with
  |some (.tup l,g1)=>some (l,g1)
  |some (.lst l,g1)=>some (l,g1)
  |some (.fix l,g1)=>some (l,g1)
  |_=>none
noncomputable def P8:Option Ex->G->Option (Bool×G)
 |none,g=>some (true,g)
 |some c,g=>rn.t bor k c g
def M7(T:Tg)(last:Nat)(c:Option Ex)(e:Ex):List D->G->Option G
 | [],g=>some g
 |d::l,g=>match T.set d g with
  |none=>none
  |some g1=>match P8 rn bor k c g1 with
   |none=>none
   |some (false,g2)=>M7 T last c e l g2
   |some (true,g2)=>match eH rn bor k e g2 with
    |none=>none
    |some (x,g3)=>match g3[last]? with
     |some (.own acc)=>if acc.length<lim then M7 T last c e l (g3.set last (.own (acc++[x])))else none
     |_=>none
def fH(n kk:Nat)(T:Tg)(it:Ex)(c:Option Ex)(e:Ex)(g:G):Option (List D×G):=match fV rn bor k T.iZ it g with
 |none=>none
 |some (aj,g1)=>if g1.length=n/\(T.ix.any λi=>decide (i∈bor))=false then match M7 rn bor k T (n+kk) c e aj (gC kk g1)with
   |none=>none
   |some gE=>match gE[n+kk]? with
    |some (.own acc)=>some (acc,gE.take n)
    |_=>none
  else none
def Uh(T:Tg)(ks:List Ex)(v:Ex):List D->List (List Int)->List D->G->Option ((List (List Int)×List D)×G)
 | [],ka,da,g=>some ((ka,da),g)
 |d::l,ka,da,g=>match T.set d g with
  |none=>none
  |some g1=>match kB rn bor k ks g1 with
   |none=>none
   |some (m,g2)=>match aW m with
    |none=>none
    |some ns=>match eH rn bor k v g2 with
     |none=>none
     |some (x,g3)=>if ((ka.all λk=>!decide (k=ns))&&(jA g3&&iz x))=true/\ka.length<lim/\m.length<=lim then Uh T ks v l (ka++[ns]) (da++[x]) g3 else none
def pD(n kk:Nat)(T:Tg)(it:Ex)(ks:List Ex)(v:Ex)(g:G):Option ((List (List Int)×List D)×G):=match fV rn bor k T.iZ it g with
 |none=>none
 |some (aj,g1)=>if g1.length=n/\(T.ix.any λi=>decide (i∈bor))=false then match Uh rn bor k T ks v aj [] [] (gD kk g1)with
   |none=>none
   |some (p,gE)=>some (p,gE.take n)
  else none
def Hw(T1:Tg)(c1:Option Ex)(T:Tg)(it:Ex)(c:Option Ex)(e:Ex)(last:Nat):List D->G->Option G
 | [],g=>some g
 |d::l,g=>match T1.set d g with
  |none=>none
  |some g1=>match P8 rn bor k c1 g1 with
   |none=>none
   |some (false,g2)=>Hw T1 c1 T it c e last l g2
   |some (true,g2)=>match fV rn bor k T.iZ it g2 with
    |none=>none
    |some (aj,g3)=>match M7 rn bor k T last c e aj g3 with
     |none=>none
     |some g4=>Hw T1 c1 T it c e last l g4
def tT(n kk:Nat)(T1:Tg)(qB:Ex)(c1:Option Ex)(T:Tg)(it:Ex)(c:Option Ex)(e:Ex)(g:G):Option (List D×G):=match fV rn bor k T1.iZ qB g with
 |none=>none
 |some (aj,g1)=>if g1.length=n/\((T1.ix++T.ix).any λi=>decide (i∈bor))=false then match Hw rn bor k T1 c1 T it c e (n+kk) aj (gC kk g1)with
   |none=>none
   |some gE=>match gE[n+kk]? with
    |some (.own acc)=>some (acc,gE.take n)
    |_=>none
  else none
def dH(fx:Fx)(k':Nat)(rs:List R)(g1:G):Option (R×G):=
 if rs.length=fx.np/\((vars 0 rs).map (·.2)).Nodup then match dF rs g1 with
  |none=>none
  |some gs=>match rn.b ((vars 0 rs).map (·.1)) k' fx.body (dG fx.n gs)with
   |some (.rt r,gc)=>match back (vars 0 rs) gc g1 with
    |some gO=>match cW ((vars 0 rs).map (·.1)) gc r with |some r'=>some (r',gO) |none=>none
    |none=>none
   |some (.nx,gc)=>match back (vars 0 rs) gc g1 with
    |some gO=>some (.dat .non,gO)
    |none=>none
   |_=>none
 else none
def uM:Str->List (Bool×Ex)->G->Option (Str×G)
 |out,[],g=>some (out,g)
 |out,(false,.val (.str y))::es,g=>if (out++y).length<=lim then uM (out++y) es g else none
 |out,(true,e)::es,g=>match eH rn bor k e g with
  |some (.int i,g1)=>if i.natAbs.log2<1920/\(out++(toString i:Str)).length<=lim then uM (out++(toString i:Str)) es g1 else none
  |_=>none
 |_,_,_=>none
def Hx(fns:List Fx)(f ir:Nat)(ca:List Addr)(e:Ex)(g:G):Option D:=match fns[f]?,k with
 |some fx,k'+2=>match rn.x [] k' e (g.map noOwn)with
  |some (ci,_)=>match ca[ci]? with
   |some C=>match rn.b [] k' (fx.body.drop 2) ((List.replicate fx.n .no).set ir (.dat (.lg C)))with
    |some (.rt r,g3)=>match cW [] g3 r with |some r'=>asD r' |none=>none
    |_=>none
   |none=>none
  |none=>none
 |_,_=>none
def v5(fns:List Fx)(f ir:Nat)(ca:List Addr):List Ex->G->Option (List D)
 | [],_=>some []
 |e::es,g=>match Hx rn k fns f ir ca e g with
  |some d=>match v5 fns f ir ca es g with |some ds=>some (d::ds) |none=>none
  |none=>none
def aO(fns:List Fx)(e:Ex)(g:G):Option (R×G):=match e with
 |.val d=>some (.dat d,g)
 |.slot i=>match g[i]? with |some (.dat d)=>some (.dat d,g) |some (.own _)=>some (.var i,g) |_=>none
 |.bin op a b=>match argsR rn bor k [a,b] g with
  |some ([r1,r2],g2)=>match pk r1 g2,pk r2 g2 with
   |some d1,some d2=>match mY op d1 d2 with |some r=>some (r,g2) |none=>none
   |_,_=>none
  |_=>none
 |.cmp op a b=>match argsR rn bor k [a,b] g with
  |some ([r1,r2],g2)=>match pk r1 g2,pk r2 g2 with
   |some d1,some d2=>match iM op d1 d2 with |some c=>some (.dat (.bl c),g2) |none=>none
   |_,_=>none
  |_=>none
 |.chain a ops l=>match eH rn bor k a g with
  |some (d1,g1)=>match DW rn bor k d1 ops l g1 with |some (c,g2)=>some (.dat (.bl c),g2) |none=>none
  |none=>none
 |.neg a=>match eH rn bor k a g with |some (.int i,g1)=>some (.dat (.int (-i)),g1) |_=>none
 |.not a=>match rn.e bor k a g with |some (.dat (.bl c),g1)=>some (.dat (.bl (!c)),g1) |_=>none
 |.and l=>Hu rn bor k l g
 |.or l=>YX rn bor k l g
 |.ite c a b=>match rn.t bor k c g with
  |some (true,g1)=>rn.e bor k a g1
  |some (false,g1)=>rn.e bor k b g1
  |none=>none
 |.tup l=>match kB rn bor k l g with |some (ds,g1)=>if ds.length<=lim then some (.dat (.tup ds),g1)else none |none=>none
 |.lst l=>match kB rn bor k l g with |some (ds,g1)=>if ds.length<=lim then some (.new ds,g1)else none |none=>none
 |.ix a b=>match argsR rn bor k [a,b] g with
  |some ([r1,r2],g2)=>match pk r1 g2,pk r2 g2 with
   |some d1,some d2=>match MT d1 d2 with |some d=>some (.dat d,g2) |none=>none
   |_,_=>none
  |_=>none
 |.slice a lo hi=>match rn.e bor k a g with
  |some (r,g1)=>match vZ rn bor k lo g1 with
   |some (i,g2)=>match vZ rn bor k hi g2 with
    |some (j,g3)=>match norm r with
     |.dat (.tup l)=>some (.dat (.tup (eL l i j)),g3)
     |.dat (.fix l)=>some (.new (eL l i j),g3)
     |r'=>match pk r' g3 with |some (.lst l)=>some (.new (eL l i j),g3) |_=>none
    |none=>none
   |none=>none
  |none=>none
 |.call f l=>match fns[f]?,k with
  |some fx,k'+1=>match argsR rn bor k l g with
   |some (rs,g1)=>dH rn fx k' rs g1
   |none=>none
  |_,_=>none
 |.blt b l=>match argsR rn bor k l g with
  |some (rs,g1)=>match vd rs g1 with
   |some ds=>match pC b ds with |some r=>some (r,g1) |none=>none
   |none=>none
  |none=>none
 |.kL a n=>match rn.e bor k a g with
  |some (r,g1)=>match pk (norm r) g1 with |some d=>some (.dat (.bl (jc (uJ d) n)),g1) |none=>none
  |none=>none
 |.pB a ns=>match rn.e bor k a g with
  |some (r,g1)=>match pk (norm r) g1 with |some d=>some (.dat (.bl (ns.any (jc (uJ d)))),g1) |none=>none
  |none=>none
 |.comp n kk T it c e=>match fH rn bor k n kk T it c e g with |some (acc,g1)=>some (.new acc,g1) |none=>none
 |.iA n kk T it ks v=>match pD rn bor k n kk T it ks v g with |some (p,g1)=>some (.dat (.sV p.1 p.2),g1) |none=>none
 |.cT n kk T1 qB c1 T it c e=>match tT rn bor k n kk T1 qB c1 T it c e g with |some (acc,g1)=>some (.new acc,g1) |none=>none
 |.rev a=>match rn.e bor k a g with
  |some (r,g1)=>match norm r with
   |.dat (.tup l)=>some (.dat (.tup l.reverse),g1)
   |r'=>match pk r' g1 with |some (.lst l)=>some (.new l.reverse,g1) |_=>none
  |none=>none
 |.emp=>some (.dat .emp,g)
 |.stk=>none
 |.peek e=>if bor.isEmpty=true then match rn.e [] k e (g.map cB)with |some (.dat d,_)=>if flat d=true then some (.dat d,g)else none |_=>none else none
 |.refs f ir ca es=>match v5 rn k fns f ir ca es g with |some ds=>some (.new ds,g) |none=>none
 |.lI f ir ca e=>match fns[f]?,k with
  |some fx,k'+2=>match rn.x [] k' e (g.map noOwn)with
   |some (ci,_)=>match ca[ci]? with
    |some C=>match rn.b [] k' (fx.body.drop 2) ((List.replicate fx.n .no).set ir (.dat (.lg C)))with
     |some (.rt r,g3)=>match cW [] g3 r with |some r'=>some (r',g) |none=>none
     |_=>none
    |none=>none
   |none=>none
  |_,_=>none
 |.rJ a l=>match rn.e bor k a g with
  |some (r,g1)=>match pk (norm r) g1 with
   |some (.lg C)=>match l.lookup C with |some b=>some (.dat (.bl b),g1) |none=>none
   |some .non=>some (.dat (.bl false),g1)
   |_=>none
  |none=>none
 |.append i e=>match g[i]? with
  |some (.own _)=>match eH rn bor k e g with
   |some (d,g1)=>match g1[i]? with |some (.own l)=>if l.length<lim then some (.dat .non,g1.set i (.own (l++[d])))else none |_=>none
   |none=>none
  |_=>none
 |.extend i e=>match g[i]? with
  |some (.own _)=>match eH rn bor k e g with
   |some (.lst m,g1)=>match g1[i]? with |some (.own l)=>if l.length+m.length<=lim then some (.dat .non,g1.set i (.own (l++m)))else none |_=>none
   |_=>none
  |_=>none
 |.kr l=>match l with
  |_::_::_=>match uM rn bor k Str.empty l g with |some (r,g1)=>some (.dat (.str r),g1) |none=>none
  |_=>none
 |.dP _=>none
 |.fG _ _=>none
 |.zip _ _=>none
 |.jl a=>match rn.e bor k a g with
  |some (r,g1)=>match pk (norm r) g1 with
   |some d=>match cG d with
    |some l=>match aW l with
     |some ns=>if ns.length<64 then some (.new ((bY ns).reverse.map .int),g1)else none
     |none=>none
    |none=>none
   |none=>none
  |none=>none
 |.iB a b=>match eH rn bor k a g with
  |some (.int c,g1)=>match eH rn bor k b g1 with
   |some (.int j,g2)=>if JV c=true/\JV j=true/\(j - c).toNat<=lim then some (.new (gK c (j - c).toNat),g2)else none
   |_=>none
  |_=>none
def stepT(e:Ex)(g:G):Option (Bool×G):=match e with
 |.cmp op a b=>match argsR rn bor k [a,b] g with
  |some ([r1,r2],g2)=>match pk r1 g2,pk r2 g2 with
   |some d1,some d2=>match iM op d1 d2 with |some c=>some (c,g2) |none=>none
   |_,_=>none
  |_=>none
 |.chain a ops l=>match eH rn bor k a g with
  |some (d1,g1)=>DW rn bor k d1 ops l g1
  |none=>none
 |.not a=>match rn.t bor k a g with |some (c,g1)=>some (!c,g1) |none=>none
 |.and l=>vY rn bor k l g
 |.or l=>Hv rn bor k l g
 |.ite _ _ _=>none
 |e=>match rn.e bor k e g with
  |some (r,g1)=>match pk (norm r) g1 with
   |some d=>match Lw d with |some c=>some (c,g1) |none=>none
   |none=>none
  |none=>none
def bZ(T:Tg)(b:G->Option (Fl×G)):List D->G->Option (Fl×G)
 | [],g=>some (.nx,g)
 |d::l,g=>match T.set d g with
  |none=>none
  |some g0=>match b g0 with
   |none=>none
   |some (.nx,g1)=>bZ T b l g1
   |some (.ct,g1)=>bZ T b l g1
   |some (.bk,g1)=>some (.nx,g1)
   |some (.rt r,g1)=>some (.rt r,g1)
noncomputable def CP(c:G->Option (Bool×G))(b:G->Option (Fl×G)):Nat->G->Option (Fl×G)
 | 0,_=>none
 |n+1,g=>match c g with
  |none=>none
  |some (false,g1)=>some (.nx,g1)
  |some (true,g1)=>match b g1 with
   |none=>none
   |some (.nx,g2)=>CP c b n g2
   |some (.ct,g2)=>CP c b n g2
   |some (.bk,g2)=>some (.nx,g2)
   |some (.rt r,g2)=>some (.rt r,g2)
def aM(st:Sm)(g:G):Option (Fl×G):=match st with
 |.ret e=>match rn.e bor k e g with |some (r,g1)=>some (.rt r,g1) |none=>none
 |.expr e=>match rn.e bor k e g with |some (_,g1)=>some (.nx,g1) |none=>none
 |.set i e=>if i∈bor then none else match rn.e bor k e g with
  |some (.new l,g1)=>if i<g1.length then some (.nx,g1.set i (.own l))else none
  |some (r,g1)=>match toD bor r g1 with |some (d,g2)=>some (.nx,g2.set i (.dat d)) |none=>none
  |none=>none
 |.setC i e=>if i∈bor then none else match e with
  |.comp n kk T it c e=>match fH rn bor k n kk T it c e g with
   |some (acc,g1)=>if i<g1.length then some (.nx,g1.set i (.own acc))else none
   |none=>none
  |.cT n kk T1 qB c1 T it c e=>match tT rn bor k n kk T1 qB c1 T it c e g with
   |some (acc,g1)=>if i<g1.length then some (.nx,g1.set i (.own acc))else none
   |none=>none
  |_=>none
 |.item i j e=>match eH rn bor k e g with
  |some (d,g1)=>match g1[i]? with
   |some (.own _)=>match eH rn bor k j g1 with
    |some (.int n,g2)=>match g2[i]? with
     |some (.own l)=>match xO l.length n with |some m=>some (.nx,g2.set i (.own (l.set m d))) |none=>none
     |_=>none
    |_=>none
   |_=>none
  |none=>none
 |.aug i op e=>if i∈bor then none else match g[i]? with
  |some (.dat d1)=>match eH rn bor k e g with
   |some (d2,g1)=>match Ug op d1 d2 with |some d=>some (.nx,g1.set i (.dat d)) |none=>none
   |none=>none
  |some (.own _)=>if op=.Add then match eH rn bor k e g with
    |some (.lst m,g1)=>match g1[i]? with |some (.own l)=>if l.length+m.length<=lim then some (.nx,g1.set i (.own (l++m)))else none |_=>none
    |_=>none
   else none
  |_=>none
 |.ite c a b=>match rn.t bor k c g with
  |some (true,g1)=>rn.b bor k a g1
  |some (false,g1)=>rn.b bor k b g1
  |none=>none
 |.loop T it b=>if T.ix.any (λi=>decide (i∈bor))=true then none else match fV rn bor k T.iZ it g with
  |some (aj,g1)=>bZ T (rn.b bor k b) aj g1
  |none=>none
 |.while c b=>CP (rn.t bor k c) (rn.b bor k b) 100000 g
 |.raise _ _=>none
 |.calls ic x op rhs ret b=>match g[ic]? with
  |some .no=>match rn.e bor k x g with
   |some (.new ds,_)=>match rn.e bor k rhs g with
    |some (r2,g2)=>match pk (norm r2) g2 with
     |some d2=>match iM op (.lst ds) d2 with
      |some c=>if ret=true then some (.rt (.dat (.bl c)),g2)else if c=true then rn.b bor k b g2 else some (.nx,g2)
      |none=>none
     |none=>none
    |none=>none
   |_=>none
  |_=>none
 |.stuck=>none
def jm:List Sm->G->Option (Fl×G)
 | [],g=>some (.nx,g)
 |st::rest,g=>match aM rn bor k st g with
  |some (.nx,g1)=>jm rest g1
  |some (f,g1)=>some (f,g1)
  |none=>none
noncomputable def xArgs:List Ex->G->Option (Nat×G)
 | [],_=>none
 |e::es,g=>match rn.x bor k e g with
  |some r=>some r
  |none=>match rn.e bor k e g with
   |some (_,g1)=>xArgs es g1
   |none=>none
def rK(fx:Fx)(k':Nat)(rs:List R)(g1:G):Option (Nat×G):=
 if rs.length=fx.np/\((vars 0 rs).map (·.2)).Nodup then match dF rs g1 with
  |none=>none
  |some gs=>match rn.xb ((vars 0 rs).map (·.1)) k' fx.body (dG fx.n gs)with
   |some (ci,gc)=>match back (vars 0 rs) gc g1 with |some gO=>some (ci,gO) |none=>none
   |none=>none
 else none
def v7(fns:List Fx)(e:Ex)(g:G):Option (Nat×G):=match e with
 |.blt _ l=>xArgs rn bor k l g
 |.call f l=>match xArgs rn bor k l g with
  |some r=>some r
  |none=>match fns[f]?,k with
   |some fx,k'+1=>match argsR rn bor k l g with
    |some (rs,g1)=>rK rn fx k' rs g1
    |none=>none
   |_,_=>none
 |_=>none
noncomputable def tU(e:Ex)(g:G):Option (Nat×G):=match e with
 |.not a=>rn.xt bor k a g
 |.call f l=>rn.x bor k (.call f l) g
 |.blt b l=>rn.x bor k (.blt b l) g
 |_=>none
def v8(T:Tg)(b:G->Option (Fl×G))(x:G->Option (Nat×G)):List D->G->Option (Nat×G)
 | [],_=>none
 |d::l,g=>match T.set d g with
  |none=>none
  |some g0=>match x g0 with
   |some r=>some r
   |none=>match b g0 with
    |some (.nx,g1)=>v8 T b x l g1
    |some (.ct,g1)=>v8 T b x l g1
    |_=>none
noncomputable def jC(st:Sm)(g:G):Option (Nat×G):=match st with
 |.ret e=>rn.x bor k e g
 |.expr e=>rn.x bor k e g
 |.ite c a b=>match rn.xt bor k c g with
  |some r=>some r
  |none=>match rn.t bor k c g with
   |some (true,g1)=>rn.xb bor k a g1
   |some (false,g1)=>rn.xb bor k b g1
   |none=>none
 |.raise ci e=>match eH rn bor k e g with |some (_,g1)=>some (ci,g1) |none=>none
 |.loop T it b=>if T.ix.any (λi=>decide (i∈bor))=true then none else match fV rn bor k T.iZ it g with
  |some (aj,g1)=>v8 T (rn.b bor k b) (rn.xb bor k b) aj g1
  |none=>match it with
   |.dP _=>none
   |.fG _ _=>none
   |.zip _ _=>none
   |it=>rn.x bor k it g
 |_=>none
def gw:List Sm->G->Option (Nat×G)
 | [],_=>none
 |st::rest,g=>match jC rn bor k st g with
  |some r=>some r
  |none=>match aM rn bor k st g with
   |some (.nx,g1)=>gw rest g1
   |_=>none
end
def step(fns:List Fx)(rn:Rn):Rn:=⟨λbor k e g=>aO rn bor k fns e g,λbor k e g=>stepT rn bor k e g,λbor k l g=>jm rn bor k l g,λbor k e g=>v7 rn bor k fns e g,λbor k e g=>tU rn bor k e g,λbor k l g=>gw rn bor k l g⟩
noncomputable def rn0:Rn:=⟨λ_ _ _ _=>none,λ_ _ _ _=>none,λ_ _ _ _=>none,λ_ _ _ _=>none,λ_ _ _ _=>none,λ_ _ _ _=>none⟩
def run(fns:List Fx):Nat->Rn
 | 0=>rn0
 |n+1=>step fns (run fns n)
structure Ct where
 N:List Str
 sc:Scope
 df:Bool
 q:Str
structure Fi where
 name:Str
 qual:Str
 st:Stmt
 N:List Str
 ps:List Str
structure Pg where
 fn:List Fi
 ct:List (Str×D)
 bn:List Str
 cls:List Str:=[]
 lam:Bool:=false
 gU:List Addr:=[]
 kt:Str:=Str.empty
 ups:List (Str×List (Addr×Bool)):=[]
def jd:Str:= "law.<locals>.<lambda>"
def Hy(K:Frag)(mg:Str->Option Value)(bE:Value):Prop:=
 ∃c q,bE=.ref c/\(∀b:Heap,K.In b->PySem.W.CodeHd b c q)/\(q,jd)∈cF K/\(∀b:Heap,K.In b->b.BuiltinsAt mg q)/\mainGlobals≠q
structure tV(P:Pg)(K:Frag)(mg:Str->Option Value):Prop where
 fn:∀(i:Nat) (fi:Fi),P.fn[i]?=some fi->∃f fd,mg fi.name=some (.ref f)/\JF K fi.name fi.qual fi.st f fd/\bU fi.N fi.ps (aC fi.st)/\L2.Binds K fd fi.ps []/\(fi.name==("__debug__":Str))=false
 ct:∀(x:Str) (d:D),(x,d)∈P.ct->(x==("__debug__":Str))=false/\∃v u,mg x=some u/\RelV v u/\∀M H,Rep K M H d v
 bn:∀x∈P.bn,mg x=none
 cls:∀x∈P.cls,(x==("__debug__":Str))=false/\∃C,mg x=some (.ref C)/\eS K C
 lam:P.lam=true->∀bE,PySem.W.codeIn K bE "law"=true->Hy K mg bE
 gU:∀(i:Nat) (C:Addr),P.gU[i]?=some C->∃x,P.cls[i]?=some x/\mg x=some (.ref C)/\eS K C/\Fp K C
 kt:P.lam=true->(P.kt==("__debug__":Str))=false/\∃D,mg P.kt=some (.ref D)/\eS K D/\∀C∈P.gU,tQ K C D=true
 ups:∀(x:Str) (l:List (Addr×Bool)),(x,l)∈P.ups->(x==("__debug__":Str))=false/\∃cv,((mg x=some cv/\∃D,cv=.ref D)\/(x∈P.bn/\x≠ "__name__" /\bootBuiltins x=some cv/\∃n,cv=.type n))/\PySem.W.kitOne K (.type "NoneType") cv=some false/\∀C b,l.lookup C=some b->PySem.W.kitOne K (.ref C) cv=some b
structure aZ(P:Pg)(k:Nat)(X:Cx)(c:Ct):Prop where
 N:X.N=c.N
 nd:c.N.Nodup
 YZ:∀x,c.sc.names.lookup x=some .local->X.env.scope.names.lookup x=some .local
 jD:∀x,c.sc.names.lookup x=some .globalImplicit->Gl X x
 fre:∀x,c.sc.names.lookup x=some .cell\/c.sc.names.lookup x=some .free->X.env.scope.names.lookup x=some .cell\/X.env.scope.names.lookup x=some .free
 cel:c.df=true->∀x,c.sc.names.lookup x=some .cell->X.env.scope.names.lookup x=some .cell
 fn:∀x,c.df=true\/c.sc.names.lookup x=some .local->X.fn x=true
 bk:c.df=true->X.env.blockKind=.function
 calm:X.calm=true
 xe:X.xe=λ_ _=>False
 md:tV P X.K X.mg
 room:bQ k X.A
 lam:c.q = "law" ->P.lam=true->X.env.qual ++ "<lambda>"=jd/\Hy X.K X.mg X.env.code
noncomputable def lJ(sc:Scope)(x:Str):Bool:=match sc.names.lookup x with |some .local=>true |some .cell=>true |some .free=>true |_=>false
noncomputable def fJ(c:Ct)(x:Str):Bool:=match c.sc.names.lookup x with |some .local=>true |some .cell=>c.df |_=>false
noncomputable def bV(x:Str):Bool:=!(x==("__debug__":Str))&&!(x==("__classdict__":Str))
section
theorem aZ.vis(h:aZ P k X c)(hv:lJ c.sc x=true):qk X.env.scope x:=by
 unfold lJ at hv;split at hv
 . rename_i e;exact .inl (h.YZ x e)
 . rename_i e;exact (h.fre x (.inl e)).elim (λq=>.inr (.inl q)) λq=>.inr (.inr q)
 . rename_i e;exact (h.fre x (.inr e)).elim (λq=>.inr (.inl q)) λq=>.inr (.inr q)
 . cases hv
theorem aZ.nm(h:aZ P k X c)(hi:c.N[i]?=some x)(hs:fJ c x=true):xU X x i:=by
 refine⟨h.N▸h.nd,by rw[h.N];exact hi,?_,.inl (h.fn x ?_)⟩
 .
  unfold fJ at hs;split at hs
  . rename_i e;exact .inl (h.YZ x e)
  . rename_i e;exact .inr (h.cel hs x e)
  . cases hs
 .
  unfold fJ at hs;split at hs
  . rename_i e;exact .inr e
  . exact .inl hs
  . cases hs
theorem dI(h:bV x=true):(x==("__debug__":Str))=false/\(x==("__classdict__":Str))=false:=by unfold bV at h;simp only[dS,Bool.not_eq_true']at h;exact h
theorem cD{α:Type}{f:Int->Int->Option α}{a b:D}{r:α}(h:ku f a b=some r):∃i j,a=.int i/\b=.int j/\f i j=some r:=by
 unfold ku at h;split at h
 .
  split at h
  . exact⟨_,_,rfl,rfl,h⟩
  . cases h
 . cases h
theorem M8{d1 d2:D}{r:R}(hK:z.K=X.K)(h:Ue d1 d2=some r):mj X z (binaryOp .Add) d1 d2 r:=by
 unfold Ue at h;split at h
 .
  split at h
  . cases h;exact nu Q6
  . cases h
 .
  split at h
  .
   split at h
   . rename_i hc;cases h;exact R5 hc
   . cases h
  . cases h
 .
  split at h
  .
   split at h
   . rename_i hc;cases h;exact K7 hK hc
   . cases h
  . cases h
 . cases h
theorem M9{d1:D}{k:Int}{r:R}(hK:z.K=X.K)(h:MN d1 k=some r):mj X z (binaryOp .Mult) d1 (.int k) r:=by
 unfold MN at h;split at h
 .
  split at h
  . rename_i hc;cases h;refine oH Q8 ?_;unfold CN at hc;simp only[AM,dS,eR]at hc;exact hc
  . cases h
 .
  split at h
  . rename_i hc;cases h;exact R8 hc.1 hc.2.1 hc.2.2
  . cases h
 . cases h
theorem Ui(hK:z.K=X.K)(h:mY op d1 d2=some r):mj X z (binaryOp op) d1 d2 r:=by
 cases op with
 |Add=>exact M8 hK h
 |Sub=>obtain⟨i,j,rfl,rfl,h'⟩:=cD h;cases h';exact nu Q7
 |Mult=>
  dsimp only[mY]at h;split at h
  . exact M9 hK h
  . cases h
 |FloorDiv=>
  obtain⟨i,j,rfl,rfl,h'⟩:=cD h;split at h'
  . rename_i hc;cases h';exact oH Kg hc
  . cases h'
 |Mod=>
  obtain⟨i,j,rfl,rfl,h'⟩:=cD h;split at h'
  . rename_i hc;cases h';exact oH Q9 hc
  . cases h'
 |Pow=>
  obtain⟨i,j,rfl,rfl,h'⟩:=cD h;split at h'
  . rename_i hc;cases h';exact oH sH ⟨hc.1,by have:=hc.2.1;lia,hc.2.2⟩
  . cases h'
 |LShift=>
  obtain⟨i,j,rfl,rfl,h'⟩:=cD h;split at h'
  . rename_i hc;cases h';exact Uc hc.1 (by have:=hc.2.1;lia) hc.2.2
  . cases h'
 |_=>cases h
theorem Nb(h:Ug op d1 d2=some d):mj X z (inplaceOp op) d1 d2 (.dat d):=by
 unfold Ug at h;split at h
 . cases h;exact nu Kh
 . cases h;exact nu Kl
 .
  split at h
  . rename_i hc;cases h;refine oH Km ?_;unfold CN at hc;simp only[AM,dS,eR]at hc;exact hc
  . cases h
 . cases h
theorem jE(hK:z.K=X.K)(hr:bQ k X.A)(h:iM op d1 d2=some b):mj X z (compareOp op) d1 d2 (.dat (.bl b)):=by
 have hu:=hr.un;cases op with
 |Eq=>
  dsimp only[iM]at h;split at h
  . rename_i hc;cases h;simp only[jB,dS,eR]at hc;exact Yg hK hc.1.1 hc.1.2 (by have:=hc.2;lia)
  . cases h
 |NotEq=>
  dsimp only[iM]at h;split at h
  . rename_i hc;cases h;simp only[jB,dS,eR]at hc;exact Yi hK hc.1.1 hc.1.2 (by have:=hc.2;lia)
  . cases h
 |Lt=>
  dsimp only[iM,ltF]at h;split at h
  .
   split at h
   . cases h;exact sY Xs
   . cases h
  . cases h
 |LtE=>obtain⟨i,j,rfl,rfl,h'⟩:=cD h;cases h';exact sY Xu
 |Gt=>obtain⟨i,j,rfl,rfl,h'⟩:=cD h;cases h';exact sY Xv
 |GtE=>obtain⟨i,j,rfl,rfl,h'⟩:=cD h;cases h';exact sY Xw
 |NotIn=>
  dsimp only[iM]at h;split at h
  .
   rename_i hs;split at h
   . rename_i hc;cases h;simp only[MP,dS,eR]at hc;exact FH hK hs hc.1.1 hc.1.2 (by have:=hc.2;lia)
   . cases h
  . cases h
 |_=>cases h
theorem Uj{d1 d2 d:D}(hK:z.K=X.K)(hr:X.A.units+1<cLine)(h:MT d1 d2=some d):Wi X z d1 d2 (.dat d):=by
 unfold MT at h;split at h
 . exact Se hK h
 . exact Sf hK h
 . exact K8 hK h
 .
  split at h
  . rename_i e;exact T9 hK hr e h
  . cases h
 . cases h
noncomputable def Y0:Bl->Str×Value
 |.len=>("len",.builtin "len")
 |.list=>("list",.type "list")
 |.tuple=>("tuple",.type "tuple")
 |.max=>("max",.builtin "max")
 |.min=>("min",.builtin "min")
 |.str=>("str",.type "str")
 |.all=>("all",.builtin "all")
 |.any=>("any",.builtin "any")
 |.sorted=>("sorted",.builtin "sorted")
 |.sum=>("sum",.builtin "sum")
theorem Uk{b:Bl}{d:D}{r:R}(hK:z.K=X.K)(hc:X.calm=true)(hr:X.A.units+1<cLine)(h:P7 b d=some r):CallD X z (Y0 b).2 [d] r:=by
 cases b <;> dsimp only[P7]at h
 case len=>
  split at h
  . rename_i e;cases h;exact Si hK e
  . cases h
 case list=>
  split at h
  . rename_i e;cases h;exact K9 hK e
  . cases h
 case tuple=>
  split at h
  . rename_i e;cases h;exact FN hK e
  . cases h
 case min=>
  split at h
  .
   rename_i e1;split at h
   . rename_i e2;cases h;exact Mh hc hK e1 e2
   .
    split at h
    . rename_i e3;cases h;exact MK hc hr hK e1 e3
    . cases h
  . cases h
 case all=>
  split at h
  .
   split at h
   . rename_i e;cases h;exact Sq hc e
   . cases h
  . cases h
 case sorted=>
  split at h
  .
   rename_i e1;split at h
   .
    rename_i e2;split at h
    . rename_i e3;cases h;exact BW hK e1 e2 e3
    . cases h
   .
    split at h
    .
     rename_i e2;split at h
     . rename_i e3;cases h;exact yf hK e1 e2 e3
     . cases h
    . cases h
  . cases h
 case sum=>
  split at h
  .
   rename_i e1;split at h
   . rename_i e2;cases h;exact Td hc hK e1 e2
   . cases h
  . cases h
 all_goals cases h
theorem Ul{b:Bl}{ds:List D}{r:R}(hK:z.K=X.K)(hc:X.calm=true)(hr:X.A.units+1<cLine)(h:pC b ds=some r):CallD X z (Y0 b).2 ds r:=by
 unfold pC at h;split at h
 . exact Uk hK hc hr h
 .
  cases b with
  |max=>obtain⟨i,j,rfl,rfl,h'⟩:=cD h;cases h';exact Sj hc
  |min=>obtain⟨i,j,rfl,rfl,h'⟩:=cD h;cases h';exact Sl hc
  |_=>cases h
 . cases h
noncomputable def qE:List String:=["int", "bool", "str", "tuple", "list", "dict"]
theorem v9{K:Frag}{M:List Addr}{H:Hp}{v:V}{d:D}(p:Pk K M H d v){n:String}(hn:n∈qE):PySem.W.kitOne K (DR d) (.type n)=some (jc (uJ d) n):=by
 cases d with
 |lg C=>
  cases p with
  |of q=>
   cases q with
   |lg k _ _=>refine (k.kit n hn).trans ?_;unfold qE at hn;simp only[d5,i7,t8]at hn;rcases hn with rfl |rfl |rfl |rfl |rfl |rfl <;> first |rfl |decide
 |_=>unfold qE at hn;simp only[d5,i7,t8]at hn;rcases hn with rfl |rfl |rfl |rfl |rfl |rfl <;> first |rfl |decide
theorem rL{K:Frag}{M:List Addr}{H:Hp}{v:V}{d:D}(p:Pk K M H d v):∀{ns:List String},(∀n∈ns,n∈qE)->PySem.W.kitAny K (DR d) (ns.map Value.type)=some (ns.any (jc (uJ d)))
 | [],_=>rfl
 |n::ns,h=>by
  show (match PySem.W.kitOne K (DR d) (.type n)with |some true=>some true |some false=>PySem.W.kitAny K (DR d) (ns.map Value.type) |none=>none)=_
  rw[v9 p (h n dL),rL p λm hm=>h m (dA _ hm),List.any_cons]
  cases jc (uJ d) n <;> rfl
end
noncomputable def pF(sc scope:Scope):Bool:=decide (scope.kind=.function)&&scope.names.all λy=>decide (y.2≠.cell)&&(decide (y.2≠.local)||decide (scope.names.lookup y.1=some .local)) &&
 (decide (y.2≠.free)||(decide (scope.names.lookup y.1=some .free)&&(decide (sc.names.lookup y.1=some .cell)||decide (sc.names.lookup y.1=some .free))))
noncomputable def iC(N N':List Str)(scope:Scope)(k:Nat):Bool:=decide (N'.length=N.length+(k+1))&&(match N'[N.length+k]? with |some x=>decide (scope.names.lookup x=none) |none=>true) &&
 (List.range N.length).all λi=>match N'[i]? with |some x=>decide (scope.names.lookup x=none)||(decide (N[i]?=some x)&&decide (scope.names.lookup x≠some .local)) |none=>true
inductive CQ(c:Ct):List Expr->List Nat->Prop
 |nil:CQ c [] []
 |cons {x:Str}{i:Nat}{pos:Pos}{es:List Expr}{is:List Nat}:c.N[i]?=some x->fJ c x=true->CQ c es is->CQ c (.Name x pos::es) (i::is)
inductive yH(P:Pg)(c:Ct):List Expr->List String->Prop
 |nil:yH P c [] []
 |cons {T:Str}{n:String}{pos:Pos}{es:List Expr}{ns:List String}:T∈P.bn->c.sc.names.lookup T=some .globalImplicit->T=Str.ofString n->n∈qE->yH P c es ns->yH P c (.Name T pos::es) (n::ns)
inductive yI(c:Ct):Expr->Tg->Prop
 |nm:c.N[i]?=some x->fJ c x=true->yI c (.Name x pos) (.nm i)
 |tp {es:List Expr}{is:List Nat}{k:Nat}{pos:Pos}:CQ c es is->yI c (.Tuple es k pos) (.tp is)
noncomputable def Nc(c:Ct)(y:Str)(py pos:Pos)(scope:Scope):Bool:=(c.sc.names.lookup y==some .local)&&py.line==pos.line&&!(scope.names.any λ(n,k)=>n==y&&(k==.local||k==.cell))
inductive jF(R:Expr->Ex->Prop):List Expr->List Ex->Prop
 |nil:jF R [] []
 |cons {e:Expr}{es:List Expr}{x:Ex}{xs:List Ex}:R e x->jF R es xs->jF R (e::es) (x::xs)
inductive tW(R:Expr->Ex->Prop):List Expr->List (Bool×Ex)->Prop
 |nil:tW R [] []
 |con {y:Str}{j:Nat}{p:Pos}{es:List Expr}{l:List (Bool×Ex)}:tW R es l->tW R (.Constant (.str y) j p::es) ((false,.val (.str y))::l)
 |fmt:R v x->tW R es l->tW R (.FormattedValue v (-1) Option.none p::es) ((true,x)::l)
inductive CT(R:Expr->Ex->Prop):Option Expr->Option Ex->Prop
 |none:CT R Option.none Option.none
 |some {e:Expr}{x:Ex}:R e x->CT R (Option.some e) (Option.some x)
inductive pG(R:Expr->Ex->Prop):List Expr->Option Ex->Prop
 |none:pG R [] Option.none
 |some {e:Expr}{x:Ex}:R e x->pG R [e] (Option.some x)
inductive mZ(P:Pg)(R:Expr->Ex->Prop)(c:Ct):Expr->Ex->Prop
 |seq:R e x->mZ P R c e x
 |dP:R a xa->("range":Str)∈P.bn->c.sc.names.lookup ("range":Str)=some .globalImplicit->mZ P R c (.Call (.Name "range" p) [a] [] pos) (.dP xa)
 |fG:R a xa->R b xb->("range":Str)∈P.bn->c.sc.names.lookup ("range":Str)=some .globalImplicit->mZ P R c (.Call (.Name "range" p) [a,b] [] pos) (.fG xa xb)
 |zip:R a xa->R b xb->("zip":Str)∈P.bn->c.sc.names.lookup ("zip":Str)=some .globalImplicit->mZ P R c (.Call (.Name "zip" p) [a,b] [] pos) (.zip xa xb)
noncomputable def zQ(e:Expr):Option Str:=match e with |.Name x _=>some x |_=>none
theorem pH{e:Expr}{x:Str}(h:zQ e=some x):∃p,e=.Name x p:=by cases e <;> first | (cases h;exact⟨_,rfl⟩) |cases h
noncomputable def Hz{α:Type}(l:List α):Option α:=match l with | [a]=>some a |_=>none
theorem nL{α:Type}{l:List α}{a:α}(h:Hz l=some a):l=[a]:=by
 cases l with
 |nil=>cases h
 |cons b l=>cases l with
  |nil=>cases h;rfl
  |cons _ _=>cases h
noncomputable def Y3(s:Stmt):Option (List Expr×Expr):=match s with |.Assign ts e _=>some (ts,e) |_=>none
theorem Ng{s:Stmt}{r:List Expr×Expr}(h:Y3 s=some r):∃p,s=.Assign r.1 r.2 p:=by cases s <;> first | (cases h;exact⟨_,rfl⟩) |cases h
noncomputable def Y4(e:Expr):Option Const:=match e with |.Constant c _ _=>some c |_=>none
theorem Nh(h:Y4 e=some c):∃j p,e=.Constant c j p:=by cases e <;> first | (cases h;exact⟨_,_,rfl⟩) |cases h
noncomputable def Y5(c:Const):Option Unit:=match c with |.none=>some () |_=>none
theorem Ni(h:Y5 c=some ()):c=.none:=by cases c <;> first |rfl |cases h
noncomputable def Y6(s:Stmt):Option Expr:=match s with |.Expr e _=>some e |_=>none
theorem Nj{s:Stmt}{e:Expr}(h:Y6 s=some e):∃p,s=.Expr e p:=by cases s <;> first | (cases h;exact⟨_,rfl⟩) |cases h
noncomputable def Y7(e:Expr):Option (Expr×List Expr×List Keyword):=match e with |.Call f as ks _=>some (f,as,ks) |_=>none
theorem Nk{e:Expr}{r:Expr×List Expr×List Keyword}(h:Y7 e=some r):∃p,e=.Call r.1 r.2.1 r.2.2 p:=by cases e <;> first | (cases h;exact⟨_,rfl⟩) |cases h
noncomputable def Y8(s:Stmt):Option (List Stmt×List ExceptHandler×List Stmt×List Stmt):=match s with |.Try b h o f _=>some (b,h,o,f) |_=>none
theorem Nm{s:Stmt}{r:List Stmt×List ExceptHandler×List Stmt×List Stmt}(h:Y8 s=some r):∃p,s=.Try r.1 r.2.1 r.2.2.1 r.2.2.2 p:=by cases s <;> first | (cases h;exact⟨_,rfl⟩) |cases h
noncomputable def HB{α:Type}(l:List α):Option Unit:=match l with | []=>some () |_=>none
theorem nM{α:Type}{l:List α}(h:HB l=some ()):l=[]:=by cases l with |nil=>rfl |cons _ _=>cases h
noncomputable def Y9(h:ExceptHandler):Option (Expr×Str×List Stmt):=match h with |.ExceptHandler t n b _=>t.bind λt=>n.bind λn=>some (t,n,b)
theorem Np{h:ExceptHandler}{r:Expr×Str×List Stmt}(e:Y9 h=some r):∃p,h=.ExceptHandler (some r.1) (some r.2.1) r.2.2 p:=by
 obtain⟨t,n,b,p⟩:=h;cases t with
 |none=>cases e
 |some t=>cases n with
  |none=>cases e
  |some n=>cases e;exact⟨p,rfl⟩
def zR(s:Stmt):Option (Str×Expr):=(Y3 s).bind λr=>(Hz r.1).bind λt=>(zQ t).bind λx=>some (x,r.2)
theorem wc{s:Stmt}{r:Str×Expr}(h:zR s=some r):∃p q,s=.Assign [.Name r.1 p] r.2 q:=by unfold zR at h;simp only[fA]at h;obtain⟨⟨ts,e⟩,h1,t,h2,x,h3,h4⟩:=h;cases h4;obtain⟨p,rfl⟩:=Ng h1;obtain⟨q,rfl⟩:=pH h3;have:=nL h2;dsimp only at this;subst this;exact⟨q,p,rfl⟩
def Um(l:List Stmt):Option Str:=(Hz l).bind λs3=>(Y6 s3).bind λce=>(Y7 ce).bind λf=>(HB f.2.1).bind λ_=>(HB f.2.2).bind λ_=>zQ f.1
theorem Nq{l:List Stmt}{y:Str}(h:Um l=some y):∃py cp ep,l=[.Expr (.Call (.Name y py) [] [] cp) ep]:=by replace h:=fA.1 h;obtain⟨s3,h1,h⟩:=h;cases nL h1;clear h1;replace h:=fA.1 h;obtain⟨ce,h1,h⟩:=h;obtain⟨p,e1⟩:=Nj h1;cases e1;clear h1;replace h:=fA.1 h;obtain⟨⟨f1,f2,f3⟩,h1,h⟩:=h;obtain⟨q,e1⟩:=Nk h1;cases e1;clear h1;replace h:=fA.1 h;obtain⟨_,h1,h⟩:=h;replace h:=fA.1 h;obtain⟨_,h2,h⟩:=h;obtain⟨r,e1⟩:=pH h;exact⟨r,q,p,by have a:=nM h1;have b:=nM h2;dsimp only at a b e1 ⊢;rw[a,b,e1]⟩
def Uo(l:List ExceptHandler):Option (Str×Str×Str×Str):=(Hz l).bind λhh=>(Y9 hh).bind λu=>(zQ u.1).bind λke=>(Hz u.2.2).bind λs4=>(zR s4).bind λb=>(zQ b.2).bind λP9=>some (ke,u.2.1,b.1,P9)
theorem Nr{l:List ExceptHandler}{r:Str×Str×Str×Str}(h:Uo l=some r):∃kp vP vO ap hp,l=[.ExceptHandler (some (.Name r.1 kp)) (some r.2.1) [.Assign [.Name r.2.2.1 vP] (.Name r.2.2.2 vO) ap] hp]:=by replace h:=fA.1 h;obtain⟨hh,h1,h⟩:=h;cases nL h1;clear h1;replace h:=fA.1 h;obtain⟨⟨u1,u2,u3⟩,h1,h⟩:=h;obtain⟨p,e1⟩:=Np h1;cases e1;clear h1;replace h:=fA.1 h;obtain⟨ke,h1,h⟩:=h;obtain⟨q,e1⟩:=pH h1;cases e1;clear h1;replace h:=fA.1 h;obtain⟨s4,h1,h⟩:=h;cases nL h1;clear h1;replace h:=fA.1 h;obtain⟨⟨b1,b2⟩,h1,h⟩:=h;obtain⟨m,n,e1⟩:=wc h1;cases e1;clear h1;replace h:=fA.1 h;obtain⟨en,h1,h⟩:=h;obtain⟨o,e1⟩:=pH h1;cases e1;clear h1;cases h;exact⟨q,m,o,n,p,rfl⟩
def Za(s:Stmt):Option Str:=(zR s).bind λa=>(Y4 a.2).bind λc=>(Y5 c).bind λ_=>some a.1
theorem Nt(h:Za s=some x):∃p j np ap,s=.Assign [.Name x p] (.Constant .none j np) ap:=by replace h:=fA.1 h;obtain⟨⟨a1,a2⟩,h1,h⟩:=h;obtain⟨p,q,e1⟩:=wc h1;cases e1;clear h1;replace h:=fA.1 h;obtain⟨c,h1,h⟩:=h;obtain⟨j,m,e1⟩:=Nh h1;cases e1;clear h1;replace h:=fA.1 h;obtain⟨_,h1,h⟩:=h;cases Ni h1;clear h1;cases h;exact⟨p,j,m,q,rfl⟩
def Zb(s:Stmt):Option (Str×Str×Str×Str×Str):=(Y8 s).bind λt=>(HB t.2.2.1).bind λ_=>(HB t.2.2.2).bind λ_=>(Um t.1).bind λy=>(Uo t.2.1).bind λu=>some (y,u)
theorem Nu{s:Stmt}{r:Str×Str×Str×Str×Str}(h:Zb s=some r):∃l hs p,Um l=some r.1/\Uo hs=some r.2/\s=.Try l hs [] [] p:=by replace h:=fA.1 h;obtain⟨⟨t1,t2,t3,t4⟩,h1,h⟩:=h;obtain⟨p,e1⟩:=Nm h1;cases e1;clear h1;replace h:=fA.1 h;obtain⟨_,h1,h⟩:=h;cases nM h1;clear h1;replace h:=fA.1 h;obtain⟨_,h1,h⟩:=h;cases nM h1;clear h1;replace h:=fA.1 h;obtain⟨y,h1,h⟩:=h;replace h:=fA.1 h;obtain⟨u,h2,h⟩:=h;cases h;exact⟨t1,t2,p,h1,h2,rfl⟩
def Up(l:List Stmt):Option (Str×Str×Str×Str×Str×Str):=match l with
 |s1::s2::_=>(Za s1).bind λa=>(Zb s2).bind λt=>some (a,t)
 |_=>none
theorem Nv(h:Up l=some (er,y,ke,en,JW,P9)):∃Cy j np Wu py bh qi kp vP vO bX qj qh rest,l=.Assign [.Name er Cy] (.Constant .none j np) Wu::.Try [.Expr (.Call (.Name y py) [] [] bh) qi] [.ExceptHandler (some (.Name ke kp)) (some en) [.Assign [.Name JW vP] (.Name P9 vO) bX] qj] [] [] qh::rest:=by
 unfold Up at h;split at h
 . replace h:=fA.1 h;obtain⟨a,h1,h⟩:=h;replace h:=fA.1 h;obtain⟨t,h2,h⟩:=h;cases h;obtain⟨p,j,np,ap,e1⟩:=Nt h1;obtain⟨l,hs,tp,h3,h4,e2⟩:=Nu h2;obtain⟨py,cp,ep,e3⟩:=Nq h3;obtain⟨kp,vP,vO,ap',hp,e4⟩:=Nr h4;exact⟨p,j,np,ap,py,cp,ep,kp,vP,vO,ap',hp,tp,_,by rw[e1,e2,e3,e4]⟩
 . cases h
def HD(fi:Fi)(ir:Nat)(kt:Str):Bool:=match Up (bB fi.st)with
 |some (er,y,ke,en,JW,P9)=>decide ((ke=kt/\JW=er/\P9=en/\fi.ps=[y])/\((aC fi.st).names.lookup ke=some .globalImplicit/\fi.N[fi.N.idxOf en]?=some en/\(aC fi.st).names.lookup en=some .local)/\(fi.N[ir]?=some er/\fi.N[0]?=some y)/\(fi.N.idxOf en≠ir/\fi.N.idxOf en≠0/\ir≠0))&&((bV en&&bV y)&&(lJ (aC fi.st) y&&fJ ⟨fi.N,aC fi.st,true,fi.qual⟩ er))
 |none=>false
noncomputable def CV(params:Arguments)(scope:Scope):Bool:=match params with
 |⟨[],[],none,[],[],none,[]⟩=>(!scope.isCoroutine&&!scope.isGenerator)&&(decide (scope.kind=.function)&&scope.names.all λy=>decide (y.2≠.cell)&&decide (y.2≠.local))
 |_=>false
theorem tX(h:CV params scope=true):dR params scope:=by
 unfold CV at h;split at h
 . simp only[dS,Bool.not_eq_true',eR,eP]at h;exact⟨h.1.1,h.1.2,h.2.1,λx hx=>(h.2.2 x hx).1,λx hx=>(h.2.2 x hx).2,rfl⟩
 . cases h
inductive fW(P:Pg)(R:Ct->Expr->Ex->Prop)(c:Ct):Expr->Ex->Prop
 |int {i:Int}{j:Nat}{pos:Pos}:fW P R c (.Constant (.int i) j pos) (.val (.int i))
 |bool:fW P R c (.Constant (.bool i) j pos) (.val (.bl i))
 |none {j:Nat}{pos:Pos}:fW P R c (.Constant .none j pos) (.val .non)
 |str:fW P R c (.Constant (.str i) j pos) (.val (.str i))
 |var {x:Str}{i:Nat}{pos:Pos}:c.N[i]?=some x->lJ c.sc x=true->bV x=true->fW P R c (.Name x pos) (.slot i)
 |glob {x:Str}{d:D}{pos:Pos}:(x,d)∈P.ct->c.sc.names.lookup x=some .globalImplicit->fW P R c (.Name x pos) (.val d)
 |bin {a b:Expr}{xa xb:Ex}{op:Operator}{pos:Pos}:R c a xa->R c b xb->fW P R c (.BinOp a op b pos) (.bin op xa xb)
 |cmp {a b:Expr}{xa xb:Ex}{op:CmpOp}{pos:Pos}:R c a xa->R c b xb->behindInMarks op b=false->fW P R c (.Compare a [op] [b] pos) (.cmp op xa xb)
 |chain {a b1 b2:Expr}{bs:List Expr}{xa x1 x2:Ex}{xs:List Ex}{Ls Lv:CmpOp}{ops:List CmpOp}{pos:Pos}:R c a xa->jF (R c) (b1::b2::bs) (x1::x2::xs)->lastMarks (Ls::Lv::ops) (b1::b2::bs)=false->fW P R c (.Compare a (Ls::Lv::ops) (b1::b2::bs) pos) (.chain xa (Ls::Lv::ops) (x1::x2::xs))
 |neg {a:Expr}{xa:Ex}{pos:Pos}:R c a xa->fW P R c (.UnaryOp .USub a pos) (.neg xa)
 |not {a:Expr}{xa:Ex}{pos:Pos}:R c a xa->fW P R c (.UnaryOp .Not a pos) (.not xa)
 |and {es:List Expr}{xs:List Ex}{pos:Pos}:jF (R c) es xs->fW P R c (.BoolOp .And es pos) (.and xs)
 |or {es:List Expr}{xs:List Ex}{pos:Pos}:jF (R c) es xs->fW P R c (.BoolOp .Or es pos) (.or xs)
 |ite {t a b:Expr}{xt xa xb:Ex}{pos:Pos}:R c t xt->R c a xa->R c b xb->fW P R c (.IfExp t a b pos) (.ite xt xa xb)
 |tup {es:List Expr}{xs:List Ex}{k:Nat}{pos:Pos}:jF (R c) es xs->fW P R c (.Tuple es k pos) (.tup xs)
 |lst {es:List Expr}{xs:List Ex}{pos:Pos}:jF (R c) es xs->fW P R c (.List es pos) (.lst xs)
 |ix {a b:Expr}{xa xb:Ex}{pos:Pos}:R c a xa->R c b xb->fW P R c (.Subscript a b pos) (.ix xa xb)
 |slice {a:Expr}{lo hi:Option Expr}{xa:Ex}{xl xh:Option Ex}{p2 pos:Pos}:R c a xa->CT (R c) lo xl->CT (R c) hi xh->fW P R c (.Subscript a (.Slice lo hi Option.none p2) pos) (.slice xa xl xh)
 |call {x:Str}{f:Nat}{fi:Fi}{e:Expr}{es:List Expr}{xs:List Ex}{p pos:Pos}:P.fn[f]?=some fi->fi.name=x->c.sc.names.lookup x=some .globalImplicit->jF (R c) (e::es) xs->fW P R c (.Call (.Name x p) (e::es) [] pos) (.call f xs)
 |blt {x:Str}{b:Bl}{e:Expr}{es:List Expr}{xs:List Ex}{p pos:Pos}:(Y0 b).1=x->x∈P.bn->c.sc.names.lookup x=some .globalImplicit->jF (R c) (e::es) xs->fW P R c (.Call (.Name x p) (e::es) [] pos) (.blt b xs)
 |kL {a:Expr}{xa:Ex}{T:Str}{n:String}{p pT pos:Pos}:R c a xa->("isinstance":Str)∈P.bn->c.sc.names.lookup ("isinstance":Str)=some .globalImplicit->T∈P.bn->c.sc.names.lookup T=some .globalImplicit->T=Str.ofString n->n∈qE->fW P R c (.Call (.Name "isinstance" p) [a,.Name T pT] [] pos) (.kL xa n)
 |pB {a:Expr}{xa:Ex}{es:List Expr}{ns:List String}{k:Nat}{p pT pos:Pos}:R c a xa->("isinstance":Str)∈P.bn->c.sc.names.lookup ("isinstance":Str)=some .globalImplicit->ns.length<=100->
   yH P c es ns->fW P R c (.Call (.Name "isinstance" p) [a,.Tuple es k pT] [] pos) (.pB xa ns)
 |rev {a:Expr}{xa:Ex}{j:Nat}{p1 p2 p3 pos:Pos}:R c a xa->fW P R c (.Subscript a (.Slice none none (some (m1 j p1 p3)) p2) pos) (.rev xa)
 |emp {pos:Pos}:fW P R c (.Dict [] [] pos) .emp
 |peek {x:Str}{e:Expr}{es:List Expr}{xe:Ex}{p pos:Pos}:R c (.Call (.Name x p) (e::es) [] pos) xe->fW P R c (.Call (.Name x p) (e::es) [] pos) (.peek xe)
 |stk {a b:Expr}{op:Operator}{pos:Pos}:fW P R c (.BinOp a op b pos) .stk
 |rJ {a:Expr}{xa:Ex}{T:Str}{l:List (Addr×Bool)}{p pT pos:Pos}:R c a xa->("isinstance":Str)∈P.bn->c.sc.names.lookup ("isinstance":Str)=some .globalImplicit->(T,l)∈P.ups->c.sc.names.lookup T=some .globalImplicit->fW P R c (.Call (.Name "isinstance" p) [a,.Name T pT] [] pos) (.rJ xa l)
 |lI {x:Str}{f ir:Nat}{fi:Fi}{params:Arguments}{body:Expr}{scope:Scope}{xb:Ex}{ca:List Addr}{fp CW pos:Pos}:P.fn[f]?=some fi->fi.name=x->(ca=P.gU/\c.sc.names.lookup x=some .globalImplicit\/ca=[])->c.q = "law" ->P.lam=true->HD fi ir P.kt=true->pF c.sc scope=true->CV params scope=true->
   R ⟨c.N,scope,false,Str.empty⟩ body xb->fW P R c (.Call (.Name x fp) [.Lambda params body scope CW] [] pos) (.lI f ir ca xb)
 |comp {tg iter bI:Expr}{ifs:List Expr}{scope:Scope}{N':List Str}{k:Nat}{T:Tg}{it xe:Ex}{co:Option Ex}{pos:Pos}:pF c.sc scope=true->iC c.N N' scope k=true->N'.Nodup->yI ⟨N',scope,false,Str.empty⟩ tg T->(∀i∈T.ix,c.N.length<=i/\i<c.N.length+k)->
   mZ P (R c) c iter it->pG (R ⟨N',scope,false,Str.empty⟩) ifs co->R ⟨N',scope,false,Str.empty⟩ bI xe->fW P R c (.ListComp bI [⟨tg,iter,ifs,0⟩] scope pos) (.comp c.N.length k T it co xe)
 |iA {tg iter vx:Expr}{Qa:List Expr}{scope:Scope}{N':List Str}{k kk:Nat}{T:Tg}{it xv:Ex}{ks:List Ex}{kp pos:Pos}:pF c.sc scope=true->iC c.N N' scope k=true->N'.Nodup->yI ⟨N',scope,false,Str.empty⟩ tg T->(∀i∈T.ix,c.N.length<=i/\i<c.N.length+k)->
   mZ P (R c) c iter it->jF (R ⟨N',scope,false,Str.empty⟩) Qa ks->R ⟨N',scope,false,Str.empty⟩ vx xv->fW P R c (.DictComp (.Tuple Qa kk kp) vx [⟨tg,iter,[],0⟩] scope pos) (.iA c.N.length k T it ks xv)
 |cT {t1 i1 tg iter bI:Expr}{f1 ifs:List Expr}{scope:Scope}{N':List Str}{k:Nat}{T1 T:Tg}{qB it xe:Ex}{c1 co:Option Ex}{pos:Pos}:pF c.sc scope=true->iC c.N N' scope k=true->N'.Nodup->yI ⟨N',scope,false,Str.empty⟩ t1 T1->yI ⟨N',scope,false,Str.empty⟩ tg T->(∀i∈T1.ix,c.N.length<=i/\i<c.N.length+k)->(∀i∈T.ix,c.N.length<=i/\i<c.N.length+k)->
   mZ P (R c) c i1 qB->pG (R ⟨N',scope,false,Str.empty⟩) f1 c1->mZ P (R ⟨N',scope,false,Str.empty⟩) ⟨N',scope,false,Str.empty⟩ iter it->pG (R ⟨N',scope,false,Str.empty⟩) ifs co->R ⟨N',scope,false,Str.empty⟩ bI xe->fW P R c (.ListComp bI [⟨t1,i1,f1,0⟩,⟨tg,iter,ifs,0⟩] scope pos) (.cT c.N.length k T1 qB c1 T it co xe)
 |iB {a b:Expr}{xa xb:Ex}{lp p rp pos:Pos}:R c a xa->R c b xb->("range":Str)∈P.bn->c.sc.names.lookup ("range":Str)=some .globalImplicit->("list":Str)∈P.bn->c.sc.names.lookup ("list":Str)=some .globalImplicit->fW P R c (.Call (.Name "list" lp) [.Call (.Name "range" p) [a,b] [] rp] [] pos) (.iB xa xb)
 |jl {a:Expr}{xa:Ex}{j:Nat}{p kp kpos pos:Pos}:R c a xa->("sorted":Str)∈P.bn->c.sc.names.lookup ("sorted":Str)=some .globalImplicit->fW P R c (.Call (.Name "sorted" p) [a] [⟨Option.some "reverse",.Constant (.bool true) j kp,kpos⟩] pos) (.jl xa)
 |kr {es:List Expr}{l:List (Bool×Ex)}{pos:Pos}:tW (R c) es l->fW P R c (.JoinedStr es pos) (.kr l)
 |append {x:Str}{i:Nat}{e:Expr}{xe:Ex}{pn bX bh:Pos}:c.N[i]?=some x->lJ c.sc x=true->bV x=true->R c e xe->(bX.endLine==bh.line)=true->fW P R c (.Call (.Attribute (.Name x pn) "append" bX) [e] [] bh) (.append i xe)
 |extend {x:Str}{i:Nat}{e:Expr}{xe:Ex}{pn bX bh:Pos}:c.N[i]?=some x->lJ c.sc x=true->bV x=true->R c e xe->(bX.endLine==bh.line)=true->fW P R c (.Call (.Attribute (.Name x pn) "extend" bX) [e] [] bh) (.extend i xe)
abbrev p0:Pos:=⟨0,0,0,0⟩
inductive mK(R:Expr->Ex->Prop)(fx:Str)(f ir:Nat)(ca:List Addr):List Lt->List Ex->Prop
 |nil:mK R fx f ir ca [] []
 |cons {l:Lt}{ls:List Lt}{e:Ex}{es:List Ex}:R (.Call (.Name fx p0) [l.ex] [] p0) (.lI f ir [] e)->mK R fx f ir ca ls es->mK R fx f ir ca (l::ls) (e::es)
structure Zc(c:Ct)(fx:Str)(scope:Scope)(N':List Str)(v:Str)(k j:Nat):Prop where
 lt:j<k
 bl:pF c.sc scope=true
 nm:iC c.N N' scope k=true
 nd:N'.Nodup
 ix:N'[c.N.length+j]?=some v
 st:fJ ⟨N',scope,false,Str.empty⟩ v=true
 vi:lJ scope v=true
 pl:bV v=true
 gl:scope.names.lookup fx=some .globalImplicit
inductive Nx(RS:Stmt->Sm->Prop)(ce:Expr):Stmt->Bool->List Sm->Prop
 |ite {s:Stmt}{x:Sm}{pos:Pos}:RS s x->Nx RS ce (.If ce [s] [] pos) false [x]
 |ret {pos:Pos}:Nx RS ce (.Return (some ce) pos) true []
inductive Ny(P:Pg)(R:Expr->Ex->Prop)(RS:Stmt->Sm->Prop)(c:Ct):List Stmt->Sm->Prop
 |mk {y v fx:Str}{ic f ir:Nat}{l:Lt}{ls:List Lt}{e:Ex}{es:List Ex}{ss:List Stmt}{st:Stmt}{scope:Scope}{N':List Str}{k j:Nat}{qA:Expr}{op:CmpOp}{rhs:Ex}{ret:Bool}{b:List Sm}{py lp pos fp vp cp tp ip lcp cmp:Pos} :
   c.N[ic]?=some y->fJ c y=true->lJ c.sc y=true->bV y=true->yz y ss ls->mK R fx f ir P.gU (l::ls) (e::es)->ls.length<900->Zc c fx scope N' v k j->R qA rhs->behindInMarks op qA=false->
   Nx RS (.Compare (.ListComp (.Call (.Name fx fp) [.Name v vp] [] cp) [⟨.Name v tp,.Name y ip,[],0⟩] scope lcp) [op] [qA] cmp) st ret b->
   Ny P R RS c (.Assign [.Name y py] (.List [l.ex] lp) pos::(ss++[st])) (.calls ic (.refs f ir P.gU (e::es)) op rhs ret b)
inductive pI(RG:List Stmt->Sm->Prop)(RS:Stmt->Sm->Prop):List Stmt->List Sm->Prop
 |nil:pI RG RS [] []
 |grp {ss rest:List Stmt}{x:Sm}{xs:List Sm}:RG ss x->pI RG RS rest xs->pI RG RS (ss++rest) (x::xs)
 |cons {s:Stmt}{ss:List Stmt}{x:Sm}{xs:List Sm}:RS s x->pI RG RS ss xs->pI RG RS (s::ss) (x::xs)
noncomputable def qF(k:Scope->Pos->Bool)(e:Expr):Bool:=match e with |.ListComp _ _ s p=>k s p |.DictComp ..=>true |_=>false
inductive kD(P:Pg)(R:Expr->Ex->Prop)(RS:Stmt->Sm->Prop)(c:Ct):Stmt->Sm->Prop
 |ret {e:Expr}{x:Ex}{pos:Pos}:R e x->kD P R RS c (.Return (some e) pos) (.ret x)
 |expr {e:Expr}{x:Ex}{pos:Pos}:R e x->qF (λ_ _=>true) e=false->kD P R RS c (.Expr e pos) (.expr x)
 |set {y:Str}{i:Nat}{e:Expr}{x:Ex}{py pos:Pos}:c.N[i]?=some y->fJ c y=true->R e x->qF (λs p=>Nc c y py p s) e=false->kD P R RS c (.Assign [.Name y py] e pos) (.set i x)
 |setC {y:Str}{i:Nat}{a:Expr}{b:List Comprehension}{s:Scope}{p:Pos}{n kk:Nat}{T:Tg}{it:Ex}{co:Option Ex}{x:Ex}{py pos:Pos}:c.N[i]?=some y->Nc c y py p s=true->R (.ListComp a b s p) (.comp n kk T it co x)->kD P R RS c (.Assign [.Name y py] (.ListComp a b s p) pos) (.setC i (.comp n kk T it co x))
 |Qc {y:Str}{i:Nat}{a:Expr}{b:List Comprehension}{s:Scope}{p:Pos}{n kk:Nat}{T1 T:Tg}{qB it:Ex}{c1 co:Option Ex}{x:Ex}{py pos:Pos}:c.N[i]?=some y->Nc c y py p s=true->R (.ListComp a b s p) (.cT n kk T1 qB c1 T it co x)->kD P R RS c (.Assign [.Name y py] (.ListComp a b s p) pos) (.setC i (.cT n kk T1 qB c1 T it co x))
 |item {y:Str}{i:Nat}{ix e:Expr}{xj x:Ex}{pn c9 pos:Pos}:c.N[i]?=some y->lJ c.sc y=true->bV y=true->R ix xj->R e x->qF (λ_ _=>true) e=false->kD P R RS c (.Assign [.Subscript (.Name y pn) ix c9] e pos) (.item i xj x)
 |aug {y:Str}{i:Nat}{op:Operator}{e:Expr}{x:Ex}{py pos:Pos}:c.N[i]?=some y->fJ c y=true->R e x->kD P R RS c (.AugAssign (.Name y py) op e pos) (.aug i op x)
 |ite {t:Expr}{a b:List Stmt}{xt:Ex}{xa xb:List Sm}{pos:Pos}:R t xt->pI (Ny P R RS c) RS a xa->pI (Ny P R RS c) RS b xb->kD P R RS c (.If t a b pos) (.ite xt xa xb)
 |loop {tg iter:Expr}{T:Tg}{it:Ex}{b:List Stmt}{xb:List Sm}{pos:Pos}:yI c tg T->mZ P R c iter it->pI (Ny P R RS c) RS b xb->kD P R RS c (.For tg iter b [] pos) (.loop T it xb)
 |while {t:Expr}{xt:Ex}{b:List Stmt}{xb:List Sm}{pos:Pos}:R t xt->pI (Ny P R RS c) RS b xb->kD P R RS c (.While t b [] pos) (.while xt xb)
 |raise {x:Str}{ci:Nat}{m:Expr}{xm:Ex}{np bh pos:Pos}:P.cls[ci]?=some x->c.sc.names.lookup x=some .globalImplicit->R m xm->kD P R RS c (.Raise (some (.Call (.Name x np) [m] [] bh)) none pos) (.raise ci xm)
 |stuck {s:Stmt}:kD P R RS c s .stuck
theorem ak{a b:Bool}(h:(a&&b)=true):a=true/\b=true:=by cases a <;> cases b <;> first |exact⟨rfl,rfl⟩ |cases h
theorem dec{p:Prop} [Decidable p] (h:decide p=true):p:=kA h
theorem pJ{b:Bool}(h:(!b)=true):b=false:=by cases b <;> first |rfl |cases h
theorem tY{α:Type}{l:List α}(h:l.isEmpty=true):l=[]:=by cases l with |nil=>rfl |cons _ _=>cases h
noncomputable def Wy(c:Ct)(x:Str):Bool:=decide (c.sc.names.lookup x=some .globalImplicit)
def CZ(P:Pg)(c:Ct)(x:Str):Bool:=P.bn.contains x&&Wy c x
theorem bw{P:Pg}{c:Ct}{x:Str}(h:CZ P c x=true):x∈P.bn/\c.sc.names.lookup x=some .globalImplicit:=⟨AO.mp (ak h).1,dec (ak h).2⟩
noncomputable def nm(c:Ct)(i:Nat):Str:=c.N.getD i Str.empty
def yJ(c:Ct)(i:Nat):Bool:=decide (c.N[i]?=some (nm c i))&&(lJ c.sc (nm c i)&&bV (nm c i))
def Zd(c:Ct)(i:Nat):Bool:=decide (c.N[i]?=some (nm c i))&&fJ c (nm c i)
theorem kF{c:Ct}{i:Nat}(h:yJ c i=true):c.N[i]?=some (nm c i)/\lJ c.sc (nm c i)=true/\bV (nm c i)=true:=⟨dec (ak h).1,(ak (ak h).2).1,(ak (ak h).2).2⟩
def bang(x:Str):Str:=⟨x.cps.push 33⟩
def Ze(n:Nat):Str:=⟨(List.replicate n 33).toArray⟩
noncomputable def iD(scope:Scope):List Str:=scope.names.filterMap λy=>if y.2==.local then some y.1 else none
def pK(N:List Str)(scope:Scope):List Str:=(N.map λy=>if scope.names.lookup y==some .local then bang y else y)++iD scope++[Ze (N.length+1)]
noncomputable def pL:List Str->Bool
 | []=>true
 |x::l=>!l.contains x&&pL l
theorem fK:∀{l:List Str},pL l=true->l.Nodup
 | [],_=>u4
 |x::l,h=>by
  have h:(!l.contains x&&pL l)=true:=h;refine hV.mpr ⟨λhm=>?_,fK (ak h).2⟩
  have:=(ak h).1;rw[AO.mpr hm]at this;cases this
noncomputable def kids(e:Expr):List Expr:=match e with
 |.BoolOp _ vs _=>vs
 |.BinOp a _ b _=>[a,b]
 |.UnaryOp _ a _=>[a]
 |.Lambda _ b _ _=>[b]
 |.IfExp t a b _=>[t,a,b]
 |.ListComp e gs _ _=>e::gs.flatMap λg=>g.target::g.iter::g.ifs
 |.DictComp e v gs _ _=>e::v::gs.flatMap λg=>g.target::g.iter::g.ifs
 |.Compare a _ bs _=>a::bs
 |.Call f as ks _=>f::(as++ks.map (·.value))
 |.FormattedValue v _ _ _=>[v]
 |.JoinedStr vs _=>vs
 |.Attribute v _ _=>[v]
 |.Subscript a b _=>[a,b]
 |.List es _=>es
 |.Tuple es _ _=>es
 |.Slice a b s p=>[a.getD (.Name Str.empty p),b.getD (.Name Str.empty p),s.getD (.Name Str.empty p)]
 |_=>[]
def kid(e:Expr)(i:Nat):Expr:=(kids e).getD i e
noncomputable def tZ(e:Expr):Nat:=match e with |.Constant _ k _=>k |.Tuple _ k _=>k |_=>0
noncomputable def gA(e:Expr):Scope:=match e with |.Lambda _ _ s _=>s |.ListComp _ _ s _=>s |.DictComp _ _ _ s _=>s |_=>aC (.Pass e.pos)
noncomputable def Uq(e:Expr):Arguments:=match e with |.Lambda a _ _ _=>a |_=>default
def opT(e:Expr):Operator:=match e with |.BinOp _ o _ _=>o |_=>.Add
noncomputable def kwT(e:Expr):Pos:=match e with |.Call _ _ ks _=>(match ks with |k::_=>k.pos |_=>e.pos) |_=>e.pos
def jO(c:Ct)(t:Expr):Ct:=⟨pK c.N (gA t),gA t,false,Str.empty⟩
def Ur(c:Ct)(t:Expr):Ct:=⟨c.N,gA t,false,Str.empty⟩
noncomputable def uc(P:Pg)(i:Nat):Str:=match P.fn[i]? with |some fi=>fi.name |none=>Str.empty
theorem zS{P:Pg}{i:Nat}(h:P.fn[i]?.isSome=true):∃fi,P.fn[i]?=some fi/\fi.name=uc P i:=by
 unfold uc;cases e:P.fn[i]? with
 |none=>rw[e]at h;cases h
 |some g=>exact⟨g,rfl,rfl⟩
section
variable{R:Expr->Ex->Prop}{s:Ex->Expr->Expr}{f:Ex->Expr->Bool}(hf:∀{x t},f x t=true->R (s x t) x)
include hf
noncomputable def pM(s:Ex->Expr->Expr)(t:Expr):Nat->List Ex->List Expr
 |_,[]=>[]
 |i,x::xs=>s x (kid t i)::pM s t (i+1) xs
noncomputable def JX(f:Ex->Expr->Bool)(t:Expr):Nat->List Ex->Bool
 |_,[]=>true
 |i,x::xs=>f x (kid t i)&&JX f t (i+1) xs
theorem iE{i:Nat}{xs:List Ex}(h:JX f t i xs=true):jF R (pM s t i xs) xs:=by
 induction xs generalizing i with
 |nil=>exact .nil
 |cons x xs ih=>exact .cons (hf (ak h).1) (ih (ak h).2)
noncomputable def Us(s:Ex->Expr->Expr)(t:Expr)(x:Option Ex):Option Expr:=match x with |some x=>some (s x t) |none=>none
noncomputable def Ut(f:Ex->Expr->Bool)(t:Expr)(x:Option Ex):Bool:=match x with |some x=>f x t |none=>true
theorem HF{x:Option Ex}(h:Ut f t x=true):CT R (Us s t x) x:=by
 cases x with
 |none=>exact .none
 |some x=>exact .some (hf h)
noncomputable def Nz(s:Ex->Expr->Expr)(t:Expr)(x:Option Ex):List Expr:=match x with |some x=>[s x t] |none=>[]
theorem yK{x:Option Ex}(h:Ut f t x=true):pG R (Nz s t x) x:=by
 cases x with
 |none=>exact .none
 |some x=>exact .some (hf h)
noncomputable def Uu(x:Ex):Str:=match x with |.val d=>(match d with |.str y=>y |_=>Str.empty) |_=>Str.empty
noncomputable def Zf(x:Ex):Bool:=match x with |.val d=>(match d with |.str _=>true |_=>false) |_=>false
omit hf in
theorem NB{x:Ex}(h:Zf x=true):x=.val (.str (Uu x)):=by
 cases x
 case val d=>cases d <;> first |rfl |exact nt h
 all_goals exact nt h
def Uv(s:Ex->Expr->Expr)(t:Expr):Nat->List (Bool×Ex)->List Expr
 |_,[]=>[]
 |i,p::l=>(if p.1=true then .FormattedValue (s p.2 (kid (kid t i) 0)) (-1) none (kid t i).pos else .Constant (.str (Uu p.2)) (tZ (kid t i)) (kid t i).pos)::Uv s t (i+1) l
def okF(f:Ex->Expr->Bool)(t:Expr):Nat->List (Bool×Ex)->Bool
 |_,[]=>true
 |i,p::l=>(if p.1=true then f p.2 (kid (kid t i) 0)else Zf p.2)&&okF f t (i+1) l
theorem Uw{i:Nat}{l:List (Bool×Ex)}(h:okF f t i l=true):tW R (Uv s t i l) l:=by
 induction l generalizing i with
 |nil=>exact .nil
 |cons p l ih=>
  obtain⟨b,x⟩:=p;obtain⟨h1,h2⟩:=ak h;cases b with
  |true=>exact .fmt (hf h1) (ih h2)
  |false=>have e:=NB h1;have q:=tW.con (y:=Uu x) (j:=tZ (kid t i)) (p:=(kid t i).pos) (ih (i:=i+1) h2);rw[<- e]at q;exact q
end
noncomputable def Dc(s:Ex->Expr->Expr)(x:Ex)(t:Expr):Expr:=match x with
 |.dP a=>.Call (.Name "range" (kid t 0).pos) [s a (kid t 1)] [] t.pos
 |.fG a b=>.Call (.Name "range" (kid t 0).pos) [s a (kid t 1),s b (kid t 2)] [] t.pos
 |.zip a b=>.Call (.Name "zip" (kid t 0).pos) [s a (kid t 1),s b (kid t 2)] [] t.pos
 |x=>s x t
def Wz(P:Pg)(c:Ct)(f:Ex->Expr->Bool)(x:Ex)(t:Expr):Bool:=match x with
 |.dP a=>CZ P c "range" && f a (kid t 1)
 |.fG a b=>CZ P c "range" && (f a (kid t 1)&&f b (kid t 2))
 |.zip a b=>CZ P c "zip" && (f a (kid t 1)&&f b (kid t 2))
 |x=>f x t
theorem pN{P:Pg}{R:Expr->Ex->Prop}{s:Ex->Expr->Expr}{f:Ex->Expr->Bool}(hf:∀{x t},f x t=true->R (s x t) x){c:Ct}{x:Ex}{t:Expr}(h:Wz P c f x t=true):mZ P R c (Dc s x t) x:=by
 cases x
 case dP a=>exact .dP (hf (ak h).2) (bw (ak h).1).1 (bw (ak h).1).2
 case fG a b=>exact .fG (hf (ak (ak h).2).1) (hf (ak (ak h).2).2) (bw (ak h).1).1 (bw (ak h).1).2
 case zip a b=>exact .zip (hf (ak (ak h).2).1) (hf (ak (ak h).2).2) (bw (ak h).1).1 (bw (ak h).1).2
 all_goals exact .seq (hf h)
noncomputable def Ux(t:Expr):Nat->List String->List Expr
 |_,[]=>[]
 |i,n::ns=>.Name (Str.ofString n) (kid t i).pos::Ux t (i+1) ns
def okY(P:Pg)(c:Ct):List String->Bool
 | []=>true
 |n::ns=>(qE.contains n&&CZ P c (Str.ofString n))&&okY P c ns
theorem Uy{P:Pg}{c:Ct}{t:Expr}{i:Nat}{ns:List String}(h:okY P c ns=true):yH P c (Ux t i ns) ns:=by
 induction ns generalizing i with
 |nil=>exact .nil
 |cons n ns ih=>exact .cons (bw (ak (ak h).1).2).1 (bw (ak (ak h).1).2).2 rfl (AO.mp (ak (ak h).1).1) (ih (ak h).2)
noncomputable def Uz(c:Ct)(t:Expr):Nat->List Nat->List Expr
 |_,[]=>[]
 |j,i::is=>.Name (nm c i) (kid t j).pos::Uz c t (j+1) is
def okN(c:Ct):List Nat->Bool
 | []=>true
 |i::is=>Zd c i&&okN c is
theorem UG{c:Ct}{t:Expr}{j:Nat}{is:List Nat}(h:okN c is=true):CQ c (Uz c t j is) is:=by
 induction is generalizing j with
 |nil=>exact .nil
 |cons i is ih=>exact .cons (dec (ak (ak h).1).1) (ak (ak h).1).2 (ih (ak h).2)
def Dd(c:Ct)(T:Tg)(t:Expr):Expr:=match T with
 |.nm i=>.Name (nm c i) t.pos
 |.tp is=>.Tuple (Uz c t 0 is) (tZ t) t.pos
theorem pO{c:Ct}{T:Tg}{t:Expr}(h:okN c T.ix=true):yI c (Dd c T t) T:=by
 cases T with
 |nm i=>exact .nm (dec (ak (ak h).1).1) (ak (ak h).1).2
 |tp is=>exact .tp (UG h)
noncomputable def UJ(a b:D):Bool:=match a with |.int i=>(match b with |.int j=>decide (i=j) |_=>false) |_=>false
theorem NC(h:UJ a b=true):a=b:=by
 cases a with
 |int i=>cases b with
  |int j=>exact congrArg D.int (dec (show decide (i=j)=true from h))
  |_=>exact nt h
 |_=>exact nt h
def ctB(y:Str)(d:D):List (Str×D)->Bool
 | []=>false
 |p::l=>(decide (p.1=y)&&UJ p.2 d)||ctB y d l
theorem UL{y:Str}{d:D}{l:List (Str×D)}(h:ctB y d l=true):(y,d)∈l:=by
 induction l with
 |nil=>cases h
 |cons p l ih=>
  obtain⟨x,d'⟩:=p;have hh:((decide (x=y)&&UJ d' d)||ctB y d l)=true:=h
  rcases AM _ _▸hh with h |h
  . obtain⟨h1,h2⟩:=ak h;obtain rfl:=dec h1;rw[NC h2];exact dL
  . exact dA _ (ih h)
noncomputable def cstD(d:D):Const:=match d with |.int i=>.int i |.bl b=>.bool b |.str y=>.str y |_=>.none
noncomputable def cstK(d:D):Bool:=match d with |.int _=>true |.bl _=>true |.str _=>true |.non=>true |_=>false
def HJ(d:D)(t:Expr):Expr:=match zQ t with |some y=>.Name y t.pos |none=>.Constant (cstD d) (tZ t) t.pos
def okV(P:Pg)(c:Ct)(d:D)(t:Expr):Bool:=match zQ t with |some y=>Wy c y&&ctB y d P.ct |none=>cstK d
theorem UT{P:Pg}{R:Ct->Expr->Ex->Prop}{c:Ct}{d:D}{t:Expr}(h:okV P c d t=true):fW P R c (HJ d t) (.val d):=by
 unfold okV at h;unfold HJ;cases e:zQ t with
 |some y=>rw[e]at h;exact .glob (UL (ak h).2) (dec (ak h).1)
 |none=>
  rw[e]at h;cases d with
  |int i=>exact .int
  |bl i=>exact .bool
  |str i=>exact .str
  |non=>exact .none
  |_=>exact nt h
def blK(c:Ct)(t:Expr)(k:Nat):Bool:=pF c.sc (gA t)&&(iC c.N (pK c.N (gA t)) (gA t) k&&pL (pK c.N (gA t)))
def Zg(c:Ct)(k:Nat)(T:Tg):Bool:=T.ix.all λi=>decide (c.N.length<=i/\i<c.N.length+k)
theorem ud{c:Ct}{k:Nat}{T:Tg}(h:Zg c k T=true):∀i∈T.ix,c.N.length<=i/\i<c.N.length+k:=λi hi=>dec (eP.mp h i hi)
def o1(x:Option Ex):Nat:=match x with |some _=>1 |none=>0
def Zh(P:Pg)(i ir:Nat):Bool:=match P.fn[i]? with |some fi=>HD fi ir P.kt |none=>false
def Qd(e:Expr):Bool:=match e with |.Call f es ks _=>(zQ f).isSome&&(!es.isEmpty&&ks.isEmpty) |_=>false
theorem wg{e:Expr}(h:Qd e=true):∃x p a es pos,e=.Call (.Name x p) (a::es) [] pos:=by
 cases e
 case Call f es ks pos=>
  obtain⟨h1,h2⟩:=ak (show ((zQ f).isSome&&(!es.isEmpty&&ks.isEmpty))=true from h);obtain⟨x,hx⟩:=Option.isSome_iff_exists.mp h1;obtain⟨p,rfl⟩:=pH hx;cases es with
  |nil=>cases (ak h2).1
  |cons a es=>rw[tY (ak h2).2];exact⟨x,p,a,es,pos,rfl⟩
 all_goals exact nt h
def UW(P:Pg)(s:Ct->Ex->Expr->Expr)(c:Ct)(x:Ex)(t:Expr):Expr:=match x with
 |.val d=>HJ d t
 |.slot i=>.Name (nm c i) t.pos
 |.bin op a b=>.BinOp (s c a (kid t 0)) op (s c b (kid t 1)) t.pos
 |.cmp op a b=>.Compare (s c a (kid t 0)) [op] [s c b (kid t 1)] t.pos
 |.chain a ops xs=>.Compare (s c a (kid t 0)) ops (pM (s c) t 1 xs) t.pos
 |.neg a=>.UnaryOp .USub (s c a (kid t 0)) t.pos
 |.not a=>.UnaryOp .Not (s c a (kid t 0)) t.pos
 |.and xs=>.BoolOp .And (pM (s c) t 0 xs) t.pos
 |.or xs=>.BoolOp .Or (pM (s c) t 0 xs) t.pos
 |.ite a b d=>.IfExp (s c a (kid t 0)) (s c b (kid t 1)) (s c d (kid t 2)) t.pos
 |.tup xs=>.Tuple (pM (s c) t 0 xs) (tZ t) t.pos
 |.lst xs=>.List (pM (s c) t 0 xs) t.pos
 |.ix a b=>.Subscript (s c a (kid t 0)) (s c b (kid t 1)) t.pos
 |.slice a lo hi=>.Subscript (s c a (kid t 0)) (.Slice (Us (s c) (kid (kid t 1) 0) lo) (Us (s c) (kid (kid t 1) 1) hi) none (kid t 1).pos) t.pos
 |.call i xs=>.Call (.Name (uc P i) (kid t 0).pos) (pM (s c) t 1 xs) [] t.pos
 |.blt b xs=>.Call (.Name (Y0 b).1 (kid t 0).pos) (pM (s c) t 1 xs) [] t.pos
 |.kL a n=>.Call (.Name "isinstance" (kid t 0).pos) [s c a (kid t 1),.Name (Str.ofString n) (kid t 2).pos] [] t.pos
 |.pB a ns=>.Call (.Name "isinstance" (kid t 0).pos) [s c a (kid t 1),.Tuple (Ux (kid t 2) 0 ns) (tZ (kid t 2)) (kid t 2).pos] [] t.pos
 |.comp _ _ T it co xe=>.ListComp (s (jO c t) xe (kid t 0)) [⟨Dd (jO c t) T (kid t 1),Dc (s c) it (kid t 2),Nz (s (jO c t)) (kid t 3) co,0⟩] (gA t) t.pos
 |.iA _ _ T it ks xv=>.DictComp (.Tuple (pM (s (jO c t)) (kid t 0) 0 ks) (tZ (kid t 0)) (kid t 0).pos) (s (jO c t) xv (kid t 1)) [⟨Dd (jO c t) T (kid t 2),Dc (s c) it (kid t 3),[],0⟩] (gA t) t.pos
 |.cT _ _ T1 qB c1 T it co xe=>.ListComp (s (jO c t) xe (kid t 0)) [⟨Dd (jO c t) T1 (kid t 1),Dc (s c) qB (kid t 2),Nz (s (jO c t)) (kid t 3) c1,0⟩,⟨Dd (jO c t) T (kid t (3+o1 c1)),Dc (s (jO c t)) it (kid t (4+o1 c1)),Nz (s (jO c t)) (kid t (5+o1 c1)) co,0⟩] (gA t) t.pos
 |.rev a=>.Subscript (s c a (kid t 0)) (.Slice none none (some (m1 (tZ (kid (kid (kid t 1) 2) 0)) (kid (kid (kid t 1) 2) 0).pos (kid (kid t 1) 2).pos)) (kid t 1).pos) t.pos
 |.emp=>.Dict [] [] t.pos
 |.peek xe=>s c xe t
 |.stk=>.BinOp (kid t 0) (opT t) (kid t 1) t.pos
 |.rJ a _=>.Call (.Name "isinstance" (kid t 0).pos) [s c a (kid t 1),.Name ((zQ (kid t 2)).getD Str.empty) (kid t 2).pos] [] t.pos
 |.lI i _ _ xb=>.Call (.Name (uc P i) (kid t 0).pos) [.Lambda (Uq (kid t 1)) (s (Ur c (kid t 1)) xb (kid (kid t 1) 0)) (gA (kid t 1)) (kid t 1).pos] [] t.pos
 |.iB a b=>.Call (.Name "list" (kid t 0).pos) [.Call (.Name "range" (kid (kid t 1) 0).pos) [s c a (kid (kid t 1) 1),s c b (kid (kid t 1) 2)] [] (kid t 1).pos] [] t.pos
 |.jl a=>.Call (.Name "sorted" (kid t 0).pos) [s c a (kid t 1)] [⟨some "reverse",.Constant (.bool true) (tZ (kid t 2)) (kid t 2).pos,kwT t⟩] t.pos
 |.kr l=>.JoinedStr (Uv (s c) t 0 l) t.pos
 |.append i x=>.Call (.Attribute (.Name (nm c i) (kid (kid t 0) 0).pos) "append" (kid t 0).pos) [s c x (kid t 1)] [] t.pos
 |.extend i x=>.Call (.Attribute (.Name (nm c i) (kid (kid t 0) 0).pos) "extend" (kid t 0).pos) [s c x (kid t 1)] [] t.pos
 |_=>t
noncomputable def lnB(t:Expr):Bool:=(kid t 0).pos.endLine==t.pos.line
def ok1(P:Pg)(s:Ct->Ex->Expr->Expr)(f:Ct->Ex->Expr->Bool)(c:Ct)(x:Ex)(t:Expr):Bool:=match x with
 |.val d=>okV P c d t
 |.slot i=>yJ c i
 |.bin _ a b=>f c a (kid t 0)&&f c b (kid t 1)
 |.cmp op a b=>f c a (kid t 0)&&(f c b (kid t 1)&&!behindInMarks op (s c b (kid t 1)))
 |.chain a ops xs=>f c a (kid t 0)&&(JX (f c) t 1 xs&&(!lastMarks ops (pM (s c) t 1 xs)&&(decide (2<=ops.length)&&decide (2<=xs.length))))
 |.neg a=>f c a (kid t 0)
 |.not a=>f c a (kid t 0)
 |.and xs=>JX (f c) t 0 xs
 |.or xs=>JX (f c) t 0 xs
 |.ite a b d=>f c a (kid t 0)&&(f c b (kid t 1)&&f c d (kid t 2))
 |.tup xs=>JX (f c) t 0 xs
 |.lst xs=>JX (f c) t 0 xs
 |.ix a b=>f c a (kid t 0)&&f c b (kid t 1)
 |.slice a lo hi=>f c a (kid t 0)&&(Ut (f c) (kid (kid t 1) 0) lo&&Ut (f c) (kid (kid t 1) 1) hi)
 |.call i xs=>P.fn[i]?.isSome&&(Wy c (uc P i)&&(JX (f c) t 1 xs&&!xs.isEmpty))
 |.blt b xs=>CZ P c (Y0 b).1&&(JX (f c) t 1 xs&&!xs.isEmpty)
 |.kL a n=>CZ P c "isinstance" && (f c a (kid t 1)&&(qE.contains n&&CZ P c (Str.ofString n)))
 |.pB a ns=>CZ P c "isinstance" && (f c a (kid t 1)&&(decide (ns.length<=100)&&okY P c ns))
 |.iA n k T it ks xv=>decide (n=c.N.length)&&(blK c t k&&(okN (jO c t) T.ix&&(Zg c k T&&(Wz P c (f c) it (kid t 3)&&(JX (f (jO c t)) (kid t 0) 0 ks&&f (jO c t) xv (kid t 1))))))
 |.comp n k T it co xe=>decide (n=c.N.length)&&(blK c t k&&(okN (jO c t) T.ix&&(Zg c k T&&(Wz P c (f c) it (kid t 2)&&(Ut (f (jO c t)) (kid t 3) co&&f (jO c t) xe (kid t 0))))))
 |.cT n k T1 qB c1 T it co xe=>decide (n=c.N.length)&&(blK c t k&&((okN (jO c t) T1.ix&&okN (jO c t) T.ix)&&((Zg c k T1&&Zg c k T)&&((Wz P c (f c) qB (kid t 2)&&Ut (f (jO c t)) (kid t 3) c1)&&((Wz P (jO c t) (f (jO c t)) it (kid t (4+o1 c1))&&Ut (f (jO c t)) (kid t (5+o1 c1)) co)&&f (jO c t) xe (kid t 0))))))
 |.rev a=>f c a (kid t 0)
 |.emp=>true
 |.peek xe=>Qd (s c xe t)&&f c xe t
 |.stk=>true
 |.rJ a l=>CZ P c "isinstance" && (f c a (kid t 1)&&(Wy c ((zQ (kid t 2)).getD Str.empty)&&decide (((zQ (kid t 2)).getD Str.empty,l)∈P.ups)))
 |.lI i ir ca xb=>P.fn[i]?.isSome&&((decide (ca=P.gU)&&Wy c (uc P i)||ca.isEmpty)&&((decide (c.q = "law")&&P.lam)&&(Zh P i ir&&(pF c.sc (gA (kid t 1))&&(CV (Uq (kid t 1)) (gA (kid t 1))&&f (Ur c (kid t 1)) xb (kid (kid t 1) 0))))))
 |.iB a b=>(CZ P c "range" && CZ P c "list")&&(f c a (kid (kid t 1) 1)&&f c b (kid (kid t 1) 2))
 |.jl a=>CZ P c "sorted" && f c a (kid t 1)
 |.kr l=>okF (f c) t 0 l
 |.append i x=>lnB t&&(yJ c i&&f c x (kid t 1))
 |.extend i x=>lnB t&&(yJ c i&&f c x (kid t 1))
 |_=>false
def kM(P:Pg):Nat->Ct->Ex->Expr->Expr
 | 0=>λ_ _ t=>t
 |n+1=>UW P (kM P n)
def uN(P:Pg):Nat->Ct->Ex->Expr->Bool
 | 0=>λ_ _ _=>false
 |n+1=>ok1 P (kM P n) (uN P n)
def Cm(P:Pg)(c:Ct)(e:Expr)(x:Ex):Prop:=∃n t,e=kM P n c x t/\uN P n c x t=true
theorem Cm.mk{P:Pg}{n:Nat}{c:Ct}{x:Ex}{t:Expr}(h:uN P n c x t=true):Cm P c (kM P n c x t) x:=⟨n,t,rfl,h⟩
theorem Cm.out(h:Cm P c e x):fW P (Cm P) c e x:=by
 obtain⟨n,t,rfl,h⟩:=h;cases n with
 |zero=>cases h
 |succ n=>
 replace h:ok1 P (kM P n) (uN P n) c x t=true:=h;show fW P (Cm P) c (UW P (kM P n) c x t) x;cases x
 case val d=>exact UT h
 case slot i=>exact .var (kF h).1 (kF h).2.1 (kF h).2.2
 case bin op a b=>exact .bin (.mk (ak h).1) (.mk (ak h).2)
 case cmp op a b=>exact .cmp (.mk (ak h).1) (.mk (ak (ak h).2).1) (pJ (ak (ak h).2).2)
 case chain a ops xs=>
  obtain⟨h1,h2⟩:=ak h;obtain⟨h3,h4⟩:=ak h2;obtain⟨h5,h6⟩:=ak h4;have l1:=dec (ak h6).1;have l2:=dec (ak h6).2
  match ops,l1,xs,l2,h3,h5 with
  |_::_::_,_,_::_::_,_,h3,h5=>exact .chain (.mk h1) (iE (R:=Cm P c) .mk h3) (pJ h5)
 case neg a=>exact .neg (.mk h)
 case not a=>exact .not (.mk h)
 case and xs=>exact .and (iE (R:=Cm P c) .mk h)
 case or xs=>exact .or (iE (R:=Cm P c) .mk h)
 case ite a b d=>exact .ite (.mk (ak h).1) (.mk (ak (ak h).2).1) (.mk (ak (ak h).2).2)
 case tup xs=>exact .tup (iE (R:=Cm P c) .mk h)
 case lst xs=>exact .lst (iE (R:=Cm P c) .mk h)
 case ix a b=>exact .ix (.mk (ak h).1) (.mk (ak h).2)
 case slice a lo hi=>exact .slice (.mk (ak h).1) (HF (R:=Cm P c) .mk (ak (ak h).2).1) (HF (R:=Cm P c) .mk (ak (ak h).2).2)
 case call i xs=>
  obtain⟨h1,h2⟩:=ak h;obtain⟨h3,h4⟩:=ak h2;obtain⟨fi,q1,q2⟩:=zS h1;cases xs with
  |nil=>cases (ak h4).2
  |cons x xs=>exact .call q1 q2 (dec h3) (iE (R:=Cm P c) .mk (ak h4).1)
 case blt b xs=>
  cases xs with
  |nil=>cases (ak (ak h).2).2
  |cons x xs=>exact .blt rfl (bw (ak h).1).1 (bw (ak h).1).2 (iE (R:=Cm P c) .mk (ak (ak h).2).1)
 case kL a n=>exact .kL (.mk (ak (ak h).2).1) (bw (ak h).1).1 (bw (ak h).1).2 (bw (ak (ak (ak h).2).2).2).1 (bw (ak (ak (ak h).2).2).2).2 rfl (AO.mp (ak (ak (ak h).2).2).1)
 case pB a ns=>exact .pB (.mk (ak (ak h).2).1) (bw (ak h).1).1 (bw (ak h).1).2 (dec (ak (ak (ak h).2).2).1) (Uy (ak (ak (ak h).2).2).2)
 case comp n' k T it co xe=>obtain⟨h1,a1⟩:=ak h;clear h;obtain⟨h2,a2⟩:=ak a1;obtain⟨h3,a3⟩:=ak a2;obtain⟨h4,a4⟩:=ak a3;obtain⟨h5,a5⟩:=ak a4;obtain rfl:=dec h1;exact .comp (ak h2).1 (ak (ak h2).2).1 (fK (ak (ak h2).2).2) (pO h3) (ud h4) (pN (R:=Cm P c) .mk h5) (yK (R:=Cm P (jO c t)) .mk (ak a5).1) (.mk (ak a5).2)
 case iA n' k T it ks xv=>obtain⟨h1,a1⟩:=ak h;clear h;obtain⟨h2,a2⟩:=ak a1;obtain⟨h3,a3⟩:=ak a2;obtain⟨h4,a4⟩:=ak a3;obtain⟨h5,a5⟩:=ak a4;obtain rfl:=dec h1;exact .iA (ak h2).1 (ak (ak h2).2).1 (fK (ak (ak h2).2).2) (pO h3) (ud h4) (pN (R:=Cm P c) .mk h5) (iE (R:=Cm P (jO c t)) .mk (ak a5).1) (.mk (ak a5).2)
 case cT n' k T1 qB c1 T it co xe=>obtain⟨h1,a1⟩:=ak h;clear h;obtain⟨h2,a2⟩:=ak a1;obtain⟨h3,a3⟩:=ak a2;obtain⟨h4,a4⟩:=ak a3;obtain⟨h5,a5⟩:=ak a4;obtain⟨h6,h7⟩:=ak a5;obtain rfl:=dec h1;exact .cT (ak h2).1 (ak (ak h2).2).1 (fK (ak (ak h2).2).2) (pO (ak h3).1) (pO (ak h3).2) (ud (ak h4).1) (ud (ak h4).2) (pN (R:=Cm P c) .mk (ak h5).1) (yK (R:=Cm P (jO c t)) .mk (ak h5).2) (pN (R:=Cm P (jO c t)) .mk (ak h6).1) (yK (R:=Cm P (jO c t)) .mk (ak h6).2) (.mk h7)
 case rev a=>exact .rev (.mk h)
 case emp=>exact .emp
 case peek xe=>have q:=Cm.mk (P:=P) (ak h).2;revert q;show Cm P c (kM P n c xe t) xe->fW P (Cm P) c (kM P n c xe t) (.peek xe);obtain⟨x,p,a,es,pos,e⟩:=wg (ak h).1;rw[e];exact .peek
 case stk=>exact .stk
 case rJ a l=>exact .rJ (.mk (ak (ak h).2).1) (bw (ak h).1).1 (bw (ak h).1).2 (dec (ak (ak (ak h).2).2).2) (dec (ak (ak (ak h).2).2).1)
 case lI i ir ca xb=>obtain⟨h1,k1⟩:=ak h;obtain⟨h2,k2⟩:=ak k1;obtain⟨h3,k3⟩:=ak k2;obtain⟨h5,k5⟩:=ak k3;obtain⟨fi,e1,e2⟩:=zS h1;unfold Zh at h5;rw[e1]at h5;exact .lI e1 e2 ((Bool.or_eq_true_iff.mp h2).imp (λh=>⟨dec (ak h).1,dec (ak h).2⟩) tY) (dec (ak h3).1) (ak h3).2 h5 (ak k5).1 (ak (ak k5).2).1 (.mk (ak (ak k5).2).2)
 case iB a b=>exact .iB (.mk (ak (ak h).2).1) (.mk (ak (ak h).2).2) (bw (ak (ak h).1).1).1 (bw (ak (ak h).1).1).2 (bw (ak (ak h).1).2).1 (bw (ak (ak h).1).2).2
 case jl a=>exact .jl (.mk (ak h).2) (bw (ak h).1).1 (bw (ak h).1).2
 case kr l=>exact .kr (Uw (R:=Cm P c) .mk h)
 case append i x=>exact .append (kF (ak (ak h).2).1).1 (kF (ak (ak h).2).1).2.1 (kF (ak (ak h).2).1).2.2 (.mk (ak (ak h).2).2) (ak h).1
 case extend i x=>exact .extend (kF (ak (ak h).2).1).1 (kF (ak (ak h).2).1).2.1 (kF (ak (ak h).2).1).2.2 (.mk (ak (ak h).2).2) (ak h).1
 all_goals exact nt h
abbrev zT (P:Pg) (c:Ct) (es:List Expr) (xs:List Ex):Prop:=jF (Cm P c) es xs
abbrev CmF (P:Pg) (c:Ct) (es:List Expr) (l:List (Bool×Ex)):Prop:=tW (Cm P c) es l
abbrev CmO (P:Pg) (c:Ct) (e:Option Expr) (x:Option Ex):Prop:=CT (Cm P c) e x
abbrev yL (P:Pg) (c:Ct) (es:List Expr) (x:Option Ex):Prop:=pG (Cm P c) es x
abbrev U0 (P:Pg) (c:Ct) (e:Expr) (x:Ex):Prop:=mZ P (Cm P c) c e x
noncomputable def ek(t:Stmt):List Expr:=match t with
 |.Return o p=>[o.getD (.Name Str.empty p)]
 |.Assign ts e _=>e::ts
 |.AugAssign a _ e _=>[a,e]
 |.For a b _ _ _=>[a,b]
 |.While a _ _ _=>[a]
 |.If a _ _ _=>[a]
 |.Raise o _ p=>[o.getD (.Name Str.empty p)]
 |.Expr e _=>[e]
 |_=>[]
def aX(t:Stmt)(i:Nat):Expr:=(ek t).getD i (.Name Str.empty t.pos)
noncomputable def NK(t:Stmt):List Stmt:=match t with |.For _ _ b _ _=>b |.While _ b _ _=>b |.If _ b _ _=>b |_=>[]
noncomputable def bd1(t:Stmt):List Stmt:=match t with |.If _ _ b _=>b |_=>[]
noncomputable def sg(l:List Stmt)(i:Nat):Stmt:=l.getD i (.Pass p0)
noncomputable def U1:Sm->Nat
 |.calls _ x _ _ _ _=>(match x with |.refs _ _ _ es=>es.length+1 |_=>0)
 |_=>0
def qG(fg:Sm->List Stmt->List Stmt)(fs:Sm->Stmt->Stmt):List Sm->List Stmt->List Stmt
 | [],_=>[]
 |x::xs,ss=>if 0<U1 x then fg x (ss.take (U1 x))++qG fg fs xs (ss.drop (U1 x))else fs x (sg ss 0)::qG fg fs xs ss.tail
def JZ(fg:Sm->List Stmt->Bool)(fs:Sm->Stmt->Bool):List Sm->List Stmt->Bool
 | [],_=>true
 |x::xs,ss=>if 0<U1 x then fg x (ss.take (U1 x))&&JZ fg fs xs (ss.drop (U1 x))else fs x (sg ss 0)&&JZ fg fs xs ss.tail
theorem U3{RG:List Stmt->Sm->Prop}{RS:Stmt->Sm->Prop}{sg':Sm->List Stmt->List Stmt}{kg:Sm->List Stmt->Bool}{ss':Sm->Stmt->Stmt}{ks:Sm->Stmt->Bool}(hg:∀{x ss},kg x ss=true->RG (sg' x ss) x)(hs:∀{x t},ks x t=true->RS (ss' x t) x){xs:List Sm}{ss:List Stmt}(h:JZ kg ks xs ss=true):pI RG RS (qG sg' ss' xs ss) xs:=by
 induction xs generalizing ss with
 |nil=>exact .nil
 |cons x xs ih=>
  unfold JZ at h;unfold qG;by_cases hx:0<U1 x
  .
   rw[gL hx]at h ⊢
   exact .grp (hg (ak h).1) (ih (ak h).2)
  .
   rw[hZ hx]at h ⊢
   exact .cons (hs (ak h).1) (ih (ak h).2)
noncomputable def Zi(e:Expr):Str:=(zQ e).getD Str.empty
def bvK(c:Ct)(sc:Scope)(x:Str):Bool:=pF c.sc sc&&(iC c.N (pK c.N sc) sc (iD sc).length&&(pL (pK c.N sc)&&(decide ((iD sc).idxOf x<(iD sc).length/\(pK c.N sc)[c.N.length+(iD sc).idxOf x]?=some x)&&fJ ⟨pK c.N sc,sc,false,Str.empty⟩ x)))
def U4(P:Pg)(m:Nat)(c:Ct)(e:Ex)(t:Expr):Lt:=⟨Uq t,kM P m (Ur c t) e (kid t 0),gA t,t.pos⟩
noncomputable def lamT(t:Expr):Expr:=.Call (.Name Str.empty p0) [t] [] p0
def U5(P:Pg)(m:Nat)(c:Ct)(i ir:Nat)(e:Ex)(t:Expr):Bool:=uN P (m+1) c (.lI i ir [] e) (lamT t)
def U6(P:Pg)(m:Nat)(c:Ct)(y:Str):List Ex->List Stmt->List Stmt
 | [],_=>[]
 |e::es,ss=>.Expr (.Call (.Attribute (.Name y (kid (kid (aX (sg ss 0) 0) 0) 0).pos) "append" (kid (aX (sg ss 0) 0) 0).pos) [(U4 P m c e (kid (aX (sg ss 0) 0) 1)).ex] [] (aX (sg ss 0) 0).pos) (sg ss 0).pos::U6 P m c y es ss.tail
def NP(P:Pg)(m:Nat)(c:Ct):List Ex->List Stmt->List Lt
 | [],_=>[]
 |e::es,ss=>U4 P m c e (kid (aX (sg ss 0) 0) 1)::NP P m c es ss.tail
def NQ(P:Pg)(m:Nat)(c:Ct)(i ir:Nat):List Ex->List Stmt->Bool
 | [],_=>true
 |e::es,ss=>(lnB (aX (sg ss 0) 0)&&U5 P m c i ir e (kid (aX (sg ss 0) 0) 1))&&NQ P m c i ir es ss.tail
theorem NR{P:Pg}{m:Nat}{c:Ct}{i ir:Nat}{y:Str}{es:List Ex}{ss:List Stmt}(h:NQ P m c i ir es ss=true):yz y (U6 P m c y es ss) (NP P m c es ss)/\mK (Cm P c) (uc P i) i ir P.gU (NP P m c es ss) es/\(NP P m c es ss).length=es.length:=by
 induction es generalizing ss with
 |nil=>exact⟨.nil,.nil,rfl⟩
 |cons e es ih=>obtain⟨h1,h2⟩:=ak h;obtain⟨q1,q2,q3⟩:=ih h2;exact⟨.cons (ak h1).1 q1,.cons (Cm.mk (n:=m+1) (ak h1).2) q2,congrArg (· + 1) q3⟩
def U7(P:Pg)(m:Nat)(c:Ct)(i:Nat)(y:Str)(op:CmpOp)(rhs:Ex)(t:Expr):Expr:=.Compare (.ListComp (.Call (.Name (uc P i) (kid (kid (kid t 0) 0) 0).pos) [.Name (Zi (kid (kid t 0) 1)) (kid (kid (kid t 0) 0) 1).pos] [] (kid (kid t 0) 0).pos) [⟨.Name (Zi (kid (kid t 0) 1)) (kid (kid t 0) 1).pos,.Name y (kid (kid t 0) 2).pos,[],0⟩] (gA (kid t 0)) (kid t 0).pos) [op] [kM P m c rhs (kid t 1)] t.pos
def cmK(P:Pg)(m:Nat)(c:Ct)(i:Nat)(op:CmpOp)(rhs:Ex)(t:Expr):Bool:=(bvK c (gA (kid t 0)) (Zi (kid (kid t 0) 1))&&(lJ (gA (kid t 0)) (Zi (kid (kid t 0) 1))&&(bV (Zi (kid (kid t 0) 1))&&decide ((gA (kid t 0)).names.lookup (uc P i)=some .globalImplicit))))&&(uN P m c rhs (kid t 1)&&!behindInMarks op (kM P m c rhs (kid t 1)))
def Zj(P:Pg)(m:Nat)(c:Ct)(i:Nat)(y:Str)(op:CmpOp)(rhs:Ex)(fs:Sm->Stmt->Stmt)(ret:Bool)(b:List Sm)(t:Stmt):Stmt:=match ret with
 |true=>.Return (some (U7 P m c i y op rhs (aX t 0))) t.pos
 |false=>.If (U7 P m c i y op rhs (aX t 0)) (match b with |x::_=>[fs x (sg (NK t) 0)] | []=>[]) [] t.pos
def U8(ks:Sm->Stmt->Bool)(ret:Bool)(b:List Sm)(t:Stmt):Bool:=match ret with
 |true=>b.isEmpty
 |false=>(match b with |x::l=>l.isEmpty&&ks x (sg (NK t) 0) | []=>false)
theorem NT{P:Pg}{m:Nat}{c:Ct}{i:Nat}{y:Str}{op:CmpOp}{rhs:Ex}{RS:Stmt->Sm->Prop}{fs:Sm->Stmt->Stmt}{ks:Sm->Stmt->Bool}(hs:∀{x t},ks x t=true->RS (fs x t) x){ret:Bool}{b:List Sm}{t:Stmt}(h:U8 ks ret b t=true):Nx RS (U7 P m c i y op rhs (aX t 0)) (Zj P m c i y op rhs fs ret b t) ret b:=by
 cases ret with
 |true=>rw[tY h];exact .ret
 |false=>cases b with
  |nil=>cases h
  |cons x l=>obtain⟨h1,h2⟩:=ak (show (l.isEmpty&&ks x (sg (NK t) 0))=true from h);rw[tY h1];exact .ite (hs h2)
def U9(P:Pg)(m:Nat)(fs:Sm->Stmt->Stmt)(c:Ct)(x:Sm)(ss:List Stmt):List Stmt:=match x with
 |.calls ic xr op rhs ret b=>(match xr with
  |.refs i _ _ es=>(match es with
   |e::es=>.Assign [.Name (nm c ic) (aX (sg ss 0) 1).pos] (.List [(U4 P m c e (kid (aX (sg ss 0) 0) 0)).ex] (aX (sg ss 0) 0).pos) (sg ss 0).pos::(U6 P m c (nm c ic) es ss.tail++[Zj P m c i (nm c ic) op rhs fs ret b (sg ss (es.length+1))])
   | []=>ss)
  |_=>ss)
 |_=>ss
def Va(P:Pg)(m:Nat)(ks:Sm->Stmt->Bool)(c:Ct)(x:Sm)(ss:List Stmt):Bool:=match x with
 |.calls ic xr op rhs ret b=>(match xr with
  |.refs i ir ca es=>(match es with
   |e::es=>decide (ca=P.gU)&&((Zd c ic&&yJ c ic)&&(U5 P m c i ir e (kid (aX (sg ss 0) 0) 0)&&(decide (es.length<900)&&(NQ P m c i ir es ss.tail&&(cmK P m c i op rhs (aX (sg ss (es.length+1)) 0)&&U8 ks ret b (sg ss (es.length+1)))))))
   | []=>false)
  |_=>false)
 |_=>false
theorem Vb{P:Pg}{m:Nat}{RS:Stmt->Sm->Prop}{fs:Sm->Stmt->Stmt}{ks:Sm->Stmt->Bool}(hs:∀{x t},ks x t=true->RS (fs x t) x){c:Ct}{x:Sm}{ss:List Stmt}(h:Va P m ks c x ss=true):Ny P (Cm P c) RS c (U9 P m fs c x ss) x:=by
 cases x
 case calls ic xr op rhs ret b=>
  cases xr
  case refs i ir ca es=>
   cases es with
   |nil=>cases h
   |cons e es=>
    obtain⟨h1,a1⟩:=ak (show (decide (ca=P.gU)&&((Zd c ic&&yJ c ic)&&(U5 P m c i ir e (kid (aX (sg ss 0) 0) 0)&&(decide (es.length<900)&&(NQ P m c i ir es ss.tail&&(cmK P m c i op rhs (aX (sg ss (es.length+1)) 0)&&U8 ks ret b (sg ss (es.length+1))))))))=true from h);clear h;obtain rfl:=dec h1;obtain⟨h2,a2⟩:=ak a1;obtain⟨h3,a3⟩:=ak a2;obtain⟨h4,a4⟩:=ak a3;obtain⟨h5,a5⟩:=ak a4;obtain⟨h6,h7⟩:=ak a5;obtain⟨q1,q2,q3⟩:=NR (y:=nm c ic) h5;obtain⟨k1,k2⟩:=ak (ak h6).1;obtain⟨k3,k4⟩:=ak (ak k1).2;exact .mk (dec (ak (ak h2).1).1) (ak (ak h2).1).2 (kF (ak h2).2).2.1 (kF (ak h2).2).2.2 q1 (.cons (Cm.mk (n:=m+1) h3) q2) (by rw[q3];exact dec h4)
     ⟨(dec (ak (ak k4).2).1).1,(ak k1).1,k3,fK (ak k4).1,(dec (ak (ak k4).2).1).2,(ak (ak k4).2).2,(ak k2).1,(ak (ak k2).2).1,dec (ak (ak k2).2).2⟩ (.mk (ak (ak h6).2).1) (pJ (ak (ak h6).2).2) (NT hs h7)
  all_goals exact nt h
 all_goals exact nt h
def Zm(P:Pg)(m:Nat)(fs:Sm->Stmt->Stmt)(c:Ct)(x:Sm)(t:Stmt):Stmt:=match x with
 |.ret x=>.Return (some (kM P (m+1) c x (aX t 0))) t.pos
 |.expr x=>.Expr (kM P (m+1) c x (aX t 0)) t.pos
 |.set i x=>.Assign [.Name (nm c i) (aX t 1).pos] (kM P (m+1) c x (aX t 0)) t.pos
 |.setC i x=>.Assign [.Name (nm c i) (aX t 1).pos] (kM P (m+1) c x (aX t 0)) t.pos
 |.item i xj x=>.Assign [.Subscript (.Name (nm c i) (kid (aX t 1) 0).pos) (kM P (m+1) c xj (kid (aX t 1) 1)) (aX t 1).pos] (kM P (m+1) c x (aX t 0)) t.pos
 |.aug i op x=>.AugAssign (.Name (nm c i) (aX t 0).pos) op (kM P (m+1) c x (aX t 1)) t.pos
 |.ite e a b=>.If (kM P (m+1) c e (aX t 0)) (qG (U9 P m fs c) fs a (NK t)) (qG (U9 P m fs c) fs b (bd1 t)) t.pos
 |.loop T it b=>.For (Dd c T (aX t 0)) (Dc (kM P (m+1) c) it (aX t 1)) (qG (U9 P m fs c) fs b (NK t)) [] t.pos
 |.while e b=>.While (kM P (m+1) c e (aX t 0)) (qG (U9 P m fs c) fs b (NK t)) [] t.pos
 |.raise i x=>.Raise (some (.Call (.Name (P.cls.getD i Str.empty) (kid (aX t 0) 0).pos) [kM P (m+1) c x (kid (aX t 0) 1)] [] (aX t 0).pos)) none t.pos
 |_=>t
def Zn(P:Pg)(m:Nat)(ks:Sm->Stmt->Bool)(c:Ct)(x:Sm)(t:Stmt):Bool:=match x with
 |.ret x=>uN P (m+1) c x (aX t 0)
 |.expr x=>uN P (m+1) c x (aX t 0)&&!qF (λ_ _=>true) (kM P (m+1) c x (aX t 0))
 |.set i x=>Zd c i&&(uN P (m+1) c x (aX t 0)&&!qF (λs p=>Nc c (nm c i) (aX t 1).pos p s) (kM P (m+1) c x (aX t 0)))
 |.setC i x=>decide (c.N[i]?=some (nm c i))&&(Nc c (nm c i) (aX t 1).pos (aX t 0).pos (gA (aX t 0))&&(uN P (m+1) c x (aX t 0)&&(match x with
  |.comp _ _ _ _ _ _=>true
  |.cT _ _ _ _ _ _ _ _ _=>true
  |_=>false)))
 |.item i xj x=>yJ c i&&(uN P (m+1) c xj (kid (aX t 1) 1)&&(uN P (m+1) c x (aX t 0)&&!qF (λ_ _=>true) (kM P (m+1) c x (aX t 0))))
 |.aug i _ x=>Zd c i&&uN P (m+1) c x (aX t 1)
 |.ite e a b=>uN P (m+1) c e (aX t 0)&&(JZ (Va P m ks c) ks a (NK t)&&JZ (Va P m ks c) ks b (bd1 t))
 |.loop T it b=>okN c T.ix&&(Wz P c (uN P (m+1) c) it (aX t 1)&&JZ (Va P m ks c) ks b (NK t))
 |.while e b=>uN P (m+1) c e (aX t 0)&&JZ (Va P m ks c) ks b (NK t)
 |.raise i x=>decide (P.cls[i]?=some (P.cls.getD i Str.empty))&&(Wy c (P.cls.getD i Str.empty)&&uN P (m+1) c x (kid (aX t 0) 1))
 |.stuck=>true
 |_=>false
def Qe(P:Pg)(m:Nat):Nat->Ct->Sm->Stmt->Stmt
 | 0=>λ_ _ t=>t
 |n+1=>λc=>Zm P m (Qe P m n c) c
def Qf(P:Pg)(m:Nat):Nat->Ct->Sm->Stmt->Bool
 | 0=>λ_ _ _=>false
 |n+1=>λc=>Zn P m (Qf P m n c) c
def DX(P:Pg)(c:Ct)(s:Stmt)(x:Sm):Prop:=∃m n t,s=Qe P m n c x t/\Qf P m n c x t=true
abbrev xu (P:Pg) (c:Ct) (ss:List Stmt) (xs:List Sm):Prop:=pI (Ny P (Cm P c) (DX P c) c) (DX P c) ss xs
theorem DX.mk{P:Pg}{m n:Nat}{c:Ct}{x:Sm}{t:Stmt}(h:Qf P m n c x t=true):DX P c (Qe P m n c x t) x:=⟨m,n,t,rfl,h⟩
theorem xu.mk{P:Pg}{m n:Nat}{c:Ct}{xs:List Sm}{ss:List Stmt}(h:JZ (Va P m (Qf P m n c) c) (Qf P m n c) xs ss=true):xu P c (qG (U9 P m (Qe P m n c) c) (Qe P m n c) xs ss) xs:=U3 (Vb .mk) .mk h
theorem noC{e:Expr}(h:(!qF (λ_ _=>true) e)=true):qF (λ_ _=>true) e=false:=pJ h
theorem DX.out{P:Pg}{c:Ct}{s:Stmt}{x:Sm}(h:DX P c s x):kD P (Cm P c) (DX P c) c s x:=by
 obtain⟨m,n,t,rfl,h⟩:=h;cases n with
 |zero=>cases h
 |succ n=>
 replace h:Zn P m (Qf P m n c) c x t=true:=h;show kD P (Cm P c) (DX P c) c (Zm P m (Qe P m n c) c x t) x;cases x
 case ret x=>exact .ret (.mk h)
 case expr x=>exact .expr (.mk (ak h).1) (noC (ak h).2)
 case set i x=>have w:=(ak (ak h).2).2;exact .set (dec (ak (ak h).1).1) (ak (ak h).1).2 (.mk (ak (ak h).2).1) (pJ w)
 case setC i x=>
  obtain⟨h1,h2⟩:=ak h;clear h;obtain⟨h3,h4⟩:=ak h2;obtain⟨h5,h6⟩:=ak h4;cases x
  case comp n' kk T it co xe=>exact .setC (dec h1) h3 (.mk h5)
  case cT n' kk T1 qB c1 T it co xe=>exact .Qc (dec h1) h3 (.mk h5)
  all_goals exact Bool.noConfusion (show false=true from h6)
 case item i xj x=>exact .item (kF (ak h).1).1 (kF (ak h).1).2.1 (kF (ak h).1).2.2 (.mk (ak (ak h).2).1) (.mk (ak (ak (ak h).2).2).1) (noC (ak (ak (ak h).2).2).2)
 case aug i op x=>exact .aug (dec (ak (ak h).1).1) (ak (ak h).1).2 (.mk (ak h).2)
 case ite e a b=>exact .ite (.mk (ak h).1) (xu.mk (ak (ak h).2).1) (xu.mk (ak (ak h).2).2)
 case loop T it b=>exact .loop (pO (ak h).1) (pN (R:=Cm P c) .mk (ak (ak h).2).1) (xu.mk (ak (ak h).2).2)
 case «while» e b=>exact .while (.mk (ak h).1) (xu.mk (ak h).2)
 case raise i x=>exact .raise (dec (ak h).1) (dec (ak (ak h).2).1) (.mk (ak (ak h).2).2)
 case stuck=>exact .stuck
 all_goals exact nt h
noncomputable def DY(e:Expr):Bool:=match e with
 |.Constant .. |.Name .. |.BinOp .. |.Compare .. |.UnaryOp .. |.BoolOp .. |.IfExp .. |.Tuple .. |.List .. |.Subscript .. |.Call .. |.JoinedStr .. |.ListComp .. |.Dict .. |.DictComp ..=>true
 |_=>false
theorem Cm.DY{P:Pg}{c:Ct}{e:Expr}{x:Ex}(h:Cm P c e x):DY e=true:=by
 obtain⟨n,t,rfl,h⟩:=h;cases n with
 |zero=>cases h
 |succ n=>
 replace h:ok1 P (kM P n) (uN P n) c x t=true:=h;show Ev.DY (UW P (kM P n) c x t)=true;cases x
 case val d=>show Ev.DY (HJ d t)=true;unfold HJ;split <;> rfl
 case peek xe=>obtain⟨x,p,a,es,pos,e⟩:=wg (ak h).1;show Ev.DY (kM P n c xe t)=true;rw[e];rfl
 all_goals first |rfl |exact nt h
section
theorem Cm.star(h:Cm P c e x)(es:List Expr):starEach (e::es) env=(false,eval e env)::starEach es env:=by have hs:=h.DY;cases e <;> first |rfl |exact Bool.noConfusion (show false=true from hs)
theorem jF.star(h:zT P c es xs):starEach es env=es.map λe=>(false,eval e env):=by
 induction es generalizing xs with
 |nil=>rfl
 |cons e es ih=>
  cases h with
  |cons h1 h2=>rw[h1.star,ih h2];rfl
theorem jF.plain(h:zT P c es xs):(backTo pos (starEach es env)).any (·.1)=false:=by
 rw[h.star];unfold backTo
 induction es generalizing xs with
 |nil=>rfl
 |cons e es ih=>
  cases h with
  |cons h1 h2=>rw[List.map_cons,List.map_cons,List.any_cons,ih h2];rfl
theorem Cm.folded(h:Cm P c e x)(y:Value):foldedSetIterable e env y=pure y:=by have hs:=h.DY;cases e <;> first |rfl |exact Bool.noConfusion (show false=true from hs)
theorem mZ.folded(h:U0 P c e x)(y:Value):foldedSetIterable e env y=pure y:=by
 cases h with
 |seq h=>exact h.folded y
 |dP _ _ _=>rfl
 |fG _ _ _ _=>rfl
 |zip _ _ _ _=>rfl
theorem Cm.NX(h:Cm P c e x):sM e:=by have hs:=h.DY;cases e <;> first |exact λ_ _=>rfl |exact Bool.noConfusion (show false=true from hs)
end
structure gW(P:Pg)(rn:Rn):Prop where
 e:∀{X:Cx}{c:Ct}{z:Z}{k:Nat}{x:Ex}{e:Expr}{g g':G}{r:R},aZ P k X c->z.K=X.K->Cm P c e x->rn.e z.bor k x g=some (r,g')->au X z e g r g'
 t:∀{X:Cx}{c:Ct}{z:Z}{k:Nat}{x:Ex}{e:Expr}{g g':G}{b:Bool},aZ P k X c->z.K=X.K->Cm P c e x->rn.t z.bor k x g=some (b,g')->cC X z e g b g'
 b:∀{X:Cx}{c:Ct}{z:Z}{k:Nat}{xs:List Sm}{jq:List Stmt}{g g':G}{f:Fl},aZ P k X c->c.df=true->z.K=X.K->xu P c jq xs->rn.b z.bor k xs g=some (f,g')->cH X z jq g f g'
 g:∀{X:Cx}{c:Ct}{z:Z}{k:Nat}{f ir:Nat}{l:Lt}{ls:List Lt}{es:List Ex}{fx v:Str}{scope:Scope}{N':List Str}{kb j:Nat}{fp vp cp:Pos}{g g':G}{r:R},aZ P k X c->z.K=X.K->mK (Cm P c) fx f ir P.gU (l::ls) es->Zc c fx scope N' v kb j->rn.e z.bor k (.refs f ir P.gU es) g=some (r,g')->
  ∃ds,r=.new ds/\(∃q cc,o9 X jd q cc)/\(∀m∈l::ls,aH X.env.scope m.scope/\dR m.params m.scope)/\dO (pg X z g jd N' (X.N.length+j) scope (.Call (.Name fx fp) [.Name v vp] [] cp)) (l::ls) ds
theorem dW(h:iC N N' scope k=true):Names N N' scope k:=by
 unfold iC at h;simp only[dS,eR,eP,An]at h;obtain⟨⟨h1,h2⟩,h3⟩:=h;refine⟨h1,λx e=>?_,λi x e hi=>?_⟩
 . rw[e]at h2;exact kA h2
 . have h4:=h3 i hi;rw[e]at h4;simp only[AM,dS,eR]at h4;exact h4
theorem eW(ct:aZ P k X c)(h:pF c.sc scope=true):aH X.env.scope scope:=by
 unfold pF at h;simp only[dS,eR,eP,AM]at h;obtain⟨h1,h2⟩:=h;refine⟨h1,λy hy=>(h2 y hy).1.1,λy hy e=>?_,λy hy e=>?_,λy hy e=>?_⟩
 . exact ((h2 y hy).1.2).elim (λq=>absurd e q) id
 . exact ((h2 y hy).2).elim (λq=>absurd e q) λq=>q.1
 . exact ((h2 y hy).2).elim (λq=>absurd e q) λq=>ct.fre _ q.2
theorem jG{X:Cx}{N':List Str}{scope:Scope}{b:Bk}{x:Str}:(X.blk N' scope b).env.scope.names.lookup x=(scope.names.lookup x).map λk=>if (k==NameKind.free&&X.env.scope.kind==.function&&X.env.kindOf x==some .cell)then NameKind.cell else k:=dJ
theorem aZ.blk{P:Pg}{k:Nat}{X:Cx}{c:Ct}{scope:Scope}{N':List Str}(ct:aZ P k X c)(hnd:N'.Nodup)(b:Bk):aZ P k (X.blk N' scope b) ⟨N',scope,false,Str.empty⟩:=by
 refine⟨rfl,hnd,λx e=>?_,λx e=>?_,λx e=>?_,λe=>absurd e ⋯,λx e=>?_,λe=>absurd e ⋯,ct.calm,rfl,ct.md,ct.room,λe=>absurd (show Str.empty=("law":Str)from e) ⋯⟩
 . have e':scope.names.lookup x=some .local:=e;rw[jG,e'];rfl
 . have e':scope.names.lookup x=some .globalImplicit:=e;show (X.blk N' scope b).env.scope.names.lookup x=_;rw[jG,e'];rfl
 .
  rw[jG];rcases e with e |e
  . have e':scope.names.lookup x=some .cell:=e;rw[e'];exact .inl rfl
  .
   have e':scope.names.lookup x=some .free:=e;rw[e',Cs];by_cases hq:(NameKind.free==NameKind.free&&X.env.scope.kind==.function&&X.env.kindOf x==some .cell)=true
   . rw[gL hq];exact .inl rfl
   . rw[hZ hq];exact .inr rfl
 .
  rcases e with e |e
  . cases e
  . have e':scope.names.lookup x=some .local:=e;show (scope.names.lookup x==some .local)=true;rw[e'];rfl
section
theorem bA(h:au X z e g r g'):au X z e g (norm r) g':=by
 cases r with
 |dat d=>exact h
 |new l=>exact oB h
 |var i=>exact h
theorem HN(h:au X z e g r g1)(hd:toD z.bor r g1=some (d,g')):au X z e g (.dat d) g':=by
 cases r with
 |dat d'=>cases hd;exact h
 |new l=>cases hd;exact oB h
 |var i=>
  have hd:(if i∈z.bor then none else match g1[i]? with |some (.own l)=>some (D.lst l,g1.set i (.dat (.lst l))) |_=>none)=some (d,g'):=hd
  split at hd
  . cases hd
  .
   rename_i hb;split at hd
   . rename_i l hg;cases hd;exact Bo h hg hb
   . cases hd
theorem aY(hS:gW P rn)(ct:aZ P k X c)(hK:z.K=X.K)(hc:Cm P c e x)(h:eH rn z.bor k x g=some (d,g')):au X z e g (.dat d) g':=by
 unfold eH at h;split at h
 . rename_i r g1 e1;exact HN (hS.e ct hK hc e1) h
 . cases h
theorem kG:∀(ds:List D),sW (ds.map R.dat)=some ds
 | []=>rfl
 |d::ds=>by
  show (match sW (ds.map R.dat)with |some ds=>some (d::ds) |none=>none)=_
  rw[kG ds]
theorem iF(hS:gW P rn)(ct:aZ P k X c)(hK:z.K=X.K):∀{es:List Expr}{xs:List Ex}{g g':G}{ds:List D},zT P c es xs->kB rn z.bor k xs g=some (ds,g')->cO X z es g (ds.map .dat) g'
 |_,_,_,_,_,.nil,h=>by cases h;exact fj
 |_,_,_,_,_,.cons h1 h2,h=>by
  unfold kB at h;split at h
  .
   rename_i d g1 e1;split at h
   . rename_i ds g2 e2;cases h;exact dM (aY hS ct hK h1 e1) (iF hS ct hK h2 e2) (h1.star _)
   . cases h
  . cases h
theorem kI(hS:gW P rn)(ct:aZ P k X c)(hK:z.K=X.K):∀{es:List Expr}{xs:List Ex}{g g':G}{rs:List R},zT P c es xs->argsR rn z.bor k xs g=some (rs,g')->cO X z es g rs g'
 |_,_,_,_,_,.nil,h=>by cases h;exact fj
 |_,_,_,_,_,.cons h1 h2,h=>by
  unfold argsR at h;split at h
  .
   rename_i r g1 e1;split at h
   .
    rename_i rs g2 e2;cases h;have q:=bA (hS.e ct hK h1 e1);have q2:=kI hS ct hK h2 e2;cases r with
    |dat d=>exact dM q q2 (h1.star _)
    |new l=>exact dM q q2 (h1.star _)
    |var i=>exact Fv q q2 (h1.star _)
   . cases h
  . cases h
theorem iN(h:argsR rn bor k [a,b] g=some (rs,g2)):∃r1 r2 g1,rn.e bor k a g=some (r1,g1)/\rn.e bor k b g1=some (r2,g2)/\rs=[norm r1,norm r2]:=by
 unfold argsR at h;split at h
 .
  rename_i r1 g1 e1;unfold argsR at h;split at h
  .
   rename_i rs' g3 e3;split at e3
   . rename_i r2 g4 e2;unfold argsR at e3;cases e3;cases h;exact⟨r1,r2,g1,e1,e2,rfl⟩
   . cases e3
  . cases h
 . cases h
theorem yM(hS:gW P rn)(ct:aZ P k X c)(hK:z.K=X.K):∀{bs:List Expr}{xs:List Ex}{ops:List CmpOp}{g g':G}{d1:D}{b:Bool},zT P c bs xs->DW rn z.bor k d1 ops xs g=some (b,g')->tE X z d1 ops bs g b g'
 |_,_,[],_,_,_,_,.nil,h=>by cases h
 |_,_,[_],_,_,_,_,.nil,h=>by unfold DW at h;cases h
 |_,_,_::_::_,_,_,_,_,.nil,h=>by unfold DW at h;cases h
 |_,_,[],_,_,_,_,.cons _ _,h=>by unfold DW at h;cases h
 |_,_,[op],_,_,d1,_,.cons h1 .nil,h=>by
  unfold DW at h;split at h
  .
   rename_i d2 g1 e1;split at h
   . rename_i b e2;cases h;exact .last (aY hS ct hK h1 e1) (jE hK ct.room e2)
   . cases h
  . cases h
 |_,_,op::op'::ops,_,_,d1,_,.cons h1 .nil,h=>by unfold DW at h;cases h
 |_,_,[op],_,_,d1,_,.cons h1 (.cons h2 h3),h=>by unfold DW at h;cases h
 |_,_,op::op'::ops,_,_,d1,_,.cons h1 (.cons h2 h3),h=>by
  unfold DW at h;split at h
  .
   rename_i d2 g1 e1;split at h
   . rename_i e2;exact .link (aY hS ct hK h1 e1) (jE hK ct.room e2) (yM hS ct hK (.cons h2 h3) h)
   . rename_i e2;cases h;exact .stop (aY hS ct hK h1 e1) (jE hK ct.room e2)
   . cases h
  . cases h
theorem lK(hS:gW P rn)(ct:aZ P k X c)(hK:z.K=X.K):∀{es:List Expr}{l:List (Bool×Ex)}{out r:Str}{g g':G},CmF P c es l->uM rn z.bor k out l g=some (r,g')->vA X z out es g r g'
 |_,_,_,_,_,_,.nil,h=>by cases h;exact .nil
 |_,_,_,_,_,_,.con h1,h=>by
  unfold uM at h;split at h
  . rename_i hl;exact .con hl (lK hS ct hK h1 h)
  . cases h
 |_,_,_,_,_,_,.fmt h1 h2,h=>by
  unfold uM at h;split at h
  .
   rename_i i g1 e1;split at h
   . rename_i hl;exact .int (aY hS ct hK h1 e1) hl.1 hl.2 (lK hS ct hK h2 h)
   . cases h
  . cases h
variable{pos:Pos}
theorem zU(hS:gW P rn)(ct:aZ P k X c)(hK:z.K=X.K):∀{es:List Expr}{xs:List Ex}{g g':G}{r:R},zT P c es xs->Hu rn z.bor k xs g=some (r,g')->au X z (.BoolOp .And es pos) g r g'
 |_,_,_,_,_,.nil,h=>by cases h
 |_,_,_,_,_,.cons h1 .nil,h=>Ft (hS.e ct hK h1 h)
 |_,_,_,_,_,.cons h1 (.cons h2 h3),h=>by
  unfold Hu at h;split at h
  . rename_i g1 e1;exact K3 (hS.e ct hK h1 e1) (zU hS ct hK (.cons h2 h3) h)
  . rename_i g1 e1;cases h;exact K1 (hS.e ct hK h1 e1)
  . cases h
theorem HQ(hS:gW P rn)(ct:aZ P k X c)(hK:z.K=X.K):∀{es:List Expr}{xs:List Ex}{g g':G}{r:R},zT P c es xs->YX rn z.bor k xs g=some (r,g')->au X z (.BoolOp .Or es pos) g r g'
 |_,_,_,_,_,.nil,h=>by cases h
 |_,_,_,_,_,.cons h1 .nil,h=>Ft (hS.e ct hK h1 h)
 |_,_,_,_,_,.cons h1 (.cons h2 h3),h=>by
  unfold YX at h;split at h
  . rename_i g1 e1;exact RQ (hS.e ct hK h1 e1) (HQ hS ct hK (.cons h2 h3) h)
  . rename_i g1 e1;cases h;exact RP (hS.e ct hK h1 e1)
  . cases h
theorem wj(hS:gW P rn)(ct:aZ P k X c)(hK:z.K=X.K):∀{es:List Expr}{xs:List Ex}{g g':G}{b:Bool},zT P c es xs->vY rn z.bor k xs g=some (b,g')->mV X z (.BoolOp .And es pos) g b g'
 |_,_,_,_,_,.nil,h=>by cases h
 |_,_,_,_,_,.cons h1 .nil,h=>KS (hS.t ct hK h1 h)
 |_,_,_,_,_,.cons h1 (.cons h2 h3),h=>by
  unfold vY at h;split at h
  . rename_i g1 e1;exact KZ (hS.t ct hK h1 e1) (wj hS ct hK (.cons h2 h3) h)
  . rename_i g1 e1;cases h;exact KY (hS.t ct hK h1 e1)
  . cases h
theorem zV(hS:gW P rn)(ct:aZ P k X c)(hK:z.K=X.K):∀{es:List Expr}{xs:List Ex}{g g':G}{b:Bool},zT P c es xs->Hv rn z.bor k xs g=some (b,g')->mV X z (.BoolOp .Or es pos) g b g'
 |_,_,_,_,_,.nil,h=>by cases h
 |_,_,_,_,_,.cons h1 .nil,h=>RL (hS.t ct hK h1 h)
 |_,_,_,_,_,.cons h1 (.cons h2 h3),h=>by
  unfold Hv at h;split at h
  . rename_i g1 e1;exact RN (hS.t ct hK h1 e1) (zV hS ct hK (.cons h2 h3) h)
  . rename_i g1 e1;cases h;exact RM (hS.t ct hK h1 e1)
  . cases h
theorem wk(hS:gW P rn)(ct:aZ P k X c)(hK:z.K=X.K)(hc:CmO P c e x)(h:vZ rn z.bor k x g=some (o,g')):tF X z e g o g':=by
 cases hc with
 |none=>cases h;exact BG
 |@some e' x' hc=>
  have h:(match eH rn z.bor k x' g with |some (.int i,g1)=>some (some i,g1) |_=>none)=some (o,g'):=h
  split at h
  . rename_i e1;cases h;exact BJ (aY hS ct hK hc e1)
  . cases h
theorem HR(ct:aZ P k X c)(h:c.sc.names.lookup x=some .globalImplicit):Gl X x:=ct.jD x h
theorem lM(hS:gW P rn)(ct:aZ P k X c)(hK:z.K=X.K)(htp:tp=true->∃es k pos,tg=.Tuple es k pos)(hc:U0 P c iter it)(h:fV rn z.bor k tp it g=some (aj,g')):cX X z tg iter g aj g':=by
 cases hc with
 |zip ha ha2 hb hg=>
  unfold fV at h;dsimp only at h;split at h
  .
   rename_i ht;obtain⟨es,k0,pos,rfl⟩:=htp ht;split at h
   .
    rename_i d1 d2 g1 e1;split at h
    .
     rename_i l m e2 e3;split at h
     . rename_i e4;cases h;exact TF hK (iF hS ct hK (.cons ha (.cons ha2 .nil)) e1) e2 e3 e4 (HR ct hg) (ct.md.bn _ hb) (ha.star _) (by rw[ha2.star];rfl)
     . cases h
    . cases h
   . cases h
  . cases h
 |dP ha hb hg=>
  unfold fV at h;dsimp only at h;split at h
  .
   rename_i j g1 e1;split at h
   . rename_i hj;cases h;simp only[JV,dS,eR]at hj;exact Lg (dM (aY hS ct hK ha e1) fj (ha.star _)) (HR ct hg) (ct.md.bn _ hb) (by rw[ha.star];rfl) hj.1 hj.2
   . cases h
  . cases h
 |fG ha hb' hb hg=>
  unfold fV at h;dsimp only at h;split at h
  .
   rename_i c0 g1 e1;split at h
   .
    rename_i j g2 e2;split at h
    . rename_i hj;cases h;simp only[JV,dS,eR]at hj;exact Lh (dM (aY hS ct hK ha e1) (dM (aY hS ct hK hb' e2) fj (hb'.star _)) (ha.star _)) (HR ct hg) (ct.md.bn _ hb) (by rw[ha.star,hb'.star];rfl) (by rw[hb'.star];rfl) ⟨hj.1.1,hj.1.2,hj.2.1,hj.2.2⟩
    . cases h
   . cases h
  . cases h
 |seq hc=>
  have h':(match eH rn z.bor k it g with |some (.tup l,g1)=>some (l,g1) |some (.lst l,g1)=>some (l,g1) |some (.fix l,g1)=>some (l,g1) |_=>none)=some (aj,g'):=by cases hc.out <;> exact h
  split at h'
  . rename_i e1;cases h';exact SJ hK (aY hS ct hK hc e1)
  . rename_i e1;cases h';exact SM (aY hS ct hK hc e1)
  . rename_i e1;cases h';exact SN hK (aY hS ct hK hc e1)
  . cases h'
theorem uf(hS:gW P rn)(ct:aZ P k X c)(hK:z.K=X.K)(hc:yL P c ifs co)(h:P8 rn z.bor k co g=some (b,g')):cP X z ifs g b g':=by
 cases hc with
 |none=>cases h;exact Li
 |some hc=>exact Lj (hS.t ct hK hc h)
theorem rM(h:yI c tg T):T.iZ=true->∃es k pos,tg=.Tuple es k pos:=by
 cases h with
 |nm _ _=>intro e;cases e
 |tp _=>intro _;exact⟨_,_,_,rfl⟩
theorem Vc(ct:aZ P k X c)(h:CQ c es is):j5 X es is:=by
 induction h with
 |nil=>exact .nil
 |cons h1 h2 _ ih=>exact .cons (ct.nm h1 h2) ih
theorem rO(ct:aZ P k X c)(hK:z.K=X.K)(h:yI c tg T)(hb:∀i∈T.ix,i∉z.bor):eu X z tg T:=by
 cases h with
 |nm h1 h2=>exact Yk (ct.nm h1 h2) (hb _ (i6.mpr rfl))
 |tp h1=>exact Yl ct.calm hK (Vc ct h1) hb
theorem ug(hS:gW P rn){Xb:Bk->Cx}{cb:Ct}(Zo:∀b,aZ P k (Xb b) cb)(P1:∀b,z.K=(Xb b).K){T:Tg}{last:Nat}{ifs:List Expr}{co:Option Ex}{bI:Expr}{xe:Ex}(hi:yL P cb ifs co)(he:Cm P cb bI xe) :
  ∀{aj:List D}{g gE:G},M7 rn z.bor k T last co xe aj g=some gE->iV T last (λg b g'=>∀bk:Bk,cP (Xb bk) z ifs g b g') (λg d g'=>∀bk:Bk,au (Xb bk) z bI g (.dat d) g') aj g gE
 | [],_,_,h=>by cases h;exact .nil
 |d::l,_,_,h=>by
  unfold M7 at h;split at h
  . cases h
  .
   rename_i g1 e1;split at h
   . cases h
   . rename_i g2 e2;exact .skip e1 (λbk=>uf hS (Zo bk) (P1 bk) hi e2) (ug hS Zo P1 hi he h)
   .
    rename_i g2 e2;split at h
    . cases h
    .
     rename_i x g3 e3;split at h
     .
      rename_i acc e4;split at h
      . rename_i hl;exact .take e1 (λbk=>uf hS (Zo bk) (P1 bk) hi e2) (λbk=>aY hS (Zo bk) (P1 bk) he e3) e4 hl (ug hS Zo P1 hi he h)
      . cases h
     . cases h
end
def jo(P:Pg)(mg:Str->Option Value)(ci:Nat)(C:Addr):Prop:=∃x,P.cls[ci]?=some x/\mg x=some (.ref C)
structure NZ(P:Pg)(k:Nat)(X:Cx)(c:Ct):Prop where
 ct:aZ P k X.iS c
 ex:X.ex=[]
 pa:PassesOwn (model X.prog X.w) X.A X.env X.xe
structure lN(P:Pg)(rn:Rn):Prop where
 x:∀{X:Cx}{c:Ct}{z:Z}{k:Nat}{x:Ex}{e:Expr}{g g':G}{ci:Nat}{C:Addr},NZ P k X c->z.K=X.K->jo P X.mg ci C->Cm P c e x->rn.x z.bor k x g=some (ci,g')->zD X z e g C g'
 t:∀{X:Cx}{c:Ct}{z:Z}{k:Nat}{x:Ex}{e:Expr}{g g':G}{ci:Nat}{C:Addr},NZ P k X c->z.K=X.K->jo P X.mg ci C->Cm P c e x->rn.xt z.bor k x g=some (ci,g')->Wo X z e g C g'
 b:∀{X:Cx}{c:Ct}{z:Z}{k:Nat}{xs:List Sm}{jq:List Stmt}{g g':G}{ci:Nat}{C:Addr},NZ P k X c->c.df=true->z.K=X.K->jo P X.mg ci C->xu P c jq xs->rn.xb z.bor k xs g=some (ci,g')->Gp X z jq g C g'
structure N1(P:Pg)(fi:Fi)(fx:Fx):Prop where
 np:fx.np=fi.ps.length
 n:fx.n=fi.N.length
 body:xu P ⟨fi.N,aC fi.st,true,fi.qual⟩ (bB fi.st) fx.body
def fL(P:Pg)(fns:List Fx):Prop:=∀(f:Nat) (fi:Fi) (fx:Fx),P.fn[f]?=some fi->fns[f]?=some fx->N1 P fi fx
theorem pP{P:Pg}{k:Nat}{prog:Program}{w:World}{K:Frag}{mg:Str->Option Value}{base:Heap}{N ps:List Str}{qual:Str}{scope:Scope}{f:Addr}{bE:Value}{A:Around}{outer:List Env}{s:Shared}{H:Hp}{E:XK}
  (S:bU N ps scope) (md:tV P K mg) (bH:PySem.W.codeIn K bE qual=true) (hr:bQ k (A.deeper (envOfC qual scope s⁻¹ f bE))):aZ P k (fh uI prog w K mg base N qual scope f bE A outer s H E).iS ⟨N,scope,true,qual⟩:=by
 refine⟨rfl,S.nd,λx e=>e,λx e=>e,λx e=>e,λ_ x e=>e,λx _=>rfl,λ_=>?_,rfl,rfl,md,hr,λe h=>⟨by have e:qual = "law" :=e;subst e;rfl,md.lam h _ (by have e:qual = "law" :=e;exact e▸bH)⟩⟩
 show (if scope.kind.isAnnotationScope then ScopeKind.function else scope.kind)=.function
 rw[S.kind];rfl
section
theorem HS(hS:gW P rn){k':Nat}(ct:aZ P (k'+1) X c)(hK:z.K=X.K){f:Nat}{fi:Fi}{fx:Fx}(Ub:P.fn[f]?=some fi)(uH:N1 P fi fx)(P5:c.sc.names.lookup fi.name=some .globalImplicit){e:Expr}{es:List Expr}{xs:List Ex}{rs:List R}{g g1 gO:G}{r:R}
  (hc:zT P c (e::es) xs) (ha:cO X z (e::es) g rs g1) (h:dH rn fx k' rs g1=some (r,gO)):au X z (.Call (.Name fi.name p) (e::es) [] pos) g r gO:=by
 obtain⟨f,fd,hm,hF,Vd,hB,gX⟩:=ct.md.fn _ fi Ub;have F:iT X.prog X.w X.K X.mg X.base uI (k'+1) f fd fi.ps (Lf X.K fi.N fi.ps.length λbor g r g'=>rn.b bor k' fx.body g=some (.rt r,g')\/(rn.b bor k' fx.body g=some (.nx,g')/\r=.dat .non)):=by
  refine zB hF Vd λbE A outer s H E bH hr z' g r g' Wv hrun=>?_
  have ct':aZ P k' (fh uI X.prog X.w X.K X.mg X.base fi.N fi.qual (aC fi.st) f bE A outer s H E).iS ⟨fi.N,aC fi.st,true,fi.qual⟩:=pP Vd ct.md bH hr;rcases hrun with h |⟨h,rfl⟩
  . exact⟨_,hS.b ct' rfl Wv uH.body h,.inl rfl⟩
  . exact⟨_,hS.b ct' rfl Wv uH.body h,.inr ⟨rfl,rfl⟩⟩
 have h1:∃h2:zT P c es xs.tail,starEach (e::es) X.env=(false,eval e X.env)::starEach es X.env:=by
  cases hc with
  |cons h1 h2=>exact⟨h2,h1.star _⟩
 obtain⟨h2,cA⟩:=h1;unfold dH at h;split at h
 .
  rename_i hl;split at h
  . cases h
  .
   rename_i gs e1;split at h
   .
    rename_i r0 gc e2;split at h
    .
     rename_i gO' e3;split at h
     . rename_i r' e4;cases h;exact zA F hK ct.room (ct.jD _ P5) hm hF.kp hB ha (by rw[hl.1,uH.np]) e1 hl.2 (.inl (by rw[<- uH.n];exact e2)) e3 e4 gX cA h2.plain
     . cases h
    . cases h
   .
    rename_i gc e2;split at h
    . rename_i gO' e3;cases h;exact zA F hK ct.room (ct.jD _ P5) hm hF.kp hB ha (by rw[hl.1,uH.np]) e1 hl.2 (.inr ⟨by rw[<- uH.n];exact e2,rfl⟩) e3 rfl gX cA h2.plain
    . cases h
   . cases h
 . cases h
theorem wm(hS:gW P rn)(ct:aZ P k X c)(hK:z.K=X.K)
  (hnd:N'.Nodup) (hT:yI ⟨N',scope,false,Str.empty⟩ tg T) (Qg:∀i∈T.ix,c.N.length<=i/\i<c.N.length+kk) (hi:U0 P c iter it) (hf:yL P ⟨N',scope,false,Str.empty⟩ ifs co) (he:Cm P ⟨N',scope,false,Str.empty⟩ bI xe)
  (h:fH rn z.bor k c.N.length kk T it co xe g=some (acc,g')) :
  ∃aj g1 gE,cX X z tg iter g aj g1/\(∀b:Bk,eu (X.blk N' scope b) z tg T)/\(∀i∈T.ix,g1.length<=i/\i<g1.length+kk)/\
   iV T (g1.length+kk) (λg b g'=>∀bk:Bk,cP (X.blk N' scope bk) z ifs g b g') (λg d g'=>∀bk:Bk,au (X.blk N' scope bk) z bI g (.dat d) g') aj (gC kk g1) gE/\gE[g1.length+kk]?=some (.own acc)/\g'=gE.take g1.length:=by
 unfold fH at h;split at h
 . cases h
 .
  rename_i aj g1 e1;split at h
  .
   rename_i hl;split at h
   . cases h
   .
    rename_i gE e2;split at h
    .
     rename_i acc' e3;cases h;obtain⟨hl,hb⟩:=hl;rw[<- hl]at e2 e3 Qg ⊢
     refine⟨aj,g1,gE,lM hS ct hK (rM hT) hi e1,λb=>rO (ct.blk hnd b) hK hT λi hi hm=>?_,Qg,ug hS (λb=>ct.blk hnd b) (λb=>hK) hf he e2,e3,rfl⟩
     rw[List.any_eq_false]at hb;exact hb i hi (oD hm)
    . cases h
  . cases h
theorem HW(hS:gW P rn)(ct:aZ P k X c)(hK:z.K=X.K){vx:Expr}{Qa:List Expr}{scope:Scope}{N':List Str}{T:Tg}{xv:Ex}{ks:List Ex}{kk:Nat}{kp:Pos}(hnd:N'.Nodup)
  (hk:zT P ⟨N',scope,false,Str.empty⟩ Qa ks) (hv:Cm P ⟨N',scope,false,Str.empty⟩ vx xv):∀{aj:List D}{ka:List (List Int)}{da:List D}{g gE:G}{p:List (List Int)×List D},Uh rn z.bor k T ks xv aj ka da g=some (p,gE)->
  tR T (λg ns g'=>∀bk:Bk,yE (X.blk N' scope bk) z (.Tuple Qa kk kp) g ns g') (λg d g'=>∀bk:Bk,au (X.blk N' scope bk) z vx g (.dat d) g') aj ka da g p.1 p.2 gE
 | [],_,_,_,_,_,h=>by cases h;exact .nil
 |d::l,ka,_,_,_,_,h=>by
  unfold Uh at h;split at h
  . cases h
  .
   rename_i g1 e0;split at h
   . cases h
   .
    rename_i m g2 e1;split at h
    . cases h
    .
     rename_i ns e2;split at h
     . cases h
     .
      rename_i x g3 e3;split at h
      .
       rename_i hc;obtain⟨h1,h2,h3⟩:=hc;have h1:=ak h1;refine .cons e0 (λbk=>T8 (iF hS (ct.blk hnd bk) hK hk e1) (kG _) e2 h3) (λbk=>aY hS (ct.blk hnd bk) hK hv e3) (λhm=>?_) h2 (ak h1.2).1 (ak h1.2).2 (HW hS ct hK hnd hk hv h)
       have:=eP.mp h1.1 ns hm;simp at this
      . cases h
theorem De(hS:gW P rn)(ct:aZ P k X c)(hK:z.K=X.K){tg iter vx:Expr}{Qa:List Expr}{scope:Scope}{N':List Str}{kk kt:Nat}{kp:Pos}{T:Tg}{it xv:Ex}{ks:List Ex}{g g':G}{p:List (List Int)×List D}
  (hnd:N'.Nodup) (hT:yI ⟨N',scope,false,Str.empty⟩ tg T) (Qg:∀i∈T.ix,c.N.length<=i/\i<c.N.length+kk) (hi:U0 P c iter it) (hk:zT P ⟨N',scope,false,Str.empty⟩ Qa ks) (hv:Cm P ⟨N',scope,false,Str.empty⟩ vx xv)
  (h:pD rn z.bor k c.N.length kk T it ks xv g=some (p,g')) :
  ∃aj g1 gE,cX X z tg iter g aj g1/\(∀b:Bk,eu (X.blk N' scope b) z tg T)/\(∀i∈T.ix,g1.length<=i/\i<g1.length+kk)/\
   tR T (λg ns g'=>∀bk:Bk,yE (X.blk N' scope bk) z (.Tuple Qa kt kp) g ns g') (λg d g'=>∀bk:Bk,au (X.blk N' scope bk) z vx g (.dat d) g') aj [] [] (gD kk g1) p.1 p.2 gE/\g'=gE.take g1.length:=by
 unfold pD at h;split at h
 . cases h
 .
  rename_i aj g1 e1;split at h
  .
   rename_i hl;split at h
   . cases h
   .
    rename_i q gE e2;cases h;obtain⟨hl,hb⟩:=hl;rw[<- hl]at Qg ⊢
    refine⟨aj,g1,gE,lM hS ct hK (rM hT) hi e1,λb=>rO (ct.blk hnd b) hK hT λi hi hm=>?_,Qg,HW hS ct hK hnd hk hv e2,rfl⟩
    rw[List.any_eq_false]at hb;exact hb i hi (oD hm)
  . cases h
theorem uh(hS:gW P rn)(ct:aZ P k X c)(hK:z.K=X.K)(hnd:N'.Nodup)(hT:yI ⟨N',scope,false,Str.empty⟩ tg T)(hf1:yL P ⟨N',scope,false,Str.empty⟩ f1 c1)
  (hi:U0 P ⟨N',scope,false,Str.empty⟩ iter it) (hf:yL P ⟨N',scope,false,Str.empty⟩ ifs co) (he:Cm P ⟨N',scope,false,Str.empty⟩ bI xe):∀{aj:List D}{g gE:G},Hw rn z.bor k T1 c1 T it co xe last aj g=some gE->
  gH T1 (λg b g'=>∀bk:Bk,cP (X.blk N' scope bk) z f1 g b g') (yD X z N' scope tg iter bI ifs T last) aj g gE
 | [],_,_,h=>by cases h;exact .nil
 |d::l,_,_,h=>by
  unfold Hw at h;split at h
  . cases h
  .
   rename_i g1 e1;split at h
   . cases h
   . rename_i g2 e2;exact .skip e1 (λbk=>uf hS (ct.blk hnd bk) hK hf1 e2) (uh hS ct hK hnd hT hf1 hi hf he h)
   .
    rename_i g2 e2;split at h
    . cases h
    .
     rename_i items2 g3 e3;split at h
     . cases h
     . rename_i g4 e4;exact .take e1 (λbk=>uf hS (ct.blk hnd bk) hK hf1 e2) ⟨items2,g3,λbk=>lM hS (ct.blk hnd bk) hK (rM hT) hi e3,ug hS (λb=>ct.blk hnd b) (λb=>hK) hf he e4⟩ (uh hS ct hK hnd hT hf1 hi hf he h)
theorem rP(hS:gW P rn)(ct:aZ P k X c)(hK:z.K=X.K)
  (hnd:N'.Nodup) (hT1:yI ⟨N',scope,false,Str.empty⟩ t1 T1) (hT:yI ⟨N',scope,false,Str.empty⟩ tg T) (Zq:∀i∈T1.ix,c.N.length<=i/\i<c.N.length+kk) (Qg:∀i∈T.ix,c.N.length<=i/\i<c.N.length+kk) (hi1:U0 P c i1 qB) (hf1:yL P ⟨N',scope,false,Str.empty⟩ f1 c1) (hi:U0 P ⟨N',scope,false,Str.empty⟩ iter it) (hf:yL P ⟨N',scope,false,Str.empty⟩ ifs co) (he:Cm P ⟨N',scope,false,Str.empty⟩ bI xe)
  (h:tT rn z.bor k c.N.length kk T1 qB c1 T it co xe g=some (acc,g')) :
  ∃aj g1 gE,cX X z t1 i1 g aj g1/\(∀b:Bk,eu (X.blk N' scope b) z t1 T1)/\(∀b:Bk,eu (X.blk N' scope b) z tg T)/\(∀i∈T1.ix,g1.length<=i/\i<g1.length+kk)/\(∀i∈T.ix,g1.length<=i/\i<g1.length+kk)/\
   gH T1 (λg b g'=>∀bk:Bk,cP (X.blk N' scope bk) z f1 g b g') (yD X z N' scope tg iter bI ifs T (g1.length+kk)) aj (gC kk g1) gE/\gE[g1.length+kk]?=some (.own acc)/\g'=gE.take g1.length:=by
 unfold tT at h;split at h
 . cases h
 .
  rename_i aj g1 e1;split at h
  .
   rename_i hl;split at h
   . cases h
   .
    rename_i gE e2;split at h
    .
     rename_i acc' e3;cases h;obtain⟨hl,hb⟩:=hl;rw[<- hl]at e2 e3 Qg Zq ⊢
     rw[List.any_eq_false]at hb;exact⟨aj,g1,gE,lM hS ct hK (rM hT1) hi1 e1,λb=>rO (ct.blk hnd b) hK hT1 λi hi hm=>hb i (t6 _ hi) (oD hm),λb=>rO (ct.blk hnd b) hK hT λi hi hm=>hb i (i3 _ hi) (oD hm),Zq,Qg,uh hS ct hK hnd hT hf1 hi hf he e2,e3,rfl⟩
    . cases h
  . cases h
end
theorem N2{P:Pg}{c:Ct}{er y ke en JW:Str}{Cy np Wu py bh qi kp vP vO bX qj qh:Pos}{j:Nat}{rest:List Stmt}{bd:List Sm}(h:xu P c (.Assign [.Name er Cy] (.Constant .none j np) Wu::G9 y ke en JW py bh qi kp vP vO bX qj qh::rest) bd):xu P c rest (bd.drop 2):=by
 have nog:∀{s:Stmt}{ss:List Stmt}{x:Sm}{r:List Stmt},Ny P (Cm P c) (DX P c) c ss x->ss++r=s::rest->(∀a b p,s≠.Assign a b p)->False:=λg e n=>by
  cases g <;> (injection e with e1 e2;exact n _ _ _ e1.symm)
 generalize hq:(Stmt.Assign [.Name er Cy] (.Constant .none j np) Wu::G9 y ke en JW py bh qi kp vP vO bX qj qh::rest)=jq at h;cases h with
 |nil=>cases hq
 |grp g _=>cases g <;> (injection hq with e1 e2;injection e1 with e3 e4;cases e4)
 |cons _ h1=>
  injection hq with e1 e2;generalize hq2:(G9 y ke en JW py bh qi kp vP vO bX qj qh::rest)=aI at e2;subst e2;cases h1 with
  |nil=>cases hq2
  |grp g _=>exact (nog g hq2.symm (λa b p e=>nomatch e)).elim
  |cons _ h2=>injection hq2 with e1 e2;subst e2;exact h2
section
variable{X:Cx}{c:Ct}
theorem HX(ct:aZ P k X c){es:List Expr}{ns:List String}(h:yH P c es ns):oO X es ns/\∀n∈ns,n∈qE:=by
 induction h with
 |nil=>exact⟨.nil,λn hn=>nomatch hn⟩
 |@cons T n pos es ns h1 h2 h3 h4 _ ih=>
  refine⟨.cons ?_ ih.1,λm hm=>(d5.mp hm).elim (λe=>e▸h4) (ih.2 m)⟩
  subst h3;refine⟨ct.jD _ h2,ct.md.bn _ h1,?_,?_,?_⟩ <;> (unfold qE at h4;simp only[d5,i7,t8]at h4;rcases h4 with rfl |rfl |rfl |rfl |rfl |rfl <;> first |rfl |decide)
theorem Ve{e:Expr}{g g1:G}{r:R}{d:D}(h:au X z e g r g1)(hp:pk r g1=some d)(hs:starEach [e] X.env=(false,eval e X.env)::starEach [] X.env):cO X z [e] g [r] g1:=by
 cases r with
 |dat d=>exact dM h fj hs
 |new l=>cases hp
 |var i=>exact Fv h fj hs
theorem HY{e:Expr}{x:Ex}{bh:Pos}(hc:Cm P c e x):((backTo bh (starEach [e] X.env)).all (λx=>!x.1)&&(backToKw bh (keywordEach [] X.env)).all (λx=>x.1.isSome)
   && decide ([e].length+([]:List Keyword).length+(if ([]:List Keyword).isEmpty then 0 else 1)<30))=true:=by
 rw[hc.star];rfl
theorem zW(hS:gW P rn)(hX:lN P rn){fns:List Fx}(hF:fL P fns){k':Nat}{Y:Cx}(md:tV P Y.K Y.mg)(hr:bQ (k'+2) Y.A)(hcm:Y.calm=true)(hKY:z.K=Y.K)(KH:c.N.Nodup)(hN:X.N=c.N){f ir:Nat}{fi:Fi}{l:Lt}{xb:Ex}{g G8 g3:G}{r0 r':R}{fx:Fx}{ci:Nat}{C:Addr}
  (h1:P.fn[f]?=some fi) (h5:P.lam=true) (h6:HD fi ir P.kt=true) (h8:CV l.params l.scope=true) (h9:Cm P ⟨c.N,l.scope,false,Str.empty⟩ l.body xb)
  (e1:fns[f]?=some fx) (e2:rn.x [] k' xb (g.map noOwn)=some (ci,G8)) (e3:P.gU[ci]?=some C) (e4:rn.b [] k' (fx.body.drop 2) ((List.replicate fx.n .no).set ir (.dat (.lg C)))=some (.rt r0,g3)) (e5:cW [] g3 r0=some r') {fa:Addr}{fd:FuncData} (F:JF Y.K fi.name fi.qual fi.st fa fd) (Sc:bU fi.N fi.ps (aC fi.st)) (bd:L2.Binds Y.K fd fi.ps []):yt Y X z g jd l r' fa:=by
 have uH:=hF f fi fx h1 e1;obtain⟨xC,c1,c2,qC,kC⟩:=md.gU ci C e3;obtain⟨dk,D,mD,qD,hup⟩:=md.kt h5;have L:=tX h8;unfold HD at h6;split at h6
 .
  rename_i er y ke en JW P9 hv;obtain⟨Cy,j,np,Wu,py,bh,qi,kp,vP,vO,bX,qj,qh,rest,cA⟩:=Nv hv;obtain⟨p1,p2⟩:=ak h6;obtain⟨⟨q1,q2,q3,q4⟩,⟨q5,q6,q7⟩,⟨q8,q9⟩,q10,q11,J0⟩:=dec p1;subst q1 q2 q3;obtain⟨p3,p4⟩:=ak p2;have pe:=dI (ak p3).1;have py':=dI (ak p3).2;have vy:qk (aC fi.st) y:=by
   have:=(ak p4).1;unfold lJ at this;split at this
   . rename_i e;exact .inl e
   . rename_i e;exact .inr (.inl e)
   . rename_i e;exact .inr (.inr e)
   . cases this
  have lr:Loc (aC fi.st) JW:=by
   have:=(ak p4).2;unfold fJ at this;split at this
   . rename_i e;exact .inl e
   . rename_i e;exact .inr e
   . cases this
  have hb:=uH.body;rw[cA]at hb;have hrs:xu P ⟨fi.N,aC fi.st,true,fi.qual⟩ rest (fx.body.drop 2):=N2 hb;intro ah σ1 σ0 H1 s1 g1 As A0 M p c' cl pm gR us Q E I1 S1 hp1 hc1 Cl0 YK rv hQ;refine TX (k:=k') (C:=C) (D:=D) (y:=y) (ke:=P.kt) (en:=P9) (er:=JW) (ie:=fi.N.idxOf P9) (ir:=ir) (G8:=G8) (g3:=g3) (r:=r0) (N:=X.N) hKY hr hcm F cA (q4▸Sc) (q4▸bd)
   ⟨Sc.nd,q5,mD,dk,qC,qD,hup C (l6 e3),kC,q6,q7,pe.1,pe.2,q8,lr,q9,vy,py'.1,py'.2,q10,q11,J0⟩ L (λXf s H xe zl a1 a2 a3 a4 a5 hr hc hp hzK hzb=>?_) (λbE A outer s H E bH hr zf hzK hzb=>?_) e5 I1 S1 hp1 hc1 Cl0 YK.noOwn (λi l e=>Cw e) rv hQ
  .
   have hci:jo P (vM Xf X.N jd l.scope p (.ref c') cl s H xe).mg ci C:=⟨xC,c1,a4▸c2⟩;refine hX.x (c:=⟨c.N,l.scope,false,Str.empty⟩) ⟨⟨hN,KH,λx e=>e,λx e=>e,λx e=>e,(λe=>nomatch e),λx e=>?_,(λe=>nomatch e),rfl,rfl,?_,hr.deeper _,λe=>absurd (show Str.empty=("law":Str)from e) ⋯⟩,rfl,hp⟩ (hzK.trans a3.symm) hci h9 (by rw[hzb];exact e2)
   .
    rcases e with e |e
    . cases e
    . exact absurd rfl (L.nl _ (L2.mem_of_lookup e))
   . show tV P Xf.K Xf.mg;rw[a3,a4];exact md
  .
   have e4':rn.b zf.bor k' (fx.body.drop 2) ((List.replicate fi.N.length .no).set ir (.dat (.lg C)))=some (.rt r0,g3):=by rw[hzb,<- uH.n];exact e4
   exact hS.b (pP Sc md bH hr) rfl hzK hrs e4'
 . cases h6
theorem Qh(ct:aZ P k X c)(h4:c.q = "law")(h5:P.lam=true):∃q cc,o9 X jd q cc:=by obtain⟨hqn,cc,q,hcode,hC,hq,hbi,Yz⟩:=ct.lam h4 h5;exact⟨q,cc,hq,λp hp _=>Bm hp,hcode,hC,hqn,hbi,Yz⟩
theorem N3(hS:gW P rn)(hX:lN P rn){fns:List Fx}(hF:fL P fns){k':Nat}(ct:aZ P (k'+2) X c)(hK:z.K=X.K){x:Str}{f ir:Nat}{fi:Fi}{params:Arguments}{body:Expr}{scope:Scope}{xb:Ex}{fp CW pos:Pos}{g G8 g3:G}{r0 r':R}{fx:Fx}{ci:Nat}{C:Addr}
  (h1:P.fn[f]?=some fi) (h2:fi.name=x) (h3:c.sc.names.lookup x=some .globalImplicit) (h4:c.q = "law") (h5:P.lam=true) (h6:HD fi ir P.kt=true) (h7:pF c.sc scope=true) (h8:CV params scope=true) (h9:Cm P ⟨c.N,scope,false,Str.empty⟩ body xb)
  (e1:fns[f]?=some fx) (e2:rn.x [] k' xb (g.map noOwn)=some (ci,G8)) (e3:P.gU[ci]?=some C) (e4:rn.b [] k' (fx.body.drop 2) ((List.replicate fx.n .no).set ir (.dat (.lg C)))=some (.rt r0,g3)) (e5:cW [] g3 r0=some r') :
  au X z (.Call (.Name x fp) [.Lambda params body scope CW] [] pos) g r' g:=by
 obtain⟨fa,fd,m1,F,Sc,bd,db⟩:=ct.md.fn f fi h1;obtain⟨q,cc,mk⟩:=Qh ct h4 h5;subst h2;exact Mu (l:=⟨params,body,scope,CW⟩) hK F (ct.jD _ h3) m1 db mk (eW ct h7) (tX h8) (zW hS hX hF ct.md ct.room ct.calm hK ct.nd ct.N h1 h5 h6 h8 h9 e1 e2 e3 e4 e5 F Sc bd)
theorem N4(hS:gW P rn)(hX:lN P rn){fns:List Fx}(hF:fL P fns)(ct:aZ P k X c)(hK:z.K=X.K){f ir:Nat}{fx v:Str}{scope:Scope}{N':List Str}{kb j:Nat}{fp vp cp:Pos}{g:G}(B:Zc c fx scope N' v kb j){l:Lt}{e:Ex}{d:D}(hc:Cm P c (.Call (.Name fx p0) [l.ex] [] p0) (.lI f ir [] e))(ed:Hx rn k fns f ir P.gU e g=some d) :
  ((∃q cc,o9 X jd q cc)/\aH X.env.scope l.scope/\dR l.params l.scope)/\pg X z g jd N' (X.N.length+j) scope (.Call (.Name fx fp) [.Name v vp] [] cp) l d:=by
 cases hc.out with
 |@lI x f ir fi params body sc xb _ fp' CW pos h1 h2 h3 h4 h5 h6 h7 h8 h9=>
  unfold Hx at ed;split at ed
  .
   rename_i fxx k' e1;split at ed
   .
    rename_i ci G8 e2;split at ed
    .
     rename_i C e3;split at ed
     .
      rename_i r0 g3 e4;split at ed
      .
       rename_i r' e5;obtain⟨fa,fd,m1,F,Sc,bd,db⟩:=ct.md.fn _ fi h1;subst h2;have Bl:=eW ct h7;have L:=tX h8;obtain⟨dv,bE⟩:=dI B.pl;exact⟨⟨Qh ct h4 h5,Bl,L⟩,T3 Bl L F m1 db (λbk=>(ct.blk B.nd bk).jD _ B.gl) (by rw[ct.N];exact B.ix) (λbk=>(ct.blk B.nd bk).vis B.vi) dv bE
        (λbk=>zW (Y:=X.blk N' scope bk) hS hX hF ct.md ct.room ct.calm hK ct.nd ct.N h1 h5 h6 h8 h9 e1 e2 e3 e4 e5 F Sc bd) ed⟩
      . cases ed
     . cases ed
    . cases ed
   . cases ed
  . cases ed
theorem zX(hS:gW P rn)(hX:lN P rn){fns:List Fx}(hF:fL P fns)(ct:aZ P k X c)(hK:z.K=X.K){f ir:Nat}{fx v:Str}{scope:Scope}{N':List Str}{kb j:Nat}{fp vp cp:Pos}{g:G}(B:Zc c fx scope N' v kb j) :
  ∀{ls:List Lt}{es:List Ex}{ds:List D},mK (Cm P c) fx f ir P.gU ls es->v5 rn k fns f ir P.gU es g=some ds->(∀m∈ls,(∃q cc,o9 X jd q cc)/\aH X.env.scope m.scope/\dR m.params m.scope)/\dO (pg X z g jd N' (X.N.length+j) scope (.Call (.Name fx fp) [.Name v vp] [] cp)) ls ds
 |_,_,_,.nil,h=>by cases h;exact⟨(λm h=>nomatch h),.nil⟩
 |l::ls,e::es,_,.cons hc hcs,h=>by
  unfold v5 at h;split at h
  .
   rename_i d ed;split at h
   . rename_i ds eds;cases h;obtain⟨q1,q2⟩:=zX hS hX hF ct hK B hcs eds;obtain⟨q3,q4⟩:=N4 hS hX hF ct hK B hc ed;exact⟨λm hm=>(d5.mp hm).elim (λe=>e▸q3) (q1 m),.cons q4 q2⟩
   . cases h
  . cases h
theorem Ia(hS:gW P rn)(hX:lN P rn){fns:List Fx}(hF:fL P fns)(ct:aZ P k X c)(hK:z.K=X.K){f ir:Nat}{fx v:Str}{scope:Scope}{N':List Str}{kb j:Nat}{fp vp cp:Pos}{g g':G}{l:Lt}{ls:List Lt}{es:List Ex}{r:R}(hl:mK (Cm P c) fx f ir P.gU (l::ls) es)(B:Zc c fx scope N' v kb j)(h:aO rn z.bor k fns (.refs f ir P.gU es) g=some (r,g')) :
  ∃ds,r=.new ds/\(∃q cc,o9 X jd q cc)/\(∀m∈l::ls,aH X.env.scope m.scope/\dR m.params m.scope)/\dO (pg X z g jd N' (X.N.length+j) scope (.Call (.Name fx fp) [.Name v vp] [] cp)) (l::ls) ds:=by
 unfold aO at h;dsimp only at h;split at h
 . rename_i ds e;cases h;obtain⟨q1,q2⟩:=zX hS hX hF ct hK B hl e;exact⟨ds,rfl,(q1 l dL).1,λm hm=>(q1 m hm).2,q2⟩
 . cases h
def Zr(X:Cx)(z:Z)(e:Expr)(g:G)(o:Option (R×G)):Prop:=∀r g',o=some (r,g')->au X z e g r g'
theorem Zr.none{e:Expr}{g:G}:Zr X z e g none:=λ_ _ h=>nomatch h
theorem Zr.some{e:Expr}{g g':G}{r:R}(h:au X z e g r g'):Zr X z e g (some (r,g')):=λ_ _ q=>by cases q;exact h
theorem N5(hS:gW P rn)(hX:lN P rn){fns:List Fx}(hF:fL P fns)(ct:aZ P k X c)(hK:z.K=X.K){e:Expr}{x:Ex}{g:G}(hc:Cm P c e x):Zr X z e g (aO rn z.bor k fns x g):=by
 cases hc.out with
 |int=>exact .some (Rx)
 |bool=>exact .some (Yc)
 |none=>exact .some (Ry)
 |str=>exact .some (Rz)
 |var h1 h2 h3=>
  obtain⟨hd,bH⟩:=dI h3;unfold aO;dsimp only;split
  . rename_i e1;exact .some (RB (by rw[ct.N];exact h1) (ct.vis h2) hd bH e1)
  . rename_i e1;exact .some (KQ (by rw[ct.N];exact h1) (ct.vis h2) hd bH e1)
  . exact .none
 |glob h1 h2=>obtain⟨hd,v,u,q1,q2,q3⟩:=ct.md.ct _ _ h1;exact .some (KR (ct.jD _ h2) q1 q2 (hK▸q3) hd)
 |bin h1 h2=>
  unfold aO;dsimp only;split
  .
   rename_i r1 r2 g2 e1;obtain⟨s1,s2,g1,q1,q2,q3⟩:=iN e1;cases q3;split
   .
    rename_i d1 d2 p1 p2;split
    . rename_i r0 e3;exact .some (RC (bA (hS.e ct hK h1 q1)) (bA (hS.e ct hK h2 q2)) p1 p2 (Ui hK e3))
    . exact .none
   . exact .none
  . exact .none
 |cmp h1 h2 h3=>
  unfold aO;dsimp only;split
  .
   rename_i r1 r2 g2 e1;obtain⟨s1,s2,g1,q1,q2,q3⟩:=iN e1;cases q3;split
   .
    rename_i d1 d2 p1 p2;split
    . rename_i r0 e3;exact .some (RD (bA (hS.e ct hK h1 q1)) (bA (hS.e ct hK h2 q2)) p1 p2 (jE hK ct.room e3) h3)
    . exact .none
   . exact .none
  . exact .none
 |chain h1 h2 h3=>
  unfold aO;dsimp only;split
  .
   rename_i d1 g1 e1;split
   . rename_i b g2 e2;exact .some (Gf (aY hS ct hK h1 e1) (yM hS ct hK h2 e2) h3)
   . exact .none
  . exact .none
 |neg h1=>
  unfold aO;dsimp only;split
  . rename_i i g1 e1;exact .some (Ye (aY hS ct hK h1 e1) rfl Sh)
  . exact .none
 |not h1=>
  unfold aO;dsimp only;split
  . rename_i b g1 e1;exact .some (RT (hS.e ct hK h1 e1))
  . exact .none
 |and h1=>exact λ_ _ h=>zU hS ct hK h1 h
 |or h1=>exact λ_ _ h=>HQ hS ct hK h1 h
 |ite h1 h2 h3=>
  unfold aO;dsimp only;split
  . rename_i g1 e1;exact λ_ _ h=>RV (hS.t ct hK h1 e1) (hS.e ct hK h2 h)
  . rename_i g1 e1;exact λ_ _ h=>RW (hS.t ct hK h1 e1) (hS.e ct hK h3 h)
  . exact .none
 |tup h1=>
  unfold aO;dsimp only;split
  .
   rename_i ds g1 e1;split
   . rename_i hl;exact .some (RX (iF hS ct hK h1 e1) (kG _) hl)
   . exact .none
  . exact .none
 |lst h1=>
  unfold aO;dsimp only;split
  .
   rename_i ds g1 e1;split
   . rename_i hl;exact .some (RZ (iF hS ct hK h1 e1) (kG _) hl)
   . exact .none
  . exact .none
 |ix h1 h2=>
  unfold aO;dsimp only;split
  .
   rename_i r1 r2 g2 e1;obtain⟨s1,s2,g1,q1,q2,q3⟩:=iN e1;cases q3;split
   .
    rename_i d1 d2 p1 p2;split
    . rename_i r0 e3;exact .some (Yd (bA (hS.e ct hK h1 q1)) (bA (hS.e ct hK h2 q2)) p1 p2 (Uj hK (by have:=ct.room.units;lia) e3) h2.NX)
    . exact .none
   . exact .none
  . exact .none
 |slice h1 h2 h3=>
  unfold aO;dsimp only;split
  .
   rename_i r0 g1 e1;have q:=bA (hS.e ct hK h1 e1);split
   .
    rename_i i g2 e2;have q2:=wk hS ct hK h2 e2;split
    .
     rename_i j g3 e3;have q3:=wk hS ct hK h3 e3;split
     . rename_i l e4;rw[e4]at q;exact .some (BP hK q q2 q3)
     . rename_i l e4;rw[e4]at q;exact .some (BL hK q q2 q3)
     .
      split
      . rename_i e5;exact .some (BK (d:=.non) hK q q2 q3 e5)
      . exact .none
    . exact .none
   . exact .none
  . exact .none
 |call h1 h2 h3 h4=>
  subst h2;unfold aO;dsimp only;split
  .
   rename_i fx k' ct' uH;split
   . rename_i rs g1 e1;exact λ_ _ h=>HS hS ct hK h1 (hF _ _ _ h1 uH) h3 h4 (kI hS ct hK h4 e1) h
   . exact .none
  . exact .none
 |@blt x b e es xs p pos h1 h2 h3 h4=>
  unfold aO;dsimp only;split
  .
   rename_i rs g1 e1;split
   .
    rename_i ds e2;split
    .
     rename_i r0 e3;have ha:=kI hS ct hK h4 e1;have bH:=Ul hK ct.calm (by have:=ct.room.units;lia) e3
     have cA:starEach (e::es) X.env=(false,eval e X.env)::starEach es X.env:=by cases h4 with |cons h _=>exact h.star _
     have dQ:(backTo pos (starEach es X.env)).any (·.1)=false:=by cases h4 with |cons _ h=>exact h.plain
     subst h1;cases b with
     |len=>exact .some (dZ ha e2 bH (ct.jD _ h3) (ct.md.bn _ h2) rfl ⋯ ⋯ cA dQ)
     |list=>exact .some (lq ha e2 bH (ct.jD _ h3) (ct.md.bn _ h2) rfl ⋯ ⋯ cA dQ)
     |tuple=>exact .some (lq ha e2 bH (ct.jD _ h3) (ct.md.bn _ h2) rfl ⋯ ⋯ cA dQ)
     |max=>exact .some (dZ ha e2 bH (ct.jD _ h3) (ct.md.bn _ h2) rfl ⋯ ⋯ cA dQ)
     |min=>exact .some (dZ ha e2 bH (ct.jD _ h3) (ct.md.bn _ h2) rfl ⋯ ⋯ cA dQ)
     |str=>exact .some (lq ha e2 bH (ct.jD _ h3) (ct.md.bn _ h2) rfl ⋯ ⋯ cA dQ)
     |all=>exact .some (dZ ha e2 bH (ct.jD _ h3) (ct.md.bn _ h2) rfl ⋯ ⋯ cA dQ)
     |any=>exact .some (dZ ha e2 bH (ct.jD _ h3) (ct.md.bn _ h2) rfl ⋯ ⋯ cA dQ)
     |sorted=>exact .some (dZ ha e2 bH (ct.jD _ h3) (ct.md.bn _ h2) rfl ⋯ ⋯ cA dQ)
     |sum=>exact .some (dZ ha e2 bH (ct.jD _ h3) (ct.md.bn _ h2) rfl ⋯ ⋯ cA dQ)
    . exact .none
   . exact .none
  . exact .none
 |@kL a xa T n p pT pos h1 h2 h3 h4 h5 h6 h7=>
  unfold aO;dsimp only;split
  .
   rename_i r0 g1 e1;split
   .
    rename_i d e2;obtain⟨t1,_⟩:=HX ct (yH.cons (pos:=pT) h4 h5 h6 h7 .nil);cases t1 with
    |cons t1 _=>exact .some (Ss hK (bA (hS.e ct hK h1 e1)) e2 (λ_ _ _ p=>v9 p h7) (ct.jD _ h3) (ct.md.bn _ h2) rfl t1.gl t1.mg t1.bt t1.nn t1.db (h1.star _))
   . exact .none
  . exact .none
 |pB h1 h2 h3 h4 h5=>
  unfold aO;dsimp only;split
  .
   rename_i r0 g1 e1;split
   . rename_i d e2;obtain⟨t1,t2⟩:=HX ct h5;exact .some (Ly hK (bA (hS.e ct hK h1 e1)) e2 t1 ⋯ (λ_ _ _ p=>rL p t2) (ct.jD _ h3) (ct.md.bn _ h2) rfl (h1.star _))
   . exact .none
  . exact .none
 |rev h1=>
  unfold aO;dsimp only;split
  .
   rename_i r0 g1 e1;have q:=bA (hS.e ct hK h1 e1);split
   . rename_i l e4;rw[e4]at q;exact .some (Mj hK q)
   .
    split
    . rename_i e5;exact .some (Mi hK q e5)
    . exact .none
  . exact .none
 |emp=>exact .some (Tv)
 |peek h1=>
  unfold aO;dsimp only;split
  .
   rename_i hb;have hb:z.bor=[]:=List.isEmpty_iff.mp hb;split
   .
    rename_i d g1 e1;split
    . rename_i hf;exact .some (Mw hb hf (hS.e ct hK h1 (by rw[hb];exact e1)))
    . exact .none
   . exact .none
  . exact .none
 |stk=>exact .none
 |@rJ a xa T l p pT pos h1 h2 h3 h4 h5=>
  unfold aO;dsimp only;obtain⟨db,cv,hcv,hn,hC⟩:=ct.md.ups _ _ h4;have cls:∃w:V,(∀u,RelV w u->u=cv)/\PE X (.Name T pT) (tC w):=by
   rcases hcv with ⟨m1,D,rfl⟩ |⟨m1,m2,m3,n,rfl⟩
   . exact⟨.ref D,λu r=>r,za (ct.jD _ h5) m1 rfl db⟩
   . exact⟨.ty n,λu r=>r,sE (ct.jD _ h5) (ct.md.bn _ m1) m3 rfl m2 db⟩
  obtain⟨w,hw,pw⟩:=cls;split
  .
   rename_i r0 g1 e1;split
   .
    rename_i C e2;split
    . rename_i b e3;exact .some (Hg hK (bA (hS.e ct hK h1 e1)) e2 (λ_ _ _ _=>hC C b e3) (ct.jD _ h3) (ct.md.bn _ h2) rfl hw pw (h1.star _))
    . exact .none
   . rename_i e2;exact .some (Hg hK (bA (hS.e ct hK h1 e1)) e2 (λ_ _ _ _=>hn) (ct.jD _ h3) (ct.md.bn _ h2) rfl hw pw (h1.star _))
   . exact .none
  . exact .none
 |@lI x f ir fi params body scope xb ca fp CW pos h1 h2 h3 h4 h5 h6 h7 h8 h9=>
  unfold aO;dsimp only;split
  .
   rename_i fx k' e1;split
   .
    rename_i ci G8 e2;split
    .
     rename_i C e3;split
     .
      rename_i r0 g3 e4;split
      .
       rename_i r' e5;rcases h3 with ⟨rfl,h3⟩ |rfl
       . exact .some (N3 hS hX hF ct hK h1 h2 h3 h4 h5 h6 h7 h8 h9 e1 e2 e3 e4 e5)
       . exact .some (nomatch e3)
      . exact .none
     . exact .none
    . exact .none
   . exact .none
  . exact .none
 |comp h1 h2 h3 h4 h5 h6 h7 h8=>
  unfold aO;dsimp only;split
  . rename_i acc g1 e1;obtain⟨aj,g1,gE,w1,w2,w3,w4,w5,rfl⟩:=wm hS ct hK h3 h4 h5 h6 h7 h8 e1;exact .some (Lp (eW ct h1) ct.calm (by rw[ct.N];exact dW h2) w1 w2 w3 w4 w5 λy=>h6.folded y)
  . exact .none
 |iA h1 h2 h3 h4 h5 h6 h7 h8=>
  unfold aO;dsimp only;split
  . rename_i p g1 e1;obtain⟨aj,g1,gE,w1,w2,w3,w4,rfl⟩:=De hS ct hK h3 h4 h5 h6 h7 h8 e1;exact .some (Ht (eW ct h1) ct.calm ct.room.Rb (by rw[ct.N];exact dW h2) w1 w2 w3 w4 λy=>h6.folded y)
  . exact .none
 |cT h1 h2 h3 h4 h4' h5 h5' h6 h7 h8 h9 h10=>
  unfold aO;dsimp only;split
  . rename_i acc g1 e1;obtain⟨aj,g1,gE,w1,w2,w3,w4,w5,w6,w7,rfl⟩:=rP hS ct hK h3 h4 h4' h5 h5' h6 h7 h8 h9 h10 e1;exact .some (Hq (eW ct h1) ct.calm (by rw[ct.N];exact dW h2) w1 w2 w3 w4 w5 w6 w7 (λy=>h6.folded y) λb y=>h8.folded y)
  . exact .none
 |iB h1 Wq h2 h3 h4 h5=>
  unfold aO;dsimp only;split
  .
   rename_i c0 g1 e1;split
   .
    rename_i j g2 e2;split
    . rename_i hj;obtain⟨hc,hj,hl⟩:=hj;simp only[JV,dS,eR]at hj hc;exact .some (Gj (rg_2 (dM (aY hS ct hK h1 e1) (dM (aY hS ct hK Wq e2) fj (Wq.star _)) (h1.star _)) (ct.jD _ h3) (ct.md.bn _ h2) (by rw[h1.star,Wq.star];rfl) (Wq.star _)) ct.calm (ct.jD _ h5) (ct.md.bn _ h4) rfl ⟨hc.1,hc.2,hj.1,hj.2⟩ hl)
    . exact .none
   . exact .none
  . exact .none
 |jl h1 h2 h3=>
  unfold aO;dsimp only;split
  .
   rename_i r0 g1 e1;split
   .
    rename_i d e2;split
    .
     rename_i l e3;split
     .
      rename_i ns e4;split
      . rename_i hl;exact .some (yh hK (Ve (bA (hS.e ct hK h1 e1)) e2 (h1.star _)) e2 e3 e4 hl (ct.jD _ h3) (ct.md.bn _ h2) (h1.star _))
      . exact .none
     . exact .none
    . exact .none
   . exact .none
  . exact .none
 |kr h1=>
  unfold aO;dsimp only;split
  .
   split
   .
    rename_i e1;cases h1 with
    |con h1=>cases h1 with
     |con h1=>exact .some (nD (lK hS ct hK (.con (.con h1)) e1))
     |fmt h1 h2=>exact .some (nD (lK hS ct hK (.con (.fmt h1 h2)) e1))
    |fmt h0 h1=>cases h1 with
     |con h1=>exact .some (nD (lK hS ct hK (.fmt h0 (.con h1)) e1))
     |fmt h1 h2=>exact .some (nD (lK hS ct hK (.fmt h0 (.fmt h1 h2)) e1))
   . exact .none
  . exact .none
 |append h1 h2 h3 h4 h5=>
  obtain⟨hd,bH⟩:=dI h3;unfold aO;dsimp only;split
  .
   rename_i l0 e0;split
   .
    rename_i d g1 e1;split
    .
     rename_i l e2;split
     . rename_i hl;exact .some (Bv (by rw[ct.N];exact h1) (ct.vis h2) hd bH e0 (dM (aY hS ct hK h4 e1) fj (h4.star _)) e2 hl rfl (HY h4) h5 (h4.star _))
     . exact .none
    . exact .none
   . exact .none
  . exact .none
 |extend h1 h2 h3 h4 h5=>
  obtain⟨hd,bH⟩:=dI h3;unfold aO;dsimp only;split
  .
   rename_i l0 e0;split
   .
    rename_i d g1 e1;split
    .
     rename_i l e2;split
     . rename_i hl;exact .some (BV (by rw[ct.N];exact h1) (ct.vis h2) hd bH e0 (dM (aY hS ct hK h4 e1) fj (h4.star _)) e2 hl rfl (HY h4) h5 (h4.star _))
     . exact .none
    . exact .none
   . exact .none
  . exact .none
theorem Ib(hS:gW P rn)(hX:lN P rn){fns:List Fx}(hF:fL P fns)(ct:aZ P k X c)(hK:z.K=X.K){e:Expr}{x:Ex}{g g':G}{r:R}(hc:Cm P c e x)(h:aO rn z.bor k fns x g=some (r,g')):au X z e g r g':=N5 hS hX hF ct hK hc r g' h
end
section
theorem Ic(hS:gW P rn)(ct:aZ P k X c)(hK:z.K=X.K){e:Expr}{x:Ex}{g g':G}{b:Bool}(hc:Cm P c e x)(h:stepT rn z.bor k x g=some (b,g')):cC X z e g b g':=by
 have plain:(match rn.e z.bor k x g with |some (r,g1)=>(match pk (norm r) g1 with |some d=>(match Lw d with |some c=>some (c,g1) |none=>none) |none=>none) |none=>none)=some (b,g')->
   (∀whole,isTrue e X.env whole=(do let v <- whole;standAt e.pos;holding [v] (truthy v)))->cC X z e g b g':=by
  intro h he;split at h
  .
   rename_i r g1 e1;split at h
   .
    rename_i d e2;split at h
    . rename_i b' e3;cases h;exact Gi hK (bA (hS.e ct hK hc e1)) e2 e3 he
    . cases h
   . cases h
  . cases h
 cases hc.out with
 |int=>exact plain h λ_=>rfl
 |bool=>exact plain h λ_=>rfl
 |none=>exact plain h λ_=>rfl
 |str=>exact plain h λ_=>rfl
 |var h1 h2 h3=>exact plain h λ_=>rfl
 |glob h1 h2=>exact plain h λ_=>rfl
 |bin h1 h2=>exact plain h λ_=>rfl
 |cmp h1 h2 h3=>
  unfold stepT at h;dsimp only at h;split at h
  .
   rename_i r1 r2 g2 e1;obtain⟨s1,s2,g1,q1,q2,q3⟩:=iN e1;cases q3;split at h
   .
    rename_i d1 d2 p1 p2;split at h
    . rename_i r0 e3;cases h;exact RJ (bA (hS.e ct hK h1 q1)) (bA (hS.e ct hK h2 q2)) p1 p2 (jE hK ct.room e3) h3
    . cases h
   . cases h
  . cases h
 |chain h1 h2 h3=>
  unfold stepT at h;dsimp only at h;split at h
  . rename_i d1 g1 e1;exact Gg (aY hS ct hK h1 e1) (yM hS ct hK h2 h) h3
  . cases h
 |neg h1=>exact plain h λ_=>rfl
 |not h1=>
  unfold stepT at h;dsimp only at h;split at h
  . rename_i b' g1 e1;cases h;exact RK (hS.t ct hK h1 e1)
  . cases h
 |and h1=>exact (wj hS ct hK h1 h).tr
 |or h1=>exact (zV hS ct hK h1 h).tr
 |ite h1 h2 h3=>cases h
 |tup h1=>exact plain h λ_=>rfl
 |lst h1=>exact plain h λ_=>rfl
 |ix h1 h2=>exact plain h λ_=>rfl
 |slice h1 h2 h3=>exact plain h λ_=>rfl
 |call h1 h2 h3 h4=>exact plain h λ_=>rfl
 |blt h1 h2 h3 h4=>exact plain h λ_=>rfl
 |kL h1 h2 h3 h4 h5 h6 h7=>exact plain h λ_=>rfl
 |pB h1 h2 h3 h4 h5=>exact plain h λ_=>rfl
 |rJ h1 h2 h3 h4 h5=>exact plain h λ_=>rfl
 |rev h1=>exact plain h λ_=>rfl
 |emp=>exact plain h λ_=>rfl
 |peek h1=>exact plain h λ_=>rfl
 |stk=>exact plain h λ_=>rfl
 |lI h1 h2 h3 h4 h5 h6 h7 h8 h9=>exact plain h λ_=>rfl
 |cT h1 h2 h3 h4 h5 h6 h7 h8 h9 h10 h11 h12=>exact plain h λ_=>rfl
 |comp h1 h2 h3 h4 h5 h6 h7 h8=>exact plain h λ_=>rfl
 |iA h1 h2 h3 h4 h5 h6 h7 h8=>exact plain h λ_=>rfl
 |iB h1 Wq h2 h3 h4 h5=>exact plain h λ_=>rfl
 |jl h1 h2 h3=>exact plain h λ_=>rfl
 |kr h1=>exact plain h λ_=>rfl
 |append h1 h2 h3 h4 h5=>exact plain h λ_=>rfl
 |extend h1 h2 h3 h4 h5=>exact plain h λ_=>rfl
theorem zY(ct:aZ P k X c):PassesOwn (model X.prog X.w) X.A X.env X.xe:=by rw[ct.xe];exact PassesOwn.never
theorem pQ{T:Tg}{body:List Stmt}{b:G->Option (Fl×G)}(hb:∀{g g':G}{f:Fl},b g=some (f,g')->cH X z body g f g'):∀{aj:List D}{g g':G}{f:Fl},bZ T b aj g=some (f,g')->eE X z body T aj g f g'
 | [],_,_,_,h=>by cases h;exact .nil
 |d::l,_,_,_,h=>by
  unfold bZ at h;split at h
  . cases h
  .
   rename_i g0 e0;split at h
   . cases h
   . rename_i g1 e1;exact .next e0 (hb e1) (pQ hb h)
   . rename_i g1 e1;exact .cont e0 (hb e1) (pQ hb h)
   . rename_i g1 e1;cases h;exact .brk e0 (hb e1)
   . rename_i g1 e1;cases h;exact .ret e0 (hb e1)
theorem yO{ce:Expr}{body:List Stmt}{t:G->Option (Bool×G)}{b:G->Option (Fl×G)}(ht:∀{g g':G}{v:Bool},t g=some (v,g')->cC X z ce g v g')(hb:∀{g g':G}{f:Fl},b g=some (f,g')->cH X z body g f g') :
  ∀{n:Nat}{g g':G}{f:Fl},CP t b n g=some (f,g')->mW X z ce body n g f g'
 | 0,_,_,_,h=>by cases h
 |n+1,_,_,_,h=>by
  unfold CP at h;split at h
  . cases h
  . rename_i g1 e1;cases h;exact .done (ht e1)
  .
   rename_i g1 e1;split at h
   . cases h
   . rename_i g2 e2;exact .next (ht e1) (hb e2) (yO ht hb h)
   . rename_i g2 e2;exact .cont (ht e1) (hb e2) (yO ht hb h)
   . rename_i g2 e2;cases h;exact .brk (ht e1) (hb e2)
   . rename_i g2 e2;cases h;exact .ret (ht e1) (hb e2)
theorem pR{P:Pg}{c:Ct}{e:Expr}{x:Ex}(h:Cm P c e x)(hn:qF (λ_ _=>true) e=false)(t:Option Expr)(l:Nat)(env:Env):swapsWith e t l env=pure false:=by have hs:=h.DY;cases e <;> first |rfl |exact Bool.noConfusion (show true=false from hn) |exact Bool.noConfusion (show false=true from hs)
theorem pS(ct:aZ P k X c)(fX:c.df=true){a:Expr}{b:List Comprehension}{s:Scope}{p py:Pos}{y:Str}{l:Nat}(hl:fJ c y=true):swapsWith (.ListComp a b s p) (some (.Name y py)) l X.env=pure (Nc c y py p s):=by
 show (pure (X.env.blockKind==.function&&X.env.kindOf y==some .local&&py.line==(Expr.ListComp a b s p).pos.line&&!(s.names.any λ(n,k)=>n==y&&(k==.local||k==.cell))):Sem Bool)=_
 rw[ct.bk fX];have e:(X.env.kindOf y==some .local)=(c.sc.names.lookup y==some .local):=by
  unfold fJ at hl;split at hl
  . rename_i e;rw[e];show (X.env.scope.names.lookup y==_)=_;rw[ct.YZ y e]
  . rename_i e;rw[e];show (X.env.scope.names.lookup y==_)=_;rw[ct.cel fX y e]
  . cases hl
 rw[e];rfl
theorem Df(ct:aZ P k X c)(fX:c.df=true){e:Expr}{x:Ex}{y:Str}{py:Pos}{l:Nat}(hl:fJ c y=true)(h:Cm P c e x)(hn:qF (λs p=>Nc c y py p s) e=false):swapsWith e (some (.Name y py)) l X.env=pure false:=by have hs:=h.DY;cases e <;> first |rfl |exact Bool.noConfusion (show true=false from hn) |exact Bool.noConfusion (show false=true from hs) | (rw[pS ct fX hl];exact congrArg pure hn)
theorem Vf{x:Str}{pn c9:Pos}{ix:Expr}{xi:Ex}{X:Cx}(h:Cm P c ix xi):∀v,assign (.Subscript (.Name x pn) ix c9) X.env v=(do
   let ov <- holding [v] (eval (.Name x pn) X.env)
   let iv <- holding [v,ov] (eval ix X.env)
   standAt c9
   holding [v,ov,iv] (setItem ov iv v)
   release [v,ov,iv] []):=by
 have hs:=h.DY;cases ix <;> first |exact λ_=>rfl |exact Bool.noConfusion (show false=true from hs)
theorem Vg{y:Str}{pn c9:Pos}{ix e:Expr}{x:Ex}{env:Env}(h:Cm P c e x):swappedStores [.Subscript (.Name y pn) ix c9] e env=pure none:=by have hs:=h.DY;cases e <;> first |rfl |exact Bool.noConfusion (show false=true from hs)
theorem pU(hS:gW P rn)(ct:aZ P k X c)(fX:c.df=true)(hK:z.K=X.K){s:Stmt}{x:Sm}{g g':G}{f:Fl}(hc:DX P c s x)(h:aM rn z.bor k x g=some (f,g')):fy X z s g f g':=by
 cases hc.out with
 |ret h1=>
  unfold aM at h;dsimp only at h;split at h
  . rename_i r g1 e1;cases h;exact Sy (hS.e ct hK h1 e1)
  . cases h
 |expr h1 h2=>
  unfold aM at h;dsimp only at h;split at h
  . rename_i r g1 e1;cases h;exact Lb (hS.e ct hK h1 e1) (pR h1 h2 _ _ _)
  . cases h
 |@set y i e x py pos h1 h2 h3 h4=>
  have nm:=ct.nm h1 h2;have hsw:swapsWith e (some (.Name y py)) pos.line X.env=pure false:=Df ct fX h2 h3 h4;unfold aM at h;dsimp only at h;split at h
  . cases h
  .
   rename_i hb;split at h
   .
    rename_i l g1 e1;split at h
    . rename_i hl;cases h;exact Ld nm.nd nm.ix nm.lc (hS.e ct hK h3 e1) hl hsw nm.fn hb
    . cases h
   .
    rename_i r g1 _ e1;split at h
    . rename_i d g2 e2;cases h;exact Lc nm.nd nm.ix nm.lc (HN (hS.e ct hK h3 e1) e2) hsw nm.fn hb
    . cases h
   . cases h
 |@setC y i a b s p n kk T it co x py pos h1 h2 h3=>
  have hl:c.sc.names.lookup y=some .local:=by unfold Nc at h2;simp only[dS]at h2;exact eq_of_beq h2.1.1
  have cA:fJ c y=true:=by unfold fJ;rw[hl]
  have nm:=ct.nm h1 cA;unfold aM at h;dsimp only at h;split at h
  . cases h
  .
   rename_i hb;split at h
   .
    rename_i acc g1 e1;split at h
    .
     rename_i hi;cases h;cases h3.out with
     |comp k1 k2 k3 k4 k5 k6 k7 k8=>obtain⟨aj,g1,gE,w1,w2,w3,w4,w5,rfl⟩:=wm hS ct hK k3 k4 k5 k6 k7 k8 e1;exact Lq (eW ct k1) ct.calm (by rw[ct.N];exact dW k2) w1 w2 w3 w4 w5 nm.nd nm.ix (ct.YZ _ hl) hb hi (by rw[pS ct fX cA,h2]) λy=>k6.folded y
    . cases h
   . cases h
 |@Qc y i a b s p n kk T1 T qB it c1 co x py pos h1 h2 h3=>
  have hl:c.sc.names.lookup y=some .local:=by unfold Nc at h2;simp only[dS]at h2;exact eq_of_beq h2.1.1
  have cA:fJ c y=true:=by unfold fJ;rw[hl]
  have nm:=ct.nm h1 cA;unfold aM at h;dsimp only at h;split at h
  . cases h
  .
   rename_i hb;split at h
   .
    rename_i acc g1 e1;split at h
    .
     rename_i hi;cases h;cases h3.out with
     |cT k1 k2 k3 k4 k4' k5 k5' k6 k7 k8 k9 k10=>obtain⟨aj,g1,gE,w1,w2,w3,w4,w5,w6,w7,rfl⟩:=rP hS ct hK k3 k4 k4' k5 k5' k6 k7 k8 k9 k10 e1;exact Hr (eW ct k1) ct.calm (by rw[ct.N];exact dW k2) w1 w2 w3 w4 w5 w6 w7 nm.nd nm.ix (ct.YZ _ hl) hb hi (by rw[pS ct fX cA,h2]) (λy=>k6.folded y) λb y=>k8.folded y
    . cases h
   . cases h
 |@item y i ix e xj x pn c9 pos h1 h2 h3 h4 h5 h6=>
  obtain⟨hd,bH⟩:=dI h3;unfold aM at h;dsimp only at h;split at h
  .
   rename_i d g1 e1;split at h
   .
    rename_i l0 e2;split at h
    .
     rename_i n g2 e3;split at h
     .
      rename_i l e4;split at h
      . rename_i m e5;cases h;have hsw:swapsWithSole [.Subscript (.Name y pn) ix c9] e pos.line X.env=pure false:=pR h5 h6 (some (.Subscript (.Name y pn) ix c9)) pos.line X.env;have cA:swappedStores [.Subscript (.Name y pn) ix c9] e X.env=pure none:=Vg h5;exact Le (by rw[ct.N];exact h1) (ct.vis h2) hd bH (aY hS ct hK h5 e1) e2 (aY hS ct hK h4 e3) e4 e5 (Vf h4) hsw cA rfl
      . cases h
     . cases h
    . cases h
   . cases h
  . cases h
 |aug h1 h2 h3=>
  have nm:=ct.nm h1 h2;unfold aM at h;dsimp only at h;split at h
  . cases h
  .
   rename_i hb;split at h
   .
    rename_i d1 e1;split at h
    .
     rename_i d2 g1 e2;split at h
     . rename_i d e3;cases h;exact S9 nm hb (aY hS ct hK h3 e2) e1 (Nb e3)
     . cases h
    . cases h
   .
    rename_i e1;split at h
    .
     rename_i ho;subst ho;split at h
     .
      rename_i m g1 e2;split at h
      .
       rename_i l e3;split at h
       . rename_i hl;cases h;exact MF nm (aY hS ct hK h3 e2) e1 e3 hl
       . cases h
      . cases h
     . cases h
    . cases h
   . cases h
 |ite h1 h2 h3=>
  unfold aM at h;dsimp only at h;split at h
  . rename_i g1 e1;exact PK (hS.t ct hK h1 e1) (by rw[gL rfl];exact hS.b ct fX hK h2 h)
  . rename_i g1 e1;exact PK (hS.t ct hK h1 e1) (by rw[hZ i5];exact hS.b ct fX hK h3 h)
  . cases h
 |loop h1 h2 h3=>
  unfold aM at h;dsimp only at h;split at h
  . cases h
  .
   rename_i hb;split at h
   . rename_i aj g1 e1;exact SQ (zY ct) ct.calm (lM hS ct hK (rM h1) h2 e1) (rO ct hK h1 λi hi hm=>hb (by rw[List.any_eq_true];exact⟨i,hi,oD hm⟩)) (pQ (λe=>hS.b ct fX hK h3 e) h) λy=>h2.folded y
   . cases h
 | «while» h1 h2=>exact Gh (zY ct) (yO (λe=>hS.t ct hK h1 e) (λe=>hS.b ct fX hK h2 e) h)
 |raise h1 h2 h3=>cases h
 |stuck=>cases h
theorem yP(hS:gW P rn)(ct:aZ P k X c)(fX:c.df=true)(hK:z.K=X.K){ss:List Stmt}{x:Sm}{g g':G}{f:Fl}(h:Ny P (Cm P c) (DX P c) c ss x)(e:aM rn z.bor k x g=some (f,g')):pq X z ss g f g':=by
 cases h with
 |@mk y v fx ic fi ir l ls e0 es ss st scope N' kb j qA op rhs ret b py lp pos fp vp cp tp ip lcp cmp h1 h2 h3 h4 h5 h6 h7 h8 h9 h10 h11=>
  unfold aM at e;dsimp only at e;split at e
  .
   rename_i hg;split at e
   .
    rename_i ds gx e1;split at e
    .
     rename_i r2 g2 e2;split at e
     .
      rename_i d2 p2;split at e
      .
       rename_i cc e3;obtain⟨ds',hr,⟨q,cc0,mk⟩,hm,he⟩:=hS.g (fp:=fp) (vp:=vp) (cp:=cp) ct hK h6 h8 e1;cases hr;obtain⟨dy,cdy⟩:=dI h4;have hN:X.N[ic]?=some y:=by rw[ct.N];exact h1
       have vy:=ct.vis h3;have WD:=ct.nm h1 h2;have Qi:∃t,PE X (.ListComp (.Call (.Name fx fp) [.Name v vp] [] cp) [⟨.Name v tp,.Name y ip,[],0⟩] scope lcp) t/\∀σ H M0 H0 Q,LL X z g jd ic M0 H0 (l::ls) σ H->Kn z g σ M0 H0 (.new ds) Q->t σ H Q:=by refine vQ h8.lt (by rw[ct.N];exact dW h8.nm) (eW ct h8.bl) ct.calm hN vy dy cdy (λbk=>(ct.blk h8.nd bk).nm (by rw[ct.N];exact h8.ix) h8.st) (by simp only[l5];lia) he
       have Fe:=bA (hS.e ct hK h9 e2);cases h11 with
       |ite hs=>
        rename_i s1 x1 ipos;rw[hZ ⋯]at e;refine mH hK mk WD.nd hN WD.lc WD.fn vy dy cdy hg h5 hm h7 (Hi Qi Fe p2 (jE hK ct.room e3) h10 ?_);cases cc with
        |true=>rw[gL rfl]at e;exact hS.b ct fX hK (.cons hs .nil) e
        |false=>rw[hZ ⋯]at e;cases e;exact FZ
       |ret=>rw[gL rfl]at e;cases e;exact mH hK mk WD.nd hN WD.lc WD.fn vy dy cdy hg h5 hm h7 (CG Qi Fe p2 (jE hK ct.room e3) h10)
      . cases e
     . cases e
    . cases e
   . cases e
  . cases e
theorem pW(hS:gW P rn)(ct:aZ P k X c)(fX:c.df=true)(hK:z.K=X.K):∀{jq:List Stmt}{xs:List Sm}{g g':G}{f:Fl},xu P c jq xs->jm rn z.bor k xs g=some (f,g')->cH X z jq g f g'
 |_,_,_,_,_,.nil,h=>by cases h;exact FZ
 |_,_,_,_,f,.grp h1 h2,h=>by
  unfold jm at h;split at h
  . rename_i g1 e1;exact (yP hS ct fX hK h1 e1).bk (pW hS ct fX hK h2 h)
  . rename_i hn e1;cases h;exact (yP hS ct fX hK h1 e1).end λe=>hn e
  . cases h
 |_,_,_,_,f,.cons h1 h2,h=>by
  unfold jm at h;split at h
  . rename_i g1 e1;exact La (pU hS ct fX hK h1 e1) (pW hS ct fX hK h2 h)
  .
   rename_i hn e1;cases h;have q:=pU hS ct fX hK h1 e1;cases f with
   |nx=>exact absurd rfl hn
   |rt r=>exact Sv q
   |bk=>exact Sw q
   |ct=>exact Sx q
  . cases h
end
theorem N6{P:Pg}{k:Nat}{prog:Program}{w:World}{K:Frag}{mg:Str->Option Value}{base:Heap}{N ps:List Str}{qual:Str}{scope:Scope}{f:Addr}{bE:Value}{A:Around}{outer:List Env}{s:Shared}{H:Hp}{E:XK}
  (S:bU N ps scope) (md:tV P K mg) (bH:PySem.W.codeIn K bE qual=true) (hr:bQ k (A.deeper (envOfC qual scope s⁻¹ f bE))):NZ P k (fh (DT prog w) prog w K mg base N qual scope f bE A outer s H E) ⟨N,scope,true,qual⟩:=by
 refine⟨⟨rfl,S.nd,λx e=>e,λx e=>e,λx e=>e,λ_ x e=>e,λx _=>rfl,λ_=>?_,rfl,rfl,md,hr,λe h=>⟨by have e:qual = "law" :=e;subst e;rfl,md.lam h _ (by have e:qual = "law" :=e;exact e▸bH)⟩⟩,rfl,PassesOwn.leaving⟩
 show (if scope.kind.isAnnotationScope then ScopeKind.function else scope.kind)=.function
 rw[S.kind];rfl
section
theorem kJ(hS:gW P rn)(hX:lN P rn)(cx:NZ P k X c)(hK:z.K=X.K)(hC:jo P X.mg ci C):∀{es:List Expr}{xs:List Ex}{g g':G},zT P c es xs->xArgs rn z.bor k xs g=some (ci,g')->Tf X z es g C g'
 |_,_,_,_,.nil,h=>by cases h
 |_,_,_,_,.cons h1 h2,h=>by
  unfold xArgs at h;split at h
  . rename_i e1;cases h;exact LQ (hX.x cx hK hC h1 e1) (h1.star _)
  .
   split at h
   . rename_i r g1 e1;exact LR (hS.e (X:=X.iS) cx.ct hK h1 e1).lift (kJ hS hX cx hK hC h2 h) (h1.star _)
   . cases h
theorem Ie(hS:gW P rn)(hX:lN P rn){fns:List Fx}(hF:fL P fns)(cx:NZ P k X c)(hK:z.K=X.K)(hC:jo P X.mg ci C){e:Expr}{x:Ex}{g g':G}(hc:Cm P c e x)(h:v7 rn z.bor k fns x g=some (ci,g')):zD X z e g C g':=by
 have ct:=cx.ct;cases hc.out with
 |@blt x b e es xs p pos h1 h2 h3 h4=>
  have ha:=kJ hS hX cx hK hC h4 h;have cA:starEach (e::es) X.env=(false,eval e X.env)::starEach es X.env:=by cases h4 with |cons hh _=>exact hh.star _
  have dQ:(backTo pos (starEach es X.env)).any (·.1)=false:=by cases h4 with |cons _ hh=>exact hh.plain
  have hg:Gl X x:=ct.jD _ h3;have hm:X.mg x=none:=ct.md.bn _ h2;subst h1;cases b with
  |len=>exact eF ha hg hm rfl ⋯ ⋯ cA dQ
  |list=>exact lD ha hg hm rfl ⋯ ⋯ cA dQ
  |tuple=>exact lD ha hg hm rfl ⋯ ⋯ cA dQ
  |max=>exact eF ha hg hm rfl ⋯ ⋯ cA dQ
  |min=>exact eF ha hg hm rfl ⋯ ⋯ cA dQ
  |str=>exact lD ha hg hm rfl ⋯ ⋯ cA dQ
  |all=>exact eF ha hg hm rfl ⋯ ⋯ cA dQ
  |any=>exact eF ha hg hm rfl ⋯ ⋯ cA dQ
  |sorted=>exact eF ha hg hm rfl ⋯ ⋯ cA dQ
  |sum=>exact eF ha hg hm rfl ⋯ ⋯ cA dQ
 |@call x f fi e es xs p pos h1 h2 h3 h4=>
  subst h2;have cA:starEach (e::es) X.env=(false,eval e X.env)::starEach es X.env:=by cases h4 with |cons hh _=>exact hh.star _
  have dQ:(backTo pos (starEach es X.env)).any (·.1)=false:=by cases h4 with |cons _ hh=>exact hh.plain
  obtain⟨fa,fd,hm,WK,Vd,hB,gX⟩:=ct.md.fn _ fi h1;unfold v7 at h;dsimp only at h;split at h
  .
   rename_i r e1;cases h;cases k with
   |zero=>
    have F:iT X.prog X.w X.K X.mg X.base uI (0+1) fa fd fi.ps (Lf X.K fi.N fi.ps.length λ_ _ _ _=>False):=zB WK Vd λ_ _ _ _ _ _ _ _ _ _ _ _ _ h=>h.elim
    obtain⟨t,q,kk⟩:=kJ hS hX cx hK hC h4 e1;refine⟨_,?_,λσ As M H Q s ac=>kk σ As M H (λ_ _=>False) s ac⟩
    intro ah s σ H Q I ht;refine rV (eU I (ct.jD _ h3) hm ?_ gX);exact AG (h₀:=X.base) I.ok.mod.DP WK.kp (bJ (q pos ah s σ H _ I ht) λus s1 ⟨_,_,_,_,h⟩=>h.elim) cA dQ
   |succ k'=>
    have F:iT X.prog X.w X.K X.mg X.base uI (k'+1) fa fd fi.ps (Lf X.K fi.N fi.ps.length λ_ _ _ _=>False):=zB WK Vd λ_ _ _ _ _ _ _ _ _ _ _ _ _ h=>h.elim
    exact Gu F (kJ hS hX cx hK hC h4 e1) ct.room (ct.jD _ h3) hm WK.kp hB gX cA dQ
  .
   cases uH:fns[f]? with
   |none=>rw[uH]at h;cases h
   |some fx=>
    rw[uH]at h;cases k with
    |zero=>cases h
    |succ k'=>
     dsimp only at h;split at h
     .
      rename_i rs g1 e1;have Vh:=hF _ _ _ h1 uH;have F:iT X.prog X.w X.K X.mg X.base (DT X.prog X.w) (k'+1) fa fd fi.ps (SpX X.K fi.N fi.ps.length λbor g C g'=>∃ci,jo P X.mg ci C/\rn.xb bor k' fx.body g=some (ci,g')):=by
       refine Tn WK Vd λbE A outer s H E bH hr z' g C g' Wv ⟨ci,hci,hrun⟩=>?_
       exact hX.b (N6 Vd ct.md bH hr) rfl Wv hci Vh.body hrun
      unfold rK at h;split at h
      .
       rename_i hl;split at h
       . cases h
       .
        rename_i gs e2;split at h
        .
         rename_i ci' gc e3;split at h
         .
          rename_i gO e4;cases h;have ha:=kI hS (X:=X.iS) ct hK h4 e1;have ha':cO X z (e::es) g rs g1:=by
           obtain⟨t,q,kk⟩:=ha;refine⟨t,λpos ah s σ H Q I hw=>?_,kk⟩
           exact i9 (q pos ah s σ H Q (I.wish _) hw) (λ_ _ ⟨v,H',I',r,q⟩=>⟨v,H',I'.cg,r,q⟩) λ_ _ z=>False.elim z
          exact L5 F hK cx.ex ct.room (ct.jD _ h3) hm WK.kp hB ha' (by rw[hl.1,Vh.np]) e2 hl.2 ⟨ci,hC,by rw[<- Vh.n];exact e3⟩ e4 gX cA dQ
         . cases h
        . cases h
      . cases h
     . cases h
 |_=>cases h
theorem Dg(hX:lN P rn)(cx:NZ P k X c)(hK:z.K=X.K)(hC:jo P X.mg ci C){e:Expr}{x:Ex}{g g':G}(hc:Cm P c e x)(h:tU rn z.bor k x g=some (ci,g')):Wo X z e g C g':=by
 cases hc.out with
 |not h1=>exact LK (hX.t cx hK hC h1 h)
 |call h1 h2 h3 h4=>exact Gq (hX.x cx hK hC hc h) λ_=>rfl
 |blt h1 h2 h3 h4=>exact Gq (hX.x cx hK hC hc h) λ_=>rfl
 |_=>cases h
theorem fy.lift{st:Stmt}{g g':G}{f:Fl}(h:fy X.iS z st g f g'):fy X z st g f g':=by
 obtain⟨t,q,k⟩:=h;refine⟨t,λah s σ H D I hw=>?_,k⟩
 exact i9 (q ah s σ H D (I.wish _) hw) (λ_ _ q=>q.cg) λ_ _ z=>False.elim z
theorem pX{T:Tg}{body:List Stmt}{b:G->Option (Fl×G)}{x:G->Option (Nat×G)}(hb:∀{g g':G}{f:Fl},b g=some (f,g')->cH X z body g f g')(hx:∀{g g':G},x g=some (ci,g')->Gp X z body g C g'):∀{aj:List D}{g g':G},v8 T b x aj g=some (ci,g')->gq X z body T C aj g g'
 | [],_,_,h=>by cases h
 |d::l,_,_,h=>by
  unfold v8 at h;split at h
  . cases h
  .
   rename_i g0 e0;split at h
   . rename_i e1;cases h;exact .here e0 (hx e1)
   .
    split at h
    . rename_i g1 e1;exact .next e0 (hb e1) (pX hb hx h)
    . rename_i g1 e1;exact .cont e0 (hb e1) (pX hb hx h)
    . cases h
theorem N7{tg iter:Expr}{g g':G}{aj:List D}(h:cX X.iS z tg iter g aj g'):cX X z tg iter g aj g':=by
 obtain⟨wi,q,k⟩:=h;refine⟨wi,λah s σ H R I hw=>?_,k⟩
 refine i9 (q ah s σ H R (I.wish _) hw) (λv s1 h1=>i9 h1 (λitv s2 h2=>?_) λ_ _ z=>False.elim z) λ_ _ z=>False.elim z
 obtain⟨it,fp,tn,J,H',e1,I',T,st,f2,r⟩:=h2;exact⟨it,fp,tn,J,H',e1,I'.cg,T,st,f2,r⟩
theorem N8{tg:Expr}{T:Tg}(h:eu X.iS z tg T):eu X z tg T:=by
 obtain⟨t,q,k⟩:=h;refine⟨t,λah s σ H v u Q I r hw=>?_,k⟩
 exact i9 (q ah s σ H v u Q (I.wish _) r hw) (λ_ _ ⟨σ',H',I',q⟩=>⟨σ',H',I'.cg,q⟩) λ_ _ z=>False.elim z
theorem Dh(hS:gW P rn)(hX:lN P rn)(cx:NZ P k X c)(fX:c.df=true)(hK:z.K=X.K)(hC:jo P X.mg ci C){s:Stmt}{x:Sm}{g g':G}(hc:DX P c s x)(h:jC rn z.bor k x g=some (ci,g')):LC X z s g C g':=by
 have ct:=cx.ct;cases hc.out with
 |ret h1=>exact Ti (hX.x cx hK hC h1 h)
 |expr h1 h2=>exact LW (hX.x cx hK hC h1 h) (pR h1 h2 _ _ _)
 |ite h1 h2 h3=>
  unfold jC at h;dsimp only at h;split at h
  . rename_i e1;cases h;exact Tj (hX.t cx hK hC h1 e1)
  .
   split at h
   . rename_i g1 e1;exact Gr (v:=true) (hS.t (X:=X.iS) ct hK h1 e1).lift (by rw[gL rfl];exact hX.b cx fX hK hC h2 h)
   . rename_i g1 e1;exact Gr (v:=false) (hS.t (X:=X.iS) ct hK h1 e1).lift (by rw[hZ i5];exact hX.b cx fX hK hC h3 h)
   . cases h
 |@raise x ci' m xm np bh pos h1 h2 h3=>
  unfold jC at h;dsimp only at h;split at h
  .
   rename_i d g1 e1;cases h;obtain⟨y,q1,q2⟩:=hC;rw[h1]at q1;cases q1;obtain⟨gX,C',q3,q4⟩:=ct.md.cls x (l6 h1);have e:C'=C:=by have:=q3.symm.trans q2;cases this;rfl
   subst e;exact Gs ct.calm cx.ex q4 (ct.jD _ h2) q2 gX (dM (aY hS (X:=X.iS) ct hK h3 e1).lift fj (h3.star _)) (h3.star _)
  . cases h
 |@loop tg iter T it b xb pos h1 h2 h3=>
  unfold jC at h;dsimp only at h;split at h
  . cases h
  .
   rename_i hb;split at h
   . rename_i aj g1 e1;refine Tq cx.pa ct.calm (N7 (lM hS (X:=X.iS) ct hK (rM h1) h2 e1)) (N8 (rO (X:=X.iS) ct hK h1 λi hi hm=>hb (by rw[List.any_eq_true];exact⟨i,hi,oD hm⟩))) (pX (λe=>(hS.b (X:=X.iS) ct fX hK h3 e).lift) (λe=>hX.b cx fX hK hC h3 e) h) λy=>h2.folded y
   .
    cases h2 with
    |dP _ _ _=>cases h
    |fG _ _ _ _=>cases h
    |zip _ _ _ _=>cases h
    |seq h2=>
     have h':rn.x z.bor k it g=some (ci,g'):=by cases h2.out <;> exact h
     exact L7 cx.pa ct.calm (hX.x cx hK hC h2 h') λy=>h2.folded y
 |_=>cases h
theorem lO(hS:gW P rn)(hX:lN P rn)(cx:NZ P k X c)(fX:c.df=true)(hK:z.K=X.K)(hC:jo P X.mg ci C):∀{jq:List Stmt}{xs:List Sm}{g g':G},xu P c jq xs->gw rn z.bor k xs g=some (ci,g')->Gp X z jq g C g'
 |_,_,_,_,.nil,h=>by cases h
 |_,_,_,_,.grp h1 h2,h=>by
  unfold gw at h;split at h
  . rename_i e1;cases h1 <;> cases e1
  .
   split at h
   . rename_i g1 e1;exact ((yP (X:=X.iS) hS cx.ct fX hK h1 e1).lift).ra (lO hS hX cx fX hK hC h2 h)
   . cases h
 |_,_,_,_,.cons h1 h2,h=>by
  unfold gw at h;split at h
  . rename_i e1;cases h;exact L0 (Dh hS hX cx fX hK hC h1 e1)
  .
   split at h
   . rename_i g1 e1;exact L1 (pU (X:=X.iS) hS cx.ct fX hK h1 e1).lift (lO hS hX cx fX hK hC h2 h)
   . cases h
end
theorem wu{P:Pg}{fns:List Fx}(hF:fL P fns):∀n,gW P (run fns n)/\lN P (run fns n)
 | 0=>⟨⟨λ_ _ _ h=>(by cases h),λ_ _ _ h=>(by cases h),λ_ _ _ _ h=>(by cases h),λ_ _ _ _ h=>(by cases h)⟩,⟨λ_ _ _ _ h=>(by cases h),λ_ _ _ _ h=>(by cases h),λ_ _ _ _ _ h=>(by cases h)⟩⟩
 |n+1=>
  let ⟨a,b⟩:=wu hF n
  ⟨⟨λct hK hc h=>Ib a b hF ct hK hc h,λct hK hc h=>Ic a ct hK hc h,λct fX hK hc h=>pW a ct fX hK hc h,λct hK hl B h=>Ia a b hF ct hK hl B h⟩,
  ⟨λcx hK hC hc h=>Ie a b hF cx hK hC hc h,λcx hK hC hc h=>Dg b cx hK hC hc h,λcx fX hK hC hc h=>lO a b cx fX hK hC hc h⟩⟩
theorem N9{P:Pg}{fns:List Fx}(hF:fL P fns)(n:Nat):gW P (run fns n):=(wu hF n).1
def cz(K:Frag)(mg:Str->Option Value)(fi:Fi):Prop:=
 ∃f fd,mg fi.name=some (.ref f)/\JF K fi.name fi.qual fi.st f fd/\bU fi.N fi.ps (aC fi.st)/\(∀us:List Value,us.length=fi.ps.length->bindArgs fd ⟨us,[]⟩=pure (fi.ps.zip us))/\(fi.name==("__debug__":Str))=false
def Vi(K:Frag)(mg:Str->Option Value)(p:Str×D):Prop:=(p.1==("__debug__":Str))=false/\∃v u,mg p.1=some u/\RelV v u/\∀M H,Rep K M H p.2 v
inductive All{α:Type}(p:α->Prop):List α->Prop
 |nil:All p []
 |cons {a:α}{l:List α}:p a->All p l->All p (a::l)
theorem All.mem{α:Type}{p:α->Prop}:∀{l:List α},All p l->∀a∈l,p a
 |_,.nil,_,h=>nomatch h
 |_,.cons h t,a,hm=>(d5.mp hm).elim (λe=>e▸h) (All.mem t a)
structure Vj(P:Pg)(K:Frag)(mg:Str->Option Value):Prop where
 lam:P.lam=true->∀bE,PySem.W.codeIn K bE "law"=true->Hy K mg bE
 gU:∀(i:Nat) (C:Addr),P.gU[i]?=some C->∃x,P.cls[i]?=some x/\mg x=some (.ref C)/\eS K C/\Fp K C
 kt:P.lam=true->(P.kt==("__debug__":Str))=false/\∃D,mg P.kt=some (.ref D)/\eS K D/\∀C∈P.gU,tQ K C D=true
 ups:∀(x:Str) (l:List (Addr×Bool)),(x,l)∈P.ups->(x==("__debug__":Str))=false/\∃cv,((mg x=some cv/\∃D,cv=.ref D)\/(x∈P.bn/\x≠ "__name__" /\bootBuiltins x=some cv/\∃n,cv=.type n))/\PySem.W.kitOne K (.type "NoneType") cv=some false/\∀C b,l.lookup C=some b->PySem.W.kitOne K (.ref C) cv=some b
theorem Zt{P:Pg}{K:Frag}{mg:Str->Option Value}(h1:All (cz K mg) P.fn)(h2:All (Vi K mg) P.ct)(h3:All (λx=>mg x=none) P.bn)(h4:All (λx=>(x==("__debug__":Str))=false/\∃C,mg x=some (.ref C)/\eS K C) P.cls)(h5:Vj P K mg):tV P K mg:=
 ⟨λi fi e=>let ⟨f,fd,q1,q2,q3,q4,q5⟩:=h1.mem fi (l6 e);⟨f,fd,q1,q2,q3,.all q4,q5⟩,λx d h=>h2.mem (x,d) h,λx h=>h3.mem x h,λx h=>h4.mem x h,h5.lam,h5.gU,h5.kt,h5.ups⟩
def BdOk(fi:Fi):Prop:=∀(kV doc pm:Value) (an:Option Addr) (bE ct:Value) (us:List Value),us.length=fi.ps.length->bindArgs (PySem.W.fnOf fi.name fi.qual (iJ fi.st) (bB fi.st) (aC fi.st) .none kV doc pm an bE ct) ⟨us,[]⟩=pure (fi.ps.zip us)
section
variable{K:Frag}
theorem Zu{fi:Fi}{oc:Value}{od an:Option Addr}{osl:Array (Option Value)}{kV doc pm bE ct:Value}(X:K.In h)(G:h.Ns mainGlobals mg)(a:PySem.W.nsIn K mainGlobals fi.name=some (some (.ref f)))
  (l:K.lookup f=some ⟨oc,od,.func (PySem.W.fnOf fi.name fi.qual (iJ fi.st) (bB fi.st) (aC fi.st) .none kV doc pm an bE ct),osl⟩) (c:PySem.W.codeIn K bE fi.qual=true) (k:PySem.W.keepIn K (.ref f)=true)
  (sc:bU fi.N fi.ps (aC fi.st)) (hb:BdOk fi)
  (hd:(fi.name==("__debug__":Str))=false):cz K mg fi:=
 let F:=Rp (x:=fi.name) (qual:=fi.qual) (st:=fi.st) l c k
 ⟨f,_,B9 X G a,F,sc,hb kV doc pm an bE ct,hd⟩
theorem Vk{x:Str}{i:Int}{t:Tok}(X:K.In h)(G:h.Ns mainGlobals mg)(a:PySem.W.nsIn K mainGlobals x=some (some (.int i t)))(hd:(x==("__debug__":Str))=false):Vi K mg (x,.int i):=
 ⟨hd,.int i,.int i t,B9 X G a,⟨t,rfl⟩,λ_ _=>.int i⟩
theorem Qj{x:Str}{C:Addr}(X:K.In h)(G:h.Ns mainGlobals mg)(a:PySem.W.nsIn K mainGlobals x=some (some (.ref C)))(q:eS K C)(hd:(x==("__debug__":Str))=false):(x==("__debug__":Str))=false/\∃C,mg x=some (.ref C)/\eS K C:=
 ⟨hd,C,B9 X G a,q⟩
theorem Vl{P:Pg}{fns:List Fx}{prog:Program}{w:World}{base:Heap}(hF:fL P fns)(md:tV P K mg){i:Nat}{fi:Fi}{fx:Fx}{x:Str}{fd:FuncData}{n k:Nat}(Ub:P.fn[i]?=some fi)(uH:fns[i]?=some fx)(hp:fi.ps=[x])(F:JF K fi.name fi.qual fi.st f fd)(sc:bU fi.N fi.ps (aC fi.st)) :
  iT prog w K mg base uI (k+1) f fd [x] (Lf K fi.N 1 λbor g r g'=>(run fns n).b bor k fx.body g=some (.rt r,g')):=by
 have:=zB (P:=prog) (w:=w) (mg:=mg) (base:=base) (k:=k) (N:=fi.N) (ps:=fi.ps) (run:=λbor g r g'=>(run fns n).b bor k fx.body g=some (.rt r,g')) F sc λbE A outer s H E bH hr z g r g' hK hrun=>
  ⟨_,(N9 hF n).b (pP sc md bH hr) rfl hK (hF i fi fx Ub uH).body hrun,.inl rfl⟩
 rw[hp]at this;exact this
theorem Ig{P:Pg}{fns:List Fx}{prog:Program}{w:World}(hF:fL P fns)(md:tV P K mg){i:Nat}{fi:Fi}{fx:Fx}{x:Str}{n k:Nat}(Ub:P.fn[i]?=some fi)(uH:fns[i]?=some fx)(hp:fi.ps=[x])(h:cz K mg fi)(hm:mg fi.name=some (.ref f)) :
  ∃fd:FuncData,(∀(s:Shared) (u:Value),BindsTo s fd ⟨[u],[]⟩ [(x,u)])/\∀base:Heap,K.In base->base.Ns mainGlobals mg->iT prog w K mg base uI (k+1) f fd [x] (Lf K fi.N 1 λbor g r g'=>(run fns n).b bor k fx.body g=some (.rt r,g')):=by
 obtain⟨f',fd,q1,q2,q3,q4,q5⟩:=h;rw[hm]at q1;cases q1;refine⟨fd,λs u=>.of_eq ?_,λbase _ _=>Vl hF md Ub uH hp q2 q3⟩
 have:=q4 [u] (by rw[hp];rfl)
 rw[hp]at this;exact this
theorem Vm{N:List Str}{run:List Nat->G->R->G->Prop}(hev:∀ns:List Int,ns.length<=63->∃g',run [] (dG N.length [.dat (.fix (ns.map .int))]) (.dat (.bl true)) g')(K:Frag)(H:Hp)(a:Addr)(ns:List Int)(hl:ns.length<=63)(hO:zJ ((cF K).map (·.1)) H)(hS:bN K H a (ns.map V.int)) :
  Lf K N 1 run [.ref a] H (λv _=>v=.bl true) λ_ _ _=>False:=by
 obtain⟨g',hg⟩:=hev ns hl;have fx:oz K ((cF K).map (·.1)) H a (ns.map V.int):=by
  rcases hS with h |h
  .
   rcases hO a with ⟨_,z⟩ |⟨na,z⟩
   . rcases h with h |⟨o,h⟩ <;> (rw[z]at h;cases h)
   .
    refine .inl ⟨na,?_⟩;rcases h with h |h
    .
     rcases z with z |⟨o,xs,z⟩
     . rw[z]at h;cases h
     . rw[z]at h;cases h
    . exact h
  . exact .inr (.inr h)
 have rr:∀ns:List Int,aG K ((cF K).map (·.1)) H (ns.map D.int) (ns.map V.int):=λns=>by
  induction ns with
  |nil=>exact .nil
  |cons n ns ih=>exact .cons (.int n) ih
 have tb:∀p∈cF K,H p.1=some (.kN #[]):=λp hp=>by
  rcases hO p.1 with ⟨_,z⟩ |⟨z,_⟩
  . exact z
  . exact absurd (i8.mpr ⟨p,hp,rfl⟩) z
 refine⟨rfl,⟨K,H,(cF K).map (·.1),[],cF K⟩,dG N.length [.dat (.fix (ns.map .int))],g',[],(cF K).map (·.1),.dat (.bl true),rfl,?_,hg,λv σ' az M' H' s' st R=>eV R⟩
 refine⟨?_,u4,(λa ha=>nomatch ha),λi b l e1 e2=>?_,(λm hm=>.inr hm),(λb o e _ _=>e),(λm hm=>hm),(λm hm=>?_),(λb hb=>nomatch hb),(λp hp=>nomatch hp),(λp hp=>⟨#[],tb p hp,trivial,λpos cv e=>nomatch e⟩),(λp hp=>i8.mpr ⟨p,hp,rfl⟩),rfl⟩
 . exact Slots.append (A1:=[]) (.dat (.fix fx (rr ns)) .nil) (Slots.nos _)
 .
  exfalso;unfold dG at e1;cases i with
  |zero=>simp at e1
  |succ i=>rw[eC ⋯]at e1;have:=l6 e1;rw[vS]at this;exact absurd this.2 ⋯
 . obtain⟨p,hp,rfl⟩:=i8.mp hm;intro z;have z:H p.1=none:=z;rw[tb p hp]at z;cases z
end
noncomputable abbrev Fi.ct(fi:Fi):Ct:=⟨fi.N,aC fi.st,true,fi.qual⟩
def zZ(P:Pg)(fi:Fi)(fx:Fx):List Stmt:=qG (U9 P 99 (Qe P 99 20 fi.ct) fi.ct) (Qe P 99 20 fi.ct) fx.body (bB fi.st)
def fxB(P:Pg)(fi:Fi)(fx:Fx):Bool:=decide (fx.np=fi.ps.length)&&(decide (fx.n=fi.N.length)&&JZ (Va P 99 (Qf P 99 20 fi.ct) fi.ct) (Qf P 99 20 fi.ct) fx.body (bB fi.st))
theorem Vn{P:Pg}{fi:Fi}{fx:Fx}(e:zZ P fi fx=bB fi.st)(h:fxB P fi fx=true):N1 P fi fx:=⟨dec (ak h).1,dec (ak (ak h).2).1,Eq.mp (congrArg (λl=>xu P fi.ct l fx.body) e) (xu.mk (ak (ak h).2).2)⟩
def Ih(P:Pg):List Fi->List Fx->Bool
 |fi::l,fx::r=>fxB P fi fx&&Ih P l r
 |_,_=>true
theorem Oa{P:Pg}{l:List Fi}{r:List Fx}(e:List.zipWith (zZ P) l r=l.map λfi=>bB fi.st)(h:Ih P l r=true)(f:Nat)(fi:Fi)(fx:Fx)(h1:l[f]?=some fi)(h2:r[f]?=some fx):N1 P fi fx:=by
 induction l generalizing r f with
 |nil=>cases h1
 |cons a l ih=>cases r with
  |nil=>cases h2
  |cons b r=>
   have h:(fxB P a b&&Ih P l r)=true:=h;cases f with
   |zero=>cases h1;cases h2;exact Vn (List.cons.inj e).1 (ak h).1
   |succ f=>exact ih (List.cons.inj e).2 (ak h).2 f h1 h2
theorem Vo{P:Pg}{fns:List Fx}(h:Ih P P.fn fns=true)(e:List.zipWith (zZ P) P.fn fns=P.fn.map λfi=>bB fi.st):fL P fns:=λf fi fx h1 h2=>Oa e h f fi fx h1 h2
theorem Zv{us:List Value}(h:us.length=1):∃a,us=[a]:=by
 cases us with
 |nil=>cases h
 |cons a us=>cases us with
  |nil=>exact⟨a,rfl⟩
  |cons _ _=>cases h
theorem Zw{us:List Value}(h:us.length=2):∃a b,us=[a,b]:=by
 cases us with
 |nil=>cases h
 |cons a us=>obtain⟨b,rfl⟩:=Zv (B0 h);exact⟨a,b,rfl⟩
theorem len3{us:List Value}(h:us.length=3):∃a b c,us=[a,b,c]:=by
 cases us with
 |nil=>cases h
 |cons a us=>obtain⟨b,c,rfl⟩:=Zw (B0 h);exact⟨a,b,c,rfl⟩
def cL(st:Stmt):Fi:=match st with
 |.FunctionDef name args _ _ _ _ scope _ _ _=>⟨name,name,st,(args.args.map (·.arg))++scope.names.filterMap (λy=>if (y.2==.local||y.2==.cell)&&!(args.args.map (·.arg)).contains y.1 then some y.1 else none),args.args.map (·.arg)⟩
 |st=>⟨"", "",st,[],[]⟩
section
theorem wz(ds:List D):∀i,vars i (ds.map R.dat)=[]:=by
 induction ds with
 |nil=>intro i;rfl
 |cons d ds ih=>intro i;exact ih (i+1)
theorem wA(ds:List D):dF (ds.map R.dat) g1=some (ds.map .dat):=by
 induction ds with
 |nil=>rfl
 |cons d ds ih=>
  show (match dF (ds.map R.dat) g1 with |some gs=>some (Slot.dat d::gs) |none=>none)=_
  rw[ih];rfl
noncomputable def Ob:List D->G
 | []=>[]
 |d::l=>.dat d::Ob l
theorem z5(ds:List D):Ob ds=ds.map .dat:=by
 induction ds with
 |nil=>rfl
 |cons d ds ih=>rw[Ob,ih];rfl
def bq(rn:Rn)(k:Nat)(fx:Fx)(ds:List D):Option R:=match rn.b [] k fx.body (dG fx.n (Ob ds))with
 |some (.rt r,gc)=>cW [] gc r
 |some (.nx,_)=>some (.dat .non)
 |_=>none
theorem lP{fx:Fx}{ds:List D}(hl:ds.length=fx.np):dH rn fx k (ds.map .dat) g1=(bq rn k fx ds).map λr=>(r,g1):=by
 unfold dH bq;rw[wz,wA,z5];simp only[d6,hl,List.map_nil,u4,and_self,AI];cases rn.b [] k fx.body (dG fx.n (ds.map .dat))with
 |none=>rfl
 |some p=>
  obtain⟨f,gc⟩:=p;cases f with
  |nx=>rfl
  |rt r=>simp only[back];cases cW [] gc r <;> rfl
  |bk=>rfl
  |ct=>rfl
noncomputable def gM(g m:G)(acc:List D):G:=g++(m++[.own acc])
theorem rQ{g m:G}{acc:List D}{i:Nat}(h:i<g.length):(gM g m acc)[i]?=g[i]?:=by unfold gM;rw[eD h]
theorem jH{g m:G}{acc:List D}{i:Nat}(h:i<m.length):(gM g m acc)[g.length+i]?=m[i]?:=by unfold gM;rw[eC ⋯,l4,eD h]
theorem z6{g m:G}{acc:List D}:(gM g m acc)[g.length+m.length]?=some (.own acc):=by unfold gM;rw[eC ⋯,l4,eC (eJ _),A4];rfl
theorem jI{g m:G}{acc:List D}{i:Nat}{s:Slot}(h:i<m.length):(gM g m acc).set (g.length+i) s=gM g (m.set i s) acc:=by unfold gM;rw[u8 _ _ ⋯,l4,List.set_append_left _ _ h]
theorem wB{g m:G}{acc acc':List D}:(gM g m acc).set (g.length+m.length) (.own acc')=gM g m acc':=by unfold gM;rw[u8 _ _ ⋯,l4,u8 _ _ (eJ _),A4];rfl
theorem Oc{g m:G}{acc:List D}:(gM g m acc).take g.length=g:=by unfold gM;simp
theorem Zx{kk:Nat}:gC kk g=gM g (List.replicate kk .no) []:=rfl
theorem um{α:Type}{T:Tg}{last kk:Nat}{c:Option Ex}{e:Ex}(nh:α->D)(f:α->D)(p:α->Bool)(st:α->G->G)(gF:last=g.length+kk)(cA:∀d m,m.length=kk->(st d m).length=kk) :
  ∀(aj:List α) (m:G) (acc:List D),m.length=kk->acc.length+aj.length<=lim->
  (∀d∈aj,∀m acc,m.length=kk->T.set (nh d) (gM g m acc)=some (gM g (st d m) acc))->
  (∀d∈aj,∀m acc,m.length=kk->P8 rn bor k c (gM g (st d m) acc)=some (p d,gM g (st d m) acc))->
  (∀d∈aj,p d=true->∀m acc,m.length=kk->eH rn bor k e (gM g (st d m) acc)=some (f d,gM g (st d m) acc))->
  ∃m',m'.length=kk/\M7 rn bor k T last c e (aj.map nh) (gM g m acc)=some (gM g m' (acc++(aj.filter p).map f))
 | [],m,acc,hm,_,_,_,_=>⟨m,hm,by simp[M7]⟩
 |d::aj,m,acc,hm,hl,hT,hi,he=>by
  rw[l5]at hl;have q1:=hT d dL m acc hm;have q2:=hi d dL m acc hm;have hm':=cA d m hm;rw[List.map_cons];unfold M7;rw[q1];dsimp only;rw[q2];cases hp:p d with
  |false=>
   dsimp only;obtain⟨m',w1,w2⟩:=um nh f p st gF cA aj (st d m) acc hm' ⋯ (λx hx=>hT x (dA _ hx)) (λx hx=>hi x (dA _ hx)) (λx hx=>he x (dA _ hx))
   exact⟨m',w1,by rw[w2,List.filter_cons,hp];rfl⟩
  |true=>
   have q3:=he d dL hp m acc hm;dsimp only;rw[q3];dsimp only;have q4:(gM g (st d m) acc)[last]?=some (.own acc):=by rw[gF,<- hm'];exact z6
   rw[q4];dsimp only;rw[gL ⋯];have q5:(gM g (st d m) acc).set last (.own (acc++[f d]))=gM g (st d m) (acc++[f d]):=by rw[gF,<- hm'];exact wB
   rw[q5];obtain⟨m',w1,w2⟩:=um nh f p st gF cA aj (st d m) (acc++[f d]) hm' (by rw[fR,nV];lia) (λx hx=>hT x (dA _ hx)) (λx hx=>hi x (dA _ hx)) (λx hx=>he x (dA _ hx))
   refine⟨m',w1,?_⟩;rw[w2,List.filter_cons,hp];simp
theorem rR{α:Type}{kk nn:Nat}{T:Tg}{it:Ex}{c:Option Ex}{e:Ex}(aj:List α)(nh:α->D)(f:α->D)(p:α->Bool)(st:α->G->G)(hw:fV rn bor k T.iZ it g=some (aj.map nh,g1))(hn:nn=g1.length)(hb:(T.ix.any λi=>decide (i∈bor))=false)(hl:aj.length<=lim)(cA:∀d m,m.length=kk->(st d m).length=kk)
  (hT:∀d∈aj,∀m acc,m.length=kk->T.set (nh d) (gM g1 m acc)=some (gM g1 (st d m) acc))
  (hi:∀d∈aj,∀m acc,m.length=kk->P8 rn bor k c (gM g1 (st d m) acc)=some (p d,gM g1 (st d m) acc))
  (he:∀d∈aj,p d=true->∀m acc,m.length=kk->eH rn bor k e (gM g1 (st d m) acc)=some (f d,gM g1 (st d m) acc)) :
  fH rn bor k nn kk T it c e g=some ((aj.filter p).map f,g1):=by
 subst hn;obtain⟨m',w1,w2⟩:=um (rn:=rn) (bor:=bor) (k:=k) (g:=g1) (last:=g1.length+kk) nh f p st rfl cA aj (List.replicate kk .no) [] ⋯ (by simpa using hl) hT hi he
 unfold fH;rw[hw];dsimp only;rw[gL ⟨rfl,hb⟩,Zx,w2];dsimp only;have:(gM g1 m' ([]++(aj.filter p).map f))[g1.length+kk]?=some (.own ([]++(aj.filter p).map f)):=by rw[<- w1];exact z6
 rw[this];dsimp only;rw[Oc,A9]
theorem Vp{j kk:Nat}{d:D}{m:G}{acc:List D}(hj:g.length<=j)(hk:j - g.length<m.length):(Tg.nm j).set d (gM g m acc)=some (gM g (m.set (j - g.length) (.dat d)) acc):=by
 show some ((gM g m acc).set j (.dat d))=_;have:=jI (g:=g) (acc:=acc) (s:=.dat d) hk;rw[show g.length+(j - g.length)=j by lia]at this
 rw[this]
def Od(g:G)(j:Nat)(d:D)(G':G):Prop:=(∀i,i<g.length->G'[i]?=g[i]?)/\G'[j]?=some (.dat d)
theorem Qk{α:Type}{kk nn j:Nat}{it:Ex}{c:Option Ex}{e:Ex}(aj:List α)(nh:α->D)(p:α->Bool)(f:α->D)(hw:fV rn bor k false it g=some (aj.map nh,g1))(hn:nn=g1.length)(hj1:g1.length<=j)(hj2:j<g1.length+kk)(hb:j∉bor)(hl:aj.length<=lim)
  (hi:∀a∈aj,∀G',Od g1 j (nh a) G'->P8 rn bor k c G'=some (p a,G')) (he:∀a∈aj,p a=true->∀G',Od g1 j (nh a) G'->eH rn bor k e G'=some (f a,G')) :
  fH rn bor k nn kk (.nm j) it c e g=some ((aj.filter p).map f,g1):=by
 have sees:∀(a:α) (m:G) (acc:List D),m.length=kk->Od g1 j (nh a) (gM g1 (m.set (j - g1.length) (.dat (nh a))) acc):=λa m acc hm=>by
  refine⟨λi hi=>rQ hi,?_⟩
  have:=jH (g:=g1) (m:=m.set (j - g1.length) (.dat (nh a))) (acc:=acc) (i:=j - g1.length) (by simp;lia)
  rw[show g1.length+(j - g1.length)=j by lia]at this
  rw[this,i4 ⋯]
 refine rR (T:=.nm j) aj nh f p (λa m=>m.set (j - g1.length) (.dat (nh a))) hw hn (by simp[Tg.ix,hb]) hl (λd m hm=>by simpa using hm) (λa _ m acc hm=>Vp (kk:=kk) hj1 ⋯) (λa ha m acc hm=>hi a ha _ (sees a m acc hm)) λa ha hp m acc hm=>he a ha hp _ (sees a m acc hm)
theorem filter_all{α:Type}(l:List α):l.filter (λ_=>true)=l:=List.filter_eq_self.mpr λ_ _=>rfl
theorem wC{α:Type}{kk nn j:Nat}{it:Ex}{e:Ex}(aj:List α)(nh:α->D)(f:α->D)(hw:fV rn bor k false it g=some (aj.map nh,g1))(hn:nn=g1.length)(hj1:g1.length<=j)(hj2:j<g1.length+kk)(hb:j∉bor)(hl:aj.length<=lim)
  (he:∀a∈aj,∀G',Od g1 j (nh a) G'->eH rn bor k e G'=some (f a,G')):fH rn bor k nn kk (.nm j) it none e g=some (aj.map f,g1):=by
 have:=Qk (c:=none) aj nh (λ_=>true) f hw hn hj1 hj2 hb hl (λ_ _ _ _=>rfl) λa ha _ G' hG=>he a ha G' hG
 rw[filter_all]at this;exact this
def z7(g:G)(j1 j2:Nat)(d1 d2:D)(G':G):Prop:=(∀i,i<g.length->G'[i]?=g[i]?)/\G'[j1]?=some (.dat d1)/\G'[j2]?=some (.dat d2)
theorem cT{α:Type}{kk nn j1 j2:Nat}{it:Ex}{c:Option Ex}{e:Ex}(aj:List α)(je jJ:α->D)(p:α->Bool)(f:α->D)(hw:fV rn bor k true it g=some (aj.map λa=>.tup [je a,jJ a],g1))(hn:nn=g1.length)(hj1:g1.length<=j1)(Zy:j1<g1.length+kk)(hj2:g1.length<=j2)(Zz:j2<g1.length+kk)(qI:j1≠j2)(hb1:j1∉bor)(hb2:j2∉bor)(hl:aj.length<=lim)
  (hi:∀a∈aj,∀G',z7 g1 j1 j2 (je a) (jJ a) G'->P8 rn bor k c G'=some (p a,G')) (he:∀a∈aj,p a=true->∀G',z7 g1 j1 j2 (je a) (jJ a) G'->eH rn bor k e G'=some (f a,G')) :
  fH rn bor k nn kk (.tp [j1,j2]) it c e g=some ((aj.filter p).map f,g1):=by
 have sees:∀(a:α) (m:G) (acc:List D),m.length=kk->z7 g1 j1 j2 (je a) (jJ a) (gM g1 ((m.set (j1 - g1.length) (.dat (je a))).set (j2 - g1.length) (.dat (jJ a))) acc):=λa m acc hm=>by
  refine⟨λi hi=>rQ hi,?_,?_⟩
  .
   have:=jH (g:=g1) (m:=(m.set (j1 - g1.length) (.dat (je a))).set (j2 - g1.length) (.dat (jJ a))) (acc:=acc) (i:=j1 - g1.length) (by simp;lia)
   rw[show g1.length+(j1 - g1.length)=j1 by lia]at this
   rw[this,fN ⋯,i4 ⋯]
  .
   have:=jH (g:=g1) (m:=(m.set (j1 - g1.length) (.dat (je a))).set (j2 - g1.length) (.dat (jJ a))) (acc:=acc) (i:=j2 - g1.length) (by simp;lia)
   rw[show g1.length+(j2 - g1.length)=j2 by lia]at this
   rw[this,i4 (by simp;lia)]
 refine rR (T:=.tp [j1,j2]) aj (λa=>.tup [je a,jJ a]) f p (λa m=>(m.set (j1 - g1.length) (.dat (je a))).set (j2 - g1.length) (.dat (jJ a))) hw hn (by simp[Tg.ix,hb1,hb2]) hl (λd m hm=>by simpa using hm) (λa _ m acc hm=>?_) (λa ha m acc hm=>hi a ha _ (sees a m acc hm)) λa ha hp m acc hm=>he a ha hp _ (sees a m acc hm)
 have q1:=jI (g:=g1) (m:=m) (acc:=acc) (i:=j1 - g1.length) (s:=.dat (je a)) ⋯;have q2:=jI (g:=g1) (m:=m.set (j1 - g1.length) (.dat (je a))) (acc:=acc) (i:=j2 - g1.length) (s:=.dat (jJ a)) (by simp;lia)
 rw[show g1.length+(j1 - g1.length)=j1 by lia]at q1
 rw[show g1.length+(j2 - g1.length)=j2 by lia]at q2
 show some (((gM g1 m acc).set j1 (.dat (je a))).set j2 (.dat (jJ a)))=_;rw[q1,q2]
theorem Ii{α:Type}{kk nn j1 j2:Nat}{it:Ex}{e:Ex}(aj:List α)(je jJ:α->D)(f:α->D)(hw:fV rn bor k true it g=some (aj.map λa=>.tup [je a,jJ a],g1))(hn:nn=g1.length)(hj1:g1.length<=j1)(Zy:j1<g1.length+kk)(hj2:g1.length<=j2)(Zz:j2<g1.length+kk)(qI:j1≠j2)(hb1:j1∉bor)(hb2:j2∉bor)(hl:aj.length<=lim)
  (he:∀a∈aj,∀G',z7 g1 j1 j2 (je a) (jJ a) G'->eH rn bor k e G'=some (f a,G')):fH rn bor k nn kk (.tp [j1,j2]) it none e g=some (aj.map f,g1):=by
 have:=cT (c:=none) aj je jJ (λ_=>true) f hw hn hj1 Zy hj2 Zz qI hb1 hb2 hl (λ_ _ _ _=>rfl) λa ha _ G' hG=>he a ha G' hG
 rw[filter_all]at this;exact this
theorem lQ{α:Type}{T:Tg}{b:G->Option (Fl×G)}(nh:α->D)(I:List α->G->Prop)(step:∀a l g,I (a::l) g->∃g1 g2,T.set (nh a) g=some g1/\b g1=some (.nx,g2)/\I l g2):∀l g,I l g->∃g',I [] g'/\bZ T b (l.map nh) g=some (.nx,g')
 | [],g,h=>⟨g,h,rfl⟩
 |a::l,g,h=>by
  obtain⟨g1,g2,q1,q2,q3⟩:=step a l g h;obtain⟨g',w1,w2⟩:=lQ nh I step l g2 q3;exact⟨g',w1,by rw[List.map_cons];unfold bZ;rw[q1];dsimp only;rw[q2];exact w2⟩
end
theorem ints_map(l:List Int):aW (l.map .int)=some l:=by
 induction l with
 |nil=>rfl
 |cons a l ih=>simp[aW,ih]
theorem Oe(l:List Bool):vf (l.map .bl)=some l:=by
 induction l with
 |nil=>rfl
 |cons a l ih=>simp[vf,ih]
theorem Ij(l:List (List Int))(h:∀x∈l,x≠[]):gG (l.map λx=>.tup (x.map .int))=some l:=by
 induction l with
 |nil=>rfl
 |cons a l ih=>
  have ha:=h a dL;cases a with
  |nil=>exact absurd rfl ha
  |cons x a=>
   have:=ints_map (x::a);simp only[List.map_cons]at this ⊢
   simp only[gG,this,ih λy hy=>h y (dA _ hy)]
theorem Di(a:List Int)(l:List (List Int)):aW ((a::l).map λ(x:List Int)=>.tup (x.map .int))=none:=rfl
theorem Ik(l:List D):pC .len [.tup l]=some (.dat (.int l.length)):=rfl
theorem Il(l:List D):pC .len [.lst l]=some (.dat (.int l.length)):=rfl
theorem pY(l:List D):pC .len [.fix l]=some (.dat (.int l.length)):=rfl
theorem Dj(l:List D):pC .list [.tup l]=some (.new l):=rfl
theorem Dk(l:List D):pC .list [.lst l]=some (.new l):=rfl
theorem yQ(l:List D):pC .tuple [.lst l]=some (.dat (.tup l)):=rfl
theorem yR(l:List D):pC .tuple [.tup l]=some (.dat (.tup l)):=rfl
theorem Og(i j:Int):pC .max [.int i,.int j]=some (.dat (.int (if j > i then j else i))):=rfl
theorem Oh(i j:Int):pC .min [.int i,.int j]=some (.dat (.int (if j<i then j else i))):=rfl
theorem Vq(l:List Bool):pC .all [.lst (l.map .bl)]=some (.dat (.bl (l.all id))):=by simp only[pC,P7,Oe]
theorem mL(l:List Int)(h:l.length<64):pC .sorted [.lst (l.map .int)]=some (.new ((bY l).map .int)):=by simp only[pC,P7,cG,ints_map,h,AI]
theorem Im(l:List Int):pC .sum [.tup (l.map .int)]=some (.dat (.int l.sum)):=by simp only[pC,P7,cG,ints_map]
theorem Io(l:List Int):pC .sum [.lst (l.map .int)]=some (.dat (.int l.sum)):=by simp only[pC,P7,cG,ints_map]
theorem fM:∀a b:List Int,dN (a.map .int) (b.map .int)=decide (a=b)
 | [],[]=>rfl
 | [],_::_=>rfl
 |_::_,[]=>rfl
 |x::a,y::b=>by
  simp only[List.map_cons,dN,cM,fM a b,List.cons.injEq,Bool.decide_and];rfl
theorem fO(a:List Int):iU (a.map .int)=true:=by
 induction a with
 |nil=>rfl
 |cons x a ih=>simp[iU,jh,ih]
theorem lR(a:List Int):deps (a.map .int)=0:=by
 induction a with
 |nil=>rfl
 |cons x a ih=>simp[deps,dep,ih]
theorem rS(a b:List Int):jB (.tup (a.map .int)) (.tup (b.map .int))=true:=by simp[jB,jh,fO,dep,lR]
theorem pZ(a b:List Int):jB (.lst (a.map .int)) (.lst (b.map .int))=true:=by simp[jB,jh,fO,dep,lR]
theorem Vr(a b:List Int):iM .Eq (.tup (a.map .int)) (.tup (b.map .int))=some (decide (a=b)):=by simp only[iM,rS,AI,cM,fM]
theorem Vs(a b:List Int):iM .NotEq (.tup (a.map .int)) (.tup (b.map .int))=some (!decide (a=b)):=by simp only[iM,rS,AI,cM,fM]
theorem Vt(a b:List Int):iM .Eq (.lst (a.map .int)) (.lst (b.map .int))=some (decide (a=b)):=by simp only[iM,pZ,AI,cM,fM]
theorem Vu(a b:List Int):iM .NotEq (.lst (a.map .int)) (.lst (b.map .int))=some (!decide (a=b)):=by simp only[iM,pZ,AI,cM,fM]
theorem Vv(a b:Int):iM .Eq (.int a) (.int b)=some (decide (a=b)):=rfl
theorem Vw(a b:Int):iM .NotEq (.int a) (.int b)=some (!decide (a=b)):=rfl
theorem Vx(a b:Int):iM .Lt (.int a) (.int b)=some (decide (a<b)):=rfl
theorem Vy(a b:Int):iM .LtE (.int a) (.int b)=some (decide (a<=b)):=rfl
theorem Vz(a b:Int):iM .Gt (.int a) (.int b)=some (decide (a > b)):=rfl
theorem VB(a b:Int):iM .GtE (.int a) (.int b)=some (decide (a ≥ b)):=rfl
theorem Oi(a b:Int):mY .Add (.int a) (.int b)=some (.dat (.int (a+b))):=rfl
theorem Oj(a b:Int):mY .Sub (.int a) (.int b)=some (.dat (.int (a - b))):=rfl
theorem ix_t(l:List D)(i:Int):MT (.tup l) (.int i)=L2.iK l i:=rfl
theorem ix_l(l:List D)(i:Int):MT (.lst l) (.int i)=L2.iK l i:=rfl
theorem ix_f(l:List D)(i:Int):MT (.fix l) (.int i)=L2.iK l i:=rfl
theorem z8{α:Type}(l:List α)(i:Nat)(h:i<l.length):L2.iK l (i:Int)=some l[i]:=by unfold L2.iK L2.xO;rw[gL ⋯,gL ⋯];simp[h]
theorem wD(l:List Int)(i:Nat)(h:i<l.length):L2.iK (l.map D.int) (i:Int)=some (.int l[i]):=by
 rw[z8 _ _ (by simpa using h)]
 simp
theorem is_tup(l:List D):jc (uJ (.tup l)) "tuple"=true:=rfl
theorem VD(i:Int):jc (uJ (.int i)) "int"=true:=rfl
theorem Ip(i:Int):jc (uJ (.int i)) "bool"=false:=rfl
theorem aB(m:Nat)(h:m<=1000):m<=lim:=qS h ⋯
theorem cJ(i:Int)(h:0<=i/\i<=1000):JV i=true:=by unfold JV;simp only[dS,eR];lia
section
theorem bD{fx:Fx}{d:D}(h:fx.np=1):dH rn fx k [.dat d] g1=(bq rn k fx [d]).map λr=>(r,g1):=lP (ds:=[d]) h.symm
theorem aE{fx:Fx}{d e:D}(h:fx.np=2):dH rn fx k [.dat d,.dat e] g1=(bq rn k fx [d,e]).map λr=>(r,g1):=lP (ds:=[d,e]) h.symm
theorem bW{fx:Fx}{d e f:D}(h:fx.np=3):dH rn fx k [.dat d,.dat e,.dat f] g1=(bq rn k fx [d,e,f]).map λr=>(r,g1):=lP (ds:=[d,e,f]) h.symm
end
structure rT(fns:List Fx)(rn:Nat->Rn):Prop where
 e:∀(n:Nat) (bor:List Nat) (k:Nat) (x:Ex) (g:G),(rn (n+1)).e bor k x g=aO (rn n) bor k fns x g
 t:∀(n:Nat) (bor:List Nat) (k:Nat) (x:Ex) (g:G),(rn (n+1)).t bor k x g=stepT (rn n) bor k x g
 b:∀(n:Nat) (bor:List Nat) (k:Nat) (x:List Sm) (g:G),(rn (n+1)).b bor k x g=jm (rn n) bor k x g
 x:∀(n:Nat) (bor:List Nat) (k:Nat) (x:Ex) (g:G),(rn (n+1)).x bor k x g=v7 (rn n) bor k fns x g
 xt:∀(n:Nat) (bor:List Nat) (k:Nat) (x:Ex) (g:G),(rn (n+1)).xt bor k x g=tU (rn n) bor k x g
 xb:∀(n:Nat) (bor:List Nat) (k:Nat) (x:List Sm) (g:G),(rn (n+1)).xb bor k x g=gw (rn n) bor k x g
theorem uo(fns:List Fx):rT fns (run fns):=⟨λ_ _ _ _ _=>rfl,λ_ _ _ _ _=>rfl,λ_ _ _ _ _=>rfl,λ_ _ _ _ _=>rfl,λ_ _ _ _ _=>rfl,λ_ _ _ _ _=>rfl⟩
def jK(rn:Rn)(k:Nat)(fx:Fx)(ds:List D):Option Nat:=match rn.xb [] k fx.body (dG fx.n (Ob ds))with
 |some (ci,_)=>some ci
 |none=>none
theorem rW{rn:Rn}{k:Nat}{g1:G}{fx:Fx}{ds:List D}(hl:ds.length=fx.np):rK rn fx k (ds.map .dat) g1=(jK rn k fx ds).map λr=>(r,g1):=by
 unfold rK jK;rw[wz,wA,z5];simp only[d6,hl,List.map_nil,u4,and_self,AI];cases rn.xb [] k fx.body (dG fx.n (ds.map .dat))with
 |none=>rfl
 |some p=>rfl
section
theorem eX{fx:Fx}{d e:D}(h:fx.np=2):rK rn fx k [.dat d,.dat e] g1=(jK rn k fx [d,e]).map λr=>(r,g1):=rW (ds:=[d,e]) h.symm
theorem gB{fx:Fx}{d e f:D}(h:fx.np=3):rK rn fx k [.dat d,.dat e,.dat f] g1=(jK rn k fx [d,e,f]).map λr=>(r,g1):=rW (ds:=[d,e,f]) h.symm
end
abbrev evZ:=And.intro @is_tup (And.intro @VD (And.intro @Ip (And.intro @Ik (And.intro @Il (And.intro @Dj (And.intro @Dk (And.intro @yQ (And.intro @yR (And.intro @Og (And.intro @Oh (And.intro @Vq (And.intro @Im (And.intro @Io (And.intro @Vr (And.intro @Vs (And.intro @Vt (And.intro @Vu (And.intro @Vv (And.intro @Vw (And.intro @Vx (And.intro @Vy (And.intro @Vz (And.intro @VB (And.intro @Oi (And.intro @Oj (And.intro @ix_t (And.intro @ix_l @ix_f)))))))))))))))))))))))))))
abbrev unfZ{fns rn}(U:rT fns rn):=And.intro U.e (And.intro U.t (And.intro U.b (And.intro U.x (And.intro U.xt U.xb))))
end Ev
local macro_rules | `(tactic|simp! [$u:term,$ls,*])=>`(tactic|simp[-List.map_map,-List.map_cons,-List.map_nil,Ev.unfZ $u,Ev.evZ,Ev.v7,Ev.tU,Ev.jC,Ev.gw,Ev.xArgs,Ev.jm,Ev.aM,Ev.aO,Ev.stepT,Ev.argsR,Ev.kB,Ev.eH,Ev.toD,Ev.norm,Ev.pk,Ev.vd,Ev.dG,Ev.cW,Ev.Ob,Ev.Hu,Ev.YX,Ev.vY,Ev.Hv,Ev.DW,Ev.Lw,$ls,*])
local macro_rules | `(~~~$x)=>`(Ev.D.tup (List.map Ev.D.int $x))
namespace Ev
noncomputable def eY:Fx:=⟨2,4,[(.ite (.ix (.slot 0) (.val (.int 1))) [(.set 2 (.bin .Mod (.ix (.slot 0) (.val (.int 0))) (.slot 1))),(.item 0 (.val (.int 0)) (.bin .FloorDiv (.ix (.slot 0) (.val (.int 0))) (.slot 1))),(.ret (.slot 2))] []),(.item 0 (.val (.int 0)) (.bin .Mod (.bin .Add (.bin .Mult (.ix (.slot 0) (.val (.int 0))) (.val (.int 48271))) (.val (.int 29))) (.val (.int 2147483647)))),(.set 3 (.bin .Mod (.bin .Add (.bin .Add (.bin .Mult (.ix (.slot 0) (.val (.int 0))) (.ix (.slot 0) (.val (.int 0)))) (.bin .Mult (.val (.int 39373)) (.ix (.slot 0) (.val (.int 0))))) (.val (.int 7))) (.val (.int 2147483629)))),(.set 3 (.bin .Mod (.bin .Add (.bin .Mult (.slot 3) (.slot 3)) (.bin .Mult (.val (.int 16807)) (.slot 3))) (.val (.int 2147483587)))),(.ret (.bin .Mod (.bin .FloorDiv (.slot 3) (.val (.int 8))) (.slot 1)))]⟩
noncomputable def mixX(ti:Nat):Fx:=⟨2,4,[(.set 2 (.blt .list [(.slot 1)])),(.set 3 (.lst [])),(.while (.cmp .NotEq (.slot 2) (.lst [])) [(.expr (.append 3 (.append 2 (.call ti [(.slot 0),(.blt .len [(.slot 2)])]))))]),(.ret (.slot 3))]⟩
def p7:Fx:=⟨2,2,[(.ite (.cmp .Lt (.slot 1) (.blt .len [(.slot 0)])) [(.ret (.ix (.slot 0) (.slot 1)))] []),(.ret (.val (.int 0)))]⟩
noncomputable def p8(ci:Nat):Fx:=⟨2,3,[(.set 2 (.call ci [(.slot 0),(.slot 1)])),(.ite (.cmp .GtE (.slot 2) (.bin .Pow (.val (.int 10)) (.val (.int 18)))) [(.ret (.lst [(.bin .Sub (.slot 2) (.bin .Pow (.val (.int 10)) (.val (.int 18)))),(.val (.bl true))]))] []),(.ret (.lst [(.bin .Mod (.slot 2) (.val (.int 2147483647))),(.val (.bl false))]))]⟩
noncomputable def gt(t:List Int)(i:Int):Int:=t.getD i.toNat 0
theorem iG{t:List Int}{i:Int}(h:0<=i/\i<t.length):L2.iK (t.map D.int) i=some (.int (gt t i)):=by
 obtain⟨n,rfl⟩:∃n:Nat,i=n:=⟨i.toNat,by lia⟩
 rw[wD t n ⋯];simp[gt,(by lia:n<t.length)]
theorem aK{rn:Rn}{bor:List Nat}{k:Nat}{st:Sm}{rest:List Sm}{g g1:G}(h:aM rn bor k st g=some (.nx,g1)):jm rn bor k (st::rest) g=jm rn bor k rest g1:=by
 conv=>lhs;unfold jm
 rw[h]
noncomputable abbrev St(s:Int)(fl:Bool):Slot:=.own [.int s,.bl fl]
theorem uq(a b:Int)(h:0<b):mY .Mod (.int a) (.int b)=some (.dat (.int (a % b))):=by simp[mY,ku,h]
theorem ur(a b:Int)(h:0<b/\b<1073741824):mY .FloorDiv (.int a) (.int b)=some (.dat (.int (a / b))):=by simp[mY,ku,h]
theorem iO(a b:Int)(h:(-(2 ^ 64)<a/\a<2 ^ 64)\/(-(2 ^ 64)<b/\b<2 ^ 64)):mY .Mult (.int a) (.int b)=some (.dat (.int (a * b))):=by
 have:CN a b=true:=by unfold CN;simp only[AM,dS,eR];exact h
 simp[mY,MN,this]
section
variable{ti mi:Nat}(U:rT fns rn)(hT:fns[ti]?=some eY)
include U
theorem VF(s:Int)(fl:Bool)(m:Int)(hm:0<m/\m<1000):∃r s' s2 s3,0<=r/\r<m/\(rn (n+20)).b [0] k eY.body [St s fl,.dat (.int m),.no,.no]=some (.rt (.dat (.int r)),[St s' fl,.dat (.int m),s2,s3]):=by
 have i0:L2.iK [D.int s,D.bl fl] 0=some (.int s):=rfl;have i1:L2.iK [D.int s,D.bl fl] 1=some (.bl fl):=rfl;have x0':L2.xO 2 0=some 0:=rfl;cases fl with
 |true=>refine⟨s % m,s / m,.dat (.int (s % m)),.no,CB _ ⋯,BE _ hm.1,?_⟩;unfold eY;simp! [U,i0,i1,x0',uq _ _ hm.1,ur _ _ (show 0<m/\m<1073741824 by lia)]
 |false=>
  generalize hs1:(s * 48271+29) % 2147483647=s1;have h1:0<=s1/\s1<2147483647:=by rw[<- hs1];exact⟨CB _ ⋯,BE _ ⋯⟩
  have j0:L2.iK [D.int s1,D.bl false] 0=some (.int s1):=rfl;generalize hs2:(s1 * s1+39373 * s1+7) % 2147483629=s2;have h2:0<=s2/\s2<2147483629:=by rw[<- hs2];exact⟨CB _ ⋯,BE _ ⋯⟩
  generalize hs3:(s2 * s2+16807 * s2) % 2147483587=s3;refine⟨s3 / 8 % m,s1,.no,.dat (.int s3),CB _ ⋯,BE _ hm.1,?_⟩;unfold eY;simp! [U,i0,i1,x0',uq,iO s 48271 (.inr ⋯),hs1,j0,iO s1 s1 (.inl ⋯),iO 39373 s1 (.inl ⋯),hs2,iO s2 s2 (.inl ⋯),iO 16807 s2 (.inl ⋯),hs3,ur _ _ (show (0:Int)<8/\(8:Int)<1073741824 by decide),hm.1]
theorem nO{i:Nat}{s:Int}{fl:Bool}{m:Int}(hi:g[i]?=some (St s fl))(hm:0<m/\m<1000):∃r s',0<=r/\r<m/\dH (rn (n+20)) eY k [.var i,.dat (.int m)] g=some (.dat (.int r),g.set i (St s' fl)):=by
 obtain⟨r,s',s2,s3,h1,h2,h⟩:=VF U (n:=n) (k:=k) s fl m hm;refine⟨r,s',h1,h2,?_⟩;have hp:dG eY.n [St s fl,.dat (.int m)]=[St s fl,.dat (.int m),.no,.no]:=rfl;unfold dH;simp only[vars,dF,hi,List.map_cons,List.map_nil];rw[gL ⟨rfl,by simp⟩,hp,h]
 rfl
omit U in
theorem VG{l i:Nat}(h:i<l):L2.xO l (i:Int)=some i:=by unfold L2.xO;rw[gL ⋯,gL ⋯];simp
end
section
variable{ci:Nat}(U:rT fns rn)(hC:fns[ci]?=some p7)
include U hC
omit U hC in
theorem sH:mY .Pow (.int 10) (.int 18)=some (.dat (.int (10 ^ 18))):=by rfl
theorem Iq(ns:List Int)(hl:ns.length<=1000)(j:Nat):∃(s:Int) (fl:Bool),bq (rn (n+40)) (k+1) (p8 ci) [.fix (ns.map .int),.int j]=some (.new [.int s,.bl fl]):=by
 obtain⟨v,q⟩:∃v:Int,∀n,bq (rn (n+20)) k p7 [.fix (ns.map .int),.int j]=some (.dat (.int v)):=by
  by_cases h:j<ns.length
  .
   refine⟨ns[j],λn=>?_⟩
   have h':(j:Int)<ns.length:=by lia
   have:=wD ns j h;unfold bq p7;simp! [U,pY,h',this]
  .
   refine⟨0,λn=>?_⟩
   have h' : ¬ (j:Int)<ns.length:=by lia
   unfold bq p7;simp! [U,pY,h']
 by_cases hv:(1000000000000000000:Int)<=v
 . refine⟨v - 1000000000000000000,true,?_⟩;unfold bq p8;simp! [U,hC,aE (fx:=p7) rfl,q,sH,hv,aB 2 ⋯]
 . refine⟨v % 2147483647,false,?_⟩;unfold bq p8;simp! [U,hC,aE (fx:=p7) rfl,q,sH,hv,aB 2 ⋯,uq]
end
noncomputable def cR:Fx:=⟨1,1,[(.ret (.and [(.kL (.slot 0) "int"),(.not (.kL (.slot 0) "bool"))]))]⟩
noncomputable def bG(w:Nat):Fx:=⟨3,3,[(.ret (.and [(.call w [(.slot 0)]),(.chain (.slot 1) [.LtE,.LtE] [(.slot 0),(.slot 2)])]))]⟩
def isInt:D->Bool
 |.int _=>true
 |_=>false
noncomputable def uO(lo hi:Int):D->Bool
 |.int i=>decide (lo<=i/\i<=hi)
 |_=>false
def Ir:D->Prop
 |.tup l=>l.length<=20/\∀x∈l,jh x=true/\dep x<=5
 |_=>True
theorem rX:∀{l:List D},l.all isInt=true->∃t:List Int,l=t.map .int
 | [],_=>⟨[],rfl⟩
 |d::l,h=>by
  rw[List.all_cons,dS]at h;obtain⟨t,rfl⟩:=rX h.2;cases d with
  |int i=>exact⟨i::t,rfl⟩
  |_=>cases h.1
theorem wF:∀{l:List D},(∀x∈l,jh x=true)->iU l=true
 | [],_=>rfl
 |d::l,h=>by
  show (jh d&&iU l)=true;rw[h d dL,wF λx hx=>h x (dA _ hx)]
  rfl
theorem wG{c:Nat}:∀{l:List D},(∀x∈l,dep x<=c)->deps l<=c
 | [],_=>wE _
 |d::l,h=>by
  have h1:=h d dL;have h2:=wG λx hx=>h x (dA _ hx)
  show max (dep d) (deps l)<=c;lia
section
variable{w wi mw it ci cj:Nat}(U:rT fns rn)
include U
theorem fP(d:D):bq (rn (n+6)) k cR [d]=some (.dat (.bl (isInt d))):=by unfold bq cR;cases d <;> simp! [U,jc,uJ,isInt]
variable(hW:fns[w]?=some cR)
include hW
theorem iP(d:D)(lo hi:Int):bq (rn (n+14)) (k+1) (bG w) [d,.int lo,.int hi]=some (.dat (.bl (uO lo hi d))):=by
 unfold bq bG;cases d with
 |int i=>
  by_cases h1:lo<=i
  .
   by_cases h2:i<=hi
   . simp! [U,hW,bD (fx:=cR) rfl,fP U,isInt,uO,h1,h2]
   . simp! [U,hW,bD (fx:=cR) rfl,fP U,isInt,uO,h1,h2]
  . simp! [U,hW,bD (fx:=cR) rfl,fP U,isInt,uO,h1]
 |_=>simp! [U,hW,bD (fx:=cR) rfl,fP U,isInt,uO]
omit U hW in
theorem yS{rn:Rn}{bor:List Nat}{k:Nat}{e:Ex}{rest:List Sm}{g:G}:gw rn bor k (.ret e::rest) g=rn.x bor k e g:=by
 unfold gw;simp only[jC];cases rn.x bor k e g with
 |some r=>rfl
 |none=>
  simp only[aM];cases rn.e bor k e g with
  |none=>rfl
  |some p=>rfl
omit hW in
theorem z9(d1 d2 d3:D):jK (rn (n+14)) k (bG w) [d1,d2,d3]=none:=by unfold jK bG;rw[U.xb,yS];simp! [U,U.e]
end
noncomputable def bK(i ci:Nat):Fx:=⟨3,3,[(.ite (.not (.call i [(.slot 0),(.slot 1),(.slot 2)])) [(.raise ci (.kr [(false,(.val (.str (PySem.Str.ofString "no whole number from ")))),(true,(.slot 1)),(false,(.val (.str (PySem.Str.ofString " to ")))),(true,(.slot 2))]))] [])]⟩
def Ol(mw w:Nat):Fx:=⟨2,2,[(.expr (.call mw [(.slot 0),(.val (.int 1)),(.val (.int 6))])),(.ite (.or [(.not (.kL (.slot 1) "tuple")),(.not (.blt .all [(.comp 2 2 (.nm 3) (.slot 1) none (.call w [(.slot 3)]))]))]) [(.ret (.val (.bl false)))] []),(.ret (.cmp .Eq (.blt .sorted [(.slot 1)]) (.dP (.slot 0))))]⟩
noncomputable def Dl(it ci:Nat):Fx:=⟨2,2,[(.ite (.not (.call it [(.slot 0),(.slot 1)])) [(.raise ci (.kr [(false,(.val (.str (PySem.Str.ofString "no turn of ")))),(true,(.slot 0))]))] [])]⟩
section
variable{k n:Nat}{g g1:G}{rn:Nat->Rn}{fns:List Fx}{w wi mw it ci cj:Nat}(U:rT fns rn)
include U
variable(hW:fns[w]?=some cR)
include hW
variable(hI:fns[wi]?=some (bG w))
include hI
theorem Aa(d:D)(lo hi:Int)(h:uO lo hi d=true):bq (rn (n+24)) (k+2) (bK wi ci) [d,.int lo,.int hi]=some (.dat .non):=by unfold bq bK;simp! [U,hI,bW (fx:=bG w) rfl,iP U hW,h]
theorem Ql(d:D)(lo hi:Int)(h:uO lo hi d=true):jK (rn (n+24)) (k+2) (bK wi ci) [d,.int lo,.int hi]=none:=by unfold jK bK;simp! [U,hI,gB (fx:=bG w) rfl,z9 U,bW (fx:=bG w) rfl,iP U hW,h]
end
noncomputable def cK(i:Nat):Fx:=⟨2,2,[(.ite (.pB (.slot 1) ["tuple", "list"]) [(.ite (.or [(.cmp .NotEq (.kL (.slot 0) "tuple") (.kL (.slot 1) "tuple")),(.cmp .NotEq (.kL (.slot 0) "list") (.kL (.slot 1) "list"))]) [(.ret (.val (.bl false)))] []),(.ite (.cmp .NotEq (.blt .len [(.slot 0)]) (.blt .len [(.slot 1)])) [(.ret (.val (.bl false)))] []),(.ret (.blt .all [(.comp 2 3 (.tp [3,4]) (.zip (.slot 0) (.slot 1)) none (.call i [(.slot 3),(.slot 4)]))]))] []),(.ret (.and [(.cmp .Eq (.slot 0) (.slot 1)),(.cmp .Eq (.kL (.slot 0) "bool") (.kL (.slot 1) "bool"))]))]⟩
theorem uv{l:List D}{r:Int}(h:0<=r/\r<l.length):∃x∈l,L2.iK l r=some x:=by
 obtain⟨j,rfl⟩:∃j:Nat,r=j:=⟨r.toNat,by lia⟩
 have hj:j<l.length:=by lia
 exact⟨l[j],List.getElem_mem hj,z8 l j hj⟩
theorem Ad(l m:List D)(h:l.length+m.length<=1000):mY .Add (.tup l) (.tup m)=some (.dat (.tup (l++m))):=by
 show (if l.length+m.length<=lim then _ else _)=_
 rw[gL (aB _ h)]
theorem uw(l m:List D)(h:l.length+m.length<=1000):mY .Add (.lst l) (.lst m)=some (.new (l++m)):=by
 show (if l.length+m.length<=lim then _ else _)=_
 rw[gL (aB _ h)]
noncomputable def Sd:Nat->D->Prop
 |_,.int _=>True
 |_,.bl _=>True
 |_,.str _=>True
 |_,.non=>True
 |c+1,.tup l=>l.length<=1000/\∀x∈l,Sd c x
 |c+1,.lst l=>l.length<=1000/\∀x∈l,Sd c x
 |_,_=>False
theorem wH:∀l:List D,o8 l l=l.map λa=>D.tup [a,a]
 | []=>rfl
 |a::l=>by
  show D.tup [a,a]::o8 l l=_;rw[wH l];rfl
theorem all_true{α:Type}(l:List α):(l.map λ_=>true).all id=true:=by simp
section
variable(U:rT fns rn)
include U
theorem wI{c:Nat}(hS:fns[i]?=some (cK i))(ih:∀n k d,Sd c d->bq (rn (n+20 * c+20)) (k+c) (cK i) [d,d]=some (.dat (.bl true))){d:D}{l:List D}(hw:∀n k,fV (rn (n+2)) [] k true (.zip (.slot 0) (.slot 1)) [.dat d,.dat d]=some (o8 l l,[.dat d,.dat d]))(hl:l.length<=1000)(h:∀x∈l,Sd c x):∀n k,fH (rn (n+20 * c+23)) [] (k+c+1) 2 3 (.tp [3,4]) (.zip (.slot 0) (.slot 1)) none (.call i [(.slot 3),(.slot 4)]) [.dat d,.dat d]=some ((l.map λ_=>true).map .bl,[.dat d,.dat d]):=λn k=>by
 rw[List.map_map];exact Ii (rn:=rn (n+20 * c+23)) (bor:=[]) (k:=k+c+1) (g:=[.dat d,.dat d]) (g1:=[.dat d,.dat d]) (kk:=3) (nn:=2) (j1:=3) (j2:=4) l id id _ (by rw[hw (n+20 * c+21)];rw[wH];rfl) rfl ⋯ ⋯ ⋯ ⋯ ⋯ ⋯ ⋯ (aB _ hl) λa ha G' hG=>by
  have h1:=hG.2.1;have h2:=hG.2.2;simp only[id]at h1 h2;have q:=ih (n+2) k a (h a ha);rw[show n+2+20 * c+20=n+20 * c+22 by lia]at q
  simp! [U,h1,h2,hS,aE (fx:=cK i) rfl,q]
theorem fQ(d:D)(h:Sd 0 d):bq (rn (n+20)) k (cK i) [d,d]=some (.dat (.bl true)):=by
 cases d with
 |int j=>unfold bq cK;simp! [U,uJ,jc,iM,jB,cM,jh,dep]
 |bl j=>unfold bq cK;simp! [U,uJ,jc,iM,jB,cM,jh,dep]
 |str j=>unfold bq cK;simp! [U,uJ,jc,iM,jB,cM,jh,dep]
 |non=>unfold bq cK;simp! [U,uJ,jc,iM,jB,cM,jh,dep]
 |_=>exact h.elim
theorem nP(hS:fns[i]?=some (cK i)):∀(c n k:Nat) (d:D),Sd c d->bq (rn (n+20 * c+20)) (k+c) (cK i) [d,d]=some (.dat (.bl true))
 | 0,n,k,d,h=>fQ U d h
 |c+1,n,k,d,h=>by
  have ih:=nP hS c;rw[show n+20 * (c+1)+20=n+20 * c+40 by lia,show k+(c+1)=k+c+1 by lia]
  cases d with
  |int j=>exact fQ U _ trivial
  |bl j=>exact fQ U _ trivial
  |str j=>exact fQ U _ trivial
  |non=>exact fQ U _ trivial
  |tup l=>
   have w:=wI U hS ih (d:=.tup l) (l:=l) (λn k=>by simp! [U,fV,cG,isTup]) h.1 h.2
   have w':=w (n+13) k;rw[show n+13+20 * c+23=n+20 * c+36 by lia]at w'
   unfold bq cK;simp! [U,uJ,jc,iM,jB,cM,jh,dep,w',all_true]
  |lst l=>
   have w:=wI U hS ih (d:=.lst l) (l:=l) (λn k=>by simp! [U,fV,cG,isTup]) h.1 h.2
   have w':=w (n+13) k;rw[show n+13+20 * c+23=n+20 * c+36 by lia]at w'
   unfold bq cK;simp! [U,uJ,jc,iM,jB,cM,jh,dep,w',all_true]
  |_=>exact h.elim
end
def iQ(ti:Nat):Fx:=⟨2,2,[(.ret (.ix (.lst [(.val (.int 0)),(.bin .Add (.slot 1) (.val (.int 1))),(.neg (.val (.int 1))),(.val (.bl true)),(.val .non),(.val (.str (PySem.Str.ofString "2"))),(.tup [(.val (.int 2))]),(.bin .Pow (.val (.int 10)) (.val (.int 29))),(.lst [(.val (.int 1))]),(.bin .Add (.slot 1) (.val (.int 2)))]) (.call ti [(.slot 0),(.val (.int 10))])))]⟩
theorem Iu{α:Type}(l:List α)(i j:Option Int):(eL l i j).length<=l.length:=by unfold eL;rw[sB,List.length_drop];lia
def Pl(x:D):Prop:=jh x=true/\dep x<=5
theorem Pl.int(i:Int):Pl (.int i):=⟨rfl,wE _⟩
theorem Pl.ints{t:List Int}{x:D}(h:x∈t.map D.int):Pl x:=by obtain⟨i,_,rfl⟩:=i8.mp h;exact .int i
theorem Pl.tup{t:List Int}:Pl (~~~t):=by refine⟨fO t,?_⟩;show deps (t.map .int)+1<=5;rw[lR];decide
theorem Iv:mY .Pow (.int 10) (.int 29)=some (.dat (.int (10 ^ 29))):=by rfl
def lT:Fx:=⟨2,3,[(.set 2 (.lst [(.slot 1)])),(.while (.cmp .NotEq (.ix (.slot 0) (.ix (.slot 2) (.neg (.val (.int 1))))) (.slot 1)) [(.expr (.append 2 (.ix (.slot 0) (.ix (.slot 2) (.neg (.val (.int 1)))))))]),(.ret (.blt .tuple [(.slot 2)]))]⟩
def lU(rf:Nat):Fx:=⟨2,3,[(.setC 2 (.comp 3 2 (.nm 4) (.slot 1) none (.call rf [(.slot 0),(.slot 4)]))),(.ret (.comp 3 2 (.nm 4) (.slot 2) (some (.cmp .Eq (.ix (.slot 4) (.val (.int 0))) (.blt .min [(.slot 4)]))) (.slot 4)))]⟩
noncomputable def Om(mt al:Nat):Fx:=⟨2,2,[(.expr (.call mt [(.slot 0),(.slot 1)])),(.ret (.call al [(.slot 1),(.dP (.slot 0))]))]⟩
noncomputable def ZC(lo hi:Int):Bool:=
 let a:=PySem.Str.empty++PySem.Str.ofString "no whole number from "
 let b:=a++(toString lo:PySem.Str)
 let c:=b++PySem.Str.ofString " to "
 decide (lo.natAbs.log2<1920)&&decide (hi.natAbs.log2<1920)&&decide (a.length<=lim)&&decide (b.length<=lim)&&decide (c.length<=lim)&&decide ((c++(toString hi:PySem.Str)).length<=lim)
section
variable{k n:Nat}{g g1:G}{rn:Nat->Rn}{fns:List Fx}{w wi ci:Nat}(U:rT fns rn)(hW:fns[w]?=some cR)(hI:fns[wi]?=some (bG w))
include U hW hI
theorem Oo(d:D)(lo hi:Int)(hf:ZC lo hi=true)(h:uO lo hi d=false):jK (rn (n+24)) (k+2) (bK wi ci) [d,.int lo,.int hi]=some ci:=by
 have e:∃x,∀(n k:Nat),uM (rn (n+1)) [] k PySem.Str.empty [(false,(.val (.str (PySem.Str.ofString "no whole number from ")))),(true,(.slot 1)),(false,(.val (.str (PySem.Str.ofString " to ")))),(true,(.slot 2))] [.dat d,.dat (.int lo),.dat (.int hi)]=some (x,[.dat d,.dat (.int lo),.dat (.int hi)]):=by
  unfold ZC at hf;simp only[dS,eR]at hf;obtain⟨⟨⟨⟨⟨h1,h2⟩,h3⟩,h4⟩,h5⟩,h6⟩:=hf;refine⟨PySem.Str.empty++PySem.Str.ofString "no whole number from " ++ (toString lo:PySem.Str)++PySem.Str.ofString " to " ++ (toString hi:PySem.Str),λn k=>?_⟩
  simp only[uM,eH,U.e,aO,toD];rw[gL h3];simp only[List.getElem?_cons_succ,List.getElem?_cons_zero];rw[gL ⟨h1,h4⟩,gL h5];rw[gL ⟨h2,h6⟩]
 obtain⟨x,e⟩:=e;unfold jK bK;simp! [U,hI,gB (fx:=bG w) rfl,z9 U,bW (fx:=bG w) rfl,iP U hW,h,e]
end
section
variable{k n:Nat}{g g1:G}{rn:Nat->Rn}{fns:List Fx}{ti:Nat}(U:rT fns rn)(hT:fns[ti]?=some eY)
include U hT
theorem Iw(mo:Nat)(hmo:1<=mo/\mo<=100){i:Nat}{s:Int}{fl:Bool}(hi:g[i]?=some (St s fl)):∃(b:D) (s':Int),uO 1 mo b=false/\dH (rn (n+60)) (iQ ti) (k+1) [.var i,.dat (.int mo)] g=some (.dat b,g.set i (St s' fl)):=by
 obtain⟨r,s',r1,r2,q⟩:=nO U (n:=n+37) (k:=k) (g:=[St s fl,.dat (.int mo)]) (i:=0) (s:=s) (fl:=fl) (m:=10) rfl ⋯;have q':dH (rn (n+57)) eY k [.var 0,.dat (.int 10)] [St s fl,.dat (.int mo)]=some (.dat (.int r),[St s' fl,.dat (.int mo)]):=q;obtain⟨b,hb,e⟩:=uv (l:=[D.int 0,.int (mo+1),.int (-1),.bl true,.non,.str (PySem.Str.ofString "2"),.tup [.int 2],.int 100000000000000000000000000000,.lst [.int 1],.int (mo+2)]) (r:=r) ⟨r1,r2⟩;refine⟨b,s',?_,?_⟩
 . simp only[d5,i7,t8]at hb;rcases hb with rfl |rfl |rfl |rfl |rfl |rfl |rfl |rfl |rfl |rfl <;> first |rfl | (unfold uO;simp only[decide_eq_false_iff_not];lia)
 .
  have body:(rn (n+60)).b [0] (k+1) (iQ ti).body [St s fl,.dat (.int mo)]=some (.rt (.dat b),[St s' fl,.dat (.int mo)]):=by unfold iQ;simp! [U,hT,q',Iv,aB 1 ⋯,aB 10 ⋯,e]
  have hp:dG (iQ ti).n [St s fl,.dat (.int mo)]=[St s fl,.dat (.int mo)]:=rfl;unfold dH;simp only[vars,dF,hi,List.map_cons,List.map_nil];rw[gL ⟨rfl,by simp⟩,hp,body]
  rfl
end
theorem iH:∀{l:List D}{ns:List Int},aW l=some ns->l=ns.map .int
 | [],ns,h=>by cases h;rfl
 |d::l,ns,h=>by
  cases d with
  |int i=>
   unfold aW at h;cases e:aW l with
   |none=>rw[e]at h;cases h
   |some ms=>rw[e]at h;cases h;rw[iH e];rfl
  |_=>cases h
theorem wJ:∀{l:List D}{ts:List (List Int)},gG l=some ts->l=ts.map λx=>~~~x
 | [],ts,h=>by cases h;rfl
 |d::l,ts,h=>by
  cases d with
  |tup x=>
   unfold gG at h;split at h
   . rename_i n ns dw e1 e2;cases h;rw[wJ e2,iH e1];rfl
   . cases h
  |_=>cases h
noncomputable def kup:Nat->Nat->Nat->List (List Int)
 | 0,_,_=>[]
 |f+1,uG,most=>if uG=0 then [[]]else (List.range (min uG most)).flatMap λ(i:Nat)=>(kup f (uG - (i+1)) (i+1)).map ((((i+1:Nat):Int)) :: ·)
def kinds(m:Nat):List (List Int):=kup (m+1) m m
noncomputable def Oq:Nat->List Int->Prop
 |_,[]=>True
 |most,a::l=>1<=a/\a<=most/\Oq a.toNat l
theorem Oq.pos:∀{t:List Int}{most:Nat},Oq most t->0<=t.sum/\(t≠[]->1<=t.sum)
 | [],_,_=>⟨by simp,λh=>absurd rfl h⟩
 |a::l,_,h=>by
  have:=(Oq.pos h.2.2).1;have h1:=h.1;simp only[AT];lia
theorem ux:∀(f uG most:Nat) (t:List Int),uG<f->(t∈kup f uG most ↔ t.sum=uG/\Oq most t)
 | 0,_,_,_,h=>absurd h (Bi _)
 |f+1,uG,most,t,h=>by
  unfold kup;by_cases hl:uG=0
  .
   rw[gL hl];subst hl;rw[i6];refine⟨λe=>by subst e;exact⟨rfl,trivial⟩,λ⟨e,q⟩=>?_⟩
   cases t with
   |nil=>rfl
   |cons a l=>have:=q.pos.2 ⋯;lia
  .
   rw[hZ hl];simp only[List.mem_flatMap,An,i8];constructor
   .
    rintro⟨i,hi,l,hm,rfl⟩;obtain⟨e,q⟩:=(ux f _ _ l ⋯).mp hm;refine⟨by rw[AT,e];lia,by lia,by lia,?_⟩
    rw[show ((i+1:Nat):Int).toNat=i+1 by lia]
    exact q
   .
    rintro⟨e,q⟩;cases t with
    |nil=>simp at e;lia
    |cons a l=>
     obtain⟨q1,q2,q3⟩:=q;have hp:=q3.pos.1;rw[AT]at e;refine⟨(a - 1).toNat,by lia,l,(ux f _ _ l ⋯).mpr ⟨by lia,?_⟩,?_⟩
     . rw[show (a - 1).toNat+1=a.toNat by lia];exact q3
     .
      congr 1;lia
noncomputable def adj:List Int->Bool
 |a::b::l=>decide (a ≥ b)&&adj (b::l)
 |_=>true
theorem Ae:∀(t:List Int) (most:Nat),Oq most t ↔ (∀a∈t,1<=a)/\adj t=true/\(∀a∈t.head?,a<=most)
 | [],_=>by simp[Oq,adj]
 | [a],most=>by simp[Oq,adj]
 |a::b::l,most=>by
  have ih:=Ae (b::l) a.toNat;simp only[Oq]at ih ⊢
  simp only[adj,dS,eR,d5,List.head?_cons,Option.mem_def,Option.some.injEq,forall_eq',forall_eq_or_imp]at ih ⊢
  constructor
  . rintro⟨h1,h2,h3,h4,h5⟩;have:=ih.mp ⟨h3,h4,h5⟩;exact⟨⟨h1,this.1.1,this.1.2⟩,⟨by lia,this.2.1⟩,h2⟩
  . rintro⟨⟨h1,h2,h3⟩,⟨h4,h5⟩,h6⟩;exact⟨h1,h6,ih.mpr ⟨⟨h2,h3⟩,h5,by lia⟩⟩
theorem rY(m:Nat)(t:List Int):t∈kinds m ↔ (∀a∈t,1<=a)/\t.sum=m/\adj t=true:=by
 unfold kinds;rw[ux _ _ _ _ (mM _),Ae];constructor
 . rintro⟨h1,h2,h3,_⟩;exact⟨h2,h1,h3⟩
 .
  rintro⟨h1,h2,h3⟩;refine⟨h2,h1,h3,λa ha=>?_⟩
  cases t with
  |nil=>cases ha
  |cons b l=>
   cases ha;have hl:0<=l.sum:=by
    have:∀(l:List Int),(∀a∈l,1<=a)->0<=l.sum:=λl=>by
     induction l with
     |nil=>intro _;simp
     |cons x l ih=>intro h;have:=ih λa ha=>h a (dA _ ha);have:=h x dL;rw[AT];lia
    exact this l λa ha=>h1 a (dA _ ha)
   rw[AT]at h2;lia
def mO:Fx:=⟨1,1,[(.ret (.blt .all [(.comp 1 2 (.nm 2) (.fG (.val (.int 1)) (.blt .len [(.slot 0)])) none (.cmp .GtE (.ix (.slot 0) (.bin .Sub (.slot 2) (.val (.int 1)))) (.ix (.slot 0) (.slot 2))))]))]⟩
def bx(mw w fa:Nat):Fx:=⟨2,2,[(.expr (.call mw [(.slot 0),(.val (.int 1)),(.val (.int 9))])),(.ite (.not (.kL (.slot 1) "tuple")) [(.ret (.val (.bl false)))] []),(.ite (.not (.blt .all [(.comp 2 2 (.nm 3) (.slot 1) none (.and [(.call w [(.slot 3)]),(.cmp .GtE (.slot 3) (.val (.int 1)))]))])) [(.ret (.val (.bl false)))] []),(.ret (.and [(.cmp .Eq (.blt .sum [(.slot 1)]) (.slot 0)),(.call fa [(.slot 1)])]))]⟩
noncomputable def aJ(ik ci:Nat):Fx:=⟨2,2,[(.ite (.not (.call ik [(.slot 0),(.slot 1)])) [(.raise ci (.kr [(false,(.val (.str (PySem.Str.ofString "no kind of turns of ")))),(true,(.slot 0))]))] [])]⟩
def yT(m:Nat):D->Bool
 |.tup l=>match aW l with
  |some t=>decide (t∈kinds m)
  |none=>false
 |_=>false
def VH(t:List Int):Bool:=(List.range (t.length - 1)).all λi=>decide (gt t i ≥ gt t (i+1))
theorem Af(a:Int)(l:List Int)(i:Nat):gt (a::l) ((i:Int)+1)=gt l i:=by
 unfold gt;rw[show ((i:Int)+1).toNat=i+1 by lia,show (i:Int).toNat=i by lia]
 simp
theorem Ag:∀t:List Int,VH t=adj t
 | []=>rfl
 | [a]=>rfl
 |a::b::l=>by
  have ih:=Ag (b::l);unfold VH at ih ⊢
  simp only[l5,Nat.add_sub_cancel]at ih ⊢
  rw[List.range_succ_eq_map,List.all_cons,List.all_map,adj,<- ih];have:∀i:Nat,decide (gt (a::b::l) ((i+1:Nat):Int) ≥ gt (a::b::l) (((i+1:Nat):Int)+1))=decide (gt (b::l) (i:Int) ≥ gt (b::l) ((i:Int)+1)):=λi=>by
   rw[show ((i+1:Nat):Int)=(i:Int)+1 by lia,Af,show (i:Int)+1+1=((i+1:Nat):Int)+1 by lia,Af,show ((i+1:Nat):Int)=(i:Int)+1 by lia]
  have h2:(λi:Nat=>decide (gt (a::b::l) (i:Int) ≥ gt (a::b::l) ((i:Int)+1))) ∘ Nat.succ=λi:Nat=>decide (gt (b::l) (i:Int) ≥ gt (b::l) ((i:Int)+1)):=funext this
  rw[h2];rfl
def pos1:D->Bool
 |.int i=>decide (i ≥ 1)
 |_=>false
theorem Ot{a:D}(h:isInt a=false):pos1 a=false:=by cases a <;> first |rfl |cases h
theorem Iz{a:D}(h:isInt a=true):∃i,a=.int i:=by cases a <;> first |exact⟨_,rfl⟩ |cases h
theorem rZ(t:List Int):(t.map D.int).all pos1=true ↔ ∀a∈t,1<=a:=by simp[eP,pos1]
theorem IK{l:List D}(h:l.all pos1=true):∃t:List Int,l=t.map .int:=rX (eP.mpr λx hx=>by
 have:=eP.mp h x hx;cases x <;> first |rfl |cases this)
theorem fS(m:Nat)(t:List Int):yT m (~~~t)=decide (t∈kinds m):=by
 show (match aW (t.map .int)with |some t=>decide (t∈kinds m) |none=>false)=_
 rw[ints_map]
theorem Ou(m:Nat){l:List D}(h:l.all pos1=false):yT m (.tup l)=false:=by
 show (match aW l with |some t=>decide (t∈kinds m) |none=>false)=_
 cases e:aW l with
 |none=>rfl
 |some t=>dsimp only;rw[decide_eq_false_iff_not,rY];rintro⟨q,_⟩;rw[iH e,(rZ t).mpr q]at h;cases h
section
variable{k n:Nat}{g g1:G}{rn:Nat->Rn}{fns:List Fx}{w wi mw fa ik ci cj:Nat}(U:rT fns rn)
include U
theorem Ov(t:List Int)(h:t.length<=1000):bq (rn (n+20)) k mO [~~~t]=some (.dat (.bl (adj t))):=by
 have w1:∀n k,fH (rn (n+10)) [] k 1 2 (.nm 2) (.fG (.val (.int 1)) (.blt .len [(.slot 0)])) none (.cmp .GtE (.ix (.slot 0) (.bin .Sub (.slot 2) (.val (.int 1)))) (.ix (.slot 0) (.slot 2))) [.dat (~~~t)]=some (((List.range (t.length - 1)).map λ(i:Nat)=>decide (gt t i ≥ gt t (i+1))).map .bl,[.dat (~~~t)]):=λn k=>by
  rw[List.map_map];refine wC (rn:=rn (n+10)) (bor:=[]) (k:=k) (g:=[.dat (~~~t)]) (g1:=[.dat (~~~t)]) (kk:=2) (nn:=1) (j:=2) (List.range (t.length - 1)) (λ(i:Nat)=>D.int (1+(i:Int))) (λ(i:Nat)=>.bl (decide (gt t i ≥ gt t (i+1)))) ?_ rfl ⋯ ⋯ ⋯ (aB _ (by rw[List.length_range];lia)) λi hi G' hG=>?_
  .
   have hr:((t.length:Int) - 1).toNat=t.length - 1:=by lia
   have o1:=cJ 1 ⋯;have o2:=cJ (t.length:Int) ⋯;simp! [U,fV,o1,o2,gK,hr]
  .
   have h0:=hG.1 0 ⋯;have h2:=hG.2;rw[An]at hi;have a1:L2.iK (t.map D.int) (1+(i:Int) - 1)=some (.int (gt t i)):=by rw[show 1+(i:Int) - 1=(i:Int)by lia];exact iG ⋯
   have a2:L2.iK (t.map D.int) (1+(i:Int))=some (.int (gt t (i+1))):=by rw[show 1+(i:Int)=(i:Int)+1 by lia];exact iG ⋯
   simp only[List.getElem?_cons_zero]at h0;simp! [U,h0,h2,a1,a2]
 have e:((List.range (t.length - 1)).map λ(i:Nat)=>decide (gt t i ≥ gt t (i+1))).all id=adj t:=by rw[<- Ag];unfold VH;rw[List.all_map];rfl
 unfold bq mO;simp! [U,w1,e]
variable(hW:fns[w]?=some cR)(hF:fns[fa]?=some mO)(hI:fns[wi]?=some (bG w))(hM:fns[mw]?=some (bK wi ci))
include hW hF hI hM
theorem IV(m:Nat)(hm:1<=m/\m<=9)(d:D)(hd:jc (uJ d) "tuple"=false):bq (rn (n+40)) (k+4) (bx mw w fa) [.int m,d]=some (.dat (.bl false))/\jK (rn (n+40)) (k+4) (bx mw w fa) [.int m,d]=none:=by
 have hin:uO 1 9 (.int m)=true:=by unfold uO;simp only[eR];lia
 have mu:=λn k=>Aa U hW hI (n:=n) (k:=k) (ci:=ci) (.int m) 1 9 hin
 have mx:=λn k=>Ql U hW hI (n:=n) (k:=k) (ci:=ci) (.int m) 1 9 hin
 unfold bq jK bx;constructor
 . simp! [U,hM,bW (fx:=bK wi ci) rfl,mu,hd]
 . simp! [U,hM,bW (fx:=bK wi ci) rfl,mu,gB (fx:=bK wi ci) rfl,mx,hd]
theorem iR(m:Nat)(hm:1<=m/\m<=9)(d:D)(hd:Ir d):bq (rn (n+40)) (k+4) (bx mw w fa) [.int m,d]=some (.dat (.bl (yT m d)))/\jK (rn (n+40)) (k+4) (bx mw w fa) [.int m,d]=none:=by
 have hin:uO 1 9 (.int m)=true:=by unfold uO;simp only[eR];lia
 have mu:=λn k=>Aa U hW hI (n:=n) (k:=k) (ci:=ci) (.int m) 1 9 hin
 have mx:=λn k=>Ql U hW hI (n:=n) (k:=k) (ci:=ci) (.int m) 1 9 hin
 cases d with
 |tup l=>
  obtain⟨h1,h2⟩:=hd;have o:∀n k,fH (rn (n+14)) [] (k+1) 2 2 (.nm 3) (.slot 1) none (.and [(.call w [(.slot 3)]),(.cmp .GtE (.slot 3) (.val (.int 1)))]) [.dat (.int m),.dat (.tup l)]=some ((l.map pos1).map .bl,[.dat (.int m),.dat (.tup l)]):=λn k=>by
   rw[List.map_map];have:=wC (rn:=rn (n+14)) (bor:=[]) (k:=k+1) (g:=[.dat (.int m),.dat (.tup l)]) (g1:=[.dat (.int m),.dat (.tup l)]) (kk:=2) (nn:=2) (j:=3) (it:=.slot 1) (e:=(.and [(.call w [(.slot 3)]),(.cmp .GtE (.slot 3) (.val (.int 1)))])) l id (λx=>.bl (pos1 x)) (by simp! [U,fV]) rfl ⋯ ⋯ ⋯ (aB _ ⋯) λa _ G' hG=>by
    have h2:=hG.2;simp only[id]at h2;cases hi:isInt a with
    |true=>obtain⟨i,rfl⟩:=Iz hi;simp! [U,h2,hW,bD (fx:=cR) rfl,fP U,isInt,pos1]
    |false=>simp! [U,h2,hW,bD (fx:=cR) rfl,fP U,hi,Ot hi]
   exact this
  have ea:(l.map pos1).all id=l.all pos1:=by simp[List.all_map]
  cases e:l.all pos1 with
  |true=>
   obtain⟨t,rfl⟩:=IK e;have q:=(rZ t).mp e;have hl:t.length<=20:=by have:=d6 (as:=t) D.int;lia
   have fa':=λn k=>Ov U (n:=n) (k:=k) t ⋯
   have hk:yT m (~~~t)=(decide (t.sum=m)&&adj t):=by rw[fS,Bool.eq_iff_iff];simp only[eR,dS,rY];exact⟨λh=>h.2,λh=>⟨q,h⟩⟩
   rw[hk];rw[e]at ea;unfold bq jK bx;constructor
   .
    cases hs:decide (t.sum=(m:Int))with
    |true=>simp! [U,hM,bW (fx:=bK wi ci) rfl,mu,o,ea,hs,hF,bD (fx:=mO) rfl,fa',(kA hs)]
    |false=>simp! [U,hM,bW (fx:=bK wi ci) rfl,mu,o,ea,hs,hF,bD (fx:=mO) rfl,fa',(BD hs)]
   .
    cases hs:decide (t.sum=(m:Int))with
    |true=>simp! [U,hM,bW (fx:=bK wi ci) rfl,mu,gB (fx:=bK wi ci) rfl,mx,o,ea,hF,bD (fx:=mO) rfl,fa',(kA hs)]
    |false=>simp! [U,hM,bW (fx:=bK wi ci) rfl,mu,gB (fx:=bK wi ci) rfl,mx,o,ea,hF,bD (fx:=mO) rfl,fa',(BD hs)]
  |false=>
   rw[Ou m e];rw[e]at ea;unfold bq jK bx;constructor
   . simp! [U,hM,bW (fx:=bK wi ci) rfl,mu,o,ea]
   . simp! [U,hM,bW (fx:=bK wi ci) rfl,mu,gB (fx:=bK wi ci) rfl,mx,o,ea]
 |_=>exact IV U hW hF hI hM m hm _ rfl
theorem IW(b d:D)(h:uO 1 9 b=false):jK (rn (n+40)) (k+4) (bx mw w fa) [b,d]=some ci:=by
 have mx:=λn k=>Oo U hW hI (n:=n) (k:=k) (ci:=ci) b 1 9 (by decide +kernel) h
 unfold jK bx;simp! [U,hM,gB (fx:=bK wi ci) rfl,mx]
variable(hK:fns[ik]?=some (bx mw w fa))
include hK
theorem wK(m:Nat)(hm:1<=m/\m<=9)(t:List Int)(h:t∈kinds m)(hl:t.length<=20):bq (rn (n+50)) (k+5) (aJ ik cj) [.int m,~~~t]=some (.dat .non):=by
 have hd:Ir (~~~t):=⟨by rw[d6];exact hl,λx hx=>Pl.ints hx⟩
 have q:=λn k=>(iR U hW hF hI hM (n:=n) (k:=k) m hm (~~~t) hd).1
 rw[fS,oD h]at q;unfold bq aJ;simp! [U,hK,aE (fx:=bx mw w fa) rfl,q]
theorem wL(b d:D)(h:uO 1 9 b=false):jK (rn (n+50)) (k+5) (aJ ik cj) [b,d]=some ci:=by
 have q:=λn k=>IW U hW hF hI hM (n:=n) (k:=k) b d h
 unfold jK aJ;simp! [U,hK,eX (fx:=bx mw w fa) rfl,q]
theorem wM(m:Nat)(hm:1<=m/\m<=9)(d:D)(hd:Ir d)(h:yT m d=false):jK (rn (n+50)) (k+5) (aJ ik cj) [.int m,d]=some cj:=by
 have q1:=λn k=>(iR U hW hF hI hM (n:=n) (k:=k) m hm d hd).1
 have q2:=λn k=>(iR U hW hF hI hM (n:=n) (k:=k) m hm d hd).2
 rw[h]at q1;have e:∃x,∀(n k:Nat),uM (rn (n+1)) [] k PySem.Str.empty [(false,(.val (.str (PySem.Str.ofString "no kind of turns of ")))),(true,(.slot 0))] [.dat (.int m),.dat d]=some (x,[.dat (.int m),.dat d]):=by
  obtain⟨h1,h2⟩:=hm
  match m,h1,h2 with
  | 1,_,_=>exact⟨_,λn k=>by simp only[uM,eH,U.e,aO,toD];rfl⟩
  | 2,_,_=>exact⟨_,λn k=>by simp only[uM,eH,U.e,aO,toD];rfl⟩
  | 3,_,_=>exact⟨_,λn k=>by simp only[uM,eH,U.e,aO,toD];rfl⟩
  | 4,_,_=>exact⟨_,λn k=>by simp only[uM,eH,U.e,aO,toD];rfl⟩
  | 5,_,_=>exact⟨_,λn k=>by simp only[uM,eH,U.e,aO,toD];rfl⟩
  | 6,_,_=>exact⟨_,λn k=>by simp only[uM,eH,U.e,aO,toD];rfl⟩
  | 7,_,_=>exact⟨_,λn k=>by simp only[uM,eH,U.e,aO,toD];rfl⟩
  | 8,_,_=>exact⟨_,λn k=>by simp only[uM,eH,U.e,aO,toD];rfl⟩
  | 9,_,_=>exact⟨_,λn k=>by simp only[uM,eH,U.e,aO,toD];rfl⟩
  |_+10,_,h=>exact absurd h ⋯
 obtain⟨x,e⟩:=e;unfold jK aJ;simp! [U,hK,eX (fx:=bx mw w fa) rfl,q2,aE (fx:=bx mw w fa) rfl,q1,e]
end
end Ev
namespace bu
open Ev
def gU:List PySem.Addr:=[49,73]
noncomputable def x0:Fx:=⟨1,1,[(.ret (.and [(.kL (.slot 0) "int"),(.not (.kL (.slot 0) "bool"))]))]⟩
noncomputable def x1:Fx:=⟨3,3,[(.ret (.and [(.call 0 [(.slot 0)]),(.chain (.slot 1) [.LtE,.LtE] [(.slot 0),(.slot 2)])]))]⟩
noncomputable def x2:Fx:=⟨3,3,[(.ite (.not (.call 1 [(.slot 0),(.slot 1),(.slot 2)])) [(.raise 0 (.kr [(false,(.val (.str (PySem.Str.ofString "no whole number from ")))),(true,(.slot 1)),(false,(.val (.str (PySem.Str.ofString " to ")))),(true,(.slot 2))]))] [])]⟩
def x3:Fx:=⟨2,4,[(.set 2 (.val (.int 1))),(.loop (.nm 3) (.dP (.slot 1)) [(.aug 2 .Mult (.slot 0))]),(.ret (.slot 2))]⟩
def x4:Fx:=⟨2,2,[(.expr (.call 2 [(.slot 0),(.val (.int 1)),(.val (.int 9))])),(.ite (.not (.kL (.slot 1) "tuple")) [(.ret (.val (.bl false)))] []),(.ite (.not (.blt .all [(.comp 2 2 (.nm 3) (.slot 1) none (.and [(.call 0 [(.slot 3)]),(.cmp .GtE (.slot 3) (.val (.int 1)))]))])) [(.ret (.val (.bl false)))] []),(.ret (.and [(.cmp .Eq (.blt .sum [(.slot 1)]) (.slot 0)),(.call 5 [(.slot 1)])]))]⟩
def x5:Fx:=⟨1,1,[(.ret (.blt .all [(.comp 1 2 (.nm 2) (.fG (.val (.int 1)) (.blt .len [(.slot 0)])) none (.cmp .GtE (.ix (.slot 0) (.bin .Sub (.slot 2) (.val (.int 1)))) (.ix (.slot 0) (.slot 2))))]))]⟩
noncomputable def x6:Fx:=⟨2,2,[(.ite (.not (.call 4 [(.slot 0),(.slot 1)])) [(.raise 1 (.kr [(false,(.val (.str (PySem.Str.ofString "no kind of turns of ")))),(true,(.slot 0))]))] [])]⟩
noncomputable def x7:Fx:=⟨2,2,[(.ret (.ite (.cmp .Lt (.slot 0) (.slot 1)) (.tup [(.slot 0),(.slot 1)]) (.tup [(.slot 1),(.slot 0)])))]⟩
def x8:Fx:=⟨1,1,[(.ret (.cT 1 3 (.nm 2) (.dP (.slot 0)) none (.nm 3) (.fG (.bin .Add (.slot 2) (.val (.int 1))) (.slot 0)) none (.tup [(.slot 2),(.slot 3)])))]⟩
def x9:Fx:=⟨2,3,[(.setC 2 (.comp 3 2 (.nm 4) (.slot 1) none (.call 10 [(.slot 0),(.slot 4)]))),(.ret (.comp 3 2 (.nm 4) (.slot 2) (some (.cmp .Eq (.ix (.slot 4) (.val (.int 0))) (.blt .min [(.slot 4)]))) (.slot 4)))]⟩
def x10:Fx:=⟨2,3,[(.set 2 (.lst [(.slot 1)])),(.while (.cmp .NotEq (.ix (.slot 0) (.ix (.slot 2) (.neg (.val (.int 1))))) (.slot 1)) [(.expr (.append 2 (.ix (.slot 0) (.ix (.slot 2) (.neg (.val (.int 1)))))))]),(.ret (.blt .tuple [(.slot 2)]))]⟩
def x11:Fx:=⟨1,2,[(.set 1 (.call 8 [(.blt .len [(.slot 0)])])),(.ret (.call 9 [(.iA 2 3 (.tp [3,4]) (.slot 1) [(.slot 3),(.slot 4)] (.call 7 [(.ix (.slot 0) (.slot 3)),(.ix (.slot 0) (.slot 4))])),(.slot 1)]))]⟩
def r9:Fx:=⟨2,2,[(.expr (.call 6 [(.slot 0),(.slot 1)])),(.ret (.blt .tuple [(.jl (.comp 2 2 (.nm 3) (.call 11 [(.call 13 [(.slot 1)])]) none (.blt .len [(.slot 3)])))]))]⟩
def Qm:Fx:=⟨1,4,[(.set 1 (.lst [])),(.loop (.nm 2) (.slot 0) [(.set 3 (.blt .len [(.slot 1)])),(.aug 1 .Add (.iB (.bin .Add (.slot 3) (.val (.int 1))) (.bin .Add (.slot 3) (.slot 2)))),(.expr (.append 1 (.slot 3)))]),(.ret (.blt .tuple [(.slot 1)]))]⟩
noncomputable def Ja:Fx:=⟨2,2,[(.ret (.call 3 [(.val (.int 2)),(.blt .len [(.call 12 [(.slot 0),(.slot 1)])])]))]⟩
def J1:Fx:=⟨2,5,[(.set 2 (.lst [(.val (.int 1))])),(.loop (.nm 3) (.call 12 [(.slot 0),(.slot 1)]) [(.set 4 (.bin .Mult (.lst [(.val (.int 0))]) (.slot 3))),(.setC 2 (.comp 5 3 (.tp [6,7]) (.zip (.bin .Add (.slot 2) (.slot 4)) (.bin .Add (.slot 4) (.slot 2))) none (.bin .Add (.slot 6) (.slot 7))))]),(.ret (.slot 2))]⟩
def x16:Fx:=⟨2,2,[(.ite (.cmp .Lt (.slot 1) (.blt .len [(.slot 0)])) [(.ret (.ix (.slot 0) (.slot 1)))] []),(.ret (.val (.int 0)))]⟩
def x17:Fx:=⟨2,3,[(.set 2 (.call 16 [(.slot 0),(.slot 1)])),(.ite (.cmp .GtE (.slot 2) (.bin .Pow (.val (.int 10)) (.val (.int 18)))) [(.ret (.lst [(.bin .Sub (.slot 2) (.bin .Pow (.val (.int 10)) (.val (.int 18)))),(.val (.bl true))]))] []),(.ret (.lst [(.bin .Mod (.slot 2) (.val (.int 2147483647))),(.val (.bl false))]))]⟩
def ZD:Fx:=⟨2,4,[(.ite (.cmp .Eq (.slot 0) (.val (.int 0))) [(.ret (.lst [(.tup [])]))] []),(.set 2 (.lst [])),(.loop (.nm 3) (.fG (.val (.int 1)) (.bin .Add (.blt .min [(.slot 0),(.slot 1)]) (.val (.int 1)))) [(.expr (.extend 2 (.comp 4 2 (.nm 5) (.call 18 [(.bin .Sub (.slot 0) (.slot 3)),(.slot 3)]) none (.bin .Add (.tup [(.slot 3)]) (.slot 5)))))]),(.ret (.slot 2))]⟩
def ZF:Fx:=⟨1,4,[(.set 1 (.lst [])),(.loop (.nm 2) (.slot 0) [(.set 3 (.blt .len [(.slot 1)])),(.set 1 (.bin .Add (.bin .Add (.slot 1) (.iB (.bin .Add (.slot 3) (.val (.int 1))) (.bin .Add (.slot 3) (.slot 2)))) (.lst [(.slot 3)])))]),(.ret (.blt .tuple [(.slot 1)]))]⟩
def VJ:Fx:=⟨1,3,[(.set 1 (.lst [])),(.loop (.nm 2) (.dP (.slot 0)) [(.expr (.extend 1 (.comp 3 2 (.nm 4) (.fG (.bin .Add (.slot 2) (.val (.int 1))) (.slot 0)) none (.tup [(.slot 2),(.slot 4)]))))]),(.ret (.slot 1))]⟩
def x21:Fx:=⟨1,5,[(.set 1 (.lst [])),(.set 2 (.lst [])),(.loop (.nm 3) (.call 20 [(.blt .len [(.slot 0)])]) [(.set 4 (.lst [(.slot 3)])),(.while (.or [(.cmp .Lt (.blt .len [(.slot 4)]) (.val (.int 2))),(.cmp .NotEq (.ix (.slot 4) (.neg (.val (.int 1)))) (.slot 3))]) [(.expr (.append 4 (.blt .tuple [(.blt .sorted [(.lst [(.ix (.slot 0) (.ix (.ix (.slot 4) (.neg (.val (.int 1)))) (.val (.int 0)))),(.ix (.slot 0) (.ix (.ix (.slot 4) (.neg (.val (.int 1)))) (.val (.int 1))))])])])))]),(.ite (.cmp .NotIn (.slot 3) (.slot 2)) [(.expr (.append 1 (.blt .tuple [(.slice (.slot 4) none (some (.neg (.val (.int 1)))))])))] []),(.set 2 (.bin .Add (.slot 2) (.slot 4)))]),(.ret (.slot 1))]⟩
noncomputable def x22:Fx:=⟨2,2,[(.ret (.tup [(.ix (.slot 0) (.val (.int 0))),(.blt .tuple [(.blt .sorted [(.comp 2 3 (.tp [3,4]) (.ix (.slot 0) (.val (.int 1))) none (.blt .tuple [(.blt .sorted [(.lst [(.ix (.slot 1) (.slot 3)),(.ix (.slot 1) (.slot 4))])])]))])])]))]⟩
noncomputable def x23:Fx:=⟨2,4,[(.ite (.ix (.slot 0) (.val (.int 1))) [(.set 2 (.bin .Mod (.ix (.slot 0) (.val (.int 0))) (.slot 1))),(.item 0 (.val (.int 0)) (.bin .FloorDiv (.ix (.slot 0) (.val (.int 0))) (.slot 1))),(.ret (.slot 2))] []),(.item 0 (.val (.int 0)) (.bin .Mod (.bin .Add (.bin .Mult (.ix (.slot 0) (.val (.int 0))) (.val (.int 48271))) (.val (.int 29))) (.val (.int 2147483647)))),(.set 3 (.bin .Mod (.bin .Add (.bin .Add (.bin .Mult (.ix (.slot 0) (.val (.int 0))) (.ix (.slot 0) (.val (.int 0)))) (.bin .Mult (.val (.int 39373)) (.ix (.slot 0) (.val (.int 0))))) (.val (.int 7))) (.val (.int 2147483629)))),(.set 3 (.bin .Mod (.bin .Add (.bin .Mult (.slot 3) (.slot 3)) (.bin .Mult (.val (.int 16807)) (.slot 3))) (.val (.int 2147483587)))),(.ret (.bin .Mod (.bin .FloorDiv (.slot 3) (.val (.int 8))) (.slot 1)))]⟩
noncomputable def x24:Fx:=⟨2,2,[(.ret (.ix (.lst [(.val (.int 0)),(.bin .Add (.slot 1) (.val (.int 1))),(.neg (.val (.int 1))),(.val (.bl true)),(.val .non),(.val (.str (PySem.Str.ofString "2"))),(.tup [(.val (.int 2))]),(.bin .Pow (.val (.int 10)) (.val (.int 29))),(.lst [(.val (.int 1))]),(.bin .Add (.slot 1) (.val (.int 2)))]) (.call 23 [(.slot 0),(.val (.int 10))])))]⟩
noncomputable def x25:Fx:=⟨2,2,[(.ite (.pB (.slot 1) ["tuple", "list"]) [(.ite (.or [(.cmp .NotEq (.kL (.slot 0) "tuple") (.kL (.slot 1) "tuple")),(.cmp .NotEq (.kL (.slot 0) "list") (.kL (.slot 1) "list"))]) [(.ret (.val (.bl false)))] []),(.ite (.cmp .NotEq (.blt .len [(.slot 0)]) (.blt .len [(.slot 1)])) [(.ret (.val (.bl false)))] []),(.ret (.blt .all [(.comp 2 3 (.tp [3,4]) (.zip (.slot 0) (.slot 1)) none (.call 25 [(.slot 3),(.slot 4)]))]))] []),(.ret (.and [(.cmp .Eq (.slot 0) (.slot 1)),(.cmp .Eq (.kL (.slot 0) "bool") (.kL (.slot 1) "bool"))]))]⟩
def WL:Fx:=⟨1,5,[(.set 1 (.val .non)),.stuck,(.set 3 (.lst [(.rJ (.slot 1) [(49,false),(73,false)]),(.rJ (.slot 1) [(49,true),(73,false)]),(.rJ (.slot 1) [(49,false),(73,false)])])),(.set 3 (.bin .Add (.slot 3) (.lst [(.rJ (.slot 1) [(49,false),(73,true)]),(.rJ (.slot 1) [(49,false),(73,false)]),(.rJ (.slot 1) [(49,false),(73,false)])]))),(.set 3 (.bin .Add (.slot 3) (.lst [(.rJ (.slot 1) [(49,false),(73,false)]),(.rJ (.slot 1) [(49,false),(73,false)]),(.rJ (.slot 1) [(49,false),(73,false)])]))),(.expr (.append 3 (.rJ (.slot 1) [(49,false),(73,false)]))),(.ite (.not (.rJ (.slot 1) [(49,true),(73,true)])) [(.ret (.val .non))] []),(.setC 4 (.comp 5 2 (.nm 6) (.dP (.val (.int 10))) (some (.ix (.slot 3) (.slot 6))) (.slot 6))),(.ret (.ite (.cmp .Eq (.slot 4) (.lst [(.val (.int 9))])) .stk (.slot 4)))]⟩
def VL:Fx:=⟨2,6,[(.set 2 (.bin .Add (.lst [(.val (.int 1))]) (.bin .Mult (.lst [(.val (.int 0))]) (.bin .FloorDiv (.bin .Mult (.slot 0) (.bin .Sub (.slot 0) (.val (.int 1)))) (.val (.int 2)))))),(.loop (.nm 3) (.call 21 [(.slot 1)]) [(.set 4 (.blt .list [(.slot 2)])),(.loop (.nm 5) (.fG (.blt .len [(.slot 3)]) (.blt .len [(.slot 2)])) [(.item 4 (.slot 5) (.bin .Add (.ix (.slot 2) (.slot 5)) (.ix (.slot 2) (.bin .Sub (.slot 5) (.blt .len [(.slot 3)])))))]),(.set 2 (.slot 4))]),(.ret (.slot 2))]⟩
def WM:Fx:=⟨2,6,[(.set 2 (.lst [(.tup [])])),(.loop (.nm 3) (.call 20 [(.slot 0)]) [(.set 2 (.bin .Add (.slot 2) (.comp 6 2 (.nm 7) (.slot 2) none (.bin .Add (.slot 7) (.tup [(.slot 3)])))))]),(.set 5 (.bin .Mult (.lst [(.val (.int 0))]) (.bin .Add (.bin .FloorDiv (.bin .Mult (.slot 0) (.bin .Sub (.slot 0) (.val (.int 1)))) (.val (.int 2))) (.val (.int 1))))),(.loop (.nm 4) (.slot 2) [(.ite (.cmp .Eq (.call 22 [(.tup [(.slot 0),(.blt .tuple [(.blt .sorted [(.slot 4)])])]),(.slot 1)]) (.tup [(.slot 0),(.blt .tuple [(.blt .sorted [(.slot 4)])])])) [(.item 5 (.blt .len [(.slot 4)]) (.bin .Add (.ix (.slot 5) (.blt .len [(.slot 4)])) (.val (.int 1))))] [])]),(.ret (.slot 5))]⟩
def Qn:Fx:=⟨1,13,[(.loop (.nm 1) (.dP (.blt .max [(.val (.int 1)),(.blt .min [(.blt .len [(.slot 0)]),(.val (.int 6))])])) [(.set 2 (.call 17 [(.slot 0),(.slot 1)])),(.set 11 (.bin .Add (.val (.int 1)) (.call 23 [(.slot 2),(.val (.int 9))]))),(.set 3 (.call 18 [(.slot 11),(.slot 11)])),(.set 3 (.ix (.slot 3) (.call 23 [(.slot 2),(.blt .len [(.slot 3)])]))),(.set 4 (.call 19 [(.slot 3)])),(.set 5 (.rev (.blt .sorted [(.comp 13 2 (.nm 14) (.call 21 [(.slot 4)]) none (.blt .len [(.slot 14)]))]))),(.set 6 (.call 27 [(.slot 11),(.slot 4)])),(.ite (.or [(.not (.peek (.call 25 [(.call 12 [(.slot 11),(.slot 3)]),(.blt .tuple [(.slot 5)])]))),(.cmp .NotEq (.blt .sum [(.slot 6)]) (.bin .LShift (.val (.int 1)) (.blt .len [(.slot 5)])))]) [(.ret (.val (.bl false)))] []),(.ite (.or [(.not (.peek (.call 25 [(.call 14 [(.slot 11),(.slot 3)]),(.bin .LShift (.val (.int 1)) (.blt .len [(.slot 5)]))]))),(.and [(.cmp .Lt (.slot 11) (.val (.int 5))),(.cmp .NotEq (.call 28 [(.slot 11),(.slot 4)]) (.slot 6))])]) [(.ret (.val (.bl false)))] []),(.loop (.nm 7) (.dP (.val (.int 2))) [(.set 8 (.call 15 [(.slot 11),(.slot 3)])),(.ite (.not (.peek (.call 25 [(.slot 8),(.slot 6)]))) [(.ret (.val (.bl false)))] []),(.expr (.append 8 (.val (.int 0))))]),(.set 10 (.call 24 [(.slot 2),(.val (.int 9))])),(.set 12 (.ix (.lst [(.slice (.slot 3) (some (.val (.int 1))) none),(.bin .Add (.slot 3) (.tup [(.val (.int 1))])),(.blt .list [(.slot 3)]),(.val .non),(.bin .Add (.rev (.slot 3)) (.tup [(.val (.int 0))])),(.val (.int 0)),(.val (.str (PySem.Str.ofString "1")))]) (.call 23 [(.slot 2),(.val (.int 7))]))),(.calls 9 (.refs 26 1 gU [(.call 12 [(.slot 11),(.slot 12)]),(.call 14 [(.slot 11),(.slot 12)]),(.call 15 [(.slot 11),(.slot 12)])]) .NotEq (.bin .Mult (.lst [(.lst [(.val (.int 3))])]) (.val (.int 3))) false [(.ret (.val (.bl false)))]),(.calls 9 (.refs 26 1 gU [(.call 12 [(.slot 10),(.slot 12)]),(.call 14 [(.slot 10),(.slot 12)]),(.call 15 [(.slot 10),(.slot 12)])]) .NotEq (.bin .Mult (.lst [(.lst [(.val (.int 1))])]) (.val (.int 3))) false [(.ret (.val (.bl false)))])]),(.ret (.val (.bl true)))]⟩
def fns:List Fx:=[x0,x1,x2,x3,x4,x5,x6,x7,x8,x9,x10,x11,r9,Qm,Ja,J1,x16,x17,ZD,ZF,VJ,x21,x22,x23,x24,x25,WL,VL,WM,Qn]
theorem c0:fns[0]?=some cR:=rfl
theorem c1:fns[1]?=some (bG 0):=rfl
theorem c2:fns[2]?=some (bK 1 0):=rfl
theorem c3:fns[3]?=some x3:=rfl
theorem c4:fns[4]?=some (bx 2 0 5):=rfl
theorem c5:fns[5]?=some mO:=rfl
theorem c6:fns[6]?=some (aJ 4 1):=rfl
theorem c8:fns[8]?=some x8:=rfl
theorem c12:fns[12]?=some r9:=rfl
theorem c13:fns[13]?=some Qm:=rfl
theorem c14:fns[14]?=some Ja:=rfl
theorem c15:fns[15]?=some J1:=rfl
theorem c16:fns[16]?=some p7:=rfl
theorem c17:fns[17]?=some (p8 16):=rfl
theorem c18:fns[18]?=some ZD:=rfl
theorem c19:fns[19]?=some ZF:=rfl
theorem c20:fns[20]?=some VJ:=rfl
theorem c23:fns[23]?=some eY:=rfl
theorem c24:fns[24]?=some (iQ 23):=rfl
theorem J2:fns[25]?=some (cK 25):=rfl
theorem c26:fns[26]?=some WL:=rfl
theorem c27:fns[27]?=some VL:=rfl
theorem c28:fns[28]?=some WM:=rfl
end bu
namespace Ev
noncomputable def Jb:Fx:=⟨2,2,[(.ret (.ite (.cmp .Lt (.slot 0) (.slot 1)) (.tup [(.slot 0),(.slot 1)]) (.tup [(.slot 1),(.slot 0)])))]⟩
def Jc(pa al ti:Nat):Fx:=⟨1,2,[(.set 1 (.call pa [(.blt .len [(.slot 0)])])),(.ret (.call al [(.iA 2 3 (.tp [3,4]) (.slot 1) [(.slot 3),(.slot 4)] (.call ti [(.ix (.slot 0) (.slot 3)),(.ix (.slot 0) (.slot 4))])),(.slot 1)]))]⟩
def cS(l:List (List Int)):List Int:=l.getLastD []
theorem fT{l:List (List Int)}(h:l≠[]):cS l∈l:=by unfold cS;rw[List.getLastD_eq_getLast?,List.getLast?_eq_some_getLast h];exact List.getLast_mem h
theorem fU(l:List (List Int))(h:l≠[]):L2.iK (l.map λx=>~~~x) (-1)=some (~~~(cS l)):=by
 obtain⟨a,x,rfl⟩:∃a x,l=a++[x]:=⟨l.dropLast,l.getLast h,(List.dropLast_concat_getLast h).symm⟩;unfold L2.iK L2.xO cS;have hz:(List.map (λx=>~~~x) (a++[x])).length=a.length+1:=by simp
 rw[hz,hZ ⋯,gL ⋯,show (-1+((a.length+1:Nat):Int)).toNat=a.length by lia]
 simp
noncomputable def Ea(nx:List Int->List Int)(s:List Int):Nat->List (List Int)->Option (List (List Int))
 | 0,acc=>if nx (cS acc)=s then some acc else none
 |f+1,acc=>if nx (cS acc)=s then some acc else Ea nx s f (acc++[nx (cS acc)])
def lV(nx:List Int->List Int)(s:List Int):List (List Int):=(Ea nx s 40 [s]).getD []
def yU(r:List (List Int)):Bool:=match r with
 | []=>false
 |n::l=>decide (n=mX n l)
def Jd(nx:List Int->List Int)(ps:List (List Int)):List (List (List Int)):=(ps.map (lV nx)).filter yU
def jf(u:List Int)(p:List Int):List Int:=match p with
 | [a,b]=>if gt u a<gt u b then [gt u a,gt u b]else [gt u b,gt u a]
 |_=>[]
def wN(nx:List Int->List Int)(ps:List (List Int)):Bool:=ps.all λp=>decide (nx p∈ps)&&(match Ea nx p 40 [p]with |some r=>!r.isEmpty&&decide (r.length<=41) |none=>false)&&!p.isEmpty
theorem Ah{nx:List Int->List Int}{ps:List (List Int)}(hc:∀p∈ps,nx p∈ps){s:List Int}{r:List (List Int)}:∀(f:Nat) (acc:List (List Int)),acc≠[]->(∀x∈acc,x∈ps)->Ea nx s f acc=some r->∀x∈r,x∈ps
 | 0,acc,_,h,e=>by
  unfold Ea at e;split at e
  . cases e;exact h
  . cases e
 |f+1,acc,ha,h,e=>by
  unfold Ea at e;split at e
  . cases e;exact h
  . exact Ah hc f _ ⋯ (λx hx=>(w8.mp hx).elim (h x) λz=>by rw[i6.mp z];exact hc _ (h _ (fT ha))) e
theorem Ai(f:List Int->D):∀{ps:List (List Int)}{p:List Int},p∈ps->P6 ps (ps.map f) p=some (f p)
 |q::ps,p,h=>by
  unfold P6;rw[List.map_cons];by_cases e:q=p
  . simp[e]
  . simp only[e,CD];exact Ai f ((d5.mp h).resolve_left λz=>e z.symm)
theorem Ow(n:List Int)(l:List (List Int))(h:∀x∈n::l,x≠[]):pC .min [.tup ((n::l).map λx=>~~~x)]=some (.dat (~~~(mX n l))):=by have e:=Ij (n::l) h;have e2:=Di n l;simp only[pC,P7,cG,e2,e]
section
variable{k n:Nat}{g g1:G}{rn:Nat->Rn}{fns:List Fx}{pa al ti rf:Nat}(U:rT fns rn)
include U
theorem Ox(L:D)(nx:List Int->List Int)(ps:List (List Int))(hix:∀p∈ps,MT L (~~~p)=some (~~~(nx p)))(hcl:∀p∈ps,nx p∈ps)(s:List Int)(r:List (List Int)):∀(f N:Nat) (acc:List (List Int)),f<N->acc≠[]->(∀x∈acc,x∈ps)->acc.length+f<=100->Ea nx s f acc=some r->
  CP ((rn (n+12)).t [] k (.cmp .NotEq (.ix (.slot 0) (.ix (.slot 2) (.neg (.val (.int 1))))) (.slot 1))) ((rn (n+12)).b [] k [(.expr (.append 2 (.ix (.slot 0) (.ix (.slot 2) (.neg (.val (.int 1)))))))]) N [.dat L,.dat (~~~s),.own (acc.map λx=>~~~x)]=some (.nx,[.dat L,.dat (~~~s),.own (r.map λx=>~~~x)]):=by
 have test:∀acc:List (List Int),acc≠[]->(∀x∈acc,x∈ps)->(rn (n+12)).t [] k (.cmp .NotEq (.ix (.slot 0) (.ix (.slot 2) (.neg (.val (.int 1))))) (.slot 1)) [.dat L,.dat (~~~s),.own (acc.map λx=>~~~x)]=some (!decide (nx (cS acc)=s),[.dat L,.dat (~~~s),.own (acc.map λx=>~~~x)]):=λacc h1 h2=>by
  have hx:=hix (cS acc) (h2 _ (fT h1));simp! [U,fU acc h1,hx]
 intro f
 induction f with
 |zero=>
  intro N acc hN h1 h2 h3 hr;obtain⟨N,rfl⟩:∃N',N=N'+1:=⟨N - 1,by lia⟩
  unfold Ea at hr;split at hr
  . rename_i e;cases hr;unfold CP;rw[test _ h1 h2];simp[e]
  . cases hr
 |succ f ih=>
  intro N acc hN h1 h2 h3 hr;obtain⟨N,rfl⟩:∃N',N=N'+1:=⟨N - 1,by lia⟩
  unfold Ea at hr;have hx:=h2 (cS acc) (fT h1);split at hr
  . rename_i e;cases hr;unfold CP;rw[test _ h1 h2];simp[e]
  .
   rename_i e;unfold CP;rw[test acc h1 h2];simp only[e,decide_false,Bool.not_false];have hb:(rn (n+12)).b [] k [(.expr (.append 2 (.ix (.slot 0) (.ix (.slot 2) (.neg (.val (.int 1)))))))] [.dat L,.dat (~~~s),.own (acc.map λx=>~~~x)]=some (.nx,[.dat L,.dat (~~~s),.own ((acc++[nx (cS acc)]).map λx=>~~~x)]):=by have hlt:acc.length<lim:=eQ (mM _) (aB (acc.length+1) ⋯);simp! [U,fU acc h1,hix (cS acc) hx,hlt];simp
   rw[hb];dsimp only;refine ih N (acc++[nx (cS acc)]) ⋯ ⋯ (λx hx'=>?_) (by rw[fR,nV];lia) hr
   rcases w8.mp hx' with hx' |hx'
   . exact h2 x hx'
   . cases i6.mp hx';exact hcl _ hx
theorem Dm(L:D)(nx:List Int->List Int)(ps:List (List Int))(hix:∀p∈ps,MT L (~~~p)=some (~~~(nx p)))(hcl:∀p∈ps,nx p∈ps)(s:List Int)(hs:s∈ps)(r:List (List Int))(hr:Ea nx s 40 [s]=some r):bq (rn (n+20)) k lT [L,~~~s]=some (.dat (.tup (r.map λx=>~~~x))):=by
 have w:=λn k=>Ox U (n:=n) (k:=k) L nx ps hix hcl s r 40 100000 [s] ⋯ ⋯ (by simpa using hs) ⋯ hr
 have e:List.map (λx=>~~~x) [s]=[~~~s]:=rfl
 simp only[e]at w;unfold bq lT;simp! [U,w,aB 1 ⋯]
omit U in
theorem kK{nx:List Int->List Int}{ps:List (List Int)}(h:wN nx ps=true){p:List Int}(hp:p∈ps):nx p∈ps/\Ea nx p 40 [p]=some (lV nx p)/\lV nx p≠[]/\(∀x∈lV nx p,x∈ps)/\(lV nx p).length<=41/\p≠[]:=by
 have:=eP.mp h p hp;simp only[dS,eR]at this;obtain⟨⟨h1,h2⟩,h3⟩:=this;unfold lV;cases e:Ea nx p 40 [p]with
 |none=>rw[e]at h2;cases h2
 |some r=>
  rw[e]at h2;simp only[dS,eR]at h2;obtain⟨h4,h6⟩:=h2;have hc:∀q∈ps,nx q∈ps:=λq hq=>by
   have:=eP.mp h q hq;simp only[dS,eR]at this;exact this.1.1
  have h5:∀x∈r,x∈ps:=Ah hc 40 [p] ⋯ (by simpa using hp) e
  exact⟨h1,rfl,λz=>(by rw[show r=[]from z]at h4;cases h4),h5,h6,λz=>(by rw[z]at h3;cases h3)⟩
variable(hR:fns[rf]?=some lT)
include hR
theorem Dn(L:D)(nx:List Int->List Int)(ps:List (List Int))(hix:∀p∈ps,MT L (~~~p)=some (~~~(nx p)))(hg:wN nx ps=true)(hl:ps.length<=100):bq (rn (n+40)) (k+1) (lU rf) [L,.lst (ps.map λx=>~~~x)]=some (.new ((Jd nx ps).map λr=>.tup (r.map λx=>~~~x))):=by
 have hcl:∀p∈ps,nx p∈ps:=λp hp=>(kK hg hp).1
 have w1:=λn k=>wC (rn:=rn (n+30)) (bor:=[]) (k:=k+1) (g:=[.dat L,.dat (.lst (ps.map λx=>~~~x)),.no]) (g1:=[.dat L,.dat (.lst (ps.map λx=>~~~x)),.no]) (kk:=2) (nn:=3) (j:=4) (it:=.slot 1) (e:=.call rf [(.slot 0),(.slot 4)]) ps (λx=>~~~x) (λs=>D.tup ((lV nx s).map λx=>~~~x)) (by simp! [U,fV]) rfl ⋯ ⋯ ⋯ (aB _ ⋯) λs hs G' hG=>by
  have h0:G'[0]?=some (.dat L):=hG.1 0 ⋯;simp! [U,hG.2,h0,hR,aE (fx:=lT) rfl,Dm U L nx ps hix hcl s hs _ (kK hg hs).2.1]
 have w2:=λn k=>Qk (rn:=rn (n+30)) (bor:=[]) (k:=k+1) (g:=[.dat L,.dat (.lst (ps.map λx=>~~~x)),.own ((ps.map (lV nx)).map λr=>.tup (r.map λx=>~~~x))]) (g1:=[.dat L,.dat (.lst (ps.map λx=>~~~x)),.dat (.lst ((ps.map (lV nx)).map λr=>.tup (r.map λx=>~~~x)))]) (kk:=2) (nn:=3) (j:=4) (it:=.slot 2) (c:=some (.cmp .Eq (.ix (.slot 4) (.val (.int 0))) (.blt .min [(.slot 4)]))) (e:=.slot 4) (ps.map (lV nx)) (λr=>D.tup (r.map λx=>~~~x)) yU (λr=>D.tup (r.map λx=>~~~x)) (by simp! [U,fV]) rfl ⋯ ⋯ ⋯ (aB _ (by rw[d6];lia)) (λr hr G' hG=>by
   obtain⟨s,hs,rfl⟩:=i8.mp hr;obtain⟨_,_,q2,q3,_,_⟩:=kK hg hs;cases e:lV nx s with
   |nil=>exact absurd e q2
   |cons a l=>
    have h4:=hG.2;rw[e]at h4;have ha:L2.iK ((a::l).map λx=>~~~x) 0=some (~~~a):=by simp[L2.iK,L2.xO]
    have hm:=Ow a l (λx hx=>(kK hg (q3 x (e▸hx))).2.2.2.2.2)
    simp! [U,P8,h4,ha,hm,yU]) (λr hr _ G' hG=>by simp! [U,hG.2])
 have e1:ps.map (λs=>D.tup ((lV nx s).map λx=>~~~x))=(ps.map (lV nx)).map λr=>.tup (r.map λx=>~~~x):=by rw[List.map_map];rfl
 unfold bq lU;simp! [U,w1,e1,w2];rfl
omit hR
theorem Oz(x y:Int):bq (rn (n+8)) k Jb [.int x,.int y]=some (.dat (~~~(if x<y then [x,y]else [y,x]))):=by
 unfold bq Jb;by_cases h:x<y
 . simp! [U,h,aB 2 ⋯];rfl
 . simp! [U,h,aB 2 ⋯];rfl
variable(hT:fns[ti]?=some Jb)
include hT
theorem se(m:Nat)(u:List Int)(hu:u.length=m)(xx:List (List Int))(hp:∀p∈xx,∃a b:Int,p=[a,b]/\0<=a/\a<m/\0<=b/\b<m):∀(ps ka:List (List Int)) (a2 a3 a4 a5:Slot),(∀p∈ps,p∈xx)->(ka++ps).Nodup->(ka++ps).length<=100->jA [a2,a5]=true->∃b3 b4:Slot,
  Uh (rn (n+20)) [] (k+1) (.tp [3,4]) [(.slot 3),(.slot 4)] (.call ti [(.ix (.slot 0) (.slot 3)),(.ix (.slot 0) (.slot 4))]) (ps.map λx=>~~~x) ka (ka.map λp=>~~~(jf u p)) [.dat (~~~u),.dat (.lst (xx.map λx=>~~~x)),a2,a3,a4,a5]=some ((ka++ps,(ka++ps).map λp=>~~~(jf u p)),[.dat (~~~u),.dat (.lst (xx.map λx=>~~~x)),a2,b3,b4,a5])
 | [],ka,a2,a3,a4,a5,_,_,_,_=>⟨a3,a4,by rw[nN];rfl⟩
 |p::ps,ka,a2,a3,a4,a5,h1,h2,h3,h4=>by
  obtain⟨a,b,e,ha,ha2,hb,hb2⟩:=hp p (h1 p dL);subst e;have h2':((ka++[[a,b]])++ps).Nodup:=by rw[AQ];exact h2
  obtain⟨b3,b4,ih⟩:=se m u hu xx hp ps (ka++[[a,b]]) a2 (.dat (.int a)) (.dat (.int b)) a5 (λp hp=>h1 p (dA _ hp)) h2' (by rw[AQ];exact h3) h4
  refine⟨b3,b4,?_⟩;have hn:(ka.all λk=>!decide (k=[a,b]))=true:=by rw[eP];intro x hx;rw[AR]at h2;have:=h2.2.2 x hx [a,b] dL;simp[this]
  have hlk:ka.length<lim:=eQ (mM _) (aB (ka.length+1) (by rw[fR]at h3;lia))
  have nl:∀l:List Int,fB (l.map D.int)=true:=λl=>by induction l with |nil=>rfl |cons x l ih=>rw[List.map_cons];exact ih
  have nl2:fB (xx.map λx=>~~~x)=true:=by
   clear h1 h2 h3 hp ih h2'
   induction xx with
   |nil=>rfl
   |cons x l ih=>rw[List.map_cons];show (iz (~~~x)&&fB _)=true;rw[ih];simp[iz,nl]
  have ng:jA [.dat (~~~u),.dat (.lst (xx.map λx=>~~~x)),a2,.dat (.int a),.dat (.int b),a5]=true:=by
   have h5:jA [a2]=true/\jA [a5]=true:=by cases a2 <;> cases a5 <;> simp_all [jA]
   cases a2 <;> cases a5 <;> simp_all [jA,iz]
  have x1:(rn (n+20)).e [] (k+1) (.call ti [(.ix (.slot 0) (.slot 3)),(.ix (.slot 0) (.slot 4))]) [.dat (~~~u),.dat (.lst (xx.map λx=>~~~x)),a2,.dat (.int a),.dat (.int b),a5]=some (.dat (~~~(jf u [a,b])),[.dat (~~~u),.dat (.lst (xx.map λx=>~~~x)),a2,.dat (.int a),.dat (.int b),a5]):=by have t1:=Oz U (n:=n+11) (k:=k) (gt u a) (gt u b);simp! [U,iG (t:=u) (i:=a) ⋯,iG (t:=u) (i:=b) ⋯,hT,aE (fx:=Jb) rfl,t1,jf]
  have nx:iz (~~~(jf u [a,b]))=true:=by simp[iz,nl]
  have st:Tg.set (.tp [3,4]) (~~~[a,b]) [.dat (~~~u),.dat (.lst (xx.map λx=>~~~x)),a2,a3,a4,a5]=some [.dat (~~~u),.dat (.lst (xx.map λx=>~~~x)),a2,.dat (.int a),.dat (.int b),a5]:=rfl
  have ar:kB (rn (n+20)) [] (k+1) [(.slot 3),(.slot 4)] [.dat (~~~u),.dat (.lst (xx.map λx=>~~~x)),a2,.dat (.int a),.dat (.int b),a5]=some ([.int a,.int b],[.dat (~~~u),.dat (.lst (xx.map λx=>~~~x)),a2,.dat (.int a),.dat (.int b),a5]):=by simp! [U,U.e]
  have ii:aW [.int a,.int b]=some [a,b]:=rfl;have evd:eH (rn (n+20)) [] (k+1) (.call ti [(.ix (.slot 0) (.slot 3)),(.ix (.slot 0) (.slot 4))]) [.dat (~~~u),.dat (.lst (xx.map λx=>~~~x)),a2,.dat (.int a),.dat (.int b),a5]=some (~~~(jf u [a,b]),[.dat (~~~u),.dat (.lst (xx.map λx=>~~~x)),a2,.dat (.int a),.dat (.int b),a5]):=by unfold eH;rw[x1];rfl
  rw[List.map_cons];unfold Uh;rw[st];dsimp only;rw[ar];dsimp only;rw[ii];dsimp only;rw[evd];dsimp only;rw[gL ⟨by rw[hn,ng,nx];rfl,hlk,aB 2 ⋯⟩]
  rw[t5]at ih;rw[AQ]at ih;exact ih
variable(hA:fns[al]?=some (lU rf)){OD:Fx}(hP:fns[pa]?=some OD)
include hA hR hP
theorem VM(m:Nat)(hm:1<=m/\m<=9)(u:List Int)(hu:u.length=m)(ps:List (List Int))(hps:bq (rn (n+58)) (k+1) OD [.int m]=some (.new (ps.map λx=>~~~x)))(hnp:OD.np=1)(hp:∀p∈ps,∃a b:Int,p=[a,b]/\0<=a/\a<m/\0<=b/\b<m)(hnd:ps.Nodup)(hl:ps.length<=100)(hg:wN (jf u) ps=true) :
  bq (rn (n+60)) (k+2) (Jc pa al ti) [~~~u]=some (.new ((Jd (jf u) ps).map λr=>.tup (r.map λx=>~~~x))):=by
 obtain⟨b3,b4,d⟩:=se U hT (n:=n+37) (k:=k+1) m u hu ps hp ps [] .no .no .no .no (λ_ h=>h) hnd hl rfl
 have d':pD (rn (n+57)) [] (k+2) 2 3 (.tp [3,4]) (.slot 1) [(.slot 3),(.slot 4)] (.call ti [(.ix (.slot 0) (.slot 3)),(.ix (.slot 0) (.slot 4))]) [.dat (~~~u),.own (ps.map λx=>~~~x)]=some ((ps,ps.map λp=>~~~(jf u p)),[.dat (~~~u),.dat (.lst (ps.map λx=>~~~x))]):=by
  have hw:fV (rn (n+57)) [] (k+2) true (.slot 1) [.dat (~~~u),.own (ps.map λx=>~~~x)]=some (ps.map λx=>~~~x,[.dat (~~~u),.dat (.lst (ps.map λx=>~~~x))]):=by simp! [U,fV]
  unfold pD;rw[show Tg.iZ (.tp [3,4])=true from rfl,hw]
  dsimp only;rw[gL ⟨rfl,rfl⟩];have dd:Uh (rn (n+57)) [] (k+2) (.tp [3,4]) [(.slot 3),(.slot 4)] (.call ti [(.ix (.slot 0) (.slot 3)),(.ix (.slot 0) (.slot 4))]) (ps.map λx=>~~~x) [] [] (gD 3 [.dat (~~~u),.dat (.lst (ps.map λx=>~~~x))])=_:=d
  rw[dd];rfl
 have a1:=Dn U hR (n:=n+18) (k:=k) (.sV ps (ps.map λp=>~~~(jf u p))) (jf u) ps (λp vj=>by
  show (match aW (p.map .int)with |some n=>P6 ps (ps.map λp=>~~~(jf u p)) n |none=>none)=_
  rw[ints_map];exact Ai (λp=>~~~(jf u p)) vj) hg hl
 unfold bq Jc;simp! [U,hu,hP,bD (fx:=OD) hnp,hps,d',hA,aE (fx:=lU rf) rfl,a1]
end
def OJ:Ex:=.or [(.cmp .Lt (.blt .len [(.slot 4)]) (.val (.int 2))),(.cmp .NotEq (.ix (.slot 4) (.neg (.val (.int 1)))) (.slot 3))]
def O1:List Sm:=[(.expr (.append 4 (.blt .tuple [(.blt .sorted [(.lst [(.ix (.slot 0) (.ix (.ix (.slot 4) (.neg (.val (.int 1)))) (.val (.int 0)))),(.ix (.slot 0) (.ix (.ix (.slot 4) (.neg (.val (.int 1)))) (.val (.int 1))))])])])))]
def WN:List Sm:=[(.set 4 (.lst [(.slot 3)])),(.while OJ O1),(.ite (.cmp .NotIn (.slot 3) (.slot 2)) [(.expr (.append 1 (.blt .tuple [(.slice (.slot 4) none (some (.neg (.val (.int 1)))))])))] []),(.set 2 (.bin .Add (.slot 2) (.slot 4)))]
def wO(pa:Nat):Fx:=⟨1,5,[(.set 1 (.lst [])),(.set 2 (.lst [])),(.loop (.nm 3) (.call pa [(.blt .len [(.slot 0)])]) WN),(.ret (.slot 1))]⟩
def eK(u:List Int)(p:List Int):List Int:=match p with
 | [a,b]=>bY [gt u a,gt u b]
 |_=>[]
noncomputable def Qo(nx:List Int->List Int)(s:List Int):Nat->List (List Int)->Option (List (List Int))
 | 0,acc=>if acc.length<2\/cS acc≠s then none else some acc
 |f+1,acc=>if acc.length<2\/cS acc≠s then Qo nx s f (acc++[nx (cS acc)])else some acc
def jL(nx:List Int->List Int)(s:List Int):List (List Int):=(Qo nx s 40 [s]).getD []
def ZG(l:List (List Int))(x:List Int):Bool:=(l.map λx=>~~~x).any λd=>cM d (~~~x)
def lW(nx:List Int->List Int):List (List Int)->List (List (List Int))->List (List Int)->List (List (List Int))
 | [],bT,_=>bT
 |p::ps,bT,seen=>lW nx ps (if ZG seen p then bT else bT++[(jL nx p).dropLast]) (seen++jL nx p)
def wQ(nx:List Int->List Int)(ps:List (List Int)):Bool:=ps.all λp=>decide (nx p∈ps)&&(match Qo nx p 40 [p]with |some r=>!r.isEmpty&&decide (r.length<=41) |none=>false)
theorem p9{nx:List Int->List Int}{ps:List (List Int)}(h:wQ nx ps=true){p:List Int}(hp:p∈ps):nx p∈ps/\Qo nx p 40 [p]=some (jL nx p)/\jL nx p≠[]/\(jL nx p).length<=41:=by
 have:=eP.mp h p hp;simp only[dS,eR]at this;obtain⟨h1,h2⟩:=this;unfold jL;cases e:Qo nx p 40 [p]with
 |none=>rw[e]at h2;cases h2
 |some r=>rw[e]at h2;simp only[dS,eR]at h2;obtain⟨h4,h6⟩:=h2;exact⟨h1,rfl,λz=>(by rw[show r=[]from z]at h4;cases h4),h6⟩
theorem Dp(l:List (List Int))(x:List Int):iM .NotIn (~~~x) (.lst (l.map λx=>~~~x))=some (!ZG l x):=by
 have h2:iU (l.map λr=>~~~r)=true:=wF λx hx=>by obtain⟨r,_,rfl⟩:=i8.mp hx;simp[jh,fO]
 have h3:deps (l.map λr=>~~~r)<=5:=wG λx hx=>by obtain⟨r,_,rfl⟩:=i8.mp hx;exact Pl.tup.2
 have h:MP (~~~x) (l.map λx=>~~~x)=true:=by simp only[MP,jh,fO,h2,dS,eR,true_and];lia
 simp only[iM,cG,h,AI];rfl
theorem Je(l:List (List Int))(h:l≠[]):eL (l.map λx=>~~~x) none (some (-1))=(l.dropLast).map λx=>~~~x:=by
 obtain⟨a,x,rfl⟩:∃a x,l=a++[x]:=⟨l.dropLast,l.getLast h,(List.dropLast_concat_getLast h).symm⟩;have hz:(List.map (λx=>~~~x) (a++[x])).length=a.length+1:=by simp
 have e1:HT.bL (a.length+1) 0 none=0:=rfl;have e2:HT.bL (a.length+1) (a.length+1) (some (-1))=a.length:=by unfold HT.bL;simp;lia
 unfold eL;rw[hz,e1,e2];simp
section
variable{k n:Nat}{g g1:G}{rn:Nat->Rn}{fns:List Fx}{pa:Nat}(U:rT fns rn)
include U
theorem ZJ(m:Nat)(u:List Int)(hu:u.length=m)(ps:List (List Int))(hp:∀p∈ps,∃a b:Int,p=[a,b]/\0<=a/\a<m/\0<=b/\b<m)(hcl:∀p∈ps,eK u p∈ps)(s:List Int)(r:List (List Int))(a1 a2:Slot):∀(f N:Nat) (acc:List (List Int)),f<N->acc≠[]->(∀x∈acc,x∈ps)->acc.length+f<=100->Qo (eK u) s f acc=some r->
  CP ((rn (n+12)).t [] k OJ) ((rn (n+12)).b [] k O1) N [.dat (~~~u),a1,a2,.dat (~~~s),.own (acc.map λx=>~~~x)]=some (.nx,[.dat (~~~u),a1,a2,.dat (~~~s),.own (r.map λx=>~~~x)]):=by
 have test:∀acc:List (List Int),acc≠[]->(rn (n+12)).t [] k OJ [.dat (~~~u),a1,a2,.dat (~~~s),.own (acc.map λx=>~~~x)]=some (decide (acc.length<2\/cS acc≠s),[.dat (~~~u),a1,a2,.dat (~~~s),.own (acc.map λx=>~~~x)]):=λacc h1=>by
  unfold OJ;by_cases h2:acc.length<2
  .
   have h2':(acc.length:Int)<2:=by lia
   simp! [U,fU acc h1,h2,h2']
  .
   have h2' : ¬ (acc.length:Int)<2:=by lia
   simp! [U,fU acc h1,h2,h2']
 have body:∀acc:List (List Int),acc≠[]->(∀x∈acc,x∈ps)->acc.length<=100->(rn (n+12)).b [] k O1 [.dat (~~~u),a1,a2,.dat (~~~s),.own (acc.map λx=>~~~x)]=some (.nx,[.dat (~~~u),a1,a2,.dat (~~~s),.own ((acc++[eK u (cS acc)]).map λx=>~~~x)]):=λacc h1 h2 h3=>by
  obtain⟨a,b,e,ha,ha2,hb,hb2⟩:=hp _ (h2 _ (fT h1));have hlt:acc.length<lim:=eQ (mM _) (aB (acc.length+1) ⋯);have l1:=fU acc h1;have i0:L2.iK (List.map D.int [a,b]) 0=some (.int a):=rfl;have i1:L2.iK (List.map D.int [a,b]) 1=some (.int b):=rfl;have so:pC .sorted [.lst [.int (gt u a),.int (gt u b)]]=some (.new ((bY [gt u a,gt u b]).map .int)):=mL [gt u a,gt u b] ⋯;rw[e]at l1;unfold O1;simp! [U,l1,i0,i1,iG (t:=u) (i:=a) ⋯,iG (t:=u) (i:=b) ⋯,so,hlt,aB 2 ⋯,e,eK];simp
 intro f
 induction f with
 |zero=>
  intro N acc hN h1 h2 h3 hr;obtain⟨N,rfl⟩:∃N',N=N'+1:=⟨N - 1,by lia⟩
  unfold Qo at hr;split at hr
  . cases hr
  . rename_i e;cases hr;unfold CP;rw[test _ h1];simp[e]
 |succ f ih=>
  intro N acc hN h1 h2 h3 hr;obtain⟨N,rfl⟩:∃N',N=N'+1:=⟨N - 1,by lia⟩
  unfold Qo at hr;split at hr
  .
   rename_i e;unfold CP;rw[test _ h1];simp only[e,decide_true];rw[body acc h1 h2 ⋯];dsimp only;refine ih N (acc++[eK u (cS acc)]) ⋯ ⋯ (λx hx'=>?_) (by rw[fR,nV];lia) hr
   rcases w8.mp hx' with hx' |hx'
   . exact h2 x hx'
   . cases i6.mp hx';exact hcl _ (h2 _ (fT h1))
  . rename_i e;cases hr;unfold CP;rw[test _ h1];simp[e]
theorem Dq(m:Nat)(u:List Int)(hu:u.length=m)(ps:List (List Int))(hp:∀p∈ps,∃a b:Int,p=[a,b]/\0<=a/\a<m/\0<=b/\b<m)(hg:wQ (eK u) ps=true)(s:List Int)(hs:s∈ps)(bT:List (List (List Int)))(seen:List (List Int))(hf:bT.length<=100)(hsn:seen.length<=5000)(a4:Slot) :
  (rn (n+20)).b [] k WN [.dat (~~~u),.own (bT.map λr=>.tup (r.map λx=>~~~x)),.own (seen.map λx=>~~~x),.dat (~~~s),a4]=some (.nx,[.dat (~~~u),.own ((if ZG seen s then bT else bT++[(jL (eK u) s).dropLast]).map λr=>.tup (r.map λx=>~~~x)),.own ((seen++jL (eK u) s).map λx=>~~~x),.dat (~~~s),.own ((jL (eK u) s).map λx=>~~~x)]):=by
 obtain⟨q1,q2,q3,q4⟩:=p9 hg hs;have w:=ZJ U (n:=n+7) (k:=k) m u hu ps hp (λp hp=>(p9 hg hp).1) s _ (.own (bT.map λr=>.tup (r.map λx=>~~~x))) (.own (seen.map λx=>~~~x)) 40 100000 [s] ⋯ ⋯ (by simpa using hs) ⋯ q2
 have e:List.map (λx=>~~~x) [s]=[~~~s]:=rfl
 rw[e]at w;have ni:=Dp seen s;have cl:=Je _ q3;have hlt:bT.length<lim:=eQ (mM _) (aB (bT.length+1) ⋯);have ad:mY .Add (.lst (seen.map λx=>~~~x)) (.lst ((jL (eK u) s).map λx=>~~~x))=some (.new ((seen++jL (eK u) s).map λx=>~~~x)):=by
  show (if (seen.map λx=>~~~x).length+((jL (eK u) s).map λx=>~~~x).length<=lim then _ else _)=_
  rw[d6,d6,gL (by unfold lim;lia),t5]
 unfold WN;by_cases hi:ZG seen s=true
 . simp! [U,aB 1 ⋯,w,ni,hi,ad]
 . have hi:=Bool.eq_false_iff.mpr hi;simp! [U,aB 1 ⋯,w,ni,hi,ad,vZ,cl,hlt];simp
variable{OD:Fx}(hP:fns[pa]?=some OD)
include hP
theorem VN(m:Nat)(hm:1<=m/\m<=9)(u:List Int)(hu:u.length=m)(ps:List (List Int))(hps:bq (rn (n+38)) k OD [.int m]=some (.new (ps.map λx=>~~~x)))(hnp:OD.np=1)(hp:∀p∈ps,∃a b:Int,p=[a,b]/\0<=a/\a<m/\0<=b/\b<m)(hl:ps.length<=100)(hg:wQ (eK u) ps=true) :
  bq (rn (n+40)) (k+1) (wO pa) [~~~u]=some (.new ((lW (eK u) ps [] []).map λr=>.tup (r.map λx=>~~~x))):=by
 have loop:∀(qs:List (List Int)) (bT:List (List (List Int))) (seen:List (List Int)) (a3 a4:Slot),(∀p∈qs,p∈ps)->bT.length+qs.length<=100->seen.length+41 * qs.length<=5000->∃b2 b3 b4:Slot,
   bZ (.nm 3) ((rn (n+39)).b [] (k+1) WN) (qs.map λx=>~~~x) [.dat (~~~u),.own (bT.map λr=>.tup (r.map λx=>~~~x)),.own (seen.map λx=>~~~x),a3,a4]=some (.nx,[.dat (~~~u),.own ((lW (eK u) qs bT seen).map λr=>.tup (r.map λx=>~~~x)),b2,b3,b4]):=by
  intro qs
  induction qs with
  |nil=>intro bT seen a3 a4 _ _ _;exact⟨_,_,_,rfl⟩
  |cons p qs ih=>
   intro bT seen a3 a4 h1 h2 h3;rw[l5]at h2 h3;obtain⟨_,_,_,q4⟩:=p9 hg (h1 p dL);have t:=Dq U (n:=n+19) (k:=k+1) m u hu ps hp hg p (h1 p dL) bT seen ⋯ ⋯ a4;obtain⟨b2,b3,b4,r⟩:=ih (if ZG seen p then bT else bT++[(jL (eK u) p).dropLast]) (seen++jL (eK u) p) (.dat (~~~p)) (.own ((jL (eK u) p).map λx=>~~~x)) (λq hq=>h1 q (dA _ hq)) (by split <;> (try rw[fR,nV]) <;> lia) (by rw[fR];lia)
   refine⟨b2,b3,b4,?_⟩;rw[List.map_cons];unfold bZ;have st:Tg.set (.nm 3) (~~~p) [.dat (~~~u),.own (bT.map λr=>.tup (r.map λx=>~~~x)),.own (seen.map λx=>~~~x),a3,a4]=some [.dat (~~~u),.own (bT.map λr=>.tup (r.map λx=>~~~x)),.own (seen.map λx=>~~~x),.dat (~~~p),a4]:=rfl
   rw[st];dsimp only;rw[t];exact r
 obtain⟨b2,b3,b4,lp⟩:=loop ps [] [] .no .no (λ_ h=>h) (by simpa using hl) (by simp;lia)
 have hw:fV (rn (n+39)) [] (k+1) false (.call pa [(.blt .len [(.slot 0)])]) [.dat (~~~u),.own [],.own [],.no,.no]=some (ps.map λx=>~~~x,[.dat (~~~u),.own [],.own [],.no,.no]):=by simp! [U,fV,hu,hP,bD (fx:=OD) hnp,hps]
 have e3:aM (rn (n+39)) [] (k+1) (.loop (.nm 3) (.call pa [(.blt .len [(.slot 0)])]) WN) [.dat (~~~u),.own [],.own [],.no,.no]=some (.nx,[.dat (~~~u),.own ((lW (eK u) ps [] []).map λr=>.tup (r.map λx=>~~~x)),b2,b3,b4]):=by
  have lp':bZ (.nm 3) ((rn (n+39)).b [] (k+1) WN) (ps.map λx=>~~~x) [.dat (~~~u),.own [],.own [],.no,.no]=some (.nx,[.dat (~~~u),.own ((lW (eK u) ps [] []).map λr=>.tup (r.map λx=>~~~x)),b2,b3,b4]):=lp
  simp only[aM,Tg.ix,Tg.iZ,hw,lp'];simp
 have e1:aM (rn (n+39)) [] (k+1) (.set 1 (.lst [])) [.dat (~~~u),.no,.no,.no,.no]=some (.nx,[.dat (~~~u),.own [],.no,.no,.no]):=by simp! [U,aB 0 ⋯]
 have e2:aM (rn (n+39)) [] (k+1) (.set 2 (.lst [])) [.dat (~~~u),.own [],.no,.no,.no]=some (.nx,[.dat (~~~u),.own [],.own [],.no,.no]):=by simp! [U,aB 0 ⋯]
 have pd:dG 5 (Ob [~~~u])=[.dat (~~~u),.no,.no,.no,.no]:=rfl;unfold bq wO;dsimp only;rw[pd,U.b,aK e1,aK e2,aK e3];simp! [U,U.e]
end
end Ev
namespace bu
open Ev
noncomputable def ZK:List Int->List Int->List Int
 | [],acc=>acc
 |n::t,acc=>ZK t (acc++(List.range (n.toNat - 1)).map (λi=>((acc.length+1+i:Nat):Int))++[(acc.length:Int)])
def bO(t:List Int):List Int:=ZK t []
noncomputable def nQ(m:Nat):List (List Int):=(List.range m).flatMap λa=>(List.range (m - a - 1)).map λb=>[(a:Int),((a+1+b:Nat):Int)]
def rws(j:Nat)(t:List Int):List (List (List Int)):=Jd (jf (bO t)) (nQ j)
def lrs(j:Nat)(t:List Int):List (List (List Int)):=lW (eK (bO t)) (nQ j) [] []
def aD(j:Nat)(t:List Int):List Int:=(bY ((rws j t).map λr=>(r.length:Int))).reverse
theorem d9:fns[9]?=some (lU 10):=rfl
theorem d10:fns[10]?=some lT:=rfl
theorem d7:fns[7]?=some Jb:=rfl
theorem d11:fns[11]?=some (Jc 8 9 7):=rfl
theorem d21:fns[21]?=some (wO 20):=rfl
def Qp:List Nat:=[1,2,3,4,5,6,7,8,9]
theorem yV{j:Nat}(h:1<=j/\j<=9):j∈Qp:=by unfold Qp;simp only[d5,i7,t8];omega
noncomputable def prB(m:Nat)(x:List Int):Bool:=match x with | [a,b]=>decide (0<=a/\a<m/\0<=b/\b<m) |_=>false
def dj(j:Nat)(t:List Int):Bool:=decide ((bO t).length=j)&&wN (jf (bO t)) (nQ j)&&wQ (eK (bO t)) (nQ j)&&decide (bY ((lrs j t).map λr=>(r.length:Int))=(aD j t).reverse)&&decide ((aD j t).length<=36)&&decide (t.length<=9)
theorem VP:(Qp.all λj=>(nQ j).all (prB j)&&decide ((nQ j).Nodup)&&decide ((nQ j).length<=36))=true:=by decide +kernel
theorem few:(Qp.all λj=>decide ((kinds j).length<=30)&&decide (1<=(kinds j).length))=true:=by decide +kernel
theorem pl1:([1,2,3,4,5,6].all λj=>(kinds j).all (dj j))=true:=by decide +kernel
theorem pl7:(kinds 7).all (dj 7)=true:=by decide +kernel
theorem pl8a:((kinds 8).take 11).all (dj 8)=true:=by decide +kernel
theorem pl8b:((kinds 8).drop 11).all (dj 8)=true:=by decide +kernel
theorem pl9a:((kinds 9).take 8).all (dj 9)=true:=by decide +kernel
theorem pl9b:(((kinds 9).drop 8).take 8).all (dj 9)=true:=by decide +kernel
theorem pl9c:(((kinds 9).drop 16).take 7).all (dj 9)=true:=by decide +kernel
theorem pl9d:((kinds 9).drop 23).all (dj 9)=true:=by decide +kernel
theorem eZ{α:Type}{p:α->Bool}(l:List α)(n:Nat)(h1:(l.take n).all p=true)(h2:(l.drop n).all p=true):l.all p=true:=by rw[<- AL n l,List.all_append,h1,h2];rfl
theorem pl(j:Nat)(h:1<=j/\j<=9)(t:List Int)(ht:t∈kinds j):dj j t=true:=by
 by_cases h7:j=7
 . subst h7;exact eP.mp pl7 t ht
 by_cases h8:j=8
 . subst h8;exact eP.mp (eZ _ 11 pl8a pl8b) t ht
 by_cases h9:j=9
 . subst h9;refine eP.mp (eZ _ 8 pl9a (eZ _ 8 pl9b ?_)) t ht;rw[CO];refine eZ _ 7 pl9c ?_;rw[CO];exact pl9d
 exact eP.mp (eP.mp pl1 j (by simp only[d5,i7,t8];omega)) t ht
end bu
namespace bu
open Ev
theorem qa{j:Nat}(h:1<=j/\j<=9){t:List Int}(ht:t∈kinds j):(bO t).length=j/\wN (jf (bO t)) (nQ j)=true/\wQ (eK (bO t)) (nQ j)=true/\bY ((lrs j t).map λr=>(r.length:Int))=(aD j t).reverse/\(aD j t).length<=36/\t.length<=9:=by have:=pl j h t ht;simp only[dj,dS,eR]at this;exact⟨this.1.1.1.1.1,this.1.1.1.1.2,this.1.1.1.2,this.1.1.2,this.1.2,this.2⟩
theorem Jf{j:Nat}(h:1<=j/\j<=9):(∀p∈nQ j,∃a b:Int,p=[a,b]/\0<=a/\a<j/\0<=b/\b<j)/\(nQ j).Nodup/\(nQ j).length<=36:=by
 have:=eP.mp VP j (yV h);simp only[dS,eR,eP]at this;refine⟨λp hp=>?_,this.1.2,this.2⟩
 have q:=this.1.1 p hp;unfold prB at q;split at q
 . rename_i a b;have q:=kA q;exact⟨a,b,rfl,q.1,q.2.1,q.2.2.1,q.2.2.2⟩
 . cases q
section
variable{k n:Nat}{g g1:G}{rn:Nat->Rn}(U:rT fns rn)
include U
theorem p12(j:Nat)(h:1<=j/\j<=9)(t:List Int)(ht:t∈kinds j)(h13:bq (rn (n+74)) (k+9) Qm [~~~t]=some (.dat (~~~(bO t))))(h8:bq (rn (n+73)) (k+8) x8 [.int j]=some (.new ((nQ j).map λx=>~~~x))):bq (rn (n+80)) (k+10) r9 [.int j,~~~t]=some (.dat (~~~(aD j t))):=by
 obtain⟨e1,e2,e3,e4,e5,e6⟩:=qa h ht;obtain⟨f1,f2,f3⟩:=Jf h;have q0:=λn k=>wK U c0 c5 c1 c2 c4 (n:=n) (k:=k) (cj:=1) j h t ht (by omega)
 have q1:=VM U d10 d7 d9 c8 (n:=n+15) (k:=k+7) j h (bO t) e1 (nQ j) h8 rfl f1 f2 (by omega) e2
 have hl:(rws j t).length<=36:=by
  have:(aD j t).length=(rws j t).length:=by unfold aD;rw[t9,(cZ _).length_eq,d6]
  omega
 have w:=wC (rn:=rn (n+76)) (bor:=[]) (k:=k+10) (g:=[.dat (.int j),.dat (~~~t)]) (g1:=[.dat (.int j),.dat (~~~t)]) (kk:=2) (nn:=2) (j:=3) (it:=.call 11 [(.call 13 [(.slot 1)])]) (e:=.blt .len [(.slot 3)]) (rws j t) (λr=>D.tup (r.map λx=>~~~x)) (λr=>.int (r.length:Nat)) (by
  have Rt:bq (rn (n+75)) (k+9) (Jc 8 9 7) [~~~(bO t)]=some (.new ((rws j t).map λr=>.tup (r.map λx=>~~~x))):=q1
  simp! [U,fV,d11,c13,bD (fx:=Qm) rfl,h13,bD (fx:=(Jc 8 9 7)) rfl,Rt]) rfl ⋯ ⋯ ⋯ (aB _ (by omega)) λr hr G' hG=>by
  simp! [U,hG.2]
 have e1':(rws j t).map (λr=>D.int (r.length:Nat))=((rws j t).map λr=>(r.length:Int)).map .int:=by rw[List.map_map];rfl
 have Fe:aW (((rws j t).map λr=>(r.length:Int)).map .int)=some ((rws j t).map λr=>(r.length:Int)):=ints_map _
 have hl2:(rws j t).length<64:=by omega
 unfold bq r9;simp! [U,c6,aE (fx:=aJ 4 1) rfl,q0,w,e1',Fe,hl2,uJ,cG];unfold aD;rw[List.map_reverse]
end
end bu
namespace bu
open Ev
noncomputable def Jg:List Int->List Int->List Int
 | [],acc=>acc
 |l::ls,acc=>Jg ls (List.zipWith (· + ·) (acc++List.replicate l.toNat 0) (List.replicate l.toNat 0++acc))
def aQ(j:Nat)(t:List Int):List Int:=Jg (aD j t) [1]
def VR:List Sm:=[(.set 4 (.bin .Mult (.lst [(.val (.int 0))]) (.slot 3))),(.setC 2 (.comp 5 3 (.tp [6,7]) (.zip (.bin .Add (.slot 2) (.slot 4)) (.bin .Add (.slot 4) (.slot 2))) none (.bin .Add (.slot 6) (.slot 7))))]
def Qq:List Sm:=[(.set 4 (.blt .list [(.slot 2)])),(.loop (.nm 5) (.fG (.blt .len [(.slot 3)]) (.blt .len [(.slot 2)])) [(.item 4 (.slot 5) (.bin .Add (.ix (.slot 2) (.slot 5)) (.ix (.slot 2) (.bin .Sub (.slot 5) (.blt .len [(.slot 3)])))))]),(.set 2 (.slot 4))]
def bM(j:Nat)(t:List Int):Slot:=if j=1 then .own ((aQ j t).map .int)else .dat (.lst ((aQ j t).map .int))
def V0(j:Nat)(t:List Int):R:=if j=1 then .new ((aQ j t).map .int)else .dat (.lst ((aQ j t).map .int))
noncomputable def qe(j:Nat):List D:=.int 1::List.replicate (j * (j - 1) / 2) (.int 0)
theorem Aj(v:Int)(h:0<=v/\v<=36):mY .Mult (.lst [.int 0]) (.int v)=some (.new ((List.replicate v.toNat (0:Int)).map .int)):=by
 show (if -(2 ^ 63)<=v/\v<2 ^ 63/\[D.int 0].length * v.toNat<=lim then some (R.new (List.replicate v.toNat [D.int 0]).flatten)else none)=_
 rw[gL ⟨by lia,by lia,aB _ (by rw[nV];lia)⟩,List.map_replicate,List.flatten_replicate_singleton]
def Jh(rn:Rn)(k:Nat)(C:Nat)(c:Int):Prop:=∃r g3,rn.b [] k (WL.body.drop 2) ((List.replicate WL.n .no).set 1 (.dat (.lg C)))=some (.rt r,g3)/\cW [] g3 r=some (.new [.int c])
structure Fk(rn:Nat->Rn)(n k:Nat):Prop where
 WQ:∀j:Nat,1<=j/\j<=9->bq (rn (n+128)) (k+12) ZD [.int j,.int j]=some (.new ((kinds j).map λx=>~~~x))
 WR:∀j:Nat,1<=j/\j<=9->∀t∈kinds j,bq (rn (n+128)) (k+12) ZF [~~~t]=some (.dat (~~~(bO t)))
 f20:∀j:Nat,1<=j/\j<=9->bq (rn (n+123)) (k+11) VJ [.int j]=some (.new ((nQ j).map λx=>~~~x))
 g20:∀j:Nat,1<=j/\j<=9->bq (rn (n+124)) (k+10) VJ [.int j]=some (.new ((nQ j).map λx=>~~~x))
 f8:∀q∈[(116,10),(112,9),(118,9)],∀j:Nat,1<=j/\j<=9->bq (rn (n+q.1)) (k+q.2) x8 [.int j]=some (.new ((nQ j).map λx=>~~~x))
 WT:∀q∈[(117,11),(113,10),(119,10)],∀j:Nat,1<=j/\j<=9->∀t∈kinds j,bq (rn (n+q.1)) (k+q.2) Qm [~~~t]=some (.dat (~~~(bO t)))
 f3:∀m:Nat,m<=36->bq (rn (n+121)) (k+11) x3 [.int 2,.int m]=some (.dat (.int (2 ^ m)))
 f15:∀j:Nat,1<=j/\j<=9->∀t∈kinds j,∃b3 b4:Slot,bZ (.nm 3) ((rn (n+126)).b [] (k+12) VR) ((aD j t).map .int) [.dat (.int j),.dat (~~~t),.own [.int 1],.no,.no]=some (.nx,[.dat (.int j),.dat (~~~t),.own ((aQ j t).map .int),b3,b4])
 f27:∀j:Nat,1<=j/\j<=9->∀t∈kinds j,∃b3 b4 b5:Slot,bZ (.nm 3) ((rn (n+127)).b [] (k+12) Qq) ((lrs j t).map λr=>.tup (r.map λx=>~~~x)) [.dat (.int j),.dat (~~~(bO t)),.own (qe j),.no,.no,.no]=some (.nx,[.dat (.int j),.dat (~~~(bO t)),bM j t,b3,b4,b5])
 f28:∀j:Nat,1<=j/\j<=4->∀t∈kinds j,bq (rn (n+125)) (k+12) WM [.int j,~~~(bO t)]=some (.new ((aQ j t).map .int))
 fs:∀j:Nat,1<=j/\j<=9->∀t∈kinds j,(aQ j t).sum=2 ^ (aD j t).length/\(aQ j t).length<=37
 a1:Jh (rn (n+128)) (k+11) 49 1
 b3:Jh (rn (n+128)) (k+11) 73 3
section
variable{k n:Nat}{g g1:G}{rn:Nat->Rn}(U:rT fns rn)(F:Fk rn n k)
include U F
omit F in
theorem p21(j:Nat)(h:1<=j/\j<=9)(t:List Int)(ht:t∈kinds j)(q:bq (rn (n+38)) k VJ [.int j]=some (.new ((nQ j).map λx=>~~~x))):bq (rn (n+40)) (k+1) (wO 20) [~~~(bO t)]=some (.new ((lrs j t).map λr=>.tup (r.map λx=>~~~x))):=by obtain⟨e1,e2,e3,e4,e5,e6⟩:=qa h ht;obtain⟨f1,f2,f3⟩:=Jf h;exact VN U c20 j h (bO t) e1 (nQ j) q rfl f1 (by omega) e3
theorem e5(j:Nat)(h:1<=j/\j<=9)(t:List Int)(ht:t∈kinds j)(a0 a1 a2 a5 a6 a7 a8 a9 a10 a12:Slot):aM (rn (n+129)) [] (k+13) (.set 5 (.rev (.blt .sorted [(.comp 13 2 (.nm 14) (.call 21 [(.slot 4)]) none (.blt .len [(.slot 14)]))]))) [a0,a1,a2,.dat (~~~t),.dat (~~~(bO t)),a5,a6,a7,a8,a9,a10,.dat (.int j),a12]=some (.nx,[a0,a1,a2,.dat (~~~t),.dat (~~~(bO t)),.own ((aD j t).map .int),a6,a7,a8,a9,a10,.dat (.int j),a12]):=by
 obtain⟨e1,e2,e3,e4,e5,e6⟩:=qa h ht;have hl:(lrs j t).length<=36:=by have:=congrArg List.length e4;rw[(cZ _).length_eq,d6,t9]at this;omega
 have w:=wC (rn:=rn (n+126)) (bor:=[]) (k:=k+13) (g:=[a0,a1,a2,.dat (~~~t),.dat (~~~(bO t)),a5,a6,a7,a8,a9,a10,.dat (.int j),a12]) (g1:=[a0,a1,a2,.dat (~~~t),.dat (~~~(bO t)),a5,a6,a7,a8,a9,a10,.dat (.int j),a12]) (kk:=2) (nn:=13) (j:=14) (it:=.call 21 [(.slot 4)]) (e:=.blt .len [(.slot 14)]) (lrs j t) (λr=>D.tup (r.map λx=>~~~x)) (λr=>.int (r.length:Nat)) (by
  have q:bq (rn (n+125)) (k+12) (wO 20) [~~~(bO t)]=some (.new ((lrs j t).map λr=>.tup (r.map λx=>~~~x))):=p21 U (n:=n+85) (k:=k+11) j h t ht (F.f20 j h)
  simp! [U,fV,d21,bD (fx:=wO 20) rfl,q]) rfl ⋯ ⋯ ⋯ (aB _ (by omega)) λr hr G' hG=>by
  simp! [U,hG.2]
 have e1':(lrs j t).map (λr=>D.int (r.length:Nat))=((lrs j t).map λr=>(r.length:Int)).map .int:=by rw[List.map_map];rfl
 have so:=mL ((lrs j t).map λr=>(r.length:Int)) (by rw[d6];omega)
 rw[e4]at so;simp! [U,w,e1',so]
theorem s27(J M:Int)(x:D)(zs:List D)(mu:mY .Mult (.int J) (.int (J - 1))=some (.dat (.int (J * (J - 1)))))(dv:mY .FloorDiv (.int (J * (J - 1))) (.int 2)=some (.dat (.int M)))(zz:mY .Mult (.lst [.int 0]) (.int M)=some (.new zs))(ad:mY .Add (.lst [.int 1]) (.lst zs)=some (.new ([.int 1]++zs))):aM (rn (n+127)) [] (k+12) (.set 2 (.bin .Add (.lst [(.val (.int 1))]) (.bin .Mult (.lst [(.val (.int 0))]) (.bin .FloorDiv (.bin .Mult (.slot 0) (.bin .Sub (.slot 0) (.val (.int 1)))) (.val (.int 2)))))) [.dat (.int J),.dat x,.no,.no,.no,.no]=some (.nx,[.dat (.int J),.dat x,.own (.int 1::zs),.no,.no,.no]):=by simp! [U,mu,dv,zz,ad,aB 1 ⋯]
theorem e6(j:Nat)(h:1<=j/\j<=9)(t:List Int)(ht:t∈kinds j)(a0 a1 a2 a3 a5 a6 a7 a8 a9 a10 a12:Slot):aM (rn (n+129)) [] (k+13) (.set 6 (.call 27 [(.slot 11),(.slot 4)])) [a0,a1,a2,a3,.dat (~~~(bO t)),a5,a6,a7,a8,a9,a10,.dat (.int j),a12]=some (.nx,[a0,a1,a2,a3,.dat (~~~(bO t)),a5,bM j t,a7,a8,a9,a10,.dat (.int j),a12]):=by
 obtain⟨b3,b4,b5,lp⟩:=F.f27 j h t ht;have q:bq (rn (n+126)) (k+11) (wO 20) [~~~(bO t)]=some (.new ((lrs j t).map λr=>.tup (r.map λx=>~~~x))):=p21 U (n:=n+86) (k:=k+10) j h t ht (F.g20 j h)
 have s1:aM (rn (n+127)) [] (k+12) (.set 2 (.bin .Add (.lst [(.val (.int 1))]) (.bin .Mult (.lst [(.val (.int 0))]) (.bin .FloorDiv (.bin .Mult (.slot 0) (.bin .Sub (.slot 0) (.val (.int 1)))) (.val (.int 2)))))) [.dat (.int j),.dat (~~~(bO t)),.no,.no,.no,.no]=some (.nx,[.dat (.int j),.dat (~~~(bO t)),.own (qe j),.no,.no,.no]):=by
  obtain⟨N,hN⟩:∃N:Nat,N=j * (j - 1) / 2:=⟨_,rfl⟩;have h36:N<=36:=by
   have:=Nat.mul_le_mul h.2 (show j - 1<=8 by lia)
   lia
  have mu:=iO (j:Int) ((j:Int) - 1) (.inl ⟨by lia,by lia⟩)
  have dv:=ur ((j:Int) * ((j:Int) - 1)) 2 ⋯;have eN:(j:Int) * ((j:Int) - 1) / 2=N:=by
   rw[hN,show (j:Int) - 1=((j - 1:Nat):Int)by lia]
   rfl
  have zz:=Aj N ⟨by lia,by lia⟩
  have e1:qe j=.int 1::(List.replicate N (0:Int)).map .int:=by unfold qe;rw[hN,List.map_replicate]
  have ad:=uw [.int 1] ((List.replicate N (0:Int)).map .int) (by rw[d6,fI,nV];lia)
  rw[e1];rw[eN]at dv;rw[AS]at zz;exact s27 U F _ _ _ _ mu dv zz ad
 have hw:fV (rn (n+127)) [] (k+12) false (.call 21 [(.slot 1)]) [.dat (.int j),.dat (~~~(bO t)),.own (qe j),.no,.no,.no]=some ((lrs j t).map λr=>.tup (r.map λx=>~~~x),[.dat (.int j),.dat (~~~(bO t)),.own (qe j),.no,.no,.no]):=by simp! [U,fV,d21,bD (fx:=wO 20) rfl,q]
 have s2:aM (rn (n+127)) [] (k+12) (.loop (.nm 3) (.call 21 [(.slot 1)]) Qq) [.dat (.int j),.dat (~~~(bO t)),.own (qe j),.no,.no,.no]=some (.nx,[.dat (.int j),.dat (~~~(bO t)),bM j t,b3,b4,b5]):=by simp only[aM,Tg.ix,Tg.iZ,hw,lp];simp
 have ap:bq (rn (n+128)) (k+12) VL [.int j,~~~(bO t)]=some (V0 j t):=by
  have pd:dG 6 (Ob [.int (j:Int),~~~(bO t)])=[.dat (.int j),.dat (~~~(bO t)),.no,.no,.no,.no]:=rfl;have hb:VL.body=[(.set 2 (.bin .Add (.lst [(.val (.int 1))]) (.bin .Mult (.lst [(.val (.int 0))]) (.bin .FloorDiv (.bin .Mult (.slot 0) (.bin .Sub (.slot 0) (.val (.int 1)))) (.val (.int 2)))))),(.loop (.nm 3) (.call 21 [(.slot 1)]) Qq),(.ret (.slot 2))]:=rfl;unfold bq;rw[show VL.n=6 from rfl,pd,hb,U.b,aK s1,aK s2]
  unfold bM V0;by_cases h1:j=1
  . simp! [U,h1]
  . simp! [U,h1]
 unfold V0 at ap;unfold bM;by_cases h1:j=1
 .
  rw[gL h1]at ap ⊢
  simp! [U,c27,aE (fx:=VL) rfl,ap]
 .
  rw[hZ h1]at ap ⊢
  simp! [U,c27,aE (fx:=VL) rfl,ap]
omit U F in
theorem uy(j:Nat)(t:List Int):bM j t=.own ((aQ j t).map .int)\/bM j t=.dat (.lst ((aQ j t).map .int)):=by
 unfold bM;by_cases h1:j=1
 . exact .inl (gL h1)
 . exact .inr (hZ h1)
omit U F in
theorem shl(m:Nat)(h:m<=36):mY .LShift (.int 1) (.int (m:Int))=some (.dat (.int (2 ^ m))):=by
 show (if 0<=(m:Int)/\(m:Int)<=1000/\(1:Int).natAbs<2 ^ 64 then _ else _)=_
 rw[gL ⟨by omega,by omega,by decide⟩]
 simp
omit U F in
theorem Ak(l:List Int)(h:l.length<=1000):Sd 1 (~~~l)/\Sd 1 (.lst (l.map .int)):=⟨⟨by rw[d6];omega,λx hx=>by obtain⟨i,_,rfl⟩:=i8.mp hx;trivial⟩,⟨by rw[d6];omega,λx hx=>by obtain⟨i,_,rfl⟩:=i8.mp hx;trivial⟩⟩
theorem e7(j:Nat)(h:1<=j/\j<=9)(t:List Int)(ht:t∈kinds j)(a0 a1 a4 a7 a8 a9 a10 a12:Slot)(s:Int)(fl:Bool):aM (rn (n+129)) [] (k+13) (.ite (.or [(.not (.peek (.call 25 [(.call 12 [(.slot 11),(.slot 3)]),(.blt .tuple [(.slot 5)])]))),(.cmp .NotEq (.blt .sum [(.slot 6)]) (.bin .LShift (.val (.int 1)) (.blt .len [(.slot 5)])))]) [(.ret (.val (.bl false)))] []) [a0,a1,St s fl,.dat (~~~t),a4,.own ((aD j t).map .int),bM j t,a7,a8,a9,a10,.dat (.int j),a12]=some (.nx,[a0,a1,St s fl,.dat (~~~t),a4,.own ((aD j t).map .int),bM j t,a7,a8,a9,a10,.dat (.int j),a12]):=by
 obtain⟨e1,e2,e3,e4,e5,e6⟩:=qa h ht;obtain⟨fs1,fs2⟩:=F.fs j h t ht;have q3:=λn k=>nP U J2 1 n k (~~~(aD j t)) (Ak _ (by omega)).1
 simp only[Nat.reduceMul,Nat.add_assoc,Nat.reduceAdd]at q3;have J0:bq (rn (n+123)) (k+12) r9 [.int j,~~~t]=some (.dat (~~~(aD j t))):=p12 U (n:=n+43) (k:=k+2) j h t ht (F.WT (117,11) ⋯ j h t ht) (F.f8 (116,10) ⋯ j h);have sh:=shl _ e5;rcases uy j t with hn |hn <;> rw[hn]
 . have hz:List.map cB [a0,a1,St s fl,.dat (~~~t),a4,.own ((aD j t).map .int),.own ((aQ j t).map .int),a7,a8,a9,a10,.dat (.int j),a12]=[cB a0,cB a1,.dat (.lst [.int s,.bl fl]),.dat (~~~t),cB a4,.dat (.lst ((aD j t).map .int)),.dat (.lst ((aQ j t).map .int)),cB a7,cB a8,cB a9,cB a10,.dat (.int j),cB a12]:=rfl;simp! [U,hz,c12,aE (fx:=r9) rfl,J0,J2,aE (fx:=cK 25) rfl,q3,flat,sh,fs1]
 . have hz:List.map cB [a0,a1,St s fl,.dat (~~~t),a4,.own ((aD j t).map .int),.dat (.lst ((aQ j t).map .int)),a7,a8,a9,a10,.dat (.int j),a12]=[cB a0,cB a1,.dat (.lst [.int s,.bl fl]),.dat (~~~t),cB a4,.dat (.lst ((aD j t).map .int)),.dat (.lst ((aQ j t).map .int)),cB a7,cB a8,cB a9,cB a10,.dat (.int j),cB a12]:=rfl;simp! [U,hz,c12,aE (fx:=r9) rfl,J0,J2,aE (fx:=cK 25) rfl,q3,flat,sh,fs1]
omit F in
theorem p14(j:Nat)(h:1<=j/\j<=9)(t:List Int)(ht:t∈kinds j)(J0:bq (rn (n+40)) (k+1) r9 [.int j,~~~t]=some (.dat (~~~(aD j t))))(q3:bq (rn (n+42)) (k+1) x3 [.int 2,.int (aD j t).length]=some (.dat (.int (2 ^ (aD j t).length)))):bq (rn (n+44)) (k+2) Ja [.int j,~~~t]=some (.dat (.int (2 ^ (aD j t).length))):=by unfold bq Ja;simp! [U,c12,aE (fx:=r9) rfl,J0,c3,aE (fx:=x3) rfl,q3]
theorem e8(j:Nat)(h:1<=j/\j<=9)(t:List Int)(ht:t∈kinds j)(a0 a1 a7 a8 a9 a10 a12:Slot)(s:Int)(fl:Bool):aM (rn (n+129)) [] (k+13) (.ite (.or [(.not (.peek (.call 25 [(.call 14 [(.slot 11),(.slot 3)]),(.bin .LShift (.val (.int 1)) (.blt .len [(.slot 5)]))]))),(.and [(.cmp .Lt (.slot 11) (.val (.int 5))),(.cmp .NotEq (.call 28 [(.slot 11),(.slot 4)]) (.slot 6))])]) [(.ret (.val (.bl false)))] []) [a0,a1,St s fl,.dat (~~~t),.dat (~~~(bO t)),.own ((aD j t).map .int),bM j t,a7,a8,a9,a10,.dat (.int j),a12]=some (.nx,[a0,a1,St s fl,.dat (~~~t),.dat (~~~(bO t)),.own ((aD j t).map .int),bM j t,a7,a8,a9,a10,.dat (.int j),a12]):=by
 obtain⟨e1,e2,e3,e4,e5,e6⟩:=qa h ht;have q3:=λn k=>nP U J2 0 n k (.int (2 ^ (aD j t).length)) trivial
 simp only[Nat.mul_zero,Nat.add_zero]at q3;have J0:bq (rn (n+119)) (k+11) r9 [.int j,~~~t]=some (.dat (~~~(aD j t))):=p12 U (n:=n+39) (k:=k+1) j h t ht (F.WT (113,10) ⋯ j h t ht) (F.f8 (112,9) ⋯ j h);have q14:bq (rn (n+123)) (k+12) Ja [.int j,~~~t]=some (.dat (.int (2 ^ (aD j t).length))):=p14 U (n:=n+79) (k:=k+10) j h t ht J0 (F.f3 _ e5);have sh:=shl _ e5;by_cases h5:j<5
 .
  have hd:decide ((j:Int)<5)=true:=by simp;omega
  have q28:=F.f28 j (by omega) t ht
  rcases uy j t with hn |hn <;> rw[hn]
  . have hz:List.map cB [a0,a1,St s fl,.dat (~~~t),.dat (~~~(bO t)),.own ((aD j t).map .int),.own ((aQ j t).map .int),a7,a8,a9,a10,.dat (.int j),a12]=[cB a0,cB a1,.dat (.lst [.int s,.bl fl]),.dat (~~~t),.dat (~~~(bO t)),.dat (.lst ((aD j t).map .int)),.dat (.lst ((aQ j t).map .int)),cB a7,cB a8,cB a9,cB a10,.dat (.int j),cB a12]:=rfl;simp! [U,hz,c14,aE (fx:=Ja) rfl,q14,J2,aE (fx:=cK 25) rfl,q3,flat,sh,hd,c28,aE (fx:=WM) rfl,q28]
  . have hz:List.map cB [a0,a1,St s fl,.dat (~~~t),.dat (~~~(bO t)),.own ((aD j t).map .int),.dat (.lst ((aQ j t).map .int)),a7,a8,a9,a10,.dat (.int j),a12]=[cB a0,cB a1,.dat (.lst [.int s,.bl fl]),.dat (~~~t),.dat (~~~(bO t)),.dat (.lst ((aD j t).map .int)),.dat (.lst ((aQ j t).map .int)),cB a7,cB a8,cB a9,cB a10,.dat (.int j),cB a12]:=rfl;simp! [U,hz,c14,aE (fx:=Ja) rfl,q14,J2,aE (fx:=cK 25) rfl,q3,flat,sh,hd,c28,aE (fx:=WM) rfl,q28]
 .
  have hd:decide ((j:Int)<5)=false:=by simp;omega
  have hz:List.map cB [a0,a1,St s fl,.dat (~~~t),.dat (~~~(bO t)),.own ((aD j t).map .int),bM j t,a7,a8,a9,a10,.dat (.int j),a12]=[cB a0,cB a1,.dat (.lst [.int s,.bl fl]),.dat (~~~t),.dat (~~~(bO t)),.dat (.lst ((aD j t).map .int)),cB (bM j t),cB a7,cB a8,cB a9,cB a10,.dat (.int j),cB a12]:=rfl;simp! [U,hz,c14,aE (fx:=Ja) rfl,q14,J2,aE (fx:=cK 25) rfl,q3,flat,sh,hd]
end
end bu
namespace bu
open Ev
section
variable{k n:Nat}{g g1:G}{rn:Nat->Rn}(U:rT fns rn)(F:Fk rn n k)
include U
theorem Ji{c:Nat}(b d:D)(h:∀n k,jK (rn (n+50)) (k+5) (aJ 4 1) [b,d]=some c):jK (rn (n+60)) (k+6) r9 [b,d]=some c:=by unfold jK r9;simp! [U,c6,eX (fx:=aJ 4 1) rfl,h]
theorem ZL{c:Nat}(b d:D)(h:∀n k,jK (rn (n+50)) (k+5) (aJ 4 1) [b,d]=some c):jK (rn (n+70)) (k+7) Ja [b,d]=some c:=by
 have y:=λn k=>Ji U (n:=n) (k:=k) b d h
 unfold jK Ja;simp! [U,c12,eX (fx:=r9) rfl,y,c3,x3]
theorem V1(b:D)(h:uO 1 9 b=false):bq (rn (n+24)) (k+2) (bK 1 0) [b,.int 1,.int 9]=none:=by
 have q:=λn k=>iP U c0 (n:=n) (k:=k) b 1 9
 unfold bq bK;simp! [U,c1,bW (fx:=bG 0) rfl,q,h]
theorem Jj(b d:D)(h:uO 1 9 b=false):bq (rn (n+50)) (k+5) (aJ 4 1) [b,d]=none:=by
 have q0:=λn k=>V1 U (n:=n) (k:=k) b h
 have q:∀n k,bq (rn (n+40)) (k+4) (bx 2 0 5) [b,d]=none:=λn k=>by
  unfold bq bx;simp! [U,c2,bW (fx:=bK 1 0) rfl,q0]
 unfold bq aJ;simp! [U,c4,aE (fx:=bx 2 0 5) rfl,q]
theorem Jk(m:Nat)(hm:1<=m/\m<=9)(d:D)(hd:Ir d)(h:yT m d=false):bq (rn (n+50)) (k+5) (aJ 4 1) [.int m,d]=none:=by
 have q:=λn k=>(iR U c0 c5 c1 c2 (n:=n) (k:=k) m hm d hd).1
 rw[h]at q;unfold bq aJ;simp! [U,c4,aE (fx:=bx 2 0 5) rfl,q]
theorem ZM{c:Nat}(b d:D)(h:∀n k,jK (rn (n+50)) (k+5) (aJ 4 1) [b,d]=some c)(hn:∀n k,bq (rn (n+50)) (k+5) (aJ 4 1) [b,d]=none):jK (rn (n+70)) (k+7) J1 [b,d]=some c:=by
 have y:=λn k=>Ji U (n:=n) (k:=k) b d h
 have y2:∀n k,bq (rn (n+60)) (k+6) r9 [b,d]=none:=λn k=>by
  unfold bq r9;simp! [U,c6,aE (fx:=aJ 4 1) rfl,hn]
 unfold jK J1;simp! [U,c12,eX (fx:=r9) rfl,aE (fx:=r9) rfl,y,y2,aB 1 ⋯,fV]
include F
theorem lap(j:Nat)(h:1<=j/\j<=9)(t:List Int)(ht:t∈kinds j)(a0 a1 a2 a4 a5 a7 a8 a9 a10 a12:Slot):∃s8,(rn (n+129)).b [] (k+13) [(.set 8 (.call 15 [(.slot 11),(.slot 3)])),(.ite (.not (.peek (.call 25 [(.slot 8),(.slot 6)]))) [(.ret (.val (.bl false)))] []),(.expr (.append 8 (.val (.int 0))))] [a0,a1,a2,.dat (~~~t),a4,a5,bM j t,a7,a8,a9,a10,.dat (.int j),a12]=some (.nx,[a0,a1,a2,.dat (~~~t),a4,a5,bM j t,a7,s8,a9,a10,.dat (.int j),a12]):=by
 obtain⟨fs1,fs2⟩:=F.fs j h t ht;obtain⟨b3,b4,lp⟩:=F.f15 j h t ht;have J0:bq (rn (n+125)) (k+11) r9 [.int j,~~~t]=some (.dat (~~~(aD j t))):=p12 U (n:=n+45) (k:=k+1) j h t ht (F.WT (119,10) ⋯ j h t ht) (F.f8 (118,9) ⋯ j h);have hw:fV (rn (n+126)) [] (k+12) false (.call 12 [(.slot 0),(.slot 1)]) [.dat (.int j),.dat (~~~t),.own [.int 1],.no,.no]=some ((aD j t).map .int,[.dat (.int j),.dat (~~~t),.own [.int 1],.no,.no]):=by simp! [U,fV,c12,aE (fx:=r9) rfl,J0]
 have s1:aM (rn (n+126)) [] (k+12) (.set 2 (.lst [(.val (.int 1))])) [.dat (.int j),.dat (~~~t),.no,.no,.no]=some (.nx,[.dat (.int j),.dat (~~~t),.own [.int 1],.no,.no]):=by simp! [U,aB 1 ⋯]
 have s2:aM (rn (n+126)) [] (k+12) (.loop (.nm 3) (.call 12 [(.slot 0),(.slot 1)]) VR) [.dat (.int j),.dat (~~~t),.own [.int 1],.no,.no]=some (.nx,[.dat (.int j),.dat (~~~t),.own ((aQ j t).map .int),b3,b4]):=by simp only[aM,Tg.ix,Tg.iZ,hw,lp];simp
 have ap:bq (rn (n+127)) (k+12) J1 [.int j,~~~t]=some (.new ((aQ j t).map .int)):=by
  have pd:dG 5 (Ob [.int (j:Int),~~~t])=[.dat (.int j),.dat (~~~t),.no,.no,.no]:=rfl;have hb:J1.body=[(.set 2 (.lst [(.val (.int 1))])),(.loop (.nm 3) (.call 12 [(.slot 0),(.slot 1)]) VR),(.ret (.slot 2))]:=rfl;unfold bq;rw[show J1.n=5 from rfl,pd,hb,U.b,aK s1,aK s2]
  simp! [U,U.e]
 have q2:=λn k=>nP U J2 1 n k (.lst ((aQ j t).map .int)) (Ak _ (by omega)).2
 simp only[Nat.reduceMul,Nat.add_assoc,Nat.reduceAdd]at q2;have hlt:(aQ j t).length<lim:=eQ (mM _) (aB ((aQ j t).length+1) (by omega))
 refine⟨.own ((aQ j t).map .int++[.int 0]),?_⟩;rcases uy j t with hn |hn <;> rw[hn]
 . simp! [U,c15,aE (fx:=J1) rfl,ap,cB,J2,aE (fx:=cK 25) rfl,q2,flat,hlt]
 . simp! [U,c15,aE (fx:=J1) rfl,ap,cB,J2,aE (fx:=cK 25) rfl,q2,flat,hlt]
omit U F in
theorem uz{rn:Rn}{k:Nat}{e:Ex}{g g':G}{ci C:Nat}{c:Int}(hx:rn.x [] k e (g.map noOwn)=some (ci,g'))(hc:gU[ci]?=some C)(hr:Jh rn k C c):Hx rn (k+2) fns 26 1 gU e g=some (.lst [.int c]):=by obtain⟨r,g3,h1,h2⟩:=hr;unfold Hx;simp only[c26,hx,hc,h1,h2];rfl
omit F in
theorem calls{x:Nat}{b d:D}{ci C:Nat}{c:Int}(hx:x=10\/x=11)(h:∀n k,jK (rn (n+50)) (k+5) (aJ 4 1) [b,d]=some ci)(hn:∀n k,bq (rn (n+50)) (k+5) (aJ 4 1) [b,d]=none)(hc:gU[ci]?=some C)(hr:Jh (rn (n+128)) (k+11) C c)(G:G)(hG:G.length=13)(h9:G[9]?=some .no)(hb:G[x]?=some (.dat b))(hd:G[12]?=some (.dat d)) :
  aM (rn (n+129)) [] (k+13) (.calls 9 (.refs 26 1 gU [(.call 12 [(.slot x),(.slot 12)]),(.call 14 [(.slot x),(.slot 12)]),(.call 15 [(.slot x),(.slot 12)])]) .NotEq (.bin .Mult (.lst [(.lst [(.val (.int c))])]) (.val (.int 3))) false [(.ret (.val (.bl false)))]) G=some (.nx,G):=by
 have nb:(G.map noOwn)[x]?=some (.dat b):=by rw[sR,hb];rfl
 have nd:(G.map noOwn)[12]?=some (.dat d):=by rw[sR,hd];rfl
 have y1:=λn k=>Ji U (n:=n) (k:=k) b d h
 have y2:=λn k=>ZL U (n:=n) (k:=k) b d h
 have y3:=λn k=>ZM U (n:=n) (k:=k) b d h hn
 generalize hN:G.map noOwn=GN at nb nd;have z1:(rn (n+128)).x [] (k+11) (.call 12 [(.slot x),(.slot 12)]) (G.map noOwn)=some (ci,GN):=by rw[hN];simp! [U,nb,nd,c12,eX (fx:=r9) rfl,y1]
 have z2:(rn (n+128)).x [] (k+11) (.call 14 [(.slot x),(.slot 12)]) (G.map noOwn)=some (ci,GN):=by rw[hN];simp! [U,nb,nd,c14,eX (fx:=Ja) rfl,y2]
 have z3:(rn (n+128)).x [] (k+11) (.call 15 [(.slot x),(.slot 12)]) (G.map noOwn)=some (ci,GN):=by rw[hN];simp! [U,nb,nd,c15,eX (fx:=J1) rfl,y3]
 have rs:(rn (n+129)).e [] (k+13) (.refs 26 1 gU [(.call 12 [(.slot x),(.slot 12)]),(.call 14 [(.slot x),(.slot 12)]),(.call 15 [(.slot x),(.slot 12)])]) G=some (.new [.lst [.int c],.lst [.int c],.lst [.int c]],G):=by rw[U.e];simp only[aO,v5,uz z1 hc hr,uz z2 hc hr,uz z3 hc hr]
 have rr:(rn (n+129)).e [] (k+13) (.bin .Mult (.lst [(.lst [(.val (.int c))])]) (.val (.int 3))) G=some (.new [.lst [.int c],.lst [.int c],.lst [.int c]],G):=by have o:mY .Mult (.lst [.lst [.int c]]) (.int 3)=some (.new [.lst [.int c],.lst [.int c],.lst [.int c]]):=rfl;simp! [U,aB 1 ⋯,o]
 have cm:iM .NotEq (.lst [.lst [.int c],.lst [.int c],.lst [.int c]]) (.lst [.lst [.int c],.lst [.int c],.lst [.int c]])=some false:=by simp[iM,jB,cM,dN,jh,iU,dep,deps]
 have b0:(rn (n+129)).b [] (k+13) [] G=some (.nx,G):=by rw[U.b];rfl
 unfold aM;simp only[rs,rr,norm,pk,cm,h9,b0]
 try rfl
end
end bu
namespace bu
open Ev
def wR(t:List Int):List D:=[.tup (eL (t.map .int) (some 1) none),~~~(t++[1]),.lst (t.map .int),.non,~~~(t.reverse++[0]),.int 0,.str (PySem.Str.ofString "1")]
def Qs(j:Nat)(t:List Int):Bool:=decide (eL t (some 1) none∉kinds j)&&decide (t++[1]∉kinds j)&&decide (t.reverse++[0]∉kinds j)
theorem Jl:(Qp.all λj=>(kinds j).all (Qs j))=true:=by decide +kernel
theorem O2(t:List Int)(i j:Option Int):eL (t.map D.int) i j=(eL t i j).map .int:=by unfold eL;rw[d6,List.map_take,List.map_drop]
theorem Jm{j:Nat}(h:1<=j/\j<=9){t:List Int}(ht:t∈kinds j){d:D}(hd:d∈wR t):Ir d/\yT j d=false:=by
 have:=eP.mp (eP.mp Jl j (yV h)) t ht;simp only[Qs,dS,eR]at this;obtain⟨⟨h1,h2⟩,h3⟩:=this;obtain⟨_,_,_,_,_,hl⟩:=qa h ht;unfold wR at hd;rw[O2]at hd;simp only[d5,i7,t8]at hd;rcases hd with rfl |rfl |rfl |rfl |rfl |rfl |rfl
 . exact⟨⟨by rw[d6];exact qS (Iu _ _ _) (by omega),λx hx=>Pl.ints hx⟩,by rw[fS];exact mP h1⟩
 . exact⟨⟨by rw[d6,fR,nV];omega,λx hx=>Pl.ints hx⟩,by rw[fS];exact mP h2⟩
 . exact⟨trivial,rfl⟩
 . exact⟨trivial,rfl⟩
 . exact⟨⟨by rw[d6,fR,t9,nV];omega,λx hx=>Pl.ints hx⟩,by rw[fS];exact mP h3⟩
 . exact⟨trivial,rfl⟩
 . exact⟨trivial,rfl⟩
noncomputable def wU:List Sm:=match Qn.body with |.loop _ _ b::_=>b |_=>[]
theorem V2{j:Nat}(h:1<=j/\j<=9):(kinds j).length<=30/\1<=(kinds j).length:=by have:=eP.mp few j (yV h);simp only[dS,eR]at this;exact this
section
variable{k n:Nat}{g g1:G}{rn:Nat->Rn}(U:rT fns rn)(F:Fk rn n k)
include U F
theorem cell(ns:List Int)(hl:ns.length<=63)(i:Nat)(a2 a3 a4 a5 a6 a7 a8 a10 a11 a12:Slot):∃b2 b3 b4 b5 b6 b7 b8 b10 b11 b12,(rn (n+130)).b [] (k+13) wU [.dat (.fix (ns.map .int)),.dat (.int i),a2,a3,a4,a5,a6,a7,a8,.no,a10,a11,a12]=some (.nx,[.dat (.fix (ns.map .int)),.dat (.int i),b2,b3,b4,b5,b6,b7,b8,.no,b10,b11,b12]):=by
 obtain⟨s,fl,q1⟩:=Iq U c16 (n:=n+88) (k:=k+11) ns (by omega) i
 have e1:aM (rn (n+129)) [] (k+13) (.set 2 (.call 17 [(.slot 0),(.slot 1)])) [.dat (.fix (ns.map .int)),.dat (.int i),a2,a3,a4,a5,a6,a7,a8,.no,a10,a11,a12]=some (.nx,[.dat (.fix (ns.map .int)),.dat (.int i),St s fl,a3,a4,a5,a6,a7,a8,.no,a10,a11,a12]):=by simp! [U,c17,aE (fx:=p8 16) rfl,q1]
 obtain⟨r,s1,r1,r2,q2⟩:=nO U (n:=n+107) (k:=k+12) (g:=[.dat (.fix (ns.map .int)),.dat (.int i),St s fl,a3,a4,a5,a6,a7,a8,.no,a10,a11,a12]) (i:=2) (s:=s) (fl:=fl) (m:=9) rfl ⋯;obtain⟨j,hmr⟩:∃j:Nat,1+r=j:=⟨(1+r).toNat,by omega⟩
 have hm:1<=j/\j<=9:=by omega
 have Wj:dH (rn (n+127)) eY (k+12) [.var 2,.dat (.int 9)] [.dat (.fix (ns.map .int)),.dat (.int i),St s fl,a3,a4,a5,a6,a7,a8,.no,a10,a11,a12]=some (.dat (.int r),[.dat (.fix (ns.map .int)),.dat (.int i),St s1 fl,a3,a4,a5,a6,a7,a8,.no,a10,a11,a12]):=q2;have e2:aM (rn (n+129)) [] (k+13) (.set 11 (.bin .Add (.val (.int 1)) (.call 23 [(.slot 2),(.val (.int 9))]))) [.dat (.fix (ns.map .int)),.dat (.int i),St s fl,a3,a4,a5,a6,a7,a8,.no,a10,a11,a12]=some (.nx,[.dat (.fix (ns.map .int)),.dat (.int i),St s1 fl,a3,a4,a5,a6,a7,a8,.no,a10,.dat (.int j),a12]):=by simp! [U,c23,Wj,hmr]
 have WQ:=F.WQ j hm;have e3:aM (rn (n+129)) [] (k+13) (.set 3 (.call 18 [(.slot 11),(.slot 11)])) [.dat (.fix (ns.map .int)),.dat (.int i),St s1 fl,a3,a4,a5,a6,a7,a8,.no,a10,.dat (.int j),a12]=some (.nx,[.dat (.fix (ns.map .int)),.dat (.int i),St s1 fl,.own ((kinds j).map λr=>~~~r),a4,a5,a6,a7,a8,.no,a10,.dat (.int j),a12]):=by simp! [U,c18,aE (fx:=ZD) rfl,WQ]
 obtain⟨fw1,fw2⟩:=V2 hm;obtain⟨r',s2,r3,r4,q3⟩:=nO U (n:=n+107) (k:=k+12) (g:=[.dat (.fix (ns.map .int)),.dat (.int i),St s1 fl,.own ((kinds j).map λr=>~~~r),a4,a5,a6,a7,a8,.no,a10,.dat (.int j),a12]) (i:=2) (s:=s1) (fl:=fl) (m:=((kinds j).length:Int)) rfl (by omega)
 have q3':dH (rn (n+127)) eY (k+12) [.var 2,.dat (.int ((kinds j).length:Int))] [.dat (.fix (ns.map .int)),.dat (.int i),St s1 fl,.own ((kinds j).map λr=>~~~r),a4,a5,a6,a7,a8,.no,a10,.dat (.int j),a12]=some (.dat (.int r'),[.dat (.fix (ns.map .int)),.dat (.int i),St s2 fl,.own ((kinds j).map λr=>~~~r),a4,a5,a6,a7,a8,.no,a10,.dat (.int j),a12]):=q3
 obtain⟨t,ht,ix⟩:∃t∈kinds j,L2.iK ((kinds j).map λr=>~~~r) r'=some (~~~t):=by
  obtain⟨x,hx,e⟩:=uv (l:=(kinds j).map λr=>~~~r) (r:=r') ⟨r3,by rw[d6];exact r4⟩
  obtain⟨t,ht,rfl⟩:=i8.mp hx;exact⟨t,ht,e⟩
 have e4:aM (rn (n+129)) [] (k+13) (.set 3 (.ix (.slot 3) (.call 23 [(.slot 2),(.blt .len [(.slot 3)])]))) [.dat (.fix (ns.map .int)),.dat (.int i),St s1 fl,.own ((kinds j).map λr=>~~~r),a4,a5,a6,a7,a8,.no,a10,.dat (.int j),a12]=some (.nx,[.dat (.fix (ns.map .int)),.dat (.int i),St s2 fl,.dat (~~~t),a4,a5,a6,a7,a8,.no,a10,.dat (.int j),a12]):=by simp! [U,c23,q3',ix]
 have WR:=F.WR j hm t ht;have e4':aM (rn (n+129)) [] (k+13) (.set 4 (.call 19 [(.slot 3)])) [.dat (.fix (ns.map .int)),.dat (.int i),St s2 fl,.dat (~~~t),a4,a5,a6,a7,a8,.no,a10,.dat (.int j),a12]=some (.nx,[.dat (.fix (ns.map .int)),.dat (.int i),St s2 fl,.dat (~~~t),.dat (~~~(bO t)),a5,a6,a7,a8,.no,a10,.dat (.int j),a12]):=by simp! [U,c19,bD (fx:=ZF) rfl,WR]
 have e5':=e5 U F j hm t ht (.dat (.fix (ns.map .int))) (.dat (.int i)) (St s2 fl) a5 a6 a7 a8 .no a10 a12;have e6':=e6 U F j hm t ht (.dat (.fix (ns.map .int))) (.dat (.int i)) (St s2 fl) (.dat (~~~t)) (.own ((aD j t).map .int)) a6 a7 a8 .no a10 a12;have e7':=e7 U F j hm t ht (.dat (.fix (ns.map .int))) (.dat (.int i)) (.dat (~~~(bO t))) a7 a8 .no a10 a12 s2 fl;have e8':=e8 U F j hm t ht (.dat (.fix (ns.map .int))) (.dat (.int i)) a7 a8 .no a10 a12 s2 fl;obtain⟨d8,l1⟩:=lap U F j hm t ht (.dat (.fix (ns.map .int))) (.dat (.int i)) (St s2 fl) (.dat (~~~(bO t))) (.own ((aD j t).map .int)) (.dat (.int 0)) a8 .no a10 a12;obtain⟨Al,l2⟩:=lap U F j hm t ht (.dat (.fix (ns.map .int))) (.dat (.int i)) (St s2 fl) (.dat (~~~(bO t))) (.own ((aD j t).map .int)) (.dat (.int 1)) d8 .no a10 a12;have e9:aM (rn (n+129)) [] (k+13) (.loop (.nm 7) (.dP (.val (.int 2))) [(.set 8 (.call 15 [(.slot 11),(.slot 3)])),(.ite (.not (.peek (.call 25 [(.slot 8),(.slot 6)]))) [(.ret (.val (.bl false)))] []),(.expr (.append 8 (.val (.int 0))))]) [.dat (.fix (ns.map .int)),.dat (.int i),St s2 fl,.dat (~~~t),.dat (~~~(bO t)),.own ((aD j t).map .int),bM j t,a7,a8,.no,a10,.dat (.int j),a12]=some (.nx,[.dat (.fix (ns.map .int)),.dat (.int i),St s2 fl,.dat (~~~t),.dat (~~~(bO t)),.own ((aD j t).map .int),bM j t,.dat (.int 1),Al,.no,a10,.dat (.int j),a12]):=by
  have hw:fV (rn (n+129)) [] (k+13) false (.dP (.val (.int 2))) [.dat (.fix (ns.map .int)),.dat (.int i),St s2 fl,.dat (~~~t),.dat (~~~(bO t)),.own ((aD j t).map .int),bM j t,a7,a8,.no,a10,.dat (.int j),a12]=some ([.int 0,.int 1],[.dat (.fix (ns.map .int)),.dat (.int i),St s2 fl,.dat (~~~t),.dat (~~~(bO t)),.own ((aD j t).map .int),bM j t,a7,a8,.no,a10,.dat (.int j),a12]):=by have rr:gK 0 2=[.int 0,.int 1]:=rfl;simp! [U,fV,cJ 2 ⋯,rr]
  generalize hb:(rn (n+129)).b [] (k+13) [(.set 8 (.call 15 [(.slot 11),(.slot 3)])),(.ite (.not (.peek (.call 25 [(.slot 8),(.slot 6)]))) [(.ret (.val (.bl false)))] []),(.expr (.append 8 (.val (.int 0))))]=bb at l1 l2;simp only[aM,Tg.ix,Tg.iZ,hw,hb];simp[bZ,Tg.set,l1,l2]
 obtain⟨b,s4,hb,q6⟩:=Iw U c23 (n:=n+68) (k:=k+11) (g:=[.dat (.fix (ns.map .int)),.dat (.int i),St s2 fl,.dat (~~~t),.dat (~~~(bO t)),.own ((aD j t).map .int),bM j t,.dat (.int 1),Al,.no,a10,.dat (.int j),a12]) 9 ⋯ (i:=2) (s:=s2) (fl:=fl) rfl;have q6':dH (rn (n+128)) (iQ 23) (k+12) [.var 2,.dat (.int 9)] [.dat (.fix (ns.map .int)),.dat (.int i),St s2 fl,.dat (~~~t),.dat (~~~(bO t)),.own ((aD j t).map .int),bM j t,.dat (.int 1),Al,.no,a10,.dat (.int j),a12]=some (.dat b,[.dat (.fix (ns.map .int)),.dat (.int i),St s4 fl,.dat (~~~t),.dat (~~~(bO t)),.own ((aD j t).map .int),bM j t,.dat (.int 1),Al,.no,a10,.dat (.int j),a12]):=q6;have e10:aM (rn (n+129)) [] (k+13) (.set 10 (.call 24 [(.slot 2),(.val (.int 9))])) [.dat (.fix (ns.map .int)),.dat (.int i),St s2 fl,.dat (~~~t),.dat (~~~(bO t)),.own ((aD j t).map .int),bM j t,.dat (.int 1),Al,.no,a10,.dat (.int j),a12]=some (.nx,[.dat (.fix (ns.map .int)),.dat (.int i),St s4 fl,.dat (~~~t),.dat (~~~(bO t)),.own ((aD j t).map .int),bM j t,.dat (.int 1),Al,.no,.dat b,.dat (.int j),a12]):=by simp! [U,c24,q6']
 obtain⟨r5,s5,r6,r7,q7⟩:=nO U (n:=n+107) (k:=k+12) (g:=[.dat (.fix (ns.map .int)),.dat (.int i),St s4 fl,.dat (~~~t),.dat (~~~(bO t)),.own ((aD j t).map .int),bM j t,.dat (.int 1),Al,.no,.dat b,.dat (.int j),a12]) (i:=2) (s:=s4) (fl:=fl) (m:=7) rfl ⋯;have q7':dH (rn (n+127)) eY (k+12) [.var 2,.dat (.int 7)] [.dat (.fix (ns.map .int)),.dat (.int i),St s4 fl,.dat (~~~t),.dat (~~~(bO t)),.own ((aD j t).map .int),bM j t,.dat (.int 1),Al,.no,.dat b,.dat (.int j),a12]=some (.dat (.int r5),[.dat (.fix (ns.map .int)),.dat (.int i),St s5 fl,.dat (~~~t),.dat (~~~(bO t)),.own ((aD j t).map .int),bM j t,.dat (.int 1),Al,.no,.dat b,.dat (.int j),a12]):=q7;obtain⟨d,hd,eo⟩:=uv (l:=wR t) (r:=r5) ⟨r6,r7⟩;obtain⟨fd,kd⟩:=Jm hm ht hd;obtain⟨_,_,_,_,_,tl⟩:=qa hm ht;have e11:aM (rn (n+129)) [] (k+13) (.set 12 (.ix (.lst [(.slice (.slot 3) (some (.val (.int 1))) none),(.bin .Add (.slot 3) (.tup [(.val (.int 1))])),(.blt .list [(.slot 3)]),(.val .non),(.bin .Add (.rev (.slot 3)) (.tup [(.val (.int 0))])),(.val (.int 0)),(.val (.str (PySem.Str.ofString "1")))]) (.call 23 [(.slot 2),(.val (.int 7))]))) [.dat (.fix (ns.map .int)),.dat (.int i),St s4 fl,.dat (~~~t),.dat (~~~(bO t)),.own ((aD j t).map .int),bM j t,.dat (.int 1),Al,.no,.dat b,.dat (.int j),a12]=some (.nx,[.dat (.fix (ns.map .int)),.dat (.int i),St s5 fl,.dat (~~~t),.dat (~~~(bO t)),.own ((aD j t).map .int),bM j t,.dat (.int 1),Al,.no,.dat b,.dat (.int j),.dat d]):=by
  have o1:mY .Add (~~~t) (.tup [.int 1])=some (.dat (~~~(t++[1]))):=by rw[t5];exact Ad _ _ (by simp;omega)
  have o2:mY .Add (.tup (t.map D.int).reverse) (.tup [.int 0])=some (.dat (~~~(t.reverse++[0]))):=by rw[t5,List.map_reverse];exact Ad _ _ (by simp;omega)
  have eo':L2.iK [D.tup (eL (t.map .int) (some 1) none),D.tup (List.map D.int t++List.map D.int [1]),.lst (t.map .int),.non,D.tup ((List.map D.int t).reverse++List.map D.int [0]),.int 0,.str (PySem.Str.ofString "1")] r5=some d:=by
   have:[D.tup (eL (t.map .int) (some 1) none),D.tup (List.map D.int t++List.map D.int [1]),.lst (t.map .int),.non,D.tup ((List.map D.int t).reverse++List.map D.int [0]),.int 0,.str (PySem.Str.ofString "1")]=wR t:=by unfold wR;rw[t5,t5,List.map_reverse]
   rw[this];exact eo
  simp! [U,vZ,o1,o2,c23,q7',aB 7 ⋯,aB 1 ⋯,eo']
 have e12:=calls U (n:=n) (k:=k) (x:=11) (b:=.int j) (d:=d) (ci:=1) (C:=73) (c:=3) (.inr rfl) (λn k=>wM U c0 c5 c1 c2 c4 (n:=n) (k:=k) (cj:=1) j hm d fd kd) (λn k=>Jk U (n:=n) (k:=k) j hm d fd kd) rfl F.b3 [.dat (.fix (ns.map .int)),.dat (.int i),St s5 fl,.dat (~~~t),.dat (~~~(bO t)),.own ((aD j t).map .int),bM j t,.dat (.int 1),Al,.no,.dat b,.dat (.int j),.dat d] rfl rfl rfl rfl
 have e13:=calls U (n:=n) (k:=k) (x:=10) (b:=b) (d:=d) (ci:=0) (C:=49) (c:=1) (.inl rfl) (λn k=>wL U c0 c5 c1 c2 c4 (n:=n) (k:=k) (cj:=1) b d hb) (λn k=>Jj U (n:=n) (k:=k) b d hb) rfl F.a1 [.dat (.fix (ns.map .int)),.dat (.int i),St s5 fl,.dat (~~~t),.dat (~~~(bO t)),.own ((aD j t).map .int),bM j t,.dat (.int 1),Al,.no,.dat b,.dat (.int j),.dat d] rfl rfl rfl rfl
 refine⟨St s5 fl,.dat (~~~t),.dat (~~~(bO t)),.own ((aD j t).map .int),bM j t,.dat (.int 1),Al,.dat b,.dat (.int j),.dat d,?_⟩;unfold wU Qn;dsimp only;rw[U.b,aK e1,aK e2,aK e3,aK e4,aK e4',aK e5',aK e6',aK e7',aK e8',aK e9,aK e10,aK e11,aK e12,aK e13];rfl
theorem whole(ns:List Int)(hl:ns.length<=63):∃g',(rn (n+131)).b [] (k+13) Qn.body [.dat (.fix (ns.map .int)),.no,.no,.no,.no,.no,.no,.no,.no,.no,.no,.no,.no]=some (.rt (.dat (.bl true)),g'):=by
 have loop:=lQ (T:=.nm 1) (b:=(rn (n+130)).b [] (k+13) wU) (λ(j:Nat)=>D.int (0+(j:Int)))
  (I:=λ(l:List Nat) g=>∃(s1 s2 s3 s4 s5 s6 s7 s8 WW WX s12:Slot),g=[.dat (.fix (ns.map .int)),s1,s2,s3,s4,s5,s6,s7,s8,.no,WW,WX,s12])
  (step:=λa l g h=>by
   obtain⟨s1,s2,s3,s4,s5,s6,s7,s8,WW,WX,s12,rfl⟩:=h;rw[Int.zero_add];obtain⟨b2,b3,b4,b5,b6,b7,b8,b10,b11,b12,q⟩:=cell U F ns hl a s2 s3 s4 s5 s6 s7 s8 WW WX s12;exact⟨_,_,rfl,q,_,_,_,_,_,_,_,_,_,_,_,rfl⟩)
 obtain⟨M,hM,hM2⟩:∃M:Nat,M<=6/\(if ((if (6:Int)<ns.length then 6 else (ns.length:Int))) > 1 then (if (6:Int)<ns.length then 6 else (ns.length:Int))else 1)=(M:Int):=by
  refine⟨(if ((if (6:Int)<ns.length then 6 else (ns.length:Int))) > 1 then (if (6:Int)<ns.length then 6 else (ns.length:Int))else 1).toNat,?_,?_⟩
  . split <;> (try split) <;> omega
  . split <;> (try split) <;> omega
 obtain⟨g2,⟨s1,s2,s3,s4,s5,s6,s7,s8,WW,WX,s12,rfl⟩,h4⟩:=loop (List.range M) [.dat (.fix (ns.map .int)),.no,.no,.no,.no,.no,.no,.no,.no,.no,.no,.no,.no] ⟨_,_,_,_,_,_,_,_,_,_,_,rfl⟩;have hv:eH (rn (n+130)) [] (k+13) (.blt .max [(.val (.int 1)),(.blt .min [(.blt .len [(.slot 0)]),(.val (.int 6))])]) [.dat (.fix (ns.map .int)),.no,.no,.no,.no,.no,.no,.no,.no,.no,.no,.no,.no]=some (.int (M:Int),[.dat (.fix (ns.map .int)),.no,.no,.no,.no,.no,.no,.no,.no,.no,.no,.no,.no]):=by rw[<- hM2];simp! [U,pY]
 have hw:fV (rn (n+130)) [] (k+13) false (.dP (.blt .max [(.val (.int 1)),(.blt .min [(.blt .len [(.slot 0)]),(.val (.int 6))])])) [.dat (.fix (ns.map .int)),.no,.no,.no,.no,.no,.no,.no,.no,.no,.no,.no,.no]=some ((List.range M).map λ(x:Nat)=>D.int (0+(x:Int)),[.dat (.fix (ns.map .int)),.no,.no,.no,.no,.no,.no,.no,.no,.no,.no,.no,.no]):=by
  unfold fV;dsimp only;rw[hv];dsimp only;rw[gL (cJ M (by omega)),AS]
  rfl
 have e1:aM (rn (n+130)) [] (k+13) (.loop (.nm 1) (.dP (.blt .max [(.val (.int 1)),(.blt .min [(.blt .len [(.slot 0)]),(.val (.int 6))])])) wU) [.dat (.fix (ns.map .int)),.no,.no,.no,.no,.no,.no,.no,.no,.no,.no,.no,.no]=some (.nx,[.dat (.fix (ns.map .int)),s1,s2,s3,s4,s5,s6,s7,s8,.no,WW,WX,s12]):=by simp only[aM,Tg.ix,Tg.iZ,hw,h4];simp
 refine⟨[.dat (.fix (ns.map .int)),s1,s2,s3,s4,s5,s6,s7,s8,.no,WW,WX,s12],?_⟩;have hb:Qn.body=[(.loop (.nm 1) (.dP (.blt .max [(.val (.int 1)),(.blt .min [(.blt .len [(.slot 0)]),(.val (.int 6))])])) wU),(.ret (.val (.bl true)))]:=rfl;rw[hb,U.b,aK e1];simp! [U,U.e]
end
end bu
namespace bu
open Ev
def WY(m:Nat)(c h:List Int)(x:Nat):List Int:=h.set (m+x) (gt c (m+x:Nat)+gt c x)
def Jo(m:Nat)(c:List Int):List Int:=(List.range (c.length - m)).foldl (WY m c) c
theorem Am(m:Nat)(c h:List Int)(x:Nat):(WY m c h x).length=h.length:=u7
theorem sf(m:Nat)(c:List Int):∀(l:List Nat) (h:List Int),(l.foldl (WY m c) h).length=h.length
 | [],_=>rfl
 |x::l,h=>by rw[List.foldl_cons,sf m c l,Am]
theorem nR(m:Nat)(c:List Int):(Jo m c).length=c.length:=sf m c _ _
def Dr:List Sm:=[(.item 4 (.slot 5) (.bin .Add (.ix (.slot 2) (.slot 5)) (.ix (.slot 2) (.bin .Sub (.slot 5) (.blt .len [(.slot 3)])))))]
theorem Ao:∀a b:List Int,(a.zip b).map (λp=>D.int (p.1+p.2))=(List.zipWith (· + ·) a b).map .int
 | [],b=>by rw[List.zip_nil_left,List.zipWith_nil_left];rfl
 |a::l,[]=>rfl
 |a::l,b::m=>by rw[y0,List.map_cons,List.zipWith_cons_cons,List.map_cons,Ao l m]
theorem lX{T:Tg}{b:G->Option (Fl×G)}{d:D}{l:List D}{g g0 g1:G}(h0:T.set d g=some g0)(h:b g0=some (.nx,g1)):bZ T b (d::l) g=bZ T b l g1:=by
 conv=>lhs;unfold bZ
 rw[h0];dsimp only;rw[h]
section
variable{k n:Nat}{rn:Nat->Rn}(U:rT fns rn)
include U
theorem it27(a0 a1:Slot)(s2:Slot)(c h:List Int)(r:List D)(x:Nat)(hs:s2=.own (c.map .int)\/s2=.dat (.lst (c.map .int)))(hc:c.length<=37)(hh:h.length=c.length)(hx:r.length+x<c.length) :
  (rn (n+126)).b [] (k+12) Dr [a0,a1,s2,.dat (.tup r),.own (h.map .int),.dat (.int ((r.length:Int)+x))]=some (.nx,[a0,a1,s2,.dat (.tup r),.own ((WY r.length c h x).map .int),.dat (.int ((r.length:Int)+x))]):=by
 have g1:=iG (t:=c) (i:=(r.length:Int)+x) ⋯;have g2:=iG (t:=c) (i:=(x:Int)) ⋯;have l1:L2.xO h.length ((r.length:Int)+x)=some (r.length+x):=by
  have:=VG (l:=h.length) (i:=r.length+x) ⋯
  rwa [show ((r.length+x:Nat):Int)=(r.length:Int)+x by lia]at this
 have e:(r.length:Int)+x - r.length=x:=by lia
 unfold WY;rw[List.map_set,show ((r.length+x:Nat):Int)=(r.length:Int)+x by lia]
 unfold Dr;rcases hs with rfl |rfl
 . simp! [U,g1,g2,l1,e]
 . simp! [U,g1,g2,l1,e]
theorem in27(a0 a1:Slot)(s2:Slot)(c:List Int)(r:List D)(a5:Slot)(hs:s2=.own (c.map .int)\/s2=.dat (.lst (c.map .int)))(hc:c.length<=37)(hr:r.length<=c.length) :
  ∃b5,bZ (.nm 5) ((rn (n+126)).b [] (k+12) Dr) ((List.range (c.length - r.length)).map λ(x:Nat)=>D.int ((r.length:Int)+x)) [a0,a1,s2,.dat (.tup r),.own (c.map .int),a5]=some (.nx,[a0,a1,s2,.dat (.tup r),.own ((Jo r.length c).map .int),b5]):=by
 obtain⟨g',⟨_,h',b5,h1,h2,rfl⟩,h3⟩:=lQ (T:=.nm 5) (b:=(rn (n+126)).b [] (k+12) Dr) (λ(x:Nat)=>D.int ((r.length:Int)+x))
  (I:=λl g=>(∀x∈l,r.length+x<c.length)/\∃(h:List Int) (b5:Slot),h.length=c.length/\l.foldl (WY r.length c) h=Jo r.length c/\g=[a0,a1,s2,.dat (.tup r),.own (h.map .int),b5])
  (step:=λa l g h=>by
   obtain⟨h0,h',b5,h1,h2,rfl⟩:=h;have ha:=h0 a dL;exact⟨_,_,rfl,it27 U a0 a1 s2 c h' r a hs hc h1 ha,λx hx=>h0 x (dA _ hx),_,_,by rw[Am,h1],by rw[<- h2];rfl,rfl⟩) (List.range (c.length - r.length)) [a0,a1,s2,.dat (.tup r),.own (c.map .int),a5] ⟨λx hx=>by rw[An]at hx;lia,c,a5,rfl,rfl,rfl⟩
 have h2':h'=Jo r.length c:=h2;subst h2';exact⟨b5,h3⟩
theorem ZN(a0 a1:Slot)(s2:Slot)(c:List Int)(r:List D)(a4 a5:Slot)(hs:s2=.own (c.map .int)\/s2=.dat (.lst (c.map .int)))(hc:c.length<=37)(hr:r.length<=c.length) :
  ∃b4 b5,(rn (n+127)).b [] (k+12) Qq [a0,a1,s2,.dat (.tup r),a4,a5]=some (.nx,[a0,a1,.dat (.lst ((Jo r.length c).map .int)),.dat (.tup r),b4,b5]):=by
 obtain⟨b5,lp⟩:=in27 U (n:=n) (k:=k) a0 a1 s2 c r a5 hs hc hr;have e:((c.length:Int) - r.length).toNat=c.length - r.length:=by lia
 refine⟨.dat (.lst ((Jo r.length c).map .int)),b5,?_⟩;generalize hb:(rn (n+126)).b [] (k+12) Dr=bb at lp;unfold Dr at hb;unfold Qq;rcases hs with rfl |rfl
 . simp! [U,Tg.ix,Tg.iZ,fV,cJ (r.length:Int) ⋯,cJ (c.length:Int) ⋯,e,gK,hb,lp]
 . simp! [U,Tg.ix,Tg.iZ,fV,cJ (r.length:Int) ⋯,cJ (c.length:Int) ⋯,e,gK,hb,lp]
theorem ZP(a0 a1:Slot):∀(rs:List (List (List Int))) (c:List Int) (a3 a4 a5:Slot),c.length<=37->(∀r∈rs,r.length<=c.length)->
  ∃b3 b4 b5,bZ (.nm 3) ((rn (n+127)).b [] (k+12) Qq) (rs.map λr=>.tup (r.map λx=>~~~x)) [a0,a1,.dat (.lst (c.map .int)),a3,a4,a5]=some (.nx,[a0,a1,.dat (.lst ((rs.foldl (λc r=>Jo r.length c) c).map .int)),b3,b4,b5])
 | [],c,a3,a4,a5,_,_=>⟨a3,a4,a5,rfl⟩
 |r::rs,c,a3,a4,a5,hc,hr=>by
  obtain⟨b4,b5,q⟩:=ZN U (n:=n) (k:=k) a0 a1 (.dat (.lst (c.map .int))) c (r.map λx=>~~~x) a4 a5 (.inr rfl) hc (by rw[d6];exact hr r dL)
  rw[d6]at q;obtain⟨c3,c4,c5,w⟩:=ZP a0 a1 rs (Jo r.length c) (.dat (.tup (r.map λx=>~~~x))) b4 b5 (by rw[nR];exact hc) (λx hx=>by rw[nR];exact hr x (dA _ hx))
  refine⟨c3,c4,c5,?_⟩;rw[List.map_cons];rw[lX (rfl:(Tg.nm 3).set _ _=_) q];exact w
theorem V3(j:Nat)(t:List Int)(hj:j=1->lrs j t=[])(hj':j≠1->lrs j t≠[])(hc:j * (j - 1) / 2<=36)(hr:∀r∈lrs j t,r.length<=j * (j - 1) / 2)(he:(lrs j t).foldl (λc r=>Jo r.length c) (1::List.replicate (j * (j - 1) / 2) 0)=aQ j t)(a0 a1:Slot) :
  ∃b3 b4 b5:Slot,bZ (.nm 3) ((rn (n+127)).b [] (k+12) Qq) ((lrs j t).map λr=>.tup (r.map λx=>~~~x)) [a0,a1,.own (qe j),.no,.no,.no]=some (.nx,[a0,a1,bM j t,b3,b4,b5]):=by
 have hs:qe j=(1::List.replicate (j * (j - 1) / 2) (0:Int)).map .int:=by unfold qe;rw[List.map_cons,List.map_replicate]
 rw[hs];unfold bM;have hL:(1::List.replicate (j * (j - 1) / 2) (0:Int)).length=j * (j - 1) / 2+1:=by rw[l5,fI]
 generalize (1::List.replicate (j * (j - 1) / 2) (0:Int))=c at he hL;by_cases h1:j=1
 .
  rw[hj h1]at he ⊢
  rw[gL h1,<- he];exact⟨.no,.no,.no,rfl⟩
 .
  rw[hZ h1,<- he];have hn:=hj' h1;revert hr hn;cases lrs j t with
  |nil=>intro _ hn;exact absurd rfl hn
  |cons r rs=>
   intro hr _;obtain⟨b4,b5,q⟩:=ZN U (n:=n) (k:=k) a0 a1 (.own (c.map .int)) c (r.map λx=>~~~x) .no .no (.inl rfl) ⋯ (by rw[d6];have:=hr r dL;lia)
   rw[d6]at q;obtain⟨c3,c4,c5,w⟩:=ZP U (n:=n) (k:=k) a0 a1 rs (Jo r.length c) (.dat (.tup (r.map λx=>~~~x))) b4 b5 (by rw[nR];lia) (λx hx=>by rw[nR];have:=hr x (dA _ hx);lia)
   refine⟨c3,c4,c5,?_⟩;rw[List.map_cons];rw[lX (rfl:(Tg.nm 3).set _ _=_) q];exact w
theorem tn15(a0 a1:Slot)(c:List Int)(m:Nat)(a4:Slot)(hm:m<=36)(hc:c.length+m<=100) :
  (rn (n+126)).b [] (k+12) VR [a0,a1,.own (c.map .int),.dat (.int m),a4]=some (.nx,[a0,a1,.own ((List.zipWith (· + ·) (c++List.replicate m 0) (List.replicate m 0++c)).map .int),.dat (.int m),.own ((List.replicate m (0:Int)).map .int)]):=by
 have z:=Aj m ⟨by lia,by lia⟩
 rw[AS]at z;generalize hz:List.replicate m (0:Int)=zs at z;have hzl:zs.length=m:=by rw[<- hz,fI]
 have o1:=uw (c.map .int) (zs.map .int) (by rw[d6,d6];lia)
 have o2:=uw (zs.map .int) (c.map .int) (by rw[d6,d6];lia)
 rw[<- t5]at o1 o2;obtain⟨M,hM⟩:∃M:Int,M=m:=⟨_,rfl⟩;rw[<- hM]at z ⊢
 clear hM;have ez:o8 (c.map .int++zs.map .int) (zs.map .int++c.map .int)=((c++zs).zip (zs++c)).map λp=>D.tup [.int p.1,.int p.2]:=by unfold o8;rw[<- t5,<- t5,List.zip_map,List.map_map];rfl
 have s1:aM (rn (n+125)) [] (k+12) (.set 4 (.bin .Mult (.lst [(.val (.int 0))]) (.slot 3))) [a0,a1,.own (c.map .int),.dat (.int M),a4]=some (.nx,[a0,a1,.own (c.map .int),.dat (.int M),.own (zs.map .int)]):=by simp! [U,z,aB 1 ⋯]
 have w:=Ii (rn:=rn (n+125)) (bor:=[]) (k:=k+12) (g:=[a0,a1,.own (c.map .int),.dat (.int M),.own (zs.map .int)]) (g1:=[a0,a1,.own (c.map .int),.dat (.int M),.own (zs.map .int)]) (kk:=3) (nn:=5) (j1:=6) (j2:=7) (it:=.zip (.bin .Add (.slot 2) (.slot 4)) (.bin .Add (.slot 4) (.slot 2))) (e:=.bin .Add (.slot 6) (.slot 7)) ((c++zs).zip (zs++c)) (λp=>.int p.1) (λp=>.int p.2) (λp=>.int (p.1+p.2))
  (by simp! [U,fV,o1,o2,cG,isTup,ez]) rfl ⋯ ⋯ ⋯ ⋯ ⋯ ⋯ ⋯ (aB _ (by rw[List.length_zip,fR,fR];lia)) λp hp G' hG=>by
   have h1:=hG.2.1;have h2:=hG.2.2;simp! [U,h1,h2]
 have e3:((c++zs).zip (zs++c)).map (λp=>D.int (p.1+p.2))=(List.zipWith (· + ·) (c++zs) (zs++c)).map .int:=by exact Ao _ _
 rw[e3]at w;unfold VR;rw[U.b,aK s1];simp! [U,w]
theorem ZQ(a0 a1:Slot):∀(ls:List Int) (c:List Int) (a3 a4:Slot),(∀l∈ls,0<=l/\l<=36)->c.length+ls.sum<=100->
  ∃b3 b4,bZ (.nm 3) ((rn (n+126)).b [] (k+12) VR) (ls.map .int) [a0,a1,.own (c.map .int),a3,a4]=some (.nx,[a0,a1,.own ((Jg ls c).map .int),b3,b4])
 | [],c,a3,a4,_,_=>⟨a3,a4,rfl⟩
 |l::ls,c,a3,a4,hl,hs=>by
  obtain⟨m,rfl⟩:∃m:Nat,l=m:=⟨l.toNat,by have:=hl l dL;lia⟩
  have hm:=hl m dL;have hnn:∀x:List Int,(∀l∈x,0<=l/\l<=36)->0<=x.sum:=λx=>by
   induction x with
   |nil=>intro _;exact Int.le_refl 0
   |cons a x ih=>intro h;rw[AT];have h1:=(h a dL).1;have h2:=ih λy hy=>h y (dA _ hy);lia
  have hp:=hnn ls λy hy=>hl y (dA _ hy)
  rw[AT]at hs;have q:=tn15 U (n:=n) (k:=k) a0 a1 c m a4 ⋯ ⋯;obtain⟨b3,b4,w⟩:=ZQ a0 a1 ls (List.zipWith (· + ·) (c++List.replicate m 0) (List.replicate m 0++c)) (.dat (.int m)) (.own ((List.replicate m (0:Int)).map .int)) (λy hy=>hl y (dA _ hy)) (by rw[List.length_zipWith,fR,fR,fI];lia)
  refine⟨b3,b4,?_⟩;rw[List.map_cons,lX (rfl:(Tg.nm 3).set _ _=_) q];exact w
end
end bu
namespace bu
open Ev
def Qt(ps:List (List Int))(r:Option R):Bool:=match r with |some (.new l)=>(match gG l with |some ts=>decide (ts=ps) |none=>false) |_=>false
def W0(u:List Int)(r:Option R):Bool:=match r with |some (.dat (.tup l))=>(match aW l with |some v=>decide (v=u) |none=>false) |_=>false
def ckN(u:List Int)(r:Option R):Bool:=match r with |some (.new l)=>(match aW l with |some v=>decide (v=u) |none=>false) |_=>false
noncomputable def ckV(v:Int)(r:Option R):Bool:=match r with |some (.dat (.int w))=>decide (w=v) |_=>false
theorem lY{ps:List (List Int)}{r:Option R}(h:Qt ps r=true):r=some (.new (ps.map λx=>~~~x)):=by
 unfold Qt at h;split at h
 .
  split at h
  . rename_i l ts e;rw[wJ e,kA h]
  . cases h
 . cases h
theorem uA{u:List Int}{r:Option R}(h:W0 u r=true):r=some (.dat (~~~u)):=by
 unfold W0 at h;split at h
 .
  split at h
  . rename_i l v e;rw[iH e,kA h]
  . cases h
 . cases h
theorem V4{u:List Int}{r:Option R}(h:ckN u r=true):r=some (.new (u.map .int)):=by
 unfold ckN at h;split at h
 .
  split at h
  . rename_i l v e;rw[iH e,kA h]
  . cases h
 . cases h
theorem V5{v:Int}{r:Option R}(h:ckV v r=true):r=some (.dat (.int v)):=by
 unfold ckV at h;split at h
 . rw[kA h]
 . cases h
def sr(p:Nat->List Int->Bool)(j a b:Nat):Bool:=(((kinds j).drop a).take b).all (p j)
theorem ZR{p:Nat->List Int->Bool}(h1:([1,2,3,4,5,6].all λj=>(kinds j).all (p j))=true)(h7:(kinds 7).all (p 7)=true)(h8:sr p 8 0 11=true)(h8':sr p 8 11 11=true)(h9:sr p 9 0 8=true)(h9':sr p 9 8 8=true)(h9'':sr p 9 16 7=true)(ZS:sr p 9 23 7=true)(j:Nat)(h:1<=j/\j<=9)(t:List Int)(ht:t∈kinds j):p j t=true:=by
 by_cases e7:j=7
 . subst e7;exact eP.mp h7 t ht
 by_cases e8:j=8
 .
  subst e8;rw[sr,CL]at h8;refine eP.mp (eZ _ 11 h8 ?_) t ht;have:(kinds 8).drop 11=((kinds 8).drop 11).take 11:=by decide +kernel
  rw[this];exact h8'
 by_cases e9:j=9
 .
  subst e9;rw[sr,CL]at h9;refine eP.mp (eZ _ 8 h9 (eZ _ 8 h9' ?_)) t ht;rw[CO];refine eZ _ 7 h9'' ?_;rw[CO];have:(kinds 9).drop (8+8+7)=((kinds 9).drop 23).take 7:=by decide +kernel
  rw[this];exact ZS
 exact eP.mp (eP.mp h1 j (by simp only[d5,i7,t8];omega)) t ht
def kS(j:Nat)(t:List Int):Bool:=decide ((aQ j t).sum=2 ^ (aD j t).length)&&decide ((aQ j t).length<=37)
def Eb(j:Nat)(t:List Int):Bool:=W0 (bO t) (bq (run fns (0+128)) (0+12) ZF [~~~t])&&W0 (bO t) (bq (run fns (0+117)) (0+11) Qm [~~~t])&&W0 (bO t) (bq (run fns (0+113)) (0+10) Qm [~~~t])&&W0 (bO t) (bq (run fns (0+119)) (0+10) Qm [~~~t])
theorem a18:(Qp.all λj=>Qt (kinds j) (bq (run fns (0+128)) (0+12) ZD [.int j,.int j]))=true:=by decide +kernel
theorem a20:(Qp.all λj=>Qt (nQ j) (bq (run fns (0+123)) (0+11) VJ [.int j])&&Qt (nQ j) (bq (run fns (0+124)) (0+10) VJ [.int j]))=true:=by decide +kernel
theorem a8:(Qp.all λj=>Qt (nQ j) (bq (run fns (0+116)) (0+10) x8 [.int j])&&Qt (nQ j) (bq (run fns (0+112)) (0+9) x8 [.int j])&&Qt (nQ j) (bq (run fns (0+118)) (0+9) x8 [.int j]))=true:=by decide +kernel
theorem a3:((List.range 37).all λm=>ckV (2 ^ m) (bq (run fns (0+121)) (0+11) x3 [.int 2,.int m]))=true:=by decide +kernel
theorem a28:([1,2,3,4].all λj=>(kinds j).all λt=>ckN (aQ j t) (bq (run fns (0+125)) (0+12) WM [.int j,~~~(bO t)]))=true:=by decide +kernel
theorem ZT:([1,2,3,4,5,6].all λj=>(kinds j).all (Eb j))=true:=by decide +kernel
theorem ZV:(kinds 7).all (Eb 7)=true:=by decide +kernel
theorem ZW:sr Eb 8 0 11=true:=by decide +kernel
theorem ZX:sr Eb 8 11 11=true:=by decide +kernel
theorem ZZ:sr Eb 9 0 8=true:=by decide +kernel
theorem Z0:sr Eb 9 8 8=true:=by decide +kernel
theorem Z1:sr Eb 9 16 7=true:=by decide +kernel
theorem Z2:sr Eb 9 23 7=true:=by decide +kernel
theorem a19(j:Nat)(h:1<=j/\j<=9)(t:List Int)(ht:t∈kinds j):Eb j t=true:=ZR (p:=Eb) ZT ZV ZW ZX ZZ Z0 Z1 Z2 j h t ht
def kP(j:Nat)(t:List Int):Bool:=kS j t&&decide (∀l∈aD j t,0<=l/\l<=36)&&decide (1+(aD j t).sum<=100)&&(decide (j=1)==(lrs j t).isEmpty)&&decide (∀r∈lrs j t,r.length<=j * (j - 1) / 2)&&decide ((lrs j t).foldl (λc r=>Jo r.length c) (1::List.replicate (j * (j - 1) / 2) 0)=aQ j t)&&decide (j * (j - 1) / 2<=36)
theorem aP_1:([1,2,3,4,5,6].all λj=>(kinds j).all (kP j))=true:=by decide +kernel
theorem aP_2:(kinds 7).all (kP 7)=true:=by decide +kernel
theorem aP_3:sr kP 8 0 11=true:=by decide +kernel
theorem aP_4:sr kP 8 11 11=true:=by decide +kernel
theorem aP_5:sr kP 9 0 8=true:=by decide +kernel
theorem aP_6:sr kP 9 8 8=true:=by decide +kernel
theorem aP_7:sr kP 9 16 7=true:=by decide +kernel
theorem aP_8:sr kP 9 23 7=true:=by decide +kernel
theorem aP(j:Nat)(h:1<=j/\j<=9)(t:List Int)(ht:t∈kinds j):kP j t=true:=ZR (p:=kP) aP_1 aP_2 aP_3 aP_4 aP_5 aP_6 aP_7 aP_8 j h t ht
theorem a15(j:Nat)(h:1<=j/\j<=9)(t:List Int)(ht:t∈kinds j):∃b3 b4:Slot,bZ (.nm 3) ((run fns (0+126)).b [] (0+12) VR) ((aD j t).map .int) [.dat (.int j),.dat (~~~t),.own [.int 1],.no,.no]=some (.nx,[.dat (.int j),.dat (~~~t),.own ((aQ j t).map .int),b3,b4]):=by have q:=aP j h t ht;simp only[kP,dS,eR]at q;exact ZQ (uo fns) (n:=0) (k:=0) (.dat (.int j)) (.dat (~~~t)) (aD j t) [1] .no .no q.1.1.1.1.1.2 q.1.1.1.1.2
theorem a27(j:Nat)(h:1<=j/\j<=9)(t:List Int)(ht:t∈kinds j):∃b3 b4 b5:Slot,bZ (.nm 3) ((run fns (0+127)).b [] (0+12) Qq) ((lrs j t).map λr=>.tup (r.map λx=>~~~x)) [.dat (.int j),.dat (~~~(bO t)),.own (qe j),.no,.no,.no]=some (.nx,[.dat (.int j),.dat (~~~(bO t)),bM j t,b3,b4,b5]):=by
 have q:=aP j h t ht;simp only[kP,dS,eR,beq_iff_eq]at q;obtain⟨⟨⟨⟨⟨⟨_,_⟩,_⟩,q1⟩,q2⟩,q3⟩,q4⟩:=q;refine V3 (uo fns) (n:=0) (k:=0) j t (λe=>?_) (λe=>?_) q4 q2 q3 (.dat (.int j)) (.dat (~~~(bO t)))
 . rw[oD e]at q1;exact List.isEmpty_iff.mp q1.symm
 . rw[mP e]at q1;intro e2;rw[e2]at q1;cases q1
def rfB(rn:Rn)(k:Nat)(C:Nat)(c:Int):Bool:=match rn.b [] k (WL.body.drop 2) ((List.replicate WL.n .no).set 1 (.dat (.lg C)))with
 |some (.rt r,g3)=>(match cW [] g3 r with |some (.new [.int c'])=>decide (c'=c) |_=>false)
 |_=>false
theorem Jp{rn:Rn}{k C:Nat}{c:Int}(h:rfB rn k C c=true):Jh rn k C c:=by
 unfold rfB at h;split at h
 .
  rename_i r g3 e;split at h
  . rename_i c' e2;rw[kA h]at e2;exact⟨r,g3,e,e2⟩
  . cases h
 . cases h
theorem V6:Fk (run fns) 0 0:=by
 refine⟨λj h=>?_,λj h t ht=>?_,λj h=>?_,λj h=>?_,λq hq j h=>?_,λq hq j h t ht=>?_,λm h=>?_,a15,a27,λj h t ht=>?_,λj h t ht=>?_,Jp (by decide +kernel),Jp (by decide +kernel)⟩
 . exact lY (eP.mp a18 j (yV h))
 . have:=a19 j h t ht;simp only[Eb,dS]at this;exact uA this.1.1.1
 . have:=eP.mp a20 j (yV h);simp only[dS]at this;exact lY this.1
 . have:=eP.mp a20 j (yV h);simp only[dS]at this;exact lY this.2
 .
  have:=eP.mp a8 j (yV h);simp only[dS]at this;simp only[d5,i7,t8]at hq;rcases hq with rfl |rfl |rfl
  . exact lY this.1.1
  . exact lY this.1.2
  . exact lY this.2
 .
  have:=a19 j h t ht;simp only[Eb,dS]at this;simp only[d5,i7,t8]at hq;rcases hq with rfl |rfl |rfl
  . exact uA this.1.1.2
  . exact uA this.1.2
  . exact uA this.2
 . exact V5 (eP.mp a3 m (An.mpr (by omega)))
 . exact V4 (eP.mp (eP.mp a28 j (by simp only[d5,i7,t8];omega)) t ht)
 . have:=aP j h t ht;simp only[kP,kS,dS,eR]at this;exact this.1.1.1.1.1.1
def kk:Nat:=13
def fuel:Nat:=131
theorem hev(ns:List Int)(hl:ns.length<=63):∃g',(run fns fuel).b [] kk Qn.body (dG 13 [.dat (.fix (ns.map .int))])=some (.rt (.dat (.bl true)),g'):=whole (uo fns) V6 ns hl
end bu
namespace Ev
open L2
def Z3:Value->Bool
 |.str _ _=>true
 |_=>false
def O4:Value->Bool
 |.int _ _=>true
 |_=>false
def Qu:Value->Bool
 |.bool _=>true
 |_=>false
noncomputable def O5(n:String):Value->Bool
 |.type m=>decide (m=n)
 |_=>false
noncomputable def V7(q:Addr):Option Value->Bool
 |some (.ref p)=>decide (p=q)
 |_=>false
theorem uB{n:String}{v:Value}(h:O5 n v=true):v=.type n:=by
 unfold O5 at h;split at h
 . rw[kA h]
 . cases h
theorem O6{q:Addr}{v:Option Value}(h:V7 q v=true):v=some (.ref q):=by
 unfold V7 at h;split at h
 . rw[kA h]
 . cases h
def codeOk(K:Frag)(c q:Addr):Bool:=match K.lookup c with
 |some o=>(match o.data with
  |.fields vs=>O5 "code" o.cls&&V7 q vs[11]?&&Z3 (vs.getD 18 .none)&&O4 (vs.getD 7 .none)&&Qu (vs.getD 9 .none)&&O4 (vs.getD 10 .none)&&decide (c≠q)
  |_=>false)
 |none=>false
theorem su{K:Frag}{h:Heap}{c q:Addr}(X:K.In h)(e:codeOk K c q=true):PySem.W.CodeHd h c q/\∃o vs,h.get? c=some o/\o.cls=.type "code" /\o.data=.fields vs/\vs[11]?=some (.ref q):=by
 unfold codeOk at e;split at e
 .
  rename_i o ho;split at e
  .
   rename_i vs hv;simp only[dS,eR]at e;obtain⟨⟨⟨⟨⟨⟨e1,e2⟩,e3⟩,e4⟩,e5⟩,e6⟩,e7⟩:=e;have r:=O6 e2;have d:vs.getD 11 .none=.ref q:=by rw[w9,r];rfl
   unfold Z3 at e3;split at e3
   .
    rename_i file tf h3;unfold O4 at e4;split at e4
    .
     rename_i fl tg h4;unfold Qu at e5;split at e5
     .
      rename_i b h5;unfold O4 at e6;split at e6
      . rename_i tx tt h6;exact⟨⟨o,vs,file,tf,fl,tg,b,tx,tt,X _ _ ho,uB e1,hv,r,d,h3,h4,h5,h6,e7⟩,o,vs,X _ _ ho,uB e1,hv,r⟩
      . cases e6
     . cases e5
    . cases e4
   . cases e3
  . cases e
 . cases e
def Jq(K:Frag)(c:Addr):Bool:=K.all λp=>decide (p.1=c)||!PySem.W.codeIn [p] (.ref p.1) "law"
theorem lookup_mem{β:Type}:∀{l:List (Addr×β)}{a:Addr}{b:β},l.lookup a=some b->(a,b)∈l
 | [],_,_,h=>by cases h
 | (x,y)::l,a,b,h=>by
  rw[pE]at h;by_cases e:a=x
  . subst e;simp at h;subst h;exact dL
  .
   have:(a==x)=false:=by simpa using e
   rw[this]at h;exact dA _ (lookup_mem h)
noncomputable def V8(K:Frag)(bm q:Addr):Bool:=match K.lookup bm with
 |some ⟨c,some d,.plain,_⟩=>O5 "module" c&&decide (d=builtinsNs)&&decide (bm≠builtinsNs)&&decide (bm≠mainGlobals)&&decide (bm≠q)
 |_=>false
theorem V9{K:Frag}{mg:Str->Option Value}{h:Heap}{c q bm:Addr}(X:K.In h)(G:h.Ns mainGlobals mg)(e1:Jq K c=true)(e2:codeOk K c q=true)(e3:cF K=[(q,jd)])(e4:PySem.W.nsIn K mainGlobals "__builtins__"=some (some (.ref bm)))(e5:V8 K bm q=true)(e6:mainGlobals≠q) :
  ∀bE,PySem.W.codeIn K bE "law"=true->Hy K mg bE:=λbE hc=>by
 cases bE with
 |ref c'=>
  cases hl:K.lookup c' with
  |none=>unfold PySem.W.codeIn at hc;simp only[hl]at hc;cases hc
  |some o=>
   have hm:=lookup_mem hl;have e0:PySem.W.codeIn [(c',o)] (.ref c') "law"=PySem.W.codeIn K (.ref c') "law" :=by
    have h1:List.lookup c' [(c',o)]=some o:=by simp
    unfold PySem.W.codeIn;simp only[hl,h1]
   have ec:c'=c:=by have:=eP.mp e1 _ hm;dsimp only at this;rw[e0,hc]at this;simpa using this
   subst ec;refine⟨c',q,rfl,λb hb=>(su hb e2).1,by rw[e3];exact dL,λb hb=>?_,e6⟩
   unfold V8 at e5;split at e5
   . rename_i cc d sl hb2;simp only[dS,eR]at e5;obtain⟨⟨⟨⟨f1,f2⟩,f3⟩,f4⟩,f5⟩:=e5;exact⟨bm,_,B9 X G e4,f3,f4,f5,hb _ _ hb2,uB f1,by rw[f2],rfl⟩
   . cases e5
 |_=>cases hc
theorem wV{q:Addr}{K:Params->Frag}{w:World}{h:Heap}(e:(K w.params).lookup q=none)(Y:PySem.W.InK (qJ q K) w h):(K w.params).In h:=λa o ho=>by
 refine Y a o ?_;show List.lookup a ((q,_)::K w.params)=_;rw[pE];have:(a==q)=false:=by
  by_cases z:a=q
  . rw[z,e]at ho;cases ho
  . simpa using z
 rw[this];exact ho
theorem Ds{c q:Addr}{K:Params->Frag}{w:World}{h:Heap}(e:(K w.params).lookup q=none)(e2:codeOk (K w.params) c q=true)(Y:PySem.W.InK (qJ q K) w h):∀p∈[q],(∃c,h.TableAt c p #[])/\(K w.params).lookup p=none:=λp hp=>by
 cases i6.mp hp;refine⟨⟨c,(su (wV e Y) e2).2,Y _ _ ?_⟩,e⟩;show List.lookup q ((q,_)::K w.params)=_;simp
theorem Jr{l:PySem.W.OpenLaw}{n k:Nat}{q:Program}{loose:List Str}{XP:(Str->Option Value)->Heap->Prop}{YP:World->Heap->Prop}{d:DefRec}{K:Params->Frag}{CX:Be}{sp:Frag->Sp}{x:Str}{T:List Addr}
  (hn:l.most=some n) (hn2:n<=sizeLine) (fX:d.params.defaults=[]) (hr:bQ k callerA)
  (hY:∀(w:World) (h:Heap),YP w h->(K w.params).In h) (hT:∀(w:World) (h:Heap),YP w h->∀q∈T,(∃c,h.TableAt c q #[])/\(K w.params).lookup q=none)
  (F:∀(w:World) (mg:Str->Option Value) (fa:Addr) (h:Heap),(K w.params).In h->h.Ns mainGlobals mg->mg d.name=some (.ref fa)->
   ∃fd:FuncData,(∀(s:Shared) (u:Value),BindsTo s fd ⟨[u],[]⟩ [(x,u)])/\
    ∀base:Heap,(K w.params).In base->base.Ns mainGlobals mg->iT l.prog w (K w.params) mg base CX k fa fd [x] (sp (K w.params)))
  (Wh:∀(w:World) (H:Hp) (a:Addr) (ns:List Int),ns.length<=n->zJ T H->bN (K w.params) H a (ns.map V.int)->sp (K w.params) [.ref a] H (λv _=>v=.bl true) λ_ _ _=>False)
  (hCX:∀(H:Hp) (s:Shared) (e:Value) (s':Shared),CX [] H s (λ_ _ _=>False) e s'->False) :
  PySem.W.WalkO q loose XP YP l.row.toRowW d [] (λf vs=>PySem.call f vs):=by
 refine Att.u5 hn fX λw s₀ s₁ mg mb fa o pm cd doc a vs ns G Y ho hd bH hmg hobj hints aL hg=>?_
 have KX:=hY w _ Y;obtain⟨fd,hb,hF⟩:=F w mg fa _ KX G.T.g hmg;exact Cq KX (hT w _ Y) G.T.g G.T.b G.T.builtins G.T.nolimit hg hobj hints (qS aL hn2) hr hF hb (λH hO hS=>Wh w H a ns aL hO hS) λH e s'=>hCX H s₁ e s'
noncomputable def kitF(K:Frag)(C:Addr):Bool:=["int", "bool", "str", "tuple", "list", "dict"].all λn=>decide (PySem.W.kitOne K (.ref C) (.type n)=some false)
theorem Js{K:Frag}{C:Addr}(h1:PySem.W.findIn K (.ref C) "__getattribute__"=some (some (.builtin "BaseException.__getattribute__")))(h8:PySem.W.findIn K (.ref C) "__getattr__"=some none)(h9:PySem.W.mroIn K C (.type "BaseException")=some true)(h2:PySem.W.hasDictIn K C=true)(h3:PySem.W.findIn K (.ref C) "__class__"=some (some (.builtin "object.__class__")))(h4:PySem.W.specialIn K (.builtin "object.__class__") "__get__"=some (some (.builtin "getset_descriptor.__get__")))(h5:PySem.W.takesIn K (.builtin "object.__class__")=some true)(h6:PySem.W.mroIn K C (.type "object")=some true)(h7:kitF K C=true):Fp K C:=
 ⟨h1,h8,h9,h2,h3,h4,h5,h6,λn hn=>kA (eP.mp h7 n hn)⟩
noncomputable def jM(K:Frag)(cv:Value)(l:List (Addr×Bool)):Bool:=decide (PySem.W.kitOne K (.type "NoneType") cv=some false)&&l.all λp=>decide (PySem.W.kitOne K (.ref p.1) cv=some p.2)
theorem dm{P:Pg}{K:Frag}{mg:Str->Option Value}{h:Heap}{x:Str}{l:List (Addr×Bool)}{D:Addr}(X:K.In h)(G:h.Ns mainGlobals mg)(e1:(x==("__debug__":Str))=false)(e2:PySem.W.nsIn K mainGlobals x=some (some (.ref D)))(e3:jM K (.ref D) l=true) :
  (x==("__debug__":Str))=false/\∃cv,((mg x=some cv/\∃D,cv=.ref D)\/(x∈P.bn/\x≠ "__name__" /\bootBuiltins x=some cv/\∃n,cv=.type n))/\PySem.W.kitOne K (.type "NoneType") cv=some false/\∀C b,l.lookup C=some b->PySem.W.kitOne K (.ref C) cv=some b:=by
 unfold jM at e3;rw[dS]at e3;exact⟨e1,.ref D,.inl ⟨B9 X G e2,D,rfl⟩,kA e3.1,λC b hl=>kA (eP.mp e3.2 _ (lookup_mem hl))⟩
theorem Ju{P:Pg}{K:Frag}{mg:Str->Option Value}{x:Str}{l:List (Addr×Bool)}{n:String}(e1:(x==("__debug__":Str))=false)(e2:x∈P.bn)(e4:x≠ "__name__")(e5:bootBuiltins x=some (.type n))(e3:jM K (.type n) l=true) :
  (x==("__debug__":Str))=false/\∃cv,((mg x=some cv/\∃D,cv=.ref D)\/(x∈P.bn/\x≠ "__name__" /\bootBuiltins x=some cv/\∃n,cv=.type n))/\PySem.W.kitOne K (.type "NoneType") cv=some false/\∀C b,l.lookup C=some b->PySem.W.kitOne K (.ref C) cv=some b:=by
 unfold jM at e3;rw[dS]at e3;exact⟨e1,.type n,.inr ⟨e2,e4,e5,n,rfl⟩,kA e3.1,λC b hl=>kA (eP.mp e3.2 _ (lookup_mem hl))⟩
theorem Z4{P:Pg}{K:Frag}{mg:Str->Option Value}(h1:∀bE,PySem.W.codeIn K bE "law"=true->Hy K mg bE)(h2:All (λp:Str×Addr=>mg p.1=some (.ref p.2)/\eS K p.2/\Fp K p.2) (P.cls.zip P.gU))(hl:P.gU.length<=P.cls.length)
  (h3:(P.kt==("__debug__":Str))=false/\∃D,mg P.kt=some (.ref D)/\eS K D/\All (λC=>tQ K C D=true) P.gU)
  (h4:All (λp:Str×List (Addr×Bool)=>(p.1==("__debug__":Str))=false/\∃cv,((mg p.1=some cv/\∃D,cv=.ref D)\/(p.1∈P.bn/\p.1≠ "__name__" /\bootBuiltins p.1=some cv/\∃n,cv=.type n))/\PySem.W.kitOne K (.type "NoneType") cv=some false/\∀C b,p.2.lookup C=some b->PySem.W.kitOne K (.ref C) cv=some b) P.ups):Vj P K mg:=
 ⟨λ_=>h1,λi C e=>by
  have hi:i<P.gU.length:=(dC.mp e).1;have hi2:i<P.cls.length:=by lia
  refine⟨P.cls[i],tJ hi2,?_⟩;have:=h2.mem (P.cls[i],C) (l6 (i:=i) (by rw[List.getElem?_zip_eq_some];exact⟨tJ hi2,e⟩))
  exact this,λ_=>let ⟨a,D,b,c,d⟩:=h3;⟨a,D,b,c,λC hC=>d.mem C hC⟩,λx l h=>h4.mem (x,l) h⟩
end Ev
namespace bu
open L2 Ev
def f0:Fi:=cL (st 13)
def f1:Fi:=cL (st 14)
def f2:Fi:=cL (st 15)
def f3:Fi:=cL (st 16)
def f4:Fi:=cL (st 19)
def f5:Fi:=cL (st 20)
def f6:Fi:=cL (st 21)
def f7:Fi:=cL (st 23)
def f8:Fi:=cL (st 24)
def f9:Fi:=cL (st 25)
def f10:Fi:=cL (st 26)
def f11:Fi:=cL (st 28)
def f12:Fi:=cL (st 29)
def WT:Fi:=cL (st 30)
def f14:Fi:=cL (st 31)
def f15:Fi:=cL (st 32)
def f16:Fi:=cL (st 34)
def f17:Fi:=cL (st 35)
def WQ:Fi:=cL (st 36)
def WR:Fi:=cL (st 37)
def f20:Fi:=cL (st 38)
def f21:Fi:=cL (st 39)
def f22:Fi:=cL (st 40)
def f23:Fi:=cL (st 41)
def f24:Fi:=cL (st 42)
def f25:Fi:=cL (st 43)
def f26:Fi:=cL (st 44)
def f27:Fi:=cL (st 45)
def f28:Fi:=cL (st 46)
def W2:Fi:=cL (st 47)
noncomputable def ups:List (Str×List (Addr×Bool)):=[("NoWeb",[(49,false),(73,false)]),("NoNumber",[(49,true),(73,false)]),("NoTurn",[(49,false),(73,false)]),("NoKind",[(49,false),(73,true)]),("NoPlace",[(49,false),(73,false)]),("NoTie",[(49,false),(73,false)]),("NoText",[(49,false),(73,false)]),("NoLine",[(49,false),(73,false)]),("NoDeed",[(49,false),(73,false)]),("TooGreat",[(49,false),(73,false)]),("ValueError",[(49,true),(73,true)])]
def P:Pg:=⟨[f0,f1,f2,f3,f4,f5,f6,f7,f8,f9,f10,f11,f12,WT,f14,f15,f16,f17,WQ,WR,f20,f21,f22,f23,f24,f25,f26,f27,f28,W2],[("MOST_NAMES",.int 9)],["ValueError", "all", "bool", "int", "isinstance", "len", "list", "max", "min", "range", "sorted", "sum", "tuple", "zip"],["NoNumber", "NoKind"],true,[49,73], "KindError",ups⟩
theorem Wa:Ih P P.fn fns=true:=by decide +kernel
theorem fns_eq:List.zipWith (zZ P) P.fn fns=P.fn.map (λfi=>bB fi.st):=by kernel_rfl
theorem nLaw:W2.N.length=13:=rfl
theorem hevF:∀ns:List Int,ns.length<=63->∃g',(run fns fuel).b [] kk Qn.body (dG W2.N.length [.dat (.fix (ns.map .int))])=some (.rt (.dat (.bl true)),g'):=by rw[nLaw];exact hev
theorem Aq(P:Params):cF (K P)=[(nat_lit 333,jd)]:=by kernel_rfl
theorem Jv(P:Params):(K P).lookup (nat_lit 333)=none:=by kernel_rfl
theorem Ar(P:Params):codeOk (K P) (nat_lit 335) (nat_lit 333)=true:=by kernel_rfl
theorem O7(P:Params):Jq (K P) (nat_lit 335)=true:=by kernel_rfl
theorem Z5(P:Params):V8 (K P) (nat_lit 4) (nat_lit 333)=true:=by kernel_rfl
theorem wW(P:Params):Fp (K P) (nat_lit 49):=Js (by kernel_rfl) (by kernel_rfl) (by kernel_rfl) (by kernel_rfl) (by kernel_rfl) (by kernel_rfl) (by kernel_rfl) (by kernel_rfl) (by kernel_rfl)
theorem mQ(P:Params):eS (K P) (nat_lit 49):=by kernel_rfl
theorem wX(P:Params):tQ (K P) (nat_lit 49) (nat_lit 24)=true:=by kernel_rfl
theorem Dt(P:Params):Fp (K P) (nat_lit 73):=Js (by kernel_rfl) (by kernel_rfl) (by kernel_rfl) (by kernel_rfl) (by kernel_rfl) (by kernel_rfl) (by kernel_rfl) (by kernel_rfl) (by kernel_rfl)
theorem sy(P:Params):eS (K P) (nat_lit 73):=by kernel_rfl
theorem Du(P:Params):tQ (K P) (nat_lit 73) (nat_lit 24)=true:=by kernel_rfl
theorem uC(P:Params):eS (K P) (nat_lit 24):=by kernel_rfl
theorem Jw(P:Params):jM (K P) (.ref (nat_lit 37)) [(49,false),(73,false)]=true:=by kernel_rfl
theorem wY(P:Params):jM (K P) (.ref (nat_lit 49)) [(49,true),(73,false)]=true:=by kernel_rfl
theorem Dw(P:Params):jM (K P) (.ref (nat_lit 61)) [(49,false),(73,false)]=true:=by kernel_rfl
theorem Dy(P:Params):jM (K P) (.ref (nat_lit 73)) [(49,false),(73,true)]=true:=by kernel_rfl
theorem yW(P:Params):jM (K P) (.ref (nat_lit 85)) [(49,false),(73,false)]=true:=by kernel_rfl
theorem Jx(P:Params):jM (K P) (.ref (nat_lit 97)) [(49,false),(73,false)]=true:=by kernel_rfl
theorem Dz(P:Params):jM (K P) (.ref (nat_lit 109)) [(49,false),(73,false)]=true:=by kernel_rfl
theorem DG(P:Params):jM (K P) (.ref (nat_lit 121)) [(49,false),(73,false)]=true:=by kernel_rfl
theorem DK(P:Params):jM (K P) (.ref (nat_lit 133)) [(49,false),(73,false)]=true:=by kernel_rfl
theorem wZ(P:Params):jM (K P) (.ref (nat_lit 152)) [(49,false),(73,false)]=true:=by kernel_rfl
theorem qH(P:Params):jM (K P) (.type "ValueError") [(49,true),(73,true)]=true:=by kernel_rfl
end bu
open PySem PySem.W PyProof.Rows
set_option maxHeartbeats 0 in
theorem PySem.Challenge.cw_websbykind_k11_webs_that_stand_holds : PySem.Challenge.rw_websbykind_k11_webs_that_stand.Holds := by
 w_on
 refine PySem.W.holds_law (by decide +kernel) λsaid=>?_
 refine PySem.W.holds_open (q:=bu.qv) (loose:=[]) (Xt:=λs=>xlAt bu.qv [] s&&recOk (OpenRow.toRowW PySem.Challenge.rw_websbykind_k11_webs_that_stand.row).records s) (XP:=XL bu.qv []) (Yf:=λs=>bu.as2.map s.heap.get?) (Ya:=λw=>(Ev.qJ 333 bu.K w.params).map λp:Nat×Obj=>some p.2) (YP:=InK (Ev.qJ 333 bu.K)) (N:=8000) bu.hl (InK.of bu.W4) InK.keeps (λs e=>xl_of s (Bool.and_eq_true_iff.mp e).1) XL.keeps (by rfl) (by rfl) (by rfl) (λs e=>recFacts_of (Bool.and_eq_true_iff.mp e).2) (by rfl) (by first |assumption |decide +kernel) (by decide +kernel) ⟨rfl,rfl,rfl,rfl,rfl,by decide +kernel⟩ ?hw ?hc
 (case hw=>w_witness2)
 k_fill
 refine Ev.Jr (l:=PySem.Challenge.rw_websbykind_k11_webs_that_stand) (n:=63) (k:=bu.kk+1) (x:= "_law_script") (CX:=L2.uI) (K:=bu.K) (T:=[333]) (sp:=λK=>Ev.Lf K bu.W2.N 1 λbor g r g'=>(Ev.run bu.fns bu.fuel).b bor bu.kk bu.Qn.body g=some (.rt r,g')) rfl ⋯ rfl ⟨rfl,by decide,by decide⟩ (λw h Y=>Ev.wV (bu.Jv _) Y) (λw h Y=>Ev.Ds (bu.Jv _) (bu.Ar _) Y) ?F ?S ?C
 case F=>
  intro w mg fa h KX G hmg
  have mm:Ev.cz (L2.KOf KX) mg bu.f0/\Ev.cz (L2.KOf KX) mg bu.f1/\Ev.cz (L2.KOf KX) mg bu.f2/\Ev.cz (L2.KOf KX) mg bu.f3/\Ev.cz (L2.KOf KX) mg bu.f4/\Ev.cz (L2.KOf KX) mg bu.f5/\Ev.cz (L2.KOf KX) mg bu.f6/\Ev.cz (L2.KOf KX) mg bu.f7/\Ev.cz (L2.KOf KX) mg bu.f8/\Ev.cz (L2.KOf KX) mg bu.f9/\Ev.cz (L2.KOf KX) mg bu.f10/\Ev.cz (L2.KOf KX) mg bu.f11/\Ev.cz (L2.KOf KX) mg bu.f12/\Ev.cz (L2.KOf KX) mg bu.WT/\Ev.cz (L2.KOf KX) mg bu.f14/\Ev.cz (L2.KOf KX) mg bu.f15/\Ev.cz (L2.KOf KX) mg bu.f16/\Ev.cz (L2.KOf KX) mg bu.f17/\Ev.cz (L2.KOf KX) mg bu.WQ/\Ev.cz (L2.KOf KX) mg bu.WR/\Ev.cz (L2.KOf KX) mg bu.f20/\Ev.cz (L2.KOf KX) mg bu.f21/\Ev.cz (L2.KOf KX) mg bu.f22/\Ev.cz (L2.KOf KX) mg bu.f23/\Ev.cz (L2.KOf KX) mg bu.f24/\Ev.cz (L2.KOf KX) mg bu.f25/\Ev.cz (L2.KOf KX) mg bu.f26/\Ev.cz (L2.KOf KX) mg bu.f27/\Ev.cz (L2.KOf KX) mg bu.f28/\Ev.cz (L2.KOf KX) mg bu.W2:=by
   refine⟨?_,?_,?_,?_,?_,?_,?_,?_,?_,?_,?_,?_,?_,?_,?_,?_,?_,?_,?_,?_,?_,?_,?_,?_,?_,?_,?_,?_,?_,?_⟩ <;> (
    dsimp only[L2.KOf]
    exact Ev.Zu (by assumption) (by assumption) (by k_is) (by k_is) (by k_is) (by k_is) ⟨rfl,rfl,rfl,by decide +kernel,by decide +kernel,by decide +kernel,by decide +kernel⟩ (λ_ _ _ _ _ _ us hl=>by first | (obtain⟨_,e⟩:=Ev.Zv hl;subst e;rfl) | (obtain⟨_,_,e⟩:=Ev.Zw hl;subst e;rfl) | (obtain⟨_,_,_,e⟩:=Ev.len3 hl;subst e;rfl) | (obtain⟨_,_,_,_,e⟩:=Ev.len4 hl;subst e;rfl)) ⋯)
  obtain⟨m0,m1,m2,m3,m4,m5,m6,m7,m8,m9,m10,m11,m12,m13,m14,m15,m16,m17,m18,m19,m20,m21,m22,m23,m24,m25,m26,m27,m28,m29⟩:=mm
  have uD:Ev.Vi (L2.KOf KX) mg ("MOST_NAMES",.int 9):=by
   dsimp only[L2.KOf]
   refine' Ev.Vk KX G ?a ⋯
   (case a=>k_is)
  have uE:mg "ValueError"=none:=mg_none_of KX G (by k_is)
  have Z6:mg "all"=none:=mg_none_of KX G (by k_is)
  have Wb:mg "bool"=none:=mg_none_of KX G (by k_is)
  have Z7:mg "int"=none:=mg_none_of KX G (by k_is)
  have uF:mg "isinstance"=none:=mg_none_of KX G (by k_is)
  have Z8:mg "len"=none:=mg_none_of KX G (by k_is)
  have Wc:mg "list"=none:=mg_none_of KX G (by k_is)
  have Z9:mg "max"=none:=mg_none_of KX G (by k_is)
  have aac:mg "min"=none:=mg_none_of KX G (by k_is)
  have O8:mg "range"=none:=mg_none_of KX G (by k_is)
  have Jy:mg "sorted"=none:=mg_none_of KX G (by k_is)
  have aad:mg "sum"=none:=mg_none_of KX G (by k_is)
  have O9:mg "tuple"=none:=mg_none_of KX G (by k_is)
  have aae:mg "zip"=none:=mg_none_of KX G (by k_is)
  have jN:PySem.W.nsIn (L2.KOf KX) mainGlobals "NoNumber"=some (some (.ref 49)):=by dsimp only[L2.KOf];k_is
  have qg:PySem.W.nsIn (L2.KOf KX) mainGlobals "NoKind"=some (some (.ref 73)):=by dsimp only[L2.KOf];k_is
  have xg:PySem.W.nsIn (L2.KOf KX) mainGlobals "KindError"=some (some (.ref 24)):=by dsimp only[L2.KOf];k_is
  have Pa:PySem.W.nsIn (L2.KOf KX) mainGlobals "NoWeb"=some (some (.ref 37)):=by dsimp only[L2.KOf];k_is
  have Jz:PySem.W.nsIn (L2.KOf KX) mainGlobals "NoTurn"=some (some (.ref 61)):=by dsimp only[L2.KOf];k_is
  have DN:PySem.W.nsIn (L2.KOf KX) mainGlobals "NoPlace"=some (some (.ref 85)):=by dsimp only[L2.KOf];k_is
  have Pb:PySem.W.nsIn (L2.KOf KX) mainGlobals "NoTie"=some (some (.ref 97)):=by dsimp only[L2.KOf];k_is
  have JB:PySem.W.nsIn (L2.KOf KX) mainGlobals "NoText"=some (some (.ref 109)):=by dsimp only[L2.KOf];k_is
  have JC:PySem.W.nsIn (L2.KOf KX) mainGlobals "NoLine"=some (some (.ref 121)):=by dsimp only[L2.KOf];k_is
  have JD:PySem.W.nsIn (L2.KOf KX) mainGlobals "NoDeed"=some (some (.ref 133)):=by dsimp only[L2.KOf];k_is
  have yX:PySem.W.nsIn (L2.KOf KX) mainGlobals "TooGreat"=some (some (.ref 152)):=by dsimp only[L2.KOf];k_is
  have n_b:PySem.W.nsIn (L2.KOf KX) mainGlobals "__builtins__"=some (some (.ref 4)):=by dsimp only[L2.KOf];k_is
  have lm:Ev.Vj bu.P (L2.KOf KX) mg:=Ev.Z4 (Ev.V9 KX G (bu.O7 _) (bu.Ar _) (bu.Aq _) n_b (bu.Z5 _) ⋯) (.cons ⟨mg_of KX G jN,bu.mQ _,bu.wW _⟩ (.cons ⟨mg_of KX G qg,bu.sy _,bu.Dt _⟩ .nil)) ⋯ ⟨by decide,24,mg_of KX G xg,bu.uC _,(.cons (bu.wX _) (.cons (bu.Du _) .nil))⟩ (.cons (Ev.dm KX G ⋯ Pa (bu.Jw _)) (.cons (Ev.dm KX G ⋯ jN (bu.wY _)) (.cons (Ev.dm KX G ⋯ Jz (bu.Dw _)) (.cons (Ev.dm KX G ⋯ qg (bu.Dy _)) (.cons (Ev.dm KX G ⋯ DN (bu.yW _)) (.cons (Ev.dm KX G ⋯ Pb (bu.Jx _)) (.cons (Ev.dm KX G ⋯ JB (bu.Dz _)) (.cons (Ev.dm KX G ⋯ JC (bu.DG _)) (.cons (Ev.dm KX G ⋯ JD (bu.DK _)) (.cons (Ev.dm KX G ⋯ yX (bu.wZ _)) (.cons (Ev.Ju ⋯ ⋯ ⋯ rfl (bu.qH _)) .nil)))))))))))
  have md:Ev.tV bu.P (L2.KOf KX) mg:=Ev.Zt (.cons m0 (.cons m1 (.cons m2 (.cons m3 (.cons m4 (.cons m5 (.cons m6 (.cons m7 (.cons m8 (.cons m9 (.cons m10 (.cons m11 (.cons m12 (.cons m13 (.cons m14 (.cons m15 (.cons m16 (.cons m17 (.cons m18 (.cons m19 (.cons m20 (.cons m21 (.cons m22 (.cons m23 (.cons m24 (.cons m25 (.cons m26 (.cons m27 (.cons m28 (.cons m29 .nil)))))))))))))))))))))))))))))) (.cons uD .nil) (.cons uE (.cons Z6 (.cons Wb (.cons Z7 (.cons uF (.cons Z8 (.cons Wc (.cons Z9 (.cons aac (.cons O8 (.cons Jy (.cons aad (.cons O9 (.cons aae .nil)))))))))))))) (.cons (Ev.Qj KX G jN (bu.mQ _) ⋯) (.cons (Ev.Qj KX G qg (bu.sy _) ⋯) .nil)) lm
  exact Ev.Ig (Ev.Vo bu.Wa bu.fns_eq) md (i:=29) (fi:=bu.W2) rfl rfl rfl m29 hmg
 case S=>exact λw H a ns hl hO hS=>Ev.Vm bu.hevF (bu.K w.params) H a ns hl (by rw[bu.Aq];exact hO) hS
 case C=>exact λ_ _ _ _ z=>z
