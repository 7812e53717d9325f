import PyProof.Rows.All
import Wide.All
import OpenK.AllK
import Wide.FinOn
import Lean
import PyProof.EqAt
import PyProof.EqKinds
import PyProof.TupleCall
import PySem.Challenge.RW_websbykind_k88_marked_webs_counted
set_option Elab.async false
set_option linter.all false
set_option compiler.extract_closed false
set_option bootstrap.genMatcherCode false
set_option genSizeOf false
set_option maxHeartbeats 4000000
set_option maxRecDepth 100000
set_option autoImplicit true
open PySem PySem.Spec PyProof.Rows
open PySem.W (Frag)
noncomputable section
local macro_rules|`(!$x)=>`(some $x)
local macro_rules|`(#[$x,*])=>`(⟨$x,*⟩)
local macro_rules | `(⋯)=>`(by first |decide |lia |simp)
local macro_rules | `($x⁻¹)=>`(($x).heap.objs.size)
local macro_rules|`(⇑$x)=>`((.slot $x))
local macro_rules|`(↥$x)=>`((.val (.int $x)))
local macro_rules|`(‹$x›)=>`((.dat (.int $x)))
set_option hygiene false in
local macro_rules|`(~~~5)=>`(List (List Int))
local macro_rules|`(~~~0)=>`(List Int)
set_option hygiene false in
local macro_rules|`(~~~1)=>`(List (Addr×Obj))
set_option hygiene false in
local macro_rules|`(~~~2)=>`(model X.prog X.w)
local macro_rules|`(~~~3)=>`(("__debug__":Str))
set_option hygiene false in
local macro_rules|`(~~~7)=>`(Inv X ah Y H s)
set_option hygiene false in
local macro_rules|`(tactic|symm)=>`(tactic|cases h)
abbrev aS:=@PySem.wpAny_bind
abbrev a8:=@PySem.wpAny_pure
abbrev a9:=@PySem.Heap.get?_push_of_some
abbrev bP:=@List.mem_cons_of_mem
abbrev b0:=@List.mem_cons_self
abbrev b8:=@List.size_toArray
abbrev c8:=@List.getElem?_eq_some_iff
abbrev dA:=@Bool.and_eq_true
abbrev dC:=@PySem.Heap.get?_push_size
abbrev dE:=@Nat.le_refl
abbrev dL:=@List.mem_cons
abbrev dS:=@PySem.Heap.lt_size
abbrev eA:=@List.length_map
abbrev eC:=@List.all_eq_true
abbrev eD:=@List.getElem?_append_left
abbrev eI:=@List.getElem?_set_ne
abbrev eJ:=@Option.bind_eq_some_iff
abbrev eM:=@Nat.lt_of_lt_of_le
abbrev eP:=@List.length_append
abbrev eQ:=@decide_eq_true_eq
abbrev eR:=@List.getElem?_append_right
abbrev fA:=@Nat.ne_of_lt
abbrev fI:=@PySem.Heap.get?_update_other
abbrev fN:=@if_neg
abbrev fR:=@List.nodup_cons
abbrev gL:=@List.length_cons
abbrev gN:=@List.mem_append_right
abbrev hU:=@PySem.wpAny_holding
abbrev hV:=@if_pos
abbrev hZ:=@List.mem_of_getElem?
abbrev i3:=@List.getElem?_set_self
abbrev i4:=@of_decide_eq_true
abbrev i5:=@List.mem_map
abbrev i6:=@List.getD_eq_getElem?_getD
abbrev i7:=@PySem.wpAny_mono
abbrev i8:=@Array.length_toList
abbrev i9:=@PySem.Heap.get?_update_self
abbrev kA:=@List.not_mem_nil
abbrev kS:=@decide_eq_true
abbrev lL:=@List.mem_filter
abbrev lS:=@PySem.wpAny_newObj_type
abbrev mB:=@List.length_replicate
abbrev mE:=@PySem.wpAny_call_entry
abbrev mI:=@Option.some.inj
abbrev mM:=@Bool.false_ne_true
abbrev mP:=@List.mem_singleton
abbrev nE:=@PySem.Obj.data_mapFields
abbrev nK:=@decide_eq_false
abbrev nN:=@Nat.lt_irrefl
abbrev nS:=@List.getElem?_eq_getElem
abbrev nV:=@PySem.wpAny_truthy_bool
abbrev n0:=@Nat.le_trans
abbrev n4:=@PySem.wpAny_callSpecial?_slot
abbrev oC:=@PyProof.Rows.callWith_type1
abbrev oD:=@List.append_nil
abbrev oI:=@List.getElem?_map
abbrev oP:=@Bool.false_eq_true
abbrev oQ:=@List.mem_map_of_mem
abbrev o3:=@PySem.wpAny_Call_Name_kw
abbrev o4:=@PySem.Obj.isFreed_of_fields
abbrev o5:=@PySem.Heap.SameBut.update
abbrev o6:=@List.lookup_cons
abbrev pE:=@Nat.lt_succ_self
abbrev pV:=@Array.getElem?_eq_some_iff
abbrev qS:=@PySem.Heap.size_push
abbrev rV:=@Array.getElem?_eq_getElem
abbrev sB:=@Ne.symm
abbrev sK:=@List.getElem?_take_of_lt
abbrev sR:=@PySem.wpAny_setState_of
abbrev sT:=@PySem.wpAny_setField
abbrev tI:=@PySem.sizeLine_eq
abbrev tJ:=@List.zip_cons_cons
abbrev tP:=@Nat.zero_le
abbrev tS:=@PySem.W.kia_one
abbrev t6:=@Nat.add_sub_cancel_left
abbrev t7:=@List.mem_append_left
abbrev t8:=@List.length_take
abbrev t9:=@Option.map_eq_some_iff
abbrev u7:=@PyProof.Rows.slot_tuple_getitem
abbrev u8:=@PySem.wpAny_dictEntries
abbrev vS:=@List.mem_append
abbrev v3:=@List.length_singleton
abbrev v4:=@List.getElem?_eq_none
abbrev v6:=@Nat.not_lt_zero
abbrev wE:=@List.take_append_drop
abbrev wP:=@PySem.codeAny_builtin
abbrev wS:=@Bool.or_eq_true
abbrev wT:=@PySem.wpAny_pyIter_tuple
abbrev w8:=@List.mem_replicate
abbrev w9:=@List.pairwise_cons
abbrev xI:=@PySem.wpAny_field
abbrev xL:=@PySem.wpAny_typeNameOfWhole_keyiter
abbrev yA:=@PySem.F.slot_dict_keyiterator_next
abbrev yB:=@List.mem_range
abbrev yY:=@List.nodup_nil
abbrev y0:=@List.append_assoc
abbrev y3:=@Nat.lt_succ_of_lt
abbrev y4:=@List.filterMap_cons
abbrev y6:=@List.length_nil
abbrev y7:=@List.length_set
abbrev y8:=@List.replicate_succ
abbrev An:=@Array.getD_eq_getD_getElem?
abbrev Ap:=@List.map_congr_left
abbrev At:=@List.map_append
abbrev AA:=@or_false
abbrev AB:=@PySem.F.slot_tuple_iterator_next
abbrev AC:=@PySem.wpAny_askSetting
abbrev AD:=@PySem.wpAny_isInstance
abbrev AE:=@PySem.wpAny_standAt
abbrev AF:=@Array.getElem?_toList
abbrev AG:=@PySem.wpAny_passesOwn
abbrev AH:=@PySem.wpAny_pyIter_list
abbrev AI:=@List.nodup_append
abbrev AJ:=@Int.toNat_natCast
abbrev AK:=@PySem.wpAny_typeNameOf_keyiter
abbrev AL:=@PySem.codeAny_mono
abbrev AM:=@PySem.mem_of_lookup
abbrev AO:=@PySem.plainId_quiet
abbrev AQ:=@List.Perm.refl
abbrev AR:=@Nat.lt_of_succ_lt_succ
abbrev AS:=@Nat.ne_of_gt
abbrev AT:=@Nat.le_succ
abbrev AU:=@Nat.lt_or_ge
abbrev AV:=@Nat.zero_add
abbrev AW:=@List.contains_iff_mem
abbrev AX:=@PySem.Obj.cls_mapFields
abbrev AY:=@Array.perm_iff_toList_perm
abbrev AZ:=@List.getElem?_eq_none_iff
abbrev A3:=@PySem.Calls.call_function_entry
abbrev A4:=@PySem.wpAny_seqItems
abbrev A5:=@PySem.wpAny_execs_cons
abbrev A6:=@PySem.F.args_tuple_add_2
abbrev A7:=@PySem.wpAny_typeOf
abbrev A8:=@PySem.call_meets
abbrev A9:=@PySem.wpAny_rule
abbrev Bi:=@PySem.W.callWith_K
abbrev Bn:=@List.of_mem_zip
abbrev Bz:=@PySem.F.entry_tuple_add
abbrev BA:=@PySem.wpAny_attempt
abbrev BB:=@PySem.F.plainAttrs_list
abbrev BC:=@PySem.wpAny_specialOf
abbrev BD:=@List.nil_append
abbrev BE:=@Nat.lt_of_lt_of_eq
abbrev BF:=@Array.Perm.refl
abbrev BH:=@Bool.not_true
abbrev BI:=@PySem.wpAny_updateSeq
abbrev BM:=@if_false
abbrev BN:=@List.eraseIdx_cons_succ
abbrev BO:=@List.filter_cons_of_neg
abbrev BQ:=@List.filter_cons_of_pos
abbrev BS:=@of_decide_eq_false
abbrev BY:=@List.sum_cons
abbrev B0:=@PySem.W.cellsFrom_some
abbrev B1:=@PySem.F.slot_tuple_add
abbrev B3:=@PySem.W.kitx_list
abbrev B4:=@PySem.W.kitx_dict
abbrev B5:=@Bool.not_eq_true'
abbrev B6:=@List.length_range
abbrev B7:=@PySem.F.slot_list_count
abbrev B8:=@PySem.wpAny_of_eq
abbrev B9:=@PySem.F.plainAttrs_list
abbrev Cc:=@Bool.and_false
abbrev Cf:=@Nat.le_of_lt
abbrev Cn:=@Nat.succ.inj
abbrev CA:=@List.set_append_right
abbrev CB:=@PySem.wpAny_forIn_list
abbrev CC:=@List.take_length
abbrev CD:=@PySem.F.plain_min_loop
abbrev CL:=@List.all_cons
abbrev CM:=@PySem.W.mg_of
abbrev CO:=@Int.mul_assoc
abbrev CS:=@PySem.wpAny_call
abbrev C0:=@Option.map_some
abbrev C4:=@List.find?_cons
abbrev C5:=@PySem.wpAny_letGo
abbrev C7:=@List.getElem_of_mem
abbrev Db:=@PySem.wpAny_Name
theorem nt{p:Prop}(h:false=true):p:=Bool.noConfusion h
namespace L2
def gU(s:Stmt):Arguments:=match s with
 |.FunctionDef _ a _ _ _ _ _ _ _ _=>a
 |_=>{ posonlyargs:=[],args:=[],vararg:=none,kwonlyargs:=[],kw_defaults:=[],kwarg:=none,defaults:=[]}
def bh(s:Stmt):List Stmt:=match s with
 |.FunctionDef _ _ b _ _ _ _ _ _ _=>b
 |_=>[]
def aC(s:Stmt):Scope:=match s with
 |.FunctionDef _ _ _ _ _ _ sc _ _ _=>sc
 |_=>{ kind:=.function,names:=[],isGenerator:=false,isCoroutine:=false}
end L2
namespace Ev
open L2
noncomputable def pX(qs:List Addr)(K:Params->Frag)(P:Params):Frag:=qs.map (λq=>(q,{ cls:=.none,data:=.fields ([].toArray)}))++K P
section
open PySem.W
noncomputable def KD(tb:String->Option Builtin)(p:Program)(w:World)(n₀:Nat)(ann:Option Value):Nat->SharedT->Thread->Option SharedT
 | 0,_,_=>none
 |n+1,s,t=>match through t with
  |true=>!s
  |false=>match stepOk n₀ ann t with
   |false=>none
   |true=>match stepT (denote tb) p w s t with
    |!(s',t')=>KD tb p w n₀ ann n s' t'
    |none=>none
theorem yZ:∀{n:Nat}{s s':SharedT}{t:Thread},KD tb p w n₀ ann n s t=!s'->topRun tb p w n₀ ann n s.abs t=!s'.abs
 | 0,_,_,_,h=>by symm
 |n+1,s,s',t,h=>by
  unfold KD at h;unfold topRun;cases he:through t with
  |true=>rw[he]at h;symm;rfl
  |false=>
   rw[he]at h;cases hk:stepOk n₀ ann t with
   |false=>rw[hk]at h;symm
   |true=>
    rw[hk]at h;cases hs:stepT (denote tb) p w s t with
    |none=>rw[hs]at h;symm
    |some r=>obtain⟨s₂,t₂⟩:=r;rw[hs]at h;rw[stepT_spec hs];exact yZ h
noncomputable def Qz:BT->Nat->List Obj->BT
 |t,_,[]=>t
 |t,n,o::os=>Qz (t.ins n o) (n+1) os
noncomputable def Ek(P:Params):BT:=Qz .nil 0 (boot_heap P).objs.toList
theorem Em(P:Params):absHeap (Ek P) 11 (boot_heap P).life=boot_heap P:=by kernel_rfl
noncomputable abbrev AN (P:Params):Option Value:=(boot_heap P).nsMap mainGlobals "__annotations__"
theorem Ax{p q:Program}{loose:List Str}{Xt:Shared->Bool}{α:Type}{Yf:Shared->α}{Ya:World->α}{N:Nat}{ann:Option Value}
  (e:opening p=plainProg p.main.scope.names) (hN:Nat.ble 600 N=true) (f:∀s,fenceModules? p s=!s) (ha:∀P,AN P=ann)
  (run:∀(w:World) (os:OsState),(KD treeTable p w 11 ann N #[Ek w.params,11,(boot_heap w.params).life,([].toArray),boot_drawn,boot_toks,os] (topStub p)).map (λs=>
   (staticsOk (importedModules p.main.body) (boot_heap w.params) s.abs.heap&&namesBound p s.abs.heap&&gensDone s.abs&&laidKept (boot_heap w.params) s.abs.heap,openSeen q loose (importedModules p.main.body) Xt true s.abs,Yf s.abs))=!(true,openGood q loose,Ya w)):LeftO p q loose Xt Yf Ya N:=λw=>by
 obtain⟨⟨h,gs,d,k,os⟩,e1,e2⟩:=t9.mp (boot_open e hN f w);obtain⟨rfl,rfl,rfl,rfl⟩:h=boot_heap w.params/\gs=Array.mk []/\d=boot_drawn/\k=boot_toks:=by simpa using e2
 obtain⟨s,r1,r2⟩:=t9.mp (run w os);obtain⟨l1,l2,l3⟩:_/\_/\_:=by simpa only[Prod.mk.injEq]using r2
 have r:=yZ r1;unfold openEnds;rw[e1];show (topFrom treeTable p w N _).map _=_;have z0:((boot_heap w.params).isNs mainGlobals&&(Array.mk []:Array GenState).size==0)=true:=by kernel_rfl
 have t:topFrom treeTable p w N #[boot_heap w.params,Array.mk [],boot_drawn,boot_toks,os]=!s.abs:=by
  unfold topFrom;dsimp only;rw[z0];have r':topRun treeTable p w (boot_heap w.params).objs.size ((boot_heap w.params).nsMap mainGlobals "__annotations__") N #[boot_heap w.params,Array.mk [],boot_drawn,boot_toks,os] (topStub p)=!s.abs:=by
   have:=ha w.params;unfold AN at this;rw[this];have z:SharedT.abs #[Ek w.params,11,(boot_heap w.params).life,([].toArray),boot_drawn,boot_toks,os]=#[boot_heap w.params,Array.mk [],boot_drawn,boot_toks,os]:=by unfold SharedT.abs;dsimp only;rw[Em]
   rw[z]at r;exact r
  rw[r'];show (match staticsOk (importedModules p.main.body) (boot_heap w.params) s.abs.heap&&namesBound p s.abs.heap&&gensDone s.abs&&laidKept (boot_heap w.params) s.abs.heap with |true=>_ |false=>_)=_
  rw[l1]
 rw[t];exact congrArg some (Prod.ext l2 l3)
theorem Yo(P:Params):AN P=!(.ref 6):=by kernel_rfl
end
end Ev
namespace cE
open L2 Ev
def st(j:Nat):Stmt:=PySem.Challenge.pw_websbykind_k88_marked_webs_counted.main.body.getD j (.Pass #[0,0,0,0])
noncomputable def de(P:Params)(s:Str)(t:Tok)(v:Value):DictEntry:=#[PyData.keyHash P s,.str s t,v]
noncomputable def co(vs:Array Value):Obj:=#[.type "code",none,.fields vs,([].toArray)]
noncomputable def fo(j:Nat)(n:Str)(kV doc pm:Value)(an:Option Addr)(bx ct:Value):Obj:=#[.type "function",none,.func (PySem.W.fnOf n n (gU (st j)) (bh (st j)) (aC (st j)) .none kV doc pm an bx ct),([].toArray)]
noncomputable def ce(n:Str)(b a s r t u:Nat):Obj:=#[.type "type",none,.cls #[n,[.ref b],[.ref a,.ref b,.type "ValueError",.type "Exception",.type "BaseException",.type "object"],s,n,true,[],[],false,none,false],([!(.ref r),none,!(.str n t),!(.str n u),!(.builtin "ValueError.__new__"),!(.bool true)].toArray)]
def cd(n:Str)(t l p r:Nat)(x y z:Value)(u:Nat):Obj:=co ([.str n t,.str n (t+1),.str "/claim/cut.py" (t+2),.int l 0,.int p 0,.int 0 0,.int 0 0,.int 3 0,.ref r,.bool true,.int 181 0,.ref (r+1),.none,x,y,z,.int u 0,.int l 0,.str "/claim/cut.py" (u+1)].toArray)
def fq(j:Nat)(n:Str)(m:Value)(c:Addr):Obj:=fo j n .none .none m none (.ref c) .none
def m0:Value:=.str "websbykind.whole" 458
def m1:Value:=.str "websbykind.kinds" 495
def m2:Value:=.str "websbykind.webs" 557
def m3:Value:=.str "websbykind.pairs" 588
def m4:Value:=.str "websbykind.marks" 620
def m5:Value:=.str "law_websbykind_k88_marked_webs_counted" 630
def K(P:Params):Frag:=
 (nat_lit 3,#[.type "dict",none,.dict ([de P "__name__" 165 (.str "law_websbykind_k88_marked_webs_counted" 630),de P "__doc__" 166 (.none),de P "__package__" 167 (.none),de P "__loader__" 168 (.builtin "__main__.__loader__#opaque"),de P "__spec__" 169 (.none),de P "__annotations__" 170 (.ref 6),de P "__builtins__" 171 (.ref 4),de P "__file__" 173 (.str "/claim/cut.py" 172),de P "__cached__" 174 (.none),de P "KindError" 206 (.ref 24),de P "NoWeb" 222 (.ref 37),de P "NoNumber" 238 (.ref 49),de P "NoTurn" 254 (.ref 61),de P "NoKind" 270 (.ref 73),de P "NoPlace" 286 (.ref 85),de P "NoTie" 302 (.ref 97),de P "NoNumbers" 318 (.ref 109),de P "NoTree" 334 (.ref 121),de P "NoCode" 350 (.ref 133),de P "NoCounts" 366 (.ref 145),de P "NoMarks" 382 (.ref 157),de P "NoText" 398 (.ref 169),de P "NoLine" 414 (.ref 181),de P "NoDeed" 430 (.ref 193),de P "TooGreat" 457 (.ref 212),de P "is_whole" 466 (.ref 221),de P "is_within" 475 (.ref 228),de P "must_be_within" 484 (.ref 235),de P "times_itself" 494 (.ref 242),de P "MOST_NAMES" 498 (.int 9 497),de P "is_kind" 504 (.ref 247),de P "is_falling" 510 (.ref 252),de P "must_be_kind" 518 (.ref 259),de P "all_kinds" 525 (.ref 266),de P "kinds_up_to" 536 (.ref 273),de P "turns_many" 547 (.ref 280),de P "orders_many" 556 (.ref 287),de P "tie_of" 566 (.ref 294),de P "pairs_of" 572 (.ref 299),de P "rounds_along" 578 (.ref 304),de P "round_from" 587 (.ref 311),de P "rounds_of_pairs" 595 (.ref 316),de P "pair_lengths" 601 (.ref 321),de P "turn_with" 611 (.ref 328),de P "standing_many" 619 (.ref 335),de P "MOST_COUNTED_SORTS" 623 (.int 9 622),de P "marked_many" 629 (.ref 340),de P "_law_partings" 637 (.ref 345),de P "_law_turns_like" 648 (.ref 352),de P "_law_pair_rounds" 661 (.ref 359),de P "_law_turn_of" 667 (.ref 364),de P "_law_pairs" 673 (.ref 369),de P "_law_turns" 679 (.ref 374),de P "_law_mark_rows" 685 (.ref 379),de P "_law_named" 696 (.ref 386),de P "_law_led" 706 (.ref 393),de P "_law_cell_at" 714 (.ref 400),de P "_law_state" 723 (.ref 407),de P "_law_take" 733 (.ref 414),de P "_law_same" 739 (.ref 419),de P "_law_refused" 745 (.ref 424),de P "_law_due" 759 (.ref 431),de P "_law_gone_through" 765 (.ref 436),de P "law" 777 (.ref 443)].toArray) 64,([].toArray)]) ::
 (nat_lit 4,#[.type "module",(!0),.plain,([].toArray)]) ::
 (nat_lit 24,#[.type "type",none,.cls #["KindError",[.type "ValueError"],[.ref 24,.type "ValueError",.type "Exception",.type "BaseException",.type "object"],23, "KindError",true,[],[.ref 37,.ref 49,.ref 61,.ref 73,.ref 85,.ref 97,.ref 109,.ref 121,.ref 133,.ref 145,.ref 157,.ref 169,.ref 181,.ref 193,.ref 212],false,none,false],([!(.ref 15),none,!(.str "KindError" 189),!(.str "KindError" 197),!(.builtin "ValueError.__new__"),!(.bool true)].toArray)]) ::
 (nat_lit 23,#[.type "dict",none,.dict ([de P "__module__" 196 (.str "websbykind.errors" 187),de P "__firstlineno__" 200 (.int 2 199),de P "__static_attributes__" 201 (.ref 22),de P "__weakref__" 203 (.ref 25),de P "__doc__" 204 (.none)].toArray) 3,([].toArray)]) ::
 (nat_lit 37,ce "NoWeb" 24 37 36 28 207 215) ::
 (nat_lit 49,ce "NoNumber" 24 49 48 40 223 231) ::
 (nat_lit 48,#[.type "dict",none,.dict ([de P "__module__" 230 (.str "websbykind.errors" 187),de P "__firstlineno__" 234 (.int 6 233),de P "__static_attributes__" 235 (.ref 47),de P "__doc__" 236 (.none)].toArray) 2,([].toArray)]) ::
 (nat_lit 61,ce "NoTurn" 24 61 60 52 239 247) ::
 (nat_lit 73,ce "NoKind" 24 73 72 64 255 263) ::
 (nat_lit 72,#[.type "dict",none,.dict ([de P "__module__" 262 (.str "websbykind.errors" 187),de P "__firstlineno__" 266 (.int 10 265),de P "__static_attributes__" 267 (.ref 71),de P "__doc__" 268 (.none)].toArray) 2,([].toArray)]) ::
 (nat_lit 85,ce "NoPlace" 24 85 84 76 271 279) ::
 (nat_lit 97,ce "NoTie" 24 97 96 88 287 295) ::
 (nat_lit 109,ce "NoNumbers" 24 109 108 100 303 311) ::
 (nat_lit 121,ce "NoTree" 24 121 120 112 319 327) ::
 (nat_lit 133,ce "NoCode" 24 133 132 124 335 343) ::
 (nat_lit 145,ce "NoCounts" 24 145 144 136 351 359) ::
 (nat_lit 157,ce "NoMarks" 24 157 156 148 367 375) ::
 (nat_lit 169,ce "NoText" 24 169 168 160 383 391) ::
 (nat_lit 181,ce "NoLine" 24 181 180 172 399 407) ::
 (nat_lit 193,ce "NoDeed" 24 193 192 184 415 423) ::
 (nat_lit 212,ce "TooGreat" 24 212 211 196 431 439) ::
 (nat_lit 220,cd "is_whole" 460 38 1 215 (.ref 217) (.ref 218) (.ref 219) 464) ::
 (nat_lit 221,fq 18 "is_whole" m0 220) ::
 (nat_lit 227,cd "is_within" 467 40 3 222 (.ref 224) (.ref 225) (.ref 226) 473) ::
 (nat_lit 228,fq 19 "is_within" m0 227) ::
 (nat_lit 234,cd "must_be_within" 476 42 3 229 (.ref 231) (.ref 232) (.ref 233) 482) ::
 (nat_lit 235,fq 20 "must_be_within" m0 234) ::
 (nat_lit 241,cd "times_itself" 485 45 2 236 (.ref 238) (.ref 239) (.ref 240) 492) ::
 (nat_lit 242,fq 21 "times_itself" m0 241) ::
 (nat_lit 246,cd "is_kind" 499 52 2 243 .none .none (.ref 245) 502) ::
 (nat_lit 247,fq 24 "is_kind" m1 246) ::
 (nat_lit 251,cd "is_falling" 505 59 1 248 .none .none (.ref 250) 508) ::
 (nat_lit 252,fq 25 "is_falling" m1 251) ::
 (nat_lit 258,cd "must_be_kind" 511 61 2 253 (.ref 255) (.ref 256) (.ref 257) 516) ::
 (nat_lit 259,fq 26 "must_be_kind" m1 258) ::
 (nat_lit 265,cd "all_kinds" 519 64 1 260 (.ref 262) (.ref 263) (.ref 264) 523) ::
 (nat_lit 266,fq 27 "all_kinds" m1 265) ::
 (nat_lit 272,cd "kinds_up_to" 526 67 2 267 (.ref 269) (.ref 270) (.ref 271) 534) ::
 (nat_lit 273,fq 28 "kinds_up_to" m1 272) ::
 (nat_lit 279,cd "turns_many" 537 75 2 274 (.ref 276) (.ref 277) (.ref 278) 545) ::
 (nat_lit 280,fq 29 "turns_many" m1 279) ::
 (nat_lit 286,cd "orders_many" 548 81 1 281 (.ref 283) (.ref 284) (.ref 285) 554) ::
 (nat_lit 287,fq 30 "orders_many" m1 286) ::
 (nat_lit 293,cd "tie_of" 559 87 2 288 (.ref 290) (.ref 291) (.ref 292) 564) ::
 (nat_lit 294,fq 32 "tie_of" m2 293) ::
 (nat_lit 298,cd "pairs_of" 567 89 1 295 .none .none (.ref 297) 570) ::
 (nat_lit 299,fq 33 "pairs_of" m2 298) ::
 (nat_lit 303,cd "rounds_along" 573 91 2 300 .none .none (.ref 302) 576) ::
 (nat_lit 304,fq 34 "rounds_along" m2 303) ::
 (nat_lit 310,cd "round_from" 579 94 2 305 (.ref 307) (.ref 308) (.ref 309) 585) ::
 (nat_lit 311,fq 35 "round_from" m2 310) ::
 (nat_lit 315,cd "rounds_of_pairs" 590 100 1 312 .none .none (.ref 314) 593) ::
 (nat_lit 316,fq 37 "rounds_of_pairs" m3 315) ::
 (nat_lit 320,cd "pair_lengths" 596 103 2 317 .none .none (.ref 319) 599) ::
 (nat_lit 321,fq 38 "pair_lengths" m3 320) ::
 (nat_lit 327,cd "turn_with" 602 106 1 322 (.ref 324) (.ref 325) (.ref 326) 609) ::
 (nat_lit 328,fq 39 "turn_with" m3 327) ::
 (nat_lit 334,cd "standing_many" 612 113 2 329 (.ref 331) (.ref 332) (.ref 333) 617) ::
 (nat_lit 335,fq 40 "standing_many" m3 334) ::
 (nat_lit 339,cd "marked_many" 624 117 2 336 .none .none (.ref 338) 627) ::
 (nat_lit 340,fq 43 "marked_many" m4 339) ::
 (nat_lit 344,cd "_law_partings" 632 123 2 341 .none .none (.ref 343) 635) ::
 (nat_lit 345,fq 45 "_law_partings" m5 344) ::
 (nat_lit 351,cd "_law_turns_like" 638 130 1 346 (.ref 348) (.ref 349) (.ref 350) 646) ::
 (nat_lit 352,fq 46 "_law_turns_like" m5 351) ::
 (nat_lit 358,cd "_law_pair_rounds" 649 138 1 353 (.ref 355) (.ref 356) (.ref 357) 659) ::
 (nat_lit 359,fq 47 "_law_pair_rounds" m5 358) ::
 (nat_lit 363,cd "_law_turn_of" 662 153 1 360 .none .none (.ref 362) 665) ::
 (nat_lit 364,fq 48 "_law_turn_of" m5 363) ::
 (nat_lit 368,cd "_law_pairs" 668 160 1 365 .none .none (.ref 367) 671) ::
 (nat_lit 369,fq 49 "_law_pairs" m5 368) ::
 (nat_lit 373,cd "_law_turns" 674 165 1 370 .none .none (.ref 372) 677) ::
 (nat_lit 374,fq 50 "_law_turns" m5 373) ::
 (nat_lit 378,cd "_law_mark_rows" 680 173 2 375 .none .none (.ref 377) 683) ::
 (nat_lit 379,fq 51 "_law_mark_rows" m5 378) ::
 (nat_lit 385,cd "_law_named" 686 181 2 380 (.ref 382) (.ref 383) (.ref 384) 694) ::
 (nat_lit 386,fq 52 "_law_named" m5 385) ::
 (nat_lit 392,cd "_law_led" 697 186 2 387 (.ref 389) (.ref 390) (.ref 391) 704) ::
 (nat_lit 393,fq 53 "_law_led" m5 392) ::
 (nat_lit 399,cd "_law_cell_at" 707 191 2 394 (.ref 396) (.ref 397) (.ref 398) 712) ::
 (nat_lit 400,fq 54 "_law_cell_at" m5 399) ::
 (nat_lit 406,cd "_law_state" 715 195 2 401 (.ref 403) (.ref 404) (.ref 405) 721) ::
 (nat_lit 407,fq 55 "_law_state" m5 406) ::
 (nat_lit 413,cd "_law_take" 724 200 2 408 (.ref 410) (.ref 411) (.ref 412) 731) ::
 (nat_lit 414,fq 56 "_law_take" m5 413) ::
 (nat_lit 418,cd "_law_same" 734 209 2 415 .none .none (.ref 417) 737) ::
 (nat_lit 419,fq 57 "_law_same" m5 418) ::
 (nat_lit 423,cd "_law_refused" 740 217 1 420 .none .none (.ref 422) 743) ::
 (nat_lit 424,fq 58 "_law_refused" m5 423) ::
 (nat_lit 430,cd "_law_due" 746 231 2 425 (.ref 427) (.ref 428) (.ref 429) 757) ::
 (nat_lit 431,fq 59 "_law_due" m5 430) ::
 (nat_lit 435,cd "_law_gone_through" 760 244 2 432 .none .none (.ref 434) 763) ::
 (nat_lit 436,fq 60 "_law_gone_through" m5 435) ::
 (nat_lit 442,cd "law" 766 254 1 437 (.ref 439) (.ref 440) (.ref 441) 775) ::
 (nat_lit 443,fq 61 "law" m5 442)::[]
noncomputable def as:List Addr:=nat_lit 3::nat_lit 4::nat_lit 24::nat_lit 23::nat_lit 37::nat_lit 49::nat_lit 48::nat_lit 61::nat_lit 73::nat_lit 72::nat_lit 85::nat_lit 97::nat_lit 109::nat_lit 121::nat_lit 133::nat_lit 145::nat_lit 157::nat_lit 169::nat_lit 181::nat_lit 193::nat_lit 212::nat_lit 220::nat_lit 221::nat_lit 227::nat_lit 228::nat_lit 234::nat_lit 235::nat_lit 241::nat_lit 242::nat_lit 246::nat_lit 247::nat_lit 251::nat_lit 252::nat_lit 258::nat_lit 259::nat_lit 265::nat_lit 266::nat_lit 272::nat_lit 273::nat_lit 279::nat_lit 280::nat_lit 286::nat_lit 287::nat_lit 293::nat_lit 294::nat_lit 298::nat_lit 299::nat_lit 303::nat_lit 304::nat_lit 310::nat_lit 311::nat_lit 315::nat_lit 316::nat_lit 320::nat_lit 321::nat_lit 327::nat_lit 328::nat_lit 334::nat_lit 335::nat_lit 339::nat_lit 340::nat_lit 344::nat_lit 345::nat_lit 351::nat_lit 352::nat_lit 358::nat_lit 359::nat_lit 363::nat_lit 364::nat_lit 368::nat_lit 369::nat_lit 373::nat_lit 374::nat_lit 378::nat_lit 379::nat_lit 385::nat_lit 386::nat_lit 392::nat_lit 393::nat_lit 399::nat_lit 400::nat_lit 406::nat_lit 407::nat_lit 413::nat_lit 414::nat_lit 418::nat_lit 419::nat_lit 423::nat_lit 424::nat_lit 430::nat_lit 431::nat_lit 435::nat_lit 436::nat_lit 442::nat_lit 443::[]
def as2:List Addr:=nat_lit 438 ::  as
noncomputable def qv:Program:={ PySem.Challenge.pw_websbykind_k88_marked_webs_counted with main:={ PySem.Challenge.pw_websbykind_k88_marked_webs_counted.main with body:=[st 1,st 2,st 3,st 4,st 5,st 6,st 7,st 8,st 9,st 10,st 11,st 12,st 13,st 14,st 15,st 16,st 18,st 19,st 20,st 21,st 23,st 24,st 25,st 26,st 27,st 28,st 29,st 30,st 32,st 33,st 34,st 35,st 37,st 38,st 39,st 40,st 42,st 43,st 45,st 46,st 47,st 48,st 49,st 50,st 51,st 52,st 53,st 54,st 55,st 56,st 57,st 58,st 59,st 60,st 61]}}
theorem Yp(P:Params):as2=(pX [438] K P).map (·.1):=by kernel_rfl
theorem op:PySem.W.opening PySem.Challenge.rw_websbykind_k88_marked_webs_counted.row.prog=PySem.W.plainProg PySem.Challenge.rw_websbykind_k88_marked_webs_counted.row.prog.main.scope.names:=by kernel_rfl
theorem fe:∀s,PySem.fenceModules? PySem.Challenge.rw_websbykind_k88_marked_webs_counted.row.prog s=!s:=λs=>by kernel_rfl
theorem hl:PySem.W.LeftO PySem.Challenge.rw_websbykind_k88_marked_webs_counted.row.prog qv [] (λs=>PySem.W.xlAt qv [] s&&PySem.W.recOk (PySem.W.OpenRow.toRowW PySem.Challenge.rw_websbykind_k88_marked_webs_counted.row).records s) (λs=>as2.map s.heap.get?) (λw=>(pX [438] K w.params).map λp:Nat×Obj=>!p.2) 8000:=Ax op ⋯ fe Yo λw os=>by kernel_rfl
end cE
namespace Ev
open PySem PySem.W
end Ev
namespace L2
abbrev Key:=Sum Int Str
noncomputable def pY:Key->Value->Bool
 |.inl k,v=>Value.isInt k v
 |.inr x,v=>Value.isStrOf x v
noncomputable def keyH(w:World):Key->Int
 |.inl k=>hashInt k
 |.inr x=>hashStr w x
theorem bq:∀{k:Key}{v:Value},pY k v=true->(∃i t,k=Sum.inl i/\v=Value.int i t)\/(∃x t,k=Sum.inr x/\v=Value.str x t)
 |.inl i,v,h=>by
  obtain⟨t,e⟩:=Value.isInt_shape h;exact .inl #[i,t,rfl,e]
 |.inr x,v,h=>by
  obtain⟨t,e⟩:=Value.isStrOf_shape h;exact .inr #[x,t,rfl,e]
theorem Ay(i:Int)(t:Tok):pY (.inl i) (.int i t)=true:=by simp[pY,Value.isInt]
theorem Az(x:Str)(t:Tok):pY (.inr x) (.str x t)=true:=by simp[pY,Value.isStrOf]
theorem Rx(a b:Int):decide ((Sum.inl a:Key)=Sum.inl b)=(a==b):=by
 by_cases e:a=b
 . subst e;simp
 .
  have h : ¬ (Sum.inl a:Key)=Sum.inl b:=λq=>e (Sum.inl.inj q)
  rw[nK h];exact (beq_eq_false_iff_ne.mpr e).symm
theorem Ry(a b:Str):decide ((Sum.inr a:Key)=Sum.inr b)=decide (a=b):=by
 by_cases e:a=b
 . subst e;simp
 .
  have h : ¬ (Sum.inr a:Key)=Sum.inr b:=λq=>e (Sum.inr.inj q)
  rw[nK h,nK e]
theorem Rz(a:Int)(b:Str):decide ((Sum.inl a:Key)=Sum.inr b)=false:=nK (λq=>nomatch q)
theorem RB(a:Str)(b:Int):decide ((Sum.inr a:Key)=Sum.inl b)=false:=nK (λq=>nomatch q)
def fC(prog:Program)(w:World):PySem.KeyKind prog w Key where
 is:=pY
 hash:=keyH w
 inj:=λv a b ha hb=>by
  rcases bq ha with ⟨i,t,rfl,rfl⟩ |⟨x,t,rfl,rfl⟩
  .
   rcases bq hb with ⟨j,u,rfl,e⟩ |⟨y,u,rfl,e⟩
   . injection e with e1 _;rw[e1]
   . exact nomatch e
  .
   rcases bq hb with ⟨j,u,rfl,e⟩ |⟨y,u,rfl,e⟩
   . exact nomatch e
   . injection e with e1 _;rw[e1]
 byValue:=λk v h=>by
  rcases bq h with ⟨i,t,rfl,rfl⟩ |⟨x,t,rfl,rfl⟩ <;> rfl
 pyHash:=λhv h=>by
  rcases bq hv with ⟨i,t,rfl,rfl⟩ |⟨x,t,rfl,rfl⟩
  . exact wpAny_pyHash_int h
  . exact wpAny_pyHash_str h
 eqBool:=λhu hv h=>by
  rcases bq hu with ⟨i,t,rfl,rfl⟩ |⟨x,t,rfl,rfl⟩
  .
   rcases bq hv with ⟨j,u,rfl,rfl⟩ |⟨y,u,rfl,rfl⟩
   . rw[Rx]at h;exact wpAny_eqBool_int h
   . rw[Rz]at h;exact SeqAt.EqAt.int_str i t y u _ _ _ _ h
  .
   rcases bq hv with ⟨j,u,rfl,rfl⟩ |⟨y,u,rfl,rfl⟩
   . rw[RB]at h;exact SeqAt.EqAt.str_int x t j u _ _ _ _ h
   . rw[Ry]at h;exact wpAny_eqBool_str h
 «strs»:=λk x t v h=>by
  rcases bq h with ⟨i,u,rfl,e⟩ |⟨y,u,rfl,e⟩
  . exact nomatch e
  . injection e with e1 _;subst e1;cases v <;> rfl
theorem uA(prog:Program)(w:World)(i:Int)(t:Tok):(fC prog w).is (.inl i) (.int i t)=true:=Ay i t
theorem uB(prog:Program)(w:World)(x:Str)(t:Tok):(fC prog w).is (.inr x) (.str x t)=true:=Az x t
inductive V where
 |non |bl (b:Bool) |int (i:Int) |str (x:Str) |RC (b:Array UInt8) |flt (b:UInt64) |ref (a:Addr) |ty (n:String)
 deriving DecidableEq
noncomputable def RelV:V->Value->Prop
 |.non,u=>u=Value.none
 |.bl b,u=>u=Value.bool b
 |.int i,u=>∃t,u=Value.int i t
 |.str x,u=>∃t,u=Value.str x t
 |.RC b,u=>∃t,u=Value.bytes b t
 |.flt b,u=>∃t,u=Value.float b t
 |.ref a,u=>u=Value.ref a
 |.ty n,u=>u=Value.type n
abbrev Vals:List V->List Value->Prop:=Paired RelV
theorem Vals.length{xs:List V}{us:List Value}(r:Vals xs us):xs.length=us.length:=Paired.length r
theorem Vals.get:∀{xs:List V}{us:List Value}{i:Nat}{x:V},Vals xs us->xs[i]?=!x->∃u,us[i]?=!u/\RelV x u
 |_,_,_,_,.nil,e=>by simp at e
 |_,_,0,_,.cons r _,e=>by simp at e;subst e;exact#[_,rfl,r]
 |_,_,i+1,x,.cons _ t,e=>by
  obtain⟨u,h1,h2⟩:=Vals.get t (by simpa using e)
  exact#[u,by simpa using h1,h2]
theorem Vals.set(r:RelV x u):∀{xs:List V}{us:List Value} (i:Nat),Vals xs us->Vals (xs.set i x) (us.set i u)
 |_,_,_,.nil=>.nil
 |_,_,0,.cons _ t=>.cons r t
 |_,_,i+1,.cons q t=>.cons q (Vals.set r i t)
theorem Vals.append:∀{xs ys:List V}{us ws:List Value},Vals xs us->Vals ys ws->Vals (xs++ys) (us++ws):=by
 intro xs ys us ws h s
 induction h with
 |nil=>exact s
 |cons r t ih=>exact .cons r ih
theorem Vals.take:∀{xs:List V}{us:List Value} (n:Nat),Vals xs us->Vals (xs.take n) (us.take n)
 |_,_,0,_=>.nil
 |_,_,_+1,.nil=>.nil
 |_,_,n+1,.cons r t=>.cons r (Vals.take n t)
theorem Vals.drop:∀{xs:List V}{us:List Value} (n:Nat),Vals xs us->Vals (xs.drop n) (us.drop n)
 |_,_,0,r=>r
 |_,_,_+1,.nil=>.nil
 |_,_,n+1,.cons _ t=>Vals.drop n t
def Yq:Option V->Option Value->Prop
 |!v,!u=>RelV v u
 |none,none=>True
 |_,_=>False
def KV{κ:Type}:List (κ×V)->List (κ×Value)->Prop:=Paired λ(p:κ×V) (q:κ×Value)=>p.1=q.1/\RelV p.2 q.2
noncomputable def kV:Key->V
 |.inl i=>.int i
 |.inr x=>.str x
inductive HO where
 |lst (xs:List V)
 |tup (xs:List V)
 |dK (dO:List (Key×V)) |dT (dO:List (List Key×V))
 |set (φ:Obj->Prop)
 |ins (C dx:Addr) (fs:List (Str×V))
 |own (x:Addr)
 |xd (fs:List (Str×V))
 |met (f x:Addr)
 |rng (lo hi:Int)
 |kP (o:Obj) (u:HO)
 |lD (ps:Array Value)
 |ext (φ:Heap->Prop)
abbrev Hp:=Addr->Option HO
noncomputable def upd(H:Hp)(a:Addr)(o:HO):Hp:=λb=>if b=a then some o else H b
theorem az:upd H a o a=!o:=by unfold upd;rw[hV rfl]
theorem au(h:b≠a):upd H a o b=H b:=by unfold upd;rw[fN h]
theorem aE{H:Hp}{a b:Addr}{o:HO}(h:H a=!o)(h':H b=none):a≠b:=by intro e;subst e;rw[h]at h';cases h'
def fD(h:Heap)(a:Addr)(its:Array Value):Prop:=∃o,h.get? a=!o/\(o.cls=.type "tuple" /\∃n,o.data=.seq its n)/\o.dict=none
theorem fD.tup{h:Heap}{a:Addr}{its:Array Value}(x:fD h a its):IsTup h a its:=let #[o,e,c,_]:=x;#[o,e,c]
theorem fD.new(h:Heap)(its:Array Value):fD (h.push { cls:=.type "tuple",data:=.seq its}) h.objs.size its:=#[_,dC _ rfl,#[rfl,_,rfl],rfl]
section
variable(P:Program)(w:World)
def bG(H:Hp)(h:Heap)(a:Addr):HO->Prop
 |.lst xs=>xs.length<=sizeLine/\∃(its:List Value) (n:Nat),Vals xs its/\h.get? a=some { cls:=.type "list",data:=.seq its.toArray n}
 |.tup xs=>xs.length<=sizeLine/\∃its:List Value,Vals xs its/\fD h a its.toArray
 |.dK dO=>dO.length<=sizeLine/\(a==sysModules)=false/\∃vs,KV dO vs/\h.DictOf (fC P w) a vs
 |.dT dO=>dO.length<=sizeLine/\(a==sysModules)=false/\∃xs:List (List Key×Addr×Value),
   Paired (λ(p:List Key×V) (q:List Key×Addr×Value)=>p.1=q.1/\H q.2.1=!(.tup (p.1.map kV))/\RelV p.2 q.2.2) dO xs/\
   ∃o es ep,h.get? a=!o/\o.ExactDict/\o.data=.dict es ep/\es.toList=xs.map (entryOfKey (tupleKind (fC P w)))/\(xs.map (·.1)).Nodup
 |.set φ=>∃o,h.get? a=!o/\φ o
 |.ins C dx fs=>H dx=!(.own a)/\fs.length<=1000/\dx≠a/\h.get? a=!(PySem.W.instObj C dx)/\
   ∃mA,h.Ns1 dx mA/\(∀f,Yq (fs.lookup f) (mA f))/\PySem.Within mA (fs.map (·.1))
 |.own _=>∃o,h.get? a=!o
 |.xd fs=>∃mA,h.Ns1 a mA/\∀f,Yq (fs.lookup f) (mA f)
 |.rng lo hi=>∃t u v,h.get? a=some { cls:=.type "range",data:=.fields ([.int lo t,.int hi u,.int 1 v].toArray)}
 |.kP o u=>h.get? a=!o/\bG H h a u
 |.lD ps=>h.get? a=some { cls:=.none,data:=.fields ps}
 |.met f x=>h.get? a=!(PySem.W.methodObj (.ref f) (.ref x))
 |.ext φ=>φ h/\(∃o,h.get? a=!o)/\∀h1 h2:Heap,φ h1->(∀o,h1.get? a=!o->h2.get? a=!o)->φ h2
def jP(H:Hp)(h:Heap):Prop:=∀a o,H a=!o->bG P w H h a o
end
section
variable{P:Program}{w:World}{H H':Hp}{h h':Heap}{a:Addr}{o:HO}
theorem bG.lt(x:bG P w H h a o):a<h.objs.size:=by
 cases o with
 |lst xs=>obtain⟨_,_,_,_,e⟩:=x;exact dS e
 |tup xs=>obtain⟨_,_,_,_,e,_⟩:=x;exact dS e
 |dK dO=>obtain⟨_,_,_,_,o,_,_,e,_⟩:=x;exact dS e
 |dT dO=>obtain⟨_,_,_,_,o,_,_,e,_⟩:=x;exact dS e
 |set φ=>obtain⟨o,e,_⟩:=x;exact dS e
 |ins C dx fs=>obtain⟨_,_,_,e,_⟩:=x;exact dS e
 |own y=>obtain⟨_,e⟩:=x;exact dS e
 |xd fs=>obtain⟨_,⟨_,_,_,e,_⟩,_⟩:=x;exact dS e
 |rng lo hi=>obtain⟨_,_,_,e⟩:=x;exact dS e
 |kP ob u=>obtain⟨e,_⟩:=x;exact dS e
 |lD ps=>exact dS (show h.get? a=!_ from x)
 |met f y=>exact dS (show h.get? a=!_ from x)
 |ext φ=>obtain⟨_,⟨_,e⟩,_⟩:=x;exact dS e
theorem Paired.Yr{α β:Type}{F G:α->β->Prop}:∀{l₁:List α}{l₂:List β},Paired F l₁ l₂->(∀a b,F a b->G a b)->Paired G l₁ l₂:=by
 intro l₁ l₂ h f
 induction h with
 |nil=>exact .nil
 |cons r t ih=>exact .cons (f _ _ r) ih
theorem bG.stay(x:bG P w H h a o)(k:∀b u,(b=a\/H b=!(.own a))->h.get? b=!u->h'.get? b=!u)
  (ho:∀b,H b=!(.own a)->H' b=!(.own a)) (ht:∀b xs,H b=!(.tup xs)->H' b=!(.tup xs)):bG P w H' h' a o:=by
 induction o with
 |lst xs=>obtain⟨z,its,n,r,e⟩:=x;exact#[z,its,n,r,k _ _ (.inl rfl) e]
 |tup xs=>obtain⟨z,its,r,ob,e,c⟩:=x;exact#[z,its,r,ob,k _ _ (.inl rfl) e,c]
 |dK dO=>obtain⟨z,y,vs,r,ob,es,ep,e,c⟩:=x;exact#[z,y,vs,r,ob,es,ep,k _ _ (.inl rfl) e,c]
 |dT dO=>obtain⟨z,y,xs,r,ob,es,ep,e,c⟩:=x;exact#[z,y,xs,Paired.Yr r λp q z=>#[z.1,ht _ _ z.2.1,z.2.2],ob,es,ep,k _ _ (.inl rfl) e,c]
 |set φ=>obtain⟨ob,e,c⟩:=x;exact#[ob,k _ _ (.inl rfl) e,c]
 |ins C dx fs=>obtain⟨d,z,ne,e,mA,⟨od,es,ep,e2,c⟩,r⟩:=x;exact#[ho _ d,z,ne,k _ _ (.inl rfl) e,mA,#[od,es,ep,k _ _ (.inr d) e2,c],r]
 |own y=>obtain⟨ob,e⟩:=x;exact#[ob,k _ _ (.inl rfl) e]
 |xd fs=>obtain⟨mA,⟨od,es,ep,e,c⟩,r⟩:=x;exact#[mA,#[od,es,ep,k _ _ (.inl rfl) e,c],r]
 |rng lo hi=>obtain⟨t,u,v,e⟩:=x;exact#[t,u,v,k _ _ (.inl rfl) e]
 |kP ob u ih=>obtain⟨e,q⟩:=x;exact#[k _ _ (.inl rfl) e,ih q]
 |lD ps=>have e:=x;exact k a _ (.inl rfl) e
 |met f y=>have e:=x;exact k a _ (.inl rfl) e
 |ext φ=>obtain⟨p,⟨o,e⟩,st⟩:=x;exact#[st _ _ p λo q=>k _ _ (.inl rfl) q,#[o,k _ _ (.inl rfl) e],st]
theorem jP.lt(x:jP P w H h)(e:H a=!o):a<h.objs.size:=(x a o e).lt
theorem jP.fresh(x:jP P w H h)(e:h.objs.size<=a):H a=none:=by
 cases q:H a with
 |none=>rfl
 |some u=>exact absurd (eM (x.lt q) e) (nN _)
theorem jP.kept(x:jP P w H h)(k:∀b u,h.get? b=!u->h'.get? b=!u):jP P w H h':=λa o e=>
 (x a o e).stay (λb u _ q=>k b u q) (λ_ q=>q) λ_ _ q=>q
theorem jP.laid(x:jP P w H h)(k:∀b u,h.get? b=!u->h'.get? b=!u)(hp:h.objs.size<=a)(new:bG P w (upd H a o) h' a o):jP P w (upd H a o) h':=λb u e=>by
 have hn:=x.fresh hp;by_cases hb:b=a
 . subst hb;rw[az]at e;cases e;exact new
 . rw[au hb]at e;exact (x b u e).stay (λc v _ q=>k c v q) (λc q=>by rw[au (aE q hn)];exact q) λc xs q=>by rw[au (aE q hn)];exact q
end
def Rd(H:Hp)(a:Addr)(u:HO):Prop:=H a=!u\/∃o,H a=!(.kP o u)
theorem Rd.ok{P:Program}{w:World}{H:Hp}{h:Heap}{a:Addr}{u:HO}(r:Rd H a u)(x:jP P w H h):bG P w H h a u:=by
 rcases r with r |⟨o,r⟩
 . exact x a u r
 . obtain⟨_,q⟩:=x a _ r;exact q
noncomputable def Mut:Option HO->Prop
 |!(.lst _)=>True
 |!(.dK _)=>True
 |!(.dT _)=>True
 |!(.set _)=>True
 |!(.ins _ _ _)=>True
 |!(.ext _)=>True
 |_=>False
section
variable{P:Program}{w:World}{H:Hp}{h h':Heap}{x e:Addr}{o':HO}
theorem jP.write(ok:jP P w H h)(mu:Mut (H x))(he:e=x\/H e=!(.own x))(k:∀b u,b≠e->h.get? b=!u->h'.get? b=!u)(Xy:∃u,h'.get? e=!u)
  (new:bG P w (upd H x o') h' x o'):jP P w (upd H x o') h':=λb u q=>by
 have Ys:∀c y,H c=!(.own y)->c≠x:=λc y r z=>by subst z;rw[r]at mu;exact mu
 have ntup:∀c xs,H c=!(.tup xs)->c≠x:=λc xs r z=>by subst z;rw[r]at mu;exact mu
 by_cases hb:b=x
 . subst hb;rw[az]at q;cases q;exact new
 .
  rw[au hb]at q;by_cases RD:b=e
  .
   have q':H b=!(.own x):=by
    rcases he with z |z
    . exact absurd (RD.trans z) hb
    . rw[RD];exact z
   rw[q]at q';cases q';obtain⟨v,hv⟩:=Xy;exact#[v,by rw[RD];exact hv]
  .
   refine (ok b u q).stay (λc v hc r=>k c v ?_ r) (λc r=>by rw[au (Ys c b r)];exact r) λc xs r=>by rw[au (ntup c xs r)];exact r
   rcases hc with rfl |hc
   . exact RD
   .
    rintro rfl;rcases he with z |z
    . exact Ys c b hc z
    . rw[hc]at z;cases z;exact hb rfl
end
structure Un(fs ex:List Addr)(H H':Hp)(h h':Heap):Prop where
 keep:∀b o,h.get? b=!o->H b=none->b∉fs->b∉ex->h'.get? b=!o
 slot:∀b o,h.get? b=!o->H b=none->b∈fs->b∉ex->∃sl,h'.get? b=some { o with slots:=sl}
 free:∀b o,h.get? b=!o->H b=none->b∉ex->H' b=none
 there:∀b o,h.get? b=!o->b∉ex->∃o',h'.get? b=!o'
 tups:∀b xs,H b=!(.tup xs)->H' b=!(.tup xs)
 jj:∀b o u,H b=!(.kP o u)->H' b=!(.kP o u)
 jk:∀b ps,H b=!(.lD ps)->∃more,H' b=!(.lD (ps++more))
section
variable{fs fs' ex ex':List Addr}{H H1 H2:Hp}{h h1 h2 h':Heap}{a x e:Addr}{o:HO}
theorem Un.any(u:Un fs ex H H1 h h1){b:Addr}{ob:Obj}(q:h.get? b=!ob)(n:H b=none)(hx:b∉ex):∃sl,h1.get? b=some { ob with slots:=sl}:=by
 by_cases hb:b∈fs
 . exact u.slot b ob q n hb hx
 . exact#[ob.slots,u.keep b ob q n hb hx]
theorem Un.kept(k:∀b u,h.get? b=!u->h'.get? b=!u):Un fs ex H H h h':=
 #[λb ob q _ _ _=>k b ob q,λb ob q _ _ _=>#[ob.slots,k b ob q],λ_ _ _ n _=>n,λb ob q _=>#[ob,k b ob q],λ_ _ q=>q,λ_ _ _ q=>q,λ_ ps q=>#[([].toArray),by rw[q];simp]]
theorem Un.refl:Un fs ex H H h h:=Un.kept λ_ _ q=>q
theorem Un.laid(k:∀b u,h.get? b=!u->h'.get? b=!u)(hp:h.objs.size<=a)(hn:H a=none):Un fs ex H (upd H a o) h h' where
 keep:=λb u q _ _ _=>k b u q
 slot:=λb u q _ _ _=>#[u.slots,k b u q]
 free:=λb u q n _=>by rw[au (fA (eM (dS q) hp))];exact n
 there:=λb u q _=>#[u,k b u q]
 tups:=λb xs q=>by rw[au (aE q hn)];exact q
 jj:=λb u xs q=>by rw[au (aE q hn)];exact q
 jk:=λb ps q=>#[([].toArray),by rw[au (aE q hn),q];simp]
theorem Un.write(mu:Mut (H x))(he:e=x\/H e=!(.own x))(k:∀b u,b≠e->h.get? b=!u->h'.get? b=!u)(Xy:∃u,h'.get? e=!u):Un fs ex H (upd H x o) h h':=by
 have hx:∀b,H b=none->b≠x:=λb n z=>by subst z;rw[n]at mu;exact mu
 have hb:∀b,H b=none->b≠e:=λb n z=>by
  subst z;rcases he with r |r
  . exact hx b n r
  . rw[n]at r;cases r
 have hm:∀b u,H b=!u->¬ Mut (!u)->b≠x:=λb u q nm z=>by subst z;rw[q]at mu;exact nm mu
 refine#[λb u q n _ _=>k b u (hb b n) q,λb u q n _ _=>#[u.slots,k b u (hb b n) q],λb u q n _=>by rw[au (hx b n)];exact n,λb u q _=>?_,
  λb xs q=>by rw[au (hm b _ q λz=>z)];exact q,λb u xs q=>by rw[au (hm b _ q λz=>z)];exact q,λb ps q=>#[([].toArray),by rw[au (hm b _ q λz=>z),q];simp]]
 by_cases RD:b=e
 . subst RD;exact Xy
 . exact#[u,k b u RD q]
end
noncomputable def trk(h:Heap)(H:Hp):List Addr:=(List.range h.objs.size).filter λa=>(H a).isSome
def rQ(h:Heap)(H:Hp):Heap:=PySem.W.hideAll h (trk h H)
theorem Ba(h:Heap)(H:Hp):(rQ h H).objs.size=h.objs.size:=PySem.W.hideAll_size _ _
theorem En(e:h.get? b=!o)(n:H b=none):(rQ h H).get? b=!o:=
 PySem.W.hideAll_get _ e λhm=>by
  have q:=(lL.mp hm).2;rw[n]at q;simp at q
theorem KH(e:(rQ h H).get? b=!o):h.get? b=!o/\H b=none:=by
 have e':=PySem.W.of_hideAll (trk h H) e;refine#[e',?_];cases q:H b with
 |none=>rfl
 |some x=>
  have hm:b∈trk h H:=lL.mpr #[yB.mpr (dS e'),by simp[q]]
  have z:(rQ h H).get? b=none:=PySem.W.hideAll_none (trk h H) hm;rw[z]at e;cases e
noncomputable def KJ(g h:Heap)(L:Addr): ~~~1:=(List.range h.objs.size).filterMap λa=>if a=L\/(g.get? a).isSome=true then none else (h.get? a).map λo=>(a,o)
def rest(g h:Heap)(L d:Addr): ~~~1:=(KJ g h L).filter λp=>decide (p.1≠d)
structure Mod(K:Frag)(mg:Str->Option Value)(base:Heap):Prop where
 wY:K.In base
 glob:base.Ns mainGlobals mg
 blt:∃mb,base.Ns builtinsNs mb/\∀x:Str,x≠ "__name__" ->mb x=bootBuiltins x
 nolimit:base.NoLimit
structure Cx where
 prog:Program
 w:World
 K:Frag
 mg:Str->Option Value
 base:Heap
 A:Around
 N:List Str
 s₀:Shared
 H₀:Hp
 env:Env
 outer:List Env
 stack:List Env
 ex:List Addr
 fn:Str->Bool
 calm:Bool
 pn:List (Addr×Obj)
 xe:Value->Shared->Prop
noncomputable def frs(l:List Env):List Addr:=l.filterMap (·.frame)
abbrev Cx.fs(X:Cx):List Addr:=frs X.outer
def um(sc:Scope)(x:Str):Prop:=sc.names.lookup x=some .local\/sc.names.lookup x=some .cell\/sc.names.lookup x=some .free
def Loc(sc:Scope)(x:Str):Prop:=sc.names.lookup x=some .local\/sc.names.lookup x=some .cell
def Look(env:Env)(h:Heap)(m:Str->Option Value)(x:Str)(u:Value):Prop:=
 (env.kindOf x=some .local/\m x=!u)\/((env.kindOf x=some .cell\/env.kindOf x=some .free)/\∃c,env.cells.lookup x=!c/\h.IsCell c (!u))
structure Cx.Ok(X:Cx):Prop where
 mod:Mod X.K X.mg X.base
 kind:X.env.scope.kind=.function
 glob:X.env.globals=mainGlobals
 blt:X.env.builtins=builtinsNs
 above:X.s₀⁻¹<=X.env.locals
 inj:∀x y c,X.env.cells.lookup x=!c->X.env.cells.lookup y=!c->x=y
 has:∀x,(X.env.kindOf x=some .cell\/X.env.kindOf x=some .free)->∃c,X.env.cells.lookup x=!c
 RJ:∀x c,X.fn x=true->X.env.cells.lookup x=!c->X.s₀⁻¹<=c
 hd:X.calm=true->X.A.handled=none
 frames:X.A.frames=!X.stack
 stk:X.stack=X.outer\/(X.stack=X.env::X.outer/\X.env.frame=!X.env.locals)
 Xz:∀b∈X.ex,b≠X.env.locals/\∀x c,X.env.cells.lookup x=!c->c≠b
 bs:∀b o,X.base.get? b=!o->X.s₀.heap.get? b=!o/\X.H₀ b=none
 Eo:X.base.objs.size<=X.s₀⁻¹
 uC:∀b o,X.base.get? b=!o->b∉X.ex
 wZ:∀b∈X.ex,b∉X.fs
 jm:X.s₀.heap.FunFrames X.base X.outer
 KN:∀b∈X.fs,X.H₀ b=none
structure Inv(X:Cx)(ah: ~~~1)(Y:List (Option V))(H:Hp)(s:Shared):Prop where
 ok:X.Ok
 os:s.os=X.s₀.os
 bare:AllBare s.gens
 base:Un X.fs X.ex X.H₀ H X.s₀.heap s.heap
 loc:∃m,s.heap.Ns X.env.locals m/\∀(i:Nat) (x:Str) (v:V),X.N[i]?=!x->Y[i]?=!(!v)->um X.env.scope x->∃u,RelV v u/\Look X.env s.heap m x u
 cell:∀x c,X.env.cells.lookup x=!c->∃v,s.heap.IsCell c v
 free:H X.env.locals=none
 cR:∀x c,X.env.cells.lookup x=!c->H c=none
 pin:∀p∈X.pn++ah,s.heap.get? p.1=!p.2/\H p.1=none/\p.1≠X.env.locals/\p.1∉X.fs/\∀v,p.2.data≠.cell v
 hok:jP X.prog X.w H s.heap
 len:Y.length=X.N.length
section
variable{X:Cx}{ah: ~~~1}{Y:List (Option V)}{H H':Hp}{s:Shared}{h':Heap}
theorem Cx.Ok.nofr(ok:X.Ok)(e:X.base.get? b=!o):b∉X.fs:=λhb=>by
 have:=(ok.jm.mem hb).1;rw[e]at this;cases this
theorem Inv.bs(I: ~~~7):∀b o,X.base.get? b=!o->s.heap.get? b=!o/\H b=none:=λb o e=>
 #[I.base.keep b o (I.ok.bs b o e).1 (I.ok.bs b o e).2 (I.ok.nofr e) (I.ok.uC b o e),I.base.free b o (I.ok.bs b o e).1 (I.ok.bs b o e).2 (I.ok.uC b o e)]
theorem Inv.bk(I: ~~~7):∀b o,X.base.get? b=!o->s.heap.get? b=!o:=λb o e=>(I.bs b o e).1
theorem Inv.mod(I: ~~~7):Mod X.K X.mg X.base:=I.ok.mod
theorem Inv.mG(I: ~~~7):X.K.In s.heap:=I.ok.mod.wY.keeps I.bk
theorem Inv.nolimit(I: ~~~7):s.heap.NoLimit:=I.ok.mod.nolimit.keeps I.bk
theorem Inv.lt(I: ~~~7):X.env.locals<s⁻¹:=let #[_,hn,_]:=I.loc;hn.lt
theorem Inv.sz(I: ~~~7):X.s₀⁻¹<=s⁻¹:=n0 I.ok.above (Cf I.lt)
theorem Inv.nofs(I: ~~~7)(h:s⁻¹<=a):a∉X.fs:=λhb=>by
 obtain⟨_,o,ho,_⟩:=I.ok.jm.mem hb;exact absurd (eM (dS ho) (n0 I.sz h)) (nN _)
theorem Inv.RK(I: ~~~7):∀x c,X.env.cells.lookup x=!c->c≠X.env.locals:=λx c e z=>by
 obtain⟨v,o,ho,hd⟩:=I.cell x c e;obtain⟨m,⟨o',es,ep,ho',hd',_⟩,_⟩:=I.loc;rw[z,ho']at ho;cases ho;rw[hd']at hd;cases hd
theorem Inv.jm(I: ~~~7):s.heap.FunFrames X.base X.outer:=by
 have all:∀(l:List Env),(∀b∈frs l,b∈X.fs)->X.s₀.heap.FunFrames X.base l->s.heap.FunFrames X.base l:=by
  intro l
  induction l with
  |nil=>intro _ _;trivial
  |cons env r ih=>
   intro hs hl;obtain⟨hk,⟨L,o,hf,hn,ho,hd⟩,hr⟩:=hl;have hL:=hs L (by unfold frs;rw[y4,hf];exact b0)
   obtain⟨sl,e⟩:=I.base.slot L o ho (I.ok.KN L hL) hL λz=>I.ok.wZ L z hL
   exact#[hk,#[L,_,hf,hn,e,hd],ih (λb hb=>hs b (by unfold frs;rw[y4,hf];exact bP _ hb)) hr]
 exact all X.outer (λ_ hb=>hb) I.ok.jm
theorem Inv.stack(I: ~~~7):s.heap.FunFrames X.base X.stack:=by
 rcases I.ok.stk with e |⟨e,hf⟩
 . rw[e];exact I.jm
 .
  rw[e];obtain⟨m,hn,_⟩:=I.loc;refine .cons (by rw[I.ok.kind];decide) hf hn ?_ I.jm
  exact Heap.get?_none_of_le (n0 I.ok.Eo I.ok.above)
theorem Inv.xg(I: ~~~7):∀b∈frs X.stack,b∈X.env.locals::X.fs:=λb hb=>by
 rcases I.ok.stk with e |⟨e,hf⟩
 . rw[e]at hb;exact bP _ hb
 . rw[e]at hb;unfold frs at hb;rw[y4,hf]at hb;exact hb
theorem Inv.rR(I: ~~~7):∀b∈frs X.stack,H b=none:=λb hb=>by
 rcases dL.mp (I.xg b hb)with e |hb
 . rw[e];exact I.free
 . obtain⟨_,o,ho,_⟩:=I.ok.jm.mem hb;exact I.base.free b o ho (I.ok.KN b hb) λz=>I.ok.wZ b z hb
theorem Inv.step{g':Array GenState}{t':Nat}{d':Drawn}{ch:List Addr}(I: ~~~7)
  (hch:∀b∈ch,(b∈X.ex\/X.s₀⁻¹<=b)/\b≠X.env.locals/\(∀x c,X.env.cells.lookup x=!c->c≠b)/\∀p∈X.pn++ah,p.1≠b)
  (keep:∀b o,b≠X.env.locals->b∉X.fs->b∉ch->s.heap.get? b=!o->H b=none->h'.get? b=!o)
  (slot:∀b o,b≠X.env.locals->b∈X.fs->b∉ch->s.heap.get? b=!o->H b=none->∃sl,h'.get? b=some { o with slots:=sl}) (free:∀b o,b∉ch->s.heap.get? b=!o->H b=none->H' b=none)
  (there:∀b o,b∉ch->s.heap.get? b=!o->∃o',h'.get? b=!o')
  (tups:∀b xs,H b=!(.tup xs)->H' b=!(.tup xs)) (jj:∀b o u,H b=!(.kP o u)->H' b=!(.kP o u)) (jk:∀b ps,H b=!(.lD ps)->∃more,H' b=!(.lD (ps++more)))
  (ns:∀m,s.heap.Ns X.env.locals m->h'.Ns X.env.locals m) (hok:jP X.prog X.w H' h') (hg:AllBare g') :
  Inv X ah Y H' { s with heap:=h',gens:=g',drawn:=d',toks:=t'}:=by
 have neL:∀b o,X.s₀.heap.get? b=!o->b≠X.env.locals:=λb o e=>fA (eM (dS e) I.ok.above)
 have neC:∀b o,X.s₀.heap.get? b=!o->b∉X.ex->b∉ch:=λb o e hx hb=>by
  rcases (hch b hb).1 with z |z
  . exact hx z
  . exact absurd (eM (dS e) z) (nN _)
 have cellK:∀x c,X.env.cells.lookup x=!c->∀v,s.heap.IsCell c v->h'.IsCell c v:=by
  rintro x c e v ⟨o,ho,hd⟩;have Yt:c∉ch:=λz=>(hch c z).2.2.1 x c e rfl
  by_cases hc:c∈X.fs
  . obtain⟨sl,q⟩:=slot c o (I.RK x c e) hc Yt ho (I.cR x c e);exact#[_,q,hd]
  . exact#[o,keep c o (I.RK x c e) hc Yt ho (I.cR x c e),hd]
 refine#[I.ok,I.os,hg,#[λb o e n hb hx=>?_,λb o e n hb hx=>?_,λb o e n hx=>?_,λb o e hx=>?_,λb xs e=>tups b xs (I.base.tups b xs e),λb o xs e=>jj b o xs (I.base.jj b o xs e),λb ps e=>?_],?_,λx c e=>?_,?_,λx c e=>?_,λp hp=>?_,hok,I.len]
 . exact keep b o (neL b o e) hb (neC b o e hx) (I.base.keep b o e n hb hx) (I.base.free b o e n hx)
 . obtain⟨sl,e1⟩:=I.base.slot b o e n hb hx;obtain⟨sl',e2⟩:=slot b _ (neL b o e) hb (neC b o e hx) e1 (I.base.free b o e n hx);exact#[sl',e2]
 . obtain⟨o',e1⟩:=I.base.there b o e hx;exact free b o' (neC b o e hx) e1 (I.base.free b o e n hx)
 . obtain⟨o',e1⟩:=I.base.there b o e hx;exact there b o' (neC b o e hx) e1
 . obtain⟨m1,e1⟩:=I.base.jk b ps e;obtain⟨m2,e2⟩:=jk b _ e1;exact#[m1++m2,by rw[e2,Array.append_assoc]]
 .
  obtain⟨m,hn,hl⟩:=I.loc;refine#[m,ns m hn,λi x v e1 e2 e3=>?_]
  obtain⟨u,r,l⟩:=hl i x v e1 e2 e3;refine#[u,r,?_];rcases l with l |⟨k,c,e,z⟩
  . exact .inl l
  . exact .inr #[k,c,e,cellK x c e _ z]
 . obtain⟨v,z⟩:=I.cell x c e;exact#[v,cellK x c e v z]
 . obtain⟨m,⟨o,_,_,ho,_⟩,_⟩:=I.loc;exact free _ o (λz=>(hch _ z).2.1 rfl) ho I.free
 . obtain⟨v,o,ho,hd⟩:=I.cell x c e;exact free c o (λz=>(hch c z).2.2.1 x c e rfl) ho (I.cR x c e)
 .
  obtain⟨e,n,ne,nf,d⟩:=I.pin p hp;have Yt:p.1∉ch:=λz=>(hch p.1 z).2.2.2 p hp rfl
  exact#[keep p.1 p.2 ne nf Yt e n,free p.1 p.2 Yt e n,ne,nf,d]
theorem Inv.un{t':Nat}(I: ~~~7)(u:Un X.fs [] H H' s.heap h')(hok:jP X.prog X.w H' h'):Inv X ah Y H' { s with heap:=h',toks:=t'}:=by
 obtain⟨m,⟨o,es,ep,ho,r⟩,_⟩:=id I.loc;obtain⟨sl,hL⟩:=u.any ho I.free ⋯;exact I.step (ch:=[]) (λ_ z=>nomatch z) (λb o _ hb _ e n=>u.keep b o e n hb ⋯) (λb o _ hb _ e n=>u.slot b o e n hb ⋯) (λb o _ e n=>u.free b o e n ⋯) (λb o _ e=>u.there b o e ⋯) u.tups u.jj u.jk (λm' hm=>by
  obtain⟨o',es',Eb,ho',r'⟩:=hm;rw[ho]at ho';cases ho';exact#[_,es',Eb,hL,r']) hok I.bare
theorem Inv.call{g':Array GenState}{t':Nat}{d':Drawn}{ch:List Addr}(I: ~~~7)(u:Un (frs X.stack) ch H H' s.heap h')(hok:jP X.prog X.w H' h')(hg:AllBare g')
  (hch:∀b∈ch,(b∈X.ex\/X.s₀⁻¹<=b)/\b≠X.env.locals/\(∀x c,X.env.cells.lookup x=!c->c≠b)/\∀p∈X.pn++ah,p.1≠b) :
  Inv X ah Y H' { s with heap:=h',gens:=g',drawn:=d',toks:=t'}:=by
 obtain⟨m,⟨o,es,ep,ho,r⟩,_⟩:=id I.loc;obtain⟨sl,hL⟩:=u.any ho I.free λz=>(hch _ z).2.1 rfl
 exact I.step hch (λb o hL hb hc e n=>u.keep b o e n (λz=>(dL.mp (I.xg b z)).elim hL hb) hc) (λb o _ _ hc e n=>u.any e n hc) (λb o hc e n=>u.free b o e n hc) (λb o hc e=>u.there b o e hc) u.tups u.jj u.jk (λm' hm=>by
  obtain⟨o',es',Eb,ho',r'⟩:=hm;rw[ho]at ho';cases ho';exact#[_,es',Eb,hL,r']) hok hg
theorem Inv.turned{t':Nat}{it:Addr}(I: ~~~7)(k:∀b o,b≠it->s.heap.get? b=!o->h'.get? b=!o)(hn:H it=none)(hL:it≠X.env.locals)
  (h1:it∈X.ex\/X.s₀⁻¹<=it) (h2:∀x c,X.env.cells.lookup x=!c->c≠it) (h3:∀p∈X.pn++ah,p.1≠it):Inv X ah Y H { s with heap:=h',toks:=t'}:=by
 have nit:∀b u,H b=!u->b≠it:=λb u e z=>by rw[z,hn]at e;cases e
 refine I.step (ch:=[it]) (λb hb=>?_) (λb o _ _ hc e _=>k b o (λz=>hc (by simp[z])) e) (λb o _ _ hc e _=>#[o.slots,k b o (λz=>hc (by simp[z])) e]) (λ_ _ _ _ n=>n)
  (λb o hc e=>#[o,k b o (λz=>hc (by simp[z])) e]) (λ_ _ e=>e) (λ_ _ _ e=>e) (λb ps e=>#[([].toArray),by rw[e];simp]) (λm hm=>?_) (λb u e=>?_) I.bare
 .
  have e:b=it:=by simpa using hb
  subst e;exact#[h1,hL,h2,h3]
 . obtain⟨o,es,ep,ho,r⟩:=hm;exact#[o,es,ep,k _ o (sB hL) ho,r]
 .
  refine (I.hok b u e).stay (λc v hc q=>k c v ?_ q) (λ_ q=>q) λ_ _ q=>q
  rcases hc with z |z
  . rw[z];exact nit b u e
  . exact nit c _ z
theorem Inv.tok(I: ~~~7)(t:Nat):Inv X ah Y H { s with toks:=t}:=I.un Un.refl I.hok
theorem Inv.kept{t':Nat}(I: ~~~7)(k:∀b u,s.heap.get? b=!u->h'.get? b=!u):Inv X ah Y H { s with heap:=h',toks:=t'}:=I.un (Un.kept k) (I.hok.kept k)
theorem Inv.laid{a:Addr}{o:HO}{t':Nat}(I: ~~~7)(k:∀b u,s.heap.get? b=!u->h'.get? b=!u)(hp:s⁻¹<=a)(new:bG X.prog X.w (upd H a o) h' a o) :
  Inv X ah Y (upd H a o) { s with heap:=h',toks:=t'}:=I.un (Un.laid k hp (I.hok.fresh hp)) (I.hok.laid k hp new)
theorem Inv.write(I: ~~~7)(mu:Mut (H x))(he:e=x\/H e=!(.own x))(k:∀b u,b≠e->s.heap.get? b=!u->h'.get? b=!u)(Xy:∃u,h'.get? e=!u)
  (new:bG X.prog X.w (upd H x o) h' x o):Inv X ah Y (upd H x o) { s with heap:=h',toks:=t'}:=I.un (Un.write mu he k Xy) (I.hok.write mu he k Xy new)
theorem Inv.y9(I: ~~~7)(h:∀p∈Yu,s.heap.get? p.1=!p.2/\H p.1=none/\p.1≠X.env.locals/\p.1∉X.fs/\∀v,p.2.data≠.cell v):Inv X Yu Y H s:=
 #[I.ok,I.os,I.bare,I.base,I.loc,I.cell,I.free,I.cR,λp hp=>(vS.mp hp).elim (λz=>I.pin p (t7 _ z)) (h p),I.hok,I.len]
theorem mH{N:List Str}(hN:N.Nodup){i j:Nat}{x:Str}(a:N[i]?=!x)(b:N[j]?=!x):i=j:=by obtain⟨h1,e1⟩:=c8.mp a;obtain⟨h2,e2⟩:=c8.mp b;exact (List.getElem_inj hN).mp (e1.trans e2.symm)
theorem jQ{M:Model}{A:Around}{E:Value->Shared->Prop}{i:Nat}{x:Str}{v:V}{u:Value}{Q:Unit->Shared->Prop}(I: ~~~7)(hN:X.N.Nodup)(hi:X.N[i]?=!x)(hx:Loc X.env.scope x)(r:RelV v u)
  (h:∀s',Inv X ah (Y.set i (!v)) H s'->(∃a,Heap.SameBut a s.heap s'.heap/\(a=X.env.locals\/X.env.cells.lookup x=!a))->Q () s') (hf:X.fn x=true\/X.env.scope.names.lookup x=some .local:=by first |exact .inl rfl |exact .inr rfl |assumption):wpAny M A (storeName X.env x u) Q E s:=by
 obtain⟨m,hn,hl⟩:=id I.loc;have hcls:(X.env.scope.kind==.class||(X.env.scope.kind==.module&&X.env.locals != X.env.globals))=false:=by rw[I.ok.kind];rfl
 have Yv:i<Y.length:=by rw[I.len];exact (c8.mp hi).1
 have RK:=I.RK;have tracked:∀{a:Addr}{h':Heap},(∃o,s.heap.get? a=!o/\H a=none)->Heap.SameBut a s.heap h'->jP X.prog X.w H h':=λ{a h'} ha hs b ob e=>by
  obtain⟨_,_,hfree⟩:=ha;refine (I.hok b ob e).stay (λc w' hc q=>(hs.2 c ?_).trans q) (λ_ q=>q) λ_ _ q=>q
  rintro rfl;rcases hc with rfl |hc
  . rw[hfree]at e;cases e
  . rw[hfree]at hc;cases hc
 rcases hx with hk |hk
 .
  refine wpAny_storeName_local hk hn (λh' hn' hs=>?_) hcls
  obtain⟨oL,_,_,hoL,_⟩:=id hn;refine h _ #[I.ok,I.os,I.bare,#[λb o e n hb hx=>?_,λb o e n hb hx=>?_,I.base.free,λb o e hx=>?_,I.base.tups,I.base.jj,I.base.jk],#[_,hn',λj y v' e1 e2 e3=>?_],λy c e=>?_,I.free,I.cR,λp hp=>?_,tracked #[oL,hoL,I.free] hs,by simpa using I.len] #[_,hs,.inl rfl]
  . exact (hs.2 b (fA (eM (dS e) I.ok.above))).trans (I.base.keep b o e n hb hx)
  . obtain⟨sl,e1⟩:=I.base.slot b o e n hb hx;exact#[sl,(hs.2 b (fA (eM (dS e) I.ok.above))).trans e1]
  . obtain⟨o',e1⟩:=I.base.there b o e hx;exact#[o',(hs.2 b (fA (eM (dS e) I.ok.above))).trans e1]
  .
   by_cases hj:j=i
   . subst hj;rw[hi]at e1;cases e1;rw[i3 Yv]at e2;cases e2;exact#[u,r,.inl #[hk,by simp]]
   .
    rw[eI (sB hj)]at e2;obtain⟨u',r',q⟩:=hl j y v' e1 e2 e3;refine#[u',r',?_];rcases q with ⟨k,e⟩ |⟨k,c,e,z⟩
    .
     refine .inl #[k,?_];have:y≠x:=λe=>hj (mH hN e1 (e▸hi))
     simp[this,e]
    . exact .inr #[k,c,e,z.sameBut hs (RK y c e)]
  . obtain⟨w',z⟩:=I.cell y c e;exact#[w',z.sameBut hs (RK y c e)]
  . obtain⟨e,n,ne,nf,d⟩:=I.pin p hp;exact#[(hs.2 p.1 ne).trans e,n,ne,nf,d]
 .
  have hfn:X.fn x=true:=by
   rcases hf with z |z
   . exact z
   . rw[z]at hk;cases hk
  obtain⟨c,hc⟩:=I.ok.has x (.inl hk);obtain⟨w',z⟩:=I.cell x c hc;refine wpAny_storeName_cell I.ok.kind hk hc z (λh' hc' hs=>?_)
  obtain⟨oc,hoc,hocd⟩:=id z;refine h { s with heap:=h'} ⟨I.ok,I.os,I.bare,⟨λb o e n hb hx=>?_,λb o e n hb hx=>?_,I.base.free,λb o e hx=>?_,I.base.tups,I.base.jj,I.base.jk⟩,⟨m,hn.sameBut hs (sB (RK x c hc)),λj y v' e1 e2 e3=>?_⟩,λy c' e=>?_,I.free,I.cR,λp hp=>?_,tracked ⟨oc,hoc,I.cR x c hc⟩ hs,by simpa using I.len⟩ ⟨c,hs,.inr hc⟩
  . exact (hs.2 b (fA (eM (dS e) (I.ok.RJ x c hfn hc)))).trans (I.base.keep b o e n hb hx)
  . obtain⟨sl,e1⟩:=I.base.slot b o e n hb hx;exact#[sl,(hs.2 b (fA (eM (dS e) (I.ok.RJ x c hfn hc)))).trans e1]
  . obtain⟨o',e1⟩:=I.base.there b o e hx;exact#[o',(hs.2 b (fA (eM (dS e) (I.ok.RJ x c hfn hc)))).trans e1]
  .
   by_cases hj:j=i
   . subst hj;rw[hi]at e1;cases e1;rw[i3 Yv]at e2;cases e2;exact#[u,r,.inr #[.inl hk,c,hc,hc']]
   .
    rw[eI (sB hj)]at e2;obtain⟨u',r',q⟩:=hl j y v' e1 e2 e3;refine#[u',r',?_];rcases q with q |⟨k,c',e,z'⟩
    . exact .inl q
    . refine .inr #[k,c',e,z'.sameBut hs ?_];rintro rfl;exact hj (mH hN e1 (I.ok.inj _ _ _ e hc▸hi))
  .
   by_cases hcc:c'=c
   . subst hcc;exact#[_,hc']
   . obtain⟨w2,z2⟩:=I.cell y c' e;exact#[w2,z2.sameBut hs hcc]
  . obtain⟨e,n,ne,nf,d⟩:=I.pin p hp;refine#[(hs.2 p.1 ?_).trans e,n,ne,nf,d];intro q;rw[q,hoc]at e;have q':=mI e;exact d w' (by rw[<- q'];exact hocd)
theorem jo{M:Model}{A:Around}{E:Value->Shared->Prop}{i:Nat}{x:Str}{v:V}{u:Value}{Q:Unit->Shared->Prop}(I: ~~~7)(hN:X.N.Nodup)(hi:X.N[i]?=!x)(hx:Loc X.env.scope x)(r:RelV v u)
  (h:∀s',Inv X ah (Y.set i (!v)) H s'->Q () s') (hf:X.fn x=true\/X.env.scope.names.lookup x=some .local:=by first |exact .inl rfl |exact .inr rfl |assumption):wpAny M A (storeName X.env x u) Q E s:=
 jQ I hN hi hx r (λs' I' _=>h s' I') hf
theorem Inv.call'(I: ~~~7)(ho:s'.os=s.os)(u:Un (frs X.stack) ch H H' s.heap s'.heap)(hok:jP X.prog X.w H' s'.heap)(hg:AllBare s'.gens)
  (hch:∀b∈ch,(b∈X.ex\/X.s₀⁻¹<=b)/\b≠X.env.locals/\(∀x c,X.env.cells.lookup x=!c->c≠b)/\∀p∈X.pn++ah,p.1≠b):Inv X ah Y H' s':=by
 obtain⟨h',g',d',t',o'⟩:=s';have e:=ho;subst e;exact I.call u hok hg hch
end
abbrev XK:=Value->Option Addr->Hp->Prop
abbrev St:=List (Option V)
abbrev VK:=V->Hp->Prop
abbrev TE:=St->Hp->VK->Prop
abbrev TT:=St->Hp->(Bool->Hp->Prop)->Prop
abbrev TA:=St->Hp->(List V->Hp->Prop)->Prop
structure Ends where
 nx:St->Hp->Prop
 rt:VK
 bk:St->Hp->Prop:=λ_ _=>False
 ct:St->Hp->Prop:=λ_ _=>False
abbrev TS:=Ends->St->Hp->Prop
def EP(X:Cx)(ah: ~~~1)(Y:St)(Q:VK)(u:Value)(s':Shared):Prop:=∃v H',Inv X ah Y H' s'/\RelV v u/\Q v H'
def TP(X:Cx)(ah: ~~~1)(Y:St)(Q:Bool->Hp->Prop)(b:Bool)(s':Shared):Prop:=∃H',Inv X ah Y H' s'/\Q b H'
def AP(X:Cx)(ah: ~~~1)(Y:St)(Q:List V->Hp->Prop)(us:List Value)(s':Shared):Prop:=∃vs H',Inv X ah Y H' s'/\Vals vs us/\Q vs H'
def SP(X:Cx)(ah: ~~~1)(D:Ends)(f:Flow)(s':Shared):Prop:=
 match f with
 |.next=>∃σ' H',Inv X ah σ' H' s'/\D.nx σ' H'
 |.brk=>∃σ' H',Inv X ah σ' H' s'/\D.bk σ' H'
 |.cont=>∃σ' H',Inv X ah σ' H' s'/\D.ct σ' H'
 |.ret u=>∃v σ' H',Inv X ah σ' H' s'/\RelV v u/\D.rt v H'
def PE(X:Cx)(e:Expr)(t:TE):Prop:=
 ∀(ah: ~~~1) (s:Shared) (Y:St) (H:Hp) (Q:VK),Inv X ah Y H s->t Y H Q->wpAny (~~~2) X.A (eval e X.env) (EP X ah Y Q) X.xe s
def PT(X:Cx)(e:Expr)(t:TT):Prop:=
 ∀(ah: ~~~1) (s:Shared) (Y:St) (H:Hp) (Q:Bool->Hp->Prop),Inv X ah Y H s->t Y H Q->wpAny (~~~2) X.A (isTrue e X.env (eval e X.env)) (TP X ah Y Q) X.xe s
def PW(X:Cx)(e:Expr)(t:TT):Prop:=
 ∀(whole:Sem Value) (ah: ~~~1) (s:Shared) (Y:St) (H:Hp) (Q:Bool->Hp->Prop),Inv X ah Y H s->t Y H Q->wpAny (~~~2) X.A (isTrue e X.env whole) (TP X ah Y Q) X.xe s
theorem PW.pt{X:Cx}{e:Expr}{t:TT}(h:PW X e t):PT X e t:=h _
def PA(X:Cx)(es:List Expr)(t:TA):Prop:=
 ∀(pos:Pos) (ah: ~~~1) (s:Shared) (Y:St) (H:Hp) (Q:List V->Hp->Prop),Inv X ah Y H s->t Y H Q->wpAny (~~~2) X.A (spliced (backTo pos (starEach es X.env))) (AP X ah Y Q) X.xe s
def PS(X:Cx)(st:Stmt)(t:TS):Prop:=
 ∀(ah: ~~~1) (s:Shared) (Y:St) (H:Hp) (D:Ends),Inv X ah Y H s->t D Y H->wpAny (~~~2) X.A (exec st X.env) (SP X ah D) X.xe s
def pZ(X:Cx)(st:List Stmt)(t:TS):Prop:=
 ∀(ah: ~~~1) (s:Shared) (Y:St) (H:Hp) (D:Ends),Inv X ah Y H s->t D Y H->wpAny (~~~2) X.A (execs st X.env) (SP X ah D) X.xe s
theorem bD{α:Type}{t:Sem α}{Q Q':α->Shared->Prop}{M:Model}{A:Around}{E:Value->Shared->Prop}{s:Shared}(h:wpAny M A t Q E s)(hQ:∀a s,Q a s->Q' a s):wpAny M A t Q' E s:=i7 h hQ λ_ _ x=>x
section
variable{X:Cx}
def Yw(i:Nat):TE:=λY H Q=>∃v,Y[i]?=!(!v)/\Q v H
def tC(v:V):TE:=λ_ H Q=>Q v H
theorem fY(hN:X.N[i]?=!x)(hv:um X.env.scope x)(hd:(x==(~~~3))=false:=by decide)(bU:(x==("__classdict__":Str))=false:=by decide):PE X (.Name x pos) (Yw i):=by
 intro ah s Y H Q I h;obtain⟨v,e,h⟩:=h;obtain⟨m,hn,hl⟩:=I.loc;obtain⟨u,r,l⟩:=hl i x v hN e hv;have fin:EP X ah Y Q u s:=#[v,H,I,r,h];rcases l with ⟨hk,hm⟩ |⟨hk,c,hc,hcell⟩
 . exact Db (wpAny_loadName_local I.ok.kind hk hn hm fin) hd
 .
  rcases hk with hk |hk
  . exact Db (wpAny_loadName_cell I.ok.kind hk hc hcell fin) hd
  . exact Db (wpAny_loadName_free I.ok.kind hk hc hcell fin bU) hd
theorem Ep{i j pos}:PE X (.Constant (.int i) j pos) (tC (.int i)):=λ_ _ _ H _ I h=>wpAny_Constant_int #[.int i,H,I.tok _,#[_,rfl],h]
theorem Yx{b j pos}:PE X (.Constant (.bool b) j pos) (tC (.bl b)):=λ_ _ _ H _ I h=>Constant_bool #[.bl b,H,I,rfl,h]
theorem Er{j pos}:PE X (.Constant .none j pos) (tC .non):=λ_ _ _ H _ I h=>Constant_none #[.non,H,I,rfl,h]
theorem RL{x j pos}:PE X (.Constant (.str x) j pos) (tC (.str x)):=λ_ _ _ H _ I h=>Calls.Constant_str #[.str x,H,I.tok _,#[_,rfl],h]
def Gl(X:Cx)(x:Str):Prop:=X.env.kindOf x=some .globalImplicit
theorem fE{E:Value->Shared->Prop}{ah: ~~~1}{s:Shared}{Y:St}{H:Hp}{x:Str}{u:Value}{pos:Pos}{Q:Value->Shared->Prop}(I: ~~~7)(hg:Gl X x)(hm:X.mg x=!u)(h:Q u s)
  (hd:(x==(~~~3))=false:=by decide):wpAny (~~~2) X.A (eval (.Name x pos) X.env) Q E s:=
 Calls.Name_function_global I.ok.kind hg (Calls.loadGlobal_global (by rw[I.ok.glob];exact I.mod.glob.keeps I.bk) hm h) hd
theorem dP{E:Value->Shared->Prop}{ah: ~~~1}{s:Shared}{Y:St}{H:Hp}{x:Str}{u:Value}{pos:Pos}{Q:Value->Shared->Prop}(I: ~~~7)(hg:Gl X x)(hm:X.mg x=none)(hv:bootBuiltins x=!u)(h:Q u s)
  (hn:x≠ "__name__" :=by decide) (hd:(x==(~~~3))=false:=by decide):wpAny (~~~2) X.A (eval (.Name x pos) X.env) Q E s:=by
 obtain⟨mb,h1,h2⟩:=I.mod.blt;exact Calls.Name_function_global I.ok.kind hg (Calls.loadGlobal_builtin (by rw[I.ok.glob];exact I.mod.glob.keeps I.bk) hm (by rw[I.ok.blt];exact h1.keeps I.bk) ((h2 x hn).trans hv) h) hd
theorem rS(hg:Gl X x)(hm:X.mg x=!u)(r:RelV v u)(hd:(x==(~~~3))=false:=by decide):PE X (.Name x pos) (tC v):=
 λ_ _ _ H _ I h=>fE I hg hm #[v,H,I,r,h] hd
theorem rT(hg:Gl X x)(hm:X.mg x=none)(hv:bootBuiltins x=!u)(r:RelV v u)(hn:x≠ "__name__" :=by decide)(hd:(x==(~~~3))=false:=by decide):PE X (.Name x pos) (tC v):=
 λ_ _ _ H _ I h=>dP I hg hm hv #[v,H,I,r,h] hn hd
variable{a b:Expr}{ta tb:TE}{pos:Pos}
def tB(t:TE):TT:=λY H Q=>t Y H λx H1=>∃c,x=.bl c/\Q c H1
theorem RM{e:Expr}{t:TE}(h:PE X e t)(he:∀whole,isTrue e X.env whole=(do let v <- whole;standAt e.pos;holding [v] (truthy v)):=by intro _;rfl):PT X e (tB t):=by
 intro ah s Y H Q I hw;refine isTrue_plain (bD (h ah s Y H _ I hw) λv s1 #[x,H1,I1,r1,q1]=>?_) (he _)
 obtain⟨d,rfl,q⟩:=q1;cases r1;exact nV #[H1,I1,q]
variable{tA tB':TT}{rest:List Expr}
noncomputable def tAnd(t u:TT):TT:=λY H Q=>t Y H λc H1=>if c=true then u Y H1 Q else Q false H1
noncomputable def tOr(t u:TT):TT:=λY H Q=>t Y H λc H1=>if c=true then Q true H1 else u Y H1 Q
def tNot(t:TT):TT:=λY H Q=>t Y H λc H1=>Q ((not c)) H1
theorem pw_and1(ha:PT X a tA):PW X (.BoolOp .And [a] pos) tA:=by
 intro wh ah s Y H Q I h;refine isTrue_and (bD (ha ah s Y H Q I h) λc s1 e=>?_)
 cases c with
 |true=>exact isTrue_and_nil e
 |false=>exact e
theorem pw_or1(ha:PT X a tA):PW X (.BoolOp .Or [a] pos) tA:=by
 intro wh ah s Y H Q I h;refine isTrue_or (bD (ha ah s Y H Q I h) λc s1 e=>?_)
 cases c with
 |false=>exact isTrue_or_nil e
 |true=>exact e
theorem pw_and(ha:PT X a tA)(hb:PW X (.BoolOp .And (b::rest) pos) tB'):PW X (.BoolOp .And (a::b::rest) pos) (tAnd tA tB'):=by
 intro wh ah s Y H Q I h;refine isTrue_and (bD (ha ah s Y H _ I h) ?_);rintro c s1 ⟨H1,I1,q1⟩;cases c with
 |true=>exact hb wh ah s1 Y H1 Q I1 q1
 |false=>exact#[H1,I1,q1]
theorem pw_or(ha:PT X a tA)(hb:PW X (.BoolOp .Or (b::rest) pos) tB'):PW X (.BoolOp .Or (a::b::rest) pos) (tOr tA tB'):=by
 intro wh ah s Y H Q I h;refine isTrue_or (bD (ha ah s Y H _ I h) ?_);rintro c s1 ⟨H1,I1,q1⟩;cases c with
 |true=>exact#[H1,I1,q1]
 |false=>exact hb wh ah s1 Y H1 Q I1 q1
theorem Es(ha:PT X a tA):PT X (.UnaryOp .Not a pos) (tNot tA):=by intro ah s Y H Q I h;exact isTrue_not (ha ah s Y H (λc H1=>Q ((not c)) H1) I h)
noncomputable def Yy(ta tb:TE):TE:=λY H Q=>ta Y H λx H1=>∃c,x=.bl c/\if c=true then tb Y H1 Q else Q (.bl false) H1
noncomputable def tOrV(ta tb:TE):TE:=λY H Q=>ta Y H λx H1=>∃c,x=.bl c/\if c=true then Q (.bl true) H1 else tb Y H1 Q
def Yz(ta:TE):TE:=λY H Q=>ta Y H λx H1=>∃c,x=.bl c/\Q (.bl ((not c))) H1
theorem RN{op}(h:PE X a t):PE X (.BoolOp op [a] pos) t:=λah s Y H Q I hw=>BoolOp_one (h ah s Y H Q I hw)
theorem Et(ha:PE X a ta)(hb:PE X (.BoolOp .And (b::rest) pos) tb):PE X (.BoolOp .And (a::b::rest) pos) (Yy ta tb):=by
 intro ah s Y H Q I h;refine BoolOp_and (bD (ha ah s Y H _ I h) ?_);rintro v s1 ⟨x,H1,I1,r1,q1⟩;obtain⟨c,rfl,q1⟩:=q1;cases r1;refine nV ?_;cases c with
 |true=>exact hb ah s1 Y H1 Q I1 q1
 |false=>exact#[.bl false,H1,I1,rfl,q1]
theorem QB(ha:PE X a ta)(hb:PE X (.BoolOp .Or (b::rest) pos) tb):PE X (.BoolOp .Or (a::b::rest) pos) (tOrV ta tb):=by
 intro ah s Y H Q I h;refine BoolOp_or (bD (ha ah s Y H _ I h) ?_);rintro v s1 ⟨x,H1,I1,r1,q1⟩;obtain⟨c,rfl,q1⟩:=q1;cases r1;refine nV ?_;cases c with
 |false=>exact hb ah s1 Y H1 Q I1 q1
 |true=>exact#[.bl true,H1,I1,rfl,q1]
theorem RP(ha:PE X a ta):PE X (.UnaryOp .Not a pos) (Yz ta):=by intro ah s Y H Q I h;refine UnaryOp_ (bD (ha ah s Y H _ I h) ?_);rintro v s1 ⟨x,H1,I1,r1,q1⟩;obtain⟨c,rfl,q1⟩:=q1;cases r1;exact not_of (nV #[.bl ((not c)),H1,I1,rfl,q1])
noncomputable def tIf(t:TT)(ta tb:TE):TE:=λY H Q=>t Y H λc H1=>if c=true then ta Y H1 Q else tb Y H1 Q
theorem uD{c:Expr}(hc:PT X c tA)(ha:PE X a ta)(hb:PE X b tb):PE X (.IfExp c a b pos) (tIf tA ta tb):=by
 intro ah s Y H Q I h;refine wpAny_IfExp (bD (hc ah s Y H _ I h) ?_);rintro d s1 ⟨H1,I1,q1⟩;cases d with
 |true=>exact ha ah s1 Y H1 Q I1 q1
 |false=>exact hb ah s1 Y H1 Q I1 q1
end
def cu(K:Frag)(H:Hp)(a:Addr)(xs:List V):Prop:=
 Rd H a (.lst xs)\/
  ∃(o:Obj) (its:Array Value) (n:Nat),K.lookup a=!o/\o.cls=.type "list" /\o.dict=none/\o.data=.seq its n/\its.size<=sizeLine/\Vals xs its.toList
def eU(K:Frag)(H:Hp)(a:Addr)(xs:List V):Prop:=
 Rd H a (.tup xs)\/
  ∃(o:Obj) (its:Array Value) (n:Nat),K.lookup a=!o/\o.cls=.type "tuple" /\o.data=.seq its n/\its.size<=sizeLine/\Vals xs its.toList
noncomputable def absV:Value->Option V
 |.none=>some .non
 |.bool b=>!(.bl b)
 |.int i _=>!(.int i)
 |.str x _=>!(.str x)
 |.bytes b _=>!(.RC b)
 |.float b _=>!(.flt b)
 |.ref a=>!(.ref a)
 |.type n=>!(.ty n)
 |_=>none
theorem RelV.abs(r:RelV x u):absV u=!x:=by
 cases x with
 |non=>cases r;rfl
 |bl _=>cases r;rfl
 |int _=>obtain⟨t,rfl⟩:=r;rfl
 |str _=>obtain⟨t,rfl⟩:=r;rfl
 |RC _=>obtain⟨t,rfl⟩:=r;rfl
 |flt _=>obtain⟨t,rfl⟩:=r;rfl
 |ref _=>cases r;rfl
 |ty _=>cases r;rfl
theorem RelV.inj{x y:V}{u:Value}(r:RelV x u)(q:RelV y u):x=y:=mI (r.abs.symm.trans q.abs)
theorem Vals.inj:∀{xs ys:List V}{us:List Value},Vals xs us->Vals ys us->xs=ys:=by
 intro xs ys us h
 induction h generalizing ys with
 |nil=>intro h';cases h';rfl
 |cons r t ih=>intro h';cases h' with |cons r' t'=>rw[r.inj r',ih t']
section
variable{X:Cx}{ah: ~~~1}{Y:St}{H:Hp}{s:Shared}{a:Addr}{xs ys:List V}
theorem cu.of{K:Frag}(h:H a=!(.lst xs)):cu K H a xs:=.inl (.inl h)
theorem Inv.list(I: ~~~7)(h:cu X.K H a xs):∃its:List Value,Vals xs its/\PlainL s.heap a its.toArray/\xs.length<=sizeLine:=by
 rcases h with h |⟨o,its,n,hk,hc,hd,hs,hz,r⟩
 . obtain⟨z,its,n,r,e⟩:=h.ok I.hok;exact#[its,r,#[_,n,e,rfl,rfl,rfl],z]
 .
  refine#[its.toList,r,#[o,n,I.mG a o hk,hc,hd,by simpa using hs],?_]
  have e:=r.length;simp only[i8]at e;lia
theorem Inv.tuple(I: ~~~7)(h:eU X.K H a xs):∃its:List Value,Vals xs its/\IsTup s.heap a its.toArray/\xs.length<=sizeLine:=by
 rcases h with h |⟨o,its,n,hk,hc,hs,hz,r⟩
 . obtain⟨z,its,r,p⟩:=h.ok I.hok;exact#[its,r,p.tup,z]
 .
  refine#[its.toList,r,#[o,I.mG a o hk,hc,n,by simpa using hs],?_]
  have e:=r.length;simp only[i8]at e;lia
theorem Inv.Eu(I: ~~~7)(h:cu X.K H a xs)(h':cu X.K H a ys):xs=ys:=by
 obtain⟨its,r,⟨o,n,e,_,_,d⟩,_⟩:=I.list h;obtain⟨its',r',⟨o',n',e',_,_,d'⟩,_⟩:=I.list h';rw[e]at e';cases e';rw[d]at d';injection d' with d1 _;have:its=its':=by simpa using congrArg Array.toList d1
 subst this;exact r.inj r'
theorem Inv.p6(I: ~~~7)(h:eU X.K H a xs)(h':eU X.K H a ys):xs=ys:=by
 obtain⟨its,r,⟨o,e,_,n,d⟩,_⟩:=I.tuple h;obtain⟨its',r',⟨o',e',_,n',d'⟩,_⟩:=I.tuple h';rw[e]at e';cases e';rw[d]at d';injection d' with d1 _;have:its=its':=by simpa using congrArg Array.toList d1
 subst this;exact r.inj r'
end
abbrev Cx.wish(X:Cx)(E:Value->Shared->Prop):Cx:={ X with xe:=E}
abbrev Cx.rW(X:Cx):Cx:=X.wish λ_ _=>False
theorem Cx.Ok.wish{X:Cx}(ok:X.Ok)(E:Value->Shared->Prop):(X.wish E).Ok:=
 #[ok.mod,ok.kind,ok.glob,ok.blt,ok.above,ok.inj,ok.has,ok.RJ,ok.hd,ok.frames,ok.stk,ok.Xz,ok.bs,ok.Eo,ok.uC,ok.wZ,ok.jm,ok.KN]
theorem Cx.Ok.cz{X:Cx}{E:Value->Shared->Prop}(ok:(X.wish E).Ok):X.Ok:=
 #[ok.mod,ok.kind,ok.glob,ok.blt,ok.above,ok.inj,ok.has,ok.RJ,ok.hd,ok.frames,ok.stk,ok.Xz,ok.bs,ok.Eo,ok.uC,ok.wZ,ok.jm,ok.KN]
section
variable{X:Cx}{ah: ~~~1}{Y:St}{H:Hp}{s:Shared}{E:Value->Shared->Prop}
theorem Inv.wish(I: ~~~7)(E:Value->Shared->Prop):Inv (X.wish E) ah Y H s:=#[I.ok.wish E,I.os,I.bare,I.base,I.loc,I.cell,I.free,I.cR,I.pin,I.hok,I.len]
theorem Inv.cz(I:Inv (X.wish E) ah Y H s):Inv X ah Y H s:=#[I.ok.cz,I.os,I.bare,I.base,I.loc,I.cell,I.free,I.cR,I.pin,I.hok,I.len]
theorem SP.cz(h:SP (X.wish E) ah D f s'):SP X ah D f s':=by
 cases f with
 |next=>obtain⟨σ',H',I,q⟩:=h;exact#[σ',H',I.cz,q]
 |brk=>obtain⟨σ',H',I,q⟩:=h;exact#[σ',H',I.cz,q]
 |cont=>obtain⟨σ',H',I,q⟩:=h;exact#[σ',H',I.cz,q]
 |ret u=>obtain⟨v,σ',H',I,r,q⟩:=h;exact#[v,σ',H',I.cz,r,q]
theorem PE.rW(h:PE X.rW e t):PE X e t:=λah s Y H Q I hw=>
 i7 (h ah s Y H Q (I.wish _) hw) (by rintro _ _ ⟨v,H',I',r,q⟩;exact#[v,H',I'.cz,r,q]) λ_ _ z=>False.elim z
theorem PT.rW(h:PT X.rW e t):PT X e t:=λah s Y H Q I hw=>
 i7 (h ah s Y H Q (I.wish _) hw) (by rintro _ _ ⟨H',I',q⟩;exact#[H',I'.cz,q]) λ_ _ z=>False.elim z
theorem pZ.rW{st:List Stmt}{t:TS}(h:pZ X.rW st t):pZ X st t:=λah s Y H D I hw=>
 i7 (h ah s Y H D (I.wish _) hw) (λ_ _ q=>q.cz) λ_ _ z=>False.elim z
end
section
variable{X:Cx}{st:Stmt}{rest:List Stmt}{t u:TS}{e:Expr}{te:TE}{pos:Pos}
def YB:TS:=λD Y H=>D.nx Y H
def YC(t u:TS):TS:=λD Y H=>t { D with nx:=u D} Y H
theorem za:pZ X [] YB:=λ_ _ Y H _ I h=>wpAny_execs_nil #[Y,H,I,h]
theorem cS(h1:PS X st t)(h2:pZ X rest u):pZ X (st::rest) (YC t u):=by
 intro ah s Y H D I h;refine A5 (bD (h1 ah s Y H { D with nx:=u D} I h) λf s1 q=>?_)
 cases f with
 |next=>obtain⟨σ',H',I',q⟩:=q;exact h2 ah s1 σ' H' D I' q
 |ret v=>exact q
 |brk=>exact q
 |cont=>exact q
theorem KQ(h1:PS X st t):pZ X [st] t:=by
 intro ah s Y H D I h;refine A5 (bD (h1 ah s Y H D I h) λf s1 q=>?_)
 cases f with
 |next=>exact wpAny_execs_nil q
 |ret v=>exact q
 |brk=>exact q
 |cont=>exact q
theorem Inv.quiet{ah: ~~~1}{Y:St}{H:Hp}{s:Shared}(I: ~~~7):interactive X.env=false:=by simp[interactive,I.ok.kind]
def YD(te:TE):TS:=λD Y H=>te Y H λ_ H1=>D.nx Y H1
theorem lP(he:PE X e te)(hs:swapsWith e none pos.line X.env=pure false:=by rfl):PS X (.Expr e pos) (YD te):=by intro ah s Y H D I h;exact wpAny_Expr_any (bD (he ah s Y H _ I h) (by rintro v s1 ⟨x,H1,I1,r1,q1⟩;exact#[Y,H1,I1,q1])) I.quiet hs
def tRet(te:TE):TS:=λD Y H=>te Y H D.rt
theorem rX(he:PE X e te):PS X (.Return (!e) pos) (tRet te):=by intro ah s Y H D I h;exact wpAny_Return_some (bD (he ah s Y H _ I h) (by rintro v s1 ⟨x,H1,I1,r1,q1⟩;exact#[x,Y,H1,I1,r1,q1]))
noncomputable def tIfS(c:TT)(t u:TS):TS:=λD Y H=>c Y H λb H1=>if b=true then t D Y H1 else u D Y H1
theorem uE{c:Expr}{a b:List Stmt}{tc:TT}(hc:PT X c tc)(ha:pZ X a t)(hb:pZ X b u):PS X (.If c a b pos) (tIfS tc t u):=by
 intro ah s Y H D I h;refine wpAny_If (bD (hc ah s Y H _ I h) ?_);rintro d s1 ⟨H1,I1,q1⟩;cases d with
 |true=>exact ha ah s1 Y H1 D I1 q1
 |false=>exact hb ah s1 Y H1 D I1 q1
def RQ:TS:=λ_ _ _=>False
theorem bu:pZ X d8 RQ:=λ_ _ _ _ _ _ h=>h.elim
end
abbrev TG:=V->St->Hp->(St->Hp->Prop)->Prop
abbrev RT:=List V->St->Hp->(St->Hp->Prop)->Prop
def PG(X:Cx)(target:Expr)(t:TG):Prop:=
 ∀(ah: ~~~1) (s:Shared) (Y:St) (H:Hp) (v:V) (u:Value) (Q:St->Hp->Prop),Inv X ah Y H s->RelV v u->t v Y H Q->
  wpAny (~~~2) X.A (assign target X.env u) (λ_ s'=>∃σ' H',Inv X ah σ' H' s'/\Q σ' H') X.xe s
def XC(X:Cx)(ts:List Expr)(t:RT):Prop:=
 ∀(ah: ~~~1) (s:Shared) (Y:St) (H:Hp) (vs:List V) (us:List Value) (Q:St->Hp->Prop),Inv X ah Y H s->Vals vs us->t vs Y H Q->
  wpAny (~~~2) X.A (assignInOrder ((assignEach ts X.env).map (·.2)) us) (λ_ s'=>∃σ' H',Inv X ah σ' H' s'/\Q σ' H') X.xe s
abbrev KR:=V->V->V->Hp->(Hp->Prop)->Prop
def YF(X:Cx)(t:KR):Prop:=
 ∀(ah: ~~~1) (s:Shared) (Y:St) (H:Hp) (o i v:V) (ov iv u:Value) (Q:Hp->Prop),Inv X ah Y H s->RelV o ov->RelV i iv->RelV v u->t o i v H Q->
  wpAny (~~~2) X.A (setItem ov iv u) (λ_ s'=>∃H',Inv X ah Y H' s'/\Q H') X.xe s
abbrev TIp:=V->V->Hp->VK->Prop
def PIp(X:Cx)(op:Operator)(t:TIp):Prop:=
 ∀(ah: ~~~1) (s:Shared) (Y:St) (H:Hp) (x y:V) (v u:Value) (Q:VK),Inv X ah Y H s->RelV x v->RelV y u->t x y H Q->
  wpAny (~~~2) X.A (inplaceOp op v u) (EP X ah Y Q) X.xe s
section
variable{X:Cx}{pos:Pos}
def zb(i:Nat):TG:=λv Y H Q=>Q (Y.set i (!v)) H
theorem zc(hN:X.N.Nodup)(hi:X.N[i]?=!x)(hx:Loc X.env.scope x)(hf:X.fn x=true\/X.env.scope.names.lookup x=some .local:=by first |exact .inl rfl |exact .inr rfl |assumption):PG X (.Name x pos) (zb i):=by intro ah s Y H v u Q I r h;exact wpAny_assign_Name (jo I hN hi hx r (λs' I'=>#[_,H,I',h]) hf)
def gNil:RT:=λvs Y H Q=>vs=[]/\Q Y H
noncomputable def YG(t:TG)(u:RT):RT:=λvs Y H Q=>∃v r,vs=v::r/\t v Y H λσ' H'=>u r σ' H' Q
theorem KS:XC X [] gNil:=by intro ah s Y H vs us Q I r h;obtain⟨e,h⟩:=h;subst e;exact assignInOrder_nil #[Y,H,I,h]
theorem Ew{e:Expr}{es:List Expr}{t:TG}{u:RT}(h1:PG X e t)(h2:XC X es u)
  (hs:(assignEach (e::es) X.env).map (·.2)=assign e X.env::(assignEach es X.env).map (·.2):=by rfl):XC X (e::es) (YG t u):=by
 intro ah s Y H vs us Q I r h;obtain⟨v,vr,e1,h⟩:=h;subst e1;cases r with
 |cons r rr=>rw[hs];refine assignInOrder_cons (bD (h1 ah s Y H _ _ _ I r h) ?_);rintro _ s1 ⟨σ1,H1,I1,q1⟩;exact h2 ah s1 σ1 H1 _ _ Q I1 rr q1
def gTup(K:Frag)(n:Nat)(t:RT):TG:=λv Y H Q=>∃a xs,v=.ref a/\eU K H a xs/\xs.length=n/\t xs Y H Q
theorem RV(hc:X.calm=true)(h:XC X es t)
  (hn:(assignEach es X.env).length=n:=by rfl) (b9:(assignEach es X.env).findIdx? (·.1)=none:=by rfl):PG X (.Tuple es k pos) (gTup X.K n t):=by
 intro ah s Y H v u Q I r hw;obtain⟨a,xs,e1,hq,hl,hw⟩:=hw;subst e1;cases r;obtain⟨its,rv,ht,hz⟩:=I.tuple hq;refine assign_Tuple_tuple (I.ok.hd hc) ht (by simp[hn,<- hl,rv.length]) b9 λh' hx=>?_
 have I1:=I.kept (t':=s.toks) λb o e=>hx b o (fA (dS e)) e
 exact h ah _ Y H xs _ Q I1 (by simpa using rv) hw
noncomputable def gSub(to ti:TE)(t:KR):TG:=λv Y H Q=>to Y H λo H1=>ti Y H1 λi H2=>t o i v H2 λH3=>Q Y H3
theorem RW{o i:Expr}{to ti:TE}{t:KR}(ho:PE X o to)(hi:PE X i ti)(hs:YF X t)
  (ha:∀v,assign (.Subscript o i pos) X.env v=(do
   let ov <- holding [v] (eval o X.env)
   let iv <- holding [v,ov] (eval i X.env)
   standAt pos
   holding [v,ov,iv] (setItem ov iv v)
   release [v,ov,iv] []):=by intro _;rfl):PG X (.Subscript o i pos) (gSub to ti t):=by
 intro ah s Y H v u Q I r h;refine aS (hU (bD (ho ah s Y H _ I h) ?_));rintro ov s1 ⟨x,H1,I1,r1,q1⟩;refine aS (hU (bD (hi ah s1 Y H1 _ I1 q1) ?_));rintro iv s2 ⟨y,H2,I2,r2,q2⟩;refine aS (AE (aS (hU (bD (hs ah s2 Y H2 x y v ov iv u _ I2 r1 r2 r q2) ?_))));rintro _ s3 ⟨H3,I3,q3⟩;exact wpAny_release #[Y,H3,I3,q3]
def KY(te:TE)(g:TG):TS:=λD Y H=>te Y H λx H1=>g x Y H1 D.nx
theorem RX{tg e:Expr}{te:TE}{g:TG}(he:PE X e te)(hg:PG X tg g)(hs:swapsWithSole [tg] e pos.line X.env=pure false:=by rfl)(hw:swappedStores [tg] e X.env=pure none:=by rfl)
  (h1:(assignEach [tg] X.env).map (·.2)=[assign tg X.env]:=by rfl):PS X (.Assign [tg] e pos) (KY te g):=by
 intro ah s Y H D I h;refine wpAny_Assign_stores (bD (he ah s Y H _ I h) ?_) hs hw;rintro v s1 ⟨x,H1,I1,r1,q1⟩;rw[h1];exact bD (hg ah s1 Y H1 x v _ I1 r1 q1) λ_ s2 q=>q
theorem fZ{i:Nat}{x:Str}{e:Expr}{te:TE}{pos':Pos}(hN:X.N.Nodup)(hi:X.N[i]?=!x)(hx:Loc X.env.scope x)(he:PE X e te)(hs:swapsWith e (!(.Name x pos')) pos.line X.env=pure false:=by rfl)(hf:X.fn x=true\/X.env.scope.names.lookup x=some .local:=by first |exact .inl rfl |exact .inr rfl |assumption) :
  PS X (.Assign [.Name x pos'] e pos) (KY te (zb i)):=by
 intro ah s Y H D I h;refine wpAny_Assign_Name (bD (he ah s Y H _ I h) ?_) hs;rintro v s1 ⟨y,H1,I1,r1,q1⟩;exact jo I1 hN hi hx r1 (λs2 I2=>#[_,H1,I2,q1]) hf
noncomputable def tAug(i:Nat)(te:TE)(ti:TIp):TS:=λD Y H=>∃x,Y[i]?=!(!x)/\te Y H λy H1=>ti x y H1 λz H2=>D.nx (Y.set i (!z)) H2
theorem Ey{i:Nat}{x:Str}{e:Expr}{te:TE}{op:Operator}{ti:TIp}{pos':Pos}(hN:X.N.Nodup)(hi:X.N[i]?=!x)(hx:Loc X.env.scope x)(he:PE X e te)(ho:PIp X op ti)(hf:X.fn x=true\/X.env.scope.names.lookup x=some .local:=by first |exact .inl rfl |exact .inr rfl |assumption) :
  PS X (.AugAssign (.Name x pos') op e pos) (tAug i te ti):=by
 intro ah s Y H D I h;obtain⟨v,e1,h⟩:=h;obtain⟨m,hn,hl⟩:=I.loc;have vis:um X.env.scope x:=by rcases hx with k |k;exact .inl k;exact .inr (.inl k)
 obtain⟨u,r,l⟩:=hl i x v hi e1 vis;refine wpAny_AugAssign_Name ?_;have go:wpAny (~~~2) X.A (eval e X.env) (λw s₂=>wpAny (~~~2) X.A (inplaceOp op u w) (λr s₃=>wpAny (~~~2) X.A (storeName X.env x r) (λ_=>SP X ah D .next) X.xe s₃) X.xe s₂) X.xe s:=by refine bD (he ah s Y H _ I h) ?_;rintro w s1 ⟨y,H1,I1,r1,q1⟩;refine bD (ho ah s1 Y H1 v y u w _ I1 r r1 q1) ?_;rintro z s2 ⟨zv,H2,I2,r2,q2⟩;exact jo I2 hN hi hx r2 (λs3 I3=>#[_,H2,I3,q2]) hf
 rcases l with ⟨hk,hm⟩ |⟨hk,c,hc,hcell⟩
 . exact wpAny_loadName_local I.ok.kind hk hn hm go
 .
  rcases hk with hk |hk
  . exact wpAny_loadName_cell I.ok.kind hk hc hcell go
  .
   rcases hx with k |k
   . have:X.env.scope.names.lookup x=some .free:=hk;rw[k]at this;cases this
   . have:X.env.scope.names.lookup x=some .free:=hk;rw[k]at this;cases this
end
section
variable{X:Cx}{pos:Pos}
noncomputable def RZ(c:TT)(tb:TS):TS:=λD Y H=>∃W:Nat->St->Hp->Prop,(∃m,W m Y H)/\∀m Y H,W m Y H->
 c Y H λb H1=>if b=true then ∃N:St->Hp->Prop,(∀σ' H',N σ' H'->∃m',m'<m/\W m' σ' H')/\tb { D with nx:=N,ct:=N,bk:=D.nx} Y H1 else D.nx Y H1
theorem uF{c:Expr}{body:List Stmt}{tc:TT}{tb:TS}(hp:PassesOwn (~~~2) X.A X.env X.xe)(hc:PT X c tc)(hb:pZ X body tb):PS X (.While c body [] pos) (RZ tc tb):=by
 intro ah s Y H D I h;obtain⟨W,⟨m0,w0⟩,turn⟩:=h;refine wpAny_While (codeAny_whileLoop (λn s'=>∃σ' H',Inv X ah σ' H' s'/\W n σ' H') ?_ m0 #[Y,H,I,w0])
 rintro n s1 ⟨σ1,H1,I1,w1⟩;refine AG hp (bD (hc ah s1 σ1 H1 _ I1 (turn n σ1 H1 w1)) ?_);rintro b s2 ⟨H2,I2,q2⟩;cases b with
 |true=>
  obtain⟨N,hN,q2⟩:=q2;refine AG hp (bD (hb ah s2 σ1 H2 _ I2 q2) λf s3 q3=>?_)
  cases f with
  |next=>obtain⟨σ3,H3,I3,n3⟩:=q3;obtain⟨m',hm,w3⟩:=hN σ3 H3 n3;exact#[m',hm,σ3,H3,I3,w3]
  |cont=>obtain⟨σ3,H3,I3,n3⟩:=q3;obtain⟨m',hm,w3⟩:=hN σ3 H3 n3;exact#[m',hm,σ3,H3,I3,w3]
  |brk=>exact q3
  |ret v=>exact q3
 |false=>exact wpAny_execs_nil #[σ1,H2,I2,q2]
end
structure It where
 go:Nat->Hp->Prop
 XD:Nat->Hp->V->Hp->Prop
 stop:Nat->Hp->Prop
def jR(X:Cx)(ah: ~~~1)(H:Hp)(b:Addr):Prop:=
 H b=none/\b≠X.env.locals/\b∉X.fs/\(b∈X.ex\/X.s₀⁻¹<=b)/\(∀x c,X.env.cells.lookup x=!c->c≠b)/\∀p∈X.pn++ah,p.1≠b
theorem Inv.Bb{X:Cx}{ah: ~~~1}{Y:St}{H H':Hp}{s:Shared}{b:Addr}(I: ~~~7)(hb:s⁻¹<=b)(hn:H' b=none):jR X ah H' b:=by
 refine#[hn,AS (eM I.lt hb),I.nofs hb,.inr (n0 I.sz hb),λx c e z=>?_,λp hp z=>?_]
 . obtain⟨v,q⟩:=I.cell x c e;exact absurd (eM q.lt (by rw[z];exact hb)) (nN _)
 . exact absurd (eM (dS (I.pin p hp).1) (by rw[z];exact hb)) (nN _)
structure Turn(P:Program)(w:World)(K:Frag)(tg:Expr)(J:It)(fp:List Addr)(it:Addr)(tn:Nat->Heap->Prop):Prop where
 mem:it∈fp
 obj:∀i h,tn i h->∀b∈fp,∃o,h.get? b=!o/\∀v,o.data≠.cell v
 keep:∀i h h',tn i h->(∀b∈fp,∀o,h.get? b=!o->h'.get? b=!o)->tn i h'
 item:∀(X:Cx),X.prog=P->X.w=w->X.K=K->X.calm=true->∀(i:Nat) (ah: ~~~1) (s:Shared) (Y:St) (H:Hp) (E:Value->Shared->Prop),Inv X ah Y H s->(∀b∈fp,jR X ah H b)->tn i s.heap->J.go i H->
  wpAny (model P w) X.A (pyNext (.ref it)) (λr s1=>∃u,r=!u/\
   wpAny (model P w) X.A (letOwnedTupleGo tg (.ref it) u) (λ_ s2=>∃x H',Inv X ah Y H' s2/\RelV x u/\J.XD i H x H'/\tn (i+1) s2.heap/\∀b∈fp,H' b=none) E s1) E s
 done:∀(X:Cx),X.prog=P->X.w=w->X.K=K->X.calm=true->∀(i:Nat) (ah: ~~~1) (s:Shared) (Y:St) (H:Hp) (E:Value->Shared->Prop),Inv X ah Y H s->(∀b∈fp,jR X ah H b)->tn i s.heap->J.stop i H->
  wpAny (model P w) X.A (pyNext (.ref it)) (λr s1=>r=none/\Inv X ah Y H s1) E s
 self:∀(A:Around) (i:Nat) (s:Shared) (Q:Value->Shared->Prop) (E:Value->Shared->Prop),tn i s.heap->Q (.ref it) s->wpAny (model P w) A (pyIter (.ref it)) Q E s
abbrev TI:=St->Hp->(It->Hp->Prop)->Prop
def PIE(X:Cx)(ah: ~~~1)(Y:St)(tg:Expr)(R:It->Hp->Prop)(itv:Value)(s2:Shared):Prop:=
 ∃(it:Addr) (fp:List Addr) (tn:Nat->Heap->Prop) (J:It) (H':Hp),itv=.ref it/\Inv X ah Y H' s2/\Turn X.prog X.w X.K tg J fp it tn/\tn 0 s2.heap/\(∀b∈fp,jR X ah H' b)/\R J H'
def PI(X:Cx)(tg iter:Expr)(wi:TI):Prop:=
 ∀(ah: ~~~1) (s:Shared) (Y:St) (H:Hp) (R:It->Hp->Prop),Inv X ah Y H s->wi Y H R->
  wpAny (~~~2) X.A (eval iter X.env) (λv s1=>wpAny (~~~2) X.A (pyIter v) (PIE X ah Y tg R) X.xe s1) X.xe s
theorem Ez(ho:s.heap.get? it=!o)(hc:o.cls=.type n)(hd:o.data=.fields vs)
  (hn:["enumerate", "zip", "dict_itemiterator", "dict_reverseitemiterator", "odict_iterator", "itertools.zip_longest", "itertools.pairwise"].contains n=false) (hQ:Q () s):wpAny M A (letOwnedTupleGo tg (.ref it) u) Q E s:=by
 cases tg <;> first
  |exact a8 hQ
  | (cases u <;> first
    |exact a8 hQ
    | (refine aS (wpAny_load ho ?_)
       rw[hc,hd];show wpAny M A (if (["enumerate", "zip", "dict_itemiterator", "dict_reverseitemiterator", "odict_iterator", "itertools.zip_longest", "itertools.pairwise"].contains n&&vs[0]?==!(rawInt _))=true then _ else _) Q E s
       rw[fN (by intro h;rw[hn]at h;symm)]
       exact a8 hQ))
def Itl(K:Frag)(a:Addr):It:=
 #[λi H=>∃xs x,cu K H a xs/\xs[i]?=!x,λi H x H'=>H'=H/\∀xs,cu K H a xs->xs[i]?=!x,λi H=>∃xs,cu K H a xs/\xs.length<=i]
def Itt(K:Frag)(a:Addr):It:=
 #[λi H=>∃xs x,eU K H a xs/\xs[i]?=!x,λi H x H'=>H'=H/\∀xs,eU K H a xs->xs[i]?=!x,λi H=>∃xs,eU K H a xs/\xs.length<=i]
noncomputable def R3(lo:Int)(n:Nat):It:=#[λi _=>i<n,λi H x H'=>H'=H/\x=.int (lo+i),λi _=>n<=i]
theorem Bc{P:Program}{w:World}{K:Frag}{tg:Expr}(a it:Addr):Turn P w K tg (Itl K a) [it] it (λi h=>h.IsListIter it a i) where
 mem:=by simp
 obj:=λi h st b hb=>by
  have e:b=it:=by simpa using hb
  subst e;obtain⟨o,e,c,d⟩:=st;exact#[o,e,λv z=>by rw[d]at z;cases z]
 keep:=λi h h' st k=>st.at λo e=>k it ⋯ o e
 item:=by
  intro X hP hw hK hc i ah s Y H E I hf st hg;subst hP hw hK;obtain⟨xs,x,hq,hx⟩:=hg;obtain⟨its,rv,p,hz⟩:=I.list hq;obtain⟨u,hu,ru⟩:=rv.get hx;obtain⟨f0,f1,f2,f3,f4,f5⟩:=hf it ⋯;refine wpAny_pyNext_list_item st p.isList (by simpa using hu) λh' st' sb=>?_
  have I1:=I.turned (t':=s.toks) (λb o hb e=>(sb.2 b hb).trans e) f0 f1 f3 f4 f5
  obtain⟨o,e,c,d⟩:=id st';exact#[u,rfl,Ez e c d ⋯ #[x,H,I1,ru,#[rfl,λys hy=>by rw[I.Eu hy hq];exact hx],st',λb hb=>(hf b hb).1]]
 done:=by intro X hP hw hK hc i ah s Y H E I hf st hg;subst hP hw hK;obtain⟨xs,hq,hx⟩:=hg;obtain⟨its,rv,p,hz⟩:=I.list hq;obtain⟨f0,f1,f2,f3,f4,f5⟩:=hf it ⋯;have hl:=rv.length;exact wpAny_pyNext_list_end (I.ok.hd hc) st p.isList (by simp;lia) λh' eb=>#[rfl,I.turned (λb o hb e=>eb b o hb e) f0 f1 f3 f4 f5]
 self:=λ_ _ _ _ _ st h=>wpAny_pyIter_listiter st h
theorem xh{P:Program}{w:World}{K:Frag}{tg:Expr}(a it:Addr):Turn P w K tg (Itt K a) [it] it (λi h=>h.IsTupleIter it a i) where
 mem:=by simp
 obj:=λi h st b hb=>by
  have e:b=it:=by simpa using hb
  subst e;obtain⟨o,e,c,d⟩:=st;exact#[o,e,λv z=>by rw[d]at z;cases z]
 keep:=λi h h' st k=>st.at λo e=>k it ⋯ o e
 item:=by
  intro X hP hw hK hc i ah s Y H E I hf st hg;subst hP hw hK;obtain⟨xs,x,hq,hx⟩:=hg;obtain⟨its,rv,p,hz⟩:=I.tuple hq;obtain⟨u,hu,ru⟩:=rv.get hx;obtain⟨f0,f1,f2,f3,f4,f5⟩:=hf it ⋯;refine wpAny_pyNext_tuple_item st (show s.heap.IsTuple a its.toArray from p) (by simpa using hu) λh' st' sb=>?_
  have I1:=I.turned (t':=s.toks) (λb o hb e=>(sb.2 b hb).trans e) f0 f1 f3 f4 f5
  obtain⟨o,e,c,d⟩:=id st';exact#[u,rfl,Ez e c d ⋯ #[x,H,I1,ru,#[rfl,λys hy=>by rw[I.p6 hy hq];exact hx],st',λb hb=>(hf b hb).1]]
 done:=by intro X hP hw hK hc i ah s Y H E I hf st hg;subst hP hw hK;obtain⟨xs,hq,hx⟩:=hg;obtain⟨its,rv,p,hz⟩:=I.tuple hq;obtain⟨f0,f1,f2,f3,f4,f5⟩:=hf it ⋯;have hl:=rv.length;exact wpAny_pyNext_tuple_end (I.ok.hd hc) st (show s.heap.IsTuple a its.toArray from p) (by simp;lia) λh' eb=>#[rfl,I.turned (λb o hb e=>eb b o hb e) f0 f1 f3 f4 f5]
 self:=λ_ _ _ _ _ st h=>wpAny_pyIter_tupleiter st h
theorem xm{P:Program}{w:World}{K:Frag}{tg:Expr}(it:Addr)(lo:Int)(n:Nat):Turn P w K tg (R3 lo n) [it] it (λi h=>IsRangeIter h it (lo+(i:Nat) * 1) ((n:Int) - (i:Nat)) 1) where
 mem:=by simp
 obj:=λi h st b hb=>by
  have e:b=it:=by simpa using hb
  subst e;exact#[_,st,λv z=>by
   have z':=z;cases z']
 keep:=λi h h' st k=>k it ⋯ _ st
 item:=by
  intro X hP hw hK hc i ah s Y H E I hf st hg;subst hP hw hK;obtain⟨f0,f1,f2,f3,f4,f5⟩:=hf it ⋯;have W:=Walks.range (prog:=X.prog) (w:=X.w) (I.ok.hd hc) it lo 1 n;refine W.item i s _ _ hg st λv h' tk hv st' kk=>?_
  obtain⟨t,rfl⟩:=hv;have I1:Inv X ah Y H { s with heap:=h',toks:=tk}:=I.turned (λb o hb e=>kk b o (by simpa using hb) e) f0 f1 f3 f4 f5
  refine#[_,rfl,Ez st' rfl rfl ⋯ #[.int (lo+i),H,I1,#[t,?_],#[rfl,rfl],st',λb hb=>(hf b hb).1]]
  rw[Int.mul_one]
 done:=by intro X hP hw hK hc i ah s Y H E I hf st hg;obtain⟨f0,f1,f2,f3,f4,f5⟩:=hf it ⋯;exact wpAny_pyNext_range_end (I.ok.hd hc) st (by have:n<=i:=hg;lia) λh' eb=>#[rfl,I.turned (λb o hb e=>eb b o hb e) f0 f1 f3 f4 f5]
 self:=λ_ _ _ _ _ st h=>wpAny_pyIter_rangeiter st h
section
variable{X:Cx}{tg:Expr}
def YH(K:Frag)(tl:TE):TI:=λY H R=>tl Y H λx H1=>∃a,x=.ref a/\(∃xs,cu K H1 a xs)/\R (Itl K a) H1
def iTup(K:Frag)(tl:TE):TI:=λY H R=>tl Y H λx H1=>∃a,x=.ref a/\(∃xs,eU K H1 a xs)/\R (Itt K a) H1
theorem zg{l:Expr}{tl:TE}(hl:PE X l tl):PI X tg l (YH X.K tl):=by
 intro ah s Y H R I h;refine bD (hl ah s Y H _ I h) ?_;rintro v s1 ⟨x,H1,I1,r1,q1⟩;obtain⟨a,e,⟨xs,hq⟩,q⟩:=q1;subst e;cases r1;obtain⟨its,rv,p,hz⟩:=I1.list hq;refine AH p.isList ?_;refine#[s1⁻¹,[s1⁻¹],_,_,H1,rfl,I1.kept λb o e=>a9 _ e,Bc a _,#[_,dC _ rfl,rfl,rfl],λb hb=>?_,q]
 have e:b=s1⁻¹:=by simpa using hb
 subst e;exact I1.Bb (dE _) (I1.hok.fresh (dE _))
theorem R4{l:Expr}{tl:TE}(hl:PE X l tl):PI X tg l (iTup X.K tl):=by
 intro ah s Y H R I h;refine bD (hl ah s Y H _ I h) ?_;rintro v s1 ⟨x,H1,I1,r1,q1⟩;obtain⟨a,e,⟨xs,hq⟩,q⟩:=q1;subst e;cases r1;obtain⟨its,rv,p,hz⟩:=I1.tuple hq;refine wT (show s1.heap.IsTuple a its.toArray from p) ?_
 refine#[s1⁻¹,[s1⁻¹],_,_,H1,rfl,I1.kept λb o e=>a9 _ e,xh a _,#[_,dC _ rfl,rfl,rfl],λb hb=>?_,q]
 have e:b=s1⁻¹:=by simpa using hb
 subst e;exact I1.Bb (dE _) (I1.hok.fresh (dE _))
theorem uG{ah: ~~~1}{Y:St}{H:Hp}{s:Shared}{R:It->Hp->Prop}{E:Value->Shared->Prop}{lo hi:Int}{t u v:Tok}{tk:Nat}(I: ~~~7)(h1 : -(2 ^ 62)<=lo)(h2:lo<2 ^ 62)(h3 : -(2 ^ 62)<=hi)(h4:hi<2 ^ 62)
  (q:R (R3 lo (hi - lo).toNat) H):wpAny (~~~2) X.A (pyIter (.ref s⁻¹)) (PIE X ah Y tg R) E { s with heap:=s.heap.push { cls:=.type "range",data:=.fields ([.int lo t,.int hi u,.int 1 v].toArray)},toks:=tk}:=by
 refine wpAny_pyIter_range (IsRange.new ..) (small_one h1 h2 h3 h4) ?_;have I1:Inv X ah Y H { s with heap:=s.heap.push { cls:=.type "range",data:=.fields ([.int lo t,.int hi u,.int 1 v].toArray)},toks:=tk}:=I.kept λb o e=>a9 _ e
 refine#[(s.heap.push { cls:=.type "range",data:=.fields ([.int lo t,.int hi u,.int 1 v].toArray)}).objs.size,[(s.heap.push { cls:=.type "range",data:=.fields ([.int lo t,.int hi u,.int 1 v].toArray)}).objs.size],_,_,H,rfl,
  I1.kept λb o e=>a9 _ e,xm _ lo (hi - lo).toNat,?_,λb hb=>?_,q]
 .
  have e1:lo+((0:Nat):Int) * 1=lo:=by simp
  have e2:(((hi - lo).toNat:Nat):Int) - ((0:Nat):Int)=Builtin.Range.rangeSize lo hi 1:=by rw[rangeSize_one];split <;> lia
  rw[e1,e2];exact dC _ rfl
 .
  have e:b=(s.heap.push { cls:=.type "range",data:=.fields ([.int lo t,.int hi u,.int 1 v].toArray)}).objs.size:=by simpa using hb
  subst e;exact I1.Bb (dE _) (I1.hok.fresh (dE _))
def YJ(ta:TA):TI:=λY H R=>ta Y H λvs H1=>∃j:Int,vs=[.int j]/\-(2 ^ 62)<=j/\j<2 ^ 62/\R (R3 0 j.toNat) H1
def YK(ta:TA):TI:=λY H R=>ta Y H λvs H1=>∃i j:Int,vs=[.int i,.int j]/\(-(2 ^ 62)<=i/\i<2 ^ 62/\-(2 ^ 62)<=j/\j<2 ^ 62)/\R (R3 i (j - i).toNat) H1
theorem Bd{a:Expr}{ta:TA}{p pos:Pos}(hg:Gl X "range")(hm:X.mg "range"=none)(ha:PA X [a] ta)(hs:starEach [a] X.env=[(false,eval a X.env)]:=by rfl):PI X tg (.Call (.Name "range" p) [a] [] pos) (YJ ta):=by
 intro ah s Y H R I h;refine Call_ (dP I hg hm boot_range (oC (bD (ha pos ah s Y H _ I h) ?_) hs rfl));rintro us s1 ⟨vs,H1,I1,r1,q1⟩;obtain⟨j,e,q1,q2,q⟩:=q1;subst e;cases r1 with
 |cons r rr=>cases rr;obtain⟨t,rfl⟩:=r;exact call_range_1 (uG I1 ⋯ ⋯ q1 q2 (by simpa using q))
theorem Be{a b:Expr}{ta:TA}{p pos:Pos}(hg:Gl X "range")(hm:X.mg "range"=none)(ha:PA X [a,b] ta)(hs:starEach [a,b] X.env=[(false,eval a X.env),(false,eval b X.env)]:=by rfl)(hs2:starEach [b] X.env=[(false,eval b X.env)]:=by rfl) :
  PI X tg (.Call (.Name "range" p) [a,b] [] pos) (YK ta):=by
 intro ah s Y H R I h;refine Call_ (dP I hg hm boot_range (oC (bD (ha pos ah s Y H _ I h) λus s1 #[vs,H1,I1,r1,q1]=>?_) (by rw[hs,hs2]) (by rw[hs2];rfl)))
 obtain⟨i,j,e,⟨q1,q2,q3,q4⟩,q⟩:=q1;subst e;cases r1 with
 |cons r rr=>
  cases rr with
  |cons r' rr=>cases rr;obtain⟨t,rfl⟩:=r;obtain⟨t',rfl⟩:=r';exact call_range_2 (uG I1 q1 q2 q3 q4 q)
noncomputable def tFor(wi:TI)(g:TG)(tb:TS):TS:=λD Y H=>wi Y H λJ H1=>∃W:Nat->Nat->St->Hp->Prop,(∃m,W 0 m Y H1)/\∀i m Y H,W i m Y H->
 (J.stop i H/\D.nx Y H)\/(J.go i H/\∃N:St->Hp->Prop,(∀σ' H',N σ' H'->∃m',m'<m/\W (i+1) m' σ' H')/\∀x H',J.XD i H x H'->g x Y H' λσ2 H2=>tb { D with nx:=N,ct:=N,bk:=D.nx} σ2 H2)
noncomputable def jS(fp:List Addr)(h:Heap): ~~~1:=fp.filterMap λb=>(h.get? b).map λo=>(b,o)
theorem cG{fp:List Addr}{h:Heap}{b:Addr}{o:Obj}(hb:b∈fp)(e:h.get? b=!o):(b,o)∈jS fp h:=List.mem_filterMap.mpr #[b,hb,by rw[e];rfl]
theorem Bf(hp:p∈jS fp h):p.1∈fp/\h.get? p.1=!p.2:=by
 obtain⟨b,hb,e⟩:=List.mem_filterMap.mp hp;cases q:h.get? b with
 |none=>rw[q]at e;cases e
 |some o=>rw[q]at e;have e':=mI e;subst e';exact#[hb,q]
theorem Inv.pinned{ah: ~~~1}{Y:St}{H:Hp}{s:Shared}{fp:List Addr}(I: ~~~7)(hf:∀b∈fp,jR X ah H b)(ho:∀b∈fp,∃o,s.heap.get? b=!o/\∀v,o.data≠.cell v):Inv X (ah++jS fp s.heap) Y H s:=
 I.y9 λp hp=>(vS.mp hp).elim (λz=>I.pin p (gN _ z)) λz=>by
  obtain⟨hb,e⟩:=Bf z;obtain⟨f0,f1,f2,_⟩:=hf p.1 hb;obtain⟨o,e',d⟩:=ho p.1 hb;rw[e]at e';cases e';exact#[e,f0,f1,f2,d]
theorem Inv.gi{ah pl: ~~~1}{Y:St}{H:Hp}{s:Shared}(I:Inv X (ah++pl) Y H s):Inv X ah Y H s:=I.y9 λp hp=>I.pin p (gN _ (t7 _ hp))
theorem EY{iter:Expr}{body:List Stmt}{wi:TI}{g:TG}{tb:TS}{pos:Pos}(hp:PassesOwn (~~~2) X.A X.env X.xe)(hc:X.calm=true)(hi:PI X tg iter wi)(hg:PG X tg g)(hb:pZ X body tb)
  (hs:∀x,foldedSetIterable iter X.env x=pure x:=by intro _;rfl):PS X (.For tg iter body [] pos) (tFor wi g tb):=by
 intro ah s Y H D I h;refine wpAny_For (bD (hi ah s Y H _ I h) λv s1 h1=>bD h1 λitv s2 h2=>?_) hs
 obtain⟨it,fp,tn,J,H2,e,I2,T,aG,f2,W,⟨m0,w0⟩,turn⟩:=h2;subst e;have stat:∀{H':Hp},(∀b∈fp,H' b=none)->∀b∈fp,jR X ah H' b:=λhn b hb=>#[hn b hb,(f2 b hb).2]
 refine codeAny_forLoop_any (λn s'=>∃i σ' H',Inv X ah σ' H' s'/\tn i s'.heap/\(∀b∈fp,H' b=none)/\W i n σ' H') ?_ m0 #[0,Y,H2,I2,aG,λb hb=>(f2 b hb).1,w0]
 rintro n s3 ⟨i,σ3,H3,I3,cY,QC,w3⟩;rcases turn i n σ3 H3 w3 with ⟨stop,qn⟩ |⟨go,N,hN,step⟩
 . refine AG hp (bD (T.done X rfl rfl rfl hc i ah s3 σ3 H3 X.xe I3 (stat QC) cY stop) ?_);rintro r s4 ⟨hr,I4⟩;subst hr;exact wpAny_execs_nil #[σ3,H3,I4,qn]
 .
  refine AG hp (bD (T.item X rfl rfl rfl hc i ah s3 σ3 H3 X.xe I3 (stat QC) cY go) ?_);rintro r s4 ⟨u,hr,h4⟩;subst hr;refine AG hp (bD h4 ?_);rintro _ s5 ⟨x,H5,I5,r5,y5,jT,YL⟩;have YM:=I5.pinned (stat YL) (T.obj _ _ jT);refine AG hp (bD (hg _ s5 σ3 H5 x u _ YM r5 (step x H5 y5)) ?_);rintro _ s6 ⟨σ6,H6,I6,q6⟩;refine AG hp (bD (hb _ s6 σ6 H6 _ I6 q6) λf s7 q7=>?_)
  have again:∀{σ7:St}{H7:Hp},Inv X (ah++jS fp s5.heap) σ7 H7 s7->N σ7 H7->∃m,m<n/\∃i σ' H',Inv X ah σ' H' s7/\tn i s7.heap/\(∀b∈fp,H' b=none)/\W i m σ' H':=λ{σ7 H7} I7 n7=>by
   obtain⟨m',hm,w7⟩:=hN σ7 H7 n7;refine#[m',hm,i+1,σ7,H7,I7.gi,T.keep _ _ _ jT λb hb o e=>(I7.pin (b,o) (gN _ (gN _ (cG hb e)))).1,λb hb=>?_,w7]
   obtain⟨o,e,d⟩:=T.obj _ _ jT b hb;exact (I7.pin (b,o) (gN _ (gN _ (cG hb e)))).2.1
  cases f with
  |next=>obtain⟨σ7,H7,I7,n7⟩:=q7;exact again I7 n7
  |cont=>obtain⟨σ7,H7,I7,n7⟩:=q7;exact again I7 n7
  |brk=>obtain⟨σ7,H7,I7,q7⟩:=q7;exact#[σ7,H7,I7.gi,q7]
  |ret v=>obtain⟨x7,σ7,H7,I7,r7,q7⟩:=q7;exact#[x7,σ7,H7,I7.gi,r7,q7]
end
abbrev R2:=V->V->Hp->VK->Prop
def jq(X:Cx)(f:Value->Value->Sem Value)(r:R2):Prop:=
 ∀(ah: ~~~1) (s:Shared) (Y:St) (H:Hp) (x y:V) (v u:Value) (Q:VK),Inv X ah Y H s->RelV x v->RelV y u->r x y H Q->
  wpAny (~~~2) X.A (f v u) (EP X ah Y Q) X.xe s
def UnR(X:Cx)(f:Value->Sem Value)(r:V->Hp->VK->Prop):Prop:=
 ∀(ah: ~~~1) (s:Shared) (Y:St) (H:Hp) (x:V) (v:Value) (Q:VK),Inv X ah Y H s->RelV x v->r x H Q->
  wpAny (~~~2) X.A (f v) (EP X ah Y Q) X.xe s
def cF(X:Cx)(f:Value)(r:List V->Hp->VK->Prop):Prop:=
 ∀(ah: ~~~1) (s:Shared) (Y:St) (H:Hp) (xs:List V) (us:List Value) (Q:VK),Inv X ah Y H s->Vals xs us->r xs H Q->
  wpAny (~~~2) X.A (call f us) (EP X ah Y Q) X.xe s
def TruR(X:Cx)(r:V->Hp->(Bool->Hp->Prop)->Prop):Prop:=
 ∀(ah: ~~~1) (s:Shared) (Y:St) (H:Hp) (x:V) (v:Value) (Q:Bool->Hp->Prop),Inv X ah Y H s->RelV x v->r x H Q->
  wpAny (~~~2) X.A (truthy v) (TP X ah Y Q) X.xe s
noncomputable def tOp(r:R2)(ta tb:TE):TE:=λY H Q=>ta Y H λx H1=>tb Y H1 λy H2=>r x y H2 Q
def tUn(r:V->Hp->VK->Prop)(ta:TE):TE:=λY H Q=>ta Y H λx H1=>r x H1 Q
noncomputable def rI(C:Int->Int->Prop)(g:Int->Int->V):R2:=λx y H Q=>∃i j,x=.int i/\y=.int j/\C i j/\Q (g i j) H
noncomputable def Fb(g:Int->Int->V):R2:=λx y H Q=>∃i j,x=.int i/\y=.int j/\Q (g i j) H
def rU(g:Int->V):V->Hp->VK->Prop:=λx H Q=>∃i,x=.int i/\Q (g i) H
section
variable{X:Cx}{a b c:Expr}{ta tb tc:TE}{pos:Pos}
theorem R5(ha:PE X a ta)(hb:PE X b tb){ah: ~~~1}{s:Shared}{Y:St}{H:Hp}{R:V->V->Hp->Prop}(I: ~~~7)
  (h:ta Y H λx H1=>tb Y H1 λy H2=>R x y H2) {Q:Value->Shared->Prop}{f:Value->Value->Sem Value}
  (hf:∀v u s2 x y H2,Inv X ah Y H2 s2->RelV x v->RelV y u->R x y H2->wpAny (~~~2) X.A (f v u) Q X.xe s2) :
  wpAny (~~~2) X.A (eval a X.env) (λv s₁=>wpAny (~~~2) X.A (eval b X.env) (λu s₂=>wpAny (~~~2) X.A (f v u) Q X.xe s₂) X.xe s₁) X.xe s:=by
 refine bD (ha ah s Y H _ I h) λv s1 #[x,H1,I1,r1,q1]=>?_
 refine bD (hb ah s1 Y H1 _ I1 q1) λu s2 #[y,H2,I2,r2,q2]=>?_
 exact hf v u s2 x y H2 I2 r1 r2 q2
theorem YQ{op:Operator}{r:R2}(ho:jq X (binaryOp op) r)(ha:PE X a ta)(hb:PE X b tb):PE X (.BinOp a op b pos) (tOp r ta tb):=by intro ah s Y H Q I h;exact wpAny_BinOp (R5 ha hb I h λv u s2 x y H2 I2 rx ry q=>ho ah s2 Y H2 x y v u Q I2 rx ry q)
theorem YS{op:UnaryOp}{r:V->Hp->VK->Prop}(ho:UnR X (unaryOp op) r)(ha:PE X a ta):PE X (.UnaryOp op a pos) (tUn r ta):=by intro ah s Y H Q I h;exact UnaryOp_ (bD (ha ah s Y H _ I h) (by rintro v s1 ⟨x,H1,I1,r1,q1⟩;exact ho ah s1 Y H1 x v Q I1 r1 q1))
theorem YT{f:Value->Value->Sem Value}{C:Int->Int->Prop}{g:Int->Int->Int}
  (rule:∀(i j:Int) (t u:Tok) (s:Shared) (Q:Value->Shared->Prop) (E:Value->Shared->Prop),C i j->Q (.int (g i j) s.toks) { s with toks:=s.toks+1}->wpAny (~~~2) X.A (f (.int i t) (.int j u)) Q E s) :
  jq X f (rI C λi j=>.int (g i j)):=by
 intro ah s Y H x y v u Q I rx ry h;obtain⟨i,j,rfl,rfl,hc,q⟩:=h;obtain⟨t,rfl⟩:=rx;obtain⟨t',rfl⟩:=ry;exact rule i j t t' s _ _ hc #[.int (g i j),H,I.tok _,#[_,rfl],q]
theorem KZ{f:Value->Value->Sem Value}{g:Int->Int->Int}
  (rule:∀(i j:Int) (t u:Tok) (s:Shared) (Q:Value->Shared->Prop) (E:Value->Shared->Prop),Q (.int (g i j) s.toks) { s with toks:=s.toks+1}->wpAny (~~~2) X.A (f (.int i t) (.int j u)) Q E s) :
  jq X f (Fb λi j=>.int (g i j)):=by
 intro ah s Y H x y v u Q I rx ry h;obtain⟨i,j,rfl,rfl,q⟩:=h;obtain⟨t,rfl⟩:=rx;obtain⟨t',rfl⟩:=ry;exact rule i j t t' s _ _ #[.int (g i j),H,I.tok _,#[_,rfl],q]
theorem R8{f:Value->Value->Sem Value}{g:Int->Int->Bool}
  (rule:∀(i j:Int) (t u:Tok) (s:Shared) (Q:Value->Shared->Prop) (E:Value->Shared->Prop),Q (.bool (g i j)) s->wpAny (~~~2) X.A (f (.int i t) (.int j u)) Q E s) :
  jq X f (Fb λi j=>.bl (g i j)):=by
 intro ah s Y H x y v u Q I rx ry h;obtain⟨i,j,rfl,rfl,q⟩:=h;obtain⟨t,rfl⟩:=rx;obtain⟨t',rfl⟩:=ry;exact rule i j t t' s _ _ #[.bl (g i j),H,I,rfl,q]
def CPow(i j:Int):Prop:=0<=j/\j<=1000000/\i.natAbs<2 ^ 64
def K1(i j:Int):Prop:=(-(2 ^ 64)<i/\i<2 ^ 64)\/(-(2 ^ 64)<j/\j<2 ^ 64)
theorem K1.ok{i j:Int}(h:K1 i j):IntMulOk i j:=by
 rcases h with ⟨h1,h2⟩ |⟨h1,h2⟩
 . exact .of_left (intBits_le_64 h1 h2)
 . exact .of_right (intBits_le_64 h1 h2)
theorem R9:jq X (binaryOp .Add) (Fb λi j=>.int (i+j)):=KZ λ_ _ _ _ _ _ _ q=>add_int q
theorem Sd:jq X (binaryOp .Sub) (Fb λi j=>.int (i - j)):=KZ λ_ _ _ _ _ _ _ q=>sub_int q
theorem Se:jq X (binaryOp .Mult) (rI K1 λi j=>.int (i * j)):=YT λ_ _ _ _ _ _ _ hc q=>mul_int q hc.ok
theorem Sf:jq X (binaryOp .Mod) (rI (λ_ j=>0<j) λi j=>.int (i % j)):=YT λi j _ _ _ _ _ hc q=>by
 exact mod_int' ⋯ (by rw[Int.fmod_eq_emod_of_nonneg i ⋯];exact q)
theorem rY:jq X (binaryOp .Pow) (rI CPow λi j=>.int (i ^ j.toNat)):=YT λ_ _ _ _ _ _ _ hc q=>pow_int_small hc.1 hc.2.1 hc.2.2 q
theorem K3:jq X (inplaceOp .Add) (Fb λi j=>.int (i+j)):=KZ λ_ _ _ _ _ _ _ q=>iadd_int q
theorem K4:jq X (inplaceOp .Sub) (Fb λi j=>.int (i - j)):=KZ λ_ _ _ _ _ _ _ q=>isub_int q
theorem K5:jq X (inplaceOp .Mult) (rI K1 λi j=>.int (i * j)):=YT λ_ _ _ _ _ _ _ hc q=>imul_int q hc.ok
theorem unI{f:Value->Sem Value}{g:Int->Int}
  (rule:∀(i:Int) (t:Tok) (s:Shared) (Q:Value->Shared->Prop) (E:Value->Shared->Prop),Q (.int (g i) s.toks) { s with toks:=s.toks+1}->wpAny (~~~2) X.A (f (.int i t)) Q E s) :
  UnR X f (rU λi=>.int (g i)):=by
 intro ah s Y H x v Q I rx h;obtain⟨i,rfl,q⟩:=h;obtain⟨t,rfl⟩:=rx;exact rule i t s _ _ #[.int (g i),H,I.tok _,#[_,rfl],q]
theorem Sh:UnR X (unaryOp .USub) (rU λi=>.int (-i)):=unI λ_ _ _ _ _ q=>neg_int q
end
section
variable{X:Cx}{a b c:Expr}{ta tb tc:TE}{pos:Pos}
theorem YW:jq X (compareOp .Lt) (Fb λi j=>.bl (decide (i<j))):=R8 λ_ _ _ _ _ _ _ q=>lt_int q
theorem YX:jq X (compareOp .LtE) (Fb λi j=>.bl (decide (i<=j))):=R8 λ_ _ _ _ _ _ _ q=>le_int q
theorem YZ:jq X (compareOp .GtE) (Fb λi j=>.bl (decide (j<=i))):=R8 λ_ _ _ _ _ _ _ q=>ge_int q
theorem K6{op:CmpOp}{r:R2}(ho:jq X (compareOp op) r)(ha:PE X a ta)(hb:PE X b tb)(hm:behindInMarks op b=false):PE X (.Compare a [op] [b] pos) (tOp r ta tb):=by intro ah s Y H Q I h;exact wpAny_Compare1 (R5 ha hb I h λv u s2 x y H2 I2 rx ry q=>ho ah s2 Y H2 x y v u Q I2 rx ry q) hm
def Y0(t:TE):TT:=λY H Q=>t Y H λx H'=>∃k,x=.bl k/\Q k H'
theorem rZ{op:CmpOp}{r:R2}(ho:jq X (compareOp op) r)(ha:PE X a ta)(hb:PE X b tb)(hm:behindInMarks op b=false):PT X (.Compare a [op] [b] pos) (Y0 (tOp r ta tb)):=by
 intro ah s Y H Q I h;refine wpAny_isTrue_Compare1 (bD (ha ah s Y H _ I h) λv s1 #[x,H1,I1,r1,q1]=>bD (hb ah s1 Y H1 _ I1 q1) λu s2 #[y,H2,I2,r2,q2]=>
  bD (ho ah s2 Y H2 x y v u _ I2 r1 r2 q2) λc s3 #[z,H3,I3,r3,k,e,q3]=>?_) hm
 subst e;cases r3;exact nV #[H3,I3,q3]
def Y3(K:Frag)(x:V)(H:Hp)(k:Bool):Prop:=
 match x with
 |.non=>k=false
 |.bl b=>k=b
 |.int i=>k=(i != 0)
 |.str y=>y.length<=sizeLine/\k=((y.length:Int) != 0)
 |.RC y=>y.size<=sizeLine/\k=((y.size:Int) != 0)
 |.ref p=>(∃xs,cu K H p xs/\k=(not xs.isEmpty))\/(∃xs,eU K H p xs/\k=(not xs.isEmpty))\/∃dO,H p=!(.dK dO)/\k=(not dO.isEmpty)
 |_=>False
theorem xq{κ:Type}{dO:List (κ×V)}{vs:List (κ×Value)}(r:KV dO vs):((not vs.isEmpty))=(not dO.isEmpty):=by cases r <;> rfl
theorem mJ{xs:List V}{its:List Value}(r:Vals xs its):((not its.toArray.isEmpty))=(not xs.isEmpty):=by cases r <;> simp
theorem xr:(sizeLine:Nat)<2 ^ 63:=by rw[tI];decide
theorem Si:TruR X (λx H Q=>∃k,Y3 X.K x H k/\Q k H):=by
 intro ah s Y H x v Q I rx h;obtain⟨k,e,q⟩:=h;have hs:=tI;cases x with
 |non=>cases rx;have e':=e;subst e';exact truthy_none #[H,I,q]
 |bl b=>cases rx;have e':=e;subst e';exact nV #[H,I,q]
 |int i=>obtain⟨t,rfl⟩:=rx;have e':=e;subst e';exact PySem.P.truthy_int #[H,I,q]
 |str y=>obtain⟨t,rfl⟩:=rx;obtain⟨hy,e'⟩:y.length<=sizeLine/\k=((y.length:Int) != 0):=e;subst e';exact PySem.P.truthy_str ⋯ #[H,I.tok _,q]
 |RC y=>obtain⟨t,rfl⟩:=rx;obtain⟨hy,e'⟩:y.size<=sizeLine/\k=((y.size:Int) != 0):=e;subst e';exact PySem.W.truthy_bytes ⋯ #[H,I.tok _,q]
 |ref p=>
  cases rx;have e':=e;rcases e' with ⟨xs,hx,e'⟩ |⟨xs,hx,e'⟩ |⟨dO,hx,e'⟩
  . subst e';obtain⟨its,r,pl,hz⟩:=I.list hx;have aH:=r.length;exact wpAny_truthy_list pl.isList (by simp only[b8];lia) #[H,I.tok _,by rw[mJ r];exact q]
  . subst e';obtain⟨its,r,pl,hz⟩:=I.tuple hx;have aH:=r.length;exact truthy_tuple pl (by simp only[b8];lia) #[H,I.tok _,by rw[mJ r];exact q]
  . subst e';obtain⟨hz,hS,vs,r,m⟩:dO.length<=sizeLine/\(p==sysModules)=false/\∃vs,KV dO vs/\s.heap.DictOf (fC X.prog X.w) p vs:=I.hok p _ hx;have aH:=Paired.length r;exact wpAny_truthy_dict hS m ⋯ #[H,I.tok _,by rw[xq r];exact q]
 |_=>exact (show False from e).elim
theorem Fc(ha:PE X a ta)(he:∀whole,isTrue a X.env whole=(do let v <- whole;standAt a.pos;holding [v] (truthy v))) :
  PT X a (λY H Q=>ta Y H λx H'=>∃k,Y3 X.K x H' k/\Q k H'):=by
 intro ah s Y H Q I h;exact isTrue_plain (bD (ha ah s Y H _ I h) (by rintro v s1 ⟨x,H1,I1,r1,q1⟩;exact Si ah s1 Y H1 x v Q I1 r1 q1)) (he _)
theorem vals1(r:Vals [x] us):∃u,us=[u]/\RelV x u:=by
 cases r with
 |cons r1 r2=>cases r2;exact#[_,rfl,r1]
theorem vals2(r:Vals [x,y] us):∃u w',us=[u,w']/\RelV x u/\RelV y w':=by
 cases r with
 |cons r1 r2=>
  cases r2 with
  |cons r3 r4=>cases r4;exact#[_,_,rfl,r1,r3]
theorem Bg(hc:X.calm=true):cF X (.builtin "max") (λxs H Q=>∃i j,xs=[.int i,.int j]/\Q (.int (if j > i then j else i)) H):=by
 intro ah s Y H xs us Q I r h;obtain⟨i,j,rfl,q⟩:=h;obtain⟨u,w',rfl,⟨t,rfl⟩,⟨t',rfl⟩⟩:=vals2 r;refine max_two_ints (I.ok.hd hc) λh' tk k=>#[_,H,I.kept k,?_,q]
 by_cases hj:j > i
 . rw[hV hj,hV hj];exact#[_,rfl]
 . rw[fN hj,fN hj];exact#[_,rfl]
theorem Bh(hc:X.calm=true):cF X (.builtin "min") (λxs H Q=>∃i j,xs=[.int i,.int j]/\Q (.int (if j<i then j else i)) H):=by
 intro ah s Y H xs us Q I r h;obtain⟨i,j,rfl,q⟩:=h;obtain⟨u,w',rfl,⟨t,rfl⟩,⟨t',rfl⟩⟩:=vals2 r;refine min_two_ints (I.ok.hd hc) λh' tk k=>#[_,H,I.kept k,?_,q]
 by_cases hj:j<i
 . rw[hV hj,hV hj];exact#[_,rfl]
 . rw[fN hj,fN hj];exact#[_,rfl]
def LenV(K:Frag)(x:V)(H:Hp)(n:Nat):Prop:=
 match x with
 |.str y=>y.length<=sizeLine/\n=y.length
 |.RC y=>y.size<=sizeLine/\n=y.size
 |.ref p=>(∃xs,cu K H p xs/\n=xs.length)\/∃xs,eU K H p xs/\n=xs.length
 |_=>False
theorem Fd:cF X (.builtin "len") (λxs H Q=>∃x n,xs=[x]/\LenV X.K x H n/\Q (.int n) H):=by
 intro ah s Y H xs us Q I r h;obtain⟨x,n,rfl,e,q⟩:=h;obtain⟨u,rfl,rx⟩:=vals1 r;have hs:=tI;cases x with
 |str y=>obtain⟨t,rfl⟩:=rx;obtain⟨hy,e'⟩:y.length<=sizeLine/\n=y.length:=e;subst e';exact len_str ⋯ #[.int _,H,I.tok _,#[_,rfl],q]
 |RC y=>obtain⟨t,rfl⟩:=rx;obtain⟨hy,e'⟩:y.size<=sizeLine/\n=y.size:=e;subst e';exact PySem.W.len_bytes ⋯ #[.int _,H,I.tok _,#[_,rfl],q]
 |ref p=>
  cases rx;have e':=e;rcases e' with ⟨xs,hx,e'⟩ |⟨xs,hx,e'⟩
  . subst e';obtain⟨its,r',pl,hz⟩:=I.list hx;have aH:=r'.length;exact Calls.call_len_list pl.isList (by simp only[b8];lia) #[.int xs.length,H,I.tok _,#[_,by simp only[b8];rw[aH]],q]
  . subst e';obtain⟨its,r',pl,hz⟩:=I.tuple hx;have aH:=r'.length;exact len_tuple pl (by simp only[b8];lia) #[.int xs.length,H,I.tok _,#[_,by simp only[b8];rw[aH]],q]
 |_=>exact (show False from e).elim
end
structure bH(k:Nat)(A:Around):Prop where
 hd:A.handled=none
 dp:A.depth+3 * k+5<recursionLimit
 un:A.units+16 * k+200<cLine
theorem bH.mono(r:bH k A)(h:j<=k):bH j A:=#[r.hd,by have:=r.dp;lia,by have:=r.un;lia]
theorem bH.deeper(r:bH (k+1) A)(env:Env):bH k (A.deeper env):=
 #[r.hd,by have:=r.dp;show A.depth+1+3 * k+5<_;lia,by have:=r.un;show A.units+3+16 * k+200<_;lia]
theorem bH.depth(r:bH k A):A.depth<recursionLimit:=by have:=r.dp;lia
theorem bH.units(r:bH k A):A.units+64<cLine:=by have:=r.un;lia
theorem bH.Sj(r:bH k A):A.units<cLine:=by have:=r.un;lia
def tNil:TA:=λ_ H Q=>Q [] H
noncomputable def Y4(ta:TE)(tr:TA):TA:=λY H Q=>ta Y H λx H1=>tr Y H1 λxs H2=>Q (x::xs) H2
section
variable{X:Cx}{e:Expr}{es:List Expr}{te:TE}{t:TA}{pos:Pos}
theorem fF:PA X [] tNil:=λ_ _ _ _ H Q I h=>Calls.spliced_nil #[[],H,I,.nil,h]
theorem bA(ha:PE X e te)(hr:PA X es t)(hs:starEach (e::es) X.env=(false,eval e X.env)::starEach es X.env:=by rfl):PA X (e::es) (Y4 te t):=by intro pos ah s Y H Q I h;rw[hs];refine Calls.spliced_cons (bD (ha ah s Y H _ I h) ?_);rintro u s1 ⟨x,H1,I1,r1,q1⟩;exact bD (hr pos ah s1 Y H1 _ I1 q1) (by rintro us s2 ⟨xs,H2,I2,r2,q2⟩;exact#[x::xs,H2,I2,.cons r1 r2,q2])
def tTup(t:TA):TE:=λY H Q=>t Y H λxs H1=>xs.length<=sizeLine/\∀p,H1 p=none->Q (.ref p) (upd H1 p (.tup xs))
def tLst(t:TA):TE:=λY H Q=>t Y H λxs H1=>xs.length<=sizeLine/\∀p,H1 p=none->Q (.ref p) (upd H1 p (.lst xs))
theorem xu{x1}(h:PA X es t):PE X (.Tuple es x1 pos) (tTup t):=by
 intro ah s Y H Q I hq;refine wpAny_Tuple_spliced (bD (h pos ah s Y H _ I hq) λus s1 #[xs,H1,I1,r,z,q]=>#[by rw[<- r.length];exact z,?_])
 have hf:=I1.hok.fresh (dE _);refine#[.ref s1⁻¹,upd H1 s1⁻¹ (.tup xs),I1.laid (λb u e=>a9 _ e) (dE _) ?_,rfl,q _ hf]
 exact#[z,us,r,#[_,dC _ rfl,#[rfl,_,rfl],rfl]]
theorem Sl(h:PA X es t):PE X (.List es pos) (tLst t):=by
 intro ah s Y H Q I hq;refine wpAny_List_spliced (bD (h pos ah s Y H _ I hq) λus s1 #[xs,H1,I1,r,z,q]=>#[by rw[<- r.length];exact z,?_])
 have hf:=I1.hok.fresh (dE _);refine#[.ref s1⁻¹,upd H1 s1⁻¹ (.lst xs),I1.laid (λb u e=>a9 _ e) (dE _) ?_,rfl,q _ hf]
 exact#[z,us,0,r,dC _ rfl]
end
abbrev Sp:=List V->Hp->VK->XK->Prop
abbrev Bj:=List Env->Hp->Shared->XK->Value->Shared->Prop
structure Fe(P:Program)(w:World)(K:Frag)(mg:Str->Option Value)(base:Heap)(A:Around)(outer:List Env)(s:Shared)(H:Hp):Prop where
 frames:A.frames=!outer
 mod:Mod K mg base
 bs:∀b o,base.get? b=!o->s.heap.get? b=!o/\H b=none
 Eo:base.objs.size<=s⁻¹
 jm:s.heap.FunFrames base outer
 KN:∀b∈frs outer,H b=none
 hok:jP P w H s.heap
 bare:AllBare s.gens
def CE(outer:List Env)(P:Program)(w:World)(H:Hp)(s:Shared)(Q:VK)(u:Value)(s':Shared):Prop:=
 ∃v H',s'.os=s.os/\AllBare s'.gens/\Un (frs outer) [] H H' s.heap s'.heap/\jP P w H' s'.heap/\RelV v u/\Q v H'
def CR(CX:Bj)(outer:List Env)(P:Program)(w:World)(H:Hp)(s:Shared)(Q:VK)(E:XK)(r:Result)(s':Shared):Prop:=
 match r with
 |.ok (.ret u)=>CE outer P w H s Q u s'
 |.ok _=>False
 |.error e=>CX outer H s E e s'
structure iM(P:Program)(w:World)(K:Frag)(mg:Str->Option Value)(base:Heap)(CX:Bj)(k:Nat)(f:Addr)(fd:FuncData)(ps:List Str)(sp:Sp):Prop where
 len:∀vs H Q E,sp vs H Q E->vs.length=ps.length
 run:∀(A:Around) (outer:List Env) (s:Shared) (H:Hp) (args:Args) (us:List Value) (vs:List V) (Q:VK) (E:XK),bH k A->Fe P w K mg base A outer s H->BindsTo s fd args (ps.zip us)->Vals vs us->sp vs H Q E->
  codeAny (model P w) A (.call (.ref f) args) (CR CX outer P w H s Q E) s
section
variable{X:Cx}{ah: ~~~1}{Y:St}{H:Hp}{s s':Shared}
theorem Inv.K7(I: ~~~7):Fe X.prog X.w X.K X.mg X.base X.A X.stack s H:=
 #[I.ok.frames,I.ok.mod,I.bs,n0 I.ok.Eo I.sz,I.stack,I.rR,I.hok,I.bare]
theorem Inv.after(I: ~~~7)(h:CE X.stack X.prog X.w H s Q u s'):EP X ah Y Q u s':=by obtain⟨v,H',os,bare,un,hok,r,q⟩:=h;obtain⟨hh,g,d,t,os'⟩:=s';obtain rfl:os'=s.os:=os;exact#[v,H',I.call un hok bare (λb z=>absurd z ⋯),r,q]
end
noncomputable def Y5(sp:Sp)(gW:List V)(E:XK)(t:TA):TE:=λY H Q=>t Y H λvs H1=>sp (vs++gW) H1 Q E
def Binds(K:Frag)(fd:FuncData)(ps:List Str)(ds:List Value):Prop:=
 ∀(s:Shared) (us:List Value),K.In s.heap->(us++ds).length=ps.length->BindsTo s fd #[us,[]] (ps.zip (us++ds))
theorem Binds.all{K:Frag}{fd:FuncData}{ps:List Str}(h:∀us:List Value,us.length=ps.length->bindArgs fd #[us,[]]=pure (ps.zip us)):Binds K fd ps []:=λs us _ hl=>by
 rw[oD]at hl ⊢
 exact .of_eq (h us hl)
def Passes(CX:Bj)(X:Cx)(E:XK):Prop:=∀(ah: ~~~1) (Y:St) (H:Hp) (s:Shared) (e:Value) (s':Shared),Inv X ah Y H s->CX X.stack H s E e s'->X.xe e s'
section
variable{X:Cx}{CX:Bj}{k:Nat}{f C:Addr}{fd:FuncData}{ps:List Str}{sp:Sp}{gW:List V}{ds:List Value}{E:XK}{x m:Str}{p pos cM:Pos}{e o:Expr}{es:List Expr}{ta:TE}{t:TA}
theorem Sq{ah: ~~~1}{Y:St}{H:Hp}{s:Shared}{Q:VK}{us:List Value}{vs:List V}(F:iM X.prog X.w X.K X.mg X.base CX k f fd ps sp)(hr:bH k X.A)(hb:Binds X.K fd ps ds)(hd:Vals gW ds)(hx:Passes CX X E)
  (I: ~~~7) (r:Vals vs us) (h:sp (vs++gW) H Q E):wpAny (~~~2) X.A (call (.ref f) us) (EP X ah Y Q) X.xe s:=by
 have r2:=r.append hd;have hl:(us++ds).length=ps.length:=by rw[<- r2.length];exact F.len _ _ _ _ h
 refine CS (AL (F.run X.A X.stack s H #[us,[]] (us++ds) (vs++gW) Q E hr I.K7 (hb s us I.mG hl) r2 h) λr s' hq=>?_)
 cases r with
 |error e=>exact hx ah Y H s e s' I hq
 |ok fl=>
  cases fl with
  |ret u=>exact I.after hq
  |next=>exact False.elim hq
  |brk=>exact False.elim hq
  |cont=>exact False.elim hq
theorem zh(F:iM X.prog X.w X.K X.mg X.base CX k f fd ps sp)(hr:bH k X.A)(hg:Gl X x)(hm:X.mg x=!(.ref f))(hk:PySem.W.keepIn X.K (.ref f)=true)(hb:Binds X.K fd ps ds)(hd:Vals gW ds)(hx:Passes CX X E)
  (ha:PA X (e::es) t) (ji:(x==(~~~3))=false:=by decide) (he:starEach (e::es) X.env=(false,eval e X.env)::starEach es X.env:=by rfl) (jh:(backTo pos (starEach es X.env)).any (·.1)=false:=by rfl) :
  PE X (.Call (.Name x p) (e::es) [] pos) (Y5 sp gW E t):=by
 intro ah s Y H Q I h;refine o3 (fE I hg hm ?_ ji);refine Bi I.ok.mod.wY hk (bD (ha pos ah s Y H _ I h) λus s1 #[vs,H1,I1,r,q]=>#[I1.mG,?_]) he jh
 exact Sq F hr hb hd hx I1 r q
end
structure bI(N P:List Str)(sc:Scope):Prop where
 kind:sc.kind=.function
 co:sc.isCoroutine=false
 gen:sc.isGenerator=false
 nd:N.Nodup
 pre:N.take P.length=P
 par:∀x∈P,sc.names.lookup x=some .local\/sc.names.lookup x=some .cell
 Ss:∀y∈sc.names,y.2≠.free
theorem p7{kindOf:Str->Option NameKind}{x:Str}:∀{binds:List (Str×Value)}{m:Str->Option Value},(∀v,(x,v)∉binds)->bindL kindOf binds m x=m x
 | [],_,_=>rfl
 | (n,v)::r,m,h=>by
  unfold bindL;rw[p7 λw hw=>h w (bP _ hw)]
  split
  .
   have:x≠n:=by rintro rfl;exact h v b0
   simp[this]
  . rfl
theorem p8{kindOf:Str->Option NameKind}{x:Str}:∀{binds:List (Str×Value)}{m:Str->Option Value},(∀v,(x,v)∉binds)->bindC kindOf binds m x=m x
 | [],_,_=>rfl
 | (n,v)::r,m,h=>by
  unfold bindC;rw[p8 λw hw=>h w (bP _ hw)]
  split
  . rfl
  .
   have:x≠n:=by rintro rfl;exact h v b0
   simp[this]
theorem p9{kindOf:Str->Option NameKind}{x:Str}{v:Value}:∀{P:List Str}{vs:List Value}{i:Nat}{m:Str->Option Value},P.Nodup->P[i]?=!x->vs[i]?=!v->kindOf x=some .local->
  bindL kindOf (P.zip vs) m x=!v
 | [],_,_,_,_,h,_,_=>by simp at h
 |_::_,[],_,_,_,_,h,_=>by simp at h
 |p::P,w::vs,0,m,nd,h1,h2,hk=>by
  simp at h1 h2;subst h1;subst h2;show bindL kindOf ((p,w)::P.zip vs) m p=_;unfold bindL;rw[p7 λv hv=>(fR.mp nd).1 (Bn hv).1,hV hk]
  simp
 |p::P,w::vs,i+1,m,nd,h1,h2,hk=>by
  unfold bindL;exact p9 (fR.mp nd).2 (by simpa using h1) (by simpa using h2) hk
theorem qa{kindOf:Str->Option NameKind}{x:Str}{v:Value}:∀{P:List Str}{vs:List Value}{i:Nat}{m:Str->Option Value},P.Nodup->P[i]?=!x->vs[i]?=!v->kindOf x≠some .local->
  bindC kindOf (P.zip vs) m x=!v
 | [],_,_,_,_,h,_,_=>by simp at h
 |_::_,[],_,_,_,_,h,_=>by simp at h
 |p::P,w::vs,0,m,nd,h1,h2,hk=>by
  simp at h1 h2;subst h1;subst h2;show bindC kindOf ((p,w)::P.zip vs) m p=_;unfold bindC;rw[p8 λv hv=>(fR.mp nd).1 (Bn hv).1,fN hk]
  simp
 |p::P,w::vs,i+1,m,nd,h1,h2,hk=>by
  unfold bindC;exact qa (fR.mp nd).2 (by simpa using h1) (by simpa using h2) hk
noncomputable def start(N:List Str)(vs:List V):St:=vs.map some++List.replicate (N.length - vs.length) none
noncomputable def fG(CX:Bj)(P:Program)(w:World)(K:Frag)(mg:Str->Option Value)(base:Heap)(N:List Str)(qual:Str)(scope:Scope)(f:Addr)(cd:Value)(A:Around)(outer:List Env)(s:Shared)(H:Hp)(E:XK):Cx where
 prog:=P
 w:=w
 K:=K
 mg:=mg
 base:=base
 A:=A.deeper (envOfC qual scope s⁻¹ f cd)
 N:=N
 s₀:=s
 H₀:=H
 env:=envOfC qual scope s⁻¹ f cd
 outer:=outer
 stack:=envOfC qual scope s⁻¹ f cd::outer
 ex:=[]
 calm:=true
 fn:=λ_=>true
 pn:=[]
 xe:=λe s'=>wpAny (model P w) (A.deeper (envOfC qual scope s⁻¹ f cd)) (leaving (envOfC qual scope s⁻¹ f cd) e) (λ_ s''=>CX outer H s E e s'') (λe' s''=>CX outer H s E e' s'') s'
theorem uH{sc:Scope}{n:Nat}{x:Str}(h:sc.names.lookup x=some .cell):∃c,(cellsFrom n sc.names []).lookup x=!c:=by have q:=B0 sc.names n [] (.inl h);exact Option.isSome_iff_exists.mp q
theorem qe{CX:Bj}{P:Program}{w:World}{K:Frag}{mg:Str->Option Value}{base:Heap}{N ps:List Str}{qual:Str}{scope:Scope}{f:Addr}{cd:Value}{A:Around}{outer:List Env}{s s1:Shared}{H:Hp}{E:XK}{us:List Value}{vs:List V}
  (S:bI N ps scope) (hd:A.handled=none) (e0:Fe P w K mg base A outer s H) (hl:vs.length=ps.length) (r:Vals vs us)
  (x:InCallC s s⁻¹ (bindL (envOfC qual scope s⁻¹ f cd).kindOf (ps.zip us) λ_=>none) (cellsFrom (s⁻¹+1) scope.names []) (bindC (envOfC qual scope s⁻¹ f cd).kindOf (ps.zip us) λ_=>none) s1) :
  Inv (fG CX P w K mg base N qual scope f cd A outer s H E) [] (start N vs) H s1:=by
 have jh:ps.length<=N.length:=by have:=congrArg List.length S.pre;rw[t8]at this;lia
 obtain⟨h1,tk,rfl,hk⟩:=x.done;have Y6:∀b:Addr,b∉(fG CX P w K mg base N qual scope f cd A outer s H E).ex:=λb z=>absurd (show b∈([]:List Addr)from z) ⋯
 refine#[#[e0.mod,S.kind,rfl,rfl,dE _,λy z c h1 h2=>?_,λy hy=>?_,λy c _ h=>?_,λ_=>hd,Around.frames_deeper e0.frames,.inr #[rfl,rfl],λb z=>absurd z (Y6 b),e0.bs,e0.Eo,λb _ _=>Y6 b,λb z=>absurd z (Y6 b),e0.jm,e0.KN],
  rfl,e0.bare,Un.kept hk,#[_,x.toInCall.ns,λi y v h1 h2 h3=>?_],λy c h=>#[_,x.cell y c h],e0.hok.fresh (dE _),λy c h=>?_,λp hp=>absurd (show p∈([]: ~~~1)from hp) ⋯,e0.hok.kept hk,?_]
 . exact name_of_addr x.apart (AM h1) (AM h2)
 .
  have hy:=hy;rcases hy with hy |hy
  . exact uH hy
  . exact absurd rfl (S.Ss _ (AM hy))
 . exact Cf (x.above y c (AM h))
 .
  have hi:i<vs.length:=by
   unfold start at h2;by_cases hi:i<vs.length
   . exact hi
   .
    rw[eR (by simpa using hi)]at h2
    rw[List.getElem?_replicate]at h2;split at h2 <;> cases h2
  have ha:vs[i]?=!v:=by
   unfold start at h2;rw[eD (by simpa using hi),oI]at h2
   cases e:vs[i]? with
   |none=>rw[e]at h2;cases h2
   |some a=>rw[e]at h2;cases h2;rfl
  obtain⟨u,hu,rv⟩:=r.get ha;have hp:ps[i]?=!y:=by rw[<- S.pre,sK ⋯];exact h1
  have ndP:ps.Nodup:=by rw[<- S.pre];exact S.nd.sublist (List.take_sublist _ _)
  refine#[u,rv,?_];rcases S.par y (hZ hp)with k |k
  . exact .inl #[k,p9 ndP hp hu k]
  .
   obtain⟨c,e⟩:=uH k;refine .inr #[.inl k,c,e,?_];have q:=x.cell y c e;rw[qa ndP hp hu (by show scope.names.lookup y≠_;rw[k];decide)]at q
   exact q
 . exact e0.hok.fresh (Cf (x.above y c (AM h)))
 . unfold start;show _=N.length;rw[eP,eA,mB];lia
theorem QD{CX:Bj}{P:Program}{w:World}{K:Frag}{mg:Str->Option Value}{base:Heap}{k:Nat}{f:Addr}{name qual:Str}{params:Arguments}{body:List Stmt}{scope:Scope}{dV kV doc pm bx ct oc:Value}{an od:Option Addr}
  {osl:Array (Option Value)}{N ps:List Str}{sp:Sp} (lk:K.lookup f=!#[oc,od,.func (PySem.W.fnOf name qual params body scope dV kV doc pm an bx ct),osl]) (bU:PySem.W.codeIn K bx qual=true) (S:bI N ps scope)
  (len:∀vs H Q E,sp vs H Q E->vs.length=ps.length)
  (hbody:∀(A:Around) (outer:List Env) (s:Shared) (H:Hp) (vs:List V) (Q:VK) (E:XK),bH k (A.deeper (envOfC qual scope s⁻¹ f bx))->sp vs H Q E->
   ∃t,pZ (fG CX P w K mg base N qual scope f bx A outer s H E) body t/\t { nx:=λ_ H'=>Q .non H',rt:=Q} (start N vs) H) :
  iM P w K mg base CX (k+1) f (PySem.W.fnOf name qual params body scope dV kV doc pm an bx ct) ps sp:=by
 refine#[len,λA outer s H args us vs Q E hr e0 hb r XF=>?_]
 have hl:=len _ _ _ _ XF;have KX:=e0.mod.wY.keeps λb o e=>(e0.bs b o e).1
 have lim:=e0.mod.nolimit.keeps λb o e=>(e0.bs b o e).1
 have hkind:∀y∈ps.zip us,scope.names.lookup y.1=some .local\/(scope.names.lookup y.1=some .cell/\((cellsFrom (s⁻¹+1) scope.names []).lookup y.1).isSome=true):=by
  rintro⟨n,v⟩ hy;rcases S.par n (Bn hy).1 with q |q
  . exact .inl q
  . exact .inr #[q,B0 _ _ _ (.inl q)]
 refine codeAny_call_function hr.depth (KX _ _ lk) rfl S.co S.gen rfl (PySem.W.codeRec_of KX bU) (hb _ _ _ _ ?_);refine wpAny_newFunctionEnv_cells S.kind hkind λenv he s1 x=>?_
 subst he;refine#[lim.keeps x.toInCall.keep,codeAny_func ?_];obtain⟨t,ht,hq⟩:=hbody A outer s H vs Q E (hr.deeper _) XF;have I:Inv (fG CX P w K mg base N qual scope f bx A outer s H E) [] (start N vs) H s1:=qe S hr.hd e0 hl r x;refine i7 (ht [] s1 (start N vs) H _ I hq) (λfl s' hs=>?_) λe s' hs=>hs
 have fin:∀{σ':St}{H':Hp}{v:V}{u:Value},Inv (fG CX P w K mg base N qual scope f bx A outer s H E) [] σ' H' s'->RelV v u->Q v H'->CE outer P w H s Q u s':=
  λ{σ' H' v u} J rv q=>#[v,H',J.os,J.bare,J.base,J.hok,rv,q]
 cases fl with
 |ret u=>obtain⟨v,σ',H',J,rv,q⟩:=hs;exact fin J rv q
 |next=>obtain⟨σ',H',J,q⟩:=hs;exact fin (v:=V.non) J rfl q
 |brk=>obtain⟨_,_,_,q⟩:=hs;exact False.elim q
 |cont=>obtain⟨_,_,_,q⟩:=hs;exact False.elim q
section
variable{X:Cx}{x:Str}{p pos:Pos}{e:Expr}{es:List Expr}{t:TA}{id T:String}{r:List V->Hp->VK->Prop}
noncomputable def tCB(r:List V->Hp->VK->Prop)(t:TA):TE:=λY H Q=>t Y H λvs H1=>r vs H1 Q
theorem gj(hc:cF X (.builtin id) r)(hg:Gl X x)(hm:X.mg x=none)(hv:bootBuiltins x=!(.builtin id))(ha:PA X (e::es) t)(hn:x≠ "__name__" :=by decide)(ji:(x==(~~~3))=false:=by decide)
  (he:starEach (e::es) X.env=(false,eval e X.env)::starEach es X.env:=by rfl) (jh:(backTo pos (starEach es X.env)).any (·.1)=false:=by rfl):PE X (.Call (.Name x p) (e::es) [] pos) (tCB r t):=by
 intro ah s Y H Q I h;refine o3 (dP I hg hm hv ?_ hn ji);exact PyProof.Rows.callWith_builtin1 (bD (ha pos ah s Y H _ I h) (by rintro us s1 ⟨vs,H1,I1,r1,q1⟩;exact hc ah s1 Y H1 vs us Q I1 r1 q1)) he jh
theorem qg(hc:cF X (.type T) r)(hg:Gl X x)(hm:X.mg x=none)(hv:bootBuiltins x=!(.type T))(ha:PA X (e::es) t)(hn:x≠ "__name__" :=by decide)(ji:(x==(~~~3))=false:=by decide)
  (he:starEach (e::es) X.env=(false,eval e X.env)::starEach es X.env:=by rfl) (jh:(backTo pos (starEach es X.env)).any (·.1)=false:=by rfl):PE X (.Call (.Name x p) (e::es) [] pos) (tCB r t):=by
 intro ah s Y H Q I h;refine o3 (dP I hg hm hv ?_ hn ji);exact oC (bD (ha pos ah s Y H _ I h) λus s1 #[vs,H1,I1,r1,q1]=>hc ah s1 Y H1 vs us Q I1 r1 q1) he jh
end
end L2
namespace HT
open PySem PyProof.Rows
noncomputable def lexLt: ~~~0->~~~0->Bool
 | [],[]=>false
 | [],_::_=>true
 |_::_,[]=>false
 |x::xs,y::ys=>if x=y then lexLt xs ys else decide (x<y)
theorem cH(x y:Int)(xs ys: ~~~0):lexLt (x::xs) (y::ys)=if x=y then lexLt xs ys else decide (x<y):=rfl
theorem pD:lexLt [] []=false:=rfl
theorem mK(y:Int)(ys: ~~~0):lexLt [] (y::ys)=true:=rfl
theorem mL(x:Int)(xs: ~~~0):lexLt (x::xs) []=false:=rfl
theorem uI(A:Around)(s:Shared)(a:Int)(t:Tok)(c:Int)(u:Tok):∃e,SeqAt.EqAt A s (.int a t) (.int c u) e/\(e=true ↔ a=c):=
 #[(a==c),SeqAt.EqAt.int_int a t c u,by simp]
theorem uJ(A:Around)(s:Shared)(a:Int)(t:Tok)(c:Int)(u:Tok)(prog:Program)(w:World)(E:Value->Shared->Prop)(Q:Value->Shared->Prop)(h:Q (.bool (decide (a<c))) s) :
  wpAny (model prog w) A (richCompare .Lt (.int a t) (.int c u)) Q E s:=
 (PyProof.Rows.lt_int h:wpAny (model prog w) A (compareOp .Lt (.int a t) (.int c u)) Q E s)
section
open PySem.SeqAt
open PySem.AutoSeq1 (wpAny_loadPart')
open PySem.MeetsSeq PySem.MeetsSeq2 PySem.MeetsSeq3
theorem pF(l b:Addr)(ao items2:Array Value)(n n2:Nat)(dd dd2:Option Addr)(sl sl2:Array (Option Value))(ns ms: ~~~0)(hi:IntsAre ao.toList ns)(hj:IntsAre items2.toList ms) :
  Meets (Builtin.«tuple.__lt__» #[[.ref l,.ref b],[]])
   (λ_ R s=>s.heap.get? l=some { cls:=.type "tuple",dict:=dd,data:=.seq ao n,slots:=sl}/\s.heap.get? b=some { cls:=.type "tuple",dict:=dd2,data:=.seq items2 n2,slots:=sl2}/\
    R (.ok (.ret (.bool (lexLt ns ms)))) s):=
 .of_wp λprog w A R s h=>by
  obtain⟨hp,g,d,tk,os⟩:=s;obtain⟨hl,hb,h⟩:=h;have f2:=AutoSeq1.sub_tuple_tuple;have z1:ao.size=ns.length:=by rw[<- hi.length];simp
  have z2:items2.size=ms.length:=by rw[<- hj.length];simp
  wp_walk using wpAny_loadPart' hl,wpAny_loadPart' hb,CB _ (λrest b s'=>b.1=none/\s'=#[hp,g,d,tk,os]/\∃(vs ws:List Value) (ns' ms': ~~~0),rest=vs.zip ws/\
   IntsAre vs ns'/\IntsAre ws ms'/\ns'.length+items2.size=ms'.length+ao.size/\R (.ok (.ret (.bool (lexLt ns' ms')))) #[hp,g,d,tk,os]) _
  case turn=>
   rintro⟨y,x⟩ rest b s' ⟨hb',rfl,vs,ws,ns',ms',hz,hvi,hwi,aH,hR⟩;cases hvi with
   |nil=>rw[List.zip_nil_left]at hz;cases hz
   |cons a t hvi'=>
    cases hwi with
    |nil=>rw[List.zip_nil_right]at hz;cases hz
    |cons c u hwi'=>
     rw[tJ]at hz;injection hz with hyx hrest;injection hyx with hy hx;subst hy hx;rw[cH]at hR;simp only[gL]at aH;obtain⟨e,he,hiff⟩:=uI A.in1 #[hp,g,d,tk,os] a t c u;refine aS (he prog w _ _ ?_);cases e with
     |true=>
      rw[hV (hiff.mp rfl)]at hR
      wp_walk
      exact#[rfl,rfl,_,_,_,_,hrest,hvi',hwi',by lia,hR]
     |false=>
      rw[fN (λq=>absurd (hiff.mpr q) mM)]at hR
      have hri:=uJ A.in1 #[hp,g,d,tk,os] a t c u prog w
      wp_walk using hri
      exact#[_,rfl,by simpa using hR]
  case fin=>
   rintro⟨b1,b2⟩ s' ⟨hb',rfl,vs,ws,ns',ms',hz,hvi,hwi,aH,hR⟩;simp only at hb';subst hb';have hv:lexLt ns' ms'=decide (ao.size<items2.size):=by
    cases hvi with
    |nil=>
     cases hwi with
     |nil=>simp only[y6]at aH;rw[pD];exact (nK ⋯).symm
     |cons c u hw=>simp only[y6,gL]at aH;rw[mK];exact (kS ⋯).symm
    |cons a t hv=>
     cases hwi with
     |nil=>simp only[y6,gL]at aH;rw[mL];exact (nK ⋯).symm
     |cons c u hw=>rw[tJ]at hz;cases hz
   rw[hv]at hR
   wp_walk
   exact#[_,rfl,by simpa [Builtin.Tuple.tupleCompareSizes]using hR]
  case h=>exact#[rfl,rfl,ao.toList,items2.toList,ns,ms,rfl,hi,hj,by lia,h]
end
section
variable{prog:Program}{w:World}{A:Around}{E:Value->Shared->Prop}{s:Shared}
theorem mO(hl:IsTup s.heap l ao)(hb:IsTup s.heap b items2)(hi:IntsAre ao.toList ns)(hj:IntsAre items2.toList ms)
  (hu:A.units<cLine) (h:Q (.bool (lexLt ns ms)) s):wpAny (model prog w) A (compareOp .Lt (.ref l) (.ref b)) Q E s:=by
 obtain⟨⟨cls,dd,data,sl⟩,ho,hc,n,hd⟩:=id hl;obtain⟨⟨Sv,dd2,data2,sl2⟩,ho2,hc2,n2,hd2⟩:=id hb;subst hc hd hc2 hd2;exact richCompare_meets_room (op:=.Lt) #[_,ho,rfl] #[_,ho2,rfl] PySem.F.slot_tuple_lt PySem.F.entry_tuple_lt (PySem.F.args_tuple_lt_2 _ _) (pF l b ao items2 n n2 dd dd2 sl sl2 ns ms hi hj)
  #[ho,ho2,show Value.bool (lexLt ns ms)≠Value.notImplemented/\Q (.bool (lexLt ns ms)) s from#[(λx=>nomatch x),h]] hu
theorem K8(ht:IsTup s.heap t vs.toArray)(hb:IsTup s.heap b ws.toArray)(hv:vs≠[])
  (h1:ws=[]->Q (.ref t) s) (h2:ws≠[]->Q (.ref s⁻¹) { s with heap:=s.heap.push { cls:=.type "tuple",data:=.seq (vs++ws).toArray}})
  (hsz:vs.length+ws.length<=sizeLine):wpAny (model prog w) A (binaryOp .Add (.ref t) (.ref b)) Q E s:=by
 obtain⟨⟨cls,dd,data,sl⟩,ho,hc,n,hd⟩:=id ht;obtain⟨⟨Sv,dd2,data2,sl2⟩,ho2,hc2,n2,hd2⟩:=id hb;subst hc hd hc2 hd2;have e:vs.toArray++ws.toArray=(vs++ws).toArray:=by simp
 by_cases hw:ws=[]
 .
  exact concat_meets #[_,ho,rfl] #[_,ho2,rfl] noFill_tuple_add seq_tuple_add B1 Bz (A6 _ _)
   (tuple_addW1 t b vs.toArray ws.toArray n n2 dd dd2 sl sl2 (by simpa using hv) (by simp[hw])) #[ho,ho2,h1 hw]
 .
  refine concat_meets #[_,ho,rfl] #[_,ho2,rfl] noFill_tuple_add seq_tuple_add B1 Bz (A6 _ _)
   (tuple_addW2 t b vs.toArray ws.toArray n n2 dd dd2 sl sl2 (by simpa using hv) (by simpa using hw) (by rw[b8];exact hsz)) #[ho,ho2,?_]
  rw[e];exact h2 hw
noncomputable def bL(n d:Nat):Option Int->Nat
 |none=>d
 |some v=>if v<0 then (v+(n:Int)).toNat else min v.toNat n
theorem zj(v:Int)(n d:Nat):(if v<0 then max (v+(n:Int)) 0 else min v (n:Int))=((bL n d (!v):Nat):Int):=by
 show (if v<0 then max (v+(n:Int)) 0 else min v (n:Int))=(((if v<0 then (v+(n:Int)).toNat else min v.toNat n):Nat):Int)
 by_cases hv:v<0
 . simp only[hV hv];lia
 . simp only[fN hv];lia
theorem xx(lo hi:Option Int)(n:Nat):Builtin.Slice.sliceAdjust lo hi 1 (n:Int)=(((bL n 0 lo:Nat):Int),((bL n n hi:Nat):Int)):=by
 have h1 : ¬ ((1:Int)<0):=by lia
 unfold Builtin.Slice.sliceAdjust;refine Prod.ext ?_ ?_
 .
  cases lo with
  |none=>rfl
  |some v=>exact zj v n 0
 .
  cases hi with
  |none=>rfl
  |some v=>exact zj v n n
theorem xA(i j:Nat):Builtin.Slice.slicePlaces (i:Int) (j:Int) 1=j - i:=by
 unfold Builtin.Slice.slicePlaces;have h1:(1:Int) > 0:=by lia
 split <;> lia
theorem mQ(p:IsPart v o)(h:Q o s):wpAny (model prog w) A (Builtin.Slice.slicePartIndex v) Q E s:=by
 cases p with
 |none=>exact slicePart_none h
 |int i t=>exact slicePart_int h
theorem eV{sl:Addr}{vl vu:Value}{lo hi:Option Int}{n:Nat}{Q:Int×Int×Nat->Shared->Prop}(hs:s.heap.IsSliceOf sl vl vu .none)(pl:IsPart vl lo)(pu:IsPart vu hi)
  (h:Q (((bL n 0 lo:Nat):Int),1,bL n n hi - bL n 0 lo) s):wpAny (model prog w) A (Builtin.Slice.sliceApplied (.ref sl) (pure (n:Int))) Q E s:=by
 obtain⟨os,hos,hcs,hds⟩:=id hs;refine aS (aS (xI hos hds rfl (aS (xI hos hds rfl (aS (xI hos hds rfl (a8 ?_)))))));refine aS (slicePart_none ?_);refine aS (mQ pl (aS (mQ pu (aS (a8 ?_)))));show wpAny _ _ (match Builtin.Slice.sliceAdjust lo hi 1 (n:Int)with | (lo,hi)=>pure (lo,(1:Int),Builtin.Slice.slicePlaces lo hi 1)) _ _ s
 rw[xx lo hi n];show wpAny _ _ (pure (((bL n 0 lo:Nat):Int),(1:Int),Builtin.Slice.slicePlaces ((bL n 0 lo:Nat):Int) ((bL n n hi:Nat):Int) 1)) _ _ s;rw[xA];exact a8 h
theorem Fg(xs:Array Value)(i k:Nat):((List.range k).filterMap λ(m:Nat)=>xs[((i:Int)+(m:Int) * 1).toNat]?).toArray=((xs.toList.drop i).take k).toArray:=by
 have e:(λ(m:Nat)=>xs[((i:Int)+(m:Int) * 1).toNat]?)=λm=>xs[i+m]?:=by
  funext m
  have:((i:Int)+(m:Int) * 1).toNat=i+m:=by lia
  rw[this]
 rw[e];have:=pick_run xs i k;rw[List.filterMap_map]at this;have e2:((λx=>xs[x]?) ∘ λx=>i+x)=λm=>xs[i+m]?:=rfl
 rw[e2]at this;rw[this]
theorem jr{t sl:Addr}{ao:Array Value}{vl vu:Value}{lo hi:Option Int}{Q:Value->Shared->Prop}(ht:IsTup s.heap t ao)(hs:s.heap.IsSliceOf sl vl vu .none)(pl:IsPart vl lo)(pu:IsPart vu hi)
  (hw : ¬ (bL ao.size 0 lo=0/\bL ao.size ao.size hi=ao.size))
  (h:Q (.ref s⁻¹) { s with heap:=s.heap.push { cls:=.type "tuple",data:=.seq ((ao.toList.drop (bL ao.size 0 lo)).take (bL ao.size ao.size hi - bL ao.size 0 lo)).toArray}})
  (hsz:ao.size<=sizeLine):wpAny (model prog w) A (getItem (.ref t) (.ref sl)) Q E s:=by
 have zm:sizeOk (.seq ((ao.toList.drop (bL ao.size 0 lo)).take (bL ao.size ao.size hi - bL ao.size 0 lo)).toArray):=by show ((ao.toList.drop (bL ao.size 0 lo)).take (bL ao.size ao.size hi - bL ao.size 0 lo)).toArray.size<=sizeLine;rw[b8,t8,List.length_drop,i8];lia
 obtain⟨os,hos,hcs,hds⟩:=id hs;have hTs:s.TypeIs (.ref sl) "slice" :=#[os,hos,hcs];unfold getItem
 try with_reducible refine hU ?_
 first |refine aS (a8 ?_) |skip
 refine aS (wpAny_sequenceKey ht.typeIs ⋯ ?_);refine aS (n4 ht.typeIs u7
  (mE u7 ht.typeIs entry_tuple_getitem ?_ (args_tuple_getitem _ _)))
 show wpAny _ _ (Builtin.Tuple.tupleItemsOf (.ref t) >>= _) _ _ s;refine aS (tupleItemsOf_ ht ?_);refine aS (A7 hTs ?_);refine aS (eV hs pl pu ?_);have hno : ¬ ((((bL ao.size 0 lo:Nat):Int)==0&&(1:Int)==1&&(bL ao.size ao.size hi - bL ao.size 0 lo)==ao.size)=true):=by intro q;rw[dA,dA]at q;exact hw #[by lia,by lia]
 show wpAny _ _ (if (((bL ao.size 0 lo:Nat):Int)==0&&(1:Int)==1&&(bL ao.size ao.size hi - bL ao.size 0 lo)==ao.size)=true then _ else _) _ _ s
 rw[fN hno,Fg]
 first
  |exact aS (lS (a8 #[_,rfl,a8 h]) zm)
  |exact aS (lS (aS (a8 (a8 #[_,rfl,a8 h]))) zm)
  |exact aS (aS (lS (a8 (a8 #[_,rfl,a8 h])) zm))
  |exact aS (aS (lS (a8 #[_,rfl,a8 h]) zm))
end
end HT
namespace L2
abbrev TO:=St->Hp->(Option Int->Hp->Prop)->Prop
def PO(X:Cx)(e:Option Expr)(t:TO):Prop:=
 ∀(ah: ~~~1) (s:Shared) (Y:St) (H:Hp) (Q:Option Int->Hp->Prop),Inv X ah Y H s->t Y H Q->
  wpAny (~~~2) X.A (evalPart e X.env) (λu s'=>∃o H',Inv X ah Y H' s'/\IsPart u o/\Q o H') X.xe s
def K9:TO:=λ_ H Q=>Q none H
def Y7(t:TE):TO:=λY H Q=>t Y H λx H1=>∃i,x=.int i/\Q (!i) H1
theorem intsAre_of:∀{us:List Value},Vals (ns.map V.int) us->IntsAre us ns:=by
 induction ns with
 |nil=>intro us r;rw[List.map_nil]at r;cases r;exact .nil
 |cons n ns ih=>
  intro us r;cases r with
  |cons r1 r2=>obtain⟨t,e⟩:=r1;subst e;exact .cons n t (ih r2)
section
variable{X:Cx}{e:Expr}{te:TE}{lo hi:Option Expr}{tl th:TO}{pos p2:Pos}
theorem La:PO X none K9:=by intro ah s Y H Q I h;exact a8 #[none,H,I,.none,h]
theorem Lb(h:PE X e te):PO X (!e) (Y7 te):=by intro ah s Y H Q I hw;refine bD (h ah s Y H _ I hw) ?_;rintro u s1 ⟨x,H1,I1,r1,q1⟩;obtain⟨i,rfl,q⟩:=q1;obtain⟨t,rfl⟩:=r1;exact#[!i,H1,I1,.int i t,q]
def SlR(X:Cx)(r:V->Option Int->Option Int->Hp->VK->Prop):Prop:=
 ∀(ah: ~~~1) (s:Shared) (Y:St) (H:Hp) (x:V) (v vl vu:Value) (lo hi:Option Int) (sl:Addr) (Q:VK),Inv X ah Y H s->RelV x v->s.heap.IsSliceOf sl vl vu .none->IsPart vl lo->IsPart vu hi->r x lo hi H Q->
  ∃T id,typeLookup (.type T) "__getitem__"=pure (!(.builtin id))/\s.TypeIs v T/\wpAny (~~~2) X.A (getItem v (.ref sl)) (EP X ah Y Q) X.xe s
noncomputable def tSl(r:V->Option Int->Option Int->Hp->VK->Prop)(te:TE)(tl th:TO):TE:=λY H Q=>te Y H λx H1=>tl Y H1 λl H2=>th Y H2 λu H3=>r x l u H3 Q
theorem mR{r:V->Option Int->Option Int->Hp->VK->Prop}(hr:SlR X r)(he:PE X e te)(hl:PO X lo tl)(hu:PO X hi th):PE X (.Subscript e (.Slice lo hi none p2) pos) (tSl r te tl th):=by
 intro ah s Y H Q I h;refine Subscript_ (bD (he ah s Y H _ I h) ?_);rintro v s1 ⟨x,H1,I1,r1,q1⟩;refine wpAny_Slice (bD (hl ah s1 Y H1 _ I1 q1) λvl s2 #[l,H2,I2,pl,q2]=>bD (hu ah s2 Y H2 _ I2 q2) ?_)
 rintro vu s3 ⟨u,H3,I3,pu,q3⟩;refine a8 ?_;have I4:Inv X ah Y H3 { s3 with heap:=s3.heap.push { cls:=.type "slice",data:=.fields ([vl,vu,.none].toArray)}}:=I3.kept λb ob q=>a9 _ q
 obtain⟨T,id,hT,ht,hg⟩:=hr ah { s3 with heap:=s3.heap.push { cls:=.type "slice",data:=.fields ([vl,vu,.none].toArray)}} Y H3 x v vl vu l u s3⁻¹ Q I4 r1 (Heap.IsSliceOf.new ..) pl pu q3;exact tail_any ht hT hg (by with_unfolding_all rfl)
def xB(xs:List V)(lo hi:Option Int):List V:=(xs.drop (HT.bL xs.length 0 lo)).take (HT.bL xs.length xs.length hi - HT.bL xs.length 0 lo)
theorem kQ(xs:List V)(lo hi:Option Int):(xB xs lo hi).length<=xs.length:=by unfold xB;rw[t8,List.length_drop];lia
def rSlT(K:Frag):V->Option Int->Option Int->Hp->VK->Prop:=λx lo hi H Q=>∃a xs,x=.ref a/\eU K H a xs/\
 ¬ (HT.bL xs.length 0 lo=0/\HT.bL xs.length xs.length hi=xs.length)/\∀p,H p=none->Q (.ref p) (upd H p (.tup (xB xs lo hi)))
theorem Sw:SlR X (rSlT X.K):=by
 intro ah s Y H x v vl vu lo hi sl Q I rx hs pl pu h;obtain⟨a,xs,rfl,hx,hw,q⟩:=h;cases rx;obtain⟨its,r,ht,hz⟩:=I.tuple hx;have aH:its.toArray.size=xs.length:=by rw[b8];exact r.length.symm
 refine#["tuple",_,PyProof.Rows.slot_tuple_getitem.lookup,ht.typeIs,?_];refine HT.jr ht hs pl pu (by rw[aH];exact hw) ?_ (by rw[aH];exact hz)
 rw[aH];refine#[.ref s⁻¹,_,I.laid (λb ob q=>a9 _ q) (dE _) ?_,rfl,q _ (I.hok.fresh (dE _))]
 exact#[n0 (kQ xs lo hi) hz,_,(r.drop (HT.bL xs.length 0 lo)).take (HT.bL xs.length xs.length hi - HT.bL xs.length 0 lo),fD.new _ _]
def rLtT(K:Frag):R2:=λx y H Q=>∃a b ns ms,x=.ref a/\y=.ref b/\eU K H a (ns.map V.int)/\eU K H b (ms.map V.int)/\Q (.bl (HT.lexLt ns ms)) H
theorem Sx(hu:X.A.units<cLine):jq X (compareOp .Lt) (rLtT X.K):=by intro ah s Y H x y v u Q I rx ry h;obtain⟨a,b,ns,ms,rfl,rfl,ha,hb,q⟩:=h;cases rx;cases ry;obtain⟨its,r1,p1,_⟩:=I.tuple ha;obtain⟨iE,r2,p2,_⟩:=I.tuple hb;have i1:=intsAre_of r1;have i2:=intsAre_of r2;exact HT.mO p1 p2 i1 i2 hu #[.bl (HT.lexLt ns ms),H,I,rfl,q]
def Y8(K:Frag):R2:=λx y H Q=>∃a b xs ys,x=.ref a/\y=.ref b/\eU K H a xs/\eU K H b ys/\xs≠[]/\xs.length+ys.length<=sizeLine/\
 (ys=[]->Q (.ref a) H)/\(ys≠[]->∀p,H p=none->Q (.ref p) (upd H p (.tup (xs++ys))))
theorem Vals.r9(r:Vals xs us):us=[] ↔ xs=[]:=by
 cases r with
 |nil=>simp
 |cons _ _=>simp
theorem Lc:jq X (binaryOp .Add) (Y8 X.K):=by
 intro ah s Y H x y v u Q I rx ry h;obtain⟨a,b,xs,ys,rfl,rfl,ha,hb,hx,hz,q1,q2⟩:=h;cases rx;cases ry;obtain⟨its,r1,p1,_⟩:=I.tuple ha;obtain⟨iE,r2,p2,_⟩:=I.tuple hb;refine HT.K8 p1 p2 (λz=>hx (r1.r9.mp z)) (λz=>#[.ref a,H,I,rfl,q1 (r2.r9.mp z)]) (λz=>?_) (by rw[<- r1.length,<- r2.length];exact hz)
 refine#[.ref s⁻¹,_,I.laid (λb ob q=>a9 _ q) (dE _) ?_,rfl,q2 (λw=>z (r2.r9.mpr w)) _ (I.hok.fresh (dE _))]
 exact#[by rw[eP];exact hz,_,r1.append r2,fD.new _ _]
end
noncomputable def xD(n:Nat)(i:Int):Option Nat:=if 0<=i then (if i<n then some i.toNat else none)else if -(n:Int)<=i then some (i+n).toNat else none
def g9{α:Type}(xs:List α)(i:Int):Option α:=(xD xs.length i).bind λj=>xs[j]?
theorem sf(h:xD n i=!j):seqIndex? i n=!j/\j<n/\-(n:Int)<=i/\i<n:=by
 unfold xD at h;by_cases h0:0<=i
 .
  rw[hV h0]at h;by_cases h1:i<n
  . rw[hV h1]at h;have e:=mI h;exact#[by rw[seqIndex_of h0 h1,e],by lia,by lia,h1]
  . rw[fN h1]at h;symm
 .
  rw[fN h0]at h;by_cases h1 : -(n:Int)<=i
  . rw[hV h1]at h;have e:=mI h;exact#[by rw[seqIndex_neg ⋯ h1,e],by lia,h1,by lia]
  . rw[fN h1]at h;symm
theorem zo{α:Type}{xs:List α}{i:Int}{v:α}(h:g9 xs i=!v):∃j,seqIndex? i xs.length=!j/\xs[j]?=!v/\j<xs.length/\-(xs.length:Int)<=i/\i<xs.length:=by
 unfold g9 at h;cases e:xD xs.length i with
 |none=>rw[e]at h;symm
 |some j=>rw[e]at h;obtain⟨h1,h2,h3,h4⟩:=sf e;exact#[j,h1,h,h2,h3,h4]
def lQ(b:Expr):Prop:=∀o i,subscripted b false o i=operate [o,i] (getItem o i)
def Y9(X:Cx)(r:R2):Prop:=
 ∀(value slice:Expr) (ah: ~~~1) (s:Shared) (Y:St) (H:Hp) (x y:V) (v u:Value) (Q:VK),Inv X ah Y H s->RelV x v->RelV y u->r x y H Q->
  subscripted slice false v u=operate [v,u] (getItem v u)->wpAny (~~~2) X.A (subscriptTail value slice v u) (EP X ah Y Q) X.xe s
def MtR(X:Cx)(id:String)(r:V->List V->Hp->VK->Prop):Prop:=
 ∀(ah: ~~~1) (s:Shared) (Y:St) (H:Hp) (x:V) (xs:List V) (v:Value) (us:List Value) (Q:VK),Inv X ah Y H s->RelV x v->Vals xs us->r x xs H Q->
  wpAny (~~~2) X.A (call (.builtin id) (v::us)) (EP X ah Y Q) X.xe s
section
variable{X:Cx}{a b:Expr}{ta tb:TE}{pos:Pos}
theorem QF{r:R2}(hr:Y9 X r)(ha:PE X a ta)(hb:PE X b tb)(hs:lQ b):PE X (.Subscript a b pos) (tOp r ta tb):=by intro ah s Y H Q I h;exact Subscript_ (R5 ha hb I h λv u s2 x y H2 I2 rx ry q=>hr a b ah s2 Y H2 x y v u Q I2 rx ry q (hs _ _))
def rIxL(K:Frag):R2:=λx y H Q=>∃p xs i v,x=.ref p/\y=.int i/\cu K H p xs/\g9 xs i=!v/\Q v H
def rIxT(K:Frag):R2:=λx y H Q=>∃p xs i v,x=.ref p/\y=.int i/\eU K H p xs/\g9 xs i=!v/\Q v H
theorem sr:Y9 X (rIxL X.K):=by
 intro value slice ah s Y H x y v u Q I rx ry h hs;obtain⟨p,xs,i,z,rfl,rfl,hq,he,q⟩:=h;cases rx;obtain⟨t,rfl⟩:=ry;obtain⟨its,r,pl,hz⟩:=I.list hq;obtain⟨j,h1,h2,h3,h4,h5⟩:=zo he;obtain⟨w,ew,rw'⟩:=r.get h2;have hl:=r.length;have hn:=xr;have fin:EP X ah Y Q w s:=#[z,H,I,rw',q];by_cases h0:0<=i
 .
  have hj:i.toNat=j:=by rw[seqIndex_of h0 h5]at h1;exact mI h1
  exact item_listR pl.isList h0 ⋯ (by rw[hj];simpa using ew) fin hs
 .
  have hj:(i+(its.toArray.size:Int)).toNat=j:=by rw[seqIndex_neg ⋯ h4]at h1;rw[b8,<- hl];exact mI h1
  exact subscriptTail_builtinR pl.isList.typeIs slot_list_getitem.lookup
   (wpAny_getItem_list_neg pl.isList ⋯ (by rw[b8] <;> lia) ⋯ (by rw[hj];simpa using ew) #[rfl,fin]) hs
theorem Sy:Y9 X (rIxT X.K):=by
 intro value slice ah s Y H x y v u Q I rx ry h hs;obtain⟨p,xs,i,z,rfl,rfl,hq,he,q⟩:=h;cases rx;obtain⟨t,rfl⟩:=ry;obtain⟨its,r,pl,hz⟩:=I.tuple hq;obtain⟨j,h1,h2,h3,h4,h5⟩:=zo he;obtain⟨w,ew,rw'⟩:=r.get h2;have hl:=r.length;have hn:=xr;have fin:EP X ah Y Q w s:=#[z,H,I,rw',q];exact subscriptTail_builtinR pl.typeIs slot_tuple_getitem.lookup
  (getItem_tuple pl ⋯ ⋯ (by rw[b8,<- hl];exact h1) (by simpa using ew) #[rfl,fin]) hs
theorem xE(its:List Value)(n j:Nat)(u:Value):Obj.mapSeq (·.setIfInBounds j u) { cls:=.type "list",data:=.seq its.toArray n}={ cls:=.type "list",data:=.seq (its.set j u).toArray n}:=by simp[Obj.mapSeq]
theorem Inv.lst{ah: ~~~1}{Y:St}{H:Hp}{s:Shared}{p:Addr}{xs:List V}(I: ~~~7)(h:H p=!(.lst xs)) :
  ∃(its:List Value) (n:Nat),Vals xs its/\s.heap.get? p=some { cls:=.type "list",data:=.seq its.toArray n}/\xs.length<=sizeLine:=by
 obtain⟨z,its,n,r,e⟩:=I.hok p _ h;exact#[its,n,r,e,z]
theorem Inv.Sz{ah: ~~~1}{Y:St}{H:Hp}{s:Shared}{p:Addr}{xs ys:List V}{its its':List Value}{n n':Nat}{f:Obj->Obj}(I: ~~~7)(h:H p=!(.lst xs))
  (ho:s.heap.get? p=some { cls:=.type "list",data:=.seq its.toArray n}) (hf:f { cls:=.type "list",data:=.seq its.toArray n}={ cls:=.type "list",data:=.seq its'.toArray n'}) (r:Vals ys its') (hz:ys.length<=sizeLine) (t:Nat) :
  Inv X ah Y (upd H p (.lst ys)) { s with heap:=s.heap.update p f,toks:=t}:=by
 have e:(s.heap.update p f).get? p=some { cls:=.type "list",data:=.seq its'.toArray n'}:=by rw[i9 f ho (by rw[hf] <;> rfl),hf]
 refine I.write (by rw[h];trivial) (.inl rfl) (λb u hb q=>(fI _ _ (sB hb)).trans q) #[_,e] ?_
 exact#[hz,its',n',r,e]
def Za:V->V->V->Hp->(Hp->Prop)->Prop:=λo i v H Q=>∃p xs k j,o=.ref p/\i=.int k/\H p=!(.lst xs)/\xD xs.length k=!j/\Q (upd H p (.lst (xs.set j v)))
theorem set_list:YF X Za:=by
 intro ah s Y H o i v ov iv u Q I ro ri rv h;obtain⟨p,xs,k,j,rfl,rfl,hp,hj,q⟩:=h;cases ro;obtain⟨t,rfl⟩:=ri;obtain⟨its,n,r,ho,hz⟩:=I.lst hp;obtain⟨h1,h2,h3,h4⟩:=sf hj;have hl:=r.length;have hn:=xr;have I':=
  I.Sz hp ho (xE its n j u) (r.set rv j) (by rw[y7];exact hz) s.toks
 by_cases h0:0<=k
 .
  have hk:k.toNat=j:=by rw[seqIndex_of h0 h4]at h1;exact mI h1
  exact PySem.W.ki_setAt ho h0 ⋯ (by rw[b8,<- hl];exact h4) (by rw[hk];exact#[_,I',q])
 .
  have hk:(k+(its.toArray.size:Int)).toNat=j:=by rw[seqIndex_neg ⋯ h3]at h1;rw[b8,<- hl];exact mI h1
  exact PySem.W.ki_setBack ho ⋯ (by rw[b8,<- hl];exact h3) ⋯ (by rw[hk];exact#[_,I',q])
theorem sy(lo hi:Option Int)(n:Nat):(sliceBounds lo hi none n).1=((HT.bL n 0 lo:Nat):Int)/\(sliceBounds lo hi none n).2.1=((HT.bL n n hi:Nat):Int)/\(sliceBounds lo hi none n).2.2=1:=by
 refine#[?_,?_,rfl]
 .
  cases lo with
  |none=>simp[sliceBounds,HT.bL]
  |some i=>
   simp only[sliceBounds,HT.bL,Option.getD_none];by_cases h:i<0
   . simp only[h] <;> lia
   . simp only[h] <;> lia
 .
  cases hi with
  |none=>simp[sliceBounds,HT.bL]
  |some i=>
   simp only[sliceBounds,HT.bL,Option.getD_none];by_cases h:i<0
   . simp only[h] <;> lia
   . simp only[h] <;> lia
theorem pG(its:List Value)(lo hi:Option Int):slicePick its.toArray lo hi none=((its.drop (HT.bL its.length 0 lo)).take (HT.bL its.length its.length hi - HT.bL its.length 0 lo)).toArray:=by obtain⟨h1,h2,h3⟩:=sy lo hi its.toArray.size;unfold slicePick;rw[h1,h2,h3];simp only[sliceRange_one,pick_run] <;> rfl
def rSlL(K:Frag):V->Option Int->Option Int->Hp->VK->Prop:=λx lo hi H Q=>∃a xs,x=.ref a/\cu K H a xs/\∀p,H p=none->Q (.ref p) (upd H p (.lst (xB xs lo hi)))
theorem zp:SlR X (rSlL X.K):=by
 intro ah s Y H x v vl vu lo hi sl Q I rx hs pl pu h;obtain⟨a,xs,rfl,hx,q⟩:=h;cases rx;obtain⟨its,r,ht,hz⟩:=I.list hx;have aH:=r.length;refine#["list",_,slot_list_getitem.lookup,ht.isList.typeIs,?_];refine wpAny_getItem_list_slice ht.isList hs pl pu .none ⋯ ?_ (by rw[b8] <;> lia)
 rw[pG,<- aH];refine#[.ref s⁻¹,_,I.laid (λb ob q=>a9 _ q) (dE _) ?_,rfl,q _ (I.hok.fresh (dE _))]
 exact#[n0 (kQ xs lo hi) hz,_,0,(r.drop (HT.bL xs.length 0 lo)).take (HT.bL xs.length xs.length hi - HT.bL xs.length 0 lo),dC _ rfl]
theorem sA:cF X (.type "list") (λxs H Q=>∃p ys,xs=[.ref p]/\(cu X.K H p ys\/eU X.K H p ys)/\∀l,H l=none->Q (.ref l) (upd H l (.lst ys))):=by
 intro ah s Y H xs us Q I r h;obtain⟨p,ys,rfl,hq,q⟩:=h;obtain⟨u,rfl,rx⟩:=vals1 r;cases rx;have fin:∀(its:List Value),Vals ys its->ys.length<=sizeLine->∀(h':Heap) (c':Nat),(∀b o',s.heap.get? b=!o'->h'.get? b=!o')->
   h'.get? s⁻¹=some { cls:=.type "list",dict:=none,data:=.seq its.toArray c',slots:=([].toArray)}->EP X ah Y Q (.ref s⁻¹) { s with heap:=h'}:=λits r' hz h' c' kp e=>
  #[.ref s⁻¹,_,I.laid kp (dE _) (show bG X.prog X.w _ h' _ (.lst ys)from#[hz,its,c',r',e]),rfl,q _ (I.hok.fresh (dE _))]
 rcases hq with hq |hq
 . obtain⟨its,r',pl,hz⟩:=I.list hq;have aH:=r'.length;obtain⟨o,ho,hc,n,hd⟩:=pl.isList;exact call_list_seq p (.inl rfl) ho hc hd (λh' c' kp e=>fin its r' hz h' c' kp e) (by simp only[b8] <;> lia)
 . obtain⟨its,r',pl,hz⟩:=I.tuple hq;have aH:=r'.length;obtain⟨o,ho,hc,n,hd⟩:=pl;exact call_list_seq p (.inr rfl) ho hc hd (λh' c' kp e=>fin its r' hz h' c' kp e) (by simp only[b8] <;> lia)
theorem pH:cF X (.type "tuple") (λxs H Q=>∃p ys,xs=[.ref p]/\((cu X.K H p ys/\∀l,H l=none->Q (.ref l) (upd H l (.tup ys)))\/(eU X.K H p ys/\Q (.ref p) H))):=by
 intro ah s Y H xs us Q I r h;obtain⟨p,ys,rfl,h⟩:=h;obtain⟨u,rfl,rx⟩:=vals1 r;cases rx;rcases h with ⟨hq,q⟩ |⟨hq,q⟩
 .
  obtain⟨its,r',pl,hz⟩:=I.list hq;have aH:=r'.length;refine call_tuple_list pl.isList (λh' kp=>?_) (by simp only[b8] <;> lia)
  have I1:=I.kept (t':=s.toks) kp;have I2:=
   I1.laid (t':=s.toks) (λb o e=>a9 _ e) (dE _) (show bG X.prog X.w _ _ _ (.tup ys)from#[hz,its,r',fD.new _ _])
  exact#[.ref h'.objs.size,_,I2,rfl,q _ (I1.hok.fresh (dE _))]
 . obtain⟨its,r',pl,hz⟩:=I.tuple hq;exact call_tuple_same pl #[.ref p,H,I,rfl,q]
def tyV(K:Frag)(T:String)(x:V)(H:Hp):Prop:=match x with
 |.str _=>T = "str"
 |.int _=>T = "int"
 |.ref p=>(T = "list" /\∃xs,cu K H p xs)\/(T = "tuple" /\∃o,K.lookup p=!o/\o.cls=.type "tuple" /\o.dict=none)\/
   (T = "dict" /\((∃dO,H p=!(.dK dO))\/∃dO,H p=!(.dT dO)))\/∃φ,H p=!(.set φ)/\∀o,φ o->o.cls=.type T/\o.dict=none
 |_=>False
theorem SJ{ah: ~~~1}{Y:St}{H:Hp}{s:Shared}{T:String}{x:V}{v:Value}(I: ~~~7)(r:RelV x v)(ty:tyV X.K T x H) :
  s.TypeIs v T/\∀a,v=.ref a->∃ob,s.heap.get? a=!ob/\ob.dict=none:=by
 cases x with
 |str z=>
  obtain⟨t,rfl⟩:=r;cases (show T = "str" from ty)
  exact#[typeIs_str s z t,λ_ e=>nomatch e]
 |int i=>
  obtain⟨t,rfl⟩:=r;cases (show T = "int" from ty)
  exact#[typeIs_int s i t,λ_ e=>nomatch e]
 |ref p=>
  cases r;rcases ty with ⟨rfl,xs,hq⟩ |⟨rfl,o,hk,hc,hd⟩ |⟨rfl,hk⟩ |⟨φ,hk,hf⟩
  .
   obtain⟨its,_,pl,_⟩:=I.list hq;refine#[pl.isList.typeIs,λa e=>?_]
   cases e;obtain⟨o,n,e,c,hd,_⟩:=pl;exact#[o,e,hd]
  .
   refine#[#[o,I.mG p o hk,hc],λa e=>?_]
   cases e;exact#[o,I.mG _ o hk,hd]
  .
   have z:∃o,s.heap.get? p=!o/\o.ExactDict:=by
    rcases hk with ⟨dO,hk⟩ |⟨dO,hk⟩
    . obtain⟨_,_,_,_,o,_,_,e,ex,_⟩:=I.hok p _ hk;exact#[o,e,ex]
    . obtain⟨_,_,_,_,o,_,_,e,ex,_⟩:=I.hok p _ hk;exact#[o,e,ex]
   obtain⟨o,e,ex⟩:=z;refine#[#[o,e,ex.1],λa e2=>?_]
   cases e2;exact#[o,e,ex.2.1]
  .
   obtain⟨o,e,ex⟩:=I.hok p _ hk;refine#[#[o,e,(hf o ex).1],λa e2=>?_]
   cases e2;exact#[o,e,(hf o ex).2]
 |_=>exact False.elim ty
def tBM(K:Frag)(T:String)(r:V->List V->Hp->VK->Prop)(to:TE)(t:TA):TE:=λY H Q=>to Y H λx H1=>tyV K T x H1/\t Y H1 λxs H2=>r x xs H2 Q
variable{o e:Expr}{es:List Expr}{to:TE}{t:TA}{name:Str}{cM bT:Pos}{T id:String}{r:V->List V->Hp->VK->Prop}
theorem zq(pa:PlainAttrs T)(slot:Slot T name id)(hty:typeOf (.builtin id)=pure (.type "method_descriptor"))(hm:MtR X id r)(ho:PE X o to)(ha:PA X (e::es) t)
  (hbase:attributeBase o name X.env (eval o X.env)=eval o X.env:=by rfl)
  (hfew:((backTo bT (starEach (e::es) X.env)).all (λx=>(not x.1))&&(backToKw bT (keywordEach [] X.env)).all (λx=>x.1.isSome)
   && decide ((e::es).length+([]:List Keyword).length+(if ([]:List Keyword).isEmpty then 0 else 1)<30))=true:=by rfl)
  (hline:(cM.endLine==bT.line)=true:=by rfl) (hs:starEach (e::es) X.env=(false,eval e X.env)::starEach es X.env:=by rfl) (hplain:(backTo bT (starEach es X.env)).any (·.1)=false:=by rfl) :
  PE X (.Call (.Attribute o name cM) (e::es) [] bT) (tBM X.K T r to t):=by
 intro ah s Y H Q I h;refine wpAny_Call_method_late hbase hfew hline rfl (bD (ho ah s Y H _ I h) ?_);rintro v s1 ⟨x,H1,I1,r1,ty,q1⟩;obtain⟨h1,h2⟩:=SJ I1 r1 ty;refine#[T,id,pa,slot,hty,h1,h2,?_];have hA:=ha bT ah s1 Y H1 _ I1 q1;rw[hs]at hA ⊢
 refine Calls.callWith_builtin (by show (false||(backTo bT (starEach es X.env)).any (·.1))=false;rw[hplain] <;> rfl) (Calls.evalArgs_plain ?_)
 exact bD hA (by rintro us s2 ⟨vs,H2,I2,r2,q2⟩;exact hm ah s2 Y H2 x vs v us Q I2 r1 r2 q2)
/- xs.append(e),list.index on a module's tuple .. are MtR facts of 06m -/
end
def MtM(X:Cx)(id:String)(r:V->List V->Hp->VK->Prop):Prop:=
 ∀(ah: ~~~1) (s:Shared) (Y:St) (H:Hp) (x:V) (xs:List V) (v:Value) (us:List Value) (Q:VK),Inv X ah Y H s->RelV x v->Vals xs us->r x xs H Q->
  wpAny (~~~2) X.A (call (.builtin id) (v::us)) (EP X ah Y Q) X.xe s
theorem Vals.one:∀{x:V}{us:List Value},Vals [x] us->∃u,us=[u]/\RelV x u:=by intro x us h;cases h with |cons r t=>cases t;exact#[_,rfl,r]
theorem Vals.eraseIdx:∀{xs:List V}{us:List Value} (i:Nat),Vals xs us->Vals (xs.eraseIdx i) (us.eraseIdx i)
 |_,_,_,.nil=>.nil
 |_,_,0,.cons _ t=>t
 |_,_,i+1,.cons r t=>.cons r (Vals.eraseIdx i t)
theorem Vals.rep(h:Vals xs us):∀k:Nat,Vals (List.replicate k xs).flatten (List.replicate k us).flatten
 | 0=>.nil
 |k+1=>by
  exact Vals.append h (Vals.rep h k)
theorem qh{α:Type}:∀(l:List α) (i:Nat),(l.eraseIdx i).length<=l.length
 | [],_=>dE _
 |_::_,0=>AT _
 |_::r,i+1=>Nat.succ_le_succ (qh r i)
theorem foldl_rep(its:List Value):∀(k:Nat) (acc:List Value),
  List.foldl (λx1 x2=>x1++x2) acc.toArray (List.replicate k its.toArray)=(acc++(List.replicate k its).flatten).toArray
 | 0,acc=>by simp
 |k+1,acc=>by
  have e:acc.toArray++its.toArray=(acc++its).toArray:=by simp
  have e2:(acc++its)++(List.replicate k its).flatten=acc++(List.replicate (k+1) its).flatten:=by rw[y8,List.flatten_cons,y0]
  rw[<- e2,<- foldl_rep its k (acc++its),<- e,y8,List.foldl_cons]
section
variable{X:Cx}{ah: ~~~1}{Y:St}{H:Hp}{s:Shared}{l b:Addr}{xs ys zs:List V}
theorem Inv.Ld{its its':List Value}{n:Nat}{f:Array Value->Array Value}{t':Nat}(I: ~~~7)(hH:H l=!(.lst xs))
  (e:s.heap.get? l=some { cls:=.type "list",data:=.seq its.toArray n}) (hf:f its.toArray=its'.toArray) (hv:Vals ys its') (hz:ys.length<=sizeLine) :
  Inv X ah Y (upd H l (.lst ys)) { s with heap:=s.heap.update l (Obj.mapSeq f),toks:=t'}:=by
 have q:=PySem.IsL.update e f;rw[hf]at q;refine I.write (by rw[hH];exact trivial) (.inl rfl) (λb' u hb hu=>(fI s.heap (Obj.mapSeq f) (sB hb)).trans hu) #[_,q] ?_
 exact#[hz,its',_,hv,q]
theorem Inv.Zb(I: ~~~7)(hv:Vals ys its)(hz:ys.length<=sizeLine) :
  Inv X ah Y (upd H s⁻¹ (.lst ys)) { s with heap:=s.heap.push { cls:=.type "list",data:=.seq its.toArray},toks:=t'}:=
 I.laid (λ_ _ q=>a9 _ q) (dE _) #[hz,its,0,hv,dC _ rfl]
theorem Inv.fresh(I: ~~~7):H s⁻¹=none:=I.hok.fresh (dE _)
theorem Inv.sC(I: ~~~7)(hH:H l=!(.lst xs)):xs.length<=sizeLine/\∃(its:List Value) (n:Nat),Vals xs its/\xs.length=its.length/\s.heap.get? l=some { cls:=.type "list",data:=.seq its.toArray n}:=by obtain⟨z,its,n,r,e⟩:=I.hok l _ hH;exact#[z,its,n,r,r.length,e]
theorem mS(h:n<=sizeLine):Builtin.List.listTooLong n=false:=by exact nK ⋯
end
section
variable{X:Cx}
def Le:V->List V->Hp->VK->Prop:=λx vs H Q=>∃l xs y,x=.ref l/\vs=[y]/\H l=!(.lst xs)/\xs.length<sizeLine/\Q .non (upd H l (.lst (xs++[y])))
theorem qi:MtM X "list.append" Le:=by
 intro ah s Y H x vs v us Q I rx rv h;obtain⟨l,xs,y,rfl,rfl,hH,hz,q⟩:=h;cases rx;obtain⟨u,rfl,ru⟩:=rv.one;obtain⟨z,its,n,r,hl,e⟩:=I.sC hH;refine A8 F.slot_list_append #[_,e,rfl] F.entry_list_append (F.args_list_append_2 _ _) (PySem.list_append l its.toArray n u (by rw[b8];lia)) #[e,?_]
 refine#[.non,_,I.Ld hH e ⋯ (r.append (.cons ru .nil)) ?_,rfl,q];rw[eP,v3];lia
def Lf:V->List V->Hp->VK->Prop:=λx vs H Q=>∃l b xs zs,x=.ref l/\vs=[.ref b]/\H l=!(.lst xs)/\H b=!(.lst zs)/\xs.length+zs.length<=sizeLine/\Q .non (upd H l (.lst (xs++zs)))
theorem Bm:MtM X "list.extend" Lf:=by
 intro ah s Y H x vs v us Q I rx rv h;obtain⟨l,b,xs,zs,rfl,rfl,hH,hB,hz,q⟩:=h;cases rx;obtain⟨u,rfl,ru⟩:=rv.one;cases ru;obtain⟨z,its,n,r,hl,e⟩:=I.sC hH;obtain⟨z2,iE,n2,r2,hl2,e2⟩:=I.sC hB;have hsz:its.toArray.size+iE.toArray.size<=sizeLine:=by rw[b8,b8];lia
 have uK : ¬ ((not its.toArray.isEmpty)&&Builtin.List.listTooLong (its.toArray.size+iE.toArray.size))=true:=by rw[mS hsz,Cc];exact mM
 refine A8 F.slot_list_extend #[_,e,rfl] F.entry_list_extend (F.args_list_extend_2 _ _)
  (AutoSeq1.list_extend_list_list_0 l its.toArray n b iE.toArray n2 uK (by rw[b8];lia) ⋯) #[e,e2,?_]
 refine#[.non,_,I.Ld hH e ⋯ (r.append r2) ?_,rfl,q];rw[eP];lia
def SM:V->List V->Hp->VK->Prop:=λx vs H Q=>∃l xs i k y,x=.ref l/\vs=[.int i]/\H l=!(.lst xs)/\-(2 ^ 63)<=i/\i<2 ^ 63/\seqIndex? i xs.length=!k/\xs[k]?=!y/\Q y (upd H l (.lst (xs.eraseIdx k)))
theorem Fj:MtM X "list.pop" SM:=by
 intro ah s Y H x vs v us Q I rx rv h;obtain⟨l,xs,i,k,y,rfl,rfl,hH,h1,h2,hk,hy,q⟩:=h;cases rx;obtain⟨u,rfl,ru⟩:=rv.one;obtain⟨t,rfl⟩:=ru;obtain⟨z,its,n,r,hl,e⟩:=I.sC hH;obtain⟨w,hw,rw'⟩:=r.get hy;refine A8 F.slot_list_pop #[_,e,rfl] F.entry_list_pop (F.args_list_pop_2 _ _)
  (MeetsSeq.list_pop_at l its.toArray n i t k w (fitsIndex_both h1 h2) (by rw[b8,<- hl];exact hk) (by rw[<- AF];exact hw) (by rw[b8];lia)) #[e,?_]
 refine#[y,_,I.Ld hH e ?_ (r.eraseIdx k) ?_,rw',q]
 . show its.toArray.eraseIdxIfInBounds k=(its.eraseIdx k).toArray;rw[List.eraseIdxIfInBounds_toArray]
 . have:=qh xs k;lia
def rCat:R2:=λx y H Q=>∃l b xs zs,x=.ref l/\y=.ref b/\H l=!(.lst xs)/\H b=!(.lst zs)/\xs.length+zs.length<=sizeLine/\∀p,H p=none->Q (.ref p) (upd H p (.lst (xs++zs)))
theorem SN:jq X (binaryOp .Add) rCat:=by
 intro ah s Y H x y v u Q I rx ry h;obtain⟨l,b,xs,zs,rfl,rfl,hH,hB,hz,q⟩:=h;cases rx;cases ry;obtain⟨z,its,n,r,hl,e⟩:=I.sC hH;obtain⟨z2,iE,n2,r2,hl2,e2⟩:=I.sC hB;refine PySem.P.add_list e e2 ?_ (by rw[b8,b8];lia)
 have ea:its.toArray++iE.toArray=(its++iE).toArray:=by simp
 rw[ea];exact#[.ref _,_,I.Zb (r.append r2) (by rw[eP];lia),rfl,q _ I.fresh]
def rRep:R2:=λx y H Q=>∃l k xs,x=.ref l/\y=.int k/\H l=!(.lst xs)/\-(2 ^ 63)<=k/\k<2 ^ 63/\xs.length * k.toNat<=sizeLine/\
 ∀p,H p=none->Q (.ref p) (upd H p (.lst (List.replicate k.toNat xs).flatten))
theorem len_rep{α:Type}(xs:List α)(k:Nat):(List.replicate k xs).flatten.length=k * xs.length:=by
 induction k with
 |zero=>simp
 |succ k ih=>rw[y8,List.flatten_cons,eP,ih,Nat.succ_mul,Nat.add_comm]
theorem SQ:jq X (binaryOp .Mult) rRep:=by
 intro ah s Y H x y v u Q I rx ry h;obtain⟨l,k,xs,rfl,rfl,hH,h1,h2,hz,q⟩:=h;cases rx;obtain⟨t,rfl⟩:=ry;obtain⟨z,its,n,r,hl,e⟩:=I.sC hH;have aH:its.toArray.size * k.toNat<=sizeLine:=by rw[b8,<- hl];exact hz
 have hcap : ¬ its.toArray.size * k.toNat > (2 ^ 63 - 1) / 8:=by
  have:(sizeLine:Nat)<=(2 ^ 63 - 1) / 8:=by decide
  lia
 have hfit : ¬ ((not (Builtin.List.listFitsIndex k)))=true:=by rw[fitsIndex_both h1 h2];exact mM
 have uK : ¬ Builtin.List.listTooLong (its.toArray.size * k.toNat)=true:=by rw[mS aH];exact mM
 have hnew:List.foldl (λx1 x2=>x1++x2) ([].toArray) (List.replicate (if its.toArray.isEmpty=true then 0 else k.toNat) its.toArray)=(List.replicate k.toNat its).flatten.toArray:=by
  have f0:∀m:Nat,List.foldl (λx1 x2=>x1++x2) ([].toArray) (List.replicate m its.toArray)=(List.replicate m its).flatten.toArray:=λm=>by
   have:=foldl_rep its m [];exact this
  rw[f0];cases its with
  |nil=>simp
  |cons a r'=>rw[fN ⋯]
 refine wpAny_binaryOp_repeat_ref ⋯ #[_,e,rfl] (λs'=>typeIs_int s' k t) noFill_list_mul F.fills_int_mul F.slot_int_rmul repeat_list F.slot_int_index.lookup
  (A8 F.slot_int_rmul (typeIs_int s k t) F.entry_int_rmul (F.args_int_rmul_2 _ _) (int___rmul___int_list k t l its.toArray n)
   #[e,rfl,#[_,e,rfl],A8 F.slot_list_mul #[_,e,rfl] F.entry_list_mul (F.args_list_mul_2 _ _) (AutoListH.list___mul___list_int_3 l its.toArray n k t hfit hcap uK) #[e,?_]])
 rw[hnew];exact#[.ref _,_,I.Zb (r.rep k.toNat) (by rw[len_rep,Nat.mul_comm];exact hz),rfl,q _ I.fresh]
end
end L2
namespace Att
open PySem PySem.W PySem.Calls PyProof.Rows
theorem lE:∀(ns: ~~~0) (vs:List Value),WellAll P h vs (ns.map WData.int)->IntsAre vs ns:=by
 intro ns
 induction ns with
 |nil=>intro vs w;cases w;exact .nil
 |cons n ns ih=>
  intro vs w;cases w with
  |cons a b=>cases a;exact .cons _ _ (ih _ b)
theorem Bo{l:OpenLaw}{n:Nat}(hn:l.most=!n){P:Params}{h:Heap}{args:List WData}{vals:List Value}
  (hpre:l.row.toRowW.claim.pre args=true) (hwl:WellAll P h vals args) :
  ∃a vs ns,vals=[Value.ref a]/\args=[WData.list (ns.map WData.int)]/\h.get? a=some { cls:=.type "list",data:=.seq vs.toArray}/\IntsAre vs ns/\ns.length<=n:=by
 have hsh:=(pre_splitW hpre).1;have hc:l.pre.holds [] { args:=args}=true:=(pre_splitW hpre).2;obtain⟨d,r,rfl,h1,h2⟩:=hasAllW_cons hsh;obtain rfl:=hasAllW_nil h2;obtain⟨xs,rfl,h3⟩:=hasW_list h1;obtain⟨ns,rfl⟩:=items_int h3;have aH:ns.length<=n:=by
  have h4:(WTm.not (.lt (.lit (.int (n:Int))) (.len (.arg 0)))).holds [] { args:=[.list (ns.map .int)]}=true:=by have h4:=(holds_andW hc).1;rw[hn]at h4;exact h4
  have h5:=condW_of h4 (w_not (w_lt w_lit (w_len_list (w_arg rfl))));refine Nat.le_of_not_lt λq=>?_
  first
   | (rw[kS q']at h5;exact absurd h5 ⋯)
   | (simp at h5;lia)
 cases hwl with
 |cons w1 w2=>
  cases w2;cases w1 with
  |list ho hall=>exact#[_,_,ns,rfl,rfl,ho,lE ns _ hall,aH]
theorem Bp(l:OpenLaw)(args:List WData):l.row.toRowW.claim.post args (.bool true) args=true:=
 postW_of
  (show WShape.has [] (.bool true) .bool=true by first |rfl |decide |simp[WShape.arms])
  (show (WTm.eq .res (.lit (.bool true))).value [] { args:=args,res:=!(.bool true),after:=args}=!(.bool (true==true))from w_eq_bool (w_res rfl) w_lit) rfl
theorem uL{l:OpenLaw}{n:Nat}{q:Program}{loose:List Str}{XP:(Str->Option Value)->Heap->Prop}{YP:World->Heap->Prop}{d:DefRec}
  (hn:l.most=!n) (fB:d.params.defaults=[])
  (call:∀(w:World) (s₀ s₁:Shared) (mg mb:Str->Option Value) (fa:Addr) (o:Obj) (pm cd doc:Value) (a:Addr) (vs:List Value) (ns: ~~~0),
   Ground q loose [] XP w s₀ mg mb s₁.heap->YP w s₁.heap->
   s₁.heap.get? fa=!o->o.data=.func (docDef d.name d.params d.body d.scope pm cd doc)->s₁.heap.CodeRec cd d.name->mg d.name=!(.ref fa)->
   s₁.heap.get? a=some { cls:=.type "list",data:=.seq vs.toArray}->IntsAre vs ns->ns.length<=n->s₁.gens = ([].toArray)->
   codeAny (model l.prog w) callerA (.call (.ref fa) #[[.ref a],[]]) (λr s'=>r=.ok (.ret (.bool true))/\OldK s₁.heap s'.heap/\s'.os=s₁.os/\AllBare s'.gens) s₁) :
  WalkO q loose XP YP l.row.toRowW d [] (λf vs=>PySem.call f vs):=by
 intro w s₀ s₁ mg mb G qqq fa o pm cd doc dV kV ho hd bU hD hmg hg args vals as hpre hlay hrd hwl hlo;obtain rfl:dV=.none:=Dflts.none hD fB;obtain rfl:kV=.none:=Dflts.noKw hD;obtain⟨a,vs,ns,rfl,rfl,hobj,hints,aH⟩:=Bo hn hpre hwl;refine enter_call (AL (call w s₀ s₁ mg mb fa o pm cd doc a vs ns G qqq ho (fd_plain hd) bU hmg hobj hints aH hg) λr s' hq=>?_)
 obtain⟨rfl,h2,h3,h4⟩:=hq;exact#[.inl #[.bool true,.bool true,[],rfl,λ_=>rfl,.bool true,Bp l _,λ_=>#[List.Pairwise.nil,λ_ hm=>(nomatch hm)]],h2,h3,h4]
end Att
namespace L2
theorem jU:∀{vs:List Value}{ns: ~~~0},IntsAre vs ns->Vals (ns.map V.int) vs:=by
 intro vs ns h
 induction h with
 |nil=>exact .nil
 |cons n t h ih=>exact .cons #[t,rfl] ih
abbrev KOf{K:Frag}{h:Heap}(_:K.In h):Frag:=K
abbrev xF:Bj:=λ_ _ _ _ _ _=>False
abbrev E0:XK:=λ_ _ _=>False
theorem QG:Passes xF X E0:=λ_ _ _ _ _ _ _ h=>h.elim
structure Lg(K:Frag)(x qual:Str)(st:Stmt)(f:Addr)(fd:FuncData):Prop where
 ex:∃(oc:Value) (od:Option Addr) (kV doc pm:Value) (an:Option Addr) (bx ct:Value) (osl:Array (Option Value)),
  fd=PySem.W.fnOf x qual (gU st) (bh st) (aC st) .none kV doc pm an bx ct/\K.lookup f=!#[oc,od,.func fd,osl]/\PySem.W.codeIn K bx qual=true
 kp:PySem.W.keepIn K (.ref f)=true
section
variable{P:Program}{w:World}{K:Frag}{mg:Str->Option Value}{base:Heap}
theorem SX{x qual:Str}{st:Stmt}{f:Addr}{oc:Value}{od an:Option Addr}{osl:Array (Option Value)}{kV doc pm bx ct:Value}(l:K.lookup f=!#[oc,od,.func (PySem.W.fnOf x qual (gU st) (bh st) (aC st) .none kV doc pm an bx ct),osl])
  (c:PySem.W.codeIn K bx qual=true) (k:PySem.W.keepIn K (.ref f)=true):Lg K x qual st f (PySem.W.fnOf x qual (gU st) (bh st) (aC st) .none kV doc pm an bx ct):=#[#[oc,od,kV,doc,pm,an,bx,ct,osl,rfl,l,c],k]
end
theorem lF{A B:Prop}(h:B):if false=true then A else B:=by exact h
theorem iN{A B:Prop}(h:A):if true=true then A else B:=by exact h
noncomputable def Cx.block(X:Cx)(N:List Str)(scope:Scope)(cl:List (Str×Addr))(C:Addr)(s₀:Shared)(H₀:Hp)(fp:List Addr):Cx:=
 { X with N:=N,s₀:=s₀,H₀:=H₀,env:=compEnvC scope cl C X.env,outer:=X.stack,ex:=fp,fn:=λx=>scope.names.lookup x==some .local,pn:=[],xe:=λ_ _=>False}
structure Bk where
 cl:List (Str×Addr)
 C:Addr
 s₀:Shared
 H₀:Hp
 fp:List Addr
abbrev Cx.blk (X:Cx) (N:List Str) (scope:Scope) (b:Bk):Cx:=X.block N scope b.cl b.C b.s₀ b.H₀ b.fp
structure bf(sc scope:Scope):Prop where
 kind:scope.kind=.function
 sD:∀y∈scope.names,y.2≠.cell
 uniq:∀y∈scope.names,y.2=.local->scope.names.lookup y.1=some .local
 Zc:∀y∈scope.names,y.2=.free->scope.names.lookup y.1=some .free
 free:∀y∈scope.names,y.2=.free->sc.names.lookup y.1=some .cell\/sc.names.lookup y.1=some .free
theorem mem_of_lookup{α:Type}{x:Str}{v:α}:∀{l:List (Str×α)},l.lookup x=!v->(x,v)∈l
 | [],h=>by simp at h
 | (n,k)::r,h=>by
  cases hx:x==n with
  |true=>
   simp only[o6,hx]at h;symm;have e:x=n:=by simpa using hx
   subst e;exact b0
  |false=>simp only[o6,hx]at h;exact bP _ (mem_of_lookup h)
theorem gq{env:Env}{x:Str}:∀{names:List (Str×NameKind)},
  (names.map λ(n,k)=>if (k==NameKind.free&&env.scope.kind==.function&&env.kindOf n==some .cell)then (n,NameKind.cell)else (n,k)).lookup x
   = (names.lookup x).map λk=>if (k==NameKind.free&&env.scope.kind==.function&&env.kindOf x==some .cell)then NameKind.cell else k
 | []=>rfl
 | (n,k)::r=>by
  have ih:=@gq env x r;show List.lookup x ((if (k==NameKind.free&&env.scope.kind==.function&&env.kindOf n==some .cell)=true then (n,NameKind.cell)else (n,k))::_)=_
  cases hx:x==n with
  |true=>
   have e:x=n:=by simpa using hx
   subst e;by_cases hc:(k==NameKind.free&&env.scope.kind==.function&&env.kindOf x==some .cell)=true
   . rw[hV hc];simp only[o6,hx,C0,hV hc]
   . rw[fN hc];simp only[o6,hx,C0,fN hc]
  |false=>
   by_cases hc:(k==NameKind.free&&env.scope.kind==.function&&env.kindOf n==some .cell)=true
   . rw[hV hc];simp only[o6,hx];exact ih
   . rw[fN hc];simp only[o6,hx];exact ih
theorem mU(h:∀y∈scope.names,y.2=.free->∃c,env.cells.lookup y.1=!c) :
  ∃cl,closureFor scope env=pure cl/\(∀x c,cl.lookup x=!c->env.cells.lookup x=!c/\(x,NameKind.free)∈scope.names)/\∀y∈scope.names,y.2=.free->∃c,cl.lookup y.1=!c:=by
 have key:∀(names:List (Str×NameKind)) (acc:List (Str×Addr)),(∀y∈names,y.2=.free->∃c,env.cells.lookup y.1=!c)->
   ∃cl,(forIn names acc λx (cs:List (Str×Addr))=>(match x with | (name,kind)=>if (kind==.free)=true then (do let c <- cellOf env name;pure (ForInStep.yield ((name,c)::cs)))else pure (ForInStep.yield cs):Sem (ForInStep (List (Str×Addr)))))=pure cl/\
    (∀x c,cl.lookup x=!c->acc.lookup x=!c\/(env.cells.lookup x=!c/\(x,NameKind.free)∈names))/\(∀y∈names,y.2=.free->∃c,cl.lookup y.1=!c)/\∀x c,acc.lookup x=!c->∃c',cl.lookup x=!c':=by
  intro names
  induction names with
  |nil=>intro acc _;exact#[acc,rfl,λx c e=>.inl e,(λy hy=>nomatch hy),λx c e=>#[c,e]]
  |cons y r ih=>
   intro acc hf;obtain⟨n,k⟩:=y;rw[List.forIn_cons];by_cases hk:(k==NameKind.free)=true
   .
    obtain⟨c,hc⟩:=hf (n,k) b0 (by simpa using hk)
    have hc':=hc;obtain⟨cl,e,h1,h2,h3⟩:=ih ((n,c)::acc) λy hy=>hf y (bP _ hy)
    refine#[cl,?_,λx c' q=>?_,λy hy hyf=>?_,λx c' q=>?_]
    .
     have ec:cellOf env n=pure c:=by unfold cellOf;rw[hc']
     show ((if (k==NameKind.free)=true then (do let c <- cellOf env n;pure (ForInStep.yield ((n,c)::acc)))else pure (ForInStep.yield acc)) >>= _)=_
     rw[hV hk,ec];exact e
    .
     rcases h1 x c' q with z |⟨z1,z2⟩
     .
      cases hx:x==n with
      |true=>
       simp only[o6,hx]at z;cases z;have e:x=n:=by simpa using hx
       subst e;have ek:k=NameKind.free:=by simpa using hk
       subst ek;exact .inr #[hc',b0]
      |false=>simp only[o6,hx]at z;exact .inl z
     . exact .inr #[z1,bP _ z2]
    .
     rcases dL.mp hy with rfl |hy
     . exact h3 n c ⋯
     . exact h2 y hy hyf
    .
     cases hx:x==n with
     |true=>
      have e:x=n:=by simpa using hx
      subst e;exact h3 x c ⋯
     |false=>exact h3 x c' (by simp only[o6,hx];exact q)
   .
    obtain⟨cl,e,h1,h2,h3⟩:=ih acc λy hy=>hf y (bP _ hy)
    refine#[cl,?_,λx c' q=>?_,λy hy hyf=>?_,h3]
    .
     show ((if (k==NameKind.free)=true then (do let c <- cellOf env n;pure (ForInStep.yield ((n,c)::acc)))else pure (ForInStep.yield acc)) >>= _)=_
     rw[fN hk];exact e
    .
     rcases h1 x c' q with z |⟨z1,z2⟩
     . exact .inl z
     . exact .inr #[z1,bP _ z2]
    .
     rcases dL.mp hy with rfl |hy
     . exact absurd hyf (by simpa using hk)
     . exact h2 y hy hyf
 obtain⟨cl,e,h1,h2,_⟩:=key scope.names [] h;refine#[cl,?_,λx c q=>?_,h2]
 . exact (congrArg (λm=>m >>= λcs=>pure cs) e:_)
 .
  rcases h1 x c q with z |z
  . simp at z
  . exact z
def jt(X:Cx)(ifs:List Expr)(t:TT):Prop:=
 ∀(ah: ~~~1) (s:Shared) (Y:St) (H:Hp) (Q:Bool->Hp->Prop),Inv X ah Y H s->t Y H Q->
  wpAny (~~~2) X.A (forIn ifs true λc r=>if r=true then do let ok <- isTrue c X.env (eval c X.env);pure (ForInStep.yield ok)else pure (ForInStep.yield r)) (TP X ah Y Q) X.xe s
def Fo:TT:=λ_ H Q=>Q true H
theorem uM:jt X [] Fo:=λ_ _ _ H _ I h=>wpAny_tests_nil #[H,I,h]
theorem Fp(h:PT X c t):jt X [c] t:=λah s Y H Q I hw=>wpAny_tests_one (h ah s Y H Q I hw)
noncomputable def mV(e target iter:Expr)(ifs:List Expr)(d:Nat)(it acc:Value)(env:Env)(em:Sem Unit):Sem Fin:=do
 standAt iter.pos
 match <- pyNext it with
 |none=>pure (.done .next)
 |some v=>
  letOwnedTupleGo target it v
  assign target env v
  let mut ok:=true
  for c in ifs do
   if ok then ok <- isTrue c env (eval c env)
  if ok then em
  again (.compLoop e d it acc env)
def Cu(ce:Expr):Prop:=∀(prog:Program) (w:World) (A:Around) (d:Nat) (it acc:Value) (env:Env),A.under (.compLoop ce d it acc env)=A/\(model prog w).den (.compLoop ce d it acc env)=(compTurn ce d it acc env).onRaise (λx=>do noteFrame x env;theTreesLotGoes x)
theorem ju(hu:Cu ce)(ht:compTurn ce d it acc env=mV ce target iter ifs d it acc env em)(I:Nat->Shared->Prop)
  (turn:∀n s,I n s->wpAny (model prog w) A (pyNext it) (λr s₁=>match r with
   |none=>R (.ok .next) s₁
   |some v=>wpAny (model prog w) A (letOwnedTupleGo target it v) (λ_ s₁'=>wpAny (model prog w) A (assign target env v) (λ_ s₂=>
     wpAny (model prog w) A (forIn ifs true λc r=>if r=true then do let ok <- isTrue c env (eval c env);pure (ForInStep.yield ok)else pure (ForInStep.yield r)) (λok s₃=>
      if ok=true then wpAny (model prog w) A em (λ_ s₅=>∃m,m<n/\I m s₅) (λ_ _=>False) s₃
      else ∃m,m<n/\I m s₃) (λ_ _=>False) s₂) (λ_ _=>False) s₁') (λ_ _=>False) s₁) (λ_ _=>False) s)
  (n:Nat) (h:I n s) :
  codeAny (model prog w) A (.compLoop ce d it acc env) R s:=by
 refine codeAny_loop rfl I (λn s hI=>?_) n h
 rw[(hu prog w A d it acc env).1,(hu prog w A d it acc env).2];refine wpAny_noted ?_;rw[ht];refine aS (AE (aS (i7 (turn n s hI) (λr s₁ h₁=>?_) λ_ _ h'=>h'.elim)))
 cases r with
 |none=>exact a8 h₁
 |some v=>
  refine aS (i7 h₁ (λ_ s₁' h₁'=>?_) λ_ _ h'=>h'.elim)
  refine aS (i7 h₁' (λ_ s₂ h₂=>aS (i7 h₂ (λok s₃ h₃=>?_) λ_ _ h'=>h'.elim)) λ_ _ h'=>h'.elim)
  cases ok with
  |false=>exact a8 #[rfl,h₃]
  |true=>exact aS (i7 h₃ (λ_ s₅ h₅=>a8 #[rfl,h₅]) λ_ _ h'=>h'.elim)
abbrev TU:=St->Hp->(St->Hp->Prop)->Prop
def PU(X:Cx)(m:Sem Unit)(t:TU):Prop:=
 ∀(ah: ~~~1) (s:Shared) (Y:St) (H:Hp) (Q:St->Hp->Prop),Inv X ah Y H s->t Y H Q->wpAny (~~~2) X.A m (λ_ s'=>∃σ' H',Inv X ah σ' H' s'/\Q σ' H') (λ_ _=>False) s
def uN(D:Addr)(te:TE):TU:=λY H Q=>te Y H λv H5=>∃ys,H5 D=!(.lst ys)/\ys.length<sizeLine/\Q Y (upd H5 D (.lst (ys++[v])))
theorem sE(he:PE X cQ te)(hx:X.xe=λ_ _=>False):PU X (do let _ <- call (.builtin "list.append") [.ref D,<- eval cQ X.env]) (uN D te):=by
 intro ah s Y H Q I h;have he:=he ah s Y H _ I h;rw[hx]at he;refine aS (i7 he (?_) λ_ _ z=>z)
 rintro y s8 ⟨v,H8,I8,r8,ys,hD8,hz8,q8⟩;have ma:=qi ah s8 Y H8 (.ref D) [v] (.ref D) [y] (λ_ H9=>Q Y H9) I8 rfl (.cons r8 .nil) #[_,ys,v,rfl,rfl,hD8,hz8,q8]
 rw[hx]at ma;exact aS (i7 ma (by rintro _ s9 ⟨_,H9,I9,_,q9⟩;exact a8 #[Y,H9,I9,q9]) λ_ _ z=>z)
noncomputable def σC(k:Nat)(D:Addr)(Y:St):St:=Y++(List.replicate k none++[!(.ref D)])
def BkIn(X:Cx)(Y:St)(b:Bk):Prop:=∃ah,Inv X ah Y b.H₀ b.s₀/\∀a∈b.fp,jR X ah b.H₀ a
def Lh(u0:HO)(X:Cx)(k:Nat)(g:Bk->TG)(tt:Bk->TT)(te:Addr->Bk->TU)(J:It)(D:Addr)(Y:St)(H1:Hp)(Q:VK):Prop:=
 ∃W:Nat->Nat->St->Hp->Prop,(∃m,W 0 m (σC k D Y) (upd H1 D u0))/\∀i m σ' H',W i m σ' H'->
  (J.stop i H'/\Q (.ref D) H')\/(J.go i H'/\∃Nn:St->Hp->Prop,(∀J8 J9,Nn J8 J9->∃m',m'<m/\W (i+1) m' J8 J9)/\∀x H2,J.XD i H' x H2->∀bk:Bk,BkIn X Y bk->g bk x σ' H2 λσ2 H3=>tt bk σ2 H3 λb H4=>
   if b=true then te D bk σ2 H4 Nn else Nn σ2 H4)
noncomputable def sF(u0:HO)(X:Cx)(k:Nat)(wi:TI)(g:Bk->TG)(tt:Bk->TT)(te:Addr->Bk->TU):TE:=λY H Q=>wi Y H λJ H1=>∀D,H1 D=none->Lh u0 X k g tt te J D Y H1 Q
abbrev qj:=sF (.lst [])
structure Ck(X:Cx)(ce tg iter:Expr)(ifs:List Expr)(rest:List Comprehension)(new:Sem Value)(u0:HO)(em:Value->Env->Sem Unit):Prop where
 cls:clausesOf ce=#[tg,iter,ifs,0]::rest
 und:Cu ce
 turn:∀it D env,compTurn ce 0 it (.ref D) env=mV ce tg iter ifs 0 it (.ref D) env (em (.ref D) env)
 new:∃o0:Obj,o0.isFreed=false/\(∀{A:Around}{E Q:Value->Shared->Prop}{s:Shared},Q (.ref s⁻¹) { s with heap:=s.heap.push o0}->wpAny (~~~2) A new Q E s)/\
  ∀(H:Hp) (h:Heap) (a:Addr),h.get? a=!o0->(a==sysModules)=false->bG X.prog X.w H h a u0
 start:∀{A:Around}{R:Result->Shared->Prop}{s:Shared}{it acc:Value}{env:Env},codeAny (~~~2) A (.compLoop ce 0 it acc env) R s->
  wpAny (~~~2) A (pyIter it) (λit' s'=>codeAny (~~~2) A (.compLoop ce 0 it' acc env) R s') (notedBy (~~~2) A env λx s'=>R (.error x) s') s->codeAny (~~~2) A (.compStart ce 0 it acc env) R s
theorem lR{X:Cx}{cQ tg iter:Expr}{ifs:List Expr}{rest:List Comprehension}{scope:Scope}{pos:Pos}{em:Value->Env->Sem Unit}(h:∀it acc env,compTurn (.ListComp cQ (#[tg,iter,ifs,0]::rest) scope pos) 0 it acc env=mV (.ListComp cQ (#[tg,iter,ifs,0]::rest) scope pos) tg iter ifs 0 it acc env (em acc env)) :
  Ck X (.ListComp cQ (#[tg,iter,ifs,0]::rest) scope pos) tg iter ifs rest (newList []) (.lst []) em where
 cls:=rfl
 und:=λ_ _ _ _ _ _ _=>#[rfl,rfl]
 turn:=λit D env=>h it (.ref D) env
 new:=#[_,rfl,λh=>lS h,λ_ _ _ e _=>#[tP _,[],_,.nil,e]]
 start:=codeAny_compStart_list
structure Names(N N':List Str)(scope:Scope)(k:Nat):Prop where
 len:N'.length=N.length+(k+1)
 last:∀x,N'[N.length+k]?=!x->scope.names.lookup x=none
 old:∀i x,N'[i]?=!x->i<N.length->scope.names.lookup x=none\/(N[i]?=!x/\scope.names.lookup x≠some .local)
theorem cZ:(relabel scope env).names.lookup x=(scope.names.lookup x).map λk=>if (k==NameKind.free&&env.scope.kind==.function&&env.kindOf x==some .cell)then NameKind.cell else k:=gq
section
variable{X:Cx}
theorem mW(B:bf X.env.scope scope)(h:(compEnvC scope cl C X.env).kindOf x=some .cell\/(compEnvC scope cl C X.env).kindOf x=some .free) :
  (x,NameKind.free)∈scope.names:=by
 have e:(compEnvC scope cl C X.env).kindOf x=(scope.names.lookup x).map λk=>if (k==NameKind.free&&X.env.scope.kind==.function&&X.env.kindOf x==some .cell)then NameKind.cell else k:=cZ
 rw[e]at h;cases q:scope.names.lookup x with
 |none=>rw[q]at h;rcases h with h |h <;> symm
 |some k=>
  have hm:=mem_of_lookup q;cases k with
  |free=>exact hm
  |cell=>exact absurd rfl (B.sD _ hm)
  |_=>rw[q]at h;rcases h with h |h <;> (simp at h)
theorem Fq(B:bf X.env.scope scope)(I: ~~~7)(hC:s⁻¹<=C)
  (hf:∀b∈fp,jR X ah H b) (hfs:∀b∈fp,b<s⁻¹)
  (hcl:∀x c,cl.lookup x=!c->X.env.cells.lookup x=!c/\(x,NameKind.free)∈scope.names) (Li:∀y∈scope.names,y.2=.free->∃c,cl.lookup y.1=!c):(X.block N' scope cl C s H fp).Ok where
 mod:=I.ok.mod
 kind:=B.kind
 glob:=I.ok.glob
 blt:=I.ok.blt
 above:=hC
 inj:=λx y c h1 h2=>I.ok.inj x y c (hcl x c h1).1 (hcl y c h2).1
 has:=λx h=>Li _ (mW B h) rfl
 RJ:=λx c h1 h2=>by
  have e:scope.names.lookup x=some .local:=by have:(scope.names.lookup x==!NameKind.local)=true:=h1;simpa using this
  have h3:=(hcl x c h2).2;have q:=B.Zc _ h3 rfl;rw[e]at q;cases q
 hd:=I.ok.hd
 frames:=I.ok.frames
 stk:=.inl rfl
 Xz:=λb hb=>#[fA (eM (hfs b hb) hC),λx c e=>(hf b hb).2.2.2.2.1 x c (hcl x c e).1]
 bs:=I.bs
 Eo:=n0 I.ok.Eo I.sz
 uC:=λb o e hb=>by
  obtain⟨_,_,_,h3,_⟩:=hf b hb;rcases h3 with h3 |h3
  . exact I.ok.uC b o e h3
  . exact absurd (eM (dS e) (n0 I.ok.Eo h3)) (nN _)
 wZ:=λb hb hm=>by
  rcases dL.mp (I.xg b hm)with e |e
  . exact (hf b hb).2.1 e
  . exact (hf b hb).2.2.1 e
 jm:=I.stack
 KN:=I.rR
theorem eW{ah: ~~~1}{Y:St}{H:Hp}{s:Shared}{N':List Str}{k:Nat}{wi:TI}{g:Bk->TG}{tt:Bk->TT}{tu:Addr->Bk->TU}{ce:Expr}{rest:List Comprehension}{new:Sem Value}{u0:HO}{cp:Pos}{em:Value->Env->Sem Unit}{use:Option (Value->Sem Unit)}{Q:Value->Shared->Prop}{Q0:VK}
  (B:bf X.env.scope scope) (hc:X.calm=true) (hN:Names X.N N' scope k) (hi:PI X tg iter wi) (ck:Ck X ce tg iter ifs rest new u0 em)
  (hin:∀(b:Bk) (D:Addr),PG (X.blk N' scope b) tg (g b)/\jt (X.blk N' scope b) ifs (tt b)/\PU (X.blk N' scope b) (em (.ref D) (X.blk N' scope b).env) (tu D b))
  (hs:∀x,foldedSetIterable iter X.env x=pure x) (I: ~~~7) (h:sF u0 X k wi g tt tu Y H Q0)
  (fin:∀s' H' D C m,Inv X ah Y H' s'->jR X ah H' C->s'.heap.Ns C m->Q0 (.ref D) H'->compPost (~~~2) X.A X.xe use Q (.ref D) C (.ok .next) s') :
  wpAny (~~~2) X.A (comprehension ce scope X.env cp new false (eval iter X.env) use) Q X.xe s:=by
 obtain⟨cl,hclos,hcl,Li⟩:=mU λy hy hf=>I.ok.has y.1 (B.free y hy hf)
 refine wpAny_comprehension_free ck.cls hs hclos B.kind B.uniq (bD (hi ah s Y H _ I h) λxv s₁ h₁=>bD h₁ λitv s₂ h₂=>?_)
 obtain⟨it,fp,tn,J,H2,rfl,I2,T,aG,f2,hW⟩:=h₂;obtain⟨o0,fr0,new0,ok0⟩:=ck.new;refine new0 (wpAny_newFunctionEnv B.sD (by intro y hy;simp at hy) (λh₁ Zd S0=>?_) B.kind)
 generalize hH2:s₂.heap.push o0=P2 at Zd S0 ⊢
 have hC:P2.objs.size=s₂⁻¹+1:=by rw[<- hH2,qS]
 have hDC:s₂⁻¹≠P2.objs.size:=by rw[hC];exact fA (pE _)
 have S2:s₂⁻¹<=P2.objs.size:=by rw[hC];exact AT _
 have old:∀b o,s₂.heap.get? b=!o->h₁.get? b=!o:=λb o e=>S0.extBut b o (fA (by rw[hC];exact y3 (dS e))) (a9 _ (hH2▸a9 _ e))
 have hD0:=I2.hok.fresh (dE _);have hC0:=I2.hok.fresh S2;have nsys:(s₂⁻¹==sysModules)=false:=by
  have h1:=(I2.ok.mod.glob.keeps I2.bk).lt;refine Bool.eq_false_iff.mpr λq=>?_
  have q:=eq_of_beq q;rw[q]at h1;exact absurd h1 ⋯
 have fps:∀b∈fp,b<s₂⁻¹:=λb hb=>by
  obtain⟨o,e,_⟩:=T.obj _ _ aG b hb;exact dS e
 have ok':=Fq (N':=N') B I2 S2 f2 fps hcl Li;obtain⟨W,⟨m0,w0⟩,turn⟩:=hW s₂⁻¹ hD0;have fsub:∀b∈fp,b∉frs X.stack:=λb hb=>ok'.wZ b hb
 obtain⟨hg,ht,he⟩:=hin #[cl,P2.objs.size,s₂,H2,fp] s₂⁻¹;have I0:Inv (X.block N' scope cl P2.objs.size s₂ H2 fp) [] (σC k s₂⁻¹ Y) (upd H2 s₂⁻¹ u0) { s₂ with heap:=h₁,toks:=s₂.toks+([]:List (Str×Value)).length}:=by
  refine#[ok',rfl,I2.bare,Un.laid old (dE _) hD0,#[_,Zd,λi x v e1 e2 e3=>?_],λx c e=>?_,?_,λx c e=>?_,λp hp=>?_,I2.hok.laid old (dE _) ?_,?_]
  .
   have Ze:(compEnvC scope cl P2.objs.size X.env).kindOf x=some .local\/(compEnvC scope cl P2.objs.size X.env).kindOf x=some .cell\/(compEnvC scope cl P2.objs.size X.env).kindOf x=some .free:=e3;have ek:(compEnvC scope cl P2.objs.size X.env).kindOf x=(scope.names.lookup x).map λk=>if (k==NameKind.free&&X.env.scope.kind==.function&&X.env.kindOf x==some .cell)then NameKind.cell else k:=cZ
   have Yv:i<Y.length:=by
    rcases AU i Y.length with z |z
    . exact z
    .
     exfalso;unfold σC at e2;rw[eR z]at e2;rcases AU (i - Y.length) k with z2 |z2
     .
      rw[eD (by rw[mB];exact z2)]at e2
      have:=hZ e2;rw[w8]at this;exact absurd this.2 ⋯
     .
      rw[eR (by rw[mB];exact z2),mB]at e2
      have z3:i - Y.length - k=0:=by
       rcases Nat.eq_zero_or_pos (i - Y.length - k)with q |q
       . exact q
       . rw[v4 (Nat.succ_le_of_lt q)]at e2;cases e2
      have z4:i=X.N.length+k:=by rw[<- I2.len];lia
      have hn:=hN.last x (by rw[<- z4];exact e1)
      rw[ek,hn]at Ze;rcases Ze with q |q |q <;> cases q
   have QH:Y[i]?=!(!v):=by unfold σC at e2;rw[eD Yv]at e2;exact e2
   have hiN:i<X.N.length:=by rw[<- I2.len];exact Yv
   rcases hN.old i x e1 hiN with z |⟨z,z2⟩
   . rw[ek,z]at Ze;rcases Ze with q |q |q <;> cases q
   .
    have hfree:(compEnvC scope cl P2.objs.size X.env).kindOf x=some .cell\/(compEnvC scope cl P2.objs.size X.env).kindOf x=some .free:=by
     rcases Ze with q |q
     .
      exfalso;rw[ek]at q;cases hq:scope.names.lookup x with
      |none=>rw[hq]at q;cases q
      |some kk=>
       rw[hq]at q;cases kk with
       | «local»=>exact z2 hq
       |free=>simp only[C0]at q;split at q <;> cases q
       |_=>simp at q
     . exact q
    have hm:=mW B hfree;obtain⟨c,hc1⟩:=Li _ hm rfl;have Zf:=hc1;have hc2:=(hcl x c Zf).1;obtain⟨m2,hn2,hl2⟩:=I2.loc;have hvis:um X.env.scope x:=(B.free _ hm rfl).elim (λa=>.inr (.inl a)) λa=>.inr (.inr a)
    obtain⟨u,ru,lk⟩:=hl2 i x v z QH hvis;refine#[u,ru,.inr #[hfree,c,Zf,?_]];rcases lk with ⟨q1,_⟩ |⟨_,c',q1,q2⟩
    .
     exfalso;have Ka:X.env.scope.names.lookup x=some .local:=q1;rcases B.free _ hm rfl with y |y
     . have y':=y;rw[Ka]at y';cases y'
     . have y':=y;rw[Ka]at y';cases y'
    . rw[hc2]at q1;cases q1;obtain⟨o,ho,hd⟩:=q2;exact#[o,old _ _ ho,hd]
  . obtain⟨v,o,ho,hd⟩:=I2.cell x c (hcl x c e).1;exact#[v,o,old _ _ ho,hd]
  . show upd H2 s₂⁻¹ u0 P2.objs.size=none;rw[au (sB hDC)];exact hC0
  . have q:=I2.cR x c (hcl x c e).1;obtain⟨v,z⟩:=I2.cell x c (hcl x c e).1;rw[au (fA z.lt)];exact q
  . exact absurd (show p∈([]: ~~~1)from hp) ⋯
  . exact ok0 _ _ _ (S0.extBut _ _ hDC (a9 _ (hH2▸dC _ fr0))) nsys
  . show (σC k s₂⁻¹ Y).length=N'.length;unfold σC;rw[eP,eP,mB,hN.len,I2.len];rfl
 have stat:∀{H':Hp},(∀b∈fp,H' b=none)->∀b∈fp,jR (X.block N' scope cl P2.objs.size s₂ H2 fp) [] H' b:=λhn b hb=>
  #[hn b hb,(ok'.Xz b hb).1,fsub b hb,.inl hb,λx c e=>(ok'.Xz b hb).2 x c e,λp hp=>absurd (show p∈([]: ~~~1)from hp) ⋯]
 have loop:∀s₃:Shared,s₃={ s₂ with heap:=h₁,toks:=s₂.toks+([]:List (Str×Value)).length}->
   codeAny (~~~2) X.A (.compLoop ce 0 (.ref it) (.ref s₂⁻¹) (compEnvC scope cl P2.objs.size X.env))
    (compPost (~~~2) X.A X.xe use Q (.ref s₂⁻¹) P2.objs.size) s₃:=by
  rintro s₃ rfl;refine ju ck.und (ck.turn _ _ _) (λn s'=>∃i σ' H',Inv (X.block N' scope cl P2.objs.size s₂ H2 fp) [] σ' H' s'/\tn i s'.heap/\(∀b∈fp,H' b=none)/\W i n σ' H') ?_ m0
   #[0,_,_,I0,T.keep _ _ _ aG λb hb o e=>old b o e,λb hb=>?_,w0]
  .
   rintro n s3 ⟨i,σ3,H3,I3,cY,QC,w3⟩;rcases turn i n σ3 H3 w3 with ⟨stop,qn⟩ |⟨go,Nn,hNn,step⟩
   .
    refine bD (T.done (X.block N' scope cl P2.objs.size s₂ H2 fp) rfl rfl rfl hc i [] s3 σ3 H3 (λ_ _=>False) I3 (stat QC) cY stop) λr s4 #[hr,I4]=>?_
    subst hr;obtain⟨m,hm,_⟩:=id I4.loc;have I5:=I2.call' I4.os I4.base I4.hok I4.bare λb hb=>#[(f2 b hb).2.2.2.1,(f2 b hb).2.1,(f2 b hb).2.2.2.2.1,(f2 b hb).2.2.2.2.2]
    exact fin s4 H3 _ _ m I5 (I2.Bb S2 I4.free) hm qn
   .
    refine bD (T.item (X.block N' scope cl P2.objs.size s₂ H2 fp) rfl rfl rfl hc i [] s3 σ3 H3 (λ_ _=>False) I3 (stat QC) cY go) λr s4 #[u,hr,h4]=>?_
    subst hr;refine bD h4 ?_;rintro _ s5 ⟨x,H5,I5,r5,y5,jT,YL⟩;have YM:=I5.pinned (stat YL) (T.obj _ _ jT);have again:∀{σ7:St}{H7:Hp}{s7:Shared},Inv (X.block N' scope cl P2.objs.size s₂ H2 fp) ([]++jS fp s5.heap) σ7 H7 s7->Nn σ7 H7->∃m,m<n/\∃i σ' H',Inv (X.block N' scope cl P2.objs.size s₂ H2 fp) [] σ' H' s7/\tn i s7.heap/\(∀b∈fp,H' b=none)/\W i m σ' H':=λ{σ7 H7 s7} I7 n7=>by
     obtain⟨m',hm,w7⟩:=hNn σ7 H7 n7;refine#[m',hm,i+1,σ7,H7,I7.gi,T.keep _ _ _ jT λb hb o e=>(I7.pin (b,o) (gN _ (gN _ (cG hb e)))).1,λb hb=>?_,w7]
     obtain⟨o,e,d⟩:=T.obj _ _ jT b hb;exact (I7.pin (b,o) (gN _ (gN _ (cG hb e)))).2.1
    refine bD (hg _ s5 σ3 H5 x u _ YM r5 (step x H5 y5 #[cl,P2.objs.size,s₂,H2,fp] #[ah,I2,f2])) ?_;rintro _ s6 ⟨σ6,H6,I6,q6⟩;refine bD (ht _ s6 σ6 H6 _ I6 q6) ?_;rintro b s7 ⟨H7,I7,q7⟩;cases b with
    |false=>exact again I7 q7
    |true=>exact i7 (he _ s7 σ6 H7 _ I7 q7) (by rintro _ s9 ⟨σ9,H9,I9,q9⟩;exact again I9 q9) λ_ _ z=>z
  . show upd H2 s₂⁻¹ u0 b=none;rw[au (fA (fps b hb))];exact (f2 b hb).1
 refine ck.start (loop _ rfl) (T.self _ 0 _ _ _ ?_ (loop _ rfl));exact T.keep _ _ _ aG λb hb o e=>old b o e
theorem Lj{N':List Str}{k:Nat}{wi:TI}{g:Bk->TG}{tt:Bk->TT}{te:Bk->TE}(B:bf X.env.scope scope)(hc:X.calm=true)(hN:Names X.N N' scope k)(hi:PI X tg iter wi)
  (hin:∀b:Bk,PG (X.blk N' scope b) tg (g b)/\jt (X.blk N' scope b) ifs (tt b)/\PE (X.blk N' scope b) cQ (te b))
  (hs:∀x,foldedSetIterable iter X.env x=pure x:=by intro _;rfl):PE X (.ListComp cQ [#[tg,iter,ifs,0]] scope pos) (qj X k wi g tt λD b=>uN D (te b)):=by
 intro ah s Y H Q I h;refine eW B hc hN hi (lR λ_ _ _=>rfl) (λb D=>#[(hin b).1,(hin b).2.1,sE (hin b).2.2 rfl]) hs I h λs' H' D C m I' f' hn q=>?_
 refine#[m,hn,λh' sb=>#[.ref D,H',?_,rfl,q]]
 obtain⟨f0,f1,f2,f3,f4,f5⟩:=f';exact I'.turned (λb o hb e=>(sb.2 b hb).trans e) f0 f1 f3 f4 f5
theorem Ln{N':List Str}{k:Nat}{wi:TI}{g:Bk->TG}{tt:Bk->TT}{te:Bk->TE}{i:Nat}{y:Str}{py eO:Pos}(B:bf X.env.scope scope)(hc:X.calm=true)(hN:Names X.N N' scope k)(hi:PI X tg iter wi)
  (hin:∀b:Bk,PG (X.blk N' scope b) tg (g b)/\jt (X.blk N' scope b) ifs (tt b)/\PE (X.blk N' scope b) cQ (te b))
  (Lp:X.N.Nodup) (hy:X.N[i]?=!y) (hl:X.env.scope.names.lookup y=some .local)
  (hsw:swapsWith (.ListComp cQ [#[tg,iter,ifs,0]] scope pos) (!(.Name y py)) eO.line X.env=pure true)
  (hs:∀x,foldedSetIterable iter X.env x=pure x:=by intro _;rfl):PS X (.Assign [.Name y py] (.ListComp cQ [#[tg,iter,ifs,0]] scope pos) eO) (KY (qj X k wi g tt λD b=>uN D (te b)) (zb i)):=by
 intro ah s Y H D0 I h;rw[exec_Assign_Name_used _ _ _ _ hsw];refine aS (AE (aS ?_));refine aS (i7 (eW B hc hN hi (lR λ_ _ _=>rfl) (λb D=>#[(hin b).1,(hin b).2.1,sE (hin b).2.2 rfl]) hs I h λs' H' D C m I' f' hn q=>?_) (λ_ s' hq=>a8 (a8 hq)) λ_ _ e=>e)
 refine wpAny_assign_Name (jQ I' Lp hy (.inl hl) (v:=.ref D) rfl (λs2 I2 hsb=>?_) (.inr hl))
 obtain⟨f0,f1,f2,f3,f4,f5⟩:=f';obtain⟨a,sb,ha⟩:=hsb;have nC:C≠a:=by
  rcases ha with e |e
  . rw[e];exact f1
  . exact sB (f4 _ _ e)
 refine#[m,hn.sameBut sb nC,λh' sb'=>#[_,H',?_,q]]
 exact I2.turned (λb o hb e=>(sb'.2 b hb).trans e) f0 f1 f3 f4 f5
end
section
theorem dQ
  (h0:codeAny (model prog w) A (.compLoop (.ListComp cQ [#[t1,i1,f1,0],#[target,iter,ifs,0]] scope pos) 1 it acc env) R s)
  (h:wpAny (model prog w) A (pyIter it) (λit' s'=>codeAny (model prog w) A (.compLoop (.ListComp cQ [#[t1,i1,f1,0],#[target,iter,ifs,0]] scope pos) 1 it' acc env) R s') (λ_ _=>False) s) :
  codeAny (model prog w) A (.compStart (.ListComp cQ [#[t1,i1,f1,0],#[target,iter,ifs,0]] scope pos) 1 it acc env) R s:=by
 refine codeAny_of_tree ?_;refine wpAny_notedAt ?_;refine aS (AC (wpAny_ite ?_));split
 .
  first
   |exact aS (a8 (a8 (And.intro rfl h0)))
   |exact a8 (And.intro rfl h0)
 .
  first
   |exact aS (A9 (aS (AE (aS (i7 h (λit' s' h'=>a8 (And.intro rfl h')) λ_ _ x=>x.elim)))))
   | (refine aS (A9 ?_);show wpAny _ _ (standAt iter.pos >>= _) _ _ s;exact aS (AE (aS (i7 h (λit' s' h'=>a8 (And.intro rfl h')) λ_ _ x=>x.elim))))
end
def S8(ce iter:Expr)(acc:Value)(env:Env):Sem Unit:=do
 let x <- eval iter env
 standAt iter.pos
 let x <- foldedSetIterable iter env x
 let _ <- runOwn (.compStart ce 1 (<- holding [x] (pyIter x)) acc env) env
noncomputable def Zg(wi:TI)(g:TG)(tt:TT)(tu:TU):TU:=λY H Q=>wi Y H λJ H1=>∃W:Nat->Nat->St->Hp->Prop,(∃m,W 0 m Y H1)/\∀i m σ' H',W i m σ' H'->
 (J.stop i H'/\Q σ' H')\/(J.go i H'/\∃Nn:St->Hp->Prop,(∀J8 J9,Nn J8 J9->∃m',m'<m/\W (i+1) m' J8 J9)/\∀x H2,J.XD i H' x H2->g x σ' H2 λσ2 H3=>tt σ2 H3 λb H4=>if b=true then tu σ2 H4 Nn else Nn σ2 H4)
def Cs(X:Cx)(ce:Expr)(acc:Value):Prop:=∀{R:Result->Shared->Prop}{s:Shared}{it:Value},codeAny (~~~2) X.A (.compLoop ce 1 it acc X.env) R s->
 wpAny (~~~2) X.A (pyIter it) (λit' s'=>codeAny (~~~2) X.A (.compLoop ce 1 it' acc X.env) R s') (λ_ _=>False) s->codeAny (~~~2) X.A (.compStart ce 1 it acc X.env) R s
theorem QJ{X:Cx}{ce tg iter:Expr}{ifs:List Expr}{D:Addr}{wi:TI}{g:TG}{tt:TT}{tu:TU}{em:Sem Unit}(hc:X.calm=true)(hx:X.xe=λ_ _=>False)(hu:Cu ce)(hrn:∀it,compTurn ce 1 it (.ref D) X.env=mV ce tg iter ifs 1 it (.ref D) X.env em)(b9:Cs X ce (.ref D))(hi:PI X tg iter wi)(hg:PG X tg g)(ht:jt X ifs tt)(he:PU X em tu)(hs:∀x,foldedSetIterable iter X.env x=pure x) :
  PU X (S8 ce iter (.ref D) X.env) (Zg wi g tt tu):=by
 intro ah s Y H Q I h;have hi:=hi ah s Y H _ I h;rw[hx]at hi;refine aS (i7 hi (λv s1 h1=>?_) λ_ _ z=>z)
 refine aS (AE ?_);rw[hs v];refine aS (a8 ?_);refine aS (hU (i7 h1 (λitv s2 h2=>?_) λ_ _ z=>z))
 obtain⟨it,fp,tn,J,H2,rfl,I2,T,aG,f2,W,⟨m0,w0⟩,turn⟩:=h2;have stat:∀{H':Hp},(∀b∈fp,H' b=none)->∀b∈fp,jR X ah H' b:=λhn b hb=>#[hn b hb,(f2 b hb).2]
 have loop:codeAny (~~~2) X.A (.compLoop ce 1 (.ref it) (.ref D) X.env) (λr s'=>match r with |.ok f=>∃σ' H',Inv X ah σ' H' s'/\Q σ' H' |.error e=>False) s2:=by
  refine ju hu (hrn _) (λn s'=>∃i σ' H',Inv X ah σ' H' s'/\tn i s'.heap/\(∀b∈fp,H' b=none)/\W i n σ' H') ?_ m0 #[0,Y,H2,I2,aG,λb hb=>(f2 b hb).1,w0]
  rintro n s3 ⟨i,σ3,H3,I3,cY,QC,w3⟩;rcases turn i n σ3 H3 w3 with ⟨stop,qn⟩ |⟨go,Nn,hN,step⟩
  .
   refine bD (T.done X rfl rfl rfl hc i ah s3 σ3 H3 (λ_ _=>False) I3 (stat QC) cY stop) λr s4 #[hr,I4]=>?_
   subst hr;exact#[σ3,H3,I4,qn]
  .
   refine bD (T.item X rfl rfl rfl hc i ah s3 σ3 H3 (λ_ _=>False) I3 (stat QC) cY go) λr s4 #[u,hr,h4]=>?_
   subst hr;refine bD h4 ?_;rintro _ s5 ⟨x,H5,I5,r5,y5,jT,YL⟩;have YM:=I5.pinned (stat YL) (T.obj _ _ jT);have again:∀{σ7:St}{H7:Hp}{s7:Shared},Inv X (ah++jS fp s5.heap) σ7 H7 s7->Nn σ7 H7->∃m,m<n/\∃i σ' H',Inv X ah σ' H' s7/\tn i s7.heap/\(∀b∈fp,H' b=none)/\W i m σ' H':=λ{σ7 H7 s7} I7 n7=>by
    obtain⟨m',hm,w7⟩:=hN σ7 H7 n7;refine#[m',hm,i+1,σ7,H7,I7.gi,T.keep _ _ _ jT λb hb o e=>(I7.pin (b,o) (gN _ (gN _ (cG hb e)))).1,λb hb=>?_,w7]
    obtain⟨o,e,d⟩:=T.obj _ _ jT b hb;exact (I7.pin (b,o) (gN _ (gN _ (cG hb e)))).2.1
   have hg:=hg _ s5 σ3 H5 x u _ YM r5 (step x H5 y5);rw[hx]at hg;refine bD hg ?_;rintro _ s6 ⟨σ6,H6,I6,q6⟩;have ht:=ht _ s6 σ6 H6 _ I6 q6;rw[hx]at ht;refine bD ht ?_;rintro b s7 ⟨H7,I7,q7⟩;cases b with
   |false=>exact again I7 q7
   |true=>exact i7 (he _ s7 σ6 H7 _ I7 q7) (by rintro _ s9 ⟨σ9,H9,I9,q9⟩;exact again I9 q9) λ_ _ z=>z
 have start:=b9 loop (T.self _ 0 _ _ _ aG loop);refine aS (wpAny_runOwn (AL start λr s' hr=>?_))
 cases r with
 |error e=>exact hr.elim
 |ok f=>exact a8 hr
theorem uO{cQ t1 i1 tg iter:Expr}{f1 ifs:List Expr}{scope:Scope}{pos:Pos}{it acc:Value}{env:Env}:compTurn (.ListComp cQ [#[t1,i1,f1,0],#[tg,iter,ifs,0]] scope pos) 0 it acc env=mV (.ListComp cQ [#[t1,i1,f1,0],#[tg,iter,ifs,0]] scope pos) t1 i1 f1 0 it acc env (S8 (.ListComp cQ [#[t1,i1,f1,0],#[tg,iter,ifs,0]] scope pos) iter acc env):=by
 show (standAt i1.pos >>= λ_=>pyNext it >>= λr=>_)=(standAt i1.pos >>= λ_=>pyNext it >>= λr=>_)
 congr 1;funext _;congr 1;funext r
 cases r with
 |none=>rfl
 |some v=>
  show (letOwnedTupleGo t1 it v >>= λ_=>assign t1 env v >>= λ_=>_ >>= λok=>_)=(letOwnedTupleGo t1 it v >>= λ_=>assign t1 env v >>= λ_=>_ >>= λok=>_)
  congr 1;funext _;congr 1;funext _;congr 1;funext ok
  cases ok with
  |false=>rfl
  |true=>unfold S8;simp only[bind_assoc];rfl
section
theorem Ft{N':List Str}{k:Nat}{w1:TI}{w2:Bk->TI}{g1 g2:Bk->TG}{Zh Zi:Bk->TT}{te:Bk->TE}(B:bf X.env.scope scope)(hc:X.calm=true)(hN:Names X.N N' scope k)(hi:PI X t1 i1 w1)
  (hin:∀b:Bk,(PG (X.blk N' scope b) t1 (g1 b)/\jt (X.blk N' scope b) f1 (Zh b))/\PI (X.blk N' scope b) tg iter (w2 b)/\PG (X.blk N' scope b) tg (g2 b)/\jt (X.blk N' scope b) ifs (Zi b)/\PE (X.blk N' scope b) cQ (te b))
  (hs:∀x,foldedSetIterable i1 X.env x=pure x) (hs2:∀(b:Bk) x,foldedSetIterable iter (X.blk N' scope b).env x=pure x) :
  PE X (.ListComp cQ [#[t1,i1,f1,0],#[tg,iter,ifs,0]] scope pos) (qj X k w1 g1 Zh λD b=>Zg (w2 b) (g2 b) (Zi b) (uN D (te b))):=by
 intro ah s Y H Q I h;refine eW B hc hN hi (lR λ_ _ _=>uO) (λb D=>#[(hin b).1.1,(hin b).1.2,QJ hc rfl (λ_ _ _ _ _ _ _=>#[rfl,rfl]) (λ_=>rfl) dQ (hin b).2.1 (hin b).2.2.1 (hin b).2.2.2.1 (sE (hin b).2.2.2.2 rfl) (hs2 b)]) hs I h λs' H' D C m I' f' hn q=>?_
 refine#[m,hn,λh' sb=>#[.ref D,H',?_,rfl,q]]
 obtain⟨f0,f1,f2,f3,f4,f5⟩:=f';exact I'.turned (λb o hb e=>(sb.2 b hb).trans e) f0 f1 f3 f4 f5
theorem Fv{N':List Str}{k:Nat}{w1:TI}{w2:Bk->TI}{g1 g2:Bk->TG}{Zh Zi:Bk->TT}{te:Bk->TE}{i:Nat}{y:Str}{py eO:Pos}(B:bf X.env.scope scope)(hc:X.calm=true)(hN:Names X.N N' scope k)(hi:PI X t1 i1 w1)
  (hin:∀b:Bk,(PG (X.blk N' scope b) t1 (g1 b)/\jt (X.blk N' scope b) f1 (Zh b))/\PI (X.blk N' scope b) tg iter (w2 b)/\PG (X.blk N' scope b) tg (g2 b)/\jt (X.blk N' scope b) ifs (Zi b)/\PE (X.blk N' scope b) cQ (te b))
  (Lp:X.N.Nodup) (hy:X.N[i]?=!y) (hl:X.env.scope.names.lookup y=some .local)
  (hsw:swapsWith (.ListComp cQ [#[t1,i1,f1,0],#[tg,iter,ifs,0]] scope pos) (!(.Name y py)) eO.line X.env=pure true)
  (hs:∀x,foldedSetIterable i1 X.env x=pure x) (hs2:∀(b:Bk) x,foldedSetIterable iter (X.blk N' scope b).env x=pure x) :
  PS X (.Assign [.Name y py] (.ListComp cQ [#[t1,i1,f1,0],#[tg,iter,ifs,0]] scope pos) eO) (KY (qj X k w1 g1 Zh λD b=>Zg (w2 b) (g2 b) (Zi b) (uN D (te b))) (zb i)):=by
 intro ah s Y H D0 I h;rw[exec_Assign_Name_used _ _ _ _ hsw];refine aS (AE (aS ?_));refine aS (i7 (eW B hc hN hi (lR λ_ _ _=>uO) (λb D=>#[(hin b).1.1,(hin b).1.2,QJ hc rfl (λ_ _ _ _ _ _ _=>#[rfl,rfl]) (λ_=>rfl) dQ (hin b).2.1 (hin b).2.2.1 (hin b).2.2.2.1 (sE (hin b).2.2.2.2 rfl) (hs2 b)]) hs I h λs' H' D C m I' f' hn q=>?_) (λ_ s' hq=>a8 (a8 hq)) λ_ _ e=>e)
 refine wpAny_assign_Name (jQ I' Lp hy (.inl hl) (v:=.ref D) rfl (λs2 I2 hsb=>?_) (.inr hl))
 obtain⟨f0,f1,f2,f3,f4,f5⟩:=f';obtain⟨a,sb,ha⟩:=hsb;have nC:C≠a:=by
  rcases ha with e |e
  . rw[e];exact f1
  . exact sB (f4 _ _ e)
 refine#[m,hn.sameBut sb nC,λh' sb'=>#[_,H',?_,q]]
 exact I2.turned (λb o hb e=>(sb'.2 b hb).trans e) f0 f1 f3 f4 f5
end
section
variable{X:Cx}{ah: ~~~1}{Y:St}{H:Hp}{s:Shared}
abbrev tKd (X:Cx):=tupleKind (fC X.prog X.w)
theorem Bq:∀{ks:List Key}{its:List Value},Vals (ks.map kV) its->PySem.ItemsAre (fC X.prog X.w) ks its:=by
 intro ks
 induction ks with
 |nil=>intro its h;symm;exact .nil
 |cons k ks ih=>
  intro its h;cases h with
  |cons h r=>
   cases k with
   |inl i=>obtain⟨t,rfl⟩:=h;exact .cons (uA _ _ _ _) (ih r)
   |inr x=>obtain⟨t,rfl⟩:=h;exact .cons (uB _ _ _ _) (ih r)
theorem Inv.xG(I: ~~~7)(h:eU X.K H a (ks.map kV)):(tKd X).is s.heap ks a:=by obtain⟨its,r,⟨o,e,c,n,d⟩,_⟩:=I.tuple h;exact#[o,its.toArray,n,e,c,d,by simpa using Bq r]
theorem mX{α β:Type}{F:α->β->Prop}:∀{l:List α}{m:List β},Paired F l m->∀b∈m,∃a∈l,F a b:=by
 intro l m hp b hb
 induction hp with
 |nil=>cases hb
 |cons h r ih=>
  rcases dL.mp hb with rfl |e
  . exact#[_,b0,h]
  . obtain⟨a,h1,h2⟩:=ih e;exact#[a,bP _ h1,h2]
noncomputable def atK{α:Type}(l:List (List Key×α))(ks:List Key):Option α:=(l.find? λp=>decide (p.1=ks)).map (·.2)
theorem uP{F:List Key×V->List Key×Addr×Value->Prop}(hF:∀p q,F p q->p.1=q.1/\RelV p.2 q.2.2){ks:List Key}{v:V}:∀{l:List (List Key×V)}{m:List (List Key×Addr×Value)},Paired F l m->atK l ks=!v->∃p,atKey m ks=!p/\RelV v p.2:=by
 intro l m hp e
 induction hp with
 |nil=>cases e
 |@cons p q l m h r ih=>
  obtain⟨k,x⟩:=p;obtain⟨k',a,u⟩:=q;obtain⟨e1,e2⟩:=hF _ _ h;subst e1;unfold atK at e;unfold atKey;rw[C4]at e ⊢
  by_cases hk:k=ks
  .
   rw[show decide (k=ks)=true from kS hk]at e ⊢
   cases e;exact#[(a,u),rfl,e2]
  .
   rw[show decide (k=ks)=false from nK hk]at e ⊢
   exact ih e
theorem Inv.qk{d:Addr}{dO:List (List Key×V)}(I: ~~~7)(h:H d=!(.dT dO)):∃xs,s.heap.DictOfH (tKd X) d xs/\Paired (λ(p:List Key×V) (q:List Key×Addr×Value)=>p.1=q.1/\H q.2.1=!(.tup (p.1.map kV))/\RelV p.2 q.2.2) dO xs/\dO.length<=sizeLine/\(d==sysModules)=false:=by
 obtain⟨hz,hs,xs,pr,o,es,ep,e1,e2,e3,e4,e5⟩:=(show bG X.prog X.w H s.heap d (.dT dO)from I.hok d _ h);refine#[xs,#[o,es,ep,e1,e2,e3,e4,λx hx=>?_,e5],pr,hz,hs]
 obtain⟨p,_,q1,q2,_⟩:=mX pr x hx;rw[<- q1];exact I.xG (.inl (.inl q2))
def rIxD(K:Frag):R2:=λx y H Q=>∃p a dO ks v,x=.ref p/\y=.ref a/\H p=!(.dT dO)/\eU K H a (ks.map kV)/\atK dO ks=!v/\Q v H
theorem Lq(hu:X.A.units+1<cLine):Y9 X (rIxD X.K):=by
 intro value slice ah s Y H x y v u Q I rx ry h hs;obtain⟨p,a,dO,ks,z,rfl,rfl,hp,ha,he,q⟩:=h;cases rx;cases ry;obtain⟨xs,dh,pr,hz,hy⟩:=I.qk hp;obtain⟨w,w1,w2⟩:=uP (λ_ _ h=>#[h.1,h.2.2]) pr he
 have fin:EP X ah Y Q w.2 { s with toks:=s.toks+(tKd X).draws ks}:=⟨z,H,I.tok _,w2,q⟩;exact subscriptTail_builtinR dh.typeIs slot_dict_getitem.lookup (wpAny_getItem_heap (tupleKind_room_in1 hu) (I.xG ha) dh w1 #[rfl,fin]) hs
def S9(D:Addr)(tk tv:TE):TU:=λY H Q=>tk Y H λk H4=>tv Y H4 λv H5=>∃(dO:List (List Key×V)) (a:Addr) (ks:List Key),k=.ref a/\H5 D=!(.dT dO)/\H5 a=!(.tup (ks.map kV))/\ks∉dO.map (·.1)/\dO.length<sizeLine/\Q Y (upd H5 D (.dT (dO++[(ks,v)])))
noncomputable abbrev QK (kx vx:Expr) (acc:Value) (env:Env):Sem Unit:=do
 let kv <- eval kx env
 let vv <- holding [kv] (eval vx env)
 standAt { kx.pos with endLine:=vx.pos.endLine,endCol:=vx.pos.endCol}
 match acc with
 |.ref D=>holding [kv,vv] (dictSet D kv vv)
 |_=>pure ()
theorem Tc{D:Addr}{kx vx:Expr}{tk tv:TE}(hu:X.A.units<cLine)(hk:PE X kx tk)(hv:PE X vx tv)(hx:X.xe=λ_ _=>False):PU X (QK kx vx (.ref D) X.env) (S9 D tk tv):=by
 intro ah s Y H Q I h;have hk:=hk ah s Y H _ I h;rw[hx]at hk;refine aS (i7 hk (?_) λ_ _ z=>z)
 rintro kv s4 ⟨k,H4,I4,r4,q4⟩;have hv:=hv ah s4 Y H4 _ I4 q4;rw[hx]at hv;refine aS (hU (i7 hv (?_) λ_ _ z=>z))
 rintro vv s5 ⟨v,H5,I5,r5,dO,a,ks,e0,hD,ha,hn,hz,q⟩;subst e0;cases r4;refine aS (AE (hU ?_));obtain⟨xs,dh,pr,_,hy⟩:=I5.qk hD;have aH:=Paired.length pr;have hno:atKey xs ks=none:=by
  cases e:atKey xs ks with
  |none=>rfl
  |some p=>exfalso;obtain⟨x,x1,x2⟩:=t9.mp e;obtain⟨y,y1,y2,_⟩:=mX pr x (List.mem_of_find?_eq_some x1);have x3:=List.find?_some x1;exact hn (i5.mpr #[y,y1,y2.trans (i4 x3)])
 refine wpAny_dictSet_heap (show X.A.units<cLine from hu) (I5.xG (.inl (.inl ha))) dh (λh' m' sb=>?_) ⋯
 rw[storedH_new hno]at m';obtain⟨o,es,ep,f1,f2,f3,f4,f5,f6⟩:=m';have ne:∀{b:Addr}{ys:List V},H5 b=!(.tup ys)->b≠D:=λe z=>by rw[z,hD]at e;cases e
 refine#[Y,_,I5.write (by rw[hD];trivial) (.inl rfl) (λb u hb e=>(sb.2 b hb).trans e) #[o,f1] ?_,q]
 refine#[by rw[eP];exact hz,hy,xs++[(ks,a,vv)],?_,o,es,ep,f1,f2,f3,f4,f6]
 refine Paired.snoc (Paired.Yr pr (by rintro p q ⟨g1,g2,g3⟩;exact#[g1,by rw[au (ne g2)];exact g2,g3])) #[rfl,by rw[au (ne ha)];exact ha,r5]
end
section
variable{X:Cx}{tg iter kx vx:Expr}{ifs:List Expr}{scope:Scope}{pos:Pos}
theorem Lr:Ck X (.DictComp kx vx [#[tg,iter,ifs,0]] scope pos) tg iter ifs [] newDict (.dT []) (QK kx vx) where
 cls:=rfl
 und:=λ_ _ _ _ _ _ _=>#[rfl,rfl]
 turn:=λit D env=>compTurn_dict kx vx tg iter ifs scope pos it D env
 new:=#[_,rfl,λh=>lS h,λ_ _ _ e y=>#[tP _,y,[],.nil,_,([].toArray),0,e,#[rfl,rfl,rfl],rfl,rfl,yY]]
 start:=codeAny_compStart_dict
theorem Fw{N':List Str}{k:Nat}{wi:TI}{g:Bk->TG}{tt:Bk->TT}{tk tv:Bk->TE}(B:bf X.env.scope scope)(hc:X.calm=true)(hu:X.A.units<cLine)(hN:Names X.N N' scope k)(hi:PI X tg iter wi)
  (hin:∀b:Bk,PG (X.blk N' scope b) tg (g b)/\jt (X.blk N' scope b) ifs (tt b)/\PE (X.blk N' scope b) kx (tk b)/\PE (X.blk N' scope b) vx (tv b))
  (hs:∀x,foldedSetIterable iter X.env x=pure x:=by intro _;rfl):PE X (.DictComp kx vx [#[tg,iter,ifs,0]] scope pos) (sF (.dT []) X k wi g tt λD b=>S9 D (tk b) (tv b)):=by
 intro ah s Y H Q I h;refine eW B hc hN hi Lr (λb D=>#[(hin b).1,(hin b).2.1,Tc hu (hin b).2.2.1 (hin b).2.2.2 rfl]) hs I h λs' H' D C m I' f' hn q=>?_
 refine#[m,hn,λh' sb=>#[.ref D,H',?_,rfl,q]]
 obtain⟨f0,f1,f2,f3,f4,f5⟩:=f';exact I'.turned (λb o hb e=>(sb.2 b hb).trans e) f0 f1 f3 f4 f5
end
noncomputable abbrev kI(m:List (Int×Int)):List (Key×V):=m.map λp=>((Sum.inl p.1:Key),V.int p.2)
abbrev dI(m:List (Int×Int)):HO:=.dK (kI m)
end L2
namespace Ev
open L2
inductive D where
 |non |bl (b:Bool) |int (i:Int) |str (x:Str) |tup (l:List D) |lst (l:List D) |fix (l:List D) |emp (m:List (Int×Int)) |lG (C:Addr) |uo (ks: ~~~5) (ds:List D)
 deriving Inhabited
inductive Slot where
 |no |dat (d:D) |own (l:List D)
 deriving Inhabited
inductive R where
 |dat (d:D) |new (l:List D) |var (i:Nat)
 deriving Inhabited
abbrev G:=List Slot
abbrev Sg:=L2.St
abbrev K0:Hp:=λ_=>none
def LstAt(M:List Addr)(H:Hp)(a:Addr)(xs:List V):Prop:=a∉M/\H a=!(.lst xs)
def ql(K:Frag)(M:List Addr)(H:Hp)(a:Addr)(xs:List V):Prop:=(a∉M/\∃o,H a=!(.kP o (.lst xs)))\/cu K K0 a xs
def TupAt(K:Frag)(M:List Addr)(H:Hp)(a:Addr)(xs:List V):Prop:=(a∉M/\Rd H a (.tup xs))\/(eU K K0 a xs/\∃o,K.lookup a=!o/\o.dict=none)
theorem rd0(h:Rd K0 a u):False:=by rcases h with h |⟨o,h⟩ <;> symm
theorem ql.sq{K:Frag}{M:List Addr}{H:Hp}{a:Addr}{xs:List V}(h:ql K M H a xs):cu K H a xs:=by
 rcases h with ⟨_,o,h⟩ |h |h
 . exact .inl (.inr #[o,h])
 . exact (rd0 h).elim
 . exact .inr h
theorem TupAt.sq{K:Frag}{M:List Addr}{H:Hp}{a:Addr}{xs:List V}(h:TupAt K M H a xs):eU K H a xs:=by
 rcases h with ⟨_,h⟩ |⟨h |h,_⟩
 . exact .inl h
 . exact (rd0 h).elim
 . exact .inr h
noncomputable abbrev xH(C a:Addr):HO:=.ext λh=>∃o,h.get? a=!o/\o.cls=.ref C/\PySem.W.notCls o=true/\o.dict=none
structure Fy(K:Frag)(C:Addr):Prop where
 gga:PySem.W.findIn K (.ref C) "__getattribute__"=!(!(.builtin "BaseException.__getattribute__"))
 gat:PySem.W.findIn K (.ref C) "__getattr__"=!none
 bas:PySem.W.mroIn K C (.type "BaseException")=!true
 dct:PySem.W.hasDictIn K C=true
 cls:PySem.W.findIn K (.ref C) "__class__"=!(!(.builtin "object.__class__"))
 spc:PySem.W.specialIn K (.builtin "object.__class__") "__get__"=!(!(.builtin "getset_descriptor.__get__"))
 tks:PySem.W.takesIn K (.builtin "object.__class__")=!true
 mro:PySem.W.mroIn K C (.type "object")=!true
 kit:∀n∈["int", "bool", "str", "tuple", "list", "dict"],PySem.W.kitOne K (.ref C) (.type n)=!false
noncomputable abbrev Fz(ks: ~~~5)(vs:List V):HO:=.dT ((ks.map (List.map Sum.inl)).zip vs)
def Td:HO->Prop
 |.lst _ |.dT _ |.set _ |.dK _=>True
 |_=>False
mutual
inductive Rep(K:Frag)(M:List Addr)(H:Hp):D->V->Prop
 |non:Rep K M H .non .non
 |bl (b:Bool):Rep K M H (.bl b) (.bl b)
 |int (i:Int):Rep K M H (.int i) (.int i)
 |str (x:Str):Rep K M H (.str x) (.str x)
 |tup {l:List D}{a:Addr}{xs:List V}:TupAt K M H a xs->aD K M H l xs->Rep K M H (.tup l) (.ref a)
 |lst {l:List D}{a:Addr}{xs:List V}:LstAt M H a xs->aD K M H l xs->Rep K M H (.lst l) (.ref a)
 |fix {l:List D}{a:Addr}{xs:List V}:ql K M H a xs->aD K M H l xs->Rep K M H (.fix l) (.ref a)
 |emp {m:List (Int×Int)}{o:Obj}{a:Addr}:a∉M->H a=!(.kP o (dI m))->Rep K M H (.emp m) (.ref a)
 |lG:Fy K C->a∉M->H a=!(xH C a)->Rep K M H (.lG C) (.ref a)
 |uo:a∉M->H a=!(Fz ks vs)->ks.length=vs.length->aD K M H ds vs->Rep K M H (.uo ks ds) (.ref a)
inductive aD(K:Frag)(M:List Addr)(H:Hp):List D->List V->Prop
 |nil:aD K M H [] []
 |cons {d:D}{ds:List D}{x:V}{xs:List V}:Rep K M H d x->aD K M H ds xs->aD K M H (d::ds) (x::xs)
end
def aq(M:List Addr)(H:Hp)(M':List Addr)(H':Hp):Prop:=∀b o,H b=!o->b∉M->H' b=!o/\b∉M'
theorem aq.rd(h:aq M H M' H')(n:a∉M)(r:Rd H a u):a∉M'/\Rd H' a u:=by
 rcases r with r |⟨o,r⟩
 . exact#[(h _ _ r n).2,.inl (h _ _ r n).1]
 . exact#[(h _ _ r n).2,.inr #[o,(h _ _ r n).1]]
theorem Rep.stay{K:Frag}{M M':List Addr}{H H':Hp}(h:aq M H M' H'){d:D}{v:V}(r:Rep K M H d v):Rep K M' H' d v:=by
 refine Rep.rec .non .bl .int .str (λt _ q=>?_) (λt _ q=>?_) (λt _ q=>?_) (λn r=>.emp (h _ _ r n).2 (h _ _ r n).1) (λx n r=>.lG x (h _ _ r n).2 (h _ _ r n).1) (λn r l _ q=>.uo (h _ _ r n).2 (h _ _ r n).1 l q) .nil (λ_ _ a b=>.cons a b) r
 .
  rcases t with t |t
  . exact .tup (.inl (h.rd t.1 t.2)) q
  . exact .tup (.inr t) q
 . exact .lst #[(h _ _ t.2 t.1).2,(h _ _ t.2 t.1).1] q
 .
  rcases t with ⟨n,o,r⟩ |t
  . exact .fix (.inl #[(h _ _ r n).2,o,(h _ _ r n).1]) q
  . exact .fix (.inr t) q
theorem aD.stay{K:Frag}{M M':List Addr}{H H':Hp}(h:aq M H M' H'):∀{ds:List D}{vs:List V},aD K M H ds vs->aD K M' H' ds vs:=by
 intro ds
 induction ds with
 |nil=>intro vs q;cases q;exact .nil
 |cons d ds ih=>intro vs q;cases q with |cons a b=>exact .cons (a.stay h) (ih b)
theorem aq.refl(M:List Addr)(H:Hp):aq M H M H:=λ_ _ e n=>#[e,n]
theorem aq.trans(a:aq M H M1 H1)(b:aq M1 H1 M2 H2):aq M H M2 H2:=λc o e n=>b c o (a c o e n).1 (a c o e n).2
theorem aq.less(h:∀m∈M',m∈M):aq M H M' H:=λ_ _ e n=>#[e,λz=>n (h _ z)]
theorem aq.laid(hp:H p=none):aq M H M (upd H p o):=λb u e n=>#[by rw[au (aE e hp)];exact e,n]
theorem aq.aO(hp:H p=none):aq M H (p::M) (upd H p o):=λb u e n=>
 #[by rw[au (aE e hp)];exact e,λz=>(dL.mp z).elim (λq=>aE e hp q) n]
theorem aq.write(hp:p∈M):aq M H M (upd H p o):=λb u e n=>#[by rw[au (λq=>n (by rw[q];exact hp))];exact e,n]
theorem aD.length{K:Frag}{M:List Addr}{H:Hp}{ds:List D}{vs:List V}(r:aD K M H ds vs):ds.length=vs.length:=by
 induction ds generalizing vs with
 |nil=>cases r;rfl
 |cons d ds ih=>cases r with |cons a b=>exact congrArg (· + 1) (ih b)
theorem aD.append{K:Frag}{M:List Addr}{H:Hp}{ds es:List D}{vs ws:List V}(r:aD K M H ds vs)(s:aD K M H es ws):aD K M H (ds++es) (vs++ws):=by
 induction ds generalizing vs with
 |nil=>cases r;exact s
 |cons d ds ih=>cases r with |cons a b=>exact .cons a (ih b)
theorem aD.get{K:Frag}{M:List Addr}{H:Hp}{ds:List D}{vs:List V}{i:Nat}{d:D}(r:aD K M H ds vs)(e:ds[i]?=!d):∃v,vs[i]?=!v/\Rep K M H d v:=by
 induction ds generalizing vs i with
 |nil=>exact nomatch (show none=!d from e)
 |cons d' ds ih=>cases r with |cons a b=>cases i with
  |zero=>cases (show some d'=!d from e);exact#[_,rfl,a]
  |succ i=>obtain⟨v,h⟩:=ih b e;exact#[v,h]
theorem aD.set{K:Frag}{M:List Addr}{H:Hp}{d:D}{v:V}(r:Rep K M H d v){ds:List D}{vs:List V}(i:Nat)(q:aD K M H ds vs):aD K M H (ds.set i d) (vs.set i v):=by
 induction ds generalizing vs i with
 |nil=>cases q;exact .nil
 |cons d' ds ih=>cases q with |cons a b=>cases i with
  |zero=>exact .cons r b
  |succ i=>exact .cons a (ih i b)
theorem aD.take{K:Frag}{M:List Addr}{H:Hp}{ds:List D}{vs:List V}(n:Nat)(q:aD K M H ds vs):aD K M H (ds.take n) (vs.take n):=by
 induction ds generalizing vs n with
 |nil=>cases q;rw[List.take_nil,List.take_nil];exact .nil
 |cons d' ds ih=>cases q with |cons a b=>cases n with
  |zero=>exact .nil
  |succ n=>exact .cons a (ih n b)
theorem aD.drop{K:Frag}{M:List Addr}{H:Hp}{ds:List D}{vs:List V}(n:Nat)(q:aD K M H ds vs):aD K M H (ds.drop n) (vs.drop n):=by
 induction ds generalizing vs n with
 |nil=>cases q;rw[List.drop_nil,List.drop_nil];exact .nil
 |cons d' ds ih=>cases q with |cons a b=>cases n with
  |zero=>exact .cons a b
  |succ n=>exact ih n b
inductive Slots(K:Frag)(M:List Addr)(H:Hp):G->Sg->List Addr->Prop
 |nil:Slots K M H [] [] []
 |no:Slots K M H g Y As->Slots K M H (.no::g) (v::Y) As
 |dat {g:G}{Y:Sg}{As:List Addr}{v:V}{d:D}:Rep K M H d v->Slots K M H g Y As->Slots K M H (.dat d::g) (some v::Y) As
 |own {g:G}{Y:Sg}{As:List Addr}{a:Addr}{xs:List V}{ds:List D}:H a=!(.lst xs)->aD K M H ds xs->Slots K M H g Y As->Slots K M H (.own ds::g) (some (.ref a)::Y) (a::As)
theorem Slots.stay{K:Frag}{M M':List Addr}{H H':Hp}(h:aq M H M' H'){g:G}{Y:Sg}{As:List Addr}(k:∀a∈As,∀o,H a=!o->H' a=!o)(q:Slots K M H g Y As):Slots K M' H' g Y As:=by
 induction q with
 |nil=>exact .nil
 |no q ih=>exact .no (ih k)
 |dat r q ih=>exact .dat (r.stay h) (ih k)
 |own e r q ih=>exact .own (k _ b0 _ e) (r.stay h) (ih λa ha=>k a (bP _ ha))
def iF:List Str:=["law"]
def pI(n:Str):Str:=n ++ ".<locals>." ++ "<lambda>"
noncomputable def bW(K:Frag):List (Addr×Str):=K.filterMap λp=>match p.2.data with
 |.fields vs=>(match vs.toList with
  |_::.str n _::_=>if iF.contains n=true then (match vs.toList[11]? with
   |!(Value.ref q)=>if (K.lookup q).isNone=true then some (q,pI n)else none
   |_=>none)else none
  |_=>none)
 |_=>none
structure Z where
 K:Frag
 H0:Hp
 M0:List Addr
 lent:List (Nat×Addr)
 T:List (Addr×Str)
abbrev fS(q:Str)(c:Addr):HO:=.ext λh=>h.CodeRec (.ref c) q
def TabOk(H:Hp)(p:Addr×Str):Prop:=∃ps:Array Value,H p.1=!(.lD ps)/\TriplesOk ps.toList/\∀pos cv,codeAmong pos ps.toList=!cv->∃c,cv=.ref c/\H c=!(fS p.2 c)
noncomputable abbrev Z.TA(z:Z):List Addr:=z.T.map (·.1)
theorem TabOk.keep(t:TabOk H p)(k:∀b o,H b=!o->¬ Td o->H' b=!o):TabOk H' p:=by obtain⟨ps,h1,h2,h3⟩:=t;exact#[ps,k _ _ h1 id,h2,λpos cv e=>let #[c,e1,e2]:=h3 pos cv e;#[c,e1,k _ _ e2 id]]
noncomputable abbrev Z.B(z:Z):List Addr:=z.lent.map (·.2)
noncomputable abbrev Z.bor(z:Z):List Nat:=z.lent.map (·.1)
structure S(z:Z)(g:G)(Y:Sg)(As M:List Addr)(H:Hp):Prop where
 sl:Slots z.K M H g Y As
 nd:As.Nodup
 sub:∀a∈As,a∈M
 own:∀(i:Nat) (a:Addr) (l:List D),g[i]?=!(.own l)->Y[i]?=!(!(.ref a))->(i∈z.bor/\a∈z.B)\/z.H0 a=none
 live:∀m∈M,(∃o,H m=!o/\Td o)\/m∈z.TA
 keep:∀b o,z.H0 b=!o->b∉z.B->b∉z.TA->H b=!o
 eS:∀m∈z.M0,m∈M
 m0:∀m∈z.M0,z.H0 m≠none
 bm:∀b∈z.B,b∈z.M0
 fH:∀p∈z.lent,Y[p.1]?=!(!(.ref p.2))/\∃l,g[p.1]?=!(.own l)
 tab:∀p∈z.T,TabOk H p
 tm:∀p∈z.T,p.1∈z.M0
 tt:z.T=bW z.K
section
variable{g:G}
theorem S.fresh(s:S z g Y As M H)(hp:H p=none):p∉M:=λhm=>by
 rcases s.live p hm with ⟨o,e,_⟩ |e
 . rw[hp]at e;cases e
 . obtain⟨q,hq,rfl⟩:=i5.mp e;obtain⟨ps,h1,_⟩:=s.tab q hq;rw[hp]at h1;cases h1
theorem S.QL(s:S z g Y As M H)(hp:H p=!(.lst xs)):p∉z.TA:=λe=>by
 obtain⟨q,hq,rfl⟩:=i5.mp e;obtain⟨ps,h1,_⟩:=s.tab q hq;rw[hp]at h1;cases h1
theorem S.bY(s:S z g Y As M H)(hp:H p=none):z.H0 p=none:=by
 cases e:z.H0 p with
 |none=>rfl
 |some o=>
  by_cases hb:p∈z.B
  . exact absurd (s.eS _ (s.bm _ hb)) (s.fresh hp)
  .
   by_cases ht:p∈z.TA
   . obtain⟨q,hq,rfl⟩:=i5.mp ht;exact absurd (s.eS _ (s.tm q hq)) (s.fresh hp)
   . rw[s.keep p o e hb ht]at hp;cases hp
theorem S.laid(s:S z g Y As M H){p:Addr}{o:HO}(hp:H p=none):S z g Y As M (upd H p o) where
 sl:=s.sl.stay (aq.laid hp) λa _ u e=>by rw[au (aE e hp)];exact e
 nd:=s.nd
 sub:=s.sub
 own:=s.own
 live:=λm hm=>by
  rcases s.live m hm with ⟨o,e,gr⟩ |e
  . exact .inl #[o,by rw[au (aE e hp)];exact e,gr]
  . exact .inr e
 keep:=λb u e hb ht=>by rw[au (aE (s.keep b u e hb ht) hp)];exact s.keep b u e hb ht
 eS:=s.eS
 m0:=s.m0
 bm:=s.bm
 fH:=s.fH
 tab:=λp h=>(s.tab p h).keep λb u e _=>by rw[au (aE e hp)];exact e
 tm:=s.tm
 tt:=s.tt
theorem S.FG(s:S z g Y As M H){p:Addr}{u0:HO}(gu:Td u0)(hp:H p=none):S z g Y As (p::M) (upd H p u0) where
 sl:=s.sl.stay (aq.aO hp) λa _ u e=>by rw[au (aE e hp)];exact e
 nd:=s.nd
 sub:=λa ha=>bP _ (s.sub a ha)
 own:=s.own
 live:=λm hm=>by
  rcases dL.mp hm with rfl |hm
  . exact .inl #[_,az,gu]
  .
   rcases s.live m hm with ⟨o,e,gr⟩ |e
   . exact .inl #[o,by rw[au (aE e hp)];exact e,gr]
   . exact .inr e
 keep:=λb u e hb ht=>by rw[au (aE (s.keep b u e hb ht) hp)];exact s.keep b u e hb ht
 eS:=λm hm=>bP _ (s.eS m hm)
 m0:=s.m0
 bm:=s.bm
 fH:=s.fH
 tab:=λp h=>(s.tab p h).keep λb u e _=>by rw[au (aE e hp)];exact e
 tm:=s.tm
 tt:=s.tt
theorem S.aO(s:S z g Y As M H)(hp:H p=none):S z g Y As (p::M) (upd H p (.lst xs)):=s.FG trivial hp
theorem S.Te(s:S z g Y As M H){a:Addr}{u0 u1:HO}(hm:a∈M)(hA:a∉As)(h0:z.H0 a=none)(h:H a=!u0)(g0:Td u0)(g1:Td u1):S z g Y As M (upd H a u1) where
 sl:=s.sl.stay (aq.write hm) λb hb u e=>by rw[au (show b≠a from λq=>hA (by rw[<- q];exact hb))];exact e
 nd:=s.nd
 sub:=s.sub
 own:=s.own
 live:=λm hm=>by
  by_cases e:m=a
  . subst e;exact .inl #[_,az,g1]
  .
   rcases s.live m hm with ⟨o,q,gr⟩ |q
   . exact .inl #[o,by rw[au e];exact q,gr]
   . exact .inr q
 keep:=λb o e hb ht=>by rw[au (λq=>by rw[q,h0]at e;cases e)];exact s.keep b o e hb ht
 eS:=s.eS
 m0:=s.m0
 bm:=s.bm
 fH:=s.fH
 tab:=λp hp=>(s.tab p hp).keep λb o e n=>by rw[au (λq=>by rw[q,h]at e;cases e;exact n g0)];exact e
 tm:=s.tm
 tt:=s.tt
theorem S.drop(s:S z g Y As M H)(h0:z.H0 p=none)(hA:p∉As):S z g Y As (M.filter λm=>decide (m≠p)) H where
 sl:=s.sl.stay (aq.less λm hm=>(lL.mp hm).1) λ_ _ _ e=>e
 nd:=s.nd
 sub:=λa ha=>lL.mpr #[s.sub a ha,by have:a≠p:=λe=>hA (e▸ha);simpa using this]
 own:=s.own
 live:=λm hm=>s.live m (lL.mp hm).1
 keep:=s.keep
 eS:=λm hm=>lL.mpr #[s.eS m hm,by have:m≠p:=λe=>s.m0 m hm (e▸h0);simpa using this]
 m0:=s.m0
 bm:=s.bm
 fH:=s.fH
 tab:=s.tab
 tm:=s.tm
 tt:=s.tt
end
def cA(z:Z)(g:G)(Y:Sg)(As M:List Addr)(H:Hp):R->V->Prop
 |.dat d,v=>Rep z.K M H d v
 |.new l,v=>∃a xs,v=.ref a/\a∈M/\a∉As/\z.H0 a=none/\H a=!(.lst xs)/\aD z.K M H l xs
 |.var i,v=>∃l,g[i]?=!(.own l)/\Y[i]?=!(!v)
inductive Pk(K:Frag)(M:List Addr)(H:Hp):D->V->Prop
 |of:Rep K M H d v->Pk K M H d v
 |lst {l:List D}{a:Addr}{xs:List V}:H a=!(.lst xs)->aD K M H l xs->Pk K M H (.lst l) (.ref a)
theorem Pk.list{K:Frag}{M:List Addr}{H:Hp}{l:List D}{v:V}(h:Pk K M H (.lst l) v):∃a xs,v=.ref a/\H a=!(.lst xs)/\aD K M H l xs:=by
 cases h with
 |of r=>cases r with |lst h1 h2=>exact⟨_,_,rfl,h1.2,h2⟩
 |lst h1 h2=>exact#[_,_,rfl,h1,h2]
theorem Slots.at{K:Frag}{M:List Addr}{H:Hp}{g:G}{Y:Sg}{As:List Addr}{i:Nat}{l:List D}(q:Slots K M H g Y As)(e:g[i]?=!(.own l)):∃a xs,Y[i]?=!(!(.ref a))/\a∈As/\H a=!(.lst xs)/\aD K M H l xs:=by
 induction q generalizing i with
 |nil=>exact nomatch (show none=!(Slot.own l)from e)
 |no q ih=>cases i with
  |zero=>exact nomatch (show some Slot.no=!(Slot.own l)from e)
  |succ i=>exact ih e
 |dat r q ih=>cases i with
  |zero=>exact nomatch (show some (Slot.dat _)=!(Slot.own l)from e)
  |succ i=>exact ih e
 |own h r q ih=>cases i with
  |zero=>cases (show some (Slot.own _)=!(Slot.own l)from e);exact#[_,_,rfl,b0,h,r]
  |succ i=>obtain⟨a,xs,h1,h2,h3⟩:=ih e;exact#[a,xs,h1,bP _ h2,h3]
theorem Slots.mY{K:Frag}{M:List Addr}{H:Hp}{g:G}{Y:Sg}{As:List Addr}{i:Nat}{d:D}(q:Slots K M H g Y As)(e:g[i]?=!(.dat d)):∃v,Y[i]?=!(!v)/\Rep K M H d v:=by
 induction q generalizing i with
 |nil=>exact nomatch (show none=!(Slot.dat d)from e)
 |no q ih=>cases i with
  |zero=>exact nomatch (show some Slot.no=!(Slot.dat d)from e)
  |succ i=>exact ih e
 |dat r q ih=>cases i with
  |zero=>cases (show some (Slot.dat _)=!(Slot.dat d)from e);exact#[_,rfl,r]
  |succ i=>exact ih e
 |own h r q ih=>cases i with
  |zero=>exact nomatch (show some (Slot.own _)=!(Slot.dat d)from e)
  |succ i=>exact ih e
theorem Slots.length{K:Frag}{M:List Addr}{H:Hp}{g:G}{Y:Sg}{As:List Addr}(q:Slots K M H g Y As):g.length=Y.length:=by
 induction q with
 |nil=>rfl
 |no q ih=>exact congrArg (· + 1) ih
 |dat r q ih=>exact congrArg (· + 1) ih
 |own h r q ih=>exact congrArg (· + 1) ih
theorem Slots.ez{K:Frag}{M:List Addr}{H:Hp}{d:D}{v:V}(r:Rep K M H d v){g:G}{Y:Sg}{As:List Addr}(i:Nat)(q:Slots K M H g Y As):∃aB,Slots K M H (g.set i (.dat d)) (Y.set i (!v)) aB/\aB.Sublist As:=by
 induction q generalizing i with
 |nil=>exact#[[],.nil,.slnil]
 |no q ih=>cases i with
  |zero=>exact#[_,.dat r q,List.Sublist.refl _]
  |succ i=>obtain⟨aB,h1,h2⟩:=ih i;exact#[aB,.no h1,h2]
 |dat r' q ih=>cases i with
  |zero=>exact#[_,.dat r q,List.Sublist.refl _]
  |succ i=>obtain⟨aB,h1,h2⟩:=ih i;exact#[aB,.dat r' h1,h2]
 |own e r' q ih=>cases i with
  |zero=>exact#[_,.dat r q,List.sublist_cons_self _ _]
  |succ i=>obtain⟨aB,h1,h2⟩:=ih i;exact#[_::aB,.own e r' h1,h2.cons₂ _]
theorem Slots.freeze{K:Frag}{M M':List Addr}{H:Hp}(hM:∀m∈M',m∈M){g:G}{Y:Sg}{As:List Addr}{i:Nat}{l:List D}{a:Addr}(q:Slots K M H g Y As)(e:g[i]?=!(.own l))(e2:Y[i]?=!(!(.ref a)))(na:a∉M')(nd:As.Nodup) :
  ∃aB,Slots K M' H (g.set i (.dat (.lst l))) Y aB/\aB.Sublist As/\a∉aB:=by
 induction q generalizing i with
 |nil=>exact nomatch (show none=!(Slot.own l)from e)
 |no q ih=>cases i with
  |zero=>exact nomatch (show some Slot.no=!(Slot.own l)from e)
  |succ i=>obtain⟨aB,h1,h2,h3⟩:=ih e e2 nd;exact#[aB,.no h1,h2,h3]
 |dat r q ih=>cases i with
  |zero=>exact nomatch (show some (Slot.dat _)=!(Slot.own l)from e)
  |succ i=>obtain⟨aB,h1,h2,h3⟩:=ih e e2 nd;exact#[aB,.dat (r.stay (aq.less hM)) h1,h2,h3]
 |@own g Y As b xs ds h r q ih=>cases i with
  |zero=>
   cases (show some (Slot.own _)=!(Slot.own l)from e)
   cases (show some (!(V.ref b))=!(!(V.ref a))from e2)
   exact#[_,.dat (.lst #[na,h] (r.stay (aq.less hM))) (q.stay (aq.less hM) λ_ _ _ e=>e),List.sublist_cons_self _ _,(fR.mp nd).1]
  |succ i=>
   obtain⟨aB,h1,h2,h3⟩:=ih e e2 (fR.mp nd).2;refine#[b::aB,.own h (r.stay (aq.less hM)) h1,h2.cons₂ _,λhm=>?_]
   rcases dL.mp hm with z |z
   .
    obtain⟨c,xs,z1,z2,_⟩:=q.at e;cases (show some (!(V.ref c))=!(!(V.ref a))from z1.symm.trans e2)
    exact (fR.mp nd).1 (by rw[<- z];exact z2)
   . exact h3 z
theorem Slots.change{K:Frag}{M:List Addr}{H H':Hp}{l':List D}{a:Addr}{xs':List V}(st:aq M H M H')(ha:H' a=!(.lst xs'))(r':aD K M H' l' xs'){g:G}{Y:Sg}{As:List Addr}{i:Nat}{l:List D}(q:Slots K M H g Y As)(e:g[i]?=!(.own l))(e2:Y[i]?=!(!(.ref a)))(nd:As.Nodup)
  (k:∀b∈As,b≠a->∀o,H b=!o->H' b=!o):Slots K M H' (g.set i (.own l')) Y As:=by
 induction q generalizing i with
 |nil=>exact nomatch (show none=!(Slot.own l)from e)
 |no q ih=>cases i with
  |zero=>exact nomatch (show some Slot.no=!(Slot.own l)from e)
  |succ i=>exact .no (ih e e2 nd k)
 |dat r q ih=>cases i with
  |zero=>exact nomatch (show some (Slot.dat _)=!(Slot.own l)from e)
  |succ i=>exact .dat (r.stay st) (ih e e2 nd k)
 |@own g Y As b xs ds h r q ih=>cases i with
  |zero=>
   cases (show some (!(V.ref b))=!(!(V.ref a))from e2)
   exact .own ha r' (q.stay st λc hc o e=>k c (bP _ hc) (λz=>(fR.mp nd).1 (by rw[<- z];exact hc)) o e)
  |succ i=>
   refine .own (k b b0 (λz=>?_) _ h) (r.stay st) (ih e e2 (fR.mp nd).2 λc hc=>k c (bP _ hc))
   obtain⟨c,xs,z1,z2,_⟩:=q.at e;cases (show some (!(V.ref c))=!(!(V.ref a))from z1.symm.trans e2)
   exact (fR.mp nd).1 (by rw[z];exact z2)
section
variable{g:G}
theorem eX(h:(g.set i (.dat d))[j]?=!(.own l)):g[j]?=!(.own l)/\j≠i:=by
 by_cases e:i=j
 .
  subst e;by_cases hi:i<g.length
  . rw[i3 hi]at h;symm
  . rw[AZ.mpr (by rw[y7];lia)]at h;symm
 . rw[eI e]at h;exact#[h,sB e]
theorem S.freeze(s:S z g Y As M H){i:Nat}{l:List D}(hg:g[i]?=!(.own l))(hb:i∉z.bor):∃aB M',S z (g.set i (.dat (.lst l))) Y aB M' H/\aq M H M' H:=by
 obtain⟨a,xs,e1,e2,e3,e4⟩:=s.sl.at hg;have h0:=(s.own i a l hg e1).elim (λq=>absurd q.1 hb) id
 have hM:∀m∈(M.filter λm=>decide (m≠a)),m∈M:=λm hm=>(lL.mp hm).1
 have na:a∉(M.filter λm=>decide (m≠a)):=λhm=>by
  have:=(lL.mp hm).2;simp at this
 obtain⟨aB,q1,q2,q3⟩:=s.sl.freeze hM hg e1 na s.nd;refine#[aB,_,#[q1,s.nd.sublist q2,λb hb=>lL.mpr #[s.sub b (q2.subset hb),?_],λj b l' h1 h2=>s.own j b l' (eX h1).1 h2,λm hm=>s.live m (hM m hm),s.keep,λm hm=>lL.mpr #[s.eS m hm,?_],s.m0,s.bm,λp hp=>#[(s.fH p hp).1,?_],s.tab,s.tm,s.tt],aq.less hM]
 rotate_left 2
 .
  have:i≠p.1:=λe=>hb (by rw[e];exact oQ hp)
  rw[eI this];exact (s.fH p hp).2
 .
  have:b≠a:=λe=>q3 (e▸hb)
  simpa using this
 .
  have:m≠a:=λe=>s.m0 m hm (e▸h0)
  simpa using this
theorem S.write(s:S z g Y As M H){i:Nat}{l l':List D}{a:Addr}{xs':List V}(hg:g[i]?=!(.own l))(e1:Y[i]?=!(!(.ref a)))(r:aD z.K M H l' xs'):S z (g.set i (.own l')) Y As M (upd H a (.lst xs'))/\aq M H M (upd H a (.lst xs')):=by
 obtain⟨b,xs,e2,e3,e4,e5⟩:=s.sl.at hg;rw[e1]at e2;injection e2 with e2;injection e2 with e2;injection e2 with e2;subst e2;have st:aq M H M (upd H a (.lst xs')):=aq.write (s.sub a e3);refine#[#[s.sl.change st az (r.stay st) hg e1 s.nd (λb _ ne o e=>by rw[au ne];exact e),s.nd,s.sub,λj b l2 h1 h2=>?_,λm hm=>?_,λb o e hb ht=>?_,s.eS,s.m0,s.bm,λp hp=>#[(s.fH p hp).1,?_],λp h=>(s.tab p h).keep λb u e nl=>?_,s.tm,s.tt],st]
 rotate_left 3
 .
  by_cases hj:i=p.1
  . rw[<- hj];exact#[l',i3 (c8.mp hg).1]
  . rw[eI hj];exact (s.fH p hp).2
 .
  have:b≠a:=λz2=>by subst z2;rw[e4]at e;cases e;exact nl trivial
  rw[au this];exact e
 .
  by_cases hj:i=j
  . subst hj;exact s.own i b l hg h2
  . rw[eI hj]at h1;exact s.own j b l2 h1 h2
 .
  by_cases hm2:m=a
  . subst hm2;exact .inl #[_,az,trivial]
  .
   rcases s.live m hm with ⟨o,e,gr⟩ |e
   . exact .inl #[o,by rw[au hm2];exact e,gr]
   . exact .inr e
 .
  have q:=s.keep b o e hb ht;have:b≠a:=λz2=>by
   subst z2;rcases s.own i b l hg e1 with w |w
   . exact hb w.2
   . rw[w]at e;cases e
  rw[au this];exact q
theorem S.ez(s:S z g Y As M H)(hb:i∉z.bor)(r:Rep z.K M H d v):∃aB,S z (g.set i (.dat d)) (Y.set i (!v)) aB M H:=by
 obtain⟨aB,h1,h2⟩:=s.sl.ez r i;refine#[aB,h1,s.nd.sublist h2,λa ha=>s.sub a (h2.subset ha),λj b l h3 h4=>?_,s.live,s.keep,s.eS,s.m0,s.bm,λp hp=>?_,s.tab,s.tm,s.tt]
 rotate_left
 .
  have:i≠p.1:=λe=>hb (by rw[e];exact oQ hp)
  rw[eI this,eI this];exact s.fH p hp
 obtain⟨h5,h6⟩:=eX h3;rw[eI (sB h6)]at h4;exact s.own j b l h5 h4
theorem Slots.jV{K:Frag}{a:Addr}{xs:List V}{l:List D}(h:H a=!(.lst xs))(r:aD K M H l xs){g:G}{Y:Sg}{As:List Addr}(i:Nat)(q:Slots K M H g Y As)(hi:i<g.length):∃aB,Slots K M H (g.set i (.own l)) (Y.set i (!(.ref a))) aB/\(∀b∈aB,b=a\/b∈As)/\(As.Nodup->a∉As->aB.Nodup):=by
 induction q generalizing i with
 |nil=>exact absurd hi (v6 _)
 |no q ih=>cases i with
  |zero=>exact#[_,.own h r q,λb hb=>dL.mp hb,λnd na=>fR.mpr #[na,nd]]
  |succ i=>obtain⟨aB,h1,h2,h3⟩:=ih i (AR hi);exact#[aB,.no h1,h2,h3]
 |dat r' q ih=>cases i with
  |zero=>exact#[_,.own h r q,λb hb=>dL.mp hb,λnd na=>fR.mpr #[na,nd]]
  |succ i=>obtain⟨aB,h1,h2,h3⟩:=ih i (AR hi);exact#[aB,.dat r' h1,h2,h3]
 |@own g Y As c ys ds e r' q ih=>cases i with
  |zero=>exact#[_,.own h r q,λb hb=>(dL.mp hb).imp id (bP _),λnd na=>fR.mpr #[λz=>na (bP _ z),(fR.mp nd).2]]
  |succ i=>obtain⟨aB,h1,h2,h3⟩:=ih i (AR hi);exact#[c::aB,.own e r' h1,λb hb=>(dL.mp hb).elim (λz=>.inr (z▸b0)) λz=>(h2 b z).imp id (bP _),λnd na=>fR.mpr #[λz=>(h2 c z).elim (λw=>na (w▸b0)) (fR.mp nd).1,h3 (fR.mp nd).2 λw=>na (bP _ w)]]
theorem S.jV(s:S z g Y As M H){i:Nat}{l:List D}{a:Addr}{xs:List V}(hb:i∉z.bor)(hi:i<g.length)(hm:a∈M)(hA:a∉As)(h0:z.H0 a=none)(h:H a=!(.lst xs))(r:aD z.K M H l xs):∃aB,S z (g.set i (.own l)) (Y.set i (!(.ref a))) aB M H:=by
 obtain⟨aB,h1,h2,h3⟩:=s.sl.jV h r i hi;refine#[aB,h1,h3 s.nd hA,λb hb=>(h2 b hb).elim (λe=>e▸hm) (s.sub b),λj b l2 h4 h5=>?_,s.live,s.keep,s.eS,s.m0,s.bm,λp hp=>?_,s.tab,s.tm,s.tt]
 rotate_left
 .
  have:i≠p.1:=λe=>hb (by rw[e];exact oQ hp)
  rw[eI this,eI this];exact s.fH p hp
 by_cases hj:i=j
 .
  subst hj;rw[i3 (by rw[<- s.sl.length];exact hi)]at h5
  injection h5 with h5;injection h5 with h5;injection h5 with h5;subst h5;exact .inr h0
 . rw[eI hj]at h4 h5;exact s.own j b l2 h4 h5
end
abbrev Kn (z:Z) (g':G) (Y:Sg) (M:List Addr) (H:Hp) (r:R) (Q:VK):Prop:=
 ∀v H' aB M',S z g' Y aB M' H'->aq M H M' H'->cA z g' Y aB M' H' r v->Q v H'
def aA(X:Cx)(z:Z)(e:Expr)(g:G)(r:R)(g':G):Prop:=
 ∃t,PE X e t/\∀Y As M H Q,S z g Y As M H->Kn z g' Y M H r Q->t Y H Q
def bN(X:Cx)(z:Z)(e:Expr)(g:G)(b:Bool)(g':G):Prop:=
 ∃t,PT X e t/\∀Y As M H (Q:Bool->Hp->Prop),S z g Y As M H->(∀H' aB M',S z g' Y aB M' H'->aq M H M' H'->Q b H')->t Y H Q
def lH(X:Cx)(z:Z)(f:Value->Value->Sem Value)(d1 d2:D)(res:R):Prop:=
 ∃r:R2,jq X f r/\∀g Y As M H v1 v2 Q,S z g Y As M H->Pk z.K M H d1 v1->Pk z.K M H d2 v2->Kn z g Y M H res Q->r v1 v2 H Q
def XH(X:Cx)(z:Z)(d1 d2:D)(res:R):Prop:=
 ∃r:R2,Y9 X r/\∀g Y As M H v1 v2 Q,S z g Y As M H->Pk z.K M H d1 v1->Pk z.K M H d2 v2->Kn z g Y M H res Q->r v1 v2 H Q
def UnD(X:Cx)(z:Z)(f:Value->Sem Value)(d:D)(res:R):Prop:=
 ∃r:V->Hp->VK->Prop,UnR X f r/\∀g Y As M H v Q,S z g Y As M H->Pk z.K M H d v->Kn z g Y M H res Q->r v H Q
noncomputable def pk:R->G->Option D
 |.dat d,_=>!d
 |.new _,_=>none
 |.var i,g=>match g[i]? with |!(.own l)=>!(.lst l) |!(.dat (.lst l))=>!(.lst l) |_=>none
section
theorem S.pk(s:S z g2 Y As M2 H2)(st:aq M1 H1 M2 H2)(q:cA z g1 Y aI M1 H1 r v)(h:pk r g2=!d):Pk z.K M2 H2 d v:=by
 cases r with
 |dat d'=>have e:d'=d:=mI h;subst e;exact .of (Rep.stay st q)
 |new l=>symm
 |var i=>
  obtain⟨l,h1,h2⟩:=q;unfold Ev.pk at h;dsimp only at h;split at h
  . rename_i l' hg;have e:=mI h;subst e;obtain⟨a,xs,e1,e2,e3,e4⟩:=s.sl.at hg;rw[h2]at e1;injection e1 with e1;injection e1 with e1;subst e1;exact .lst e3 e4
  . rename_i l' hg;have e:=mI h;subst e;obtain⟨w,e1,e2⟩:=s.sl.mY hg;rw[h2]at e1;injection e1 with e1;injection e1 with e1;exact .of (e1▸e2)
  . symm
theorem Tf{i j}:aA X z (.Constant (.int i) j pos) g ‹i› g:=#[_,Ep,λY As M H Q s k=>k _ _ _ _ s (aq.refl _ _) (.int i)]
theorem Zj{i j}:aA X z (.Constant (.bool i) j pos) g (.dat (.bl i)) g:=#[_,Yx,λY As M H Q s k=>k _ _ _ _ s (aq.refl _ _) (.bl i)]
theorem Ti{j}:aA X z (.Constant .none j pos) g (.dat .non) g:=#[_,Er,λY As M H Q s k=>k _ _ _ _ s (aq.refl _ _) .non]
theorem Tj{x j}:aA X z (.Constant (.str x) j pos) g (.dat (.str x)) g:=#[_,RL,λY As M H Q s k=>k _ _ _ _ s (aq.refl _ _) (.str x)]
theorem Tp{i:Nat}{x:Str}(hN:X.N[i]?=!x)(hv:um X.env.scope x)(hd:(x==(~~~3))=false)(bU:(x==("__classdict__":Str))=false)(hg:g[i]?=!(.dat d)):aA X z (.Name x pos) g (.dat d) g:=
 #[_,fY hN hv hd bU,λY As M H Q s k=>let #[v,e,r]:=s.sl.mY hg;#[v,e,k v H As M s (aq.refl _ _) r]]
theorem Ls(hN:X.N[i]?=!x)(hv:um X.env.scope x)(hd:(x==(~~~3))=false)(bU:(x==("__classdict__":Str))=false)(hg:g[i]?=!(.own l)):aA X z (.Name x pos) g (.var i) g:=
 #[_,fY hN hv hd bU,λY As M H Q s k=>let #[a,xs,e,r]:=s.sl.at hg;#[_,e,k _ H As M s (aq.refl _ _) #[l,hg,e]]]
theorem Lv(hg:Gl X x)(hm:X.mg x=!u)(r:RelV v u)(hr:∀M H,Rep z.K M H d v)(hd:(x==(~~~3))=false):aA X z (.Name x pos) g (.dat d) g:=
 #[_,rS hg hm r hd,λY As M H Q s k=>k _ H As M s (aq.refl _ _) (hr M H)]
theorem mZ(h:aA X z e g (.new l) g'):aA X z e g (.dat (.lst l)) g':=by
 obtain⟨t,p,q⟩:=h;refine#[t,p,λY As M H Q s k=>q Y As M H Q s λv H' aB M' s' st r=>?_]
 obtain⟨a,xs,rfl,hm,hA,h0,ha,rr⟩:=r;have hM:∀m∈(M'.filter λm=>decide (m≠a)),m∈M':=λm hm=>(lL.mp hm).1
 have na:a∉(M'.filter λm=>decide (m≠a)):=λhm=>by
  have:=(lL.mp hm).2;simp at this
 exact k _ H' aB _ (s'.drop h0 hA) (st.trans (aq.less hM)) (.lst #[na,ha] (rr.stay (aq.less hM)))
theorem Br(h:aA X z e g (.var i) g1)(hg:g1[i]?=!(.own l))(hb:i∉z.bor):aA X z e g (.dat (.lst l)) (g1.set i (.dat (.lst l))):=by
 obtain⟨t,p,q⟩:=h;refine#[t,p,λY As M H Q s k=>q Y As M H Q s λv H' aB M' s' st r=>?_]
 obtain⟨l',h1,h2⟩:=r;obtain⟨aL,M2,s2,aG⟩:=s'.freeze hg hb;have hi:=(c8.mp hg).1;obtain⟨v',e1,e2⟩:=s2.sl.mY (by rw[i3 hi])
 rw[h2]at e1;injection e1 with e1;injection e1 with e1;subst e1;exact k _ H' aL M2 s2 (st.trans aG) e2
theorem Tq(h1:aA X z a g r1 g1)(h2:aA X z b g1 r2 g2)(p1:pk r1 g2=!d1)(p2:pk r2 g2=!d2)(ho:lH X z (binaryOp op) d1 d2 r):aA X z (.BinOp a op b pos) g r g2:=by
 obtain⟨t1,q1,k1⟩:=h1;obtain⟨t2,q2,k2⟩:=h2;obtain⟨rr,o,ko⟩:=ho;exact#[_,YQ o q1 q2,λY As M H Q s k=>k1 Y As M H _ s λv1 H1 aI M1 s1 cN R1=>k2 Y aI M1 H1 _ s1 λv2 H2 aL M2 s2 aG R2=>
  ko g2 Y aL M2 H2 v1 v2 Q s2 (s2.pk aG R1 p1) (s2.pk (aq.refl _ _) R2 p2) λv H' aB M' s' st' R'=>k v H' aB M' s' (cN.trans (aG.trans st')) R']
theorem Tr(h1:aA X z a g r1 g1)(h2:aA X z b g1 r2 g2)(p1:pk r1 g2=!d1)(p2:pk r2 g2=!d2)(ho:lH X z (compareOp op) d1 d2 r)(hm:behindInMarks op b=false):aA X z (.Compare a [op] [b] pos) g r g2:=by
 obtain⟨t1,q1,k1⟩:=h1;obtain⟨t2,q2,k2⟩:=h2;obtain⟨rr,o,ko⟩:=ho;exact#[_,K6 o q1 q2 hm,λY As M H Q s k=>k1 Y As M H _ s λv1 H1 aI M1 s1 cN R1=>k2 Y aI M1 H1 _ s1 λv2 H2 aL M2 s2 aG R2=>
  ko g2 Y aL M2 H2 v1 v2 Q s2 (s2.pk aG R1 p1) (s2.pk (aq.refl _ _) R2 p2) λv H' aB M' s' st' R'=>k v H' aB M' s' (cN.trans (aG.trans st')) R']
theorem Zm(h1:aA X z a g r1 g1)(h2:aA X z b g1 r2 g2)(p1:pk r1 g2=!d1)(p2:pk r2 g2=!d2)(ho:XH X z d1 d2 r)(hs:lQ b):aA X z (.Subscript a b pos) g r g2:=by
 obtain⟨t1,q1,k1⟩:=h1;obtain⟨t2,q2,k2⟩:=h2;obtain⟨rr,o,ko⟩:=ho;exact#[_,QF o q1 q2 hs,λY As M H Q s k=>k1 Y As M H _ s λv1 H1 aI M1 s1 cN R1=>k2 Y aI M1 H1 _ s1 λv2 H2 aL M2 s2 aG R2=>
  ko g2 Y aL M2 H2 v1 v2 Q s2 (s2.pk aG R1 p1) (s2.pk (aq.refl _ _) R2 p2) λv H' aB M' s' st' R'=>k v H' aB M' s' (cN.trans (aG.trans st')) R']
theorem Zn(h1:aA X z a g r1 g1)(p1:pk r1 g1=!d1)(ho:UnD X z (unaryOp op) d1 r):aA X z (.UnaryOp op a pos) g r g1:=by obtain⟨t1,q1,k1⟩:=h1;obtain⟨rr,o,ko⟩:=ho;exact#[_,YS o q1,λY As M H Q s k=>k1 Y As M H _ s λv1 H1 aI M1 s1 cN R1=>ko g1 Y aI M1 H1 v1 Q s1 (s1.pk (aq.refl _ _) R1 p1) λv H' aB M' s' st' R'=>k v H' aB M' s' (cN.trans st') R']
theorem eY(q:cA z g Y As M H (.dat (.bl c)) v):v=.bl c:=by have q':=q;cases q';rfl
theorem Tt(h1:aA X z a g r1 g1)(h2:aA X z b g1 r2 g2)(p1:pk r1 g2=!d1)(p2:pk r2 g2=!d2)(ho:lH X z (compareOp op) d1 d2 (.dat (.bl c)))(hm:behindInMarks op b=false):bN X z (.Compare a [op] [b] pos) g c g2:=by
 obtain⟨t1,q1,k1⟩:=h1;obtain⟨t2,q2,k2⟩:=h2;obtain⟨rr,o,ko⟩:=ho;exact#[_,rZ o q1 q2 hm,λY As M H Q s k=>k1 Y As M H _ s λv1 H1 aI M1 s1 cN R1=>k2 Y aI M1 H1 _ s1 λv2 H2 aL M2 s2 aG R2=>
  ko g2 Y aL M2 H2 v1 v2 _ s2 (s2.pk aG R1 p1) (s2.pk (aq.refl _ _) R2 p2) λv H' aB M' s' st' R'=>#[c,eY R',k H' aB M' s' (cN.trans (aG.trans st'))]]
theorem Tv(h:bN X z a g c g'):bN X z (.UnaryOp .Not a pos) g ((not c)) g':=by obtain⟨t,q,k⟩:=h;exact#[_,Es q,λY As M H Q s kk=>k Y As M H _ s λH' aB M' s' st=>kk H' aB M' s' st]
def lI(X:Cx)(z:Z)(e:Expr)(g:G)(b:Bool)(g':G):Prop:=
 ∃t,PW X e t/\∀Y As M H (Q:Bool->Hp->Prop),S z g Y As M H->(∀H' aB M',S z g' Y aB M' H'->aq M H M' H'->Q b H')->t Y H Q
theorem lI.tr(h:lI X z e g c g'):bN X z e g c g':=let #[t,q,k]:=h;#[t,q.pt,k]
theorem Lw(h:bN X z a g c g'):lI X z (.BoolOp .And [a] pos) g c g':=let #[t,q,k]:=h;#[t,pw_and1 q,k]
theorem Tw(h:bN X z a g c g'):lI X z (.BoolOp .Or [a] pos) g c g':=let #[t,q,k]:=h;#[t,pw_or1 q,k]
def tNo:TT:=λ_ _ _=>False
theorem pw_never:PW X e tNo:=λ_ _ _ _ _ _ _ h=>h.elim
theorem jv:PE X e (λ_ _ _=>False):=λ_ _ _ _ _ _ h=>h.elim
theorem Lx{rest:List Expr}(h:bN X z a g false g1):lI X z (.BoolOp .And (a::b::rest) pos) g false g1:=by obtain⟨t,q,k⟩:=h;exact#[_,pw_and q pw_never,λY As M H Q s kk=>k Y As M H _ s λH' aB M' s' st=>lF (kk H' aB M' s' st)]
theorem Ly{rest:List Expr}{c:Bool}(h:bN X z a g true g1)(h2:lI X z (.BoolOp .And (b::rest) pos) g1 c g2):lI X z (.BoolOp .And (a::b::rest) pos) g c g2:=by obtain⟨t,q,k⟩:=h;obtain⟨t2,q2,k2⟩:=h2;exact#[_,pw_and q q2,λY As M H Q s kk=>k Y As M H _ s λH' aB M' s' st=>iN (k2 Y aB M' H' Q s' λH2 aL M2 s2 aG=>kk H2 aL M2 s2 (st.trans aG))]
theorem Tz{rest:List Expr}(h:bN X z a g true g1):lI X z (.BoolOp .Or (a::b::rest) pos) g true g1:=by obtain⟨t,q,k⟩:=h;exact#[_,pw_or q pw_never,λY As M H Q s kk=>k Y As M H _ s λH' aB M' s' st=>iN (kk H' aB M' s' st)]
theorem TF{rest:List Expr}{c:Bool}(h:bN X z a g false g1)(h2:lI X z (.BoolOp .Or (b::rest) pos) g1 c g2):lI X z (.BoolOp .Or (a::b::rest) pos) g c g2:=by obtain⟨t,q,k⟩:=h;obtain⟨t2,q2,k2⟩:=h2;exact#[_,pw_or q q2,λY As M H Q s kk=>k Y As M H _ s λH' aB M' s' st=>lF (k2 Y aB M' H' Q s' λH2 aL M2 s2 aG=>kk H2 aL M2 s2 (st.trans aG))]
theorem FH(h:aA X z a g r g'):aA X z (.BoolOp op [a] pos) g r g':=let #[t,q,k]:=h;#[t,RN q,k]
theorem Lz{rest:List Expr}(h:aA X z a g (.dat (.bl false)) g1):aA X z (.BoolOp .And (a::b::rest) pos) g (.dat (.bl false)) g1:=by obtain⟨t,q,k⟩:=h;exact#[_,Et q jv,λY As M H Q s kk=>k Y As M H _ s λv H' aB M' s' st R=>#[false,eY R,lF (kk _ H' aB M' s' st (.bl false))]]
theorem LC{rest:List Expr}(h:aA X z a g (.dat (.bl true)) g1)(h2:aA X z (.BoolOp .And (b::rest) pos) g1 r g2):aA X z (.BoolOp .And (a::b::rest) pos) g r g2:=by obtain⟨t,q,k⟩:=h;obtain⟨t2,q2,k2⟩:=h2;exact#[_,Et q q2,λY As M H Q s kk=>k Y As M H _ s λv H' aB M' s' st R=>#[true,eY R,iN (k2 Y aB M' H' Q s' λv2 H2 aL M2 s2 aG=>kk v2 H2 aL M2 s2 (st.trans aG))]]
theorem TJ{rest:List Expr}(h:aA X z a g (.dat (.bl true)) g1):aA X z (.BoolOp .Or (a::b::rest) pos) g (.dat (.bl true)) g1:=by obtain⟨t,q,k⟩:=h;exact#[_,QB q jv,λY As M H Q s kk=>k Y As M H _ s λv H' aB M' s' st R=>#[true,eY R,iN (kk _ H' aB M' s' st (.bl true))]]
theorem TL{rest:List Expr}(h:aA X z a g (.dat (.bl false)) g1)(h2:aA X z (.BoolOp .Or (b::rest) pos) g1 r g2):aA X z (.BoolOp .Or (a::b::rest) pos) g r g2:=by obtain⟨t,q,k⟩:=h;obtain⟨t2,q2,k2⟩:=h2;exact#[_,QB q q2,λY As M H Q s kk=>k Y As M H _ s λv H' aB M' s' st R=>#[false,eY R,lF (k2 Y aB M' H' Q s' λv2 H2 aL M2 s2 aG=>kk v2 H2 aL M2 s2 (st.trans aG))]]
theorem TQ(h:aA X z a g (.dat (.bl c)) g1):aA X z (.UnaryOp .Not a pos) g (.dat (.bl ((not c)))) g1:=by obtain⟨t,q,k⟩:=h;exact#[_,RP q,λY As M H Q s kk=>k Y As M H _ s λv H' aB M' s' st R=>#[c,eY R,kk _ H' aB M' s' st (.bl _)]]
theorem TV(h:bN X z c g true g1)(h2:aA X z a g1 r g2):aA X z (.IfExp c a b pos) g r g2:=by obtain⟨t,q,k⟩:=h;obtain⟨t2,q2,k2⟩:=h2;exact#[_,uD q q2 jv,λY As M H Q s kk=>k Y As M H _ s λH' aB M' s' st=>iN (k2 Y aB M' H' Q s' λv2 H2 aL M2 s2 aG=>kk v2 H2 aL M2 s2 (st.trans aG))]
theorem TX(h:bN X z c g false g1)(h2:aA X z b g1 r g2):aA X z (.IfExp c a b pos) g r g2:=by obtain⟨t,q,k⟩:=h;obtain⟨t2,q2,k2⟩:=h2;exact#[_,uD q jv q2,λY As M H Q s kk=>k Y As M H _ s λH' aB M' s' st=>lF (k2 Y aB M' H' Q s' λv2 H2 aL M2 s2 aG=>kk v2 H2 aL M2 s2 (st.trans aG))]
inductive iO(z:Z)(Y:Sg)(M:List Addr)(H:Hp):List R->List V->Prop
 |nil:iO z Y M H [] []
 |dat {d:D}{v:V}{rs:List R}{vs:List V}:Rep z.K M H d v->iO z Y M H rs vs->iO z Y M H (.dat d::rs) (v::vs)
 |var {i:Nat}{v:V}{rs:List R}{vs:List V}:Y[i]?=!(!v)->iO z Y M H rs vs->iO z Y M H (.var i::rs) (v::vs)
def bO(X:Cx)(z:Z)(es:List Expr)(g:G)(rs:List R)(g':G):Prop:=
 ∃t,PA X es t/\∀Y As M H (Q:List V->Hp->Prop),S z g Y As M H->(∀vs H' aB M',S z g' Y aB M' H'->aq M H M' H'->iO z Y M' H' rs vs->Q vs H')->t Y H Q
theorem dc:bO X z [] g [] g:=#[_,fF,λY As M H Q s k=>k [] H As M s (aq.refl _ _) .nil]
theorem cB(h:aA X z e g (.dat d) g1)(h2:bO X z es g1 rs g2)(hs:starEach (e::es) X.env=(false,eval e X.env)::starEach es X.env):bO X z (e::es) g (.dat d::rs) g2:=by obtain⟨t,q,k⟩:=h;obtain⟨t2,q2,k2⟩:=h2;exact#[_,bA q q2 hs,λY As M H Q s kk=>k Y As M H _ s λv H' aB M' s' st R=>k2 Y aB M' H' _ s' λvs H2 aL M2 s2 aG R2=>kk _ H2 aL M2 s2 (st.trans aG) (.dat (Rep.stay aG R) R2)]
theorem FJ(h:aA X z e g (.var i) g1)(h2:bO X z es g1 rs g2)(hs:starEach (e::es) X.env=(false,eval e X.env)::starEach es X.env):bO X z (e::es) g (.var i::rs) g2:=by obtain⟨t,q,k⟩:=h;obtain⟨t2,q2,k2⟩:=h2;exact#[_,bA q q2 hs,λY As M H Q s kk=>k Y As M H _ s (by rintro v H' aB M' s' st ⟨_,_,R⟩;exact k2 Y aB M' H' _ s' λvs H2 aL M2 s2 aG R2=>kk _ H2 aL M2 s2 (st.trans aG) (.var R R2))]
inductive LK(K:Frag)(M:List Addr)(H:Hp):List D->List V->Prop
 |nil:LK K M H [] []
 |cons {d:D}{v:V}{ds:List D}{vs:List V}:Pk K M H d v->LK K M H ds vs->LK K M H (d::ds) (v::vs)
def lJ:List R->G->Option (List D)
 | [],_=>![]
 |r::rs,g=>match pk r g,lJ rs g with
  |!d,!ds=>!(d::ds)
  |_,_=>none
theorem S.lJ(s:S z g Y As M H)(q:iO z Y M H rs vs)(e:lJ rs g=!ds):LK z.K M H ds vs:=by
 induction q generalizing ds with
 |nil=>cases e;exact .nil
 |@dat d v rs vs r q ih=>
  unfold Ev.lJ at e;cases e2:Ev.lJ rs g with
  |none=>rw[e2]at e;cases e
  |some ds=>rw[e2]at e;cases e;exact .cons (.of r) (ih e2)
 |@var i v rs vs r q ih=>
  unfold Ev.lJ at e;cases e1:Ev.pk (.var i) g with
  |none=>rw[e1]at e;cases e
  |some d=>
   cases e2:Ev.lJ rs g with
   |none=>rw[e1,e2]at e;cases e
   |some ds=>
    rw[e1,e2]at e;cases e;unfold Ev.pk at e1;dsimp only at e1;split at e1
    . rename_i l hg;cases e1;obtain⟨a,xs,h1,h2,h3,h4⟩:=s.sl.at hg;rw[r]at h1;injection h1 with h1;injection h1 with h1;subst h1;exact .cons (.lst h3 h4) (ih e2)
    . rename_i l hg;cases e1;obtain⟨w,h1,h2⟩:=s.sl.mY hg;rw[r]at h1;injection h1 with h1;injection h1 with h1;exact .cons (.of (h1▸h2)) (ih e2)
    . cases e1
noncomputable def sG:List R->Option (List D)
 | []=>![]
 |.dat d::rs=>match sG rs with |some ds=>!(d::ds) |none=>none
 |_::_=>none
theorem sH(q:iO z Y M H rs vs)(e:sG rs=!ds):aD z.K M H ds vs:=by
 induction q generalizing ds with
 |nil=>cases e;exact .nil
 |@dat d v rs vs r q ih=>
  unfold sG at e;cases e2:sG rs with
  |none=>rw[e2]at e;cases e
  |some ds=>rw[e2]at e;cases e;exact .cons r (ih e2)
 |var _ _ _=>cases e
theorem gw(h:n<=16777216):n<=sizeLine:=by rw[tI];exact h
theorem TY{x1}(h:bO X z es g rs g')(hd:sG rs=!ds)(hl:ds.length<=16777216):aA X z (.Tuple es x1 pos) g (.dat (.tup ds)) g':=by
 obtain⟨t,q,k⟩:=h;refine#[_,xu q,λY As M H Q s kk=>k Y As M H _ s λvs H' aB M' s' st R=>?_]
 have rr:=sH R hd;refine#[by rw[<- rr.length];exact gw hl,λp hp=>kk _ _ aB M' (s'.laid hp) (st.trans (aq.laid hp)) (.tup (.inl #[s'.fresh hp,.inl az]) (rr.stay (aq.laid hp)))]
theorem T3(h:bO X z es g rs g')(hd:sG rs=!ds)(hl:ds.length<=16777216):aA X z (.List es pos) g (.new ds) g':=by
 obtain⟨t,q,k⟩:=h;refine#[_,Sl q,λY As M H Q s kk=>k Y As M H _ s λvs H' aB M' s' st R=>?_]
 have rr:=sH R hd;refine#[by rw[<- rr.length];exact gw hl,λp hp=>kk _ _ aB (p::M') (s'.aO hp) (st.trans (aq.aO hp)) #[p,vs,rfl,b0,λhA=>s'.fresh hp (s'.sub p hA),s'.bY hp,az,rr.stay (aq.aO hp)]]
def CallD(X:Cx)(z:Z)(f:Value)(ds:List D)(res:R):Prop:=
 ∃r,cF X f r/\∀g Y As M H vs Q,S z g Y As M H->LK z.K M H ds vs->Kn z g Y M H res Q->r vs H Q
theorem FN{x:Str}{id:String}{p:Pos}{es:List Expr}{rs:List R}{ds:List D}(h:bO X z (e::es) g rs g')(hp:lJ rs g'=!ds)(hc:CallD X z (.builtin id) ds r)(hg:Gl X x)(hm:X.mg x=none)(hv:bootBuiltins x=!(.builtin id))(hn:x≠ "__name__")(ji:(x==(~~~3))=false)
  (he:starEach (e::es) X.env=(false,eval e X.env)::starEach es X.env) (jh:(backTo pos (starEach es X.env)).any (·.1)=false):aA X z (.Call (.Name x p) (e::es) [] pos) g r g':=by
 obtain⟨t,q,k⟩:=h;obtain⟨rr,c,kc⟩:=hc;exact#[_,gj c hg hm hv q hn ji he jh,λY As M H Q s kk=>k Y As M H _ s λvs H' aB M' s' st R=>kc g' Y aB M' H' vs Q s' (s'.lJ R hp) λv H2 aL M2 s2 aG R2=>kk v H2 aL M2 s2 (st.trans aG) R2]
theorem Bs(h:bO X z (e::es) g rs g')(hp:lJ rs g'=!ds)(hc:CallD X z (.type T) ds r)(hg:Gl X x)(hm:X.mg x=none)(hv:bootBuiltins x=!(.type T))(hn:x≠ "__name__")(ji:(x==(~~~3))=false)
  (he:starEach (e::es) X.env=(false,eval e X.env)::starEach es X.env) (jh:(backTo pos (starEach es X.env)).any (·.1)=false):aA X z (.Call (.Name x p) (e::es) [] pos) g r g':=by
 obtain⟨t,q,k⟩:=h;obtain⟨rr,c,kc⟩:=hc;exact#[_,qg c hg hm hv q hn ji he jh,λY As M H Q s kk=>k Y As M H _ s λvs H' aB M' s' st R=>kc g' Y aB M' H' vs Q s' (s'.lJ R hp) λv H2 aL M2 s2 aG R2=>kk v H2 aL M2 s2 (st.trans aG) R2]
end
mutual
noncomputable def cI:D->D->Bool
 |.bl a,.bl b=>a==b
 |.bl a,.int j=>(if a then 1 else 0)==j
 |.int i,.bl b=>i==(if b then 1 else 0)
 |.int i,.int j=>i==j
 |.tup l,.tup m=>dg l m
 |.lst l,.lst m=>dg l m
 |_,_=>false
noncomputable def dg:List D->List D->Bool
 | [],[]=>true
 |a::l,b::m=>cI a b&&dg l m
 |_,_=>false
end
mutual
noncomputable def dep:D->Nat
 |.tup l=>deps l+1
 |.lst l=>deps l+1
 |_=>0
noncomputable def deps:List D->Nat
 | []=>0
 |d::l=>max (dep d) (deps l)
end
mutual
noncomputable def jd:D->Bool
 |.tup l=>eE l
 |.lst l=>eE l
 |.bl _=>true
 |.int _=>true
 |_=>false
noncomputable def eE:List D->Bool
 | []=>true
 |d::l=>jd d&&eE l
end
mutual
inductive Dv(h:Heap):D->Value->Prop
 |bl (b:Bool):Dv h (.bl b) (.bool b)
 |int (i:Int) (t:Tok):Dv h (.int i) (.int i t)
 |tup {l:List D}{a:Addr}{us:List Value}:IsTup h a us.toArray->jf h l us->Dv h (.tup l) (.ref a)
 |lst {l:List D}{a:Addr}{us:List Value}:h.IsList a us.toArray->jf h l us->Dv h (.lst l) (.ref a)
inductive jf(h:Heap):List D->List Value->Prop
 |nil:jf h [] []
 |cons {d:D}{ds:List D}{u:Value}{us:List Value}:Dv h d u->jf h ds us->jf h (d::ds) (u::us)
end
section
theorem Rep.dv2(I: ~~~7)(q:Rep X.K M H d v):∀u,RelV v u->jd d=true->Dv s.heap d u:=by
 refine Rep.rec (motive_2:=λds vs _=>∀us,Vals vs us->eE ds=true->jf s.heap ds us) ?_ ?_ ?_ ?_ ?_ ?_ ?_ ?_ ?_ ?_ ?_ ?_ q
 . intro u _ p;exact Bool.noConfusion (show false=true from p)
 . intro b u r _;cases r;exact .bl b
 . intro i u r _;obtain⟨t,rfl⟩:=r;exact .int i t
 . intro x u _ p;exact Bool.noConfusion (show false=true from p)
 . intro l a xs h _ ih u r p;cases r;obtain⟨its,rv,ht,hz⟩:=I.tuple h.sq;exact .tup ht (ih _ rv p)
 . intro l a xs h _ ih u r p;cases r;obtain⟨its,rv,ht,hz⟩:=I.list (cu.of h.2);exact .lst ht.isList (ih _ rv p)
 . intro l a xs _ _ _ u _ p;exact Bool.noConfusion (show false=true from p)
 . intro m o a _ _ u _ p;exact Bool.noConfusion (show false=true from p)
 . intro C a _ _ _ u _ p;exact Bool.noConfusion (show false=true from p)
 . intro ks ds a vs _ _ _ _ _ u _ p;exact Bool.noConfusion (show false=true from p)
 . intro us r _;cases r;exact .nil
 .
  intro d ds x xs _ _ i1 i2 us r p;cases r with
  |cons r1 r2=>have p:(jd d&&eE ds)=true:=p;rw[dA]at p;exact .cons (i1 _ r1 p.1) (i2 _ r2 p.2)
theorem Rep.dv(I: ~~~7)(q:Rep X.K M H d v)(r:RelV v u)(p:jd d=true):Dv s.heap d u:=q.dv2 I u r p
theorem aD.dv(I: ~~~7)(q:aD X.K M H ds vs)(r:Vals vs us)(p:eE ds=true):jf s.heap ds us:=by
 induction ds generalizing vs us with
 |nil=>cases q;cases r;exact .nil
 |cons d ds ih=>cases q with |cons q1 q2=>cases r with |cons r1 r2=>have p:(jd d&&eE ds)=true:=p;rw[dA]at p;exact .cons (q1.dv I r1 p.1) (ih q2 r2 p.2)
theorem Pk.dv(I: ~~~7)(h:Pk X.K M H d v)(r:RelV v u)(p:jd d=true):Dv s.heap d u:=by
 cases h with
 |of q=>exact q.dv I r p
 |lst h q=>cases r;obtain⟨its,rv,ht,hz⟩:=I.list (cu.of h);exact .lst ht.isList (aD.dv I q rv (by simpa [jd]using p))
end
theorem jf.length(q:jf h l us):l.length=us.length:=by
 induction l generalizing us with
 |nil=>cases q;rfl
 |cons d l ih=>cases q with |cons a b=>exact congrArg (· + 1) (ih b)
theorem qm{h:Heap}{a:Addr}{us ws:List Value}(x:IsTup h a us.toArray)(y:IsTup h a ws.toArray):us=ws:=by obtain⟨o,e,_,n,d⟩:=x;obtain⟨o',e',_,n',d'⟩:=y;rw[e]at e';cases e';rw[d]at d';injection d' with d1 _;simpa using congrArg Array.toList d1
theorem m6{h:Heap}{a:Addr}{us ws:List Value}(x:h.IsList a us.toArray)(y:h.IsList a ws.toArray):us=ws:=by obtain⟨o,e,_,n,d⟩:=x;obtain⟨o',e',_,n',d'⟩:=y;rw[e]at e';cases e';rw[d]at d';injection d' with d1 _;simpa using congrArg Array.toList d1
theorem jw(x:IsTup h a us)(y:h.IsList a ws):False:=by obtain⟨o,e,c,_⟩:=x;obtain⟨o',e',c',_⟩:=y;rw[e]at e';cases e';rw[c]at c';exact absurd c' ⋯
theorem FP{h:Heap}{d1:D}{u:Value}(q:Dv h d1 u):∀d2,Dv h d2 u->cI d1 d2=true:=by
 refine Dv.rec (motive_2:=λl us _=>∀m,jf h m us->dg l m=true) ?_ ?_ ?_ ?_ ?_ ?_ q
 . intro b d2 q;cases q;exact beq_self_eq_true b
 . intro i t d2 q;cases q;exact beq_self_eq_true i
 .
  intro l a us x _ ih d2 q;cases q with
  |tup y q'=>cases qm x y;exact ih _ q'
  |lst y _=>exact (jw x y).elim
 .
  intro l a us x _ ih d2 q;cases q with
  |tup y _=>exact (jw y x).elim
  |lst y q'=>cases m6 x y;exact ih _ q'
 . intro m q;cases q;rfl
 .
  intro d ds u us _ _ i1 i2 m q;cases q with
  |@cons d' m _ _ b q'=>show (cI d d'&&dg ds m)=true;rw[i1 _ b,i2 _ q'];rfl
theorem LQ(q:Dv h d1 u)(q':Dv h d2 u):cI d1 d2=true:=FP q d2 q'
def QM(l m:List D)(j:Nat):Bool:=match l[j]?,m[j]? with |!a,!b=>cI a b |_,_=>false
theorem m7(l m:List D)(h:l.length=m.length):(List.range l.length).all (QM l m)=dg l m:=by
 induction l generalizing m with
 |nil=>cases m with
  |nil=>rfl
  |cons _ _=>symm
 |cons a l ih=>cases m with
  |nil=>symm
  |cons b m=>rw[gL,List.range_succ_eq_map,CL,List.all_map];have e:(QM (a::l) (b::m) ∘ Nat.succ)=QM l m:=rfl;rw[e,ih m (Cn h)];rfl
theorem m8(l m:List D)(h:l.length≠m.length):dg l m=false:=by
 induction l generalizing m with
 |nil=>cases m with
  |nil=>exact absurd rfl h
  |cons _ _=>rfl
 |cons a l ih=>cases m with
  |nil=>rfl
  |cons b m=>show (cI a b&&dg l m)=false;rw[ih m (λe=>h (congrArg (· + 1) e)),Cc]
theorem uQ(l m:List D):((List.range (min l.length m.length)).all (QM l m)&&l.length==m.length)=dg l m:=by
 by_cases h:l.length=m.length
 . rw[h,Nat.min_self,<- h,m7 l m h];simp
 .
  rw[m8 l m h];have:(l.length==m.length)=false:=by simpa using h
  rw[this,Cc]
theorem m9{l:List D}{j:Nat}{d:D}(e:l[j]?=!d):dep d<=deps l:=by
 induction l generalizing j with
 |nil=>exact nomatch (show none=!d from e)
 |cons d' l ih=>cases j with
  |zero=>cases (show some d'=!d from e);exact Nat.le_max_left _ _
  |succ j=>exact n0 (ih (show l[j]?=!d from e)) (Nat.le_max_right _ _)
theorem jf.get{h:Heap}{l:List D}{us:List Value}{j:Nat}{u:Value}(q:jf h l us)(e:us[j]?=!u):∃d,l[j]?=!d/\Dv h d u:=by
 induction l generalizing us j with
 |nil=>cases q;exact nomatch (show none=!u from e)
 |cons d' l ih=>cases q with |@cons _ _ u' us a b=>cases j with
  |zero=>cases (show some u'=!u from e);exact#[_,rfl,a]
  |succ j=>obtain⟨d,h⟩:=ih b e;exact#[d,h]
theorem in1_units(A:Around):A.in1.units=A.units+1:=rfl
section
theorem FQ(hl:s.heap.IsList l us.toArray)(hb:s.heap.IsList b ws.toArray)(q:jf s.heap ls us)(q':jf s.heap ms ws)(hu:A.units<cLine)
  (he:∀(j:Nat) d1 d2 u1 u2,ls[j]?=!d1->Dv s.heap d1 u1->Dv s.heap d2 u2->SeqAt.EqAt A.in1 s u1 u2 (cI d1 d2)):SeqAt.RcAt A s (.ref l) (.ref b) (dg ls ms):=by
 have h1:=q.length;have h2:=q'.length;by_cases h:ls.length=ms.length
 .
  rw[<- m7 ls ms h];have e:us.toArray.size=ls.length:=by rw[b8,h1]
  rw[<- e];refine SeqAt.RcAt.lists hl hb (by rw[b8,b8];lia) hu λj g1 g2=>?_
  obtain⟨d1,e1,v1⟩:=q.get (j:=j) (u:=us[j]) (by simp[g1])
  obtain⟨d2,e2,v2⟩:=q'.get (j:=j) (u:=ws[j]) (by simp[g2])
  have:=he j d1 d2 us[j] ws[j] e1 v1 v2;simpa [QM,e1,e2]using this
 . rw[m8 ls ms h];refine SeqAt.RcAt.lists_lengths hl hb ?_ hu;rw[b8,b8];lia
theorem Bt(hl:IsTup s.heap l us.toArray)(hb:IsTup s.heap b ws.toArray)(q:jf s.heap ls us)(q':jf s.heap ms ws)(hu:A.units<cLine)
  (he:∀(j:Nat) d1 d2 u1 u2,ls[j]?=!d1->Dv s.heap d1 u1->Dv s.heap d2 u2->SeqAt.EqAt A.in1 s u1 u2 (cI d1 d2)):SeqAt.RcAt A s (.ref l) (.ref b) (dg ls ms):=by
 have h1:=q.length;have h2:=q'.length;have e:us.toArray.size=ls.length:=by rw[b8,h1]
 have e':ws.toArray.size=ms.length:=by rw[b8,h2]
 rw[<- uQ,<- e,<- e'];refine SeqAt.RcAt.tuples hl hb hu λj g1 g2=>?_
 obtain⟨d1,e1,v1⟩:=q.get (j:=j) (u:=us[j]) (by simp[g1])
 obtain⟨d2,e2,v2⟩:=q'.get (j:=j) (u:=ws[j]) (by simp[g2])
 have:=he j d1 d2 us[j] ws[j] e1 v1 v2;simpa [QM,e1,e2]using this
theorem uR(x:Dv s.heap d1 (.ref l))(y:Dv s.heap d2 (.ref b))(h:SeqAt.RcAt A s (.ref l) (.ref b) (cI d1 d2)):SeqAt.EqAt A s (.ref l) (.ref b) (cI d1 d2):=by
 by_cases e:l=b
 . subst e;rw[LQ x y];exact .same _
 . exact .of_refs e h
end
theorem uS{s:Shared}:∀(n:Nat) {d1 d2:D}{u1 u2:Value}{A:Around},dep d1<=n->Dv s.heap d1 u1->Dv s.heap d2 u2->A.units+n<cLine->SeqAt.EqAt A s u1 u2 (cI d1 d2)/\SeqAt.RcAt A s u1 u2 (cI d1 d2):=by
 intro n
 induction n using Nat.strongRecOn with
 |ind n ih=>
  intro d1 d2 u1 u2 A hn x y hu;have gA:A.units<cLine:=by lia
  have el:∀{l:List D},deps l+1<=n->∀(j:Nat) d1 d2 u1 u2,l[j]?=!d1->Dv s.heap d1 u1->Dv s.heap d2 u2->SeqAt.EqAt A.in1 s u1 u2 (cI d1 d2):=λhl j d1 d2 u1 u2 e v1 v2=>
   (ih (n - 1) ⋯ (n0 (m9 e) ⋯) v1 v2 (by rw[in1_units];lia)).1
  cases x with
  |@tup l0 a0 us0 h q=>
   have hn':deps l0+1<=n:=hn;have x:=Dv.tup h q;cases y with
   |tup h' q'=>have r:=Bt h h' q q' gA (el hn');exact#[uR x (.tup h' q') r,r]
   |lst h' q'=>exact#[.tuple_list h h' gA,.tuple_list h h' gA]
   |bl b=>exact#[.tuple_bool b h gA,.tuple_bool b h gA]
   |int b t=>exact#[.tuple_int b t h gA,.tuple_int b t h gA]
  |@lst l0 a0 us0 h q=>
   have hn':deps l0+1<=n:=hn;have x:=Dv.lst h q;cases y with
   |tup h' q'=>exact#[.list_tuple h h' gA,.list_tuple h h' gA]
   |lst h' q'=>have r:=FQ h h' q q' gA (el hn');exact#[uR x (.lst h' q') r,r]
   |bl b=>exact#[.list_bool b h gA,.list_bool b h gA]
   |int b t=>exact#[.list_int b t h gA,.list_int b t h gA]
  |bl c=>
   cases y with
   |bl c'=>exact#[.bool_bool c c',.bool_bool c c']
   |int c' t'=>exact#[.bool_int c c' t',.bool_int c c' t']
   |tup h' q'=>exact#[.bool_tuple c h' gA,.bool_tuple c h' gA]
   |lst h' q'=>exact#[.bool_list c h' gA,.bool_list c h' gA]
  |int c t=>
   cases y with
   |bl c'=>exact#[.int_bool c t c',.int_bool c t c']
   |int c' t'=>exact#[.int_int c t c' t',.int_int c t c' t']
   |tup h' q'=>exact#[.int_tuple c t h' gA,.int_tuple c t h' gA]
   |lst h' q'=>exact#[.int_list c t h' gA,.int_list c t h' gA]
section
variable{K:Frag}
theorem Pk.int{i:Int}(h:Pk K M H (.int i) v):v=.int i:=by cases h with |of r=>cases r;rfl
theorem Pk.bl(h:Pk K M H (.bl i) v):v=.bl i:=by cases h with |of r=>cases r;rfl
theorem Pk.str(h:Pk K M H (.str i) v):v=.str i:=by cases h with |of r=>cases r;rfl
theorem Pk.non(h:Pk K M H .non v):v=.non:=by cases h with |of r=>cases r;rfl
theorem Pk.tup{l:List D}(h:Pk K M H (.tup l) v):∃a xs,v=.ref a/\TupAt K M H a xs/\aD K M H l xs:=by cases h with |of r=>cases r with |tup h1 h2=>exact⟨_,_,rfl,h1,h2⟩
theorem Pk.fix{l:List D}(h:Pk K M H (.fix l) v):∃a xs,v=.ref a/\ql K M H a xs/\aD K M H l xs:=by cases h with |of r=>cases r with |fix h1 h2=>exact⟨_,_,rfl,h1,h2⟩
end
section
theorem lT{f:Value->Value->Sem Value}{k:Int->Int->Int}{i j:Int}(h:jq X f (Fb λi j=>.int (k i j))):lH X z f (.int i) (.int j) (.dat (.int (k i j))):=
 #[_,h,λg Y As M H v1 v2 Q s p1 p2 kk=>#[i,j,p1.int,p2.int,kk _ H As M s (aq.refl _ _) (.int _)]]
theorem nh{f:Value->Value->Sem Value}{C:Int->Int->Prop}{k:Int->Int->Int}{i j:Int}(h:jq X f (rI C λi j=>.int (k i j)))(hc:C i j):lH X z f (.int i) (.int j) (.dat (.int (k i j))):=
 #[_,h,λg Y As M H v1 v2 Q s p1 p2 kk=>#[i,j,p1.int,p2.int,hc,kk _ H As M s (aq.refl _ _) (.int _)]]
theorem xJ{f:Value->Value->Sem Value}{k:Int->Int->Bool}{i j:Int}(h:jq X f (Fb λi j=>.bl (k i j))):lH X z f (.int i) (.int j) (.dat (.bl (k i j))):=
 #[_,h,λg Y As M H v1 v2 Q s p1 p2 kk=>#[i,j,p1.int,p2.int,kk _ H As M s (aq.refl _ _) (.bl _)]]
def T4(z:Z)(d1 d2:D)(b:Bool):R2:=λx y H Q=>(∃M,Pk z.K M H d1 x/\Pk z.K M H d2 y)/\Q (.bl b) H
theorem Zo(hK:z.K=X.K)(p1:jd d1=true)(p2:jd d2=true)(hd:X.A.units+dep d1<cLine):lH X z (compareOp .Eq) d1 d2 (.dat (.bl (cI d1 d2))):=by
 refine#[T4 z d1 d2 (cI d1 d2),?_,λg Y As M H v1 v2 Q s q1 q2 kk=>#[#[M,q1,q2],kk _ H As M s (aq.refl _ _) (.bl _)]]
 intro ah s Y H x y v u Q I rx ry h;obtain⟨⟨M,q1,q2⟩,q⟩:=h;rw[hK]at q1 q2;exact (uS (dep d1) (dE _) (q1.dv I rx p1) (q2.dv I ry p2) hd).2 X.prog X.w X.xe _ #[.bl _,H,I,rfl,q]
section
theorem FT(hl:s.heap.IsList l us.toArray)(hb:s.heap.IsList b ws.toArray)(q:jf s.heap ls us)(q':jf s.heap ms ws)(hu:A.units<cLine)
  (he:∀(j:Nat) d1 d2 u1 u2,ls[j]?=!d1->Dv s.heap d1 u1->Dv s.heap d2 u2->SeqAt.EqAt A.in1 s u1 u2 (cI d1 d2)):SeqAt.RcNeAt A s (.ref l) (.ref b) ((not (dg ls ms))):=by
 have h1:=q.length;have h2:=q'.length;by_cases h:ls.length=ms.length
 .
  rw[<- m7 ls ms h];have e:us.toArray.size=ls.length:=by rw[b8,h1]
  rw[<- e];refine SeqAt.RcNeAt.lists hl hb (by rw[b8,b8];lia) hu λj g1 g2=>?_
  obtain⟨d1,e1,v1⟩:=q.get (j:=j) (u:=us[j]) (by simp[g1])
  obtain⟨d2,e2,v2⟩:=q'.get (j:=j) (u:=ws[j]) (by simp[g2])
  have:=he j d1 d2 us[j] ws[j] e1 v1 v2;simpa [QM,e1,e2]using this
 . rw[m8 ls ms h];refine SeqAt.RcNeAt.lists_lengths hl hb ?_ hu;rw[b8,b8];lia
theorem Bu(hl:IsTup s.heap l us.toArray)(hb:IsTup s.heap b ws.toArray)(q:jf s.heap ls us)(q':jf s.heap ms ws)(hu:A.units<cLine)
  (he:∀(j:Nat) d1 d2 u1 u2,ls[j]?=!d1->Dv s.heap d1 u1->Dv s.heap d2 u2->SeqAt.EqAt A.in1 s u1 u2 (cI d1 d2)):SeqAt.RcNeAt A s (.ref l) (.ref b) ((not (dg ls ms))):=by
 have h1:=q.length;have h2:=q'.length;have e:us.toArray.size=ls.length:=by rw[b8,h1]
 have e':ws.toArray.size=ms.length:=by rw[b8,h2]
 rw[<- uQ,<- e,<- e'];refine SeqAt.RcNeAt.tuples hl hb hu λj g1 g2=>?_
 obtain⟨d1,e1,v1⟩:=q.get (j:=j) (u:=us[j]) (by simp[g1])
 obtain⟨d2,e2,v2⟩:=q'.get (j:=j) (u:=ws[j]) (by simp[g2])
 have:=he j d1 d2 us[j] ws[j] e1 v1 v2;simpa [QM,e1,e2]using this
end
theorem Zq(x:Dv s.heap d1 u1)(y:Dv s.heap d2 u2)(hu:A.units+dep d1<cLine):SeqAt.RcNeAt A s u1 u2 ((not (cI d1 d2))):=by
 have gA:A.units<cLine:=by lia
 have el:∀{l:List D},deps l+1<=dep d1->∀(j:Nat) d1 d2 u1 u2,l[j]?=!d1->Dv s.heap d1 u1->Dv s.heap d2 u2->SeqAt.EqAt A.in1 s u1 u2 (cI d1 d2):=λhl j e1 e2 u1 u2 e v1 v2=>
  (uS (dep e1) (dE _) v1 v2 (by rw[in1_units];have:=m9 e;lia)).1
 cases x with
 |tup h q=>
  cases y with
  |tup h' q'=>exact Bu h h' q q' gA (el (by simp[dep]))
  |lst h' q'=>exact .tuple_list h h' gA
  |bl b=>exact .tuple_bool b h gA
  |int b t=>exact .tuple_int b t h gA
 |lst h q=>
  cases y with
  |tup h' q'=>exact .list_tuple h h' gA
  |lst h' q'=>exact FT h h' q q' gA (el (by simp[dep]))
  |bl b=>exact .list_bool b h gA
  |int b t=>exact .list_int b t h gA
 |bl c=>
  cases y with
  |bl c'=>exact .bool_bool c c'
  |int c' t'=>exact .bool_int c c' t'
  |tup h' q'=>exact .bool_tuple c h' gA
  |lst h' q'=>exact .bool_list c h' gA
 |int c t=>
  cases y with
  |bl c'=>exact .int_bool c t c'
  |int c' t'=>exact .int_int c t c' t'
  |tup h' q'=>exact .int_tuple c t h' gA
  |lst h' q'=>exact .int_list c t h' gA
theorem Zr(hK:z.K=X.K)(p1:jd d1=true)(p2:jd d2=true)(hd:X.A.units+dep d1<cLine):lH X z (compareOp .NotEq) d1 d2 (.dat (.bl ((not (cI d1 d2))))):=by
 refine#[T4 z d1 d2 ((not (cI d1 d2))),?_,λg Y As M H v1 v2 Q s q1 q2 kk=>#[#[M,q1,q2],kk _ H As M s (aq.refl _ _) (.bl _)]]
 intro ah s Y H x y v u Q I rx ry h;obtain⟨⟨M,q1,q2⟩,q⟩:=h;rw[hK]at q1 q2;exact Zq (q1.dv I rx p1) (q2.dv I ry p2) hd X.prog X.w X.xe _ #[.bl _,H,I,rfl,q]
theorem FW(q:Dv h d u):∀d' x,Dv h d' u->cI d x=cI d' x:=by
 refine Dv.rec (motive_2:=λl us _=>∀l' m,jf h l' us->dg l m=dg l' m) ?_ ?_ ?_ ?_ ?_ ?_ q
 . intro b d' x q;cases q;rfl
 . intro i t d' x q;cases q;rfl
 .
  intro l a us k _ ih d' x q;cases q with
  |tup y q'=>
   cases qm k y;cases x with
   |tup m=>exact ih _ m q'
   |_=>rfl
  |lst y _=>exact (jw k y).elim
 .
  intro l a us k _ ih d' x q;cases q with
  |tup y _=>exact (jw y k).elim
  |lst y q'=>
   cases m6 k y;cases x with
   |lst m=>exact ih _ m q'
   |_=>rfl
 . intro l' m q;cases q;rfl
 .
  intro d ds u us _ _ i1 i2 l' m q;cases q with
  |@cons d' l' _ _ b q'=>cases m with
   |nil=>rfl
   |cons y m=>show (cI d y&&dg ds m)=(cI d' y&&dg l' m);rw[i1 _ y b,i2 _ m q']
theorem LR(x:D)(q:Dv h d u)(q':Dv h d' u):cI d x=cI d' x:=FW q d' x q'
open Classical in
def QS(h:Heap)(x:D)(u:Value):Bool:=decide (∃d,Dv h d u/\cI d x=true)
open Classical in
theorem xK(q:Dv h d u):QS h x u=cI d x:=by
 unfold QS;cases e:cI d x with
 |true=>exact kS #[d,q,e]
 |false=>refine nK ?_;rintro⟨d',q',e'⟩;rw[LR x q' q,e]at e';cases e'
theorem zu(q:jf h l us):us.any (QS h x)=l.any λd=>cI d x:=by
 induction l generalizing us with
 |nil=>cases q;rfl
 |cons d l ih=>cases q with |cons a b=>rw[List.any_cons,List.any_cons,xK a,ih b]
def Zt(z:Z)(d1 d2:D)(b:Bool):R2:=T4 z d1 d2 b
theorem ni{A:Around}{s:Shared}{x:D}{u:Value}{l:List D}{us:List Value}(q:jf s.heap l us)(hx:Dv s.heap x u)(hu:A.units+deps l+1<cLine):∀y,y∈us.toArray->SeqAt.EqAt A.in1 s y u (QS s.heap x y):=by
 intro y hy;have hy':y∈us:=by simpa using hy
 obtain⟨j,hj⟩:=List.getElem?_of_mem hy';obtain⟨d,e,qd⟩:=q.get hj;rw[xK qd];have:=m9 e;exact (uS (dep d) (dE _) qd hx (by rw[in1_units];lia)).1
noncomputable def cJ:D->Option (List D)
 |.lst l=>!l
 |.tup l=>!l
 |.fix l=>!l
 |_=>none
theorem FZ{ah: ~~~1}{Y:Sg}{M:List Addr}{H:Hp}{s:Shared}{d:D}{l:List D}{v:V}{u:Value}(I:L2.Inv X ah Y H s)(p:Pk X.K M H d v)(r:RelV v u)(hs:cJ d=!l)(p2:eE l=true) :
  ∃a its,u=.ref a/\jf s.heap l its/\its.length<=sizeLine/\(d=.tup l/\IsTup s.heap a its.toArray\/(d=.lst l\/d=.fix l)/\s.heap.IsList a its.toArray):=by
 cases d with
 |tup m=>cases hs;obtain⟨a,xs,rfl,ha,rr⟩:=p.tup;cases r;obtain⟨its,rv,pl,hz⟩:=I.tuple ha.sq;exact#[a,its,rfl,rr.dv I rv p2,rv.length▸hz,.inl #[rfl,pl]]
 |lst m=>cases hs;obtain⟨a,xs,rfl,ha,rr⟩:=p.list;cases r;obtain⟨its,rv,pl,hz⟩:=I.list (cu.of ha);exact#[a,its,rfl,rr.dv I rv p2,rv.length▸hz,.inr #[.inl rfl,pl.isList]]
 |fix m=>cases hs;obtain⟨a,xs,rfl,ha,rr⟩:=p.fix;cases r;obtain⟨its,rv,pl,hz⟩:=I.list ha.sq;exact#[a,its,rfl,rr.dv I rv p2,rv.length▸hz,.inr #[.inr rfl,pl.isList]]
 |_=>cases hs
theorem Zu(hK:z.K=X.K)(hs:cJ d2=!l)(p1:jd d1=true)(p2:eE l=true)(hd:X.A.units+deps l+1<cLine):lH X z (compareOp .In) d1 d2 (.dat (.bl (l.any λd=>cI d d1))):=by
 refine#[Zt z d1 d2 (l.any λd=>cI d d1),?_,λg Y As M H v1 v2 Q s q1 q2 kk=>#[#[M,q1,q2],kk _ H As M s (aq.refl _ _) (.bl _)]]
 intro ah s Y H x y v u Q I rx ry h;obtain⟨⟨M,q1,q2⟩,q⟩:=h;rw[hK]at q1 q2;obtain⟨a,its,rfl,gW,_,t⟩:=FZ I q2 ry hs p2;have el:=ni gW (q1.dv I rx p1) hd;rw[<- zu gW,<- List.any_toArray]at q;rcases t with ⟨_,pl⟩ |⟨_,pl⟩
 . exact SeqAt.in_tupleAt _ pl el #[.bl _,H,I,rfl,q]
 . exact SeqAt.in_listAt _ pl el #[.bl _,H,I,rfl,q]
theorem Ga(hK:z.K=X.K)(hs:cJ d2=!l)(p1:jd d1=true)(p2:eE l=true)(hd:X.A.units+deps l+1<cLine):lH X z (compareOp .NotIn) d1 d2 (.dat (.bl ((not (l.any λd=>cI d d1))))):=by
 refine#[Zt z d1 d2 ((not (l.any λd=>cI d d1))),?_,λg Y As M H v1 v2 Q s q1 q2 kk=>#[#[M,q1,q2],kk _ H As M s (aq.refl _ _) (.bl _)]]
 intro ah s Y H x y v u Q I rx ry h;obtain⟨⟨M,q1,q2⟩,q⟩:=h;rw[hK]at q1 q2;obtain⟨a,its,rfl,gW,_,t⟩:=FZ I q2 ry hs p2;have el:=ni gW (q1.dv I rx p1) hd;rw[<- zu gW,<- List.any_toArray]at q;rcases t with ⟨_,pl⟩ |⟨_,pl⟩
 . exact SeqAt.notIn_tupleAt _ pl el #[.bl _,H,I,rfl,q]
 . exact SeqAt.notIn_listAt _ pl el #[.bl _,H,I,rfl,q]
theorem T5(h:l.length+m.length<=16777216):lH X z (binaryOp .Add) (.lst l) (.lst m) (.new (l++m)):=by
 refine#[_,SN,λg Y As M H v1 v2 Q s q1 q2 kk=>?_]
 obtain⟨a,xs,rfl,ha,ra⟩:=q1.list;obtain⟨b,ys,rfl,hb,rb⟩:=q2.list;refine#[a,b,xs,ys,rfl,rfl,ha,hb,by rw[<- ra.length,<- rb.length];exact gw h,λp hp=>?_]
 exact kk _ _ As (p::M) (s.aO hp) (aq.aO hp) #[p,_,rfl,b0,λhA=>s.fresh hp (s.sub p hA),s.bY hp,az,(ra.append rb).stay (aq.aO hp)]
theorem T6(h1 : -(2 ^ 63)<=k)(h2:k<2 ^ 63)(h:l.length * k.toNat<=16777216):lH X z (binaryOp .Mult) (.lst l) (.int k) (.new (List.replicate k.toNat l).flatten):=by
 refine#[_,SQ,λg Y As M H v1 v2 Q s q1 q2 kk=>?_]
 obtain⟨a,xs,rfl,ha,ra⟩:=q1.list;have rr:∀n,aD z.K M H (List.replicate n l).flatten (List.replicate n xs).flatten:=λn=>by
  induction n with
  |zero=>simp;exact .nil
  |succ n ih=>rw[y8,y8];exact ra.append ih
 refine#[a,k,xs,rfl,q2.int,ha,h1,h2,by rw[<- ra.length];exact gw h,λp hp=>?_]
 exact kk _ _ As (p::M) (s.aO hp) (aq.aO hp) #[p,_,rfl,b0,λhA=>s.fresh hp (s.sub p hA),s.bY hp,az,(rr _).stay (aq.aO hp)]
def T7(K:Frag):R2:=λx y H Q=>∃a b xs ys,x=.ref a/\y=.ref b/\eU K H a xs/\eU K H b ys/\xs.length+ys.length<=sizeLine/\
 (xs=[]->Q (.ref b) H)/\(xs≠[]->ys=[]->Q (.ref a) H)/\(xs≠[]->ys≠[]->∀p,H p=none->Q (.ref p) (upd H p (.tup (xs++ys))))
theorem Gb:jq X (binaryOp .Add) (T7 X.K):=by
 intro ah s Y H x y v u Q I rx ry h;obtain⟨a,b,xs,ys,rfl,rfl,ha,hb,hz,q0,q1,q2⟩:=h;by_cases hx:xs=[]
 .
  subst hx;cases rx;cases ry;obtain⟨its,r1,p1,_⟩:=I.tuple ha;obtain⟨iE,r2,p2,_⟩:=I.tuple hb;cases r1;obtain⟨⟨cls,dd,data,sl⟩,ho,hc,n,hd⟩:=id p1;obtain⟨⟨Sv,dd2,data2,sl2⟩,ho2,hc2,n2,hd2⟩:=id p2;subst hc hd hc2 hd2;exact concat_meets #[_,ho,rfl] #[_,ho2,rfl] noFill_tuple_add seq_tuple_add B1 Bz (A6 _ _)
   (tuple_addW0 a b ([].toArray) iE.toArray n n2 dd dd2 sl sl2 ⋯) #[ho,ho2,#[.ref b,H,I,rfl,q0 rfl]]
 . exact Lc ah s Y H (.ref a) (.ref b) v u Q I rx ry #[a,b,xs,ys,rfl,rfl,ha,hb,hx,hz,q1 hx,q2 hx]
theorem LW(hK:z.K=X.K)(h:l.length+m.length<=16777216):lH X z (binaryOp .Add) (.tup l) (.tup m) (.dat (.tup (l++m))):=by
 refine#[_,Gb,λg Y As M H v1 v2 Q s q1 q2 kk=>?_]
 obtain⟨a,xs,rfl,ha,ra⟩:=q1.tup;obtain⟨b,ys,rfl,hb,rb⟩:=q2.tup;have la:=ra.length;have lb:=rb.length;refine#[a,b,xs,ys,rfl,rfl,hK▸ha.sq,hK▸hb.sq,by rw[<- la,<- lb];exact gw h,λe=>?_,λe1 e2=>?_,λe1 e2 p hp=>?_]
 .
  subst e;cases l with
  |nil=>exact kk _ H As M s (aq.refl _ _) (.tup hb rb)
  |cons _ _=>simp at la
 .
  subst e2;cases m with
  |nil=>rw[oD]at kk;exact kk _ H As M s (aq.refl _ _) (.tup ha ra)
  |cons _ _=>simp at lb
 . exact kk _ _ As M (s.laid hp) (aq.laid hp) (.tup (.inl #[s.fresh hp,.inl az]) ((ra.append rb).stay (aq.laid hp)))
theorem nj{K:Frag}{M:List Addr}{H:Hp}{l:List D}{xs:List V}{i:Int}{d:D}(r:aD K M H l xs)(h:g9 l i=!d):∃v,g9 xs i=!v/\Rep K M H d v:=by
 unfold g9 at h ⊢
 rw[<- r.length];cases e:xD l.length i with
 |none=>rw[e]at h;symm
 |some j=>rw[e]at h;have h':=h;obtain⟨v,h1,h2⟩:=r.get h';exact#[v,h1,h2]
theorem T8{l:List D}{i:Int}{d:D}(hK:z.K=X.K)(h:g9 l i=!d):XH X z (.lst l) (.int i) (.dat d):=by
 refine#[_,sr,λg Y As M H v1 v2 Q s q1 q2 kk=>?_]
 obtain⟨a,xs,rfl,ha,ra⟩:=q1.list;obtain⟨v,e,r⟩:=nj ra h;exact#[a,xs,i,v,rfl,q2.int,cu.of ha,e,kk _ H As M s (aq.refl _ _) r]
theorem T9{l:List D}{i:Int}{d:D}(hK:z.K=X.K)(h:g9 l i=!d):XH X z (.fix l) (.int i) (.dat d):=by
 refine#[_,sr,λg Y As M H v1 v2 Q s q1 q2 kk=>?_]
 obtain⟨a,xs,rfl,ha,ra⟩:=q1.fix;obtain⟨v,e,r⟩:=nj ra h;exact#[a,xs,i,v,rfl,q2.int,hK▸ha.sq,e,kk _ H As M s (aq.refl _ _) r]
theorem L0{l:List D}{i:Int}{d:D}(hK:z.K=X.K)(h:g9 l i=!d):XH X z (.tup l) (.int i) (.dat d):=by
 refine#[_,Sy,λg Y As M H v1 v2 Q s q1 q2 kk=>?_]
 obtain⟨a,xs,rfl,ha,ra⟩:=q1.tup;obtain⟨v,e,r⟩:=nj ra h;exact#[a,xs,i,v,rfl,q2.int,hK▸ha.sq,e,kk _ H As M s (aq.refl _ _) r]
noncomputable def aQ:List D->Option (~~~0)
 | []=>![]
 |.int i::l=>match aQ l with |some ns=>!(i::ns) |none=>none
 |_::_=>none
theorem bB{K:Frag}{M:List Addr}{H:Hp}{l:List D}{xs:List V}{ns: ~~~0}(q:aD K M H l xs)(e:aQ l=!ns):xs=ns.map V.int:=by
 induction l generalizing xs ns with
 |nil=>cases q;cases e;rfl
 |cons d l ih=>cases q with |cons r q=>cases d with
  |int i=>
   have e:(match aQ l with |some ns=>!(i::ns) |none=>none)=!ns:=e
   cases e2:aQ l with
   |none=>rw[e2]at e;cases e
   |some ns=>rw[e2]at e;cases e;cases r;rw[List.map_cons,ih q e2]
  |_=>cases e
theorem Ua{l m:List D}{ns ms: ~~~0}(hK:z.K=X.K)(hu:X.A.units<cLine)(h1:aQ l=!ns)(h2:aQ m=!ms):lH X z (compareOp .Lt) (.tup l) (.tup m) (.dat (.bl (HT.lexLt ns ms))):=by
 refine#[_,Sx hu,λg Y As M H v1 v2 Q s q1 q2 kk=>?_]
 obtain⟨a,xs,rfl,ha,ra⟩:=q1.tup;obtain⟨b,ys,rfl,hb,rb⟩:=q2.tup;have e1:=bB ra h1;have e2:=bB rb h2;subst e1 e2;exact#[a,b,ns,ms,rfl,rfl,hK▸ha.sq,hK▸hb.sq,kk _ H As M s (aq.refl _ _) (.bl _)]
theorem Ub:UnD X z (unaryOp .USub) (.int i) (.dat (.int (-i))):=#[_,Sh,λg Y As M H v Q s p k=>#[i,p.int,k _ H As M s (aq.refl _ _) (.int _)]]
end
section
theorem LK.one{K:Frag}{M:List Addr}{H:Hp}{d:D}{vs:List V}(h:LK K M H [d] vs):∃v,vs=[v]/\Pk K M H d v:=by cases h with |cons p q=>cases q;exact#[_,rfl,p]
theorem LK.two{K:Frag}{M:List Addr}{H:Hp}{d e:D}{vs:List V}(h:LK K M H [d,e] vs):∃v w,vs=[v,w]/\Pk K M H d v/\Pk K M H e w:=by cases h with |cons p q=>cases q with |cons p' q'=>cases q';exact#[_,_,rfl,p,p']
noncomputable def Zv:D->Option Nat
 |.lst l=>!l.length
 |.tup l=>!l.length
 |.fix l=>!l.length
 |_=>none
theorem Uc{d:D}{n:Nat}(hK:z.K=X.K)(h:Zv d=!n):CallD X z (.builtin "len") [d] ‹n›:=by
 refine#[_,Fd,λg Y As M H vs Q s p k=>?_]
 obtain⟨v,rfl,pv⟩:=p.one;refine#[v,n,rfl,?_,k _ H As M s (aq.refl _ _) (.int _)];cases d with
 |lst l=>symm;obtain⟨a,xs,rfl,ha,r⟩:=pv.list;exact .inl #[xs,cu.of ha,r.length]
 |fix l=>symm;obtain⟨a,xs,rfl,ha,r⟩:=pv.fix;exact .inl #[xs,hK▸ha.sq,r.length]
 |tup l=>symm;obtain⟨a,xs,rfl,ha,r⟩:=pv.tup;exact .inr #[xs,hK▸ha.sq,r.length]
 |_=>symm
theorem L1{d:D}{l:List D}(hK:z.K=X.K)(h:cJ d=!l):CallD X z (.type "list") [d] (.new l):=by
 refine#[_,sA,λg Y As M H vs Q s p k=>?_]
 obtain⟨v,rfl,pv⟩:=p.one;have fin:∀xs,aD z.K M H l xs->∀p,H p=none->Q (.ref p) (upd H p (.lst xs)):=λxs r p hp=>
  k _ _ As (p::M) (s.aO hp) (aq.aO hp) #[p,xs,rfl,b0,λhA=>s.fresh hp (s.sub p hA),s.bY hp,az,r.stay (aq.aO hp)]
 cases d with
 |lst m=>symm;obtain⟨a,xs,rfl,ha,r⟩:=pv.list;exact#[a,xs,rfl,.inl (cu.of ha),fin xs r]
 |fix m=>symm;obtain⟨a,xs,rfl,ha,r⟩:=pv.fix;exact#[a,xs,rfl,.inl (hK▸ha.sq),fin xs r]
 |tup m=>symm;obtain⟨a,xs,rfl,ha,r⟩:=pv.tup;exact#[a,xs,rfl,.inr (hK▸ha.sq),fin xs r]
 |_=>symm
theorem Gd{d:D}{l:List D}(hK:z.K=X.K)(h:cJ d=!l):CallD X z (.type "tuple") [d] (.dat (.tup l)):=by
 refine#[_,pH,λg Y As M H vs Q s p k=>?_]
 obtain⟨v,rfl,pv⟩:=p.one;have fin:∀xs,aD z.K M H l xs->∀p,H p=none->Q (.ref p) (upd H p (.tup xs)):=λxs r p hp=>
  k _ _ As M (s.laid hp) (aq.laid hp) (.tup (.inl #[s.fresh hp,.inl az]) (r.stay (aq.laid hp)))
 cases d with
 |lst m=>symm;obtain⟨a,xs,rfl,ha,r⟩:=pv.list;exact#[a,xs,rfl,.inl #[cu.of ha,fin xs r]]
 |fix m=>symm;obtain⟨a,xs,rfl,ha,r⟩:=pv.fix;exact#[a,xs,rfl,.inl #[hK▸ha.sq,fin xs r]]
 |tup m=>symm;obtain⟨a,xs,rfl,ha,r⟩:=pv.tup;exact#[a,xs,rfl,.inr #[hK▸ha.sq,k _ H As M s (aq.refl _ _) (.tup ha r)]]
 |_=>symm
theorem Ud{i j:Int}(hc:X.calm=true):CallD X z (.builtin "max") [.int i,.int j] (.dat (.int (if j > i then j else i))):=by
 refine#[_,Bg hc,λg Y As M H vs Q s p k=>?_]
 obtain⟨v,w,rfl,p1,p2⟩:=p.two;exact#[i,j,by rw[p1.int,p2.int],k _ H As M s (aq.refl _ _) (.int _)]
theorem Ue{i j:Int}(hc:X.calm=true):CallD X z (.builtin "min") [.int i,.int j] (.dat (.int (if j<i then j else i))):=by
 refine#[_,Bh hc,λg Y As M H vs Q s p k=>?_]
 obtain⟨v,w,rfl,p1,p2⟩:=p.two;exact#[i,j,by rw[p1.int,p2.int],k _ H As M s (aq.refl _ _) (.int _)]
end
section
theorem nk(hc:X.calm=true):cF X (.builtin "all") (λxs H Q=>∃(p:Addr) (bs:List Bool),xs=[.ref p]/\cu X.K H p (bs.map V.bl)/\Q (.bl (bs.all id)) H):=by
 intro ah s Y H xs us Q I r h;obtain⟨p,bs,rfl,hp,q⟩:=h;obtain⟨u,rfl,rx⟩:=vals1 r;cases rx;obtain⟨its,rv,pl,hz⟩:=I.list hp;have hlt:p<s⁻¹:=by obtain⟨_,e,_⟩:=pl.isList;exact dS e
 have aH:its.length=bs.length:=by rw[<- rv.length,eA]
 have up:∀b o,s.heap.get? b=!o->(s.heap.push { cls:=.type "list_iterator",data:=.fields ([.ref p,.int 0 0].toArray)}).get? b=!o:=λb o e=>a9 _ e
 refine call_all_walk (AH pl.isList ?_);refine#[s⁻¹,_,_,_,_,_,λi=>bs.getD i true,rfl,Walks.list (show X.A.in1.handled=none from I.ok.hd hc) s⁻¹ p (fA hlt) its.toArray,#[#[_,dC _ rfl,rfl,rfl],pl.isList.push _],?_,λh' tk hk=>?_]
 .
  intro i v s' Q' E' hv hq;have hv':its[i]?=!v:=by simpa using hv
  have hi:i<bs.length:=by rw[<- aH];exact (c8.mp hv').1
  obtain⟨w,e1,e2⟩:=rv.get (i:=i) (x:=V.bl bs[i]) (by simp[hi])
  rw[hv']at e1;cases e1;cases e2;refine nV ?_;have:bs.getD i true=bs[i]:=by simp[hi]
  rw[<- this];exact hq
 .
  have I1:L2.Inv X ah Y H { s with heap:=h',toks:=tk}:=I.kept λb o e=>hk b o (λhm=>by
   have:b=s⁻¹:=by simpa using hm
   exact absurd (dS e) (by rw[this];exact nN _)) (up b o e)
  refine#[.bl (bs.all id),H,I1,?_,q];have e:(List.range its.toArray.size).all (λi=>bs.getD i true)=bs.all id:=by
   rw[b8,aH];rw[Bool.eq_iff_iff];simp only[eC,yB];constructor
   . intro h b hb;obtain⟨j,hj⟩:=List.getElem?_of_mem hb;have hj':=(c8.mp hj).1;have:=h j hj';simpa [List.getD,hj]using this
   . intro h i hi;have:=h bs[i] (List.getElem_mem hi);simpa [List.getD,hi]using this
  rw[e];rfl
noncomputable def uT:List D->Option (List Bool)
 | []=>![]
 |.bl b::l=>match uT l with |some bs=>!(b::bs) |none=>none
 |_::_=>none
theorem Ge{K:Frag}{M:List Addr}{H:Hp}{l:List D}{xs:List V}{ns:List Bool}(q:aD K M H l xs)(e:uT l=!ns):xs=ns.map V.bl:=by
 induction l generalizing xs ns with
 |nil=>cases q;cases e;rfl
 |cons d l ih=>cases q with |cons r q=>cases d with
  |bl i=>
   have e:(match uT l with |some ns=>!(i::ns) |none=>none)=!ns:=e
   cases e2:uT l with
   |none=>rw[e2]at e;cases e
   |some ns=>rw[e2]at e;cases e;cases r;rw[List.map_cons,ih q e2]
  |_=>cases e
theorem Ug{l:List D}{bs:List Bool}(hc:X.calm=true)(h:uT l=!bs):CallD X z (.builtin "all") [.lst l] (.dat (.bl (bs.all id))):=by
 refine#[_,nk hc,λg Y As M H vs Q s p k=>?_]
 obtain⟨v,rfl,pv⟩:=p.one;obtain⟨a,xs,rfl,ha,r⟩:=pv.list;have e:=Ge r h;subst e;exact#[a,bs,rfl,cu.of ha,k _ H As M s (aq.refl _ _) (.bl _)]
end
noncomputable def qo:D->String
 |.non=> "NoneType" |.bl _=> "bool" |.int _=> "int" |.str _=> "str" |.tup _=> "tuple" |.lst _=> "list" |.fix _=> "list" |.emp _=> "dict" |.lG _=> "" |.uo ..=> "dict"
def Ec:D->Value
 |.lG C=>.ref C
 |d=>.type (qo d)
theorem Bv{M:Model}{A:Around}{E:Value->Shared->Prop}{K:Frag}{x C:Addr}{ox:Obj}{nv:Value}{Q:Unit->Shared->Prop}{s:Shared}(X:K.In s.heap)(I:PySem.W.InstAt s.heap x ox C none)(hb:PySem.W.mroIn K C (.type "BaseException")=!true)(hq:Q () s) :
  wpAny M A (checkBuiltinCall "BaseException.__getattribute__" #[[.ref x,nv],[]]) Q E s:=by
 have kd:builtinKind "BaseException.__getattribute__"=some .slot:=by decide +kernel
 have sd:splitId "BaseException.__getattribute__"=!("BaseException", "__getattribute__"):=by decide +kernel
 obtain⟨hv,ge,dr,tk,o'⟩:=s;have l0:=I.type (M:=M);have l1:=PySem.W.looks_mroIn (M:=M) X hb;simp only[checkBuiltinCall];refine aS (aS (l0.at (l1.at ?_)))
 repeat (any_goals (first |assumption |wp_step))
theorem Gf{prog:Program}{w:World}{A:Around}{E:Value->Shared->Prop}{K:Frag}{x C:Addr}{ox:Obj}{name:Str}{g a:Value}{Q:Option Value->Shared->Prop}{s:Shared}(X:K.In s.heap)(I:PySem.W.InstAt s.heap x ox C none)
  (hga:PySem.W.findIn K (.ref C) "__getattribute__"=!(!(.builtin "BaseException.__getattribute__"))) (hk:PySem.W.findIn K (.ref C) "__getattr__"=!none) (hb:PySem.W.mroIn K C (.type "BaseException")=!true) (hf:PySem.W.findObj K C none name=!(.bind g a))
  (h:wpAny (model prog w) A.in1 (call g [a,.ref x,.ref C]) (λv s'=>wpAny (model prog w) A (handedOut v) (λv s''=>Q (!v) s'') (λ_ _=>False) s') (λ_ _=>False) { s with toks:=s.toks+1}) :
  wpAny (model prog w) A (getAttr? (.ref x) name) Q E s:=by
 obtain⟨hv,ge,dr,tk,o'⟩:=s;have l0:=I.type (M:=model prog w);have l1:=PySem.W.looks_findIn (M:=model prog w) X hga;have l2:=PySem.W.looks_findIn (M:=model prog w) X hk;have l3:=PySem.W.looks_find (M:=model prog w) X I hf;have f3:=F.excAttr_ValueError.ga.bind (.ref x);refine aS (wpAny_mkText (aS (BA (hU (aS (l0.at (aS (l1.at ?_))))))));refine aS (l2.at (aS (BA (hU ?_))));show wpAny _ _ (boundAndCalled _ _ _) _ _ _;unfold boundAndCalled;refine aS (a8 (CS (codeAny_call_builtin F.excAttr_ValueError.ga.plain F.entry_bexc_ga (Bv X I hb ?_))));refine aS (a8 (aS (a8 (aS (l0.at (aS (l3.at ?_)))))));refine aS (hU (i7 h (λv s' z=>a8 ?_) λ_ _ z=>z.elim))
 exact i7 z (λv s'' hv=>a8 hv) (λ_ _ z=>z.elim)
theorem jW{K:Frag}{C:Addr}(k:Fy K C):∃c d cd sl,K.lookup C=!#[c,d,.cls cd,sl]/\PySem.W.clsIn K C=!cd:=by
 obtain⟨cd,hc,_⟩:=PySem.W.any_some k.dct;have hc':=hc;unfold PySem.W.clsIn at hc;split at hc
 . rename_i c d cd' sl ho;cases hc;exact#[c,d,cd,sl,ho,hc']
 . cases hc
theorem uU{K:Frag}{x C:Addr}(k:Fy K C):PySem.W.KitX K (.ref x) (.ref C) (λh=>∃ox,PySem.W.InstAt h x ox C none) where
 ty:=by rintro _ _ _ ⟨_,I⟩;exact I.type
 it:=λ_ _ X _=>by
  obtain⟨c,d,cd,sl,ho,_⟩:=jW k;intro A' Q' E' s' kp q;refine aS ?_;refine wpAny_loadPart (kp _ _ (X _ _ ho)) ?_;exact a8 q
 ne:=λh tp dd its n sl X htp=>by
  obtain⟨c,d,cd,sl',ho,_⟩:=jW k;cases q:(Value.ref C==Value.ref tp)with
  |false=>rfl
  |true=>have e:=Value.ref.inj (beq_iff_eq.mp q);subst e;have y:=(X _ _ ho).symm.trans htp;cases y
 ca:=λ{prog w A E Q s} X #[ox,I] h=>by
  obtain⟨_,_,cd,_,_,hc⟩:=jW k;have hf:PySem.W.findObj K C none "__class__"=!(.bind (.builtin "getset_descriptor.__get__") (.builtin "object.__class__")):=by unfold PySem.W.findObj;rw[hc,k.cls];simp[k.spc,k.tks]
  refine Gf X I k.gga k.gat k.bas hf (CS ?_);exact PySem.W.class_get X I k.mro (PySem.W.handed_on rfl h)
section
theorem Gg(I:L2.Inv X ah Y H s)(p:Pk X.K M H d v)(r:RelV v u)
  (e:PySem.W.kitOne X.K (Ec d) c=!b) (h:∀tk,Q (.bool b) { s with toks:=tk}):wpAny (~~~2) A (call (.builtin "isinstance") [u,c]) Q E s:=by
 cases d with
 |non=>have q:=p.non;subst q;cases r;exact tS PySem.W.kitx_none I.mG True.intro e (λz=>nomatch z) h
 |bl y=>have q:=p.bl;subst q;cases r;exact tS PySem.W.kitx_bool I.mG True.intro e (λz=>nomatch z) h
 |int i=>have q:=p.int;subst q;obtain⟨t,rfl⟩:=r;exact tS PySem.W.kitx_int I.mG True.intro e (λz=>nomatch z) h
 |str y=>have q:=p.str;subst q;obtain⟨t,rfl⟩:=r;exact tS PySem.W.kitx_str I.mG True.intro e (λz=>nomatch z) h
 |tup l=>obtain⟨a,xs,rfl,ha,_⟩:=p.tup;cases r;obtain⟨its,_,⟨o,h1,h2,_⟩,_⟩:=I.tuple ha.sq;exact tS PySem.W.kitx_tuple I.mG #[o,h1,h2] e (λz=>nomatch z) h
 |lst l=>obtain⟨a,xs,rfl,ha,_⟩:=p.list;cases r;obtain⟨its,_,pl,_⟩:=I.list (cu.of ha);obtain⟨o,h1,h2,_⟩:=pl.isList;exact tS B3 I.mG #[o,h1,h2] e (λz=>nomatch z) h
 |fix l=>obtain⟨a,xs,rfl,ha,_⟩:=p.fix;cases r;obtain⟨its,_,pl,_⟩:=I.list ha.sq;obtain⟨o,h1,h2,_⟩:=pl.isList;exact tS B3 I.mG #[o,h1,h2] e (λz=>nomatch z) h
 |emp m=>
  cases p with
  |of q=>
   cases q with
   |emp _ ha=>cases r;obtain⟨_,_,_,vs,_,o,es,ep,h1,h2,_⟩:=I.hok _ _ ha;exact tS B4 I.mG #[o,h1,h2.1] e (λz=>nomatch z) h
 |lG C=>
  cases p with
  |of q=>
   cases q with
   |lG k _ ha=>cases r;obtain⟨⟨o,h1,h2,h3,h4⟩,_⟩:=I.hok _ _ ha;exact tS (uU k) I.mG #[o,h1,h2,h3,by rw[h4];trivial] e (λz=>nomatch z) h
 |uo ks ds=>
  cases p with
  |of q=>
   cases q with
   |uo _ ha _ _=>cases r;obtain⟨_,_,vs,_,o,es,ep,h1,h2,_⟩:=I.hok _ _ ha;exact tS B4 I.mG #[o,h1,h2.1] e (λz=>nomatch z) h
theorem Gh:cF X (.builtin "isinstance") (λxs H Q=>∃x n M d b,xs=[x,.ty n]/\Pk X.K M H d x/\PySem.W.kitOne X.K (Ec d) (.type n)=!b/\Q (.bl b) H):=by intro ah s Y H xs us Q I r h;obtain⟨x,n,M,d,b,rfl,p,e,q⟩:=h;obtain⟨u,w',rfl,r1,r2⟩:=vals2 r;cases r2;exact Gg I p r1 e λtk=>#[.bl b,H,I.tok tk,rfl,q]
theorem Uh(hK:z.K=X.K)(h:aA X z a g r1 g1)(hp:pk r1 g1=!d)(he:∀M H v,Pk X.K M H d v->PySem.W.kitOne X.K (Ec d) (.type n)=!b)
  (hg:Gl X "isinstance") (hm:X.mg "isinstance"=none) (hv:bootBuiltins "isinstance"=!(.builtin "isinstance")) (gT:Gl X T) (mT:X.mg T=none) (vT:bootBuiltins T=!(.type n)) (nT:T≠ "__name__") (dT:(T==(~~~3))=false)
  (hs:starEach [a,.Name T pT] X.env=(false,eval a X.env)::starEach [.Name T pT] X.env):aA X z (.Call (.Name "isinstance" p) [a,.Name T pT] [] pos) g (.dat (.bl b)) g1:=by
 obtain⟨t,q,k⟩:=h;have pT':PE X (.Name T pT) (tC (.ty n)):=rT gT mT vT rfl nT dT;refine#[_,gj Gh hg hm hv (bA q (bA pT' fF) hs) ⋯ ⋯ hs,λY As M H Q s kk=>k Y As M H _ s λv H' aB M' s' st R=>?_]
 have p:=hK▸s'.pk (aq.refl _ _) R hp;exact#[v,n,M',d,b,rfl,p,he _ _ _ p,kk _ H' aB M' s' st (.bl b)]
end
inductive Fl where
 |nx |rt (r:R) |bk |ct
def qq(z:Z)(M:List Addr)(H:Hp)(E:Ends)(g':G):Fl->Prop
 |.nx=>∀σ' aB M' H',S z g' σ' aB M' H'->aq M H M' H'->E.nx σ' H'
 |.bk=>∀σ' aB M' H',S z g' σ' aB M' H'->aq M H M' H'->E.bk σ' H'
 |.ct=>∀σ' aB M' H',S z g' σ' aB M' H'->aq M H M' H'->E.ct σ' H'
 |.rt r=>∀v σ' aB M' H',S z g' σ' aB M' H'->aq M H M' H'->cA z g' σ' aB M' H' r v->E.rt v H'
def eF(X:Cx)(z:Z)(st:Stmt)(g:G)(f:Fl)(g':G):Prop:=
 ∃t,PS X st t/\∀Y As M H E,S z g Y As M H->qq z M H E g' f->t E Y H
def dG(X:Cx)(z:Z)(d8:List Stmt)(g:G)(f:Fl)(g':G):Prop:=
 ∃t,pZ X d8 t/\∀Y As M H E,S z g Y As M H->qq z M H E g' f->t E Y H
section
variable{st:Stmt}
theorem qq.trans(st:aq M H M1 H1)(h:qq z M H E g' f):qq z M1 H1 E g' f:=by
 cases f with
 |nx=>exact λσ' aB M' H' s' st'=>h σ' aB M' H' s' (st.trans st')
 |bk=>exact λσ' aB M' H' s' st'=>h σ' aB M' H' s' (st.trans st')
 |ct=>exact λσ' aB M' H' s' st'=>h σ' aB M' H' s' (st.trans st')
 |rt r=>exact λv σ' aB M' H' s' st' R=>h v σ' aB M' H' s' (st.trans st') R
theorem Ui:dG X z [] g .nx g:=#[_,za,λY As M H E s k=>k Y As M H s (aq.refl _ _)]
theorem L5(h1:eF X z st g .nx g1)(h2:dG X z d8 g1 f g2):dG X z (st::d8) g f g2:=by obtain⟨t1,q1,k1⟩:=h1;obtain⟨t2,q2,k2⟩:=h2;exact#[_,cS q1 q2,λY As M H E s k=>k1 Y As M H _ s λσ' aB M' H' s' st'=>k2 σ' aB M' H' E s' (k.trans st')]
theorem Uj(h1:eF X z st g (.rt r) g1):dG X z (st::d8) g (.rt r) g1:=by obtain⟨t1,q1,k1⟩:=h1;exact#[_,cS q1 bu,λY As M H E s k=>k1 Y As M H _ s k]
theorem Uk(h1:eF X z st g .bk g1):dG X z (st::d8) g .bk g1:=by obtain⟨t1,q1,k1⟩:=h1;exact#[_,cS q1 bu,λY As M H E s k=>k1 Y As M H _ s k]
theorem Ul(h1:eF X z st g .ct g1):dG X z (st::d8) g .ct g1:=by obtain⟨t1,q1,k1⟩:=h1;exact#[_,cS q1 bu,λY As M H E s k=>k1 Y As M H _ s k]
theorem Um(h:aA X z e g r g1):eF X z (.Return (!e) pos) g (.rt r) g1:=by obtain⟨t,q,k⟩:=h;exact#[_,rX q,λY As M H E s kk=>k Y As M H _ s λv H' aB M' s' st R=>kk v Y aB M' H' s' st R]
theorem L7(h:aA X z e g r g1)(hs:swapsWith e none pos.line X.env=pure false):eF X z (.Expr e pos) g .nx g1:=by obtain⟨t,q,k⟩:=h;exact#[_,lP q hs,λY As M H E s kk=>k Y As M H _ s λv H' aB M' s' st R=>kk Y aB M' H' s' st]
theorem QT(h:bN X z c g v g1)(h2:dG X z (if v then a else b) g1 f g2):eF X z (.If c a b pos) g f g2:=by
 obtain⟨t,q,k⟩:=h;obtain⟨t2,q2,k2⟩:=h2;cases v with
 |true=>exact#[_,uE q q2 bu,λY As M H E s kk=>k Y As M H _ s λH' aB M' s' st=>iN (k2 Y aB M' H' E s' (kk.trans st))]
 |false=>exact#[_,uE q bu q2,λY As M H E s kk=>k Y As M H _ s λH' aB M' s' st=>lF (k2 Y aB M' H' E s' (kk.trans st))]
theorem L8(hN:X.N.Nodup)(hi:X.N[i]?=!x)(hx:Loc X.env.scope x)(h:aA X z e g (.dat d) g1)(hs:swapsWith e (!(.Name x pos')) pos.line X.env=pure false)(hf:X.fn x=true\/X.env.scope.names.lookup x=some .local)(hb:i∉z.bor) :
  eF X z (.Assign [.Name x pos'] e pos) g .nx (g1.set i (.dat d)):=by
 obtain⟨t,q,k⟩:=h;refine#[_,fZ hN hi hx q hs hf,λY As M H E s kk=>k Y As M H _ s λv H' aB M' s' st R=>?_]
 obtain⟨aL,s2⟩:=s'.ez hb R;exact kk _ aL M' H' s2 st
theorem Ma(hN:X.N.Nodup)(hi:X.N[i]?=!x)(hx:Loc X.env.scope x)(h:aA X z e g (.new l) g1)(hl:i<g1.length)(hs:swapsWith e (!(.Name x pos')) pos.line X.env=pure false)(hf:X.fn x=true\/X.env.scope.names.lookup x=some .local)(hb:i∉z.bor) :
  eF X z (.Assign [.Name x pos'] e pos) g .nx (g1.set i (.own l)):=by
 obtain⟨t,q,k⟩:=h;refine#[_,fZ hN hi hx q hs hf,λY As M H E s kk=>k Y As M H _ s λv H' aB M' s' st R=>?_]
 obtain⟨a,xs,rfl,hm,hA,h0,ha,rr⟩:=R;obtain⟨aL,s2⟩:=s'.jV hb hl hm hA h0 ha rr;exact kk _ aL M' H' s2 st
end
def tAny(X:Cx)(d8:List Stmt):TS:=λE Y H=>∃t,pZ X d8 t/\t E Y H
theorem lU{X:Cx}{d8:List Stmt}:pZ X d8 (tAny X d8):=λah s Y H E I h=>let #[t,q,k]:=h;q ah s Y H E I k
section
theorem drop_cons{α:Type}{l:List α}{n:Nat}{a:α}(h:l[n]?=!a):l.drop n=a::l.drop (n+1):=by obtain⟨h1,h2⟩:=c8.mp h;rw[List.drop_eq_getElem_cons h1,h2]
end
noncomputable def dR(lo:Int)(n:Nat):List D:=(List.range n).map λ(k:Nat)=>D.int (lo+(k:Int))
section
theorem Gi{lo:Int}{n k:Nat}(h:k<n):(dR lo n)[k]?=!(.int (lo+(k:Int))):=by unfold dR;rw[oI,List.getElem?_range h];rfl
theorem uV{lo:Int}{n:Nat}:(dR lo n).length=n:=by unfold dR;simp
theorem Bw(h:bO X z [a] g [‹j›] g1)(hg:Gl X "range")(hm:X.mg "range"=none)(hs:starEach [a] X.env=[(false,eval a X.env)])(h1 : -(2 ^ 62)<=j)(h2:j<2 ^ 62) :
  ∃wi,PI X tg (.Call (.Name "range" p) [a] [] rp) wi/\∀Y As M H (Q:It->Hp->Prop),S z g Y As M H->(∀H' aB M',S z g1 Y aB M' H'->aq M H M' H'->Q (R3 0 j.toNat) H')->wi Y H Q:=by
 obtain⟨t,q,k⟩:=h;refine#[_,Bd hg hm q hs,λY As M H Q s kk=>k Y As M H _ s λvs H' aB M' s' st R=>?_]
 cases R with
 |dat r R=>cases R;cases r;exact#[j,rfl,h1,h2,kk H' aB M' s' st]
theorem Bx(h:bO X z [a,b] g [‹c›,‹j›] g1)(hg:Gl X "range")(hm:X.mg "range"=none)(hs:starEach [a,b] X.env=[(false,eval a X.env),(false,eval b X.env)])(hs2:starEach [b] X.env=[(false,eval b X.env)])
  (h1 : -(2 ^ 62)<=c/\c<2 ^ 62/\-(2 ^ 62)<=j/\j<2 ^ 62) {tg:Expr} :
  ∃wi,PI X tg (.Call (.Name "range" p) [a,b] [] rp) wi/\∀Y As M H (Q:It->Hp->Prop),S z g Y As M H->(∀H' aB M',S z g1 Y aB M' H'->aq M H M' H'->Q (R3 c (j - c).toNat) H')->wi Y H Q:=by
 obtain⟨t,q,k⟩:=h;refine#[_,Be hg hm q hs hs2,λY As M H Q s kk=>k Y As M H _ s λvs H' aB M' s' st R=>?_]
 cases R with
 |dat r R=>cases R with |dat r2 R=>cases R;cases r;cases r2;exact#[c,j,rfl,h1,kk H' aB M' s' st]
end
section
theorem By(hN:X.N[i]?=!x)(hv:um X.env.scope x)(hd:(x==(~~~3))=false)(bU:(x==("__classdict__":Str))=false)(hg:g[i]?=!(.own l0))(h:bO X z [e] g [.dat d] g1)(uq:g1[i]?=!(.own l))(hl:l.length<16777216)
  (hbase:attributeBase (.Name x pn) "append" X.env (eval (.Name x pn) X.env)=eval (.Name x pn) X.env)
  (hline:(cM.endLine==bT.line)=true) (hs:starEach [e] X.env=(false,eval e X.env)::starEach [] X.env):aA X z (.Call (.Attribute (.Name x pn) "append" cM) [e] [] bT) g (.dat .non) (g1.set i (.own (l++[d]))):=by
 obtain⟨t,q,k⟩:=h;refine#[_,zq BB PySem.F.slot_list_append PySem.F.type_list_append qi (fY hN hv hd bU) q hbase (by rw[hs];rfl) hline hs rfl,λY As M H Q s kk=>?_]
 obtain⟨a,xs,e1,e2,e3,e4⟩:=s.sl.at hg;refine#[.ref a,e1,.inl #[rfl,xs,cu.of e3],k Y As M H _ s λvs H' aB M' s' st R=>?_]
 obtain⟨b,ys,f1,f2,f3,f4⟩:=s'.sl.at uq;rw[e1]at f1;injection f1 with f1;injection f1 with f1;injection f1 with f1;subst f1;cases R with
 |dat r R=>
  cases R;refine#[a,ys,_,rfl,rfl,f3,by rw[<- f4.length];exact hl,?_]
  obtain⟨s2,aG⟩:=s'.write uq e1 (f4.append (.cons r .nil));exact kk _ _ aB M' s2 (st.trans aG) .non
end
section
theorem Mf(hN:X.N[i]?=!x)(hv:um X.env.scope x)(hd:(x==(~~~3))=false)(bU:(x==("__classdict__":Str))=false)(h:aA X z e g (.dat d) g1)(uq:g1[i]?=!(.own l0))(h2:aA X z ix g1 ‹k› g2)(hg2:g2[i]?=!(.own l))(hj:xD l.length k=!j)
  (ha:∀v,assign (.Subscript (.Name x pn) ix eO) X.env v=(do
   let ov <- holding [v] (eval (.Name x pn) X.env)
   let iv <- holding [v,ov] (eval ix X.env)
   standAt eO
   holding [v,ov,iv] (setItem ov iv v)
   release [v,ov,iv] []))
  (hs:swapsWithSole [.Subscript (.Name x pn) ix eO] e pos.line X.env=pure false) (hw:swappedStores [.Subscript (.Name x pn) ix eO] e X.env=pure none)
  (h1:(assignEach [.Subscript (.Name x pn) ix eO] X.env).map (·.2)=[assign (.Subscript (.Name x pn) ix eO) X.env]) :
  eF X z (.Assign [.Subscript (.Name x pn) ix eO] e pos) g .nx (g2.set i (.own (l.set j d))):=by
 obtain⟨t,q,kk⟩:=h;obtain⟨t2,q2,k2⟩:=h2;refine#[_,RX q (RW (fY hN hv hd bU) q2 set_list ha) hs hw h1,λY As M H E s kE=>kk Y As M H _ s λv H1 aI M1 s1 cN R1=>?_]
 obtain⟨a,xs,e1,e2,e3,e4⟩:=s1.sl.at uq;refine#[.ref a,e1,k2 Y aI M1 H1 _ s1 λw H2 aL M2 s2 aG R2=>?_]
 obtain⟨b,ys,f1,f2,f3,f4⟩:=s2.sl.at hg2;rw[e1]at f1;injection f1 with f1;injection f1 with f1;injection f1 with f1;subst f1;have R2':=R2;cases R2';refine#[a,ys,k,j,rfl,rfl,f3,by rw[<- f4.length];exact hj,?_]
 obtain⟨s3,cY⟩:=s2.write hg2 e1 (aD.set (Rep.stay aG R1) j f4);exact kE Y aL M2 _ s3 (cN.trans (aG.trans cY))
theorem aD.eraseIdx{K:Frag}{M:List Addr}{H:Hp}:∀{ds:List D}{vs:List V} (n:Nat),aD K M H ds vs->aD K M H (ds.eraseIdx n) (vs.eraseIdx n)
 |_,_,_,.nil=>.nil
 |_,_,0,.cons _ t=>t
 |_,_,n+1,.cons r t=>.cons r (aD.eraseIdx n t)
theorem Gj(hN:X.N[i]?=!x)(hv:um X.env.scope x)(hd:(x==(~~~3))=false)(bU:(x==("__classdict__":Str))=false)(hg:g[i]?=!(.own l0))(h:bO X z [e] g [‹k›] g1)(uq:g1[i]?=!(.own l))(hk:xD l.length k=!j)(hy:l[j]?=!d)(hl:l.length<16777216)
  (hbase:attributeBase (.Name x pn) "pop" X.env (eval (.Name x pn) X.env)=eval (.Name x pn) X.env)
  (hline:(cM.endLine==bT.line)=true) (hs:starEach [e] X.env=(false,eval e X.env)::starEach [] X.env):aA X z (.Call (.Attribute (.Name x pn) "pop" cM) [e] [] bT) g (.dat d) (g1.set i (.own (l.eraseIdx j))):=by
 obtain⟨t,q,k0⟩:=h;refine#[_,zq BB PySem.F.slot_list_pop PySem.F.type_list_pop Fj (fY hN hv hd bU) q hbase (by rw[hs];rfl) hline hs rfl,λY As M H Q s kk=>?_]
 obtain⟨a,xs,e1,e2,e3,e4⟩:=s.sl.at hg;refine#[.ref a,e1,.inl #[rfl,xs,cu.of e3],k0 Y As M H _ s λvs H' aB M' s' st R=>?_]
 obtain⟨b,ys,f1,f2,f3,f4⟩:=s'.sl.at uq;rw[e1]at f1;injection f1 with f1;injection f1 with f1;injection f1 with f1;subst f1;cases R with
 |dat r R=>
  cases R;cases r;obtain⟨h1,h2,h3,h4⟩:=sf hk;obtain⟨v,g1',Uo⟩:=f4.get hy;obtain⟨s2,aG⟩:=s'.write uq e1 (aD.eraseIdx j f4);refine#[a,ys,k,j,v,rfl,rfl,f3,by lia,by lia,by rw[<- f4.length];exact h1,g1',?_]
  exact kk _ _ aB M' s2 (st.trans aG) (Uo.stay aG)
end
noncomputable def dz:List R->G->Option G
 | [],_=>![]
 |.dat d::rs,g=>match dz rs g with |some gs=>!(.dat d::gs) |none=>none
 |.var i::rs,g=>match g[i]? with
  |!(.own l)=>match dz rs g with |some gs=>!(.own l::gs) |none=>none
  |_=>none
 |.new _::_,_=>none
noncomputable def vars:Nat->List R->List (Nat×Nat)
 |_,[]=>[]
 |j,.var i::rs=>(j,i)::vars (j+1) rs
 |j,.dat _::rs=>vars (j+1) rs
 |j,.new _::rs=>vars (j+1) rs
noncomputable def back:List (Nat×Nat)->G->G->Option G
 | [],_,g=>!g
 | (j,i)::ps,gc,g=>match gc[j]? with
  |!(.own l)=>back ps gc (g.set i (.own l))
  |_=>none
def dj(bor:List Nat)(g':G):R->Option R
 |.dat d=>!(.dat d)
 |.new l=>!(.new l)
 |.var j=>if j∈bor then none else match g'[j]? with |!(.own l)=>!(.new l) |_=>none
noncomputable def adr(Y:Sg)(i:Nat):Addr:=match Y[i]? with |!(!(.ref a))=>a |_=>0
theorem iP(h:Y[i]?=!(!(.ref a))):adr Y i=a:=by unfold adr;rw[h]
def bM(Y:Sg)(ps:List (Nat×Nat)):List (Nat×Addr):=ps.map λp=>(p.1,adr Y p.2)
noncomputable def dU(n:Nat)(gs:G):G:=gs++List.replicate (n - gs.length) .no
theorem Slots.append{K:Frag}{M:List Addr}{H:Hp}{g1 g2:G}{σ1 σ2:Sg}{A1 A2:List Addr}(p:Slots K M H g1 σ1 A1)(q:Slots K M H g2 σ2 A2):Slots K M H (g1++g2) (σ1++σ2) (A1++A2):=by
 induction p with
 |nil=>exact q
 |no p ih=>exact .no ih
 |dat r p ih=>exact .dat r ih
 |own e r p ih=>exact .own e r ih
theorem Slots.nos{K:Frag}{M:List Addr}{H:Hp}:∀(n:Nat),Slots K M H (List.replicate n .no) (List.replicate n none) []
 | 0=>.nil
 |n+1=>by rw[y8];exact .no (Slots.nos n)
section
theorem Slots.zx{K:Frag}{g:G}{Y:Sg}{As:List Addr}{i j:Nat}{a:Addr}{l l':List D}(q:Slots K M H g Y As)(nd:As.Nodup)(e1:g[i]?=!(.own l))(e2:g[j]?=!(.own l'))(e3:Y[i]?=!(!(.ref a)))(e4:Y[j]?=!(!(.ref a))):i=j:=by
 induction q generalizing i j with
 |nil=>exact nomatch (show none=!(Slot.own l)from e1)
 |no q ih=>cases i with
  |zero=>exact nomatch (show some Slot.no=!(Slot.own l)from e1)
  |succ i=>cases j with
   |zero=>exact nomatch (show some Slot.no=!(Slot.own l')from e2)
   |succ j=>exact congrArg (· + 1) (ih nd e1 e2 e3 e4)
 |dat r q ih=>cases i with
  |zero=>exact nomatch (show some (Slot.dat _)=!(Slot.own l)from e1)
  |succ i=>cases j with
   |zero=>exact nomatch (show some (Slot.dat _)=!(Slot.own l')from e2)
   |succ j=>exact congrArg (· + 1) (ih nd e1 e2 e3 e4)
 |@own g Y As b xs ds h r q ih=>
  have no:∀{i:Nat}{l:List D},g[i]?=!(.own l)->Y[i]?=!(!(.ref a))->b=a->False:=λ{i l} e1 e3 e=>by
   obtain⟨c,xs,h1,h2,_⟩:=q.at e1;cases (show some (!(V.ref c))=!(!(V.ref a))from h1.symm.trans e3)
   exact (fR.mp nd).1 (e▸h2)
  cases i with
  |zero=>cases j with
   |zero=>rfl
   |succ j=>cases (show some (!(V.ref b))=!(!(V.ref a))from e3);exact (no e2 e4 rfl).elim
  |succ i=>cases j with
   |zero=>cases (show some (!(V.ref b))=!(!(V.ref a))from e4);exact (no e1 e3 rfl).elim
   |succ j=>exact congrArg (· + 1) (ih (fR.mp nd).2 e1 e2 e3 e4)
theorem nq(s:S z g Y As M H)(j:Nat)(q:iO z Y M H rs vs)(e:dz rs g=!gs) :
  gs.length=vs.length/\Slots z.K M H gs (vs.map some) ((bM Y (vars j rs)).map (·.2))/\
  (∀p∈bM Y (vars j rs),∃n l,p.1=j+n/\gs[n]?=!(.own l)/\vs[n]?=!(.ref p.2))/\
  (∀n l a,gs[n]?=!(.own l)->vs[n]?=!(.ref a)->(j+n,a)∈bM Y (vars j rs))/\
  (∀p∈vars j rs,∃l a,g[p.2]?=!(.own l)/\Y[p.2]?=!(!(.ref a))/\a∈As):=by
 induction q generalizing gs j with
 |nil=>cases e;exact#[rfl,.nil,(λp hp=>nomatch hp),(λn l a h=>by simp at h),(λp hp=>nomatch hp)]
 |@dat d v rs vs r q ih=>
  unfold dz at e;cases e2:dz rs g with
  |none=>rw[e2]at e;cases e
  |some gs=>
   rw[e2]at e;cases e;obtain⟨h1,h2,h3,h4,h5⟩:=ih (j+1) e2;refine#[by simp[h1],.dat r h2,λp hp=>?_,λn l a e1 e3=>?_,h5]
   . obtain⟨n,l,q1,q2,q3⟩:=h3 p hp;exact#[n+1,l,by lia,by simpa using q2,by simpa using q3]
   .
    cases n with
    |zero=>simp at e1
    |succ n=>
     have:=h4 n l a (by simpa using e1) (by simpa using e3)
     rw[show j+(n+1)=j+1+n by lia]
     exact this
 |@var i v rs vs r q ih=>
  unfold dz at e;split at e
  .
   rename_i l hg;cases e2:dz rs g with
   |none=>rw[e2]at e;cases e
   |some gs=>
    rw[e2]at e;cases e;obtain⟨h1,h2,h3,h4,h5⟩:=ih (j+1) e2;obtain⟨a,xs,f1,f2,f3,f4⟩:=s.sl.at hg;have ea:=iP f1;rw[r]at f1;injection f1 with f1;injection f1 with f1;subst f1;have el:bM Y (vars j (.var i::rs))=(j,a)::bM Y (vars (j+1) rs):=by show (j,adr Y i)::bM Y (vars (j+1) rs)=_;rw[ea]
    rw[el];refine#[by simp[h1],.own f3 f4 h2,λp hp=>?_,λn l' b e1 e3=>?_,λp hp=>?_]
    .
     rcases dL.mp hp with rfl |hp
     . exact#[0,l,rfl,rfl,rfl]
     . obtain⟨n,l,q1,q2,q3⟩:=h3 p hp;exact#[n+1,l,by lia,by simpa using q2,by simpa using q3]
    .
     cases n with
     |zero=>
      have e4:a=b:=by simpa using e3
      subst e4;exact b0
     |succ n=>
      have:=h4 n l' b (by simpa using e1) (by simpa using e3)
      rw[show j+(n+1)=j+1+n by lia]
      exact bP _ this
    .
     rcases dL.mp (show p∈(j,i)::vars (j+1) rs from hp)with rfl |hp
     . exact#[l,a,hg,r,f2]
     . exact h5 p hp
  . cases e
theorem qu{α β:Type}{f:α->β}:∀{l:List α},l.Nodup->(∀a∈l,∀b∈l,f a=f b->a=b)->(l.map f).Nodup
 | [],_,_=>yY
 |x::l,nd,h=>by
  refine fR.mpr #[λhm=>?_,qu (fR.mp nd).2 λa ha b hb=>h a (bP _ ha) b (bP _ hb)]
  obtain⟨y,hy,e⟩:=i5.mp hm;have:=h y (bP _ hy) x b0 e;exact (fR.mp nd).1 (this▸hy)
def qw(z:Z)(Y:Sg)(M:List Addr)(H:Hp)(rs:List R):Z:=#[z.K,H,M,bM Y (vars 0 rs),z.T]
theorem jX:(qw z Y M H rs).bor=(vars 0 rs).map (·.1):=by show (bM Y (vars 0 rs)).map (·.1)=_;unfold bM;rw[List.map_map];rfl
theorem S.enter(s:S z g Y As M H){rs:List R}{vs:List V}{gs:G}{N:List Str}(r:iO z Y M H rs vs)(e:dz rs g=!gs)(nd:((vars 0 rs).map (·.2)).Nodup) :
  S (qw z Y M H rs) (dU N.length gs) (start N vs) ((bM Y (vars 0 rs)).map (·.2)) M H:=by
 obtain⟨h1,h2,h3,h4,h5⟩:=nq s 0 r e;have eB:(bM Y (vars 0 rs)).map (·.2)=((vars 0 rs).map (·.2)).map (adr Y):=by unfold bM;rw[List.map_map,List.map_map];rfl
 have mem:∀b∈(bM Y (vars 0 rs)).map (·.2),b∈As:=λb hb=>by
  obtain⟨i,hi,e⟩:=i5.mp hb;obtain⟨p,hp,e'⟩:=i5.mp hi;obtain⟨l,a,q1,q2,q3⟩:=h5 p hp;subst e';rw[iP q2]at e;subst e;exact q3
 have pre:∀{n:Nat}{o:Slot},gs[n]?=!o->(dU N.length gs)[n]?=!o:=λ{n o} q=>by
  unfold dU;rw[eD (c8.mp q).1];exact q
 have ownB:∀(n:Nat) (l:List D),(dU N.length gs)[n]?=!(.own l)->gs[n]?=!(.own l):=λn l q=>by
  unfold dU at q;rcases AU n gs.length with h |h
  . rw[eD h]at q;exact q
  . rw[eR h]at q;have:=hZ q;rw[w8]at this;exact absurd this.2 ⋯
 have st:∀{n:Nat}{v:V},vs[n]?=!v->(start N vs)[n]?=!(!v):=λ{n v} q=>by
  unfold L2.start;rw[eD (by rw[eA];exact (c8.mp q).1),oI,q]
  rfl
 have st':∀{n:Nat}{v:V},(start N vs)[n]?=!(!v)->vs[n]?=!v:=λ{n v} q=>by
  unfold L2.start at q;rcases AU n vs.length with h |h
  .
   rw[eD (by rw[eA];exact h),oI]at q
   cases e:vs[n]? with
   |none=>rw[e]at q;cases q
   |some w=>rw[e]at q;injection q with q
  .
   rw[eR (by rw[eA];exact h)]at q
   have:=hZ q;rw[w8]at this;exact absurd this.2 ⋯
 refine#[?_,?_,λa ha=>s.sub a (mem a ha),λn a l q1 q2=>.inl ?_,s.live,λb o e _ _=>e,λm hm=>hm,λm hm=>?_,λb hb=>s.sub b (mem b hb),λp hp=>?_,s.tab,λp hp=>s.eS _ (s.tm p hp),s.tt]
 .
  have q:=h2.append (Slots.nos (N.length - gs.length));rw[oD]at q;have e':start N vs=vs.map some++List.replicate (N.length - gs.length) none:=by unfold L2.start;rw[h1]
  rw[e'];exact q
 .
  rw[eB];refine qu nd λi hi j hj e=>?_
  obtain⟨p,hp,rfl⟩:=i5.mp hi;obtain⟨p',uW,rfl⟩:=i5.mp hj;obtain⟨l,a,q1,q2,q3⟩:=h5 p hp;obtain⟨l',a',Ka,XJ,Zw⟩:=h5 p' uW;rw[iP q2,iP XJ]at e;subst e;exact s.sl.zx s.nd q1 Ka q2 XJ
 . have hm:=h4 n l a (ownB n l q1) (st' q2);rw[AV]at hm;exact#[oQ hm,oQ hm]
 . exact λe=>s.fresh e hm
 . obtain⟨n,l,q1,q2,q3⟩:=h3 p hp;rw[AV]at q1;rw[q1];exact#[st q3,l,pre q2]
theorem Slots.transfer{K:Frag}{M M2:List Addr}{H H':Hp}(st:aq M H M2 H'){g g2:G}{Y:Sg}{As:List Addr}(q:Slots K M H g Y As)(hl:g2.length=g.length)
  (h1:∀(i:Nat) (l:List D) (a:Addr),g[i]?=!(.own l)->Y[i]?=!(!(.ref a))->∃l' xs',g2[i]?=!(.own l')/\H' a=!(.lst xs')/\aD K M2 H' l' xs')
  (h2:∀(i:Nat) (o:Slot),g[i]?=!o->(∀l,o≠.own l)->g2[i]?=!o):Slots K M2 H' g2 Y As:=by
 induction q generalizing g2 with
 |nil=>cases g2 with
  |nil=>exact .nil
  |cons a b=>cases hl
 |no q ih=>cases g2 with
  |nil=>cases hl
  |cons a b=>
   cases (show some a=!Slot.no from h2 0 .no rfl (λl z=>nomatch z))
   exact .no (ih (Cn hl) (λi l a e1 e2=>h1 (i+1) l a e1 e2) λi o e1 e2=>h2 (i+1) o e1 e2)
 |@dat g Y As v d r q ih=>cases g2 with
  |nil=>cases hl
  |cons a b=>
   cases (show some a=!(Slot.dat d)from h2 0 (.dat d) rfl (λl z=>nomatch z))
   exact .dat (r.stay st) (ih (Cn hl) (λi l a e1 e2=>h1 (i+1) l a e1 e2) λi o e1 e2=>h2 (i+1) o e1 e2)
 |@own g Y As a0 xs ds e0 r q ih=>cases g2 with
  |nil=>cases hl
  |cons a b=>
   obtain⟨l',xs',e1,e2,e3⟩:=h1 0 _ a0 rfl rfl;cases (show some a=!(Slot.own l')from e1)
   exact .own e2 e3 (ih (Cn hl) (λi l a e1 e2=>h1 (i+1) l a e1 e2) λi o e1 e2=>h2 (i+1) o e1 e2)
theorem qx:∀{ps:List (Nat×Nat)}{g gO:G},back ps gc g=!gO->(ps.map (·.2)).Nodup->gO.length=g.length/\
  (∀i,i∉ps.map (·.2)->gO[i]?=g[i]?)/\∀p∈ps,p.2<g.length->∃l,gc[p.1]?=!(.own l)/\gO[p.2]?=!(.own l)
 | [],g,gO,e,_=>by cases e;exact#[rfl,λ_ _=>rfl,λp hp=>nomatch hp]
 | (j,i)::ps,g,gO,e,nd=>by
  unfold back at e;split at e
  .
   rename_i l hg;obtain⟨h1,h2,h3⟩:=qx e (fR.mp nd).2;refine#[by rw[h1,y7],λk hk=>?_,λp hp hlt=>?_]
   .
    have n1:k∉ps.map (·.2):=λz=>hk (bP _ z)
    have n2:i≠k:=λz=>hk (z▸b0)
    rw[h2 k n1,eI n2]
   .
    rcases dL.mp hp with rfl |hp
    . refine#[l,hg,?_];have hlt':=hlt;rw[h2 i (fR.mp nd).1,i3 hlt']
    . exact h3 p hp (by rw[y7];exact hlt)
  . cases e
theorem S.leave(s:S z g Y As M H){rs:List R}{vs:List V}{gs gc gO:G}{σc:Sg}{Ac Mc:List Addr}{Hc:Hp}{r r':R}{v:V}(rw':iO z Y M H rs vs)(e:dz rs g=!gs)(nd:((vars 0 rs).map (·.2)).Nodup)
  (sc:S (qw z Y M H rs) gc σc Ac Mc Hc) (st:aq M H Mc Hc) (q:cA (qw z Y M H rs) gc σc Ac Mc Hc r v) (hb:back (vars 0 rs) gc g=!gO) (hr:dj ((vars 0 rs).map (·.1)) gc r=!r') :
  ∃M2,S z gO Y As M2 Hc/\aq M H M2 Hc/\cA z gO Y As M2 Hc r' v:=by
 obtain⟨h1,h2,h3,h4,h5⟩:=nq s 0 rw' e;obtain⟨b1,b2,b3⟩:=qx hb nd;have hM:=sc.eS;have core:∀M2:List Addr,(∀m∈M,m∈M2)->(∀m∈M2,m∈Mc)->aq M H M2 Hc->S z gO Y As M2 Hc:=by
  intro M2 m1 m2 aG;refine#[s.sl.transfer aG b1 (λi l a e1 e2=>?_) (λi o e1 e2=>?_),s.nd,λa ha=>m1 a (s.sub a ha),λi a l e1 e2=>?_,λm hm=>sc.live m (m2 m hm),λb o e1 e2 et=>?_,λm hm=>m1 m (s.eS m hm),s.m0,s.bm,λp hp=>#[(s.fH p hp).1,?_],sc.tab,s.tm,s.tt]
  .
   by_cases hi:i∈(vars 0 rs).map (·.2)
   . obtain⟨p,hp,rfl⟩:=i5.mp hi;obtain⟨l',q1,q2⟩:=b3 p hp (c8.mp e1).1;have hl:(p.1,adr Y p.2)∈bM Y (vars 0 rs):=oQ hp;obtain⟨c1,c2⟩:=sc.fH _ hl;obtain⟨a',xs,d1,d2,d3,d4⟩:=sc.sl.at q1;rw[c1]at d1;injection d1 with d1;injection d1 with d1;injection d1 with d1;rw[iP e2]at d1;subst d1;exact#[l',xs,q2,d3,aD.stay (aq.less m2) d4]
   .
    obtain⟨a',xs,d1,d2,d3,d4⟩:=s.sl.at e1;rw[e2]at d1;injection d1 with d1;injection d1 with d1;injection d1 with d1;subst d1;refine#[l,xs,by rw[b2 i hi];exact e1,sc.keep a _ d3 (λhB=>?_) (s.QL d3),d4.stay aG]
    obtain⟨p,hp,ep⟩:=i5.mp (show a∈(bM Y (vars 0 rs)).map (·.2)from hB);obtain⟨p',uW,rfl⟩:=i5.mp hp;obtain⟨l2,a2,q1,q2,q3⟩:=h5 p' uW;have Eb:=ep;rw[iP q2]at Eb;subst Eb;have:=s.sl.zx s.nd e1 q1 e2 q2;exact hi (this▸oQ uW)
  .
   refine (b2 i λhi=>?_).trans e1
   obtain⟨p,hp,rfl⟩:=i5.mp hi;obtain⟨l2,a2,q1,q2,q3⟩:=h5 p hp;rw[e1]at q1;injection q1 with q1;exact e2 l2 q1
  .
   by_cases hi:i∈(vars 0 rs).map (·.2)
   . obtain⟨p,hp,rfl⟩:=i5.mp hi;obtain⟨l2,a2,q1,q2,q3⟩:=h5 p hp;exact s.own p.2 a l2 q1 e2
   . rw[b2 i hi]at e1;exact s.own i a l e1 e2
  .
   have e3:=s.keep b o e1 e2 et;refine sc.keep b o e3 (λhB=>?_) et
   obtain⟨p,hp,ep⟩:=i5.mp (show b∈(bM Y (vars 0 rs)).map (·.2)from hB);obtain⟨p',uW,rfl⟩:=i5.mp hp;obtain⟨l2,a2,q1,q2,q3⟩:=h5 p' uW;have Eb:=ep;rw[iP q2]at Eb;subst Eb;rcases s.own p'.2 a2 l2 q1 q2 with w |w
   . exact e2 w.2
   . rw[w]at e1;cases e1
  .
   by_cases hi:p.1∈(vars 0 rs).map (·.2)
   . obtain⟨p',uW,e'⟩:=i5.mp hi;have e'':=e';obtain⟨l2,a2,q1,q2,q3⟩:=h5 p' uW;obtain⟨l',Ka,XJ⟩:=b3 p' uW (c8.mp q1).1;exact#[l',by rw[<- e''];exact XJ]
   . rw[b2 p.1 hi];exact (s.fH p hp).2
 have new:∀(a:Addr) (xs:List V) (l:List D),v=.ref a->a∈Mc->H a=none->Hc a=!(.lst xs)->aD z.K Mc Hc l xs->∃M2,S z gO Y As M2 Hc/\aq M H M2 Hc/\cA z gO Y As M2 Hc (.new l) v:=by
  intro a xs l ev hm h0 hx rr;have m2:∀m∈a::M,m∈Mc:=λm hm'=>(dL.mp hm').elim (λe=>e▸hm) (hM m)
  have aG:=st.trans (aq.less m2);refine#[a::M,core _ (λm hm'=>bP _ hm') m2 aG,aG,a,xs,ev,b0,λhA=>?_,s.bY h0,hx,rr.stay (aq.less m2)]
  exact s.fresh h0 (s.sub a hA)
 cases r with
 |dat d=>cases hr;have aG:=st.trans (aq.less hM);exact#[M,core M (λm h=>h) hM aG,aG,Rep.stay (aq.less hM) q]
 |new l=>cases hr;obtain⟨a,xs,rfl,c1,c2,c3,c4,c5⟩:=q;exact new a xs l rfl c1 c3 c4 c5
 |var j=>
  obtain⟨l,q1,q2⟩:=q;have hr:(if j∈(vars 0 rs).map (·.1)then none else match gc[j]? with |!(.own l)=>!(R.new l) |_=>none)=!r':=hr
  split at hr
  . cases hr
  .
   rename_i hj;rw[q1]at hr;cases hr;obtain⟨a,xs,d1,d2,d3,d4⟩:=sc.sl.at q1;rw[q2]at d1;injection d1 with d1;injection d1 with d1;subst d1;refine new a xs l rfl (sc.sub a d2) ?_ d3 d4;rcases sc.own j a l q1 q2 with w |w
   . have w':=w.1;rw[jX]at w';exact absurd w' hj
   . exact w
end
theorem iO.length(q:iO z Y M H rs vs):vs.length=rs.length:=by
 induction q with
 |nil=>rfl
 |dat r q ih=>exact congrArg (· + 1) ih
 |var r q ih=>exact congrArg (· + 1) ih
def QV(K:Frag)(N:List Str)(np:Nat)(run:List Nat->G->R->G->Prop):Sp:=λvs H Q _=>
 vs.length=np/\∃(z:Z) (g g':G) (As M:List Addr) (r:R),z.K=K/\S z g (start N vs) As M H/\run z.bor g r g'/\
  ∀v σ' aB M' H',S z g' σ' aB M' H'->aq M H M' H'->cA z g' σ' aB M' H' r v->Q v H'
section
variable{run:List Nat->G->R->G->Prop}
theorem zy(F:iM X.prog X.w X.K X.mg X.base xF k f fd ps (QV X.K N ps.length run))(hK:z.K=X.K)(hr:bH k X.A)(hg:Gl X x)(hm:X.mg x=!(.ref f))(hk:PySem.W.keepIn X.K (.ref f)=true)(hb:Binds X.K fd ps [])
  (ha:bO X z (e::es) g rs g1) (aH:rs.length=ps.length) (hl:dz rs g1=!gs) (nd:((vars 0 rs).map (·.2)).Nodup) (hrun:run ((vars 0 rs).map (·.1)) (dU N.length gs) r gc) (Gk:back (vars 0 rs) gc g1=!gO) (ho:dj ((vars 0 rs).map (·.1)) gc r=!r')
  (ji:(x==(~~~3))=false) (he:starEach (e::es) X.env=(false,eval e X.env)::starEach es X.env) (jh:(backTo pos (starEach es X.env)).any (·.1)=false) :
  aA X z (.Call (.Name x p) (e::es) [] pos) g r' gO:=by
 obtain⟨t,q,kk⟩:=ha;refine#[_,zh F hr hg hm hk hb .nil QG q ji he jh,λY As M H Q s kq=>kk Y As M H _ s λvs H1 aI M1 s1 cN R1=>?_]
 have hv:=R1.length;have ee:=s1.enter (N:=N) R1 hl nd;refine#[by rw[oD,hv];exact aH,qw z Y M1 H1 rs,dU N.length gs,gc,_,M1,r,hK,by rw[oD];exact ee,by rw[jX];exact hrun,λv σ' aB M' H' s' st' R'=>?_]
 obtain⟨M2,s2,aG,R2⟩:=s1.leave R1 hl nd s' st' R' Gk ho;exact kq v H' aI M2 s2 (cN.trans aG) R2
theorem Gm{P:Program}{w:World}{K:Frag}{mg:Str->Option Value}{base:Heap}{qual:Str}{st:Stmt}(F:Lg K x qual st f fd)(Sc:bI N ps (aC st))
  (h:∀(bx:Value) (A:Around) (outer:List Env) (s:Shared) (H:Hp) (E:XK),PySem.W.codeIn K bx qual=true->bH k (A.deeper (envOfC qual (aC st) s⁻¹ f bx))->
   ∀(z:Z) (g:G) (r:R) (g':G),z.K=K->run z.bor g r g'->∃fl,dG (fG xF P w K mg base N qual (aC st) f bx A outer s H E).rW z (bh st) g fl g'/\(fl=.rt r\/(fl=.nx/\r=.dat .non))) :
  iM P w K mg base xF (k+1) f fd ps (QV K N ps.length run):=by
 obtain⟨oc,od,kV,doc,pm,an,bx,ct,osl,rfl,lk,bU⟩:=F.ex;refine QD lk bU Sc (λvs H Q E q=>q.1) ?_
 rintro A outer s H vs Q E hr ⟨_,z,g,g',As,M,r,hK,hs,hrun,hQ⟩;obtain⟨fl,⟨t,q,kk⟩,hfl⟩:=h bx A outer s H E bU hr z g r g' hK hrun;refine#[t,q.rW,kk _ As M H _ hs ?_];rcases hfl with rfl |⟨rfl,rfl⟩
 . exact λv σ' aB M' H' s' st' R'=>hQ v σ' aB M' H' s' st' R'
 . exact λσ' aB M' H' s' st'=>hQ .non σ' aB M' H' s' st' .non
end
inductive Tg where
 |nm (i:Nat) |tp (is:List Nat)
noncomputable def jY:List Nat->List D->G->G
 |i::is,d::ds,g=>jY is ds (g.set i (.dat d))
 | [],_,g=>g
 |_::_,[],g=>g
noncomputable def Tg.ix:Tg->List Nat
 |.nm i=>[i]
 |.tp is=>is
def Tg.set:Tg->D->G->Option G
 |.nm i,d,g=>!(g.set i (.dat d))
 |.tp is,.tup ds,g=>if ds.length=is.length then some (jY is ds g)else none
 |.tp is,.lst ds,g=>if ds.length=is.length then some (jY is ds g)else none
 |.tp _,_,_=>none
def uX(is:List Nat)(Y σ':Sg):Prop:=σ'.length=Y.length/\∀j,j∉is->σ'[j]?=Y[j]?
theorem uX.refl(is:List Nat)(Y:Sg):uX is Y Y:=#[rfl,λ_ _=>rfl]
theorem uX.trans{is:List Nat}{Y σ1 σ2:Sg}(a:uX is Y σ1)(b:uX is σ1 σ2):uX is Y σ2:=#[b.1.trans a.1,λj h=>(b.2 j h).trans (a.2 j h)]
theorem uX.mono(h:∀i∈is,i∈js)(a:uX is Y σ'):uX js Y σ':=#[a.1,λj hj=>a.2 j λz=>hj (h j z)]
def eG(X:Cx)(z:Z)(tg:Expr)(T:Tg):Prop:=∃t,PG X tg t/\∀d g g',T.set d g=!g'->∀v Y As M H (Q:Sg->Hp->Prop),S z g Y As M H->Rep z.K M H d v->(∀σ' aB,S z g' σ' aB M H->uX T.ix Y σ'->Q σ' H)->t v Y H Q
structure sI(X:Cx)(x:Str)(i:Nat):Prop where
 nd:X.N.Nodup
 ix:X.N[i]?=!x
 lc:Loc X.env.scope x
 fn:X.fn x=true\/X.env.scope.names.lookup x=some .local
section
theorem Zx(h:sI X x i)(hb:i∉z.bor):eG X z (.Name x pos) (.nm i):=
 #[_,zc h.nd h.ix h.lc h.fn,λd g g' e v Y As M H Q s r k=>by
  cases e;obtain⟨aB,s'⟩:=s.ez hb r;exact k _ aB s' #[by rw[y7],λj hj=>by rw[eI (λe=>hj (by rw[<- e];exact mP.mpr rfl))]]]
inductive jx(X:Cx):List Expr->List Nat->Prop
 |nil:jx X [] []
 |cons {x:Str}{p:Pos}{i:Nat}{es:List Expr}{is:List Nat}:sI X x i->jx X es is->jx X (.Name x p::es) (i::is)
theorem jx.plain(h:jx X es is):(assignEach es X.env).length=is.length/\(assignEach es X.env).findIdx? (·.1)=none:=by
 induction h with
 |nil=>exact#[rfl,rfl]
 |cons _ _ ih=>
  refine#[?_,?_]
  . show (assignEach _ X.env).length+1=_;rw[ih.1];rfl
  . show List.findIdx? _ ((false,assign _ X.env)::assignEach _ X.env)=none;rw[List.findIdx?_cons,ih.2];rfl
theorem jx.pgs(h:jx X es is)(hb:∀i∈is,i∉z.bor):∃t,XC X es t/\∀ds vs g Y As M H (Q:Sg->Hp->Prop),ds.length=is.length->S z g Y As M H->aD z.K M H ds vs->(∀σ' aB,S z (jY is ds g) σ' aB M H->uX is Y σ'->Q σ' H)->t vs Y H Q:=by
 induction h with
 |nil=>
  refine#[_,KS,λds vs g Y As M H Q hl s r k=>?_]
  cases r with
  |nil=>exact#[rfl,k Y As s (uX.refl _ _)]
  |cons _ _=>simp at hl
 |@cons x p i es is hn hs ih=>
  obtain⟨t,q,kk⟩:=ih λj hj=>hb j (bP _ hj)
  refine#[_,Ew (zc hn.nd hn.ix hn.lc hn.fn) q rfl,λds vs g Y As M H Q hl s r k=>?_]
  cases r with
  |nil=>simp at hl
  |@cons d ds v vs r rs=>
   obtain⟨aI,s1⟩:=s.ez (hb i b0) r;refine#[v,vs,rfl,kk ds vs _ _ aI M H Q (by simpa using hl) s1 rs λσ' aB s' a=>k σ' aB s' ?_]
   refine uX.trans #[by rw[y7],λj hj=>?_] (a.mono λj hj=>bP _ hj)
   rw[eI (λe=>hj (by rw[<- e];exact b0))]
theorem xM(ne:l≠it)(n:Nat):∀(i:Nat) (s:Shared) (Q:List Value->Shared->Prop),s.heap.IsListIter it l i->s.heap.IsList l xs->i+n=xs.size->
  (∀h',h'.IsListIter it l xs.size->Heap.SameBut it s.heap h'->Q (xs.toList.drop i) { s with heap:=h'})->wpAny (model prog w) A (draw (.ref it) n) Q E s:=by
 induction n with
 |zero=>
  intro i s Q hit _ hi k;have e:xs.toList.drop i=[]:=List.drop_eq_nil_of_le (by rw[i8];lia)
  have q:=k s.heap (by rw[<- hi];exact hit) (Heap.SameBut.refl ..)
  rw[e]at q;exact a8 q
 |succ n ih=>
  intro i s Q hit hl hi k;have hlt:i<xs.size:=by lia
  refine aS (wpAny_pyNext_list_item hit hl (x:=xs[i]) (by simp[hlt]) λh1 b1 c1=>?_)
  refine aS (hU (ih (i+1) _ _ b1 (hl.extBut c1.extBut ne) ⋯ λh2 b2 c2=>a8 ?_))
  have q:=k h2 b2 (c1.trans c2);rw[List.drop_eq_getElem_cons (by rw[i8];exact hlt)]at q
  exact q
theorem uY(hh:A.handled=none)(hl:s.heap.IsList l xs)
  (k:∀h',Heap.ExtBut s⁻¹ s.heap h'->Q xs.toList { s with heap:=h'}):wpAny (model prog w) A (unpackItems (.ref l) xs.size none) Q E s:=by
 have ne:l≠s⁻¹:=by obtain⟨o,ho,_⟩:=hl;exact fA (dS ho)
 refine aS ?_;refine aS (BC hl.typeIs slot_list_iter.lookup ?_);refine a8 ?_;refine aS (hU (AH hl ?_));refine aS (hU (xM ne xs.size 0 _ _ #[_,dC _ rfl,rfl,rfl] (hl.push _) (AV _) λh1 b1 c1=>?_))
 rw[fN ⋯];refine aS (hU (wpAny_pyNext_list_end hh b1 ((hl.push _).extBut c1.extBut ne) ⋯ λh2 e2=>?_))
 exact a8 (k h2 λb o nb e=>e2 b o nb (c1.extBut b o nb (a9 _ e)))
def gSeq(K:Frag)(n:Nat)(t:RT):TG:=λv Y H Q=>∃a xs,v=.ref a/\(eU K H a xs\/cu K H a xs)/\xs.length=n/\t xs Y H Q
theorem Up(hc:X.calm=true)(h:XC X es t)(hn:(assignEach es X.env).length=n)(b9:(assignEach es X.env).findIdx? (·.1)=none):PG X (.Tuple es k pos) (gSeq X.K n t):=by
 intro ah s Y H v u Q I r hw;obtain⟨a,xs,e1,hq,hl,hw⟩:=hw;rcases hq with hq |hq
 . exact RV hc h hn b9 ah s Y H v u Q I r #[a,xs,e1,hq,hl,hw]
 .
  subst e1;cases r;obtain⟨its,rv,pl,hz⟩:=I.list hq;refine aS (AE ?_);unfold unpack;rw[b9,show (assignEach es X.env).length=its.toArray.size by rw[hn,<- hl,rv.length,b8]]
  refine aS (hU (uY (I.ok.hd hc) pl.isList λh' hx=>?_))
  have I1:=I.kept (t':=s.toks) λb o e=>hx b o (fA (dS e)) e
  exact h ah _ Y H xs _ Q I1 (by simpa using rv) hw
theorem Zy(hc:X.calm=true)(hK:z.K=X.K)(h:jx X es is)(hb:∀i∈is,i∉z.bor):eG X z (.Tuple es k pos) (.tp is):=by
 obtain⟨t,q,kk⟩:=h.pgs hb;refine#[_,Up hc q h.plain.1 h.plain.2,λd g g' e v Y As M H Q s r k=>?_]
 cases d with
 |tup ds=>
  have e:(if ds.length=is.length then some (jY is ds g)else none)=!g':=e
  by_cases hl:ds.length=is.length
  .
   rw[hV hl]at e;cases e;cases r with
   |@tup _ a xs ha rr=>exact#[a,xs,rfl,.inl (hK▸ha.sq),by rw[<- rr.length];exact hl,kk ds xs g Y As M H Q hl s rr k]
  . rw[fN hl]at e;cases e
 |lst ds=>
  have e:(if ds.length=is.length then some (jY is ds g)else none)=!g':=e
  by_cases hl:ds.length=is.length
  .
   rw[hV hl]at e;cases e;cases r with
   |@lst _ a xs ha rr=>exact#[a,xs,rfl,.inr (cu.of ha.2),by rw[<- rr.length];exact hl,kk ds xs g Y As M H Q hl s rr k]
  . rw[fN hl]at e;cases e
 |_=>cases e
def Jt(J:It)(ao:List D)(K:Frag)(M1:List Addr)(H1:Hp):Prop:=
 ∀M2 H2,aq M1 H1 M2 H2->(∀n d,ao[n]?=!d->J.go n H2/\∀x H',J.XD n H2 x H'->∀(z:Z) g Y As,z.K=K->S z g Y As M2 H2->S z g Y As M2 H'/\aq M2 H2 M2 H'/\Rep K M2 H' d x)/\J.stop ao.length H2
def dm(X:Cx)(z:Z)(tg iter:Expr)(g:G)(ao:List D)(g1:G):Prop:=
 ∃wi,PI X tg iter wi/\∀Y As M H (R:It->Hp->Prop),S z g Y As M H->(∀J H' aB M',S z g1 Y aB M' H'->aq M H M' H'->Jt J ao z.K M' H'->R J H')->wi Y H R
theorem Uq(hK:z.K=X.K)(h:aA X z iter g (.dat (.tup l)) g1):dm X z tg iter g l g1:=by
 obtain⟨t,q,k⟩:=h;refine#[_,R4 q,λY As M H R s kk=>k Y As M H _ s λv H1 aI M1 s1 cN r=>?_]
 have r':=r;cases r' with
 |@tup _ a xs ha rr=>
  refine#[a,rfl,#[xs,hK▸ha.sq],kk _ H1 aI M1 s1 cN λM2 H2 aG=>?_]
  have ha2:TupAt z.K M2 H2 a xs:=by
   rcases ha with ⟨na,hr⟩ |hk
   . exact .inl (aG.rd na hr)
   . exact .inr hk
  have Ur:=rr.stay aG;refine#[λn d hd=>?_,xs,hK▸ha2.sq,by rw[rr.length];exact dE _]
  obtain⟨x,e1,e2⟩:=Ur.get hd;refine#[#[xs,x,hK▸ha2.sq,e1],λy H' hy z' g' σ' aB _ s'=>?_]
  obtain⟨rfl,hy⟩:=hy;have:=hy xs (hK▸ha2.sq);rw[e1]at this;cases this;exact#[s',aq.refl _ _,e2]
theorem Us(h:aA X z iter g (.dat (.lst l)) g1):dm X z tg iter g l g1:=by
 obtain⟨t,q,k⟩:=h;refine#[_,zg q,λY As M H R s kk=>k Y As M H _ s λv H1 aI M1 s1 cN r=>?_]
 have r':=r;cases r' with
 |@lst _ a xs ha rr=>
  refine#[a,rfl,#[xs,cu.of ha.2],kk _ H1 aI M1 s1 cN λM2 H2 aG=>?_]
  have ha2:=(aG _ _ ha.2 ha.1).1;have Ur:=rr.stay aG;refine#[λn d hd=>?_,xs,cu.of ha2,by rw[rr.length];exact dE _]
  obtain⟨x,e1,e2⟩:=Ur.get hd;refine#[#[xs,x,cu.of ha2,e1],λy H' hy z' g' σ' aB _ s'=>?_]
  obtain⟨rfl,hy⟩:=hy;have:=hy xs (cu.of ha2);rw[e1]at this;cases this;exact#[s',aq.refl _ _,e2]
theorem Ut(hK:z.K=X.K)(h:aA X z iter g (.dat (.fix l)) g1):dm X z tg iter g l g1:=by
 obtain⟨t,q,k⟩:=h;refine#[_,zg q,λY As M H R s kk=>k Y As M H _ s λv H1 aI M1 s1 cN r=>?_]
 have r':=r;cases r' with
 |@fix _ a xs ha rr=>
  refine#[a,rfl,#[xs,hK▸ha.sq],kk _ H1 aI M1 s1 cN λM2 H2 aG=>?_]
  have ha2:ql z.K M2 H2 a xs:=by
   rcases ha with ⟨na,o,hr⟩ |hk
   . exact .inl #[(aG _ _ hr na).2,o,(aG _ _ hr na).1]
   . exact .inr hk
  have Ur:=rr.stay aG;refine#[λn d hd=>?_,xs,hK▸ha2.sq,by rw[rr.length];exact dE _]
  obtain⟨x,e1,e2⟩:=Ur.get hd;refine#[#[xs,x,hK▸ha2.sq,e1],λy H' hy z' g' σ' aB _ s'=>?_]
  obtain⟨rfl,hy⟩:=hy;have:=hy xs (hK▸ha2.sq);rw[e1]at this;cases this;exact#[s',aq.refl _ _,e2]
theorem Gn{lo:Int}{n:Nat}{K:Frag}{M:List Addr}{H:Hp}:Jt (R3 lo n) (dR lo n) K M H:=λM2 H2 _=>by
 refine#[λk d hd=>?_,?_]
 .
  have hk:k<n:=by have:=(c8.mp hd).1;rw[uV]at this;exact this
  rw[Gi hk]at hd;cases hd;refine#[hk,λx H' hx z' g' σ' aB _ s'=>?_]
  obtain⟨rfl,rfl⟩:=hx;exact#[s',aq.refl _ _,.int _]
 . show n<=(dR lo n).length;rw[uV];exact dE _
theorem Mg(h:bO X z [a] g [‹j›] g1)(hg:Gl X "range")(hm:X.mg "range"=none)(hs:starEach [a] X.env=[(false,eval a X.env)])(h1 : -(2 ^ 62)<=j)(h2:j<2 ^ 62) :
  dm X z tg (.Call (.Name "range" p) [a] [] rp) g (dR 0 j.toNat) g1:=by
 obtain⟨wi,q,k⟩:=Bw h hg hm hs h1 h2;exact#[wi,q,λY As M H R s kk=>k Y As M H _ s λH' aB M' s' st=>kk _ H' aB M' s' st Gn]
theorem Mh(h:bO X z [a,b] g [‹c›,‹j›] g1)(hg:Gl X "range")(hm:X.mg "range"=none)(hs:starEach [a,b] X.env=[(false,eval a X.env),(false,eval b X.env)])(hs2:starEach [b] X.env=[(false,eval b X.env)])
  (h1 : -(2 ^ 62)<=c/\c<2 ^ 62/\-(2 ^ 62)<=j/\j<2 ^ 62):dm X z tg (.Call (.Name "range" p) [a,b] [] rp) g (dR c (j - c).toNat) g1:=by
 obtain⟨wi,q,k⟩:=Bx h hg hm hs hs2 h1;exact#[wi,q,λY As M H R s kk=>k Y As M H _ s λH' aB M' s' st=>kk _ H' aB M' s' st Gn]
inductive eH(X:Cx)(z:Z)(body:List Stmt)(T:Tg):List D->G->Fl->G->Prop
 |nil {g:G}:eH X z body T [] g .nx g
 |next {d:D}{l:List D}{g g0 g1 g2:G}{f:Fl}:T.set d g=!g0->dG X z body g0 .nx g1->eH X z body T l g1 f g2->eH X z body T (d::l) g f g2
 |cont {d:D}{l:List D}{g g0 g1 g2:G}{f:Fl}:T.set d g=!g0->dG X z body g0 .ct g1->eH X z body T l g1 f g2->eH X z body T (d::l) g f g2
 |brk {d:D}{l:List D}{g g0 g1:G}:T.set d g=!g0->dG X z body g0 .bk g1->eH X z body T (d::l) g .nx g1
 |ret {d:D}{l:List D}{g g0 g1:G}{r:R}:T.set d g=!g0->dG X z body g0 (.rt r) g1->eH X z body T (d::l) g (.rt r) g1
theorem ar1{i m n:Nat}(h:i+m=n)(hi:i<n):m - 1<m/\i+1+(m - 1)=n:=by lia
theorem jy{J:It}{ao:List D}{K:Frag}{M1:List Addr}{H1 H0:Hp}{σ0:Sg}{Qn:Sg->Hp->Prop}{Body:V->Sg->Hp->(Sg->Hp->Prop)->Prop}(hJ:Jt J ao K M1 H1)(P:List D->Sg->Hp->Prop)(h0:P ao σ0 H0)
  (st:∀l σ' H',P l σ' H'->∃M2,aq M1 H1 M2 H') (fin:∀σ' H',P [] σ' H'->Qn σ' H')
  (turn:∀d l σ' H',P (d::l) σ' H'->∀x H2,(∀M2,aq M1 H1 M2 H'->∀(z:Z) g Y As,z.K=K->S z g Y As M2 H'->S z g Y As M2 H2/\aq M2 H' M2 H2/\Rep K M2 H2 d x)->Body x σ' H2 (P l)) :
  ∃W:Nat->Nat->Sg->Hp->Prop,(∃m,W 0 m σ0 H0)/\∀i m σ' H',W i m σ' H'->
   (J.stop i H'/\Qn σ' H')\/(J.go i H'/\∃Nn:Sg->Hp->Prop,(∀J8 J9,Nn J8 J9->∃m',m'<m/\W (i+1) m' J8 J9)/\∀x H2,J.XD i H' x H2->Body x σ' H2 Nn):=by
 refine#[λi m σ' H'=>i+m=ao.length/\P (ao.drop i) σ' H',#[ao.length,AV _,h0],?_]
 rintro i m σ' H' ⟨him,p⟩;obtain⟨M2,aG⟩:=st _ _ _ p;obtain⟨hgo,hstop⟩:=hJ M2 H' aG;cases e:ao[i]? with
 |none=>
  have hi:i=ao.length:=by have:=AZ.mp e;lia
  subst hi;rw[List.drop_length]at p;exact .inl #[hstop,fin _ _ p]
 |some d=>rw[drop_cons e]at p;have hi:=(c8.mp e).1;have hm:=ar1 him hi;exact .inr #[(hgo i d e).1,P (ao.drop (i+1)),λJ8 J9 hN=>#[m - 1,hm.1,hm.2,hN],λx H2 hx=>turn d _ σ' H' p x H2 λM3 cY=>((hJ M3 H' cY).1 i d e).2 x H2 hx]
theorem Uu(hp:PassesOwn (~~~2) X.A X.env X.xe)(hc:X.calm=true)(hw:dm X z tg iter g ao g1)(ht:eG X z tg T)(hb:eH X z body T ao g1 f g')(hs:∀y,foldedSetIterable iter X.env y=pure y) :
  eF X z (.For tg iter body [] pos) g f g':=by
 obtain⟨wi,q,k⟩:=hw;obtain⟨t,qt,kt⟩:=ht;refine#[_,EY hp hc q qt lU hs,λY As M H E s kk=>k Y As M H _ s λJ H1 aI M1 s1 cN hJ=>?_]
 refine jy hJ (λl σ2 H2=>∃g2 aL M2,S z g2 σ2 aL M2 H2/\aq M1 H1 M2 H2/\eH X z body T l g2 f g') #[g1,aI,M1,s1,aq.refl _ _,hb] (by rintro _ _ _ ⟨_,_,M2,_,aG,_⟩;exact#[M2,aG]) ?_ ?_
 . rintro σ2 H2 ⟨g2,aL,M2,s2,aG,lo⟩;cases lo;exact kk σ2 aL M2 H2 s2 (cN.trans aG)
 .
  rintro d l σ2 H2 ⟨g2,aL,M2,s2,aG,lo⟩ x H' yl;obtain⟨s3,cY,rx⟩:=yl M2 aG z g2 σ2 aL rfl s2;have kk':=(kk.trans cN).trans (aG.trans cY);have Zz:=aG.trans cY;cases lo with
  |next e0 b h=>
   refine kt d g2 _ e0 x σ2 aL M2 H' _ s3 rx λσ' aB s' _=>?_
   obtain⟨t,q,kb⟩:=b;exact#[t,q,kb _ aB M2 H' _ s' λσ4 fT M4 H4 s4 sJ=>#[_,fT,M4,s4,Zz.trans sJ,h]]
  |cont e0 b h=>
   refine kt d g2 _ e0 x σ2 aL M2 H' _ s3 rx λσ' aB s' _=>?_
   obtain⟨t,q,kb⟩:=b;exact#[t,q,kb _ aB M2 H' _ s' λσ4 fT M4 H4 s4 sJ=>#[_,fT,M4,s4,Zz.trans sJ,h]]
  |brk e0 b=>
   refine kt d g2 _ e0 x σ2 aL M2 H' _ s3 rx λσ' aB s' _=>?_
   obtain⟨t,q,kb⟩:=b;exact#[t,q,kb _ aB M2 H' _ s' λσ4 fT M4 H4 s4 sJ=>kk' σ4 fT M4 H4 s4 sJ]
  |ret e0 b=>
   refine kt d g2 _ e0 x σ2 aL M2 H' _ s3 rx λσ' aB s' _=>?_
   obtain⟨t,q,kb⟩:=b;exact#[t,q,kb _ aB M2 H' _ s' λv σ4 fT M4 H4 s4 sJ R=>kk' v σ4 fT M4 H4 s4 sJ R]
end
noncomputable def gC(k:Nat)(g:G):G:=g++(List.replicate k .no++[.own []])
def cT(X:Cx)(z:Z)(ifs:List Expr)(g:G)(b:Bool)(g':G):Prop:=
 ∃t,jt X ifs t/\∀Y As M H (Q:Bool->Hp->Prop),S z g Y As M H->(∀H' aB M',S z g' Y aB M' H'->aq M H M' H'->Q b H')->t Y H Q
theorem Mi:cT X z [] g true g:=#[_,uM,λY As M H Q s k=>k H As M s (aq.refl _ _)]
theorem Mj(h:bN X z c g b g'):cT X z [c] g b g':=let #[t,q,k]:=h;#[t,Fp q,k]
inductive jz(T:Tg)(last:Nat)(ur:G->Bool->G->Prop)(Mk:G->D->G->Prop):List D->G->G->Prop
 |nil {g:G}:jz T last ur Mk [] g g
 |skip:T.set d g=!g1->ur g1 false g2->jz T last ur Mk l g2 g'->jz T last ur Mk (d::l) g g'
 |take:T.set d g=!g1->ur g1 true g2->Mk g2 e g3->g3[last]?=!(.own acc)->acc.length<16777216->jz T last ur Mk l (g3.set last (.own (acc++[e]))) g'->jz T last ur Mk (d::l) g g'
section
theorem S.extend(s:S z g Y As M H)(hm:a∈M)(hA:a∉As)(h0:z.H0 a=none)(h:H a=!(.lst xs))(r:aD z.K M H l xs) :
  S z (g++(List.replicate k .no++[.own l])) (Y++(List.replicate k none++[!(.ref a)])) (As++([]++[a])) M H:=by
 have hl:=s.sl.length;refine#[s.sl.append ((Slots.nos k).append (.own h r .nil)),?_,λb hb=>?_,λi b l' e1 e2=>?_,s.live,s.keep,s.eS,s.m0,s.bm,λp hp=>?_,s.tab,s.tm,s.tt]
 .
  rw[BD];refine AI.mpr #[s.nd,fR.mpr #[by simp,yY],λx hx y hy e=>?_]
  rw[mP.mp hy]at e;exact hA (e▸hx)
 .
  rcases vS.mp hb with q |q
  . exact s.sub b q
  . rw[BD]at q;rw[mP.mp q];exact hm
 .
  rcases AU i g.length with hi |hi
  . rw[eD hi]at e1;rw[eD ⋯]at e2;exact s.own i b l' e1 e2
  .
   rw[eR hi]at e1;rw[eR ⋯]at e2;rcases AU (i - g.length) k with hk |hk
   .
    rw[eD (by rw[mB];exact hk)]at e1
    have:=hZ e1;rw[w8]at this;exact absurd this.2 ⋯
   .
    rw[eR (by rw[mB];lia),mB]at e2
    have e3:i - Y.length - k=0:=by
     rcases Nat.eq_zero_or_pos (i - Y.length - k)with q |q
     . exact q
     . rw[v4 (Nat.succ_le_of_lt q)]at e2;cases e2
    rw[e3]at e2;have e4:=e2;injection e4 with e4;injection e4 with e4;injection e4 with e4;exact .inr (e4▸h0)
 . obtain⟨q1,l',q2⟩:=s.fH p hp;exact#[by rw[eD (c8.mp q1).1];exact q1,l',by rw[eD (c8.mp q2).1];exact q2]
theorem Slots.split{K:Frag}{g1 g2:G}{Y:Sg}{As:List Addr}(q:Slots K M H (g1++g2) Y As):∃σ1 σ2 A1 A2,Y=σ1++σ2/\As=A1++A2/\Slots K M H g1 σ1 A1/\Slots K M H g2 σ2 A2:=by
 induction g1 generalizing Y As with
 |nil=>exact#[[],_,[],_,rfl,rfl,.nil,q]
 |cons o g1 ih=>cases q with
  |no q=>obtain⟨s1,s2,a1,a2,rfl,rfl,h1,h2⟩:=ih q;exact#[_::s1,s2,a1,a2,rfl,rfl,.no h1,h2]
  |dat r q=>obtain⟨s1,s2,a1,a2,rfl,rfl,h1,h2⟩:=ih q;exact#[_::s1,s2,a1,a2,rfl,rfl,.dat r h1,h2]
  |own e r q=>obtain⟨s1,s2,a1,a2,rfl,rfl,h1,h2⟩:=ih q;exact#[_::s1,s2,_::a1,a2,rfl,rfl,.own e r h1,h2]
theorem S.shrink{gb:G}{τ:Sg}{l:List D}{i:Nat}{a:Addr}(s:S z gb (Y++τ) As M H)(hz:∀p∈z.lent,p.1<Y.length)(hi:Y.length<=i)(e1:gb[i]?=!(.own l))(e2:(Y++τ)[i]?=!(!(.ref a))) :
  ∃A1,S z (gb.take Y.length) Y A1 M H/\a∈M/\a∉A1:=by
 have hl:=s.sl.length;rw[eP]at hl;have q:=s.sl;rw[<- wE Y.length gb]at q;obtain⟨σ1,σ2,A1,A2,h1,h2,h3,h4⟩:=q.split;have l1:=h3.length;rw[t8,Nat.min_eq_left ⋯]at l1;obtain⟨rfl,rfl⟩:=List.append_inj h1 l1;subst h2;have hA2:a∈A2:=by
  obtain⟨b,xs,f1,f2,_⟩:=h4.at (by rw[List.getElem?_drop,Nat.add_sub_cancel' hi];exact e1)
  rw[eR hi]at e2;rw[e2]at f1;injection f1 with f1;injection f1 with f1;injection f1 with f1;exact f1▸f2
 have tk:∀(j:Nat) (o:Slot),(gb.take Y.length)[j]?=!o->gb[j]?=!o/\j<Y.length:=λj o e=>by
  have hj:=(c8.mp e).1;rw[t8]at hj;have hj':=eM hj (Nat.min_le_left _ _);rw[sK hj']at e;exact#[e,hj']
 refine#[A1,#[h3,(AI.mp s.nd).1,λb hb=>s.sub b (t7 _ hb),λj b l' c1 c2=>?_,s.live,s.keep,s.eS,s.m0,s.bm,λp hp=>?_,s.tab,s.tm,s.tt],s.sub a (gN _ hA2),λhA=>(AI.mp s.nd).2.2 a hA a hA2 rfl]
 . obtain⟨c3,c4⟩:=tk j _ c1;exact s.own j b l' c3 (by rw[eD c4];exact c2)
 . obtain⟨c1,l',c2⟩:=s.fH p hp;have uW:=hz p hp;rw[eD uW]at c1;exact#[c1,l',by rw[sK uW];exact c2]
theorem cK(h:uX is (Y++τ) σ')(hi:∀i∈is,Y.length<=i):∃τ',σ'=Y++τ':=by
 refine#[σ'.drop Y.length,?_];have e:σ'.take Y.length=Y:=by
  apply List.ext_getElem?;intro j;rcases AU j Y.length with hj |hj
  . rw[sK hj,h.2 j (λz=>Nat.not_lt.mpr (hi j z) hj),eD hj]
  . rw[v4 (by rw[t8];exact n0 (Nat.min_le_left _ _) hj),v4 hj]
 have:=(wE Y.length σ').symm;rw[e]at this;exact this
end
section
def BG(X:Cx)(tg:Expr):TG:=λv Y H Q=>∃t,PG X tg t/\t v Y H Q
theorem gB:PG X tg (BG X tg):=λah s Y H v u Q I r h=>let #[t,q,k]:=h;q ah s Y H v u Q I r k
def Gp(X:Cx)(ifs:List Expr):TT:=λY H Q=>∃t,jt X ifs t/\t Y H Q
theorem jZ:jt X ifs (Gp X ifs):=λah s Y H Q I h=>let #[t,q,k]:=h;q ah s Y H Q I k
def BJ(X:Cx)(e:Expr):TE:=λY H Q=>∃t,PE X e t/\t Y H Q
theorem dw:PE X e (BJ X e):=λah s Y H Q I h=>let #[t,q,k]:=h;q ah s Y H Q I k
theorem nu(hw:dm X z tg iter g ao g1)(ht:∀b:Bk,eG (X.blk N' scope b) z tg T)(hT:∀i∈T.ix,g1.length<=i/\i<g1.length+k)
  (hcp:jz T (g1.length+k) (λg b g'=>∀bk:Bk,cT (X.blk N' scope bk) z ifs g b g') (λg d g'=>∀bk:Bk,aA (X.blk N' scope bk) z cQ g (.dat d) g') ao (gC k g1) gE) (hacc:gE[g1.length+k]?=!(.own acc)) :
  ∃wi,PI X tg iter wi/\∀Y As M H Q,S z g Y As M H->Kn z (gE.take g1.length) Y M H (.new acc) Q->qj X k wi (λb=>BG (X.blk N' scope b) tg) (λb=>Gp (X.blk N' scope b) ifs) (λD b=>uN D (BJ (X.blk N' scope b) cQ)) Y H Q:=by
 obtain⟨wi,q,kw⟩:=hw;refine#[wi,q,λY As M H Q s kq=>kw Y As M H _ s λJ H1 aI M1 s1 cN hJ D hD=>?_]
 have hl:=s1.sl.length;have hz:∀p∈z.lent,p.1<Y.length:=λp hp=>(c8.mp (s1.fH p hp).1).1
 have Ed:∀i∈T.ix,Y.length<=i:=λi hi=>by rw[<- hl];exact (hT i hi).1
 have cU:g1.length+k∉T.ix:=λh=>nN _ (hT _ h).2
 have s1':=s1.aO (xs:=[]) hD;have h0:=s1.bY hD;have nA:D∉aI:=λh=>s1.fresh hD (s1.sub D h)
 have sb:=s1'.extend (k:=k) b0 nA h0 az .nil;have Gq:(Y++(List.replicate k none++[!(V.ref D)]))[g1.length+k]?=!(!(V.ref D)):=by
  rw[hl,eR (Nat.le_add_right _ _),t6,eR (by rw[mB];exact dE _),mB,Nat.sub_self]
  rfl
 refine jy hJ (λl σ' H'=>∃gb Ab Mb τ,S z gb σ' Ab Mb H'/\aq M1 H1 Mb H'/\σ'=Y++τ/\σ'[g1.length+k]?=!(!(.ref D))/\jz T (g1.length+k) (λg b g'=>∀bk:Bk,cT (X.blk N' scope bk) z ifs g b g') (λg d g'=>∀bk:Bk,aA (X.blk N' scope bk) z cQ g (.dat d) g') l gb gE)
  #[_,_,_,_,sb,aq.aO hD,rfl,Gq,hcp] (by rintro _ _ _ ⟨_,_,M2,_,_,aG,_⟩;exact#[M2,aG]) ?_ ?_
 . rintro σ' H' ⟨gb,Ab,Mb,τ,s2,aG,rfl,wR,cp⟩;cases cp;obtain⟨a,xs,f1,f2,f3,f4⟩:=s2.sl.at hacc;rw[wR]at f1;injection f1 with f1;injection f1 with f1;injection f1 with f1;subst f1;obtain⟨A1,s3,m3,n3⟩:=s2.shrink hz ⋯ hacc wR;rw[<- hl]at s3;exact kq _ H' A1 Mb s3 (cN.trans aG) #[D,xs,rfl,m3,n3,h0,f3,f4]
 .
  rintro d l σ' H' ⟨gb,Ab,Mb,τ,s2,aG,rfl,wR,cp⟩ x H2 yl bk _;obtain⟨s3,cY,rx⟩:=yl Mb aG z gb (Y++τ) Ab rfl s2;obtain⟨t,qt,kt⟩:=ht bk;cases cp with
  |skip e0 hc rest=>
   refine#[t,qt,kt d gb _ e0 x _ Ab Mb H2 _ s3 rx λσ4 fT s4 ag=>?_]
   obtain⟨τ',rfl⟩:=cK ag Ed;obtain⟨t2,q2,k2⟩:=hc bk;refine#[t2,q2,k2 _ fT Mb H2 _ s4 λH5 wU M5 s5 jT=>?_]
   refine lF #[_,wU,M5,τ',s5,(aG.trans cY).trans jT,rfl,?_,rest];rw[ag.2 _ cU];exact wR
  |take e0 hc he ha hz' rest=>
   refine#[t,qt,kt d gb _ e0 x _ Ab Mb H2 _ s3 rx λσ4 fT s4 ag=>?_]
   obtain⟨τ',rfl⟩:=cK ag Ed;obtain⟨t2,q2,k2⟩:=hc bk;obtain⟨t3,q3,k3⟩:=he bk;have Ml:(Y++τ')[g1.length+k]?=!(!(V.ref D)):=by rw[ag.2 _ cU];exact wR
   refine#[t2,q2,k2 _ fT Mb H2 _ s4 λH5 wU M5 s5 jT=>iN #[t3,q3,k3 _ wU M5 H5 _ s5 λv H6 Uv M6 s6 Kc R6=>?_]]
   obtain⟨a,xs,f1,f2,f3,f4⟩:=s6.sl.at ha;rw[Ml]at f1;injection f1 with f1;injection f1 with f1;injection f1 with f1;subst f1;obtain⟨s7,ZC⟩:=s6.write ha Ml (f4.append (.cons R6 .nil));refine#[xs,f3,by rw[<- f4.length];exact hz',_,Uv,M6,τ',s7,(((aG.trans cY).trans jT).trans Kc).trans ZC,rfl,Ml,rest]
theorem Mm(B:bf X.env.scope scope)(hc:X.calm=true)(hN:Names X.N N' scope k)(hw:dm X z tg iter g ao g1)(ht:∀b:Bk,eG (X.blk N' scope b) z tg T)(hT:∀i∈T.ix,g1.length<=i/\i<g1.length+k)
  (hcp:jz T (g1.length+k) (λg b g'=>∀bk:Bk,cT (X.blk N' scope bk) z ifs g b g') (λg d g'=>∀bk:Bk,aA (X.blk N' scope bk) z cQ g (.dat d) g') ao (gC k g1) gE) (hacc:gE[g1.length+k]?=!(.own acc))
  (hs:∀x,foldedSetIterable iter X.env x=pure x):aA X z (.ListComp cQ [#[tg,iter,ifs,0]] scope pos) g (.new acc) (gE.take g1.length):=by
 obtain⟨wi,q,kk⟩:=nu hw ht hT hcp hacc;exact#[_,Lj B hc hN q (λb=>#[gB,jZ,dw]) hs,kk]
theorem Mp(B:bf X.env.scope scope)(hc:X.calm=true)(hN:Names X.N N' scope k)(hw:dm X z tg iter g ao g1)(ht:∀b:Bk,eG (X.blk N' scope b) z tg T)(hT:∀i∈T.ix,g1.length<=i/\i<g1.length+k)
  (hcp:jz T (g1.length+k) (λg b g'=>∀bk:Bk,cT (X.blk N' scope bk) z ifs g b g') (λg d g'=>∀bk:Bk,aA (X.blk N' scope bk) z cQ g (.dat d) g') ao (gC k g1) gE) (hacc:gE[g1.length+k]?=!(.own acc))
  (Lp:X.N.Nodup) (hy:X.N[i]?=!y) (hl:X.env.scope.names.lookup y=some .local) (hb:i∉z.bor) (hi:i<(gE.take g1.length).length)
  (hsw:swapsWith (.ListComp cQ [#[tg,iter,ifs,0]] scope pos) (!(.Name y py)) eO.line X.env=pure true)
  (hs:∀x,foldedSetIterable iter X.env x=pure x):eF X z (.Assign [.Name y py] (.ListComp cQ [#[tg,iter,ifs,0]] scope pos) eO) g .nx ((gE.take g1.length).set i (.own acc)):=by
 obtain⟨wi,q,kk⟩:=nu hw ht hT hcp hacc;refine#[_,Ln B hc hN q (λb=>#[gB,jZ,dw]) Lp hy hl hsw hs,λY As M H E s kE=>kk Y As M H _ s λv H' aB M' s' st R=>?_]
 obtain⟨a,xs,rfl,hm,hA,h0,ha,rr⟩:=R;obtain⟨aL,s2⟩:=s'.jV hb hi hm hA h0 ha rr;exact kE _ aL M' H' s2 st
end
section
theorem aA.run(he:aA X z e g r g1)(I:L2.Inv X ah Y H s)(st:S z g Y As M H)
  (k:∀v u s1 H1 aI M1,L2.Inv X ah Y H1 s1->RelV v u->S z g1 Y aI M1 H1->aq M H M1 H1->cA z g1 Y aI M1 H1 r v->Post u s1):wpAny (~~~2) X.A (eval e X.env) Post X.xe s:=by
 obtain⟨t,q,kt⟩:=he;exact bD (q ah s Y H (λv H1=>∃aI M1,S z g1 Y aI M1 H1/\aq M H M1 H1/\cA z g1 Y aI M1 H1 r v) I (kt Y As M H _ st λv H1 aI M1 s1 cN R=>#[aI,M1,s1,cN,R])) (by rintro u s1 ⟨v,H1,I1,r1,aI,M1,q1,q2,q3⟩;exact k v u s1 H1 aI M1 I1 r1 q1 q2 q3)
theorem lH.run(ho:lH X z f d1 d2 r)(I:L2.Inv X ah Y H s)(st:S z g Y As M H)(p1:Pk z.K M H d1 v1)(p2:Pk z.K M H d2 v2)(r1:RelV v1 u1)(r2:RelV v2 u2)
  (k:∀v u s1 H1 aI M1,L2.Inv X ah Y H1 s1->RelV v u->S z g Y aI M1 H1->aq M H M1 H1->cA z g Y aI M1 H1 r v->Post u s1):wpAny (~~~2) X.A (f u1 u2) Post X.xe s:=by
 obtain⟨rr,o,ko⟩:=ho;exact bD (o ah s Y H v1 v2 u1 u2 (λv H1=>∃aI M1,S z g Y aI M1 H1/\aq M H M1 H1/\cA z g Y aI M1 H1 r v) I r1 r2 (ko g Y As M H v1 v2 _ st p1 p2 λv H1 aI M1 s1 cN R=>#[aI,M1,s1,cN,R])) (by rintro u s1 ⟨v,H1,I1,r1,aI,M1,q1,q2,q3⟩;exact k v u s1 H1 aI M1 I1 r1 q1 q2 q3)
theorem aA.of (h:∀(ah: ~~~1) (s:Shared) (Y:Sg) (As M:List Addr) (H:Hp) (Post:Value->Shared->Prop),L2.Inv X ah Y H s->S z g Y As M H->
  (∀v u s1 H1 aI M1,L2.Inv X ah Y H1 s1->RelV v u->S z g1 Y aI M1 H1->aq M H M1 H1->cA z g1 Y aI M1 H1 r v->Post u s1)->wpAny (~~~2) X.A (eval e X.env) Post X.xe s):aA X z e g r g1:=
 #[λY H Q=>∃As M,S z g Y As M H/\Kn z g1 Y M H r Q,by rintro ah s Y H Q I ⟨As,M,st,k⟩;exact h ah s Y As M H _ I st λv u s1 H1 aI M1 I1 r1 q1 q2 q3=>#[v,H1,I1,r1,k v H1 aI M1 q1 q2 q3],λY As M H Q s k=>#[As,M,s,k]]
theorem bN.of (h:∀(ah: ~~~1) (s:Shared) (Y:Sg) (As M:List Addr) (H:Hp) (Post:Bool->Shared->Prop),L2.Inv X ah Y H s->S z g Y As M H->
  (∀s1 H1 aI M1,L2.Inv X ah Y H1 s1->S z g1 Y aI M1 H1->aq M H M1 H1->Post b s1)->wpAny (~~~2) X.A (isTrue e X.env (eval e X.env)) Post X.xe s):bN X z e g b g1:=
 #[λY H Q=>∃As M,S z g Y As M H/\(∀H' aB M',S z g1 Y aB M' H'->aq M H M' H'->Q b H'),by rintro ah s Y H Q I ⟨As,M,st,k⟩;exact h ah s Y As M H _ I st λs1 H1 aI M1 I1 q1 q2=>#[H1,I1,k H1 aI M1 q1 q2],λY As M H Q s k=>#[As,M,s,k]]
inductive sL(X:Cx)(z:Z):D->List CmpOp->List Expr->G->Bool->G->Prop
 |last {d1 d2:D}{op:CmpOp}{b:Expr}{g g1:G}{c:Bool}:aA X z b g (.dat d2) g1->lH X z (compareOp op) d1 d2 (.dat (.bl c))->sL X z d1 [op] [b] g c g1
 |stop {d1 d2:D}{op op':CmpOp}{ops:List CmpOp}{b b':Expr}{bs:List Expr}{g g1:G}:aA X z b g (.dat d2) g1->lH X z (compareOp op) d1 d2 (.dat (.bl false))->sL X z d1 (op::op'::ops) (b::b'::bs) g false g1
 |link {d1 d2:D}{op op':CmpOp}{ops:List CmpOp}{b b':Expr}{bs:List Expr}{g g1 g2:G}{c:Bool}:aA X z b g (.dat d2) g1->lH X z (compareOp op) d1 d2 (.dat (.bl true))->sL X z d2 (op'::ops) (b'::bs) g1 c g2->sL X z d1 (op::op'::ops) (b::b'::bs) g c g2
theorem Uw(h:sL X z d1 ops bs g c g'):∀(ah: ~~~1) (s:Shared) (Y:Sg) (H:Hp) (As M:List Addr) (Post:Value->Shared->Prop) (v1:V) (u1:Value),L2.Inv X ah Y H s->S z g Y As M H->Rep z.K M H d1 v1->RelV v1 u1->
  (∀s1 H' aB M',L2.Inv X ah Y H' s1->S z g' Y aB M' H'->aq M H M' H'->Post (.bool c) s1)->wpAny (~~~2) X.A (compareChain pos u1 ops (evalEach bs X.env)) Post X.xe s:=by
 induction h with
 |@last d1 d2 op b g g1 c he ho=>
  intro ah s Y H As M Post v1 u1 I st r rv k;refine chain_last (he.run I st λv u s1 H1 aI M1 I1 r1 q1 q2 q3=>ho.run I1 q1 (.of (r.stay q2)) (.of q3) rv r1 λv' u' s2 H2 aL M2 I2 r2 p1 p2 p3=>?_)
  rw[eY p3]at r2;cases r2;exact k s2 H2 aL M2 I2 p1 (q2.trans p2)
 |@stop d1 d2 op op' ops b b' bs g g1 he ho=>
  intro ah s Y H As M Post v1 u1 I st r rv k;refine chain_link (he.run I st λv u s1 H1 aI M1 I1 r1 q1 q2 q3=>ho.run I1 q1 (.of (r.stay q2)) (.of q3) rv r1 λv' u' s2 H2 aL M2 I2 r2 p1 p2 p3=>?_)
  rw[eY p3]at r2;cases r2;exact nV (ite_ff (k s2 H2 aL M2 I2 p1 (q2.trans p2)))
 |@link d1 d2 op op' ops b b' bs g g1 g2 c he ho hch ih=>
  intro ah s Y H As M Post v1 u1 I st r rv k;refine chain_link (he.run I st λv u s1 H1 aI M1 I1 r1 q1 q2 q3=>ho.run I1 q1 (.of (r.stay q2)) (.of q3) rv r1 λv' u' s2 H2 aL M2 I2 r2 p1 p2 p3=>?_)
  rw[eY p3]at r2;cases r2;exact nV (ite_tt (ih ah s2 Y H2 aL M2 Post v u I2 p1 (Rep.stay p2 q3) r1 λs3 H3 jO M3 I3 w1 w2=>k s3 H3 jO M3 I3 w1 ((q2.trans p2).trans w2)))
theorem Mq(h:sL X z d1 ops bs g c g'):∀(ah: ~~~1) (s:Shared) (Y:Sg) (H:Hp) (As M:List Addr) (Post:Bool->Shared->Prop) (v1:V) (u1:Value),L2.Inv X ah Y H s->S z g Y As M H->Rep z.K M H d1 v1->RelV v1 u1->
  (∀s1 H' aB M',L2.Inv X ah Y H' s1->S z g' Y aB M' H'->aq M H M' H'->Post c s1)->wpAny (~~~2) X.A (testChain pos u1 ops (evalEach bs X.env)) Post X.xe s:=by
 induction h with
 |@last d1 d2 op b g g1 c he ho=>
  intro ah s Y H As M Post v1 u1 I st r rv k;refine test_last (he.run I st λv u s1 H1 aI M1 I1 r1 q1 q2 q3=>ho.run I1 q1 (.of (r.stay q2)) (.of q3) rv r1 λv' u' s2 H2 aL M2 I2 r2 p1 p2 p3=>?_)
  rw[eY p3]at r2;cases r2;exact nV (k s2 H2 aL M2 I2 p1 (q2.trans p2))
 |@stop d1 d2 op op' ops b b' bs g g1 he ho=>
  intro ah s Y H As M Post v1 u1 I st r rv k;refine test_link (he.run I st λv u s1 H1 aI M1 I1 r1 q1 q2 q3=>ho.run I1 q1 (.of (r.stay q2)) (.of q3) rv r1 λv' u' s2 H2 aL M2 I2 r2 p1 p2 p3=>?_)
  rw[eY p3]at r2;cases r2;exact nV (ite_ff (k s2 H2 aL M2 I2 p1 (q2.trans p2)))
 |@link d1 d2 op op' ops b b' bs g g1 g2 c he ho hch ih=>
  intro ah s Y H As M Post v1 u1 I st r rv k;refine test_link (he.run I st λv u s1 H1 aI M1 I1 r1 q1 q2 q3=>ho.run I1 q1 (.of (r.stay q2)) (.of q3) rv r1 λv' u' s2 H2 aL M2 I2 r2 p1 p2 p3=>?_)
  rw[eY p3]at r2;cases r2;exact nV (ite_tt (ih ah s2 Y H2 aL M2 Post v u I2 p1 (Rep.stay p2 q3) r1 λs3 H3 jO M3 I3 w1 w2=>k s3 H3 jO M3 I3 w1 ((q2.trans p2).trans w2)))
theorem Gr(ha:aA X z a g (.dat d1) g1)(h:sL X z d1 (Ux::Uy::ops) (b1::b2::bs) g1 c g2)(hm:lastMarks (Ux::Uy::ops) (b1::b2::bs)=false):aA X z (.Compare a (Ux::Uy::ops) (b1::b2::bs) pos) g (.dat (.bl c)) g2:=
 aA.of λah s Y As M H Post I st k=>Compare_chain (ha.run I st λv u s1 H1 aI M1 I1 r1 q1 q2 q3=>Uw h ah s1 Y H1 aI M1 Post v u I1 q1 q3 r1 λs2 H2 aL M2 I2 p1 p2=>k (.bl c) (.bool c) s2 H2 aL M2 I2 rfl p1 (q2.trans p2) (.bl c)) hm
theorem Gs(ha:aA X z a g (.dat d1) g1)(h:sL X z d1 (Ux::Uy::ops) (b1::b2::bs) g1 c g2)(hm:lastMarks (Ux::Uy::ops) (b1::b2::bs)=false):bN X z (.Compare a (Ux::Uy::ops) (b1::b2::bs) pos) g c g2:=
 bN.of λah s Y As M H Post I st k=>isTrue_chain (ha.run I st λv u s1 H1 aI M1 I1 r1 q1 q2 q3=>Mq h ah s1 Y H1 aI M1 Post v u I1 q1 q3 r1 λs2 H2 aL M2 I2 p1 p2=>k s2 H2 aL M2 I2 p1 (q2.trans p2)) hm
inductive lK(X:Cx)(z:Z)(c:Expr)(body:List Stmt):Nat->G->Fl->G->Prop
 |done {n:Nat}{g g1:G}:bN X z c g false g1->lK X z c body n g .nx g1
 |next {n:Nat}{g g1 g2 g3:G}{f:Fl}:bN X z c g true g1->dG X z body g1 .nx g2->lK X z c body n g2 f g3->lK X z c body (n+1) g f g3
 |cont {n:Nat}{g g1 g2 g3:G}{f:Fl}:bN X z c g true g1->dG X z body g1 .ct g2->lK X z c body n g2 f g3->lK X z c body (n+1) g f g3
 |brk {n:Nat}{g g1 g2:G}:bN X z c g true g1->dG X z body g1 .bk g2->lK X z c body n g .nx g2
 |ret {n:Nat}{g g1 g2:G}{r:R}:bN X z c g true g1->dG X z body g1 (.rt r) g2->lK X z c body n g (.rt r) g2
def ZD(X:Cx)(e:Expr):TT:=λY H Q=>∃t,PT X e t/\t Y H Q
theorem Gu{e:Expr}:PT X e (ZD X e):=λah s Y H Q I h=>let #[t,q,k]:=h;q ah s Y H Q I k
theorem Gv{ce:Expr}{body:List Stmt}{n:Nat}{f:Fl}{g':G}(hp:PassesOwn (~~~2) X.A X.env X.xe)(h:lK X z ce body n g f g'):eF X z (.While ce body [] pos) g f g':=by
 refine#[_,uF hp Gu lU,λY As M H E s k=>?_]
 refine#[λm σ2 H2=>∃g2 aL M2,S z g2 σ2 aL M2 H2/\aq M H M2 H2/\lK X z ce body m g2 f g',#[n,g,As,M,s,aq.refl _ _,h],?_]
 rintro m σ2 H2 ⟨g2,aL,M2,s2,aG,w⟩;cases w with
 |done hc=>obtain⟨t,q,kt⟩:=hc;exact#[t,q,kt σ2 aL M2 H2 _ s2 λH3 jO M3 s3 cY=>lF (k σ2 jO M3 H3 s3 (aG.trans cY))]
 |@next m' _ g3 g4 _ _ hc hb w'=>
  obtain⟨t,q,kt⟩:=hc;obtain⟨tb,qb,kb⟩:=hb;refine#[t,q,kt σ2 aL M2 H2 _ s2 λH3 jO M3 s3 cY=>iN #[λσ' H'=>∃g2 aL M2,S z g2 σ' aL M2 H'/\aq M H M2 H'/\lK X z ce body m' g2 f g',λσ' H' hN=>#[m',pE _,hN],tb,qb,kb σ2 jO M3 H3 _ s3 λσ4 fT M4 H4 s4 sJ=>?_]]
  exact#[g4,fT,M4,s4,(aG.trans cY).trans sJ,w']
 |@cont m' _ g3 g4 _ _ hc hb w'=>
  obtain⟨t,q,kt⟩:=hc;obtain⟨tb,qb,kb⟩:=hb;refine#[t,q,kt σ2 aL M2 H2 _ s2 λH3 jO M3 s3 cY=>iN #[λσ' H'=>∃g2 aL M2,S z g2 σ' aL M2 H'/\aq M H M2 H'/\lK X z ce body m' g2 f g',λσ' H' hN=>#[m',pE _,hN],tb,qb,kb σ2 jO M3 H3 _ s3 λσ4 fT M4 H4 s4 sJ=>?_]]
  exact#[g4,fT,M4,s4,(aG.trans cY).trans sJ,w']
 |brk hc hb=>obtain⟨t,q,kt⟩:=hc;obtain⟨tb,qb,kb⟩:=hb;exact#[t,q,kt σ2 aL M2 H2 _ s2 λH3 jO M3 s3 cY=>iN #[λ_ _=>False,λσ' H' hN=>hN.elim,tb,qb,kb σ2 jO M3 H3 _ s3 λσ4 fT M4 H4 s4 sJ=>k σ4 fT M4 H4 s4 ((aG.trans cY).trans sJ)]]
 |ret hc hb=>obtain⟨t,q,kt⟩:=hc;obtain⟨tb,qb,kb⟩:=hb;exact#[t,q,kt σ2 aL M2 H2 _ s2 λH3 jO M3 s3 cY=>iN #[λ_ _=>False,λσ' H' hN=>hN.elim,tb,qb,kb σ2 jO M3 H3 _ s3 λv σ4 fT M4 H4 s4 sJ R=>k v σ4 fT M4 H4 s4 ((aG.trans cY).trans sJ) R]]
noncomputable def Mr:D->Option Bool
 |.bl b=>!b
 |.non=>!false
 |.int i=>!(i != 0)
 |.lst l=>!((not l.isEmpty))
 |.tup l=>!((not l.isEmpty))
 |.fix l=>!((not l.isEmpty))
 |_=>none
end
end Ev
namespace HT
section
theorem ig{t sl:Addr}{ao:Array Value}{vl vu:Value}{lo hi:Option Int}{Q:Value->Shared->Prop}(ht:IsTup s.heap t ao)(hs:s.heap.IsSliceOf sl vl vu .none)(pl:IsPart vl lo)(pu:IsPart vu hi)
  (hw:bL ao.size 0 lo=0/\bL ao.size ao.size hi=ao.size)
  (h:Q (.ref t) s):wpAny (model prog w) A (getItem (.ref t) (.ref sl)) Q E s:=by
 obtain⟨os,hos,hcs,hds⟩:=id hs;have hTs:s.TypeIs (.ref sl) "slice" :=#[os,hos,hcs];unfold getItem
 try with_reducible refine hU ?_
 first |refine aS (a8 ?_) |skip
 refine aS (wpAny_sequenceKey ht.typeIs ⋯ ?_);refine aS (n4 ht.typeIs u7
  (mE u7 ht.typeIs entry_tuple_getitem ?_ (args_tuple_getitem _ _)))
 show wpAny _ _ (Builtin.Tuple.tupleItemsOf (.ref t) >>= _) _ _ s;refine aS (tupleItemsOf_ ht ?_);refine aS (A7 hTs ?_);refine aS (eV hs pl pu ?_);have hyes:(((bL ao.size 0 lo:Nat):Int)==0&&(1:Int)==1&&(bL ao.size ao.size hi - bL ao.size 0 lo)==ao.size)=true:=by rw[hw.1,hw.2];simp
 show wpAny _ _ (if (((bL ao.size 0 lo:Nat):Int)==0&&(1:Int)==1&&(bL ao.size ao.size hi - bL ao.size 0 lo)==ao.size)=true then _ else _) _ _ s
 rw[hV hyes];refine aS (aS (A7 ht.typeIs (a8 ?_)));exact aS (A9 (a8 #[_,rfl,a8 h]))
end
end HT
namespace Ev
open L2
def lM{α:Type}(xs:List α)(lo hi:Option Int):List α:=(xs.drop (HT.bL xs.length 0 lo)).take (HT.bL xs.length xs.length hi - HT.bL xs.length 0 lo)
theorem xN{α:Type}{xs:List α}{lo hi:Option Int}(h:HT.bL xs.length 0 lo=0/\HT.bL xs.length xs.length hi=xs.length):lM xs lo hi=xs:=by unfold lM;rw[h.1,h.2,List.drop_zero,Nat.sub_zero,CC]
section
variable{lo hi:Option Expr}
def rSlA(K:Frag):V->Option Int->Option Int->Hp->VK->Prop:=λx lo hi H Q=>∃a xs,x=.ref a/\eU K H a xs/\
 ((HT.bL xs.length 0 lo=0/\HT.bL xs.length xs.length hi=xs.length/\Q (.ref a) H)\/(¬ (HT.bL xs.length 0 lo=0/\HT.bL xs.length xs.length hi=xs.length)/\∀p,H p=none->Q (.ref p) (upd H p (.tup (xB xs lo hi)))))
theorem Ms:SlR X (rSlA X.K):=by
 intro ah s Y H x v vl vu lo hi sl Q I rx hs pl pu h;obtain⟨a,xs,rfl,hx,h⟩:=h;rcases h with ⟨h1,h2,q⟩ |⟨h1,q⟩
 .
  cases rx;obtain⟨its,r,ht,hz⟩:=I.tuple hx;have aH:its.toArray.size=xs.length:=by rw[b8];exact r.length.symm
  refine#["tuple",_,PyProof.Rows.slot_tuple_getitem.lookup,ht.typeIs,?_];exact HT.ig ht hs pl pu (by rw[aH];exact#[h1,h2]) #[.ref a,H,I,rfl,q]
 . exact Sw ah s Y H (.ref a) v vl vu lo hi sl Q I rx hs pl pu #[a,xs,rfl,hx,h1,q]
def sM(X:Cx)(z:Z)(e:Option Expr)(g:G)(o:Option Int)(g':G):Prop:=
 ∃t,PO X e t/\∀Y As M H (Q:Option Int->Hp->Prop),S z g Y As M H->(∀H' aB M',S z g' Y aB M' H'->aq M H M' H'->Q o H')->t Y H Q
theorem BK:sM X z none g none g:=#[_,La,λY As M H Q s k=>k H As M s (aq.refl _ _)]
theorem BL(h:aA X z e g ‹i› g1):sM X z (!e) g (!i) g1:=by
 obtain⟨t,q,k⟩:=h;refine#[_,Lb q,λY As M H Q s kk=>k Y As M H _ s λv H' aB M' s' st R=>?_]
 have R':=R;cases R';exact#[i,rfl,kk H' aB M' s' st]
theorem aD.cut{K:Frag}{M:List Addr}{H:Hp}{ds:List D}{vs:List V}(r:aD K M H ds vs)(l u:Option Int):aD K M H (lM ds l u) (xB vs l u):=by unfold lM xB;rw[r.length];exact aD.take _ (aD.drop _ r)
theorem BP{r:R}{l:List D}{d:D}{i j:Option Int}(hK:z.K=X.K)(h:aA X z a g r g1)(h1:sM X z lo g1 i g2)(h2:sM X z hi g2 j g3)(hp:pk r g3=!(.lst l)):aA X z (.Subscript a (.Slice lo hi none p2) pos) g (.new (lM l i j)) g3:=by
 obtain⟨t,q,k⟩:=h;obtain⟨t1,q1,k1⟩:=h1;obtain⟨t2,q2,k2⟩:=h2;refine#[_,mR zp q q1 q2,λY As M H Q s kk=>k Y As M H _ s λv H1 aI M1 s1 cN R=>k1 Y aI M1 H1 _ s1 λH2 aL M2 s2 aG=>k2 Y aL M2 H2 _ s2 λH3 jO M3 s3 cY=>?_]
 obtain⟨b,xs,rfl,e1,e2⟩:=(s3.pk (aG.trans cY) R hp).list;refine#[b,xs,rfl,cu.of e1,λp hp=>?_]
 exact kk _ _ jO (p::M3) (s3.aO hp) (((cN.trans aG).trans cY).trans (aq.aO hp)) #[p,_,rfl,b0,λhA=>s3.fresh hp (s3.sub p hA),s3.bY hp,az,(e2.cut i j).stay (aq.aO hp)]
theorem BR(hK:z.K=X.K)(h:aA X z a g (.dat (.fix l)) g1)(h1:sM X z lo g1 i g2)(h2:sM X z hi g2 j g3):aA X z (.Subscript a (.Slice lo hi none p2) pos) g (.new (lM l i j)) g3:=by
 obtain⟨t,q,k⟩:=h;obtain⟨t1,q1,k1⟩:=h1;obtain⟨t2,q2,k2⟩:=h2;refine#[_,mR zp q q1 q2,λY As M H Q s kk=>k Y As M H _ s λv H1 aI M1 s1 cN R=>k1 Y aI M1 H1 _ s1 λH2 aL M2 s2 aG=>k2 Y aL M2 H2 _ s2 λH3 jO M3 s3 cY=>?_]
 have R':=Rep.stay (aG.trans cY) R;cases R' with
 |@fix _ b xs e1 e2=>
  refine#[b,xs,rfl,hK▸e1.sq,λp hp=>?_]
  exact kk _ _ jO (p::M3) (s3.aO hp) (((cN.trans aG).trans cY).trans (aq.aO hp)) #[p,_,rfl,b0,λhA=>s3.fresh hp (s3.sub p hA),s3.bY hp,az,(e2.cut i j).stay (aq.aO hp)]
theorem BV(hK:z.K=X.K)(h:aA X z a g (.dat (.tup l)) g1)(h1:sM X z lo g1 i g2)(h2:sM X z hi g2 j g3):aA X z (.Subscript a (.Slice lo hi none p2) pos) g (.dat (.tup (lM l i j))) g3:=by
 obtain⟨t,q,k⟩:=h;obtain⟨t1,q1,k1⟩:=h1;obtain⟨t2,q2,k2⟩:=h2;refine#[_,mR Ms q q1 q2,λY As M H Q s kk=>k Y As M H _ s λv H1 aI M1 s1 cN R=>k1 Y aI M1 H1 _ s1 λH2 aL M2 s2 aG=>k2 Y aL M2 H2 _ s2 λH3 jO M3 s3 cY=>?_]
 have R':=Rep.stay (aG.trans cY) R;cases R' with
 |@tup _ b xs e1 e2=>
  refine#[b,xs,rfl,hK▸e1.sq,?_];by_cases hw:HT.bL xs.length 0 i=0/\HT.bL xs.length xs.length j=xs.length
  .
   refine .inl #[hw.1,hw.2,kk _ _ jO M3 s3 ((cN.trans aG).trans cY) ?_];have e:=xN (by rw[e2.length];exact hw)
   rw[e];exact .tup e1 e2
  . exact .inr #[hw,λp hp=>kk _ _ jO M3 (s3.laid hp) (((cN.trans aG).trans cY).trans (aq.laid hp)) (.tup (.inl #[s3.fresh hp,.inl az]) ((e2.cut i j).stay (aq.laid hp)))]
theorem Gw(hK:z.K=X.K)(h:aA X z e g r g1)(hp:pk r g1=!d)(hb:Mr d=!b)(he:∀whole,isTrue e X.env whole=(do let v <- whole;standAt e.pos;holding [v] (truthy v))):bN X z e g b g1:=by
 obtain⟨t,q,k⟩:=h;refine#[_,Fc q he,λY As M H Q s kk=>k Y As M H _ s λv H1 aI M1 s1 cN R=>#[b,?_,kk H1 aI M1 s1 cN]]
 have p:=s1.pk (aq.refl _ _) R hp;cases d with
 |non=>rw[p.non];cases hb;rfl
 |bl c=>rw[p.bl];cases hb;rfl
 |int i=>rw[p.int];cases hb;rfl
 |str x=>cases hb
 |emp _=>cases hb
 |lG _=>cases hb
 |uo _ _=>cases hb
 |lst l=>obtain⟨a,xs,rfl,e1,e2⟩:=p.list;cases hb;refine .inl #[xs,cu.of e1,?_];cases e2 <;> rfl
 |tup l=>obtain⟨a,xs,rfl,e1,e2⟩:=p.tup;cases hb;refine .inr (.inl #[xs,hK▸e1.sq,?_]);cases e2 <;> rfl
 |fix l=>obtain⟨a,xs,rfl,e1,e2⟩:=p.fix;cases hb;refine .inl #[xs,hK▸e1.sq,?_];cases e2 <;> rfl
theorem Uz(hn:sI X x i)(hb:i∉z.bor)(h:aA X z e g (.dat d2) g1)(hg:g[i]?=!(.dat d1))(ho:lH X z (inplaceOp op) d1 d2 (.dat d)) :
  eF X z (.AugAssign (.Name x pos') op e pos) g .nx (g1.set i (.dat d)):=by
 obtain⟨t,q,k⟩:=h;obtain⟨rr,o,ko⟩:=ho;refine#[_,Ey hn.nd hn.ix hn.lc q (show PIp X op rr from λah s Y H x y v u Q I r1 r2 hq=>o ah s Y H x y v u Q I r1 r2 hq) hn.fn,λY As M H E s kk=>?_]
 obtain⟨v1,e1,r1⟩:=s.sl.mY hg;refine#[v1,e1,k Y As M H _ s λv2 H1 aI M1 s1 cN R=>ko g1 Y aI M1 H1 v1 v2 _ s1 (.of (r1.stay cN)) (.of R) λv H2 aL M2 s2 aG R2=>?_]
 obtain⟨jO,s3⟩:=s2.ez hb R2;exact kk _ jO M2 H2 s3 (cN.trans aG)
end
section
theorem UG(I:L2.Inv X ah Y H s)(p:Pk X.K M H d v)(r:RelV v u):∃Hh,PySem.W.KitX X.K u (Ec d) Hh/\Hh s.heap/\u≠.builtin "__main__.__loader__#opaque" :=by
 cases d with
 |non=>have q:=p.non;subst q;cases r;exact#[_,PySem.W.kitx_none,True.intro,λz=>nomatch z]
 |bl y=>have q:=p.bl;subst q;cases r;exact#[_,PySem.W.kitx_bool,True.intro,λz=>nomatch z]
 |int i=>have q:=p.int;subst q;obtain⟨t,rfl⟩:=r;exact#[_,PySem.W.kitx_int,True.intro,λz=>nomatch z]
 |str y=>have q:=p.str;subst q;obtain⟨t,rfl⟩:=r;exact#[_,PySem.W.kitx_str,True.intro,λz=>nomatch z]
 |tup l=>obtain⟨a,xs,rfl,ha,_⟩:=p.tup;cases r;obtain⟨its,_,⟨o,h1,h2,_⟩,_⟩:=I.tuple ha.sq;exact#[_,PySem.W.kitx_tuple,#[o,h1,h2],λz=>nomatch z]
 |lst l=>obtain⟨a,xs,rfl,ha,_⟩:=p.list;cases r;obtain⟨its,_,pl,_⟩:=I.list (cu.of ha);obtain⟨o,h1,h2,_⟩:=pl.isList;exact#[_,B3,#[o,h1,h2],λz=>nomatch z]
 |fix l=>obtain⟨a,xs,rfl,ha,_⟩:=p.fix;cases r;obtain⟨its,_,pl,_⟩:=I.list ha.sq;obtain⟨o,h1,h2,_⟩:=pl.isList;exact#[_,B3,#[o,h1,h2],λz=>nomatch z]
 |emp m=>
  cases p with
  |of q=>
   cases q with
   |emp _ ha=>cases r;obtain⟨_,_,_,vs,_,o,es,ep,h1,h2,_⟩:=I.hok _ _ ha;exact#[_,B4,#[o,h1,h2.1],λz=>nomatch z]
 |lG C=>
  cases p with
  |of q=>
   cases q with
   |lG k _ ha=>cases r;obtain⟨⟨o,h1,h2,h3,h4⟩,_⟩:=I.hok _ _ ha;exact#[_,uU k,#[o,h1,h2,h3,by rw[h4];trivial],λz=>nomatch z]
 |uo ks ds=>
  cases p with
  |of q=>
   cases q with
   |uo _ ha _ _=>cases r;obtain⟨_,_,vs,_,o,es,ep,h1,h2,_⟩:=I.hok _ _ ha;exact#[_,B4,#[o,h1,h2.1],λz=>nomatch z]
theorem zz:∀{ns:List String}{us:List Value},Vals (ns.map V.ty) us->us=ns.map Value.type
 | [],_,r=>by rw[List.map_nil]at r;cases r;rfl
 |n::ns,_,r=>by
  cases r with
  |cons r1 r2=>cases r1;rw[zz r2];rfl
theorem BW:cF X (.builtin "isinstance") (λxs H Q=>∃(x:V) (p:Addr) (ns:List String) (M:List Addr) (d:D) (b:Bool),xs=[x,.ref p]/\Pk X.K M H d x/\eU X.K H p (ns.map V.ty)/\PySem.W.kitAny X.K (Ec d) (ns.map Value.type)=!b/\Q (.bl b) H):=by intro ah s Y H xs us Q I r h;obtain⟨x,p,ns,M,d,b,rfl,pk,hp,e,q⟩:=h;obtain⟨u,w',rfl,r1,r2⟩:=vals2 r;cases r2;obtain⟨Hh,Zk,hH,hx⟩:=UG I pk r1;obtain⟨its,rv,⟨o,h1,h2,n,h3⟩,_⟩:=I.tuple hp;rw[zz rv]at h3;obtain⟨c,dd,dt,sl⟩:=o;have h2':=h2;have h3':=h3;subst h2' h3';exact PySem.W.kia_tup Zk I.mG hH h1 e hx λtk=>#[.bl b,H,I.tok tk,rfl,q]
structure TyOk(X:Cx)(T:Str)(n:String):Prop where
 gl:Gl X T
 mg:X.mg T=none
 bt:bootBuiltins T=!(.type n)
 nn:T≠ "__name__"
 db:(T==(~~~3))=false
inductive nF(X:Cx):List Expr->List String->Prop
 |nil:nF X [] []
 |cons {T:Str}{n:String}{p:Pos}{es:List Expr}{ns:List String}:TyOk X T n->nF X es ns->nF X (.Name T p::es) (n::ns)
theorem nF.pa(h:nF X es ns):∃t,PA X es t/\∀Y H (Q:List V->Hp->Prop),Q (ns.map V.ty) H->t Y H Q:=by
 induction h with
 |nil=>exact#[_,fF,λY H Q q=>q]
 |@cons T n p es ns h _ ih=>obtain⟨t,q,k⟩:=ih;have pT:PE X (.Name T p) (tC (.ty n)):=rT h.gl h.mg h.bt rfl h.nn h.db;exact#[_,bA pT q rfl,λY H Q hq=>k Y H _ hq]
theorem Mu(hK:z.K=X.K)(h:aA X z a g r1 g1)(hp:pk r1 g1=!d)(ht:nF X es ns)(hl:ns.length<=16777216)(he:∀M H v,Pk X.K M H d v->PySem.W.kitAny X.K (Ec d) (ns.map Value.type)=!b)
  (hg:Gl X "isinstance") (hm:X.mg "isinstance"=none) (hv:bootBuiltins "isinstance"=!(.builtin "isinstance"))
  (hs:starEach [a,.Tuple es k pT] X.env=(false,eval a X.env)::starEach [.Tuple es k pT] X.env):aA X z (.Call (.Name "isinstance" p) [a,.Tuple es k pT] [] pos) g (.dat (.bl b)) g1:=by
 obtain⟨t,q,kk⟩:=h;obtain⟨tt,qt,kt⟩:=ht.pa;refine#[_,gj BW hg hm hv (bA q (bA (xu qt) fF) hs) ⋯ ⋯ hs,λY As M H Q s kq=>kk Y As M H _ s λv H' aB M' s' st R=>kt Y H' _ #[by rw[eA];exact gw hl,λa ha=>?_]]
 have s2:=s'.laid (o:=.tup (ns.map V.ty)) ha;have pp:=s'.pk (aq.refl _ _) R hp;refine#[v,a,ns,M',d,b,rfl,?_,.inl (.inl az),he _ _ _ (hK▸pp),kq _ _ aB M' s2 (st.trans (aq.laid ha)) (.bl b)];rw[<- hK];cases pp with
 |of r=>exact .of (r.stay (aq.laid ha))
 |lst e1 e2=>exact .lst (by rw[au (aE e1 ha)];exact e1) (e2.stay (aq.laid ha))
theorem BX(hN:X.N[i]?=!x)(hv:um X.env.scope x)(hd:(x==(~~~3))=false)(bU:(x==("__classdict__":Str))=false)(hg:g[i]?=!(.own l0))(h:bO X z [e] g [.dat (.lst m)] g1)(uq:g1[i]?=!(.own l))(hl:l.length+m.length<=16777216)
  (hbase:attributeBase (.Name x pn) "extend" X.env (eval (.Name x pn) X.env)=eval (.Name x pn) X.env)
  (hline:(cM.endLine==bT.line)=true) (hs:starEach [e] X.env=(false,eval e X.env)::starEach [] X.env):aA X z (.Call (.Attribute (.Name x pn) "extend" cM) [e] [] bT) g (.dat .non) (g1.set i (.own (l++m))):=by
 obtain⟨t,q,k⟩:=h;refine#[_,zq BB PySem.F.slot_list_extend PySem.F.type_list_extend Bm (fY hN hv hd bU) q hbase (by rw[hs];rfl) hline hs rfl,λY As M H Q s kk=>?_]
 obtain⟨a,xs,e1,e2,e3,e4⟩:=s.sl.at hg;refine#[.ref a,e1,.inl #[rfl,xs,cu.of e3],k Y As M H _ s λvs H' aB M' s' st R=>?_]
 obtain⟨b,ys,f1,f2,f3,f4⟩:=s'.sl.at uq;rw[e1]at f1;injection f1 with f1;injection f1 with f1;injection f1 with f1;subst f1;cases R with
 |dat r R=>
  cases R;cases r with
  |@lst _ c zs hc rr=>
   refine#[a,c,ys,zs,rfl,rfl,f3,hc.2,by rw[<- f4.length,<- rr.length];exact hl,?_]
   obtain⟨s2,aG⟩:=s'.write uq e1 (f4.append rr);exact kk _ _ aB M' s2 (st.trans aG) .non
end
noncomputable def ins(a:Int): ~~~0->List Int
 | []=>[a]
 |b::l=>if a<=b then a::b::l else b::ins a l
def bQ: ~~~0->List Int
 | []=>[]
 |a::l=>ins a (bQ l)
theorem nG(a:Int):∀l:List Int,(ins a l).Perm (a::l)
 | []=>AQ _
 |b::l=>by
  unfold ins;split
  . exact AQ _
  . exact ((nG a l).cons b).trans (List.Perm.swap a b l)
theorem bZ:∀l:List Int,(bQ l).Perm l
 | []=>AQ _
 |a::l=>(nG a _).trans ((bZ l).cons a)
theorem nI(a:Int):∀{l: ~~~0},l.Pairwise (· <= ·)->(ins a l).Pairwise (· <= ·)
 | [],_=>List.pairwise_singleton _ _
 |b::l,h=>by
  obtain⟨h1,h2⟩:=w9.mp h;unfold ins;split
  .
   rename_i hab;refine w9.mpr #[λx hx=>?_,h]
   rcases dL.mp hx with rfl |hx
   . exact hab
   . exact Int.le_trans hab (h1 x hx)
  .
   rename_i hab;refine w9.mpr #[λx hx=>?_,nI a h2]
   rcases dL.mp ((nG a l).mem_iff.mp hx)with rfl |hx
   . lia
   . exact h1 x hx
theorem jA:∀l:List Int,(bQ l).Pairwise (· <= ·)
 | []=>List.Pairwise.nil
 |a::l=>nI a (jA l)
theorem nJ(hp:m.Perm l)(hs:m.Pairwise (· <= ·)):m=bQ l:=
 (hp.trans (bZ l).symm).eq_of_pairwise (λx y _ _ h1 h2=>Int.le_antisymm h1 h2) hs (jA l)
section
theorem qy{K:Frag}{M:List Addr}{H:Hp}:∀ns:List Int,aD K M H (ns.map D.int) (ns.map V.int)
 | []=>.nil
 |n::ns=>.cons (.int n) (qy ns)
end
section
def ZF(X:Cx)(z:Z)(e:Expr)(g:G)(lo hi:Int)(g1:G):Prop:=
 ∀(ah: ~~~1) (s:Shared) (Y:Sg) (As M:List Addr) (H:Hp) (Post:Value->Shared->Prop),L2.Inv X ah Y H s->S z g Y As M H->
  (∀r s1 H1 aI M1 t u v,L2.Inv X ah Y H1 s1->S z g1 Y aI M1 H1->aq M H M1 H1->IsRange s1.heap r lo hi 1 t u v->Post (.ref r) s1)->wpAny (~~~2) X.A (eval e X.env) Post X.xe s
theorem bO.run(ha:bO X z es g rs g1)(I:L2.Inv X ah Y H s)(st:S z g Y As M H)
  (k:∀vs us s1 H1 aI M1,L2.Inv X ah Y H1 s1->Vals vs us->S z g1 Y aI M1 H1->aq M H M1 H1->iO z Y M1 H1 rs vs->Post us s1):wpAny (~~~2) X.A (spliced (backTo pos (starEach es X.env))) Post X.xe s:=by
 obtain⟨t,q,kt⟩:=ha;exact bD (q pos ah s Y H (λvs H1=>∃aI M1,S z g1 Y aI M1 H1/\aq M H M1 H1/\iO z Y M1 H1 rs vs) I (kt Y As M H _ st λvs H1 aI M1 s1 cN R=>#[aI,M1,s1,cN,R])) (by rintro us s1 ⟨vs,H1,I1,r1,aI,M1,q1,q2,q3⟩;exact k vs us s1 H1 aI M1 I1 r1 q1 q2 q3)
theorem rg_2(h:bO X z [a,b] g [‹c›,‹j›] g1)(hg:Gl X "range")(hm:X.mg "range"=none)(hs:starEach [a,b] X.env=[(false,eval a X.env),(false,eval b X.env)])(hs2:starEach [b] X.env=[(false,eval b X.env)]):ZF X z (.Call (.Name "range" p) [a,b] [] rp) g c j g1:=by
 intro ah s Y As M H Post I st k;refine Call_ (dP I hg hm boot_range (oC (h.run I st λvs us s1 H1 aI M1 I1 r1 q1 q2 q3=>?_) (by rw[hs,hs2]) (by rw[hs2];rfl)))
 cases q3 with
 |dat r R=>
  cases R with
  |dat r' R=>
   cases R;cases r;cases r';cases r1 with
   |cons r rr=>
    cases rr with
    |cons r' rr=>cases rr;obtain⟨t,rfl⟩:=r;obtain⟨t',rfl⟩:=r';exact call_range_2 (k _ _ H1 aI M1 _ _ _ (I1.kept λb o e=>a9 _ e) q1 q2 (IsRange.new ..))
noncomputable def BZ(lo:Int)(n:Nat):List V:=(List.range n).map λ(k:Nat)=>V.int (lo+(k:Int))
theorem Ca{lo:Int}{n:Nat}{acc:Array Value}(h:ItemsOf (λi v=>∃t,v=Value.int (lo+(i:Int) * 1) t) acc n):Vals (BZ lo n) acc.toList:=by
 have key:∀(m:Nat) (l:List Value) (o:Nat),l.length=m->(∀j v,l[j]?=!v->∃t,v=Value.int (lo+((o+j:Nat):Int)) t)->Vals ((List.range' o m).map λ(k:Nat)=>V.int (lo+(k:Int))) l:=by
  intro m
  induction m with
  |zero=>intro l o hl _;cases l with
   |nil=>exact .nil
   |cons _ _=>simp at hl
  |succ m ih=>
   intro l o hl hv;cases l with
   |nil=>simp at hl
   |cons v l=>
    obtain⟨t,e⟩:=hv 0 v rfl;refine .cons #[t,by rw[e];rfl] (ih l (o+1) (by simpa using hl) λj w hw=>?_)
    obtain⟨t',e'⟩:=hv (j+1) w (by simpa using hw)
    exact#[t',by rw[e',show o+(j+1)=o+1+j by lia]]
 unfold BZ;rw[List.range_eq_range'];refine key n acc.toList 0 (by rw[i8];exact h.1) λj v hv=>?_
 obtain⟨t,e⟩:=h.2 j v (by rw[<- AF];exact hv)
 exact#[t,by rw[e,AV,Int.mul_one]]
theorem Cb{K:Frag}{M:List Addr}{H:Hp}(lo:Int)(n:Nat):aD K M H (dR lo n) (BZ lo n):=by
 unfold dR BZ
 induction List.range n with
 |nil=>exact .nil
 |cons k l ih=>exact .cons (.int _) ih
theorem Gx{e:Expr}{lo hi:Int}(h:ZF X z e g lo hi g1)(hc:X.calm=true)(hg:Gl X "list")(hm:X.mg "list"=none)(hs:starEach [e] X.env=[(false,eval e X.env)])(h1 : -(2 ^ 62)<=lo/\lo<2 ^ 62/\-(2 ^ 62)<=hi/\hi<2 ^ 62)(hl:(hi - lo).toNat<=16777216) :
  aA X z (.Call (.Name "list" lp) [e] [] pos) g (.new (dR lo (hi - lo).toNat)) g1:=by
 refine aA.of λah s Y As M H Post I st k=>?_
 refine Call_ (dP I hg hm (by rfl:bootBuiltins ("list":Str)=!(.type "list")) (oC ?_ hs rfl))
 rw[hs];refine Calls.spliced_cons (h ah s Y As M H _ I st λr s1 H1 aI M1 t u v I1 q1 q2 hr=>Calls.spliced_nil ?_)
 have hn:Builtin.Range.rangeSize lo hi 1=(((hi - lo).toNat:Nat):Int):=by rw[rangeSize_one];split <;> lia
 refine call_list_range (I1.ok.hd hc) hr (small_one h1.1 h1.2.1 h1.2.2.1 h1.2.2.2) hn hl λh' tk acc' c' hk hS' hacc=>?_
 have hf:=I1.hok.fresh (dE _);have s2:=q1.aO (xs:=BZ lo (hi - lo).toNat) hf;have vv:=Ca hacc;have I2:=
  I1.laid (t':=tk) hk (dE _) (show bG X.prog X.w _ h' _ (.lst (BZ lo (hi - lo).toNat))from#[by rw[vv.length,i8,hacc.1];exact gw hl,acc'.toList,c',vv,by simpa using hS'])
 exact k (.ref s1⁻¹) _ _ _ aI (s1⁻¹::M1) I2 rfl s2 (q2.trans (aq.aO hf)) #[_,_,rfl,b0,λhA=>q1.fresh hf (q1.sub _ hA),q1.bY hf,az,Cb _ _]
end
section
theorem zA{ns: ~~~0}{its:List Value}(r:Vals (ns.map V.int) its){i:Nat}{v:Value}(h:its[i]?=!v):∃t,v=.int (ns.getD i 0) t:=by
 have hi:i<ns.length:=by have:=(c8.mp h).1;have e:=r.length;rw[eA]at e;lia
 obtain⟨w,e1,e2⟩:=r.get (i:=i) (x:=V.int ns[i]) (by simp[hi])
 rw[h]at e1;cases e1;obtain⟨t,e⟩:=e2;exact#[t,by rw[e];simp[hi]]
theorem Gy(hc:X.calm=true):cF X (.builtin "sum") (λxs H Q=>∃(p:Addr) (ns: ~~~0),xs=[.ref p]/\(cu X.K H p (ns.map V.int)\/eU X.K H p (ns.map V.int))/\Q (.int ns.sum) H):=by
 intro ah s Y H xs us Q I r h;obtain⟨p,ns,rfl,hp,q⟩:=h;obtain⟨u,rfl,rx⟩:=vals1 r;cases rx;have hh:X.A.in1.handled=none:=I.ok.hd hc;have fin:∀(o:Obj) (s':Shared) (t':Tok) (its:List Value),Vals (ns.map V.int) its->Moved [s⁻¹] (λa b=>b=a) { s with heap:=s.heap.push o} s'->EP X ah Y Q (.int (preSum (λi=>ns.getD i 0) its.toArray.size) t') s':=by
  intro o s' t' its rv hm;obtain⟨h',g',d',tk',os'⟩:=s';obtain⟨m1,m2,m3,m4,m5⟩:=hm;have e1:=m2;have e2:=m3;have e3:=m4;subst e1 e2 e3;have aH:its.length=ns.length:=by rw[<- rv.length,eA]
  have I1:L2.Inv X ah Y H { s with heap:=h',toks:=tk'}:=I.kept λb ob e=>m1 b ob (λhm=>by
   have:b=s⁻¹:=by simpa using hm
   exact absurd (dS e) (by rw[this];exact nN _)) (a9 _ e)
  refine#[.int ns.sum,H,I1,#[t',?_],q];rw[preSum_getD,b8,aH,CC]
 rcases hp with hp |hp
 .
  obtain⟨its,rv,pl,hz⟩:=I.list hp;have hlt:p<s⁻¹:=by obtain⟨_,e,_⟩:=pl.isList;exact dS e
  refine call_sum_walkAnyS (AH pl.isList ?_);refine#[s⁻¹,_,_,_,_,_,_,λi=>ns.getD i 0,rfl,(Walks.list hh s⁻¹ p (fA hlt) its.toArray).toS,#[#[_,dC _ rfl,rfl,rfl],pl.isList.push _],λb hb=>?_,λi v hv=>zA rv (by simpa using hv),λs' t' hm=>fin _ s' t' its rv hm]
  simp only[dL,kA,AA]at hb;rcases hb with rfl |rfl
  . exact BE (pE _) (qS _ _).symm
  . exact BE (y3 hlt) (qS _ _).symm
 .
  obtain⟨its,rv,pl,hz⟩:=I.tuple hp;have hlt:p<s⁻¹:=by obtain⟨_,e,_⟩:=pl;exact dS e
  have Ke:=pl;refine call_sum_walkAnyS (wT Ke ?_);refine#[s⁻¹,_,_,_,_,_,_,λi=>ns.getD i 0,rfl,(Walks.tuple hh s⁻¹ p (fA hlt) its.toArray).toS,#[#[_,dC _ rfl,rfl,rfl],?_],λb hb=>?_,λi v hv=>zA rv (by simpa using hv),λs' t' hm=>fin _ s' t' its rv hm]
  . exact IsTup.keeps Ke λb o e=>a9 _ e
  .
   simp only[dL,kA,AA]at hb;rcases hb with rfl |rfl
   . exact BE (pE _) (qS _ _).symm
   . exact BE (y3 hlt) (qS _ _).symm
theorem UJ(hc:X.calm=true)(hK:z.K=X.K)(h:cJ d=!l)(hi:aQ l=!ns):CallD X z (.builtin "sum") [d] (.dat (.int ns.sum)):=by
 refine#[_,Gy hc,λg Y As M H vs Q s p k=>?_]
 obtain⟨v,rfl,pv⟩:=p.one;have fin:=k _ _ As M s (aq.refl _ _) (.int _);cases d with
 |lst m=>symm;obtain⟨a,xs,rfl,e1,e2⟩:=pv.list;have:=bB e2 hi;subst this;exact#[a,ns,rfl,.inl (cu.of e1),fin]
 |tup m=>symm;obtain⟨a,xs,rfl,e1,e2⟩:=pv.tup;have:=bB e2 hi;subst this;exact#[a,ns,rfl,.inr (hK▸e1.sq),fin]
 |fix m=>symm;obtain⟨a,xs,rfl,e1,e2⟩:=pv.fix;have:=bB e2 hi;subst this;exact#[a,ns,rfl,.inl (hK▸e1.sq),fin]
 |_=>symm
end
theorem nL(o:Obj)(f):(o.mapFields f).dict=o.dict:=by obtain⟨c,d,dt,sl⟩:=o;cases dt <;> rfl
structure uv(h₀:Heap)(x C:Addr)(H:Hp)(h:Heap):Prop where
 obj:∃oe vs,h.get? x=!oe/\oe.cls=.ref C/\oe.dict=none/\oe.data=.fields vs/\1<vs.size/\(vs[1]?=some .none\/∃T oT ts,vs[1]?=!(.ref T)/\T≠x/\h₀.get? T=none/\H T=none/\h.get? T=!oT/\oT.data=.fields ts/\ts[3]?=some .none)
 new:h₀.get? x=none
 no:H x=none
section
theorem jB
  (hfr:A.frames=!(env::outer)) (hl:s.heap.FunFrames base (env::outer)) (hf:env.frame=!L) (he:s.heap.get? x=!oe) (hd:oe.data=.fields vs) (hsz:1<vs.size)
  (h:∀h',(∀b o,b∉frs (env::outer)->b≠x->s.heap.get? b=!o->h'.get? b=!o)->(∀b o,b∈frs (env::outer)->s.heap.get? b=!o->∃sl,h'.get? b=some { o with slots:=sl})->
   (∃Ef vs' oT ts,h'.get? x=!Ef/\Ef.cls=oe.cls/\Ef.dict=oe.dict/\Ef.data=.fields vs'/\1<vs'.size/\vs'[1]?=!(.ref s⁻¹)/\h'.get? s⁻¹=!oT/\oT.data=.fields ts/\ts[3]?=some .none)->Q () { s with heap:=h'}) :
  wpAny M A (do let a <- frameOf env;let pl <- entryPlaceOf L hadNext;let b <- EntryCells.newEntry head a .none (rawInt L) .none pl;setField (.ref x) 1 b) (λ_ s'=>wpAny M A (setFlight (.ref x) none) Q E s') E s:=by
 have hx:x∉(env::outer).filterMap (·.frame):=λhm=>by
  obtain⟨_,o,ho,hnf⟩:=hl.mem hm;rw[he]at ho;cases ho;exact hnf vs hd
 refine aS (wpAny_frameOf_fun hfr hl hf λh₁ hs₁=>?_)
 refine aS (wpAny_entryPlaceOf λpl jh=>?_)
 refine aS (lS ?_ (jh.sizeOk5 _ _ _ _ _));have he₁:=(hs₁.2.1 x hx).trans he;generalize hO:({ cls:=.type "traceback",dict:=none,data:=.fields ([head,.ref L,.none,rawInt L,.none]++(if pl.isEmpty then List.replicate 6 Value.none else pl)).toArray}:Obj)=O
 have he₂:=a9 O he₁;have hsz₁:=hs₁.1;have hT₂:(h₁.push O).get? h₁.objs.size=!O:=dC _ (by rw[<- hO];rfl)
 refine sT he₂ hd hsz ?_;have UL:=AS (dS he₁);have hd₃:=nE hd (·.setIfInBounds 1 (Value.ref h₁.objs.size));have he₃:=i9 (Obj.mapFields (·.setIfInBounds 1 (Value.ref h₁.objs.size))) he₂ (o4 hd₃);have hT₃:=(fI (h₁.push O) (Obj.mapFields (·.setIfInBounds 1 (Value.ref h₁.objs.size))) (sB UL)).trans hT₂;have hdO:O.data=.fields ([head,.ref L,.none,rawInt L,.none]++(if pl.isEmpty then List.replicate 6 Value.none else pl)).toArray:=by rw[<- hO]
 refine aS (xI he₃ hd₃ (x:=.ref h₁.objs.size) (by simp[hsz]) ?_)
 refine sT hT₃ hdO (by simp only[b8,eP,gL] <;> lia) (h _ ?_ ?_ ?_)
 . intro b o hb Mv ho;have ZG:=(hs₁.2.1 b hb).trans ho;rw[fI _ _ (AS (dS ZG)),fI _ _ (sB Mv)];exact a9 _ ZG
 .
  intro b o hb ho;obtain⟨sl,ZG⟩:=hs₁.2.2 b o ho;have Mv:b≠x:=λq=>hx (q▸hb)
  refine#[sl,?_];rw[fI _ _ (AS (dS ZG)),fI _ _ (sB Mv)];exact a9 _ ZG
 .
  rw[<- hsz₁];refine#[_,_,_,_,(fI _ _ UL).trans he₃,AX _ _,nL _ _,hd₃,by simp[hsz],by simp[hsz],i9 _ hT₃ (o4 (nE hdO _)),nE hdO _,?_]
  first
   | (simp;done)
   | (rcases jh with rfl |⟨_,_,_,_,_,_,_,rfl⟩ <;> simp)
theorem pJ
  (hfr:A.frames=!(env::outer)) (hl:s.heap.FunFrames base (env::outer)) (hf:env.frame=!L) (fl:uv h₀ x C H s.heap) (hn:h₀.get? s⁻¹=none) (hH:∀b,s⁻¹<=b->H b=none)
  (h:∀h',(∀b o,b∉frs (env::outer)->(h₀.get? b=none->H b=none->∀vs,o.data≠.fields vs)->s.heap.get? b=!o->h'.get? b=!o)->(∀b o,b∈frs (env::outer)->s.heap.get? b=!o->∃sl,h'.get? b=some { o with slots:=sl})->
   uv h₀ x C H h'->(∀b o,s.heap.get? b=!o->∃o',h'.get? b=!o')->Q () { s with heap:=h'}):wpAny M A (noteFrame (.ref x) env) (λ_ s'=>wpAny M A (setFlight (.ref x) none) Q E s') E s:=by
 obtain⟨⟨oe,vs,he,hc,bU,hd,hsz,hT⟩,QW,XM⟩:=fl;have hxf:x∉frs (env::outer):=λhm=>by
  obtain⟨_,o,ho,hnf⟩:=hl.mem hm;rw[he]at ho;cases ho;exact hnf vs hd
 have fin:∀(T0:Addr) (h1 h':Heap),(∀b,b≠T0->h1.get? b=s.heap.get? b)->(T0=x\/(h₀.get? T0=none/\H T0=none/\T0∉frs (env::outer)/\∃oT ts,s.heap.get? T0=!oT/\oT.data=.fields ts))->(∀o,s.heap.get? T0=!o->∃o',h1.get? T0=!o')->h1.objs.size=s⁻¹->
   (∀b o,b∉frs (env::outer)->b≠x->h1.get? b=!o->h'.get? b=!o)->(∀b o,b∈frs (env::outer)->h1.get? b=!o->∃sl,h'.get? b=some { o with slots:=sl})->
   (∃Ef vs' oT ts,h'.get? x=!Ef/\Ef.cls=oe.cls/\Ef.dict=oe.dict/\Ef.data=.fields vs'/\1<vs'.size/\vs'[1]?=!(.ref h1.objs.size)/\h'.get? h1.objs.size=!oT/\oT.data=.fields ts/\ts[3]?=some .none)->Q () { s with heap:=h'}:=by
  rintro T0 h1 h' a1 a2 a2' a3 k1 k2 ⟨Ef,vs',oT,ts,e1,e2,QH,e3,e4,e5,e6,e7,e8⟩;have hTf:=a2.elim (λq=>q▸hxf) λq=>q.2.2.1
  refine h h' (λb o hb hH' ho=>?_) (λb o hb ho=>?_) #[#[Ef,vs',e1,e2.trans hc,QH.trans bU,e3,e4,.inr #[h1.objs.size,oT,ts,e5,?_,?_,?_,e6,e7,e8]],QW,XM] λb o ho=>?_
  .
   have Mv:b≠x:=λq=>by
    subst q;rw[he]at ho;cases ho;exact hH' QW XM vs hd
   have hbT:b≠T0:=λq=>a2.elim (λz=>Mv (q.trans z)) (by
    rintro⟨z1,z2,_,oT,ts,z3,z4⟩;subst q;rw[z3]at ho;cases ho;exact hH' z1 z2 ts z4)
   exact k1 b o hb Mv ((a1 b hbT).trans ho)
  . exact k2 b o hb ((a1 b (λq=>hTf (q▸hb))).trans ho)
  . rw[a3];exact AS (dS he)
  . rw[a3];exact hn
  . rw[a3];exact hH _ (dE _)
  .
   by_cases Mv:b=x
   . exact#[Ef,Mv▸e1]
   .
    have h1b:∃o1,h1.get? b=!o1:=by
     by_cases hbT:b=T0
     . subst hbT;exact a2' o ho
     . exact#[o,(a1 b hbT).trans ho]
    obtain⟨o1,xO⟩:=h1b;by_cases hb:b∈frs (env::outer)
    . obtain⟨sl,q⟩:=k2 b o1 hb xO;exact#[_,q]
    . exact#[o1,k1 b o1 hb Mv xO]
 unfold noteFrame;simp only[hf];rcases hT with hT |⟨T,oT,ts,h1,UL,hTn,hTH,Kg,Kh,h3⟩
 . refine aS (xI he hd hT ?_);exact jB hfr hl hf he hd hsz λh' k1 k2 k3=>fin x s.heap h' (λ_ _=>rfl) (.inl rfl) (λo ho=>#[o,ho]) rfl k1 k2 k3
 .
  refine aS (xI he hd h1 ?_);refine aS (xI Kg Kh h3 ?_);refine aS (sT Kg Kh (pV.mp h3).1 ?_);have other:∀b,b≠T->(s.heap.update T (Obj.mapFields (·.setIfInBounds 3 Value.none))).get? b=s.heap.get? b:=λb hb=>fI _ _ (sB hb)
  have hTf:T∉frs (env::outer):=λhm=>by
   obtain⟨_,o,ho,hnf⟩:=hl.mem hm;rw[Kg]at ho;cases ho;exact hnf ts Kh
  have rec':∀b o,s.heap.get? b=!o->(∀vs,o.data≠.fields vs)->b≠T:=λb o hb hnf q=>by
   rw[q,Kg]at hb;cases hb;exact hnf ts Kh
  refine jB hfr (hl.of_keeps λb o hb hnf=>#[o,(other b (rec' b o hb hnf)).trans hb,rfl]) hf ((other x (sB UL)).trans he) hd hsz λh' k1 k2 k3=>?_
  exact fin T _ h' other (.inr #[hTn,hTH,hTf,oT,ts,Kg,Kh]) (λo ho=>#[_,i9 _ Kg (o4 (nE Kh _))]) (Heap.size_update ..) k1 k2 k3
end
theorem uv.mono(f:uv h₁ x C H h)(hm:∀b o,h₀.get? b=!o->∃o',h₁.get? b=!o'):uv h₀ x C H h:=by
 have no:∀b,h₁.get? b=none->h₀.get? b=none:=λb hb=>by
  cases e:h₀.get? b with
  |none=>rfl
  |some o=>obtain⟨o',e'⟩:=hm b o e;rw[hb]at e';cases e'
 obtain⟨⟨oe,vs,h1,h2,h2',h3,h4,h5⟩,h6,h7⟩:=f;exact#[#[oe,vs,h1,h2,h2',h3,h4,h5.imp id (by rintro⟨T,oT,ts,q1,q2,q3,q4⟩;exact#[T,oT,ts,q1,q2,no T q3,q4])],no x h6,h7]
def Eg(P:Program)(w:World):Bj:=λouter H s E e s'=>∃x C H',e=.ref x/\s'.os=s.os/\AllBare s'.gens/\Un (frs outer) [] H H' s.heap s'.heap/\jP P w H' s'.heap/\uv s.heap x C H' s'.heap/\E (.ref C) none H'
theorem Gz(hx:X.ex=[])(I:L2.Inv X ah Y H s)(h:Eg X.prog X.w X.stack H s E e s') :
  ∃x C H',e=.ref x/\L2.Inv X ah Y H' s'/\uv X.s₀.heap x C H' s'.heap/\E (.ref C) none H':=by
 obtain⟨x,C,H',rfl,h1,h2,h3,h4,h5,h6⟩:=h;exact#[x,C,H',rfl,I.call' h1 h3 h4 h2 (λb z=>absurd z ⋯),h5.mono λb o e=>I.base.there b o e (by rw[hx];simp),h6]
section
theorem uZ(I:L2.Inv X ah Y H' s')(b9:X.stack=X.env::X.outer)(hf:X.env.frame=!X.env.locals)(hex:X.ex=[])(fl:uv X.s₀.heap x C H' s'.heap)
  (h:∀h'',(∀b o,b∉frs (X.env::X.outer)->(X.s₀.heap.get? b=none->H' b=none->∀vs,o.data≠.fields vs)->s'.heap.get? b=!o->h''.get? b=!o)->(∀b o,b∈frs (X.env::X.outer)->s'.heap.get? b=!o->∃sl,h''.get? b=some { o with slots:=sl})->
   Un (frs X.outer) [] X.H₀ H' X.s₀.heap h''->jP X.prog X.w H' h''->uv X.s₀.heap x C H' h''->Q () { s' with heap:=h''}) :
  wpAny (~~~2) X.A (noteFrame (.ref x) X.env) (λ_ s2=>wpAny (~~~2) X.A (setFlight (.ref x) none) Q E' s2) E' s':=by
 have hl:=I.stack;rw[b9]at hl;have ub:=hex▸I.base;have hsf:=I.rR;rw[b9]at hsf;refine pJ (I.ok.frames.trans (by rw[b9])) hl hf fl (Heap.get?_none_of_le I.sz) (λb hb=>I.hok.fresh hb) λh'' k1 k2 k3 k4=>?_
 have hin:∀b,b∈frs X.outer->b∈frs (X.env::X.outer):=λb hb=>by
  unfold frs;rw[y4,hf];exact bP _ hb
 have hno:∀b o,X.s₀.heap.get? b=!o->b∉frs X.outer->b∉frs (X.env::X.outer):=λb o ho hb hm=>by
  unfold frs at hm;rw[y4,hf]at hm;rcases dL.mp hm with e |hm
  . rw[e]at ho;exact nN _ (eM (dS ho) I.ok.above)
  . exact hb hm
 have hlt:∀b o (ob:Obj),X.s₀.heap.get? b=!o->(X.s₀.heap.get? b=none->H' b=none->∀vs,ob.data≠.fields vs):=λb o ob ho hb=>by rw[ho]at hb;cases hb
 refine h h'' k1 k2 #[λb o q n hb hx=>?_,λb o q n hb hx=>?_,ub.free,λb o q hx=>?_,ub.tups,ub.jj,ub.jk] (λa o e=>?_) k3
 . exact k1 b o (hno b o q hb) (hlt b o _ q) (ub.keep b o q n hb hx)
 . obtain⟨sl,e1⟩:=ub.slot b o q n hb hx;obtain⟨sl',e2⟩:=k2 b _ (hin b hb) e1;exact#[sl',e2]
 . obtain⟨o',e1⟩:=ub.there b o q hx;exact k4 b o' e1
 .
  refine (I.hok a o e).stay (λb u hb q=>?_) (λ_ q=>q) λ_ _ q=>q
  have ht:H' b≠none:=by
   rcases hb with rfl |hb
   . rw[e];simp
   . rw[hb];simp
  exact k1 b u (λhm=>ht (hsf b hm)) (λ_ z=>absurd z ht) q
theorem qz(I:L2.Inv X ah Y H' s')(b9:X.stack=X.env::X.outer)(hf:X.env.frame=!X.env.locals)(hex:X.ex=[])(fl:uv X.s₀.heap x C H' s'.heap)
  (h:∀s'',Eg X.prog X.w X.outer X.H₀ X.s₀ (λc o h=>c=.ref C/\o=none/\h=H') (.ref x) s''->Q () s'') :
  wpAny (~~~2) X.A (leaving X.env (.ref x)) Q E' s':=by
 exact aS (uZ I b9 hf hex fl λh'' _ _ u k f=>h _ #[x,C,H',rfl,I.os,I.bare,u,k,f,rfl,rfl,rfl])
theorem Cd(I:L2.Inv X [] Y H' s')(hp:X.pn=[])(b9:X.stack=X.env::X.outer)(hf:X.env.frame=!X.env.locals)(hex:X.ex=[])(fl:uv X.s₀.heap x C H' s'.heap)
  (h:∀s'',L2.Inv X [] Y H' s''->uv X.s₀.heap x C H' s''.heap->Q () s'') :
  wpAny (~~~2) X.A (noteFrame (.ref x) X.env) (λ_ s2=>wpAny (~~~2) X.A (setFlight (.ref x) none) Q E' s2) E' s':=by
 refine uZ I b9 hf hex fl λh'' k1 k2 u k f=>h _ ?_ f
 have cellK:∀c v,s'.heap.IsCell c v->h''.IsCell c v:=by
  rintro c v ⟨o,e,d⟩;by_cases hb:c∈frs (X.env::X.outer)
  . obtain⟨sl,e2⟩:=k2 c o hb e;exact#[_,e2,d]
  . exact#[o,k1 c o hb (λ_ _ vs q=>by rw[d]at q;cases q) e,d]
 have hlm:X.env.locals∈frs (X.env::X.outer):=by unfold frs;rw[y4,hf];exact b0
 obtain⟨m,hn,hlk⟩:=I.loc;refine#[I.ok,I.os,I.bare,hex▸u,#[m,?_,λi y v h1 h2 h3=>?_],λy c e=>?_,I.free,I.cR,λp hp2=>?_,k,I.len]
 . obtain⟨o,es,ep,e,d,r⟩:=hn;obtain⟨sl,e2⟩:=k2 _ o hlm e;exact#[_,es,ep,e2,d,r]
 . obtain⟨u,r,q⟩:=hlk i y v h1 h2 h3;refine#[u,r,q.imp id (by rintro⟨q1,c,q2,q3⟩;exact#[q1,c,q2,cellK c _ q3])]
 . obtain⟨v,q⟩:=I.cell y c e;exact#[v,cellK c v q]
 . rw[hp]at hp2;cases hp2
end
theorem GC{P:Program}{w:World}{K:Frag}{mg:Str->Option Value}{base:Heap}{N:List Str}{qual:Str}{scope:Scope}{f:Addr}{cd:Value}{A:Around}{outer:List Env}{s:Shared}{H:Hp}{E:XK}{ah: ~~~1}{Y:Sg}{H':Hp}{s':Shared}{x C:Addr}
  (I:L2.Inv (fG (Eg P w) P w K mg base N qual scope f cd A outer s H E) ah Y H' s') (fl:uv s.heap x C H' s'.heap) (hE:E (.ref C) none H'):(fG (Eg P w) P w K mg base N qual scope f cd A outer s H E).xe (.ref x) s':=
 qz I rfl rfl rfl fl (by
  rintro s'' ⟨y,D,H2,e,h1,h2,h3,h4,h5,e1,e2,e3⟩;cases e;cases e1;subst e3;exact#[x,C,H2,rfl,h1,h2,h3,h4,h5,hE])
def Acc(X:Cx)(z:Z)(g':G)(M:List Addr)(H:Hp)(C:Addr)(Y:Sg):Prop:=
 ∀ah s1 H1 aI M1 x,L2.Inv X ah Y H1 s1->S z g' Y aI M1 H1->aq M H M1 H1->uv X.s₀.heap x C H1 s1.heap->X.xe (.ref x) s1
def Ce(X:Cx)(z:Z)(g':G)(M:List Addr)(H:Hp)(C:Addr):Prop:=∀Y,Acc X z g' M H C Y
theorem Acc.trans(st:aq M H M1 H1)(h:Acc X z g' M H C Y):Acc X z g' M1 H1 C Y:=λah s1 H2 aI M2 x I s st' fl=>h ah s1 H2 aI M2 x I s (st.trans st') fl
theorem Ce.trans(st:aq M H M1 H1)(h:Ce X z g' M H C):Ce X z g' M1 H1 C:=λY=>(h Y).trans st
def Eh(X:Cx)(z:Z)(e:Expr)(g:G)(C:Addr)(g':G):Prop:=∃t,PE X e t/\∀Y As M H Q,S z g Y As M H->Acc X z g' M H C Y->t Y H Q
def XQ(X:Cx)(z:Z)(e:Expr)(g:G)(C:Addr)(g':G):Prop:=∃t,PT X e t/\∀Y As M H Q,S z g Y As M H->Acc X z g' M H C Y->t Y H Q
def ZJ(X:Cx)(z:Z)(es:List Expr)(g:G)(C:Addr)(g':G):Prop:=∃t,PA X es t/\∀Y As M H Q,S z g Y As M H->Acc X z g' M H C Y->t Y H Q
def UT(X:Cx)(z:Z)(st:Stmt)(g:G)(C:Addr)(g':G):Prop:=∃t,PS X st t/\∀Y As M H E,S z g Y As M H->Ce X z g' M H C->t E Y H
def Mw(X:Cx)(z:Z)(d8:List Stmt)(g:G)(C:Addr)(g':G):Prop:=∃t,pZ X d8 t/\∀Y As M H E,S z g Y As M H->Ce X z g' M H C->t E Y H
section
variable{st:Stmt}
theorem aA.lift(h:aA X.rW z e g r g'):aA X z e g r g':=let #[t,q,k]:=h;#[t,q.rW,k]
theorem bN.lift(h:bN X.rW z e g v g'):bN X z e g v g':=let #[t,q,k]:=h;#[t,q.rW,k]
theorem UW(h:Eh X z e g C g')(he:∀whole,isTrue e X.env whole=(do let v <- whole;standAt e.pos;holding [v] (truthy v))):XQ X z e g C g':=by obtain⟨t,q,k⟩:=h;exact#[_,RM q he,λY As M H Q s ac=>k Y As M H _ s ac]
theorem Mx(h:XQ X z a g C g'):XQ X z (.UnaryOp .Not a pos) g C g':=by obtain⟨t,q,k⟩:=h;exact#[_,Es q,λY As M H Q s ac=>k Y As M H _ s ac]
theorem My(h:Eh X z e g C g')(hs:starEach (e::es) X.env=(false,eval e X.env)::starEach es X.env):ZJ X z (e::es) g C g':=by
 obtain⟨t,q,k⟩:=h;have pn:PA X es (λ_ _ _=>False):=λ_ _ _ _ _ _ _ h=>h.elim
 exact#[_,bA q pn hs,λY As M H Q s ac=>k Y As M H _ s ac]
theorem Mz(h1:aA X z e g r g1)(h:ZJ X z es g1 C g')(hs:starEach (e::es) X.env=(false,eval e X.env)::starEach es X.env):ZJ X z (e::es) g C g':=by obtain⟨t1,q1,k1⟩:=h1;obtain⟨t,q,k⟩:=h;exact#[_,bA q1 q hs,λY As M H Q s ac=>k1 Y As M H _ s λv H1 aI M1 s1 cN R1=>k Y aI M1 H1 _ s1 (ac.trans cN)]
theorem U0(h:Eh X z e g C g'):UT X z (.Return (!e) pos) g C g':=by obtain⟨t,q,k⟩:=h;exact#[_,rX q,λY As M H E s ac=>k Y As M H _ s (ac Y)]
theorem MF(h:Eh X z e g C g')(hs:swapsWith e none pos.line X.env=pure false):UT X z (.Expr e pos) g C g':=by obtain⟨t,q,k⟩:=h;exact#[_,lP q hs,λY As M H E s ac=>k Y As M H _ s (ac Y)]
theorem U1(h:XQ X z c g C g'):UT X z (.If c x y pos) g C g':=by obtain⟨t,q,k⟩:=h;exact#[_,uE q bu bu,λY As M H E s ac=>k Y As M H _ s (ac Y)]
theorem GD(h1:bN X z c g v g1)(h:Mw X z (if v then x else y) g1 C g'):UT X z (.If c x y pos) g C g':=by
 obtain⟨t1,q1,k1⟩:=h1;obtain⟨t,q,k⟩:=h;cases v with
 |true=>exact#[_,uE q1 q bu,λY As M H E s ac=>k1 Y As M H _ s λH' aB M' s' st=>iN (k Y aB M' H' _ s' (ac.trans st))]
 |false=>exact#[_,uE q1 bu q,λY As M H E s ac=>k1 Y As M H _ s λH' aB M' s' st=>lF (k Y aB M' H' _ s' (ac.trans st))]
theorem MJ(h:UT X z st g C g'):Mw X z (st::d8) g C g':=by obtain⟨t,q,k⟩:=h;exact#[_,cS q bu,λY As M H E s ac=>k Y As M H _ s ac]
theorem MK(h1:eF X z st g .nx g1)(h:Mw X z d8 g1 C g'):Mw X z (st::d8) g C g':=by obtain⟨t1,q1,k1⟩:=h1;obtain⟨t,q,k⟩:=h;exact#[_,cS q1 q,λY As M H E s ac=>k1 Y As M H _ s λσ' aB M' H' s' st'=>k σ' aB M' H' E s' (ac.trans st')]
end
def SpX(K:Frag)(N:List Str)(np:Nat)(run:List Nat->G->Addr->G->Prop):Sp:=λvs H _ E=>
 vs.length=np/\∃(z:Z) (g g':G) (As M:List Addr) (C:Addr),z.K=K/\S z g (L2.start N vs) As M H/\run z.bor g C g'/\∀σ' aB M' H',S z g' σ' aB M' H'->aq M H M' H'->E (.ref C) none H'
section
variable{run:List Nat->G->Addr->G->Prop}
theorem U3{P:Program}{w:World}{K:Frag}{mg:Str->Option Value}{base:Heap}{qual:Str}{st:Stmt}(F:Lg K x qual st f fd)(Sc:bI N ps (aC st))
  (h:∀(bx:Value) (A:Around) (outer:List Env) (s:Shared) (H:Hp) (E:XK),PySem.W.codeIn K bx qual=true->bH k (A.deeper (envOfC qual (aC st) s⁻¹ f bx))->
   ∀(z:Z) (g:G) (C:Addr) (g':G),z.K=K->run z.bor g C g'->Mw (fG (Eg P w) P w K mg base N qual (aC st) f bx A outer s H E) z (bh st) g C g') :
  iM P w K mg base (Eg P w) (k+1) f fd ps (SpX K N ps.length run):=by
 obtain⟨oc,od,kV,doc,pm,an,bx,ct,osl,rfl,lk,bU⟩:=F.ex;refine QD lk bU Sc (λvs H Q E q=>q.1) ?_
 rintro A outer s H vs Q E hr ⟨_,z,g,g',As,M,C,hK,hs,hrun,hQ⟩;obtain⟨t,q,kk⟩:=h bx A outer s H E bU hr z g C g' hK hrun;exact#[t,q,kk _ As M H _ hs λY ah s1 H1 aI M1 y I s' st' fl=>GC I fl (hQ Y aI M1 H1 s' st')]
theorem MN(F:iM X.prog X.w X.K X.mg X.base (Eg X.prog X.w) k f fd ps (SpX X.K N ps.length run))(hK:z.K=X.K)(hex:X.ex=[])(hr:bH k X.A)(hg:Gl X x)(hm:X.mg x=!(.ref f))(hk:PySem.W.keepIn X.K (.ref f)=true)(hb:L2.Binds X.K fd ps [])
  (ha:bO X z (e::es) g rs g1) (aH:rs.length=ps.length) (hl:dz rs g1=!gs) (nd:((vars 0 rs).map (·.2)).Nodup) (hrun:run ((vars 0 rs).map (·.1)) (dU N.length gs) C gc) (Gk:back (vars 0 rs) gc g1=!gO)
  (ji:(x==(~~~3))=false) (he:starEach (e::es) X.env=(false,eval e X.env)::starEach es X.env) (jh:(backTo pos (starEach es X.env)).any (·.1)=false) :
  Eh X z (.Call (.Name x p) (e::es) [] pos) g C gO:=by
 refine#[λY H Q=>∃As M,S z g Y As M H/\Acc X z gO M H C Y,?_,λY As M H Q s ac=>#[As,M,s,ac]]
 rintro ah s Y H Q I ⟨As,M,hs,ac⟩;refine o3 (fE I hg hm ?_ ji);refine Bi I.ok.mod.wY hk (ha.run I hs λvs us s1 H1 aI M1 I1 r1 q1 q2 R1=>#[I1.mG,?_]) he jh
 have hv:=R1.length;have hl2:(us++[]).length=ps.length:=by rw[oD,<- r1.length,hv,aH]
 have ee:=q1.enter (N:=N) R1 hl nd;refine CS (AL (F.run X.A X.stack s1 H1 #[us,[]] (us++[]) (vs++[]) (λ_ _=>False) (λcls _ H'=>cls=.ref C/\∃aL M2,S z gO Y aL M2 H'/\aq M H M2 H') hr I1.K7 (hb s1 us I1.mG hl2) (by rw[oD,oD];exact r1) ?_) λr s' hq=>?_)
 .
  rw[oD];refine#[by rw[hv,aH],qw z Y M1 H1 rs,dU N.length gs,gc,_,M1,C,hK,ee,by rw[jX];exact hrun,λσ' aB M' H' s' st'=>#[rfl,?_]]
  obtain⟨M2,s2,aG,_⟩:=q1.leave (r:=.dat .non) R1 hl nd s' st' .non Gk rfl;exact#[aI,M2,s2,q2.trans aG]
 .
  cases r with
  |error ev=>
   have hq:Eg X.prog X.w X.stack H1 s1 (λcls _ H'=>cls=.ref C/\∃aL M2,S z gO Y aL M2 H'/\aq M H M2 H') ev s':=hq
   obtain⟨y,C',H',rfl,I',fl,hC,aL,M2,s2,aG⟩:=Gz hex I1 hq;cases hC;exact ac ah s' H' aL M2 y I' s2 aG fl
  |ok flw=>
   cases flw with
   |ret u=>obtain⟨_,_,_,_,_,_,_,q⟩:=hq;exact q.elim
   |next=>exact False.elim hq
   |brk=>exact False.elim hq
   |cont=>exact False.elim hq
end
noncomputable def veM:List Value:=[.type "ValueError",.type "Exception",.type "BaseException",.type "object"]
abbrev dH(K:Frag)(C:Addr):Prop:=PySem.W.excIn K C veM "ValueError.__new__"=true
theorem sN{K:Frag}{h:Heap}{C:Addr}(X:K.In h)(q:dH K C) :
  ∃bm N nm qn bs hdct sn sub ab col dd k0 k1 k2 k3 k5 mN,h.get? C=!(excClassObj nm qn C N bs bm hdct sn sub ab col dd k0 k1 k2 k3 k5 "ValueError.__new__")/\h.Ns N mN/\mN "__init__"=none/\OwnTail h veM bm:=by
 unfold dH PySem.W.excIn at q;split at q
 .
  rename_i dd cd sl ho;split at q
  .
   rename_i C' bm k0 k1 k2 k3 n k5 hm hs;simp only[dA,beq_iff_eq,B5]at q;obtain⟨⟨⟨⟨⟨rfl,rfl⟩,hdel⟩,ht⟩,hok⟩,hni⟩:=q;obtain⟨nm,bs,mro,ns,qn,hd,sn,sub,ab,col,del⟩:=cd;subst hm hdel;have hsl:sl = ([k0,k1,k2,k3,!(.builtin "ValueError.__new__"),k5].toArray):=by obtain⟨l⟩:=sl;simp only at hs;rw[hs]
   subst hsl;exact#[bm,ns,nm,qn,bs,hd,sn,sub,ab,col,dd,k0,k1,k2,k3,k5,_,X _ _ ho,.of_isNs (PySem.W.isNs_of_in X hok),PySem.W.nsMap_none_of_in X hok hni,PySem.W.tail_of_in X ht]
  . cases q
 . cases q
theorem u6(x:bG P w H h a o):∃ob,h.get? a=!ob:=by
 induction o with
 |lst xs=>obtain⟨_,_,_,_,e⟩:=x;exact#[_,e]
 |tup xs=>obtain⟨_,_,_,ob,e,_⟩:=x;exact#[_,e]
 |dK dO=>obtain⟨_,_,_,_,o,_,_,e,_⟩:=x;exact#[_,e]
 |dT dO=>obtain⟨_,_,_,_,o,_,_,e,_⟩:=x;exact#[_,e]
 |set φ=>obtain⟨o,e,_⟩:=x;exact#[_,e]
 |ins C dx fs=>obtain⟨_,_,_,e,_⟩:=x;exact#[_,e]
 |own y=>exact x
 |xd fs=>obtain⟨mA,⟨o,_,_,e,_⟩,_⟩:=x;exact#[_,e]
 |rng lo hi=>obtain⟨_,_,_,e⟩:=x;exact#[_,e]
 |kP o u ih=>exact#[_,x.1]
 |lD ps=>exact#[_,x]
 |met f y=>exact#[_,x]
 |ext φ=>exact x.2.1
section
theorem GF(hc:X.calm=true)(hex:X.ex=[])(hq:dH X.K C)(hg:Gl X x)(hm:X.mg x=!(.ref C))(ji:(x==(~~~3))=false)(ha:bO X z [m] g [.dat d] g1)(hs:starEach [m] X.env=[(false,eval m X.env)]) :
  UT X z (.Raise (!(.Call (.Name x np) [m] [] bT)) none pos) g C g1:=by
 refine#[λ_ Y H=>∃As M,S z g Y As M H/\Ce X z g1 M H C,?_,λY As M H E s ac=>#[As,M,s,ac]]
 rintro ah s Y H E I ⟨As,M,st,ac⟩;obtain⟨bm,N,nm,qn,bs,hdct,sn,sub,ab,col,dd,k0,k1,k2,k3,k5,mN,hC,hN,hni,T⟩:=sN I.ok.mod.wY hq;refine wpAny_Raise_call_subU (nm:=nm) (q:=qn) (N:=N) (bs:=bs) (hdct:=hdct) (sn:=sn) (sub:=sub) (ab:=ab) (col:=col) (dd:=dd) (k0:=k0) (k1:=k1) (k2:=k2) (k3:=k3) (k5:=k5) PySem.F.excBase_ValueError ⋯ PySem.F.excBase_ValueError (T.hasType ⋯) (I.ok.hd hc) (by rw[hs];rfl) hni (fE I hg hm #[rfl,?_] ji)
 rw[hs];refine Calls.evalArgs_plain (x:=eval m X.env) (rest:=[]) ?_;have e1:spliced ((false,eval m X.env)::[])=spliced (backTo bT (starEach [m] X.env)):=by rw[hs];rfl
 rw[e1];refine (ha.run I st λvs us s1 H1 aI M1 I1 r1 q1 q2 R1=>?_)
 refine#[rfl,?_,I1.bk _ _ hC,hN.keeps I1.bk,T.keeps I1.bk,λh' e hme=>?_]
 . show us.length<=sizeLine;have:=r1.length;rw[R1.length]at this;rw[<- this];exact (by decide:(1:Nat)<=16777216)
 .
  have I2:=I1.kept (t':=s1.toks) hme.keeps;have kO:H1 e=none:=by
   cases q:H1 e with
   |none=>rfl
   |some o=>obtain⟨ob,ho⟩:=u6 (I1.hok e o q);have hn:=hme.new;rw[ho]at hn;cases hn
  refine ac Y ah _ H1 aI M1 e I2 q1 q2 ?_;obtain⟨t,ht,_,_⟩:=hme.there;refine#[#[_,_,ht,rfl,rfl,rfl,by simp,.inl ⋯],?_,kO]
  cases q:X.s₀.heap.get? e with
  |none=>rfl
  |some o=>
   obtain⟨ob,ho⟩:=I1.base.there e o q (by rw[hex];simp)
   have hn:=hme.new;rw[ho]at hn;cases hn
end
section
inductive u9(X:Cx)(z:Z):Str->List Expr->G->Str->G->Prop
 |nil {out:Str}{g:G}:u9 X z out [] g out g
 |con {out y r:Str}{j:Nat}{p:Pos}{es:List Expr}{g g':G}:(out++y).length<=16777216->u9 X z (out++y) es g r g'->u9 X z out (.Constant (.str y) j p::es) g r g'
 |int {out r:Str}{i:Int}{v:Expr}{p:Pos}{es:List Expr}{g g1 g':G}:aA X z v g ‹i› g1->i.natAbs.log2<1920->(out++(toString i:Str)).length<=16777216->u9 X z (out++(toString i:Str)) es g1 r g'->u9 X z out (.FormattedValue v (-1) none p::es) g r g'
theorem U4(h:u9 X z out es g r g'):out.length<=16777216->∀(ah: ~~~1) (s:Shared) (Y:Sg) (As M:List Addr) (H:Hp) (Post:Value->Shared->Prop),L2.Inv X ah Y H s->S z g Y As M H->
  (∀t s1 H1 aI M1,L2.Inv X ah Y H1 s1->S z g' Y aI M1 H1->aq M H M1 H1->Post (.str r t) s1)->wpAny (~~~2) X.A (joinParts out (evalEach es X.env)) Post X.xe s:=by
 induction h with
 |@nil out g=>intro hl ah s Y As M H Post I st k;exact joinParts_nil (k _ _ H As M (I.tok _) st (aq.refl _ _)) (gw hl)
 |@con out y r j p es g g' hl' _ ih=>intro hl ah s Y As M H Post I st k;show wpAny _ _ (joinParts out (eval (.Constant (.str y) j p) X.env::evalEach es X.env)) _ _ s;refine joinParts_cons (Calls.Constant_str #[gw hl',?_]);exact ih hl' ah _ Y As M H Post (I.tok _) st k
 |@int out r i v p es g g1 g' he hd hl' _ ih=>
  intro hl ah s Y As M H Post I st k;show wpAny _ _ (joinParts out (eval (.FormattedValue v (-1) none p) X.env::evalEach es X.env)) _ _ s;refine joinParts_cons (FormattedValue_plain (he.run I st λw u s1 H1 aI M1 I1 r1 q1 q2 q3=>?_))
  have Zw:Rep z.K M1 H1 (.int i) w:=q3;cases Zw;obtain⟨t,rfl⟩:=r1;refine formatField_int_small hd ?_;exact#[gw hl',ih hl' ah _ Y aI M1 H1 Post (I1.tok _) q1 λt s2 H2 aL M2 I2 p1 p2=>k t s2 H2 aL M2 I2 p1 (q2.trans p2)]
theorem MP(h:u9 X z Str.empty (e1::e2::es) g r g'):aA X z (.JoinedStr (e1::e2::es) pos) g (.dat (.str r)) g':=
 aA.of λah s Y As M H Post I st k=>JoinedStr_many (U4 h ⋯ ah s Y As M H Post I st λt s1 H1 aI M1 I1 q1 q2=>k (.str r) (.str r t) s1 H1 aI M1 I1 #[t,rfl] q1 q2 (.str r))
end
section
theorem GJ(F:iM X.prog X.w X.K X.mg X.base xF k f fd ps sp)(h:ZJ X z (e::es) g C g')(hr:bH k X.A)(hg:Gl X x)(hm:X.mg x=!(.ref f))(hk:PySem.W.keepIn X.K (.ref f)=true)(hb:L2.Binds X.K fd ps [])
  (ji:(x==(~~~3))=false) (he:starEach (e::es) X.env=(false,eval e X.env)::starEach es X.env) (jh:(backTo pos (starEach es X.env)).any (·.1)=false):Eh X z (.Call (.Name x p) (e::es) [] pos) g C g':=by
 obtain⟨t,q,kk⟩:=h;exact#[_,zh F hr hg hm hk hb .nil QG q ji he jh,λY As M H Q s ac=>kk Y As M H _ s ac]
end
open PySem PySem.W PyProof.Rows
noncomputable def fU{α:Type}(lt:Nat->Nat->Bool):KasT α->α
 |.ret a=>a
 |.ask i j k=>fU lt (k (lt i j))
theorem dM{α β:Type}(lt:Nat->Nat->Bool)(f:α->KasT β):∀t:KasT α,fU lt (t.bind f)=fU lt (f (fU lt t))
 |.ret _=>rfl
 |.ask i j k=>dM lt f (k (lt i j))
structure iu(α:Type) where
 lt:α->α->Bool
 irr:∀a,lt a a=false
 tr:∀a b c,lt a b=true->lt b c=true->lt a c=true
 tot:∀a b,lt a b=false->lt b a=false->a=b
namespace iu
variable{α:Type}(O:iu α)
def le(a b:α):Prop:=O.lt b a=false
variable{O}
theorem le_refl(a:α):O.le a a:=O.irr a
theorem le_of_lt(h:O.lt a b=true):O.le a b:=by
 unfold le;cases e:O.lt b a
 . rfl
 . have:=O.tr _ _ _ h e;rw[O.irr]at this;cases this
theorem qB(h1:O.le a b)(h2:O.le b c):O.le a c:=by
 unfold le at *;cases e:O.lt c a with
 |false=>rfl
 |true=>
  exfalso;cases e1:O.lt a b with
  |true=>have:=O.tr _ _ _ e e1;rw[h2]at this;cases this
  |false=>have hab:=O.tot a b e1 h1;subst hab;rw[h2]at e;cases e
theorem zB(h1:O.le a b)(h2:O.le b a):a=b:=O.tot a b h2 h1
end iu
section
variable{α:Type}
noncomputable def dB(key:Nat->α)(p:Array Nat)(i:Nat):α:=key (p.getD i 0)
def iz(O:iu α)(key:Nat->α)(p:Array Nat)(n:Nat):Prop:=∀i j,i<=j->j<n->O.le (dB key p i) (dB key p j)
def iQ(O:iu α)(key:Nat->α)(p:Array Nat)(n:Nat):Prop:=∀i j,i<=j->j<n->O.le (dB key p j) (dB key p i)
noncomputable def lV(O:iu α)(key:Nat->α)(i j:Nat):Bool:=O.lt (key i) (key j)
theorem getD_some{p q:Array Nat}{i j:Nat}(h:p[i]?=q[j]?):p.getD i 0=q.getD j 0:=by rw[An,An,h]
theorem lW{p:Array Nat}{i j:Nat}(hj:j<=p.size)(k:Nat):dB key (kas_rev p i j) k=if i<=k/\k<j then dB key p (i+j - 1 - k)else dB key p k:=by
 have e:=getElem?_mirror_all (i:=i) hj k;unfold dB kas_rev;split
 . rename_i h;rw[hV h]at e;rw[getD_some e]
 . rename_i h;rw[fN h]at e;rw[getD_some e]
theorem MT{p:Array Nat}{src d:Nat}(hs:src<p.size)(hd:d<=src)(k:Nat):dB key (bubble p src d) k=if k=src - d then dB key p src else if src - d<k/\k<=src then dB key p (k - 1)else dB key p k:=by
 have e:=getElem?_bubble hs d hd k;unfold dB;by_cases h1:k=src - d
 . rw[hV h1]at e ⊢;rw[getD_some e]
 .
  rw[fN h1]at e ⊢
  by_cases h2:src - d<k/\k<=src
  . rw[hV h2]at e ⊢;rw[getD_some e]
  . rw[fN h2]at e ⊢;rw[getD_some e]
theorem iz.ext(h:iz O key p n)(hl:O.lt (dB key p n) (dB key p (n - 1))=false)(h1:1<=n):iz O key p (n+1):=by
 intro i j hij hj;by_cases e:j<n
 . exact h i j hij e
 .
  have:j=n:=by lia
  subst this;by_cases e2:i=j
  . subst e2;exact iu.le_refl _
  . exact iu.qB (h i (j - 1) ⋯ ⋯) hl
theorem xP:∀(f n:Nat),1<=n->iz O key p n->∃m,fU (lV O key) (kas_asc p f n)=m/\n<=m/\m<=n+f/\iz O key p m/\(m<n+f->O.lt (dB key p m) (dB key p (m - 1))=true)
 | 0,n,_,h=>#[n,rfl,dE _,dE _,h,λz=>absurd z (nN _)]
 |f+1,n,h1,h=>by
  show ∃m,fU (lV O key) (if lV O key (p.getD n 0) (p.getD (n - 1) 0)=true then KasT.ret n else kas_asc p f (n+1))=m/\_
  cases e:lV O key (p.getD n 0) (p.getD (n - 1) 0)with
  |true=>exact#[n,rfl,dE _,by lia,h,λ_=>e]
  |false=>obtain⟨m,q1,q2,q3,q4,q5⟩:=xP f (n+1) ⋯ (h.ext e h1);exact#[m,q1,by lia,by lia,q4,λz=>q5 ⋯]
theorem iQ.ext(h:iQ O key p n)(hl:O.le (dB key p n) (dB key p (n - 1)))(h1:1<=n):iQ O key p (n+1):=by
 intro i j hij hj;by_cases e:j<n
 . exact h i j hij e
 .
  have:j=n:=by lia
  subst this;by_cases e2:i=j
  . subst e2;exact iu.le_refl _
  . exact iu.qB hl (h i (j - 1) ⋯ ⋯)
theorem iQ.U5(h:iQ O key p n)(hk:∀k,dB key p' k=dB key p k):iQ O key p' n:=λi j a b=>by rw[hk,hk];exact h i j a b
def ZK(key:Nat->α)(p:Array Nat)(n q:Nat):Prop:=q+1<=n/\∀k,n - (q+1)<=k->k<n->dB key p k=dB key p (n - 1)
theorem zC(h:ZK key p n q)(hz:n<=p.size)(k:Nat):dB key (kas_rev p (n - (q+1)) n) k=dB key p k:=by
 rw[lW hz];split
 . rename_i hk;rw[h.2 k hk.1 hk.2,h.2 (n - (q+1)+n - 1 - k) ⋯ ⋯]
 . rfl
theorem lX:∀(f:Nat) (p:Array Nat) (n q:Nat),1<=n->n+f<=p.size->iQ O key p n->ZK key p n q->
  ∃p' m q',fU (lV O key) (kas_desc f p n q)=(p',m,q')/\p'.Perm p/\n<=m/\m<=n+f/\iQ O key p' m/\ZK key p' m q'
 | 0,p,n,q,_,_,h,hq=>#[p,n,q,rfl,BF _,dE _,dE _,h,hq]
 |f+1,p,n,q,h1,hz,h,hq=>by
  show ∃p' m q',fU (lV O key) (if lV O key (p.getD n 0) (p.getD (n - 1) 0)=true then (if q > 0 then kas_desc f (kas_rev p (n - (q+1)) n) (n+1) 0 else kas_desc f p (n+1) 0)
   else .ask (p.getD (n - 1) 0) (p.getD n 0) λd=>if d=true then .ret (p,n,q)else kas_desc f p (n+1) (q+1))=(p',m,q')/\_
  cases e:lV O key (p.getD n 0) (p.getD (n - 1) 0)with
  |true=>
   have hl:=iu.le_of_lt e;have one:∀p':Array Nat,ZK key p' (n+1) 0:=λp'=>#[by lia,λk a b=>by have:k=n:=⋯;subst this;rfl]
   by_cases hq0:q > 0
   .
    rw[hV hq0];have hk:=zC hq (by lia:n<=p.size)
    have hF:=(h.ext hl h1).U5 hk;obtain⟨p',m,q',r1,r2,r3,r4,r5,r6⟩:=lX f (kas_rev p (n - (q+1)) n) (n+1) 0 ⋯ (by rw[kas_rev_size];lia) hF (one _)
    exact#[p',m,q',r1,r2.trans (mirror_perm _ _ _ _),by lia,by lia,r5,r6]
   . rw[fN hq0];obtain⟨p',m,q',r1,r2,r3,r4,r5,r6⟩:=lX f p (n+1) 0 ⋯ ⋯ (h.ext hl h1) (one _);exact#[p',m,q',r1,r2,by lia,by lia,r5,r6]
  |false=>
   show ∃p' m q',fU (lV O key) (if lV O key (p.getD (n - 1) 0) (p.getD n 0)=true then .ret (p,n,q)else kas_desc f p (n+1) (q+1))=(p',m,q')/\_
   cases e2:lV O key (p.getD (n - 1) 0) (p.getD n 0)with
   |true=>exact#[p,n,q,rfl,BF _,dE _,by lia,h,hq]
   |false=>
    have he:dB key p n=dB key p (n - 1):=O.tot _ _ e e2;have hq':ZK key p (n+1) (q+1):=#[by have:=hq.1;lia,λk a b=>by
     show dB key p k=dB key p n;by_cases hk:k=n
     . subst hk;rfl
     .
      rw[he];exact hq.2 k ⋯ ⋯]
    obtain⟨p',m,q',r1,r2,r3,r4,r5,r6⟩:=lX f p (n+1) (q+1) ⋯ ⋯ (h.ext (by rw[he];exact iu.le_refl _) h1) hq'
    exact#[p',m,q',r1,r2,by lia,by lia,r5,r6]
theorem GK(h:iQ O key p n)(hz:n<=p.size):iz O key (kas_rev p 0 n) n:=λi j a b=>by
 rw[lW hz,lW hz,hV #[by lia,by lia],hV #[by lia,by lia]]
 exact h _ _ ⋯ ⋯
theorem vd(h1:1<=n)(hn:n<=nrem)(hz:nrem<=p.size)(h:iQ O key p n):∃m p',fU (lV O key) (kas_tail3 n nrem p)=(m,p')/\p'.Perm p/\1<=m/\m<=nrem/\iz O key p' m:=by unfold kas_tail3;rw[dM];obtain⟨m,q1,q2,q3,q4,_⟩:=xP (nrem - n) n h1 (GK h ⋯);rw[q1];exact#[m,_,rfl,mirror_perm _ _ _ _,by lia,by lia,q4]
theorem kU(h1:1<=n)(hn:n+1<=nrem)(hz:nrem<=p.size)(h:iQ O key p (n+1)):∃m p',fU (lV O key) (kas_descPart n nrem p)=(m,p')/\p'.Perm p/\1<=m/\m<=nrem/\iz O key p' m:=by
 unfold kas_descPart;rw[dM];obtain⟨p',m,q',r1,r2,r3,r4,r5,r6⟩:=lX (nrem - (n+1)) p (n+1) 0 ⋯ ⋯ h #[by lia,λk a b=>by have:k=n:=⋯;subst this;rfl]
 rw[r1];have hs:=r2.size_eq;by_cases hq:q' > 0
 .
  rw[hV hq];have hk:=zC r6 (by lia:m<=p'.size)
  obtain⟨m',p2,s1,s2,s3,s4,s5⟩:=vd (nrem:=nrem) ⋯ ⋯ (by rw[kas_rev_size];lia) (r5.U5 hk)
  exact#[m',p2,s1,(s2.trans (mirror_perm _ _ _ _)).trans r2,s3,s4,s5]
 . rw[fN hq];obtain⟨m',p2,s1,s2,s3,s4,s5⟩:=vd (nrem:=nrem) ⋯ ⋯ ⋯ r5;exact#[m',p2,s1,s2.trans r2,s3,s4,s5]
theorem GL(h1:1<=n)(hz:n<=p.size):∃m p',fU (lV O key) (kas_count n p)=(m,p')/\p'.Perm p/\1<=m/\m<=n/\iz O key p' m:=by
 unfold kas_count;rw[dM];obtain⟨m,q1,q2,q3,q4,q5⟩:=xP (O:=O) (n - 1) 1 (dE _) (λi j a b=>by have e1:i=0:=⋯;have e2:j=0:=⋯;subst e1;subst e2;exact iu.le_refl _)
 rw[q1];by_cases e1:(m==n)=true
 . rw[hV e1];exact#[m,p,rfl,BF _,q2,by lia,q4]
 .
  rw[fN e1];have hlt:=q5 ⋯;by_cases e2:m > 1
  .
   rw[hV e2];show ∃m' p',fU (lV O key) (if lV O key (p.getD 0 0) (p.getD (m - 1) 0)=true then KasT.ret (m,p)else kas_descPart m n (kas_rev p 0 m))=(m',p')/\_
   cases e3:lV O key (p.getD 0 0) (p.getD (m - 1) 0)with
   |true=>exact#[m,p,rfl,BF _,q2,by lia,q4]
   |false=>
    have eq0:∀k,k<m->dB key p k=dB key p (m - 1):=λk hk=>by
     refine iu.zB (q4 k (m - 1) ⋯ ⋯) ?_;exact iu.qB (show O.le (dB key p (m - 1)) (dB key p 0)from e3) (q4 0 k ⋯ hk)
    have hk:∀k,dB key (kas_rev p 0 m) k=dB key p k:=λk=>by
     rw[lW ⋯];split
     . rw[eq0 _ ⋯,eq0 k ⋯]
     . rfl
    have hF:iQ O key (kas_rev p 0 m) (m+1):=by
     refine iQ.U5 (iQ.ext (λi j a b=>?_) (iu.le_of_lt hlt) ⋯) hk
     rw[eq0 i ⋯,eq0 j b];exact iu.le_refl _
    obtain⟨m',p2,s1,s2,s3,s4,s5⟩:=kU q2 (by lia:m+1<=n) (by rw[kas_rev_size];exact hz) hF
    exact#[m',p2,s1,s2.trans (mirror_perm _ _ _ _),s3,s4,s5]
  .
   rw[fN e2];have hF:=iQ.ext (λi j a b=>by have e1:i=0:=⋯;have e2:j=0:=⋯;subst e1;subst e2;exact iu.le_refl _) (iu.le_of_lt hlt) q2
   exact kU q2 ⋯ hz hF
theorem nM(hR:iz O key p k):∀(f l r:Nat),l<=r->r<=k->r - l<=f->(∀i,i<l->O.le (dB key p i) (dB key p k))->(∀i,r<=i->i<k->O.lt (dB key p k) (dB key p i)=true)->
  ∃m,fU (lV O key) (kas_place p k f l r)=m/\m<=k/\(∀i,i<m->O.le (dB key p i) (dB key p k))/\∀i,m<=i->i<k->O.lt (dB key p k) (dB key p i)=true
 | 0,l,r,h1,h2,h3,h4,h5=>#[l,rfl,by lia,h4,λi a b=>h5 i ⋯ b]
 |f+1,l,r,h1,h2,h3,h4,h5=>by
  unfold kas_place;by_cases e:l ≥ r
  . rw[hV e];exact#[l,rfl,by lia,h4,λi a b=>h5 i ⋯ b]
  .
   rw[fN e];show ∃m,fU (lV O key) (if lV O key (p.getD k 0) (p.getD ((l+r) / 2) 0)=true then kas_place p k f l ((l+r) / 2)else kas_place p k f ((l+r) / 2+1) r)=m/\_
   cases e2:lV O key (p.getD k 0) (p.getD ((l+r) / 2) 0)with
   |true=>
    refine nM hR f l ((l+r) / 2) ⋯ ⋯ ⋯ h4 λi a b=>?_
    by_cases hi:r<=i
    . exact h5 i hi b
    .
     have q:=hR _ _ a b;cases e3:O.lt (dB key p k) (dB key p i)with
     |true=>rfl
     |false=>
      have:=iu.qB q (show O.le (dB key p i) (dB key p k)from e3)
      have QH:O.lt (dB key p k) (dB key p ((l+r) / 2))=true:=e2;rw[this]at QH;cases QH
   |false=>
    refine nM hR f ((l+r) / 2+1) r ⋯ h2 ⋯ (λi a=>?_) h5
    exact iu.qB (hR i ((l+r) / 2) ⋯ ⋯) e2
theorem GP:∀(f:Nat) (p:Array Nat) (k:Nat),k+f<=p.size->iz O key p k->∃p',fU (lV O key) (kas_bin f p k)=p'/\p'.Perm p/\iz O key p' (k+f)
 | 0,p,k,_,h=>#[p,rfl,BF _,h]
 |f+1,p,k,hz,h=>by
  unfold kas_bin;rw[dM];obtain⟨l,q1,q2,q3,q4⟩:=nM h k 0 k (tP _) (dE _) ⋯ (λi a=>absurd a (v6 _)) (λi a b=>absurd (Nat.lt_of_le_of_lt a b) (nN _))
  rw[q1];have hk:=λi=>MT (key:=key) (p:=p) (src:=k) (d:=k - l) ⋯ ⋯ i
  have hR:iz O key (bubble p k (k - l)) (k+1):=λi j a b=>by
   rw[hk,hk];have e:k - (k - l)=l:=by lia
   rw[e];by_cases i1:i=l
   .
    rw[hV i1];by_cases j1:j=l
    . rw[hV j1];exact iu.le_refl _
    .
     rw[fN j1,hV #[by lia,by lia]]
     exact iu.le_of_lt (q4 (j - 1) ⋯ ⋯)
   .
    rw[fN i1];by_cases i2:l<i/\i<=k
    .
     rw[hV i2,fN ⋯,hV #[by lia,by lia]]
     exact h _ _ ⋯ ⋯
    .
     rw[fN i2];by_cases j1:j=l
     . rw[hV j1];exact q3 i ⋯
     .
      rw[fN j1];by_cases j2:l<j/\j<=k
      . rw[hV j2];exact h _ _ ⋯ ⋯
      . rw[fN j2];exact h _ _ a ⋯
  obtain⟨p',s1,s2,s3⟩:=GP f (bubble p k (k - l)) (k+1) (by rw[bubble_size];lia) hR
  exact#[p',s1,s2.trans (bubble_perm _ _ _),by rw[show k+(f+1)=k+1+f by lia];exact s3]
theorem M7(h1:1<=n):∃p,fU (lV O key) (kas_sort n)=p/\p.Perm (List.range n).toArray/\iz O key p n:=by
 unfold kas_sort;rw[dM];obtain⟨m,p,q1,q2,q3,q4,q5⟩:=GL (p:=(List.range n).toArray) h1 ⋯;rw[q1];have hs:p.size=n:=by rw[q2.size_eq];simp
 have e:max m 1=m:=by lia
 rw[e];by_cases hm:m<n
 . rw[hV hm];obtain⟨p',s1,s2,s3⟩:=GP (n - m) p m ⋯ q5;exact#[p',s1,s2.trans q2,by rw[show m+(n - m)=n by lia]at s3;exact s3]
 .
  rw[fN hm];have:m=n:=by lia
  subst this;exact#[p,rfl,q2,q5]
end
noncomputable def zD{α:Type}(n:Nat)(P:α->Prop):KasT α->Prop
 |.ret a=>P a
 |.ask i j k=>i<n/\j<n/\∀b,zD n P (k b)
theorem zD.bind{α β:Type}{n:Nat}{P:α->Prop}{Q:β->Prop}{f:α->KasT β}:∀{t:KasT α},zD n P t->(∀a,P a->zD n Q (f a))->zD n Q (t.bind f)
 |.ret a,h,hf=>hf a h
 |.ask _ _ _,h,hf=>#[h.1,h.2.1,λb=>(h.2.2 b).bind hf]
theorem ve{α:Type}{n:Nat}{P:α->Prop}{lt:Nat->Nat->Bool}{cmp:Nat->Nat->(Bool->Shared->Prop)->Shared->Prop}{Q:α->Shared->Prop}{s:Shared}(hc:∀i j C,i<n->j<n->C (lt i j) s->cmp i j C s):∀t:KasT α,zD n P t->Q (fU lt t) s->t.kasWp cmp Q s
 |.ret _,_,h=>h
 |.ask i j k,ok,h=>hc i j _ ok.1 ok.2.1 (ve hc (k (lt i j)) (ok.2.2 _) h)
def nO(n:Nat)(p:Array Nat):Prop:=0<n/\∀x∈p.toList,x<n
theorem nO.at(h:nO n p)(i:Nat):p.getD i 0<n:=by
 rw[An];cases e:p[i]? with
 |none=>exact h.1
 |some x=>exact h.2 x (by rw[pV]at e;obtain⟨hi,rfl⟩:=e;simp)
theorem nO.perm(h:nO n p)(e:p'.Perm p):nO n p':=#[h.1,λx hx=>h.2 x ((AY.mp e).mem_iff.mp hx)]
theorem nO.rev(h:nO n p)(i j:Nat):nO n (kas_rev p i j):=h.perm (mirror_perm _ _ _ _)
theorem nO.bub(h:nO n p)(i j:Nat):nO n (bubble p i j):=h.perm (bubble_perm _ _ _)
section
theorem xQ(h:nO N p):∀f n,zD N (λ_=>True) (kas_asc p f n)
 | 0,_=>trivial
 |f+1,n=>#[h.at _,h.at _,λb=>by cases b <;> first |exact trivial |exact xQ h f (n+1)]
theorem lY:∀f p n q,nO N p->zD N (λr=>nO N r.1) (kas_desc f p n q)
 | 0,_,_,_,h=>h
 |f+1,p,n,q,h=>by
  refine#[h.at _,h.at _,λb=>?_]
  dsimp only;cases b with
  |true=>
   by_cases hq:q > 0
   . rw[hV hq];exact lY f _ _ _ (h.rev _ _)
   . rw[fN hq];exact lY f _ _ _ h
  |false=>
   refine#[h.at _,h.at _,λd=>?_]
   cases d with
   |true=>exact h
   |false=>exact lY f _ _ _ h
theorem vf{p:Array Nat}{n nrem:Nat}(h:nO N p):zD N (λr=>nO N r.2) (kas_tail3 n nrem p):=(xQ (h.rev 0 n) _ _).bind λ_ _=>h.rev 0 n
theorem kW{p:Array Nat}{n nrem:Nat}(h:nO N p):zD N (λr=>nO N r.2) (kas_descPart n nrem p):=by
 refine (lY _ _ _ _ h).bind λr hr=>?_
 by_cases hq:r.2.2 > 0
 . rw[hV hq];exact vf (nO.rev hr _ _)
 . rw[fN hq];exact vf hr
theorem GQ{p:Array Nat}{n:Nat}(h:nO N p):zD N (λr=>nO N r.2) (kas_count n p):=by
 refine (xQ h _ _).bind λm _=>?_
 by_cases e1:(m==n)=true
 . rw[hV e1];exact h
 .
  rw[fN e1];by_cases e2:m > 1
  .
   rw[hV e2];refine#[h.at _,h.at _,λb=>?_]
   cases b with
   |true=>exact h
   |false=>exact kW (h.rev _ _)
  . rw[fN e2];exact kW h
theorem nP(h:nO N p):∀f l r,zD N (λ_=>True) (kas_place p k f l r)
 | 0,_,_=>trivial
 |f+1,l,r=>by
  unfold kas_place;by_cases e:l ≥ r
  . rw[hV e];exact trivial
  .
   rw[fN e];refine#[h.at _,h.at _,λb=>?_]
   cases b with
   |true=>exact nP h f _ _
   |false=>exact nP h f _ _
theorem GR:∀f p k,nO N p->zD N (λ_=>True) (kas_bin f p k)
 | 0,_,_,_=>trivial
 |f+1,p,k,h=>(nP h _ _ _).bind λl _=>GR f _ _ (h.bub _ _)
theorem M8{n:Nat}(h:0<n):zD n (λ_=>True) (kas_sort n):=by
 refine (GQ #[h,λx hx=>by simpa using hx]).bind λr hr=>?_
 by_cases e:r.1<n
 . rw[hV e];exact GR _ _ _ hr
 . rw[fN e];exact trivial
end
open L2 PySem.W
section
variable{α:Type}{key:Nat->α}
noncomputable def dW(s:Shared)(a:Addr)(vs:List Value):Shared:={ s with heap:=((s.heap.update a (Obj.mapSeq λ_=>([].toArray))).push (seqObj "tuple" vs.toArray 0)).push (seqObj "list" ([].toArray) 0)}
theorem vg(hb:b≠a)(h:s.heap.get? b=!o):(dW s a vs).heap.get? b=!o:=
 a9 _ (a9 _ ((fI s.heap _ hb.symm).trans h))
theorem GX(ho:s.heap.get? a=!(seqObj "list" vs.toArray n))(h2:2<=vs.length)(h64:vs.length<64)
  (hk:∀Q:SortKind->Shared->Prop,Q κ (dW s a vs)->wpAny (model prog w) A (keyKind' vs.toArray) Q (λ_ _=>False) (dW s a vs))
  (hc:∀i j C,i<vs.length->j<vs.length->C (lV O key i j) (dW s a vs)->kas_ask prog w A κ vs i j C (dW s a vs))
  (h:∀p:Array Nat,p.Perm (List.range vs.length).toArray->iz O key p vs.length->P (.done (.ret .none)) { s with heap:=sortedHeap s.heap a vs (p.toList.map λi=>vs.getD i Value.none).toArray}) :
  wpAny (model prog w) A (Builtin.«list.sort» #[[.ref a],[]]) P E s:=by
 obtain⟨e1,xO⟩:∃e1,(s.heap.update a (Obj.mapSeq λ_=>([].toArray))).get? a=!(seqObj "list" ([].toArray) e1):=#[_,get?_update_seq ho (λ_=>([].toArray))]
 have ZL:(dW s a vs).heap.get? a=!(seqObj "list" ([].toArray) e1):=a9 _ (a9 _ xO);have hz:vs.length<=sizeLine:=(by rw[tI];lia)
 rw[list_sort_plain];refine aS (listItems_at ho rfl (aS (listUpdate_at ho rfl (aS (seqEpoch_at xO rfl (aS (wpAny_newTuple (aS (wpAny_newList (hU ?_) (tP _))) (by show vs.length<=_;exact hz))))) (by simpa using hz) (tP _))))
 have hn : ¬ vs.toArray.size<2:=by rw[b8];lia
 rw[fN hn,fN hn];refine aS (i7 (hk (λk s0=>k=κ/\s0=dW s a vs) #[rfl,rfl]) ?_ λ_ _ z=>z.elim)
 rintro _ _ ⟨rfl,rfl⟩;obtain⟨p0,q1,q2,q3⟩:=M7 (n:=vs.length) ⋯;refine aS (i7 (kat_run (Q:=λst' s'=>s'=dW s a vs/\failedOf st'=none/\(arrOf st').map (·.2)=(p0.toList.map λi=>vs.getD i Value.none).toArray) (G:=λp s'=>s'=dW s a vs/\p=p0)
  rfl h2 h64 (λp st' s' _ har hf hg=>?_) (ve hc _ (M8 ⋯) #[rfl,q1])) ?_ λ_ _ z=>z)
 . obtain⟨rfl,rfl⟩:=hg;exact#[rfl,hf,kat_snds rfl har]
 .
  rintro⟨⟨⟩,st'⟩ s' ⟨rfl,hf,hout⟩;dsimp only at hf hout ⊢
  have aH:(p0.toList.map λi=>vs.getD i Value.none).length=vs.length:=by rw[eA,i8,q2.size_eq];simp
  rw[hout];refine aS (seqEpoch_at ZL rfl (aS (listUpdate_at ZL rfl ?_ (tP _) (by show (List.toArray _).size<=_;rw[b8];lia))))
  rw[hf];simp only[bne_self_eq_false];exact a8 (h p0 q2 q3)
theorem zE{β:Type}:∀l:List β,(l.zip l).map (·.2)=l
 | []=>rfl
 |x::l=>by rw[tJ,List.map_cons,zE l]
theorem GZ(ho:s.heap.get? a=!(seqObj "list" vs.toArray n))(h2:vs.length<2)
  (h:P (.done (.ret .none)) { s with heap:=sortedHeap s.heap a vs vs.toArray}):wpAny (model prog w) A (Builtin.«list.sort» ⟨[.ref a],[]⟩) P E s:=by
 obtain⟨e1,xO⟩:∃e1,(s.heap.update a (Obj.mapSeq λ_=>([].toArray))).get? a=!(seqObj "list" ([].toArray) e1):=#[_,get?_update_seq ho (λ_=>([].toArray))]
 have ZL:(dW s a vs).heap.get? a=!(seqObj "list" ([].toArray) e1):=a9 _ (a9 _ xO);have hz:vs.length<=sizeLine:=(by rw[tI];lia)
 rw[list_sort_plain];refine aS (listItems_at ho rfl (aS (listUpdate_at ho rfl (aS (seqEpoch_at xO rfl (aS (wpAny_newTuple (aS (wpAny_newList (hU ?_) (tP _))) (by show vs.length<=_;exact hz))))) (by simpa using hz) (tP _))))
 have hn:vs.toArray.size<2:=by rw[b8];lia
 dsimp only;rw[hV hn,hV hn];refine aS (a8 ?_);refine aS (a8 ?_);have hout:(arrOf (SortSt.mk' general' (vs.toArray.zip vs.toArray) ([].toArray) 7 none)).map (·.2)=vs.toArray:=by show (vs.toArray.zip vs.toArray).map (·.2)=vs.toArray;apply Array.toList_inj.mp;simp only[Array.toList_map,Array.toList_zip];exact zE vs
 rw[hout];refine aS (seqEpoch_at ZL rfl (aS (listUpdate_at ZL rfl ?_ (tP _) (by show vs.toArray.size<=_;rw[b8];lia))))
 rw[fN ⋯];exact a8 h
noncomputable def M9(h:Heap)(vs:List Value):Heap:=((h.push (seqObj "list" ([].toArray) 0)).update h.objs.size (Obj.mapSeq (· ++ vs.toArray))).push (seqObj "list" vs.toArray 0)
theorem qE(h:Heap)(vs:List Value):((h.push (seqObj "list" ([].toArray) 0)).update h.objs.size (Obj.mapSeq (· ++ vs.toArray))).objs.size=h.objs.size+1:=(Heap.size_update ..).trans (size_push' ..)
theorem sO(h:Heap)(vs:List Value):(M9 h vs).get? (h.objs.size+1)=!(seqObj "list" vs.toArray 0):=by have:=dC ((h.push (seqObj "list" ([].toArray) 0)).update h.objs.size (Obj.mapSeq (· ++ vs.toArray))) (o:=seqObj "list" vs.toArray 0) rfl;rw[qE]at this;exact this
theorem vh(e:h.get? b=!o):(M9 h vs).get? b=!o/\b≠h.objs.size+1:=by have hb:=dS e;refine#[a9 _ ?_,fA (y3 hb)];rw[fI _ _ (AS hb)];exact a9 _ e
theorem Cg{l:Addr}{vs:List Value}{Q:Value->Shared->Prop}(hl:s.heap.IsList l vs.toArray)(hz:vs.length<=sizeLine)
  (h:wpAny (model prog w) A.in1.in1 (Builtin.«list.sort» #[[.ref (s⁻¹+1)],[]]) (λf s'=>f=.done (.ret .none)/\Q (.ref (s⁻¹+1)) s') E { s with heap:=M9 s.heap vs}) :
  wpAny (model prog w) A (call (.builtin "sorted") [.ref l]) Q E s:=by
 refine A3 kind_sorted plain_sorted entry_sorted (args_sorted1 _) ?_;refine aS (a8 (aS (collect_list hl ?_ hz)));refine aS (wpAny_newList ?_ hz);rw[qE];refine aS (hU (mE slot_list_sort #[_,sO _ _,rfl] entry_list_sort (i7 h (λf s' hf=>#[_,hf.1,?_]) λ_ _ z=>z) (args_list_sort _)))
 exact a8 #[_,rfl,hf.2]
end
theorem qF:∀a:List Int,HT.lexLt a a=false
 | []=>rfl
 |x::a=>by rw[HT.cH,hV rfl,qF a]
theorem vj:∀a b c:List Int,HT.lexLt a b=true->HT.lexLt b c=true->HT.lexLt a c=true
 | [],[],_,h,_=>by symm
 |_::_,[],_,h,_=>by symm
 |_,_::_,[],_,h=>by symm
 | [],_::_,_::_,_,_=>rfl
 |x::a,y::b,z::c,h1,h2=>by
  rw[HT.cH]at h1 h2 ⊢
  by_cases e1:x=y
  .
   rw[hV e1]at h1;subst e1;by_cases e2:x=z
   .
    rw[hV e2]at h2 ⊢
    exact vj a b c h1 h2
   .
    rw[fN e2]at h2 ⊢
    exact h2
  .
   rw[fN e1]at h1;by_cases e2:y=z
   . rw[hV e2]at h2;subst e2;rw[fN e1];exact h1
   . rw[fN e2]at h2;rw[fN ⋯];exact kS ⋯
theorem qG:∀a b:List Int,HT.lexLt a b=false->HT.lexLt b a=false->a=b
 | [],[],_,_=>rfl
 | [],_::_,h,_=>by symm
 |_::_,[],_,h=>by symm
 |x::a,y::b,h1,h2=>by
  rw[HT.cH]at h1 h2;by_cases e:x=y
  . subst e;rw[hV rfl]at h1 h2;rw[qG a b h1 h2]
  .
   rw[fN e]at h1;rw[fN (λz=>e z.symm)]at h2
   lia
def xR:iu (~~~0):=#[HT.lexLt,qF,vj,qG]
section
variable{α:Type}(O:iu α)
noncomputable def Ci(a:α):List α->List α
 | []=>[a]
 |b::l=>if O.lt b a then b::Ci a l else a::b::l
def gF:List α->List α
 | []=>[]
 |a::l=>Ci O a (gF l)
variable{O}
theorem j5(a:α):∀l:List α,(Ci O a l).Perm (a::l)
 | []=>AQ _
 |b::l=>by
  unfold Ci;split
  . exact ((j5 a l).cons b).trans (List.Perm.swap a b l)
  . exact AQ _
theorem nQ:∀l:List α,(gF O l).Perm l
 | []=>AQ _
 |a::l=>(j5 a _).trans ((nQ l).cons a)
theorem kX(a:α):∀{l:List α},l.Pairwise O.le->(Ci O a l).Pairwise O.le
 | [],_=>List.pairwise_singleton _ _
 |b::l,h=>by
  obtain⟨h1,h2⟩:=w9.mp h;unfold Ci;cases e:O.lt b a with
  |true=>
   refine w9.mpr #[λx hx=>?_,kX a h2]
   rcases dL.mp ((j5 a l).mem_iff.mp hx)with rfl |hx
   . exact iu.le_of_lt e
   . exact h1 x hx
  |false=>
   refine w9.mpr #[λx hx=>?_,h]
   rcases dL.mp hx with rfl |hx
   . exact e
   . exact iu.qB (show O.le a b from e) (h1 x hx)
theorem jC:∀l:List α,(gF O l).Pairwise O.le
 | []=>List.Pairwise.nil
 |a::l=>kX a (jC l)
theorem xS(hp:m.Perm l)(hs:m.Pairwise O.le):m=gF O l:=
 (hp.trans (nQ l).symm).eq_of_pairwise (λx y _ _ h1 h2=>iu.zB h1 h2) hs (jC l)
theorem gG{β:Type}(ks:List β)(d:β):(List.range ks.length).map (λi=>ks.getD i d)=ks:=by
 refine List.ext_getElem ⋯ λi h1 h2=>?_
 simp[nS h2]
theorem vm(hp:p.Perm (List.range ks.length).toArray)(hr:iz O (λi=>ks.getD i d) p ks.length):p.toList.map (λi=>ks.getD i d)=gF O ks:=by
 have hl:=AY.mp hp;refine xS ((hl.map _).trans (by rw[gG])) ?_
 rw[List.pairwise_iff_getElem];intro i j hi hj hij;have hs:p.size=ks.length:=by rw[hp.size_eq];simp
 rw[eA,i8]at hi hj;have:=hr i j (Cf hij) ⋯;unfold dB at this;have e1:p.getD i 0=p[i]:=by simp[hi]
 have e2:p.getD j 0=p[j]:=by simp[hj]
 rw[e1,e2]at this;simpa using this
end
open L2 PySem.W
section
theorem G0(hv:IntsAre vs ns):∀{ws:List Value}{ms: ~~~0} (i:Nat),IntsAre ws ms->fin=decide (ns.length<ms.length)->Q (HT.lexLt ns ms) s->KatLex prog w A true fin Q (vs.zip ws) i s:=by
 induction hv with
 |nil=>
  intro ws ms i hu hf h;refine kat_nil ?_;rw[hf];cases hu with
  |nil=>exact h
  |cons _=>exact h
 |@cons n t vs ns hv ih=>
  intro ws ms i hu hf h;cases hu with
  |nil=>refine kat_nil ?_;rw[hf];exact h
  |@cons m t' us ms hu=>
   refine kat_cons (wpAny_eqBool_int (kat_go (λe=>?_) (λe=>?_)))
   .
    have e':=eq_of_beq e;refine kat_yes (ih (i+1) hu (by rw[hf];simp) ?_)
    rw[HT.cH,hV e']at h;exact h
   .
    have e':n≠m:=λq=>by rw[q]at e;simp at e
    rw[HT.cH,fN e']at h;refine kat_no ?_;cases i with
    |zero=>exact oneLt_int h
    |succ i=>exact kat_one _ _ (lt_int h)
def G3(h:Heap)(v:Value)(ns: ~~~0):Prop:=∃a ao,v=.ref a/\IsTup h a ao/\IntsAre ao.toList ns
theorem G3.keep(x:G3 h v ns)(k:∀b o,h.get? b=!o->h'.get? b=!o):G3 h' v ns:=let #[a,its,e,t,i]:=x;#[a,its,e,t.keeps k,i]
inductive TupIs(h:Heap):List Value->List (~~~0)->Prop
 |nil:TupIs h [] []
 |cons {v:Value}{ns: ~~~0}{vs:List Value}{dF: ~~~5}:G3 h v ns->TupIs h vs dF->TupIs h (v::vs) (ns::dF)
theorem TupIs.keep(k:∀b o,h.get? b=!o->h'.get? b=!o)(t:TupIs h vs dF):TupIs h' vs dF:=by
 induction t with
 |nil=>exact .nil
 |cons a b ih=>exact .cons (a.keep k) ih
theorem TupIs.length(t:TupIs h vs dF):vs.length=dF.length:=by
 induction t with
 |nil=>rfl
 |cons a b ih=>exact congrArg (· + 1) ih
theorem TupIs.at(t:TupIs h vs dF)(hi:i<vs.length):G3 h (vs.getD i .none) (dF.getD i []):=by
 induction t generalizing i with
 |nil=>exact absurd hi (v6 _)
 |cons a b ih=>cases i with
  |zero=>exact a
  |succ i=>exact ih (AR hi)
theorem TupIs.firsts(t:TupIs h vs dF)(kO:∀ns∈dF,ns≠[]):∃fs:List Value,KatTups h vs fs/\fs.length=vs.length/\∀v∈fs,∃i t,v=.int i t:=by
 induction t with
 |nil=>exact#[[],.nil,rfl,λ_ z=>nomatch z]
 |@cons v ns vs dF a b ih=>
  obtain⟨fs,q1,q2,q3⟩:=ih λns hn=>kO ns (bP _ hn)
  obtain⟨a,ao,e,⟨o,e1,e2,n,e3⟩,hi⟩:=a;subst e;obtain⟨ao⟩:=ao;cases ao with
  |nil=>
   cases ns with
   |nil=>exact absurd rfl (kO [] b0)
   |cons _ _=>cases hi
  |cons v ao=>
   cases ns with
   |nil=>cases hi
   |cons m ns=>cases hi;exact#[_::fs,KatTups.cons e1 e2 e3 rfl q1,by rw[gL,gL,q2],λv hv=>(dL.mp hv).elim (λz=>#[_,_,z]) (q3 v)]
theorem Cj:Looks M h (typeOf (.int i t)) (.type "int"):=.now
theorem vn{l:Addr}{vs:List Value}{dF: ~~~5}{Q:Value->Shared->Prop}(hl:s.heap.IsList l vs.toArray)(ht:TupIs s.heap vs dF)(kO:∀ns∈dF,ns≠[])(h64:vs.length<64)
  (h:∀p:List Nat,p.Perm (List.range vs.length)->p.map (λi=>dF.getD i [])=gF xR dF->Q (.ref (s⁻¹+1)) { s with heap:=sortedAll s.heap vs (p.map λi=>vs.getD i Value.none).toArray}) :
  wpAny (model prog w) A (call (.builtin "sorted") [.ref l]) Q E s:=by
 have hz:vs.length<=sizeLine:=by rw[tI];lia
 refine Cg hl hz ?_;have aH:=ht.length;by_cases h2:vs.length<2
 .
  refine GZ (sO _ _) h2 #[rfl,?_];have:=h (List.range vs.length) (AQ _) (by
   rw[aH]
   match dF,aH with
   | [],_=>rfl
   | [x],_=>rfl
   |_::_::_,hl2=>rw[hl2,gL,gL]at h2;lia)
  rw[gG]at this;exact this
 .
  have keep:∀b o,s.heap.get? b=!o->(dW { s with heap:=M9 s.heap vs} (s⁻¹+1) vs).heap.get? b=!o:=λb o e=>vg (vh (vs:=vs) e).2 (vh e).1
  have ht':=ht.keep keep;refine GX (κ:=tuples' true) (O:=xR) (key:=λi=>dF.getD i []) (sO _ _) ⋯ h64 (λQ' hq=>?_) (λi j C hi hj hC=>?_) λp hp hr=>#[rfl,?_]
  . obtain⟨fs,q1,q2,q3⟩:=ht'.firsts kO;exact kat_kind (T:=.type "int") q1 ⋯ (λv hv=>by obtain⟨i,t,rfl⟩:=q3 v hv;exact Cj) ⋯ hq
  . obtain⟨a,its,e,⟨o,e1,e2,n,e3⟩,q⟩:=ht'.at hi;obtain⟨b,iE,e',⟨o2,e4,e5,n2,e6⟩,q'⟩:=ht'.at hj;show wpAny _ _ (keyLt' (tuples' true) (vs.getD i Value.none) (vs.getD j Value.none)) C _ _;rw[e,e'];refine kat_lt e1 e3 e4 e6 (G0 q 0 q' ?_ hC);rw[<- q.length,<- q'.length];simp
  . rw[aH]at hp hr;exact h p.toList (by rw[aH];exact (AY.mp hp).trans ⋯) (vm hp hr)
end
section
def fP:List D->Option (~~~5)
 | []=>![]
 |.tup l::ds=>match aQ l,fP ds with |!(n::ns),!dF=>!((n::ns)::dF) |_,_=>none
 |_::_=>none
inductive jD(K:Frag)(H:Hp):List V->List (~~~0)->Prop
 |nil:jD K H [] []
 |cons {a:Addr}{ns: ~~~0}{vs:List V}{dF: ~~~5}:eU K H a (ns.map V.int)->jD K H vs dF->jD K H (.ref a::vs) (ns::dF)
theorem jD.real(I:L2.Inv X ah Y H s)(t:jD X.K H xs dF):∀{its:List Value},Vals xs its->TupIs s.heap its dF:=by
 induction t with
 |nil=>intro its r;cases r;exact .nil
 |cons q _ ih=>
  intro its r;cases r with
  |cons r rs=>cases r;obtain⟨iE,r2,p,_⟩:=I.tuple q;exact .cons #[_,_,rfl,p,by simpa using intsAre_of r2] (ih rs)
theorem j6(h:Vals xs us):∀{i:Nat},i<xs.length->RelV (xs.getD i .non) (us.getD i .none):=by
 induction h with
 |nil=>intro i hi;exact absurd hi (v6 _)
 |cons r _ ih=>
  intro i hi;cases i with
  |zero=>exact r
  |succ i=>exact ih (by simpa using hi)
theorem qH(h:Vals xs us):∀{p:List Nat},(∀i∈p,i<xs.length)->Vals (p.map λi=>xs.getD i .non) (p.map λi=>us.getD i .none)
 | [],_=>.nil
 |i::p,hp=>.cons (j6 h (hp i b0)) (qH h λj hj=>hp j (bP _ hj))
theorem sP:cF X (.builtin "sorted") (λxs H Q=>∃p ys dF,xs=[.ref p]/\cu X.K H p ys/\jD X.K H ys dF/\(∀ns∈dF,ns≠[])/\ys.length<64/\
  ∀q (o:List Nat),H q=none->(∀i∈o,i<ys.length)->o.map (λi=>dF.getD i [])=gF xR dF->Q (.ref q) (upd H q (.lst (o.map λi=>ys.getD i .non)))):=by
 intro ah s Y H xs us Q I r h;obtain⟨p,ys,dF,rfl,hq,ht,kO,hl,q⟩:=h;obtain⟨u,rfl,rx⟩:=vals1 r;cases rx;obtain⟨its,r',pl,hz⟩:=I.list hq;have aH:=r'.length;refine vn pl.isList (ht.real I r') kO ⋯ λo ho hs=>?_
 obtain⟨ep,he⟩:=sortedAll_at s.heap its (o.map λi=>its.getD i Value.none).toArray
 have hin:∀i∈o,i<ys.length:=λi hi=>by rw[aH];exact yB.mp (ho.mem_iff.mp hi)
 have hol:o.length=ys.length:=by rw[ho.length_eq,B6,aH]
 refine#[.ref (s⁻¹+1),_,I.laid (λb ob e=>sortedAll_old e) (AT _) ?_,rfl,q _ o (I.hok.fresh (AT _)) hin hs]
 exact#[by rw[eA,tI];lia,_,ep,qH r' hin,he]
theorem Nb(e:aQ l=!ns):l=ns.map .int:=by
 induction l generalizing ns with
 |nil=>cases e;rfl
 |cons d l ih=>cases d with
  |int i=>
   have e:(match aQ l with |some ns=>!(i::ns) |none=>none)=!ns:=e
   cases e2:aQ l with
   |none=>rw[e2]at e;cases e
   |some ms=>rw[e2]at e;cases e;rw[List.map_cons,<- ih e2]
  |_=>cases e
theorem qI{K:Frag}{M:List Addr}{H:Hp}{l:List D}{xs:List V}{dF: ~~~5}(q:aD K M H l xs)(e:fP l=!dF):jD K H xs dF/\(∀ns∈dF,ns≠[])/\l=dF.map λns=>.tup (ns.map .int):=by
 induction l generalizing xs dF with
 |nil=>cases q;cases e;exact#[.nil,λ_ z=>(nomatch z),rfl]
 |cons d l ih=>cases q with |cons r q=>cases d with
  |tup m=>
   unfold fP at e;split at e
   .
    rename_i n ns dF e1 e2;cases e;obtain⟨t1,t2,t3⟩:=ih q e2;cases r with
    |tup ha rr=>
     have:=bB rr e1;subst this;refine#[.cons ha.sq t1,λx hx=>(dL.mp hx).elim (λz=>by rw[z];exact List.cons_ne_nil _ _) (t2 x),?_]
     rw[List.map_cons,<- t3,Nb e1]
   . cases e
  |_=>cases e
theorem aD.pick{K:Frag}{M:List Addr}{H:Hp}{ds:List D}{vs:List V}(h:aD K M H ds vs):∀{o:List Nat},(∀i∈o,i<vs.length)->aD K M H (o.map λi=>ds.getD i .non) (o.map λi=>vs.getD i .non)
 | [],_=>.nil
 |i::o,ho=>by
  refine .cons ?_ (h.pick λj hj=>ho j (bP _ hj))
  have hi:=ho i b0;have hd:i<ds.length:=by rw[h.length];exact hi
  obtain⟨v,e1,e2⟩:=h.get (i:=i) (d:=ds[i]) (by simp[hd])
  have q1:ds.getD i .non=ds[i]:=by simp[hd]
  have q2:vs.getD i .non=v:=by rw[i6,e1];rfl
  show Rep K M H (ds.getD i .non) (vs.getD i .non);rw[q1,q2];exact e2
theorem xT{l:List D}{dF: ~~~5}(hK:z.K=X.K)(hi:fP l=!dF)(hl:dF.length<64):CallD X z (.builtin "sorted") [.lst l] (.new ((gF xR dF).map λns=>.tup (ns.map .int))):=by
 refine#[_,sP,λg Y As M H vs Q s p k=>?_]
 obtain⟨v,rfl,pv⟩:=p.one;obtain⟨a,xs,rfl,e1,rr⟩:=pv.list;obtain⟨t1,t2,t3⟩:=qI rr hi;have aH:xs.length=dF.length:=by rw[<- rr.length,t3,eA]
 refine#[a,xs,dF,rfl,cu.of e1,hK▸t1,t2,by lia,λq o hf hin hs=>?_]
 have e:((gF xR dF).map λns=>D.tup (ns.map .int))=o.map λi=>l.getD i .non:=by
  rw[<- hs,List.map_map];refine Ap λi hi=>?_
  have:i<dF.length:=by rw[<- aH];exact hin i hi
  rw[t3];simp[this]
 have rr':=(rr.pick hin).stay (aq.aO (o:=.lst (o.map λi=>xs.getD i .non)) hf)
 refine k _ _ As (q::M) (s.aO hf) (aq.aO hf) #[q,_,rfl,b0,λhA=>s.fresh hf (s.sub q hA),s.bY hf,az,?_]
 rw[e];exact rr'
end
open L2 PySem.W
open L2 PySem.W
section
def G4(X:Cx)(z:Z)(id:String)(d0 d1:D)(r:R):Prop:=
 ∀(g:G) (ah: ~~~1) (s:Shared) (Y:Sg) (As M:List Addr) (H:Hp) (v0 v1:V) (u0 u1:Value) (Post:Value->Shared->Prop),L2.Inv X ah Y H s->S z g Y As M H->Pk z.K M H d0 v0->Pk z.K M H d1 v1->RelV v0 u0->RelV v1 u1->
  (∀v u s1 H1 aI M1,L2.Inv X ah Y H1 s1->RelV v u->S z g Y aI M1 H1->aq M H M1 H1->cA z g Y aI M1 H1 r v->Post u s1)->wpAny (~~~2) X.A (call (.builtin id) [u0,u1]) Post X.xe s
theorem Nc(I:L2.Inv X ah Y H s)(p:Pk X.K M H d v)(r:RelV v u)(hs:cJ d=!l):s.TypeIs u (qo d)/\∀a,u=.ref a->∃ob,s.heap.get? a=!ob/\ob.dict=none:=by
 cases d with
 |tup m=>
  obtain⟨a,xs,rfl,ha,_⟩:=p.tup;cases r;have:∃o,s.heap.get? a=!o/\o.cls=.type "tuple" /\o.dict=none:=by
   rcases ha with ⟨_,hr⟩ |⟨hk,o,e1,e2⟩
   . obtain⟨_,its,_,⟨o,e1,⟨e2,_⟩,e3⟩⟩:=hr.ok I.hok;exact#[o,e1,e2,e3]
   .
    obtain⟨its,_,⟨o',q1,q2,_⟩,_⟩:=I.tuple (hk.elim (λz=>(rd0 z).elim) .inr:eU X.K H a xs)
    have:=I.mG a o e1;rw[q1]at this;cases this;exact#[_,q1,q2,e2]
  obtain⟨o,e1,e2,e3⟩:=this;exact#[#[o,e1,e2],λb e=>by cases e;exact#[o,e1,e3]]
 |lst m=>obtain⟨a,xs,rfl,ha,_⟩:=p.list;cases r;obtain⟨its,_,pl,_⟩:=I.list (cu.of ha);obtain⟨o,n,e1,e2,e3,e4⟩:=pl;exact#[#[o,e1,e2],λb e=>by cases e;exact#[o,e1,e3]]
 |fix m=>obtain⟨a,xs,rfl,ha,_⟩:=p.fix;cases r;obtain⟨its,_,pl,_⟩:=I.list ha.sq;obtain⟨o,n,e1,e2,e3,e4⟩:=pl;exact#[#[o,e1,e2],λb e=>by cases e;exact#[o,e1,e3]]
 |_=>cases hs
theorem Ng{o e:Expr}{name:Str}{id:String}{g g1 g2:G}{r0 r1 r:R}{d d0 d1:D}{l:List D}{cM bT:Pos}(hK:z.K=X.K)(pa:PlainAttrs (qo d))(slot:PySem.Slot (qo d) name id)(hty:typeOf (.builtin id)=pure (.type "method_descriptor"))
  (h0:aA X z o g r0 g1) (p0:pk r0 g1=!d) (hs:cJ d=!l) (ha:bO X z [e] g1 [r1] g2) (q0:pk r0 g2=!d0) (q1:pk r1 g2=!d1) (hm:G4 X z id d0 d1 r)
  (hbase:attributeBase o name X.env (eval o X.env)=eval o X.env)
  (hline:(cM.endLine==bT.line)=true) (b9:starEach [e] X.env=(false,eval e X.env)::starEach [] X.env):aA X z (.Call (.Attribute o name cM) [e] [] bT) g r g2:=by
 refine aA.of λah s Y As M H Post I st k=>?_
 refine wpAny_Call_method_late hbase (by rw[b9];rfl) hline rfl (h0.run I st λv u s1 H1 aI M1 I1 r1' Ka XJ Zw=>?_)
 obtain⟨hT,hd⟩:=Nc I1 (hK▸Ka.pk (aq.refl _ _) Zw p0) r1' hs;refine#[_,id,pa,slot,hty,hT,hd,?_];have hA:=ha.run (pos:=bT) (Post:=λus s2=>wpAny (~~~2) X.A (call (.builtin id) (u::us)) Post X.xe s2) I1 Ka λvs us s2 H2 aL M2 I2 r2 t1 t2 t3=>by
  have lJ:=t1.lJ t3 (by unfold lJ;rw[q1];rfl)
  obtain⟨v1,rfl,ZM⟩:=lJ.one;obtain⟨u1,rfl,ZN⟩:=vals1 r2;exact hm g2 ah s2 Y aL M2 H2 v v1 u u1 Post I2 t1 (t1.pk t2 Zw q0) ZM r1' ZN λv' u' s3 H3 jO M3 I3 r3 w1 w2 w3=>k v' u' s3 H3 jO M3 I3 r3 w1 (XJ.trans (t2.trans w2)) w3
 rw[b9]at hA ⊢
 exact Calls.callWith_builtin rfl (Calls.evalArgs_plain hA)
end
open L2 PySem.W SeqAt
section
def QX:D->String
 |.tup _=> "tuple.count"
 |_=> "list.count"
def ZP:D->String
 |.tup _=> "tuple.index"
 |_=> "list.index"
theorem gX:∀{l:List D}{us:List Value},jf h l us->us.countP (QS h x)=l.countP λd=>cI d x
 |_,_,.nil=>rfl
 |_,_,.cons q r=>by rw[List.countP_cons,List.countP_cons,xK q,gX r]
theorem G6(hK:z.K=X.K)(hs:cJ d0=!l)(p1:jd d1=true)(p2:eE l=true)(hd:X.A.units+deps l+1<cLine):G4 X z (QX d0) d0 d1 (.dat (.int (l.countP λd=>cI d d1:Nat))):=by
 intro g ah s Y As M H v0 v1 u0 u1 Post I st q0 q1 r0 r1 k;rw[hK]at q0 q1;have hx:=q1.dv I r1 p1;have fin:Post (.int (l.countP λd=>cI d d1:Nat) s.toks) { s with toks:=s.toks+1}:=k (.int _) _ _ H As M (I.tok _) ⟨_,rfl⟩ st (aq.refl _ _) (.int _)
 cases d0 with
 |tup m=>cases hs;obtain⟨a,xs,rfl,ha,rr⟩:=q0.tup;cases r0;obtain⟨its,rv,⟨⟨cls,dd,data,sl⟩,ho,hc,n,hdt⟩,hz⟩:=I.tuple ha.sq;subst hc hdt;have gW:=rr.dv I rv p2;show wpAny _ _ (call (.builtin "tuple.count") _) _ _ _;refine A8 F.slot_tuple_count #[_,ho,rfl] F.entry_tuple_count (F.args_tuple_count_2 _ _) (tuple_countAt a its.toArray n dd sl u1 (QS s.heap d1)) #[ho,ni gW hx hd,?_];rw[gX gW];exact fin
 |lst m=>cases hs;obtain⟨a,xs,rfl,ha,rr⟩:=q0.list;cases r0;obtain⟨its,rv,pl,hz⟩:=I.list (cu.of ha);obtain⟨⟨cls,dd,data,sl⟩,ho,hc,n,hdt⟩:=pl.isList;subst hc hdt;have gW:=rr.dv I rv p2;show wpAny _ _ (call (.builtin "list.count") _) _ _ _;refine A8 B7 #[_,ho,rfl] F.entry_list_count (F.args_list_count_2 _ _) (list_countAt a its.toArray n dd sl u1 (QS s.heap d1)) #[ho,ni gW hx hd,?_];rw[gX gW];exact fin
 |fix m=>cases hs;obtain⟨a,xs,rfl,ha,rr⟩:=q0.fix;cases r0;obtain⟨its,rv,pl,hz⟩:=I.list ha.sq;obtain⟨⟨cls,dd,data,sl⟩,ho,hc,n,hdt⟩:=pl.isList;subst hc hdt;have gW:=rr.dv I rv p2;show wpAny _ _ (call (.builtin "list.count") _) _ _ _;refine A8 B7 #[_,ho,rfl] F.entry_list_count (F.args_list_count_2 _ _) (list_countAt a its.toArray n dd sl u1 (QS s.heap d1)) #[ho,ni gW hx hd,?_];rw[gX gW];exact fin
 |_=>cases hs
end
open L2 PySem.W SeqAt
section
theorem xU{r:R}{l:List D}{ns: ~~~0}{j:Nat}(ha:bO X z [e] g [r] g1)(hp:pk r g1=!(.lst l))(hi:aQ l=!ns)(hl:ns.length<64)
  (hg:Gl X "sorted") (hm:X.mg "sorted"=none) (b9:starEach [e] X.env=(false,eval e X.env)::starEach [] X.env) :
  aA X z (.Call (.Name "sorted" p) [e] [#[!"reverse",.Constant (.bool true) j kp,kpos]] pos) g (.new ((bQ ns).reverse.map .int)) g1:=by
 refine aA.of λah s Y As M H Post I st k=>?_
 refine o3 (dP I hg hm (by rfl:bootBuiltins ("sorted":Str)=!(.builtin "sorted")) (callWith_kw ?_ (by rw[b9];rfl) (by rw[b9];rfl)))
 refine ha.run I st λvs us s1 H1 aI M1 I1 r1 q1 q2 q3=>?_
 have lJ:=q1.lJ q3 (ds:=[.lst l]) (by unfold lJ;rw[hp];rfl)
 obtain⟨v1,rfl,ZM⟩:=lJ.one;obtain⟨u1,rfl,ZN⟩:=vals1 r1;refine kws_cons (Constant_bool (kws_nil ?_));obtain⟨q,xs,rfl,e1,e2⟩:=ZM.list;have:=bB e2 hi;subst this;cases ZN;obtain⟨its,rv,pl,_⟩:=I1.list (cu.of e1);have aH:=rv.length;rw[eA]at aH;refine sorted_ints_rev (b:=true) pl.isList (intsAre_of rv) ⋯ λout ns' a1 a2 a3=>?_
 have e0:ns'=(bQ ns).reverse:=by
  have hr:ns'.reverse.Pairwise (· <= ·):=by rw[List.pairwise_reverse];exact a3
  have:=nJ ((List.reverse_perm ns').trans a2) hr;rw[<- this,List.reverse_reverse]
 subst e0;obtain⟨ep,he⟩:=sortedAll_at s1.heap its out;have hf:H1 (s1⁻¹+1)=none:=I1.hok.fresh (AT _);have hlen2:(bQ ns).reverse.length=ns.length:=by rw[List.length_reverse];exact (bZ ns).length_eq
 refine k (.ref (s1⁻¹+1)) _ _ (upd H1 (s1⁻¹+1) (.lst ((bQ ns).reverse.map V.int))) aI ((s1⁻¹+1)::M1) (I1.laid (t':=s1.toks) (o:=.lst ((bQ ns).reverse.map V.int)) (λb o e=>sortedAll_old e) (AT _) ?_) rfl (q1.aO hf) (q2.trans (aq.aO hf)) #[_,_,rfl,b0,λhA=>q1.fresh hf (q1.sub _ hA),q1.bY hf,az,qy _]
 refine#[by rw[eA,hlen2,tI];lia,out.toList,ep,jU a1,?_]
 rw[he]
end
open L2 PySem.W SeqAt
open L2 PySem.W SeqAt
section
theorem dm.of (h:∀(ah: ~~~1) (s:Shared) (Y:Sg) (As M:List Addr) (H:Hp) (Post:Value->Shared->Prop),L2.Inv X ah Y H s->S z g Y As M H->
  (∀v s1,(∀(R:It->Hp->Prop),(∀J H' aB M',S z g1 Y aB M' H'->aq M H M' H'->Jt J ao z.K M' H'->R J H')->wpAny (~~~2) X.A (pyIter v) (PIE X ah Y tg R) X.xe s1)->Post v s1)->wpAny (~~~2) X.A (eval iter X.env) Post X.xe s):dm X z tg iter g ao g1:=
 #[λY H R=>∃As M,S z g Y As M H/\(∀J H' aB M',S z g1 Y aB M' H'->aq M H M' H'->Jt J ao z.K M' H'->R J H'),by rintro ah s Y H R I ⟨As,M,st,k⟩;exact h ah s Y As M H _ I st λv s1 q=>q R k,λY As M H R s k=>#[As,M,s,k]]
end
open L2 PySem.W SeqAt
section
theorem xV(hit:s.heap.IsTupleIter it t i)(ht:s.heap.IsTuple t ao)(hx:ao[i]?=!x)(hQ:∀h',h'.IsTupleIter it t (i+1)->Heap.SameBut it s.heap h'->Q x { s with heap:=h'}):wpAny (model prog w) A (Builtin.SmallTypes.nextOf (.ref it)) Q E s:=by obtain⟨o,ho,hc,hd⟩:=id hit;obtain⟨ol,hol,_,nl,hdl⟩:=ht;refine aS (n4 hit.typeIs AB (mE AB hit.typeIs F.entry_tuple_iterator_next ?_ (F.args_tuple_iterator_next_1 _)));show wpAny _ _ (field (.ref it) 0 >>= _) _ _ s;refine aS (xI ho hd rfl ?_);refine aS (xI ho hd rfl ?_);refine aS (A4 hol hdl ?_);simp only[AJ,hx];refine aS (sT ho hd ⋯ (a8 #[x,rfl,a8 (hQ _ #[_,i9 _ ho (o4 (nE hd _)),(AX ..).trans hc,?_] (o5 ..))]));rw[nE hd];simp[rawInt]
theorem pK(hh:A.handled=none)(hit:s.heap.IsTupleIter it t i)(ht:s.heap.IsTuple t ao)(hx:ao[i]?=none)
  (hE:∀h' e,Heap.ExtBut it s.heap h'->(∃o,h'.get? e=!o/\o.cls=.type "StopIteration")->E (.ref e) { s with heap:=h'}):wpAny (model prog w) A (Builtin.SmallTypes.nextOf (.ref it)) Q E s:=by
 obtain⟨o,ho,hc,hd⟩:=id hit;obtain⟨ol,hol,_,nl,hdl⟩:=ht;refine aS (n4 hit.typeIs AB (mE AB hit.typeIs F.entry_tuple_iterator_next ?_ (F.args_tuple_iterator_next_1 _)));show wpAny _ _ (field (.ref it) 0 >>= _) _ _ s;refine aS (xI ho hd rfl ?_);refine aS (xI ho hd rfl ?_);refine aS (A4 hol hdl ?_);simp only[AJ,hx];refine aS (A9 (aS (sT ho hd ⋯ ?_)));refine aS ?_;refine aS (lS (aS (B8 (by first |rfl | (simp only[firstArgMember];rfl)) (lS ?_ (by size_fits)))) (by size_fits))
 refine aS (wpAny_handled ?_)
 first |rw[show A.in1.handled=none from hh] |rw[hh]
 exact aS (a8 (wpAny_throw (hE _ _ (((o5 ..).extBut.push _).push _) #[_,dC _ rfl,rfl])))
theorem G7(hh:A.handled=none)(it t:Addr)(kO:t≠it)(ao:Array Value):Draws prog w A it [it,t] ao.size (λi v=>ao[i]?=!v) (λi h=>h.IsTupleIter it t i/\h.IsTuple t ao) where
 live:=λ_ _ st=>let #[o,ho,_]:=st.1;#[o,ho]
 frame:=λ_ _ _ st hk=>by
  obtain⟨⟨o,ho,r⟩,⟨o',ho',r'⟩⟩:=st;exact#[#[o,hk it ⋯ o ho,r],#[o',hk t ⋯ o' ho',r']]
 item:=λi s Q E hi st hQ=>xV st.1 st.2 (x:=ao[i]) (by simp[hi]) λh' vo hs'=>hQ _ h' s.toks (by simp[hi]) #[vo,IsTup.extBut st.2 hs'.extBut kO] hs'
 done:=λs Q E st hE=>pK hh st.1 st.2 ⋯ hE
theorem vp(l:Addr)(ao:Array Value)(n:Nat)(dct:Option Addr)(sl:Array (Option Value)) :
  Meets (Builtin.«enumerate.__new__» #[[.type "enumerate",.ref l],[]]) (λ_ R s=>s.heap.get? l=some { cls:=.type "tuple",dict:=dct,data:=.seq ao n,slots:=sl}/\R (.ok (.ret (.ref (s.heap.push { cls:=.type "tuple_iterator",data:=.fields ([.ref l,.int 0 0].toArray)}).objs.size)))
    { s with heap:=(s.heap.push { cls:=.type "tuple_iterator",data:=.fields ([.ref l,.int 0 0].toArray)}).push { cls:=.type "enumerate",data:=.fields ([.none,.bool false,.ref s⁻¹,rawInt 0,.none,.none].toArray)}}):=
 .of_wp λprog w A R s h=>by
  obtain⟨hp,g,d,tk,os⟩:=s;obtain⟨hl,h⟩:=h;have hsub:=sub_enumerate;have hL:Heap.IsTuple (Shared.heap #[hp,g,d,tk,os]) l ao:=#[_,hl,rfl,n,rfl]
  wp_walk using AutoSeq1.wpAny_loadPart' hl
  refine wpAny_stack_any λst=>a8 ?_
  split
  . rename_i c _ _ _ _ _;cases (c==Value.type "enumerate") <;> (wp_walk using AutoSeq1.wpAny_loadPart' hl,wT hL;exact#[_,rfl,h])
  .
   wp_walk using AutoSeq1.wpAny_loadPart' hl,wT hL
   exact#[_,rfl,h]
theorem xX(hL:s.heap.IsTuple l ao)
  (h:∀h',IsEnum h' (s⁻¹+1) s⁻¹ 0 .none->h'.IsTupleIter s⁻¹ l 0->h'.objs.size=s⁻¹+2->(∀b o,s.heap.get? b=!o->h'.get? b=!o)->Q (.ref (s⁻¹+1)) { s with heap:=h'}) :
  wpAny (model prog w) A (call (.type "enumerate") [.ref l]) Q E s:=by
 obtain⟨⟨c,dct,dt,sl⟩,hl,hc,n,hd⟩:=hL;cases (show c=.type "tuple" from hc)
 cases (show dt=.seq ao n from hd)
 refine callType_new F.called_enumerate ⋯ (F.typeCall_enumerate_1 _) (F.newCall_enumerate_1 _) (λobj=>F.args_object_init_2 obj _) F.entry_enumerate_new (vp l ao n dct sl) #[hl,?_]
 generalize hq:s.heap.push { cls:=.type "tuple_iterator",data:=.fields ([.ref l,.int 0 0].toArray)}=h1;have hz:h1.objs.size=s⁻¹+1:=by rw[<- hq];exact qS ..
 have hi:h1.get? s⁻¹=some { cls:=.type "tuple_iterator",data:=.fields ([.ref l,.int 0 0].toArray)}:=by rw[<- hq];exact dC _ rfl
 have he:IsEnum (h1.push { cls:=.type "enumerate",data:=.fields ([.none,.bool false,.ref s⁻¹,rawInt 0,.none,.none].toArray)}) h1.objs.size s⁻¹ 0 .none:=dC h1 rfl;rw[hz]at he ⊢
 exact#[#[_,he,rfl],h _ he #[_,a9 _ hi,rfl,rfl] (by rw[qS,hz]) λb o x=>a9 _ (by rw[<- hq];exact a9 _ x)]
end
open L2 PySem.W SeqAt
section
variable{X:Cx}{ah: ~~~1}{Y:Sg}{H:Hp}{s:Shared}
theorem Inv.U6{h':Heap}{t':Nat}{ch:List Addr}{xs:List V}{its:List Value}(I:L2.Inv X ah Y H s)(hf:∀b∈ch,jR X ah H b)(k:∀b o,b∉ch->s.heap.get? b=!o->h'.get? b=!o)(hz:xs.length<=sizeLine)(rv:Vals xs its)(ht:fD h' s⁻¹ its.toArray) :
  L2.Inv X ah Y (upd H s⁻¹ (.tup xs)) { s with heap:=h',toks:=t'}:=by
 have nH:∀b u,H b=!u->b∉ch:=λb u e z=>by rw[(hf b z).1]at e;cases e
 have fr:=I.hok.fresh (dE _);have nn:∀b u,H b=!u->b≠s⁻¹:=λb u e z=>by rw[z,fr]at e;cases e
 refine I.step (λb hb=>?_) (λb o _ _ hc e _=>k b o hc e) (λb o _ _ hc e _=>#[o.slots,k b o hc e]) (λb o _ e n=>by rw[au (fA (dS e))];exact n) (λb o hc e=>#[o,k b o hc e]) (λb _ e=>by rw[au (nn _ _ e)];exact e) (λb _ _ e=>by rw[au (nn _ _ e)];exact e) (λb ps e=>#[([].toArray),by rw[au (nn _ _ e),e];simp]) (λm hm=>?_) (λb u e=>?_) I.bare
 . obtain⟨f0,f1,f2,f3,f4,f5⟩:=hf b hb;exact#[f3,f1,f4,f5]
 . obtain⟨o,es,ep,ho,rr⟩:=hm;exact#[o,es,ep,k _ o (λz=>(hf _ z).2.1 rfl) ho,rr]
 .
  by_cases hb:b=s⁻¹
  . subst hb;rw[az]at e;cases e;exact#[hz,its,rv,ht]
  .
   rw[au hb]at e;refine (I.hok b u e).stay (λc w hc q=>k c w (λz=>?_) q) (λc q=>by rw[au (nn _ _ q)];exact q) λc _ q=>by rw[au (nn _ _ q)];exact q
   rcases hc with rfl |hc
   . exact nH _ _ e z
   . exact nH _ _ hc z
end
theorem xY{X:Cx}{ah: ~~~1}{Y:Sg}{H:Hp}{s:Shared}{u c:Addr}{us:List V}(I:L2.Inv X ah Y H s)(h:eU X.K H u us)(f:jR X ah H c):u≠c:=λz=>by
 subst z;rcases h with (h |⟨o,h⟩) |h
 . rw[f.1]at h;symm
 . rw[f.1]at h;symm
 .
  obtain⟨o,_,_,e,_⟩:=h;have e0:=I.ok.mod.wY u o e;rcases f.2.2.2.1 with q |q
  . exact I.ok.uC u o e0 q
  . exact absurd (eM (dS (I.ok.bs u o e0).1) q) (nN _)
def Ite(K:Frag)(a:Addr):It:=
 #[λi H=>∃xs x,eU K H a xs/\xs[i]?=!x,λi H x H'=>∃p y,(∀xs,eU K H a xs->xs[i]?=!y)/\H p=none/\x=.ref p/\H'=upd H p (.tup [.int (i:Int),y]),λi H=>∃xs,eU K H a xs/\xs.length=i]
theorem Cp{P:Program}{w:World}{K:Frag}{es:List Expr}{k:Nat}{pos:Pos}(e it a:Addr)(hei:e≠it):Turn P w K (.Tuple es k pos) (Ite K a) [e,it] e (λi h=>(∃old,IsEnum h e it (i:Int) old)/\h.IsTupleIter it a i) where
 mem:=by simp
 obj:=λi h st b hb=>by
  obtain⟨⟨old,he⟩,oi,e1,_,e2⟩:=st;rcases dL.mp hb with rfl |hb
  . exact#[_,he,λv z=>nomatch (show Data.fields _=Data.cell v from z)]
  . cases mP.mp hb;exact#[oi,e1,λv z=>by rw[e2]at z;cases z]
 keep:=λi h h' st k=>by
  obtain⟨⟨old,he⟩,o,q,d⟩:=st;exact#[#[old,k e ⋯ _ he],o,k it ⋯ o q,d]
 item:=by
  intro X hP hw hK hc i ah s Y H E I hf st hg;subst hP hw hK;obtain⟨⟨old,he⟩,hi⟩:=st;obtain⟨xs,x,hq,hx⟩:=hg;obtain⟨its,rv,hat,hz⟩:=I.tuple hq;have hae:a≠e:=xY I hq (hf e ⋯);have hai:a≠it:=xY I hq (hf it ⋯);have hlt:i<its.length:=by rw[<- rv.length];exact (c8.mp hx).1
  refine wpAny_pyNext_enum_itemD (G7 (A:=X.A.in1) (I.ok.hd hc) it a hai its.toArray) he #[hi,hat] hlt hei (by simp[hei,sB hae]) λu h1 tk hu hout b9 ht hsz hkp=>#[_,rfl,?_]
  refine wpAny_letOwnedTupleGo_enum hout λh2 he2 hs2=>?_
  replace hs2:Heap.SameBut e h1 h2:=hs2;obtain⟨u',e1,ru⟩:=rv.get hx;rw[List.getElem?_toArray,e1]at hu;cases hu;have hpe:=AS (dS he);obtain⟨oi0,ei0,_⟩:=id hi;have I3:=Inv.U6 (t':=tk+1) I (h':=h2) hf (xs:=[.int (i:Int),x]) (its:=[.int (i:Int) tk,u]) (λb o hb q=>by
   simp only[dL,kA,AA,not_or]at hb;exact (hs2.2 b hb.1).trans (hkp b o hb.1 hb.2 q)) (by rw[tI];show 2<=16777216;decide) (.cons #[tk,rfl] (.cons ru .nil)) #[_,(hs2.2 _ hpe).trans ht,#[rfl,_,rfl],rfl]
  have hfr:=I.hok.fresh (dE _);obtain⟨⟨oj,q1,q2⟩,_⟩:=b9;refine#[.ref s⁻¹,_,I3,rfl,#[_,x,λys hy=>by rw[I.p6 hy hq];exact hx,hfr,rfl,rfl],#[#[u,he2],oj,(hs2.2 it (sB hei)).trans q1,q2],λb hb=>?_]
  have hbn:b≠s⁻¹:=λz=>by
   rcases dL.mp hb with rfl |hb
   . exact hpe z.symm
   . cases mP.mp hb;exact absurd (dS ei0) (by rw[z];exact nN _)
  rw[au hbn];exact (hf b hb).1
 done:=by
  intro X hP hw hK hc i ah s Y H E I hf st hg;subst hP hw hK;obtain⟨⟨old,he⟩,hi⟩:=st;obtain⟨xs,hq,hx⟩:=hg;obtain⟨its,rv,hat,hz⟩:=I.tuple hq;obtain⟨g0,g1,g2,g3,g4,g5⟩:=hf it ⋯;have hl:i=its.length:=by rw[<- rv.length];exact hx.symm
  subst hl;exact wpAny_pyNext_enum_endD (G7 (A:=X.A.in1) (I.ok.hd hc) it a (xY I hq (hf it ⋯)) its.toArray) he #[hi,hat] λh' eb=>#[rfl,I.turned (λb o hb q=>eb b o hb q) g0 g1 g3 g4 g5]
 self:=λA i s Q E st h=>by
  obtain⟨⟨old,he⟩,_⟩:=st;exact wpAny_pyIter_enum he h
section
def kY(l:List D):List D:=l.zipIdx.map λp=>.tup [.int (p.2:Nat),p.1]
theorem Cq{l:List D}{n:Nat}{d:D}(h:(kY l)[n]?=!d):∃x,l[n]?=!x/\d=.tup [.int n,x]:=by
 unfold kY at h;rw[oI]at h;cases e:l.zipIdx[n]? with
 |none=>rw[e]at h;symm
 |some q=>
  rw[e]at h;symm;rw[List.getElem?_zipIdx]at e;cases e2:l[n]? with
  |none=>rw[e2]at e;cases e
  |some x=>rw[e2]at e;cases e;exact#[x,rfl,by simp]
theorem Cr(l:List D):(kY l).length=l.length:=by simp[kY]
theorem Nh{l:List D}(hK:z.K=X.K)(ha:bO X z [e] g [.dat (.tup l)] g1)(hg:Gl X "enumerate")(hm:X.mg "enumerate"=none)(b9:starEach [e] X.env=[(false,eval e X.env)]) :
  dm X z (.Tuple es k pos) (.Call (.Name "enumerate" p) [e] [] rp) g (kY l) g1:=by
 refine dm.of λah s Y As M H Post I stt kk=>?_
 refine Call_ (dP I hg hm boot_enumerate (oC (ha.run I stt λvs us s1 H1 aI M1 I1 r1 q1 q2 q3=>?_) b9 rfl))
 cases q3 with
 |dat rp0 R=>
  cases R;obtain⟨u,rfl,ru⟩:=vals1 r1;cases rp0 with
  |@tup _ a xs hb rr=>
   cases ru;rw[hK]at hb;obtain⟨its,rv,pl,hz⟩:=I1.tuple hb.sq;have hsq:∀M2 H2,aq M1 H1 M2 H2->eU X.K H2 a xs:=λM2 H2 aG=>TupAt.sq (M:=M2) (hb.imp (λq=>aG.rd q.1 q.2) id)
   refine xX pl λh' he hi hsz hk=>kk _ _ λR kR=>?_
   refine wpAny_pyIter_enum he ?_;have I2:=I1.kept (t':=s1.toks) hk;refine#[_,[s1⁻¹+1,s1⁻¹],_,Ite X.K a,H1,rfl,I2,Cp _ _ a (Nat.succ_ne_self _),#[#[_,he],hi],λb hb=>?_,kR _ H1 aI M1 q1 q2 λM2 H2 aG=>?_]
   .
    rcases dL.mp hb with rfl |hb
    . exact I1.Bb (AT _) (I1.hok.fresh (AT _))
    . cases mP.mp hb;exact I1.Bb (dE _) (I1.hok.fresh (dE _))
   .
    have Ur:=rr.stay aG;refine#[λn d hd=>?_,xs,hsq M2 H2 aG,by rw[Cr];exact rr.length.symm]
    obtain⟨x,e1,rfl⟩:=Cq hd;obtain⟨v,e2,e3⟩:=Ur.get e1;refine#[#[xs,v,hsq M2 H2 aG,e2],λy H' hy z' g' σ' aB hz' s'=>?_]
    obtain⟨p,y',w1,w3,rfl,rfl⟩:=hy;have w2:=w1 xs (hsq M2 H2 aG);rw[e2]at w2;cases w2;exact#[s'.laid w3,aq.laid w3,.tup (.inl #[s'.fresh w3,.inl az]) (.cons (.int _) (.cons (e3.stay (aq.laid w3)) .nil))]
end
open L2 PySem.W SeqAt
end Ev
namespace HT
open PySem PyProof.Rows
end HT
namespace Ev
open L2
section
noncomputable abbrev m1(j:Nat)(p1 p3:Pos):Expr:=.UnaryOp .USub (.Constant (.int 1) j p1) p3
theorem U7:aA X z (.Dict [] [] pos) g (.dat (.emp [])) g:=by
 refine#[λY H Q=>∀p o,H p=none->Q (.ref p) (upd H p (.kP o (dI []))),λah s Y H Q I h=>wpAny_Dict_empty #[.ref s⁻¹,_,I.laid (λb ob q=>a9 _ q) (dE _) ?_,rfl,h _ { cls:=.type "dict",data:=.dict ([].toArray)} (I.hok.fresh (dE _))],λY As M H Q s k p o hp=>k _ _ As M (s.laid hp) (aq.laid hp) (.emp (s.fresh hp) az)]
 refine#[dC _ rfl,tP _,?_,[],?_,Heap.DictOf.new _]
 .
  have h1:=(I.ok.mod.glob.keeps I.bk).lt;refine Bool.eq_false_iff.mpr λq=>?_
  have q:=eq_of_beq q;rw[q]at h1;exact absurd h1 ⋯
 . exact .nil
end
open L2 PySem.W SeqAt
end Ev
namespace L2
def zF(T:List Addr)(H:Hp):Prop:=∀b,(b∈T/\H b=!(.lD ([].toArray)))\/(b∉T/\(H b=none\/∃o xs,H b=!(.kP o (.lst xs))))
theorem Cv{P:Program}{w:World}{K:Frag}{mg mb:Str->Option Value}{CX:Bj}{k:Nat}{fa a:Addr}{fd:FuncData}{x:Str}{sp:Sp}{s₁:Shared}{vs:List Value}{ns: ~~~0}{T:List Addr}
  (KX:K.In s₁.heap) (hT:∀q∈T,(∃c,s₁.heap.TableAt c q ([].toArray))/\K.lookup q=none) (hns:s₁.heap.Ns mainGlobals mg) (hb:s₁.heap.Ns builtinsNs mb) (hbb:∀x:Str,x≠ "__name__" ->mb x=bootBuiltins x) (hlim:s₁.heap.NoLimit) (hg:s₁.gens = ([].toArray))
  (ha:s₁.heap.get? a=some { cls:=.type "list",data:=.seq vs.toArray}) (hi:IntsAre vs ns) (hl:ns.length<=sizeLine) (hr:bH k callerA)
  (F:∀base:Heap,K.In base->base.Ns mainGlobals mg->iM P w K mg base CX k fa fd [x] sp) (hbind:∀(s:Shared) (u:Value),BindsTo s fd #[[u],[]] [(x,u)])
  (XF:∀H:Hp,zF T H->cu K H a (ns.map V.int)->sp [.ref a] H (λv _=>v=.bl true) λ_ _ _=>False)
  (hCX:∀H e s',CX [] H s₁ (λ_ _ _=>False) e s'->False) :
  codeAny (model P w) callerA (.call (.ref fa) #[[.ref a],[]]) (λr s'=>r=.ok (.ret (.bool true))/\OldK s₁.heap s'.heap/\s'.os=s₁.os/\AllBare s'.gens) s₁:=by
 have rv:=jU hi;have lenV:=hi.length;have aT:a∉T:=λh=>by
  obtain⟨⟨c,_,e⟩,_⟩:=hT a h;rw[ha]at e;cases e
 have core:∀H:Hp,zF T H->cu K H a (ns.map V.int)->jP P w H s₁.heap->(∀b,H b≠none->b=a\/b∈T)->(H a≠none->K.lookup a=none)->
   codeAny (model P w) callerA (.call (.ref fa) #[[.ref a],[]]) (λr s'=>r=.ok (.ret (.bool true))/\OldK s₁.heap s'.heap/\s'.os=s₁.os/\AllBare s'.gens) s₁:=by
  intro H hO hS hok hA hK;have zG:∀{b:Addr}{o:Obj},s₁.heap.get? b=!o->H b=none->(rQ s₁.heap H).get? b=!o:=λe n=>En e n
  have Y6:∀{b:Addr}{o:Obj}{es:Array DictEntry}{ep:Nat},s₁.heap.get? b=!o->o.data=.dict es ep->H b=none:=λ{b o es ep} e d=>by
   cases q:H b with
   |none=>rfl
   |some u=>
    rcases hA b (by rw[q];simp)with e' |e'
    . subst e';rw[ha]at e;cases e;have d':=d;cases d'
    . obtain⟨⟨c,_,e2⟩,_⟩:=hT b e';rw[e]at e2;cases e2;have d':=d;cases d'
  have nsK:∀{b:Addr}{m:Str->Option Value},s₁.heap.Ns b m->(rQ s₁.heap H).Ns b m:=λ{b m} #[o,es,ep,e,d,r]=>#[o,es,ep,zG e (Y6 e d),d,r]
  have QZ:K.In (rQ s₁.heap H):=λb o e=>zG (KX b o e) (by
   cases q:H b with
   |none=>rfl
   |some u=>
    rcases hA b (by rw[q];simp)with e' |e'
    . subst e';rw[hK (by rw[q];simp)]at e;cases e
    .
     rw[(hT b e').2]at e;cases e)
  have hM:Mod K mg (rQ s₁.heap H):=#[QZ,nsK hns,#[mb,nsK hb,hbb],let #[mc,h1,h2]:=hlim;#[mc,nsK h1,h2]]
  have e0:Fe P w K mg (rQ s₁.heap H) callerA [] s₁ H:=#[rfl,hM,λb o e=>KH e,Nat.le_of_eq (Ba _ _),trivial,λb hb=>absurd (show b∈([]:List Addr)from hb) ⋯,hok,.of_eq hg]
  refine AL ((F _ QZ (nsK hns)).run callerA [] s₁ H #[[.ref a],[]] [.ref a] [.ref a] _ _ hr e0 (hbind s₁ (.ref a)) (.cons rfl .nil) (XF H hO hS)) λr s' h=>?_
  cases r with
  |error e=>exact (hCX H e s' h).elim
  |ok fl=>
   cases fl with
   |next=>exact False.elim h
   |brk=>exact False.elim h
   |cont=>exact False.elim h
   |ret u=>
    obtain⟨v,H',os,bare,un,Ni,r',q⟩:=h;have q':=q;subst q';obtain rfl:u=Value.bool true:=r';have tabs:∀b∈T,∀o,s₁.heap.get? b=!o->∃more,o={ cls:=.none,data:=.fields ([].toArray)}/\s'.heap.get? b=some { cls:=.none,data:=.fields more}:=λb hb o e=>by
     obtain⟨⟨c,_,e2⟩,_⟩:=hT b hb;rw[e]at e2;cases e2;rcases hO b with ⟨_,z⟩ |⟨z,_⟩
     . obtain⟨more,z2⟩:=un.jk b _ z;exact#[_,rfl,Ni b _ z2]
     . exact absurd hb z
    have rest:∀b,b∉T->∀o,s₁.heap.get? b=!o->s'.heap.get? b=!o:=λb hb o e=>by
     cases q:H b with
     |none=>exact un.keep b o e q (by intro z;exact absurd (show b∈([]:List Addr)from z) ⋯) ⋯
     |some u=>
      rcases hO b with ⟨z,_⟩ |⟨_,z⟩
      . exact absurd z hb
      .
       rcases z with z |⟨ob,xs,z⟩
       . rw[q]at z;cases z
       . have z2:=un.jj b ob _ z;obtain⟨e1,_⟩:=hok b _ z;obtain⟨e2,_⟩:=Ni b _ z2;rw[e]at e1;cases e1;exact e2
    refine#[rfl,#[λb o e=>?_,λb o e=>?_],os,bare]
    .
     by_cases hb:b∈T
     . obtain⟨more,rfl,e2⟩:=tabs b hb o e;obtain⟨⟨c,t⟩,_⟩:=hT b hb;exact .inr (.inl #[t.isCodeTable,rfl,([].toArray),more,rfl,by rw[e2];simp])
     . exact .inl (rest b hb o e)
    .
     by_cases hb:b∈T
     . obtain⟨more,rfl,e2⟩:=tabs b hb o e;exact#[_,e2]
     . exact#[_,rest b hb o e]
 have G8:∀b∈T,s₁.heap.get? b=some { cls:=.none,data:=.fields ([].toArray)}:=λb hb=>by
  obtain⟨⟨c,_,e2⟩,_⟩:=hT b hb;exact e2
 cases hk:K.lookup a with
 |some o=>
  have e:=KX a o hk;rw[ha]at e;cases e;refine core (λb=>if b∈T then some (.lD ([].toArray))else none) (λb=>?_) (.inr #[_,vs.toArray,_,hk,rfl,rfl,rfl,by rw[b8,lenV];exact hl,by simpa using rv]) (λb u z=>?_) (λb z=>?_) λz=>absurd (fN aT) z
  .
   by_cases hb:b∈T
   . exact .inl #[hb,hV hb]
   . exact .inr #[hb,.inl (fN hb)]
  .
   by_cases hb:b∈T
   . have z':=(hV hb).symm.trans z;cases z';exact G8 b hb
   . have z':=(fN hb).symm.trans z;cases z'
  .
   by_cases hb:b∈T
   . exact .inr hb
   . exact absurd (fN hb) z
 |none=>
  refine core (λb=>if b∈T then some (.lD ([].toArray))else if b=a then some (.kP { cls:=.type "list",data:=.seq vs.toArray} (.lst (ns.map V.int)))else none) (λb=>?_) (.inl (.inr #[{ cls:=.type "list",data:=.seq vs.toArray},(fN aT).trans (hV rfl)])) (λb u z=>?_) (λb z=>?_) λ_=>hk
  .
   by_cases hb:b∈T
   . exact .inl #[hb,hV hb]
   .
    refine .inr #[hb,?_];by_cases hb2:b=a
    . exact .inr #[_,_,(fN hb).trans (hV hb2)]
    . exact .inl ((fN hb).trans (fN hb2))
  .
   by_cases hb:b∈T
   . have z':=(hV hb).symm.trans z;cases z';exact G8 b hb
   .
    have z1:=(fN hb).symm.trans z;by_cases hb2:b=a
    . have z':=(hV hb2).symm.trans z1;cases z';subst hb2;exact#[ha,by rw[eA];exact hl,vs,_,rv,ha]
    . have z':=(fN hb2).symm.trans z1;cases z'
  .
   by_cases hb:b∈T
   . exact .inr hb
   .
    by_cases hb2:b=a
    . exact .inl hb2
    . exact absurd ((fN hb).trans (fN hb2)) z
end L2
namespace Ev
open L2
abbrev j7(p:Addr)(o:Obj):HO:=.ext λh=>h.get? p=!o
section
theorem S.grow(s:S z g Y As M H){q:Addr}{qn:Str}{ps:Array Value}{pos:Pos}{c:Addr}(hq:(q,qn)∈z.T)(hu:∀p∈z.T,p.1=q->p.2=qn)(hp:H q=!(.lD ps))(ht:TriplesOk ps.toList)(hc:H c=!(fS qn c))
  (ok:TriplesOk (ps ++ ([rawInt pos.line,rawInt pos.col,.ref c].toArray)).toList) (am:∀pos' cv,codeAmong pos' (ps ++ ([rawInt pos.line,rawInt pos.col,.ref c].toArray)).toList=!cv->codeAmong pos' ps.toList=!cv\/cv=.ref c) :
  S z g Y As M (upd H q (.lD (ps ++ ([rawInt pos.line,rawInt pos.col,.ref c].toArray)))) where
 sl:=s.sl.stay (aq.write (s.eS _ (s.tm _ hq))) λa ha u e=>by
  rcases s.live a (s.sub a ha)with ⟨o,e2,gr⟩ |e2
  . rw[au (λz=>by rw[z,hp]at e2;cases e2;exact gr)];exact e
  .
   exact absurd e2 (λw=>by
    have:∃xs,H a=!(.lst xs):=by
     have key:∀{g:G}{Y:Sg}{As:List Addr},Slots z.K M H g Y As->∀a∈As,∃xs,H a=!(.lst xs):=λq=>by
      induction q with
      |nil=>intro a h;symm
      |no _ ih=>exact ih
      |dat _ _ ih=>exact ih
      |own e _ _ ih=>intro a h;rcases dL.mp h with rfl |h;exact#[_,e];exact ih a h
     exact key s.sl a ha
    obtain⟨xs,e3⟩:=this;exact s.QL e3 w)
 nd:=s.nd
 sub:=s.sub
 own:=s.own
 live:=λm hm=>by
  rcases s.live m hm with ⟨o,e,gr⟩ |e
  . exact .inl #[o,by rw[au (λz=>by rw[z,hp]at e;cases e;exact gr)];exact e,gr]
  . exact .inr e
 keep:=λb u e hb hT=>by
  rw[au (λz=>hT (by rw[z];exact i5.mpr #[_,hq,rfl]))];exact s.keep b u e hb hT
 eS:=s.eS
 m0:=s.m0
 bm:=s.bm
 fH:=s.fH
 tab:=λp h=>by
  have lam:∀d XR,H d=!(fS XR d)->upd H q (.lD (ps ++ ([rawInt pos.line,rawInt pos.col,.ref c].toArray))) d=!(fS XR d):=λd XR e=>by
   rw[au (λz=>by rw[z,hp]at e;cases e)];exact e
  by_cases e:p.1=q
  .
   obtain⟨p1,p2⟩:=p;have e1:=e;have e2:=hu _ h e;subst e1;subst e2;refine#[_,az,ok,λpos' cv ec=>?_]
   rcases am pos' cv ec with ec |rfl
   . obtain⟨ps',h1,_,h3⟩:=s.tab _ h;rw[hp]at h1;cases h1;obtain⟨d,e1,e2⟩:=h3 pos' cv ec;exact#[d,e1,lam d _ e2]
   . exact#[c,rfl,lam c _ hc]
  .
   obtain⟨ps',h1,h2,h3⟩:=s.tab p h;refine#[ps',by rw[au e];exact h1,h2,λpos' cv ec=>?_]
   obtain⟨d,e1,e2⟩:=h3 pos' cv ec;exact#[d,e1,lam d _ e2]
 tm:=s.tm
 tt:=s.tt
end
theorem sQ(h:TriplesOk l):TriplesOk (l++[.int i a,.int j b,v]):=by
 fun_induction TriplesOk l with
 |case1=>trivial
 |case2 _ _ _ _ _ rest ih=>exact ih h
 |case3=>exact h.elim
theorem xZ(h:TriplesOk l)(e:codeAmong pos (l++[.int i a,.int j b,v])=!cv):codeAmong pos l=!cv\/cv=v:=by
 fun_induction TriplesOk l with
 |case1=>
  simp only[BD,codeAmong]at e;split at e
  . exact .inr (mI e).symm
  . cases e
 |case2 line _ col _ c rest ih=>
  simp only[List.cons_append,codeAmong]at e ⊢
  split at e
  . rename_i q;rw[hV q];exact .inl e
  . rename_i q;rw[fN q];exact ih h e
 |case3=>exact h.elim
section
theorem zH(hok:jP P w H h)(hq:H q=!(.lD ps))(hq':H' q=!(.lD (ps++more)))(k:∀b o,b≠q->h.get? b=!o->h'.get? b=!o)(tq:∃o,h'.get? q=!o)
  (kH:∀b,b<h.objs.size->b≠q->H' b=H b):Un fs [] H H' h h' where
 keep:=λb o e n _ _=>k b o (λz=>by rw[z,hq]at n;cases n) e
 slot:=λb o e n _ _=>#[o.slots,k b o (λz=>by rw[z,hq]at n;cases n) e]
 free:=λb o e n _=>by rw[kH b (dS e) (λz=>by rw[z,hq]at n;cases n)];exact n
 there:=λb o e _=>by
  by_cases hb:b=q
  . subst hb;exact tq
  . exact#[o,k b o hb e]
 tups:=λb xs e=>by rw[kH b (hok.lt e) (λz=>by rw[z,hq]at e;cases e)];exact e
 jj:=λb o u e=>by rw[kH b (hok.lt e) (λz=>by rw[z,hq]at e;cases e)];exact e
 jk:=λb ps' e=>by
  by_cases hb:b=q
  . subst hb;rw[hq]at e;cases e;exact#[_,hq']
  . rw[kH b (hok.lt e) hb];exact#[([].toArray),by rw[e];simp]
end
section
theorem G9(e:h.get? p=!o):bG P w H h p (j7 p o):=#[e,#[o,e],λ_ _ e k=>k _ e]
theorem Nj(e:h.CodeRec (.ref c) q):bG P w H h c (fS q c):=by
 refine#[e,?_,λh1 h2 e k=>?_]
 . obtain⟨c',o,vs,t,e1,e2,_⟩:=e;cases e1;exact#[o,e2]
 . obtain⟨c',o,vs,t,e1,e2,e3⟩:=e;cases e1;exact#[c,o,vs,t,rfl,k _ e2,e3]
theorem Hf(I:L2.Inv X ah Y H s)(hs:S z g Y As M H)(hq:(q,qn)∈z.T)(hu:∀p∈z.T,p.1=q->p.2=qn)(hcode:X.env.code=.ref c)(C:PySem.W.CodeHd X.base c q)(hqn:X.env.qual ++ "<lambda>"=qn)
  (hb:X.base.BuiltinsAt X.mg q) (ZQ:mainGlobals≠q) (hdef:defaultsOf params X.env=([],[])) (B:bf X.env.scope scope)
  (h:∀(p c':Addr) (jc:Value) (cl:List (Str×Addr)) (H':Hp) (s':Shared),L2.Inv X ah Y H' s'->S z g Y As M H'->aq M H M H'->p∉M->
   H' p=!(j7 p (PySem.W.kla_obj "<lambda>" qn params body scope cl ((X.mg "__name__").getD .none) c' jc))->H' c'=!(fS qn c')->
   (∀x c,cl.lookup x=!c->X.env.cells.lookup x=!c/\(x,NameKind.free)∈scope.names)->(∀y∈scope.names,y.2=.free->∃c,cl.lookup y.1=!c)->(∀b xs,H b=!(.lst xs)->H' b=!(.lst xs))->Q (.ref p) s') :
  wpAny (~~~2) X.A (eval (.Lambda params body scope pos) X.env) Q E s:=by
 refine PySem.W.kla_eval hdef ?_;rw[hqn];obtain⟨ps,hp,ht,hcs⟩:=hs.tab _ hq;have hP:=I.hok q _ hp;obtain⟨cl,hcl,Kl,U8⟩:=mU λy hy e=>I.ok.has y.1 (by
  rcases B.free y hy e with e |e
  . exact .inl e
  .
   exact .inr e)
 have qlt:=dS hP;cases hf:codeAmong pos ps.toList with
 |some cv=>
  obtain⟨c',rfl,hc'⟩:=hcs pos cv hf;refine PySem.W.kla_makeFunctionHit hcl I.ok.glob (I.ok.mod.glob.keeps I.bk) hcode (C.keeps I.bk) hP ht hf (hb.keeps I.bk) λjc h' tk hk hsz=>?_
  have hk2:∀b o,s.heap.get? b=!o->(h'.push (PySem.W.kla_obj "<lambda>" qn params body scope cl ((X.mg "__name__").getD .none) c' jc)).get? b=!o:=λb o e=>a9 _ (hk b o e)
  have fr:=I.hok.fresh hsz;have kH:∀b,b<s⁻¹->b≠q->upd H h'.objs.size (j7 h'.objs.size (PySem.W.kla_obj "<lambda>" qn params body scope cl ((X.mg "__name__").getD .none) c' jc)) b=H b:=λb hb _=>au (fA (eM hb hsz))
  have XR:=fA (eM qlt hsz);refine h _ c' jc cl (upd H h'.objs.size (j7 h'.objs.size (PySem.W.kla_obj "<lambda>" qn params body scope cl ((X.mg "__name__").getD .none) c' jc))) _ (I.call' rfl
   (zH (more:=([].toArray)) I.hok hp (by rw[au XR,hp];simp) (λb o _ e=>hk2 b o e) #[_,hk2 _ _ hP] kH) (I.hok.laid hk2 hsz (G9 (dC _ rfl))) I.bare λb z=>nomatch z) (hs.laid fr) (aq.laid fr) (hs.fresh fr) az ?_ Kl U8 λb xs e=>by rw[au (aE e fr)];exact e
  rw[au (λz=>by rw[z,fr]at hc';cases hc')];exact hc'
 |none=>
  refine PySem.W.kla_makeFunction hcl I.ok.glob (I.ok.mod.glob.keeps I.bk) hcode (C.keeps I.bk) hP ht hf ZQ (hb.keeps I.bk) λc' jc h' tk hx hc1 hc2 ZR hP'=>?_
  have hsz:=Cf (Nat.lt_of_le_of_lt hc1 hc2);have hk2:∀b o,b≠q->s.heap.get? b=!o->(h'.push (PySem.W.kla_obj "<lambda>" qn params body scope cl ((X.mg "__name__").getD .none) c' jc)).get? b=!o:=λb o ne e=>a9 _ (hx b o ne e)
  have frc:=I.hok.fresh hc1;have frp:=I.hok.fresh hsz;have qc:=fA (eM qlt hc1);have qp:=fA (eM qlt hsz);have cp:=fA hc2;have s1:=hs.laid (o:=fS qn c') frc;have e1:upd H c' (fS qn c') q=!(.lD ps):=by rw[au qc];exact hp
  have s2:=s1.grow (pos:=pos) hq hu e1 ht az (by rw[Array.toList_append];exact sQ ht) (λpos' cv e=>xZ ht (by rw[Array.toList_append]at e;exact e))
  have ZS:upd (upd H c' (fS qn c')) q (.lD (ps ++ ([rawInt pos.line,rawInt pos.col,.ref c'].toArray))) h'.objs.size=none:=by rw[au qp.symm,au cp.symm];exact frp
  have s3:=s2.laid (o:=j7 h'.objs.size (PySem.W.kla_obj "<lambda>" qn params body scope cl ((X.mg "__name__").getD .none) c' jc)) ZS;have kH:∀b,b<s⁻¹->b≠q->upd (upd (upd H c' (fS qn c')) q (.lD (ps ++ ([rawInt pos.line,rawInt pos.col,.ref c'].toArray)))) h'.objs.size (j7 h'.objs.size (PySem.W.kla_obj "<lambda>" qn params body scope cl ((X.mg "__name__").getD .none) c' jc)) b=H b:=λb hb ne=>by
   rw[au (fA (eM hb hsz)),au ne,au (fA (eM hb hc1))]
  have hq3:upd (upd (upd H c' (fS qn c')) q (.lD (ps ++ ([rawInt pos.line,rawInt pos.col,.ref c'].toArray)))) h'.objs.size (j7 h'.objs.size (PySem.W.kla_obj "<lambda>" qn params body scope cl ((X.mg "__name__").getD .none) c' jc)) q=!(.lD (ps ++ ([rawInt pos.line,rawInt pos.col,.ref c'].toArray))):=by rw[au qp];exact az
  have hc3:upd (upd (upd H c' (fS qn c')) q (.lD (ps ++ ([rawInt pos.line,rawInt pos.col,.ref c'].toArray)))) h'.objs.size (j7 h'.objs.size (PySem.W.kla_obj "<lambda>" qn params body scope cl ((X.mg "__name__").getD .none) c' jc)) c'=!(fS qn c'):=by rw[au cp,au qc.symm];exact az
  have ZT:=a9 (PySem.W.kla_obj "<lambda>" qn params body scope cl ((X.mg "__name__").getD .none) c' jc) hP';have Ni:jP X.prog X.w (upd (upd (upd H c' (fS qn c')) q (.lD (ps ++ ([rawInt pos.line,rawInt pos.col,.ref c'].toArray)))) h'.objs.size (j7 h'.objs.size (PySem.W.kla_obj "<lambda>" qn params body scope cl ((X.mg "__name__").getD .none) c' jc))) (h'.push (PySem.W.kla_obj "<lambda>" qn params body scope cl ((X.mg "__name__").getD .none) c' jc)):=λb u e=>by
   by_cases b1:b=h'.objs.size
   . subst b1;rw[az]at e;cases e;exact G9 (dC _ rfl)
   .
    by_cases b2:b=q
    . subst b2;rw[hq3]at e;cases e;exact ZT
    .
     by_cases b3:b=c'
     .
      subst b3;rw[hc3]at e;cases e;exact Nj (by
       obtain⟨d,o,vs,t,e1,e2,e3⟩:=ZR;exact#[d,o,vs,t,e1,a9 _ e2,e3])
     .
      rw[au b1,au b2,au b3]at e;refine (I.hok b u e).stay (λd o hd eo=>hk2 d o (λz=>?_) eo) (λd ed=>?_) λd xs ed=>?_
      .
       rcases hd with hd |hd
       . exact b2 (hd▸z)
       . rw[z,hp]at hd;cases hd
      . rw[kH d (I.hok.lt ed) (λz=>by rw[z,hp]at ed;cases ed)];exact ed
      . rw[kH d (I.hok.lt ed) (λz=>by rw[z,hp]at ed;cases ed)];exact ed
  refine h _ c' jc cl _ _ (I.call' rfl
   (zH I.hok hp hq3 hk2 #[_,ZT] kH) Ni I.bare λb z=>nomatch z) s3 ?_ (hs.fresh frp) az hc3 Kl U8 λb xs e=>by rw[au (aE e frp),au (λz=>by rw[z,hp]at e;cases e),au (aE e frc)];exact e
  exact ((aq.laid frc).trans (aq.write (hs.eS _ (hs.tm _ hq)))).trans (aq.laid ZS)
end
noncomputable def vq(X:Cx)(N:List Str)(qual:Str)(scope:Scope)(p:Addr)(cd:Value)(cl:List (Str×Addr))(s:Shared)(H:Hp)(xe:Value->Shared->Prop):Cx where
 prog:=X.prog
 w:=X.w
 K:=X.K
 mg:=X.mg
 base:=X.base
 A:=X.A.deeper (PySem.W.envX qual scope s⁻¹ p cd cl)
 N:=N
 s₀:=s
 H₀:=H
 env:=PySem.W.envX qual scope s⁻¹ p cd cl
 outer:=X.stack
 stack:=PySem.W.envX qual scope s⁻¹ p cd cl::X.stack
 ex:=[]
 calm:=true
 fn:=λ_=>false
 pn:=[]
 xe:=xe
structure sS(N:List Str)(Y:Sg)(scope:Scope)(cl:List (Str×Addr))(H:Hp)(h:Heap):Prop where
 inj:∀x y c,cl.lookup x=!c->cl.lookup y=!c->x=y
 has:∀x,scope.names.lookup x=some .cell\/scope.names.lookup x=some .free->∃c,cl.lookup x=!c
 cell:∀x c,cl.lookup x=!c->H c=none/\∃v,h.IsCell c v
 loc:∀(i:Nat) (x:Str) (v:V),N[i]?=!x->Y[i]?=!(!v)->um scope x->scope.names.lookup x=some .free/\∃u c,RelV v u/\cl.lookup x=!c/\h.IsCell c (!u)
 len:Y.length=N.length
section
theorem Nm(I:L2.Inv X ah Y H s)(hc:X.calm=true)(hk:scope.kind=.function)(C:sS N σ0 scope cl H s.heap)(hk₁:∀b o,s.heap.get? b=!o->h₁.get? b=!o)(hns:h₁.Ns s⁻¹ m) :
  L2.Inv (vq X N qual scope p cd cl s H xe) [] σ0 H { s with heap:=h₁,toks:=tk}:=by
 have e0:=I.K7;refine#[#[e0.mod,hk,rfl,rfl,dE _,C.inj,C.has,(λ_ _ h=>nomatch h),λ_=>I.ok.hd hc,Around.frames_deeper e0.frames,.inr #[rfl,rfl],(λb z=>nomatch z),e0.bs,e0.Eo,(λ_ _ _ z=>nomatch z),(λb z=>nomatch z),e0.jm,e0.KN],
  rfl,e0.bare,Un.kept hk₁,#[m,hns,λi x v h1 h2 h3=>?_],λx c e=>?_,e0.hok.fresh (dE _),λx c e=>(C.cell x c e).1,(λp hp=>nomatch hp),e0.hok.kept hk₁,C.len]
 . obtain⟨f,u,c,r,e1,e2⟩:=C.loc i x v h1 h2 h3;exact#[u,r,.inr #[.inr f,c,e1,e2.keeps hk₁]]
 . obtain⟨v,q⟩:=(C.cell x c e).2;exact#[v,q.keeps hk₁]
theorem Hg{z:Z}{g g':G}{As M:List Addr}{body:Expr}{params:Arguments}{pm jc:Value}{c' C:Addr}{R:Result->Shared->Prop}(I:L2.Inv X ah Y H s)(hc:X.calm=true)(hroom:X.A.depth<recursionLimit)
  (hp:s.heap.get? p=!(PySem.W.kla_obj "<lambda>" qual params body scope cl pm c' jc)) (ZR:s.heap.CodeRec (.ref c') qual) (hpar:bindArgs (PySem.W.kla_fn "<lambda>" qual params body scope cl pm (.ref c') jc) #[[],[]]=pure [])
  (hco:scope.isCoroutine=false) (hgen:scope.isGenerator=false) (hk:scope.kind=.function) (hnc:∀x∈scope.names,x.2≠.cell) (Cl:sS N σ0 scope cl H s.heap) (hS:S z g σ0 As M H)
  (hb:∀xe,PassesOwn (~~~2) (X.A.deeper (PySem.W.envX qual scope s⁻¹ p (.ref c') cl)) (PySem.W.envX qual scope s⁻¹ p (.ref c') cl) xe->Eh (vq X N qual scope p (.ref c') cl s H xe) z body g C g')
  (hR:∀x H1 aI M1 s'',Eg X.prog X.w X.stack H s (λc o h=>c=.ref C/\o=none/\h=H1) (.ref x) s''->S z g' σ0 aI M1 H1->aq M H M1 H1->R (.error (.ref x)) s'') :
  codeAny (~~~2) X.A (.call (.ref p) #[[],[]]) R s:=by
 refine PySem.W.kla_callFunE hroom hp rfl hco hgen rfl ZR ?_;rw[hpar];refine a8 (wpAny_newFunctionEnv hnc (λy hy=>nomatch hy) (λh₁ hns hsb=>#[(I.nolimit).fresh _ hsb,?_]) hk)
 have hk₁:∀b o,s.heap.get? b=!o->h₁.get? b=!o:=λb o e=>hsb.extBut b o (fA (dS e)) (a9 _ e)
 refine PySem.W.kla_codeExpr ?_;obtain⟨t,q,k⟩:=hb (λe' s'=>wpAny (~~~2) (X.A.deeper (PySem.W.envX qual scope s⁻¹ p (.ref c') cl)) (leaving (PySem.W.envX qual scope s⁻¹ p (.ref c') cl) e') (λ_ s''=>R (.error e') s'') (λe'' s''=>R (.error e'') s'') s') PassesOwn.leaving
 have J:=Nm (qual:=qual) (p:=p) (cd:=.ref c') (σ0:=σ0) (tk:=s.toks+([]:List (Str×Value)).length) (xe:=λe' s'=>wpAny (~~~2) (X.A.deeper (PySem.W.envX qual scope s⁻¹ p (.ref c') cl)) (leaving (PySem.W.envX qual scope s⁻¹ p (.ref c') cl) e') (λ_ s''=>R (.error e') s'') (λe'' s''=>R (.error e'') s'') s') I hc hk Cl hk₁ hns
 refine i7 (q [] _ σ0 H (λ_ _=>False) J (k σ0 As M H _ hS λpins1 s1 H1 aI M1 x I1 S1 st fl=>?_)) (λv s' h=>?_) λ_ _ h=>h
 . exact qz I1 rfl rfl rfl fl λs'' cx=>hR x H1 aI M1 s'' cx S1 st
 . obtain⟨_,_,_,_,h⟩:=h;exact h.elim
end
section
theorem Inv.cnl(I:L2.Inv X [] Y H s):∀y c,X.env.cells.lookup y=!c->c≠X.env.locals:=λy c e q=>by
 obtain⟨v,o,h1,h2⟩:=I.cell y c e;obtain⟨m,⟨o',es,ep,h3,h4,_⟩,_⟩:=I.loc;rw[q,h3]at h1;cases h1;rw[h4]at h2;cases h2
theorem Inv.touch(I:L2.Inv X [] Y H s)(hp:X.pn=[])(hT:X.s₀.heap.get? T=none)(hH:H T=none)(hf:∃o vs,s.heap.get? T=!o/\o.data=.fields vs)(k:∀b o,b≠T->s.heap.get? b=!o->h'.get? b=!o)(kT:∃o,h'.get? T=!o) :
  L2.Inv X [] Y H { s with heap:=h'}:=by
 obtain⟨oT,ts,eT,dT⟩:=hf;have Np:∀b o,X.s₀.heap.get? b=!o->b≠T:=λb o e q=>by rw[q,hT]at e;cases e
 have ZV:∀b o,s.heap.get? b=!o->(∀vs,o.data≠.fields vs)->b≠T:=λb o e d q=>by rw[q,eT]at e;cases e;exact d _ dT
 have cellK:∀c v,s.heap.IsCell c v->h'.IsCell c v:=by rintro c v ⟨o,e,d⟩;exact#[o,k c o (ZV c o e λvs q=>by rw[d]at q;cases q) e,d]
 obtain⟨m,⟨o,es,ep,e,d,r⟩,hlk⟩:=I.loc;refine#[I.ok,I.os,I.bare,#[λb o e n hb hx=>?_,λb o e n hb hx=>?_,I.base.free,λb o e hx=>?_,I.base.tups,I.base.jj,I.base.jk],#[m,#[o,es,ep,k _ _ (ZV _ _ e λvs q=>by rw[d]at q;cases q) e,d,r],λi y v h1 h2 h3=>?_],λy c e=>?_,I.free,I.cR,λp hp2=>?_,λb u e=>?_,I.len]
 . exact k b o (Np b o e) (I.base.keep b o e n hb hx)
 . obtain⟨sl,e1⟩:=I.base.slot b o e n hb hx;exact#[sl,k b _ (Np b o e) e1]
 . obtain⟨o',e1⟩:=I.base.there b o e hx;exact#[o',k b _ (Np b o e) e1]
 . obtain⟨u,r,q⟩:=hlk i y v h1 h2 h3;exact#[u,r,q.imp id (by rintro⟨q1,c,q2,q3⟩;exact#[q1,c,q2,cellK c _ q3])]
 . obtain⟨v,q⟩:=I.cell y c e;exact#[v,cellK c v q]
 . rw[hp]at hp2;cases hp2
 .
  refine (I.hok b u e).stay (λc w hc q=>k c w (λz=>?_) q) (λ_ q=>q) λ_ _ q=>q
  subst z;rcases hc with rfl |hc
  . rw[hH]at e;cases e
  . rw[hH]at hc;cases hc
theorem vt(I:L2.Inv X [] Y H s)(hp:X.pn=[])(fl:uv X.s₀.heap x C H s.heap)(h:∀s',L2.Inv X [] Y H s'->uv X.s₀.heap x C H s'.heap->Q () s') :
  wpAny M A (setFlight (.ref x) none) Q E s:=by
 obtain⟨⟨oe,vs,he,hc,bU,hd,hsz,hT⟩,QW,XM⟩:=id fl;rcases hT with hT |⟨T,oT,ts,h1,UL,hTn,hTH,Kg,Kh,h3⟩
 . refine aS (xI he hd hT ?_);exact a8 (h s I fl)
 .
  refine aS (xI he hd h1 ?_);refine sT Kg Kh (pV.mp h3).1 ?_;have other:∀b,b≠T->(s.heap.update T (Obj.mapFields (·.setIfInBounds 3 Value.none))).get? b=s.heap.get? b:=λb hb=>fI _ _ (sB hb)
  have ZW:=nE Kh (·.setIfInBounds 3 Value.none);have Ed:=i9 (Obj.mapFields (·.setIfInBounds 3 Value.none)) Kg (o4 ZW);refine h _ (Inv.touch I hp hTn hTH #[oT,ts,Kg,Kh] (λb o hb e=>(other b hb).trans e) #[_,Ed]) #[#[oe,vs,(other x (sB UL)).trans he,hc,bU,hd,hsz,.inr #[T,_,_,h1,UL,hTn,hTH,Ed,ZW,?_]],QW,XM]
  have:=(pV.mp h3).1;simp[this]
theorem Inv.U9(I:L2.Inv X [] Y H s)(hp:X.pn=[])(fl:uv X.s₀.heap x C H s.heap):L2.Inv X [] Y (upd H x (xH C x)) s:=by
 obtain⟨⟨oe,vs,he,hc,bU,hd,hsz,hT⟩,QW,XM⟩:=id fl;have Np:∀b o,X.s₀.heap.get? b=!o->b≠x:=λb o e q=>by rw[q,QW]at e;cases e
 have ZV:∀b o,s.heap.get? b=!o->(∀vs,o.data≠.fields vs)->b≠x:=λb o e d q=>by rw[q,he]at e;cases e;exact d _ hd
 have ZX:∀b u,H b=!u->b≠x:=λb u e q=>by rw[q,XM]at e;cases e
 refine#[I.ok,I.os,I.bare,#[I.base.keep,I.base.slot,λb o e n hx=>?_,I.base.there,λb xs e=>?_,λb o u e=>?_,λb ps e=>?_],I.loc,I.cell,?_,λy c e=>?_,λp hp2=>?_,λb u e=>?_,I.len]
 . rw[au (Np b o e)];exact I.base.free b o e n hx
 . have:=I.base.tups b xs e;rw[au (ZX _ _ this)];exact this
 . have:=I.base.jj b o u e;rw[au (ZX _ _ this)];exact this
 . obtain⟨more,this⟩:=I.base.jk b ps e;exact#[more,by rw[au (ZX _ _ this)];exact this]
 . obtain⟨m,⟨o,es,ep,e,d,_⟩,_⟩:=I.loc;rw[au (ZV _ _ e λvs q=>by rw[d]at q;cases q)];exact I.free
 . obtain⟨v,o,e1,d⟩:=I.cell y c e;rw[au (ZV _ _ e1 λvs q=>by rw[d]at q;cases q)];exact I.cR y c e
 . rw[hp]at hp2;cases hp2
 .
  by_cases hb:b=x
  .
   subst hb;rw[az]at e;cases e;refine#[#[oe,he,hc,?_,bU],#[oe,he],by rintro h1 h2 ⟨o,q,r⟩ k;exact#[o,k o q,r]]
   unfold PySem.W.notCls;rw[hd]
  . rw[au hb]at e;exact (I.hok b u e).stay (λ_ _ _ q=>q) (λc q=>by rw[au (ZX _ _ q)];exact q) λc xs q=>by rw[au (ZX _ _ q)];exact q
abbrev Cx.marked(X:Cx)(e:Value)(E:Value->Shared->Prop):Cx:={ X with A:=X.A.mark (!e),calm:=false,xe:=E}
theorem Inv.marked(I:L2.Inv X ah Y H s)(e:Value)(E:Value->Shared->Prop):L2.Inv (Cx.marked X e E) ah Y H s:=
 #[#[I.ok.mod,I.ok.kind,I.ok.glob,I.ok.blt,I.ok.above,I.ok.inj,I.ok.has,I.ok.RJ,(λh=>nomatch h),I.ok.frames,I.ok.stk,I.ok.Xz,I.ok.bs,I.ok.Eo,I.ok.uC,I.ok.wZ,I.ok.jm,I.ok.KN],I.os,I.bare,I.base,I.loc,I.cell,I.free,I.cR,I.pin,I.hok,I.len]
theorem Inv.unmarked(ok:X.Ok)(I:L2.Inv (Cx.marked X e E) ah Y H s):L2.Inv X ah Y H s:=
 #[ok,I.os,I.bare,I.base,I.loc,I.cell,I.free,I.cR,I.pin,I.hok,I.len]
theorem Inv.gone(I:L2.Inv X [] Y H s)(hp:X.pn=[])(hN:X.N.Nodup)(hi:X.N[i]?=!n)(hlk:∀(j:Nat) (y:Str) (v:V),X.N[j]?=!y->Y[j]?=!(!v)->um X.env.scope y->∃u,RelV v u/\Look X.env s.heap m y u)
  {h':Heap}{w:Option Value}{tk:Nat} (hn':h'.Ns X.env.locals (λy=>if y=n then w else m y)) (hs:Heap.SameBut X.env.locals s.heap h'):L2.Inv X [] (Y.set i none) H { s with heap:=h',toks:=tk}:=by
 have Np:∀b o,X.s₀.heap.get? b=!o->b≠X.env.locals:=λb o e=>fA (eM (dS e) I.ok.above)
 refine#[I.ok,I.os,I.bare,#[λb o e n hb hx=>?_,λb o e n hb hx=>?_,I.base.free,λb o e hx=>?_,I.base.tups,I.base.jj,I.base.jk],#[_,hn',λj y v h1 h2 h3=>?_],λy c e=>?_,I.free,I.cR,λp hp2=>?_,λb u e=>?_,by rw[y7];exact I.len]
 . exact (hs.2 b (Np b o e)).trans (I.base.keep b o e n hb hx)
 . obtain⟨sl,e1⟩:=I.base.slot b o e n hb hx;exact#[sl,(hs.2 b (Np b o e)).trans e1]
 . obtain⟨o',e1⟩:=I.base.there b o e hx;exact#[o',(hs.2 b (Np b o e)).trans e1]
 .
  by_cases hj:j=i
  .
   subst hj;have hl:j<Y.length:=by rw[I.len];exact (c8.mp h1).1
   rw[i3 hl]at h2;cases h2
  .
   rw[eI (sB hj)]at h2;obtain⟨u,r,q⟩:=hlk j y v h1 h2 h3;refine#[u,r,?_];have hyn:y≠n:=λq=>hj (mH hN h1 (q▸hi))
   rcases q with ⟨k,e⟩ |⟨k,c,e,z⟩
   . exact .inl #[k,by show (if y=n then w else m y)=!u;rw[fN hyn];exact e]
   . exact .inr #[k,c,e,z.sameBut hs (Inv.cnl I y c e)]
 . obtain⟨v,q⟩:=I.cell y c e;exact#[v,q.sameBut hs (Inv.cnl I y c e)]
 . rw[hp]at hp2;cases hp2
 .
  refine (I.hok b u e).stay (λc w hc q=>(hs.2 c (λz=>?_)).trans q) (λ_ q=>q) λ_ _ q=>q
  subst z;rcases hc with hc |hc
  . rw[<- hc,I.free]at e;cases e
  . rw[I.free]at hc;cases hc
end
end Ev
namespace PySem
section
theorem iA{h:Heap}{g:Array GenState}{d:Drawn}{t:Nat}{os:OsState}{e:Addr}{oe:Obj}{Q:Bool->Shared->Prop}
  (hC:h.get? C=!(excClassObj nm q C N bs bm hdct sn sub ab col dd k0 k1 k2 k3 k5 newId)) (hD:h.get? D=!(excClassObj nm' q' D N' bs' bm' ZZ sn' sub' ab' col' dd' k0' k1' k2' k3' k5' newId'))
  (he:h.get? e=!oe) (hcls:oe.cls=.ref C) (hbase:bm'.contains (.type "BaseException")=true) (hup:(Value.ref C::bm).contains (.ref D)=true)
  (hq:Q true #[h,g,d,t,os]):wpAny M A (excMatches (.ref e) (.ref D)) Q E #[h,g,d,t,os]:=by
 have hcB:(Value.ref D::bm').contains (.type "BaseException")=true:=by rw[List.contains_cons,hbase,Bool.or_true]
 have f:=tc_notTuple
 repeat (first | (with_reducible refine wpAny_loadPart_at he ?_;rw[hcls]) |with_reducible refine wpAny_loadPart_at hD ?_ | (with_reducible refine wpAny_isSubtype_exc hD ?_;rw[hcB]) | (with_reducible refine wpAny_isSubtype_exc hC ?_;rw[hup]) |wp_step)
 exact hq
end
end PySem
namespace Ev
open L2
noncomputable def pL(K:Frag)(C D:Addr):Bool:=match K.lookup C with
 |!#[_,_,.cls cd,_]=>cd.mro.contains (.ref D)
 |_=>false
theorem yc{M:Model}{A:Around}{E:Value->Shared->Prop}{K:Frag}{h:Heap}{g:Array GenState}{d:Drawn}{t:Nat}{os:OsState}{e C D:Addr}{oe:Obj}{Q:Bool->Shared->Prop}(wY:K.In h)(qC:dH K C)(qD:dH K D)(up:pL K C D=true)
  (he:h.get? e=!oe) (hc:oe.cls=.ref C) (hq:Q true #[h,g,d,t,os]):wpAny M A (excMatches (.ref e) (.ref D)) Q E #[h,g,d,t,os]:=by
 obtain⟨bm,N,nm,qn,bs,hdct,sn,sub,ab,col,dd,k0,k1,k2,k3,k5,mN,hC,_,_,TC⟩:=sN wY qC;have hup:(Value.ref C::bm).contains (.ref D)=true:=by
  unfold pL at up;split at up
  . rename_i cd _ ho;have:=(wY _ _ ho).symm.trans hC;cases this;exact up
  . cases up
 obtain⟨bm',N',nm',XR,bs',ZZ,sn',sub',ab',col',dd',k0',k1',k2',k3',k5',mN',hD,_,_,TD⟩:=sN wY qD;exact iA hC hD he hc (TD.hasType ⋯) hup hq
section
variable{x C D:Addr}
theorem Cw(I:L2.Inv X [] Y H s)(hp:X.pn=[])(b9:X.stack=X.env::X.outer)(hf:X.env.frame=!X.env.locals)(hex:X.ex=[])(fl:uv X.s₀.heap x C H s.heap)(hN:X.N.Nodup)
  (hg:Gl X ke) (hm:X.mg ke=!(.ref D)) (ji:(ke==(~~~3))=false) (qC:dH X.K C) (qD:dH X.K D) (up:pL X.K C D=true)
  (hie:X.N[ie]?=!en) (len:X.env.scope.names.lookup en=some .local) (den:(en==(~~~3))=false) (cen:(en==("__classdict__":Str))=false)
  (hir:X.N[ir]?=!er) (ler:Loc X.env.scope er) (fer:X.fn er=true\/X.env.scope.names.lookup er=some .local) (hsw:swapsWith (.Name en vA) (!(.Name er vB)) cM.line X.env=pure false)
  (h:∀s',L2.Inv X [] (((Y.set ie (!(.ref x))).set ir (!(.ref x))).set ie none) (upd H x (xH C x)) s'->Q .next s') :
  wpAny (~~~2) X.A (noteFrame (.ref x) X.env) (λ_ s2=>wpAny (~~~2) X.A (setFlight (.ref x) none) (λ_ s3=>wpAny (~~~2) X.A (handleBy (.ref x) X.env [.ExceptHandler (!(.Name ke kp)) (!en) [.Assign [.Name er vB] (.Name en vA) cM] pA]) Q E s3) E s2) E s:=by
 refine Cd I hp b9 hf hex fl λs2 I2 fl2=>?_
 refine wpAny_handleBy_cons (codeAny_handlers_test ?_) (by intro q;cases q)
 refine fE (X:=Cx.marked X (.ref x) E) (Inv.marked I2 _ _) hg hm ?_ ji;obtain⟨⟨oe,vs,he,hc,_⟩,_⟩:=id fl2;obtain⟨hh,gg,dr,tt,oo⟩:=s2;refine yc I2.mG qC qD up he hc ?_;refine codeAny_handlers_suite_as ?_;refine vt I2 hp fl2 λs3 I3 fl3=>?_
 have I4:=Inv.U9 I3 hp fl3;refine jo I4 hN hie (.inl len) (v:=.ref x) rfl (λs5 I5=>?_) (.inr len)
 have hl:ie<Y.length:=by rw[I.len];exact (c8.mp hie).1
 refine i7 (((KQ (fZ (X:=Cx.marked X (.ref x) (λ_ _=>False)) hN hir ler (fY hie (.inl len) den cen) hsw fer)) [] s5 _ _ { nx:=λσ' H'=>σ'=(Y.set ie (!(.ref x))).set ir (!(.ref x))/\H'=upd H x (xH C x),rt:=λ_ _=>False} (Inv.marked I5 _ _) #[.ref x,i3 hl,rfl,rfl])) (λf s6 q=>?_) λ_ _ z=>False.elim z
 cases f with
 |next=>
  obtain⟨σ',H',I6,rfl,rfl⟩:=q;have I7:=Inv.unmarked I.ok I6;obtain⟨m,hn,hlk⟩:=id I7.loc;refine wpAny_nameGoes_keeps len hn (by rw[I.ok.kind];rfl) λh' w hn' hs=>?_
  exact h _ (Inv.gone I7 hp hN hie hlk hn' hs)
 |ret v=>obtain⟨_,_,_,_,_,q⟩:=q;exact q.elim
 |brk=>obtain⟨_,_,_,q⟩:=q;exact q.elim
 |cont=>obtain⟨_,_,_,q⟩:=q;exact q.elim
end
noncomputable abbrev zN(z:Z)(M:List Addr)(H:Hp):Z:=#[z.K,H,M,[],z.T]
def noOwn:Slot->Slot
 |.own _=>.no
 |s=>s
section
variable{g g':G}
theorem Slots.noOwn{K:Frag}(q:Slots K M H g Y As):Slots K M H (g.map Ev.noOwn) Y []:=by
 induction q with
 |nil=>exact .nil
 |no _ ih=>exact .no ih
 |dat r _ ih=>exact .dat r ih
 |own _ _ _ ih=>exact .no ih
theorem Slots.nos'{K:Frag}(Y:Sg):Slots K M H (List.replicate Y.length .no) Y []:=by
 induction Y with
 |nil=>exact .nil
 |cons v Y ih=>exact .no ih
theorem Cy{i:Nat}{l:List D}(h:(g.map Ev.noOwn)[i]?=!(.own l)):False:=by
 rw[oI]at h;cases e:g[i]? with
 |none=>rw[e]at h;symm
 |some u=>rw[e]at h;cases u <;> symm
theorem S.into(s:S z g Y As M H)(sl:Slots z.K M H gn σn [])(hn:∀(i:Nat) (l:List D),gn[i]?≠!(.own l)):S (zN z M H) gn σn [] M H where
 sl:=sl
 nd:=yY
 sub:=λa h=>nomatch h
 own:=λi a l e _=>absurd e (hn i l)
 live:=s.live
 keep:=λb o e _ _=>e
 eS:=λ_ h=>h
 m0:=λm hm=>by
  rcases s.live m hm with ⟨o,e,_⟩ |e
  . intro q;rw[show H m=none from q]at e;cases e
  . obtain⟨q,hq,rfl⟩:=i5.mp e;obtain⟨ps,h1,_⟩:=s.tab q hq;intro z;rw[show H q.1=none from z]at h1;cases h1
 bm:=λb h=>nomatch h
 fH:=λp h=>nomatch h
 tab:=s.tab
 tm:=λp h=>s.eS _ (s.tm p h)
 tt:=s.tt
theorem S.after(s:S z g Y As M H)(hA:As=[])(s1:S (zN z M H) g' σ0 aI M1 H1)(st:aq M H M1 H1):S z g Y As M1 H1 where
 sl:=s.sl.stay st (λa h=>by rw[hA]at h;symm)
 nd:=s.nd
 sub:=λa h=>by rw[hA]at h;symm
 own:=s.own
 live:=s1.live
 keep:=λb o e hb ht=>s1.keep b o (s.keep b o e hb ht) (λh=>nomatch h) ht
 eS:=λm hm=>s1.eS m (s.eS m hm)
 m0:=s.m0
 bm:=s.bm
 fH:=s.fH
 tab:=s1.tab
 tm:=s.tm
 tt:=s.tt
theorem Slots.vC{K:Frag}{i:Nat}{v:Option V}(q:Slots K M H g Y As)(e:g[i]?=some .no):Slots K M H g (Y.set i v) As:=by
 induction q generalizing i with
 |nil=>exact .nil
 |no q ih=>cases i with
  |zero=>exact .no q
  |succ i=>exact .no (ih e)
 |dat r q ih=>cases i with
  |zero=>cases e
  |succ i=>exact .dat r (ih e)
 |own a b q ih=>cases i with
  |zero=>cases e
  |succ i=>exact .own a b (ih e)
theorem S.vC(s:S z g Y As M H)(e:g[i]?=some .no):S z g (Y.set i v) As M H where
 sl:=s.sl.vC e
 nd:=s.nd
 sub:=s.sub
 own:=λj a l e1 e2=>s.own j a l e1 (by
  rw[eI (λq=>by rw[<- q,e]at e1;cases e1)]at e2;exact e2)
 live:=s.live
 keep:=s.keep
 eS:=s.eS
 m0:=s.m0
 bm:=s.bm
 fH:=λp hp=>by
  obtain⟨h1,l,h2⟩:=s.fH p hp;exact#[by rw[eI (λq=>by rw[<- q,e]at h2;cases h2)];exact h1,l,h2]
 tab:=s.tab
 tm:=s.tm
 tt:=s.tt
end
theorem Nq(I:L2.Inv X ah Y H s)(B:bf X.env.scope scope)(nl:∀y∈scope.names,y.2≠.local)
  (Kl:∀x c,cl.lookup x=!c->X.env.cells.lookup x=!c/\(x,NameKind.free)∈scope.names) (U8:∀y∈scope.names,y.2=.free->∃c,cl.lookup y.1=!c):sS X.N Y scope cl H s.heap where
 inj:=λx y c h1 h2=>I.ok.inj x y c (Kl x c h1).1 (Kl y c h2).1
 has:=λx h=>by
  rcases h with h |h
  . exact absurd rfl (B.sD _ (L2.mem_of_lookup h))
  . exact U8 _ (L2.mem_of_lookup h) rfl
 cell:=λx c h=>#[I.cR x c (Kl x c h).1,I.cell x c (Kl x c h).1]
 loc:=λi x v h1 h2 h3=>by
  have hf:scope.names.lookup x=some .free:=by
   rcases h3 with h3 |h3 |h3
   . exact absurd rfl (nl _ (L2.mem_of_lookup h3))
   . exact absurd rfl (B.sD _ (L2.mem_of_lookup h3))
   . exact h3
  have hv:=B.free _ (L2.mem_of_lookup hf) rfl;obtain⟨m,_,hlk⟩:=I.loc;obtain⟨u,r,q⟩:=hlk i x v h1 h2 (.inr hv);obtain⟨c2,e2⟩:=U8 _ (L2.mem_of_lookup hf) rfl;rcases q with ⟨k,_⟩ |⟨_,c,e,z⟩
  . have k:X.env.scope.names.lookup x=some .local:=k;rcases hv with hv |hv <;> (have hv:=hv;rw[k]at hv;cases hv)
  . have:=(Kl _ _ e2).1;rw[e]at this;cases this;exact#[hf,u,c2,r,e2,z]
 len:=I.len
theorem sS.un(c:sS N Y scope cl H h)(u:Un fs [] H H' h h'):sS N Y scope cl H' h':=by
 have key:∀x a v,cl.lookup x=!a->h.IsCell a v->h'.IsCell a v:=by rintro x a v e ⟨o,e1,d⟩;obtain⟨sl,e2⟩:=u.any e1 (c.cell x a e).1 ⋯;exact#[_,e2,d]
 refine#[c.inj,c.has,λx a e=>?_,λi x v h1 h2 h3=>?_,c.len]
 . obtain⟨hn,v,o,e1,d⟩:=c.cell x a e;exact#[u.free a o e1 hn ⋯,v,key x a v e #[o,e1,d]]
 . obtain⟨f,w,a,r,e,z⟩:=c.loc i x v h1 h2 h3;exact#[f,w,a,r,e,key x a _ e z]
section
variable{C D p c':Addr}
 {N:List Str}{qn:Str}{scope:Scope}{cl:List (Str×Addr)}{body:Expr}{params:Arguments}{pm jc:Value}{g0 Km:G}
noncomputable abbrev Hi (y ke en er:Str) (py bT pq kp vB vA cM pA pg:Pos):Stmt:=.Try [.Expr (.Call (.Name y py) [] [] bT) pq] [.ExceptHandler (!(.Name ke kp)) (!en) [.Assign [.Name er vB] (.Name en vA) cM] pA] [] [] pg
structure Q5(X:Cx)(C D:Addr)(y ke en er:Str)(iy ie ir:Nat):Prop where
 pn:X.pn=[]
 st:X.stack=X.env::X.outer
 fr:X.env.frame=!X.env.locals
 ex:X.ex=[]
 calm:X.calm=true
 nd:X.N.Nodup
 gk:Gl X ke
 mg:X.mg ke=!(.ref D)
 dk:(ke==(~~~3))=false
 qC:dH X.K C
 qD:dH X.K D
 up:pL X.K C D=true
 kC:Fy X.K C
 ie:X.N[ie]?=!en
 le:X.env.scope.names.lookup en=some .local
 de:(en==(~~~3))=false
 ce:(en==("__classdict__":Str))=false
 ir:X.N[ir]?=!er
 lr:Loc X.env.scope er
 fn:X.fn er=true\/X.env.scope.names.lookup er=some .local
 iy:X.N[iy]?=!y
 vy:um X.env.scope y
 dy:(y==(~~~3))=false
 cy:(y==("__classdict__":Str))=false
 room:X.A.depth<recursionLimit
structure nR(params:Arguments)(scope:Scope):Prop where
 co:scope.isCoroutine=false
 gen:scope.isGenerator=false
 kind:scope.kind=.function
 nc:∀x∈scope.names,x.2≠.cell
 nl:∀x∈scope.names,x.2≠.local
 par:params=#[[],[],none,[],[],none,[]]
theorem nR.bind(h:nR params scope):bindArgs (PySem.W.kla_fn "<lambda>" qn params body scope cl pm (.ref c') jc) #[[],[]]=pure []:=by rw[h.par];rfl
theorem Va{ah: ~~~1}{i:Nat}{x:Str}{v:V}{pos:Pos}{E:Value->Shared->Prop}{Q:Value->Shared->Prop}(I:L2.Inv X ah Y H s)(hN:X.N[i]?=!x)(hv:um X.env.scope x)(hd:(x==(~~~3))=false)(bU:(x==("__classdict__":Str))=false)(e:Y[i]?=!(!v))(h:∀u,RelV v u->Q u s) :
  wpAny (~~~2) X.A (eval (.Name x pos) X.env) Q E s:=by
 obtain⟨m,hn,hl⟩:=I.loc;obtain⟨u,r,l⟩:=hl i x v hN e hv;have fin:=h u r;rcases l with ⟨hk,hm⟩ |⟨hk,c,hc,hcell⟩
 . exact Db (wpAny_loadName_local I.ok.kind hk hn hm fin) hd
 .
  rcases hk with hk |hk
  . exact Db (wpAny_loadName_cell I.ok.kind hk hc hcell fin) hd
  . exact Db (wpAny_loadName_free I.ok.kind hk hc hcell fin bU) hd
theorem Nr(T:Q5 X C D y ke en er iy ie ir)(L:nR params scope)(I:L2.Inv X [] Y H s)(hS:S zf gf Y [] M H)(hK:zf.K=X.K)(hsw:swapsWith (.Name en vA) (!(.Name er vB)) cM.line X.env=pure false)(hsx:swapsWith (.Call (.Name y py) [] [] bT) none pq.line X.env=pure false)
  (hy:Y[iy]?=!(!(.ref p))) (kO:gf[ie]?=some .no) (hbr:ir∉zf.bor) (hnr:ie≠ir)
  (hp:H p=!(j7 p (PySem.W.kla_obj "<lambda>" qn params body scope cl pm c' jc))) (hc':H c'=!(fS qn c')) (Cl:sS N σ0 scope cl H s.heap) (hs0:Slots zf.K M H g0 σ0 []) (hn0:∀(i:Nat) (l:List Ev.D),g0[i]?≠!(.own l))
  (hb:∀xe,PassesOwn (~~~2) (X.A.deeper (PySem.W.envX qn scope s⁻¹ p (.ref c') cl)) (PySem.W.envX qn scope s⁻¹ p (.ref c') cl) xe->Eh (vq X N qn scope p (.ref c') cl s H xe) (zN zf M H) body g0 C Km)
  (h:∀s' σ' H' M' aB,L2.Inv X [] σ' H' s'->S zf (gf.set ir (.dat (.lG C))) σ' aB M' H'->aq M H M' H'->Q .next s') :
  wpAny (~~~2) X.A (exec (Hi y ke en er py bT pq kp vB vA cM pA pg) X.env) Q X.xe s:=by
 refine wpAny_Try_except (A5 (i7 (wpAny_Expr_any ?_ I.quiet hsx) (λ_ _ z=>False.elim z) λ_ _ z=>z))
 have hpo:=(I.hok p _ hp).1;have ZR:=(I.hok c' _ hc').1;refine o3 (Va I T.iy T.vy T.dy T.cy hy λu r=>?_)
 cases r;refine PySem.W.callWith_F0 #[_,_,_,_,hpo] (CS (AL (Hg (R:=λr s'=>∃x H1 aI M1,r=.error (.ref x)/\Eg X.prog X.w X.stack H s (λc o h=>c=.ref C/\o=none/\h=H1) (.ref x) s'/\S (zN zf M H) Km σ0 aI M1 H1/\aq M H M1 H1) I T.calm T.room hpo ZR L.bind L.co L.gen L.kind L.nc Cl (S.into hS hs0 hn0) hb
  λx H1 aI M1 s'' cx S1 st=>#[x,H1,aI,M1,rfl,cx,S1,st]) ?_))
 rintro r s1 ⟨x,H1,aI,M1,e,cx,S1,st⟩;subst e;obtain⟨x',C',H',e,I1,fl,e1,_,e3⟩:=Gz T.ex I cx;cases e;cases e1;subst e3;refine Cw I1 T.pn T.st T.fr T.ex fl T.nd T.gk T.mg T.dk T.qC T.qD T.up T.ie T.le T.de T.ce T.ir T.lr T.fn hsw λs' I'=>?_
 have s2:=S.after hS rfl S1 st;have s3:=s2.laid (o:=xH C x) fl.no;have s4:S zf gf (Y.set ie (!(.ref x))) [] M1 (upd H' x (xH C x)):=s3.vC kO;obtain⟨wU,s5⟩:=s4.ez (d:=.lG C) (v:=.ref x) hbr (hK▸.lG T.kC (s2.fresh fl.no) az);have s6:S zf (gf.set ir (.dat (.lG C))) (((Y.set ie (!(.ref x))).set ir (!(.ref x))).set ie none) wU M1 (upd H' x (xH C x)):=s5.vC (by rw[eI (sB hnr)];exact kO)
 exact h s' _ _ M1 wU I' s6 (st.trans (aq.laid fl.no))
end
end Ev
namespace L2
theorem Z0{CX:Bj}{P:Program}{w:World}{K:Frag}{mg:Str->Option Value}{base:Heap}{k:Nat}{f:Addr}{name qual:Str}{params:Arguments}{body:List Stmt}{scope:Scope}{dV kV doc pm bx ct oc:Value}{an od:Option Addr}
  {osl:Array (Option Value)}{N ps:List Str}{A:Around}{outer:List Env}{s:Shared}{H:Hp}{args:Args}{us:List Value}{vs:List V}{Q:VK}{E:XK} (lk:K.lookup f=!#[oc,od,.func (PySem.W.fnOf name qual params body scope dV kV doc pm an bx ct),osl]) (bU:PySem.W.codeIn K bx qual=true) (S:bI N ps scope)
  (hr:bH (k+1) A) (e0:Fe P w K mg base A outer s H) (hb:BindsTo s (PySem.W.fnOf name qual params body scope dV kV doc pm an bx ct) args (ps.zip us)) (r:Vals vs us) (hl:vs.length=ps.length)
  (hbody:∀s1,Inv (fG CX P w K mg base N qual scope f bx A outer s H E) [] (start N vs) H s1->wpAny (model P w) (A.deeper (envOfC qual scope s⁻¹ f bx)) (execs body (envOfC qual scope s⁻¹ f bx)) (SP (fG CX P w K mg base N qual scope f bx A outer s H E) [] { nx:=λ_ H'=>Q .non H',rt:=Q}) (fG CX P w K mg base N qual scope f bx A outer s H E).xe s1) :
  codeAny (model P w) A (.call (.ref f) args) (CR CX outer P w H s Q E) s:=by
 have KX:=e0.mod.wY.keeps λb o e=>(e0.bs b o e).1
 have lim:=e0.mod.nolimit.keeps λb o e=>(e0.bs b o e).1
 have hkind:∀y∈ps.zip us,scope.names.lookup y.1=some .local\/(scope.names.lookup y.1=some .cell/\((cellsFrom (s⁻¹+1) scope.names []).lookup y.1).isSome=true):=by
  rintro⟨n,v⟩ hy;rcases S.par n (Bn hy).1 with q |q
  . exact .inl q
  . exact .inr #[q,B0 _ _ _ (.inl q)]
 refine codeAny_call_function hr.depth (KX _ _ lk) rfl S.co S.gen rfl (PySem.W.codeRec_of KX bU) (hb _ _ _ _ ?_);refine wpAny_newFunctionEnv_cells S.kind hkind λenv he s1 x=>?_
 subst he;refine#[lim.keeps x.toInCall.keep,codeAny_func ?_];have I:Inv (fG CX P w K mg base N qual scope f bx A outer s H E) [] (start N vs) H s1:=qe S hr.hd e0 hl r x;refine i7 (hbody s1 I) (λfl s' hs=>?_) λe s' hs=>hs
 have fin:∀{σ':St}{H':Hp}{v:V}{u:Value},Inv (fG CX P w K mg base N qual scope f bx A outer s H E) [] σ' H' s'->RelV v u->Q v H'->CE outer P w H s Q u s':=
  λ{σ' H' v u} J rv q=>#[v,H',J.os,J.bare,J.base,J.hok,rv,q]
 cases fl with
 |ret u=>obtain⟨v,σ',H',J,rv,q⟩:=hs;exact fin J rv q
 |next=>obtain⟨σ',H',J,q⟩:=hs;exact fin (v:=V.non) J rfl q
 |brk=>obtain⟨_,_,_,q⟩:=hs;exact False.elim q
 |cont=>obtain⟨_,_,_,q⟩:=hs;exact False.elim q
end L2
namespace Ev
open L2
structure Vb(K:Frag)(mg:Str->Option Value)(sc:Scope)(N:List Str)(C D:Addr)(y ke en er:Str)(ie ir:Nat):Prop where
 nd:N.Nodup
 gk:sc.names.lookup ke=some .globalImplicit
 mg:mg ke=!(.ref D)
 dk:(ke==(~~~3))=false
 qC:dH K C
 qD:dH K D
 up:pL K C D=true
 kC:Fy K C
 eN:N[ie]?=!en
 le:sc.names.lookup en=some .local
 de:(en==(~~~3))=false
 ce:(en==("__classdict__":Str))=false
 rN:N[ir]?=!er
 lr:Loc sc er
 yN:N[0]?=!y
 vy:um sc y
 dy:(y==(~~~3))=false
 cy:(y==("__classdict__":Str))=false
 ne:ie≠ir
 ie0:ie≠0
 ir0:ir≠0
theorem Vb.try{P:Program}{w:World}{K:Frag}{mg:Str->Option Value}{base:Heap}{N:List Str}{qual:Str}{sc:Scope}{f:Addr}{cd:Value}{A:Around}{outer:List Env}{s:Shared}{H:Hp}{E:XK}{C D:Addr}{y ke en er:Str}{ie ir k:Nat}
  (T:Vb K mg sc N C D y ke en er ie ir) (hr:bH k (A.deeper (envOfC qual sc s⁻¹ f cd))):Q5 (fG xF P w K mg base N qual sc f cd A outer s H E) C D y ke en er 0 ie ir:=
 #[rfl,rfl,rfl,rfl,rfl,T.nd,T.gk,T.mg,T.dk,T.qC,T.qD,T.up,T.kC,T.eN,T.le,T.de,T.ce,T.rN,T.lr,.inl rfl,T.yN,T.vy,T.dy,T.cy,by have:=hr.dp;show (A.deeper (envOfC qual sc s⁻¹ f cd)).depth<_;lia]
structure Vc(X:Cx)(qn:Str)(q c:Addr):Prop where
 hq:(q,qn)∈bW X.K
 hu:∀p∈bW X.K,p.1=q->p.2=qn
 hcode:X.env.code=.ref c
 hC:∀b:Heap,X.K.In b->PySem.W.CodeHd b c q
 hqn:X.env.qual ++ "<lambda>"=qn
 hbi:∀b:Heap,X.K.In b->b.BuiltinsAt X.mg q
 ZQ:mainGlobals≠q
structure Lt where
 params:Arguments
 body:Expr
 scope:Scope
 pos:Pos
noncomputable abbrev Lt.ex(l:Lt):Expr:=.Lambda l.params l.body l.scope l.pos
def Q6(X:Cx)(qn:Str)(M:List Addr)(H:Hp)(l:Lt)(v:V):Prop:=∃p c' jc cl,v=.ref p/\p∉M/\c'∉M/\H p=!(j7 p (PySem.W.kla_obj "<lambda>" qn l.params l.body l.scope cl ((X.mg "__name__").getD .none) c' jc))/\H c'=!(fS qn c')/\
 (∀x c,cl.lookup x=!c->X.env.cells.lookup x=!c/\(x,NameKind.free)∈l.scope.names)/\∀y∈l.scope.names,y.2=.free->∃c,cl.lookup y.1=!c
section
theorem S.ext(s:S z g Y As M H)(h:H a=!(.ext f)):a∉M:=λhm=>by
 rcases s.live a hm with ⟨o,e,gr⟩ |e
 . rw[h]at e;cases e;exact gr
 . obtain⟨q,hq,rfl⟩:=i5.mp e;obtain⟨ps,h1,_⟩:=s.tab q hq;rw[h]at h1;cases h1
noncomputable def tLam(X:Cx)(z:Z)(g:G)(qn:Str)(l:Lt):TE:=λY H Q=>∃As M,S z g Y As M H/\∀v H',S z g Y As M H'->aq M H M H'->Q6 X qn M H' l v->(∀b xs,H b=!(.lst xs)->H' b=!(.lst xs))->Q v H'
theorem Vd(hK:z.K=X.K)(mk:Vc X qn q c)(B:bf X.env.scope l.scope)(L:nR l.params l.scope):PE X l.ex (tLam X z g qn l):=by rintro ah s Y H Q I ⟨As,M,hs,hQ⟩;exact Hf I hs (by rw[hs.tt,hK];exact mk.hq) (by rw[hs.tt,hK];exact mk.hu) mk.hcode (mk.hC _ I.ok.mod.wY) mk.hqn (mk.hbi _ I.ok.mod.wY) mk.ZQ (by rw[L.par];rfl) B λp c' jc cl H' s' I' S' st' np h1 h2 c1 c2 kl=>#[.ref p,H',I',rfl,hQ _ H' S' st' #[p,c',jc,cl,rfl,np,S'.ext h2,h1,h2,c1,c2] kl]
end
section
variable{st:Stmt}{rest:List Stmt}{f C D p c':Addr}
theorem Ve(hK:z.K=X.K)(hr:bH (k+2) X.A)(hcalm:X.calm=true)(Ff:Lg X.K fx qual st f fd)(b9:bh st=.Assign [.Name er Cz] (.Constant .none j np) XS::Hi y ke en er py cpos0 pq kp vB vA cM pA pg::rest)(Sc:bI Nf [y] (aC st))
  (hbd:L2.Binds X.K fd [y] []) (T:Vb X.K X.mg (aC st) Nf C D y ke en er ie ir) (L:nR params scope)
  (hbE:∀(Xf:Cx) (s:Shared) (H:Hp) (xe:Value->Shared->Prop) (zl:Z),Xf.prog=X.prog->Xf.w=X.w->Xf.K=X.K->Xf.mg=X.mg->Xf.base=X.base->bH (k+1) Xf.A->Xf.calm=true->PassesOwn (model Xf.prog Xf.w) (Xf.A.deeper (PySem.W.envX qn scope s⁻¹ p (.ref c') cl)) (PySem.W.envX qn scope s⁻¹ p (.ref c') cl) xe->zl.K=X.K->zl.bor=[]->Eh (vq Xf N qn scope p (.ref c') cl s H xe) zl body g0 C Km)
  (hrest:∀(bx:Value) (A:Around) (outer:List Env) (s:Shared) (H:Hp) (E:XK),PySem.W.codeIn X.K bx qual=true->bH k (A.deeper (envOfC qual (aC st) s⁻¹ f bx))->∀zf:Z,zf.K=X.K->zf.bor=[]->dG (fG xF X.prog X.w X.K X.mg X.base Nf qual (aC st) f bx A outer s H E).rW zf rest ((List.replicate Nf.length .no).set ir (.dat (.lG C))) (.rt r) g3)
  (ho:dj [] g3 r=!r') (I1:L2.Inv X ah Y H s) (S1:S z g Y As M H) (hp1:H p=!(j7 p (PySem.W.kla_obj "<lambda>" qn params body scope cl pm c' jc))) (hc1:H c'=!(fS qn c')) (Cl0:sS N σ0 scope cl H s.heap) (hs0:Slots z.K M H g0 σ0 []) (hn0:∀(i:Nat) (l:List Ev.D),g0[i]?≠!(.own l))
  {us:List Value} (rv:Vals [.ref p] us) {E:Value->Shared->Prop}{Q:Value->Shared->Prop} (hQ:∀u v H' s' aB M',L2.Inv X ah Y H' s'->RelV v u->S z g Y aB M' H'->aq M H M' H'->cA z g Y aB M' H' r' v->Q u s'):wpAny (~~~2) X.A (call (.ref f) us) Q E s:=by
 obtain⟨oc,od,kV,doc,pm,an,bx,ct,osl,rfl,lk,bU⟩:=Ff.ex;have aH:us.length=1:=by rw[<- rv.length];rfl
 refine CS (AL (Z0 (CX:=xF) (Q:=λv H'=>∃aB M',S z g Y aB M' H'/\aq M H M' H'/\cA z g Y aB M' H' r' v) (E:=λ_ _ _=>False) lk bU Sc hr I1.K7 (by have:=hbd s us I1.mG (by rw[oD];exact aH);rw[oD]at this;exact this) rv rfl λs2 J=>?_) λrr s' hq'=>?_)
 ·
  rw[b9];have hr1:bH (k+1) (X.A.deeper (envOfC qual (aC st) s⁻¹ f bx)):=hr.deeper _;have hr2:=hr1.mono (AT k);have TT:=T.try (P:=X.prog) (w:=X.w) (base:=X.base) (outer:=X.stack) (H:=H) (E:=λ_ _ _=>False) hr2
  refine A5 (i7 ((fZ T.nd T.rN T.lr Er rfl (.inl rfl)) [] s2 _ _ { nx:=λσ' H'=>σ'=(start Nf [.ref p]).set ir (some .non)/\H'=H,rt:=λ_ _=>False} (J.wish _) #[rfl,rfl]) (λfl s3 q3=>?_) λ_ _ z=>False.elim z)
  cases fl with
  |ret u=>obtain⟨_,_,_,_,_,q⟩:=q3;exact q.elim
  |brk=>obtain⟨_,_,_,q⟩:=q3;exact q.elim
  |cont=>obtain⟨_,_,_,q⟩:=q3;exact q.elim
  |next=>
   obtain⟨σ3,H3,I3,e1,e2⟩:=q3;subst e1 e2;have I3:=I3.cz;have len0:(start Nf [.ref p]).length=Nf.length:=by have:=J.len;exact this
   have Z1:Slots z.K M H3 (List.replicate Nf.length .no) (start Nf [.ref p]) []:=by rw[<- len0];exact Slots.nos' _
   have Z2:∀(i:Nat) (l:List Ev.D),(List.replicate Nf.length Slot.no)[i]?≠!(.own l):=λi l e=>by
    have:=hZ e;rw[w8]at this;cases this.2
   have S3:=S.into S1 Z1 Z2;obtain⟨fT,S4⟩:=S3.ez (λh=>nomatch h) .non
   have hA4:fT=[]:=by
    have key:∀{g:G}{Y:Sg}{As:List Addr},Slots z.K M H3 g Y As->(∀(i:Nat) (l:List Ev.D),g[i]?≠!(.own l))->As=[]:=λq=>by
     induction q with
     |nil=>intro _;rfl
     |no _ ih=>intro h;exact ih λi l e=>h (i+1) l e
     |dat _ _ ih=>intro h;exact ih λi l e=>h (i+1) l e
     |own _ _ _ ih=>intro h;exact absurd rfl (h 0 _)
    refine key S4.sl λi l e=>?_
    by_cases hi:i=ir
    .
     subst hi;rw[i3 (by rw[mB];exact (c8.mp T.rN).1)]at e
     cases e
    . rw[eI (sB hi)]at e;exact Z2 i l e
   subst hA4;have hy:((start Nf [.ref p]).set ir (some .non))[0]?=!(!(.ref p)):=by rw[eI T.ir0];rfl
   have kO:((List.replicate Nf.length Slot.no).set ir (.dat .non))[ie]?=some .no:=by rw[eI (sB T.ne),List.getElem?_replicate,hV (c8.mp T.eN).1]
   have un3:=I3.base;have XT:=hK;refine A5 (Nr (σ0:=σ0) TT L I3 S4 XT rfl rfl hy kO (λh=>nomatch h) T.ne hp1 hc1 (Cl0.un un3) hs0 hn0
    (λxe hx=>hbE _ s3 H3 xe _ rfl rfl rfl rfl rfl hr1 rfl hx hK rfl) λs4 σ4 H4 M4 fT I4 S5 jT=>?_)
   obtain⟨t,pt,kt⟩:=hrest bx X.A X.stack s H3 (λ_ _ _=>False) bU hr2 (zN z M H3) hK rfl
   rw[List.set_set]at S5;refine pt.rW [] s4 σ4 H4 _ I4 (kt σ4 fT M4 H4 _ S5 λv σ5 wU M5 H5 S6 Kc R6=>?_)
   obtain⟨M6,S7,ZC,R7⟩:=S1.leave .nil rfl yY S6 (jT.trans Kc) R6 rfl ho;exact#[_,M6,S7,ZC,R7]
 .
  cases rr with
  |error ev=>exact False.elim hq'
  |ok flw=>
   cases flw with
   |ret u=>obtain⟨v,H',I',r1,aB,M',a,b,d⟩:=I1.after hq';exact hQ u v H' s' aB M' I' r1 a b d
   |next=>exact False.elim hq'
   |brk=>exact False.elim hq'
   |cont=>exact False.elim hq'
end
def Hj(qqq X:Cx)(z:Z)(g:G)(qn:Str)(l:Lt)(r':R)(f:Addr):Prop:=
 ∀{ah: ~~~1}{σ1 σ0:Sg}{H1:Hp}{s1:Shared}{g1:G}{As A0 M:List Addr}{p c':Addr}{cl:List (Str×Addr)}{pm jc:Value}{us:List Value}{Q E:Value->Shared->Prop},L2.Inv qqq ah σ1 H1 s1->S z g1 σ1 As M H1->H1 p=!(j7 p (PySem.W.kla_obj "<lambda>" qn l.params l.body l.scope cl pm c' jc))->H1 c'=!(fS qn c')->
  sS X.N σ0 l.scope cl H1 s1.heap->Slots z.K M H1 g σ0 A0->Vals [.ref p] us->(∀u v H' s' aB M',L2.Inv qqq ah σ1 H' s'->RelV v u->S z g1 σ1 aB M' H'->aq M H1 M' H'->cA z g1 σ1 aB M' H' r' v->Q u s')->wpAny (model qqq.prog qqq.w) qqq.A (call (.ref f) us) Q E s1
section
variable{st:Stmt}
theorem Nt(hK:z.K=X.K)(Ff:Lg X.K fx qual st f fd)(hg:Gl X fx)(hm:X.mg fx=!(.ref f))(ji:(fx==(~~~3))=false)(mk:Vc X qn q c)(B:bf X.env.scope l.scope)(L:nR l.params l.scope)(hcall:Hj X X z g qn l r' f):aA X z (.Call (.Name fx fp) [l.ex] [] bT) g r' g:=by
 refine#[λY H Q=>∃As M,S z g Y As M H/\∀v H' aB M',S z g Y aB M' H'->aq M H M' H'->cA z g Y aB M' H' r' v->Q v H',?_,λY As M H Q s kq=>#[As,M,s,λv H' aB M'=>kq v H' aB M']]
 rintro ah s Y H Q I ⟨As,M,hs,hQ⟩;refine o3 (fE I hg hm ?_ ji);refine Bi I.ok.mod.wY Ff.kp (i7 ((bA (Vd hK mk B L) fF rfl) bT ah s Y H (λvs H'=>∃v,vs=[v]/\S z g Y As M H'/\aq M H M H'/\Q6 X qn M H' l v) I #[As,M,hs,λv H' a b d _=>#[v,rfl,a,b,d]]) (λus s1 q1=>?_) λ_ _ z=>z) rfl rfl
 obtain⟨vs,H1,I1,rv,_,rfl,S1,cN,p,c',jc,cl,rfl,np1,nc1,hp1,hc1,Kl,U8⟩:=q1;exact#[I1.mG,hcall I1 S1 hp1 hc1 (Nq I1 B L.nl Kl U8) S1.sl rv λu v H' s' aB M' I' r1 a b d=>#[v,H',I',r1,hQ v H' aB M' a (cN.trans b) d]]
end
section
theorem Hl(hw:∀u,RelV w u->u=cv):cF X (.builtin "isinstance") (λxs H Q=>∃x M d b,xs=[x,w]/\Pk X.K M H d x/\PySem.W.kitOne X.K (Ec d) cv=!b/\Q (.bl b) H):=by intro ah s Y H xs us Q I r h;obtain⟨x,M,d,b,rfl,p,e,q⟩:=h;obtain⟨u,w',rfl,r1,r2⟩:=vals2 r;obtain rfl:=hw _ r2;exact Gg I p r1 e λtk=>#[.bl b,H,I.tok tk,rfl,q]
theorem Ho(hK:z.K=X.K)(h:aA X z a g r1 g1)(hp:pk r1 g1=!d)(he:∀M H v,Pk X.K M H d v->PySem.W.kitOne X.K (Ec d) cv=!b)
  (hg:Gl X "isinstance") (hm:X.mg "isinstance"=none) (hv:bootBuiltins "isinstance"=!(.builtin "isinstance")) (hw:∀u,RelV w u->u=cv) (pT':PE X (.Name T pT) (tC w))
  (hs:starEach [a,.Name T pT] X.env=(false,eval a X.env)::starEach [.Name T pT] X.env):aA X z (.Call (.Name "isinstance" p) [a,.Name T pT] [] pos) g (.dat (.bl b)) g1:=by
 obtain⟨t,q,k⟩:=h;refine#[_,gj (Hl hw) hg hm hv (bA q (bA pT' fF) hs) ⋯ ⋯ hs,λY As M H Q s kk=>k Y As M H _ s λv H' aB M' s' st R=>?_]
 have p:=hK▸s'.pk (aq.refl _ _) R hp;exact#[v,M',d,b,rfl,p,he _ _ _ p,kk _ H' aB M' s' st (.bl b)]
end
open L2 PySem.W
noncomputable def kP:Slot->Slot
 |.own l=>.dat (.lst l)
 |s=>s
noncomputable def flat:D->Bool
 |.non=>true
 |.bl _=>true
 |.int _=>true
 |.str _=>true
 |_=>false
theorem Rep.flat{K:Frag}{M M':List Addr}{H H':Hp}{d:D}{v:V}(r:Rep K M H d v)(h:Ev.flat d=true):Rep K M' H' d v:=by
 cases r with
 |non=>exact .non
 |bl b=>exact .bl b
 |int i=>exact .int i
 |str x=>exact .str x
 |_=>symm
section
variable{g g':G}
theorem Slots.atA{K:Frag}(q:Slots K M H g Y As){a:Addr}(h:a∈As):∃(i:Nat) (l:List D) (xs:List V),g[i]?=!(Slot.own l)/\Y[i]?=!(!(V.ref a))/\H a=!(.lst xs):=by
 induction q with
 |nil=>symm
 |no _ ih=>obtain⟨i,l,xs,h1,h2,h3⟩:=ih h;exact#[i+1,l,xs,h1,h2,h3]
 |dat _ _ ih=>obtain⟨i,l,xs,h1,h2,h3⟩:=ih h;exact#[i+1,l,xs,h1,h2,h3]
 |own e _ _ ih=>
  rcases dL.mp h with rfl |h
  . exact#[0,_,_,rfl,rfl,e]
  . obtain⟨i,l,xs,h1,h2,h3⟩:=ih h;exact#[i+1,l,xs,h1,h2,h3]
theorem Slots.kP{K:Frag}{M0:List Addr}(q:Slots K M H g Y As)(hl:∀m∈M0,m∈M)(hn:∀a∈As,a∉M0):Slots K M0 H (g.map Ev.kP) Y []:=by
 induction q with
 |nil=>exact .nil
 |no _ ih=>exact .no (ih hn)
 |dat r _ ih=>exact .dat (r.stay (aq.less hl)) (ih hn)
 |own e r _ ih=>exact .dat (.lst #[hn _ b0,e] (r.stay (aq.less hl))) (ih λa ha=>hn a (bP _ ha))
theorem Nu{i:Nat}{l:List D}(h:(g.map Ev.kP)[i]?=!(.own l)):False:=by
 rw[oI]at h;cases e:g[i]? with
 |none=>rw[e]at h;symm
 |some u=>rw[e]at h;cases u <;> symm
theorem S.h0(s:S z g Y As M H)(hb:z.bor=[])(h:a∈As):z.H0 a=none:=by
 obtain⟨i,l,xs,h1,h2,_⟩:=s.sl.atA h;rcases s.own i a l h1 h2 with ⟨q,_⟩ |q
 . rw[hb]at q;cases q
 . exact q
theorem S.Hq(s:S z g Y As M H)(hb:z.bor=[]):S z (g.map Ev.kP) Y [] (M.filter λm=>decide (m∉As)) H where
 sl:=s.sl.kP (λm hm=>(lL.mp hm).1) λa ha hm=>by have:=(lL.mp hm).2;simp at this;exact this ha
 nd:=yY
 sub:=λa h=>nomatch h
 own:=λi a l e _=>(Nu e).elim
 live:=λm hm=>s.live m (lL.mp hm).1
 keep:=s.keep
 eS:=λm hm=>lL.mpr #[s.eS m hm,by
  have:m∉As:=λh=>s.m0 m hm (s.h0 hb h)
  simpa using this]
 m0:=s.m0
 bm:=s.bm
 fH:=λp hp=>by
  have:p.1∈z.bor:=oQ hp;rw[hb]at this;cases this
 tab:=s.tab
 tm:=s.tm
 tt:=s.tt
theorem S.Z3(s:S z g Y As M H)(hb:z.bor=[]){g1:G}{σ1:Sg}(s1:S z g1 σ1 aI M1 H1)(st:aq (M.filter λm=>decide (m∉As)) H M1 H1):S z g Y As (As++M1) H1/\aq M H (As++M1) H1:=by
 have nA:∀a∈As,a∉M.filter λm=>decide (m∉As):=λa ha hm=>by have:=(lL.mp hm).2;simp at this;exact this ha
 have stM:aq M H (As++M1) H1:=λb o e hb'=>by
  have h1:=st b o e λhm=>hb' (lL.mp hm).1
  refine#[h1.1,λhm=>?_]
  rcases vS.mp hm with hm |hm
  . exact hb' (s.sub b hm)
  . exact h1.2 hm
 have lists:∀a∈As,∃xs,H1 a=!(.lst xs):=λa ha=>by
  obtain⟨_,_,xs,_,_,e⟩:=s.sl.atA ha;exact#[xs,(st a _ e (nA a ha)).1]
 refine#[#[s.sl.stay stM λa ha o e=>(st a o e (nA a ha)).1,s.nd,λa ha=>t7 _ ha,s.own,λm hm=>?_,s1.keep,λm hm=>gN _ (s1.eS m hm),s.m0,s.bm,s.fH,s1.tab,s.tm,s.tt],stM]
 rcases vS.mp hm with hm |hm
 . obtain⟨xs,e⟩:=lists m hm;exact .inl #[_,e,trivial]
 . exact s1.live m hm
theorem Nv(hb:z.bor=[])(hf:Ev.flat d=true)(h:aA X z e (g.map Ev.kP) (.dat d) g1):aA X z e g (.dat d) g:=by
 obtain⟨t,q,k⟩:=h;refine#[t,q,λY As M H Q s kk=>k Y [] _ H Q (s.Hq hb) λv H1 aI M1 s1 st R=>?_]
 obtain⟨a,b⟩:=s.Z3 hb s1 st;exact kk v H1 As _ a b (Rep.flat R hf)
def kZ:D->Bool
 |.tup l=>l.all flat
 |d=>flat d
theorem aD.flat{K:Frag}{l:List D}{xs:List V}(r:aD K M H l xs)(h:l.all Ev.flat=true):aD K M1 H1 l xs:=by
 induction l generalizing xs with
 |nil=>cases r;exact .nil
 |cons d l ih=>
  cases r with
  |cons r t=>rw[CL,dA]at h;exact .cons (Rep.flat r h.1) (ih t h.2)
theorem Rep.kZ{K:Frag}{d:D}{x:V}(r:Rep K M H d x)(h:Ev.kZ d=true)(hA:∀a∈As,∃ys,H a=!(.lst ys)):Rep K (As++M) H d x:=by
 cases r with
 |tup t rr=>
  have nA:∀{a:Addr}{o:HO},H a=!o->(∀ys,o≠.lst ys)->a∉M->a∉As++M:=λe n m hm=>by
   rcases vS.mp hm with hm |hm
   . obtain⟨ys,e2⟩:=hA _ hm;rw[e]at e2;cases e2;exact n _ rfl
   . exact m hm
  rcases t with ⟨n,t |⟨o,t⟩⟩ |t
  . exact .tup (.inl #[nA t (λ_ e=>nomatch e) n,.inl t]) (aD.flat rr h)
  . exact .tup (.inl #[nA t (λ_ e=>nomatch e) n,.inr #[o,t]]) (aD.flat rr h)
  . exact .tup (.inr t) (aD.flat rr h)
 |non=>exact .non
 |bl b=>exact .bl b
 |int i=>exact .int i
 |str x=>exact .str x
 |_=>symm
theorem aD.kZ{K:Frag}{l:List D}{xs:List V}(r:aD K M H l xs)(h:l.all Ev.kZ=true)(hA:∀a∈As,∃ys,H a=!(.lst ys)):aD K (As++M) H l xs:=by
 induction l generalizing xs with
 |nil=>cases r;exact .nil
 |cons d l ih=>
  cases r with
  |cons r t=>rw[CL,dA]at h;exact .cons (r.kZ h.1 hA) (ih t h.2)
theorem Hr{X:Cx}{e:Expr}{l:List D}{g1:G}(hb:z.bor=[])(hf:l.all Ev.kZ=true)(h:aA X z e (g.map Ev.kP) (.new l) g1):aA X z e g (.new l) g:=by
 obtain⟨t,q,k⟩:=h;refine#[t,q,λY As M H Q s kk=>k Y [] _ H Q (s.Hq hb) λv H1 aI M1 s1 st R=>?_]
 obtain⟨a,b⟩:=s.Z3 hb s1 st;obtain⟨p,xs,rfl,r1,r2,r3,r4,r5⟩:=R;have hA:∀a∈As,∃ys,H1 a=!(.lst ys)/\a∉M1:=λa hp=>by
  obtain⟨_,_,ys,_,_,e⟩:=s.sl.atA hp;exact#[ys,st a _ e λhm=>by have:=(lL.mp hm).2;simp at this;exact this hp]
 exact kk _ H1 As _ a b #[p,xs,rfl,gN _ r1,λhp=>by obtain⟨ys,_,n⟩:=hA p hp;exact n r1,r3,r4,aD.kZ r5 hf λa ha=>by obtain⟨ys,e,_⟩:=hA a ha;exact#[ys,e]]
end
inductive Vf(X:Cx):List Stmt->List TS->Prop
 |nil:Vf X [] []
 |cons {s:Stmt}{ss:List Stmt}{t:TS}{ts:List TS}:PS X s t->Vf X ss ts->Vf X (s::ss) (t::ts)
def Nx:List TS->TS->TS
 | [],u=>u
 |t::ts,u=>YC t (Nx ts u)
theorem Vf.pss{X:Cx}{ss rest:List Stmt}{ts:List TS}{u:TS}(h:Vf X ss ts)(hu:pZ X rest u):pZ X (ss++rest) (Nx ts u):=by
 induction h with
 |nil=>exact hu
 |cons a _ ih=>exact cS a ih
def nU(X:Cx)(z:Z)(ss:List Stmt)(g:G)(f:Fl)(g':G):Prop:=
 ∃ts,Vf X ss ts/\∀(u:TS) Y As M H (E:Ends),S z g Y As M H->qq z M H { E with nx:=u E} g' f->Nx ts u E Y H
theorem nU.lift(h:nU X.rW z ss g f g'):nU X z ss g f g':=by
 obtain⟨ts,q,k⟩:=h;refine#[ts,?_,k];clear k
 induction q with
 |nil=>exact .nil
 |cons a _ ih=>exact .cons (λah s Y H D I hw=>i7 (a ah s Y H D (I.wish _) hw) (λ_ _ q=>q.cz) λ_ _ z=>False.elim z) ih
theorem nU.bk{X:Cx}{z:Z}{ss rest:List Stmt}{g g1 g':G}{f:Fl}(h:nU X z ss g .nx g1)(h2:dG X z rest g1 f g'):dG X z (ss++rest) g f g':=by obtain⟨t2,q2,k2⟩:=h2;obtain⟨t,q,k⟩:=h;exact#[_,q.pss q2,λY As M H E s kE=>k t2 Y As M H E s λσ' aB M' H' s' st=>k2 σ' aB M' H' E s' (kE.trans st)]
theorem nU.end{X:Cx}{z:Z}{ss rest:List Stmt}{g g':G}{f:Fl}(h:nU X z ss g f g')(hn:f≠.nx):dG X z (ss++rest) g f g':=by
 obtain⟨t,q,k⟩:=h;refine#[_,q.pss bu,λY As M H E s kE=>k _ Y As M H E s ?_]
 cases f with
 |nx=>exact absurd rfl hn
 |rt r=>exact kE
 |bk=>exact kE
 |ct=>exact kE
theorem nU.ra{X:Cx}{z:Z}{ss rest:List Stmt}{g g1 g':G}{C:Addr}(h:nU X z ss g .nx g1)(h2:Mw X z rest g1 C g'):Mw X z (ss++rest) g C g':=by obtain⟨t2,q2,k2⟩:=h2;obtain⟨t,q,k⟩:=h;exact#[_,q.pss q2,λY As M H E s kE=>k t2 Y As M H E s λσ' aB M' H' s' st=>k2 σ' aB M' H' E s' (kE.trans st)]
def Vg(X:Cx)(tg iter:Expr):TI:=λY H R=>∃wi,PI X tg iter wi/\wi Y H R
theorem yd:PI X tg iter (Vg X tg iter):=λah s Y H R I h=>let #[wi,q,k]:=h;q ah s Y H R I k
section
theorem Hs(hC:∀g b g',ur g b g'->cT X z ifs g b g')(hE:∀g d g',Mk g d g'->aA X z cQ g (.dat d) g')(hw:dm X z tg iter g2 ao Uo)(ht:eG X z tg T)(cU:last∉T.ix)
  (hcp:jz T last ur Mk ao Uo g3) {Y:Sg}{As M:List Addr}{H:Hp}{Nn:Sg->Hp->Prop}{D:Addr} (s:S z g2 Y As M H) (hD:Y[last]?=!(!(.ref D)))
  (k:∀σ' aB M' H',S z g3 σ' aB M' H'->aq M H M' H'->σ'[last]?=!(!(.ref D))->uX T.ix Y σ'->Nn σ' H'):Zg (Vg X tg iter) (BG X tg) (Gp X ifs) (uN D (BJ X cQ)) Y H Nn:=by
 obtain⟨wi,q,kw⟩:=hw;refine#[wi,q,kw Y As M H _ s λJ H1 aI M1 s1 cN hJ=>?_]
 refine jy hJ (λl σ' H'=>∃gb Ab Mb,S z gb σ' Ab Mb H'/\aq M1 H1 Mb H'/\uX T.ix Y σ'/\σ'[last]?=!(!(.ref D))/\jz T last ur Mk l gb g3)
  #[_,_,_,s1,aq.refl _ _,uX.refl _ _,hD,hcp] (by rintro _ _ _ ⟨_,_,M2,_,aG,_⟩;exact#[M2,aG]) ?_ ?_
 . rintro σ' H' ⟨gb,Ab,Mb,s2,aG,ag,wR,cp⟩;cases cp;exact k σ' Ab Mb H' s2 (cN.trans aG) wR ag
 .
  rintro d l σ' H' ⟨gb,Ab,Mb,s2,aG,ag,wR,cp⟩ x H2 yl;obtain⟨s3,cY,rx⟩:=yl Mb aG z gb σ' Ab rfl s2;obtain⟨t,qt,kt⟩:=ht;cases cp with
  |skip e0 hc rest=>
   refine#[t,qt,kt d gb _ e0 x _ Ab Mb H2 _ s3 rx λσ4 fT s4 Z4=>?_]
   obtain⟨t2,q2,k2⟩:=hC _ _ _ hc;refine#[t2,q2,k2 _ fT Mb H2 _ s4 λH5 wU M5 s5 jT=>?_]
   exact lF #[_,wU,M5,s5,(aG.trans cY).trans jT,ag.trans Z4,by rw[Z4.2 _ cU];exact wR,rest]
  |take e0 hc he ha hz' rest=>
   refine#[t,qt,kt d gb _ e0 x _ Ab Mb H2 _ s3 rx λσ4 fT s4 Z4=>?_]
   obtain⟨t2,q2,k2⟩:=hC _ _ _ hc;obtain⟨t3,q3,k3⟩:=hE _ _ _ he;have Ml:σ4[last]?=!(!(V.ref D)):=by rw[Z4.2 _ cU];exact wR
   refine#[t2,q2,k2 _ fT Mb H2 _ s4 λH5 wU M5 s5 jT=>iN #[t3,q3,k3 _ wU M5 H5 _ s5 λv H6 Uv M6 s6 Kc R6=>?_]]
   obtain⟨a,xs,f1,f2,f3,f4⟩:=s6.sl.at ha;rw[Ml]at f1;injection f1 with f1;injection f1 with f1;injection f1 with f1;subst f1;obtain⟨s7,ZC⟩:=s6.write ha Ml (f4.append (.cons R6 .nil));exact#[xs,f3,by rw[<- f4.length];exact hz',_,Uv,M6,s7,(((aG.trans cY).trans jT).trans Kc).trans ZC,ag.trans Z4,Ml,rest]
end
inductive gH(T:Tg)(ur:G->Bool->G->Prop)(In:G->G->Prop):List D->G->G->Prop
 |nil {g:G}:gH T ur In [] g g
 |skip:T.set d g=!g1->ur g1 false g2->gH T ur In l g2 g'->gH T ur In (d::l) g g'
 |take:T.set d g=!g1->ur g1 true g2->In g2 g3->gH T ur In l g3 g'->gH T ur In (d::l) g g'
section
def CG(X:Cx)(z:Z)(N':List Str)(scope:Scope)(tg iter cQ:Expr)(ifs:List Expr)(T:Tg)(last:Nat)(g2 g3:G):Prop:=
 ∃ao Uo,(∀bk:Bk,dm (X.blk N' scope bk) z tg iter g2 ao Uo)/\jz T last (λg b g'=>∀bk:Bk,cT (X.blk N' scope bk) z ifs g b g') (λg d g'=>∀bk:Bk,aA (X.blk N' scope bk) z cQ g (.dat d) g') ao Uo g3
theorem lg(hw:dm X z t1 i1 g ao g1)(ht1:∀b:Bk,eG (X.blk N' scope b) z t1 T1)(ht:∀b:Bk,eG (X.blk N' scope b) z tg T)(hT1:∀i∈T1.ix,g1.length<=i/\i<g1.length+k)(hT:∀i∈T.ix,g1.length<=i/\i<g1.length+k)
  (hcp:gH T1 (λg b g'=>∀bk:Bk,cT (X.blk N' scope bk) z f1 g b g') (CG X z N' scope tg iter cQ ifs T (g1.length+k)) ao (gC k g1) gE) (hacc:gE[g1.length+k]?=!(.own acc)) :
  ∃wi,PI X t1 i1 wi/\∀Y As M H Q,S z g Y As M H->Kn z (gE.take g1.length) Y M H (.new acc) Q->qj X k wi (λb=>BG (X.blk N' scope b) t1) (λb=>Gp (X.blk N' scope b) f1) (λD b=>Zg (Vg (X.blk N' scope b) tg iter) (BG (X.blk N' scope b) tg) (Gp (X.blk N' scope b) ifs) (uN D (BJ (X.blk N' scope b) cQ))) Y H Q:=by
 obtain⟨wi,q,kw⟩:=hw;refine#[wi,q,λY As M H Q s kq=>kw Y As M H _ s λJ H1 aI M1 s1 cN hJ D hD=>?_]
 have hl:=s1.sl.length;have hz:∀p∈z.lent,p.1<Y.length:=λp hp=>(c8.mp (s1.fH p hp).1).1
 have Z5:∀i∈T1.ix,Y.length<=i:=λi hi=>by rw[<- hl];exact (hT1 i hi).1
 have Ed:∀i∈T.ix,Y.length<=i:=λi hi=>by rw[<- hl];exact (hT i hi).1
 have Ht:g1.length+k∉T1.ix:=λh=>nN _ (hT1 _ h).2
 have cU:g1.length+k∉T.ix:=λh=>nN _ (hT _ h).2
 have s1':=s1.aO (xs:=[]) hD;have h0:=s1.bY hD;have nA:D∉aI:=λh=>s1.fresh hD (s1.sub D h)
 have sb:=s1'.extend (k:=k) b0 nA h0 az .nil;have Gq:(Y++(List.replicate k none++[!(V.ref D)]))[g1.length+k]?=!(!(V.ref D)):=by
  rw[hl,eR (Nat.le_add_right _ _),t6,eR (by rw[mB];exact dE _),mB,Nat.sub_self]
  rfl
 refine jy hJ (λl σ' H'=>∃gb Ab Mb τ,S z gb σ' Ab Mb H'/\aq M1 H1 Mb H'/\σ'=Y++τ/\σ'[g1.length+k]?=!(!(.ref D))/\gH T1 (λg b g'=>∀bk:Bk,cT (X.blk N' scope bk) z f1 g b g') (CG X z N' scope tg iter cQ ifs T (g1.length+k)) l gb gE)
  #[_,_,_,_,sb,aq.aO hD,rfl,Gq,hcp] (by rintro _ _ _ ⟨_,_,M2,_,_,aG,_⟩;exact#[M2,aG]) ?_ ?_
 . rintro σ' H' ⟨gb,Ab,Mb,τ,s2,aG,rfl,wR,cp⟩;cases cp;obtain⟨a,xs,f1,f2,f3,f4⟩:=s2.sl.at hacc;rw[wR]at f1;injection f1 with f1;injection f1 with f1;injection f1 with f1;subst f1;obtain⟨A1,s3,m3,n3⟩:=s2.shrink hz ⋯ hacc wR;rw[<- hl]at s3;exact kq _ H' A1 Mb s3 (cN.trans aG) #[D,xs,rfl,m3,n3,h0,f3,f4]
 .
  rintro d l σ' H' ⟨gb,Ab,Mb,τ,s2,aG,rfl,wR,cp⟩ x H2 yl bk _;obtain⟨s3,cY,rx⟩:=yl Mb aG z gb (Y++τ) Ab rfl s2;obtain⟨t,qt,kt⟩:=ht1 bk;cases cp with
  |skip e0 hc rest=>
   refine#[t,qt,kt d gb _ e0 x _ Ab Mb H2 _ s3 rx λσ4 fT s4 ag=>?_]
   obtain⟨τ',rfl⟩:=cK ag Z5;obtain⟨t2,q2,k2⟩:=hc bk;refine#[t2,q2,k2 _ fT Mb H2 _ s4 λH5 wU M5 s5 jT=>?_]
   refine lF #[_,wU,M5,τ',s5,(aG.trans cY).trans jT,rfl,?_,rest];rw[ag.2 _ Ht];exact wR
  |take e0 hc hin rest=>
   obtain⟨items2,Uo,hw2,cp2⟩:=hin;refine#[t,qt,kt d gb _ e0 x _ Ab Mb H2 _ s3 rx λσ4 fT s4 ag=>?_]
   obtain⟨τ',rfl⟩:=cK ag Z5;obtain⟨t2,q2,k2⟩:=hc bk;have Ml:(Y++τ')[g1.length+k]?=!(!(V.ref D)):=by rw[ag.2 _ Ht];exact wR
   refine#[t2,q2,k2 _ fT Mb H2 _ s4 λH5 wU M5 s5 jT=>iN ?_]
   refine Hs (λg b g' h=>h bk) (λg d g' h=>h bk) (hw2 bk) (ht bk) cU cp2 s5 Ml λσ6 Uv M6 H6 s6 Kc XX ag6=>?_
   obtain⟨τ6,rfl⟩:=cK ag6 Ed;exact#[_,Uv,M6,τ6,s6,((aG.trans cY).trans jT).trans Kc,rfl,XX,rest]
theorem Hu(B:bf X.env.scope scope)(hc:X.calm=true)(hN:Names X.N N' scope k)(hw:dm X z t1 i1 g ao g1)(ht1:∀b:Bk,eG (X.blk N' scope b) z t1 T1)(ht:∀b:Bk,eG (X.blk N' scope b) z tg T)(hT1:∀i∈T1.ix,g1.length<=i/\i<g1.length+k)(hT:∀i∈T.ix,g1.length<=i/\i<g1.length+k)
  (hcp:gH T1 (λg b g'=>∀bk:Bk,cT (X.blk N' scope bk) z f1 g b g') (CG X z N' scope tg iter cQ ifs T (g1.length+k)) ao (gC k g1) gE) (hacc:gE[g1.length+k]?=!(.own acc))
  (hs:∀x,foldedSetIterable i1 X.env x=pure x) (hs2:∀(b:Bk) x,foldedSetIterable iter (X.blk N' scope b).env x=pure x):aA X z (.ListComp cQ [#[t1,i1,f1,0],#[tg,iter,ifs,0]] scope pos) g (.new acc) (gE.take g1.length):=by
 obtain⟨wi,q,kk⟩:=lg hw ht1 ht hT1 hT hcp hacc;exact#[_,Ft B hc hN q (λb=>#[#[gB,jZ],yd,gB,jZ,dw]) hs hs2,kk]
theorem Hv(B:bf X.env.scope scope)(hc:X.calm=true)(hN:Names X.N N' scope k)(hw:dm X z t1 i1 g ao g1)(ht1:∀b:Bk,eG (X.blk N' scope b) z t1 T1)(ht:∀b:Bk,eG (X.blk N' scope b) z tg T)(hT1:∀i∈T1.ix,g1.length<=i/\i<g1.length+k)(hT:∀i∈T.ix,g1.length<=i/\i<g1.length+k)
  (hcp:gH T1 (λg b g'=>∀bk:Bk,cT (X.blk N' scope bk) z f1 g b g') (CG X z N' scope tg iter cQ ifs T (g1.length+k)) ao (gC k g1) gE) (hacc:gE[g1.length+k]?=!(.own acc))
  (Lp:X.N.Nodup) (hy:X.N[i]?=!y) (hl:X.env.scope.names.lookup y=some .local) (hb:i∉z.bor) (hi:i<(gE.take g1.length).length)
  (hsw:swapsWith (.ListComp cQ [#[t1,i1,f1,0],#[tg,iter,ifs,0]] scope pos) (!(.Name y py)) eO.line X.env=pure true)
  (hs:∀x,foldedSetIterable i1 X.env x=pure x) (hs2:∀(b:Bk) x,foldedSetIterable iter (X.blk N' scope b).env x=pure x):eF X z (.Assign [.Name y py] (.ListComp cQ [#[t1,i1,f1,0],#[tg,iter,ifs,0]] scope pos) eO) g .nx ((gE.take g1.length).set i (.own acc)):=by
 obtain⟨wi,q,kk⟩:=lg hw ht1 ht hT1 hT hcp hacc;refine#[_,Fv B hc hN q (λb=>#[#[gB,jZ],yd,gB,jZ,dw]) Lp hy hl hsw hs hs2,λY As M H E s kE=>kk Y As M H _ s λv H' aB M' s' st R=>?_]
 obtain⟨a,xs,rfl,hm,hA,h0,ha,rr⟩:=R;obtain⟨aL,s2⟩:=s'.jV hb hi hm hA h0 ha rr;exact kE _ aL M' H' s2 st
end
inductive Ny(z:Z)(As M:List Addr)(H:Hp):List Addr->List (List D)->Prop
 |nil:Ny z As M H [] []
 |cons {p:Addr}{as:List Addr}{xs:List V}{l:List D}{ll:List (List D)}:p∈M->p∉As->z.H0 p=none->H p=!(.lst xs)->aD z.K M H l xs->Ny z As M H as ll->Ny z As M H (p::as) (l::ll)
def Rows(z:Z)(g:G)(iy:Nat)(M0:List Addr)(H0:Hp)(ll:List (List D))(Y:Sg)(H:Hp):Prop:=
 ∃As M a as,S z g Y As M H/\aq M0 H0 M H/\Y[iy]?=!(!(.ref a))/\a∈M/\a∉As/\z.H0 a=none/\H a=!(.lst (as.map .ref))/\a∉as/\as.Nodup/\Ny z As M H as ll
end Ev
namespace HT
open PySem PyProof.Rows
end HT
namespace Ev
open L2
mutual
noncomputable def iB:D->Bool
 |.tup l=>eK l
 |.lst l=>eK l
 |.fix l=>eK l
 |.uo ..=>false
 |_=>true
noncomputable def eK:List D->Bool
 | []=>true
 |d::l=>iB d&&eK l
end
def iR:G->Bool
 | []=>true
 |.no::g=>iR g
 |.dat d::g=>iB d&&iR g
 |.own l::g=>eK l&&iR g
theorem vD:∀{l m:List D},eK l=true->eK m=true->eK (l++m)=true
 | [],_,_,h=>h
 |d::l,_,h,k=>by
  have h:(iB d&&eK l)=true:=h;rw[dA]at h;show (iB d&&eK (l++_))=true;rw[h.1,vD h.2 k];rfl
section
variable{K:Frag}{M:List Addr}{H:Hp}{q:Addr}{dO:List (List Key×V)}{u:HO}
theorem Rep.Hw(hq:H q=!(.dT dO))(r:Rep K M H d v):iB d=true->Rep K M (upd H q u) d v:=by
 have ne:∀{b:Addr}{o:HO},H b=!o->(∀l,o≠.dT l)->upd H q u b=!o:=λ{b o} e n=>by
  rw[au (λz=>by rw[z,hq]at e;cases e;exact n _ rfl)];exact e
 refine Rep.rec (motive_2:=λds vs _=>eK ds=true->aD K M (upd H q u) ds vs) (λ_=>.non) (λb _=>.bl b) (λi _=>.int i) (λx _=>.str x) (λt _ ih h=>?_) (λt _ ih h=>?_) (λt _ ih h=>?_) (λn r _=>.emp n (ne r λ_ e=>nomatch e)) (λx n r _=>.lG x n (ne r λ_ e=>nomatch e)) (λ_ _ _ _ _ h=>Bool.noConfusion (show false=true from h)) (λ_=>.nil) (λ_ _ i1 i2 h=>?_) r
 .
  rcases t with ⟨n,t |⟨o,t⟩⟩ |t
  . exact .tup (.inl #[n,.inl (ne t λ_ e=>nomatch e)]) (ih h)
  . exact .tup (.inl #[n,.inr #[o,ne t λ_ e=>nomatch e]]) (ih h)
  . exact .tup (.inr t) (ih h)
 . exact .lst #[t.1,ne t.2 λ_ e=>nomatch e] (ih h)
 .
  rcases t with ⟨n,o,t⟩ |t
  . exact .fix (.inl #[n,o,ne t λ_ e=>nomatch e]) (ih h)
  . exact .fix (.inr t) (ih h)
 . have h:(iB _&&eK _)=true:=h;rw[dA]at h;exact .cons (i1 h.1) (i2 h.2)
theorem aD.Hw(hq:H q=!(.dT dO)):∀{ds:List D}{vs:List V},aD K M H ds vs->eK ds=true->aD K M (upd H q u) ds vs
 | [],_,r,_=>by cases r;exact .nil
 |d::ds,_,r,h=>by
  have h:(iB d&&eK ds)=true:=h;rw[dA]at h;cases r with
  |cons a b=>exact .cons (a.Hw hq h.1) (b.Hw hq h.2)
theorem Slots.Hw(hq:H q=!(.dT dO))(s:Slots K M H g Y As):iR g=true->Slots K M (upd H q u) g Y As:=by
 induction s with
 |nil=>exact λ_=>.nil
 |no _ ih=>exact λh=>.no (ih h)
 |@dat g Y As v d r _ ih=>intro h;have h:(iB d&&iR g)=true:=h;rw[dA]at h;exact .dat (r.Hw hq h.1) (ih h.2)
 |@own g Y As a xs ds e r _ ih=>intro h;have h:(eK ds&&iR g)=true:=h;rw[dA]at h;exact .own (by rw[au (λz=>by rw[z,hq]at e;cases e)];exact e) (aD.Hw hq r h.1) (ih h.2)
end
section
variable{z:Z}{g:G}{Y:Sg}{As M:List Addr}{H:Hp}
theorem S.Hw(s:S z g Y As M H)(hq:H q=!(.dT dO))(hn:q∉M)(h0:z.H0 q=none)(h:iR g=true):S z g Y As M (upd H q u) where
 sl:=s.sl.Hw hq h
 nd:=s.nd
 sub:=s.sub
 own:=s.own
 live:=λm hm=>by
  rcases s.live m hm with ⟨o,e,gr⟩ |e
  . exact .inl #[o,by rw[au (λz=>hn (by rw[<- z];exact hm))];exact e,gr]
  . exact .inr e
 keep:=λb o e hb ht=>by rw[au (λz=>by rw[z,h0]at e;cases e)];exact s.keep b o e hb ht
 eS:=s.eS
 m0:=s.m0
 bm:=s.bm
 fH:=s.fH
 tab:=λp hp=>(s.tab p hp).keep λb o e n=>by rw[au (λz=>by rw[z,hq]at e;cases e;exact n trivial)];exact e
 tm:=s.tm
 tt:=s.tt
noncomputable def gD(k:Nat)(g:G):G:=g++List.replicate (k+1) .no
theorem vE{K:Frag}:∀τ:Sg,Slots K M H (List.replicate τ.length .no) τ []
 | []=>.nil
 |_::τ=>.no (vE τ)
theorem S.wide(s:S z g Y As M H)(τ:Sg):S z (g++List.replicate τ.length .no) (Y++τ) As M H:=by
 have q:=s.sl.append (vE τ);rw[oD]at q;have hl:=s.sl.length;refine#[q,s.nd,s.sub,λi b l e1 e2=>?_,s.live,s.keep,s.eS,s.m0,s.bm,λp hp=>?_,s.tab,s.tm,s.tt]
 .
  rcases AU i g.length with hi |hi
  . rw[eD hi]at e1;rw[eD ⋯]at e2;exact s.own i b l e1 e2
  . rw[eR hi]at e1;have:=hZ e1;rw[w8]at this;exact absurd this.2 ⋯
 . obtain⟨q1,l,q2⟩:=s.fH p hp;exact#[by rw[eD (c8.mp q1).1];exact q1,l,by rw[eD (c8.mp q2).1];exact q2]
theorem S.narrow(s:S z gb (Y++τ) As M H)(hz:∀p∈z.lent,p.1<Y.length):∃A1,S z (gb.take Y.length) Y A1 M H/\∀a∈A1,a∈As:=by
 have hl:=s.sl.length;rw[eP]at hl;have q:=s.sl;rw[<- wE Y.length gb]at q;obtain⟨σ1,σ2,A1,A2,h1,h2,h3,h4⟩:=q.split;have l1:=h3.length;rw[t8,Nat.min_eq_left ⋯]at l1;obtain⟨rfl,rfl⟩:=List.append_inj h1 l1;subst h2;have tk:∀(j:Nat) (o:Slot),(gb.take Y.length)[j]?=!o->gb[j]?=!o/\j<Y.length:=λj o e=>by
  have hj:=(c8.mp e).1;rw[t8]at hj;have hj':=eM hj (Nat.min_le_left _ _);rw[sK hj']at e;exact#[e,hj']
 refine#[A1,#[h3,(AI.mp s.nd).1,λb hb=>s.sub b (t7 _ hb),λj b l c1 c2=>?_,s.live,s.keep,s.eS,s.m0,s.bm,λp hp=>?_,s.tab,s.tm,s.tt],λa ha=>t7 _ ha]
 . obtain⟨c3,c4⟩:=tk j _ c1;exact s.own j b l c3 (by rw[eD c4];exact c2)
 . obtain⟨c1,l,c2⟩:=s.fH p hp;have uW:=hz p hp;rw[eD uW]at c1;exact#[c1,l,by rw[sK uW];exact c2]
end
section
variable{X:Cx}{z:Z}{tg iter kx vx:Expr}{scope:Scope}{pos:Pos}{N':List Str}{k:Nat}{T:Tg}{ao:List D}{g g1 gE:G}{ks: ~~~5}{ds:List D}
def yf(X:Cx)(z:Z)(e:Expr)(g:G)(ns: ~~~0)(g':G):Prop:=
 ∃t,PE X e t/\∀Y As M H (Q:VK),S z g Y As M H->(∀a H' aB M',S z g' Y aB M' H'->aq M H M' H'->a∉M'->H' a=!(.tup (ns.map V.int))->Q (.ref a) H')->t Y H Q
theorem Vh{x1}(h:bO X z es g rs g')(hd:sG rs=!l)(hi:aQ l=!ns)(hl:l.length<=16777216):yf X z (.Tuple es x1 pos) g ns g':=by
 obtain⟨t,q,k⟩:=h;refine#[_,xu q,λY As M H Q s kk=>k Y As M H _ s λvs H' aB M' s' st R=>?_]
 have rr:=sH R hd;have e:=bB rr hi;subst e;exact#[by rw[<- rr.length];exact gw hl,λp hp=>kk p _ aB M' (s'.laid hp) (st.trans (aq.laid hp)) (s'.fresh hp) az]
inductive sU(T:Tg)(EvK:G->~~~0->G->Prop)(EvV:G->D->G->Prop):List D->List (~~~0)->List D->G->List (~~~0)->List D->G->Prop
 |nil {ks: ~~~5}{ds:List D}{g:G}:sU T EvK EvV [] ks ds g ks ds g
 |cons {d x:D}{rest ds ds':List D}{ks ks': ~~~5}{ns: ~~~0}{g g1 g2 g3 g':G}:T.set d g=!g1->EvK g1 ns g2->EvV g2 x g3->ns∉ks->ks.length<16777216->iR g3=true->iB x=true->
   sU T EvK EvV rest (ks++[ns]) (ds++[x]) g3 ks' ds' g'->sU T EvK EvV (d::rest) ks ds g ks' ds' g'
theorem Nz{ns: ~~~0}{ks: ~~~5}{vs:List V}(h:ns∉ks):ns.map Sum.inl∉(((ks.map (List.map Sum.inl)).zip vs).map (·.1):List (List Key)):=λhm=>by
 obtain⟨p,p1,p2⟩:=i5.mp hm;obtain⟨n,n1,n2⟩:=i5.mp (Bn p1).1;rw[p2]at n2;exact h ((List.map_inj_right λa b e=>Sum.inl.inj e).mp n2▸n1)
theorem vF(ns: ~~~0):(ns.map (Sum.inl:Int->Key)).map kV=ns.map V.int:=by rw[List.map_map];rfl
theorem yg(hw:dm X z tg iter g ao g1)(ht:∀b:Bk,eG (X.blk N' scope b) z tg T)(hT:∀i∈T.ix,g1.length<=i/\i<g1.length+k)
  (hcp:sU T (λg ns g'=>∀bk:Bk,yf (X.blk N' scope bk) z kx g ns g') (λg d g'=>∀bk:Bk,aA (X.blk N' scope bk) z vx g (.dat d) g') ao [] [] (gD k g1) ks ds gE) :
  ∃wi,PI X tg iter wi/\∀Y As M H Q,S z g Y As M H->Kn z (gE.take g1.length) Y M H (.dat (.uo ks ds)) Q->sF (.dT []) X k wi (λb=>BG (X.blk N' scope b) tg) (λ_=>Fo) (λD b=>S9 D (BJ (X.blk N' scope b) kx) (BJ (X.blk N' scope b) vx)) Y H Q:=by
 obtain⟨wi,q,kw⟩:=hw;refine#[wi,q,λY As M H Q s kq=>kw Y As M H _ s λJ H1 aI M1 s1 cN hJ D hD=>?_]
 have hl:=s1.sl.length;have hz:∀p∈z.lent,p.1<Y.length:=λp hp=>(c8.mp (s1.fH p hp).1).1
 have Ed:∀i∈T.ix,Y.length<=i:=λi hi=>by rw[<- hl];exact (hT i hi).1
 have h0:=s1.bY hD;have sb:=(s1.laid (o:=Fz [] []) hD).wide (List.replicate k none++[!(V.ref D)]);rw[show (List.replicate k (none:Option V)++[!(V.ref D)]).length=k+1 by simp]at sb
 have pass:∀{M2:List Addr}{H2:Hp}{u:HO},aq M1 H1 M2 H2->aq M1 H1 M2 (upd H2 D u):=λst b o e n=>#[by rw[au (aE e hD)];exact (st b o e n).1,(st b o e n).2]
 refine#[λi m σ' H'=>i+m=ao.length/\∃gb Ab Mb τ ka da vs,S z gb σ' Ab Mb H'/\aq M1 H1 Mb H'/\σ'=Y++τ/\D∉Mb/\H' D=!(Fz ka vs)/\ka.length=vs.length/\aD z.K Mb H' da vs/\eK da=true/\
   sU T (λg ns g'=>∀bk:Bk,yf (X.blk N' scope bk) z kx g ns g') (λg d g'=>∀bk:Bk,aA (X.blk N' scope bk) z vx g (.dat d) g') (ao.drop i) ka da gb ks ds gE,
  #[ao.length,by lia,_,_,_,_,[],[],[],sb,aq.laid hD,rfl,s1.fresh hD,az,rfl,.nil,rfl,hcp],?_]
 rintro i m σ' H' ⟨him,gb,Ab,Mb,τ,ka,da,vs,s2,aG,rfl,hm,hH,hkl,rr,nda,cp⟩;obtain⟨hgo,hstop⟩:=hJ Mb H' aG;cases e:ao[i]? with
 |none=>
  have hi:i=ao.length:=by have:=AZ.mp e;lia
  subst hi;rw[List.drop_length]at cp;cases cp;refine .inl #[hstop,?_];obtain⟨A1,s3,n3⟩:=s2.narrow hz;rw[<- hl]at s3;exact kq _ H' A1 Mb s3 (cN.trans aG) (.uo hm hH hkl rr)
 |some d=>
  obtain⟨go,yl⟩:=hgo i d e;rw[drop_cons e]at cp;have hi:=(c8.mp e).1;refine .inr #[go,λσ' H'=>∃gb Ab Mb τ ka da vs,S z gb σ' Ab Mb H'/\aq M1 H1 Mb H'/\σ'=Y++τ/\D∉Mb/\H' D=!(Fz ka vs)/\ka.length=vs.length/\aD z.K Mb H' da vs/\eK da=true/\
   sU T (λg ns g'=>∀bk:Bk,yf (X.blk N' scope bk) z kx g ns g') (λg d g'=>∀bk:Bk,aA (X.blk N' scope bk) z vx g (.dat d) g') (ao.drop (i+1)) ka da gb ks ds gE,
   λJ8 J9 hN=>#[m - 1,by lia,by lia,hN],λx H2 hx bk _=>?_]
  obtain⟨s3,cY,rx⟩:=yl x H2 hx z gb (Y++τ) Ab rfl s2;obtain⟨t,qt,kt⟩:=ht bk;cases cp with
  |cons e0 hk hv hn hz' ng nx rest=>
   refine#[t,qt,kt d gb _ e0 x _ Ab Mb H2 _ s3 rx λσ4 fT s4 ag=>?_]
   dsimp only[Fo];obtain⟨τ',rfl⟩:=cK ag Ed;obtain⟨t2,q2,k2⟩:=hk bk;obtain⟨t3,q3,k3⟩:=hv bk;refine#[t2,q2,k2 _ fT Mb H2 _ s4 λa H5 wU M5 s5 jT na ha=>#[t3,q3,k3 _ wU M5 H5 _ s5 λv H6 Uv M6 s6 Kc R6=>?_]]
   have stA:=(cY.trans jT).trans Kc;obtain⟨XX,nD6⟩:=stA D _ hH hm;refine#[_,a,_,rfl,XX,by rw[vF];exact (Kc a _ ha na).1,Nz hn,?_,_,Uv,M6,τ',_,_,vs++[v],s6.Hw XX nD6 h0 ng,pass ((aG.trans stA)),rfl,nD6,?_,?_,?_,vD nda ?_,rest]
   . rw[List.length_zip,eA,<- hkl,Nat.min_self];exact hz'
   .
    rw[az];unfold Fz;rw[At,List.zip_append (by rw[eA];exact hkl)]
    rfl
   . rw[eP,eP,hkl];rfl
   . exact aD.append (aD.Hw XX (rr.stay stA) nda) (.cons (R6.Hw XX nx) .nil)
   . show (iB _&&eK [])=true;rw[nx];rfl
theorem Hx(B:bf X.env.scope scope)(hc:X.calm=true)(hu:X.A.units<cLine)(hN:Names X.N N' scope k)(hw:dm X z tg iter g ao g1)(ht:∀b:Bk,eG (X.blk N' scope b) z tg T)(hT:∀i∈T.ix,g1.length<=i/\i<g1.length+k)
  (hcp:sU T (λg ns g'=>∀bk:Bk,yf (X.blk N' scope bk) z kx g ns g') (λg d g'=>∀bk:Bk,aA (X.blk N' scope bk) z vx g (.dat d) g') ao [] [] (gD k g1) ks ds gE)
  (hs:∀x,foldedSetIterable iter X.env x=pure x):aA X z (.DictComp kx vx [#[tg,iter,[],0]] scope pos) g (.dat (.uo ks ds)) (gE.take g1.length):=by
 obtain⟨wi,q,kk⟩:=yg hw ht hT hcp;exact#[_,Fw B hc hu hN q (λb=>#[gB,uM,dw,dw]) hs,kk]
noncomputable def Q7: ~~~5->List D->~~~0->Option D
 |k::ks,d::ds,n=>if k=n then some d else Q7 ks ds n
 |_,_,_=>none
theorem vG{K:Frag}{M:List Addr}{H:Hp}{n: ~~~0}{d:D}:∀{ks: ~~~5}{ds:List D}{vs:List V},aD K M H ds vs->Q7 ks ds n=!d->∃v,atK ((ks.map (List.map Sum.inl)).zip vs) (n.map Sum.inl)=!v/\Rep K M H d v
 | [],_,_,_,h=>by symm
 |_::_,[],_,_,h=>by symm
 |k::ks,x::ds,_,r,h=>by
  cases r with
  |cons a b=>
   unfold Q7 at h;unfold atK;rw[List.map_cons,tJ,C4];by_cases e:k=n
   . rw[hV e]at h;symm;subst e;exact#[_,by rw[kS (show (k.map Sum.inl,_).1=k.map (Sum.inl:Int->Key)from rfl)];rfl,a]
   .
    rw[fN e]at h;obtain⟨v,v1,v2⟩:=vG b h;refine#[v,?_,v2];rw[show decide ((k.map (Sum.inl:Int->Key),_).1=n.map Sum.inl)=false from nK λq=>e ((List.map_inj_right λa b e=>Sum.inl.inj e).mp q)]
    exact v1
theorem Vi{l:List D}{n: ~~~0}{d:D}(hK:z.K=X.K)(hu:X.A.units+1<cLine)(hi:aQ l=!n)(h:Q7 ks ds n=!d):XH X z (.uo ks ds) (.tup l) (.dat d):=by
 refine#[_,Lq hu,λg Y As M H v1 v2 Q s q1 q2 kk=>?_]
 obtain⟨b,ys,rfl,hb,rb⟩:=q2.tup;have e:=bB rb hi;subst e;cases q1 with
 |of q1=>cases q1 with
  |uo na ha hl rr=>obtain⟨v,e1,e2⟩:=vG rr h;exact#[_,b,_,n.map Sum.inl,v,rfl,rfl,ha,by rw[vF];exact hK▸hb.sq,e1,kk _ H As M s (aq.refl _ _) e2]
end
section
variable{X:Cx}{z:Z}{g g1:G}{pos:Pos}
def Z6:TIp:=λx y H Q=>∃l b xs zs,x=.ref l/\y=.ref b/\H l=!(.lst xs)/\H b=!(.lst zs)/\xs.length+zs.length<=sizeLine/\Q (.ref l) (upd H l (.lst (xs++zs)))
theorem Vj:PIp X .Add Z6:=by
 intro ah s Y H x y v u Q I r1 r2 h;obtain⟨l,b,xs,zs,rfl,rfl,hH,hB,hz,q⟩:=h;cases r1;cases r2;obtain⟨z,its,n,r,hl,e⟩:=I.sC hH;obtain⟨z2,iE,n2,r2,hl2,e2⟩:=I.sC hB;have hsz:its.toArray.size+iE.toArray.size<=sizeLine:=by rw[b8,b8];lia
 have uK : ¬ ((not its.toArray.isEmpty)&&Builtin.List.listTooLong (its.toArray.size+iE.toArray.size))=true:=by rw[mS hsz,Cc];exact mM
 have ta:s.TypeIs (.ref l) "list" :=#[_,e,rfl];have tb:s.TypeIs (.ref b) "list" :=#[_,e2,rfl];have lk:=PySem.F.slot_list_iadd.lookup;have Vk:fillsInplaceSlot (.type "list") "add" (Operator.Add==.Add)=pure false:=by
  show (typeLookup (.type "list") (dunderI "add") >>= λfi=>pure (fi.isSome&&(not (isSeqSlot fi))))=pure false
  rfl
 have hsi:=PySem.seqSlot_of lk (by decide +kernel)
 refine hU (aS (A7 ta (aS (B8 Vk ?_))));refine aS (wpAny_binaryOp1_none ta tb noFill_list_add ?_);refine aS (B8 hsi (aS (A9 ?_)));refine A8 PySem.F.slot_list_iadd ta PySem.F.entry_list_iadd (PySem.F.args_list_iadd_2 _ _) (AutoSeq1.list___iadd___list_list_0 l its.toArray n b iE.toArray n2 uK (by rw[b8];lia) ⋯) #[e,e2,?_]
 refine#[.ref l,_,I.Ld hH e ⋯ (r.append r2) ?_,rfl,q];rw[eP];lia
theorem NB(hn:sI X x i)(h:aA X z e g (.dat (.lst m)) g1)(hg:g[i]?=!(.own l0))(uq:g1[i]?=!(.own l))(hl:l.length+m.length<=16777216) :
  eF X z (.AugAssign (.Name x pos') .Add e pos) g .nx (g1.set i (.own (l++m))):=by
 obtain⟨t,q,k⟩:=h;refine#[_,Ey hn.nd hn.ix hn.lc q Vj hn.fn,λY As M H E s kk=>?_]
 obtain⟨a,xs,e1,e2,e3,e4⟩:=s.sl.at hg;refine#[.ref a,e1,k Y As M H _ s λv H' aB M' s' st R=>?_]
 obtain⟨b,ys,f1,f2,f3,f4⟩:=s'.sl.at uq;rw[e1]at f1;injection f1 with f1;injection f1 with f1;injection f1 with f1;subst f1;cases R with
 |@lst _ c zs hc rr=>
  refine#[a,c,ys,zs,rfl,rfl,f3,hc.2,by rw[<- f4.length,<- rr.length];exact hl,?_]
  obtain⟨s2,aG⟩:=s'.write uq e1 (f4.append rr);have es:Y.set i (!(V.ref a))=Y:=by
   apply List.ext_getElem?;intro j;by_cases hj:i=j
   . subst hj;rw[i3 (c8.mp e1).1,e1]
   . rw[eI hj]
  rw[es];exact kk _ aB M' _ s2 (st.trans aG)
end
open L2 PySem.W SeqAt
open L2 PySem.W SeqAt
open L2 PySem.W SeqAt
end Ev
namespace Sb
open PySem
def Ko(xs:Array Nat):Prop:=∀i k,i<k->k<xs.size->xs.getD i 0<xs.getD k 0
theorem getD_in{xs:Array Nat}{i d:Nat}(h:i<xs.size):xs.getD i d=xs.getD i 0:=by simp[Array.getD,h]
theorem nW{xs:Array Nat}(hr:Ko xs)(j:Nat):∀f lo hi,lo<=hi->hi<=xs.size->hi - lo<=f->(∀i,i<lo->xs.getD i 0<j)->(∀i,hi<=i->i<xs.size->j<=xs.getD i 0)->
  SetTable.below.go xs j f lo hi<=xs.size/\(∀i,i<SetTable.below.go xs j f lo hi->xs.getD i 0<j)/\(∀i,SetTable.below.go xs j f lo hi<=i->i<xs.size->j<=xs.getD i 0)
 | 0,lo,hi,h1,h2,h3,h4,h5=>by
  obtain rfl:lo=hi:=by lia
  exact#[h2,h4,h5]
 |f+1,lo,hi,h1,h2,h3,h4,h5=>by
  unfold SetTable.below.go;by_cases hlt:lo<hi
  .
   rw[hV hlt];have hm1:lo<=(lo+hi) / 2:=by lia
   have hm2:(lo+hi) / 2<hi:=by lia
   dsimp only;rw[getD_in (show (lo+hi) / 2<xs.size by lia)]
   by_cases hc:xs.getD ((lo+hi) / 2) 0<j
   .
    rw[hV hc];refine nW hr j f _ _ ⋯ h2 ⋯ (λi hi'=>?_) h5
    by_cases e:i=(lo+hi) / 2
    . rw[e];exact hc
    . exact Nat.lt_trans (hr i ((lo+hi) / 2) ⋯ ⋯) hc
   .
    rw[fN hc];refine nW hr j f _ _ hm1 ⋯ ⋯ h4 λi hi1 hi2=>?_
    by_cases e:i=(lo+hi) / 2
    . rw[e];lia
    . have:=hr ((lo+hi) / 2) i ⋯ hi2;lia
  .
   rw[fN hlt];obtain rfl:lo=hi:=by lia
   exact#[h2,h4,h5]
theorem vH(hr:Ko xs)(j:Nat):SetTable.below xs j<=xs.size/\(∀i,i<SetTable.below xs j->xs.getD i 0<j)/\(∀i,SetTable.below xs j<=i->i<xs.size->j<=xs.getD i 0):=
 nW hr j xs.size 0 xs.size (tP _) (dE _) ⋯ (λi h=>absurd h (v6 i)) λi h1 h2=>absurd h2 ⋯
theorem yh{t:SetTable}(hr:Ko t.place)(hd:t.dummies = ([].toArray)){j:Nat}(h:∀i,i<t.place.size->t.place.getD i 0≠j):t.slot j=.empty:=by
 unfold SetTable.slot;dsimp only;have h1:(t.place[SetTable.below t.place j]?==!j)=false:=by
  cases e:t.place[SetTable.below t.place j]? with
  |none=>rfl
  |some x=>
   obtain⟨hl,e⟩:=pV.mp e;have:=h _ hl;have e2:t.place.getD (SetTable.below t.place j) 0=x:=by simp[Array.getD,hl,e]
   rw[e2]at this;simpa using this
 have h2:SetTable.has t.dummies j=false:=by unfold SetTable.has;rw[hd];rfl
 rw[h1,h2];rfl
structure nX(o:Obj)(es:Array (Int×Value))(ep:Nat)(t:SetTable):Prop where
 ex:o.ExactSet
 data:o.data=.set es ep t
 fits:t.fits es.size=true
 ris:Ko t.place
 plain:t.plain=true
theorem nX.sz{o:Obj}{es:Array (Int×Value)}{ep:Nat}{t:SetTable}(S:nX o es ep t):t.place.size=es.size:=by have h:=S.fits;unfold SetTable.fits at h;exact beq_iff_eq.mp (dA _ _▸h).1
end Sb
namespace Sb
open PySem
theorem zI{α:Type}:∀(l:List α) (i:Nat) (h:i<l.length),(l[i]::l.eraseIdx i).Perm l
 | [],_,h=>absurd h (v6 _)
 |a::l,0,_=>.refl _
 |a::l,i+1,h=>by
  have h':i<l.length:=by simpa using h
  have:((a::l)[i+1]::(a::l).eraseIdx (i+1))=l[i]::a::l.eraseIdx i:=rfl;exact (List.Perm.swap a l[i] _).trans (.cons a (zI l i h'))
theorem zJ{α:Type}(next:Nat->Nat):∀(n k:Nat) (l:List α) (out:Array α),l.length=n->(pickOrder.go next n k l out).toList.Perm (out.toList++l)
 | 0,k,l,out,h=>by
  cases l with
  |nil=>simp[pickOrder.go]
  |cons _ _=>simp at h
 |n+1,k,l,out,h=>by
  have hl:next k % l.length<l.length:=Nat.mod_lt _ ⋯;unfold pickOrder.go;rw[nS hl];refine (zJ next n (k+1) _ _ (by rw[List.length_eraseIdx_of_lt hl];lia)).trans ?_
  rw[Array.toList_push,y0];refine List.Perm.append_left _ ?_;exact zI _ _ hl
theorem CJ{α:Type}(next:Nat->Nat)(xs:Array α):(pickOrder next xs).toList.Perm xs.toList:=by have:=zJ next xs.size 0 xs.toList ([].toArray) ⋯;simpa [pickOrder]using this
section
variable{prog:Program}{w:World}{A:Around}{E:Value->Shared->Prop}{s:Shared}
def dX(t:SetTable):Nat->Nat
 | 0=>0
 |i+1=>t.place.getD i 0+1
theorem below_at{t:SetTable}(r:Ko t.place){n:Nat}(hz:t.place.size=n){i:Nat}(hi:i<=n):SetTable.below t.place (dX t i)=i:=by
 obtain⟨b1,b2,b3⟩:=vH r (dX t i);rcases Nat.lt_trichotomy (SetTable.below t.place (dX t i)) i with h |h |h
 .
  cases i with
  |zero=>lia
  |succ m=>have:=b3 m ⋯ ⋯;simp only[dX]at this;lia
 . exact h
 .
  have:=b2 i h;cases i with
  |zero=>simp only[dX]at this;lia
  |succ m=>have r:=r m (m+1) ⋯ ⋯;simp only[dX]at this;lia
theorem NC(a:Addr)(slot given ep0:Nat):setNext a slot given ep0=(do
  let (es,epoch,t) <- setState a
  if <- setsByText then
   if epoch != ep0 then unsupported "set_iterator.__next__:elements-changed"
   return ((<- setWalk a)[given]?).map λe=>(e.2,slot)
  if (not t.plain)&&es.size > 1 then unsupported "set_iterator.__next__:the-table-is-plain-no-more"
  (do if (not t.led)&&(not es.isEmpty) then unsupported "set:maker-not-led":Sem Unit)
  let i:=SetTable.below t.place slot
  return match es[i]?,t.place[i]? with
   |!(_,x),!j=>!(x,j+1)
   |_,_=>none):=rfl
theorem Hy(hw:w.params.followText "set-order"=false)
  (ho:s.heap.get? a=!o) (S:nX o es ep t) (ld:t.led=true) (hi:i<=es.size) (q:Q (es[i]?.map λe=>(e.2,dX t (i+1))) s):wpAny (model prog w) A (setNext a (dX t i) g ep0) Q E s:=by
 rw[NC];refine aS (sR ho S.data S.fits ?_);refine aS (aS (AC (a8 ?_)));dsimp only[model];rw[hw,S.plain,ld];rw[below_at S.ris S.sz hi];have e:(match es[i]?,t.place[i]? with
   |!(_,x),!j=>!(x,j+1)
   |_,_=>none)=es[i]?.map λe=>(e.2,dX t (i+1)):=by
  by_cases h:i<es.size
  .
   have h2:i<t.place.size:=by rw[S.sz];exact h
   rw[rV h];simp[dX,h2]
  . rw[Array.getElem?_eq_none ⋯];rfl
 first
  |exact aS (a8 (a8 (by rw[e];exact q)))
  |exact a8 (by rw[e];exact q)
theorem CK(hw:w.params.followText "set-order"=true)
  (ho:s.heap.get? a=!o) (S:nX o es ep t) (q:Q ((pickOrder (w.params.setOrder a ep) es)[g]?.map λe=>(e.2,i)) s):wpAny (model prog w) A (setNext a i g ep) Q E s:=by
 refine aS (sR ho S.data S.fits ?_);refine aS (aS (AC (a8 ?_)));dsimp only[model];rw[hw];simp only[bne_self_eq_false];refine aS (aS (sR ho S.data S.fits ?_));refine aS (aS (AC (a8 ?_)));rw[hw];exact aS (AC (a8 (a8 q)))
end
end Sb
namespace Sb
open PySem
theorem Hz:Manifest.owners.lookup (String.ofList ['r','o','t','a','r','e','t','i','_','t','e','s'].reverse)=!Manifest.sig_set_iterator:=by kernel_rfl
theorem bJ:Slot "set_iterator" "__next__" "set_iterator.__next__" :=
 .of (owner:= "set_iterator") (n:= "__next__") (by rw[typeLookup_type];kernel_rfl) (by decide +kernel) (by decide +kernel) (by decide +kernel)
  (by first |exact .inl (by decide +kernel) |exact .inr (by decide +kernel)) (by rw[isSubtype_type];kernel_rfl)
theorem iG:entryFor table "set_iterator.__next__"=some Builtin.«set_iterator.__next__»:=entryFor_of_tree (by kernel_rfl)
theorem jE(a:Value):argsOk "set_iterator.__next__" #[[a],[]]:=by unfold argsOk;rw[signature?_of (n:=['_','_','t','x','e','n','_','_']) (by kernel_rfl) Hz];kernel_rfl
theorem jF:Slot "set_iterator" "__iter__" "set_iterator.__iter__" :=
 .of (owner:= "set_iterator") (n:= "__iter__") (by rw[typeLookup_type];kernel_rfl) (by decide +kernel) (by decide +kernel) (by decide +kernel)
  (by first |exact .inl (by decide +kernel) |exact .inr (by decide +kernel)) (by rw[isSubtype_type];kernel_rfl)
theorem pM:entryFor table "set_iterator.__iter__"=some Builtin.«dict_keyiterator.__iter__»:=
 entryFor_alias (id':= "dict_keyiterator.__iter__") (by kernel_rfl) (by first |rfl |decide +kernel | (unfold String.splitOn;simp +decide [String.splitOnAux])) (by decide +kernel) (by kernel_rfl)
theorem sV(a:Value):argsOk "set_iterator.__iter__" #[[a],[]]:=by unfold argsOk;rw[signature?_of (n:=['_','_','r','e','t','i','_','_']) (by kernel_rfl) Hz];kernel_rfl
theorem nY:entryFor table "set.__iter__"=some Builtin.«frozenset.__iter__»:=
 entryFor_alias (id':= "frozenset.__iter__") (by kernel_rfl) (by first |rfl |decide +kernel | (unfold String.splitOn;simp +decide [String.splitOnAux])) (by decide +kernel) (by kernel_rfl)
section
variable{prog:Program}{w:World}{A:Around}{E:Value->Shared->Prop}{s:Shared}
def yi(h:Heap)(I a:Addr)(sl i n ep:Nat):Prop:=
 ∃o,h.get? I=!o/\o.cls=.type "set_iterator" /\o.data=.fields ([.int sl 0,.int i 0,.ref a,.int n 0,.int ep 0].toArray)
theorem yi.typeIs(x:yi s.heap I a sl i n ep):s.TypeIs (.ref I) "set_iterator" :=let #[o,ho,hc,_]:=x;#[o,ho,hc]
def dY(w:World)(a:Addr)(ep:Nat)(es:Array (Int×Value)):Array (Int×Value):=if w.params.followText "set-order"=true then pickOrder (w.params.setOrder a ep) es else es
def gI(w:World)(t:SetTable)(i:Nat):Nat:=if w.params.followText "set-order"=true then 0 else dX t i
theorem nZ(w:World)(a:Addr)(ep:Nat)(es:Array (Int×Value)):(dY w a ep es).toList.Perm es.toList:=by
 unfold dY;split
 . exact CJ _ _
 . exact .refl _
theorem fJ(w:World)(a:Addr)(ep:Nat)(es:Array (Int×Value)):(dY w a ep es).size=es.size:=by have:=(nZ w a ep es).length_eq;simpa using this
theorem n5
  (ho:s.heap.get? a=!o) (S:nX o es ep t) (ld:w.params.followText "set-order"=false->t.led=true) (hi:i<=es.size) (q:Q ((dY w a ep es)[i]?.map λe=>(e.2,gI w t (i+1))) s):wpAny (model prog w) A (setNext a (gI w t i) i ep) Q E s:=by
 unfold dY gI at *;cases hw:w.params.followText "set-order" with
 |true=>rw[hw]at q;exact CK hw ho S q
 |false=>rw[hw]at q;exact Hy hw ho S (ld hw) hi q
theorem next_item(hit:yi s.heap I a (gI w t i) i es.size ep)
  (hoa:s.heap.get? a=!o) (S:nX o es ep t) (ld:w.params.followText "set-order"=false->t.led=true) (hx:(dY w a ep es)[i]?=!e)
  (hQ:∀h',yi h' I a (gI w t (i+1)) (i+1) es.size ep->Heap.SameBut I s.heap h'->Q (!e.2) { s with heap:=h'}) :
  wpAny (model prog w) A (pyNext (.ref I)) Q E s:=by
 obtain⟨oi,XZ,hc,hd⟩:=id hit;have hlt:i<es.size:=by rw[<- fJ w a ep es];exact (pV.mp hx).1
 refine aS (BA (n4 hit.typeIs bJ
  (mE bJ hit.typeIs iG ?_ (jE _))))
 refine aS (a8 ?_);refine aS (wpAny_fieldsOf XZ hd ?_);refine aS (aS (sR hoa S.data S.fits (a8 ?_)));rw[fN ⋯];simp only[AJ];refine aS (n5 hoa S ld (Cf hlt) ?_);rw[hx];refine aS (sT XZ hd ⋯ ?_);have xO:=i9 (Obj.mapFields (·.setIfInBounds 0 (rawInt (gI w t (i+1):Nat)))) XZ (o4 (nE hd _));have hd1:=nE hd (·.setIfInBounds 0 (rawInt (gI w t (i+1):Nat)));refine aS (sT xO hd1 ⋯ (a8 #[_,rfl,a8 (hQ _ ?_ ((o5 ..).trans (o5 ..)))]));exact#[_,i9 _ xO (o4 (nE hd1 _)),(AX ..).trans ((AX ..).trans hc),by
  rw[nE hd1];simp[rawInt]]
theorem next_end(hh:A.handled=none)(hit:yi s.heap I a (gI w t es.size) es.size es.size ep)
  (hoa:s.heap.get? a=!o) (S:nX o es ep t) (ld:w.params.followText "set-order"=false->t.led=true)
  (hQ:∀h',Heap.ExtBut I s.heap h'->Q none { s with heap:=h'}) :
  wpAny (model prog w) A (pyNext (.ref I)) Q E s:=by
 obtain⟨oi,XZ,hc,hd⟩:=id hit;have hx:(dY w a ep es)[es.size]?=none:=by rw[<- fJ w a ep es];simp
 refine aS (BA (n4 hit.typeIs bJ
  (mE bJ hit.typeIs iG ?_ (jE _))))
 refine aS (a8 ?_);refine aS (wpAny_fieldsOf XZ hd ?_);refine aS (aS (sR hoa S.data S.fits (a8 ?_)));rw[fN ⋯];simp only[AJ];refine aS (n5 hoa S ld (dE _) ?_);rw[hx];refine aS (sT XZ hd ⋯ ?_);refine aS ?_;refine aS (lS ?_ (by size_fits))
 refine aS (B8 (by first |rfl | (simp only[firstArgMember];rfl)) ?_)
 refine lS ?_ (by size_fits)
 refine aS (wpAny_handled ?_)
 first |rw[show A.in1.handled=none from hh] |rw[hh]
 refine aS (a8 (wpAny_throw ?_));refine aS (AD #[_,dC _ rfl,rfl] isSubtype_stop ?_);exact a8 (hQ _ (((o5 ..).extBut.push _).push _))
theorem CN(hit:yi s.heap I a sl i n ep)(h:Q (.ref I) s):wpAny (model prog w) A (pyIter (.ref I)) Q E s:=by refine wpAny_pyIter_slot hit.typeIs jF (mE jF hit.typeIs pM ?_ (sV _));exact a8 #[_,rfl, "set_iterator",_,hit.typeIs,bJ.lookup,h]
theorem CP{o:Obj}{es:Array (Int×Value)}{ep:Nat}{t:SetTable}(hh:A.handled=none)(I a:Addr)(kO:a≠I)(S:nX o es ep t)(ld:w.params.followText "set-order"=false->t.led=true) :
  Walks prog w A I [I,a] [I] es.size (λi v=>∃e,(dY w a ep es)[i]?=!e/\e.2=v) (λi h=>yi h I a (gI w t i) i es.size ep/\h.get? a=!o) where
 sub:=λb hb=>by simp at hb;simp[hb]
 frame:=λ_ _ _ st hk=>#[let #[o,ho,r]:=st.1;#[o,hk I ⋯ o ho,r],hk a ⋯ _ st.2]
 item:=λi s Q E hi st hQ=>by
  have hi':i<(dY w a ep es).size:=by rw[fJ];exact hi
  refine next_item st.1 st.2 S ld (rV hi') λh' vo hs'=>?_
  exact hQ _ h' s.toks #[_,rV hi',rfl] #[vo,hs'.extBut a o kO st.2] λb o hb e=>hs'.extBut b o (λh=>hb (by simp[h])) e
 done:=λs Q E st hQ=>next_end hh st.1 st.2 S ld λh' he'=>hQ h' s.toks λb o hb e=>he' b o (λh=>hb (by simp[h])) e
 self:=λ_ _ _ _ st hQ=>CN st.1 hQ
theorem HB(a:Addr):setDrawn a=(do
  let (es,_,t) <- setState a
  let Vl <- setsByText
  return (not Vl)&&((not t.plain)&&es.size > 1)):=rfl
theorem HD{a:Addr}{o:Obj}{es:Array (Int×Value)}{ep:Nat}{t:SetTable}{Q:Value->Shared->Prop}(ho:s.heap.get? a=!o)(S:nX o es ep t)
  (hQ:Q (.ref s⁻¹) { s with heap:=s.heap.push { cls:=.type "set_iterator",data:=.fields ([.int 0 0,.int 0 0,.ref a,.int es.size 0,.int ep 0].toArray)}}) :
  wpAny (model prog w) A (pyIter (.ref a)) Q E s:=by
 have hT:s.TypeIs (.ref a) "set" :=#[_,ho,S.ex.1];refine wpAny_pyIter_slot hT F.slot_set_iter (mE F.slot_set_iter hT nY ?_ (F.args_set_iter_1 _));refine aS (a8 ?_);rw[HB];refine aS (aS (aS (sR ho S.data S.fits (a8 (a8 ?_)))));refine aS (aS (sR ho S.data S.fits (aS (aS (AC (a8 (a8 ?_)))))));rw[S.plain];simp only[BH,Bool.false_and,Cc];refine aS (a8 ?_);refine aS (aS (sR ho S.data S.fits (a8 ?_)));refine aS (lS (a8 #[_,rfl, "set_iterator",_,#[_,dC _ rfl,rfl],bJ.lookup,?_]));exact hQ
end
end Sb
namespace Sb
open PySem PySem.W PyProof.Rows
section
variable{prog:Program}{w:World}{A:Around}{E:Value->Shared->Prop}{s:Shared}
theorem HF(hT:s.TypeIs (.ref a) "set")(h:Q false s):wpAny (model prog w) A (Builtin.List.listLengthHint (.ref a)) Q E s:=by
 refine aS (BC hT F.slot_set_len.lookup ?_);have e:splitId "set.__len__"=!("set", "__len__"):=by decide +kernel
 dsimp only;rw[e];refine aS (AD hT sub_set_self ?_);simp only[BH,oP,↓reduceIte];exact aS (A7 hT (a8 h))
theorem vI{a:Addr}{o:Obj}{es:Array (Int×Value)}{ep:Nat}{t:SetTable}{Q:List Value->Shared->Prop}(hh:A.in1.handled=none)(ho:s.heap.get? a=!o)(S:nX o es ep t)(ld:w.params.followText "set-order"=false->t.led=true)(hn:es.size<=sizeLine)
  (hQ:∀s',Moved [] (λa b=>b=a) s s'->Q ((dY w a ep es).toList.map (·.2)) s'):wpAny (model prog w) A (collect (.ref a)) Q E s:=by
 have hlt:=dS ho;have hSa:=AS hlt;refine aS (wpAny_runValue (wP F.entry_proto_collect ?_));refine aS (lS ?_);refine a8 #[AO F.plain_list_iadd _,wP F.entry_list_iadd ?_];have xO:(s.heap.push { cls:=.type "list",data:=.seq ([]:List Value).toArray}).get? a=!o:=a9 _ ho;show wpAny _ A.in1 (Builtin.List.listExtendWith (.ref s⁻¹) (.ref a) (.ref s⁻¹)) _ _ _;refine aS (A7 #[_,xO,S.ex.1] ?_);have h1:Builtin.List.listSameRef (.ref s⁻¹) (.ref a)=false:=by simp[Builtin.List.listSameRef,hSa]
 have h2:(Value.type "set" == Value.type "list")=false:=by decide
 have h3:(Value.type "set" == Value.type "tuple")=false:=by decide
 simp only[h1];refine aS (HD xO S ?_);have hz:(s.heap.push { cls:=.type "list",data:=.seq ([]:List Value).toArray}).objs.size=s⁻¹+1:=qS ..;rw[hz];refine aS (hU ?_);refine HF #[_,a9 _ xO,S.ex.1] ?_;refine aS (A9 ?_);generalize hH:((s.heap.push { cls:=.type "list",data:=.seq ([]:List Value).toArray}).push { cls:=.type "set_iterator",data:=.fields ([.int 0 0,.int 0 0,.ref a,.int es.size 0,.int ep 0].toArray)})=h0;have hS₁:h0.get? s⁻¹=some { cls:=.type "list",data:=.seq ([]:List Value).toArray}:=by rw[<- hH];exact a9 _ (dC _ rfl)
 have hI₁:h0.get? (s⁻¹+1)=some { cls:=.type "set_iterator",data:=.fields ([.int 0 0,.int 0 0,.ref a,.int es.size 0,.int ep 0].toArray)}:=by rw[<- hH,<- hz];exact dC _ rfl
 have old:∀b o,s.heap.get? b=!o->h0.get? b=!o:=λb o e=>by
  rw[<- hH];exact a9 _ (a9 _ e)
 refine aS ?_;refine aS (BI hS₁ rfl ?_);have hS₂:=i9 (Obj.mapSeq (·.push Value.none)) hS₁ rfl;refine BI hS₂ rfl ?_;have hS₃:=i9 (Obj.mapSeq (·.pop)) hS₂ rfl;have Z7:∀b o,b≠s⁻¹->h0.get? b=!o->
   ((h0.update s⁻¹ (Obj.mapSeq (·.push Value.none))).update s⁻¹ (Obj.mapSeq (·.pop))).get? b=!o:=
  λb o hb e=>(fI _ _ (sB hb)).trans ((fI _ _ (sB hb)).trans e)
 have W:=(CP (prog:=prog) hh (s⁻¹+1) a ⋯ S ld).toS;have Z1:gI w t 0=0:=by unfold gI;split <;> rfl
 refine a8 #[AO F.plain_extend_loop _,codeAny_extend_loopS W hn _ (by simp;lia) _ es.size 0 _ _ _ rfl (tP _) #[#[_,Z7 _ _ ⋯ hI₁,rfl,by rw[Z1];rfl],Z7 _ _ ⋯ (old _ _ ho)] hS₃ (ItemsOf.nil _) λs' acc' c' hm hS' hacc=>?_]
 refine aS (wpAny_load hS' ?_);have e:acc'.toList=(dY w a ep es).toList.map (·.2):=by
  obtain⟨z1,z2⟩:=hacc;apply List.ext_getElem?;intro i;by_cases hi:i<acc'.size
  . obtain⟨e,e1,e2⟩:=z2 i acc'[i] (rV hi);rw[AF,rV hi,oI,AF,e1,<- e2];rfl
  . rw[v4 (by simpa using hi),v4 (by rw[eA,i8,fJ];lia)]
 refine a8 ?_;rw[e];refine hQ s' #[λb o _ eb=>hm.heap b o ?_ (Z7 b o ?_ (old b o eb)),hm.gens,hm.drawn,hm.os,hm.toks]
 . have:=dS eb;simp only[dL,not_or];exact#[by lia,by lia]
 . have:=dS eb;lia
theorem CQ{v:Value}{vs:List Value}{R:Shared->Prop}{Q:Value->Shared->Prop}(hz:vs.length<=sizeLine)(go:wpAny (model prog w) A.in1 (collect v) (λvs' s'=>vs'=vs/\R s') E s)
  (h:∀s',R s'->wpAny (model prog w) A.in1.in1 (Builtin.«list.sort» #[[.ref s'⁻¹],[]]) (λf s''=>f=.done (.ret .none)/\Q (.ref s'⁻¹) s'') E { s' with heap:=s'.heap.push (seqObj "list" vs.toArray 0)}) :
  wpAny (model prog w) A (call (.builtin "sorted") [v]) Q E s:=by
 refine A3 kind_sorted plain_sorted entry_sorted (args_sorted1 _) ?_;refine aS (a8 (aS (i7 go ?_ λ_ _ z=>z)))
 rintro _ s' ⟨rfl,hr⟩;refine aS (wpAny_newList ?_ hz);refine aS (hU (mE slot_list_sort #[_,dC _ rfl,rfl] entry_list_sort (i7 (h s' hr) (λf s'' hf=>#[_,hf.1,?_]) λ_ _ z=>z) (args_list_sort _)))
 exact a8 #[_,rfl,hf.2]
end
end Sb
namespace Sb
open PySem
noncomputable def way(t:SetTable)(h:Int):Nat->SetTable.Probe
 | 0=>t.probeStart h
 |k+1=>t.advance (way t h k)
def Live(t:SetTable)(j:Nat):Prop:=∃i,t.slot j=.live i
structure Tab(t:SetTable)(hs:Nat->Int)(n:Nat):Prop where
 sz:t.place.size=n
 ris:Ko t.place
 X3:t.dummies = ([].toArray)
 on:∀i,i<n->∃k,(way t (hs i) k).j=t.place.getD i 0/\∀m,m<k->Live t (way t (hs i) m).j
end Sb
namespace Sb
open PySem
def stp(mask x:Nat):Nat:=(x * 5+1) % (mask+1)
noncomputable def its(mask:Nat):Nat->Nat->Nat
 | 0,x=>x
 |r+1,x=>stp mask (its mask r x)
end Sb
namespace Sb
open PySem
end Sb
namespace Sb
open PySem
noncomputable def bare(mask:Nat):SetTable:={ mask,place:=([].toArray),dummies:=([].toArray),finger:=0,led:=true,moves:=0,plain:=true}
end Sb
namespace Sb
open PySem
end Sb
namespace Sb
open PySem
def hsF(es:Array (Int×Value))(i:Nat):Int:=(es[i]?.map (·.1)).getD 0
end Sb
namespace Sb
open PySem
def masks:List Nat:=[7,31,127,511,2047]
structure SetT(o:Obj)(es:Array (Int×Value))(ep:Nat)(t:SetTable):Prop where
 ex:o.ExactSet
 data:o.data=.set es ep t
 tab:Tab t (hsF es) es.size
 mq:t.mask∈masks
 room:es.size * 5<t.mask * 3
 plain:t.plain=true
end Sb
namespace Sb
open PySem
end Sb
namespace Sb
open PySem
end Sb
namespace Sb
open PySem
end Sb
namespace Sb
open PySem
end Sb
namespace Sb
open PySem
section
variable{prog:Program}{w:World}{A:Around}{E:Value->Shared->Prop}{s:Shared}{K:Type} [DecidableEq K] (knd:KeyKind prog w K) (B:List K->Addr->Prop)
def Z8(h:Heap)(k:List K)(e:Int×Value):Prop:=∃b,B k b/\e=(tupleKeyHash knd k,.ref b)/\IsTupleKey knd h k b
def KR(h:Heap)(a:Addr)(ks:List (List K)):Prop:=
 ∃o es ep t,h.get? a=!o/\SetT o es ep t/\(w.params.followText "set-order"=false->t.led=true)/\ks.Nodup/\∃l:List (Int×Value),es.toList.Perm l/\ks.length=l.length/\∀(i:Nat) k e,ks[i]?=!k->l[i]?=!e->Z8 knd B h k e
variable{knd B}
end
end Sb
namespace Sb
open PySem
end Sb
namespace Sb
open PySem PyProof.Rows
section
variable{prog:Program}{w:World}{A:Around}{s s':Shared}{K:Type} [DecidableEq K] {knd:KeyKind prog w K}{B:List K->Addr->Prop}{R:Result->Shared->Prop}{I:Addr}{fp wr:List Addr}{G:Array GenState->Array GenState->Prop}{n:Nat}{P:Nat->Value->Prop}{St:Nat->Shared->Prop}
noncomputable def more(ks:List (List K))(k:List K):List (List K):=if k∈ks then ks else ks++[k]
def met(val:Nat->List K):Nat->List (List K)
 | 0=>[]
 |i+1=>more (met val i) (val i)
end
end Sb
namespace Sb
open PySem PyProof.Rows
end Sb
namespace Sb
open PySem PyProof.Rows
section
variable{prog:Program}{w:World}{A:Around}{E:Value->Shared->Prop}{s:Shared}{K:Type} [DecidableEq K] {knd:KeyKind prog w K}{B:List K->Addr->Prop}
theorem HJ(a:Value)
  (h:∀led:Bool,(w.params.followText "set-order"=false->led=true)->Q₁ (.ref s⁻¹) { s with heap:=s.heap.push { cls:=.type "set",dict:=none,data:=.set ([].toArray) 0 (.fresh 0 0 led)}}) :
  codeAny (model prog w) A (.call (.builtin "set.__new__") #[[.type "set",a],[]]) (wants Q₁ E) s:=by
 refine codeAny_of_tree ?_;refine aS (B8 (F.newCall_set_1 a) (a8 #[AO F.plain_set_new _,wP F.entry_set_new ?_]));rw[Around.under_plainId F.plain_set_new _];unfold Builtin.«set.__new__» Builtin.Frozenset.newClass;have hsub:=sub_set_self;obtain⟨hp,g,d,tk,os⟩:=s;dsimp only
 wp_walk
 refine AC (a8 ?_);dsimp only;simp only[newObj];refine aS (wpAny_alloc (a8 ?_));refine a8 (h _ λhw=>?_)
 show ((not (w.params.followText "set-order")))=true;rw[hw];rfl
end
end Sb
namespace Sb
open PySem PyProof.Rows
section
variable{prog:Program}{w:World}{A:Around}{E:Value->Shared->Prop}{s:Shared}{K:Type} [DecidableEq K] {knd:KeyKind prog w K}{B:List K->Addr->Prop}
abbrev CT (led:Bool):Obj:={ cls:=.type "set",dict:=none,data:=.set ([].toArray) 0 (.fresh 0 0 led)}
end
end Sb
namespace Sb
open PySem PySem.W PyProof.Rows Ev
section
variable{prog:Program}{w:World}{A:Around}{E:Value->Shared->Prop}{s:Shared}{B: ~~~0->Addr->Prop}
noncomputable def adr(p: ~~~0×(Int×Value)):Addr:=match p.2.2 with |.ref b=>b |_=>0
end
end Sb
namespace Ev
open L2 PySem.W
def lN(n: ~~~0): ~~~5->List Int
 | []=>n
 |m::l=>lN (if HT.lexLt m n then m else n) l
theorem qJ:∀(l: ~~~5) (n m: ~~~0),lN n (l++[m])=if HT.lexLt m (lN n l)then m else lN n l
 | [],_,_=>rfl
 |_::l,_,m=>qJ l _ m
abbrev Ei (L: ~~~5) (i j:Nat):Bool:=HT.lexLt (L.getD i []) (L.getD j [])
theorem qK(n: ~~~0)(l: ~~~5):∀k,k<=l.length->argBest (Ei (n::l)) k<=k/\(n::l).getD (argBest (Ei (n::l)) k) []=lN n (l.take k)
 | 0,_=>#[dE _,rfl]
 |k+1,hk=>by
  obtain⟨h0,h1⟩:=qK n l k (Nat.le_of_succ_le hk);have hlt:k<l.length:=hk;have e:(n::l).getD (k+1) []=l[k]:=by simp[hlt]
  have e2:=List.take_succ_eq_append_getElem hlt;rw[e2,qJ,<- h1,<- e];show (if Ei (n::l) (k+1) (argBest (Ei (n::l)) k)then k+1 else argBest (Ei (n::l)) k)<=k+1/\(n::l).getD (if Ei (n::l) (k+1) (argBest (Ei (n::l)) k)then k+1 else argBest (Ei (n::l)) k) []=_
  split
  . exact#[dE _,rfl]
  . exact#[Nat.le_succ_of_le h0,rfl]
section
variable{prog:Program}{w:World}{A:Around}{R:Result->Shared->Prop}{I S:Addr}{fp wr:List Addr}{n:Nat}{P:Nat->Value->Prop}{St:Nat->Heap->Prop}{h0:Heap}{bt:Nat->Nat->Bool}
abbrev HN(h h':Heap):Prop:=∀b o,h.get? b=!o->h'.get? b=!o
def vJ(prog:Program)(w:World)(A:Around)(h0:Heap)(P:Nat->Value->Prop)(bt:Nat->Nat->Bool):Prop:=
 ∀i j u v (s:Shared) (Q E:Value->Shared->Prop),HN h0 s.heap->P i u->P j v->Q (.bool (bt i j)) s->wpAny (model prog w) A (richCompare .Lt u v) Q E s
theorem yj(W:Walks prog w A.in1 I fp wr n P St)(hc:vJ prog w A.in1 h0 P bt)(hS:S∉fp)(hw:∀b o,h0.get? b=!o->b∉wr/\b≠S):∀(k j:Nat) (s:Shared) (v:Value) (c:Nat),n - (j+1)=k->j+1<=n->St (j+1) s.heap->P (argBest bt j) v->HN h0 s.heap->
   s.heap.get? S=some { cls:=.type "list",dict:=none,data:=.seq ([v,v].toArray) c,slots:=([].toArray)}->(∀u h tk,P (argBest bt (n - 1)) u->HN h0 h->R (.ok (.ret u)) { s with heap:=h,toks:=tk})->
   codeAny (model prog w) A (.builtin "min.loop" #[[.ref I,.none,.ref S],[]]) R s:=by
 have Vm:S∉wr:=λz=>hS (W.sub _ z)
 have nm:(toString "min" ++ toString ".loop":String) = "min.loop" :=by decide
 intro k
 induction k with
 |zero=>
  intro j s v c hk hj st hp old oS fin;obtain rfl:n=j+1:=by lia
  refine wP F.entry_min_loop ?_;refine aS (A4 oS rfl ?_);refine aS (wpAny_tryCatch (W.done s _ _ st λh tk kp=>?_))
  refine aS (BI (kp S _ Vm oS) rfl (aS (C5 (a8 ?_))));exact fin v _ tk hp λb o e=>(fI _ _ (sB (hw b o e).2)).trans (kp b o (hw b o e).1 (old b o e))
 |succ k ih=>
  intro j s v c hk hj st hp old oS fin;have hlt:j+1<n:=by lia
  refine wP F.entry_min_loop ?_;refine aS (A4 oS rfl ?_);refine aS (wpAny_tryCatch (W.item (j+1) s _ _ hlt st λu h tk hu aG kp=>?_))
  have X4:=kp S _ Vm oS;have Vn:HN h0 h:=λb o e=>kp b o (hw b o e).1 (old b o e)
  show wpAny _ _ (tryCatch (holding [u,u] (richCompare .Lt u v >>= _)) _ >>= _) _ _ _;refine aS (wpAny_tryCatch (hU (aS (hc (j+1) (argBest bt j) u v _ _ _ Vn hu hp ?_))));refine aS (hU (nV ?_));refine aS (C5 (a8 ?_));cases hb:bt (j+1) (argBest bt j)with
  |true=>
   refine aS (BI X4 rfl (aS (C5 ?_)));refine a8 #[AO CD _,ih (j+1) _ u _ ⋯ hlt (W.frame _ _ _ aG λb hb o e=>?_) (by simp only[argBest,hb];exact hu) (λb o e=>?_) (i9 _ X4 rfl) fin]
   . exact (fI _ _ (λz:S=b=>hS (z▸hb))).trans e
   . exact (fI _ _ (sB (hw b o e).2)).trans (Vn b o e)
  |false=>refine aS (C5 ?_);exact a8 #[AO CD _,ih (j+1) _ v c ⋯ hlt aG (by simp only[argBest,hb];exact hp) Vn X4 fin]
theorem vK(W:Walks prog w A.in1 I fp wr n P St)(hc:vJ prog w A.in1 h0 P bt)(hS:S∉fp)(hw:∀b o,h0.get? b=!o->b∉wr/\b≠S)(hn:0<n)(st:St 0 s.heap)(old:HN h0 s.heap)
  (oS:s.heap.get? S=some { cls:=.type "list",dict:=none,data:=.seq ([].toArray) c,slots:=([].toArray)}) (fin:∀u h tk,P (argBest bt (n - 1)) u->HN h0 h->R (.ok (.ret u)) { s with heap:=h,toks:=tk}) :
   codeAny (model prog w) A (.builtin "min.loop" #[[.ref I,.none,.ref S],[]]) R s:=by
 have Vm:S∉wr:=λz=>hS (W.sub _ z)
 have nm:(toString "min" ++ toString ".loop":String) = "min.loop" :=by decide
 refine wP F.entry_min_loop ?_;refine aS (A4 oS rfl ?_);refine aS (wpAny_tryCatch (W.item 0 s _ _ hn st λu h tk hu aG kp=>?_))
 have X4:=kp S _ Vm oS;show wpAny _ _ (updateSeq S (λ_=>([u,u].toArray)) >>= _) _ _ _
 refine aS (BI X4 rfl ?_);refine a8 #[AO CD _,yj W hc hS hw _ 0 _ u _ rfl hn (W.frame _ _ _ aG λb hb o e=>?_) hu (λb o e=>?_) (i9 _ X4 rfl) fin]
 . exact (fI _ _ (λz:S=b=>hS (z▸hb))).trans e
 . exact (fI _ _ (sB (hw b o e).2)).trans (kp b o (hw b o e).1 (old b o e))
theorem fK
  (h:wpAny (model prog w) A.in1 (pyIter x) (λit t=>∃I fp wr n P St bt,it=.ref I/\Walks prog w A.in1 I fp wr n P St/\St 0 t.heap/\(∀b∈fp,b<t⁻¹)/\0<n/\vJ prog w A.in1 s.heap P bt/\HN s.heap t.heap/\(∀b o,s.heap.get? b=!o->b∉wr)/\
   ∀v h' tk,P (argBest bt (n - 1)) v->HN s.heap h'->Q v { t with heap:=h',toks:=tk}) E s) :
  wpAny (model prog w) A (call (.builtin "min") [x]) Q E s:=by
 have nm:(toString "min" ++ toString ".loop":String) = "min.loop" :=by decide
 refine call_function_tree F.kind_min F.plain_min F.entry_min (F.args_min1 _) ?_;refine aS (B8 (show Builtin.Builtins.bindParams "min" ["key", "default"] 0 #[[],[]]=pure [none,none]from rfl) ?_)
 refine aS (a8 ?_);refine aS (i7 h (λit t z=>?_) λ_ _ e=>e)
 obtain⟨I,fp,wr,n,P,St,bt,rfl,W,st,hf,hn,hc,old,hw,fin⟩:=z;refine aS (lS ?_);have hS:t⁻¹∉fp:=λz=>nN _ (hf _ z)
 exact a8 #[AO CD _,vK W hc hS (λb o e=>#[hw b o e,fA (dS (old b o e))]) hn (W.frame _ _ _ st λb _ o e=>a9 _ e) (λb o e=>a9 _ (old b o e)) (dC _ rfl) fin]
end
section
variable{X:Cx}{z:Z}
theorem CV(hc:X.calm=true)(hu:X.A.units+1<cLine):cF X (.builtin "min") (λxs H Q=>∃(p:Addr) (ys:List V) (n: ~~~0) (l: ~~~5),xs=[.ref p]/\(cu X.K H p ys\/eU X.K H p ys)/\jD X.K H ys (n::l)/\
  ∀i,i<ys.length->(n::l).getD i []=lN n l->Q (ys.getD i .non) H):=by
 intro ah s Y H xs us Q I r h;obtain⟨p,ys,n,l,rfl,hp,ht,q⟩:=h;obtain⟨u,rfl,rx⟩:=vals1 r;cases rx;have hh:X.A.in1.handled=none:=I.ok.hd hc;have cmp:∀its:List Value,Vals ys its->vJ X.prog X.w X.A.in1 s.heap (λi v=>its.toArray[i]?=!v) (Ei (n::l)):=λits rv=>by
  intro i j u v s' Q E old hi hj hQ;have t:=ht.real I rv;have hi:its[i]?=!u:=by simpa using hi
  have hj:its[j]?=!v:=by simpa using hj
  have li:=(c8.mp hi).1;have lj:=(c8.mp hj).1;obtain⟨a,a2,ea,ta,ia⟩:=(t.at li).keep old;obtain⟨b,b2,eb,tb,ib⟩:=(t.at lj).keep old;rw[i6,hi]at ea;rw[i6,hj]at eb;obtain rfl:u=.ref a:=ea;obtain rfl:v=.ref b:=eb;exact HT.mO ta tb ia ib hu hQ
 have fin:∀(its:List Value) (v:Value) (h':Heap) (tk:Nat),Vals ys its->its.toArray[argBest (Ei (n::l)) (its.toArray.size - 1)]?=!v->HN s.heap h'->EP X ah Y Q v { s with heap:=h',toks:=tk}:=λits v h' tk rv hv hk=>by
  have hl:its.length=l.length+1:=(ht.real I rv).length;obtain⟨b1,b2⟩:=qK n l l.length (dE _);rw[CC]at b2;rw[b8,hl]at hv;have hv:its[argBest (Ei (n::l)) l.length]?=!v:=by simpa using hv
  have hy:argBest (Ei (n::l)) l.length<ys.length:=by rw[rv.length];lia
  have rel:=j6 rv hy;rw[i6 (l:=its),hv]at rel;exact#[_,H,I.kept hk,rel,q _ hy b2]
 have pos:∀its:List Value,Vals ys its->0<its.toArray.size:=λits rv=>by rw[b8,(ht.real I rv).length];exact Nat.succ_pos _
 have ow:∀(b:Addr) (o:Obj),s.heap.get? b=!o->b∉[s⁻¹]:=λb o e hm=>by
  have:b=s⁻¹:=by simpa using hm
  exact absurd (dS e) (by rw[this];exact nN _)
 have Z9:∀{hlt:p<s⁻¹}{o:Obj},∀b∈[s⁻¹,p],b<(s.heap.push o).objs.size:=λ{hlt o} b hb=>by
  rw[qS];simp only[dL,kA,AA]at hb;rcases hb with rfl |rfl
  . exact pE _
  . exact y3 hlt
 rcases hp with hp |hp
 .
  obtain⟨its,rv,pl,hz⟩:=I.list hp;have hlt:p<s⁻¹:=by obtain⟨_,e,_⟩:=pl.isList;exact dS e
  refine fK (AH pl.isList ?_);exact#[s⁻¹,_,_,_,_,_,_,rfl,Walks.list hh s⁻¹ p (fA hlt) its.toArray,#[#[_,dC _ rfl,rfl,rfl],pl.isList.push _],Z9 (hlt:=hlt),pos its rv,cmp its rv,λb o e=>a9 _ e,ow,λv h' tk hP hk=>fin its v h' tk rv hP hk]
 .
  obtain⟨its,rv,pl,hz⟩:=I.tuple hp;have hlt:p<s⁻¹:=by obtain⟨_,e,_⟩:=pl;exact dS e
  have Ke:=pl;refine fK (wT Ke ?_);exact#[s⁻¹,_,_,_,_,_,_,rfl,Walks.tuple hh s⁻¹ p (fA hlt) its.toArray,#[#[_,dC _ rfl,rfl,rfl],IsTup.keeps Ke λb o e=>a9 _ e],Z9 (hlt:=hlt),pos its rv,cmp its rv,λb o e=>a9 _ e,ow,λv h' tk hP hk=>fin its v h' tk rv hP hk]
theorem NK(hc:X.calm=true)(hu:X.A.units+1<cLine)(hK:z.K=X.K)(h:cJ d=!l)(hi:fP l=!(n::ns)):CallD X z (.builtin "min") [d] (.dat (.tup ((lN n ns).map .int))):=by
 refine#[_,CV hc hu,λg Y As M H vs Q s p k=>?_]
 obtain⟨v,rfl,pv⟩:=p.one;have main:∀(a:Addr) (xs:List V),aD z.K M H l xs->(cu X.K H a xs\/eU X.K H a xs)->∃(p:Addr) (ys:List V) (n: ~~~0) (l: ~~~5),[V.ref a]=[.ref p]/\(cu X.K H p ys\/eU X.K H p ys)/\jD X.K H ys (n::l)/\∀i,i<ys.length->(n::l).getD i []=lN n l->Q (ys.getD i .non) H:=λa xs rr hq=>by
  obtain⟨t1,t2,t3⟩:=qI rr hi;refine#[a,xs,n,ns,rfl,hq,hK▸t1,λi hl e=>?_]
  have hd:i<l.length:=by rw[rr.length];exact hl
  obtain⟨v,e1,e2⟩:=rr.get (i:=i) (d:=l[i]) (by simp[hd])
  have q1:l[i]=.tup ((lN n ns).map .int):=by
   have hn:i<(n::ns).length:=by rw[t3,eA]at hd;exact hd
   rw[<- e,i6,nS hn];simp only[t3,List.getElem_map];rfl
  have q2:xs.getD i .non=v:=by rw[i6,e1];rfl
  rw[q2];exact k _ _ As M s (aq.refl _ _) (q1▸e2)
 cases d with
 |lst m=>symm;obtain⟨a,xs,rfl,e1,e2⟩:=pv.list;exact main a xs e2 (.inl (cu.of e1))
 |tup m=>symm;obtain⟨a,xs,rfl,e1,e2⟩:=pv.tup;exact main a xs e2 (.inr (hK▸e1.sq))
 |fix m=>symm;obtain⟨a,xs,rfl,e1,e2⟩:=pv.fix;exact main a xs e2 (.inl (hK▸e1.sq))
 |_=>symm
end
open L2 PySem.W
def NP(A:Around)(s:Shared)(x y:Value)(b:Bool):Prop:=
 ∀(prog:Program) (w:World) (E:Value->Shared->Prop) (Q:Value->Shared->Prop),Q (.bool b) s->wpAny (model prog w) A (richCompare .Lt x y) Q E s
inductive Kp(A:Around)(s:Shared):List Value->List Value->Bool->Prop
 |nn:Kp A s [] [] false
 |nc:Kp A s [] (y::ws) true
 |cn:Kp A s (x::vs) [] false
 |eq:SeqAt.EqAt A s x y true->Kp A s vs ws b->Kp A s (x::vs) (y::ws) b
 |ne:SeqAt.EqAt A s x y false->NP A s x y b->Kp A s (x::vs) (y::ws) b
section
open PySem.SeqAt
open PySem.AutoSeq1 (wpAny_loadPart')
open PySem.MeetsSeq PySem.MeetsSeq2 PySem.MeetsSeq3
theorem ym(l b:Addr)(ao items2:Array Value)(n n2:Nat)(dd dd2:Option Addr)(sl sl2:Array (Option Value))(c:Bool) :
  Meets (Builtin.«tuple.__lt__» #[[.ref l,.ref b],[]])
   (λA R s=>s.heap.get? l=some { cls:=.type "tuple",dict:=dd,data:=.seq ao n,slots:=sl}/\s.heap.get? b=some { cls:=.type "tuple",dict:=dd2,data:=.seq items2 n2,slots:=sl2}/\
    Kp A.in1 s ao.toList items2.toList c/\R (.ok (.ret (.bool c))) s):=
 .of_wp λprog w A R s h=>by
  obtain⟨hp,g,d,tk,os⟩:=s;obtain⟨hl,hb,hw,h⟩:=h;have f2:=AutoSeq1.sub_tuple_tuple
  wp_walk using wpAny_loadPart' hl,wpAny_loadPart' hb,CB _ (λrest b s'=>b.1=none/\s'=#[hp,g,d,tk,os]/\∃(vs ws:List Value),rest=vs.zip ws/\
   Kp A.in1 #[hp,g,d,tk,os] vs ws c/\vs.length+items2.size=ws.length+ao.size/\R (.ok (.ret (.bool c))) #[hp,g,d,tk,os]) _
  case turn=>
   rintro⟨y,x⟩ rest b s' ⟨hb',rfl,vs,ws,hz,hlt,aH,hR⟩;cases hlt with
   |nn=>rw[List.zip_nil_left]at hz;cases hz
   |nc=>rw[List.zip_nil_left]at hz;cases hz
   |cn=>rw[List.zip_nil_right]at hz;cases hz
   |eq he ht=>
    rw[tJ]at hz;injection hz with hyx hrest;injection hyx with hy hx;subst hy hx;simp only[gL]at aH;refine aS (he prog w _ _ ?_)
    wp_walk
    exact#[rfl,rfl,_,_,hrest,ht,by lia,hR]
   |ne he ht=>
    rw[tJ]at hz;injection hz with hyx hrest;injection hyx with hy hx;subst hy hx;refine aS (he prog w _ _ ?_);have hri:=λE Q h=>ht prog w E Q h
    wp_walk using hri
    exact#[_,rfl,by simpa using hR]
  case fin=>
   rintro⟨b1,b2⟩ s' ⟨hb',rfl,vs,ws,hz,hlt,aH,hR⟩;simp only at hb';subst hb';have hv:c=decide (ao.size<items2.size):=by
    cases hlt with
    |nn=>simp only[y6]at aH;exact (nK ⋯).symm
    |nc=>simp only[y6,gL]at aH;exact (kS ⋯).symm
    |cn=>simp only[y6,gL]at aH;exact (nK ⋯).symm
    |eq _ _=>rw[tJ]at hz;cases hz
    |ne _ _=>rw[tJ]at hz;cases hz
   rw[hv]at hR
   wp_walk
   exact#[_,rfl,by simpa [Builtin.Tuple.tupleCompareSizes]using hR]
  case h=>exact#[rfl,rfl,ao.toList,items2.toList,rfl,hw,by simp;lia,h]
end
section
variable{A:Around}{s:Shared}
theorem zK(hl:IsTup s.heap l ao)(hb:IsTup s.heap b items2)(hw:Kp A.in1 s ao.toList items2.toList c)(hu:A.units<cLine):NP A s (.ref l) (.ref b) c:=λprog w E Q h=>by
 obtain⟨⟨cls,dd,data,sl⟩,ho,hc,n,hd⟩:=id hl;obtain⟨⟨Sv,dd2,data2,sl2⟩,ho2,hc2,n2,hd2⟩:=id hb;simp only at hc hd hc2 hd2;subst hc hd hc2 hd2;exact richCompare_meets_room (op:=.Lt) #[_,ho,rfl] #[_,ho2,rfl] PySem.F.slot_tuple_lt PySem.F.entry_tuple_lt (PySem.F.args_tuple_lt_2 _ _) (ym l b ao items2 n n2 dd dd2 sl sl2 c)
  #[ho,ho2,hw,show Value.bool c≠Value.notImplemented/\Q (.bool c) s from#[(λx=>nomatch x),h]] hu
end
theorem Dv.keep(k:HN h h')(q:Dv h d u):Dv h' d u:=by
 refine Dv.rec (motive_1:=λd u _=>Dv h' d u) (motive_2:=λl us _=>jf h' l us) ?_ ?_ ?_ ?_ ?_ ?_ q
 . exact λb=>.bl b
 . exact λi t=>.int i t
 . exact λx _ ih=>.tup (x.keeps k) ih
 . exact λx _ ih=>.lst (let #[o,e,r]:=x;#[o,k _ _ e,r]) ih
 . exact .nil
 . exact λ_ _ a b=>.cons a b
open L2 PySem.W
noncomputable def n6{α:Type}(O:iu α)(n:α):List α->α
 | []=>n
 |m::l=>n6 O (if O.lt m n then m else n) l
section
variable{α:Type}(O:iu α)(d0:α)
theorem qL:∀(l:List α) (n m:α),n6 O n (l++[m])=if O.lt m (n6 O n l)then m else n6 O n l
 | [],_,_=>rfl
 |_::l,_,m=>qL l _ m
abbrev ltAt(L:List α)(i j:Nat):Bool:=O.lt (L.getD i d0) (L.getD j d0)
theorem qM(n:α)(l:List α):∀k,k<=l.length->argBest (ltAt O d0 (n::l)) k<=k/\(n::l).getD (argBest (ltAt O d0 (n::l)) k) d0=n6 O n (l.take k)
 | 0,_=>#[dE _,rfl]
 |k+1,hk=>by
  obtain⟨h0,h1⟩:=qM n l k (Nat.le_of_succ_le hk);have hlt:k<l.length:=hk;have e:(n::l).getD (k+1) d0=l[k]:=by simp[hlt]
  have e2:l.take (k+1)=l.take k++[l[k]]:=List.take_succ_eq_append_getElem hlt;rw[e2,qL,<- h1,<- e];show (if ltAt O d0 (n::l) (k+1) (argBest (ltAt O d0 (n::l)) k)then k+1 else argBest (ltAt O d0 (n::l)) k)<=k+1/\(n::l).getD (if ltAt O d0 (n::l) (k+1) (argBest (ltAt O d0 (n::l)) k)then k+1 else argBest (ltAt O d0 (n::l)) k) d0=_
  unfold ltAt;split
  . exact#[dE _,rfl]
  . exact#[Nat.le_succ_of_le h0,rfl]
end
theorem zL{κ:Type}{un:κ->D}:∀{l:List κ},(∀k∈l,jd (un k)=true)->eE (l.map un)=true
 | [],_=>rfl
 |k::l,h=>by
  show (jd (un k)&&eE (l.map un))=true;rw[h k b0,zL λx hx=>h x (bP _ hx)]
  rfl
section
variable{X:Cx}{z:Z}{κ:Type}{O:iu κ}{d0:κ}{un:κ->D}{good:κ->Prop}
theorem CW(hc:X.calm=true)(jh:∀k,good k->jd (un k)=true)(hlt:∀(s:Shared) k1 k2 u1 u2,good k1->good k2->Dv s.heap (un k1) u1->Dv s.heap (un k2) u2->NP X.A.in1 s u1 u2 (O.lt k1 k2)) :
  cF X (.builtin "min") (λxs H Q=>∃(p:Addr) (ys:List V) (M:List Addr) (n:κ) (l:List κ),xs=[.ref p]/\(cu X.K H p ys\/eU X.K H p ys)/\aD X.K M H ((n::l).map un) ys/\(∀k∈n::l,good k)/\
   ∀i,i<ys.length->(n::l).getD i d0=n6 O n l->Q (ys.getD i .non) H):=by
 intro ah s Y H xs us Q I r h;obtain⟨p,ys,M,n,l,rfl,hp,ht,hg,q⟩:=h;obtain⟨u,rfl,rx⟩:=vals1 r;cases rx;have hh:X.A.in1.handled=none:=I.ok.hd hc;have hys:ys.length=l.length+1:=by rw[<- ht.length,eA,gL]
 have cmp:∀its:List Value,Vals ys its->vJ X.prog X.w X.A.in1 s.heap (λi v=>its.toArray[i]?=!v) (ltAt O d0 (n::l)):=λits rv=>by
  intro i j u v s' Q E old hi hj hQ;have t:=aD.dv I ht rv (zL λk hk=>jh k (hg k hk))
  have hi:its[i]?=!u:=by simpa using hi
  have hj:its[j]?=!v:=by simpa using hj
  obtain⟨d1,e1,v1⟩:=t.get hi;obtain⟨d2,e2,v2⟩:=t.get hj;rw[oI]at e1 e2;obtain⟨k1,f1,rfl⟩:=t9.mp e1;obtain⟨k2,f2,rfl⟩:=t9.mp e2;have g1:(n::l).getD i d0=k1:=by rw[i6,f1];rfl
  have g2:(n::l).getD j d0=k2:=by rw[i6,f2];rfl
  have hQ:Q (.bool (O.lt k1 k2)) s':=by rw[<- g1,<- g2];exact hQ
  exact hlt s' k1 k2 u v (hg k1 (hZ f1)) (hg k2 (hZ f2)) (v1.keep old) (v2.keep old) X.prog X.w E Q hQ
 have fin:∀(its:List Value) (v:Value) (h':Heap) (tk:Nat),Vals ys its->its.toArray[argBest (ltAt O d0 (n::l)) (its.toArray.size - 1)]?=!v->HN s.heap h'->EP X ah Y Q v { s with heap:=h',toks:=tk}:=λits v h' tk rv hv hk=>by
  have hl:its.length=l.length+1:=by rw[<- rv.length,hys]
  obtain⟨b1,b2⟩:=qM O d0 n l l.length (dE _);rw[CC]at b2;rw[b8,hl,Nat.add_sub_cancel]at hv;have hv:its[argBest (ltAt O d0 (n::l)) l.length]?=!v:=by simpa using hv
  have hy:argBest (ltAt O d0 (n::l)) l.length<ys.length:=by lia
  have rel:=j6 rv hy;rw[i6 (l:=its),hv]at rel;exact#[_,H,I.kept hk,rel,q _ hy b2]
 have pos:∀its:List Value,Vals ys its->0<its.toArray.size:=λits rv=>by rw[b8,<- rv.length,hys];exact Nat.succ_pos _
 have ow:∀(b:Addr) (o:Obj),s.heap.get? b=!o->b∉[s⁻¹]:=λb o e hm=>by
  have:b=s⁻¹:=by simpa using hm
  exact absurd (dS e) (by rw[this];exact nN _)
 have Z9:∀{hlt:p<s⁻¹}{o:Obj},∀b∈[s⁻¹,p],b<(s.heap.push o).objs.size:=λ{hlt o} b hb=>by
  rw[qS];simp only[dL,kA,AA]at hb;rcases hb with rfl |rfl
  . exact pE _
  . exact y3 hlt
 rcases hp with hp |hp
 .
  obtain⟨its,rv,pl,hz⟩:=I.list hp;have hlt:p<s⁻¹:=by obtain⟨_,e,_⟩:=pl.isList;exact dS e
  refine fK (AH pl.isList ?_);exact#[s⁻¹,_,_,_,_,_,_,rfl,Walks.list (A:=X.A.in1) hh s⁻¹ p (fA hlt) its.toArray,#[#[_,dC _ rfl,rfl,rfl],pl.isList.push _],Z9 (hlt:=hlt),pos its rv,cmp its rv,λb o e=>a9 _ e,ow,λv h' tk hP hk=>fin its v h' tk rv hP hk]
 .
  obtain⟨its,rv,pl,hz⟩:=I.tuple hp;have hlt:p<s⁻¹:=by obtain⟨_,e,_⟩:=pl;exact dS e
  have Ke:s.heap.IsTuple p its.toArray:=pl;refine fK (wT Ke ?_);exact#[s⁻¹,_,_,_,_,_,_,rfl,Walks.tuple (A:=X.A.in1) hh s⁻¹ p (fA hlt) its.toArray,#[#[_,dC _ rfl,rfl,rfl],IsTup.keeps Ke λb o e=>a9 _ e],Z9 (hlt:=hlt),pos its rv,cmp its rv,λb o e=>a9 _ e,ow,λv h' tk hP hk=>fin its v h' tk rv hP hk]
theorem NQ(hc:X.calm=true)(jh:∀k,good k->jd (un k)=true)(hlt:∀(s:Shared) k1 k2 u1 u2,good k1->good k2->Dv s.heap (un k1) u1->Dv s.heap (un k2) u2->NP X.A.in1 s u1 u2 (O.lt k1 k2))(hK:z.K=X.K)(h:cJ d=!((n::ns).map un))(hg:∀k∈n::ns,good k) :
  CallD X z (.builtin "min") [d] (.dat (un (n6 O n ns))):=by
 refine#[_,CW (d0:=n) hc jh hlt,λg Y As M H vs Q s p k=>?_]
 obtain⟨v,rfl,pv⟩:=p.one;have main:∀(a:Addr) (xs:List V),aD z.K M H ((n::ns).map un) xs->(cu X.K H a xs\/eU X.K H a xs)->∃(p:Addr) (ys:List V) (M:List Addr) (m:κ) (l:List κ),[V.ref a]=[.ref p]/\(cu X.K H p ys\/eU X.K H p ys)/\aD X.K M H ((m::l).map un) ys/\(∀k∈m::l,good k)/\∀i,i<ys.length->(m::l).getD i n=n6 O m l->Q (ys.getD i .non) H:=λa xs rr hq=>by
  refine#[a,xs,M,n,ns,rfl,hq,hK▸rr,hg,λi hl e=>?_]
  have hd:i<(n::ns).length:=by have:=rr.length;rw[eA]at this;lia
  obtain⟨v,e1,e2⟩:=rr.get (i:=i) (d:=un (n6 O n ns)) (by
   rw[oI,nS hd,<- e,i6,nS hd];rfl)
  have q2:xs.getD i .non=v:=by rw[i6,e1];rfl
  rw[q2];exact k _ _ As M s (aq.refl _ _) e2
 cases d with
 |lst m=>symm;obtain⟨a,xs,rfl,e1,e2⟩:=pv.list;exact main a xs e2 (.inl (cu.of e1))
 |tup m=>symm;obtain⟨a,xs,rfl,e1,e2⟩:=pv.tup;exact main a xs e2 (.inr (hK▸e1.sq))
 |fix m=>symm;obtain⟨a,xs,rfl,e1,e2⟩:=pv.fix;exact main a xs e2 (.inl (hK▸e1.sq))
 |_=>symm
end
open L2 PySem.W Sb
end Ev
namespace Nk
open PySem
inductive Kt where
 |nil |ci (i:Int) (r:Kt) |ct (a r:Kt)
deriving DecidableEq
section
variable(h:Heap)
def Q8(T:List Value->Prop)(ad:Addr):Prop:=∃o its n,h.get? ad=!o/\o.cls=.type "tuple" /\o.data=.seq its n/\T its.toList
noncomputable def IsT:Kt->List Value->Prop
 |.nil,vs=>vs=[]
 |.ci i r,vs=>∃t us,vs=.int i t::us/\IsT r us
 |.ct a r,vs=>∃ad us,vs=.ref ad::us/\Q8 h (IsT a) ad/\IsT r us
abbrev wV (k:Kt) (ad:Addr):Prop:=Q8 h (IsT h k) ad
end
noncomputable def vL:Kt->List Int
 |.nil=>[]
 |.ci i r=>hashInt i::vL r
 |.ct a r=>reduceHash (Builtin.Tuple.tupleHashOf (vL a))::vL r
abbrev hsR(k:Kt):Int:=reduceHash (Builtin.Tuple.tupleHashOf (vL k))
noncomputable def dep:Kt->Nat
 |.nil=>0
 |.ci _ r=>dep r
 |.ct a r=>max (dep a+1) (dep r)
def lZ:Kt->Nat
 |.nil=>0
 |.ci _ r=>1+lZ r
 |.ct a r=>(lZ a+1)+lZ r
section
variable{h h':Heap}
theorem Q8.typeIs{s:Shared}{T:List Value->Prop}{ad:Addr}(x:Q8 s.heap T ad):s.TypeIs (.ref ad) "tuple" :=let #[o,_,_,ho,hc,_]:=x;#[o,ho,hc]
theorem vM(kp:∀b o,(∃its n,o.data=.seq its n)->h.get? b=!o->h'.get? b=!o){T T':List Value->Prop}(f:∀{vs},T vs->T' vs){ad:Addr}(x:Q8 h T ad):Q8 h' T' ad:=
 let #[o,its,n,e,c,d,q]:=x;#[o,its,n,kp _ _ #[_,_,d] e,c,d,f q]
theorem HQ(kp:∀b o,(∃its n,o.data=.seq its n)->h.get? b=!o->h'.get? b=!o){k:Kt}:∀{vs},IsT h k vs->IsT h' k vs:=by
 induction k with
 |nil=>intro vs x;exact x
 |ci i r ir=>rintro vs ⟨t,us,e,x⟩;exact#[t,us,e,ir x]
 |ct a r ia ir=>rintro vs ⟨ad,us,e,q,x⟩;exact#[ad,us,e,vM kp ia q,ir x]
theorem HR(kp:∀b o,(∃its n,o.data=.seq its n)->h.get? b=!o->h'.get? b=!o){k:Kt}{ad:Addr}(x:wV h k ad):wV h' k ad:=vM kp (HQ kp) x
theorem zM{T U:List Value->Prop}{x y:Kt}(f:∀{vs},T vs->U vs->x=y){ad:Addr}(p:Q8 h T ad)(q:Q8 h U ad):x=y:=by obtain⟨o,its,n,e1,_,d1,z1⟩:=p;obtain⟨o',its',n',e2,_,d2,z2⟩:=q;obtain rfl:o=o':=mI (e1.symm.trans e2);rw[d1]at d2;injection d2 with d2;subst d2;exact f z1 z2
theorem NR{x:Kt}:∀{y:Kt}{vs:List Value},IsT h x vs->IsT h y vs->x=y:=by
 induction x with
 |nil=>
  intro y vs p q;cases (show vs=[]from p)
  cases y with
  |nil=>rfl
  |ci _ _=>obtain⟨_,_,e,_⟩:=q;cases e
  |ct _ _=>obtain⟨_,_,e,_⟩:=q;cases e
 |ci i r ir=>
  rintro y vs ⟨t,us,rfl,p⟩ q;cases y with
  |nil=>cases (show _=[]from q)
  |ci _ _=>obtain⟨_,_,e,q⟩:=q;cases e;rw[ir p q]
  |ct _ _=>obtain⟨_,_,e,_⟩:=q;cases e
 |ct a r ia ir=>
  rintro y vs ⟨ad,us,rfl,p,p'⟩ q;cases y with
  |nil=>cases (show _=[]from q)
  |ci _ _=>obtain⟨_,_,e,q⟩:=q;cases e
  |ct _ _=>obtain⟨_,_,e,q,q'⟩:=q;cases e;rw[ir p' q',zM ia p q]
theorem NT{x y:Kt}{ad:Addr}(p:wV h x ad)(q:wV h y ad):x=y:=zM NR p q
end
noncomputable def El(P:Kt->Prop):Kt->Prop
 |.nil=>True
 |.ci _ r=>El P r
 |.ct a r=>P a/\El P r
theorem HS{P:Kt->Prop}(f:∀k,El P k->P k):∀k,P k/\El P k:=by
 intro k
 induction k with
 |nil=>exact#[f _ trivial,trivial]
 |ci i r ir=>exact#[f _ ir.2,ir.2]
 |ct a b ia ib=>exact#[f _ #[ia.1,ib.2],ia.1,ib.2]
section
variable{prog:Program}{w:World}
def sW(prog:Program)(w:World)(k:Kt):Prop:=∀⦃A:Around⦄ ⦃E:Value->Shared->Prop⦄ ⦃s:Shared⦄ ⦃a:Addr⦄ ⦃Q:Int->Shared->Prop⦄,A.units+dep k<cLine->wV s.heap k a->Q (hsR k) { s with toks:=s.toks+(lZ k+1)}->
  wpAny (model prog w) A (pyHash (.ref a)) Q E s
theorem zO(k:Kt):sW prog w k:=by
 refine (HS (λk ek=>?_) k).1
 intro A E s a Q hu hr h;have hT:=hr.typeIs;obtain⟨o,ao,n,ho,_,hd,hi⟩:=hr;unfold pyHash
 first |unfold pyHashByItsType |skip
 first |refine aS (wpAny_cRoomFor_or (.inr ⋯) ?_) |skip
 refine aS (BC hT F.slot_tuple_hash.lookup ?_);show wpAny _ _ (if (some (Value.builtin "tuple.__hash__")==!Value.none)=true then _ else _) Q E s
 rw[fN (by rw[beq_builtin_none];exact mM)]
 refine aS (BC hT F.slot_tuple_hash.lookup ?_);show wpAny _ _ (callSpecialIfBoundUnlessNone? (.ref a) "__hash__" _ >>= _) Q E s;refine aS (wpAny_callSpecialIfBoundUnlessNone?_slot hT F.slot_tuple_hash (mE F.slot_tuple_hash hT F.entry_tuple_hash ?_ (F.args_tuple_hash_1 _)));show wpAny _ _ (Builtin.Tuple.tupleItemsOf (.ref a) >>= _) _ _ s;refine aS (wpAny_tupleItemsOf ho hd ?_);refine aS ?_;rw[<- Array.forIn_toList];refine CB _
  (λrest (b:Array Int) s'=>∃l,El (sW prog w) l/\dep l<=dep k/\IsT s.heap l rest/\b.toList++vL l=vL k/\∃t,t+lZ l=lZ k/\s'={ s with toks:=s.toks+t})
  _ ?_ ?_ _ _ #[k,ek,dE _,hi,rfl,0,AV _,rfl]
 .
  rintro x rest b s' ⟨l,el,hl2,hl,hb,t,ht,rfl⟩;cases l with
  |nil=>cases (show x::rest=[]from hl)
  |ci i r=>
   obtain⟨tk,_,e,hr1⟩:=hl;cases e;have dt:t+(1+lZ r)=lZ k:=ht;refine aS ((intKind prog w).pyHash (k:=i) (by show Value.isInt i (.int i tk)=true;simp[Value.isInt]) ?_)
   have next:∃l,El (sW prog w) l/\dep l<=dep k/\IsT s.heap l rest/\(b.push (hashInt i)).toList++vL l=vL k/\∃t',t'+lZ l=lZ k/\({ s with toks:=s.toks+t+1}:Shared)={ s with toks:=s.toks+t'}:=
    #[r,el,hl2,hr1,by rw[<- hb];simp[vL],t+1,by lia,by rw[Nat.add_assoc]]
   first
    |exact a8 next
    |exact aS (a8 (a8 next))
  |ct u r=>
   obtain⟨ad,_,e,hu1,hr1⟩:=hl;cases e;have du:dep u+1<=dep k/\dep r<=dep k:=by have:max (dep u+1) (dep r)<=dep k:=hl2;lia
   have dt:t+((lZ u+1)+lZ r)=lZ k:=ht;refine aS (el.1 (by show A.units+1+dep u<cLine;lia) hu1 ?_)
   have next:∃l,El (sW prog w) l/\dep l<=dep k/\IsT s.heap l rest/\(b.push (hsR u)).toList++vL l=vL k/\∃t',t'+lZ l=lZ k/\({ s with toks:=s.toks+t+(lZ u+1)}:Shared)={ s with toks:=s.toks+t'}:=
    #[r,el.2,du.2,hr1,by rw[<- hb];simp[vL],t+(lZ u+1),by lia,by rw[Nat.add_assoc]]
   first
    |exact a8 next
    |exact aS (a8 (a8 next))
 .
  rintro b s' ⟨l,_,_,hl,hb,t,ht,rfl⟩;have e0:vL l=[]/\lZ l=0:=by
   cases l with
   |nil=>exact#[rfl,rfl]
   |ci _ _=>obtain⟨_,_,e,_⟩:=hl;cases e
   |ct _ _=>obtain⟨_,_,e,_⟩:=hl;cases e
  rw[e0.1,oD]at hb;rw[e0.2,Nat.add_zero]at ht;subst ht;show wpAny _ _ (retInt (Builtin.Tuple.tupleHashOf b.toList)) _ _ _;rw[hb];refine wpAny_ret_mkInt ?_;show wpAny _ _ (if (decide (-(2:Int) ^ 63<=Builtin.Tuple.tupleHashOf (vL k))&&decide (Builtin.Tuple.tupleHashOf (vL k)<2 ^ 63))=true then _ else _) Q E _
  unfold hsR reduceHash at h;by_cases hr:(decide (-(2:Int) ^ 63<=Builtin.Tuple.tupleHashOf (vL k))&&decide (Builtin.Tuple.tupleHashOf (vL k)<2 ^ 63))=true
  . rw[hV hr];rw[hV hr]at h;exact a8 (by simpa [Nat.add_assoc]using h)
  . rw[fN hr];rw[fN hr]at h;exact aS (A9 (a8 (by simpa [Nat.add_assoc]using h)))
open Ev in
noncomputable def dT:Kt->List D
 |.nil=>[]
 |.ci i r=>.int i::dT r
 |.ct a r=>.tup (dT a)::dT r
open Ev in
theorem Vo{h:Heap}{k:Kt}:∀{vs:List Value},IsT h k vs->jf h (dT k) vs:=by
 induction k with
 |nil=>intro vs x;cases (show vs=[]from x);exact .nil
 |ci i r ir=>rintro vs ⟨t,us,rfl,x⟩;exact .cons (.int i t) (ir x)
 |ct a r ia ir=>rintro vs ⟨ad,us,rfl,⟨o,its,n,e,c,d,q⟩,x⟩;exact .cons (.tup (us:=its.toList) #[o,e,c,n,by simpa using d] (ia q)) (ir x)
open Ev in
theorem Q9{x:Kt}:∀y:Kt,dg (dT x) (dT y)=decide (x=y):=by
 induction x with
 |nil=>intro y;cases y <;> rfl
 |ci i r ir=>
  intro y;cases y with
  |nil=>rfl
  |ci j q=>show (cI (.int i) (.int j)&&dg (dT r) (dT q))=_;rw[ir q];by_cases e:i=j <;> simp[cI,e]
  |ct _ _=>rfl
 |ct a r ia ir=>
  intro y;cases y with
  |nil=>rfl
  |ci j q=>rfl
  |ct b q=>show (cI (.tup (dT a)) (.tup (dT b))&&dg (dT r) (dT q))=_;rw[ir q];show (dg (dT a) (dT b)&&_)=_;rw[ia b];simp
open Ev in
theorem HW:∀k:Kt,deps (dT k)=dep k:=by
 intro k
 induction k with
 |nil=>rfl
 |ci i r ir=>show max 0 (deps (dT r))=dep r;rw[ir];lia
 |ct a r ia ir=>show max (deps (dT a)+1) (deps (dT r))=max (dep a+1) (dep r);rw[ir,ia]
theorem HX{A:Around}{E:Value->Shared->Prop}{s:Shared}(k:Kt):∀{n:Nat}{a:Addr}{Q:Bool->Shared->Prop},dep k<n->wV s.heap k a->Q true s->wpAny (model prog w) A (eqIsQuiet n (.ref a)) Q E s:=by
 refine (HS (P:=λk=>∀{n:Nat}{a:Addr}{Q:Bool->Shared->Prop},dep k<n->wV s.heap k a->Q true s->wpAny (model prog w) A (eqIsQuiet n (.ref a)) Q E s) (λk ek=>?_) k).1
 intro n a Q hn hr h;have hT:=hr.typeIs;obtain⟨o,ao,m,ho,_,hd,hi⟩:=hr;cases n with
 |zero=>exact absurd hn (v6 _)
 |succ n=>
 unfold eqIsQuiet;refine aS (BC hT F.slot_tuple_eq.lookup ?_);show wpAny _ _ (isInstance (.ref a) (.type "tuple") >>= _) _ _ s;refine aS (AD hT isSubtype_tuple_tuple ?_);simp only[BH,oP,BM];refine aS (A4 ho hd ?_);refine aS ?_;show wpAny _ _ (forIn ao _ _) _ _ s;rw[<- Array.forIn_toList];refine CB _ (λrest r s'=>r.1=none/\s'=s/\∃l,El (λk=>∀{n:Nat}{a:Addr}{Q:Bool->Shared->Prop},dep k<n->wV s.heap k a->Q true s->wpAny (model prog w) A (eqIsQuiet n (.ref a)) Q E s) l/\dep l<=n/\IsT s.heap l rest) _ ?_ ?_ _ _ #[rfl,rfl,k,ek,by lia,hi]
 .
  rintro v rest r s' ⟨hr,rfl,l,el,dl,hl⟩;cases l with
  |nil=>cases (show v::rest=[]from hl)
  |ci i q=>obtain⟨tk,_,e,hr1⟩:=hl;cases e;rw[eqIsQuiet_byValue _ rfl];refine aS (a8 ?_);simp only[BH,oP,BM];exact a8 #[rfl,rfl,q,el,dl,hr1]
  |ct u q=>
   obtain⟨ad,_,e,hu1,hr1⟩:=hl;cases e;have du:dep u+1<=n/\dep q<=n:=by have:max (dep u+1) (dep q)<=n:=dl;lia
   refine aS (el.1 ⋯ hu1 ?_);simp only[BH,oP,BM];exact a8 #[rfl,rfl,q,el.2,du.2,hr1]
 . rintro⟨r1,r2⟩ s' ⟨hr,rfl,_⟩;simp only at hr;subst hr;exact a8 h
abbrev Pn:={ k:Kt // dep k<=3}
theorem Vp{A:Around}{E:Value->Shared->Prop}{s:Shared}{x y:Kt}{a b:Addr}{Q:Bool->Shared->Prop}(hx:dep x<=3)(hu:A.units+4<cLine)(p:wV s.heap x a)(q:wV s.heap y b)(h:Q (decide (x=y)) s) :
  wpAny (model prog w) A (eqBool (.ref a) (.ref b)) Q E s:=by
 have dv:∀{k:Kt}{a:Addr},wV s.heap k a->Ev.Dv s.heap (.tup (dT k)) (.ref a):=λ#[o,its,n,e,c,d,z]=>.tup (us:=its.toList) #[o,e,c,n,by simpa using d] (Vo z)
 refine (Ev.uS 4 (d1:=.tup (dT x)) (d2:=.tup (dT y)) ?_ (dv p) (dv q) hu).1 prog w E Q ?_
 . show Ev.deps (dT x)+1<=4;rw[HW];lia
 . show Q (Ev.dg (dT x) (dT y)) s;rw[Q9];exact h
def j8(prog:Program)(w:World):HeapKind prog w Pn where
 is:=λh k a=>wV h k.1 a
 hash:=λk=>hsR k.1
 draws:=λk=>lZ k.1+1
 room:=λA=>A.units+4<cLine
 inj:=λhx hy=>Subtype.ext (NT hx hy)
 keeps:=λ{h h' k a d o es ep} x ho hd hs=>HR (λb o' #[its,n,q] e=>(hs.2 b (λz=>by rw[z,ho]at e;cases e;rw[hd]at q;exact nomatch q)).trans e) x
 pyHash:=λ{A E s k a Q} hu x h=>zO k.1 (by have:=k.2;lia) x h
 eqBool:=λ{A E s x y a b Q} hu p q h=>Vp x.2 hu p q (by rw[show decide (x.1=y.1)=decide (x=y)from decide_eq_decide.mpr Subtype.ext_iff.symm];exact h)
 quiet:=λ{A E s k a Q} x h=>HX k.1 (by have:=k.2;lia) x h
end
end Nk
namespace Nk
open PySem PySem.W
def DR(h:Heap)(d:Addr)(es:Array DictEntry)(ep:Nat):Prop:=∃o,h.get? d=!o/\o.ExactDict/\o.data=.dict es ep
theorem DR.typeIs{s:Shared}{d:Addr}{es ep}(x:DR s.heap d es ep):s.TypeIs (.ref d) "dict" :=let #[o,ho,hc,_]:=x;#[o,ho,hc.1]
theorem DR.lt{h:Heap}{d:Addr}{es ep}(x:DR h d es ep):d<h.objs.size:=let #[_,ho,_]:=x;dS ho
theorem DR.keep{h h':Heap}{d:Addr}{es ep}(x:DR h d es ep)(k:∀o,h.get? d=!o->h'.get? d=!o):DR h' d es ep:=let #[o,ho,r]:=x;#[o,k o ho,r]
section
variable{prog:Program}{w:World}{A:Around}{E:Value->Shared->Prop}{s:Shared}{d it:Addr}{es:Array DictEntry}{ep i:Nat}
theorem Vq{Q:Value->Shared->Prop}(hd:(d==sysModules)=false)(hm:DR s.heap d es ep)(h:Q (.int es.size s.toks) { s with toks:=s.toks+1}):wpAny (model prog w) A (call (.builtin "dict.__len__") [.ref d]) Q E s:=by have hT:=hm.typeIs;obtain⟨o,ho,hc,hdat⟩:=hm;refine mE F.slot_dict_len hT F.entry_dict_len ?_ (F.args_dict_len_1 _);show wpAny _ _ (dictSize d >>= _) _ _ s;unfold dictSize;refine aS (aS (u8 ho hdat (a8 ?_)));show wpAny _ _ (Builtin.Dict.pendingCount d >>= _) _ _ s;refine aS (wpAny_pendingCount_other hd ?_);refine wpAny_ret_mkInt ?_;exact (by simpa using h)
theorem NX{Q:Value->Shared->Prop}(hd:(d==sysModules)=false)(hm:DR s.heap d es ep)
  (hQ:Q (.ref s⁻¹) { s with heap:=s.heap.push { cls:=.type "dict_keyiterator",data:=.fields ([.ref d,.int 0 0,.int es.size 0,.int ep 0].toArray)}}) :
  wpAny (model prog w) A (pyIter (.ref d)) Q E s:=by
 have hT:=hm.typeIs;obtain⟨o,ho,hc,hdat⟩:=hm;refine wpAny_pyIter_slot hT F.slot_dict_iter (mE F.slot_dict_iter hT F.entry_dict_iter ?_ (F.args_dict_iter_1 _));unfold Builtin.«dict.__iter__»;refine aS ?_;unfold Builtin.Dict.dictSlotNone;refine aS (wpAny_notOrdered_dict hT ?_);refine a8 ?_;show wpAny _ _ (Builtin.Dict.showsAll d >>= _) _ _ s;unfold Builtin.Dict.showsAll;rw[fN (by rw[hd];exact mM)]
 refine aS (a8 (aS (u8 ho hdat (aS (wpAny_dictEpoch ho hdat ?_)))));refine aS (lS (a8 #[_,rfl, "dict_keyiterator",_,#[_,dC _ rfl,rfl],F.slot_dict_keyiterator_next.lookup,?_]));simpa [rawInt]using hQ
theorem NZ{Q:Option Value->Shared->Prop}(hit:s.heap.IsKeyIter it d i es.size ep)(hm:DR s.heap d es ep)(hi:i<es.size)
  (hQ:∀h',h'.IsKeyIter it d (i+1) es.size ep->Heap.SameBut it s.heap h'->Q (some es[i].key) { s with heap:=h'}):wpAny (model prog w) A (pyNext (.ref it)) Q E s:=by
 obtain⟨o,ho,hc,hd⟩:=id hit;obtain⟨od,hod,bU,hdd⟩:=id hm;unfold pyNext;refine aS (BA (n4 (name:=Str.ofString "__next__") hit.typeIs yA
  (mE yA hit.typeIs F.entry_dict_keyiterator_next ?_ (F.args_dict_keyiterator_next_1 _))))
 refine aS (a8 (aS (aS ?_)))
 first |refine aS (xL hit.typeIs (a8 ?_)) |refine aS (AK hit.typeIs (a8 ?_))
 refine aS (wpAny_fieldsOf ho hd ?_);have hown:Builtin.Dict_items.ownsTuple "dict_keyiterator"=false:=by decide
 simp only[hown,oP,BM];show wpAny _ _ (if (Value.ref d==Value.none)=true then _ else _) _ _ s
 rw[fN (show ¬ ((Value.ref d==Value.none)=true)from mM)]
 refine aS (a8 (aS (u8 hod hdd ?_)));rw[fN ⋯];refine aS (a8 (aS (wpAny_dictEpoch hod hdd ?_)));rw[fN ⋯];refine a8 ?_;simp only[show ¬ ((i:Int)<0)from by lia,BM,AJ,rV hi]
 refine aS ?_
 first |refine aS (xL hit.typeIs (a8 ?_)) |refine aS (AK hit.typeIs (a8 ?_))
 refine aS (wpAny_isOneOf_keyiter hit.typeIs ?_);show wpAny _ _ (setField (.ref it) 1 (rawInt ((i:Int)+1)) >>= _) _ _ s;refine aS (sT ho hd ⋯ ?_);have vo:(s.heap.update it (Obj.mapFields (·.setIfInBounds 1 (rawInt ((i:Int)+1))))).IsKeyIter it d (i+1) es.size ep:=
  #[_,i9 _ ho (o4 (nE hd _)),(AX ..).trans hc,by rw[nE hd];simp[rawInt]]
 refine aS (hU ?_);refine aS (wpAny_isOneOf_keyiter (s:={ s with heap:=s.heap.update it (Obj.mapFields (·.setIfInBounds 1 (rawInt ((i:Int)+1))))}) vo.typeIs ?_);show wpAny _ _ (pure es[i].key) _ _ _;exact a8 (a8 #[_,rfl,a8 (hQ _ vo (o5 ..))])
theorem N1{Q:Option Value->Shared->Prop}(hh:A.handled=none)(hit:s.heap.IsKeyIter it d es.size es.size ep)(hm:DR s.heap d es ep)
  (hQ:∀h',Heap.ExtBut it s.heap h'->Q none { s with heap:=h'}):wpAny (model prog w) A (pyNext (.ref it)) Q E s:=by
 obtain⟨o,ho,hc,hd⟩:=id hit;obtain⟨od,hod,bU,hdd⟩:=id hm;unfold pyNext;refine aS (BA (n4 (name:=Str.ofString "__next__") hit.typeIs yA
  (mE yA hit.typeIs F.entry_dict_keyiterator_next ?_ (F.args_dict_keyiterator_next_1 _))))
 refine aS (a8 (aS (aS ?_)))
 first |refine aS (xL hit.typeIs (a8 ?_)) |refine aS (AK hit.typeIs (a8 ?_))
 refine aS (wpAny_fieldsOf ho hd ?_);have hown:Builtin.Dict_items.ownsTuple "dict_keyiterator"=false:=by decide
 simp only[hown,oP,BM];show wpAny _ _ (if (Value.ref d==Value.none)=true then _ else _) _ _ s
 rw[fN (show ¬ ((Value.ref d==Value.none)=true)from mM)]
 refine aS (a8 (aS (u8 hod hdd ?_)));rw[fN ⋯];refine aS (a8 (aS (wpAny_dictEpoch hod hdd ?_)));rw[fN ⋯];refine a8 ?_;simp only[show ¬ ((es.size:Int)<0)from by lia,BM,AJ,Array.getElem?_eq_none (dE es.size)]
 refine aS ?_
 first |refine aS (xL hit.typeIs (a8 ?_)) |refine aS (AK hit.typeIs (a8 ?_))
 show wpAny _ _ (setField (.ref it) 0 .none >>= _) _ _ s;refine aS (sT ho hd ⋯ ?_);show wpAny _ _ (newExc (.type "StopIteration") [] >>= _) _ _ _;refine aS ?_;simp only[newExc,newTuple];refine aS (lS ?_ (by size_fits))
 refine aS (m:=firstArgMember _ _) (B8 (a:=Value.none) (by first |rfl | (simp only[firstArgMember];rfl)) ?_)
 refine lS ?_ (by size_fits)
 simp only[raiseNew];refine aS (wpAny_handled ?_);rw[show A.in1.handled=none from hh]
 refine aS (a8 (wpAny_throw ?_));refine aS (AD (T:= "StopIteration") (b:=true) #[_,dC _ rfl,rfl] isSubtype_stop ?_);exact a8 (hQ _ (((o5 ..).extBut.push _).push _))
theorem yp(hh:A.handled=none)(I:Addr)(kO:d≠I):Walks prog w A I [I,d] [I] es.size (λi v=>es[i]?.map (·.key)=!v) (λi h=>h.IsKeyIter I d i es.size ep/\DR h d es ep) where
 sub:=λb hb=>by simp at hb;simp[hb]
 frame:=λ_ _ _ st hk=>#[st.1.at λo e=>hk I ⋯ o e,st.2.keep λo e=>hk d ⋯ o e]
 item:=λi s Q E hi st hQ=>NZ st.1 st.2 hi λh' vo hs'=>hQ _ h' s.toks (by simp[hi]) #[vo,st.2.keep λo e=>(hs'.2 d kO).trans e] λb o hb e=>hs'.extBut b o (λh=>hb (by simp[h])) e
 done:=λs Q E st hQ=>N1 hh st.1 st.2 λh' he'=>hQ h' s.toks λb o hb e=>he' b o (λh=>hb (by simp[h])) e
 self:=λ_ _ _ _ st hQ=>wpAny_pyIter_keyiter st.1 hQ
theorem CZ(lo:(d==sysModules)=false):KdlSrc prog w "dict" d d es.size (λi v=>es[i]?.map (·.key)=!v) (λh=>DR h d es ep) where
 type:=λ_ hm=>hm.typeIs
 there:=λ_ hm=>#[hm.lt,hm.lt]
 keep:=λ_ _ hm hk=>hm.keep λo e=>hk d (.inl rfl) o e
 notList:=by decide
 notTuple:=by decide
 hint:=λ_ _ _ _ hm hq=>kdl_hint_dict hm.typeIs hq
 iter:=λ_ _ hh hm=>#[_,_,(λ_ _ hq=>NX lo hm hq),yp hh _ (fA hm.lt),#[#[_,dC _ rfl,rfl,rfl],hm.keep λo e=>a9 _ e]]
theorem N2{Q:Value->Shared->Prop}(hh:A.handled=none)(lo:(d==sysModules)=false)(hm:DR s.heap d es ep)(hz:es.size<=sizeLine)
  (hQ:∀h' tk c',(∀b o,s.heap.get? b=!o->h'.get? b=!o)->h'.get? s⁻¹=some { cls:=.type "list",data:=.seq (es.map (·.key)) c'}->Q (.ref s⁻¹) { s with heap:=h',toks:=tk}) :
  wpAny (model prog w) A (call (.type "list") [.ref d]) Q E s:=by
 refine kdl_call (CZ lo) hh hm hz λh' tk acc' c' hk hl it=>hQ h' tk c' hk ?_
 have e:acc'=es.map (·.key):=by
  apply Array.ext
  . rw[it.1];simp
  .
   intro i h1 h2;have:=it.2 i acc'[i] (by simp[h1])
   simp at h2;simp[h2]at this;simp[this]
 rw[<- e];exact hl
theorem ne_ok{b:Addr}{epb:Nat}{Q:Value->Shared->Prop}(ha:(d==sysModules)=false)(hb:(b==sysModules)=false)(da:DR s.heap d es ep)(db:DR s.heap b ([].toArray) epb)(hu:A.units<cLine)
  (h:Q (.bool (decide (es.size≠0))) s):wpAny (model prog w) A (compareOp .NotEq (.ref d) (.ref b)) Q E s:=by
 have hT:=da.typeIs;have Ed:=db.typeIs;obtain⟨o,ho,hc,hdat⟩:=da;obtain⟨o',ho',hc',hdat'⟩:=db;refine wpAny_richCompare_same_room (op:=.NotEq) hT Ed PySem.F.slot_dict_ne (mE PySem.F.slot_dict_ne hT PySem.F.entry_dict_ne ?_ (PySem.F.args_dict_ne_2 _ _)) hu;show wpAny _ _ (Builtin.Dict.dictSlotArgs "__ne__" #[[.ref d,.ref b],[]] >>= _) _ _ s;refine aS ?_;unfold Builtin.Dict.dictSlotArgs;refine aS (wpAny_notOrdered_dict hT ?_);show wpAny _ _ (pure (Value.ref d,Value.ref b)) _ _ s;refine a8 (aS (AD (T:= "dict") Ed PySem.F.sub_dict_dict ?_));simp only[BH,oP,BM];refine aS (a8 (aS (a8 (aS ?_))));unfold Builtin.Dict.samePairs Builtin.Dict.showsAll;rw[fN (by rw[ha];exact mM),fN (by rw[hb];exact mM)]
 refine aS (a8 (aS (a8 (aS (u8 ho hdat (aS (u8 ho' hdat' ?_)))))));by_cases hz:es.size=0
 .
  rw[hz];rw[fN ⋯];refine aS (wpAny_dictEpoch ho hdat (aS ?_));rw[Std.Legacy.Range.forIn_eq_forIn_range'];refine a8 (a8 (a8 #[_,rfl,#[(λx=>nomatch x),?_]]))
  rw[hz]at h;exact h
 .
  rw[hV (by simpa using hz)]
  refine aS (A9 (a8 (a8 #[_,rfl,#[(λx=>nomatch x),?_]])))
  rw[show decide (es.size≠0)=true from kS hz]at h
  exact h
end
end Nk
namespace Nk
open PySem PySem.W
def ent(x:Pn×Addr):DictEntry:=#[hsR x.1.1,.ref x.2,.bool true]
def ND(d:Addr)(xs:List (Pn×Addr))(h:Heap):Prop:=((d==sysModules)=false/\xs.length<=sizeLine)/\∃es ep,DR h d es ep/\es.toList=xs.map ent/\(xs.map (·.1)).Nodup
def zP(h:Heap)(xs:List (Pn×Addr)):Prop:=∀x∈xs,wV h x.1.1 x.2
noncomputable def zQ(xs:List (Pn×Addr)):List (Pn×Addr×Value):=xs.map λx=>(x.1,x.2,.bool true)
noncomputable def drop(xs:List (Pn×Addr))(k:Pn):List (Pn×Addr):=xs.filter λx=>decide (x.1≠k)
section
variable{prog:Program}{w:World}{A:Around}{E:Value->Shared->Prop}{s:Shared}{d a:Addr}{xs:List (Pn×Addr)}{k:Pn}
theorem gJ(xs:List (Pn×Addr)):(zQ xs).map (·.1)=xs.map (·.1):=by unfold zQ;rw[List.map_map];rfl
theorem sY(xs:List (Pn×Addr)):(zQ xs).map (entryOfKey (j8 prog w))=xs.map ent:=by unfold zQ;rw[List.map_map];rfl
theorem ND.qk(x:ND d xs s.heap)(y:zP s.heap xs):s.heap.DictOfH (j8 prog w) d (zQ xs):=by
 obtain⟨_,es,ep,⟨o,ho,hc,hd⟩,he,hn⟩:=x;refine#[o,es,ep,ho,hc,hd,he.trans (sY xs).symm,λz hz=>?_,(gJ xs).symm▸hn]
 obtain⟨q,hq,rfl⟩:=i5.mp hz;exact y q hq
theorem HY{h:Heap}(hz:(d==sysModules)=false/\xs.length<=sizeLine)(x:h.DictOfH (j8 prog w) d (zQ xs)):ND d xs h:=by obtain⟨o,es,ep,ho,hc,hd,he,_,hn⟩:=x;exact#[hz,es,ep,#[o,ho,hc,hd],he.trans (sY xs),gJ xs▸hn]
theorem yq:∀(xs:List (Pn×Addr)),atKey (zQ xs) k=(xs.find? λx=>decide (x.1=k)).map λx=>(x.2,.bool true)
 | []=>rfl
 |x::xs=>by
  have ih:=yq xs;unfold atKey zQ at ih ⊢
  rw[List.map_cons,C4,C4];by_cases e:x.1=k
  . rw[kS e];rfl
  . rw[nK e];exact ih
theorem find_some(k:Pn)(xs:List (Pn×Addr)):(xs.find? λx=>decide (x.1=k)).isSome=decide (k∈xs.map (·.1)):=by apply Bool.eq_iff_iff.mpr;rw[List.find?_isSome];simp only[eQ,i5]
theorem qN{α β:Type}(f:α->β):∀(l:List α) (j:Nat),(l.eraseIdx j).map f=(l.map f).eraseIdx j
 | [],_=>rfl
 |_::_,0=>rfl
 |x::l,j+1=>by rw[BN,List.map_cons,List.map_cons,BN,qN f l j]
theorem n8:∀{xs:List (Pn×Addr)}{j:Nat}{x:Pn×Addr},(xs.map (·.1)).Nodup->xs[j]?=!x->drop xs x.1=xs.eraseIdx j
 | [],_,_,_,hx=>nomatch (show none=!_ from hx)
 |y::ys,0,x,hn,hx=>by
  cases (show some y=!x from hx)
  rw[List.map_cons,fR]at hn;unfold drop;rw[BO ⋯,List.eraseIdx_zero,List.tail_cons];exact List.filter_eq_self.mpr λz hz=>kS λq=>hn.1 (q▸oQ hz)
 |y::ys,j+1,x,hn,hx=>by
  rw[List.map_cons,fR]at hn;have hx:ys[j]?=!x:=hx;have hy:y.1≠x.1:=λq=>hn.1 (q▸oQ (hZ hx))
  have ih:=n8 hn.2 hx;unfold drop at ih ⊢
  rw[BQ (by simp[hy]),BN,ih]
theorem fL{Q:Option DictEntry->Shared->Prop}(hu:A.units+4<cLine)(hk:wV s.heap k.1 a)(hm:ND d xs s.heap)(hy:zP s.heap xs)(hin:k∈xs.map (·.1))
  (h:∀e h',ND d (drop xs k) h'->Heap.SameBut d s.heap h'->e.val=.bool true->Q (!e) { s with heap:=h',toks:=s.toks+(lZ k.1+1)}) :
  wpAny (model prog w) A (Builtin.Dict.takeOut d (.ref a)) Q E s:=by
 have D:=hm.qk (prog:=prog) (w:=w) hy;obtain⟨o,es,ep,ho,hc,hd,he,his,hn⟩:=D;have he':es.toList=xs.map ent:=he.trans (sY xs);have hsz:es.size=xs.length:=by rw[<- i8,he',eA]
 unfold Builtin.Dict.takeOut
 try with_reducible refine hU ?_
 refine aS (zO k.1 (by have:=k.2;lia) hk ?_)
 refine aS (wpAny_dictFind_heap (knd:=j8 prog w) (k:=k) (s:={ s with toks:=s.toks+(lZ k.1+1)}) hu hk ho hd he his hn (λhno=>?_) λj p hj=>?_)
 . have:=not_mem_keys_of_get hno;rw[gJ]at this;exact absurd hin this
 .
  have hj':xs[j]?.map (λx=>(x.1,x.2,Value.bool true))=!(k,p):=by rw[<- oI];exact hj
  obtain⟨x,hx,e⟩:=t9.mp hj';have hjl:j<xs.length:=(c8.mp hx).1;have ex:es[j]?=!(ent x):=by rw[<- AF,he',oI,hx];rfl
  refine aS (u8 (s:={ s with toks:=s.toks+(lZ k.1+1)}) ho hd ?_);rw[ex];refine aS (wpAny_updateDictKeys (hz:=by rw[hsz];exact hm.1.2) (s:={ s with toks:=s.toks+(lZ k.1+1)}) ho hd (a8 (h _ _ ?_ (o5 ..) rfl)))
  have QW:x.1=k:=congrArg Prod.fst e;have edrop:drop xs k=xs.eraseIdx j:=QW▸n8 (gJ xs▸hn) hx;refine#[#[hm.1.1,n0 (List.length_filter_le _ _) hm.1.2],_,ep+1,#[_,i9 _ ho (Obj.isFreed_of_dict (Obj.data_mapDictKeys hd _)),hc.mapDictKeys _,Obj.data_mapDictKeys hd _],?_,?_]
  . rw[edrop,qN,<- he'];simp[Array.eraseIdxIfInBounds,hsz,hjl]
  . rw[gJ]at hn;exact hn.sublist (List.filter_sublist.map _)
theorem Vs{Q:Value->Shared->Prop}(hu:A.units+5<cLine)(hk:wV s.heap k.1 a)(hm:ND d xs s.heap)(hy:zP s.heap xs)(hin:k∈xs.map (·.1))
  (h:∀h',ND d (drop xs k) h'->Heap.SameBut d s.heap h'->Q (.bool true) { s with heap:=h',toks:=s.toks+(lZ k.1+1)}) :
  wpAny (model prog w) A (call (.builtin "dict.pop") [.ref d,.ref a]) Q E s:=by
 have hT:s.TypeIs (.ref d) "dict" :=let #[_,_,_,x,_]:=hm;x.typeIs
 refine mE F.slot_dict_pop hT F.entry_dict_pop ?_ (F.args_dict_pop_2 _ _);unfold Builtin.«dict.pop»;refine aS ?_;unfold Builtin.Dict.keyAndDefault;refine aS (wpAny_notOrdered_dict hT ?_);show wpAny _ _ (pure (d,Value.ref a,none)) _ _ s;refine a8 ?_;have hp:(keyPart (.ref a)).isSome=false:=rfl;simp only[hp,oP,BM];have D:=hm;obtain⟨_,es,ep,⟨o,ho,hc,hd⟩,he,hn⟩:=D;refine aS (u8 ho hd (aS (a8 ?_)));have kO:es.isEmpty=false:=by
  cases xs with
  |nil=>cases hin
  |cons x xs=>have:=congrArg List.length he;rw[i8,eA,gL]at this;simp only[Array.isEmpty_eq_false_iff,ne_eq];rintro rfl;simp at this
 rw[kO];simp only[oP,BM];refine aS (fL (k:=k) (by show A.units+1+4<cLine;lia) hk hm hy hin λe h' x1 x2 ev=>?_)
 simp only[Option.isNone_some,oP,BM];exact aS (C5 (a8 #[e.val,rfl,by rw[ev];exact h h' x1 x2]))
end
end Nk
namespace Nk
open L2 Ev
def NO(d:Addr)(xs:List (Pn×Addr))(o:Obj):Prop:=((d==sysModules)=false/\xs.length<=sizeLine)/\o.ExactDict/\∃es ep,o.data=.dict es ep/\es.toList=xs.map ent/\(xs.map (·.1)).Nodup
abbrev nD (d:Addr) (xs:List (Pn×Addr)):HO:=.set (NO d xs)
def Kf(K:Frag)(H:Hp)(k:Kt)(b:Addr):Prop:=∃M,Rep K M H (.tup (dT k)) (.ref b)
theorem n9:∀k:Kt,eE (dT k)=true
 |.nil=>rfl
 |.ci _ r=>by show (true&&eE (dT r))=true;rw[n9 r];rfl
 |.ct a r=>by show (eE (dT a)&&eE (dT r))=true;rw[n9 r,n9 a];rfl
theorem Vt{h:Heap}{k:Kt}:∀{vs:List Value},jf h (dT k) vs->IsT h k vs:=by
 induction k with
 |nil=>intro vs x;cases x;rfl
 |ci i r ir=>intro vs x;cases x with |cons a b=>cases a with |int i t=>exact⟨t,_,rfl,ir b⟩
 |ct a r ia ir=>
  intro vs x;cases x with |cons p b=>cases p with |tup h q=>
   obtain⟨o,e,c,n,d⟩:=h;exact#[_,_,rfl,#[o,_,n,e,c,d,by simpa using ia q],ir b]
section
variable{X:Cx}{ah: ~~~1}{Y:Sg}{H:Hp}{s:Shared}{D:Addr}{xs:List (Pn×Addr)}
theorem Kf.is{k:Kt}{b:Addr}(I: ~~~7)(x:Kf X.K H k b):wV s.heap k b:=by
 obtain⟨M,q⟩:=x;have:=q.dv I (u:=.ref b) rfl (n9 k);cases this with |tup h q=>
  obtain⟨o,e,c,n,d⟩:=h;exact#[o,_,n,e,c,d,by simpa using Vt q]
def qO(K:Frag)(H:Hp)(xs:List (Pn×Addr)):Prop:=∀x∈xs,Kf K H x.1.1 x.2
theorem qO.is(I: ~~~7)(x:qO X.K H xs):zP s.heap xs:=λy hy=>(x y hy).is I
theorem Inv.nd(I: ~~~7)(h:H D=!(nD D xs)):ND D xs s.heap:=by obtain⟨o,e,z,c,es,ep,d,r⟩:=(show bG X.prog X.w H s.heap D (nD D xs)from I.hok D _ h);exact#[z,es,ep,#[o,e,c,d],r]
theorem Ra{P:Program}{w:World}{H:Hp}{D:Addr}{xs:List (Pn×Addr)}{h:Heap}(x:ND D xs h):bG P w H h D (nD D xs):=by obtain⟨z,es,ep,⟨o,e,c,d⟩,r⟩:=x;exact#[o,e,z,c,es,ep,d,r]
theorem Inv.Rb{ys:List (Pn×Addr)}{h':Heap}{t:Nat}(I: ~~~7)(h:H D=!(nD D xs))(sb:Heap.SameBut D s.heap h')(x:ND D ys h'):Inv X ah Y (upd H D (nD D ys)) { s with heap:=h',toks:=t}:=by obtain⟨_,_,_,⟨o,e,_⟩,_⟩:=id x;exact I.write (x:=D) (e:=D) (by rw[h];trivial) (.inl rfl) (λb q hb z=>(sb.2 b hb).trans z) #[o,e] (Ra x)
theorem oh:∀xs:List (Pn×Addr),Vals (xs.map λx=>V.ref x.2) (xs.map λx=>Value.ref x.2)
 | []=>.nil
 |_::xs=>.cons rfl (oh xs)
theorem Vu(hu:X.A.units+6<cLine):jq X (compareOp .In) (λx y H Q=>∃b D xs,∃k:Pn,x=.ref b/\y=.ref D/\H D=!(nD D xs)/\Kf X.K H k.1 b/\qO X.K H xs/\Q (.bl (decide (k∈xs.map (·.1)))) H):=by
 rintro ah s Y H _ _ v u Q I rx ry ⟨b,D,xs,k,rfl,rfl,hD,hk,hy,q⟩;cases rx;cases ry;have nd:=Inv.nd I hD;refine wpAny_in_heap (knd:=j8 X.prog X.w) (k:=k) (by show X.A.units+1+4<cLine;lia) (hk.is I) nd.1.1 (nd.qk (hy.is I)) #[.bl (decide (k∈xs.map (·.1))),H,I.tok _,?_,q]
 rw[yq,Option.isSome_map,find_some];rfl
theorem Vv(hu:X.A.units+6<cLine):jq X (compareOp .NotEq) (λx y H Q=>∃D B xs,x=.ref D/\y=.ref B/\H D=!(nD D xs)/\H B=!(nD B [])/\Q (.bl (decide (xs≠[]))) H):=by
 rintro ah s Y H _ _ v u Q I rx ry ⟨D,B,xs,rfl,rfl,hD,hB,q⟩;cases rx;cases ry;obtain⟨z,es,ep,d,e,_⟩:=Inv.nd I hD;obtain⟨z',es',Eb,d',e',_⟩:=Inv.nd I hB;have:es' = ([].toArray):=Array.ext' e';subst this;refine ne_ok z.1 z'.1 d d' ⋯ #[.bl (decide (xs≠[])),H,I,?_,q];have hz:es.size=xs.length:=by rw[<- i8,e,eA]
 have:decide (es.size≠0)=decide (xs≠[]):=by rw[hz];cases xs <;> simp
 rw[this];rfl
theorem yr(hc:X.calm=true):cF X (.type "list") (λvs H Q=>∃D xs,vs=[.ref D]/\H D=!(nD D xs)/\∀l,H l=none->Q (.ref l) (upd H l (.lst (xs.map λx=>.ref x.2)))):=by
 rintro ah s Y H vs us Q I r ⟨D,xs,rfl,hD,q⟩;obtain⟨u,rfl,rx⟩:=vals1 r;cases rx;obtain⟨z,es,ep,d,e,_⟩:=Inv.nd I hD;have hz:es.size=xs.length:=by rw[<- i8,e,eA]
 refine N2 (I.ok.hd hc) z.1 d (by rw[hz];exact z.2) λh' tk c' kp hl=>?_
 refine#[.ref s⁻¹,_,I.laid kp (dE _) (show bG X.prog X.w _ h' _ (.lst (xs.map λx=>.ref x.2))from#[by rw[eA];exact z.2,xs.map λx=>.ref x.2,c',?_,?_]),rfl,q _ (I.hok.fresh (dE _))]
 . exact oh _
 .
  rw[hl];have:es.map (·.key)=(xs.map λx=>Value.ref x.2).toArray:=by apply Array.ext';rw[Array.toList_map,e,List.map_map];rfl
  rw[this]
theorem N3(hu:X.A.units+6<cLine):MtM X "dict.pop" (λx vs H Q=>∃D xs b,∃k:Pn,x=.ref D/\vs=[.ref b]/\H D=!(nD D xs)/\Kf X.K H k.1 b/\qO X.K H xs/\k∈xs.map (·.1)/\Q (.bl true) (upd H D (nD D (drop xs k)))):=by rintro ah s Y H _ _ v us Q I rx rv ⟨D,xs,b,k,rfl,rfl,hD,hk,hy,hin,q⟩;cases rx;obtain⟨u,rfl,ru⟩:=rv.one;cases ru;exact Vs ⋯ (hk.is I) (Inv.nd I hD) (hy.is I) hin λh' nd sb=>#[.bl true,_,Inv.Rb I hD sb nd,rfl,q]
theorem zR{pos:Pos}:PE X (.Dict [] [] pos) (λY H Q=>∀p,H p=none->Q (.ref p) (upd H p (nD p []))):=by
 intro ah s Y H Q I h;have hy:(s⁻¹==sysModules)=false:=by
  have h1:=(I.ok.mod.glob.keeps I.bk).lt;refine Bool.eq_false_iff.mpr λq=>?_
  have q:=eq_of_beq q;rw[q]at h1;exact absurd h1 ⋯
 exact wpAny_Dict_empty #[.ref s⁻¹,_,I.laid (a:=s⁻¹) (o:=nD s⁻¹ []) (t':=s.toks) (λ_ _ q=>a9 _ q) (dE _)
  (Ra #[#[hy,tP _],([].toArray),0,#[_,dC _ rfl,#[rfl,rfl,rfl],rfl],rfl,yY]),rfl,h _ (I.hok.fresh (dE _))]
noncomputable def putN(xs:List (Pn×Addr))(k:Pn)(c:Addr):List (Pn×Addr):=if k∈xs.map (·.1)then xs else xs++[(k,c)]
theorem N4(xs:List (Pn×Addr))(k:Pn)(c:Addr):storedH (zQ xs) k c (.bool true)=zQ (putN xs k c):=by
 have e:(atKey (zQ xs) k).isSome=decide (k∈xs.map (·.1)):=by rw[yq,Option.isSome_map,find_some]
 unfold putN storedH;rw[e];by_cases h:k∈xs.map (·.1)
 .
  rw[hV h,hV (kS h)];unfold zQ;rw[List.map_map];refine Ap λx _=>?_
  show putAt k (.bool true) (x.1,x.2,.bool true)=_;unfold putAt;split <;> rfl
 .
  rw[fN h,fN (by simpa using h)]
  unfold zQ;rw[At];rfl
theorem N5(hu:X.A.units+6<cLine){y x:Expr}{val:Expr}{pos pos':Pos}{td tx tv:TE}(hd:PE X y td)(hx:PE X x tx)(hv:PE X val tv)(hs:swapsWith val (!(.Subscript y x pos')) pos.line X.env=pure false) :
  PS X (.Assign [.Subscript y x pos'] val pos) (λE Y H=>tv Y H λv H1=>td Y H1 λb H2=>tx Y H2 λk H3=>∃p xs c,∃k':Pn,b=.ref p/\k=.ref c/\v=.bl true/\H3 p=!(nD p xs)/\Kf X.K H3 k'.1 c/\qO X.K H3 xs/\xs.length<sizeLine/\E.nx Y (upd H3 p (nD p (putN xs k' c)))):=by
 intro ah s Y H E I h;refine wpAny_Assign_Subscript (bD (hv ah s Y H _ I h) λr s1 #[v,H1,I1,rv,q1]=>bD (hd ah s1 Y H1 _ I1 q1) λu s2 #[b,H2,I2,rx,q2]=>bD (hx ah s2 Y H2 _ I2 q2) λiv s3 #[k,H3,I3,ry,p,xs,c,k',e1,e2,e3,hp,hk,hy,hz,q3]=>?_) hs
 subst e1 e2 e3;obtain rfl:u=Value.ref p:=rx;obtain rfl:iv=Value.ref c:=ry;obtain rfl:r=Value.bool true:=rv;have nd:=Inv.nd I3 hp;refine wpAny_setItem_heap (knd:=j8 X.prog X.w) (k:=k') (hsz:=by unfold zQ;rw[eA];exact nd.1.2) (by show X.A.units+1+4<cLine;lia) (hk.is I3) (nd.qk (hy.is I3)) λh' dh sb=>?_
 rw[N4]at dh;refine#[Y,_,Inv.Rb I3 hp sb (HY #[nd.1.1,?_] dh),q3];unfold putN;split
 . exact nd.1.2
 . rw[eP];exact hz
theorem Dc:cF X (.builtin "len") (λvs H Q=>∃D xs,vs=[.ref D]/\H D=!(nD D xs)/\Q (.int xs.length) H):=by
 rintro ah s Y H vs us Q I r ⟨D,xs,rfl,hD,q⟩;obtain⟨u,rfl,rx⟩:=vals1 r;cases rx;obtain⟨z,es,ep,d,e,_⟩:=Inv.nd I hD;have hz:es.size=xs.length:=by rw[<- i8,e,eA]
 refine A3 kind_len plain_len entry_len (args_len1 _) ?_;unfold Builtin.«len»;refine aS (m:=oneArg "len" _) (a8 ?_);refine aS (m:=callSpecial? (.ref D) (Str.ofString "__len__")) (n4 (name:=Str.ofString "__len__") d.typeIs F.slot_dict_len (Vq z.1 d ?_));refine aS (hU (a8 ?_));refine aS (C5 ?_);have hs:=z.2;rw[tI]at hs;rw[hz];show wpAny _ _ (if ((xs.length:Nat):Int)<0 then _ else _) _ _ _
 rw[fN ⋯];show wpAny _ _ (if ((xs.length:Nat):Int) ≥ 2 ^ 63 then _ else _) _ _ _
 rw[fN ⋯];exact aS (wpAny_mkInt (a8 #[_,rfl,.int xs.length,H,I.tok _,#[_,rfl],q]))
end
end Nk
namespace Ev
open L2
def zU(z:Z)(D:Addr)(u:HO):Z:={ z with H0:=upd z.H0 D u,M0:=D::z.M0}
section
variable{z:Z}{D:Addr}{u v:HO}{g:G}{Y:Sg}{As M:List Addr}{H:Hp}
structure uw(z:Z)(D:Addr):Prop where
 h0:z.H0 D=none
 m0:∀m∈z.M0,z.H0 m≠none
 bm:∀b∈z.B,b∈z.M0
 tm:∀p∈z.T,p.1∈z.M0
theorem uw.of(s:S z g Y As M H)(h:H D=none):uw z D:=#[s.bY h,s.m0,s.bm,s.tm]
theorem uw.nB(d:uw z D):D∉z.B:=λh=>d.m0 _ (d.bm _ h) d.h0
theorem uw.nT(d:uw z D):D∉z.TA:=λh=>by
 obtain⟨p,hp,rfl⟩:=i5.mp h;exact d.m0 _ (d.tm _ hp) d.h0
theorem S.toU(s:S z g Y As M H)(d:uw z D)(hm:D∈M)(h:H D=!u)(hu:∀xs,u≠.lst xs):S (zU z D u) g Y As M H where
 sl:=s.sl
 nd:=s.nd
 sub:=s.sub
 own:=λi a l e1 e2=>by
  rcases s.own i a l e1 e2 with q |q
  . exact .inl q
  .
   obtain⟨a',xs,f1,_,f3,_⟩:=s.sl.at e1;rw[e2]at f1;injection f1 with f1;injection f1 with f1;injection f1 with f1;subst f1;refine .inr ?_;show upd z.H0 D u a=none;rw[au (λe=>by rw[e,h]at f3;exact hu _ (mI f3))]
   exact q
 live:=s.live
 keep:=λb o e hb ht=>by
  by_cases eb:b=D
  . subst eb;have e:upd z.H0 b u b=!o:=e;rw[az]at e;rw[h,e]
  . have e:upd z.H0 D u b=!o:=e;rw[au eb]at e;exact s.keep b o e hb ht
 eS:=λm hm'=>by
  rcases dL.mp hm' with rfl |hm'
  . exact hm
  . exact s.eS m hm'
 m0:=λm hm'=>by
  show upd z.H0 D u m≠none;by_cases eb:m=D
  . subst eb;rw[az];exact λe=>nomatch e
  .
   rw[au eb];rcases dL.mp hm' with e |hm'
   . exact absurd e eb
   . exact s.m0 m hm'
 bm:=λb hb=>bP _ (s.bm b hb)
 fH:=s.fH
 tab:=s.tab
 tm:=λp hp=>bP _ (s.tm p hp)
 tt:=s.tt
theorem S.ofU(s:S (zU z D u) g Y As M H)(d:uw z D):S z g Y As M H where
 sl:=s.sl
 nd:=s.nd
 sub:=s.sub
 own:=λi a l e1 e2=>by
  rcases s.own i a l e1 e2 with q |q
  . exact .inl q
  .
   have q:upd z.H0 D u a=none:=q;by_cases eb:a=D
   . subst eb;rw[az]at q;cases q
   . rw[au eb]at q;exact .inr q
 live:=s.live
 keep:=λb o e hb ht=>s.keep b o (by
  show upd z.H0 D u b=!o;rw[au (λeb=>by rw[eb,d.h0]at e;cases e)]
  exact e) hb ht
 eS:=λm hm=>s.eS m (bP _ hm)
 m0:=d.m0
 bm:=d.bm
 fH:=s.fH
 tab:=s.tab
 tm:=d.tm
 tt:=s.tt
theorem N6{K:Frag}(q:Slots K M H g Y As):D∈As->∃xs,H D=!(.lst xs):=by
 induction q with
 |nil=>exact λh=>nomatch h
 |no _ ih=>exact ih
 |dat _ _ ih=>exact ih
 |own e _ _ ih=>
  intro h;rcases dL.mp h with rfl |h
  . exact#[_,e]
  . exact ih h
theorem S.Vw(s:S (zU z D u) g Y As M H)(d:uw z D)(hu:∀xs,u≠.lst xs):H D=!u/\D∈M/\D∉As:=by
 have h1:=s.keep D _ (by show upd z.H0 D u D=_;rw[az]) d.nB d.nT
 refine#[h1,s.eS D b0,λhA=>?_]
 obtain⟨xs,e⟩:=N6 s.sl hA;rw[h1]at e;exact hu _ (mI e)
theorem S.putU(s:S (zU z D u) g Y As M H)(d:uw z D)(hu:∀xs,u≠.lst xs)(hv:∀xs,v≠.lst xs)(gu:Td u)(gv:Td v):S (zU z D v) g Y As M (upd H D v):=by obtain⟨h1,h2,h3⟩:=s.Vw d hu;exact ((s.ofU d).Te (u1:=v) h2 h3 d.h0 h1 gu gv).toU d h2 az hv
end
def tx(l:List Nat):Str:=#[l.toArray]
open PySem.Builtin PySem.Builtin.Str
structure Vr(X:Cx)(y:Str)(i:Nat):Prop where
 ix:X.N[i]?=!y
 vis:um X.env.scope y
 db:(y==(~~~3))=false
 cd:(y==("__classdict__":Str))=false
theorem Vr.pe{X:Cx}{y:Str}{i:Nat}{p:Pos}(v:Vr X y i):PE X (.Name y p) (Yw i):=fY v.ix v.vis v.db v.cd
open L2 Nk
theorem vN{D:Addr}{xs:List (Pn×Addr)}:∀ys,nD D xs≠.lst ys:=λ_ e=>nomatch e
structure DS(z:Z)(il:Nat)(D:Addr)(ks:List Pn)(g:G)(Y:Sg)(As M:List Addr)(H:Hp)(xs:List (Pn×Addr)):Prop where
 ke:xs.map (·.1)=ks
 s:S (zU z D (nD D xs)) g Y As M H
 rp:∀x∈xs,Rep z.K M H (.tup (dT x.1.1)) (.ref x.2)
 at':Y[il]?=!(!(.ref D))
abbrev DK(z:Z)(il:Nat)(D:Addr)(ks:List Pn)(g:G)(M:List Addr)(H:Hp)(Q:Sg->Hp->Prop):Prop:=∀σ' aB M' H' xs',DS z il D ks g σ' aB M' H' xs'->aq M H M' H'->Q σ' H'
def DT(X:Cx)(z:Z)(il:Nat)(st:Stmt)(ks:List Pn)(g:G)(ks':List Pn)(g':G):Prop:=
 ∃t,PS X st t/\∀D,uw z D->∀Y As M H xs E,DS z il D ks g Y As M H xs->DK z il D ks' g' M H E.nx->t E Y H
def DB(X:Cx)(z:Z)(il:Nat)(d8:List Stmt)(ks:List Pn)(g:G)(ks':List Pn)(g':G):Prop:=
 ∃t,pZ X d8 t/\∀D,uw z D->∀Y As M H xs E,DS z il D ks g Y As M H xs->DK z il D ks' g' M H E.nx->t E Y H
def DC(X:Cx)(z:Z)(il:Nat)(c:Expr)(ks:List Pn)(g:G)(b:Bool):Prop:=
 ∃t,PT X c t/\∀D,uw z D->∀Y As M H xs (Q:Bool->Hp->Prop),DS z il D ks g Y As M H xs->(∀aB M' H',DS z il D ks g Y aB M' H' xs->aq M H M' H'->Q b H')->t Y H Q
def Vx(X:Cx)(z:Z)(e:Expr)(g:G)(r:R)(g':G):Prop:=∀D u,aA X (zU z D u) e g r g'
section
variable{X:Cx}{z:Z}{il i:Nat}{D:Addr}{ks yt Ia:List Pn}{g g1 g2:G}{Y:Sg}{As M:List Addr}{H:Hp}{xs:List (Pn×Addr)}{pos pos':Pos}{y:Str}{e:Expr}
theorem DS.Ib(h:DS z il D ks g Y As M H xs)(hK:z.K=X.K):qO X.K H xs:=λx hx=>#[M,hK▸h.rp x hx]
theorem DS.hD(h:DS z il D ks g Y As M H xs)(d:uw z D):H D=!(nD D xs)/\D∈M:=#[(h.s.Vw d vN).1,(h.s.Vw d vN).2.1]
theorem DS.ev{σ':Sg}{aB M':List Addr}{H':Hp}(h:DS z il D ks g Y As M H xs)(s:S (zU z D (nD D xs)) g1 σ' aB M' H')(st:aq M H M' H')(e:σ'[il]?=!(!(.ref D))):DS z il D ks g1 σ' aB M' H' xs:=
 #[h.ke,s,λx hx=>(h.rp x hx).stay st,e]
theorem DS.put{ys:List (Pn×Addr)}(h:DS z il D ks g Y As M H xs)(d:uw z D)(hy:∀x∈ys,x∈xs\/Rep z.K M H (.tup (dT x.1.1)) (.ref x.2)):DS z il D (ys.map (·.1)) g Y As M (upd H D (nD D ys)) ys/\aq M H M (upd H D (nD D ys)):=by have st:aq M H M (upd H D (nD D ys)):=aq.write (h.hD d).2;exact#[#[rfl,h.s.putU d vN vN trivial trivial,λx hx=>(match hy x hx with |.inl q=>h.rp x q |.inr q=>q).stay st,h.at'],st]
theorem Vy:DB X z il [] ks g ks g:=#[_,za,λD d Y As M H xs E h k=>k Y As M H xs h (aq.refl _ _)]
theorem N7{st:Stmt}{d8:List Stmt}(h1:DT X z il st ks g yt g1)(h2:DB X z il d8 yt g1 Ia g2):DB X z il (st::d8) ks g Ia g2:=by obtain⟨t1,q1,k1⟩:=h1;obtain⟨t2,q2,k2⟩:=h2;exact#[_,cS q1 q2,λD d Y As M H xs E h k=>k1 D d Y As M H xs _ h λσ' aB M' H' xs' h' st=>k2 D d σ' aB M' H' xs' E h' λσ2 aL M2 H2 xs2 h2 aG=>k σ2 aL M2 H2 xs2 h2 (st.trans aG)]
theorem N8{r:R}(he:Vx X z e g r g1)(hs:swapsWith e none pos.line X.env=pure false):DT X z il (.Expr e pos) ks g ks g1:=by
 refine#[_,lP dw hs,λD d Y As M H xs E h k=>?_]
 obtain⟨t,q,kt⟩:=he D (nD D xs);exact#[t,q,kt Y As M H _ h.s λv H' aB M' s' st _=>k Y aB M' H' xs (h.ev s' st h.at') st]
theorem N9{x:Str}{d:Ev.D}(nx:sI X x i)(hi:i≠il)(hb:i∉z.bor)(he:Vx X z e g (.dat d) g1)(hs:swapsWith e (!(.Name x pos')) pos.line X.env=pure false):DT X z il (.Assign [.Name x pos'] e pos) ks g ks (g1.set i (.dat d)):=by
 refine#[_,fZ nx.nd nx.ix nx.lc dw hs nx.fn,λD dk Y As M H xs E h k=>?_]
 obtain⟨t,q,kt⟩:=he D (nD D xs);refine#[t,q,kt Y As M H _ h.s λv H' aB M' s' st R=>?_]
 obtain⟨aL,s2⟩:=s'.ez (i:=i) (d:=d) (v:=v) hb R;exact k _ aL M' H' xs (h.ev s2 st (by rw[eI hi];exact h.at')) st
theorem Oa{x:Str}{l:List Ev.D}(nx:sI X x i)(hi:i≠il)(hb:i∉z.bor)(hl:i<g1.length)(he:Vx X z e g (.new l) g1)(hs:swapsWith e (!(.Name x pos')) pos.line X.env=pure false):DT X z il (.Assign [.Name x pos'] e pos) ks g ks (g1.set i (.own l)):=by
 refine#[_,fZ nx.nd nx.ix nx.lc dw hs nx.fn,λD dk Y As M H xs E h k=>?_]
 obtain⟨t,q,kt⟩:=he D (nD D xs);refine#[t,q,kt Y As M H _ h.s λv H' aB M' s' st R=>?_]
 obtain⟨a,ws,rfl,hm,hA,h0,ha,rr⟩:=R;obtain⟨aL,s2⟩:=s'.jV hb hl hm hA h0 ha rr;exact k _ aL M' H' xs (h.ev s2 st (by rw[eI hi];exact h.at')) st
def putK(ks:List Pn)(k:Pn):List Pn:=if k∈ks then ks else ks++[k]
theorem Vz{py:Pos}{w:Expr}{g0:G}{k:Pn}(hu:X.A.units+6<cLine)(hK:z.K=X.K)(vy:Vr X y il)(hw:Vx X z w g (.dat (.bl true)) g0)(he:Vx X z e g0 (.dat (.tup (dT k.1))) g1)(hz:ks.length<1000)(hs:swapsWith w (!(.Subscript (.Name y py) e pos')) pos.line X.env=pure false) :
  DT X z il (.Assign [.Subscript (.Name y py) e pos'] w pos) ks g (putK ks k) g1:=by
 refine#[_,N5 hu vy.pe dw dw hs,λD d Y As M H xs E h0 kk=>?_]
 obtain⟨t0,q0,k0⟩:=hw D (nD D xs);refine#[t0,q0,k0 Y As M H _ h0.s λv0 H0 As0 M0 s0 st0 R0=>?_]
 cases (show Rep z.K M0 H0 (.bl true) v0 from R0)
 have h:=h0.ev s0 st0 h0.at';obtain⟨t,q,kt⟩:=he D (nD D xs);refine#[_,h.at',t,q,kt Y As0 M0 H0 _ h.s λv H' aB M' s' st R=>?_]
 have h1:=h.ev s' st h.at';obtain⟨f1,f2⟩:=h1.hD d;have R:Rep z.K M' H' (.tup (dT k.1)) v:=R;have R':=R;cases R' with |@tup _ c ys hc rc=>
 refine#[D,xs,c,k,rfl,rfl,rfl,f1,#[M',hK▸R],h1.Ib hK,?_,?_]
 . rw[<- eA (f:=(·.1)),h.ke,tI];lia
 .
  obtain⟨h2,aG⟩:=h1.put d (ys:=putN xs k c) λx hx=>by
   unfold putN at hx;split at hx
   . exact .inl hx
   .
    rcases vS.mp hx with q |q
    . exact .inl q
    . rw[mP.mp q];exact .inr R
  have e:(putN xs k c).map (·.1)=putK ks k:=by
   unfold putN putK;rw[<- h.ke];split
   . rfl
   . rw[At];rfl
  rw[e]at h2;exact kk Y aB M' _ _ h2 ((st0.trans st).trans aG)
theorem Ic{x:Str}{lp py lcp sp:Pos}{w:Expr}{k:Pn}(pw:PE X w (tC (.int 0)))(hp:lQ w)(hc:X.calm=true)(gl:Gl X "list")(ml:X.mg "list"=none)(vy:Vr X y il)(nx:sI X x i)(hi:i≠il)(hb:i∉z.bor)(hk:ks.head?=!k)(hz:ks.length<=1000) :
  DT X z il (.Assign [.Name x pos'] (.Subscript (.Call (.Name "list" lp) [.Name y py] [] lcp) w sp) pos) ks g ks (g.set i (.dat (.tup (dT k.1)))):=by
 refine#[_,fZ nx.nd nx.ix nx.lc (QF sr (qg (yr hc) gl ml rfl (bA vy.pe fF rfl)) pw hp) rfl nx.fn,λD d Y As M H xs E h kk=>?_]
 obtain⟨f1,f2⟩:=h.hD d;refine#[.ref D,h.at',D,xs,rfl,f1,λl hl=>?_]
 have hx:xs.length=ks.length:=by rw[<- h.ke,eA]
 obtain⟨x0,r0,e0⟩:∃x0 r0,xs=x0::r0:=by
  cases xs with
  |nil=>rw[<- h.ke]at hk;cases hk
  |cons a r=>exact#[a,r,rfl]
 have ek:x0.1=k:=by rw[<- h.ke,e0]at hk;exact mI hk
 refine#[l,_,0,.ref x0.2,rfl,rfl,cu.of az,by rw[e0];simp[L2.g9,xD],?_]
 have s1:=h.s.aO (xs:=xs.map λx=>.ref x.2) hl
 have st:=aq.aO (M:=M) (o:=.lst (xs.map λx=>.ref x.2)) hl
 have h1:=h.ev s1 st h.at';obtain⟨aL,s2⟩:=h1.s.ez (i:=i) (d:=.tup (dT k.1)) (v:=.ref x0.2) hb (by rw[<- ek];exact h1.rp x0 (by rw[e0];exact b0))
 exact kk _ aL _ _ xs (h1.ev s2 (aq.refl _ _) (by rw[eI hi];exact h.at')) st
def zS(ks:List Pn)(k:Pn):List Pn:=ks.filter λx=>decide (x≠k)
theorem qP(k:Pn):∀xs:List (Pn×Addr),(Nk.drop xs k).map (·.1)=zS (xs.map (·.1)) k
 | []=>rfl
 |x::xs=>by
  have ih:=qP k xs;unfold Nk.drop zS at ih ⊢
  rw[List.map_cons];by_cases e:x.1=k
  . rw[BO (by simp[e]),BO (by simp[e]),ih]
  . rw[BQ (by simp[e]),BQ (by simp[e]),List.map_cons,ih]
theorem VB{x:Str}{py px ap cp:Pos}{k:Pn}(hu:X.A.units+6<cLine)(hK:z.K=X.K)(vy:Vr X y il)(vx:Vr X x i)(gx:g[i]?=!(.dat (.tup (dT k.1))))(hin:k∈ks)
  (hbase:attributeBase (.Name y py) "pop" X.env (eval (.Name y py) X.env)=eval (.Name y py) X.env) (hline:(ap.endLine==cp.line)=true) (hs:swapsWith (.Call (.Attribute (.Name y py) "pop" ap) [.Name x px] [] cp) none pos.line X.env=pure false) :
  DT X z il (.Expr (.Call (.Attribute (.Name y py) "pop" ap) [.Name x px] [] cp) pos) ks g (zS ks k) g:=by
 refine#[_,lP (zq PySem.F.plainAttrs_dict PySem.F.slot_dict_pop PySem.F.type_dict_pop (N3 hu) vy.pe (bA vx.pe fF rfl) hbase rfl hline rfl rfl) hs,λD d Y As M H xs E h kk=>?_]
 obtain⟨f1,f2⟩:=h.hD d;obtain⟨v,ev,rv⟩:=h.s.sl.mY gx;have rv':=rv;cases rv with |@tup _ c ys hc rc=>
 refine#[.ref D,h.at',.inr (.inr (.inr #[_,f1,λo q=>#[q.2.1.1,q.2.1.2.1]])),.ref c,ev,D,xs,c,k,rfl,rfl,f1,#[M,hK▸rv'],h.Ib hK,h.ke▸hin,?_]
 obtain⟨h2,aG⟩:=h.put d (ys:=Nk.drop xs k) λx hx=>.inl (lL.mp hx).1
 rw[qP,h.ke]at h2;exact kk Y As M _ _ h2 aG
theorem dc_in{x:Str}{py px cp:Pos}{k:Pn}(hu:X.A.units+6<cLine)(hK:z.K=X.K)(vy:Vr X y il)(vx:Vr X x i)(gx:g[i]?=!(.dat (.tup (dT k.1)))) :
  DC X z il (.Compare (.Name x px) [.In] [.Name y py] cp) ks g (decide (k∈ks)):=by
 refine#[_,rZ (Vu hu) vx.pe vy.pe rfl,λD d Y As M H xs Q h kk=>?_]
 obtain⟨f1,f2⟩:=h.hD d;obtain⟨v,ev,rv⟩:=h.s.sl.mY gx;have rv':=rv;cases rv with |@tup _ c ys hc rc=>
 exact#[.ref c,ev,.ref D,h.at',c,D,xs,k,rfl,rfl,f1,#[M,hK▸rv'],h.Ib hK,_,rfl,by rw[h.ke];exact kk As M H h (aq.refl _ _)]
theorem dc_ne{py dp cp:Pos}(hu:X.A.units+6<cLine)(vy:Vr X y il):DC X z il (.Compare (.Name y py) [.NotEq] [.Dict [] [] dp] cp) ks g (decide (ks≠[])):=by
 refine#[_,rZ (Vv hu) vy.pe zR rfl,λD d Y As M H xs Q h kk=>?_]
 obtain⟨f1,f2⟩:=h.hD d;refine#[.ref D,h.at',λp hp=>#[D,p,xs,rfl,rfl,by rw[au (aE f1 hp)];exact f1,az,_,rfl,?_]]
 have e:decide (xs≠[])=decide (ks≠[]):=by rw[<- h.ke];cases xs <;> simp
 rw[e];have s1:=h.s.FG (u0:=nD p []) trivial hp;have st:=aq.aO (M:=M) (o:=nD p []) hp;exact kk As _ _ (h.ev s1 st h.at') st
inductive DW(X:Cx)(z:Z)(il:Nat)(c:Expr)(body:List Stmt):Nat->List Pn->G->List Pn->G->Prop
 |done {n:Nat}{ks:List Pn}{g:G}:DC X z il c ks g false->DW X z il c body n ks g ks g
 |next {n:Nat}{ks yt Ia:List Pn}{g g1 g2:G}:DC X z il c ks g true->DB X z il body ks g yt g1->DW X z il c body n yt g1 Ia g2->DW X z il c body (n+1) ks g Ia g2
theorem Ie{c:Expr}{body:List Stmt}{n:Nat}(hp:PassesOwn (~~~2) X.A X.env X.xe)(w:DW X z il c body n ks g yt g1):DT X z il (.While c body [] pos) ks g yt g1:=by
 refine#[_,uF hp Gu lU,λD d Y As M H xs E h kk=>?_]
 refine#[λm σ2 H2=>∃ka g2 aL M2 xa,DS z il D ka g2 σ2 aL M2 H2 xa/\aq M H M2 H2/\DW X z il c body m ka g2 yt g1,#[n,ks,g,As,M,xs,h,aq.refl _ _,w],?_]
 rintro m σ2 H2 ⟨ka,g2,aL,M2,xa,h2,aG,w⟩;cases w with
 |done hc=>obtain⟨t,q,kt⟩:=hc;exact#[t,q,kt D d σ2 aL M2 H2 xa _ h2 λjO M3 H3 h3 cY=>lF (kk σ2 jO M3 H3 xa h3 (aG.trans cY))]
 |@next m' _ k3 _ _ g3 _ hc hb w'=>
  obtain⟨t,q,kt⟩:=hc;obtain⟨tb,qb,kb⟩:=hb;refine#[t,q,kt D d σ2 aL M2 H2 xa _ h2 λjO M3 H3 h3 cY=>iN #[λσ' H'=>∃ka g2 aL M2 xa,DS z il D ka g2 σ' aL M2 H' xa/\aq M H M2 H'/\DW X z il c body m' ka g2 yt g1,λσ' H' hN=>#[m',pE _,hN],tb,qb,kb D d σ2 jO M3 H3 xa _ h3 λσ4 fT M4 H4 x4 h4 sJ=>?_]]
  exact#[k3,g3,fT,M4,x4,h4,(aG.trans cY).trans sJ,w']
inductive DL(X:Cx)(z:Z)(il:Nat)(body:List Stmt)(T:Tg):List Ev.D->List Pn->G->List Pn->G->Prop
 |nil {ks:List Pn}{g:G}:DL X z il body T [] ks g ks g
 |next {d:Ev.D}{l:List Ev.D}{ks yt Ia:List Pn}{g g0 g1 g2:G}:T.set d g=!g0->DB X z il body ks g0 yt g1->DL X z il body T l yt g1 Ia g2->DL X z il body T (d::l) ks g Ia g2
theorem VD{tg iter:Expr}{body:List Stmt}{T:Tg}{ao:List Ev.D}(hp:PassesOwn (~~~2) X.A X.env X.xe)(hc:X.calm=true)(hw:∀D u,dm X (zU z D u) tg iter g ao g1)(ht:∀D u,eG X (zU z D u) tg T)(hT:il∉T.ix)(w:DL X z il body T ao ks g1 Ia g2)
  (hs:∀y,foldedSetIterable iter X.env y=pure y):DT X z il (.For tg iter body [] pos) ks g Ia g2:=by
 refine#[_,EY hp hc yd gB lU hs,λD d Y As M H xs E h kk=>?_]
 obtain⟨wi,q,k⟩:=hw D (nD D xs);refine#[wi,q,k Y As M H _ h.s λJ H1 aI M1 s1 cN hJ=>?_]
 refine jy hJ (λl σ2 H2=>∃ka ga aL M2 xa,DS z il D ka ga σ2 aL M2 H2 xa/\aq M1 H1 M2 H2/\DL X z il body T l ka ga Ia g2) #[ks,g1,aI,M1,xs,h.ev s1 cN h.at',aq.refl _ _,w] (by rintro _ _ _ ⟨_,_,_,M2,_,_,aG,_⟩;exact#[M2,aG]) ?_ ?_
 . rintro σ2 H2 ⟨ka,ga,aL,M2,xa,h2,aG,lo⟩;cases lo;exact kk σ2 aL M2 H2 xa h2 (cN.trans aG)
 .
  rintro dd l σ2 H2 ⟨ka,ga,aL,M2,xa,h2,aG,lo⟩ x H' yl;obtain⟨s3,cY,rx⟩:=yl M2 aG (zU z D (nD D xa)) ga σ2 aL rfl h2.s;cases lo with
  |@next _ _ _ k3 _ _ g0 g3 _ e0 b lo=>
   obtain⟨t,qt,kt⟩:=ht D (nD D xa);refine#[t,qt,kt dd ga _ e0 x σ2 aL M2 H' _ s3 rx λσ' aB s' ag=>?_]
   obtain⟨tb,qb,kb⟩:=b;have h4:=h2.ev s' cY (by rw[ag.2 il hT];exact h2.at')
   exact#[tb,qb,kb D d σ' aB M2 H' xa _ h4 λσ4 fT M4 H4 x4 h4' sJ=>#[k3,g3,fT,M4,x4,h4',(aG.trans cY).trans sJ,lo]]
end
open L2 Nk
def DG(X:Cx)(z:Z)(il:Nat)(ss:List Stmt)(ks:List Pn)(g:G)(r:R)(g':G):Prop:=
 ∃ts,Vf X ss ts/\∀(u:TS) D,uw z D->∀Y As M H xs (E:Ends),DS z il D ks g Y As M H xs->(∀v σ' aB M' H',S z g' σ' aB M' H'->aq M H M' H'->cA z g' σ' aB M' H' r v->E.rt v H')->Nx ts u E Y H
section
variable{X:Cx}{z:Z}{il:Nat}{ks yt:List Pn}{g g1 g':G}{pos:Pos}{y:Str}{e:Expr}{r:R}
theorem Ob{st:Stmt}{ss:List Stmt}(h1:DT X z il st ks g yt g1)(h2:DG X z il ss yt g1 r g'):DG X z il (st::ss) ks g r g':=by obtain⟨t,q,k⟩:=h1;obtain⟨ts,qs,k2⟩:=h2;exact#[_,.cons q qs,λu D d Y As M H xs E h kk=>k D d Y As M H xs _ h λσ' aB M' H' xs' h' st=>k2 u D d σ' aB M' H' xs' E h' λv σ2 aL M2 H2 s2 aG R=>kk v σ2 aL M2 H2 s2 (st.trans aG) R]
theorem VF(he:Vx X z e g r g'):DG X z il [.Return (!e) pos] ks g r g':=by
 refine#[[_],.cons (rX dw) .nil,λu D d Y As M H xs E h kk=>?_]
 obtain⟨t,q,k⟩:=he D (nD D xs);refine#[t,q,k Y As M H _ h.s λv H' aB M' s' st R=>kk v Y aB M' H' (s'.ofU d) st ?_]
 cases r with
 |dat d=>exact R
 |var i=>exact R
 |new l=>
  obtain⟨a,ws,e1,h1,h2,h3,h4⟩:=R;refine#[a,ws,e1,h1,h2,?_,h4];have h3:upd z.H0 D (nD D xs) a=none:=h3;by_cases eb:a=D
  . rw[eb,az]at h3;cases h3
  . rw[au eb]at h3;exact h3
theorem VG{lp py cp:Pos}(gl:Gl X "len")(ml:X.mg "len"=none)(vy:Vr X y il):DG X z il [.Return (!(.Call (.Name "len" lp) [.Name y py] [] cp)) pos] ks g (.dat (.int ks.length)) g:=by
 refine#[[_],.cons (rX (gj Dc gl ml rfl (bA vy.pe fF rfl))) .nil,λu D d Y As M H xs E h kk=>?_]
 refine#[.ref D,h.at',D,xs,rfl,(h.hD d).1,?_];rw[show (xs.length:Int)=(ks.length:Int)by rw[<- h.ke,eA]]
 exact kk _ Y As M H (h.s.ofU d) (aq.refl _ _) (.int _)
theorem Ig{py dp:Pos}{ss:List Stmt}(ny:sI X y il)(hg:g[il]?=some .no)(h:DG X z il ss [] g r g'):nU X z (.Assign [.Name y py] (.Dict [] [] dp) pos::ss) g (.rt r) g':=by
 obtain⟨ts,q,k⟩:=h;refine#[_::ts,.cons (fZ ny.nd ny.ix ny.lc zR rfl ny.fn) q,λu Y As M H E s kk=>λa ha=>?_]
 have d:uw z a:=uw.of s ha;have hi:il<Y.length:=by rw[<- s.sl.length];exact (c8.mp hg).1
 have s1:=(s.FG (u0:=nD a []) trivial ha).toU d b0 az vN;exact k u a d _ As _ _ [] E #[rfl,s1.vC hg,λx hx=>(nomatch hx),i3 hi] λv σ' aB M' H' s' st R=>kk v σ' aB M' H' s' ((aq.aO ha).trans st) R
end
end Ev
namespace Nk
open Ev
noncomputable def sZ:Kt->Kt->Bool
 |.nil,.nil=>false
 |.nil,_=>true
 |_,.nil=>false
 |.ci i r,.ci j s=>if i=j then sZ r s else decide (i<j)
 |.ct a r,.ct b s=>if a=b then sZ r s else sZ a b
 |.ci _ _,.ct _ _=>true
 |.ct _ _,.ci _ _=>false
theorem zT(a:Kt):sZ a a=false:=by
 induction a with
 |nil=>rfl
 |ci i r ih=>unfold sZ;rw[hV rfl,ih]
 |ct a r _ ih=>unfold sZ;rw[hV rfl,ih]
theorem Oc(a:Kt):∀b,sZ a b=false->sZ b a=false->a=b:=by
 induction a with
 |nil=>intro b h k;cases b <;> first |rfl |symm
 |ci i r ih=>
  intro b h k;cases b with
  |nil=>cases k
  |ci j s=>
   unfold sZ at h k;by_cases e:i=j
   . subst e;rw[hV rfl]at h k;rw[ih s h k]
   . rw[fN e]at h;rw[fN (sB e)]at k;have h:=BS h;have k:=BS k;exact absurd ⋯ e
  |ct _ _=>symm
 |ct a r ia ih=>
  intro b h k;cases b with
  |nil=>cases k
  |ci j s=>cases k
  |ct b s=>
   unfold sZ at h k;by_cases e:a=b
   . subst e;rw[hV rfl]at h k;rw[ih s h k]
   . rw[fN e]at h;rw[fN (sB e)]at k;exact absurd (ia b h k) e
theorem VH(a:Kt):∀b c,sZ a b=true->sZ b c=true->sZ a c=true:=by
 induction a with
 |nil=>
  intro b c h k;cases c with
  |nil=>cases b <;> cases k
  |ci _ _=>rfl
  |ct _ _=>rfl
 |ci i r ih=>
  intro b c h k;cases b with
  |nil=>symm
  |ci j s=>
   cases c with
   |nil=>cases k
   |ct _ _=>rfl
   |ci l t=>
    unfold sZ at h k ⊢
    by_cases e:i=j
    .
     subst e;rw[hV rfl]at h;by_cases e2:i=l
     . rw[hV e2]at k ⊢;exact ih s t h k
     . rw[fN e2]at k ⊢;exact k
    .
     rw[fN e]at h;have h:=i4 h;by_cases e2:j=l
     . subst e2;rw[fN e];exact kS h
     . rw[fN e2]at k;have k:=i4 k;rw[fN ⋯];exact kS ⋯
  |ct b s=>cases c <;> first |cases k |rfl
 |ct a r ia ih=>
  intro b c h k;cases b with
  |nil=>symm
  |ci j s=>symm
  |ct b s=>
   cases c with
   |nil=>cases k
   |ci _ _=>cases k
   |ct l t=>
    unfold sZ at h k ⊢
    by_cases e:a=b
    .
     subst e;rw[hV rfl]at h;by_cases e2:a=l
     . rw[hV e2]at k ⊢;exact ih s t h k
     . rw[fN e2]at k ⊢;exact k
    .
     rw[fN e]at h;by_cases e2:b=l
     . subst e2;rw[fN e];exact h
     .
      rw[fN e2]at k;have hx:=ia b l h k;rw[fN λe3=>by rw[e3,zT]at hx;cases hx]
      exact hx
def VJ:iu Kt:=#[sZ,zT,λa b c=>VH a b c,λa b=>Oc a b]
noncomputable def Rc:Kt->Kt->Bool
 |.nil,_=>true
 |_,.nil=>true
 |.ci _ r,.ci _ s=>Rc r s
 |.ct a r,.ct b s=>Rc a b&&Rc r s
 |_,_=>false
theorem lt_kt{s:Shared}{k1:Kt}:∀{A:Around}{k2:Kt}{us ws:List Value},jf s.heap (dT k1) us->jf s.heap (dT k2) ws->Rc k1 k2=true->A.units+dep k1+1<cLine->Kp A s us ws (sZ k1 k2):=by
 induction k1 with
 |nil=>
  intro A k2 us ws x y _ _;cases x;cases k2 with
  |nil=>cases y;exact .nn
  |ci _ _=>cases y;exact .nc
  |ct _ _=>cases y;exact .nc
 |ci i r ih=>
  intro A k2 us ws x y c hu;cases x with |cons a b=>
  cases k2 with
  |nil=>cases y;exact .cn
  |ct _ _=>cases c
  |ci j s'=>
   cases y with |cons a' b'=>
   cases a;cases a';rename_i t t';obtain⟨e,he,hi⟩:=HT.uI A s i t j t';unfold sZ;cases e with
   |true=>rw[hV (hi.mp rfl)];exact .eq he (ih b b' c hu)
   |false=>
    rw[fN λz=>mM (hi.mpr z)]
    exact .ne he λprog w E Q h=>HT.uJ A s i t j t' prog w E Q h
 |ct a r ia ih=>
  intro A k2 us ws x y c hu;have hd:A.units+max (dep a+1) (dep r)+1<cLine:=hu;cases x with |cons p b=>
  cases k2 with
  |nil=>cases y;exact .cn
  |ci _ _=>cases c
  |ct a2 s'=>
   cases y with |cons p' b'=>
   obtain⟨c1,c2⟩:=(dA _ _).mp (show (Rc a a2&&Rc r s')=true from c);have he:=(uS (A:=A) (s:=s) (dep a+1) (d1:=.tup (dT a)) (d2:=.tup (dT a2)) (by show deps (dT a)+1<=_;rw[HW];exact dE _) p p' ⋯).1
   rw[show cI (.tup (dT a)) (.tup (dT a2))=decide (a=a2)from Q9 a2]at he
   unfold sZ;by_cases e:a=a2
   . rw[kS e]at he;rw[hV e];exact .eq he (ih b b' c2 ⋯)
   .
    rw[nK e]at he;rw[fN e];cases p with |tup i1 v1=>
    cases p' with |tup i2 v2=>
    exact .ne he (zK i1 i2 (ia v1 v2 c1 (by rw[in1_units];lia)) ⋯)
end Nk
namespace Ev
open L2
mutual
noncomputable def pkE:D->Option (Nk.Kt->Nk.Kt)
 |.int i=>!(.ci i)
 |.tup l=>match Od l with |some a=>!(.ct a) |none=>none
 |_=>none
noncomputable def Od:List D->Option Nk.Kt
 | []=>some .nil
 |d::l=>match pkE d with
  |some f=>(match Od l with |some r=>!(f r) |none=>none)
  |none=>none
end
theorem oq{k:Nk.Kt}{d:D}{l:List D}(h:Od (d::l)=!k):∃r,Od l=!r/\((∃i,d=.int i/\k=.ci i r)\/∃m a,d=.tup m/\Od m=!a/\k=.ct a r):=by
 unfold Od at h;split at h
 .
  rename_i f hf;split at h
  .
   rename_i r hr;symm;refine#[r,hr,?_];unfold pkE at hf;split at hf
   . cases hf;exact .inl #[_,rfl,rfl]
   .
    split at hf
    . rename_i ha;cases hf;exact .inr #[_,_,rfl,ha,rfl]
    . cases hf
   . cases hf
  . symm
 . symm
theorem Ih{k:Nk.Kt}:∀{l:List D},Od l=!k->Nk.dT k=l:=by
 induction k with
 |nil=>
  intro l h;cases l with
  |nil=>rfl
  |cons d l=>obtain⟨r,_,⟨_,_,e⟩ |⟨_,_,_,_,e⟩⟩:=oq h <;> cases e
 |ci i r ir=>
  intro l h;cases l with
  |nil=>symm
  |cons d l=>
   obtain⟨r,hr,⟨_,rfl,e⟩ |⟨_,_,_,_,e⟩⟩:=oq h
   . cases e;show D.int _::Nk.dT _=_;rw[ir hr]
   . cases e
 |ct a r ia ir=>
  intro l h;cases l with
  |nil=>symm
  |cons d l=>
   obtain⟨r,hr,⟨_,_,e⟩ |⟨m,_,rfl,hm,e⟩⟩:=oq h
   . cases e
   . cases e;show D.tup (Nk.dT _)::Nk.dT _=_;rw[ir hr,ia hm]
def Ii:List D->Option (List Nk.Kt)
 | []=>![]
 |d::l=>match d with
  |.tup m=>(match Od m with
   |some a=>(match Ii l with |some r=>!(a::r) |none=>none)
   |none=>none)
  |_=>none
def unK(k:Nk.Kt):D:=.tup (Nk.dT k)
theorem VL:∀{l:List D}{ks:List Nk.Kt},Ii l=!ks->l=ks.map unK:=by
 intro l
 induction l with
 |nil=>intro ks h;symm;rfl
 |cons d l ih=>
  intro ks h;cases d with
  |tup m=>
   unfold Ii at h;dsimp only at h;split at h
   .
    rename_i a ha;split at h
    . rename_i r hr;symm;rw[List.map_cons,<- ih hr];show _=D.tup (Nk.dT a)::l;rw[Ih ha]
    . symm
   . symm
  |_=>symm
def Rf(ks:List Nk.Kt):Bool:=ks.all λa=>decide (Nk.dep a<=3)&&ks.all λb=>Nk.Rc a b
theorem Oe{X:Cx}{z:Z}{d:D}{l:List D}{k:Nk.Kt}{ks:List Nk.Kt}(hc:X.calm=true)(hu:X.A.units+6<cLine)(hK:z.K=X.K)(h:cJ d=!l)(hi:Ii l=!(k::ks))(hp:Rf (k::ks)=true):CallD X z (.builtin "min") [d] (.dat (unK (n6 Nk.VJ k ks))):=by
 rw[VL hi]at h;have hp:∀a∈k::ks,Nk.dep a<=3/\∀b∈k::ks,Nk.Rc a b=true:=λa ha=>by
  have:=eC.mp hp a ha;obtain⟨h1,h2⟩:=(dA _ _).mp this;exact#[i4 h1,λb hb=>eC.mp h2 b hb]
 refine NQ (O:=Nk.VJ) (un:=unK) (good:=λa=>a∈k::ks) hc (λa _=>Nk.n9 a) (λs k1 k2 u1 u2 g1 g2 x y=>?_) hK h λ_ h=>h
 have:=(hp k1 g1).1;cases x with |tup i1 v1=>
 cases y with |tup i2 v2=>
 exact zK i1 i2 (Nk.lt_kt v1 v2 ((hp k1 g1).2 k2 g2) (by rw[in1_units,in1_units];lia)) (by rw[in1_units];lia)
end Ev
namespace Sb
open PySem PyProof.Rows
inductive pN:List (Int×Value)->~~~0->Prop
 |nil:pN [] []
 |cons (n:Int) (t:Tok) {l:List (Int×Value)}{ns: ~~~0}:pN l ns->pN ((hashInt n,.int n t)::l) (n::ns)
theorem pN.length{l:List (Int×Value)}{ks: ~~~0}(h:pN l ks):l.length=ks.length:=by
 induction h with
 |nil=>rfl
 |cons n t _ ih=>rw[gL,gL,ih]
theorem pN.put{x:Int×Value}{k:Int}(hx:pN [x] [k]):∀{l:List (Int×Value)}{ks: ~~~0} (p:Nat),pN l ks->pN (l.take p++x::l.drop p) (ks.take p++k::ks.drop p):=by
 cases hx with
 |cons _ tk _=>
 intro l ks p h
 induction h generalizing p with
 |nil=>rw[List.take_nil,List.drop_nil,List.take_nil,List.drop_nil];exact .cons _ _ .nil
 |cons n t h ih=>
  cases p with
  |zero=>exact .cons _ _ (.cons n t h)
  |succ p=>exact .cons n t (ih p)
theorem ou{α:Type}(xs:Array α)(p:Nat)(x:α):(SetTable.insertAt xs p x).toList=xs.toList.take p++x::xs.toList.drop p:=by unfold SetTable.insertAt;simp[List.take_of_length_le]
end Sb
namespace Sb
open PySem PyProof.Rows
section
variable{prog:Program}{w:World}{A:Around}{E:Value->Shared->Prop}{s:Shared}
theorem pN.ints{l:List (Int×Value)}{ks: ~~~0}(h:pN l ks):IntsAre (l.map (·.2)) ks:=by
 induction h with
 |nil=>exact .nil
 |cons n t _ ih=>exact .cons n t ih
theorem pN.perm{l m:List (Int×Value)}(p:l.Perm m):∀{ks: ~~~0},pN m ks->∃js,js.Perm ks/\pN l js:=by
 induction p with
 |nil=>exact λh=>#[_,.refl _,h]
 |cons x _ ih=>
  intro ks h;cases h with
  |cons n t h=>obtain⟨js,q1,q2⟩:=ih h;exact#[_,q1.cons n,.cons n t q2]
 |swap x y l=>
  intro ks h;cases h with
  |cons n t h=>cases h with
   |cons n' t' h=>exact#[_,List.Perm.swap ..,.cons n' t' (.cons n t h)]
 |trans _ _ ih1 ih2=>intro ks h;obtain⟨js,q1,q2⟩:=ih2 h;obtain⟨js',q3,q4⟩:=ih1 q2;exact#[js',q3.trans q1,q4]
theorem pN.elems{l:List (Int×Value)}{ks: ~~~0}(h:pN l ks):ElemsOf (intKind prog w) l:=by
 induction h with
 |nil=>intro e he;cases he
 |cons n t _ ih=>
  intro e he;rcases dL.mp he with rfl |he
  . exact#[#[n,by show Value.isInt n (.int n t)=true;simp[Value.isInt],rfl],rfl]
  . exact ih e he
theorem pN.mem{l:List (Int×Value)}{ks: ~~~0}(h:pN l ks){k:Int}:k∈ks ↔ ∃e∈l,Value.isInt k e.2=true:=by
 induction h with
 |nil=>simp
 |cons n t _ ih=>
  rw[dL,ih];constructor
  .
   rintro (rfl |⟨e,e1,e2⟩)
   . exact#[_,b0,by simp[Value.isInt]]
   . exact#[e,bP _ e1,e2]
  .
   rintro⟨e,e1,e2⟩;rcases dL.mp e1 with rfl |e1
   . obtain⟨t',e3⟩:=Value.isInt_shape e2;injection e3 with e3;exact .inl e3.symm
   . exact .inr #[e,e1,e2]
end
end Sb
namespace Sb
open PySem PyProof.Rows
section
variable{prog:Program}{w:World}{A:Around}{E:Value->Shared->Prop}{s:Shared}
def gK(ks: ~~~0)(k:Int): ~~~0:=if k∈ks then ks else ks++[k]
end
end Sb
namespace Sb
open PySem PySem.W PyProof.Rows Ev
end Sb
namespace Sb
open PySem PyProof.Rows
section
variable{prog:Program}{w:World}{A:Around}{s s':Shared}{R:Result->Shared->Prop}{E:Value->Shared->Prop}{I:Addr}{fp wr:List Addr}{G:Array GenState->Array GenState->Prop}{n:Nat}{P:Nat->Value->Prop}{St:Nat->Shared->Prop}
noncomputable def gP(val:Nat->Int):Nat->List Int
 | 0=>[]
 |i+1=>gK (gP val i) (val i)
end
end Sb
namespace Ev
open L2 PySem.W Sb
noncomputable def fQ(ks: ~~~0): ~~~0->List Int
 | []=>ks
 |k::l=>fQ (gK ks k) l
theorem qQ(val:Nat->Int):∀(l: ~~~0) (i:Nat),(∀j,j<l.length->val (i+j)=l.getD j 0)->gP val (i+l.length)=fQ (gP val i) l
 | [],i,_=>rfl
 |k::l,i,h=>by
  have h0:val i=k:=h 0 (Nat.succ_pos _);have:=qQ val l (i+1) λj hj=>by
   have:=h (j+1) (Nat.succ_lt_succ hj);rw[show i+1+j=i+(j+1)by lia,this]
   rfl
  rw[gL,show i+(l.length+1)=i+1+l.length by lia,this]
  show fQ (gK (gP val i) (val i)) l=_;rw[h0];rfl
theorem Ij{ns: ~~~0}:∀{us:List Value},IntsAre us ns->∀(i:Nat) (v:Value),us[i]?=!v->∃t,v=Value.int (ns.getD i 0) t:=by
 intro us h
 induction h with
 |nil=>intro i v e;cases e
 |cons n t _ ih=>
  intro i v e;cases i with
  |zero=>cases e;exact#[t,rfl]
  |succ i=>exact ih i v e
section
variable{X:Cx}{z:Z}{g g1:G}{p p2 pos pos2:Pos}{e:Expr}
theorem vO(K:Frag)(M:List Addr)(H:Hp):∀l:List Int,aD K M H (l.map .int) (l.map .int)
 | []=>.nil
 |n::l=>.cons (.int n) (vO K M H l)
end
end Ev
namespace Sb
open PySem PyProof.Rows PySem.W
def tD(k:Int):Nat:=SetTable.bits (hashInt k) % 8
def Kq(ks: ~~~0):Prop:=(ks.map tD).Nodup/\ks.length<=4
instance (ks: ~~~0):Decidable (Kq ks):=inferInstanceAs (Decidable (_/\_))
theorem Kq.pre{l m: ~~~0}(h:Kq m)(p:l <+: m):Kq l:=#[h.1.sublist (p.sublist.map _),n0 p.length_le h.2]
structure Tn(ks: ~~~0)(es:Array (Int×Value))(t:SetTable):Prop where
 X3:t.dummies = ([].toArray)
 mask:t.mask=7
 js:∃js:List Int,js.Perm ks/\pN es.toList js/\t.place.toList=js.map tD
theorem zV{xs:Array Nat}:Ko xs ↔ xs.toList.Pairwise (· < ·):=by
 rw[List.pairwise_iff_getElem];constructor
 .
  intro h i k hi hk hik;have:=h i k hik (by simpa using hk)
  have a:i<xs.size:=by simpa using hi
  have b:k<xs.size:=by simpa using hk
  simpa [Array.getD,a,b]using this
 .
  intro h i k hik hk;have:=h i k (by simpa using Nat.lt_trans hik hk) (by simpa using hk) hik
  simpa [Array.getD,Nat.lt_trans hik hk,hk]using this
theorem Tn.sz{ks: ~~~0}{es:Array (Int×Value)}{t:SetTable}(T:Tn ks es t):t.place.size=ks.length/\es.size=ks.length:=by obtain⟨js,p,e,h⟩:=T.js;have h1:=congrArg List.length h;have h2:=e.length;rw[eA,p.length_eq]at h1;rw[p.length_eq]at h2;exact#[by simpa using h1,by simpa using h2]
theorem Tn.fits{ks: ~~~0}{es:Array (Int×Value)}{t:SetTable}(T:Tn ks es t)(h:ks.length<=4):t.fits es.size=true:=by unfold SetTable.fits SetTable.fill;rw[T.sz.1,T.sz.2,T.X3,T.mask];simp only[dA,beq_self_eq_true,true_and,eQ];show ks.length+0<=7;lia
theorem Ik{ks: ~~~0}{es:Array (Int×Value)}{t:SetTable}{k:Int}(T:Tn ks es t)(R:Ko t.place)(hn:tD k∉ks.map tD)(hl:ks.length<=3)(tk:Tok) :
  ∃es1 t1,layNew t es (hashInt k) (.int k tk)=(es1,t1,false,false)/\Tn (ks++[k]) es1 t1/\Ko t1.place/\t1.plain=t.plain/\t1.led=t.led:=by
 obtain⟨js,jp,je,jl⟩:=T.js;have hm:∀i,i<t.place.size->t.place.getD i 0≠tD k:=λi hi e=>by
  refine hn ((jp.map tD).mem_iff.mp (jl▸?_));rw[<- e];simp[Array.getD,hi]
 have fs:t.freeSlot (hashInt k)=!(tD k,false):=by
  have se:=yh R T.X3 hm;have hj:(t.probeStart (hashInt k)).j=tD k:=by show SetTable.bits _ % (t.mask+1)=_;rw[T.mask];rfl
  unfold SetTable.freeSlot SetTable.probe;rw[show 10 * SetTable.turns t.mask=(10 * SetTable.turns t.mask - 1)+1 by unfold SetTable.turns;lia]
  unfold SetTable.probe.go;rw[hj,se];rfl
 obtain⟨b1,b2,b3⟩:=vH R (tD k);have hput:t.put (tD k)=({ t with place:=SetTable.insertAt t.place (SetTable.below t.place (tD k)) (tD k)},SetTable.below t.place (tD k)):=by unfold SetTable.put SetTable.has;rw[T.X3];cases t;rfl
 unfold layNew;rw[fs];dsimp only;rw[hput];generalize SetTable.below t.place (tD k)=p at b1 b2 b3;have T1:Tn (ks++[k]) (SetTable.insertAt es p (hashInt k,.int k tk)) { t with place:=SetTable.insertAt t.place p (tD k)}:=by
  refine#[T.X3,T.mask,js.take p++k::js.drop p,?_,?_,?_]
  . have q:=List.perm_middle (l₁:=js.take p) (l₂:=js.drop p) (a:=k);rw[wE]at q;exact q.trans ((jp.cons k).trans (List.perm_append_singleton k ks).symm)
  . rw[ou];exact (pN.cons k tk .nil).put p je
  . show (SetTable.insertAt t.place p (tD k)).toList=_;rw[ou,jl,At,List.map_cons,List.map_take,List.map_drop]
 have R1:Ko (SetTable.insertAt t.place p (tD k)):=by
  rw[zV,ou];have h:=zV.mp R;rw[<- wE p t.place.toList,List.pairwise_append]at h;refine List.pairwise_append.mpr #[h.1,w9.mpr #[λx hx=>?_,h.2.1],λa ha b hb=>?_]
  .
   obtain⟨i,hi,rfl⟩:=C7 hx;rw[List.length_drop,i8]at hi;have q:=b3 (p+i) ⋯ ⋯;have r:=hm (p+i) ⋯;rw[List.getElem_drop,Array.getElem_toList];simp only[Array.getD,show p+i<t.place.size by lia,dite_true]at q r
   exact Nat.lt_of_le_of_ne q (sB r)
  .
   rcases dL.mp hb with rfl |hb
   . obtain⟨i,hi,rfl⟩:=C7 ha;rw[t8,i8]at hi;have q:=b2 i ⋯;rw[List.getElem_take,Array.getElem_toList];simpa [Array.getD,show i<t.place.size by lia]using q
   . exact h.2.2 a ha b hb
 refine#[_,_,?_,T1,R1,rfl,rfl];unfold SetTable.orStandIn;rw[T1.fits (by simp;lia)]
 rfl
section
variable{prog:Program}{w:World}{A:Around}{E:Value->Shared->Prop}{s s':Shared}{R:Result->Shared->Prop}{I:Addr}{fp wr:List Addr}{G:Array GenState->Array GenState->Prop}{n:Nat}{P:Nat->Value->Prop}{St:Nat->Shared->Prop}
def KSetO(w:World)(ks: ~~~0)(o:Obj):Prop:=∃es ep t,nX o es ep t/\(w.params.followText "set-order"=false->t.led=true)/\Tn ks es t
def j9(w:World)(h:Heap)(a:Addr)(ks: ~~~0):Prop:=∃o,h.get? a=!o/\o.ExactSet/\KSetO w ks o
theorem yu{h:Heap}{a:Addr}{led:Bool}(ho:h.get? a=some { cls:=.type "set",dict:=none,data:=.set ([].toArray) 0 (.fresh 0 0 led)})(hw:w.params.followText "set-order"=false->led=true):j9 w h a []:=
 #[_,ho,#[rfl,rfl,rfl],([].toArray),0,_,#[#[rfl,rfl,rfl],rfl,rfl,λi k _ hk=>absurd hk (v6 _),rfl],hw,#[rfl,rfl,[],.nil,.nil,rfl]]
theorem vP{a:Addr}{k:Int}{tk:Tok}{ks: ~~~0}{Q:Bool->Shared->Prop}(hS:j9 w s.heap a ks)(hN:Kq (gK ks k))
  (q:∀b h',Heap.SameBut a s.heap h'->j9 w h' a (gK ks k)->Q b { s with heap:=h',toks:=s.toks+1}) :
  wpAny (model prog w) A (setAdd a (.int k tk)) Q E s:=by
 refine hU (aS (wpAny_pyHash_int ?_));have hS0:=hS;obtain⟨o,ho,ex,es,ep,t,S,ld,T⟩:=hS;obtain⟨js,jp,je,jl⟩:=T.js;have hsz:=T.sz.2;have hl4:ks.length<=4:=by
  refine n0 ?_ hN.2;unfold gK;split
  . exact dE _
  . simp
 have hel:ElemsOf (intKind prog w) es.toList:=je.elems;have hf:=S.fits;have hd:=S.data;have hkey:(intKind prog w).is k (.int k tk)=true:=by show Value.isInt k (.int k tk)=true;simp[Value.isInt]
 refine hU (aS (sR ho hd hf ?_));dsimp only;rw[byScan_of rfl (by unfold scanBound;lia) hel]
 refine aS ?_;refine aS (A9 ?_);refine aS (wpAny_setScan_of hkey ho hd hf hel ?_);cases hr:List.findIdx? (λe=>(intKind prog w).is k e.2) es.toList with
 |some j=>
  obtain⟨hj,hpj,_⟩:=List.findIdx?_eq_some_iff_getElem.mp hr;have hk:=jp.mem_iff.mp (je.mem.mpr #[es.toList[j],List.getElem_mem hj,hpj]);refine a8 (a8 ?_);have:=q false s.heap (Heap.SameBut.refl a s.heap) (by unfold gK;rw[hV hk];exact hS0)
  exact this
 |none=>
  have hk:k∉ks:=λhk=>by
   obtain⟨e,he,hp⟩:=je.mem.mp (jp.mem_iff.mpr hk);have:=List.findIdx?_eq_none_iff.mp hr e he;rw[show (intKind prog w).is k e.2=Value.isInt k e.2 from rfl,hp]at this
   exact Bool.noConfusion this
  have em:gK ks k=ks++[k]:=by unfold gK;rw[fN hk]
  rw[em]at hN q;have hl3:ks.length<=3:=by have:=hN.2;rw[eP]at this;exact Nat.le_of_succ_le_succ this
  have hns:tD k∉ks.map tD:=by have:=hN.1;rw[At,AI]at this;exact λh=>this.2.2 _ h _ b0 rfl
  obtain⟨es1,t1,eL,T1,R1,hp1,hl1⟩:=Ik T S.ris hns hl3 tk;have hs1:=T1.sz;rw[eP]at hs1;have hs1:t1.place.size=ks.length+1/\es1.size=ks.length+1:=hs1;rw[S.plain]at hp1;rw[eL];refine aS (a8 ?_);rw[hV hp1];refine aS (a8 ?_);simp only[↓reduceIte];have hz1:es1.size<=sizeLine:=by unfold sizeLine;lia
  refine aS (wpAny_storeSet_of ho hd ?_ hz1);have uq:(s.heap.update a (Obj.putSet es1 t1)).get? a=some { o with data:=.set es1 (ep+1) t1}:=by
   have:=i9 (Obj.putSet es1 t1) ho (by rw[putSet_of es1 t1 hd];rfl)
   rw[putSet_of es1 t1 hd]at this;exact this
  have sb1:=o5 s.heap a (Obj.putSet es1 t1);have tf:t1.tooFull=false:=by unfold SetTable.tooFull SetTable.fill;rw[hs1.1,T1.X3,T1.mask];exact nK (by show ¬ 7 * 3<=(ks.length+1+0) * 5;lia)
  rw[tf];exact a8 (a8 (q true _ sb1 #[_,uq,ex,es1,ep+1,t1,#[ex,rfl,T1.fits hN.2,R1,hp1],λhw=>hl1.trans (ld hw),T1]))
theorem vQ{a:Addr}{ks: ~~~0}{Q:Value->Shared->Prop}(hh:A.in1.in1.handled=none)(hS:j9 w s.heap a ks)(h64:ks.length<64)
  (q:∀(ep:Nat) (out:Array Value) s1 s',Moved [] (λa b=>b=a) s s1->Moved [] (λa b=>b=a) s1 s'->s'.heap.get? s1⁻¹=!(seqObj "list" out ep)->IntsAre out.toList (Ev.bQ ks)->Q (.ref s1⁻¹) s') :
  wpAny (model prog w) A (call (.builtin "sorted") [.ref a]) Q E s:=by
 obtain⟨o,ho,_,es,ep,t,S,ld,T⟩:=hS;obtain⟨ls,lp,le,_⟩:=T.js;obtain⟨js,jp,je⟩:=pN.perm (nZ w a ep es) le;have hI:=je.ints;have aH:((dY w a ep es).toList.map (·.2)).length=ks.length:=by rw[eA,je.length,jp.length_eq,lp.length_eq]
 have hz:((dY w a ep es).toList.map (·.2)).length<=sizeLine:=by rw[tI,aH];lia
 refine CQ (vs:=(dY w a ep es).toList.map (·.2)) (R:=λs'=>Moved [] (λa b=>b=a) s s') hz (vI hh ho S ld (by rw[T.sz.2,tI];lia) λs' hmv=>#[rfl,hmv]) λs' hmv=>?_
 generalize (dY w a ep es).toList.map (·.2)=vs at hI aH hz ⊢
 refine list_sort_tree (dC _ rfl) hI ⋯ λout ns' a1 a2 a3=>#[rfl,?_]
 obtain⟨Eb,he⟩:=sortedHeap_at (h:=s'.heap.push (seqObj "list" vs.toArray 0)) (a:=s'⁻¹) (vs:=vs) (n:=0) (out:=out) (dC _ rfl);have e:=Ev.nJ (a2.trans (jp.trans lp)) a3;subst e;refine q Eb out s' _ hmv #[λb o _ hb=>?_,rfl,rfl,rfl,dE _] he a1
 have hlt:=dS hb;rw[sortedHeap_old (fA hlt) (by rw[qS];lia)]
 exact a9 _ hb
theorem vR(val:Nat->Int)(i:Nat):∀j,gP val i <+: gP val (i+j)
 | 0=>List.prefix_refl _
 |j+1=>(vR val i j).trans (by show _ <+: gK (gP val (i+j)) (val (i+j));unfold gK;split;exact List.prefix_refl _;exact List.prefix_append _ _)
theorem j9.at'{h h':Heap}{a:Addr}{ks: ~~~0}(x:j9 w h a ks)(k:∀o,h.get? a=!o->h'.get? a=!o):j9 w h' a ks:=let #[o,e,r]:=x;#[o,k o e,r]
theorem Dd(W:WalksS prog w A.in1 I fp wr G n P St)(S:Addr)(hSf:S∉fp)(val:Nat->Int)(hval:∀i v,P i v->∃t,v=.int (val i) t)(hN:Kq (gP val n)) :
  ∀(k i:Nat) (s:Shared),n - i=k->i<=n->St i s->j9 w s.heap S (gP val i)->
   (∀s',Moved (S::wr) G s s'->j9 w s'.heap S (gP val n)->R (.ok (.ret .none)) s')->
   codeAny (model prog w) A (.builtin "set.update.loop" #[[.ref S,.ref I],[]]) R s:=by
 have Vm:S∉wr:=λh=>hSf (W.sub _ h)
 have hsub:∀b∈wr,b∈S::wr:=λb hb=>bP _ hb
 intro k
 induction k with
 |zero=>
  intro i s hk hi b9 hS hR;obtain rfl:i=n:=by lia
  refine wP F.entry_set_update_loop ?_;rw[Around.under_plainId F.plain_set_update_loop _];refine aS (W.done s _ _ b9 λs' hm=>?_)
  exact a8 (hR s' (hm.mono hsub) (hS.at' λo e=>hm.heap S o Vm e))
 |succ k ih=>
  intro i s hk hi b9 hS hR;have hlt:i<n:=by lia
  refine wP F.entry_set_update_loop ?_;rw[Around.under_plainId F.plain_set_update_loop _];refine aS (W.item i s _ _ hlt b9 λv s' hP hst' hm=>?_)
  obtain⟨tk,rfl⟩:=hval i v hP;have hS':j9 w s'.heap S (gP val i):=hS.at' λo e=>hm.heap S o Vm e
  refine aS (hU ?_);refine vP hS' (hN.pre (by have:=vR val (i+1) (n - (i+1));rwa [show i+1+(n - (i+1))=n by lia]at this)) λb h' sb hS2=>?_
  refine a8 #[AO F.plain_set_update_loop _,ih (i+1) _ ⋯ hlt (W.frame _ s' h' _ hst' ⋯ λb hb o e=>?_) hS2 λs'' hm'' hS''=>?_]
  .
   rw[sb.2 b (λh:b=S=>hSf (h▸hb))]
   exact e
  .
   refine hR s'' (Moved.trans W.gtrans ((hm.mono hsub).then_heap ⋯ λb o hb e=>?_) hm'') hS''
   rw[sb.2 b (λh:b=S=>hb (h▸b0))]
   exact e
theorem Il{id:String}{S l:Addr}{vs:List Value}{val:Nat->Int}{Q:Unit->Shared->Prop}(hh:A.in1.handled=none)
  (hl:s.heap.IsTuple l vs.toArray) (hS:j9 w s.heap S []) (hv:∀(i:Nat) (v:Value),vs[i]?=!v->∃t,v=Value.int (val i) t) (hN:Kq (gP val vs.length))
  (q:∀s',Moved [S,s⁻¹] (λa b=>b=a) s s'->j9 w s'.heap S (gP val vs.length)->Q () s') :
  wpAny (model prog w) A (Builtin.Frozenset.updateFrom id S (.ref l)) Q E s:=by
 have hT:s.TypeIs (.ref l) "tuple" :=hl.typeIs;unfold Builtin.Frozenset.updateFrom Builtin.Frozenset.isAnySet;refine aS (aS (AD hT PySem.F.sub_tuple_set ?_));refine AD hT PySem.F.sub_tuple_frozenset ?_;simp only[oP,↓reduceIte];refine aS (A7 hT ?_);rw[fN ⋯];refine aS (wT hl ?_);refine aS (wpAny_runValue ?_);have hz:vs.toArray.size=vs.length:=by simp
 have hlS:l<s⁻¹:=by obtain⟨o,ho,_⟩:=hl;exact dS ho
 have hSS:S<s⁻¹:=by obtain⟨o,ho,_⟩:=hS;exact dS ho
 have kO:S≠l:=by rintro rfl;obtain⟨o,ho,ex,_⟩:=hS;obtain⟨o',ho',hc,_⟩:=hl;obtain rfl:o=o':=mI (ho.symm.trans ho');rw[ex.1]at hc;exact absurd hc ⋯
 refine Dd (Walks.tuple hh s⁻¹ l (fA hlS) vs.toArray).toS S ?_ val (λi v h=>hv i v (by simpa using h)) (by rw[hz];exact hN) _ 0 _ rfl (tP _) #[#[_,dC _ rfl,rfl,rfl],?_] (hS.at' λo e=>a9 _ e) λs' hm hS'=>?_
 . simp only[dL,kA,AA,not_or];exact#[fA hSS,kO]
 . obtain⟨o,ho,rest⟩:=hl;exact#[o,a9 _ ho,rest]
 . rw[hz]at hS';exact a8 (q s' #[λb o hb e=>hm.heap b o hb (a9 _ e),hm.gens,hm.drawn,hm.os,hm.toks] hS')
def Rg(w:World)(s:Shared)(ks: ~~~0)(s':Shared):Prop:=
 j9 w s'.heap s⁻¹ ks/\(∀b o,b<s⁻¹->s.heap.get? b=!o->s'.heap.get? b=!o)/\s'.gens=s.gens/\s'.drawn=s.drawn/\s'.os=s.os/\s.toks<=s'.toks
set_option maxHeartbeats 3200000 in
theorem tE{l:Addr}{vs:List Value}{val:Nat->Int}{Q:Value->Shared->Prop}(hh:A.handled=none)
  (hl:s.heap.IsTuple l vs.toArray) (hv:∀(i:Nat) (v:Value),vs[i]?=!v->∃t,v=Value.int (val i) t) (hN:Kq (gP val vs.length))
  (q:∀s',Rg w s (gP val vs.length) s'->Q (.ref s⁻¹) s') :
  wpAny (model prog w) A (call (.type "set") [.ref l]) Q E s:=by
 obtain⟨c,tl,hmro⟩:=F.called_set.mro;have hmade:=F.called_set.made;have hsub:=F.called_set.sub;refine CS (codeAny_of_tree ?_);refine a8 #[Code.quiet_builtin _ (by decide +kernel),wP F.entry_type_call ?_]
 rw[Around.under_plain (weight_type_call_type "set" [.ref l] []) rfl];have h1:=F.called_set.notType;have h2:=F.called_set.canCreate;have hct:=F.typeCall_set_1 (.ref l)
 repeat (any_goals (first |assumption |wp_step))
 refine AL (HJ (.ref l) (E:=E) (Q₁:=λobj s₁=>∃led:Bool,(w.params.followText "set-order"=false->led=true)/\obj=.ref s⁻¹/\s₁={ s with heap:=s.heap.push (CT led)}) λled hw=>⟨led,hw,rfl,rfl⟩) λr s₁ hr=>?_
 cases r with
 |error e=>exact hr
 |ok fl=>
  cases fl with
  |ret obj=>
   obtain⟨led,hw,rfl,rfl⟩:=hr;have hS:(s.heap.push (CT led)).get? s⁻¹=!(CT led):=dC _ rfl;have hT:Shared.TypeIs { s with heap:=s.heap.push (CT led)} (.ref s⁻¹) "set" :=⟨_,hS,rfl⟩;have hli:=F.called_set.init.lookup;have hbi:=F.called_set.init.bind (.ref s⁻¹)
   repeat (any_goals (first |assumption |wp_step))
   refine AL (codeAny_call_builtin (R:=wants (λr s₂=>r=.none/\Rg w s (gP val vs.length) s₂) E) F.called_set.init.plain F.entry_set_init (check_set_init_1 hT ?_)) λr₂ s₂ hr₂=>?_
   .
    have hl1:(s.heap.push (CT led)).IsTuple l vs.toArray:=by obtain⟨o,ho,rest⟩:=hl;exact#[o,a9 _ ho,rest]
    have hh3:A.in1.in1.in1.handled=none:=by simp[hh]
    have hS':(s.heap.push { cls:=.type "set",dict:=none,data:=.set ([].toArray) 0 (.fresh 0 0 led)}).get? s⁻¹=some { cls:=.type "set",dict:=none,data:=.set ([].toArray) 0 (.fresh 0 0 led)}:=hS;unfold Builtin.«set.__init__» noKeywords;generalize hUF:Builtin.Frozenset.updateFrom=UF
    wp_walk
    subst hUF;refine Il hh3 hl1 (yu hS hw) hv hN λs' hm hS2=>?_
    refine a8 #[rfl,hS2,λb o hb e=>hm.heap b o ?_ (a9 _ e),hm.gens,hm.drawn,hm.os,hm.toks]
    have hb2:b≠(s.heap.push (CT led)).objs.size:=by rw[qS];exact fA (y3 hb)
    simp only[dL,kA,AA,not_or];exact#[fA hb,hb2]
   .
    cases r₂ with
    |error e=>exact hr₂
    |ok fl₂=>
     cases fl₂ with
     |ret r=>
      obtain⟨rfl,hD⟩:=hr₂
      repeat (any_goals (first |assumption |wp_step))
      exact q _ hD
     |_=>exact hr₂.elim
  |_=>exact hr.elim
end
end Sb
namespace Ev
open L2 PySem.W Sb
section
variable{X:Cx}{z:Z}{g g1:G}{p p2 pos pos2:Pos}{e:Expr}
theorem Im{r:R}{l:List D}{ns: ~~~0}(hc:X.calm=true)(hK:z.K=X.K)(ha:bO X z [e] g [r] g1)(hp:pk r g1=!(.tup l))(hi:aQ l=!ns)(hl:Kq (fQ [] ns))
  (hg:Gl X "sorted") (hm:X.mg "sorted"=none) (hg2:Gl X "set") (hm2:X.mg "set"=none) (b9:starEach [e] X.env=(false,eval e X.env)::starEach [] X.env) :
  aA X z (.Call (.Name "sorted" p) [.Call (.Name "set" p2) [e] [] pos2] [] pos) g (.new ((bQ (fQ [] ns)).map .int)) g1:=by
 refine aA.of λah s Y As M H Post I st k=>?_
 refine o3 (dP I hg hm (by rfl:bootBuiltins ("sorted":Str)=!(.builtin "sorted")) (PyProof.Rows.callWith_builtin1 ?_ rfl rfl))
 show wpAny _ _ (spliced ((false,eval (.Call (.Name "set" p2) [e] [] pos2) X.env)::backTo pos (starEach [] X.env))) _ _ s;refine Calls.spliced_cons ?_;refine o3 (dP I hg2 hm2 (by rfl:bootBuiltins ("set":Str)=!(.type "set")) (oC (ha.run I st λvs us s1 H1 aI M1 I1 r1 q1 q2 q3=>?_) b9 rfl))
 have lJ:=q1.lJ q3 (ds:=[.tup l]) (by unfold lJ;rw[hp];rfl)
 obtain⟨v1,rfl,ZM⟩:=lJ.one;obtain⟨u1,rfl,ZN⟩:=vals1 r1;obtain⟨a,xs,rfl,e1,e2⟩:=ZM.tup;cases ZN;have ex:=bB e2 hi;subst ex;obtain⟨its,rv,pl,_⟩:=I1.tuple (hK▸e1.sq);have hI:IntsAre its ns:=by simpa using intsAre_of rv
 have aH:its.length=ns.length:=by rw[<- rv.length,eA]
 have Ke:s1.heap.IsTuple a its.toArray:=pl;have hh:=I1.ok.hd hc;have hms:gP (λj=>ns.getD j 0) its.length=fQ [] ns:=by
  have:=qQ (λj=>ns.getD j 0) ns 0 λj _=>by rw[AV]
  rw[AV]at this;rw[aH];exact this
 have hln:(fQ [] ns).length<64:=Nat.lt_of_le_of_lt hl.2 ⋯;refine tE (val:=λj=>ns.getD j 0) hh Ke (Ij hI) (hms▸hl) λs' hD=>?_
 rw[hms]at hD;obtain⟨d1,d2,d3,d4,d5,d6⟩:=hD;obtain⟨h',g',dr',tk',os'⟩:=s';dsimp only at d1 d2 d3 d4 d5 d6;subst d3 d4 d5;have I2:L2.Inv X ah Y H1 { s1 with heap:=h',toks:=tk'}:=I1.kept λb o hb=>d2 b o (dS hb) hb
 refine Calls.spliced_nil ?_;refine vQ (s:={ s1 with heap:=h',toks:=tk'}) hh d1 hln λep out s2 s3 m1 m2 hget hB=>?_
 obtain⟨h2,g2,dr2,tk2,os2⟩:=s2;obtain⟨h3,g3,dr3,tk3,os3⟩:=s3;obtain⟨a1,a2,a3,a4,a5⟩:=m1;obtain⟨b1,b2,b3,b4,b5⟩:=m2;dsimp only at a1 a2 a3 a4 a5 b1 b2 b3 b4 b5 hget;subst a2 a3 a4 b2 b3 b4;have I3:L2.Inv X ah Y H1 { s1 with heap:=h2,toks:=tk2}:=I2.kept λb o hb=>a1 b o (λz=>nomatch z) hb
 have hf:H1 h2.objs.size=none:=I3.hok.fresh (dE _);have hsl:(bQ (fQ [] ns)).length<64:=by rw[(bZ _).length_eq];exact hln
 refine k (.ref h2.objs.size) _ _ (upd H1 h2.objs.size (.lst ((bQ (fQ [] ns)).map V.int))) aI (h2.objs.size::M1) (I3.laid (t':=tk3) (o:=.lst ((bQ (fQ [] ns)).map V.int)) (λb o hb=>b1 b o (λz=>nomatch z) hb) (dE _) ?_) rfl (q1.aO hf) (q2.trans (aq.aO hf)) #[_,_,rfl,b0,λhA=>q1.fresh hf (q1.sub _ hA),q1.bY hf,az,vO _ _ _ _]
 exact#[by rw[eA,tI];lia,out.toList,ep,jU hB,by simpa using hget]
end
inductive Bl where
 |len |list |tuple |max |min |str |all |sorted |sum |any |int
 deriving DecidableEq
inductive Mt where
 |count |index
 deriving DecidableEq
set_option genInjectivity false in
inductive Ex where
 |val (d:D) |slot (i:Nat)
 |bin (op:Operator) (a b:Ex) |cmp (op:CmpOp) (a b:Ex) |chain (a:Ex) (ops:List CmpOp) (l:List Ex)
 |neg (a:Ex) |not (a:Ex) |and (l:List Ex) |or (l:List Ex) |ite (c a b:Ex)
 |tup (l:List Ex) |lst (l:List Ex)
 |ix (a b:Ex) |slice (a:Ex) (lo hi:Option Ex)
 |call (f:Nat) (l:List Ex) |blt (b:Bl) (l:List Ex) |pB (a:Ex) (n:String) |De (a:Ex) (ns:List String)
 |comp (n k:Nat) (T:Tg) (it:Ex) (c:Option Ex) (e:Ex)
 |qR (n k:Nat) (T:Tg) (it:Ex) (ks:List Ex) (v:Ex)
 |iH (n k:Nat) (T1:Tg) (pO:Ex) (c1:Option Ex) (T:Tg) (it:Ex) (c:Option Ex) (e:Ex)
 |cV (a:Ex) |dJ (a b:Ex) |jG (a b:Ex)
 |enum (a:Ex) |zip (a b:Ex) |qT (a:Ex) |sset (a:Ex) |meth (m:Mt) (o e:Ex)
 |vU (l:List (Bool×Ex))
 |emp |stk |peek (e:Ex)
 |oz (f ir:Nat) (ca:List Addr) (e:Ex) |qU (a:Ex) (l:List (Addr×Bool))
 |append (i:Nat) (e:Ex) |extend (i:Nat) (e:Ex) |lq (i:Nat) (e:Ex)
set_option genInjectivity false in
inductive Sm where
 |ret (e:Ex) |expr (e:Ex) |set (i:Nat) (e:Ex) |setC (i:Nat) (e:Ex) |item (i:Nat) (j e:Ex) |aug (i:Nat) (op:Operator) (e:Ex)
 |ite (c:Ex) (a b:List Sm) |loop (T:Tg) (it:Ex) (b:List Sm) |while (c:Ex) (b:List Sm) |raise (ci:Nat) (e:Ex) |dct (il:Nat) (b:List Sm) |stuck
structure Fx where
 np:Nat
 n:Nat
 body:List Sm
noncomputable def Tg.fV:Tg->Bool
 |.tp _=>true
 |.nm _=>false
noncomputable def iS(i j:Int):Bool:=(decide (-(2 ^ 64)<i)&&decide (i<2 ^ 64))||(decide (-(2 ^ 64)<j)&&decide (j<2 ^ 64))
def lim:Nat:=16777216
noncomputable def lO{α:Type}(f:Int->Int->Option α)(a b:D):Option α:=match a with
 |.int i=>(match b with |.int j=>f i j |_=>none)
 |_=>none
noncomputable def VM(a b:D):Option R:=match a with
 |.int i=>(match b with |.int j=>!(.dat (.int (i+j))) |_=>none)
 |.lst l=>(match b with |.lst m=>if l.length+m.length<=lim then some (.new (l++m))else none |_=>none)
 |.tup l=>(match b with |.tup m=>if l.length+m.length<=lim then some (.dat (.tup (l++m)))else none |_=>none)
 |_=>none
def Og(a:D)(k:Int):Option R:=match a with
 |.int i=>if iS i k=true then some (.dat (.int (i * k)))else none
 |.lst l=>if -(2 ^ 63)<=k/\k<2 ^ 63/\l.length * k.toNat<=lim then some (.new (List.replicate k.toNat l).flatten)else none
 |_=>none
def zW(op:Operator)(a b:D):Option R:=match op with
 |.Add=>VM a b
 |.Sub=>lO (λi j=>!(.dat (.int (i - j)))) a b
 |.Mult=>(match b with |.int k=>Og a k |_=>none)
 |.FloorDiv=>lO (λi j=>if 0<j/\j<18446744073709551616 then some (.dat (.int (i / j)))else none) a b
 |.Mod=>lO (λi j=>if 0<j then some (.dat (.int (i % j)))else none) a b
 |.Pow=>lO (λi j=>if 0<=j/\j<=1000/\i.natAbs<2 ^ 64 then some (.dat (.int (i ^ j.toNat)))else none) a b
 |_=>none
def Df:Operator->D->D->Option D
 |.Add,.int i,.int j=>!(.int (i+j))
 |.Sub,.int i,.int j=>!(.int (i - j))
 |.Mult,.int i,.int j=>if iS i j=true then some (.int (i * j))else none
 |_,_,_=>none
def oA(d1 d2:D):Bool:=jd d1&&jd d2&&decide (dep d1<=190)
def tF(d1:D)(l:List D):Bool:=jd d1&&eE l&&decide (deps l<=190)
def ltF(a b:D):Option Bool:=match a with
 |.int i=>(match b with |.int j=>!(decide (i<j)) |_=>none)
 |.tup l=>(match b with |.tup m=>(match aQ l with |some ns=>(match aQ m with |some ms=>!(HT.lexLt ns ms) |none=>none) |none=>none) |_=>none)
 |_=>none
def jH(op:CmpOp)(d1 d2:D):Option Bool:=match op with
 |.Eq=>if oA d1 d2=true then some (cI d1 d2)else none
 |.NotEq=>if oA d1 d2=true then some ((not (cI d1 d2)))else none
 |.Lt=>ltF d1 d2
 |.LtE=>lO (λi j=>!(decide (i<=j))) d1 d2
 |.GtE=>lO (λi j=>!(decide (i ≥ j))) d1 d2
 |.In=>(match cJ d2 with |some l=>if tF d1 l=true then some (l.any λd=>cI d d1)else none |none=>none)
 |.NotIn=>(match cJ d2 with |some l=>if tF d1 l=true then some ((not (l.any λd=>cI d d1)))else none |none=>none)
 |_=>none
def Oh:D->D->Option D
 |.lst l,.int i=>g9 l i
 |.fix l,.int i=>g9 l i
 |.tup l,.int i=>g9 l i
 |.uo ks ds,.tup l=>(match aQ l with |some n=>Q7 ks ds n |none=>none)
 |_,_=>none
def VN(b:Bl)(d:D):Option R:=match b with
 |.len=>(match Zv d with |some n=>!‹n› |none=>none)
 |.list=>(match cJ d with |some l=>!(.new l) |none=>none)
 |.tuple=>(match cJ d with |some l=>!(.dat (.tup l)) |none=>none)
 |.min=>(match cJ d with |some l=>(match fP l with |!(n::ns)=>!(.dat (.tup ((lN n ns).map .int))) |_=>(match Ii l with |!(k::ks)=>if Rf (k::ks)=true then some (.dat (unK (n6 Nk.VJ k ks)))else none |_=>none)) |none=>none)
 |.all=>(match d with |.lst l=>(match uT l with |some bs=>!(.dat (.bl (bs.all id))) |none=>none) |_=>none)
 |.sorted=>(match d with |.lst l=>(match fP l with |some dF=>if dF.length<64 then some (.new ((gF xR dF).map λns=>.tup (ns.map .int)))else none |none=>none) |_=>none)
 |.sum=>(match cJ d with |some l=>(match aQ l with |some ns=>!(.dat (.int ns.sum)) |none=>none) |none=>none)
 |_=>none
def bl2(b:Bl)(d e:D):Option R:=match b with
 |.max=>lO (λi j=>!(.dat (.int (if j > i then j else i)))) d e
 |.min=>lO (λi j=>!(.dat (.int (if j<i then j else i)))) d e
 |_=>none
def qV(b:Bl)(ds:List D):Option R:=match ds with
 | [d]=>VN b d
 | [d,e]=>bl2 b d e
 |_=>none
def mtF:Mt->D->D->Option D
 |.count,d0,d1=>match cJ d0 with |some l=>if tF d1 l=true then some (.int (l.countP λd=>cI d d1:Nat))else none |none=>none
 |.index,_,_=>none
noncomputable def kh(t n:String):Bool:=t==n||(t == "bool" && n == "int")
noncomputable def isW:Ex->Bool
 |.cV _=>true
 |.dJ _ _=>true
 |.enum _=>true
 |.zip _ _=>true
 |_=>false
structure Rn where
 e:List Nat->Nat->Ex->G->Option (R×G)
 t:List Nat->Nat->Ex->G->Option (Bool×G)
 b:List Nat->Nat->List Sm->G->Option (Fl×G)
 x:List Nat->Nat->Ex->G->Option (Nat×G)
 xt:List Nat->Nat->Ex->G->Option (Nat×G)
 xb:List Nat->Nat->List Sm->G->Option (Nat×G)
noncomputable def toD(bor:List Nat):R->G->Option (D×G)
 |.dat d,g=>!(d,g)
 |.new l,g=>!(.lst l,g)
 |.var i,g=>if i∈bor then none else match g[i]? with |!(.own l)=>!(.lst l,g.set i (.dat (.lst l))) |_=>none
noncomputable def norm:R->R
 |.new l=>.dat (.lst l)
 |.dat d=>.dat d
 |.var i=>.var i
section
variable(rn:Rn)(bor:List Nat)(k:Nat)
noncomputable def fz(e:Ex)(g:G):Option (D×G):=match rn.e bor k e g with
 |!(r,g1)=>toD bor r g1
 |none=>none
noncomputable def lu:List Ex->G->Option (List D×G)
 | [],g=>!([],g)
 |e::es,g=>match fz rn bor k e g with
  |!(d,g1)=>match lu es g1 with
   |!(ds,g2)=>!(d::ds,g2)
   |none=>none
  |none=>none
def argsR:List Ex->G->Option (List R×G)
 | [],g=>!([],g)
 |e::es,g=>match rn.e bor k e g with
  |!(r,g1)=>match argsR es g1 with
   |!(rs,g2)=>!(norm r::rs,g2)
   |none=>none
  |none=>none
def VP:D->List CmpOp->List Ex->G->Option (Bool×G)
 |d1,[op],[b],g=>match fz rn bor k b g with
  |!(d2,g1)=>match jH op d1 d2 with |some c=>!(c,g1) |none=>none
  |none=>none
 |d1,op::op'::ops,b::b'::bs,g=>match fz rn bor k b g with
  |!(d2,g1)=>match jH op d1 d2 with
   |some true=>VP d2 (op'::ops) (b'::bs) g1
   |some false=>!(false,g1)
   |none=>none
  |none=>none
 |_,_,_,_=>none
def Io:List Ex->G->Option (R×G)
 | [],_=>none
 | [a],g=>rn.e bor k a g
 |a::b::l,g=>match rn.e bor k a g with
  |!(.dat (.bl true),g1)=>Io (b::l) g1
  |!(.dat (.bl false),g1)=>!(.dat (.bl false),g1)
  |_=>none
def orF:List Ex->G->Option (R×G)
 | [],_=>none
 | [a],g=>rn.e bor k a g
 |a::b::l,g=>match rn.e bor k a g with
  |!(.dat (.bl false),g1)=>orF (b::l) g1
  |!(.dat (.bl true),g1)=>!(.dat (.bl true),g1)
  |_=>none
def vV:List Ex->G->Option (Bool×G)
 | [],_=>none
 | [a],g=>rn.t bor k a g
 |a::b::l,g=>match rn.t bor k a g with
  |!(true,g1)=>vV (b::l) g1
  |!(false,g1)=>!(false,g1)
  |none=>none
def Ip:List Ex->G->Option (Bool×G)
 | [],_=>none
 | [a],g=>rn.t bor k a g
 |a::b::l,g=>match rn.t bor k a g with
  |!(false,g1)=>Ip (b::l) g1
  |!(true,g1)=>!(true,g1)
  |none=>none
noncomputable def zX:Option Ex->G->Option (Option Int×G)
 |none,g=>!(none,g)
 |!e,g=>match fz rn bor k e g with
  |!(.int i,g1)=>!(!i,g1)
  |_=>none
noncomputable def Kr(j:Int):Bool:=decide (-(2 ^ 62)<=j)&&decide (j<2 ^ 62)
def fW(tp:Bool)(it:Ex)(g:G):Option (List D×G):=match it with
 |.cV a=>match fz rn bor k a g with
  |!(.int j,g1)=>if Kr j=true then some (dR 0 j.toNat,g1)else none
  |_=>none
 |.dJ a b=>match fz rn bor k a g with
  |!(.int c,g1)=>match fz rn bor k b g1 with
   |!(.int j,g2)=>if Kr c=true/\Kr j=true then some (dR c (j - c).toNat,g2)else none
   |_=>none
  |_=>none
 |.zip _ _=>none
 |.enum a=>if tp=true then match fz rn bor k a g with
  |!(.tup l,g1)=>!(kY l,g1)
  |_=>none
  else none
 |e=>match fz rn bor k e g with
  |!(.tup l,g1)=>!(l,g1)
  |!(.lst l,g1)=>!(l,g1)
  |!(.fix l,g1)=>!(l,g1)
  |_=>none
def Iq:Option Ex->G->Option (Bool×G)
 |none,g=>!(true,g)
 |!c,g=>rn.t bor k c g
def Ks(T:Tg)(last:Nat)(c:Option Ex)(e:Ex):List D->G->Option G
 | [],g=>!g
 |d::l,g=>match T.set d g with
  |none=>none
  |some g1=>match Iq rn bor k c g1 with
   |none=>none
   |!(false,g2)=>Ks T last c e l g2
   |!(true,g2)=>match fz rn bor k e g2 with
    |none=>none
    |!(x,g3)=>match g3[last]? with
     |!(.own acc)=>if acc.length<lim then Ks T last c e l (g3.set last (.own (acc++[x])))else none
     |_=>none
def iI(n kk:Nat)(T:Tg)(it:Ex)(c:Option Ex)(e:Ex)(g:G):Option (List D×G):=match fW rn bor k T.fV it g with
 |none=>none
 |!(ao,g1)=>if g1.length=n/\(T.ix.any λi=>decide (i∈bor))=false then match Ks rn bor k T (n+kk) c e ao (gC kk g1)with
   |none=>none
   |some gE=>match gE[n+kk]? with
    |!(.own acc)=>!(acc,gE.take n)
    |_=>none
  else none
def VR(T:Tg)(ks:List Ex)(v:Ex):List D->List (~~~0)->List D->G->Option ((List (~~~0)×List D)×G)
 | [],ka,da,g=>!((ka,da),g)
 |d::l,ka,da,g=>match T.set d g with
  |none=>none
  |some g1=>match lu rn bor k ks g1 with
   |none=>none
   |!(m,g2)=>match aQ m with
    |none=>none
    |some ns=>match fz rn bor k v g2 with
     |none=>none
     |!(x,g3)=>if ((ka.all λk=>(not (decide (k=ns))))&&(iR g3&&iB x))=true/\ka.length<lim/\m.length<=lim then VR T ks v l (ka++[ns]) (da++[x]) g3 else none
def oB(n kk:Nat)(T:Tg)(it:Ex)(ks:List Ex)(v:Ex)(g:G):Option ((List (~~~0)×List D)×G):=match fW rn bor k T.fV it g with
 |none=>none
 |!(ao,g1)=>if g1.length=n/\(T.ix.any λi=>decide (i∈bor))=false then match VR rn bor k T ks v ao [] [] (gD kk g1)with
   |none=>none
   |!(p,gE)=>!(p,gE.take n)
  else none
def vW(T1:Tg)(c1:Option Ex)(T:Tg)(it:Ex)(c:Option Ex)(e:Ex)(last:Nat):List D->G->Option G
 | [],g=>!g
 |d::l,g=>match T1.set d g with
  |none=>none
  |some g1=>match Iq rn bor k c1 g1 with
   |none=>none
   |!(false,g2)=>vW T1 c1 T it c e last l g2
   |!(true,g2)=>match fW rn bor k T.fV it g2 with
    |none=>none
    |!(ao,g3)=>match Ks rn bor k T last c e ao g3 with
     |none=>none
     |some g4=>vW T1 c1 T it c e last l g4
def ki(n kk:Nat)(T1:Tg)(pO:Ex)(c1:Option Ex)(T:Tg)(it:Ex)(c:Option Ex)(e:Ex)(g:G):Option (List D×G):=match fW rn bor k T1.fV pO g with
 |none=>none
 |!(ao,g1)=>if g1.length=n/\((T1.ix++T.ix).any λi=>decide (i∈bor))=false then match vW rn bor k T1 c1 T it c e (n+kk) ao (gC kk g1)with
   |none=>none
   |some gE=>match gE[n+kk]? with
    |!(.own acc)=>!(acc,gE.take n)
    |_=>none
  else none
def dD(fx:Fx)(k':Nat)(rs:List R)(g1:G):Option (R×G):=
 if rs.length=fx.np/\((vars 0 rs).map (·.2)).Nodup then match dz rs g1 with
  |none=>none
  |some gs=>match rn.b ((vars 0 rs).map (·.1)) k' fx.body (dU fx.n gs)with
   |!(.rt r,gc)=>match back (vars 0 rs) gc g1 with
    |some gO=>match dj ((vars 0 rs).map (·.1)) gc r with |some r'=>!(r',gO) |none=>none
    |none=>none
   |!(.nx,gc)=>match back (vars 0 rs) gc g1 with
    |some gO=>!(.dat .non,gO)
    |none=>none
   |_=>none
 else none
def Rh:Str->List (Bool×Ex)->G->Option (Str×G)
 |out,[],g=>!(out,g)
 |out,(false,.val (.str y))::es,g=>if (out++y).length<=lim then Rh (out++y) es g else none
 |out,(true,e)::es,g=>match fz rn bor k e g with
  |!(.int i,g1)=>if i.natAbs.log2<1920/\(out++(toString i:Str)).length<=lim then Rh (out++(toString i:Str)) es g1 else none
  |_=>none
 |_,_,_=>none
def aP(fns:List Fx)(e:Ex)(g:G):Option (R×G):=match e with
 |.val d=>!(.dat d,g)
 |.slot i=>match g[i]? with |!(.dat d)=>!(.dat d,g) |!(.own _)=>!(.var i,g) |_=>none
 |.bin op a b=>match argsR rn bor k [a,b] g with
  |!([r1,r2],g2)=>match pk r1 g2,pk r2 g2 with
   |!d1,!d2=>match zW op d1 d2 with |some r=>!(r,g2) |none=>none
   |_,_=>none
  |_=>none
 |.cmp op a b=>match argsR rn bor k [a,b] g with
  |!([r1,r2],g2)=>match pk r1 g2,pk r2 g2 with
   |!d1,!d2=>match jH op d1 d2 with |some c=>!(.dat (.bl c),g2) |none=>none
   |_,_=>none
  |_=>none
 |.chain a ops l=>match fz rn bor k a g with
  |!(d1,g1)=>match VP rn bor k d1 ops l g1 with |!(c,g2)=>!(.dat (.bl c),g2) |none=>none
  |none=>none
 |.neg a=>match fz rn bor k a g with |!(.int i,g1)=>!(.dat (.int (-i)),g1) |_=>none
 |.not a=>match rn.e bor k a g with |!(.dat (.bl c),g1)=>!(.dat (.bl ((not c))),g1) |_=>none
 |.and l=>Io rn bor k l g
 |.or l=>orF rn bor k l g
 |.ite c a b=>match rn.t bor k c g with
  |!(true,g1)=>rn.e bor k a g1
  |!(false,g1)=>rn.e bor k b g1
  |none=>none
 |.tup l=>match lu rn bor k l g with |!(ds,g1)=>if ds.length<=lim then some (.dat (.tup ds),g1)else none |none=>none
 |.lst l=>match lu rn bor k l g with |!(ds,g1)=>if ds.length<=lim then some (.new ds,g1)else none |none=>none
 |.ix a b=>match argsR rn bor k [a,b] g with
  |!([r1,r2],g2)=>match pk r1 g2,pk r2 g2 with
   |!d1,!d2=>match Oh d1 d2 with |some d=>!(.dat d,g2) |none=>none
   |_,_=>none
  |_=>none
 |.slice a lo hi=>match rn.e bor k a g with
  |!(r,g1)=>match zX rn bor k lo g1 with
   |!(i,g2)=>match zX rn bor k hi g2 with
    |!(j,g3)=>match norm r with
     |.dat (.tup l)=>!(.dat (.tup (lM l i j)),g3)
     |.dat (.fix l)=>!(.new (lM l i j),g3)
     |r'=>match pk r' g3 with |!(.lst l)=>!(.new (lM l i j),g3) |_=>none
    |none=>none
   |none=>none
  |none=>none
 |.call f l=>match fns[f]?,k with
  |!fx,k'+1=>match argsR rn bor k l g with
   |!(rs,g1)=>dD rn fx k' rs g1
   |none=>none
  |_,_=>none
 |.blt b l=>match argsR rn bor k l g with
  |!(rs,g1)=>match lJ rs g1 with
   |some ds=>match qV b ds with |some r=>!(r,g1) |none=>none
   |none=>none
  |none=>none
 |.pB a n=>match rn.e bor k a g with
  |!(r,g1)=>match pk (norm r) g1 with |some d=>!(.dat (.bl (kh (qo d) n)),g1) |none=>none
  |none=>none
 |.De a ns=>match rn.e bor k a g with
  |!(r,g1)=>match pk (norm r) g1 with |some d=>!(.dat (.bl (ns.any (kh (qo d)))),g1) |none=>none
  |none=>none
 |.comp n kk T it c e=>match iI rn bor k n kk T it c e g with |!(acc,g1)=>!(.new acc,g1) |none=>none
 |.qR n kk T it ks v=>match oB rn bor k n kk T it ks v g with |!(p,g1)=>!(.dat (.uo p.1 p.2),g1) |none=>none
 |.iH n kk T1 pO c1 T it c e=>match ki rn bor k n kk T1 pO c1 T it c e g with |!(acc,g1)=>!(.new acc,g1) |none=>none
 |.emp=>!(.dat (.emp []),g)
 |.stk=>none
 |.peek e=>if bor.isEmpty=true then match rn.e [] k e (g.map kP)with |!(.dat d,_)=>if flat d=true then some (.dat d,g)else none |!(.new l,_)=>if l.all kZ=true then some (.new l,g)else none |_=>none else none
 |.oz f ir ca e=>match fns[f]?,k with
  |!fx,k'+2=>match rn.x [] k' e (g.map noOwn)with
   |!(ci,_)=>match ca[ci]? with
    |some C=>match rn.b [] k' (fx.body.drop 2) ((List.replicate fx.n .no).set ir (.dat (.lG C)))with
     |!(.rt r,g3)=>match dj [] g3 r with |some r'=>!(r',g) |none=>none
     |_=>none
    |none=>none
   |none=>none
  |_,_=>none
 |.qU a l=>match rn.e bor k a g with
  |!(r,g1)=>match pk (norm r) g1 with
   |!(.lG C)=>match l.lookup C with |some b=>!(.dat (.bl b),g1) |none=>none
   |some .non=>!(.dat (.bl false),g1)
   |_=>none
  |none=>none
 |.append i e=>match g[i]? with
  |!(.own _)=>match fz rn bor k e g with
   |!(d,g1)=>match g1[i]? with |!(.own l)=>if l.length<lim then some (.dat .non,g1.set i (.own (l++[d])))else none |_=>none
   |none=>none
  |_=>none
 |.extend i e=>match g[i]? with
  |!(.own _)=>match fz rn bor k e g with
   |!(.lst m,g1)=>match g1[i]? with |!(.own l)=>if l.length+m.length<=lim then some (.dat .non,g1.set i (.own (l++m)))else none |_=>none
   |_=>none
  |_=>none
 |.lq i e=>match g[i]? with
  |!(.own _)=>match fz rn bor k e g with
   |!(.int j,g1)=>match g1[i]? with
    |!(.own l)=>match xD l.length j with
     |some n=>match l[n]? with |some d=>if l.length<lim then some (.dat d,g1.set i (.own (l.eraseIdx n)))else none |none=>none
     |none=>none
    |_=>none
   |_=>none
  |_=>none
 |.vU l=>match l with
  |_::_::_=>match Rh rn bor k Str.empty l g with |!(r,g1)=>!(.dat (.str r),g1) |none=>none
  |_=>none
 |.cV _=>none
 |.dJ _ _=>none
 |.enum _=>none
 |.zip _ _=>none
 |.qT a=>match rn.e bor k a g with
  |!(r,g1)=>match pk (norm r) g1 with
   |!(.lst l)=>(match aQ l with |some ns=>if ns.length<64 then some (.new ((bQ ns).reverse.map .int),g1)else none |none=>none)
   |_=>none
  |none=>none
 |.sset a=>match rn.e bor k a g with
  |!(r,g1)=>match pk (norm r) g1 with
   |!(.tup l)=>(match aQ l with |some ns=>if Sb.Kq (fQ [] ns)then some (.new ((bQ (fQ [] ns)).map .int),g1)else none |none=>none)
   |_=>none
  |none=>none
 |.meth m o e=>match rn.e bor k o g with
  |!(r0,g1)=>match pk (norm r0) g1 with
   |some d=>match cJ d with
    |some _=>match rn.e bor k e g1 with
     |!(r1,g2)=>match pk (norm r0) g2,pk (norm r1) g2 with
      |!d0,!d1=>match mtF m d0 d1 with |some x=>!(.dat x,g2) |none=>none
      |_,_=>none
     |none=>none
    |none=>none
   |none=>none
  |none=>none
 |.jG a b=>match fz rn bor k a g with
  |!(.int c,g1)=>match fz rn bor k b g1 with
   |!(.int j,g2)=>if Kr c=true/\Kr j=true/\(j - c).toNat<=lim then some (.new (dR c (j - c).toNat),g2)else none
   |_=>none
  |_=>none
def stepT(e:Ex)(g:G):Option (Bool×G):=match e with
 |.cmp op a b=>match argsR rn bor k [a,b] g with
  |!([r1,r2],g2)=>match pk r1 g2,pk r2 g2 with
   |!d1,!d2=>match jH op d1 d2 with |some c=>!(c,g2) |none=>none
   |_,_=>none
  |_=>none
 |.chain a ops l=>match fz rn bor k a g with
  |!(d1,g1)=>VP rn bor k d1 ops l g1
  |none=>none
 |.not a=>match rn.t bor k a g with |!(c,g1)=>!((not c),g1) |none=>none
 |.and l=>vV rn bor k l g
 |.or l=>Ip rn bor k l g
 |.ite _ _ _=>none
 |e=>match rn.e bor k e g with
  |!(r,g1)=>match pk (norm r) g1 with
   |some d=>match Mr d with |some c=>!(c,g1) |none=>none
   |none=>none
  |none=>none
def cg(T:Tg)(b:G->Option (Fl×G)):List D->G->Option (Fl×G)
 | [],g=>!(.nx,g)
 |d::l,g=>match T.set d g with
  |none=>none
  |some g0=>match b g0 with
   |none=>none
   |!(.nx,g1)=>cg T b l g1
   |!(.ct,g1)=>cg T b l g1
   |!(.bk,g1)=>!(.nx,g1)
   |!(.rt r,g1)=>!(.rt r,g1)
noncomputable def Oi(c:G->Option (Bool×G))(b:G->Option (Fl×G)):Nat->G->Option (Fl×G)
 | 0,_=>none
 |n+1,g=>match c g with
  |none=>none
  |!(false,g1)=>!(.nx,g1)
  |!(true,g1)=>match b g1 with
   |none=>none
   |!(.nx,g2)=>Oi c b n g2
   |!(.ct,g2)=>Oi c b n g2
   |!(.bk,g2)=>!(.nx,g2)
   |!(.rt r,g2)=>!(.rt r,g2)
def pnD(l:List D):Option Nk.Pn:=match Od l with |some a=>if h:Nk.dep a<=3 then some ⟨a,h⟩else none |none=>none
def zY(g:G)(j:Nat):Option Nk.Pn:=match g[j]? with |!(.dat (.tup l))=>pnD l |_=>none
noncomputable def dmX(il:Nat)(e:Ex):Option Nat:=match e with |.lq i x=>if i=il then (match x with |.slot j=>!j |_=>none)else none |_=>none
def V0(il:Nat)(e:Ex):Bool:=match e with |.ix a b=>(match a with |.blt .list l=>(match l with | [.slot i]=>decide (i=il) |_=>false) |_=>false)&&(match b with |.val (.int i)=>decide (i=0) |_=>false) |_=>false
noncomputable def Ir(il:Nat)(e:Ex):Bool:=match e with |.blt .len l=>(match l with | [.slot i]=>decide (i=il) |_=>false) |_=>false
def dmC(il:Nat)(c:Ex)(ks:List Nk.Pn)(g:G):Option Bool:=match c with
 |.cmp .In (.slot j) (.slot i)=>if i=il then (match zY g j with |some kk=>!(decide (kk∈ks)) |none=>none)else none
 |.cmp .NotEq (.slot i) .emp=>if i=il then some (decide (ks≠[]))else none
 |_=>none
def whD(il:Nat)(c:Ex)(f:List Nk.Pn->G->Option (List Nk.Pn×G)):Nat->List Nk.Pn->G->Option (List Nk.Pn×G)
 | 0,_,_=>none
 |n+1,ks,g=>match dmC il c ks g with
  |some true=>(match f ks g with |!(k1,g1)=>whD il c f n k1 g1 |none=>none)
  |some false=>!(ks,g)
  |none=>none
def lpD(T:Tg)(f:List Nk.Pn->G->Option (List Nk.Pn×G)):List D->List Nk.Pn->G->Option (List Nk.Pn×G)
 | [],ks,g=>!(ks,g)
 |d::l,ks,g=>match T.set d g with
  |some g0=>(match f ks g0 with |!(k1,g1)=>lpD T f l k1 g1 |none=>none)
  |none=>none
def X5(il:Nat)(f:List Sm->List Nk.Pn->G->Option (List Nk.Pn×G))(s:Sm)(ks:List Nk.Pn)(g:G):Option (List Nk.Pn×G):=match s with
 |.expr e=>match dmX il e with
  |some j=>(match zY g j with |some kk=>if kk∈ks then some (zS ks kk,g)else none |none=>none)
  |none=>(match rn.e bor k e g with |!(_,g1)=>!(ks,g1) |none=>none)
 |.set i e=>if i=il\/i∈bor then none else if V0 il e=true then (match ks with |kk::_=>if ks.length<=1000 then some (ks,g.set i (.dat (.tup (Nk.dT kk.1))))else none | []=>none)else (match rn.e bor k e g with
  |!(.new l,g1)=>if i<g1.length then some (ks,g1.set i (.own l))else none
  |!(.dat d,g1)=>!(ks,g1.set i (.dat d))
  |_=>none)
 |.item i xj x=>if i=il then (match rn.e bor k x g with
  |!(.dat (.bl true),g0)=>(match rn.e bor k xj g0 with
   |!(.dat (.tup l),g1)=>(match pnD l with |some kk=>if ks.length<1000 then some (putK ks kk,g1)else none |none=>none)
   |_=>none)
  |_=>none)else none
 |.loop T it b=>if T.ix.any (λi=>decide (i∈bor))=true\/il∈T.ix then none else (match fW rn bor k T.fV it g with
  |!(ao,g1)=>lpD T (f b) ao ks g1
  |none=>none)
 |.while c b=>whD il c (f b) 1000 ks g
 |_=>none
def dmB(f:Sm->List Nk.Pn->G->Option (List Nk.Pn×G)):List Sm->List Nk.Pn->G->Option (List Nk.Pn×G)
 | [],ks,g=>!(ks,g)
 |s::l,ks,g=>match f s ks g with |!(k1,g1)=>dmB f l k1 g1 |none=>none
def dmN(il:Nat):Nat->Sm->List Nk.Pn->G->Option (List Nk.Pn×G)
 | 0=>λ_ _ _=>none
 |n+1=>X5 rn bor k il (dmB (dmN il n))
def dmG(il:Nat):List Sm->List Nk.Pn->G->Option (R×G)
 | [],_,_=>none
 |s::l,ks,g=>match s with
  |.ret e=>if l.isEmpty=true then (if Ir il e=true then some (.dat (.int ks.length),g)else rn.e bor k e g)else none
  |s=>match dmN rn bor k il 20 s ks g with |!(k1,g1)=>dmG il l k1 g1 |none=>none
def aK(st:Sm)(g:G):Option (Fl×G):=match st with
 |.ret e=>match rn.e bor k e g with |!(r,g1)=>!(.rt r,g1) |none=>none
 |.expr e=>match rn.e bor k e g with |!(_,g1)=>!(.nx,g1) |none=>none
 |.set i e=>if i∈bor then none else match rn.e bor k e g with
  |!(.new l,g1)=>if i<g1.length then some (.nx,g1.set i (.own l))else none
  |!(r,g1)=>match toD bor r g1 with |!(d,g2)=>!(.nx,g2.set i (.dat d)) |none=>none
  |none=>none
 |.setC i e=>if i∈bor then none else match e with
  |.comp n kk T it c e=>match iI rn bor k n kk T it c e g with
   |!(acc,g1)=>if i<g1.length then some (.nx,g1.set i (.own acc))else none
   |none=>none
  |.iH n kk T1 pO c1 T it c e=>match ki rn bor k n kk T1 pO c1 T it c e g with
   |!(acc,g1)=>if i<g1.length then some (.nx,g1.set i (.own acc))else none
   |none=>none
  |_=>none
 |.item i j e=>match fz rn bor k e g with
  |!(d,g1)=>match g1[i]? with
   |!(.own _)=>match fz rn bor k j g1 with
    |!(.int n,g2)=>match g2[i]? with
     |!(.own l)=>match xD l.length n with |some m=>!(.nx,g2.set i (.own (l.set m d))) |none=>none
     |_=>none
    |_=>none
   |_=>none
  |none=>none
 |.aug i op e=>if i∈bor then none else match g[i]? with
  |!(.dat d1)=>match fz rn bor k e g with
   |!(d2,g1)=>match Df op d1 d2 with |some d=>!(.nx,g1.set i (.dat d)) |none=>none
   |none=>none
  |!(.own _)=>if op=.Add then match fz rn bor k e g with
    |!(.lst m,g1)=>match g1[i]? with |!(.own l)=>if l.length+m.length<=lim then some (.nx,g1.set i (.own (l++m)))else none |_=>none
    |_=>none
   else none
  |_=>none
 |.ite c a b=>match rn.t bor k c g with
  |!(true,g1)=>rn.b bor k a g1
  |!(false,g1)=>rn.b bor k b g1
  |none=>none
 |.loop T it b=>if T.ix.any (λi=>decide (i∈bor))=true then none else match fW rn bor k T.fV it g with
  |!(ao,g1)=>cg T (rn.b bor k b) ao g1
  |none=>none
 |.while c b=>Oi (rn.t bor k c) (rn.b bor k b) 100000 g
 |.raise _ _=>none
 |.dct il b=>match g[il]? with
  |some .no=>(match dmG rn bor k il b [] g with |!(r,g1)=>!(.rt r,g1) |none=>none)
  |_=>none
 |.stuck=>none
def eZ:List Sm->G->Option (Fl×G)
 | [],g=>!(.nx,g)
 |st::rest,g=>match aK rn bor k st g with
  |!(.nx,g1)=>eZ rest g1
  |!(f,g1)=>!(f,g1)
  |none=>none
def xW(it:Ex)(g:G):Option (Nat×G):=if isW it=true then none else rn.x bor k it g
def xArgs:List Ex->G->Option (Nat×G)
 | [],_=>none
 |e::es,g=>match rn.x bor k e g with
  |some r=>!r
  |none=>match rn.e bor k e g with
   |!(_,g1)=>xArgs es g1
   |none=>none
def qW(fx:Fx)(k':Nat)(rs:List R)(g1:G):Option (Nat×G):=
 if rs.length=fx.np/\((vars 0 rs).map (·.2)).Nodup then match dz rs g1 with
  |none=>none
  |some gs=>match rn.xb ((vars 0 rs).map (·.1)) k' fx.body (dU fx.n gs)with
   |!(ci,gc)=>match back (vars 0 rs) gc g1 with |some gO=>!(ci,gO) |none=>none
   |none=>none
 else none
def vX(fns:List Fx)(e:Ex)(g:G):Option (Nat×G):=match e with
 |.call f l=>match xArgs rn bor k l g with
  |some r=>!r
  |none=>match fns[f]?,k with
   |!fx,k'+1=>match argsR rn bor k l g with
    |!(rs,g1)=>qW rn fx k' rs g1
    |none=>none
   |_,_=>none
 |_=>none
def tG(e:Ex)(g:G):Option (Nat×G):=match e with
 |.not a=>rn.xt bor k a g
 |.call f l=>rn.x bor k (.call f l) g
 |_=>none
noncomputable def kj(st:Sm)(g:G):Option (Nat×G):=match st with
 |.ret e=>rn.x bor k e g
 |.expr e=>rn.x bor k e g
 |.ite c a b=>match rn.xt bor k c g with
  |some r=>!r
  |none=>match rn.t bor k c g with
   |!(true,g1)=>rn.xb bor k a g1
   |!(false,g1)=>rn.xb bor k b g1
   |none=>none
 |.raise ci e=>match fz rn bor k e g with |!(_,g1)=>!(ci,g1) |none=>none
 |_=>none
def fM:List Sm->G->Option (Nat×G)
 | [],_=>none
 |st::rest,g=>match kj rn bor k st g with
  |some r=>!r
  |none=>match aK rn bor k st g with
   |!(.nx,g1)=>fM rest g1
   |_=>none
end
def step(fns:List Fx)(rn:Rn):Rn:=#[λbor k e g=>aP rn bor k fns e g,λbor k e g=>stepT rn bor k e g,λbor k l g=>eZ rn bor k l g,λbor k e g=>vX rn bor k fns e g,λbor k e g=>tG rn bor k e g,λbor k l g=>fM rn bor k l g]
noncomputable def rn0:Rn:=#[λ_ _ _ _=>none,λ_ _ _ _=>none,λ_ _ _ _=>none,λ_ _ _ _=>none,λ_ _ _ _=>none,λ_ _ _ _=>none]
def run(fns:List Fx):Nat->Rn
 | 0=>rn0
 |n+1=>step fns (run fns n)
structure Ct where
 N:List Str
 sc:Scope
 df:Bool
 q:Str
structure Fi where
 name:Str
 qual:Str
 st:Stmt
 N:List Str
 ps:List Str
structure Pg where
 fn:List Fi
 ct:List (Str×D)
 bn:List Str
 cls:List Str:=[]
 lam:Bool:=false
 oE:List Addr:=[]
 kt:Str:=Str.empty
 ups:List (Str×List (Addr×Bool)):=[]
def Iu(K:Frag)(mg:Str->Option Value)(n:Str)(bx:Value):Prop:=
 ∃c q,bx=.ref c/\(∀b:Heap,K.In b->PySem.W.CodeHd b c q)/\(q,pI n)∈bW K/\(∀b:Heap,K.In b->b.BuiltinsAt mg q)/\mainGlobals≠q/\∀p∈bW K,p.1=q->p.2=pI n
structure tH(P:Pg)(K:Frag)(mg:Str->Option Value):Prop where
 fn:∀(i:Nat) (fi:Fi),P.fn[i]?=!fi->∃f fd,mg fi.name=!(.ref f)/\Lg K fi.name fi.qual fi.st f fd/\bI fi.N fi.ps (aC fi.st)/\L2.Binds K fd fi.ps []/\(fi.name==(~~~3))=false
 ct:∀(x:Str) (d:D),(x,d)∈P.ct->(x==(~~~3))=false/\∃v u,mg x=!u/\RelV v u/\∀M H,Rep K M H d v
 bn:∀x∈P.bn,mg x=none
 cls:∀x∈P.cls,(x==(~~~3))=false/\∃C,mg x=!(.ref C)/\dH K C
 lam:P.lam=true->∀n∈iF,∀bx,PySem.W.codeIn K bx n=true->Iu K mg n bx
 oE:∀(i:Nat) (C:Addr),P.oE[i]?=!C->∃x,P.cls[i]?=!x/\mg x=!(.ref C)/\dH K C/\Fy K C
 kt:P.lam=true->(P.kt==(~~~3))=false/\∃D,mg P.kt=!(.ref D)/\dH K D/\∀C∈P.oE,pL K C D=true
 ups:∀(x:Str) (l:List (Addr×Bool)),(x,l)∈P.ups->(x==(~~~3))=false/\∃cv,((mg x=!cv/\∃D,cv=.ref D)\/(x∈P.bn/\x≠ "__name__" /\bootBuiltins x=!cv/\∃n,cv=.type n))/\PySem.W.kitOne K (.type "NoneType") cv=!false/\∀C b,l.lookup C=!b->PySem.W.kitOne K (.ref C) cv=!b
structure aM(P:Pg)(k:Nat)(X:Cx)(c:Ct):Prop where
 N:X.N=c.N
 nd:c.N.Nodup
 lcl:∀x,c.sc.names.lookup x=some .local->X.env.scope.names.lookup x=some .local
 lz:∀x,c.sc.names.lookup x=some .globalImplicit->Gl X x
 fre:∀x,c.sc.names.lookup x=some .cell\/c.sc.names.lookup x=some .free->X.env.scope.names.lookup x=some .cell\/X.env.scope.names.lookup x=some .free
 cel:c.df=true->∀x,c.sc.names.lookup x=some .cell->X.env.scope.names.lookup x=some .cell
 fn:∀x,c.df=true\/c.sc.names.lookup x=some .local->X.fn x=true
 bk:c.df=true->X.env.blockKind=.function
 calm:X.calm=true
 xe:X.xe=λ_ _=>False
 md:tH P X.K X.mg
 room:bH k X.A
 lam:c.q∈iF->P.lam=true->X.env.qual ++ "<lambda>"=pI c.q/\Iu X.K X.mg c.q X.env.code
noncomputable def yw(sc:Scope)(x:Str):Bool:=match sc.names.lookup x with |some .local=>true |some .cell=>true |some .free=>true |_=>false
noncomputable def gQ(c:Ct)(x:Str):Bool:=match c.sc.names.lookup x with |some .local=>true |some .cell=>c.df |_=>false
noncomputable def fO(x:Str):Bool:=(not ((x==(~~~3))))&&(not ((x==("__classdict__":Str))))
section
theorem aM.vis(h:aM P k X c)(hv:yw c.sc x=true):um X.env.scope x:=by
 unfold yw at hv;split at hv
 . rename_i e;exact .inl (h.lcl x e)
 . rename_i e;exact (h.fre x (.inl e)).elim (λq=>.inr (.inl q)) λq=>.inr (.inr q)
 . rename_i e;exact (h.fre x (.inr e)).elim (λq=>.inr (.inl q)) λq=>.inr (.inr q)
 . cases hv
theorem aM.nm(h:aM P k X c)(hi:c.N[i]?=!x)(hs:gQ c x=true):sI X x i:=by
 refine#[h.N▸h.nd,by rw[h.N];exact hi,?_,.inl (h.fn x ?_)]
 .
  unfold gQ at hs;split at hs
  . rename_i e;exact .inl (h.lcl x e)
  . rename_i e;exact .inr (h.cel hs x e)
  . cases hs
 .
  unfold gQ at hs;split at hs
  . rename_i e;exact .inr e
  . exact .inl hs
  . cases hs
theorem cC(h:fO x=true):(x==(~~~3))=false/\(x==("__classdict__":Str))=false:=by unfold fO at h;simp only[dA,B5]at h;exact h
theorem cW{α:Type}{f:Int->Int->Option α}{a b:D}{r:α}(h:lO f a b=!r):∃i j,a=.int i/\b=.int j/\f i j=!r:=by
 unfold lO at h;split at h
 .
  split at h
  . exact#[_,_,rfl,rfl,h]
  . symm
 . symm
theorem Oj{d1 d2:D}{r:R}(hK:z.K=X.K)(h:VM d1 d2=!r):lH X z (binaryOp .Add) d1 d2 r:=by
 unfold VM at h;split at h
 .
  split at h
  . symm;exact lT R9
  . symm
 .
  split at h
  .
   split at h
   . rename_i hc;symm;exact T5 hc
   . symm
  . symm
 .
  split at h
  .
   split at h
   . rename_i hc;symm;exact LW hK hc
   . symm
  . symm
 . symm
theorem Iv:jq X (binaryOp .FloorDiv) (rI (λ_ j=>0<j/\j<18446744073709551616) λi j=>.int (i / j)):=YT λi j _ _ _ _ _ hc q=>by
 have h1:0<j/\j<18446744073709551616:=hc;refine floordiv_int ⋯ (by rw[Int.fdiv_eq_ediv_of_nonneg i ⋯];exact q) (.inl (PyProof.noPylong_of_log2 ?_))
 have h2:j.natAbs.log2<64:=(Nat.log2_lt ⋯).mpr (by show _<18446744073709551616;lia)
 lia
theorem Ol{d1:D}{k:Int}{r:R}(hK:z.K=X.K)(h:Og d1 k=!r):lH X z (binaryOp .Mult) d1 (.int k) r:=by
 unfold Og at h;split at h
 .
  split at h
  . rename_i hc;symm;refine nh Se ?_;unfold iS at hc;simp only[wS,dA,eQ]at hc;exact hc
  . symm
 .
  split at h
  . rename_i hc;symm;exact T6 hc.1 hc.2.1 hc.2.2
  . symm
 . symm
theorem V1(hK:z.K=X.K)(h:zW op d1 d2=!r):lH X z (binaryOp op) d1 d2 r:=by
 cases op with
 |Add=>exact Oj hK h
 |Sub=>obtain⟨i,j,rfl,rfl,h'⟩:=cW h;cases h';exact lT Sd
 |Mult=>
  dsimp only[zW]at h;split at h
  . exact Ol hK h
  . symm
 |FloorDiv=>
  obtain⟨i,j,rfl,rfl,h'⟩:=cW h;split at h'
  . rename_i hc;cases h';exact nh Iv hc
  . cases h'
 |Mod=>
  obtain⟨i,j,rfl,rfl,h'⟩:=cW h;split at h'
  . rename_i hc;cases h';exact nh Sf hc
  . cases h'
 |Pow=>
  obtain⟨i,j,rfl,rfl,h'⟩:=cW h;split at h'
  . rename_i hc;cases h';exact nh rY #[hc.1,by have:=hc.2.1;lia,hc.2.2]
  . cases h'
 |_=>symm
theorem Om(h:Df op d1 d2=!d):lH X z (inplaceOp op) d1 d2 (.dat d):=by
 unfold Df at h;split at h
 . symm;exact lT K3
 . symm;exact lT K4
 .
  split at h
  . rename_i hc;symm;refine nh K5 ?_;unfold iS at hc;simp only[wS,dA,eQ]at hc;exact hc
  . symm
 . symm
theorem oF(hK:z.K=X.K)(hr:bH k X.A)(h:jH op d1 d2=!b):lH X z (compareOp op) d1 d2 (.dat (.bl b)):=by
 have hu:=hr.un;cases op with
 |Eq=>
  dsimp only[jH]at h;split at h
  . rename_i hc;symm;simp only[oA,dA]at hc;exact Zo hK hc.1.1 hc.1.2 (by have:=hc.2;lia)
  . symm
 |NotEq=>
  dsimp only[jH]at h;split at h
  . rename_i hc;symm;simp only[oA,dA]at hc;exact Zr hK hc.1.1 hc.1.2 (by have:=hc.2;lia)
  . symm
 |Lt=>
  dsimp only[jH,ltF]at h;split at h
  .
   split at h
   . symm;exact xJ YW
   . symm
  .
   split at h
   .
    split at h
    .
     rename_i h1;split at h
     . rename_i h2;symm;exact Ua hK ⋯ h1 h2
     . symm
    . symm
   . symm
  . symm
 |LtE=>obtain⟨i,j,rfl,rfl,h'⟩:=cW h;cases h';exact xJ YX
 |GtE=>obtain⟨i,j,rfl,rfl,h'⟩:=cW h;cases h';exact xJ YZ
 |In=>
  dsimp only[jH]at h;split at h
  .
   rename_i hs;split at h
   . rename_i hc;symm;simp only[tF,dA]at hc;exact Zu hK hs hc.1.1 hc.1.2 (by have:=hc.2;lia)
   . symm
  . symm
 |NotIn=>
  dsimp only[jH]at h;split at h
  .
   rename_i hs;split at h
   . rename_i hc;symm;simp only[tF,dA]at hc;exact Ga hK hs hc.1.1 hc.1.2 (by have:=hc.2;lia)
   . symm
  . symm
 |_=>symm
theorem V2(hK:z.K=X.K)(hr:X.A.units+1<cLine)(h:Oh d1 d2=!d):XH X z d1 d2 (.dat d):=by
 unfold Oh at h;split at h
 . exact T8 hK h
 . exact T9 hK h
 . exact L0 hK h
 .
  split at h
  . rename_i e;exact Vi hK hr e h
  . symm
 . symm
noncomputable def blV:Bl->Str×Value
 |.len=>("len",.builtin "len")
 |.list=>("list",.type "list")
 |.tuple=>("tuple",.type "tuple")
 |.max=>("max",.builtin "max")
 |.min=>("min",.builtin "min")
 |.str=>("str",.type "str")
 |.all=>("all",.builtin "all")
 |.any=>("any",.builtin "any")
 |.int=>("int",.type "int")
 |.sorted=>("sorted",.builtin "sorted")
 |.sum=>("sum",.builtin "sum")
theorem V3{b:Bl}{d:D}{r:R}(hK:z.K=X.K)(hc:X.calm=true)(hr:X.A.units+6<cLine)(h:VN b d=!r):CallD X z (blV b).2 [d] r:=by
 cases b <;> dsimp only[VN]at h
 case len=>
  split at h
  . rename_i e;symm;exact Uc hK e
  . symm
 case list=>
  split at h
  . rename_i e;symm;exact L1 hK e
  . symm
 case tuple=>
  split at h
  . rename_i e;symm;exact Gd hK e
  . symm
 case min=>
  split at h
  .
   rename_i e1;split at h
   . rename_i e3;symm;exact NK hc ⋯ hK e1 e3
   .
    split at h
    .
     rename_i e5;split at h
     . rename_i e6;symm;exact Oe hc hr hK e1 e5 e6
     . symm
    . symm
  . symm
 case all=>
  split at h
  .
   split at h
   . rename_i e;symm;exact Ug hc e
   . symm
  . symm
 case sorted=>
  split at h
  .
   split at h
   .
    rename_i e2;split at h
    . rename_i e3;symm;exact xT hK e2 e3
    . symm
   . symm
  . symm
 case sum=>
  split at h
  .
   rename_i e1;split at h
   . rename_i e2;symm;exact UJ hc hK e1 e2
   . symm
  . symm
 all_goals symm
theorem V4{b:Bl}{ds:List D}{r:R}(hK:z.K=X.K)(hc:X.calm=true)(hr:X.A.units+6<cLine)(h:qV b ds=!r):CallD X z (blV b).2 ds r:=by
 unfold qV at h;split at h
 . exact V3 hK hc hr h
 .
  cases b with
  |max=>obtain⟨i,j,rfl,rfl,h'⟩:=cW h;cases h';exact Ud hc
  |min=>obtain⟨i,j,rfl,rfl,h'⟩:=cW h;cases h';exact Ue hc
  |_=>symm
 . symm
noncomputable def mtNm:Mt->Str
 |.count=> "count"
 |.index=> "index"
noncomputable def yx:Mt->D->String
 |.count,d=>QX d
 |.index,d=>ZP d
theorem V5{m:Mt}{d0 d1 x:D}(hK:z.K=X.K)(hr:bH k X.A)(h:mtF m d0 d1=!x):G4 X z (yx m d0) d0 d1 (.dat x):=by
 have hu:=hr.un;unfold mtF at h;split at h
 .
  split at h
  .
   rename_i hs;split at h
   . rename_i hc;symm;simp only[tF,dA]at hc;exact G6 hK hs hc.1.1 hc.1.2 (by have:=hc.2;lia)
   . symm
  . symm
 . symm
theorem Oo(hs:cJ d=!l)(he:yx m d0=yx m d):PlainAttrs (qo d)/\PySem.Slot (qo d) (mtNm m) (yx m d0)/\typeOf (.builtin (yx m d0))=pure (.type "method_descriptor"):=by
 rw[he];cases d with
 |tup _=>cases m;exact#[F.plainAttrs_tuple,F.slot_tuple_count,F.type_tuple_count];exact#[F.plainAttrs_tuple,F.slot_tuple_index,F.type_tuple_index]
 |lst _=>cases m;exact#[B9,B7,F.type_list_count];exact#[B9,F.slot_list_index,F.type_list_index]
 |fix _=>cases m;exact#[B9,B7,F.type_list_count];exact#[B9,F.slot_list_index,F.type_list_index]
 |_=>cases hs
theorem Oq(h1:pk r g1=!d)(h2:pk r g2=!d0):yx m d0=yx m d:=by
 cases r with
 |dat x=>cases h1;cases h2;rfl
 |new _=>cases h1
 |var i=>
  unfold pk at h1 h2;have key:∀{g:G}{d:D},(match g[i]? with |!(.own l)=>!(D.lst l) |!(.dat (.lst l))=>!(.lst l) |_=>none)=!d->∃l,d=.lst l:=λ{g d} h=>by
   split at h
   . symm;exact#[_,rfl]
   . symm;exact#[_,rfl]
   . symm
  obtain⟨l1,rfl⟩:=key h1;obtain⟨l2,rfl⟩:=key h2;cases m <;> rfl
noncomputable def tK:List String:=["int", "bool", "str", "tuple", "list", "dict"]
theorem vY{K:Frag}{M:List Addr}{H:Hp}{v:V}{d:D}(p:Pk K M H d v){n:String}(hn:n∈tK):PySem.W.kitOne K (Ec d) (.type n)=!(kh (qo d) n):=by
 cases d with
 |lG C=>
  cases p with
  |of q=>
   cases q with
   |lG k _ _=>refine (k.kit n hn).trans ?_;unfold tK at hn;simp only[dL,kA,AA]at hn;rcases hn with rfl |rfl |rfl |rfl |rfl |rfl <;> first |rfl |decide
 |_=>unfold tK at hn;simp only[dL,kA,AA]at hn;rcases hn with rfl |rfl |rfl |rfl |rfl |rfl <;> first |rfl |decide
theorem qX{K:Frag}{M:List Addr}{H:Hp}{v:V}{d:D}(p:Pk K M H d v):∀{ns:List String},(∀n∈ns,n∈tK)->PySem.W.kitAny K (Ec d) (ns.map Value.type)=!(ns.any (kh (qo d)))
 | [],_=>rfl
 |n::ns,h=>by
  show (match PySem.W.kitOne K (Ec d) (.type n)with |some true=>!true |some false=>PySem.W.kitAny K (Ec d) (ns.map Value.type) |none=>none)=_
  rw[vY p (h n b0),qX p λm hm=>h m (bP _ hm),List.any_cons]
  cases kh (qo d) n <;> rfl
end
noncomputable def yy(sc scope:Scope):Bool:=decide (scope.kind=.function)&&scope.names.all λy=>decide (y.2≠.cell)&&(decide (y.2≠.local)||decide (scope.names.lookup y.1=some .local)) &&
 (decide (y.2≠.free)||(decide (scope.names.lookup y.1=some .free)&&(decide (sc.names.lookup y.1=some .cell)||decide (sc.names.lookup y.1=some .free))))
noncomputable def oG(N N':List Str)(scope:Scope)(k:Nat):Bool:=decide (N'.length=N.length+(k+1))&&(match N'[N.length+k]? with |some x=>decide (scope.names.lookup x=none) |none=>true) &&
 (List.range N.length).all λi=>match N'[i]? with |some x=>decide (scope.names.lookup x=none)||(decide (N[i]?=!x)&&decide (scope.names.lookup x≠some .local)) |none=>true
inductive Dg(c:Ct):List Expr->List Nat->Prop
 |nil:Dg c [] []
 |cons {x:Str}{i:Nat}{pos:Pos}{es:List Expr}{is:List Nat}:c.N[i]?=!x->gQ c x=true->Dg c es is->Dg c (.Name x pos::es) (i::is)
inductive Dh(P:Pg)(c:Ct):List Expr->List String->Prop
 |nil:Dh P c [] []
 |cons {T:Str}{n:String}{pos:Pos}{es:List Expr}{ns:List String}:T∈P.bn->c.sc.names.lookup T=some .globalImplicit->T=Str.ofString n->n∈tK->Dh P c es ns->Dh P c (.Name T pos::es) (n::ns)
inductive Di(c:Ct):Expr->Tg->Prop
 |nm:c.N[i]?=!x->gQ c x=true->Di c (.Name x pos) (.nm i)
 |tp:Dg c es is->Di c (.Tuple es k pos) (.tp is)
noncomputable def X6(c:Ct)(y:Str)(py pos:Pos)(scope:Scope):Bool:=(c.sc.names.lookup y==some .local)&&py.line==pos.line&&(not ((scope.names.any λ(n,k)=>n==y&&(k==.local||k==.cell))))
inductive yz(R:Expr->Ex->Prop):List Expr->List Ex->Prop
 |nil:yz R [] []
 |cons {e:Expr}{es:List Expr}{x:Ex}{xs:List Ex}:R e x->yz R es xs->yz R (e::es) (x::xs)
inductive vZ(R:Expr->Ex->Prop):List Expr->List (Bool×Ex)->Prop
 |nil:vZ R [] []
 |con {y:Str}{j:Nat}{p:Pos}{es:List Expr}{l:List (Bool×Ex)}:vZ R es l->vZ R (.Constant (.str y) j p::es) ((false,.val (.str y))::l)
 |fmt:R v x->vZ R es l->vZ R (.FormattedValue v (-1) Option.none p::es) ((true,x)::l)
inductive Ot(R:Expr->Ex->Prop):Option Expr->Option Ex->Prop
 |none:Ot R Option.none Option.none
 |some {e:Expr}{x:Ex}:R e x->Ot R (Option.some e) (Option.some x)
inductive zZ(R:Expr->Ex->Prop):List Expr->Option Ex->Prop
 |none:zZ R [] Option.none
 |some {e:Expr}{x:Ex}:R e x->zZ R [e] (Option.some x)
inductive v5(P:Pg)(R:Expr->Ex->Prop)(c:Ct):Expr->Ex->Prop
 |seq:R e x->v5 P R c e x
 |cV:R a xa->("range":Str)∈P.bn->c.sc.names.lookup ("range":Str)=some .globalImplicit->v5 P R c (.Call (.Name "range" p) [a] [] pos) (.cV xa)
 |dJ:R a xa->R b xb->("range":Str)∈P.bn->c.sc.names.lookup ("range":Str)=some .globalImplicit->v5 P R c (.Call (.Name "range" p) [a,b] [] pos) (.dJ xa xb)
 |zip:R a xa->R b xb->("zip":Str)∈P.bn->c.sc.names.lookup ("zip":Str)=some .globalImplicit->v5 P R c (.Call (.Name "zip" p) [a,b] [] pos) (.zip xa xb)
 |enum:R a xa->("enumerate":Str)∈P.bn->c.sc.names.lookup ("enumerate":Str)=some .globalImplicit->v5 P R c (.Call (.Name "enumerate" p) [a] [] pos) (.enum xa)
noncomputable def yC(e:Expr):Option Str:=match e with |.Name x _=>!x |_=>none
theorem oH{e:Expr}{x:Str}(h:yC e=!x):∃p,e=.Name x p:=by cases e <;> first | (symm;exact#[_,rfl]) |symm
noncomputable def Iw{α:Type}(l:List α):Option α:=match l with | [a]=>!a |_=>none
theorem mh{α:Type}{l:List α}{a:α}(h:Iw l=!a):l=[a]:=by
 cases l with
 |nil=>symm
 |cons b l=>cases l with
  |nil=>symm;rfl
  |cons _ _=>symm
noncomputable def asgV(s:Stmt):Option (List Expr×Expr):=match s with |.Assign ts e _=>!(ts,e) |_=>none
theorem Ou{s:Stmt}{r:List Expr×Expr}(h:asgV s=!r):∃p,s=.Assign r.1 r.2 p:=by cases s <;> first | (symm;exact#[_,rfl]) |symm
noncomputable def cstV(e:Expr):Option Const:=match e with |.Constant c _ _=>!c |_=>none
theorem Ov(h:cstV e=!c):∃j p,e=.Constant c j p:=by cases e <;> first | (symm;exact#[_,_,rfl]) |symm
noncomputable def nonV(c:Const):Option Unit:=match c with |.none=>!() |_=>none
theorem Ow(h:nonV c=!()):c=.none:=by cases c <;> first |rfl |symm
noncomputable def expV(s:Stmt):Option Expr:=match s with |.Expr e _=>!e |_=>none
theorem Ox{s:Stmt}{e:Expr}(h:expV s=!e):∃p,s=.Expr e p:=by cases s <;> first | (symm;exact#[_,rfl]) |symm
noncomputable def calV(e:Expr):Option (Expr×List Expr×List Keyword):=match e with |.Call f as ks _=>!(f,as,ks) |_=>none
theorem Oz{e:Expr}{r:Expr×List Expr×List Keyword}(h:calV e=!r):∃p,e=.Call r.1 r.2.1 r.2.2 p:=by cases e <;> first | (symm;exact#[_,rfl]) |symm
noncomputable def tryV(s:Stmt):Option (List Stmt×List ExceptHandler×List Stmt×List Stmt):=match s with |.Try b h o f _=>!(b,h,o,f) |_=>none
theorem OD{s:Stmt}{r:List Stmt×List ExceptHandler×List Stmt×List Stmt}(h:tryV s=!r):∃p,s=.Try r.1 r.2.1 r.2.2.1 r.2.2.2 p:=by cases s <;> first | (symm;exact#[_,rfl]) |symm
noncomputable def Iz{α:Type}(l:List α):Option Unit:=match l with | []=>!() |_=>none
theorem mj{α:Type}{l:List α}(h:Iz l=!()):l=[]:=by cases l with |nil=>rfl |cons _ _=>symm
noncomputable def hanV(h:ExceptHandler):Option (Expr×Str×List Stmt):=match h with |.ExceptHandler t n b _=>t.bind λt=>n.bind λn=>!(t,n,b)
theorem OJ{h:ExceptHandler}{r:Expr×Str×List Stmt}(e:hanV h=!r):∃p,h=.ExceptHandler (!r.1) (!r.2.1) r.2.2 p:=by
 obtain⟨t,n,b,p⟩:=h;cases t with
 |none=>cases e
 |some t=>cases n with
  |none=>cases e
  |some n=>cases e;exact#[p,rfl]
def z5(s:Stmt):Option (Str×Expr):=(asgV s).bind λr=>(Iw r.1).bind λt=>(yC t).bind λx=>!(x,r.2)
theorem v7{s:Stmt}{r:Str×Expr}(h:z5 s=!r):∃p q,s=.Assign [.Name r.1 p] r.2 q:=by unfold z5 at h;simp only[eJ]at h;obtain⟨⟨ts,e⟩,h1,t,h2,x,h3,h4⟩:=h;cases h4;obtain⟨p,rfl⟩:=Ou h1;obtain⟨q,rfl⟩:=oH h3;have:=mh h2;subst this;exact#[q,p,rfl]
def V6(l:List Stmt):Option Str:=(Iw l).bind λs3=>(expV s3).bind λce=>(calV ce).bind λf=>(Iz f.2.1).bind λ_=>(Iz f.2.2).bind λ_=>yC f.1
theorem O1{l:List Stmt}{y:Str}(h:V6 l=!y):∃py cp ep,l=[.Expr (.Call (.Name y py) [] [] cp) ep]:=by replace h:=eJ.1 h;obtain⟨s3,h1,h⟩:=h;cases mh h1;clear h1;replace h:=eJ.1 h;obtain⟨ce,h1,h⟩:=h;obtain⟨p,e1⟩:=Ox h1;cases e1;clear h1;replace h:=eJ.1 h;obtain⟨⟨f1,f2,f3⟩,h1,h⟩:=h;obtain⟨q,e1⟩:=Oz h1;cases e1;clear h1;replace h:=eJ.1 h;obtain⟨_,h1,h⟩:=h;replace h:=eJ.1 h;obtain⟨_,h2,h⟩:=h;obtain⟨r,e1⟩:=oH h;exact#[r,q,p,by have a:=mj h1;have b:=mj h2;dsimp only at a b e1 ⊢;rw[a,b,e1]]
def V7(l:List ExceptHandler):Option (Str×Str×Str×Str):=(Iw l).bind λhh=>(hanV hh).bind λu=>(yC u.1).bind λke=>(Iw u.2.2).bind λs4=>(z5 s4).bind λb=>(yC b.2).bind λX7=>!(ke,u.2.1,b.1,X7)
theorem O2{l:List ExceptHandler}{r:Str×Str×Str×Str}(h:V7 l=!r):∃kp vB vA ap hp,l=[.ExceptHandler (!(.Name r.1 kp)) (!r.2.1) [.Assign [.Name r.2.2.1 vB] (.Name r.2.2.2 vA) ap] hp]:=by replace h:=eJ.1 h;obtain⟨hh,h1,h⟩:=h;cases mh h1;clear h1;replace h:=eJ.1 h;obtain⟨⟨u1,u2,u3⟩,h1,h⟩:=h;obtain⟨p,e1⟩:=OJ h1;cases e1;clear h1;replace h:=eJ.1 h;obtain⟨ke,h1,h⟩:=h;obtain⟨q,e1⟩:=oH h1;cases e1;clear h1;replace h:=eJ.1 h;obtain⟨s4,h1,h⟩:=h;cases mh h1;clear h1;replace h:=eJ.1 h;obtain⟨⟨b1,b2⟩,h1,h⟩:=h;obtain⟨m,n,e1⟩:=v7 h1;cases e1;clear h1;replace h:=eJ.1 h;obtain⟨en,h1,h⟩:=h;obtain⟨o,e1⟩:=oH h1;cases e1;clear h1;symm;exact#[q,m,o,n,p,rfl]
def nonS(s:Stmt):Option Str:=(z5 s).bind λa=>(cstV a.2).bind λc=>(nonV c).bind λ_=>!a.1
theorem O4(h:nonS s=!x):∃p j np ap,s=.Assign [.Name x p] (.Constant .none j np) ap:=by replace h:=eJ.1 h;obtain⟨⟨a1,a2⟩,h1,h⟩:=h;obtain⟨p,q,e1⟩:=v7 h1;cases e1;clear h1;replace h:=eJ.1 h;obtain⟨c,h1,h⟩:=h;obtain⟨j,m,e1⟩:=Ov h1;cases e1;clear h1;replace h:=eJ.1 h;obtain⟨_,h1,h⟩:=h;cases Ow h1;clear h1;symm;exact#[p,j,m,q,rfl]
def tryS(s:Stmt):Option (Str×Str×Str×Str×Str):=(tryV s).bind λt=>(Iz t.2.2.1).bind λ_=>(Iz t.2.2.2).bind λ_=>(V6 t.1).bind λy=>(V7 t.2.1).bind λu=>!(y,u)
theorem O5{s:Stmt}{r:Str×Str×Str×Str×Str}(h:tryS s=!r):∃l hs p,V6 l=!r.1/\V7 hs=!r.2/\s=.Try l hs [] [] p:=by replace h:=eJ.1 h;obtain⟨⟨t1,t2,t3,t4⟩,h1,h⟩:=h;obtain⟨p,e1⟩:=OD h1;cases e1;clear h1;replace h:=eJ.1 h;obtain⟨_,h1,h⟩:=h;cases mj h1;clear h1;replace h:=eJ.1 h;obtain⟨_,h1,h⟩:=h;cases mj h1;clear h1;replace h:=eJ.1 h;obtain⟨y,h1,h⟩:=h;replace h:=eJ.1 h;obtain⟨u,h2,h⟩:=h;symm;exact#[t1,t2,p,h1,h2,rfl]
def V8(l:List Stmt):Option (Str×Str×Str×Str×Str×Str):=match l with
 |s1::s2::_=>(nonS s1).bind λa=>(tryS s2).bind λt=>!(a,t)
 |_=>none
theorem O6(h:V8 l=!(er,y,ke,en,O7,X7)):∃Cz j np XS py bT pq kp vB vA cM pA pg rest,l=.Assign [.Name er Cz] (.Constant .none j np) XS::.Try [.Expr (.Call (.Name y py) [] [] bT) pq] [.ExceptHandler (!(.Name ke kp)) (!en) [.Assign [.Name O7 vB] (.Name X7 vA) cM] pA] [] [] pg::rest:=by
 unfold V8 at h;split at h
 . replace h:=eJ.1 h;obtain⟨a,h1,h⟩:=h;replace h:=eJ.1 h;obtain⟨t,h2,h⟩:=h;symm;obtain⟨p,j,np,ap,e1⟩:=O4 h1;obtain⟨l,hs,tp,h3,h4,e2⟩:=O5 h2;obtain⟨py,cp,ep,e3⟩:=O1 h3;obtain⟨kp,vB,vA,ap',hp,e4⟩:=O2 h4;exact#[p,j,np,ap,py,cp,ep,kp,vB,vA,ap',hp,tp,_,by rw[e1,e2,e3,e4]]
 . symm
def O8(fi:Fi)(ir:Nat)(kt:Str):Bool:=match V8 (bh fi.st)with
 |!(er,y,ke,en,O7,X7)=>decide ((ke=kt/\O7=er/\X7=en/\fi.ps=[y])/\((aC fi.st).names.lookup ke=some .globalImplicit/\fi.N[fi.N.idxOf en]?=!en/\(aC fi.st).names.lookup en=some .local)/\(fi.N[ir]?=!er/\fi.N[0]?=!y)/\(fi.N.idxOf en≠ir/\fi.N.idxOf en≠0/\ir≠0))&&((fO en&&fO y)&&(yw (aC fi.st) y&&gQ #[fi.N,aC fi.st,true,fi.qual] er))
 |none=>false
noncomputable def IK(params:Arguments)(scope:Scope):Bool:=((not scope.isCoroutine)&&(not scope.isGenerator))&&(decide (scope.kind=.function)&&((scope.names.all λy=>decide (y.2≠.cell)&&decide (y.2≠.local))&&((params.posonlyargs.isEmpty&&params.args.isEmpty)&&(params.vararg.isNone&&(params.kwonlyargs.isEmpty&&(params.kw_defaults.isEmpty&&(params.kwarg.isNone&&params.defaults.isEmpty)))))))
theorem z6(h:IK params scope=true):nR params scope:=by obtain⟨a,b,c,d,e,f,g⟩:=params;simp only[IK,dA,B5,eQ,eC,List.isEmpty_iff,Option.isNone_iff_eq_none]at h;obtain⟨h,h1,h2,⟨rfl,rfl⟩,rfl,rfl,rfl,rfl,rfl⟩:=h;exact#[h.1,h.2,h1,λx hx=>(h2 x hx).1,λx hx=>(h2 x hx).2,rfl]
abbrev p0:Pos:=#[0,0,0,0]
inductive yD(RG:List Stmt->Sm->Prop)(RS:Stmt->Sm->Prop):List Stmt->List Sm->Prop
 |nil:yD RG RS [] []
 |grp {ss rest:List Stmt}{x:Sm}{xs:List Sm}:RG ss x->yD RG RS rest xs->yD RG RS (ss++rest) (x::xs)
 |cons {s:Stmt}{ss:List Stmt}{x:Sm}{xs:List Sm}:RS s x->yD RG RS ss xs->yD RG RS (s::ss) (x::xs)
noncomputable def yE(k:Scope->Pos->Bool)(e:Expr):Bool:=match e with |.ListComp _ _ s p=>k s p |.DictComp ..=>true |_=>false
theorem aj{a b:Bool}(h:(a&&b)=true):a=true/\b=true:=by cases a <;> cases b <;> first |exact#[rfl,rfl] |symm
theorem dec{p:Prop} [Decidable p] (h:decide p=true):p:=i4 h
theorem iT(h:((not b))=true):b=false:=by cases b <;> first |rfl |symm
theorem yF{α:Type}{l:List α}(h:l.isEmpty=true):l=[]:=by cases l with |nil=>rfl |cons _ _=>symm
theorem two{α:Type}{l:List α}(h:2<=l.length):∃a b m,l=a::b::m:=by
 cases l with
 |nil=>exact absurd h (Nat.not_succ_le_zero 1)
 |cons a l=>cases l with
  |nil=>exact absurd h (Nat.not_succ_le_self 1)
  |cons b m=>exact#[a,b,m,rfl]
noncomputable def X8(c:Ct)(x:Str):Bool:=decide (c.sc.names.lookup x=some .globalImplicit)
def wW(P:Pg)(c:Ct)(x:Str):Bool:=P.bn.contains x&&X8 c x
theorem aJ(h:wW P c x=true):x∈P.bn/\c.sc.names.lookup x=some .globalImplicit:=#[AW.mp (aj h).1,dec (aj h).2]
noncomputable def nm(c:Ct)(i:Nat):Str:=c.N.getD i Str.empty
def iU(c:Ct)(i:Nat):Bool:=decide (c.N[i]?=!(nm c i))&&(yw c.sc (nm c i)&&fO (nm c i))
def stB(c:Ct)(i:Nat):Bool:=decide (c.N[i]?=!(nm c i))&&gQ c (nm c i)
theorem oJ(h:iU c i=true):c.N[i]?=!(nm c i)/\yw c.sc (nm c i)=true/\fO (nm c i)=true:=#[dec (aj h).1,(aj (aj h).2).1,(aj (aj h).2).2]
def bang(x:Str):Str:=#[x.cps.push 33]
def bangs(n:Nat):Str:=#[(List.replicate n 33).toArray]
noncomputable def IV(scope:Scope):List Str:=scope.names.filterMap λy=>if y.2==.local then some y.1 else none
def oK(N:List Str)(scope:Scope):List Str:=(N.map λy=>if scope.names.lookup y==some .local then bang y else y)++IV scope++[bangs (N.length+1)]
noncomputable def yG:List Str->Bool
 | []=>true
 |x::l=>(not (l.contains x))&&yG l
theorem gY:∀{l:List Str},yG l=true->l.Nodup
 | [],_=>yY
 |x::l,h=>by
  refine fR.mpr #[λhm=>?_,gY (aj h).2]
  have:=(aj h).1;rw[AW.mpr hm]at this;cases this
noncomputable def kids(e:Expr):List Expr:=match e with
 |.BoolOp _ vs _=>vs
 |.BinOp a _ b _=>[a,b]
 |.UnaryOp _ a _=>[a]
 |.Lambda _ b _ _=>[b]
 |.IfExp t a b _=>[t,a,b]
 |.ListComp e gs _ _=>e::gs.flatMap λg=>g.target::g.iter::g.ifs
 |.SetComp e gs _ _=>e::gs.flatMap λg=>g.target::g.iter::g.ifs
 |.DictComp e v gs _ _=>e::v::gs.flatMap λg=>g.target::g.iter::g.ifs
 |.Compare a _ bs _=>a::bs
 |.Call f as ks _=>f::(as++ks.map (·.value))
 |.Dict ks vs _=>ks.filterMap id++vs
 |.FormattedValue v _ _ _=>[v]
 |.JoinedStr vs _=>vs
 |.Attribute v _ _=>[v]
 |.Subscript a b _=>[a,b]
 |.List es _=>es
 |.Tuple es _ _=>es
 |.Slice a b s p=>[a.getD (.Name Str.empty p),b.getD (.Name Str.empty p),s.getD (.Name Str.empty p)]
 |_=>[]
def kid(e:Expr)(i:Nat):Expr:=(kids e).getD i e
noncomputable def v8(e:Expr):Nat:=match e with |.Constant _ k _=>k |.Tuple _ k _=>k |_=>0
noncomputable def dZ(e:Expr):Scope:=match e with |.Lambda _ _ s _=>s |.ListComp _ _ s _=>s |.SetComp _ _ s _=>s |.DictComp _ _ _ s _=>s |_=>aC (.Pass e.pos)
noncomputable def argT(e:Expr):Arguments:=match e with |.Lambda a _ _ _=>a |_=>default
noncomputable def opT(e:Expr):Operator:=match e with |.BinOp _ o _ _=>o |_=>.Add
noncomputable def kwT(e:Expr):Pos:=match e with |.Call _ _ ks _=>(match ks with |k::_=>k.pos |_=>e.pos) |_=>e.pos
def d9(c:Ct)(t:Expr):Ct:=#[oK c.N (dZ t),dZ t,false,Str.empty]
def lamC(c:Ct)(t:Expr):Ct:=#[c.N,dZ t,false,Str.empty]
noncomputable def v9(P:Pg)(i:Nat):Str:=match P.fn[i]? with |some fi=>fi.name |none=>Str.empty
theorem tL(h:P.fn[i]?.isSome=true):∃fi,P.fn[i]?=!fi/\fi.name=v9 P i:=by
 unfold v9;cases e:P.fn[i]? with
 |none=>rw[e]at h;symm
 |some g=>exact#[g,rfl,rfl]
section
variable{R:Expr->Ex->Prop}{s:Ex->Expr->Expr}{f:Ex->Expr->Bool}(hf:∀{x t},f x t=true->R (s x t) x)
include hf
noncomputable def iC(s:Ex->Expr->Expr)(t:Expr):Nat->List Ex->List Expr
 |_,[]=>[]
 |i,x::xs=>s x (kid t i)::iC s t (i+1) xs
noncomputable def Ku(f:Ex->Expr->Bool)(t:Expr):Nat->List Ex->Bool
 |_,[]=>true
 |i,x::xs=>f x (kid t i)&&Ku f t (i+1) xs
theorem cD(h:Ku f t i xs=true):yz R (iC s t i xs) xs:=by
 induction xs generalizing i with
 |nil=>exact .nil
 |cons x xs ih=>exact .cons (hf (aj h).1) (ih (aj h).2)
noncomputable def V9(s:Ex->Expr->Expr)(t:Expr)(x:Option Ex):Option Expr:=match x with |some x=>!(s x t) |none=>none
noncomputable def Wa(f:Ex->Expr->Bool)(t:Expr)(x:Option Ex):Bool:=match x with |some x=>f x t |none=>true
theorem IW(h:Wa f t x=true):Ot R (V9 s t x) x:=by
 cases x with
 |none=>exact .none
 |some x=>exact .some (hf h)
noncomputable def yH(s:Ex->Expr->Expr)(t:Expr)(x:Option Ex):List Expr:=match x with |some x=>[s x t] |none=>[]
theorem yI(h:Wa f t x=true):zZ R (yH s t x) x:=by
 cases x with
 |none=>exact .none
 |some x=>exact .some (hf h)
noncomputable def Wb(x:Ex):Str:=match x with |.val d=>(match d with |.str y=>y |_=>Str.empty) |_=>Str.empty
noncomputable def strK(x:Ex):Bool:=match x with |.val d=>(match d with |.str _=>true |_=>false) |_=>false
omit hf in
theorem O9(h:strK x=true):x=.val (.str (Wb x)):=by
 cases x
 case val d=>cases d <;> first |rfl |exact nt h
 all_goals exact nt h
def Wc(s:Ex->Expr->Expr)(t:Expr):Nat->List (Bool×Ex)->List Expr
 |_,[]=>[]
 |i,p::l=>(if p.1=true then .FormattedValue (s p.2 (kid (kid t i) 0)) (-1) none (kid t i).pos else .Constant (.str (Wb p.2)) (v8 (kid t i)) (kid t i).pos)::Wc s t (i+1) l
def okF(f:Ex->Expr->Bool)(t:Expr):Nat->List (Bool×Ex)->Bool
 |_,[]=>true
 |i,p::l=>(if p.1=true then f p.2 (kid (kid t i) 0)else strK p.2)&&okF f t (i+1) l
theorem Wd(h:okF f t i l=true):vZ R (Wc s t i l) l:=by
 induction l generalizing i with
 |nil=>exact .nil
 |cons p l ih=>
  obtain⟨b,x⟩:=p;obtain⟨h1,h2⟩:=aj h;cases b with
  |true=>exact .fmt (hf h1) (ih h2)
  |false=>have e:=O9 h1;have q:=vZ.con (y:=Wb x) (j:=v8 (kid t i)) (p:=(kid t i).pos) (ih h2);rw[<- e]at q;exact q
end
noncomputable def tM(s:Ex->Expr->Expr)(x:Ex)(t:Expr):Expr:=match x with
 |.cV a=>.Call (.Name "range" (kid t 0).pos) [s a (kid t 1)] [] t.pos
 |.dJ a b=>.Call (.Name "range" (kid t 0).pos) [s a (kid t 1),s b (kid t 2)] [] t.pos
 |.zip a b=>.Call (.Name "zip" (kid t 0).pos) [s a (kid t 1),s b (kid t 2)] [] t.pos
 |.enum a=>.Call (.Name "enumerate" (kid t 0).pos) [s a (kid t 1)] [] t.pos
 |x=>s x t
def Yb(P:Pg)(c:Ct)(f:Ex->Expr->Bool)(x:Ex)(t:Expr):Bool:=match x with
 |.cV a=>wW P c "range" && f a (kid t 1)
 |.dJ a b=>wW P c "range" && (f a (kid t 1)&&f b (kid t 2))
 |.zip a b=>wW P c "zip" && (f a (kid t 1)&&f b (kid t 2))
 |.enum a=>wW P c "enumerate" && f a (kid t 1)
 |x=>f x t
theorem kr{P:Pg}{R:Expr->Ex->Prop}{s:Ex->Expr->Expr}{f:Ex->Expr->Bool}(hf:∀{x t},f x t=true->R (s x t) x){c:Ct}{x:Ex}{t:Expr}(h:Yb P c f x t=true):v5 P R c (tM s x t) x:=by
 cases x
 case cV a=>exact .cV (hf (aj h).2) (aJ (aj h).1).1 (aJ (aj h).1).2
 case dJ a b=>exact .dJ (hf (aj (aj h).2).1) (hf (aj (aj h).2).2) (aJ (aj h).1).1 (aJ (aj h).1).2
 case zip a b=>exact .zip (hf (aj (aj h).2).1) (hf (aj (aj h).2).2) (aJ (aj h).1).1 (aJ (aj h).1).2
 case enum a=>exact .enum (hf (aj h).2) (aJ (aj h).1).1 (aJ (aj h).1).2
 all_goals exact .seq (hf h)
noncomputable def Wf(t:Expr):Nat->List String->List Expr
 |_,[]=>[]
 |i,n::ns=>.Name (Str.ofString n) (kid t i).pos::Wf t (i+1) ns
def okY(P:Pg)(c:Ct):List String->Bool
 | []=>true
 |n::ns=>(tK.contains n&&wW P c (Str.ofString n))&&okY P c ns
theorem Wg(h:okY P c ns=true):Dh P c (Wf t i ns) ns:=by
 induction ns generalizing i with
 |nil=>exact .nil
 |cons n ns ih=>exact .cons (aJ (aj (aj h).1).2).1 (aJ (aj (aj h).1).2).2 rfl (AW.mp (aj (aj h).1).1) (ih (aj h).2)
noncomputable def Wh(c:Ct)(t:Expr):Nat->List Nat->List Expr
 |_,[]=>[]
 |j,i::is=>.Name (nm c i) (kid t j).pos::Wh c t (j+1) is
def okN(c:Ct):List Nat->Bool
 | []=>true
 |i::is=>stB c i&&okN c is
theorem Wi(h:okN c is=true):Dg c (Wh c t j is) is:=by
 induction is generalizing j with
 |nil=>exact .nil
 |cons i is ih=>exact .cons (dec (aj (aj h).1).1) (aj (aj h).1).2 (ih (aj h).2)
def tN(c:Ct)(T:Tg)(t:Expr):Expr:=match T with
 |.nm i=>.Name (nm c i) t.pos
 |.tp is=>.Tuple (Wh c t 0 is) (v8 t) t.pos
theorem ku(h:okN c T.ix=true):Di c (tN c T t) T:=by
 cases T with
 |nm i=>exact .nm (dec (aj (aj h).1).1) (aj (aj h).1).2
 |tp is=>exact .tp (Wi h)
noncomputable def Wj(a b:D):Bool:=match a with |.int i=>(match b with |.int j=>decide (i=j) |_=>false) |_=>false
theorem Pa(h:Wj a b=true):a=b:=by
 cases a with
 |int i=>cases b with
  |int j=>exact congrArg D.int (dec (show decide (i=j)=true from h))
  |_=>exact nt h
 |_=>exact nt h
def ctB(y:Str)(d:D):List (Str×D)->Bool
 | []=>false
 |p::l=>(decide (p.1=y)&&Wj p.2 d)||ctB y d l
theorem Ja(h:ctB y d l=true):(y,d)∈l:=by
 induction l with
 |nil=>symm
 |cons p l ih=>
  obtain⟨x,d'⟩:=p;have hh:((decide (x=y)&&Wj d' d)||ctB y d l)=true:=h
  rcases wS _ _▸hh with h |h
  . obtain⟨h1,h2⟩:=aj h;obtain rfl:=dec h1;rw[Pa h2];exact b0
  . exact bP _ (ih h)
noncomputable def cstD(d:D):Const:=match d with |.int i=>.int i |.bl b=>.bool b |.str y=>.str y |_=>.none
noncomputable def cstK(d:D):Bool:=match d with |.int _=>true |.bl _=>true |.str _=>true |.non=>true |_=>false
def oM(d:D)(t:Expr):Expr:=match yC t with |some y=>.Name y t.pos |none=>.Constant (cstD d) (v8 t) t.pos
def okV(P:Pg)(c:Ct)(d:D)(t:Expr):Bool:=match yC t with |some y=>X8 c y&&ctB y d P.ct |none=>cstK d
def blK(c:Ct)(t:Expr)(k:Nat):Bool:=yy c.sc (dZ t)&&(oG c.N (oK c.N (dZ t)) (dZ t) k&&yG (oK c.N (dZ t)))
def ixK(c:Ct)(k:Nat)(T:Tg):Bool:=T.ix.all λi=>decide (c.N.length<=i/\i<c.N.length+k)
theorem tO(h:ixK c k T=true):∀i∈T.ix,c.N.length<=i/\i<c.N.length+k:=λi hi=>dec (eC.mp h i hi)
def o1(x:Option Ex):Nat:=match x with |some _=>1 |none=>0
def refK(P:Pg)(i ir:Nat):Bool:=match P.fn[i]? with |some fi=>O8 fi ir P.kt |none=>false
def Ri(e:Expr):Bool:=match e with |.Call f es ks _=>(yC f).isSome&&((not es.isEmpty)&&ks.isEmpty) |.ListComp ..=>true |_=>false
theorem oN{e:Expr}(h:Ri e=true):(∃x p a es pos,e=.Call (.Name x p) (a::es) [] pos)\/∃a b s p,e=.ListComp a b s p:=by
 cases e
 case Call f es ks pos=>
  obtain⟨h1,h2⟩:=aj (show ((yC f).isSome&&((not es.isEmpty)&&ks.isEmpty))=true from h);obtain⟨x,hx⟩:=Option.isSome_iff_exists.mp h1;obtain⟨p,rfl⟩:=oH hx;cases es with
  |nil=>cases (aj h2).1
  |cons a es=>rw[yF (aj h2).2];exact .inl #[x,p,a,es,pos,rfl]
 case ListComp a b s p=>exact .inr #[a,b,s,p,rfl]
 all_goals exact nt h
def tQ(P:Pg)(s:Ct->Ex->Expr->Expr)(c:Ct)(x:Ex)(t:Expr):Expr:=match x with
 |.val d=>oM d t
 |.slot i=>.Name (nm c i) t.pos
 |.bin op a b=>.BinOp (s c a (kid t 0)) op (s c b (kid t 1)) t.pos
 |.cmp op a b=>.Compare (s c a (kid t 0)) [op] [s c b (kid t 1)] t.pos
 |.chain a ops xs=>.Compare (s c a (kid t 0)) ops (iC (s c) t 1 xs) t.pos
 |.neg a=>.UnaryOp .USub (s c a (kid t 0)) t.pos
 |.not a=>.UnaryOp .Not (s c a (kid t 0)) t.pos
 |.and xs=>.BoolOp .And (iC (s c) t 0 xs) t.pos
 |.or xs=>.BoolOp .Or (iC (s c) t 0 xs) t.pos
 |.ite a b d=>.IfExp (s c a (kid t 0)) (s c b (kid t 1)) (s c d (kid t 2)) t.pos
 |.tup xs=>.Tuple (iC (s c) t 0 xs) (v8 t) t.pos
 |.lst xs=>.List (iC (s c) t 0 xs) t.pos
 |.ix a b=>.Subscript (s c a (kid t 0)) (s c b (kid t 1)) t.pos
 |.slice a lo hi=>.Subscript (s c a (kid t 0)) (.Slice (V9 (s c) (kid (kid t 1) 0) lo) (V9 (s c) (kid (kid t 1) 1) hi) none (kid t 1).pos) t.pos
 |.call i xs=>.Call (.Name (v9 P i) (kid t 0).pos) (iC (s c) t 1 xs) [] t.pos
 |.blt b xs=>.Call (.Name (blV b).1 (kid t 0).pos) (iC (s c) t 1 xs) [] t.pos
 |.pB a n=>.Call (.Name "isinstance" (kid t 0).pos) [s c a (kid t 1),.Name (Str.ofString n) (kid t 2).pos] [] t.pos
 |.De a ns=>.Call (.Name "isinstance" (kid t 0).pos) [s c a (kid t 1),.Tuple (Wf (kid t 2) 0 ns) (v8 (kid t 2)) (kid t 2).pos] [] t.pos
 |.comp _ _ T it co xe=>.ListComp (s (d9 c t) xe (kid t 0)) [#[tN (d9 c t) T (kid t 1),tM (s c) it (kid t 2),yH (s (d9 c t)) (kid t 3) co,0]] (dZ t) t.pos
 |.qR _ _ T it ks xv=>.DictComp (.Tuple (iC (s (d9 c t)) (kid t 0) 0 ks) (v8 (kid t 0)) (kid t 0).pos) (s (d9 c t) xv (kid t 1)) [#[tN (d9 c t) T (kid t 2),tM (s c) it (kid t 3),[],0]] (dZ t) t.pos
 |.iH _ _ T1 pO c1 T it co xe=>.ListComp (s (d9 c t) xe (kid t 0)) [#[tN (d9 c t) T1 (kid t 1),tM (s c) pO (kid t 2),yH (s (d9 c t)) (kid t 3) c1,0],#[tN (d9 c t) T (kid t (3+o1 c1)),tM (s (d9 c t)) it (kid t (4+o1 c1)),yH (s (d9 c t)) (kid t (5+o1 c1)) co,0]] (dZ t) t.pos
 |.emp=>.Dict [] [] t.pos
 |.peek xe=>s c xe t
 |.stk=>.BinOp (kid t 0) (opT t) (kid t 1) t.pos
 |.qU a _=>.Call (.Name "isinstance" (kid t 0).pos) [s c a (kid t 1),.Name ((yC (kid t 2)).getD Str.empty) (kid t 2).pos] [] t.pos
 |.oz i _ _ xb=>.Call (.Name (v9 P i) (kid t 0).pos) [.Lambda (argT (kid t 1)) (s (lamC c (kid t 1)) xb (kid (kid t 1) 0)) (dZ (kid t 1)) (kid t 1).pos] [] t.pos
 |.jG a b=>.Call (.Name "list" (kid t 0).pos) [.Call (.Name "range" (kid (kid t 1) 0).pos) [s c a (kid (kid t 1) 1),s c b (kid (kid t 1) 2)] [] (kid t 1).pos] [] t.pos
 |.qT a=>.Call (.Name "sorted" (kid t 0).pos) [s c a (kid t 1)] [#[!"reverse",.Constant (.bool true) (v8 (kid t 2)) (kid t 2).pos,kwT t]] t.pos
 |.sset a=>.Call (.Name "sorted" (kid t 0).pos) [.Call (.Name "set" (kid (kid t 1) 0).pos) [s c a (kid (kid t 1) 1)] [] (kid t 1).pos] [] t.pos
 |.meth m o x=>.Call (.Attribute (s c o (kid (kid t 0) 0)) (mtNm m) (kid t 0).pos) [s c x (kid t 1)] [] t.pos
 |.vU l=>.JoinedStr (Wc (s c) t 0 l) t.pos
 |.append i x=>.Call (.Attribute (.Name (nm c i) (kid (kid t 0) 0).pos) "append" (kid t 0).pos) [s c x (kid t 1)] [] t.pos
 |.extend i x=>.Call (.Attribute (.Name (nm c i) (kid (kid t 0) 0).pos) "extend" (kid t 0).pos) [s c x (kid t 1)] [] t.pos
 |.lq i x=>.Call (.Attribute (.Name (nm c i) (kid (kid t 0) 0).pos) "pop" (kid t 0).pos) [s c x (kid t 1)] [] t.pos
 |_=>t
noncomputable def lnB(t:Expr):Bool:=(kid t 0).pos.endLine==t.pos.line
def ok1(P:Pg)(s:Ct->Ex->Expr->Expr)(f:Ct->Ex->Expr->Bool)(c:Ct)(x:Ex)(t:Expr):Bool:=match x with
 |.val d=>okV P c d t
 |.slot i=>iU c i
 |.bin _ a b=>f c a (kid t 0)&&f c b (kid t 1)
 |.cmp op a b=>f c a (kid t 0)&&(f c b (kid t 1)&&(not (behindInMarks op (s c b (kid t 1)))))
 |.chain a ops xs=>f c a (kid t 0)&&(Ku (f c) t 1 xs&&((not (lastMarks ops (iC (s c) t 1 xs)))&&(decide (2<=ops.length)&&decide (2<=xs.length))))
 |.neg a=>f c a (kid t 0)
 |.not a=>f c a (kid t 0)
 |.and xs=>Ku (f c) t 0 xs
 |.or xs=>Ku (f c) t 0 xs
 |.ite a b d=>f c a (kid t 0)&&(f c b (kid t 1)&&f c d (kid t 2))
 |.tup xs=>Ku (f c) t 0 xs
 |.lst xs=>Ku (f c) t 0 xs
 |.ix a b=>f c a (kid t 0)&&f c b (kid t 1)
 |.slice a lo hi=>f c a (kid t 0)&&(Wa (f c) (kid (kid t 1) 0) lo&&Wa (f c) (kid (kid t 1) 1) hi)
 |.call i xs=>P.fn[i]?.isSome&&(X8 c (v9 P i)&&(Ku (f c) t 1 xs&&(not xs.isEmpty)))
 |.blt b xs=>wW P c (blV b).1&&(Ku (f c) t 1 xs&&(not xs.isEmpty))
 |.pB a n=>wW P c "isinstance" && (f c a (kid t 1)&&(tK.contains n&&wW P c (Str.ofString n)))
 |.De a ns=>wW P c "isinstance" && (f c a (kid t 1)&&(decide (ns.length<=100)&&okY P c ns))
 |.qR n k T it ks xv=>decide (n=c.N.length)&&(blK c t k&&(okN (d9 c t) T.ix&&(ixK c k T&&(Yb P c (f c) it (kid t 3)&&(Ku (f (d9 c t)) (kid t 0) 0 ks&&f (d9 c t) xv (kid t 1))))))
 |.comp n k T it co xe=>decide (n=c.N.length)&&(blK c t k&&(okN (d9 c t) T.ix&&(ixK c k T&&(Yb P c (f c) it (kid t 2)&&(Wa (f (d9 c t)) (kid t 3) co&&f (d9 c t) xe (kid t 0))))))
 |.iH n k T1 pO c1 T it co xe=>decide (n=c.N.length)&&(blK c t k&&((okN (d9 c t) T1.ix&&okN (d9 c t) T.ix)&&((ixK c k T1&&ixK c k T)&&((Yb P c (f c) pO (kid t 2)&&Wa (f (d9 c t)) (kid t 3) c1)&&((Yb P (d9 c t) (f (d9 c t)) it (kid t (4+o1 c1))&&Wa (f (d9 c t)) (kid t (5+o1 c1)) co)&&f (d9 c t) xe (kid t 0))))))
 |.emp=>true
 |.peek xe=>Ri (s c xe t)&&f c xe t
 |.stk=>true
 |.qU a l=>wW P c "isinstance" && (f c a (kid t 1)&&(X8 c ((yC (kid t 2)).getD Str.empty)&&decide (((yC (kid t 2)).getD Str.empty,l)∈P.ups)))
 |.oz i ir ca xb=>P.fn[i]?.isSome&&((decide (ca=P.oE)&&X8 c (v9 P i)||ca.isEmpty)&&((decide (c.q∈iF)&&P.lam)&&(refK P i ir&&(yy c.sc (dZ (kid t 1))&&(IK (argT (kid t 1)) (dZ (kid t 1))&&f (lamC c (kid t 1)) xb (kid (kid t 1) 0))))))
 |.jG a b=>(wW P c "range" && wW P c "list")&&(f c a (kid (kid t 1) 1)&&f c b (kid (kid t 1) 2))
 |.qT a=>wW P c "sorted" && f c a (kid t 1)
 |.sset a=>(wW P c "sorted" && wW P c "set")&&f c a (kid (kid t 1) 1)
 |.meth _ o x=>lnB t&&(f c o (kid (kid t 0) 0)&&f c x (kid t 1))
 |.vU l=>okF (f c) t 0 l
 |.append i x=>lnB t&&(iU c i&&f c x (kid t 1))
 |.extend i x=>lnB t&&(iU c i&&f c x (kid t 1))
 |.lq i x=>lnB t&&(iU c i&&f c x (kid t 1))
 |_=>false
def cO(P:Pg):Nat->Ct->Ex->Expr->Expr
 | 0=>λ_ _ t=>t
 |n+1=>tQ P (cO P n)
def ux(P:Pg):Nat->Ct->Ex->Expr->Bool
 | 0=>λ_ _ _=>false
 |n+1=>ok1 P (cO P n) (ux P n)
def Cm(P:Pg)(c:Ct)(e:Expr)(x:Ex):Prop:=∃n t,e=cO P n c x t/\ux P n c x t=true
theorem Cm.mk{P:Pg}{n:Nat}{c:Ct}{x:Ex}{t:Expr}(h:ux P n c x t=true):Cm P c (cO P n c x t) x:=#[n,t,rfl,h]
theorem Cm.pP(h:Cm P c e x):∃n t,e=tQ P (cO P n) c x t/\ok1 P (cO P n) (ux P n) c x t=true:=by
 obtain⟨n,t,rfl,h⟩:=h;cases n with
 |zero=>symm
 |succ n=>exact#[n,t,rfl,h]
theorem Cm.notW(h:Cm P c e x):isW x=false:=by obtain⟨n,t,_,q⟩:=h.pP;cases x <;> first |rfl |exact Bool.noConfusion (show false=true from q)
abbrev z7 (P:Pg) (c:Ct) (es:List Expr) (xs:List Ex):Prop:=yz (Cm P c) es xs
abbrev CmF (P:Pg) (c:Ct) (es:List Expr) (l:List (Bool×Ex)):Prop:=vZ (Cm P c) es l
abbrev CmO (P:Pg) (c:Ct) (e:Option Expr) (x:Option Ex):Prop:=Ot (Cm P c) e x
abbrev pQ (P:Pg) (c:Ct) (es:List Expr) (x:Option Ex):Prop:=zZ (Cm P c) es x
abbrev Kv (P:Pg) (c:Ct) (e:Expr) (x:Ex):Prop:=v5 P (Cm P c) c e x
noncomputable def ek(t:Stmt):List Expr:=match t with
 |.Return o p=>[o.getD (.Name Str.empty p)]
 |.Assign ts e _=>e::ts
 |.AugAssign a _ e _=>[a,e]
 |.For a b _ _ _=>[a,b]
 |.While a _ _ _=>[a]
 |.If a _ _ _=>[a]
 |.Raise o _ p=>[o.getD (.Name Str.empty p)]
 |.Expr e _=>[e]
 |_=>[]
def aR(t:Stmt)(i:Nat):Expr:=(ek t).getD i (.Name Str.empty t.pos)
noncomputable def Yc(t:Stmt):List Stmt:=match t with |.For _ _ b _ _=>b |.While _ b _ _=>b |.If _ b _ _=>b |_=>[]
noncomputable def bd1(t:Stmt):List Stmt:=match t with |.If _ _ b _=>b |_=>[]
noncomputable def sg(l:List Stmt)(i:Nat):Stmt:=l.getD i (.Pass p0)
inductive Yd(RS:Stmt->Sm->Prop):List Stmt->List Sm->Prop
 |nil:Yd RS [] []
 |cons {s:Stmt}{ss:List Stmt}{x:Sm}{xs:List Sm}:RS s x->Yd RS ss xs->Yd RS (s::ss) (x::xs)
def Wk(fs:Sm->Stmt->Stmt):List Sm->List Stmt->List Stmt
 | [],_=>[]
 |x::xs,ss=>fs x (sg ss 0)::Wk fs xs ss.tail
def Wm(ks:Sm->Stmt->Bool):List Sm->List Stmt->Bool
 | [],_=>true
 |x::xs,ss=>ks x (sg ss 0)&&Wm ks xs ss.tail
theorem Pb{RS:Stmt->Sm->Prop}{fs:Sm->Stmt->Stmt}{ks:Sm->Stmt->Bool}(hs:∀{x t},ks x t=true->RS (fs x t) x){xs:List Sm}{ss:List Stmt}(h:Wm ks xs ss=true):Yd RS (Wk fs xs ss) xs:=by
 induction xs generalizing ss with
 |nil=>exact .nil
 |cons x xs ih=>exact .cons (hs (aj h).1) (ih (aj h).2)
inductive Ye(P:Pg)(R:Expr->Ex->Prop)(RS:Stmt->Sm->Prop)(c:Ct):List Stmt->Sm->Prop
 |dct {y:Str}{il:Nat}{py dp pos:Pos}{ss:List Stmt}{b:List Sm}:(c.N[il]?=!y/\yw c.sc y=true/\fO y=true)->gQ c y=true->Yd RS ss b->Ye P R RS c (.Assign [.Name y py] (.Dict [] [] dp) pos::ss) (.dct il b)
def Wn:Sm->Nat
 |.dct _ b=>b.length+1
 |_=>0
def pR(fg:Sm->List Stmt->List Stmt)(fs:Sm->Stmt->Stmt):List Sm->List Stmt->List Stmt
 | [],_=>[]
 |x::xs,ss=>if 0<Wn x then fg x (ss.take (Wn x))++pR fg fs xs (ss.drop (Wn x))else fs x (sg ss 0)::pR fg fs xs ss.tail
def Kw(fg:Sm->List Stmt->Bool)(fs:Sm->Stmt->Bool):List Sm->List Stmt->Bool
 | [],_=>true
 |x::xs,ss=>if 0<Wn x then fg x (ss.take (Wn x))&&Kw fg fs xs (ss.drop (Wn x))else fs x (sg ss 0)&&Kw fg fs xs ss.tail
theorem Wo(hg:∀{x ss},kg x ss=true->RG (sg' x ss) x)(hs:∀{x t},ks x t=true->RS (ss' x t) x)(h:Kw kg ks xs ss=true):yD RG RS (pR sg' ss' xs ss) xs:=by
 induction xs generalizing ss with
 |nil=>exact .nil
 |cons x xs ih=>
  unfold Kw at h;unfold pR;by_cases hx:0<Wn x
  .
   rw[hV hx]at h ⊢
   exact .grp (hg (aj h).1) (ih (aj h).2)
  .
   rw[fN hx]at h ⊢
   exact .cons (hs (aj h).1) (ih (aj h).2)
def Wq(P:Pg)(m:Nat)(fs:Sm->Stmt->Stmt)(c:Ct)(x:Sm)(ss:List Stmt):List Stmt:=match x with
 |.dct il b=>.Assign [.Name (nm c il) (aR (sg ss 0) 1).pos] (.Dict [] [] (aR (sg ss 0) 0).pos) (sg ss 0).pos::Wk fs b ss.tail
 |_=>ss
def Wr(P:Pg)(m:Nat)(ks:Sm->Stmt->Bool)(c:Ct)(x:Sm)(ss:List Stmt):Bool:=match x with
 |.dct il b=>(iU c il&&gQ c (nm c il))&&Wm ks b ss.tail
 |_=>false
theorem Ws(hs:∀{x t},ks x t=true->RS (fs x t) x)(h:Wr P m ks c x ss=true):Ye P (Cm P c) RS c (Wq P m fs c x ss) x:=by
 cases x
 case dct il b=>exact .dct (oJ (aj (aj h).1).1) (aj (aj h).1).2 (Pb hs (aj h).2)
 all_goals exact nt h
def srS1(P:Pg)(m:Nat)(fs:Sm->Stmt->Stmt)(c:Ct)(x:Sm)(t:Stmt):Stmt:=match x with
 |.ret x=>.Return (!(cO P (m+1) c x (aR t 0))) t.pos
 |.expr x=>.Expr (cO P (m+1) c x (aR t 0)) t.pos
 |.set i x=>.Assign [.Name (nm c i) (aR t 1).pos] (cO P (m+1) c x (aR t 0)) t.pos
 |.setC i x=>.Assign [.Name (nm c i) (aR t 1).pos] (cO P (m+1) c x (aR t 0)) t.pos
 |.item i xj x=>.Assign [.Subscript (.Name (nm c i) (kid (aR t 1) 0).pos) (cO P (m+1) c xj (kid (aR t 1) 1)) (aR t 1).pos] (cO P (m+1) c x (aR t 0)) t.pos
 |.aug i op x=>.AugAssign (.Name (nm c i) (aR t 0).pos) op (cO P (m+1) c x (aR t 1)) t.pos
 |.ite e a b=>.If (cO P (m+1) c e (aR t 0)) (pR (Wq P m fs c) fs a (Yc t)) (pR (Wq P m fs c) fs b (bd1 t)) t.pos
 |.loop T it b=>.For (tN c T (aR t 0)) (tM (cO P (m+1) c) it (aR t 1)) (pR (Wq P m fs c) fs b (Yc t)) [] t.pos
 |.while e b=>.While (cO P (m+1) c e (aR t 0)) (pR (Wq P m fs c) fs b (Yc t)) [] t.pos
 |.raise i x=>.Raise (!(.Call (.Name (P.cls.getD i Str.empty) (kid (aR t 0) 0).pos) [cO P (m+1) c x (kid (aR t 0) 1)] [] (aR t 0).pos)) none t.pos
 |_=>t
def okS1(P:Pg)(m:Nat)(ks:Sm->Stmt->Bool)(c:Ct)(x:Sm)(t:Stmt):Bool:=match x with
 |.ret x=>ux P (m+1) c x (aR t 0)
 |.expr x=>ux P (m+1) c x (aR t 0)&&(not (yE (λ_ _=>true) (cO P (m+1) c x (aR t 0))))
 |.set i x=>stB c i&&(ux P (m+1) c x (aR t 0)&&(not (yE (λs p=>X6 c (nm c i) (aR t 1).pos p s) (cO P (m+1) c x (aR t 0)))))
 |.setC i x=>decide (c.N[i]?=!(nm c i))&&(X6 c (nm c i) (aR t 1).pos (aR t 0).pos (dZ (aR t 0))&&(ux P (m+1) c x (aR t 0)&&(match x with
  |.comp _ _ _ _ _ _=>true
  |.iH _ _ _ _ _ _ _ _ _=>true
  |_=>false)))
 |.item i xj x=>iU c i&&(ux P (m+1) c xj (kid (aR t 1) 1)&&(ux P (m+1) c x (aR t 0)&&(not (yE (λ_ _=>true) (cO P (m+1) c x (aR t 0))))))
 |.aug i _ x=>stB c i&&ux P (m+1) c x (aR t 1)
 |.ite e a b=>ux P (m+1) c e (aR t 0)&&(Kw (Wr P m ks c) ks a (Yc t)&&Kw (Wr P m ks c) ks b (bd1 t))
 |.loop T it b=>okN c T.ix&&(Yb P c (ux P (m+1) c) it (aR t 1)&&Kw (Wr P m ks c) ks b (Yc t))
 |.while e b=>ux P (m+1) c e (aR t 0)&&Kw (Wr P m ks c) ks b (Yc t)
 |.raise i x=>decide (P.cls[i]?=!(P.cls.getD i Str.empty))&&(X8 c (P.cls.getD i Str.empty)&&ux P (m+1) c x (kid (aR t 0) 1))
 |.stuck=>true
 |_=>false
def Rj(P:Pg)(m:Nat):Nat->Ct->Sm->Stmt->Stmt
 | 0=>λ_ _ t=>t
 |n+1=>λc=>srS1 P m (Rj P m n c) c
def Rk(P:Pg)(m:Nat):Nat->Ct->Sm->Stmt->Bool
 | 0=>λ_ _ _=>false
 |n+1=>λc=>okS1 P m (Rk P m n c) c
def yJ(P:Pg)(c:Ct)(s:Stmt)(x:Sm):Prop:=∃m n t,s=Rj P m n c x t/\Rk P m n c x t=true
abbrev pS (P:Pg) (c:Ct) (ss:List Stmt) (xs:List Sm):Prop:=yD (Ye P (Cm P c) (yJ P c) c) (yJ P c) ss xs
theorem yJ.mk{P:Pg}{m n:Nat}{c:Ct}{x:Sm}{t:Stmt}(h:Rk P m n c x t=true):yJ P c (Rj P m n c x t) x:=#[m,n,t,rfl,h]
theorem pS.mk{P:Pg}{m n:Nat}{c:Ct}{xs:List Sm}{ss:List Stmt}(h:Kw (Wr P m (Rk P m n c) c) (Rk P m n c) xs ss=true):pS P c (pR (Wq P m (Rj P m n c) c) (Rj P m n c) xs ss) xs:=Wo (Ws .mk) .mk h
theorem noC(h:((not (yE (λ_ _=>true) e)))=true):yE (λ_ _=>true) e=false:=iT h
theorem yJ.pP(h:yJ P c s x):∃m n t,s=srS1 P m (Rj P m n c) c x t/\okS1 P m (Rk P m n c) c x t=true:=by
 obtain⟨m,n,t,rfl,h⟩:=h;cases n with
 |zero=>symm
 |succ n=>exact#[m,n,t,rfl,h]
noncomputable def Ky(e:Expr):Bool:=match e with
 |.Constant .. |.Name .. |.BinOp .. |.Compare .. |.UnaryOp .. |.BoolOp .. |.IfExp .. |.Tuple .. |.List .. |.Subscript .. |.Call .. |.JoinedStr .. |.ListComp .. |.Dict .. |.DictComp ..=>true
 |_=>false
theorem Cm.Ky(h:Cm P c e x):Ky e=true:=by
 obtain⟨n,t,rfl,q⟩:=h.pP;clear h;cases x
 case val d=>show Ev.Ky (oM d t)=true;unfold oM;split <;> rfl
 case peek xe=>rcases oN (aj q).1 with ⟨x,p,a,es,pos,e⟩ |⟨a,b,s,p,e⟩ <;> (show Ev.Ky (cO P n c xe t)=true;rw[e];rfl)
 all_goals first |rfl |exact Bool.noConfusion (show false=true from q)
section
theorem Cm.star(h:Cm P c e x)(es:List Expr):starEach (e::es) env=(false,eval e env)::starEach es env:=by have hs:=h.Ky;cases e <;> first |rfl |exact Bool.noConfusion (show false=true from hs)
theorem yz.star(h:z7 P c es xs):starEach es env=es.map λe=>(false,eval e env):=by
 induction es generalizing xs with
 |nil=>rfl
 |cons e es ih=>
  cases h with
  |cons h1 h2=>rw[h1.star,ih h2];rfl
theorem yz.plain(h:z7 P c es xs):(backTo pos (starEach es env)).any (·.1)=false:=by
 rw[h.star];unfold backTo
 induction es generalizing xs with
 |nil=>rfl
 |cons e es ih=>
  cases h with
  |cons h1 h2=>rw[List.map_cons,List.map_cons,List.any_cons,ih h2];rfl
theorem Cm.folded(h:Cm P c e x)(y:Value):foldedSetIterable e env y=pure y:=by have hs:=h.Ky;cases e <;> first |rfl |exact Bool.noConfusion (show false=true from hs)
theorem v5.folded(h:Kv P c e x)(y:Value):foldedSetIterable e env y=pure y:=by
 cases h with
 |seq h=>exact h.folded y
 |cV _ _ _=>rfl
 |dJ _ _ _ _=>rfl
 |enum _ _ _=>rfl
 |zip _ _ _ _=>rfl
theorem Cm.z8(h:Cm P c e x):lQ e:=by have hs:=h.Ky;cases e <;> first |exact λ_ _=>rfl |exact Bool.noConfusion (show false=true from hs)
end
structure fX(P:Pg)(rn:Rn):Prop where
 e:∀{X:Cx}{c:Ct}{z:Z}{k:Nat}{x:Ex}{e:Expr}{g g':G}{r:R},aM P k X c->z.K=X.K->Cm P c e x->rn.e z.bor k x g=!(r,g')->aA X z e g r g'
 t:∀{X:Cx}{c:Ct}{z:Z}{k:Nat}{x:Ex}{e:Expr}{g g':G}{b:Bool},aM P k X c->z.K=X.K->Cm P c e x->rn.t z.bor k x g=!(b,g')->bN X z e g b g'
 b:∀{X:Cx}{c:Ct}{z:Z}{k:Nat}{xs:List Sm}{d8:List Stmt}{g g':G}{f:Fl},aM P k X c->c.df=true->z.K=X.K->pS P c d8 xs->rn.b z.bor k xs g=!(f,g')->dG X z d8 g f g'
theorem fh(h:oG N N' scope k=true):Names N N' scope k:=by
 unfold oG at h;simp only[dA,eQ,eC,yB]at h;obtain⟨⟨h1,h2⟩,h3⟩:=h;refine#[h1,λx e=>?_,λi x e hi=>?_]
 . rw[e]at h2;exact i4 h2
 . have h4:=h3 i hi;rw[e]at h4;simp only[wS,dA,eQ]at h4;exact h4
theorem gZ(ct:aM P k X c)(h:yy c.sc scope=true):bf X.env.scope scope:=by
 unfold yy at h;simp only[dA,eQ,eC,wS]at h;obtain⟨h1,h2⟩:=h;refine#[h1,λy hy=>(h2 y hy).1.1,λy hy e=>?_,λy hy e=>?_,λy hy e=>?_]
 . exact ((h2 y hy).1.2).elim (λq=>absurd e q) id
 . exact ((h2 y hy).2).elim (λq=>absurd e q) λq=>q.1
 . exact ((h2 y hy).2).elim (λq=>absurd e q) λq=>ct.fre _ q.2
theorem iV{X:Cx}{N':List Str}{scope:Scope}{b:Bk}{x:Str}:(X.blk N' scope b).env.scope.names.lookup x=(scope.names.lookup x).map λk=>if (k==NameKind.free&&X.env.scope.kind==.function&&X.env.kindOf x==some .cell)then NameKind.cell else k:=cZ
theorem aM.blk{P:Pg}{k:Nat}{X:Cx}{c:Ct}{scope:Scope}{N':List Str}(ct:aM P k X c)(hnd:N'.Nodup)(b:Bk):aM P k (X.blk N' scope b) #[N',scope,false,Str.empty]:=by
 refine#[rfl,hnd,λx e=>?_,λx e=>?_,λx e=>?_,λe=>absurd e ⋯,λx e=>?_,λe=>absurd e ⋯,ct.calm,rfl,ct.md,ct.room,λe=>absurd (show Str.empty∈iF from e) ⋯]
 . have e':=e;rw[iV,e'];rfl
 . have e':=e;show (X.blk N' scope b).env.scope.names.lookup x=_;rw[iV,e'];rfl
 .
  rw[iV];rcases e with e |e
  . have e':=e;rw[e'];exact .inl rfl
  .
   have e':=e;rw[e',C0];by_cases hq:(NameKind.free==NameKind.free&&X.env.scope.kind==.function&&X.env.kindOf x==some .cell)=true
   . rw[hV hq];exact .inl rfl
   . rw[fN hq];exact .inr rfl
 .
  rcases e with e |e
  . cases e
  . have e':=e;show (scope.names.lookup x==some .local)=true;rw[e'];rfl
section
theorem aW(h:aA X z e g r g'):aA X z e g (norm r) g':=by
 cases r with
 |dat d=>exact h
 |new l=>exact mZ h
 |var i=>exact h
theorem Jb(h:aA X z e g r g1)(hd:toD z.bor r g1=!(d,g')):aA X z e g (.dat d) g':=by
 cases r with
 |dat d'=>cases hd;exact h
 |new l=>cases hd;exact mZ h
 |var i=>
  have hd:(if i∈z.bor then none else match g1[i]? with |!(.own l)=>!(D.lst l,g1.set i (.dat (.lst l))) |_=>none)=!(d,g'):=hd
  split at hd
  . cases hd
  .
   rename_i hb;split at hd
   . rename_i l hg;cases hd;exact Br h hg hb
   . cases hd
theorem aN(hS:fX P rn)(ct:aM P k X c)(hK:z.K=X.K)(hc:Cm P c e x)(h:fz rn z.bor k x g=!(d,g')):aA X z e g (.dat d) g':=by
 unfold fz at h;split at h
 . rename_i r g1 e1;exact Jb (hS.e ct hK hc e1) h
 . symm
theorem jI:∀(ds:List D),sG (ds.map R.dat)=!ds
 | []=>rfl
 |d::ds=>by
  show (match sG (ds.map R.dat)with |some ds=>!(d::ds) |none=>none)=_
  rw[jI ds]
theorem oO(hS:fX P rn)(ct:aM P k X c)(hK:z.K=X.K):∀{es:List Expr}{xs:List Ex}{g g':G}{ds:List D},z7 P c es xs->lu rn z.bor k xs g=!(ds,g')->bO X z es g (ds.map .dat) g':=by
 intro es xs g g' ds hc h
 induction hc generalizing g ds with
 |nil=>symm;exact dc
 |cons h1 h2 ih=>
  unfold lu at h
  repeat' split at h
  all_goals try contradiction
  rename_i d g1 e1 _ ds g2 e2;symm;exact cB (aN hS ct hK h1 e1) (ih e2) (h1.star _)
theorem oR(hS:fX P rn)(ct:aM P k X c)(hK:z.K=X.K):∀{es:List Expr}{xs:List Ex}{g g':G}{rs:List R},z7 P c es xs->argsR rn z.bor k xs g=!(rs,g')->bO X z es g rs g':=by
 intro es xs g g' rs hc h
 induction hc generalizing g rs with
 |nil=>symm;exact dc
 |cons h1 h2 ih=>
  unfold argsR at h
  repeat' split at h
  all_goals try contradiction
  rename_i r g1 e1 _ rs g2 e2;symm;have q:=aW (hS.e ct hK h1 e1);have q2:=ih e2;cases r with
  |dat d=>exact cB q q2 (h1.star _)
  |new l=>exact cB q q2 (h1.star _)
  |var i=>exact FJ q q2 (h1.star _)
theorem g7(h:argsR rn bor k [a,b] g=!(rs,g2)):∃r1 r2 g1,rn.e bor k a g=!(r1,g1)/\rn.e bor k b g1=!(r2,g2)/\rs=[norm r1,norm r2]:=by
 unfold argsR at h;split at h
 .
  rename_i r1 g1 e1;unfold argsR at h;split at h
  .
   rename_i rs' g3 e3;split at e3
   . rename_i r2 g4 e2;cases e3;symm;exact#[r1,r2,g1,e1,e2,rfl]
   . cases e3
  . symm
 . symm
theorem Jc(hS:fX P rn)(ct:aM P k X c)(hK:z.K=X.K):∀{bs:List Expr}{xs:List Ex}{ops:List CmpOp}{g g':G}{d1:D}{b:Bool},z7 P c bs xs->VP rn z.bor k d1 ops xs g=!(b,g')->sL X z d1 ops bs g b g':=by
 intro bs xs ops g g' d1 b hc h
 induction hc generalizing ops g d1 with
 |nil=>unfold VP at h;split at h <;> first |contradiction |symm
 |cons h1 h2 ih=>
  unfold VP at h;split at h
  .
   rename_i op x _ e;cases e;cases h2
   repeat' split at h
   all_goals try contradiction
   rename_i d2 g1 e1 _ b e2;symm;exact .last (aN hS ct hK h1 e1) (oF hK ct.room e2)
  .
   rename_i e;cases e;split at h
   .
    rename_i d2 g1 e1;split at h
    .
     rename_i e2;cases h2 with
     |cons h2 h3=>exact .link (aN hS ct hK h1 e1) (oF hK ct.room e2) (ih h)
    .
     rename_i e2;symm;cases h2 with
     |cons h2 h3=>exact .stop (aN hS ct hK h1 e1) (oF hK ct.room e2)
    . symm
   . symm
  . symm
theorem yK(hS:fX P rn)(ct:aM P k X c)(hK:z.K=X.K):∀{es:List Expr}{l:List (Bool×Ex)}{out r:Str}{g g':G},CmF P c es l->Rh rn z.bor k out l g=!(r,g')->u9 X z out es g r g'
 |_,_,_,_,_,_,.nil,h=>by symm;exact .nil
 |_,_,_,_,_,_,.con h1,h=>by
  unfold Rh at h;split at h
  . rename_i hl;exact .con hl (yK hS ct hK h1 h)
  . symm
 |_,_,_,_,_,_,.fmt h1 h2,h=>by
  unfold Rh at h;split at h
  .
   rename_i i g1 e1;split at h
   . rename_i hl;exact .int (aN hS ct hK h1 e1) hl.1 hl.2 (yK hS ct hK h2 h)
   . symm
  . symm
variable{pos:Pos}
theorem Ph(hS:fX P rn)(ct:aM P k X c)(hK:z.K=X.K):∀{es:List Expr}{xs:List Ex}{g g':G}{r:R},z7 P c es xs->Io rn z.bor k xs g=!(r,g')->aA X z (.BoolOp .And es pos) g r g':=by
 intro es xs g g' b hc h
 induction hc generalizing g with
 |nil=>symm
 |cons h1 h2 ih=>
  cases h2 with
  |nil=>exact FH (hS.e ct hK h1 h)
  |cons h2 h3=>
   unfold Io at h;split at h
   . rename_i g1 e1;exact LC (hS.e ct hK h1 e1) (ih h)
   . rename_i g1 e1;symm;exact Lz (hS.e ct hK h1 e1)
   . symm
theorem Wt(hS:fX P rn)(ct:aM P k X c)(hK:z.K=X.K):∀{es:List Expr}{xs:List Ex}{g g':G}{r:R},z7 P c es xs->orF rn z.bor k xs g=!(r,g')->aA X z (.BoolOp .Or es pos) g r g':=by
 intro es xs g g' b hc h
 induction hc generalizing g with
 |nil=>symm
 |cons h1 h2 ih=>
  cases h2 with
  |nil=>exact FH (hS.e ct hK h1 h)
  |cons h2 h3=>
   unfold orF at h;split at h
   . rename_i g1 e1;exact TL (hS.e ct hK h1 e1) (ih h)
   . rename_i g1 e1;symm;exact TJ (hS.e ct hK h1 e1)
   . symm
theorem Jd(hS:fX P rn)(ct:aM P k X c)(hK:z.K=X.K):∀{es:List Expr}{xs:List Ex}{g g':G}{b:Bool},z7 P c es xs->vV rn z.bor k xs g=!(b,g')->lI X z (.BoolOp .And es pos) g b g':=by
 intro es xs g g' b hc h
 induction hc generalizing g with
 |nil=>symm
 |cons h1 h2 ih=>
  cases h2 with
  |nil=>exact Lw (hS.t ct hK h1 h)
  |cons h2 h3=>
   unfold vV at h;split at h
   . rename_i g1 e1;exact Ly (hS.t ct hK h1 e1) (ih h)
   . rename_i g1 e1;symm;exact Lx (hS.t ct hK h1 e1)
   . symm
theorem Pj(hS:fX P rn)(ct:aM P k X c)(hK:z.K=X.K):∀{es:List Expr}{xs:List Ex}{g g':G}{b:Bool},z7 P c es xs->Ip rn z.bor k xs g=!(b,g')->lI X z (.BoolOp .Or es pos) g b g':=by
 intro es xs g g' b hc h
 induction hc generalizing g with
 |nil=>symm
 |cons h1 h2 ih=>
  cases h2 with
  |nil=>exact Tw (hS.t ct hK h1 h)
  |cons h2 h3=>
   unfold Ip at h;split at h
   . rename_i g1 e1;exact TF (hS.t ct hK h1 e1) (ih h)
   . rename_i g1 e1;symm;exact Tz (hS.t ct hK h1 e1)
   . symm
theorem wc(hS:fX P rn)(ct:aM P k X c)(hK:z.K=X.K)(hc:CmO P c e x)(h:zX rn z.bor k x g=!(o,g')):sM X z e g o g':=by
 cases hc with
 |none=>symm;exact BK
 |@some e' x' hc=>
  have h:(match fz rn z.bor k x' g with |!(.int i,g1)=>!(!i,g1) |_=>none)=!(o,g'):=h
  split at h
  . rename_i e1;symm;exact BL (aN hS ct hK hc e1)
  . symm
theorem Je(ct:aM P k X c)(h:c.sc.names.lookup x=some .globalImplicit):Gl X x:=ct.lz x h
theorem Pp(h:isW it=false):fW rn bor k tp it g=match fz rn bor k it g with |!(.tup l,g1)=>!(l,g1) |!(.lst l,g1)=>!(l,g1) |!(.fix l,g1)=>!(l,g1) |_=>none:=by cases it <;> first |rfl |exact Bool.noConfusion (show true=false from h)
theorem kB(hS:fX P rn)(ct:aM P k X c)(hK:z.K=X.K){z9 tg:Expr}{it:Ex}{g g':G}{ao:List D}{tp:Bool}(htp:tp=true->∃es k pos,tg=.Tuple es k pos)(hc:Kv P c z9 it)(h:fW rn z.bor k tp it g=!(ao,g')):dm X z tg z9 g ao g':=by
 cases hc with
 |zip=>exact nomatch (show none=!(ao,g')from h)
 |enum ha hb hg=>
  unfold fW at h;dsimp only at h;split at h
  .
   rename_i ht;obtain⟨es,k0,pos,rfl⟩:=htp ht
   repeat' split at h
   all_goals try contradiction
   rename_i l g1 e1;symm;exact Nh hK (cB (aN hS ct hK ha e1) dc (ha.star _)) (Je ct hg) (ct.md.bn _ hb) (ha.star _)
  . symm
 |cV ha hb hg=>
  unfold fW at h;dsimp only at h
  repeat' split at h
  all_goals try contradiction
  rename_i j g1 e1 hj;symm;simp only[Kr,dA,eQ]at hj;exact Mg (cB (aN hS ct hK ha e1) dc (ha.star _)) (Je ct hg) (ct.md.bn _ hb) (by rw[ha.star];rfl) hj.1 hj.2
 |dJ ha hb' hb hg=>
  unfold fW at h;dsimp only at h
  repeat' split at h
  all_goals try contradiction
  rename_i c0 g1 e1 _ j g2 e2 hj;symm;simp only[Kr,dA,eQ]at hj;exact Mh (cB (aN hS ct hK ha e1) (cB (aN hS ct hK hb' e2) dc (hb'.star _)) (ha.star _)) (Je ct hg) (ct.md.bn _ hb) (by rw[ha.star,hb'.star];rfl) (by rw[hb'.star];rfl) #[hj.1.1,hj.1.2,hj.2.1,hj.2.2]
 |seq hc=>
  have h':=(Pp hc.notW).symm.trans h;split at h'
  . rename_i e1;cases h';exact Uq hK (aN hS ct hK hc e1)
  . rename_i e1;cases h';exact Us (aN hS ct hK hc e1)
  . rename_i e1;cases h';exact Ut hK (aN hS ct hK hc e1)
  . cases h'
theorem tR(hS:fX P rn)(ct:aM P k X c)(hK:z.K=X.K)(hc:pQ P c ifs co)(h:Iq rn z.bor k co g=!(b,g')):cT X z ifs g b g':=by
 cases hc with
 |none=>symm;exact Mi
 |some hc=>exact Mj (hS.t ct hK hc h)
theorem qY(h:Di c tg T):T.fV=true->∃es k pos,tg=.Tuple es k pos:=by
 cases h with
 |nm _ _=>intro e;cases e
 |tp _=>intro _;exact#[_,_,_,rfl]
theorem Wu(ct:aM P k X c)(h:Dg c es is):jx X es is:=by
 induction h with
 |nil=>exact .nil
 |cons h1 h2 _ ih=>exact .cons (ct.nm h1 h2) ih
theorem qZ(ct:aM P k X c)(hK:z.K=X.K)(h:Di c tg T)(hb:∀i∈T.ix,i∉z.bor):eG X z tg T:=by
 cases h with
 |nm h1 h2=>exact Zx (ct.nm h1 h2) (hb _ (mP.mpr rfl))
 |tp h1=>exact Zy ct.calm hK (Wu ct h1) hb
theorem tT(hS:fX P rn){Xb:Bk->Cx}{cb:Ct}(ctb:∀b,aM P k (Xb b) cb)(QZ:∀b,z.K=(Xb b).K){T:Tg}{last:Nat}{ifs:List Expr}{co:Option Ex}{cQ:Expr}{xe:Ex}(hi:pQ P cb ifs co)(he:Cm P cb cQ xe) :
  ∀{ao:List D}{g gE:G},Ks rn z.bor k T last co xe ao g=!gE->jz T last (λg b g'=>∀bk:Bk,cT (Xb bk) z ifs g b g') (λg d g'=>∀bk:Bk,aA (Xb bk) z cQ g (.dat d) g') ao g gE
 | [],_,_,h=>by symm;exact .nil
 |d::l,_,_,h=>by
  unfold Ks at h;split at h
  . symm
  .
   rename_i g1 e1;split at h
   . symm
   . rename_i g2 e2;exact .skip e1 (λbk=>tR hS (ctb bk) (QZ bk) hi e2) (tT hS ctb QZ hi he h)
   .
    rename_i g2 e2;split at h
    . symm
    .
     rename_i x g3 e3
     repeat' split at h
     all_goals try contradiction
     rename_i acc e4 hl;exact .take e1 (λbk=>tR hS (ctb bk) (QZ bk) hi e2) (λbk=>aN hS (ctb bk) (QZ bk) he e3) e4 hl (tT hS ctb QZ hi he h)
end
def iJ(P:Pg)(mg:Str->Option Value)(ci:Nat)(C:Addr):Prop:=∃x,P.cls[ci]?=!x/\mg x=!(.ref C)
structure Pq(P:Pg)(k:Nat)(X:Cx)(c:Ct):Prop where
 ct:aM P k X.rW c
 ex:X.ex=[]
 pa:PassesOwn (~~~2) X.A X.env X.xe
structure pU(P:Pg)(rn:Rn):Prop where
 x:∀{X:Cx}{c:Ct}{z:Z}{k:Nat}{x:Ex}{e:Expr}{g g':G}{ci:Nat}{C:Addr},Pq P k X c->z.K=X.K->iJ P X.mg ci C->Cm P c e x->rn.x z.bor k x g=!(ci,g')->Eh X z e g C g'
 t:∀{X:Cx}{c:Ct}{z:Z}{k:Nat}{x:Ex}{e:Expr}{g g':G}{ci:Nat}{C:Addr},Pq P k X c->z.K=X.K->iJ P X.mg ci C->Cm P c e x->rn.xt z.bor k x g=!(ci,g')->XQ X z e g C g'
 b:∀{X:Cx}{c:Ct}{z:Z}{k:Nat}{xs:List Sm}{d8:List Stmt}{g g':G}{ci:Nat}{C:Addr},Pq P k X c->c.df=true->z.K=X.K->iJ P X.mg ci C->pS P c d8 xs->rn.xb z.bor k xs g=!(ci,g')->Mw X z d8 g C g'
structure Pr(P:Pg)(fi:Fi)(fx:Fx):Prop where
 np:fx.np=fi.ps.length
 n:fx.n=fi.N.length
 body:pS P #[fi.N,aC fi.st,true,fi.qual] (bh fi.st) fx.body
def iK(P:Pg)(fns:List Fx):Prop:=∀(f:Nat) (fi:Fi) (fx:Fx),P.fn[f]?=!fi->fns[f]?=!fx->Pr P fi fx
theorem oU{P:Pg}{k:Nat}{prog:Program}{w:World}{K:Frag}{mg:Str->Option Value}{base:Heap}{N ps:List Str}{qual:Str}{scope:Scope}{f:Addr}{bx:Value}{A:Around}{outer:List Env}{s:Shared}{H:Hp}{E:XK}
  (S:bI N ps scope) (md:tH P K mg) (bU:PySem.W.codeIn K bx qual=true) (hr:bH k (A.deeper (envOfC qual scope s⁻¹ f bx))):aM P k (fG xF prog w K mg base N qual scope f bx A outer s H E).rW #[N,scope,true,qual]:=by
 refine#[rfl,S.nd,λx e=>e,λx e=>e,λx e=>e,λ_ x e=>e,λx _=>rfl,λ_=>?_,rfl,rfl,md,hr,λe h=>#[rfl,md.lam h _ e _ bU]]
 show (if scope.kind.isAnnotationScope then ScopeKind.function else scope.kind)=.function
 rw[S.kind];rfl
section
theorem Jf(hS:fX P rn){k':Nat}(ct:aM P (k'+1) X c)(hK:z.K=X.K){f:Nat}{fi:Fi}{fx:Fx}(Vk:P.fn[f]?=!fi)(uh:Pr P fi fx)(hgl:c.sc.names.lookup fi.name=some .globalImplicit){e:Expr}{es:List Expr}{xs:List Ex}{rs:List R}{g g1 gO:G}{r:R}
  (hc:z7 P c (e::es) xs) (ha:bO X z (e::es) g rs g1) (h:dD rn fx k' rs g1=!(r,gO)):aA X z (.Call (.Name fi.name p) (e::es) [] pos) g r gO:=by
 obtain⟨f,fd,hm,hF,Yg,hB,ji⟩:=ct.md.fn _ fi Vk;have F:iM X.prog X.w X.K X.mg X.base xF (k'+1) f fd fi.ps (QV X.K fi.N fi.ps.length λbor g r g'=>rn.b bor k' fx.body g=!(.rt r,g')\/(rn.b bor k' fx.body g=!(.nx,g')/\r=.dat .non)):=by
  refine Gm hF Yg λbx A outer s H E bU hr z' g r g' XT hrun=>?_
  have ct':aM P k' (fG xF X.prog X.w X.K X.mg X.base fi.N fi.qual (aC fi.st) f bx A outer s H E).rW #[fi.N,aC fi.st,true,fi.qual]:=oU Yg ct.md bU hr;rcases hrun with h |⟨h,rfl⟩
  . exact#[_,hS.b ct' rfl XT uh.body h,.inl rfl]
  . exact#[_,hS.b ct' rfl XT uh.body h,.inr #[rfl,rfl]]
 have h1:∃h2:z7 P c es xs.tail,starEach (e::es) X.env=(false,eval e X.env)::starEach es X.env:=by
  cases hc with
  |cons h1 h2=>exact#[h2,h1.star _]
 obtain⟨h2,b9⟩:=h1;unfold dD at h;split at h
 .
  rename_i hl;split at h
  . symm
  .
   rename_i gs e1;split at h
   .
    rename_i r0 gc e2;split at h
    .
     rename_i gO' e3;split at h
     . rename_i r' e4;symm;exact zy F hK ct.room (ct.lz _ hgl) hm hF.kp hB ha (by rw[hl.1,uh.np]) e1 hl.2 (.inl (by rw[<- uh.n];exact e2)) e3 e4 ji b9 h2.plain
     . symm
    . symm
   .
    rename_i gc e2;split at h
    . rename_i gO' e3;symm;exact zy F hK ct.room (ct.lz _ hgl) hm hF.kp hB ha (by rw[hl.1,uh.np]) e1 hl.2 (.inr #[by rw[<- uh.n];exact e2,rfl]) e3 rfl ji b9 h2.plain
    . symm
   . symm
 . symm
theorem wg(hS:fX P rn)(ct:aM P k X c)(hK:z.K=X.K){tg z9 cQ:Expr}{ifs:List Expr}{scope:Scope}{N':List Str}{kk:Nat}{T:Tg}{it xe:Ex}{co:Option Ex}{g g':G}{acc:List D}
  (hnd:N'.Nodup) (hT:Di #[N',scope,false,Str.empty] tg T) (Jg:∀i∈T.ix,c.N.length<=i/\i<c.N.length+kk) (hi:Kv P c z9 it) (hf:pQ P #[N',scope,false,Str.empty] ifs co) (he:Cm P #[N',scope,false,Str.empty] cQ xe)
  (h:iI rn z.bor k c.N.length kk T it co xe g=!(acc,g')) :
  ∃ao g1 gE,dm X z tg z9 g ao g1/\(∀b:Bk,eG (X.blk N' scope b) z tg T)/\(∀i∈T.ix,g1.length<=i/\i<g1.length+kk)/\
   jz T (g1.length+kk) (λg b g'=>∀bk:Bk,cT (X.blk N' scope bk) z ifs g b g') (λg d g'=>∀bk:Bk,aA (X.blk N' scope bk) z cQ g (.dat d) g') ao (gC kk g1) gE/\gE[g1.length+kk]?=!(.own acc)/\g'=gE.take g1.length:=by
 unfold iI at h;split at h
 . symm
 .
  rename_i ao g1 e1;split at h
  .
   rename_i hl;split at h
   . symm
   .
    rename_i gE e2;split at h
    .
     rename_i acc' e3;symm;obtain⟨hl,hb⟩:=hl;rw[<- hl]at e2 e3 Jg ⊢
     refine#[ao,g1,gE,kB hS ct hK (qY hT) hi e1,λb=>qZ (ct.blk hnd b) hK hT λi hi hm=>?_,Jg,tT hS (λb=>ct.blk hnd b) (λb=>hK) hf he e2,e3,rfl]
     rw[List.any_eq_false]at hb;exact hb i hi (kS hm)
    . symm
  . symm
theorem Jh(hS:fX P rn)(ct:aM P k X c)(hK:z.K=X.K)(hnd:N'.Nodup)
  (hk:z7 P #[N',scope,false,Str.empty] kes ks) (hv:Cm P #[N',scope,false,Str.empty] vx xv):∀{ao:List D}{ka: ~~~5}{da:List D}{g gE:G}{p: ~~~5×List D},VR rn z.bor k T ks xv ao ka da g=!(p,gE)->
  sU T (λg ns g'=>∀bk:Bk,yf (X.blk N' scope bk) z (.Tuple kes kk kp) g ns g') (λg d g'=>∀bk:Bk,aA (X.blk N' scope bk) z vx g (.dat d) g') ao ka da g p.1 p.2 gE
 | [],_,_,_,_,_,h=>by symm;exact .nil
 |d::l,ka,_,_,_,_,h=>by
  unfold VR at h;split at h
  . symm
  .
   rename_i g1 e0;split at h
   . symm
   .
    rename_i m g2 e1;split at h
    . symm
    .
     rename_i ns e2;split at h
     . symm
     .
      rename_i x g3 e3;split at h
      .
       rename_i hc;obtain⟨h1,h2,h3⟩:=hc;have h1:=aj h1;refine .cons e0 (λbk=>Vh (oO hS (ct.blk hnd bk) hK hk e1) (jI _) e2 h3) (λbk=>aN hS (ct.blk hnd bk) hK hv e3) (λhm=>?_) h2 (aj h1.2).1 (aj h1.2).2 (Jh hS ct hK hnd hk hv h)
       have:=eC.mp h1.1 ns hm;simp at this
      . symm
theorem Dj(hS:fX P rn)(ct:aM P k X c)(hK:z.K=X.K){tg z9 vx:Expr}{kes:List Expr}{scope:Scope}{N':List Str}{kk kt:Nat}{kp:Pos}{T:Tg}{it xv:Ex}{ks:List Ex}{g g':G}{p: ~~~5×List D}
  (hnd:N'.Nodup) (hT:Di #[N',scope,false,Str.empty] tg T) (Jg:∀i∈T.ix,c.N.length<=i/\i<c.N.length+kk) (hi:Kv P c z9 it) (hk:z7 P #[N',scope,false,Str.empty] kes ks) (hv:Cm P #[N',scope,false,Str.empty] vx xv)
  (h:oB rn z.bor k c.N.length kk T it ks xv g=!(p,g')) :
  ∃ao g1 gE,dm X z tg z9 g ao g1/\(∀b:Bk,eG (X.blk N' scope b) z tg T)/\(∀i∈T.ix,g1.length<=i/\i<g1.length+kk)/\
   sU T (λg ns g'=>∀bk:Bk,yf (X.blk N' scope bk) z (.Tuple kes kt kp) g ns g') (λg d g'=>∀bk:Bk,aA (X.blk N' scope bk) z vx g (.dat d) g') ao [] [] (gD kk g1) p.1 p.2 gE/\g'=gE.take g1.length:=by
 unfold oB at h;split at h
 . symm
 .
  rename_i ao g1 e1;split at h
  .
   rename_i hl;split at h
   . symm
   .
    rename_i q gE e2;symm;obtain⟨hl,hb⟩:=hl;rw[<- hl]at Jg ⊢
    refine#[ao,g1,gE,kB hS ct hK (qY hT) hi e1,λb=>qZ (ct.blk hnd b) hK hT λi hi hm=>?_,Jg,Jh hS ct hK hnd hk hv e2,rfl]
    rw[List.any_eq_false]at hb;exact hb i hi (kS hm)
  . symm
theorem tU(hS:fX P rn)(ct:aM P k X c)(hK:z.K=X.K){tg z9 cQ:Expr}{f1 ifs:List Expr}{scope:Scope}{N':List Str}{T1 T:Tg}{it xe:Ex}{c1 co:Option Ex}{last:Nat}(hnd:N'.Nodup)(hT:Di #[N',scope,false,Str.empty] tg T)(hf1:pQ P #[N',scope,false,Str.empty] f1 c1)
  (hi:Kv P #[N',scope,false,Str.empty] z9 it) (hf:pQ P #[N',scope,false,Str.empty] ifs co) (he:Cm P #[N',scope,false,Str.empty] cQ xe):∀{ao:List D}{g gE:G},vW rn z.bor k T1 c1 T it co xe last ao g=!gE->
  gH T1 (λg b g'=>∀bk:Bk,cT (X.blk N' scope bk) z f1 g b g') (CG X z N' scope tg z9 cQ ifs T last) ao g gE
 | [],_,_,h=>by symm;exact .nil
 |d::l,_,_,h=>by
  unfold vW at h;split at h
  . symm
  .
   rename_i g1 e1;split at h
   . symm
   . rename_i g2 e2;exact .skip e1 (λbk=>tR hS (ct.blk hnd bk) hK hf1 e2) (tU hS ct hK hnd hT hf1 hi hf he h)
   .
    rename_i g2 e2;split at h
    . symm
    .
     rename_i items2 g3 e3;split at h
     . symm
     . rename_i g4 e4;exact .take e1 (λbk=>tR hS (ct.blk hnd bk) hK hf1 e2) #[items2,g3,λbk=>kB hS (ct.blk hnd bk) hK (qY hT) hi e3,tT hS (λb=>ct.blk hnd b) (λb=>hK) hf he e4] (tU hS ct hK hnd hT hf1 hi hf he h)
theorem rm(hS:fX P rn)(ct:aM P k X c)(hK:z.K=X.K){t1 i1 tg z9 cQ:Expr}{f1 ifs:List Expr}{scope:Scope}{N':List Str}{kk:Nat}{T1 T:Tg}{pO it xe:Ex}{c1 co:Option Ex}{g g':G}{acc:List D}
  (hnd:N'.Nodup) (hT1:Di #[N',scope,false,Str.empty] t1 T1) (hT:Di #[N',scope,false,Str.empty] tg T) (hTi1:∀i∈T1.ix,c.N.length<=i/\i<c.N.length+kk) (Jg:∀i∈T.ix,c.N.length<=i/\i<c.N.length+kk) (hi1:Kv P c i1 pO) (hf1:pQ P #[N',scope,false,Str.empty] f1 c1) (hi:Kv P #[N',scope,false,Str.empty] z9 it) (hf:pQ P #[N',scope,false,Str.empty] ifs co) (he:Cm P #[N',scope,false,Str.empty] cQ xe)
  (h:ki rn z.bor k c.N.length kk T1 pO c1 T it co xe g=!(acc,g')) :
  ∃ao g1 gE,dm X z t1 i1 g ao g1/\(∀b:Bk,eG (X.blk N' scope b) z t1 T1)/\(∀b:Bk,eG (X.blk N' scope b) z tg T)/\(∀i∈T1.ix,g1.length<=i/\i<g1.length+kk)/\(∀i∈T.ix,g1.length<=i/\i<g1.length+kk)/\
   gH T1 (λg b g'=>∀bk:Bk,cT (X.blk N' scope bk) z f1 g b g') (CG X z N' scope tg z9 cQ ifs T (g1.length+kk)) ao (gC kk g1) gE/\gE[g1.length+kk]?=!(.own acc)/\g'=gE.take g1.length:=by
 unfold ki at h;split at h
 . symm
 .
  rename_i ao g1 e1;split at h
  .
   rename_i hl;split at h
   . symm
   .
    rename_i gE e2;split at h
    .
     rename_i acc' e3;symm;obtain⟨hl,hb⟩:=hl;rw[<- hl]at e2 e3 Jg hTi1 ⊢
     rw[List.any_eq_false]at hb;exact#[ao,g1,gE,kB hS ct hK (qY hT1) hi1 e1,λb=>qZ (ct.blk hnd b) hK hT1 λi hi hm=>hb i (t7 _ hi) (kS hm),λb=>qZ (ct.blk hnd b) hK hT λi hi hm=>hb i (gN _ hi) (kS hm),hTi1,Jg,tU hS ct hK hnd hT hf1 hi hf he e2,e3,rfl]
    . symm
  . symm
end
theorem Pu{P:Pg}{c:Ct}{er y ke en O7:Str}{Cz np XS py bT pq kp vB vA cM pA pg:Pos}{j:Nat}{rest:List Stmt}{bd:List Sm}(h:pS P c (.Assign [.Name er Cz] (.Constant .none j np) XS::Hi y ke en O7 py bT pq kp vB vA cM pA pg::rest) bd):pS P c rest (bd.drop 2):=by
 have nog:∀{s:Stmt}{ss:List Stmt}{x:Sm}{r:List Stmt},Ye P (Cm P c) (yJ P c) c ss x->ss++r=s::rest->(∀a b p,s≠.Assign a b p)->False:=λg e n=>by
  cases g <;> (injection e with e1 e2;exact n _ _ _ e1.symm)
 generalize hq:(Stmt.Assign [.Name er Cz] (.Constant .none j np) XS::Hi y ke en O7 py bT pq kp vB vA cM pA pg::rest)=d8 at h;cases h with
 |nil=>cases hq
 |grp g _=>cases g <;> (injection hq with e1 e2;injection e1 with e3 e4;cases e4)
 |cons _ h1=>
  injection hq with e1 e2;generalize hq2:(Hi y ke en O7 py bT pq kp vB vA cM pA pg::rest)=aG at e2;subst e2;cases h1 with
  |nil=>cases hq2
  |grp g _=>exact (nog g hq2.symm (λa b p e=>nomatch e)).elim
  |cons _ h2=>injection hq2 with e1 e2;subst e2;exact h2
section
variable{X:Cx}{c:Ct}
theorem Ji(ct:aM P k X c)(h:Dh P c es ns):nF X es ns/\∀n∈ns,n∈tK:=by
 induction h with
 |nil=>exact#[.nil,λn hn=>nomatch hn]
 |@cons T n pos es ns h1 h2 h3 h4 _ ih=>
  refine#[.cons ?_ ih.1,λm hm=>(dL.mp hm).elim (λe=>e▸h4) (ih.2 m)]
  subst h3;refine#[ct.lz _ h2,ct.md.bn _ h1,?_,?_,?_] <;> (unfold tK at h4;simp only[dL,kA,AA]at h4;rcases h4 with rfl |rfl |rfl |rfl |rfl |rfl <;> first |rfl |decide)
theorem yL(h:aA X z e g r g1)(hp:pk r g1=!d)(hs:starEach [e] X.env=(false,eval e X.env)::starEach [] X.env):bO X z [e] g [r] g1:=by
 cases r with
 |dat d=>exact cB h dc hs
 |new l=>cases hp
 |var i=>exact FJ h dc hs
theorem Cm.attr(h:Cm P c e x)(m:Str):attributeBase e m env (eval e env)=eval e env:=by
 obtain⟨n,t,rfl,hk⟩:=h.pP;cases x
 case val d=>rw[show tQ P (cO P n) c (.val d) t=oM d t from rfl];unfold oM;split <;> rfl
 case peek xe=>rcases oN (aj hk).1 with ⟨x,p,a,es,pos,e⟩ |⟨a,b,s,p,e⟩ <;> (rw[show tQ P (cO P n) c (.peek xe) t=cO P n c xe t from rfl,e];rfl)
 case call i xs=>cases xs with |nil=>cases (aj (aj (aj hk).2).2).2 |cons x xs=>rfl
 case blt b xs=>cases xs with |nil=>cases (aj (aj hk).2).2 |cons x xs=>rfl
 all_goals first |rfl |exact Bool.noConfusion (show false=true from hk)
theorem Pw(hS:fX P rn)(hX:pU P rn){fns:List Fx}(hF:iK P fns){k':Nat}{qqq:Cx}(md:tH P qqq.K qqq.mg)(hr:bH (k'+2) qqq.A)(hcm:qqq.calm=true)(hKY:z.K=qqq.K)(Lp:c.N.Nodup)(hN:X.N=c.N){f ir:Nat}{fi:Fi}{l:Lt}{xb:Ex}{g Km g3:G}{r0 r':R}{fx:Fx}{ci:Nat}{C:Addr}{n:Str}
  (h1:P.fn[f]?=!fi) (h5:P.lam=true) (h6:O8 fi ir P.kt=true) (h8:IK l.params l.scope=true) (h9:Cm P #[c.N,l.scope,false,Str.empty] l.body xb)
  (e1:fns[f]?=!fx) (e2:rn.x [] k' xb (g.map noOwn)=!(ci,Km)) (e3:P.oE[ci]?=!C) (e4:rn.b [] k' (fx.body.drop 2) ((List.replicate fx.n .no).set ir (.dat (.lG C)))=!(.rt r0,g3)) (e5:dj [] g3 r0=!r') {fa:Addr}{fd:FuncData} (F:Lg qqq.K fi.name fi.qual fi.st fa fd) (Sc:bI fi.N fi.ps (aC fi.st)) (bd:L2.Binds qqq.K fd fi.ps []):Hj qqq X z g (pI n) l r' fa:=by
 have uh:=hF f fi fx h1 e1;obtain⟨xC,c1,c2,qC,kC⟩:=md.oE ci C e3;obtain⟨dk,D,mD,qD,hup⟩:=md.kt h5;have L:=z6 h8;unfold O8 at h6;split at h6
 .
  rename_i er y ke en O7 X7 hv;obtain⟨Cz,j,np,XS,py,bT,pq,kp,vB,vA,cM,pA,pg,rest,b9⟩:=O6 hv;obtain⟨p1,p2⟩:=aj h6;obtain⟨⟨q1,q2,q3,q4⟩,⟨q5,q6,q7⟩,⟨q8,q9⟩,q10,q11,q12⟩:=dec p1;subst q1 q2 q3;obtain⟨p3,p4⟩:=aj p2;have pe:=cC (aj p3).1;have py':=cC (aj p3).2;have vy:um (aC fi.st) y:=by
   have:=(aj p4).1;unfold yw at this;split at this
   . rename_i e;exact .inl e
   . rename_i e;exact .inr (.inl e)
   . rename_i e;exact .inr (.inr e)
   . cases this
  have lr:Loc (aC fi.st) O7:=by
   have:=(aj p4).2;unfold gQ at this;split at this
   . rename_i e;exact .inl e
   . rename_i e;exact .inr e
   . cases this
  have hb:=uh.body;rw[b9]at hb;have hrs:=Pu hb;intro ah σ1 σ0 H1 s1 g1 As A0 M p c' cl pm jc us Q E I1 S1 hp1 hc1 Cl0 Z1 rv hQ;refine Ve (Km:=Km) hKY hr hcm F b9 (q4▸Sc) (q4▸bd)
   #[Sc.nd,q5,mD,dk,qC,qD,hup C (hZ e3),kC,q6,q7,pe.1,pe.2,q8,lr,q9,vy,py'.1,py'.2,q10,q11,q12] L (λXf s H xe zl a1 a2 a3 a4 a5 hr hc hp hzK hzb=>?_) (λbx A outer s H E bU hr zf hzK hzb=>?_) e5 I1 S1 hp1 hc1 Cl0 Z1.noOwn (λi l e=>Cy e) rv hQ
  .
   have hci:iJ P (vq Xf X.N (pI n) l.scope p (.ref c') cl s H xe).mg ci C:=#[xC,c1,a4▸c2];refine hX.x (c:=#[c.N,l.scope,false,Str.empty]) #[#[hN,Lp,λx e=>e,λx e=>e,λx e=>e,(λe=>nomatch e),λx e=>?_,(λe=>nomatch e),rfl,rfl,?_,hr.deeper _,λe=>absurd (show Str.empty∈iF from e) ⋯],rfl,hp] (hzK.trans a3.symm) hci h9 (by rw[hzb];exact e2)
   .
    rcases e with e |e
    . cases e
    . exact absurd rfl (L.nl _ (L2.mem_of_lookup e))
   . show tH P Xf.K Xf.mg;rw[a3,a4];exact md
  .
   have e4':rn.b zf.bor k' (fx.body.drop 2) ((List.replicate fi.N.length .no).set ir (.dat (.lG C)))=!(.rt r0,g3):=by rw[hzb,<- uh.n];exact e4
   exact hS.b (oU Sc md bU hr) rfl hzK hrs e4'
 . cases h6
theorem mk_ok(ct:aM P k X c)(h4:c.q∈iF)(h5:P.lam=true):∃q cc,Vc X (pI c.q) q cc:=by obtain⟨hqn,cc,q,hcode,hC,hq,hbi,ZQ,hu⟩:=ct.lam h4 h5;exact#[q,cc,hq,hu,hcode,hC,hqn,hbi,ZQ]
theorem Px(hS:fX P rn)(hX:pU P rn){fns:List Fx}(hF:iK P fns){k':Nat}(ct:aM P (k'+2) X c)(hK:z.K=X.K){x:Str}{f ir:Nat}{fi:Fi}{params:Arguments}{body:Expr}{scope:Scope}{xb:Ex}{fp lpos pos:Pos}{g Km g3:G}{r0 r':R}{fx:Fx}{ci:Nat}{C:Addr}
  (h1:P.fn[f]?=!fi) (h2:fi.name=x) (h3:c.sc.names.lookup x=some .globalImplicit) (h4:c.q∈iF) (h5:P.lam=true) (h6:O8 fi ir P.kt=true) (h7:yy c.sc scope=true) (h8:IK params scope=true) (h9:Cm P #[c.N,scope,false,Str.empty] body xb)
  (e1:fns[f]?=!fx) (e2:rn.x [] k' xb (g.map noOwn)=!(ci,Km)) (e3:P.oE[ci]?=!C) (e4:rn.b [] k' (fx.body.drop 2) ((List.replicate fx.n .no).set ir (.dat (.lG C)))=!(.rt r0,g3)) (e5:dj [] g3 r0=!r') :
  aA X z (.Call (.Name x fp) [.Lambda params body scope lpos] [] pos) g r' g:=by
 obtain⟨fa,fd,m1,F,Sc,bd,db⟩:=ct.md.fn f fi h1;obtain⟨q,cc,mk⟩:=mk_ok ct h4 h5;subst h2;exact Nt (l:=#[params,body,scope,lpos]) hK F (ct.lz _ h3) m1 db mk (gZ ct h7) (z6 h8) (Pw hS hX hF ct.md ct.room ct.calm hK ct.nd ct.N h1 h5 h6 h8 h9 e1 e2 e3 e4 e5 F Sc bd)
def Yh(X:Cx)(z:Z)(e:Expr)(g:G)(o:Option (R×G)):Prop:=∀r g',o=!(r,g')->aA X z e g r g'
theorem Yh.none:Yh X z e g none:=λ_ _ h=>nomatch h
theorem Yh.some{e:Expr}{g g':G}{r:R}(h:aA X z e g r g'):Yh X z e g (!(r,g')):=λ_ _ q=>by cases q;exact h
theorem wj(h:ux P (m+1) c (.comp n' kk T it co xe) t=true):n'=c.N.length/\yy c.sc (dZ t)=true/\oG c.N (oK c.N (dZ t)) (dZ t) kk=true/\(oK c.N (dZ t)).Nodup/\Di (d9 c t) (tN (d9 c t) T (kid t 1)) T/\(∀i∈T.ix,c.N.length<=i/\i<c.N.length+kk)/\Kv P c (tM (cO P m c) it (kid t 2)) it/\pQ P (d9 c t) (yH (cO P m (d9 c t)) (kid t 3) co) co/\Cm P (d9 c t) (cO P m (d9 c t) xe (kid t 0)) xe:=by obtain⟨h1,a1⟩:=aj h;obtain⟨h2,a2⟩:=aj a1;obtain⟨h3,a3⟩:=aj a2;obtain⟨h4,a4⟩:=aj a3;obtain⟨h5,a5⟩:=aj a4;exact#[dec h1,(aj h2).1,(aj (aj h2).2).1,gY (aj (aj h2).2).2,ku h3,tO h4,kr .mk h5,yI .mk (aj a5).1,.mk (aj a5).2]
theorem rq(h:ux P (m+1) c (.iH n' kk T1 pO c1 T it co xe) t=true):n'=c.N.length/\yy c.sc (dZ t)=true/\oG c.N (oK c.N (dZ t)) (dZ t) kk=true/\(oK c.N (dZ t)).Nodup/\Di (d9 c t) (tN (d9 c t) T1 (kid t 1)) T1/\Di (d9 c t) (tN (d9 c t) T (kid t (3+o1 c1))) T/\(∀i∈T1.ix,c.N.length<=i/\i<c.N.length+kk)/\(∀i∈T.ix,c.N.length<=i/\i<c.N.length+kk)/\Kv P c (tM (cO P m c) pO (kid t 2)) pO/\pQ P (d9 c t) (yH (cO P m (d9 c t)) (kid t 3) c1) c1/\Kv P (d9 c t) (tM (cO P m (d9 c t)) it (kid t (4+o1 c1))) it/\pQ P (d9 c t) (yH (cO P m (d9 c t)) (kid t (5+o1 c1)) co) co/\Cm P (d9 c t) (cO P m (d9 c t) xe (kid t 0)) xe:=by obtain⟨h1,a1⟩:=aj h;obtain⟨h2,a2⟩:=aj a1;obtain⟨h3,a3⟩:=aj a2;obtain⟨h4,a4⟩:=aj a3;obtain⟨h5,a5⟩:=aj a4;obtain⟨h6,h7⟩:=aj a5;exact#[dec h1,(aj h2).1,(aj (aj h2).2).1,gY (aj (aj h2).2).2,ku (aj h3).1,ku (aj h3).2,tO (aj h4).1,tO (aj h4).2,kr .mk (aj h5).1,yI .mk (aj h5).2,kr .mk (aj h6).1,yI .mk (aj h6).2,.mk h7]
theorem Wv(ct:aM P k X c)(hK:z.K=X.K)(h:okV P c d t=true):aA X z (oM d t) g (.dat d) g:=by
 unfold okV at h;unfold oM;cases e:yC t with
 |some y=>rw[e]at h;obtain⟨hd,v,u,q1,q2,q3⟩:=ct.md.ct _ _ (Ja (aj h).2);exact Lv (ct.lz _ (dec (aj h).1)) q1 q2 (hK▸q3) hd
 |none=>
  rw[e]at h;cases d with
  |int i=>exact Tf
  |bl i=>exact Zj
  |str i=>exact Tj
  |non=>exact Ti
  |_=>exact nt h
theorem Py(hS:fX P rn)(hX:pU P rn){fns:List Fx}(hF:iK P fns)(ct:aM P k X c)(hK:z.K=X.K){e:Expr}{x:Ex}{g:G}(hc:Cm P c e x):Yh X z e g (aP rn z.bor k fns x g):=by
 obtain⟨n,t,rfl,hk⟩:=hc.pP;cases x
 case val d=>exact .some (Wv ct hK hk)
 case slot i=>
  have h1:=(oJ hk).1;have h2:=(oJ hk).2.1;have h3:=(oJ hk).2.2;obtain⟨hd,bU⟩:=cC h3;unfold aP;dsimp only;split
  . rename_i e1;exact .some (Tp (by rw[ct.N];exact h1) (ct.vis h2) hd bU e1)
  . rename_i e1;exact .some (Ls (by rw[ct.N];exact h1) (ct.vis h2) hd bU e1)
  . exact .none
 case bin op a b=>
  have h1:=(Cm.mk (aj hk).1);have h2:=(Cm.mk (aj hk).2);unfold aP;dsimp only;split
  .
   rename_i r1 r2 g2 e1;obtain⟨s1,s2,g1,q1,q2,q3⟩:=g7 e1;cases q3
   repeat' split
   all_goals try exact .none
   rename_i d1 d2 p1 p2 _ r0 e3;exact .some (Tq (aW (hS.e ct hK h1 q1)) (aW (hS.e ct hK h2 q2)) p1 p2 (V1 hK e3))
  . exact .none
 case cmp op a b=>
  have h1:=(Cm.mk (aj hk).1);have h2:=(Cm.mk (aj (aj hk).2).1);have h3:=iT (aj (aj hk).2).2;unfold aP;dsimp only;split
  .
   rename_i r1 r2 g2 e1;obtain⟨s1,s2,g1,q1,q2,q3⟩:=g7 e1;cases q3
   repeat' split
   all_goals try exact .none
   rename_i d1 d2 p1 p2 _ r0 e3;exact .some (Tr (aW (hS.e ct hK h1 q1)) (aW (hS.e ct hK h2 q2)) p1 p2 (oF hK ct.room e3) h3)
  . exact .none
 case chain a ops xs=>
  obtain⟨k1,k2⟩:=aj hk;obtain⟨k3,k4⟩:=aj k2;obtain⟨k5,k6⟩:=aj k4;obtain⟨Ux,Uy,ops,rfl⟩:=two (dec (aj k6).1);obtain⟨x1,x2,xs,rfl⟩:=two (dec (aj k6).2);have h1:=Cm.mk k1;have h2:=cD (R:=Cm P c) .mk k3;have h3:=iT k5;unfold aP;dsimp only
  repeat' split
  all_goals try exact .none
  rename_i d1 g1 e1 _ b g2 e2;exact .some (Gr (aN hS ct hK h1 e1) (Jc hS ct hK h2 e2) h3)
 case neg a=>
  have h1:=Cm.mk hk;unfold aP;dsimp only;split
  . rename_i i g1 e1;exact .some (Zn (aN hS ct hK h1 e1) rfl Ub)
  . exact .none
 case not a=>
  have h1:=Cm.mk hk;unfold aP;dsimp only;split
  . rename_i b g1 e1;exact .some (TQ (hS.e ct hK h1 e1))
  . exact .none
 case and xs=>have h1:=cD (R:=Cm P c) .mk hk;exact λ_ _ h=>Ph hS ct hK h1 h
 case or xs=>have h1:=cD (R:=Cm P c) .mk hk;exact λ_ _ h=>Wt hS ct hK h1 h
 case ite a b d=>
  have h1:=(Cm.mk (aj hk).1);have h2:=(Cm.mk (aj (aj hk).2).1);have h3:=(Cm.mk (aj (aj hk).2).2);unfold aP;dsimp only;split
  . rename_i g1 e1;exact λ_ _ h=>TV (hS.t ct hK h1 e1) (hS.e ct hK h2 h)
  . rename_i g1 e1;exact λ_ _ h=>TX (hS.t ct hK h1 e1) (hS.e ct hK h3 h)
  . exact .none
 case tup xs=>
  have h1:=cD (R:=Cm P c) .mk hk;unfold aP;dsimp only
  repeat' split
  all_goals try exact .none
  rename_i ds g1 e1 hl;exact .some (TY (oO hS ct hK h1 e1) (jI _) hl)
 case lst xs=>
  have h1:=cD (R:=Cm P c) .mk hk;unfold aP;dsimp only
  repeat' split
  all_goals try exact .none
  rename_i ds g1 e1 hl;exact .some (T3 (oO hS ct hK h1 e1) (jI _) hl)
 case ix a b=>
  have h1:=(Cm.mk (aj hk).1);have h2:=(Cm.mk (aj hk).2);unfold aP;dsimp only;split
  .
   rename_i r1 r2 g2 e1;obtain⟨s1,s2,g1,q1,q2,q3⟩:=g7 e1;cases q3
   repeat' split
   all_goals try exact .none
   rename_i d1 d2 p1 p2 _ r0 e3;exact .some (Zm (aW (hS.e ct hK h1 q1)) (aW (hS.e ct hK h2 q2)) p1 p2 (V2 hK (by have:=ct.room.units;lia) e3) h2.z8)
  . exact .none
 case slice a lo hi=>
  have h1:=(Cm.mk (aj hk).1);have h2:=IW (R:=Cm P c) .mk (aj (aj hk).2).1;have h3:=IW (R:=Cm P c) .mk (aj (aj hk).2).2;unfold aP;dsimp only;split
  .
   rename_i r0 g1 e1;have q:=aW (hS.e ct hK h1 e1);split
   .
    rename_i i g2 e2;have q2:=wc hS ct hK h2 e2;split
    .
     rename_i j g3 e3;have q3:=wc hS ct hK h3 e3;split
     . rename_i l e4;rw[e4]at q;exact .some (BV hK q q2 q3)
     . rename_i l e4;rw[e4]at q;exact .some (BR hK q q2 q3)
     .
      split
      . rename_i e5;exact .some (BP (d:=.non) hK q q2 q3 e5)
      . exact .none
    . exact .none
   . exact .none
  . exact .none
 case call i xs=>
  obtain⟨k1,k2⟩:=aj hk;obtain⟨k3,k4⟩:=aj k2;obtain⟨fi,h1,h2⟩:=tL k1;cases xs with
  |nil=>cases (aj k4).2
  |cons x xs=>
  have h3:=dec k3;have h4:=cD (R:=Cm P c) .mk (aj k4).1;show Yh X z (.Call (.Name (v9 P i) (kid t 0).pos) (iC (cO P n c) t 1 (x::xs)) [] t.pos) g _;rw[<- h2]at h3 ⊢
  unfold aP;dsimp only
  repeat' split
  all_goals try exact .none
  rename_i fx k' ct' uh _ rs g1 e1;exact λ_ _ h=>Jf hS ct hK h1 (hF _ _ _ h1 uh) h3 h4 (oR hS ct hK h4 e1) h
 case blt b xs=>
  cases xs with
  |nil=>cases (aj (aj hk).2).2
  |cons x xs=>
  have h2:=(aJ (aj hk).1).1;have h3:=(aJ (aj hk).1).2;have h4:=cD (R:=Cm P c) .mk (aj (aj hk).2).1;unfold aP;dsimp only
  repeat' split
  all_goals try exact .none
  rename_i rs g1 e1 _ ds e2 _ r0 e3;have ha:=oR hS ct hK h4 e1;have bU:=V4 hK ct.calm (by have:=ct.room.units;lia) e3
  have b9:=(Cm.mk (aj (aj (aj hk).2).1).1).star (env:=X.env) (iC (cO P n c) t 2 xs);have jh:=(cD .mk (aj (aj (aj hk).2).1).2).plain (env:=X.env) (pos:=t.pos);cases b <;> first |exact .some (FN ha e2 bU (ct.lz _ h3) (ct.md.bn _ h2) rfl ⋯ ⋯ b9 jh) |exact .some (Bs ha e2 bU (ct.lz _ h3) (ct.md.bn _ h2) rfl ⋯ ⋯ b9 jh)
 case pB a n'=>
  have h1:=Cm.mk (aj (aj hk).2).1;have h2:=(aJ (aj hk).1).1;have h3:=(aJ (aj hk).1).2;have h4:=(aJ (aj (aj (aj hk).2).2).2).1;have h5:=(aJ (aj (aj (aj hk).2).2).2).2;have h7:=AW.mp (aj (aj (aj hk).2).2).1;unfold aP;dsimp only
  repeat' split
  all_goals try exact .none
  rename_i r0 g1 e1 _ d e2;obtain⟨t1,_⟩:=Ji ct (Dh.cons (pos:=(kid t 2).pos) h4 h5 rfl h7 .nil);cases t1 with
  |cons t1 _=>exact .some (Uh hK (aW (hS.e ct hK h1 e1)) e2 (λ_ _ _ p=>vY p h7) (ct.lz _ h3) (ct.md.bn _ h2) rfl t1.gl t1.mg t1.bt t1.nn t1.db (h1.star _))
 case De a ns=>
  have h1:=Cm.mk (aj (aj hk).2).1;have h2:=(aJ (aj hk).1).1;have h3:=(aJ (aj hk).1).2;have h4:=dec (aj (aj (aj hk).2).2).1;have h5:=Wg (t:=kid t 2) (i:=0) (aj (aj (aj hk).2).2).2;unfold aP;dsimp only
  repeat' split
  all_goals try exact .none
  rename_i r0 g1 e1 _ d e2;obtain⟨t1,t2⟩:=Ji ct h5;exact .some (Mu hK (aW (hS.e ct hK h1 e1)) e2 t1 ⋯ (λ_ _ _ p=>qX p t2) (ct.lz _ h3) (ct.md.bn _ h2) rfl (h1.star _))
 case emp=>exact .some (U7)
 case peek xe=>
  have h1:=Cm.mk (aj hk).2;unfold aP;dsimp only;split
  .
   rename_i hb;have hb:=List.isEmpty_iff.mp hb;split
   .
    rename_i d g1 e1;split
    . rename_i hf;exact .some (Nv hb hf (hS.e ct hK h1 (by rw[hb];exact e1)))
    . exact .none
   .
    rename_i l g1 e1;split
    . rename_i hf;exact .some (Hr hb hf (hS.e ct hK h1 (by rw[hb];exact e1)))
    . exact .none
   . exact .none
  . exact .none
 case stk=>exact .none
 case qU a l=>
  have h1:=Cm.mk (aj (aj hk).2).1;have h2:=(aJ (aj hk).1).1;have h3:=(aJ (aj hk).1).2;have h4:=dec (aj (aj (aj hk).2).2).2;have h5:=dec (aj (aj (aj hk).2).2).1;unfold aP;dsimp only;obtain⟨db,cv,hcv,hn,hC⟩:=ct.md.ups _ _ h4;have cls:∃w:V,(∀u,RelV w u->u=cv)/\PE X (.Name ((yC (kid t 2)).getD Str.empty) (kid t 2).pos) (tC w):=by
   rcases hcv with ⟨m1,D,rfl⟩ |⟨m1,m2,m3,n,rfl⟩
   . exact#[.ref D,λu r=>r,rS (ct.lz _ h5) m1 rfl db]
   . exact#[.ty n,λu r=>r,rT (ct.lz _ h5) (ct.md.bn _ m1) m3 rfl m2 db]
  obtain⟨w,hw,pw⟩:=cls;split
  .
   rename_i r0 g1 e1;split
   .
    rename_i C e2;split
    . rename_i b e3;exact .some (Ho hK (aW (hS.e ct hK h1 e1)) e2 (λ_ _ _ _=>hC C b e3) (ct.lz _ h3) (ct.md.bn _ h2) rfl hw pw (h1.star _))
    . exact .none
   . rename_i e2;exact .some (Ho hK (aW (hS.e ct hK h1 e1)) e2 (λ_ _ _ _=>hn) (ct.lz _ h3) (ct.md.bn _ h2) rfl hw pw (h1.star _))
   . exact .none
  . exact .none
 case oz i ir ca xb=>
  obtain⟨g1,k1⟩:=aj hk;obtain⟨g2,k2⟩:=aj k1;obtain⟨g3,k3⟩:=aj k2;obtain⟨h6,k5⟩:=aj k3;obtain⟨fi,h1,h2⟩:=tL g1;unfold refK at h6;rw[h1]at h6;have h3:=(Bool.or_eq_true_iff.mp g2).imp (λh=>(#[dec (aj h).1,dec (aj h).2]:_/\_)) yF
  have h4:=dec (aj g3).1;have h5:=(aj g3).2;have h7:=(aj k5).1;have h8:=(aj (aj k5).2).1;have h9:=Cm.mk (aj (aj k5).2).2;unfold aP;dsimp only
  repeat' split
  all_goals try exact .none
  rename_i fx k' e1 _ ci Km e2 _ C e3 _ r0 g3 e4 _ r' e5;rcases h3 with ⟨rfl,h3⟩ |rfl
  . exact .some (Px hS hX hF ct hK h1 h2 h3 h4 h5 h6 h7 h8 h9 e1 e2 e3 e4 e5)
  . exact .some (nomatch e3)
 case comp n' kk T it co xe=>
  obtain⟨rfl,h1,h2,h3,h4,h5,h6,h7,h8⟩:=wj hk;unfold aP;dsimp only;split
  . rename_i acc g1 e1;obtain⟨ao,g1,gE,w1,w2,w3,w4,w5,rfl⟩:=wg hS ct hK h3 h4 h5 h6 h7 h8 e1;exact .some (Mm (gZ ct h1) ct.calm (by rw[ct.N];exact fh h2) w1 w2 w3 w4 w5 λy=>h6.folded y)
  . exact .none
 case qR n' k T it ks xv=>
  obtain⟨u1,a1⟩:=aj hk;obtain⟨u2,a2⟩:=aj a1;obtain⟨u3,a3⟩:=aj a2;obtain⟨u4,a4⟩:=aj a3;obtain⟨u5,a5⟩:=aj a4;obtain rfl:=dec u1;have h1:=(aj u2).1;have h2:=(aj (aj u2).2).1;have h3:=gY (aj (aj u2).2).2;have h4:=ku (t:=kid t 2) u3;have h5:=tO u4;have h6:=kr (R:=Cm P c) .mk u5;have h7:=cD (R:=Cm P (d9 c t)) .mk (aj a5).1;have h8:=(Cm.mk (aj a5).2);unfold aP;dsimp only;split
  . rename_i p g1 e1;obtain⟨ao,g1,gE,w1,w2,w3,w4,rfl⟩:=Dj hS ct hK h3 h4 h5 h6 h7 h8 e1;exact .some (Hx (gZ ct h1) ct.calm ct.room.Sj (by rw[ct.N];exact fh h2) w1 w2 w3 w4 λy=>h6.folded y)
  . exact .none
 case iH n' kk T1 pO c1 T it co xe=>
  obtain⟨rfl,h1,h2,h3,h4,h4',h5,h5',h6,h7,h8,h9,h10⟩:=rq hk;unfold aP;dsimp only;split
  . rename_i acc g1 e1;obtain⟨ao,g1,gE,w1,w2,w3,w4,w5,w6,w7,rfl⟩:=rm hS ct hK h3 h4 h4' h5 h5' h6 h7 h8 h9 h10 e1;exact .some (Hu (gZ ct h1) ct.calm (by rw[ct.N];exact fh h2) w1 w2 w3 w4 w5 w6 w7 (λy=>h6.folded y) λb y=>h8.folded y)
  . exact .none
 case jG a b=>
  have h1:=(Cm.mk (aj (aj hk).2).1);have h1':=(Cm.mk (aj (aj hk).2).2);have h2:=(aJ (aj (aj hk).1).1).1;have h3:=(aJ (aj (aj hk).1).1).2;have h4:=(aJ (aj (aj hk).1).2).1;have h5:=(aJ (aj (aj hk).1).2).2;unfold aP;dsimp only
  repeat' split
  all_goals try exact .none
  rename_i c0 g1 e1 _ j g2 e2 hj;obtain⟨hc,hj,hl⟩:=hj;simp only[Kr,dA,eQ]at hj hc;exact .some (Gx (rg_2 (cB (aN hS ct hK h1 e1) (cB (aN hS ct hK h1' e2) dc (h1'.star _)) (h1.star _)) (ct.lz _ h3) (ct.md.bn _ h2) (by rw[h1.star,h1'.star];rfl) (h1'.star _)) ct.calm (ct.lz _ h5) (ct.md.bn _ h4) rfl #[hc.1,hc.2,hj.1,hj.2] hl)
 case qT a=>
  have h1:=(Cm.mk (aj hk).2);have h2:=(aJ (aj hk).1).1;have h3:=(aJ (aj hk).1).2;unfold aP;dsimp only
  repeat' split
  all_goals try exact .none
  rename_i r0 g1 e1 _ l e2 _ ns e4 hl;exact .some (xU (yL (aW (hS.e ct hK h1 e1)) e2 (h1.star _)) e2 e4 hl (ct.lz _ h3) (ct.md.bn _ h2) (h1.star _))
 case sset a=>
  have h1:=(Cm.mk (aj hk).2);have h2:=(aJ (aj (aj hk).1).1).1;have h3:=(aJ (aj (aj hk).1).1).2;have h4:=(aJ (aj (aj hk).1).2).1;have h5:=(aJ (aj (aj hk).1).2).2;unfold aP;dsimp only
  repeat' split
  all_goals try exact .none
  . rename_i r0 g1 e1 _ l e2 _ ns e3 hl;exact .some (Im ct.calm hK (yL (aW (hS.e ct hK h1 e1)) e2 (h1.star _)) e2 e3 hl (ct.lz _ h3) (ct.md.bn _ h2) (ct.lz _ h5) (ct.md.bn _ h4) (h1.star _))
 case meth m o x=>
  have h1:=Cm.mk (aj (aj hk).2).1;have h2:=Cm.mk (aj (aj hk).2).2;have h4:=(aj hk).1;unfold aP;dsimp only
  repeat' split
  all_goals try exact .none
  rename_i r0 g1 e1 _ d e2 _ l e3 _ r1 g2 e4 _ _ d0 d1 p0 p1 _ x e5;obtain⟨q1,q2,q3⟩:=Oo e3 (Oq e2 p0);exact .some (Ng hK q1 q2 q3 (aW (hS.e ct hK h1 e1)) e2 e3 (yL (aW (hS.e ct hK h2 e4)) p1 (h2.star _)) p0 p1 (V5 hK ct.room e5) (h1.attr _) h4 (h2.star _))
 case vU l=>
  have h1:=Wd (R:=Cm P c) .mk hk;unfold aP;dsimp only;split
  .
   split
   . rename_i e1;exact .some (MP (yK hS ct hK h1 e1))
   . exact .none
  . exact .none
 case append i x=>
  obtain⟨h5,hk⟩:=aj hk;obtain⟨h1,h2,h3⟩:=oJ (aj hk).1;have h4:=Cm.mk (aj hk).2;obtain⟨hd,bU⟩:=cC h3;unfold aP;dsimp only
  repeat' split
  all_goals try exact .none
  rename_i l0 e0 _ d g1 e1 _ l e2 hl;exact .some (By (by rw[ct.N];exact h1) (ct.vis h2) hd bU e0 (cB (aN hS ct hK h4 e1) dc (h4.star _)) e2 hl rfl h5 (h4.star _))
 case extend i x=>
  obtain⟨h5,hk⟩:=aj hk;obtain⟨h1,h2,h3⟩:=oJ (aj hk).1;have h4:=Cm.mk (aj hk).2;obtain⟨hd,bU⟩:=cC h3;unfold aP;dsimp only
  repeat' split
  all_goals try exact .none
  rename_i l0 e0 _ d g1 e1 _ l e2 hl;exact .some (BX (by rw[ct.N];exact h1) (ct.vis h2) hd bU e0 (cB (aN hS ct hK h4 e1) dc (h4.star _)) e2 hl rfl h5 (h4.star _))
 case lq i x=>
  obtain⟨h5,hk⟩:=aj hk;obtain⟨h1,h2,h3⟩:=oJ (aj hk).1;have h4:=Cm.mk (aj hk).2;obtain⟨hd,bU⟩:=cC h3;unfold aP;dsimp only
  repeat' split
  all_goals try exact .none
  rename_i l0 e0 _ j g1 e1 _ l e2 _ n e3 _ d e4 hl;exact .some (Gj (by rw[ct.N];exact h1) (ct.vis h2) hd bU e0 (cB (aN hS ct hK h4 e1) dc (h4.star _)) e2 e3 e4 hl rfl h5 (h4.star _))
 all_goals exact Bool.noConfusion (show false=true from hk)
theorem Jj(hS:fX P rn)(hX:pU P rn)(hF:iK P fns)(ct:aM P k X c)(hK:z.K=X.K)(hc:Cm P c e x)(h:aP rn z.bor k fns x g=!(r,g')):aA X z e g r g':=Py hS hX hF ct hK hc r g' h
end
section
theorem Jk(hS:fX P rn)(ct:aM P k X c)(hK:z.K=X.K)(hc:Cm P c e x)(h:stepT rn z.bor k x g=!(b,g')):bN X z e g b g':=by
 have plain:(match rn.e z.bor k x g with |!(r,g1)=>(match pk (norm r) g1 with |some d=>(match Mr d with |some c=>!(c,g1) |none=>none) |none=>none) |none=>none)=!(b,g')->
   (∀whole,isTrue e X.env whole=(do let v <- whole;standAt e.pos;holding [v] (truthy v)))->bN X z e g b g':=by
  intro h he
  repeat' split at h
  all_goals try contradiction
  rename_i r g1 e1 _ d e2 _ b' e3;symm;exact Gw hK (aW (hS.e ct hK hc e1)) e2 e3 he
 obtain⟨n,t,rfl,hk⟩:=hc.pP;cases x
 case cmp op a b=>
  have h1:=Cm.mk (aj hk).1;have h2:=Cm.mk (aj (aj hk).2).1;have h3:=iT (aj (aj hk).2).2;unfold stepT at h;dsimp only at h;split at h
  .
   rename_i r1 r2 g2 e1;obtain⟨s1,s2,g1,q1,q2,q3⟩:=g7 e1;cases q3
   repeat' split at h
   all_goals try contradiction
   rename_i d1 d2 p1 p2 _ r0 e3;symm;exact Tt (aW (hS.e ct hK h1 q1)) (aW (hS.e ct hK h2 q2)) p1 p2 (oF hK ct.room e3) h3
  . symm
 case chain a ops xs=>
  obtain⟨k1,k2⟩:=aj hk;obtain⟨k3,k4⟩:=aj k2;obtain⟨k5,k6⟩:=aj k4;obtain⟨Ux,Uy,ops,rfl⟩:=two (dec (aj k6).1);obtain⟨x1,x2,xs,rfl⟩:=two (dec (aj k6).2);have h1:=Cm.mk k1;have h2:=cD (R:=Cm P c) .mk k3;have h3:=iT k5;unfold stepT at h;dsimp only at h;split at h
  . rename_i d1 g1 e1;exact Gs (aN hS ct hK h1 e1) (Jc hS ct hK h2 h) h3
  . symm
 case not a=>
  have h1:=Cm.mk hk;unfold stepT at h;dsimp only at h;split at h
  . rename_i b' g1 e1;symm;exact Tv (hS.t ct hK h1 e1)
  . symm
 case and xs=>exact (Jd hS ct hK (cD .mk hk) h).tr
 case or xs=>exact (Pj hS ct hK (cD .mk hk) h).tr
 case ite a b d=>symm
 case val d=>exact plain h (by rw[show tQ P (cO P n) c (.val d) t=oM d t from rfl];unfold oM;split <;> exact λ_=>rfl)
 case peek xe=>exact plain h (by rcases oN (aj hk).1 with ⟨x,p,a,es,pos,e⟩ |⟨a,b,s,p,e⟩ <;> (rw[show tQ P (cO P n) c (.peek xe) t=cO P n c xe t from rfl,e];exact λ_=>rfl))
 all_goals first |exact plain h λ_=>rfl |exact Bool.noConfusion (show false=true from hk)
theorem mz(ct:aM P k X c):PassesOwn (~~~2) X.A X.env X.xe:=by rw[ct.xe];exact PassesOwn.never
theorem oV(hb:∀{g g':G}{f:Fl},b g=!(f,g')->dG X z body g f g'):∀{ao:List D}{g g':G}{f:Fl},cg T b ao g=!(f,g')->eH X z body T ao g f g'
 | [],_,_,_,h=>by symm;exact .nil
 |d::l,_,_,_,h=>by
  unfold cg at h;split at h
  . symm
  .
   rename_i g0 e0;split at h
   . symm
   . rename_i g1 e1;exact .next e0 (hb e1) (oV hb h)
   . rename_i g1 e1;exact .cont e0 (hb e1) (oV hb h)
   . rename_i g1 e1;symm;exact .brk e0 (hb e1)
   . rename_i g1 e1;symm;exact .ret e0 (hb e1)
theorem yM(ht:∀{g g':G}{v:Bool},t g=!(v,g')->bN X z ce g v g')(hb:∀{g g':G}{f:Fl},b g=!(f,g')->dG X z body g f g') :
  ∀{n:Nat}{g g':G}{f:Fl},Oi t b n g=!(f,g')->lK X z ce body n g f g'
 | 0,_,_,_,h=>by symm
 |n+1,_,_,_,h=>by
  unfold Oi at h;split at h
  . symm
  . rename_i g1 e1;symm;exact .done (ht e1)
  .
   rename_i g1 e1;split at h
   . symm
   . rename_i g2 e2;exact .next (ht e1) (hb e2) (yM ht hb h)
   . rename_i g2 e2;exact .cont (ht e1) (hb e2) (yM ht hb h)
   . rename_i g2 e2;symm;exact .brk (ht e1) (hb e2)
   . rename_i g2 e2;symm;exact .ret (ht e1) (hb e2)
theorem gR(h:Cm P c e x)(hn:yE (λ_ _=>true) e=false)(t:Option Expr)(l:Nat)(env:Env):swapsWith e t l env=pure false:=by have hs:=h.Ky;cases e <;> first |rfl |exact Bool.noConfusion (show true=false from hn) |exact Bool.noConfusion (show false=true from hs)
theorem oW(ct:aM P k X c)(fB:c.df=true)(hl:gQ c y=true):swapsWith (.ListComp a b s p) (!(.Name y py)) l X.env=pure (X6 c y py p s):=by
 show (pure (X.env.blockKind==.function&&X.env.kindOf y==some .local&&py.line==(Expr.ListComp a b s p).pos.line&&(not ((s.names.any λ(n,k)=>n==y&&(k==.local||k==.cell))))):Sem Bool)=_
 rw[ct.bk fB];have e:(X.env.kindOf y==some .local)=(c.sc.names.lookup y==some .local):=by
  unfold gQ at hl;split at hl
  . rename_i e;rw[e];show (X.env.scope.names.lookup y==_)=_;rw[ct.lcl y e]
  . rename_i e;rw[e];show (X.env.scope.names.lookup y==_)=_;rw[ct.cel fB y e]
  . cases hl
 rw[e];rfl
theorem rz(ct:aM P k X c)(fB:c.df=true)(hl:gQ c y=true)(h:Cm P c e x)(hn:yE (λs p=>X6 c y py p s) e=false):swapsWith e (!(.Name y py)) l X.env=pure false:=by have hs:=h.Ky;cases e <;> first |rfl |exact Bool.noConfusion (show true=false from hn) |exact Bool.noConfusion (show false=true from hs) | (rw[oW ct fB hl];exact congrArg pure hn)
theorem Ww{x:Str}{pn eO:Pos}{ix:Expr}{xi:Ex}{X:Cx}(h:Cm P c ix xi):∀v,assign (.Subscript (.Name x pn) ix eO) X.env v=(do
   let ov <- holding [v] (eval (.Name x pn) X.env)
   let iv <- holding [v,ov] (eval ix X.env)
   standAt eO
   holding [v,ov,iv] (setItem ov iv v)
   release [v,ov,iv] []):=by
 have hs:=h.Ky;cases ix <;> first |exact λ_=>rfl |exact Bool.noConfusion (show false=true from hs)
theorem Wx(h:Cm P c e x):swappedStores [.Subscript (.Name y pn) ix eO] e env=pure none:=by cases e <;> first |rfl |exact Bool.noConfusion (show false=true from hs)
theorem oY(hS:fX P rn)(ct:aM P k X c)(fB:c.df=true)(hK:z.K=X.K)(hc:yJ P c s x)(h:aK rn z.bor k x g=!(f,g')):eF X z s g f g':=by
 obtain⟨mm,n,t,rfl,hk⟩:=hc.pP;cases x
 case ret x=>
  have h1:=Cm.mk hk;unfold aK at h;dsimp only at h;split at h
  . rename_i r g1 e1;symm;exact Um (hS.e ct hK h1 e1)
  . symm
 case expr x=>
  have h1:=Cm.mk (aj hk).1;have h2:=noC (aj hk).2;unfold aK at h;dsimp only at h;split at h
  . rename_i r g1 e1;symm;exact L7 (hS.e ct hK h1 e1) (gR h1 h2 _ _ _)
  . symm
 case set i x=>
  have h1:=dec (aj (aj hk).1).1;have h2:=(aj (aj hk).1).2;have h3:=Cm.mk (aj (aj hk).2).1;have h4:=iT (aj (aj hk).2).2;have nm:=ct.nm h1 h2;have hsw:swapsWith (cO P (mm+1) c x (aR t 0)) (!(.Name (Ev.nm c i) (aR t 1).pos)) t.pos.line X.env=pure false:=rz ct fB h2 h3 h4;unfold aK at h;dsimp only at h;split at h
  . symm
  .
   rename_i hb;split at h
   .
    rename_i l g1 e1;split at h
    . rename_i hl;symm;exact Ma nm.nd nm.ix nm.lc (hS.e ct hK h3 e1) hl hsw nm.fn hb
    . symm
   .
    rename_i r g1 _ e1;split at h
    . rename_i d g2 e2;symm;exact L8 nm.nd nm.ix nm.lc (Jb (hS.e ct hK h3 e1) e2) hsw nm.fn hb
    . symm
   . symm
 case setC i x=>
  obtain⟨g1,g2⟩:=aj hk;obtain⟨h2,g4⟩:=aj g2;obtain⟨h3,g6⟩:=aj g4;have h1:=dec g1;cases x
  case comp n' kk T it co xe=>
   have hl:c.sc.names.lookup (Ev.nm c i)=some .local:=by unfold X6 at h2;simp only[dA]at h2;exact eq_of_beq h2.1.1
   have b9:gQ c (Ev.nm c i)=true:=by unfold gQ;rw[hl]
   have nm:=ct.nm h1 b9;unfold aK at h;dsimp only at h;split at h
   . symm
   .
    rename_i hb
    repeat' split at h
    all_goals try contradiction
    rename_i acc g1 e1 hi;symm;obtain⟨rfl,k1,k2,k3,k4,k5,k6,k7,k8⟩:=wj h3
    . obtain⟨ao,g1,gE,w1,w2,w3,w4,w5,rfl⟩:=wg hS ct hK k3 k4 k5 k6 k7 k8 e1;exact Mp (gZ ct k1) ct.calm (by rw[ct.N];exact fh k2) w1 w2 w3 w4 w5 nm.nd nm.ix (ct.lcl _ hl) hb hi (by rw[oW ct fB b9,h2]) λww=>k6.folded ww
  case iH n' kk T1 pO c1 T it co xe=>
   have hl:c.sc.names.lookup (Ev.nm c i)=some .local:=by unfold X6 at h2;simp only[dA]at h2;exact eq_of_beq h2.1.1
   have b9:gQ c (Ev.nm c i)=true:=by unfold gQ;rw[hl]
   have nm:=ct.nm h1 b9;unfold aK at h;dsimp only at h;split at h
   . symm
   .
    rename_i hb
    repeat' split at h
    all_goals try contradiction
    rename_i acc g1 e1 hi;symm;obtain⟨rfl,k1,k2,k3,k4,k4',k5,k5',k6,k7,k8,k9,k10⟩:=rq h3
    . obtain⟨ao,g1,gE,w1,w2,w3,w4,w5,w6,w7,rfl⟩:=rm hS ct hK k3 k4 k4' k5 k5' k6 k7 k8 k9 k10 e1;exact Hv (gZ ct k1) ct.calm (by rw[ct.N];exact fh k2) w1 w2 w3 w4 w5 w6 w7 nm.nd nm.ix (ct.lcl _ hl) hb hi (by rw[oW ct fB b9,h2]) (λww=>k6.folded ww) λb ww=>k8.folded ww
  all_goals exact Bool.noConfusion (show false=true from g6)
 case item i xj x=>
  have h1:=(oJ (aj hk).1).1;have h2:=(oJ (aj hk).1).2.1;have h3:=(oJ (aj hk).1).2.2;have h4:=Cm.mk (aj (aj hk).2).1;have h5:=Cm.mk (aj (aj (aj hk).2).2).1;have h6:=noC (aj (aj (aj hk).2).2).2;obtain⟨hd,bU⟩:=cC h3;unfold aK at h;dsimp only at h
  repeat' split at h
  all_goals try contradiction
  rename_i d g1 e1 _ l0 e2 _ n g2 e3 _ l e4 _ m e5;symm;have hsw:=gR h5 h6 (!(.Subscript (.Name (Ev.nm c i) (kid (aR t 1) 0).pos) (cO P (mm+1) c xj (kid (aR t 1) 1)) (aR t 1).pos)) t.pos.line X.env;have b9:swappedStores [.Subscript (.Name (Ev.nm c i) (kid (aR t 1) 0).pos) (cO P (mm+1) c xj (kid (aR t 1) 1)) (aR t 1).pos] (cO P (mm+1) c x (aR t 0)) X.env=pure none:=Wx h5;exact Mf (by rw[ct.N];exact h1) (ct.vis h2) hd bU (aN hS ct hK h5 e1) e2 (aN hS ct hK h4 e3) e4 e5 (Ww h4) hsw b9 rfl
 case aug i op x=>
  have h1:=dec (aj (aj hk).1).1;have h2:=(aj (aj hk).1).2;have h3:=Cm.mk (aj hk).2;have nm:=ct.nm h1 h2;unfold aK at h;dsimp only at h;split at h
  . symm
  .
   rename_i hb;split at h
   .
    rename_i d1 e1
    repeat' split at h
    all_goals try contradiction
    rename_i d2 g1 e2 _ d e3;symm;exact Uz nm hb (aN hS ct hK h3 e2) e1 (Om e3)
   .
    rename_i e1;split at h
    .
     rename_i ho;subst ho
     repeat' split at h
     all_goals try contradiction
     rename_i m g1 e2 _ l e3 hl;symm;exact NB nm (aN hS ct hK h3 e2) e1 e3 hl
    . symm
   . symm
 case ite e a b=>
  have h1:=Cm.mk (aj hk).1;have h2:=pS.mk (aj (aj hk).2).1;have h3:=pS.mk (aj (aj hk).2).2;unfold aK at h;dsimp only at h;split at h
  . rename_i g1 e1;exact QT (hS.t ct hK h1 e1) (by rw[hV rfl];exact hS.b ct fB hK h2 h)
  . rename_i g1 e1;exact QT (hS.t ct hK h1 e1) (by rw[fN mM];exact hS.b ct fB hK h3 h)
  . symm
 case loop T it b=>
  have h1:=ku (t:=aR t 0) (aj hk).1;have h2:=kr (R:=Cm P c) .mk (aj (aj hk).2).1;have h3:=pS.mk (aj (aj hk).2).2;unfold aK at h;dsimp only at h;split at h
  . symm
  .
   rename_i hb;split at h
   . rename_i ao g1 e1;exact Uu (mz ct) ct.calm (kB hS ct hK (qY h1) h2 e1) (qZ ct hK h1 λi hi hm=>hb (by rw[List.any_eq_true];exact#[i,hi,kS hm])) (oV (λe=>hS.b ct fB hK h3 e) h) λy=>h2.folded y
   . symm
 case «while» e b=>have h1:=Cm.mk (aj hk).1;have h2:=pS.mk (aj hk).2;exact Gv (mz ct) (yM (λe=>hS.t ct hK h1 e) (λe=>hS.b ct fB hK h2 e) h)
 case raise i x=>symm
 case stuck=>symm
 all_goals exact Bool.noConfusion (show false=true from hk)
theorem Jl{l:List D}{k:Nk.Pn}(h:pnD l=!k):Nk.dT k.1=l:=by
 unfold pnD at h;split at h
 .
  rename_i a ha;split at h
  . symm;exact Ih ha
  . symm
 . symm
theorem wk{g:G}{j:Nat}{k:Nk.Pn}(h:zY g j=!k):g[j]?=!(.dat (.tup (Nk.dT k.1))):=by
 unfold zY at h;split at h
 . rename_i l e;rw[e,Jl h]
 . symm
theorem nm_at{c:Ct}{i:Nat}{y:Str}(h:c.N[i]?=!y):nm c i=y:=by unfold nm;rw[i6,h];rfl
theorem lA(ct:aM P k X c){i:Nat}(h:iU c i=true):Vr X (nm c i) i:=by have q:=oJ h;exact#[by rw[ct.N];exact q.1,ct.vis q.2.1,(cC q.2.2).1,(cC q.2.2).2]
theorem g8{e:Expr}{j:Nat}(h:Cm P c e (.slot j)):(∃p,e=.Name (nm c j) p)/\iU c j=true:=by obtain⟨n,t,rfl,q⟩:=h.pP;exact#[#[_,rfl],q]
theorem Pz(ct:aM P k X c){e:Expr}{i:Int}(h:Cm P c e (.val (.int i))):PE X e (tC (.int i)):=by
 obtain⟨n,t,rfl,q⟩:=h.pP;have q:okV P c (.int i) t=true:=q;show PE X (oM (.int i) t) _;unfold okV at q;unfold oM;cases e:yC t with
 |some y=>rw[e]at q;obtain⟨hd,v,u,q1,q2,q3⟩:=ct.md.ct _ _ (Ja (aj q).2);cases q3 [] K0;exact rS (ct.lz _ (dec (aj q).1)) q1 q2 hd
 |none=>exact Ep
theorem kD(hS:fX P rn)(ct:aM P k X c)(hK:z.K=X.K){e:Expr}{x:Ex}{g g':G}{r:R}(h:Cm P c e x)(q:rn.e z.bor k x g=!(r,g')):Vx X z e g r g':=λD u=>hS.e (z:=zU z D u) ct hK h q
theorem PB{il j:Nat}{e:Ex}(h:dmX il e=!j):e=.lq il (.slot j):=by
 unfold dmX at h;split at h
 .
  split at h
  .
   rename_i hi;split at h
   . symm;rw[hi]
   . symm
  . symm
 . symm
theorem Rl{il:Nat}{l:List Ex}(h:(match l with | [.slot i]=>decide (i=il) |_=>false)=true):l=[.slot il]:=by
 split at h
 . rw[dec h]
 . symm
theorem Jm{il:Nat}{e:Ex}(h:V0 il e=true):e=.ix (.blt .list [.slot il]) ↥0:=by
 unfold V0 at h;split at h
 .
  obtain⟨h1,h2⟩:=aj h;split at h1
  .
   split at h2
   . rw[Rl h1,dec h2]
   . cases h2
  . cases h1
 . symm
theorem Dk{il:Nat}{e:Ex}(h:Ir il e=true):e=.blt .len [.slot il]:=by
 unfold Ir at h;split at h
 . rw[Rl h]
 . symm
theorem Rm(ct:aM P k X c)(hK:z.K=X.K){il:Nat}{e:Expr}{x:Ex}{ks:List Nk.Pn}{g:G}{b:Bool}(vy:iU c il=true)(h:Cm P c e x)(q:dmC il x ks g=!b):DC X z il e ks g b:=by
 have hu:X.A.units+6<cLine:=by have:=ct.room.units;lia
 unfold dmC at q;split at q
 .
  split at q
  .
   rename_i hi;subst hi;split at q
   . rename_i kk hk;cases q;obtain⟨n,t,rfl,w⟩:=h.pP;obtain⟨⟨p1,e1⟩,v1⟩:=g8 (Cm.mk (aj w).1);obtain⟨⟨p2,e2⟩,v2⟩:=g8 (Cm.mk (aj (aj w).2).1);show DC X z _ (.Compare _ [.In] [_] _) _ _ _;rw[e1,e2];exact dc_in hu hK (lA ct vy) (lA ct v1) (wk hk)
   . cases q
  . cases q
 .
  split at q
  . rename_i hi;subst hi;cases q;obtain⟨n,t,rfl,w⟩:=h.pP;obtain⟨⟨p1,e1⟩,v1⟩:=g8 (Cm.mk (aj w).1);obtain⟨n2,t2,e2,_⟩:=(Cm.mk (aj (aj w).2).1).pP;show DC X z _ (.Compare _ [.NotEq] [_] _) _ _ _;rw[e1,e2];exact dc_ne hu (lA ct vy)
  . cases q
 . cases q
theorem Wy(ct:aM P k X c)(hK:z.K=X.K){il:Nat}{e:Expr}{x:Ex}{body:List Stmt}{f:List Nk.Pn->G->Option (List Nk.Pn×G)}(vy:iU c il=true)(h:Cm P c e x)(hf:∀{ks g ks' g'},f ks g=!(ks',g')->DB X z il body ks g ks' g'):∀{n:Nat}{ks ks':List Nk.Pn}{g g':G},whD il x f n ks g=!(ks',g')->DW X z il e body n ks g ks' g':=by
 intro n
 induction n with
 |zero=>intro ks ks' g g' q;cases q
 |succ n ih=>
  intro ks ks' g g' q;unfold whD at q;split at q
  .
   rename_i hc;split at q
   . rename_i k1 g1 hb;exact .next (Rm ct hK vy h hc) (hf hb) (ih q)
   . cases q
  . rename_i hc;cases q;exact .done (Rm ct hK vy h hc)
  . cases q
theorem Wz{il:Nat}{T:Tg}{body:List Stmt}{f:List Nk.Pn->G->Option (List Nk.Pn×G)}(hf:∀{ks g ks' g'},f ks g=!(ks',g')->DB X z il body ks g ks' g'):∀{ao:List D}{ks ks':List Nk.Pn}{g g':G},lpD T f ao ks g=!(ks',g')->DL X z il body T ao ks g ks' g':=by
 intro ao
 induction ao with
 |nil=>intro ks ks' g g' q;cases q;exact .nil
 |cons d l ih=>
  intro ks ks' g g' q;unfold lpD at q;split at q
  .
   rename_i g0 h0;split at q
   . rename_i k1 g1 hb;exact .next h0 (hf hb) (ih q)
   . cases q
  . cases q
theorem WD(hS:fX P rn)(ct:aM P k X c)(fB:c.df=true)(hK:z.K=X.K){il:Nat}(vy:iU c il=true){f:List Sm->List Nk.Pn->G->Option (List Nk.Pn×G)}(hf:∀{d8 b ks g ks' g'},pS P c d8 b->f b ks g=!(ks',g')->DB X z il d8 ks g ks' g')
  {st:Stmt}{s:Sm}{ks ks':List Nk.Pn}{g g':G} (h:yJ P c st s) (q:X5 rn z.bor k il f s ks g=!(ks',g')):DT X z il st ks g ks' g':=by
 have hu:X.A.units+6<cLine:=by have:=ct.room.units;lia
 obtain⟨mm,n,t,rfl,hk⟩:=h.pP;cases s
 case expr x=>
  have h1:=Cm.mk (aj hk).1;have h2:=noC (aj hk).2;have hsw:=gR h1 h2 none t.pos.line X.env;unfold X5 at q;dsimp only at q;split at q
  .
   rename_i j hj;have ex:=PB hj;subst ex;split at q
   .
    rename_i kk hkk;split at q
    .
     rename_i hin;cases q;obtain⟨n2,t2,e2,w⟩:=h1.pP;obtain⟨⟨p1,e1⟩,v1⟩:=g8 (Cm.mk (aj (aj w).2).2);show DT X z il (.Expr _ _) _ _ _ _;rw[e2]at hsw ⊢
     have e3:tQ P (cO P n2) c (.lq il (.slot j)) t2=.Call (.Attribute (.Name (nm c il) (kid (kid t2 0) 0).pos) "pop" (kid t2 0).pos) [.Name (nm c j) p1] [] t2.pos:=by show Expr.Call _ [cO P n2 c (.slot j) (kid t2 1)] [] _=_;rw[e1]
     rw[e3]at hsw ⊢
     exact VB hu hK (lA ct vy) (lA ct v1) (wk hkk) hin rfl (aj w).1 hsw
    . cases q
   . cases q
  .
   split at q
   . rename_i r g1 e1;cases q;exact N8 (kD hS ct hK h1 e1) hsw
   . cases q
 case set i x=>
  have h1:=dec (aj (aj hk).1).1;have h2:=(aj (aj hk).1).2;have h3:=Cm.mk (aj (aj hk).2).1;have h4:=iT (aj (aj hk).2).2;have nm:=ct.nm h1 h2;have hsw:swapsWith (cO P (mm+1) c x (aR t 0)) (!(.Name (Ev.nm c i) (aR t 1).pos)) t.pos.line X.env=pure false:=rz ct fB h2 h3 h4;unfold X5 at q;dsimp only at q;split at q
  . cases q
  .
   rename_i hb;have hi:i≠il:=λe=>hb (.inl e)
   have hb:i∉z.bor:=λe=>hb (.inr e)
   split at q
   .
    rename_i hf0;have ex:=Jm hf0;subst ex;split at q
    .
     split at q
     .
      rename_i kk l hz;cases q;obtain⟨n2,t2,e2,w⟩:=h3.pP;obtain⟨n3,t3,e3,w3⟩:=(Cm.mk (aj w).1).pP;have w4:=Cm.mk (aj w).2;obtain⟨⟨p1,e1⟩,v1⟩:=g8 (Cm.mk (aj (aj (aj w3).2).1).1);show DT X z il (.Assign [_] _ _) _ _ _ _;rw[e2];have e4:tQ P (cO P n2) c (.ix (.blt .list [.slot il]) ↥0) t2=.Subscript (.Call (.Name "list" (kid t3 0).pos) [.Name (Ev.nm c il) p1] [] t3.pos) (cO P n2 c ↥0 (kid t2 1)) t2.pos:=by show Expr.Subscript (cO P n2 c (.blt .list [.slot il]) (kid t2 0)) _ _=_;rw[e3];show Expr.Subscript (.Call (.Name "list" _) [cO P n3 c (.slot il) (kid t3 1)] [] _) _ _=_;rw[e1]
      rw[e4];have bn:=aJ (aj w3).1;exact Ic (Pz ct w4) w4.z8 ct.calm (ct.lz _ bn.2) (ct.md.bn _ bn.1) (lA ct vy) nm hi hb rfl hz
     . cases q
    . cases q
   .
    split at q
    .
     rename_i l g1 e1;split at q
     . rename_i hl;cases q;exact Oa nm hi hb hl (kD hS ct hK h3 e1) hsw
     . cases q
    . rename_i d g1 e1;cases q;exact N9 nm hi hb (kD hS ct hK h3 e1) hsw
    . cases q
 case item i xj x=>
  have h4:=Cm.mk (aj (aj hk).2).1;have h5:=Cm.mk (aj (aj (aj hk).2).2).1;have h6:=noC (aj (aj (aj hk).2).2).2;unfold X5 at q;dsimp only at q;split at q
  .
   rename_i hi;subst hi;split at q
   .
    rename_i g0 e0;split at q
    .
     rename_i l g1 e1;split at q
     .
      rename_i kk hkk;split at q
      . rename_i hz;cases q;exact Vz hu hK (lA ct vy) (kD hS ct hK h5 e0) (Jl hkk▸kD hS ct hK h4 e1) hz (gR h5 h6 _ _ _)
      . cases q
     . cases q
    . cases q
   . cases q
  . cases q
 case loop T it b=>
  have h1:=ku (t:=aR t 0) (aj hk).1;have h2:=kr (R:=Cm P c) .mk (aj (aj hk).2).1;have h3:=pS.mk (aj (aj hk).2).2;unfold X5 at q;dsimp only at q;split at q
  . cases q
  .
   rename_i hb;split at q
   . rename_i ao g1 e1;exact VD (mz ct) ct.calm (λD u=>kB (z:=zU z D u) hS ct hK (qY h1) h2 e1) (λD u=>qZ (z:=zU z D u) ct hK h1 λi hi hm=>hb (.inl (by rw[List.any_eq_true];exact#[i,hi,kS hm]))) (λe=>hb (.inr e)) (Wz (λe=>hf h3 e) q) λy=>h2.folded y
   . cases q
 case «while» e b=>have h1:=Cm.mk (aj hk).1;have h2:=pS.mk (aj hk).2;exact Ie (mz ct) (Wy ct hK vy h1 (λe=>hf h2 e) q)
 all_goals cases q
theorem WK{il:Nat}{f:Sm->List Nk.Pn->G->Option (List Nk.Pn×G)}(hg:∀{ss x ks g},Ye P (Cm P c) (yJ P c) c ss x->f x ks g=none)(hf:∀{st s ks g ks' g'},yJ P c st s->f s ks g=!(ks',g')->DT X z il st ks g ks' g'):∀{d8:List Stmt}{b:List Sm}{ks ks':List Nk.Pn}{g g':G},pS P c d8 b->dmB f b ks g=!(ks',g')->DB X z il d8 ks g ks' g':=by
 intro d8 b ks ks' g g' h q
 induction h generalizing ks g with
 |nil=>cases q;exact Vy
 |grp h1 _ _=>unfold dmB at q;rw[hg h1]at q;cases q
 |cons h1 h2 ih=>
  unfold dmB at q;split at q
  . rename_i k1 g1 e1;exact N7 (hf h1 e1) (ih q)
  . cases q
theorem WL(hS:fX P rn)(ct:aM P k X c)(fB:c.df=true)(hK:z.K=X.K){il:Nat}(vy:iU c il=true):∀{n:Nat}{st:Stmt}{s:Sm}{ks ks':List Nk.Pn}{g g':G},yJ P c st s->dmN rn z.bor k il n s ks g=!(ks',g')->DT X z il st ks g ks' g':=by
 intro n
 induction n with
 |zero=>intro st s ks ks' g g' _ q;cases q
 |succ n ih=>
  intro st s ks ks' g g' h q;refine WD hS ct fB hK vy (λ{d8 b ks g ks' g'} hb q=>WK (λ{ss x ks g} hg=>?_) ih hb q) h q
  cases n with
  |zero=>rfl
  |succ n=>cases hg <;> rfl
theorem WM(hS:fX P rn)(ct:aM P k X c)(fB:c.df=true)(hK:z.K=X.K){il:Nat}(vy:iU c il=true):∀{ss:List Stmt}{b:List Sm}{ks:List Nk.Pn}{g g':G}{r:R},Yd (yJ P c) ss b->dmG rn z.bor k il b ks g=!(r,g')->DG X z il ss ks g r g':=by
 intro ss b ks g g' r h q
 induction h generalizing ks g with
 |nil=>cases q
 |@cons st ss s l h1 h2 ih=>
  unfold dmG at q;split at q
  .
   rename_i e;split at q
   .
    rename_i hl;rw[yF hl]at h2;cases h2;obtain⟨mm,n,t,rfl,hk⟩:=h1.pP;have h3:=Cm.mk (show ux P (mm+1) c e (aR t 0)=true from hk)
    split at q
    .
     rename_i hd;cases q;have ex:=Dk hd;subst ex;obtain⟨n3,t3,e3,w3⟩:=h3.pP;obtain⟨⟨p1,e1⟩,v1⟩:=g8 (Cm.mk (aj (aj (aj w3).2).1).1);show DG X z il [.Return (!_) _] _ _ _ _;rw[e3];have e4:tQ P (cO P n3) c (.blt .len [.slot il]) t3=.Call (.Name "len" (kid t3 0).pos) [.Name (nm c il) p1] [] t3.pos:=by show Expr.Call (.Name "len" _) [cO P n3 c (.slot il) (kid t3 1)] [] _=_;rw[e1]
     rw[e4];have bn:=aJ (aj w3).1;exact VG (ct.lz _ bn.2) (ct.md.bn _ bn.1) (lA ct vy)
    . exact VF (kD hS ct hK h3 q)
   . cases q
  .
   split at q
   . rename_i k1 g1 e1;exact Ob (WL hS ct fB hK vy h1 e1) (ih q)
   . cases q
theorem yO(hS:fX P rn)(ct:aM P k X c)(fB:c.df=true)(hK:z.K=X.K)(h:Ye P (Cm P c) (yJ P c) c ss x)(e:aK rn z.bor k x g=!(f,g')):nU X z ss g f g':=by
 cases h with
 |@dct y il py dp pos ss b h1 h2 h3=>
  unfold aK at e;dsimp only at e;split at e
  .
   rename_i hg;split at e
   . rename_i r g1 hr;cases e;have ey:=nm_at h1.1;subst ey;exact Ig (ct.nm h1.1 h2) hg (WM hS ct fB hK (by unfold iU;rw[h1.2.1,h1.2.2,kS h1.1];rfl) h3 hr)
   . cases e
  . cases e
theorem Jo(hS:fX P rn)(ct:aM P k X c)(fB:c.df=true)(hK:z.K=X.K):∀{d8:List Stmt}{xs:List Sm}{g g':G}{f:Fl},pS P c d8 xs->eZ rn z.bor k xs g=!(f,g')->dG X z d8 g f g':=by
 intro d8 xs g g' f hc h
 induction hc generalizing g with
 |nil=>symm;exact Ui
 |grp h1 h2 ih=>
  unfold eZ at h;split at h
  . rename_i g1 e1;exact (yO hS ct fB hK h1 e1).bk (ih h)
  . rename_i hn e1;symm;exact (yO hS ct fB hK h1 e1).end λe=>hn e
  . symm
 |cons h1 h2 ih=>
  unfold eZ at h;split at h
  . rename_i g1 e1;exact L5 (oY hS ct fB hK h1 e1) (ih h)
  .
   rename_i hn e1;symm;have q:=oY hS ct fB hK h1 e1;cases f with
   |nx=>exact absurd rfl hn
   |rt r=>exact Uj q
   |bk=>exact Uk q
   |ct=>exact Ul q
  . symm
end
theorem PJ{P:Pg}{k:Nat}{prog:Program}{w:World}{K:Frag}{mg:Str->Option Value}{base:Heap}{N ps:List Str}{qual:Str}{scope:Scope}{f:Addr}{bx:Value}{A:Around}{outer:List Env}{s:Shared}{H:Hp}{E:XK}
  (S:bI N ps scope) (md:tH P K mg) (bU:PySem.W.codeIn K bx qual=true) (hr:bH k (A.deeper (envOfC qual scope s⁻¹ f bx))):Pq P k (fG (Eg prog w) prog w K mg base N qual scope f bx A outer s H E) #[N,scope,true,qual]:=by
 refine#[#[rfl,S.nd,λx e=>e,λx e=>e,λx e=>e,λ_ x e=>e,λx _=>rfl,λ_=>?_,rfl,rfl,md,hr,λe h=>#[rfl,md.lam h _ e _ bU]],rfl,PassesOwn.leaving]
 show (if scope.kind.isAnnotationScope then ScopeKind.function else scope.kind)=.function
 rw[S.kind];rfl
section
theorem wm(hS:fX P rn)(hX:pU P rn)(cx:Pq P k X c)(hK:z.K=X.K)(hC:iJ P X.mg ci C):∀{es:List Expr}{xs:List Ex}{g g':G},z7 P c es xs->xArgs rn z.bor k xs g=!(ci,g')->ZJ X z es g C g':=by
 intro es xs g g' hc h
 induction hc generalizing g with
 |nil=>symm
 |cons h1 h2 ih=>
  unfold xArgs at h;split at h
  . rename_i e1;symm;exact My (hX.x cx hK hC h1 e1) (h1.star _)
  .
   split at h
   . rename_i r g1 e1;exact Mz (hS.e cx.ct hK h1 e1).lift (ih h) (h1.star _)
   . symm
theorem Jp(hS:fX P rn)(hX:pU P rn)(hF:iK P fns)(cx:Pq P k X c)(hK:z.K=X.K)(hC:iJ P X.mg ci C)(hc:Cm P c e x)(h:vX rn z.bor k fns x g=!(ci,g')):Eh X z e g C g':=by
 have ct:=cx.ct;obtain⟨n,t,rfl,hk⟩:=hc.pP;cases x
 case call i xs=>
  obtain⟨k1,k2⟩:=aj hk;obtain⟨k3,k4⟩:=aj k2;obtain⟨fi,h1,h2⟩:=tL k1;cases xs with
  |nil=>cases (aj k4).2
  |cons x xs=>
  have h3:=dec k3;have h4:=cD (R:=Cm P c) .mk (aj k4).1;show Eh X z (.Call (.Name (v9 P i) (kid t 0).pos) (iC (cO P n c) t 1 (x::xs)) [] t.pos) g C g';rw[<- h2]at h3 ⊢
  have b9:=(Cm.mk (aj (aj k4).1).1).star (env:=X.env) (iC (cO P n c) t 2 xs);have jh:=(cD .mk (aj (aj k4).1).2).plain (env:=X.env) (pos:=t.pos);obtain⟨fa,fd,hm,hFn,Yg,hB,ji⟩:=ct.md.fn _ fi h1;unfold vX at h;dsimp only at h;split at h
  .
   rename_i r e1;symm;cases k with
   |zero=>
    obtain⟨tt,q,kk⟩:=wm hS hX cx hK hC h4 e1;refine#[_,?_,λY As M H Q s ac=>kk Y As M H (λ_ _=>False) s ac]
    intro ah s Y H Q I ht;refine o3 (fE I (ct.lz _ h3) hm ?_ ji);exact Bi I.ok.mod.wY hFn.kp (bD (q t.pos ah s Y H _ I ht) (by rintro us s1 ⟨_,_,_,_,h⟩;exact h.elim)) b9 jh
   |succ k'=>
    have F:iM X.prog X.w X.K X.mg X.base xF (k'+1) fa fd fi.ps (QV X.K fi.N fi.ps.length λ_ _ _ _=>False):=Gm hFn Yg λ_ _ _ _ _ _ _ _ _ _ _ _ _ h=>h.elim
    exact GJ F (wm hS hX cx hK hC h4 e1) ct.room (ct.lz _ h3) hm hFn.kp hB ji b9 jh
  .
   cases uh:fns[i]? with
   |none=>rw[uh]at h;symm
   |some fx=>
    rw[uh]at h;cases k with
    |zero=>symm
    |succ k'=>
     dsimp only at h;split at h
     .
      rename_i rs g1 e1;have WN:=hF _ _ _ h1 uh;have F:iM X.prog X.w X.K X.mg X.base (Eg X.prog X.w) (k'+1) fa fd fi.ps (SpX X.K fi.N fi.ps.length λbor g C g'=>∃ci,iJ P X.mg ci C/\rn.xb bor k' fx.body g=!(ci,g')):=by refine U3 hFn Yg ?_;rintro bx A outer s H E bU hr z' g C g' XT ⟨ci,hci,hrun⟩;exact hX.b (PJ Yg ct.md bU hr) rfl XT hci WN.body hrun
      unfold qW at h;split at h
      .
       rename_i hl;split at h
       . symm
       .
        rename_i gs e2;split at h
        .
         rename_i ci' gc e3;split at h
         .
          rename_i gO e4;symm;have ha:=oR hS ct hK h4 e1;have ha':bO X z (cO P n c x (kid t 1)::iC (cO P n c) t 2 xs) g rs g1:=by
           obtain⟨t,q,kk⟩:=ha;refine#[t,λpos ah s Y H Q I hw=>?_,kk]
           exact i7 (q pos ah s Y H Q (I.wish _) hw) (by rintro _ _ ⟨v,H',I',r,q⟩;exact#[v,H',I'.cz,r,q]) λ_ _ z=>False.elim z
          exact MN F hK cx.ex ct.room (ct.lz _ h3) hm hFn.kp hB ha' (by rw[hl.1,WN.np]) e2 hl.2 #[ci,hC,by rw[<- WN.n];exact e3] e4 ji b9 jh
         . symm
        . symm
      . symm
     . symm
 all_goals symm
theorem Dl(hX:pU P rn)(cx:Pq P k X c)(hK:z.K=X.K)(hC:iJ P X.mg ci C)(hc:Cm P c e x)(h:tG rn z.bor k x g=!(ci,g')):XQ X z e g C g':=by
 obtain⟨n,t,e,hk⟩:=hc.pP;cases x
 case not a=>subst e;exact Mx (hX.t cx hK hC (.mk hk) h)
 case call i l=>exact UW (hX.x cx hK hC hc h) (by rw[e];exact λ_=>rfl)
 all_goals symm
theorem eF.lift{st:Stmt}{g g':G}{f:Fl}(h:eF X.rW z st g f g'):eF X z st g f g':=by
 obtain⟨t,q,k⟩:=h;refine#[t,λah s Y H D I hw=>?_,k]
 exact i7 (q ah s Y H D (I.wish _) hw) (λ_ _ q=>q.cz) λ_ _ z=>False.elim z
theorem Dm(hS:fX P rn)(hX:pU P rn)(cx:Pq P k X c)(fB:c.df=true)(hK:z.K=X.K)(hC:iJ P X.mg ci C)(hc:yJ P c s x)(h:kj rn z.bor k x g=!(ci,g')):UT X z s g C g':=by
 have ct:=cx.ct;obtain⟨mm,n,t,rfl,hk⟩:=hc.pP;cases x
 case ret x=>exact U0 (hX.x cx hK hC (.mk hk) h)
 case expr x=>have h1:=Cm.mk (aj hk).1;have h2:=noC (aj hk).2;exact MF (hX.x cx hK hC h1 h) (gR h1 h2 _ _ _)
 case ite e a b=>
  have h1:=Cm.mk (aj hk).1;have h2:=pS.mk (aj (aj hk).2).1;have h3:=pS.mk (aj (aj hk).2).2;unfold kj at h;dsimp only at h;split at h
  . rename_i e1;symm;exact U1 (hX.t cx hK hC h1 e1)
  .
   split at h
   . rename_i g1 e1;exact GD (hS.t ct hK h1 e1).lift (by rw[hV rfl];exact hX.b cx fB hK hC h2 h)
   . rename_i g1 e1;exact GD (hS.t ct hK h1 e1).lift (by rw[fN mM];exact hX.b cx fB hK hC h3 h)
   . symm
 case raise i x=>
  have h1:=dec (aj hk).1;have h2:=dec (aj (aj hk).2).1;have h3:=Cm.mk (aj (aj hk).2).2;unfold kj at h;dsimp only at h;split at h
  .
   rename_i d g1 e1;symm;obtain⟨y,q1,q2⟩:=hC;rw[h1]at q1;cases q1;obtain⟨ji,C',q3,q4⟩:=ct.md.cls _ (hZ h1);have e:C'=C:=by have:=q3.symm.trans q2;cases this;rfl
   subst e;exact GF ct.calm cx.ex q4 (ct.lz _ h2) q2 ji (cB (aN hS ct hK h3 e1).lift dc (h3.star _)) (h3.star _)
  . symm
 all_goals symm
theorem Dn(hS:fX P rn)(hX:pU P rn)(cx:Pq P k X c)(fB:c.df=true)(hK:z.K=X.K)(hC:iJ P X.mg ci C):∀{d8:List Stmt}{xs:List Sm}{g g':G},pS P c d8 xs->fM rn z.bor k xs g=!(ci,g')->Mw X z d8 g C g':=by
 intro d8 xs g g' hc h
 induction hc generalizing g with
 |nil=>symm
 |grp h1 h2 ih=>
  unfold fM at h;split at h
  . rename_i e1;cases h1 <;> cases e1
  .
   split at h
   . rename_i g1 e1;exact ((yO hS cx.ct fB hK h1 e1).lift).ra (ih h)
   . symm
 |cons h1 h2 ih=>
  unfold fM at h;split at h
  . rename_i e1;symm;exact MJ (Dm hS hX cx fB hK hC h1 e1)
  .
   split at h
   . rename_i g1 e1;exact MK (oY hS cx.ct fB hK h1 e1).lift (ih h)
   . symm
end
theorem wu(hF:iK P fns):∀n,fX P (run fns n)/\pU P (run fns n)
 | 0=>#[#[λ_ _ _ h=>(by symm),λ_ _ _ h=>(by symm),λ_ _ _ _ h=>(by symm)],#[λ_ _ _ _ h=>(by symm),λ_ _ _ _ h=>(by symm),λ_ _ _ _ _ h=>(by symm)]]
 |n+1=>
  let #[a,b]:=wu hF n
  #[#[λct hK hc h=>Jj a b hF ct hK hc h,λct hK hc h=>Jk a ct hK hc h,λct fB hK hc h=>Jo a ct fB hK hc h],
  #[λcx hK hC hc h=>Jp a b hF cx hK hC hc h,λcx hK hC hc h=>Dl b cx hK hC hc h,λcx fB hK hC hc h=>Dn a b cx fB hK hC hc h]]
theorem PK(hF:iK P fns)(n:Nat):fX P (run fns n):=(wu hF n).1
def PL(K:Frag)(mg:Str->Option Value)(fi:Fi):Prop:=
 ∃f fd,mg fi.name=!(.ref f)/\Lg K fi.name fi.qual fi.st f fd/\bI fi.N fi.ps (aC fi.st)/\(∀us:List Value,us.length=fi.ps.length->bindArgs fd #[us,[]]=pure (fi.ps.zip us))/\(fi.name==(~~~3))=false
def PN(K:Frag)(mg:Str->Option Value)(p:Str×D):Prop:=(p.1==(~~~3))=false/\∃v u,mg p.1=!u/\RelV v u/\∀M H,Rep K M H p.2 v
inductive All{α:Type}(p:α->Prop):List α->Prop
 |nil:All p []
 |cons {a:α}{l:List α}:p a->All p l->All p (a::l)
theorem All.mem{α:Type}{p:α->Prop}:∀{l:List α},All p l->∀a∈l,p a:=by
 intro l h
 induction h with
 |nil=>intro a h;symm
 |cons h t ih=>
  intro a hm;rcases dL.mp hm with rfl |hm
  . exact h
  . exact ih a hm
structure WQ(P:Pg)(K:Frag)(mg:Str->Option Value):Prop where
 lam:P.lam=true->∀n∈iF,∀bx,PySem.W.codeIn K bx n=true->Iu K mg n bx
 oE:∀(i:Nat) (C:Addr),P.oE[i]?=!C->∃x,P.cls[i]?=!x/\mg x=!(.ref C)/\dH K C/\Fy K C
 kt:P.lam=true->(P.kt==(~~~3))=false/\∃D,mg P.kt=!(.ref D)/\dH K D/\∀C∈P.oE,pL K C D=true
 ups:∀(x:Str) (l:List (Addr×Bool)),(x,l)∈P.ups->(x==(~~~3))=false/\∃cv,((mg x=!cv/\∃D,cv=.ref D)\/(x∈P.bn/\x≠ "__name__" /\bootBuiltins x=!cv/\∃n,cv=.type n))/\PySem.W.kitOne K (.type "NoneType") cv=!false/\∀C b,l.lookup C=!b->PySem.W.kitOne K (.ref C) cv=!b
theorem md_mk{P:Pg}{K:Frag}{mg:Str->Option Value}(h1:All (PL K mg) P.fn)(h2:All (PN K mg) P.ct)(h3:All (λx=>mg x=none) P.bn)(h4:All (λx=>(x==(~~~3))=false/\∃C,mg x=!(.ref C)/\dH K C) P.cls)(h5:WQ P K mg):tH P K mg:=
 #[λi fi e=>by obtain⟨f,fd,q1,q2,q3,q4,q5⟩:=h1.mem fi (hZ e);exact#[f,fd,q1,q2,q3,.all q4,q5],λx d h=>h2.mem (x,d) h,λx h=>h3.mem x h,λx h=>h4.mem x h,h5.lam,h5.oE,h5.kt,h5.ups]
def BdOk(fi:Fi):Prop:=∀(kV doc pm:Value) (an:Option Addr) (bx ct:Value) (us:List Value),us.length=fi.ps.length->bindArgs (PySem.W.fnOf fi.name fi.qual (gU fi.st) (bh fi.st) (aC fi.st) .none kV doc pm an bx ct) #[us,[]]=pure (fi.ps.zip us)
section
variable{K:Frag}
theorem fi_mk{fi:Fi}{oc:Value}{od an:Option Addr}{osl:Array (Option Value)}{kV doc pm bx ct:Value}(X:K.In h)(G:h.Ns mainGlobals mg)(a:PySem.W.nsIn K mainGlobals fi.name=!(!(.ref f)))
  (l:K.lookup f=!#[oc,od,.func (PySem.W.fnOf fi.name fi.qual (gU fi.st) (bh fi.st) (aC fi.st) .none kV doc pm an bx ct),osl]) (c:PySem.W.codeIn K bx fi.qual=true) (k:PySem.W.keepIn K (.ref f)=true)
  (sc:bI fi.N fi.ps (aC fi.st)) (hb:BdOk fi)
  (hd:(fi.name==(~~~3))=false):PL K mg fi:=
 let F:=SX l c k
 #[f,_,CM X G a,F,sc,hb kV doc pm an bx ct,hd]
theorem Jq(X:K.In h)(G:h.Ns mainGlobals mg)(a:PySem.W.nsIn K mainGlobals x=!(!(.int i t)))(hd:(x==(~~~3))=false):PN K mg (x,.int i):=
 #[hd,.int i,.int i t,CM X G a,#[t,rfl],λ_ _=>.int i]
theorem Ro(X:K.In h)(G:h.Ns mainGlobals mg)(a:PySem.W.nsIn K mainGlobals x=!(!(.ref C)))(q:dH K C)(hd:(x==(~~~3))=false):(x==(~~~3))=false/\∃C,mg x=!(.ref C)/\dH K C:=
 #[hd,C,CM X G a,q]
theorem WR{P:Pg}{fns:List Fx}{prog:Program}{w:World}{base:Heap}(hF:iK P fns)(md:tH P K mg){i:Nat}{fi:Fi}{fx:Fx}{x:Str}{fd:FuncData}{n k:Nat}(Vk:P.fn[i]?=!fi)(uh:fns[i]?=!fx)(hp:fi.ps=[x])(F:Lg K fi.name fi.qual fi.st f fd)(sc:bI fi.N fi.ps (aC fi.st)) :
  iM prog w K mg base xF (k+1) f fd [x] (QV K fi.N 1 λbor g r g'=>(run fns n).b bor k fx.body g=!(.rt r,g')):=by
 have:=Gm (P:=prog) (w:=w) (base:=base) (run:=λbor g r g'=>(run fns n).b bor k fx.body g=!(.rt r,g')) F sc λbx A outer s H E bU hr z g r g' hK hrun=>
  #[_,(PK hF n).b (oU sc md bU hr) rfl hK (hF i fi fx Vk uh).body hrun,.inl rfl]
 rw[hp]at this;exact this
theorem Jr{P:Pg}{fns:List Fx}{prog:Program}{w:World}(hF:iK P fns)(md:tH P K mg){i:Nat}{fi:Fi}{fx:Fx}{x:Str}{n k:Nat}(Vk:P.fn[i]?=!fi)(uh:fns[i]?=!fx)(hp:fi.ps=[x])(h:PL K mg fi)(hm:mg fi.name=!(.ref f)) :
  ∃fd:FuncData,(∀(s:Shared) (u:Value),BindsTo s fd #[[u],[]] [(x,u)])/\∀base:Heap,K.In base->base.Ns mainGlobals mg->iM prog w K mg base xF (k+1) f fd [x] (QV K fi.N 1 λbor g r g'=>(run fns n).b bor k fx.body g=!(.rt r,g')):=by
 obtain⟨f',fd,q1,q2,q3,q4,q5⟩:=h;rw[hm]at q1;cases q1;refine#[fd,λs u=>.of_eq ?_,λbase _ _=>WR hF md Vk uh hp q2 q3]
 have:=q4 [u] (by rw[hp];rfl)
 rw[hp]at this;exact this
theorem WT{N:List Str}{run:List Nat->G->R->G->Prop}(hev:∀ns:List Int,ns.length<=63->∃g',run [] (dU N.length [.dat (.fix (ns.map .int))]) (.dat (.bl true)) g')(K:Frag)(H:Hp)(a:Addr)(ns: ~~~0)(hl:ns.length<=63)(hO:zF ((bW K).map (·.1)) H)(hS:cu K H a (ns.map V.int)) :
  QV K N 1 run [.ref a] H (λv _=>v=.bl true) λ_ _ _=>False:=by
 obtain⟨g',hg⟩:=hev ns hl;have fx:ql K ((bW K).map (·.1)) H a (ns.map V.int):=by
  rcases hS with h |h
  .
   rcases hO a with ⟨_,z⟩ |⟨na,z⟩
   . rcases h with h |⟨o,h⟩ <;> (rw[z]at h;symm)
   .
    refine .inl #[na,?_];rcases h with h |h
    .
     rcases z with z |⟨o,xs,z⟩
     . rw[z]at h;symm
     . rw[z]at h;symm
    . exact h
  . exact .inr (.inr h)
 have rr:∀ns:List Int,aD K ((bW K).map (·.1)) H (ns.map D.int) (ns.map V.int):=λns=>by
  induction ns with
  |nil=>exact .nil
  |cons n ns ih=>exact .cons (.int n) ih
 have tb:∀p∈bW K,H p.1=!(.lD ([].toArray)):=λp hp=>by
  rcases hO p.1 with ⟨_,z⟩ |⟨z,_⟩
  . exact z
  . exact absurd (i5.mpr #[p,hp,rfl]) z
 refine#[rfl,#[K,H,(bW K).map (·.1),[],bW K],dU N.length [.dat (.fix (ns.map .int))],g',[],(bW K).map (·.1),.dat (.bl true),rfl,?_,hg,λv σ' aB M' H' s' st R=>eY R]
 refine#[?_,yY,(λa ha=>nomatch ha),λi b l e1 e2=>?_,(λm hm=>.inr hm),(λb o e _ _=>e),(λm hm=>hm),(λm hm=>?_),(λb hb=>nomatch hb),(λp hp=>nomatch hp),(λp hp=>#[([].toArray),tb p hp,trivial,λpos cv e=>nomatch e]),(λp hp=>i5.mpr #[p,hp,rfl]),rfl]
 . exact Slots.append (.dat (.fix fx (rr ns)) .nil) (Slots.nos _)
 .
  exfalso;unfold dU at e1;cases i with
  |zero=>simp at e1
  |succ i=>rw[eR ⋯]at e1;have:=hZ e1;rw[w8]at this;exact absurd this.2 ⋯
 . obtain⟨p,hp,rfl⟩:=i5.mp hm;intro z;have z:H p.1=none:=z;rw[tb p hp]at z;cases z
end
noncomputable abbrev Fi.ct(fi:Fi):Ct:=#[fi.N,aC fi.st,true,fi.qual]
def Aa(P:Pg)(fi:Fi)(fx:Fx):List Stmt:=pR (Wq P 99 (Rj P 99 20 fi.ct) fi.ct) (Rj P 99 20 fi.ct) fx.body (bh fi.st)
def fxB(P:Pg)(fi:Fi)(fx:Fx):Bool:=decide (fx.np=fi.ps.length)&&(decide (fx.n=fi.N.length)&&Kw (Wr P 99 (Rk P 99 20 fi.ct) fi.ct) (Rk P 99 20 fi.ct) fx.body (bh fi.st))
theorem WW(e:Aa P fi fx=bh fi.st)(h:fxB P fi fx=true):Pr P fi fx:=#[dec (aj h).1,dec (aj (aj h).2).1,Eq.mp (congrArg (λl=>pS P fi.ct l fx.body) e) (pS.mk (aj (aj h).2).2)]
def PX(P:Pg):List Fi->List Fx->Bool
 |fi::l,fx::r=>fxB P fi fx&&PX P l r
 |_,_=>true
theorem P0(e:List.zipWith (Aa P) l r=l.map λfi=>bh fi.st)(h:PX P l r=true)(f:Nat)(fi:Fi)(fx:Fx)(h1:l[f]?=!fi)(h2:r[f]?=!fx):Pr P fi fx:=by
 induction l generalizing r f with
 |nil=>cases h1
 |cons a l ih=>cases r with
  |nil=>cases h2
  |cons b r=>
   cases f with
   |zero=>cases h1;cases h2;exact WW (List.cons.inj e).1 (aj h).1
   |succ f=>exact ih (List.cons.inj e).2 (aj h).2 f h1 h2
theorem WX(h:PX P P.fn fns=true)(e:List.zipWith (Aa P) P.fn fns=P.fn.map λfi=>bh fi.st):iK P fns:=λf fi fx h1 h2=>P0 e h f fi fx h1 h2
theorem len1(h:us.length=1):∃a,us=[a]:=by
 cases us with
 |nil=>symm
 |cons a us=>cases us with
  |nil=>exact#[a,rfl]
  |cons _ _=>symm
theorem len2(h:us.length=2):∃a b,us=[a,b]:=by
 cases us with
 |nil=>symm
 |cons a us=>obtain⟨b,rfl⟩:=len1 (Cn h);exact#[a,b,rfl]
theorem len3(h:us.length=3):∃a b c,us=[a,b,c]:=by
 cases us with
 |nil=>symm
 |cons a us=>obtain⟨b,c,rfl⟩:=len2 (Cn h);exact#[a,b,c,rfl]
def bE(st:Stmt):Fi:=match st with
 |.FunctionDef name args _ _ _ _ scope _ _ _=>#[name,name,st,(args.args.map (·.arg))++scope.names.filterMap (λy=>if (y.2==.local||y.2==.cell)&&(not ((args.args.map (·.arg)).contains y.1)) then some y.1 else none),args.args.map (·.arg)]
 |st=>#["", "",st,[],[]]
section
theorem wz(ds:List D):∀i,vars i (ds.map R.dat)=[]:=by
 induction ds with
 |nil=>intro i;rfl
 |cons d ds ih=>intro i;exact ih (i+1)
theorem wA(ds:List D):dz (ds.map R.dat) g1=!(ds.map .dat):=by
 induction ds with
 |nil=>rfl
 |cons d ds ih=>
  show (match dz (ds.map R.dat) g1 with |some gs=>!(Slot.dat d::gs) |none=>none)=_
  rw[ih];rfl
noncomputable def WY:List D->G
 | []=>[]
 |d::l=>.dat d::WY l
theorem Ad(ds:List D):WY ds=ds.map .dat:=by
 induction ds with
 |nil=>rfl
 |cons d ds ih=>rw[WY,ih];rfl
def bz(rn:Rn)(k:Nat)(fx:Fx)(ds:List D):Option R:=match rn.b [] k fx.body (dU fx.n (WY ds))with
 |!(.rt r,gc)=>dj [] gc r
 |!(.nx,_)=>!(.dat .non)
 |_=>none
theorem kF(hl:ds.length=fx.np):dD rn fx k (ds.map .dat) g1=(bz rn k fx ds).map λr=>(r,g1):=by
 unfold dD bz;rw[wz,wA,Ad];simp only[eA,hl,List.map_nil];cases rn.b [] k fx.body (dU fx.n (ds.map .dat))with
 |none=>rfl
 |some p=>
  obtain⟨f,gc⟩:=p;cases f with
  |nx=>rfl
  |rt r=>simp only[back];cases dj [] gc r <;> rfl
  |bk=>rfl
  |ct=>rfl
noncomputable def gM(g m:G)(acc:List D):G:=g++(m++[.own acc])
theorem rA{g m:G}{acc:List D}{i:Nat}(h:i<g.length):(gM g m acc)[i]?=g[i]?:=by unfold gM;rw[eD h]
theorem iW{g m:G}{acc:List D}{i:Nat}(h:i<m.length):(gM g m acc)[g.length+i]?=m[i]?:=by unfold gM;rw[eR ⋯,t6,eD h]
theorem tV:(gM g m acc)[g.length+m.length]?=!(.own acc):=by unfold gM;rw[eR ⋯,t6,eR (dE _),Nat.sub_self];rfl
theorem yP(h:i<m.length):(gM g m acc).set (g.length+i) s=gM g (m.set i s) acc:=by unfold gM;rw[CA _ _ ⋯,t6,List.set_append_left _ _ h]
theorem wB:(gM g m acc).set (g.length+m.length) (.own acc')=gM g m acc':=by unfold gM;rw[CA _ _ ⋯,t6,CA _ _ (dE _),Nat.sub_self];rfl
theorem Ae:(gM g m acc).take g.length=g:=by unfold gM;simp
theorem Rp:gC kk g=gM g (List.replicate kk .no) []:=rfl
theorem jJ{α:Type}(jN:α->D)(f:α->D)(p:α->Bool)(st:α->G->G)(I:G->Prop)(hI:∀m,I m->m.length=kk)(cU:last=g.length+kk)(b9:∀d m,I m->I (st d m)) :
  ∀(ao:List α) (m:G) (acc:List D),I m->acc.length+ao.length<=lim->
  (∀d∈ao,∀m acc,I m->T.set (jN d) (gM g m acc)=!(gM g (st d m) acc))->
  (∀d∈ao,∀m acc,I m->Iq rn bor k c (gM g (st d m) acc)=!(p d,gM g (st d m) acc))->
  (∀d∈ao,p d=true->∀m acc,I m->fz rn bor k e (gM g (st d m) acc)=!(f d,gM g (st d m) acc))->
  ∃m',I m'/\Ks rn bor k T last c e (ao.map jN) (gM g m acc)=!(gM g m' (acc++(ao.filter p).map f))
 | [],m,acc,hm,_,_,_,_=>#[m,hm,by simp[Ks]]
 |d::ao,m,acc,hm,hl,hT,hi,he=>by
  rw[gL]at hl;have q1:=hT d b0 m acc hm;have q2:=hi d b0 m acc hm;have hm':=b9 d m hm;have hk:=hI _ hm';rw[List.map_cons];unfold Ks;rw[q1];dsimp only;rw[q2];cases hp:p d with
  |false=>
   dsimp only;obtain⟨m',w1,w2⟩:=jJ jN f p st I hI cU b9 ao (st d m) acc hm' ⋯ (λx hx=>hT x (bP _ hx)) (λx hx=>hi x (bP _ hx)) (λx hx=>he x (bP _ hx))
   exact#[m',w1,by rw[w2,List.filter_cons,hp];rfl]
  |true=>
   have q3:=he d b0 hp m acc hm;dsimp only;rw[q3];dsimp only;have q4:(gM g (st d m) acc)[last]?=!(.own acc):=by rw[cU,<- hk];exact tV
   rw[q4];dsimp only;rw[hV ⋯];have q5:(gM g (st d m) acc).set last (.own (acc++[f d]))=gM g (st d m) (acc++[f d]):=by rw[cU,<- hk];exact wB
   rw[q5];obtain⟨m',w1,w2⟩:=jJ jN f p st I hI cU b9 ao (st d m) (acc++[f d]) hm' (by rw[eP,v3];lia) (λx hx=>hT x (bP _ hx)) (λx hx=>hi x (bP _ hx)) (λx hx=>he x (bP _ hx))
   refine#[m',w1,?_];rw[w2,List.filter_cons,hp];simp
theorem P1{α:Type}(jN:α->D)(f:α->D)(p:α->Bool)(st:α->G->G)(cU:last=g.length+kk)(b9:∀d m,m.length=kk->(st d m).length=kk) :
  ∀(ao:List α) (m:G) (acc:List D),m.length=kk->acc.length+ao.length<=lim->
  (∀d∈ao,∀m acc,m.length=kk->T.set (jN d) (gM g m acc)=!(gM g (st d m) acc))->
  (∀d∈ao,∀m acc,m.length=kk->Iq rn bor k c (gM g (st d m) acc)=!(p d,gM g (st d m) acc))->
  (∀d∈ao,p d=true->∀m acc,m.length=kk->fz rn bor k e (gM g (st d m) acc)=!(f d,gM g (st d m) acc))->
  ∃m',m'.length=kk/\Ks rn bor k T last c e (ao.map jN) (gM g m acc)=!(gM g m' (acc++(ao.filter p).map f)):=
 jJ jN f p st (λm=>m.length=kk) (λ_ h=>h) cU b9
theorem Dp{α:Type}{kk nn:Nat}{T:Tg}{it:Ex}{c:Option Ex}{e:Ex}(ao:List α)(jN:α->D)(f:α->D)(p:α->Bool)(st:α->G->G)(hw:fW rn bor k T.fV it g=!(ao.map jN,g1))(hn:nn=g1.length)(hb:(T.ix.any λi=>decide (i∈bor))=false)(hl:ao.length<=lim)(b9:∀d m,m.length=kk->(st d m).length=kk)
  (hT:∀d∈ao,∀m acc,m.length=kk->T.set (jN d) (gM g1 m acc)=!(gM g1 (st d m) acc))
  (hi:∀d∈ao,∀m acc,m.length=kk->Iq rn bor k c (gM g1 (st d m) acc)=!(p d,gM g1 (st d m) acc))
  (he:∀d∈ao,p d=true->∀m acc,m.length=kk->fz rn bor k e (gM g1 (st d m) acc)=!(f d,gM g1 (st d m) acc)) :
  iI rn bor k nn kk T it c e g=!((ao.filter p).map f,g1):=by
 subst hn;obtain⟨m',w1,w2⟩:=P1 jN f p st rfl b9 ao (List.replicate kk .no) [] ⋯ (by simpa using hl) hT hi he
 unfold iI;rw[hw];dsimp only;rw[hV #[rfl,hb],Rp,w2];dsimp only;have:(gM g1 m' ([]++(ao.filter p).map f))[g1.length+kk]?=!(.own ([]++(ao.filter p).map f)):=by rw[<- w1];exact tV
 rw[this];rw[Ae,BD]
theorem yQ{j kk:Nat}{d:D}{m:G}{acc:List D}(hj:g.length<=j)(hk:j - g.length<m.length):(Tg.nm j).set d (gM g m acc)=!(gM g (m.set (j - g.length) (.dat d)) acc):=by
 show some ((gM g m acc).set j (.dat d))=_;have:=yP (g:=g) (acc:=acc) (s:=.dat d) hk;rw[show g.length+(j - g.length)=j by lia]at this
 rw[this]
def yR(g:G)(j:Nat)(d:D)(G':G):Prop:=(∀i,i<g.length->G'[i]?=g[i]?)/\G'[j]?=!(.dat d)
theorem Rq{α:Type}{kk nn j:Nat}{it:Ex}{c:Option Ex}{e:Ex}(ao:List α)(jN:α->D)(p:α->Bool)(f:α->D)(hw:fW rn bor k false it g=!(ao.map jN,g1))(hn:nn=g1.length)(hj1:g1.length<=j)(hj2:j<g1.length+kk)(hb:j∉bor)(hl:ao.length<=lim)
  (hi:∀a∈ao,∀G',yR g1 j (jN a) G'->Iq rn bor k c G'=!(p a,G')) (he:∀a∈ao,p a=true->∀G',yR g1 j (jN a) G'->fz rn bor k e G'=!(f a,G')) :
  iI rn bor k nn kk (.nm j) it c e g=!((ao.filter p).map f,g1):=by
 have sees:∀(a:α) (m:G) (acc:List D),m.length=kk->yR g1 j (jN a) (gM g1 (m.set (j - g1.length) (.dat (jN a))) acc):=λa m acc hm=>by
  refine#[λi hi=>rA hi,?_]
  have:=iW (g:=g1) (m:=m.set (j - g1.length) (.dat (jN a))) (acc:=acc) (i:=j - g1.length) (by simp;lia)
  rw[show g1.length+(j - g1.length)=j by lia]at this
  rw[this,i3 ⋯]
 refine Dp ao jN f p (λa m=>m.set (j - g1.length) (.dat (jN a))) hw hn (by simp[Tg.ix,hb]) hl (λd m hm=>by simpa using hm) (λa _ m acc hm=>yQ (kk:=kk) hj1 ⋯) (λa ha m acc hm=>hi a ha _ (sees a m acc hm)) λa ha hp m acc hm=>he a ha hp _ (sees a m acc hm)
theorem filter_all{α:Type}(l:List α):l.filter (λ_=>true)=l:=List.filter_eq_self.mpr λ_ _=>rfl
theorem wC{α:Type}(ao:List α)(jN:α->D)(f:α->D)(hw:fW rn bor k false it g=!(ao.map jN,g1))(hn:nn=g1.length)(hj1:g1.length<=j)(hj2:j<g1.length+kk)(hb:j∉bor)(hl:ao.length<=lim)
  (he:∀a∈ao,∀G',yR g1 j (jN a) G'->fz rn bor k e G'=!(f a,G')):iI rn bor k nn kk (.nm j) it none e g=!(ao.map f,g1):=by
 have:=Rq (c:=none) ao jN (λ_=>true) f hw hn hj1 hj2 hb hl (λ_ _ _ _=>rfl) λa ha _ G' hG=>he a ha G' hG
 rw[filter_all]at this;exact this
def wD(g:G)(j1 j2:Nat)(d1 d2:D)(G':G):Prop:=(∀i,i<g.length->G'[i]?=g[i]?)/\G'[j1]?=!(.dat d1)/\G'[j2]?=!(.dat d2)
theorem rB{α:Type}(jN:α->D)(I:List α->G->Prop)(step:∀a l g,I (a::l) g->∃g1 g2,T.set (jN a) g=!g1/\b g1=!(.nx,g2)/\I l g2):∀l g,I l g->∃g',I [] g'/\cg T b (l.map jN) g=!(.nx,g')
 | [],g,h=>#[g,h,rfl]
 |a::l,g,h=>by
  obtain⟨g1,g2,q1,q2,q3⟩:=step a l g h;obtain⟨g',w1,w2⟩:=rB jN I step l g2 q3;exact#[g',w1,by rw[List.map_cons];unfold cg;rw[q1];dsimp only;rw[q2];exact w2]
end
theorem ints_map(l: ~~~0):aQ (l.map .int)=!l:=by
 induction l with
 |nil=>rfl
 |cons a l ih=>simp[aQ,ih]
theorem P4(l:List Bool):uT (l.map .bl)=!l:=by
 induction l with
 |nil=>rfl
 |cons a l ih=>simp[uT,ih]
theorem Js(l: ~~~5)(h:∀x∈l,x≠[]):fP (l.map λx=>.tup (x.map .int))=!l:=by
 induction l with
 |nil=>rfl
 |cons a l ih=>
  have ha:=h a b0;cases a with
  |nil=>exact absurd rfl ha
  |cons x a=>
   have:=ints_map (x::a);simp only[List.map_cons]at this ⊢
   simp only[fP,this,ih λy hy=>h y (bP _ hy)]
theorem Dq(a: ~~~0)(l: ~~~5):aQ ((a::l).map λ(x: ~~~0)=>.tup (x.map .int))=none:=rfl
theorem Ju(l:List D):qV .len [.tup l]=!(.dat (.int l.length)):=rfl
theorem Jv(l:List D):qV .len [.lst l]=!(.dat (.int l.length)):=rfl
theorem wF(l:List D):qV .len [.fix l]=!(.dat (.int l.length)):=rfl
theorem Dr(l:List D):qV .list [.tup l]=!(.new l):=rfl
theorem Ds(l:List D):qV .list [.lst l]=!(.new l):=rfl
theorem yS(l:List D):qV .tuple [.lst l]=!(.dat (.tup l)):=rfl
theorem yT(l:List D):qV .tuple [.tup l]=!(.dat (.tup l)):=rfl
theorem P5(i j:Int):qV .max [.int i,.int j]=!(.dat (.int (if j > i then j else i))):=rfl
theorem P6(i j:Int):qV .min [.int i,.int j]=!(.dat (.int (if j<i then j else i))):=rfl
theorem W0(l:List Bool):qV .all [.lst (l.map .bl)]=!(.dat (.bl (l.all id))):=by simp only[qV,VN,P4]
theorem Jw(l: ~~~0):qV .sum [.tup (l.map .int)]=!(.dat (.int l.sum)):=by simp only[qV,VN,cJ,ints_map]
theorem wG(l: ~~~0):qV .sum [.lst (l.map .int)]=!(.dat (.int l.sum)):=by simp only[qV,VN,cJ,ints_map]
theorem fj:∀a b:List Int,dg (a.map .int) (b.map .int)=decide (a=b)
 | [],[]=>rfl
 | [],_::_=>rfl
 |_::_,[]=>rfl
 |x::a,y::b=>by
  simp only[List.map_cons,dg,fj a b,List.cons.injEq,Bool.decide_and];rfl
theorem kG(a: ~~~0):eE (a.map .int)=true:=by
 induction a with
 |nil=>rfl
 |cons x a ih=>simp[eE,jd,ih]
theorem kJ(a: ~~~0):deps (a.map .int)=0:=by
 induction a with
 |nil=>rfl
 |cons x a ih=>simp[deps,dep,ih]
theorem rC(a b: ~~~0):oA (.tup (a.map .int)) (.tup (b.map .int))=true:=by simp[oA,jd,kG,dep,kJ]
theorem oZ(a b: ~~~0):oA (.lst (a.map .int)) (.lst (b.map .int))=true:=by simp[oA,jd,kG,dep,kJ]
theorem W2(a b: ~~~0):jH .Eq (.tup (a.map .int)) (.tup (b.map .int))=!(decide (a=b)):=by simp only[jH,rC,if_true,cI,fj]
theorem W3(a b: ~~~0):jH .NotEq (.tup (a.map .int)) (.tup (b.map .int))=!((not (decide (a=b)))):=by simp only[jH,rC,if_true,cI,fj]
theorem W4(a b: ~~~0):jH .Eq (.lst (a.map .int)) (.lst (b.map .int))=!(decide (a=b)):=by simp only[jH,oZ,if_true,cI,fj]
theorem Jx(a b: ~~~0):jH .NotEq (.lst (a.map .int)) (.lst (b.map .int))=!((not (decide (a=b)))):=by simp only[jH,oZ,if_true,cI,fj]
theorem W5(a b:Int):jH .Eq (.int a) (.int b)=!(decide (a=b)):=rfl
theorem W6(a b:Int):jH .NotEq (.int a) (.int b)=!((not (decide (a=b)))):=rfl
theorem W7(a b:Int):jH .Lt (.int a) (.int b)=!(decide (a<b)):=rfl
theorem W8(a b:Int):jH .LtE (.int a) (.int b)=!(decide (a<=b)):=rfl
theorem W9(a b:Int):jH .GtE (.int a) (.int b)=!(decide (a ≥ b)):=rfl
theorem P7(a b:Int):zW .Add (.int a) (.int b)=!(.dat (.int (a+b))):=rfl
theorem P8(a b:Int):zW .Sub (.int a) (.int b)=!(.dat (.int (a - b))):=rfl
theorem ix_t(l:List D)(i:Int):Oh (.tup l) (.int i)=L2.g9 l i:=rfl
theorem ix_l(l:List D)(i:Int):Oh (.lst l) (.int i)=L2.g9 l i:=rfl
theorem ix_f(l:List D)(i:Int):Oh (.fix l) (.int i)=L2.g9 l i:=rfl
theorem Af{α:Type}(l:List α)(i:Nat)(h:i<l.length):L2.g9 l (i:Int)=some l[i]:=by unfold L2.g9 L2.xD;simp[h]
theorem wH(l: ~~~0)(i:Nat)(h:i<l.length):L2.g9 (l.map D.int) (i:Int)=!(.int l[i]):=by
 rw[Af _ _ (by simpa using h)]
 simp
theorem is_tup(l:List D):kh (qo (.tup l)) "tuple"=true:=rfl
theorem Xa(i:Int):kh (qo (.int i)) "int"=true:=rfl
theorem Jy(i:Int):kh (qo (.int i)) "bool"=false:=rfl
theorem aF(m:Nat)(h:m<=1000):m<=lim:=n0 h ⋯
theorem bC(i:Int)(h:0<=i/\i<=1000):Kr i=true:=by unfold Kr;simp only[dA];lia
section
theorem aY(h:fx.np=1):dD rn fx k [.dat d] g1=(bz rn k fx [d]).map λr=>(r,g1):=kF (ds:=[d]) h.symm
theorem aZ(h:fx.np=2):dD rn fx k [.dat d,.dat e] g1=(bz rn k fx [d,e]).map λr=>(r,g1):=kF (ds:=[d,e]) h.symm
theorem bK(h:fx.np=3):dD rn fx k [.dat d,.dat e,.dat f] g1=(bz rn k fx [d,e,f]).map λr=>(r,g1):=kF (ds:=[d,e,f]) h.symm
end
structure jg(fns:List Fx)(rn:Nat->Rn):Prop where
 e:∀(n:Nat) (bor:List Nat) (k:Nat) (x:Ex) (g:G),(rn (n+1)).e bor k x g=aP (rn n) bor k fns x g
 t:∀(n:Nat) (bor:List Nat) (k:Nat) (x:Ex) (g:G),(rn (n+1)).t bor k x g=stepT (rn n) bor k x g
 b:∀(n:Nat) (bor:List Nat) (k:Nat) (x:List Sm) (g:G),(rn (n+1)).b bor k x g=eZ (rn n) bor k x g
 x:∀(n:Nat) (bor:List Nat) (k:Nat) (x:Ex) (g:G),(rn (n+1)).x bor k x g=vX (rn n) bor k fns x g
 xt:∀(n:Nat) (bor:List Nat) (k:Nat) (x:Ex) (g:G),(rn (n+1)).xt bor k x g=tG (rn n) bor k x g
 xb:∀(n:Nat) (bor:List Nat) (k:Nat) (x:List Sm) (g:G),(rn (n+1)).xb bor k x g=fM (rn n) bor k x g
theorem P9(fns:List Fx):jg fns (run fns):=#[λ_ _ _ _ _=>rfl,λ_ _ _ _ _=>rfl,λ_ _ _ _ _=>rfl,λ_ _ _ _ _=>rfl,λ_ _ _ _ _=>rfl,λ_ _ _ _ _=>rfl]
def rD(rn:Rn)(k:Nat)(fx:Fx)(ds:List D):Option Nat:=match rn.xb [] k fx.body (dU fx.n (WY ds))with
 |!(ci,_)=>!ci
 |none=>none
theorem rE(hl:ds.length=fx.np):qW rn fx k (ds.map .dat) g1=(rD rn k fx ds).map λr=>(r,g1):=by
 unfold qW rD;rw[wz,wA,Ad];simp only[eA,hl,List.map_nil];cases rn.xb [] k fx.body (dU fx.n (ds.map .dat))with
 |none=>rfl
 |some p=>rfl
section
theorem Qa(h:fx.np=2):qW rn fx k [.dat d,.dat e] g1=(rD rn k fx [d,e]).map λr=>(r,g1):=rE (ds:=[d,e]) h.symm
theorem eu(h:fx.np=3):qW rn fx k [.dat d,.dat e,.dat f] g1=(rD rn k fx [d,e,f]).map λr=>(r,g1):=rE (ds:=[d,e,f]) h.symm
end
abbrev evZ:=And.intro @is_tup (And.intro @Xa (And.intro @Jy (And.intro @Ju (And.intro @Jv (And.intro @Dr (And.intro @Ds (And.intro @yS (And.intro @yT (And.intro @P5 (And.intro @P6 (And.intro @W0 (And.intro @Jw (And.intro @wG (And.intro @W2 (And.intro @W3 (And.intro @W4 (And.intro @Jx (And.intro @W5 (And.intro @W6 (And.intro @W7 (And.intro @W8 (And.intro @W9 (And.intro @P7 (And.intro @P8 (And.intro @ix_t (And.intro @ix_l @ix_f))))))))))))))))))))))))))
abbrev unfZ{fns rn}(U:jg fns rn):=And.intro U.e (And.intro U.t (And.intro U.b (And.intro U.x (And.intro U.xt U.xb))))
end Ev
set_option hygiene false in
local macro_rules | `(tactic|simp! [$u:term,$ls,*])=>`(tactic|simp[-List.map_map,-List.map_cons,-List.map_nil,Ev.unfZ $u,Ev.evZ,Ev.vX,Ev.tG,Ev.kj,Ev.fM,Ev.xArgs,Ev.xW,Ev.isW,Ev.eZ,Ev.aK,Ev.aP,Ev.stepT,Ev.argsR,Ev.lu,Ev.fz,Ev.toD,Ev.norm,Ev.pk,Ev.lJ,Ev.dU,Ev.dj,Ev.WY,Ev.Io,Ev.orF,Ev.vV,Ev.Ip,Ev.VP,Ev.Mr,$ls,*])
set_option hygiene false in
local macro_rules | `(~~~$x)=>`(Ev.D.tup (List.map Ev.D.int $x))
set_option hygiene false in
local macro_rules|`(∅)=>`((λx=>~~~x))
set_option hygiene false in
local macro_rules|`(~~~5)=>`(List (List Int))
local macro_rules|`(~~~0)=>`(List Int)
local macro_rules|`(~~~3)=>`(("__debug__":Str))
local macro_rules|`(~~~4)=>`([(.ret (.val (.bl false)))])
namespace Ev
noncomputable def bR:Fx:=#[2,4,[(.ite (.ix ⇑0 ↥1) [(.set 2 (.bin .Mod (.ix ⇑0 ↥0) ⇑1)),(.item 0 ↥0 (.bin .FloorDiv (.ix ⇑0 ↥0) ⇑1)),(.ret ⇑2)] []),(.item 0 ↥0 (.bin .Mod (.bin .Add (.bin .Mult (.ix ⇑0 ↥0) ↥48271) ↥29) ↥2147483647)),(.set 3 (.bin .Mod (.bin .Add (.bin .Add (.bin .Mult (.ix ⇑0 ↥0) (.ix ⇑0 ↥0)) (.bin .Mult ↥39373 (.ix ⇑0 ↥0))) ↥7) ↥2147483629)),(.set 3 (.bin .Mod (.bin .Add (.bin .Mult ⇑3 ⇑3) (.bin .Mult ↥16807 ⇑3)) ↥2147483587)),(.ret (.bin .Mod (.bin .FloorDiv ⇑3 ↥8) ⇑1))]]
noncomputable def o7:Fx:=#[2,2,[(.ite (.cmp .Lt ⇑1 (.blt .len [⇑0])) [(.ret (.ix ⇑0 ⇑1))] []),(.ret ↥0)]]
noncomputable def kK(ci:Nat):Fx:=#[2,3,[(.set 2 (.call ci [⇑0,⇑1])),(.ite (.cmp .GtE ⇑2 (.bin .Pow ↥10 ↥18)) [(.ret (.lst [(.bin .Sub ⇑2 (.bin .Pow ↥10 ↥18)),(.val (.bl true))]))] []),(.ret (.lst [(.bin .Mod ⇑2 ↥2147483647),(.val (.bl false))]))]]
noncomputable def gt(t: ~~~0)(i:Int):Int:=t.getD i.toNat 0
theorem tW{t: ~~~0}{i:Int}(h:0<=i/\i<t.length):L2.g9 (t.map D.int) i=!(.int (gt t i)):=by
 obtain⟨n,rfl⟩:∃n:Nat,i=n:=#[i.toNat,by lia]
 rw[wH t n ⋯];simp[gt,(by lia:n<t.length)]
noncomputable def nums(m:Nat): ~~~0:=(List.range m).map λ(k:Nat)=>(k:Int)
theorem aV{rn:Rn}{bor:List Nat}{k:Nat}{st:Sm}{rest:List Sm}{g g1:G}(h:aK rn bor k st g=!(.nx,g1)):eZ rn bor k (st::rest) g=eZ rn bor k rest g1:=by
 conv=>lhs;unfold eZ
 rw[h]
noncomputable abbrev St(s:Int)(fl:Bool):Slot:=.own [.int s,.bl fl]
theorem tY(a b:Int)(h:0<b):zW .Mod (.int a) (.int b)=!(.dat (.int (a % b))):=by simp[zW,lO,h]
theorem Ag(a b:Int)(h:0<b/\b<18446744073709551616):zW .FloorDiv (.int a) (.int b)=!(.dat (.int (a / b))):=by simp[zW,lO,h]
theorem mC(a b:Int)(h:0<b/\b<1073741824):zW .FloorDiv (.int a) (.int b)=!(.dat (.int (a / b))):=Ag a b ⋯
theorem cP(a b:Int)(h:(-(2 ^ 64)<a/\a<2 ^ 64)\/(-(2 ^ 64)<b/\b<2 ^ 64)):zW .Mult (.int a) (.int b)=!(.dat (.int (a * b))):=by
 have:iS a b=true:=by unfold iS;simp only[wS,dA,eQ];exact h
 simp[zW,Og,this]
section
variable{ti mi:Nat}(U:jg fns rn)(hT:fns[ti]?=!bR)
include U
theorem Xc(s:Int)(fl:Bool)(m:Int)(hm:0<m/\m<18446744073709551616):∃r s' s2 s3,0<=r/\r<m/\(rn (n+20)).b [0] k bR.body [St s fl,‹m›,.no,.no]=!(.rt ‹r›,[St s' fl,‹m›,s2,s3]):=by
 have i0:L2.g9 [D.int s,D.bl fl] 0=!(.int s):=rfl;have i1:L2.g9 [D.int s,D.bl fl] 1=!(.bl fl):=rfl;have x0':L2.xD 2 0=!0:=rfl;cases fl with
 |true=>refine#[s % m,s / m,.dat (.int (s % m)),.no,Int.emod_nonneg _ ⋯,Int.emod_lt_of_pos _ hm.1,?_];unfold bR;simp! [U,i0,i1,x0',tY _ _ hm.1,Ag _ _ hm]
 |false=>generalize hs1:(s * 48271+29) % 2147483647=s1;have j0:L2.g9 [D.int s1,D.bl false] 0=!(.int s1):=rfl;generalize hs2:(s1 * s1+39373 * s1+7) % 2147483629=s2;generalize hs3:(s2 * s2+16807 * s2) % 2147483587=s3;refine#[s3 / 8 % m,s1,.no,‹s3›,Int.emod_nonneg _ ⋯,Int.emod_lt_of_pos _ hm.1,?_];unfold bR;simp! [U,i0,i1,x0',tY,cP s 48271 (.inr ⋯),hs1,j0,cP s1 s1 (.inl ⋯),cP 39373 s1 (.inl ⋯),hs2,cP s2 s2 (.inl ⋯),cP 16807 s2 (.inl ⋯),hs3,mC _ _ (show (0:Int)<8/\(8:Int)<1073741824 by decide),hm.1]
theorem Jz{i:Nat}{s:Int}{fl:Bool}{m:Int}(hi:g[i]?=!(St s fl))(hm:0<m/\m<18446744073709551616):∃r s',0<=r/\r<m/\dD (rn (n+20)) bR k [.var i,‹m›] g=!(‹r›,g.set i (St s' fl)):=by obtain⟨r,s',s2,s3,h1,h2,h⟩:=Xc U s fl m hm;refine#[r,s',h1,h2,?_];have hp:dU bR.n [St s fl,‹m›]=[St s fl,‹m›,.no,.no]:=rfl;unfold dD;simp only[vars,dz,hi,List.map_cons,List.map_nil];rw[hp,h];rfl
theorem fL{i:Nat}{s:Int}{fl:Bool}{m:Int}(hi:g[i]?=!(St s fl))(hm:0<m/\m<1000):∃r s',0<=r/\r<m/\dD (rn (n+20)) bR k [.var i,‹m›] g=!(‹r›,g.set i (St s' fl)):=Jz U hi ⋯
end
section
variable{ci:Nat}(U:jg fns rn)(hC:fns[ci]?=!o7)
include U hC
omit U hC in
theorem rY:zW .Pow (.int 10) (.int 18)=!(.dat (.int (10 ^ 18))):=by rfl
theorem JB(ns: ~~~0)(hl:ns.length<=1000)(j:Nat):∃(s:Int) (fl:Bool),bz (rn (n+40)) (k+1) (kK ci) [.fix (ns.map .int),.int j]=!(.new [.int s,.bl fl]):=by
 obtain⟨v,q⟩:∃v:Int,∀n,bz (rn (n+20)) k o7 [.fix (ns.map .int),.int j]=!‹v›:=by
  by_cases h:j<ns.length
  .
   refine#[ns[j],λn=>?_]
   have h':(j:Int)<ns.length:=by lia
   have:=wH ns j h;unfold bz o7;simp! [U,wF,h',this]
  .
   refine#[0,λn=>?_]
   have h' : ¬ (j:Int)<ns.length:=by lia
   unfold bz o7;simp! [U,wF,h']
 by_cases hv:(1000000000000000000:Int)<=v
 . refine#[v - 1000000000000000000,true,?_];unfold bz kK;simp! [U,hC,aZ (fx:=o7) rfl,q,rY,hv,aF 2 ⋯]
 . refine#[v % 2147483647,false,?_];unfold bz kK;simp! [U,hC,aZ (fx:=o7) rfl,q,rY,hv,aF 2 ⋯,tY]
end
noncomputable def bF:Fx:=#[1,1,[(.ret (.and [(.pB ⇑0 "int"),(.not (.pB ⇑0 "bool"))]))]]
noncomputable def aU(w:Nat):Fx:=#[3,3,[(.ret (.and [(.call w [⇑0]),(.chain ⇑1 [.LtE,.LtE] [⇑0,⇑2])]))]]
def isInt:D->Bool
 |.int _=>true
 |_=>false
noncomputable def uy(lo hi:Int):D->Bool
 |.int i=>decide (lo<=i/\i<=hi)
 |_=>false
def Fair:D->Prop
 |.tup l=>l.length<=20/\∀x∈l,jd x=true/\dep x<=5
 |_=>True
theorem rF:∀{l:List D},l.all isInt=true->∃t:List Int,l=t.map .int
 | [],_=>#[[],rfl]
 |d::l,h=>by
  rw[CL,dA]at h;obtain⟨t,rfl⟩:=rF h.2;cases d with
  |int i=>exact#[i::t,rfl]
  |_=>cases h.1
section
variable{w wi mw it ci cj:Nat}(U:jg fns rn)
include U
theorem fu(d:D):bz (rn (n+6)) k bF [d]=!(.dat (.bl (isInt d))):=by
 have e:isInt d=(kh (qo d) "int" && (not (kh (qo d) "bool"))):=by cases d <;> rfl
 rw[e];unfold bz bF;cases h:kh (qo d) "int" <;> simp! [U,h]
variable(hW:fns[w]?=!bF)
include hW
theorem kL(d:D)(lo hi:Int):bz (rn (n+14)) (k+1) (aU w) [d,.int lo,.int hi]=!(.dat (.bl (uy lo hi d))):=by
 have no (e:isInt d=false):bz (rn (n+14)) (k+1) (aU w) [d,.int lo,.int hi]=!(.dat (.bl false)):=by unfold bz aU;simp! [U,hW,aY (fx:=bF) rfl,fu U,e]
 unfold bz aU;cases d with
 |int i=>
  by_cases h1:lo<=i
  .
   by_cases h2:i<=hi
   . simp! [U,hW,aY (fx:=bF) rfl,fu U,isInt,uy,h1]
   . simp! [U,hW,aY (fx:=bF) rfl,fu U,isInt,uy,h1]
  . simp! [U,hW,aY (fx:=bF) rfl,fu U,isInt,uy,h1]
 |_=>exact no rfl
omit U hW in
theorem yU{rn:Rn}{bor:List Nat}{k:Nat}{e:Ex}{rest:List Sm}{g:G}:fM rn bor k (.ret e::rest) g=rn.x bor k e g:=by
 unfold fM;simp only[kj];cases rn.x bor k e g with
 |some r=>rfl
 |none=>
  simp only[aK];cases rn.e bor k e g with
  |none=>rfl
  |some p=>rfl
omit hW in
theorem Ah(d1 d2 d3:D):rD (rn (n+14)) k (aU w) [d1,d2,d3]=none:=by unfold rD aU;rw[U.xb,yU];simp! [U,U.e]
end
noncomputable def bw(i ci:Nat):Fx:=#[3,3,[(.ite (.not (.call i [⇑0,⇑1,⇑2])) [(.raise ci (.vU [(false,(.val (.str (PySem.Str.ofString "no whole number from ")))),(true,⇑1),(false,(.val (.str (PySem.Str.ofString " to ")))),(true,⇑2)]))] [])]]
section
variable{k n:Nat}{g g1:G}{rn:Nat->Rn}{fns:List Fx}{w wi mw it ci cj:Nat}(U:jg fns rn)
include U
variable(hW:fns[w]?=!bF)
include hW
variable(hI:fns[wi]?=!(aU w))
include hI
theorem jK(d:D)(lo hi:Int)(h:uy lo hi d=true):bz (rn (n+24)) (k+2) (bw wi ci) [d,.int lo,.int hi]=!(.dat .non):=by unfold bz bw;simp! [U,hI,bK (fx:=aU w) rfl,kL U hW,h]
theorem JC(d:D)(lo hi:Int)(h:uy lo hi d=true):rD (rn (n+24)) (k+2) (bw wi ci) [d,.int lo,.int hi]=none:=by unfold rD bw;simp! [U,hI,eu (fx:=aU w) rfl,Ah U,bK (fx:=aU w) rfl,kL U hW,h]
end
noncomputable def Ai(i:Nat):Fx:=#[2,2,[(.ite (.De ⇑1 ["tuple", "list"]) [(.ite (.or [(.cmp .NotEq (.pB ⇑0 "tuple") (.pB ⇑1 "tuple")),(.cmp .NotEq (.pB ⇑0 "list") (.pB ⇑1 "list"))]) (~~~4) []),(.ite (.cmp .NotEq (.blt .len [⇑0]) (.blt .len [⇑1])) (~~~4) []),(.ret (.blt .all [(.comp 2 3 (.tp [3,4]) (.zip ⇑0 ⇑1) none (.call i [⇑3,⇑4]))]))] []),(.ret (.and [(.cmp .Eq ⇑0 ⇑1),(.cmp .Eq (.pB ⇑0 "bool") (.pB ⇑1 "bool"))]))]]
theorem tZ{l:List D}{r:Int}(h:0<=r/\r<l.length):∃x∈l,L2.g9 l r=!x:=by
 obtain⟨j,rfl⟩:∃j:Nat,r=j:=#[r.toNat,by lia]
 have hj:j<l.length:=by lia
 exact#[l[j],List.getElem_mem hj,Af l j hj]
section
variable(U:jg fns rn)
include U
theorem Qc(j:Int):bz (rn (n+20)) k (Ai i) [.int j,.int j]=!(.dat (.bl true)):=by unfold bz Ai;simp! [U,qo,kh,jH,oA,cI,jd,dep]
end
def Pl(x:D):Prop:=jd x=true/\dep x<=5
theorem Pl.int(i:Int):Pl (.int i):=#[rfl,tP _]
theorem Pl.ints{t: ~~~0}{x:D}(h:x∈t.map D.int):Pl x:=by obtain⟨i,_,rfl⟩:=i5.mp h;exact .int i
noncomputable def iX:Fx:=#[2,3,[(.set 2 (.lst [⇑1])),(.while (.cmp .NotEq (.ix ⇑0 (.ix ⇑2 (.neg ↥1))) ⇑1) [(.expr (.append 2 (.ix ⇑0 (.ix ⇑2 (.neg ↥1)))))]),(.ret (.blt .tuple [⇑2]))]]
noncomputable def iY(rf:Nat):Fx:=#[2,3,[(.setC 2 (.comp 3 2 (.nm 4) ⇑1 none (.call rf [⇑0,⇑4]))),(.ret (.comp 3 2 (.nm 4) ⇑2 (!(.cmp .Eq (.ix ⇑4 ↥0) (.blt .min [⇑4]))) ⇑4))]]
noncomputable def okFS(lo hi:Int):Bool:=
 let a:=PySem.Str.empty++PySem.Str.ofString "no whole number from "
 let b:=a++(toString lo:PySem.Str)
 let c:=b++PySem.Str.ofString " to "
 decide (lo.natAbs.log2<1920)&&decide (hi.natAbs.log2<1920)&&decide (a.length<=lim)&&decide (b.length<=lim)&&decide (c.length<=lim)&&decide ((c++(toString hi:PySem.Str)).length<=lim)
section
variable{k n:Nat}{g g1:G}{rn:Nat->Rn}{fns:List Fx}{w wi ci:Nat}(U:jg fns rn)(hW:fns[w]?=!bF)(hI:fns[wi]?=!(aU w))
include U hW hI
theorem Aj(d:D)(lo hi:Int)(hf:okFS lo hi=true)(h:uy lo hi d=false):rD (rn (n+24)) (k+2) (bw wi ci) [d,.int lo,.int hi]=!ci:=by
 have e:∃x,∀(n k:Nat),Rh (rn (n+1)) [] k PySem.Str.empty [(false,(.val (.str (PySem.Str.ofString "no whole number from ")))),(true,⇑1),(false,(.val (.str (PySem.Str.ofString " to ")))),(true,⇑2)] [.dat d,‹lo›,‹hi›]=!(x,[.dat d,‹lo›,‹hi›]):=by
  unfold okFS at hf;simp only[dA,eQ]at hf;obtain⟨⟨⟨⟨⟨h1,h2⟩,h3⟩,h4⟩,h5⟩,h6⟩:=hf;refine#[PySem.Str.empty++PySem.Str.ofString "no whole number from " ++ (toString lo:PySem.Str)++PySem.Str.ofString " to " ++ (toString hi:PySem.Str),λn k=>?_]
  simp only[Rh,fz,U.e,aP,toD];rw[hV h3];simp only[List.getElem?_cons_succ,List.getElem?_cons_zero];rw[hV #[h1,h4],hV h5];rw[hV #[h2,h6]]
 obtain⟨x,e⟩:=e;unfold rD bw;simp! [U,hI,eu (fx:=aU w) rfl,Ah U,bK (fx:=aU w) rfl,kL U hW,h,e]
end
theorem o8:∀{l:List D}{ns: ~~~0},aQ l=!ns->l=ns.map .int
 | [],ns,h=>by symm;rfl
 |d::l,ns,h=>by
  cases d with
  |int i=>
   unfold aQ at h;cases e:aQ l with
   |none=>rw[e]at h;symm
   |some ms=>rw[e]at h;symm;rw[o8 e];rfl
  |_=>symm
theorem wI:∀{l:List D}{ts: ~~~5},fP l=!ts->l=ts.map ∅
 | [],ts,h=>by symm;rfl
 |d::l,ts,h=>by
  cases d with
  |tup x=>
   unfold fP at h;split at h
   . rename_i n ns dF e1 e2;symm;rw[wI e2,o8 e1];rfl
   . symm
  |_=>symm
noncomputable def kup:Nat->Nat->Nat->List (~~~0)
 | 0,_,_=>[]
 |f+1,left,most=>if left=0 then [[]]else (List.range (min left most)).flatMap λ(i:Nat)=>(kup f (left - (i+1)) (i+1)).map ((((i+1:Nat):Int)) :: ·)
def kinds(m:Nat): ~~~5:=kup (m+1) m m
def pC:Nat->Int
 | 0=>1
 |n+1=>pC n * ((n+1:Nat):Int)
noncomputable def gW: ~~~0->~~~0->Int
 |_,[]=>1
 |b,a::l=>a * (((b++[a]).count a:Nat):Int) * gW (b++[a]) l
def cnt(m:Nat)(t: ~~~0):Int:=pC m / gW [] t
noncomputable def Qd:Nat->~~~0->Prop
 |_,[]=>True
 |most,a::l=>1<=a/\a<=most/\Qd a.toNat l
theorem Qd.pos:∀{t: ~~~0}{most:Nat},Qd most t->0<=t.sum/\(t≠[]->1<=t.sum)
 | [],_,_=>#[by simp,λh=>absurd rfl h]
 |a::l,_,h=>by
  have:=(Qd.pos h.2.2).1;have h1:=h.1;simp only[BY];lia
theorem uc:∀(f left most:Nat) (t: ~~~0),left<f->(t∈kup f left most ↔ t.sum=left/\Qd most t)
 | 0,_,_,_,h=>absurd h (v6 _)
 |f+1,left,most,t,h=>by
  unfold kup;by_cases hl:left=0
  .
   rw[hV hl];subst hl;rw[mP];refine#[λe=>by subst e;exact#[rfl,trivial],λ#[e,q]=>?_]
   cases t with
   |nil=>rfl
   |cons a l=>have:=q.pos.2 ⋯;lia
  .
   rw[fN hl];simp only[List.mem_flatMap,yB,i5];constructor
   .
    rintro⟨i,hi,l,hm,rfl⟩;obtain⟨e,q⟩:=(uc f _ _ l ⋯).mp hm;refine#[by rw[BY,e];lia,by lia,by lia,?_]
    rw[show ((i+1:Nat):Int).toNat=i+1 by lia]
    exact q
   .
    rintro⟨e,q⟩;cases t with
    |nil=>simp at e;lia
    |cons a l=>
     obtain⟨q1,q2,q3⟩:=q;have hp:=q3.pos.1;rw[BY]at e;refine#[(a - 1).toNat,by lia,l,(uc f _ _ l ⋯).mpr #[by lia,?_],?_]
     . rw[show (a - 1).toNat+1=a.toNat by lia];exact q3
     .
      congr 1;lia
noncomputable def adj: ~~~0->Bool
 |a::b::l=>decide (a ≥ b)&&adj (b::l)
 |_=>true
theorem Ak:∀(t: ~~~0) (most:Nat),Qd most t ↔ (∀a∈t,1<=a)/\adj t=true/\(∀a∈t.head?,a<=most)
 | [],_=>by simp[Qd,adj]
 | [a],most=>by simp[Qd,adj]
 |a::b::l,most=>by
  have ih:=Ak (b::l) a.toNat;simp only[Qd]at ih ⊢
  simp only[adj,dA,eQ,dL,List.head?_cons,Option.mem_def,Option.some.injEq,forall_eq',forall_eq_or_imp]at ih ⊢
  constructor
  . rintro⟨h1,h2,h3,h4,h5⟩;have:=ih.mp #[h3,h4,h5];exact#[#[h1,this.1.1,this.1.2],#[by lia,this.2.1],h2]
  . rintro⟨⟨h1,h2,h3⟩,⟨h4,h5⟩,h6⟩;exact#[h1,h6,ih.mpr #[#[h2,h3],h5,by lia]]
theorem rG(m:Nat)(t: ~~~0):t∈kinds m ↔ (∀a∈t,1<=a)/\t.sum=m/\adj t=true:=by
 unfold kinds;rw[uc _ _ _ _ (pE _),Ak];constructor
 . rintro⟨h1,h2,h3,_⟩;exact#[h2,h1,h3]
 .
  rintro⟨h1,h2,h3⟩;refine#[h2,h1,h3,λa ha=>?_]
  cases t with
  |nil=>cases ha
  |cons b l=>
   cases ha;have hl:0<=l.sum:=by
    have:∀(l: ~~~0),(∀a∈l,1<=a)->0<=l.sum:=λl=>by
     induction l with
     |nil=>intro _;simp
     |cons x l ih=>intro h;have:=ih λa ha=>h a (bP _ ha);have:=h x b0;rw[BY];lia
    exact this l λa ha=>h1 a (bP _ ha)
   rw[BY]at h2;lia
noncomputable def iL:Fx:=#[1,1,[(.ret (.blt .all [(.comp 1 2 (.nm 2) (.dJ ↥1 (.blt .len [⇑0])) none (.cmp .GtE (.ix ⇑0 (.bin .Sub ⇑2 ↥1)) (.ix ⇑0 ⇑2)))]))]]
noncomputable def bV(mw w fa:Nat):Fx:=#[2,2,[(.expr (.call mw [⇑0,↥1,↥9])),(.ite (.not (.pB ⇑1 "tuple")) (~~~4) []),(.ite (.not (.blt .all [(.comp 2 2 (.nm 3) ⇑1 none (.and [(.call w [⇑3]),(.cmp .GtE ⇑3 ↥1)]))])) (~~~4) []),(.ret (.and [(.cmp .Eq (.blt .sum [⇑1]) ⇑0),(.call fa [⇑1])]))]]
noncomputable def cL(ik ci:Nat):Fx:=#[2,2,[(.ite (.not (.call ik [⇑0,⇑1])) [(.raise ci (.vU [(false,(.val (.str (PySem.Str.ofString "no kind of turns of ")))),(true,⇑0)]))] [])]]
def Qe(m:Nat):D->Bool
 |.tup l=>match aQ l with
  |some t=>decide (t∈kinds m)
  |none=>false
 |_=>false
def Xd(t: ~~~0):Bool:=(List.range (t.length - 1)).all λi=>decide (gt t i ≥ gt t (i+1))
theorem Al(a:Int)(l: ~~~0)(i:Nat):gt (a::l) ((i:Int)+1)=gt l i:=by
 unfold gt;rw[show ((i:Int)+1).toNat=i+1 by lia,show (i:Int).toNat=i by lia]
 simp
theorem Am:∀t:List Int,Xd t=adj t
 | []=>rfl
 | [a]=>rfl
 |a::b::l=>by
  have ih:=Am (b::l);unfold Xd at ih ⊢
  simp only[gL,Nat.add_sub_cancel]at ih ⊢
  rw[List.range_succ_eq_map,CL,List.all_map,adj,<- ih];have:∀i:Nat,decide (gt (a::b::l) ((i+1:Nat):Int) ≥ gt (a::b::l) (((i+1:Nat):Int)+1))=decide (gt (b::l) (i:Int) ≥ gt (b::l) ((i:Int)+1)):=λi=>by
   rw[show ((i+1:Nat):Int)=(i:Int)+1 by lia,Al,show (i:Int)+1+1=((i+1:Nat):Int)+1 by lia,Al,show ((i+1:Nat):Int)=(i:Int)+1 by lia]
  have h2:(λi:Nat=>decide (gt (a::b::l) (i:Int) ≥ gt (a::b::l) ((i:Int)+1))) ∘ Nat.succ=λi:Nat=>decide (gt (b::l) (i:Int) ≥ gt (b::l) ((i:Int)+1)):=funext this
  rw[h2];rfl
def pos1:D->Bool
 |.int i=>decide (i ≥ 1)
 |_=>false
theorem Qf(h:isInt a=false):pos1 a=false:=by cases a <;> first |rfl |symm
theorem JD(h:isInt a=true):∃i,a=.int i:=by cases a <;> first |exact#[_,rfl] |symm
theorem rH(t: ~~~0):(t.map D.int).all pos1=true ↔ ∀a∈t,1<=a:=by simp[eC,pos1]
theorem JF(h:l.all pos1=true):∃t:List Int,l=t.map .int:=rF (eC.mpr λx hx=>by
 have:=eC.mp h x hx;cases x <;> first |rfl |cases this)
theorem rJ(m:Nat)(t: ~~~0):Qe m (~~~t)=decide (t∈kinds m):=by
 show (match aQ (t.map .int)with |some t=>decide (t∈kinds m) |none=>false)=_
 rw[ints_map]
theorem Qg(m:Nat)(h:l.all pos1=false):Qe m (.tup l)=false:=by
 show (match aQ l with |some t=>decide (t∈kinds m) |none=>false)=_
 cases e:aQ l with
 |none=>rfl
 |some t=>dsimp only;rw[decide_eq_false_iff_not,rG];rintro⟨q,_⟩;rw[o8 e,(rH t).mpr q]at h;symm
section
variable{k n:Nat}{g g1:G}{rn:Nat->Rn}{fns:List Fx}{w wi mw fa ik ci cj:Nat}(U:jg fns rn)
include U
theorem Qh(t: ~~~0)(h:t.length<=1000):bz (rn (n+20)) k iL [~~~t]=!(.dat (.bl (adj t))):=by
 have w1:∀n k,iI (rn (n+10)) [] k 1 2 (.nm 2) (.dJ ↥1 (.blt .len [⇑0])) none (.cmp .GtE (.ix ⇑0 (.bin .Sub ⇑2 ↥1)) (.ix ⇑0 ⇑2)) [.dat (~~~t)]=!(((List.range (t.length - 1)).map λ(i:Nat)=>decide (gt t i ≥ gt t (i+1))).map .bl,[.dat (~~~t)]):=λn k=>by
  rw[List.map_map];refine wC (rn:=rn (n+10)) (bor:=[]) (k:=k) (g:=[.dat (~~~t)]) (g1:=[.dat (~~~t)]) (kk:=2) (nn:=1) (j:=2) (List.range (t.length - 1)) (λ(i:Nat)=>D.int (1+(i:Int))) (λ(i:Nat)=>.bl (decide (gt t i ≥ gt t (i+1)))) ?_ rfl ⋯ ⋯ ⋯ (aF _ (by rw[B6];lia)) λi hi G' hG=>?_
  .
   have hr:((t.length:Int) - 1).toNat=t.length - 1:=by lia
   have o1:=bC 1 ⋯;have o2:=bC (t.length:Int) ⋯;simp! [U,fW,o1,o2,dR,hr]
  .
   have h0:=hG.1 0 ⋯;have h2:=hG.2;rw[yB]at hi;have a1:L2.g9 (t.map D.int) (1+(i:Int) - 1)=!(.int (gt t i)):=by rw[show 1+(i:Int) - 1=(i:Int)by lia];exact tW ⋯
   have a2:L2.g9 (t.map D.int) (1+(i:Int))=!(.int (gt t (i+1))):=by rw[show 1+(i:Int)=(i:Int)+1 by lia];exact tW ⋯
   simp only[List.getElem?_cons_zero]at h0;simp! [U,h0,h2,a1,a2]
 have e:((List.range (t.length - 1)).map λ(i:Nat)=>decide (gt t i ≥ gt t (i+1))).all id=adj t:=by rw[<- Am];unfold Xd;rw[List.all_map];rfl
 unfold bz iL;simp! [U,w1,e]
variable(hW:fns[w]?=!bF)(hF:fns[fa]?=!iL)(hI:fns[wi]?=!(aU w))(hM:fns[mw]?=!(bw wi ci))
include hW hF hI hM
theorem JG(m:Nat)(hm:1<=m/\m<=9)(d:D)(hd:kh (qo d) "tuple"=false):bz (rn (n+40)) (k+4) (bV mw w fa) [.int m,d]=!(.dat (.bl false))/\rD (rn (n+40)) (k+4) (bV mw w fa) [.int m,d]=none:=by
 have hin:uy 1 9 (.int m)=true:=by unfold uy;simp only[eQ];lia
 have mu:=λn k=>jK U hW hI (n:=n) (k:=k) (ci:=ci) (.int m) 1 9 hin
 have mx:=λn k=>JC U hW hI (n:=n) (k:=k) (ci:=ci) (.int m) 1 9 hin
 unfold bz rD bV;constructor
 . simp! [U,hM,bK (fx:=bw wi ci) rfl,mu,hd]
 . simp! [U,hM,bK (fx:=bw wi ci) rfl,mu,eu (fx:=bw wi ci) rfl,mx,hd]
theorem Dt(m:Nat)(hm:1<=m/\m<=9)(d:D)(hd:Fair d):bz (rn (n+40)) (k+4) (bV mw w fa) [.int m,d]=!(.dat (.bl (Qe m d)))/\rD (rn (n+40)) (k+4) (bV mw w fa) [.int m,d]=none:=by
 have hin:uy 1 9 (.int m)=true:=by unfold uy;simp only[eQ];lia
 have mu:=λn k=>jK U hW hI (n:=n) (k:=k) (ci:=ci) (.int m) 1 9 hin
 have mx:=λn k=>JC U hW hI (n:=n) (k:=k) (ci:=ci) (.int m) 1 9 hin
 cases d with
 |tup l=>
  obtain⟨h1,h2⟩:=hd;have o:∀n k,iI (rn (n+14)) [] (k+1) 2 2 (.nm 3) ⇑1 none (.and [(.call w [⇑3]),(.cmp .GtE ⇑3 ↥1)]) [‹m›,.dat (.tup l)]=!((l.map pos1).map .bl,[‹m›,.dat (.tup l)]):=λn k=>by
   rw[List.map_map];have:=wC (rn:=rn (n+14)) (bor:=[]) (k:=k+1) (g:=[‹m›,.dat (.tup l)]) (g1:=[‹m›,.dat (.tup l)]) (kk:=2) (nn:=2) (j:=3) (it:=.slot 1) (e:=(.and [(.call w [⇑3]),(.cmp .GtE ⇑3 ↥1)])) l id (λx=>.bl (pos1 x)) (by simp! [U,fW]) rfl ⋯ ⋯ ⋯ (aF _ ⋯) λa _ G' hG=>by
    have h2:=hG.2;simp only[id]at h2;cases hi:isInt a with
    |true=>obtain⟨i,rfl⟩:=JD hi;simp! [U,h2,hW,aY (fx:=bF) rfl,fu U,isInt,pos1]
    |false=>simp! [U,h2,hW,aY (fx:=bF) rfl,fu U,hi,Qf hi]
   exact this
  have ea:(l.map pos1).all id=l.all pos1:=by simp[List.all_map]
  cases e:l.all pos1 with
  |true=>
   obtain⟨t,rfl⟩:=JF e;have q:=(rH t).mp e;have hl:t.length<=20:=by have:=eA (as:=t) D.int;lia
   have fa':=λn k=>Qh U (n:=n) (k:=k) t ⋯
   have hk:Qe m (~~~t)=(decide (t.sum=m)&&adj t):=by rw[rJ,Bool.eq_iff_iff];simp only[eQ,dA,rG];exact#[λh=>h.2,λh=>#[q,h]]
   rw[hk];rw[e]at ea;unfold bz rD bV;constructor
   .
    cases hs:decide (t.sum=(m:Int))with
    |true=>simp! [U,hM,bK (fx:=bw wi ci) rfl,mu,o,ea,hs,hF,aY (fx:=iL) rfl,fa',(i4 hs)]
    |false=>simp! [U,hM,bK (fx:=bw wi ci) rfl,mu,o,ea,hs,hF,aY (fx:=iL) rfl,fa',(BS hs)]
   .
    cases hs:decide (t.sum=(m:Int))with
    |true=>simp! [U,hM,bK (fx:=bw wi ci) rfl,mu,eu (fx:=bw wi ci) rfl,mx,o,ea,hF,aY (fx:=iL) rfl,fa',(i4 hs)]
    |false=>simp! [U,hM,bK (fx:=bw wi ci) rfl,mu,eu (fx:=bw wi ci) rfl,mx,o,ea,hF,aY (fx:=iL) rfl,fa',(BS hs)]
  |false=>
   rw[Qg m e];rw[e]at ea;unfold bz rD bV;constructor
   . simp! [U,hM,bK (fx:=bw wi ci) rfl,mu,o,ea]
   . simp! [U,hM,bK (fx:=bw wi ci) rfl,mu,eu (fx:=bw wi ci) rfl,mx,o,ea]
 |_=>exact JG U hW hF hI hM m hm _ rfl
variable(hK:fns[ik]?=!(bV mw w fa))
include hK
theorem lB(m:Nat)(hm:1<=m/\m<=9)(t: ~~~0)(h:t∈kinds m)(hl:t.length<=20):bz (rn (n+50)) (k+5) (cL ik cj) [.int m,~~~t]=!(.dat .non):=by
 have hd:Fair (~~~t):=#[by rw[eA];exact hl,λx hx=>Pl.ints hx]
 have q:=λn k=>(Dt U hW hF hI hM (n:=n) (k:=k) m hm (~~~t) hd).1
 rw[rJ,kS h]at q;unfold bz cL;simp! [U,hK,aZ (fx:=bV mw w fa) rfl,q]
end
noncomputable def Du:Fx:=#[2,2,[(.ret (.ite (.cmp .Lt ⇑0 ⇑1) (.tup [⇑0,⇑1]) (.tup [⇑1,⇑0])))]]
noncomputable def Dw(pa al ti:Nat):Fx:=#[1,2,[(.set 1 (.call pa [(.blt .len [⇑0])])),(.ret (.call al [(.qR 2 3 (.tp [3,4]) ⇑1 [⇑3,⇑4] (.call ti [(.ix ⇑0 ⇑3),(.ix ⇑0 ⇑4)])),⇑1]))]]
noncomputable def fy(l: ~~~5): ~~~0:=l.getLastD []
theorem kM(h:l≠[]):fy l∈l:=by unfold fy;rw[List.getLastD_eq_getLast?,List.getLast?_eq_some_getLast h];exact List.getLast_mem h
theorem rK(l: ~~~5)(h:l≠[]):L2.g9 (l.map ∅) (-1)=!(~~~(fy l)):=by
 obtain⟨a,x,rfl⟩:∃a x,l=a++[x]:=#[l.dropLast,l.getLast h,(List.dropLast_concat_getLast h).symm];unfold L2.g9 L2.xD fy;have hz:(List.map ∅ (a++[x])).length=a.length+1:=by simp
 rw[hz,fN ⋯,hV ⋯,show (-1+((a.length+1:Nat):Int)).toNat=a.length by lia]
 simp
def Ej(nx: ~~~0->~~~0)(s: ~~~0):Nat->List (~~~0)->Option (~~~5)
 | 0,acc=>if nx (fy acc)=s then some acc else none
 |f+1,acc=>if nx (fy acc)=s then some acc else Ej nx s f (acc++[nx (fy acc)])
def kN(nx: ~~~0->~~~0)(s: ~~~0): ~~~5:=(Ej nx s 40 [s]).getD []
def yV(r: ~~~5):Bool:=match r with
 | []=>false
 |n::l=>decide (n=lN n l)
def JH(nx: ~~~0->~~~0)(ps: ~~~5):List (~~~5):=(ps.map (kN nx)).filter yV
def iD(u: ~~~0)(p: ~~~0): ~~~0:=match p with
 | [a,b]=>if gt u a<gt u b then [gt u a,gt u b]else [gt u b,gt u a]
 |_=>[]
def wJ(nx: ~~~0->~~~0)(ps: ~~~5):Bool:=ps.all λp=>decide (nx p∈ps)&&(match Ej nx p 40 [p]with |some r=>(not r.isEmpty)&&decide (r.length<=41) |none=>false)&&(not p.isEmpty)
theorem Ao{nx: ~~~0->~~~0}{ps: ~~~5}(hc:∀p∈ps,nx p∈ps){s: ~~~0}{r: ~~~5}:∀(f:Nat) (acc: ~~~5),acc≠[]->(∀x∈acc,x∈ps)->Ej nx s f acc=!r->∀x∈r,x∈ps
 | 0,acc,_,h,e=>by
  unfold Ej at e;split at e
  . cases e;exact h
  . cases e
 |f+1,acc,ha,h,e=>by
  unfold Ej at e;split at e
  . cases e;exact h
  . exact Ao hc f _ ⋯ (λx hx=>(vS.mp hx).elim (h x) λz=>by rw[mP.mp z];exact hc _ (h _ (kM ha))) e
theorem Aq(f: ~~~0->D):∀{ps: ~~~5}{p: ~~~0},p∈ps->Q7 ps (ps.map f) p=!(f p)
 |q::ps,p,h=>by
  unfold Q7;rw[List.map_cons];by_cases e:q=p
  . simp[e]
  . simp only[e,BM];exact Aq f ((dL.mp h).resolve_left λz=>e z.symm)
theorem Qi(n: ~~~0)(l: ~~~5)(h:∀x∈n::l,x≠[]):qV .min [.tup ((n::l).map ∅)]=!(.dat (~~~(lN n l))):=by have e:=Js (n::l) h;have e2:=Dq n l;simp only[qV,VN,cJ,e2,e]
section
variable{k n:Nat}{g g1:G}{rn:Nat->Rn}{fns:List Fx}{pa al ti rf:Nat}(U:jg fns rn)
include U
theorem Qj(L:D)(nx: ~~~0->~~~0)(ps: ~~~5)(hix:∀p∈ps,Oh L (~~~p)=!(~~~(nx p)))(hcl:∀p∈ps,nx p∈ps)(s: ~~~0)(r: ~~~5):∀(f N:Nat) (acc: ~~~5),f<N->acc≠[]->(∀x∈acc,x∈ps)->acc.length+f<=100->Ej nx s f acc=!r->
  Oi ((rn (n+12)).t [] k (.cmp .NotEq (.ix ⇑0 (.ix ⇑2 (.neg ↥1))) ⇑1)) ((rn (n+12)).b [] k [(.expr (.append 2 (.ix ⇑0 (.ix ⇑2 (.neg ↥1)))))]) N [.dat L,.dat (~~~s),.own (acc.map ∅)]=!(.nx,[.dat L,.dat (~~~s),.own (r.map ∅)]):=by
 have test:∀acc:List (~~~0),acc≠[]->(∀x∈acc,x∈ps)->(rn (n+12)).t [] k (.cmp .NotEq (.ix ⇑0 (.ix ⇑2 (.neg ↥1))) ⇑1) [.dat L,.dat (~~~s),.own (acc.map ∅)]=!((not (decide (nx (fy acc)=s))),[.dat L,.dat (~~~s),.own (acc.map ∅)]):=λacc h1 h2=>by
  have hx:=hix (fy acc) (h2 _ (kM h1));simp! [U,rK acc h1,hx]
 intro f
 induction f with
 |zero=>
  intro N acc hN h1 h2 h3 hr;obtain⟨N,rfl⟩:∃N',N=N'+1:=#[N - 1,by lia]
  unfold Ej at hr;split at hr
  . rename_i e;cases hr;unfold Oi;rw[test _ h1 h2];simp[e]
  . cases hr
 |succ f ih=>
  intro N acc hN h1 h2 h3 hr;obtain⟨N,rfl⟩:∃N',N=N'+1:=#[N - 1,by lia]
  unfold Ej at hr;have hx:=h2 (fy acc) (kM h1);split at hr
  . rename_i e;cases hr;unfold Oi;rw[test _ h1 h2];simp[e]
  .
   rename_i e;unfold Oi;rw[test acc h1 h2];simp only[e,decide_false,Bool.not_false];have hb:(rn (n+12)).b [] k [(.expr (.append 2 (.ix ⇑0 (.ix ⇑2 (.neg ↥1)))))] [.dat L,.dat (~~~s),.own (acc.map ∅)]=!(.nx,[.dat L,.dat (~~~s),.own ((acc++[nx (fy acc)]).map ∅)]):=by have hlt:acc.length<lim:=eM (pE _) (aF (acc.length+1) ⋯);simp! [U,rK acc h1,hix (fy acc) hx,hlt];simp
   rw[hb];dsimp only;refine ih N (acc++[nx (fy acc)]) ⋯ ⋯ (λx hx'=>?_) (by rw[eP,v3];lia) hr
   rcases vS.mp hx' with hx' |hx'
   . exact h2 x hx'
   . cases mP.mp hx';exact hcl _ hx
theorem Dy(L:D)(nx: ~~~0->~~~0)(ps: ~~~5)(hix:∀p∈ps,Oh L (~~~p)=!(~~~(nx p)))(hcl:∀p∈ps,nx p∈ps)(s: ~~~0)(hs:s∈ps)(r: ~~~5)(hr:Ej nx s 40 [s]=!r):bz (rn (n+20)) k iX [L,~~~s]=!(.dat (.tup (r.map ∅))):=by
 have w:=λn k=>Qj U (n:=n) (k:=k) L nx ps hix hcl s r 40 100000 [s] ⋯ ⋯ (by simpa using hs) ⋯ hr
 have e:List.map ∅ [s]=[~~~s]:=rfl
 simp only[e]at w;unfold bz iX;simp! [U,w,aF 1 ⋯]
omit U in
theorem jL{nx: ~~~0->~~~0}{ps: ~~~5}(h:wJ nx ps=true){p: ~~~0}(hp:p∈ps):nx p∈ps/\Ej nx p 40 [p]=!(kN nx p)/\kN nx p≠[]/\(∀x∈kN nx p,x∈ps)/\(kN nx p).length<=41/\p≠[]:=by
 have:=eC.mp h p hp;simp only[dA,eQ]at this;obtain⟨⟨h1,h2⟩,h3⟩:=this;unfold kN;cases e:Ej nx p 40 [p]with
 |none=>rw[e]at h2;cases h2
 |some r=>
  rw[e]at h2;simp only[dA,eQ]at h2;obtain⟨h4,h6⟩:=h2;have hc:∀q∈ps,nx q∈ps:=λq hq=>by
   have:=eC.mp h q hq;simp only[dA,eQ]at this;exact this.1.1
  have h5:∀x∈r,x∈ps:=Ao hc 40 [p] ⋯ (by simpa using hp) e
  exact#[h1,rfl,λz=>(by rw[show r=[]from z]at h4;cases h4),h5,h6,λz=>(by rw[z]at h3;cases h3)]
variable(hR:fns[rf]?=!iX)
include hR
theorem Dz(L:D)(nx: ~~~0->~~~0)(ps: ~~~5)(hix:∀p∈ps,Oh L (~~~p)=!(~~~(nx p)))(hg:wJ nx ps=true)(hl:ps.length<=100):bz (rn (n+40)) (k+1) (iY rf) [L,.lst (ps.map ∅)]=!(.new ((JH nx ps).map λr=>.tup (r.map ∅))):=by
 have hcl:∀p∈ps,nx p∈ps:=λp hp=>(jL hg hp).1
 have w1:=λn k=>wC (rn:=rn (n+30)) (bor:=[]) (k:=k+1) (g:=[.dat L,.dat (.lst (ps.map ∅)),.no]) (g1:=[.dat L,.dat (.lst (ps.map ∅)),.no]) (kk:=2) (nn:=3) (j:=4) (it:=.slot 1) (e:=.call rf [⇑0,⇑4]) ps ∅ (λs=>D.tup ((kN nx s).map ∅)) (by simp! [U,fW]) rfl ⋯ ⋯ ⋯ (aF _ ⋯) λs hs G' hG=>by
  have h0:G'[0]?=!(.dat L):=hG.1 0 ⋯;simp! [U,hG.2,h0,hR,aZ (fx:=iX) rfl,Dy U L nx ps hix hcl s hs _ (jL hg hs).2.1]
 have w2:=λn k=>Rq (rn:=rn (n+30)) (bor:=[]) (k:=k+1) (g:=[.dat L,.dat (.lst (ps.map ∅)),.own ((ps.map (kN nx)).map λr=>.tup (r.map ∅))]) (g1:=[.dat L,.dat (.lst (ps.map ∅)),.dat (.lst ((ps.map (kN nx)).map λr=>.tup (r.map ∅)))]) (kk:=2) (nn:=3) (j:=4) (it:=.slot 2) (c:=!(.cmp .Eq (.ix ⇑4 ↥0) (.blt .min [⇑4]))) (e:=.slot 4) (ps.map (kN nx)) (λr=>D.tup (r.map ∅)) yV (λr=>D.tup (r.map ∅)) (by simp! [U,fW]) rfl ⋯ ⋯ ⋯ (aF _ (by rw[eA];lia)) (λr hr G' hG=>by
   obtain⟨s,hs,rfl⟩:=i5.mp hr;obtain⟨_,_,q2,q3,_,_⟩:=jL hg hs;cases e:kN nx s with
   |nil=>exact absurd e q2
   |cons a l=>
    have h4:=hG.2;rw[e]at h4;have ha:L2.g9 ((a::l).map ∅) 0=!(~~~a):=by simp[L2.g9,L2.xD]
    have hm:=Qi a l (λx hx=>(jL hg (q3 x (e▸hx))).2.2.2.2.2)
    simp! [U,Iq,h4,ha,hm,yV]) (λr hr _ G' hG=>by simp! [U,hG.2])
 have e1:ps.map (λs=>D.tup ((kN nx s).map ∅))=(ps.map (kN nx)).map λr=>.tup (r.map ∅):=by rw[List.map_map];rfl
 unfold bz iY;simp! [U,w1,e1,w2];rfl
omit hR
theorem Qk(x y:Int):bz (rn (n+8)) k Du [.int x,.int y]=!(.dat (~~~(if x<y then [x,y]else [y,x]))):=by
 unfold bz Du;by_cases h:x<y
 . simp! [U,h,aF 2 ⋯];rfl
 . simp! [U,h,aF 2 ⋯];rfl
variable(hT:fns[ti]?=!Du)
include hT
theorem rL(m:Nat)(u: ~~~0)(hu:u.length=m)(wX: ~~~5)(hp:∀p∈wX,∃a b:Int,p=[a,b]/\0<=a/\a<m/\0<=b/\b<m):∀(ps ka: ~~~5) (a2 a3 a4 a5:Slot),(∀p∈ps,p∈wX)->(ka++ps).Nodup->(ka++ps).length<=100->iR [a2,a5]=true->∃b3 b4:Slot,
  VR (rn (n+20)) [] (k+1) (.tp [3,4]) [⇑3,⇑4] (.call ti [(.ix ⇑0 ⇑3),(.ix ⇑0 ⇑4)]) (ps.map ∅) ka (ka.map λp=>~~~(iD u p)) [.dat (~~~u),.dat (.lst (wX.map ∅)),a2,a3,a4,a5]=!((ka++ps,(ka++ps).map λp=>~~~(iD u p)),[.dat (~~~u),.dat (.lst (wX.map ∅)),a2,b3,b4,a5])
 | [],ka,a2,a3,a4,a5,_,_,_,_=>#[a3,a4,by rw[oD];rfl]
 |p::ps,ka,a2,a3,a4,a5,h1,h2,h3,h4=>by
  obtain⟨a,b,e,ha,ha2,hb,hb2⟩:=hp p (h1 p b0);subst e;have h2':((ka++[[a,b]])++ps).Nodup:=by rw[y0];exact h2
  obtain⟨b3,b4,ih⟩:=rL m u hu wX hp ps (ka++[[a,b]]) a2 ‹a› ‹b› a5 (λp hp=>h1 p (bP _ hp)) h2' (by rw[y0];exact h3) h4
  refine#[b3,b4,?_];have hn:(ka.all λk=>(not (decide (k=[a,b]))))=true:=by rw[eC];intro x hx;rw[AI]at h2;have:=h2.2.2 x hx [a,b] b0;simp[this]
  have hlk:ka.length<lim:=eM (pE _) (aF (ka.length+1) (by rw[eP]at h3;lia))
  have nl:∀l:List Int,eK (l.map D.int)=true:=λl=>by induction l with |nil=>rfl |cons x l ih=>rw[List.map_cons];exact ih
  have nl2:eK (wX.map ∅)=true:=by
   clear h1 h2 h3 hp ih h2'
   induction wX with
   |nil=>rfl
   |cons x l ih=>rw[List.map_cons];show (iB (~~~x)&&eK _)=true;rw[ih];simp[iB,nl]
  have ng:iR [.dat (~~~u),.dat (.lst (wX.map ∅)),a2,‹a›,‹b›,a5]=true:=by
   have h5:iR [a2]=true/\iR [a5]=true:=by cases a2 <;> cases a5 <;> simp_all [iR]
   cases a2 <;> cases a5 <;> simp_all [iR,iB]
  have x1:(rn (n+20)).e [] (k+1) (.call ti [(.ix ⇑0 ⇑3),(.ix ⇑0 ⇑4)]) [.dat (~~~u),.dat (.lst (wX.map ∅)),a2,‹a›,‹b›,a5]=!(.dat (~~~(iD u [a,b])),[.dat (~~~u),.dat (.lst (wX.map ∅)),a2,‹a›,‹b›,a5]):=by have t1:=Qk U (n:=n+11) (k:=k) (gt u a) (gt u b);simp! [U,tW (t:=u) (i:=a) ⋯,tW (t:=u) (i:=b) ⋯,hT,aZ (fx:=Du) rfl,t1,iD]
  have nx:iB (~~~(iD u [a,b]))=true:=by simp[iB,nl]
  have st:Tg.set (.tp [3,4]) (~~~[a,b]) [.dat (~~~u),.dat (.lst (wX.map ∅)),a2,a3,a4,a5]=![.dat (~~~u),.dat (.lst (wX.map ∅)),a2,‹a›,‹b›,a5]:=rfl
  have ar:lu (rn (n+20)) [] (k+1) [⇑3,⇑4] [.dat (~~~u),.dat (.lst (wX.map ∅)),a2,‹a›,‹b›,a5]=!([.int a,.int b],[.dat (~~~u),.dat (.lst (wX.map ∅)),a2,‹a›,‹b›,a5]):=by simp! [U,U.e]
  have ii:aQ [.int a,.int b]=![a,b]:=rfl;have evd:fz (rn (n+20)) [] (k+1) (.call ti [(.ix ⇑0 ⇑3),(.ix ⇑0 ⇑4)]) [.dat (~~~u),.dat (.lst (wX.map ∅)),a2,‹a›,‹b›,a5]=!(~~~(iD u [a,b]),[.dat (~~~u),.dat (.lst (wX.map ∅)),a2,‹a›,‹b›,a5]):=by unfold fz;rw[x1];rfl
  rw[List.map_cons];unfold VR;rw[st];dsimp only;rw[ar];dsimp only;rw[ii];dsimp only;rw[evd];dsimp only;rw[hV #[by rw[hn,ng,nx];rfl,hlk,aF 2 ⋯]]
  rw[At]at ih;rw[y0]at ih;exact ih
variable(hA:fns[al]?=!(iY rf)){paX:Fx}(hP:fns[pa]?=!paX)
include hA hR hP
theorem Xe(m:Nat)(hm:1<=m/\m<=9)(u: ~~~0)(hu:u.length=m)(ps: ~~~5)(hps:bz (rn (n+58)) (k+1) paX [.int m]=!(.new (ps.map ∅)))(hnp:paX.np=1)(hp:∀p∈ps,∃a b:Int,p=[a,b]/\0<=a/\a<m/\0<=b/\b<m)(hnd:ps.Nodup)(hl:ps.length<=100)(hg:wJ (iD u) ps=true) :
  bz (rn (n+60)) (k+2) (Dw pa al ti) [~~~u]=!(.new ((JH (iD u) ps).map λr=>.tup (r.map ∅))):=by
 obtain⟨b3,b4,d⟩:=rL U hT (n:=n+37) (k:=k+1) m u hu ps hp ps [] .no .no .no .no (λ_ h=>h) hnd hl rfl
 have d':oB (rn (n+57)) [] (k+2) 2 3 (.tp [3,4]) ⇑1 [⇑3,⇑4] (.call ti [(.ix ⇑0 ⇑3),(.ix ⇑0 ⇑4)]) [.dat (~~~u),.own (ps.map ∅)]=!((ps,ps.map λp=>~~~(iD u p)),[.dat (~~~u),.dat (.lst (ps.map ∅))]):=by
  have hw:fW (rn (n+57)) [] (k+2) true ⇑1 [.dat (~~~u),.own (ps.map ∅)]=!(ps.map ∅,[.dat (~~~u),.dat (.lst (ps.map ∅))]):=by simp! [U,fW]
  unfold oB;rw[show Tg.fV (.tp [3,4])=true from rfl,hw]
  dsimp only;rw[hV #[rfl,rfl]];have dd:VR (rn (n+57)) [] (k+2) (.tp [3,4]) [⇑3,⇑4] (.call ti [(.ix ⇑0 ⇑3),(.ix ⇑0 ⇑4)]) (ps.map ∅) [] [] (gD 3 [.dat (~~~u),.dat (.lst (ps.map ∅))])=_:=d
  rw[dd];rfl
 have a1:=Dz U hR (n:=n+18) (k:=k) (.uo ps (ps.map λp=>~~~(iD u p))) (iD u) ps (λp uW=>by
  show (match aQ (p.map .int)with |some n=>Q7 ps (ps.map λp=>~~~(iD u p)) n |none=>none)=_
  rw[ints_map];exact Aq (λp=>~~~(iD u p)) uW) hg hl
 unfold bz Dw;simp! [U,hu,hP,aY (fx:=paX) hnp,hps,d',hA,aZ (fx:=iY rf) rfl,a1]
end
noncomputable def W(m:Nat)(yW: ~~~5):D:=.tup [.int m,.tup (yW.map ∅)]
def tm(t: ~~~0)(x: ~~~0): ~~~0:=if gt t (gt x 0)<gt t (gt x 1)then [gt t (gt x 0),gt t (gt x 1)]else [gt t (gt x 1),gt t (gt x 0)]
def tw(t: ~~~0)(yW: ~~~5): ~~~5:=gF xR (yW.map (tm t))
def Z7(i:Int)(x: ~~~0):Option Int:=if gt x 0=i then some (gt x 1)else if gt x 1=i then some (gt x 0)else none
def nb(i:Int)(yW: ~~~5): ~~~0:=yW.filterMap (Z7 i)
noncomputable def has(i:Int)(x: ~~~0):Bool:=decide (gt x 0=i)||decide (gt x 1=i)
def ext(m:Nat)(l: ~~~5): ~~~5:=l.flatMap λr=>((nums m).filter λx=>(not (decide (x∈r)))).map λx=>r++[x]
def Ar(m:Nat):Nat->List (~~~0)
 | 0=>[[]]
 |s+1=>ext m (Ar m s)
def turnsOf(m:Nat): ~~~5:=Ar m m
section
theorem rM{α β:Type}(d7:α->D)(ys:α->List β)(iZ:β->D)(p:α->β->Bool)(f:α->β->D)(hn:nn=g.length)(cU:last=g.length+kk)(h11:g.length<=j1)(h12:j1<g.length+kk)(h21:g.length<=j2)(h22:j2<g.length+kk)(kO:j1≠j2) :
  ∀(xs:List α) (m:G) (acc:List D),m.length=kk->acc.length+(xs.flatMap ys).length<=lim->
  (∀a∈xs,∀G',yR g j1 (d7 a) G'->fW rn bor k false it G'=!((ys a).map iZ,G'))->
  (∀a∈xs,∀b∈ys a,∀G',wD g j1 j2 (d7 a) (iZ b) G'->Iq rn bor k c G'=!(p a b,G'))->
  (∀a∈xs,∀b∈ys a,p a b=true->∀G',wD g j1 j2 (d7 a) (iZ b) G'->fz rn bor k e G'=!(f a b,G'))->
  ∃m',m'.length=kk/\vW rn bor k (.nm j1) none (.nm j2) it c e last (xs.map d7) (gM g m acc)=!(gM g m' (acc++xs.flatMap λa=>((ys a).filter (p a)).map (f a)))
 | [],m,acc,hm,_,_,_,_=>#[m,hm,by simp[vW]]
 |a::xs,m,acc,hm,hl,hw,hi,he=>by
  rw[List.flatMap_cons,eP]at hl;have q1:(Tg.nm j1).set (d7 a) (gM g m acc)=!(gM g (m.set (j1 - g.length) (.dat (d7 a))) acc):=yQ (kk:=kk) h11 ⋯;have hm1:(m.set (j1 - g.length) (.dat (d7 a))).length=kk:=by simpa using hm
  have sees:∀(m:G) (acc:List D),m.length=kk->m[j1 - g.length]?=!(.dat (d7 a))->yR g j1 (d7 a) (gM g m acc):=λm acc hm hg=>by
   refine#[λi hi=>rA hi,?_]
   have:=iW (g:=g) (m:=m) (acc:=acc) (i:=j1 - g.length) ⋯;rw[show g.length+(j1 - g.length)=j1 by lia]at this
   rw[this,hg]
  have uq:(m.set (j1 - g.length) (.dat (d7 a)))[j1 - g.length]?=!(.dat (d7 a)):=by rw[i3 ⋯]
  have q2:=hw a b0 _ (sees _ acc hm1 uq);have Rr:∀(b:β) (m:G) (acc:List D),(m.length=kk/\m[j1 - g.length]?=!(.dat (d7 a)))->wD g j1 j2 (d7 a) (iZ b) (gM g (m.set (j2 - g.length) (.dat (iZ b))) acc):=λb m acc hm=>by
   obtain⟨s1,s2⟩:=sees (m.set (j2 - g.length) (.dat (iZ b))) acc (by simpa using hm.1) (by rw[eI ⋯];exact hm.2)
   refine#[s1,s2,?_];have:=iW (g:=g) (m:=m.set (j2 - g.length) (.dat (iZ b))) (acc:=acc) (i:=j2 - g.length) (by rw[y7];lia)
   rw[show g.length+(j2 - g.length)=j2 by lia]at this
   rw[this,i3 (by rw[hm.1];lia)]
  obtain⟨m2,w1,w2⟩:=jJ iZ (f a) (p a) (λb m=>m.set (j2 - g.length) (.dat (iZ b))) (λm=>m.length=kk/\m[j1 - g.length]?=!(.dat (d7 a))) (λ_ h=>h.1) cU (λb m h=>#[by simpa using h.1,by rw[eI ⋯];exact h.2]) (ys a) (m.set (j1 - g.length) (.dat (d7 a))) acc #[hm1,uq] ⋯
   (λb _ m acc h=>yQ (kk:=kk) h21 (by have:=h.1;lia)) (λb hb m acc h=>hi a b0 b hb _ (Rr b m acc h)) λb hb hp m acc h=>he a b0 b hb hp _ (Rr b m acc h)
  have hf:=List.length_filter_le (p a) (ys a);obtain⟨m3,v1,v2⟩:=rM d7 ys iZ p f hn cU h11 h12 h21 h22 kO xs m2 (acc++((ys a).filter (p a)).map (f a)) w1.1 (by rw[eP,eA];lia) (λx hx=>hw x (bP _ hx)) (λx hx=>hi x (bP _ hx)) (λx hx=>he x (bP _ hx))
  refine#[m3,v1,?_];rw[List.map_cons];unfold vW;rw[q1];dsimp only[Iq,Tg.fV];rw[q2];dsimp only;rw[w2];dsimp only;rw[v2,List.flatMap_cons,y0]
theorem Ql{α β:Type}(xs:List α)(d7:α->D)(ys:α->List β)(iZ:β->D)(p:α->β->Bool)(f:α->β->D)(hw1:fW rn bor k false pO g=!(xs.map d7,g1))(hn:nn=g1.length)(h11:g1.length<=j1)(h12:j1<g1.length+kk)(h21:g1.length<=j2)(h22:j2<g1.length+kk)(kO:j1≠j2)(hb1:j1∉bor)(hb2:j2∉bor)(hl:(xs.flatMap ys).length<=lim)
  (hw:∀a∈xs,∀G',yR g1 j1 (d7 a) G'->fW rn bor k false it G'=!((ys a).map iZ,G'))
  (hi:∀a∈xs,∀b∈ys a,∀G',wD g1 j1 j2 (d7 a) (iZ b) G'->Iq rn bor k c G'=!(p a b,G'))
  (he:∀a∈xs,∀b∈ys a,p a b=true->∀G',wD g1 j1 j2 (d7 a) (iZ b) G'->fz rn bor k e G'=!(f a b,G')) :
  ki rn bor k nn kk (.nm j1) pO none (.nm j2) it c e g=!(xs.flatMap λa=>((ys a).filter (p a)).map (f a),g1):=by
 subst hn;obtain⟨m',w1,w2⟩:=rM d7 ys iZ p f rfl rfl h11 h12 h21 h22 kO xs (List.replicate kk .no) [] ⋯ (by simpa using hl) hw hi he
 unfold ki;rw[show Tg.fV (.nm j1)=false from rfl,hw1]
 dsimp only;rw[hV #[rfl,by simp[Tg.ix,hb1,hb2]],Rp,w2]
 dsimp only;have:∀acc,(gM g1 m' acc)[g1.length+kk]?=!(.own acc):=λacc=>by rw[<- w1];exact tV
 rw[this];rw[Ae,BD]
end
section
variable{ro fi:Nat}(U:jg fns rn)
include U
omit U in
theorem DN:∀(l: ~~~0) ,kY (l.map .int)=l.zipIdx.map λp=>.tup [.int (p.2:Int),.int p.1]:=by intro l;unfold kY;rw[List.zipIdx_map,List.map_map];rfl
end
noncomputable def bad1:List D:=[.non,.int 0,.tup [],.tup [.int 7,.tup []],.tup [.int 0,.tup []],.tup [.int (-1),.tup []],.tup [.bl true,.tup []],.tup [.int 2,.lst []],.lst [.int 2,.tup []],.tup [.int 2,.tup [.tup [.int 1,.int 0]]],.tup [.int 2,.tup [.tup [.int 0,.int 0]]],.emp []]
noncomputable def bad2:List D:=[.tup [.int 2,.tup [.tup [.int 0,.int 1],.tup [.int 0,.int 1]]],.tup [.int 3,.tup [.tup [.int 0,.int 2],.tup [.int 0,.int 1]]],.tup [.int 2,.tup [.tup [.int 0,.int 2]]],.tup [.int 2,.tup [.tup [.int 0,.bl true]]],.tup [.int 2,.tup [.tup [.int 0,.int 1,.int 1]]]]
noncomputable def bad3:List D:=[.tup [.int 2,.tup [.int 0,.int 1]],.tup [.int 2,.non],.tup [.int 2,.tup [],.tup []],.tup [.int 2],.tup [.int 2,.tup [.lst [.int 0,.int 1]]],.tup [.int 2,.tup [.non]],.tup [.str (PySem.Str.ofString "2"),.tup []],.str (PySem.Str.ofString "2:")]
def JK:List D:=bad1++bad2++bad3
def led(m:Nat)(yW: ~~~5)(m':Nat)(ties': ~~~5): ~~~5:=(turnsOf m).filter λt=>decide (m=m'/\tw t yW=ties')
noncomputable def Xg(m a:Nat): ~~~5:=(List.range (m - (a+1))).map λ(j:Nat)=>[(a:Int),(a:Int)+1+(j:Int)]
def pacc(m j:Nat): ~~~5:=((List.range j).map (Xg m)).flatten
def prs(m:Nat): ~~~5:=pacc m m
def Kz(m:Nat)(t: ~~~0):List (~~~5):=JH (iD t) (prs m)
theorem dN(h0:T.set d g=!g0)(h:b g0=!(.nx,g1)):cg T b (d::l) g=cg T b l g1:=by
 conv=>lhs;unfold cg
 rw[h0];dsimp only;rw[h]
noncomputable def Qm:Fx:=#[1,1,[(.ret (.iH 1 3 (.nm 2) (.cV ⇑0) none (.nm 3) (.dJ (.bin .Add ⇑2 ↥1) ⇑0) none (.tup [⇑2,⇑3])))]]
def DP:Fx:=#[2,4,[(.set 2 ↥1),(.loop (.nm 3) (.cV ⇑1) [(.aug 2 .Mult ⇑0)]),(.ret ⇑2)]]
def yX:Fx:=#[1,3,[(.set 1 ↥1),(.loop (.nm 2) (.dJ ↥1 (.bin .Add ⇑0 ↥1)) [(.aug 1 .Mult ⇑2)]),(.ret ⇑1)]]
section
variable{k n:Nat}{rn:Nat->Rn}{fns:List Fx}(U:jg fns rn)
include U
theorem Xh(m:Nat)(hm:m<=9)(hl:(prs m).length<=100):bz (rn (n+20)) k Qm [.int m]=!(.new ((prs m).map ∅)):=by
 have e0:(prs m).map ∅=(List.range m).flatMap λa=>((List.range (m - (a+1))).map λ(b:Nat)=>(a:Int)+1+(b:Int)).map λy=>~~~[(a:Int),y]:=by
  unfold prs pacc Xg;rw[List.map_flatten,List.map_map,List.flatMap]
  congr 1
  refine Ap λa _=>?_
  show List.map _ (List.map _ _)=_;rw[List.map_map,List.map_map];rfl
 have hl':((List.range m).flatMap λa=>(List.range (m - (a+1))).map λ(b:Nat)=>(a:Int)+1+(b:Int)).length<=lim:=by
  refine aF _ (n0 (Nat.le_of_eq ?_) (n0 hl ⋯));unfold prs pacc Xg;rw[List.flatMap,List.length_flatten,List.length_flatten,List.map_map,List.map_map]
  congr 1
  refine Ap λa _=>?_
  simp
 have w:=Ql (rn:=rn (n+18)) (bor:=[]) (k:=k) (g:=[‹m›]) (g1:=[‹m›]) (kk:=3) (nn:=1) (j1:=2) (j2:=3) (pO:=.cV ⇑0) (it:=.dJ (.bin .Add ⇑2 ↥1) ⇑0) (c:=none) (e:=.tup [⇑2,⇑3]) (List.range m) (λ(a:Nat)=>D.int (a:Int)) (λa=>(List.range (m - (a+1))).map λ(b:Nat)=>(a:Int)+1+(b:Int)) D.int (λ_ _=>true) (λa y=>~~~[(a:Int),y]) (by
  have hr:dR 0 m=(List.range m).map λ(j:Nat)=>D.int (j:Int):=by unfold dR;exact Ap λx _=>by rw[Int.zero_add]
  simp! [U,fW,bC (m:Int) ⋯,hr]) rfl ⋯ ⋯ ⋯ ⋯ ⋯ ⋯ ⋯ hl' (λa ha G' hG=>by
  have h0:G'[0]?=!‹m›:=hG.1 0 ⋯;have h2:=hG.2;rw[yB]at ha;have e1:((m:Int) - ((a:Int)+1)).toNat=m - (a+1):=by lia
  have e2:dR ((a:Int)+1) (m - (a+1))=((List.range (m - (a+1))).map λ(b:Nat)=>(a:Int)+1+(b:Int)).map .int:=by unfold dR;rw[List.map_map];rfl
  simp! [U,fW,h0,h2,bC (m:Int) ⋯,bC ((a:Int)+1) ⋯,e1,e2]) (λa _ b _ G' _=>rfl) (λa ha b hb _ G' hG=>by
  have h1:=hG.2.1;have h2:=hG.2.2;simp! [U,h1,h2];rfl)
 simp only[filter_all]at w;rw[e0];unfold bz Qm;simp! [U,w]
theorem JL(b:Int)(m:Nat)(hb : -(2 ^ 64)<b/\b<2 ^ 64)(hm:m<=1000):bz (rn (n+20)) k DP [.int b,.int m]=!(.dat (.int (b ^ m))):=by
 have lp:∀(l:List Nat) (c:Int) (a3:Slot),∃b3,cg (.nm 3) ((rn (n+19)).b [] k [(.aug 2 .Mult ⇑0)]) (l.map λ(j:Nat)=>D.int (j:Int)) [‹b›,‹m›,‹c›,a3]=!(.nx,[‹b›,‹m›,.dat (.int (c * b ^ l.length)),b3]):=λl=>by
  induction l with
  |nil=>intro c a3;exact#[a3,by simp[cg]]
  |cons x l ih=>
   intro c a3;obtain⟨b3,w⟩:=ih (c * b) (.dat (.int (x:Int)));refine#[b3,?_];have e:Df .Mult (.int c) (.int b)=!(.int (c * b)):=by
    have:iS c b=true:=by unfold iS;simp only[wS,dA,eQ];exact .inr hb
    show (if iS c b=true then _ else _)=_
    rw[hV this]
   have q:(rn (n+19)).b [] k [(.aug 2 .Mult ⇑0)] [‹b›,‹m›,‹c›,.dat (.int (x:Int))]=!(.nx,[‹b›,‹m›,.dat (.int (c * b)),.dat (.int (x:Int))]):=by simp! [U,e]
   rw[List.map_cons,dN (rfl:(Tg.nm 3).set _ _=_) q,w,gL,Int.pow_succ,CO,Int.mul_comm b]
 obtain⟨b3,w⟩:=lp (List.range m) 1 .no;rw[B6,Int.one_mul]at w;generalize hb:(rn (n+19)).b [] k [(.aug 2 .Mult ⇑0)]=bb at w;unfold bz DP;simp! [U,fW,Tg.ix,Tg.fV,bC (m:Int) ⋯,dR,hb,w]
theorem JM(m:Nat)(hm:m<=9):bz (rn (n+20)) k yX [.int m]=!(.dat (.int (pC m))):=by
 obtain⟨g',⟨i,b2,hi,hl,rfl⟩,w⟩:=rB (T:=.nm 2) (b:=(rn (n+19)).b [] k [(.aug 1 .Mult ⇑2)]) (λ(j:Nat)=>D.int (1+(j:Int)))
  (I:=λl g=>∃(i:Nat) (b2:Slot),i<=m/\l=List.range' i (m - i)/\g=[‹m›,.dat (.int (pC i)),b2])
  (step:=λa l g h=>by
   obtain⟨i,b2,hi,hl,rfl⟩:=h;cases hmi:m - i with
   |zero=>rw[hmi]at hl;cases hl
   |succ q=>
    rw[hmi,List.range'_succ]at hl;obtain⟨rfl,rfl⟩:=List.cons.inj hl;have e:Df .Mult (.int (pC a)) (.int (1+(a:Int)))=!(.int (pC (a+1))):=by
     have:iS (pC a) (1+(a:Int))=true:=by unfold iS;simp only[wS,dA,eQ];right;lia
     show (if iS (pC a) (1+(a:Int))=true then _ else _)=_
     rw[hV this];show _=!(D.int (pC a * ((a+1:Nat):Int)));rw[show 1+(a:Int)=((a+1:Nat):Int)by lia]
    refine#[_,_,rfl,?_,a+1,.dat (.int (1+(a:Int))),by lia,by rw[show m - (a+1)=q by lia],rfl]
    show (rn (n+19)).b [] k _ [‹m›,.dat (.int (pC a)),.dat (.int (1+(a:Int)))]=_;simp! [U,e]) (List.range m) [‹m›,‹1›,.no] #[0,.no,by lia,by rw[List.range_eq_range'];rfl,rfl]
 have hmi:m - i=0:=by have:=congrArg List.length hl;rw[List.length_range']at this;exact this.symm
 have hi':i=m:=by lia
 subst hi';generalize hb:(rn (n+19)).b [] k [(.aug 1 .Mult ⇑2)]=bb at w;have e1:((i:Int)+1 - 1).toNat=i:=by lia
 unfold bz yX;simp! [U,fW,Tg.ix,Tg.fV,bC 1 ⋯,bC ((i:Int)+1) ⋯,dR,e1,hb,w]
end
noncomputable def Xi: ~~~0->~~~0->List Int
 | [],acc=>acc
 |n::t,acc=>Xi t (acc++(List.range (n.toNat - 1)).map (λi=>((acc.length+1+i:Nat):Int))++[(acc.length:Int)])
def uz(t: ~~~0): ~~~0:=Xi t []
noncomputable def Xj: ~~~0->List Int
 | []=>[]
 |a::l=>List.replicate ((a.toNat - 1) / 2) a++(if a.toNat % 2=0 then [a / 2]else [])++(l.flatMap λb=>List.replicate (Nat.gcd a.toNat b.toNat) ((Nat.lcm a.toNat b.toNat:Nat):Int))++Xj l
def jM(rs:List (~~~5)): ~~~0:=rs.map λr=>(r.length:Int)
def bS(t: ~~~0): ~~~0:=(bQ (Xj t)).reverse
def JN(mk om:Nat):Fx:=#[2,5,[(.expr (.call mk [⇑0,⇑1])),(.set 2 ↥1),(.loop (.tp [3,4]) (.enum ⇑1) [(.aug 2 .Mult (.bin .Mult ⇑4 (.meth .count (.slice ⇑1 none (!(.bin .Add ⇑3 ↥1))) ⇑4)))]),(.ret (.bin .FloorDiv (.call om [⇑0]) ⇑2))]]
def twX:Fx:=#[1,4,[(.set 1 (.lst [])),(.loop (.nm 2) ⇑0 [(.set 3 (.blt .len [⇑1])),(.aug 1 .Add (.jG (.bin .Add ⇑3 ↥1) (.bin .Add ⇑3 ⇑2))),(.expr (.append 1 ⇑3))]),(.ret (.blt .tuple [⇑1]))]]
def JQ(mk ro tw:Nat):Fx:=#[2,2,[(.expr (.call mk [⇑0,⇑1])),(.ret (.blt .tuple [(.qT (.comp 2 2 (.nm 3) (.call ro [(.call tw [⇑1])]) none (.blt .len [⇑3])))]))]]
noncomputable def smX(po pl:Nat):Fx:=#[2,2,[(.ret (.call po [↥2,(.blt .len [(.call pl [⇑0,⇑1])])]))]]
def Qo(j:Nat)(t: ~~~0):Bool:=decide ((uz t).length=j)&&wJ (iD (uz t)) (prs j)&&decide (bQ (jM (Kz j (uz t)))=bQ (Xj t))&&decide ((Xj t).length<=36)&&decide (t.length<=9)&&t.all (λa=>decide (1<=a/\a<=9))&&decide (0<gW [] t/\gW [] t<1073741824)&&(bS t).all (λl=>decide (0<=l/\l<=36))&&decide (1+(bS t).sum<=100)&&decide (0<=cnt j t/\cnt j t<=1000000)
structure Kd(j:Nat)(t: ~~~0):Prop where
 hj:1<=j/\j<=9
 ht:t∈kinds j
 tl:(uz t).length=j
 gp:wJ (iD (uz t)) (prs j)=true
 so:bQ (jM (Kz j (uz t)))=bQ (Xj t)
 cl:(Xj t).length<=36
 le:t.length<=9
 pa:∀a∈t,1<=a/\a<=9
 dv:0<gW [] t/\gW [] t<1073741824
 pl:∀l∈bS t,0<=l/\l<=36
 su:1+(bS t).sum<=100
 cn:0<=cnt j t/\cnt j t<=1000000
theorem Kd.of(hj:1<=j/\j<=9)(ht:t∈kinds j)(h:Qo j t=true):Kd j t:=by unfold Qo at h;simp only[dA,eQ,eC]at h;obtain⟨⟨⟨⟨⟨⟨⟨⟨⟨h1,h2⟩,h3⟩,h4⟩,h5⟩,h6⟩,h7⟩,h8⟩,h9⟩,h10⟩:=h;exact#[hj,ht,h1,h2,h3,h4,h5,h6,h7,h8,h9,h10]
theorem DQ(t: ~~~0):(bS t).length=(Xj t).length:=by unfold bS;rw[List.length_reverse,(bZ _).length_eq]
section
variable{k n:Nat}{g g1:G}{rn:Nat->Rn}{fns:List Fx}(U:jg fns rn)
include U
omit U in
theorem JR(l: ~~~0)(x:Int):mtF .count (~~~l) (.int x)=!(.int ((l.count x:Nat):Int)):=by
 have h1:tF (.int x) (l.map .int)=true:=by simp[tF,jd,kG,kJ]
 show (if tF (.int x) (l.map .int)=true then some (D.int ((l.map D.int).countP λd=>cI d (.int x):Nat))else none)=_
 rw[hV h1,List.countP_map]
 congr 2
theorem tw_ok(t: ~~~0)(hp:∀a∈t,1<=a/\a<=9)(hl:t.length<=9):bz (rn (n+20)) k twX [~~~t]=!(.dat (~~~(uz t))):=by
 have lp:∀(l acc: ~~~0) (a2 a3:Slot),(∀a∈l,1<=a/\a<=9)->acc.length+9 * l.length<=100->∃b2 b3,cg (.nm 2) ((rn (n+19)).b [] k [(.set 3 (.blt .len [⇑1])),(.aug 1 .Add (.jG (.bin .Add ⇑3 ↥1) (.bin .Add ⇑3 ⇑2))),(.expr (.append 1 ⇑3))]) (l.map .int) [.dat (~~~t),.own (acc.map .int),a2,a3]=!(.nx,[.dat (~~~t),.own ((Xi l acc).map .int),b2,b3]):=λl=>by
  induction l with
  |nil=>intro acc a2 a3 _ _;exact#[a2,a3,rfl]
  |cons a l ih=>
   intro acc a2 a3 hp hl;have ha:=hp a b0;rw[gL]at hl;obtain⟨b2,b3,w⟩:=ih (acc++(List.range (a.toNat - 1)).map (λi=>((acc.length+1+i:Nat):Int))++[(acc.length:Int)]) ‹a› (.dat (.int (acc.length:Int))) (λx hx=>hp x (bP _ hx)) (by
    rw[eP,eP,eA,B6,v3];lia)
   refine#[b2,b3,?_];have q:(rn (n+19)).b [] k [(.set 3 (.blt .len [⇑1])),(.aug 1 .Add (.jG (.bin .Add ⇑3 ↥1) (.bin .Add ⇑3 ⇑2))),(.expr (.append 1 ⇑3))] [.dat (~~~t),.own (acc.map .int),‹a›,a3]=!(.nx,[.dat (~~~t),.own ((acc++(List.range (a.toNat - 1)).map (λi=>((acc.length+1+i:Nat):Int))++[(acc.length:Int)]).map .int),‹a›,.dat (.int (acc.length:Int))]):=by
    have e1:(((acc.length:Int)+a) - ((acc.length:Int)+1)).toNat=a.toNat - 1:=by lia
    have e2:dR ((acc.length:Int)+1) (a.toNat - 1)=((List.range (a.toNat - 1)).map (λi=>((acc.length+1+i:Nat):Int))).map .int:=by unfold dR;rw[List.map_map];exact Ap λx _=>by show D.int _=D.int _;congr 1
    have l1:=aF (a.toNat - 1) ⋯;have l2:=aF (acc.length+(a.toNat - 1)) ⋯;have l3:acc.length+(a.toNat - 1)<lim:=aF (acc.length+(a.toNat - 1)+1) ⋯;simp! [U,bC ((acc.length:Int)+1) ⋯,bC ((acc.length:Int)+a) ⋯,e1,e2,l1,l2,l3];rfl
   rw[List.map_cons,dN (rfl:(Tg.nm 2).set _ _=_) q];exact w
 obtain⟨b2,b3,w⟩:=lp t [] .no .no hp (by rw[y6];lia)
 generalize hb:(rn (n+19)).b [] k [(.set 3 (.blt .len [⇑1])),(.aug 1 .Add (.jG (.bin .Add ⇑3 ↥1) (.bin .Add ⇑3 ⇑2))),(.expr (.append 1 ⇑3))]=bb at w;rw[List.map_nil]at w;unfold bz twX uz;simp! [U,fW,Tg.ix,Tg.fV,hb,w]
variable{mk om ro tw pl po ik mw w wi fa ci cj al ti rf pa:Nat}(hW:fns[w]?=!bF)(hF:fns[fa]?=!iL)(hI:fns[wi]?=!(aU w))(hM:fns[mw]?=!(bw wi ci))(hK:fns[ik]?=!(bV mw w fa))(hMK:fns[mk]?=!(cL ik cj))
include hW hF hI hM hK hMK
theorem Xk(hO:fns[om]?=!yX)(K:Kd j t):bz (rn (n+60)) (k+6) (JN mk om) [.int j,~~~t]=!(.dat (.int (cnt j t))):=by
 have q0:=λn k=>lB U hW hF hI hM hK (n:=n) (k:=k) (cj:=cj) j K.hj t K.ht (by have:=K.le;lia)
 have q1:=λn k=>JM U (n:=n) (k:=k) j (by have:=K.hj;lia)
 have lp:∀(l b: ~~~0) (c:Int) (a3 a4:Slot),t=b++l->∃b3 b4,cg (.tp [3,4]) ((rn (n+59)).b [] (k+6) [(.aug 2 .Mult (.bin .Mult ⇑4 (.meth .count (.slice ⇑1 none (!(.bin .Add ⇑3 ↥1))) ⇑4)))]) ((l.zipIdx b.length).map λp=>.tup [.int (p.2:Int),.int p.1]) [‹j›,.dat (~~~t),‹c›,a3,a4]=!(.nx,[‹j›,.dat (~~~t),.dat (.int (c * gW b l)),b3,b4]):=λl=>by
  induction l with
  |nil=>intro b c a3 a4 _;exact#[a3,a4,by simp[cg,gW]]
  |cons a l ih=>
   intro b c a3 a4 ht;obtain⟨b3,b4,w⟩:=ih (b++[a]) (c * (a * (((b++[a]).count a:Nat):Int))) (.dat (.int (b.length:Int))) ‹a› (by rw[ht,y0];rfl)
   refine#[b3,b4,?_];have ha:=K.pa a (by rw[ht];simp)
   have hl:=K.le;rw[ht,eP,gL]at hl;have hc:(b++[a]).count a<=9:=n0 List.count_le_length (by rw[eP,v3];lia)
   have e1:=cP a (((b++[a]).count a:Nat):Int) (.inl #[by lia,by lia])
   generalize hN:(((b++[a]).count a:Nat):Int)=N at w e1;have hN2:0<=N/\N<=9:=by lia
   have e2:Df .Mult (.int c) (.int (a * N))=!(.int (c * (a * N))):=by
    have hb:a * N<=9 * 9:=Int.mul_le_mul ha.2 hN2.2 hN2.1 ⋯;have hb':0<=a * N:=Int.mul_nonneg ⋯ hN2.1;have:iS c (a * N)=true:=by unfold iS;simp only[wS,dA,eQ];right;lia
    show (if iS c (a * N)=true then _ else _)=_
    rw[hV this]
   have e3:lM (t.map D.int) none (!((b.length:Int)+1))=(b++[a]).map .int:=by
    unfold lM;have h1:HT.bL (t.map D.int).length 0 none=0:=rfl;have h2:HT.bL (t.map D.int).length (t.map D.int).length (!((b.length:Int)+1))=b.length+1:=by
     rw[eA,ht,eP,gL];show (if (b.length:Int)+1<0 then ((b.length:Int)+1+((b.length+(l.length+1):Nat):Int)).toNat else min ((b.length:Int)+1).toNat (b.length+(l.length+1)))=_
     rw[fN ⋯];lia
    rw[h1,h2,List.drop_zero,Nat.sub_zero,ht,At,At,List.map_cons];rw[List.take_append,eA,List.take_of_length_le (by rw[eA];lia),show b.length+1 - b.length=1 by lia]
    rfl
   have e4:mtF .count (~~~(b++[a])) (.int a)=!(.int N):=by rw[JR,hN]
   generalize hba:b++[a]=ba at e3 e4;have q:(rn (n+59)).b [] (k+6) [(.aug 2 .Mult (.bin .Mult ⇑4 (.meth .count (.slice ⇑1 none (!(.bin .Add ⇑3 ↥1))) ⇑4)))] [‹j›,.dat (~~~t),‹c›,.dat (.int (b.length:Int)),‹a›]=!(.nx,[‹j›,.dat (~~~t),.dat (.int (c * (a * N))),.dat (.int (b.length:Int)),‹a›]):=by have e5:cJ (~~~ba)=!(ba.map .int):=rfl;simp! [U,zX,e3,e4,e1,e2,e5]
   rw[List.zipIdx_cons,List.map_cons,dN (rfl:(Tg.tp [3,4]).set _ _=_) q];rw[eP,v3]at w;rw[w];show some (Fl.nx,[_,_,Slot.dat (.int (c * (a * N) * gW (b++[a]) l)),b3,b4])=!(Fl.nx,[_,_,Slot.dat (.int (c * (a * (((b++[a]).count a:Nat):Int) * gW (b++[a]) l))),b3,b4]);rw[hN,CO,CO]
 obtain⟨b3,b4,w⟩:=lp t [] 1 .no .no rfl;have e5:=DN t;have dv:=mC (pC j) (gW [] t) K.dv;generalize hb:(rn (n+59)).b [] (k+6) [(.aug 2 .Mult (.bin .Mult ⇑4 (.meth .count (.slice ⇑1 none (!(.bin .Add ⇑3 ↥1))) ⇑4)))]=bb at w;rw[Int.one_mul,y6]at w;unfold bz JN cnt;simp! [U,hMK,aZ (fx:=cL ik cj) rfl,q0,fW,cJ,e5,Tg.ix,Tg.fV,hb,w,hO,aY (fx:=yX) rfl,q1,dv]
end
section
variable{k n:Nat}{g g1:G}{rn:Nat->Rn}{fns:List Fx}(U:jg fns rn)
include U
variable{mk om ro tw pl po ik mw w wi fa ci cj al ti rf pa:Nat}(hW:fns[w]?=!bF)(hF:fns[fa]?=!iL)(hI:fns[wi]?=!(aU w))(hM:fns[mw]?=!(bw wi ci))(hK:fns[ik]?=!(bV mw w fa))(hMK:fns[mk]?=!(cL ik cj))
variable(hRf:fns[rf]?=!iX)(Jg:fns[ti]?=!Du)(hAl:fns[al]?=!(iY rf))(hPa:fns[pa]?=!Qm)(hRo:fns[ro]?=!(Dw pa al ti))(hTw:fns[tw]?=!twX)
include hW hF hI hM hK hMK hRf Jg hAl hPa hRo hTw
theorem Qp(Yi:∀j:Nat,1<=j/\j<=9->(∀p∈prs j,∃a b:Int,p=[a,b]/\0<=a/\a<j/\0<=b/\b<j)/\(prs j).Nodup/\(prs j).length<=36)(K:Kd j t):bz (rn (n+80)) (k+10) (JQ mk ro tw) [.int j,~~~t]=!(.dat (~~~(bS t))):=by
 obtain⟨f1,f2,f3⟩:=Yi j K.hj;have q0:=λn k=>lB U hW hF hI hM hK (n:=n) (k:=k) (cj:=cj) j K.hj t K.ht (by have:=K.le;lia)
 have qp:=Xh U (n:=n+53) (k:=k+8) j K.hj.2 ⋯;have q1:=Xe U hRf Jg hAl hPa (n:=n+15) (k:=k+7) j K.hj (uz t) K.tl (prs j) qp rfl f1 f2 ⋯ K.gp;have qt:=λn k=>tw_ok U (n:=n) (k:=k) t K.pa K.le
 have hl:(Kz j (uz t)).length<=36:=by have:=congrArg List.length K.so;rw[(bZ _).length_eq,(bZ _).length_eq]at this;unfold jM at this;rw[eA]at this;have:=K.cl;lia
 have w:=wC (rn:=rn (n+76)) (bor:=[]) (k:=k+10) (g:=[‹j›,.dat (~~~t)]) (g1:=[‹j›,.dat (~~~t)]) (kk:=2) (nn:=2) (j:=3) (it:=.call ro [(.call tw [⇑1])]) (e:=.blt .len [⇑3]) (Kz j (uz t)) (λr=>D.tup (r.map ∅)) (λr=>.int (r.length:Nat)) (by
  have Ka:bz (rn (n+75)) (k+9) (Dw pa al ti) [~~~(uz t)]=!(.new ((Kz j (uz t)).map λr=>.tup (r.map ∅))):=q1
  simp! [U,fW,hRo,hTw,aY (fx:=twX) rfl,qt,aY (fx:=(Dw pa al ti)) rfl,Ka]) rfl ⋯ ⋯ ⋯ (aF _ ⋯) λr hr G' hG=>by
  simp! [U,hG.2]
 have e1':(Kz j (uz t)).map (λr=>D.int (r.length:Nat))=(jM (Kz j (uz t))).map .int:=by unfold jM;rw[List.map_map];rfl
 have QH:aQ ((jM (Kz j (uz t))).map .int)=!(jM (Kz j (uz t))):=ints_map _;have hl2:(jM (Kz j (uz t))).length<64:=by unfold jM;rw[eA];lia
 unfold bz JQ;simp! [U,hMK,aZ (fx:=cL ik cj) rfl,q0,w,e1',QH,hl2,qo,cJ];unfold bS;rw[K.so,List.map_reverse]
end
section
variable{k n:Nat}{g g1:G}{rn:Nat->Rn}{fns:List Fx}(U:jg fns rn)
include U
variable{pl po sm sb tm ak om:Nat}{plX cX aX:Fx}(hP:fns[pl]?=!plX)(ZT:plX.np=2)
include hP ZT
theorem sm_ok(hO:fns[po]?=!DP)(K:Kd j t)(q:bz (rn (n+26)) k plX [.int j,~~~t]=!(.dat (~~~(bS t)))):bz (rn (n+30)) (k+1) (smX po pl) [.int j,~~~t]=!(.dat (.int (2 ^ (bS t).length))):=by
 have hl:=K.cl;rw[<- DQ]at hl;have q2:=λn k=>JL U (n:=n) (k:=k) 2 (bS t).length #[by decide,by decide] ⋯
 unfold bz smX;simp! [U,hP,aZ ZT,q,hO,aZ (fx:=DP) rfl,q2]
end
theorem JT(h:1<=j/\j<=9):0<pC j/\pC j<1073741824:=by
 obtain⟨h1,h2⟩:=h;have:([1,2,3,4,5,6,7,8,9].all λj=>decide (0<pC j/\pC j<1073741824))=true:=by decide +kernel
 exact i4 (eC.mp this j (by simp only[dL,kA,AA];lia))
end Ev
namespace cE
open Ev
noncomputable def oE:List PySem.Addr:=[49,73]
noncomputable def x0:Fx:=#[1,1,[(.ret (.and [(.pB ⇑0 "int"),(.not (.pB ⇑0 "bool"))]))]]
noncomputable def x1:Fx:=#[3,3,[(.ret (.and [(.call 0 [⇑0]),(.chain ⇑1 [.LtE,.LtE] [⇑0,⇑2])]))]]
noncomputable def x2:Fx:=#[3,3,[(.ite (.not (.call 1 [⇑0,⇑1,⇑2])) [(.raise 0 (.vU [(false,(.val (.str (PySem.Str.ofString "no whole number from ")))),(true,⇑1),(false,(.val (.str (PySem.Str.ofString " to ")))),(true,⇑2)]))] [])]]
def x3:Fx:=#[2,4,[(.set 2 ↥1),(.loop (.nm 3) (.cV ⇑1) [(.aug 2 .Mult ⇑0)]),(.ret ⇑2)]]
def x4:Fx:=#[2,2,[(.expr (.call 2 [⇑0,↥1,↥9])),(.ite (.not (.pB ⇑1 "tuple")) (~~~4) []),(.ite (.not (.blt .all [(.comp 2 2 (.nm 3) ⇑1 none (.and [(.call 0 [⇑3]),(.cmp .GtE ⇑3 ↥1)]))])) (~~~4) []),(.ret (.and [(.cmp .Eq (.blt .sum [⇑1]) ⇑0),(.call 5 [⇑1])]))]]
def x5:Fx:=#[1,1,[(.ret (.blt .all [(.comp 1 2 (.nm 2) (.dJ ↥1 (.blt .len [⇑0])) none (.cmp .GtE (.ix ⇑0 (.bin .Sub ⇑2 ↥1)) (.ix ⇑0 ⇑2)))]))]]
noncomputable def x6:Fx:=#[2,2,[(.ite (.not (.call 4 [⇑0,⇑1])) [(.raise 1 (.vU [(false,(.val (.str (PySem.Str.ofString "no kind of turns of ")))),(true,⇑0)]))] [])]]
noncomputable def x7:Fx:=#[1,1,[(.expr (.call 2 [⇑0,↥1,↥9])),(.ret (.call 8 [⇑0,⇑0]))]]
def x8:Fx:=#[2,5,[(.ite (.cmp .Eq ⇑0 ↥0) [(.ret (.lst [(.tup [])]))] []),(.set 2 (.lst [])),(.loop (.nm 3) (.dJ ↥1 (.bin .Add (.blt .min [⇑0,⇑1]) ↥1)) [(.loop (.nm 4) (.call 8 [(.bin .Sub ⇑0 ⇑3),⇑3]) [(.expr (.append 2 (.bin .Add (.tup [⇑3]) ⇑4)))])]),(.ret ⇑2)]]
def x9:Fx:=#[2,5,[(.expr (.call 6 [⇑0,⇑1])),(.set 2 ↥1),(.loop (.tp [3,4]) (.enum ⇑1) [(.aug 2 .Mult (.bin .Mult ⇑4 (.meth .count (.slice ⇑1 none (!(.bin .Add ⇑3 ↥1))) ⇑4)))]),(.ret (.bin .FloorDiv (.call 10 [⇑0]) ⇑2))]]
def x10:Fx:=#[1,3,[(.set 1 ↥1),(.loop (.nm 2) (.dJ ↥1 (.bin .Add ⇑0 ↥1)) [(.aug 1 .Mult ⇑2)]),(.ret ⇑1)]]
noncomputable def x11:Fx:=#[2,2,[(.ret (.ite (.cmp .Lt ⇑0 ⇑1) (.tup [⇑0,⇑1]) (.tup [⇑1,⇑0])))]]
def x12:Fx:=#[1,1,[(.ret (.iH 1 3 (.nm 2) (.cV ⇑0) none (.nm 3) (.dJ (.bin .Add ⇑2 ↥1) ⇑0) none (.tup [⇑2,⇑3])))]]
def x13:Fx:=#[2,3,[(.setC 2 (.comp 3 2 (.nm 4) ⇑1 none (.call 14 [⇑0,⇑4]))),(.ret (.comp 3 2 (.nm 4) ⇑2 (!(.cmp .Eq (.ix ⇑4 ↥0) (.blt .min [⇑4]))) ⇑4))]]
def x14:Fx:=#[2,3,[(.set 2 (.lst [⇑1])),(.while (.cmp .NotEq (.ix ⇑0 (.ix ⇑2 (.neg ↥1))) ⇑1) [(.expr (.append 2 (.ix ⇑0 (.ix ⇑2 (.neg ↥1)))))]),(.ret (.blt .tuple [⇑2]))]]
def x15:Fx:=#[1,2,[(.set 1 (.call 12 [(.blt .len [⇑0])])),(.ret (.call 13 [(.qR 2 3 (.tp [3,4]) ⇑1 [⇑3,⇑4] (.call 11 [(.ix ⇑0 ⇑3),(.ix ⇑0 ⇑4)])),⇑1]))]]
def x16:Fx:=#[2,2,[(.expr (.call 6 [⇑0,⇑1])),(.ret (.blt .tuple [(.qT (.comp 2 2 (.nm 3) (.call 15 [(.call 17 [⇑1])]) none (.blt .len [⇑3])))]))]]
def x17:Fx:=#[1,4,[(.set 1 (.lst [])),(.loop (.nm 2) ⇑0 [(.set 3 (.blt .len [⇑1])),(.aug 1 .Add (.jG (.bin .Add ⇑3 ↥1) (.bin .Add ⇑3 ⇑2))),(.expr (.append 1 ⇑3))]),(.ret (.blt .tuple [⇑1]))]]
noncomputable def x18:Fx:=#[2,2,[(.ret (.call 3 [↥2,(.blt .len [(.call 16 [⇑0,⇑1])])]))]]
def JV:Fx:=#[2,3,[(.expr (.call 2 [⇑0,↥1,↥9])),(.expr (.call 2 [⇑1,↥1,↥9])),(.setC 2 (.comp 3 2 (.nm 4) (.call 7 [⇑0]) none (.bin .Mult (.bin .Mult (.call 9 [⇑0,⇑4]) (.call 18 [⇑0,⇑4])) (.call 3 [⇑1,(.blt .len [⇑4])])))),(.ret (.bin .FloorDiv (.blt .sum [⇑2]) (.call 10 [⇑0])))]]
def Yj:Fx:=#[2,4,[(.ite (.cmp .Eq ⇑0 ↥0) [(.ret (.lst [(.tup [])]))] []),(.set 2 (.lst [])),(.loop (.nm 3) (.dJ ↥1 (.bin .Add (.blt .min [⇑0,⇑1]) ↥1)) [(.expr (.extend 2 (.comp 4 2 (.nm 5) (.call 20 [(.bin .Sub ⇑0 ⇑3),⇑3]) none (.bin .Add (.tup [⇑3]) ⇑5))))]),(.ret ⇑2)]]
def x21:Fx:=#[1,5,[(.set 1 ↥1),(.loop (.nm 2) (.dJ ↥1 (.bin .Add (.blt .sum [⇑0]) ↥1)) [(.set 1 (.bin .Mult ⇑1 ⇑2))]),(.loop (.nm 3) (.sset ⇑0) [(.loop (.nm 4) (.cV (.meth .count ⇑0 ⇑3)) [(.set 1 (.bin .FloorDiv ⇑1 (.bin .Mult ⇑3 (.bin .Add ⇑4 ↥1))))])]),(.ret ⇑1)]]
noncomputable def x22:Fx:=#[1,7,[(.dct 1 [(.loop (.nm 2) (.cV (.blt .len [⇑0])) [(.loop (.nm 3) (.dJ (.bin .Add ⇑2 ↥1) (.blt .len [⇑0])) [(.item 1 (.tup [⇑2,⇑3]) (.val (.bl true)))])]),(.set 4 (.lst [])),(.while (.cmp .NotEq ⇑1 .emp) [(.set 5 (.ix (.blt .list [⇑1]) ↥0)),(.set 6 ↥0),(.while (.cmp .In ⇑5 ⇑1) [(.expr (.lq 1 ⇑5)),(.set 6 (.bin .Add ⇑6 ↥1)),(.set 5 (.tup [(.blt .min [(.ix ⇑0 (.ix ⇑5 ↥0)),(.ix ⇑0 (.ix ⇑5 ↥1))]),(.blt .max [(.ix ⇑0 (.ix ⇑5 ↥0)),(.ix ⇑0 (.ix ⇑5 ↥1))])]))]),(.expr (.append 4 ⇑6))]),(.ret ⇑4)])]]
noncomputable def x23:Fx:=#[1,4,[(.set 1 (.lst [])),(.set 2 ↥0),(.loop (.nm 3) ⇑0 [(.expr (.extend 1 (.comp 4 2 (.nm 5) (.cV ⇑3) none (.bin .Add ⇑2 (.bin .Mod (.bin .Add ⇑5 ↥1) ⇑3))))),(.set 2 (.bin .Add ⇑2 ⇑3))]),(.ret (.blt .tuple [⇑1]))]]
noncomputable def x24:Fx:=#[1,3,[(.set 1 (.lst [])),(.loop (.nm 2) (.cV ⇑0) [(.expr (.extend 1 (.comp 3 2 (.nm 4) (.dJ (.bin .Add ⇑2 ↥1) ⇑0) none (.tup [⇑2,⇑4]))))]),(.ret ⇑1)]]
def x25:Fx:=#[1,5,[(.set 1 (.lst [(.tup [])])),(.loop (.nm 2) (.cV ⇑0) [(.set 3 (.lst [])),(.loop (.nm 4) ⇑1 [(.expr (.extend 3 (.comp 5 2 (.nm 6) (.cV ⇑0) (!(.cmp .NotIn ⇑6 ⇑4)) (.bin .Add ⇑4 (.tup [⇑6])))))]),(.set 1 ⇑3)]),(.ret ⇑1)]]
def x26:Fx:=#[2,6,[(.set 2 (.lst [(.tup [])])),(.loop (.nm 3) (.cV ⇑0) [(.set 4 (.lst [])),(.loop (.nm 5) ⇑2 [(.expr (.extend 4 (.comp 6 2 (.nm 7) (.cV ⇑1) none (.bin .Add ⇑5 (.tup [⇑7])))))]),(.set 2 ⇑4)]),(.ret ⇑2)]]
def x27:Fx:=#[2,5,[(.set 2 (.lst [])),(.loop (.tp [3,4]) (.ix ⇑0 ↥1) [(.expr (.append 2 (.tup [(.blt .min [(.ix ⇑1 ⇑3),(.ix ⇑1 ⇑4)]),(.blt .max [(.ix ⇑1 ⇑3),(.ix ⇑1 ⇑4)])])))]),(.ret (.tup [(.ix ⇑0 ↥0),(.blt .tuple [(.blt .sorted [⇑2])])]))]]
def x28:Fx:=#[2,4,[(.set 2 (.bin .Mult (.lst [(.val .non)]) (.blt .len [⇑0]))),(.loop (.nm 3) (.cV (.blt .len [⇑0])) [(.item 2 (.ix ⇑1 ⇑3) (.ix ⇑0 ⇑3))]),(.ret (.blt .tuple [⇑2]))]]
def x29:Fx:=#[2,2,[(.ite (.cmp .Lt ⇑1 (.blt .len [⇑0])) [(.ret (.ix ⇑0 ⇑1))] []),(.ret ↥0)]]
def x30:Fx:=#[2,3,[(.set 2 (.call 29 [⇑0,⇑1])),(.ite (.cmp .GtE ⇑2 (.bin .Pow ↥10 ↥18)) [(.ret (.lst [(.bin .Sub ⇑2 (.bin .Pow ↥10 ↥18)),(.val (.bl true))]))] []),(.ret (.lst [(.bin .Mod ⇑2 ↥2147483647),(.val (.bl false))]))]]
def x31:Fx:=#[2,4,[(.ite (.ix ⇑0 ↥1) [(.set 2 (.bin .Mod (.ix ⇑0 ↥0) ⇑1)),(.item 0 ↥0 (.bin .FloorDiv (.ix ⇑0 ↥0) ⇑1)),(.ret ⇑2)] []),(.item 0 ↥0 (.bin .Mod (.bin .Add (.bin .Mult (.ix ⇑0 ↥0) ↥48271) ↥29) ↥2147483647)),(.set 3 (.bin .Mod (.bin .Add (.bin .Add (.bin .Mult (.ix ⇑0 ↥0) (.ix ⇑0 ↥0)) (.bin .Mult ↥39373 (.ix ⇑0 ↥0))) ↥7) ↥2147483629)),(.set 3 (.bin .Mod (.bin .Add (.bin .Mult ⇑3 ⇑3) (.bin .Mult ↥16807 ⇑3)) ↥2147483587)),(.ret (.bin .Mod (.bin .FloorDiv ⇑3 ↥8) ⇑1))]]
noncomputable def x32:Fx:=#[2,2,[(.ite (.De ⇑1 ["tuple", "list"]) [(.ite (.or [(.cmp .NotEq (.pB ⇑0 "tuple") (.pB ⇑1 "tuple")),(.cmp .NotEq (.pB ⇑0 "list") (.pB ⇑1 "list"))]) (~~~4) []),(.ite (.cmp .NotEq (.blt .len [⇑0]) (.blt .len [⇑1])) (~~~4) []),(.ret (.blt .all [(.comp 2 3 (.tp [3,4]) (.zip ⇑0 ⇑1) none (.call 32 [⇑3,⇑4]))]))] []),(.ret (.and [(.cmp .Eq ⇑0 ⇑1),(.cmp .Eq (.pB ⇑0 "bool") (.pB ⇑1 "bool"))]))]]
noncomputable def Yk:Fx:=#[1,4,[(.set 1 (.val .non)),.stuck,(.set 3 (.lst [(.qU ⇑1 [(49,false),(73,false)]),(.qU ⇑1 [(49,true),(73,false)]),(.qU ⇑1 [(49,false),(73,false)])])),(.set 3 (.bin .Add ⇑3 (.lst [(.qU ⇑1 [(49,false),(73,true)]),(.qU ⇑1 [(49,false),(73,false)]),(.qU ⇑1 [(49,false),(73,false)])]))),(.set 3 (.bin .Add ⇑3 (.lst [(.qU ⇑1 [(49,false),(73,false)]),(.qU ⇑1 [(49,false),(73,false)]),(.qU ⇑1 [(49,false),(73,false)])]))),(.set 3 (.bin .Add ⇑3 (.lst [(.qU ⇑1 [(49,false),(73,false)]),(.qU ⇑1 [(49,false),(73,false)]),(.qU ⇑1 [(49,false),(73,false)])]))),(.set 3 (.bin .Add ⇑3 (.lst [(.qU ⇑1 [(49,false),(73,false)]),(.qU ⇑1 [(49,false),(73,false)]),(.qU ⇑1 [(49,false),(73,false)])]))),(.ite (.not (.qU ⇑1 [(49,true),(73,true)])) [(.ret (.val .non))] []),(.ret (.comp 4 2 (.nm 5) (.cV ↥15) (!(.ix ⇑3 ⇑5)) ⇑5))]]
def Yl:Fx:=#[2,8,[(.set 2 ↥0),(.set 3 ↥0),(.loop (.nm 4) (.call 20 [⇑0,⇑0]) [(.set 5 (.call 21 [⇑4])),(.set 6 ⇑5),(.loop (.nm 7) (.call 22 [(.call 23 [⇑4])]) [(.set 6 (.bin .Mult ⇑6 ↥2))]),(.loop (.nm 7) ⇑4 [(.set 6 (.bin .Mult ⇑6 ⇑1))]),(.set 2 (.bin .Add ⇑2 ⇑6)),(.set 3 (.bin .Add ⇑3 ⇑5))]),(.ret (.bin .FloorDiv ⇑2 ⇑3))]]
def KC:Fx:=#[2,8,[(.set 2 (.lst [(.tup [])])),(.loop (.nm 3) (.call 24 [⇑0]) [(.set 2 (.bin .Add ⇑2 (.comp 8 2 (.nm 9) ⇑2 none (.bin .Add ⇑9 (.tup [⇑3])))))]),(.set 5 (.call 25 [⇑0])),(.dct 6 [(.loop (.nm 4) ⇑2 [(.loop (.nm 7) (.call 26 [⇑0,⇑1]) [(.item 6 (.blt .min [(.comp 8 2 (.nm 9) ⇑5 none (.tup [(.call 27 [(.tup [⇑0,⇑4]),⇑9]),(.call 28 [⇑7,⇑9])]))]) (.val (.bl true)))])]),(.ret (.blt .len [⇑6]))])]]
def Ym:Fx:=#[1,6,[(.set 1 (.call 30 [⇑0,↥0])),(.set 4 (.ix (.lst [↥3,↥9,↥2,(.bin .Add ↥1 (.call 31 [⇑1,↥9])),↥8,↥6,↥1,↥5]) (.call 31 [⇑1,↥8]))),(.set 5 (.ix (.lst [↥2,↥3,↥9,(.bin .Add ↥1 (.call 31 [⇑1,↥9]))]) (.call 31 [⇑1,↥4]))),(.set 2 (.call 34 [⇑4,⇑5])),(.ite (.and [(.cmp .Lt ⇑4 ↥4),(.cmp .Lt ⇑5 ↥4),(.cmp .NotEq (.call 35 [⇑4,⇑5]) ⇑2)]) (~~~4) []),(.ite (.not (.peek (.call 32 [(.call 19 [⇑4,⇑5]),⇑2]))) (~~~4) []),(.set 3 (.ix (.lst [↥0,↥10,(.neg ↥1),(.val (.bl true)),(.val .non),(.val (.str (PySem.Str.ofString "2"))),(.tup [↥2]),(.bin .Pow ↥10 ↥29)]) (.call 31 [⇑1,↥8]))),(.ite (.cmp .NotEq (.oz 33 1 oE (.call 19 [⇑3,⇑3])) (.lst [↥1])) (~~~4) []),(.ite (.cmp .NotEq (.oz 33 1 oE (.call 19 [⇑4,⇑3])) (.lst [↥1])) (~~~4) []),(.ret (.cmp .Eq (.oz 33 1 oE (.call 19 [⇑3,⇑5])) (.lst [↥1])))]]
def fns:List Fx:=[x0,x1,x2,x3,x4,x5,x6,x7,x8,x9,x10,x11,x12,x13,x14,x15,x16,x17,x18,JV,Yj,x21,x22,x23,x24,x25,x26,x27,x28,x29,x30,x31,x32,Yk,Yl,KC,Ym]
theorem c0:fns[0]?=!bF:=rfl
theorem c1:fns[1]?=!(aU 0):=rfl
theorem c2:fns[2]?=!(bw 1 0):=rfl
theorem c3:fns[3]?=!DP:=rfl
theorem c4:fns[4]?=!(bV 2 0 5):=rfl
theorem c5:fns[5]?=!iL:=rfl
theorem c6:fns[6]?=!(cL 4 1):=rfl
theorem c7:fns[7]?=!x7:=rfl
theorem c9:fns[9]?=!(JN 6 10):=rfl
theorem c10:fns[10]?=!yX:=rfl
theorem c11:fns[11]?=!Du:=rfl
theorem c12:fns[12]?=!Qm:=rfl
theorem c13:fns[13]?=!(iY 14):=rfl
theorem c14:fns[14]?=!iX:=rfl
theorem c15:fns[15]?=!(Dw 12 13 11):=rfl
theorem c16:fns[16]?=!(JQ 6 15 17):=rfl
theorem c17:fns[17]?=!twX:=rfl
theorem c18:fns[18]?=!(smX 3 16):=rfl
theorem c19:fns[19]?=!JV:=rfl
theorem c20:fns[20]?=!Yj:=rfl
theorem c21:fns[21]?=!x21:=rfl
theorem c22:fns[22]?=!x22:=rfl
theorem c23:fns[23]?=!x23:=rfl
theorem c29:fns[29]?=!o7:=rfl
theorem c30:fns[30]?=!(kK 29):=rfl
theorem c31:fns[31]?=!bR:=rfl
theorem c32:fns[32]?=!(Ai 32):=rfl
theorem c33:fns[33]?=!Yk:=rfl
theorem c34:fns[34]?=!Yl:=rfl
theorem c35:fns[35]?=!KC:=rfl
end cE
namespace cE
open Ev
def one(s:Int)(j:Nat)(t: ~~~0):Int:=cnt j t * 2 ^ (bS t).length * s ^ t.length
theorem JW:((List.range 10).all λs=>(List.range 10).all λm=>decide (1<=s->(s:Int) ^ m<2 ^ 62/\0<(s:Int) ^ m))=true:=by decide +kernel
theorem pows{s m:Nat}(hs:1<=s/\s<=9)(hm:m<=9):(s:Int) ^ m<2 ^ 62/\0<(s:Int) ^ m:=
 i4 (eC.mp (eC.mp JW s (yB.mpr ⋯)) m (yB.mpr ⋯)) hs.1
def pW(s:Int)(j:Nat):Int:=((kinds j).map (one s j)).sum / pC j
section
variable{k n:Nat}{g g1:G}{rn:Nat->Rn}(U:jg fns rn)
variable(Yi:∀j:Nat,1<=j/\j<=9->(∀p∈prs j,∃a b:Int,p=[a,b]/\0<=a/\a<j/\0<=b/\b<j)/\(prs j).Nodup/\(prs j).length<=36)
include U
theorem q9{j:Nat}{t: ~~~0}(K:Kd j t):bz (rn (n+60)) (k+6) (JN 6 10) [.int j,~~~t]=!(.dat (.int (cnt j t))):=Xk U c0 c5 c1 c2 c4 c6 c10 K
include Yi in
theorem q18{j:Nat}{t: ~~~0}(K:Kd j t):bz (rn (n+84)) (k+11) (smX 3 16) [.int j,~~~t]=!(.dat (.int (2 ^ (bS t).length))):=sm_ok U (n:=n+54) (k:=k+10) c16 rfl c3 K (Qp U c0 c5 c1 c2 c4 c6 c14 c11 c13 c12 c15 c17 Yi K)
include Yi in
theorem q19{j s:Nat}(hj:1<=j/\j<=9)(hs:1<=s/\s<=9)(hK:∀t∈kinds j,Kd j t)(hl:(kinds j).length<=30)(qA:bz (rn (n+88)) (k+11) x7 [.int j]=!(.new ((kinds j).map ∅))):bz (rn (n+90)) (k+12) JV [.int j,.int s]=!(.dat (.int (pW s j))):=by
 have m1:=λn k=>jK U c0 c1 (n:=n) (k:=k) (ci:=0) (.int j) 1 9 (by simp[uy];lia)
 have m2:=λn k=>jK U c0 c1 (n:=n) (k:=k) (ci:=0) (.int s) 1 9 (by simp[uy];lia)
 have w:=wC (rn:=rn (n+89)) (bor:=[]) (k:=k+12) (g:=[‹j›,‹s›,.no]) (g1:=[‹j›,‹s›,.no]) (kk:=2) (nn:=3) (j:=4) (it:=.call 7 [⇑0]) (e:=.bin .Mult (.bin .Mult (.call 9 [⇑0,⇑4]) (.call 18 [⇑0,⇑4])) (.call 3 [⇑1,(.blt .len [⇑4])])) (kinds j) (λt=>~~~t) (λt=>.int (one s j t)) (by
  simp! [U,fW,c7,aY (fx:=x7) rfl,qA]) rfl ⋯ ⋯ ⋯ (aF _ ⋯) λt ht G' hG=>by
  have h0:G'[0]?=!‹j›:=hG.1 0 ⋯;have h1:G'[1]?=!‹s›:=hG.1 1 ⋯;have K:=hK t ht;have q1:=λn k=>q9 U (n:=n) (k:=k) K
  have q2:=λn k=>q18 U Yi (n:=n) (k:=k) K
  have q3:=λn k=>JL U (n:=n) (k:=k) (s:Int) t.length ⋯ (by have:=K.le;lia)
  have e:=cP (cnt j t) (2 ^ (bS t).length) (.inl #[by have:=K.cn;lia,by have:=K.cn;lia])
  have hp:=pows hs K.le;have e2:=cP (cnt j t * 2 ^ (bS t).length) ((s:Int) ^ t.length) (.inr #[by lia,by lia])
  unfold one;simp! [U,h0,h1,hG.2,c9,aZ (fx:=JN 6 10) rfl,q1,c18,aZ (fx:=smX 3 16) rfl,q2,e,c3,aZ (fx:=DP) rfl,q3,e2]
 have e1:(kinds j).map (λt=>D.int (one s j t))=((kinds j).map (one s j)).map .int:=by rw[List.map_map];rfl
 have dv:=mC ((kinds j).map (one s j)).sum (pC j) (JT hj);have q3:=λn k=>JM U (n:=n) (k:=k) j hj.2
 unfold pW;generalize ((kinds j).map (one s j))=L at e1 dv;have bs:=wG L;unfold bz JV;simp! [U,c2,bK (fx:=bw 1 0) rfl,m1,m2,w,e1,bs,c10,aY (fx:=yX) rfl,q3,dv]
theorem Rt(b d:D)(h:uy 1 9 b=false):rD (rn (n+40)) (k+4) JV [b,d]=!0:=by
 have m:=λn k=>Aj U c0 c1 (n:=n) (k:=k) (ci:=0) b 1 9 (by decide +kernel) h
 unfold rD JV;simp! [U,c2,eu (fx:=bw 1 0) rfl,m]
theorem x19_s(j:Nat)(hj:1<=j/\j<=9)(b:D)(h:uy 1 9 b=false):rD (rn (n+40)) (k+4) JV [.int j,b]=!0:=by
 have m:=λn k=>Aj U c0 c1 (n:=n) (k:=k) (ci:=0) b 1 9 (by decide +kernel) h
 have m1:=λn k=>jK U c0 c1 (n:=n) (k:=k) (ci:=0) (.int j) 1 9 (by simp[uy];lia)
 have m2:=λn k=>JC U c0 c1 (n:=n) (k:=k) (ci:=0) (.int j) 1 9 (by simp[uy];lia)
 unfold rD JV;simp! [U,c2,eu (fx:=bw 1 0) rfl,bK (fx:=bw 1 0) rfl,m,m1,m2]
end
end cE
namespace cE
open Ev
def Yn:List Sm:=[(.set 5 (.call 21 [⇑4])),(.set 6 ⇑5),(.loop (.nm 7) (.call 22 [(.call 23 [⇑4])]) [(.set 6 (.bin .Mult ⇑6 ↥2))]),(.loop (.nm 7) ⇑4 [(.set 6 (.bin .Mult ⇑6 ⇑1))]),(.set 2 (.bin .Add ⇑2 ⇑6)),(.set 3 (.bin .Add ⇑3 ⇑5))]
structure Lk(rn:Nat->Rn)(n k:Nat)(j:Nat)(t: ~~~0):Prop where
 a21:bz (rn (n+125)) (k+11) x21 [~~~t]=!(.dat (.int (cnt j t)))
 a22:∃u l,bz (rn (n+124)) (k+11) x23 [~~~t]=!(.dat u)/\bz (rn (n+125)) (k+11) x22 [u]=!(.new l)/\l.length=(bS t).length/\l.length<=36
section
variable{k n:Nat}{g g1:G}{rn:Nat->Rn}(U:jg fns rn)
include U
theorem lp2(a0 a1 a2 a3 a4 a5:Slot):∀(ds:List D) (v:Int) (a7:Slot),∃b7,cg (.nm 7) ((rn (n+126)).b [] (k+12) [(.set 6 (.bin .Mult ⇑6 ↥2))]) ds [a0,a1,a2,a3,a4,a5,‹v›,a7]=!(.nx,[a0,a1,a2,a3,a4,a5,.dat (.int (v * 2 ^ ds.length)),b7])
 | [],v,a7=>#[a7,by simp[cg]]
 |d::ds,v,a7=>by
  have e:=cP v 2 (.inr #[by lia,by lia])
  obtain⟨b7,ih⟩:=lp2 a0 a1 a2 a3 a4 a5 ds (v * 2) (.dat d);refine#[b7,?_];rw[dN (g0:=[a0,a1,a2,a3,a4,a5,‹v›,.dat d]) (g1:=[a0,a1,a2,a3,a4,a5,.dat (.int (v * 2)),.dat d]) rfl (by simp! [U,e]),ih,gL,Int.pow_succ',<- CO]
theorem lps{s:Nat}(hs:1<=s/\s<=9)(a0 a2 a3 a4 a5:Slot):∀(ds:List D) (v:Int) (a7:Slot),∃b7,cg (.nm 7) ((rn (n+126)).b [] (k+12) [(.set 6 (.bin .Mult ⇑6 ⇑1))]) ds [a0,‹s›,a2,a3,a4,a5,‹v›,a7]=!(.nx,[a0,‹s›,a2,a3,a4,a5,.dat (.int (v * s ^ ds.length)),b7])
 | [],v,a7=>#[a7,by simp[cg]]
 |d::ds,v,a7=>by
  have e:=cP v s (.inr #[by lia,by lia])
  obtain⟨b7,ih⟩:=lps hs a0 a2 a3 a4 a5 ds (v * s) (.dat d);refine#[b7,?_];rw[dN (g0:=[a0,‹s›,a2,a3,a4,a5,‹v›,.dat d]) (g1:=[a0,‹s›,a2,a3,a4,a5,.dat (.int (v * s)),.dat d]) rfl (by simp! [U,e]),ih,gL,Int.pow_succ',<- CO]
theorem tn34{j s:Nat}(hs:1<=s/\s<=9){t: ~~~0}(K:Kd j t)(L:Lk rn n k j t)(a0 a5 a6 a7:Slot)(T C:Int):∃b5 b6 b7,(rn (n+127)).b [] (k+12) Yn [a0,‹s›,‹T›,‹C›,.dat (~~~t),a5,a6,a7]=!(.nx,[a0,‹s›,.dat (.int (T+one s j t)),.dat (.int (C+cnt j t)),.dat (~~~t),b5,b6,b7]):=by
 obtain⟨u,l,h1,h2,h3,h4⟩:=L.a22;have h0:=L.a21;obtain⟨b7,p1⟩:=lp2 U (n:=n) (k:=k) a0 ‹s› ‹T› ‹C› (.dat (~~~t)) (.dat (.int (cnt j t))) l (cnt j t) a7;obtain⟨c7,p2⟩:=lps U (n:=n) (k:=k) hs a0 ‹T› ‹C› (.dat (~~~t)) (.dat (.int (cnt j t))) (t.map .int) (cnt j t * 2 ^ l.length) b7;rw[h3,eA]at p2;rw[h3]at p1;refine#[.dat (.int (cnt j t)),.dat (.int (one s j t)),c7,?_];have e1:aK (rn (n+126)) [] (k+12) (.set 5 (.call 21 [⇑4])) [a0,‹s›,‹T›,‹C›,.dat (~~~t),a5,a6,a7]=!(.nx,[a0,‹s›,‹T›,‹C›,.dat (~~~t),.dat (.int (cnt j t)),a6,a7]):=by simp! [U,c21,aY (fx:=x21) rfl,h0]
 have e2:aK (rn (n+126)) [] (k+12) (.set 6 ⇑5) [a0,‹s›,‹T›,‹C›,.dat (~~~t),.dat (.int (cnt j t)),a6,a7]=!(.nx,[a0,‹s›,‹T›,‹C›,.dat (~~~t),.dat (.int (cnt j t)),.dat (.int (cnt j t)),a7]):=by simp! [U,U.e]
 have e3:aK (rn (n+126)) [] (k+12) (.loop (.nm 7) (.call 22 [(.call 23 [⇑4])]) [(.set 6 (.bin .Mult ⇑6 ↥2))]) [a0,‹s›,‹T›,‹C›,.dat (~~~t),.dat (.int (cnt j t)),.dat (.int (cnt j t)),a7]=!(.nx,[a0,‹s›,‹T›,‹C›,.dat (~~~t),.dat (.int (cnt j t)),.dat (.int (cnt j t * 2 ^ (bS t).length)),b7]):=by
  have hw:fW (rn (n+126)) [] (k+12) false (.call 22 [(.call 23 [⇑4])]) [a0,‹s›,‹T›,‹C›,.dat (~~~t),.dat (.int (cnt j t)),.dat (.int (cnt j t)),a7]=!(l,[a0,‹s›,‹T›,‹C›,.dat (~~~t),.dat (.int (cnt j t)),.dat (.int (cnt j t)),a7]):=by simp! [U,fW,c23,aY (fx:=x23) rfl,h1,c22,aY (fx:=x22) rfl,h2]
  generalize hb:(rn (n+126)).b [] (k+12) [(.set 6 (.bin .Mult ⇑6 ↥2))]=bb at p1;simp only[aK,Tg.ix,Tg.fV,hw,hb,p1];simp
 have e4:aK (rn (n+126)) [] (k+12) (.loop (.nm 7) ⇑4 [(.set 6 (.bin .Mult ⇑6 ⇑1))]) [a0,‹s›,‹T›,‹C›,.dat (~~~t),.dat (.int (cnt j t)),.dat (.int (cnt j t * 2 ^ (bS t).length)),b7]=!(.nx,[a0,‹s›,‹T›,‹C›,.dat (~~~t),.dat (.int (cnt j t)),.dat (.int (one s j t)),c7]):=by
  have hw:fW (rn (n+126)) [] (k+12) false ⇑4 [a0,‹s›,‹T›,‹C›,.dat (~~~t),.dat (.int (cnt j t)),.dat (.int (cnt j t * 2 ^ (bS t).length)),b7]=!(t.map .int,[a0,‹s›,‹T›,‹C›,.dat (~~~t),.dat (.int (cnt j t)),.dat (.int (cnt j t * 2 ^ (bS t).length)),b7]):=by simp! [U,fW]
  generalize hb:(rn (n+126)).b [] (k+12) [(.set 6 (.bin .Mult ⇑6 ⇑1))]=bb at p2;simp only[aK,Tg.ix,Tg.fV,hw,hb,p2];simp[one]
 unfold Yn;rw[U.b,aV e1,aV e2,aV e3,aV e4];simp! [U,U.e]
def Qq(s:Int)(j:Nat)(l: ~~~5)(T:Int):Int:=l.foldl (λT t=>T+one s j t) T
def Qs(j:Nat)(l: ~~~5)(C:Int):Int:=l.foldl (λC t=>C+Ev.cnt j t) C
theorem lp34{j s:Nat}(hs:1<=s/\s<=9)(a0:Slot):∀(l: ~~~5) (T C:Int) (a4 a5 a6 a7:Slot),(∀t∈l,Kd j t/\Lk rn n k j t)->∃b4 b5 b6 b7,cg (.nm 4) ((rn (n+127)).b [] (k+12) Yn) (l.map λt=>~~~t) [a0,‹s›,‹T›,‹C›,a4,a5,a6,a7]=!(.nx,[a0,‹s›,.dat (.int (Qq s j l T)),.dat (.int (Qs j l C)),b4,b5,b6,b7])
 | [],T,C,a4,a5,a6,a7,_=>#[a4,a5,a6,a7,rfl]
 |t::l,T,C,a4,a5,a6,a7,h=>by
  obtain⟨K,L⟩:=h t b0;obtain⟨b5,b6,b7,q⟩:=tn34 U hs K L a0 a5 a6 a7 T C;obtain⟨c4,c5,c6,c7,ih⟩:=lp34 hs a0 l (T+one s j t) (C+cnt j t) (.dat (~~~t)) b5 b6 b7 λx hx=>h x (bP _ hx)
  refine#[c4,c5,c6,c7,?_];rw[List.map_cons,dN (g0:=[a0,‹s›,‹T›,‹C›,.dat (~~~t),a5,a6,a7]) rfl q,ih];rfl
omit U in
theorem Au(s:Int)(j:Nat):∀(l: ~~~5) (T:Int),Qq s j l T=T+(l.map (one s j)).sum
 | [],T=>by simp[Qq]
 |t::l,T=>by
  show Qq s j l (T+one s j t)=_;rw[Au,List.map_cons,BY];lia
theorem q34{j s:Nat}(hj:1<=j/\j<=9)(hs:1<=s/\s<=9)(hK:∀t∈kinds j,Kd j t/\Lk rn n k j t)(hC:Qs j (kinds j) 0=pC j)(qA:bz (rn (n+126)) (k+11) Yj [.int j,.int j]=!(.new ((kinds j).map ∅))):bz (rn (n+128)) (k+12) Yl [.int j,.int s]=!(.dat (.int (pW s j))):=by
 obtain⟨b4,b5,b6,b7,lp⟩:=lp34 U (n:=n) (k:=k) hs ‹j› (kinds j) 0 0 .no .no .no .no hK;rw[hC,Au,Int.zero_add]at lp;have dv:=mC ((kinds j).map (one s j)).sum (pC j) (JT hj);have hw:fW (rn (n+127)) [] (k+12) false (.call 20 [⇑0,⇑0]) [‹j›,‹s›,‹0›,‹0›,.no,.no,.no,.no]=!((kinds j).map λt=>~~~t,[‹j›,‹s›,‹0›,‹0›,.no,.no,.no,.no]):=by simp! [U,fW,c20,aZ (fx:=Yj) rfl,qA]
 have e3:aK (rn (n+127)) [] (k+12) (.loop (.nm 4) (.call 20 [⇑0,⇑0]) Yn) [‹j›,‹s›,‹0›,‹0›,.no,.no,.no,.no]=!(.nx,[‹j›,‹s›,.dat (.int ((kinds j).map (one s j)).sum),.dat (.int (pC j)),b4,b5,b6,b7]):=by generalize hb:(rn (n+127)).b [] (k+12) Yn=bb at lp;simp only[aK,Tg.ix,Tg.fV,hw,hb,lp];simp
 have e1:aK (rn (n+127)) [] (k+12) (.set 2 ↥0) [‹j›,‹s›,.no,.no,.no,.no,.no,.no]=!(.nx,[‹j›,‹s›,‹0›,.no,.no,.no,.no,.no]):=by simp! [U,U.e]
 have e2:aK (rn (n+127)) [] (k+12) (.set 3 ↥0) [‹j›,‹s›,‹0›,.no,.no,.no,.no,.no]=!(.nx,[‹j›,‹s›,‹0›,‹0›,.no,.no,.no,.no]):=by simp! [U,U.e]
 have hb:Yl.body=[(.set 2 ↥0),(.set 3 ↥0),(.loop (.nm 4) (.call 20 [⇑0,⇑0]) Yn),(.ret (.bin .FloorDiv ⇑2 ⇑3))]:=rfl;unfold bz pW;rw[hb];have hp:dU Yl.n (WY [.int j,.int s])=[‹j›,‹s›,.no,.no,.no,.no,.no,.no]:=rfl;rw[hp,U.b,aV e1,aV e2,aV e3];simp! [U,dv]
end
end cE
namespace cE
open Ev
def Xl(rn:Rn)(k:Nat)(C:Nat)(c:Int):Prop:=∃r g3,rn.b [] k (Yk.body.drop 2) ((List.replicate Yk.n .no).set 1 (.dat (.lG C)))=!(.rt r,g3)/\dj [] g3 r=!(.new [.int c])
structure Fk(rn:Nat->Rn)(n k:Nat):Prop where
 kd:∀j:Nat,1<=j/\j<=9->∀t∈kinds j,Kd j t/\Lk rn n k j t
 few:∀j:Nat,1<=j/\j<=9->(kinds j).length<=30/\Qs j (kinds j) 0=pC j
 pr:∀j:Nat,1<=j/\j<=9->(∀p∈prs j,∃a b:Int,p=[a,b]/\0<=a/\a<j/\0<=b/\b<j)/\(prs j).Nodup/\(prs j).length<=36
 a20:∀j:Nat,1<=j/\j<=9->bz (rn (n+126)) (k+11) Yj [.int j,.int j]=!(.new ((kinds j).map ∅))
 a7:∀j:Nat,1<=j/\j<=9->bz (rn (n+122)) (k+11) x7 [.int j]=!(.new ((kinds j).map ∅))
 a35:∀j s:Nat,1<=j/\j<=3->1<=s/\s<=3->bz (rn (n+126)) (k+12) KC [.int j,.int s]=!(.dat (.int (pW s j)))
 a0:Xl (rn (n+127)) (k+11) 49 1
noncomputable def JK:List D:=[.int 0,.int 10,.int (-1),.bl true,.non,.str (PySem.Str.ofString "2"),.tup [.int 2],.int 100000000000000000000000000000]
theorem Qt{b:D}(h:b∈JK):uy 1 9 b=false:=by simp only[JK,dL,kA,AA]at h;rcases h with rfl |rfl |rfl |rfl |rfl |rfl |rfl |rfl <;> decide
section
variable{k n:Nat}{g g1:G}{rn:Nat->Rn}(U:jg fns rn)
include U
theorem rfd(h0:Xl (rn (n+127)) (k+11) 49 1){a b:Nat}{da db:D}(A1 d2:Slot)(A0 d3 d4 d5:Slot)(ha:[noOwn A0,noOwn A1,noOwn d2,noOwn d3,noOwn d4,noOwn d5][a]?=!(.dat da))(hb:[noOwn A0,noOwn A1,noOwn d2,noOwn d3,noOwn d4,noOwn d5][b]?=!(.dat db))(z:rD (rn (n+126)) (k+10) JV [da,db]=!0) :
  (rn (n+128)).e [] (k+13) (.oz 33 1 oE (.call 19 [(.slot a),(.slot b)])) [A0,A1,d2,d3,d4,d5]=!(.new [.int 1],[A0,A1,d2,d3,d4,d5]):=by
 obtain⟨r,g3,f1,f2⟩:=h0;have nz:List.map noOwn [A0,A1,d2,d3,d4,d5]=[noOwn A0,noOwn A1,noOwn d2,noOwn d3,noOwn d4,noOwn d5]:=rfl;have hc:oE[0]?=!49:=rfl;generalize hN:[noOwn A0,noOwn A1,noOwn d2,noOwn d3,noOwn d4,noOwn d5]=GN at nz ha hb;have x1:(rn (n+127)).x [] (k+11) (.call 19 [(.slot a),(.slot b)]) (List.map noOwn [A0,A1,d2,d3,d4,d5])=!(0,GN):=by rw[nz];simp! [U,ha,hb,c19,Qa (fx:=JV) rfl,z]
 rw[U.e];simp only[aP,c33,x1,hc,f1,f2]
variable(F:Fk rn n k)
include F
theorem whole(ns: ~~~0)(hl:ns.length<=63):∃g',(rn (n+130)).b [] (k+13) Ym.body [.dat (.fix (ns.map .int)),.no,.no,.no,.no,.no]=!(.rt (.dat (.bl true)),g'):=by
 obtain⟨s,fl,q1⟩:=JB U c29 (n:=n+88) (k:=k+11) ns ⋯ 0;have q1:bz (rn (n+128)) (k+12) (kK 29) [.fix (ns.map .int),.int 0]=!(.new [.int s,.bl fl]):=q1;have e1:aK (rn (n+129)) [] (k+13) (.set 1 (.call 30 [⇑0,↥0])) [.dat (.fix (ns.map .int)),.no,.no,.no,.no,.no]=!(.nx,[.dat (.fix (ns.map .int)),St s fl,.no,.no,.no,.no]):=by simp! [U,c30,aZ (fx:=kK 29) rfl,q1]
 generalize hA:Slot.dat (.fix (ns.map .int))=A at *;obtain⟨r1,s1,l1,l2,t1⟩:=fL U (n:=n+105) (k:=k+12) (g:=[A,St s fl,.no,.no,.no,.no]) (i:=1) (s:=s) (fl:=fl) (m:=9) rfl ⋯;obtain⟨r2,s2,l3,l4,t2⟩:=fL U (n:=n+107) (k:=k+12) (g:=[A,St s1 fl,.no,.no,.no,.no]) (i:=1) (s:=s1) (fl:=fl) (m:=8) rfl ⋯;have t1':dD (rn (n+125)) bR (k+12) [.var 1,‹9›] [A,St s fl,.no,.no,.no,.no]=!(‹r1›,[A,St s1 fl,.no,.no,.no,.no]):=t1;have t2':dD (rn (n+127)) bR (k+12) [.var 1,‹8›] [A,St s1 fl,.no,.no,.no,.no]=!(‹r2›,[A,St s2 fl,.no,.no,.no,.no]):=t2;obtain⟨j,hj,ej⟩:∃j:Nat,(1<=j/\j<=9)/\L2.g9 [D.int 3,.int 9,.int 2,.int (1+r1),.int 8,.int 6,.int 1,.int 5] r2=!(.int j):=by
  obtain⟨x,hx,e⟩:=tZ (l:=[D.int 3,.int 9,.int 2,.int (1+r1),.int 8,.int 6,.int 1,.int 5]) (r:=r2) #[l3,l4];simp only[dL,kA,AA]at hx;rcases hx with rfl |rfl |rfl |rfl |rfl |rfl |rfl |rfl
  . exact#[3,by decide,e]
  . exact#[9,by decide,e]
  . exact#[2,by decide,e]
  . exact#[(1+r1).toNat,by lia,by rw[e];congr 2;lia]
  . exact#[8,by decide,e]
  . exact#[6,by decide,e]
  . exact#[1,by decide,e]
  . exact#[5,by decide,e]
 have e2:aK (rn (n+129)) [] (k+13) (.set 4 (.ix (.lst [↥3,↥9,↥2,(.bin .Add ↥1 (.call 31 [⇑1,↥9])),↥8,↥6,↥1,↥5]) (.call 31 [⇑1,↥8]))) [A,St s fl,.no,.no,.no,.no]=!(.nx,[A,St s2 fl,.no,.no,‹j›,.no]):=by simp! [U,c31,t1',t2',aF 8 ⋯,ej]
 obtain⟨r3,s3,l5,l6,t3⟩:=fL U (n:=n+105) (k:=k+12) (g:=[A,St s2 fl,.no,.no,‹j›,.no]) (i:=1) (s:=s2) (fl:=fl) (m:=9) rfl ⋯;obtain⟨r4,s4,l7,l8,t4⟩:=fL U (n:=n+107) (k:=k+12) (g:=[A,St s3 fl,.no,.no,‹j›,.no]) (i:=1) (s:=s3) (fl:=fl) (m:=4) rfl ⋯;have t3':dD (rn (n+125)) bR (k+12) [.var 1,‹9›] [A,St s2 fl,.no,.no,‹j›,.no]=!(‹r3›,[A,St s3 fl,.no,.no,‹j›,.no]):=t3;have t4':dD (rn (n+127)) bR (k+12) [.var 1,‹4›] [A,St s3 fl,.no,.no,‹j›,.no]=!(‹r4›,[A,St s4 fl,.no,.no,‹j›,.no]):=t4;obtain⟨q,hq,eq⟩:∃q:Nat,(1<=q/\q<=9)/\L2.g9 [D.int 2,.int 3,.int 9,.int (1+r3)] r4=!(.int q):=by
  obtain⟨x,hx,e⟩:=tZ (l:=[D.int 2,.int 3,.int 9,.int (1+r3)]) (r:=r4) #[l7,l8];simp only[dL,kA,AA]at hx;rcases hx with rfl |rfl |rfl |rfl
  . exact#[2,by decide,e]
  . exact#[3,by decide,e]
  . exact#[9,by decide,e]
  . exact#[(1+r3).toNat,by lia,by rw[e];congr 2;lia]
 have e3:aK (rn (n+129)) [] (k+13) (.set 5 (.ix (.lst [↥2,↥3,↥9,(.bin .Add ↥1 (.call 31 [⇑1,↥9]))]) (.call 31 [⇑1,↥4]))) [A,St s2 fl,.no,.no,‹j›,.no]=!(.nx,[A,St s4 fl,.no,.no,‹j›,‹q›]):=by simp! [U,c31,t3',t4',aF 4 ⋯,eq]
 obtain⟨fw,fc⟩:=F.few j hj;have d34:=q34 U (n:=n) (k:=k) hj hq (F.kd j hj) fc (F.a20 j hj);have e4:aK (rn (n+129)) [] (k+13) (.set 2 (.call 34 [⇑4,⇑5])) [A,St s4 fl,.no,.no,‹j›,‹q›]=!(.nx,[A,St s4 fl,.dat (.int (pW q j)),.no,‹j›,‹q›]):=by simp! [U,c34,aZ (fx:=Yl) rfl,d34]
 have e5:aK (rn (n+129)) [] (k+13) (.ite (.and [(.cmp .Lt ⇑4 ↥4),(.cmp .Lt ⇑5 ↥4),(.cmp .NotEq (.call 35 [⇑4,⇑5]) ⇑2)]) (~~~4) []) [A,St s4 fl,.dat (.int (pW q j)),.no,‹j›,‹q›]=!(.nx,[A,St s4 fl,.dat (.int (pW q j)),.no,‹j›,‹q›]):=by
  by_cases h1:(j:Int)<4
  .
   by_cases h2:(q:Int)<4
   .
    have d35:=F.a35 j q ⋯ ⋯;have cm:jH .NotEq (.int (pW q j)) (.int (pW q j))=!false:=by simp[jH,oA,cI,jd,dep]
    generalize pW (q:Int) j=V at d35 cm ⊢
    simp! [U,h1,h2,c35,aZ (fx:=KC) rfl,d35,cm]
   . simp! [U,h1,h2]
  . simp! [U,h1]
 have d19:=q19 U (n:=n+34) (k:=k) F.pr hj hq (λt ht=>(F.kd j hj t ht).1) fw (F.a7 j hj)
 have sm:=λv n k=>Qc U (k:=k) (n:=n) (i:=32) v
 have e6:aK (rn (n+129)) [] (k+13) (.ite (.not (.peek (.call 32 [(.call 19 [⇑4,⇑5]),⇑2]))) (~~~4) []) [A,St s4 fl,.dat (.int (pW q j)),.no,‹j›,‹q›]=!(.nx,[A,St s4 fl,.dat (.int (pW q j)),.no,‹j›,‹q›]):=by
  generalize pW (q:Int) j=V at d19 ⊢
  have hz:List.map kP [A,St s4 fl,‹V›,.no,‹j›,‹q›]=[kP A,kP (St s4 fl),‹V›,.no,‹j›,‹q›]:=rfl;simp! [U,hz,c19,aZ (fx:=JV) rfl,d19,c32,aZ (fx:=Ai 32) rfl,sm,flat]
 generalize pW (q:Int) j=V at *;obtain⟨r5,s5,l9,l10,t5⟩:=fL U (n:=n+107) (k:=k+12) (g:=[A,St s4 fl,‹V›,.no,‹j›,‹q›]) (i:=1) (s:=s4) (fl:=fl) (m:=8) rfl ⋯;have t5':dD (rn (n+127)) bR (k+12) [.var 1,‹8›] [A,St s4 fl,‹V›,.no,‹j›,‹q›]=!(‹r5›,[A,St s5 fl,‹V›,.no,‹j›,‹q›]):=t5;obtain⟨b,hb,eb⟩:=tZ (l:=JK) (r:=r5) #[l9,l10];have ib:=Qt hb;unfold JK at eb;have e7:aK (rn (n+129)) [] (k+13) (.set 3 (.ix (.lst [↥0,↥10,(.neg ↥1),(.val (.bl true)),(.val .non),(.val (.str (PySem.Str.ofString "2"))),(.tup [↥2]),(.bin .Pow ↥10 ↥29)]) (.call 31 [⇑1,↥8]))) [A,St s4 fl,‹V›,.no,‹j›,‹q›]=!(.nx,[A,St s5 fl,‹V›,.dat b,‹j›,‹q›]):=by have pw:zW .Pow (.int 10) (.int 29)=!(.dat (.int (10 ^ 29))):=rfl;simp! [U,c31,t5',pw,aF 8 ⋯,aF 1 ⋯,eb]
 have ll:(rn (n+128)).e [] (k+13) (.lst [↥1]) [A,St s5 fl,‹V›,.dat b,‹j›,‹q›]=!(.new [.int 1],[A,St s5 fl,‹V›,.dat b,‹j›,‹q›]):=by simp! [U,aF 1 ⋯]
 have cm:jH .NotEq (.lst [.int 1]) (.lst [.int 1])=!false:=Jx [1] [1];have cm2:jH .Eq (.lst [.int 1]) (.lst [.int 1])=!true:=by simp[jH,oA,cI,dg,jd,eE,dep,deps]
 have f1:=rfd U (n:=n) (k:=k) F.a0 (a:=3) (b:=3) (da:=b) (db:=b) (St s5 fl) ‹V› A (.dat b) ‹j› ‹q› rfl rfl (Rt U (n:=n+86) (k:=k+6) b b ib);have f2:=rfd U (n:=n) (k:=k) F.a0 (a:=4) (b:=3) (da:=.int j) (db:=b) (St s5 fl) ‹V› A (.dat b) ‹j› ‹q› rfl rfl (x19_s U (n:=n+86) (k:=k+6) j hj b ib);have f3:=rfd U (n:=n) (k:=k) F.a0 (a:=3) (b:=5) (da:=b) (db:=.int q) (St s5 fl) ‹V› A (.dat b) ‹j› ‹q› rfl rfl (Rt U (n:=n+86) (k:=k+6) b (.int q) ib);generalize hG:[A,St s5 fl,‹V›,.dat b,‹j›,‹q›]=G5 at e7 ll f1 f2 f3;have e8:aK (rn (n+129)) [] (k+13) (.ite (.cmp .NotEq (.oz 33 1 oE (.call 19 [⇑3,⇑3])) (.lst [↥1])) (~~~4) []) G5=!(.nx,G5):=by simp only[aK,U.t,stepT,argsR,f1,ll,norm,pk,cm,U.b,eZ]
 have e9:aK (rn (n+129)) [] (k+13) (.ite (.cmp .NotEq (.oz 33 1 oE (.call 19 [⇑4,⇑3])) (.lst [↥1])) (~~~4) []) G5=!(.nx,G5):=by simp only[aK,U.t,stepT,argsR,f2,ll,norm,pk,cm,U.b,eZ]
 have e10:aK (rn (n+129)) [] (k+13) (.ret (.cmp .Eq (.oz 33 1 oE (.call 19 [⇑3,⇑5])) (.lst [↥1]))) G5=!(.rt (.dat (.bl true)),G5):=by simp only[aK];rw[U.e];simp only[aP,argsR,f3,ll,norm,pk,cm2]
 refine#[G5,?_];unfold Ym;dsimp only;rw[U.b,aV e1,aV e2,aV e3,aV e4,aV e5,aV e6,aV e7,aV e8,aV e9];unfold eZ;rw[e10]
end
end cE
namespace cE
open Ev
def ckP(ps: ~~~5)(r:Option R):Bool:=match r with |!(.new l)=>(match fP l with |some ts=>decide (ts=ps) |none=>false) |_=>false
theorem JX{ps: ~~~5}{r:Option R}(h:ckP ps r=true):r=!(.new (ps.map ∅)):=by
 unfold ckP at h;split at h
 .
  split at h
  . rename_i l ts e;rw[wI e,i4 h]
  . symm
 . symm
noncomputable def Ru(v:Int)(r:Option R):Bool:=match r with |!‹w›=>decide (w=v) |_=>false
theorem JZ{v:Int}{r:Option R}(h:Ru v r=true):r=!‹v›:=by
 unfold Ru at h;split at h
 . rw[i4 h]
 . symm
theorem Qu{j:Nat}(h:1<=j/\j<=9):j∈[1,2,3,4,5,6,7,8,9]:=by simp only[dL,kA,AA];lia
theorem a20:([1,2,3,4,5,6,7,8,9].all λj:Nat=>ckP (kinds j) (bz (run fns (0+126)) (0+11) Yj [.int j,.int j]))=true:=by decide +kernel
theorem a7:([1,2,3,4,5,6,7,8,9].all λj:Nat=>ckP (kinds j) (bz (run fns (0+122)) (0+11) x7 [.int j]))=true:=by decide +kernel
theorem few:([1,2,3,4,5,6,7,8,9].all λj:Nat=>decide ((kinds j).length<=30)&&decide (Qs j (kinds j) 0=pC j))=true:=by decide +kernel
noncomputable def prB(m:Nat)(x: ~~~0):Bool:=match x with | [a,b]=>decide (0<=a/\a<m/\0<=b/\b<m) |_=>false
theorem Xm:([1,2,3,4,5,6,7,8,9].all λj=>(prs j).all (prB j)&&decide ((prs j).Nodup)&&decide ((prs j).length<=36))=true:=by decide +kernel
theorem pr_ok(j:Nat)(h:1<=j/\j<=9):(∀p∈prs j,∃a b:Int,p=[a,b]/\0<=a/\a<j/\0<=b/\b<j)/\(prs j).Nodup/\(prs j).length<=36:=by
 have:=eC.mp Xm j (Qu h);simp only[dA,eQ,eC]at this;refine#[λp hp=>?_,this.1.2,this.2]
 have q:=this.1.1 p hp;unfold prB at q;split at q
 . rename_i a b;have q:=i4 q;exact#[a,b,rfl,q.1,q.2.1,q.2.2.1,q.2.2.2]
 . cases q
theorem Av{α:Type}{p:α->Bool}(l:List α)(n:Nat)(h1:(l.take n).all p=true)(h2:(l.drop n).all p=true):l.all p=true:=by rw[<- wE n l,List.all_append,h1,h2];rfl
theorem lots{p:Nat->~~~0->Bool}(h1:([1,2,3,4,5,6].all λj=>(kinds j).all (p j))=true)(h7:(kinds 7).all (p 7)=true)(h8:((kinds 8).take 11).all (p 8)=true)(h8':((kinds 8).drop 11).all (p 8)=true)(h9:((kinds 9).take 15).all (p 9)=true)(h9':((kinds 9).drop 15).all (p 9)=true)(j:Nat)(h:1<=j/\j<=9)(t: ~~~0)(ht:t∈kinds j):p j t=true:=by
 by_cases h7':j=7
 . subst h7';exact eC.mp h7 t ht
 by_cases e8:j=8
 . subst e8;exact eC.mp (Av _ 11 h8 h8') t ht
 by_cases e9:j=9
 . subst e9;exact eC.mp (Av _ 15 h9 h9') t ht
 exact eC.mp (eC.mp h1 j (by simp only[dL,kA,AA];lia)) t ht
theorem kd1:([1,2,3,4,5,6].all λj=>(kinds j).all (Qo j))=true:=by decide +kernel
theorem kd7:(kinds 7).all (Qo 7)=true:=by decide +kernel
theorem kd8a:((kinds 8).take 11).all (Qo 8)=true:=by decide +kernel
theorem kd8b:((kinds 8).drop 11).all (Qo 8)=true:=by decide +kernel
theorem kd9a:((kinds 9).take 15).all (Qo 9)=true:=by decide +kernel
theorem kd9b:((kinds 9).drop 15).all (Qo 9)=true:=by decide +kernel
def Qv(j:Nat)(t: ~~~0):Bool:=Ru (cnt j t) (bz (run fns (0+125)) (0+11) x21 [~~~t])&&(match bz (run fns (0+124)) (0+11) x23 [~~~t]with
 |!(.dat u)=>(match bz (run fns (0+125)) (0+11) x22 [u]with |!(.new l)=>decide (l.length=(bS t).length/\l.length<=36) |_=>false)
 |_=>false)
theorem Xn{j:Nat}{t: ~~~0}(h:Qv j t=true):Lk (run fns) 0 0 j t:=by
 unfold Qv at h;rw[dA]at h;obtain⟨h1,h2⟩:=h;refine#[JZ h1,?_];split at h2
 .
  rename_i u e1;split at h2
  . rename_i l e2;have h3:=i4 h2;exact#[u,l,e1,e2,h3.1,h3.2]
  . cases h2
 . cases h2
theorem lk1:([1,2,3,4,5,6].all λj=>(kinds j).all (Qv j))=true:=by decide +kernel
theorem lk7:(kinds 7).all (Qv 7)=true:=by decide +kernel
theorem lk8a:((kinds 8).take 11).all (Qv 8)=true:=by decide +kernel
theorem lk8b:((kinds 8).drop 11).all (Qv 8)=true:=by decide +kernel
theorem lk9a:((kinds 9).take 15).all (Qv 9)=true:=by decide +kernel
theorem lk9b:((kinds 9).drop 15).all (Qv 9)=true:=by decide +kernel
def rfB(rn:Rn)(k:Nat)(C:Nat)(c:Int):Bool:=match rn.b [] k (Yk.body.drop 2) ((List.replicate Yk.n .no).set 1 (.dat (.lG C)))with
 |!(.rt r,g3)=>(match dj [] g3 r with |!(.new [.int c'])=>decide (c'=c) |_=>false)
 |_=>false
theorem Xo(h:rfB rn k C c=true):Xl rn k C c:=by
 unfold rfB at h;split at h
 .
  rename_i r g3 e;split at h
  . rename_i c' e2;rw[i4 h]at e2;exact#[r,g3,e,e2]
  . symm
 . symm
theorem g12:([1,2].all λj:Nat=>[1,2,3].all λs:Nat=>Ru (pW s j) (bz (run fns (0+126)) (0+12) KC [.int j,.int s]))=true:=by decide +kernel
theorem g3a:([3].all λj:Nat=>[1,2].all λs:Nat=>Ru (pW s j) (bz (run fns (0+126)) (0+12) KC [.int j,.int s]))=true:=by decide +kernel
theorem g3b:([3].all λj:Nat=>[3].all λs:Nat=>Ru (pW s j) (bz (run fns (0+126)) (0+12) KC [.int j,.int s]))=true:=by decide +kernel
theorem gone(j s:Nat)(h:1<=j/\j<=3)(h2:1<=s/\s<=3):bz (run fns (0+126)) (0+12) KC [.int j,.int s]=!(.dat (.int (pW s j))):=by
 refine JZ ?_;have at1:∀{js ss:List Nat},(js.all λj:Nat=>ss.all λs:Nat=>Ru (pW s j) (bz (run fns (0+126)) (0+12) KC [.int j,.int s]))=true->j∈js->s∈ss->Ru (pW s j) (bz (run fns (0+126)) (0+12) KC [.int j,.int s])=true:=λq a b=>eC.mp (eC.mp q j a) s b
 by_cases e:j=3
 .
  by_cases e2:s=3
  . exact at1 g3b (mP.mpr e) (mP.mpr e2)
  . exact at1 g3a (mP.mpr e) (by simp only[dL,kA,AA];lia)
 . exact at1 g12 (by simp only[dL,kA,AA];lia) (by simp only[dL,kA,AA];lia)
theorem Xp:Fk (run fns) 0 0 where
 kd:=λj h t ht=>#[Kd.of h ht (lots (p:=Qo) kd1 kd7 kd8a kd8b kd9a kd9b j h t ht),Xn (lots (p:=Qv) lk1 lk7 lk8a lk8b lk9a lk9b j h t ht)]
 few:=λj h=>by
  have:=eC.mp few j (Qu h);simp only[dA,eQ]at this;exact this
 pr:=pr_ok
 a20:=λj h=>JX (eC.mp a20 j (Qu h))
 a7:=λj h=>JX (eC.mp a7 j (Qu h))
 a35:=gone
 a0:=Xo (by decide +kernel)
def kk:Nat:=13
def fuel:Nat:=130
theorem hev(ns: ~~~0)(hl:ns.length<=63):∃g',(run fns fuel).b [] kk Ym.body (dU 6 [.dat (.fix (ns.map .int))])=!(.rt (.dat (.bl true)),g'):=whole (P9 fns) Xp ns hl
end cE
namespace Ev
open L2
def strV:Value->Bool
 |.str _ _=>true
 |_=>false
def Qw:Value->Bool
 |.int _ _=>true
 |_=>false
def Rv:Value->Bool
 |.bool _=>true
 |_=>false
noncomputable def J0(n:String):Value->Bool
 |.type m=>decide (m=n)
 |_=>false
noncomputable def Qx(q:Addr):Option Value->Bool
 |!(.ref p)=>decide (p=q)
 |_=>false
theorem mF(h:J0 n v=true):v=.type n:=by
 unfold J0 at h;split at h
 . rw[i4 h]
 . symm
theorem Aw(h:Qx q v=true):v=!(.ref q):=by
 unfold Qx at h;split at h
 . rw[i4 h]
 . symm
def codeOk(K:Frag)(c q:Addr):Bool:=match K.lookup c with
 |some o=>(match o.data with
  |.fields vs=>J0 "code" o.cls&&Qx q vs[11]?&&strV (vs.getD 18 .none)&&Qw (vs.getD 7 .none)&&Rv (vs.getD 9 .none)&&Qw (vs.getD 10 .none)&&decide (c≠q)
  |_=>false)
 |none=>false
theorem rO{K:Frag}{h:Heap}{c q:Addr}(X:K.In h)(e:codeOk K c q=true):PySem.W.CodeHd h c q/\∃o vs,h.get? c=!o/\o.cls=.type "code" /\o.data=.fields vs/\vs[11]?=!(.ref q):=by
 unfold codeOk at e;split at e
 .
  rename_i o ho;split at e
  .
   rename_i vs hv;simp only[dA,eQ]at e;obtain⟨⟨⟨⟨⟨⟨e1,e2⟩,e3⟩,e4⟩,e5⟩,e6⟩,e7⟩:=e;have r:=Aw e2;have d:vs.getD 11 .none=.ref q:=by rw[An,r];rfl
   unfold strV at e3;split at e3
   .
    rename_i file tf h3;unfold Qw at e4;split at e4
    .
     rename_i fl tg h4;unfold Rv at e5;split at e5
     .
      rename_i b h5;unfold Qw at e6;split at e6
      . rename_i tx tt h6;exact#[#[o,vs,file,tf,fl,tg,b,tx,tt,X _ _ ho,mF e1,hv,r,d,h3,h4,h5,h6,e7],o,vs,X _ _ ho,mF e1,hv,r]
      . cases e6
     . cases e5
    . cases e4
   . cases e3
  . cases e
 . cases e
noncomputable def J1(K:Frag)(n:Str)(c:Addr):Bool:=K.all λp=>decide (p.1=c)||(not (PySem.W.codeIn [p] (.ref p.1) n))
theorem lookup_mem{β:Type}:∀{l:List (Addr×β)}{a:Addr}{b:β},l.lookup a=!b->(a,b)∈l
 | [],_,_,h=>by symm
 | (x,y)::l,a,b,h=>by
  rw[o6]at h;by_cases e:a=x
  . subst e;simp at h;subst h;exact b0
  .
   have:(a==x)=false:=by simpa using e
   rw[this]at h;exact bP _ (lookup_mem h)
noncomputable def Xq(K:Frag)(bm q:Addr):Bool:=match K.lookup bm with
 |!#[c,!d,.plain,_]=>J0 "module" c&&decide (d=builtinsNs)&&decide (bm≠builtinsNs)&&decide (bm≠mainGlobals)&&decide (bm≠q)
 |_=>false
theorem Xr{K:Frag}{mg:Str->Option Value}{h:Heap}{n:Str}{c q bm:Addr}(X:K.In h)(G:h.Ns mainGlobals mg)(e1:J1 K n c=true)(e2:codeOk K c q=true)(e3:(q,pI n)∈bW K)(e7:((bW K).all λp=>decide (p.1=q->p.2=pI n))=true)(e4:PySem.W.nsIn K mainGlobals "__builtins__"=!(!(.ref bm)))(e5:Xq K bm q=true)(e6:mainGlobals≠q) :
  ∀bx,PySem.W.codeIn K bx n=true->Iu K mg n bx:=λbx hc=>by
 cases bx with
 |ref c'=>
  cases hl:K.lookup c' with
  |none=>unfold PySem.W.codeIn at hc;simp only[hl]at hc;cases hc
  |some o=>
   have hm:=lookup_mem hl;have e0:PySem.W.codeIn [(c',o)] (.ref c') n=PySem.W.codeIn K (.ref c') n:=by
    have h1:List.lookup c' [(c',o)]=!o:=by simp
    unfold PySem.W.codeIn;simp only[hl,h1]
   have ec:c'=c:=by have:=eC.mp e1 _ hm;rw[e0,hc]at this;simpa using this
   subst ec;refine#[c',q,rfl,λb hb=>(rO hb e2).1,e3,λb hb=>?_,e6,λp hp=>i4 (eC.mp e7 p hp)]
   unfold Xq at e5;split at e5
   . rename_i cc d sl hb2;simp only[dA,eQ]at e5;obtain⟨⟨⟨⟨f1,f2⟩,f3⟩,f4⟩,f5⟩:=e5;exact#[bm,_,CM X G e4,f3,f4,f5,hb _ _ hb2,mF f1,by rw[f2],rfl]
   . cases e5
 |_=>cases hc
theorem wK{K:Frag}{o:Obj}{a:Addr}{qs:List Addr}:(qs.map (λq=>(q,o))++K).lookup a=if a∈qs then some o else K.lookup a:=by
 induction qs with
 |nil=>simp
 |cons q qs ih=>
  rw[List.map_cons,List.cons_append,o6];by_cases z:a=q
  . subst z;simp
  .
   have:(a==q)=false:=by simpa using z
   rw[this];simp only[dL,z,false_or];exact ih
theorem wL{qs:List Addr}{K:Params->Frag}{w:World}{h:Heap}(e:(qs.all λq=>((K w.params).lookup q).isNone)=true)(qqq:PySem.W.InK (pX qs K) w h):(K w.params).In h:=λa o ho=>by
 refine qqq a o ?_;show List.lookup a (qs.map _++K w.params)=_;rw[wK,fN,ho];intro z;have:=eC.mp e a z;rw[ho]at this;cases this
theorem DX{cs qs:List Addr}{K:Params->Frag}{w:World}{h:Heap}(e:(qs.all λq=>((K w.params).lookup q).isNone)=true)(e2:(qs.all λq=>cs.any λc=>codeOk (K w.params) c q)=true)(qqq:PySem.W.InK (pX qs K) w h):∀p∈qs,(∃c,h.TableAt c p ([].toArray))/\(K w.params).lookup p=none:=λp hp=>by
 obtain⟨c,_,hc⟩:=List.any_eq_true.mp (eC.mp e2 p hp);refine#[#[c,(rO (wL e qqq) hc).2,qqq _ _ ?_],Option.isNone_iff_eq_none.mp (eC.mp e p hp)];show List.lookup p (qs.map _++K w.params)=_;rw[wK,hV hp]
theorem J2{l:PySem.W.OpenLaw}{n k:Nat}{q:Program}{loose:List Str}{XP:(Str->Option Value)->Heap->Prop}{YP:World->Heap->Prop}{d:DefRec}{K:Params->Frag}{CX:Bj}{sp:Frag->Sp}{x:Str}{T:List Addr}
  (hn:l.most=!n) (hn2:n<=sizeLine) (fB:d.params.defaults=[]) (hr:bH k callerA)
  (hY:∀(w:World) (h:Heap),YP w h->(K w.params).In h) (hT:∀(w:World) (h:Heap),YP w h->∀q∈T,(∃c,h.TableAt c q ([].toArray))/\(K w.params).lookup q=none)
  (F:∀(w:World) (mg:Str->Option Value) (fa:Addr) (h:Heap),(K w.params).In h->h.Ns mainGlobals mg->mg d.name=!(.ref fa)->
   ∃fd:FuncData,(∀(s:Shared) (u:Value),BindsTo s fd #[[u],[]] [(x,u)])/\
    ∀base:Heap,(K w.params).In base->base.Ns mainGlobals mg->iM l.prog w (K w.params) mg base CX k fa fd [x] (sp (K w.params)))
  (XF:∀(w:World) (H:Hp) (a:Addr) (ns: ~~~0),ns.length<=n->zF T H->cu (K w.params) H a (ns.map V.int)->sp (K w.params) [.ref a] H (λv _=>v=.bl true) λ_ _ _=>False)
  (hCX:∀(H:Hp) (s:Shared) (e:Value) (s':Shared),CX [] H s (λ_ _ _=>False) e s'->False) :
  PySem.W.WalkO q loose XP YP l.row.toRowW d [] (λf vs=>PySem.call f vs):=by
 refine Att.uL hn fB λw s₀ s₁ mg mb fa o pm cd doc a vs ns G qqq ho hd bU hmg hobj hints aH hg=>?_
 have KX:=hY w _ qqq;obtain⟨fd,hb,hF⟩:=F w mg fa _ KX G.T.g hmg;exact Cv KX (hT w _ qqq) G.T.g G.T.b G.T.builtins G.T.nolimit hg hobj hints (n0 aH hn2) hr hF hb (λH hO hS=>XF w H a ns aH hO hS) λH e s'=>hCX H s₁ e s'
noncomputable def kitF(K:Frag)(C:Addr):Bool:=["int", "bool", "str", "tuple", "list", "dict"].all λn=>decide (PySem.W.kitOne K (.ref C) (.type n)=!false)
theorem J3{K:Frag}{C:Addr}(h1:PySem.W.findIn K (.ref C) "__getattribute__"=!(!(.builtin "BaseException.__getattribute__")))(h8:PySem.W.findIn K (.ref C) "__getattr__"=!none)(h9:PySem.W.mroIn K C (.type "BaseException")=!true)(h2:PySem.W.hasDictIn K C=true)(h3:PySem.W.findIn K (.ref C) "__class__"=!(!(.builtin "object.__class__")))(h4:PySem.W.specialIn K (.builtin "object.__class__") "__get__"=!(!(.builtin "getset_descriptor.__get__")))(h5:PySem.W.takesIn K (.builtin "object.__class__")=!true)(h6:PySem.W.mroIn K C (.type "object")=!true)(h7:kitF K C=true):Fy K C:=
 #[h1,h8,h9,h2,h3,h4,h5,h6,λn hn=>i4 (eC.mp h7 n hn)]
noncomputable def upOk(K:Frag)(cv:Value)(l:List (Addr×Bool)):Bool:=decide (PySem.W.kitOne K (.type "NoneType") cv=!false)&&l.all λp=>decide (PySem.W.kitOne K (.ref p.1) cv=!p.2)
theorem All.of{α:Type}{p:α->Prop}{l:List α}(h:∀a∈l,p a):All p l:=by
 induction l with
 |nil=>exact .nil
 |cons a l ih=>exact .cons (h a b0) (ih λb hb=>h b (bP _ hb))
def noB(K:Frag)(x:Str):Bool:=match PySem.W.nsIn K mainGlobals x with
 |some none=>true
 |_=>false
theorem Xs{K:Frag}{mg:Str->Option Value}{h:Heap}{l:List Str}(X:K.In h)(G:h.Ns mainGlobals mg)(e:l.all (noB K)=true):All (λx=>mg x=none) l:=.of λx hx=>by
 have q:=eC.mp e x hx;unfold noB at q;split at q
 . rename_i e2;exact PySem.W.mg_none_of X G e2
 . cases q
def Xu(K:Frag)(bn:List Str)(x:Str)(cv:Value)(l:List (Addr×Bool)):Bool:=(not ((x==(~~~3))))&&(upOk K cv l&&(match cv with
 |.ref D=>(match PySem.W.nsIn K mainGlobals x with |some v=>Qx D v |none=>false)
 |.type n=>decide (x∈bn/\x≠ "__name__")&&(match bootBuiltins x with |some v=>J0 n v |none=>false)
 |_=>false))
theorem Qy{P:Pg}{K:Frag}{mg:Str->Option Value}{h:Heap}(Rw:List Value)(X:K.In h)(G:h.Ns mainGlobals mg)(hl:P.ups.length<=Rw.length)(e:((P.ups.zip Rw).all λp=>Xu K P.bn p.1.1 p.2 p.1.2)=true) :
  All (λp:Str×List (Addr×Bool)=>(p.1==(~~~3))=false/\∃cv,((mg p.1=!cv/\∃D,cv=.ref D)\/(p.1∈P.bn/\p.1≠ "__name__" /\bootBuiltins p.1=!cv/\∃n,cv=.type n))/\PySem.W.kitOne K (.type "NoneType") cv=!false/\∀C b,p.2.lookup C=!b->PySem.W.kitOne K (.ref C) cv=!b) P.ups:=.of λp hp=>by
 obtain⟨i,hi,rfl⟩:=C7 hp;have hz:(P.ups[i],Rw[i])∈P.ups.zip Rw:=hZ (i:=i) (List.getElem?_zip_eq_some.mpr #[nS hi,nS ⋯]);have q:=eC.mp e _ hz;dsimp only at q;generalize Rw[i]=cv at q;unfold Xu upOk at q;simp only[dA,B5,eQ]at q;obtain⟨q1,⟨q2,q3⟩,q4⟩:=q;refine#[q1,cv,?_,q2,λC b hl=>i4 (eC.mp q3 _ (lookup_mem hl))]
 cases cv with
 |ref D=>
  dsimp only at q4;split at q4
  . rename_i v e2;rw[Aw q4]at e2;exact .inl #[CM X G e2,D,rfl]
  . cases q4
 |type n=>
  simp only[dA,eQ]at q4;obtain⟨⟨r1,r2⟩,r3⟩:=q4;split at r3
  . rename_i v e2;rw[mF r3]at e2;exact .inr #[r1,r2,e2,n,rfl]
  . cases r3
 |_=>cases q4
theorem lm_mk{P:Pg}{K:Frag}{mg:Str->Option Value}(h1:All (λn=>∀bx,PySem.W.codeIn K bx n=true->Iu K mg n bx) iF)(h2:All (λp:Str×Addr=>mg p.1=!(.ref p.2)/\dH K p.2/\Fy K p.2) (P.cls.zip P.oE))(hl:P.oE.length<=P.cls.length)
  (h3:(P.kt==(~~~3))=false/\∃D,mg P.kt=!(.ref D)/\dH K D/\All (λC=>pL K C D=true) P.oE)
  (h4:All (λp:Str×List (Addr×Bool)=>(p.1==(~~~3))=false/\∃cv,((mg p.1=!cv/\∃D,cv=.ref D)\/(p.1∈P.bn/\p.1≠ "__name__" /\bootBuiltins p.1=!cv/\∃n,cv=.type n))/\PySem.W.kitOne K (.type "NoneType") cv=!false/\∀C b,p.2.lookup C=!b->PySem.W.kitOne K (.ref C) cv=!b) P.ups):WQ P K mg:=
 #[λ_ n hn=>h1.mem n hn,λi C e=>by
  have hi:=(c8.mp e).1;have hi2:i<P.cls.length:=by lia
  refine#[P.cls[i],nS hi2,?_];have:=h2.mem (P.cls[i],C) (hZ (by rw[List.getElem?_zip_eq_some];exact#[nS hi2,e]))
  exact this,λ_=>let #[a,D,b,c,d]:=h3;#[a,D,b,c,λC hC=>d.mem C hC],λx l h=>h4.mem (x,l) h]
end Ev
namespace cE
open L2 Ev
def f0:Fi:=bE (st 18)
def f1:Fi:=bE (st 19)
def f2:Fi:=bE (st 20)
def f3:Fi:=bE (st 21)
def f4:Fi:=bE (st 24)
def f5:Fi:=bE (st 25)
def f6:Fi:=bE (st 26)
def f7:Fi:=bE (st 27)
def f8:Fi:=bE (st 28)
def f9:Fi:=bE (st 29)
def f10:Fi:=bE (st 30)
def f11:Fi:=bE (st 32)
def f12:Fi:=bE (st 33)
def f13:Fi:=bE (st 34)
def f14:Fi:=bE (st 35)
def f15:Fi:=bE (st 37)
def f16:Fi:=bE (st 38)
def f17:Fi:=bE (st 39)
def f18:Fi:=bE (st 40)
def f19:Fi:=bE (st 43)
def f20:Fi:=bE (st 45)
def f21:Fi:=bE (st 46)
def f22:Fi:=bE (st 47)
def f23:Fi:=bE (st 48)
def f24:Fi:=bE (st 49)
def f25:Fi:=bE (st 50)
def f26:Fi:=bE (st 51)
def f27:Fi:=bE (st 52)
def f28:Fi:=bE (st 53)
def f29:Fi:=bE (st 54)
def f30:Fi:=bE (st 55)
def f31:Fi:=bE (st 56)
def f32:Fi:=bE (st 57)
def f33:Fi:=bE (st 58)
def f34:Fi:=bE (st 59)
def f35:Fi:=bE (st 60)
def f36:Fi:=bE (st 61)
noncomputable def ups:List (Str×List (Addr×Bool)):=[("NoWeb",[(49,false),(73,false)]),("NoNumber",[(49,true),(73,false)]),("NoTurn",[(49,false),(73,false)]),("NoKind",[(49,false),(73,true)]),("NoPlace",[(49,false),(73,false)]),("NoTie",[(49,false),(73,false)]),("NoNumbers",[(49,false),(73,false)]),("NoTree",[(49,false),(73,false)]),("NoCode",[(49,false),(73,false)]),("NoCounts",[(49,false),(73,false)]),("NoMarks",[(49,false),(73,false)]),("NoText",[(49,false),(73,false)]),("NoLine",[(49,false),(73,false)]),("NoDeed",[(49,false),(73,false)]),("TooGreat",[(49,false),(73,false)]),("ValueError",[(49,true),(73,true)])]
def P:Pg:=#[[f0,f1,f2,f3,f4,f5,f6,f7,f8,f9,f10,f11,f12,f13,f14,f15,f16,f17,f18,f19,f20,f21,f22,f23,f24,f25,f26,f27,f28,f29,f30,f31,f32,f33,f34,f35,f36],[("MOST_NAMES",.int 9),("MOST_COUNTED_SORTS",.int 9)],["ValueError", "all", "bool", "enumerate", "int", "isinstance", "len", "list", "max", "min", "range", "set", "sorted", "sum", "tuple", "zip"],["NoNumber", "NoKind"],true,[49,73], "KindError",ups]
theorem Xv:PX P P.fn fns=true:=by decide +kernel
theorem fns_eq:List.zipWith (Aa P) P.fn fns=P.fn.map (λfi=>bh fi.st):=by kernel_rfl
theorem nLaw:f36.N.length=6:=rfl
theorem hevF:∀ns:List Int,ns.length<=63->∃g',(run fns fuel).b [] kk Ym.body (dU f36.N.length [.dat (.fix (ns.map .int))])=!(.rt (.dat (.bl true)),g'):=by rw[nLaw];exact hev
theorem ud(P:Params):bW (K P)=[(nat_lit 438,pI "law")]:=by kernel_rfl
theorem J4(P:Params):([438].all λq=>((K P).lookup q).isNone)=true:=by kernel_rfl
theorem J5(P:Params):([438].all λq=>[442].any λc=>codeOk (K P) c q)=true:=by kernel_rfl
theorem J6(P:Params):codeOk (K P) (nat_lit 442) (nat_lit 438)=true:=by kernel_rfl
theorem J7(P:Params):J1 (K P) "law" (nat_lit 442)=true:=by kernel_rfl
theorem Xw(P:Params):Xq (K P) (nat_lit 4) (nat_lit 438)=true:=by kernel_rfl
theorem wM(P:Params):Fy (K P) (nat_lit 49):=J3 (by kernel_rfl) (by kernel_rfl) (by kernel_rfl) (by kernel_rfl) (by kernel_rfl) (by kernel_rfl) (by kernel_rfl) (by kernel_rfl) (by kernel_rfl)
theorem lC(P:Params):dH (K P) (nat_lit 49):=by kernel_rfl
theorem wN(P:Params):pL (K P) (nat_lit 49) (nat_lit 24)=true:=by kernel_rfl
theorem DY(P:Params):Fy (K P) (nat_lit 73):=J3 (by kernel_rfl) (by kernel_rfl) (by kernel_rfl) (by kernel_rfl) (by kernel_rfl) (by kernel_rfl) (by kernel_rfl) (by kernel_rfl) (by kernel_rfl)
theorem rP(P:Params):dH (K P) (nat_lit 73):=by kernel_rfl
theorem Ea(P:Params):pL (K P) (nat_lit 73) (nat_lit 24)=true:=by kernel_rfl
theorem uf(P:Params):dH (K P) (nat_lit 24):=by kernel_rfl
noncomputable def Rw:List Value:=[.ref 37,.ref 49,.ref 61,.ref 73,.ref 85,.ref 97,.ref 109,.ref 121,.ref 133,.ref 145,.ref 157,.ref 169,.ref 181,.ref 193,.ref 212,.type "ValueError"]
theorem Xx(Q:Params):((P.ups.zip Rw).all λp=>Xu (K Q) P.bn p.1.1 p.2 p.1.2)=true:=by kernel_rfl
theorem bn_no(Q:Params):P.bn.all (noB (K Q))=true:=by kernel_rfl
end cE
open PySem PySem.W PyProof.Rows
set_option maxHeartbeats 0 in
theorem PySem.Challenge.cw_websbykind_k88_marked_webs_counted_holds : PySem.Challenge.rw_websbykind_k88_marked_webs_counted.Holds := by
 w_on
 refine PySem.W.holds_law (by decide +kernel) λsaid=>?_
 refine PySem.W.holds_open (q:=cE.qv) (loose:=[]) (Xt:=λs=>xlAt cE.qv [] s&&recOk (OpenRow.toRowW PySem.Challenge.rw_websbykind_k88_marked_webs_counted.row).records s) (XP:=XL cE.qv []) (Yf:=λs=>cE.as2.map s.heap.get?) (Ya:=λw=>(Ev.pX [438] cE.K w.params).map λp:Nat×Obj=>!p.2) (YP:=InK (Ev.pX [438] cE.K)) (N:=8000) cE.hl (InK.of cE.Yp) InK.keeps (λs e=>xl_of s (Bool.and_eq_true_iff.mp e).1) XL.keeps (by rfl) (by rfl) (by rfl) (λs e=>recFacts_of (Bool.and_eq_true_iff.mp e).2) (by rfl) (by first |assumption |decide +kernel) (by decide +kernel) #[rfl,rfl,rfl,rfl,rfl,by decide +kernel] ?hw ?hc
 (case hw=>w_witness2)
 k_fill
 refine Ev.J2 (l:=PySem.Challenge.rw_websbykind_k88_marked_webs_counted) (n:=63) (k:=cE.kk+1) (x:= "_law_script") (CX:=L2.xF) (K:=cE.K) (T:=[438]) (sp:=λK=>Ev.QV K cE.f36.N 1 λbor g r g'=>(Ev.run cE.fns cE.fuel).b bor cE.kk cE.Ym.body g=!(.rt r,g')) rfl ⋯ rfl #[rfl,by decide,by decide] (λw h qqq=>Ev.wL (cE.J4 _) qqq) (λw h qqq=>Ev.DX (cE.J4 _) (cE.J5 _) qqq) ?F ?S ?C
 case F=>
  intro w mg fa h KX G hmg
  have mm:Ev.All (Ev.PL (L2.KOf KX) mg) cE.P.fn:=by
   repeat' (first |exact Ev.All.nil |refine Ev.All.cons ?_ ?_)
   all_goals
    dsimp only[L2.KOf]
    exact Ev.fi_mk (by assumption) (by assumption) (by k_is) (by k_is) (by k_is) (by k_is) #[rfl,rfl,rfl,by decide +kernel,by decide +kernel,by decide +kernel,by decide +kernel] (λ_ _ _ _ _ _ us hl=>by first | (obtain⟨_,e⟩:=Ev.len1 hl;subst e;rfl) | (obtain⟨_,_,e⟩:=Ev.len2 hl;subst e;rfl) | (obtain⟨_,_,_,e⟩:=Ev.len3 hl;subst e;rfl) | (obtain⟨_,_,_,_,e⟩:=Ev.len4 hl;subst e;rfl)) ⋯
  have ug:Ev.PN (L2.KOf KX) mg ("MOST_NAMES",.int 9):=by
   dsimp only[L2.KOf]
   refine' Ev.Jq KX G ?a ⋯
   (case a=>k_is)
  have gS:Ev.PN (L2.KOf KX) mg ("MOST_COUNTED_SORTS",.int 9):=by
   dsimp only[L2.KOf]
   refine' Ev.Jq KX G ?a ⋯
   (case a=>k_is)
  have o9:PySem.W.nsIn (L2.KOf KX) mainGlobals "NoNumber"=!(!(.ref 49)):=by dsimp only[L2.KOf];k_is
  have wO:PySem.W.nsIn (L2.KOf KX) mainGlobals "NoKind"=!(!(.ref 73)):=by dsimp only[L2.KOf];k_is
  have wQ:PySem.W.nsIn (L2.KOf KX) mainGlobals "KindError"=!(!(.ref 24)):=by dsimp only[L2.KOf];k_is
  have n_b:PySem.W.nsIn (L2.KOf KX) mainGlobals "__builtins__"=!(!(.ref 4)):=by dsimp only[L2.KOf];k_is
  have lm:Ev.WQ cE.P (L2.KOf KX) mg:=Ev.lm_mk (.cons (Ev.Xr (n:= "law") (q:=nat_lit 438) KX G (cE.J7 _) (cE.J6 _) (by rw[cE.ud];decide) (by rw[cE.ud];decide) n_b (cE.Xw _) ⋯) .nil) (.cons #[mg_of KX G o9,cE.lC _,cE.wM _] (.cons #[mg_of KX G wO,cE.rP _,cE.DY _] .nil)) ⋯ #[by decide,24,mg_of KX G wQ,cE.uf _,(.cons (cE.wN _) (.cons (cE.Ea _) .nil))] (Ev.Qy cE.Rw KX G ⋯ (cE.Xx _))
  have md:Ev.tH cE.P (L2.KOf KX) mg:=Ev.md_mk mm (.cons ug (.cons gS .nil)) (Ev.Xs KX G (cE.bn_no _)) (.cons (Ev.Ro KX G o9 (cE.lC _) ⋯) (.cons (Ev.Ro KX G wO (cE.rP _) ⋯) .nil)) lm
  exact Ev.Jr (Ev.WX cE.Xv cE.fns_eq) md (i:=36) (fi:=cE.f36) rfl rfl rfl (mm.mem _ (hZ (i:=36) rfl)) hmg
 case S=>exact λw H a ns hl hO hS=>Ev.WT cE.hevF (cE.K w.params) H a ns hl (by rw[cE.ud];exact hO) hS
 case C=>exact λ_ _ _ _ z=>z
